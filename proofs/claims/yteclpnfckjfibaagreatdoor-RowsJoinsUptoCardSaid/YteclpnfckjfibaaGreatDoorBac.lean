/- Texts of one kind, one behind the other: each says ahead of itself what it shows. -/
import Derived.Test.YteclpnfckjfibaaGreatDoorBab
import Derived.Test.YteclpnfckjfibaaGreatDoorBaa
import Derived.WalkMore
import Derived.Deep.LoopGhost
import Derived.OwnWalk
import Derived.Lib.ItoaMem
import Derived.BigGuardPart
/- M3 -/
namespace Go.Proofs.YteclpnfckjfibaaGreatDoor
structure zrm (N m t R:Nat) (qs:List UInt8):Prop where
 len:qs.length=t
 dig:qs.all zbj=true
 eq:valD qs*m+R=N / 10 ^ (164 - t)
 lt:R < m
theorem zrm.zero {N m:Nat} (hN:N < 10 ^ 164) (hm:0 < m):zrm N m 0 0 []:=
 ⟨rfl,rfl,by rw [Nat.sub_zero,Nat.div_eq_of_lt hN];simp [valD],hm⟩
theorem zrm.done {N m R:Nat} {qs:List UInt8} (H:zrm N m 164 R qs):qs=zf9 (N / m) 0 164:=by
 have e:=H.eq
 rw [Nat.sub_self,Nat.pow_zero,Nat.div_one] at e
 have hq:N / m=valD qs:=by
  rw [← e]
  have:=H.lt
  rw [Nat.mul_comm,Nat.mul_add_div (by omega),Nat.div_eq_of_lt this,Nat.add_zero]
 have hl:=zqa qs H.dig
 rw [H.len] at hl
 refine zf8 _ _ H.dig (zse _ _ _) (by rw [H.len,zl3]) ?_
 rw [zsf,Nat.pow_zero,Nat.div_one,hq,Nat.mod_eq_of_lt hl]
theorem zri.done {f h:Nat→Nat} {d c:Nat} (H:zri f d h c 16) (hs:wval f*10+d < BASE ^ 16):wval h=wval f*10+d:=by
 have s:=H.sum
 have hc:c=0:=by
  by_cases e:c=0
  ·exact e
  ·have:1*BASE ^ 16≤c*BASE ^ 16:=Nat.mul_le_mul_right _ (by omega)
   unfold wval at hs;omega
 subst hc
 unfold wval at *;omega
end Go.Proofs.YteclpnfckjfibaaGreatDoor

/- B3 -/
namespace Go.Proofs.YteclpnfckjfibaaGreatDoor
open Go.RowKit
theorem Only.grown {b:Nat} {w w':World} (h:Only b w w'):w.grownBy w' (some b):=
 ⟨h.os,h.tape,h.output,h.size,fun k hk e=>h.block k hk (by rintro rfl;exact e rfl)⟩
theorem ze2:(Tryz.prog.info? 5).map (fun i=>(i.zero,i.size,i.bytes))=some (some (.int .u8 0),1,1):=by kernel_rfl
theorem Lies.grown {w w':World} {g b:Nat} {c:Array Value} {n:Bool} {f:Nat→Nat} (h:Lies w g c n f) (k:w.grownBy w' (some b)) (e:g≠b):Lies w' g c n f:=
 ⟨(k.block g (zaa h.1) (by simpa using e)).trans h.1,h.2⟩
def vals (l:List UInt8):List Value:=l.map fun b=>.int .u8 (b.toNat:Int)
end Go.Proofs.YteclpnfckjfibaaGreatDoor

/- A7 -/
namespace Go.Proofs.YteclpnfckjfibaaGreatDoor
open Go.RowKit
end Go.Proofs.YteclpnfckjfibaaGreatDoor

/- D4 -/
namespace Go.Proofs.YteclpnfckjfibaaGreatDoor
end Go.Proofs.YteclpnfckjfibaaGreatDoor

/- B7 -/
namespace Go.Proofs.YteclpnfckjfibaaGreatDoor
open Go.RowKit
end Go.Proofs.YteclpnfckjfibaaGreatDoor

/- M4 -/
namespace Go.Proofs.YteclpnfckjfibaaGreatDoor
def Mid (f:Nat→Nat):Prop:=∀ j,j < 3∨11≤j→j < 16→f j=0
theorem zzj (f:Nat→Nat) (h:Mid f):vN 3 f=0:=by
 simp only [vN,h 0 (by omega) (by omega),h 1 (by omega) (by omega),h 2 (by omega) (by omega)]
 simp
theorem zzk (f:Nat→Nat) (h:Mid f):vN 11 f=wval f:=by
 have:=zw4 f (fun _=>0) 11 16 (by omega) (fun j a b=>h j (by omega) b)
 have e:∀ n,vN n (fun _=>0)=0:=by intro n;induction n with
  | zero=>rfl
  | succ n ih=>simp [vN,ih]
 rw [e,e] at this
 unfold wval;omega
structure ziw (f g p:Nat→Nat) (i:Nat):Prop where
 val:wval p*BASE ^ 6=vN i f*wval g
 words:ze4 p
 high:∀ j,i+5≤j→j < 16→p j=0
structure zuf (f g p:Nat→Nat) (i j cr:Nat):Prop where
 val:wval p*BASE ^ 6+cr*BASE ^ (i+j)=vN i f*wval g+f i*BASE ^ i*vN j g
 words:ze4 p
 high:∀ k,i+5≤k→k < 16→p k=0
 carry:cr < BASE
theorem zug:wval (fun _=>0)=0:=by
 have e:∀ n,vN n (fun _=>0)=0:=by intro n;induction n with
  | zero=>rfl
  | succ n ih=>simp [vN,ih]
 exact e 16
theorem ziw.zero {f g:Nat→Nat} (hf:Mid f):ziw f g (fun _=>0) 3:=
 ⟨by rw [zzj f hf,zug,Nat.zero_mul,Nat.zero_mul],fun _ _=>by decide,fun _ _ _=>rfl⟩
theorem ziw.inner {f g p:Nat→Nat} {i:Nat} (H:ziw f g p i) (hg:Mid g):zuf f g p i 3 0:=
 ⟨by rw [zzj g hg,H.val,Nat.zero_mul,Nat.mul_zero],H.words,H.high,by decide⟩
theorem zuf.outer {f g p:Nat→Nat} {i cr:Nat} (H:zuf f g p i 11 cr) (hg:Mid g) (hi:i < 11):ziw f g (upd p (i+5) cr) (i+1):=by
 refine ⟨?_,H.words.upd H.carry,?_⟩
 ·have hu:=zxh p (i+5) cr (by omega)
  rw [H.high (i+5) (by omega) (by omega),Nat.zero_mul,Nat.add_zero] at hu
  have hv:=H.val
  rw [zzk g hg] at hv
  have e6:BASE ^ (i+11)=BASE ^ (i+5)*BASE ^ 6:=by rw [← Nat.pow_add]
  rw [hu,Nat.add_mul,Nat.mul_assoc,← e6,hv]
  simp only [vN,Nat.add_mul]
 ·intro k hk hk2
  rw [zf7 _ _ (by omega)]
  exact H.high k (by omega) hk2
theorem ziw.done {f g p:Nat→Nat} (H:ziw f g p 11) (hf:Mid f):wval p*10 ^ 54=wval f*wval g:=by
 have:=H.val
 rw [zzk f hf,zrk] at this
 exact this
end Go.Proofs.YteclpnfckjfibaaGreatDoor

/- B8 -/
namespace Go.Proofs.YteclpnfckjfibaaGreatDoor
open Go.RowKit
theorem Lies.drewN {w:World} {g:Nat} {c:Array Value} {n:Bool} {f:Nat→Nat} (h:Lies w g c n f) (k:Nat):Lies (w.drewN k) g c n f:=h
end Go.Proofs.YteclpnfckjfibaaGreatDoor

/- B9 -/
namespace Go.Proofs.YteclpnfckjfibaaGreatDoor
open Go.RowKit
def Tab (w:World):Prop:=Lib.TabIs Tryz.prog w "internal/strconv.uint64pow10" .u64 Lib.pow10Tab
theorem zuh {P:Program} {w w':World} {name:String} {cs:Array Value} (h:w.var? P name=some cs) (k:Below w.heap.size w w'):w'.var? P name=some cs:=by
 unfold World.var? at*
 cases hg:P.globalNamed name with
 | none=>rw [hg] at h;cases h
 | some g=>
   rw [hg] at h
   simp only [Option.bind_some] at h ⊢
   have hlt:g < w.heap.size:=by
    by_cases e:g < w.heap.size
    ·exact e
    ·rw [Array.getElem?_eq_none (by omega)] at h;cases h
   rw [k.block g hlt];exact h
theorem Tab.below {w w':World} (h:Tab w) (k:Below w.heap.size w w'):Tab w':=by
 exact zuh h k
end Go.Proofs.YteclpnfckjfibaaGreatDoor

/- Q1 -/
namespace Go.Proofs.YteclpnfckjfibaaGreatDoor
open Go.RowKit
end Go.Proofs.YteclpnfckjfibaaGreatDoor

/- N0 -/
namespace Go.Proofs.YteclpnfckjfibaaGreatDoor
open Go.RowKit
theorem zn3 (b:Bool) (w:World):Calls Tryz.prog 207 #[.bool b] w fun e w'=>e=.returned (.int .i64 (if b then 1 else 0))∧w=w':=by
 cases b
 all_goals
  go_enter Tryz.func207,Tryz.ntmps207
  go_wp2_with fail
  go_ret
  exact ⟨rfl,rfl⟩
end Go.Proofs.YteclpnfckjfibaaGreatDoor

/- N1 -/
namespace Go.Proofs.YteclpnfckjfibaaGreatDoor
open Go.RowKit
def zm2 (k:Int):Nat:=
 if k=0 then 164 else if k=1 then 165 else if k=2 then 166 else if k=3 then 169 else if k=4 then 170 else if k=5 then 174 else
 if k=6 then 167 else if k=7 then 168 else if k=8 then 171 else if k=9 then 172 else if k=10 then 173 else 200
theorem za5 (k:Int) (b:Bool) (n:Int) (t x:ByteArray) (L:Value) (T:Nat) (hT:T=zm2 k) (w:World):
 Calls Tryz.prog 156 #[.agg #[.int .i64 k,.bool b,.int .i64 n,.string t,.string x,L]] w fun e w'=>e=.returned (.iface T (.agg #[]))∧Low w.heap.size w w':=by
 have h0:(w.alloc (.cells #[.int .i64 k,.bool b,.int .i64 n,.string t,.string x,L] 48)).cell? ⟨w.heap.size,0,none⟩=some (.int .i64 k):=zac (zah _ _ rfl) _ rfl
 subst hT
 by_cases h:0≤k∧k≤10
 ·obtain ⟨h1,h2⟩:=h
  obtain ⟨j,rfl⟩:∃ j:Nat,k=j:=⟨k.toNat,by omega⟩
  have hj:j≤10:=by omega
  clear h1 h2
  match j,hj,h0 with
  | 0,_,h0 | 1,_,h0 | 2,_,h0 | 3,_,h0 | 4,_,h0 | 5,_,h0 | 6,_,h0 | 7,_,h0 | 8,_,h0 | 9,_,h0 | 10,_,h0=>
    go_enter Tryz.func156,Tryz.ntmps156
    go_wp2_with fail
    go_ret
    exact ⟨rfl,low1 _ _⟩
 ·have e0:k≠0:=by omega
  have e1:k≠1:=by omega
  have e2:k≠2:=by omega
  have e3:k≠3:=by omega
  have e4:k≠4:=by omega
  have e5:k≠5:=by omega
  have e6:k≠6:=by omega
  have e7:k≠7:=by omega
  have e8:k≠8:=by omega
  have e9:k≠9:=by omega
  have e10:k≠10:=by omega
  have hv:zm2 k=200:=by simp [zm2,e0,e1,e2,e3,e4,e5,e6,e7,e8,e9,e10]
  rw [hv]
  clear h hv
  go_enter Tryz.func156,Tryz.ntmps156
  go_wp2_with fail
  go_ret
  exact ⟨rfl,low1 _ _⟩
end Go.Proofs.YteclpnfckjfibaaGreatDoor

/- N2 -/
namespace Go.Proofs.YteclpnfckjfibaaGreatDoor
open Go.RowKit
def zdb (c:UInt8):Bool:=(decide (97≤c.toNat) && decide (c.toNat≤122)) || (decide (65≤c.toNat) && decide (c.toNat≤90)) || decide (c.toNat=95)
def ze5 (c:UInt8):Bool:=decide (48≤c.toNat) && decide (c.toNat≤57)
def zga (c:UInt8):Bool:=decide (32 < c.toNat) && decide (c.toNat≠60) && decide (c.toNat≠62)
def zco (s:ByteArray):Bool:=decide (0 < s.size∧s.size≤1048576∧∀ j (h:j < s.size),zga s[j]=true)
def zd1 (j:Nat) (c:UInt8):Bool:=zdb c || (decide (j≠0) && ze5 c)
def zca (s:ByteArray):Bool:=decide (0 < s.size∧s.size≤64∧∀ j (h:j < s.size),zd1 j s[j]=true)
theorem zcr (s:ByteArray):s.toList.isEmpty=true↔s.size=0:=by
 rw [ByteArray.toList_eq,List.isEmpty_iff_length_eq_zero]
 simp
theorem ze6 {s:ByteArray} {p:Nat→UInt8→Bool} {k:Nat} (h:k < s.size) (ha:∀ j (h:j < s.size),j < k→p j s[j]=true) (hk:p k s[k]=true):∀ j (h:j < s.size),j < k+1→p j s[j]=true:=by
 intro j hj hlt
 by_cases e:j=k
 ·subst e
  exact hk
 ·exact ha j hj (by omega)
theorem zei {c:UInt8} {b:Bool} (h:b=true↔((97:Int)≤c.toNat∧(c.toNat:Int)≤122)∨((65:Int)≤c.toNat∧(c.toNat:Int)≤90)∨(c.toNat:Int)=95):b=zdb c:=by
 rw [Bool.eq_iff_iff,h]
 simp only [zdb,Bool.or_eq_true,Bool.and_eq_true,decide_eq_true_eq]
 omega
theorem zif (c:UInt8) (r:Bool) (hr:r=zdb c) (w:World):Calls Tryz.prog 193 #[.int .u8 c.toNat] w fun e w'=>e=.returned (.bool r)∧w=w':=by
 by_cases a1:(97:Int)≤c.toNat
 ·by_cases a2:(c.toNat:Int)≤122
  ·obtain rfl:r=true:=by rw [hr];exact (zei (by simp [a1,a2])).symm
   clear hr
   go_enter Tryz.func193,Tryz.ntmps193
   go_wp2_with fail
   go_ret
   exact ⟨rfl,rfl⟩
  ·obtain rfl:r=false:=by rw [hr];exact (zei (by simp;omega)).symm
   clear hr
   have a3:(65:Int)≤c.toNat:=by omega
   have a4:¬ (c.toNat:Int)≤90:=by omega
   have a5:¬ (c.toNat:Int)=95:=by omega
   go_enter Tryz.func193,Tryz.ntmps193
   go_wp2_with fail
   go_ret
   exact ⟨by simp [a5] <;> rfl,rfl⟩
 ·by_cases a3:(65:Int)≤c.toNat
  ·by_cases a4:(c.toNat:Int)≤90
   ·obtain rfl:r=true:=by rw [hr];exact (zei (by simp [a3,a4])).symm
    clear hr
    go_enter Tryz.func193,Tryz.ntmps193
    go_wp2_with fail
    go_ret
    exact ⟨rfl,rfl⟩
   ·have hv:r=((c.toNat:Int) == 95):=by rw [hr];exact (zei (by simp;omega)).symm
    clear hr
    go_enter Tryz.func193,Tryz.ntmps193
    go_wp2_with fail
    go_ret
    exact ⟨rfl,rfl⟩
  ·have a5:¬ (c.toNat:Int)=95:=by omega
   obtain rfl:r=false:=by rw [hr];exact (zei (by simp;omega)).symm
   clear hr
   go_enter Tryz.func193,Tryz.ntmps193
   go_wp2_with fail
   go_ret
   exact ⟨by simp [a5] <;> rfl,rfl⟩
theorem zn4 (c:UInt8) (r:Bool) (hr:r=ze5 c) (w:World):Calls Tryz.prog 194 #[.int .u8 c.toNat] w fun e w'=>e=.returned (.bool r)∧w=w':=by
 by_cases a1:(48:Int)≤c.toNat
 ·have hv:r=decide ((c.toNat:Int)≤57):=by rw [hr,Bool.eq_iff_iff];simp [ze5];omega
  clear hr
  go_enter Tryz.func194,Tryz.ntmps194
  go_wp2_with fail
  go_ret
  exact ⟨by rw [hv];rfl,rfl⟩
 ·have hv:r=false:=by rw [hr,Bool.eq_false_iff];simp [ze5];omega
  clear hr
  subst hv
  go_enter Tryz.func194,Tryz.ntmps194
  go_wp2_with fail
  go_ret
  exact ⟨rfl,rfl⟩
theorem zhg {s:ByteArray} {k:Nat} (h:k < s.size) (hk:zga s[k]=false):zco s=false:=by
 unfold zco
 rw [decide_eq_false_iff_not]
 rintro ⟨_,_,ha⟩
 rw [ha k h] at hk
 exact absurd hk (by simp)
set_option maxHeartbeats 800000 in
theorem zqd (s:ByteArray) (w:World) (hs:s.size≤maxLen):
 Calls Tryz.prog 158 #[.string s] w fun e w'=>e=.returned (.bool (zco s))∧w=w':=by
 unfold maxLen at hs
 by_cases h0:s.toList.isEmpty=true
 ·have hv:zco s=false:=by
   unfold zco
   rw [decide_eq_false_iff_not]
   have:=(zcr s).1 h0
   omega
  rw [hv]
  go_enter Tryz.func158,Tryz.ntmps158
  go_wp2_with fail
  go_ret
  exact ⟨rfl,rfl⟩
 ·have h0':s.toList.isEmpty=false:=by simpa using h0
  have hpos:0 < s.size:=by have:=mt (zcr s).2 h0;omega
  by_cases hbig:(1048576:Int) < s.size
  ·have hv:zco s=false:=by
    unfold zco
    rw [decide_eq_false_iff_not]
    omega
   rw [hv]
   go_enter Tryz.func158,Tryz.ntmps158
   go_wp2_with fail
   go_ret
   exact ⟨rfl,rfl⟩
  ·go_enter Tryz.func158,Tryz.ntmps158
   go_wp2_with fail
   go_loop [13] (fun i=>∃ k:Nat,k≤s.size∧i=.int .i64 k∧∀ j (h:j < s.size),j < k→zga s[j]=true) (fun i=>s.size - (intOf i).toNat)
   case atStart=>exact ⟨0,Nat.zero_le _,rfl,fun j _ h=>absurd h (by omega)⟩
   case round=>
    obtain ⟨k,hk,rfl,hall⟩:=hrel
    have HA:=Lib.hid hall
    clear hall
    by_cases hlt:k < s.size
    ·by_cases h1:(s[k].toNat:Int)≤32
     ·go_wp2_with fail
      go_ret
      exact ⟨by rw [zhg hlt (by simp [zga];omega)];rfl,rfl⟩
     ·by_cases h2:(s[k].toNat:Int)=60
      ·go_wp2_with fail
       go_ret
       exact ⟨by rw [zhg hlt (by simp [zga];omega)];rfl,rfl⟩
      ·by_cases h3:(s[k].toNat:Int)=62
       ·go_wp2_with fail
        go_ret
        exact ⟨by rw [zhg hlt (by simp [zga];omega)];rfl,rfl⟩
       ·go_wp2_with fail
        go_round
        case rel=>exact ⟨k+1,by omega,by go_num,ze6 (p:=fun _=>zga) hlt HA.out (by simp [zga];omega)⟩
        case measure=>simp [intOf];omega
    ·go_wp2_with fail
     go_ret
     have hv:zco s=true:=by
      unfold zco
      rw [decide_eq_true_eq]
      exact ⟨hpos,by omega,fun j hj=>HA.out j hj (by omega)⟩
     exact ⟨by rw [hv];rfl,rfl⟩
theorem zfw {s:ByteArray} {k:Nat} (h:k < s.size) (hk:zd1 k s[k]=false):zca s=false:=by
 unfold zca
 rw [decide_eq_false_iff_not]
 rintro ⟨_,_,ha⟩
 rw [ha k h] at hk
 exact absurd hk (by simp)
set_option maxHeartbeats 800000 in
theorem zxi (s:ByteArray) (w:World) (hs:s.size≤maxLen):
 Calls Tryz.prog 159 #[.string s] w fun e w'=>e=.returned (.bool (zca s))∧w=w':=by
 unfold maxLen at hs
 by_cases h0:s.toList.isEmpty=true
 ·have hv:zca s=false:=by
   unfold zca
   rw [decide_eq_false_iff_not]
   have:=(zcr s).1 h0
   omega
  rw [hv]
  go_enter Tryz.func159,Tryz.ntmps159
  go_wp2_with fail
  go_ret
  exact ⟨rfl,rfl⟩
 ·have h0':s.toList.isEmpty=false:=by simpa using h0
  have hpos:0 < s.size:=by have:=mt (zcr s).2 h0;omega
  by_cases hbig:(64:Int) < s.size
  ·have hv:zca s=false:=by
    unfold zca
    rw [decide_eq_false_iff_not]
    omega
   rw [hv]
   go_enter Tryz.func159,Tryz.ntmps159
   go_wp2_with fail
   go_ret
   exact ⟨rfl,rfl⟩
  ·go_enter Tryz.func159,Tryz.ntmps159
   go_wp2_with fail
   go_loop [13] (fun i=>∃ k:Nat,k≤s.size∧i=.int .i64 k∧∀ j (h:j < s.size),j < k→zd1 j s[j]=true) (fun i=>s.size - (intOf i).toNat)
   case atStart=>exact ⟨0,Nat.zero_le _,rfl,fun j _ h=>absurd h (by omega)⟩
   case round=>
    obtain ⟨k,hk,rfl,hall⟩:=hrel
    have HA:=Lib.hid hall
    clear hall
    by_cases hlt:k < s.size
    ·by_cases h1:zdb s[k]=true
     ·have H1:=Lib.hid h1
      clear h1
      go_wp2_with (go_at_call 193;(with_reducible refine (zif s[k] true H1.out.symm _).mono ?_);rintro e w' ⟨rfl,rfl⟩)
      go_round
      case rel=>exact ⟨k+1,by omega,by go_num,ze6 (p:=zd1) hlt HA.out (by simp [zd1,H1.out])⟩
      case measure=>simp [intOf];omega
     ·have H1:Hid (zdb s[k]=false):=Lib.hid (by simpa using h1)
      clear h1
      by_cases h2:k=0
      ·subst h2
       go_wp2_with (go_at_call 193;(with_reducible refine (zif s[0] false H1.out.symm _).mono ?_);rintro e w' ⟨rfl,rfl⟩)
       go_ret
       exact ⟨by rw [zfw hlt (by simp [zd1,H1.out])];rfl,rfl⟩
      ·have h2i:¬ (k:Int)=0:=by omega
       by_cases h3:ze5 s[k]=true
       ·have H3:=Lib.hid h3
        clear h3
        go_wp2_with (first
         |(go_at_call 193;(with_reducible refine (zif s[k] false H1.out.symm _).mono ?_);rintro e w' ⟨rfl,rfl⟩)
         |(go_at_call 194;(with_reducible refine (zn4 s[k] true H3.out.symm _).mono ?_);rintro e w' ⟨rfl,rfl⟩))
        go_round
        case rel=>exact ⟨k+1,by omega,by go_num,ze6 (p:=zd1) hlt HA.out (by simp [zd1,H3.out,h2])⟩
        case measure=>simp [intOf];omega
       ·have H3:Hid (ze5 s[k]=false):=Lib.hid (by simpa using h3)
        clear h3
        go_wp2_with (first
         |(go_at_call 193;(with_reducible refine (zif s[k] false H1.out.symm _).mono ?_);rintro e w' ⟨rfl,rfl⟩)
         |(go_at_call 194;(with_reducible refine (zn4 s[k] false H3.out.symm _).mono ?_);rintro e w' ⟨rfl,rfl⟩))
        go_ret
        exact ⟨by rw [zfw hlt (by simp [zd1,H1.out,H3.out])];rfl,rfl⟩
    ·go_wp2_with fail
     go_ret
     have hv:zca s=true:=by
      unfold zca
      rw [decide_eq_true_eq]
      exact ⟨hpos,by omega,fun j hj=>HA.out j hj (by omega)⟩
     exact ⟨by rw [hv];rfl,rfl⟩
end Go.Proofs.YteclpnfckjfibaaGreatDoor

/- N3 -/
namespace Go.Proofs.YteclpnfckjfibaaGreatDoor
open Go.RowKit
def zb7 (b:Bool) (n:Int) (t x:ByteArray) (len:Nat):Bool:=!b && decide (n=0) && decide (t.size=0) && decide (x.size=0) && decide (len=0)
theorem zdc (k:Int) (b:Bool) (n:Int) (t x:ByteArray) (p:Option Addr) (len cap:Nat) (w:World):
 Calls Tryz.prog 161 #[.agg #[.int .i64 k,.bool b,.int .i64 n,.string t,.string x,.slice p len cap]] w fun e w'=>e=.returned (.bool (zb7 b n t x len))∧Low w.heap.size w w':=by
 have h1:(w.alloc (.cells #[.int .i64 k,.bool b,.int .i64 n,.string t,.string x,.slice p len cap] 48)).cell? ⟨w.heap.size,1,none⟩=some (.bool b):=zac (zah _ _ rfl) _ rfl
 have h2:(w.alloc (.cells #[.int .i64 k,.bool b,.int .i64 n,.string t,.string x,.slice p len cap] 48)).cell? ⟨w.heap.size,2,none⟩=some (.int .i64 n):=zac (zah _ _ rfl) _ rfl
 have h3:(w.alloc (.cells #[.int .i64 k,.bool b,.int .i64 n,.string t,.string x,.slice p len cap] 48)).cell? ⟨w.heap.size,3,none⟩=some (.string t):=zac (zah _ _ rfl) _ rfl
 have h4:(w.alloc (.cells #[.int .i64 k,.bool b,.int .i64 n,.string t,.string x,.slice p len cap] 48)).cell? ⟨w.heap.size,4,none⟩=some (.string x):=zac (zah _ _ rfl) _ rfl
 have h5:(w.alloc (.cells #[.int .i64 k,.bool b,.int .i64 n,.string t,.string x,.slice p len cap] 48)).cell? ⟨w.heap.size,5,none⟩=some (.slice p len cap):=zac (zah _ _ rfl) _ rfl
 cases b with
 | true=>
   go_enter Tryz.func161,Tryz.ntmps161
   go_wp2_with fail
   go_ret
   exact ⟨rfl,low1 _ _⟩
 | false=>
   by_cases e2:n=0
   ·subst e2
    by_cases e3:t.toList.isEmpty=true
    ·have s3:=(zcr t).1 e3
     by_cases e4:x.toList.isEmpty=true
     ·have s4:=(zcr x).1 e4
      have hv:zb7 false 0 t x len=((len:Int) == 0):=by
       unfold zb7
       rw [s3,s4,Bool.eq_iff_iff]
       simp
      rw [hv]
      clear hv s3 s4
      go_enter Tryz.func161,Tryz.ntmps161
      go_wp2_with fail
      go_ret
      exact ⟨rfl,low1 _ _⟩
     ·have s4:¬ x.size=0:=mt (zcr x).2 e4
      have e4':x.toList.isEmpty=false:=by simpa using e4
      have hv:zb7 false 0 t x len=false:=by simp [zb7,s4]
      rw [hv]
      clear hv s3 s4 e4
      go_enter Tryz.func161,Tryz.ntmps161
      go_wp2_with fail
      go_ret
      exact ⟨rfl,low1 _ _⟩
    ·have s3:¬ t.size=0:=mt (zcr t).2 e3
     have e3':t.toList.isEmpty=false:=by simpa using e3
     have hv:zb7 false 0 t x len=false:=by simp [zb7,s3]
     rw [hv]
     clear hv s3 e3
     go_enter Tryz.func161,Tryz.ntmps161
     go_wp2_with fail
     go_ret
     exact ⟨rfl,low1 _ _⟩
   ·have hv:zb7 false n t x len=false:=by simp [zb7,e2]
    rw [hv]
    clear hv
    go_enter Tryz.func161,Tryz.ntmps161
    go_wp2_with fail
    go_ret
    exact ⟨rfl,low1 _ _⟩
end Go.Proofs.YteclpnfckjfibaaGreatDoor

/- N4 -/
namespace Go.Proofs.YteclpnfckjfibaaGreatDoor
open Go.RowKit
theorem zix:(Tryz.prog.info? 48).map (·.size)=some 6:=by kernel_rfl
def Six (w:World) (g:Nat) (k:Int) (b:Bool) (n:Int) (t x:ByteArray) (p:Option Addr) (len cap:Nat):Prop:=
 w.heap[g]?=some (.cells #[.int .i64 k,.bool b,.int .i64 n,.string t,.string x,.slice p len cap] 48)
section
variable {w w':World} {g e:Nat} {k:Int} {b:Bool} {n:Int} {t x:ByteArray} {p:Option Addr} {len cap:Nat}
theorem Six.below (h:Six w g k b n t x p len cap) (q:Below w.heap.size w w'):Six w' g k b n t x p len cap:=(q.block g (zaa h)).trans h
theorem Six.only (h:Six w g k b n t x p len cap) (q:Only e w w') (d:g≠e):Six w' g k b n t x p len cap:=(q.block g (zaa h) d).trans h
theorem Six.alloc (h:Six w g k b n t x p len cap) (o:Obj):Six (w.alloc o) g k b n t x p len cap:=zaq _ h
theorem Six.drewN (h:Six w g k b n t x p len cap) (m:Nat):Six (w.drewN m) g k b n t x p len cap:=h
theorem Six.lt (h:Six w g k b n t x p len cap):g < w.heap.size:=zaa h
theorem zak (w:World) (e:w.heap.size=g):Six (w.alloc (.cells #[.int .i64 k,.bool b,.int .i64 n,.string t,.string x,.slice p len cap] 48)) g k b n t x p len cap:=zah _ _ e
theorem Six.c0 (h:Six w g k b n t x p len cap):w.cell? ⟨g,0,none⟩=some (.int .i64 k):=zac h _ rfl
theorem Six.c1 (h:Six w g k b n t x p len cap):w.cell? ⟨g,1,none⟩=some (.bool b):=zac h _ rfl
theorem Six.c2 (h:Six w g k b n t x p len cap):w.cell? ⟨g,2,none⟩=some (.int .i64 n):=zac h _ rfl
theorem Six.c3 (h:Six w g k b n t x p len cap):w.cell? ⟨g,3,none⟩=some (.string t):=zac h _ rfl
theorem Six.c4 (h:Six w g k b n t x p len cap):w.cell? ⟨g,4,none⟩=some (.string x):=zac h _ rfl
theorem Six.c5 (h:Six w g k b n t x p len cap):w.cell? ⟨g,5,none⟩=some (.slice p len cap):=zac h _ rfl
end
section
variable {w:World} {g:Nat} {k:Int} {b:Bool} {n:Int} {t x:ByteArray} {p:Option Addr} {len cap:Nat}
theorem Six.free (h:Six w g k b n t x p len cap) (i:Nat):w.frozen? ⟨g,i,none⟩=false:=zdy h _
theorem Six.set1 (h:Six w g k b n t x p len cap) (v:Bool):Six (w.setCell ⟨g,1,none⟩ (.bool v)) g k v n t x p len cap:=zcd h 1 (.bool v)
theorem Six.set2 (h:Six w g k b n t x p len cap) (v:Int):Six (w.setCell ⟨g,2,none⟩ (.int .i64 v)) g k b v t x p len cap:=zcd h 2 (.int .i64 v)
theorem Six.set3 (h:Six w g k b n t x p len cap) (v:ByteArray):Six (w.setCell ⟨g,3,none⟩ (.string v)) g k b n v x p len cap:=zcd h 3 (.string v)
theorem Six.set4 (h:Six w g k b n t x p len cap) (v:ByteArray):Six (w.setCell ⟨g,4,none⟩ (.string v)) g k b n t v p len cap:=zcd h 4 (.string v)
theorem Six.set5 (h:Six w g k b n t x p len cap) (q:Option Addr) (l c:Nat):Six (w.setCell ⟨g,5,none⟩ (.slice q l c)) g k b n t x q l c:=zcd h 5 (.slice q l c)
end
theorem zaj {ops:Array Oper} {rest:List Oper} {o:Oper} {a:Act} {w:World} {Q:Exit→Act→World→Prop} {k:Int} {b:Bool} {n:Int} {t x:ByteArray} {p:Option Addr} {len cap:Nat} (y:Operand) (g:Nat) (hg:Six w g k b n t x p len cap)
 (hgd:o.guard=none) (ho:o.op=.load 48 y) (hx:a.eval y=.pointer (some ⟨g,0,none⟩))
 (h:wpList Tryz.prog ops Q rest (a.put o.dst (.agg #[.int .i64 k,.bool b,.int .i64 n,.string t,.string x,.slice p len cap])) w):wpList Tryz.prog ops Q (o::rest) a w:=
 wpList_load_row hgd 48 y ho g hx 48 _ (0,0) _ hg Tryz.underlying48 rfl zix h
theorem zes {ops:Array Oper} {rest:List Oper} {o:Oper} {a:Act} {w:World} {Q:Exit→Act→World→Prop} {k:Int} {b:Bool} {n:Int} {t x:ByteArray} {p:Option Addr} {len cap:Nat}
 {k':Int} {b':Bool} {n':Int} {t' x':ByteArray} {p':Option Addr} {len' cap':Nat} (y z:Operand) (g:Nat) (hg:Six w g k b n t x p len cap)
 (hgd:o.guard=none) (ho:o.op=.store 48 y z) (hx:a.eval y=.pointer (some ⟨g,0,none⟩)) (hy:a.eval z=.agg #[.int .i64 k',.bool b',.int .i64 n',.string t',.string x',.slice p' len' cap'])
 (h:∀ w',Only g w w'→Six w' g k' b' n' t' x' p' len' cap'→wpList Tryz.prog ops Q rest (a.put o.dst undef) w'):wpList Tryz.prog ops Q (o::rest) a w:=
 wpList_plain hgd fun _ hK=>by
  unfold Oper.wp execOp
  simp only [ho,hx,hy,Instr.storeAt,Instr.sureAddr,Sem.run_bind,Sem.run_pure,Result.andThen_ok,run_storeVar_row (P:=Tryz.prog) w g 48 48 _ #[.int .i64 k',.bool b',.int .i64 n',.string t',.string x',.slice p' len' cap'] hg zix rfl (by simp [Value.oneCell'])]
  exact hK _ _ (h _ (Only.setRow w _) (zdz hg))
theorem zav {ops:Array Oper} {rest:List Oper} {o:Oper} {a:Act} {w:World} {Q:Exit→Act→World→Prop} {k:Int} {b:Bool} {n:Int} {t x:ByteArray} {p:Option Addr} {len cap:Nat} (y:Operand) (g:Nat) (hg:Six w g k b n t x p len cap)
 (hw:Region.wanted o (yielded ops a.tmps)=true) (ho:o.op=.load 48 y) (hx:a.eval y=.pointer (some ⟨g,0,none⟩))
 (h:wpList Tryz.prog ops Q rest (a.put o.dst (.agg #[.int .i64 k,.bool b,.int .i64 n,.string t,.string x,.slice p len cap])) w):wpList Tryz.prog ops Q (o::rest) a w:=by
 unfold wpList
 rw [if_pos hw]
 refine .inl ?_
 unfold Oper.wp execOp
 simp only [ho,hx,Instr.loadAt,Instr.sureAddr,Sem.run_bind,Sem.run_pure,Result.andThen_ok,run_loadVar_row (P:=Tryz.prog) w g 48 48 _ (0,0) _ hg Tryz.underlying48 rfl zix]
 exact h
end Go.Proofs.YteclpnfckjfibaaGreatDoor

/- N6 -/
namespace Go.Proofs.YteclpnfckjfibaaGreatDoor
open Go.RowKit
theorem zn5 (w:World):(Instr.typeAssert (.iface 164 (.agg #[])) 20 164 true).run Tryz.prog w=.ok (.tuple #[.agg #[],.bool true]) w:=by kernel_rfl
theorem zn6 (w:World):(Instr.typeAssert (.iface 164 (.agg #[])) 20 165 true).run Tryz.prog w=.ok (.tuple #[.agg #[],.bool false]) w:=by kernel_rfl
theorem zn7 (w:World):(Instr.typeAssert (.iface 164 (.agg #[])) 20 166 true).run Tryz.prog w=.ok (.tuple #[.agg #[],.bool false]) w:=by kernel_rfl
theorem zn8 (w:World):(Instr.typeAssert (.iface 164 (.agg #[])) 20 167 true).run Tryz.prog w=.ok (.tuple #[.agg #[],.bool false]) w:=by kernel_rfl
theorem zn9 (w:World):(Instr.typeAssert (.iface 164 (.agg #[])) 20 168 true).run Tryz.prog w=.ok (.tuple #[.agg #[],.bool false]) w:=by kernel_rfl
theorem zoa (w:World):(Instr.typeAssert (.iface 164 (.agg #[])) 20 169 true).run Tryz.prog w=.ok (.tuple #[.agg #[],.bool false]) w:=by kernel_rfl
theorem zob (w:World):(Instr.typeAssert (.iface 164 (.agg #[])) 20 170 true).run Tryz.prog w=.ok (.tuple #[.agg #[],.bool false]) w:=by kernel_rfl
theorem zoc (w:World):(Instr.typeAssert (.iface 164 (.agg #[])) 20 171 true).run Tryz.prog w=.ok (.tuple #[.agg #[],.bool false]) w:=by kernel_rfl
theorem zod (w:World):(Instr.typeAssert (.iface 164 (.agg #[])) 20 172 true).run Tryz.prog w=.ok (.tuple #[.agg #[],.bool false]) w:=by kernel_rfl
theorem zoe (w:World):(Instr.typeAssert (.iface 164 (.agg #[])) 20 173 true).run Tryz.prog w=.ok (.tuple #[.agg #[],.bool false]) w:=by kernel_rfl
theorem zof (w:World):(Instr.typeAssert (.iface 164 (.agg #[])) 20 174 true).run Tryz.prog w=.ok (.tuple #[.agg #[],.bool false]) w:=by kernel_rfl
theorem ziy (w:World):(Instr.typeAssert (.iface 165 (.agg #[])) 20 164 true).run Tryz.prog w=.ok (.tuple #[.agg #[],.bool false]) w:=by kernel_rfl
theorem ziz (w:World):(Instr.typeAssert (.iface 165 (.agg #[])) 20 165 true).run Tryz.prog w=.ok (.tuple #[.agg #[],.bool true]) w:=by kernel_rfl
theorem zi0 (w:World):(Instr.typeAssert (.iface 165 (.agg #[])) 20 166 true).run Tryz.prog w=.ok (.tuple #[.agg #[],.bool false]) w:=by kernel_rfl
theorem zi1 (w:World):(Instr.typeAssert (.iface 165 (.agg #[])) 20 167 true).run Tryz.prog w=.ok (.tuple #[.agg #[],.bool false]) w:=by kernel_rfl
theorem zi2 (w:World):(Instr.typeAssert (.iface 165 (.agg #[])) 20 168 true).run Tryz.prog w=.ok (.tuple #[.agg #[],.bool false]) w:=by kernel_rfl
theorem zi3 (w:World):(Instr.typeAssert (.iface 165 (.agg #[])) 20 169 true).run Tryz.prog w=.ok (.tuple #[.agg #[],.bool false]) w:=by kernel_rfl
theorem zi4 (w:World):(Instr.typeAssert (.iface 165 (.agg #[])) 20 170 true).run Tryz.prog w=.ok (.tuple #[.agg #[],.bool false]) w:=by kernel_rfl
theorem zi5 (w:World):(Instr.typeAssert (.iface 165 (.agg #[])) 20 171 true).run Tryz.prog w=.ok (.tuple #[.agg #[],.bool false]) w:=by kernel_rfl
theorem zi6 (w:World):(Instr.typeAssert (.iface 165 (.agg #[])) 20 172 true).run Tryz.prog w=.ok (.tuple #[.agg #[],.bool false]) w:=by kernel_rfl
theorem zi7 (w:World):(Instr.typeAssert (.iface 165 (.agg #[])) 20 173 true).run Tryz.prog w=.ok (.tuple #[.agg #[],.bool false]) w:=by kernel_rfl
theorem zi8 (w:World):(Instr.typeAssert (.iface 165 (.agg #[])) 20 174 true).run Tryz.prog w=.ok (.tuple #[.agg #[],.bool false]) w:=by kernel_rfl
theorem zog (w:World):(Instr.typeAssert (.iface 166 (.agg #[])) 20 164 true).run Tryz.prog w=.ok (.tuple #[.agg #[],.bool false]) w:=by kernel_rfl
theorem zoh (w:World):(Instr.typeAssert (.iface 166 (.agg #[])) 20 165 true).run Tryz.prog w=.ok (.tuple #[.agg #[],.bool false]) w:=by kernel_rfl
theorem zoi (w:World):(Instr.typeAssert (.iface 166 (.agg #[])) 20 166 true).run Tryz.prog w=.ok (.tuple #[.agg #[],.bool true]) w:=by kernel_rfl
theorem zoj (w:World):(Instr.typeAssert (.iface 166 (.agg #[])) 20 167 true).run Tryz.prog w=.ok (.tuple #[.agg #[],.bool false]) w:=by kernel_rfl
theorem zok (w:World):(Instr.typeAssert (.iface 166 (.agg #[])) 20 168 true).run Tryz.prog w=.ok (.tuple #[.agg #[],.bool false]) w:=by kernel_rfl
theorem zol (w:World):(Instr.typeAssert (.iface 166 (.agg #[])) 20 169 true).run Tryz.prog w=.ok (.tuple #[.agg #[],.bool false]) w:=by kernel_rfl
theorem zom (w:World):(Instr.typeAssert (.iface 166 (.agg #[])) 20 170 true).run Tryz.prog w=.ok (.tuple #[.agg #[],.bool false]) w:=by kernel_rfl
theorem zon (w:World):(Instr.typeAssert (.iface 166 (.agg #[])) 20 171 true).run Tryz.prog w=.ok (.tuple #[.agg #[],.bool false]) w:=by kernel_rfl
theorem zoo (w:World):(Instr.typeAssert (.iface 166 (.agg #[])) 20 172 true).run Tryz.prog w=.ok (.tuple #[.agg #[],.bool false]) w:=by kernel_rfl
theorem zop (w:World):(Instr.typeAssert (.iface 166 (.agg #[])) 20 173 true).run Tryz.prog w=.ok (.tuple #[.agg #[],.bool false]) w:=by kernel_rfl
theorem zoq (w:World):(Instr.typeAssert (.iface 166 (.agg #[])) 20 174 true).run Tryz.prog w=.ok (.tuple #[.agg #[],.bool false]) w:=by kernel_rfl
theorem zi9 (w:World):(Instr.typeAssert (.iface 167 (.agg #[])) 20 164 true).run Tryz.prog w=.ok (.tuple #[.agg #[],.bool false]) w:=by kernel_rfl
theorem zja (w:World):(Instr.typeAssert (.iface 167 (.agg #[])) 20 165 true).run Tryz.prog w=.ok (.tuple #[.agg #[],.bool false]) w:=by kernel_rfl
theorem zjb (w:World):(Instr.typeAssert (.iface 167 (.agg #[])) 20 166 true).run Tryz.prog w=.ok (.tuple #[.agg #[],.bool false]) w:=by kernel_rfl
theorem zjc (w:World):(Instr.typeAssert (.iface 167 (.agg #[])) 20 167 true).run Tryz.prog w=.ok (.tuple #[.agg #[],.bool true]) w:=by kernel_rfl
theorem zjd (w:World):(Instr.typeAssert (.iface 167 (.agg #[])) 20 168 true).run Tryz.prog w=.ok (.tuple #[.agg #[],.bool false]) w:=by kernel_rfl
theorem zje (w:World):(Instr.typeAssert (.iface 167 (.agg #[])) 20 169 true).run Tryz.prog w=.ok (.tuple #[.agg #[],.bool false]) w:=by kernel_rfl
theorem zjf (w:World):(Instr.typeAssert (.iface 167 (.agg #[])) 20 170 true).run Tryz.prog w=.ok (.tuple #[.agg #[],.bool false]) w:=by kernel_rfl
theorem zjg (w:World):(Instr.typeAssert (.iface 167 (.agg #[])) 20 171 true).run Tryz.prog w=.ok (.tuple #[.agg #[],.bool false]) w:=by kernel_rfl
theorem zjh (w:World):(Instr.typeAssert (.iface 167 (.agg #[])) 20 172 true).run Tryz.prog w=.ok (.tuple #[.agg #[],.bool false]) w:=by kernel_rfl
theorem zji (w:World):(Instr.typeAssert (.iface 167 (.agg #[])) 20 173 true).run Tryz.prog w=.ok (.tuple #[.agg #[],.bool false]) w:=by kernel_rfl
theorem zjj (w:World):(Instr.typeAssert (.iface 167 (.agg #[])) 20 174 true).run Tryz.prog w=.ok (.tuple #[.agg #[],.bool false]) w:=by kernel_rfl
theorem zjk (w:World):(Instr.typeAssert (.iface 168 (.agg #[])) 20 164 true).run Tryz.prog w=.ok (.tuple #[.agg #[],.bool false]) w:=by kernel_rfl
theorem zjl (w:World):(Instr.typeAssert (.iface 168 (.agg #[])) 20 165 true).run Tryz.prog w=.ok (.tuple #[.agg #[],.bool false]) w:=by kernel_rfl
theorem zjm (w:World):(Instr.typeAssert (.iface 168 (.agg #[])) 20 166 true).run Tryz.prog w=.ok (.tuple #[.agg #[],.bool false]) w:=by kernel_rfl
theorem zjn (w:World):(Instr.typeAssert (.iface 168 (.agg #[])) 20 167 true).run Tryz.prog w=.ok (.tuple #[.agg #[],.bool false]) w:=by kernel_rfl
theorem zjo (w:World):(Instr.typeAssert (.iface 168 (.agg #[])) 20 168 true).run Tryz.prog w=.ok (.tuple #[.agg #[],.bool true]) w:=by kernel_rfl
theorem zjp (w:World):(Instr.typeAssert (.iface 168 (.agg #[])) 20 169 true).run Tryz.prog w=.ok (.tuple #[.agg #[],.bool false]) w:=by kernel_rfl
theorem zjq (w:World):(Instr.typeAssert (.iface 168 (.agg #[])) 20 170 true).run Tryz.prog w=.ok (.tuple #[.agg #[],.bool false]) w:=by kernel_rfl
theorem zjr (w:World):(Instr.typeAssert (.iface 168 (.agg #[])) 20 171 true).run Tryz.prog w=.ok (.tuple #[.agg #[],.bool false]) w:=by kernel_rfl
theorem zjs (w:World):(Instr.typeAssert (.iface 168 (.agg #[])) 20 172 true).run Tryz.prog w=.ok (.tuple #[.agg #[],.bool false]) w:=by kernel_rfl
theorem zjt (w:World):(Instr.typeAssert (.iface 168 (.agg #[])) 20 173 true).run Tryz.prog w=.ok (.tuple #[.agg #[],.bool false]) w:=by kernel_rfl
theorem zju (w:World):(Instr.typeAssert (.iface 168 (.agg #[])) 20 174 true).run Tryz.prog w=.ok (.tuple #[.agg #[],.bool false]) w:=by kernel_rfl
theorem zjv (w:World):(Instr.typeAssert (.iface 169 (.agg #[])) 20 164 true).run Tryz.prog w=.ok (.tuple #[.agg #[],.bool false]) w:=by kernel_rfl
theorem zjw (w:World):(Instr.typeAssert (.iface 169 (.agg #[])) 20 165 true).run Tryz.prog w=.ok (.tuple #[.agg #[],.bool false]) w:=by kernel_rfl
theorem zjx (w:World):(Instr.typeAssert (.iface 169 (.agg #[])) 20 166 true).run Tryz.prog w=.ok (.tuple #[.agg #[],.bool false]) w:=by kernel_rfl
theorem zjy (w:World):(Instr.typeAssert (.iface 169 (.agg #[])) 20 167 true).run Tryz.prog w=.ok (.tuple #[.agg #[],.bool false]) w:=by kernel_rfl
theorem zjz (w:World):(Instr.typeAssert (.iface 169 (.agg #[])) 20 168 true).run Tryz.prog w=.ok (.tuple #[.agg #[],.bool false]) w:=by kernel_rfl
theorem zj0 (w:World):(Instr.typeAssert (.iface 169 (.agg #[])) 20 169 true).run Tryz.prog w=.ok (.tuple #[.agg #[],.bool true]) w:=by kernel_rfl
theorem zj1 (w:World):(Instr.typeAssert (.iface 169 (.agg #[])) 20 170 true).run Tryz.prog w=.ok (.tuple #[.agg #[],.bool false]) w:=by kernel_rfl
theorem zj2 (w:World):(Instr.typeAssert (.iface 169 (.agg #[])) 20 171 true).run Tryz.prog w=.ok (.tuple #[.agg #[],.bool false]) w:=by kernel_rfl
theorem zj3 (w:World):(Instr.typeAssert (.iface 169 (.agg #[])) 20 172 true).run Tryz.prog w=.ok (.tuple #[.agg #[],.bool false]) w:=by kernel_rfl
theorem zj4 (w:World):(Instr.typeAssert (.iface 169 (.agg #[])) 20 173 true).run Tryz.prog w=.ok (.tuple #[.agg #[],.bool false]) w:=by kernel_rfl
theorem zj5 (w:World):(Instr.typeAssert (.iface 169 (.agg #[])) 20 174 true).run Tryz.prog w=.ok (.tuple #[.agg #[],.bool false]) w:=by kernel_rfl
theorem zj6 (w:World):(Instr.typeAssert (.iface 170 (.agg #[])) 20 164 true).run Tryz.prog w=.ok (.tuple #[.agg #[],.bool false]) w:=by kernel_rfl
theorem zj7 (w:World):(Instr.typeAssert (.iface 170 (.agg #[])) 20 165 true).run Tryz.prog w=.ok (.tuple #[.agg #[],.bool false]) w:=by kernel_rfl
theorem zj8 (w:World):(Instr.typeAssert (.iface 170 (.agg #[])) 20 166 true).run Tryz.prog w=.ok (.tuple #[.agg #[],.bool false]) w:=by kernel_rfl
theorem zj9 (w:World):(Instr.typeAssert (.iface 170 (.agg #[])) 20 167 true).run Tryz.prog w=.ok (.tuple #[.agg #[],.bool false]) w:=by kernel_rfl
theorem zka (w:World):(Instr.typeAssert (.iface 170 (.agg #[])) 20 168 true).run Tryz.prog w=.ok (.tuple #[.agg #[],.bool false]) w:=by kernel_rfl
theorem zkb (w:World):(Instr.typeAssert (.iface 170 (.agg #[])) 20 169 true).run Tryz.prog w=.ok (.tuple #[.agg #[],.bool false]) w:=by kernel_rfl
theorem zkc (w:World):(Instr.typeAssert (.iface 170 (.agg #[])) 20 170 true).run Tryz.prog w=.ok (.tuple #[.agg #[],.bool true]) w:=by kernel_rfl
theorem zkd (w:World):(Instr.typeAssert (.iface 170 (.agg #[])) 20 171 true).run Tryz.prog w=.ok (.tuple #[.agg #[],.bool false]) w:=by kernel_rfl
theorem zke (w:World):(Instr.typeAssert (.iface 170 (.agg #[])) 20 172 true).run Tryz.prog w=.ok (.tuple #[.agg #[],.bool false]) w:=by kernel_rfl
theorem zkf (w:World):(Instr.typeAssert (.iface 170 (.agg #[])) 20 173 true).run Tryz.prog w=.ok (.tuple #[.agg #[],.bool false]) w:=by kernel_rfl
theorem zkg (w:World):(Instr.typeAssert (.iface 170 (.agg #[])) 20 174 true).run Tryz.prog w=.ok (.tuple #[.agg #[],.bool false]) w:=by kernel_rfl
theorem zkh (w:World):(Instr.typeAssert (.iface 171 (.agg #[])) 20 164 true).run Tryz.prog w=.ok (.tuple #[.agg #[],.bool false]) w:=by kernel_rfl
theorem zki (w:World):(Instr.typeAssert (.iface 171 (.agg #[])) 20 165 true).run Tryz.prog w=.ok (.tuple #[.agg #[],.bool false]) w:=by kernel_rfl
theorem zkj (w:World):(Instr.typeAssert (.iface 171 (.agg #[])) 20 166 true).run Tryz.prog w=.ok (.tuple #[.agg #[],.bool false]) w:=by kernel_rfl
theorem zkk (w:World):(Instr.typeAssert (.iface 171 (.agg #[])) 20 167 true).run Tryz.prog w=.ok (.tuple #[.agg #[],.bool false]) w:=by kernel_rfl
theorem zkl (w:World):(Instr.typeAssert (.iface 171 (.agg #[])) 20 168 true).run Tryz.prog w=.ok (.tuple #[.agg #[],.bool false]) w:=by kernel_rfl
theorem zkm (w:World):(Instr.typeAssert (.iface 171 (.agg #[])) 20 169 true).run Tryz.prog w=.ok (.tuple #[.agg #[],.bool false]) w:=by kernel_rfl
theorem zkn (w:World):(Instr.typeAssert (.iface 171 (.agg #[])) 20 170 true).run Tryz.prog w=.ok (.tuple #[.agg #[],.bool false]) w:=by kernel_rfl
theorem zko (w:World):(Instr.typeAssert (.iface 171 (.agg #[])) 20 171 true).run Tryz.prog w=.ok (.tuple #[.agg #[],.bool true]) w:=by kernel_rfl
theorem zkp (w:World):(Instr.typeAssert (.iface 171 (.agg #[])) 20 172 true).run Tryz.prog w=.ok (.tuple #[.agg #[],.bool false]) w:=by kernel_rfl
theorem zkq (w:World):(Instr.typeAssert (.iface 171 (.agg #[])) 20 173 true).run Tryz.prog w=.ok (.tuple #[.agg #[],.bool false]) w:=by kernel_rfl
theorem zkr (w:World):(Instr.typeAssert (.iface 171 (.agg #[])) 20 174 true).run Tryz.prog w=.ok (.tuple #[.agg #[],.bool false]) w:=by kernel_rfl
theorem zks (w:World):(Instr.typeAssert (.iface 172 (.agg #[])) 20 164 true).run Tryz.prog w=.ok (.tuple #[.agg #[],.bool false]) w:=by kernel_rfl
theorem zkt (w:World):(Instr.typeAssert (.iface 172 (.agg #[])) 20 165 true).run Tryz.prog w=.ok (.tuple #[.agg #[],.bool false]) w:=by kernel_rfl
theorem zku (w:World):(Instr.typeAssert (.iface 172 (.agg #[])) 20 166 true).run Tryz.prog w=.ok (.tuple #[.agg #[],.bool false]) w:=by kernel_rfl
theorem zkv (w:World):(Instr.typeAssert (.iface 172 (.agg #[])) 20 167 true).run Tryz.prog w=.ok (.tuple #[.agg #[],.bool false]) w:=by kernel_rfl
theorem zkw (w:World):(Instr.typeAssert (.iface 172 (.agg #[])) 20 168 true).run Tryz.prog w=.ok (.tuple #[.agg #[],.bool false]) w:=by kernel_rfl
theorem zkx (w:World):(Instr.typeAssert (.iface 172 (.agg #[])) 20 169 true).run Tryz.prog w=.ok (.tuple #[.agg #[],.bool false]) w:=by kernel_rfl
theorem zky (w:World):(Instr.typeAssert (.iface 172 (.agg #[])) 20 170 true).run Tryz.prog w=.ok (.tuple #[.agg #[],.bool false]) w:=by kernel_rfl
theorem zkz (w:World):(Instr.typeAssert (.iface 172 (.agg #[])) 20 171 true).run Tryz.prog w=.ok (.tuple #[.agg #[],.bool false]) w:=by kernel_rfl
theorem zk0 (w:World):(Instr.typeAssert (.iface 172 (.agg #[])) 20 172 true).run Tryz.prog w=.ok (.tuple #[.agg #[],.bool true]) w:=by kernel_rfl
theorem zk1 (w:World):(Instr.typeAssert (.iface 172 (.agg #[])) 20 173 true).run Tryz.prog w=.ok (.tuple #[.agg #[],.bool false]) w:=by kernel_rfl
theorem zk2 (w:World):(Instr.typeAssert (.iface 172 (.agg #[])) 20 174 true).run Tryz.prog w=.ok (.tuple #[.agg #[],.bool false]) w:=by kernel_rfl
theorem zgb (w:World):(Instr.typeAssert (.iface 173 (.agg #[])) 20 164 true).run Tryz.prog w=.ok (.tuple #[.agg #[],.bool false]) w:=by kernel_rfl
theorem zgc (w:World):(Instr.typeAssert (.iface 173 (.agg #[])) 20 165 true).run Tryz.prog w=.ok (.tuple #[.agg #[],.bool false]) w:=by kernel_rfl
theorem zgd (w:World):(Instr.typeAssert (.iface 173 (.agg #[])) 20 166 true).run Tryz.prog w=.ok (.tuple #[.agg #[],.bool false]) w:=by kernel_rfl
theorem zge (w:World):(Instr.typeAssert (.iface 173 (.agg #[])) 20 167 true).run Tryz.prog w=.ok (.tuple #[.agg #[],.bool false]) w:=by kernel_rfl
theorem zgf (w:World):(Instr.typeAssert (.iface 173 (.agg #[])) 20 168 true).run Tryz.prog w=.ok (.tuple #[.agg #[],.bool false]) w:=by kernel_rfl
theorem zgg (w:World):(Instr.typeAssert (.iface 173 (.agg #[])) 20 169 true).run Tryz.prog w=.ok (.tuple #[.agg #[],.bool false]) w:=by kernel_rfl
theorem zgh (w:World):(Instr.typeAssert (.iface 173 (.agg #[])) 20 170 true).run Tryz.prog w=.ok (.tuple #[.agg #[],.bool false]) w:=by kernel_rfl
theorem zgi (w:World):(Instr.typeAssert (.iface 173 (.agg #[])) 20 171 true).run Tryz.prog w=.ok (.tuple #[.agg #[],.bool false]) w:=by kernel_rfl
theorem zgj (w:World):(Instr.typeAssert (.iface 173 (.agg #[])) 20 172 true).run Tryz.prog w=.ok (.tuple #[.agg #[],.bool false]) w:=by kernel_rfl
theorem zgk (w:World):(Instr.typeAssert (.iface 173 (.agg #[])) 20 173 true).run Tryz.prog w=.ok (.tuple #[.agg #[],.bool true]) w:=by kernel_rfl
theorem zgl (w:World):(Instr.typeAssert (.iface 173 (.agg #[])) 20 174 true).run Tryz.prog w=.ok (.tuple #[.agg #[],.bool false]) w:=by kernel_rfl
theorem zgm (w:World):(Instr.typeAssert (.iface 174 (.agg #[])) 20 164 true).run Tryz.prog w=.ok (.tuple #[.agg #[],.bool false]) w:=by kernel_rfl
theorem zgn (w:World):(Instr.typeAssert (.iface 174 (.agg #[])) 20 165 true).run Tryz.prog w=.ok (.tuple #[.agg #[],.bool false]) w:=by kernel_rfl
theorem zgo (w:World):(Instr.typeAssert (.iface 174 (.agg #[])) 20 166 true).run Tryz.prog w=.ok (.tuple #[.agg #[],.bool false]) w:=by kernel_rfl
theorem zgp (w:World):(Instr.typeAssert (.iface 174 (.agg #[])) 20 167 true).run Tryz.prog w=.ok (.tuple #[.agg #[],.bool false]) w:=by kernel_rfl
theorem zgq (w:World):(Instr.typeAssert (.iface 174 (.agg #[])) 20 168 true).run Tryz.prog w=.ok (.tuple #[.agg #[],.bool false]) w:=by kernel_rfl
theorem zgr (w:World):(Instr.typeAssert (.iface 174 (.agg #[])) 20 169 true).run Tryz.prog w=.ok (.tuple #[.agg #[],.bool false]) w:=by kernel_rfl
theorem zgs (w:World):(Instr.typeAssert (.iface 174 (.agg #[])) 20 170 true).run Tryz.prog w=.ok (.tuple #[.agg #[],.bool false]) w:=by kernel_rfl
theorem zgt (w:World):(Instr.typeAssert (.iface 174 (.agg #[])) 20 171 true).run Tryz.prog w=.ok (.tuple #[.agg #[],.bool false]) w:=by kernel_rfl
theorem zgu (w:World):(Instr.typeAssert (.iface 174 (.agg #[])) 20 172 true).run Tryz.prog w=.ok (.tuple #[.agg #[],.bool false]) w:=by kernel_rfl
theorem zgv (w:World):(Instr.typeAssert (.iface 174 (.agg #[])) 20 173 true).run Tryz.prog w=.ok (.tuple #[.agg #[],.bool false]) w:=by kernel_rfl
theorem zgw (w:World):(Instr.typeAssert (.iface 174 (.agg #[])) 20 174 true).run Tryz.prog w=.ok (.tuple #[.agg #[],.bool true]) w:=by kernel_rfl
theorem zor (w:World):(Instr.typeAssert (.iface 200 (.agg #[])) 20 164 true).run Tryz.prog w=.ok (.tuple #[.agg #[],.bool false]) w:=by kernel_rfl
theorem zos (w:World):(Instr.typeAssert (.iface 200 (.agg #[])) 20 165 true).run Tryz.prog w=.ok (.tuple #[.agg #[],.bool false]) w:=by kernel_rfl
theorem zot (w:World):(Instr.typeAssert (.iface 200 (.agg #[])) 20 166 true).run Tryz.prog w=.ok (.tuple #[.agg #[],.bool false]) w:=by kernel_rfl
theorem zou (w:World):(Instr.typeAssert (.iface 200 (.agg #[])) 20 167 true).run Tryz.prog w=.ok (.tuple #[.agg #[],.bool false]) w:=by kernel_rfl
theorem zov (w:World):(Instr.typeAssert (.iface 200 (.agg #[])) 20 168 true).run Tryz.prog w=.ok (.tuple #[.agg #[],.bool false]) w:=by kernel_rfl
theorem zow (w:World):(Instr.typeAssert (.iface 200 (.agg #[])) 20 169 true).run Tryz.prog w=.ok (.tuple #[.agg #[],.bool false]) w:=by kernel_rfl
theorem zox (w:World):(Instr.typeAssert (.iface 200 (.agg #[])) 20 170 true).run Tryz.prog w=.ok (.tuple #[.agg #[],.bool false]) w:=by kernel_rfl
theorem zoy (w:World):(Instr.typeAssert (.iface 200 (.agg #[])) 20 171 true).run Tryz.prog w=.ok (.tuple #[.agg #[],.bool false]) w:=by kernel_rfl
theorem zoz (w:World):(Instr.typeAssert (.iface 200 (.agg #[])) 20 172 true).run Tryz.prog w=.ok (.tuple #[.agg #[],.bool false]) w:=by kernel_rfl
theorem zo0 (w:World):(Instr.typeAssert (.iface 200 (.agg #[])) 20 173 true).run Tryz.prog w=.ok (.tuple #[.agg #[],.bool false]) w:=by kernel_rfl
theorem zo1 (w:World):(Instr.typeAssert (.iface 200 (.agg #[])) 20 174 true).run Tryz.prog w=.ok (.tuple #[.agg #[],.bool false]) w:=by kernel_rfl
end Go.Proofs.YteclpnfckjfibaaGreatDoor
