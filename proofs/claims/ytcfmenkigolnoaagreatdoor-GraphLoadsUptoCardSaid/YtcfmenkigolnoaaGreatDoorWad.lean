/- Texts of one kind, one behind the other: each says ahead of itself what it shows. -/
import Derived.Test.YtcfmenkigolnoaaGreatDoorWac
import Derived.Laws.StructEq
import Derived.Test.YtcfmenkigolnoaaGreatDoorWab
/- S4 -/
namespace Go.Proofs.YtcfmenkigolnoaaGreatDoor
open Go.RowKit
def zwb:Option (Bool × List UInt8 × List UInt8)→Value
 | none=>.tuple #[.bool false,.string ⟨#[]⟩,.string ⟨#[]⟩,.bool false]
 | some (n,a,b)=>.tuple #[.bool n,.string (bs a),.string (bs b),.bool true]
theorem zr7 (l:List UInt8):(Lib.cut l [46]).1.length≤l.length∧(Lib.cut l [46]).2.1.length≤l.length:=by
 unfold Lib.cut
 split
 ·exact ⟨by simp;omega,by simp⟩
 ·exact ⟨Nat.le_refl _,by simp⟩
theorem zjk (l:List UInt8):(sgn l).2.length≤l.length:=by
 cases l with
 | nil=>simp [sgn]
 | cons c r=>
   by_cases h:c=45
   ·simp [sgn,h]
   ·by_cases h':c=43
    ·simp [sgn,h']
    ·simp [sgn,h,h']
theorem zr8 (s:ByteArray) (w:World) (hG:Gd w) (hs:s.size < 4294967281):
 Calls Tryz.prog 193 #[.string s] w fun e w'=>e=.returned (zwb (zfk s.data.toList))∧Below w.heap.size w w':=by
 obtain ⟨l,hl⟩:∃ l,l=s.data.toList:=⟨_,rfl⟩
 have hsl:l.length=s.size:=by rw [hl];simp
 have hs':s=bs l:=zdf (by rw [← hl])
 obtain ⟨r,hr⟩:∃ r,r=(sgn l).2:=⟨_,rfl⟩
 have hrl:r.length≤l.length:=by rw [hr];exact zjk l
 have hcl:=zr7 r
 obtain ⟨a,ha⟩:∃ a,a=(Lib.cut r [46]).1:=⟨_,rfl⟩
 obtain ⟨y,hy⟩:∃ y,y=(Lib.cut r [46]).2.1:=⟨_,rfl⟩
 obtain ⟨b,hb⟩:∃ b,b=(Lib.cut r [46]).2.2:=⟨_,rfl⟩
 rw [← ha,← hy] at hcl
 have hX:(bs a).size≤maxLen:=by unfold maxLen;simp [ByteArray.size];omega
 have hY:(bs y).size≤maxLen:=by unfold maxLen;simp [ByteArray.size];omega
 have HX:∀ R:ByteArray,R.data.toList=r→Hid (bs a=bs (Lib.cut R.data.toList [46]).1):=fun R h=>Lib.hid (by rw [h,ha])
 have HY:∀ R:ByteArray,R.data.toList=r→Hid (bs y=bs (Lib.cut R.data.toList [46]).2.1):=fun R h=>Lib.hid (by rw [h,hy])
 have HB:∀ R:ByteArray,R.data.toList=r→Hid (b=(Lib.cut R.data.toList [46]).2.2):=fun R h=>Lib.hid (by rw [h,hb])
 have DX:Hid (digs a=digs (bs a).data.toList):=Lib.hid rfl
 have DY:Hid (digs y=digs (bs y).data.toList):=Lib.hid rfl
 have hspec:zfk s.data.toList=if digs a && (!b || digs y) then some ((sgn l).1,a,y) else none:=by
  unfold zfk
  simp only [← hl,← hr,← ha,← hy,← hb]
 rw [hspec]
 clear hspec
 have key:∀ n:Bool,(sgn l).1=n→
  (digs a=true∧b=false→Calls Tryz.prog 193 #[.string s] w fun e w'=>e=.returned (.tuple #[.bool n,.string (bs a),.string (bs y),.bool true])∧Below w.heap.size w w')→
  (digs a=true∧b=true∧digs y=true→Calls Tryz.prog 193 #[.string s] w fun e w'=>e=.returned (.tuple #[.bool n,.string (bs a),.string (bs y),.bool true])∧Below w.heap.size w w')→
  (digs a=false→Calls Tryz.prog 193 #[.string s] w fun e w'=>e=.returned (.tuple #[.bool false,.string ⟨#[]⟩,.string ⟨#[]⟩,.bool false])∧Below w.heap.size w w')→
  (digs a=true∧b=true∧digs y=false→Calls Tryz.prog 193 #[.string s] w fun e w'=>e=.returned (.tuple #[.bool false,.string ⟨#[]⟩,.string ⟨#[]⟩,.bool false])∧Below w.heap.size w w')→
  Calls Tryz.prog 193 #[.string s] w fun e w'=>e=.returned (zwb (if digs a && (!b || digs y) then some ((sgn l).1,a,y) else none))∧Below w.heap.size w w':=by
  intro n hn kA kB kC kD
  rw [hn]
  cases h1:digs a
  ·exact kC h1
  ·cases h2:b
   ·exact kA ⟨h1,h2⟩
   ·cases h3:digs y
    ·exact kD ⟨h1,h2,h3⟩
    ·exact kB ⟨h1,h2,h3⟩
 have hex:∀ c t,l=c::t→(s.extract 1 s.size).data.toList=t:=by
  intro c t e
  rw [Lib.extract_to_end,← hl,e]
  rfl
 cases l with
 | nil=>
   have e1:(sgn [])=(false,[]):=rfl
   rw [e1] at hr
   have hrr:s.data.toList=r:=by rw [hr,← hl]
   have P1:Hid (false=Lib.hasPrefix s.data.toList (ByteArray.mk #[45]).data.toList):=Lib.hid (by rw [← hl];rfl)
   have P2:Hid (false=Lib.hasPrefix s.data.toList (ByteArray.mk #[43]).data.toList):=Lib.hid (by rw [← hl];rfl)
   refine key false rfl ?_ ?_ ?_ ?_
   ·exact zir s s _ _ _ _ _ w hG hs hX hY P1 P2 rfl (HX _ hrr) (HY _ hrr) (HB _ hrr) DX DY
   ·exact zis s s _ _ _ _ _ w hG hs hX hY P1 P2 rfl (HX _ hrr) (HY _ hrr) (HB _ hrr) DX DY
   ·exact zit s s _ _ _ _ _ w hG hs hX hY P1 P2 rfl (HX _ hrr) (HY _ hrr) (HB _ hrr) DX DY
   ·exact ziu s s _ _ _ _ _ w hG hs hX hY P1 P2 rfl (HX _ hrr) (HY _ hrr) (HB _ hrr) DX DY
 | cons c t=>
   have hsz:1≤s.size:=by rw [← hsl];simp
   by_cases h45:c=45
   ·subst h45
    have e1:sgn (45::t)=(true,t):=by simp [sgn]
    have hrr:(s.extract 1 s.size).data.toList=r:=by rw [hr,e1];exact hex _ _ rfl
    have P1:Hid (true=Lib.hasPrefix s.data.toList (ByteArray.mk #[45]).data.toList):=Lib.hid (by rw [← hl];simp [Lib.hasPrefix])
    refine key true (by rw [e1]) ?_ ?_ ?_ ?_
    ·exact zr3 s _ _ _ _ _ _ w hG hs hX hY hsz P1 rfl (HX _ hrr) (HY _ hrr) (HB _ hrr) DX DY
    ·exact zr4 s _ _ _ _ _ _ w hG hs hX hY hsz P1 rfl (HX _ hrr) (HY _ hrr) (HB _ hrr) DX DY
    ·exact zr5 s _ _ _ _ _ _ w hG hs hX hY hsz P1 rfl (HX _ hrr) (HY _ hrr) (HB _ hrr) DX DY
    ·exact zr6 s _ _ _ _ _ _ w hG hs hX hY hsz P1 rfl (HX _ hrr) (HY _ hrr) (HB _ hrr) DX DY
   ·have P1:Hid (false=Lib.hasPrefix s.data.toList (ByteArray.mk #[45]).data.toList):=Lib.hid (by rw [← hl];simp [Lib.hasPrefix,List.isPrefixOf,beq_eq_false_iff_ne.2 (fun e:(45:UInt8)=c=>h45 e.symm)])
    by_cases h43:c=43
    ·subst h43
     have e1:sgn (43::t)=(false,t):=by simp [sgn]
     have hrr:(s.extract 1 s.size).data.toList=r:=by rw [hr,e1];exact hex _ _ rfl
     have P2:Hid (true=Lib.hasPrefix s.data.toList (ByteArray.mk #[43]).data.toList):=Lib.hid (by rw [← hl];simp [Lib.hasPrefix])
     refine key false (by rw [e1]) ?_ ?_ ?_ ?_
     ·exact zpm s _ _ _ _ _ _ w hG hs hX hY hsz P1 P2 rfl (HX _ hrr) (HY _ hrr) (HB _ hrr) DX DY
     ·exact zpn s _ _ _ _ _ _ w hG hs hX hY hsz P1 P2 rfl (HX _ hrr) (HY _ hrr) (HB _ hrr) DX DY
     ·exact zpo s _ _ _ _ _ _ w hG hs hX hY hsz P1 P2 rfl (HX _ hrr) (HY _ hrr) (HB _ hrr) DX DY
     ·exact zpp s _ _ _ _ _ _ w hG hs hX hY hsz P1 P2 rfl (HX _ hrr) (HY _ hrr) (HB _ hrr) DX DY
    ·have e1:sgn (c::t)=(false,c::t):=by simp [sgn,h45,h43]
     have hrr:s.data.toList=r:=by rw [hr,e1,← hl]
     have P2:Hid (false=Lib.hasPrefix s.data.toList (ByteArray.mk #[43]).data.toList):=Lib.hid (by rw [← hl];simp [Lib.hasPrefix,List.isPrefixOf,beq_eq_false_iff_ne.2 (fun e:(43:UInt8)=c=>h43 e.symm)])
     refine key false (by rw [e1]) ?_ ?_ ?_ ?_
     ·exact zir s s _ _ _ _ _ w hG hs hX hY P1 P2 rfl (HX _ hrr) (HY _ hrr) (HB _ hrr) DX DY
     ·exact zis s s _ _ _ _ _ w hG hs hX hY P1 P2 rfl (HX _ hrr) (HY _ hrr) (HB _ hrr) DX DY
     ·exact zit s s _ _ _ _ _ w hG hs hX hY P1 P2 rfl (HX _ hrr) (HY _ hrr) (HB _ hrr) DX DY
     ·exact ziu s s _ _ _ _ _ w hG hs hX hY P1 P2 rfl (HX _ hrr) (HY _ hrr) (HB _ hrr) DX DY
def zu2:Option (Option (List UInt8))→Value
 | none=>.tuple #[.string ⟨#[]⟩,.int .i64 6]
 | some r=>said r
set_option maxHeartbeats 800000 in
theorem zu3 (s:ByteArray) (w:World) (hG:Gd w) (hs:s.size < 4294967281) (h:zfk s.data.toList=none):
 Calls Tryz.prog 187 #[.string s] w fun e w'=>e=.returned (.tuple #[.string ⟨#[]⟩,.int .i64 6])∧Below w.heap.size w w':=by
 have hc:∀ W,Gd W→Calls Tryz.prog 193 #[.string s] W fun e w'=>e=.returned (.tuple #[.bool false,.string ⟨#[]⟩,.string ⟨#[]⟩,.bool false])∧Below W.heap.size W w':=fun W hW=>by
  have:=zr8 s W hW hs
  rwa [h] at this
 have HC:=Lib.hid hc
 clear hc
 go_enter Tryz.func187,Tryz.ntmps187
 go_wp2_with (go_at_call 193;(with_reducible refine (HC.out _ hG).mono ?_);rintro e w1 ⟨rfl,hb⟩)
 go_ret2
 exact ⟨rfl,hb⟩
set_option maxHeartbeats 800000 in
theorem zu4 (s:ByteArray) (w:World) (hG:Gd w) (hs:s.size < 4294967281) (n:Bool) (a b:List UInt8) (h:zfk s.data.toList=some (n,a,b)) (hA:(bs a).size≤maxLen) (hB:(bs b).size≤maxLen) (t:ByteArray) (k:Int)
 (hv:said (wr n a b)=.tuple #[.string t,.int .i64 k]):
 Calls Tryz.prog 187 #[.string s] w fun e w'=>e=.returned (.tuple #[.string t,.int .i64 k])∧Below w.heap.size w w':=by
 obtain ⟨A,hA'⟩:∃ A,A=bs a:=⟨_,rfl⟩
 obtain ⟨B,hB'⟩:∃ B,B=bs b:=⟨_,rfl⟩
 have hc:∀ W,Gd W→Calls Tryz.prog 193 #[.string s] W fun e w'=>e=.returned (.tuple #[.bool n,.string A,.string B,.bool true])∧Below W.heap.size W w':=fun W hW=>by
  have:=zr8 s W hW hs
  rw [h] at this
  rw [hA',hB']
  exact this
 have hw:∀ W,Calls Tryz.prog 194 #[.bool n,.string A,.string B] W fun e w'=>e=.returned (.tuple #[.string t,.int .i64 k])∧W=w':=fun W=>by
  have:=writeAt n A B W (by rw [hA'];exact hA) (by rw [hB'];exact hB)
  rw [hA',hB'] at this
  rw [show said (wr n (bs a).data.toList (bs b).data.toList)=.tuple #[.string t,.int .i64 k] from hv] at this
  rw [hA',hB']
  exact this
 have HC:=Lib.hid hc
 have HW:=Lib.hid hw
 clear hc hw hv h hA' hB'
 go_enter Tryz.func187,Tryz.ntmps187
 go_wp2_with (first
  |(go_at_call 193;(with_reducible refine (HC.out _ hG).mono ?_);rintro e w1 ⟨rfl,hb⟩)
  |(go_at_call 194;(with_reducible refine (HW.out _).mono ?_);rintro e w' ⟨rfl,rfl⟩))
 go_ret2
 exact ⟨rfl,hb⟩
theorem zhl (r:Option (List UInt8)):∃ (t:ByteArray) (k:Int),said r=.tuple #[.string t,.int .i64 k]:=by
 cases r with
 | none=>exact ⟨_,_,rfl⟩
 | some t=>exact ⟨_,_,rfl⟩
theorem readAt (s:ByteArray) (w:World) (hG:Gd w) (hs:s.size < 4294967281):
 Calls Tryz.prog 187 #[.string s] w fun e w'=>e=.returned (zu2 (zjj s.data.toList))∧Below w.heap.size w w':=by
 unfold zjj
 cases h:zfk s.data.toList with
 | none=>exact zu3 s w hG hs h
 | some x=>
   obtain ⟨n,a,b⟩:=x
   have h':=h
   unfold zfk at h'
   have hl:s.data.toList.length=s.size:=by simp
   have h1:=zjk s.data.toList
   have h2:=zr7 (sgn s.data.toList).2
   simp only at h'
   split at h'
   ·simp only [Option.some.injEq,Prod.mk.injEq] at h'
    obtain ⟨_,rfl,rfl⟩:=h'
    obtain ⟨t,k,hv⟩:=zhl (wr n (Lib.cut (sgn s.data.toList).2 [46]).1 (Lib.cut (sgn s.data.toList).2 [46]).2.1)
    have:=zu4 s w hG hs _ _ _ h (by unfold maxLen;simp [ByteArray.size];omega) (by unfold maxLen;simp [ByteArray.size];omega) t k hv
    simp only [Option.map_some,zu2]
    rw [hv]
    exact this
   ·cases h'
theorem ziv (r:Option (Option (List UInt8))):∃ (t:ByteArray) (k:Int),zu2 r=.tuple #[.string t,.int .i64 k]∧(k=0↔∃ l,r=some (some l))∧∀ l,r=some (some l)→t=bs l:=by
 match r with
 | none=>exact ⟨_,_,rfl,⟨fun h=>(by cases h),fun ⟨l,h⟩=>(by cases h)⟩,fun l h=>(by cases h)⟩
 | some none=>exact ⟨_,_,rfl,⟨fun h=>(by cases h),fun ⟨l,h⟩=>(by cases h)⟩,fun l h=>(by cases h)⟩
 | some (some t)=>exact ⟨_,_,rfl,⟨fun _=>⟨t,rfl⟩,fun _=>rfl⟩,fun l h=>by cases h;rfl⟩
set_option maxHeartbeats 800000 in
theorem checkAt (s:ByteArray) (w:World) (hG:Gd w) (hs:s.size < 4294967281):
 Calls Tryz.prog 179 #[.string s] w fun e w'=>e=.returned (.bool (chk s.data.toList))∧Below w.heap.size w w':=by
 obtain ⟨t,k,hv,hk,ht⟩:=ziv (zjj s.data.toList)
 have hc:∀ W,Gd W→Calls Tryz.prog 187 #[.string s] W fun e w'=>e=.returned (.tuple #[.string t,.int .i64 k])∧Below W.heap.size W w':=fun W hW=>by
  have:=readAt s W hW hs
  rwa [hv] at this
 have HC:=Lib.hid hc
 clear hc hv
 by_cases h:chk s.data.toList=true
 ·have hr:zjj s.data.toList=some (some s.data.toList):=by simpa [chk] using h
  obtain rfl:k=0:=hk.2 ⟨_,hr⟩
  obtain rfl:t=s:=by rw [ht _ hr]
  rw [h]
  have HH:=Lib.hid h
  clear h hr hk ht
  go_enter Tryz.func179,Tryz.ntmps179
  go_wp2_with (go_at_call 187;(with_reducible refine (HC.out _ hG).mono ?_);rintro e w1 ⟨rfl,hb⟩)
  go_ret
  exact ⟨rfl,hb⟩
 ·have hf:chk s.data.toList=false:=by simpa using h
  rw [hf]
  by_cases h0:k=0
  ·subst h0
   obtain ⟨l,hl⟩:=hk.1 rfl
   have hne:¬ t=s:=by
    rw [ht _ hl]
    intro e
    apply h
    unfold chk
    rw [hl,← e]
    simp
   have e2:(t.toList == s.toList)=false:=beq_eq_false_iff_ne.2 (fun e=>hne (zdf (by rw [← ByteArray.toList_eq,← ByteArray.toList_eq];exact e)))
   clear h hf hk ht hl hne
   go_enter Tryz.func179,Tryz.ntmps179
   go_wp2_with (go_at_call 187;(with_reducible refine (HC.out _ hG).mono ?_);rintro e w1 ⟨rfl,hb⟩)
   go_ret
   exact ⟨rfl,hb⟩
  ·have e0:(k == 0)=false:=by simpa using h0
   clear h hf hk ht
   go_enter Tryz.func179,Tryz.ntmps179
   go_wp2_with (go_at_call 187;(with_reducible refine (HC.out _ hG).mono ?_);rintro e w1 ⟨rfl,hb⟩)
   go_ret
   exact ⟨rfl,hb⟩
end Go.Proofs.YtcfmenkigolnoaaGreatDoor

/- N5 -/
namespace Go.Proofs.YtcfmenkigolnoaaGreatDoor
open Go.RowKit
set_option maxRecDepth 4000 in
set_option maxHeartbeats 1600000 in
theorem mayNull (b:Bool) (n:Int) (t x:ByteArray) (p:Option Addr) (len cap:Nat) (d:Int) (w:World):
 Calls Tryz.prog 171 #[.agg #[.int .i64 0,.bool b,.int .i64 n,.string t,.string x,.slice p len cap],.int .i64 d] w fun e w'=>e=.returned (.bool (zb1 b n t x len))∧Below w.heap.size w w':=by
 have l0:Six ((w.alloc (.cells #[.int .i64 0,.bool b,.int .i64 n,.string t,.string x,.slice p len cap] 60)).alloc (.cells #[.int .i64 0,.bool b,.int .i64 n,.string t,.string x,.slice p len cap] 60)) w.heap.size 0 b n t x p len cap:=(zai w rfl).alloc _
 have l1:Six ((w.alloc (.cells #[.int .i64 0,.bool b,.int .i64 n,.string t,.string x,.slice p len cap] 60)).alloc (.cells #[.int .i64 0,.bool b,.int .i64 n,.string t,.string x,.slice p len cap] 60)) (w.heap.size+1) 0 b n t x p len cap:=zai _ (by simp)
 have b0:=zbk w (.cells #[.int .i64 0,.bool b,.int .i64 n,.string t,.string x,.slice p len cap] 60) (.cells #[.int .i64 0,.bool b,.int .i64 n,.string t,.string x,.slice p len cap] 60)
 have l00:=zai (k:=0) (b:=b) (n:=n) (t:=t) (x:=x) (p:=p) (len:=len) (cap:=cap) w rfl
 go_enter Tryz.func171,Tryz.ntmps171
 go_wp2_with (first
  |((with_reducible refine zaj (.tmp 2) w.heap.size (by assumption) ?_ ?_ ?_ ?_);rfl;rfl;rfl)
  |((with_reducible refine zao (.tmp 5) (w.heap.size+1) (by assumption) ?_ ?_ ?_ ?_);rfl;rfl;rfl)
  |(go_at_call 178;(with_reducible refine (zbl 0 b n t x _ 196 rfl _).mono ?_);rintro e w2 ⟨rfl,hb2⟩;have k2:=l0.below hb2;have m2:=l1.below hb2;have b2:=zab b0 hb2 (by have:=l0.lt;omega);have z2:w.heap.size≤w2.heap.size:=by have:=k2.lt;omega
    clear l0 l1 l00 hb2 b0
    skip)
  |(simp only [zqv,Result.andThen_ok])
  |(go_at_call 183;(with_reducible refine (zcz 0 _ _ _ _ _ _ _ _).mono ?_);rintro e w9 ⟨rfl,hb9⟩;have b9:=zab b2 hb9 z2))
 go_ret
 exact ⟨rfl,b9⟩
set_option maxRecDepth 4000 in
set_option maxHeartbeats 1600000 in
theorem zu5 (b:Bool) (n:Int) (t x:ByteArray) (p:Option Addr) (len cap:Nat) (d:Int) (w:World):
 Calls Tryz.prog 171 #[.agg #[.int .i64 1,.bool b,.int .i64 n,.string t,.string x,.slice p len cap],.int .i64 d] w fun e w'=>e=.returned (.bool (zb1 false n t x len))∧Below w.heap.size w w':=by
 have l0:Six ((w.alloc (.cells #[.int .i64 1,.bool b,.int .i64 n,.string t,.string x,.slice p len cap] 60)).alloc (.cells #[.int .i64 1,.bool b,.int .i64 n,.string t,.string x,.slice p len cap] 60)) w.heap.size 1 b n t x p len cap:=(zai w rfl).alloc _
 have l1:Six ((w.alloc (.cells #[.int .i64 1,.bool b,.int .i64 n,.string t,.string x,.slice p len cap] 60)).alloc (.cells #[.int .i64 1,.bool b,.int .i64 n,.string t,.string x,.slice p len cap] 60)) (w.heap.size+1) 1 b n t x p len cap:=zai _ (by simp)
 have b0:=zbk w (.cells #[.int .i64 1,.bool b,.int .i64 n,.string t,.string x,.slice p len cap] 60) (.cells #[.int .i64 1,.bool b,.int .i64 n,.string t,.string x,.slice p len cap] 60)
 have l00:=zai (k:=1) (b:=b) (n:=n) (t:=t) (x:=x) (p:=p) (len:=len) (cap:=cap) w rfl
 go_enter Tryz.func171,Tryz.ntmps171
 go_wp2_with (first
  |((with_reducible refine zaj (.tmp 2) w.heap.size (by assumption) ?_ ?_ ?_ ?_);rfl;rfl;rfl)
  |((with_reducible refine zao (.tmp 5) (w.heap.size+1) (by assumption) ?_ ?_ ?_ ?_);rfl;rfl;rfl)
  |(go_at_call 178;(with_reducible refine (zbl 1 b n t x _ 197 rfl _).mono ?_);rintro e w2 ⟨rfl,hb2⟩;have k2:=l0.below hb2;have m2:=l1.below hb2;have b2:=zab b0 hb2 (by have:=l0.lt;omega);have z2:w.heap.size≤w2.heap.size:=by have:=k2.lt;omega
    clear l0 l1 l00 hb2 b0
    have c1:=m2.c1;have f1:=m2.free 1;have m3:=m2.set1 false;have b3:=zam (o:=1) b2 none (.bool false) (show w.heap.size≤w.heap.size+1 by omega) z2;have z3:w.heap.size≤(w2.setCell ⟨w.heap.size+1,1,none⟩ (.bool false)).heap.size:=by simpa [World.setCell] using z2)
  |(simp only [zq6,zq7,Result.andThen_ok])
  |(go_at_call 183;(with_reducible refine (zcz 1 _ _ _ _ _ _ _ _).mono ?_);rintro e w9 ⟨rfl,hb9⟩;have b9:=zab b3 hb9 z3))
 go_ret
 exact ⟨rfl,b9⟩
set_option maxRecDepth 4000 in
set_option maxHeartbeats 1600000 in
theorem zu6 (b:Bool) (n:Int) (t x:ByteArray) (p:Option Addr) (len cap:Nat) (d:Int) (w:World):
 Calls Tryz.prog 171 #[.agg #[.int .i64 2,.bool b,.int .i64 n,.string t,.string x,.slice p len cap],.int .i64 d] w fun e w'=>e=.returned (.bool (zb1 b 0 t x len))∧Below w.heap.size w w':=by
 have l0:Six ((w.alloc (.cells #[.int .i64 2,.bool b,.int .i64 n,.string t,.string x,.slice p len cap] 60)).alloc (.cells #[.int .i64 2,.bool b,.int .i64 n,.string t,.string x,.slice p len cap] 60)) w.heap.size 2 b n t x p len cap:=(zai w rfl).alloc _
 have l1:Six ((w.alloc (.cells #[.int .i64 2,.bool b,.int .i64 n,.string t,.string x,.slice p len cap] 60)).alloc (.cells #[.int .i64 2,.bool b,.int .i64 n,.string t,.string x,.slice p len cap] 60)) (w.heap.size+1) 2 b n t x p len cap:=zai _ (by simp)
 have b0:=zbk w (.cells #[.int .i64 2,.bool b,.int .i64 n,.string t,.string x,.slice p len cap] 60) (.cells #[.int .i64 2,.bool b,.int .i64 n,.string t,.string x,.slice p len cap] 60)
 have l00:=zai (k:=2) (b:=b) (n:=n) (t:=t) (x:=x) (p:=p) (len:=len) (cap:=cap) w rfl
 go_enter Tryz.func171,Tryz.ntmps171
 go_wp2_with (first
  |((with_reducible refine zaj (.tmp 2) w.heap.size (by assumption) ?_ ?_ ?_ ?_);rfl;rfl;rfl)
  |((with_reducible refine zao (.tmp 5) (w.heap.size+1) (by assumption) ?_ ?_ ?_ ?_);rfl;rfl;rfl)
  |(go_at_call 178;(with_reducible refine (zbl 2 b n t x _ 198 rfl _).mono ?_);rintro e w2 ⟨rfl,hb2⟩;have k2:=l0.below hb2;have m2:=l1.below hb2;have b2:=zab b0 hb2 (by have:=l0.lt;omega);have z2:w.heap.size≤w2.heap.size:=by have:=k2.lt;omega
    clear l0 l1 l00 hb2 b0
    have c1:=m2.c2;have f1:=m2.free 2;have m3:=m2.set2 0;have b3:=zam (o:=2) b2 none (.int .i64 0) (show w.heap.size≤w.heap.size+1 by omega) z2;have z3:w.heap.size≤(w2.setCell ⟨w.heap.size+1,2,none⟩ (.int .i64 0)).heap.size:=by simpa [World.setCell] using z2)
  |(simp only [zrh,zri,zrj,Result.andThen_ok])
  |(go_at_call 183;(with_reducible refine (zcz 2 _ _ _ _ _ _ _ _).mono ?_);rintro e w9 ⟨rfl,hb9⟩;have b9:=zab b3 hb9 z3))
 go_ret
 exact ⟨rfl,b9⟩
theorem chkAs (s:ByteArray) (r:Bool) (h:chk s.data.toList=r) (w:World) (hG:Gd w) (hs:s.size < 4294967281):Calls Tryz.prog 179 #[.string s] w fun e w'=>e=.returned (.bool r)∧Below w.heap.size w w':=by
 subst h
 exact checkAt s w hG hs
theorem zot (s:ByteArray) (r:Bool) (h:zck s=r) (w:World) (hs:s.size≤maxLen):Calls Tryz.prog 180 #[.string s] w fun e w'=>e=.returned (.bool r)∧Below w.heap.size w w':=by
 subst h
 exact (znn s w hs).mono fun _ _ ⟨h,k⟩=>⟨h,k ▸ Below.refl _ _⟩
theorem zwc (s:ByteArray) (r:Bool) (h:zc8 s=r) (w:World) (hs:s.size≤maxLen):Calls Tryz.prog 181 #[.string s] w fun e w'=>e=.returned (.bool r)∧Below w.heap.size w w':=by
 subst h
 exact (zux s w hs).mono fun _ _ ⟨h,k⟩=>⟨h,k ▸ Below.refl _ _⟩
set_option maxRecDepth 4000 in
set_option maxHeartbeats 1600000 in
theorem zno (b:Bool) (n:Int) (t x:ByteArray) (p:Option Addr) (len cap:Nat) (d:Int) (w:World) (hG:Gd w) (hs:t.size < 4294967281) (h:chk t.data.toList=true):
 Calls Tryz.prog 171 #[.agg #[.int .i64 3,.bool b,.int .i64 n,.string t,.string x,.slice p len cap],.int .i64 d] w fun e w'=>e=.returned (.bool (zb1 b n ⟨#[]⟩ x len))∧Below w.heap.size w w':=by
 have l0:Six ((w.alloc (.cells #[.int .i64 3,.bool b,.int .i64 n,.string t,.string x,.slice p len cap] 60)).alloc (.cells #[.int .i64 3,.bool b,.int .i64 n,.string t,.string x,.slice p len cap] 60)) w.heap.size 3 b n t x p len cap:=(zai w rfl).alloc _
 have l1:Six ((w.alloc (.cells #[.int .i64 3,.bool b,.int .i64 n,.string t,.string x,.slice p len cap] 60)).alloc (.cells #[.int .i64 3,.bool b,.int .i64 n,.string t,.string x,.slice p len cap] 60)) (w.heap.size+1) 3 b n t x p len cap:=zai _ (by simp)
 have b0:=zbk w (.cells #[.int .i64 3,.bool b,.int .i64 n,.string t,.string x,.slice p len cap] 60) (.cells #[.int .i64 3,.bool b,.int .i64 n,.string t,.string x,.slice p len cap] 60)
 have l00:=zai (k:=3) (b:=b) (n:=n) (t:=t) (x:=x) (p:=p) (len:=len) (cap:=cap) w rfl
 go_enter Tryz.func171,Tryz.ntmps171
 go_wp2_with (first
  |((with_reducible refine zaj (.tmp 2) w.heap.size (by assumption) ?_ ?_ ?_ ?_);rfl;rfl;rfl)
  |((with_reducible refine zao (.tmp 5) (w.heap.size+1) (by assumption) ?_ ?_ ?_ ?_);rfl;rfl;rfl)
  |(go_at_call 178;(with_reducible refine (zbl 3 b n t x _ 201 rfl _).mono ?_);rintro e w2 ⟨rfl,hb2⟩;have k2:=l0.below hb2;have m2:=l1.below hb2;have b2:=zab b0 hb2 (by have:=l0.lt;omega);have z2:w.heap.size≤w2.heap.size:=by have:=k2.lt;omega
    clear l0 l1 l00 hb2 b0
    have c3:=k2.c3)
  |(simp only [zko,zkp,zkq,zkr,zks,zkt,Result.andThen_ok])
  |(go_at_call 179;(with_reducible refine (chkAs t _ h _ (hG.below b2) hs).mono ?_);rintro e w3 ⟨rfl,hb3⟩;have b3:=zab b2 hb3 z2;have m3:=m2.below hb3;have e3:=m3.c3;have f3:=m3.free 3;have m4:=m3.set3 ⟨#[]⟩;have z3:w.heap.size≤w3.heap.size:=(by have:=m3.lt;omega);have b4:=zam (o:=3) b3 none (.string ⟨#[]⟩) (show w.heap.size≤w.heap.size+1 by omega) z3;have z4:w.heap.size≤(w3.setCell ⟨w.heap.size+1,3,none⟩ (.string ⟨#[]⟩)).heap.size:=by simpa [World.setCell] using z3)
  |(go_at_call 183;(with_reducible refine (zcz 3 _ _ _ _ _ _ _ _).mono ?_);rintro e w9 ⟨rfl,hb9⟩;have b9:=zab b4 hb9 z4))
 go_ret
 exact ⟨rfl,b9⟩
set_option maxRecDepth 4000 in
set_option maxHeartbeats 1600000 in
theorem zpq (b:Bool) (n:Int) (t x:ByteArray) (p:Option Addr) (len cap:Nat) (d:Int) (w:World) (hG:Gd w) (hs:t.size < 4294967281) (h:chk t.data.toList=false):
 Calls Tryz.prog 171 #[.agg #[.int .i64 3,.bool b,.int .i64 n,.string t,.string x,.slice p len cap],.int .i64 d] w fun e w'=>e=.returned (.bool (false))∧Below w.heap.size w w':=by
 have l0:Six ((w.alloc (.cells #[.int .i64 3,.bool b,.int .i64 n,.string t,.string x,.slice p len cap] 60)).alloc (.cells #[.int .i64 3,.bool b,.int .i64 n,.string t,.string x,.slice p len cap] 60)) w.heap.size 3 b n t x p len cap:=(zai w rfl).alloc _
 have l1:Six ((w.alloc (.cells #[.int .i64 3,.bool b,.int .i64 n,.string t,.string x,.slice p len cap] 60)).alloc (.cells #[.int .i64 3,.bool b,.int .i64 n,.string t,.string x,.slice p len cap] 60)) (w.heap.size+1) 3 b n t x p len cap:=zai _ (by simp)
 have b0:=zbk w (.cells #[.int .i64 3,.bool b,.int .i64 n,.string t,.string x,.slice p len cap] 60) (.cells #[.int .i64 3,.bool b,.int .i64 n,.string t,.string x,.slice p len cap] 60)
 have l00:=zai (k:=3) (b:=b) (n:=n) (t:=t) (x:=x) (p:=p) (len:=len) (cap:=cap) w rfl
 go_enter Tryz.func171,Tryz.ntmps171
 go_wp2_with (first
  |((with_reducible refine zaj (.tmp 2) w.heap.size (by assumption) ?_ ?_ ?_ ?_);rfl;rfl;rfl)
  |((with_reducible refine zao (.tmp 5) (w.heap.size+1) (by assumption) ?_ ?_ ?_ ?_);rfl;rfl;rfl)
  |(go_at_call 178;(with_reducible refine (zbl 3 b n t x _ 201 rfl _).mono ?_);rintro e w2 ⟨rfl,hb2⟩;have k2:=l0.below hb2;have m2:=l1.below hb2;have b2:=zab b0 hb2 (by have:=l0.lt;omega);have z2:w.heap.size≤w2.heap.size:=by have:=k2.lt;omega
    clear l0 l1 l00 hb2 b0
    have c3:=k2.c3)
  |(simp only [zko,zkp,zkq,zkr,zks,zkt,Result.andThen_ok])
  |(go_at_call 179;(with_reducible refine (chkAs t _ h _ (hG.below b2) hs).mono ?_);rintro e w3 ⟨rfl,hb3⟩;have b3:=zab b2 hb3 z2;have m3:=m2.below hb3;have e3:=m3.c3;have f3:=m3.free 3;have m4:=m3.set3 ⟨#[]⟩;have z3:w.heap.size≤w3.heap.size:=(by have:=m3.lt;omega);have b9:=zam (o:=3) b3 none (.string ⟨#[]⟩) (show w.heap.size≤w.heap.size+1 by omega) z3))
 go_ret
 exact ⟨rfl,b9⟩
set_option maxRecDepth 4000 in
set_option maxHeartbeats 1600000 in
theorem zr9 (b:Bool) (n:Int) (t x:ByteArray) (p:Option Addr) (len cap:Nat) (d:Int) (w:World) (hs:t.size≤maxLen) (h:zck t=true):
 Calls Tryz.prog 171 #[.agg #[.int .i64 8,.bool b,.int .i64 n,.string t,.string x,.slice p len cap],.int .i64 d] w fun e w'=>e=.returned (.bool (zb1 b n ⟨#[]⟩ x len))∧Below w.heap.size w w':=by
 have l0:Six ((w.alloc (.cells #[.int .i64 8,.bool b,.int .i64 n,.string t,.string x,.slice p len cap] 60)).alloc (.cells #[.int .i64 8,.bool b,.int .i64 n,.string t,.string x,.slice p len cap] 60)) w.heap.size 8 b n t x p len cap:=(zai w rfl).alloc _
 have l1:Six ((w.alloc (.cells #[.int .i64 8,.bool b,.int .i64 n,.string t,.string x,.slice p len cap] 60)).alloc (.cells #[.int .i64 8,.bool b,.int .i64 n,.string t,.string x,.slice p len cap] 60)) (w.heap.size+1) 8 b n t x p len cap:=zai _ (by simp)
 have b0:=zbk w (.cells #[.int .i64 8,.bool b,.int .i64 n,.string t,.string x,.slice p len cap] 60) (.cells #[.int .i64 8,.bool b,.int .i64 n,.string t,.string x,.slice p len cap] 60)
 have l00:=zai (k:=8) (b:=b) (n:=n) (t:=t) (x:=x) (p:=p) (len:=len) (cap:=cap) w rfl
 go_enter Tryz.func171,Tryz.ntmps171
 go_wp2_with (first
  |((with_reducible refine zaj (.tmp 2) w.heap.size (by assumption) ?_ ?_ ?_ ?_);rfl;rfl;rfl)
  |((with_reducible refine zao (.tmp 5) (w.heap.size+1) (by assumption) ?_ ?_ ?_ ?_);rfl;rfl;rfl)
  |(go_at_call 178;(with_reducible refine (zbl 8 b n t x _ 203 rfl _).mono ?_);rintro e w2 ⟨rfl,hb2⟩;have k2:=l0.below hb2;have m2:=l1.below hb2;have b2:=zab b0 hb2 (by have:=l0.lt;omega);have z2:w.heap.size≤w2.heap.size:=by have:=k2.lt;omega
    clear l0 l1 l00 hb2 b0
    have c3:=k2.c3)
  |(simp only [zla,zlb,zlc,zld,zle,zlf,zlg,zlh,Result.andThen_ok])
  |(go_at_call 180;(with_reducible refine (zot t _ h _ hs).mono ?_);rintro e w3 ⟨rfl,hb3⟩;have b3:=zab b2 hb3 z2;have m3:=m2.below hb3;have e3:=m3.c3;have f3:=m3.free 3;have m4:=m3.set3 ⟨#[]⟩;have z3:w.heap.size≤w3.heap.size:=(by have:=m3.lt;omega);have b4:=zam (o:=3) b3 none (.string ⟨#[]⟩) (show w.heap.size≤w.heap.size+1 by omega) z3;have z4:w.heap.size≤(w3.setCell ⟨w.heap.size+1,3,none⟩ (.string ⟨#[]⟩)).heap.size:=by simpa [World.setCell] using z3)
  |(go_at_call 183;(with_reducible refine (zcz 8 _ _ _ _ _ _ _ _).mono ?_);rintro e w9 ⟨rfl,hb9⟩;have b9:=zab b4 hb9 z4))
 go_ret
 exact ⟨rfl,b9⟩
set_option maxRecDepth 4000 in
set_option maxHeartbeats 1600000 in
theorem zu7 (b:Bool) (n:Int) (t x:ByteArray) (p:Option Addr) (len cap:Nat) (d:Int) (w:World) (hs:t.size≤maxLen) (h:zck t=false):
 Calls Tryz.prog 171 #[.agg #[.int .i64 8,.bool b,.int .i64 n,.string t,.string x,.slice p len cap],.int .i64 d] w fun e w'=>e=.returned (.bool (false))∧Below w.heap.size w w':=by
 have l0:Six ((w.alloc (.cells #[.int .i64 8,.bool b,.int .i64 n,.string t,.string x,.slice p len cap] 60)).alloc (.cells #[.int .i64 8,.bool b,.int .i64 n,.string t,.string x,.slice p len cap] 60)) w.heap.size 8 b n t x p len cap:=(zai w rfl).alloc _
 have l1:Six ((w.alloc (.cells #[.int .i64 8,.bool b,.int .i64 n,.string t,.string x,.slice p len cap] 60)).alloc (.cells #[.int .i64 8,.bool b,.int .i64 n,.string t,.string x,.slice p len cap] 60)) (w.heap.size+1) 8 b n t x p len cap:=zai _ (by simp)
 have b0:=zbk w (.cells #[.int .i64 8,.bool b,.int .i64 n,.string t,.string x,.slice p len cap] 60) (.cells #[.int .i64 8,.bool b,.int .i64 n,.string t,.string x,.slice p len cap] 60)
 have l00:=zai (k:=8) (b:=b) (n:=n) (t:=t) (x:=x) (p:=p) (len:=len) (cap:=cap) w rfl
 go_enter Tryz.func171,Tryz.ntmps171
 go_wp2_with (first
  |((with_reducible refine zaj (.tmp 2) w.heap.size (by assumption) ?_ ?_ ?_ ?_);rfl;rfl;rfl)
  |((with_reducible refine zao (.tmp 5) (w.heap.size+1) (by assumption) ?_ ?_ ?_ ?_);rfl;rfl;rfl)
  |(go_at_call 178;(with_reducible refine (zbl 8 b n t x _ 203 rfl _).mono ?_);rintro e w2 ⟨rfl,hb2⟩;have k2:=l0.below hb2;have m2:=l1.below hb2;have b2:=zab b0 hb2 (by have:=l0.lt;omega);have z2:w.heap.size≤w2.heap.size:=by have:=k2.lt;omega
    clear l0 l1 l00 hb2 b0
    have c3:=k2.c3)
  |(simp only [zla,zlb,zlc,zld,zle,zlf,zlg,zlh,Result.andThen_ok])
  |(go_at_call 180;(with_reducible refine (zot t _ h _ hs).mono ?_);rintro e w3 ⟨rfl,hb3⟩;have b3:=zab b2 hb3 z2;have m3:=m2.below hb3;have e3:=m3.c3;have f3:=m3.free 3;have m4:=m3.set3 ⟨#[]⟩;have z3:w.heap.size≤w3.heap.size:=(by have:=m3.lt;omega);have b9:=zam (o:=3) b3 none (.string ⟨#[]⟩) (show w.heap.size≤w.heap.size+1 by omega) z3))
 go_ret
 exact ⟨rfl,b9⟩
set_option maxRecDepth 4000 in
set_option maxHeartbeats 1600000 in
theorem znp (b:Bool) (n:Int) (t x:ByteArray) (p:Option Addr) (len cap:Nat) (d:Int) (w:World) (hs:t.size≤maxLen) (h:zc8 t=true):
 Calls Tryz.prog 171 #[.agg #[.int .i64 9,.bool b,.int .i64 n,.string t,.string x,.slice p len cap],.int .i64 d] w fun e w'=>e=.returned (.bool (zb1 b n ⟨#[]⟩ x len))∧Below w.heap.size w w':=by
 have l0:Six ((w.alloc (.cells #[.int .i64 9,.bool b,.int .i64 n,.string t,.string x,.slice p len cap] 60)).alloc (.cells #[.int .i64 9,.bool b,.int .i64 n,.string t,.string x,.slice p len cap] 60)) w.heap.size 9 b n t x p len cap:=(zai w rfl).alloc _
 have l1:Six ((w.alloc (.cells #[.int .i64 9,.bool b,.int .i64 n,.string t,.string x,.slice p len cap] 60)).alloc (.cells #[.int .i64 9,.bool b,.int .i64 n,.string t,.string x,.slice p len cap] 60)) (w.heap.size+1) 9 b n t x p len cap:=zai _ (by simp)
 have b0:=zbk w (.cells #[.int .i64 9,.bool b,.int .i64 n,.string t,.string x,.slice p len cap] 60) (.cells #[.int .i64 9,.bool b,.int .i64 n,.string t,.string x,.slice p len cap] 60)
 have l00:=zai (k:=9) (b:=b) (n:=n) (t:=t) (x:=x) (p:=p) (len:=len) (cap:=cap) w rfl
 go_enter Tryz.func171,Tryz.ntmps171
 go_wp2_with (first
  |((with_reducible refine zaj (.tmp 2) w.heap.size (by assumption) ?_ ?_ ?_ ?_);rfl;rfl;rfl)
  |((with_reducible refine zao (.tmp 5) (w.heap.size+1) (by assumption) ?_ ?_ ?_ ?_);rfl;rfl;rfl)
  |(go_at_call 178;(with_reducible refine (zbl 9 b n t x _ 204 rfl _).mono ?_);rintro e w2 ⟨rfl,hb2⟩;have k2:=l0.below hb2;have m2:=l1.below hb2;have b2:=zab b0 hb2 (by have:=l0.lt;omega);have z2:w.heap.size≤w2.heap.size:=by have:=k2.lt;omega
    clear l0 l1 l00 hb2 b0
    have c3:=k2.c3)
  |(simp only [zll,zlm,zln,zlo,zlp,zlq,zlr,zls,zlu,Result.andThen_ok])
  |(go_at_call 181;(with_reducible refine (zwc t _ h _ hs).mono ?_);rintro e w3 ⟨rfl,hb3⟩;have b3:=zab b2 hb3 z2;have m3:=m2.below hb3;have e3:=m3.c3;have f3:=m3.free 3;have m4:=m3.set3 ⟨#[]⟩;have z3:w.heap.size≤w3.heap.size:=(by have:=m3.lt;omega);have b4:=zam (o:=3) b3 none (.string ⟨#[]⟩) (show w.heap.size≤w.heap.size+1 by omega) z3;have z4:w.heap.size≤(w3.setCell ⟨w.heap.size+1,3,none⟩ (.string ⟨#[]⟩)).heap.size:=by simpa [World.setCell] using z3)
  |(go_at_call 183;(with_reducible refine (zcz 9 _ _ _ _ _ _ _ _).mono ?_);rintro e w9 ⟨rfl,hb9⟩;have b9:=zab b4 hb9 z4))
 go_ret
 exact ⟨rfl,b9⟩
set_option maxRecDepth 4000 in
set_option maxHeartbeats 1600000 in
theorem zpr (b:Bool) (n:Int) (t x:ByteArray) (p:Option Addr) (len cap:Nat) (d:Int) (w:World) (hs:t.size≤maxLen) (h:zc8 t=false):
 Calls Tryz.prog 171 #[.agg #[.int .i64 9,.bool b,.int .i64 n,.string t,.string x,.slice p len cap],.int .i64 d] w fun e w'=>e=.returned (.bool (false))∧Below w.heap.size w w':=by
 have l0:Six ((w.alloc (.cells #[.int .i64 9,.bool b,.int .i64 n,.string t,.string x,.slice p len cap] 60)).alloc (.cells #[.int .i64 9,.bool b,.int .i64 n,.string t,.string x,.slice p len cap] 60)) w.heap.size 9 b n t x p len cap:=(zai w rfl).alloc _
 have l1:Six ((w.alloc (.cells #[.int .i64 9,.bool b,.int .i64 n,.string t,.string x,.slice p len cap] 60)).alloc (.cells #[.int .i64 9,.bool b,.int .i64 n,.string t,.string x,.slice p len cap] 60)) (w.heap.size+1) 9 b n t x p len cap:=zai _ (by simp)
 have b0:=zbk w (.cells #[.int .i64 9,.bool b,.int .i64 n,.string t,.string x,.slice p len cap] 60) (.cells #[.int .i64 9,.bool b,.int .i64 n,.string t,.string x,.slice p len cap] 60)
 have l00:=zai (k:=9) (b:=b) (n:=n) (t:=t) (x:=x) (p:=p) (len:=len) (cap:=cap) w rfl
 go_enter Tryz.func171,Tryz.ntmps171
 go_wp2_with (first
  |((with_reducible refine zaj (.tmp 2) w.heap.size (by assumption) ?_ ?_ ?_ ?_);rfl;rfl;rfl)
  |((with_reducible refine zao (.tmp 5) (w.heap.size+1) (by assumption) ?_ ?_ ?_ ?_);rfl;rfl;rfl)
  |(go_at_call 178;(with_reducible refine (zbl 9 b n t x _ 204 rfl _).mono ?_);rintro e w2 ⟨rfl,hb2⟩;have k2:=l0.below hb2;have m2:=l1.below hb2;have b2:=zab b0 hb2 (by have:=l0.lt;omega);have z2:w.heap.size≤w2.heap.size:=by have:=k2.lt;omega
    clear l0 l1 l00 hb2 b0
    have c3:=k2.c3)
  |(simp only [zll,zlm,zln,zlo,zlp,zlq,zlr,zls,zlu,Result.andThen_ok])
  |(go_at_call 181;(with_reducible refine (zwc t _ h _ hs).mono ?_);rintro e w3 ⟨rfl,hb3⟩;have b3:=zab b2 hb3 z2;have m3:=m2.below hb3;have e3:=m3.c3;have f3:=m3.free 3;have m4:=m3.set3 ⟨#[]⟩;have z3:w.heap.size≤w3.heap.size:=(by have:=m3.lt;omega);have b9:=zam (o:=3) b3 none (.string ⟨#[]⟩) (show w.heap.size≤w.heap.size+1 by omega) z3))
 go_ret
 exact ⟨rfl,b9⟩
end Go.Proofs.YtcfmenkigolnoaaGreatDoor

/- N7 -/
namespace Go.Proofs.YtcfmenkigolnoaaGreatDoor
open Go.RowKit
set_option maxRecDepth 4000 in
set_option maxHeartbeats 1600000 in
theorem zps (b:Bool) (n:Int) (t x:ByteArray) (p:Option Addr) (len cap:Nat) (d:Int) (w:World) (d0:0≤d) (d1:d≤1000) (hc:∀ W,Below w.heap.size w W→Calls Tryz.prog 182 #[.slice p len cap,.int .i64 (d+1)] W fun e w'=>e=.returned (.bool true)∧Below W.heap.size W w'):
 Calls Tryz.prog 171 #[.agg #[.int .i64 5,.bool b,.int .i64 n,.string t,.string x,.slice p len cap],.int .i64 d] w fun e w'=>e=.returned (.bool (zb1 b n t x 0))∧Below w.heap.size w w':=by
 have l0:Six ((w.alloc (.cells #[.int .i64 5,.bool b,.int .i64 n,.string t,.string x,.slice p len cap] 60)).alloc (.cells #[.int .i64 5,.bool b,.int .i64 n,.string t,.string x,.slice p len cap] 60)) w.heap.size 5 b n t x p len cap:=(zai w rfl).alloc _
 have l1:Six ((w.alloc (.cells #[.int .i64 5,.bool b,.int .i64 n,.string t,.string x,.slice p len cap] 60)).alloc (.cells #[.int .i64 5,.bool b,.int .i64 n,.string t,.string x,.slice p len cap] 60)) (w.heap.size+1) 5 b n t x p len cap:=zai _ (by simp)
 have b0:=zbk w (.cells #[.int .i64 5,.bool b,.int .i64 n,.string t,.string x,.slice p len cap] 60) (.cells #[.int .i64 5,.bool b,.int .i64 n,.string t,.string x,.slice p len cap] 60)
 have l00:=zai (k:=5) (b:=b) (n:=n) (t:=t) (x:=x) (p:=p) (len:=len) (cap:=cap) w rfl
 go_enter Tryz.func171,Tryz.ntmps171
 go_wp2_with (first
  |((with_reducible refine zaj (.tmp 2) w.heap.size (by assumption) ?_ ?_ ?_ ?_);rfl;rfl;rfl)
  |((with_reducible refine zao (.tmp 5) (w.heap.size+1) (by assumption) ?_ ?_ ?_ ?_);rfl;rfl;rfl)
  |(go_at_call 178;(with_reducible refine (zbl 5 b n t x _ 206 rfl _).mono ?_);rintro e w2 ⟨rfl,hb2⟩;have k2:=l0.below hb2;have m2:=l1.below hb2;have b2:=zab b0 hb2 (by have:=l0.lt;omega);have z2:w.heap.size≤w2.heap.size:=by have:=k2.lt;omega
    clear l0 l1 l00 hb2 b0
    have c5:=k2.c5;have e1:IntKind.i64.wrap (d+1)=d+1:=IntWalk.i64_in _ (by omega))
  |(simp only [zlx,zly,zlz,zl0,zl1,zl2,zl3,zl4,zl5,zl6,zl7,Result.andThen_ok])
  |(go_at_call 182;(with_reducible refine (hc _ b2).mono ?_);rintro e w3 ⟨rfl,hb3⟩;have b3:=zab b2 hb3 z2;have m3:=m2.below hb3;have e3:=m3.c5;have f3:=m3.free 5;have m4:=m3.set5 none 0 0;have z3:w.heap.size≤w3.heap.size:=(by have:=m3.lt;omega);have b4:=zam (o:=5) b3 none (.slice none 0 0) (show w.heap.size≤w.heap.size+1 by omega) z3;have z4:w.heap.size≤(w3.setCell ⟨w.heap.size+1,5,none⟩ (.slice none 0 0)).heap.size:=by simpa [World.setCell] using z3)
  |(go_at_call 183;(with_reducible refine (zcz 5 _ _ _ _ _ _ _ _).mono ?_);rintro e w9 ⟨rfl,hb9⟩;have b9:=zab b4 hb9 z4))
 go_ret
 exact ⟨rfl,b9⟩
set_option maxRecDepth 4000 in
set_option maxHeartbeats 1600000 in
theorem zsa (b:Bool) (n:Int) (t x:ByteArray) (p:Option Addr) (len cap:Nat) (d:Int) (w:World) (d0:0≤d) (d1:d≤1000) (hc:∀ W,Below w.heap.size w W→Calls Tryz.prog 182 #[.slice p len cap,.int .i64 (d+1)] W fun e w'=>e=.returned (.bool false)∧Below W.heap.size W w'):
 Calls Tryz.prog 171 #[.agg #[.int .i64 5,.bool b,.int .i64 n,.string t,.string x,.slice p len cap],.int .i64 d] w fun e w'=>e=.returned (.bool (false))∧Below w.heap.size w w':=by
 have l0:Six ((w.alloc (.cells #[.int .i64 5,.bool b,.int .i64 n,.string t,.string x,.slice p len cap] 60)).alloc (.cells #[.int .i64 5,.bool b,.int .i64 n,.string t,.string x,.slice p len cap] 60)) w.heap.size 5 b n t x p len cap:=(zai w rfl).alloc _
 have l1:Six ((w.alloc (.cells #[.int .i64 5,.bool b,.int .i64 n,.string t,.string x,.slice p len cap] 60)).alloc (.cells #[.int .i64 5,.bool b,.int .i64 n,.string t,.string x,.slice p len cap] 60)) (w.heap.size+1) 5 b n t x p len cap:=zai _ (by simp)
 have b0:=zbk w (.cells #[.int .i64 5,.bool b,.int .i64 n,.string t,.string x,.slice p len cap] 60) (.cells #[.int .i64 5,.bool b,.int .i64 n,.string t,.string x,.slice p len cap] 60)
 have l00:=zai (k:=5) (b:=b) (n:=n) (t:=t) (x:=x) (p:=p) (len:=len) (cap:=cap) w rfl
 go_enter Tryz.func171,Tryz.ntmps171
 go_wp2_with (first
  |((with_reducible refine zaj (.tmp 2) w.heap.size (by assumption) ?_ ?_ ?_ ?_);rfl;rfl;rfl)
  |((with_reducible refine zao (.tmp 5) (w.heap.size+1) (by assumption) ?_ ?_ ?_ ?_);rfl;rfl;rfl)
  |(go_at_call 178;(with_reducible refine (zbl 5 b n t x _ 206 rfl _).mono ?_);rintro e w2 ⟨rfl,hb2⟩;have k2:=l0.below hb2;have m2:=l1.below hb2;have b2:=zab b0 hb2 (by have:=l0.lt;omega);have z2:w.heap.size≤w2.heap.size:=by have:=k2.lt;omega
    clear l0 l1 l00 hb2 b0
    have c5:=k2.c5;have e1:IntKind.i64.wrap (d+1)=d+1:=IntWalk.i64_in _ (by omega))
  |(simp only [zlx,zly,zlz,zl0,zl1,zl2,zl3,zl4,zl5,zl6,zl7,Result.andThen_ok])
  |(go_at_call 182;(with_reducible refine (hc _ b2).mono ?_);rintro e w3 ⟨rfl,hb3⟩;have b3:=zab b2 hb3 z2;have m3:=m2.below hb3;have e3:=m3.c5;have f3:=m3.free 5;have m4:=m3.set5 none 0 0;have z3:w.heap.size≤w3.heap.size:=(by have:=m3.lt;omega);have b4:=zam (o:=5) b3 none (.slice none 0 0) (show w.heap.size≤w.heap.size+1 by omega) z3;have z4:w.heap.size≤(w3.setCell ⟨w.heap.size+1,5,none⟩ (.slice none 0 0)).heap.size:=by simpa [World.setCell] using z3))
 go_ret
 exact ⟨rfl,b4⟩
set_option maxRecDepth 4000 in
set_option maxHeartbeats 1600000 in
theorem znq (k:Int) (b:Bool) (n:Int) (t x:ByteArray) (p:Option Addr) (len cap:Nat) (d:Int) (w:World) (hk:zpl k=214):
 Calls Tryz.prog 171 #[.agg #[.int .i64 k,.bool b,.int .i64 n,.string t,.string x,.slice p len cap],.int .i64 d] w fun e w'=>e=.returned (.bool (false))∧Below w.heap.size w w':=by
 have l0:Six ((w.alloc (.cells #[.int .i64 k,.bool b,.int .i64 n,.string t,.string x,.slice p len cap] 60)).alloc (.cells #[.int .i64 k,.bool b,.int .i64 n,.string t,.string x,.slice p len cap] 60)) w.heap.size k b n t x p len cap:=(zai w rfl).alloc _
 have l1:Six ((w.alloc (.cells #[.int .i64 k,.bool b,.int .i64 n,.string t,.string x,.slice p len cap] 60)).alloc (.cells #[.int .i64 k,.bool b,.int .i64 n,.string t,.string x,.slice p len cap] 60)) (w.heap.size+1) k b n t x p len cap:=zai _ (by simp)
 have b0:=zbk w (.cells #[.int .i64 k,.bool b,.int .i64 n,.string t,.string x,.slice p len cap] 60) (.cells #[.int .i64 k,.bool b,.int .i64 n,.string t,.string x,.slice p len cap] 60)
 have l00:=zai (k:=k) (b:=b) (n:=n) (t:=t) (x:=x) (p:=p) (len:=len) (cap:=cap) w rfl
 go_enter Tryz.func171,Tryz.ntmps171
 go_wp2_with (first
  |((with_reducible refine zaj (.tmp 2) w.heap.size (by assumption) ?_ ?_ ?_ ?_);rfl;rfl;rfl)
  |((with_reducible refine zao (.tmp 5) (w.heap.size+1) (by assumption) ?_ ?_ ?_ ?_);rfl;rfl;rfl)
  |(go_at_call 178;(with_reducible refine (zbl k b n t x _ 214 hk.symm _).mono ?_);rintro e w2 ⟨rfl,hb2⟩;have k2:=l0.below hb2;have m2:=l1.below hb2;have b2:=zab b0 hb2 (by have:=l0.lt;omega);have z2:w.heap.size≤w2.heap.size:=by have:=k2.lt;omega
    clear l0 l1 l00 hb2 b0
    skip)
  |(simp only [zrs,zrt,zru,zrv,zrw,zrx,zry,zrz,zr0,zr1,zr2,Result.andThen_ok]))
 go_ret
 exact ⟨rfl,b2⟩
end Go.Proofs.YtcfmenkigolnoaaGreatDoor
