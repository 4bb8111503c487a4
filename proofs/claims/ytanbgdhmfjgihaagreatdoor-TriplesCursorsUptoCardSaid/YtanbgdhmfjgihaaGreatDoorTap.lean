/- Texts of one kind, one behind the other: each says ahead of itself what it shows. -/
import Derived.Test.YtanbgdhmfjgihaaGreatDoorTan
import Derived.Deep.RegionHeld3
import Derived.Deep.RegionWith
import Derived.Test.YtanbgdhmfjgihaaGreatDoorTam
import Derived.Lib.ItoaMem
import Derived.Lib.ParseIntB
import Derived.Lib.Strings
namespace Go.Proofs.YtanbgdhmfjgihaaGreatDoor
open Go.RowKit
set_option maxHeartbeats 12800000
set_option maxRecDepth 20000
theorem zes {ops:Array Oper} {S:World→Prop} {op:Oper} {a:Act} (hw:Region.wanted op (yielded ops a.tmps)=true) (x:Operand) (ho:op.op=.load 131 x)
 (g:Nat) (hx:a.eval x=.pointer (some ⟨g,0,none⟩)) (n:Bool) (v:Value) (sc:Int) (hS:∀ w,S w→Rec w g n v sc):YieldsIf Tryz.prog ops S op (.agg #[.bool n,v,.int .i64 sc]) a:=
 .inl ⟨hw,fun w hw'=>by
  unfold execOp
  simp only [ho,hx,Instr.loadAt,Instr.sureAddr,Sem.run_bind,Sem.run_pure,Result.andThen_ok,run_loadVar_row (P:=Tryz.prog) w g 131 131 _ (0,0) _ (hS w hw') Tryz.underlying131 rfl (by exact zh3)]⟩
theorem zht {op:Oper} {a:Act} {w:World} {K:Act→World→Prop} {Q:Exit→Act→World→Prop} {n m:Bool} {v u:Value} {sc sd:Int} (x y:Operand) (ho:op.op=.store 131 x y) (g:Nat)
 (hx:a.eval x=.pointer (some ⟨g,0,none⟩)) (hy:a.eval y=.agg #[.bool m,u,.int .i64 sd]) (hg:Rec w g n v sc) (h1:u.oneCell'=true) (h:∀ w',Only g w w'→Rec w' g m u sd→K (a.put op.dst undef) w'):op.wp Tryz.prog a w K Q:=by
 unfold Oper.wp execOp
 simp only [ho,hx,hy,Instr.storeAt,Instr.sureAddr,Sem.run_bind,Sem.run_pure,Result.andThen_ok,run_storeVar_row (P:=Tryz.prog) w g 131 131 _ #[.bool m,u,.int .i64 sd] hg (by exact zh3) rfl (by simp [h1];exact ⟨rfl,rfl⟩)]
 exact h _ (Only.setRow w _) (za6 hg)
theorem Ints.rec {w w':World} {v z:Value} {ds:List Nat} {g:Nat} {n:Bool} {k:Int} (h:Ints w v ds) (ho:Only g w w') (hg:Rec w g n z k):Ints w' v ds:=h.only ho hg (by decide)
theorem zfh (W:World) {g:Nat} (e:W.heap.size=g):Rec (W.alloc (.cells #[.bool false,.slice none 0 0,.int .i64 0] 131)) g false (.slice none 0 0) 0:=zah _ _ e
structure TwoS (w:World) (g7 g9:Nat) (N1:Bool) (u:Value) (s1:Int) (d1:List Nat) (N2:Bool) (v:Value) (s2:Int) (d2:List Nat) (w':World):Prop where
 r7:Rec w' g7 N1 u s1
 r9:Rec w' g9 N2 v s2
 r4:∃ n z k,Rec w' w.heap.size n z k
 r5:∃ n z k,Rec w' (w.heap.size+1) n z k
 i1:Ints w' u d1
 i2:Ints w' v d2
 bel:Below w.heap.size w w'
 n7:w.heap.size+2≤g7
 n9:w.heap.size+2≤g9
theorem TwoS.below {w w' w2:World} {g7 g9:Nat} {N1 N2:Bool} {u v:Value} {s1 s2:Int} {d1 d2:List Nat} (h:TwoS w g7 g9 N1 u s1 d1 N2 v s2 d2 w') (k:Below w'.heap.size w' w2):TwoS w g7 g9 N1 u s1 d1 N2 v s2 d2 w2:=by
 obtain ⟨n4,z4,k4,r4⟩:=h.r4
 obtain ⟨n5,z5,k5,r5⟩:=h.r5
 exact ⟨h.r7.below k,h.r9.below k,⟨_,_,_,r4.below k⟩,⟨_,_,_,r5.below k⟩,h.i1.below k,h.i2.below k,zak h.bel k (Nat.le_of_lt r4.lt),h.n7,h.n9⟩
theorem TwoS.set4 {w w' w2:World} {g7 g9:Nat} {N1 N2 n:Bool} {u v z:Value} {s1 s2 k:Int} {d1 d2:List Nat} (h:TwoS w g7 g9 N1 u s1 d1 N2 v s2 d2 w') (ho:Only w.heap.size w' w2) (hr:Rec w2 w.heap.size n z k):TwoS w g7 g9 N1 u s1 d1 N2 v s2 d2 w2:=by
 obtain ⟨n4,z4,k4,r4⟩:=h.r4
 obtain ⟨n5,z5,k5,r5⟩:=h.r5
 have a:=h.n7
 have b:=h.n9
 exact ⟨h.r7.only ho (by omega),h.r9.only ho (by omega),⟨_,_,_,hr⟩,⟨_,_,_,r5.only ho (by omega)⟩,h.i1.rec ho r4,h.i2.rec ho r4,zag h.bel ho (Nat.le_refl _) (Nat.le_of_lt r4.lt),h.n7,h.n9⟩
theorem TwoS.set5 {w w' w2:World} {g7 g9:Nat} {N1 N2 n:Bool} {u v z:Value} {s1 s2 k:Int} {d1 d2:List Nat} (h:TwoS w g7 g9 N1 u s1 d1 N2 v s2 d2 w') (ho:Only (w.heap.size+1) w' w2) (hr:Rec w2 (w.heap.size+1) n z k):TwoS w g7 g9 N1 u s1 d1 N2 v s2 d2 w2:=by
 obtain ⟨n4,z4,k4,r4⟩:=h.r4
 obtain ⟨n5,z5,k5,r5⟩:=h.r5
 have a:=h.n7
 have b:=h.n9
 exact ⟨h.r7.only ho (by omega),h.r9.only ho (by omega),⟨_,_,_,r4.only ho (by omega)⟩,⟨_,_,_,hr⟩,h.i1.rec ho r5,h.i2.rec ho r5,zag h.bel ho (by omega) (Nat.le_of_lt r4.lt),h.n7,h.n9⟩
theorem zsv {fn:Func} {p p2 q:Tmp} (h:fn.results=#[.cell p 131,.cell p2 131,.tmp q]) (tmps:Array Value) {w:World} {g g2:Nat} {n n2:Bool} {v v2:Value} {sc sc2:Int} (x:Value)
 (hp:tmps.getD p undef=.pointer (some ⟨g,0,none⟩)) (hp2:tmps.getD p2 undef=.pointer (some ⟨g2,0,none⟩)) (hq:tmps.getD q undef=x) (hg:Rec w g n v sc) (hg2:Rec w g2 n2 v2 sc2):(results fn tmps).run Tryz.prog w=.ok (.tuple #[.agg #[.bool n,v,.int .i64 sc],.agg #[.bool n2,v2,.int .i64 sc2],x]) w:=by
 have hp':tmps[p]?.getD undef=.pointer (some ⟨g,0,none⟩):=by simpa using hp
 have hp2':tmps[p2]?.getD undef=.pointer (some ⟨g2,0,none⟩):=by simpa using hp2
 have hq':tmps[q]?.getD undef=x:=by simpa using hq
 have hl:=run_loadVar_row (P:=Tryz.prog) w g 131 131 _ (0,0) _ hg Tryz.underlying131 rfl (by exact zh3)
 have hl2:=run_loadVar_row (P:=Tryz.prog) w g2 131 131 _ (0,0) _ hg2 Tryz.underlying131 rfl (by exact zh3)
 simp [results,h,hp',hp2',hq',asAddr,hl,hl2]
def zha (s:ByteArray) (N:Bool) (sc:Int) (ds:List Nat) (o:Bool):Prop:=
 ∀ W,Calls Tryz.prog 120 #[.string s] W fun e w'=>∃ u,e=.returned (.tuple #[.agg #[.bool N,u,.int .i64 sc],.bool o])∧Ints w' u ds∧Below W.heap.size W w'
theorem zha.at {s:ByteArray} {N:Bool} {sc:Int} {ds:List Nat} {o:Bool} (h:zha s N sc ds o) (W:World):Calls Tryz.prog 120 #[.string s] W fun e w'=>∃ u,e=.returned (.tuple #[.agg #[.bool N,u,.int .i64 sc],.bool o])∧Ints w' u ds∧Below W.heap.size W w':=h W
def zet (s:ByteArray) (c:Bool):Prop:=∀ W,Calls Tryz.prog 99 #[.string s] W fun e w'=>e=.returned (.bool c)∧Below W.heap.size W w'
theorem zet.at {s:ByteArray} {c:Bool} (h:zet s c) (W:World):Calls Tryz.prog 99 #[.string s] W fun e w'=>e=.returned (.bool c)∧Below W.heap.size W w':=h W
theorem zut (n:Bool) (x k:Nat):sv n (x*k)=sv n x*(k:Int):=by
 unfold sv;cases n
 ·simp
 ·simp [Int.neg_mul]
theorem sv_zero (n:Bool):sv n 0=0:=by cases n <;> rfl
theorem sv_not (n:Bool) (x:Nat):sv (!n) x=-sv n x:=by cases n <;> simp [sv]
structure Row (i x:Nat) (bs':List Nat) (D0:Nat) (len:Nat) (ds:List Nat) (k c:Nat):Prop where
 small:zbp ds
 len:ds.length=len
 car:c≤9
 val:zav ds+c*10 ^ (i+k)=D0+x*vT k (dig bs')*10 ^ i
theorem Row.all {i x len k:Nat} {xs bs' ds:List Nat} (h:Row i x bs' (vT i (dig xs)*zav bs') len ds k 0) (hx:x=dig xs i) (hk:bs'.length≤k):zav ds=vT (i+1) (dig xs)*zav bs':=by
 have v:=h.val
 rw [zcn bs' hk,Nat.zero_mul,Nat.add_zero] at v
 rw [v]
 show _=(vT i (dig xs)+dig xs i*10 ^ i)*zav bs'
 rw [Nat.add_mul,hx,Nat.mul_right_comm]
theorem zuu {s t:Nat} (h:s≤t) (h2:t≤54):10 ^ (t - s)*10 ^ (54 - t)=10 ^ (54 - s):=by
 rw [← Nat.pow_add];congr 1;omega
theorem zuv {na nb nz:Bool} {da db dz:List Nat} {sa sb s:Nat} (h1:sa≤s) (h2:sb≤s) (h54:s≤54)
 (h:sv nz (zav dz)=sv na (zav da*10 ^ (s - sa))+sv nb (zav db*10 ^ (s - sb))):nval nz dz s=nval na da sa+nval nb db sb:=by
 unfold nval
 rw [zut,h,Int.add_mul,← zut,← zut,Nat.mul_assoc,Nat.mul_assoc,zuu h1 h54,zuu h2 h54]
structure Dec (l:List UInt8) (n:Bool) (ds:List Nat) (sc:Nat):Prop where
 sign:n=zc2 l
 small:zbp ds
 amt:zav ds*10 ^ (54 - sc)=damt l
 sc:sc≤20
 len:ds.length≤60
theorem Dec.val {l:List UInt8} {n:Bool} {ds:List Nat} {sc:Nat} (h:Dec l n ds sc):nval n ds sc=dval l:=by
 unfold nval dval;rw [h.amt,h.sign]
theorem zuw {l:List UInt8} (h:chk l=true):okP (sgn l).2=true∧Dec l (sgn l).1 (revD ((Lib.cut (sgn l).2 [46]).1++(Lib.cut (sgn l).2 [46]).2.1)) (Lib.cut (sgn l).2 [46]).2.1.length:=by
 obtain ⟨_,_,_,_,a,b,hsp,ha,hb,la,lb,e⟩:=zpp l h
 rw [zoh] at hsp
 by_cases hk:okP (sgn l).2=true
 ·rw [if_pos hk] at hsp
  have e0:=Option.some.inj hsp
  have e1:(sgn l).1=zc2 l:=congrArg (·.1) e0
  have e2:(Lib.cut (sgn l).2 [46]).1=a:=congrArg (·.2.1) e0
  have e3:(Lib.cut (sgn l).2 [46]).2.1=b:=congrArg (·.2.2) e0
  refine ⟨hk,e1,?_,?_,?_,?_⟩
  ·rw [e2,e3];exact zg7 _ (by rw [List.all_append,ha,hb];rfl)
  ·rw [e2,e3,e,zuk a b (by omega)]
  ·rw [e3];exact lb
  ·rw [e2,e3,ze3,List.length_append];omega
 ·rw [if_neg hk] at hsp;cases hsp
theorem Dec.zero {l:List UInt8} {n:Bool} {ds:List Nat} {sc:Nat} (h:Dec l n ds sc):zav ds=0↔damt l=0:=by
 have:=h.amt
 constructor
 ·intro e;rw [← this,e,Nat.zero_mul]
 ·intro e
  rw [e,Nat.mul_eq_zero] at this
  rcases this with k | k
  ·exact k
  ·exact absurd k (Nat.pos_iff_ne_zero.1 (Nat.pow_pos (by decide)))
theorem zfi {op:Oper} {a:Act} {w:World} {K:Act→World→Prop} {Q:Exit→Act→World→Prop} {n m:Bool} {v u:Value} {sc sd:Int} (x y:Operand) (ho:op.op=.store 131 x y) (hd:op.dst=none) (g:Nat)
 (hx:a.eval x=.pointer (some ⟨g,0,none⟩)) (hy:a.eval y=.agg #[.bool m,u,.int .i64 sd]) (hg:Rec w g n v sc) (h1:u.oneCell'=true) (h:∀ w',Only g w w'→Rec w' g m u sd→K a w'):op.wp Tryz.prog a w K Q:=
 zht x y ho g hx hy hg h1 fun w' h1 h2=>by rw [hd];exact h w' h1 h2
theorem zma (neg:Bool) (v:Value) (ds:List Nat) (sc scale:Nat) (w:World) (h:Ints w v ds) (hs:sc≤scale) (l1:scale≤1000000000) (l2:ds.length≤1000000000) (xs:List Nat) (hx:Hid (xs=List.replicate (scale - sc) 0++ds)):
 Calls Tryz.prog 121 #[.agg #[.bool neg,v,.int .i64 sc],.int .i64 scale] w fun e w'=>∃ z,e=.returned z∧Ints w' z xs∧Below w.heap.size w w':=by
 rw [hx.out];exact zui neg v ds sc scale w h hs l1 l2
structure zp2 (w:World) (N1:Bool) (u:Value) (s1:Int) (N2:Bool) (v:Value) (s2:Int) (x:Value) (dx:List Nat) (y:Value) (dy:List Nat) (w':World):Prop where
 r2:Rec w' w.heap.size N1 u s1
 r3:Rec w' (w.heap.size+1) N2 v s2
 r4:∃ n z k,Rec w' (w.heap.size+2) n z k
 i1:Ints w' x dx
 i2:Ints w' y dy
 bel:Below w.heap.size w w'
theorem zp2.below {w w' w2:World} {N1 N2:Bool} {u v x y:Value} {s1 s2:Int} {dx dy:List Nat} (h:zp2 w N1 u s1 N2 v s2 x dx y dy w') (k:Below w'.heap.size w' w2):zp2 w N1 u s1 N2 v s2 x dx y dy w2:=
 ⟨h.r2.below k,h.r3.below k,(have ⟨n,z,q,r⟩:=h.r4;⟨n,z,q,r.below k⟩),h.i1.below k,h.i2.below k,zak h.bel k (Nat.le_of_lt h.r2.lt)⟩
def zws (w:World) (V:Int) (L:Nat) (S:Int) (e:Ending) (w':World):Prop:=
 ∃ n z zs,e=.returned (.agg #[.bool n,z,.int .i64 S])∧Ints w' z zs∧zbp zs∧sv n (zav zs)=V∧zs.length≤L∧Below w.heap.size w w'
theorem sv_sum (n:Bool) {a b c:Nat} (h:c=a+b):sv n c=sv n a+sv n b:=by
 unfold sv;cases n <;> simp <;> omega
theorem zwt {n m:Bool} {a b c:Nat} (hn:n≠m) (h:c+b=a):sv n c=sv n a+sv m b:=by
 unfold sv;cases n <;> cases m <;> simp at hn ⊢ <;> omega
theorem zwu {n m:Bool} {a b c:Nat} (hn:n≠m) (h:c+a=b):sv m c=sv n a+sv m b:=by
 unfold sv;cases n <;> cases m <;> simp at hn ⊢ <;> omega
theorem refPlus (N1 N2:Bool) (u v:Value) (d1 d2:List Nat) (s1 s2 S:Nat) (w:World) (I1:Ints w u d1) (I2:Ints w v d2) (sm1:zbp d1) (sm2:zbp d2) (h1:s1≤S) (h2:s2≤S) (h3:S=s1∨S=s2) (b1:S≤1000000) (l1:d1.length≤100000000) (l2:d2.length≤100000000):
 Calls Tryz.prog 96 #[.agg #[.bool N1,u,.int .i64 s1],.agg #[.bool N2,v,.int .i64 s2]] w (zws w (sv N1 (zav d1*10 ^ (S - s1))+sv N2 (zav d2*10 ^ (S - s2))) (d1.length+d2.length+2*S+1) S):=by
 obtain ⟨dx,hdx⟩:∃ dx,dx=List.replicate (S - s1) 0++d1:=⟨_,rfl⟩
 obtain ⟨dy,hdy⟩:∃ dy,dy=List.replicate (S - s2) 0++d2:=⟨_,rfl⟩
 have hvx:zav d1*10 ^ (S - s1)=zav dx:=by rw [hdx,zks]
 have hvy:zav d2*10 ^ (S - s2)=zav dy:=by rw [hdy,zks]
 have hlx:dx.length=S - s1+d1.length:=by rw [hdx,zpy]
 have hly:dy.length=S - s2+d2.length:=by rw [hdy,zpy]
 rw [hvx,hvy]
 have HDX:=Lib.hid hdx
 have HDY:=Lib.hid hdy
 have hlim:dx.length≤1000000000∧dy.length≤1000000000∧dx.length+dy.length+1≤d1.length+d2.length+2*S+1:=by omega
 have HLX:=Lib.hid hlim
 have hsm:zbp dx∧zbp dy∧True:=by rw [hdx,hdy];exact ⟨zof sm1,zof sm2,trivial⟩
 have HD:=Lib.hid hsm
 have HL0:=Lib.hid (And.intro l1 l2)
 have HS3:=Lib.hid h3
 generalize d1.length+d2.length+2*S+1=L at*
 obtain ⟨V,hV⟩:∃ V,V=sv N1 (zav dx)+sv N2 (zav dy):=⟨_,rfl⟩
 rw [← hV]
 have HVS:=Lib.hid hV.symm
 have o1:=zco I1
 have o2:=zco I2
 obtain ⟨W0,hW0⟩:∃ W0,W0=((w.alloc (.cells #[.bool N1,u,.int .i64 s1] 131)).alloc (.cells #[.bool N2,v,.int .i64 s2] 131)).alloc (.cells #[.bool false,.slice none 0 0,.int .i64 0] 131):=⟨_,rfl⟩
 have R2:Rec W0 w.heap.size N1 u s1:=by rw [hW0];exact zaw _ (zaw _ (zah _ _ rfl))
 have R3:Rec W0 (w.heap.size+1) N2 v s2:=by rw [hW0];exact zaw _ (zah _ _ (by simp))
 have R4:Rec W0 (w.heap.size+2) false (.slice none 0 0) 0:=by rw [hW0];exact zah _ _ (by simp)
 have hb0:Below w.heap.size w W0:=by rw [hW0];exact (((Below.refl _ _).alloc (Nat.le_refl _) _).alloc (by simp) _).alloc (by simp;omega) _
 have HR:=Lib.hid (And.intro R2 (And.intro R3 (And.intro R4 hb0)))
 have HI1:=Lib.hid (I1.below hb0)
 have HI2:=Lib.hid (I2.below hb0)
 have HW0:=Lib.hid hW0
 clear hvx hvy hlx hly hdx hdy hlim hsm sm1 sm2 I1 I2 l1 l2 h3 hV R2 R3 R4 hb0 hW0
 go_enter Tryz.func96,Tryz.ntmps96
 go_upto_if 13 with fail
 go_cut [5] (fun s5 wx=>s5=.int .i64 S∧wx=W0)
 case first=>
  by_cases hs:(s2:Int) > s1
  ·obtain rfl:S=s2:=by have:=HS3.out;omega
   go_wp2_with fail
   go_meet
   case rel=>exact ⟨rfl,HW0.out.symm⟩
  ·obtain rfl:S=s1:=by have:=HS3.out;omega
   go_wp2_with fail
   go_meet
   case rel=>exact ⟨rfl,HW0.out.symm⟩
 case rest=>
  obtain ⟨rfl,rfl⟩:=hcut
  have r2:=HR.out.1
  have r3:=HR.out.2.1
  go_upto_region 6 with (first
   |((with_reducible refine zbw (.tmp 2) w.heap.size r2 ?_ ?_ ?_ ?_);rfl;rfl;rfl)
   |(go_at_call 121;(with_reducible refine (zma N1 u d1 s1 S _ HI1.out h1 (by omega) (by have:=HL0.out;omega) dx HDX).mono ?_);rintro e wa ⟨x,rfl,hx,hba⟩;have r3a:=r3.below hba;have HA:=Lib.hid (And.intro hx hba);clear hx hba r2)
   |((with_reducible refine zbw (.tmp 3) (w.heap.size+1) r3a ?_ ?_ ?_ ?_);rfl;rfl;rfl)
   |(go_at_call 121;(with_reducible refine (zma N2 v d2 s2 S _ (HI2.out.below HA.out.2) h2 (by omega) (by have:=HL0.out;omega) dy HDY).mono ?_);rintro e wb ⟨y,rfl,hy,hbb⟩;have HB:=Lib.hid (And.intro hy hbb);clear hy hbb r3a r3))
  have HS:Hid (zp2 w N1 u s1 N2 v s2 x dx y dy wb):=Lib.hid ⟨(HR.out.1.below HA.out.2).below HB.out.2,(HR.out.2.1.below HA.out.2).below HB.out.2,⟨_,_,_,(HR.out.2.2.1.below HA.out.2).below HB.out.2⟩,HA.out.1.below HB.out.2,HB.out.1,zak (zak HR.out.2.2.2 HA.out.2 HR.out.2.2.2.size) HB.out.2 (Nat.le_trans HR.out.2.2.2.size HA.out.2.size)⟩
  clear HR HA HB HI1 HI2 HL0 HS3 HDX HDY
  have c2:=HS.out.r2.c0
  have c3:=HS.out.r3.c0
  by_cases hN:N1=N2
  ·subst hN
   have HV:Hid (V=sv N1 (zav dx+zav dy)):=Lib.hid (by rw [← HVS.out];exact (sv_sum N1 rfl).symm)
   go_wp2_with fail
   clear c2 c3
   refine wp_region_held_drew (S:=zp2 w N1 u s1 N1 v s2 x dx y dy) (by kernel_rfl) (by have h:=HS.out;exact ⟨h.r2,h.r3,h.r4,h.i1,h.i2,h.bel.drew⟩) (fun hHeld=>?_)
   refine tg (i:=0) (.pointer (some ⟨w.heap.size,0,none⟩)) rfl hHeld ?_
   refine tk (i:=1) (v:=.bool N1) rfl (Or.inl ⟨by rfl,fun W h=>by have c0:=h.r2.c0;go_simp⟩) hHeld ?_
   refine tg (i:=2) x rfl hHeld ?_
   refine tg (i:=3) y rfl hHeld ?_
   refine tg (i:=5) (.int .i64 S) rfl hHeld ?_
   refine tr 4 rfl (fun K hK=>?_)
   go_simp
   refine (refAdd x y dx dy _ hHeld.i1 hHeld.i2 HD.out.1 HD.out.2.1 HLX.out.1 HLX.out.2.1).mono ?_
   rintro e wc ⟨z,zs,rfl,hz,hzs,hv,hl,hbc⟩
   obtain ⟨pz,capz,rfl⟩:=hz.form
   have HVZ:=Lib.hid hv.out
   have HLZ:=Lib.hid hl
   clear hv hl
   refine hK.out _ _ (hHeld.below hbc) (fun hHeld2=>?_)
   clear hK K hbc hHeld
   have hHeld:=hHeld2
   clear hHeld2
   try simp only [putS]
   refine tg (i:=6) (.agg #[.bool N1,.slice pz zs.length capz,.int .i64 S]) rfl hHeld ?_
   obtain ⟨n4,z4,k4,r4⟩:=hHeld.r4
   have hlt:=hHeld.r2.lt
   have hzone:=zco hz
   refine tr 7 rfl (fun K hK=>?_)
   rw [if_pos (by rfl)]
   refine zfi (.tmp 4) (.tmp 33) rfl rfl (w.heap.size+2) rfl rfl r4 hzone (fun w5 ho5 x4=>?_)
   have hz5:=hz.rec ho5 r4
   have hb5:=zag hHeld.bel ho5 (by omega) (Nat.le_of_lt hlt)
   refine hK.out _ _ ⟨hHeld.r2.only ho5 (by omega),hHeld.r3.only ho5 (by omega),⟨_,_,_,x4⟩,hHeld.i1.rec ho5 r4,hHeld.i2.rec ho5 r4,hb5⟩ (fun hHeld2=>?_)
   have HZ5:=Lib.hid (And.intro hz5 (And.intro hzs hb5))
   clear hK K ho5 hz hz5 hzs hb5 r4 hHeld hHeld2
   try simp only [putS]
   refine wpAnyH_done (by kernel_rfl) ?_ _
   go_wp2_with fail
   exact bodyPost_ret (v:=.agg #[.bool N1,.slice pz zs.length capz,.int .i64 S]) (zeq (p:=4) Tryz.results96 _ rfl x4) rfl ⟨N1,_,zs,rfl,HZ5.out.1,HZ5.out.2.1,by rw [HVZ.out];exact HV.out.symm,by have:=HLZ.out;have:=HLX.out;omega,HZ5.out.2.2⟩
  ·have HNE:=Lib.hid hN
   have hNb:(N1 == N2)=false:=by simpa using hN
   have J1:=Lib.hid HS.out.i1
   have J2:=Lib.hid HS.out.i2
   obtain ⟨r,hr⟩:∃ r,r=cmpZ (zav dx) (zav dy):=⟨_,rfl⟩
   have HRR:=Lib.hid hr
   clear hN hr
   by_cases hlt0:zav dx < zav dy
   ·have HLE:=Lib.hid hlt0
    obtain rfl:r=-1:=by rw [HRR.out];unfold cmpZ;rw [if_pos (by omega)]
    clear hlt0
    go_wp2_with (go_at_call 123;(with_reducible refine (zl5 x y dx dy _ J1.out J2.out HD.out.1 HD.out.2.1 (by have:=HLX.out;omega) (by have:=HLX.out;omega) _ HRR.out).mono ?_);rintro e w' ⟨rfl,rfl⟩)
    clear c2 c3
    refine wp_region_held_drew (S:=zp2 w N1 u s1 N2 v s2 x dx y dy) (by kernel_rfl) (by have h:=HS.out;exact ⟨h.r2,h.r3,h.r4,h.i1,h.i2,h.bel.drew⟩) (fun hHeld=>?_)
    refine tg (i:=0) (.pointer (some ⟨w.heap.size+1,0,none⟩)) rfl hHeld ?_
    refine tk (i:=1) (v:=.bool N2) rfl (Or.inl ⟨by rfl,fun W h=>by have c0:=h.r3.c0;go_simp⟩) hHeld ?_
    refine tg (i:=2) y rfl hHeld ?_
    refine tg (i:=3) x rfl hHeld ?_
    refine tg (i:=5) (.int .i64 S) rfl hHeld ?_
    refine tr 4 rfl (fun K hK=>?_)
    go_simp
    refine (zx9 y x dy dx _ hHeld.i2 hHeld.i1 HD.out.2.1 HD.out.1 (by have:=HLE.out;omega) HLX.out.2.1).mono ?_
    rintro e wc ⟨z,zs,rfl,hz,hzs,hv,hl,hbc⟩
    obtain ⟨pz,capz,rfl⟩:=hz.form
    have HVZ:=Lib.hid hv.out
    have HLZ:=Lib.hid hl
    clear hv hl
    refine hK.out _ _ (hHeld.below hbc) (fun hHeld2=>?_)
    clear hK K hbc hHeld
    have hHeld:=hHeld2
    clear hHeld2
    try simp only [putS]
    refine tg (i:=6) (.agg #[.bool N2,.slice pz zs.length capz,.int .i64 S]) rfl hHeld ?_
    obtain ⟨n4,z4,k4,r4⟩:=hHeld.r4
    have hlt:=hHeld.r2.lt
    have hzone:=zco hz
    refine tr 7 rfl (fun K hK=>?_)
    rw [if_pos (by rfl)]
    refine zfi (.tmp 4) (.tmp 44) rfl rfl (w.heap.size+2) rfl rfl r4 hzone (fun w5 ho5 x4=>?_)
    have hz5:=hz.rec ho5 r4
    have hb5:=zag hHeld.bel ho5 (by omega) (Nat.le_of_lt hlt)
    refine hK.out _ _ ⟨hHeld.r2.only ho5 (by omega),hHeld.r3.only ho5 (by omega),⟨_,_,_,x4⟩,hHeld.i1.rec ho5 r4,hHeld.i2.rec ho5 r4,hb5⟩ (fun hHeld2=>?_)
    have HZ5:=Lib.hid (And.intro hz5 (And.intro hzs hb5))
    clear hK K ho5 hz hz5 hzs hb5 r4 hHeld hHeld2
    try simp only [putS]
    refine wpAnyH_done (by kernel_rfl) ?_ _
    go_wp2_with fail
    exact bodyPost_ret (v:=.agg #[.bool N2,.slice pz zs.length capz,.int .i64 S]) (zeq (p:=4) Tryz.results96 _ rfl x4) rfl ⟨N2,_,zs,rfl,HZ5.out.1,HZ5.out.2.1,by rw [← HVS.out];exact zwu HNE.out HVZ.out,by have:=HLZ.out;have:=HLX.out;omega,HZ5.out.2.2⟩
   ·have HLE:=Lib.hid hlt0
    have hrn:¬ r < 0:=by rw [HRR.out];unfold cmpZ;rw [if_neg (by omega)];split <;> omega
    clear hlt0
    go_wp2_with (go_at_call 123;(with_reducible refine (zl5 x y dx dy _ J1.out J2.out HD.out.1 HD.out.2.1 (by have:=HLX.out;omega) (by have:=HLX.out;omega) _ HRR.out).mono ?_);rintro e w' ⟨rfl,rfl⟩)
    clear c2 c3
    refine wp_region_held_drew (S:=zp2 w N1 u s1 N2 v s2 x dx y dy) (by kernel_rfl) (by have h:=HS.out;exact ⟨h.r2,h.r3,h.r4,h.i1,h.i2,h.bel.drew⟩) (fun hHeld=>?_)
    refine tg (i:=0) (.pointer (some ⟨w.heap.size,0,none⟩)) rfl hHeld ?_
    refine tk (i:=1) (v:=.bool N1) rfl (Or.inl ⟨by rfl,fun W h=>by have c0:=h.r2.c0;go_simp⟩) hHeld ?_
    refine tg (i:=2) x rfl hHeld ?_
    refine tg (i:=3) y rfl hHeld ?_
    refine tg (i:=5) (.int .i64 S) rfl hHeld ?_
    refine tr 4 rfl (fun K hK=>?_)
    go_simp
    refine (zx9 x y dx dy _ hHeld.i1 hHeld.i2 HD.out.1 HD.out.2.1 (by have:=HLE.out;omega) HLX.out.1).mono ?_
    rintro e wc ⟨z,zs,rfl,hz,hzs,hv,hl,hbc⟩
    obtain ⟨pz,capz,rfl⟩:=hz.form
    have HVZ:=Lib.hid hv.out
    have HLZ:=Lib.hid hl
    clear hv hl
    refine hK.out _ _ (hHeld.below hbc) (fun hHeld2=>?_)
    clear hK K hbc hHeld
    have hHeld:=hHeld2
    clear hHeld2
    try simp only [putS]
    refine tg (i:=6) (.agg #[.bool N1,.slice pz zs.length capz,.int .i64 S]) rfl hHeld ?_
    obtain ⟨n4,z4,k4,r4⟩:=hHeld.r4
    have hlt:=hHeld.r2.lt
    have hzone:=zco hz
    refine tr 7 rfl (fun K hK=>?_)
    rw [if_pos (by rfl)]
    refine zfi (.tmp 4) (.tmp 51) rfl rfl (w.heap.size+2) rfl rfl r4 hzone (fun w5 ho5 x4=>?_)
    have hz5:=hz.rec ho5 r4
    have hb5:=zag hHeld.bel ho5 (by omega) (Nat.le_of_lt hlt)
    refine hK.out _ _ ⟨hHeld.r2.only ho5 (by omega),hHeld.r3.only ho5 (by omega),⟨_,_,_,x4⟩,hHeld.i1.rec ho5 r4,hHeld.i2.rec ho5 r4,hb5⟩ (fun hHeld2=>?_)
    have HZ5:=Lib.hid (And.intro hz5 (And.intro hzs hb5))
    clear hK K ho5 hz hz5 hzs hb5 r4 hHeld hHeld2
    try simp only [putS]
    refine wpAnyH_done (by kernel_rfl) ?_ _
    go_wp2_with fail
    exact bodyPost_ret (v:=.agg #[.bool N1,.slice pz zs.length capz,.int .i64 S]) (zeq (p:=4) Tryz.results96 _ rfl x4) rfl ⟨N1,_,zs,rfl,HZ5.out.1,HZ5.out.2.1,by rw [← HVS.out];exact zwt HNE.out HVZ.out,by have:=HLZ.out;have:=HLX.out;omega,HZ5.out.2.2⟩
theorem two_ttt (s t:ByteArray) (N1 N2:Bool) (s1 s2:Int) (d1 d2:List Nat) (c2:Bool) (w:World) (P1:Hid (zha s N1 s1 d1 true)) (P2:Hid (zha t N2 s2 d2 true)) (C1:Hid (zet s true)) (C2:Hid (zet t c2)):
 Calls Tryz.prog 95 #[.string s,.string t] w fun e w'=>∃ u v,e=.returned (.tuple #[.agg #[.bool N1,u,.int .i64 s1],.agg #[.bool N2,v,.int .i64 s2],.bool c2])∧Ints w' u d1∧Ints w' v d2∧Below w.heap.size w w':=by
 have q4:Rec ((w.alloc (.cells #[.bool false,.slice none 0 0,.int .i64 0] 131)).alloc (.cells #[.bool false,.slice none 0 0,.int .i64 0] 131)) w.heap.size false (.slice none 0 0) 0:=(zfh w rfl).alloc _
 have q5:Rec ((w.alloc (.cells #[.bool false,.slice none 0 0,.int .i64 0] 131)).alloc (.cells #[.bool false,.slice none 0 0,.int .i64 0] 131)) (w.heap.size+1) false (.slice none 0 0) 0:=zfh _ (by simp)
 have hb0:Below w.heap.size w ((w.alloc (.cells #[.bool false,.slice none 0 0,.int .i64 0] 131)).alloc (.cells #[.bool false,.slice none 0 0,.int .i64 0] 131)):=((Below.refl _ _).alloc (Nat.le_refl _) _).alloc (by simp) _
 have Q4:=Lib.hid q4
 have Q5:=Lib.hid q5
 have HB0:=Lib.hid hb0
 clear q4 q5 hb0
 go_enter Tryz.func95,Tryz.ntmps95
 go_wp2_with (first
  |(go_at_call 120;(with_reducible refine (P1.out.at _).mono ?_);rintro e w1 ⟨u,rfl,hi,hb⟩;have z7:=zfh w1 rfl;have A4:=Lib.hid ((Q4.out.below hb).alloc (.cells #[.bool false,.slice none 0 0,.int .i64 0] 131));have A5:=Lib.hid ((Q5.out.below hb).alloc (.cells #[.bool false,.slice none 0 0,.int .i64 0] 131));have hs7:w.heap.size+2≤w1.heap.size:=by have:=hb.size;simp at this;omega
    have AB:=Lib.hid ((zak HB0.out hb HB0.out.size).alloc (by omega) (.cells #[.bool false,.slice none 0 0,.int .i64 0] 131));have AI:=Lib.hid (hi.below ((Below.refl w1.heap.size w1).alloc (Nat.le_refl _) (.cells #[.bool false,.slice none 0 0,.int .i64 0] 131)));have HO:=Lib.hid (zco hi);clear hb hi)
  |((with_reducible refine za2 (m:=N1) (u:=u) (sd:=s1) (.tmp 7) (.tmp 14) w1.heap.size z7 HO.out ?_ ?_ ?_ ?_ ?_);rfl;rfl;rfl;rfl;intro w2 ho p7;have B4:=Lib.hid (A4.out.only ho (by omega));have B5:=Lib.hid (A5.out.only ho (by omega));have BI:=Lib.hid (AI.out.rec ho z7);have BB:=Lib.hid (zag AB.out ho (by omega) (Nat.le_of_lt A4.out.lt));clear ho AB AI z7)
  |(go_at_call 120;(with_reducible refine (P2.out.at _).mono ?_);rintro e w3 ⟨v,rfl,hi,hb⟩;have z9:=zfh w3 rfl;have hs9:w1.heap.size+1≤w3.heap.size:=by have:=hb.size;have:=p7.lt;omega
    have D4:=Lib.hid ((B4.out.below hb).alloc (.cells #[.bool false,.slice none 0 0,.int .i64 0] 131));have D5:=Lib.hid ((B5.out.below hb).alloc (.cells #[.bool false,.slice none 0 0,.int .i64 0] 131));have D7:=Lib.hid ((p7.below hb).alloc (.cells #[.bool false,.slice none 0 0,.int .i64 0] 131));have DB:=Lib.hid ((zak BB.out hb BB.out.size).alloc (by omega) (.cells #[.bool false,.slice none 0 0,.int .i64 0] 131));have DI:=Lib.hid ((BI.out.below hb).below ((Below.refl w3.heap.size w3).alloc (Nat.le_refl _) (.cells #[.bool false,.slice none 0 0,.int .i64 0] 131)));have DJ:=Lib.hid (hi.below ((Below.refl w3.heap.size w3).alloc (Nat.le_refl _) (.cells #[.bool false,.slice none 0 0,.int .i64 0] 131)));have HO2:=Lib.hid (zco hi);clear hb hi)
  |((with_reducible refine za2 (m:=N2) (u:=v) (sd:=s2) (.tmp 9) (.tmp 19) w3.heap.size z9 HO2.out ?_ ?_ ?_ ?_ ?_);rfl;rfl;rfl;rfl;intro w4 ho p9;have HT0:Hid (TwoS w w1.heap.size w3.heap.size N1 u s1 d1 N2 v s2 d2 w4):=Lib.hid ⟨D7.out.only ho (by omega),p9,⟨_,_,_,D4.out.only ho (by omega)⟩,⟨_,_,_,D5.out.only ho (by omega)⟩,DI.out.rec ho z9,DJ.out.rec ho z9,zag DB.out ho (by omega) (Nat.le_of_lt D4.out.lt),by omega,by omega⟩;clear ho z9 DB DI DJ p7 p9))
 refine wp_region_held_drew (S:=TwoS w w1.heap.size w3.heap.size N1 u s1 d1 N2 v s2 d2) (by kernel_rfl) (by have h:=HT0.out;exact ⟨h.r7,h.r9,h.r4,h.r5,h.i1,h.i2,h.bel.drew,h.n7,h.n9⟩) (fun hHeld=>?_)
 refine tk (i:=0) rfl (zes (by rfl) (.tmp 7) rfl w1.heap.size rfl N1 u s1 (fun _ h=>h.r7)) hHeld ?_
 refine tk (i:=1) rfl (zes (by rfl) (.tmp 9) rfl w3.heap.size rfl N2 v s2 (fun _ h=>h.r9)) hHeld ?_
 refine tg (i:=2) (.bool true) rfl hHeld ?_
 refine tg (i:=3) (.bool true) rfl hHeld ?_
 refine tg (i:=4) (.bool true) rfl hHeld ?_
 refine tg (i:=5) (.bool true) rfl hHeld ?_
 refine tg (i:=6) (.bool true) rfl hHeld ?_
 refine tg (i:=7) (.string s) rfl hHeld ?_
 refine tr 8 rfl (fun K hK=>?_)
 go_simp
 refine (C1.out.at _).mono ?_
 rintro e wc8 ⟨rfl,hbc⟩
 refine hK.out _ _ (hHeld.below hbc) (fun hHeld2=>?_)
 clear hK K hbc hHeld
 have hHeld:=hHeld2
 clear hHeld2
 try simp only [putS]
 refine tg (i:=9) (.bool true) rfl hHeld ?_
 refine tg (i:=10) (.bool true) rfl hHeld ?_
 refine tg (i:=11) (.string t) rfl hHeld ?_
 refine tr 12 rfl (fun K hK=>?_)
 go_simp
 refine (C2.out.at _).mono ?_
 rintro e wc12 ⟨rfl,hbc⟩
 refine hK.out _ _ (hHeld.below hbc) (fun hHeld2=>?_)
 clear hK K hbc hHeld
 have hHeld:=hHeld2
 clear hHeld2
 try simp only [putS]
 refine tg (i:=13) (.bool c2) rfl hHeld ?_
 obtain ⟨n4,z4,k4,e4⟩:=hHeld.r4
 have one1:=HO.out
 have one2:=HO2.out
 refine tr 14 rfl (fun K hK=>?_)
 rw [if_pos (by rfl)]
 refine zht (.tmp 4) (.tmp 21) rfl w.heap.size rfl rfl e4 one1 (fun w5 ho5 x4=>?_)
 refine hK.out _ _ (hHeld.set4 ho5 x4) (fun hHeld2=>?_)
 clear hK K ho5 e4 hHeld
 have hHeld:=hHeld2
 clear hHeld2
 try simp only [putS]
 obtain ⟨n5,z5,k5,e5⟩:=hHeld.r5
 refine tr 15 rfl (fun K hK=>?_)
 rw [if_pos (by rfl)]
 refine zht (.tmp 5) (.tmp 22) rfl (w.heap.size+1) rfl rfl e5 one2 (fun w6 ho6 x5=>?_)
 have y4:=x4.only ho6 (by omega)
 refine hK.out _ _ (hHeld.set5 ho6 x5) (fun hHeld2=>?_)
 clear hK K ho6 e5 hHeld
 have hHeld:=hHeld2
 clear hHeld2
 try simp only [putS]
 refine tr 16 rfl (fun K hK=>?_)
 go_simp
 refine hK.out _ _ hHeld (fun hHeld2=>?_)
 have HF:=Lib.hid hHeld
 clear hK K hHeld2 hHeld
 try simp only [putS]
 refine wpAnyH_done (by kernel_rfl) ?_ _
 go_wp2_with fail
 exact bodyPost_ret (v:=.tuple #[.agg #[.bool N1,u,.int .i64 s1],.agg #[.bool N2,v,.int .i64 s2],.bool c2]) (zsv (p:=4) (p2:=5) (q:=6) Tryz.results95 _ (.bool c2) rfl rfl rfl y4 x5) rfl ⟨u,v,rfl,HF.out.i1,HF.out.i2,HF.out.bel⟩
theorem zos (s:ByteArray) (hs:s.size≤1000000000) (h:chk s.data.toList=true):∃ (N:Bool) (sc:Nat) (ds:List Nat),Dec s.data.toList N ds sc∧zha s N sc ds true:=by
 obtain ⟨h1,h2⟩:=zuw h
 exact ⟨_,_,_,h2,fun W=>zh4 s W hs h1 _ _ _ (Lib.hid rfl) (Lib.hid rfl) (Lib.hid rfl)⟩
theorem zot (s:ByteArray) (hs:s.size≤1000000000) (c:Bool) (h:c=chk s.data.toList):zet s c:=fun W=>zus s c W hs (Lib.hid h)
def TwoAs (s t:ByteArray) (N1:Bool) (s1:Int) (d1:List Nat) (N2:Bool) (s2:Int) (d2:List Nat) (r:Bool):Prop:=
 ∀ w,Calls Tryz.prog 95 #[.string s,.string t] w fun e w'=>∃ u v,e=.returned (.tuple #[.agg #[.bool N1,u,.int .i64 s1],.agg #[.bool N2,v,.int .i64 s2],.bool r])∧Ints w' u d1∧Ints w' v d2∧Below w.heap.size w w'
theorem TwoAs.at {s t:ByteArray} {N1 N2 r:Bool} {s1 s2:Int} {d1 d2:List Nat} (h:TwoAs s t N1 s1 d1 N2 s2 d2 r) (w:World):Calls Tryz.prog 95 #[.string s,.string t] w fun e w'=>∃ u v,e=.returned (.tuple #[.agg #[.bool N1,u,.int .i64 s1],.agg #[.bool N2,v,.int .i64 s2],.bool r])∧Ints w' u d1∧Ints w' v d2∧Below w.heap.size w w':=h w
theorem twoYes (s t:ByteArray) (hs:s.size≤1000000000) (ht:t.size≤1000000000) (h:chk s.data.toList=true) (h2:chk t.data.toList=true):
 ∃ (N1:Bool) (s1:Nat) (d1:List Nat) (N2:Bool) (s2:Nat) (d2:List Nat),Dec s.data.toList N1 d1 s1∧Dec t.data.toList N2 d2 s2∧TwoAs s t N1 s1 d1 N2 s2 d2 true:=by
 obtain ⟨N1,s1,d1,a1,p1⟩:=zos s hs h
 obtain ⟨N2,s2,d2,a2,p2⟩:=zos t ht h2
 exact ⟨N1,s1,d1,N2,s2,d2,a1,a2,fun w=>two_ttt s t N1 N2 s1 s2 d1 d2 true w (Lib.hid p1) (Lib.hid p2) (Lib.hid (zot s hs true h.symm)) (Lib.hid (zot t ht true h2.symm))⟩
theorem zm0 (W:World):Below W.heap.size W ((W.alloc (.cells #[.bool false,.slice none 0 0,.int .i64 0] 131)).alloc (.cells #[.bool false,.slice none 0 0,.int .i64 0] 131)):=((Below.refl _ _).alloc (Nat.le_refl _) _).alloc (by simp) _
theorem zwv {l r:List UInt8} {N1 N2 n:Bool} {d1 d2 zs:List Nat} {s1 s2 S:Nat} (a:Dec l N1 d1 s1) (b:Dec r N2 d2 s2) (e1:s1≤S) (e2:s2≤S) (eS:S≤20)
 (hv:sv n (zav zs)=sv N1 (zav d1*10 ^ (S - s1))+sv (!N2) (zav d2*10 ^ (S - s2))):cmpZ (dval l) (dval r)=if zav zs=0 then 0 else if n=true then -1 else 1:=by
 have e:nval n zs S=dval l - dval r:=by
  rw [zuv e1 e2 (by omega) hv,a.val,← b.val]
  unfold nval
  rw [sv_not];omega
 have hp:0 < 10 ^ (54 - S):=Nat.pow_pos (by decide)
 unfold nval at e
 by_cases h0:zav zs=0
 ·rw [if_pos h0]
  rw [h0,Nat.zero_mul,sv_zero] at e
  rw [zn4];omega
 ·rw [if_neg h0]
  have hq:0 < zav zs*10 ^ (54 - S):=Nat.mul_pos (by omega) hp
  generalize zav zs*10 ^ (54 - S)=q at*
  unfold cmpZ
  cases n with
  | true=>
    have:sv true q=-(q:Int):=rfl
    rw [if_pos (by omega:dval l < dval r)];rfl
  | false=>
    have:sv false q=(q:Int):=rfl
    rw [if_neg (by omega:¬ dval l < dval r),if_pos (by omega:dval r < dval l)];rfl
theorem zux (s t:ByteArray) (w:World) (hs:s.size≤1000000000) (ht:t.size≤1000000000) (h:chk s.data.toList=true) (h2:chk t.data.toList=true):
 Calls Tryz.prog 69 #[.string s,.string t] w fun e w'=>e=.returned (.int .i64 (cmpZ (dval s.data.toList) (dval t.data.toList)))∧Below w.heap.size w w':=by
 obtain ⟨N1,s1,d1,N2,s2,d2,a1,a2,HT⟩:=twoYes s t hs ht h h2
 obtain ⟨S,e1,e2,e3⟩:∃ S,s1≤S∧s2≤S∧(S=s1∨S=s2):=⟨max s1 s2,by omega,by omega,by omega⟩
 have eS:S≤20:=by have:=a1.sc;have:=a2.sc;omega
 have A:=Lib.hid (And.intro a1 (And.intro a2 (And.intro e1 (And.intro e2 (And.intro e3 eS)))))
 have HC:=Lib.hid HT
 have HH:=Lib.hid (And.intro h h2)
 obtain ⟨r,hr⟩:∃ r,r=cmpZ (dval s.data.toList) (dval t.data.toList):=⟨_,rfl⟩
 rw [← hr]
 have HR:=Lib.hid hr
 clear a1 a2 e1 e2 e3 eS HT h h2 hr
 go_enter Tryz.func69,Tryz.ntmps69
 go_upto_region 5 with (first
  |(go_at_call 95;(with_reducible refine (HC.out.at _).mono ?_);rintro e w1 ⟨u,v,rfl,hu,hv,hb⟩;have q6:Rec ((w1.alloc (.cells #[.bool false,.slice none 0 0,.int .i64 0] 131)).alloc (.cells #[.bool false,.slice none 0 0,.int .i64 0] 131)) w1.heap.size false (.slice none 0 0) 0:=(zfh w1 rfl).alloc _;have q7:Rec ((w1.alloc (.cells #[.bool false,.slice none 0 0,.int .i64 0] 131)).alloc (.cells #[.bool false,.slice none 0 0,.int .i64 0] 131)) (w1.heap.size+1) false (.slice none 0 0) 0:=zfh _ (by simp)
    have UO:=Lib.hid (And.intro (zco hu) (zco hv));have UV:=Lib.hid (And.intro (hu.below (zm0 w1)) (And.intro (hv.below (zm0 w1)) (zak hb (zm0 w1) hb.size)));have hw1:=hb.size;clear hu hv hb)
  |((with_reducible refine za2 (m:=N1) (u:=u) (sd:=s1) (.tmp 5) (.tmp 13) w1.heap.size q6 UO.out.1 ?_ ?_ ?_ ?_ ?_);rfl;rfl;rfl;rfl;intro w2 ho p6;have Q7:=Lib.hid (q7.only ho (by omega));have UV2:=Lib.hid (And.intro (UV.out.1.rec ho q6) (And.intro (UV.out.2.1.rec ho q6) (zag UV.out.2.2 ho (by omega) (Nat.le_of_lt (Nat.lt_of_le_of_lt hw1 q6.lt)))));clear ho UV q6 q7;have q7:=Q7.out;clear Q7)
  |((with_reducible refine za2 (m:=N2) (u:=v) (sd:=s2) (.tmp 6) (.tmp 14) (w1.heap.size+1) q7 UO.out.2 ?_ ?_ ?_ ?_ ?_);rfl;rfl;rfl;rfl;intro w3 ho p7;have P6:=Lib.hid (p6.only ho (by omega));have UV3:=Lib.hid (And.intro (UV2.out.1.rec ho q7) (And.intro (UV2.out.2.1.rec ho q7) (zag UV2.out.2.2 ho (by omega) (Nat.le_of_lt (Nat.lt_of_le_of_lt (Nat.le_succ_of_le hw1) q7.lt)))));clear ho UV2 q7 p6;have p6:=P6.out;clear P6;have c0:=p7.c0;have f0:w3.frozen? ⟨w1.heap.size+1,0,none⟩=false:=za9 p7 0))
 have ho4:Only (w1.heap.size+1) w3 (w3.setCell ⟨w1.heap.size+1,0,none⟩ (.bool (!N2))):=(Only.refl _ _).setCell _ _ _
 have p7s:=p7.set0 (!N2)
 have P6:=Lib.hid (p6.only ho4 (by omega))
 have UV4:=Lib.hid (And.intro (UV3.out.1.rec ho4 p7) (And.intro (UV3.out.2.1.rec ho4 p7) (zag UV3.out.2.2 ho4 (by omega) (Nat.le_of_lt (Nat.lt_of_le_of_lt (Nat.le_succ_of_le hw1) p7.lt)))))
 have P7:=Lib.hid p7s
 clear ho4 p7s p7 p6 c0 f0 UV3
 generalize w3.setCell ⟨w1.heap.size+1,0,none⟩ (.bool (!N2))=w3s at*
 have p6:=P6.out
 have p7:=P7.out
 clear P6 P7
 go_upto_region 6 with (first
  |((with_reducible refine zbw (.tmp 5) w1.heap.size p6 ?_ ?_ ?_ ?_);rfl;rfl;rfl)
  |((with_reducible refine zbw (.tmp 6) (w1.heap.size+1) p7 ?_ ?_ ?_ ?_);rfl;rfl;rfl)
  |(go_at_call 96;(with_reducible refine (refPlus N1 (!N2) u v d1 d2 s1 s2 S _ UV4.out.1 UV4.out.2.1 A.out.1.small A.out.2.1.small A.out.2.2.1 A.out.2.2.2.1 A.out.2.2.2.2.1 (by have:=A.out.2.2.2.2.2;omega) (by have:=A.out.1.len;omega) (by have:=A.out.2.1.len;omega)).mono ?_);rintro e w4 ⟨n,z,zs,rfl,hz,hzs,hval,hlen,hb4⟩
    have HCS:=Lib.hid (zwv A.out.1 A.out.2.1 A.out.2.2.1 A.out.2.2.2.1 A.out.2.2.2.2.2 hval);have z8:=zfh w4 rfl;have HO8:=Lib.hid (zco hz)
    have HZ:=Lib.hid (And.intro (hz.below ((Below.refl w4.heap.size w4).alloc (Nat.le_refl _) (.cells #[.bool false,.slice none 0 0,.int .i64 0] 131))) (And.intro (show zs.length≤9223372036854775807 by have:=A.out.1.len;have:=A.out.2.1.len;have:=A.out.2.2.2.2.2;omega) ((zak UV4.out.2.2 hb4 UV4.out.2.2.size).alloc (Nat.le_trans UV4.out.2.2.size hb4.size) (.cells #[.bool false,.slice none 0 0,.int .i64 0] 131))));have hw4:=Nat.le_trans UV4.out.2.2.size hb4.size;clear hz hzs hval hlen hb4)
  |((with_reducible refine za2 (m:=n) (u:=z) (sd:=S) (.tmp 8) (.tmp 24) w4.heap.size z8 HO8.out ?_ ?_ ?_ ?_ ?_);rfl;rfl;rfl;rfl;intro w5 ho p8;have HY:=Lib.hid (And.intro (HZ.out.1.rec ho z8) (zag HZ.out.2.2 ho hw4 (Nat.le_of_lt (Nat.lt_of_le_of_lt hw4 z8.lt))));clear ho z8))
 have c0:=p8.c0
 have c1:=p8.c1
 by_cases h0:zav zs=0
 ·obtain rfl:r=0:=by rw [HR.out,HCS.out,if_pos h0]
  have HD0:Hid (true=decide (zav zs=0)):=Lib.hid (by simp [h0])
  clear h0 HR HCS p6 p7
  go_wp2_with (go_at_call 97;(with_reducible refine (zkp _ zs _ HY.out.1 HZ.out.2.1 true HD0.out).mono ?_);rintro e w' ⟨rfl,rfl⟩)
  go_ret
  exact ⟨rfl,HY.out.2⟩
 ·have HD0:Hid (false=decide (zav zs=0)):=Lib.hid (by simp [h0])
  have hrn:r=if n=true then -1 else 1:=by rw [HR.out,HCS.out,if_neg h0]
  cases n with
  | true=>
    obtain rfl:r=-1:=by rw [hrn,if_pos rfl]
    clear h0 HR HCS hrn p6 p7
    go_wp2_with (go_at_call 97;(with_reducible refine (zkp _ zs _ HY.out.1 HZ.out.2.1 false HD0.out).mono ?_);rintro e w' ⟨rfl,rfl⟩)
    go_ret
    exact ⟨rfl,HY.out.2⟩
  | false=>
    obtain rfl:r=1:=by rw [hrn,if_neg (by decide)]
    clear h0 HR HCS hrn p6 p7
    go_wp2_with (go_at_call 97;(with_reducible refine (zkp _ zs _ HY.out.1 HZ.out.2.1 false HD0.out).mono ?_);rintro e w' ⟨rfl,rfl⟩)
    go_ret
    exact ⟨rfl,HY.out.2⟩
structure Whole (l:List UInt8) (neg:Bool) (x:List UInt8):Prop where
 eq:l=(if neg then [45] else [])++x++[46,48]
 all:x.all za1=true
 ne:x≠[]
 len:x.length≤40
 lead:2≤x.length→x.headD 0≠48
theorem zra (u:Nat) (t:List UInt8):(if u < 10 then [] else Lib.decDigits (u / 10))++UInt8.ofNat (48+u % 10)::t=Lib.decDigits u++t:=by
 conv=>rhs;rw [Lib.decDigits]
 by_cases h:u < 10
 ·rw [if_pos h,dif_pos h,Nat.mod_eq_of_lt h];rfl
 ·rw [if_neg h,dif_neg h];simp
end Go.Proofs.YtanbgdhmfjgihaaGreatDoor
