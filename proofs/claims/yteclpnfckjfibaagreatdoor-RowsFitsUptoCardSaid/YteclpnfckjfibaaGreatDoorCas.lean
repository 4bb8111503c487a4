/- Texts of one kind, one behind the other: each says ahead of itself what it shows. -/
import Derived.Test.YteclpnfckjfibaaGreatDoorCar
import Derived.Lib.ItoaMem
import Derived.Lib.ParseIntB
import Derived.Lib.Strings
import Derived.Lib.ItoaLen
import Derived.Test.YteclpnfckjfibaaGreatDoorCad
namespace Go.Proofs.YteclpnfckjfibaaGreatDoor
open Go.RowKit
set_option maxHeartbeats 12800000
set_option maxRecDepth 20000
theorem zjc {op:Oper} {a:Act} {w:World} {K:Act→World→Prop} {Q:Exit→Act→World→Prop} {n m:Bool} {v u:Value} {sc sd:Int} (x y:Operand) (ho:op.op=.store 224 x y) (hd:op.dst=none) (g:Nat)
 (hx:a.eval x=.pointer (some ⟨g,0,none⟩)) (hy:a.eval y=.agg #[.bool m,u,.int .i64 sd]) (hg:Rec w g n v sc) (h1:u.oneCell'=true) (h:∀ w',Only g w w'→Rec w' g m u sd→K a w'):op.wp Tryz.prog a w K Q:=
 zl6 x y ho g hx hy hg h1 fun w' h1 h2=>by rw [hd];exact h w' h1 h2
theorem zpt (neg:Bool) (v:Value) (ds:List Nat) (sc scale:Nat) (w:World) (h:Ints w v ds) (hs:sc≤scale) (l1:scale≤1000000000) (l2:ds.length≤1000000000) (xs:List Nat) (hx:Hid (xs=List.replicate (scale - sc) 0++ds)):
 Calls Tryz.prog 243 #[.agg #[.bool neg,v,.int .i64 sc],.int .i64 scale] w fun e w'=>∃ z,e=.returned z∧Ints w' z xs∧Below w.heap.size w w':=by
 rw [hx.out];exact zyq neg v ds sc scale w h hs l1 l2
structure ztq (w:World) (N1:Bool) (u:Value) (s1:Int) (N2:Bool) (v:Value) (s2:Int) (x:Value) (dx:List Nat) (y:Value) (dy:List Nat) (w':World):Prop where
 r2:Rec w' w.heap.size N1 u s1
 r3:Rec w' (w.heap.size+1) N2 v s2
 r4:∃ n z k,Rec w' (w.heap.size+2) n z k
 i1:Ints w' x dx
 i2:Ints w' y dy
 bel:Below w.heap.size w w'
theorem ztq.below {w w' w2:World} {N1 N2:Bool} {u v x y:Value} {s1 s2:Int} {dx dy:List Nat} (h:ztq w N1 u s1 N2 v s2 x dx y dy w') (k:Below w'.heap.size w' w2):ztq w N1 u s1 N2 v s2 x dx y dy w2:=
 ⟨h.r2.below k,h.r3.below k,(have ⟨n,z,q,r⟩:=h.r4;⟨n,z,q,r.below k⟩),h.i1.below k,h.i2.below k,zab h.bel k (Nat.le_of_lt h.r2.lt)⟩
def z2p (w:World) (V:Int) (L:Nat) (S:Int) (e:Ending) (w':World):Prop:=
 ∃ n z zs,e=.returned (.agg #[.bool n,z,.int .i64 S])∧Ints w' z zs∧zcb zs∧sv n (za4 zs)=V∧zs.length≤L∧Below w.heap.size w w'
theorem sv_sum (n:Bool) {a b c:Nat} (h:c=a+b):sv n c=sv n a+sv n b:=by
 unfold sv;cases n <;> simp <;> omega
theorem z2q {n m:Bool} {a b c:Nat} (hn:n≠m) (h:c+b=a):sv n c=sv n a+sv m b:=by
 unfold sv;cases n <;> cases m <;> simp at hn ⊢ <;> omega
theorem z2r {n m:Bool} {a b c:Nat} (hn:n≠m) (h:c+a=b):sv m c=sv n a+sv m b:=by
 unfold sv;cases n <;> cases m <;> simp at hn ⊢ <;> omega
theorem refPlus (N1 N2:Bool) (u v:Value) (d1 d2:List Nat) (s1 s2 S:Nat) (w:World) (I1:Ints w u d1) (I2:Ints w v d2) (sm1:zcb d1) (sm2:zcb d2) (h1:s1≤S) (h2:s2≤S) (h3:S=s1∨S=s2) (b1:S≤1000000) (l1:d1.length≤100000000) (l2:d2.length≤100000000):
 Calls Tryz.prog 214 #[.agg #[.bool N1,u,.int .i64 s1],.agg #[.bool N2,v,.int .i64 s2]] w (z2p w (sv N1 (za4 d1*10 ^ (S - s1))+sv N2 (za4 d2*10 ^ (S - s2))) (d1.length+d2.length+2*S+1) S):=by
 obtain ⟨dx,hdx⟩:∃ dx,dx=List.replicate (S - s1) 0++d1:=⟨_,rfl⟩
 obtain ⟨dy,hdy⟩:∃ dy,dy=List.replicate (S - s2) 0++d2:=⟨_,rfl⟩
 have hvx:za4 d1*10 ^ (S - s1)=za4 dx:=by rw [hdx,znw]
 have hvy:za4 d2*10 ^ (S - s2)=za4 dy:=by rw [hdy,znw]
 have hlx:dx.length=S - s1+d1.length:=by rw [hdx,zta]
 have hly:dy.length=S - s2+d2.length:=by rw [hdy,zta]
 rw [hvx,hvy]
 have HDX:=Lib.hid hdx
 have HDY:=Lib.hid hdy
 have hlim:dx.length≤1000000000∧dy.length≤1000000000∧dx.length+dy.length+1≤d1.length+d2.length+2*S+1:=by omega
 have HLX:=Lib.hid hlim
 have hsm:zcb dx∧zcb dy∧True:=by rw [hdx,hdy];exact ⟨zri sm1,zri sm2,trivial⟩
 have HD:=Lib.hid hsm
 have HL0:=Lib.hid (And.intro l1 l2)
 have HS3:=Lib.hid h3
 generalize d1.length+d2.length+2*S+1=L at*
 obtain ⟨V,hV⟩:∃ V,V=sv N1 (za4 dx)+sv N2 (za4 dy):=⟨_,rfl⟩
 rw [← hV]
 have HVS:=Lib.hid hV.symm
 have o1:=zdm I1
 have o2:=zdm I2
 obtain ⟨W0,hW0⟩:∃ W0,W0=((w.alloc (.cells #[.bool N1,u,.int .i64 s1] 224)).alloc (.cells #[.bool N2,v,.int .i64 s2] 224)).alloc (.cells #[.bool false,.slice none 0 0,.int .i64 0] 224):=⟨_,rfl⟩
 have R2:Rec W0 w.heap.size N1 u s1:=by rw [hW0];exact zap _ (zap _ (zaf _ _ rfl))
 have R3:Rec W0 (w.heap.size+1) N2 v s2:=by rw [hW0];exact zap _ (zaf _ _ (by simp))
 have R4:Rec W0 (w.heap.size+2) false (.slice none 0 0) 0:=by rw [hW0];exact zaf _ _ (by simp)
 have hb0:Below w.heap.size w W0:=by rw [hW0];exact (((Below.refl _ _).alloc (Nat.le_refl _) _).alloc (by simp) _).alloc (by simp;omega) _
 have HR:=Lib.hid (And.intro R2 (And.intro R3 (And.intro R4 hb0)))
 have HI1:=Lib.hid (I1.below hb0)
 have HI2:=Lib.hid (I2.below hb0)
 have HW0:=Lib.hid hW0
 clear hvx hvy hlx hly hdx hdy hlim hsm sm1 sm2 I1 I2 l1 l2 h3 hV R2 R3 R4 hb0 hW0
 go_enter Tryz.func214,Tryz.ntmps214
 go_upto_if 13 with fail
 go_cut [5] (fun s5 wx=>s5=.int .i64 S∧wx=W0)
 case first=>
  by_cases hs:(s2:Int) > s1
  ·obtain rfl:S=s2:=by have:=HS3.out;omega
   go_wp2_with fail
   go_meet
   case rel=>exact ⟨rfl,HW0.out.symm⟩
  ·obtain rfl:S=s1:=by have:=HS3.out;omega
   go_wp2_with fail
   go_meet
   case rel=>exact ⟨rfl,HW0.out.symm⟩
 case rest=>
  obtain ⟨rfl,rfl⟩:=hcut
  have r2:=HR.out.1
  have r3:=HR.out.2.1
  go_upto_region 6 with (first
   |((with_reducible refine zck (.tmp 2) w.heap.size r2 ?_ ?_ ?_ ?_);rfl;rfl;rfl)
   |(go_at_call 243;(with_reducible refine (zpt N1 u d1 s1 S _ HI1.out h1 (by omega) (by have:=HL0.out;omega) dx HDX).mono ?_);rintro e wa ⟨x,rfl,hx,hba⟩;have r3a:=r3.below hba;have HA:=Lib.hid (And.intro hx hba);clear hx hba r2)
   |((with_reducible refine zck (.tmp 3) (w.heap.size+1) r3a ?_ ?_ ?_ ?_);rfl;rfl;rfl)
   |(go_at_call 243;(with_reducible refine (zpt N2 v d2 s2 S _ (HI2.out.below HA.out.2) h2 (by omega) (by have:=HL0.out;omega) dy HDY).mono ?_);rintro e wb ⟨y,rfl,hy,hbb⟩;have HB:=Lib.hid (And.intro hy hbb);clear hy hbb r3a r3))
  have HS:Hid (ztq w N1 u s1 N2 v s2 x dx y dy wb):=Lib.hid ⟨(HR.out.1.below HA.out.2).below HB.out.2,(HR.out.2.1.below HA.out.2).below HB.out.2,⟨_,_,_,(HR.out.2.2.1.below HA.out.2).below HB.out.2⟩,HA.out.1.below HB.out.2,HB.out.1,zab (zab HR.out.2.2.2 HA.out.2 HR.out.2.2.2.size) HB.out.2 (Nat.le_trans HR.out.2.2.2.size HA.out.2.size)⟩
  clear HR HA HB HI1 HI2 HL0 HS3 HDX HDY
  have c2:=HS.out.r2.c0
  have c3:=HS.out.r3.c0
  by_cases hN:N1=N2
  ·subst hN
   have HV:Hid (V=sv N1 (za4 dx+za4 dy)):=Lib.hid (by rw [← HVS.out];exact (sv_sum N1 rfl).symm)
   go_wp2_with fail
   clear c2 c3
   refine wp_region_held_drew (S:=ztq w N1 u s1 N1 v s2 x dx y dy) (by kernel_rfl) (by have h:=HS.out;exact ⟨h.r2,h.r3,h.r4,h.i1,h.i2,h.bel.drew⟩) (fun hHeld=>?_)
   refine tg (i:=0) (.pointer (some ⟨w.heap.size,0,none⟩)) rfl hHeld ?_
   refine tk (i:=1) (v:=.bool N1) rfl (Or.inl ⟨by rfl,fun W h=>by have c0:=h.r2.c0;go_simp⟩) hHeld ?_
   refine tg (i:=2) x rfl hHeld ?_
   refine tg (i:=3) y rfl hHeld ?_
   refine tg (i:=5) (.int .i64 S) rfl hHeld ?_
   refine tr 4 rfl (fun K hK=>?_)
   go_simp
   refine (refAdd x y dx dy _ hHeld.i1 hHeld.i2 HD.out.1 HD.out.2.1 HLX.out.1 HLX.out.2.1).mono ?_
   rintro e wc ⟨z,zs,rfl,hz,hzs,hv,hl,hbc⟩
   obtain ⟨pz,capz,rfl⟩:=hz.form
   have HVZ:=Lib.hid hv.out
   have HLZ:=Lib.hid hl
   clear hv hl
   refine hK.out _ _ (hHeld.below hbc) (fun hHeld2=>?_)
   clear hK K hbc hHeld
   have hHeld:=hHeld2
   clear hHeld2
   try simp only [putS]
   refine tg (i:=6) (.agg #[.bool N1,.slice pz zs.length capz,.int .i64 S]) rfl hHeld ?_
   obtain ⟨n4,z4,k4,r4⟩:=hHeld.r4
   have hlt:=hHeld.r2.lt
   have hzone:=zdm hz
   refine tr 7 rfl (fun K hK=>?_)
   rw [if_pos (by rfl)]
   refine zjc (.tmp 4) (.tmp 33) rfl rfl (w.heap.size+2) rfl rfl r4 hzone (fun w5 ho5 x4=>?_)
   have hz5:=hz.rec ho5 r4
   have hb5:=zam hHeld.bel ho5 (by omega) (Nat.le_of_lt hlt)
   refine hK.out _ _ ⟨hHeld.r2.only ho5 (by omega),hHeld.r3.only ho5 (by omega),⟨_,_,_,x4⟩,hHeld.i1.rec ho5 r4,hHeld.i2.rec ho5 r4,hb5⟩ (fun hHeld2=>?_)
   have HZ5:=Lib.hid (And.intro hz5 (And.intro hzs hb5))
   clear hK K ho5 hz hz5 hzs hb5 r4 hHeld hHeld2
   try simp only [putS]
   refine wpAnyH_done (by kernel_rfl) ?_ _
   go_wp2_with fail
   exact bodyPost_ret (v:=.agg #[.bool N1,.slice pz zs.length capz,.int .i64 S]) (zh0 (p:=4) Tryz.results214 _ rfl x4) rfl ⟨N1,_,zs,rfl,HZ5.out.1,HZ5.out.2.1,by rw [HVZ.out];exact HV.out.symm,by have:=HLZ.out;have:=HLX.out;omega,HZ5.out.2.2⟩
  ·have HNE:=Lib.hid hN
   have hNb:(N1 == N2)=false:=by simpa using hN
   have J1:=Lib.hid HS.out.i1
   have J2:=Lib.hid HS.out.i2
   obtain ⟨r,hr⟩:∃ r,r=cmpZ (za4 dx) (za4 dy):=⟨_,rfl⟩
   have HRR:=Lib.hid hr
   clear hN hr
   by_cases hlt0:za4 dx < za4 dy
   ·have HLE:=Lib.hid hlt0
    obtain rfl:r=-1:=by rw [HRR.out];unfold cmpZ;rw [if_pos (by omega)]
    clear hlt0
    go_wp2_with (go_at_call 245;(with_reducible refine (zpc x y dx dy _ J1.out J2.out HD.out.1 HD.out.2.1 (by have:=HLX.out;omega) (by have:=HLX.out;omega) _ HRR.out).mono ?_);rintro e w' ⟨rfl,rfl⟩)
    clear c2 c3
    refine wp_region_held_drew (S:=ztq w N1 u s1 N2 v s2 x dx y dy) (by kernel_rfl) (by have h:=HS.out;exact ⟨h.r2,h.r3,h.r4,h.i1,h.i2,h.bel.drew⟩) (fun hHeld=>?_)
    refine tg (i:=0) (.pointer (some ⟨w.heap.size+1,0,none⟩)) rfl hHeld ?_
    refine tk (i:=1) (v:=.bool N2) rfl (Or.inl ⟨by rfl,fun W h=>by have c0:=h.r3.c0;go_simp⟩) hHeld ?_
    refine tg (i:=2) y rfl hHeld ?_
    refine tg (i:=3) x rfl hHeld ?_
    refine tg (i:=5) (.int .i64 S) rfl hHeld ?_
    refine tr 4 rfl (fun K hK=>?_)
    go_simp
    refine (z3z y x dy dx _ hHeld.i2 hHeld.i1 HD.out.2.1 HD.out.1 (by have:=HLE.out;omega) HLX.out.2.1).mono ?_
    rintro e wc ⟨z,zs,rfl,hz,hzs,hv,hl,hbc⟩
    obtain ⟨pz,capz,rfl⟩:=hz.form
    have HVZ:=Lib.hid hv.out
    have HLZ:=Lib.hid hl
    clear hv hl
    refine hK.out _ _ (hHeld.below hbc) (fun hHeld2=>?_)
    clear hK K hbc hHeld
    have hHeld:=hHeld2
    clear hHeld2
    try simp only [putS]
    refine tg (i:=6) (.agg #[.bool N2,.slice pz zs.length capz,.int .i64 S]) rfl hHeld ?_
    obtain ⟨n4,z4,k4,r4⟩:=hHeld.r4
    have hlt:=hHeld.r2.lt
    have hzone:=zdm hz
    refine tr 7 rfl (fun K hK=>?_)
    rw [if_pos (by rfl)]
    refine zjc (.tmp 4) (.tmp 44) rfl rfl (w.heap.size+2) rfl rfl r4 hzone (fun w5 ho5 x4=>?_)
    have hz5:=hz.rec ho5 r4
    have hb5:=zam hHeld.bel ho5 (by omega) (Nat.le_of_lt hlt)
    refine hK.out _ _ ⟨hHeld.r2.only ho5 (by omega),hHeld.r3.only ho5 (by omega),⟨_,_,_,x4⟩,hHeld.i1.rec ho5 r4,hHeld.i2.rec ho5 r4,hb5⟩ (fun hHeld2=>?_)
    have HZ5:=Lib.hid (And.intro hz5 (And.intro hzs hb5))
    clear hK K ho5 hz hz5 hzs hb5 r4 hHeld hHeld2
    try simp only [putS]
    refine wpAnyH_done (by kernel_rfl) ?_ _
    go_wp2_with fail
    exact bodyPost_ret (v:=.agg #[.bool N2,.slice pz zs.length capz,.int .i64 S]) (zh0 (p:=4) Tryz.results214 _ rfl x4) rfl ⟨N2,_,zs,rfl,HZ5.out.1,HZ5.out.2.1,by rw [← HVS.out];exact z2r HNE.out HVZ.out,by have:=HLZ.out;have:=HLX.out;omega,HZ5.out.2.2⟩
   ·have HLE:=Lib.hid hlt0
    have hrn:¬ r < 0:=by rw [HRR.out];unfold cmpZ;rw [if_neg (by omega)];split <;> omega
    clear hlt0
    go_wp2_with (go_at_call 245;(with_reducible refine (zpc x y dx dy _ J1.out J2.out HD.out.1 HD.out.2.1 (by have:=HLX.out;omega) (by have:=HLX.out;omega) _ HRR.out).mono ?_);rintro e w' ⟨rfl,rfl⟩)
    clear c2 c3
    refine wp_region_held_drew (S:=ztq w N1 u s1 N2 v s2 x dx y dy) (by kernel_rfl) (by have h:=HS.out;exact ⟨h.r2,h.r3,h.r4,h.i1,h.i2,h.bel.drew⟩) (fun hHeld=>?_)
    refine tg (i:=0) (.pointer (some ⟨w.heap.size,0,none⟩)) rfl hHeld ?_
    refine tk (i:=1) (v:=.bool N1) rfl (Or.inl ⟨by rfl,fun W h=>by have c0:=h.r2.c0;go_simp⟩) hHeld ?_
    refine tg (i:=2) x rfl hHeld ?_
    refine tg (i:=3) y rfl hHeld ?_
    refine tg (i:=5) (.int .i64 S) rfl hHeld ?_
    refine tr 4 rfl (fun K hK=>?_)
    go_simp
    refine (z3z x y dx dy _ hHeld.i1 hHeld.i2 HD.out.1 HD.out.2.1 (by have:=HLE.out;omega) HLX.out.1).mono ?_
    rintro e wc ⟨z,zs,rfl,hz,hzs,hv,hl,hbc⟩
    obtain ⟨pz,capz,rfl⟩:=hz.form
    have HVZ:=Lib.hid hv.out
    have HLZ:=Lib.hid hl
    clear hv hl
    refine hK.out _ _ (hHeld.below hbc) (fun hHeld2=>?_)
    clear hK K hbc hHeld
    have hHeld:=hHeld2
    clear hHeld2
    try simp only [putS]
    refine tg (i:=6) (.agg #[.bool N1,.slice pz zs.length capz,.int .i64 S]) rfl hHeld ?_
    obtain ⟨n4,z4,k4,r4⟩:=hHeld.r4
    have hlt:=hHeld.r2.lt
    have hzone:=zdm hz
    refine tr 7 rfl (fun K hK=>?_)
    rw [if_pos (by rfl)]
    refine zjc (.tmp 4) (.tmp 51) rfl rfl (w.heap.size+2) rfl rfl r4 hzone (fun w5 ho5 x4=>?_)
    have hz5:=hz.rec ho5 r4
    have hb5:=zam hHeld.bel ho5 (by omega) (Nat.le_of_lt hlt)
    refine hK.out _ _ ⟨hHeld.r2.only ho5 (by omega),hHeld.r3.only ho5 (by omega),⟨_,_,_,x4⟩,hHeld.i1.rec ho5 r4,hHeld.i2.rec ho5 r4,hb5⟩ (fun hHeld2=>?_)
    have HZ5:=Lib.hid (And.intro hz5 (And.intro hzs hb5))
    clear hK K ho5 hz hz5 hzs hb5 r4 hHeld hHeld2
    try simp only [putS]
    refine wpAnyH_done (by kernel_rfl) ?_ _
    go_wp2_with fail
    exact bodyPost_ret (v:=.agg #[.bool N1,.slice pz zs.length capz,.int .i64 S]) (zh0 (p:=4) Tryz.results214 _ rfl x4) rfl ⟨N1,_,zs,rfl,HZ5.out.1,HZ5.out.2.1,by rw [← HVS.out];exact z2q HNE.out HVZ.out,by have:=HLZ.out;have:=HLX.out;omega,HZ5.out.2.2⟩
theorem two_ttt (s t:ByteArray) (N1 N2:Bool) (s1 s2:Int) (d1 d2:List Nat) (c2:Bool) (w:World) (P1:Hid (zld s N1 s1 d1 true)) (P2:Hid (zld t N2 s2 d2 true)) (C1:Hid (zib s true)) (C2:Hid (zib t c2)):
 Calls Tryz.prog 213 #[.string s,.string t] w fun e w'=>∃ u v,e=.returned (.tuple #[.agg #[.bool N1,u,.int .i64 s1],.agg #[.bool N2,v,.int .i64 s2],.bool c2])∧Ints w' u d1∧Ints w' v d2∧Below w.heap.size w w':=by
 have q4:Rec ((w.alloc (.cells #[.bool false,.slice none 0 0,.int .i64 0] 224)).alloc (.cells #[.bool false,.slice none 0 0,.int .i64 0] 224)) w.heap.size false (.slice none 0 0) 0:=(zjb w rfl).alloc _
 have q5:Rec ((w.alloc (.cells #[.bool false,.slice none 0 0,.int .i64 0] 224)).alloc (.cells #[.bool false,.slice none 0 0,.int .i64 0] 224)) (w.heap.size+1) false (.slice none 0 0) 0:=zjb _ (by simp)
 have hb0:Below w.heap.size w ((w.alloc (.cells #[.bool false,.slice none 0 0,.int .i64 0] 224)).alloc (.cells #[.bool false,.slice none 0 0,.int .i64 0] 224)):=((Below.refl _ _).alloc (Nat.le_refl _) _).alloc (by simp) _
 have Q4:=Lib.hid q4
 have Q5:=Lib.hid q5
 have HB0:=Lib.hid hb0
 clear q4 q5 hb0
 go_enter Tryz.func213,Tryz.ntmps213
 go_wp2_with (first
  |(go_at_call 219;(with_reducible refine (P1.out.at _).mono ?_);rintro e w1 ⟨u,rfl,hi,hb⟩;have z7:=zjb w1 rfl;have A4:=Lib.hid ((Q4.out.below hb).alloc (.cells #[.bool false,.slice none 0 0,.int .i64 0] 224));have A5:=Lib.hid ((Q5.out.below hb).alloc (.cells #[.bool false,.slice none 0 0,.int .i64 0] 224));have hs7:w.heap.size+2≤w1.heap.size:=by have:=hb.size;simp at this;omega
    have AB:=Lib.hid ((zab HB0.out hb HB0.out.size).alloc (by omega) (.cells #[.bool false,.slice none 0 0,.int .i64 0] 224));have AI:=Lib.hid (hi.below ((Below.refl w1.heap.size w1).alloc (Nat.le_refl _) (.cells #[.bool false,.slice none 0 0,.int .i64 0] 224)));have HO:=Lib.hid (zdm hi);clear hb hi)
  |((with_reducible refine zba (m:=N1) (u:=u) (sd:=s1) (.tmp 7) (.tmp 14) w1.heap.size z7 HO.out ?_ ?_ ?_ ?_ ?_);rfl;rfl;rfl;rfl;intro w2 ho p7;have B4:=Lib.hid (A4.out.only ho (by omega));have B5:=Lib.hid (A5.out.only ho (by omega));have BI:=Lib.hid (AI.out.rec ho z7);have BB:=Lib.hid (zam AB.out ho (by omega) (Nat.le_of_lt A4.out.lt));clear ho AB AI z7)
  |(go_at_call 219;(with_reducible refine (P2.out.at _).mono ?_);rintro e w3 ⟨v,rfl,hi,hb⟩;have z9:=zjb w3 rfl;have hs9:w1.heap.size+1≤w3.heap.size:=by have:=hb.size;have:=p7.lt;omega
    have D4:=Lib.hid ((B4.out.below hb).alloc (.cells #[.bool false,.slice none 0 0,.int .i64 0] 224));have D5:=Lib.hid ((B5.out.below hb).alloc (.cells #[.bool false,.slice none 0 0,.int .i64 0] 224));have D7:=Lib.hid ((p7.below hb).alloc (.cells #[.bool false,.slice none 0 0,.int .i64 0] 224));have DB:=Lib.hid ((zab BB.out hb BB.out.size).alloc (by omega) (.cells #[.bool false,.slice none 0 0,.int .i64 0] 224));have DI:=Lib.hid ((BI.out.below hb).below ((Below.refl w3.heap.size w3).alloc (Nat.le_refl _) (.cells #[.bool false,.slice none 0 0,.int .i64 0] 224)));have DJ:=Lib.hid (hi.below ((Below.refl w3.heap.size w3).alloc (Nat.le_refl _) (.cells #[.bool false,.slice none 0 0,.int .i64 0] 224)));have HO2:=Lib.hid (zdm hi);clear hb hi)
  |((with_reducible refine zba (m:=N2) (u:=v) (sd:=s2) (.tmp 9) (.tmp 19) w3.heap.size z9 HO2.out ?_ ?_ ?_ ?_ ?_);rfl;rfl;rfl;rfl;intro w4 ho p9;have HT0:Hid (TwoS w w1.heap.size w3.heap.size N1 u s1 d1 N2 v s2 d2 w4):=Lib.hid ⟨D7.out.only ho (by omega),p9,⟨_,_,_,D4.out.only ho (by omega)⟩,⟨_,_,_,D5.out.only ho (by omega)⟩,DI.out.rec ho z9,DJ.out.rec ho z9,zam DB.out ho (by omega) (Nat.le_of_lt D4.out.lt),by omega,by omega⟩;clear ho z9 DB DI DJ p7 p9))
 refine wp_region_held_drew (S:=TwoS w w1.heap.size w3.heap.size N1 u s1 d1 N2 v s2 d2) (by kernel_rfl) (by have h:=HT0.out;exact ⟨h.r7,h.r9,h.r4,h.r5,h.i1,h.i2,h.bel.drew,h.n7,h.n9⟩) (fun hHeld=>?_)
 refine tk (i:=0) rfl (zia (by rfl) (.tmp 7) rfl w1.heap.size rfl N1 u s1 (fun _ h=>h.r7)) hHeld ?_
 refine tk (i:=1) rfl (zia (by rfl) (.tmp 9) rfl w3.heap.size rfl N2 v s2 (fun _ h=>h.r9)) hHeld ?_
 refine tg (i:=2) (.bool true) rfl hHeld ?_
 refine tg (i:=3) (.bool true) rfl hHeld ?_
 refine tg (i:=4) (.bool true) rfl hHeld ?_
 refine tg (i:=5) (.bool true) rfl hHeld ?_
 refine tg (i:=6) (.bool true) rfl hHeld ?_
 refine tg (i:=7) (.string s) rfl hHeld ?_
 refine tr 8 rfl (fun K hK=>?_)
 go_simp
 refine (C1.out.at _).mono ?_
 rintro e wc8 ⟨rfl,hbc⟩
 refine hK.out _ _ (hHeld.below hbc) (fun hHeld2=>?_)
 clear hK K hbc hHeld
 have hHeld:=hHeld2
 clear hHeld2
 try simp only [putS]
 refine tg (i:=9) (.bool true) rfl hHeld ?_
 refine tg (i:=10) (.bool true) rfl hHeld ?_
 refine tg (i:=11) (.string t) rfl hHeld ?_
 refine tr 12 rfl (fun K hK=>?_)
 go_simp
 refine (C2.out.at _).mono ?_
 rintro e wc12 ⟨rfl,hbc⟩
 refine hK.out _ _ (hHeld.below hbc) (fun hHeld2=>?_)
 clear hK K hbc hHeld
 have hHeld:=hHeld2
 clear hHeld2
 try simp only [putS]
 refine tg (i:=13) (.bool c2) rfl hHeld ?_
 obtain ⟨n4,z4,k4,e4⟩:=hHeld.r4
 have one1:=HO.out
 have one2:=HO2.out
 refine tr 14 rfl (fun K hK=>?_)
 rw [if_pos (by rfl)]
 refine zl6 (.tmp 4) (.tmp 21) rfl w.heap.size rfl rfl e4 one1 (fun w5 ho5 x4=>?_)
 refine hK.out _ _ (hHeld.set4 ho5 x4) (fun hHeld2=>?_)
 clear hK K ho5 e4 hHeld
 have hHeld:=hHeld2
 clear hHeld2
 try simp only [putS]
 obtain ⟨n5,z5,k5,e5⟩:=hHeld.r5
 refine tr 15 rfl (fun K hK=>?_)
 rw [if_pos (by rfl)]
 refine zl6 (.tmp 5) (.tmp 22) rfl (w.heap.size+1) rfl rfl e5 one2 (fun w6 ho6 x5=>?_)
 have y4:=x4.only ho6 (by omega)
 refine hK.out _ _ (hHeld.set5 ho6 x5) (fun hHeld2=>?_)
 clear hK K ho6 e5 hHeld
 have hHeld:=hHeld2
 clear hHeld2
 try simp only [putS]
 refine tr 16 rfl (fun K hK=>?_)
 go_simp
 refine hK.out _ _ hHeld (fun hHeld2=>?_)
 have HF:=Lib.hid hHeld
 clear hK K hHeld2 hHeld
 try simp only [putS]
 refine wpAnyH_done (by kernel_rfl) ?_ _
 go_wp2_with fail
 exact bodyPost_ret (v:=.tuple #[.agg #[.bool N1,u,.int .i64 s1],.agg #[.bool N2,v,.int .i64 s2],.bool c2]) (zwz (p:=4) (p2:=5) (q:=6) Tryz.results213 _ (.bool c2) rfl rfl rfl y4 x5) rfl ⟨u,v,rfl,HF.out.i1,HF.out.i2,HF.out.bel⟩
theorem zsh (s:ByteArray) (hs:s.size≤1000000000) (h:chk s.data.toList=true):∃ (N:Bool) (sc:Nat) (ds:List Nat),Dec s.data.toList N ds sc∧zld s N sc ds true:=by
 obtain ⟨h1,h2⟩:=z0b h
 exact ⟨_,_,_,h2,fun W=>zmg s W hs h1 _ _ _ (Lib.hid rfl) (Lib.hid rfl) (Lib.hid rfl)⟩
theorem zsi (s:ByteArray) (hs:s.size≤1000000000) (c:Bool) (h:c=chk s.data.toList):zib s c:=fun W=>zy0 s c W hs (Lib.hid h)
def TwoAs (s t:ByteArray) (N1:Bool) (s1:Int) (d1:List Nat) (N2:Bool) (s2:Int) (d2:List Nat) (r:Bool):Prop:=
 ∀ w,Calls Tryz.prog 213 #[.string s,.string t] w fun e w'=>∃ u v,e=.returned (.tuple #[.agg #[.bool N1,u,.int .i64 s1],.agg #[.bool N2,v,.int .i64 s2],.bool r])∧Ints w' u d1∧Ints w' v d2∧Below w.heap.size w w'
theorem TwoAs.at {s t:ByteArray} {N1 N2 r:Bool} {s1 s2:Int} {d1 d2:List Nat} (h:TwoAs s t N1 s1 d1 N2 s2 d2 r) (w:World):Calls Tryz.prog 213 #[.string s,.string t] w fun e w'=>∃ u v,e=.returned (.tuple #[.agg #[.bool N1,u,.int .i64 s1],.agg #[.bool N2,v,.int .i64 s2],.bool r])∧Ints w' u d1∧Ints w' v d2∧Below w.heap.size w w':=h w
theorem twoYes (s t:ByteArray) (hs:s.size≤1000000000) (ht:t.size≤1000000000) (h:chk s.data.toList=true) (h2:chk t.data.toList=true):
 ∃ (N1:Bool) (s1:Nat) (d1:List Nat) (N2:Bool) (s2:Nat) (d2:List Nat),Dec s.data.toList N1 d1 s1∧Dec t.data.toList N2 d2 s2∧TwoAs s t N1 s1 d1 N2 s2 d2 true:=by
 obtain ⟨N1,s1,d1,a1,p1⟩:=zsh s hs h
 obtain ⟨N2,s2,d2,a2,p2⟩:=zsh t ht h2
 exact ⟨N1,s1,d1,N2,s2,d2,a1,a2,fun w=>two_ttt s t N1 N2 s1 s2 d1 d2 true w (Lib.hid p1) (Lib.hid p2) (Lib.hid (zsi s hs true h.symm)) (Lib.hid (zsi t ht true h2.symm))⟩
theorem zqz (W:World):Below W.heap.size W ((W.alloc (.cells #[.bool false,.slice none 0 0,.int .i64 0] 224)).alloc (.cells #[.bool false,.slice none 0 0,.int .i64 0] 224)):=((Below.refl _ _).alloc (Nat.le_refl _) _).alloc (by simp) _
theorem Rec.drew {w:World} {g:Nat} {n:Bool} {v:Value} {sc:Int} (h:Rec w g n v sc):Rec w.drew g n v sc:=h
theorem z2s {l r:List UInt8} {N1 N2 n:Bool} {d1 d2 zs:List Nat} {s1 s2 S:Nat} (a:Dec l N1 d1 s1) (b:Dec r N2 d2 s2) (e1:s1≤S) (e2:s2≤S) (eS:S≤20)
 (hv:sv n (za4 zs)=sv N1 (za4 d1*10 ^ (S - s1))+sv (!N2) (za4 d2*10 ^ (S - s2))):cmpZ (dval l) (dval r)=if za4 zs=0 then 0 else if n=true then -1 else 1:=by
 have e:nval n zs S=dval l - dval r:=by
  rw [z0a e1 e2 (by omega) hv,a.val,← b.val]
  unfold nval
  rw [sv_not];omega
 have hp:0 < 10 ^ (54 - S):=Nat.pow_pos (by decide)
 unfold nval at e
 by_cases h0:za4 zs=0
 ·rw [if_pos h0]
  rw [h0,Nat.zero_mul,sv_zero] at e
  rw [zq7];omega
 ·rw [if_neg h0]
  have hq:0 < za4 zs*10 ^ (54 - S):=Nat.mul_pos (by omega) hp
  generalize za4 zs*10 ^ (54 - S)=q at*
  unfold cmpZ
  cases n with
  | true=>
    have:sv true q=-(q:Int):=rfl
    rw [if_pos (by omega:dval l < dval r)];rfl
  | false=>
    have:sv false q=(q:Int):=rfl
    rw [if_neg (by omega:¬ dval l < dval r),if_pos (by omega:dval r < dval l)];rfl
theorem z0c (s t:ByteArray) (w:World) (hs:s.size≤1000000000) (ht:t.size≤1000000000) (h:chk s.data.toList=true) (h2:chk t.data.toList=true):
 Calls Tryz.prog 181 #[.string s,.string t] w fun e w'=>e=.returned (.int .i64 (cmpZ (dval s.data.toList) (dval t.data.toList)))∧Below w.heap.size w w':=by
 obtain ⟨N1,s1,d1,N2,s2,d2,a1,a2,HT⟩:=twoYes s t hs ht h h2
 obtain ⟨S,e1,e2,e3⟩:∃ S,s1≤S∧s2≤S∧(S=s1∨S=s2):=⟨max s1 s2,by omega,by omega,by omega⟩
 have eS:S≤20:=by have:=a1.sc;have:=a2.sc;omega
 have A:=Lib.hid (And.intro a1 (And.intro a2 (And.intro e1 (And.intro e2 (And.intro e3 eS)))))
 have HC:=Lib.hid HT
 have HH:=Lib.hid (And.intro h h2)
 obtain ⟨r,hr⟩:∃ r,r=cmpZ (dval s.data.toList) (dval t.data.toList):=⟨_,rfl⟩
 rw [← hr]
 have HR:=Lib.hid hr
 clear a1 a2 e1 e2 e3 eS HT h h2 hr
 go_enter Tryz.func181,Tryz.ntmps181
 go_upto_region 5 with (first
  |(go_at_call 213;(with_reducible refine (HC.out.at _).mono ?_);rintro e w1 ⟨u,v,rfl,hu,hv,hb⟩;have q6:Rec ((w1.alloc (.cells #[.bool false,.slice none 0 0,.int .i64 0] 224)).alloc (.cells #[.bool false,.slice none 0 0,.int .i64 0] 224)) w1.heap.size false (.slice none 0 0) 0:=(zjb w1 rfl).alloc _;have q7:Rec ((w1.alloc (.cells #[.bool false,.slice none 0 0,.int .i64 0] 224)).alloc (.cells #[.bool false,.slice none 0 0,.int .i64 0] 224)) (w1.heap.size+1) false (.slice none 0 0) 0:=zjb _ (by simp)
    have UO:=Lib.hid (And.intro (zdm hu) (zdm hv));have UV:=Lib.hid (And.intro (hu.below (zqz w1)) (And.intro (hv.below (zqz w1)) (zab hb (zqz w1) hb.size)));have hw1:=hb.size;clear hu hv hb)
  |((with_reducible refine zba (m:=N1) (u:=u) (sd:=s1) (.tmp 5) (.tmp 13) w1.heap.size q6 UO.out.1 ?_ ?_ ?_ ?_ ?_);rfl;rfl;rfl;rfl;intro w2 ho p6;have Q7:=Lib.hid (q7.only ho (by omega));have UV2:=Lib.hid (And.intro (UV.out.1.rec ho q6) (And.intro (UV.out.2.1.rec ho q6) (zam UV.out.2.2 ho (by omega) (Nat.le_of_lt (Nat.lt_of_le_of_lt hw1 q6.lt)))));clear ho UV q6 q7;have q7:=Q7.out;clear Q7)
  |((with_reducible refine zba (m:=N2) (u:=v) (sd:=s2) (.tmp 6) (.tmp 14) (w1.heap.size+1) q7 UO.out.2 ?_ ?_ ?_ ?_ ?_);rfl;rfl;rfl;rfl;intro w3 ho p7;have P6:=Lib.hid (p6.only ho (by omega));have UV3:=Lib.hid (And.intro (UV2.out.1.rec ho q7) (And.intro (UV2.out.2.1.rec ho q7) (zam UV2.out.2.2 ho (by omega) (Nat.le_of_lt (Nat.lt_of_le_of_lt (Nat.le_succ_of_le hw1) q7.lt)))));clear ho UV2 q7 p6;have p6:=P6.out;clear P6;have c0:=p7.c0;have f0:w3.frozen? ⟨w1.heap.size+1,0,none⟩=false:=zdt p7 0))
 have ho4:Only (w1.heap.size+1) w3 (w3.setCell ⟨w1.heap.size+1,0,none⟩ (.bool (!N2))):=(Only.refl _ _).setCell _ _ _
 have p7s:=p7.set0 (!N2)
 have P6:=Lib.hid (p6.only ho4 (by omega))
 have UV4:=Lib.hid (And.intro (UV3.out.1.rec ho4 p7) (And.intro (UV3.out.2.1.rec ho4 p7) (zam UV3.out.2.2 ho4 (by omega) (Nat.le_of_lt (Nat.lt_of_le_of_lt (Nat.le_succ_of_le hw1) p7.lt)))))
 have P7:=Lib.hid p7s
 clear ho4 p7s p7 p6 c0 f0 UV3
 generalize w3.setCell ⟨w1.heap.size+1,0,none⟩ (.bool (!N2))=w3s at*
 have p6:=P6.out
 have p7:=P7.out
 clear P6 P7
 go_upto_region 6 with (first
  |((with_reducible refine zck (.tmp 5) w1.heap.size p6 ?_ ?_ ?_ ?_);rfl;rfl;rfl)
  |((with_reducible refine zck (.tmp 6) (w1.heap.size+1) p7 ?_ ?_ ?_ ?_);rfl;rfl;rfl)
  |(go_at_call 214;(with_reducible refine (refPlus N1 (!N2) u v d1 d2 s1 s2 S _ UV4.out.1 UV4.out.2.1 A.out.1.small A.out.2.1.small A.out.2.2.1 A.out.2.2.2.1 A.out.2.2.2.2.1 (by have:=A.out.2.2.2.2.2;omega) (by have:=A.out.1.len;omega) (by have:=A.out.2.1.len;omega)).mono ?_);rintro e w4 ⟨n,z,zs,rfl,hz,hzs,hval,hlen,hb4⟩
    have HCS:=Lib.hid (z2s A.out.1 A.out.2.1 A.out.2.2.1 A.out.2.2.2.1 A.out.2.2.2.2.2 hval);have z8:=zjb w4 rfl;have HO8:=Lib.hid (zdm hz)
    have HZ:=Lib.hid (And.intro (hz.below ((Below.refl w4.heap.size w4).alloc (Nat.le_refl _) (.cells #[.bool false,.slice none 0 0,.int .i64 0] 224))) (And.intro (show zs.length≤9223372036854775807 by have:=A.out.1.len;have:=A.out.2.1.len;have:=A.out.2.2.2.2.2;omega) ((zab UV4.out.2.2 hb4 UV4.out.2.2.size).alloc (Nat.le_trans UV4.out.2.2.size hb4.size) (.cells #[.bool false,.slice none 0 0,.int .i64 0] 224))));have hw4:=Nat.le_trans UV4.out.2.2.size hb4.size;clear hz hzs hval hlen hb4)
  |((with_reducible refine zba (m:=n) (u:=z) (sd:=S) (.tmp 8) (.tmp 24) w4.heap.size z8 HO8.out ?_ ?_ ?_ ?_ ?_);rfl;rfl;rfl;rfl;intro w5 ho p8;have HY:=Lib.hid (And.intro (HZ.out.1.rec ho z8) (zam HZ.out.2.2 ho hw4 (Nat.le_of_lt (Nat.lt_of_le_of_lt hw4 z8.lt))));clear ho z8))
 have c0:=p8.c0
 have c1:=p8.c1
 by_cases h0:za4 zs=0
 ·obtain rfl:r=0:=by rw [HR.out,HCS.out,if_pos h0]
  have HD0:Hid (true=decide (za4 zs=0)):=Lib.hid (by simp [h0])
  clear h0 HR HCS p6 p7
  go_wp2_with (go_at_call 215;(with_reducible refine (znt _ zs _ HY.out.1 HZ.out.2.1 true HD0.out).mono ?_);rintro e w' ⟨rfl,rfl⟩)
  go_ret
  exact ⟨rfl,HY.out.2⟩
 ·have HD0:Hid (false=decide (za4 zs=0)):=Lib.hid (by simp [h0])
  have hrn:r=if n=true then -1 else 1:=by rw [HR.out,HCS.out,if_neg h0]
  cases n with
  | true=>
    obtain rfl:r=-1:=by rw [hrn,if_pos rfl]
    clear h0 HR HCS hrn p6 p7
    go_wp2_with (go_at_call 215;(with_reducible refine (znt _ zs _ HY.out.1 HZ.out.2.1 false HD0.out).mono ?_);rintro e w' ⟨rfl,rfl⟩)
    go_ret
    exact ⟨rfl,HY.out.2⟩
  | false=>
    obtain rfl:r=1:=by rw [hrn,if_neg (by decide)]
    clear h0 HR HCS hrn p6 p7
    go_wp2_with (go_at_call 215;(with_reducible refine (znt _ zs _ HY.out.1 HZ.out.2.1 false HD0.out).mono ?_);rintro e w' ⟨rfl,rfl⟩)
    go_ret
    exact ⟨rfl,HY.out.2⟩
structure Whole (l:List UInt8) (neg:Bool) (x:List UInt8):Prop where
 eq:l=(if neg then [45] else [])++x++[46,48]
 all:x.all za8=true
 ne:x≠[]
 len:x.length≤40
 lead:2≤x.length→x.headD 0≠48
theorem zu8 (u:Nat) (t:List UInt8):(if u < 10 then [] else Lib.decDigits (u / 10))++UInt8.ofNat (48+u % 10)::t=Lib.decDigits u++t:=by
 conv=>rhs;rw [Lib.decDigits]
 by_cases h:u < 10
 ·rw [if_pos h,dif_pos h,Nat.mod_eq_of_lt h];rfl
 ·rw [if_neg h,dif_neg h];simp
theorem zq0 {u:Nat} {X:ByteArray} {full:List UInt8} (h:Lib.decDigits u++X.data.toList=full) (hu:10≤u):
 Lib.decDigits (u / 10)++(bs [UInt8.ofNat (48+u % 10)]++X).data.toList=full:=by
 have e:(bs [UInt8.ofNat (48+u % 10)]++X).data.toList=UInt8.ofNat (48+u % 10)::X.data.toList:=by
  rw [ByteArray.data_append,Array.toList_append];rfl
 have:=zu8 u X.data.toList
 rw [if_neg (by omega)] at this
 rw [e,this,h]
theorem zq1 {u:Nat} {X:ByteArray} {full:List UInt8} (h:Lib.decDigits u++X.data.toList=full) (hu:u < 10):
 bs [UInt8.ofNat (48+u % 10)]++X=bs full:=by
 apply zdh
 have e:(bs [UInt8.ofNat (48+u % 10)]++X).data.toList=UInt8.ofNat (48+u % 10)::X.data.toList:=by
  rw [ByteArray.data_append,Array.toList_append];rfl
 have:=zu8 u X.data.toList
 rw [if_pos hu] at this
 rw [e]
 show _=full
 rw [← h,← this];rfl
theorem zu9 (W:World) (d:Nat) (hd:d≤9):(convert 101 9 (.slice (some ⟨W.heap.size,0,none⟩) 1 1)).run Tryz.prog (W.alloc (.cells #[.int .u8 (48+(d:Int))] 5))=.ok (.string (bs [UInt8.ofNat (48+d)])) (W.alloc (.cells #[.int .u8 (48+(d:Int))] 5)):=by
 have:=run_convert_bytes_back (P:=Tryz.prog) (W.alloc (.cells #[.int .u8 (48+(d:Int))] 5)) 101 9 5 ⟨W.heap.size,0,none⟩ 1 [UInt8.ofNat (48+d)] Tryz.underlying101 Tryz.underlying5 Tryz.underlying9 (fun j hj=>by
  have:j=0:=by simp at hj;exact hj
  subst this
  rw [Addr.add_mid,Nat.zero_add]
  refine (zad (zaf W _ rfl) 0 rfl).trans ?_
  have e8:(UInt8.ofNat (48+d)).toNat=48+d:=by rw [UInt8.toNat_ofNat'];omega
  show some (Value.int .u8 (48+(d:Int)))=some (Value.int .u8 (((UInt8.ofNat (48+d)).toNat:Nat):Int))
  rw [e8,Int.natCast_add];rfl)
 exact this
theorem ztr (n:Nat) (h1:n < 9223372036854775808) (w:World) (F:ByteArray) (hF:Hid (F=bs (Lib.decDigits n))):
 Calls Tryz.prog 216 #[.int .i64 n] w fun e w'=>e=.returned (.string (F++⟨#[46,48]⟩))∧Below w.heap.size w w':=by
 have hlen:(Lib.decDigits n).length≤21:=by
  have:=Lib.itoa_length_le n (by omega) (by omega)
  rwa [Lib.itoa_nonneg] at this
 have HL:=Lib.hid hlen
 have HFS:F.size≤21:=by rw [hF.out];simpa [ByteArray.size] using hlen
 clear hlen
 go_enter Tryz.func216,Tryz.ntmps216
 go_wp2_with fail
 go_loopg [3,4] n (fun gg s3 s4 wr=>∃ (u:Nat) (X:ByteArray),u≤gg∧u≤9223372036854775807∧s4=.int .i64 u∧s3=.string X∧X.size≤21∧Hid (Lib.decDigits u++X.data.toList=Lib.decDigits n)∧Below w.heap.size w wr)
 case atStart=>exact ⟨n,⟨#[]⟩,Nat.le_refl _,by omega,rfl,rfl,by decide,Lib.hid (List.append_nil _),Below.refl _ _⟩
 case round=>
  obtain ⟨u,X,hug,hub,rfl,rfl,hxs,HX,hb⟩:=hrel
  obtain ⟨d,hd⟩:∃ d,d=u % 10:=⟨_,rfl⟩
  have hd9:d≤9:=by omega
  have e1:(u:Int) % 10=d:=by omega
  have hw1:IntKind.u8.wrap (48+(d:Int))=48+d:=by unfold IntKind.wrap;simp [IntKind.bits,IntKind.signed];omega
  obtain ⟨C,hC⟩:∃ C,C=bs [UInt8.ofNat (48+d)]:=⟨_,rfl⟩
  have hcv:=zu9 wr d hd9
  rw [← hC] at hcv
  have hcs:C.size=1:=by rw [hC];rfl
  have hcs2:C.size≤1:=by omega
  have HC:=Lib.hid hC
  have HD:=Lib.hid hd
  have hbn:=hb.alloc hb.size (.cells #[.int .u8 (48+(d:Int))] 5)
  clear hC hd hcs
  by_cases h10:u < 10
  ·have e2:(u:Int) / 10=0:=by omega
   have hl:=zq1 HX.out h10
   rw [← HD.out,← HC.out] at hl
   have HLL:Hid (C++X=F):=Lib.hid (by rw [hl,hF.out])
   clear hl
   go_wp2_with fail
   go_ret
   exact ⟨by rw [← HLL.out];rfl,hbn⟩
  ·obtain ⟨q,hq⟩:∃ q,q=u / 10:=⟨_,rfl⟩
   have e2:(u:Int) / 10=q:=by omega
   have hq0:¬ (q:Int)=0:=by omega
   have hq0b:((q:Int) == 0)=false:=by simpa using hq0
   have hs:=zq0 HX.out (by omega)
   rw [← HD.out,← HC.out,← hq] at hs
   have HSS:=Lib.hid hs
   clear hs hq
   have hsz:(C++X).size≤21:=by
    have h1:=congrArg List.length HSS.out
    have h2:=HL.out
    rw [List.length_append] at h1
    have h3:(C++X).data.toList.length=(C++X).size:=Array.length_toList
    omega
   have HSZ:=Lib.hid hsz
   clear hsz
   go_wp2_with fail
   go_roundg q
   case measure=>omega
   case rel=>exact ⟨q,C++X,Nat.le_refl _,by omega,rfl,rfl,HSZ.out,HSS,hbn⟩
theorem zmz (u:Nat):(-(u:Int)).tdiv 10=-((u / 10:Nat):Int):=by
 rw [Int.neg_tdiv,show (10:Int)=((10:Nat):Int) from rfl,← Int.ofNat_tdiv]
theorem z2t (u:Nat):(-(u:Int)).tmod 10=-((u % 10:Nat):Int):=by
 rw [Int.neg_tmod,show (10:Int)=((10:Nat):Int) from rfl,← Int.ofNat_tmod]
theorem zts (n:Nat) (h0:1≤n) (h1:n≤9223372036854775808) (w:World) (F:ByteArray) (hF:Hid (F=bs (Lib.decDigits n))):
 Calls Tryz.prog 216 #[.int .i64 (-(n:Int))] w fun e w'=>e=.returned (.string (⟨#[45]⟩++F++⟨#[46,48]⟩))∧Below w.heap.size w w':=by
 have hlen:(Lib.decDigits n).length≤21:=by
  have:=Lib.itoa_length_le (-(n:Int)) (by omega) (by omega)
  rw [Lib.itoa_neg n h0] at this
  simp at this;omega
 have HL:=Lib.hid hlen
 have HFS:F.size≤21:=by rw [hF.out];simpa [ByteArray.size] using hlen
 clear hlen
 go_enter Tryz.func216,Tryz.ntmps216
 go_wp2_with fail
 go_loopg [3,4] n (fun gg s3 s4 wr=>∃ (u:Nat) (X:ByteArray) (m:Int),u≤gg∧u≤9223372036854775808∧s4=.int .i64 m∧Hid (m=-(u:Int))∧m≤0∧-9223372036854775808≤m∧s3=.string X∧X.size≤21∧Hid (Lib.decDigits u++X.data.toList=Lib.decDigits n)∧Below w.heap.size w wr)
 case atStart=>exact ⟨n,⟨#[]⟩,_,Nat.le_refl _,h1,rfl,Lib.hid rfl,by omega,by omega,rfl,by decide,Lib.hid (List.append_nil _),Below.refl _ _⟩
 case round=>
  obtain ⟨u,X,m,hug,hub,rfl,HM,hm0,hm1,rfl,hxs,HX,hb⟩:=hrel
  obtain ⟨d,hd⟩:∃ d,d=u % 10:=⟨_,rfl⟩
  have hd9:d≤9:=by omega
  have e1:m.tmod 10=-(d:Int):=by rw [HM.out,z2t,hd]
  have hw1:IntKind.u8.wrap (48+(d:Int))=48+d:=by unfold IntKind.wrap;simp [IntKind.bits,IntKind.signed];omega
  obtain ⟨C,hC⟩:∃ C,C=bs [UInt8.ofNat (48+d)]:=⟨_,rfl⟩
  have hcv:=zu9 wr d hd9
  rw [← hC] at hcv
  have hcs:C.size=1:=by rw [hC];rfl
  have hcs2:C.size≤1:=by omega
  have HC:=Lib.hid hC
  have HD:=Lib.hid hd
  have hbn:=hb.alloc hb.size (.cells #[.int .u8 (48+(d:Int))] 5)
  clear hC hd hcs
  by_cases hd0:d=0
  ·have e3:m.tmod 10=0:=by rw [e1,hd0];rfl
   subst hd0
   have hcv0:(convert 101 9 (.slice (some ⟨wr.heap.size,0,none⟩) 1 1)).run Tryz.prog (wr.alloc (.cells #[.int .u8 48] 5))=.ok (.string C) (wr.alloc (.cells #[.int .u8 48] 5)):=hcv
   have hbn0:Below w.heap.size w (wr.alloc (.cells #[.int .u8 48] 5)):=hbn
   clear e1 hcv hbn hw1
   have hbn:=hbn0
   clear hbn0
   by_cases h10:u < 10
   ·have e2:m.tdiv 10=0:=by rw [HM.out,zmz,Nat.div_eq_of_lt h10];rfl
    have hl:=zq1 HX.out h10
    rw [← HD.out,← HC.out] at hl
    have HLL:Hid (C++X=F):=Lib.hid (by rw [hl,hF.out])
    have hn0:-(n:Int) < 0:=by omega
    have hsx:(C++X).size≤21:=by rw [HLL.out];exact HFS
    have HSX:=Lib.hid hsx
    clear hl hsx
    go_wp2_with fail
    go_ret
    exact ⟨by rw [← HLL.out];rfl,hbn⟩
   ·obtain ⟨q,hq⟩:∃ q,q=u / 10:=⟨_,rfl⟩
    obtain ⟨m2,hm2⟩:∃ m2:Int,m2=-(q:Int):=⟨_,rfl⟩
    have e2:m.tdiv 10=m2:=by rw [HM.out,zmz,hm2,hq]
    have hq0:¬ m2=0:=by omega
    have hq0b:(m2 == 0)=false:=by simpa using hq0
    have hs:=zq0 HX.out (by omega)
    rw [← HD.out,← HC.out,← hq] at hs
    have HSS:=Lib.hid hs
    have HM2:=Lib.hid hm2
    have hr1:m2≤0:=by omega
    have hr2:-9223372036854775808≤m2:=by omega
    have hqu:q < u:=by omega
    have hsz:(C++X).size≤21:=by
     have h1:=congrArg List.length HSS.out
     have h2:=HL.out
     rw [List.length_append] at h1
     have h3:(C++X).data.toList.length=(C++X).size:=Array.length_toList
     omega
    have HSZ:=Lib.hid hsz
    clear hsz hs hm2 hq
    go_wp2_with fail
    go_roundg q
    case measure=>omega
    case rel=>exact ⟨q,C++X,m2,Nat.le_refl _,by omega,rfl,HM2,hr1,hr2,rfl,HSZ.out,HSS,hbn⟩
  ·have hdn:-(d:Int) < 0:=by omega
   by_cases h10:u < 10
   ·have e2:m.tdiv 10=0:=by rw [HM.out,zmz,Nat.div_eq_of_lt h10];rfl
    have hl:=zq1 HX.out h10
    rw [← HD.out,← HC.out] at hl
    have HLL:Hid (C++X=F):=Lib.hid (by rw [hl,hF.out])
    have hn0:-(n:Int) < 0:=by omega
    have hsx:(C++X).size≤21:=by rw [HLL.out];exact HFS
    have HSX:=Lib.hid hsx
    clear hl hsx
    go_wp2_with fail
    go_ret
    exact ⟨by rw [← HLL.out];rfl,hbn⟩
   ·obtain ⟨q,hq⟩:∃ q,q=u / 10:=⟨_,rfl⟩
    obtain ⟨m2,hm2⟩:∃ m2:Int,m2=-(q:Int):=⟨_,rfl⟩
    have e2:m.tdiv 10=m2:=by rw [HM.out,zmz,hm2,hq]
    have hq0:¬ m2=0:=by omega
    have hq0b:(m2 == 0)=false:=by simpa using hq0
    have hs:=zq0 HX.out (by omega)
    rw [← HD.out,← HC.out,← hq] at hs
    have HSS:=Lib.hid hs
    have HM2:=Lib.hid hm2
    have hr1:m2≤0:=by omega
    have hr2:-9223372036854775808≤m2:=by omega
    have hqu:q < u:=by omega
    have hsz:(C++X).size≤21:=by
     have h1:=congrArg List.length HSS.out
     have h2:=HL.out
     rw [List.length_append] at h1
     have h3:(C++X).data.toList.length=(C++X).size:=Array.length_toList
     omega
    have HSZ:=Lib.hid hsz
    clear hsz hs hm2 hq
    go_wp2_with fail
    go_roundg q
    case measure=>omega
    case rel=>exact ⟨q,C++X,m2,Nat.le_refl _,by omega,rfl,HM2,hr1,hr2,rfl,HSZ.out,HSS,hbn⟩
def zot (z:Int) (s:ByteArray):Prop:=chk s.data.toList=true∧dval s.data.toList=z∧s.size≤1000000000
theorem zsj (n:Int) (h0:-9223372036854775808≤n) (h1:n≤9223372036854775807) (w:World):
 Calls Tryz.prog 216 #[.int .i64 n] w fun e w'=>∃ s,e=.returned (.string s)∧zot (n*10 ^ 54) s∧Below w.heap.size w w':=by
 obtain ⟨f1,f2,f3,f4⟩:=zo4 n h0 h1
 have hS:zot (n*10 ^ 54) (intT n):=⟨f1,f2,by omega⟩
 by_cases hneg:n < 0
 ·obtain ⟨u,rfl⟩:∃ u:Nat,n=-(u:Int):=⟨n.natAbs,by omega⟩
  have hit:Lib.itoa (-(u:Int))=45::Lib.decDigits u:=Lib.itoa_neg u (by omega)
  have e:intT (-(u:Int))=⟨#[45]⟩++bs (Lib.decDigits u)++⟨#[46,48]⟩:=by
   apply ByteArray.ext
   apply Array.ext'
   unfold intT
   simp [ByteArray.data_append,hit]
  refine (zts u (by omega) (by omega) w _ (Lib.hid rfl)).mono ?_
  rintro e1 w' ⟨rfl,hb⟩
  exact ⟨_,rfl,e ▸ hS,hb⟩
 ·obtain ⟨u,rfl⟩:=Int.eq_ofNat_of_zero_le (Int.not_lt.1 hneg)
  have hit:Lib.itoa (u:Int)=Lib.decDigits u:=Lib.itoa_nonneg u
  have e:intT (u:Int)=bs (Lib.decDigits u)++⟨#[46,48]⟩:=by
   unfold intT
   rw [hit]
  refine (ztr u (by omega) w _ (Lib.hid rfl)).mono ?_
  rintro e1 w' ⟨rfl,hb⟩
  exact ⟨_,rfl,e ▸ hS,hb⟩
theorem z2u:zot 0 ⟨#[48,46,48]⟩:=by
 refine ⟨by decide,by decide,by decide⟩
theorem zva (k:Int) (b:Bool) (n:Int) (t x:ByteArray) (p:Option Addr) (len cap:Nat) (w:World) (hf:Fine n t x len):
 Calls Tryz.prog 182 #[.agg #[.int .i64 k,.bool b,.int .i64 n,.string t,.string x,.slice p len cap]] w fun e w'=>∃ s,e=.returned (.string s)∧zot (numV k n t) s∧Below w.heap.size w w':=by
 have S:=zaj (k:=k) (b:=b) (n:=n) (t:=t) (x:=x) (p:=p) (len:=len) (cap:=cap) w rfl
 have b0:=za5 w (.cells #[.int .i64 k,.bool b,.int .i64 n,.string t,.string x,.slice p len cap] 48)
 have f0:=S.c0
 have f2:=S.c2
 have f3:=S.c3
 have HF:=Lib.hid hf
 obtain ⟨z,hz⟩:∃ z,z=numV k n t:=⟨_,rfl⟩
 rw [← hz]
 by_cases h2:k=2
 ·subst h2
  have hc:=fun W=>zsj n HF.out.lo HF.out.hi W
  have e:numV 2 n t=n*10 ^ 54:=by unfold numV;rw [if_pos rfl]
  rw [← e,← hz] at hc
  have HC:=Lib.hid hc
  clear hc hz e hf
  go_enter Tryz.func182,Tryz.ntmps182
  go_wp2_with (go_at_call 216;(with_reducible refine (HC.out _).mono ?_);rintro e w1 ⟨s,rfl,hs,hb⟩;have HS:=Lib.hid hs;clear hs;replace b0:=zab b0 hb b0.size)
  go_ret
  exact ⟨s,rfl,HS.out,b0⟩
 ·have e2:(k == 2)=false:=by simpa using h2
  have hc:=fun W=>zqi t W (by have:=hf.ht;omega)
  cases hk:chk t.data.toList with
  | true=>
    have hsay:Hid (zot z t):=Lib.hid (by rw [hz];unfold numV;rw [if_neg h2,if_pos hk];exact ⟨hk,rfl,by have:=hf.ht;omega⟩)
    rw [hk] at hc
    clear h2 hk hf hz
    go_enter Tryz.func182,Tryz.ntmps182
    go_wp2_with (go_at_call 154;(with_reducible refine (hc _).mono ?_);rintro e w1 ⟨rfl,hb⟩;have S1:=S.below hb;have g3:=S1.c3;replace b0:=zab b0 hb b0.size)
    go_ret
    exact ⟨t,rfl,hsay.out,b0⟩
  | false=>
    have hsay:Hid (zot z ⟨#[48,46,48]⟩):=Lib.hid (by rw [hz];unfold numV;rw [if_neg h2,if_neg (by simp [hk])];exact z2u)
    rw [hk] at hc
    clear h2 hk hf hz
    go_enter Tryz.func182,Tryz.ntmps182
    go_wp2_with (go_at_call 154;(with_reducible refine (hc _).mono ?_);rintro e w1 ⟨rfl,hb⟩;have S1:=S.below hb;have g3:=S1.c3;replace b0:=zab b0 hb b0.size)
    go_ret
    exact ⟨_,rfl,hsay.out,b0⟩
theorem zw0 {z z2:Int} {s s2:ByteArray} (h:zot z s) (h2:zot z2 s2) (w:World):
 Calls Tryz.prog 181 #[.string s,.string s2] w fun e w'=>e=.returned (.int .i64 (cmpZ z z2))∧Below w.heap.size w w':=by
 have:=z0c s s2 w h.2.2 h2.2.2 h.1 h2.1
 rwa [h.2.1,h2.2.1] at this
theorem ztt (lang k:Int) (b:Bool) (n:Int) (t x:ByteArray) (q:List Val) (p:Option Addr) (cap:Nat) (k2:Int) (b2:Bool) (n2:Int) (t2 x2:ByteArray) (q2:List Val) (p2:Option Addr) (cap2:Nat) (w:World) (hk0:k=0):
 Calls Tryz.prog 206 #[.int .i64 lang,.agg #[.int .i64 k,.bool b,.int .i64 n,.string t,.string x,.slice p q.length cap],.agg #[.int .i64 k2,.bool b2,.int .i64 n2,.string t2,.string x2,.slice p2 q2.length cap2]] w fun e w'=>e=.returned (.int .i64 (lexI (zak t.toList t2.toList) (zak x.toList x2.toList)))∧Low w.heap.size w w':=by
 obtain ⟨W0,hW0⟩:∃ W0,W0=((w.alloc (.cells #[.int .i64 lang] 3)).alloc (.cells #[.int .i64 k,.bool b,.int .i64 n,.string t,.string x,.slice p q.length cap] 48)).alloc (.cells #[.int .i64 k2,.bool b2,.int .i64 n2,.string t2,.string x2,.slice p2 q2.length cap2] 48):=⟨_,rfl⟩
 have S4:Six W0 (w.heap.size+1) k b n t x p q.length cap:=by rw [hW0];exact (zaj _ (by simp)).alloc _
 have S5:Six W0 (w.heap.size+2) k2 b2 n2 t2 x2 p2 q2.length cap2:=by rw [hW0];exact zaj _ (by simp)
 have b0:Low w.heap.size w W0:=by rw [hW0];exact low3 _ _ _ _
 have c0:W0.cell? ⟨w.heap.size,0,none⟩=some (.int .i64 lang):=by
  rw [hW0]
  have e:(w.alloc (.cells #[.int .i64 lang] 3)).cell? ⟨w.heap.size,0,none⟩=some (.int .i64 lang):=zad (zaf _ _ rfl) _ rfl
  exact ((low2 _ _ _).cell (p:=⟨w.heap.size,0,none⟩) (by simp)).trans e
 have H0:=Lib.hid hW0
 clear hW0
 subst hk0
 go_enter Tryz.func206,Tryz.ntmps206
 go_wp2_with (first
  |(rw [← H0.out];(with_reducible refine zac (.tmp 4) (w.heap.size+1) S4 ?_ ?_ ?_ ?_);rfl;rfl;rfl)
  |((with_reducible refine zac (.tmp 4) (w.heap.size+1) S4 ?_ ?_ ?_ ?_);rfl;rfl;rfl)
  |((with_reducible refine zac (.tmp 5) (w.heap.size+2) S5 ?_ ?_ ?_ ?_);rfl;rfl;rfl)
  |(go_at_call 156;(with_reducible refine (zat 0 b n t x _ 164 rfl _).mono ?_);rintro e w' ⟨rfl,hb⟩;replace S4:=S4.below hb.is;replace S5:=S5.below hb.is;replace c0:=(hb.cell (p:=⟨w.heap.size,0,none⟩) (World.block_lt_of_cell? _ _ c0)).trans c0;replace b0:=zal b0 hb b0.size;have f1:=S4.c1;have f2:=S4.c2;have f5:=S4.c5;have g1:=S5.c1;have g2:=S5.c2;have g5:=S5.c5;clear hb)
  |(simp only [zgc,zf9,zga,zf7,zf8,zgb,Result.andThen_ok]))
 obtain ⟨N,hN⟩:∃ N,N=w'.heap.size:=⟨_,rfl⟩
 refine wp_region_held_drew (S:=fun w'=>Six w' (w.heap.size+1) 0 b n t x p q.length cap∧Six w' (w.heap.size+2) k2 b2 n2 t2 x2 p2 q2.length cap2∧Low w.heap.size w w'∧Hid (N < w'.heap.size→w'.cell? ⟨N,0,none⟩=some (.int .i64 (zak t.toList t2.toList))∧w'.cell? ⟨N,1,none⟩=some (.int .i64 (zak x.toList x2.toList)))) (by kernel_rfl) ⟨S4,S5,b0.drew,Lib.hid fun h=>absurd h (by rw [hN];exact Nat.lt_irrefl _)⟩ (fun hHeld=>?_)
 refine tg (i:=0) (.pointer (some ⟨w.heap.size+1,3,none⟩)) rfl hHeld ?_
 refine tk (i:=1) (v:=.string t) rfl (Or.inl ⟨by rfl,fun W h=>by have c0:=h.1.c3;go_simp⟩) hHeld ?_
 refine tg (i:=2) (.pointer (some ⟨w.heap.size+2,3,none⟩)) rfl hHeld ?_
 refine tk (i:=3) (v:=.string t2) rfl (Or.inl ⟨by rfl,fun W h=>by have c0:=h.2.1.c3;go_simp⟩) hHeld ?_
 refine tg (i:=5) (.pointer (some ⟨w.heap.size+1,4,none⟩)) rfl hHeld ?_
 refine tk (i:=6) (v:=.string x) rfl (Or.inl ⟨by rfl,fun W h=>by have c0:=h.1.c4;go_simp⟩) hHeld ?_
 refine tg (i:=7) (.pointer (some ⟨w.heap.size+2,4,none⟩)) rfl hHeld ?_
 refine tk (i:=8) (v:=.string x2) rfl (Or.inl ⟨by rfl,fun W h=>by have c0:=h.2.1.c4;go_simp⟩) hHeld ?_
 obtain ⟨u1,u2,u3,u4⟩:=hHeld
 refine tr 4 rfl (fun K hK=>?_)
 rw [if_pos (by rfl)]
 go_simp
 refine (zc2 t t2 _).mono ?_
 rintro e w3 ⟨rfl,rfl⟩
 refine hK.out _ _ ⟨u1,u2,u3,u4⟩ (fun hHeld=>?_)
 clear hK K u1 u2 u3 u4
 try simp only [putS]
 obtain ⟨u1,u2,u3,u4⟩:=hHeld
 refine tr 9 rfl (fun K hK=>?_)
 rw [if_pos (by rfl)]
 go_simp
 refine (zc2 x x2 _).mono ?_
 rintro e w3 ⟨rfl,rfl⟩
 refine hK.out _ _ ⟨u1,u2,u3,u4⟩ (fun hHeld=>?_)
 clear hK K u1 u2 u3 u4
 try simp only [putS]
 obtain ⟨u1,u2,u3,u4⟩:=hHeld
 refine tr 10 rfl (fun K hK=>?_)
 go_simp
 rw [← hN]
 have x4:Six (w'.alloc (Obj.cells #[.int .i64 (zak t.toList t2.toList),.int .i64 (zak x.toList x2.toList)] 3)) (w.heap.size+1) 0 b n t x p q.length cap:=S4.alloc _
 have x5:Six (w'.alloc (Obj.cells #[.int .i64 (zak t.toList t2.toList),.int .i64 (zak x.toList x2.toList)] 3)) (w.heap.size+2) k2 b2 n2 t2 x2 p2 q2.length cap2:=S5.alloc _
 have xb:Low w.heap.size w (w'.alloc (Obj.cells #[.int .i64 (zak t.toList t2.toList),.int .i64 (zak x.toList x2.toList)] 3)).drew:=(b0.alloc b0.size _).drew
 have y0:(w'.alloc (Obj.cells #[.int .i64 (zak t.toList t2.toList),.int .i64 (zak x.toList x2.toList)] 3)).cell? ⟨N,0,none⟩=some (.int .i64 (zak t.toList t2.toList)):=zad (zaf w' _ hN.symm) 0 rfl
 have y1:(w'.alloc (Obj.cells #[.int .i64 (zak t.toList t2.toList),.int .i64 (zak x.toList x2.toList)] 3)).cell? ⟨N,1,none⟩=some (.int .i64 (zak x.toList x2.toList)):=zad (zaf w' _ hN.symm) 1 rfl
 have ys:N < (w'.alloc (Obj.cells #[.int .i64 (zak t.toList t2.toList),.int .i64 (zak x.toList x2.toList)] 3)).drew.heap.size:=by rw [hN];show w'.heap.size < (w'.alloc _).heap.size;simp
 generalize (w'.alloc (Obj.cells #[.int .i64 (zak t.toList t2.toList),.int .i64 (zak x.toList x2.toList)] 3))=V at x4 x5 xb y0 y1 ys ⊢
 clear u1 u2 u3 u4
 refine hK.out _ _ ⟨x4,x5,xb,Lib.hid fun _=>⟨y0,y1⟩⟩ (fun hHeld=>?_)
 clear hK K
 try simp only [putS]
 obtain ⟨u1,u2,u3,u4⟩:=hHeld
 obtain ⟨v0,v1⟩:=u4.out ys
 refine tr 11 rfl (fun K hK=>?_)
 rw [if_pos (by rfl)]
 go_simp
 rw [hN] at v0 v1
 with_reducible refine (orAt _ _ _ _ v0 v1).mono ?_
 rintro e w3 ⟨rfl,rfl⟩
 refine hK.out _ _ ⟨u1,u2,u3,u4⟩ (fun hHeld=>?_)
 clear hK K u1 u2 u4 v0 v1
 try simp only [putS]
 refine tr 12 rfl (fun K hK=>?_)
 go_simp
 refine hK.out _ _ hHeld (fun _=>?_)
 clear hK K hHeld
 try simp only [putS]
 refine wpAnyH_done (by kernel_rfl) ?_ _
 go_wp2_with fail
 go_ret
 exact ⟨rfl,u3⟩
theorem ztu (lang k:Int) (b:Bool) (n:Int) (t x:ByteArray) (q:List Val) (p:Option Addr) (cap:Nat) (k2:Int) (b2:Bool) (n2:Int) (t2 x2:ByteArray) (q2:List Val) (p2:Option Addr) (cap2:Nat) (w:World) (hk0:k=4):
 Calls Tryz.prog 206 #[.int .i64 lang,.agg #[.int .i64 k,.bool b,.int .i64 n,.string t,.string x,.slice p q.length cap],.agg #[.int .i64 k2,.bool b2,.int .i64 n2,.string t2,.string x2,.slice p2 q2.length cap2]] w fun e w'=>e=.returned (.int .i64 (lexI (zak t.toList t2.toList) (zak x.toList x2.toList)))∧Low w.heap.size w w':=by
 obtain ⟨W0,hW0⟩:∃ W0,W0=((w.alloc (.cells #[.int .i64 lang] 3)).alloc (.cells #[.int .i64 k,.bool b,.int .i64 n,.string t,.string x,.slice p q.length cap] 48)).alloc (.cells #[.int .i64 k2,.bool b2,.int .i64 n2,.string t2,.string x2,.slice p2 q2.length cap2] 48):=⟨_,rfl⟩
 have S4:Six W0 (w.heap.size+1) k b n t x p q.length cap:=by rw [hW0];exact (zaj _ (by simp)).alloc _
 have S5:Six W0 (w.heap.size+2) k2 b2 n2 t2 x2 p2 q2.length cap2:=by rw [hW0];exact zaj _ (by simp)
 have b0:Low w.heap.size w W0:=by rw [hW0];exact low3 _ _ _ _
 have c0:W0.cell? ⟨w.heap.size,0,none⟩=some (.int .i64 lang):=by
  rw [hW0]
  have e:(w.alloc (.cells #[.int .i64 lang] 3)).cell? ⟨w.heap.size,0,none⟩=some (.int .i64 lang):=zad (zaf _ _ rfl) _ rfl
  exact ((low2 _ _ _).cell (p:=⟨w.heap.size,0,none⟩) (by simp)).trans e
 have H0:=Lib.hid hW0
 clear hW0
 subst hk0
 go_enter Tryz.func206,Tryz.ntmps206
 go_wp2_with (first
  |(rw [← H0.out];(with_reducible refine zac (.tmp 4) (w.heap.size+1) S4 ?_ ?_ ?_ ?_);rfl;rfl;rfl)
  |((with_reducible refine zac (.tmp 4) (w.heap.size+1) S4 ?_ ?_ ?_ ?_);rfl;rfl;rfl)
  |((with_reducible refine zac (.tmp 5) (w.heap.size+2) S5 ?_ ?_ ?_ ?_);rfl;rfl;rfl)
  |(go_at_call 156;(with_reducible refine (zat 4 b n t x _ 170 rfl _).mono ?_);rintro e w' ⟨rfl,hb⟩;replace S4:=S4.below hb.is;replace S5:=S5.below hb.is;replace c0:=(hb.cell (p:=⟨w.heap.size,0,none⟩) (World.block_lt_of_cell? _ _ c0)).trans c0;replace b0:=zal b0 hb b0.size;have f1:=S4.c1;have f2:=S4.c2;have f5:=S4.c5;have g1:=S5.c1;have g2:=S5.c2;have g5:=S5.c5;clear hb)
  |(simp only [zg6,zg3,zg4,zg1,zg2,zg5,Result.andThen_ok]))
 obtain ⟨N,hN⟩:∃ N,N=w'.heap.size:=⟨_,rfl⟩
 refine wp_region_held_drew (S:=fun w'=>Six w' (w.heap.size+1) 4 b n t x p q.length cap∧Six w' (w.heap.size+2) k2 b2 n2 t2 x2 p2 q2.length cap2∧Low w.heap.size w w'∧Hid (N < w'.heap.size→w'.cell? ⟨N,0,none⟩=some (.int .i64 (zak t.toList t2.toList))∧w'.cell? ⟨N,1,none⟩=some (.int .i64 (zak x.toList x2.toList)))) (by kernel_rfl) ⟨S4,S5,b0.drew,Lib.hid fun h=>absurd h (by rw [hN];exact Nat.lt_irrefl _)⟩ (fun hHeld=>?_)
 refine tg (i:=0) (.pointer (some ⟨w.heap.size+1,3,none⟩)) rfl hHeld ?_
 refine tk (i:=1) (v:=.string t) rfl (Or.inl ⟨by rfl,fun W h=>by have c0:=h.1.c3;go_simp⟩) hHeld ?_
 refine tg (i:=2) (.pointer (some ⟨w.heap.size+2,3,none⟩)) rfl hHeld ?_
 refine tk (i:=3) (v:=.string t2) rfl (Or.inl ⟨by rfl,fun W h=>by have c0:=h.2.1.c3;go_simp⟩) hHeld ?_
 refine tg (i:=5) (.pointer (some ⟨w.heap.size+1,4,none⟩)) rfl hHeld ?_
 refine tk (i:=6) (v:=.string x) rfl (Or.inl ⟨by rfl,fun W h=>by have c0:=h.1.c4;go_simp⟩) hHeld ?_
 refine tg (i:=7) (.pointer (some ⟨w.heap.size+2,4,none⟩)) rfl hHeld ?_
 refine tk (i:=8) (v:=.string x2) rfl (Or.inl ⟨by rfl,fun W h=>by have c0:=h.2.1.c4;go_simp⟩) hHeld ?_
 obtain ⟨u1,u2,u3,u4⟩:=hHeld
 refine tr 4 rfl (fun K hK=>?_)
 rw [if_pos (by rfl)]
 go_simp
 refine (zc2 t t2 _).mono ?_
 rintro e w3 ⟨rfl,rfl⟩
 refine hK.out _ _ ⟨u1,u2,u3,u4⟩ (fun hHeld=>?_)
 clear hK K u1 u2 u3 u4
 try simp only [putS]
 obtain ⟨u1,u2,u3,u4⟩:=hHeld
 refine tr 9 rfl (fun K hK=>?_)
 rw [if_pos (by rfl)]
 go_simp
 refine (zc2 x x2 _).mono ?_
 rintro e w3 ⟨rfl,rfl⟩
 refine hK.out _ _ ⟨u1,u2,u3,u4⟩ (fun hHeld=>?_)
 clear hK K u1 u2 u3 u4
 try simp only [putS]
 obtain ⟨u1,u2,u3,u4⟩:=hHeld
 refine tr 10 rfl (fun K hK=>?_)
 go_simp
 rw [← hN]
 have x4:Six (w'.alloc (Obj.cells #[.int .i64 (zak t.toList t2.toList),.int .i64 (zak x.toList x2.toList)] 3)) (w.heap.size+1) 4 b n t x p q.length cap:=S4.alloc _
 have x5:Six (w'.alloc (Obj.cells #[.int .i64 (zak t.toList t2.toList),.int .i64 (zak x.toList x2.toList)] 3)) (w.heap.size+2) k2 b2 n2 t2 x2 p2 q2.length cap2:=S5.alloc _
 have xb:Low w.heap.size w (w'.alloc (Obj.cells #[.int .i64 (zak t.toList t2.toList),.int .i64 (zak x.toList x2.toList)] 3)).drew:=(b0.alloc b0.size _).drew
 have y0:(w'.alloc (Obj.cells #[.int .i64 (zak t.toList t2.toList),.int .i64 (zak x.toList x2.toList)] 3)).cell? ⟨N,0,none⟩=some (.int .i64 (zak t.toList t2.toList)):=zad (zaf w' _ hN.symm) 0 rfl
 have y1:(w'.alloc (Obj.cells #[.int .i64 (zak t.toList t2.toList),.int .i64 (zak x.toList x2.toList)] 3)).cell? ⟨N,1,none⟩=some (.int .i64 (zak x.toList x2.toList)):=zad (zaf w' _ hN.symm) 1 rfl
 have ys:N < (w'.alloc (Obj.cells #[.int .i64 (zak t.toList t2.toList),.int .i64 (zak x.toList x2.toList)] 3)).drew.heap.size:=by rw [hN];show w'.heap.size < (w'.alloc _).heap.size;simp
 generalize (w'.alloc (Obj.cells #[.int .i64 (zak t.toList t2.toList),.int .i64 (zak x.toList x2.toList)] 3))=V at x4 x5 xb y0 y1 ys ⊢
 clear u1 u2 u3 u4
 refine hK.out _ _ ⟨x4,x5,xb,Lib.hid fun _=>⟨y0,y1⟩⟩ (fun hHeld=>?_)
 clear hK K
 try simp only [putS]
 obtain ⟨u1,u2,u3,u4⟩:=hHeld
 obtain ⟨v0,v1⟩:=u4.out ys
 refine tr 11 rfl (fun K hK=>?_)
 rw [if_pos (by rfl)]
 go_simp
 rw [hN] at v0 v1
 with_reducible refine (orAt _ _ _ _ v0 v1).mono ?_
 rintro e w3 ⟨rfl,rfl⟩
 refine hK.out _ _ ⟨u1,u2,u3,u4⟩ (fun hHeld=>?_)
 clear hK K u1 u2 u4 v0 v1
 try simp only [putS]
 refine tr 12 rfl (fun K hK=>?_)
 go_simp
 refine hK.out _ _ hHeld (fun _=>?_)
 clear hK K hHeld
 try simp only [putS]
 refine wpAnyH_done (by kernel_rfl) ?_ _
 go_wp2_with fail
 go_ret
 exact ⟨rfl,u3⟩
theorem ztv (lang k:Int) (b:Bool) (n:Int) (t x:ByteArray) (q:List Val) (p:Option Addr) (cap:Nat) (k2:Int) (b2:Bool) (n2:Int) (t2 x2:ByteArray) (q2:List Val) (p2:Option Addr) (cap2:Nat) (w:World) (hk0:k=8):
 Calls Tryz.prog 206 #[.int .i64 lang,.agg #[.int .i64 k,.bool b,.int .i64 n,.string t,.string x,.slice p q.length cap],.agg #[.int .i64 k2,.bool b2,.int .i64 n2,.string t2,.string x2,.slice p2 q2.length cap2]] w fun e w'=>e=.returned (.int .i64 (lexI (zak t.toList t2.toList) (zak x.toList x2.toList)))∧Low w.heap.size w w':=by
 obtain ⟨W0,hW0⟩:∃ W0,W0=((w.alloc (.cells #[.int .i64 lang] 3)).alloc (.cells #[.int .i64 k,.bool b,.int .i64 n,.string t,.string x,.slice p q.length cap] 48)).alloc (.cells #[.int .i64 k2,.bool b2,.int .i64 n2,.string t2,.string x2,.slice p2 q2.length cap2] 48):=⟨_,rfl⟩
 have S4:Six W0 (w.heap.size+1) k b n t x p q.length cap:=by rw [hW0];exact (zaj _ (by simp)).alloc _
 have S5:Six W0 (w.heap.size+2) k2 b2 n2 t2 x2 p2 q2.length cap2:=by rw [hW0];exact zaj _ (by simp)
 have b0:Low w.heap.size w W0:=by rw [hW0];exact low3 _ _ _ _
 have c0:W0.cell? ⟨w.heap.size,0,none⟩=some (.int .i64 lang):=by
  rw [hW0]
  have e:(w.alloc (.cells #[.int .i64 lang] 3)).cell? ⟨w.heap.size,0,none⟩=some (.int .i64 lang):=zad (zaf _ _ rfl) _ rfl
  exact ((low2 _ _ _).cell (p:=⟨w.heap.size,0,none⟩) (by simp)).trans e
 have H0:=Lib.hid hW0
 clear hW0
 subst hk0
 go_enter Tryz.func206,Tryz.ntmps206
 go_wp2_with (first
  |(rw [← H0.out];(with_reducible refine zac (.tmp 4) (w.heap.size+1) S4 ?_ ?_ ?_ ?_);rfl;rfl;rfl)
  |((with_reducible refine zac (.tmp 4) (w.heap.size+1) S4 ?_ ?_ ?_ ?_);rfl;rfl;rfl)
  |((with_reducible refine zac (.tmp 5) (w.heap.size+2) S5 ?_ ?_ ?_ ?_);rfl;rfl;rfl)
  |(go_at_call 156;(with_reducible refine (zat 8 b n t x _ 171 rfl _).mono ?_);rintro e w' ⟨rfl,hb⟩;replace S4:=S4.below hb.is;replace S5:=S5.below hb.is;replace c0:=(hb.cell (p:=⟨w.heap.size,0,none⟩) (World.block_lt_of_cell? _ _ c0)).trans c0;replace b0:=zal b0 hb b0.size;have f1:=S4.c1;have f2:=S4.c2;have f5:=S4.c5;have g1:=S5.c1;have g2:=S5.c2;have g5:=S5.c5;clear hb)
  |(simp only [zhc,zg9,zha,zg7,zg8,zhb,Result.andThen_ok]))
 obtain ⟨N,hN⟩:∃ N,N=w'.heap.size:=⟨_,rfl⟩
 refine wp_region_held_drew (S:=fun w'=>Six w' (w.heap.size+1) 8 b n t x p q.length cap∧Six w' (w.heap.size+2) k2 b2 n2 t2 x2 p2 q2.length cap2∧Low w.heap.size w w'∧Hid (N < w'.heap.size→w'.cell? ⟨N,0,none⟩=some (.int .i64 (zak t.toList t2.toList))∧w'.cell? ⟨N,1,none⟩=some (.int .i64 (zak x.toList x2.toList)))) (by kernel_rfl) ⟨S4,S5,b0.drew,Lib.hid fun h=>absurd h (by rw [hN];exact Nat.lt_irrefl _)⟩ (fun hHeld=>?_)
 refine tg (i:=0) (.pointer (some ⟨w.heap.size+1,3,none⟩)) rfl hHeld ?_
 refine tk (i:=1) (v:=.string t) rfl (Or.inl ⟨by rfl,fun W h=>by have c0:=h.1.c3;go_simp⟩) hHeld ?_
 refine tg (i:=2) (.pointer (some ⟨w.heap.size+2,3,none⟩)) rfl hHeld ?_
 refine tk (i:=3) (v:=.string t2) rfl (Or.inl ⟨by rfl,fun W h=>by have c0:=h.2.1.c3;go_simp⟩) hHeld ?_
 refine tg (i:=5) (.pointer (some ⟨w.heap.size+1,4,none⟩)) rfl hHeld ?_
 refine tk (i:=6) (v:=.string x) rfl (Or.inl ⟨by rfl,fun W h=>by have c0:=h.1.c4;go_simp⟩) hHeld ?_
 refine tg (i:=7) (.pointer (some ⟨w.heap.size+2,4,none⟩)) rfl hHeld ?_
 refine tk (i:=8) (v:=.string x2) rfl (Or.inl ⟨by rfl,fun W h=>by have c0:=h.2.1.c4;go_simp⟩) hHeld ?_
 obtain ⟨u1,u2,u3,u4⟩:=hHeld
 refine tr 4 rfl (fun K hK=>?_)
 rw [if_pos (by rfl)]
 go_simp
 refine (zc2 t t2 _).mono ?_
 rintro e w3 ⟨rfl,rfl⟩
 refine hK.out _ _ ⟨u1,u2,u3,u4⟩ (fun hHeld=>?_)
 clear hK K u1 u2 u3 u4
 try simp only [putS]
 obtain ⟨u1,u2,u3,u4⟩:=hHeld
 refine tr 9 rfl (fun K hK=>?_)
 rw [if_pos (by rfl)]
 go_simp
 refine (zc2 x x2 _).mono ?_
 rintro e w3 ⟨rfl,rfl⟩
 refine hK.out _ _ ⟨u1,u2,u3,u4⟩ (fun hHeld=>?_)
 clear hK K u1 u2 u3 u4
 try simp only [putS]
 obtain ⟨u1,u2,u3,u4⟩:=hHeld
 refine tr 10 rfl (fun K hK=>?_)
 go_simp
 rw [← hN]
 have x4:Six (w'.alloc (Obj.cells #[.int .i64 (zak t.toList t2.toList),.int .i64 (zak x.toList x2.toList)] 3)) (w.heap.size+1) 8 b n t x p q.length cap:=S4.alloc _
 have x5:Six (w'.alloc (Obj.cells #[.int .i64 (zak t.toList t2.toList),.int .i64 (zak x.toList x2.toList)] 3)) (w.heap.size+2) k2 b2 n2 t2 x2 p2 q2.length cap2:=S5.alloc _
 have xb:Low w.heap.size w (w'.alloc (Obj.cells #[.int .i64 (zak t.toList t2.toList),.int .i64 (zak x.toList x2.toList)] 3)).drew:=(b0.alloc b0.size _).drew
 have y0:(w'.alloc (Obj.cells #[.int .i64 (zak t.toList t2.toList),.int .i64 (zak x.toList x2.toList)] 3)).cell? ⟨N,0,none⟩=some (.int .i64 (zak t.toList t2.toList)):=zad (zaf w' _ hN.symm) 0 rfl
 have y1:(w'.alloc (Obj.cells #[.int .i64 (zak t.toList t2.toList),.int .i64 (zak x.toList x2.toList)] 3)).cell? ⟨N,1,none⟩=some (.int .i64 (zak x.toList x2.toList)):=zad (zaf w' _ hN.symm) 1 rfl
 have ys:N < (w'.alloc (Obj.cells #[.int .i64 (zak t.toList t2.toList),.int .i64 (zak x.toList x2.toList)] 3)).drew.heap.size:=by rw [hN];show w'.heap.size < (w'.alloc _).heap.size;simp
 generalize (w'.alloc (Obj.cells #[.int .i64 (zak t.toList t2.toList),.int .i64 (zak x.toList x2.toList)] 3))=V at x4 x5 xb y0 y1 ys ⊢
 clear u1 u2 u3 u4
 refine hK.out _ _ ⟨x4,x5,xb,Lib.hid fun _=>⟨y0,y1⟩⟩ (fun hHeld=>?_)
 clear hK K
 try simp only [putS]
 obtain ⟨u1,u2,u3,u4⟩:=hHeld
 obtain ⟨v0,v1⟩:=u4.out ys
 refine tr 11 rfl (fun K hK=>?_)
 rw [if_pos (by rfl)]
 go_simp
 rw [hN] at v0 v1
 with_reducible refine (orAt _ _ _ _ v0 v1).mono ?_
 rintro e w3 ⟨rfl,rfl⟩
 refine hK.out _ _ ⟨u1,u2,u3,u4⟩ (fun hHeld=>?_)
 clear hK K u1 u2 u4 v0 v1
 try simp only [putS]
 refine tr 12 rfl (fun K hK=>?_)
 go_simp
 refine hK.out _ _ hHeld (fun _=>?_)
 clear hK K hHeld
 try simp only [putS]
 refine wpAnyH_done (by kernel_rfl) ?_ _
 go_wp2_with fail
 go_ret
 exact ⟨rfl,u3⟩
theorem ztw (lang k:Int) (b:Bool) (n:Int) (t x:ByteArray) (q:List Val) (p:Option Addr) (cap:Nat) (k2:Int) (b2:Bool) (n2:Int) (t2 x2:ByteArray) (q2:List Val) (p2:Option Addr) (cap2:Nat) (w:World) (hk0:k=9):
 Calls Tryz.prog 206 #[.int .i64 lang,.agg #[.int .i64 k,.bool b,.int .i64 n,.string t,.string x,.slice p q.length cap],.agg #[.int .i64 k2,.bool b2,.int .i64 n2,.string t2,.string x2,.slice p2 q2.length cap2]] w fun e w'=>e=.returned (.int .i64 (lexI (zak t.toList t2.toList) (zak x.toList x2.toList)))∧Low w.heap.size w w':=by
 obtain ⟨W0,hW0⟩:∃ W0,W0=((w.alloc (.cells #[.int .i64 lang] 3)).alloc (.cells #[.int .i64 k,.bool b,.int .i64 n,.string t,.string x,.slice p q.length cap] 48)).alloc (.cells #[.int .i64 k2,.bool b2,.int .i64 n2,.string t2,.string x2,.slice p2 q2.length cap2] 48):=⟨_,rfl⟩
 have S4:Six W0 (w.heap.size+1) k b n t x p q.length cap:=by rw [hW0];exact (zaj _ (by simp)).alloc _
 have S5:Six W0 (w.heap.size+2) k2 b2 n2 t2 x2 p2 q2.length cap2:=by rw [hW0];exact zaj _ (by simp)
 have b0:Low w.heap.size w W0:=by rw [hW0];exact low3 _ _ _ _
 have c0:W0.cell? ⟨w.heap.size,0,none⟩=some (.int .i64 lang):=by
  rw [hW0]
  have e:(w.alloc (.cells #[.int .i64 lang] 3)).cell? ⟨w.heap.size,0,none⟩=some (.int .i64 lang):=zad (zaf _ _ rfl) _ rfl
  exact ((low2 _ _ _).cell (p:=⟨w.heap.size,0,none⟩) (by simp)).trans e
 have H0:=Lib.hid hW0
 clear hW0
 subst hk0
 go_enter Tryz.func206,Tryz.ntmps206
 go_wp2_with (first
  |(rw [← H0.out];(with_reducible refine zac (.tmp 4) (w.heap.size+1) S4 ?_ ?_ ?_ ?_);rfl;rfl;rfl)
  |((with_reducible refine zac (.tmp 4) (w.heap.size+1) S4 ?_ ?_ ?_ ?_);rfl;rfl;rfl)
  |((with_reducible refine zac (.tmp 5) (w.heap.size+2) S5 ?_ ?_ ?_ ?_);rfl;rfl;rfl)
  |(go_at_call 156;(with_reducible refine (zat 9 b n t x _ 172 rfl _).mono ?_);rintro e w' ⟨rfl,hb⟩;replace S4:=S4.below hb.is;replace S5:=S5.below hb.is;replace c0:=(hb.cell (p:=⟨w.heap.size,0,none⟩) (World.block_lt_of_cell? _ _ c0)).trans c0;replace b0:=zal b0 hb b0.size;have f1:=S4.c1;have f2:=S4.c2;have f5:=S4.c5;have g1:=S5.c1;have g2:=S5.c2;have g5:=S5.c5;clear hb)
  |(simp only [zhi,zhf,zhg,zhd,zhe,zhh,Result.andThen_ok]))
 obtain ⟨N,hN⟩:∃ N,N=w'.heap.size:=⟨_,rfl⟩
 refine wp_region_held_drew (S:=fun w'=>Six w' (w.heap.size+1) 9 b n t x p q.length cap∧Six w' (w.heap.size+2) k2 b2 n2 t2 x2 p2 q2.length cap2∧Low w.heap.size w w'∧Hid (N < w'.heap.size→w'.cell? ⟨N,0,none⟩=some (.int .i64 (zak t.toList t2.toList))∧w'.cell? ⟨N,1,none⟩=some (.int .i64 (zak x.toList x2.toList)))) (by kernel_rfl) ⟨S4,S5,b0.drew,Lib.hid fun h=>absurd h (by rw [hN];exact Nat.lt_irrefl _)⟩ (fun hHeld=>?_)
 refine tg (i:=0) (.pointer (some ⟨w.heap.size+1,3,none⟩)) rfl hHeld ?_
 refine tk (i:=1) (v:=.string t) rfl (Or.inl ⟨by rfl,fun W h=>by have c0:=h.1.c3;go_simp⟩) hHeld ?_
 refine tg (i:=2) (.pointer (some ⟨w.heap.size+2,3,none⟩)) rfl hHeld ?_
 refine tk (i:=3) (v:=.string t2) rfl (Or.inl ⟨by rfl,fun W h=>by have c0:=h.2.1.c3;go_simp⟩) hHeld ?_
 refine tg (i:=5) (.pointer (some ⟨w.heap.size+1,4,none⟩)) rfl hHeld ?_
 refine tk (i:=6) (v:=.string x) rfl (Or.inl ⟨by rfl,fun W h=>by have c0:=h.1.c4;go_simp⟩) hHeld ?_
 refine tg (i:=7) (.pointer (some ⟨w.heap.size+2,4,none⟩)) rfl hHeld ?_
 refine tk (i:=8) (v:=.string x2) rfl (Or.inl ⟨by rfl,fun W h=>by have c0:=h.2.1.c4;go_simp⟩) hHeld ?_
 obtain ⟨u1,u2,u3,u4⟩:=hHeld
 refine tr 4 rfl (fun K hK=>?_)
 rw [if_pos (by rfl)]
 go_simp
 refine (zc2 t t2 _).mono ?_
 rintro e w3 ⟨rfl,rfl⟩
 refine hK.out _ _ ⟨u1,u2,u3,u4⟩ (fun hHeld=>?_)
 clear hK K u1 u2 u3 u4
 try simp only [putS]
 obtain ⟨u1,u2,u3,u4⟩:=hHeld
 refine tr 9 rfl (fun K hK=>?_)
 rw [if_pos (by rfl)]
 go_simp
 refine (zc2 x x2 _).mono ?_
 rintro e w3 ⟨rfl,rfl⟩
 refine hK.out _ _ ⟨u1,u2,u3,u4⟩ (fun hHeld=>?_)
 clear hK K u1 u2 u3 u4
 try simp only [putS]
 obtain ⟨u1,u2,u3,u4⟩:=hHeld
 refine tr 10 rfl (fun K hK=>?_)
 go_simp
 rw [← hN]
 have x4:Six (w'.alloc (Obj.cells #[.int .i64 (zak t.toList t2.toList),.int .i64 (zak x.toList x2.toList)] 3)) (w.heap.size+1) 9 b n t x p q.length cap:=S4.alloc _
 have x5:Six (w'.alloc (Obj.cells #[.int .i64 (zak t.toList t2.toList),.int .i64 (zak x.toList x2.toList)] 3)) (w.heap.size+2) k2 b2 n2 t2 x2 p2 q2.length cap2:=S5.alloc _
 have xb:Low w.heap.size w (w'.alloc (Obj.cells #[.int .i64 (zak t.toList t2.toList),.int .i64 (zak x.toList x2.toList)] 3)).drew:=(b0.alloc b0.size _).drew
 have y0:(w'.alloc (Obj.cells #[.int .i64 (zak t.toList t2.toList),.int .i64 (zak x.toList x2.toList)] 3)).cell? ⟨N,0,none⟩=some (.int .i64 (zak t.toList t2.toList)):=zad (zaf w' _ hN.symm) 0 rfl
 have y1:(w'.alloc (Obj.cells #[.int .i64 (zak t.toList t2.toList),.int .i64 (zak x.toList x2.toList)] 3)).cell? ⟨N,1,none⟩=some (.int .i64 (zak x.toList x2.toList)):=zad (zaf w' _ hN.symm) 1 rfl
 have ys:N < (w'.alloc (Obj.cells #[.int .i64 (zak t.toList t2.toList),.int .i64 (zak x.toList x2.toList)] 3)).drew.heap.size:=by rw [hN];show w'.heap.size < (w'.alloc _).heap.size;simp
 generalize (w'.alloc (Obj.cells #[.int .i64 (zak t.toList t2.toList),.int .i64 (zak x.toList x2.toList)] 3))=V at x4 x5 xb y0 y1 ys ⊢
 clear u1 u2 u3 u4
 refine hK.out _ _ ⟨x4,x5,xb,Lib.hid fun _=>⟨y0,y1⟩⟩ (fun hHeld=>?_)
 clear hK K
 try simp only [putS]
 obtain ⟨u1,u2,u3,u4⟩:=hHeld
 obtain ⟨v0,v1⟩:=u4.out ys
 refine tr 11 rfl (fun K hK=>?_)
 rw [if_pos (by rfl)]
 go_simp
 rw [hN] at v0 v1
 with_reducible refine (orAt _ _ _ _ v0 v1).mono ?_
 rintro e w3 ⟨rfl,rfl⟩
 refine hK.out _ _ ⟨u1,u2,u3,u4⟩ (fun hHeld=>?_)
 clear hK K u1 u2 u4 v0 v1
 try simp only [putS]
 refine tr 12 rfl (fun K hK=>?_)
 go_simp
 refine hK.out _ _ hHeld (fun _=>?_)
 clear hK K hHeld
 try simp only [putS]
 refine wpAnyH_done (by kernel_rfl) ?_ _
 go_wp2_with fail
 go_ret
 exact ⟨rfl,u3⟩
theorem zsk (lang k:Int) (b:Bool) (n:Int) (t x:ByteArray) (q:List Val) (p:Option Addr) (cap:Nat) (k2:Int) (b2:Bool) (n2:Int) (t2 x2:ByteArray) (q2:List Val) (p2:Option Addr) (cap2:Nat) (w:World) (hk0:k=10):
 Calls Tryz.prog 206 #[.int .i64 lang,.agg #[.int .i64 k,.bool b,.int .i64 n,.string t,.string x,.slice p q.length cap],.agg #[.int .i64 k2,.bool b2,.int .i64 n2,.string t2,.string x2,.slice p2 q2.length cap2]] w fun e w'=>e=.returned (.int .i64 (lexI (zak t.toList t2.toList) (zak x.toList x2.toList)))∧Low w.heap.size w w':=by
 obtain ⟨W0,hW0⟩:∃ W0,W0=((w.alloc (.cells #[.int .i64 lang] 3)).alloc (.cells #[.int .i64 k,.bool b,.int .i64 n,.string t,.string x,.slice p q.length cap] 48)).alloc (.cells #[.int .i64 k2,.bool b2,.int .i64 n2,.string t2,.string x2,.slice p2 q2.length cap2] 48):=⟨_,rfl⟩
 have S4:Six W0 (w.heap.size+1) k b n t x p q.length cap:=by rw [hW0];exact (zaj _ (by simp)).alloc _
 have S5:Six W0 (w.heap.size+2) k2 b2 n2 t2 x2 p2 q2.length cap2:=by rw [hW0];exact zaj _ (by simp)
 have b0:Low w.heap.size w W0:=by rw [hW0];exact low3 _ _ _ _
 have c0:W0.cell? ⟨w.heap.size,0,none⟩=some (.int .i64 lang):=by
  rw [hW0]
  have e:(w.alloc (.cells #[.int .i64 lang] 3)).cell? ⟨w.heap.size,0,none⟩=some (.int .i64 lang):=zad (zaf _ _ rfl) _ rfl
  exact ((low2 _ _ _).cell (p:=⟨w.heap.size,0,none⟩) (by simp)).trans e
 have H0:=Lib.hid hW0
 clear hW0
 subst hk0
 go_enter Tryz.func206,Tryz.ntmps206
 go_wp2_with (first
  |(rw [← H0.out];(with_reducible refine zac (.tmp 4) (w.heap.size+1) S4 ?_ ?_ ?_ ?_);rfl;rfl;rfl)
  |((with_reducible refine zac (.tmp 4) (w.heap.size+1) S4 ?_ ?_ ?_ ?_);rfl;rfl;rfl)
  |((with_reducible refine zac (.tmp 5) (w.heap.size+2) S5 ?_ ?_ ?_ ?_);rfl;rfl;rfl)
  |(go_at_call 156;(with_reducible refine (zat 10 b n t x _ 173 rfl _).mono ?_);rintro e w' ⟨rfl,hb⟩;replace S4:=S4.below hb.is;replace S5:=S5.below hb.is;replace c0:=(hb.cell (p:=⟨w.heap.size,0,none⟩) (World.block_lt_of_cell? _ _ c0)).trans c0;replace b0:=zal b0 hb b0.size;have f1:=S4.c1;have f2:=S4.c2;have f5:=S4.c5;have g1:=S5.c1;have g2:=S5.c2;have g5:=S5.c5;clear hb)
  |(simp only [zez,zew,zex,zeu,zev,zey,Result.andThen_ok]))
 obtain ⟨N,hN⟩:∃ N,N=w'.heap.size:=⟨_,rfl⟩
 refine wp_region_held_drew (S:=fun w'=>Six w' (w.heap.size+1) 10 b n t x p q.length cap∧Six w' (w.heap.size+2) k2 b2 n2 t2 x2 p2 q2.length cap2∧Low w.heap.size w w'∧Hid (N < w'.heap.size→w'.cell? ⟨N,0,none⟩=some (.int .i64 (zak t.toList t2.toList))∧w'.cell? ⟨N,1,none⟩=some (.int .i64 (zak x.toList x2.toList)))) (by kernel_rfl) ⟨S4,S5,b0.drew,Lib.hid fun h=>absurd h (by rw [hN];exact Nat.lt_irrefl _)⟩ (fun hHeld=>?_)
 refine tg (i:=0) (.pointer (some ⟨w.heap.size+1,3,none⟩)) rfl hHeld ?_
 refine tk (i:=1) (v:=.string t) rfl (Or.inl ⟨by rfl,fun W h=>by have c0:=h.1.c3;go_simp⟩) hHeld ?_
 refine tg (i:=2) (.pointer (some ⟨w.heap.size+2,3,none⟩)) rfl hHeld ?_
 refine tk (i:=3) (v:=.string t2) rfl (Or.inl ⟨by rfl,fun W h=>by have c0:=h.2.1.c3;go_simp⟩) hHeld ?_
 refine tg (i:=5) (.pointer (some ⟨w.heap.size+1,4,none⟩)) rfl hHeld ?_
 refine tk (i:=6) (v:=.string x) rfl (Or.inl ⟨by rfl,fun W h=>by have c0:=h.1.c4;go_simp⟩) hHeld ?_
 refine tg (i:=7) (.pointer (some ⟨w.heap.size+2,4,none⟩)) rfl hHeld ?_
 refine tk (i:=8) (v:=.string x2) rfl (Or.inl ⟨by rfl,fun W h=>by have c0:=h.2.1.c4;go_simp⟩) hHeld ?_
 obtain ⟨u1,u2,u3,u4⟩:=hHeld
 refine tr 4 rfl (fun K hK=>?_)
 rw [if_pos (by rfl)]
 go_simp
 refine (zc2 t t2 _).mono ?_
 rintro e w3 ⟨rfl,rfl⟩
 refine hK.out _ _ ⟨u1,u2,u3,u4⟩ (fun hHeld=>?_)
 clear hK K u1 u2 u3 u4
 try simp only [putS]
 obtain ⟨u1,u2,u3,u4⟩:=hHeld
 refine tr 9 rfl (fun K hK=>?_)
 rw [if_pos (by rfl)]
 go_simp
 refine (zc2 x x2 _).mono ?_
 rintro e w3 ⟨rfl,rfl⟩
 refine hK.out _ _ ⟨u1,u2,u3,u4⟩ (fun hHeld=>?_)
 clear hK K u1 u2 u3 u4
 try simp only [putS]
 obtain ⟨u1,u2,u3,u4⟩:=hHeld
 refine tr 10 rfl (fun K hK=>?_)
 go_simp
 rw [← hN]
 have x4:Six (w'.alloc (Obj.cells #[.int .i64 (zak t.toList t2.toList),.int .i64 (zak x.toList x2.toList)] 3)) (w.heap.size+1) 10 b n t x p q.length cap:=S4.alloc _
 have x5:Six (w'.alloc (Obj.cells #[.int .i64 (zak t.toList t2.toList),.int .i64 (zak x.toList x2.toList)] 3)) (w.heap.size+2) k2 b2 n2 t2 x2 p2 q2.length cap2:=S5.alloc _
 have xb:Low w.heap.size w (w'.alloc (Obj.cells #[.int .i64 (zak t.toList t2.toList),.int .i64 (zak x.toList x2.toList)] 3)).drew:=(b0.alloc b0.size _).drew
 have y0:(w'.alloc (Obj.cells #[.int .i64 (zak t.toList t2.toList),.int .i64 (zak x.toList x2.toList)] 3)).cell? ⟨N,0,none⟩=some (.int .i64 (zak t.toList t2.toList)):=zad (zaf w' _ hN.symm) 0 rfl
 have y1:(w'.alloc (Obj.cells #[.int .i64 (zak t.toList t2.toList),.int .i64 (zak x.toList x2.toList)] 3)).cell? ⟨N,1,none⟩=some (.int .i64 (zak x.toList x2.toList)):=zad (zaf w' _ hN.symm) 1 rfl
 have ys:N < (w'.alloc (Obj.cells #[.int .i64 (zak t.toList t2.toList),.int .i64 (zak x.toList x2.toList)] 3)).drew.heap.size:=by rw [hN];show w'.heap.size < (w'.alloc _).heap.size;simp
 generalize (w'.alloc (Obj.cells #[.int .i64 (zak t.toList t2.toList),.int .i64 (zak x.toList x2.toList)] 3))=V at x4 x5 xb y0 y1 ys ⊢
 clear u1 u2 u3 u4
 refine hK.out _ _ ⟨x4,x5,xb,Lib.hid fun _=>⟨y0,y1⟩⟩ (fun hHeld=>?_)
 clear hK K
 try simp only [putS]
 obtain ⟨u1,u2,u3,u4⟩:=hHeld
 obtain ⟨v0,v1⟩:=u4.out ys
 refine tr 11 rfl (fun K hK=>?_)
 rw [if_pos (by rfl)]
 go_simp
 rw [hN] at v0 v1
 with_reducible refine (orAt _ _ _ _ v0 v1).mono ?_
 rintro e w3 ⟨rfl,rfl⟩
 refine hK.out _ _ ⟨u1,u2,u3,u4⟩ (fun hHeld=>?_)
 clear hK K u1 u2 u4 v0 v1
 try simp only [putS]
 refine tr 12 rfl (fun K hK=>?_)
 go_simp
 refine hK.out _ _ hHeld (fun _=>?_)
 clear hK K hHeld
 try simp only [putS]
 refine wpAnyH_done (by kernel_rfl) ?_ _
 go_wp2_with fail
 go_ret
 exact ⟨rfl,u3⟩
end Go.Proofs.YteclpnfckjfibaaGreatDoor
