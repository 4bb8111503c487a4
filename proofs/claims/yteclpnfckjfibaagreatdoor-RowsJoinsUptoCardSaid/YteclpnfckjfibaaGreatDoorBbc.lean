/- Texts of one kind, one behind the other: each says ahead of itself what it shows. -/
import Derived.Test.YteclpnfckjfibaaGreatDoorBav
import Derived.Test.YteclpnfckjfibaaGreatDoorBba
import Derived.Test.YteclpnfckjfibaaGreatDoorBbb
/- FT -/
namespace Go.Proofs.YteclpnfckjfibaaGreatDoor
open Go.RowKit
def hasI (n:Nat) (i:Int):Bool:=decide (0≤i) && decide (i < n)
set_option maxHeartbeats 1600000 in
theorem zsc (t:TabL) (i:Int) (V R:Value) (W:World) (h:tabE.rel W (Old W) [V,R] t):Calls Tryz.prog 85 #[.agg #[V,R],.int .i64 i] W fun e w'=>e=.returned (.bool (hasI t.rows.length i))∧Below W.heap.size W w':=by
 obtain ⟨V',R',e,hv,hr,hcv,hcr,hlv,hlr⟩:=h
 cases e
 obtain ⟨pV,kV,rfl⟩:=hv.slice
 obtain ⟨qR,lR,rfl⟩:=hr.slice
 obtain ⟨W1,hW1⟩:∃ W1,W1=W.alloc (.cells #[.slice pV t.vars.length kV,.slice qR t.rows.length lR] 25):=⟨_,rfl⟩
 have b1:Below W.heap.size W W1:=by rw [hW1];exact zaz _ _
 have u1:W1.heap[W.heap.size]?=some (.cells #[.slice pV t.vars.length kV,.slice qR t.rows.length lR] 25):=by rw [hW1];exact zah _ _ rfl
 have c1:=zac u1 1 rfl
 have HW:=Lib.hid hW1
 have HB:=Lib.hid b1
 obtain ⟨n,hn⟩:∃ n,n=t.rows.length:=⟨_,rfl⟩
 unfold hasI
 clear hv hr hcv hcr hW1 b1 u1
 by_cases h0:0≤i
 ·by_cases h1:i < (t.rows.length:Int)
  ·rw [decide_eq_true h0,decide_eq_true h1]
   go_enter Tryz.func85,Tryz.ntmps85
   go_upto_region 1 with fail
   rw [← HW.out]
   go_wp2_with fail
   go_ret
   exact ⟨by first | rfl | simp,HB.out⟩
  ·rw [decide_eq_true h0,decide_eq_false h1]
   go_enter Tryz.func85,Tryz.ntmps85
   go_upto_region 1 with fail
   rw [← HW.out]
   go_wp2_with fail
   go_ret
   exact ⟨by first | rfl | simp,HB.out⟩
 ·rw [decide_eq_false h0,Bool.false_and]
  go_enter Tryz.func85,Tryz.ntmps85
  go_upto_region 1 with fail
  rw [← HW.out]
  go_wp2_with fail
  go_ret
  exact ⟨by first | rfl | simp,HB.out⟩
def zsd (a b:TabL) (i j:Int):Bool:=tabP a && tabP b && hasI a.rows.length i && hasI b.rows.length j && fitB (zat a.vars b.vars) (a.rows.getD i.toNat []) (b.rows.getD j.toNat [])
set_option maxHeartbeats 6400000 in
set_option maxRecDepth 20000 in
theorem fitsAt (a b:TabL) (i j:Int) (VA RA VB RB:Value) (W:World) (hG:Gd W) (ha:tabE.rel W (Old W) [VA,RA] a) (hb:tabE.rel W (Old W) [VB,RB] b):Calls Tryz.prog 34 #[.agg #[VA,RA],.agg #[VB,RB],.int .i64 i,.int .i64 j] W fun e w'=>e=.returned (.bool (zsd a b i j))∧Below W.heap.size W w':=by
 have ha0:=ha
 have hb0:=hb
 obtain ⟨V',R',e,hva,hra,hcva,hcra,hlva,hlra⟩:=ha
 cases e
 obtain ⟨V',R',e,hvb,hrb,hcvb,hcrb,hlvb,hlrb⟩:=hb
 cases e
 obtain ⟨pA,kA,rfl⟩:=hva.slice
 obtain ⟨qA,lA,rfl⟩:=hra.slice
 obtain ⟨pB,kB,rfl⟩:=hvb.slice
 obtain ⟨qB,lB,rfl⟩:=hrb.slice
 obtain ⟨W1,hW1⟩:∃ W1,W1=(W.alloc (.cells #[.slice pA a.vars.length kA,.slice qA a.rows.length lA] 25)).alloc (.cells #[.slice pB b.vars.length kB,.slice qB b.rows.length lB] 25):=⟨_,rfl⟩
 have b1:Below W.heap.size W W1:=by rw [hW1];exact zc6 _ _ _
 have u2:W1.heap[W.heap.size]?=some (.cells #[.slice pA a.vars.length kA,.slice qA a.rows.length lA] 25):=by rw [hW1];exact zaq _ (zah _ _ rfl)
 have u3:W1.heap[W.heap.size+1]?=some (.cells #[.slice pB b.vars.length kB,.slice qB b.rows.length lB] 25):=by rw [hW1];exact zah _ _ (by simp)
 have H1:Hid (Calls Tryz.prog 14 #[.agg #[.slice pA a.vars.length kA,.slice qA a.rows.length lA]] W1 fun e w'=>e=.returned (.bool (tabP a))∧Below W1.heap.size W1 w'):=Lib.hid (zcm a _ _ W1 (hG.below b1) (tabE.stays (zad b1) ha0))
 have H2:Hid (∀ W',Below W1.heap.size W1 W'→Calls Tryz.prog 14 #[.agg #[.slice pB b.vars.length kB,.slice qB b.rows.length lB]] W' fun e w'=>e=.returned (.bool (tabP b))∧Below W'.heap.size W' w'):=Lib.hid fun W' h=>zcm b _ _ W' (hG.below (zab b1 h b1.size)) (tabE.stays (zad (zab b1 h b1.size)) hb0)
 have H3:Hid (∀ W',Below W1.heap.size W1 W'→Calls Tryz.prog 85 #[.agg #[.slice pA a.vars.length kA,.slice qA a.rows.length lA],.int .i64 i] W' fun e w'=>e=.returned (.bool (hasI a.rows.length i))∧Below W'.heap.size W' w'):=Lib.hid fun W' h=>zsc a i _ _ W' (tabE.stays (zad (zab b1 h b1.size)) ha0)
 have H4:Hid (∀ W',Below W1.heap.size W1 W'→Calls Tryz.prog 85 #[.agg #[.slice pB b.vars.length kB,.slice qB b.rows.length lB],.int .i64 j] W' fun e w'=>e=.returned (.bool (hasI b.rows.length j))∧Below W'.heap.size W' w'):=Lib.hid fun W' h=>zsc b j _ _ W' (tabE.stays (zad (zab b1 h b1.size)) hb0)
 have HVA:Hid (∀ W',Below W1.heap.size W1 W'→zaf za0 W' (Old W') (.slice pA a.vars.length kA) a.vars):=Lib.hid fun W' h=>hva.stays (zad (zab b1 h b1.size))
 have HVB:Hid (∀ W',Below W1.heap.size W1 W'→zaf za0 W' (Old W') (.slice pB b.vars.length kB) b.vars):=Lib.hid fun W' h=>hvb.stays (zad (zab b1 h b1.size))
 have HRA:Hid (∀ W',Below W1.heap.size W1 W'→zaf rowE W' (Old W') (.slice qA a.rows.length lA) a.rows):=Lib.hid fun W' h=>hra.stays (zad (zab b1 h b1.size))
 have HRB:Hid (∀ W',Below W1.heap.size W1 W'→zaf rowE W' (Old W') (.slice qB b.rows.length lB) b.rows):=Lib.hid fun W' h=>hrb.stays (zad (zab b1 h b1.size))
 have HTA:Hid (tabP a=true→∀ r∈a.rows,r.length=a.vars.length):=Lib.hid fun h=>(zbm h).1
 have HTB:Hid (tabP b=true→∀ r∈b.rows,r.length=b.vars.length):=Lib.hid fun h=>(zbm h).1
 have HIA:Hid (hasI a.rows.length i=true→0≤i∧i < (a.rows.length:Int)):=Lib.hid fun h=>by unfold hasI at h;simpa using h
 have HIB:Hid (hasI b.rows.length j=true→0≤j∧j < (b.rows.length:Int)):=Lib.hid fun h=>by unfold hasI at h;simpa using h
 have HW:=Lib.hid hW1
 have HB1:=Lib.hid b1
 have HU:=Lib.hid (And.intro u2 u3)
 unfold zsd
 generalize hpa:tabP a=pa at*
 generalize hpb:tabP b=pb at*
 generalize hia:hasI a.rows.length i=ia at*
 generalize hib:hasI b.rows.length j=ib at*
 clear ha0 hb0 hva hra hcva hcra hvb hrb hcvb hcrb hG hW1 b1 u3 hpa hpb hia hib
 cases pa with
 | false=>
   simp only [Bool.false_and,Bool.and_false,Bool.true_and,Bool.and_true]
   go_enter Tryz.func34,Tryz.ntmps34
   go_upto_region 1 with fail
   rw [← HW.out]
   go_wp2_with (first
    |((with_reducible refine zag (.tmp 4) W.heap.size 25 25 [.slice pA a.vars.length kA,.slice qA a.rows.length lA] 2 _ u2 rfl Tryz.underlying25 rfl zae ?_ ?_ ?_ ?_);rfl;rfl;rfl)
    |((with_reducible refine zal ?_ (.tmp 4) W.heap.size 25 25 [.slice pA a.vars.length kA,.slice qA a.rows.length lA] 2 _ u2c rfl Tryz.underlying25 rfl zae ?_ ?_ ?_);rfl;rfl;rfl)
    |((with_reducible refine zal ?_ (.tmp 5) (W.heap.size+1) 25 25 [.slice pB b.vars.length kB,.slice qB b.rows.length lB] 2 _ u3b rfl Tryz.underlying25 rfl zae ?_ ?_ ?_);rfl;rfl;rfl)
    |((with_reducible refine zal ?_ (.tmp 5) (W.heap.size+1) 25 25 [.slice pB b.vars.length kB,.slice qB b.rows.length lB] 2 _ u3d rfl Tryz.underlying25 rfl zae ?_ ?_ ?_);rfl;rfl;rfl)
    |(go_at_call 14;(with_reducible refine H1.out.mono ?_);rintro e w2 ⟨rfl,hb2⟩;have u3b:=(hb2.block _ (zaa HU.out.2)).trans HU.out.2)
    |(go_at_call 14;(with_reducible refine (H2.out _ hb2).mono ?_);rintro e w3 ⟨rfl,hb3⟩;have b3:=zab hb2 hb3 hb2.size;have u2c:=(b3.block _ (zaa HU.out.1)).trans HU.out.1)
    |(go_at_call 85;(with_reducible refine (H3.out _ b3).mono ?_);rintro e w4 ⟨rfl,hb4⟩;have b4:=zab b3 hb4 b3.size;have u3d:=(b4.block _ (zaa HU.out.2)).trans HU.out.2)
    |(go_at_call 85;(with_reducible refine (H4.out _ b4).mono ?_);rintro e w5 ⟨rfl,hb5⟩))
   go_ret
   exact ⟨by first | rfl | simp,HB1.out.trans ((hb2).mono HB1.out.size)⟩
 | true=>
   cases pb with
   | false=>
     simp only [Bool.false_and,Bool.and_false,Bool.true_and,Bool.and_true]
     go_enter Tryz.func34,Tryz.ntmps34
     go_upto_region 1 with fail
     rw [← HW.out]
     go_wp2_with (first
      |((with_reducible refine zag (.tmp 4) W.heap.size 25 25 [.slice pA a.vars.length kA,.slice qA a.rows.length lA] 2 _ u2 rfl Tryz.underlying25 rfl zae ?_ ?_ ?_ ?_);rfl;rfl;rfl)
      |((with_reducible refine zal ?_ (.tmp 4) W.heap.size 25 25 [.slice pA a.vars.length kA,.slice qA a.rows.length lA] 2 _ u2c rfl Tryz.underlying25 rfl zae ?_ ?_ ?_);rfl;rfl;rfl)
      |((with_reducible refine zal ?_ (.tmp 5) (W.heap.size+1) 25 25 [.slice pB b.vars.length kB,.slice qB b.rows.length lB] 2 _ u3b rfl Tryz.underlying25 rfl zae ?_ ?_ ?_);rfl;rfl;rfl)
      |((with_reducible refine zal ?_ (.tmp 5) (W.heap.size+1) 25 25 [.slice pB b.vars.length kB,.slice qB b.rows.length lB] 2 _ u3d rfl Tryz.underlying25 rfl zae ?_ ?_ ?_);rfl;rfl;rfl)
      |(go_at_call 14;(with_reducible refine H1.out.mono ?_);rintro e w2 ⟨rfl,hb2⟩;have u3b:=(hb2.block _ (zaa HU.out.2)).trans HU.out.2)
      |(go_at_call 14;(with_reducible refine (H2.out _ hb2).mono ?_);rintro e w3 ⟨rfl,hb3⟩;have b3:=zab hb2 hb3 hb2.size;have u2c:=(b3.block _ (zaa HU.out.1)).trans HU.out.1)
      |(go_at_call 85;(with_reducible refine (H3.out _ b3).mono ?_);rintro e w4 ⟨rfl,hb4⟩;have b4:=zab b3 hb4 b3.size;have u3d:=(b4.block _ (zaa HU.out.2)).trans HU.out.2)
      |(go_at_call 85;(with_reducible refine (H4.out _ b4).mono ?_);rintro e w5 ⟨rfl,hb5⟩))
     go_ret
     exact ⟨by first | rfl | simp,HB1.out.trans ((zab hb2 hb3 hb2.size).mono HB1.out.size)⟩
   | true=>
     cases ia with
     | false=>
       simp only [Bool.false_and,Bool.and_false,Bool.true_and,Bool.and_true]
       go_enter Tryz.func34,Tryz.ntmps34
       go_upto_region 1 with fail
       rw [← HW.out]
       go_wp2_with (first
        |((with_reducible refine zag (.tmp 4) W.heap.size 25 25 [.slice pA a.vars.length kA,.slice qA a.rows.length lA] 2 _ u2 rfl Tryz.underlying25 rfl zae ?_ ?_ ?_ ?_);rfl;rfl;rfl)
        |((with_reducible refine zal ?_ (.tmp 4) W.heap.size 25 25 [.slice pA a.vars.length kA,.slice qA a.rows.length lA] 2 _ u2c rfl Tryz.underlying25 rfl zae ?_ ?_ ?_);rfl;rfl;rfl)
        |((with_reducible refine zal ?_ (.tmp 5) (W.heap.size+1) 25 25 [.slice pB b.vars.length kB,.slice qB b.rows.length lB] 2 _ u3b rfl Tryz.underlying25 rfl zae ?_ ?_ ?_);rfl;rfl;rfl)
        |((with_reducible refine zal ?_ (.tmp 5) (W.heap.size+1) 25 25 [.slice pB b.vars.length kB,.slice qB b.rows.length lB] 2 _ u3d rfl Tryz.underlying25 rfl zae ?_ ?_ ?_);rfl;rfl;rfl)
        |(go_at_call 14;(with_reducible refine H1.out.mono ?_);rintro e w2 ⟨rfl,hb2⟩;have u3b:=(hb2.block _ (zaa HU.out.2)).trans HU.out.2)
        |(go_at_call 14;(with_reducible refine (H2.out _ hb2).mono ?_);rintro e w3 ⟨rfl,hb3⟩;have b3:=zab hb2 hb3 hb2.size;have u2c:=(b3.block _ (zaa HU.out.1)).trans HU.out.1)
        |(go_at_call 85;(with_reducible refine (H3.out _ b3).mono ?_);rintro e w4 ⟨rfl,hb4⟩;have b4:=zab b3 hb4 b3.size;have u3d:=(b4.block _ (zaa HU.out.2)).trans HU.out.2)
        |(go_at_call 85;(with_reducible refine (H4.out _ b4).mono ?_);rintro e w5 ⟨rfl,hb5⟩))
       go_ret
       exact ⟨by first | rfl | simp,HB1.out.trans ((zab b3 hb4 b3.size).mono HB1.out.size)⟩
     | true=>
       cases ib with
       | false=>
         simp only [Bool.false_and,Bool.and_false,Bool.true_and,Bool.and_true]
         go_enter Tryz.func34,Tryz.ntmps34
         go_upto_region 1 with fail
         rw [← HW.out]
         go_wp2_with (first
          |((with_reducible refine zag (.tmp 4) W.heap.size 25 25 [.slice pA a.vars.length kA,.slice qA a.rows.length lA] 2 _ u2 rfl Tryz.underlying25 rfl zae ?_ ?_ ?_ ?_);rfl;rfl;rfl)
          |((with_reducible refine zal ?_ (.tmp 4) W.heap.size 25 25 [.slice pA a.vars.length kA,.slice qA a.rows.length lA] 2 _ u2c rfl Tryz.underlying25 rfl zae ?_ ?_ ?_);rfl;rfl;rfl)
          |((with_reducible refine zal ?_ (.tmp 5) (W.heap.size+1) 25 25 [.slice pB b.vars.length kB,.slice qB b.rows.length lB] 2 _ u3b rfl Tryz.underlying25 rfl zae ?_ ?_ ?_);rfl;rfl;rfl)
          |((with_reducible refine zal ?_ (.tmp 5) (W.heap.size+1) 25 25 [.slice pB b.vars.length kB,.slice qB b.rows.length lB] 2 _ u3d rfl Tryz.underlying25 rfl zae ?_ ?_ ?_);rfl;rfl;rfl)
          |(go_at_call 14;(with_reducible refine H1.out.mono ?_);rintro e w2 ⟨rfl,hb2⟩;have u3b:=(hb2.block _ (zaa HU.out.2)).trans HU.out.2)
          |(go_at_call 14;(with_reducible refine (H2.out _ hb2).mono ?_);rintro e w3 ⟨rfl,hb3⟩;have b3:=zab hb2 hb3 hb2.size;have u2c:=(b3.block _ (zaa HU.out.1)).trans HU.out.1)
          |(go_at_call 85;(with_reducible refine (H3.out _ b3).mono ?_);rintro e w4 ⟨rfl,hb4⟩;have b4:=zab b3 hb4 b3.size;have u3d:=(b4.block _ (zaa HU.out.2)).trans HU.out.2)
          |(go_at_call 85;(with_reducible refine (H4.out _ b4).mono ?_);rintro e w5 ⟨rfl,hb5⟩))
         go_ret
         exact ⟨by first | rfl | simp,HB1.out.trans ((zab b4 hb5 b4.size).mono HB1.out.size)⟩
       | true=>
         simp only [Bool.true_and]
         go_enter Tryz.func34,Tryz.ntmps34
         go_upto_region 1 with fail
         rw [← HW.out]
         go_upto_region 3 with (first
          |((with_reducible refine zag (.tmp 4) W.heap.size 25 25 [.slice pA a.vars.length kA,.slice qA a.rows.length lA] 2 _ u2 rfl Tryz.underlying25 rfl zae ?_ ?_ ?_ ?_);rfl;rfl;rfl)
          |((with_reducible refine zal ?_ (.tmp 4) W.heap.size 25 25 [.slice pA a.vars.length kA,.slice qA a.rows.length lA] 2 _ u2c rfl Tryz.underlying25 rfl zae ?_ ?_ ?_);rfl;rfl;rfl)
          |((with_reducible refine zal ?_ (.tmp 5) (W.heap.size+1) 25 25 [.slice pB b.vars.length kB,.slice qB b.rows.length lB] 2 _ u3b rfl Tryz.underlying25 rfl zae ?_ ?_ ?_);rfl;rfl;rfl)
          |((with_reducible refine zal ?_ (.tmp 5) (W.heap.size+1) 25 25 [.slice pB b.vars.length kB,.slice qB b.rows.length lB] 2 _ u3d rfl Tryz.underlying25 rfl zae ?_ ?_ ?_);rfl;rfl;rfl)
          |(go_at_call 14;(with_reducible refine H1.out.mono ?_);rintro e w2 ⟨rfl,hb2⟩;have u3b:=(hb2.block _ (zaa HU.out.2)).trans HU.out.2)
          |(go_at_call 14;(with_reducible refine (H2.out _ hb2).mono ?_);rintro e w3 ⟨rfl,hb3⟩;have b3:=zab hb2 hb3 hb2.size;have u2c:=(b3.block _ (zaa HU.out.1)).trans HU.out.1)
          |(go_at_call 85;(with_reducible refine (H3.out _ b3).mono ?_);rintro e w4 ⟨rfl,hb4⟩;have b4:=zab b3 hb4 b3.size;have u3d:=(b4.block _ (zaa HU.out.2)).trans HU.out.2)
          |(go_at_call 85;(with_reducible refine (H4.out _ b4).mono ?_);rintro e w5 ⟨rfl,hb5⟩))
         have b5:=zab b4 hb5 b4.size
         have u2e:=(b5.block _ (zaa HU.out.1)).trans HU.out.1
         have u3e:=(b5.block _ (zaa HU.out.2)).trans HU.out.2
         obtain ⟨hi0,hi1⟩:=HIA.out (by simp)
         obtain ⟨hj0,hj1⟩:=HIB.out (by simp)
         obtain ⟨k,rfl⟩:∃ k:Nat,i=k:=⟨i.toNat,by omega⟩
         obtain ⟨m,rfl⟩:∃ m:Nat,j=m:=⟨j.toNat,by omega⟩
         have hk1:k < a.rows.length:=by omega
         have hm1:m < b.rows.length:=by omega
         obtain ⟨gA,oA,ua,eA,hl0,ca,hua,hcap0,hxl0⟩:=(HRA.out _ b5).rowAt k hk1
         obtain ⟨gB,oB,ub,eB,hl1,cb,hub,hcap1,hyl0⟩:=(HRB.out _ b5).rowAt m hm1
         obtain ⟨x,hx,hxm,hux,hxl⟩:∃ x,x=a.rows.getD k []∧x∈a.rows∧zaf valE w5 (Old w5) ua x∧x.length≤2097152:=⟨a.rows[k]'hk1,by simp [hk1],List.getElem_mem hk1,hua,hxl0⟩
         obtain ⟨y,hy,hym,huy,hyl⟩:∃ y,y=b.rows.getD m []∧y∈b.rows∧zaf valE w5 (Old w5) ub y∧y.length≤2097152:=⟨b.rows[m]'hm1,by simp [hm1],List.getElem_mem hm1,hub,hyl0⟩
         obtain ⟨pa,na,ka,rfl⟩:∃ p n k,ua=.slice p n k:=by
          obtain ⟨a,b,c⟩:=hux.slice
          exact ⟨a,_,b,c⟩
         obtain ⟨pb,nb,kb,rfl⟩:∃ p n k,ub=.slice p n k:=by
          obtain ⟨a,b,c⟩:=huy.slice
          exact ⟨a,_,b,c⟩
         subst eA
         subst eB
         have hsh0:=zll (vs:=a.vars) (us:=b.vars)
         have hshn:=Nat.le_trans (zek a.vars b.vars) hlva
         have hta:=HTA.out (by simp) x hxm
         have htb:=HTB.out (by simp) y hym
         obtain ⟨sh,hsq⟩:∃ sh,sh=zat a.vars b.vars:=⟨_,rfl⟩
         rw [← hsq] at hsh0 hshn
         have HFX:=Lib.hid (And.intro hux (And.intro huy (And.intro hx (And.intro hy hsq))))
         have HS:=Lib.hid (And.intro hsh0 (And.intro hta htb))
         have HSB:Hid (∀ w',Below w5.heap.size w5 w'→Calls Tryz.prog 76 #[.slice pA a.vars.length kA,.slice pB b.vars.length kB] w' (zk8 w' sh)):=Lib.hid fun w' h=>by
          rw [hsq]
          exact zm6 a.vars b.vars _ _ w' (HVA.out _ (zab b5 h b5.size)) (HVB.out _ (zab b5 h b5.size)) hlva hlvb
         have HB5:=Lib.hid b5
         clear hb2 hb3 hb4 hb5 b3 b4 b5 u2 u2c u3b u3d hua hub hxl0 hyl0 hcap0 hcap1 hl0 hl1 hux huy hx hy hsq hsh0 hta htb hxm hym hi0 hj0
         refine wp_region_held_drew (S:=fun W'=>(W'.heap[W.heap.size]?=some (.cells #[.slice pA a.vars.length kA,.slice (some ⟨gA,oA,none⟩) a.rows.length lA] 25)∧W'.heap[W.heap.size+1]?=some (.cells #[.slice pB b.vars.length kB,.slice (some ⟨gB,oB,none⟩) b.rows.length lB] 25))∧W'.cell? ⟨gA,oA+k,none⟩=some (.slice pa na ka)∧W'.cell? ⟨gB,oB+m,none⟩=some (.slice pb nb kb)) (by kernel_rfl) ⟨⟨u2e,u3e⟩,ca,cb⟩ (fun hh=>?_)
         have bq:Below w5.heap.size w5 w5.drew:=(Below.refl _ _).drew
         clear u2e u3e ca cb
         generalize w5.drew=wD at*
         refine tg (i:=0) (.pointer (some ⟨W.heap.size,0,none⟩)) rfl (hh) ?_
         refine tg (i:=2) (.pointer (some ⟨W.heap.size+1,0,none⟩)) rfl (hh) ?_
         refine tg (i:=5) (.pointer (some ⟨W.heap.size,1,none⟩)) rfl (hh) ?_
         refine tg (i:=7) (.int .i64 (k:Int)) rfl (hh) ?_
         refine tg (i:=10) (.pointer (some ⟨W.heap.size+1,1,none⟩)) rfl (hh) ?_
         refine tg (i:=12) (.int .i64 (m:Int)) rfl (hh) ?_
         refine tk (i:=1) (v:=.slice pA a.vars.length kA) rfl (Or.inl ⟨by rfl,fun W' h=>by have c0:=zac h.1.1 0 rfl;go_simp⟩) (hh) ?_
         refine tk (i:=3) (v:=.slice pB b.vars.length kB) rfl (Or.inl ⟨by rfl,fun W' h=>by have c0:=zac h.1.2 0 rfl;go_simp⟩) (hh) ?_
         refine tk (i:=6) (v:=.slice (some ⟨gA,oA,none⟩) a.rows.length lA) rfl (Or.inl ⟨by rfl,fun W' h=>by have c0:=zac h.1.1 1 rfl;go_simp⟩) (hh) ?_
         refine tk (i:=11) (v:=.slice (some ⟨gB,oB,none⟩) b.rows.length lB) rfl (Or.inl ⟨by rfl,fun W' h=>by have c0:=zac h.1.2 1 rfl;go_simp⟩) (hh) ?_
         refine tg (i:=8) (.pointer (some ⟨gA,oA+k,none⟩)) rfl (hh) ?_
         refine tg (i:=13) (.pointer (some ⟨gB,oB+m,none⟩)) rfl (hh) ?_
         refine tk (i:=9) (v:=.slice pa na ka) rfl (Or.inl ⟨by rfl,fun W' h=>by have c0:=h.2.1;go_simp⟩) (hh) ?_
         refine tk (i:=14) (v:=.slice pb nb kb) rfl (Or.inl ⟨by rfl,fun W' h=>by have c0:=h.2.2;go_simp⟩) (hh) ?_
         refine tr 4 rfl (fun K hK=>?_)
         try rw [if_pos (by rfl)]
         go_simp
         refine (HSB.out _ bq).mono ?_
         rintro e0 w6 ⟨A,B,rfl,hoA,hoB,hb6⟩
         obtain ⟨pS,kS,rfl⟩:=zar hoA
         obtain ⟨pT,kT,rfl⟩:=zar hoB
         replace hh:=And.intro (And.intro ((hb6.block _ (zaa hh.1.1)).trans hh.1.1) ((hb6.block _ (zaa hh.1.2)).trans hh.1.2)) (And.intro (zaw hh.2.1 hb6) (zaw hh.2.2 hb6))
         replace bq:=zab bq hb6 bq.size
         have HFI:=Lib.hid (fitAt sh _ _ _ _ x y w6 (zij (Old w6) hoA hoB hlva hlvb HS.out.1 (fun g _ h=>h)) (HFX.out.1.stays (zad bq)) (HFX.out.2.1.stays (zad bq)) (fun p hp=>⟨by rw [HS.out.2.1];exact (HS.out.1 p hp).1,by rw [HS.out.2.2];exact (HS.out.1 p hp).2⟩) hshn hxl hyl)
         clear hoA hoB hb6
         refine hK.out _ _ (hh) (fun _=>?_)
         clear hK K
         try simp only [putS]
         refine tr 15 rfl (fun K hK=>?_)
         try rw [if_pos (by rfl)]
         go_simp
         refine HFI.out.mono ?_
         rintro e0 w7 ⟨rfl,hb7⟩
         replace hh:=And.intro (And.intro ((hb7.block _ (zaa hh.1.1)).trans hh.1.1) ((hb7.block _ (zaa hh.1.2)).trans hh.1.2)) (And.intro (zaw hh.2.1 hb7) (zaw hh.2.2 hb7))
         replace bq:=zab bq hb7 bq.size
         clear hb7
         refine hK.out _ _ (hh) (fun _=>?_)
         clear hK K
         try simp only [putS]
         refine tg (i:=16) (.bool (fitB sh x y)) rfl (hh) ?_
         refine wpAnyH_done (by kernel_rfl) ?_ _
         have HEN:=Lib.hid bq
         clear hh bq
         go_wp2_with fail
         go_ret
         have b7:=zab HB5.out HEN.out HB5.out.size
         refine ⟨?_,HB1.out.trans (b7.mono HB1.out.size)⟩
         rw [HFX.out.2.2.1,HFX.out.2.2.2.1,HFX.out.2.2.2.2]
         first | rfl | simp
end Go.Proofs.YteclpnfckjfibaaGreatDoor

/- PL -/
namespace Go.Proofs.YteclpnfckjfibaaGreatDoor
open Go.RowKit
theorem znw {sh:List (Nat × Nat)} {src:List (Int × Int)} {la lb:List (List Val)} {i k:Nat} (hi:i < la.length) (hk:k < lb.length) (hf:fitB sh la[i] lb[k]=true):
 (zap sh src la lb)[(zap sh src (la.take i) lb).length+(zcu sh src (lb.take k) la[i]).length]?=some (zbo src la[i] lb[k]):=by
 have e1:zap sh src la lb=zap sh src (la.take i) lb++(zcu sh src lb la[i]++zap sh src (la.drop (i+1)) lb):=by
  unfold zap
  conv=>lhs;rw [← List.take_append_drop i la]
  rw [List.flatMap_append,List.drop_eq_getElem_cons hi,List.flatMap_cons]
 have e2:zcu sh src lb la[i]=zcu sh src (lb.take k) la[i]++(zbo src la[i] lb[k]::zcu sh src (lb.drop (k+1)) la[i]):=by
  rw [zby,zby,zby]
  conv=>lhs;rw [← List.take_append_drop k lb,List.drop_eq_getElem_cons hk]
  rw [List.filter_append,List.filter_cons,if_pos hf,List.map_append,List.map_cons]
 rw [e1,e2,List.getElem?_append_right (by omega),Nat.add_sub_cancel_left,List.append_assoc,List.getElem?_append_right (by omega),Nat.sub_self]
 rfl
theorem zp7 {sh:List (Nat × Nat)} {src:List (Int × Int)} {lb:List (List Val)} {k:Nat} {x:List Val} (hk:k < lb.length):(zcu sh src (lb.take (k+1)) x).length=(zcu sh src (lb.take k) x).length+(if fitB sh x lb[k]=true then 1 else 0):=by
 rw [zby,zby,List.length_map,List.length_map,List.take_succ_eq_append_getElem hk,List.filter_append,List.length_append]
 congr 1
 rw [List.filter_cons]
 split <;> rfl
theorem znx {sh:List (Nat × Nat)} {src:List (Int × Int)} {la lb:List (List Val)} {i:Nat} (hi:i < la.length):(zap sh src (la.take (i+1)) lb).length=(zap sh src (la.take i) lb).length+(zcu sh src lb la[i]).length:=by
 unfold zap
 rw [List.take_succ_eq_append_getElem hi,List.flatMap_append,List.length_append,List.flatMap_cons,List.flatMap_nil,List.append_nil]
def zl1:TabL:=⟨[],[]⟩
theorem zyx:tabP zl1=true:=zmn (zlo (by decide) (fun x h=>by simp [zl1] at h) List.nodup_nil) (fun r hr=>by simp [zl1] at hr) (fun r hr=>by simp [zl1] at hr)
theorem zmu:zcq zfk.rows:=fun r hr v hv=>by
 simp [zfk] at hr
 subst hr
 cases hv
theorem ztx:zcq zl1.rows:=fun r hr=>by simp [zl1] at hr
structure zwz (a b:TabL):Prop where
 ta:tabP a=true
 tb:tabP b=true
 w1:WtOk a b
 w2:WtOk b a
 n1:(za4 a b).rows.length≤2097152
 n2:(za4 b a).rows.length≤2097152
 nv:(za4 a b).vars.length≤2097152
 v1:∀ r∈(za4 a b).rows,13*wAll r≤700000000
 v2:∀ r∈(zdx (za4 b a) (za4 a b).vars).rows,13*wAll r≤700000000
 h1:zh9 (za4 a b) (zdx (za4 b a) (za4 a b).vars)=true
 w3:WtOk a zfk
 n3:(za4 a zfk).rows.length≤2097152
 hju:za4 a zfk=a
 va:∀ r∈a.rows,13*wAll r≤700000000
 haa:zh9 a a=true
 w4:WtOk zfk a
 n4:(za4 zfk a).rows.length≤2097152
 huj:za4 zfk a=a
 w5:WtOk a zl1
 n5:(za4 a zl1).rows.length≤2097152
 hz:(za4 a zl1).rows.length=0
 hr:(za4 a b).rows=zap (zat a.vars b.vars) (srcP (za2 a.vars b.vars) a.vars b.vars) a.rows b.rows
 hv:(za4 a b).vars=za2 a.vars b.vars
theorem zyy {a b:TabL} (ha:tabP a=true) (hb:tabP b=true) (hl:a.vars.length+b.vars.length≤64) (hn:a.rows.length*b.rows.length≤900) (la:zcq a.rows) (lb:zcq b.rows) (na:a.rows.length≤60) (nb:b.rows.length≤60):zwz a b:=by
 have hl':b.vars.length+a.vars.length≤64:=by omega
 have j1:=zik ha hb hl
 have j2:=zik hb ha hl'
 have c1:=zsa ha hb hl
 have c2:=zsa hb ha hl'
 have m2:b.rows.length*a.rows.length≤900:=by rw [Nat.mul_comm];exact hn
 have p1:=zlp j2 (zbl j1)
 refine ⟨ha,hb,zq5 ha hb la lb,zq5 hb ha lb la,by omega,by omega,?_,zhv j1 (zmt ha hb hl la lb),zhv p1 (znt j2 (zbl j1) (zmt hb ha hl' lb la)),zwq ha hb hl,zq5 ha zin la zmu,?_,zp2 ha,zhv ha la,ztj ha,zq5 zin ha zmu la,?_,zp3 ha,zq5 ha zyx la ztx,?_,?_,?_,zws ha hb hl⟩
 ·have:=zd9 (zbl j1)
  omega
 ·rw [zp2 ha]
  omega
 ·rw [zp3 ha]
  omega
 ·show (za4 a ⟨[],[]⟩).rows.length≤_
  rw [zp4]
  simp
 ·show (za4 a ⟨[],[]⟩).rows.length=0
  rw [zp4]
  rfl
 ·rw [zeg ha hb hl]
theorem zty {sh:List (Nat × Nat)} {src:List (Int × Int)} {la lb:List (List Val)} {i:Nat} (na:la.length≤60) (nb:lb.length≤60):(zap sh src (la.take i) lb).length≤3600:=by
 have h:=zfj sh src lb (la.take i)
 have h2:(la.take i).length≤60:=by rw [List.length_take];omega
 have h3:=Nat.mul_le_mul h2 nb
 omega
def zl2 (a b:TabL) (i k:Nat):Bool:=fitB (zat a.vars b.vars) (a.rows.getD i []) (b.rows.getD k [])
def cntI (a b:TabL) (i:Nat):Nat:=(zap (zat a.vars b.vars) (srcP (za2 a.vars b.vars) a.vars b.vars) (a.rows.take i) b.rows).length
def zeo (a b:TabL) (i k:Nat):Nat:=cntI a b i+(zcu (zat a.vars b.vars) (srcP (za2 a.vars b.vars) a.vars b.vars) (b.rows.take k) (a.rows.getD i [])).length
theorem zf6 {l:List (List Val)} {i:Nat} (h:i < l.length):l.getD i []=l[i]:=by rw [List.getD_eq_getElem?_getD,List.getElem?_eq_getElem h];rfl
theorem zyz (a b:TabL):cntI a b 0=0:=by simp [cntI,zap]
theorem ztz (a b:TabL) (i:Nat):zeo a b i 0=cntI a b i:=by
 unfold zeo
 rw [zby]
 rfl
theorem cntI_le {a b:TabL} (na:a.rows.length≤60) (nb:b.rows.length≤60) (i:Nat):cntI a b i≤3600:=zty na nb
theorem zp8 {a b:TabL} {i:Nat} (hi:i < a.rows.length):zeo a b i b.rows.length=cntI a b (i+1):=by
 unfold zeo cntI
 rw [List.take_length,zf6 hi,znx hi]
theorem zmv {a b:TabL} {i k:Nat} (hk:k < b.rows.length):zeo a b i (k+1)=zeo a b i k+(if zl2 a b i k=true then 1 else 0):=by
 unfold zeo zl2
 rw [zp7 hk,zf6 hk,Nat.add_assoc]
theorem zmw {a b:TabL} {i:Nat}:(d k:Nat)→k+d=b.rows.length→zeo a b i k≤zeo a b i b.rows.length
 | 0,k,h=>by rw [show k=b.rows.length by omega];exact Nat.le_refl _
 | d+1,k,h=>by
   have h1:=zmw (a:=a) (b:=b) (i:=i) d (k+1) (by omega)
   have h2:=zmv (a:=a) (i:=i) (k:=k) (b:=b) (by omega)
   omega
theorem zy0 {a b:TabL} (na:a.rows.length≤60) (nb:b.rows.length≤60) {i k:Nat} (hi:i < a.rows.length) (hk:k≤b.rows.length):zeo a b i k≤3600:=by
 have h:=zmw (a:=a) (b:=b) (i:=i) (b.rows.length - k) k (by omega)
 rw [zp8 hi] at h
 exact Nat.le_trans h (cntI_le na nb _)
theorem zw0 {a b:TabL} (hr:(za4 a b).rows=zap (zat a.vars b.vars) (srcP (za2 a.vars b.vars) a.vars b.vars) a.rows b.rows) {i k:Nat} (hi:i < a.rows.length) (hk:k < b.rows.length) (hf:zl2 a b i k=true):
 ∃ h:zeo a b i k < (za4 a b).rows.length,(za4 a b).rows[zeo a b i k]=zbo (srcP (za2 a.vars b.vars) a.vars b.vars) a.rows[i] b.rows[k]:=by
 unfold zl2 at hf
 rw [zf6 hi,zf6 hk] at hf
 have h:=znw (sh:=zat a.vars b.vars) (src:=srcP (za2 a.vars b.vars) a.vars b.vars) hi hk hf
 rw [← hr] at h
 have e:zeo a b i k=(zap (zat a.vars b.vars) (srcP (za2 a.vars b.vars) a.vars b.vars) (a.rows.take i) b.rows).length+(zcu (zat a.vars b.vars) (srcP (za2 a.vars b.vars) a.vars b.vars) (b.rows.take k) a.rows[i]).length:=by
  unfold zeo cntI
  rw [zf6 hi]
 rw [← e] at h
 obtain ⟨h1,h2⟩:=List.getElem?_eq_some_iff.1 h
 exact ⟨h1,h2⟩
theorem cnt_end {a b:TabL} (hr:(za4 a b).rows=zap (zat a.vars b.vars) (srcP (za2 a.vars b.vars) a.vars b.vars) a.rows b.rows) {i:Nat} (hi:a.rows.length≤i):cntI a b i=(za4 a b).rows.length:=by
 unfold cntI
 rw [List.take_of_length_le hi,hr]
theorem zy1 {a b:TabL} (ha:tabP a=true) (hb:tabP b=true) {i k:Nat} (hi:i < a.rows.length) (hk:k < b.rows.length):zsd a b i k=zl2 a b i k:=by
 unfold zsd zl2 hasI
 rw [ha,hb,decide_eq_true (by omega:(0:Int)≤i),decide_eq_true (by omega:(0:Int)≤k),decide_eq_true (by omega:(i:Int) < a.rows.length),decide_eq_true (by omega:(k:Int) < b.rows.length)]
 rfl
theorem zrd {a b:TabL} (ha:tabP a=true) {i k:Nat} (hi:i < a.rows.length) (hk:k < b.rows.length) (hf:zl2 a b i k=true) {V:List ByteArray} {v:Nat} (hv:v < V.length) {r:List Val} (hr:r=zbo (srcP V a.vars b.vars) a.rows[i] b.rows[k]):
 ∃ h:v < r.length,(∀ j:Nat,zau V[v] a.vars=some j→isB (atV a.rows[i] j)=true→r[v]=atV a.rows[i] j)∧(∀ j:Nat,zau V[v] b.vars=some j→isB (atV b.rows[k] j)=true→r[v]=atV b.rows[k] j):=by
 subst hr
 refine ⟨by simpa [zbo,srcP] using hv,fun j hj hb2=>?_,fun j hj hb2=>?_⟩
 ·unfold zbo srcP
  simp only [List.getElem_map]
  rw [hj]
  have:isB (za7 a.rows[i] (za3 (some j)))=true:=by
   show isB (za7 a.rows[i] (j:Int))=true
   rw [zdh]
   exact hb2
  rw [ztu this]
  show za7 a.rows[i] (j:Int)=_
  rw [zdh]
 ·unfold zbo srcP
  simp only [List.getElem_map]
  unfold zl2 at hf
  rw [zf6 hi,zf6 hk] at hf
  have:isB (za7 b.rows[k] (za3 (zau V[v] b.vars)))=true:=by
   rw [hj]
   show isB (za7 b.rows[k] (j:Int))=true
   rw [zdh]
   exact hb2
  rw [zrc ha hf _ this,hj]
  show za7 b.rows[k] (j:Int)=_
  rw [zdh]
end Go.Proofs.YteclpnfckjfibaaGreatDoor

/- LJ0 -/
namespace Go.Proofs.YteclpnfckjfibaaGreatDoor
open Go.RowKit
def zre:Val→Int
 | .mk k _ _ _ _ _=>k
theorem zfr {v:Val}:isB v=true↔zre v≠0:=by
 obtain ⟨k,b,n,t,x,l⟩:=v
 unfold isB zre
 rw [decide_eq_true_iff]
theorem zio {w:World} {P:Nat→Prop} {c:List Value} {v:Val} (h:zcz w P c v):c[0]?=some (.int .i64 (zre v)):=by
 obtain ⟨k,b,n,t,x,l⟩:=v
 obtain ⟨L,rfl,_⟩:=h
 rfl
theorem zcl {w:World} {g o:Nat} {c:List Value} {k:Int} (h:w.rangeAt g o c) (hk:c[0]?=some (.int .i64 k)):w.cell? ⟨g,o,none⟩=some (.int .i64 k):=h 0 _ hk
theorem zip (v u:Val) (c d:List Value) (P Q:Nat→Prop) (w:World) (h:zcz w P c v) (h2:zcz w Q d u):Calls Tryz.prog 39 #[.agg c.toArray,.agg d.toArray] w fun e w'=>e=.returned (.bool (zc1 v u))∧Below w.heap.size w w':=by
 have hv:=znu v
 obtain ⟨k,b,n,t,x,q⟩:=v
 obtain ⟨k2,b2,n2,t2,x2,q2⟩:=u
 obtain ⟨L,rfl,hf,hq⟩:=h
 obtain ⟨L2,rfl,hf2,hq2⟩:=h2
 obtain ⟨p,cap,rfl⟩:=zbt (zbe.held q hq)
 obtain ⟨p2,cap2,rfl⟩:=zbt (zbe.held q2 hq2)
 exact hv w k b n t x q p cap _ k2 b2 n2 t2 x2 q2 p2 cap2 rfl rfl hf.hn (zbe.held q hq) (zbe.held q2 hq2)
theorem zdj.cellAt {w:World} {V R:Value} {t:TabL} (h:zdj w V R t) {i j:Nat} (hi:i < t.rows.length) (hj:j < t.rows[i].length):
 ∃ gr o l gx ox k c,R=.slice (some ⟨gr,o,none⟩) t.rows.length l∧w.cell? ⟨gr,o+i,none⟩=some (.slice (some ⟨gx,ox,none⟩) t.rows[i].length k)∧zcz w (Old w) c t.rows[i][j]∧w.rangeAt gx (ox+j*6) c:=by
 obtain ⟨gr,o,l,c1,e1,_,hr,hra⟩:=h.rows.at_ i hi
 obtain ⟨u,rfl,hu,_,_⟩:=hr
 obtain ⟨gx,ox,k,c,e2,_,hv,hra2⟩:=hu.at_ j hj
 refine ⟨gr,o,l,gx,ox,k,c,e1,?_,hv,hra2⟩
 have h0:=hra 0 _ rfl
 rw [e2] at h0
 have e:o+i*1+0=o+i:=by omega
 have h1:w.cell? ⟨gr,o+i*1+0,none⟩=some (.slice (some ⟨gx,ox,none⟩) t.rows[i].length k):=h0
 rwa [e] at h1
end Go.Proofs.YteclpnfckjfibaaGreatDoor
