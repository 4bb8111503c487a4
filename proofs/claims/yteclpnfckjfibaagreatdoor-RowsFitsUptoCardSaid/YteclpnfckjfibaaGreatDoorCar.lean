/- Texts of one kind, one behind the other: each says ahead of itself what it shows. -/
import Derived.Test.YteclpnfckjfibaaGreatDoorCan
import Derived.Test.YteclpnfckjfibaaGreatDoorCaq
import Derived.Test.YteclpnfckjfibaaGreatDoorCal
import Derived.Test.YteclpnfckjfibaaGreatDoorCac
import Derived.Test.YteclpnfckjfibaaGreatDoorCad
import Derived.Shelf.Small.Strs
import Derived.Test.YteclpnfckjfibaaGreatDoorCak
import Derived.Deep.RegionHeld3
import Derived.Deep.RegionWith
import Derived.Test.YteclpnfckjfibaaGreatDoorCaj
namespace Go.Proofs.YteclpnfckjfibaaGreatDoor
open Go.RowKit
set_option maxHeartbeats 12800000
set_option maxRecDepth 20000
def hasI (n:Nat) (i:Int):Bool:=decide (0≤i) && decide (i < n)
theorem zu6 (t:TabL) (i:Int) (V R:Value) (W:World) (h:tabE.rel W (Old W) [V,R] t):Calls Tryz.prog 85 #[.agg #[V,R],.int .i64 i] W fun e w'=>e=.returned (.bool (hasI t.rows.length i))∧Below W.heap.size W w':=by
 obtain ⟨V',R',e,hv,hr,hcv,hcr,hlv,hlr⟩:=h
 cases e
 obtain ⟨pV,kV,rfl⟩:=hv.slice
 obtain ⟨qR,lR,rfl⟩:=hr.slice
 obtain ⟨W1,hW1⟩:∃ W1,W1=W.alloc (.cells #[.slice pV t.vars.length kV,.slice qR t.rows.length lR] 25):=⟨_,rfl⟩
 have b1:Below W.heap.size W W1:=by rw [hW1];exact za5 _ _
 have u1:W1.heap[W.heap.size]?=some (.cells #[.slice pV t.vars.length kV,.slice qR t.rows.length lR] 25):=by rw [hW1];exact zaf _ _ rfl
 have c1:=zad u1 1 rfl
 have HW:=Lib.hid hW1
 have HB:=Lib.hid b1
 obtain ⟨n,hn⟩:∃ n,n=t.rows.length:=⟨_,rfl⟩
 unfold hasI
 clear hv hr hcv hcr hW1 b1 u1
 by_cases h0:0≤i
 ·by_cases h1:i < (t.rows.length:Int)
  ·rw [decide_eq_true h0,decide_eq_true h1]
   go_enter Tryz.func85,Tryz.ntmps85
   go_upto_region 1 with fail
   rw [← HW.out]
   go_wp2_with fail
   go_ret
   exact ⟨by first | rfl | simp,HB.out⟩
  ·rw [decide_eq_true h0,decide_eq_false h1]
   go_enter Tryz.func85,Tryz.ntmps85
   go_upto_region 1 with fail
   rw [← HW.out]
   go_wp2_with fail
   go_ret
   exact ⟨by first | rfl | simp,HB.out⟩
 ·rw [decide_eq_false h0,Bool.false_and]
  go_enter Tryz.func85,Tryz.ntmps85
  go_upto_region 1 with fail
  rw [← HW.out]
  go_wp2_with fail
  go_ret
  exact ⟨by first | rfl | simp,HB.out⟩
def zh8 (a b:TabL) (i j:Int):Bool:=tabP a && tabP b && hasI a.rows.length i && hasI b.rows.length j && fitB (zay a.vars b.vars) (a.rows.getD i.toNat []) (b.rows.getD j.toNat [])
theorem fitsAt (a b:TabL) (i j:Int) (VA RA VB RB:Value) (W:World) (hG:Gd W) (ha:tabE.rel W (Old W) [VA,RA] a) (hb:tabE.rel W (Old W) [VB,RB] b):Calls Tryz.prog 34 #[.agg #[VA,RA],.agg #[VB,RB],.int .i64 i,.int .i64 j] W fun e w'=>e=.returned (.bool (zh8 a b i j))∧Below W.heap.size W w':=by
 have ha0:=ha
 have hb0:=hb
 obtain ⟨V',R',e,hva,hra,hcva,hcra,hlva,hlra⟩:=ha
 cases e
 obtain ⟨V',R',e,hvb,hrb,hcvb,hcrb,hlvb,hlrb⟩:=hb
 cases e
 obtain ⟨pA,kA,rfl⟩:=hva.slice
 obtain ⟨qA,lA,rfl⟩:=hra.slice
 obtain ⟨pB,kB,rfl⟩:=hvb.slice
 obtain ⟨qB,lB,rfl⟩:=hrb.slice
 obtain ⟨W1,hW1⟩:∃ W1,W1=(W.alloc (.cells #[.slice pA a.vars.length kA,.slice qA a.rows.length lA] 25)).alloc (.cells #[.slice pB b.vars.length kB,.slice qB b.rows.length lB] 25):=⟨_,rfl⟩
 have b1:Below W.heap.size W W1:=by rw [hW1];exact zdb _ _ _
 have u2:W1.heap[W.heap.size]?=some (.cells #[.slice pA a.vars.length kA,.slice qA a.rows.length lA] 25):=by rw [hW1];exact zap _ (zaf _ _ rfl)
 have u3:W1.heap[W.heap.size+1]?=some (.cells #[.slice pB b.vars.length kB,.slice qB b.rows.length lB] 25):=by rw [hW1];exact zaf _ _ (by simp)
 have H1:Hid (Calls Tryz.prog 14 #[.agg #[.slice pA a.vars.length kA,.slice qA a.rows.length lA]] W1 fun e w'=>e=.returned (.bool (tabP a))∧Below W1.heap.size W1 w'):=Lib.hid (zc0 a _ _ W1 (hG.below b1) (tabE.stays (zae b1) ha0))
 have H2:Hid (∀ W',Below W1.heap.size W1 W'→Calls Tryz.prog 14 #[.agg #[.slice pB b.vars.length kB,.slice qB b.rows.length lB]] W' fun e w'=>e=.returned (.bool (tabP b))∧Below W'.heap.size W' w'):=Lib.hid fun W' h=>zc0 b _ _ W' (hG.below (zab b1 h b1.size)) (tabE.stays (zae (zab b1 h b1.size)) hb0)
 have H3:Hid (∀ W',Below W1.heap.size W1 W'→Calls Tryz.prog 85 #[.agg #[.slice pA a.vars.length kA,.slice qA a.rows.length lA],.int .i64 i] W' fun e w'=>e=.returned (.bool (hasI a.rows.length i))∧Below W'.heap.size W' w'):=Lib.hid fun W' h=>zu6 a i _ _ W' (tabE.stays (zae (zab b1 h b1.size)) ha0)
 have H4:Hid (∀ W',Below W1.heap.size W1 W'→Calls Tryz.prog 85 #[.agg #[.slice pB b.vars.length kB,.slice qB b.rows.length lB],.int .i64 j] W' fun e w'=>e=.returned (.bool (hasI b.rows.length j))∧Below W'.heap.size W' w'):=Lib.hid fun W' h=>zu6 b j _ _ W' (tabE.stays (zae (zab b1 h b1.size)) hb0)
 have HVA:Hid (∀ W',Below W1.heap.size W1 W'→zag za1 W' (Old W') (.slice pA a.vars.length kA) a.vars):=Lib.hid fun W' h=>hva.stays (zae (zab b1 h b1.size))
 have HVB:Hid (∀ W',Below W1.heap.size W1 W'→zag za1 W' (Old W') (.slice pB b.vars.length kB) b.vars):=Lib.hid fun W' h=>hvb.stays (zae (zab b1 h b1.size))
 have HRA:Hid (∀ W',Below W1.heap.size W1 W'→zag rowE W' (Old W') (.slice qA a.rows.length lA) a.rows):=Lib.hid fun W' h=>hra.stays (zae (zab b1 h b1.size))
 have HRB:Hid (∀ W',Below W1.heap.size W1 W'→zag rowE W' (Old W') (.slice qB b.rows.length lB) b.rows):=Lib.hid fun W' h=>hrb.stays (zae (zab b1 h b1.size))
 have HTA:Hid (tabP a=true→∀ r∈a.rows,r.length=a.vars.length):=Lib.hid fun h=>(zb5 h).1
 have HTB:Hid (tabP b=true→∀ r∈b.rows,r.length=b.vars.length):=Lib.hid fun h=>(zb5 h).1
 have HIA:Hid (hasI a.rows.length i=true→0≤i∧i < (a.rows.length:Int)):=Lib.hid fun h=>by unfold hasI at h;simpa using h
 have HIB:Hid (hasI b.rows.length j=true→0≤j∧j < (b.rows.length:Int)):=Lib.hid fun h=>by unfold hasI at h;simpa using h
 have HW:=Lib.hid hW1
 have HB1:=Lib.hid b1
 have HU:=Lib.hid (And.intro u2 u3)
 unfold zh8
 generalize hpa:tabP a=pa at*
 generalize hpb:tabP b=pb at*
 generalize hia:hasI a.rows.length i=ia at*
 generalize hib:hasI b.rows.length j=ib at*
 clear ha0 hb0 hva hra hcva hcra hvb hrb hcvb hcrb hG hW1 b1 u3 hpa hpb hia hib
 cases pa with
 | false=>
   simp only [Bool.false_and]
   go_enter Tryz.func34,Tryz.ntmps34
   go_upto_region 1 with fail
   rw [← HW.out]
   go_wp2_with (first
    |((with_reducible refine zai (.tmp 4) W.heap.size 25 25 [.slice pA a.vars.length kA,.slice qA a.rows.length lA] 2 _ u2 rfl Tryz.underlying25 rfl zah ?_ ?_ ?_ ?_);rfl;rfl;rfl)
    |((with_reducible refine zan ?_ (.tmp 4) W.heap.size 25 25 [.slice pA a.vars.length kA,.slice qA a.rows.length lA] 2 _ u2c rfl Tryz.underlying25 rfl zah ?_ ?_ ?_);rfl;rfl;rfl)
    |((with_reducible refine zan ?_ (.tmp 5) (W.heap.size+1) 25 25 [.slice pB b.vars.length kB,.slice qB b.rows.length lB] 2 _ u3b rfl Tryz.underlying25 rfl zah ?_ ?_ ?_);rfl;rfl;rfl)
    |((with_reducible refine zan ?_ (.tmp 5) (W.heap.size+1) 25 25 [.slice pB b.vars.length kB,.slice qB b.rows.length lB] 2 _ u3d rfl Tryz.underlying25 rfl zah ?_ ?_ ?_);rfl;rfl;rfl)
    |(go_at_call 14;(with_reducible refine H1.out.mono ?_);rintro e w2 ⟨rfl,hb2⟩;have u3b:=(hb2.block _ (zaa HU.out.2)).trans HU.out.2)
    |(go_at_call 14;(with_reducible refine (H2.out _ hb2).mono ?_);rintro e w3 ⟨rfl,hb3⟩;have b3:=zab hb2 hb3 hb2.size;have u2c:=(b3.block _ (zaa HU.out.1)).trans HU.out.1)
    |(go_at_call 85;(with_reducible refine (H3.out _ b3).mono ?_);rintro e w4 ⟨rfl,hb4⟩;have b4:=zab b3 hb4 b3.size;have u3d:=(b4.block _ (zaa HU.out.2)).trans HU.out.2)
    |(go_at_call 85;(with_reducible refine (H4.out _ b4).mono ?_);rintro e w5 ⟨rfl,hb5⟩))
   go_ret
   exact ⟨by first | rfl | simp,HB1.out.trans ((hb2).mono HB1.out.size)⟩
 | true=>
   cases pb with
   | false=>
     simp only [Bool.false_and,Bool.and_false]
     go_enter Tryz.func34,Tryz.ntmps34
     go_upto_region 1 with fail
     rw [← HW.out]
     go_wp2_with (first
      |((with_reducible refine zai (.tmp 4) W.heap.size 25 25 [.slice pA a.vars.length kA,.slice qA a.rows.length lA] 2 _ u2 rfl Tryz.underlying25 rfl zah ?_ ?_ ?_ ?_);rfl;rfl;rfl)
      |((with_reducible refine zan ?_ (.tmp 4) W.heap.size 25 25 [.slice pA a.vars.length kA,.slice qA a.rows.length lA] 2 _ u2c rfl Tryz.underlying25 rfl zah ?_ ?_ ?_);rfl;rfl;rfl)
      |((with_reducible refine zan ?_ (.tmp 5) (W.heap.size+1) 25 25 [.slice pB b.vars.length kB,.slice qB b.rows.length lB] 2 _ u3b rfl Tryz.underlying25 rfl zah ?_ ?_ ?_);rfl;rfl;rfl)
      |((with_reducible refine zan ?_ (.tmp 5) (W.heap.size+1) 25 25 [.slice pB b.vars.length kB,.slice qB b.rows.length lB] 2 _ u3d rfl Tryz.underlying25 rfl zah ?_ ?_ ?_);rfl;rfl;rfl)
      |(go_at_call 14;(with_reducible refine H1.out.mono ?_);rintro e w2 ⟨rfl,hb2⟩;have u3b:=(hb2.block _ (zaa HU.out.2)).trans HU.out.2)
      |(go_at_call 14;(with_reducible refine (H2.out _ hb2).mono ?_);rintro e w3 ⟨rfl,hb3⟩;have b3:=zab hb2 hb3 hb2.size;have u2c:=(b3.block _ (zaa HU.out.1)).trans HU.out.1)
      |(go_at_call 85;(with_reducible refine (H3.out _ b3).mono ?_);rintro e w4 ⟨rfl,hb4⟩;have b4:=zab b3 hb4 b3.size;have u3d:=(b4.block _ (zaa HU.out.2)).trans HU.out.2)
      |(go_at_call 85;(with_reducible refine (H4.out _ b4).mono ?_);rintro e w5 ⟨rfl,hb5⟩))
     go_ret
     exact ⟨by first | rfl | simp,HB1.out.trans ((zab hb2 hb3 hb2.size).mono HB1.out.size)⟩
   | true=>
     cases ia with
     | false=>
       simp only [Bool.false_and,Bool.and_false,Bool.and_true]
       go_enter Tryz.func34,Tryz.ntmps34
       go_upto_region 1 with fail
       rw [← HW.out]
       go_wp2_with (first
        |((with_reducible refine zai (.tmp 4) W.heap.size 25 25 [.slice pA a.vars.length kA,.slice qA a.rows.length lA] 2 _ u2 rfl Tryz.underlying25 rfl zah ?_ ?_ ?_ ?_);rfl;rfl;rfl)
        |((with_reducible refine zan ?_ (.tmp 4) W.heap.size 25 25 [.slice pA a.vars.length kA,.slice qA a.rows.length lA] 2 _ u2c rfl Tryz.underlying25 rfl zah ?_ ?_ ?_);rfl;rfl;rfl)
        |((with_reducible refine zan ?_ (.tmp 5) (W.heap.size+1) 25 25 [.slice pB b.vars.length kB,.slice qB b.rows.length lB] 2 _ u3b rfl Tryz.underlying25 rfl zah ?_ ?_ ?_);rfl;rfl;rfl)
        |((with_reducible refine zan ?_ (.tmp 5) (W.heap.size+1) 25 25 [.slice pB b.vars.length kB,.slice qB b.rows.length lB] 2 _ u3d rfl Tryz.underlying25 rfl zah ?_ ?_ ?_);rfl;rfl;rfl)
        |(go_at_call 14;(with_reducible refine H1.out.mono ?_);rintro e w2 ⟨rfl,hb2⟩;have u3b:=(hb2.block _ (zaa HU.out.2)).trans HU.out.2)
        |(go_at_call 14;(with_reducible refine (H2.out _ hb2).mono ?_);rintro e w3 ⟨rfl,hb3⟩;have b3:=zab hb2 hb3 hb2.size;have u2c:=(b3.block _ (zaa HU.out.1)).trans HU.out.1)
        |(go_at_call 85;(with_reducible refine (H3.out _ b3).mono ?_);rintro e w4 ⟨rfl,hb4⟩;have b4:=zab b3 hb4 b3.size;have u3d:=(b4.block _ (zaa HU.out.2)).trans HU.out.2)
        |(go_at_call 85;(with_reducible refine (H4.out _ b4).mono ?_);rintro e w5 ⟨rfl,hb5⟩))
       go_ret
       exact ⟨by first | rfl | simp,HB1.out.trans ((zab b3 hb4 b3.size).mono HB1.out.size)⟩
     | true=>
       cases ib with
       | false=>
         simp only [Bool.false_and,Bool.and_false,Bool.and_true]
         go_enter Tryz.func34,Tryz.ntmps34
         go_upto_region 1 with fail
         rw [← HW.out]
         go_wp2_with (first
          |((with_reducible refine zai (.tmp 4) W.heap.size 25 25 [.slice pA a.vars.length kA,.slice qA a.rows.length lA] 2 _ u2 rfl Tryz.underlying25 rfl zah ?_ ?_ ?_ ?_);rfl;rfl;rfl)
          |((with_reducible refine zan ?_ (.tmp 4) W.heap.size 25 25 [.slice pA a.vars.length kA,.slice qA a.rows.length lA] 2 _ u2c rfl Tryz.underlying25 rfl zah ?_ ?_ ?_);rfl;rfl;rfl)
          |((with_reducible refine zan ?_ (.tmp 5) (W.heap.size+1) 25 25 [.slice pB b.vars.length kB,.slice qB b.rows.length lB] 2 _ u3b rfl Tryz.underlying25 rfl zah ?_ ?_ ?_);rfl;rfl;rfl)
          |((with_reducible refine zan ?_ (.tmp 5) (W.heap.size+1) 25 25 [.slice pB b.vars.length kB,.slice qB b.rows.length lB] 2 _ u3d rfl Tryz.underlying25 rfl zah ?_ ?_ ?_);rfl;rfl;rfl)
          |(go_at_call 14;(with_reducible refine H1.out.mono ?_);rintro e w2 ⟨rfl,hb2⟩;have u3b:=(hb2.block _ (zaa HU.out.2)).trans HU.out.2)
          |(go_at_call 14;(with_reducible refine (H2.out _ hb2).mono ?_);rintro e w3 ⟨rfl,hb3⟩;have b3:=zab hb2 hb3 hb2.size;have u2c:=(b3.block _ (zaa HU.out.1)).trans HU.out.1)
          |(go_at_call 85;(with_reducible refine (H3.out _ b3).mono ?_);rintro e w4 ⟨rfl,hb4⟩;have b4:=zab b3 hb4 b3.size;have u3d:=(b4.block _ (zaa HU.out.2)).trans HU.out.2)
          |(go_at_call 85;(with_reducible refine (H4.out _ b4).mono ?_);rintro e w5 ⟨rfl,hb5⟩))
         go_ret
         exact ⟨by first | rfl | simp,HB1.out.trans ((zab b4 hb5 b4.size).mono HB1.out.size)⟩
       | true=>
         simp only [Bool.true_and]
         go_enter Tryz.func34,Tryz.ntmps34
         go_upto_region 1 with fail
         rw [← HW.out]
         go_upto_region 3 with (first
          |((with_reducible refine zai (.tmp 4) W.heap.size 25 25 [.slice pA a.vars.length kA,.slice qA a.rows.length lA] 2 _ u2 rfl Tryz.underlying25 rfl zah ?_ ?_ ?_ ?_);rfl;rfl;rfl)
          |((with_reducible refine zan ?_ (.tmp 4) W.heap.size 25 25 [.slice pA a.vars.length kA,.slice qA a.rows.length lA] 2 _ u2c rfl Tryz.underlying25 rfl zah ?_ ?_ ?_);rfl;rfl;rfl)
          |((with_reducible refine zan ?_ (.tmp 5) (W.heap.size+1) 25 25 [.slice pB b.vars.length kB,.slice qB b.rows.length lB] 2 _ u3b rfl Tryz.underlying25 rfl zah ?_ ?_ ?_);rfl;rfl;rfl)
          |((with_reducible refine zan ?_ (.tmp 5) (W.heap.size+1) 25 25 [.slice pB b.vars.length kB,.slice qB b.rows.length lB] 2 _ u3d rfl Tryz.underlying25 rfl zah ?_ ?_ ?_);rfl;rfl;rfl)
          |(go_at_call 14;(with_reducible refine H1.out.mono ?_);rintro e w2 ⟨rfl,hb2⟩;have u3b:=(hb2.block _ (zaa HU.out.2)).trans HU.out.2)
          |(go_at_call 14;(with_reducible refine (H2.out _ hb2).mono ?_);rintro e w3 ⟨rfl,hb3⟩;have b3:=zab hb2 hb3 hb2.size;have u2c:=(b3.block _ (zaa HU.out.1)).trans HU.out.1)
          |(go_at_call 85;(with_reducible refine (H3.out _ b3).mono ?_);rintro e w4 ⟨rfl,hb4⟩;have b4:=zab b3 hb4 b3.size;have u3d:=(b4.block _ (zaa HU.out.2)).trans HU.out.2)
          |(go_at_call 85;(with_reducible refine (H4.out _ b4).mono ?_);rintro e w5 ⟨rfl,hb5⟩))
         have b5:=zab b4 hb5 b4.size
         have u2e:=(b5.block _ (zaa HU.out.1)).trans HU.out.1
         have u3e:=(b5.block _ (zaa HU.out.2)).trans HU.out.2
         obtain ⟨hi0,hi1⟩:=HIA.out (by simp)
         obtain ⟨hj0,hj1⟩:=HIB.out (by simp)
         obtain ⟨k,rfl⟩:∃ k:Nat,i=k:=⟨i.toNat,by omega⟩
         obtain ⟨m,rfl⟩:∃ m:Nat,j=m:=⟨j.toNat,by omega⟩
         have hk1:k < a.rows.length:=by omega
         have hm1:m < b.rows.length:=by omega
         obtain ⟨gA,oA,ua,eA,hl0,ca,hua,hcap0,hxl0⟩:=(HRA.out _ b5).rowAt k hk1
         obtain ⟨gB,oB,ub,eB,hl1,cb,hub,hcap1,hyl0⟩:=(HRB.out _ b5).rowAt m hm1
         obtain ⟨x,hx,hxm,hux,hxl⟩:∃ x,x=a.rows.getD k []∧x∈a.rows∧zag valE w5 (Old w5) ua x∧x.length≤2097152:=⟨a.rows[k]'hk1,by simp [hk1],List.getElem_mem hk1,hua,hxl0⟩
         obtain ⟨y,hy,hym,huy,hyl⟩:∃ y,y=b.rows.getD m []∧y∈b.rows∧zag valE w5 (Old w5) ub y∧y.length≤2097152:=⟨b.rows[m]'hm1,by simp [hm1],List.getElem_mem hm1,hub,hyl0⟩
         obtain ⟨pa,na,ka,rfl⟩:∃ p n k,ua=.slice p n k:=by
          obtain ⟨a,b,c⟩:=hux.slice
          exact ⟨a,_,b,c⟩
         obtain ⟨pb,nb,kb,rfl⟩:∃ p n k,ub=.slice p n k:=by
          obtain ⟨a,b,c⟩:=huy.slice
          exact ⟨a,_,b,c⟩
         subst eA
         subst eB
         have hsh0:=zn8 (vs:=a.vars) (us:=b.vars)
         have hshn:=Nat.le_trans (ze8 a.vars b.vars) hlva
         have hta:=HTA.out (by simp) x hxm
         have htb:=HTB.out (by simp) y hym
         obtain ⟨sh,hsq⟩:∃ sh,sh=zay a.vars b.vars:=⟨_,rfl⟩
         rw [← hsq] at hsh0 hshn
         have HFX:=Lib.hid (And.intro hux (And.intro huy (And.intro hx (And.intro hy hsq))))
         have HS:=Lib.hid (And.intro hsh0 (And.intro hta htb))
         have HSB:Hid (∀ w',Below w5.heap.size w5 w'→Calls Tryz.prog 76 #[.slice pA a.vars.length kA,.slice pB b.vars.length kB] w' (znr w' sh)):=Lib.hid fun w' h=>by
          rw [hsq]
          exact zqc a.vars b.vars _ _ w' (HVA.out _ (zab b5 h b5.size)) (HVB.out _ (zab b5 h b5.size)) hlva hlvb
         have HB5:=Lib.hid b5
         clear hb2 hb3 hb4 hb5 b3 b4 b5 u2 u2c u3b u3d hua hub hxl0 hyl0 hcap0 hcap1 hl0 hl1 hux huy hx hy hsq hsh0 hta htb hxm hym hi0 hj0
         refine wp_region_held_drew (S:=fun W'=>(W'.heap[W.heap.size]?=some (.cells #[.slice pA a.vars.length kA,.slice (some ⟨gA,oA,none⟩) a.rows.length lA] 25)∧W'.heap[W.heap.size+1]?=some (.cells #[.slice pB b.vars.length kB,.slice (some ⟨gB,oB,none⟩) b.rows.length lB] 25))∧W'.cell? ⟨gA,oA+k,none⟩=some (.slice pa na ka)∧W'.cell? ⟨gB,oB+m,none⟩=some (.slice pb nb kb)) (by kernel_rfl) ⟨⟨u2e,u3e⟩,ca,cb⟩ (fun hh=>?_)
         have bq:Below w5.heap.size w5 w5.drew:=(Below.refl _ _).drew
         clear u2e u3e ca cb
         generalize w5.drew=wD at*
         refine tg (i:=0) (.pointer (some ⟨W.heap.size,0,none⟩)) rfl (hh) ?_
         refine tg (i:=2) (.pointer (some ⟨W.heap.size+1,0,none⟩)) rfl (hh) ?_
         refine tg (i:=5) (.pointer (some ⟨W.heap.size,1,none⟩)) rfl (hh) ?_
         refine tg (i:=7) (.int .i64 (k:Int)) rfl (hh) ?_
         refine tg (i:=10) (.pointer (some ⟨W.heap.size+1,1,none⟩)) rfl (hh) ?_
         refine tg (i:=12) (.int .i64 (m:Int)) rfl (hh) ?_
         refine tk (i:=1) (v:=.slice pA a.vars.length kA) rfl (Or.inl ⟨by rfl,fun W' h=>by have c0:=zad h.1.1 0 rfl;go_simp⟩) (hh) ?_
         refine tk (i:=3) (v:=.slice pB b.vars.length kB) rfl (Or.inl ⟨by rfl,fun W' h=>by have c0:=zad h.1.2 0 rfl;go_simp⟩) (hh) ?_
         refine tk (i:=6) (v:=.slice (some ⟨gA,oA,none⟩) a.rows.length lA) rfl (Or.inl ⟨by rfl,fun W' h=>by have c0:=zad h.1.1 1 rfl;go_simp⟩) (hh) ?_
         refine tk (i:=11) (v:=.slice (some ⟨gB,oB,none⟩) b.rows.length lB) rfl (Or.inl ⟨by rfl,fun W' h=>by have c0:=zad h.1.2 1 rfl;go_simp⟩) (hh) ?_
         refine tg (i:=8) (.pointer (some ⟨gA,oA+k,none⟩)) rfl (hh) ?_
         refine tg (i:=13) (.pointer (some ⟨gB,oB+m,none⟩)) rfl (hh) ?_
         refine tk (i:=9) (v:=.slice pa na ka) rfl (Or.inl ⟨by rfl,fun W' h=>by have c0:=h.2.1;go_simp⟩) (hh) ?_
         refine tk (i:=14) (v:=.slice pb nb kb) rfl (Or.inl ⟨by rfl,fun W' h=>by have c0:=h.2.2;go_simp⟩) (hh) ?_
         refine tr 4 rfl (fun K hK=>?_)
         try rw [if_pos (by rfl)]
         go_simp
         refine (HSB.out _ bq).mono ?_
         rintro e0 w6 ⟨A,B,rfl,hoA,hoB,hb6⟩
         obtain ⟨pS,kS,rfl⟩:=zau hoA
         obtain ⟨pT,kT,rfl⟩:=zau hoB
         replace hh:=And.intro (And.intro ((hb6.block _ (zaa hh.1.1)).trans hh.1.1) ((hb6.block _ (zaa hh.1.2)).trans hh.1.2)) (And.intro (zav hh.2.1 hb6) (zav hh.2.2 hb6))
         replace bq:=zab bq hb6 bq.size
         have HFI:=Lib.hid (fitAt sh _ _ _ _ x y w6 (zmy (Old w6) hoA hoB hlva hlvb HS.out.1 (fun g _ h=>h)) (HFX.out.1.stays (zae bq)) (HFX.out.2.1.stays (zae bq)) (fun p hp=>⟨by rw [HS.out.2.1];exact (HS.out.1 p hp).1,by rw [HS.out.2.2];exact (HS.out.1 p hp).2⟩) hshn hxl hyl)
         clear hoA hoB hb6
         refine hK.out _ _ (hh) (fun _=>?_)
         clear hK K
         try simp only [putS]
         refine tr 15 rfl (fun K hK=>?_)
         try rw [if_pos (by rfl)]
         go_simp
         refine HFI.out.mono ?_
         rintro e0 w7 ⟨rfl,hb7⟩
         replace hh:=And.intro (And.intro ((hb7.block _ (zaa hh.1.1)).trans hh.1.1) ((hb7.block _ (zaa hh.1.2)).trans hh.1.2)) (And.intro (zav hh.2.1 hb7) (zav hh.2.2 hb7))
         replace bq:=zab bq hb7 bq.size
         clear hb7
         refine hK.out _ _ (hh) (fun _=>?_)
         clear hK K
         try simp only [putS]
         refine tg (i:=16) (.bool (fitB sh x y)) rfl (hh) ?_
         refine wpAnyH_done (by kernel_rfl) ?_ _
         have HEN:=Lib.hid bq
         clear hh bq
         go_wp2_with fail
         go_ret
         have b7:=zab HB5.out HEN.out HB5.out.size
         refine ⟨?_,HB1.out.trans (b7.mono HB1.out.size)⟩
         rw [HFX.out.2.2.1,HFX.out.2.2.2.1,HFX.out.2.2.2.2]
         first | rfl | simp
def z2m (a b:TabL) (i k:Nat):Bool:=fitB (zay a.vars b.vars) (a.rows.getD i []) (b.rows.getD k [])
theorem zz5 {l:List (List Val)} {i:Nat} (h:i < l.length):l.getD i []=l[i]:=by rw [List.getD_eq_getElem?_getD,List.getElem?_eq_getElem h];rfl
theorem z2n {a b:TabL} (ha:tabP a=true) (hb:tabP b=true) {i k:Nat} (hi:i < a.rows.length) (hk:k < b.rows.length):zh8 a b i k=z2m a b i k:=by
 unfold zh8 z2m hasI
 rw [ha,hb,decide_eq_true (by omega:(0:Int)≤i),decide_eq_true (by omega:(0:Int)≤k),decide_eq_true (by omega:(i:Int) < a.rows.length),decide_eq_true (by omega:(k:Int) < b.rows.length)]
 rfl
def kindV:Val→Int
 | .mk k _ _ _ _ _=>k
theorem zu7 {w:World} {P:Nat→Prop} {c:List Value} {v:Val} (h:zc3 w P c v):c[0]?=some (.int .i64 (kindV v)):=by
 obtain ⟨k,b,n,t,x,l⟩:=v
 obtain ⟨L,rfl,_⟩:=h
 rfl
theorem zsd {w:World} {g o:Nat} {c:List Value} {k:Int} (h:w.rangeAt g o c) (hk:c[0]?=some (.int .i64 k)):w.cell? ⟨g,o,none⟩=some (.int .i64 k):=h 0 _ hk
theorem z2o (v u:Val) (c d:List Value) (P Q:Nat→Prop) (w:World) (h:zc3 w P c v) (h2:zc3 w Q d u):Calls Tryz.prog 39 #[.agg c.toArray,.agg d.toArray] w fun e w'=>e=.returned (.bool (zcy v u))∧Below w.heap.size w w':=by
 have hv:=zqx v
 obtain ⟨k,b,n,t,x,q⟩:=v
 obtain ⟨k2,b2,n2,t2,x2,q2⟩:=u
 obtain ⟨L,rfl,hf,hq⟩:=h
 obtain ⟨L2,rfl,hf2,hq2⟩:=h2
 obtain ⟨p,cap,rfl⟩:=zbu (zbb.held q hq)
 obtain ⟨p2,cap2,rfl⟩:=zbu (zbb.held q2 hq2)
 exact hv w k b n t x q p cap _ k2 b2 n2 t2 x2 q2 p2 cap2 rfl rfl hf.hn (zbb.held q hq) (zbb.held q2 hq2)
theorem z4b (lang k:Int) (b:Bool) (n:Int) (t x:ByteArray) (p:Option Addr) (len cap:Nat) (w:World):
 Calls Tryz.prog 205 #[.int .i64 lang,.agg #[.int .i64 k,.bool b,.int .i64 n,.string t,.string x,.slice p len cap]] w fun e w'=>e=.returned (.int .i64 (za2 lang k))∧Low w.heap.size w w':=by
 have S:=zaj (k:=k) (b:=b) (n:=n) (t:=t) (x:=x) (p:=p) (len:=len) (cap:=cap) w rfl
 have b0:=low1 w (.cells #[.int .i64 k,.bool b,.int .i64 n,.string t,.string x,.slice p len cap] 48)
 by_cases h0:k=0
 ·subst h0
  by_cases hl:lang=1
  ·subst hl
   rw [show za2 1 0=0 from rfl]
   go_enter Tryz.func205,Tryz.ntmps205
   go_wp2_with (first
    |((with_reducible refine zac (.tmp 3) w.heap.size S ?_ ?_ ?_ ?_);rfl;rfl;rfl)
    |(go_at_call 156;(with_reducible refine (zat 0 b n t x _ 164 rfl _).mono ?_);rintro e w2 ⟨rfl,hb2⟩;have b2:=zal b0 hb2 b0.size;clear hb2)
    |(simp only [zje,Result.andThen_ok]))
   go_ret
   exact ⟨rfl,b2⟩
  ·rw [show za2 lang 0=10 by unfold za2;rw [if_pos rfl,if_neg hl]]
   go_enter Tryz.func205,Tryz.ntmps205
   go_wp2_with (first
    |((with_reducible refine zac (.tmp 3) w.heap.size S ?_ ?_ ?_ ?_);rfl;rfl;rfl)
    |(go_at_call 156;(with_reducible refine (zat 0 b n t x _ 164 rfl _).mono ?_);rintro e w2 ⟨rfl,hb2⟩;have b2:=zal b0 hb2 b0.size;clear hb2)
    |(simp only [zje,Result.andThen_ok]))
   go_ret
   exact ⟨rfl,b2⟩
 by_cases h1:k=1
 ·subst h1
  rw [show za2 lang 1=8 from rfl]
  go_enter Tryz.func205,Tryz.ntmps205
  go_wp2_with (first
   |((with_reducible refine zac (.tmp 3) w.heap.size S ?_ ?_ ?_ ?_);rfl;rfl;rfl)
   |(go_at_call 156;(with_reducible refine (zat 1 b n t x _ 165 rfl _).mono ?_);rintro e w2 ⟨rfl,hb2⟩;have b2:=zal b0 hb2 b0.size;clear hb2)
   |(simp only [zjj,zgd,zgf,zgg,zjk,zjl,zjm,zjn,zgi,Result.andThen_ok]))
  go_ret
  exact ⟨rfl,b2⟩
 by_cases h2:k=2
 ·subst h2
  rw [show za2 lang 2=9 from rfl]
  go_enter Tryz.func205,Tryz.ntmps205
  go_wp2_with (first
   |((with_reducible refine zac (.tmp 3) w.heap.size S ?_ ?_ ?_ ?_);rfl;rfl;rfl)
   |(go_at_call 156;(with_reducible refine (zat 2 b n t x _ 166 rfl _).mono ?_);rintro e w2 ⟨rfl,hb2⟩;have b2:=zal b0 hb2 b0.size;clear hb2)
   |(simp only [zna,zjo,zjp,zjq,zjr,zjs,znb,znc,znd,zne,zjt,Result.andThen_ok]))
  go_ret
  exact ⟨rfl,b2⟩
 by_cases h3:k=3
 ·subst h3
  rw [show za2 lang 3=9 from rfl]
  go_enter Tryz.func205,Tryz.ntmps205
  go_wp2_with (first
   |((with_reducible refine zac (.tmp 3) w.heap.size S ?_ ?_ ?_ ?_);rfl;rfl;rfl)
   |(go_at_call 156;(with_reducible refine (zat 3 b n t x _ 169 rfl _).mono ?_);rintro e w2 ⟨rfl,hb2⟩;have b2:=zal b0 hb2 b0.size;clear hb2)
   |(simp only [zj4,zgv,zgw,zgx,zgy,zgz,zj5,zj6,zj7,zj8,zg0,Result.andThen_ok]))
  go_ret
  exact ⟨rfl,b2⟩
 by_cases h4:k=4
 ·subst h4
  rw [show za2 lang 4=7 from rfl]
  go_enter Tryz.func205,Tryz.ntmps205
  go_wp2_with (first
   |((with_reducible refine zac (.tmp 3) w.heap.size S ?_ ?_ ?_ ?_);rfl;rfl;rfl)
   |(go_at_call 156;(with_reducible refine (zat 4 b n t x _ 170 rfl _).mono ?_);rintro e w2 ⟨rfl,hb2⟩;have b2:=zal b0 hb2 b0.size;clear hb2)
   |(simp only [zj9,zg3,zg4,zka,zkb,zkc,zkd,zg6,Result.andThen_ok]))
  go_ret
  exact ⟨rfl,b2⟩
 by_cases h5:k=5
 ·subst h5
  rw [show za2 lang 5=1 from rfl]
  go_enter Tryz.func205,Tryz.ntmps205
  go_wp2_with (first
   |((with_reducible refine zac (.tmp 3) w.heap.size S ?_ ?_ ?_ ?_);rfl;rfl;rfl)
   |(go_at_call 156;(with_reducible refine (zat 5 b n t x _ 174 rfl _).mono ?_);rintro e w2 ⟨rfl,hb2⟩;have b2:=zal b0 hb2 b0.size;clear hb2)
   |(simp only [zho,ze5,Result.andThen_ok]))
  go_ret
  exact ⟨rfl,b2⟩
 by_cases h6:k=6
 ·subst h6
  rw [show za2 lang 6=2 from rfl]
  go_enter Tryz.func205,Tryz.ntmps205
  go_wp2_with (first
   |((with_reducible refine zac (.tmp 3) w.heap.size S ?_ ?_ ?_ ?_);rfl;rfl;rfl)
   |(go_at_call 156;(with_reducible refine (zat 6 b n t x _ 167 rfl _).mono ?_);rintro e w2 ⟨rfl,hb2⟩;have b2:=zal b0 hb2 b0.size;clear hb2)
   |(simp only [zju,zgl,zgo,Result.andThen_ok]))
  go_ret
  exact ⟨rfl,b2⟩
 by_cases h7:k=7
 ·subst h7
  rw [show za2 lang 7=3 from rfl]
  go_enter Tryz.func205,Tryz.ntmps205
  go_wp2_with (first
   |((with_reducible refine zac (.tmp 3) w.heap.size S ?_ ?_ ?_ ?_);rfl;rfl;rfl)
   |(go_at_call 156;(with_reducible refine (zat 7 b n t x _ 168 rfl _).mono ?_);rintro e w2 ⟨rfl,hb2⟩;have b2:=zal b0 hb2 b0.size;clear hb2)
   |(simp only [zjz,zgr,zgs,zgu,Result.andThen_ok]))
  go_ret
  exact ⟨rfl,b2⟩
 by_cases h8:k=8
 ·subst h8
  rw [show za2 lang 8=5 from rfl]
  go_enter Tryz.func205,Tryz.ntmps205
  go_wp2_with (first
   |((with_reducible refine zac (.tmp 3) w.heap.size S ?_ ?_ ?_ ?_);rfl;rfl;rfl)
   |(go_at_call 156;(with_reducible refine (zat 8 b n t x _ 171 rfl _).mono ?_);rintro e w2 ⟨rfl,hb2⟩;have b2:=zal b0 hb2 b0.size;clear hb2)
   |(simp only [zke,zg9,zha,zkg,zkh,zhc,Result.andThen_ok]))
  go_ret
  exact ⟨rfl,b2⟩
 by_cases h9:k=9
 ·subst h9
  rw [show za2 lang 9=4 from rfl]
  go_enter Tryz.func205,Tryz.ntmps205
  go_wp2_with (first
   |((with_reducible refine zac (.tmp 3) w.heap.size S ?_ ?_ ?_ ?_);rfl;rfl;rfl)
   |(go_at_call 156;(with_reducible refine (zat 9 b n t x _ 172 rfl _).mono ?_);rintro e w2 ⟨rfl,hb2⟩;have b2:=zal b0 hb2 b0.size;clear hb2)
   |(simp only [zkj,zhf,zhg,zkm,zhi,Result.andThen_ok]))
  go_ret
  exact ⟨rfl,b2⟩
 by_cases h10:k=10
 ·subst h10
  rw [show za2 lang 10=6 from rfl]
  go_enter Tryz.func205,Tryz.ntmps205
  go_wp2_with (first
   |((with_reducible refine zac (.tmp 3) w.heap.size S ?_ ?_ ?_ ?_);rfl;rfl;rfl)
   |(go_at_call 156;(with_reducible refine (zat 10 b n t x _ 173 rfl _).mono ?_);rintro e w2 ⟨rfl,hb2⟩;have b2:=zal b0 hb2 b0.size;clear hb2)
   |(simp only [zhj,zew,zex,zhl,zhm,zhn,zez,Result.andThen_ok]))
  go_ret
  exact ⟨rfl,b2⟩
 have hk:zlm k=200:=by unfold zlm;simp [h0,h1,h2,h3,h4,h5,h6,h7,h8,h9,h10]
 rw [show za2 lang k=11 by unfold za2;simp [h0,h1,h2,h3,h4,h5,h6,h7,h8,h9,h10]]
 go_enter Tryz.func205,Tryz.ntmps205
 go_wp2_with (first
  |((with_reducible refine zac (.tmp 3) w.heap.size S ?_ ?_ ?_ ?_);rfl;rfl;rfl)
  |(go_at_call 156;(with_reducible refine (zat k b n t x _ 200 hk.symm _).mono ?_);rintro e w2 ⟨rfl,hb2⟩;have b2:=zal b0 hb2 b0.size;clear hb2)
  |(simp only [znf,zko,zkp,zkq,zkr,zks,zng,znh,zni,znj,zkt,Result.andThen_ok]))
 go_ret
 exact ⟨rfl,b2⟩
theorem zse (a b:Bool) (w:World):Calls Tryz.prog 230 #[.bool a,.bool b] w fun e w'=>e=.returned (.int .i64 (zop a b))∧w'=w:=by
 cases a <;> cases b
 all_goals
  go_enter Tryz.func230,Tryz.ntmps230
  go_wp2_with fail
  go_ret
  exact ⟨rfl,rfl⟩
theorem zh9:(l m:List UInt8)→Lib.compareBytes l m=zak l m
 | [],[]=>by rfl
 | [],_::_=>by unfold Lib.compareBytes zak;rfl
 | _::_,[]=>by unfold Lib.compareBytes zak;rfl
 | a::x,b::y=>by
   unfold Lib.compareBytes
   rw [zh9 x y]
   unfold zak
   rw [show Op.bytesLess (a::x) (b::y)=(decide (a < b) || (a == b && Op.bytesLess x y)) from rfl,show Op.bytesLess (b::y) (a::x)=(decide (b < a) || (b == a && Op.bytesLess y x)) from rfl]
   by_cases h:a < b
   ·simp [h]
   ·by_cases g:b < a
    ·have e:a≠b:=by
      intro e
      subst e
      exact h g
     simp [h,g,e]
    ·have e:a=b:=by
      rw [UInt8.lt_iff_toNat_lt] at h g
      exact UInt8.toNat_inj.1 (by omega)
     subst e
     simp [h]
def Tryz.lays106_ren:Go.Shelf.Ren:=⟨fun | 106=>233 | 213=>259 | 265=>275 | n=>n,fun | n=>n,fun | n=>n⟩
theorem Tryz.lays106:Go.Proofs.Lays.n106 Tryz.prog Tryz.lays106_ren:={
 mixed:=by kernel_rfl
 f106:=Tryz.func233.trans (congrArg some (by kernel_rfl))
 f213:=Tryz.func259.trans (congrArg some (by kernel_rfl))
 f265:=Tryz.func275.trans (congrArg some (by kernel_rfl))
 t3:=Tryz.underlying3
 a3:=Tryz.isAgg3
 z3:=Tryz.sizeOf3
 v3:=Tryz.zeroValue3
 t9:=Tryz.underlying9
 a9:=Tryz.isAgg9
 z9:=Tryz.sizeOf9
 v9:=Tryz.zeroValue9 }
theorem zc2 (a b:ByteArray) (w:World):Calls Tryz.prog 233 #[.string a,.string b] w fun e w'=>e=.returned (.int .i64 (zak a.toList b.toList))∧w'=w:=by
 rw [zk1,zk1,← zh9]
 exact Any.strings_Compare Tryz.lays106 a b w
theorem orAt (c d:Int) (g:Nat) (w:World) (h0:w.cell? ⟨g,0,none⟩=some (.int .i64 c)) (h1:w.cell? ⟨g,1,none⟩=some (.int .i64 d)):
 Calls Tryz.prog 232 #[.slice (some ⟨g,0,none⟩) 2 2] w fun e w'=>e=.returned (.int .i64 (lexI c d))∧w'=w:=by
 obtain ⟨r,hr⟩:∃ r,r=lexI c d:=⟨_,rfl⟩
 rw [← hr]
 have HR:=Lib.hid hr
 clear hr
 go_enter Tryz.func232,Tryz.ntmps232
 go_wp2_with fail
 go_loopw [8] (fun i wr=>wr=w∧∃ j:Nat,i=.int .i64 j∧(j=0∨(j=1∧c=0)∨(j=2∧c=0∧d=0))) (fun i _=>2 - (intOf i).toNat)
 case atStart=>exact ⟨rfl,0,rfl,.inl rfl⟩
 case round=>
  obtain ⟨rfl,j,rfl,rfl | ⟨rfl,hc⟩ | ⟨rfl,hc,hd⟩⟩:=hrel
  ·by_cases hc:c=0
   ·have e2:(c != 0)=false:=by simp [hc]
    go_wp2_with fail
    go_roundw
    case rel=>exact ⟨trivial,1,by go_num,.inr (.inl ⟨rfl,hc⟩)⟩
    case measure=>simp [intOf]
   ·have e2:(c != 0)=true:=by simpa using hc
    go_wp2_with fail
    go_ret
    exact ⟨by rw [HR.out,lexI,if_neg hc];rfl,rfl⟩
  ·by_cases hd:d=0
   ·have e2:(d != 0)=false:=by simp [hd]
    go_wp2_with fail
    go_roundw
    case rel=>exact ⟨trivial,2,by go_num,.inr (.inr ⟨rfl,hc,hd⟩)⟩
    case measure=>simp [intOf]
   ·have e2:(d != 0)=true:=by simpa using hd
    go_wp2_with fail
    go_ret
    exact ⟨by rw [HR.out,lexI,if_pos hc];rfl,rfl⟩
  ·go_wp2_with fail
   go_ret
   exact ⟨by rw [HR.out,lexI,if_pos hc,hd];rfl,rfl⟩
theorem zz6 (k:Int) (b:Bool) (n:Int) (t x:ByteArray) (p:Option Addr) (len cap:Nat) (k2:Int) (b2:Bool) (n2:Int) (t2 x2:ByteArray) (p2:Option Addr) (len2 cap2:Nat) (w:World) (hG:Gd w) (hT:Tab w) (hf:Fine n t x len) (hf2:Fine n2 t2 x2 len2) (hk:k=2∨k=3) (hk2:k2=2∨k2=3):
 Calls Tryz.prog 231 #[.agg #[.int .i64 k,.bool b,.int .i64 n,.string t,.string x,.slice p len cap],.agg #[.int .i64 k2,.bool b2,.int .i64 n2,.string t2,.string x2,.slice p2 len2 cap2]] w fun e w'=>e=.returned (.int .i64 (lexI (cmpZ (numV k n t) (numV k2 n2 t2)) (lexI (cmpZ k k2) (if k=3 then zak t.toList t2.toList else 0))))∧Low w.heap.size w w':=by
 obtain ⟨W0,hW0⟩:∃ W0,W0=(w.alloc (.cells #[.int .i64 k,.bool b,.int .i64 n,.string t,.string x,.slice p len cap] 48)).alloc (.cells #[.int .i64 k2,.bool b2,.int .i64 n2,.string t2,.string x2,.slice p2 len2 cap2] 48):=⟨_,rfl⟩
 have S4:Six W0 w.heap.size k b n t x p len cap:=by rw [hW0];exact (zaj _ rfl).alloc _
 have S5:Six W0 (w.heap.size+1) k2 b2 n2 t2 x2 p2 len2 cap2:=by rw [hW0];exact zaj _ (by simp)
 have b0:Low w.heap.size w W0:=by rw [hW0];exact low2 _ _ _
 have hN:=fun W (h:Low w.heap.size w W)=>zxx k b n t x p len cap k2 b2 n2 t2 x2 p2 len2 cap2 W (hG.below h.is) (hT.below h.is) hf hf2
 have hB2:=fun W=>zm9 2 k b n t x (.slice p len cap) k2 b2 n2 t2 x2 (.slice p2 len2 cap2) W
 have hB3:=fun W=>zm9 3 k b n t x (.slice p len cap) k2 b2 n2 t2 x2 (.slice p2 len2 cap2) W
 have hS:=fun W=>zc2 t t2 W
 have H0:=Lib.hid hW0
 clear hf hf2 hG hT hW0
 generalize cmpZ (numV k n t) (numV k2 n2 t2)=c at hN ⊢
 generalize zak t.toList t2.toList=s at hS ⊢
 obtain ⟨r2,hr2⟩:∃ r,r=(k == 2 && k2 == 2):=⟨_,rfl⟩
 obtain ⟨r3,hr3⟩:∃ r,r=(k == 3 && k2 == 3):=⟨_,rfl⟩
 rw [← hr2] at hB2
 rw [← hr3] at hB3
 by_cases hc:c=0
 ·subst hc
  rw [zco]
  rcases hk with rfl | rfl <;> rcases hk2 with rfl | rfl
  ·obtain rfl:r2=true:=hr2
   obtain rfl:r3=false:=hr3
   rw [show lexI (cmpZ 2 2) (if (2:Int)=3 then s else 0)=0 from rfl]
   go_enter Tryz.func231,Tryz.ntmps231
   go_wp2_with (first
    |(rw [← H0.out];(with_reducible refine zac (.tmp 2) w.heap.size S4 ?_ ?_ ?_ ?_);rfl;rfl;rfl)
    |((with_reducible refine zac (.tmp 2) w.heap.size S4 ?_ ?_ ?_ ?_);rfl;rfl;rfl)
    |((with_reducible refine zac (.tmp 3) (w.heap.size+1) S5 ?_ ?_ ?_ ?_);rfl;rfl;rfl)
    |((with_reducible refine zaq (.tmp 2) w.heap.size S4 ?_ ?_ ?_ ?_);rfl;rfl;rfl)
    |((with_reducible refine zaq (.tmp 3) (w.heap.size+1) S5 ?_ ?_ ?_ ?_);rfl;rfl;rfl)
    |(go_at_call 257;(with_reducible refine (hN _ b0).mono ?_);rintro e w' ⟨rfl,hb⟩;replace S4:=S4.below hb.is;replace S5:=S5.below hb.is;replace b0:=zal b0 hb b0.size;have f3:=S4.c3;have g3:=S5.c3;have f0:=S4.c0;clear hb)
    |(go_at_call 258;(with_reducible refine (hB2 _).mono ?_);rintro e w' ⟨rfl,hb⟩;replace S4:=S4.below hb.is;replace S5:=S5.below hb.is;replace b0:=zal b0 hb b0.size;have f3:=S4.c3;have g3:=S5.c3;have f0:=S4.c0;clear hb)
    |(go_at_call 258;(with_reducible refine (hB3 _).mono ?_);rintro e w' ⟨rfl,hb⟩;replace S4:=S4.below hb.is;replace S5:=S5.below hb.is;replace b0:=zal b0 hb b0.size;have f3:=S4.c3;have g3:=S5.c3;have f0:=S4.c0;clear hb)
    |(go_at_call 233;(with_reducible refine (hS _).mono ?_);rintro e w' ⟨rfl,rfl⟩))
   go_ret
   exact ⟨rfl,b0⟩
  ·obtain rfl:r2=false:=hr2
   obtain rfl:r3=false:=hr3
   rw [show lexI (cmpZ 2 3) (if (2:Int)=3 then s else 0)=-1 from rfl]
   go_enter Tryz.func231,Tryz.ntmps231
   go_wp2_with (first
    |(rw [← H0.out];(with_reducible refine zac (.tmp 2) w.heap.size S4 ?_ ?_ ?_ ?_);rfl;rfl;rfl)
    |((with_reducible refine zac (.tmp 2) w.heap.size S4 ?_ ?_ ?_ ?_);rfl;rfl;rfl)
    |((with_reducible refine zac (.tmp 3) (w.heap.size+1) S5 ?_ ?_ ?_ ?_);rfl;rfl;rfl)
    |((with_reducible refine zaq (.tmp 2) w.heap.size S4 ?_ ?_ ?_ ?_);rfl;rfl;rfl)
    |((with_reducible refine zaq (.tmp 3) (w.heap.size+1) S5 ?_ ?_ ?_ ?_);rfl;rfl;rfl)
    |(go_at_call 257;(with_reducible refine (hN _ b0).mono ?_);rintro e w' ⟨rfl,hb⟩;replace S4:=S4.below hb.is;replace S5:=S5.below hb.is;replace b0:=zal b0 hb b0.size;have f3:=S4.c3;have g3:=S5.c3;have f0:=S4.c0;clear hb)
    |(go_at_call 258;(with_reducible refine (hB2 _).mono ?_);rintro e w' ⟨rfl,hb⟩;replace S4:=S4.below hb.is;replace S5:=S5.below hb.is;replace b0:=zal b0 hb b0.size;have f3:=S4.c3;have g3:=S5.c3;have f0:=S4.c0;clear hb)
    |(go_at_call 258;(with_reducible refine (hB3 _).mono ?_);rintro e w' ⟨rfl,hb⟩;replace S4:=S4.below hb.is;replace S5:=S5.below hb.is;replace b0:=zal b0 hb b0.size;have f3:=S4.c3;have g3:=S5.c3;have f0:=S4.c0;clear hb)
    |(go_at_call 233;(with_reducible refine (hS _).mono ?_);rintro e w' ⟨rfl,rfl⟩))
   go_ret
   exact ⟨rfl,b0⟩
  ·obtain rfl:r2=false:=hr2
   obtain rfl:r3=false:=hr3
   rw [show lexI (cmpZ 3 2) (if (3:Int)=3 then s else 0)=1 from rfl]
   go_enter Tryz.func231,Tryz.ntmps231
   go_wp2_with (first
    |(rw [← H0.out];(with_reducible refine zac (.tmp 2) w.heap.size S4 ?_ ?_ ?_ ?_);rfl;rfl;rfl)
    |((with_reducible refine zac (.tmp 2) w.heap.size S4 ?_ ?_ ?_ ?_);rfl;rfl;rfl)
    |((with_reducible refine zac (.tmp 3) (w.heap.size+1) S5 ?_ ?_ ?_ ?_);rfl;rfl;rfl)
    |((with_reducible refine zaq (.tmp 2) w.heap.size S4 ?_ ?_ ?_ ?_);rfl;rfl;rfl)
    |((with_reducible refine zaq (.tmp 3) (w.heap.size+1) S5 ?_ ?_ ?_ ?_);rfl;rfl;rfl)
    |(go_at_call 257;(with_reducible refine (hN _ b0).mono ?_);rintro e w' ⟨rfl,hb⟩;replace S4:=S4.below hb.is;replace S5:=S5.below hb.is;replace b0:=zal b0 hb b0.size;have f3:=S4.c3;have g3:=S5.c3;have f0:=S4.c0;clear hb)
    |(go_at_call 258;(with_reducible refine (hB2 _).mono ?_);rintro e w' ⟨rfl,hb⟩;replace S4:=S4.below hb.is;replace S5:=S5.below hb.is;replace b0:=zal b0 hb b0.size;have f3:=S4.c3;have g3:=S5.c3;have f0:=S4.c0;clear hb)
    |(go_at_call 258;(with_reducible refine (hB3 _).mono ?_);rintro e w' ⟨rfl,hb⟩;replace S4:=S4.below hb.is;replace S5:=S5.below hb.is;replace b0:=zal b0 hb b0.size;have f3:=S4.c3;have g3:=S5.c3;have f0:=S4.c0;clear hb)
    |(go_at_call 233;(with_reducible refine (hS _).mono ?_);rintro e w' ⟨rfl,rfl⟩))
   go_ret
   exact ⟨rfl,b0⟩
  ·obtain rfl:r2=false:=hr2
   obtain rfl:r3=true:=hr3
   rw [show lexI (cmpZ 3 3) (if (3:Int)=3 then s else 0)=s from rfl]
   go_enter Tryz.func231,Tryz.ntmps231
   go_wp2_with (first
    |(rw [← H0.out];(with_reducible refine zac (.tmp 2) w.heap.size S4 ?_ ?_ ?_ ?_);rfl;rfl;rfl)
    |((with_reducible refine zac (.tmp 2) w.heap.size S4 ?_ ?_ ?_ ?_);rfl;rfl;rfl)
    |((with_reducible refine zac (.tmp 3) (w.heap.size+1) S5 ?_ ?_ ?_ ?_);rfl;rfl;rfl)
    |((with_reducible refine zaq (.tmp 2) w.heap.size S4 ?_ ?_ ?_ ?_);rfl;rfl;rfl)
    |((with_reducible refine zaq (.tmp 3) (w.heap.size+1) S5 ?_ ?_ ?_ ?_);rfl;rfl;rfl)
    |(go_at_call 257;(with_reducible refine (hN _ b0).mono ?_);rintro e w' ⟨rfl,hb⟩;replace S4:=S4.below hb.is;replace S5:=S5.below hb.is;replace b0:=zal b0 hb b0.size;have f3:=S4.c3;have g3:=S5.c3;have f0:=S4.c0;clear hb)
    |(go_at_call 258;(with_reducible refine (hB2 _).mono ?_);rintro e w' ⟨rfl,hb⟩;replace S4:=S4.below hb.is;replace S5:=S5.below hb.is;replace b0:=zal b0 hb b0.size;have f3:=S4.c3;have g3:=S5.c3;have f0:=S4.c0;clear hb)
    |(go_at_call 258;(with_reducible refine (hB3 _).mono ?_);rintro e w' ⟨rfl,hb⟩;replace S4:=S4.below hb.is;replace S5:=S5.below hb.is;replace b0:=zal b0 hb b0.size;have f3:=S4.c3;have g3:=S5.c3;have f0:=S4.c0;clear hb)
    |(go_at_call 233;(with_reducible refine (hS _).mono ?_);rintro e w' ⟨rfl,rfl⟩))
   go_ret
   exact ⟨rfl,b0⟩
 ·rw [show lexI c (lexI (cmpZ k k2) (if k=3 then s else 0))=c from if_neg hc]
  have hc2:(c != 0)=true:=by simpa using hc
  clear hk hk2 hr2 hr3 hc
  go_enter Tryz.func231,Tryz.ntmps231
  go_wp2_with (first
   |(rw [← H0.out];(with_reducible refine zac (.tmp 2) w.heap.size S4 ?_ ?_ ?_ ?_);rfl;rfl;rfl)
   |((with_reducible refine zac (.tmp 2) w.heap.size S4 ?_ ?_ ?_ ?_);rfl;rfl;rfl)
   |((with_reducible refine zac (.tmp 3) (w.heap.size+1) S5 ?_ ?_ ?_ ?_);rfl;rfl;rfl)
   |((with_reducible refine zaq (.tmp 2) w.heap.size S4 ?_ ?_ ?_ ?_);rfl;rfl;rfl)
   |((with_reducible refine zaq (.tmp 3) (w.heap.size+1) S5 ?_ ?_ ?_ ?_);rfl;rfl;rfl)
   |(go_at_call 257;(with_reducible refine (hN _ b0).mono ?_);rintro e w' ⟨rfl,hb⟩;replace S4:=S4.below hb.is;replace S5:=S5.below hb.is;replace b0:=zal b0 hb b0.size;have f3:=S4.c3;have g3:=S5.c3;have f0:=S4.c0;clear hb)
   |(go_at_call 258;(with_reducible refine (hB2 _).mono ?_);rintro e w' ⟨rfl,hb⟩;replace S4:=S4.below hb.is;replace S5:=S5.below hb.is;replace b0:=zal b0 hb b0.size;have f3:=S4.c3;have g3:=S5.c3;have f0:=S4.c0;clear hb)
   |(go_at_call 258;(with_reducible refine (hB3 _).mono ?_);rintro e w' ⟨rfl,hb⟩;replace S4:=S4.below hb.is;replace S5:=S5.below hb.is;replace b0:=zal b0 hb b0.size;have f3:=S4.c3;have g3:=S5.c3;have f0:=S4.c0;clear hb)
   |(go_at_call 233;(with_reducible refine (hS _).mono ?_);rintro e w' ⟨rfl,rfl⟩))
  go_ret
  exact ⟨rfl,b0⟩
def zos (v:Val):Prop:=∀ (lang:Int) (W:World) (k:Int) (b:Bool) (n:Int) (t x:ByteArray) (q:List Val) (p:Option Addr) (cap:Nat) (v2:Val) (k2:Int) (b2:Bool) (n2:Int) (t2 x2:ByteArray) (q2:List Val) (p2:Option Addr) (cap2:Nat),
 v=.mk k b n t x q→v2=.mk k2 b2 n2 t2 x2 q2→Gd W→Tab W→Fine n t x q.length→Fine n2 t2 x2 q2.length→Held W (.slice p q.length cap) q→Held W (.slice p2 q2.length cap2) q2→
 Calls Tryz.prog 165 #[.int .i64 lang,.agg #[.int .i64 k,.bool b,.int .i64 n,.string t,.string x,.slice p q.length cap],.agg #[.int .i64 k2,.bool b2,.int .i64 n2,.string t2,.string x2,.slice p2 q2.length cap2]] W
  fun e w'=>e=.returned (.int .i64 (zdo lang v v2))∧Low W.heap.size W w'
theorem zl4 (lang:Int) (l l2:List Val) (j:Nat) (h:j < l.length) (h2:j < l2.length):za9 lang (l.drop j) (l2.drop j)=lexI (zdo lang l[j] l2[j]) (za9 lang (l.drop (j+1)) (l2.drop (j+1))):=by
 rw [List.drop_eq_getElem_cons h,List.drop_eq_getElem_cons h2,za9]
theorem zl5 (lang:Int) (l l2:List Val) (j:Nat) (h:j < l.length) (h2:l2.length≤j):za9 lang (l.drop j) (l2.drop j)=1:=by
 rw [List.drop_eq_getElem_cons h,List.drop_eq_nil_of_le h2,za9]
theorem zja (lang:Int) (l l2:List Val) (h2:l.length < l2.length):za9 lang (l.drop l.length) (l2.drop l.length)=-1:=by
 rw [List.drop_eq_nil_of_le (Nat.le_refl _),List.drop_eq_getElem_cons h2,za9]
theorem zog (lang:Int) (l l2:List Val) (h2:l2.length≤l.length):za9 lang (l.drop l.length) (l2.drop l.length)=0:=by
 rw [List.drop_eq_nil_of_le (Nat.le_refl _),List.drop_eq_nil_of_le h2,za9]
theorem zwy {v:Val} (h:zos v) (lang:Int) (gl:Nat) (W:World) (k:Int) (b:Bool) (n:Int) (t x:ByteArray) (q:List Val) (p:Option Addr) (cap:Nat) (v2:Val) (k2:Int) (b2:Bool) (n2:Int) (t2 x2:ByteArray) (q2:List Val) (p2:Option Addr) (cap2:Nat)
 (e1:v=.mk k b n t x q) (e2:v2=.mk k2 b2 n2 t2 x2 q2) (hG:Gd W) (hT:Tab W) (hf:Fine n t x q.length) (hf2:Fine n2 t2 x2 q2.length) (hl:Held W (.slice p q.length cap) q) (hl2:Held W (.slice p2 q2.length cap2) q2) (hcl:W.cell? ⟨gl,0,none⟩=some (.int .i64 lang)):
 Calls Tryz.prog 228 #[.agg #[.int .i64 k,.bool b,.int .i64 n,.string t,.string x,.slice p q.length cap],.agg #[.int .i64 k2,.bool b2,.int .i64 n2,.string t2,.string x2,.slice p2 q2.length cap2],.pointer (some ⟨gl,0,none⟩)] W
  fun e w'=>e=.returned (.int .i64 (zdo lang v v2))∧Low W.heap.size W w':=by
 obtain ⟨W0,hW0⟩:∃ W0,W0=(W.alloc (.cells #[.int .i64 k,.bool b,.int .i64 n,.string t,.string x,.slice p q.length cap] 48)).alloc (.cells #[.int .i64 k2,.bool b2,.int .i64 n2,.string t2,.string x2,.slice p2 q2.length cap2] 48):=⟨_,rfl⟩
 have S4:Six W0 W.heap.size k b n t x p q.length cap:=by rw [hW0];exact (zaj _ rfl).alloc _
 have S5:Six W0 (W.heap.size+1) k2 b2 n2 t2 x2 p2 q2.length cap2:=by rw [hW0];exact zaj _ (by simp)
 have b0:Low W.heap.size W W0:=by rw [hW0];exact low2 _ _ _
 have hc0:W0.cell? ⟨gl,0,none⟩=some (.int .i64 lang):=(b0.cell (p:=⟨gl,0,none⟩) (World.block_lt_of_cell? W _ hcl)).trans hcl
 have hc:=h lang W0 k b n t x q p cap v2 k2 b2 n2 t2 x2 q2 p2 cap2 e1 e2 (hG.below b0.is) (hT.below b0.is) hf hf2 (Held.below q hl b0.is) (Held.below q2 hl2 b0.is)
 have hc00:=hc0
 rw [hW0] at hc00
 have z0:=b0.size
 have H0:=Lib.hid hW0
 clear hl hl2 hf hf2 hG hT hW0 e1 e2 h hcl
 generalize zdo lang v v2=r at hc ⊢
 go_enter Tryz.func228,Tryz.ntmps228
 go_wp2_with (first
  |(rw [← H0.out];(with_reducible refine zac (.tmp 3) W.heap.size S4 ?_ ?_ ?_ ?_);rfl;rfl;rfl)
  |((with_reducible refine zac (.tmp 3) W.heap.size S4 ?_ ?_ ?_ ?_);rfl;rfl;rfl)
  |((with_reducible refine zac (.tmp 4) (W.heap.size+1) S5 ?_ ?_ ?_ ?_);rfl;rfl;rfl)
  |(go_at_call 165;(with_reducible refine hc.mono ?_);rintro e w3 ⟨rfl,hb3⟩;replace b0:=zal b0 hb3 z0))
 go_ret
 exact ⟨rfl,b0⟩
theorem zps (lang:Int) (p p2:Option Addr) (l2:List Val) (cap cap2:Nat) (F:Value) (w:World):
 Calls Tryz.prog 107 #[.slice p 0 cap,.slice p2 l2.length cap2,F] w fun e w'=>e=.returned (.int .i64 (za9 lang [] l2))∧Low w.heap.size w w':=by
 cases l2 with
 | nil=>
   rw [show za9 lang [] []=0 from by unfold za9;rfl,List.length_nil]
   go_enter Tryz.func107,Tryz.ntmps107
   go_wp2_with fail
   go_loopw [13] (fun i wr=>i=.int .i64 0∧wr=w) (fun _ _=>0)
   case atStart=>exact ⟨rfl,rfl⟩
   case round=>
    obtain ⟨rfl,rfl⟩:=hrel
    go_wp2_with fail
    go_ret
    exact ⟨rfl,Low.refl _ _⟩
 | cons v r=>
   rw [show za9 lang [] (v::r)=-1 from by unfold za9;rfl,List.length_cons]
   go_enter Tryz.func107,Tryz.ntmps107
   go_wp2_with fail
   go_loopw [13] (fun i wr=>i=.int .i64 0∧wr=w) (fun _ _=>0)
   case atStart=>exact ⟨rfl,rfl⟩
   case round=>
    obtain ⟨rfl,rfl⟩:=hrel
    go_wp2_with fail
    go_ret
    exact ⟨rfl,Low.refl _ _⟩
theorem zoh (lang:Int) (gl:Nat) (l l2:List Val) (g off cap:Nat) (P2:Option Addr) (g2 off2 cap2:Nat) (w:World) (hG:Gd w) (hT:Tab w) (hcl:w.cell? ⟨gl,0,none⟩=some (.int .i64 lang)) (hl:zbk w g off l) (hl2:zbk w g2 off2 l2)
 (hP2:0 < l2.length→P2=some ⟨g2,off2,none⟩) (hn:l.length≤2097152) (hn2:l2.length≤2097152) (each:∀ v∈l,zos v):
 Calls Tryz.prog 107 #[.slice (some ⟨g,off,none⟩) l.length cap,.slice P2 l2.length cap2,.func (.func 228) #[] #[.pointer (some ⟨gl,0,none⟩)]] w fun e w'=>e=.returned (.int .i64 (za9 lang l l2))∧Low w.heap.size w w':=by
 have HH:=Lib.hid hl
 have HH2:=Lib.hid hl2
 have HE:=Lib.hid each
 have HP:=Lib.hid hP2
 clear hl hl2 each hP2
 go_enter Tryz.func107,Tryz.ntmps107
 go_wp2_with fail
 go_loopw [13] (fun i wr=>∃ j:Nat,j≤l.length∧i=.int .i64 j∧Low w.heap.size w wr∧Hid (za9 lang l l2=za9 lang (l.drop j) (l2.drop j))) (fun i _=>l.length - (intOf i).toNat)
 case atStart=>exact ⟨0,Nat.zero_le _,rfl,Low.refl _ _,Lib.hid (by rw [List.drop_zero,List.drop_zero])⟩
 case round=>
  obtain ⟨j,hj,rfl,hb,HA⟩:=hrel
  by_cases hlt:j < l.length
  ·obtain ⟨k,b,n,t,x,q,p,cp,o1⟩:=((zbk.at_ l off HH.out j hlt).below _ hb.is).opens
   have hs:w.heap.size≤wr.heap.size:=hb.size
   by_cases hlt2:j < l2.length
   ·obtain rfl:=HP.out (by omega)
    obtain ⟨k2,b2,n2,t2,x2,q2,p2,cp2,o2⟩:=((zbk.at_ l2 off2 HH2.out j hlt2).below _ hb.is).opens
    obtain ⟨c1,hc1⟩:∃ c1,c1=Obj.cells #[.int .i64 k,.bool b,.int .i64 n,.string t,.string x,.slice p q.length cp] 48:=⟨_,rfl⟩
    obtain ⟨c2,hc2⟩:∃ c2,c2=Obj.cells #[.int .i64 k2,.bool b2,.int .i64 n2,.string t2,.string x2,.slice p2 q2.length cp2] 48:=⟨_,rfl⟩
    have bb:=low2 wr c1 c2
    have b0:Low w.heap.size w ((wr.alloc c1).alloc c2):=(hb.alloc hs _).alloc (by simp;omega) _
    have hcl2:((wr.alloc c1).alloc c2).cell? ⟨gl,0,none⟩=some (.int .i64 lang):=(b0.cell (p:=⟨gl,0,none⟩) (World.block_lt_of_cell? w _ hcl)).trans hcl
    have hc:=zwy (HE.out l[j] (List.getElem_mem hlt)) lang gl ((wr.alloc c1).alloc c2) k b n t x q p cp l2[j] k2 b2 n2 t2 x2 q2 p2 cp2 o1.e o2.e (hG.below b0.is) (hT.below b0.is) o1.hf o2.hf (Held.below q o1.hl bb.is) (Held.below q2 o2.hl bb.is) hcl2
    obtain ⟨r,hr⟩:∃ r,r=zdo lang l[j] l2[j]:=⟨_,rfl⟩
    rw [← hr] at hc
    have hA:=HA.out
    rw [zl4 lang l l2 j hlt hlt2,← hr] at hA
    have l0:Six ((wr.alloc c1).alloc c2) wr.heap.size k b n t x p q.length cp:=by rw [hc1];exact (zaj _ rfl).alloc _
    have l1:Six ((wr.alloc c1).alloc c2) (wr.heap.size+1) k2 b2 n2 t2 x2 p2 q2.length cp2:=by rw [hc2];exact zaj _ (by simp)
    have z0:w.heap.size≤((wr.alloc c1).alloc c2).heap.size:=b0.size
    have O1:=Lib.hid o1
    have O2:=Lib.hid (o2.below (low1 wr c1).is)
    clear o1 o2 bb hr HA hcl2
    by_cases hr0:r=0
    ·subst hr0
     rw [zco] at hA
     have HA:=Lib.hid hA
     clear hA
     subst hc1 hc2
     go_wp2_with (first
      |((with_reducible refine zaz (.tmp 16) g (off+j*6) k b n t x (.slice p q.length cp) O1.out.c0 O1.out.c1 O1.out.c2 O1.out.c3 O1.out.c4 O1.out.c5 ?_ ?_ ?_ ?_);rfl;rfl;rfl)
      |((with_reducible refine zaz (.tmp 24) g2 (off2+j*6) k2 b2 n2 t2 x2 (.slice p2 q2.length cp2) O2.out.c0 O2.out.c1 O2.out.c2 O2.out.c3 O2.out.c4 O2.out.c5 ?_ ?_ ?_ ?_);rfl;rfl;rfl)
      |((with_reducible refine zac (.tmp 8) wr.heap.size l0 ?_ ?_ ?_ ?_);rfl;rfl;rfl)
      |((with_reducible refine zac (.tmp 9) (wr.heap.size+1) l1 ?_ ?_ ?_ ?_);rfl;rfl;rfl)
      |(go_at_call 228;(with_reducible refine hc.mono ?_);rintro e w3 ⟨rfl,hb3⟩;have b3:=zal b0 hb3 z0))
     go_roundw
     case rel=>exact ⟨j+1,by omega,by go_num,b3,HA⟩
     case measure=>simp [intOf];omega
    ·have e:lexI r (za9 lang (l.drop (j+1)) (l2.drop (j+1)))=r:=by unfold lexI;rw [if_neg hr0]
     rw [e] at hA
     have HA:=Lib.hid hA
     have e2:(r != 0)=true:=by simpa using hr0
     clear hA e
     subst hc1 hc2
     go_wp2_with (first
      |((with_reducible refine zaz (.tmp 16) g (off+j*6) k b n t x (.slice p q.length cp) O1.out.c0 O1.out.c1 O1.out.c2 O1.out.c3 O1.out.c4 O1.out.c5 ?_ ?_ ?_ ?_);rfl;rfl;rfl)
      |((with_reducible refine zaz (.tmp 24) g2 (off2+j*6) k2 b2 n2 t2 x2 (.slice p2 q2.length cp2) O2.out.c0 O2.out.c1 O2.out.c2 O2.out.c3 O2.out.c4 O2.out.c5 ?_ ?_ ?_ ?_);rfl;rfl;rfl)
      |((with_reducible refine zac (.tmp 8) wr.heap.size l0 ?_ ?_ ?_ ?_);rfl;rfl;rfl)
      |((with_reducible refine zac (.tmp 9) (wr.heap.size+1) l1 ?_ ?_ ?_ ?_);rfl;rfl;rfl)
      |(go_at_call 228;(with_reducible refine hc.mono ?_);rintro e w3 ⟨rfl,hb3⟩;have b3:=zal b0 hb3 z0))
     go_ret
     exact ⟨by rw [HA.out];rfl,b3⟩
   ·have hA:=HA.out
    rw [zl5 lang l l2 j hlt (by omega)] at hA
    have HA2:=Lib.hid hA
    have O1:=Lib.hid o1
    have b0:Low w.heap.size w (wr.alloc (.cells #[.int .i64 k,.bool b,.int .i64 n,.string t,.string x,.slice p q.length cp] 48)):=hb.alloc hs _
    clear hA HA o1
    go_wp2_with (first
     |((with_reducible refine zaz (.tmp 16) g (off+j*6) k b n t x (.slice p q.length cp) O1.out.c0 O1.out.c1 O1.out.c2 O1.out.c3 O1.out.c4 O1.out.c5 ?_ ?_ ?_ ?_);rfl;rfl;rfl))
    go_ret
    exact ⟨by rw [HA2.out];rfl,b0⟩
  ·obtain rfl:j=l.length:=by omega
   have hA:=HA.out
   by_cases hs:l.length < l2.length
   ·rw [zja lang l l2 hs] at hA
    have HA2:=Lib.hid hA
    clear hA HA
    go_wp2_with fail
    go_ret
    exact ⟨by rw [HA2.out];rfl,hb⟩
   ·rw [zog lang l l2 (by omega)] at hA
    have HA2:=Lib.hid hA
    clear hA HA
    go_wp2_with fail
    go_ret
    exact ⟨by rw [HA2.out];rfl,hb⟩
theorem zz7 (lang:Int) (gl:Nat) (l l2:List Val) (p p2:Option Addr) (cap cap2:Nat) (w:World) (hG:Gd w) (hT:Tab w) (hcl:w.cell? ⟨gl,0,none⟩=some (.int .i64 lang)) (hl:Held w (.slice p l.length cap) l) (hl2:Held w (.slice p2 l2.length cap2) l2) (hn:l.length≤2097152) (hn2:l2.length≤2097152) (each:∀ v∈l,zos v):
 Calls Tryz.prog 107 #[.slice p l.length cap,.slice p2 l2.length cap2,.func (.func 228) #[] #[.pointer (some ⟨gl,0,none⟩)]] w fun e w'=>e=.returned (.int .i64 (za9 lang l l2))∧Low w.heap.size w w':=by
 cases l with
 | nil=>exact zps lang p p2 l2 cap cap2 _ w
 | cons v r=>
   obtain ⟨g,off,rfl,hh⟩:=hl.form
   cases l2 with
   | nil=>exact zoh lang gl (v::r) [] g off cap p2 0 0 cap2 w hG hT hcl hh (by unfold zbk;trivial) (fun h=>absurd h (by simp)) hn hn2 each
   | cons v2 r2=>
     obtain ⟨g2,off2,rfl,hh2⟩:=hl2.form
     exact zoh lang gl (v::r) (v2::r2) g off cap _ g2 off2 cap2 w hG hT hcl hh hh2 (fun _=>rfl) hn hn2 each
theorem zd3 (a b:Bool) (w:World):Calls Tryz.prog 136 #[.bool a,.bool b] w fun e w'=>e=.returned (.int .i64 (if a then -1 else if b then 1 else 0))∧w'=w:=by
 cases a <;> cases b
 all_goals
  go_enter Tryz.func136,Tryz.ntmps136
  go_wp2_with fail
  go_ret
  exact ⟨rfl,rfl⟩
theorem zsf (lang k:Int) (w:World):Calls Tryz.prog 180 #[.int .i64 lang,.int .i64 k] w fun e w'=>e=.returned (.int .i64 (za2 lang k))∧w'=w:=by
 by_cases h5:k=5
 ·subst h5
  rw [show za2 lang 5=1 from rfl]
  go_enter Tryz.func180,Tryz.ntmps180
  go_wp2_with fail
  go_ret
  exact ⟨rfl,rfl⟩
 by_cases h6:k=6
 ·subst h6
  rw [show za2 lang 6=2 from rfl]
  go_enter Tryz.func180,Tryz.ntmps180
  go_wp2_with fail
  go_ret
  exact ⟨rfl,rfl⟩
 by_cases h7:k=7
 ·subst h7
  rw [show za2 lang 7=3 from rfl]
  go_enter Tryz.func180,Tryz.ntmps180
  go_wp2_with fail
  go_ret
  exact ⟨rfl,rfl⟩
 by_cases h9:k=9
 ·subst h9
  rw [show za2 lang 9=4 from rfl]
  go_enter Tryz.func180,Tryz.ntmps180
  go_wp2_with fail
  go_ret
  exact ⟨rfl,rfl⟩
 by_cases h8:k=8
 ·subst h8
  rw [show za2 lang 8=5 from rfl]
  go_enter Tryz.func180,Tryz.ntmps180
  go_wp2_with fail
  go_ret
  exact ⟨rfl,rfl⟩
 by_cases h10:k=10
 ·subst h10
  rw [show za2 lang 10=6 from rfl]
  go_enter Tryz.func180,Tryz.ntmps180
  go_wp2_with fail
  go_ret
  exact ⟨rfl,rfl⟩
 by_cases h4:k=4
 ·subst h4
  rw [show za2 lang 4=7 from rfl]
  go_enter Tryz.func180,Tryz.ntmps180
  go_wp2_with fail
  go_ret
  exact ⟨rfl,rfl⟩
 by_cases h1:k=1
 ·subst h1
  rw [show za2 lang 1=8 from rfl]
  go_enter Tryz.func180,Tryz.ntmps180
  go_wp2_with fail
  go_ret
  exact ⟨rfl,rfl⟩
 by_cases h2:k=2
 ·subst h2
  rw [show za2 lang 2=9 from rfl]
  go_enter Tryz.func180,Tryz.ntmps180
  go_wp2_with fail
  go_ret
  exact ⟨rfl,rfl⟩
 by_cases h3:k=3
 ·subst h3
  rw [show za2 lang 3=9 from rfl]
  go_enter Tryz.func180,Tryz.ntmps180
  go_wp2_with fail
  go_ret
  exact ⟨rfl,rfl⟩
 by_cases h0:k=0
 ·subst h0
  by_cases hl:lang=1
  ·subst hl
   rw [show za2 1 0=0 from rfl]
   go_enter Tryz.func180,Tryz.ntmps180
   go_wp2_with fail
   go_ret
   exact ⟨rfl,rfl⟩
  ·rw [show za2 lang 0=10 by unfold za2;rw [if_pos rfl,if_neg hl]]
   have e1:(lang == 1)=false:=by simpa using hl
   go_enter Tryz.func180,Tryz.ntmps180
   go_wp2_with fail
   go_ret
   exact ⟨rfl,rfl⟩
 rw [show za2 lang k=11 by unfold za2;simp [h0,h1,h2,h3,h4,h5,h6,h7,h8,h9,h10]]
 have e0:(k == 0)=false:=by simpa using h0
 have e1:(k == 1)=false:=by simpa using h1
 have e2:(k == 2)=false:=by simpa using h2
 have e3:(k == 3)=false:=by simpa using h3
 have e4:(k == 4)=false:=by simpa using h4
 have e5:(k == 5)=false:=by simpa using h5
 have e6:(k == 6)=false:=by simpa using h6
 have e7:(k == 7)=false:=by simpa using h7
 have e8:(k == 8)=false:=by simpa using h8
 have e9:(k == 9)=false:=by simpa using h9
 have e10:(k == 10)=false:=by simpa using h10
 clear h0 h1 h2 h3 h4 h5 h6 h7 h8 h9 h10
 go_enter Tryz.func180,Tryz.ntmps180
 go_wp2_with fail
 go_ret
 exact ⟨rfl,rfl⟩
def zsg (v:Val):Prop:=∀ (lang:Int) (W:World) (k:Int) (b:Bool) (n:Int) (t x:ByteArray) (q:List Val) (p:Option Addr) (cap:Nat) (v2:Val) (k2:Int) (b2:Bool) (n2:Int) (t2 x2:ByteArray) (q2:List Val) (p2:Option Addr) (cap2:Nat),
 v=.mk k b n t x q→v2=.mk k2 b2 n2 t2 x2 q2→Fine n t x q.length→Fine n2 t2 x2 q2.length→Held W (.slice p q.length cap) q→Held W (.slice p2 q2.length cap2) q2→
 Calls Tryz.prog 135 #[.int .i64 lang,.agg #[.int .i64 k,.bool b,.int .i64 n,.string t,.string x,.slice p q.length cap],.agg #[.int .i64 k2,.bool b2,.int .i64 n2,.string t2,.string x2,.slice p2 q2.length cap2]] W
  fun e w'=>e=.returned (.int .i64 (zdo lang v v2))∧Below W.heap.size W w'
theorem z4c (lang:Int) (l l2:List Val) (p p2:Option Addr) (cap cap2:Nat) (w:World) (hl:Held w (.slice p l.length cap) l) (hl2:Held w (.slice p2 l2.length cap2) l2) (hn:l.length≤2097152) (hn2:l2.length≤2097152) (each:∀ v∈l,zsg v):
 Calls Tryz.prog 84 #[.int .i64 lang,.slice p l.length cap,.slice p2 l2.length cap2] w fun e w'=>e=.returned (.int .i64 (za9 lang l l2))∧Below w.heap.size w w':=by
 obtain ⟨z,hz⟩:∃ z,z=za9 lang l l2:=⟨_,rfl⟩
 rw [← hz]
 have HZ:=Lib.hid hz
 have HL:=Lib.hid hl
 have HL2:=Lib.hid hl2
 have HE:=Lib.hid each
 clear hl hl2 each hz
 go_enter Tryz.func84,Tryz.ntmps84
 go_wp2_with fail
 go_loopw [7] (fun i wr=>∃ j:Nat,j≤l.length∧j≤l2.length∧i=.int .i64 j∧Below w.heap.size w wr∧Hid (z=za9 lang (l.drop j) (l2.drop j))) (fun i _=>l.length - (intOf i).toNat)
 case atStart=>exact ⟨0,Nat.zero_le _,Nat.zero_le _,rfl,Below.refl _ _,Lib.hid (by rw [List.drop_zero,List.drop_zero];exact HZ.out)⟩
 case round=>
  obtain ⟨j,hj,hj2,rfl,hb,HA⟩:=hrel
  by_cases hlt:j < l.length
  ·by_cases hlt2:j < l2.length
   ·obtain ⟨g,off,rfl,hh⟩:∃ g off,p=some ⟨g,off,none⟩∧zbk w g off l:=by
     have hq:=HL.out
     cases l with
     | nil=>simp at hlt
     | cons v r=>exact hq.form
    obtain ⟨g2,off2,rfl,hh2⟩:∃ g2 off2,p2=some ⟨g2,off2,none⟩∧zbk w g2 off2 l2:=by
     have hq:=HL2.out
     cases l2 with
     | nil=>simp at hlt2
     | cons v r=>exact hq.form
    obtain ⟨k,b,n,t,x,q,p,cp,o1⟩:=(zbk.at_ l off hh j hlt).opens
    obtain ⟨k2,b2,n2,t2,x2,q2,p2,cp2,o2⟩:=(zbk.at_ l2 off2 hh2 j hlt2).opens
    have hc:=fun W (hb:Below w.heap.size w W)=>HE.out l[j] (List.getElem_mem hlt) lang W k b n t x q p cp l2[j] k2 b2 n2 t2 x2 q2 p2 cp2 o1.e o2.e o1.hf o2.hf (Held.below q o1.hl hb) (Held.below q2 o2.hl hb)
    obtain ⟨r,hr⟩:∃ r,r=zdo lang l[j] l2[j]:=⟨_,rfl⟩
    rw [← hr] at hc
    have hA:=HA.out
    rw [zl4 lang l l2 j hlt hlt2,← hr] at hA
    have R1:∀ w',Below w.heap.size w w'→w'.rangeAt g (off+j*6) [.int .i64 k,.bool b,.int .i64 n,.string t,.string x,.slice p q.length cp]:=fun w' h=>(o1.below h).range
    have R2:∀ w',Below w.heap.size w w'→w'.rangeAt g2 (off2+j*6) [.int .i64 k2,.bool b2,.int .i64 n2,.string t2,.string x2,.slice p2 q2.length cp2]:=fun w' h=>(o2.below h).range
    have HC:=Lib.hid hc
    have HA2:=Lib.hid hA
    have HR1:=Lib.hid R1
    have HR2:=Lib.hid R2
    clear o1 o2 hr hc R1 R2 hh hh2 hA HA
    have hlti:(j:Int) < l.length:=by omega
    have hlti2:(j:Int) < l2.length:=by omega
    go_wp2_with fail
    refine wp_region_held_drew (S:=fun w'=>Below w.heap.size w w') (by kernel_rfl) hb.drew (fun hHeld=>?_)
    refine tg (i:=0) (.int .i64 lang) rfl hHeld ?_
    refine tg (i:=1) (.slice (some ⟨g,off,none⟩) l.length cap) rfl hHeld ?_
    refine tg (i:=2) (.int .i64 j) rfl hHeld ?_
    refine tg (i:=3) (.pointer (some ⟨g,off+j*6,none⟩)) rfl hHeld ?_
    refine tk (i:=4) rfl (yieldsIf_load_mid (by rfl) 48 (.tmp 24) rfl g (off+j*6) rfl _ _ (fun w h=>HR1.out w h) Tryz.underlying48 rfl zit) hHeld ?_
    refine tg (i:=5) (.slice (some ⟨g2,off2,none⟩) l2.length cap2) rfl hHeld ?_
    refine tg (i:=6) (.int .i64 j) rfl hHeld ?_
    refine tg (i:=7) (.pointer (some ⟨g2,off2+j*6,none⟩)) rfl hHeld ?_
    refine tk (i:=8) rfl (yieldsIf_load_mid (by rfl) 48 (.tmp 28) rfl g2 (off2+j*6) rfl _ _ (fun w h=>HR2.out w h) Tryz.underlying48 rfl zit) hHeld ?_
    refine tr 9 rfl (fun K hK=>?_)
    rw [if_pos (by rfl)]
    go_simp
    refine (HC.out _ hHeld).mono ?_
    rintro e w3 ⟨rfl,hb3⟩
    refine hK.out _ _ (zab hHeld hb3 hHeld.size) (fun hHeld2=>?_)
    clear hK K hb3 hHeld
    try simp only [putS]
    refine tg (i:=10) (.int .i64 r) rfl hHeld2 ?_
    refine wpAnyH_done (by kernel_rfl) ?_ _
    by_cases hr0:r=0
    ·have e2:(r != 0)=false:=by simp [hr0]
     have HA3:=Lib.hid (show z=za9 lang (l.drop (j+1)) (l2.drop (j+1)) by rw [HA2.out,hr0,zco])
     clear HA2
     go_wp2_with fail
     go_roundw
     case rel=>exact ⟨j+1,by omega,by omega,by go_num,hHeld2,HA3⟩
     case measure=>simp [intOf];omega
    ·have e2:(r != 0)=true:=by simpa using hr0
     have HA3:=Lib.hid (show z=r by rw [HA2.out];exact if_neg hr0)
     clear HA2
     go_wp2_with fail
     go_ret
     exact ⟨by rw [HA3.out];rfl,hHeld2⟩
   ·obtain rfl:j=l2.length:=by omega
    have HA3:=Lib.hid (show z=1 by rw [HA.out];exact zl5 lang l l2 _ hlt (Nat.le_refl _))
    clear HA
    go_wp2_with (go_at_call 136;(with_reducible refine (zd3 _ _ _).mono ?_);rintro e w' ⟨rfl,rfl⟩)
    go_ret
    exact ⟨by rw [HA3.out];simp,hb⟩
  ·obtain rfl:j=l.length:=by omega
   by_cases hs:l.length < l2.length
   ·have HA3:=Lib.hid (show z=-1 by rw [HA.out];exact zja lang l l2 hs)
    clear HA
    go_wp2_with (go_at_call 136;(with_reducible refine (zd3 _ _ _).mono ?_);rintro e w' ⟨rfl,rfl⟩)
    go_ret
    exact ⟨by rw [HA3.out];simp,hb⟩
   ·have HA3:=Lib.hid (show z=0 by rw [HA.out];exact zog lang l l2 (by omega))
    clear HA
    go_wp2_with (go_at_call 136;(with_reducible refine (zd3 _ _ _).mono ?_);rintro e w' ⟨rfl,rfl⟩)
    go_ret
    exact ⟨by rw [HA3.out];simp,hb⟩
theorem zia {ops:Array Oper} {S:World→Prop} {op:Oper} {a:Act} (hw:Region.wanted op (yielded ops a.tmps)=true) (x:Operand) (ho:op.op=.load 224 x)
 (g:Nat) (hx:a.eval x=.pointer (some ⟨g,0,none⟩)) (n:Bool) (v:Value) (sc:Int) (hS:∀ w,S w→Rec w g n v sc):YieldsIf Tryz.prog ops S op (.agg #[.bool n,v,.int .i64 sc]) a:=
 .inl ⟨hw,fun w hw'=>by
  unfold execOp
  simp only [ho,hx,Instr.loadAt,Instr.sureAddr,Sem.run_bind,Sem.run_pure,Result.andThen_ok,run_loadVar_row (P:=Tryz.prog) w g 224 224 _ (0,0) _ (hS w hw') Tryz.underlying224 rfl (by exact zmf)]⟩
theorem zl6 {op:Oper} {a:Act} {w:World} {K:Act→World→Prop} {Q:Exit→Act→World→Prop} {n m:Bool} {v u:Value} {sc sd:Int} (x y:Operand) (ho:op.op=.store 224 x y) (g:Nat)
 (hx:a.eval x=.pointer (some ⟨g,0,none⟩)) (hy:a.eval y=.agg #[.bool m,u,.int .i64 sd]) (hg:Rec w g n v sc) (h1:u.oneCell'=true) (h:∀ w',Only g w w'→Rec w' g m u sd→K (a.put op.dst undef) w'):op.wp Tryz.prog a w K Q:=by
 unfold Oper.wp execOp
 simp only [ho,hx,hy,Instr.storeAt,Instr.sureAddr,Sem.run_bind,Sem.run_pure,Result.andThen_ok,run_storeVar_row (P:=Tryz.prog) w g 224 224 _ #[.bool m,u,.int .i64 sd] hg (by exact zmf) rfl (by simp [h1];exact ⟨rfl,rfl⟩)]
 exact h _ (Only.setRow w _) (zcv hg)
theorem Ints.rec {w w':World} {v z:Value} {ds:List Nat} {g:Nat} {n:Bool} {k:Int} (h:Ints w v ds) (ho:Only g w w') (hg:Rec w g n z k):Ints w' v ds:=h.only ho hg (by decide)
theorem zjb (W:World) {g:Nat} (e:W.heap.size=g):Rec (W.alloc (.cells #[.bool false,.slice none 0 0,.int .i64 0] 224)) g false (.slice none 0 0) 0:=zaf _ _ e
structure TwoS (w:World) (g7 g9:Nat) (N1:Bool) (u:Value) (s1:Int) (d1:List Nat) (N2:Bool) (v:Value) (s2:Int) (d2:List Nat) (w':World):Prop where
 r7:Rec w' g7 N1 u s1
 r9:Rec w' g9 N2 v s2
 r4:∃ n z k,Rec w' w.heap.size n z k
 r5:∃ n z k,Rec w' (w.heap.size+1) n z k
 i1:Ints w' u d1
 i2:Ints w' v d2
 bel:Below w.heap.size w w'
 n7:w.heap.size+2≤g7
 n9:w.heap.size+2≤g9
theorem TwoS.below {w w' w2:World} {g7 g9:Nat} {N1 N2:Bool} {u v:Value} {s1 s2:Int} {d1 d2:List Nat} (h:TwoS w g7 g9 N1 u s1 d1 N2 v s2 d2 w') (k:Below w'.heap.size w' w2):TwoS w g7 g9 N1 u s1 d1 N2 v s2 d2 w2:=by
 obtain ⟨n4,z4,k4,r4⟩:=h.r4
 obtain ⟨n5,z5,k5,r5⟩:=h.r5
 exact ⟨h.r7.below k,h.r9.below k,⟨_,_,_,r4.below k⟩,⟨_,_,_,r5.below k⟩,h.i1.below k,h.i2.below k,zab h.bel k (Nat.le_of_lt r4.lt),h.n7,h.n9⟩
theorem TwoS.set4 {w w' w2:World} {g7 g9:Nat} {N1 N2 n:Bool} {u v z:Value} {s1 s2 k:Int} {d1 d2:List Nat} (h:TwoS w g7 g9 N1 u s1 d1 N2 v s2 d2 w') (ho:Only w.heap.size w' w2) (hr:Rec w2 w.heap.size n z k):TwoS w g7 g9 N1 u s1 d1 N2 v s2 d2 w2:=by
 obtain ⟨n4,z4,k4,r4⟩:=h.r4
 obtain ⟨n5,z5,k5,r5⟩:=h.r5
 have a:=h.n7
 have b:=h.n9
 exact ⟨h.r7.only ho (by omega),h.r9.only ho (by omega),⟨_,_,_,hr⟩,⟨_,_,_,r5.only ho (by omega)⟩,h.i1.rec ho r4,h.i2.rec ho r4,zam h.bel ho (Nat.le_refl _) (Nat.le_of_lt r4.lt),h.n7,h.n9⟩
theorem TwoS.set5 {w w' w2:World} {g7 g9:Nat} {N1 N2 n:Bool} {u v z:Value} {s1 s2 k:Int} {d1 d2:List Nat} (h:TwoS w g7 g9 N1 u s1 d1 N2 v s2 d2 w') (ho:Only (w.heap.size+1) w' w2) (hr:Rec w2 (w.heap.size+1) n z k):TwoS w g7 g9 N1 u s1 d1 N2 v s2 d2 w2:=by
 obtain ⟨n4,z4,k4,r4⟩:=h.r4
 obtain ⟨n5,z5,k5,r5⟩:=h.r5
 have a:=h.n7
 have b:=h.n9
 exact ⟨h.r7.only ho (by omega),h.r9.only ho (by omega),⟨_,_,_,r4.only ho (by omega)⟩,⟨_,_,_,hr⟩,h.i1.rec ho r5,h.i2.rec ho r5,zam h.bel ho (by omega) (Nat.le_of_lt r4.lt),h.n7,h.n9⟩
theorem zwz {fn:Func} {p p2 q:Tmp} (h:fn.results=#[.cell p 224,.cell p2 224,.tmp q]) (tmps:Array Value) {w:World} {g g2:Nat} {n n2:Bool} {v v2:Value} {sc sc2:Int} (x:Value)
 (hp:tmps.getD p undef=.pointer (some ⟨g,0,none⟩)) (hp2:tmps.getD p2 undef=.pointer (some ⟨g2,0,none⟩)) (hq:tmps.getD q undef=x) (hg:Rec w g n v sc) (hg2:Rec w g2 n2 v2 sc2):(results fn tmps).run Tryz.prog w=.ok (.tuple #[.agg #[.bool n,v,.int .i64 sc],.agg #[.bool n2,v2,.int .i64 sc2],x]) w:=by
 have hp':tmps[p]?.getD undef=.pointer (some ⟨g,0,none⟩):=by simpa using hp
 have hp2':tmps[p2]?.getD undef=.pointer (some ⟨g2,0,none⟩):=by simpa using hp2
 have hq':tmps[q]?.getD undef=x:=by simpa using hq
 have hl:=run_loadVar_row (P:=Tryz.prog) w g 224 224 _ (0,0) _ hg Tryz.underlying224 rfl (by exact zmf)
 have hl2:=run_loadVar_row (P:=Tryz.prog) w g2 224 224 _ (0,0) _ hg2 Tryz.underlying224 rfl (by exact zmf)
 simp [results,h,hp',hp2',hq',asAddr,hl,hl2]
def zld (s:ByteArray) (N:Bool) (sc:Int) (ds:List Nat) (o:Bool):Prop:=
 ∀ W,Calls Tryz.prog 219 #[.string s] W fun e w'=>∃ u,e=.returned (.tuple #[.agg #[.bool N,u,.int .i64 sc],.bool o])∧Ints w' u ds∧Below W.heap.size W w'
theorem zld.at {s:ByteArray} {N:Bool} {sc:Int} {ds:List Nat} {o:Bool} (h:zld s N sc ds o) (W:World):Calls Tryz.prog 219 #[.string s] W fun e w'=>∃ u,e=.returned (.tuple #[.agg #[.bool N,u,.int .i64 sc],.bool o])∧Ints w' u ds∧Below W.heap.size W w':=h W
def zib (s:ByteArray) (c:Bool):Prop:=∀ W,Calls Tryz.prog 154 #[.string s] W fun e w'=>e=.returned (.bool c)∧Below W.heap.size W w'
theorem zib.at {s:ByteArray} {c:Bool} (h:zib s c) (W:World):Calls Tryz.prog 154 #[.string s] W fun e w'=>e=.returned (.bool c)∧Below W.heap.size W w':=h W
theorem zz8 (n:Bool) (x k:Nat):sv n (x*k)=sv n x*(k:Int):=by
 unfold sv;cases n
 ·simp
 ·simp [Int.neg_mul]
theorem sv_zero (n:Bool):sv n 0=0:=by cases n <;> rfl
theorem sv_not (n:Bool) (x:Nat):sv (!n) x=-sv n x:=by cases n <;> simp [sv]
structure Row (i x:Nat) (bs':List Nat) (D0:Nat) (len:Nat) (ds:List Nat) (k c:Nat):Prop where
 small:zcb ds
 len:ds.length=len
 car:c≤9
 val:za4 ds+c*10 ^ (i+k)=D0+x*vT k (dig bs')*10 ^ i
theorem Row.all {i x len k:Nat} {xs bs' ds:List Nat} (h:Row i x bs' (vT i (dig xs)*za4 bs') len ds k 0) (hx:x=dig xs i) (hk:bs'.length≤k):za4 ds=vT (i+1) (dig xs)*za4 bs':=by
 have v:=h.val
 rw [zdl bs' hk,Nat.zero_mul,Nat.add_zero] at v
 rw [v]
 show _=(vT i (dig xs)+dig xs i*10 ^ i)*za4 bs'
 rw [Nat.add_mul,hx,Nat.mul_right_comm]
theorem zz9 {s t:Nat} (h:s≤t) (h2:t≤54):10 ^ (t - s)*10 ^ (54 - t)=10 ^ (54 - s):=by
 rw [← Nat.pow_add];congr 1;omega
theorem z0a {na nb nz:Bool} {da db dz:List Nat} {sa sb s:Nat} (h1:sa≤s) (h2:sb≤s) (h54:s≤54)
 (h:sv nz (za4 dz)=sv na (za4 da*10 ^ (s - sa))+sv nb (za4 db*10 ^ (s - sb))):nval nz dz s=nval na da sa+nval nb db sb:=by
 unfold nval
 rw [zz8,h,Int.add_mul,← zz8,← zz8,Nat.mul_assoc,Nat.mul_assoc,zz9 h1 h54,zz9 h2 h54]
structure Dec (l:List UInt8) (n:Bool) (ds:List Nat) (sc:Nat):Prop where
 sign:n=zd4 l
 small:zcb ds
 amt:za4 ds*10 ^ (54 - sc)=damt l
 sc:sc≤20
 len:ds.length≤60
theorem Dec.val {l:List UInt8} {n:Bool} {ds:List Nat} {sc:Nat} (h:Dec l n ds sc):nval n ds sc=dval l:=by
 unfold nval dval;rw [h.amt,h.sign]
theorem z0b {l:List UInt8} (h:chk l=true):okP (sgn l).2=true∧Dec l (sgn l).1 (revD ((Lib.cut (sgn l).2 [46]).1++(Lib.cut (sgn l).2 [46]).2.1)) (Lib.cut (sgn l).2 [46]).2.1.length:=by
 obtain ⟨_,_,_,_,a,b,hsp,ha,hb,la,lb,e⟩:=zst l h
 rw [zrk] at hsp
 by_cases hk:okP (sgn l).2=true
 ·rw [if_pos hk] at hsp
  have e0:=Option.some.inj hsp
  have e1:(sgn l).1=zd4 l:=congrArg (·.1) e0
  have e2:(Lib.cut (sgn l).2 [46]).1=a:=congrArg (·.2.1) e0
  have e3:(Lib.cut (sgn l).2 [46]).2.1=b:=congrArg (·.2.2) e0
  refine ⟨hk,e1,?_,?_,?_,?_⟩
  ·rw [e2,e3];exact zkv _ (by rw [List.all_append,ha,hb];rfl)
  ·rw [e2,e3,e,zys a b (by omega)]
  ·rw [e3];exact lb
  ·rw [e2,e3,zig,List.length_append];omega
 ·rw [if_neg hk] at hsp;cases hsp
theorem Dec.zero {l:List UInt8} {n:Bool} {ds:List Nat} {sc:Nat} (h:Dec l n ds sc):za4 ds=0↔damt l=0:=by
 have:=h.amt
 constructor
 ·intro e;rw [← this,e,Nat.zero_mul]
 ·intro e
  rw [e,Nat.mul_eq_zero] at this
  rcases this with k | k
  ·exact k
  ·exact absurd k (Nat.pos_iff_ne_zero.1 (Nat.pow_pos (by decide)))
end Go.Proofs.YteclpnfckjfibaaGreatDoor
