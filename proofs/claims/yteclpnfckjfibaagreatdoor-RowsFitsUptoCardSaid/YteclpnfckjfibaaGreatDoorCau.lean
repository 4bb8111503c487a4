/- Texts of one kind, one behind the other: each says ahead of itself what it shows. -/
import Derived.Test.YteclpnfckjfibaaGreatDoorCat
import Derived.Test.YteclpnfckjfibaaGreatDoorCaq
import Derived.Test.YteclpnfckjfibaaGreatDoorCar
namespace Go.Proofs.YteclpnfckjfibaaGreatDoor
open Go.RowKit
set_option maxHeartbeats 12800000
set_option maxRecDepth 20000
theorem zag.rest {w:World} {P:Nat→Prop} {q:Option Addr} {len l:Nat} {t:List (List Val)} (hr:zag rowE w P (.slice q len l) t) (hcap:capK (.slice q len l)) (n m:Nat) (hn:n≤t.length) (hm:m=t.length - n):zag rowE w P (.slice (zok q l n) m (l - n)) (t.drop n)∧capK (.slice (zok q l n) m (l - n)):=by
 obtain ⟨p,c,e2⟩:=hr.slice
 cases e2
 have hl:=hcap.1 _ _ _ rfl
 refine ⟨?_,⟨fun p m' c e=>by cases e;omega,fun m' c e=>?_⟩⟩
 ·by_cases h0:t.drop n=[]
  ·refine ⟨zok q l n,l - n,?_,fun q=>absurd h0 q⟩
   show Value.slice _ m _=Value.slice _ (t.drop n).length _
   rw [List.length_drop,hm]
  ·have hne:t≠[]:=fun q=>h0 (by rw [q,List.drop_nil])
   obtain ⟨p',c',e3,hh⟩:=hr
   cases e3
   obtain ⟨g,off,xs,rfl,k1,k2,k3⟩:=hh hne
   have hlt:n < t.length:=Nat.lt_of_not_le fun q=>h0 (List.drop_eq_nil_of_le q)
   unfold zok
   rw [if_neg (by omega),Option.map_some,zik]
   exact zag.drop ⟨_,_,rfl,fun _=>⟨g,off,xs,rfl,k1,k2,k3⟩⟩ rfl n m hn hm
 ·injection e with e1 e2 e3
  have:q=none:=by
   unfold zok at e1
   split at e1
   ·exact e1
   ·simpa using e1
  have:=hcap.2 _ _ (by rw [this])
  omega
theorem zdq {p:Option Addr} {n c:Nat} (h:capK (.slice p n c)) (e:p=none):n=0∧c=0:=by
 have hc:=h.2 n c (by rw [e])
 have:=h.1 p n c rfl
 exact ⟨by omega,hc⟩
theorem zso (lang:Int) (l:List (List Val)):(zd7 lang l).length=l.length:=(zin lang l []).length_eq.trans (by simp)
theorem zio {P:Nat→Prop} {w wr:World} {bs:List (List Val)} {A:Value} (hP:∀ x,P x→x < w.heap.size) (h:AccB rowE 43 P w bs A wr):zag rowE wr (Old wr) A bs∧capK A:=by
 obtain ⟨⟨xs,hown,hrow⟩,hb⟩:=h
 exact ⟨zbz hown hrow (fun g hg=>Nat.lt_of_lt_of_le (hP g hg) hb.size) (fun g e=>(hown.lt g e).2),zda hown⟩
def zq3 (W:World) (bs:List (List Val)) (e:Ending) (w':World):Prop:=∃ V,e=.returned V∧zag rowE w' (Old w') V bs∧capK V∧Below W.heap.size W w'
theorem zsp (lang:Int) (l:List (List Val)) (V:Value) (W:World) (h:zag rowE W (Old W) V l) (hn:l.length≤2097152):Calls Tryz.prog 59 #[.int .i64 lang,V] W (zq3 W (zd7 lang l)):=by
 obtain ⟨p,cap,rfl⟩:=h.slice
 obtain ⟨i0,hi,hz0,hz1,hz2⟩:=info_parts zhw
 obtain ⟨n,hl⟩:∃ n,n=l.length:=⟨_,rfl⟩
 rw [← hl] at hn
 have HL:=Lib.hid hl
 have HH:=Lib.hid h
 rw [← hl]
 clear h hl
 go_enter Tryz.func59,Tryz.ntmps59
 go_wp2_with fail
 go_loopg [5,6] n (fun gg s5 s6 wr=>∃ (j cA:Nat) (pA:Option Addr),j+gg=n∧s6=.int .i64 j∧s5=.slice pA j cA∧Hid (zag rowE wr (Old wr) (.slice pA j cA) (zd7 lang (l.take j))∧capK (.slice pA j cA))∧Hid (Below W.heap.size W wr))
 case atStart=>exact ⟨0,0,none,by omega,rfl,rfl,Lib.hid ⟨zag.nil _ _,zmt⟩,Lib.hid (Below.refl _ _)⟩
 case round=>
  obtain ⟨j,cA,pA,hjg,rfl,rfl,HO,HB⟩:=hrel
  by_cases hj:(j:Int) < n
  ·have hj1:j < l.length:=by have:=HL.out;omega
   obtain ⟨out,hout⟩:∃ out,out=zd7 lang (l.take j):=⟨_,rfl⟩
   have hlen:out.length=j:=by rw [hout,zso,List.length_take];omega
   rw [← hout] at HO
   obtain ⟨x,hx⟩:∃ x,x=l[j]:=⟨_,rfl⟩
   have hnext:zd7 lang (l.take (j+1))=insR lang out x:=by rw [List.take_succ_eq_append_getElem hj1,zw1,← hout,← hx]
   have HNX:=Lib.hid hnext
   have HLO:=Lib.hid hlen
   obtain ⟨g,off,cap',c,e0,hg,hrl,hra⟩:=(HH.out.stays (zae HB.out)).at_ j hj1
   injection e0 with e1 e2 e3
   subst e1
   rw [← hx] at hrl
   obtain ⟨u,rfl,hu,hcu,hlu⟩:=id hrl
   obtain ⟨pu,ku,rfl⟩:=hu.slice
   obtain ⟨lx,hlx⟩:∃ lx,lx=x.length:=⟨_,rfl⟩
   have c0:wr.cell? ⟨g,off+j,none⟩=some (.slice pu lx ku):=by
    have:=hra 0 _ rfl
    rw [hlx]
    simpa [rowE] using this
   rw [← hlx] at hrl hu
   have HD:=Lib.hid hrl
   have HU:=Lib.hid (And.intro hu hlu)
   have hR:=HB.out
   clear hra e2 e3 hrl hu hcu hlu hg hout hlen hnext hx hlx
   have HC0:=Lib.hid c0
   clear c0
   go_wp2_with fail
   go_loopg [7] j (fun gg s7 wr2=>∃ k:Nat,(k≤gg∧gg≤k)∧k≤j∧s7=.int .i64 k∧Hid (posR lang x out k=posR lang x out j)∧Hid (Below wr.heap.size wr wr2))
   case atStart=>exact ⟨j,⟨Nat.le_refl _,Nat.le_refl _⟩,Nat.le_refl _,rfl,Lib.hid rfl,Lib.hid (Below.refl _ _)⟩
   case round=>
    obtain ⟨k,hkg,hkj,rfl,HP,HB2⟩:=hrel
    rename World=>wk
    have hc0:=zav HC0.out HB2.out
    by_cases hk0:k=0
    ·subst hk0
     have HK:Hid (posR lang x out j=0):=Lib.hid HP.out.symm
     go_upto_region 6 with fail
     refine wp_region_held_drew (S:=fun W'=>W'.cell? ⟨g,off+j,none⟩=some (.slice pu lx ku)) (by kernel_rfl) hc0 (fun hh=>?_)
     have hh1:=hh
     have bq:Below wk.heap.size wk wk.drew:=(Below.refl _ _).drew
     have hBD:=zab HB2.out bq HB2.out.size
     clear hh hc0
     generalize wk.drew=wD at*
     refine tg (i:=0) (.int .i64 (0)) rfl (hh1) ?_
     refine tg (i:=1) (.bool false) rfl (hh1) ?_
     refine tg (i:=2) (.bool false) rfl (hh1) ?_
     refine tn (i:=3) rfl (hh1) ?_
     refine tn (i:=4) rfl (hh1) ?_
     refine tn (i:=5) rfl (hh1) ?_
     refine tn (i:=9) rfl (hh1) ?_
     refine tn (i:=10) rfl (hh1) ?_
     refine tn (i:=6) rfl (hh1) ?_
     refine tn (i:=11) rfl (hh1) ?_
     refine tn (i:=7) rfl (hh1) ?_
     refine tn (i:=12) rfl (hh1) ?_
     refine tn (i:=8) rfl (hh1) ?_
     refine tn (i:=13) rfl (hh1) ?_
     refine tn (i:=14) rfl (hh1) ?_
     refine tg (i:=15) (.bool false) rfl (hh1) ?_
     refine wpAnyH_done (by kernel_rfl) ?_ _
     have HBD:=Lib.hid hBD
     clear hBD
     clear bq
     have hc0:=hh1
     clear hh1
     cases pA with
     | none=>
       obtain ⟨rfl,rfl⟩:=zdq HO.out.2 rfl
       have bE:Below wr.heap.size wr wD:=HBD.out
       have hO:zag rowE wD (Old wD) (.slice none 0 0) out∧capK (.slice none 0 0):=⟨HO.out.1.stays (zae bE),HO.out.2⟩
       have hKj:0≤out.length:=by have:=HLO.out;omega
       have h1:=hO.1.take 0 hKj
       have k1:=zlf hO.2 0 (by omega)
       have h3:zag rowE wD (Old wD) (.slice none 0 0) (out.drop 0):=hO.1
       have k3:=hO.2
       obtain ⟨ys,hy1,hy2,hy3⟩:=h1.news
       replace hy1:ys.length=0*1:=by rw [hy1,List.length_take];show min _ _*1=_;have:=HLO.out;omega
       have hyo:=hy2.one
       have hcA:(0:Nat)≤0:=hO.2.1 _ _ _ rfl
       have hcA2:((0:Nat):Int)≤(0:Nat):=by omega
       have hcK:(0:Nat)≤0:=by omega
       have hcKi:((0:Nat):Int)≤(0:Nat):=by omega
       have hcKj:((0:Nat):Int)≤(0:Nat):=by omega
       have HN1:=Lib.hid (fun e=>zdq k1 e)
       have HN3:=Lib.hid (fun e=>zdq k3 e)
       have HX:=Lib.hid (And.intro hy2 (And.intro h3 hO.1))
       have hj60:(0:Nat)≤2097152:=by omega
       clear h1 h3 k1 k3 hy2 hO
       go_wp2_with (first
        |(at_builtin;refine za6 rfl _ _ 23 rfl wD.heap.size 43 i0 (.slice none 0 0) 1 24 Tryz.underlying23 hi hz0 hz1 hz2 rfl (by decide) (.slice none 0 0) 0 [] rfl (World.ownsRow_nil _ _ _ _) none (0) 0 ys rfl hy1 HN1.out hy3 hyo (by unfold maxLen;omega) (by omega) (Nat.le_refl _) ?_))
       intro v2 w2 ho2 hg2 hloc2
       have hlk:(out.take (0)).length=0:=by rw [List.length_take];have:=HLO.out;omega
       have ho2b:w2.ownsRow wD.heap.size 43 1 v2 (out.take (0)).length ys:=zbr (by simpa using ho2) hlk.symm
       have acc1:AccB rowE 43 (Old wD) wD (out.take (0)) v2 w2:=by
        have:=AccB.more (bs:=[]) (fun _ h=>h) (World.ownsRow_nil _ _ _ _) RowE.nil (Below.refl _ _) HX.out.1 (by rw [List.length_nil,Nat.zero_add];exact ho2b) hg2
        exact this
       have hc2:=zav hc0 acc1.bel
       replace hc2:w2.cell? ⟨g,off,none⟩=some (.slice pu lx ku):=hc2
       have ho2c:w2.ownsRow wD.heap.size 43 1 v2 (0) ys:=zbr ho2b hlk
       have hs2:=acc1.bel.size
       have HA1:=Lib.hid acc1
       have HL2:=Lib.hid hlk
       have H2B:=Lib.hid ho2b
       clear acc1 ho2 hg2 hloc2 hy3 hyo hc0 hlk ho2b
       go_upto_region 11 with (first
        |(at_builtin;refine wpList_append_own_at _ rfl _ _ 23 rfl wD.heap.size 43 i0 (.slice none 0 0) 1 24 Tryz.underlying23 hi hz0 hz1 hz2 rfl (by decide) _ _ _ rfl (ho2c.alloc _) ⟨w2.heap.size,0,none⟩ 1 1 [.slice pu lx ku] rfl rfl (zb1 _ _ _) (by simp [Value.oneCell']) ?_ ?_ ?_ ?_))
       all_goals (try (first |(unfold maxLen;omega) | omega |(simp;omega)))
       intro v3 w3 ho3 hg3 _ hloc3
       have acc2:AccB rowE 43 (Old wD) wD (out.take (0)++[x]) v3 w3:=by
        obtain ⟨⟨xs,_,hrow⟩,hbel⟩:=HA1.out
        have hrow2:RowE rowE w2 (Old wD) ys (out.take (0)):=HX.out.1.stays (fun g hg=>⟨hg,hbel.block g hg⟩)
        exact AccB.next (fun _ h=>h) H2B.out hrow2 hbel (Below.refl _ _) (Below.refl _ _) (rowE.stays (P':=Old wD) (fun g hg=>⟨Nat.lt_of_lt_of_le hg HBD.out.size,(hbel.block g (Nat.lt_of_lt_of_le hg HBD.out.size)).trans (HBD.out.block g hg)⟩) HD.out) (show w3.ownsRow wD.heap.size 43 1 v3 ((out.take (0)).length+1) (ys++[.slice pu lx ku]) from zbr (by simpa using ho3) (by rw [HL2.out])) hg3 (by simpa using hloc3)
       have hlk2:(out.take (0)++[x]).length=0+1:=by rw [List.length_append,HL2.out];rfl
       obtain ⟨⟨xs3,ho3b,hr3⟩,hb3⟩:=id acc2
       replace ho3b:w3.ownsRow wD.heap.size 43 1 v3 (0+1) xs3:=zbr ho3b hlk2
       obtain ⟨p3,c3,rfl⟩:=zau ho3b
       obtain ⟨zs,hz1',hz2',hz3'⟩:=(HX.out.2.1.stays (P':=Old wD) (fun g hg=>⟨hg,hb3.block g hg⟩)).news
       have hld:(out.drop (0)).length=0:=by rw [List.length_drop];have:=HLO.out;omega
       replace hz1':zs.length=0*1:=by rw [hz1',hld];rfl
       have hzo:=hz2'.one
       have hs3:=hb3.size
       have HA2:=Lib.hid (And.intro acc2 (And.intro hz2' (And.intro hr3 (And.intro hb3 (And.intro hlk2 hld)))))
       clear acc2 ho3 hg3 hloc3 hr3 hb3 hlk2 hld hz2' hc2 ho2c HA1
       go_upto_region 4 with (first
        |(at_builtin;go_loud (refine za6 rfl _ _ 23 rfl wD.heap.size 43 i0 (.slice none 0 0) 1 24 Tryz.underlying23 hi hz0 hz1 hz2 rfl (by decide) _ (0+1) xs3 rfl ho3b none 0 0 zs rfl hz1' (fun _=>⟨rfl,rfl⟩) hz3' hzo (by unfold maxLen;omega) (by omega) hs3 ?_)))
       intro v4 w4 ho4 hg4 hloc4
       obtain ⟨acc2,hz2',hr3,hb3,hlk2,hld⟩:=HA2.out
       have ho4b:w4.ownsRow wD.heap.size 43 1 v4 ((out.take (0)++[x]).length+(out.drop (0)).length) (xs3++zs):=zbr ho4 (by rw [hlk2,hld])
       have acc3:AccB rowE 43 (Old wD) wD ((out.take (0)++[x])++out.drop (0)) v4 w4:=AccB.more (fun _ h=>h) (zbr ho3b hlk2.symm) hr3 hb3 hz2' ho4b hg4
       have hfin:(out.take (0)++[x])++out.drop (0)=zd7 lang (l.take (0+1)):=by
        rw [HNX.out]
        unfold insR
        have e:posR lang x out out.length=0:=by rw [HLO.out];exact HK.out
        rw [e]
        simp
       rw [hfin] at acc3
       have hA4:=zio (fun _ h=>h) acc3
       have ho5:=zbr ho4b (m:=0+1) (by rw [hlk2,hld] <;> omega)
       obtain ⟨p4,c4,rfl⟩:=zau ho5
       have HO4:=Lib.hid hA4
       have HB4:=Lib.hid (zab (zab HB.out HBD.out HB.out.size) acc3.bel (zab HB.out HBD.out HB.out.size).size)
       clear acc2 hz2' hr3 hb3 hlk2 hld ho4 ho4b acc3 hfin hA4 ho5 hg4 hloc4 HA2 ho3b hz3' hzo
       go_wp2_with fail
       go_roundg (n - 0 - 1)
       case measure=>omega
       case rel=>exact ⟨0+1,c4,p4,by omega,by go_num,rfl,HO4,HB4⟩
     | some ad=>
       have bE:Below wr.heap.size wr wD:=HBD.out
       have hO:zag rowE wD (Old wD) (.slice (some ad) j cA) out∧capK (.slice (some ad) j cA):=⟨HO.out.1.stays (zae bE),HO.out.2⟩
       have hKj:0≤out.length:=by have:=HLO.out;omega
       have h1:=hO.1.take 0 hKj
       have k1:=zlf hO.2 0 (by omega)
       have h3:zag rowE wD (Old wD) (.slice (some ad) j cA) (out.drop 0):=hO.1
       have k3:=hO.2
       obtain ⟨ys,hy1,hy2,hy3⟩:=h1.news
       replace hy1:ys.length=0*1:=by rw [hy1,List.length_take];show min _ _*1=_;have:=HLO.out;omega
       have hyo:=hy2.one
       have hcA:(j:Nat)≤cA:=hO.2.1 _ _ _ rfl
       have hcA2:((j:Nat):Int)≤(cA:Nat):=by omega
       have hcK:(0:Nat)≤cA:=by omega
       have hcKi:((0:Nat):Int)≤(cA:Nat):=by omega
       have hcKj:((0:Nat):Int)≤(j:Nat):=by omega
       have HN1:=Lib.hid (fun e=>zdq k1 e)
       have HN3:=Lib.hid (fun e=>zdq k3 e)
       have HX:=Lib.hid (And.intro hy2 (And.intro h3 hO.1))
       have hj60:(j:Nat)≤2097152:=by omega
       clear h1 h3 k1 k3 hy2 hO
       go_wp2_with (first
        |(at_builtin;refine za6 rfl _ _ 23 rfl wD.heap.size 43 i0 (.slice none 0 0) 1 24 Tryz.underlying23 hi hz0 hz1 hz2 rfl (by decide) (.slice none 0 0) 0 [] rfl (World.ownsRow_nil _ _ _ _) (some ad) (0) cA ys rfl hy1 HN1.out hy3 hyo (by unfold maxLen;omega) (by omega) (Nat.le_refl _) ?_))
       intro v2 w2 ho2 hg2 hloc2
       have hlk:(out.take (0)).length=0:=by rw [List.length_take];have:=HLO.out;omega
       have ho2b:w2.ownsRow wD.heap.size 43 1 v2 (out.take (0)).length ys:=zbr (by simpa using ho2) hlk.symm
       have acc1:AccB rowE 43 (Old wD) wD (out.take (0)) v2 w2:=by
        have:=AccB.more (bs:=[]) (fun _ h=>h) (World.ownsRow_nil _ _ _ _) RowE.nil (Below.refl _ _) HX.out.1 (by rw [List.length_nil,Nat.zero_add];exact ho2b) hg2
        exact this
       have hc2:=zav hc0 acc1.bel
       have ho2c:w2.ownsRow wD.heap.size 43 1 v2 (0) ys:=zbr ho2b hlk
       have hs2:=acc1.bel.size
       have HA1:=Lib.hid acc1
       have HL2:=Lib.hid hlk
       have H2B:=Lib.hid ho2b
       clear acc1 ho2 hg2 hloc2 hy3 hyo hc0 hlk ho2b
       go_upto_region 11 with (first
        |(at_builtin;refine wpList_append_own_at _ rfl _ _ 23 rfl wD.heap.size 43 i0 (.slice none 0 0) 1 24 Tryz.underlying23 hi hz0 hz1 hz2 rfl (by decide) _ _ _ rfl (ho2c.alloc _) ⟨w2.heap.size,0,none⟩ 1 1 [.slice pu lx ku] rfl rfl (zb1 _ _ _) (by simp [Value.oneCell']) ?_ ?_ ?_ ?_))
       all_goals (try (first |(unfold maxLen;omega) | omega |(simp;omega)))
       intro v3 w3 ho3 hg3 _ hloc3
       have acc2:AccB rowE 43 (Old wD) wD (out.take (0)++[x]) v3 w3:=by
        obtain ⟨⟨xs,_,hrow⟩,hbel⟩:=HA1.out
        have hrow2:RowE rowE w2 (Old wD) ys (out.take (0)):=HX.out.1.stays (fun g hg=>⟨hg,hbel.block g hg⟩)
        exact AccB.next (fun _ h=>h) H2B.out hrow2 hbel (Below.refl _ _) (Below.refl _ _) (rowE.stays (P':=Old wD) (fun g hg=>⟨Nat.lt_of_lt_of_le hg HBD.out.size,(hbel.block g (Nat.lt_of_lt_of_le hg HBD.out.size)).trans (HBD.out.block g hg)⟩) HD.out) (show w3.ownsRow wD.heap.size 43 1 v3 ((out.take (0)).length+1) (ys++[.slice pu lx ku]) from zbr (by simpa using ho3) (by rw [HL2.out])) hg3 (by simpa using hloc3)
       have hlk2:(out.take (0)++[x]).length=0+1:=by rw [List.length_append,HL2.out];rfl
       obtain ⟨⟨xs3,ho3b,hr3⟩,hb3⟩:=id acc2
       replace ho3b:w3.ownsRow wD.heap.size 43 1 v3 (0+1) xs3:=zbr ho3b hlk2
       obtain ⟨p3,c3,rfl⟩:=zau ho3b
       obtain ⟨zs,hz1',hz2',hz3'⟩:=(HX.out.2.1.stays (P':=Old wD) (fun g hg=>⟨hg,hb3.block g hg⟩)).news
       have hld:(out.drop (0)).length=j:=by rw [List.length_drop];have:=HLO.out;omega
       replace hz1':zs.length=j*1:=by rw [hz1',hld];rfl
       have hzo:=hz2'.one
       have hs3:=hb3.size
       have HA2:=Lib.hid (And.intro acc2 (And.intro hz2' (And.intro hr3 (And.intro hb3 (And.intro hlk2 hld)))))
       clear acc2 ho3 hg3 hloc3 hr3 hb3 hlk2 hld hz2' hc2 ho2c HA1
       go_upto_region 4 with (first
        |(at_builtin;go_loud (refine za6 rfl _ _ 23 rfl wD.heap.size 43 i0 (.slice none 0 0) 1 24 Tryz.underlying23 hi hz0 hz1 hz2 rfl (by decide) _ (0+1) xs3 rfl ho3b (some ad) j cA zs rfl hz1' (fun e=>by cases e) hz3' hzo (by unfold maxLen;omega) (by omega) hs3 ?_)))
       intro v4 w4 ho4 hg4 hloc4
       obtain ⟨acc2,hz2',hr3,hb3,hlk2,hld⟩:=HA2.out
       have ho4b:w4.ownsRow wD.heap.size 43 1 v4 ((out.take (0)++[x]).length+(out.drop (0)).length) (xs3++zs):=zbr ho4 (by rw [hlk2,hld])
       have acc3:AccB rowE 43 (Old wD) wD ((out.take (0)++[x])++out.drop (0)) v4 w4:=AccB.more (fun _ h=>h) (zbr ho3b hlk2.symm) hr3 hb3 hz2' ho4b hg4
       have hfin:(out.take (0)++[x])++out.drop (0)=zd7 lang (l.take (j+1)):=by
        rw [HNX.out]
        unfold insR
        have e:posR lang x out out.length=0:=by rw [HLO.out];exact HK.out
        rw [e]
        simp
       rw [hfin] at acc3
       have hA4:=zio (fun _ h=>h) acc3
       have ho5:=zbr ho4b (m:=j+1) (by rw [hlk2,hld] <;> omega)
       obtain ⟨p4,c4,rfl⟩:=zau ho5
       have HO4:=Lib.hid hA4
       have HB4:=Lib.hid (zab (zab HB.out HBD.out HB.out.size) acc3.bel (zab HB.out HBD.out HB.out.size).size)
       clear acc2 hz2' hr3 hb3 hlk2 hld ho4 ho4b acc3 hfin hA4 ho5 hg4 hloc4 HA2 ho3b hz3' hzo
       go_wp2_with fail
       go_roundg (n - j - 1)
       case measure=>omega
       case rel=>exact ⟨j+1,c4,p4,by omega,by go_num,rfl,HO4,HB4⟩
    ·obtain ⟨q,rfl⟩:∃ q,k=q+1:=⟨k - 1,by omega⟩
     have hq:q < out.length:=by have:=HLO.out;omega
     obtain ⟨gA,oA,cA',cc,e0,_,hrq,hraq⟩:=(HO.out.1.stays (zae HB2.out)).at_ q hq
     injection e0 with e1 e2 e3
     subst e1
     obtain ⟨y,hy⟩:∃ y,y=out[q]:=⟨_,rfl⟩
     rw [← hy] at hrq
     obtain ⟨uq,rfl,huq,_,hly⟩:=hrq
     obtain ⟨pq,kq,rfl⟩:=huq.slice
     obtain ⟨ly,hly2⟩:∃ ly,ly=y.length:=⟨_,rfl⟩
     have hcq:wk.cell? ⟨gA,oA+q,none⟩=some (.slice pq ly kq):=by
      have:=hraq 0 _ rfl
      rw [hly2]
      simpa [rowE] using this
     rw [← hly2] at huq
     have HCL:Hid (∀ w',Below wk.heap.size wk w'→Calls Tryz.prog 33 #[.int .i64 lang,.slice pq ly kq,.slice pu lx ku] w' fun e w2=>e=.returned (.int .i64 (za9 lang y x))∧Below w'.heap.size w' w2):=Lib.hid fun w' b=>zsm lang y x _ _ _ _ w' (huq.stays (zae b)) (HU.out.1.stays (zae (zab HB2.out b HB2.out.size))) hly HU.out.2
     have HY:Hid (out.getD q []=y):=Lib.hid (by rw [List.getD_eq_getElem?_getD,List.getElem?_eq_getElem hq,hy];rfl)
     obtain ⟨z,hz⟩:∃ z,z=za9 lang y x:=⟨_,rfl⟩
     rw [← hz] at HCL
     have HZ:=Lib.hid hz
     have hqj:(q:Int) < j:=by omega
     have hqs:q≤2097152:=by omega
     clear hraq huq hly hy hly2 hz e2 e3
     by_cases hzz:0 < z
     ·have HP2:Hid (posR lang x out q=posR lang x out j):=Lib.hid (by
       rw [← HP.out]
       conv=>rhs;unfold posR
       rw [HY.out,← HZ.out,if_pos hzz])
      have dz:decide (0 < z)=true:=decide_eq_true hzz
      go_upto_region 6 with fail
      refine wp_region_held_drew (S:=fun W'=>W'.cell? ⟨g,off+j,none⟩=some (.slice pu lx ku)∧W'.cell? ⟨gA,oA+q,none⟩=some (.slice pq ly kq)) (by kernel_rfl) ⟨hc0,hcq⟩ (fun hh=>?_)
      have hh1:=hh.1
      have hh2:=hh.2
      have bq:Below wk.heap.size wk wk.drew:=(Below.refl _ _).drew
      have hBD:=zab HB2.out bq HB2.out.size
      clear hh hc0 hcq
      generalize wk.drew=wD at*
      refine tg (i:=0) (.int .i64 ((q:Int)+1)) rfl (⟨hh1,hh2⟩) ?_
      refine tg (i:=1) (.bool true) rfl (⟨hh1,hh2⟩) ?_
      refine tg (i:=2) (.bool true) rfl (⟨hh1,hh2⟩) ?_
      refine tg (i:=3) (.int .i64 lang) rfl (⟨hh1,hh2⟩) ?_
      refine tg (i:=4) (.slice (some ⟨gA,oA,none⟩) j cA) rfl (⟨hh1,hh2⟩) ?_
      refine tg (i:=5) (.int .i64 ((q:Int)+1)) rfl (⟨hh1,hh2⟩) ?_
      refine tg (i:=9) (.slice (some ⟨g,off,none⟩) n cap) rfl (⟨hh1,hh2⟩) ?_
      refine tg (i:=10) (.int .i64 (j:Int)) rfl (⟨hh1,hh2⟩) ?_
      refine tk (i:=6) (v:=.int .i64 (q:Int)) rfl (Or.inl ⟨by rfl,fun W _=>by go_simp;first | go_num |(rw [IntWalk.i64_in _ (by omega)])⟩) (⟨hh1,hh2⟩) ?_
      refine tg (i:=11) (.pointer (some ⟨g,off+j,none⟩)) rfl (⟨hh1,hh2⟩) ?_
      refine tg (i:=7) (.pointer (some ⟨gA,oA+q,none⟩)) rfl (⟨hh1,hh2⟩) ?_
      refine tk (i:=12) (v:=.slice pu lx ku) rfl (Or.inl ⟨by rfl,fun W' h=>by have c0:=h.1;go_simp⟩) (⟨hh1,hh2⟩) ?_
      refine tk (i:=8) (v:=.slice pq ly kq) rfl (Or.inl ⟨by rfl,fun W' h=>by have c0:=h.2;go_simp⟩) (⟨hh1,hh2⟩) ?_
      refine tr 13 rfl (fun K hK=>?_)
      try rw [if_pos (by rfl)]
      go_simp
      refine (HCL.out _ bq).mono ?_
      rintro e8 w8 ⟨rfl,hb8⟩
      replace hh1:=zav hh1 hb8
      replace hh2:=zav hh2 hb8
      replace hBD:=zab hBD hb8 hBD.size
      clear bq hb8
      refine hK.out _ _ (⟨hh1,hh2⟩) (fun _=>?_)
      clear hK K
      try simp only [putS]
      refine tg (i:=14) (.bool true) rfl (⟨hh1,hh2⟩) ?_
      refine tg (i:=15) (.bool true) rfl (⟨hh1,hh2⟩) ?_
      refine wpAnyH_done (by kernel_rfl) ?_ _
      have HB9:=Lib.hid hBD
      clear hh1 hh2 hBD
      go_wp2_with fail
      go_roundg q
      case measure=>omega
      case rel=>exact ⟨q,⟨Nat.le_refl _,Nat.le_refl _⟩,by omega,by go_num,HP2,HB9⟩
     ·have HK:Hid (posR lang x out j=q+1):=Lib.hid (by
       rw [← HP.out]
       unfold posR
       rw [HY.out,← HZ.out,if_neg hzz])
      have dz:decide (0 < z)=false:=decide_eq_false hzz
      go_upto_region 6 with fail
      refine wp_region_held_drew (S:=fun W'=>W'.cell? ⟨g,off+j,none⟩=some (.slice pu lx ku)∧W'.cell? ⟨gA,oA+q,none⟩=some (.slice pq ly kq)) (by kernel_rfl) ⟨hc0,hcq⟩ (fun hh=>?_)
      have hh1:=hh.1
      have hh2:=hh.2
      have bq:Below wk.heap.size wk wk.drew:=(Below.refl _ _).drew
      have hBD:=zab HB2.out bq HB2.out.size
      clear hh hc0 hcq
      generalize wk.drew=wD at*
      refine tg (i:=0) (.int .i64 ((q:Int)+1)) rfl (⟨hh1,hh2⟩) ?_
      refine tg (i:=1) (.bool true) rfl (⟨hh1,hh2⟩) ?_
      refine tg (i:=2) (.bool true) rfl (⟨hh1,hh2⟩) ?_
      refine tg (i:=3) (.int .i64 lang) rfl (⟨hh1,hh2⟩) ?_
      refine tg (i:=4) (.slice (some ⟨gA,oA,none⟩) j cA) rfl (⟨hh1,hh2⟩) ?_
      refine tg (i:=5) (.int .i64 ((q:Int)+1)) rfl (⟨hh1,hh2⟩) ?_
      refine tg (i:=9) (.slice (some ⟨g,off,none⟩) n cap) rfl (⟨hh1,hh2⟩) ?_
      refine tg (i:=10) (.int .i64 (j:Int)) rfl (⟨hh1,hh2⟩) ?_
      refine tk (i:=6) (v:=.int .i64 (q:Int)) rfl (Or.inl ⟨by rfl,fun W _=>by go_simp;first | go_num |(rw [IntWalk.i64_in _ (by omega)])⟩) (⟨hh1,hh2⟩) ?_
      refine tg (i:=11) (.pointer (some ⟨g,off+j,none⟩)) rfl (⟨hh1,hh2⟩) ?_
      refine tg (i:=7) (.pointer (some ⟨gA,oA+q,none⟩)) rfl (⟨hh1,hh2⟩) ?_
      refine tk (i:=12) (v:=.slice pu lx ku) rfl (Or.inl ⟨by rfl,fun W' h=>by have c0:=h.1;go_simp⟩) (⟨hh1,hh2⟩) ?_
      refine tk (i:=8) (v:=.slice pq ly kq) rfl (Or.inl ⟨by rfl,fun W' h=>by have c0:=h.2;go_simp⟩) (⟨hh1,hh2⟩) ?_
      refine tr 13 rfl (fun K hK=>?_)
      try rw [if_pos (by rfl)]
      go_simp
      refine (HCL.out _ bq).mono ?_
      rintro e8 w8 ⟨rfl,hb8⟩
      replace hh1:=zav hh1 hb8
      replace hh2:=zav hh2 hb8
      replace hBD:=zab hBD hb8 hBD.size
      clear bq hb8
      refine hK.out _ _ (⟨hh1,hh2⟩) (fun _=>?_)
      clear hK K
      try simp only [putS]
      refine tg (i:=14) (.bool false) rfl (⟨hh1,hh2⟩) ?_
      refine tg (i:=15) (.bool false) rfl (⟨hh1,hh2⟩) ?_
      refine wpAnyH_done (by kernel_rfl) ?_ _
      have HBD:=Lib.hid hBD
      clear hBD
      generalize w8=wD at*
      have hc0:=hh1
      clear hh1
      clear hh2
      have hcap0:j≤cA:=HO.out.2.1 _ _ _ rfl
      by_cases hcq:cA=q+1
      ·subst hcq
       obtain rfl:j=q+1:=by omega
       have bE:Below wr.heap.size wr wD:=HBD.out
       have hO:zag rowE wD (Old wD) (.slice (some ⟨gA,oA,none⟩) (q+1) (q+1)) out∧capK (.slice (some ⟨gA,oA,none⟩) (q+1) (q+1)):=⟨HO.out.1.stays (zae bE),HO.out.2⟩
       have hKj:(q+1)≤out.length:=by have:=HLO.out;omega
       have h1:=hO.1.take (q+1) hKj
       have k1:=zlf hO.2 (q+1) (by omega)
       have hdr:out.drop (q+1)=[]:=List.drop_eq_nil_of_le (by have:=HLO.out;omega)
       have h3:zag rowE wD (Old wD) (.slice (some ⟨gA,oA,none⟩) 0 0) (out.drop (q+1)):=⟨(some ⟨gA,oA,none⟩),0,by rw [hdr];rfl,fun h=>absurd hdr h⟩
       have k3:capK (.slice (some ⟨gA,oA,none⟩) 0 0):=⟨fun p m c e=>by cases e;exact Nat.le_refl _,fun m c e=>by cases e⟩
       obtain ⟨ys,hy1,hy2,hy3⟩:=h1.news
       replace hy1:ys.length=(q+1)*1:=by rw [hy1,List.length_take];show min _ _*1=_;have:=HLO.out;omega
       have hyo:=hy2.one
       have hcA:((q+1):Nat)≤(q+1):=hO.2.1 _ _ _ rfl
       have hcA2:(((q+1):Nat):Int)≤((q+1):Nat):=by omega
       have hcK:((q+1):Nat)≤(q+1):=by omega
       have hcKi:(((q+1):Nat):Int)≤((q+1):Nat):=by omega
       have hcKj:(((q+1):Nat):Int)≤((q+1):Nat):=by omega
       have HN1:=Lib.hid (fun e=>zdq k1 e)
       have HN3:=Lib.hid (fun e=>zdq k3 e)
       have HX:=Lib.hid (And.intro hy2 (And.intro h3 hO.1))
       have hj60:((q+1):Nat)≤2097152:=by omega
       clear h1 h3 k1 k3 hy2 hO
       go_wp2_with (first
        |(at_builtin;refine za6 rfl _ _ 23 rfl wD.heap.size 43 i0 (.slice none 0 0) 1 24 Tryz.underlying23 hi hz0 hz1 hz2 rfl (by decide) (.slice none 0 0) 0 [] rfl (World.ownsRow_nil _ _ _ _) (some ⟨gA,oA,none⟩) ((q+1)) (q+1) ys rfl hy1 HN1.out hy3 hyo (by unfold maxLen;omega) (by omega) (Nat.le_refl _) ?_))
       intro v2 w2 ho2 hg2 hloc2
       have hlk:(out.take ((q+1))).length=(q+1):=by rw [List.length_take];have:=HLO.out;omega
       have ho2b:w2.ownsRow wD.heap.size 43 1 v2 (out.take ((q+1))).length ys:=zbr (by simpa using ho2) hlk.symm
       have acc1:AccB rowE 43 (Old wD) wD (out.take ((q+1))) v2 w2:=by
        have:=AccB.more (bs:=[]) (fun _ h=>h) (World.ownsRow_nil _ _ _ _) RowE.nil (Below.refl _ _) HX.out.1 (by rw [List.length_nil,Nat.zero_add];exact ho2b) hg2
        exact this
       have hc2:=zav hc0 acc1.bel
       have ho2c:w2.ownsRow wD.heap.size 43 1 v2 ((q+1)) ys:=zbr ho2b hlk
       have hs2:=acc1.bel.size
       have HA1:=Lib.hid acc1
       have HL2:=Lib.hid hlk
       have H2B:=Lib.hid ho2b
       clear acc1 ho2 hg2 hloc2 hy3 hyo hc0 hlk ho2b
       go_upto_region 11 with (first
        |(at_builtin;refine wpList_append_own_at _ rfl _ _ 23 rfl wD.heap.size 43 i0 (.slice none 0 0) 1 24 Tryz.underlying23 hi hz0 hz1 hz2 rfl (by decide) _ _ _ rfl (ho2c.alloc _) ⟨w2.heap.size,0,none⟩ 1 1 [.slice pu lx ku] rfl rfl (zb1 _ _ _) (by simp [Value.oneCell']) ?_ ?_ ?_ ?_))
       all_goals (try (first |(unfold maxLen;omega) | omega |(simp;omega)))
       intro v3 w3 ho3 hg3 _ hloc3
       have acc2:AccB rowE 43 (Old wD) wD (out.take ((q+1))++[x]) v3 w3:=by
        obtain ⟨⟨xs,_,hrow⟩,hbel⟩:=HA1.out
        have hrow2:RowE rowE w2 (Old wD) ys (out.take ((q+1))):=HX.out.1.stays (fun g hg=>⟨hg,hbel.block g hg⟩)
        exact AccB.next (fun _ h=>h) H2B.out hrow2 hbel (Below.refl _ _) (Below.refl _ _) (rowE.stays (P':=Old wD) (fun g hg=>⟨Nat.lt_of_lt_of_le hg HBD.out.size,(hbel.block g (Nat.lt_of_lt_of_le hg HBD.out.size)).trans (HBD.out.block g hg)⟩) HD.out) (show w3.ownsRow wD.heap.size 43 1 v3 ((out.take ((q+1))).length+1) (ys++[.slice pu lx ku]) from zbr (by simpa using ho3) (by rw [HL2.out])) hg3 (by simpa using hloc3)
       have hlk2:(out.take ((q+1))++[x]).length=(q+1)+1:=by rw [List.length_append,HL2.out];rfl
       obtain ⟨⟨xs3,ho3b,hr3⟩,hb3⟩:=id acc2
       replace ho3b:w3.ownsRow wD.heap.size 43 1 v3 ((q+1)+1) xs3:=zbr ho3b hlk2
       obtain ⟨p3,c3,rfl⟩:=zau ho3b
       obtain ⟨zs,hz1',hz2',hz3'⟩:=(HX.out.2.1.stays (P':=Old wD) (fun g hg=>⟨hg,hb3.block g hg⟩)).news
       have hld:(out.drop ((q+1))).length=0:=by rw [List.length_drop];have:=HLO.out;omega
       replace hz1':zs.length=0*1:=by rw [hz1',hld];rfl
       have hzo:=hz2'.one
       have hs3:=hb3.size
       have HA2:=Lib.hid (And.intro acc2 (And.intro hz2' (And.intro hr3 (And.intro hb3 (And.intro hlk2 hld)))))
       clear acc2 ho3 hg3 hloc3 hr3 hb3 hlk2 hld hz2' hc2 ho2c HA1
       go_upto_region 4 with (first
        |(at_builtin;go_loud (refine za6 rfl _ _ 23 rfl wD.heap.size 43 i0 (.slice none 0 0) 1 24 Tryz.underlying23 hi hz0 hz1 hz2 rfl (by decide) _ ((q+1)+1) xs3 rfl ho3b (some ⟨gA,oA,none⟩) 0 0 zs rfl hz1' (fun e=>by cases e) hz3' hzo (by unfold maxLen;omega) (by omega) hs3 ?_)))
       intro v4 w4 ho4 hg4 hloc4
       obtain ⟨acc2,hz2',hr3,hb3,hlk2,hld⟩:=HA2.out
       have ho4b:w4.ownsRow wD.heap.size 43 1 v4 ((out.take ((q+1))++[x]).length+(out.drop ((q+1))).length) (xs3++zs):=zbr ho4 (by rw [hlk2,hld])
       have acc3:AccB rowE 43 (Old wD) wD ((out.take ((q+1))++[x])++out.drop ((q+1))) v4 w4:=AccB.more (fun _ h=>h) (zbr ho3b hlk2.symm) hr3 hb3 hz2' ho4b hg4
       have hfin:(out.take ((q+1))++[x])++out.drop ((q+1))=zd7 lang (l.take ((q+1)+1)):=by
        rw [HNX.out]
        unfold insR
        have e:posR lang x out out.length=(q+1):=by rw [HLO.out];exact HK.out
        rw [e]
        simp
       rw [hfin] at acc3
       have hA4:=zio (fun _ h=>h) acc3
       have ho5:=zbr ho4b (m:=(q+1)+1) (by rw [hlk2,hld] <;> omega)
       obtain ⟨p4,c4,rfl⟩:=zau ho5
       have HO4:=Lib.hid hA4
       have HB4:=Lib.hid (zab (zab HB.out HBD.out HB.out.size) acc3.bel (zab HB.out HBD.out HB.out.size).size)
       clear acc2 hz2' hr3 hb3 hlk2 hld ho4 ho4b acc3 hfin hA4 ho5 hg4 hloc4 HA2 ho3b hz3' hzo
       go_wp2_with fail
       go_roundg (n - (q+1) - 1)
       case measure=>omega
       case rel=>exact ⟨(q+1)+1,c4,p4,by omega,by go_num,rfl,HO4,HB4⟩
      ·have bE:Below wr.heap.size wr wD:=HBD.out
       have hO:zag rowE wD (Old wD) (.slice (some ⟨gA,oA,none⟩) j cA) out∧capK (.slice (some ⟨gA,oA,none⟩) j cA):=⟨HO.out.1.stays (zae bE),HO.out.2⟩
       have hKj:(q+1)≤out.length:=by have:=HLO.out;omega
       have h1:=hO.1.take (q+1) hKj
       have k1:=zlf hO.2 (q+1) (by omega)
       have er:zok (some ⟨gA,oA,none⟩) cA (q+1)=some ⟨gA,oA+(q+1),none⟩:=by
        unfold zok
        rw [if_neg hcq,Option.map_some,zik]
       obtain ⟨h3,k3⟩:=hO.1.rest hO.2 (q+1) (j - (q+1)) hKj (by have:=HLO.out;omega)
       rw [er] at h3 k3
       clear er
       obtain ⟨ys,hy1,hy2,hy3⟩:=h1.news
       replace hy1:ys.length=(q+1)*1:=by rw [hy1,List.length_take];show min _ _*1=_;have:=HLO.out;omega
       have hyo:=hy2.one
       have hcA:(j:Nat)≤cA:=hO.2.1 _ _ _ rfl
       have hcA2:((j:Nat):Int)≤(cA:Nat):=by omega
       have hcK:((q+1):Nat)≤cA:=by omega
       have hcKi:(((q+1):Nat):Int)≤(cA:Nat):=by omega
       have hcKj:(((q+1):Nat):Int)≤(j:Nat):=by omega
       have HN1:=Lib.hid (fun e=>zdq k1 e)
       have HN3:=Lib.hid (fun e=>zdq k3 e)
       have HX:=Lib.hid (And.intro hy2 (And.intro h3 hO.1))
       have hj60:(j:Nat)≤2097152:=by omega
       clear h1 h3 k1 k3 hy2 hO
       go_wp2_with (first
        |(at_builtin;refine za6 rfl _ _ 23 rfl wD.heap.size 43 i0 (.slice none 0 0) 1 24 Tryz.underlying23 hi hz0 hz1 hz2 rfl (by decide) (.slice none 0 0) 0 [] rfl (World.ownsRow_nil _ _ _ _) (some ⟨gA,oA,none⟩) ((q+1)) cA ys rfl hy1 HN1.out hy3 hyo (by unfold maxLen;omega) (by omega) (Nat.le_refl _) ?_))
       intro v2 w2 ho2 hg2 hloc2
       have hlk:(out.take ((q+1))).length=(q+1):=by rw [List.length_take];have:=HLO.out;omega
       have ho2b:w2.ownsRow wD.heap.size 43 1 v2 (out.take ((q+1))).length ys:=zbr (by simpa using ho2) hlk.symm
       have acc1:AccB rowE 43 (Old wD) wD (out.take ((q+1))) v2 w2:=by
        have:=AccB.more (bs:=[]) (fun _ h=>h) (World.ownsRow_nil _ _ _ _) RowE.nil (Below.refl _ _) HX.out.1 (by rw [List.length_nil,Nat.zero_add];exact ho2b) hg2
        exact this
       have hc2:=zav hc0 acc1.bel
       have ho2c:w2.ownsRow wD.heap.size 43 1 v2 ((q+1)) ys:=zbr ho2b hlk
       have hs2:=acc1.bel.size
       have HA1:=Lib.hid acc1
       have HL2:=Lib.hid hlk
       have H2B:=Lib.hid ho2b
       clear acc1 ho2 hg2 hloc2 hy3 hyo hc0 hlk ho2b
       go_upto_region 11 with (first
        |(at_builtin;refine wpList_append_own_at _ rfl _ _ 23 rfl wD.heap.size 43 i0 (.slice none 0 0) 1 24 Tryz.underlying23 hi hz0 hz1 hz2 rfl (by decide) _ _ _ rfl (ho2c.alloc _) ⟨w2.heap.size,0,none⟩ 1 1 [.slice pu lx ku] rfl rfl (zb1 _ _ _) (by simp [Value.oneCell']) ?_ ?_ ?_ ?_))
       all_goals (try (first |(unfold maxLen;omega) | omega |(simp;omega)))
       intro v3 w3 ho3 hg3 _ hloc3
       have acc2:AccB rowE 43 (Old wD) wD (out.take ((q+1))++[x]) v3 w3:=by
        obtain ⟨⟨xs,_,hrow⟩,hbel⟩:=HA1.out
        have hrow2:RowE rowE w2 (Old wD) ys (out.take ((q+1))):=HX.out.1.stays (fun g hg=>⟨hg,hbel.block g hg⟩)
        exact AccB.next (fun _ h=>h) H2B.out hrow2 hbel (Below.refl _ _) (Below.refl _ _) (rowE.stays (P':=Old wD) (fun g hg=>⟨Nat.lt_of_lt_of_le hg HBD.out.size,(hbel.block g (Nat.lt_of_lt_of_le hg HBD.out.size)).trans (HBD.out.block g hg)⟩) HD.out) (show w3.ownsRow wD.heap.size 43 1 v3 ((out.take ((q+1))).length+1) (ys++[.slice pu lx ku]) from zbr (by simpa using ho3) (by rw [HL2.out])) hg3 (by simpa using hloc3)
       have hlk2:(out.take ((q+1))++[x]).length=(q+1)+1:=by rw [List.length_append,HL2.out];rfl
       obtain ⟨⟨xs3,ho3b,hr3⟩,hb3⟩:=id acc2
       replace ho3b:w3.ownsRow wD.heap.size 43 1 v3 ((q+1)+1) xs3:=zbr ho3b hlk2
       obtain ⟨p3,c3,rfl⟩:=zau ho3b
       obtain ⟨zs,hz1',hz2',hz3'⟩:=(HX.out.2.1.stays (P':=Old wD) (fun g hg=>⟨hg,hb3.block g hg⟩)).news
       have hld:(out.drop ((q+1))).length=(j - ((q+1))):=by rw [List.length_drop];have:=HLO.out;omega
       replace hz1':zs.length=(j - ((q+1)))*1:=by rw [hz1',hld];rfl
       have hzo:=hz2'.one
       have hs3:=hb3.size
       have HA2:=Lib.hid (And.intro acc2 (And.intro hz2' (And.intro hr3 (And.intro hb3 (And.intro hlk2 hld)))))
       clear acc2 ho3 hg3 hloc3 hr3 hb3 hlk2 hld hz2' hc2 ho2c HA1
       go_upto_region 4 with (first
        |(at_builtin;go_loud (refine za6 rfl _ _ 23 rfl wD.heap.size 43 i0 (.slice none 0 0) 1 24 Tryz.underlying23 hi hz0 hz1 hz2 rfl (by decide) _ ((q+1)+1) xs3 rfl ho3b (some ⟨gA,oA+(q+1),none⟩) (j - ((q+1))) (cA - ((q+1))) zs rfl hz1' (fun e=>by cases e) hz3' hzo (by unfold maxLen;omega) (by omega) hs3 ?_)))
       intro v4 w4 ho4 hg4 hloc4
       obtain ⟨acc2,hz2',hr3,hb3,hlk2,hld⟩:=HA2.out
       have ho4b:w4.ownsRow wD.heap.size 43 1 v4 ((out.take ((q+1))++[x]).length+(out.drop ((q+1))).length) (xs3++zs):=zbr ho4 (by rw [hlk2,hld])
       have acc3:AccB rowE 43 (Old wD) wD ((out.take ((q+1))++[x])++out.drop ((q+1))) v4 w4:=AccB.more (fun _ h=>h) (zbr ho3b hlk2.symm) hr3 hb3 hz2' ho4b hg4
       have hfin:(out.take ((q+1))++[x])++out.drop ((q+1))=zd7 lang (l.take (j+1)):=by
        rw [HNX.out]
        unfold insR
        have e:posR lang x out out.length=(q+1):=by rw [HLO.out];exact HK.out
        rw [e]
        simp
       rw [hfin] at acc3
       have hA4:=zio (fun _ h=>h) acc3
       have ho5:=zbr ho4b (m:=j+1) (by rw [hlk2,hld] <;> omega)
       obtain ⟨p4,c4,rfl⟩:=zau ho5
       have HO4:=Lib.hid hA4
       have HB4:=Lib.hid (zab (zab HB.out HBD.out HB.out.size) acc3.bel (zab HB.out HBD.out HB.out.size).size)
       clear acc2 hz2' hr3 hb3 hlk2 hld ho4 ho4b acc3 hfin hA4 ho5 hg4 hloc4 HA2 ho3b hz3' hzo
       go_wp2_with fail
       go_roundg (n - j - 1)
       case measure=>omega
       case rel=>exact ⟨j+1,c4,p4,by omega,by go_num,rfl,HO4,HB4⟩
  ·have HE:Hid (zd7 lang (l.take j)=zd7 lang l):=Lib.hid (by rw [List.take_of_length_le (by have:=HL.out;omega)])
   rw [HE.out] at HO
   go_wp2_with fail
   go_ret
   exact ⟨_,rfl,HO.out.1,HO.out.2,HB.out⟩
theorem zsq {w:World} {P:Nat→Prop} {R:Value} {l:List (List Val)} (h:zag rowE w P R l):∀ r∈l,zct r:=fun r hr=>by
 obtain ⟨c,hc⟩:=h.each r hr
 obtain ⟨u,rfl,hs,_⟩:=hc
 exact Held.fine r (zbb.held r (zbs r hs))
theorem z0o {a b:TabL} (h:tabP a=false):zd9 a b=false:=by unfold zd9;rw [h];rfl
theorem z0p {a b:TabL} (h:tabP b=false):zd9 a b=false:=by unfold zd9;rw [h,Bool.and_false];rfl
theorem z0q {a b:TabL} (h:¬ a.vars=b.vars):zd9 a b=false:=by unfold zd9;rw [decide_eq_false h,Bool.and_false];rfl
theorem z0r {a b:TabL} (h:¬ a.rows.length=b.rows.length):zd9 a b=false:=by
 unfold zd9
 rw [decide_eq_false (p:=(a.rows.map zar).Perm (b.rows.map zar)) (fun p=>h (by simpa using p.length_eq)),Bool.and_false]
theorem zpx (a b:TabL) (V R V2 R2:Value) (W0:World) (ha:tabE.rel W0 (Old W0) [V,R] a) (hb:tabE.rel W0 (Old W0) [V2,R2] b):Calls Tryz.prog 36 #[.agg #[V,R],.agg #[V2,R2]] W0 fun e w'=>e=.returned (.bool (zd9 a b))∧Below W0.heap.size W0 w':=by
 have TA0:=zdr.of ha
 have TB0:=zdr.of hb
 have fa:=zsq TA0.rows
 have fb:=zsq TB0.rows
 obtain ⟨p1,c1,p2,c2,e1,e2⟩:=TA0.slices
 subst e1 e2
 obtain ⟨p3,c3,p4,c4,e1,e2⟩:=TB0.slices
 subst e1 e2
 obtain ⟨_,_,eA,_,_,_,_,hlva,hlra⟩:=ha
 cases eA
 obtain ⟨_,_,eB,_,_,_,_,hlvb,hlrb⟩:=hb
 cases eB
 obtain ⟨W1,hW1⟩:∃ W1,W1=(W0.alloc (.cells #[.slice p1 a.vars.length c1,.slice p2 a.rows.length c2] 25)).alloc (.cells #[.slice p3 b.vars.length c3,.slice p4 b.rows.length c4] 25):=⟨_,rfl⟩
 have b1:Below W0.heap.size W0 W1:=by rw [hW1];exact zdb _ _ _
 obtain ⟨g2,hg2⟩:∃ g2,g2=W0.heap.size:=⟨_,rfl⟩
 obtain ⟨g3,hg3⟩:∃ g3,g3=W0.heap.size+1:=⟨_,rfl⟩
 have u2:W1.heap[g2]?=some (.cells #[.slice p1 a.vars.length c1,.slice p2 a.rows.length c2] 25):=by rw [hW1,hg2];exact zap _ (zaf _ _ rfl)
 have u3:W1.heap[g3]?=some (.cells #[.slice p3 b.vars.length c3,.slice p4 b.rows.length c4] 25):=by rw [hW1,hg3];exact zaf _ _ (by simp)
 have HMA:=Lib.hid (zk9 a _ _ W1 (TA0.below b1).here)
 have HMB:Hid (∀ w',Below W1.heap.size W1 w'→Calls Tryz.prog 13 #[.agg #[.slice p3 b.vars.length c3,.slice p4 b.rows.length c4]] w' fun e w2=>e=.returned (.bool (tabP b))∧Below w'.heap.size w' w2):=Lib.hid fun w' k=>zk9 b _ _ w' (TB0.below (zab b1 k b1.size)).here
 have HET:Hid (∀ w',Below W1.heap.size W1 w'→Calls Tryz.prog 50 #[.slice p1 a.vars.length c1,.slice p3 b.vars.length c3] w' fun e w2=>e=.returned (.bool (decide (a.vars=b.vars)))∧Below w'.heap.size w' w2):=Lib.hid fun w' k=>z2y _ _ _ _ (Old w') (Old w') w' (TA0.below (zab b1 k b1.size)).vars (TB0.below (zab b1 k b1.size)).vars (fun _ h=>h) (fun _ h=>h) hlva hlvb
 have HSA:Hid (∀ w',Below W1.heap.size W1 w'→Calls Tryz.prog 59 #[.int .i64 0,.slice p2 a.rows.length c2] w' (zq3 w' (zd7 0 a.rows))):=Lib.hid fun w' k=>zsp 0 _ _ w' (TA0.below (zab b1 k b1.size)).rows hlra
 have HSB:Hid (∀ w',Below W1.heap.size W1 w'→Calls Tryz.prog 59 #[.int .i64 0,.slice p4 b.rows.length c4] w' (zq3 w' (zd7 0 b.rows))):=Lib.hid fun w' k=>zsp 0 _ _ w' (TB0.below (zab b1 k b1.size)).rows hlrb
 have HW:=Lib.hid hW1
 have HB1:=Lib.hid b1
 have HG:=Lib.hid (And.intro hg2 hg3)
 have HSR:Hid (tabP a=true→tabP b=true→a.vars=b.vars→zek (zd7 0 a.rows) (zd7 0 b.rows)=zd9 a b):=Lib.hid fun h1 h2 h3=>z0n h1 h2 h3 fa fb
 have hsl:(zd7 0 a.rows).length≤2097152:=by rw [zso];exact hlra
 obtain ⟨r,hr⟩:∃ r,r=zd9 a b:=⟨_,rfl⟩
 have HN1:Hid (tabP a=false→r=false):=Lib.hid fun h=>by rw [hr];exact z0o h
 have HN2:Hid (tabP b=false→r=false):=Lib.hid fun h=>by rw [hr];exact z0p h
 have HN3:Hid (¬ a.vars=b.vars→r=false):=Lib.hid fun h=>by rw [hr];exact z0q h
 have HN4:Hid (¬ a.rows.length=b.rows.length→r=false):=Lib.hid fun h=>by rw [hr];exact z0r h
 rw [← hr] at HSR ⊢
 have bq:=Below.refl W1.heap.size W1
 have r3:W1.rangeAt g3 0 [.slice p3 b.vars.length c3,.slice p4 b.rows.length c4]:=zcl u3 [] [] rfl
 clear TA0 TB0 fa fb hW1 b1 hg2 hg3 hr
 obtain ⟨ma,hma⟩:∃ ma,ma=tabP a:=⟨_,rfl⟩
 obtain ⟨mb,hmb⟩:∃ mb,mb=tabP b:=⟨_,rfl⟩
 rw [← hma] at HMA HN1 HSR
 rw [← hmb] at HMB HN2 HSR
 clear hma hmb
 cases ma with
 | false=>
   obtain rfl:r=false:=HN1.out rfl
   go_enter Tryz.func36,Tryz.ntmps36
   go_upto_region 1 with fail
   rw [← HW.out,← HG.out.2,← HG.out.1]
   go_wp2_with (first
    |((with_reducible refine zai (.tmp 2) g2 25 25 [.slice p1 a.vars.length c1,.slice p2 a.rows.length c2] 2 _ u2 rfl Tryz.underlying25 rfl zah ?_ ?_ ?_ ?_);rfl;rfl;rfl)
    |(go_at_call 13;(with_reducible refine HMA.out.mono ?_);rintro e w1 ⟨rfl,hb1⟩;replace u2:=(hb1.block _ (zaa u2)).trans u2;replace u3:=(hb1.block _ (zaa u3)).trans u3;replace r3:=zbc r3 hb1;replace bq:=zab bq hb1 bq.size;clear hb1)
    |((with_reducible refine zca ?_ (.tmp 3) g3 0 25 [.slice p3 b.vars.length c3,.slice p4 b.rows.length c4] 2 _ r3 rfl Tryz.underlying25 rfl zah ?_ ?_ ?_);rfl;rfl;rfl)
    |(go_at_call 13;(with_reducible refine (HMB.out _ bq).mono ?_);rintro e w2 ⟨rfl,hb2⟩;replace u2:=(hb2.block _ (zaa u2)).trans u2;replace u3:=(hb2.block _ (zaa u3)).trans u3;replace bq:=zab bq hb2 bq.size;clear hb2 r3;have d0:=zad u2 0 rfl;have d1:=zad u3 0 rfl)
    |(go_at_call 50;(with_reducible refine (HET.out _ bq).mono ?_);rintro e w3 ⟨rfl,hb3⟩;replace u2:=(hb3.block _ (zaa u2)).trans u2;replace u3:=(hb3.block _ (zaa u3)).trans u3;replace bq:=zab bq hb3 bq.size;clear hb3;have d2:=zad u2 1 rfl;have d3:=zad u3 1 rfl))
   go_ret
   exact ⟨rfl,zab HB1.out bq HB1.out.size⟩
 | true=>
   cases mb with
   | false=>
     obtain rfl:r=false:=HN2.out rfl
     go_enter Tryz.func36,Tryz.ntmps36
     go_upto_region 1 with fail
     rw [← HW.out,← HG.out.2,← HG.out.1]
     go_wp2_with (first
      |((with_reducible refine zai (.tmp 2) g2 25 25 [.slice p1 a.vars.length c1,.slice p2 a.rows.length c2] 2 _ u2 rfl Tryz.underlying25 rfl zah ?_ ?_ ?_ ?_);rfl;rfl;rfl)
      |(go_at_call 13;(with_reducible refine HMA.out.mono ?_);rintro e w1 ⟨rfl,hb1⟩;replace u2:=(hb1.block _ (zaa u2)).trans u2;replace u3:=(hb1.block _ (zaa u3)).trans u3;replace r3:=zbc r3 hb1;replace bq:=zab bq hb1 bq.size;clear hb1)
      |((with_reducible refine zca ?_ (.tmp 3) g3 0 25 [.slice p3 b.vars.length c3,.slice p4 b.rows.length c4] 2 _ r3 rfl Tryz.underlying25 rfl zah ?_ ?_ ?_);rfl;rfl;rfl)
      |(go_at_call 13;(with_reducible refine (HMB.out _ bq).mono ?_);rintro e w2 ⟨rfl,hb2⟩;replace u2:=(hb2.block _ (zaa u2)).trans u2;replace u3:=(hb2.block _ (zaa u3)).trans u3;replace bq:=zab bq hb2 bq.size;clear hb2 r3;have d0:=zad u2 0 rfl;have d1:=zad u3 0 rfl)
      |(go_at_call 50;(with_reducible refine (HET.out _ bq).mono ?_);rintro e w3 ⟨rfl,hb3⟩;replace u2:=(hb3.block _ (zaa u2)).trans u2;replace u3:=(hb3.block _ (zaa u3)).trans u3;replace bq:=zab bq hb3 bq.size;clear hb3;have d2:=zad u2 1 rfl;have d3:=zad u3 1 rfl))
     go_ret
     exact ⟨rfl,zab HB1.out bq HB1.out.size⟩
   | true=>
     by_cases hv:a.vars=b.vars
     ·rw [decide_eq_true hv] at HET
      by_cases hl:a.rows.length=b.rows.length
      ·have HSR2:=Lib.hid (HSR.out rfl rfl hv)
       have hne:((a.rows.length:Int) != b.rows.length)=false:=by simp [hl]
       clear HN1 HN2 HN3 HN4 HSR hv hl
       go_enter Tryz.func36,Tryz.ntmps36
       go_upto_region 1 with fail
       rw [← HW.out,← HG.out.2,← HG.out.1]
       go_upto_region 3 with (first
        |((with_reducible refine zai (.tmp 2) g2 25 25 [.slice p1 a.vars.length c1,.slice p2 a.rows.length c2] 2 _ u2 rfl Tryz.underlying25 rfl zah ?_ ?_ ?_ ?_);rfl;rfl;rfl)
        |(go_at_call 13;(with_reducible refine HMA.out.mono ?_);rintro e w1 ⟨rfl,hb1⟩;replace u2:=(hb1.block _ (zaa u2)).trans u2;replace u3:=(hb1.block _ (zaa u3)).trans u3;replace r3:=zbc r3 hb1;replace bq:=zab bq hb1 bq.size;clear hb1)
        |((with_reducible refine zca ?_ (.tmp 3) g3 0 25 [.slice p3 b.vars.length c3,.slice p4 b.rows.length c4] 2 _ r3 rfl Tryz.underlying25 rfl zah ?_ ?_ ?_);rfl;rfl;rfl)
        |(go_at_call 13;(with_reducible refine (HMB.out _ bq).mono ?_);rintro e w2 ⟨rfl,hb2⟩;replace u2:=(hb2.block _ (zaa u2)).trans u2;replace u3:=(hb2.block _ (zaa u3)).trans u3;replace bq:=zab bq hb2 bq.size;clear hb2 r3;have d0:=zad u2 0 rfl;have d1:=zad u3 0 rfl)
        |(go_at_call 50;(with_reducible refine (HET.out _ bq).mono ?_);rintro e w3 ⟨rfl,hb3⟩;replace u2:=(hb3.block _ (zaa u2)).trans u2;replace u3:=(hb3.block _ (zaa u3)).trans u3;replace bq:=zab bq hb3 bq.size;clear hb3;have d2:=zad u2 1 rfl;have d3:=zad u3 1 rfl))
       clear d0 d1 d2 d3
       refine wp_region_held_drew (S:=fun W'=>W'.heap[g2]?=some (.cells #[.slice p1 a.vars.length c1,.slice p2 a.rows.length c2] 25)∧W'.heap[g3]?=some (.cells #[.slice p3 b.vars.length c3,.slice p4 b.rows.length c4] 25)) (by kernel_rfl) ⟨u2,u3⟩ (fun hh=>?_)
       have hh1:=hh.1
       have hh2:=hh.2
       have bd:Below w3.heap.size w3 w3.drew:=(Below.refl _ _).drew
       replace bq:=zab bq bd bq.size
       clear hh u2 u3 bd
       generalize w3.drew=wD at*
       refine tg (i:=0) (.pointer (some ⟨g2,1,none⟩)) rfl (⟨hh1,hh2⟩) ?_
       refine tg (i:=3) (.pointer (some ⟨g3,1,none⟩)) rfl (⟨hh1,hh2⟩) ?_
       refine tk (i:=1) (v:=.slice p2 a.rows.length c2) rfl (Or.inl ⟨by rfl,fun W' h=>by have c0:=zad h.1 1 rfl;go_simp⟩) (⟨hh1,hh2⟩) ?_
       refine tk (i:=4) (v:=.slice p4 b.rows.length c4) rfl (Or.inl ⟨by rfl,fun W' h=>by have c0:=zad h.2 1 rfl;go_simp⟩) (⟨hh1,hh2⟩) ?_
       refine tr 2 rfl (fun K hK=>?_)
       try rw [if_pos (by rfl)]
       go_simp
       refine (HSA.out _ bq).mono ?_
       rintro e2 w4 ⟨VS,rfl,hs1,_,hb4⟩
       replace hh1:=(hb4.block _ (zaa hh1)).trans hh1
       replace hh2:=(hb4.block _ (zaa hh2)).trans hh2
       replace bq:=zab bq hb4 bq.size
       obtain ⟨ps,cs,rfl⟩:=hs1.slice
       have HS1:=Lib.hid hs1
       clear hs1 hb4
       refine hK.out _ _ (⟨hh1,hh2⟩) (fun _=>?_)
       clear hK K
       try simp only [putS]
       refine tr 5 rfl (fun K hK=>?_)
       try rw [if_pos (by rfl)]
       go_simp
       refine (HSB.out _ bq).mono ?_
       rintro e5 w5 ⟨VT,rfl,ht1,_,hb5⟩
       replace hh1:=(hb5.block _ (zaa hh1)).trans hh1
       replace hh2:=(hb5.block _ (zaa hh2)).trans hh2
       replace bq:=zab bq hb5 bq.size
       obtain ⟨pt,ct,rfl⟩:=ht1.slice
       have hq:=eqRowsG _ _ _ _ w5 (HS1.out.stays (zae hb5)) ht1 hsl
       rw [HSR2.out] at hq
       have HQ:=Lib.hid hq
       clear hq ht1 hb5
       refine hK.out _ _ (⟨hh1,hh2⟩) (fun _=>?_)
       clear hK K
       try simp only [putS]
       refine tr 6 rfl (fun K hK=>?_)
       try rw [if_pos (by rfl)]
       go_simp
       refine HQ.out.mono ?_
       rintro e6 w6 ⟨rfl,hb6⟩
       replace hh1:=(hb6.block _ (zaa hh1)).trans hh1
       replace hh2:=(hb6.block _ (zaa hh2)).trans hh2
       replace bq:=zab bq hb6 bq.size
       clear hb6
       refine hK.out _ _ (⟨hh1,hh2⟩) (fun _=>?_)
       clear hK K
       try simp only [putS]
       refine tg (i:=7) (.bool r) rfl (⟨hh1,hh2⟩) ?_
       refine wpAnyH_done (by kernel_rfl) ?_ _
       go_wp2_with fail
       go_ret
       exact ⟨rfl,zab HB1.out bq HB1.out.size⟩
      ·obtain rfl:r=false:=HN4.out hl
       have hne:((a.rows.length:Int) == b.rows.length)=false:=by rw [beq_eq_false_iff_ne];omega
       have hne2:((a.rows.length:Int) != b.rows.length)=true:=congrArg not hne
       clear HN1 HN2 HN3 HN4 HSR hv
       go_enter Tryz.func36,Tryz.ntmps36
       go_upto_region 1 with fail
       rw [← HW.out,← HG.out.2,← HG.out.1]
       go_wp2_with (first
        |((with_reducible refine zai (.tmp 2) g2 25 25 [.slice p1 a.vars.length c1,.slice p2 a.rows.length c2] 2 _ u2 rfl Tryz.underlying25 rfl zah ?_ ?_ ?_ ?_);rfl;rfl;rfl)
        |(go_at_call 13;(with_reducible refine HMA.out.mono ?_);rintro e w1 ⟨rfl,hb1⟩;replace u2:=(hb1.block _ (zaa u2)).trans u2;replace u3:=(hb1.block _ (zaa u3)).trans u3;replace r3:=zbc r3 hb1;replace bq:=zab bq hb1 bq.size;clear hb1)
        |((with_reducible refine zca ?_ (.tmp 3) g3 0 25 [.slice p3 b.vars.length c3,.slice p4 b.rows.length c4] 2 _ r3 rfl Tryz.underlying25 rfl zah ?_ ?_ ?_);rfl;rfl;rfl)
        |(go_at_call 13;(with_reducible refine (HMB.out _ bq).mono ?_);rintro e w2 ⟨rfl,hb2⟩;replace u2:=(hb2.block _ (zaa u2)).trans u2;replace u3:=(hb2.block _ (zaa u3)).trans u3;replace bq:=zab bq hb2 bq.size;clear hb2 r3;have d0:=zad u2 0 rfl;have d1:=zad u3 0 rfl)
        |(go_at_call 50;(with_reducible refine (HET.out _ bq).mono ?_);rintro e w3 ⟨rfl,hb3⟩;replace u2:=(hb3.block _ (zaa u2)).trans u2;replace u3:=(hb3.block _ (zaa u3)).trans u3;replace bq:=zab bq hb3 bq.size;clear hb3;have d2:=zad u2 1 rfl;have d3:=zad u3 1 rfl))
       go_ret
       exact ⟨rfl,zab HB1.out bq HB1.out.size⟩
     ·rw [decide_eq_false hv] at HET
      obtain rfl:r=false:=HN3.out hv
      clear HN1 HN2 HN3 HN4 HSR hv
      go_enter Tryz.func36,Tryz.ntmps36
      go_upto_region 1 with fail
      rw [← HW.out,← HG.out.2,← HG.out.1]
      go_wp2_with (first
       |((with_reducible refine zai (.tmp 2) g2 25 25 [.slice p1 a.vars.length c1,.slice p2 a.rows.length c2] 2 _ u2 rfl Tryz.underlying25 rfl zah ?_ ?_ ?_ ?_);rfl;rfl;rfl)
       |(go_at_call 13;(with_reducible refine HMA.out.mono ?_);rintro e w1 ⟨rfl,hb1⟩;replace u2:=(hb1.block _ (zaa u2)).trans u2;replace u3:=(hb1.block _ (zaa u3)).trans u3;replace r3:=zbc r3 hb1;replace bq:=zab bq hb1 bq.size;clear hb1)
       |((with_reducible refine zca ?_ (.tmp 3) g3 0 25 [.slice p3 b.vars.length c3,.slice p4 b.rows.length c4] 2 _ r3 rfl Tryz.underlying25 rfl zah ?_ ?_ ?_);rfl;rfl;rfl)
       |(go_at_call 13;(with_reducible refine (HMB.out _ bq).mono ?_);rintro e w2 ⟨rfl,hb2⟩;replace u2:=(hb2.block _ (zaa u2)).trans u2;replace u3:=(hb2.block _ (zaa u3)).trans u3;replace bq:=zab bq hb2 bq.size;clear hb2 r3;have d0:=zad u2 0 rfl;have d1:=zad u3 0 rfl)
       |(go_at_call 50;(with_reducible refine (HET.out _ bq).mono ?_);rintro e w3 ⟨rfl,hb3⟩;replace u2:=(hb3.block _ (zaa u2)).trans u2;replace u3:=(hb3.block _ (zaa u3)).trans u3;replace bq:=zab bq hb3 bq.size;clear hb3;have d2:=zad u2 1 rfl;have d3:=zad u3 1 rfl))
      go_ret
      exact ⟨rfl,zab HB1.out bq HB1.out.size⟩
theorem zvb (sh:List (Nat × Nat)) (p:Nat × Nat) (x y:List Val):fitB (sh++[p]) x y=(fitB sh x y && fit1 x y p):=by
 unfold fitB
 rw [List.all_append]
 simp
theorem z0s (sh:List (Nat × Nat)) (p:Nat × Nat) (x y:List Val):zeo (sh++[p]) x y=(zeo sh x y || zqd x y p):=by
 unfold zeo
 rw [List.any_append]
 simp
theorem z4e {vs us:List ByteArray} {x y:List Val}:(d j:Nat)→j+d=vs.length→fitB (zay (vs.take j) us) x y=false→fitB (zay vs us) x y=false
 | 0,j,h,hf=>by
   rw [List.take_of_length_le (by omega)] at hf
   exact hf
 | d+1,j,h,hf=>by
   refine z4e d (j+1) (by omega) ?_
   have hj:j < vs.length:=by omega
   cases hp:zbn vs[j] us with
   | none=>rw [zfh hj hp];exact hf
   | some k=>rw [zfg hj hp,zvb,hf,Bool.false_and]
def zfs (vs us:List ByteArray) (x y:List Val):Bool × Bool:=if fitB (zay vs us) x y=true then (true,zeo (zay vs us) x y) else (false,false)
theorem zpy {w:World} {P:Nat→Prop} {L:Value} {r:List Val} (h:zag valE w P L r) {j:Nat} (hj:j < r.length):
 ∃ gx ox k c,L=.slice (some ⟨gx,ox,none⟩) r.length k∧zc3 w P c r[j]∧w.rangeAt gx (ox+j*6) c:=by
 obtain ⟨gx,ox,k,c,e2,_,hv,hra2⟩:=h.at_ j hj
 exact ⟨gx,ox,k,c,e2,hv,hra2⟩
theorem z0t (vs us:List ByteArray) (x y:List Val) (VA RA VB RB:Value) (W:World) (ha:zag za1 W (Old W) VA vs) (hx:zag valE W (Old W) RA x) (hb:zag za1 W (Old W) VB us) (hy:zag valE W (Old W) RB y)
 (lx:x.length=vs.length) (ly:y.length=us.length) (hn:vs.length≤2097152) (hm:us.length≤2097152):
 Calls Tryz.prog 31 #[VA,RA,VB,RB] W fun e w'=>e=.returned (.tuple #[.bool (zfs vs us x y).1,.bool (zfs vs us x y).2])∧Below W.heap.size W w':=by
 obtain ⟨p1,c1,rfl⟩:=ha.slice
 obtain ⟨p2,c2,rfl⟩:=hx.slice
 obtain ⟨p3,c3,rfl⟩:=hb.slice
 obtain ⟨p4,c4,rfl⟩:=hy.slice
 obtain ⟨n,hl⟩:∃ n,n=vs.length:=⟨_,rfl⟩
 obtain ⟨m,hml⟩:∃ m,m=us.length:=⟨_,rfl⟩
 obtain ⟨r,hr⟩:∃ r,r=zfs vs us x y:=⟨_,rfl⟩
 rw [lx,ly,← hr,← hl,← hml]
 rw [← hl] at hn
 rw [← hml] at hm
 rw [lx,← hl] at hx
 rw [ly,← hml] at hy
 have HA:=Lib.hid ha
 have HX:=Lib.hid hx
 have HBB:=Lib.hid hb
 have HY:=Lib.hid hy
 have HL:=Lib.hid hl
 have HML:=Lib.hid hml
 have HR:=Lib.hid hr
 have HLX:Hid (x.length=n):=Lib.hid (lx.trans hl.symm)
 have HLY:Hid (y.length=m):=Lib.hid (ly.trans hml.symm)
 clear ha hx hb hy hl hml hr lx ly
 go_enter Tryz.func31,Tryz.ntmps31
 go_wp2_with fail
 go_loopg [10,11] n (fun gg s10 s11 wr=>∃ (j:Nat) (s:Bool),j+gg=n∧s11=.int .i64 j∧s10=.bool s∧Hid (fitB (zay (vs.take j) us) x y=true)∧Hid (s=zeo (zay (vs.take j) us) x y)∧Hid (Below W.heap.size W wr))
 case atStart=>exact ⟨0,false,by omega,rfl,rfl,Lib.hid (by simp [zay,fitB]),Lib.hid (by simp [zay,zeo]),Lib.hid (Below.refl _ _)⟩
 case round=>
  obtain ⟨j,s,hjg,rfl,rfl,HF,HS,HB⟩:=hrel
  by_cases hj:(j:Int) < n
  ·have hj1:j < vs.length:=by have:=HL.out;omega
   obtain ⟨g1,o1,cc1,ctx,e1,_,hr1,hra1⟩:=(HA.out.stays (zae HB.out)).at_ j hj1
   injection e1 with e11 e12 e13
   subst e11 e13
   obtain ⟨rfl,_⟩:=hr1
   obtain ⟨nm,hnm⟩:∃ nm,nm=vs[j]:=⟨_,rfl⟩
   have cj:wr.cell? ⟨g1,o1+j,none⟩=some (.string nm):=by
    have h:=hra1 0 _ rfl
    rw [hnm]
    simpa [za1] using h
   have HI:=Lib.hid (zpq _ us nm _ wr (HBB.out.stays (zae HB.out)) (by have:=HML.out;omega))
   obtain ⟨kk,hkk⟩:∃ kk,kk=zbn nm us:=⟨_,rfl⟩
   rw [← hkk] at HI
   have hpl:zbn vs[j] us=kk:=by rw [hkk,hnm]
   have HPL:=Lib.hid hpl
   have HPK:=Lib.hid hkk
   have ebm:=HML.out
   rw [← ebm] at HI
   clear hra1 e12 hnm hkk hpl ebm
   cases kk with
   | none=>
     have HF2:Hid (fitB (zay (vs.take (j+1)) us) x y=true):=Lib.hid (by rw [zfh hj1 HPL.out];exact HF.out)
     have HS2:Hid (s=zeo (zay (vs.take (j+1)) us) x y):=Lib.hid (by rw [zfh hj1 HPL.out];exact HS.out)
     clear HF HS HPL HPK
     unfold zcm at HI
     go_wp2_with (first
      |(go_at_call 38;(with_reducible refine HI.out.mono ?_);rintro e w5 ⟨rfl,rfl⟩))
     go_roundg (gk - 1)
     case measure=>omega
     case rel=>exact ⟨j+1,s,by omega,by go_num,rfl,HF2,HS2,HB⟩
   | some k=>
     have hk1:k < us.length:=ze7 HPK.out.symm
     have hkm:(k:Int) < m:=by have:=HML.out;omega
     have hk0:¬ ((k:Int) < 0):=by omega
     obtain ⟨gx,ox,kx,cx,ex,zvx,zx⟩:=zpy (HX.out.stays (zae HB.out)) (j:=j) (by have:=HLX.out;omega)
     obtain ⟨gy,oy,ky,cy,ey,zvy,zy⟩:=zpy (HY.out.stays (zae HB.out)) (j:=k) (by have:=HLY.out;have:=HML.out;omega)
     injection ex with ex1 ex2 ex3
     injection ey with ey1 ey2 ey3
     subst ex1 ex3 ey1 ey3
     obtain ⟨vx,hvx⟩:∃ vx,vx=x[j]'(by have:=HLX.out;omega):=⟨_,rfl⟩
     obtain ⟨vy,hvy⟩:∃ vy,vy=y[k]'(by have:=HLY.out;have:=HML.out;omega):=⟨_,rfl⟩
     rw [← hvx] at zvx
     rw [← hvy] at zvy
     have hax:atV x j=vx:=by rw [hvx];exact zhz _
     have hay:atV y k=vy:=by rw [hvy];exact zhz _
     have HFS:Hid (fitB (zay (vs.take (j+1)) us) x y=!((isB vx && isB vy) && !zcy vx vy)):=Lib.hid (by
      rw [zfg hj1 HPL.out,zvb,HF.out,Bool.true_and]
      unfold fit1
      rw [hax,hay])
     have HMS:Hid (zeo (zay (vs.take (j+1)) us) x y=(s || (isB vx && isB vy))):=Lib.hid (by
      rw [zfg hj1 HPL.out,z0s,← HS.out]
      unfold zqd
      rw [hax,hay])
     obtain ⟨kdx,hkx⟩:∃ kdx,kdx=kindV vx:=⟨_,rfl⟩
     obtain ⟨kdy,hky⟩:∃ kdy,kdy=kindV vy:=⟨_,rfl⟩
     have bx:isB vx=decide (kdx≠0):=by rw [hkx];cases vx;rfl
     have by':isB vy=decide (kdy≠0):=by rw [hky];cases vy;rfl
     have dx:=zsd zx (hkx ▸ zu7 zvx)
     have dy:=zsd zy (hky ▸ zu7 zvy)
     rw [bx,by'] at HFS HMS
     have HCX:Hid (cx.length=6):=Lib.hid (valE.len (show valE.rel wr (Old wr) cx vx from zvx))
     have HCY:Hid (cy.length=6):=Lib.hid (valE.len (show valE.rel wr (Old wr) cy vy from zvy))
     have HSM:Hid (∀ w',Below wr.heap.size wr w'→Calls Tryz.prog 39 #[.agg cx.toArray,.agg cy.toArray] w' fun e w2=>e=.returned (.bool (zcy vx vy))∧Below w'.heap.size w' w2):=Lib.hid fun w' b=>z2o vx vy cx cy (Old w') (Old w') w' (valE.stays (zae b) zvx) (valE.stays (zae b) zvy)
     obtain ⟨sm,hsm⟩:∃ sm,sm=zcy vx vy:=⟨_,rfl⟩
     rw [← hsm] at HFS HSM
     clear hvx hvy hax hay zvx zvy hkx hky bx by' hsm ex2 ey2 HF HPL HPK HS
     unfold zcm at HI
     by_cases hzx:kdx=0
     ·subst hzx
      have HF2:Hid (fitB (zay (vs.take (j+1)) us) x y=true):=Lib.hid (by rw [HFS.out];rfl)
      have HS2:Hid (s=zeo (zay (vs.take (j+1)) us) x y):=Lib.hid (by rw [HMS.out];simp)
      clear HFS HMS zx zy HSM
      go_wp2_with (first
       |(go_at_call 38;(with_reducible refine HI.out.mono ?_);rintro e w5 ⟨rfl,rfl⟩))
      go_roundg (gk - 1)
      case measure=>omega
      case rel=>exact ⟨j+1,s,by omega,by go_num,rfl,HF2,HS2,HB⟩
     ·have qx:(kdx == 0)=false:=by simpa using hzx
      by_cases hzy:kdy=0
      ·subst hzy
       have HF2:Hid (fitB (zay (vs.take (j+1)) us) x y=true):=Lib.hid (by rw [HFS.out];simp)
       have HS2:Hid (s=zeo (zay (vs.take (j+1)) us) x y):=Lib.hid (by rw [HMS.out];simp)
       clear HFS HMS zx zy HSM
       go_wp2_with (first
        |(go_at_call 38;(with_reducible refine HI.out.mono ?_);rintro e w5 ⟨rfl,rfl⟩))
       go_roundg (gk - 1)
       case measure=>omega
       case rel=>exact ⟨j+1,s,by omega,by go_num,rfl,HF2,HS2,HB⟩
      ·have qy:(kdy == 0)=false:=by simpa using hzy
       have HF3:Hid (fitB (zay (vs.take (j+1)) us) x y=sm):=Lib.hid (by rw [HFS.out,decide_eq_true hzx,decide_eq_true hzy];cases sm <;> rfl)
       have HS2:Hid (true=zeo (zay (vs.take (j+1)) us) x y):=Lib.hid (by rw [HMS.out,decide_eq_true hzx,decide_eq_true hzy];simp)
       clear HFS HMS
       go_upto_region 7 with (first
        |(go_at_call 38;(with_reducible refine HI.out.mono ?_);rintro e w5 ⟨rfl,rfl⟩))
       have hB:=HB.out
       clear HB cj dx dy HI
       cases sm with
       | true=>
         refine wp_region_held_drew (S:=fun W'=>W'.rangeAt gx (ox+j*6) cx∧W'.rangeAt gy (oy+k*6) cy) (by kernel_rfl) ⟨zx,zy⟩ (fun hh=>?_)
         have hh1:=hh.1
         have hh2:=hh.2
         have bq:Below wr.heap.size wr wr.drew:=(Below.refl _ _).drew
         replace hB:=hB.drew
         clear hh zx zy
         generalize wr.drew=wD at*
         refine tg (i:=0) (.slice (some ⟨gx,ox,none⟩) n c2) rfl (⟨hh1,hh2⟩) ?_
         refine tg (i:=1) (.int .i64 (j:Int)) rfl (⟨hh1,hh2⟩) ?_
         refine tg (i:=4) (.slice (some ⟨gy,oy,none⟩) m c4) rfl (⟨hh1,hh2⟩) ?_
         refine tg (i:=5) (.int .i64 (k:Int)) rfl (⟨hh1,hh2⟩) ?_
         refine tg (i:=2) (.pointer (some ⟨gx,ox+j*6,none⟩)) rfl (⟨hh1,hh2⟩) ?_
         refine tg (i:=6) (.pointer (some ⟨gy,oy+k*6,none⟩)) rfl (⟨hh1,hh2⟩) ?_
         refine tk (i:=3) (v:=.agg cx.toArray) rfl (yieldsIf_load_mid (by rfl) 48 (.tmp 45) rfl gx (ox+j*6) rfl cx _ (fun W h=>h.1) Tryz.underlying48 rfl (by rw [zao,HCX.out])) (⟨hh1,hh2⟩) ?_
         refine tk (i:=7) (v:=.agg cy.toArray) rfl (yieldsIf_load_mid (by rfl) 48 (.tmp 49) rfl gy (oy+k*6) rfl cy _ (fun W h=>h.2) Tryz.underlying48 rfl (by rw [zao,HCY.out])) (⟨hh1,hh2⟩) ?_
         refine tr 8 rfl (fun K hK=>?_)
         try rw [if_pos (by rfl)]
         go_simp
         refine (HSM.out _ bq).mono ?_
         rintro e8 w8 ⟨rfl,hb8⟩
         replace hh1:=zbc hh1 hb8
         replace hh2:=zbc hh2 hb8
         replace hB:=zab hB hb8 hB.size
         clear hb8
         refine hK.out _ _ (⟨hh1,hh2⟩) (fun _=>?_)
         clear hK K
         try simp only [putS]
         refine tg (i:=9) (.bool false) rfl (⟨hh1,hh2⟩) ?_
         refine wpAnyH_done (by kernel_rfl) ?_ _
         have HB8:=Lib.hid hB
         clear hh1 hh2 hB bq
         go_wp2_with fail
         go_roundg (gk - 1)
         case measure=>omega
         case rel=>exact ⟨j+1,true,by omega,by go_num,rfl,HF3,HS2,HB8⟩
       | false=>
         have HRF:Hid (r=(false,false)):=Lib.hid (by
          rw [HR.out]
          unfold zfs
          rw [if_neg]
          rw [z4e (vs.length - (j+1)) (j+1) (by omega) HF3.out]
          simp)
         refine wp_region_held_drew (S:=fun W'=>W'.rangeAt gx (ox+j*6) cx∧W'.rangeAt gy (oy+k*6) cy) (by kernel_rfl) ⟨zx,zy⟩ (fun hh=>?_)
         have hh1:=hh.1
         have hh2:=hh.2
         have bq:Below wr.heap.size wr wr.drew:=(Below.refl _ _).drew
         replace hB:=hB.drew
         clear hh zx zy
         generalize wr.drew=wD at*
         refine tg (i:=0) (.slice (some ⟨gx,ox,none⟩) n c2) rfl (⟨hh1,hh2⟩) ?_
         refine tg (i:=1) (.int .i64 (j:Int)) rfl (⟨hh1,hh2⟩) ?_
         refine tg (i:=4) (.slice (some ⟨gy,oy,none⟩) m c4) rfl (⟨hh1,hh2⟩) ?_
         refine tg (i:=5) (.int .i64 (k:Int)) rfl (⟨hh1,hh2⟩) ?_
         refine tg (i:=2) (.pointer (some ⟨gx,ox+j*6,none⟩)) rfl (⟨hh1,hh2⟩) ?_
         refine tg (i:=6) (.pointer (some ⟨gy,oy+k*6,none⟩)) rfl (⟨hh1,hh2⟩) ?_
         refine tk (i:=3) (v:=.agg cx.toArray) rfl (yieldsIf_load_mid (by rfl) 48 (.tmp 45) rfl gx (ox+j*6) rfl cx _ (fun W h=>h.1) Tryz.underlying48 rfl (by rw [zao,HCX.out])) (⟨hh1,hh2⟩) ?_
         refine tk (i:=7) (v:=.agg cy.toArray) rfl (yieldsIf_load_mid (by rfl) 48 (.tmp 49) rfl gy (oy+k*6) rfl cy _ (fun W h=>h.2) Tryz.underlying48 rfl (by rw [zao,HCY.out])) (⟨hh1,hh2⟩) ?_
         refine tr 8 rfl (fun K hK=>?_)
         try rw [if_pos (by rfl)]
         go_simp
         refine (HSM.out _ bq).mono ?_
         rintro e8 w8 ⟨rfl,hb8⟩
         replace hh1:=zbc hh1 hb8
         replace hh2:=zbc hh2 hb8
         replace hB:=zab hB hb8 hB.size
         clear hb8
         refine hK.out _ _ (⟨hh1,hh2⟩) (fun _=>?_)
         clear hK K
         try simp only [putS]
         refine tg (i:=9) (.bool true) rfl (⟨hh1,hh2⟩) ?_
         refine wpAnyH_done (by kernel_rfl) ?_ _
         go_wp2_with fail
         go_ret2
         exact ⟨by rw [HRF.out];rfl,hB⟩
  ·have HE:Hid (r=(true,s)):=Lib.hid (by
    have h1:=HF.out
    have h2:=HS.out
    rw [List.take_of_length_le (by have:=HL.out;omega)] at h1 h2
    rw [HR.out]
    unfold zfs
    rw [if_pos h1,h2])
   go_wp2_with fail
   go_ret2
   exact ⟨by rw [HE.out];rfl,HB.out⟩
end Go.Proofs.YteclpnfckjfibaaGreatDoor
