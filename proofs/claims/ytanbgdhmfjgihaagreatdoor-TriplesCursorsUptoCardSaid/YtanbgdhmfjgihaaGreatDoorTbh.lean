/- Texts of one kind, one behind the other: each says ahead of itself what it shows. -/
import Derived.Test.YtanbgdhmfjgihaaGreatDoorTbg
namespace Go.Proofs.YtanbgdhmfjgihaaGreatDoor
open Go.RowKit
set_option maxHeartbeats 12800000
set_option maxRecDepth 20000
theorem znj {W W':World} {sp:Nat} {s:SM} {pv pr:Option Addr} {cv cr:Nat} {pp:Nat→Option Addr} {cc:Nat→Nat} (k:zd1 W sp s pv pr cv cr pp cc) (b:Below W.heap.size W W'):zd1 W' sp s pv pr cv cr pp cc:=
 ⟨(b.block _ (zac k.h)).trans k.h,k.v.below b,k.r.below b,fun i hi=>(k.l i hi).below b⟩
set_option maxHeartbeats 25600000 in
theorem zxr (l:List Tri3) (p0:Option Addr) (cap:Nat) (P0:Value) (nm:ByteArray) (dl:List (Int × Val)) (pd:Option Addr) (dcap:Nat) (w:World) (hG:Gd w) (hT:Tab w) (hl:Tris w (.slice p0 l.length cap) l) (hn:l.length≤60) (hd:zs5 w (.slice pd dl.length dcap) dl) (hdn:dl.length≤2097152) (hgood:∀ t∈l,zbl t=true) (k:Nat) (hk:k < 6) (hnm:nm=onm k):
 Calls Tryz.prog 4 #[.agg #[.slice p0 l.length cap,P0,.string nm,.slice pd dl.length dcap]] w fun e w'=>e=.returned (.bool true)∧Below w.heap.size w w':=by
 obtain ⟨W1,hW1⟩:∃ W1,W1=w.alloc (.cells #[.slice p0 l.length cap,P0,.string nm,.slice pd dl.length dcap] 26):=⟨_,rfl⟩
 have b1:Below w.heap.size w W1:=by rw [hW1];exact za0 _ _
 have hS:W1.heap[w.heap.size]?=some (.cells #[.slice p0 l.length cap,P0,.string nm,.slice pd dl.length dcap] 26):=by rw [hW1];exact zah _ _ rfl
 have c0:W1.cell? ⟨w.heap.size,0,none⟩=some (.slice p0 l.length cap):=zab hS 0 rfl
 have hni:¬ (60:Int) < l.length:=by omega
 have hld:=zrj _ l W1 (hG.below b1) (hT.below b1) (hl.below b1) (by omega)
 have hrf:∀ W,Below W1.heap.size W1 W→_:=fun W b=>zk4 l _ W (hl.below (b1.trans (b.mono b1.size))) (by omega)
 have HS:=Lib.hid hS
 have HB1:=Lib.hid b1
 have HW:=Lib.hid hW1
 have HWK:Hid (∀ W,Below W1.heap.size W1 W→Calls Tryz.prog 8 #[] W fun e w'=>e=.returned (.bool true)∧Below W.heap.size W w'):=Lib.hid fun W b=>zrn W ((hG.below b1).below b) ((hT.below b1).below b)
 have hs1:=b1.size
 have HLD:=Lib.hid (hld.mono fun e w' h=>h.1 hgood)
 have HRF:=Lib.hid fun W b=>(hrf W b).mono fun e w' h=>h.1 hgood
 have HGOOD:=Lib.hid hgood
 have HNM:=Lib.hid hnm
 have HG:=Lib.hid (hG.below b1)
 have HT:=Lib.hid (hT.below b1)
 have HD:=Lib.hid (hd.below b1)
 have hL:l.length≤65536:=by omega
 clear hW1 hS hld hrf hG hT hl hd b1 hgood hnm
 go_enter Tryz.func4,Tryz.ntmps4
 go_upto_region 1 with fail
 rw [← HW.out]
 go_upto_region 4 with (go_at_call 10;(with_reducible refine HLD.out.mono ?_);rintro e w2 ⟨sp,s,rfl,hin,hlo,hb2⟩)
 have HB2:=Lib.hid hb2
 have HRF2:=Lib.hid (HRF.out w2 hb2)
 have HIN:=Lib.hid hin
 have HLO:=Lib.hid hlo
 have c2:w2.cell? ⟨w.heap.size,0,none⟩=some (.slice p0 l.length cap):=zab ((hb2.block _ (zac HS.out)).trans HS.out) 0 rfl
 clear hb2 HRF c0 HLD hin hlo
 go_upto_region 5 with (go_at_call 11;(with_reducible refine HRF2.out.mono ?_);rintro e w3 ⟨V,out,rfl,hins,hvt,hvo,hb3⟩)
 obtain rfl:=hins.all HLO.out hL
 obtain ⟨pl,cl,rfl⟩:=zhf hvt
 have hbb:Below W1.heap.size W1 w3:=HB2.out.trans (hb3.mono HB2.out.size)
 have HB3:=Lib.hid hbb
 have HS3:=Lib.hid ((hbb.block _ (zac HS.out)).trans HS.out)
 have c3:w3.cell? ⟨w.heap.size,2,none⟩=some (.string nm):=zab HS3.out 2 rfl
 obtain ⟨pv,pr,cv,cr,pp,cc,hsi,_⟩:=HIN.out
 have HCU:=Lib.hid (cursorD (znj hsi hb3) (Below.refl _ w3) (HLO.out.ok hL) HLO.out.so hk)
 have HTR:Hid (∀ W,Below w3.heap.size w3 W→Tris W (.slice pl s.all.length cl) s.all):=Lib.hid fun W b=>hvt.below b
 have hA:s.all.length≤65536:=by
  have:=hins.len
  omega
 have HG3:=Lib.hid (HG.out.below hbb)
 have HT3:=Lib.hid (HT.out.below hbb)
 have HD3:=Lib.hid (HD.out.below hbb)
 have HPL:Hid (∀ u∈s.vs,zcw u):=Lib.hid fun u hu=>(HLO.out.plain HGOOD.out u hu).1
 have hcA:∀ t∈s.all,zbl t=true:=fun t ht=>all_chk HLO.out HGOOD.out ht
 have HMY:=Lib.hid (fun W=>mayYes W k hk)
 rw [← HNM.out] at HCU HMY
 clear hb3 hins hvt hvo HRF2 c2 hsi hbb HIN HG HT HD
 go_upto_region 8 with (go_at_call 20;(with_reducible refine HCU.out.mono ?_);rintro e w4 ⟨g,rfl,hb4,hg3,ST4⟩)
 have HY4:Hid (Below w3.heap.size w3 w4):=Lib.hid hb4.is
 have HST4:=Lib.hid ST4
 have c4:w4.cell? ⟨w.heap.size,2,none⟩=some (.string nm):=zab ((HY4.out.block _ (zac HS3.out)).trans HS3.out) 2 rfl
 clear hb4 ST4 HCU c3
 go_upto_region 10 with (go_at_call 21;(with_reducible refine (HMY.out w4).mono ?_);rintro e w5 ⟨rfl,hb5⟩)
 have HY5:Hid (Below w3.heap.size w3 w5):=Lib.hid (HY4.out.trans (hb5.mono HY4.out.size))
 have HST5:=Lib.hid (HST4.out.bel hb5)
 have c5:w5.cell? ⟨w.heap.size,2,none⟩=some (.string nm):=zab ((HY5.out.block _ (zac HS3.out)).trans HS3.out) 2 rfl
 have hgl:=HST5.out.at_.B.lt
 clear hb5 HMY HY4 HST4 c4
 go_upto_region 13 with fail
 have hR:=zah w5 (.cells #[.slice pl s.all.length cl,.string nm,.slice none 0 0,.bool false,.int .i64 0] 55) rfl
 have b6:Below w5.heap.size w5 (w5.alloc (.cells #[.slice pl s.all.length cl,.string nm,.slice none 0 0,.bool false,.int .i64 0] 55)):=za0 _ _
 generalize w5.alloc (.cells #[.slice pl s.all.length cl,.string nm,.slice none 0 0,.bool false,.int .i64 0] 55)=w6 at*
 have HY6:Hid (Below w3.heap.size w3 w6):=Lib.hid (HY5.out.trans (b6.mono HY5.out.size))
 have HST6:=Lib.hid (HST5.out.bel b6)
 have hgR3:=HY5.out.size
 have hg6:=b6.size
 generalize w5.heap.size=gR at*
 have hgR:g < gR:=hgl
 have HD6:Hid (DCur w6 gR gR pl s.all.length cl (onm k) [] false):=Lib.hid ⟨⟨none,0,by rw [← HNM.out];exact hR,⟨[],rfl,rfl,.inl ⟨rfl,rfl⟩⟩,by intro q;cases q⟩,Nat.le_refl _⟩
 have HR6:=Lib.hid (Rel.new (s:=s) (k:=k) sp (pp k) (s.ls k).length (cc k))
 clear hR b6 HY5 HST5 c5 hgl
 go_wp2_with fail
 go_loopg [10] dl.length (fun gg s10 wr=>∃ (i:Nat) (c:CS) (way:List Val) (ee:Bool),s10=.int .i64 i∧i≤dl.length∧dl.length - i≤gg∧Hid (zbj w3 s wr g c k)∧Hid (Rel s k c way ee)∧Hid (DCur wr gR gR pl s.all.length cl (onm k) way ee)∧Hid (Below w3.heap.size w3 wr)∧gR≤wr.heap.size)
 case atStart=>exact ⟨0,_,[],false,rfl,Nat.zero_le _,by omega,HST6,HR6,HD6,HY6,hg6⟩
 case round=>
  clear HST6 HR6 HD6 HY6 hg6
  obtain ⟨i,c,way,ee,rfl,hi,hgg,HST,HR,HDD,HB,hgw⟩:=hrel
  have c3r:wr.cell? ⟨w.heap.size,3,none⟩=some (.slice pd dl.length dcap):=zab ((HB.out.block _ (zac HS3.out)).trans HS3.out) 3 rfl
  have HWKr:=Lib.hid (HWK.out wr (HB3.out.trans (HB.out.mono HB3.out.size)))
  have hend:(¬ i < dl.length)∨¬ (i < 60)∨(i < dl.length∧i < 60):=by omega
  obtain hlt | h60 | ⟨hlt,h60⟩:=hend
  ·have hlti:¬ (i:Int) < dl.length:=by omega
   clear HST HR HDD
   go_wp2_with (go_at_call 8;(with_reducible refine HWKr.out.mono ?_);rintro e w6 ⟨rfl,hb6⟩)
   go_ret
   exact ⟨rfl,HB1.out.trans (((HB3.out.trans (HB.out.mono HB3.out.size)).trans (hb6.mono (HB3.out.trans (HB.out.mono HB3.out.size)).size)).mono hs1)⟩
  ·have hni60:¬ (i:Int) < 60:=by omega
   clear HST HR HDD
   by_cases hq:i < dl.length
   ·have hlti:(i:Int) < dl.length:=by omega
    go_wp2_with (go_at_call 8;(with_reducible refine HWKr.out.mono ?_);rintro e w6 ⟨rfl,hb6⟩)
    go_ret
    exact ⟨rfl,HB1.out.trans (((HB3.out.trans (HB.out.mono HB3.out.size)).trans (hb6.mono (HB3.out.trans (HB.out.mono HB3.out.size)).size)).mono hs1)⟩
   ·have hlti:¬ (i:Int) < dl.length:=by omega
    go_wp2_with (go_at_call 8;(with_reducible refine HWKr.out.mono ?_);rintro e w6 ⟨rfl,hb6⟩)
    go_ret
    exact ⟨rfl,HB1.out.trans (((HB3.out.trans (HB.out.mono HB3.out.size)).trans (hb6.mono (HB3.out.trans (HB.out.mono HB3.out.size)).size)).mono hs1)⟩
  ·clear HWKr
   have hlti:(i:Int) < dl.length:=by omega
   have h60i:(i:Int) < 60:=by omega
   obtain ⟨gd,od,rfl,hops⟩:∃ gd od,pd=some ⟨gd,od,none⟩∧∀ (j:Nat) (h:j < dl.length),w3.cell? ⟨gd,od+j*7,none⟩=some (.int .i64 dl[j].1)∧zay w3 gd (od+j*7+1) dl[j].2:=by
    obtain ⟨p1,cap1,e,h1⟩:=HD3.out
    obtain ⟨g,off,e2,h2⟩:=h1 (by intro e;rw [e] at hlt;exact absurd hlt (by simp))
    injection e with e3 _ _
    exact ⟨g,off,by rw [e3];exact e2,h2⟩
   obtain ⟨v,q,hv,rv⟩:=isOf (hops i hlt).2
   obtain ⟨u,hu⟩:∃ u,u=dl[i].2:=⟨_,rfl⟩
   obtain ⟨z,hz⟩:∃ z,z=dl[i].1:=⟨_,rfl⟩
   rw [← hu] at hv
   have cz:=(HB.out.cell (p:=⟨gd,od+i*7,none⟩) (World.block_lt_of_cell? _ _ (hops i hlt).1)).trans (hops i hlt).1
   rw [← hz] at cz
   have HV:=Lib.hid hv
   have HRV:=Lib.hid rv
   have rvr:=zae rv HB.out
   have ST:=HST.out
   have R:=HR.out
   clear hops hv rv hu hz
   have h4:z=0∨z=1∨z=2∨(z≠0∧z≠1∧z≠2):=by omega
   obtain rfl | rfl | rfl | ⟨z0,z1,z2⟩:=h4
   ·obtain ⟨r,hr⟩:∃ r,r=c.opens s k:=⟨_,rfl⟩
    obtain ⟨cn,hcn⟩:∃ cn,cn=c.opn s k:=⟨_,rfl⟩
    have HPC:Hid (Calls Tryz.prog 22 #[.pointer (some ⟨g,0,none⟩)] wr fun e w'=>e=.returned (.bool r)∧Only g wr w'∧Cur w' g cn):=Lib.hid (by rw [hr,hcn];exact openC ST)
    have HPS:Hid (∀ W',Only g wr W'→Cur W' g cn→zbj w3 s W' g cn k):=Lib.hid (by rw [hcn];exact fun W' o B=>HST.out.opn o B)
    have HDC:Hid (∀ W,DCur W gR gR pl s.all.length cl (onm k) way ee→Below w3.heap.size w3 W→gR≤W.heap.size→Calls Tryz.prog 23 #[.pointer (some ⟨gR,0,none⟩)] W fun x w'=>zh6 s k cn r gR gR pl s.all.length cl W x w'):=Lib.hid (by rw [hr,hcn];exact fun W D b hg=>docOpen R HST.out.fit HLO.out hL HGOOD.out hk D (HTR.out W b) hA hcA hg)
    have hrr:(r != r)=false:=by cases r <;> rfl
    clear hr hcn ST R
    go_upto_region 29 with (first
     |(go_at_call 22;(with_reducible refine HPC.out.mono ?_);rintro e w7 ⟨rfl,o7,B7⟩
       have HST7:=Lib.hid (HPS.out w7 o7 B7)
       have HD7:=Lib.hid (HDD.out.only o7 hgR)
       have HY7:=Lib.hid (zag HB.out o7 hg3 HB.out.size)
       have hs7:gR≤w7.heap.size:=Nat.le_trans hgw (o7.size)
       have HDC7:=Lib.hid (HDC.out w7 HD7.out HY7.out hs7)
       have c37:w7.cell? ⟨w.heap.size,3,none⟩=some (.slice (some ⟨gd,od,none⟩) dl.length dcap):=zab ((HY7.out.block _ (zac HS3.out)).trans HS3.out) 3 rfl
       have rv7:=zae HRV.out HY7.out
       clear HPC HPS HDC o7 B7 c3r)
     |(go_at_call 23;(with_reducible refine HDC7.out.mono ?_);rintro e w8 ⟨way8,e8,R8,D8,rfl,hb8⟩))
    have HST8:=Lib.hid (HST7.out.past hb8 hgR hgR3)
    have HR8:=Lib.hid R8
    have HD8:=Lib.hid D8
    have HY8:Hid (Below w3.heap.size w3 w8):=Lib.hid (HY7.out.trans (hb8.mono hgR3))
    have hs8:gR≤w8.heap.size:=Nat.le_trans hs7 hb8.size
    clear R8 D8 hb8 HST7 HD7 HY7 HDC7 c37 rv7 hs7 HST HDD HR HB HRV rvr hgw
    obtain ⟨ka',ba',na',ta',xa',ka⟩:=kvOf HST8.out HPL.out
    have HKA:=Lib.hid (zro HST8.out ka)
    go_upto_region 30 with (first
     |(go_at_call 30;(with_reducible refine HKA.out.mono ?_);rintro e w9 ⟨rfl,hb9⟩)
     |((with_reducible refine zat (k':=ka') (b':=ba') (n':=na') (t':=ta') (x':=xa') (p':=none) (len':=0) (cap':=0) (.tmp 13) (.tmp 136) w9.heap.size (zaf _ rfl) ?_ ?_ ?_ ?_ ?_);rfl;rfl;rfl;rfl;intro w10 hv10 u10))
    have z10:Below w8.heap.size w8 w10:=hb9.trans ((zag (za0 w9 _) hv10 (Nat.le_refl _) (by simp):Below w9.heap.size w9 w10).mono hb9.size)
    have HD10:=Lib.hid (HD8.out.below z10)
    have HST10:=Lib.hid (HST8.out.bel z10)
    have HY10:Hid (Below w3.heap.size w3 w10):=Lib.hid (HY8.out.trans (z10.mono HY8.out.size))
    have HKD:=Lib.hid (zrz HR8.out HST8.out.fit HD10.out)
    have hs10:gR≤w10.heap.size:=Nat.le_trans hs8 z10.size
    have HU10:=Lib.hid u10
    clear hb9 hv10 z10 u10 HKA HST8 HD8 HY8 hs8
    obtain ⟨on,hon⟩:∃ on,on=cn.on:=⟨_,rfl⟩
    rw [← hon] at HKD ⊢
    have hoo:(on != on)=false:=by cases on <;> rfl
    go_upto_region 31 with (first
     |(go_at_call 31;(with_reducible refine HKD.out.mono ?_);rintro e w11 ⟨y,qy,iy,rfl,hb11⟩)
     |((with_reducible refine zat (k':=y.k) (b':=y.b) (n':=y.n) (t':=y.t) (x':=y.x) (p':=y.p) (len':=y.len) (cap':=y.cap) (.tmp 15) (.tmp 141) w11.heap.size (zaf _ rfl) ?_ ?_ ?_ ?_ ?_);rfl;rfl;rfl;rfl;intro w12 hv12 u12))
    have z12:Below w10.heap.size w10 w12:=hb11.trans ((zag (za0 w11 _) hv12 (Nat.le_refl _) (by simp):Below w11.heap.size w11 w12).mono hb11.size)
    have HD12:=Lib.hid (HD10.out.below z12)
    have HST12:=Lib.hid (HST10.out.bel z12)
    have HY12:Hid (Below w3.heap.size w3 w12):=Lib.hid (HY10.out.trans (z12.mono HY10.out.size))
    have hs12:gR≤w12.heap.size:=Nat.le_trans hs10 z12.size
    have U1:=HU10.out.below z12
    have U2:=u12
    have HSM:Hid (∀ W,Below w12.heap.size w12 W→Calls Tryz.prog 32 #[.agg #[.int .i64 ka',.bool ba',.int .i64 na',.string ta',.string xa',.slice none 0 0],.agg #[.int .i64 y.k,.bool y.b,.int .i64 y.n,.string y.t,.string y.x,.slice y.p y.len y.cap]] W fun e w'=>e=.returned (.bool true)∧Below W.heap.size W w'):=Lib.hid fun W b=>by
     have:=zox ⟨ka',ba',na',ta',xa',none,0,0⟩ y _ _ [] qy W (kvIs ka W) ((iy.below z12).below b)
     rwa [zdo] at this
    have hlen:=HR8.out.len
    have c4:w12.cell? ⟨gR,4,none⟩=some (.int .i64 cn.d):=by
     obtain ⟨⟨pw,cw,B,_⟩,_⟩:=HD12.out
     rw [← hlen]
     exact zab B 4 rfl
    have L0:Below w12.heap.size w12 w12.drew:=(Below.refl _ _).drew
    clear iy hb11 hv12 z12 u12 HKD HU10 HST10 HD10 HY10 hs10 ka
    refine wp_region_held_drew (S:=fun W=>Six W w9.heap.size ka' ba' na' ta' xa' none 0 0∧Six W w11.heap.size y.k y.b y.n y.t y.x y.p y.len y.cap∧W.cell? ⟨gR,4,none⟩=some (.int .i64 cn.d)) (by kernel_rfl) ⟨U1,U2,c4⟩ (fun hHeld=>?_)
    refine tg (i:=0) (.bool r) rfl hHeld ?_
    refine tg (i:=1) (.bool r) rfl hHeld ?_
    refine tg (i:=2) (.bool false) rfl hHeld ?_
    refine tg (i:=3) (.bool false) rfl hHeld ?_
    refine tg (i:=4) (.bool on) rfl hHeld ?_
    refine tg (i:=5) (.bool on) rfl hHeld ?_
    refine tg (i:=6) (.bool false) rfl hHeld ?_
    refine tg (i:=7) (.bool false) rfl hHeld ?_
    refine tg (i:=8) (.bool false) rfl hHeld ?_
    refine tk (i:=9) rfl (yieldsIf_load_mid (by rfl) 39 (.tmp 13) rfl w9.heap.size 0 rfl [.int .i64 ka',.bool ba',.int .i64 na',.string ta',.string xa',.slice none 0 0] _ (fun W h=>zcy h.1.c0 h.1.c1 h.1.c2 h.1.c3 h.1.c4 h.1.c5) Tryz.underlying39 rfl zas) hHeld ?_
    refine tk (i:=10) rfl (yieldsIf_load_mid (by rfl) 39 (.tmp 15) rfl w11.heap.size 0 rfl [.int .i64 y.k,.bool y.b,.int .i64 y.n,.string y.t,.string y.x,.slice y.p y.len y.cap] _ (fun W h=>zcy h.2.1.c0 h.2.1.c1 h.2.1.c2 h.2.1.c3 h.2.1.c4 h.2.1.c5) Tryz.underlying39 rfl zas) hHeld ?_
    refine tr 11 rfl (fun K hK=>?_)
    rw [if_pos (by rfl)]
    go_simp
    refine (HSM.out _ L0).mono ?_
    rintro e0 w13 ⟨rfl,hb13⟩
    have L1:=L0.trans (hb13.mono L0.size)
    have HST13:=Lib.hid (HST12.out.bel L1)
    clear hb13 L0
    refine hK.out _ _ ⟨U1.below L1,U2.below L1,(L1.cell (p:=⟨gR,4,none⟩) (World.block_lt_of_cell? _ _ c4)).trans c4⟩ (fun hHeld2=>?_)
    clear hK K
    try simp only [putS]
    refine tg (i:=12) (.bool false) rfl hHeld2 ?_
    refine tg (i:=13) (.bool false) rfl hHeld2 ?_
    refine tg (i:=14) (.bool false) rfl hHeld2 ?_
    refine tg (i:=15) (.pointer (some ⟨g,0,none⟩)) rfl hHeld2 ?_
    refine tg (i:=17) (.pointer (some ⟨gR,0,none⟩)) rfl hHeld2 ?_
    refine tg (i:=18) (.pointer (some ⟨gR,0,none⟩)) rfl hHeld2 ?_
    refine tg (i:=19) (.pointer (some ⟨gR,4,none⟩)) rfl hHeld2 ?_
    refine tk (i:=20) (v:=.int .i64 cn.d) rfl (Or.inl ⟨by rfl,fun W h=>by have c0:=h.2.2;go_simp⟩) hHeld2 ?_
    refine tr 16 rfl (fun K hK=>?_)
    rw [if_pos (by rfl)]
    go_simp
    refine (zoy HST13.out.at_.B).mono ?_
    rintro e0 w14 ⟨rfl,rfl⟩
    skip
    refine hK.out _ _ ⟨U1.below L1,U2.below L1,(L1.cell (p:=⟨gR,4,none⟩) (World.block_lt_of_cell? _ _ c4)).trans c4⟩ (fun hHeld3=>?_)
    clear hK K
    try simp only [putS]
    refine tg (i:=21) (.bool false) rfl hHeld3 ?_
    refine tg (i:=22) (.bool false) rfl hHeld3 ?_
    refine wpAnyH_done (by kernel_rfl) ?_ _
    have HD13:=Lib.hid (HD12.out.below L1)
    have HY13:Hid (Below w3.heap.size w3 w14):=Lib.hid (HY12.out.trans (L1.mono HY12.out.size))
    have hs13:gR≤w14.heap.size:=Nat.le_trans hs12 L1.size
    clear L1 hHeld3 U1 U2 c4 HSM HD12 HST12 HY12
    go_wp2_with fail
    go_roundg (dl.length - (i+1))
    case measure=>omega
    case rel=>exact ⟨i+1,cn,way8,e8,by go_num,by omega,Nat.le_refl _,HST13,HR8,HD13,HY13,hs13⟩
   ·obtain ⟨r,hr⟩:∃ r,r=decide (1≤c.d):=⟨_,rfl⟩
    obtain ⟨cn,hcn⟩:∃ cn,cn=c.up:=⟨_,rfl⟩
    have HPC:Hid (Calls Tryz.prog 24 #[.pointer (some ⟨g,0,none⟩)] wr fun e w'=>e=.returned (.bool r)∧Only g wr w'∧Cur w' g cn):=Lib.hid (by rw [hr,hcn];exact upC ST.at_.B ST.fit.d3)
    have HPS:Hid (∀ W',Only g wr W'→Cur W' g cn→zbj w3 s W' g cn k):=Lib.hid (by rw [hcn];exact fun W' o B=>HST.out.upp o B)
    have HDC:Hid (∀ W,DCur W gR gR pl s.all.length cl (onm k) way ee→Below w3.heap.size w3 W→gR≤W.heap.size→Calls Tryz.prog 25 #[.pointer (some ⟨gR,0,none⟩)] W fun x w'=>zh6 s k cn r gR gR pl s.all.length cl W x w'):=Lib.hid (by rw [hr,hcn];exact fun W D b hg=>docUp R HST.out.fit D hg)
    have hrr:(r != r)=false:=by cases r <;> rfl
    clear hr hcn ST R
    go_upto_region 29 with (first
     |(go_at_call 24;(with_reducible refine HPC.out.mono ?_);rintro e w7 ⟨rfl,o7,B7⟩
       have HST7:=Lib.hid (HPS.out w7 o7 B7)
       have HD7:=Lib.hid (HDD.out.only o7 hgR)
       have HY7:=Lib.hid (zag HB.out o7 hg3 HB.out.size)
       have hs7:gR≤w7.heap.size:=Nat.le_trans hgw (o7.size)
       have HDC7:=Lib.hid (HDC.out w7 HD7.out HY7.out hs7)
       have c37:w7.cell? ⟨w.heap.size,3,none⟩=some (.slice (some ⟨gd,od,none⟩) dl.length dcap):=zab ((HY7.out.block _ (zac HS3.out)).trans HS3.out) 3 rfl
       have rv7:=zae HRV.out HY7.out
       clear HPC HPS HDC o7 B7 c3r)
     |(go_at_call 25;(with_reducible refine HDC7.out.mono ?_);rintro e w8 ⟨way8,e8,R8,D8,rfl,hb8⟩))
    have HST8:=Lib.hid (HST7.out.past hb8 hgR hgR3)
    have HR8:=Lib.hid R8
    have HD8:=Lib.hid D8
    have HY8:Hid (Below w3.heap.size w3 w8):=Lib.hid (HY7.out.trans (hb8.mono hgR3))
    have hs8:gR≤w8.heap.size:=Nat.le_trans hs7 hb8.size
    clear R8 D8 hb8 HST7 HD7 HY7 HDC7 c37 rv7 hs7 HST HDD HR HB HRV rvr hgw
    obtain ⟨ka',ba',na',ta',xa',ka⟩:=kvOf HST8.out HPL.out
    have HKA:=Lib.hid (zro HST8.out ka)
    go_upto_region 30 with (first
     |(go_at_call 30;(with_reducible refine HKA.out.mono ?_);rintro e w9 ⟨rfl,hb9⟩)
     |((with_reducible refine zat (k':=ka') (b':=ba') (n':=na') (t':=ta') (x':=xa') (p':=none) (len':=0) (cap':=0) (.tmp 13) (.tmp 136) w9.heap.size (zaf _ rfl) ?_ ?_ ?_ ?_ ?_);rfl;rfl;rfl;rfl;intro w10 hv10 u10))
    have z10:Below w8.heap.size w8 w10:=hb9.trans ((zag (za0 w9 _) hv10 (Nat.le_refl _) (by simp):Below w9.heap.size w9 w10).mono hb9.size)
    have HD10:=Lib.hid (HD8.out.below z10)
    have HST10:=Lib.hid (HST8.out.bel z10)
    have HY10:Hid (Below w3.heap.size w3 w10):=Lib.hid (HY8.out.trans (z10.mono HY8.out.size))
    have HKD:=Lib.hid (zrz HR8.out HST8.out.fit HD10.out)
    have hs10:gR≤w10.heap.size:=Nat.le_trans hs8 z10.size
    have HU10:=Lib.hid u10
    clear hb9 hv10 z10 u10 HKA HST8 HD8 HY8 hs8
    obtain ⟨on,hon⟩:∃ on,on=cn.on:=⟨_,rfl⟩
    rw [← hon] at HKD ⊢
    have hoo:(on != on)=false:=by cases on <;> rfl
    go_upto_region 31 with (first
     |(go_at_call 31;(with_reducible refine HKD.out.mono ?_);rintro e w11 ⟨y,qy,iy,rfl,hb11⟩)
     |((with_reducible refine zat (k':=y.k) (b':=y.b) (n':=y.n) (t':=y.t) (x':=y.x) (p':=y.p) (len':=y.len) (cap':=y.cap) (.tmp 15) (.tmp 141) w11.heap.size (zaf _ rfl) ?_ ?_ ?_ ?_ ?_);rfl;rfl;rfl;rfl;intro w12 hv12 u12))
    have z12:Below w10.heap.size w10 w12:=hb11.trans ((zag (za0 w11 _) hv12 (Nat.le_refl _) (by simp):Below w11.heap.size w11 w12).mono hb11.size)
    have HD12:=Lib.hid (HD10.out.below z12)
    have HST12:=Lib.hid (HST10.out.bel z12)
    have HY12:Hid (Below w3.heap.size w3 w12):=Lib.hid (HY10.out.trans (z12.mono HY10.out.size))
    have hs12:gR≤w12.heap.size:=Nat.le_trans hs10 z12.size
    have U1:=HU10.out.below z12
    have U2:=u12
    have HSM:Hid (∀ W,Below w12.heap.size w12 W→Calls Tryz.prog 32 #[.agg #[.int .i64 ka',.bool ba',.int .i64 na',.string ta',.string xa',.slice none 0 0],.agg #[.int .i64 y.k,.bool y.b,.int .i64 y.n,.string y.t,.string y.x,.slice y.p y.len y.cap]] W fun e w'=>e=.returned (.bool true)∧Below W.heap.size W w'):=Lib.hid fun W b=>by
     have:=zox ⟨ka',ba',na',ta',xa',none,0,0⟩ y _ _ [] qy W (kvIs ka W) ((iy.below z12).below b)
     rwa [zdo] at this
    have hlen:=HR8.out.len
    have c4:w12.cell? ⟨gR,4,none⟩=some (.int .i64 cn.d):=by
     obtain ⟨⟨pw,cw,B,_⟩,_⟩:=HD12.out
     rw [← hlen]
     exact zab B 4 rfl
    have L0:Below w12.heap.size w12 w12.drew:=(Below.refl _ _).drew
    clear iy hb11 hv12 z12 u12 HKD HU10 HST10 HD10 HY10 hs10 ka
    refine wp_region_held_drew (S:=fun W=>Six W w9.heap.size ka' ba' na' ta' xa' none 0 0∧Six W w11.heap.size y.k y.b y.n y.t y.x y.p y.len y.cap∧W.cell? ⟨gR,4,none⟩=some (.int .i64 cn.d)) (by kernel_rfl) ⟨U1,U2,c4⟩ (fun hHeld=>?_)
    refine tg (i:=0) (.bool r) rfl hHeld ?_
    refine tg (i:=1) (.bool r) rfl hHeld ?_
    refine tg (i:=2) (.bool false) rfl hHeld ?_
    refine tg (i:=3) (.bool false) rfl hHeld ?_
    refine tg (i:=4) (.bool on) rfl hHeld ?_
    refine tg (i:=5) (.bool on) rfl hHeld ?_
    refine tg (i:=6) (.bool false) rfl hHeld ?_
    refine tg (i:=7) (.bool false) rfl hHeld ?_
    refine tg (i:=8) (.bool false) rfl hHeld ?_
    refine tk (i:=9) rfl (yieldsIf_load_mid (by rfl) 39 (.tmp 13) rfl w9.heap.size 0 rfl [.int .i64 ka',.bool ba',.int .i64 na',.string ta',.string xa',.slice none 0 0] _ (fun W h=>zcy h.1.c0 h.1.c1 h.1.c2 h.1.c3 h.1.c4 h.1.c5) Tryz.underlying39 rfl zas) hHeld ?_
    refine tk (i:=10) rfl (yieldsIf_load_mid (by rfl) 39 (.tmp 15) rfl w11.heap.size 0 rfl [.int .i64 y.k,.bool y.b,.int .i64 y.n,.string y.t,.string y.x,.slice y.p y.len y.cap] _ (fun W h=>zcy h.2.1.c0 h.2.1.c1 h.2.1.c2 h.2.1.c3 h.2.1.c4 h.2.1.c5) Tryz.underlying39 rfl zas) hHeld ?_
    refine tr 11 rfl (fun K hK=>?_)
    rw [if_pos (by rfl)]
    go_simp
    refine (HSM.out _ L0).mono ?_
    rintro e0 w13 ⟨rfl,hb13⟩
    have L1:=L0.trans (hb13.mono L0.size)
    have HST13:=Lib.hid (HST12.out.bel L1)
    clear hb13 L0
    refine hK.out _ _ ⟨U1.below L1,U2.below L1,(L1.cell (p:=⟨gR,4,none⟩) (World.block_lt_of_cell? _ _ c4)).trans c4⟩ (fun hHeld2=>?_)
    clear hK K
    try simp only [putS]
    refine tg (i:=12) (.bool false) rfl hHeld2 ?_
    refine tg (i:=13) (.bool false) rfl hHeld2 ?_
    refine tg (i:=14) (.bool false) rfl hHeld2 ?_
    refine tg (i:=15) (.pointer (some ⟨g,0,none⟩)) rfl hHeld2 ?_
    refine tg (i:=17) (.pointer (some ⟨gR,0,none⟩)) rfl hHeld2 ?_
    refine tg (i:=18) (.pointer (some ⟨gR,0,none⟩)) rfl hHeld2 ?_
    refine tg (i:=19) (.pointer (some ⟨gR,4,none⟩)) rfl hHeld2 ?_
    refine tk (i:=20) (v:=.int .i64 cn.d) rfl (Or.inl ⟨by rfl,fun W h=>by have c0:=h.2.2;go_simp⟩) hHeld2 ?_
    refine tr 16 rfl (fun K hK=>?_)
    rw [if_pos (by rfl)]
    go_simp
    refine (zoy HST13.out.at_.B).mono ?_
    rintro e0 w14 ⟨rfl,rfl⟩
    skip
    refine hK.out _ _ ⟨U1.below L1,U2.below L1,(L1.cell (p:=⟨gR,4,none⟩) (World.block_lt_of_cell? _ _ c4)).trans c4⟩ (fun hHeld3=>?_)
    clear hK K
    try simp only [putS]
    refine tg (i:=21) (.bool false) rfl hHeld3 ?_
    refine tg (i:=22) (.bool false) rfl hHeld3 ?_
    refine wpAnyH_done (by kernel_rfl) ?_ _
    have HD13:=Lib.hid (HD12.out.below L1)
    have HY13:Hid (Below w3.heap.size w3 w14):=Lib.hid (HY12.out.trans (L1.mono HY12.out.size))
    have hs13:gR≤w14.heap.size:=Nat.le_trans hs12 L1.size
    clear L1 hHeld3 U1 U2 c4 HSM HD12 HST12 HY12
    go_wp2_with fail
    go_roundg (dl.length - (i+1))
    case measure=>omega
    case rel=>exact ⟨i+1,cn,way8,e8,by go_num,by omega,Nat.le_refl _,HST13,HR8,HD13,HY13,hs13⟩
   ·obtain ⟨r,hr⟩:∃ r,r=(c.next s k).on:=⟨_,rfl⟩
    obtain ⟨cn,hcn⟩:∃ cn,cn=c.next s k:=⟨_,rfl⟩
    have HPC:Hid (Calls Tryz.prog 26 #[.pointer (some ⟨g,0,none⟩)] wr fun e w'=>e=.returned (.bool r)∧Only g wr w'∧Cur w' g cn):=Lib.hid (by rw [hr,hcn];exact nextC ST)
    have HPS:Hid (∀ W',Only g wr W'→Cur W' g cn→zbj w3 s W' g cn k):=Lib.hid (by rw [hcn];exact fun W' o B=>HST.out.next o B)
    have HDC:Hid (∀ W,DCur W gR gR pl s.all.length cl (onm k) way ee→Below w3.heap.size w3 W→gR≤W.heap.size→Calls Tryz.prog 27 #[.pointer (some ⟨gR,0,none⟩)] W fun x w'=>zh6 s k cn r gR gR pl s.all.length cl W x w'):=Lib.hid (by rw [hr,hcn];exact fun W D b hg=>docNext R HST.out.fit HLO.out hL HGOOD.out hk D (HTR.out W b) hA hcA hg)
    have hrr:(r != r)=false:=by cases r <;> rfl
    clear hr hcn ST R
    go_upto_region 29 with (first
     |(go_at_call 26;(with_reducible refine HPC.out.mono ?_);rintro e w7 ⟨rfl,o7,B7⟩
       have HST7:=Lib.hid (HPS.out w7 o7 B7)
       have HD7:=Lib.hid (HDD.out.only o7 hgR)
       have HY7:=Lib.hid (zag HB.out o7 hg3 HB.out.size)
       have hs7:gR≤w7.heap.size:=Nat.le_trans hgw (o7.size)
       have HDC7:=Lib.hid (HDC.out w7 HD7.out HY7.out hs7)
       have c37:w7.cell? ⟨w.heap.size,3,none⟩=some (.slice (some ⟨gd,od,none⟩) dl.length dcap):=zab ((HY7.out.block _ (zac HS3.out)).trans HS3.out) 3 rfl
       have rv7:=zae HRV.out HY7.out
       clear HPC HPS HDC o7 B7 c3r)
     |(go_at_call 27;(with_reducible refine HDC7.out.mono ?_);rintro e w8 ⟨way8,e8,R8,D8,rfl,hb8⟩))
    have HST8:=Lib.hid (HST7.out.past hb8 hgR hgR3)
    have HR8:=Lib.hid R8
    have HD8:=Lib.hid D8
    have HY8:Hid (Below w3.heap.size w3 w8):=Lib.hid (HY7.out.trans (hb8.mono hgR3))
    have hs8:gR≤w8.heap.size:=Nat.le_trans hs7 hb8.size
    clear R8 D8 hb8 HST7 HD7 HY7 HDC7 c37 rv7 hs7 HST HDD HR HB HRV rvr hgw
    obtain ⟨ka',ba',na',ta',xa',ka⟩:=kvOf HST8.out HPL.out
    have HKA:=Lib.hid (zro HST8.out ka)
    go_upto_region 30 with (first
     |(go_at_call 30;(with_reducible refine HKA.out.mono ?_);rintro e w9 ⟨rfl,hb9⟩)
     |((with_reducible refine zat (k':=ka') (b':=ba') (n':=na') (t':=ta') (x':=xa') (p':=none) (len':=0) (cap':=0) (.tmp 13) (.tmp 136) w9.heap.size (zaf _ rfl) ?_ ?_ ?_ ?_ ?_);rfl;rfl;rfl;rfl;intro w10 hv10 u10))
    have z10:Below w8.heap.size w8 w10:=hb9.trans ((zag (za0 w9 _) hv10 (Nat.le_refl _) (by simp):Below w9.heap.size w9 w10).mono hb9.size)
    have HD10:=Lib.hid (HD8.out.below z10)
    have HST10:=Lib.hid (HST8.out.bel z10)
    have HY10:Hid (Below w3.heap.size w3 w10):=Lib.hid (HY8.out.trans (z10.mono HY8.out.size))
    have HKD:=Lib.hid (zrz HR8.out HST8.out.fit HD10.out)
    have hs10:gR≤w10.heap.size:=Nat.le_trans hs8 z10.size
    have HU10:=Lib.hid u10
    clear hb9 hv10 z10 u10 HKA HST8 HD8 HY8 hs8
    obtain ⟨on,hon⟩:∃ on,on=cn.on:=⟨_,rfl⟩
    rw [← hon] at HKD ⊢
    have hoo:(on != on)=false:=by cases on <;> rfl
    go_upto_region 31 with (first
     |(go_at_call 31;(with_reducible refine HKD.out.mono ?_);rintro e w11 ⟨y,qy,iy,rfl,hb11⟩)
     |((with_reducible refine zat (k':=y.k) (b':=y.b) (n':=y.n) (t':=y.t) (x':=y.x) (p':=y.p) (len':=y.len) (cap':=y.cap) (.tmp 15) (.tmp 141) w11.heap.size (zaf _ rfl) ?_ ?_ ?_ ?_ ?_);rfl;rfl;rfl;rfl;intro w12 hv12 u12))
    have z12:Below w10.heap.size w10 w12:=hb11.trans ((zag (za0 w11 _) hv12 (Nat.le_refl _) (by simp):Below w11.heap.size w11 w12).mono hb11.size)
    have HD12:=Lib.hid (HD10.out.below z12)
    have HST12:=Lib.hid (HST10.out.bel z12)
    have HY12:Hid (Below w3.heap.size w3 w12):=Lib.hid (HY10.out.trans (z12.mono HY10.out.size))
    have hs12:gR≤w12.heap.size:=Nat.le_trans hs10 z12.size
    have U1:=HU10.out.below z12
    have U2:=u12
    have HSM:Hid (∀ W,Below w12.heap.size w12 W→Calls Tryz.prog 32 #[.agg #[.int .i64 ka',.bool ba',.int .i64 na',.string ta',.string xa',.slice none 0 0],.agg #[.int .i64 y.k,.bool y.b,.int .i64 y.n,.string y.t,.string y.x,.slice y.p y.len y.cap]] W fun e w'=>e=.returned (.bool true)∧Below W.heap.size W w'):=Lib.hid fun W b=>by
     have:=zox ⟨ka',ba',na',ta',xa',none,0,0⟩ y _ _ [] qy W (kvIs ka W) ((iy.below z12).below b)
     rwa [zdo] at this
    have hlen:=HR8.out.len
    have c4:w12.cell? ⟨gR,4,none⟩=some (.int .i64 cn.d):=by
     obtain ⟨⟨pw,cw,B,_⟩,_⟩:=HD12.out
     rw [← hlen]
     exact zab B 4 rfl
    have L0:Below w12.heap.size w12 w12.drew:=(Below.refl _ _).drew
    clear iy hb11 hv12 z12 u12 HKD HU10 HST10 HD10 HY10 hs10 ka
    refine wp_region_held_drew (S:=fun W=>Six W w9.heap.size ka' ba' na' ta' xa' none 0 0∧Six W w11.heap.size y.k y.b y.n y.t y.x y.p y.len y.cap∧W.cell? ⟨gR,4,none⟩=some (.int .i64 cn.d)) (by kernel_rfl) ⟨U1,U2,c4⟩ (fun hHeld=>?_)
    refine tg (i:=0) (.bool r) rfl hHeld ?_
    refine tg (i:=1) (.bool r) rfl hHeld ?_
    refine tg (i:=2) (.bool false) rfl hHeld ?_
    refine tg (i:=3) (.bool false) rfl hHeld ?_
    refine tg (i:=4) (.bool on) rfl hHeld ?_
    refine tg (i:=5) (.bool on) rfl hHeld ?_
    refine tg (i:=6) (.bool false) rfl hHeld ?_
    refine tg (i:=7) (.bool false) rfl hHeld ?_
    refine tg (i:=8) (.bool false) rfl hHeld ?_
    refine tk (i:=9) rfl (yieldsIf_load_mid (by rfl) 39 (.tmp 13) rfl w9.heap.size 0 rfl [.int .i64 ka',.bool ba',.int .i64 na',.string ta',.string xa',.slice none 0 0] _ (fun W h=>zcy h.1.c0 h.1.c1 h.1.c2 h.1.c3 h.1.c4 h.1.c5) Tryz.underlying39 rfl zas) hHeld ?_
    refine tk (i:=10) rfl (yieldsIf_load_mid (by rfl) 39 (.tmp 15) rfl w11.heap.size 0 rfl [.int .i64 y.k,.bool y.b,.int .i64 y.n,.string y.t,.string y.x,.slice y.p y.len y.cap] _ (fun W h=>zcy h.2.1.c0 h.2.1.c1 h.2.1.c2 h.2.1.c3 h.2.1.c4 h.2.1.c5) Tryz.underlying39 rfl zas) hHeld ?_
    refine tr 11 rfl (fun K hK=>?_)
    rw [if_pos (by rfl)]
    go_simp
    refine (HSM.out _ L0).mono ?_
    rintro e0 w13 ⟨rfl,hb13⟩
    have L1:=L0.trans (hb13.mono L0.size)
    have HST13:=Lib.hid (HST12.out.bel L1)
    clear hb13 L0
    refine hK.out _ _ ⟨U1.below L1,U2.below L1,(L1.cell (p:=⟨gR,4,none⟩) (World.block_lt_of_cell? _ _ c4)).trans c4⟩ (fun hHeld2=>?_)
    clear hK K
    try simp only [putS]
    refine tg (i:=12) (.bool false) rfl hHeld2 ?_
    refine tg (i:=13) (.bool false) rfl hHeld2 ?_
    refine tg (i:=14) (.bool false) rfl hHeld2 ?_
    refine tg (i:=15) (.pointer (some ⟨g,0,none⟩)) rfl hHeld2 ?_
    refine tg (i:=17) (.pointer (some ⟨gR,0,none⟩)) rfl hHeld2 ?_
    refine tg (i:=18) (.pointer (some ⟨gR,0,none⟩)) rfl hHeld2 ?_
    refine tg (i:=19) (.pointer (some ⟨gR,4,none⟩)) rfl hHeld2 ?_
    refine tk (i:=20) (v:=.int .i64 cn.d) rfl (Or.inl ⟨by rfl,fun W h=>by have c0:=h.2.2;go_simp⟩) hHeld2 ?_
    refine tr 16 rfl (fun K hK=>?_)
    rw [if_pos (by rfl)]
    go_simp
    refine (zoy HST13.out.at_.B).mono ?_
    rintro e0 w14 ⟨rfl,rfl⟩
    skip
    refine hK.out _ _ ⟨U1.below L1,U2.below L1,(L1.cell (p:=⟨gR,4,none⟩) (World.block_lt_of_cell? _ _ c4)).trans c4⟩ (fun hHeld3=>?_)
    clear hK K
    try simp only [putS]
    refine tg (i:=21) (.bool false) rfl hHeld3 ?_
    refine tg (i:=22) (.bool false) rfl hHeld3 ?_
    refine wpAnyH_done (by kernel_rfl) ?_ _
    have HD13:=Lib.hid (HD12.out.below L1)
    have HY13:Hid (Below w3.heap.size w3 w14):=Lib.hid (HY12.out.trans (L1.mono HY12.out.size))
    have hs13:gR≤w14.heap.size:=Nat.le_trans hs12 L1.size
    clear L1 hHeld3 U1 U2 c4 HSM HD12 HST12 HY12
    go_wp2_with fail
    go_roundg (dl.length - (i+1))
    case measure=>omega
    case rel=>exact ⟨i+1,cn,way8,e8,by go_num,by omega,Nat.le_refl _,HST13,HR8,HD13,HY13,hs13⟩
   ·have e0:(z == 0)=false:=by simpa using z0
    have e1:(z == 1)=false:=by simpa using z1
    have e2:(z == 2)=false:=by simpa using z2
    clear z0 z1 z2
    obtain ⟨r,hr⟩:∃ r,r=(c.seek s k u).on:=⟨_,rfl⟩
    obtain ⟨cn,hcn⟩:∃ cn,cn=c.seek s k u:=⟨_,rfl⟩
    have HPC:Hid (Calls Tryz.prog 28 #[.pointer (some ⟨g,0,none⟩),.agg #[.int .i64 v.k,.bool v.b,.int .i64 v.n,.string v.t,.string v.x,.slice v.p v.len v.cap]] wr fun e w'=>e=.returned (.bool r)∧Only g wr w'∧Cur w' g cn):=Lib.hid (by rw [hr,hcn];exact seekC ST (HG3.out.below HB.out) (HT3.out.below HB.out) v u q (HV.out.below HB.out))
    have HPS:Hid (∀ W',Only g wr W'→Cur W' g cn→zbj w3 s W' g cn k):=Lib.hid (by rw [hcn];exact fun W' o B=>HST.out.seek u o B)
    have HDC:Hid (∀ W,DCur W gR gR pl s.all.length cl (onm k) way ee→Below w3.heap.size w3 W→gR≤W.heap.size→Calls Tryz.prog 29 #[.pointer (some ⟨gR,0,none⟩),.agg #[.int .i64 v.k,.bool v.b,.int .i64 v.n,.string v.t,.string v.x,.slice v.p v.len v.cap]] W fun x w'=>zh6 s k cn r gR gR pl s.all.length cl W x w'):=Lib.hid (by rw [hr,hcn];exact fun W D b hg=>docSeek v u q (HV.out.below b) R HST.out.fit HLO.out hL HGOOD.out hk D (HTR.out W b) hA hcA hg)
    have hrr:(r != r)=false:=by cases r <;> rfl
    clear hr hcn ST R
    go_upto_region 29 with (first
     |((with_reducible refine zal (.tmp 104) gd (od+i*7+1) v rvr ?_ ?_ ?_ ?_);rfl;rfl;rfl)
     |((with_reducible refine zal (.tmp 112) gd (od+i*7+1) v rv7 ?_ ?_ ?_ ?_);rfl;rfl;rfl)
     |(go_at_call 28;(with_reducible refine HPC.out.mono ?_);rintro e w7 ⟨rfl,o7,B7⟩
       have HST7:=Lib.hid (HPS.out w7 o7 B7)
       have HD7:=Lib.hid (HDD.out.only o7 hgR)
       have HY7:=Lib.hid (zag HB.out o7 hg3 HB.out.size)
       have hs7:gR≤w7.heap.size:=Nat.le_trans hgw (o7.size)
       have HDC7:=Lib.hid (HDC.out w7 HD7.out HY7.out hs7)
       have c37:w7.cell? ⟨w.heap.size,3,none⟩=some (.slice (some ⟨gd,od,none⟩) dl.length dcap):=zab ((HY7.out.block _ (zac HS3.out)).trans HS3.out) 3 rfl
       have rv7:=zae HRV.out HY7.out
       clear HPC HPS HDC o7 B7 c3r)
     |(go_at_call 29;(with_reducible refine HDC7.out.mono ?_);rintro e w8 ⟨way8,e8,R8,D8,rfl,hb8⟩))
    have HST8:=Lib.hid (HST7.out.past hb8 hgR hgR3)
    have HR8:=Lib.hid R8
    have HD8:=Lib.hid D8
    have HY8:Hid (Below w3.heap.size w3 w8):=Lib.hid (HY7.out.trans (hb8.mono hgR3))
    have hs8:gR≤w8.heap.size:=Nat.le_trans hs7 hb8.size
    clear R8 D8 hb8 HST7 HD7 HY7 HDC7 c37 rv7 hs7 HST HDD HR HB HRV rvr hgw
    obtain ⟨ka',ba',na',ta',xa',ka⟩:=kvOf HST8.out HPL.out
    have HKA:=Lib.hid (zro HST8.out ka)
    go_upto_region 30 with (first
     |(go_at_call 30;(with_reducible refine HKA.out.mono ?_);rintro e w9 ⟨rfl,hb9⟩)
     |((with_reducible refine zat (k':=ka') (b':=ba') (n':=na') (t':=ta') (x':=xa') (p':=none) (len':=0) (cap':=0) (.tmp 13) (.tmp 136) w9.heap.size (zaf _ rfl) ?_ ?_ ?_ ?_ ?_);rfl;rfl;rfl;rfl;intro w10 hv10 u10))
    have z10:Below w8.heap.size w8 w10:=hb9.trans ((zag (za0 w9 _) hv10 (Nat.le_refl _) (by simp):Below w9.heap.size w9 w10).mono hb9.size)
    have HD10:=Lib.hid (HD8.out.below z10)
    have HST10:=Lib.hid (HST8.out.bel z10)
    have HY10:Hid (Below w3.heap.size w3 w10):=Lib.hid (HY8.out.trans (z10.mono HY8.out.size))
    have HKD:=Lib.hid (zrz HR8.out HST8.out.fit HD10.out)
    have hs10:gR≤w10.heap.size:=Nat.le_trans hs8 z10.size
    have HU10:=Lib.hid u10
    clear hb9 hv10 z10 u10 HKA HST8 HD8 HY8 hs8
    obtain ⟨on,hon⟩:∃ on,on=cn.on:=⟨_,rfl⟩
    rw [← hon] at HKD ⊢
    have hoo:(on != on)=false:=by cases on <;> rfl
    go_upto_region 31 with (first
     |(go_at_call 31;(with_reducible refine HKD.out.mono ?_);rintro e w11 ⟨y,qy,iy,rfl,hb11⟩)
     |((with_reducible refine zat (k':=y.k) (b':=y.b) (n':=y.n) (t':=y.t) (x':=y.x) (p':=y.p) (len':=y.len) (cap':=y.cap) (.tmp 15) (.tmp 141) w11.heap.size (zaf _ rfl) ?_ ?_ ?_ ?_ ?_);rfl;rfl;rfl;rfl;intro w12 hv12 u12))
    have z12:Below w10.heap.size w10 w12:=hb11.trans ((zag (za0 w11 _) hv12 (Nat.le_refl _) (by simp):Below w11.heap.size w11 w12).mono hb11.size)
    have HD12:=Lib.hid (HD10.out.below z12)
    have HST12:=Lib.hid (HST10.out.bel z12)
    have HY12:Hid (Below w3.heap.size w3 w12):=Lib.hid (HY10.out.trans (z12.mono HY10.out.size))
    have hs12:gR≤w12.heap.size:=Nat.le_trans hs10 z12.size
    have U1:=HU10.out.below z12
    have U2:=u12
    have HSM:Hid (∀ W,Below w12.heap.size w12 W→Calls Tryz.prog 32 #[.agg #[.int .i64 ka',.bool ba',.int .i64 na',.string ta',.string xa',.slice none 0 0],.agg #[.int .i64 y.k,.bool y.b,.int .i64 y.n,.string y.t,.string y.x,.slice y.p y.len y.cap]] W fun e w'=>e=.returned (.bool true)∧Below W.heap.size W w'):=Lib.hid fun W b=>by
     have:=zox ⟨ka',ba',na',ta',xa',none,0,0⟩ y _ _ [] qy W (kvIs ka W) ((iy.below z12).below b)
     rwa [zdo] at this
    have hlen:=HR8.out.len
    have c4:w12.cell? ⟨gR,4,none⟩=some (.int .i64 cn.d):=by
     obtain ⟨⟨pw,cw,B,_⟩,_⟩:=HD12.out
     rw [← hlen]
     exact zab B 4 rfl
    have L0:Below w12.heap.size w12 w12.drew:=(Below.refl _ _).drew
    clear iy hb11 hv12 z12 u12 HKD HU10 HST10 HD10 HY10 hs10 ka
    refine wp_region_held_drew (S:=fun W=>Six W w9.heap.size ka' ba' na' ta' xa' none 0 0∧Six W w11.heap.size y.k y.b y.n y.t y.x y.p y.len y.cap∧W.cell? ⟨gR,4,none⟩=some (.int .i64 cn.d)) (by kernel_rfl) ⟨U1,U2,c4⟩ (fun hHeld=>?_)
    refine tg (i:=0) (.bool r) rfl hHeld ?_
    refine tg (i:=1) (.bool r) rfl hHeld ?_
    refine tg (i:=2) (.bool false) rfl hHeld ?_
    refine tg (i:=3) (.bool false) rfl hHeld ?_
    refine tg (i:=4) (.bool on) rfl hHeld ?_
    refine tg (i:=5) (.bool on) rfl hHeld ?_
    refine tg (i:=6) (.bool false) rfl hHeld ?_
    refine tg (i:=7) (.bool false) rfl hHeld ?_
    refine tg (i:=8) (.bool false) rfl hHeld ?_
    refine tk (i:=9) rfl (yieldsIf_load_mid (by rfl) 39 (.tmp 13) rfl w9.heap.size 0 rfl [.int .i64 ka',.bool ba',.int .i64 na',.string ta',.string xa',.slice none 0 0] _ (fun W h=>zcy h.1.c0 h.1.c1 h.1.c2 h.1.c3 h.1.c4 h.1.c5) Tryz.underlying39 rfl zas) hHeld ?_
    refine tk (i:=10) rfl (yieldsIf_load_mid (by rfl) 39 (.tmp 15) rfl w11.heap.size 0 rfl [.int .i64 y.k,.bool y.b,.int .i64 y.n,.string y.t,.string y.x,.slice y.p y.len y.cap] _ (fun W h=>zcy h.2.1.c0 h.2.1.c1 h.2.1.c2 h.2.1.c3 h.2.1.c4 h.2.1.c5) Tryz.underlying39 rfl zas) hHeld ?_
    refine tr 11 rfl (fun K hK=>?_)
    rw [if_pos (by rfl)]
    go_simp
    refine (HSM.out _ L0).mono ?_
    rintro e0 w13 ⟨rfl,hb13⟩
    have L1:=L0.trans (hb13.mono L0.size)
    have HST13:=Lib.hid (HST12.out.bel L1)
    clear hb13 L0
    refine hK.out _ _ ⟨U1.below L1,U2.below L1,(L1.cell (p:=⟨gR,4,none⟩) (World.block_lt_of_cell? _ _ c4)).trans c4⟩ (fun hHeld2=>?_)
    clear hK K
    try simp only [putS]
    refine tg (i:=12) (.bool false) rfl hHeld2 ?_
    refine tg (i:=13) (.bool false) rfl hHeld2 ?_
    refine tg (i:=14) (.bool false) rfl hHeld2 ?_
    refine tg (i:=15) (.pointer (some ⟨g,0,none⟩)) rfl hHeld2 ?_
    refine tg (i:=17) (.pointer (some ⟨gR,0,none⟩)) rfl hHeld2 ?_
    refine tg (i:=18) (.pointer (some ⟨gR,0,none⟩)) rfl hHeld2 ?_
    refine tg (i:=19) (.pointer (some ⟨gR,4,none⟩)) rfl hHeld2 ?_
    refine tk (i:=20) (v:=.int .i64 cn.d) rfl (Or.inl ⟨by rfl,fun W h=>by have c0:=h.2.2;go_simp⟩) hHeld2 ?_
    refine tr 16 rfl (fun K hK=>?_)
    rw [if_pos (by rfl)]
    go_simp
    refine (zoy HST13.out.at_.B).mono ?_
    rintro e0 w14 ⟨rfl,rfl⟩
    skip
    refine hK.out _ _ ⟨U1.below L1,U2.below L1,(L1.cell (p:=⟨gR,4,none⟩) (World.block_lt_of_cell? _ _ c4)).trans c4⟩ (fun hHeld3=>?_)
    clear hK K
    try simp only [putS]
    refine tg (i:=21) (.bool false) rfl hHeld3 ?_
    refine tg (i:=22) (.bool false) rfl hHeld3 ?_
    refine wpAnyH_done (by kernel_rfl) ?_ _
    have HD13:=Lib.hid (HD12.out.below L1)
    have HY13:Hid (Below w3.heap.size w3 w14):=Lib.hid (HY12.out.trans (L1.mono HY12.out.size))
    have hs13:gR≤w14.heap.size:=Nat.le_trans hs12 L1.size
    clear L1 hHeld3 U1 U2 c4 HSM HD12 HST12 HY12
    go_wp2_with fail
    go_roundg (dl.length - (i+1))
    case measure=>omega
    case rel=>exact ⟨i+1,cn,way8,e8,by go_num,by omega,Nat.le_refl _,HST13,HR8,HD13,HY13,hs13⟩
end Go.Proofs.YtanbgdhmfjgihaaGreatDoor
