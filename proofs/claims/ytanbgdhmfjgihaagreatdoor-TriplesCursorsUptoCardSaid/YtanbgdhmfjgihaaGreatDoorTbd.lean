/- Texts of one kind, one behind the other: each says ahead of itself what it shows. -/
import Derived.Test.YtanbgdhmfjgihaaGreatDoorTbc
namespace Go.Proofs.YtanbgdhmfjgihaaGreatDoor
open Go.RowKit
set_option maxHeartbeats 12800000
set_option maxRecDepth 20000
def RCur (W:World) (gR:Nat) (pl:Option Addr) (N cl:Nat) (ord:ByteArray) (pw:Option Addr) (nw cw:Nat) (e:Bool) (d:Int):Prop:=W.heap[gR]?=some (.cells #[.slice pl N cl,.string ord,.slice pw nw cw,.bool e,.int .i64 d] 55)
theorem zvu {W:World} {g:Nat} {c:Array Value} {t:TypeId} (h:W.heap[g]?=some (.cells c t)):W.rangeAt g 0 c.toList:=fun i v hv=>by
 rw [Nat.zero_add]
 exact zab h i (by simpa using hv)
theorem zyr (kk n:Nat) (hk:kk < 6) (hn:n < 3):n < (onm kk).size∧∀ h:n < (onm kk).size,(((onm kk)[n]'h).toNat:Int)=zmk (levN kk n):=by
 obtain rfl | rfl | rfl | rfl | rfl | rfl:kk=0∨kk=1∨kk=2∨kk=3∨kk=4∨kk=5:=by omega
 all_goals
  obtain rfl | rfl | rfl:n=0∨n=1∨n=2:=by omega
  all_goals exact ⟨by decide,fun _=>rfl⟩
theorem zys (all:List Tri3) (pl:Option Addr) (cl:Nat) (kk n:Nat) (hk:kk < 6) (hn:n < 3) (pw:Option Addr) (nw cw:Nat) (wv:Nat→V6) (way:Nat→Val) (e:Bool) (dd:Int) (gR:Nat) (w:World) (B:RCur w gR pl all.length cl (onm kk) pw nw cw e dd) (hl:Tris w (.slice pl all.length cl) all) (hn60:all.length≤65536) (hc:∀ t∈all,zbl t=true) (hnw:n≤nw) (hw:0 < n→∃ gw,pw=some ⟨gw,0,none⟩∧∀ i,i < n→Is w (wv i) (way i) []∧w.rangeAt gw (i*6) [.int .i64 (wv i).k,.bool (wv i).b,.int .i64 (wv i).n,.string (wv i).t,.string (wv i).x,.slice (wv i).p (wv i).len (wv i).cap]):
 Calls Tryz.prog 57 #[.pointer (some ⟨gR,0,none⟩),.int .i64 n] w fun e w'=>∃ V,e=.returned V∧∃ ks,InsV (srcT all way (levN kk) n all.length) ks∧AccW w ks V w':=by
 obtain ⟨N,hN⟩:∃ N,N=all.length:=⟨_,rfl⟩
 rw [← hN] at hl B hn60 ⊢
 obtain ⟨i0,hi,hz0,hz1,hz2⟩:=info_parts zm9
 have hgR:=zac B
 have HC0:Hid (∀ W,Below w.heap.size w W→W.cell? ⟨gR,0,none⟩=some (.slice pl N cl)):=Lib.hid fun W hb=>(hb.cell (p:=⟨gR,0,none⟩) hgR).trans (zab B 0 rfl)
 have HC1:Hid (∀ W,Below w.heap.size w W→W.cell? ⟨gR,1,none⟩=some (.string (onm kk))):=Lib.hid fun W hb=>(hb.cell (p:=⟨gR,1,none⟩) hgR).trans (zab B 1 rfl)
 have HC2:Hid (∀ W,Below w.heap.size w W→W.cell? ⟨gR,2,none⟩=some (.slice pw nw cw)):=Lib.hid fun W hb=>(hb.cell (p:=⟨gR,2,none⟩) hgR).trans (zab B 2 rfl)
 have c0:=HC0.out w (Below.refl _ _)
 have HN:=Lib.hid hN
 have HH:=Lib.hid hl
 have HCH:=Lib.hid hc
 have HWV:=Lib.hid hw
 clear hl hc hN hgR B hw
 go_enter Tryz.func57,Tryz.ntmps57
 go_wp2_with fail
 clear c0
 go_loopg [5,6] N (fun gg s5 s6 wr=>∃ (i:Nat) (A:Value),A=s5∧i+gg=N∧s6=.int .i64 i∧Hid (∃ out,InsV (srcT all way (levN kk) n i) out∧AccW w out A wr))
 case atStart=>exact ⟨0,_,rfl,by omega,rfl,Lib.hid ⟨[],by rw [zvq];exact InsV.zero,[],rfl,World.ownsRow_nil _ _ _ _,Below.refl _ _⟩⟩
 case round=>
  obtain ⟨i,A,rfl,hig,rfl,HA⟩:=hrel
  obtain ⟨out,hins,d,hd,hown,hbel⟩:=HA.out
  have c0:=HC0.out wr hbel
  by_cases hlt:(i:Int) < N
  ·have hi1:i < all.length:=by have:=HN.out;omega
   obtain ⟨g,off,rfl,hh⟩:∃ g off,pl=some ⟨g,off,none⟩∧zar w g off (flat all):=by
    obtain ⟨p1,cap1,e,h1⟩:=HH.out
    obtain ⟨g,off,e2,h2⟩:=h1 (by intro e;rw [e] at hi1;exact absurd hi1 (by simp))
    injection e with e3 _ _
    exact ⟨g,off,by rw [e3];exact e2,h2⟩
   obtain ⟨s,p,o,ls,lp,lo,is,ip,io,ra⟩:=zhb hh i hi1
   have hch:=HCH.out _ (List.getElem_mem hi1)
   have hpa:∀ v,v < 3→∃ q,Is w (v3g s p o v) (zdt all[i] v) q:=fun v hv=>by
    obtain rfl | rfl | rfl:v=0∨v=1∨v=2:=by omega
    ·exact ⟨_,is⟩
    ·exact ⟨_,ip⟩
    ·exact ⟨_,io⟩
   obtain ⟨pa,ca,rfl,hmc,hpn,hcl⟩:=zhw hown
   have hml:=hins.len
   have hsl:=zrx (all:=all) (way:=way) (lv:=levN kk) (n:=n) (i:=i)
   obtain ⟨m,hm⟩:∃ m,m=out.length:=⟨_,rfl⟩
   rw [← hm] at hmc hpn hml hown ⊢
   have hmi:m≤i:=by omega
   have HM:=Lib.hid hm
   have HINS:=Lib.hid hins
   have HX:=Lib.hid (And.intro hd (And.intro hown hbel))
   have HCL:=Lib.hid hcl
   have HPN:=Lib.hid hpn
   have HRA:=Lib.hid ra
   have HPAR:=Lib.hid hpa
   have HCHK:=Lib.hid hch
   clear hm hins hd hown hbel is ip io hcl hpn ra hh HA hml hsl hpa hch
   go_wp2_with fail
   clear c0
   generalize wr=wo at*
   go_loopg [7,8] n (fun gg s7 s8 wr=>∃ (k:Nat) (b:Bool),k+gg=n∧s8=.int .i64 k∧s7=.bool b∧Hid (Below wo.heap.size wo wr)∧Hid (b=selT way (levN kk) k all[i]))
   case atStart=>exact ⟨0,true,by omega,rfl,rfl,Lib.hid (Below.refl _ _),Lib.hid rfl⟩
   case round=>
    obtain ⟨k,b,hkg,rfl,rfl,HB,HS⟩:=hrel
    have HBW:Hid (Below w.heap.size w wr):=Lib.hid (HX.out.2.2.trans (HB.out.mono HX.out.2.2.size))
    by_cases hlk:(k:Int) < n
    ·have hk3:k < 3:=by omega
     cases b with
     | true=>
       obtain ⟨gw,rfl,hwf⟩:=HWV.out (by omega)
       obtain ⟨iw,rw6⟩:=hwf k (by omega)
       have cr0:=HC0.out wr HBW.out
       have cr1:=HC1.out wr HBW.out
       have cr2:=HC2.out wr HBW.out
       have ra:=zae HRA.out HBW.out
       replace rw6:=zae rw6 HBW.out
       replace iw:=iw.below HBW.out
       have hknw:(k:Int) < nw:=by omega
       obtain ⟨q9,ix9⟩:=HPAR.out (levN kk k) (zda kk k)
       obtain ⟨x,hx⟩:∃ x,x=v3g s p o (levN kk k):=⟨_,rfl⟩
       obtain ⟨r,hr⟩:∃ r,r=zb8 (zdt all[i] (levN kk k)) (way k):=⟨_,rfl⟩
       rw [← hx] at ix9
       have HIDX:=Lib.hid (zyr kk k hk hk3)
       have HPA:Hid (∀ W,Calls Tryz.prog 92 #[.agg #[.int .i64 s.k,.bool s.b,.int .i64 s.n,.string s.t,.string s.x,.slice s.p s.len s.cap,.int .i64 p.k,.bool p.b,.int .i64 p.n,.string p.t,.string p.x,.slice p.p p.len p.cap,.int .i64 o.k,.bool o.b,.int .i64 o.n,.string o.t,.string o.x,.slice o.p o.len o.cap],.int .u8 (zmk (levN kk k))] W fun e w'=>e=.returned (.agg #[.int .i64 x.k,.bool x.b,.int .i64 x.n,.string x.t,.string x.x,.slice x.p x.len x.cap])∧Below W.heap.size W w'):=Lib.hid fun W=>by
        rw [hx]
        exact zyq s p o (levN kk k) (zda kk k) W
       have HSM:Hid (∀ W,Below wr.heap.size wr W→Calls Tryz.prog 32 #[.agg #[.int .i64 x.k,.bool x.b,.int .i64 x.n,.string x.t,.string x.x,.slice x.p x.len x.cap],.agg #[.int .i64 (wv k).k,.bool (wv k).b,.int .i64 (wv k).n,.string (wv k).t,.string (wv k).x,.slice (wv k).p (wv k).len (wv k).cap]] W fun e w'=>e=.returned (.bool r)∧Below W.heap.size W w'):=Lib.hid fun W hb=>by
        rw [hr]
        exact zox x (wv k) _ _ _ _ W (ix9.below (HBW.out.trans (hb.mono HBW.out.size))) (iw.below hb)
       have HR:=Lib.hid hr
       clear hx hr iw ix9 hwf
       go_upto_region 9 with fail
       have L0:Below wr.heap.size wr wr.drew:=(Below.refl _ _).drew
       refine wp_region_held_drew (S:=fun W=>W.cell? ⟨gR,0,none⟩=some (.slice (some ⟨g,off,none⟩) N cl)∧W.cell? ⟨gR,1,none⟩=some (.string (onm kk))∧W.cell? ⟨gR,2,none⟩=some (.slice (some ⟨gw,0,none⟩) nw cw)∧W.rangeAt g (off+i*18) [.int .i64 s.k,.bool s.b,.int .i64 s.n,.string s.t,.string s.x,.slice s.p s.len s.cap,.int .i64 p.k,.bool p.b,.int .i64 p.n,.string p.t,.string p.x,.slice p.p p.len p.cap,.int .i64 o.k,.bool o.b,.int .i64 o.n,.string o.t,.string o.x,.slice o.p o.len o.cap]∧W.rangeAt gw (k*6) [.int .i64 (wv k).k,.bool (wv k).b,.int .i64 (wv k).n,.string (wv k).t,.string (wv k).x,.slice (wv k).p (wv k).len (wv k).cap]) (by kernel_rfl) ⟨cr0,cr1,cr2,ra,rw6⟩ (fun hHeld=>?_)
       refine tg (i:=0) (.bool true) rfl hHeld ?_
       refine tg (i:=1) (.bool true) rfl hHeld ?_
       refine tg (i:=2) (.pointer (some ⟨gR,0,none⟩)) rfl hHeld ?_
       refine tg (i:=3) (.pointer (some ⟨gR,0,none⟩)) rfl hHeld ?_
       refine tg (i:=4) (.pointer (some ⟨gR,0,none⟩)) rfl hHeld ?_
       refine tk (i:=5) (v:=.slice (some ⟨g,off,none⟩) N cl) rfl (Or.inl ⟨by rfl,fun W h=>by have c0:=h.1;go_simp⟩) hHeld ?_
       refine tg (i:=6) (.int .i64 (i:Int)) rfl hHeld ?_
       refine tg (i:=7) (.pointer (some ⟨g,off+i*18,none⟩)) rfl hHeld ?_
       refine tk (i:=8) rfl (yieldsIf_load_mid (by rfl) 41 (.tmp 33) rfl (g) (off+i*18) rfl [.int .i64 s.k,.bool s.b,.int .i64 s.n,.string s.t,.string s.x,.slice s.p s.len s.cap,.int .i64 p.k,.bool p.b,.int .i64 p.n,.string p.t,.string p.x,.slice p.p p.len p.cap,.int .i64 o.k,.bool o.b,.int .i64 o.n,.string o.t,.string o.x,.slice o.p o.len o.cap] _ (fun W h=>h.2.2.2.1) Tryz.underlying41 rfl zd6) hHeld ?_
       refine tg (i:=9) (.pointer (some ⟨gR,0,none⟩)) rfl hHeld ?_
       refine tg (i:=10) (.pointer (some ⟨gR,0,none⟩)) rfl hHeld ?_
       refine tg (i:=11) (.pointer (some ⟨gR,1,none⟩)) rfl hHeld ?_
       refine tk (i:=12) (v:=.string (onm kk)) rfl (Or.inl ⟨by rfl,fun W h=>by have c0:=h.2.1;go_simp⟩) hHeld ?_
       refine tg (i:=13) (.int .i64 (k:Int)) rfl hHeld ?_
       refine tk (i:=14) (v:=.int .u8 (zmk (levN kk k))) rfl (Or.inl ⟨by rfl,fun W _=>by go_simp;rw [dif_pos HIDX.out.1,HIDX.out.2 _];rfl⟩) hHeld ?_
       refine tg (i:=16) (.pointer (some ⟨gR,0,none⟩)) rfl hHeld ?_
       refine tg (i:=17) (.pointer (some ⟨gR,0,none⟩)) rfl hHeld ?_
       refine tg (i:=18) (.pointer (some ⟨gR,2,none⟩)) rfl hHeld ?_
       refine tk (i:=19) (v:=.slice (some ⟨gw,0,none⟩) nw cw) rfl (Or.inl ⟨by rfl,fun W h=>by have c0:=h.2.2.1;go_simp⟩) hHeld ?_
       refine tg (i:=20) (.int .i64 (k:Int)) rfl hHeld ?_
       refine tg (i:=21) (.pointer (some ⟨gw,k*6,none⟩)) rfl hHeld ?_
       refine tk (i:=22) rfl (yieldsIf_load_mid (by rfl) 39 (.tmp 47) rfl (gw) (k*6) rfl [.int .i64 (wv k).k,.bool (wv k).b,.int .i64 (wv k).n,.string (wv k).t,.string (wv k).x,.slice (wv k).p (wv k).len (wv k).cap] _ (fun W h=>h.2.2.2.2) Tryz.underlying39 rfl zas) hHeld ?_
       refine tr 15 rfl (fun K hK=>?_)
       rw [if_pos (by rfl)]
       go_simp
       refine (HPA.out _).mono ?_
       rintro e8 w8 ⟨rfl,hb8⟩
       have hHeld8:_∧_∧_∧_∧_:=⟨(hb8.cell (p:=⟨gR,0,none⟩) (World.block_lt_of_cell? _ _ hHeld.1)).trans hHeld.1,(hb8.cell (p:=⟨gR,1,none⟩) (World.block_lt_of_cell? _ _ hHeld.2.1)).trans hHeld.2.1,(hb8.cell (p:=⟨gR,2,none⟩) (World.block_lt_of_cell? _ _ hHeld.2.2.1)).trans hHeld.2.2.1,zae hHeld.2.2.2.1 hb8,zae hHeld.2.2.2.2 hb8⟩
       have L8:=L0.trans (hb8.mono L0.size)
       clear hb8
       refine hK.out _ _ hHeld8 (fun _=>?_)
       clear hK K
       try simp only [putS]
       refine tr 23 rfl (fun K hK=>?_)
       rw [if_pos (by rfl)]
       go_simp
       refine (HSM.out _ L8).mono ?_
       rintro e9 w9 ⟨rfl,hb9⟩
       have hHeld9:_∧_∧_∧_∧_:=⟨(hb9.cell (p:=⟨gR,0,none⟩) (World.block_lt_of_cell? _ _ hHeld8.1)).trans hHeld8.1,(hb9.cell (p:=⟨gR,1,none⟩) (World.block_lt_of_cell? _ _ hHeld8.2.1)).trans hHeld8.2.1,(hb9.cell (p:=⟨gR,2,none⟩) (World.block_lt_of_cell? _ _ hHeld8.2.2.1)).trans hHeld8.2.2.1,zae hHeld8.2.2.2.1 hb9,zae hHeld8.2.2.2.2 hb9⟩
       have L9:=L8.trans (hb9.mono L8.size)
       clear hb9
       refine hK.out _ _ hHeld9 (fun _=>?_)
       clear hK K
       try simp only [putS]
       refine tg (i:=24) (.bool r) rfl hHeld9 ?_
       refine tg (i:=25) (.bool r) rfl hHeld9 ?_
       refine wpAnyH_done (by kernel_rfl) ?_ _
       have HB2:Hid (Below wo.heap.size wo w9):=Lib.hid (HB.out.trans (L9.mono HB.out.size))
       have HS2:Hid (r=selT way (levN kk) (k+1) all[i]):=Lib.hid (by rw [zpd,← HS.out,Bool.true_and];exact HR.out)
       clear hHeld hHeld8 hHeld9 L0 L8 L9 cr0 cr1 cr2 ra rw6
       go_wp2_with fail
       go_roundg (n - (k+1))
       case measure=>omega
       case rel=>exact ⟨k+1,r,by omega,by go_num,rfl,HB2,HS2⟩
     | false=>
       go_upto_region 9 with fail
       refine wp_region_held_drew (S:=fun _=>True) (by kernel_rfl) trivial (fun hHeld=>?_)
       refine tg (i:=0) (.bool false) rfl hHeld ?_
       refine tg (i:=1) (.bool false) rfl hHeld ?_
       refine tn (i:=2) rfl hHeld ?_
       refine tn (i:=3) rfl hHeld ?_
       refine tn (i:=4) rfl hHeld ?_
       refine tn (i:=5) rfl hHeld ?_
       refine tn (i:=6) rfl hHeld ?_
       refine tn (i:=7) rfl hHeld ?_
       refine tn (i:=8) rfl hHeld ?_
       refine tn (i:=9) rfl hHeld ?_
       refine tn (i:=10) rfl hHeld ?_
       refine tn (i:=11) rfl hHeld ?_
       refine tn (i:=12) rfl hHeld ?_
       refine tn (i:=13) rfl hHeld ?_
       refine tn (i:=14) rfl hHeld ?_
       refine tn (i:=15) rfl hHeld ?_
       refine tn (i:=16) rfl hHeld ?_
       refine tn (i:=17) rfl hHeld ?_
       refine tn (i:=18) rfl hHeld ?_
       refine tn (i:=19) rfl hHeld ?_
       refine tn (i:=20) rfl hHeld ?_
       refine tn (i:=21) rfl hHeld ?_
       refine tn (i:=22) rfl hHeld ?_
       refine tn (i:=23) rfl hHeld ?_
       refine tg (i:=24) (.bool false) rfl hHeld ?_
       refine tg (i:=25) (.bool false) rfl hHeld ?_
       refine wpAnyH_done (by kernel_rfl) ?_ _
       have HB2:Hid (Below wo.heap.size wo wr.drew):=Lib.hid HB.out.drew
       have HS2:Hid (false=selT way (levN kk) (k+1) all[i]):=Lib.hid (by rw [zpd,← HS.out];rfl)
       clear hHeld
       go_wp2_with fail
       go_roundg (n - (k+1))
       case measure=>omega
       case rel=>exact ⟨k+1,false,by omega,by go_num,rfl,HB2,HS2⟩
    ·obtain rfl:k=n:=by omega
     have HSEL:=HS
     clear HS hlk hkg
     cases b with
     | false=>
       have acc:∃ out,InsV (srcT all way (levN kk) k (i+1)) out∧AccW w out (.slice pa m ca) wr:=by
        obtain ⟨hd,hown,hbel⟩:=HX.out
        refine ⟨out,by rw [srcT_no hi1 HSEL.out.symm];exact HINS.out,d,hd,?_,HBW.out⟩
        rw [← HM.out]
        exact zbf hown HB.out
       have ACC:=Lib.hid acc
       clear acc
       go_wp2_with fail
       go_roundg (N - (i+1))
       case measure=>omega
       case rel=>exact ⟨i+1,_,rfl,by omega,by go_num,ACC⟩
     | true=>
       replace HSEL:=Lib.hid HSEL.out.symm
       have cr0:=HC0.out wr HBW.out
       have cr1:=HC1.out wr HBW.out
       have ra:=zae HRA.out HBW.out
       obtain ⟨q9,ix9⟩:=HPAR.out (levN kk k) (zda kk k)
       obtain ⟨x,hx⟩:∃ x,x=v3g s p o (levN kk k):=⟨_,rfl⟩
       rw [← hx] at ix9
       have hpl:=zey HCHK.out (levN kk k)
       obtain ⟨e0,he0,hv0⟩:=ix9.plain hpl.1
       have HE:=Lib.hid (And.intro he0 hv0)
       have HIX:=Lib.hid ix9
       have HIDX:=Lib.hid (zyr kk k hk hn)
       have HPA:Hid (∀ W,Calls Tryz.prog 92 #[.agg #[.int .i64 s.k,.bool s.b,.int .i64 s.n,.string s.t,.string s.x,.slice s.p s.len s.cap,.int .i64 p.k,.bool p.b,.int .i64 p.n,.string p.t,.string p.x,.slice p.p p.len p.cap,.int .i64 o.k,.bool o.b,.int .i64 o.n,.string o.t,.string o.x,.slice o.p o.len o.cap],.int .u8 (zmk (levN kk k))] W fun e w'=>e=.returned (.agg #[.int .i64 x.k,.bool x.b,.int .i64 x.n,.string x.t,.string x.x,.slice x.p x.len x.cap])∧Below W.heap.size W w'):=Lib.hid fun W=>by
        rw [hx]
        exact zyq s p o (levN kk k) (zda kk k) W
       have HBWR:=HB
       clear hx ix9 he0 hv0 hpl HB
       generalize k=n at*
       go_upto_region 11 with fail
       go_cut [9] (fun s9 wx=>∃ b9,s9=.pointer (some ⟨b9,0,none⟩)∧Hid (wx.rangeAt b9 0 [.int .i64 x.k,.bool x.b,.int .i64 x.n,.string x.t,.string x.x,.slice x.p x.len x.cap]∧Below wr.heap.size wr wx))
       case first=>
        have L0:Below wr.heap.size wr wr.drew:=(Below.refl _ _).drew
        refine wp_region_held_drew (S:=fun W=>W.cell? ⟨gR,0,none⟩=some (.slice (some ⟨g,off,none⟩) N cl)∧W.cell? ⟨gR,1,none⟩=some (.string (onm kk))∧W.rangeAt g (off+i*18) [.int .i64 s.k,.bool s.b,.int .i64 s.n,.string s.t,.string s.x,.slice s.p s.len s.cap,.int .i64 p.k,.bool p.b,.int .i64 p.n,.string p.t,.string p.x,.slice p.p p.len p.cap,.int .i64 o.k,.bool o.b,.int .i64 o.n,.string o.t,.string o.x,.slice o.p o.len o.cap]) (by kernel_rfl) ⟨cr0,cr1,ra⟩ (fun hHeld=>?_)
        refine tg (i:=0) (.pointer (some ⟨gR,0,none⟩)) rfl hHeld ?_
        refine tg (i:=1) (.pointer (some ⟨gR,0,none⟩)) rfl hHeld ?_
        refine tg (i:=2) (.pointer (some ⟨gR,0,none⟩)) rfl hHeld ?_
        refine tk (i:=3) (v:=.slice (some ⟨g,off,none⟩) N cl) rfl (Or.inl ⟨by rfl,fun W h=>by have c0:=h.1;go_simp⟩) hHeld ?_
        refine tg (i:=4) (.int .i64 (i:Int)) rfl hHeld ?_
        refine tg (i:=5) (.pointer (some ⟨g,off+i*18,none⟩)) rfl hHeld ?_
        refine tk (i:=6) rfl (yieldsIf_load_mid (by rfl) 41 (.tmp 58) rfl (g) (off+i*18) rfl [.int .i64 s.k,.bool s.b,.int .i64 s.n,.string s.t,.string s.x,.slice s.p s.len s.cap,.int .i64 p.k,.bool p.b,.int .i64 p.n,.string p.t,.string p.x,.slice p.p p.len p.cap,.int .i64 o.k,.bool o.b,.int .i64 o.n,.string o.t,.string o.x,.slice o.p o.len o.cap] _ (fun W h=>h.2.2) Tryz.underlying41 rfl zd6) hHeld ?_
        refine tg (i:=7) (.pointer (some ⟨gR,0,none⟩)) rfl hHeld ?_
        refine tg (i:=8) (.pointer (some ⟨gR,0,none⟩)) rfl hHeld ?_
        refine tg (i:=9) (.pointer (some ⟨gR,1,none⟩)) rfl hHeld ?_
        refine tk (i:=10) (v:=.string (onm kk)) rfl (Or.inl ⟨by rfl,fun W h=>by have c0:=h.2.1;go_simp⟩) hHeld ?_
        refine tg (i:=11) (.int .i64 (n:Int)) rfl hHeld ?_
        refine tk (i:=12) (v:=.int .u8 (zmk (levN kk n))) rfl (Or.inl ⟨by rfl,fun W _=>by go_simp;rw [dif_pos HIDX.out.1,HIDX.out.2 _];rfl⟩) hHeld ?_
        refine wpAnyH_ready (rs:=[13,14]) (by kernel_rfl) (by simp) ?_
        refine AllReadyH.cons rfl (fun K hK=>?_) (AllReadyH.cons rfl (fun K hK=>?_) AllReadyH.nil)
        ·rw [if_pos (by rfl)]
         go_simp
         refine (HPA.out _).mono ?_
         rintro e8 w8 ⟨rfl,hb8⟩
         have hHeld8:_∧_∧_:=⟨(hb8.cell (p:=⟨gR,0,none⟩) (World.block_lt_of_cell? _ _ hHeld.1)).trans hHeld.1,(hb8.cell (p:=⟨gR,1,none⟩) (World.block_lt_of_cell? _ _ hHeld.2.1)).trans hHeld.2.1,zae hHeld.2.2 hb8⟩
         have L8:=L0.trans (hb8.mono L0.size)
         refine hK.out _ _ hHeld8 (fun _=>?_)
         clear hK K
         try simp only [putS]
         refine tr 14 rfl (fun K hK=>?_)
         go_simp
         have hHeld9:_∧_∧_:=⟨((za0 w8 (.cells #[.int .i64 0,.bool false,.int .i64 0,.string ⟨#[]⟩,.string ⟨#[]⟩,.slice none 0 0] 39)).cell (p:=⟨gR,0,none⟩) (World.block_lt_of_cell? _ _ hHeld8.1)).trans hHeld8.1,((za0 w8 (.cells #[.int .i64 0,.bool false,.int .i64 0,.string ⟨#[]⟩,.string ⟨#[]⟩,.slice none 0 0] 39)).cell (p:=⟨gR,1,none⟩) (World.block_lt_of_cell? _ _ hHeld8.2.1)).trans hHeld8.2.1,zae hHeld8.2.2 (za0 w8 (.cells #[.int .i64 0,.bool false,.int .i64 0,.string ⟨#[]⟩,.string ⟨#[]⟩,.slice none 0 0] 39))⟩
         have L9:=L8.alloc L8.size (.cells #[.int .i64 0,.bool false,.int .i64 0,.string ⟨#[]⟩,.string ⟨#[]⟩,.slice none 0 0] 39)
         have u4:=zah w8 (.cells #[.int .i64 0,.bool false,.int .i64 0,.string ⟨#[]⟩,.string ⟨#[]⟩,.slice none 0 0] 39) rfl
         refine hK.out _ _ hHeld9 (fun _=>?_)
         clear hK K
         try simp only [putS]
         refine tr 15 rfl (fun K hK=>?_)
         rw [if_pos (by rfl)]
         have b1:=zag L9 (Only.setRow (b:=w8.heap.size) (w8.alloc (.cells #[.int .i64 0,.bool false,.int .i64 0,.string ⟨#[]⟩,.string ⟨#[]⟩,.slice none 0 0] 39)) #[.int .i64 x.k,.bool x.b,.int .i64 x.n,.string x.t,.string x.x,.slice x.p x.len x.cap]) (by exact L8.size) L9.size
         refine wp_store_row 39 (.tmp 9) (.tmp 66) rfl (w8.heap.size) #[.int .i64 x.k,.bool x.b,.int .i64 x.n,.string x.t,.string x.x,.slice x.p x.len x.cap] rfl rfl 39 _ u4 zas rfl (by simp [Value.oneCell']) ?_
         have hHeld10:_∧_∧_:=⟨(b1.cell (p:=⟨gR,0,none⟩) (World.block_lt_of_cell? _ _ cr0)).trans cr0,(b1.cell (p:=⟨gR,1,none⟩) (World.block_lt_of_cell? _ _ cr1)).trans cr1,zae ra b1⟩
         refine hK.out _ _ hHeld10 (fun _=>?_)
         clear hK K
         try simp only [putS]
         have u5:=za6 (w:=(w8.alloc (.cells #[.int .i64 0,.bool false,.int .i64 0,.string ⟨#[]⟩,.string ⟨#[]⟩,.slice none 0 0] 39))) (g:=w8.heap.size) (c':=#[.int .i64 x.k,.bool x.b,.int .i64 x.n,.string x.t,.string x.x,.slice x.p x.len x.cap]) u4
         refine wpAnyH_done (by kernel_rfl) ?_ _
         go_wp2_with fail
         go_meet
         case rel=>exact ⟨_,rfl,Lib.hid ⟨zvu u5,b1⟩⟩
        ·go_simp
         have hHeld9:_∧_∧_:=⟨((za0 wr.drew (.cells #[.int .i64 0,.bool false,.int .i64 0,.string ⟨#[]⟩,.string ⟨#[]⟩,.slice none 0 0] 39)).cell (p:=⟨gR,0,none⟩) (World.block_lt_of_cell? _ _ hHeld.1)).trans hHeld.1,((za0 wr.drew (.cells #[.int .i64 0,.bool false,.int .i64 0,.string ⟨#[]⟩,.string ⟨#[]⟩,.slice none 0 0] 39)).cell (p:=⟨gR,1,none⟩) (World.block_lt_of_cell? _ _ hHeld.2.1)).trans hHeld.2.1,zae hHeld.2.2 (za0 wr.drew (.cells #[.int .i64 0,.bool false,.int .i64 0,.string ⟨#[]⟩,.string ⟨#[]⟩,.slice none 0 0] 39))⟩
         have L9:=L0.alloc L0.size (.cells #[.int .i64 0,.bool false,.int .i64 0,.string ⟨#[]⟩,.string ⟨#[]⟩,.slice none 0 0] 39)
         have u4:=zah wr.drew (.cells #[.int .i64 0,.bool false,.int .i64 0,.string ⟨#[]⟩,.string ⟨#[]⟩,.slice none 0 0] 39) rfl
         refine hK.out _ _ hHeld9 (fun _=>?_)
         clear hK K
         try simp only [putS]
         refine tr 13 rfl (fun K hK=>?_)
         rw [if_pos (by rfl)]
         go_simp
         refine (HPA.out _).mono ?_
         rintro e8 w8 ⟨rfl,hb8⟩
         have hHeld8:_∧_∧_:=⟨(hb8.cell (p:=⟨gR,0,none⟩) (World.block_lt_of_cell? _ _ hHeld9.1)).trans hHeld9.1,(hb8.cell (p:=⟨gR,1,none⟩) (World.block_lt_of_cell? _ _ hHeld9.2.1)).trans hHeld9.2.1,zae hHeld9.2.2 hb8⟩
         have L8:=L9.trans (hb8.mono L9.size)
         have u6:=(hb8.block _ (zac u4)).trans u4
         refine hK.out _ _ hHeld8 (fun _=>?_)
         clear hK K
         try simp only [putS]
         refine tr 15 rfl (fun K hK=>?_)
         rw [if_pos (by rfl)]
         have b1:=zag L8 (Only.setRow (b:=wr.drew.heap.size) w8 #[.int .i64 x.k,.bool x.b,.int .i64 x.n,.string x.t,.string x.x,.slice x.p x.len x.cap]) (by exact L0.size) L8.size
         refine wp_store_row 39 (.tmp 9) (.tmp 66) rfl (wr.drew.heap.size) #[.int .i64 x.k,.bool x.b,.int .i64 x.n,.string x.t,.string x.x,.slice x.p x.len x.cap] rfl rfl 39 _ u6 zas rfl (by simp [Value.oneCell']) ?_
         have hHeld10:_∧_∧_:=⟨(b1.cell (p:=⟨gR,0,none⟩) (World.block_lt_of_cell? _ _ cr0)).trans cr0,(b1.cell (p:=⟨gR,1,none⟩) (World.block_lt_of_cell? _ _ cr1)).trans cr1,zae ra b1⟩
         refine hK.out _ _ hHeld10 (fun _=>?_)
         clear hK K
         try simp only [putS]
         have u5:=za6 (w:=w8) (g:=wr.drew.heap.size) (c':=#[.int .i64 x.k,.bool x.b,.int .i64 x.n,.string x.t,.string x.x,.slice x.p x.len x.cap]) u6
         refine wpAnyH_done (by kernel_rfl) ?_ _
         go_wp2_with fail
         go_meet
         case rel=>exact ⟨_,rfl,Lib.hid ⟨zvu u5,b1⟩⟩
       case rest=>
        obtain ⟨b9,rfl,HBX⟩:=hcut
        have HXR:=Lib.hid HBX.out.1
        have HBZ0:Hid (Below wo.heap.size wo wc):=Lib.hid (HBWR.out.trans (HBX.out.2.mono HBWR.out.size))
        clear HBX HBWR HBW ra cr0 cr1
        go_wp2_with fail
        generalize wc=wz at*
        go_loopg [10] m (fun gg s10 wr=>∃ k:Nat,k=gg∧k≤m∧s10=.int .i64 k∧Hid (Below wz.heap.size wz wr)∧Hid (∀ (j:Nat) (h:j < out.length),k≤j→0 < zan 1 out[j] (zdt all[i] (levN kk n))))
        case atStart=>exact ⟨m,rfl,Nat.le_refl _,rfl,Lib.hid (Below.refl _ _),Lib.hid fun j h hk=>absurd h (by have:=HM.out;omega)⟩
        case round=>
         obtain ⟨k,rfl,hkm,rfl,HB,HU⟩:=hrel
         have HBO:Hid (Below wo.heap.size wo wr):=Lib.hid (HBZ0.out.trans (HB.out.mono HBZ0.out.size))
         by_cases hk:(0:Int) < k
         ·obtain ⟨k1,hk1⟩:∃ k1,k=k1+1:=⟨k - 1,by omega⟩
          have hk1o:k1 < out.length:=by have:=HM.out;omega
          obtain ⟨⟨ga,oa,sa⟩,rfl⟩:∃ ad,pa=some ad:=by
           cases pa with
           | some ad=>exact ⟨ad,rfl⟩
           | none=>exact absurd (HPN.out rfl).1 (by omega)
          obtain ⟨rfl,rfl,hcells⟩:=HCL.out ga oa sa rfl
          have hrise:zar wr ga 0 out:=by
           rw [← HX.out.1]
           refine zby wr ga d 0 fun t u hu=>?_
           rw [Nat.zero_add]
           exact (HBO.out.cell (p:=⟨ga,t,none⟩) (World.block_lt_of_cell? wo _ (hcells t u hu))).trans (hcells t u hu)
          obtain ⟨a0,l0,i0',rb⟩:=isOf (zar.at_ out 0 hrise k1 hk1o)
          rw [Nat.zero_add] at rb
          have rx:=zae HXR.out HB.out
          obtain ⟨c,hc⟩:∃ c,c=zan 1 out[k1] (zdt all[i] (levN kk n)):=⟨_,rfl⟩
          have HC:Hid (∀ W,Below wr.heap.size wr W→Calls Tryz.prog 34 #[.int .i64 1,.agg #[.int .i64 a0.k,.bool a0.b,.int .i64 a0.n,.string a0.t,.string a0.x,.slice a0.p a0.len a0.cap],.agg #[.int .i64 x.k,.bool x.b,.int .i64 x.n,.string x.t,.string x.x,.slice x.p x.len x.cap]] W fun e w'=>e=.returned (.int .i64 c)∧Below W.heap.size W w'):=Lib.hid fun W hb=>by
           rw [hc]
           exact ze4 a0 x _ _ l0 q9 W (i0'.below hb) (HIX.out.below (HX.out.2.2.trans ((HBO.out.trans (hb.mono HBO.out.size)).mono HX.out.2.2.size)))
          have HCC:=Lib.hid hc
          have hks:(k1:Int) < m:=by omega
          have hkk2:(k:Int) - 1=(k1:Int):=by omega
          have HK1:=Lib.hid hk1
          have hkn:0 < k:=by omega
          clear hk1
          have hkw:IntKind.i64.wrap (k1:Int)=k1:=IntWalk.i64_in _ (by omega)
          clear hc hrise i0' hcells
          by_cases hpos:(0:Int) < c
          ·go_upto_region 13 with fail
           have L0:Below wr.heap.size wr wr.drew:=(Below.refl _ _).drew
           refine wp_region_held_drew (S:=fun W=>W.rangeAt ga (k1*6) [.int .i64 a0.k,.bool a0.b,.int .i64 a0.n,.string a0.t,.string a0.x,.slice a0.p a0.len a0.cap]∧W.rangeAt b9 0 [.int .i64 x.k,.bool x.b,.int .i64 x.n,.string x.t,.string x.x,.slice x.p x.len x.cap]) (by kernel_rfl) ⟨rb,rx⟩ (fun hHeld=>?_)
           refine tg (i:=0) (.int .i64 (k:Int)) rfl hHeld ?_
           refine tg (i:=1) (.bool true) rfl hHeld ?_
           refine tg (i:=2) (.bool true) rfl hHeld ?_
           refine tg (i:=3) (.slice (some ⟨ga,0,none⟩) m ca) rfl hHeld ?_
           refine tg (i:=4) (.int .i64 (k:Int)) rfl hHeld ?_
           refine tg (i:=5) (.int .i64 (k1:Int)) rfl hHeld ?_
           refine tg (i:=6) (.pointer (some ⟨ga,k1*6,none⟩)) rfl hHeld ?_
           refine tk (i:=7) rfl (yieldsIf_load_mid (by rfl) 39 (.tmp 75) rfl (ga) (k1*6) rfl [.int .i64 a0.k,.bool a0.b,.int .i64 a0.n,.string a0.t,.string a0.x,.slice a0.p a0.len a0.cap] _ (fun W h=>h.1) Tryz.underlying39 rfl zas) hHeld ?_
           refine tk (i:=8) rfl (yieldsIf_load_mid (by rfl) 39 (.tmp 9) rfl (b9) (0) rfl [.int .i64 x.k,.bool x.b,.int .i64 x.n,.string x.t,.string x.x,.slice x.p x.len x.cap] _ (fun W h=>h.2) Tryz.underlying39 rfl zas) hHeld ?_
           refine tr 9 rfl (fun K hK=>?_)
           rw [if_pos (by rfl)]
           go_simp
           refine (HC.out _ (L0)).mono ?_
           rintro e5 w5 ⟨rfl,hb5⟩
           have hHeld9:_∧_:=⟨zae hHeld.1 hb5,zae hHeld.2 hb5⟩
           have L9:=L0.trans (hb5.mono L0.size)
           clear hb5
           refine hK.out _ _ hHeld9 (fun _=>?_)
           clear hK K
           try simp only [putS]
           refine tg (i:=10) (.bool true) rfl hHeld9 ?_
           refine tg (i:=11) (.bool true) rfl hHeld9 ?_
           refine wpAnyH_done (by kernel_rfl) ?_ _
           have HU2:Hid (∀ (j:Nat) (h:j < out.length),k1≤j→0 < zan 1 out[j] (zdt all[i] (levN kk n))):=Lib.hid fun j h hj=>by
            by_cases e:j=k1
            ·subst e
             rw [← HCC.out]
             exact hpos
            ·exact HU.out j h (by have:=HK1.out;omega)
           have HB2:Hid (Below wz.heap.size wz w5):=Lib.hid (HB.out.trans (L9.mono HB.out.size))
           clear hHeld hHeld9 L9 L0 rb rx
           go_wp2_with fail
           go_roundg k1
           case measure=>have:=HK1.out;omega
           case rel=>exact ⟨k1,rfl,by have:=HK1.out;omega,by first | rfl | go_num,HB2,HU2⟩
          ·go_upto_region 13 with fail
           have L0:Below wr.heap.size wr wr.drew:=(Below.refl _ _).drew
           refine wp_region_held_drew (S:=fun W=>W.rangeAt ga (k1*6) [.int .i64 a0.k,.bool a0.b,.int .i64 a0.n,.string a0.t,.string a0.x,.slice a0.p a0.len a0.cap]∧W.rangeAt b9 0 [.int .i64 x.k,.bool x.b,.int .i64 x.n,.string x.t,.string x.x,.slice x.p x.len x.cap]) (by kernel_rfl) ⟨rb,rx⟩ (fun hHeld=>?_)
           refine tg (i:=0) (.int .i64 (k:Int)) rfl hHeld ?_
           refine tg (i:=1) (.bool true) rfl hHeld ?_
           refine tg (i:=2) (.bool true) rfl hHeld ?_
           refine tg (i:=3) (.slice (some ⟨ga,0,none⟩) m ca) rfl hHeld ?_
           refine tg (i:=4) (.int .i64 (k:Int)) rfl hHeld ?_
           refine tg (i:=5) (.int .i64 (k1:Int)) rfl hHeld ?_
           refine tg (i:=6) (.pointer (some ⟨ga,k1*6,none⟩)) rfl hHeld ?_
           refine tk (i:=7) rfl (yieldsIf_load_mid (by rfl) 39 (.tmp 75) rfl (ga) (k1*6) rfl [.int .i64 a0.k,.bool a0.b,.int .i64 a0.n,.string a0.t,.string a0.x,.slice a0.p a0.len a0.cap] _ (fun W h=>h.1) Tryz.underlying39 rfl zas) hHeld ?_
           refine tk (i:=8) rfl (yieldsIf_load_mid (by rfl) 39 (.tmp 9) rfl (b9) (0) rfl [.int .i64 x.k,.bool x.b,.int .i64 x.n,.string x.t,.string x.x,.slice x.p x.len x.cap] _ (fun W h=>h.2) Tryz.underlying39 rfl zas) hHeld ?_
           refine tr 9 rfl (fun K hK=>?_)
           rw [if_pos (by rfl)]
           go_simp
           refine (HC.out _ (L0)).mono ?_
           rintro e5 w5 ⟨rfl,hb5⟩
           have hHeld9:_∧_:=⟨zae hHeld.1 hb5,zae hHeld.2 hb5⟩
           have L9:=L0.trans (hb5.mono L0.size)
           clear hb5
           refine hK.out _ _ hHeld9 (fun _=>?_)
           clear hK K
           try simp only [putS]
           refine tg (i:=10) (.bool false) rfl hHeld9 ?_
           refine tg (i:=11) (.bool false) rfl hHeld9 ?_
           refine wpAnyH_done (by kernel_rfl) ?_ _
           have HB5:Hid (Below wr.heap.size wr w5):=Lib.hid L9
           have HBZ5:Hid (Below wz.heap.size wz w5):=Lib.hid (HB.out.trans (L9.mono HB.out.size))
           replace rb:=zae rb L9
           replace rx:=zae rx L9
           clear hHeld hHeld9 L9 L0
           by_cases hc0:c=0
           ·subst hc0
            go_upto_region 15 with fail
            have L0:Below w5.heap.size w5 w5.drew:=(Below.refl _ _).drew
            refine wp_region_held_drew (S:=fun W=>W.rangeAt ga (k1*6) [.int .i64 a0.k,.bool a0.b,.int .i64 a0.n,.string a0.t,.string a0.x,.slice a0.p a0.len a0.cap]∧W.rangeAt b9 0 [.int .i64 x.k,.bool x.b,.int .i64 x.n,.string x.t,.string x.x,.slice x.p x.len x.cap]) (by kernel_rfl) ⟨rb,rx⟩ (fun hHeld=>?_)
            refine tg (i:=0) (.int .i64 (k:Int)) rfl hHeld ?_
            refine tg (i:=1) (.bool true) rfl hHeld ?_
            refine tg (i:=2) (.bool true) rfl hHeld ?_
            refine tg (i:=3) (.slice (some ⟨ga,0,none⟩) m ca) rfl hHeld ?_
            refine tg (i:=4) (.int .i64 (k:Int)) rfl hHeld ?_
            refine tg (i:=5) (.int .i64 (k1:Int)) rfl hHeld ?_
            refine tg (i:=6) (.pointer (some ⟨ga,k1*6,none⟩)) rfl hHeld ?_
            refine tk (i:=7) rfl (yieldsIf_load_mid (by rfl) 39 (.tmp 89) rfl (ga) (k1*6) rfl [.int .i64 a0.k,.bool a0.b,.int .i64 a0.n,.string a0.t,.string a0.x,.slice a0.p a0.len a0.cap] _ (fun W h=>h.1) Tryz.underlying39 rfl zas) hHeld ?_
            refine tk (i:=8) rfl (yieldsIf_load_mid (by rfl) 39 (.tmp 9) rfl (b9) (0) rfl [.int .i64 x.k,.bool x.b,.int .i64 x.n,.string x.t,.string x.x,.slice x.p x.len x.cap] _ (fun W h=>h.2) Tryz.underlying39 rfl zas) hHeld ?_
            refine tr 9 rfl (fun K hK=>?_)
            rw [if_pos (by rfl)]
            go_simp
            refine (HC.out _ (HB5.out.trans (L0.mono HB5.out.size))).mono ?_
            rintro e6 w6 ⟨rfl,hb6⟩
            have hHeld9:_∧_:=⟨zae hHeld.1 hb6,zae hHeld.2 hb6⟩
            have L9:=L0.trans (hb6.mono L0.size)
            clear hb6
            refine hK.out _ _ hHeld9 (fun _=>?_)
            clear hK K
            try simp only [putS]
            refine tg (i:=10) (.bool true) rfl hHeld9 ?_
            refine tg (i:=11) (.bool true) rfl hHeld9 ?_
            refine wpAnyH_done (by kernel_rfl) ?_ _
            have HB6:Hid (Below wz.heap.size wz w6):=Lib.hid (HBZ5.out.trans (L9.mono HBZ5.out.size))
            have acc:∃ out,InsV (srcT all way (levN kk) n (i+1)) out∧AccW w out (.slice (some ⟨ga,0,none⟩) m ca) w6:=by
             obtain ⟨hd,hown,hbel⟩:=HX.out
             have hb6:=HBZ0.out.trans (HB6.out.mono HBZ0.out.size)
             refine ⟨out,?_,d,hd,?_,hbel.trans (hb6.mono hbel.size)⟩
             ·rw [zhj hi1 HSEL.out]
              refine HINS.out.skip ?_
              obtain ⟨t9,ht9,et9⟩:=znh ((HINS.out.mem _).1 (List.getElem_mem hk1o))
              have e:=ordV_eq (by rw [et9];exact zey (HCH.out _ ht9) _) (zey HCHK.out _) HCC.out.symm
              rw [← e]
              exact List.getElem_mem hk1o
             ·rw [← HM.out]
              exact zbf hown hb6
            have ACC:=Lib.hid acc
            clear hHeld hHeld9 L9 L0 acc rb rx
            go_wp2_with fail
            go_roundg (N - (i+1))
            case measure=>omega
            case rel=>exact ⟨i+1,_,rfl,by omega,by go_num,ACC⟩
           ·have hce:(c == (0:Int))=false:=by simpa using hc0
            go_upto_region 15 with fail
            have L0:Below w5.heap.size w5 w5.drew:=(Below.refl _ _).drew
            refine wp_region_held_drew (S:=fun W=>W.rangeAt ga (k1*6) [.int .i64 a0.k,.bool a0.b,.int .i64 a0.n,.string a0.t,.string a0.x,.slice a0.p a0.len a0.cap]∧W.rangeAt b9 0 [.int .i64 x.k,.bool x.b,.int .i64 x.n,.string x.t,.string x.x,.slice x.p x.len x.cap]) (by kernel_rfl) ⟨rb,rx⟩ (fun hHeld=>?_)
            refine tg (i:=0) (.int .i64 (k:Int)) rfl hHeld ?_
            refine tg (i:=1) (.bool true) rfl hHeld ?_
            refine tg (i:=2) (.bool true) rfl hHeld ?_
            refine tg (i:=3) (.slice (some ⟨ga,0,none⟩) m ca) rfl hHeld ?_
            refine tg (i:=4) (.int .i64 (k:Int)) rfl hHeld ?_
            refine tg (i:=5) (.int .i64 (k1:Int)) rfl hHeld ?_
            refine tg (i:=6) (.pointer (some ⟨ga,k1*6,none⟩)) rfl hHeld ?_
            refine tk (i:=7) rfl (yieldsIf_load_mid (by rfl) 39 (.tmp 89) rfl (ga) (k1*6) rfl [.int .i64 a0.k,.bool a0.b,.int .i64 a0.n,.string a0.t,.string a0.x,.slice a0.p a0.len a0.cap] _ (fun W h=>h.1) Tryz.underlying39 rfl zas) hHeld ?_
            refine tk (i:=8) rfl (yieldsIf_load_mid (by rfl) 39 (.tmp 9) rfl (b9) (0) rfl [.int .i64 x.k,.bool x.b,.int .i64 x.n,.string x.t,.string x.x,.slice x.p x.len x.cap] _ (fun W h=>h.2) Tryz.underlying39 rfl zas) hHeld ?_
            refine tr 9 rfl (fun K hK=>?_)
            rw [if_pos (by rfl)]
            go_simp
            refine (HC.out _ (HB5.out.trans (L0.mono HB5.out.size))).mono ?_
            rintro e6 w6 ⟨rfl,hb6⟩
            have hHeld9:_∧_:=⟨zae hHeld.1 hb6,zae hHeld.2 hb6⟩
            have L9:=L0.trans (hb6.mono L0.size)
            clear hb6
            refine hK.out _ _ hHeld9 (fun _=>?_)
            clear hK K
            try simp only [putS]
            refine tg (i:=10) (.bool false) rfl hHeld9 ?_
            refine tg (i:=11) (.bool false) rfl hHeld9 ?_
            refine wpAnyH_done (by kernel_rfl) ?_ _
            have HBQ:Hid (Below wz.heap.size wz w6):=Lib.hid (HBZ5.out.trans (L9.mono HBZ5.out.size))
            have HBZ:Hid (Below wo.heap.size wo w6):=Lib.hid (HBZ0.out.trans (HBQ.out.mono HBZ0.out.size))
            have HRX:=HXR
            have LO:Hid (∀ (h0:0 < k),zan 1 (out[k - 1]'(by have:=HM.out;omega)) (zdt all[i] (levN kk n)) < 0):=Lib.hid fun _=>by
             have e:k - 1=k1:=by have:=HK1.out;omega
             simp only [e]
             rw [← HCC.out]
             omega
            clear hHeld hHeld9 L9 L0 rb rx hce
            have hkc:(k:Int)≤ca:=by omega
            have hkm2:(k:Int)≤m:=by omega
            have hd3:d.length=m:=by rw [HM.out,← HX.out.1,List.length_map]
            have hkd:k≤d.length:=by omega
            have HSRC:=Lib.hid (fun W (hb:Below w6.heap.size w6 W)=>zhi HCL.out (HBZ.out) hb)
            have HPQ:=Lib.hid (zij HPN.out)
            have HLA:((d.take k).flatMap VE.enc).length=k*6:=ze7 _ _ (by rw [List.length_take];omega)
            have HLB:((d.drop k).flatMap VE.enc).length=(m - k)*6:=ze7 _ _ (by rw [List.length_drop];omega)
            have HM1:0+k≤maxLen:=by unfold maxLen;omega
            have HM2:k+1≤maxLen:=by unfold maxLen;omega
            have HM3:k+1+(m - k)≤maxLen:=by unfold maxLen;omega
            have HB1:(0+k)*80≤140737488355328:=by omega
            have HB2:(k+1)*80≤140737488355328:=by omega
            have HB3:(k+1+(m - k))*80≤140737488355328:=by omega
            have HLA:=Lib.hid HLA;have HLB:=Lib.hid HLB
            have HM1:=Lib.hid HM1;have HM2:=Lib.hid HM2;have HM3:=Lib.hid HM3
            have HB1:=Lib.hid HB1;have HB2:=Lib.hid HB2;have HB3:=Lib.hid HB3
            have RX:=Lib.hid (zae HRX.out HBQ.out)
            go_wp2_with (first
             |(at_builtin;go_loud (refine zao rfl _ _ 37 rfl w6.heap.size 39 i0 (.agg #[.int .i64 0,.bool false,.int .i64 0,.string ⟨#[]⟩,.string ⟨#[]⟩,.slice none 0 0]) 6 80 Tryz.underlying37 hi hz0 hz1 hz2 rfl (by decide) (.slice none 0 0) 0 [] (by rfl) (World.ownsRow_nil _ _ _ _) (some ⟨ga,0,none⟩) k ca ((d.take k).flatMap VE.enc) (by rfl) HLA.out (fun e=>⟨(HPQ.out k hkm e).1,(HPQ.out k hkm e).2.2.2⟩) (zik (HSRC.out _ (Below.refl _ _))) (zex _) HM1.out HB1.out (Nat.le_refl _) ?_)))
            intro v1 w1 hown1 hg1
            have BI1:Hid (Below w6.heap.size w6 w1):=Lib.hid ((Below.refl _ _).grown hg1 (Nat.le_refl _) (fun g hg=>by simp [Value.ownBlock] at hg))
            have HO1:=Lib.hid hown1
            have rz1:=zae RX.out BI1.out
            have hz1s:=Lib.hid BI1.out.size
            clear hown1 hg1
            go_wp2_with (first
             |((with_reducible refine zal (.tmp 9) b9 0 x rz1 ?_ ?_ ?_ ?_);rfl;rfl;rfl)
             |(at_builtin;go_loud (refine zao rfl _ _ 37 rfl w6.heap.size 39 i0 (.agg #[.int .i64 0,.bool false,.int .i64 0,.string ⟨#[]⟩,.string ⟨#[]⟩,.slice none 0 0]) 6 80 Tryz.underlying37 hi hz0 hz1 hz2 rfl (by decide) v1 k ((d.take k).flatMap VE.enc) (by rfl) (HO1.out.alloc _) (some ⟨w1.heap.size,0,none⟩) 1 1 [.int .i64 x.k,.bool x.b,.int .i64 x.n,.string x.t,.string x.x,.slice x.p x.len x.cap] (by rfl) rfl (fun e=>by cases e) (fun ad e j u hu=>by cases e;exact zdf _ _ _ _ _ _ _ _ j u hu) (by simp [Value.oneCell']) HM2.out HB2.out (by simp;have:=hz1s.out;omega) ?_)))
            intro v2 w2 hown2 hg2
            have BI2:Hid (Below w6.heap.size w6 w2):=Lib.hid ((BI1.out.alloc hz1s.out _).grown hg2 (by simp;have:=hz1s.out;omega) (fun g hg=>(HO1.out.lt g hg).1))
            have HO2:=Lib.hid hown2
            have hz2s:=Lib.hid BI2.out.size
            clear hown2 hg2 rz1
            rcases Nat.lt_or_ge k ca with hck | hck
            ·have hck2:¬ ca=k:=by omega
             have HNN:Hid ((some (⟨ga,k*6,none⟩:Addr))=none→m - k=0∧ca - k=0):=Lib.hid (fun e=>by cases e)
             have HSS:Hid (SrcC w2 (some (⟨ga,k*6,none⟩:Addr)) ((d.drop k).flatMap VE.enc)):=Lib.hid (by have h:=zpe (k:=k) (HSRC.out _ BI2.out) (ze7 (d.take k) k (by rw [List.length_take];omega));rw [show Option.map (fun x:Addr=>x.add (k*6)) (some ⟨ga,0,none⟩)=some ⟨ga,k*6,none⟩ by rw [Option.map_some,Addr.add_mid,Nat.zero_add]] at h;exact h)
             go_wp2_with (first
              |(at_builtin;go_loud (refine zao rfl _ _ 37 rfl w6.heap.size 39 i0 (.agg #[.int .i64 0,.bool false,.int .i64 0,.string ⟨#[]⟩,.string ⟨#[]⟩,.slice none 0 0]) 6 80 Tryz.underlying37 hi hz0 hz1 hz2 rfl (by decide) v2 (k+1) ((d.take k).flatMap VE.enc++[.int .i64 x.k,.bool x.b,.int .i64 x.n,.string x.t,.string x.x,.slice x.p x.len x.cap]) (by rfl) HO2.out (some (⟨ga,k*6,none⟩:Addr)) (m - k) (ca - k) ((d.drop k).flatMap VE.enc) (by rfl) HLB.out HNN.out HSS.out (zex _) HM3.out HB3.out hz2s.out ?_)))
             intro v3 w3 hown3 hg3
             have BI3:Below w6.heap.size w6 w3:=BI2.out.grown hg3 hz2s.out (fun g hg=>(HO2.out.lt g hg).1)
             have acc:∃ out,InsV (srcT all way (levN kk) n (i+1)) out∧AccW w out v3 w3:=⟨putV out k (zdt all[i] (levN kk n)),by rw [zhj hi1 HSEL.out];exact HINS.out.put k (by have:=HM.out;omega) LO.out HU.out,AccW.put HX.out.1 HX.out.2.2 HBZ.out BI3 (by have:=HM.out;omega) HE.out hown3 (by have:=HM.out;omega) (by first | rfl | simp)⟩
             have ACC:=Lib.hid acc
             clear acc hown3 hg3 BI3
             go_wp2_with fail
             go_roundg (N - (i+1))
             case measure=>omega
             case rel=>exact ⟨i+1,_,rfl,by omega,by go_num,ACC⟩
            ·have e1:k=ca:=by omega
             have e2:k=m:=by omega
             subst e1
             subst e2
             go_wp2_with (first
              |(at_builtin;go_loud (refine zao rfl _ _ 37 rfl w6.heap.size 39 i0 (.agg #[.int .i64 0,.bool false,.int .i64 0,.string ⟨#[]⟩,.string ⟨#[]⟩,.slice none 0 0]) 6 80 Tryz.underlying37 hi hz0 hz1 hz2 rfl (by decide) v2 (k+1) ((d.take k).flatMap VE.enc++[.int .i64 x.k,.bool x.b,.int .i64 x.n,.string x.t,.string x.x,.slice x.p x.len x.cap]) (by rfl) HO2.out (some ⟨ga,0,none⟩) 0 0 [] (by rfl) (by rfl) (fun _=>⟨rfl,rfl⟩) (fun _ _ _ _ hu=>by cases hu) (fun _ hu=>by cases hu) HM2.out HB2.out hz2s.out ?_)))
             intro v3 w3 hown3 hg3
             have BI3:Below w6.heap.size w6 w3:=BI2.out.grown hg3 hz2s.out (fun g hg=>(HO2.out.lt g hg).1)
             have acc:∃ out,InsV (srcT all way (levN kk) n (i+1)) out∧AccW w out v3 w3:=⟨putV out k (zdt all[i] (levN kk n)),by rw [zhj hi1 HSEL.out];exact HINS.out.put k (by have:=HM.out;omega) LO.out HU.out,AccW.put HX.out.1 HX.out.2.2 HBZ.out BI3 (by have:=HM.out;omega) HE.out hown3 (by have:=HM.out;omega) (by rw [List.drop_eq_nil_of_le (by omega)];simp)⟩
             have ACC:=Lib.hid acc
             clear acc hown3 hg3 BI3
             go_wp2_with fail
             go_roundg (N - (i+1))
             case measure=>omega
             case rel=>exact ⟨i+1,_,rfl,by omega,by go_num,ACC⟩
         ·have hkz:¬ 0 < k:=by omega
          go_upto_region 13 with fail
          refine wp_region_held_drew (S:=fun _=>True) (by kernel_rfl) trivial (fun hHeld=>?_)
          refine tg (i:=0) (.int .i64 (k:Int)) rfl hHeld ?_
          refine tg (i:=1) (.bool false) rfl hHeld ?_
          refine tg (i:=2) (.bool false) rfl hHeld ?_
          refine tn (i:=3) rfl hHeld ?_
          refine tn (i:=4) rfl hHeld ?_
          refine tn (i:=5) rfl hHeld ?_
          refine tn (i:=6) rfl hHeld ?_
          refine tn (i:=7) rfl hHeld ?_
          refine tn (i:=8) rfl hHeld ?_
          refine tn (i:=9) rfl hHeld ?_
          refine tn (i:=10) rfl hHeld ?_
          refine tg (i:=11) (.bool false) rfl hHeld ?_
          refine wpAnyH_done (by kernel_rfl) ?_ _
          clear hHeld
          go_upto_region 15 with fail
          refine wp_region_held_drew (S:=fun _=>True) (by kernel_rfl) trivial (fun hHeld=>?_)
          refine tg (i:=0) (.int .i64 (k:Int)) rfl hHeld ?_
          refine tg (i:=1) (.bool false) rfl hHeld ?_
          refine tg (i:=2) (.bool false) rfl hHeld ?_
          refine tn (i:=3) rfl hHeld ?_
          refine tn (i:=4) rfl hHeld ?_
          refine tn (i:=5) rfl hHeld ?_
          refine tn (i:=6) rfl hHeld ?_
          refine tn (i:=7) rfl hHeld ?_
          refine tn (i:=8) rfl hHeld ?_
          refine tn (i:=9) rfl hHeld ?_
          refine tn (i:=10) rfl hHeld ?_
          refine tg (i:=11) (.bool false) rfl hHeld ?_
          refine wpAnyH_done (by kernel_rfl) ?_ _
          clear hHeld
          have HBQ:Hid (Below wz.heap.size wz wr.drew.drew):=Lib.hid (HB.out.drew.drew)
          have HBZ:Hid (Below wo.heap.size wo wr.drew.drew):=Lib.hid (HBZ0.out.trans (HBQ.out.mono HBZ0.out.size))
          have HRX:=HXR
          have LO:Hid (∀ (h0:0 < k),zan 1 (out[k - 1]'(by have:=HM.out;omega)) (zdt all[i] (levN kk n)) < 0):=Lib.hid fun h0=>absurd h0 hkz
          generalize wr.drew.drew=w6 at*
          have hkc:(k:Int)≤ca:=by omega
          have hkm2:(k:Int)≤m:=by omega
          have hd3:d.length=m:=by rw [HM.out,← HX.out.1,List.length_map]
          have hkd:k≤d.length:=by omega
          have HSRC:=Lib.hid (fun W (hb:Below w6.heap.size w6 W)=>zhi HCL.out (HBZ.out) hb)
          have HPQ:=Lib.hid (zij HPN.out)
          have HLA:((d.take k).flatMap VE.enc).length=k*6:=ze7 _ _ (by rw [List.length_take];omega)
          have HLB:((d.drop k).flatMap VE.enc).length=(m - k)*6:=ze7 _ _ (by rw [List.length_drop];omega)
          have HM1:0+k≤maxLen:=by unfold maxLen;omega
          have HM2:k+1≤maxLen:=by unfold maxLen;omega
          have HM3:k+1+(m - k)≤maxLen:=by unfold maxLen;omega
          have HB1:(0+k)*80≤140737488355328:=by omega
          have HB2:(k+1)*80≤140737488355328:=by omega
          have HB3:(k+1+(m - k))*80≤140737488355328:=by omega
          have HLA:=Lib.hid HLA;have HLB:=Lib.hid HLB
          have HM1:=Lib.hid HM1;have HM2:=Lib.hid HM2;have HM3:=Lib.hid HM3
          have HB1:=Lib.hid HB1;have HB2:=Lib.hid HB2;have HB3:=Lib.hid HB3
          have RX:=Lib.hid (zae HRX.out HBQ.out)
          go_wp2_with (first
           |(at_builtin;go_loud (refine zao rfl _ _ 37 rfl w6.heap.size 39 i0 (.agg #[.int .i64 0,.bool false,.int .i64 0,.string ⟨#[]⟩,.string ⟨#[]⟩,.slice none 0 0]) 6 80 Tryz.underlying37 hi hz0 hz1 hz2 rfl (by decide) (.slice none 0 0) 0 [] (by rfl) (World.ownsRow_nil _ _ _ _) pa k ca ((d.take k).flatMap VE.enc) (by rfl) HLA.out (fun e=>⟨(HPQ.out k hkm e).1,(HPQ.out k hkm e).2.2.2⟩) (zik (HSRC.out _ (Below.refl _ _))) (zex _) HM1.out HB1.out (Nat.le_refl _) ?_)))
          intro v1 w1 hown1 hg1
          have BI1:Hid (Below w6.heap.size w6 w1):=Lib.hid ((Below.refl _ _).grown hg1 (Nat.le_refl _) (fun g hg=>by simp [Value.ownBlock] at hg))
          have HO1:=Lib.hid hown1
          have rz1:=zae RX.out BI1.out
          have hz1s:=Lib.hid BI1.out.size
          clear hown1 hg1
          go_wp2_with (first
           |((with_reducible refine zal (.tmp 9) b9 0 x rz1 ?_ ?_ ?_ ?_);rfl;rfl;rfl)
           |(at_builtin;go_loud (refine zao rfl _ _ 37 rfl w6.heap.size 39 i0 (.agg #[.int .i64 0,.bool false,.int .i64 0,.string ⟨#[]⟩,.string ⟨#[]⟩,.slice none 0 0]) 6 80 Tryz.underlying37 hi hz0 hz1 hz2 rfl (by decide) v1 k ((d.take k).flatMap VE.enc) (by rfl) (HO1.out.alloc _) (some ⟨w1.heap.size,0,none⟩) 1 1 [.int .i64 x.k,.bool x.b,.int .i64 x.n,.string x.t,.string x.x,.slice x.p x.len x.cap] (by rfl) rfl (fun e=>by cases e) (fun ad e j u hu=>by cases e;exact zdf _ _ _ _ _ _ _ _ j u hu) (by simp [Value.oneCell']) HM2.out HB2.out (by simp;have:=hz1s.out;omega) ?_)))
          intro v2 w2 hown2 hg2
          have BI2:Hid (Below w6.heap.size w6 w2):=Lib.hid ((BI1.out.alloc hz1s.out _).grown hg2 (by simp;have:=hz1s.out;omega) (fun g hg=>(HO1.out.lt g hg).1))
          have HO2:=Lib.hid hown2
          have hz2s:=Lib.hid BI2.out.size
          clear hown2 hg2 rz1
          rcases Nat.lt_or_ge k ca with hck | hck
          ·have hck2:¬ ca=k:=by omega
           have HNN:Hid ((Option.map (fun x=>x.add (k*6)) pa)=none→m - k=0∧ca - k=0):=Lib.hid (zxi pa k HPQ.out hkm)
           have HSS:Hid (SrcC w2 (Option.map (fun x=>x.add (k*6)) pa) ((d.drop k).flatMap VE.enc)):=Lib.hid (zpe (k:=k) (HSRC.out _ BI2.out) (ze7 (d.take k) k (by rw [List.length_take];omega)))
           go_wp2_with (first
            |(at_builtin;go_loud (refine zao rfl _ _ 37 rfl w6.heap.size 39 i0 (.agg #[.int .i64 0,.bool false,.int .i64 0,.string ⟨#[]⟩,.string ⟨#[]⟩,.slice none 0 0]) 6 80 Tryz.underlying37 hi hz0 hz1 hz2 rfl (by decide) v2 (k+1) ((d.take k).flatMap VE.enc++[.int .i64 x.k,.bool x.b,.int .i64 x.n,.string x.t,.string x.x,.slice x.p x.len x.cap]) (by rfl) HO2.out (Option.map (fun x=>x.add (k*6)) pa) (m - k) (ca - k) ((d.drop k).flatMap VE.enc) (by rfl) HLB.out HNN.out HSS.out (zex _) HM3.out HB3.out hz2s.out ?_)))
           intro v3 w3 hown3 hg3
           have BI3:Below w6.heap.size w6 w3:=BI2.out.grown hg3 hz2s.out (fun g hg=>(HO2.out.lt g hg).1)
           have acc:∃ out,InsV (srcT all way (levN kk) n (i+1)) out∧AccW w out v3 w3:=⟨putV out k (zdt all[i] (levN kk n)),by rw [zhj hi1 HSEL.out];exact HINS.out.put k (by have:=HM.out;omega) LO.out HU.out,AccW.put HX.out.1 HX.out.2.2 HBZ.out BI3 (by have:=HM.out;omega) HE.out hown3 (by have:=HM.out;omega) (by first | rfl | simp)⟩
           have ACC:=Lib.hid acc
           clear acc hown3 hg3 BI3
           go_wp2_with fail
           go_roundg (N - (i+1))
           case measure=>omega
           case rel=>exact ⟨i+1,_,rfl,by omega,by go_num,ACC⟩
          ·have e1:k=ca:=by omega
           have e2:k=m:=by omega
           subst e1
           subst e2
           go_wp2_with (first
            |(at_builtin;go_loud (refine zao rfl _ _ 37 rfl w6.heap.size 39 i0 (.agg #[.int .i64 0,.bool false,.int .i64 0,.string ⟨#[]⟩,.string ⟨#[]⟩,.slice none 0 0]) 6 80 Tryz.underlying37 hi hz0 hz1 hz2 rfl (by decide) v2 (k+1) ((d.take k).flatMap VE.enc++[.int .i64 x.k,.bool x.b,.int .i64 x.n,.string x.t,.string x.x,.slice x.p x.len x.cap]) (by rfl) HO2.out pa 0 0 [] (by rfl) (by rfl) (fun _=>⟨rfl,rfl⟩) (fun _ _ _ _ hu=>by cases hu) (fun _ hu=>by cases hu) HM2.out HB2.out hz2s.out ?_)))
           intro v3 w3 hown3 hg3
           have BI3:Below w6.heap.size w6 w3:=BI2.out.grown hg3 hz2s.out (fun g hg=>(HO2.out.lt g hg).1)
           have acc:∃ out,InsV (srcT all way (levN kk) n (i+1)) out∧AccW w out v3 w3:=⟨putV out k (zdt all[i] (levN kk n)),by rw [zhj hi1 HSEL.out];exact HINS.out.put k (by have:=HM.out;omega) LO.out HU.out,AccW.put HX.out.1 HX.out.2.2 HBZ.out BI3 (by have:=HM.out;omega) HE.out hown3 (by have:=HM.out;omega) (by rw [List.drop_eq_nil_of_le (by omega)];simp)⟩
           have ACC:=Lib.hid acc
           clear acc hown3 hg3 BI3
           go_wp2_with fail
           go_roundg (N - (i+1))
           case measure=>omega
           case rel=>exact ⟨i+1,_,rfl,by omega,by go_num,ACC⟩
  ·have hin:i=all.length:=by have:=HN.out;omega
   have hiN:i=N:=by omega
   have hfin:∃ V,Ending.returned A=.returned V∧∃ ks,InsV (srcT all way (levN kk) n N) ks∧AccW w ks V wr:=⟨A,rfl,out,by rw [← hiN];exact hins,d,hd,hown,hbel⟩
   have HF:=Lib.hid hfin
   clear hfin HA hins hd hown hbel hiN
   go_wp2_with fail
   go_ret
   exact HF.out
end Go.Proofs.YtanbgdhmfjgihaaGreatDoor
