/- Texts of one kind, one behind the other: each says ahead of itself what it shows. -/
import Derived.Test.YtanbgdhmfjgihaaGreatDoorTax
namespace Go.Proofs.YtanbgdhmfjgihaaGreatDoor
open Go.RowKit
set_option maxHeartbeats 12800000
set_option maxRecDepth 20000
theorem za4.r18 {w:World} {g:Nat} {s p o:V6} (h:za4 w g s p o):w.rangeAt g 0 [.int .i64 s.k,.bool s.b,.int .i64 s.n,.string s.t,.string s.x,.slice s.p s.len s.cap,.int .i64 p.k,.bool p.b,.int .i64 p.n,.string p.t,.string p.x,.slice p.p p.len p.cap,.int .i64 o.k,.bool o.b,.int .i64 o.n,.string o.t,.string o.x,.slice o.p o.len o.cap]:=fun i v hv=>by
 rw [Nat.zero_add]
 exact zab h i (by simpa using hv)
theorem zhf {W:World} {L:Value} {l:List Tri3} (h:Tris W L l):∃ p cap,L=.slice p l.length cap:=by
 obtain ⟨p,cap,e,_⟩:=h
 exact ⟨p,cap,e⟩
theorem zyk {W:World} {s p o:V6} {us up uo:Val} {ls lp lo:List Val} (hs:Is W s us ls) (hp:Is W p up lp) (ho:Is W o uo lo):chkP s p o us up uo=zbl ⟨us,up,uo⟩:=by
 unfold chkP zbl
 rw [show kd us=s.k by rw [hs.e];rfl,show kd up=p.k by rw [hp.e];rfl,show kd uo=o.k by rw [ho.e];rfl]
structure zbe (l:List Tri3) (s:SM):Prop where
 rise:Rise s.vs
 mem:∀ u,u∈s.vs↔u∈flat l
 rows:s.rs.Pairwise R3.lt
 rmem:∀ r,r∈s.rs↔∃ t∈l,rowOf s.vs t=r.vr
 nums:∀ k,k < 6→Nums s.rs (lev k).1 (lev k).2.1 (lev k).2.2 (s.ls k)
 none:∀ k,6≤k→s.ls k=[]
 nv:s.vs.length≤3*l.length
 nr:s.rs.length≤l.length
def zqe (base:Nat) (W:World) (sp:Nat) (s:SM):Prop:=∃ pv pr cv cr pp cc,zd1 W sp s pv pr cv cr pp cc∧base≤sp∧Hi base pv∧Hi base pr∧(∀ k,k < 6→Hi base (pp k))∧∀ k,k < 6→(s.ls k).length≤cc k
theorem zqe.at_ {base:Nat} {W:World} {sp:Nat} {s:SM} (h:zqe base W sp s):zeu W sp s:=by
 obtain ⟨pv,pr,cv,cr,pp,cc,k,_⟩:=h
 exact ⟨pv,pr,cv,cr,pp,cc,k⟩
def zyl (w:World) (l:List Tri3) (e:Ending) (w':World):Prop:=∃ sp s,e=.returned (.tuple #[.pointer (some ⟨sp,0,none⟩),.int .i64 0])∧zqe w.heap.size w' sp s∧zbe l s∧Below w.heap.size w w'
def LoadBad (w:World) (e:Ending) (w':World):Prop:=e=.returned (.tuple #[.pointer none,.int .i64 20])∧Below w.heap.size w w'
structure GL (vs:List Val) (R:List R3) (pv pr:Option Addr) (cv cr:Nat) (k:Nat) (w2 wr:World):Prop where
 h:∃ (pp:Nat→Option Addr) (cc:Nat→Nat) (ls:Nat→List Nat),wr.heap[w2.heap.size]?=some (.cells #[.slice pv vs.length cv,.slice pr R.length cr,.slice (pp 0) (ls 0).length (cc 0),.slice (pp 1) (ls 1).length (cc 1),.slice (pp 2) (ls 2).length (cc 2),.slice (pp 3) (ls 3).length (cc 3),.slice (pp 4) (ls 4).length (cc 4),.slice (pp 5) (ls 5).length (cc 5)] 76)∧(∀ i,i < k→Nums R (lev i).1 (lev i).2.1 (lev i).2.2 (ls i)∧zfb wr (pp i) (ls i)∧Hi (w2.heap.size+1) (pp i)∧(ls i).length≤cc i)∧(∀ i,k≤i→pp i=none∧cc i=0∧ls i=[])
 b:Below w2.heap.size w2 wr
theorem zvh (a b:Value) (pp:Nat→Option Addr) (cc:Nat→Nat) (ls:Nat→List Nat) (k:Nat) (hk:k < 6) (pn:Option Addr) (ns:List Nat) (cn:Nat):
 (#[a,b,.slice (pp 0) (ls 0).length (cc 0),.slice (pp 1) (ls 1).length (cc 1),.slice (pp 2) (ls 2).length (cc 2),.slice (pp 3) (ls 3).length (cc 3),.slice (pp 4) (ls 4).length (cc 4),.slice (pp 5) (ls 5).length (cc 5)]:Array Value).setIfInBounds (2+k) (.slice pn ns.length cn)=#[a,b,.slice (if 0=k then pn else pp 0) (if 0=k then ns else ls 0).length (if 0=k then cn else cc 0),.slice (if 1=k then pn else pp 1) (if 1=k then ns else ls 1).length (if 1=k then cn else cc 1),.slice (if 2=k then pn else pp 2) (if 2=k then ns else ls 2).length (if 2=k then cn else cc 2),.slice (if 3=k then pn else pp 3) (if 3=k then ns else ls 3).length (if 3=k then cn else cc 3),.slice (if 4=k then pn else pp 4) (if 4=k then ns else ls 4).length (if 4=k then cn else cc 4),.slice (if 5=k then pn else pp 5) (if 5=k then ns else ls 5).length (if 5=k then cn else cc 5)]:=by
 match k,hk with
 | 0,_ | 1,_ | 2,_ | 3,_ | 4,_ | 5,_=>rfl
theorem zvi (a b:Value) (pp:Nat→Option Addr) (cc:Nat→Nat) (ls:Nat→List Nat) (k:Nat) (hk:k < 6) (h:pp k=none∧cc k=0∧ls k=[]):
 (#[a,b,.slice (pp 0) (ls 0).length (cc 0),.slice (pp 1) (ls 1).length (cc 1),.slice (pp 2) (ls 2).length (cc 2),.slice (pp 3) (ls 3).length (cc 3),.slice (pp 4) (ls 4).length (cc 4),.slice (pp 5) (ls 5).length (cc 5)]:Array Value)[2+k]?=some (.slice none 0 0):=by
 obtain ⟨h1,h2,h3⟩:=h
 match k,hk with
 | 0,_ | 1,_ | 2,_ | 3,_ | 4,_ | 5,_=>
   simp [h1,h2,h3]
theorem lev_lt (k:Nat):(lev k).1 < 3∧(lev k).2.1 < 3∧(lev k).2.2 < 3:=by
 unfold lev
 split <;> decide
theorem zfb.only {W W':World} {p:Option Addr} {l:List Nat} {b:Nat} (h:zfb W p l) (o:Only b W W') (hb:∀ g o,p=some ⟨g,o,none⟩→g≠b):zfb W' p l:=fun hn=>by
 obtain ⟨g,o',e,k⟩:=h hn
 refine ⟨g,o',e,fun j hj=>?_⟩
 have hlt:=World.block_lt_of_cell? W _ (k j hj)
 have hbk:=o.block g hlt (hb g o' e)
 rw [World.cell?_of_block (w':=W') (w:=W) (a:=⟨g,o'+j,none⟩) hbk]
 exact k j hj
theorem zrj (L:Value) (l:List Tri3) (w:World) (hG:Gd w) (hT:Tab w) (hl:Tris w L l) (hn:l.length≤65536):
 Calls Tryz.prog 10 #[L] w fun e w'=>((∀ t∈l,zbl t=true)→zyl w l e w')∧(¬ (∀ t∈l,zbl t=true)→LoadBad w e w'):=by
 obtain ⟨p0,cap,rfl⟩:=zhf hl
 obtain ⟨n,hln⟩:∃ n,n=l.length:=⟨_,rfl⟩
 rw [← hln] at hn ⊢
 have hni:¬ (65536:Int) < n:=by omega
 have HL:=Lib.hid hln
 have HH:=Lib.hid hl
 have HG:=Lib.hid hG
 have HT:=Lib.hid hT
 clear hl hln hG hT
 go_enter Tryz.func10,Tryz.ntmps10
 go_wp2_with fail
 go_loopg [14] n (fun gg s14 wr=>∃ j:Nat,j+gg=n∧s14=.int .i64 j∧Hid (Below w.heap.size w wr)∧Hid (∀ (i:Nat) (h:i < l.length),i < j→zbl l[i]=true))
 case atStart=>exact ⟨0,by omega,rfl,Lib.hid (Below.refl _ _),Lib.hid fun _ _ h=>absurd h (by omega)⟩
 case round=>
  obtain ⟨j,hjg,rfl,HB,HA⟩:=hrel
  by_cases hlt:(j:Int) < n
  ·have hj1:j < l.length:=by have:=HL.out;omega
   obtain ⟨g,off,rfl,hh⟩:∃ g off,p0=some ⟨g,off,none⟩∧zar w g off (flat l):=by
    obtain ⟨p1,cap1,e,h1⟩:=HH.out
    obtain ⟨g,off,e2,h2⟩:=h1 (by intro e;rw [e] at hj1;exact absurd hj1 (by simp))
    injection e with e3 _ _
    exact ⟨g,off,by rw [e3];exact e2,h2⟩
   obtain ⟨s,p,o,ls,lp,lo,is,ip,io,ra⟩:=zhb (zar.below _ hh HB.out) j hj1
   obtain ⟨r,hr⟩:∃ r,r=zbl l[j]:=⟨_,rfl⟩
   have hc:∀ W,Below wr.heap.size wr W→Calls Tryz.prog 13 #[.agg #[.int .i64 s.k,.bool s.b,.int .i64 s.n,.string s.t,.string s.x,.slice s.p s.len s.cap,.int .i64 p.k,.bool p.b,.int .i64 p.n,.string p.t,.string p.x,.slice p.p p.len p.cap,.int .i64 o.k,.bool o.b,.int .i64 o.n,.string o.t,.string o.x,.slice o.p o.len o.cap]] W fun e w'=>e=.returned (.bool r)∧Low W.heap.size W w':=fun W hb=>by
    have:=zwr s p o _ _ _ ls lp lo W ((HG.out.below HB.out).below hb) (is.below hb) (ip.below hb) (io.below hb)
    rw [zyk is ip io] at this
    rw [hr]
    exact this
   have HC:=Lib.hid hc
   have HR:=Lib.hid hr
   have hbs:=HB.out.size
   clear hc hr is ip io hh
   go_upto_region 6 with (first
    |((with_reducible refine zbk (.tmp 16) g (off+j*18) s p o ra ?_ ?_ ?_ ?_);rfl;rfl;rfl)
    |((with_reducible refine zdj (.tmp 5) (.tmp 17) wr.heap.size s p o (zah _ _ rfl) rfl ?_ ?_ ?_ ?_ ?_);rfl;rfl;rfl;rfl;intro wX hoX B))
   have bX:Below wr.heap.size wr wX:=zag (za0 wr _) hoX (Nat.le_refl _) (by simp)
   have hcX:=HC.out wX bX
   have HBX:=Lib.hid bX
   have B18:=B.r18
   have HCX:=Lib.hid hcX
   clear hoX ra bX HC hcX
   cases r with
   | true=>
     go_wp2_with (first
      |((with_reducible refine zbk (.tmp 5) wr.heap.size 0 s p o B18 ?_ ?_ ?_ ?_);rfl;rfl;rfl)
      |(go_at_call 13;(with_reducible refine HCX.out.mono ?_);rintro e w3 ⟨rfl,hb3⟩))
     have HB2:Hid (Below w.heap.size w w3):=Lib.hid ((HB.out.trans (HBX.out.mono hbs)).trans (hb3.is.mono (Nat.le_trans hbs HBX.out.size)))
     clear hb3 HBX
     go_wp2_with fail
     go_roundg (gk - 1)
     case measure=>omega
     case rel=>
      refine ⟨j+1,by omega,by go_num,HB2,Lib.hid fun i h hi=>?_⟩
      by_cases e:i=j
      ·subst e;exact HR.out.symm
      ·exact HA.out i h (by omega)
   | false=>
     go_wp2_with (first
      |((with_reducible refine zbk (.tmp 5) wr.heap.size 0 s p o B18 ?_ ?_ ?_ ?_);rfl;rfl;rfl)
      |(go_at_call 13;(with_reducible refine HCX.out.mono ?_);rintro e w3 ⟨rfl,hb3⟩))
     have HB2:Hid (Below w.heap.size w w3):=Lib.hid ((HB.out.trans (HBX.out.mono hbs)).trans (hb3.is.mono (Nat.le_trans hbs HBX.out.size)))
     clear hb3 HBX
     go_wp2_with fail
     go_ret2
     refine ⟨fun h=>?_,fun _=>⟨rfl,HB2.out⟩⟩
     have:=h _ (List.getElem_mem hj1)
     rw [← HR.out] at this
     exact absurd this (by decide)
  ·have hjn:j=l.length:=by have:=HL.out;omega
   have hgood:∀ t∈l,zbl t=true:=fun t ht=>by
    obtain ⟨i,hi,rfl⟩:=List.getElem_of_mem ht
    exact HA.out i hi (by omega)
   have hv:=zqb l _ wr (HG.out.below HB.out) (HT.out.below HB.out) (HH.out.below HB.out) (by have:=HL.out;omega) hgood
   rw [← HL.out] at hv
   have HV:=Lib.hid hv
   have HGOOD:=Lib.hid hgood
   clear hv hgood HA
   go_upto_region 10 with (first
    |(go_at_call 40;(with_reducible refine HV.out.mono ?_);rintro e1 w1 ⟨vs,pv,cv,rfl,hrise,hmem,hvals,hhv,hnv,hb1⟩))
   have b1:Below w.heap.size w w1:=HB.out.trans (hb1.mono HB.out.size)
   have hrr:=zqc l _ vs pv cv w1 (HG.out.below b1) (HT.out.below b1) (HH.out.below b1) (by have:=HL.out;omega) hvals hrise hmem hnv (fun g o e=>(hhv g o e).2)
   rw [← HL.out] at hrr
   have HRR:=Lib.hid hrr
   have HX1:=Lib.hid (And.intro hrise (And.intro hmem (And.intro hvals (And.intro (hhv.mono HB.out.size) (And.intro hnv b1)))))
   clear hrr hrise hmem hvals hhv hnv b1 hb1
   go_upto_region 11 with (first
    |(go_at_call 41;(with_reducible refine HRR.out.mono ?_);rintro e2 w2 ⟨R,pr,cr,rfl,hrows,hrmem,hrat,hhr,hnr,hb2⟩))
   obtain ⟨hrise,hmem,hvals,hhv,hnv,b1⟩:=HX1.out
   have s1:=b1.size
   have b2:Below w.heap.size w w2:=b1.trans (hb2.mono s1)
   have gl0:GL vs R pv pr cv cr 0 w2 (w2.alloc (.cells #[.slice pv vs.length cv,.slice pr R.length cr,.slice none 0 0,.slice none 0 0,.slice none 0 0,.slice none 0 0,.slice none 0 0,.slice none 0 0] 76)):=
    ⟨⟨fun _=>none,fun _=>0,fun _=>[],zah _ _ rfl,fun i hi=>absurd hi (by omega),fun i _=>⟨rfl,rfl,rfl⟩⟩,za0 _ _⟩
   have HX2:=Lib.hid (And.intro hrows (And.intro hrmem (And.intro (hhr.mono s1) (And.intro hnr (And.intro b2 (And.intro (hvals.below hb2) hrat))))))
   have HG0:=Lib.hid gl0
   have hsp:w.heap.size≤w2.heap.size:=b2.size
   have hRn:R.length < 1073741824:=by have:=HL.out;omega
   have h01:∀ g o,pr=some ⟨g,o,none⟩→o=0:=fun g o e=>(hhr g o e).2
   have HZ:=Lib.hid h01
   clear gl0 b2 hb2 hrows hrmem hrat hhr hnr hrise hmem hvals hhv hnv b1 h01
   generalize w2.alloc (.cells #[.slice pv vs.length cv,.slice pr R.length cr,.slice none 0 0,.slice none 0 0,.slice none 0 0,.slice none 0 0,.slice none 0 0,.slice none 0 0] 76)=w4 at*
   go_wp2_with fail
   go_loopg [30] 6 (fun gg s30 wr=>∃ k:Nat,k+gg=6∧s30=.int .i64 k∧Hid (GL vs R pv pr cv cr k w2 wr))
   case atStart=>exact ⟨0,by omega,rfl,HG0⟩
   case round=>
    obtain ⟨k,hkg,rfl,HK⟩:=hrel
    by_cases hlt:(k:Int) < 6
    ·have hk:k < 6:=by omega
     obtain ⟨⟨pp,cc,ls,hcells,hdone,hrest⟩,hbel⟩:=HK.out
     obtain ⟨cs,hcs⟩:∃ cs:Array Value,cs=#[.slice pv vs.length cv,.slice pr R.length cr,.slice (pp 0) (ls 0).length (cc 0),.slice (pp 1) (ls 1).length (cc 1),.slice (pp 2) (ls 2).length (cc 2),.slice (pp 3) (ls 3).length (cc 3),.slice (pp 4) (ls 4).length (cc 4),.slice (pp 5) (ls 5).length (cc 5)]:=⟨_,rfl⟩
     rw [← hcs] at hcells
     have HC1:Hid (cs[1]?=some (.slice pr R.length cr)):=Lib.hid (by rw [hcs];rfl)
     have HC2:Hid (cs[2+k]?=some (.slice none 0 0)):=Lib.hid (by rw [hcs];exact zvi _ _ pp cc ls k hk (hrest k (Nat.le_refl _)))
     have HCS:=Lib.hid (fun pn ns cn=>(congrArg (fun a:Array Value=>a.setIfInBounds (2+k) (.slice pn (ns:List Nat).length cn)) hcs).trans (zvh _ _ pp cc ls k hk pn ns cn))
     have HLV:=Lib.hid (fun W=>znc k hk W)
     have hlv:=lev_lt k
     have hsn:∀ W,Below wr.heap.size wr W→Calls Tryz.prog 42 #[.slice pr R.length cr,.agg #[.int .i64 ((lev k).1:Nat),.int .i64 ((lev k).2.1:Nat),.int .i64 ((lev k).2.2:Nat)]] W (SNG W R (lev k).1 (lev k).2.1 (lev k).2.2):=fun W hb=>
      zqd R pr cr _ _ _ W hlv.1 hlv.2.1 hlv.2.2 hRn (HX2.out.2.2.2.2.2.2.below (hbel.trans (hb.mono hbel.size))) HZ.out
     have HSN:=Lib.hid hsn
     have HX3:=Lib.hid (And.intro hdone (And.intro hrest hbel))
     have hsw:=hbel.size
     clear hsn hdone hrest hbel hcs HK hlv
     have hk2:(k:Int) < 6:=by omega
     go_upto_region 14 with fail
     refine wp_region_held_drew (S:=fun W=>∃ cs',W.heap[w2.heap.size]?=some (.cells cs' 76)∧cs'[1]?=some (.slice pr R.length cr)) (by kernel_rfl) ⟨cs,hcells,HC1.out⟩ (fun hHeld=>?_)
     have M0:Below wr.heap.size wr wr.drew:=(Below.refl _ _).drew
     refine tg (i:=0) (.pointer (some ⟨w2.heap.size,0,none⟩)) rfl hHeld ?_
     refine tg (i:=1) (.int .i64 k) rfl hHeld ?_
     refine tg (i:=2) (.pointer (some ⟨w2.heap.size,0,none⟩)) rfl hHeld ?_
     refine tg (i:=3) (.pointer (some ⟨w2.heap.size,0,none⟩)) rfl hHeld ?_
     refine tg (i:=4) (.pointer (some ⟨w2.heap.size,1,none⟩)) rfl hHeld ?_
     refine tk (i:=5) (v:=.slice pr R.length cr) rfl (Or.inl ⟨by rfl,fun W h=>by obtain ⟨cs',h1,h2⟩:=h;have c0:=zab h1 1 h2;go_simp⟩) hHeld ?_
     refine tg (i:=6) (.int .i64 k) rfl hHeld ?_
     refine tg (i:=9) (.pointer (some ⟨w2.heap.size,0,none⟩)) rfl hHeld ?_
     refine tg (i:=10) (.pointer (some ⟨w2.heap.size,2,none⟩)) rfl hHeld ?_
     refine tr 7 rfl (fun K hK=>?_)
     rw [if_pos (by rfl)]
     go_simp
     refine (HLV.out _).mono ?_
     rintro e0 w3 ⟨rfl,hb3⟩
     have M1:=zak M0 hb3.is M0.size
     have hH1:=(hb3.block w2.heap.size (zac hcells)).trans hcells
     clear hb3
     refine hK.out _ _ ⟨cs,hH1,HC1.out⟩ (fun hHeld1=>?_)
     clear hK K
     try simp only [putS]
     refine tr 8 rfl (fun K hK=>?_)
     rw [if_pos (by rfl)]
     go_simp
     refine (HSN.out _ M1).mono ?_
     rintro e0 w3 ⟨ns,pn,cn,rfl,hnums,hnat,hhi,hb4,hcn⟩
     have M2:=zak M1 hb4 M1.size
     have hH2:=(hb4.block w2.heap.size (zac hH1)).trans hH1
     have HN:=Lib.hid (And.intro hnums (And.intro hnat (And.intro (hhi.mono M1.size) (And.intro M2 hcn))))
     clear hb4 hnums hnat hhi M1 M2 hcn
     refine hK.out _ _ ⟨cs,hH2,HC1.out⟩ (fun hHeld2=>?_)
     clear hK K
     try simp only [putS]
     refine tg (i:=11) (.pointer (some ⟨w2.heap.size,2+k,none⟩)) rfl hHeld2 ?_
     refine tr 12 rfl (fun K hK=>?_)
     have c0:=zab hH2 (2+k) HC2.out
     have f0:=za9 hH2 (2+k)
     go_simp
     have hS:=zaz hH2 (2+k) (.slice pn ns.length cn)
     refine hK.out _ _ ⟨cs.setIfInBounds (2+k) (.slice pn ns.length cn),hS,by rw [Array.getElem?_setIfInBounds_ne (by omega)];exact HC1.out⟩ (fun _=>?_)
     clear hK K c0 f0
     try simp only [putS]
     refine wpAnyH_done (by kernel_rfl) ?_ _
     have acc:GL vs R pv pr cv cr (k+1) w2 (w3.setCell ⟨w2.heap.size,2+k,none⟩ (.slice pn ns.length cn)):=by
      obtain ⟨hdone,hrest,hbel⟩:=HX3.out
      obtain ⟨hnums,hnat,hhi,M2,hcn⟩:=HN.out
      have hlt:=zac hcells
      have on:Only w2.heap.size w3 (w3.setCell ⟨w2.heap.size,2+k,none⟩ (.slice pn ns.length cn)):=(Only.refl _ _).setCell _ _ _
      refine ⟨⟨fun i=>if i=k then pn else pp i,fun i=>if i=k then cn else cc i,fun i=>if i=k then ns else ls i,?_,fun i hi=>?_,fun i hi=>?_⟩,?_⟩
      ·rw [hS,HCS.out pn ns cn]
      ·by_cases e:i=k
       ·subst e
        simp only [if_true]
        exact ⟨hnums,hnat.only on (fun g o e=>by have:=(hhi g o e).1;omega),hhi.mono (by omega),hcn⟩
       ·simp only [if_neg e]
        obtain ⟨h1,h2,h3,h4⟩:=hdone i (by omega)
        exact ⟨h1,(h2.below M2).only on (fun g o e=>by have:=(h3 g o e).1;omega),h3,h4⟩
      ·have e:¬ i=k:=by omega
       simp only [if_neg e]
       exact hrest i (by omega)
      ·exact zfm (hbel.trans (M2.mono hsw)) none _ (Nat.le_refl _) (Nat.le_trans hsw M2.size)
     have ACC:=Lib.hid acc
     clear acc hS hH2 hH1 hHeld2 HN HX3 HCS HC1 HC2 HLV HSN hcells M0
     generalize w3.setCell ⟨w2.heap.size,2+k,none⟩ (.slice pn ns.length cn)=w5 at*
     go_wp2_with fail
     go_roundg (gk - 1)
     case measure=>omega
     case rel=>exact ⟨k+1,by omega,by go_num,ACC⟩
    ·have hk:k=6:=by omega
     subst hk
     have hfin:zyl w l (.returned (.tuple #[.pointer (some ⟨w2.heap.size,0,none⟩),.int .i64 0])) wr:=by
      obtain ⟨⟨pp,cc,ls,hcells,hdone,hrest⟩,hbel⟩:=HK.out
      obtain ⟨hrows,hrmem,hhr,hnr,b2,hvals,hrat⟩:=HX2.out
      obtain ⟨hrise,hmem,_,hhv,hnv,_⟩:=HX1.out
      refine ⟨w2.heap.size,⟨vs,R,ls⟩,rfl,⟨pv,pr,cv,cr,pp,cc,⟨hcells,hvals.below hbel,hrat.below hbel,fun i hi=>(hdone i hi).2.1⟩,hsp,hhv,hhr,fun i hi=>((hdone i hi).2.2.1).mono (by omega),fun i hi=>(hdone i hi).2.2.2⟩,⟨hrise,hmem,hrows,hrmem,fun i hi=>(hdone i hi).1,fun i hi=>(hrest i hi).2.2,hnv,hnr⟩,b2.trans (hbel.mono hsp)⟩
     have HF:=Lib.hid hfin
     clear hfin HK
     go_wp2_with fail
     go_ret2
     refine ⟨fun _=>HF.out,?_⟩
     intro t ht e
     rw [HGOOD.out t ht] at e
     cases e
theorem zvj {a b:Int} (h:lexI a b≤0):a≤0∧(a=0→b≤0):=by
 unfold lexI at h
 by_cases e:a=0
 ·rw [if_pos e] at h
  exact ⟨by omega,fun _=>h⟩
 ·rw [if_neg e] at h
  exact ⟨h,fun e2=>absurd e2 e⟩
theorem zqf {a b:Int} (h:cmpZ a b≤0):a≤b:=by
 unfold cmpZ at h
 by_cases e:a < b
 ·omega
 ·rw [if_neg e] at h
  by_cases e2:b < a
  ·rw [if_pos e2] at h
   omega
  ·omega
theorem zrk (a:Int):cmpZ a a=0:=by
 unfold cmpZ
 rw [if_neg (by omega),if_neg (by omega)]
theorem zym {a b:VR} (h:VR.cf a b≤0):a.a≤b.a∧(a.a=b.a→a.b≤b.b∧(a.b=b.b→a.c≤b.c)):=by
 unfold VR.cf rowI at h
 obtain ⟨h1,h2⟩:=zvj h
 refine ⟨zqf h1,fun e=>?_⟩
 obtain ⟨h3,h4⟩:=zvj (h2 (by rw [e];exact zrk _))
 exact ⟨zqf h3,fun e2=>zqf (h4 (by rw [e2];exact zrk _))⟩
section
variable {l:List Tri3} {s:SM}
theorem zbe.row (h:zbe l s) (r:R3) (hr:r∈s.rs):∃ t∈l,s.vs[r.a]?=some t.s∧s.vs[r.b]?=some t.p∧s.vs[r.c]?=some t.o:=by
 obtain ⟨t,ht,e⟩:=(h.rmem r).1 hr
 have m1:t.s∈s.vs:=(h.mem _).2 (zd3.2 ⟨t,ht,.inl rfl⟩)
 have m2:t.p∈s.vs:=(h.mem _).2 (zd3.2 ⟨t,ht,.inr (.inl rfl)⟩)
 have m3:t.o∈s.vs:=(h.mem _).2 (zd3.2 ⟨t,ht,.inr (.inr rfl)⟩)
 unfold rowOf R3.vr at e
 injection e with e1 e2 e3
 refine ⟨t,ht,?_,?_,?_⟩
 ·rw [show r.a=vidx s.vs t.s by omega];exact zew m1
 ·rw [show r.b=vidx s.vs t.p by omega];exact zew m2
 ·rw [show r.c=vidx s.vs t.o by omega];exact zew m3
theorem zbe.len (h:zbe l s) (k:Nat) (hk:k < 6):(s.ls k).length=s.rs.length:=by
 rw [(h.nums k hk).perm.length_eq,List.length_range]
theorem zbe.lt (h:zbe l s) (k:Nat) (x:Nat) (hx:x∈s.ls k):x < s.rs.length:=by
 by_cases hk:k < 6
 ·exact List.mem_range.1 ((h.nums k hk).perm.mem_iff.1 hx)
 ·rw [h.none k (by omega)] at hx
  exact absurd hx (by simp)
theorem zbe.ok (h:zbe l s) (hl:l.length≤65536):SMok s where
 r x hx:=by
  obtain ⟨t,_,h1,h2,h3⟩:=h.row x hx
  exact ⟨(List.getElem?_eq_some_iff.1 h1).1,(List.getElem?_eq_some_iff.1 h2).1,(List.getElem?_eq_some_iff.1 h3).1⟩
 l k x hx:=h.lt k x hx
 nv:=by have:=h.nv;omega
 nr:=by have:=h.nr;omega
 nl k:=by
  have:=h.nr
  by_cases hk:k < 6
  ·rw [h.len k hk];omega
  ·rw [h.none k (by omega)]
   simp
theorem zrl (s:SM) (k u v z i:Nat) (hi:i < (s.ls k).length):prow s.rs u v z (s.ls k)[i]=⟨(s.num k u i:Nat),(s.num k v i:Nat),(s.num k z i:Nat)⟩:=by
 unfold prow SM.num
 rw [List.getElem?_eq_getElem hi]
 rfl
theorem zbe.cf (h:zbe l s) (k:Nat) (hk:k < 6) (i j:Nat) (hij:i≤j) (hj:j < (s.ls k).length):
 s.num k (lev k).1 i≤s.num k (lev k).1 j∧(s.num k (lev k).1 i=s.num k (lev k).1 j→s.num k (lev k).2.1 i≤s.num k (lev k).2.1 j∧(s.num k (lev k).2.1 i=s.num k (lev k).2.1 j→s.num k (lev k).2.2 i≤s.num k (lev k).2.2 j)):=by
 rcases Nat.lt_or_ge i j with q | q
 ·have:=zym (List.pairwise_iff_getElem.1 (h.nums k hk).sort i j (by omega) hj q)
  rw [zrl s k _ _ _ i (by omega),zrl s k _ _ _ j hj] at this
  simp only at this
  refine ⟨by omega,fun e=>?_⟩
  have h2:=this.2 (by omega)
  exact ⟨by omega,fun e2=>by have:=h2.2 (by omega);omega⟩
 ·obtain rfl:i=j:=by omega
  exact ⟨Nat.le_refl _,fun _=>⟨Nat.le_refl _,fun _=>Nat.le_refl _⟩⟩
theorem zbe.so (h:zbe l s):zdd s where
 v:=h.rise
 m0 k hk i j hij hj:=(h.cf k hk i j hij hj).1
 m1 k hk i j hij hj e:=((h.cf k hk i j hij hj).2 e).1
 m2 k hk i j hij hj e e2:=((h.cf k hk i j hij hj).2 e).2 e2
theorem zbe.plain (h:zbe l s) (hg:∀ t∈l,zbl t=true) (u:Val) (hu:u∈s.vs):zcw u∧mayP u 0=true:=zo7 hg u ((h.mem u).1 hu)
end
def vi (t:ByteArray):Val:=.mk 8 false 0 t ⟨#[]⟩ []
def tri0:List Tri3:=[⟨(vi ⟨#[97]⟩),(vi ⟨#[112]⟩),(vi ⟨#[98]⟩)⟩,⟨(vi ⟨#[97]⟩),(vi ⟨#[112]⟩),(vi ⟨#[99]⟩)⟩,⟨(vi ⟨#[98]⟩),(vi ⟨#[113]⟩),(vi ⟨#[99]⟩)⟩]
def vs0:List Val:=[(vi ⟨#[97]⟩),(vi ⟨#[98]⟩),(vi ⟨#[99]⟩),(vi ⟨#[112]⟩),(vi ⟨#[113]⟩)]
def rs0:List R3:=[⟨0,3,1⟩,⟨0,3,2⟩,⟨1,4,2⟩]
def sm0:SM:=⟨vs0,rs0,fun _=>[0,1,2]⟩
theorem iriAt (t:ByteArray) (w:World):Calls Tryz.prog 38 #[.string t] w fun e w'=>e=.returned (.agg #[.int .i64 8,.bool false,.int .i64 0,.string t,.string ⟨#[]⟩,.slice none 0 0])∧Below w.heap.size w w':=by
 go_enter Tryz.func38,Tryz.ntmps38
 go_wp2_with (first
  |((with_reducible refine zat (k':=8) (b':=false) (n':=0) (t':=t) (x':=⟨#[]⟩) (p':=none) (len':=0) (cap':=0) (.tmp 2) (.tmp 4) w.heap.size (zaf _ rfl) ?_ ?_ ?_ ?_ ?_);rfl;rfl;rfl;rfl;intro w5 ho5 u5))
 exact bodyPost_ret (v:=.agg #[.int .i64 8,.bool false,.int .i64 0,.string t,.string ⟨#[]⟩,.slice none 0 0]) (results_cell_row (p:=2) (ty:=39) Tryz.results38 _ _ w.heap.size 39 _ (0,0) _ rfl u5 Tryz.underlying39 rfl (by exact zas)) rfl ⟨rfl,zag (za0 w _) ho5 (Nat.le_refl _) (by simp)⟩
theorem lenC {W:World} {sp:Nat} {s:SM} (h:zeu W sp s):Calls Tryz.prog 16 #[.pointer (some ⟨sp,0,none⟩)] W fun e w'=>e=.returned (.int .i64 s.rs.length)∧w'=W:=by
 obtain ⟨pv,pr,cv,cr,pp,cc,h0⟩:=h
 have c1:W.cell? ⟨sp,1,none⟩=some (.slice pr s.rs.length cr):=zab h0.h 1 rfl
 clear h0
 go_enter Tryz.func16,Tryz.ntmps16
 go_wp2_with fail
 go_ret
 exact ⟨rfl,rfl⟩
theorem zrm {α:Type} (R:α→α→Prop) (irr:∀ a,¬ R a a) (asym:∀ a b,R a b→¬ R b a):(l m:List α)→l.Pairwise R→m.Pairwise R→(∀ u,u∈l↔u∈m)→l=m
 | [],[],_,_,_=>rfl
 | [],b::m,_,_,h=>absurd ((h b).2 (List.mem_cons_self ..)) (by simp)
 | a::l,[],_,_,h=>absurd ((h a).1 (List.mem_cons_self ..)) (by simp)
 | a::l,b::m,hl,hm,h=>by
   rw [List.pairwise_cons] at hl hm
   have hab:a=b:=by
    rcases List.mem_cons.1 ((h a).1 (List.mem_cons_self ..)) with e | e
    ·exact e
    ·rcases List.mem_cons.1 ((h b).2 (List.mem_cons_self ..)) with e2 | e2
     ·exact e2.symm
     ·exact absurd (hl.1 b e2) (asym _ _ (hm.1 a e))
   subst hab
   congr 1
   refine zrm R irr asym l m hl.2 hm.2 fun u=>?_
   constructor
   ·intro hu
    rcases List.mem_cons.1 ((h u).1 (List.mem_cons_of_mem _ hu)) with e | e
    ·subst e;exact absurd (hl.1 u hu) (irr u)
    ·exact e
   ·intro hu
    rcases List.mem_cons.1 ((h u).2 (List.mem_cons_of_mem _ hu)) with e | e
    ·subst e;exact absurd (hm.1 u hu) (irr u)
    ·exact e
theorem R3.irr (a:R3):¬ R3.lt a a:=by
 have h:VR.cf a.vr a.vr=-VR.cf a.vr a.vr:=zde _ _ _ _ _ _
 unfold R3.lt
 omega
theorem R3.asym (a b:R3) (h:R3.lt a b):¬ R3.lt b a:=by
 have e:VR.cf b.vr a.vr=-VR.cf a.vr b.vr:=zde _ _ _ _ _ _
 unfold R3.lt at*
 omega
theorem zk2 {vs:List Val} (h:Rise vs) {u:Val} {m:Nat} (hm:vs[m]?=some u):vidx vs u=m:=by
 obtain ⟨hlt,e⟩:=List.getElem?_eq_some_iff.1 hm
 have hu:u∈vs:=List.mem_of_getElem? hm
 exact h.inj _ _ (zp6 hu) hlt ((zrh hu).trans e.symm)
theorem zxd (a:Int):lexI a 0=a:=by
 unfold lexI
 by_cases e:a=0
 ·rw [if_pos e,e]
 ·rw [if_neg e]
theorem ord_vi (t u:ByteArray):zan 1 (vi t) (vi u)=zai t.data.toList u.data.toList:=by
 unfold vi
 rw [zcm,zdq,zbi,if_neg (by decide)]
 unfold zbu
 rw [if_neg (by decide),if_neg (by decide),if_neg (by decide),za7,za7,show zai (ByteArray.mk #[]).toList (ByteArray.mk #[]).toList=0 by rw [za7];rfl,zxd]
theorem zs4:Rise vs0:=by
 refine Rise.of_pair ?_
 simp only [vs0,List.pairwise_cons,List.mem_cons,List.mem_nil_iff,or_false,forall_eq_or_imp,forall_eq,List.Pairwise.nil,and_true,false_implies,implies_true]
 refine ⟨⟨?_,?_,?_,?_⟩,⟨?_,?_,?_⟩,⟨?_,?_⟩,?_⟩ <;> (rw [ord_vi];decide)
theorem good0:∀ t∈tri0,zbl t=true:=by
 intro t ht
 simp only [tri0,List.mem_cons,List.mem_nil_iff,or_false] at ht
 rcases ht with rfl | rfl | rfl <;> rfl
theorem mem0 (u:Val):u∈flat tri0↔u∈vs0:=by
 simp only [flat,tri0,vs0,List.flatMap_cons,List.flatMap_nil,Tri3.l,List.append_nil,List.cons_append,List.nil_append,List.mem_cons,List.mem_nil_iff,or_false]
 constructor
 ·intro h
  rcases h with h | h | h | h | h | h | h | h | h <;> simp [h]
 ·intro h
  rcases h with h | h | h | h | h <;> simp [h]
theorem rows0 (r:R3):(∃ t∈tri0,rowOf vs0 t=r.vr)↔r∈rs0:=by
 have h0:vidx vs0 (vi ⟨#[97]⟩)=0:=zk2 zs4 rfl
 have h1:vidx vs0 (vi ⟨#[98]⟩)=1:=zk2 zs4 rfl
 have h2:vidx vs0 (vi ⟨#[99]⟩)=2:=zk2 zs4 rfl
 have h3:vidx vs0 (vi ⟨#[112]⟩)=3:=zk2 zs4 rfl
 have h4:vidx vs0 (vi ⟨#[113]⟩)=4:=zk2 zs4 rfl
 constructor
 ·rintro ⟨t,ht,e⟩
  rw [← vr_r3 r,← e]
  simp only [tri0,List.mem_cons,List.mem_nil_iff,or_false] at ht
  rcases ht with rfl | rfl | rfl
  ·simp [rowOf,VR.r3,h0,h1,h3,rs0]
  ·simp [rowOf,VR.r3,h0,h2,h3,rs0]
  ·simp [rowOf,VR.r3,h1,h2,h4,rs0]
 ·intro h
  simp only [rs0,List.mem_cons,List.mem_nil_iff,or_false] at h
  rcases h with rfl | rfl | rfl
  ·exact ⟨⟨(vi ⟨#[97]⟩),(vi ⟨#[112]⟩),(vi ⟨#[98]⟩)⟩,by simp [tri0],by simp [rowOf,R3.vr,h0,h1,h3]⟩
  ·exact ⟨⟨(vi ⟨#[97]⟩),(vi ⟨#[112]⟩),(vi ⟨#[99]⟩)⟩,by simp [tri0],by simp [rowOf,R3.vr,h0,h2,h3]⟩
  ·exact ⟨⟨(vi ⟨#[98]⟩),(vi ⟨#[113]⟩),(vi ⟨#[99]⟩)⟩,by simp [tri0],by simp [rowOf,R3.vr,h1,h2,h4]⟩
theorem pairs0:rs0.Pairwise R3.lt:=by
 unfold rs0
 simp only [List.pairwise_cons,List.mem_cons,List.mem_nil_iff,or_false,forall_eq_or_imp,forall_eq,List.Pairwise.nil,and_true,false_implies,implies_true]
 unfold R3.lt
 decide
theorem nums0:∀ a,a < 3→∀ b,b < 3→VR.cf (prow rs0 1 2 0 a) (prow rs0 1 2 0 b)≤0→VR.cf (prow rs0 1 2 0 b) (prow rs0 1 2 0 a)≤0→a=b:=by decide
theorem sort0:[0,1,2].Pairwise (fun a b=>VR.cf (prow rs0 1 2 0 a) (prow rs0 1 2 0 b)≤0):=by decide
theorem loaded0 {s:SM} (h:zbe tri0 s):s.vs=vs0∧s.rs=rs0∧s.ls 3=[0,1,2]:=by
 have e1:s.vs=vs0:=Rise.ext h.rise zs4 fun u=>(h.mem u).trans (mem0 u)
 have e2:s.rs=rs0:=zrm R3.lt R3.irr R3.asym _ _ h.rows pairs0 fun r=>by
  rw [h.rmem,e1]
  exact rows0 r
 have hn:=h.nums 3 (by omega)
 rw [e2] at hn
 refine ⟨e1,e2,?_⟩
 have hp:(s.ls 3).Perm [0,1,2]:=hn.perm
 refine List.Perm.eq_of_pairwise (le:=fun a b=>VR.cf (prow rs0 1 2 0 a) (prow rs0 1 2 0 b)≤0) ?_ hn.sort sort0 hp
 intro a b ha hb h1 h2
 have ha2:=hp.mem_iff.1 ha
 have a3:a < 3:=by simp only [List.mem_cons,List.mem_nil_iff,or_false] at ha2;omega
 have b3:b < 3:=by simp only [List.mem_cons,List.mem_nil_iff,or_false] at hb;omega
 exact nums0 a a3 b b3 h1 h2
section
variable {s:SM} (e1:s.vs=vs0) (e2:s.rs=rs0) (e3:s.ls 3=[0,1,2])
include e2 e3
theorem num0 (v j:Nat):s.num 3 v j=sm0.num 3 v j:=by
 unfold SM.num
 rw [e2,e3]
 rfl
theorem same0 (v a j:Nat):s.same 3 v a j=sm0.same 3 v a j:=by
 unfold SM.same
 rw [num0 e2 e3,num0 e2 e3]
theorem bot0 (c:CS):c.bot s 3=c.bot sm0 3:=by
 unfold CS.bot
 rw [show s.same 3 c.lev c.pos=sm0.same 3 c.lev c.pos from funext fun j=>same0 e2 e3 _ _ j]
theorem zyn (c:CS):c.opens s 3=c.opens sm0 3:=by
 unfold CS.opens CS.hi
 rw [bot0 e2 e3]
theorem opn0 (c:CS):c.opn s 3=c.opn sm0 3:=by
 unfold CS.opn CS.hi
 rw [zyn e2 e3,bot0 e2 e3]
theorem next0 (c:CS):c.next s 3=c.next sm0 3:=by
 unfold CS.next
 rw [bot0 e2 e3]
include e1
theorem val0 (c:CS):c.val s 3=c.val sm0 3:=by
 unfold CS.val
 rw [num0 e2 e3,e1]
 rfl
end
theorem holds0 (w:World) (g:Nat) (h:w.heap[g]?=some (.cells #[.int .i64 8,.bool false,.int .i64 0,.string ⟨#[97]⟩,.string ⟨#[]⟩,.slice none 0 0,.int .i64 8,.bool false,.int .i64 0,.string ⟨#[112]⟩,.string ⟨#[]⟩,.slice none 0 0,.int .i64 8,.bool false,.int .i64 0,.string ⟨#[98]⟩,.string ⟨#[]⟩,.slice none 0 0,.int .i64 8,.bool false,.int .i64 0,.string ⟨#[97]⟩,.string ⟨#[]⟩,.slice none 0 0,.int .i64 8,.bool false,.int .i64 0,.string ⟨#[112]⟩,.string ⟨#[]⟩,.slice none 0 0,.int .i64 8,.bool false,.int .i64 0,.string ⟨#[99]⟩,.string ⟨#[]⟩,.slice none 0 0,.int .i64 8,.bool false,.int .i64 0,.string ⟨#[98]⟩,.string ⟨#[]⟩,.slice none 0 0,.int .i64 8,.bool false,.int .i64 0,.string ⟨#[113]⟩,.string ⟨#[]⟩,.slice none 0 0,.int .i64 8,.bool false,.int .i64 0,.string ⟨#[99]⟩,.string ⟨#[]⟩,.slice none 0 0] 41)):zar w g 0 (flat tri0):=by
 have fine:∀ c:UInt8,Fine 0 ⟨#[c]⟩ ⟨#[]⟩ 0:=fun c=>by constructor <;> simp [ByteArray.size]
 have one:∀ (off:Nat) (c:UInt8),(∀ i v,[Value.int .i64 8,.bool false,.int .i64 0,.string ⟨#[c]⟩,.string ⟨#[]⟩,.slice none 0 0][i]?=some v→w.cell? ⟨g,off+i,none⟩=some v)→zay w g off (vi ⟨#[c]⟩):=fun off c hc=>by
  unfold vi zay
  exact ⟨hc 0 _ rfl,hc 1 _ rfl,hc 2 _ rfl,hc 3 _ rfl,hc 4 _ rfl,fine c,_,hc 5 _ rfl,by unfold Held;exact ⟨none,0,rfl⟩⟩
 have hh:∀ (off:Nat) (c:UInt8),(∀ i,i < 6→(#[.int .i64 8,.bool false,.int .i64 0,.string ⟨#[97]⟩,.string ⟨#[]⟩,.slice none 0 0,.int .i64 8,.bool false,.int .i64 0,.string ⟨#[112]⟩,.string ⟨#[]⟩,.slice none 0 0,.int .i64 8,.bool false,.int .i64 0,.string ⟨#[98]⟩,.string ⟨#[]⟩,.slice none 0 0,.int .i64 8,.bool false,.int .i64 0,.string ⟨#[97]⟩,.string ⟨#[]⟩,.slice none 0 0,.int .i64 8,.bool false,.int .i64 0,.string ⟨#[112]⟩,.string ⟨#[]⟩,.slice none 0 0,.int .i64 8,.bool false,.int .i64 0,.string ⟨#[99]⟩,.string ⟨#[]⟩,.slice none 0 0,.int .i64 8,.bool false,.int .i64 0,.string ⟨#[98]⟩,.string ⟨#[]⟩,.slice none 0 0,.int .i64 8,.bool false,.int .i64 0,.string ⟨#[113]⟩,.string ⟨#[]⟩,.slice none 0 0,.int .i64 8,.bool false,.int .i64 0,.string ⟨#[99]⟩,.string ⟨#[]⟩,.slice none 0 0]:Array Value)[off+i]?=[Value.int .i64 8,.bool false,.int .i64 0,.string ⟨#[c]⟩,.string ⟨#[]⟩,.slice none 0 0][i]?)→zay w g off (vi ⟨#[c]⟩):=fun off c hc=>by
  refine one off c fun i v hv=>?_
  have hi:i < 6:=by
   have:=(List.getElem?_eq_some_iff.1 hv).1
   simpa using this
  exact zab h (off+i) ((hc i hi).trans hv)
 have six:∀ (off:Nat) (c:UInt8),off+6≤54→(∀ i:Fin 6,(#[.int .i64 8,.bool false,.int .i64 0,.string ⟨#[97]⟩,.string ⟨#[]⟩,.slice none 0 0,.int .i64 8,.bool false,.int .i64 0,.string ⟨#[112]⟩,.string ⟨#[]⟩,.slice none 0 0,.int .i64 8,.bool false,.int .i64 0,.string ⟨#[98]⟩,.string ⟨#[]⟩,.slice none 0 0,.int .i64 8,.bool false,.int .i64 0,.string ⟨#[97]⟩,.string ⟨#[]⟩,.slice none 0 0,.int .i64 8,.bool false,.int .i64 0,.string ⟨#[112]⟩,.string ⟨#[]⟩,.slice none 0 0,.int .i64 8,.bool false,.int .i64 0,.string ⟨#[99]⟩,.string ⟨#[]⟩,.slice none 0 0,.int .i64 8,.bool false,.int .i64 0,.string ⟨#[98]⟩,.string ⟨#[]⟩,.slice none 0 0,.int .i64 8,.bool false,.int .i64 0,.string ⟨#[113]⟩,.string ⟨#[]⟩,.slice none 0 0,.int .i64 8,.bool false,.int .i64 0,.string ⟨#[99]⟩,.string ⟨#[]⟩,.slice none 0 0]:Array Value)[off+i.val]?=[Value.int .i64 8,.bool false,.int .i64 0,.string ⟨#[c]⟩,.string ⟨#[]⟩,.slice none 0 0][i.val]?)→zay w g off (vi ⟨#[c]⟩):=fun off c _ hc=>hh off c fun i hi=>hc ⟨i,hi⟩
 have f6:∀ (P:Fin 6→Prop),P 0→P 1→P 2→P 3→P 4→P 5→∀ i,P i:=fun P a b c d e f i=>by
  match i with
  | 0=>exact a
  | 1=>exact b
  | 2=>exact c
  | 3=>exact d
  | 4=>exact e
  | 5=>exact f
 show zar w g 0 [(vi ⟨#[97]⟩),(vi ⟨#[112]⟩),(vi ⟨#[98]⟩),(vi ⟨#[97]⟩),(vi ⟨#[112]⟩),(vi ⟨#[99]⟩),(vi ⟨#[98]⟩),(vi ⟨#[113]⟩),(vi ⟨#[99]⟩)]
 unfold zar
 refine ⟨six 0 _ (by omega) (f6 _ rfl rfl rfl rfl rfl rfl),?_⟩
 unfold zar
 refine ⟨six 6 _ (by omega) (f6 _ rfl rfl rfl rfl rfl rfl),?_⟩
 unfold zar
 refine ⟨six 12 _ (by omega) (f6 _ rfl rfl rfl rfl rfl rfl),?_⟩
 unfold zar
 refine ⟨six 18 _ (by omega) (f6 _ rfl rfl rfl rfl rfl rfl),?_⟩
 unfold zar
 refine ⟨six 24 _ (by omega) (f6 _ rfl rfl rfl rfl rfl rfl),?_⟩
 unfold zar
 refine ⟨six 30 _ (by omega) (f6 _ rfl rfl rfl rfl rfl rfl),?_⟩
 unfold zar
 refine ⟨six 36 _ (by omega) (f6 _ rfl rfl rfl rfl rfl rfl),?_⟩
 unfold zar
 refine ⟨six 42 _ (by omega) (f6 _ rfl rfl rfl rfl rfl rfl),?_⟩
 unfold zar
 refine ⟨six 48 _ (by omega) (f6 _ rfl rfl rfl rfl rfl rfl),?_⟩
 unfold zar
 trivial
theorem load0 (w:World) (hG:Gd w) (hT:Tab w):Calls Tryz.prog 10 #[.slice (some ⟨w.heap.size,0,none⟩) 3 3] (w.alloc (.cells #[.int .i64 8,.bool false,.int .i64 0,.string ⟨#[97]⟩,.string ⟨#[]⟩,.slice none 0 0,.int .i64 8,.bool false,.int .i64 0,.string ⟨#[112]⟩,.string ⟨#[]⟩,.slice none 0 0,.int .i64 8,.bool false,.int .i64 0,.string ⟨#[98]⟩,.string ⟨#[]⟩,.slice none 0 0,.int .i64 8,.bool false,.int .i64 0,.string ⟨#[97]⟩,.string ⟨#[]⟩,.slice none 0 0,.int .i64 8,.bool false,.int .i64 0,.string ⟨#[112]⟩,.string ⟨#[]⟩,.slice none 0 0,.int .i64 8,.bool false,.int .i64 0,.string ⟨#[99]⟩,.string ⟨#[]⟩,.slice none 0 0,.int .i64 8,.bool false,.int .i64 0,.string ⟨#[98]⟩,.string ⟨#[]⟩,.slice none 0 0,.int .i64 8,.bool false,.int .i64 0,.string ⟨#[113]⟩,.string ⟨#[]⟩,.slice none 0 0,.int .i64 8,.bool false,.int .i64 0,.string ⟨#[99]⟩,.string ⟨#[]⟩,.slice none 0 0] 41)) fun e w'=>∃ sp s,e=.returned (.tuple #[.pointer (some ⟨sp,0,none⟩),.int .i64 0])∧zeu w' sp s∧zbe tri0 s∧Below (w.heap.size+1) (w.alloc (.cells #[.int .i64 8,.bool false,.int .i64 0,.string ⟨#[97]⟩,.string ⟨#[]⟩,.slice none 0 0,.int .i64 8,.bool false,.int .i64 0,.string ⟨#[112]⟩,.string ⟨#[]⟩,.slice none 0 0,.int .i64 8,.bool false,.int .i64 0,.string ⟨#[98]⟩,.string ⟨#[]⟩,.slice none 0 0,.int .i64 8,.bool false,.int .i64 0,.string ⟨#[97]⟩,.string ⟨#[]⟩,.slice none 0 0,.int .i64 8,.bool false,.int .i64 0,.string ⟨#[112]⟩,.string ⟨#[]⟩,.slice none 0 0,.int .i64 8,.bool false,.int .i64 0,.string ⟨#[99]⟩,.string ⟨#[]⟩,.slice none 0 0,.int .i64 8,.bool false,.int .i64 0,.string ⟨#[98]⟩,.string ⟨#[]⟩,.slice none 0 0,.int .i64 8,.bool false,.int .i64 0,.string ⟨#[113]⟩,.string ⟨#[]⟩,.slice none 0 0,.int .i64 8,.bool false,.int .i64 0,.string ⟨#[99]⟩,.string ⟨#[]⟩,.slice none 0 0] 41)) w':=by
 have hb:Below w.heap.size w (w.alloc (.cells #[.int .i64 8,.bool false,.int .i64 0,.string ⟨#[97]⟩,.string ⟨#[]⟩,.slice none 0 0,.int .i64 8,.bool false,.int .i64 0,.string ⟨#[112]⟩,.string ⟨#[]⟩,.slice none 0 0,.int .i64 8,.bool false,.int .i64 0,.string ⟨#[98]⟩,.string ⟨#[]⟩,.slice none 0 0,.int .i64 8,.bool false,.int .i64 0,.string ⟨#[97]⟩,.string ⟨#[]⟩,.slice none 0 0,.int .i64 8,.bool false,.int .i64 0,.string ⟨#[112]⟩,.string ⟨#[]⟩,.slice none 0 0,.int .i64 8,.bool false,.int .i64 0,.string ⟨#[99]⟩,.string ⟨#[]⟩,.slice none 0 0,.int .i64 8,.bool false,.int .i64 0,.string ⟨#[98]⟩,.string ⟨#[]⟩,.slice none 0 0,.int .i64 8,.bool false,.int .i64 0,.string ⟨#[113]⟩,.string ⟨#[]⟩,.slice none 0 0,.int .i64 8,.bool false,.int .i64 0,.string ⟨#[99]⟩,.string ⟨#[]⟩,.slice none 0 0] 41)):=za0 _ _
 have ht:Tris (w.alloc (.cells #[.int .i64 8,.bool false,.int .i64 0,.string ⟨#[97]⟩,.string ⟨#[]⟩,.slice none 0 0,.int .i64 8,.bool false,.int .i64 0,.string ⟨#[112]⟩,.string ⟨#[]⟩,.slice none 0 0,.int .i64 8,.bool false,.int .i64 0,.string ⟨#[98]⟩,.string ⟨#[]⟩,.slice none 0 0,.int .i64 8,.bool false,.int .i64 0,.string ⟨#[97]⟩,.string ⟨#[]⟩,.slice none 0 0,.int .i64 8,.bool false,.int .i64 0,.string ⟨#[112]⟩,.string ⟨#[]⟩,.slice none 0 0,.int .i64 8,.bool false,.int .i64 0,.string ⟨#[99]⟩,.string ⟨#[]⟩,.slice none 0 0,.int .i64 8,.bool false,.int .i64 0,.string ⟨#[98]⟩,.string ⟨#[]⟩,.slice none 0 0,.int .i64 8,.bool false,.int .i64 0,.string ⟨#[113]⟩,.string ⟨#[]⟩,.slice none 0 0,.int .i64 8,.bool false,.int .i64 0,.string ⟨#[99]⟩,.string ⟨#[]⟩,.slice none 0 0] 41)) (.slice (some ⟨w.heap.size,0,none⟩) 3 3) tri0:=⟨_,3,rfl,fun _=>⟨_,0,rfl,holds0 _ _ (zah _ _ rfl)⟩⟩
 refine (zrj _ tri0 _ (hG.below hb) (hT.below hb) ht (by decide)).mono ?_
 rintro e w' ⟨h,_⟩
 obtain ⟨sp,s,he,h1,h2,h3⟩:=h good0
 exact ⟨sp,s,he,h1.at_,h2,by simpa using h3⟩
section
variable {W0 W:World} {s:SM} {g:Nat} {c:CS} (e1:s.vs=vs0) (e2:s.rs=rs0) (e3:s.ls 3=[0,1,2])
include e2 e3
theorem zyo (ST:zbj W0 s W g c 3) (r:Bool) (c':CS) (h1:c.opens sm0 3=r) (h2:c.opn sm0 3=c'):Calls Tryz.prog 22 #[.pointer (some ⟨g,0,none⟩)] W fun e w'=>e=.returned (.bool r)∧Only g W w'∧zbj W0 s w' g c' 3:=by
 refine (openC ST).mono ?_
 rintro e w' ⟨rfl,o,B⟩
 have h:=ST.opn o B
 rw [opn0 e2 e3,h2] at h
 rw [zyn e2 e3,h1]
 exact ⟨rfl,o,h⟩
theorem zvk (ST:zbj W0 s W g c 3) (r:Bool) (c':CS) (h2:c.next sm0 3=c') (h1:c'.on=r):Calls Tryz.prog 26 #[.pointer (some ⟨g,0,none⟩)] W fun e w'=>e=.returned (.bool r)∧Only g W w'∧zbj W0 s w' g c' 3:=by
 refine (nextC ST).mono ?_
 rintro e w' ⟨rfl,o,B⟩
 have h:=ST.next o B
 rw [next0 e2 e3,h2] at h
 rw [next0 e2 e3,h2,h1]
 exact ⟨rfl,o,h⟩
include e1
theorem keyAt (ST:zbj W0 s W g c 3) (q:c.on=true) (t:ByteArray) (h2:c.val sm0 3=vi t):Calls Tryz.prog 30 #[.pointer (some ⟨g,0,none⟩)] W fun e w'=>e=.returned (.tuple #[.agg #[.int .i64 8,.bool false,.int .i64 0,.string t,.string ⟨#[]⟩,.slice none 0 0],.bool true])∧Below W.heap.size W w':=by
 refine (keyC ST q).mono ?_
 rintro e w' ⟨⟨kk,b,n,t',x,l,hv,hf,rfl⟩,hb⟩
 rw [val0 e1 e2 e3,h2] at hv
 unfold vi at hv
 injection hv with q1 q2 q3 q4 q5 q6
 subst q1 q2 q3 q4 q5
 exact ⟨rfl,hb⟩
end
theorem zrn (w:World) (hG:Gd w) (hT:Tab w):Calls Tryz.prog 8 #[] w fun e w'=>e=.returned (.bool true)∧Below w.heap.size w w':=by
 have HI:=Lib.hid (fun t W=>iriAt t W)
 have HL:=Lib.hid (fun W (h:Below w.heap.size w W)=>load0 W (hG.below h) (hT.below h))
 have b0:=Below.refl w.heap.size w
 clear hG hT
 go_enter Tryz.func8,Tryz.ntmps8
 go_upto_region 2 with (first
  |(go_at_call 38;(with_reducible refine (HI.out _ _).mono ?_);rintro e w1 ⟨rfl,hb⟩;replace b0:=zak b0 hb b0.size;clear hb)
  |(go_at_call 10;(with_reducible refine (HL.out _ b0).mono ?_);rintro e w2 ⟨sp,s,rfl,hst,hld,hb⟩))
 replace b0:Below w.heap.size w w2:=(b0.alloc b0.size _).trans (hb.mono (by have:=b0.size;omega))
 obtain ⟨e1,e2,e3⟩:=loaded0 hld
 have hlen:=lenC hst
 rw [e2] at hlen
 replace hlen:Calls Tryz.prog 16 #[.pointer (some ⟨sp,0,none⟩)] w2 fun e w'=>e=.returned (.int .i64 3)∧w'=w2:=hlen
 have HLEN:=Lib.hid hlen
 have hcur:Calls Tryz.prog 20 #[.pointer (some ⟨sp,0,none⟩),.string ⟨#[112,111,115]⟩] w2 _:=cursorC (k:=3) hst (Below.refl _ _) (hld.ok (by decide)) hld.so (by omega)
 have HCUR:=Lib.hid hcur
 have hs2:=b0.size
 have HE:=Lib.hid (And.intro e1 (And.intro e2 e3))
 have HB:=Lib.hid b0
 clear hcur hlen hst hld hb e1 e2 e3 b0
 go_upto_region 5 with (first
  |(go_at_call 16;(with_reducible refine HLEN.out.mono ?_);rintro e w3 ⟨rfl,hw3⟩;subst hw3)
  |(go_at_call 20;(with_reducible refine HCUR.out.mono ?_);rintro e w4 ⟨g,c,rfl,hb4,hg4,⟨pl,n,cl,hc⟩,ST⟩))
 obtain ⟨e1,e2,e3⟩:=HE.out
 have hn:n=3:=by
  have:=ST.fit.n
  rw [hc,e3] at this
  exact this
 subst hn hc
 have O1:=Lib.hid (zyo e2 e3 ST true ⟨sp,pl,3,cl,1,2,0,0,3,0,0,0,0,1⟩ rfl rfl)
 have b4:Below w.heap.size w w4:=HB.out.trans (hb4.is.mono hs2)
 have hgw:w.heap.size≤g:=Nat.le_trans hs2 hg4
 clear HCUR HLEN HB hb4
 go_upto_region 7 with (go_at_call 22;(with_reducible refine O1.out.mono ?_);rintro e w5 ⟨rfl,o5,ST5⟩)
 have b5:Below w.heap.size w w5:=zag b4 o5 hgw b4.size
 have K1:=Lib.hid (keyAt e1 e2 e3 ST5 rfl ⟨#[112]⟩ rfl)
 clear O1 ST o5 b4 HE
 go_upto_region 8 with (first
  |(go_at_call 30;(with_reducible refine K1.out.mono ?_);rintro e w6 ⟨rfl,hb6⟩)
  |((with_reducible refine zat (k':=8) (b':=false) (n':=0) (t':=⟨#[112]⟩) (x':=⟨#[]⟩) (p':=none) (len':=0) (cap':=0) (.tmp 4) (.tmp 53) w6.heap.size (zaf _ rfl) ?_ ?_ ?_ ?_ ?_);rfl;rfl;rfl;rfl;intro w7 ho7 u7))
 have b67:Below w6.heap.size w6 w7:=zag (za0 w6 _) ho7 (Nat.le_refl _) (by simp)
 have b57:Below w5.heap.size w5 w7:=hb6.trans (b67.mono hb6.size)
 have b7:Below w.heap.size w w7:=b5.trans (b57.mono b5.size)
 have ST7:=ST5.bel b57
 have c3:=u7.c3
 have O2:=Lib.hid (zyo e2 e3 ST7 true ⟨sp,pl,3,cl,1,2,0,0,3,0,2,0,0,2⟩ rfl rfl)
 have HE:=Lib.hid (And.intro e2 e3)
 have HB:=Lib.hid b7
 clear K1 ST5 b67 b57 b5 b7 hb6 ho7 u7 e1 e2 e3 ST7
 go_wp2_with (first
  |(go_at_call 22;(with_reducible refine O2.out.mono ?_);rintro e w8 ⟨rfl,o8,ST8⟩
    have HB8:=Lib.hid (zag HB.out o8 hgw HB.out.size)
    have N1:=Lib.hid (zvk HE.out.1 HE.out.2 ST8 true ⟨sp,pl,3,cl,1,2,0,0,3,1,2,0,0,2⟩ rfl rfl)
    clear O2 ST8 o8 HB c3)
  |(go_at_call 26;(with_reducible refine N1.out.mono ?_);rintro e w9 ⟨rfl,o9,ST9⟩
    have HB9:=Lib.hid (zag HB8.out o9 hgw HB8.out.size)
    have N2:=Lib.hid (zvk HE.out.1 HE.out.2 ST9 false ⟨sp,pl,3,cl,1,2,0,0,3,2,2,0,0,2⟩ rfl rfl)
    clear N1 ST9 o9 HB8)
  |(go_at_call 26;(with_reducible refine N2.out.mono ?_);rintro e w10 ⟨rfl,o10,ST10⟩
    have HB10:=Lib.hid (zag HB9.out o10 hgw HB9.out.size)
    have U1:=Lib.hid (upC ST10.at_.B ST10.fit.d3)
    have HS:=Lib.hid ST10
    clear N2 ST10 o10 HB9)
  |(go_at_call 24;(with_reducible refine U1.out.mono ?_);rintro e w11 ⟨rfl,o11,B11⟩
    have HB11:=Lib.hid (zag HB10.out o11 hgw HB10.out.size)
    have ST11:=HS.out.upp o11 B11
    have N3:=Lib.hid (zvk HE.out.1 HE.out.2 ST11 true ⟨sp,pl,3,cl,1,2,0,2,3,2,2,0,0,1⟩ rfl rfl)
    clear U1 ST11 o11 B11 HB10 HS)
  |(go_at_call 26;(with_reducible refine N3.out.mono ?_);rintro e w12 ⟨rfl,o12,ST12⟩
    have HB12:=Lib.hid (zag HB11.out o12 hgw HB11.out.size)
    have D1:=Lib.hid (zoy ST12.at_.B)
    clear N3 ST12 o12 HB11)
  |(go_at_call 33;(with_reducible refine D1.out.mono ?_);rintro e w13 ⟨rfl,hb13⟩))
 go_ret
 exact ⟨rfl,HB12.out⟩
end Go.Proofs.YtanbgdhmfjgihaaGreatDoor
