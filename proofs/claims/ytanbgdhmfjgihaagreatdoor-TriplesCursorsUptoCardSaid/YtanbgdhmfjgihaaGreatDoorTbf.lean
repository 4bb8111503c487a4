/- Texts of one kind, one behind the other: each says ahead of itself what it shows. -/
import Derived.Test.YtanbgdhmfjgihaaGreatDoorTbe
namespace Go.Proofs.YtanbgdhmfjgihaaGreatDoor
open Go.RowKit
set_option maxHeartbeats 12800000
set_option maxRecDepth 20000
theorem toRef0 (W:World) (gR:Nat) (pl:Option Addr) (N cl:Nat) (ord:ByteArray) (pw:Option Addr) (d m cw:Nat) (e st:Bool) (v:V6) (h:d=0∨e=true) (B:RCur W gR pl N cl ord pw m cw e d):
 Calls Tryz.prog 60 #[.pointer (some ⟨gR,0,none⟩),.bool st,.agg #[.int .i64 v.k,.bool v.b,.int .i64 v.n,.string v.t,.string v.x,.slice v.p v.len v.cap]] W fun e' w'=>e'=.returned (.bool false)∧Below W.heap.size W w':=by
 obtain ⟨W0,hW0⟩:∃ W0,W0=W.alloc (.cells #[.int .i64 v.k,.bool v.b,.int .i64 v.n,.string v.t,.string v.x,.slice v.p v.len v.cap] 39):=⟨_,rfl⟩
 have b0:Below W.heap.size W W0:=by rw [hW0];exact za0 _ _
 have B0:RCur W0 gR pl N cl ord pw m cw e d:=(b0.block _ (zac B)).trans B
 have c4:W0.cell? ⟨gR,4,none⟩=some (.int .i64 d):=zab B0 4 rfl
 have c3:W0.cell? ⟨gR,3,none⟩=some (.bool e):=zab B0 3 rfl
 have HW:=Lib.hid hW0
 clear hW0 B B0
 by_cases hd:d=0
 ·subst hd
  go_enter Tryz.func60,Tryz.ntmps60
  go_upto_region 1 with fail
  rw [← HW.out]
  go_wp2_with fail
  go_ret
  exact ⟨rfl,b0⟩
 ·obtain rfl:e=true:=h.resolve_left hd
  have e1:((d:Int) == 0)=false:=by simp;omega
  go_enter Tryz.func60,Tryz.ntmps60
  go_upto_region 1 with fail
  rw [← HW.out]
  go_wp2_with fail
  go_ret
  exact ⟨rfl,b0⟩
theorem to_end {st:Bool} {wl uv:Val} {base gR:Nat} {pl:Option Addr} {N cl:Nat} {ord:ByteArray} {way ks:List Val} {W w':World} {e:Ending} (h:zmm st wl uv base gR pl N cl ord way ks W e w') (hw:0 < way.length:=by omega):
 Below base W w'∧∃ r,w'.cell? ⟨gR,4,none⟩=some (.int .i64 (way.length:Nat))∧e=.returned (.bool r):=by
 obtain ⟨hb,⟨i,hi,h1,h2,rfl,⟨pw,cw,B,_⟩,_⟩ | ⟨h1,rfl,⟨pw,cw,B,_⟩,_⟩⟩:=h
 ·refine ⟨hb,true,?_,rfl⟩
  have e:(way.take (way.length - 1)++[ks[i]]).length=way.length:=by rw [List.length_append,List.length_take];simp;omega
  rw [e] at B
  exact zab B 4 rfl
 ·exact ⟨hb,false,zab B 4 rfl,rfl⟩
theorem DCur.below {W W':World} {base gR:Nat} {pl:Option Addr} {N cl:Nat} {ord:ByteArray} {way:List Val} {e:Bool} (h:DCur W base gR pl N cl ord way e) (b:Below W.heap.size W W'):DCur W' base gR pl N cl ord way e:=by
 obtain ⟨⟨pw,cw,B,⟨d,hd,hown⟩,hn⟩,hb⟩:=h
 exact ⟨⟨pw,cw,(b.block _ (zac B)).trans B,⟨d,hd,zbf hown b⟩,hn⟩,hb⟩
theorem seekRef (gR:Nat) (v:V6) (W:World) (Q:Ending→World→Prop) (h:∀ W0,W0=W.alloc (.cells #[.int .i64 v.k,.bool v.b,.int .i64 v.n,.string v.t,.string v.x,.slice v.p v.len v.cap] 39)→Calls Tryz.prog 60 #[.pointer (some ⟨gR,0,none⟩),.bool false,.agg #[.int .i64 v.k,.bool v.b,.int .i64 v.n,.string v.t,.string v.x,.slice v.p v.len v.cap]] W0 fun e w'=>∃ r,e=.returned (.bool r)∧Q (.returned (.bool r)) w'):
 Calls Tryz.prog 29 #[.pointer (some ⟨gR,0,none⟩),.agg #[.int .i64 v.k,.bool v.b,.int .i64 v.n,.string v.t,.string v.x,.slice v.p v.len v.cap]] W Q:=by
 obtain ⟨W0,hW0⟩:∃ W0,W0=W.alloc (.cells #[.int .i64 v.k,.bool v.b,.int .i64 v.n,.string v.t,.string v.x,.slice v.p v.len v.cap] 39):=⟨_,rfl⟩
 have X:Six W0 W.heap.size v.k v.b v.n v.t v.x v.p v.len v.cap:=by rw [hW0];exact zaf _ rfl
 have HT:=Lib.hid (h W0 hW0)
 have HW:=Lib.hid hW0
 clear hW0 h
 go_enter Tryz.func29,Tryz.ntmps29
 go_upto_region 1 with fail
 rw [← HW.out]
 go_wp2_with (first
  |((with_reducible refine zaa (.tmp 3) W.heap.size X ?_ ?_ ?_ ?_);rfl;rfl;rfl)
  |(go_at_call 60;(with_reducible refine HT.out.mono ?_);rintro e9 w9 ⟨r,rfl,hq⟩))
 exact hq
theorem zxl (W:World) (gR:Nat) (pl:Option Addr) (N cl:Nat) (ord:ByteArray) (pw:Option Addr) (d m cw:Nat) (e:Bool) (h:d=0∨e=true) (B:RCur W gR pl N cl ord pw m cw e d):
 Calls Tryz.prog 27 #[.pointer (some ⟨gR,0,none⟩)] W fun e' w'=>e'=.returned (.bool false)∧w'=W:=by
 have c4:W.cell? ⟨gR,4,none⟩=some (.int .i64 d):=zab B 4 rfl
 have c3:W.cell? ⟨gR,3,none⟩=some (.bool e):=zab B 3 rfl
 clear B
 by_cases hd:d=0
 ·subst hd
  go_enter Tryz.func27,Tryz.ntmps27
  go_wp2_with fail
  go_ret
  exact ⟨rfl,rfl⟩
 ·obtain rfl:e=true:=h.resolve_left hd
  have e1:((d:Int) == 0)=false:=by simp;omega
  go_enter Tryz.func27,Tryz.ntmps27
  go_wp2_with fail
  go_ret
  exact ⟨rfl,rfl⟩
theorem nextRef (all:List Tri3) (pl:Option Addr) (cl:Nat) (kk:Nat) (hk:kk < 6) (base gR:Nat) (way:List Val) (m:Nat) (hm:way.length=m+1) (hm3:m < 3) (w:World) (hD:DCur w base gR pl all.length cl (onm kk) way false) (hpw:∀ u∈way,zcw u) (hl:Tris w (.slice pl all.length cl) all) (hn60:all.length≤65536) (hc:∀ t∈all,zbl t=true) (hb:base≤w.heap.size):
 Calls Tryz.prog 27 #[.pointer (some ⟨gR,0,none⟩)] w fun e w'=>∃ ks,InsV (srcT all (fun i=>(way[i]?).getD nulV) (levN kk) m all.length) ks∧zmm true (way[m]'(by omega)) (way[m]'(by omega)) base gR pl all.length cl (onm kk) way ks w.drew e w':=by
 obtain ⟨⟨pw,cw,B,⟨d,hd,hown⟩,hnb⟩,hbR⟩:=id hD
 obtain ⟨dd,hdd⟩:∃ dd,dd=way.length:=⟨_,rfl⟩
 rw [← hdd] at B hown
 obtain ⟨gw,rfl⟩:∃ gw,pw=some ⟨gw,0,none⟩:=by
  rcases hown.2 with ⟨_,e⟩ | ⟨g,cap,cur,e,_⟩
  ·omega
  ·injection e with e _ _
   exact ⟨g,e⟩
 have hw1:=zdu hown
 rw [hd] at hw1
 have hml:m < way.length:=by omega
 obtain ⟨y,q,iy,ry⟩:=isOf (zar.at_ way 0 hw1 m hml)
 rw [Nat.zero_add] at ry
 have HTO:=Lib.hid (toRef true all pl cl kk hk base gR way m hm hm3 y way[m] q w.drew (hD.below ((Below.refl _ _).drew)) hpw (hl.below ((Below.refl _ _).drew)) hn60 hc hb (iy.below ((Below.refl _ _).drew)))
 have e1:((dd:Int) == 0)=false:=by simp;omega
 have e2:IntKind.i64.wrap ((dd:Int) - 1)=(m:Int):=by rw [IntWalk.i64_in _ (by omega)];omega
 have hmd:(m:Int) < dd:=by omega
 have c4:w.cell? ⟨gR,4,none⟩=some (.int .i64 dd):=zab B 4 rfl
 have c3:w.cell? ⟨gR,3,none⟩=some (.bool false):=zab B 3 rfl
 have c2:w.cell? ⟨gR,2,none⟩=some (.slice (some ⟨gw,0,none⟩) dd cw):=zab B 2 rfl
 have HML:=Lib.hid hdd
 clear hD B hown hd hw1 iy hpw hl hn60 hc hb hbR hnb hdd d
 go_enter Tryz.func27,Tryz.ntmps27
 go_upto_region 3 with fail
 refine wp_region_held_drew (S:=fun W=>W.cell? ⟨gR,4,none⟩=some (.int .i64 (dd:Int))) (by kernel_rfl) c4 (fun hHeld=>?_)
 refine tg (i:=0) (.pointer (some ⟨gR,0,none⟩)) rfl hHeld ?_
 refine tg (i:=1) (.pointer (some ⟨gR,0,none⟩)) rfl hHeld ?_
 refine tg (i:=2) (.pointer (some ⟨gR,0,none⟩)) rfl hHeld ?_
 refine tg (i:=3) (.pointer (some ⟨gR,2,none⟩)) rfl hHeld ?_
 refine tg (i:=5) (.pointer (some ⟨gR,0,none⟩)) rfl hHeld ?_
 refine tg (i:=6) (.pointer (some ⟨gR,0,none⟩)) rfl hHeld ?_
 refine tg (i:=7) (.pointer (some ⟨gR,4,none⟩)) rfl hHeld ?_
 refine tk (i:=8) (v:=.int .i64 (dd:Int)) rfl (Or.inl ⟨by rfl,fun W h=>by have c0:=h;go_simp⟩) hHeld ?_
 refine tg (i:=9) (.int .i64 (m:Int)) rfl hHeld ?_
 refine tr 4 rfl (fun K hK=>?_)
 rw [if_pos (by rfl)]
 have c2d:w.drew.cell? ⟨gR,2,none⟩=some (.slice (some ⟨gw,0,none⟩) dd cw):=c2
 go_simp
 refine hK.out _ _ hHeld (fun _=>?_)
 clear hK K
 try simp only [putS]
 refine tg (i:=10) (.pointer (some ⟨gw,m*6,none⟩)) rfl hHeld ?_
 refine tr 11 rfl (fun K hK=>?_)
 rw [if_pos (by rfl)]
 refine wp_load_mid 39 (.tmp 24) rfl gw (m*6) rfl [.int .i64 y.k,.bool y.b,.int .i64 y.n,.string y.t,.string y.x,.slice y.p y.len y.cap] _ (show w.drew.rangeAt gw (m*6) _ from ry) Tryz.underlying39 rfl zas ?_
 refine hK.out _ _ hHeld (fun _=>?_)
 clear hK K
 try simp only [putS]
 refine tr 12 rfl (fun K hK=>?_)
 rw [if_pos (by rfl)]
 go_simp
 refine HTO.out.mono ?_
 rintro e9 w9 ⟨ks,hins,hto⟩
 obtain ⟨bb,r,c9,q⟩:=to_end hto
 have HTO9:=Lib.hid (And.intro hins hto)
 clear hins hto
 rw [← HML.out] at c9
 obtain rfl:=q
 go_simp
 refine hK.out _ _ c9 (fun _=>?_)
 clear hK K
 try simp only [putS]
 refine tg (i:=13) (.bool r) rfl c9 ?_
 refine wpAnyH_done (by kernel_rfl) ?_ _
 go_wp2_with fail
 go_ret
 exact ⟨ks,HTO9.out⟩
def OMid (base gR:Nat) (pl:Option Addr) (N cl:Nat) (ord:ByteArray) (way:List Val) (m:Nat) (W w':World):Prop:=
 (∃ pw cw,RCur w' gR pl N cl ord pw way.length cw false m∧(∃ d:List VE,d.map VE.val=way∧w'.ownsRow base 39 6 (.slice pw way.length cw) way.length (d.flatMap VE.enc))∧(Value.slice pw way.length cw).ownBlock≠some gR)∧Below base W w'
def zil (base gR:Nat) (pl:Option Addr) (N cl:Nat) (ord:ByteArray) (way ks:List Val) (W:World) (e:Ending) (w':World):Prop:=
 Below base W w'∧((∃ h:0 < ks.length,e=.returned (.bool true)∧DCur w' base gR pl N cl ord (way++[ks[0]]) false)∨(ks=[]∧e=.returned (.bool false)∧DCur w' base gR pl N cl ord way false))
theorem zxm (W:World) (gR:Nat) (pl:Option Addr) (N cl:Nat) (ord:ByteArray) (pw:Option Addr) (d m cw:Nat) (e:Bool) (h:d=3∨e=true) (B:RCur W gR pl N cl ord pw m cw e d):
 Calls Tryz.prog 23 #[.pointer (some ⟨gR,0,none⟩)] W fun e' w'=>e'=.returned (.bool false)∧w'=W:=by
 have c4:W.cell? ⟨gR,4,none⟩=some (.int .i64 d):=zab B 4 rfl
 have c3:W.cell? ⟨gR,3,none⟩=some (.bool e):=zab B 3 rfl
 clear B
 by_cases hd:d=3
 ·subst hd
  go_enter Tryz.func23,Tryz.ntmps23
  go_wp2_with fail
  go_ret
  exact ⟨rfl,rfl⟩
 ·obtain rfl:e=true:=h.resolve_left hd
  have e1:((d:Int) == 3)=false:=by simp;omega
  go_enter Tryz.func23,Tryz.ntmps23
  go_wp2_with fail
  go_ret
  exact ⟨rfl,rfl⟩
theorem openRef (all:List Tri3) (pl:Option Addr) (cl:Nat) (kk:Nat) (hk:kk < 6) (base gR:Nat) (way:List Val) (hm3:way.length < 3) (w:World) (hD:DCur w base gR pl all.length cl (onm kk) way false) (hpw:∀ u∈way,zcw u) (hl:Tris w (.slice pl all.length cl) all) (hn60:all.length≤65536) (hc:∀ t∈all,zbl t=true) (hb:base≤w.heap.size):
 Calls Tryz.prog 23 #[.pointer (some ⟨gR,0,none⟩)] w fun e w'=>∃ ks,InsV (srcT all (fun i=>(way[i]?).getD nulV) (levN kk) way.length all.length) ks∧zil base gR pl all.length cl (onm kk) way ks w e w':=by
 obtain ⟨⟨pw,cw,B,⟨d,hd,hown⟩,hnb⟩,hbR⟩:=hD
 obtain ⟨i0,hi,hz0,hz1,hz2⟩:=info_parts zm9
 obtain ⟨m,hm⟩:∃ m,m=way.length:=⟨_,rfl⟩
 rw [← hm] at B hown hnb hm3 ⊢
 have hel:∀ i,(h:i < way.length)→∃ y:V6,Is w y way[i] []∧∃ gw,pw=some ⟨gw,0,none⟩∧w.rangeAt gw (i*6) [.int .i64 y.k,.bool y.b,.int .i64 y.n,.string y.t,.string y.x,.slice y.p y.len y.cap]:=fun i h=>by
  obtain ⟨gw,rfl⟩:∃ gw,pw=some ⟨gw,0,none⟩:=by
   rcases hown.2 with ⟨_,e⟩ | ⟨g,cap,cur,e,_⟩
   ·omega
   ·injection e with e _ _
    exact ⟨g,e⟩
  have hw1:=zdu hown
  rw [hd] at hw1
  obtain ⟨y,q,iy,ry⟩:=isOf (zar.at_ way 0 hw1 i h)
  rw [Nat.zero_add] at ry
  obtain ⟨_,_,_,_,_,e⟩:=hpw _ (List.getElem_mem h)
  have e2:=iy.e
  rw [e] at e2
  injection e2 with _ _ _ _ _ e3
  subst e3
  exact ⟨y,iy,gw,rfl,ry⟩
 have hkeys:=zys all pl cl kk m hk hm3 pw m cw (fun i=>if h:i < way.length then (hel i h).choose else ⟨0,false,0,⟨#[]⟩,⟨#[]⟩,none,0,0⟩) (fun i=>(way[i]?).getD nulV) false m gR w B hl hn60 hc (Nat.le_refl _) (fun h0=>by
  obtain ⟨gw,rfl⟩:∃ gw,pw=some ⟨gw,0,none⟩:=by
   obtain ⟨_,_,gw,e,_⟩:=hel 0 (by omega)
   exact ⟨gw,e⟩
  refine ⟨gw,rfl,fun i hi2=>?_⟩
  have hi3:i < way.length:=by omega
  simp only [dif_pos hi3]
  rw [List.getElem?_eq_getElem hi3,Option.getD_some]
  obtain ⟨h1,gw',e,h2⟩:=(hel i hi3).choose_spec
  injection e with e
  injection e with e _ _
  subst e
  exact ⟨h1,h2⟩)
 have c4:w.cell? ⟨gR,4,none⟩=some (.int .i64 m):=zab B 4 rfl
 have c3:w.cell? ⟨gR,3,none⟩=some (.bool false):=zab B 3 rfl
 have e1:((m:Int) == 3)=false:=by simp;omega
 have HKEYS:=Lib.hid hkeys
 have HB:=Lib.hid B
 have HOWN:=Lib.hid hown
 have HDV:=Lib.hid hd
 have HM:=Lib.hid hm
 have HCHK:=Lib.hid hc
 have HBASE0:=Lib.hid (And.intro hb hbR)
 have HNB:=Lib.hid hnb
 have hgR:=zac B
 clear hkeys hel B hown hd hm hb hbR hnb hpw hl hc
 go_enter Tryz.func23,Tryz.ntmps23
 go_upto_region 4 with (go_at_call 57;(with_reducible refine HKEYS.out.mono ?_);rintro e w2 ⟨V,rfl,ks,hins,hacc⟩)
 obtain ⟨dk,hdk,hok,hb2⟩:=hacc
 obtain ⟨pk,ck,rfl,hkc,hpk,hpkc⟩:=zhw hok
 obtain ⟨nk,hnk0⟩:∃ nk,nk=ks.length:=⟨_,rfl⟩
 rw [← hnk0] at hok hkc hpk ⊢
 have B2:RCur w2 gR pl all.length cl (onm kk) pw m cw false m:=(hb2.block _ (zac HB.out)).trans HB.out
 have hown2:w2.ownsRow base 39 6 (.slice pw m cw) m (d.flatMap VE.enc):=zbf HOWN.out hb2
 have HINS:=Lib.hid hins
 have HNK:=Lib.hid hnk0
 have HB2:=Lib.hid hb2
 clear c4 c3 hins hnk0
 by_cases hz:nk=0
 ·subst hz
  have fin:zil base gR pl all.length cl (onm kk) way ks w (.returned (.bool false)) w2:=by
   refine ⟨HB2.out.mono HBASE0.out.1,.inr ⟨List.length_eq_zero_iff.1 HNK.out.symm,rfl,⟨⟨pw,cw,by rw [← HM.out];exact B2,⟨d,HDV.out,?_⟩,?_⟩,HBASE0.out.2⟩⟩⟩
   ·rw [← HM.out];exact hown2
   ·rw [← HM.out];exact HNB.out
  have FIN:=Lib.hid fin
  clear fin B2 hown2 hb2 hok hdk hpk hpkc hkc
  go_wp2_with fail
  go_ret
  exact ⟨ks,HINS.out,FIN.out⟩
 ·have e2:((nk:Int) == 0)=false:=by simp;omega
  have h0k:0 < ks.length:=by have:=HNK.out;omega
  obtain ⟨⟨gk,ok,sk⟩,rfl⟩:∃ ad,pk=some ad:=by
   cases pk with
   | some ad=>exact ⟨ad,rfl⟩
   | none=>exact absurd (hpk rfl).1 hz
  obtain ⟨rfl,rfl,_⟩:=hpkc gk ok sk rfl
  have hgk:=(hok.lt gk rfl)
  have hkr:=zdu hok
  rw [hdk] at hkr
  obtain ⟨a0,q0,ia,rk⟩:=isOf (zar.at_ ks 0 hkr 0 h0k)
  rw [Nat.zero_add] at rk
  have hplk:zcw ks[0]:=by
   obtain ⟨t9,ht9,e9⟩:=znh ((HINS.out.mem _).1 (List.getElem_mem h0k))
   rw [e9]
   exact (zey (HCHK.out _ ht9) _).1
  obtain ⟨e0,he0,hv0⟩:=ia.plain hplk
  have hnk1:(0:Int) < nk:=by omega
  have c2:w2.cell? ⟨gR,2,none⟩=some (.slice pw m cw):=zab B2 2 rfl
  have HOWN2:=Lib.hid hown2
  have HBASE:Hid (base≤w2.heap.size+1):=Lib.hid (by have:=HBASE0.out.1;have:=hb2.size;omega)
  have HBASE1:Hid (base≤w2.heap.size):=Lib.hid (by have:=HBASE0.out.1;have:=hb2.size;omega)
  have HB22:=Lib.hid B2
  have hvb:∀ g,(Value.slice pw m cw).ownBlock=some g→g < w.heap.size:=fun g hg=>((HOWN.out.lt g hg:_∧_)).2
  have HNG:Hid ((Value.slice pw m cw).ownBlock≠some gk∧(Value.slice pw m cw).ownBlock≠some gR):=Lib.hid ⟨fun e=>by have:=hvb gk e;omega,HNB.out⟩
  have HNG2:Hid (gk≠gR):=Lib.hid (by omega)
  have HLOC:Hid (∀ gg,((Value.slice pw m cw).ownBlock=some gg∨gg=w2.drew.heap.size+1)→gk≠gg∧gR≠gg∧base≤gg):=Lib.hid fun gg h=>by
   rcases h with h | h
   ·have h1:=hvb gg h
    have h2:=(hown2.lt gg h).1
    exact ⟨by omega,fun e=>HNG.out.2 (by rw [e];exact h),h2⟩
   ·have h1:w2.drew.heap.size=w2.heap.size:=rfl
    have h2:=hgk.2
    have h3:=hb2.size
    have h4:=HBASE1.out
    exact ⟨by omega,by omega,by omega⟩
  have C2A:Hid ((w2.drew.alloc (.cells #[.int .i64 0,.bool false,.int .i64 0,.string ⟨#[]⟩,.string ⟨#[]⟩,.slice none 0 0] 39)).cell? ⟨gR,2,none⟩=some (.slice pw m cw)):=Lib.hid (zab (zaw _ HB22.out) 2 rfl)
  have HE0:=Lib.hid (And.intro he0 hv0)
  clear ia hkr hplk he0 hv0 hvb hgk hok hdk hb2 hown2 B2
  go_upto_region 6 with fail
  go_cut [] (fun wx=>Hid (OMid base gR pl all.length cl (onm kk) (way++[ks[0]]) m w2 wx))
  case first=>
   refine wp_region_held_drew (S:=fun W=>W.rangeAt gk 0 [.int .i64 a0.k,.bool a0.b,.int .i64 a0.n,.string a0.t,.string a0.x,.slice a0.p a0.len a0.cap]) (by kernel_rfl) rk (fun hHeld=>?_)
   refine tg (i:=0) (.pointer (some ⟨gR,0,none⟩)) rfl hHeld ?_
   refine tg (i:=1) (.pointer (some ⟨gR,0,none⟩)) rfl hHeld ?_
   refine tg (i:=2) (.pointer (some ⟨gR,2,none⟩)) rfl hHeld ?_
   refine tg (i:=4) (.slice (some ⟨gk,0,none⟩) nk ck) rfl hHeld ?_
   refine tg (i:=5) (.pointer (some ⟨gk,0,none⟩)) rfl hHeld ?_
   refine tk (i:=6) rfl (yieldsIf_load_mid (by rfl) 39 (.tmp 29) rfl (gk) (0) rfl [.int .i64 a0.k,.bool a0.b,.int .i64 a0.n,.string a0.t,.string a0.x,.slice a0.p a0.len a0.cap] _ (fun W h=>h) Tryz.underlying39 rfl zas) hHeld ?_
   refine wpAnyH_ready (rs:=[3,8]) (by kernel_rfl) (by simp) ?_
   refine AllReadyH.cons rfl (fun K hK=>?_) (AllReadyH.cons rfl (fun K hK=>?_) AllReadyH.nil)
   ·rw [if_pos (by rfl)]
    have c2d:w2.drew.cell? ⟨gR,2,none⟩=some (.slice pw m cw):=c2
    go_simp
    refine hK.out _ _ hHeld (fun _=>?_)
    clear hK K
    try simp only [putS]
    refine tg (i:=7) (.int .i64 (m:Int)) rfl hHeld ?_
    refine tr 8 rfl (fun K hK=>?_)
    (try rw [if_pos (by rfl)])
    go_simp
    have hHeld4:=zae hHeld (za0 w2.drew (.cells #[.int .i64 0,.bool false,.int .i64 0,.string ⟨#[]⟩,.string ⟨#[]⟩,.slice none 0 0] 39))
    refine hK.out _ _ hHeld4 (fun _=>?_)
    clear hK K
    try simp only [putS]
    refine tr 9 rfl (fun K hK=>?_)
    have own3:=(HOWN2.out.drew).alloc (.cells #[.int .i64 0,.bool false,.int .i64 0,.string ⟨#[]⟩,.string ⟨#[]⟩,.slice none 0 0] 39)
    refine step_append_lies _ (by rfl) _ _ _ (by rfl) base 39 i0 _ 6 80 Tryz.underlying37 hi hz0 hz1 hz2 rfl (by omega) (.slice pw m cw) m (d.flatMap VE.enc) (by rfl) own3 ⟨w2.drew.heap.size,0,none⟩ 1 1 [.int .i64 0,.bool false,.int .i64 0,.string ⟨#[]⟩,.string ⟨#[]⟩,.slice none 0 0] (by rfl) (by rfl) (World.news_of_block (cs:=#[.int .i64 0,.bool false,.int .i64 0,.string ⟨#[]⟩,.string ⟨#[]⟩,.slice none 0 0]) (t:=39) (fr:=(0,0)) (by exact heap_alloc_new w2.drew _)) (by simp [Value.oneCell']) (by omega) (by unfold maxLen;omega) (by omega) (by simp;exact HBASE.out) (w2.drew.heap.size+1) (by simp) ?_
    intro gg cap' w4 hr4 hg4 hat4 hlt4
    obtain ⟨hngk,hngR,hngg⟩:=HLOC.out gg hat4
    have hHeld5:w4.rangeAt gk 0 [.int .i64 a0.k,.bool a0.b,.int .i64 a0.n,.string a0.t,.string a0.x,.slice a0.p a0.len a0.cap]:=fun i v hv=>(World.cell?_of_block (w:=(w2.drew.alloc (.cells #[.int .i64 0,.bool false,.int .i64 0,.string ⟨#[]⟩,.string ⟨#[]⟩,.slice none 0 0] 39))) (a:=⟨gk,0+i,none⟩) (hg4.block gk (World.block_lt_of_cell? _ _ (hHeld4 0 _ rfl)) HNG.out.1.symm)).trans (hHeld4 i v hv)
    have B4:RCur w4 gR pl all.length cl (onm kk) pw m cw false m:=(hg4.block gR (by have:=zac HB22.out;simp;omega) HNG.out.2.symm).trans (zaw _ HB22.out)
    obtain ⟨cur4,hcur4,hsz4⟩:∃ cur,w4.heap[gg]?=some (.cells cur 39)∧(m+1)*6≤cur.size:=by
     rcases hr4.2 with ⟨e,_⟩ | ⟨g,cap,cur,e,_,h1,h2,_,h3,_⟩
     ·cases e
     ·injection e with e e2 e3
      injection e with e
      injection e with e _ _
      subst e
      exact ⟨cur,h1,by rw [h3];exact Nat.mul_le_mul_right _ h2⟩
    refine hK.out _ _ hHeld5 (fun _=>?_)
    clear hK K
    have hb9:¬ ((m:Int)+1≤(m:Int)):=by omega
    try simp only [putS]
    refine tg (i:=10) (.pointer (some ⟨gg,m*6,none⟩)) rfl hHeld5 ?_
    refine tg (i:=12) (.pointer (some ⟨gR,0,none⟩)) rfl hHeld5 ?_
    refine tg (i:=13) (.pointer (some ⟨gR,2,none⟩)) rfl hHeld5 ?_
    have b4:Below base w2 w4:=((Below.refl base w2).drew.alloc HBASE1.out _).grown hg4 (by simp;have:=HBASE1.out;omega) (fun g hg=>(own3.lt g hg).1)
    have hs4:=b4.size
    refine wpAnyH_ready (rs:=[11,14]) (by kernel_rfl) (by simp) ?_
    refine AllReadyH.cons rfl (fun K hK=>?_) (AllReadyH.cons rfl (fun K hK=>?_) AllReadyH.nil)
    ·rw [if_pos (by rfl)]
     have oz:=zba gg [.int .i64 a0.k,.bool a0.b,.int .i64 a0.n,.string a0.t,.string a0.x,.slice a0.p a0.len a0.cap] (m*6) w4
     have hHeld6:(w4.setCells gg (m*6) [.int .i64 a0.k,.bool a0.b,.int .i64 a0.n,.string a0.t,.string a0.x,.slice a0.p a0.len a0.cap]).rangeAt gk 0 [.int .i64 a0.k,.bool a0.b,.int .i64 a0.n,.string a0.t,.string a0.x,.slice a0.p a0.len a0.cap]:=fun j u hu=>(zbr oz hngk (hHeld5 j u hu)).trans (hHeld5 j u hu)
     have hr5:=zhx hr4 (m*6) [.int .i64 a0.k,.bool a0.b,.int .i64 a0.n,.string a0.t,.string a0.x,.slice a0.p a0.len a0.cap] (by simp;omega)
     have B5:RCur (w4.setCells gg (m*6) [.int .i64 a0.k,.bool a0.b,.int .i64 a0.n,.string a0.t,.string a0.x,.slice a0.p a0.len a0.cap]) gR pl all.length cl (onm kk) pw m cw false m:=(oz.block gR (zac B4) hngR).trans B4
     refine wp_store_mid 39 (.tmp 34) (.tmp 30) rfl gg (m*6) #[.int .i64 a0.k,.bool a0.b,.int .i64 a0.n,.string a0.t,.string a0.x,.slice a0.p a0.len a0.cap] rfl rfl (zc6 hcur4 (m*6) 6 (by omega)) zas (by simp [Value.oneCell']) ?_
     refine hK.out _ _ hHeld6 (fun _=>?_)
     clear hK K
     try simp only [putS]
     have b5:Below base w2 (w4.setCells gg (m*6) [.int .i64 a0.k,.bool a0.b,.int .i64 a0.n,.string a0.t,.string a0.x,.slice a0.p a0.len a0.cap]):=zag b4 oz hngg (by have:=HBASE1.out;omega)
     generalize w4.setCells gg (m*6) [.int .i64 a0.k,.bool a0.b,.int .i64 a0.n,.string a0.t,.string a0.x,.slice a0.p a0.len a0.cap]=w5 at*
     refine tr 14 rfl (fun K hK=>?_)
     rw [if_pos (by rfl)]
     have k2:w5.cell? ⟨gR,2,none⟩=some (.slice pw m cw):=zab B5 2 rfl
     have f2:w5.frozen? ⟨gR,2,none⟩=false:=za9 B5 _
     go_simp
     have B6:=zaz B5 2 (.slice (some ⟨gg,0,none⟩) (m+1) cap')
     have o6:=(Only.refl gR w5).setCell 2 none (.slice (some ⟨gg,0,none⟩) (m+1) cap')
     have hHeld7:(w5.setCell ⟨gR,2,none⟩ (.slice (some ⟨gg,0,none⟩) (m+1) cap')).rangeAt gk 0 [.int .i64 a0.k,.bool a0.b,.int .i64 a0.n,.string a0.t,.string a0.x,.slice a0.p a0.len a0.cap]:=fun j u hu=>(zbr o6 HNG2.out (hHeld6 j u hu)).trans (hHeld6 j u hu)
     refine hK.out _ _ hHeld7 (fun _=>?_)
     clear hK K
     try simp only [putS]
     have hr6:=zdh hr5 o6 (fun e=>hngR (by cases e;rfl))
     have b6:=zag b5 o6 HBASE0.out.2 (by have:=b5.size;have:=HBASE1.out;omega)
     generalize w5.setCell ⟨gR,2,none⟩ (.slice (some ⟨gg,0,none⟩) (m+1) cap')=w6 at*
     have acc:OMid base gR pl all.length cl (onm kk) (way++[ks[0]]) m w2 w6:=by
      refine ⟨⟨some ⟨gg,0,none⟩,cap',?_,⟨d++[e0],?_,?_⟩,?_⟩,b6⟩
      ·rw [List.length_append,← HM.out];exact B6
      ·rw [List.map_append,HDV.out];simp [HE0.out.2]
      ·have e6:[e0].flatMap VE.enc=[.int .i64 a0.k,.bool a0.b,.int .i64 a0.n,.string a0.t,.string a0.x,.slice a0.p a0.len a0.cap]:=by simp [VE.enc,HE0.out.1]
       have hlm:(d.flatMap VE.enc).length=m*6:=own3.1
       rw [List.length_append,← HM.out,List.flatMap_append,e6]
       rw [List.take_append_of_le_length (by omega),List.take_of_length_le (by omega)] at hr6
       exact hr6
      ·intro e
       exact hngR (by cases e;rfl)
     have ACC:=Lib.hid acc
     refine wpAnyH_done (by kernel_rfl) ?_ _
     go_wp2_with fail
     go_meet
     case rel=>exact ACC
    ·rw [if_pos (by rfl)]
     have k2:w4.cell? ⟨gR,2,none⟩=some (.slice pw m cw):=zab B4 2 rfl
     have f2:w4.frozen? ⟨gR,2,none⟩=false:=za9 B4 _
     go_simp
     have B5:=zaz B4 2 (.slice (some ⟨gg,0,none⟩) (m+1) cap')
     have o6:=(Only.refl gR w4).setCell 2 none (.slice (some ⟨gg,0,none⟩) (m+1) cap')
     have hHeld6:(w4.setCell ⟨gR,2,none⟩ (.slice (some ⟨gg,0,none⟩) (m+1) cap')).rangeAt gk 0 [.int .i64 a0.k,.bool a0.b,.int .i64 a0.n,.string a0.t,.string a0.x,.slice a0.p a0.len a0.cap]:=fun j u hu=>(zbr o6 HNG2.out (hHeld5 j u hu)).trans (hHeld5 j u hu)
     refine hK.out _ _ hHeld6 (fun _=>?_)
     clear hK K
     try simp only [putS]
     have hr5:=zdh hr4 o6 (fun e=>hngR (by cases e;rfl))
     have hcur5:=(o6.block gg (zac hcur4) (fun e=>hngR e.symm)).trans hcur4
     have b5:=zag b4 o6 HBASE0.out.2 (by have:=HBASE1.out;omega)
     generalize w4.setCell ⟨gR,2,none⟩ (.slice (some ⟨gg,0,none⟩) (m+1) cap')=w5 at*
     refine tr 11 rfl (fun K hK=>?_)
     rw [if_pos (by rfl)]
     have oz:=zba gg [.int .i64 a0.k,.bool a0.b,.int .i64 a0.n,.string a0.t,.string a0.x,.slice a0.p a0.len a0.cap] (m*6) w5
     have hHeld7:(w5.setCells gg (m*6) [.int .i64 a0.k,.bool a0.b,.int .i64 a0.n,.string a0.t,.string a0.x,.slice a0.p a0.len a0.cap]).rangeAt gk 0 [.int .i64 a0.k,.bool a0.b,.int .i64 a0.n,.string a0.t,.string a0.x,.slice a0.p a0.len a0.cap]:=fun j u hu=>(zbr oz hngk (hHeld6 j u hu)).trans (hHeld6 j u hu)
     have hr6:=zhx hr5 (m*6) [.int .i64 a0.k,.bool a0.b,.int .i64 a0.n,.string a0.t,.string a0.x,.slice a0.p a0.len a0.cap] (by simp;omega)
     have B6:=(oz.block gR (zac B5) hngR).trans B5
     refine wp_store_mid 39 (.tmp 34) (.tmp 30) rfl gg (m*6) #[.int .i64 a0.k,.bool a0.b,.int .i64 a0.n,.string a0.t,.string a0.x,.slice a0.p a0.len a0.cap] rfl rfl (zc6 hcur5 (m*6) 6 (by omega)) zas (by simp [Value.oneCell']) ?_
     refine hK.out _ _ hHeld7 (fun _=>?_)
     clear hK K
     try simp only [putS]
     have b6:Below base w2 (w5.setCells gg (m*6) [.int .i64 a0.k,.bool a0.b,.int .i64 a0.n,.string a0.t,.string a0.x,.slice a0.p a0.len a0.cap]):=zag b5 oz hngg (by have:=b5.size;have:=HBASE1.out;omega)
     generalize w5.setCells gg (m*6) [.int .i64 a0.k,.bool a0.b,.int .i64 a0.n,.string a0.t,.string a0.x,.slice a0.p a0.len a0.cap]=w6 at*
     have acc:OMid base gR pl all.length cl (onm kk) (way++[ks[0]]) m w2 w6:=by
      refine ⟨⟨some ⟨gg,0,none⟩,cap',?_,⟨d++[e0],?_,?_⟩,?_⟩,b6⟩
      ·rw [List.length_append,← HM.out];exact B6
      ·rw [List.map_append,HDV.out];simp [HE0.out.2]
      ·have e6:[e0].flatMap VE.enc=[.int .i64 a0.k,.bool a0.b,.int .i64 a0.n,.string a0.t,.string a0.x,.slice a0.p a0.len a0.cap]:=by simp [VE.enc,HE0.out.1]
       have hlm:(d.flatMap VE.enc).length=m*6:=own3.1
       rw [List.length_append,← HM.out,List.flatMap_append,e6]
       rw [List.take_append_of_le_length (by omega),List.take_of_length_le (by omega)] at hr6
       exact hr6
      ·intro e
       exact hngR (by cases e;rfl)
     have ACC:=Lib.hid acc
     refine wpAnyH_done (by kernel_rfl) ?_ _
     go_wp2_with fail
     go_meet
     case rel=>exact ACC
   ·(try rw [if_pos (by rfl)])
    go_simp
    have hHeld4:=zae hHeld (za0 w2.drew (.cells #[.int .i64 0,.bool false,.int .i64 0,.string ⟨#[]⟩,.string ⟨#[]⟩,.slice none 0 0] 39))
    refine hK.out _ _ hHeld4 (fun _=>?_)
    clear hK K
    try simp only [putS]
    refine tr 3 rfl (fun K hK=>?_)
    rw [if_pos (by rfl)]
    have c2d:(w2.alloc (.cells #[.int .i64 0,.bool false,.int .i64 0,.string ⟨#[]⟩,.string ⟨#[]⟩,.slice none 0 0] 39)).drew.cell? ⟨gR,2,none⟩=some (.slice pw m cw):=C2A.out
    go_simp
    refine hK.out _ _ hHeld4 (fun _=>?_)
    clear hK K
    try simp only [putS]
    refine tg (i:=7) (.int .i64 (m:Int)) rfl hHeld4 ?_
    refine tr 9 rfl (fun K hK=>?_)
    have own3:=(HOWN2.out.drew).alloc (.cells #[.int .i64 0,.bool false,.int .i64 0,.string ⟨#[]⟩,.string ⟨#[]⟩,.slice none 0 0] 39)
    refine step_append_lies _ (by rfl) _ _ _ (by rfl) base 39 i0 _ 6 80 Tryz.underlying37 hi hz0 hz1 hz2 rfl (by omega) (.slice pw m cw) m (d.flatMap VE.enc) (by rfl) own3 ⟨w2.drew.heap.size,0,none⟩ 1 1 [.int .i64 0,.bool false,.int .i64 0,.string ⟨#[]⟩,.string ⟨#[]⟩,.slice none 0 0] (by rfl) (by rfl) (World.news_of_block (cs:=#[.int .i64 0,.bool false,.int .i64 0,.string ⟨#[]⟩,.string ⟨#[]⟩,.slice none 0 0]) (t:=39) (fr:=(0,0)) (by exact heap_alloc_new w2.drew _)) (by simp [Value.oneCell']) (by omega) (by unfold maxLen;omega) (by omega) (by simp;exact HBASE.out) (w2.drew.heap.size+1) (by simp) ?_
    intro gg cap' w4 hr4 hg4 hat4 hlt4
    obtain ⟨hngk,hngR,hngg⟩:=HLOC.out gg hat4
    have hHeld5:w4.rangeAt gk 0 [.int .i64 a0.k,.bool a0.b,.int .i64 a0.n,.string a0.t,.string a0.x,.slice a0.p a0.len a0.cap]:=fun i v hv=>(World.cell?_of_block (w:=(w2.drew.alloc (.cells #[.int .i64 0,.bool false,.int .i64 0,.string ⟨#[]⟩,.string ⟨#[]⟩,.slice none 0 0] 39))) (a:=⟨gk,0+i,none⟩) (hg4.block gk (World.block_lt_of_cell? _ _ (hHeld4 0 _ rfl)) HNG.out.1.symm)).trans (hHeld4 i v hv)
    have B4:RCur w4 gR pl all.length cl (onm kk) pw m cw false m:=(hg4.block gR (by have:=zac HB22.out;simp;omega) HNG.out.2.symm).trans (zaw _ HB22.out)
    obtain ⟨cur4,hcur4,hsz4⟩:∃ cur,w4.heap[gg]?=some (.cells cur 39)∧(m+1)*6≤cur.size:=by
     rcases hr4.2 with ⟨e,_⟩ | ⟨g,cap,cur,e,_,h1,h2,_,h3,_⟩
     ·cases e
     ·injection e with e e2 e3
      injection e with e
      injection e with e _ _
      subst e
      exact ⟨cur,h1,by rw [h3];exact Nat.mul_le_mul_right _ h2⟩
    refine hK.out _ _ hHeld5 (fun _=>?_)
    clear hK K
    have hb9:¬ ((m:Int)+1≤(m:Int)):=by omega
    try simp only [putS]
    refine tg (i:=10) (.pointer (some ⟨gg,m*6,none⟩)) rfl hHeld5 ?_
    refine tg (i:=12) (.pointer (some ⟨gR,0,none⟩)) rfl hHeld5 ?_
    refine tg (i:=13) (.pointer (some ⟨gR,2,none⟩)) rfl hHeld5 ?_
    have b4:Below base w2 w4:=((Below.refl base w2).drew.alloc HBASE1.out _).grown hg4 (by simp;have:=HBASE1.out;omega) (fun g hg=>(own3.lt g hg).1)
    have hs4:=b4.size
    refine wpAnyH_ready (rs:=[11,14]) (by kernel_rfl) (by simp) ?_
    refine AllReadyH.cons rfl (fun K hK=>?_) (AllReadyH.cons rfl (fun K hK=>?_) AllReadyH.nil)
    ·rw [if_pos (by rfl)]
     have oz:=zba gg [.int .i64 a0.k,.bool a0.b,.int .i64 a0.n,.string a0.t,.string a0.x,.slice a0.p a0.len a0.cap] (m*6) w4
     have hHeld6:(w4.setCells gg (m*6) [.int .i64 a0.k,.bool a0.b,.int .i64 a0.n,.string a0.t,.string a0.x,.slice a0.p a0.len a0.cap]).rangeAt gk 0 [.int .i64 a0.k,.bool a0.b,.int .i64 a0.n,.string a0.t,.string a0.x,.slice a0.p a0.len a0.cap]:=fun j u hu=>(zbr oz hngk (hHeld5 j u hu)).trans (hHeld5 j u hu)
     have hr5:=zhx hr4 (m*6) [.int .i64 a0.k,.bool a0.b,.int .i64 a0.n,.string a0.t,.string a0.x,.slice a0.p a0.len a0.cap] (by simp;omega)
     have B5:RCur (w4.setCells gg (m*6) [.int .i64 a0.k,.bool a0.b,.int .i64 a0.n,.string a0.t,.string a0.x,.slice a0.p a0.len a0.cap]) gR pl all.length cl (onm kk) pw m cw false m:=(oz.block gR (zac B4) hngR).trans B4
     refine wp_store_mid 39 (.tmp 34) (.tmp 30) rfl gg (m*6) #[.int .i64 a0.k,.bool a0.b,.int .i64 a0.n,.string a0.t,.string a0.x,.slice a0.p a0.len a0.cap] rfl rfl (zc6 hcur4 (m*6) 6 (by omega)) zas (by simp [Value.oneCell']) ?_
     refine hK.out _ _ hHeld6 (fun _=>?_)
     clear hK K
     try simp only [putS]
     have b5:Below base w2 (w4.setCells gg (m*6) [.int .i64 a0.k,.bool a0.b,.int .i64 a0.n,.string a0.t,.string a0.x,.slice a0.p a0.len a0.cap]):=zag b4 oz hngg (by have:=HBASE1.out;omega)
     generalize w4.setCells gg (m*6) [.int .i64 a0.k,.bool a0.b,.int .i64 a0.n,.string a0.t,.string a0.x,.slice a0.p a0.len a0.cap]=w5 at*
     refine tr 14 rfl (fun K hK=>?_)
     rw [if_pos (by rfl)]
     have k2:w5.cell? ⟨gR,2,none⟩=some (.slice pw m cw):=zab B5 2 rfl
     have f2:w5.frozen? ⟨gR,2,none⟩=false:=za9 B5 _
     go_simp
     have B6:=zaz B5 2 (.slice (some ⟨gg,0,none⟩) (m+1) cap')
     have o6:=(Only.refl gR w5).setCell 2 none (.slice (some ⟨gg,0,none⟩) (m+1) cap')
     have hHeld7:(w5.setCell ⟨gR,2,none⟩ (.slice (some ⟨gg,0,none⟩) (m+1) cap')).rangeAt gk 0 [.int .i64 a0.k,.bool a0.b,.int .i64 a0.n,.string a0.t,.string a0.x,.slice a0.p a0.len a0.cap]:=fun j u hu=>(zbr o6 HNG2.out (hHeld6 j u hu)).trans (hHeld6 j u hu)
     refine hK.out _ _ hHeld7 (fun _=>?_)
     clear hK K
     try simp only [putS]
     have hr6:=zdh hr5 o6 (fun e=>hngR (by cases e;rfl))
     have b6:=zag b5 o6 HBASE0.out.2 (by have:=b5.size;have:=HBASE1.out;omega)
     generalize w5.setCell ⟨gR,2,none⟩ (.slice (some ⟨gg,0,none⟩) (m+1) cap')=w6 at*
     have acc:OMid base gR pl all.length cl (onm kk) (way++[ks[0]]) m w2 w6:=by
      refine ⟨⟨some ⟨gg,0,none⟩,cap',?_,⟨d++[e0],?_,?_⟩,?_⟩,b6⟩
      ·rw [List.length_append,← HM.out];exact B6
      ·rw [List.map_append,HDV.out];simp [HE0.out.2]
      ·have e6:[e0].flatMap VE.enc=[.int .i64 a0.k,.bool a0.b,.int .i64 a0.n,.string a0.t,.string a0.x,.slice a0.p a0.len a0.cap]:=by simp [VE.enc,HE0.out.1]
       have hlm:(d.flatMap VE.enc).length=m*6:=own3.1
       rw [List.length_append,← HM.out,List.flatMap_append,e6]
       rw [List.take_append_of_le_length (by omega),List.take_of_length_le (by omega)] at hr6
       exact hr6
      ·intro e
       exact hngR (by cases e;rfl)
     have ACC:=Lib.hid acc
     refine wpAnyH_done (by kernel_rfl) ?_ _
     go_wp2_with fail
     go_meet
     case rel=>exact ACC
    ·rw [if_pos (by rfl)]
     have k2:w4.cell? ⟨gR,2,none⟩=some (.slice pw m cw):=zab B4 2 rfl
     have f2:w4.frozen? ⟨gR,2,none⟩=false:=za9 B4 _
     go_simp
     have B5:=zaz B4 2 (.slice (some ⟨gg,0,none⟩) (m+1) cap')
     have o6:=(Only.refl gR w4).setCell 2 none (.slice (some ⟨gg,0,none⟩) (m+1) cap')
     have hHeld6:(w4.setCell ⟨gR,2,none⟩ (.slice (some ⟨gg,0,none⟩) (m+1) cap')).rangeAt gk 0 [.int .i64 a0.k,.bool a0.b,.int .i64 a0.n,.string a0.t,.string a0.x,.slice a0.p a0.len a0.cap]:=fun j u hu=>(zbr o6 HNG2.out (hHeld5 j u hu)).trans (hHeld5 j u hu)
     refine hK.out _ _ hHeld6 (fun _=>?_)
     clear hK K
     try simp only [putS]
     have hr5:=zdh hr4 o6 (fun e=>hngR (by cases e;rfl))
     have hcur5:=(o6.block gg (zac hcur4) (fun e=>hngR e.symm)).trans hcur4
     have b5:=zag b4 o6 HBASE0.out.2 (by have:=HBASE1.out;omega)
     generalize w4.setCell ⟨gR,2,none⟩ (.slice (some ⟨gg,0,none⟩) (m+1) cap')=w5 at*
     refine tr 11 rfl (fun K hK=>?_)
     rw [if_pos (by rfl)]
     have oz:=zba gg [.int .i64 a0.k,.bool a0.b,.int .i64 a0.n,.string a0.t,.string a0.x,.slice a0.p a0.len a0.cap] (m*6) w5
     have hHeld7:(w5.setCells gg (m*6) [.int .i64 a0.k,.bool a0.b,.int .i64 a0.n,.string a0.t,.string a0.x,.slice a0.p a0.len a0.cap]).rangeAt gk 0 [.int .i64 a0.k,.bool a0.b,.int .i64 a0.n,.string a0.t,.string a0.x,.slice a0.p a0.len a0.cap]:=fun j u hu=>(zbr oz hngk (hHeld6 j u hu)).trans (hHeld6 j u hu)
     have hr6:=zhx hr5 (m*6) [.int .i64 a0.k,.bool a0.b,.int .i64 a0.n,.string a0.t,.string a0.x,.slice a0.p a0.len a0.cap] (by simp;omega)
     have B6:=(oz.block gR (zac B5) hngR).trans B5
     refine wp_store_mid 39 (.tmp 34) (.tmp 30) rfl gg (m*6) #[.int .i64 a0.k,.bool a0.b,.int .i64 a0.n,.string a0.t,.string a0.x,.slice a0.p a0.len a0.cap] rfl rfl (zc6 hcur5 (m*6) 6 (by omega)) zas (by simp [Value.oneCell']) ?_
     refine hK.out _ _ hHeld7 (fun _=>?_)
     clear hK K
     try simp only [putS]
     have b6:Below base w2 (w5.setCells gg (m*6) [.int .i64 a0.k,.bool a0.b,.int .i64 a0.n,.string a0.t,.string a0.x,.slice a0.p a0.len a0.cap]):=zag b5 oz hngg (by have:=b5.size;have:=HBASE1.out;omega)
     generalize w5.setCells gg (m*6) [.int .i64 a0.k,.bool a0.b,.int .i64 a0.n,.string a0.t,.string a0.x,.slice a0.p a0.len a0.cap]=w6 at*
     have acc:OMid base gR pl all.length cl (onm kk) (way++[ks[0]]) m w2 w6:=by
      refine ⟨⟨some ⟨gg,0,none⟩,cap',?_,⟨d++[e0],?_,?_⟩,?_⟩,b6⟩
      ·rw [List.length_append,← HM.out];exact B6
      ·rw [List.map_append,HDV.out];simp [HE0.out.2]
      ·have e6:[e0].flatMap VE.enc=[.int .i64 a0.k,.bool a0.b,.int .i64 a0.n,.string a0.t,.string a0.x,.slice a0.p a0.len a0.cap]:=by simp [VE.enc,HE0.out.1]
       have hlm:(d.flatMap VE.enc).length=m*6:=own3.1
       rw [List.length_append,← HM.out,List.flatMap_append,e6]
       rw [List.take_append_of_le_length (by omega),List.take_of_length_le (by omega)] at hr6
       exact hr6
      ·intro e
       exact hngR (by cases e;rfl)
     have ACC:=Lib.hid acc
     refine wpAnyH_done (by kernel_rfl) ?_ _
     go_wp2_with fail
     go_meet
     case rel=>exact ACC
  case rest=>
   obtain ⟨⟨pw',cw',B6,hd6,hn6⟩,b6⟩:=hcut.out
   have c4:wc.cell? ⟨gR,4,none⟩=some (.int .i64 m):=zab B6 4 rfl
   have f4:wc.frozen? ⟨gR,4,none⟩=false:=za9 B6 _
   have B7:=zaz B6 4 (.int .i64 ((m:Int)+1))
   have o7:=(Only.refl gR wc).setCell 4 none (.int .i64 ((m:Int)+1))
   have e9:IntKind.i64.wrap ((m:Int)+1)=(m:Int)+1:=IntWalk.i64_in _ (by omega)
   have fin:zil base gR pl all.length cl (onm kk) way ks w (.returned (.bool true)) (wc.setCell ⟨gR,4,none⟩ (.int .i64 ((m:Int)+1))):=by
    obtain ⟨d7,e7,o8⟩:=hd6
    have hln:(way++[ks[0]]).length=m+1:=by rw [List.length_append,← HM.out];rfl
    have hbw:Below base w wc:=(HB2.out.mono HBASE0.out.1).trans b6
    refine ⟨zag hbw o7 HBASE0.out.2 (by have:=hbw.size;have:=HBASE0.out.1;omega),.inl ⟨h0k,rfl,⟨⟨pw',cw',?_,⟨d7,e7,zdh o8 o7 hn6⟩,hn6⟩,HBASE0.out.2⟩⟩⟩
    rw [hln] at B7 ⊢
    exact B7
   have FIN:=Lib.hid fin
   clear fin B6 B7 o7 hd6 hn6 b6
   go_wp2_with fail
   go_ret
   exact ⟨ks,HINS.out,FIN.out⟩
end Go.Proofs.YtanbgdhmfjgihaaGreatDoor
