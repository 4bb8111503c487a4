/- Texts of one kind, one behind the other: each says ahead of itself what it shows. -/
import Derived.Test.YtanbgdhmfjgihaaGreatDoorUbd
namespace Go.Proofs.YtanbgdhmfjgihaaGreatDoor
open Go.RowKit
set_option maxHeartbeats 12800000
set_option maxRecDepth 20000
theorem zid (v v2:V6) (u u2:Val) (q q2:List Val) (W:World) (h:Is W v u q) (h2:Is W v2 u2 q2):
 Calls Tryz.prog 76 #[.agg #[.int .i64 v.k,.bool v.b,.int .i64 v.n,.string v.t,.string v.x,.slice v.p v.len v.cap],.agg #[.int .i64 v2.k,.bool v2.b,.int .i64 v2.n,.string v2.t,.string v2.x,.slice v2.p v2.len v2.cap]] W fun e w'=>e=.returned (.bool (za7 u u2))∧Low W.heap.size W w':=by
 obtain ⟨k,b,n,t,x,p,len,cap⟩:=v
 obtain ⟨k2,b2,n2,t2,x2,p2,len2,cap2⟩:=v2
 obtain ⟨e,hq,hf,hl⟩:=h
 obtain ⟨e2,hq2,hf2,hl2⟩:=h2
 simp only at e hq hf hl e2 hq2 hf2 hl2
 subst hq hq2
 rw [e,e2]
 exact sameAtV k b n t x q p cap k2 b2 n2 t2 x2 q2 p2 cap2 W hf hl hl2
theorem znc {W0 W:World} {s:SM} {g k:Nat} {c:CS} (h:At W0 s W g c k) (ok:SMok s) (h1:1≤c.d) {hm:s.num k c.lev c.pos < s.vs.length}:c.val s k=s.vs[s.num k c.lev c.pos]:=by
 unfold CS.val
 rw [List.getElem?_eq_getElem hm,Option.getD_some]
theorem zc1 {l:List Tri3} {s:SM} {b:Nat→Bool} {u:Nat→Val} (hl:zbf l s) (hn:l.length≤65536) (m:Nat) (hm:m≤3) (n:Nat) (hnl:n=(s.ls (ahd b)).length) (h:∀ x,x < n→¬ s.hit (ahd b) b u m x) (hs:∀ v,b v=false→∀ a∈s.vs,za7 a (u v)=true↔a=u v):s.nums b u=[]:=by
 have hk:=zs4 b
 have ok:=hl.ok hn
 unfold SM.nums
 rw [List.filter_eq_nil_iff]
 intro x hx hh
 have hx2:=List.mem_range.1 hx
 rw [List.getElem?_eq_getElem hx2,Option.getD_some] at hh
 have hat:=fun v=>ok.at _ (List.getElem_mem hx2) v
 have hh2:=(zxn hs _ hat).1 hh
 obtain ⟨p,hp,rfl⟩:=List.getElem_of_mem ((hl.nums (ahd b) hk).perm.mem_iff.2 hx)
 refine h p (by omega) fun v hv hb=>?_
 rw [← hh2 v (by omega) hb]
 unfold SM.part SM.val
 rw [s.num_eq _ v p hp hx2]
def zrx (w wB:World) (s:SM) (b:Nat→Bool) (u:Nat→Val) (e:Ending) (w':World):Prop:=∃ p cap,e=.returned (.slice p (s.nums b u).length cap)∧zdq wB p (s.nums b u)∧Below w.heap.size w w'
theorem zei {w wB w':World} {s:SM} {b:Nat→Bool} {u:Nat→Val} (h:s.nums b u=[]) (hb:Below w.heap.size w w'):zrx w wB s b u (.returned (.slice none 0 0)) w':=
 ⟨none,0,by rw [h];rfl,fun hn=>absurd h hn,hb⟩
theorem zzr {W:World} {p:Option Addr} {L:List Nat} (h:zdq W p L) (lo hi cl:Nat) (h1:lo≤hi) (h2:hi≤L.length) (h3:L.length≤cl):
 zdq W (if cl=lo then p else p.map (·.add (lo*1))) ((L.drop lo).take (hi - lo))∧((L.drop lo).take (hi - lo)).length=hi - lo:=by
 refine ⟨fun hne=>?_,by simp only [List.length_take,List.length_drop];omega⟩
 have hlt:lo < hi:=by
  rcases Nat.lt_or_ge lo hi with q | q
  ·exact q
  ·rw [show hi - lo=0 by omega,List.take_zero] at hne
   exact absurd rfl hne
 have hL:L≠[]:=by intro e;rw [e] at h2;simp at h2;omega
 obtain ⟨g,o,rfl,k⟩:=h hL
 rw [if_neg (by omega)]
 refine ⟨g,o+lo,by simp [Addr.add],fun j hj=>?_⟩
 simp only [List.length_take,List.length_drop] at hj
 rw [List.getElem_take,List.getElem_drop,Nat.add_assoc]
 exact k (lo+j) (by omega)
def zqe (w:World) (s:SM) (b:Nat→Bool) (u:Nat→Val) (g C:Nat) (PL:Option Addr) (m:Nat) (wr:World):Prop:=∃ c,zbr w s wr g c (ahd b)∧Have s (ahd b) b u m c∧c.cl=C∧c.pl=PL
theorem CS.go_cl (c:CS) (x:Nat):(c.go x).cl=c.cl:=by unfold CS.go;split <;> rfl
theorem CS.seek_cl (c:CS) (s:SM) (k:Nat) (u:Val):(c.seek s k u).cl=c.cl:=by
 unfold CS.seek
 split
 ·exact c.go_cl _
 ·rfl
theorem CS.opn_cl (c:CS) (s:SM) (k:Nat):(c.opn s k).cl=c.cl:=by
 unfold CS.opn CS.down
 split
 ·split <;> rfl
 ·rfl
theorem zry {s:SM} {k:Nat} {c:CS} (h:Fit s k c) (ok:SMok s) (q:c.on=true):c.val s k∈s.vs:=by
 obtain ⟨h1,hpf⟩:=CS.on_is q
 have hin:=h.in_ h1
 have hn:=h.n
 have hm:=s.num_lt ok k c.lev c.pos (by omega)
 unfold CS.val
 rw [List.getElem?_eq_getElem hm,Option.getD_some]
 exact List.getElem_mem hm
theorem lo_hi {s:SM} {k:Nat} {c:CS} (h:Fit s k c):c.lo≤c.hi s k:=by
 unfold CS.lo CS.hi
 split
 ·exact Nat.zero_le _
 ·exact (c.bot_in s k (h.in_ (by omega)).1).1
set_option maxRecDepth 100000 in
theorem cut73 (p:Option Addr) (n cl lo hi:Nat) (h1:lo≤hi) (h2:hi≤cl) (W:World):(Instr.slice 73 (.slice p n cl) (some (.int .i64 lo)) (some (.int .i64 hi)) none).run Tryz.prog W=.ok (.slice (if cl=lo then p else p.map (·.add (lo*1))) (hi - lo) (cl - lo)) W:=by
 have a1:(0:Int)≤lo:=by omega
 have a2:(lo:Int)≤hi:=by omega
 have a3:(hi:Int)≤cl:=by omega
 go_simp
theorem zzs (sp:Nat) (l:List Tri3) (s:SM) (pv pr:Option Addr) (cv cr:Nat) (pp:Nat→Option Addr) (cc:Nat→Nat) (w wB:World) (h0:zcy w sp s pv pr cv cr pp cc) (hcc:∀ k,k < 6→(s.ls k).length≤cc k) (hl:zbf l s) (hn:l.length≤65536) (hG:Gd w) (hT:Tab w)
 (v0 v1 v2:V6) (u:Nat→Val) (q:Nat→List Val) (i0:Is w v0 (u 0) (q 0)) (i1:Is w v1 (u 1) (q 1)) (i2:Is w v2 (u 2) (q 2)) (b:Nat→Bool) (hb0:b 0=decide (v0.k=0)) (hb1:b 1=decide (v1.k=0)) (hb2:b 2=decide (v2.k=0))
 (hPL:zdq wB (pp (ahd b)) (s.ls (ahd b))) (hs:∀ v,b v=false→∀ a∈s.vs,za7 a (u v)=true↔a=u v):
 Calls Tryz.prog 89 #[.pointer (some ⟨sp,0,none⟩),.agg #[.int .i64 v0.k,.bool v0.b,.int .i64 v0.n,.string v0.t,.string v0.x,.slice v0.p v0.len v0.cap,.int .i64 v1.k,.bool v1.b,.int .i64 v1.n,.string v1.t,.string v1.x,.slice v1.p v1.len v1.cap,.int .i64 v2.k,.bool v2.b,.int .i64 v2.n,.string v2.t,.string v2.x,.slice v2.p v2.len v2.cap]] w (zrx w wB s b u):=by
 have ok:=hl.ok hn
 have so:=hl.so
 have hk:=zs4 b
 obtain ⟨W0,hW0⟩:∃ W0,W0=w.alloc (.cells #[.int .i64 v0.k,.bool v0.b,.int .i64 v0.n,.string v0.t,.string v0.x,.slice v0.p v0.len v0.cap,.int .i64 v1.k,.bool v1.b,.int .i64 v1.n,.string v1.t,.string v1.x,.slice v1.p v1.len v1.cap,.int .i64 v2.k,.bool v2.b,.int .i64 v2.n,.string v2.t,.string v2.x,.slice v2.p v2.len v2.cap] 63):=⟨_,rfl⟩
 have b0:Below w.heap.size w W0:=by rw [hW0];exact zap _ _
 have way0:Way W0 w.heap.size v0 v1 v2:=by rw [hW0];exact zag _ _ rfl
 have A0:=Lib.hid (fun W=>aheadAt v0 v1 v2 b hb0 hb1 hb2 W)
 have C0:=Lib.hid (fun W (hb:Below w.heap.size w W)=>cursorD (W:=w) h0 hb ok so hk)
 have V0:=Lib.hid (fun W=>zn8 v0 (b 0) hb0 W)
 have V1:=Lib.hid (fun W=>zn8 v1 (b 1) hb1 W)
 have V2:=Lib.hid (fun W=>zn8 v2 (b 2) hb2 W)
 have HW:=Lib.hid hW0
 have HB0:=Lib.hid b0
 have HG:=Lib.hid hG
 have HT:=Lib.hid hT
 have HL:=Lib.hid hl
 have HS:=Lib.hid hs
 have I0:=Lib.hid i0
 have I1:=Lib.hid i1
 have I2:=Lib.hid i2
 have HOK:=Lib.hid ok
 have HSO:=Lib.hid so
 have HCC:=Lib.hid (hcc (ahd b) hk)
 have HN:=Lib.hid hn
 have HWAY:=Lib.hid way0
 have HSI:=Lib.hid h0
 clear hW0 b0 hG hT hl hs i0 i1 i2 ok so hb0 hb1 hb2 h0 hcc hn
 go_enter Tryz.func89,Tryz.ntmps89
 go_upto_region 2 with (first
  |((with_reducible refine zbb (.tmp 3) w.heap.size v0 v1 v2 (HW.out ▸ way0) ?_ ?_ ?_ ?_);rfl;rfl;rfl)
  |(go_at_call 115;(rw [← HW.out]);(with_reducible refine (A0.out _).mono ?_);rintro e w1 ⟨rfl,hb1⟩;have HB1:=Lib.hid hb1;clear hb1)
  |(go_at_call 20;(with_reducible refine (C0.out _ (HB0.out.trans (HB1.out.mono HB0.out.size))).mono ?_);rintro e w2 ⟨g,rfl,hb2,hge,hst⟩))
 have y0:Below W0.heap.size W0 w2:=HB1.out.trans (hb2.is.mono HB1.out.size)
 have inv0:zqe w s b u g (cc (ahd b)) (pp (ahd b)) 0 w2:=⟨_,hst,zzp _ _ _ _,rfl,rfl⟩
 have way2:=HWAY.out.below y0
 have HI0:=Lib.hid inv0
 clear inv0 y0 hst hb2 HB1 way0 hge
 have HPL:=Lib.hid hPL
 clear hPL
 generalize cc (ahd b)=C at*
 generalize pp (ahd b)=PL at*
 go_upto_region 5 with ((with_reducible refine zbb (.tmp 3) w.heap.size v0 v1 v2 way2 ?_ ?_ ?_ ?_);rfl;rfl;rfl)
 clear way2
 go_loopg [20] 3 (fun gg s20 wr=>∃ i:Nat,i+gg=3∧s20=.int .i64 i∧Hid (zqe w s b u g C PL i wr))
 case atStart=>exact ⟨0,rfl,rfl,HI0⟩
 case round=>
  clear HI0
  obtain ⟨i,hig,rfl,HI⟩:=hrel
  obtain rfl | rfl | rfl | rfl:i=0∨i=1∨i=2∨i=3:=by omega
  ·obtain ⟨c,st,hv,hcl,hpl⟩:=HI.out
   have hix:=fun W=>zfr v0 v1 v2 W
   go_upto_region 7 with ((with_reducible refine zal (k':=v0.k) (b':=v0.b) (n':=v0.n) (t':=v0.t) (x':=v0.x) (p':=v0.p) (len':=v0.len) (cap':=v0.cap) (.tmp 8) (.tmp 22) wr.heap.size (zah _ rfl) ?_ ?_ ?_ ?_ ?_);rfl;rfl;rfl;rfl;intro w5 hvw5 uw5)
   have z5:Below wr.heap.size wr w5:=zai (zap wr _) hvw5 (Nat.le_refl _) (by simp)
   clear hvw5 hix
   cases hbi:b 0 with
   | true=>
     rw [hbi] at V0
     go_wp2_with (first
      |((with_reducible refine zaa (.tmp 8) wr.heap.size uw5 ?_ ?_ ?_ ?_);rfl;rfl;rfl)
      |(go_at_call 116;(with_reducible refine (V0.out _).mono ?_);rintro e w7 ⟨rfl,hb7⟩))
     have z7:Below wr.heap.size wr w7:=z5.trans (hb7.mono z5.size)
     have HIN:Hid (zqe w s b u g C PL 1 w7):=Lib.hid ⟨c,st.bel z7,zoa hbi hv,hcl,hpl⟩
     clear st hv z5 z7 hb7 uw5 HI hcl hpl
     go_roundg (gk - 1)
     case measure=>omega
     case rel=>exact ⟨1,by omega,by go_num,HIN⟩
   | false=>
     rw [hbi] at V0
     go_upto_region 8 with (first
      |((with_reducible refine zaa (.tmp 8) wr.heap.size uw5 ?_ ?_ ?_ ?_);rfl;rfl;rfl)
      |(go_at_call 116;(with_reducible refine (V0.out _).mono ?_);rintro e w7 ⟨rfl,hb7⟩))
     have z7:Below wr.heap.size wr w7:=z5.trans (hb7.mono z5.size)
     have HCL:=Lib.hid hcl
     have HPP:=Lib.hid hpl
     have st7:zbr w s w7.drew g c (ahd b):=st.bel z7.drew
     have S7:Six w7.drew wr.heap.size v0.k v0.b v0.n v0.t v0.x v0.p v0.len v0.cap:=uw5.below hb7.drew
     have hne:wr.heap.size≠g:=by have:=st.at_.B.lt;omega
     have hd3:c.d < 3:=by rw [hv.d];have:=zs7 b 0;omega
     have hlv:zus (ahd b) c.d=0:=by rw [hv.d];exact zrw b 0 (by omega) hbi
     have hcn:c.n=(s.ls (ahd b)).length:=st.fit.n
     have ho:=zzb st7
     clear z5 hb7 uw5 st HI hcl hpl
     cases qo:c.opens s (ahd b) with
     | false=>
       rw [qo] at ho
       have HO:=Lib.hid ho
       have HE:=Lib.hid (zc1 HL.out HN.out 1 (by omega) c.n hcn (zlo hd3 qo hv hbi) HS.out)
       clear ho
       refine wp_region_held_drew (S:=fun W=>Six W wr.heap.size v0.k v0.b v0.n v0.t v0.x v0.p v0.len v0.cap) (by kernel_rfl) S7 (fun _=>?_)
       refine tg (i:=0) (.pointer (some ⟨g,0,none⟩)) rfl S7 ?_
       refine tr 1 rfl (fun K hK=>?_)
       rw [if_pos (by rfl)]
       go_simp
       refine (HO.out).mono ?_
       rintro e0 w8 ⟨rfl,ho8,hc8⟩
       have st8:=st7.opn ho8 hc8
       have S8:=S7.only ho8 hne
       clear ho8 hc8
       refine hK.out _ _ S8 (fun _=>?_)
       clear hK K
       try simp only [putS]
       refine tg (i:=2) (.bool true) rfl S8 ?_
       refine tg (i:=3) (.bool true) rfl S8 ?_
       refine tn (i:=4) rfl S8 ?_
       refine tn (i:=5) rfl S8 ?_
       refine tr 6 rfl (fun K hK=>?_)
       rw [if_neg (by exact Bool.eq_false_iff.1 rfl)]
       refine hK.out _ _ S8 (fun _=>?_)
       clear hK K
       try simp only [putS]
       refine tn (i:=7) rfl S8 ?_
       refine tg (i:=8) (.bool true) rfl S8 ?_
       refine tg (i:=9) (.bool true) rfl S8 ?_
       refine tn (i:=10) rfl S8 ?_
       refine tn (i:=11) rfl S8 ?_
       refine tn (i:=15) rfl S8 ?_
       refine tr 12 rfl (fun K hK=>?_)
       rw [if_neg (by exact Bool.eq_false_iff.1 rfl)]
       refine hK.out _ _ S8 (fun _=>?_)
       clear hK K
       try simp only [putS]
       refine tn (i:=13) rfl S8 ?_
       refine tr 14 rfl (fun K hK=>?_)
       rw [if_neg (by exact Bool.eq_false_iff.1 rfl)]
       refine hK.out _ _ S8 (fun _=>?_)
       clear hK K
       try simp only [putS]
       refine tr 16 rfl (fun K hK=>?_)
       rw [if_neg (by exact Bool.eq_false_iff.1 rfl)]
       refine hK.out _ _ S8 (fun _=>?_)
       clear hK K
       try simp only [putS]
       refine tn (i:=17) rfl S8 ?_
       refine tg (i:=18) (.bool true) rfl S8 ?_
       refine wpAnyH_done (by kernel_rfl) ?_ _
       have HF:=Lib.hid (zei (wB:=wB) HE.out (st8.at_.b))
       clear st8 S8 st7 S7 z7 hv
       go_wp2_with fail
       go_ret
       exact HF.out
     | true=>
       obtain ⟨k1,k2,k3⟩:=zlp st7.fit HOK.out HSO.out hk hv hbi hlv qo
       rw [qo] at ho
       have HO:=Lib.hid ho
       clear ho
       cases qs:((c.opn s (ahd b)).seek s (ahd b) (u 0)).on with
       | false=>
         have HE:=Lib.hid (zc1 HL.out HN.out 1 (by omega) c.n hcn (k1 qs) HS.out)
         clear k1 k2 k3
         refine wp_region_held_drew (S:=fun W=>Six W wr.heap.size v0.k v0.b v0.n v0.t v0.x v0.p v0.len v0.cap) (by kernel_rfl) S7 (fun _=>?_)
         refine tg (i:=0) (.pointer (some ⟨g,0,none⟩)) rfl S7 ?_
         refine tr 1 rfl (fun K hK=>?_)
         rw [if_pos (by rfl)]
         go_simp
         refine (HO.out).mono ?_
         rintro e0 w8 ⟨rfl,ho8,hc8⟩
         have st8:=st7.opn ho8 hc8
         have S8:=S7.only ho8 hne
         clear ho8 hc8
         refine hK.out _ _ S8 (fun _=>?_)
         clear hK K
         try simp only [putS]
         refine tg (i:=2) (.bool false) rfl S8 ?_
         refine tg (i:=3) (.bool false) rfl S8 ?_
         refine tg (i:=4) (.pointer (some ⟨g,0,none⟩)) rfl S8 ?_
         refine tk (i:=5) rfl (yieldsIf_load_mid (by rfl) 39 (.tmp 8) rfl wr.heap.size 0 rfl [.int .i64 v0.k,.bool v0.b,.int .i64 v0.n,.string v0.t,.string v0.x,.slice v0.p v0.len v0.cap] _ (fun W h=>zb3 h.c0 h.c1 h.c2 h.c3 h.c4 h.c5) Tryz.underlying39 rfl zav) S8 ?_
         have hs8:=zny st8 (HG.out.below st8.at_.b) (HT.out.below st8.at_.b) v0 (u 0) (q 0) (I0.out.below st8.at_.b)
         rw [qs] at hs8
         refine tr 6 rfl (fun K hK=>?_)
         rw [if_pos (by rfl)]
         go_simp
         refine (hs8).mono ?_
         rintro e0 w9 ⟨rfl,ho9,hc9⟩
         have st9:=st8.seek (u 0) ho9 hc9
         have S9:=S8.only ho9 hne
         clear ho9 hc9
         refine hK.out _ _ S9 (fun _=>?_)
         clear hK K
         try simp only [putS]
         refine tg (i:=7) (.bool true) rfl S9 ?_
         refine tg (i:=8) (.bool true) rfl S9 ?_
         refine tg (i:=9) (.bool true) rfl S9 ?_
         refine tn (i:=10) rfl S9 ?_
         refine tn (i:=11) rfl S9 ?_
         refine tn (i:=15) rfl S9 ?_
         refine tr 12 rfl (fun K hK=>?_)
         rw [if_neg (by exact Bool.eq_false_iff.1 rfl)]
         refine hK.out _ _ S9 (fun _=>?_)
         clear hK K
         try simp only [putS]
         refine tn (i:=13) rfl S9 ?_
         refine tr 14 rfl (fun K hK=>?_)
         rw [if_neg (by exact Bool.eq_false_iff.1 rfl)]
         refine hK.out _ _ S9 (fun _=>?_)
         clear hK K
         try simp only [putS]
         refine tr 16 rfl (fun K hK=>?_)
         rw [if_neg (by exact Bool.eq_false_iff.1 rfl)]
         refine hK.out _ _ S9 (fun _=>?_)
         clear hK K
         try simp only [putS]
         refine tn (i:=17) rfl S9 ?_
         refine tg (i:=18) (.bool true) rfl S9 ?_
         refine wpAnyH_done (by kernel_rfl) ?_ _
         have HF:=Lib.hid (zei (wB:=wB) HE.out (st9.at_.b))
         clear st8 S8 st9 S9 st7 S7 z7 hv
         go_wp2_with fail
         go_ret
         exact HF.out
       | true=>
         cases qm:za7 (((c.opn s (ahd b)).seek s (ahd b) (u 0)).val s (ahd b)) (u 0) with
         | false=>
           have HE:=Lib.hid (zc1 HL.out HN.out 1 (by omega) c.n hcn (k2 qs (fun e=>by rw [e,zc5] at qm;cases qm)) HS.out)
           clear k1 k2 k3
           refine wp_region_held_drew (S:=fun W=>Six W wr.heap.size v0.k v0.b v0.n v0.t v0.x v0.p v0.len v0.cap) (by kernel_rfl) S7 (fun _=>?_)
           refine tg (i:=0) (.pointer (some ⟨g,0,none⟩)) rfl S7 ?_
           refine tr 1 rfl (fun K hK=>?_)
           rw [if_pos (by rfl)]
           go_simp
           refine (HO.out).mono ?_
           rintro e0 w8 ⟨rfl,ho8,hc8⟩
           have st8:=st7.opn ho8 hc8
           have S8:=S7.only ho8 hne
           clear ho8 hc8
           refine hK.out _ _ S8 (fun _=>?_)
           clear hK K
           try simp only [putS]
           refine tg (i:=2) (.bool false) rfl S8 ?_
           refine tg (i:=3) (.bool false) rfl S8 ?_
           refine tg (i:=4) (.pointer (some ⟨g,0,none⟩)) rfl S8 ?_
           refine tk (i:=5) rfl (yieldsIf_load_mid (by rfl) 39 (.tmp 8) rfl wr.heap.size 0 rfl [.int .i64 v0.k,.bool v0.b,.int .i64 v0.n,.string v0.t,.string v0.x,.slice v0.p v0.len v0.cap] _ (fun W h=>zb3 h.c0 h.c1 h.c2 h.c3 h.c4 h.c5) Tryz.underlying39 rfl zav) S8 ?_
           have hs8:=zny st8 (HG.out.below st8.at_.b) (HT.out.below st8.at_.b) v0 (u 0) (q 0) (I0.out.below st8.at_.b)
           rw [qs] at hs8
           refine tr 6 rfl (fun K hK=>?_)
           rw [if_pos (by rfl)]
           go_simp
           refine (hs8).mono ?_
           rintro e0 w9 ⟨rfl,ho9,hc9⟩
           have st9:=st8.seek (u 0) ho9 hc9
           have S9:=S8.only ho9 hne
           clear ho9 hc9
           refine hK.out _ _ S9 (fun _=>?_)
           clear hK K
           try simp only [putS]
           refine tg (i:=7) (.bool false) rfl S9 ?_
           refine tg (i:=8) (.bool false) rfl S9 ?_
           refine tg (i:=9) (.bool false) rfl S9 ?_
           refine tg (i:=10) (.pointer (some ⟨g,0,none⟩)) rfl S9 ?_
           refine tg (i:=11) (.pointer (some ⟨g,0,none⟩)) rfl S9 ?_
           refine tk (i:=15) rfl (yieldsIf_load_mid (by rfl) 39 (.tmp 8) rfl wr.heap.size 0 rfl [.int .i64 v0.k,.bool v0.b,.int .i64 v0.n,.string v0.t,.string v0.x,.slice v0.p v0.len v0.cap] _ (fun W h=>zb3 h.c0 h.c1 h.c2 h.c3 h.c4 h.c5) Tryz.underlying39 rfl zav) S9 ?_
           obtain ⟨h1,hpf⟩:=CS.on_is qs
           have hin9:=st9.fit.in_ h1
           obtain ⟨vv,qv,iv,hvc⟩:=zil st9.at_ st9.ok h1 st9.fit.d3 ((c.opn s (ahd b)).seek s (ahd b) (u 0)).pos (by omega)
           have hsm:=fun W (hb:Below w9.heap.size w9 W)=>zid vv v0 _ (u 0) qv (q 0) W (iv.below hb) (I0.out.below (zak st9.at_.b hb st9.at_.b.size))
           rw [← znc st9.at_ st9.ok h1,qm] at hsm
           have hh9:=zlf st9.at_ h1 st9.fit.d3
           have hfl:=fun W=>ze8 (((c.opn s (ahd b)).seek s (ahd b) (u 0)).pos) (((c.opn s (ahd b)).seek s (ahd b) (u 0)).fin) W
           refine tr 12 rfl (fun K hK=>?_)
           rw [if_pos (by rfl)]
           go_simp
           refine (hh9).mono ?_
           rintro e0 w10 ⟨rfl,hb10⟩
           have st10:=st9.low hb10
           have S10:=S9.below hb10.is
           refine hK.out _ _ S10 (fun _=>?_)
           clear hK K
           try simp only [putS]
           refine tg (i:=13) (.int .i64 ((c.opn s (ahd b)).seek s (ahd b) (u 0)).pos) rfl S10 ?_
           refine tr 14 rfl (fun K hK=>?_)
           rw [if_pos (by rfl)]
           go_simp
           refine (hvc _ hb10).mono ?_
           rintro e0 w11 ⟨rfl,hb11⟩
           have hb91:=zad hb10 hb11 hb10.size
           have st11:=st10.low hb11
           have S11:=S10.below hb11.is
           refine hK.out _ _ S11 (fun _=>?_)
           clear hK K
           try simp only [putS]
           refine tr 16 rfl (fun K hK=>?_)
           rw [if_pos (by rfl)]
           go_simp
           refine (hsm _ hb91.is).mono ?_
           rintro e0 w12 ⟨rfl,hb12⟩
           have st12:=st11.low hb12
           have S12:=S11.below hb12.is
           refine hK.out _ _ S12 (fun _=>?_)
           clear hK K
           try simp only [putS]
           refine tg (i:=17) (.bool true) rfl S12 ?_
           refine tg (i:=18) (.bool true) rfl S12 ?_
           refine wpAnyH_done (by kernel_rfl) ?_ _
           have HF:=Lib.hid (zei (wB:=wB) HE.out (st12.at_.b))
           clear st8 S8 st9 S9 st10 S10 st11 S11 st12 S12 st7 S7 z7 hv hb10 hb11 hb12 hb91 iv hvc hsm hh9 hfl hs8
           go_wp2_with fail
           go_ret
           exact HF.out
         | true=>
           have hkv:((c.opn s (ahd b)).seek s (ahd b) (u 0)).val s (ahd b)=u 0:=by
            refine (HS.out 0 hbi _ ?_).1 qm
            exact zry (st7.fit.opn.seek _) HOK.out qs
           have HH:=Lib.hid (k3 qs hkv)
           clear k1 k2 k3 hkv
           refine wp_region_held_drew (S:=fun W=>Six W wr.heap.size v0.k v0.b v0.n v0.t v0.x v0.p v0.len v0.cap) (by kernel_rfl) S7 (fun _=>?_)
           refine tg (i:=0) (.pointer (some ⟨g,0,none⟩)) rfl S7 ?_
           refine tr 1 rfl (fun K hK=>?_)
           rw [if_pos (by rfl)]
           go_simp
           refine (HO.out).mono ?_
           rintro e0 w8 ⟨rfl,ho8,hc8⟩
           have st8:=st7.opn ho8 hc8
           have S8:=S7.only ho8 hne
           clear ho8 hc8
           refine hK.out _ _ S8 (fun _=>?_)
           clear hK K
           try simp only [putS]
           refine tg (i:=2) (.bool false) rfl S8 ?_
           refine tg (i:=3) (.bool false) rfl S8 ?_
           refine tg (i:=4) (.pointer (some ⟨g,0,none⟩)) rfl S8 ?_
           refine tk (i:=5) rfl (yieldsIf_load_mid (by rfl) 39 (.tmp 8) rfl wr.heap.size 0 rfl [.int .i64 v0.k,.bool v0.b,.int .i64 v0.n,.string v0.t,.string v0.x,.slice v0.p v0.len v0.cap] _ (fun W h=>zb3 h.c0 h.c1 h.c2 h.c3 h.c4 h.c5) Tryz.underlying39 rfl zav) S8 ?_
           have hs8:=zny st8 (HG.out.below st8.at_.b) (HT.out.below st8.at_.b) v0 (u 0) (q 0) (I0.out.below st8.at_.b)
           rw [qs] at hs8
           refine tr 6 rfl (fun K hK=>?_)
           rw [if_pos (by rfl)]
           go_simp
           refine (hs8).mono ?_
           rintro e0 w9 ⟨rfl,ho9,hc9⟩
           have st9:=st8.seek (u 0) ho9 hc9
           have S9:=S8.only ho9 hne
           clear ho9 hc9
           refine hK.out _ _ S9 (fun _=>?_)
           clear hK K
           try simp only [putS]
           refine tg (i:=7) (.bool false) rfl S9 ?_
           refine tg (i:=8) (.bool false) rfl S9 ?_
           refine tg (i:=9) (.bool false) rfl S9 ?_
           refine tg (i:=10) (.pointer (some ⟨g,0,none⟩)) rfl S9 ?_
           refine tg (i:=11) (.pointer (some ⟨g,0,none⟩)) rfl S9 ?_
           refine tk (i:=15) rfl (yieldsIf_load_mid (by rfl) 39 (.tmp 8) rfl wr.heap.size 0 rfl [.int .i64 v0.k,.bool v0.b,.int .i64 v0.n,.string v0.t,.string v0.x,.slice v0.p v0.len v0.cap] _ (fun W h=>zb3 h.c0 h.c1 h.c2 h.c3 h.c4 h.c5) Tryz.underlying39 rfl zav) S9 ?_
           obtain ⟨h1,hpf⟩:=CS.on_is qs
           have hin9:=st9.fit.in_ h1
           obtain ⟨vv,qv,iv,hvc⟩:=zil st9.at_ st9.ok h1 st9.fit.d3 ((c.opn s (ahd b)).seek s (ahd b) (u 0)).pos (by omega)
           have hsm:=fun W (hb:Below w9.heap.size w9 W)=>zid vv v0 _ (u 0) qv (q 0) W (iv.below hb) (I0.out.below (zak st9.at_.b hb st9.at_.b.size))
           rw [← znc st9.at_ st9.ok h1,qm] at hsm
           have hh9:=zlf st9.at_ h1 st9.fit.d3
           have hfl:=fun W=>ze8 (((c.opn s (ahd b)).seek s (ahd b) (u 0)).pos) (((c.opn s (ahd b)).seek s (ahd b) (u 0)).fin) W
           refine tr 12 rfl (fun K hK=>?_)
           rw [if_pos (by rfl)]
           go_simp
           refine (hh9).mono ?_
           rintro e0 w10 ⟨rfl,hb10⟩
           have st10:=st9.low hb10
           have S10:=S9.below hb10.is
           refine hK.out _ _ S10 (fun _=>?_)
           clear hK K
           try simp only [putS]
           refine tg (i:=13) (.int .i64 ((c.opn s (ahd b)).seek s (ahd b) (u 0)).pos) rfl S10 ?_
           refine tr 14 rfl (fun K hK=>?_)
           rw [if_pos (by rfl)]
           go_simp
           refine (hvc _ hb10).mono ?_
           rintro e0 w11 ⟨rfl,hb11⟩
           have hb91:=zad hb10 hb11 hb10.size
           have st11:=st10.low hb11
           have S11:=S10.below hb11.is
           refine hK.out _ _ S11 (fun _=>?_)
           clear hK K
           try simp only [putS]
           refine tr 16 rfl (fun K hK=>?_)
           rw [if_pos (by rfl)]
           go_simp
           refine (hsm _ hb91.is).mono ?_
           rintro e0 w12 ⟨rfl,hb12⟩
           have st12:=st11.low hb12
           have S12:=S11.below hb12.is
           refine hK.out _ _ S12 (fun _=>?_)
           clear hK K
           try simp only [putS]
           refine tg (i:=17) (.bool false) rfl S12 ?_
           refine tg (i:=18) (.bool false) rfl S12 ?_
           refine wpAnyH_done (by kernel_rfl) ?_ _
           have HIN:Hid (zqe w s b u g C PL 1 w12):=Lib.hid ⟨_,st12,HH.out,by rw [CS.seek_cl,CS.opn_cl];exact HCL.out,by rw [(CS.seek_alike _ _ _ _).pl,(CS.opn_alike _ _ _).pl];exact HPP.out⟩
           clear st8 S8 st9 S9 st10 S10 st11 S11 st12 S12 st7 S7 z7 hv hb10 hb11 hb12 hb91 iv hvc hsm hh9 hfl hs8
           go_wp2_with fail
           go_roundg (gk - 1)
           case measure=>omega
           case rel=>exact ⟨1,by omega,by go_num,HIN⟩
  ·obtain ⟨c,st,hv,hcl,hpl⟩:=HI.out
   have hix:=fun W=>zfs v0 v1 v2 W
   go_upto_region 7 with ((with_reducible refine zal (k':=v1.k) (b':=v1.b) (n':=v1.n) (t':=v1.t) (x':=v1.x) (p':=v1.p) (len':=v1.len) (cap':=v1.cap) (.tmp 8) (.tmp 22) wr.heap.size (zah _ rfl) ?_ ?_ ?_ ?_ ?_);rfl;rfl;rfl;rfl;intro w5 hvw5 uw5)
   have z5:Below wr.heap.size wr w5:=zai (zap wr _) hvw5 (Nat.le_refl _) (by simp)
   clear hvw5 hix
   cases hbi:b 1 with
   | true=>
     rw [hbi] at V1
     go_wp2_with (first
      |((with_reducible refine zaa (.tmp 8) wr.heap.size uw5 ?_ ?_ ?_ ?_);rfl;rfl;rfl)
      |(go_at_call 116;(with_reducible refine (V1.out _).mono ?_);rintro e w7 ⟨rfl,hb7⟩))
     have z7:Below wr.heap.size wr w7:=z5.trans (hb7.mono z5.size)
     have HIN:Hid (zqe w s b u g C PL 2 w7):=Lib.hid ⟨c,st.bel z7,zoa hbi hv,hcl,hpl⟩
     clear st hv z5 z7 hb7 uw5 HI hcl hpl
     go_roundg (gk - 1)
     case measure=>omega
     case rel=>exact ⟨2,by omega,by go_num,HIN⟩
   | false=>
     rw [hbi] at V1
     go_upto_region 8 with (first
      |((with_reducible refine zaa (.tmp 8) wr.heap.size uw5 ?_ ?_ ?_ ?_);rfl;rfl;rfl)
      |(go_at_call 116;(with_reducible refine (V1.out _).mono ?_);rintro e w7 ⟨rfl,hb7⟩))
     have z7:Below wr.heap.size wr w7:=z5.trans (hb7.mono z5.size)
     have HCL:=Lib.hid hcl
     have HPP:=Lib.hid hpl
     have st7:zbr w s w7.drew g c (ahd b):=st.bel z7.drew
     have S7:Six w7.drew wr.heap.size v1.k v1.b v1.n v1.t v1.x v1.p v1.len v1.cap:=uw5.below hb7.drew
     have hne:wr.heap.size≠g:=by have:=st.at_.B.lt;omega
     have hd3:c.d < 3:=by rw [hv.d];have:=zs7 b 1;omega
     have hlv:zus (ahd b) c.d=1:=by rw [hv.d];exact zrw b 1 (by omega) hbi
     have hcn:c.n=(s.ls (ahd b)).length:=st.fit.n
     have ho:=zzb st7
     clear z5 hb7 uw5 st HI hcl hpl
     cases qo:c.opens s (ahd b) with
     | false=>
       rw [qo] at ho
       have HO:=Lib.hid ho
       have HE:=Lib.hid (zc1 HL.out HN.out 2 (by omega) c.n hcn (zlo hd3 qo hv hbi) HS.out)
       clear ho
       refine wp_region_held_drew (S:=fun W=>Six W wr.heap.size v1.k v1.b v1.n v1.t v1.x v1.p v1.len v1.cap) (by kernel_rfl) S7 (fun _=>?_)
       refine tg (i:=0) (.pointer (some ⟨g,0,none⟩)) rfl S7 ?_
       refine tr 1 rfl (fun K hK=>?_)
       rw [if_pos (by rfl)]
       go_simp
       refine (HO.out).mono ?_
       rintro e0 w8 ⟨rfl,ho8,hc8⟩
       have st8:=st7.opn ho8 hc8
       have S8:=S7.only ho8 hne
       clear ho8 hc8
       refine hK.out _ _ S8 (fun _=>?_)
       clear hK K
       try simp only [putS]
       refine tg (i:=2) (.bool true) rfl S8 ?_
       refine tg (i:=3) (.bool true) rfl S8 ?_
       refine tn (i:=4) rfl S8 ?_
       refine tn (i:=5) rfl S8 ?_
       refine tr 6 rfl (fun K hK=>?_)
       rw [if_neg (by exact Bool.eq_false_iff.1 rfl)]
       refine hK.out _ _ S8 (fun _=>?_)
       clear hK K
       try simp only [putS]
       refine tn (i:=7) rfl S8 ?_
       refine tg (i:=8) (.bool true) rfl S8 ?_
       refine tg (i:=9) (.bool true) rfl S8 ?_
       refine tn (i:=10) rfl S8 ?_
       refine tn (i:=11) rfl S8 ?_
       refine tn (i:=15) rfl S8 ?_
       refine tr 12 rfl (fun K hK=>?_)
       rw [if_neg (by exact Bool.eq_false_iff.1 rfl)]
       refine hK.out _ _ S8 (fun _=>?_)
       clear hK K
       try simp only [putS]
       refine tn (i:=13) rfl S8 ?_
       refine tr 14 rfl (fun K hK=>?_)
       rw [if_neg (by exact Bool.eq_false_iff.1 rfl)]
       refine hK.out _ _ S8 (fun _=>?_)
       clear hK K
       try simp only [putS]
       refine tr 16 rfl (fun K hK=>?_)
       rw [if_neg (by exact Bool.eq_false_iff.1 rfl)]
       refine hK.out _ _ S8 (fun _=>?_)
       clear hK K
       try simp only [putS]
       refine tn (i:=17) rfl S8 ?_
       refine tg (i:=18) (.bool true) rfl S8 ?_
       refine wpAnyH_done (by kernel_rfl) ?_ _
       have HF:=Lib.hid (zei (wB:=wB) HE.out (st8.at_.b))
       clear st8 S8 st7 S7 z7 hv
       go_wp2_with fail
       go_ret
       exact HF.out
     | true=>
       obtain ⟨k1,k2,k3⟩:=zlp st7.fit HOK.out HSO.out hk hv hbi hlv qo
       rw [qo] at ho
       have HO:=Lib.hid ho
       clear ho
       cases qs:((c.opn s (ahd b)).seek s (ahd b) (u 1)).on with
       | false=>
         have HE:=Lib.hid (zc1 HL.out HN.out 2 (by omega) c.n hcn (k1 qs) HS.out)
         clear k1 k2 k3
         refine wp_region_held_drew (S:=fun W=>Six W wr.heap.size v1.k v1.b v1.n v1.t v1.x v1.p v1.len v1.cap) (by kernel_rfl) S7 (fun _=>?_)
         refine tg (i:=0) (.pointer (some ⟨g,0,none⟩)) rfl S7 ?_
         refine tr 1 rfl (fun K hK=>?_)
         rw [if_pos (by rfl)]
         go_simp
         refine (HO.out).mono ?_
         rintro e0 w8 ⟨rfl,ho8,hc8⟩
         have st8:=st7.opn ho8 hc8
         have S8:=S7.only ho8 hne
         clear ho8 hc8
         refine hK.out _ _ S8 (fun _=>?_)
         clear hK K
         try simp only [putS]
         refine tg (i:=2) (.bool false) rfl S8 ?_
         refine tg (i:=3) (.bool false) rfl S8 ?_
         refine tg (i:=4) (.pointer (some ⟨g,0,none⟩)) rfl S8 ?_
         refine tk (i:=5) rfl (yieldsIf_load_mid (by rfl) 39 (.tmp 8) rfl wr.heap.size 0 rfl [.int .i64 v1.k,.bool v1.b,.int .i64 v1.n,.string v1.t,.string v1.x,.slice v1.p v1.len v1.cap] _ (fun W h=>zb3 h.c0 h.c1 h.c2 h.c3 h.c4 h.c5) Tryz.underlying39 rfl zav) S8 ?_
         have hs8:=zny st8 (HG.out.below st8.at_.b) (HT.out.below st8.at_.b) v1 (u 1) (q 1) (I1.out.below st8.at_.b)
         rw [qs] at hs8
         refine tr 6 rfl (fun K hK=>?_)
         rw [if_pos (by rfl)]
         go_simp
         refine (hs8).mono ?_
         rintro e0 w9 ⟨rfl,ho9,hc9⟩
         have st9:=st8.seek (u 1) ho9 hc9
         have S9:=S8.only ho9 hne
         clear ho9 hc9
         refine hK.out _ _ S9 (fun _=>?_)
         clear hK K
         try simp only [putS]
         refine tg (i:=7) (.bool true) rfl S9 ?_
         refine tg (i:=8) (.bool true) rfl S9 ?_
         refine tg (i:=9) (.bool true) rfl S9 ?_
         refine tn (i:=10) rfl S9 ?_
         refine tn (i:=11) rfl S9 ?_
         refine tn (i:=15) rfl S9 ?_
         refine tr 12 rfl (fun K hK=>?_)
         rw [if_neg (by exact Bool.eq_false_iff.1 rfl)]
         refine hK.out _ _ S9 (fun _=>?_)
         clear hK K
         try simp only [putS]
         refine tn (i:=13) rfl S9 ?_
         refine tr 14 rfl (fun K hK=>?_)
         rw [if_neg (by exact Bool.eq_false_iff.1 rfl)]
         refine hK.out _ _ S9 (fun _=>?_)
         clear hK K
         try simp only [putS]
         refine tr 16 rfl (fun K hK=>?_)
         rw [if_neg (by exact Bool.eq_false_iff.1 rfl)]
         refine hK.out _ _ S9 (fun _=>?_)
         clear hK K
         try simp only [putS]
         refine tn (i:=17) rfl S9 ?_
         refine tg (i:=18) (.bool true) rfl S9 ?_
         refine wpAnyH_done (by kernel_rfl) ?_ _
         have HF:=Lib.hid (zei (wB:=wB) HE.out (st9.at_.b))
         clear st8 S8 st9 S9 st7 S7 z7 hv
         go_wp2_with fail
         go_ret
         exact HF.out
       | true=>
         cases qm:za7 (((c.opn s (ahd b)).seek s (ahd b) (u 1)).val s (ahd b)) (u 1) with
         | false=>
           have HE:=Lib.hid (zc1 HL.out HN.out 2 (by omega) c.n hcn (k2 qs (fun e=>by rw [e,zc5] at qm;cases qm)) HS.out)
           clear k1 k2 k3
           refine wp_region_held_drew (S:=fun W=>Six W wr.heap.size v1.k v1.b v1.n v1.t v1.x v1.p v1.len v1.cap) (by kernel_rfl) S7 (fun _=>?_)
           refine tg (i:=0) (.pointer (some ⟨g,0,none⟩)) rfl S7 ?_
           refine tr 1 rfl (fun K hK=>?_)
           rw [if_pos (by rfl)]
           go_simp
           refine (HO.out).mono ?_
           rintro e0 w8 ⟨rfl,ho8,hc8⟩
           have st8:=st7.opn ho8 hc8
           have S8:=S7.only ho8 hne
           clear ho8 hc8
           refine hK.out _ _ S8 (fun _=>?_)
           clear hK K
           try simp only [putS]
           refine tg (i:=2) (.bool false) rfl S8 ?_
           refine tg (i:=3) (.bool false) rfl S8 ?_
           refine tg (i:=4) (.pointer (some ⟨g,0,none⟩)) rfl S8 ?_
           refine tk (i:=5) rfl (yieldsIf_load_mid (by rfl) 39 (.tmp 8) rfl wr.heap.size 0 rfl [.int .i64 v1.k,.bool v1.b,.int .i64 v1.n,.string v1.t,.string v1.x,.slice v1.p v1.len v1.cap] _ (fun W h=>zb3 h.c0 h.c1 h.c2 h.c3 h.c4 h.c5) Tryz.underlying39 rfl zav) S8 ?_
           have hs8:=zny st8 (HG.out.below st8.at_.b) (HT.out.below st8.at_.b) v1 (u 1) (q 1) (I1.out.below st8.at_.b)
           rw [qs] at hs8
           refine tr 6 rfl (fun K hK=>?_)
           rw [if_pos (by rfl)]
           go_simp
           refine (hs8).mono ?_
           rintro e0 w9 ⟨rfl,ho9,hc9⟩
           have st9:=st8.seek (u 1) ho9 hc9
           have S9:=S8.only ho9 hne
           clear ho9 hc9
           refine hK.out _ _ S9 (fun _=>?_)
           clear hK K
           try simp only [putS]
           refine tg (i:=7) (.bool false) rfl S9 ?_
           refine tg (i:=8) (.bool false) rfl S9 ?_
           refine tg (i:=9) (.bool false) rfl S9 ?_
           refine tg (i:=10) (.pointer (some ⟨g,0,none⟩)) rfl S9 ?_
           refine tg (i:=11) (.pointer (some ⟨g,0,none⟩)) rfl S9 ?_
           refine tk (i:=15) rfl (yieldsIf_load_mid (by rfl) 39 (.tmp 8) rfl wr.heap.size 0 rfl [.int .i64 v1.k,.bool v1.b,.int .i64 v1.n,.string v1.t,.string v1.x,.slice v1.p v1.len v1.cap] _ (fun W h=>zb3 h.c0 h.c1 h.c2 h.c3 h.c4 h.c5) Tryz.underlying39 rfl zav) S9 ?_
           obtain ⟨h1,hpf⟩:=CS.on_is qs
           have hin9:=st9.fit.in_ h1
           obtain ⟨vv,qv,iv,hvc⟩:=zil st9.at_ st9.ok h1 st9.fit.d3 ((c.opn s (ahd b)).seek s (ahd b) (u 1)).pos (by omega)
           have hsm:=fun W (hb:Below w9.heap.size w9 W)=>zid vv v1 _ (u 1) qv (q 1) W (iv.below hb) (I1.out.below (zak st9.at_.b hb st9.at_.b.size))
           rw [← znc st9.at_ st9.ok h1,qm] at hsm
           have hh9:=zlf st9.at_ h1 st9.fit.d3
           have hfl:=fun W=>ze8 (((c.opn s (ahd b)).seek s (ahd b) (u 1)).pos) (((c.opn s (ahd b)).seek s (ahd b) (u 1)).fin) W
           refine tr 12 rfl (fun K hK=>?_)
           rw [if_pos (by rfl)]
           go_simp
           refine (hh9).mono ?_
           rintro e0 w10 ⟨rfl,hb10⟩
           have st10:=st9.low hb10
           have S10:=S9.below hb10.is
           refine hK.out _ _ S10 (fun _=>?_)
           clear hK K
           try simp only [putS]
           refine tg (i:=13) (.int .i64 ((c.opn s (ahd b)).seek s (ahd b) (u 1)).pos) rfl S10 ?_
           refine tr 14 rfl (fun K hK=>?_)
           rw [if_pos (by rfl)]
           go_simp
           refine (hvc _ hb10).mono ?_
           rintro e0 w11 ⟨rfl,hb11⟩
           have hb91:=zad hb10 hb11 hb10.size
           have st11:=st10.low hb11
           have S11:=S10.below hb11.is
           refine hK.out _ _ S11 (fun _=>?_)
           clear hK K
           try simp only [putS]
           refine tr 16 rfl (fun K hK=>?_)
           rw [if_pos (by rfl)]
           go_simp
           refine (hsm _ hb91.is).mono ?_
           rintro e0 w12 ⟨rfl,hb12⟩
           have st12:=st11.low hb12
           have S12:=S11.below hb12.is
           refine hK.out _ _ S12 (fun _=>?_)
           clear hK K
           try simp only [putS]
           refine tg (i:=17) (.bool true) rfl S12 ?_
           refine tg (i:=18) (.bool true) rfl S12 ?_
           refine wpAnyH_done (by kernel_rfl) ?_ _
           have HF:=Lib.hid (zei (wB:=wB) HE.out (st12.at_.b))
           clear st8 S8 st9 S9 st10 S10 st11 S11 st12 S12 st7 S7 z7 hv hb10 hb11 hb12 hb91 iv hvc hsm hh9 hfl hs8
           go_wp2_with fail
           go_ret
           exact HF.out
         | true=>
           have hkv:((c.opn s (ahd b)).seek s (ahd b) (u 1)).val s (ahd b)=u 1:=by
            refine (HS.out 1 hbi _ ?_).1 qm
            exact zry (st7.fit.opn.seek _) HOK.out qs
           have HH:=Lib.hid (k3 qs hkv)
           clear k1 k2 k3 hkv
           refine wp_region_held_drew (S:=fun W=>Six W wr.heap.size v1.k v1.b v1.n v1.t v1.x v1.p v1.len v1.cap) (by kernel_rfl) S7 (fun _=>?_)
           refine tg (i:=0) (.pointer (some ⟨g,0,none⟩)) rfl S7 ?_
           refine tr 1 rfl (fun K hK=>?_)
           rw [if_pos (by rfl)]
           go_simp
           refine (HO.out).mono ?_
           rintro e0 w8 ⟨rfl,ho8,hc8⟩
           have st8:=st7.opn ho8 hc8
           have S8:=S7.only ho8 hne
           clear ho8 hc8
           refine hK.out _ _ S8 (fun _=>?_)
           clear hK K
           try simp only [putS]
           refine tg (i:=2) (.bool false) rfl S8 ?_
           refine tg (i:=3) (.bool false) rfl S8 ?_
           refine tg (i:=4) (.pointer (some ⟨g,0,none⟩)) rfl S8 ?_
           refine tk (i:=5) rfl (yieldsIf_load_mid (by rfl) 39 (.tmp 8) rfl wr.heap.size 0 rfl [.int .i64 v1.k,.bool v1.b,.int .i64 v1.n,.string v1.t,.string v1.x,.slice v1.p v1.len v1.cap] _ (fun W h=>zb3 h.c0 h.c1 h.c2 h.c3 h.c4 h.c5) Tryz.underlying39 rfl zav) S8 ?_
           have hs8:=zny st8 (HG.out.below st8.at_.b) (HT.out.below st8.at_.b) v1 (u 1) (q 1) (I1.out.below st8.at_.b)
           rw [qs] at hs8
           refine tr 6 rfl (fun K hK=>?_)
           rw [if_pos (by rfl)]
           go_simp
           refine (hs8).mono ?_
           rintro e0 w9 ⟨rfl,ho9,hc9⟩
           have st9:=st8.seek (u 1) ho9 hc9
           have S9:=S8.only ho9 hne
           clear ho9 hc9
           refine hK.out _ _ S9 (fun _=>?_)
           clear hK K
           try simp only [putS]
           refine tg (i:=7) (.bool false) rfl S9 ?_
           refine tg (i:=8) (.bool false) rfl S9 ?_
           refine tg (i:=9) (.bool false) rfl S9 ?_
           refine tg (i:=10) (.pointer (some ⟨g,0,none⟩)) rfl S9 ?_
           refine tg (i:=11) (.pointer (some ⟨g,0,none⟩)) rfl S9 ?_
           refine tk (i:=15) rfl (yieldsIf_load_mid (by rfl) 39 (.tmp 8) rfl wr.heap.size 0 rfl [.int .i64 v1.k,.bool v1.b,.int .i64 v1.n,.string v1.t,.string v1.x,.slice v1.p v1.len v1.cap] _ (fun W h=>zb3 h.c0 h.c1 h.c2 h.c3 h.c4 h.c5) Tryz.underlying39 rfl zav) S9 ?_
           obtain ⟨h1,hpf⟩:=CS.on_is qs
           have hin9:=st9.fit.in_ h1
           obtain ⟨vv,qv,iv,hvc⟩:=zil st9.at_ st9.ok h1 st9.fit.d3 ((c.opn s (ahd b)).seek s (ahd b) (u 1)).pos (by omega)
           have hsm:=fun W (hb:Below w9.heap.size w9 W)=>zid vv v1 _ (u 1) qv (q 1) W (iv.below hb) (I1.out.below (zak st9.at_.b hb st9.at_.b.size))
           rw [← znc st9.at_ st9.ok h1,qm] at hsm
           have hh9:=zlf st9.at_ h1 st9.fit.d3
           have hfl:=fun W=>ze8 (((c.opn s (ahd b)).seek s (ahd b) (u 1)).pos) (((c.opn s (ahd b)).seek s (ahd b) (u 1)).fin) W
           refine tr 12 rfl (fun K hK=>?_)
           rw [if_pos (by rfl)]
           go_simp
           refine (hh9).mono ?_
           rintro e0 w10 ⟨rfl,hb10⟩
           have st10:=st9.low hb10
           have S10:=S9.below hb10.is
           refine hK.out _ _ S10 (fun _=>?_)
           clear hK K
           try simp only [putS]
           refine tg (i:=13) (.int .i64 ((c.opn s (ahd b)).seek s (ahd b) (u 1)).pos) rfl S10 ?_
           refine tr 14 rfl (fun K hK=>?_)
           rw [if_pos (by rfl)]
           go_simp
           refine (hvc _ hb10).mono ?_
           rintro e0 w11 ⟨rfl,hb11⟩
           have hb91:=zad hb10 hb11 hb10.size
           have st11:=st10.low hb11
           have S11:=S10.below hb11.is
           refine hK.out _ _ S11 (fun _=>?_)
           clear hK K
           try simp only [putS]
           refine tr 16 rfl (fun K hK=>?_)
           rw [if_pos (by rfl)]
           go_simp
           refine (hsm _ hb91.is).mono ?_
           rintro e0 w12 ⟨rfl,hb12⟩
           have st12:=st11.low hb12
           have S12:=S11.below hb12.is
           refine hK.out _ _ S12 (fun _=>?_)
           clear hK K
           try simp only [putS]
           refine tg (i:=17) (.bool false) rfl S12 ?_
           refine tg (i:=18) (.bool false) rfl S12 ?_
           refine wpAnyH_done (by kernel_rfl) ?_ _
           have HIN:Hid (zqe w s b u g C PL 2 w12):=Lib.hid ⟨_,st12,HH.out,by rw [CS.seek_cl,CS.opn_cl];exact HCL.out,by rw [(CS.seek_alike _ _ _ _).pl,(CS.opn_alike _ _ _).pl];exact HPP.out⟩
           clear st8 S8 st9 S9 st10 S10 st11 S11 st12 S12 st7 S7 z7 hv hb10 hb11 hb12 hb91 iv hvc hsm hh9 hfl hs8
           go_wp2_with fail
           go_roundg (gk - 1)
           case measure=>omega
           case rel=>exact ⟨2,by omega,by go_num,HIN⟩
  ·obtain ⟨c,st,hv,hcl,hpl⟩:=HI.out
   have hix:=fun W=>zft v0 v1 v2 W
   go_upto_region 7 with ((with_reducible refine zal (k':=v2.k) (b':=v2.b) (n':=v2.n) (t':=v2.t) (x':=v2.x) (p':=v2.p) (len':=v2.len) (cap':=v2.cap) (.tmp 8) (.tmp 22) wr.heap.size (zah _ rfl) ?_ ?_ ?_ ?_ ?_);rfl;rfl;rfl;rfl;intro w5 hvw5 uw5)
   have z5:Below wr.heap.size wr w5:=zai (zap wr _) hvw5 (Nat.le_refl _) (by simp)
   clear hvw5 hix
   cases hbi:b 2 with
   | true=>
     rw [hbi] at V2
     go_wp2_with (first
      |((with_reducible refine zaa (.tmp 8) wr.heap.size uw5 ?_ ?_ ?_ ?_);rfl;rfl;rfl)
      |(go_at_call 116;(with_reducible refine (V2.out _).mono ?_);rintro e w7 ⟨rfl,hb7⟩))
     have z7:Below wr.heap.size wr w7:=z5.trans (hb7.mono z5.size)
     have HIN:Hid (zqe w s b u g C PL 3 w7):=Lib.hid ⟨c,st.bel z7,zoa hbi hv,hcl,hpl⟩
     clear st hv z5 z7 hb7 uw5 HI hcl hpl
     go_roundg (gk - 1)
     case measure=>omega
     case rel=>exact ⟨3,by omega,by go_num,HIN⟩
   | false=>
     rw [hbi] at V2
     go_upto_region 8 with (first
      |((with_reducible refine zaa (.tmp 8) wr.heap.size uw5 ?_ ?_ ?_ ?_);rfl;rfl;rfl)
      |(go_at_call 116;(with_reducible refine (V2.out _).mono ?_);rintro e w7 ⟨rfl,hb7⟩))
     have z7:Below wr.heap.size wr w7:=z5.trans (hb7.mono z5.size)
     have HCL:=Lib.hid hcl
     have HPP:=Lib.hid hpl
     have st7:zbr w s w7.drew g c (ahd b):=st.bel z7.drew
     have S7:Six w7.drew wr.heap.size v2.k v2.b v2.n v2.t v2.x v2.p v2.len v2.cap:=uw5.below hb7.drew
     have hne:wr.heap.size≠g:=by have:=st.at_.B.lt;omega
     have hd3:c.d < 3:=by rw [hv.d];have:=zs7 b 2;omega
     have hlv:zus (ahd b) c.d=2:=by rw [hv.d];exact zrw b 2 (by omega) hbi
     have hcn:c.n=(s.ls (ahd b)).length:=st.fit.n
     have ho:=zzb st7
     clear z5 hb7 uw5 st HI hcl hpl
     cases qo:c.opens s (ahd b) with
     | false=>
       rw [qo] at ho
       have HO:=Lib.hid ho
       have HE:=Lib.hid (zc1 HL.out HN.out 3 (by omega) c.n hcn (zlo hd3 qo hv hbi) HS.out)
       clear ho
       refine wp_region_held_drew (S:=fun W=>Six W wr.heap.size v2.k v2.b v2.n v2.t v2.x v2.p v2.len v2.cap) (by kernel_rfl) S7 (fun _=>?_)
       refine tg (i:=0) (.pointer (some ⟨g,0,none⟩)) rfl S7 ?_
       refine tr 1 rfl (fun K hK=>?_)
       rw [if_pos (by rfl)]
       go_simp
       refine (HO.out).mono ?_
       rintro e0 w8 ⟨rfl,ho8,hc8⟩
       have st8:=st7.opn ho8 hc8
       have S8:=S7.only ho8 hne
       clear ho8 hc8
       refine hK.out _ _ S8 (fun _=>?_)
       clear hK K
       try simp only [putS]
       refine tg (i:=2) (.bool true) rfl S8 ?_
       refine tg (i:=3) (.bool true) rfl S8 ?_
       refine tn (i:=4) rfl S8 ?_
       refine tn (i:=5) rfl S8 ?_
       refine tr 6 rfl (fun K hK=>?_)
       rw [if_neg (by exact Bool.eq_false_iff.1 rfl)]
       refine hK.out _ _ S8 (fun _=>?_)
       clear hK K
       try simp only [putS]
       refine tn (i:=7) rfl S8 ?_
       refine tg (i:=8) (.bool true) rfl S8 ?_
       refine tg (i:=9) (.bool true) rfl S8 ?_
       refine tn (i:=10) rfl S8 ?_
       refine tn (i:=11) rfl S8 ?_
       refine tn (i:=15) rfl S8 ?_
       refine tr 12 rfl (fun K hK=>?_)
       rw [if_neg (by exact Bool.eq_false_iff.1 rfl)]
       refine hK.out _ _ S8 (fun _=>?_)
       clear hK K
       try simp only [putS]
       refine tn (i:=13) rfl S8 ?_
       refine tr 14 rfl (fun K hK=>?_)
       rw [if_neg (by exact Bool.eq_false_iff.1 rfl)]
       refine hK.out _ _ S8 (fun _=>?_)
       clear hK K
       try simp only [putS]
       refine tr 16 rfl (fun K hK=>?_)
       rw [if_neg (by exact Bool.eq_false_iff.1 rfl)]
       refine hK.out _ _ S8 (fun _=>?_)
       clear hK K
       try simp only [putS]
       refine tn (i:=17) rfl S8 ?_
       refine tg (i:=18) (.bool true) rfl S8 ?_
       refine wpAnyH_done (by kernel_rfl) ?_ _
       have HF:=Lib.hid (zei (wB:=wB) HE.out (st8.at_.b))
       clear st8 S8 st7 S7 z7 hv
       go_wp2_with fail
       go_ret
       exact HF.out
     | true=>
       obtain ⟨k1,k2,k3⟩:=zlp st7.fit HOK.out HSO.out hk hv hbi hlv qo
       rw [qo] at ho
       have HO:=Lib.hid ho
       clear ho
       cases qs:((c.opn s (ahd b)).seek s (ahd b) (u 2)).on with
       | false=>
         have HE:=Lib.hid (zc1 HL.out HN.out 3 (by omega) c.n hcn (k1 qs) HS.out)
         clear k1 k2 k3
         refine wp_region_held_drew (S:=fun W=>Six W wr.heap.size v2.k v2.b v2.n v2.t v2.x v2.p v2.len v2.cap) (by kernel_rfl) S7 (fun _=>?_)
         refine tg (i:=0) (.pointer (some ⟨g,0,none⟩)) rfl S7 ?_
         refine tr 1 rfl (fun K hK=>?_)
         rw [if_pos (by rfl)]
         go_simp
         refine (HO.out).mono ?_
         rintro e0 w8 ⟨rfl,ho8,hc8⟩
         have st8:=st7.opn ho8 hc8
         have S8:=S7.only ho8 hne
         clear ho8 hc8
         refine hK.out _ _ S8 (fun _=>?_)
         clear hK K
         try simp only [putS]
         refine tg (i:=2) (.bool false) rfl S8 ?_
         refine tg (i:=3) (.bool false) rfl S8 ?_
         refine tg (i:=4) (.pointer (some ⟨g,0,none⟩)) rfl S8 ?_
         refine tk (i:=5) rfl (yieldsIf_load_mid (by rfl) 39 (.tmp 8) rfl wr.heap.size 0 rfl [.int .i64 v2.k,.bool v2.b,.int .i64 v2.n,.string v2.t,.string v2.x,.slice v2.p v2.len v2.cap] _ (fun W h=>zb3 h.c0 h.c1 h.c2 h.c3 h.c4 h.c5) Tryz.underlying39 rfl zav) S8 ?_
         have hs8:=zny st8 (HG.out.below st8.at_.b) (HT.out.below st8.at_.b) v2 (u 2) (q 2) (I2.out.below st8.at_.b)
         rw [qs] at hs8
         refine tr 6 rfl (fun K hK=>?_)
         rw [if_pos (by rfl)]
         go_simp
         refine (hs8).mono ?_
         rintro e0 w9 ⟨rfl,ho9,hc9⟩
         have st9:=st8.seek (u 2) ho9 hc9
         have S9:=S8.only ho9 hne
         clear ho9 hc9
         refine hK.out _ _ S9 (fun _=>?_)
         clear hK K
         try simp only [putS]
         refine tg (i:=7) (.bool true) rfl S9 ?_
         refine tg (i:=8) (.bool true) rfl S9 ?_
         refine tg (i:=9) (.bool true) rfl S9 ?_
         refine tn (i:=10) rfl S9 ?_
         refine tn (i:=11) rfl S9 ?_
         refine tn (i:=15) rfl S9 ?_
         refine tr 12 rfl (fun K hK=>?_)
         rw [if_neg (by exact Bool.eq_false_iff.1 rfl)]
         refine hK.out _ _ S9 (fun _=>?_)
         clear hK K
         try simp only [putS]
         refine tn (i:=13) rfl S9 ?_
         refine tr 14 rfl (fun K hK=>?_)
         rw [if_neg (by exact Bool.eq_false_iff.1 rfl)]
         refine hK.out _ _ S9 (fun _=>?_)
         clear hK K
         try simp only [putS]
         refine tr 16 rfl (fun K hK=>?_)
         rw [if_neg (by exact Bool.eq_false_iff.1 rfl)]
         refine hK.out _ _ S9 (fun _=>?_)
         clear hK K
         try simp only [putS]
         refine tn (i:=17) rfl S9 ?_
         refine tg (i:=18) (.bool true) rfl S9 ?_
         refine wpAnyH_done (by kernel_rfl) ?_ _
         have HF:=Lib.hid (zei (wB:=wB) HE.out (st9.at_.b))
         clear st8 S8 st9 S9 st7 S7 z7 hv
         go_wp2_with fail
         go_ret
         exact HF.out
       | true=>
         cases qm:za7 (((c.opn s (ahd b)).seek s (ahd b) (u 2)).val s (ahd b)) (u 2) with
         | false=>
           have HE:=Lib.hid (zc1 HL.out HN.out 3 (by omega) c.n hcn (k2 qs (fun e=>by rw [e,zc5] at qm;cases qm)) HS.out)
           clear k1 k2 k3
           refine wp_region_held_drew (S:=fun W=>Six W wr.heap.size v2.k v2.b v2.n v2.t v2.x v2.p v2.len v2.cap) (by kernel_rfl) S7 (fun _=>?_)
           refine tg (i:=0) (.pointer (some ⟨g,0,none⟩)) rfl S7 ?_
           refine tr 1 rfl (fun K hK=>?_)
           rw [if_pos (by rfl)]
           go_simp
           refine (HO.out).mono ?_
           rintro e0 w8 ⟨rfl,ho8,hc8⟩
           have st8:=st7.opn ho8 hc8
           have S8:=S7.only ho8 hne
           clear ho8 hc8
           refine hK.out _ _ S8 (fun _=>?_)
           clear hK K
           try simp only [putS]
           refine tg (i:=2) (.bool false) rfl S8 ?_
           refine tg (i:=3) (.bool false) rfl S8 ?_
           refine tg (i:=4) (.pointer (some ⟨g,0,none⟩)) rfl S8 ?_
           refine tk (i:=5) rfl (yieldsIf_load_mid (by rfl) 39 (.tmp 8) rfl wr.heap.size 0 rfl [.int .i64 v2.k,.bool v2.b,.int .i64 v2.n,.string v2.t,.string v2.x,.slice v2.p v2.len v2.cap] _ (fun W h=>zb3 h.c0 h.c1 h.c2 h.c3 h.c4 h.c5) Tryz.underlying39 rfl zav) S8 ?_
           have hs8:=zny st8 (HG.out.below st8.at_.b) (HT.out.below st8.at_.b) v2 (u 2) (q 2) (I2.out.below st8.at_.b)
           rw [qs] at hs8
           refine tr 6 rfl (fun K hK=>?_)
           rw [if_pos (by rfl)]
           go_simp
           refine (hs8).mono ?_
           rintro e0 w9 ⟨rfl,ho9,hc9⟩
           have st9:=st8.seek (u 2) ho9 hc9
           have S9:=S8.only ho9 hne
           clear ho9 hc9
           refine hK.out _ _ S9 (fun _=>?_)
           clear hK K
           try simp only [putS]
           refine tg (i:=7) (.bool false) rfl S9 ?_
           refine tg (i:=8) (.bool false) rfl S9 ?_
           refine tg (i:=9) (.bool false) rfl S9 ?_
           refine tg (i:=10) (.pointer (some ⟨g,0,none⟩)) rfl S9 ?_
           refine tg (i:=11) (.pointer (some ⟨g,0,none⟩)) rfl S9 ?_
           refine tk (i:=15) rfl (yieldsIf_load_mid (by rfl) 39 (.tmp 8) rfl wr.heap.size 0 rfl [.int .i64 v2.k,.bool v2.b,.int .i64 v2.n,.string v2.t,.string v2.x,.slice v2.p v2.len v2.cap] _ (fun W h=>zb3 h.c0 h.c1 h.c2 h.c3 h.c4 h.c5) Tryz.underlying39 rfl zav) S9 ?_
           obtain ⟨h1,hpf⟩:=CS.on_is qs
           have hin9:=st9.fit.in_ h1
           obtain ⟨vv,qv,iv,hvc⟩:=zil st9.at_ st9.ok h1 st9.fit.d3 ((c.opn s (ahd b)).seek s (ahd b) (u 2)).pos (by omega)
           have hsm:=fun W (hb:Below w9.heap.size w9 W)=>zid vv v2 _ (u 2) qv (q 2) W (iv.below hb) (I2.out.below (zak st9.at_.b hb st9.at_.b.size))
           rw [← znc st9.at_ st9.ok h1,qm] at hsm
           have hh9:=zlf st9.at_ h1 st9.fit.d3
           have hfl:=fun W=>ze8 (((c.opn s (ahd b)).seek s (ahd b) (u 2)).pos) (((c.opn s (ahd b)).seek s (ahd b) (u 2)).fin) W
           refine tr 12 rfl (fun K hK=>?_)
           rw [if_pos (by rfl)]
           go_simp
           refine (hh9).mono ?_
           rintro e0 w10 ⟨rfl,hb10⟩
           have st10:=st9.low hb10
           have S10:=S9.below hb10.is
           refine hK.out _ _ S10 (fun _=>?_)
           clear hK K
           try simp only [putS]
           refine tg (i:=13) (.int .i64 ((c.opn s (ahd b)).seek s (ahd b) (u 2)).pos) rfl S10 ?_
           refine tr 14 rfl (fun K hK=>?_)
           rw [if_pos (by rfl)]
           go_simp
           refine (hvc _ hb10).mono ?_
           rintro e0 w11 ⟨rfl,hb11⟩
           have hb91:=zad hb10 hb11 hb10.size
           have st11:=st10.low hb11
           have S11:=S10.below hb11.is
           refine hK.out _ _ S11 (fun _=>?_)
           clear hK K
           try simp only [putS]
           refine tr 16 rfl (fun K hK=>?_)
           rw [if_pos (by rfl)]
           go_simp
           refine (hsm _ hb91.is).mono ?_
           rintro e0 w12 ⟨rfl,hb12⟩
           have st12:=st11.low hb12
           have S12:=S11.below hb12.is
           refine hK.out _ _ S12 (fun _=>?_)
           clear hK K
           try simp only [putS]
           refine tg (i:=17) (.bool true) rfl S12 ?_
           refine tg (i:=18) (.bool true) rfl S12 ?_
           refine wpAnyH_done (by kernel_rfl) ?_ _
           have HF:=Lib.hid (zei (wB:=wB) HE.out (st12.at_.b))
           clear st8 S8 st9 S9 st10 S10 st11 S11 st12 S12 st7 S7 z7 hv hb10 hb11 hb12 hb91 iv hvc hsm hh9 hfl hs8
           go_wp2_with fail
           go_ret
           exact HF.out
         | true=>
           have hkv:((c.opn s (ahd b)).seek s (ahd b) (u 2)).val s (ahd b)=u 2:=by
            refine (HS.out 2 hbi _ ?_).1 qm
            exact zry (st7.fit.opn.seek _) HOK.out qs
           have HH:=Lib.hid (k3 qs hkv)
           clear k1 k2 k3 hkv
           refine wp_region_held_drew (S:=fun W=>Six W wr.heap.size v2.k v2.b v2.n v2.t v2.x v2.p v2.len v2.cap) (by kernel_rfl) S7 (fun _=>?_)
           refine tg (i:=0) (.pointer (some ⟨g,0,none⟩)) rfl S7 ?_
           refine tr 1 rfl (fun K hK=>?_)
           rw [if_pos (by rfl)]
           go_simp
           refine (HO.out).mono ?_
           rintro e0 w8 ⟨rfl,ho8,hc8⟩
           have st8:=st7.opn ho8 hc8
           have S8:=S7.only ho8 hne
           clear ho8 hc8
           refine hK.out _ _ S8 (fun _=>?_)
           clear hK K
           try simp only [putS]
           refine tg (i:=2) (.bool false) rfl S8 ?_
           refine tg (i:=3) (.bool false) rfl S8 ?_
           refine tg (i:=4) (.pointer (some ⟨g,0,none⟩)) rfl S8 ?_
           refine tk (i:=5) rfl (yieldsIf_load_mid (by rfl) 39 (.tmp 8) rfl wr.heap.size 0 rfl [.int .i64 v2.k,.bool v2.b,.int .i64 v2.n,.string v2.t,.string v2.x,.slice v2.p v2.len v2.cap] _ (fun W h=>zb3 h.c0 h.c1 h.c2 h.c3 h.c4 h.c5) Tryz.underlying39 rfl zav) S8 ?_
           have hs8:=zny st8 (HG.out.below st8.at_.b) (HT.out.below st8.at_.b) v2 (u 2) (q 2) (I2.out.below st8.at_.b)
           rw [qs] at hs8
           refine tr 6 rfl (fun K hK=>?_)
           rw [if_pos (by rfl)]
           go_simp
           refine (hs8).mono ?_
           rintro e0 w9 ⟨rfl,ho9,hc9⟩
           have st9:=st8.seek (u 2) ho9 hc9
           have S9:=S8.only ho9 hne
           clear ho9 hc9
           refine hK.out _ _ S9 (fun _=>?_)
           clear hK K
           try simp only [putS]
           refine tg (i:=7) (.bool false) rfl S9 ?_
           refine tg (i:=8) (.bool false) rfl S9 ?_
           refine tg (i:=9) (.bool false) rfl S9 ?_
           refine tg (i:=10) (.pointer (some ⟨g,0,none⟩)) rfl S9 ?_
           refine tg (i:=11) (.pointer (some ⟨g,0,none⟩)) rfl S9 ?_
           refine tk (i:=15) rfl (yieldsIf_load_mid (by rfl) 39 (.tmp 8) rfl wr.heap.size 0 rfl [.int .i64 v2.k,.bool v2.b,.int .i64 v2.n,.string v2.t,.string v2.x,.slice v2.p v2.len v2.cap] _ (fun W h=>zb3 h.c0 h.c1 h.c2 h.c3 h.c4 h.c5) Tryz.underlying39 rfl zav) S9 ?_
           obtain ⟨h1,hpf⟩:=CS.on_is qs
           have hin9:=st9.fit.in_ h1
           obtain ⟨vv,qv,iv,hvc⟩:=zil st9.at_ st9.ok h1 st9.fit.d3 ((c.opn s (ahd b)).seek s (ahd b) (u 2)).pos (by omega)
           have hsm:=fun W (hb:Below w9.heap.size w9 W)=>zid vv v2 _ (u 2) qv (q 2) W (iv.below hb) (I2.out.below (zak st9.at_.b hb st9.at_.b.size))
           rw [← znc st9.at_ st9.ok h1,qm] at hsm
           have hh9:=zlf st9.at_ h1 st9.fit.d3
           have hfl:=fun W=>ze8 (((c.opn s (ahd b)).seek s (ahd b) (u 2)).pos) (((c.opn s (ahd b)).seek s (ahd b) (u 2)).fin) W
           refine tr 12 rfl (fun K hK=>?_)
           rw [if_pos (by rfl)]
           go_simp
           refine (hh9).mono ?_
           rintro e0 w10 ⟨rfl,hb10⟩
           have st10:=st9.low hb10
           have S10:=S9.below hb10.is
           refine hK.out _ _ S10 (fun _=>?_)
           clear hK K
           try simp only [putS]
           refine tg (i:=13) (.int .i64 ((c.opn s (ahd b)).seek s (ahd b) (u 2)).pos) rfl S10 ?_
           refine tr 14 rfl (fun K hK=>?_)
           rw [if_pos (by rfl)]
           go_simp
           refine (hvc _ hb10).mono ?_
           rintro e0 w11 ⟨rfl,hb11⟩
           have hb91:=zad hb10 hb11 hb10.size
           have st11:=st10.low hb11
           have S11:=S10.below hb11.is
           refine hK.out _ _ S11 (fun _=>?_)
           clear hK K
           try simp only [putS]
           refine tr 16 rfl (fun K hK=>?_)
           rw [if_pos (by rfl)]
           go_simp
           refine (hsm _ hb91.is).mono ?_
           rintro e0 w12 ⟨rfl,hb12⟩
           have st12:=st11.low hb12
           have S12:=S11.below hb12.is
           refine hK.out _ _ S12 (fun _=>?_)
           clear hK K
           try simp only [putS]
           refine tg (i:=17) (.bool false) rfl S12 ?_
           refine tg (i:=18) (.bool false) rfl S12 ?_
           refine wpAnyH_done (by kernel_rfl) ?_ _
           have HIN:Hid (zqe w s b u g C PL 3 w12):=Lib.hid ⟨_,st12,HH.out,by rw [CS.seek_cl,CS.opn_cl];exact HCL.out,by rw [(CS.seek_alike _ _ _ _).pl,(CS.opn_alike _ _ _).pl];exact HPP.out⟩
           clear st8 S8 st9 S9 st10 S10 st11 S11 st12 S12 st7 S7 z7 hv hb10 hb11 hb12 hb91 iv hvc hsm hh9 hfl hs8
           go_wp2_with fail
           go_roundg (gk - 1)
           case measure=>omega
           case rel=>exact ⟨3,by omega,by go_num,HIN⟩
  ·obtain ⟨c,st,hv,hcl,hpl⟩:=HI.out
   have hbw:=st.below
   have hcn:=st.fit.n
   have hle:=hi_le st.fit
   have hfin:=zxo HL.out HN.out st.fit hv HS.out
   have hlh:=lo_hi st.fit
   have hcc:=HCC.out
   rw [← hcl] at hcc
   have hcut:=zzr HPL.out c.lo (c.hi s (ahd b)) c.cl hlh (by omega) hcc
   rw [← hpl] at hcut
   rw [hfin] at hcut
   have c1:wr.cell? ⟨g,1,none⟩=some (.slice c.pl c.n c.cl):=st.at_.B.cell 1 _ rfl
   have hgw:=st.at_.B.lt
   have HBW:=Lib.hid st.at_.b
   generalize c.lo=lo at*
   generalize c.hi s (ahd b)=hi at*
   obtain ⟨V,hV⟩:∃ V,V=Value.slice (if c.cl=lo then c.pl else c.pl.map (·.add (lo*1))) (hi - lo) (c.cl - lo):=⟨_,rfl⟩
   have hsl:=fun W=>cut73 c.pl c.n c.cl lo hi hlh (by omega) W
   rw [← hV] at hsl
   have HF:Hid (∀ W,Below w.heap.size w W→zrx w wB s b u (.returned V) W):=Lib.hid fun W hb=>by
    obtain ⟨y1,y2⟩:=hcut
    exact ⟨_,_,by rw [hV,y2],y1,hb⟩
   have HBW2:=Lib.hid hbw
   clear hcut hfin hle hcn hV hlh hcc hv st hbw HI hcl hpl
   generalize c.pl=pl at*
   generalize c.n=n at*
   generalize c.cl=cl at*
   go_upto_region 11 with fail
   go_upto_region 12 with (first
    |(go_at_call 55;(with_reducible refine HBW2.out.mono ?_);rintro e w5 ⟨rfl,hb5⟩)
    |((with_reducible refine zej lo hi (.tmp 9) (.tmp 46) w5.heap.size (zag _ _ rfl) ?_ ?_ ?_ ?_ ?_);rfl;rfl;rfl;rfl))
   have z6:Below wr.heap.size wr ((w5.alloc (.cells #[.int .i64 0,.int .i64 0] 90)).setRow w5.heap.size #[.int .i64 lo,.int .i64 hi]):=zai (hb5.is.trans ((zap w5 _).mono hb5.size)) (Only.setRow (b:=w5.heap.size) _ _) hb5.size (by simp;have:=hb5.size;omega)
   have u6:=za4 (w:=w5.alloc (.cells #[.int .i64 0,.int .i64 0] 90)) (g:=w5.heap.size) (c':=#[.int .i64 lo,.int .i64 hi]) (zag w5 (.cells #[.int .i64 0,.int .i64 0] 90) rfl)
   generalize (w5.alloc (.cells #[.int .i64 0,.int .i64 0] 90)).setRow w5.heap.size #[.int .i64 lo,.int .i64 hi]=w6 at*
   replace c1:=(z6.cell (p:=⟨g,1,none⟩) hgw).trans c1
   have s0:=zab u6 0 rfl
   have s1:=zab u6 1 rfl
   have HZ6:=Lib.hid z6
   clear z6 hb5
   go_quiet (fail)
   go_wp2_with fail
   go_ret
   exact HF.out _ (zao (HBW.out.trans (HZ6.out.mono HBW.out.size)) _)
end Go.Proofs.YtanbgdhmfjgihaaGreatDoor
