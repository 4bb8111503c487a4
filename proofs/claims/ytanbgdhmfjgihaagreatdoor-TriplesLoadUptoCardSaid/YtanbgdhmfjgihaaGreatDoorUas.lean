/- Texts of one kind, one behind the other: each says ahead of itself what it shows. -/
import Derived.Test.YtanbgdhmfjgihaaGreatDoorUab
import Derived.Test.YtanbgdhmfjgihaaGreatDoorUar
import Derived.Test.YtanbgdhmfjgihaaGreatDoorUah
import Derived.Maps.AppendAt
import Derived.Shelf.Strconv.Clone
import Derived.Test.YtanbgdhmfjgihaaGreatDoorUao
/- WF -/
namespace Go.Proofs.YtanbgdhmfjgihaaGreatDoor
open Go.RowKit
structure R3 where
 a:Nat
 b:Nat
 c:Nat
deriving DecidableEq,Inhabited
def R3.at (r:R3):Nat→Nat
 | 0=>r.a
 | 1=>r.b
 | _=>r.c
structure SM where
 vs:List Val
 rs:List R3
 ls:Nat→List Nat
structure SMok (s:SM):Prop where
 r:∀ x∈s.rs,x.a < s.vs.length∧x.b < s.vs.length∧x.c < s.vs.length
 l:∀ k,∀ x∈s.ls k,x < s.rs.length
 nv:s.vs.length < 1073741824
 nr:s.rs.length < 1073741824
 nl:∀ k,(s.ls k).length < 1073741824
theorem SMok.at {s:SM} (h:SMok s) (x:R3) (hx:x∈s.rs) (v:Nat):x.at v < s.vs.length:=by
 have:=h.r x hx
 match v with
 | 0=>exact this.1
 | 1=>exact this.2.1
 | v+2=>exact this.2.2
def zdq (W:World) (p:Option Addr) (l:List Nat):Prop:=l≠[]→∃ g o,p=some ⟨g,o,none⟩∧∀ (j:Nat) (h:j < l.length),W.cell? ⟨g,o+j,none⟩=some (.int .i64 (l[j]:Nat))
def zm5 (W:World) (p:Option Addr) (l:List R3):Prop:=l≠[]→∃ g o,p=some ⟨g,o,none⟩∧∀ (j:Nat) (h:j < l.length),W.rangeAt g (o+j*3) [.int .i64 (l[j].a:Nat),.int .i64 (l[j].b:Nat),.int .i64 (l[j].c:Nat)]
def zle (W:World) (p:Option Addr) (l:List Val):Prop:=l≠[]→∃ g o,p=some ⟨g,o,none⟩∧zaq W g o l
section
variable {W W':World} {p:Option Addr}
theorem zdq.below {l:List Nat} (h:zdq W p l) (b:Below W.heap.size W W'):zdq W' p l:=fun hn=>by
 obtain ⟨g,o,e,k⟩:=h hn
 exact ⟨g,o,e,fun j hj=>(b.cell (p:=⟨g,o+j,none⟩) (World.block_lt_of_cell? W _ (k j hj))).trans (k j hj)⟩
theorem zm5.below {l:List R3} (h:zm5 W p l) (b:Below W.heap.size W W'):zm5 W' p l:=fun hn=>by
 obtain ⟨g,o,e,k⟩:=h hn
 exact ⟨g,o,e,fun j hj=>zaf (k j hj) b⟩
theorem zle.below {l:List Val} (h:zle W p l) (b:Below W.heap.size W W'):zle W' p l:=fun hn=>by
 obtain ⟨g,o,e,k⟩:=h hn
 exact ⟨g,o,e,zaq.below _ k b⟩
end
structure zcy (W:World) (sp:Nat) (s:SM) (pv pr:Option Addr) (cv cr:Nat) (pp:Nat→Option Addr) (cc:Nat→Nat):Prop where
 h:W.heap[sp]?=some (.cells #[.slice pv s.vs.length cv,.slice pr s.rs.length cr,.slice (pp 0) (s.ls 0).length (cc 0),.slice (pp 1) (s.ls 1).length (cc 1),.slice (pp 2) (s.ls 2).length (cc 2),.slice (pp 3) (s.ls 3).length (cc 3),.slice (pp 4) (s.ls 4).length (cc 4),.slice (pp 5) (s.ls 5).length (cc 5)] 76)
 v:zle W pv s.vs
 r:zm5 W pr s.rs
 l:∀ k,k < 6→zdq W (pp k) (s.ls k)
def ze7 (W:World) (sp:Nat) (s:SM):Prop:=∃ pv pr cv cr pp cc,zcy W sp s pv pr cv cr pp cc
theorem ze7.below {W W':World} {sp:Nat} {s:SM} (h:ze7 W sp s) (b:Below W.heap.size W W'):ze7 W' sp s:=by
 obtain ⟨pv,pr,cv,cr,pp,cc,k⟩:=h
 exact ⟨pv,pr,cv,cr,pp,cc,(b.block _ (zac k.h)).trans k.h,k.v.below b,k.r.below b,fun i hi=>(k.l i hi).below b⟩
structure At (W0:World) (s:SM) (W:World) (g:Nat) (c:CS) (k:Nat):Prop where
 S:ze7 W0 c.sp s
 n:c.n=(s.ls k).length
 l:zdq W0 c.pl (s.ls k)
 h0:c.l0 < 3
 h1:c.l1 < 3
 h2:c.l2 < 3
 hg:W0.heap.size≤g
 b:Below W0.heap.size W0 W
 B:Cur W g c
theorem At.low {W0 W W':World} {s:SM} {g k:Nat} {c:CS} (h:At W0 s W g c k) (b:Low W.heap.size W W'):At W0 s W' g c k:=
 ⟨h.S,h.n,h.l,h.h0,h.h1,h.h2,h.hg,zak h.b b.is h.b.size,h.B.low b⟩
theorem At.bel {W0 W W':World} {s:SM} {g k:Nat} {c:CS} (h:At W0 s W g c k) (b:Below W.heap.size W W'):At W0 s W' g c k:=
 ⟨h.S,h.n,h.l,h.h0,h.h1,h.h2,h.hg,zak h.b b h.b.size,h.B.below b⟩
def SM.num (s:SM) (k v j:Nat):Nat:=((s.rs[((s.ls k)[j]?).getD 0]?).getD default).at v
theorem SM.num_eq (s:SM) (k v j:Nat) (hj:j < (s.ls k).length) (hr:(s.ls k)[j] < s.rs.length):s.num k v j=(s.rs[(s.ls k)[j]]).at v:=by
 unfold SM.num
 rw [List.getElem?_eq_getElem hj,Option.getD_some,List.getElem?_eq_getElem hr,Option.getD_some]
theorem SM.num_lt (s:SM) (ok:SMok s) (k v j:Nat) (hj:j < (s.ls k).length):s.num k v j < s.vs.length:=by
 have hr:=ok.l k _ (List.getElem_mem hj)
 rw [s.num_eq k v j hj hr]
 exact ok.at _ (List.getElem_mem hr) v
theorem CS.lev_lt {W0 W:World} {s:SM} {g k:Nat} {c:CS} (h:At W0 s W g c k):c.lev < 3:=by
 unfold CS.lev
 have:=h.h0
 have:=h.h1
 have:=h.h2
 split <;> assumption
theorem CS.lev_cell (c:CS) (h1:1≤c.d) (h3:c.d≤3):c.cells[2+(c.d - 1)]?=some (.int .i64 c.lev):=by
 obtain ⟨sp,pl,n,cl,l0,l1,l2,a0,e0,a1,e1,a2,e2,d⟩:=c
 simp only at h1 h3
 obtain rfl | rfl | rfl:d=1∨d=2∨d=3:=by omega
 ·rfl
 ·rfl
 ·rfl
theorem numC {W0 W:World} {s:SM} {g k:Nat} {c:CS} (h:At W0 s W g c k) (ok:SMok s) (h1:1≤c.d) (h3:c.d≤3) (j:Nat) (hj:j < c.n):
 Calls Tryz.prog 93 #[.pointer (some ⟨g,0,none⟩),.int .i64 j] W fun e w'=>e=.returned (.int .i64 (s.num k c.lev j:Nat))∧Low W.heap.size W w':=by
 obtain ⟨pv,pr,cv,cr,pp,cc,k0⟩:=h.S
 have hn:=h.n
 have hj2:j < (s.ls k).length:=by omega
 have hne:s.ls k≠[]:=by intro e;rw [e] at hj2;exact absurd hj2 (by simp)
 obtain ⟨gl,ol,el,kl⟩:=(h.l.below h.b) hne
 have hr:=ok.l k _ (List.getElem_mem hj2)
 have hne2:s.rs≠[]:=by intro e;rw [e] at hr;exact absurd hr (by simp)
 obtain ⟨gr,fr,er,kr⟩:=(k0.r.below h.b) hne2
 have S':=(h.b.block _ (zac k0.h)).trans k0.h
 have B:=h.B
 rw [s.num_eq k c.lev j hj2 hr]
 refine numAt g c.sp gl ol c.n c.cl gr fr s.rs.length cr (c.d - 1) c.lev j ((s.ls k)[j]) _ W (by omega) (CS.lev_lt h) hj hr (B.cell 0 _ rfl) ?_ ?_ (B.cell _ _ (c.lev_cell h1 h3)) ?_ (kl j hj2) ?_
 ·rw [← el];exact B.cell 1 _ rfl
 ·rw [show c.d - 1+1=c.d by omega];exact B.cell 11 _ rfl
 ·rw [← er];exact zab S' 1 rfl
 ·have hv:=CS.lev_lt h
  have R:=kr _ hr
  generalize c.lev=v at hv ⊢
  match v,hv with
  | 0,_=>exact R 0 _ rfl
  | 1,_=>exact R 1 _ rfl
  | 2,_=>exact R 2 _ rfl
theorem zlf {W0 W:World} {s:SM} {g k:Nat} {c:CS} (h:At W0 s W g c k) (h1:1≤c.d) (h3:c.d≤3):
 Calls Tryz.prog 65 #[.pointer (some ⟨g,0,none⟩)] W fun e w'=>e=.returned (.agg #[.int .i64 c.pos,.int .i64 c.fin])∧Low W.heap.size W w':=by
 have B:=h.B
 obtain ⟨sp,pl,n,cl,l0,l1,l2,a0,e0,a1,e1,a2,e2,d⟩:=c
 simp only at h1 h3
 obtain rfl | rfl | rfl:d=1∨d=2∨d=3:=by omega
 ·exact here1 g a0 e0 W (B.cell 11 _ rfl) (zsb (B.cell 5 _ rfl) (B.cell 6 _ rfl))
 ·exact here2 g a1 e1 W (B.cell 11 _ rfl) (zsb (B.cell 7 _ rfl) (B.cell 8 _ rfl))
 ·exact here3 g a2 e2 W (B.cell 11 _ rfl) (zsb (B.cell 9 _ rfl) (B.cell 10 _ rfl))
set_option maxHeartbeats 1600000 in
set_option maxRecDepth 20000 in
theorem znw {W0 W:World} {s:SM} {g k:Nat} {c:CS} (h:At W0 s W g c k) (h3:c.d≤3):
 Calls Tryz.prog 62 #[.pointer (some ⟨g,0,none⟩)] W fun e w'=>e=.returned (.bool (decide (1≤c.d) && decide (c.pos < c.fin)))∧Low W.heap.size W w':=by
 have c11:=h.B.c11
 by_cases h1:1≤c.d
 ·have hh:=zlf h h1 h3
  have he:=fun w=>zeo c.pos c.fin w
  have hr:(decide (1≤c.d) && decide (c.pos < c.fin))=!decide (c.fin≤c.pos):=by
   rw [decide_eq_true h1,Bool.true_and]
   by_cases q:c.pos < c.fin
   ·rw [decide_eq_true q,decide_eq_false (by omega)];rfl
   ·rw [decide_eq_false q,decide_eq_true (by omega)];rfl
  rw [hr]
  have hd:(0:Int) < (c.d:Int):=by omega
  clear hr h
  generalize decide (c.fin≤c.pos)=z at*
  generalize (c.pos:Nat)=a at*
  generalize (c.fin:Nat)=f at*
  go_enter Tryz.func62,Tryz.ntmps62
  go_wp2_with (first
   |(go_at_call 65;(with_reducible refine hh.mono ?_);rintro e w3 ⟨rfl,hb3⟩)
   |(go_at_call 56;(with_reducible refine (he _).mono ?_);rintro e w4 ⟨rfl,hb4⟩;have hb5:=zad hb3 hb4 hb3.size))
  go_ret
  exact ⟨rfl,hb5⟩
 ·have hz:c.d=0:=by omega
  have c11:W.cell? ⟨g,11,none⟩=some (.int .i64 0):=by have:=h.B.c11;rw [hz] at this;exact this
  rw [decide_eq_false h1,Bool.false_and]
  clear h
  go_enter Tryz.func62,Tryz.ntmps62
  go_wp2_with fail
  go_ret
  exact ⟨rfl,Low.refl _ _⟩
theorem ze8 (a f:Int) (w:World):(Instr.field 90 (.agg #[.int .i64 a,.int .i64 f]) 0).run Tryz.prog w=.ok (.int .i64 a) w:=by
 unfold Instr.field
 rw [Sem.run_bind,run_underlying Tryz.underlying90 w]
 simp [part,asAgg,Sem.run_bind,isAgg,sizeOf]
set_option maxHeartbeats 1600000 in
set_option maxRecDepth 20000 in
theorem z0p {W0 W:World} {s:SM} {g k:Nat} {c:CS} (h:At W0 s W g c k) (ok:SMok s) (h1:1≤c.d) (h3:c.d≤3) (j:Nat) (hj:j < c.n) (hp:c.pos < c.n):
 Calls Tryz.prog 59 #[.pointer (some ⟨g,0,none⟩),.int .i64 j] W fun e w'=>e=.returned (.bool (s.num k c.lev j == s.num k c.lev c.pos))∧Low W.heap.size W w':=by
 have hc1:=fun W' (b:Low W.heap.size W W')=>numC (h.low b) ok h1 h3 j hj
 have hc2:=fun W' (b:Low W.heap.size W W')=>numC (h.low b) ok h1 h3 c.pos hp
 have hc3:=fun W' (b:Low W.heap.size W W')=>zlf (h.low b) h1 h3
 have b0:=Low.refl W.heap.size W
 have hr:(s.num k c.lev j == s.num k c.lev c.pos)=((s.num k c.lev j:Int) == (s.num k c.lev c.pos:Int)):=by
  rw [Bool.eq_iff_iff];simp only [beq_iff_eq];omega
 rw [hr]
 clear hr h
 generalize ((s.num k c.lev j:Nat):Int)=x at*
 generalize ((s.num k c.lev c.pos:Nat):Int)=y at*
 generalize (c.pos:Nat)=a at*
 generalize (c.fin:Nat)=f at*
 have hfl:=fun w=>ze8 a f w
 go_enter Tryz.func59,Tryz.ntmps59
 go_wp2_with (first
  |(go_at_call 93;(with_reducible refine (hc1 _ b0).mono ?_);rintro e w3 ⟨rfl,hb3⟩;replace b0:=zad b0 hb3 b0.size;clear hb3;clear hc1)
  |(go_at_call 93;(with_reducible refine (hc2 _ b0).mono ?_);rintro e w3 ⟨rfl,hb3⟩;replace b0:=zad b0 hb3 b0.size;clear hb3)
  |(go_at_call 65;(with_reducible refine (hc3 _ b0).mono ?_);rintro e w3 ⟨rfl,hb3⟩;replace b0:=zad b0 hb3 b0.size;clear hb3))
 go_ret
 exact ⟨rfl,b0⟩
end Go.Proofs.YtanbgdhmfjgihaaGreatDoor

/- WG -/
namespace Go.Proofs.YtanbgdhmfjgihaaGreatDoor
open Go.RowKit
theorem Six.low {w w':World} {g:Nat} {k:Int} {b:Bool} {n:Int} {t x:ByteArray} {p:Option Addr} {len cap:Nat} (h:Six w g k b n t x p len cap) (c:Low w.heap.size w w'):Six w' g k b n t x p len cap:=h.below c.is
set_option maxHeartbeats 3200000 in
set_option maxRecDepth 20000 in
theorem zy6 (g sp gv ov nv cv j m:Nat) (v:V6) (w:World) (hm:m < nv)
 (k0:w.cell? ⟨g,0,none⟩=some (.pointer (some ⟨sp,0,none⟩))) (k1:w.cell? ⟨sp,0,none⟩=some (.slice (some ⟨gv,ov,none⟩) nv cv)) (kr:w.rangeAt gv (ov+m*6) [.int .i64 v.k,.bool v.b,.int .i64 v.n,.string v.t,.string v.x,.slice v.p v.len v.cap])
 (hn:∀ W,Low w.heap.size w W→Calls Tryz.prog 93 #[.pointer (some ⟨g,0,none⟩),.int .i64 j] W fun e w'=>e=.returned (.int .i64 m)∧Low W.heap.size W w'):
 Calls Tryz.prog 64 #[.pointer (some ⟨g,0,none⟩),.int .i64 j] w fun e w'=>e=.returned (.agg #[.int .i64 v.k,.bool v.b,.int .i64 v.n,.string v.t,.string v.x,.slice v.p v.len v.cap])∧Low w.heap.size w w':=by
 obtain ⟨W1,hW1⟩:∃ W1,W1=w.alloc (.cells #[.int .i64 0,.bool false,.int .i64 0,.string ⟨#[]⟩,.string ⟨#[]⟩,.slice none 0 0] 39):=⟨_,rfl⟩
 have hS:Six W1.drew w.heap.size 0 false 0 ⟨#[]⟩ ⟨#[]⟩ none 0 0:=by rw [hW1];exact zah _ rfl
 have b0:Low w.heap.size w W1:=by rw [hW1];exact low1 _ _
 have K0:Hid (∀ W,Low w.heap.size w W→W.cell? ⟨g,0,none⟩=some (.pointer (some ⟨sp,0,none⟩))):=Lib.hid fun W h=>(h.cell (p:=⟨g,0,none⟩) (World.block_lt_of_cell? w _ k0)).trans k0
 have K1:Hid (∀ W,Low w.heap.size w W→W.cell? ⟨sp,0,none⟩=some (.slice (some ⟨gv,ov,none⟩) nv cv)):=Lib.hid fun W h=>(h.cell (p:=⟨sp,0,none⟩) (World.block_lt_of_cell? w _ k1)).trans k1
 have KR:Hid (∀ W,Low w.heap.size w W→W.rangeAt gv (ov+m*6) [.int .i64 v.k,.bool v.b,.int .i64 v.n,.string v.t,.string v.x,.slice v.p v.len v.cap]):=Lib.hid fun W h=>zaf kr h.is
 have HN:=Lib.hid hn
 have hmi:(m:Int) < nv:=by omega
 have HW:=Lib.hid hW1
 clear hW1 k0 k1 kr hn
 go_enter Tryz.func64,Tryz.ntmps64
 go_upto_region 1 with fail
 rw [← HW.out]
 refine wp_region_held_drew (S:=fun W=>Low w.heap.size w W) (by kernel_rfl) b0.drew (fun hHeld=>?_)
 refine tg (i:=0) (.pointer (some ⟨g,0,none⟩)) rfl hHeld ?_
 refine tg (i:=1) (.pointer (some ⟨g,0,none⟩)) rfl hHeld ?_
 refine tg (i:=2) (.pointer (some ⟨g,0,none⟩)) rfl hHeld ?_
 refine tk (i:=3) (v:=.pointer (some ⟨sp,0,none⟩)) rfl (Or.inl ⟨by rfl,fun W h=>by have c0:=K0.out W h;go_simp⟩) hHeld ?_
 refine tg (i:=4) (.pointer (some ⟨sp,0,none⟩)) rfl hHeld ?_
 refine tg (i:=5) (.pointer (some ⟨sp,0,none⟩)) rfl hHeld ?_
 refine tk (i:=6) (v:=.slice (some ⟨gv,ov,none⟩) nv cv) rfl (Or.inl ⟨by rfl,fun W h=>by have c0:=K1.out W h;go_simp⟩) hHeld ?_
 refine tg (i:=7) (.pointer (some ⟨g,0,none⟩)) rfl hHeld ?_
 refine tg (i:=8) (.int .i64 j) rfl hHeld ?_
 refine tr 9 rfl (fun K hK=>?_)
 rw [if_pos (by rfl)]
 go_simp
 refine (HN.out _ hHeld).mono ?_
 rintro e0 w3 ⟨rfl,hb3⟩
 have hH2:=zad hHeld hb3 hHeld.size
 have hS3:=Six.low hS hb3
 clear hb3
 refine hK.out _ _ hH2 (fun hH2=>?_)
 clear hK K
 try simp only [putS]
 refine tg (i:=10) (.pointer (some ⟨gv,ov+m*6,none⟩)) rfl hH2 ?_
 refine tk (i:=11) rfl (yieldsIf_load_mid (by rfl) 39 (.tmp 15) rfl (gv) (ov+m*6) rfl _ _ (fun w h=>KR.out w h) Tryz.underlying39 rfl zav) hH2 ?_
 refine tr 12 rfl (fun K hK=>?_)
 rw [if_pos (by rfl)]
 obtain ⟨hH3,u4⟩:Low w.heap.size w w3∧Six w3 w.heap.size 0 false 0 ⟨#[]⟩ ⟨#[]⟩ none 0 0:=⟨hH2,hS3⟩
 have b1:=zbo hH3 (Only.setRow (b:=w.heap.size) w3 #[.int .i64 v.k,.bool v.b,.int .i64 v.n,.string v.t,.string v.x,.slice v.p v.len v.cap]) (Nat.le_refl _) hH3.size
 refine wp_store_row 39 (.tmp 4) (.tmp 16) rfl w.heap.size #[.int .i64 v.k,.bool v.b,.int .i64 v.n,.string v.t,.string v.x,.slice v.p v.len v.cap] rfl rfl 39 _ u4 zav rfl (by simp [Value.oneCell']) ?_
 refine hK.out _ _ b1 (fun _=>?_)
 have u5:=za4 (w:=w3) (g:=w.heap.size) (c':=#[.int .i64 v.k,.bool v.b,.int .i64 v.n,.string v.t,.string v.x,.slice v.p v.len v.cap]) u4
 generalize w3.setRow w.heap.size #[.int .i64 v.k,.bool v.b,.int .i64 v.n,.string v.t,.string v.x,.slice v.p v.len v.cap]=w5 at*
 clear hK K
 refine wpAnyH_done (by kernel_rfl) ?_ _
 go_wp2_with fail
 exact bodyPost_ret (v:=.agg #[.int .i64 v.k,.bool v.b,.int .i64 v.n,.string v.t,.string v.x,.slice v.p v.len v.cap]) (results_cell_row (p:=4) (ty:=39) Tryz.results64 _ _ w.heap.size 39 _ (0,0) _ rfl u5 Tryz.underlying39 rfl (by exact zav)) rfl ⟨rfl,b1⟩
theorem zil {W0 W:World} {s:SM} {g k:Nat} {c:CS} (h:At W0 s W g c k) (ok:SMok s) (h1:1≤c.d) (h3:c.d≤3) (j:Nat) (hj:j < c.n):
 ∃ v:V6,∃ q,Is W v (s.vs[s.num k c.lev j]'(s.num_lt ok k c.lev j (by have:=h.n;omega))) q∧
  ∀ W',Low W.heap.size W W'→Calls Tryz.prog 64 #[.pointer (some ⟨g,0,none⟩),.int .i64 j] W' fun e w'=>e=.returned (.agg #[.int .i64 v.k,.bool v.b,.int .i64 v.n,.string v.t,.string v.x,.slice v.p v.len v.cap])∧Low W'.heap.size W' w':=by
 have hm:=s.num_lt ok k c.lev j (by have:=h.n;omega)
 obtain ⟨pv,pr,cv,cr,pp,cc,k0⟩:=h.S
 have hne:s.vs≠[]:=by intro e;rw [e] at hm;exact absurd hm (by simp)
 obtain ⟨gv,ov,ev,kv⟩:=(k0.v.below h.b) hne
 have h0:=zaq.at_ s.vs ov kv (s.num k c.lev j) hm
 obtain ⟨v,q,i1,i2⟩:=isOf h0
 refine ⟨v,q,i1,fun W' b=>?_⟩
 have h':=h.low b
 have S':=(h'.b.block _ (zac k0.h)).trans k0.h
 refine zy6 g c.sp gv ov s.vs.length cv j (s.num k c.lev j) v W' hm (h'.B.cell 0 _ rfl) (by rw [← ev];exact zab S' 0 rfl) (zaf i2 b.is) (fun W2 b2=>numC (h'.low b2) ok h1 h3 j hj)
end Go.Proofs.YtanbgdhmfjgihaaGreatDoor

/- WH -/
namespace Go.Proofs.YtanbgdhmfjgihaaGreatDoor
open Go.RowKit
def CS.go (c:CS) (x:Nat):CS:=match c.d with | 1=>{ c with a0:=x } | 2=>{ c with a1:=x } | _=>{ c with a2:=x }
def CS.up (c:CS):CS:={ c with d:=c.d - 1 }
def CS.down (c:CS) (a e:Nat):CS:=match c.d with | 0=>{ c with a0:=a,e0:=e,d:=1 } | 1=>{ c with a1:=a,e1:=e,d:=2 } | _=>{ c with a2:=a,e2:=e,d:=3 }
structure zcj (c c':CS):Prop where
 sp:c'.sp=c.sp
 pl:c'.pl=c.pl
 n:c'.n=c.n
 l0:c'.l0=c.l0
 l1:c'.l1=c.l1
 l2:c'.l2=c.l2
theorem CS.go_alike (c:CS) (x:Nat):zcj c (c.go x):=by unfold CS.go;split <;> exact ⟨rfl,rfl,rfl,rfl,rfl,rfl⟩
theorem CS.up_alike (c:CS):zcj c c.up:=⟨rfl,rfl,rfl,rfl,rfl,rfl⟩
theorem CS.down_alike (c:CS) (a e:Nat):zcj c (c.down a e):=by unfold CS.down;split <;> exact ⟨rfl,rfl,rfl,rfl,rfl,rfl⟩
theorem CS.go_d (c:CS) (x:Nat):(c.go x).d=c.d:=by unfold CS.go;split <;> rfl
theorem CS.go_pos (c:CS) (x:Nat) (h1:1≤c.d) (h3:c.d≤3):(c.go x).pos=x:=by
 obtain ⟨sp,pl,n,cl,l0,l1,l2,a0,e0,a1,e1,a2,e2,d⟩:=c
 simp only at h1 h3
 obtain rfl | rfl | rfl:d=1∨d=2∨d=3:=by omega
 ·rfl
 ·rfl
 ·rfl
theorem CS.go_fin (c:CS) (x:Nat) (h1:1≤c.d) (h3:c.d≤3):(c.go x).fin=c.fin:=by
 obtain ⟨sp,pl,n,cl,l0,l1,l2,a0,e0,a1,e1,a2,e2,d⟩:=c
 simp only at h1 h3
 obtain rfl | rfl | rfl:d=1∨d=2∨d=3:=by omega
 ·rfl
 ·rfl
 ·rfl
theorem CS.go_lev (c:CS) (x:Nat) (h1:1≤c.d) (h3:c.d≤3):(c.go x).lev=c.lev:=by
 obtain ⟨sp,pl,n,cl,l0,l1,l2,a0,e0,a1,e1,a2,e2,d⟩:=c
 simp only at h1 h3
 obtain rfl | rfl | rfl:d=1∨d=2∨d=3:=by omega
 ·rfl
 ·rfl
 ·rfl
theorem At.only {W0 W W':World} {s:SM} {g k:Nat} {c c':CS} (h:At W0 s W g c k) (a:zcj c c') (b:Only g W W') (B:Cur W' g c'):At W0 s W' g c' k where
 S:=by rw [a.sp];exact h.S
 n:=by rw [a.n];exact h.n
 l:=by rw [a.pl];exact h.l
 h0:=by rw [a.l0];exact h.h0
 h1:=by rw [a.l1];exact h.h1
 h2:=by rw [a.l2];exact h.h2
 hg:=h.hg
 b:=zai h.b b h.hg h.b.size
 B:=B
theorem znx {g:Nat} {x y z:World} (h:Only g x y) (k:Low y.heap.size y z):Only g x z:=h.trans (Only.of_low k)
theorem upC {W:World} {g:Nat} {c:CS} (B:Cur W g c) (h3:c.d≤3):
 Calls Tryz.prog 24 #[.pointer (some ⟨g,0,none⟩)] W fun e w'=>e=.returned (.bool (decide (1≤c.d)))∧Only g W w'∧Cur w' g c.up:=by
 by_cases h1:1≤c.d
 ·have c11:=B.c11
  have f11:W.frozen? ⟨g,11,none⟩=false:=zbs B _
  have e1:((c.d:Int) == 0)=false:=by simp;omega
  have e2:IntKind.i64.wrap ((c.d:Int) - 1)=(c.d:Int) - 1:=IntWalk.i64_in _ (by omega)
  rw [decide_eq_true h1]
  have fin:Only g W (W.setCell ⟨g,11,none⟩ (.int .i64 ((c.d:Int) - 1)))∧Cur (W.setCell ⟨g,11,none⟩ (.int .i64 ((c.d:Int) - 1))) g c.up:=by
   refine ⟨(Only.refl g W).setCell 11 none _,?_⟩
   have:=zba B 11 (.int .i64 ((c.d:Int) - 1))
   rw [show (c.d:Int) - 1=((c.d - 1:Nat):Int) by omega] at this ⊢
   exact this
  have FIN:=Lib.hid fin
  clear fin B
  generalize (c.d:Int)=d at*
  go_enter Tryz.func24,Tryz.ntmps24
  go_wp2_with fail
  go_ret
  exact ⟨rfl,FIN.out⟩
 ·have hz:c.d=0:=by omega
  have c11:W.cell? ⟨g,11,none⟩=some (.int .i64 0):=by have:=B.c11;rw [hz] at this;exact this
  rw [decide_eq_false h1]
  have fin:Cur W g c.up:=by
   have e:c.up=c:=by
    obtain ⟨sp,pl,n,cl,l0,l1,l2,a0,e0,a1,e1,a2,e2,d⟩:=c
    simp only at hz
    subst hz
    rfl
   rw [e];exact B
  have FIN:=Lib.hid fin
  clear fin B
  go_enter Tryz.func24,Tryz.ntmps24
  go_wp2_with fail
  go_ret
  exact ⟨rfl,Only.refl _ _,FIN.out⟩
theorem depthC {W:World} {g:Nat} {c:CS} (B:Cur W g c):
 Calls Tryz.prog 33 #[.pointer (some ⟨g,0,none⟩)] W fun e w'=>e=.returned (.int .i64 c.d)∧w'=W:=by
 have c11:=B.c11
 clear B
 go_enter Tryz.func33,Tryz.ntmps33
 go_wp2_with fail
 go_ret
 exact ⟨rfl,rfl⟩
theorem z0q {W:World} {g:Nat} {F:Value} (h:Calls Tryz.prog 62 #[.pointer (some ⟨g,0,none⟩)] W fun e w'=>e=.returned (.bool false)∧Low W.heap.size W w'):
 Calls Tryz.prog 58 #[.pointer (some ⟨g,0,none⟩),F] W fun e w'=>e=.returned (.bool false)∧Low W.heap.size W w':=by
 go_enter Tryz.func58,Tryz.ntmps58
 go_wp2_with (go_at_call 62;(with_reducible refine h.mono ?_);rintro e w3 ⟨rfl,hb3⟩)
 go_ret
 exact ⟨rfl,hb3⟩
set_option maxHeartbeats 3200000 in
set_option maxRecDepth 20000 in
theorem passGo1 (g:Nat) (F:Value) (a e r:Nat) (z:Bool) (cs cs':Array Value) (w:World) (B:w.heap[g]?=some (.cells cs 93)) (k11:cs[11]?=some (.int .i64 1)) (ka:cs[5]?=some (.int .i64 a)) (kc:cs.setIfInBounds 5 (.int .i64 r)=cs') (k12:cs'[11]?=some (.int .i64 1))
 (h1:Calls Tryz.prog 62 #[.pointer (some ⟨g,0,none⟩)] w fun e w'=>e=.returned (.bool true)∧Low w.heap.size w w')
 (h2:∀ W,Low w.heap.size w W→Calls Tryz.prog 65 #[.pointer (some ⟨g,0,none⟩)] W fun e' w'=>e'=.returned (.agg #[.int .i64 a,.int .i64 e])∧Low W.heap.size W w')
 (h3:∀ W,Low w.heap.size w W→Calls Tryz.prog 91 #[.agg #[.int .i64 a,.int .i64 e],F] W fun e' w'=>e'=.returned (.int .i64 r)∧Low W.heap.size W w')
 (h4:∀ W,Only g w W→W.heap[g]?=some (.cells cs' 93)→Calls Tryz.prog 62 #[.pointer (some ⟨g,0,none⟩)] W fun e' w'=>e'=.returned (.bool z)∧Low W.heap.size W w'):
 Calls Tryz.prog 58 #[.pointer (some ⟨g,0,none⟩),F] w fun e w'=>e=.returned (.bool z)∧Only g w w'∧w'.heap[g]?=some (.cells cs' 93):=by
 have H2:=Lib.hid h2
 have H3:=Lib.hid h3
 have H4:=Lib.hid h4
 have HC:=Lib.hid kc
 have HK:=Lib.hid k11
 have HK2:=Lib.hid ka
 have HK3:=Lib.hid k12
 clear h2 h3 h4 kc k11 ka k12
 go_enter Tryz.func58,Tryz.ntmps58
 go_upto_region 3 with (go_at_call 62;(with_reducible refine h1.mono ?_);rintro e0 w2 ⟨rfl,l1⟩)
 replace l1:=l1.drew
 have B1:=(l1.block _ (zac B)).trans B
 have q11:w2.drew.cell? ⟨g,11,none⟩=some (.int .i64 1):=zab B1 11 HK.out
 refine wp_region_held_drew (S:=fun W=>W.cell? ⟨g,11,none⟩=some (.int .i64 1)) (by kernel_rfl) q11 (fun hHeld=>?_)
 refine tg (i:=0) (.pointer (some ⟨g,0,none⟩)) rfl hHeld ?_
 refine tg (i:=1) (.pointer (some ⟨g,0,none⟩)) rfl hHeld ?_
 refine tg (i:=2) (.pointer (some ⟨g,0,none⟩)) rfl hHeld ?_
 refine tg (i:=3) (.pointer (some ⟨g,11,none⟩)) rfl hHeld ?_
 refine tk (i:=4) (v:=.int .i64 1) rfl (Or.inl ⟨by rfl,fun W h=>by have c0:=h;go_simp⟩) hHeld ?_
 refine tk (i:=5) (v:=.int .i64 0) rfl (Or.inl ⟨by rfl,fun W _=>by go_simp;try rfl⟩) hHeld ?_
 refine tg (i:=6) (.pointer (some ⟨g,0,none⟩)) rfl hHeld ?_
 refine tg (i:=8) F rfl hHeld ?_
 refine tg (i:=10) (.pointer (some ⟨g,0,none⟩)) rfl hHeld ?_
 refine tg (i:=11) (.pointer (some ⟨g,5,none⟩)) rfl hHeld ?_
 refine tr 7 rfl (fun K hK=>?_)
 rw [if_pos (by rfl)]
 go_simp
 refine (H2.out _ l1).mono ?_
 rintro e0 w3 ⟨rfl,hb3⟩
 have B2:=(hb3.block _ (zac B1)).trans B1
 have l2:=zad l1 hb3 l1.size
 have q11:w3.cell? ⟨g,11,none⟩=some (.int .i64 1):=zab B2 11 (HK.out)
 clear hb3
 refine hK.out _ _ q11 (fun hHeld2=>?_)
 clear hK K
 try simp only [putS]
 refine tr 9 rfl (fun K hK=>?_)
 rw [if_pos (by rfl)]
 go_simp
 refine (H3.out _ l2).mono ?_
 rintro e0 w3 ⟨rfl,hb3⟩
 have B3:=(hb3.block _ (zac B2)).trans B2
 have l3:=zad l2 hb3 l2.size
 have q11:w3.cell? ⟨g,11,none⟩=some (.int .i64 1):=zab B3 11 (HK.out)
 clear hb3
 refine hK.out _ _ q11 (fun hHeld3=>?_)
 clear hK K
 try simp only [putS]
 refine tg (i:=12) (.pointer (some ⟨g,5,none⟩)) rfl hHeld3 ?_
 refine tg (i:=13) (.pointer (some ⟨g,5,none⟩)) rfl hHeld3 ?_
 refine tr 14 rfl (fun K hK=>?_)
 have c0:=zab B3 5 HK2.out
 have f0:w3.frozen? ⟨g,5,none⟩=false:=zbs B3 _
 go_simp
 have hon:Only g w (w3.setCell ⟨g,5,none⟩ (.int .i64 r)):=(Only.of_low (b:=g) l3).setCell 5 none _
 have hcur:=zba B3 5 (.int .i64 r)
 rw [HC.out] at hcur
 generalize w3.setCell ⟨g,5,none⟩ (.int .i64 r)=w5 at*
 have q12:w5.cell? ⟨g,11,none⟩=some (.int .i64 1):=zab hcur 11 HK3.out
 refine hK.out _ _ q12 (fun _=>?_)
 clear hK K
 refine wpAnyH_done (by kernel_rfl) ?_ _
 go_wp2_with (go_at_call 62;(with_reducible refine (H4.out _ hon hcur).mono ?_);rintro e0 w6 ⟨rfl,hb6⟩)
 go_ret
 exact ⟨rfl,znx hon hb6,(hb6.block _ (zac hcur)).trans hcur⟩
set_option maxHeartbeats 3200000 in
set_option maxRecDepth 20000 in
theorem passGo2 (g:Nat) (F:Value) (a e r:Nat) (z:Bool) (cs cs':Array Value) (w:World) (B:w.heap[g]?=some (.cells cs 93)) (k11:cs[11]?=some (.int .i64 2)) (ka:cs[7]?=some (.int .i64 a)) (kc:cs.setIfInBounds 7 (.int .i64 r)=cs') (k12:cs'[11]?=some (.int .i64 2))
 (h1:Calls Tryz.prog 62 #[.pointer (some ⟨g,0,none⟩)] w fun e w'=>e=.returned (.bool true)∧Low w.heap.size w w')
 (h2:∀ W,Low w.heap.size w W→Calls Tryz.prog 65 #[.pointer (some ⟨g,0,none⟩)] W fun e' w'=>e'=.returned (.agg #[.int .i64 a,.int .i64 e])∧Low W.heap.size W w')
 (h3:∀ W,Low w.heap.size w W→Calls Tryz.prog 91 #[.agg #[.int .i64 a,.int .i64 e],F] W fun e' w'=>e'=.returned (.int .i64 r)∧Low W.heap.size W w')
 (h4:∀ W,Only g w W→W.heap[g]?=some (.cells cs' 93)→Calls Tryz.prog 62 #[.pointer (some ⟨g,0,none⟩)] W fun e' w'=>e'=.returned (.bool z)∧Low W.heap.size W w'):
 Calls Tryz.prog 58 #[.pointer (some ⟨g,0,none⟩),F] w fun e w'=>e=.returned (.bool z)∧Only g w w'∧w'.heap[g]?=some (.cells cs' 93):=by
 have H2:=Lib.hid h2
 have H3:=Lib.hid h3
 have H4:=Lib.hid h4
 have HC:=Lib.hid kc
 have HK:=Lib.hid k11
 have HK2:=Lib.hid ka
 have HK3:=Lib.hid k12
 clear h2 h3 h4 kc k11 ka k12
 go_enter Tryz.func58,Tryz.ntmps58
 go_upto_region 3 with (go_at_call 62;(with_reducible refine h1.mono ?_);rintro e0 w2 ⟨rfl,l1⟩)
 replace l1:=l1.drew
 have B1:=(l1.block _ (zac B)).trans B
 have q11:w2.drew.cell? ⟨g,11,none⟩=some (.int .i64 2):=zab B1 11 HK.out
 refine wp_region_held_drew (S:=fun W=>W.cell? ⟨g,11,none⟩=some (.int .i64 2)) (by kernel_rfl) q11 (fun hHeld=>?_)
 refine tg (i:=0) (.pointer (some ⟨g,0,none⟩)) rfl hHeld ?_
 refine tg (i:=1) (.pointer (some ⟨g,0,none⟩)) rfl hHeld ?_
 refine tg (i:=2) (.pointer (some ⟨g,0,none⟩)) rfl hHeld ?_
 refine tg (i:=3) (.pointer (some ⟨g,11,none⟩)) rfl hHeld ?_
 refine tk (i:=4) (v:=.int .i64 2) rfl (Or.inl ⟨by rfl,fun W h=>by have c0:=h;go_simp⟩) hHeld ?_
 refine tk (i:=5) (v:=.int .i64 1) rfl (Or.inl ⟨by rfl,fun W _=>by go_simp;try rfl⟩) hHeld ?_
 refine tg (i:=6) (.pointer (some ⟨g,0,none⟩)) rfl hHeld ?_
 refine tg (i:=8) F rfl hHeld ?_
 refine tg (i:=10) (.pointer (some ⟨g,0,none⟩)) rfl hHeld ?_
 refine tg (i:=11) (.pointer (some ⟨g,5,none⟩)) rfl hHeld ?_
 refine tr 7 rfl (fun K hK=>?_)
 rw [if_pos (by rfl)]
 go_simp
 refine (H2.out _ l1).mono ?_
 rintro e0 w3 ⟨rfl,hb3⟩
 have B2:=(hb3.block _ (zac B1)).trans B1
 have l2:=zad l1 hb3 l1.size
 have q11:w3.cell? ⟨g,11,none⟩=some (.int .i64 2):=zab B2 11 (HK.out)
 clear hb3
 refine hK.out _ _ q11 (fun hHeld2=>?_)
 clear hK K
 try simp only [putS]
 refine tr 9 rfl (fun K hK=>?_)
 rw [if_pos (by rfl)]
 go_simp
 refine (H3.out _ l2).mono ?_
 rintro e0 w3 ⟨rfl,hb3⟩
 have B3:=(hb3.block _ (zac B2)).trans B2
 have l3:=zad l2 hb3 l2.size
 have q11:w3.cell? ⟨g,11,none⟩=some (.int .i64 2):=zab B3 11 (HK.out)
 clear hb3
 refine hK.out _ _ q11 (fun hHeld3=>?_)
 clear hK K
 try simp only [putS]
 refine tg (i:=12) (.pointer (some ⟨g,7,none⟩)) rfl hHeld3 ?_
 refine tg (i:=13) (.pointer (some ⟨g,7,none⟩)) rfl hHeld3 ?_
 refine tr 14 rfl (fun K hK=>?_)
 have c0:=zab B3 7 HK2.out
 have f0:w3.frozen? ⟨g,7,none⟩=false:=zbs B3 _
 go_simp
 have hon:Only g w (w3.setCell ⟨g,7,none⟩ (.int .i64 r)):=(Only.of_low (b:=g) l3).setCell 7 none _
 have hcur:=zba B3 7 (.int .i64 r)
 rw [HC.out] at hcur
 generalize w3.setCell ⟨g,7,none⟩ (.int .i64 r)=w5 at*
 have q12:w5.cell? ⟨g,11,none⟩=some (.int .i64 2):=zab hcur 11 HK3.out
 refine hK.out _ _ q12 (fun _=>?_)
 clear hK K
 refine wpAnyH_done (by kernel_rfl) ?_ _
 go_wp2_with (go_at_call 62;(with_reducible refine (H4.out _ hon hcur).mono ?_);rintro e0 w6 ⟨rfl,hb6⟩)
 go_ret
 exact ⟨rfl,znx hon hb6,(hb6.block _ (zac hcur)).trans hcur⟩
set_option maxHeartbeats 3200000 in
set_option maxRecDepth 20000 in
theorem passGo3 (g:Nat) (F:Value) (a e r:Nat) (z:Bool) (cs cs':Array Value) (w:World) (B:w.heap[g]?=some (.cells cs 93)) (k11:cs[11]?=some (.int .i64 3)) (ka:cs[9]?=some (.int .i64 a)) (kc:cs.setIfInBounds 9 (.int .i64 r)=cs') (k12:cs'[11]?=some (.int .i64 3))
 (h1:Calls Tryz.prog 62 #[.pointer (some ⟨g,0,none⟩)] w fun e w'=>e=.returned (.bool true)∧Low w.heap.size w w')
 (h2:∀ W,Low w.heap.size w W→Calls Tryz.prog 65 #[.pointer (some ⟨g,0,none⟩)] W fun e' w'=>e'=.returned (.agg #[.int .i64 a,.int .i64 e])∧Low W.heap.size W w')
 (h3:∀ W,Low w.heap.size w W→Calls Tryz.prog 91 #[.agg #[.int .i64 a,.int .i64 e],F] W fun e' w'=>e'=.returned (.int .i64 r)∧Low W.heap.size W w')
 (h4:∀ W,Only g w W→W.heap[g]?=some (.cells cs' 93)→Calls Tryz.prog 62 #[.pointer (some ⟨g,0,none⟩)] W fun e' w'=>e'=.returned (.bool z)∧Low W.heap.size W w'):
 Calls Tryz.prog 58 #[.pointer (some ⟨g,0,none⟩),F] w fun e w'=>e=.returned (.bool z)∧Only g w w'∧w'.heap[g]?=some (.cells cs' 93):=by
 have H2:=Lib.hid h2
 have H3:=Lib.hid h3
 have H4:=Lib.hid h4
 have HC:=Lib.hid kc
 have HK:=Lib.hid k11
 have HK2:=Lib.hid ka
 have HK3:=Lib.hid k12
 clear h2 h3 h4 kc k11 ka k12
 go_enter Tryz.func58,Tryz.ntmps58
 go_upto_region 3 with (go_at_call 62;(with_reducible refine h1.mono ?_);rintro e0 w2 ⟨rfl,l1⟩)
 replace l1:=l1.drew
 have B1:=(l1.block _ (zac B)).trans B
 have q11:w2.drew.cell? ⟨g,11,none⟩=some (.int .i64 3):=zab B1 11 HK.out
 refine wp_region_held_drew (S:=fun W=>W.cell? ⟨g,11,none⟩=some (.int .i64 3)) (by kernel_rfl) q11 (fun hHeld=>?_)
 refine tg (i:=0) (.pointer (some ⟨g,0,none⟩)) rfl hHeld ?_
 refine tg (i:=1) (.pointer (some ⟨g,0,none⟩)) rfl hHeld ?_
 refine tg (i:=2) (.pointer (some ⟨g,0,none⟩)) rfl hHeld ?_
 refine tg (i:=3) (.pointer (some ⟨g,11,none⟩)) rfl hHeld ?_
 refine tk (i:=4) (v:=.int .i64 3) rfl (Or.inl ⟨by rfl,fun W h=>by have c0:=h;go_simp⟩) hHeld ?_
 refine tk (i:=5) (v:=.int .i64 2) rfl (Or.inl ⟨by rfl,fun W _=>by go_simp;try rfl⟩) hHeld ?_
 refine tg (i:=6) (.pointer (some ⟨g,0,none⟩)) rfl hHeld ?_
 refine tg (i:=8) F rfl hHeld ?_
 refine tg (i:=10) (.pointer (some ⟨g,0,none⟩)) rfl hHeld ?_
 refine tg (i:=11) (.pointer (some ⟨g,5,none⟩)) rfl hHeld ?_
 refine tr 7 rfl (fun K hK=>?_)
 rw [if_pos (by rfl)]
 go_simp
 refine (H2.out _ l1).mono ?_
 rintro e0 w3 ⟨rfl,hb3⟩
 have B2:=(hb3.block _ (zac B1)).trans B1
 have l2:=zad l1 hb3 l1.size
 have q11:w3.cell? ⟨g,11,none⟩=some (.int .i64 3):=zab B2 11 (HK.out)
 clear hb3
 refine hK.out _ _ q11 (fun hHeld2=>?_)
 clear hK K
 try simp only [putS]
 refine tr 9 rfl (fun K hK=>?_)
 rw [if_pos (by rfl)]
 go_simp
 refine (H3.out _ l2).mono ?_
 rintro e0 w3 ⟨rfl,hb3⟩
 have B3:=(hb3.block _ (zac B2)).trans B2
 have l3:=zad l2 hb3 l2.size
 have q11:w3.cell? ⟨g,11,none⟩=some (.int .i64 3):=zab B3 11 (HK.out)
 clear hb3
 refine hK.out _ _ q11 (fun hHeld3=>?_)
 clear hK K
 try simp only [putS]
 refine tg (i:=12) (.pointer (some ⟨g,9,none⟩)) rfl hHeld3 ?_
 refine tg (i:=13) (.pointer (some ⟨g,9,none⟩)) rfl hHeld3 ?_
 refine tr 14 rfl (fun K hK=>?_)
 have c0:=zab B3 9 HK2.out
 have f0:w3.frozen? ⟨g,9,none⟩=false:=zbs B3 _
 go_simp
 have hon:Only g w (w3.setCell ⟨g,9,none⟩ (.int .i64 r)):=(Only.of_low (b:=g) l3).setCell 9 none _
 have hcur:=zba B3 9 (.int .i64 r)
 rw [HC.out] at hcur
 generalize w3.setCell ⟨g,9,none⟩ (.int .i64 r)=w5 at*
 have q12:w5.cell? ⟨g,11,none⟩=some (.int .i64 3):=zab hcur 11 HK3.out
 refine hK.out _ _ q12 (fun _=>?_)
 clear hK K
 refine wpAnyH_done (by kernel_rfl) ?_ _
 go_wp2_with (go_at_call 62;(with_reducible refine (H4.out _ hon hcur).mono ?_);rintro e0 w6 ⟨rfl,hb6⟩)
 go_ret
 exact ⟨rfl,znx hon hb6,(hb6.block _ (zac hcur)).trans hcur⟩
end Go.Proofs.YtanbgdhmfjgihaaGreatDoor

/- LA -/
namespace Go.Proofs.YtanbgdhmfjgihaaGreatDoor
open Go.RowKit
mutual
def zbq (w:World) (P:Nat→Prop) (g off:Nat):Val→Prop
 | .mk k b n t x l=>w.cell? ⟨g,off,none⟩=some (.int .i64 k)∧w.cell? ⟨g,off+1,none⟩=some (.bool b)∧w.cell? ⟨g,off+2,none⟩=some (.int .i64 n)∧
   w.cell? ⟨g,off+3,none⟩=some (.string t)∧w.cell? ⟨g,off+4,none⟩=some (.string x)∧Fine n t x l.length∧
   ∃ L,w.cell? ⟨g,off+5,none⟩=some L∧zde w P L l
def zde (w:World) (P:Nat→Prop) (L:Value):List Val→Prop
 | []=>∃ p cap,L=.slice p 0 cap
 | v::r=>∃ g off cap,L=.slice (some ⟨g,off,none⟩) (r.length+1) cap∧P g∧zbq w P g off v∧zcz w P g (off+6) r
def zcz (w:World) (P:Nat→Prop) (g off:Nat):List Val→Prop
 | []=>True
 | v::r=>zbq w P g off v∧zcz w P g (off+6) r
end
mutual
theorem zbq.held {w:World} {P:Nat→Prop} {g off:Nat}:(v:Val)→zbq w P g off v→zax w g off v
 | .mk k b n t x l,h=>by
   unfold zbq at h
   unfold zax
   obtain ⟨h0,h1,h2,h3,h4,hf,L,h5,hl⟩:=h
   exact ⟨h0,h1,h2,h3,h4,hf,L,h5,zde.held l hl⟩
theorem zde.held {w:World} {P:Nat→Prop} {L:Value}:(l:List Val)→zde w P L l→Held w L l
 | [],h=>by
   unfold zde at h
   unfold Held
   exact h
 | v::r,h=>by
   unfold zde at h
   unfold Held
   obtain ⟨g,off,cap,e,_,hv,hr⟩:=h
   exact ⟨g,off,cap,e,zbq.held v hv,zcz.held r hr⟩
theorem zcz.held {w:World} {P:Nat→Prop} {g off:Nat}:(l:List Val)→zcz w P g off l→zaq w g off l
 | [],_=>by unfold zaq;trivial
 | v::r,h=>by
   unfold zcz at h
   unfold zaq
   exact ⟨zbq.held v h.1,zcz.held r h.2⟩
end
def zuk (P P':Nat→Prop) (w w':World):Prop:=∀ g,P g→P' g∧w'.heap[g]?=w.heap[g]?
theorem zuk.cell {P P':Nat→Prop} {w w':World} (h:zuk P P' w w') {g:Nat} (hg:P g) (o:Nat) {v:Value} (hv:w.cell? ⟨g,o,none⟩=some v):w'.cell? ⟨g,o,none⟩=some v:=
 (World.cell?_of_block (w:=w) (a:=⟨g,o,none⟩) (h g hg).2).trans hv
mutual
theorem zbq.stays {w w':World} {P P':Nat→Prop} {g off:Nat} (s:zuk P P' w w') (hg:P g):(v:Val)→zbq w P g off v→zbq w' P' g off v
 | .mk k b n t x l,h=>by
   unfold zbq at h ⊢
   obtain ⟨h0,h1,h2,h3,h4,hf,L,h5,hl⟩:=h
   exact ⟨s.cell hg _ h0,s.cell hg _ h1,s.cell hg _ h2,s.cell hg _ h3,s.cell hg _ h4,hf,L,s.cell hg _ h5,zde.stays s l hl⟩
theorem zde.stays {w w':World} {P P':Nat→Prop} {L:Value} (s:zuk P P' w w'):(l:List Val)→zde w P L l→zde w' P' L l
 | [],h=>by
   unfold zde at h ⊢
   exact h
 | v::r,h=>by
   unfold zde at h ⊢
   obtain ⟨g,off,cap,e,hg,hv,hr⟩:=h
   exact ⟨g,off,cap,e,(s g hg).1,zbq.stays s hg v hv,zcz.stays s hg r hr⟩
theorem zcz.stays {w w':World} {P P':Nat→Prop} {g off:Nat} (s:zuk P P' w w') (hg:P g):(l:List Val)→zcz w P g off l→zcz w' P' g off l
 | [],_=>by unfold zcz;trivial
 | v::r,h=>by
   unfold zcz at h ⊢
   exact ⟨zbq.stays s hg v h.1,zcz.stays s hg r h.2⟩
end
def za2 (w:World) (P:Nat→Prop):List Value→List Val→Prop
 | xs,[]=>xs=[]
 | xs,.mk k b n t x q::r=>∃ L ys,xs=.int .i64 k::.bool b::.int .i64 n::.string t::.string x::L::ys∧Fine n t x q.length∧zde w P L q∧za2 w P ys r
theorem za2.append {w:World} {P:Nat→Prop}:{xs ys:List Value}→(l r:List Val)→za2 w P xs l→za2 w P ys r→za2 w P (xs++ys) (l++r)
 | _,_,[],_,h,g=>by
   unfold za2 at h
   subst h
   exact g
 | _,_,.mk k b n t x q::l,r,h,g=>by
   unfold za2 at h
   obtain ⟨L,zs,rfl,hf,hq,hr⟩:=h
   show za2 w P _ (.mk k b n t x q::(l++r))
   unfold za2
   exact ⟨L,_,rfl,hf,hq,za2.append l r hr g⟩
theorem za2.stays {w w':World} {P P':Nat→Prop} (s:zuk P P' w w'):{xs:List Value}→(l:List Val)→za2 w P xs l→za2 w' P' xs l
 | _,[],h=>by unfold za2 at h ⊢;exact h
 | _,.mk k b n t x q::l,h=>by
   unfold za2 at h ⊢
   obtain ⟨L,zs,rfl,hf,hq,hr⟩:=h
   exact ⟨L,zs,rfl,hf,zde.stays s q hq,za2.stays s l hr⟩
theorem za2.one {w:World} {P:Nat→Prop} {k:Int} {b:Bool} {n:Int} {t x:ByteArray} {q:List Val} {L:Value} (hf:Fine n t x q.length) (hq:zde w P L q):za2 w P [.int .i64 k,.bool b,.int .i64 n,.string t,.string x,L] [.mk k b n t x q]:=by
 unfold za2
 exact ⟨L,[],rfl,hf,hq,by unfold za2;rfl⟩
theorem za2.holds {w:World} {P:Nat→Prop} {g:Nat}:{xs:List Value}→(l:List Val)→(off:Nat)→za2 w P xs l→(∀ (j:Nat) u,xs[j]?=some u→w.cell? ⟨g,off+j,none⟩=some u)→zcz w P g off l
 | _,[],_,_,_=>by unfold zcz;trivial
 | _,.mk k b n t x q::l,off,h,hc=>by
   unfold za2 at h
   obtain ⟨L,zs,rfl,hf,hq,hr⟩:=h
   unfold zcz zbq
   refine ⟨⟨hc 0 _ rfl,hc 1 _ rfl,hc 2 _ rfl,hc 3 _ rfl,hc 4 _ rfl,hf,L,hc 5 _ rfl,hq⟩,za2.holds l (off+6) hr fun j u hj=>?_⟩
   have:=hc (j+6) u hj
   rw [show off+6+j=off+(j+6) by omega]
   exact this
theorem zpw {w:World} {base:Nat} {P P':Nat→Prop} {V:Value} {xs:List Value} {l:List Val} (h:w.ownsRow base 39 6 V l.length xs) (c:za2 w P xs l) (s:∀ g,P g→P' g) (hP:∀ g,V.ownBlock=some g→P' g):zde w P' V l:=by
 have c':za2 w P' xs l:=c.stays (fun g hg=>⟨s g hg,rfl⟩) l
 rcases h.2 with ⟨rfl,hn⟩ | ⟨g,cap,cur,rfl,hb,hg,hcap,_,hsz,htk⟩
 ·obtain rfl:=List.length_eq_zero_iff.1 hn
  unfold zde
  exact ⟨none,0,rfl⟩
 ·have hh:zcz w P' g 0 l:=c'.holds l 0 fun j u hj=>by
   have e:cur[j]?=some u:=by
    rw [← htk,List.getElem?_take] at hj
    split at hj
    ·rw [← Array.getElem?_toList];exact hj
    ·cases hj
   rw [Nat.zero_add]
   exact zab hg j e
  cases l with
  | nil=>
    unfold zde
    exact ⟨_,cap,rfl⟩
  | cons v r=>
    unfold zcz at hh
    unfold zde
    exact ⟨g,0,cap,rfl,hP g rfl,hh.1,hh.2⟩
end Go.Proofs.YtanbgdhmfjgihaaGreatDoor

/- LB -/
namespace Go.Proofs
open Go.Shelf
def Tryz.laysM316_ren:Go.Shelf.Ren:=⟨fun | 316=>119 | n=>n,fun | 9=>9 | 3=>3 | 4=>4 | 37=>163 | 0=>0 | 127=>190 | 5=>5 | n=>n,fun | n=>n⟩
theorem Tryz.laysM316:Go.Proofs.LaysM.n316 Tryz.prog Tryz.laysM316_ren:={
 mixed:=by kernel_rfl
 f316:=Tryz.func119.trans (congrArg some (by kernel_rfl))
 t0:=Tryz.underlying0
 a0:=Tryz.isAgg0
 z0:=Tryz.sizeOf0
 v0:=Tryz.zeroValue0
 t3:=Tryz.underlying3
 a3:=Tryz.isAgg3
 z3:=Tryz.sizeOf3
 v3:=Tryz.zeroValue3
 t4:=Tryz.underlying4
 a4:=Tryz.isAgg4
 z4:=Tryz.sizeOf4
 v4:=Tryz.zeroValue4
 t9:=Tryz.underlying9
 a9:=Tryz.isAgg9
 z9:=Tryz.sizeOf9
 v9:=Tryz.zeroValue9
 t37:=Tryz.underlying163
 a37:=Tryz.isAgg163
 z37:=Tryz.sizeOf163
 v37:=Tryz.zeroValue163
 t127:=Tryz.underlying190
 a127:=Tryz.isAgg190
 z127:=Tryz.sizeOf190
 v127:=Tryz.zeroValue190
 t5:=Tryz.underlying5
 a5:=Tryz.isAgg5
 z5:=Tryz.sizeOf5
 v5:=Tryz.zeroValue5
 i0:=by kernel_rfl
 i3:=by kernel_rfl
 i4:=by kernel_rfl
 i5:=by kernel_rfl
 i9:=by kernel_rfl
 i37:=by kernel_rfl
 i127:=by kernel_rfl }
namespace YtanbgdhmfjgihaaGreatDoor
open Go.RowKit
theorem slClone (s:ByteArray) (w:World) (h2:s.size≤281474976710656):Calls Tryz.prog 119 #[.string s] w fun e w'=>e=.returned (.string s)∧Below w.heap.size w w':=Any.stringslite_Clone Tryz.laysM316 s w h2
theorem zwq (s:ByteArray) (w:World) (h2:s.size≤281474976710656):
 Calls Tryz.prog 94 #[.string s] w fun e w'=>e=.returned (.string s)∧Below w.heap.size w w':=by
 go_enter Tryz.func94,Tryz.ntmps94
 go_wp2_with (go_at_call 119;(with_reducible refine (slClone s _ h2).mono ?_);rintro e w' ⟨rfl,hb⟩)
 go_ret
 exact ⟨rfl,hb⟩
end YtanbgdhmfjgihaaGreatDoor
end Go.Proofs

/- TO -/
namespace Go.Proofs.YtanbgdhmfjgihaaGreatDoor
open Go.RowKit
set_option maxHeartbeats 3200000 in
set_option maxRecDepth 20000 in
theorem zwr (k:Int) (b:Bool) (n:Int) (t x:ByteArray) (p:Option Addr) (len cap:Nat) (w:World) (ht:t.size≤2097152) (hx:x.size≤2097152):
 Calls Tryz.prog 63 #[.agg #[.int .i64 k,.bool b,.int .i64 n,.string t,.string x,.slice p len cap]] w fun e w'=>e=.returned (.agg #[.int .i64 k,.bool b,.int .i64 n,.string t,.string x,.slice none 0 0])∧Below w.heap.size w w':=by
 obtain ⟨w1,hw1⟩:∃ w1,w1=(w.alloc (.cells #[.int .i64 k,.bool b,.int .i64 n,.string t,.string x,.slice p len cap] 39)).alloc (.cells #[.int .i64 0,.bool false,.int .i64 0,.string ⟨#[]⟩,.string ⟨#[]⟩,.slice none 0 0] 39):=⟨_,rfl⟩
 have u1:Six w1 w.heap.size k b n t x p len cap:=by rw [hw1];exact (zah _ rfl).alloc _
 have u2:Six w1 (w.heap.size+1) 0 false 0 ⟨#[]⟩ ⟨#[]⟩ none 0 0:=by rw [hw1];exact zah _ (by simp)
 have bw:Below w.heap.size w w1:=by rw [hw1];exact zdx _ _ _
 have HCL:=Lib.hid (fun W=>zwq t W (by omega))
 have HCX:=Lib.hid (fun W=>zwq x W (by omega))
 have HW:=Lib.hid hw1
 clear hw1 ht hx
 go_enter Tryz.func63,Tryz.ntmps63
 go_upto_region 1 with fail
 rw [← HW.out]
 refine wp_region_held_drew (S:=fun W=>∃ p' n' c',Six W w.heap.size k b n t x p' n' c') (by kernel_rfl) ⟨p,len,cap,u1⟩ (fun hHeld=>?_)
 replace bw:=bw.drew
 replace u1:Six w1.drew w.heap.size k b n t x p len cap:=u1
 replace u2:Six w1.drew (w.heap.size+1) 0 false 0 ⟨#[]⟩ ⟨#[]⟩ none 0 0:=u2
 refine tg (i:=0) (.pointer (some ⟨w.heap.size,3,none⟩)) rfl hHeld ?_
 refine tg (i:=3) (.pointer (some ⟨w.heap.size,4,none⟩)) rfl hHeld ?_
 refine tk (i:=1) (v:=.string t) rfl (Or.inl ⟨by rfl,fun W ⟨_,_,_,h⟩=>by have c0:=h.c3;go_simp⟩) hHeld ?_
 refine tk (i:=4) (v:=.string x) rfl (Or.inl ⟨by rfl,fun W ⟨_,_,_,h⟩=>by have c0:=h.c4;go_simp⟩) hHeld ?_
 clear hHeld
 refine tr 2 rfl (fun K hK=>?_)
 rw [if_pos (by rfl)]
 go_simp
 refine (HCL.out _).mono ?_
 rintro e0 w3 ⟨rfl,hb3⟩
 replace u1:=u1.below hb3
 replace u2:=u2.below hb3
 replace bw:=zak bw hb3 bw.size
 refine hK.out _ _ ⟨_,_,_,u1⟩ (fun _=>?_)
 clear hK K hb3
 try simp only [putS]
 refine tg (i:=6) (.pointer (some ⟨w.heap.size,3,none⟩)) rfl ⟨_,_,_,u1⟩ ?_
 refine tr 5 rfl (fun K hK=>?_)
 rw [if_pos (by rfl)]
 go_simp
 refine (HCX.out _).mono ?_
 rintro e0 w3 ⟨rfl,hb3⟩
 replace u1:=u1.below hb3
 replace u2:=u2.below hb3
 replace bw:=zak bw hb3 bw.size
 refine hK.out _ _ ⟨_,_,_,u1⟩ (fun _=>?_)
 clear hK K hb3
 try simp only [putS]
 refine tr 7 rfl (fun K hK=>?_)
 have c0:=u1.c3
 have f0:=u1.free 3
 go_simp
 replace bw:=zf5 (e:=w.heap.size) (o:=3) bw none (.string t) (Nat.le_refl _) bw.size
 replace u2:=u2.only ((Only.refl w.heap.size _).setCell 3 none (.string t)) (by omega)
 replace u1:=u1.set3 t
 refine hK.out _ _ ⟨_,_,_,u1⟩ (fun _=>?_)
 clear hK K c0 f0
 try simp only [putS]
 refine tg (i:=8) (.pointer (some ⟨w.heap.size,4,none⟩)) rfl ⟨_,_,_,u1⟩ ?_
 refine tr 9 rfl (fun K hK=>?_)
 have c0:=u1.c4
 have f0:=u1.free 4
 go_simp
 replace bw:=zf5 (e:=w.heap.size) (o:=4) bw none (.string x) (Nat.le_refl _) bw.size
 replace u2:=u2.only ((Only.refl w.heap.size _).setCell 4 none (.string x)) (by omega)
 replace u1:=u1.set4 x
 refine hK.out _ _ ⟨_,_,_,u1⟩ (fun _=>?_)
 clear hK K c0 f0
 try simp only [putS]
 refine tg (i:=10) (.pointer (some ⟨w.heap.size,5,none⟩)) rfl ⟨_,_,_,u1⟩ ?_
 refine tr 11 rfl (fun K hK=>?_)
 have c0:=u1.c5
 have f0:=u1.free 5
 go_simp
 replace bw:=zf5 (e:=w.heap.size) (o:=5) bw none (.slice none 0 0) (Nat.le_refl _) bw.size
 replace u2:=u2.only ((Only.refl w.heap.size _).setCell 5 none (.slice none 0 0)) (by omega)
 replace u1:=u1.set5 none 0 0
 refine hK.out _ _ ⟨_,_,_,u1⟩ (fun _=>?_)
 clear hK K c0 f0
 try simp only [putS]
 refine wpAnyH_done (by kernel_rfl) ?_ _
 go_wp2_with (first
  |((with_reducible refine zaa (.tmp 1) w.heap.size u1 ?_ ?_ ?_ ?_);rfl;rfl;rfl)
  |((with_reducible refine zal (k':=k) (b':=b) (n':=n) (t':=t) (x':=x) (p':=none) (len':=0) (cap':=0) (.tmp 2) (.tmp 12) (w.heap.size+1) u2 ?_ ?_ ?_ ?_ ?_);rfl;rfl;rfl;rfl;intro w5 ho5 u5;have b5:=zai bw ho5 (Nat.le_succ _) bw.size))
 exact bodyPost_ret (v:=.agg #[.int .i64 k,.bool b,.int .i64 n,.string t,.string x,.slice none 0 0]) (results_cell_row (p:=2) (ty:=39) Tryz.results63 _ _ (w.heap.size+1) 39 _ (0,0) _ rfl u5 Tryz.underlying39 rfl (by exact zav)) rfl ⟨rfl,b5⟩
end Go.Proofs.YtanbgdhmfjgihaaGreatDoor
