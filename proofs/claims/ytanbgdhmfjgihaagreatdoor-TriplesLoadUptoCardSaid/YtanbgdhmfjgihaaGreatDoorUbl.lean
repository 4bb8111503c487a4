/- Texts of one kind, one behind the other: each says ahead of itself what it shows. -/
import Derived.Test.YtanbgdhmfjgihaaGreatDoorUbk
import Derived.Test.YtanbgdhmfjgihaaGreatDoorUbf
import Derived.Test.YtanbgdhmfjgihaaGreatDoorUbj
import Derived.Test.YtanbgdhmfjgihaaGreatDoorUaz
namespace Go.Proofs.YtanbgdhmfjgihaaGreatDoor
open Go.RowKit
set_option maxHeartbeats 12800000
set_option maxRecDepth 20000
theorem zuv (l:List Tri3) (L:Value) (v0 v1 v2:V6) (u0 u1 u2:Val) (p0 p1 p2:List Val) (w:World) (hl:Tris w L l) (hn:l.length≤65536) (hp:∀ t∈l,zqc t) (i0:Is w v0 u0 p0) (i1:Is w v1 u1 p1) (i2:Is w v2 u2 p2):
 Calls Tryz.prog 18 #[L,.agg #[.int .i64 v0.k,.bool v0.b,.int .i64 v0.n,.string v0.t,.string v0.x,.slice v0.p v0.len v0.cap,.int .i64 v1.k,.bool v1.b,.int .i64 v1.n,.string v1.t,.string v1.x,.slice v1.p v1.len v1.cap,.int .i64 v2.k,.bool v2.b,.int .i64 v2.n,.string v2.t,.string v2.x,.slice v2.p v2.len v2.cap]] w fun e w'=>∃ V,e=.returned V∧Tris w' V (l.filter (zf4 v0 v1 v2 u0 u1 u2))∧Below w.heap.size w w':=by
 obtain ⟨q0,cap,rfl⟩:=zc9 hl
 obtain ⟨n,hln⟩:∃ n,n=l.length:=⟨_,rfl⟩
 obtain ⟨Q,hQ⟩:∃ Q,Q=zf4 v0 v1 v2 u0 u1 u2:=⟨_,rfl⟩
 rw [← hln] at hn ⊢
 rw [← hQ]
 obtain ⟨i0',hi,hz0,hz1,hz2⟩:=info_parts zic
 obtain ⟨W1,hW1⟩:∃ W1,W1=w.alloc (.cells #[.int .i64 v0.k,.bool v0.b,.int .i64 v0.n,.string v0.t,.string v0.x,.slice v0.p v0.len v0.cap,.int .i64 v1.k,.bool v1.b,.int .i64 v1.n,.string v1.t,.string v1.x,.slice v1.p v1.len v1.cap,.int .i64 v2.k,.bool v2.b,.int .i64 v2.n,.string v2.t,.string v2.x,.slice v2.p v2.len v2.cap] 45):=⟨_,rfl⟩
 have b1:Below w.heap.size w W1:=by rw [hW1];exact zap _ _
 have rA:W1.rangeAt w.heap.size 0 [.int .i64 v0.k,.bool v0.b,.int .i64 v0.n,.string v0.t,.string v0.x,.slice v0.p v0.len v0.cap,.int .i64 v1.k,.bool v1.b,.int .i64 v1.n,.string v1.t,.string v1.x,.slice v1.p v1.len v1.cap,.int .i64 v2.k,.bool v2.b,.int .i64 v2.n,.string v2.t,.string v2.x,.slice v2.p v2.len v2.cap]:=by
  rw [hW1]
  exact zlv
 have HPT:=Lib.hid (fun W (hb:Below W1.heap.size W1 W)=>zaf rA hb)
 have HI3:=Lib.hid (fun W (hb:Below w.heap.size w W)=>And.intro (i0.below hb) (And.intro (i1.below hb) (i2.below hb)))
 have HL:=Lib.hid hln
 have HH:=Lib.hid hl
 have HP:=Lib.hid hp
 have HQ:=Lib.hid hQ
 have HW:=Lib.hid hW1
 have HB1:=Lib.hid b1
 clear hl hln hp hQ hW1 rA b1 i0 i1 i2
 go_enter Tryz.func18,Tryz.ntmps18
 go_upto_region 1 with fail
 rw [← HW.out]
 go_wp2_with fail
 go_loopg [5,6] n (fun gg s5 s6 wr=>∃ (i:Nat) (A:Value),A=s5∧i+gg=n∧s6=.int .i64 i∧Hid (AccV W1 ((l.take i).filter Q) A wr))
 case atStart=>exact ⟨0,_,rfl,by omega,rfl,Lib.hid ⟨[],rfl,World.ownsRow_nil _ _ _ _,Below.refl _ _⟩⟩
 case round=>
  obtain ⟨i,A,rfl,hig,rfl,HA⟩:=hrel
  by_cases hlt:(i:Int) < n
  ·have hi1:i < l.length:=by have:=HL.out;omega
   obtain ⟨g,off,rfl,hh⟩:∃ g off,q0=some ⟨g,off,none⟩∧zaq w g off (flat l):=by
    obtain ⟨p1,cap1,e,h1⟩:=HH.out
    obtain ⟨g,off,e2,h2⟩:=h1 (by intro e;rw [e] at hi1;exact absurd hi1 (by simp))
    injection e with e3 _ _
    exact ⟨g,off,by rw [e3];exact e2,h2⟩
   obtain ⟨d,hd,hown,hbel⟩:=HA.out
   have hb0:=HB1.out.trans (hbel.mono HB1.out.size)
   obtain ⟨s,p,o,ls,lp,lo,is,ip,io,ra⟩:=zdk (zaq.below _ hh hb0) i hi1
   have hpl:=HP.out _ (List.getElem_mem hi1)
   obtain ⟨e0,he0,hv0⟩:=is.plain hpl.1
   obtain ⟨e1,he1,hv1⟩:=ip.plain hpl.2.1
   obtain ⟨e2,he2,hv2⟩:=io.plain hpl.2.2
   have HE:=Lib.hid (And.intro (And.intro he0 hv0) (And.intro (And.intro he1 hv1) (And.intro he2 hv2)))
   have rpt:=HPT.out _ hbel
   obtain ⟨r,hr⟩:∃ r,r=Q l[i]:=⟨_,rfl⟩
   have HC:Hid (∀ W,Below wr.heap.size wr W→Calls Tryz.prog 52 #[.agg #[.int .i64 v0.k,.bool v0.b,.int .i64 v0.n,.string v0.t,.string v0.x,.slice v0.p v0.len v0.cap,.int .i64 v1.k,.bool v1.b,.int .i64 v1.n,.string v1.t,.string v1.x,.slice v1.p v1.len v1.cap,.int .i64 v2.k,.bool v2.b,.int .i64 v2.n,.string v2.t,.string v2.x,.slice v2.p v2.len v2.cap],.agg #[.int .i64 s.k,.bool s.b,.int .i64 s.n,.string s.t,.string s.x,.slice s.p s.len s.cap,.int .i64 p.k,.bool p.b,.int .i64 p.n,.string p.t,.string p.x,.slice p.p p.len p.cap,.int .i64 o.k,.bool o.b,.int .i64 o.n,.string o.t,.string o.x,.slice o.p o.len o.cap]] W fun e w'=>e=.returned (.bool r)∧Below W.heap.size W w'):=Lib.hid fun W hb=>by
    rw [hr,HQ.out]
    have h3:=HI3.out W (hb0.trans (hb.mono hb0.size))
    exact zx1 v0 v1 v2 s p o u0 u1 u2 _ _ _ p0 p1 p2 ls lp lo W h3.1 h3.2.1 h3.2.2 (is.below hb) (ip.below hb) (io.below hb)
   have HR:=Lib.hid hr
   obtain ⟨m,hm⟩:∃ m,m=((l.take i).filter Q).length:=⟨_,rfl⟩
   have hmi:m≤i:=by
    rw [hm]
    refine Nat.le_trans (List.length_filter_le _ _) ?_
    rw [List.length_take]
    omega
   rw [← hm] at hown
   have HM:=Lib.hid hm
   have HX:=Lib.hid (And.intro hd (And.intro hown hbel))
   have HRA:=Lib.hid ra
   clear hr hm hd hown hbel is ip io hpl he0 he1 he2 hv0 hv1 hv2 hh HA hb0
   cases r with
   | true=>
     go_upto_region 5 with fail
     have L0:Below wr.heap.size wr wr.drew:=(Below.refl _ _).drew
     refine wp_region_held_drew (S:=fun W=>W.rangeAt w.heap.size 0 [.int .i64 v0.k,.bool v0.b,.int .i64 v0.n,.string v0.t,.string v0.x,.slice v0.p v0.len v0.cap,.int .i64 v1.k,.bool v1.b,.int .i64 v1.n,.string v1.t,.string v1.x,.slice v1.p v1.len v1.cap,.int .i64 v2.k,.bool v2.b,.int .i64 v2.n,.string v2.t,.string v2.x,.slice v2.p v2.len v2.cap]∧W.rangeAt g (off+i*18) [.int .i64 s.k,.bool s.b,.int .i64 s.n,.string s.t,.string s.x,.slice s.p s.len s.cap,.int .i64 p.k,.bool p.b,.int .i64 p.n,.string p.t,.string p.x,.slice p.p p.len p.cap,.int .i64 o.k,.bool o.b,.int .i64 o.n,.string o.t,.string o.x,.slice o.p o.len o.cap]) (by kernel_rfl) ⟨rpt,ra⟩ (fun hHeld=>?_)
     refine tk (i:=0) rfl (yieldsIf_load_mid (by rfl) 45 (.tmp 3) rfl (w.heap.size) (0) rfl [.int .i64 v0.k,.bool v0.b,.int .i64 v0.n,.string v0.t,.string v0.x,.slice v0.p v0.len v0.cap,.int .i64 v1.k,.bool v1.b,.int .i64 v1.n,.string v1.t,.string v1.x,.slice v1.p v1.len v1.cap,.int .i64 v2.k,.bool v2.b,.int .i64 v2.n,.string v2.t,.string v2.x,.slice v2.p v2.len v2.cap] _ (fun W h=>h.1) Tryz.underlying45 rfl zqi) hHeld ?_
     refine tg (i:=1) (.slice (some ⟨g,off,none⟩) n cap) rfl hHeld ?_
     refine tg (i:=2) (.int .i64 (i:Int)) rfl hHeld ?_
     refine tg (i:=3) (.pointer (some ⟨g,off+i*18,none⟩)) rfl hHeld ?_
     refine tk (i:=4) rfl (yieldsIf_load_mid (by rfl) 41 (.tmp 16) rfl (g) (off+i*18) rfl [.int .i64 s.k,.bool s.b,.int .i64 s.n,.string s.t,.string s.x,.slice s.p s.len s.cap,.int .i64 p.k,.bool p.b,.int .i64 p.n,.string p.t,.string p.x,.slice p.p p.len p.cap,.int .i64 o.k,.bool o.b,.int .i64 o.n,.string o.t,.string o.x,.slice o.p o.len o.cap] _ (fun W h=>h.2) Tryz.underlying41 rfl zb7) hHeld ?_
     refine tr 5 rfl (fun K hK=>?_)
     rw [if_pos (by rfl)]
     go_simp
     refine (HC.out _ L0).mono ?_
     rintro e9 w9 ⟨rfl,hb9⟩
     have hHeld9:_∧_:=⟨zaf hHeld.1 hb9,zaf hHeld.2 hb9⟩
     have L9:=L0.trans (hb9.mono L0.size)
     clear hb9
     refine hK.out _ _ hHeld9 (fun _=>?_)
     clear hK K
     try simp only [putS]
     refine wpAnyH_done (by kernel_rfl) ?_ _
     have HL9:=Lib.hid L9
     have rz:=zaf HRA.out L9
     have HO9:Hid (w9.ownsRow W1.heap.size 41 18 A m (d.flatMap VE.enc)):=Lib.hid (za9 HX.out.2.1 L9)
     have HM2:m+1≤maxLen:=by unfold maxLen;omega
     have HB2:(m+1)*240≤140737488355328:=by omega
     have HM2:=Lib.hid HM2;have HB2:=Lib.hid HB2
     have HS9:Hid (W1.heap.size≤w9.heap.size):=Lib.hid (Nat.le_trans HX.out.2.2.size L9.size)
     clear hHeld hHeld9 L9 L0 ra rpt
     go_wp2_with (first
      |((with_reducible refine zbe (.tmp 22) g (off+i*18) s p o rz ?_ ?_ ?_ ?_);rfl;rfl;rfl)
      |(at_builtin;go_loud (refine za8 rfl _ _ 22 rfl W1.heap.size 41 i0' (.agg #[.int .i64 0,.bool false,.int .i64 0,.string ⟨#[]⟩,.string ⟨#[]⟩,.slice none 0 0,.int .i64 0,.bool false,.int .i64 0,.string ⟨#[]⟩,.string ⟨#[]⟩,.slice none 0 0,.int .i64 0,.bool false,.int .i64 0,.string ⟨#[]⟩,.string ⟨#[]⟩,.slice none 0 0]) 18 240 Tryz.underlying22 hi hz0 hz1 hz2 rfl (by decide) A m (d.flatMap VE.enc) (by rfl) (HO9.out.alloc _) (some ⟨w9.heap.size,0,none⟩) 1 1 [.int .i64 s.k,.bool s.b,.int .i64 s.n,.string s.t,.string s.x,.slice s.p s.len s.cap,.int .i64 p.k,.bool p.b,.int .i64 p.n,.string p.t,.string p.x,.slice p.p p.len p.cap,.int .i64 o.k,.bool o.b,.int .i64 o.n,.string o.t,.string o.x,.slice o.p o.len o.cap] (by rfl) rfl (fun e=>by cases e) (fun ad e j u hu=>by cases e;exact zdl _ s p o _ j u hu) (by simp [Value.oneCell']) HM2.out HB2.out (by simp;have:=HS9.out;omega) ?_)))
     intro v2' w2 hown2 hg2
     have acc:AccV W1 ((l.take (i+1)).filter Q) v2' w2:=by
      obtain ⟨hd,hown,hbel⟩:=HX.out
      have e3:[l[i]].filter Q=[l[i]]:=by simp [← HR.out]
      rw [List.take_succ_eq_append_getElem hi1,List.filter_append,e3]
      refine ⟨d++[e0,e1,e2],?_,?_,?_⟩
      ·rw [List.map_append,hd,zfl,zbv,zdp]
       simp [HE.out.1.2,HE.out.2.1.2,HE.out.2.2.2]
      ·rw [List.flatMap_append,List.length_append,← HM.out]
       have e:[e0,e1,e2].flatMap VE.enc=[.int .i64 s.k,.bool s.b,.int .i64 s.n,.string s.t,.string s.x,.slice s.p s.len s.cap,.int .i64 p.k,.bool p.b,.int .i64 p.n,.string p.t,.string p.x,.slice p.p p.len p.cap,.int .i64 o.k,.bool o.b,.int .i64 o.n,.string o.t,.string o.x,.slice o.p o.len o.cap]:=by simp [VE.enc,HE.out.1.1,HE.out.2.1.1,HE.out.2.2.1]
       rw [e]
       exact hown2
      ·exact ((hbel.trans (HL9.out.mono hbel.size)).alloc HS9.out _).grown hg2 (by simp;have:=HS9.out;omega) (fun g hg=>(HO9.out.lt g hg).1)
     have ACC:=Lib.hid acc
     clear acc hown2 hg2 rz
     go_wp2_with fail
     go_roundg (n - (i+1))
     case measure=>omega
     case rel=>exact ⟨i+1,_,rfl,by omega,by go_num,ACC⟩
   | false=>
     go_upto_region 5 with fail
     have L0:Below wr.heap.size wr wr.drew:=(Below.refl _ _).drew
     refine wp_region_held_drew (S:=fun W=>W.rangeAt w.heap.size 0 [.int .i64 v0.k,.bool v0.b,.int .i64 v0.n,.string v0.t,.string v0.x,.slice v0.p v0.len v0.cap,.int .i64 v1.k,.bool v1.b,.int .i64 v1.n,.string v1.t,.string v1.x,.slice v1.p v1.len v1.cap,.int .i64 v2.k,.bool v2.b,.int .i64 v2.n,.string v2.t,.string v2.x,.slice v2.p v2.len v2.cap]∧W.rangeAt g (off+i*18) [.int .i64 s.k,.bool s.b,.int .i64 s.n,.string s.t,.string s.x,.slice s.p s.len s.cap,.int .i64 p.k,.bool p.b,.int .i64 p.n,.string p.t,.string p.x,.slice p.p p.len p.cap,.int .i64 o.k,.bool o.b,.int .i64 o.n,.string o.t,.string o.x,.slice o.p o.len o.cap]) (by kernel_rfl) ⟨rpt,ra⟩ (fun hHeld=>?_)
     refine tk (i:=0) rfl (yieldsIf_load_mid (by rfl) 45 (.tmp 3) rfl (w.heap.size) (0) rfl [.int .i64 v0.k,.bool v0.b,.int .i64 v0.n,.string v0.t,.string v0.x,.slice v0.p v0.len v0.cap,.int .i64 v1.k,.bool v1.b,.int .i64 v1.n,.string v1.t,.string v1.x,.slice v1.p v1.len v1.cap,.int .i64 v2.k,.bool v2.b,.int .i64 v2.n,.string v2.t,.string v2.x,.slice v2.p v2.len v2.cap] _ (fun W h=>h.1) Tryz.underlying45 rfl zqi) hHeld ?_
     refine tg (i:=1) (.slice (some ⟨g,off,none⟩) n cap) rfl hHeld ?_
     refine tg (i:=2) (.int .i64 (i:Int)) rfl hHeld ?_
     refine tg (i:=3) (.pointer (some ⟨g,off+i*18,none⟩)) rfl hHeld ?_
     refine tk (i:=4) rfl (yieldsIf_load_mid (by rfl) 41 (.tmp 16) rfl (g) (off+i*18) rfl [.int .i64 s.k,.bool s.b,.int .i64 s.n,.string s.t,.string s.x,.slice s.p s.len s.cap,.int .i64 p.k,.bool p.b,.int .i64 p.n,.string p.t,.string p.x,.slice p.p p.len p.cap,.int .i64 o.k,.bool o.b,.int .i64 o.n,.string o.t,.string o.x,.slice o.p o.len o.cap] _ (fun W h=>h.2) Tryz.underlying41 rfl zb7) hHeld ?_
     refine tr 5 rfl (fun K hK=>?_)
     rw [if_pos (by rfl)]
     go_simp
     refine (HC.out _ L0).mono ?_
     rintro e9 w9 ⟨rfl,hb9⟩
     have hHeld9:_∧_:=⟨zaf hHeld.1 hb9,zaf hHeld.2 hb9⟩
     have L9:=L0.trans (hb9.mono L0.size)
     clear hb9
     refine hK.out _ _ hHeld9 (fun _=>?_)
     clear hK K
     try simp only [putS]
     refine wpAnyH_done (by kernel_rfl) ?_ _
     have acc:AccV W1 ((l.take (i+1)).filter Q) A w9:=by
      obtain ⟨hd,hown,hbel⟩:=HX.out
      have e3:[l[i]].filter Q=[]:=by simp [← HR.out]
      rw [List.take_succ_eq_append_getElem hi1,List.filter_append,e3,List.append_nil]
      exact ⟨d,hd,by rw [← HM.out];exact za9 hown L9,hbel.trans (L9.mono hbel.size)⟩
     have ACC:=Lib.hid acc
     clear hHeld hHeld9 L9 L0 ra rpt acc
     go_wp2_with fail
     go_roundg (n - (i+1))
     case measure=>omega
     case rel=>exact ⟨i+1,_,rfl,by omega,by go_num,ACC⟩
  ·have hin:i=l.length:=by have:=HL.out;omega
   have hfin:∃ V,Ending.returned A=.returned V∧Tris wr V (l.filter Q)∧Below w.heap.size w wr:=by
    obtain ⟨d,hd,hown,hbel⟩:=HA.out
    rw [hin,List.take_length] at hd hown
    exact ⟨A,rfl,zlt _ d hown hd,HB1.out.trans (hbel.mono HB1.out.size)⟩
   have HF:=Lib.hid hfin
   clear hfin HA
   go_wp2_with fail
   go_ret
   exact HF.out
theorem zh0 {ops:Array Oper} {rest:List Oper} {op:Oper} {a:Act} {w:World} {Q:Exit→Act→World→Prop} (y:Operand) (g off:Nat) (s p o:V6) (h18:w.rangeAt g off [.int .i64 s.k,.bool s.b,.int .i64 s.n,.string s.t,.string s.x,.slice s.p s.len s.cap,.int .i64 p.k,.bool p.b,.int .i64 p.n,.string p.t,.string p.x,.slice p.p p.len p.cap,.int .i64 o.k,.bool o.b,.int .i64 o.n,.string o.t,.string o.x,.slice o.p o.len o.cap])
 (hgd:op.guard=none) (ho:op.op=.load 45 y) (hx:a.eval y=.pointer (some ⟨g,off,none⟩))
 (h:wpList Tryz.prog ops Q rest (a.put op.dst (.agg #[.int .i64 s.k,.bool s.b,.int .i64 s.n,.string s.t,.string s.x,.slice s.p s.len s.cap,.int .i64 p.k,.bool p.b,.int .i64 p.n,.string p.t,.string p.x,.slice p.p p.len p.cap,.int .i64 o.k,.bool o.b,.int .i64 o.n,.string o.t,.string o.x,.slice o.p o.len o.cap])) w):wpList Tryz.prog ops Q (op::rest) a w:=
 wpList_load_mid hgd 45 y ho g off hx [.int .i64 s.k,.bool s.b,.int .i64 s.n,.string s.t,.string s.x,.slice s.p s.len s.cap,.int .i64 p.k,.bool p.b,.int .i64 p.n,.string p.t,.string p.x,.slice p.p p.len p.cap,.int .i64 o.k,.bool o.b,.int .i64 o.n,.string o.t,.string o.x,.slice o.p o.len o.cap] _ h18 Tryz.underlying45 rfl zqi h
theorem zmd {ops:Array Oper} {rest:List Oper} {op:Oper} {a:Act} {w:World} {Q:Exit→Act→World→Prop} (y:Operand) (g off:Nat) (s p o:V6) (h18:w.rangeAt g off [.int .i64 s.k,.bool s.b,.int .i64 s.n,.string s.t,.string s.x,.slice s.p s.len s.cap,.int .i64 p.k,.bool p.b,.int .i64 p.n,.string p.t,.string p.x,.slice p.p p.len p.cap,.int .i64 o.k,.bool o.b,.int .i64 o.n,.string o.t,.string o.x,.slice o.p o.len o.cap])
 (hw:Region.wanted op (yielded ops a.tmps)=true) (ho:op.op=.load 45 y) (hx:a.eval y=.pointer (some ⟨g,off,none⟩))
 (h:wpList Tryz.prog ops Q rest (a.put op.dst (.agg #[.int .i64 s.k,.bool s.b,.int .i64 s.n,.string s.t,.string s.x,.slice s.p s.len s.cap,.int .i64 p.k,.bool p.b,.int .i64 p.n,.string p.t,.string p.x,.slice p.p p.len p.cap,.int .i64 o.k,.bool o.b,.int .i64 o.n,.string o.t,.string o.x,.slice o.p o.len o.cap])) w):wpList Tryz.prog ops Q (op::rest) a w:=by
 unfold wpList
 rw [if_pos hw]
 refine .inl ?_
 unfold Oper.wp execOp
 simp only [ho,hx,Instr.loadAt,Instr.sureAddr,Sem.run_bind,Sem.run_pure,Result.andThen_ok,run_loadVar_mid (P:=Tryz.prog) w g off 45 [.int .i64 s.k,.bool s.b,.int .i64 s.n,.string s.t,.string s.x,.slice s.p s.len s.cap,.int .i64 p.k,.bool p.b,.int .i64 p.n,.string p.t,.string p.x,.slice p.p p.len p.cap,.int .i64 o.k,.bool o.b,.int .i64 o.n,.string o.t,.string o.x,.slice o.p o.len o.cap] _ h18 Tryz.underlying45 rfl zqi]
 exact h
theorem zz5 (l:List Tri3) (L P0 O0 D0:Value) (w:World) (hG:Gd w) (hT:Tab w) (hl:Tris w L l) (hn:l.length≤2097152) (hn60:l.length≤60) (hgood:∀ t∈l,zci t=true) (pats:List Tri3) (hpt:Tris w P0 pats):
 Calls Tryz.prog 3 #[.agg #[L,P0,O0,D0]] w fun e w'=>e=.returned (.bool true)∧Below w.heap.size w w':=by
 obtain ⟨q0,cap,rfl⟩:=zc9 hl
 obtain ⟨pp,cpp,rfl⟩:=zc9 hpt
 obtain ⟨n,hln⟩:∃ n,n=l.length:=⟨_,rfl⟩
 rw [← hln] at hn hn60 ⊢
 obtain ⟨W1,hW1⟩:∃ W1,W1=w.alloc (.cells #[.slice q0 n cap,.slice pp pats.length cpp,O0,D0] 26):=⟨_,rfl⟩
 have b1:Below w.heap.size w W1:=by rw [hW1];exact zap _ _
 have s1:W1.heap.size=w.heap.size+1:=by rw [hW1];simp
 have c0:W1.cell? ⟨w.heap.size,0,none⟩=some (.slice q0 n cap):=by rw [hW1];exact zab (zag _ _ rfl) 0 rfl
 have c1:W1.cell? ⟨w.heap.size,1,none⟩=some (.slice pp pats.length cpp):=by rw [hW1];exact zab (zag _ _ rfl) 1 rfl
 have hni:¬ (60:Int) < n:=by omega
 obtain ⟨np,hnp⟩:∃ np,np=pats.length:=⟨_,rfl⟩
 rw [← hnp] at c1 hW1 hpt ⊢
 have HNP:=Lib.hid hnp
 have HPT:=Lib.hid hpt
 have HGOOD:=Lib.hid hgood
 clear hnp hpt hgood
 have HC0:Hid (∀ W,Below W1.heap.size W1 W→W.cell? ⟨w.heap.size,0,none⟩=some (.slice q0 n cap)):=Lib.hid fun W hb=>(hb.cell (p:=⟨w.heap.size,0,none⟩) (by simp only;omega)).trans c0
 have HP0:Hid (∀ W,Below W1.heap.size W1 W→W.cell? ⟨w.heap.size,1,none⟩=some (.slice pp np cpp)):=Lib.hid fun W hb=>(hb.cell (p:=⟨w.heap.size,1,none⟩) (by simp only;omega)).trans c1
 have HCP:=Lib.hid (zfm l (.slice q0 n cap) W1 (by rw [hln];exact hl.below b1) (by omega))
 have HG:=Lib.hid (hG.below b1)
 have HT:=Lib.hid (hT.below b1)
 have HB1:=Lib.hid b1
 have HS1:=Lib.hid s1
 have HL:=Lib.hid hln
 have HH:Hid (Tris w (.slice q0 n cap) l):=Lib.hid (by rw [hln];exact hl)
 have HW:=Lib.hid hW1
 clear hW1 hG hT hl b1 s1 c1 hln
 go_enter Tryz.func3,Tryz.ntmps3
 go_upto_region 1 with fail
 rw [← HW.out]
 go_upto_region 4 with (go_at_call 9;(with_reducible refine HCP.out.mono ?_);rintro e w2 ⟨A,rfl,hacc⟩)
 have HT2:=Lib.hid hacc.tris
 obtain ⟨⟨xs,hown,hcf⟩,hb2⟩:=hacc
 rw [← HL.out] at hown
 obtain ⟨pa,ca,rfl,hca,hpn,hpc⟩:=zd9 hown
 obtain ⟨gL,hgL⟩:∃ gL,gL < w2.heap.size∧(0 < n→W1.heap.size≤gL∧pa=some ⟨gL,0,none⟩):=by
  cases pa with
  | none=>exact ⟨w.heap.size,by have:=hb2.size;have:=HS1.out;omega,fun h=>absurd (hpn rfl).1 (by omega)⟩
  | some ad=>
    obtain ⟨g,o,sp⟩:=ad
    obtain ⟨rfl,rfl,_⟩:=hpc g o sp rfl
    have:=hown.lt g rfl
    exact ⟨g,this.2,fun _=>⟨this.1,rfl⟩⟩
 have HGL:=Lib.hid hgL
 have HOWN:=Lib.hid hown
 have HCF:=Lib.hid hcf
 have HB2:=Lib.hid hb2
 clear hown hcf hpn hpc hgL hb2 c0
 have HLD:=Lib.hid ((zw8 _ l w2 (HG.out.below HB2.out) (HT.out.below HB2.out) HT2.out (by have:=HL.out;omega)).mono fun e w' h=>h.1 HGOOD.out)
 go_upto_region 5 with (go_at_call 10;(with_reducible refine HLD.out.mono ?_);rintro e w3 ⟨sp,s,rfl,hin,hlo,hb3⟩)
 have HIN:=Lib.hid hin
 have HLO:=Lib.hid hlo
 clear hin hlo HLD
 have HB3:=Lib.hid (HB2.out.trans (hb3.mono HB2.out.size))
 have HB23:=Lib.hid hb3
 have c0:=HC0.out _ HB3.out
 clear hb3
 have HRF:=Lib.hid ((zqn l (.slice q0 n cap) w3 (HH.out.below (HB1.out.trans (HB3.out.mono HB1.out.size))) (by have:=HL.out;omega)).mono fun e w' h=>h.1 HGOOD.out)
 go_upto_region 6 with (go_at_call 11;(with_reducible refine HRF.out.mono ?_);rintro e w4 ⟨V,out,rfl,hins,hV,hVb,hb4⟩)
 have hout:=hins.all HLO.out (by have:=HL.out;omega)
 subst hout
 have HV4:=Lib.hid hV
 have HVB:=Lib.hid hVb
 clear hins hV hVb HRF
 have HB4:=Lib.hid (HB3.out.trans (hb4.mono HB3.out.size))
 have HB24:=Lib.hid (HB23.out.trans (hb4.mono HB23.out.size))
 have HB34:=Lib.hid hb4
 clear hb4 c0
 have c0:=HC0.out _ HB4.out
 have HEQ:Hid (Calls Tryz.prog 12 #[.slice pa n ca,.slice q0 n cap] w4 fun e w'=>e=.returned (.bool true)∧Below w4.heap.size w4 w'):=Lib.hid (by
  have:=zeg l l (.slice pa n ca) (.slice q0 n cap) w4 (HT2.out.below HB24.out) (HH.out.below (HB1.out.trans (HB4.out.mono HB1.out.size))) (by have:=HL.out;omega)
  rwa [beq_self_eq_true,Bool.true_and,zca] at this)
 go_upto_region 8 with (go_at_call 12;(with_reducible refine HEQ.out.mono ?_);rintro e w5 ⟨rfl,hb5⟩)
 have HB5:=Lib.hid (HB4.out.trans (hb5.mono HB4.out.size))
 have HB25:=Lib.hid (HB24.out.trans (hb5.mono HB24.out.size))
 have HB45:=Lib.hid hb5
 clear hb5 c0 HEQ
 go_wp2_with fail
 go_loopg [8] n (fun gg s8 wr=>∃ i:Nat,i+gg=n∧s8=.int .i64 i∧Hid (Below W1.heap.size W1 wr)∧Hid (But gL w5 wr)∧Hid (0 < n→LRow w5 wr gL n i xs))
 case atStart=>
  refine ⟨0,by omega,rfl,HB5,Lib.hid (But.refl _ _),Lib.hid fun h0=>?_⟩
  obtain ⟨hg1,e⟩:=HGL.out.2 h0
  have h1:=HOWN.out
  rw [e] at h1
  exact LRow.start (za9 h1 HB25.out)
 case round=>
  obtain ⟨i,hig,rfl,HB,HBT,HLR⟩:=hrel
  by_cases hlt:(i:Int) < n
  ·have hi1:i < l.length:=by have:=HL.out;omega
   obtain ⟨hg1,rfl⟩:=HGL.out.2 (by omega)
   have HLRi:=Lib.hid (HLR.out (by omega))
   obtain ⟨cur,hcur,hsz,hxs⟩:=HLRi.out.cur
   obtain ⟨g,off,rfl,hh⟩:∃ g off,q0=some ⟨g,off,none⟩∧zaq w g off (flat l):=by
    obtain ⟨p1,cap1,e,h1⟩:=HH.out
    obtain ⟨g,off,e2,h2⟩:=h1 (by intro e;rw [e] at hi1;exact absurd hi1 (by simp))
    injection e with e3 _ _
    exact ⟨g,off,by rw [e3];exact e2,h2⟩
   have hcf:za2 wr (fun _=>True) xs (flat l):=(HCF.out.stays (fun g' hg'=>⟨trivial,by
    have hne:g'≠gL:=fun e=>hg'.2.2 (by subst e;rfl)
    have hs:=HB25.out.size
    exact (HBT.out.block g' (by have:=hg'.2.1;omega) hne).trans (HB25.out.block g' hg'.2.1)⟩) _)
   obtain ⟨s,p,o,ls,lp,lo,is,ip,io,hx⟩:=zfn l xs hcf i hi1
   have ra:wr.rangeAt gL (i*18) [.int .i64 s.k,.bool s.b,.int .i64 s.n,.string s.t,.string s.x,.slice s.p s.len s.cap,.int .i64 p.k,.bool p.b,.int .i64 p.n,.string p.t,.string p.x,.slice p.p p.len p.cap,.int .i64 o.k,.bool o.b,.int .i64 o.n,.string o.t,.string o.x,.slice o.p o.len o.cap]:=fun k v hv=>zab hcur _ (hxs _ v (by omega) (hx k v hv))
   have hbw:Below w.heap.size w wr:=HB1.out.trans (HB.out.mono HB1.out.size)
   obtain ⟨s2,p2,o2,ls2,lp2,lo2,is2,ip2,io2,rb⟩:=zdk (zaq.below _ hh hbw) i hi1
   have cr:wr.cell? ⟨w.heap.size,0,none⟩=some (.slice (some ⟨g,off,none⟩) n cap):=HC0.out _ HB.out
   obtain ⟨r,hr⟩:∃ r,r=zci l[i]:=⟨_,rfl⟩
   have HC1:Hid (∀ W,Below wr.heap.size wr W→Calls Tryz.prog 13 #[.agg #[.int .i64 s.k,.bool s.b,.int .i64 s.n,.string s.t,.string s.x,.slice s.p s.len s.cap,.int .i64 p.k,.bool p.b,.int .i64 p.n,.string p.t,.string p.x,.slice p.p p.len p.cap,.int .i64 o.k,.bool o.b,.int .i64 o.n,.string o.t,.string o.x,.slice o.p o.len o.cap]] W fun e w'=>e=.returned (.bool r)∧Below W.heap.size W w'):=Lib.hid fun W hb=>by
    have:=ziw s p o _ _ _ ls lp lo W (HG.out.below (HB.out.trans (hb.mono HB.out.size))) (is.below hb) (ip.below hb) (io.below hb)
    rw [zip is ip io] at this
    rw [hr]
    exact this.mono fun e w' h=>⟨h.1,h.2.is⟩
   have HC2:Hid (∀ W,Below wr.heap.size wr W→Calls Tryz.prog 14 #[.agg #[.int .i64 s2.k,.bool s2.b,.int .i64 s2.n,.string s2.t,.string s2.x,.slice s2.p s2.len s2.cap,.int .i64 p2.k,.bool p2.b,.int .i64 p2.n,.string p2.t,.string p2.x,.slice p2.p p2.len p2.cap,.int .i64 o2.k,.bool o2.b,.int .i64 o2.n,.string o2.t,.string o2.x,.slice o2.p o2.len o2.cap]] W fun e w'=>e=.returned (.bool r)∧Below W.heap.size W w'):=Lib.hid fun W hb=>by
    have:=zhv s2 p2 o2 _ _ _ ls2 lp2 lo2 W (is2.below hb) (ip2.below hb) (io2.below hb)
    rw [zip is2 ip2 io2] at this
    rw [hr]
    exact this
   have HCUR:=Lib.hid (And.intro hcur (And.intro hsz hxs))
   clear hr is ip io is2 ip2 io2 hh hcf hx hcur hsz hxs hbw
   go_upto_region 11 with fail
   have L0:Below wr.heap.size wr wr.drew:=(Below.refl _ _).drew
   refine wp_region_held_drew (S:=fun W=>W.rangeAt gL (i*18) [.int .i64 s.k,.bool s.b,.int .i64 s.n,.string s.t,.string s.x,.slice s.p s.len s.cap,.int .i64 p.k,.bool p.b,.int .i64 p.n,.string p.t,.string p.x,.slice p.p p.len p.cap,.int .i64 o.k,.bool o.b,.int .i64 o.n,.string o.t,.string o.x,.slice o.p o.len o.cap]∧W.rangeAt g (off+i*18) [.int .i64 s2.k,.bool s2.b,.int .i64 s2.n,.string s2.t,.string s2.x,.slice s2.p s2.len s2.cap,.int .i64 p2.k,.bool p2.b,.int .i64 p2.n,.string p2.t,.string p2.x,.slice p2.p p2.len p2.cap,.int .i64 o2.k,.bool o2.b,.int .i64 o2.n,.string o2.t,.string o2.x,.slice o2.p o2.len o2.cap]∧W.cell? ⟨w.heap.size,0,none⟩=some (.slice (some ⟨g,off,none⟩) n cap)) (by kernel_rfl) ⟨ra,rb,cr⟩ (fun hHeld=>?_)
   refine tg (i:=0) (.slice (some ⟨gL,0,none⟩) n ca) rfl hHeld ?_
   refine tg (i:=1) (.int .i64 (i:Int)) rfl hHeld ?_
   refine tg (i:=2) (.pointer (some ⟨gL,i*18,none⟩)) rfl hHeld ?_
   refine tk (i:=3) rfl (yieldsIf_load_mid (by rfl) 41 (.tmp 64) rfl (gL) (i*18) rfl [.int .i64 s.k,.bool s.b,.int .i64 s.n,.string s.t,.string s.x,.slice s.p s.len s.cap,.int .i64 p.k,.bool p.b,.int .i64 p.n,.string p.t,.string p.x,.slice p.p p.len p.cap,.int .i64 o.k,.bool o.b,.int .i64 o.n,.string o.t,.string o.x,.slice o.p o.len o.cap] _ (fun W h=>h.1) Tryz.underlying41 rfl zb7) hHeld ?_
   refine tg (i:=5) (.pointer (some ⟨w.heap.size,0,none⟩)) rfl hHeld ?_
   refine tk (i:=6) (v:=.slice (some ⟨g,off,none⟩) n cap) rfl (Or.inl ⟨by rfl,fun W h=>by have c0:=h.2.2;go_simp⟩) hHeld ?_
   refine tg (i:=7) (.int .i64 (i:Int)) rfl hHeld ?_
   refine tg (i:=8) (.pointer (some ⟨g,off+i*18,none⟩)) rfl hHeld ?_
   refine tk (i:=9) rfl (yieldsIf_load_mid (by rfl) 41 (.tmp 70) rfl (g) (off+i*18) rfl [.int .i64 s2.k,.bool s2.b,.int .i64 s2.n,.string s2.t,.string s2.x,.slice s2.p s2.len s2.cap,.int .i64 p2.k,.bool p2.b,.int .i64 p2.n,.string p2.t,.string p2.x,.slice p2.p p2.len p2.cap,.int .i64 o2.k,.bool o2.b,.int .i64 o2.n,.string o2.t,.string o2.x,.slice o2.p o2.len o2.cap] _ (fun W h=>h.2.1) Tryz.underlying41 rfl zb7) hHeld ?_
   refine tr 4 rfl (fun K hK=>?_)
   rw [if_pos (by rfl)]
   go_simp
   refine (HC1.out _ L0).mono ?_
   rintro e8 w8 ⟨rfl,hb8⟩
   have hHeld8:_∧_∧_:=⟨zaf hHeld.1 hb8,zaf hHeld.2.1 hb8,(hb8.cell (p:=⟨w.heap.size,0,none⟩) (World.block_lt_of_cell? _ _ hHeld.2.2)).trans hHeld.2.2⟩
   have L8:=L0.trans (hb8.mono L0.size)
   clear hb8
   refine hK.out _ _ hHeld8 (fun _=>?_)
   clear hK K
   try simp only [putS]
   refine tr 10 rfl (fun K hK=>?_)
   rw [if_pos (by rfl)]
   go_simp
   refine (HC2.out _ L8).mono ?_
   rintro e9 w9 ⟨rfl,hb9⟩
   have hHeld9:_∧_∧_:=⟨zaf hHeld8.1 hb9,zaf hHeld8.2.1 hb9,(hb9.cell (p:=⟨w.heap.size,0,none⟩) (World.block_lt_of_cell? _ _ hHeld8.2.2)).trans hHeld8.2.2⟩
   have L9:=L8.trans (hb9.mono L8.size)
   clear hb9
   refine hK.out _ _ hHeld9 (fun _=>?_)
   clear hK K
   try simp only [putS]
   refine tg (i:=11) (.bool false) rfl hHeld9 ?_
   refine wpAnyH_done (by kernel_rfl) ?_ _
   have HL9:=Lib.hid L9
   have hcur9:=(L9.block gL (zac HCUR.out.1)).trans HCUR.out.1
   have ho9:i*18+18≤cur.size:=by have:=HCUR.out.2.1;omega
   clear hHeld hHeld8 hHeld9 L8 L9 L0 ra rb cr HC1 HC2
   go_wp2_with (first
    |((with_reducible refine zc2 (.tmp 77) (.tmp 76) gL (i*18) hcur9 ho9 ?_ ?_ ?_ ?_ ?_);rfl;rfl;rfl;rfl;intro w10 cs10 o10 h10 z10 k10))
   have hlr:LRow w5 w10 gL n (i+1) xs:=(HLRi.out.below HL9.out).next (cur:=cur) HCUR.out.2.2 HCUR.out.2.1 o10 h10 z10 k10
   have HLR2:Hid (0 < n→LRow w5 w10 gL n (i+1) xs):=Lib.hid fun _=>hlr
   have HBT2:=Lib.hid hlr.but
   have HB2:Hid (Below W1.heap.size W1 w10):=Lib.hid (zai (HB.out.trans (HL9.out.mono HB.out.size)) o10 hg1 (Nat.le_trans HB.out.size HL9.out.size))
   clear hlr o10 h10 z10 k10 hcur9
   go_wp2_with fail
   go_roundg (n - (i+1))
   case measure=>omega
   case rel=>exact ⟨i+1,by omega,by go_num,HB2,HBT2,HLR2⟩
  ·have HBT6:=HBT
   generalize wr=w6 at*
   have sto:Sto w6 sp l s:=by
    obtain ⟨pv,pr,cv,cr,pp2,cc,k1,k2⟩:=HIN.out
    have:=zf3.but (b:=gL) ⟨pv,pr,cv,cr,pp2,cc,k1.belowF (HB34.out.trans (HB45.out.mono HB34.out.size)),k2⟩ HBT6.out HGL.out.1 (fun u hu=>(HLO.out.plain HGOOD.out u hu).1)
    obtain ⟨pv,pr,cv,cr,pp2,cc,k1,_,_,_,_,k2⟩:=this
    exact ⟨HG.out.below HB.out,HT.out.below HB.out,by have:=HL.out;omega,HLO.out,HGOOD.out,pv,pr,cv,cr,pp2,cc,k1,k2⟩
   have STO:=Lib.hid sto
   have hpl:∀ t∈s.all,zqc t:=fun t ht=>zob HLO.out HGOOD.out ht
   have hv6:Tris w6 V s.all:=zz1 HBT6.out hpl (fun e=>by
    have h1:=HVB.out gL e
    have h2:=HGL.out.1
    have h3:=HB23.out.size
    omega) (HV4.out.below HB45.out)
   obtain ⟨pV,cV,rfl⟩:=zc9 hv6
   obtain ⟨m,hm⟩:∃ m,m=s.all.length:=⟨_,rfl⟩
   have hmr:s.rs.length=m:=by rw [hm];unfold SM.all;rw [List.length_map]
   have hm60:m≤60:=by
    have:=HLO.out.nr
    have:=HL.out
    omega
   rw [← hm] at hv6 ⊢
   have HM:=Lib.hid hm
   have HV6:=Lib.hid hv6
   have HPL:=Lib.hid hpl
   have HALL:=Lib.hid (allS sto)
   have HLN:Hid (∀ W,Below w6.heap.size w6 W→Calls Tryz.prog 16 #[.pointer (some ⟨sp,0,none⟩)] W fun e w'=>e=.returned (.int .i64 m)∧w'=W):=Lib.hid fun W hb=>by
    obtain ⟨pv,pr,cv,cr,pp2,cc,k1,k2⟩:=(sto.below hb).st
    have:=lenC (W:=W) ⟨pv,pr,cv,cr,pp2,cc,k1⟩
    rwa [hmr] at this
   have HBQ:=HB
   have HB6:Hid (Below w.heap.size w w6):=Lib.hid (HB1.out.trans (HB.out.mono HB1.out.size))
   clear sto hpl hv6 hm hmr HLR HBT HBT6 HB
   go_upto_region 17 with (go_at_call 15;(with_reducible refine HALL.out.mono ?_);rintro e w7 ⟨VA,rfl,hta,hb7,hoa,ys,hya⟩)
   obtain ⟨pA,cA,rfl,hac,han,hap⟩:=zd9 hya
   rw [← HM.out] at hac han hya hta ⊢
   have HEQ2:Hid (Calls Tryz.prog 12 #[.slice pA m cA,.slice pV m cV] w7 fun e w'=>e=.returned (.bool true)∧Below w7.heap.size w7 w'):=Lib.hid (by
    have:=zeg s.all s.all (.slice pA m cA) (.slice pV m cV) w7 hta (HV6.out.below hb7) (by have:=HM.out;omega)
    rwa [beq_self_eq_true,Bool.true_and,zca] at this)
   have hpA:0 < m→∃ g,pA=some ⟨g,0,none⟩∧w6.heap.size≤g:=fun h0=>by
    cases hq:pA with
    | none=>exact absurd (han hq).1 (by omega)
    | some ad=>
      obtain ⟨g',o',sp'⟩:=ad
      obtain ⟨rfl,rfl,_⟩:=hap g' o' sp' hq
      exact ⟨g',rfl,(hya.lt g' (by rw [hq];rfl)).1⟩
   have HPA:=Lib.hid hpA
   have HYA:=Lib.hid hya
   have HB7:=Lib.hid hb7
   clear hpA hya hta hac han hap hoa hb7
   go_upto_region 19 with (first
    |(go_at_call 12;(with_reducible refine HEQ2.out.mono ?_);rintro e w8 ⟨rfl,hb8⟩;have HB8:Hid (Below w6.heap.size w6 w8):=Lib.hid (HB7.out.trans (hb8.mono HB7.out.size)))
    |(go_at_call 16;(with_reducible refine (HLN.out _ HB8.out).mono ?_);rintro e w8 ⟨rfl,rfl⟩))
   have HYA8:=Lib.hid (za9 HYA.out hb8)
   clear hb8 HEQ2 HYA
   go_wp2_with fail
   go_loopg [10] m (fun gg sq wr=>∃ i:Nat,i+gg=m∧sq=.int .i64 i∧Hid (Below w6.heap.size w6 wr)∧Hid (∀ g,pA=some ⟨g,0,none⟩→LRow w8 wr g m i ys))
   case atStart=>exact ⟨0,by omega,rfl,HB8,Lib.hid fun g e=>by subst e;exact LRow.start HYA8.out⟩
   case round=>
    obtain ⟨i,hig,rfl,HQ,HLR⟩:=hrel
    by_cases hlt:(i:Int) < m
    ·obtain ⟨g,rfl,hg6⟩:∃ g,pA=some ⟨g,0,none⟩∧w6.heap.size≤g:=HPA.out (by omega)
     have HLRi:=Lib.hid (HLR.out g rfl)
     obtain ⟨cur,hcur,hsz,hxs⟩:=HLRi.out.cur
     have ho9:i*18+18≤cur.size:=by omega
     go_wp2_with (first
      |((with_reducible refine zc2 (.tmp 103) (.tmp 102) g (i*18) hcur ho9 ?_ ?_ ?_ ?_ ?_);rfl;rfl;rfl;rfl;intro w10 cs10 o10 h10 z10 k10))
     have hlr:LRow w8 w10 g m (i+1) ys:=HLRi.out.next (cur:=cur) hxs hsz o10 h10 z10 k10
     have HLR2:Hid (∀ g',some (⟨g,0,none⟩:Addr)=some ⟨g',0,none⟩→LRow w8 w10 g' m (i+1) ys):=Lib.hid fun g' e=>by
      injection e with e
      injection e with e _ _
      subst e
      exact hlr
     have HQ2:Hid (Below w6.heap.size w6 w10):=Lib.hid (zai HQ.out o10 hg6 HQ.out.size)
     clear hlr o10 h10 z10 k10 hcur hsz hxs
     go_wp2_with fail
     go_roundg (m - (i+1))
     case measure=>omega
     case rel=>exact ⟨i+1,by omega,by go_num,HQ2,HLR2⟩
    ·clear HLR
     go_wp2_with fail
     go_loopg [11] np (fun gg sq wr=>∃ i:Nat,i+gg=np∧sq=.int .i64 i∧Hid (Below w6.heap.size w6 wr))
     case atStart=>exact ⟨0,by omega,rfl,HQ⟩
     case round=>
      clear HQ
      obtain ⟨i,hig,rfl,HQ⟩:=hrel
      have hbW1:=HBQ.out.trans (HQ.out.mono HBQ.out.size)
      have c1:=HP0.out _ hbW1
      have HBW1:=Lib.hid hbW1
      clear hbW1
      by_cases hlt:(i:Int) < np
      ·by_cases h12:(i:Int) < 12
       ·have hi1:i < pats.length:=by have:=HNP.out;omega
        obtain ⟨g,off,rfl,hh⟩:∃ g off,pp=some ⟨g,off,none⟩∧zaq w g off (flat pats):=by
         obtain ⟨p1,cap1,e,h1⟩:=HPT.out
         obtain ⟨g,off,e2,h2⟩:=h1 (by intro e;rw [e] at hi1;exact absurd hi1 (by simp))
         injection e with e3 _ _
         exact ⟨g,off,by rw [e3];exact e2,h2⟩
        obtain ⟨v0,v1,v2,q1,q2,q3,j0,j1,j2,rp⟩:=zdk (zaq.below _ hh (HB1.out.trans (HBW1.out.mono HB1.out.size))) i hi1
        have hst:=STO.out.below HQ.out
        obtain ⟨T,hTT⟩:∃ T,T=s.fit v0 v1 v2 pats[i].s pats[i].p pats[i].o:=⟨_,rfl⟩
        have hfd:T=s.all.filter (zf4 v0 v1 v2 pats[i].s pats[i].p pats[i].o):=by rw [hTT];exact fit_doc hst.ld hst.ok hst.n v0 v1 v2 _ _ _
        have hT60:T.length≤60:=by rw [hfd];exact Nat.le_trans (List.length_filter_le _ _) (by have:=HM.out;omega)
        have HMS:Hid (Calls Tryz.prog 17 #[.pointer (some ⟨sp,0,none⟩),.agg #[.int .i64 v0.k,.bool v0.b,.int .i64 v0.n,.string v0.t,.string v0.x,.slice v0.p v0.len v0.cap,.int .i64 v1.k,.bool v1.b,.int .i64 v1.n,.string v1.t,.string v1.x,.slice v1.p v1.len v1.cap,.int .i64 v2.k,.bool v2.b,.int .i64 v2.n,.string v2.t,.string v2.x,.slice v2.p v2.len v2.cap]] wr (zfb wr T)):=Lib.hid (by rw [hTT];exact matchS hst v0 v1 v2 _ _ _ q1 q2 q3 j0 j1 j2)
        have HCS:Hid (∀ W,Below wr.heap.size wr W→Calls Tryz.prog 19 #[.pointer (some ⟨sp,0,none⟩),.agg #[.int .i64 v0.k,.bool v0.b,.int .i64 v0.n,.string v0.t,.string v0.x,.slice v0.p v0.len v0.cap,.int .i64 v1.k,.bool v1.b,.int .i64 v1.n,.string v1.t,.string v1.x,.slice v1.p v1.len v1.cap,.int .i64 v2.k,.bool v2.b,.int .i64 v2.n,.string v2.t,.string v2.x,.slice v2.p v2.len v2.cap]] W fun e w'=>e=.returned (.int .i64 (T.length:Nat))∧Below W.heap.size W w'):=Lib.hid fun W hb=>by rw [hTT];exact countS (hst.below hb) v0 v1 v2 _ _ _ q1 q2 q3 (j0.below hb) (j1.below hb) (j2.below hb)
        have HRM:Hid (∀ W,Below wr.heap.size wr W→Calls Tryz.prog 18 #[.slice pV m cV,.agg #[.int .i64 v0.k,.bool v0.b,.int .i64 v0.n,.string v0.t,.string v0.x,.slice v0.p v0.len v0.cap,.int .i64 v1.k,.bool v1.b,.int .i64 v1.n,.string v1.t,.string v1.x,.slice v1.p v1.len v1.cap,.int .i64 v2.k,.bool v2.b,.int .i64 v2.n,.string v2.t,.string v2.x,.slice v2.p v2.len v2.cap]] W fun e w'=>∃ V,e=.returned V∧Tris w' V T∧Below W.heap.size W w'):=Lib.hid fun W hb=>by
         rw [hfd]
         exact zuv s.all (.slice pV m cV) v0 v1 v2 _ _ _ q1 q2 q3 W (HV6.out.below (HQ.out.trans (hb.mono HQ.out.size))) (by have:=HM.out;omega) HPL.out (j0.below hb) (j1.below hb) (j2.below hb)
        have HRP:=Lib.hid rp
        clear hst hTT hfd j0 j1 j2 hh
        go_upto_region 27 with (first
         |((with_reducible refine zh0 (.tmp 119) g (off+i*18) v0 v1 v2 rp ?_ ?_ ?_ ?_);rfl;rfl;rfl)
         |(go_at_call 17;(with_reducible refine HMS.out.mono ?_);rintro e w7 ⟨VM,rfl,htm,hb7,hobm,ms,hom⟩))
        clear c1 rp
        obtain ⟨pM,cM,rfl,hmc,hmn,hmp⟩:=zd9 hom
        obtain ⟨mm,hmm⟩:∃ mm,mm=T.length:=⟨_,rfl⟩
        have HEM:=Lib.hid (fun W (hb:Below w7.heap.size w7 W) (V2:Value) (h2:Tris W V2 T)=>zeg T T (.slice pM T.length cM) V2 W (htm.below hb) h2 (by omega))
        rw [beq_self_eq_true,Bool.true_and,zca] at HEM
        rw [← hmm] at hmc hmn hom HEM HCS hT60 ⊢
        have HQ7:Hid (Below w6.heap.size w6 w7):=Lib.hid (HQ.out.trans (hb7.mono HQ.out.size))
        have hpm:0 < mm→∃ g,pM=some ⟨g,0,none⟩∧w6.heap.size≤g:=fun h0=>by
         cases hq:pM with
         | none=>exact absurd (hmn hq).1 (by omega)
         | some ad=>
           obtain ⟨g',o',sp'⟩:=ad
           obtain ⟨rfl,rfl,_⟩:=hmp g' o' sp' hq
           have:=(hom.lt g' (by rw [hq];rfl)).1
           have:=HQ.out.size
           exact ⟨g',rfl,by omega⟩
        have HPM:=Lib.hid hpm
        have HOM:=Lib.hid hom
        have rp7:=zaf HRP.out hb7
        have HB7:=Lib.hid hb7
        have c17:=HP0.out _ (HBW1.out.trans (hb7.mono HBW1.out.size))
        clear hmc hmn hmp hom htm hb7 hobm hmm hpm
        go_upto_region 29 with (first
         |((with_reducible refine zh0 (.tmp 127) g (off+i*18) v0 v1 v2 rp7 ?_ ?_ ?_ ?_);rfl;rfl;rfl)
         |(go_at_call 18;(with_reducible refine (HRM.out _ HB7.out).mono ?_);rintro e x1 ⟨VD,rfl,htd,hy1⟩;have HY1:=Lib.hid hy1;clear hy1)
         |(go_at_call 12;(with_reducible refine (HEM.out _ HY1.out VD htd).mono ?_);rintro e x2 ⟨rfl,hy2⟩;have HY2:Hid (Below w7.heap.size w7 x2):=Lib.hid (HY1.out.trans (hy2.mono HY1.out.size));clear hy2;have rp9:=zaf rp7 HY2.out;have c19:=HP0.out _ (HBW1.out.trans ((HB7.out.trans (HY2.out.mono HB7.out.size)).mono HBW1.out.size)))
         |((with_reducible refine zmd (.tmp 137) g (off+i*18) v0 v1 v2 rp9 ?_ ?_ ?_ ?_);rfl;rfl;rfl)
         |(go_at_call 19;(with_reducible refine (HCS.out _ (HB7.out.trans (HY2.out.mono HB7.out.size))).mono ?_);rintro e x3 ⟨rfl,hy3⟩))
        have HY3:Hid (Below w7.heap.size w7 x3):=Lib.hid (HY2.out.trans (hy3.mono HY2.out.size))
        have HQ3:Hid (Below w6.heap.size w6 x3):=Lib.hid (HQ7.out.trans (HY3.out.mono HQ7.out.size))
        have HOM3:=Lib.hid (za9 HOM.out HY3.out)
        clear hy3 htd rp7 rp9 c17 c19 HEM HCS HRM HMS
        go_wp2_with fail
        go_loopg [13] mm (fun gg sq wr=>∃ i2:Nat,i2+gg=mm∧sq=.int .i64 i2∧Hid (Below w6.heap.size w6 wr)∧Hid (∀ g,pM=some ⟨g,0,none⟩→LRow x3 wr g mm i2 ms))
        case atStart=>exact ⟨0,by omega,rfl,HQ3,Lib.hid fun g e=>by subst e;exact LRow.start HOM3.out⟩
        case round=>
         obtain ⟨i2,hig,rfl,HQ,HLR⟩:=hrel
         by_cases hlt:(i2:Int) < mm
         ·obtain ⟨g,rfl,hg6⟩:∃ g,pM=some ⟨g,0,none⟩∧w6.heap.size≤g:=HPM.out (by omega)
          have HLRi:=Lib.hid (HLR.out g rfl)
          obtain ⟨cur,hcur,hsz,hxs⟩:=HLRi.out.cur
          have ho9:i2*18+18≤cur.size:=by omega
          go_wp2_with (first
           |((with_reducible refine zc2 (.tmp 153) (.tmp 152) g (i2*18) hcur ho9 ?_ ?_ ?_ ?_ ?_);rfl;rfl;rfl;rfl;intro w10 cs10 o10 h10 z10 k10))
          have hlr:LRow x3 w10 g mm (i2+1) ms:=HLRi.out.next (cur:=cur) hxs hsz o10 h10 z10 k10
          have HLR2:Hid (∀ g',some (⟨g,0,none⟩:Addr)=some ⟨g',0,none⟩→LRow x3 w10 g' mm (i2+1) ms):=Lib.hid fun g' e=>by
           injection e with e
           injection e with e _ _
           subst e
           exact hlr
          have HQ2:Hid (Below w6.heap.size w6 w10):=Lib.hid (zai HQ.out o10 hg6 HQ.out.size)
          clear hlr o10 h10 z10 k10 hcur hsz hxs
          go_wp2_with fail
          go_roundg (mm - (i2+1))
          case measure=>omega
          case rel=>exact ⟨i2+1,by omega,by go_num,HQ2,HLR2⟩
         ·clear HLR
          go_wp2_with fail
          go_roundg (np - (i+1))
          case measure=>omega
          case rel=>exact ⟨i+1,by omega,by go_num,HQ⟩
       ·have h12':¬ (i:Int) < 12:=h12
        have HWK:=Lib.hid (fun W (hb:Below w6.heap.size w6 W)=>zp6 W (STO.out.g.below hb) (STO.out.t.below hb))
        have HA2:=Lib.hid (allS (STO.out.below HQ.out))
        have HEQ9:=Lib.hid (fun W (hb:Below wr.heap.size wr W) (V2:Value) (h2:Tris W V2 s.all)=>zeg s.all s.all V2 (.slice pV m cV) W h2 (HV6.out.below (HQ.out.trans (hb.mono HQ.out.size))) (by have:=HM.out;omega))
        rw [beq_self_eq_true,Bool.true_and,zca] at HEQ9
        go_wp2_with (first
         |(go_at_call 15;(with_reducible refine HA2.out.mono ?_);rintro e u1 ⟨VZ,rfl,htz,hz1,_⟩;have HZ1:=Lib.hid hz1;clear hz1)
         |(go_at_call 12;(with_reducible refine (HEQ9.out _ HZ1.out VZ htz).mono ?_);rintro e u2 ⟨rfl,hz2⟩;have HZ2:Hid (Below w6.heap.size w6 u2):=Lib.hid (HQ.out.trans ((HZ1.out.trans (hz2.mono HZ1.out.size)).mono HQ.out.size));clear hz2)
         |(go_at_call 8;(with_reducible refine (HWK.out _ HZ2.out).mono ?_);rintro e u3 ⟨rfl,hz3⟩))
        go_ret
        exact ⟨rfl,HB6.out.trans ((HZ2.out.trans (hz3.mono HZ2.out.size)).mono HB6.out.size)⟩
      ·clear hig
       have HWK:=Lib.hid (fun W (hb:Below w6.heap.size w6 W)=>zp6 W (STO.out.g.below hb) (STO.out.t.below hb))
       have HA2:=Lib.hid (allS (STO.out.below HQ.out))
       have HEQ9:=Lib.hid (fun W (hb:Below wr.heap.size wr W) (V2:Value) (h2:Tris W V2 s.all)=>zeg s.all s.all V2 (.slice pV m cV) W h2 (HV6.out.below (HQ.out.trans (hb.mono HQ.out.size))) (by have:=HM.out;omega))
       rw [beq_self_eq_true,Bool.true_and,zca] at HEQ9
       go_wp2_with (first
        |(go_at_call 15;(with_reducible refine HA2.out.mono ?_);rintro e u1 ⟨VZ,rfl,htz,hz1,_⟩;have HZ1:=Lib.hid hz1;clear hz1)
        |(go_at_call 12;(with_reducible refine (HEQ9.out _ HZ1.out VZ htz).mono ?_);rintro e u2 ⟨rfl,hz2⟩;have HZ2:Hid (Below w6.heap.size w6 u2):=Lib.hid (HQ.out.trans ((HZ1.out.trans (hz2.mono HZ1.out.size)).mono HQ.out.size));clear hz2)
        |(go_at_call 8;(with_reducible refine (HWK.out _ HZ2.out).mono ?_);rintro e u3 ⟨rfl,hz3⟩))
       go_ret
       exact ⟨rfl,HB6.out.trans ((HZ2.out.trans (hz3.mono HZ2.out.size)).mono HB6.out.size)⟩
end Go.Proofs.YtanbgdhmfjgihaaGreatDoor
