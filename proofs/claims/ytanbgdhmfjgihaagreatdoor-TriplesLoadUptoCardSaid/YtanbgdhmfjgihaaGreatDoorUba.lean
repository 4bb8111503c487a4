/- Texts of one kind, one behind the other: each says ahead of itself what it shows. -/
import Derived.Test.YtanbgdhmfjgihaaGreatDoorUaz
import Derived.Laws.MakeOwn
namespace Go.Proofs.YtanbgdhmfjgihaaGreatDoor
open Go.RowKit
set_option maxHeartbeats 12800000
set_option maxRecDepth 20000
theorem zp9 {ops:Array Oper} {op:Oper} {a:Act} {w:World} {K:Act→World→Prop} {Q:Exit→Act→World→Prop} {E:Prop} (hgd:op.guard=none) (x y:Operand) (g:Nat) (s p o:V6) {c:Array Value} (hg:w.heap[g]?=some (.cells c 41)) (hs:c.size=18)
 (ho:op.op=.store 41 x y) (hx:a.eval x=.pointer (some ⟨g,0,none⟩)) (hy:a.eval y=.agg #[.int .i64 s.k,.bool s.b,.int .i64 s.n,.string s.t,.string s.x,.slice s.p s.len s.cap,.int .i64 p.k,.bool p.b,.int .i64 p.n,.string p.t,.string p.x,.slice p.p p.len p.cap,.int .i64 o.k,.bool o.b,.int .i64 o.n,.string o.t,.string o.x,.slice o.p o.len o.cap])
 (h:∀ w',Only g w w'→za6 w' g s p o→K (a.put op.dst undef) w'):if Region.wanted op (yielded ops a.tmps)=true then Oper.wp Tryz.prog op a w K Q else E:=by
 have hw:Region.wanted op (yielded ops a.tmps)=true:=by simp [Region.wanted,hgd]
 rw [if_pos hw]
 unfold Oper.wp execOp
 simp only [ho,hx,hy,Instr.storeAt,Instr.sureAddr,Sem.run_bind,Sem.run_pure,Result.andThen_ok,run_storeVar_row (P:=Tryz.prog) w g 41 41 c #[.int .i64 s.k,.bool s.b,.int .i64 s.n,.string s.t,.string s.x,.slice s.p s.len s.cap,.int .i64 p.k,.bool p.b,.int .i64 p.n,.string p.t,.string p.x,.slice p.p p.len p.cap,.int .i64 o.k,.bool o.b,.int .i64 o.n,.string o.t,.string o.x,.slice o.p o.len o.cap] hg (by exact zb7) (by rw [hs];rfl) (by simp [Value.oneCell'])]
 exact h _ (Only.setRow w _) (za4 hg)
theorem zqa (sp gv ov nv cv a0 a1 a2:Nat) (e0 e1 e2:V6) (w:World) (h0:a0 < nv) (h1:a1 < nv) (h2:a2 < nv)
 (k0:w.cell? ⟨sp,0,none⟩=some (.slice (some ⟨gv,ov,none⟩) nv cv)) (r0:w.rangeAt gv (ov+a0*6) [.int .i64 e0.k,.bool e0.b,.int .i64 e0.n,.string e0.t,.string e0.x,.slice e0.p e0.len e0.cap]) (r1:w.rangeAt gv (ov+a1*6) [.int .i64 e1.k,.bool e1.b,.int .i64 e1.n,.string e1.t,.string e1.x,.slice e1.p e1.len e1.cap]) (r2:w.rangeAt gv (ov+a2*6) [.int .i64 e2.k,.bool e2.b,.int .i64 e2.n,.string e2.t,.string e2.x,.slice e2.p e2.len e2.cap])
 (f0:e0.t.size≤2097152∧e0.x.size≤2097152) (f1:e1.t.size≤2097152∧e1.x.size≤2097152) (f2:e2.t.size≤2097152∧e2.x.size≤2097152):
 Calls Tryz.prog 50 #[.pointer (some ⟨sp,0,none⟩),.agg #[.int .i64 a0,.int .i64 a1,.int .i64 a2]] w fun e w'=>e=.returned (.agg #[.int .i64 e0.k,.bool e0.b,.int .i64 e0.n,.string e0.t,.string e0.x,.slice none 0 0,.int .i64 e1.k,.bool e1.b,.int .i64 e1.n,.string e1.t,.string e1.x,.slice none 0 0,.int .i64 e2.k,.bool e2.b,.int .i64 e2.n,.string e2.t,.string e2.x,.slice none 0 0])∧Below w.heap.size w w':=by
 obtain ⟨W0,hW0⟩:∃ W0,W0=(w.alloc (.cells #[.int .i64 a0,.int .i64 a1,.int .i64 a2] 81)).alloc (.cells #[.int .i64 0,.bool false,.int .i64 0,.string ⟨#[]⟩,.string ⟨#[]⟩,.slice none 0 0,.int .i64 0,.bool false,.int .i64 0,.string ⟨#[]⟩,.string ⟨#[]⟩,.slice none 0 0,.int .i64 0,.bool false,.int .i64 0,.string ⟨#[]⟩,.string ⟨#[]⟩,.slice none 0 0] 41):=⟨_,rfl⟩
 have b0:Below w.heap.size w W0:=by rw [hW0];exact zdx _ _ _
 have A0:W0.heap[w.heap.size]?=some (.cells #[.int .i64 a0,.int .i64 a1,.int .i64 a2] 81):=by rw [hW0];exact zau _ (zag _ _ rfl)
 have B0:W0.heap[w.heap.size+1]?=some (.cells #[.int .i64 0,.bool false,.int .i64 0,.string ⟨#[]⟩,.string ⟨#[]⟩,.slice none 0 0,.int .i64 0,.bool false,.int .i64 0,.string ⟨#[]⟩,.string ⟨#[]⟩,.slice none 0 0,.int .i64 0,.bool false,.int .i64 0,.string ⟨#[]⟩,.string ⟨#[]⟩,.slice none 0 0] 41):=by rw [hW0];exact zag _ _ (by simp)
 have HK:=Lib.hid (fun W (h:Below w.heap.size w W)=>(h.cell (p:=⟨sp,0,none⟩) (World.block_lt_of_cell? w _ k0)).trans k0)
 have HR0:=Lib.hid (fun W (h:Below w.heap.size w W)=>zaf r0 h)
 have HR1:=Lib.hid (fun W (h:Below w.heap.size w W)=>zaf r1 h)
 have HR2:=Lib.hid (fun W (h:Below w.heap.size w W)=>zaf r2 h)
 have HO0:=Lib.hid (fun W=>zwr e0.k e0.b e0.n e0.t e0.x e0.p e0.len e0.cap W f0.1 f0.2)
 have HO1:=Lib.hid (fun W=>zwr e1.k e1.b e1.n e1.t e1.x e1.p e1.len e1.cap W f1.1 f1.2)
 have HO2:=Lib.hid (fun W=>zwr e2.k e2.b e2.n e2.t e2.x e2.p e2.len e2.cap W f2.1 f2.2)
 have h0i:(a0:Int) < nv:=by omega
 have h1i:(a1:Int) < nv:=by omega
 have h2i:(a2:Int) < nv:=by omega
 have HW:=Lib.hid hW0
 clear hW0 k0 r0 r1 r2
 go_enter Tryz.func50,Tryz.ntmps50
 go_upto_region 1 with fail
 rw [← HW.out]
 refine wp_region_held_drew (S:=fun W=>Below w.heap.size w W∧W.heap[w.heap.size]?=some (.cells #[.int .i64 a0,.int .i64 a1,.int .i64 a2] 81)) (by kernel_rfl) ⟨b0.drew,A0⟩ (fun hHeld=>?_)
 replace B0:W0.drew.heap[w.heap.size+1]?=some (.cells #[.int .i64 0,.bool false,.int .i64 0,.string ⟨#[]⟩,.string ⟨#[]⟩,.slice none 0 0,.int .i64 0,.bool false,.int .i64 0,.string ⟨#[]⟩,.string ⟨#[]⟩,.slice none 0 0,.int .i64 0,.bool false,.int .i64 0,.string ⟨#[]⟩,.string ⟨#[]⟩,.slice none 0 0] 41):=B0
 refine tg (i:=0) (.pointer (some ⟨sp,0,none⟩)) rfl hHeld ?_
 refine tg (i:=1) (.pointer (some ⟨sp,0,none⟩)) rfl hHeld ?_
 refine tg (i:=2) (.pointer (some ⟨sp,0,none⟩)) rfl hHeld ?_
 refine tk (i:=3) (v:=.slice (some ⟨gv,ov,none⟩) nv cv) rfl (Or.inl ⟨by rfl,fun W h=>by have c0:=HK.out W h.1;go_simp⟩) hHeld ?_
 refine tg (i:=4) (.pointer (some ⟨w.heap.size,0,none⟩)) rfl hHeld ?_
 refine tk (i:=5) (v:=.int .i64 a0) rfl (Or.inl ⟨by rfl,fun W h=>by have c0:=zab h.2 0 (v:=.int .i64 a0) rfl;go_simp⟩) hHeld ?_
 refine tg (i:=6) (.pointer (some ⟨gv,ov+a0*6,none⟩)) rfl hHeld ?_
 refine tk (i:=7) rfl (yieldsIf_load_mid (by rfl) 39 (.tmp 11) rfl gv (ov+a0*6) rfl [.int .i64 e0.k,.bool e0.b,.int .i64 e0.n,.string e0.t,.string e0.x,.slice e0.p e0.len e0.cap] _ (fun W h=>HR0.out W h.1) Tryz.underlying39 rfl zav) hHeld ?_
 refine tg (i:=9) (.pointer (some ⟨sp,0,none⟩)) rfl hHeld ?_
 refine tg (i:=10) (.pointer (some ⟨sp,0,none⟩)) rfl hHeld ?_
 refine tg (i:=11) (.pointer (some ⟨sp,0,none⟩)) rfl hHeld ?_
 refine tk (i:=12) (v:=.slice (some ⟨gv,ov,none⟩) nv cv) rfl (Or.inl ⟨by rfl,fun W h=>by have c0:=HK.out W h.1;go_simp⟩) hHeld ?_
 refine tg (i:=13) (.pointer (some ⟨w.heap.size,1,none⟩)) rfl hHeld ?_
 refine tk (i:=14) (v:=.int .i64 a1) rfl (Or.inl ⟨by rfl,fun W h=>by have c0:=zab h.2 1 (v:=.int .i64 a1) rfl;go_simp⟩) hHeld ?_
 refine tg (i:=15) (.pointer (some ⟨gv,ov+a1*6,none⟩)) rfl hHeld ?_
 refine tk (i:=16) rfl (yieldsIf_load_mid (by rfl) 39 (.tmp 20) rfl gv (ov+a1*6) rfl [.int .i64 e1.k,.bool e1.b,.int .i64 e1.n,.string e1.t,.string e1.x,.slice e1.p e1.len e1.cap] _ (fun W h=>HR1.out W h.1) Tryz.underlying39 rfl zav) hHeld ?_
 refine tg (i:=18) (.pointer (some ⟨sp,0,none⟩)) rfl hHeld ?_
 refine tg (i:=19) (.pointer (some ⟨sp,0,none⟩)) rfl hHeld ?_
 refine tg (i:=20) (.pointer (some ⟨sp,0,none⟩)) rfl hHeld ?_
 refine tk (i:=21) (v:=.slice (some ⟨gv,ov,none⟩) nv cv) rfl (Or.inl ⟨by rfl,fun W h=>by have c0:=HK.out W h.1;go_simp⟩) hHeld ?_
 refine tg (i:=22) (.pointer (some ⟨w.heap.size,2,none⟩)) rfl hHeld ?_
 refine tk (i:=23) (v:=.int .i64 a2) rfl (Or.inl ⟨by rfl,fun W h=>by have c0:=zab h.2 2 (v:=.int .i64 a2) rfl;go_simp⟩) hHeld ?_
 refine tg (i:=24) (.pointer (some ⟨gv,ov+a2*6,none⟩)) rfl hHeld ?_
 refine tk (i:=25) rfl (yieldsIf_load_mid (by rfl) 39 (.tmp 29) rfl gv (ov+a2*6) rfl [.int .i64 e2.k,.bool e2.b,.int .i64 e2.n,.string e2.t,.string e2.x,.slice e2.p e2.len e2.cap] _ (fun W h=>HR2.out W h.1) Tryz.underlying39 rfl zav) hHeld ?_
 refine tr 8 rfl (fun K hK=>?_)
 rw [if_pos (by rfl)]
 go_simp
 refine (HO0.out _).mono ?_
 rintro e0 w3 ⟨rfl,hb3⟩
 have hHeld1:_∧_:=⟨zak hHeld.1 hb3 hHeld.1.size,(hb3.block w.heap.size (zac hHeld.2)).trans hHeld.2⟩
 replace B0:=(hb3.block _ (zac B0)).trans B0
 clear hb3 hHeld
 refine hK.out _ _ hHeld1 (fun hHeld1=>?_)
 clear hK K
 try simp only [putS]
 refine tr 17 rfl (fun K hK=>?_)
 rw [if_pos (by rfl)]
 go_simp
 refine (HO1.out _).mono ?_
 rintro e0 w3 ⟨rfl,hb3⟩
 have hHeld2:_∧_:=⟨zak hHeld1.1 hb3 hHeld1.1.size,(hb3.block w.heap.size (zac hHeld1.2)).trans hHeld1.2⟩
 replace B0:=(hb3.block _ (zac B0)).trans B0
 clear hb3 hHeld1
 refine hK.out _ _ hHeld2 (fun hHeld2=>?_)
 clear hK K
 try simp only [putS]
 refine tr 26 rfl (fun K hK=>?_)
 rw [if_pos (by rfl)]
 go_simp
 refine (HO2.out _).mono ?_
 rintro e0 w3 ⟨rfl,hb3⟩
 have hHeld3:_∧_:=⟨zak hHeld2.1 hb3 hHeld2.1.size,(hb3.block w.heap.size (zac hHeld2.2)).trans hHeld2.2⟩
 replace B0:=(hb3.block _ (zac B0)).trans B0
 clear hb3 hHeld2
 refine hK.out _ _ hHeld3 (fun hHeld3=>?_)
 clear hK K
 try simp only [putS]
 refine tg (i:=27) (.agg #[.int .i64 e0.k,.bool e0.b,.int .i64 e0.n,.string e0.t,.string e0.x,.slice none 0 0,.int .i64 e1.k,.bool e1.b,.int .i64 e1.n,.string e1.t,.string e1.x,.slice none 0 0,.int .i64 e2.k,.bool e2.b,.int .i64 e2.n,.string e2.t,.string e2.x,.slice none 0 0]) rfl hHeld3 ?_
 refine tr 28 rfl (fun K hK=>?_)
 refine zp9 rfl (.tmp 4) (.tmp 32) (w.heap.size+1) ⟨e0.k,e0.b,e0.n,e0.t,e0.x,none,0,0⟩ ⟨e1.k,e1.b,e1.n,e1.t,e1.x,none,0,0⟩ ⟨e2.k,e2.b,e2.n,e2.t,e2.x,none,0,0⟩ B0 rfl rfl rfl rfl ?_
 intro w5 ho5 hB5
 have hHeld4:_∧_:=⟨zai hHeld3.1 ho5 (Nat.le_succ _) hHeld3.1.size,(ho5.block w.heap.size (zac hHeld3.2) (by omega)).trans hHeld3.2⟩
 refine hK.out _ _ hHeld4 (fun _=>?_)
 clear hK K
 try simp only [putS]
 refine wpAnyH_done (by kernel_rfl) ?_ _
 go_wp2_with fail
 exact bodyPost_ret (v:=.agg #[.int .i64 e0.k,.bool e0.b,.int .i64 e0.n,.string e0.t,.string e0.x,.slice none 0 0,.int .i64 e1.k,.bool e1.b,.int .i64 e1.n,.string e1.t,.string e1.x,.slice none 0 0,.int .i64 e2.k,.bool e2.b,.int .i64 e2.n,.string e2.t,.string e2.x,.slice none 0 0]) (results_cell_row (p:=4) (ty:=41) Tryz.results50 _ _ (w.heap.size+1) 41 _ (0,0) _ rfl hB5 Tryz.underlying41 rfl (by exact zb7)) rfl ⟨rfl,hHeld4.1⟩
def SM.tri (s:SM) (r:R3):Tri3:=⟨(s.vs[r.a]?).getD nulV,(s.vs[r.b]?).getD nulV,(s.vs[r.c]?).getD nulV⟩
def SM.all (s:SM):List Tri3:=s.rs.map s.tri
theorem zfj {W:World} {s:SM} {pv:Option Addr} (hv:zle W pv s.vs) (hp:∀ u∈s.vs,zdn u) (m:Nat) (hm:m < s.vs.length):∃ gv ov,pv=some ⟨gv,ov,none⟩∧∃ v:V6,∃ e:VE,e.v=⟨v.k,v.b,v.n,v.t,v.x,none,0,0⟩∧e.val=(s.vs[m]?).getD nulV∧W.rangeAt gv (ov+m*6) [.int .i64 v.k,.bool v.b,.int .i64 v.n,.string v.t,.string v.x,.slice v.p v.len v.cap]∧v.t.size≤2097152∧v.x.size≤2097152:=by
 have hne:s.vs≠[]:=by intro e;rw [e] at hm;exact absurd hm (by simp)
 obtain ⟨gv,ov,e,hh⟩:=hv hne
 obtain ⟨v,q2,hi,hr⟩:=isOf (zaq.at_ s.vs ov hh m hm)
 obtain ⟨ee,he,hval⟩:=hi.plain (hp _ (List.getElem_mem hm))
 obtain ⟨⟨k,b,n,t,x,p,len,cap⟩,h0,hf⟩:=ee
 simp only at he
 subst he
 refine ⟨gv,ov,e,_,⟨⟨k,b,n,t,x,none,0,0⟩,rfl,hf⟩,rfl,?_,hr,hi.hf.ht,hi.hf.hx⟩
 rw [List.getElem?_eq_getElem hm,Option.getD_some,← hval]
 rfl
theorem zn7 {ops:Array Oper} {rest:List Oper} {o:Oper} {a:Act} {w:World} {Q:Exit→Act→World→Prop} (x:Operand) (g:Nat) (a0 a1 a2:Int) (hg:w.heap[g]?=some (.cells #[.int .i64 a0,.int .i64 a1,.int .i64 a2] 81))
 (hgd:o.guard=none) (ho:o.op=.load 81 x) (hx:a.eval x=.pointer (some ⟨g,0,none⟩))
 (h:wpList Tryz.prog ops Q rest (a.put o.dst (.agg #[.int .i64 a0,.int .i64 a1,.int .i64 a2])) w):wpList Tryz.prog ops Q (o::rest) a w:=
 wpList_load_row hgd 81 x ho g hx 81 _ (0,0) _ hg Tryz.underlying81 rfl zdy h
theorem zqb {ops:Array Oper} {rest:List Oper} {o:Oper} {a:Act} {w:World} {Q:Exit→Act→World→Prop} (x:Operand) (g off:Nat) (a0 a1 a2:Int) (hr:w.rangeAt g off [.int .i64 a0,.int .i64 a1,.int .i64 a2])
 (hgd:o.guard=none) (ho:o.op=.load 81 x) (hx:a.eval x=.pointer (some ⟨g,off,none⟩))
 (h:wpList Tryz.prog ops Q rest (a.put o.dst (.agg #[.int .i64 a0,.int .i64 a1,.int .i64 a2])) w):wpList Tryz.prog ops Q (o::rest) a w:=
 wpList_load_mid hgd 81 x ho g off hx [.int .i64 a0,.int .i64 a1,.int .i64 a2] _ hr Tryz.underlying81 rfl zdy h
theorem zma {ops:Array Oper} {rest:List Oper} {op:Oper} {a:Act} {w:World} {Q:Exit→Act→World→Prop} (x y:Operand) (g:Nat) (a0 a1 a2:Int) {c:Array Value} (hg:w.heap[g]?=some (.cells c 81)) (hs:c.size=3)
 (hgd:op.guard=none) (ho:op.op=.store 81 x y) (hx:a.eval x=.pointer (some ⟨g,0,none⟩)) (hy:a.eval y=.agg #[.int .i64 a0,.int .i64 a1,.int .i64 a2])
 (h:∀ w',Only g w w'→w'.heap[g]?=some (.cells #[.int .i64 a0,.int .i64 a1,.int .i64 a2] 81)→wpList Tryz.prog ops Q rest (a.put op.dst undef) w'):wpList Tryz.prog ops Q (op::rest) a w:=
 wpList_plain hgd fun _ hK=>by
  unfold Oper.wp execOp
  simp only [ho,hx,hy,Instr.storeAt,Instr.sureAddr,Sem.run_bind,Sem.run_pure,Result.andThen_ok,run_storeVar_row (P:=Tryz.prog) w g 81 81 c #[.int .i64 a0,.int .i64 a1,.int .i64 a2] hg (by exact zdy) (by rw [hs];rfl) (by simp [Value.oneCell'])]
  exact hK _ _ (h _ (Only.setRow w _) (za4 hg))
def GA (W0:World) (s:SM) (j:Nat) (V:Value) (wr:World):Prop:=∃ d:List VE,d.map VE.val=flat (s.all.take j)∧wr.ownsRow W0.heap.size 41 18 V j (d.flatMap VE.enc)∧Below W0.heap.size W0 wr
theorem zic:(Tryz.prog.info? 41).map (fun i=>(i.zero,i.size,i.bytes))=some (some (.agg #[.int .i64 0,.bool false,.int .i64 0,.string ⟨#[]⟩,.string ⟨#[]⟩,.slice none 0 0,.int .i64 0,.bool false,.int .i64 0,.string ⟨#[]⟩,.string ⟨#[]⟩,.slice none 0 0,.int .i64 0,.bool false,.int .i64 0,.string ⟨#[]⟩,.string ⟨#[]⟩,.slice none 0 0]),18,240):=by kernel_rfl
def zrp (w:World) (s:SM) (e:Ending) (w':World):Prop:=∃ L,e=.returned L∧Tris w' L s.all∧Below w.heap.size w w'∧(∀ g,L.ownBlock=some g→w.heap.size≤g)∧∃ xs,w'.ownsRow w.heap.size 41 18 L s.all.length xs
theorem allAt (sp:Nat) (s:SM) (pv pr:Option Addr) (cv cr:Nat) (pp:Nat→Option Addr) (cc:Nat→Nat) (w:World) (h:zcy w sp s pv pr cv cr pp cc) (ok:SMok s) (hp:∀ u∈s.vs,zdn u) (hn:s.rs.length≤2097152):
 Calls Tryz.prog 15 #[.pointer (some ⟨sp,0,none⟩)] w (zrp w s):=by
 obtain ⟨i0,hi,hz0,hz1,hz2⟩:=info_parts zic
 obtain ⟨n,hnn⟩:∃ n,n=s.rs.length:=⟨_,rfl⟩
 have c1:w.cell? ⟨sp,1,none⟩=some (.slice pr n cr):=by rw [hnn];exact zab h.h 1 rfl
 have HN:=Lib.hid hnn
 have HS:=Lib.hid h
 have HP:=Lib.hid hp
 have HOK:=Lib.hid ok
 rw [← hnn] at hn
 clear h hp ok hnn
 go_enter Tryz.func15,Tryz.ntmps15
 go_wp2_with fail
 clear c1
 go_loopg [3,11] n (fun gg s3 s11 wr=>∃ (j:Nat) (V:Value),V=s3∧j+gg=n∧s11=.int .i64 j∧Hid (GA w s j V wr))
 case atStart=>exact ⟨0,_,rfl,by omega,rfl,Lib.hid ⟨[],rfl,World.ownsRow_nil _ _ _ _,Below.refl _ _⟩⟩
 case round=>
  obtain ⟨j,V,rfl,hjg,rfl,HA⟩:=hrel
  by_cases hlt:(j:Int) < n
  ·have hj1:j < s.rs.length:=by have:=HN.out;omega
   obtain ⟨d,hd,hown,hbel⟩:=HA.out
   have hsw:=HS.out
   have hne:s.rs≠[]:=by intro e;rw [e] at hj1;exact absurd hj1 (by simp)
   obtain ⟨gr,fr,rfl,hrr⟩:=hsw.r hne
   have ra:=zaf (hrr j hj1) hbel
   have hrow:=HOK.out.r _ (List.getElem_mem hj1)
   obtain ⟨a0,ha0⟩:∃ a,a=s.rs[j].a:=⟨_,rfl⟩
   obtain ⟨a1,ha1⟩:∃ a,a=s.rs[j].b:=⟨_,rfl⟩
   obtain ⟨a2,ha2⟩:∃ a,a=s.rs[j].c:=⟨_,rfl⟩
   rw [← ha0,← ha1,← ha2] at ra hrow
   have hvb:=hsw.v.below hbel
   obtain ⟨gv,ov,rfl,e0,x0,hx0,hv0,q0,f0,g0⟩:=zfj hvb HP.out a0 hrow.1
   obtain ⟨gv',ov',ee,e1,x1,hx1,hv1,q1,f1,g1⟩:=zfj hvb HP.out a1 hrow.2.1
   obtain ⟨rfl,rfl⟩:gv=gv'∧ov=ov':=by injection ee with ee;injection ee with e1 e2 _;exact ⟨e1,e2⟩
   obtain ⟨gv',ov',ee,e2,x2,hx2,hv2,q2,f2,g2⟩:=zfj hvb HP.out a2 hrow.2.2
   obtain ⟨rfl,rfl⟩:gv=gv'∧ov=ov':=by injection ee with ee;injection ee with e1 e2 _;exact ⟨e1,e2⟩
   have k0:wr.cell? ⟨sp,0,none⟩=some (.slice (some ⟨gv,ov,none⟩) s.vs.length cv):=(hbel.cell (p:=⟨sp,0,none⟩) (World.block_lt_of_cell? w _ (zab hsw.h 0 rfl))).trans (zab hsw.h 0 rfl)
   have htri:flat [s.tri s.rs[j]]=[x0.val,x1.val,x2.val]:=by
    unfold SM.tri
    rw [zbv,zdp,hv0,hv1,hv2,ha0,ha1,ha2]
   have hc:∀ W,Below wr.heap.size wr W→Calls Tryz.prog 50 #[.pointer (some ⟨sp,0,none⟩),.agg #[.int .i64 a0,.int .i64 a1,.int .i64 a2]] W fun e w'=>e=.returned (.agg #[.int .i64 e0.k,.bool e0.b,.int .i64 e0.n,.string e0.t,.string e0.x,.slice none 0 0,.int .i64 e1.k,.bool e1.b,.int .i64 e1.n,.string e1.t,.string e1.x,.slice none 0 0,.int .i64 e2.k,.bool e2.b,.int .i64 e2.n,.string e2.t,.string e2.x,.slice none 0 0])∧Below W.heap.size W w':=fun W hb=>
    zqa sp gv ov s.vs.length cv a0 a1 a2 e0 e1 e2 W hrow.1 hrow.2.1 hrow.2.2 ((hb.cell (p:=⟨sp,0,none⟩) (World.block_lt_of_cell? wr _ k0)).trans k0) (zaf q0 hb) (zaf q1 hb) (zaf q2 hb) ⟨f0,g0⟩ ⟨f1,g1⟩ ⟨f2,g2⟩
   have HC:=Lib.hid hc
   have HX:=Lib.hid (And.intro hd (And.intro hown (And.intro hbel (And.intro htri (And.intro hx0 (And.intro hx1 hx2))))))
   clear hc hd hown hbel htri hx0 hx1 hx2 hv0 hv1 hv2 q0 q1 q2 hvb hsw hrr k0 HA ee hrow ha0 ha1 ha2 hne
   go_upto_region 5 with (first
    |((with_reducible refine zqb (.tmp 13) gr (fr+j*3) a0 a1 a2 ra ?_ ?_ ?_ ?_);rfl;rfl;rfl)
    |((with_reducible refine zma (.tmp 5) (.tmp 14) wr.heap.size a0 a1 a2 (zag _ _ rfl) rfl ?_ ?_ ?_ ?_ ?_);rfl;rfl;rfl;rfl;intro wX hoX BX))
   have bX:Below wr.heap.size wr wX:=zai (zap wr _) hoX (Nat.le_refl _) (by simp)
   have hownX:=za9 HX.out.2.1 bX
   have hbs:=HX.out.2.2.1.size
   have hfs:=bX.size
   have HBX:=Lib.hid bX
   have HCX:=Lib.hid (HC.out wX bX)
   clear hoX ra bX HC
   go_wp2_with (first
    |((with_reducible refine zn7 (.tmp 5) wr.heap.size a0 a1 a2 BX ?_ ?_ ?_ ?_);rfl;rfl;rfl)
    |(go_at_call 50;(with_reducible refine HCX.out.mono ?_);rintro e w4 ⟨rfl,hb4⟩
      have hown4:=za9 hownX hb4
      have hs4:=hb4.size
      have HB4:=Lib.hid hb4
      clear hb4)
    |(at_builtin;refine wpList_append_own_at _ rfl _ _ 22 rfl w.heap.size 41 i0 (.agg #[.int .i64 0,.bool false,.int .i64 0,.string ⟨#[]⟩,.string ⟨#[]⟩,.slice none 0 0,.int .i64 0,.bool false,.int .i64 0,.string ⟨#[]⟩,.string ⟨#[]⟩,.slice none 0 0,.int .i64 0,.bool false,.int .i64 0,.string ⟨#[]⟩,.string ⟨#[]⟩,.slice none 0 0]) 18 240 Tryz.underlying22 hi hz0 hz1 hz2 rfl (by decide) _ _ _ rfl (hown4.alloc _) ⟨w4.heap.size,0,none⟩ 1 1 [.int .i64 e0.k,.bool e0.b,.int .i64 e0.n,.string e0.t,.string e0.x,.slice none 0 0,.int .i64 e1.k,.bool e1.b,.int .i64 e1.n,.string e1.t,.string e1.x,.slice none 0 0,.int .i64 e2.k,.bool e2.b,.int .i64 e2.n,.string e2.t,.string e2.x,.slice none 0 0] rfl rfl (zdl _ ⟨e0.k,e0.b,e0.n,e0.t,e0.x,none,0,0⟩ ⟨e1.k,e1.b,e1.n,e1.t,e1.x,none,0,0⟩ ⟨e2.k,e2.b,e2.n,e2.t,e2.x,none,0,0⟩ _) ?_ ?_ ?_ ?_ ?_))
   all_goals (try (first |(unfold maxLen;omega) | omega |(simp;omega) |(intro u hu;simp only [List.mem_cons,List.mem_nil_iff,or_false] at hu;rcases hu with rfl | rfl | rfl | rfl | rfl | rfl | rfl | rfl | rfl | rfl | rfl | rfl | rfl | rfl | rfl | rfl | rfl | rfl <;> rfl)))
   intro v' w1 hown' hgrow _ hloc
   have acc:GA w s (j+1) v' w1:=by
    obtain ⟨hd,hown,hbel,htri,hx0,hx1,hx2⟩:=HX.out
    refine ⟨d++[x0,x1,x2],?_,?_,?_⟩
    ·have hj2:j < s.all.length:=by unfold SM.all;simpa using hj1
     rw [List.take_succ_eq_append_getElem hj2,List.map_append,hd]
     have e:s.all[j]=s.tri s.rs[j]:=List.getElem_map s.tri
     rw [e]
     unfold flat at htri ⊢
     rw [List.flatMap_append,htri]
     rfl
    ·rw [List.flatMap_append]
     have e:[x0,x1,x2].flatMap VE.enc=[.int .i64 e0.k,.bool e0.b,.int .i64 e0.n,.string e0.t,.string e0.x,.slice none 0 0,.int .i64 e1.k,.bool e1.b,.int .i64 e1.n,.string e1.t,.string e1.x,.slice none 0 0,.int .i64 e2.k,.bool e2.b,.int .i64 e2.n,.string e2.t,.string e2.x,.slice none 0 0]:=by
      simp [VE.enc,hx0,hx1,hx2]
     rw [e]
     exact hown'
    ·exact (((hbel.trans (HBX.out.mono hbs)).trans (HB4.out.mono (by omega))).alloc (by omega) _).grown hgrow (by simp;omega) (fun g hg=>(hown.lt g hg).1)
   have ACC:=Lib.hid acc
   clear acc hown' hgrow hloc hownX hown4 HX HBX HB4 HCX
   go_wp2_with fail
   go_roundg (gk - 1)
   case measure=>omega
   case rel=>exact ⟨j+1,_,rfl,by omega,by go_num,ACC⟩
  ·have hjn:j=s.all.length:=by have:=HN.out;unfold SM.all;rw [List.length_map];omega
   have hfin:zrp w s (.returned V) wr:=by
    obtain ⟨d,hd,hown,hbel⟩:=HA.out
    rw [hjn,List.take_length] at hd
    refine ⟨V,rfl,?_,hbel,fun g hg=>(hown.lt g hg).1,_,by rw [← hjn];exact hown⟩
    rcases hown.2 with ⟨rfl,h0⟩ | ⟨g,cap,cur,rfl,hg,hh,_⟩
    ·exact ⟨none,0,by rw [← hjn,h0],fun hne=>absurd (List.length_eq_zero_iff.1 (by omega)) hne⟩
    ·refine ⟨some ⟨g,0,none⟩,cap,by rw [hjn],fun _=>⟨g,0,rfl,?_⟩⟩
     rw [← hd]
     refine zb0 wr g d 0 fun t u hu=>?_
     have ht:t < j*18:=by
      have:=(List.getElem?_eq_some_iff.1 hu).1
      rw [hown.1] at this
      exact this
     rw [Nat.zero_add,hown.cellAt t ht]
     exact hu
   have HF:=Lib.hid hfin
   clear hfin HA
   go_wp2_with fail
   go_ret
   exact HF.out
theorem zd7 {u v:Val} (hu:zdn u) (hv:zdn v):za7 u v=true↔u=v:=by
 obtain ⟨k,b,n,t,x,rfl⟩:=hu
 obtain ⟨k2,b2,n2,t2,x2,rfl⟩:=hv
 rw [za7]
 constructor
 ·intro h
  simp only [Bool.and_eq_true,beq_iff_eq] at h
  obtain ⟨h1,h2,h3,h4,h5,_⟩:=h
  have e4:t=t2:=zbt (by rw [← zbk,← zbk];exact h4)
  have e5:x=x2:=zbt (by rw [← zbk,← zbk];exact h5)
  rw [h1,h2,h3,e4,e5]
 ·intro h
  injection h with h1 h2 h3 h4 h5 _
  rw [h1,h2,h3,h4,h5]
  simp [za3]
def zqc (t:Tri3):Prop:=zdn t.s∧zdn t.p∧zdn t.o
theorem zxc:(Tryz.prog.info? 63).map (·.size)=some 18:=by kernel_rfl
def Way (W:World) (g:Nat) (a b c:V6):Prop:=W.heap[g]?=some (.cells #[.int .i64 a.k,.bool a.b,.int .i64 a.n,.string a.t,.string a.x,.slice a.p a.len a.cap,.int .i64 b.k,.bool b.b,.int .i64 b.n,.string b.t,.string b.x,.slice b.p b.len b.cap,.int .i64 c.k,.bool c.b,.int .i64 c.n,.string c.t,.string c.x,.slice c.p c.len c.cap] 63)
section
variable {w w':World} {g e:Nat} {a b c:V6}
theorem Way.below (h:Way w g a b c) (k:Below w.heap.size w w'):Way w' g a b c:=(k.block g (zac h)).trans h
theorem Way.only (h:Way w g a b c) (k:Only e w w') (d:g≠e):Way w' g a b c:=(k.block g (zac h) d).trans h
theorem Way.r0 (h:Way w g a b c):w.rangeAt g 0 [.int .i64 a.k,.bool a.b,.int .i64 a.n,.string a.t,.string a.x,.slice a.p a.len a.cap]:=fun i v hv=>by
 have hi:i < 6:=(List.getElem?_eq_some_iff.1 hv).1
 match i,hi with
 | 0,_ | 1,_ | 2,_ | 3,_ | 4,_ | 5,_=>exact zab h _ hv
theorem Way.r1 (h:Way w g a b c):w.rangeAt g 6 [.int .i64 b.k,.bool b.b,.int .i64 b.n,.string b.t,.string b.x,.slice b.p b.len b.cap]:=fun i v hv=>by
 have hi:i < 6:=(List.getElem?_eq_some_iff.1 hv).1
 match i,hi with
 | 0,_ | 1,_ | 2,_ | 3,_ | 4,_ | 5,_=>exact zab h _ hv
theorem Way.r18 (h:Way w g a b c):w.rangeAt g 0 [.int .i64 a.k,.bool a.b,.int .i64 a.n,.string a.t,.string a.x,.slice a.p a.len a.cap,.int .i64 b.k,.bool b.b,.int .i64 b.n,.string b.t,.string b.x,.slice b.p b.len b.cap,.int .i64 c.k,.bool c.b,.int .i64 c.n,.string c.t,.string c.x,.slice c.p c.len c.cap]:=fun i v hv=>by
 rw [Nat.zero_add]
 exact zab h i (by simpa using hv)
end
end Go.Proofs.YtanbgdhmfjgihaaGreatDoor
