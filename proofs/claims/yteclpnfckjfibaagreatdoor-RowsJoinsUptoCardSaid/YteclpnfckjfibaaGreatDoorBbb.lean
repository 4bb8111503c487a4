/- Texts of one kind, one behind the other: each says ahead of itself what it shows. -/
import Derived.Test.YteclpnfckjfibaaGreatDoorBba
/- WK -/
namespace Go.Proofs.YteclpnfckjfibaaGreatDoor
open Go.RowKit
def numC (n:Int):Val:=.mk 2 false n ⟨#[]⟩ ⟨#[]⟩ []
def numL (n:Int):List Value:=[.int .i64 2,.bool false,.int .i64 n,.string ⟨#[]⟩,.string ⟨#[]⟩,.slice none 0 0]
theorem zhz (n:Int) (h0:0≤n) (h1:n≤100) (W:World) (P:Nat→Prop):zcz W P (numL n) (numC n):=
 ⟨_,rfl,⟨by decide,by decide,by decide,by omega,by omega⟩,by unfold zbe;exact ⟨_,_,rfl⟩⟩
theorem zyv (W:World) (P:Nat→Prop):zcz W P [.int .i64 0,.bool false,.int .i64 0,.string ⟨#[]⟩,.string ⟨#[]⟩,.slice none 0 0] zec:=
 ⟨_,rfl,⟨by decide,by decide,by decide,by decide,by decide⟩,by unfold zbe;exact ⟨_,_,rfl⟩⟩
set_option maxHeartbeats 1600000 in
theorem zyw (n:Int) (h0:0≤n) (h1:n≤100) (W:World):Calls Tryz.prog 49 #[.int .i64 n] W fun e w'=>e=.returned (.agg #[.int .i64 2,.bool false,.int .i64 n,.string ⟨#[]⟩,.string ⟨#[]⟩,.slice none 0 0])∧Below W.heap.size W w':=by
 obtain ⟨W1,hW1⟩:∃ W1,W1=W.alloc (.cells #[.int .i64 0,.bool false,.int .i64 0,.string ⟨#[]⟩,.string ⟨#[]⟩,.slice none 0 0] 48):=⟨_,rfl⟩
 have b1:Below W.heap.size W W1:=by rw [hW1];exact zaz _ _
 have u1:W1.heap[W.heap.size]?=some (.cells #[.int .i64 0,.bool false,.int .i64 0,.string ⟨#[]⟩,.string ⟨#[]⟩,.slice none 0 0] 48):=by rw [hW1];exact zah _ _ rfl
 have HW:=Lib.hid hW1
 have HB:=Lib.hid b1
 have HO:Hid (∀ u∈[Value.int .i64 2,.bool false,.int .i64 n,.string ⟨#[]⟩,.string ⟨#[]⟩,.slice none 0 0],u.oneCell'=true):=Lib.hid (valE.one (show valE.rel W (Old W) (numL n) (numC n) from zhz n h0 h1 W (Old W)))
 clear hW1 b1
 go_enter Tryz.func49,Tryz.ntmps49
 go_upto_region 1 with fail
 rw [← HW.out]
 go_wp2_with (first
  |((with_reducible refine zas (.tmp 2) (.tmp 4) W.heap.size 48 48 _ [.int .i64 2,.bool false,.int .i64 n,.string ⟨#[]⟩,.string ⟨#[]⟩,.slice none 0 0] 6 u1 rfl ?_ ?_ ?_ ?_ zai rfl HO.out ?_);rfl;rfl;rfl;rfl;intro wX oX vX))
 exact bodyPost_ret (results_cell_row (p:=2) (ty:=48) Tryz.results49 _ _ W.heap.size 48 _ (0,0) _ rfl vX Tryz.underlying48 rfl zai) rfl ⟨rfl,zam HB.out oX (Nat.le_refl _) HB.out.size⟩
theorem zcn {α:Type} {E:Elem α} {w:World} {P:Nat→Prop} {g:Nat} {c:Array Value} {t:TypeId} {l:List α} (h:w.heap[g]?=some (.cells c t)) (hP:P g) (hr:RowE E w P c.toList l) (n:Nat) (hn:n=l.length):zaf E w P (.slice (some ⟨g,0,none⟩) n n) l:=
 ⟨_,_,by rw [hn],fun _=>⟨g,0,c.toList,rfl,hP,zb5 h 0 _ (fun j u hu=>by rw [Nat.zero_add];simpa using hu),hr⟩⟩
theorem zls (w:World) (P:Nat→Prop):(l:List ByteArray)→(∀ x∈l,x.size≤2097152)→RowE za0 w P (l.map Value.string) l
 | [],_=>RowE.nil
 | x::r,h=>by
   show RowE za0 w P ([Value.string x]++r.map Value.string) ([x]++r)
   exact RowE.append [x] r (RowE.single ⟨rfl,h x (by simp)⟩) (zls w P r fun y hy=>h y (by simp [hy]))
theorem zfl (g n:Nat):capK (.slice (some ⟨g,0,none⟩) n n):=⟨fun p m c e=>by cases e;exact Nat.le_refl _,fun m c e=>by cases e⟩
theorem zww (w:World) (gv gr g1 g2:Nat) (vs:List ByteArray) (r1 r2:List Val) (c1 c2 cv cr:Array Value) (n m:Nat) (hv:w.heap[gv]?=some (.cells cv 9)) (ev:cv.toList=vs.map Value.string) (hr:w.heap[gr]?=some (.cells cr 43))
 (er:cr=#[.slice (some ⟨g1,0,none⟩) n n,.slice (some ⟨g2,0,none⟩) n n]) (h1:w.heap[g1]?=some (.cells c1 48)) (h2:w.heap[g2]?=some (.cells c2 48)) (e1:RowE valE w (Old w) c1.toList r1) (e2:RowE valE w (Old w) c2.toList r2)
 (l1:n=r1.length) (l2:n=r2.length) (hn:n≤2097152) (hm:m=vs.length) (hm2:m≤2097152) (hvs:∀ x∈vs,x.size≤2097152):zdj w (.slice (some ⟨gv,0,none⟩) m m) (.slice (some ⟨gr,0,none⟩) 2 2) ⟨vs,[r1,r2]⟩:=by
 subst er
 have k1:rowE.rel w (Old w) [.slice (some ⟨g1,0,none⟩) n n] r1:=⟨_,rfl,zcn h1 (zaa h1) e1 n l1,zfl _ _,by omega⟩
 have k2:rowE.rel w (Old w) [.slice (some ⟨g2,0,none⟩) n n] r2:=⟨_,rfl,zcn h2 (zaa h2) e2 n l2,zfl _ _,by omega⟩
 exact zdj.of ⟨_,_,rfl,zcn hv (zaa hv) (by rw [ev];exact zls w _ vs hvs) m hm,zcn hr (zaa hr) (RowE.append (xs:=[_]) (ys:=[_]) [r1] [r2] (RowE.single k1) (RowE.single k2)) 2 rfl,zfl _ _,zfl _ _,by show vs.length≤_;omega,by show 2≤_;omega⟩
theorem zdj.slices {w:World} {V R:Value} {t:TabL} (h:zdj w V R t):∃ p k q l,V=.slice p t.vars.length k∧R=.slice q t.rows.length l:=by
 obtain ⟨_,_,e,hv,hr,_⟩:=h.here
 cases e
 obtain ⟨p,k,e1⟩:=hv.slice
 obtain ⟨q,l,e2⟩:=hr.slice
 exact ⟨p,k,q,l,e1,e2⟩
theorem zdj.vars {w:World} {V R:Value} {t:TabL} (h:zdj w V R t):zaf za0 w (Old w) V t.vars:=by
 obtain ⟨_,_,e,hv,hr,_⟩:=h.here
 cases e
 exact hv
theorem zdj.cap {w:World} {V R:Value} {t:TabL} (h:zdj w V R t):capK V∧capK R:=by
 obtain ⟨_,_,e,hv,hr,h1,h2,_⟩:=h.here
 cases e
 exact ⟨h1,h2⟩
theorem zdj.rows {w:World} {V R:Value} {t:TabL} (h:zdj w V R t):zaf rowE w (Old w) R t.rows:=by
 obtain ⟨_,_,e,hv,hr,_⟩:=h.here
 cases e
 exact hr
def tx:ByteArray:=⟨#[120]⟩
def ty:ByteArray:=⟨#[121]⟩
def tabA:TabL:=⟨[tx],[[numC 1],[zec]]⟩
def tabB:TabL:=⟨[tx,ty],[[numC 1,numC 2],[numC 3,numC 4]]⟩
def tabJ:TabL:=⟨[tx,ty],[[numC 1,numC 2],[numC 1,numC 2],[numC 3,numC 4]]⟩
theorem zlt (n:Int):mayP (numC n) 0=true:=by
 unfold numC mayP zcb
 rfl
theorem zwx:zca tx=true:=by decide
theorem name_ty:zca ty=true:=by decide
theorem nd_tx:[tx,ty].Nodup:=by
 rw [List.nodup_cons]
 refine ⟨?_,(List.pairwise_singleton _ _)⟩
 rw [List.mem_singleton]
 intro e
 have:=congrArg bl e
 simp [bl,tx,ty] at this
theorem zlu:tabP tabA=true:=by
 refine zmn (zlo (by decide) (fun x hx=>by rw [List.mem_singleton.1 hx];exact zwx) ((List.pairwise_singleton _ _))) (fun r hr=>?_) (fun r hr v hv=>?_)
 ·simp [tabA] at hr
  rcases hr with rfl | rfl <;> rfl
 ·simp [tabA] at hr
  rcases hr with rfl | rfl
  ·rw [List.mem_singleton.1 hv]
   exact zlt 1
  ·rw [List.mem_singleton.1 hv]
   exact znm
theorem znv:tabP tabB=true:=by
 refine zmn (zlo (by decide) (fun x hx=>?_) nd_tx) (fun r hr=>?_) (fun r hr v hv=>?_)
 ·simp [tabB] at hx
  rcases hx with rfl | rfl
  ·exact zwx
  ·exact name_ty
 ·simp [tabB] at hr
  rcases hr with rfl | rfl <;> rfl
 ·simp [tabB] at hr
  rcases hr with rfl | rfl
  ·simp at hv
   rcases hv with rfl | rfl
   ·exact zlt 1
   ·exact zlt 2
  ·simp at hv
   rcases hv with rfl | rfl
   ·exact zlt 3
   ·exact zlt 4
theorem zsb:zat tabA.vars tabB.vars=[(0,0)]:=by decide
theorem srcAB:srcP [tx,ty] tabA.vars tabB.vars=[(0,0),(-1,1)]:=by decide
theorem overAB:za2 tabA.vars tabB.vars=[tx,ty]:=by
 unfold za2
 have h1:memB tx tabA.vars=true:=(zet _ _).2 (by simp [tabA])
 have h2:memB ty tabA.vars=false:=by decide
 show tabA.vars++List.filter (fun x=>!memB x tabA.vars) [tx,ty]=[tx,ty]
 rw [List.filter_cons,h1,List.filter_cons,h2]
 rfl
theorem f11 (q:Val):fitB [(0,0)] [numC 1] [numC 1,q]=true:=by
 show ((!((isB (numC 1) && isB (numC 1)) && !zc1 (numC 1) (numC 1))) && true)=true
 rw [zcx]
 rfl
theorem f12 (q:Val):fitB [(0,0)] [numC 1] [numC 3,q]=false:=by
 show ((!((isB (numC 1) && isB (numC 3)) && !zc1 (numC 1) (numC 3))) && true)=false
 have:zc1 (numC 1) (numC 3)=false:=by
  unfold numC zc1
  rfl
 rw [this]
 rfl
theorem f2 (q p:Val):fitB [(0,0)] [zec] [q,p]=true:=by
 show ((!((isB zec && isB q) && !zc1 zec q)) && true)=true
 rw [zhy]
 rfl
theorem zzv:za4 tabA tabB=tabJ:=by
 rw [zeg zlu znv (by decide),overAB,srcAB,zsb]
 show TabL.mk [tx,ty] _=_
 unfold tabJ
 congr 1
 show zap [(0,0)] [(0,0),(-1,1)] [[numC 1],[zec]] [[numC 1,numC 2],[numC 3,numC 4]]=_
 unfold zap
 rw [List.flatMap_cons,List.flatMap_cons,List.flatMap_nil,zby,zby,List.filter_cons,f11,List.filter_cons,f12,List.filter_cons,f2,List.filter_cons,f2]
 rfl
theorem minusAB:(zpp tabA tabB).rows=[[zec]]:=by
 rw [zyo zlu znv,zsb]
 show List.filter (fun r=>!zey [(0,0)] r [[numC 1,numC 2],[numC 3,numC 4]]) [[numC 1],[zec]]=_
 have h1:zey [(0,0)] [numC 1] [[numC 1,numC 2],[numC 3,numC 4]]=true:=by
  unfold zey
  rw [List.any_cons,f11]
  rfl
 have h2:zey [(0,0)] [zec] [[numC 1,numC 2],[numC 3,numC 4]]=false:=by
  unfold zey
  rw [List.any_cons,List.any_cons,f2,f2]
  rfl
 rw [List.filter_cons,h1,List.filter_cons,h2]
 rfl
theorem zlv (n:Int):wOne (numC n)≤381000:=by
 show 1+0+0+0≤381000
 omega
theorem zzw:zcq tabA.rows:=fun r hr v hv=>by
 simp [tabA] at hr
 rcases hr with rfl | rfl
 ·rw [List.mem_singleton.1 hv]
  exact zlv 1
 ·rw [List.mem_singleton.1 hv]
  exact zhw
theorem zzx:zcq tabB.rows:=fun r hr v hv=>by
 simp [tabB] at hr
 rcases hr with rfl | rfl
 ·simp at hv
  rcases hv with rfl | rfl <;> exact zlv _
 ·simp at hv
  rcases hv with rfl | rfl <;> exact zlv _
theorem zwy:∀ x∈[tx,ty],x.size≤2097152:=fun x hx=>by
 rcases List.mem_cons.1 hx with rfl | hx
 ·decide
 ·rw [List.mem_singleton.1 hx];decide
theorem sameNum (p:Option Addr) (k:Nat) (p2:Option Addr) (k2:Nat) (W:World):Calls Tryz.prog 39 #[.agg #[.int .i64 2,.bool false,.int .i64 4,.string ⟨#[]⟩,.string ⟨#[]⟩,.slice p 0 k],.agg #[.int .i64 2,.bool false,.int .i64 4,.string ⟨#[]⟩,.string ⟨#[]⟩,.slice p2 0 k2]] W fun e w'=>e=.returned (.bool true)∧Below W.heap.size W w':=by
 have h:=znu (numC 4) W 2 false 4 ⟨#[]⟩ ⟨#[]⟩ [] p k (numC 4) 2 false 4 ⟨#[]⟩ ⟨#[]⟩ [] p2 k2 rfl rfl (by decide) (by unfold Held;exact ⟨_,_,rfl⟩) (by unfold Held;exact ⟨_,_,rfl⟩)
 rw [zcx] at h
 exact h
set_option maxHeartbeats 6400000 in
set_option maxRecDepth 20000 in
theorem wakesAt (W:World) (hG:Gd W):Calls Tryz.prog 11 #[] W fun e w'=>e=.returned (.bool true)∧Below W.heap.size W w':=by
 have N1:=Lib.hid (zyw 1 (by decide) (by decide))
 have N2:=Lib.hid (zyw 2 (by decide) (by decide))
 have N3:=Lib.hid (zyw 3 (by decide) (by decide))
 have N4:=Lib.hid (zyw 4 (by decide) (by decide))
 go_enter Tryz.func11,Tryz.ntmps11
 go_upto_region 2 with (first
  |(go_at_call 49;(with_reducible refine (N1.out _).mono ?_);rintro e w1 ⟨rfl,hb1⟩))
 obtain ⟨WA,hWA⟩:∃ WA,WA=(((w1.alloc (.cells #[.int .i64 2,.bool false,.int .i64 1,.string ⟨#[]⟩,.string ⟨#[]⟩,.slice none 0 0] 48)).alloc (.cells #[.int .i64 0,.bool false,.int .i64 0,.string ⟨#[]⟩,.string ⟨#[]⟩,.slice none 0 0] 48)).alloc (.cells #[.slice (some ⟨w1.heap.size,0,none⟩) 1 1,.slice (some ⟨w1.heap.size+1,0,none⟩) 1 1] 43)).alloc (.cells #[.slice (some ⟨W.heap.size,0,none⟩) 1 1,.slice (some ⟨w1.heap.size+1+1,0,none⟩) 2 2] 25):=⟨_,rfl⟩
 rw [← hWA]
 have x0:w1.heap[W.heap.size]?=some (.cells #[.string tx] 9):=(hb1.block _ (by simp)).trans (zah _ _ rfl)
 have s1:W.heap.size+1≤w1.heap.size:=by have:=hb1.size;simpa using this
 have ba:Below w1.heap.size w1 WA:=by rw [hWA];exact ((zzg _ _ _ _).alloc (by simp;omega) _)
 have sA:WA.heap.size=w1.heap.size+1+1+1+1:=by rw [hWA];simp
 have x1:WA.heap[W.heap.size]?=some (.cells #[.string tx] 9):=(ba.block _ (by omega)).trans x0
 have x2:WA.heap[w1.heap.size]?=some (.cells #[.int .i64 2,.bool false,.int .i64 1,.string ⟨#[]⟩,.string ⟨#[]⟩,.slice none 0 0] 48):=by rw [hWA];exact zaq _ (zaq _ (zaq _ (zah _ _ rfl)))
 have x3:WA.heap[w1.heap.size+1]?=some (.cells #[.int .i64 0,.bool false,.int .i64 0,.string ⟨#[]⟩,.string ⟨#[]⟩,.slice none 0 0] 48):=by rw [hWA];exact zaq _ (zaq _ (zah _ _ (by simp)))
 have x4:WA.heap[w1.heap.size+1+1]?=some (.cells #[.slice (some ⟨w1.heap.size,0,none⟩) 1 1,.slice (some ⟨w1.heap.size+1,0,none⟩) 1 1] 43):=by rw [hWA];exact zaq _ (zah _ _ (by simp))
 obtain ⟨gA,hgA⟩:∃ gA,gA=w1.heap.size+1+1+1:=⟨_,rfl⟩
 have uA:WA.heap[gA]?=some (.cells #[.slice (some ⟨W.heap.size,0,none⟩) 1 1,.slice (some ⟨w1.heap.size+1+1,0,none⟩) 2 2] 25):=by rw [hWA,hgA];exact zah _ _ (by simp)
 rw [← hgA]
 have TA:zdj WA (.slice (some ⟨W.heap.size,0,none⟩) 1 1) (.slice (some ⟨w1.heap.size+1+1,0,none⟩) 2 2) tabA:=zww WA _ _ _ _ [tx] [numC 1] [zec] _ _ _ _ 1 1 x1 rfl x4 rfl x2 x3 (RowE.single (zhz 1 (by decide) (by decide) _ _)) (RowE.single (zyv _ _)) rfl rfl (by omega) rfl (by omega) (fun x hx=>by rw [List.mem_singleton.1 hx];decide)
 have bA:Below W.heap.size W WA:=((zaz W (.cells #[.string tx] 9)).trans (hb1.mono (by simp))).trans (ba.mono (by omega))
 obtain ⟨RA,hRA⟩:∃ RA,RA=Value.slice (some ⟨w1.heap.size+1+1,0,none⟩) 2 2:=⟨_,rfl⟩
 rw [← hRA] at uA TA
 clear x0 x1 x2 x3 x4 hWA hb1 ba sA s1 hgA hRA
 go_upto_region 3 with (first
  |(go_at_call 49;(with_reducible refine (N1.out _).mono ?_);rintro e wa ⟨rfl,hba⟩)
  |(go_at_call 49;(with_reducible refine (N2.out _).mono ?_);rintro e wb ⟨rfl,hbb⟩)
  |(go_at_call 49;(with_reducible refine (N3.out _).mono ?_);rintro e wc ⟨rfl,hbc⟩)
  |(go_at_call 49;(with_reducible refine (N4.out _).mono ?_);rintro e wd ⟨rfl,hbd⟩))
 obtain ⟨WB,hWB⟩:∃ WB,WB=((wd.alloc (.cells #[.int .i64 2,.bool false,.int .i64 3,.string ⟨#[]⟩,.string ⟨#[]⟩,.slice none 0 0,.int .i64 2,.bool false,.int .i64 4,.string ⟨#[]⟩,.string ⟨#[]⟩,.slice none 0 0] 48)).alloc (.cells #[.slice (some ⟨wb.heap.size,0,none⟩) 2 2,.slice (some ⟨wd.heap.size,0,none⟩) 2 2] 43)).alloc (.cells #[.slice (some ⟨WA.heap.size,0,none⟩) 2 2,.slice (some ⟨wd.heap.size+1,0,none⟩) 2 2] 25):=⟨_,rfl⟩
 rw [← hWB]
 have y0:wa.heap[WA.heap.size]?=some (.cells #[.string tx,.string ty] 9):=(hba.block _ (by simp)).trans (zah _ _ rfl)
 have z1:WA.heap.size+1≤wa.heap.size:=by have:=hba.size;simpa using this
 have z2:=hbb.size
 have y1:=(hbb.block _ (by omega)).trans y0
 have y2:wc.heap[wb.heap.size]?=some (.cells #[.int .i64 2,.bool false,.int .i64 1,.string ⟨#[]⟩,.string ⟨#[]⟩,.slice none 0 0,.int .i64 2,.bool false,.int .i64 2,.string ⟨#[]⟩,.string ⟨#[]⟩,.slice none 0 0] 48):=(hbc.block _ (by simp)).trans (zah _ _ rfl)
 have z3:wb.heap.size+1≤wc.heap.size:=by have:=hbc.size;simpa using this
 have y3:=(hbc.block _ (by simp;omega)).trans (zaq _ y1)
 have z4:=hbd.size
 have y4:=(hbd.block _ (by omega)).trans y3
 have y5:=(hbd.block _ (by omega)).trans y2
 have bd:Below wd.heap.size wd WB:=by rw [hWB];exact zzg _ _ _ _
 have v1:=(bd.block WA.heap.size (by omega)).trans y4
 have v2:=(bd.block wb.heap.size (by omega)).trans y5
 have v3:WB.heap[wd.heap.size]?=some (.cells #[.int .i64 2,.bool false,.int .i64 3,.string ⟨#[]⟩,.string ⟨#[]⟩,.slice none 0 0,.int .i64 2,.bool false,.int .i64 4,.string ⟨#[]⟩,.string ⟨#[]⟩,.slice none 0 0] 48):=by rw [hWB];exact zaq _ (zaq _ (zah _ _ rfl))
 have v4:WB.heap[wd.heap.size+1]?=some (.cells #[.slice (some ⟨wb.heap.size,0,none⟩) 2 2,.slice (some ⟨wd.heap.size,0,none⟩) 2 2] 43):=by rw [hWB];exact zaq _ (zah _ _ (by simp))
 obtain ⟨gB,hgB⟩:∃ gB,gB=wd.heap.size+1+1:=⟨_,rfl⟩
 have uB:WB.heap[gB]?=some (.cells #[.slice (some ⟨WA.heap.size,0,none⟩) 2 2,.slice (some ⟨wd.heap.size+1,0,none⟩) 2 2] 25):=by rw [hWB,hgB];exact zah _ _ (by simp)
 rw [← hgB]
 have TB:zdj WB (.slice (some ⟨WA.heap.size,0,none⟩) 2 2) (.slice (some ⟨wd.heap.size+1,0,none⟩) 2 2) tabB:=zww WB _ _ _ _ [tx,ty] [numC 1,numC 2] [numC 3,numC 4] _ _ _ _ 2 2 v1 rfl v4 rfl v2 v3
  (RowE.append (xs:=numL 1) (ys:=numL 2) [_] [_] (RowE.single (zhz 1 (by decide) (by decide) _ _)) (RowE.single (zhz 2 (by decide) (by decide) _ _)))
  (RowE.append (xs:=numL 3) (ys:=numL 4) [_] [_] (RowE.single (zhz 3 (by decide) (by decide) _ _)) (RowE.single (zhz 4 (by decide) (by decide) _ _)))
  rfl rfl (by omega) rfl (by omega) (fun x hx=>by
   rcases List.mem_cons.1 hx with rfl | hx
   ·decide
   ·rw [List.mem_singleton.1 hx];decide)
 have bAB:Below WA.heap.size WA WB:=by
  have q1:Below WA.heap.size WA wa:=(zaz WA _).trans (hba.mono (by simp))
  have q2:=q1.trans (hbb.mono (by omega))
  have q3:=(q2.trans ((zaz wb (.cells #[.int .i64 2,.bool false,.int .i64 1,.string ⟨#[]⟩,.string ⟨#[]⟩,.slice none 0 0,.int .i64 2,.bool false,.int .i64 2,.string ⟨#[]⟩,.string ⟨#[]⟩,.slice none 0 0] 48)).mono (by omega))).trans (hbc.mono (by simp;omega))
  exact (q3.trans (hbd.mono (by omega))).trans (bd.mono (by omega))
 obtain ⟨VB,hVB⟩:∃ VB,VB=Value.slice (some ⟨WA.heap.size,0,none⟩) 2 2:=⟨_,rfl⟩
 obtain ⟨RB,hRB⟩:∃ RB,RB=Value.slice (some ⟨wd.heap.size+1,0,none⟩) 2 2:=⟨_,rfl⟩
 obtain ⟨VA,hVA⟩:∃ VA,VA=Value.slice (some ⟨W.heap.size,0,none⟩) 1 1:=⟨_,rfl⟩
 rw [← hVB,← hRB] at uB TB
 rw [← hVA] at uA TA
 replace TA:=TA.below bAB
 replace uA:=(bAB.block _ (zaa uA)).trans uA
 have bB:Below W.heap.size W WB:=bA.trans (bAB.mono bA.size)
 have hGB:Gd WB:=hG.below bB
 have n1:(za4 tabA tabB).rows.length≤2097152:=by rw [zzv];decide
 have HJ:=Lib.hid (zmm tabA tabB _ _ _ _ WB hGB TA.here TB.here (zq5 zlu znv zzw zzx) n1)
 have HBB:=Lib.hid bB
 clear hba hbb hbc hbd hWB y0 y1 y2 y3 y4 y5 v1 v2 v3 v4 z1 z2 z3 z4 bd bAB bA hgB hVB hRB hVA bB n1 hG N1 N2 N3
 go_upto_region 4 with (first
  |((with_reducible refine zag (.tmp 1) gA 25 25 [VA,RA] 2 _ uA rfl Tryz.underlying25 rfl zae ?_ ?_ ?_ ?_);rfl;rfl;rfl)
  |((with_reducible refine zag (.tmp 2) gB 25 25 [VB,RB] 2 _ uB rfl Tryz.underlying25 rfl zae ?_ ?_ ?_ ?_);rfl;rfl;rfl)
  |(go_at_call 25;go_loud (with_reducible refine HJ.out.mono ?_);rintro e wj hj;obtain ⟨Vj,Rj,rfl,hbj,TJ⟩:=zef hj;go_loud (rw [zzv] at TJ;obtain ⟨pj,kj,qj,lj,ej,fj⟩:=TJ.slices;obtain rfl:Vj=.slice pj 2 kj:=ej;obtain rfl:Rj=.slice qj 3 lj:=fj;clear hj)))
 obtain ⟨gJ,hgJ⟩:∃ gJ,gJ=wj.heap.size:=⟨_,rfl⟩
 obtain ⟨W4,hW4⟩:∃ W4,W4=wj.alloc (.cells #[.slice pj 2 kj,.slice qj 3 lj] 25):=⟨_,rfl⟩
 rw [← hW4,← hgJ]
 have b4:Below wj.heap.size wj W4:=by rw [hW4];exact zaz _ _
 have uJ:W4.heap[gJ]?=some (.cells #[.slice pj 2 kj,.slice qj 3 lj] 25):=by rw [hW4,hgJ];exact zah _ _ rfl
 have bB4:=zab hbj b4 hbj.size
 replace uA:=(bB4.block _ (zaa uA)).trans uA
 replace uB:=(bB4.block _ (zaa uB)).trans uB
 replace TA:=TA.below bB4
 replace TB:=TB.below bB4
 replace TJ:=TJ.below b4
 have hG:=hGB.below bB4
 have hb4:Below W.heap.size W W4:=HBB.out.trans (bB4.mono HBB.out.size)
 obtain ⟨gr,orr,cr,ccr,e0,hgr,hrr,hrar⟩:=(TJ.rows).at_ 2 (by decide)
 injection e0 with e01 e02 e03
 subst e01
 obtain ⟨u,rfl,hu,_,_⟩:=hrr
 obtain ⟨gv,ov,cv,c6,e1,hgv,hv6,hrav⟩:=hu.at_ 1 (by decide)
 subst e1
 obtain ⟨L6,rfl,_,hL6⟩:=(show zcz W4 (Old W4) c6 (numC 4) from hv6)
 obtain ⟨p6,k6,rfl⟩:∃ p k,L6=.slice p 0 k:=by unfold zbe at hL6;exact hL6
 have ur:W4.cell? ⟨gr,orr+2,none⟩=some (.slice (some ⟨gv,ov,none⟩) 2 cv):=by
  have h:=hrar 0 _ rfl
  exact h
 have uv:W4.rangeAt gv (ov+6) [.int .i64 2,.bool false,.int .i64 4,.string ⟨#[]⟩,.string ⟨#[]⟩,.slice p6 0 k6]:=hrav
 clear hrav hrar hu hgr hgv hL6 hv6 e02 e03 hGB hbj b4 bB4 hW4 hgJ HJ HBB
 refine wp_region_held_drew (S:=fun W'=>W'.heap[gJ]?=some (.cells #[.slice pj 2 kj,.slice (some ⟨gr,orr,none⟩) 3 lj] 25)∧W'.heap[gA]?=some (.cells #[VA,RA] 25)∧W'.heap[gB]?=some (.cells #[VB,RB] 25)∧W'.cell? ⟨gr,orr+2,none⟩=some (.slice (some ⟨gv,ov,none⟩) 2 cv)∧W'.rangeAt gv (ov+6) [.int .i64 2,.bool false,.int .i64 4,.string ⟨#[]⟩,.string ⟨#[]⟩,.slice p6 0 k6]) (by kernel_rfl) ⟨uJ,uA,uB,ur,uv⟩ (fun hh=>?_)
 have hh1:=hh.1
 have hh2:=hh.2.1
 have hh3:=hh.2.2.1
 have hh4:=hh.2.2.2.1
 have hh5:=hh.2.2.2.2
 have bq:Below W4.heap.size W4 W4.drew:=(Below.refl _ _).drew
 replace TA:=TA.below bq
 replace TB:=TB.below bq
 replace TJ:=TJ.below bq
 replace hG:=hG.below bq
 replace hb4:=zab hb4 bq hb4.size
 clear hh uJ uA uB ur uv bq
 generalize W4.drew=wD at*
 refine tg (i:=0) (.pointer (some ⟨gJ,0,none⟩)) rfl (⟨hh1,hh2,hh3,hh4,hh5⟩) ?_
 refine tk (i:=1) (v:=.slice pj 2 kj) rfl (Or.inl ⟨by rfl,fun W' h=>by have c0:=zac h.1 0 rfl;go_simp⟩) (⟨hh1,hh2,hh3,hh4,hh5⟩) ?_
 refine tr 2 rfl (fun K hK=>?_)
 try rw [if_pos (by rfl)]
 go_simp
 have y2:(wD.alloc (.cells #[.string ⟨#[120]⟩,.string ⟨#[121]⟩] 9)).heap[wD.heap.size]?=some (.cells #[.string ⟨#[120]⟩,.string ⟨#[121]⟩] 9):=zah _ _ rfl
 have bz:Below wD.heap.size wD (wD.alloc (.cells #[.string ⟨#[120]⟩,.string ⟨#[121]⟩] 9)):=zaz _ _
 replace hh1:=(bz.block _ (zaa hh1)).trans hh1
 replace hh2:=(bz.block _ (zaa hh2)).trans hh2
 replace hh3:=(bz.block _ (zaa hh3)).trans hh3
 replace hh4:=zaw hh4 bz
 replace hh5:=za9 hh5 bz
 replace hG:=hG.below bz
 replace hb4:=zab hb4 bz hb4.size
 replace TA:=TA.below bz
 replace TB:=TB.below bz
 replace TJ:=TJ.below bz
 clear bz
 have HE3:=Lib.hid (zwv _ _ [tx,ty] (Old (wD.alloc (.cells #[.string ⟨#[120]⟩,.string ⟨#[121]⟩] 9))) (Old (wD.alloc (.cells #[.string ⟨#[120]⟩,.string ⟨#[121]⟩] 9))) (wD.alloc (.cells #[.string ⟨#[120]⟩,.string ⟨#[121]⟩] 9)) TJ.vars (zcn (P:=Old (wD.alloc (.cells #[.string ⟨#[120]⟩,.string ⟨#[121]⟩] 9))) y2 (show _ < _ from zaa y2) (zls _ (Old (wD.alloc (.cells #[.string ⟨#[120]⟩,.string ⟨#[121]⟩] 9))) [tx,ty] zwy) 2 rfl) (fun _ h=>h) (fun _ h=>h) (by decide))
 clear y2 TJ
 obtain ⟨gx,hgx⟩:∃ gx,gx=wD.heap.size:=⟨_,rfl⟩
 rw [← hgx] at HE3 ⊢
 generalize wD.alloc (.cells #[.string ⟨#[120]⟩,.string ⟨#[121]⟩] 9)=w2 at*
 clear hgx
 refine hK.out _ _ (⟨hh1,hh2,hh3,hh4,hh5⟩) (fun _=>?_)
 clear hK K
 try simp only [putS]
 refine tr 3 rfl (fun K hK=>?_)
 try rw [if_pos (by rfl)]
 go_simp
 refine HE3.out.mono ?_
 rintro e3 w3 ⟨rfl,hb3⟩
 replace hh1:=(hb3.block _ (zaa hh1)).trans hh1
 replace hh2:=(hb3.block _ (zaa hh2)).trans hh2
 replace hh3:=(hb3.block _ (zaa hh3)).trans hh3
 replace hh4:=zaw hh4 hb3
 replace hh5:=za9 hh5 hb3
 replace hG:=hG.below hb3
 replace hb4:=zab hb4 hb3 hb4.size
 replace TA:=TA.below hb3
 replace TB:=TB.below hb3
 clear hb3
 clear HE3
 refine hK.out _ _ (⟨hh1,hh2,hh3,hh4,hh5⟩) (fun _=>?_)
 clear hK K
 try simp only [putS]
 refine tg (i:=4) (.bool true) rfl (⟨hh1,hh2,hh3,hh4,hh5⟩) ?_
 refine tg (i:=5) (.pointer (some ⟨gJ,1,none⟩)) rfl (⟨hh1,hh2,hh3,hh4,hh5⟩) ?_
 refine tk (i:=6) (v:=.slice (some ⟨gr,orr,none⟩) 3 lj) rfl (Or.inl ⟨by rfl,fun W' h=>by have c0:=zac h.1 1 rfl;go_simp⟩) (⟨hh1,hh2,hh3,hh4,hh5⟩) ?_
 refine tg (i:=7) (.int .i64 3) rfl (⟨hh1,hh2,hh3,hh4,hh5⟩) ?_
 refine tg (i:=8) (.bool true) rfl (⟨hh1,hh2,hh3,hh4,hh5⟩) ?_
 refine tg (i:=9) (.bool true) rfl (⟨hh1,hh2,hh3,hh4,hh5⟩) ?_
 refine tg (i:=10) (.bool true) rfl (⟨hh1,hh2,hh3,hh4,hh5⟩) ?_
 refine tg (i:=11) (.pointer (some ⟨gJ,1,none⟩)) rfl (⟨hh1,hh2,hh3,hh4,hh5⟩) ?_
 refine tk (i:=12) (v:=.slice (some ⟨gr,orr,none⟩) 3 lj) rfl (Or.inl ⟨by rfl,fun W' h=>by have c0:=zac h.1 1 rfl;go_simp⟩) (⟨hh1,hh2,hh3,hh4,hh5⟩) ?_
 refine tg (i:=13) (.pointer (some ⟨gr,orr+2,none⟩)) rfl (⟨hh1,hh2,hh3,hh4,hh5⟩) ?_
 refine tk (i:=14) (v:=.slice (some ⟨gv,ov,none⟩) 2 cv) rfl (Or.inl ⟨by rfl,fun W' h=>by have c0:=h.2.2.2.1;go_simp⟩) (⟨hh1,hh2,hh3,hh4,hh5⟩) ?_
 refine tg (i:=15) (.pointer (some ⟨gv,ov+6,none⟩)) rfl (⟨hh1,hh2,hh3,hh4,hh5⟩) ?_
 refine tk (i:=16) (v:=.agg #[.int .i64 2,.bool false,.int .i64 4,.string ⟨#[]⟩,.string ⟨#[]⟩,.slice p6 0 k6]) rfl (yieldsIf_load_mid (by rfl) 48 (.tmp 38) rfl gv (ov+6) rfl [.int .i64 2,.bool false,.int .i64 4,.string ⟨#[]⟩,.string ⟨#[]⟩,.slice p6 0 k6] _ (fun W h=>h.2.2.2.2) Tryz.underlying48 rfl zai) (⟨hh1,hh2,hh3,hh4,hh5⟩) ?_
 refine tr 17 rfl (fun K hK=>?_)
 try rw [if_pos (by rfl)]
 go_simp
 refine (N4.out _).mono ?_
 rintro e17 w17 ⟨rfl,hb17⟩
 replace hh1:=(hb17.block _ (zaa hh1)).trans hh1
 replace hh2:=(hb17.block _ (zaa hh2)).trans hh2
 replace hh3:=(hb17.block _ (zaa hh3)).trans hh3
 replace hh4:=zaw hh4 hb17
 replace hh5:=za9 hh5 hb17
 replace hG:=hG.below hb17
 replace hb4:=zab hb4 hb17 hb4.size
 replace TA:=TA.below hb17
 replace TB:=TB.below hb17
 clear hb17
 refine hK.out _ _ (⟨hh1,hh2,hh3,hh4,hh5⟩) (fun _=>?_)
 clear hK K
 try simp only [putS]
 refine tr 18 rfl (fun K hK=>?_)
 try rw [if_pos (by rfl)]
 go_simp
 refine (sameNum p6 k6 none 0 w17).mono ?_
 rintro e18 w18 ⟨rfl,hb18⟩
 replace hh1:=(hb18.block _ (zaa hh1)).trans hh1
 replace hh2:=(hb18.block _ (zaa hh2)).trans hh2
 replace hh3:=(hb18.block _ (zaa hh3)).trans hh3
 replace hh4:=zaw hh4 hb18
 replace hh5:=za9 hh5 hb18
 replace hG:=hG.below hb18
 replace hb4:=zab hb4 hb18 hb4.size
 replace TA:=TA.below hb18
 replace TB:=TB.below hb18
 clear hb18
 refine hK.out _ _ (⟨hh1,hh2,hh3,hh4,hh5⟩) (fun _=>?_)
 clear hK K
 try simp only [putS]
 refine tg (i:=19) (.bool true) rfl (⟨hh1,hh2,hh3,hh4,hh5⟩) ?_
 refine tg (i:=20) (.bool true) rfl (⟨hh1,hh2,hh3,hh4,hh5⟩) ?_
 refine tk (i:=21) (v:=.agg #[VA,RA]) rfl (yieldsIf_load_mid (by rfl) 25 (.tmp 1) rfl (gA) 0 rfl [VA,RA] _ (fun W h=>zb5 h.2.1 0 _ (fun j v hv=>by match j,hv with | 0,e | 1,e=>simpa using e | j+2,e=>simp at e)) Tryz.underlying25 rfl zae) (⟨hh1,hh2,hh3,hh4,hh5⟩) ?_
 refine tk (i:=22) (v:=.agg #[VB,RB]) rfl (yieldsIf_load_mid (by rfl) 25 (.tmp 2) rfl (gB) 0 rfl [VB,RB] _ (fun W h=>zb5 h.2.2.1 0 _ (fun j v hv=>by match j,hv with | 0,e | 1,e=>simpa using e | j+2,e=>simp at e)) Tryz.underlying25 rfl zae) (⟨hh1,hh2,hh3,hh4,hh5⟩) ?_
 refine tr 23 rfl (fun K hK=>?_)
 try rw [if_pos (by rfl)]
 go_simp
 refine (minusAt tabA tabB _ _ _ _ w18 hG TA.here TB.here (zq5 zlu znv zzw zzx)).mono ?_
 rintro e23 w23 h23
 obtain ⟨Vm,Rm,rfl,hb23,TM⟩:=zef h23
 obtain ⟨pm,km,qm,lm,em,fm⟩:=TM.slices
 rw [minusAB] at fm
 obtain rfl:Rm=.slice qm 1 lm:=fm
 clear TM em h23
 replace hh1:=(hb23.block _ (zaa hh1)).trans hh1
 replace hh2:=(hb23.block _ (zaa hh2)).trans hh2
 replace hh3:=(hb23.block _ (zaa hh3)).trans hh3
 replace hh4:=zaw hh4 hb23
 replace hh5:=za9 hh5 hb23
 replace hG:=hG.below hb23
 replace hb4:=zab hb4 hb23 hb4.size
 replace TA:=TA.below hb23
 replace TB:=TB.below hb23
 clear hb23
 refine hK.out _ _ (⟨hh1,hh2,hh3,hh4,hh5⟩) (fun _=>?_)
 clear hK K
 try simp only [putS]
 refine tk (i:=24) (v:=.slice qm 1 lm) rfl (Or.inl ⟨by rfl,fun W _=>by go_simp;rfl⟩) (⟨hh1,hh2,hh3,hh4,hh5⟩) ?_
 refine tg (i:=25) (.int .i64 1) rfl (⟨hh1,hh2,hh3,hh4,hh5⟩) ?_
 refine tg (i:=26) (.bool true) rfl (⟨hh1,hh2,hh3,hh4,hh5⟩) ?_
 refine tg (i:=27) (.bool true) rfl (⟨hh1,hh2,hh3,hh4,hh5⟩) ?_
 refine tg (i:=28) (.bool true) rfl (⟨hh1,hh2,hh3,hh4,hh5⟩) ?_
 refine tk (i:=29) (v:=.agg #[VA,RA]) rfl (yieldsIf_load_mid (by rfl) 25 (.tmp 1) rfl (gA) 0 rfl [VA,RA] _ (fun W h=>zb5 h.2.1 0 _ (fun j v hv=>by match j,hv with | 0,e | 1,e=>simpa using e | j+2,e=>simp at e)) Tryz.underlying25 rfl zae) (⟨hh1,hh2,hh3,hh4,hh5⟩) ?_
 refine tr 30 rfl (fun K hK=>?_)
 try rw [if_pos (by rfl)]
 go_simp
 refine (zcm tabA _ _ w23 hG TA.here).mono ?_
 rintro e30 w30 ⟨rfl,hb30⟩
 rw [zlu]
 replace hh1:=(hb30.block _ (zaa hh1)).trans hh1
 replace hh2:=(hb30.block _ (zaa hh2)).trans hh2
 replace hh3:=(hb30.block _ (zaa hh3)).trans hh3
 replace hh4:=zaw hh4 hb30
 replace hh5:=za9 hh5 hb30
 replace hG:=hG.below hb30
 replace hb4:=zab hb4 hb30 hb4.size
 replace TA:=TA.below hb30
 replace TB:=TB.below hb30
 clear hb30
 refine hK.out _ _ (⟨hh1,hh2,hh3,hh4,hh5⟩) (fun _=>?_)
 clear hK K
 try simp only [putS]
 refine tg (i:=31) (.bool true) rfl (⟨hh1,hh2,hh3,hh4,hh5⟩) ?_
 refine tg (i:=32) (.bool true) rfl (⟨hh1,hh2,hh3,hh4,hh5⟩) ?_
 refine wpAnyH_done (by kernel_rfl) ?_ _
 go_wp2_with fail
 go_ret
 exact ⟨rfl,hb4⟩
end Go.Proofs.YteclpnfckjfibaaGreatDoor
