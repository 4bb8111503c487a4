/- Texts of one kind, one behind the other: each says ahead of itself what it shows. -/
import Derived.Test.YtanbgdhmfjgihaaGreatDoorUas
namespace Go.Proofs.YtanbgdhmfjgihaaGreatDoor
open Go.RowKit
set_option maxHeartbeats 12800000
set_option maxRecDepth 20000
theorem zy7 (g j:Nat) (u v:V6) (z:Int) (w:World)
 (h64:∀ W,Low w.heap.size w W→Calls Tryz.prog 64 #[.pointer (some ⟨g,0,none⟩),.int .i64 j] W fun e w'=>e=.returned (.agg #[.int .i64 v.k,.bool v.b,.int .i64 v.n,.string v.t,.string v.x,.slice v.p v.len v.cap])∧Low W.heap.size W w')
 (h74:∀ W,Low w.heap.size w W→Calls Tryz.prog 74 #[.agg #[.int .i64 v.k,.bool v.b,.int .i64 v.n,.string v.t,.string v.x,.slice v.p v.len v.cap],.agg #[.int .i64 u.k,.bool u.b,.int .i64 u.n,.string u.t,.string u.x,.slice u.p u.len u.cap]] W fun e w'=>e=.returned (.int .i64 z)∧Low W.heap.size W w'):
 Calls Tryz.prog 61 #[.agg #[.pointer (some ⟨g,0,none⟩),.int .i64 u.k,.bool u.b,.int .i64 u.n,.string u.t,.string u.x,.slice u.p u.len u.cap],.int .i64 j] w fun e w'=>e=.returned (.bool (decide (z < 0)))∧Low w.heap.size w w':=by
 obtain ⟨W1,hW1⟩:∃ W1,W1=w.alloc (.cells #[.pointer (some ⟨g,0,none⟩),.int .i64 u.k,.bool u.b,.int .i64 u.n,.string u.t,.string u.x,.slice u.p u.len u.cap] 101):=⟨_,rfl⟩
 have B:W1.heap[w.heap.size]?=some (.cells #[.pointer (some ⟨g,0,none⟩),.int .i64 u.k,.bool u.b,.int .i64 u.n,.string u.t,.string u.x,.slice u.p u.len u.cap] 101):=by rw [hW1];exact zag _ _ rfl
 have b0:Low w.heap.size w W1:=by rw [hW1];exact low1 _ _
 have BB:∀ W,Low W1.heap.size W1 W→W.heap[w.heap.size]?=some (.cells #[.pointer (some ⟨g,0,none⟩),.int .i64 u.k,.bool u.b,.int .i64 u.n,.string u.t,.string u.x,.slice u.p u.len u.cap] 101):=fun W h=>(h.block _ (zac B)).trans B
 have KB0:Hid (∀ W,Low W1.heap.size W1 W→W.cell? ⟨w.heap.size,0,none⟩=some (.pointer (some ⟨g,0,none⟩))):=Lib.hid fun W h=>zab (BB W h) 0 rfl
 have KB1:Hid (∀ W,Low W1.heap.size W1 W→W.rangeAt w.heap.size 1 [.int .i64 u.k,.bool u.b,.int .i64 u.n,.string u.t,.string u.x,.slice u.p u.len u.cap]):=Lib.hid fun W h=>zb3 (zab (BB W h) 1 rfl) (zab (BB W h) 2 rfl) (zab (BB W h) 3 rfl) (zab (BB W h) 4 rfl) (zab (BB W h) 5 rfl) (zab (BB W h) 6 rfl)
 have H64:=Lib.hid h64
 have H74:=Lib.hid h74
 have HW:=Lib.hid hW1
 clear hW1 h64 h74 BB
 go_enter Tryz.func61,Tryz.ntmps61
 go_upto_region 1 with fail
 rw [← HW.out]
 refine wp_region_held_drew (S:=fun W=>Low W1.heap.size W1 W) (by kernel_rfl) (Low.refl _ _).drew (fun hHeld=>?_)
 refine tg (i:=0) (.pointer (some ⟨w.heap.size,0,none⟩)) rfl hHeld ?_
 refine tk (i:=1) (v:=.pointer (some ⟨g,0,none⟩)) rfl (Or.inl ⟨by rfl,fun W h=>by have c0:=KB0.out W h;go_simp⟩) hHeld ?_
 refine tg (i:=2) (.int .i64 j) rfl hHeld ?_
 refine tg (i:=4) (.pointer (some ⟨w.heap.size,1,none⟩)) rfl hHeld ?_
 refine tk (i:=5) rfl (yieldsIf_load_mid (by rfl) 39 (.tmp 9) rfl w.heap.size 1 rfl [.int .i64 u.k,.bool u.b,.int .i64 u.n,.string u.t,.string u.x,.slice u.p u.len u.cap] _ (fun w h=>KB1.out w h) Tryz.underlying39 rfl zav) hHeld ?_
 refine tr 3 rfl (fun K hK=>?_)
 rw [if_pos (by rfl)]
 go_simp
 refine (H64.out _ (b0.trans (hHeld.mono b0.size))).mono ?_
 rintro e0 w3 ⟨rfl,hb3⟩
 have hH2:=zad hHeld hb3 hHeld.size
 clear hb3
 refine hK.out _ _ hH2 (fun hH2=>?_)
 clear hK K
 try simp only [putS]
 refine tr 6 rfl (fun K hK=>?_)
 rw [if_pos (by rfl)]
 go_simp
 refine (H74.out _ (b0.trans (hH2.mono b0.size))).mono ?_
 rintro e0 w3 ⟨rfl,hb3⟩
 have hH3:=zad hH2 hb3 hH2.size
 clear hb3
 refine hK.out _ _ hH3 (fun hH3=>?_)
 clear hK K
 try simp only [putS]
 refine tg (i:=7) (.bool (decide (z < 0))) rfl hH3 ?_
 refine tg (i:=8) (.bool (decide (z < 0))) rfl hH3 ?_
 refine wpAnyH_done (by kernel_rfl) ?_ _
 go_wp2_with fail
 go_ret
 exact ⟨rfl,b0.trans (hH3.mono b0.size)⟩
def SM.less (s:SM) (u:Val) (k v j:Nat):Bool:=decide (za1 1 ((s.vs[s.num k v j]?).getD (.mk 0 false 0 ⟨#[]⟩ ⟨#[]⟩ [])) u < 0)
theorem aheadC {W0 W:World} {s:SM} {g k:Nat} {c:CS} (h:At W0 s W g c k) (ok:SMok s) (hG:Gd W) (hT:Tab W) (h1:1≤c.d) (h3:c.d≤3) (u:V6) (uv:Val) (q:List Val) (hu:Is W u uv q) (j:Nat) (hj:j < c.n):
 Calls Tryz.prog 61 #[.agg #[.pointer (some ⟨g,0,none⟩),.int .i64 u.k,.bool u.b,.int .i64 u.n,.string u.t,.string u.x,.slice u.p u.len u.cap],.int .i64 j] W fun e w'=>e=.returned (.bool (s.less uv k c.lev j))∧Low W.heap.size W w':=by
 obtain ⟨v,q2,i1,hv⟩:=zil h ok h1 h3 j hj
 have hm:=s.num_lt ok k c.lev j (by have:=h.n;omega)
 have hl:s.less uv k c.lev j=decide (za1 1 s.vs[s.num k c.lev j] uv < 0):=by
  unfold SM.less
  rw [List.getElem?_eq_getElem hm,Option.getD_some]
 rw [hl]
 obtain ⟨k0,b0,n0,t0,x0,p0,len0,cap0⟩:=v
 obtain ⟨k2,b2,n2,t2,x2,p2,len2,cap2⟩:=u
 obtain ⟨e1,l1,f1,d1⟩:=i1
 obtain ⟨e2,l2,f2,d2⟩:=hu
 simp only at e1 l1 f1 d1 e2 l2 f2 d2
 subst l1 l2
 refine zy7 g j ⟨k2,b2,n2,t2,x2,p2,q.length,cap2⟩ ⟨k0,b0,n0,t0,x0,p0,q2.length,cap0⟩ _ W hv (fun W' b=>znn _ _ W' k0 b0 n0 t0 x0 q2 p0 cap0 k2 b2 n2 t2 x2 q p2 cap2 e1 e2 (hG.below b.is) (hT.below b.is) f1 f2 (Held.below q2 d1 b.is) (Held.below q d2 b.is))
theorem zej {ops:Array Oper} {rest:List Oper} {o:Oper} {a:Act} {w:World} {Q:Exit→Act→World→Prop} {p q:Value} (u v:Int) (y z:Operand) (g:Nat) (hg:w.heap[g]?=some (.cells #[p,q] 90))
 (hgd:o.guard=none) (ho:o.op=.store 90 y z) (hx:a.eval y=.pointer (some ⟨g,0,none⟩)) (hy:a.eval z=.agg #[.int .i64 u,.int .i64 v])
 (h:wpList Tryz.prog ops Q rest (a.put o.dst undef) (w.setRow g #[.int .i64 u,.int .i64 v])):wpList Tryz.prog ops Q (o::rest) a w:=
 wpList_store_row hgd 90 y z ho g #[.int .i64 u,.int .i64 v] hx hy 90 _ hg zcd rfl (by simp [Value.oneCell']) h
theorem zsw (g:Nat) (b0:Value) (eg:∀ args w,(callFunc g args).run Tryz.prog w=.ok (.enter g args) w) (a e:Nat) (p:Nat→Bool) (w:World) (he:e < 1099511627776)
 (mono:∀ i j,a≤i→i≤j→j < e→p j=true→p i=true)
 (hf:∀ W,Low w.heap.size w W→∀ j:Nat,a≤j→j < e→Calls Tryz.prog g #[b0,.int .i64 j] W fun x w'=>x=.returned (.bool (p j))∧Low W.heap.size W w'):
 Calls Tryz.prog 91 #[.agg #[.int .i64 a,.int .i64 e],.func (.func g) #[b0] #[]] w fun x w'=>x=.returned (.int .i64 (gal p a (e - a):Nat))∧Low w.heap.size w w':=by
 by_cases h:a < e
 ·cases hp:p a with
  | true=>exact ztm g b0 eg a e p w h hp he mono hf
  | false=>
    have hz:gal p a (e - a)=a:=by
     rw [show e - a=(e - a - 1)+1 by omega,gal,if_neg (by rw [hp];exact Bool.false_ne_true)]
    rw [hz]
    exact ztl g b0 eg a e w h fun W b=>by have:=hf W b a (Nat.le_refl _) h;rwa [hp] at this
 ·rw [show e - a=0 by omega,gal]
  exact ztk g b0 a e w (by omega)
theorem eg59:∀ args w,(callFunc 59 args).run Tryz.prog w=.ok (.enter 59 args) w:=enters_of Tryz.func59 (by kernel_rfl) rfl
theorem eg61:∀ args w,(callFunc 61 args).run Tryz.prog w=.ok (.enter 61 args) w:=enters_of Tryz.func61 (by kernel_rfl) rfl
theorem zy8 (g a e r d:Nat) (w:World) (hd:1≤d) (hd3:d≤3) (k11:w.cell? ⟨g,11,none⟩=some (.int .i64 d))
 (h65:∀ W,Low w.heap.size w W→Calls Tryz.prog 65 #[.pointer (some ⟨g,0,none⟩)] W fun e' w'=>e'=.returned (.agg #[.int .i64 a,.int .i64 e])∧Low W.heap.size W w')
 (h91:∀ W,Low w.heap.size w W→Calls Tryz.prog 91 #[.agg #[.int .i64 a,.int .i64 e],.func (.func 59) #[.pointer (some ⟨g,0,none⟩)] #[]] W fun e' w'=>e'=.returned (.int .i64 r)∧Low W.heap.size W w'):
 Calls Tryz.prog 55 #[.pointer (some ⟨g,0,none⟩)] w fun e' w'=>e'=.returned (.agg #[.int .i64 a,.int .i64 r])∧Low w.heap.size w w':=by
 obtain ⟨W1,hW1⟩:∃ W1,W1=w.alloc (.cells #[.int .i64 0,.int .i64 0] 90):=⟨_,rfl⟩
 have BR:W1.heap[w.heap.size]?=some (.cells #[.int .i64 0,.int .i64 0] 90):=by rw [hW1];exact zag _ _ rfl
 have b0:Low w.heap.size w W1:=by rw [hW1];exact low1 _ _
 have c11:W1.cell? ⟨g,11,none⟩=some (.int .i64 d):=(b0.cell (p:=⟨g,11,none⟩) (World.block_lt_of_cell? w _ k11)).trans k11
 have e1:((d:Int) == 0)=false:=by simp;omega
 have H65:=Lib.hid h65
 have HG:=Lib.hid h91
 have HW:=Lib.hid hW1
 clear hW1 h65 h91
 go_enter Tryz.func55,Tryz.ntmps55
 go_upto_region 4 with (first
  |(go_at_call 65;(with_reducible refine (H65.out _ b0).mono ?_);rintro e0 w3 ⟨rfl,hb3⟩;replace b0:=zad b0 hb3 b0.size;replace BR:=(hb3.block _ (zac BR)).trans BR;clear hb3 c11)
  |(rw [← HW.out]))
 have hne:w3.heap.size≠w.heap.size:=by have:=zac BR;omega
 generalize hw4:w3.alloc (Obj.cells #[Value.int IntKind.i64 a,Value.int IntKind.i64 e] 90)=w4
 have KB:w4.heap[w3.heap.size]?=some (.cells #[.int .i64 a,.int .i64 e] 90):=by rw [← hw4];exact zag _ _ rfl
 replace b0:Low w.heap.size w w4:=by rw [← hw4];exact b0.alloc b0.size _
 replace BR:w4.heap[w.heap.size]?=some (.cells #[.int .i64 0,.int .i64 0] 90):=by rw [← hw4];exact zau _ BR
 generalize w3.heap.size=b3 at*
 clear hw4
 refine wp_region_held_drew (S:=fun W=>W.heap[b3]?=some (.cells #[.int .i64 a,.int .i64 e] 90)) (by kernel_rfl) KB (fun hHeld=>?_)
 refine tg (i:=0) (.pointer (some ⟨b3,0,none⟩)) rfl hHeld ?_
 refine tk (i:=1) (v:=.int .i64 a) rfl (Or.inl ⟨by rfl,fun W h=>by have c0:=zab h 0 rfl;go_simp⟩) hHeld ?_
 refine tk (i:=2) rfl (yieldsIf_load_mid (by rfl) 90 (.tmp 3) rfl b3 0 rfl [.int .i64 a,.int .i64 e] _ (fun w h=>zi4 h) Tryz.underlying90 rfl zcd) hHeld ?_
 refine tg (i:=3) (.pointer (some ⟨g,0,none⟩)) rfl hHeld ?_
 refine tg (i:=4) (.func (.func 59) #[.pointer (some ⟨g,0,none⟩)] #[]) rfl hHeld ?_
 refine tr 5 rfl (fun K hK=>?_)
 rw [if_pos (by rfl)]
 go_simp
 refine (HG.out _ b0.drew).mono ?_
 rintro e0 w3 ⟨rfl,hb3⟩
 have b1:=zad b0.drew hb3 b0.size
 have KB2:=(hb3.block _ (zac KB)).trans KB
 have BR2:=(hb3.block _ (zac BR)).trans BR
 clear hb3
 refine hK.out _ _ KB2 (fun hH2=>?_)
 clear hK K
 try simp only [putS]
 refine tg (i:=6) (.agg #[.int .i64 a,.int .i64 r]) rfl hH2 ?_
 refine tr 7 rfl (fun K hK=>?_)
 rw [if_pos (by rfl)]
 have b2:=zbo b1 (Only.setRow (b:=w.heap.size) w3 #[.int .i64 a,.int .i64 r]) (Nat.le_refl _) b1.size
 have KB3:=((Only.setRow (b:=w.heap.size) w3 #[.int .i64 a,.int .i64 r]).block b3 (zac KB2) hne).trans KB2
 refine wp_store_row 90 (.tmp 2) (.tmp 23) rfl w.heap.size #[.int .i64 a,.int .i64 r] rfl rfl 90 _ BR2 zcd rfl (by simp [Value.oneCell']) ?_
 have u5:=za4 (w:=w3) (g:=w.heap.size) (c':=#[.int .i64 a,.int .i64 r]) BR2
 generalize w3.setRow w.heap.size #[.int .i64 a,.int .i64 r]=w5 at*
 refine hK.out _ _ KB3 (fun _=>?_)
 clear hK K
 refine wpAnyH_done (by kernel_rfl) ?_ _
 go_wp2_with fail
 exact bodyPost_ret (v:=.agg #[.int .i64 a,.int .i64 r]) (results_cell_row (p:=2) (ty:=90) Tryz.results55 _ _ w.heap.size 90 _ (0,0) _ rfl u5 Tryz.underlying90 rfl (by exact zcd)) rfl ⟨rfl,b2⟩
def SM.same (s:SM) (k v a j:Nat):Bool:=s.num k v j == s.num k v a
def CS.bot (c:CS) (s:SM) (k:Nat):Nat:=gal (s.same k c.lev c.pos) c.pos (c.fin - c.pos)
theorem belowC {W0 W:World} {s:SM} {g k:Nat} {c:CS} (h:At W0 s W g c k) (ok:SMok s) (h1:1≤c.d) (h3:c.d≤3) (hf:c.fin≤c.n)
 (mono:∀ i j,c.pos≤i→i≤j→j < c.fin→s.same k c.lev c.pos j=true→s.same k c.lev c.pos i=true):
 Calls Tryz.prog 55 #[.pointer (some ⟨g,0,none⟩)] W fun e w'=>e=.returned (.agg #[.int .i64 c.pos,.int .i64 (c.bot s k)])∧Low W.heap.size W w':=by
 have hn:=h.n
 have hl:=ok.nl k
 refine zy8 g c.pos c.fin (c.bot s k) c.d W h1 h3 h.B.c11 (fun W' b=>zlf (h.low b) h1 h3) (fun W' b=>?_)
 exact zsw 59 _ eg59 c.pos c.fin (s.same k c.lev c.pos) W' (by omega) mono (fun W2 b2 j hj hj2=>z0p ((h.low b).low b2) ok h1 h3 j (by omega) (by omega))
theorem zy9 {W:World} {g:Nat} {c:CS} (B:Cur W g c) (h0:c.d=0):
 Calls Tryz.prog 55 #[.pointer (some ⟨g,0,none⟩)] W fun e w'=>e=.returned (.agg #[.int .i64 0,.int .i64 c.n])∧Low W.heap.size W w':=by
 obtain ⟨W1,hW1⟩:∃ W1,W1=W.alloc (.cells #[.int .i64 0,.int .i64 0] 90):=⟨_,rfl⟩
 have BR:W1.heap[W.heap.size]?=some (.cells #[.int .i64 0,.int .i64 0] 90):=by rw [hW1];exact zag _ _ rfl
 have b0:Low W.heap.size W W1:=by rw [hW1];exact low1 _ _
 have B1:=B.low b0
 have c11:W1.cell? ⟨g,11,none⟩=some (.int .i64 0):=by have:=B1.c11;rw [h0] at this;exact this
 have c1:W1.cell? ⟨g,1,none⟩=some (.slice c.pl c.n c.cl):=B1.cell 1 _ rfl
 have b2:=zbo b0 (Only.setRow (b:=W.heap.size) W1 #[.int .i64 0,.int .i64 c.n]) (Nat.le_refl _) b0.size
 have u5:=za4 (w:=W1) (g:=W.heap.size) (c':=#[.int .i64 0,.int .i64 c.n]) BR
 have HW:=Lib.hid hW1
 clear hW1 B B1 b0
 go_enter Tryz.func55,Tryz.ntmps55
 go_upto_region 1 with fail
 rw [← HW.out]
 go_wp2_with ((with_reducible refine zej 0 c.n (.tmp 2) (.tmp 14) W.heap.size BR ?_ ?_ ?_ ?_ ?_);rfl;rfl;rfl;rfl;generalize W1.setRow W.heap.size #[.int .i64 0,.int .i64 c.n]=w5 at *)
 exact bodyPost_ret (v:=.agg #[.int .i64 0,.int .i64 c.n]) (results_cell_row (p:=2) (ty:=90) Tryz.results55 _ _ W.heap.size 90 _ (0,0) _ rfl u5 Tryz.underlying90 rfl (by exact zcd)) rfl ⟨rfl,b2⟩
theorem openGo0 (g a e:Nat) (cs cs':Array Value) (w:World) (hae:a < e) (B:w.heap[g]?=some (.cells cs 93)) (k11:cs[11]?=some (.int .i64 0)) (ka:∃ x,cs[5]?=some x) (ke:∃ x,cs[6]?=some x)
 (k1:((cs.setIfInBounds 5 (.int .i64 a)).setIfInBounds 6 (.int .i64 e))[11]?=some (.int .i64 0))
 (kc:((cs.setIfInBounds 5 (.int .i64 a)).setIfInBounds 6 (.int .i64 e)).setIfInBounds 11 (.int .i64 1)=cs')
 (h55:Calls Tryz.prog 55 #[.pointer (some ⟨g,0,none⟩)] w fun e' w'=>e'=.returned (.agg #[.int .i64 a,.int .i64 e])∧Low w.heap.size w w'):
 Calls Tryz.prog 22 #[.pointer (some ⟨g,0,none⟩)] w fun e' w'=>e'=.returned (.bool true)∧Only g w w'∧w'.heap[g]?=some (.cells cs' 93):=by
 obtain ⟨xa,ka⟩:=ka
 obtain ⟨xe,ke⟩:=ke
 have hemp:=fun W=>zeo a e W
 rw [decide_eq_false (by omega)] at hemp
 have c11:=zab B 11 k11
 have HC:=Lib.hid kc
 have HK:=Lib.hid k11
 have HK1:=Lib.hid k1
 have HKA:=Lib.hid ka
 have HKE:=Lib.hid ke
 clear kc k11 k1 ka ke
 go_enter Tryz.func22,Tryz.ntmps22
 go_upto_region 4 with (go_at_call 55;(with_reducible refine h55.mono ?_);rintro e0 w3 ⟨rfl,b0⟩)
 have hne:w3.heap.size≠g:=by have:=zac B;have:=b0.size;omega
 have B3:=(b0.block _ (zac B)).trans B
 generalize hw4:w3.alloc (Obj.cells #[Value.int IntKind.i64 a,Value.int IntKind.i64 e] 90)=w4
 have KB:w4.heap[w3.heap.size]?=some (.cells #[.int .i64 a,.int .i64 e] 90):=by rw [← hw4];exact zag _ _ rfl
 replace b0:Low w.heap.size w w4:=by rw [← hw4];exact b0.alloc b0.size _
 have B4:w4.heap[g]?=some (.cells cs 93):=by rw [← hw4];exact zau _ B3
 generalize w3.heap.size=b3 at*
 clear hw4 h55 B3
 go_upto_region 6 with (first
  |((with_reducible refine zck (.tmp 3) b3 0 a e (zi4 KB) ?_ ?_ ?_ ?_);rfl;rfl;rfl)
  |(go_at_call 56;(with_reducible refine (hemp _).mono ?_);rintro e0 w6 ⟨rfl,hb6⟩;replace b0:=zad b0 hb6 b0.size;have B6:=(hb6.block _ (zac B4)).trans B4;replace KB:=(hb6.block _ (zac KB)).trans KB;clear hb6))
 refine wp_region_held_drew (S:=fun W=>W.cell? ⟨g,11,none⟩=some (.int .i64 0)∧W.heap[b3]?=some (.cells #[.int .i64 a,.int .i64 e] 90)) (by kernel_rfl) ⟨zab (w:=w6.drew) B6 11 HK.out,KB⟩ (fun hHeld=>?_)
 refine tg (i:=0) (.pointer (some ⟨g,0,none⟩)) rfl hHeld ?_
 refine tg (i:=1) (.pointer (some ⟨g,0,none⟩)) rfl hHeld ?_
 refine tg (i:=2) (.pointer (some ⟨g,0,none⟩)) rfl hHeld ?_
 refine tg (i:=3) (.pointer (some ⟨g,11,none⟩)) rfl hHeld ?_
 refine tk (i:=4) (v:=.int .i64 0) rfl (Or.inl ⟨by rfl,fun W h=>by have c0:=h.1;go_simp⟩) hHeld ?_
 refine tk (i:=5) rfl (yieldsIf_load_mid (by rfl) 90 (.tmp 3) rfl b3 0 rfl [.int .i64 a,.int .i64 e] _ (fun w h=>zi4 h.2) Tryz.underlying90 rfl zcd) hHeld ?_
 refine tg (i:=6) (.pointer (some ⟨g,0,none⟩)) rfl hHeld ?_
 refine tg (i:=7) (.pointer (some ⟨g,5,none⟩)) rfl hHeld ?_
 refine tg (i:=8) (.pointer (some ⟨g,5,none⟩)) rfl hHeld ?_
 refine tr 9 rfl (fun K hK=>?_)
 rw [if_pos (by rfl)]
 have hth:w6.drew.there g 5 2:=fun j hj=>by
  match j,hj with
  | 0,_=>exact ⟨by rw [zab (w:=w6.drew) B6 5 HKA.out];rfl,zbs (w:=w6.drew) B6 _⟩
  | 1,_=>exact ⟨by rw [zab (w:=w6.drew) B6 6 HKE.out];rfl,zbs (w:=w6.drew) B6 _⟩
 refine wp_store_mid 90 (.tmp 21) (.tmp 18) rfl g 5 #[.int .i64 a,.int .i64 e] rfl rfl hth zcd (by simp [Value.oneCell']) ?_
 have C1:=zba (w:=w6.drew) B6 5 (.int .i64 a)
 have C2:=zba C1 6 (.int .i64 e)
 have O1:Only g w ((w6.drew.setCell ⟨g,5,none⟩ (.int .i64 a)).setCell ⟨g,6,none⟩ (.int .i64 e)):=(((Only.of_low (b:=g) b0.drew).setCell 5 none _).setCell 6 none _)
 have KB2:=(((Only.refl g w6.drew).setCell 5 none (.int .i64 a)).setCell 6 none (.int .i64 e)).block b3 (zac KB) hne |>.trans KB
 show K _ ((w6.drew.setCell ⟨g,5,none⟩ (.int .i64 a)).setCell ⟨g,6,none⟩ (.int .i64 e))
 generalize (w6.drew.setCell ⟨g,5,none⟩ (.int .i64 a)).setCell ⟨g,6,none⟩ (.int .i64 e)=w7 at*
 have c11:=zab C2 11 HK1.out
 have f11:w7.frozen? ⟨g,11,none⟩=false:=zbs C2 _
 refine hK.out _ _ ⟨c11,KB2⟩ (fun _=>?_)
 clear hK K
 refine wpAnyH_done (by kernel_rfl) ?_ _
 have O2:Only g w (w7.setCell ⟨g,11,none⟩ (.int .i64 1)):=O1.setCell 11 none _
 have C3:=zba C2 11 (.int .i64 1)
 rw [HC.out] at C3
 have FIN:=Lib.hid (And.intro O2 C3)
 clear C1 C2 C3 O1 O2 KB2 hth
 go_wp2_with fail
 go_ret
 exact ⟨rfl,FIN.out⟩
theorem openGo1 (g a e:Nat) (cs cs':Array Value) (w:World) (hae:a < e) (B:w.heap[g]?=some (.cells cs 93)) (k11:cs[11]?=some (.int .i64 1)) (ka:∃ x,cs[7]?=some x) (ke:∃ x,cs[8]?=some x)
 (k1:((cs.setIfInBounds 7 (.int .i64 a)).setIfInBounds 8 (.int .i64 e))[11]?=some (.int .i64 1))
 (kc:((cs.setIfInBounds 7 (.int .i64 a)).setIfInBounds 8 (.int .i64 e)).setIfInBounds 11 (.int .i64 2)=cs')
 (h55:Calls Tryz.prog 55 #[.pointer (some ⟨g,0,none⟩)] w fun e' w'=>e'=.returned (.agg #[.int .i64 a,.int .i64 e])∧Low w.heap.size w w'):
 Calls Tryz.prog 22 #[.pointer (some ⟨g,0,none⟩)] w fun e' w'=>e'=.returned (.bool true)∧Only g w w'∧w'.heap[g]?=some (.cells cs' 93):=by
 obtain ⟨xa,ka⟩:=ka
 obtain ⟨xe,ke⟩:=ke
 have hemp:=fun W=>zeo a e W
 rw [decide_eq_false (by omega)] at hemp
 have c11:=zab B 11 k11
 have HC:=Lib.hid kc
 have HK:=Lib.hid k11
 have HK1:=Lib.hid k1
 have HKA:=Lib.hid ka
 have HKE:=Lib.hid ke
 clear kc k11 k1 ka ke
 go_enter Tryz.func22,Tryz.ntmps22
 go_upto_region 4 with (go_at_call 55;(with_reducible refine h55.mono ?_);rintro e0 w3 ⟨rfl,b0⟩)
 have hne:w3.heap.size≠g:=by have:=zac B;have:=b0.size;omega
 have B3:=(b0.block _ (zac B)).trans B
 generalize hw4:w3.alloc (Obj.cells #[Value.int IntKind.i64 a,Value.int IntKind.i64 e] 90)=w4
 have KB:w4.heap[w3.heap.size]?=some (.cells #[.int .i64 a,.int .i64 e] 90):=by rw [← hw4];exact zag _ _ rfl
 replace b0:Low w.heap.size w w4:=by rw [← hw4];exact b0.alloc b0.size _
 have B4:w4.heap[g]?=some (.cells cs 93):=by rw [← hw4];exact zau _ B3
 generalize w3.heap.size=b3 at*
 clear hw4 h55 B3
 go_upto_region 6 with (first
  |((with_reducible refine zck (.tmp 3) b3 0 a e (zi4 KB) ?_ ?_ ?_ ?_);rfl;rfl;rfl)
  |(go_at_call 56;(with_reducible refine (hemp _).mono ?_);rintro e0 w6 ⟨rfl,hb6⟩;replace b0:=zad b0 hb6 b0.size;have B6:=(hb6.block _ (zac B4)).trans B4;replace KB:=(hb6.block _ (zac KB)).trans KB;clear hb6))
 refine wp_region_held_drew (S:=fun W=>W.cell? ⟨g,11,none⟩=some (.int .i64 1)∧W.heap[b3]?=some (.cells #[.int .i64 a,.int .i64 e] 90)) (by kernel_rfl) ⟨zab (w:=w6.drew) B6 11 HK.out,KB⟩ (fun hHeld=>?_)
 refine tg (i:=0) (.pointer (some ⟨g,0,none⟩)) rfl hHeld ?_
 refine tg (i:=1) (.pointer (some ⟨g,0,none⟩)) rfl hHeld ?_
 refine tg (i:=2) (.pointer (some ⟨g,0,none⟩)) rfl hHeld ?_
 refine tg (i:=3) (.pointer (some ⟨g,11,none⟩)) rfl hHeld ?_
 refine tk (i:=4) (v:=.int .i64 1) rfl (Or.inl ⟨by rfl,fun W h=>by have c0:=h.1;go_simp⟩) hHeld ?_
 refine tk (i:=5) rfl (yieldsIf_load_mid (by rfl) 90 (.tmp 3) rfl b3 0 rfl [.int .i64 a,.int .i64 e] _ (fun w h=>zi4 h.2) Tryz.underlying90 rfl zcd) hHeld ?_
 refine tg (i:=6) (.pointer (some ⟨g,0,none⟩)) rfl hHeld ?_
 refine tg (i:=7) (.pointer (some ⟨g,5,none⟩)) rfl hHeld ?_
 refine tg (i:=8) (.pointer (some ⟨g,7,none⟩)) rfl hHeld ?_
 refine tr 9 rfl (fun K hK=>?_)
 rw [if_pos (by rfl)]
 have hth:w6.drew.there g 7 2:=fun j hj=>by
  match j,hj with
  | 0,_=>exact ⟨by rw [zab (w:=w6.drew) B6 7 HKA.out];rfl,zbs (w:=w6.drew) B6 _⟩
  | 1,_=>exact ⟨by rw [zab (w:=w6.drew) B6 8 HKE.out];rfl,zbs (w:=w6.drew) B6 _⟩
 refine wp_store_mid 90 (.tmp 21) (.tmp 18) rfl g 7 #[.int .i64 a,.int .i64 e] rfl rfl hth zcd (by simp [Value.oneCell']) ?_
 have C1:=zba (w:=w6.drew) B6 7 (.int .i64 a)
 have C2:=zba C1 8 (.int .i64 e)
 have O1:Only g w ((w6.drew.setCell ⟨g,7,none⟩ (.int .i64 a)).setCell ⟨g,8,none⟩ (.int .i64 e)):=(((Only.of_low (b:=g) b0.drew).setCell 7 none _).setCell 8 none _)
 have KB2:=(((Only.refl g w6.drew).setCell 7 none (.int .i64 a)).setCell 8 none (.int .i64 e)).block b3 (zac KB) hne |>.trans KB
 show K _ ((w6.drew.setCell ⟨g,7,none⟩ (.int .i64 a)).setCell ⟨g,8,none⟩ (.int .i64 e))
 generalize (w6.drew.setCell ⟨g,7,none⟩ (.int .i64 a)).setCell ⟨g,8,none⟩ (.int .i64 e)=w7 at*
 have c11:=zab C2 11 HK1.out
 have f11:w7.frozen? ⟨g,11,none⟩=false:=zbs C2 _
 refine hK.out _ _ ⟨c11,KB2⟩ (fun _=>?_)
 clear hK K
 refine wpAnyH_done (by kernel_rfl) ?_ _
 have O2:Only g w (w7.setCell ⟨g,11,none⟩ (.int .i64 2)):=O1.setCell 11 none _
 have C3:=zba C2 11 (.int .i64 2)
 rw [HC.out] at C3
 have FIN:=Lib.hid (And.intro O2 C3)
 clear C1 C2 C3 O1 O2 KB2 hth
 go_wp2_with fail
 go_ret
 exact ⟨rfl,FIN.out⟩
theorem openGo2 (g a e:Nat) (cs cs':Array Value) (w:World) (hae:a < e) (B:w.heap[g]?=some (.cells cs 93)) (k11:cs[11]?=some (.int .i64 2)) (ka:∃ x,cs[9]?=some x) (ke:∃ x,cs[10]?=some x)
 (k1:((cs.setIfInBounds 9 (.int .i64 a)).setIfInBounds 10 (.int .i64 e))[11]?=some (.int .i64 2))
 (kc:((cs.setIfInBounds 9 (.int .i64 a)).setIfInBounds 10 (.int .i64 e)).setIfInBounds 11 (.int .i64 3)=cs')
 (h55:Calls Tryz.prog 55 #[.pointer (some ⟨g,0,none⟩)] w fun e' w'=>e'=.returned (.agg #[.int .i64 a,.int .i64 e])∧Low w.heap.size w w'):
 Calls Tryz.prog 22 #[.pointer (some ⟨g,0,none⟩)] w fun e' w'=>e'=.returned (.bool true)∧Only g w w'∧w'.heap[g]?=some (.cells cs' 93):=by
 obtain ⟨xa,ka⟩:=ka
 obtain ⟨xe,ke⟩:=ke
 have hemp:=fun W=>zeo a e W
 rw [decide_eq_false (by omega)] at hemp
 have c11:=zab B 11 k11
 have HC:=Lib.hid kc
 have HK:=Lib.hid k11
 have HK1:=Lib.hid k1
 have HKA:=Lib.hid ka
 have HKE:=Lib.hid ke
 clear kc k11 k1 ka ke
 go_enter Tryz.func22,Tryz.ntmps22
 go_upto_region 4 with (go_at_call 55;(with_reducible refine h55.mono ?_);rintro e0 w3 ⟨rfl,b0⟩)
 have hne:w3.heap.size≠g:=by have:=zac B;have:=b0.size;omega
 have B3:=(b0.block _ (zac B)).trans B
 generalize hw4:w3.alloc (Obj.cells #[Value.int IntKind.i64 a,Value.int IntKind.i64 e] 90)=w4
 have KB:w4.heap[w3.heap.size]?=some (.cells #[.int .i64 a,.int .i64 e] 90):=by rw [← hw4];exact zag _ _ rfl
 replace b0:Low w.heap.size w w4:=by rw [← hw4];exact b0.alloc b0.size _
 have B4:w4.heap[g]?=some (.cells cs 93):=by rw [← hw4];exact zau _ B3
 generalize w3.heap.size=b3 at*
 clear hw4 h55 B3
 go_upto_region 6 with (first
  |((with_reducible refine zck (.tmp 3) b3 0 a e (zi4 KB) ?_ ?_ ?_ ?_);rfl;rfl;rfl)
  |(go_at_call 56;(with_reducible refine (hemp _).mono ?_);rintro e0 w6 ⟨rfl,hb6⟩;replace b0:=zad b0 hb6 b0.size;have B6:=(hb6.block _ (zac B4)).trans B4;replace KB:=(hb6.block _ (zac KB)).trans KB;clear hb6))
 refine wp_region_held_drew (S:=fun W=>W.cell? ⟨g,11,none⟩=some (.int .i64 2)∧W.heap[b3]?=some (.cells #[.int .i64 a,.int .i64 e] 90)) (by kernel_rfl) ⟨zab (w:=w6.drew) B6 11 HK.out,KB⟩ (fun hHeld=>?_)
 refine tg (i:=0) (.pointer (some ⟨g,0,none⟩)) rfl hHeld ?_
 refine tg (i:=1) (.pointer (some ⟨g,0,none⟩)) rfl hHeld ?_
 refine tg (i:=2) (.pointer (some ⟨g,0,none⟩)) rfl hHeld ?_
 refine tg (i:=3) (.pointer (some ⟨g,11,none⟩)) rfl hHeld ?_
 refine tk (i:=4) (v:=.int .i64 2) rfl (Or.inl ⟨by rfl,fun W h=>by have c0:=h.1;go_simp⟩) hHeld ?_
 refine tk (i:=5) rfl (yieldsIf_load_mid (by rfl) 90 (.tmp 3) rfl b3 0 rfl [.int .i64 a,.int .i64 e] _ (fun w h=>zi4 h.2) Tryz.underlying90 rfl zcd) hHeld ?_
 refine tg (i:=6) (.pointer (some ⟨g,0,none⟩)) rfl hHeld ?_
 refine tg (i:=7) (.pointer (some ⟨g,5,none⟩)) rfl hHeld ?_
 refine tg (i:=8) (.pointer (some ⟨g,9,none⟩)) rfl hHeld ?_
 refine tr 9 rfl (fun K hK=>?_)
 rw [if_pos (by rfl)]
 have hth:w6.drew.there g 9 2:=fun j hj=>by
  match j,hj with
  | 0,_=>exact ⟨by rw [zab (w:=w6.drew) B6 9 HKA.out];rfl,zbs (w:=w6.drew) B6 _⟩
  | 1,_=>exact ⟨by rw [zab (w:=w6.drew) B6 10 HKE.out];rfl,zbs (w:=w6.drew) B6 _⟩
 refine wp_store_mid 90 (.tmp 21) (.tmp 18) rfl g 9 #[.int .i64 a,.int .i64 e] rfl rfl hth zcd (by simp [Value.oneCell']) ?_
 have C1:=zba (w:=w6.drew) B6 9 (.int .i64 a)
 have C2:=zba C1 10 (.int .i64 e)
 have O1:Only g w ((w6.drew.setCell ⟨g,9,none⟩ (.int .i64 a)).setCell ⟨g,10,none⟩ (.int .i64 e)):=(((Only.of_low (b:=g) b0.drew).setCell 9 none _).setCell 10 none _)
 have KB2:=(((Only.refl g w6.drew).setCell 9 none (.int .i64 a)).setCell 10 none (.int .i64 e)).block b3 (zac KB) hne |>.trans KB
 show K _ ((w6.drew.setCell ⟨g,9,none⟩ (.int .i64 a)).setCell ⟨g,10,none⟩ (.int .i64 e))
 generalize (w6.drew.setCell ⟨g,9,none⟩ (.int .i64 a)).setCell ⟨g,10,none⟩ (.int .i64 e)=w7 at*
 have c11:=zab C2 11 HK1.out
 have f11:w7.frozen? ⟨g,11,none⟩=false:=zbs C2 _
 refine hK.out _ _ ⟨c11,KB2⟩ (fun _=>?_)
 clear hK K
 refine wpAnyH_done (by kernel_rfl) ?_ _
 have O2:Only g w (w7.setCell ⟨g,11,none⟩ (.int .i64 3)):=O1.setCell 11 none _
 have C3:=zba C2 11 (.int .i64 3)
 rw [HC.out] at C3
 have FIN:=Lib.hid (And.intro O2 C3)
 clear C1 C2 C3 O1 O2 KB2 hth
 go_wp2_with fail
 go_ret
 exact ⟨rfl,FIN.out⟩
theorem openNo (g a e:Nat) (d:Int) (w:World) (hae:¬ a < e) (c11:w.cell? ⟨g,11,none⟩=some (.int .i64 d)) (hd:(d == 3)=false)
 (h55:Calls Tryz.prog 55 #[.pointer (some ⟨g,0,none⟩)] w fun e' w'=>e'=.returned (.agg #[.int .i64 a,.int .i64 e])∧Low w.heap.size w w'):
 Calls Tryz.prog 22 #[.pointer (some ⟨g,0,none⟩)] w fun e' w'=>e'=.returned (.bool false)∧Low w.heap.size w w':=by
 have hemp:=fun W=>zeo a e W
 rw [decide_eq_true (by omega)] at hemp
 go_enter Tryz.func22,Tryz.ntmps22
 go_upto_region 4 with (go_at_call 55;(with_reducible refine h55.mono ?_);rintro e0 w3 ⟨rfl,b0⟩)
 generalize hw4:w3.alloc (Obj.cells #[Value.int IntKind.i64 a,Value.int IntKind.i64 e] 90)=w4
 have KB:w4.heap[w3.heap.size]?=some (.cells #[.int .i64 a,.int .i64 e] 90):=by rw [← hw4];exact zag _ _ rfl
 replace b0:Low w.heap.size w w4:=by rw [← hw4];exact b0.alloc b0.size _
 generalize w3.heap.size=b3 at*
 clear hw4 h55
 go_wp2_with (first
  |((with_reducible refine zck (.tmp 3) b3 0 a e (zi4 KB) ?_ ?_ ?_ ?_);rfl;rfl;rfl)
  |(go_at_call 56;(with_reducible refine (hemp _).mono ?_);rintro e0 w6 ⟨rfl,hb6⟩;replace b0:=zad b0 hb6 b0.size;clear hb6))
 go_ret
 exact ⟨rfl,b0⟩
theorem zza (g:Nat) (w:World) (c11:w.cell? ⟨g,11,none⟩=some (.int .i64 3)):
 Calls Tryz.prog 22 #[.pointer (some ⟨g,0,none⟩)] w fun e' w'=>e'=.returned (.bool false)∧Low w.heap.size w w':=by
 go_enter Tryz.func22,Tryz.ntmps22
 go_wp2_with fail
 go_ret
 exact ⟨rfl,Low.refl _ _⟩
theorem zlg {fn:Func} {p q:Tmp} (h:fn.results=#[.cell p 39,.tmp q]) (tmps:Array Value) {w:World} {g:Nat} {k:Int} {b:Bool} {n:Int} {t x:ByteArray} {pp:Option Addr} {len cap:Nat} (v:Value)
 (hp:tmps.getD p undef=.pointer (some ⟨g,0,none⟩)) (hq:tmps.getD q undef=v) (hg:Six w g k b n t x pp len cap):(results fn tmps).run Tryz.prog w=.ok (.tuple #[.agg #[.int .i64 k,.bool b,.int .i64 n,.string t,.string x,.slice pp len cap],v]) w:=by
 have hp':tmps[p]?.getD undef=.pointer (some ⟨g,0,none⟩):=by simpa using hp
 have hq':tmps[q]?.getD undef=v:=by simpa using hq
 have hl:=run_loadVar_row (P:=Tryz.prog) w g 39 39 _ (0,0) _ hg Tryz.underlying39 rfl zav
 simp [results,h,hp',hq',asAddr,hl]
theorem keyGo (g a e:Nat) (v:V6) (w:World) (ht:v.t.size≤2097152) (hx:v.x.size≤2097152)
 (h62:Calls Tryz.prog 62 #[.pointer (some ⟨g,0,none⟩)] (w.alloc (.cells #[.int .i64 0,.bool false,.int .i64 0,.string ⟨#[]⟩,.string ⟨#[]⟩,.slice none 0 0] 39)) fun e' w'=>e'=.returned (.bool true)∧Low (w.heap.size+1) (w.alloc (.cells #[.int .i64 0,.bool false,.int .i64 0,.string ⟨#[]⟩,.string ⟨#[]⟩,.slice none 0 0] 39)) w')
 (h65:∀ W,Low w.heap.size w W→Calls Tryz.prog 65 #[.pointer (some ⟨g,0,none⟩)] W fun e' w'=>e'=.returned (.agg #[.int .i64 a,.int .i64 e])∧Low W.heap.size W w')
 (h64:∀ W,Low w.heap.size w W→Calls Tryz.prog 64 #[.pointer (some ⟨g,0,none⟩),.int .i64 a] W fun e' w'=>e'=.returned (.agg #[.int .i64 v.k,.bool v.b,.int .i64 v.n,.string v.t,.string v.x,.slice v.p v.len v.cap])∧Low W.heap.size W w'):
 Calls Tryz.prog 30 #[.pointer (some ⟨g,0,none⟩)] w fun e' w'=>e'=.returned (.tuple #[.agg #[.int .i64 v.k,.bool v.b,.int .i64 v.n,.string v.t,.string v.x,.slice none 0 0],.bool true])∧Below w.heap.size w w':=by
 obtain ⟨W1,hW1⟩:∃ W1,W1=w.alloc (.cells #[.int .i64 0,.bool false,.int .i64 0,.string ⟨#[]⟩,.string ⟨#[]⟩,.slice none 0 0] 39):=⟨_,rfl⟩
 rw [← hW1] at h62
 have u:Six W1 w.heap.size 0 false 0 ⟨#[]⟩ ⟨#[]⟩ none 0 0:=by rw [hW1];exact zah _ rfl
 have b0:Low w.heap.size w W1:=by rw [hW1];exact low1 _ _
 have hsz:W1.heap.size=w.heap.size+1:=by rw [hW1];simp
 rw [← hsz] at h62
 have ho:=fun W=>zwr v.k v.b v.n v.t v.x v.p v.len v.cap W ht hx
 have hfl:=fun w=>ze8 a e w
 have HW:=Lib.hid hW1
 clear hW1 hsz
 go_enter Tryz.func30,Tryz.ntmps30
 go_upto_region 1 with fail
 rw [← HW.out]
 go_wp2_with (first
  |(go_at_call 62;(with_reducible refine h62.mono ?_);rintro e0 w6 ⟨rfl,hb6⟩;replace b0:=zad b0 hb6 b0.size;replace u:=u.below hb6.is;clear hb6 h62)
  |(go_at_call 65;(with_reducible refine (h65 _ b0).mono ?_);rintro e0 w6 ⟨rfl,hb6⟩;replace b0:=zad b0 hb6 b0.size;replace u:=u.below hb6.is;clear hb6)
  |(go_at_call 64;(with_reducible refine (h64 _ b0).mono ?_);rintro e0 w6 ⟨rfl,hb6⟩;replace b0:=zad b0 hb6 b0.size;replace u:=u.below hb6.is;clear hb6)
  |(go_at_call 63;(with_reducible refine (ho _).mono ?_);rintro e0 w6 ⟨rfl,hb6⟩;have b1:=zak b0.is hb6 b0.size;replace u:=u.below hb6;clear hb6)
  |((with_reducible refine zal (k':=v.k) (b':=v.b) (n':=v.n) (t':=v.t) (x':=v.x) (p':=none) (len':=0) (cap':=0) (.tmp 2) (.tmp 13) w.heap.size u ?_ ?_ ?_ ?_ ?_);rfl;rfl;rfl;rfl;intro w5 ho5 u5;have b5:=zai b1 ho5 (Nat.le_refl _) b1.size))
 exact bodyPost_ret (v:=.tuple #[.agg #[.int .i64 v.k,.bool v.b,.int .i64 v.n,.string v.t,.string v.x,.slice none 0 0],.bool true]) (zlg (p:=2) (q:=3) Tryz.results30 _ _ rfl rfl u5) rfl ⟨rfl,b5⟩
def lev:Nat→Nat × Nat × Nat
 | 0=>(0,1,2)
 | 1=>(0,2,1)
 | 2=>(1,0,2)
 | 3=>(1,2,0)
 | 4=>(2,0,1)
 | _=>(2,1,0)
structure zim (s:SM):Prop where
 v:∀ (i j:Nat) (_:i < j) (h:j < s.vs.length),za1 1 (s.vs[i]'(by omega)) s.vs[j] < 0
 m0:∀ k,k < 6→∀ i j,i≤j→j < (s.ls k).length→s.num k (lev k).1 i≤s.num k (lev k).1 j
 m1:∀ k,k < 6→∀ i j,i≤j→j < (s.ls k).length→s.num k (lev k).1 i=s.num k (lev k).1 j→s.num k (lev k).2.1 i≤s.num k (lev k).2.1 j
 m2:∀ k,k < 6→∀ i j,i≤j→j < (s.ls k).length→s.num k (lev k).1 i=s.num k (lev k).1 j→s.num k (lev k).2.1 i=s.num k (lev k).2.1 j→s.num k (lev k).2.2 i≤s.num k (lev k).2.2 j
structure Fit (s:SM) (k:Nat) (c:CS):Prop where
 d3:c.d≤3
 n:c.n=(s.ls k).length
 l0:c.l0=(lev k).1
 l1:c.l1=(lev k).2.1
 l2:c.l2=(lev k).2.2
 f1:1≤c.d→c.e0=c.n∧c.a0≤c.e0
 f2:2≤c.d→c.a0 < c.e0∧c.e1=gal (s.same k c.l0 c.a0) c.a0 (c.e0 - c.a0)∧c.a0≤c.a1∧c.a1≤c.e1
 f3:3≤c.d→c.a1 < c.e1∧c.e2=gal (s.same k c.l1 c.a1) c.a1 (c.e1 - c.a1)∧c.a1≤c.a2∧c.a2≤c.e2
theorem SM.same_is {s:SM} {k v a j:Nat} (h:s.same k v a j=true):s.num k v j=s.num k v a:=by
 unfold SM.same at h;simpa using h
theorem SM.same_of {s:SM} {k v a j:Nat} (h:s.num k v j=s.num k v a):s.same k v a j=true:=by
 unfold SM.same;simpa using h
section
variable {s:SM} {k:Nat} {c:CS}
theorem CS.pos1 (h:c.d=1):c.pos=c.a0∧c.fin=c.e0∧c.lev=c.l0:=by unfold CS.pos CS.fin CS.lev;rw [h];exact ⟨rfl,rfl,rfl⟩
theorem CS.pos2 (h:c.d=2):c.pos=c.a1∧c.fin=c.e1∧c.lev=c.l1:=by unfold CS.pos CS.fin CS.lev;rw [h];exact ⟨rfl,rfl,rfl⟩
theorem CS.pos3 (h:c.d=3):c.pos=c.a2∧c.fin=c.e2∧c.lev=c.l2:=by unfold CS.pos CS.fin CS.lev;rw [h];exact ⟨rfl,rfl,rfl⟩
theorem Fit.e1 (h:Fit s k c) (h2:2≤c.d):c.e1≤c.n:=by
 have g1:=(h.f1 (by omega)).1
 have g2:=h.f2 h2
 have:=zdo (s.same k c.l0 c.a0) (c.e0 - c.a0) c.a0
 omega
theorem Fit.e2 (h:Fit s k c) (h3:3≤c.d):c.e2≤c.e1:=by
 have g3:=h.f3 h3
 have:=zdo (s.same k c.l1 c.a1) (c.e1 - c.a1) c.a1
 omega
theorem Fit.in_ (h:Fit s k c) (h1:1≤c.d):c.pos≤c.fin∧c.fin≤c.n:=by
 have hd:=h.d3
 have g1:=h.f1 h1
 obtain e | e | e:c.d=1∨c.d=2∨c.d=3:=by omega
 ·obtain ⟨p,f,_⟩:=CS.pos1 e
  rw [p,f];omega
 ·obtain ⟨p,f,_⟩:=CS.pos2 e
  have:=h.e1 (by omega)
  have:=h.f2 (by omega)
  rw [p,f];omega
 ·obtain ⟨p,f,_⟩:=CS.pos3 e
  have:=h.e1 (by omega)
  have:=h.e2 (by omega)
  have:=h.f3 (by omega)
  rw [p,f];omega
theorem Fit.rise (h:Fit s k c) (so:zim s) (hk:k < 6) (h1:1≤c.d) (i j:Nat) (hi:c.pos≤i) (hij:i≤j) (hj:j < c.fin):s.num k c.lev i≤s.num k c.lev j:=by
 have hd:=h.d3
 have hn:=h.n
 have g1:=h.f1 h1
 obtain e | e | e:c.d=1∨c.d=2∨c.d=3:=by omega
 ·obtain ⟨p,f,l⟩:=CS.pos1 e
  rw [l,h.l0]
  rw [f] at hj
  exact so.m0 k hk i j hij (by omega)
 ·obtain ⟨p,f,l⟩:=CS.pos2 e
  have q2:=h.f2 (by omega)
  have:=h.e1 (by omega)
  rw [f] at hj
  rw [p] at hi
  have s1:=SM.same_is (zdc (s.same k c.l0 c.a0) (c.e0 - c.a0) c.a0 i (by omega) (by omega))
  have s2:=SM.same_is (zdc (s.same k c.l0 c.a0) (c.e0 - c.a0) c.a0 j (by omega) (by omega))
  rw [h.l0] at s1 s2
  rw [l,h.l1]
  exact so.m1 k hk i j hij (by omega) (s1.trans s2.symm)
 ·obtain ⟨p,f,l⟩:=CS.pos3 e
  have q2:=h.f2 (by omega)
  have q3:=h.f3 (by omega)
  have:=h.e1 (by omega)
  have:=h.e2 (by omega)
  rw [f] at hj
  rw [p] at hi
  have s1:=SM.same_is (zdc (s.same k c.l0 c.a0) (c.e0 - c.a0) c.a0 i (by omega) (by omega))
  have s2:=SM.same_is (zdc (s.same k c.l0 c.a0) (c.e0 - c.a0) c.a0 j (by omega) (by omega))
  have s3:=SM.same_is (zdc (s.same k c.l1 c.a1) (c.e1 - c.a1) c.a1 i (by omega) (by omega))
  have s4:=SM.same_is (zdc (s.same k c.l1 c.a1) (c.e1 - c.a1) c.a1 j (by omega) (by omega))
  rw [h.l0] at s1 s2
  rw [h.l1] at s3 s4
  rw [l,h.l2]
  exact so.m2 k hk i j hij (by omega) (s1.trans s2.symm) (s3.trans s4.symm)
theorem Fit.up (h:Fit s k c):Fit s k c.up:=
 ⟨Nat.le_trans (Nat.sub_le _ _) h.d3,h.n,h.l0,h.l1,h.l2,fun q=>h.f1 (Nat.le_trans q (Nat.sub_le _ _)),fun q=>h.f2 (Nat.le_trans q (Nat.sub_le _ _)),fun q=>h.f3 (Nat.le_trans q (Nat.sub_le _ _))⟩
theorem Fit.go (h:Fit s k c) (h1:1≤c.d) (x:Nat) (hx:c.pos≤x) (hf:x≤c.fin):Fit s k (c.go x):=by
 have hd:=h.d3
 obtain ⟨sp,pl,n,cl,l0,l1,l2,a0,e0,a1,e1,a2,e2,d⟩:=c
 obtain ⟨_,hn,m0,m1,m2,f1,f2,f3⟩:=h
 simp only at hd h1 hn m0 m1 m2 f1 f2 f3
 obtain rfl | rfl | rfl:d=1∨d=2∨d=3:=by omega
 ·have hx':a0≤x:=hx
  have hf':x≤e0:=hf
  exact ⟨hd,hn,m0,m1,m2,fun _=>⟨(f1 (by omega)).1,hf'⟩,fun q=>absurd q (by show ¬ 2≤1;omega),fun q=>absurd q (by show ¬ 3≤1;omega)⟩
 ·have hx':a1≤x:=hx
  have hf':x≤e1:=hf
  have:=f2 (by omega)
  exact ⟨hd,hn,m0,m1,m2,fun _=>f1 (by omega),fun _=>⟨this.1,this.2.1,by show a0≤x;omega,hf'⟩,fun q=>absurd q (by show ¬ 3≤2;omega)⟩
 ·have hx':a2≤x:=hx
  have hf':x≤e2:=hf
  have:=f3 (by omega)
  exact ⟨hd,hn,m0,m1,m2,fun _=>f1 (by omega),fun _=>f2 (by omega),fun _=>⟨this.1,this.2.1,by show a1≤x;omega,hf'⟩⟩
def CS.on (c:CS):Bool:=decide (1≤c.d) && decide (c.pos < c.fin)
theorem CS.on_is (h:c.on=true):1≤c.d∧c.pos < c.fin:=by
 unfold CS.on at h;simpa using h
theorem CS.on_of (h1:1≤c.d) (h2:c.pos < c.fin):c.on=true:=by
 unfold CS.on;simp [h1,h2]
def CS.next (c:CS) (s:SM) (k:Nat):CS:=if c.on then c.go (c.bot s k) else c
def CS.ahead (c:CS) (s:SM) (k:Nat) (u:Val):Nat:=gal (s.less u k c.lev) c.pos (c.fin - c.pos)
def CS.seek (c:CS) (s:SM) (k:Nat) (u:Val):CS:=if c.on then c.go (c.ahead s k u) else c
def CS.lo (c:CS):Nat:=if c.d=0 then 0 else c.pos
def CS.hi (c:CS) (s:SM) (k:Nat):Nat:=if c.d=0 then c.n else c.bot s k
def CS.opens (c:CS) (s:SM) (k:Nat):Bool:=decide (c.d < 3) && decide (c.lo < c.hi s k)
def CS.opn (c:CS) (s:SM) (k:Nat):CS:=if c.opens s k then c.down c.lo (c.hi s k) else c
theorem CS.bot_in (c:CS) (s:SM) (k:Nat) (h:c.pos≤c.fin):c.pos≤c.bot s k∧c.bot s k≤c.fin:=by
 have g1:=zig (s.same k c.lev c.pos) (c.fin - c.pos) c.pos
 have g2:=zdo (s.same k c.lev c.pos) (c.fin - c.pos) c.pos
 unfold CS.bot
 omega
theorem CS.ahead_in (c:CS) (s:SM) (k:Nat) (u:Val) (h:c.pos≤c.fin):c.pos≤c.ahead s k u∧c.ahead s k u≤c.fin:=by
 have g1:=zig (s.less u k c.lev) (c.fin - c.pos) c.pos
 have g2:=zdo (s.less u k c.lev) (c.fin - c.pos) c.pos
 unfold CS.ahead
 omega
theorem Fit.next (h:Fit s k c):Fit s k (c.next s k):=by
 unfold CS.next
 split
 ·rename_i q
  obtain ⟨q1,q2⟩:=CS.on_is q
  obtain ⟨b1,b2⟩:=c.bot_in s k (by omega)
  exact h.go q1 _ b1 b2
 ·exact h
theorem Fit.seek (h:Fit s k c) (u:Val):Fit s k (c.seek s k u):=by
 unfold CS.seek
 split
 ·rename_i q
  obtain ⟨q1,q2⟩:=CS.on_is q
  obtain ⟨b1,b2⟩:=c.ahead_in s k u (by omega)
  exact h.go q1 _ b1 b2
 ·exact h
theorem Fit.opn (h:Fit s k c):Fit s k (c.opn s k):=by
 unfold CS.opn
 split
 ·rename_i q
  have q':c.d < 3∧c.lo < c.hi s k:=by unfold CS.opens at q;simpa using q
  obtain ⟨q1,q2⟩:=q'
  have hf:=h.f1
  have hf2:=h.f2
  obtain ⟨sp,pl,n,cl,l0,l1,l2,a0,e0,a1,e1,a2,e2,d⟩:=c
  obtain ⟨_,hn,m0,m1,m2,f1,f2,f3⟩:=h
  simp only at q1 hn m0 m1 m2 f1 f2 f3
  obtain rfl | rfl | rfl:d=0∨d=1∨d=2:=by omega
  ·exact ⟨by show 1≤3;omega,hn,m0,m1,m2,fun _=>⟨rfl,Nat.zero_le _⟩,fun q=>absurd q (by show ¬ 2≤1;omega),fun q=>absurd q (by show ¬ 3≤1;omega)⟩
  ·have z:=f1 (by omega)
   have g2:=zdo (s.same k l0 a0) (e0 - a0) a0
   have q3:a0 < gal (s.same k l0 a0) a0 (e0 - a0):=q2
   exact ⟨by show 2≤3;omega,hn,m0,m1,m2,fun _=>z,fun _=>⟨by show a0 < e0;omega,rfl,Nat.le_refl _,Nat.le_of_lt q3⟩,fun q=>absurd q (by show ¬ 3≤2;omega)⟩
  ·have z:=f2 (by omega)
   have g2:=zdo (s.same k l1 a1) (e1 - a1) a1
   have q3:a1 < gal (s.same k l1 a1) a1 (e1 - a1):=q2
   exact ⟨by show 3≤3;omega,hn,m0,m1,m2,fun _=>f1 (by omega),fun _=>z,fun _=>⟨by show a1 < e1;omega,rfl,Nat.le_refl _,Nat.le_of_lt q3⟩⟩
 ·exact h
theorem Fit.same_mono (h:Fit s k c) (so:zim s) (hk:k < 6) (h1:1≤c.d):∀ i j,c.pos≤i→i≤j→j < c.fin→s.same k c.lev c.pos j=true→s.same k c.lev c.pos i=true:=fun i j hi hij hj q=>by
 have e:=SM.same_is q
 have r1:=h.rise so hk h1 c.pos i (Nat.le_refl _) hi (by omega)
 have r2:=h.rise so hk h1 i j hi hij hj
 exact SM.same_of (by omega)
theorem Fit.less_mono (h:Fit s k c) (ok:SMok s) (so:zim s) (hk:k < 6) (h1:1≤c.d) (u:Val):∀ i j,c.pos≤i→i≤j→j < c.fin→s.less u k c.lev j=true→s.less u k c.lev i=true:=fun i j hi hij hj q=>by
 have hn:=h.n
 have hin:=(h.in_ h1).2
 have r2:=h.rise so hk h1 i j hi hij hj
 have li:=s.num_lt ok k c.lev i (by omega)
 have lj:=s.num_lt ok k c.lev j (by omega)
 unfold SM.less at q ⊢
 rw [List.getElem?_eq_getElem li,Option.getD_some]
 rw [List.getElem?_eq_getElem lj,Option.getD_some] at q
 refine decide_eq_true ?_
 have q':=of_decide_eq_true q
 by_cases e:s.num k c.lev i=s.num k c.lev j
 ·have:s.vs[s.num k c.lev i]=s.vs[s.num k c.lev j]:=by congr 1
  rw [this];exact q'
 ·exact (zco 1 _ _ _).lt (so.v _ _ (by omega) lj) (Int.le_of_lt q')
end
structure zbr (W0:World) (s:SM) (W:World) (g:Nat) (c:CS) (k:Nat):Prop where
 at_:At W0 s W g c k
 fit:Fit s k c
 ok:SMok s
 so:zim s
 hk:k < 6
section
variable {W0 W:World} {s:SM} {g k:Nat} {c:CS}
theorem zbr.low {W':World} (h:zbr W0 s W g c k) (b:Low W.heap.size W W'):zbr W0 s W' g c k:=⟨h.at_.low b,h.fit,h.ok,h.so,h.hk⟩
theorem zbr.bel {W':World} (h:zbr W0 s W g c k) (b:Below W.heap.size W W'):zbr W0 s W' g c k:=⟨h.at_.bel b,h.fit,h.ok,h.so,h.hk⟩
theorem zbr.off (h:zbr W0 s W g c k) (q:c.on=false):∀ W',Low W.heap.size W W'→Calls Tryz.prog 62 #[.pointer (some ⟨g,0,none⟩)] W' fun e w'=>e=.returned (.bool false)∧Low W'.heap.size W' w':=fun W' b=>by
 have:=znw (h.at_.low b) h.fit.d3
 rwa [show (decide (1≤c.d) && decide (c.pos < c.fin))=false from q] at this
theorem zbr.onC (h:zbr W0 s W g c k) (q:c.on=true):∀ W',Low W.heap.size W W'→Calls Tryz.prog 62 #[.pointer (some ⟨g,0,none⟩)] W' fun e w'=>e=.returned (.bool true)∧Low W'.heap.size W' w':=fun W' b=>by
 have:=znw (h.at_.low b) h.fit.d3
 rwa [show (decide (1≤c.d) && decide (c.pos < c.fin))=true from q] at this
theorem passC (h:zbr W0 s W g c k) (q:c.on=true) (fn:Nat) (b0:Value) (eg:∀ args w,(callFunc fn args).run Tryz.prog w=.ok (.enter fn args) w) (p:Nat→Bool)
 (mono:∀ i j,c.pos≤i→i≤j→j < c.fin→p j=true→p i=true)
 (hf:∀ W',Low W.heap.size W W'→∀ j:Nat,c.pos≤j→j < c.fin→Calls Tryz.prog fn #[b0,.int .i64 j] W' fun x w'=>x=.returned (.bool (p j))∧Low W'.heap.size W' w'):
 Calls Tryz.prog 58 #[.pointer (some ⟨g,0,none⟩),.func (.func fn) #[b0] #[]] W fun e w'=>e=.returned (.bool (c.go (gal p c.pos (c.fin - c.pos))).on)∧Only g W w'∧Cur w' g (c.go (gal p c.pos (c.fin - c.pos))):=by
 obtain ⟨h1,hpf⟩:=CS.on_is q
 have hd:=h.fit.d3
 have hin:=h.fit.in_ h1
 have hnl:=h.ok.nl k
 have hn:=h.fit.n
 have g1:=zig p (c.fin - c.pos) c.pos
 have g2:=zdo p (c.fin - c.pos) c.pos
 have H1:=h.onC q W (Low.refl _ _)
 have H2:=fun W' (b:Low W.heap.size W W')=>zlf (h.at_.low b) h1 hd
 have H3:=fun W' (b:Low W.heap.size W W')=>zsw fn b0 eg c.pos c.fin p W' (by omega) mono (fun W2 b2=>hf W2 (zad b b2 b.size))
 have H4:∀ W',Only g W W'→Cur W' g (c.go (gal p c.pos (c.fin - c.pos)))→Calls Tryz.prog 62 #[.pointer (some ⟨g,0,none⟩)] W' fun e w'=>e=.returned (.bool (c.go (gal p c.pos (c.fin - c.pos))).on)∧Low W'.heap.size W' w':=
  fun W' b B=>znw (h.at_.only (c.go_alike _) b B) (by rw [CS.go_d];exact hd)
 have B:=h.at_.B
 generalize gal p c.pos (c.fin - c.pos)=r at*
 clear hf mono h q
 obtain ⟨sp,pl,n,cl,l0,l1,l2,a0,e0,a1,e1,a2,e2,d⟩:=c
 simp only at h1 hd
 obtain rfl | rfl | rfl:d=1∨d=2∨d=3:=by omega
 ·exact passGo1 g _ a0 e0 r _ _ _ W B rfl rfl rfl rfl H1 H2 H3 H4
 ·exact passGo2 g _ a1 e1 r _ _ _ W B rfl rfl rfl rfl H1 H2 H3 H4
 ·exact passGo3 g _ a2 e2 r _ _ _ W B rfl rfl rfl rfl H1 H2 H3 H4
theorem nextC (h:zbr W0 s W g c k):Calls Tryz.prog 26 #[.pointer (some ⟨g,0,none⟩)] W fun e w'=>e=.returned (.bool (c.next s k).on)∧Only g W w'∧Cur w' g (c.next s k):=by
 have hc:Calls Tryz.prog 58 #[.pointer (some ⟨g,0,none⟩),.func (.func 59) #[.pointer (some ⟨g,0,none⟩)] #[]] W fun e w'=>e=.returned (.bool (c.next s k).on)∧Only g W w'∧Cur w' g (c.next s k):=by
  cases q:c.on with
  | false=>
    have e:c.next s k=c:=by unfold CS.next;rw [if_neg (by rw [q];exact Bool.false_ne_true)]
    rw [e,q]
    exact (z0q (h.off q W (Low.refl _ _))).mono fun e w' hh=>⟨hh.1,Only.of_low hh.2,h.at_.B.low hh.2⟩
  | true=>
    have e:c.next s k=c.go (c.bot s k):=by unfold CS.next;rw [if_pos q]
    rw [e]
    obtain ⟨h1,hpf⟩:=CS.on_is q
    have hin:=h.fit.in_ h1
    exact passC h q 59 _ eg59 (s.same k c.lev c.pos) (h.fit.same_mono h.so h.hk h1) (fun W' b j hj hj2=>z0p (h.at_.low b) h.ok h1 h.fit.d3 j (by omega) (by omega))
 have HC:=Lib.hid hc
 clear hc h
 go_enter Tryz.func26,Tryz.ntmps26
 go_wp2_with (go_at_call 58;(with_reducible refine HC.out.mono ?_);rintro e w3 ⟨rfl,hb3⟩)
 go_ret
 exact ⟨rfl,hb3⟩
end
end Go.Proofs.YtanbgdhmfjgihaaGreatDoor
