/- Texts of one kind, one behind the other: each says ahead of itself what it shows. -/
import Derived.Test.YtanbgdhmfjgihaaGreatDoorTas
namespace Go.Proofs.YtanbgdhmfjgihaaGreatDoor
open Go.RowKit
set_option maxHeartbeats 12800000
set_option maxRecDepth 20000
theorem openGo0 (g a e:Nat) (cs cs':Array Value) (w:World) (hae:a < e) (B:w.heap[g]?=some (.cells cs 93)) (k11:cs[11]?=some (.int .i64 0)) (ka:∃ x,cs[5]?=some x) (ke:∃ x,cs[6]?=some x)
 (k1:((cs.setIfInBounds 5 (.int .i64 a)).setIfInBounds 6 (.int .i64 e))[11]?=some (.int .i64 0))
 (kc:((cs.setIfInBounds 5 (.int .i64 a)).setIfInBounds 6 (.int .i64 e)).setIfInBounds 11 (.int .i64 1)=cs')
 (h55:Calls Tryz.prog 55 #[.pointer (some ⟨g,0,none⟩)] w fun e' w'=>e'=.returned (.agg #[.int .i64 a,.int .i64 e])∧Low w.heap.size w w'):
 Calls Tryz.prog 22 #[.pointer (some ⟨g,0,none⟩)] w fun e' w'=>e'=.returned (.bool true)∧Only g w w'∧w'.heap[g]?=some (.cells cs' 93):=by
 obtain ⟨xa,ka⟩:=ka
 obtain ⟨xe,ke⟩:=ke
 have hemp:=fun W=>zeb a e W
 rw [decide_eq_false (by omega)] at hemp
 have c11:=zab B 11 k11
 have HC:=Lib.hid kc
 have HK:=Lib.hid k11
 have HK1:=Lib.hid k1
 have HKA:=Lib.hid ka
 have HKE:=Lib.hid ke
 clear kc k11 k1 ka ke
 go_enter Tryz.func22,Tryz.ntmps22
 go_upto_region 4 with (go_at_call 55;(with_reducible refine h55.mono ?_);rintro e0 w3 ⟨rfl,b0⟩)
 have hne:w3.heap.size≠g:=by have:=zac B;have:=b0.size;omega
 have B3:=(b0.block _ (zac B)).trans B
 generalize hw4:w3.alloc (Obj.cells #[Value.int IntKind.i64 a,Value.int IntKind.i64 e] 90)=w4
 have KB:w4.heap[w3.heap.size]?=some (.cells #[.int .i64 a,.int .i64 e] 90):=by rw [← hw4];exact zah _ _ rfl
 replace b0:Low w.heap.size w w4:=by rw [← hw4];exact b0.alloc b0.size _
 have B4:w4.heap[g]?=some (.cells cs 93):=by rw [← hw4];exact zaw _ B3
 generalize w3.heap.size=b3 at*
 clear hw4 h55 B3
 go_upto_region 6 with (first
  |((with_reducible refine zcf (.tmp 3) b3 0 a e (zio KB) ?_ ?_ ?_ ?_);rfl;rfl;rfl)
  |(go_at_call 56;(with_reducible refine (hemp _).mono ?_);rintro e0 w6 ⟨rfl,hb6⟩;replace b0:=zad b0 hb6 b0.size;have B6:=(hb6.block _ (zac B4)).trans B4;replace KB:=(hb6.block _ (zac KB)).trans KB;clear hb6))
 refine wp_region_held_drew (S:=fun W=>W.cell? ⟨g,11,none⟩=some (.int .i64 0)∧W.heap[b3]?=some (.cells #[.int .i64 a,.int .i64 e] 90)) (by kernel_rfl) ⟨zab (w:=w6.drew) B6 11 HK.out,KB⟩ (fun hHeld=>?_)
 refine tg (i:=0) (.pointer (some ⟨g,0,none⟩)) rfl hHeld ?_
 refine tg (i:=1) (.pointer (some ⟨g,0,none⟩)) rfl hHeld ?_
 refine tg (i:=2) (.pointer (some ⟨g,0,none⟩)) rfl hHeld ?_
 refine tg (i:=3) (.pointer (some ⟨g,11,none⟩)) rfl hHeld ?_
 refine tk (i:=4) (v:=.int .i64 0) rfl (Or.inl ⟨by rfl,fun W h=>by have c0:=h.1;go_simp⟩) hHeld ?_
 refine tk (i:=5) rfl (yieldsIf_load_mid (by rfl) 90 (.tmp 3) rfl b3 0 rfl [.int .i64 a,.int .i64 e] _ (fun w h=>zio h.2) Tryz.underlying90 rfl zb9) hHeld ?_
 refine tg (i:=6) (.pointer (some ⟨g,0,none⟩)) rfl hHeld ?_
 refine tg (i:=7) (.pointer (some ⟨g,5,none⟩)) rfl hHeld ?_
 refine tg (i:=8) (.pointer (some ⟨g,5,none⟩)) rfl hHeld ?_
 refine tr 9 rfl (fun K hK=>?_)
 rw [if_pos (by rfl)]
 have hth:w6.drew.there g 5 2:=fun j hj=>by
  match j,hj with
  | 0,_=>exact ⟨by rw [zab (w:=w6.drew) B6 5 HKA.out];rfl,za9 (w:=w6.drew) B6 _⟩
  | 1,_=>exact ⟨by rw [zab (w:=w6.drew) B6 6 HKE.out];rfl,za9 (w:=w6.drew) B6 _⟩
 refine wp_store_mid 90 (.tmp 21) (.tmp 18) rfl g 5 #[.int .i64 a,.int .i64 e] rfl rfl hth zb9 (by simp [Value.oneCell']) ?_
 have C1:=zaz (w:=w6.drew) B6 5 (.int .i64 a)
 have C2:=zaz C1 6 (.int .i64 e)
 have O1:Only g w ((w6.drew.setCell ⟨g,5,none⟩ (.int .i64 a)).setCell ⟨g,6,none⟩ (.int .i64 e)):=(((Only.of_low (b:=g) b0.drew).setCell 5 none _).setCell 6 none _)
 have KB2:=(((Only.refl g w6.drew).setCell 5 none (.int .i64 a)).setCell 6 none (.int .i64 e)).block b3 (zac KB) hne |>.trans KB
 show K _ ((w6.drew.setCell ⟨g,5,none⟩ (.int .i64 a)).setCell ⟨g,6,none⟩ (.int .i64 e))
 generalize (w6.drew.setCell ⟨g,5,none⟩ (.int .i64 a)).setCell ⟨g,6,none⟩ (.int .i64 e)=w7 at*
 have c11:=zab C2 11 HK1.out
 have f11:w7.frozen? ⟨g,11,none⟩=false:=za9 C2 _
 refine hK.out _ _ ⟨c11,KB2⟩ (fun _=>?_)
 clear hK K
 refine wpAnyH_done (by kernel_rfl) ?_ _
 have O2:Only g w (w7.setCell ⟨g,11,none⟩ (.int .i64 1)):=O1.setCell 11 none _
 have C3:=zaz C2 11 (.int .i64 1)
 rw [HC.out] at C3
 have FIN:=Lib.hid (And.intro O2 C3)
 clear C1 C2 C3 O1 O2 KB2 hth
 go_wp2_with fail
 go_ret
 exact ⟨rfl,FIN.out⟩
theorem openGo1 (g a e:Nat) (cs cs':Array Value) (w:World) (hae:a < e) (B:w.heap[g]?=some (.cells cs 93)) (k11:cs[11]?=some (.int .i64 1)) (ka:∃ x,cs[7]?=some x) (ke:∃ x,cs[8]?=some x)
 (k1:((cs.setIfInBounds 7 (.int .i64 a)).setIfInBounds 8 (.int .i64 e))[11]?=some (.int .i64 1))
 (kc:((cs.setIfInBounds 7 (.int .i64 a)).setIfInBounds 8 (.int .i64 e)).setIfInBounds 11 (.int .i64 2)=cs')
 (h55:Calls Tryz.prog 55 #[.pointer (some ⟨g,0,none⟩)] w fun e' w'=>e'=.returned (.agg #[.int .i64 a,.int .i64 e])∧Low w.heap.size w w'):
 Calls Tryz.prog 22 #[.pointer (some ⟨g,0,none⟩)] w fun e' w'=>e'=.returned (.bool true)∧Only g w w'∧w'.heap[g]?=some (.cells cs' 93):=by
 obtain ⟨xa,ka⟩:=ka
 obtain ⟨xe,ke⟩:=ke
 have hemp:=fun W=>zeb a e W
 rw [decide_eq_false (by omega)] at hemp
 have c11:=zab B 11 k11
 have HC:=Lib.hid kc
 have HK:=Lib.hid k11
 have HK1:=Lib.hid k1
 have HKA:=Lib.hid ka
 have HKE:=Lib.hid ke
 clear kc k11 k1 ka ke
 go_enter Tryz.func22,Tryz.ntmps22
 go_upto_region 4 with (go_at_call 55;(with_reducible refine h55.mono ?_);rintro e0 w3 ⟨rfl,b0⟩)
 have hne:w3.heap.size≠g:=by have:=zac B;have:=b0.size;omega
 have B3:=(b0.block _ (zac B)).trans B
 generalize hw4:w3.alloc (Obj.cells #[Value.int IntKind.i64 a,Value.int IntKind.i64 e] 90)=w4
 have KB:w4.heap[w3.heap.size]?=some (.cells #[.int .i64 a,.int .i64 e] 90):=by rw [← hw4];exact zah _ _ rfl
 replace b0:Low w.heap.size w w4:=by rw [← hw4];exact b0.alloc b0.size _
 have B4:w4.heap[g]?=some (.cells cs 93):=by rw [← hw4];exact zaw _ B3
 generalize w3.heap.size=b3 at*
 clear hw4 h55 B3
 go_upto_region 6 with (first
  |((with_reducible refine zcf (.tmp 3) b3 0 a e (zio KB) ?_ ?_ ?_ ?_);rfl;rfl;rfl)
  |(go_at_call 56;(with_reducible refine (hemp _).mono ?_);rintro e0 w6 ⟨rfl,hb6⟩;replace b0:=zad b0 hb6 b0.size;have B6:=(hb6.block _ (zac B4)).trans B4;replace KB:=(hb6.block _ (zac KB)).trans KB;clear hb6))
 refine wp_region_held_drew (S:=fun W=>W.cell? ⟨g,11,none⟩=some (.int .i64 1)∧W.heap[b3]?=some (.cells #[.int .i64 a,.int .i64 e] 90)) (by kernel_rfl) ⟨zab (w:=w6.drew) B6 11 HK.out,KB⟩ (fun hHeld=>?_)
 refine tg (i:=0) (.pointer (some ⟨g,0,none⟩)) rfl hHeld ?_
 refine tg (i:=1) (.pointer (some ⟨g,0,none⟩)) rfl hHeld ?_
 refine tg (i:=2) (.pointer (some ⟨g,0,none⟩)) rfl hHeld ?_
 refine tg (i:=3) (.pointer (some ⟨g,11,none⟩)) rfl hHeld ?_
 refine tk (i:=4) (v:=.int .i64 1) rfl (Or.inl ⟨by rfl,fun W h=>by have c0:=h.1;go_simp⟩) hHeld ?_
 refine tk (i:=5) rfl (yieldsIf_load_mid (by rfl) 90 (.tmp 3) rfl b3 0 rfl [.int .i64 a,.int .i64 e] _ (fun w h=>zio h.2) Tryz.underlying90 rfl zb9) hHeld ?_
 refine tg (i:=6) (.pointer (some ⟨g,0,none⟩)) rfl hHeld ?_
 refine tg (i:=7) (.pointer (some ⟨g,5,none⟩)) rfl hHeld ?_
 refine tg (i:=8) (.pointer (some ⟨g,7,none⟩)) rfl hHeld ?_
 refine tr 9 rfl (fun K hK=>?_)
 rw [if_pos (by rfl)]
 have hth:w6.drew.there g 7 2:=fun j hj=>by
  match j,hj with
  | 0,_=>exact ⟨by rw [zab (w:=w6.drew) B6 7 HKA.out];rfl,za9 (w:=w6.drew) B6 _⟩
  | 1,_=>exact ⟨by rw [zab (w:=w6.drew) B6 8 HKE.out];rfl,za9 (w:=w6.drew) B6 _⟩
 refine wp_store_mid 90 (.tmp 21) (.tmp 18) rfl g 7 #[.int .i64 a,.int .i64 e] rfl rfl hth zb9 (by simp [Value.oneCell']) ?_
 have C1:=zaz (w:=w6.drew) B6 7 (.int .i64 a)
 have C2:=zaz C1 8 (.int .i64 e)
 have O1:Only g w ((w6.drew.setCell ⟨g,7,none⟩ (.int .i64 a)).setCell ⟨g,8,none⟩ (.int .i64 e)):=(((Only.of_low (b:=g) b0.drew).setCell 7 none _).setCell 8 none _)
 have KB2:=(((Only.refl g w6.drew).setCell 7 none (.int .i64 a)).setCell 8 none (.int .i64 e)).block b3 (zac KB) hne |>.trans KB
 show K _ ((w6.drew.setCell ⟨g,7,none⟩ (.int .i64 a)).setCell ⟨g,8,none⟩ (.int .i64 e))
 generalize (w6.drew.setCell ⟨g,7,none⟩ (.int .i64 a)).setCell ⟨g,8,none⟩ (.int .i64 e)=w7 at*
 have c11:=zab C2 11 HK1.out
 have f11:w7.frozen? ⟨g,11,none⟩=false:=za9 C2 _
 refine hK.out _ _ ⟨c11,KB2⟩ (fun _=>?_)
 clear hK K
 refine wpAnyH_done (by kernel_rfl) ?_ _
 have O2:Only g w (w7.setCell ⟨g,11,none⟩ (.int .i64 2)):=O1.setCell 11 none _
 have C3:=zaz C2 11 (.int .i64 2)
 rw [HC.out] at C3
 have FIN:=Lib.hid (And.intro O2 C3)
 clear C1 C2 C3 O1 O2 KB2 hth
 go_wp2_with fail
 go_ret
 exact ⟨rfl,FIN.out⟩
theorem openGo2 (g a e:Nat) (cs cs':Array Value) (w:World) (hae:a < e) (B:w.heap[g]?=some (.cells cs 93)) (k11:cs[11]?=some (.int .i64 2)) (ka:∃ x,cs[9]?=some x) (ke:∃ x,cs[10]?=some x)
 (k1:((cs.setIfInBounds 9 (.int .i64 a)).setIfInBounds 10 (.int .i64 e))[11]?=some (.int .i64 2))
 (kc:((cs.setIfInBounds 9 (.int .i64 a)).setIfInBounds 10 (.int .i64 e)).setIfInBounds 11 (.int .i64 3)=cs')
 (h55:Calls Tryz.prog 55 #[.pointer (some ⟨g,0,none⟩)] w fun e' w'=>e'=.returned (.agg #[.int .i64 a,.int .i64 e])∧Low w.heap.size w w'):
 Calls Tryz.prog 22 #[.pointer (some ⟨g,0,none⟩)] w fun e' w'=>e'=.returned (.bool true)∧Only g w w'∧w'.heap[g]?=some (.cells cs' 93):=by
 obtain ⟨xa,ka⟩:=ka
 obtain ⟨xe,ke⟩:=ke
 have hemp:=fun W=>zeb a e W
 rw [decide_eq_false (by omega)] at hemp
 have c11:=zab B 11 k11
 have HC:=Lib.hid kc
 have HK:=Lib.hid k11
 have HK1:=Lib.hid k1
 have HKA:=Lib.hid ka
 have HKE:=Lib.hid ke
 clear kc k11 k1 ka ke
 go_enter Tryz.func22,Tryz.ntmps22
 go_upto_region 4 with (go_at_call 55;(with_reducible refine h55.mono ?_);rintro e0 w3 ⟨rfl,b0⟩)
 have hne:w3.heap.size≠g:=by have:=zac B;have:=b0.size;omega
 have B3:=(b0.block _ (zac B)).trans B
 generalize hw4:w3.alloc (Obj.cells #[Value.int IntKind.i64 a,Value.int IntKind.i64 e] 90)=w4
 have KB:w4.heap[w3.heap.size]?=some (.cells #[.int .i64 a,.int .i64 e] 90):=by rw [← hw4];exact zah _ _ rfl
 replace b0:Low w.heap.size w w4:=by rw [← hw4];exact b0.alloc b0.size _
 have B4:w4.heap[g]?=some (.cells cs 93):=by rw [← hw4];exact zaw _ B3
 generalize w3.heap.size=b3 at*
 clear hw4 h55 B3
 go_upto_region 6 with (first
  |((with_reducible refine zcf (.tmp 3) b3 0 a e (zio KB) ?_ ?_ ?_ ?_);rfl;rfl;rfl)
  |(go_at_call 56;(with_reducible refine (hemp _).mono ?_);rintro e0 w6 ⟨rfl,hb6⟩;replace b0:=zad b0 hb6 b0.size;have B6:=(hb6.block _ (zac B4)).trans B4;replace KB:=(hb6.block _ (zac KB)).trans KB;clear hb6))
 refine wp_region_held_drew (S:=fun W=>W.cell? ⟨g,11,none⟩=some (.int .i64 2)∧W.heap[b3]?=some (.cells #[.int .i64 a,.int .i64 e] 90)) (by kernel_rfl) ⟨zab (w:=w6.drew) B6 11 HK.out,KB⟩ (fun hHeld=>?_)
 refine tg (i:=0) (.pointer (some ⟨g,0,none⟩)) rfl hHeld ?_
 refine tg (i:=1) (.pointer (some ⟨g,0,none⟩)) rfl hHeld ?_
 refine tg (i:=2) (.pointer (some ⟨g,0,none⟩)) rfl hHeld ?_
 refine tg (i:=3) (.pointer (some ⟨g,11,none⟩)) rfl hHeld ?_
 refine tk (i:=4) (v:=.int .i64 2) rfl (Or.inl ⟨by rfl,fun W h=>by have c0:=h.1;go_simp⟩) hHeld ?_
 refine tk (i:=5) rfl (yieldsIf_load_mid (by rfl) 90 (.tmp 3) rfl b3 0 rfl [.int .i64 a,.int .i64 e] _ (fun w h=>zio h.2) Tryz.underlying90 rfl zb9) hHeld ?_
 refine tg (i:=6) (.pointer (some ⟨g,0,none⟩)) rfl hHeld ?_
 refine tg (i:=7) (.pointer (some ⟨g,5,none⟩)) rfl hHeld ?_
 refine tg (i:=8) (.pointer (some ⟨g,9,none⟩)) rfl hHeld ?_
 refine tr 9 rfl (fun K hK=>?_)
 rw [if_pos (by rfl)]
 have hth:w6.drew.there g 9 2:=fun j hj=>by
  match j,hj with
  | 0,_=>exact ⟨by rw [zab (w:=w6.drew) B6 9 HKA.out];rfl,za9 (w:=w6.drew) B6 _⟩
  | 1,_=>exact ⟨by rw [zab (w:=w6.drew) B6 10 HKE.out];rfl,za9 (w:=w6.drew) B6 _⟩
 refine wp_store_mid 90 (.tmp 21) (.tmp 18) rfl g 9 #[.int .i64 a,.int .i64 e] rfl rfl hth zb9 (by simp [Value.oneCell']) ?_
 have C1:=zaz (w:=w6.drew) B6 9 (.int .i64 a)
 have C2:=zaz C1 10 (.int .i64 e)
 have O1:Only g w ((w6.drew.setCell ⟨g,9,none⟩ (.int .i64 a)).setCell ⟨g,10,none⟩ (.int .i64 e)):=(((Only.of_low (b:=g) b0.drew).setCell 9 none _).setCell 10 none _)
 have KB2:=(((Only.refl g w6.drew).setCell 9 none (.int .i64 a)).setCell 10 none (.int .i64 e)).block b3 (zac KB) hne |>.trans KB
 show K _ ((w6.drew.setCell ⟨g,9,none⟩ (.int .i64 a)).setCell ⟨g,10,none⟩ (.int .i64 e))
 generalize (w6.drew.setCell ⟨g,9,none⟩ (.int .i64 a)).setCell ⟨g,10,none⟩ (.int .i64 e)=w7 at*
 have c11:=zab C2 11 HK1.out
 have f11:w7.frozen? ⟨g,11,none⟩=false:=za9 C2 _
 refine hK.out _ _ ⟨c11,KB2⟩ (fun _=>?_)
 clear hK K
 refine wpAnyH_done (by kernel_rfl) ?_ _
 have O2:Only g w (w7.setCell ⟨g,11,none⟩ (.int .i64 3)):=O1.setCell 11 none _
 have C3:=zaz C2 11 (.int .i64 3)
 rw [HC.out] at C3
 have FIN:=Lib.hid (And.intro O2 C3)
 clear C1 C2 C3 O1 O2 KB2 hth
 go_wp2_with fail
 go_ret
 exact ⟨rfl,FIN.out⟩
theorem openNo (g a e:Nat) (d:Int) (w:World) (hae:¬ a < e) (c11:w.cell? ⟨g,11,none⟩=some (.int .i64 d)) (hd:(d == 3)=false)
 (h55:Calls Tryz.prog 55 #[.pointer (some ⟨g,0,none⟩)] w fun e' w'=>e'=.returned (.agg #[.int .i64 a,.int .i64 e])∧Low w.heap.size w w'):
 Calls Tryz.prog 22 #[.pointer (some ⟨g,0,none⟩)] w fun e' w'=>e'=.returned (.bool false)∧Low w.heap.size w w':=by
 have hemp:=fun W=>zeb a e W
 rw [decide_eq_true (by omega)] at hemp
 go_enter Tryz.func22,Tryz.ntmps22
 go_upto_region 4 with (go_at_call 55;(with_reducible refine h55.mono ?_);rintro e0 w3 ⟨rfl,b0⟩)
 generalize hw4:w3.alloc (Obj.cells #[Value.int IntKind.i64 a,Value.int IntKind.i64 e] 90)=w4
 have KB:w4.heap[w3.heap.size]?=some (.cells #[.int .i64 a,.int .i64 e] 90):=by rw [← hw4];exact zah _ _ rfl
 replace b0:Low w.heap.size w w4:=by rw [← hw4];exact b0.alloc b0.size _
 generalize w3.heap.size=b3 at*
 clear hw4 h55
 go_wp2_with (first
  |((with_reducible refine zcf (.tmp 3) b3 0 a e (zio KB) ?_ ?_ ?_ ?_);rfl;rfl;rfl)
  |(go_at_call 56;(with_reducible refine (hemp _).mono ?_);rintro e0 w6 ⟨rfl,hb6⟩;replace b0:=zad b0 hb6 b0.size;clear hb6))
 go_ret
 exact ⟨rfl,b0⟩
theorem zw3 (g:Nat) (w:World) (c11:w.cell? ⟨g,11,none⟩=some (.int .i64 3)):
 Calls Tryz.prog 22 #[.pointer (some ⟨g,0,none⟩)] w fun e' w'=>e'=.returned (.bool false)∧Low w.heap.size w w':=by
 go_enter Tryz.func22,Tryz.ntmps22
 go_wp2_with fail
 go_ret
 exact ⟨rfl,Low.refl _ _⟩
theorem zb3 {fn:Func} {p q:Tmp} (h:fn.results=#[.cell p 39,.tmp q]) (tmps:Array Value) {w:World} {g:Nat} {k:Int} {b:Bool} {n:Int} {t x:ByteArray} {pp:Option Addr} {len cap:Nat} (v:Value)
 (hp:tmps.getD p undef=.pointer (some ⟨g,0,none⟩)) (hq:tmps.getD q undef=v) (hg:Six w g k b n t x pp len cap):(results fn tmps).run Tryz.prog w=.ok (.tuple #[.agg #[.int .i64 k,.bool b,.int .i64 n,.string t,.string x,.slice pp len cap],v]) w:=by
 have hp':tmps[p]?.getD undef=.pointer (some ⟨g,0,none⟩):=by simpa using hp
 have hq':tmps[q]?.getD undef=v:=by simpa using hq
 have hl:=run_loadVar_row (P:=Tryz.prog) w g 39 39 _ (0,0) _ hg Tryz.underlying39 rfl zas
 simp [results,h,hp',hq',asAddr,hl]
theorem keyGo (g a e:Nat) (v:V6) (w:World) (ht:v.t.size≤2097152) (hx:v.x.size≤2097152)
 (h62:Calls Tryz.prog 62 #[.pointer (some ⟨g,0,none⟩)] (w.alloc (.cells #[.int .i64 0,.bool false,.int .i64 0,.string ⟨#[]⟩,.string ⟨#[]⟩,.slice none 0 0] 39)) fun e' w'=>e'=.returned (.bool true)∧Low (w.heap.size+1) (w.alloc (.cells #[.int .i64 0,.bool false,.int .i64 0,.string ⟨#[]⟩,.string ⟨#[]⟩,.slice none 0 0] 39)) w')
 (h65:∀ W,Low w.heap.size w W→Calls Tryz.prog 65 #[.pointer (some ⟨g,0,none⟩)] W fun e' w'=>e'=.returned (.agg #[.int .i64 a,.int .i64 e])∧Low W.heap.size W w')
 (h64:∀ W,Low w.heap.size w W→Calls Tryz.prog 64 #[.pointer (some ⟨g,0,none⟩),.int .i64 a] W fun e' w'=>e'=.returned (.agg #[.int .i64 v.k,.bool v.b,.int .i64 v.n,.string v.t,.string v.x,.slice v.p v.len v.cap])∧Low W.heap.size W w'):
 Calls Tryz.prog 30 #[.pointer (some ⟨g,0,none⟩)] w fun e' w'=>e'=.returned (.tuple #[.agg #[.int .i64 v.k,.bool v.b,.int .i64 v.n,.string v.t,.string v.x,.slice none 0 0],.bool true])∧Below w.heap.size w w':=by
 obtain ⟨W1,hW1⟩:∃ W1,W1=w.alloc (.cells #[.int .i64 0,.bool false,.int .i64 0,.string ⟨#[]⟩,.string ⟨#[]⟩,.slice none 0 0] 39):=⟨_,rfl⟩
 rw [← hW1] at h62
 have u:Six W1 w.heap.size 0 false 0 ⟨#[]⟩ ⟨#[]⟩ none 0 0:=by rw [hW1];exact zaf _ rfl
 have b0:Low w.heap.size w W1:=by rw [hW1];exact low1 _ _
 have hsz:W1.heap.size=w.heap.size+1:=by rw [hW1];simp
 rw [← hsz] at h62
 have ho:=fun W=>ownAt v.k v.b v.n v.t v.x v.p v.len v.cap W ht hx
 have hfl:=fun w=>zu3 a e w
 have HW:=Lib.hid hW1
 clear hW1 hsz
 go_enter Tryz.func30,Tryz.ntmps30
 go_upto_region 1 with fail
 rw [← HW.out]
 go_wp2_with (first
  |(go_at_call 62;(with_reducible refine h62.mono ?_);rintro e0 w6 ⟨rfl,hb6⟩;replace b0:=zad b0 hb6 b0.size;replace u:=u.below hb6.is;clear hb6 h62)
  |(go_at_call 65;(with_reducible refine (h65 _ b0).mono ?_);rintro e0 w6 ⟨rfl,hb6⟩;replace b0:=zad b0 hb6 b0.size;replace u:=u.below hb6.is;clear hb6)
  |(go_at_call 64;(with_reducible refine (h64 _ b0).mono ?_);rintro e0 w6 ⟨rfl,hb6⟩;replace b0:=zad b0 hb6 b0.size;replace u:=u.below hb6.is;clear hb6)
  |(go_at_call 63;(with_reducible refine (ho _).mono ?_);rintro e0 w6 ⟨rfl,hb6⟩;have b1:=zak b0.is hb6 b0.size;replace u:=u.below hb6;clear hb6)
  |((with_reducible refine zat (k':=v.k) (b':=v.b) (n':=v.n) (t':=v.t) (x':=v.x) (p':=none) (len':=0) (cap':=0) (.tmp 2) (.tmp 13) w.heap.size u ?_ ?_ ?_ ?_ ?_);rfl;rfl;rfl;rfl;intro w5 ho5 u5;have b5:=zag b1 ho5 (Nat.le_refl _) b1.size))
 exact bodyPost_ret (v:=.tuple #[.agg #[.int .i64 v.k,.bool v.b,.int .i64 v.n,.string v.t,.string v.x,.slice none 0 0],.bool true]) (zb3 (p:=2) (q:=3) Tryz.results30 _ _ rfl rfl u5) rfl ⟨rfl,b5⟩
theorem keyNo (g:Nat) (w:World)
 (h62:Calls Tryz.prog 62 #[.pointer (some ⟨g,0,none⟩)] (w.alloc (.cells #[.int .i64 0,.bool false,.int .i64 0,.string ⟨#[]⟩,.string ⟨#[]⟩,.slice none 0 0] 39)) fun e' w'=>e'=.returned (.bool false)∧Low (w.heap.size+1) (w.alloc (.cells #[.int .i64 0,.bool false,.int .i64 0,.string ⟨#[]⟩,.string ⟨#[]⟩,.slice none 0 0] 39)) w'):
 Calls Tryz.prog 30 #[.pointer (some ⟨g,0,none⟩)] w fun e' w'=>e'=.returned (.tuple #[.agg #[.int .i64 0,.bool false,.int .i64 0,.string ⟨#[]⟩,.string ⟨#[]⟩,.slice none 0 0],.bool false])∧Below w.heap.size w w':=by
 obtain ⟨W1,hW1⟩:∃ W1,W1=w.alloc (.cells #[.int .i64 0,.bool false,.int .i64 0,.string ⟨#[]⟩,.string ⟨#[]⟩,.slice none 0 0] 39):=⟨_,rfl⟩
 rw [← hW1] at h62
 have u:Six W1 w.heap.size 0 false 0 ⟨#[]⟩ ⟨#[]⟩ none 0 0:=by rw [hW1];exact zaf _ rfl
 have b0:Low w.heap.size w W1:=by rw [hW1];exact low1 _ _
 have hsz:W1.heap.size=w.heap.size+1:=by rw [hW1];simp
 rw [← hsz] at h62
 have HW:=Lib.hid hW1
 clear hW1 hsz
 go_enter Tryz.func30,Tryz.ntmps30
 go_upto_region 1 with fail
 rw [← HW.out]
 go_wp2_with (first
  |(go_at_call 62;(with_reducible refine h62.mono ?_);rintro e0 w6 ⟨rfl,hb6⟩;replace b0:=zad b0 hb6 b0.size;replace u:=u.below hb6.is;clear hb6 h62)
  |((with_reducible refine zat (k':=0) (b':=false) (n':=0) (t':=⟨#[]⟩) (x':=⟨#[]⟩) (p':=none) (len':=0) (cap':=0) (.tmp 2) (.tmp 7) w.heap.size u ?_ ?_ ?_ ?_ ?_);rfl;rfl;rfl;rfl;intro w5 ho5 u5;have b5:=zbn b0 ho5 (Nat.le_refl _) b0.size))
 exact bodyPost_ret (v:=.tuple #[.agg #[.int .i64 0,.bool false,.int .i64 0,.string ⟨#[]⟩,.string ⟨#[]⟩,.slice none 0 0],.bool false]) (zb3 (p:=2) (q:=3) Tryz.results30 _ _ rfl rfl u5) rfl ⟨rfl,b5.is⟩
def lev:Nat→Nat × Nat × Nat
 | 0=>(0,1,2)
 | 1=>(0,2,1)
 | 2=>(1,0,2)
 | 3=>(1,2,0)
 | 4=>(2,0,1)
 | _=>(2,1,0)
structure zdd (s:SM):Prop where
 v:∀ (i j:Nat) (_:i < j) (h:j < s.vs.length),zan 1 (s.vs[i]'(by omega)) s.vs[j] < 0
 m0:∀ k,k < 6→∀ i j,i≤j→j < (s.ls k).length→s.num k (lev k).1 i≤s.num k (lev k).1 j
 m1:∀ k,k < 6→∀ i j,i≤j→j < (s.ls k).length→s.num k (lev k).1 i=s.num k (lev k).1 j→s.num k (lev k).2.1 i≤s.num k (lev k).2.1 j
 m2:∀ k,k < 6→∀ i j,i≤j→j < (s.ls k).length→s.num k (lev k).1 i=s.num k (lev k).1 j→s.num k (lev k).2.1 i=s.num k (lev k).2.1 j→s.num k (lev k).2.2 i≤s.num k (lev k).2.2 j
structure Fit (s:SM) (k:Nat) (c:CS):Prop where
 d3:c.d≤3
 n:c.n=(s.ls k).length
 l0:c.l0=(lev k).1
 l1:c.l1=(lev k).2.1
 l2:c.l2=(lev k).2.2
 f1:1≤c.d→c.e0=c.n∧c.a0≤c.e0
 f2:2≤c.d→c.a0 < c.e0∧c.e1=gal (s.same k c.l0 c.a0) c.a0 (c.e0 - c.a0)∧c.a0≤c.a1∧c.a1≤c.e1
 f3:3≤c.d→c.a1 < c.e1∧c.e2=gal (s.same k c.l1 c.a1) c.a1 (c.e1 - c.a1)∧c.a1≤c.a2∧c.a2≤c.e2
theorem SM.same_is {s:SM} {k v a j:Nat} (h:s.same k v a j=true):s.num k v j=s.num k v a:=by
 unfold SM.same at h;simpa using h
theorem SM.same_of {s:SM} {k v a j:Nat} (h:s.num k v j=s.num k v a):s.same k v a j=true:=by
 unfold SM.same;simpa using h
section
variable {s:SM} {k:Nat} {c:CS}
theorem CS.pos1 (h:c.d=1):c.pos=c.a0∧c.fin=c.e0∧c.lev=c.l0:=by unfold CS.pos CS.fin CS.lev;rw [h];exact ⟨rfl,rfl,rfl⟩
theorem CS.pos2 (h:c.d=2):c.pos=c.a1∧c.fin=c.e1∧c.lev=c.l1:=by unfold CS.pos CS.fin CS.lev;rw [h];exact ⟨rfl,rfl,rfl⟩
theorem CS.pos3 (h:c.d=3):c.pos=c.a2∧c.fin=c.e2∧c.lev=c.l2:=by unfold CS.pos CS.fin CS.lev;rw [h];exact ⟨rfl,rfl,rfl⟩
theorem Fit.e1 (h:Fit s k c) (h2:2≤c.d):c.e1≤c.n:=by
 have g1:=(h.f1 (by omega)).1
 have g2:=h.f2 h2
 have:=zdc (s.same k c.l0 c.a0) (c.e0 - c.a0) c.a0
 omega
theorem Fit.e2 (h:Fit s k c) (h3:3≤c.d):c.e2≤c.e1:=by
 have g3:=h.f3 h3
 have:=zdc (s.same k c.l1 c.a1) (c.e1 - c.a1) c.a1
 omega
theorem Fit.in_ (h:Fit s k c) (h1:1≤c.d):c.pos≤c.fin∧c.fin≤c.n:=by
 have hd:=h.d3
 have g1:=h.f1 h1
 obtain e | e | e:c.d=1∨c.d=2∨c.d=3:=by omega
 ·obtain ⟨p,f,_⟩:=CS.pos1 e
  rw [p,f];omega
 ·obtain ⟨p,f,_⟩:=CS.pos2 e
  have:=h.e1 (by omega)
  have:=h.f2 (by omega)
  rw [p,f];omega
 ·obtain ⟨p,f,_⟩:=CS.pos3 e
  have:=h.e1 (by omega)
  have:=h.e2 (by omega)
  have:=h.f3 (by omega)
  rw [p,f];omega
theorem Fit.rise (h:Fit s k c) (so:zdd s) (hk:k < 6) (h1:1≤c.d) (i j:Nat) (hi:c.pos≤i) (hij:i≤j) (hj:j < c.fin):s.num k c.lev i≤s.num k c.lev j:=by
 have hd:=h.d3
 have hn:=h.n
 have g1:=h.f1 h1
 obtain e | e | e:c.d=1∨c.d=2∨c.d=3:=by omega
 ·obtain ⟨p,f,l⟩:=CS.pos1 e
  rw [l,h.l0]
  rw [f] at hj
  exact so.m0 k hk i j hij (by omega)
 ·obtain ⟨p,f,l⟩:=CS.pos2 e
  have q2:=h.f2 (by omega)
  have:=h.e1 (by omega)
  rw [f] at hj
  rw [p] at hi
  have s1:=SM.same_is (zct (s.same k c.l0 c.a0) (c.e0 - c.a0) c.a0 i (by omega) (by omega))
  have s2:=SM.same_is (zct (s.same k c.l0 c.a0) (c.e0 - c.a0) c.a0 j (by omega) (by omega))
  rw [h.l0] at s1 s2
  rw [l,h.l1]
  exact so.m1 k hk i j hij (by omega) (s1.trans s2.symm)
 ·obtain ⟨p,f,l⟩:=CS.pos3 e
  have q2:=h.f2 (by omega)
  have q3:=h.f3 (by omega)
  have:=h.e1 (by omega)
  have:=h.e2 (by omega)
  rw [f] at hj
  rw [p] at hi
  have s1:=SM.same_is (zct (s.same k c.l0 c.a0) (c.e0 - c.a0) c.a0 i (by omega) (by omega))
  have s2:=SM.same_is (zct (s.same k c.l0 c.a0) (c.e0 - c.a0) c.a0 j (by omega) (by omega))
  have s3:=SM.same_is (zct (s.same k c.l1 c.a1) (c.e1 - c.a1) c.a1 i (by omega) (by omega))
  have s4:=SM.same_is (zct (s.same k c.l1 c.a1) (c.e1 - c.a1) c.a1 j (by omega) (by omega))
  rw [h.l0] at s1 s2
  rw [h.l1] at s3 s4
  rw [l,h.l2]
  exact so.m2 k hk i j hij (by omega) (s1.trans s2.symm) (s3.trans s4.symm)
theorem Fit.up (h:Fit s k c):Fit s k c.up:=
 ⟨Nat.le_trans (Nat.sub_le _ _) h.d3,h.n,h.l0,h.l1,h.l2,fun q=>h.f1 (Nat.le_trans q (Nat.sub_le _ _)),fun q=>h.f2 (Nat.le_trans q (Nat.sub_le _ _)),fun q=>h.f3 (Nat.le_trans q (Nat.sub_le _ _))⟩
theorem Fit.go (h:Fit s k c) (h1:1≤c.d) (x:Nat) (hx:c.pos≤x) (hf:x≤c.fin):Fit s k (c.go x):=by
 have hd:=h.d3
 obtain ⟨sp,pl,n,cl,l0,l1,l2,a0,e0,a1,e1,a2,e2,d⟩:=c
 obtain ⟨_,hn,m0,m1,m2,f1,f2,f3⟩:=h
 simp only at hd h1 hn m0 m1 m2 f1 f2 f3
 obtain rfl | rfl | rfl:d=1∨d=2∨d=3:=by omega
 ·have hx':a0≤x:=hx
  have hf':x≤e0:=hf
  exact ⟨hd,hn,m0,m1,m2,fun _=>⟨(f1 (by omega)).1,hf'⟩,fun q=>absurd q (by show ¬ 2≤1;omega),fun q=>absurd q (by show ¬ 3≤1;omega)⟩
 ·have hx':a1≤x:=hx
  have hf':x≤e1:=hf
  have:=f2 (by omega)
  exact ⟨hd,hn,m0,m1,m2,fun _=>f1 (by omega),fun _=>⟨this.1,this.2.1,by show a0≤x;omega,hf'⟩,fun q=>absurd q (by show ¬ 3≤2;omega)⟩
 ·have hx':a2≤x:=hx
  have hf':x≤e2:=hf
  have:=f3 (by omega)
  exact ⟨hd,hn,m0,m1,m2,fun _=>f1 (by omega),fun _=>f2 (by omega),fun _=>⟨this.1,this.2.1,by show a1≤x;omega,hf'⟩⟩
def CS.on (c:CS):Bool:=decide (1≤c.d) && decide (c.pos < c.fin)
theorem CS.on_is (h:c.on=true):1≤c.d∧c.pos < c.fin:=by
 unfold CS.on at h;simpa using h
theorem CS.on_of (h1:1≤c.d) (h2:c.pos < c.fin):c.on=true:=by
 unfold CS.on;simp [h1,h2]
def CS.next (c:CS) (s:SM) (k:Nat):CS:=if c.on then c.go (c.bot s k) else c
def CS.ahead (c:CS) (s:SM) (k:Nat) (u:Val):Nat:=gal (s.less u k c.lev) c.pos (c.fin - c.pos)
def CS.seek (c:CS) (s:SM) (k:Nat) (u:Val):CS:=if c.on then c.go (c.ahead s k u) else c
def CS.lo (c:CS):Nat:=if c.d=0 then 0 else c.pos
def CS.hi (c:CS) (s:SM) (k:Nat):Nat:=if c.d=0 then c.n else c.bot s k
def CS.opens (c:CS) (s:SM) (k:Nat):Bool:=decide (c.d < 3) && decide (c.lo < c.hi s k)
def CS.opn (c:CS) (s:SM) (k:Nat):CS:=if c.opens s k then c.down c.lo (c.hi s k) else c
theorem CS.bot_in (c:CS) (s:SM) (k:Nat) (h:c.pos≤c.fin):c.pos≤c.bot s k∧c.bot s k≤c.fin:=by
 have g1:=zh0 (s.same k c.lev c.pos) (c.fin - c.pos) c.pos
 have g2:=zdc (s.same k c.lev c.pos) (c.fin - c.pos) c.pos
 unfold CS.bot
 omega
theorem CS.ahead_in (c:CS) (s:SM) (k:Nat) (u:Val) (h:c.pos≤c.fin):c.pos≤c.ahead s k u∧c.ahead s k u≤c.fin:=by
 have g1:=zh0 (s.less u k c.lev) (c.fin - c.pos) c.pos
 have g2:=zdc (s.less u k c.lev) (c.fin - c.pos) c.pos
 unfold CS.ahead
 omega
theorem Fit.next (h:Fit s k c):Fit s k (c.next s k):=by
 unfold CS.next
 split
 ·rename_i q
  obtain ⟨q1,q2⟩:=CS.on_is q
  obtain ⟨b1,b2⟩:=c.bot_in s k (by omega)
  exact h.go q1 _ b1 b2
 ·exact h
theorem Fit.seek (h:Fit s k c) (u:Val):Fit s k (c.seek s k u):=by
 unfold CS.seek
 split
 ·rename_i q
  obtain ⟨q1,q2⟩:=CS.on_is q
  obtain ⟨b1,b2⟩:=c.ahead_in s k u (by omega)
  exact h.go q1 _ b1 b2
 ·exact h
theorem Fit.opn (h:Fit s k c):Fit s k (c.opn s k):=by
 unfold CS.opn
 split
 ·rename_i q
  have q':c.d < 3∧c.lo < c.hi s k:=by unfold CS.opens at q;simpa using q
  obtain ⟨q1,q2⟩:=q'
  have hf:=h.f1
  have hf2:=h.f2
  obtain ⟨sp,pl,n,cl,l0,l1,l2,a0,e0,a1,e1,a2,e2,d⟩:=c
  obtain ⟨_,hn,m0,m1,m2,f1,f2,f3⟩:=h
  simp only at q1 hn m0 m1 m2 f1 f2 f3
  obtain rfl | rfl | rfl:d=0∨d=1∨d=2:=by omega
  ·exact ⟨by show 1≤3;omega,hn,m0,m1,m2,fun _=>⟨rfl,Nat.zero_le _⟩,fun q=>absurd q (by show ¬ 2≤1;omega),fun q=>absurd q (by show ¬ 3≤1;omega)⟩
  ·have z:=f1 (by omega)
   have g2:=zdc (s.same k l0 a0) (e0 - a0) a0
   have q3:a0 < gal (s.same k l0 a0) a0 (e0 - a0):=q2
   exact ⟨by show 2≤3;omega,hn,m0,m1,m2,fun _=>z,fun _=>⟨by show a0 < e0;omega,rfl,Nat.le_refl _,Nat.le_of_lt q3⟩,fun q=>absurd q (by show ¬ 3≤2;omega)⟩
  ·have z:=f2 (by omega)
   have g2:=zdc (s.same k l1 a1) (e1 - a1) a1
   have q3:a1 < gal (s.same k l1 a1) a1 (e1 - a1):=q2
   exact ⟨by show 3≤3;omega,hn,m0,m1,m2,fun _=>f1 (by omega),fun _=>z,fun _=>⟨by show a1 < e1;omega,rfl,Nat.le_refl _,Nat.le_of_lt q3⟩⟩
 ·exact h
theorem Fit.same_mono (h:Fit s k c) (so:zdd s) (hk:k < 6) (h1:1≤c.d):∀ i j,c.pos≤i→i≤j→j < c.fin→s.same k c.lev c.pos j=true→s.same k c.lev c.pos i=true:=fun i j hi hij hj q=>by
 have e:=SM.same_is q
 have r1:=h.rise so hk h1 c.pos i (Nat.le_refl _) hi (by omega)
 have r2:=h.rise so hk h1 i j hi hij hj
 exact SM.same_of (by omega)
theorem Fit.less_mono (h:Fit s k c) (ok:SMok s) (so:zdd s) (hk:k < 6) (h1:1≤c.d) (u:Val):∀ i j,c.pos≤i→i≤j→j < c.fin→s.less u k c.lev j=true→s.less u k c.lev i=true:=fun i j hi hij hj q=>by
 have hn:=h.n
 have hin:=(h.in_ h1).2
 have r2:=h.rise so hk h1 i j hi hij hj
 have li:=s.num_lt ok k c.lev i (by omega)
 have lj:=s.num_lt ok k c.lev j (by omega)
 unfold SM.less at q ⊢
 rw [List.getElem?_eq_getElem li,Option.getD_some]
 rw [List.getElem?_eq_getElem lj,Option.getD_some] at q
 refine decide_eq_true ?_
 have q':=of_decide_eq_true q
 by_cases e:s.num k c.lev i=s.num k c.lev j
 ·have:s.vs[s.num k c.lev i]=s.vs[s.num k c.lev j]:=by congr 1
  rw [this];exact q'
 ·exact (zb6 1 _ _ _).lt (so.v _ _ (by omega) lj) (Int.le_of_lt q')
end
structure zbj (W0:World) (s:SM) (W:World) (g:Nat) (c:CS) (k:Nat):Prop where
 at_:At W0 s W g c k
 fit:Fit s k c
 ok:SMok s
 so:zdd s
 hk:k < 6
section
variable {W0 W:World} {s:SM} {g k:Nat} {c:CS}
theorem zbj.low {W':World} (h:zbj W0 s W g c k) (b:Low W.heap.size W W'):zbj W0 s W' g c k:=⟨h.at_.low b,h.fit,h.ok,h.so,h.hk⟩
theorem zbj.bel {W':World} (h:zbj W0 s W g c k) (b:Below W.heap.size W W'):zbj W0 s W' g c k:=⟨h.at_.bel b,h.fit,h.ok,h.so,h.hk⟩
theorem zbj.off (h:zbj W0 s W g c k) (q:c.on=false):∀ W',Low W.heap.size W W'→Calls Tryz.prog 62 #[.pointer (some ⟨g,0,none⟩)] W' fun e w'=>e=.returned (.bool false)∧Low W'.heap.size W' w':=fun W' b=>by
 have:=zm4 (h.at_.low b) h.fit.d3
 rwa [show (decide (1≤c.d) && decide (c.pos < c.fin))=false from q] at this
theorem zbj.onC (h:zbj W0 s W g c k) (q:c.on=true):∀ W',Low W.heap.size W W'→Calls Tryz.prog 62 #[.pointer (some ⟨g,0,none⟩)] W' fun e w'=>e=.returned (.bool true)∧Low W'.heap.size W' w':=fun W' b=>by
 have:=zm4 (h.at_.low b) h.fit.d3
 rwa [show (decide (1≤c.d) && decide (c.pos < c.fin))=true from q] at this
theorem passC (h:zbj W0 s W g c k) (q:c.on=true) (fn:Nat) (b0:Value) (eg:∀ args w,(callFunc fn args).run Tryz.prog w=.ok (.enter fn args) w) (p:Nat→Bool)
 (mono:∀ i j,c.pos≤i→i≤j→j < c.fin→p j=true→p i=true)
 (hf:∀ W',Low W.heap.size W W'→∀ j:Nat,c.pos≤j→j < c.fin→Calls Tryz.prog fn #[b0,.int .i64 j] W' fun x w'=>x=.returned (.bool (p j))∧Low W'.heap.size W' w'):
 Calls Tryz.prog 58 #[.pointer (some ⟨g,0,none⟩),.func (.func fn) #[b0] #[]] W fun e w'=>e=.returned (.bool (c.go (gal p c.pos (c.fin - c.pos))).on)∧Only g W w'∧Cur w' g (c.go (gal p c.pos (c.fin - c.pos))):=by
 obtain ⟨h1,hpf⟩:=CS.on_is q
 have hd:=h.fit.d3
 have hin:=h.fit.in_ h1
 have hnl:=h.ok.nl k
 have hn:=h.fit.n
 have g1:=zh0 p (c.fin - c.pos) c.pos
 have g2:=zdc p (c.fin - c.pos) c.pos
 have H1:=h.onC q W (Low.refl _ _)
 have H2:=fun W' (b:Low W.heap.size W W')=>zu2 (h.at_.low b) h1 hd
 have H3:=fun W' (b:Low W.heap.size W W')=>zre fn b0 eg c.pos c.fin p W' (by omega) mono (fun W2 b2=>hf W2 (zad b b2 b.size))
 have H4:∀ W',Only g W W'→Cur W' g (c.go (gal p c.pos (c.fin - c.pos)))→Calls Tryz.prog 62 #[.pointer (some ⟨g,0,none⟩)] W' fun e w'=>e=.returned (.bool (c.go (gal p c.pos (c.fin - c.pos))).on)∧Low W'.heap.size W' w':=
  fun W' b B=>zm4 (h.at_.only (c.go_alike _) b B) (by rw [CS.go_d];exact hd)
 have B:=h.at_.B
 generalize gal p c.pos (c.fin - c.pos)=r at*
 clear hf mono h q
 obtain ⟨sp,pl,n,cl,l0,l1,l2,a0,e0,a1,e1,a2,e2,d⟩:=c
 simp only at h1 hd
 obtain rfl | rfl | rfl:d=1∨d=2∨d=3:=by omega
 ·exact passGo1 g _ a0 e0 r _ _ _ W B rfl rfl rfl rfl H1 H2 H3 H4
 ·exact passGo2 g _ a1 e1 r _ _ _ W B rfl rfl rfl rfl H1 H2 H3 H4
 ·exact passGo3 g _ a2 e2 r _ _ _ W B rfl rfl rfl rfl H1 H2 H3 H4
theorem nextC (h:zbj W0 s W g c k):Calls Tryz.prog 26 #[.pointer (some ⟨g,0,none⟩)] W fun e w'=>e=.returned (.bool (c.next s k).on)∧Only g W w'∧Cur w' g (c.next s k):=by
 have hc:Calls Tryz.prog 58 #[.pointer (some ⟨g,0,none⟩),.func (.func 59) #[.pointer (some ⟨g,0,none⟩)] #[]] W fun e w'=>e=.returned (.bool (c.next s k).on)∧Only g W w'∧Cur w' g (c.next s k):=by
  cases q:c.on with
  | false=>
    have e:c.next s k=c:=by unfold CS.next;rw [if_neg (by rw [q];exact Bool.false_ne_true)]
    rw [e,q]
    exact (zyd (h.off q W (Low.refl _ _))).mono fun e w' hh=>⟨hh.1,Only.of_low hh.2,h.at_.B.low hh.2⟩
  | true=>
    have e:c.next s k=c.go (c.bot s k):=by unfold CS.next;rw [if_pos q]
    rw [e]
    obtain ⟨h1,hpf⟩:=CS.on_is q
    have hin:=h.fit.in_ h1
    exact passC h q 59 _ eg59 (s.same k c.lev c.pos) (h.fit.same_mono h.so h.hk h1) (fun W' b j hj hj2=>zyb (h.at_.low b) h.ok h1 h.fit.d3 j (by omega) (by omega))
 have HC:=Lib.hid hc
 clear hc h
 go_enter Tryz.func26,Tryz.ntmps26
 go_wp2_with (go_at_call 58;(with_reducible refine HC.out.mono ?_);rintro e w3 ⟨rfl,hb3⟩)
 go_ret
 exact ⟨rfl,hb3⟩
end
theorem seekRaw (g:Nat) (u:V6) (w:World) (r:Bool) (Q:World→Prop)
 (hc:∀ W,Low w.heap.size w W→Calls Tryz.prog 58 #[.pointer (some ⟨g,0,none⟩),.func (.func 61) #[.agg #[.pointer (some ⟨g,0,none⟩),.int .i64 u.k,.bool u.b,.int .i64 u.n,.string u.t,.string u.x,.slice u.p u.len u.cap]] #[]] W fun e w'=>e=.returned (.bool r)∧Q w'):
 Calls Tryz.prog 28 #[.pointer (some ⟨g,0,none⟩),.agg #[.int .i64 u.k,.bool u.b,.int .i64 u.n,.string u.t,.string u.x,.slice u.p u.len u.cap]] w fun e w'=>e=.returned (.bool r)∧Q w':=by
 obtain ⟨W1,hW1⟩:∃ W1,W1=w.alloc (.cells #[.int .i64 u.k,.bool u.b,.int .i64 u.n,.string u.t,.string u.x,.slice u.p u.len u.cap] 39):=⟨_,rfl⟩
 have S1:Six W1 w.heap.size u.k u.b u.n u.t u.x u.p u.len u.cap:=by rw [hW1];exact zaf _ rfl
 have b0:Low w.heap.size w W1:=by rw [hW1];exact low1 _ _
 have HW:=Lib.hid hW1
 clear hW1
 go_enter Tryz.func28,Tryz.ntmps28
 go_upto_region 1 with fail
 rw [← HW.out]
 go_wp2_with (first
  |((with_reducible refine zaa (.tmp 3) w.heap.size S1 ?_ ?_ ?_ ?_);rfl;rfl;rfl)
  |(go_at_call 58;(with_reducible refine (hc _ b0).mono ?_);rintro e w3 ⟨rfl,hb3⟩))
 go_ret
 exact ⟨rfl,hb3⟩
section
variable {W0 W:World} {s:SM} {g k:Nat} {c:CS}
theorem seekC (h:zbj W0 s W g c k) (hG:Gd W) (hT:Tab W) (u:V6) (uv:Val) (q:List Val) (hu:Is W u uv q):
 Calls Tryz.prog 28 #[.pointer (some ⟨g,0,none⟩),.agg #[.int .i64 u.k,.bool u.b,.int .i64 u.n,.string u.t,.string u.x,.slice u.p u.len u.cap]] W fun e w'=>e=.returned (.bool (c.seek s k uv).on)∧Only g W w'∧Cur w' g (c.seek s k uv):=by
 refine seekRaw g u W _ _ (fun W' b=>?_)
 have h':=h.low b
 cases q1:c.on with
 | false=>
   have e:c.seek s k uv=c:=by unfold CS.seek;rw [if_neg (by rw [q1];exact Bool.false_ne_true)]
   rw [e,q1]
   exact (zyd (h'.off q1 W' (Low.refl _ _))).mono fun e w' hh=>⟨hh.1,Only.of_low (zad b hh.2 b.size),h'.at_.B.low hh.2⟩
 | true=>
   have e:c.seek s k uv=c.go (c.ahead s k uv):=by unfold CS.seek;rw [if_pos q1]
   rw [e]
   obtain ⟨h1,hpf⟩:=CS.on_is q1
   have hin:=h.fit.in_ h1
   exact (passC h' q1 61 _ eg61 (s.less uv k c.lev) (h.fit.less_mono h.ok h.so h.hk h1 uv) (fun W2 b2 j hj hj2=>aheadC (h'.at_.low b2) h.ok (hG.below (zad b b2 b.size).is) (hT.below (zad b b2 b.size).is) h1 h.fit.d3 u uv q (hu.below (zad b b2 b.size).is) j (by omega))).mono
    fun e w' hh=>⟨hh.1,(Only.of_low b).trans hh.2.1,hh.2.2⟩
theorem zbj.below (h:zbj W0 s W g c k):Calls Tryz.prog 55 #[.pointer (some ⟨g,0,none⟩)] W fun e w'=>e=.returned (.agg #[.int .i64 c.lo,.int .i64 (c.hi s k)])∧Low W.heap.size W w':=by
 by_cases h0:c.d=0
 ·unfold CS.lo CS.hi
  rw [if_pos h0,if_pos h0]
  exact zw2 h.at_.B h0
 ·unfold CS.lo CS.hi
  rw [if_neg h0,if_neg h0]
  exact belowC h.at_ h.ok (by omega) h.fit.d3 (h.fit.in_ (by omega)).2 (h.fit.same_mono h.so h.hk (by omega))
theorem openC (h:zbj W0 s W g c k):Calls Tryz.prog 22 #[.pointer (some ⟨g,0,none⟩)] W fun e w'=>e=.returned (.bool (c.opens s k))∧Only g W w'∧Cur w' g (c.opn s k):=by
 have hd:=h.fit.d3
 have B:=h.at_.B
 by_cases e3:c.d=3
 ·have e:c.opens s k=false:=by unfold CS.opens;rw [decide_eq_false (by omega),Bool.false_and]
  have e2:c.opn s k=c:=by unfold CS.opn;rw [if_neg (by rw [e];exact Bool.false_ne_true)]
  rw [e,e2]
  have c11:=B.c11
  rw [e3] at c11
  exact (zw3 g W c11).mono fun e w' hh=>⟨hh.1,Only.of_low hh.2,B.low hh.2⟩
 ·by_cases hlt:c.lo < c.hi s k
  ·have e:c.opens s k=true:=by unfold CS.opens;rw [decide_eq_true (by omega),decide_eq_true hlt];rfl
   have e2:c.opn s k=c.down c.lo (c.hi s k):=by unfold CS.opn;rw [if_pos e]
   rw [e,e2]
   have hb:=h.below
   generalize c.hi s k=hi at*
   generalize hlo:c.lo=lo at*
   clear h hlo
   obtain ⟨sp,pl,n,cl,l0,l1,l2,a0,e0,a1,e1,a2,e2,d⟩:=c
   simp only at hd e3
   obtain rfl | rfl | rfl:d=0∨d=1∨d=2:=by omega
   ·exact openGo0 g lo hi _ _ W hlt B rfl ⟨_,rfl⟩ ⟨_,rfl⟩ rfl rfl hb
   ·exact openGo1 g lo hi _ _ W hlt B rfl ⟨_,rfl⟩ ⟨_,rfl⟩ rfl rfl hb
   ·exact openGo2 g lo hi _ _ W hlt B rfl ⟨_,rfl⟩ ⟨_,rfl⟩ rfl rfl hb
  ·have e:c.opens s k=false:=by unfold CS.opens;rw [decide_eq_false hlt,Bool.and_false]
   have e2:c.opn s k=c:=by unfold CS.opn;rw [if_neg (by rw [e];exact Bool.false_ne_true)]
   rw [e,e2]
   exact (openNo g c.lo (c.hi s k) c.d W hlt B.c11 (by simp;omega) h.below).mono fun e w' hh=>⟨hh.1,Only.of_low hh.2,B.low hh.2⟩
def CS.val (c:CS) (s:SM) (k:Nat):Val:=(s.vs[s.num k c.lev c.pos]?).getD (.mk 0 false 0 ⟨#[]⟩ ⟨#[]⟩ [])
theorem keyC (h:zbj W0 s W g c k) (q:c.on=true):Calls Tryz.prog 30 #[.pointer (some ⟨g,0,none⟩)] W fun e w'=>
 (∃ kk b n t x l,c.val s k=.mk kk b n t x l∧Fine n t x l.length∧e=.returned (.tuple #[.agg #[.int .i64 kk,.bool b,.int .i64 n,.string t,.string x,.slice none 0 0],.bool true]))∧Below W.heap.size W w':=by
 obtain ⟨h1,hpf⟩:=CS.on_is q
 have hin:=h.fit.in_ h1
 have hn:=h.fit.n
 have hm:=s.num_lt h.ok k c.lev c.pos (by omega)
 obtain ⟨v,l,i1,hv⟩:=zyc h.at_ h.ok h1 h.fit.d3 c.pos (by omega)
 have hval:c.val s k=s.vs[s.num k c.lev c.pos]:=by unfold CS.val;rw [List.getElem?_eq_getElem hm,Option.getD_some]
 have hz:(W.alloc (.cells #[.int .i64 0,.bool false,.int .i64 0,.string ⟨#[]⟩,.string ⟨#[]⟩,.slice none 0 0] 39)).heap.size=W.heap.size+1:=by simp
 have h62:=h.onC q _ (low1 W (.cells #[.int .i64 0,.bool false,.int .i64 0,.string ⟨#[]⟩,.string ⟨#[]⟩,.slice none 0 0] 39))
 rw [hz] at h62
 refine (keyGo g c.pos c.fin v W (by have:=i1.hf.ht;omega) (by have:=i1.hf.hx;omega) h62 (fun W' b=>zu2 (h.at_.low b) h1 h.fit.d3) (fun W' b=>hv W' b)).mono ?_
 rintro e w' ⟨rfl,hb⟩
 exact ⟨⟨v.k,v.b,v.n,v.t,v.x,l,by rw [hval];exact i1.e,i1.hf,rfl⟩,hb⟩
theorem keyOff (h:zbj W0 s W g c k) (q:c.on=false):Calls Tryz.prog 30 #[.pointer (some ⟨g,0,none⟩)] W fun e w'=>e=.returned (.tuple #[.agg #[.int .i64 0,.bool false,.int .i64 0,.string ⟨#[]⟩,.string ⟨#[]⟩,.slice none 0 0],.bool false])∧Below W.heap.size W w':=by
 have hz:(W.alloc (.cells #[.int .i64 0,.bool false,.int .i64 0,.string ⟨#[]⟩,.string ⟨#[]⟩,.slice none 0 0] 39)).heap.size=W.heap.size+1:=by simp
 have h62:=h.off q _ (low1 W (.cells #[.int .i64 0,.bool false,.int .i64 0,.string ⟨#[]⟩,.string ⟨#[]⟩,.slice none 0 0] 39))
 rw [hz] at h62
 exact keyNo g W h62
end
end Go.Proofs.YtanbgdhmfjgihaaGreatDoor
