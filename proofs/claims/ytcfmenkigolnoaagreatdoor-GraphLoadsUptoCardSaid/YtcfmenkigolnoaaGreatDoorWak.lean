/- Texts of one kind, one behind the other: each says ahead of itself what it shows. -/
import Derived.Test.YtcfmenkigolnoaaGreatDoorWaj
import Derived.Test.YtcfmenkigolnoaaGreatDoorWaf
import Derived.Deep.QuietTactic
import Derived.Deep.DeepCutAuto
import Derived.WideKeyEntry
import Derived.DeepKeys4
import Derived.Maps.Range
/- GW -/
namespace Go.Proofs.YtcfmenkigolnoaaGreatDoor
open Go.RowKit
def idsN (g:zau):List Int:=g.nodes.map zap.id
def idsE (g:zau):List Int:=g.edges.map zat.id
def zfo (ids:List Int) (e:zat):Bool:=(decide (e.src∈ids) && decide (e.dst∈ids)) && zsq e
def zdt (g:zau):Bool:=(((((decide (g.nodes.length≤131072) && decide (g.edges.length≤65536)) && decide (idsN g).Nodup) && decide (idsE g).Nodup) && g.nodes.all ze9) && g.edges.all (zfo (idsN g)))
set_option maxHeartbeats 3200000 in
set_option maxRecDepth 20000 in
theorem zst (a:zap) (W:World) (c:List Value) (hG:Gd W) (h:za4.rel W (Old W) c a):Calls Tryz.prog 73 #[.agg c.toArray] W fun e w'=>e=.returned (.bool (ze9 a))∧Below W.heap.size W w':=by
 obtain ⟨r1,hr1⟩:∃ r,r=zcv a.labels:=⟨_,rfl⟩
 obtain ⟨r2,hr2⟩:∃ r,r=zb9 a.props:=⟨_,rfl⟩
 have e:ze9 a=((decide (0≤a.id) && r1) && r2):=by rw [hr1,hr2];rfl
 rw [e]
 obtain ⟨id,ls,ps⟩:=a
 obtain ⟨lv,pv,rfl,hid,hn1,hn2,hl,hp⟩:=h
 have hword:∀ W',Below W.heap.size W W'→Calls Tryz.prog 99 #[lv] W' fun e w'=>e=.returned (.bool r1)∧Below W'.heap.size W' w':=fun W' hb=>by
  rw [hr1]
  exact zsr ls lv W' (hl.stays (zad hb)) hn1
 have hprop:∀ W',Below W.heap.size W W'→Calls Tryz.prog 100 #[pv] W' fun e w'=>e=.returned (.bool r2)∧Below W'.heap.size W' w':=fun W' hb=>by
  rw [hr2]
  exact zss ps pv W' (hG.below hb) (hp.stays (zad hb)) hn2
 obtain ⟨p2,cap2,rfl⟩:=hp.slice
 obtain ⟨p1,cap1,rfl⟩:=hl.slice
 have u1:(W.alloc (.cells #[.int .i64 id,.slice p1 ls.length cap1,.slice p2 ps.length cap2] 38)).heap[W.heap.size]?=some (.cells #[.int .i64 id,.slice p1 ls.length cap1,.slice p2 ps.length cap2] 38 (0,0)):=zae _ _ rfl
 have b0:=zas W (.cells #[.int .i64 id,.slice p1 ls.length cap1,.slice p2 ps.length cap2] 38)
 obtain ⟨W0,hW0⟩:∃ W0,W0=W.alloc (.cells #[.int .i64 id,.slice p1 ls.length cap1,.slice p2 ps.length cap2] 38):=⟨_,rfl⟩
 rw [← hW0] at u1 b0
 have H0:=Lib.hid hW0
 have HA:=Lib.hid hword
 have HB:=Lib.hid hprop
 have c0:=zac u1 0 rfl
 have c1:=zac u1 1 rfl
 show Calls Tryz.prog 73 #[.agg #[.int .i64 id,.slice p1 ls.length cap1,.slice p2 ps.length cap2]] W fun e w'=>e=.returned (.bool ((decide (0≤id) && r1) && r2))∧Below W.heap.size W w'
 clear hword hprop hr1 hr2 e hp hW0 hG hl hn1 hn2 hid
 by_cases h1:0≤id
 ·cases r1 with
  | true=>
    go_enter Tryz.func73,Tryz.ntmps73
    go_upto_region 1 with fail
    rw [← H0.out]
    go_wp2_with (first
     |(go_at_call 99;(with_reducible refine (HA.out _ b0).mono ?_);rintro e w1 ⟨rfl,hb1⟩;have u2:=(hb1.block _ (zaa u1)).trans u1;have c2:=zac u2 2 rfl;have b1:=zab b0 hb1 b0.size)
     |(go_at_call 100;(with_reducible refine (HB.out _ b1).mono ?_);rintro e w2 ⟨rfl,hb2⟩))
    go_ret
    exact ⟨by simp [h1],zab b1 hb2 b1.size⟩
  | false=>
    go_enter Tryz.func73,Tryz.ntmps73
    go_upto_region 1 with fail
    rw [← H0.out]
    go_wp2_with (first
     |(go_at_call 99;(with_reducible refine (HA.out _ b0).mono ?_);rintro e w1 ⟨rfl,hb1⟩;have b1:=zab b0 hb1 b0.size))
    go_ret
    exact ⟨by simp,b1⟩
 ·go_enter Tryz.func73,Tryz.ntmps73
  go_upto_region 1 with fail
  rw [← H0.out]
  go_wp2_with fail
  go_ret
  refine ⟨?_,b0⟩
  rw [show decide (0≤id)=false from decide_eq_false (by omega)]
  rfl
set_option maxHeartbeats 3200000 in
set_option maxRecDepth 20000 in
theorem zsu (a:zat) (W:World) (c:List Value) (hG:Gd W) (h:zaz.rel W (Old W) c a):Calls Tryz.prog 77 #[.agg c.toArray] W fun e w'=>e=.returned (.bool (zsq a))∧Below W.heap.size W w':=by
 obtain ⟨r1,hr1⟩:∃ r,r=zci a.type:=⟨_,rfl⟩
 obtain ⟨r2,hr2⟩:∃ r,r=zb9 a.props:=⟨_,rfl⟩
 have e:zsq a=((decide (0≤a.id) && r1) && r2):=by rw [hr1,hr2];rfl
 rw [e]
 obtain ⟨id,src,dst,ty,ps⟩:=a
 obtain ⟨pv,rfl,hid,hn1,hn2,hp⟩:=h
 have hword:∀ W',Below W.heap.size W W'→Calls Tryz.prog 102 #[.string ty] W' fun e w'=>e=.returned (.bool r1)∧Below W'.heap.size W' w':=fun W' _=>by
  rw [hr1]
  refine (zo3 ty W' hn1).mono ?_
  rintro e w' ⟨rfl,rfl⟩
  exact ⟨rfl,Below.refl _ _⟩
 have hprop:∀ W',Below W.heap.size W W'→Calls Tryz.prog 100 #[pv] W' fun e w'=>e=.returned (.bool r2)∧Below W'.heap.size W' w':=fun W' hb=>by
  rw [hr2]
  exact zss ps pv W' (hG.below hb) (hp.stays (zad hb)) hn2
 obtain ⟨p2,cap2,rfl⟩:=hp.slice
 have u1:(W.alloc (.cells #[.int .i64 id,.int .i64 src,.int .i64 dst,.string ty,.slice p2 ps.length cap2] 41)).heap[W.heap.size]?=some (.cells #[.int .i64 id,.int .i64 src,.int .i64 dst,.string ty,.slice p2 ps.length cap2] 41 (0,0)):=zae _ _ rfl
 have b0:=zas W (.cells #[.int .i64 id,.int .i64 src,.int .i64 dst,.string ty,.slice p2 ps.length cap2] 41)
 obtain ⟨W0,hW0⟩:∃ W0,W0=W.alloc (.cells #[.int .i64 id,.int .i64 src,.int .i64 dst,.string ty,.slice p2 ps.length cap2] 41):=⟨_,rfl⟩
 rw [← hW0] at u1 b0
 have H0:=Lib.hid hW0
 have HA:=Lib.hid hword
 have HB:=Lib.hid hprop
 have c0:=zac u1 0 rfl
 have c1:=zac u1 3 rfl
 show Calls Tryz.prog 77 #[.agg #[.int .i64 id,.int .i64 src,.int .i64 dst,.string ty,.slice p2 ps.length cap2]] W fun e w'=>e=.returned (.bool ((decide (0≤id) && r1) && r2))∧Below W.heap.size W w'
 clear hword hprop hr1 hr2 e hp hW0 hG hn1 hn2 hid
 by_cases h1:0≤id
 ·cases r1 with
  | true=>
    go_enter Tryz.func77,Tryz.ntmps77
    go_upto_region 1 with fail
    rw [← H0.out]
    go_wp2_with (first
     |(go_at_call 102;(with_reducible refine (HA.out _ b0).mono ?_);rintro e w1 ⟨rfl,hb1⟩;have u2:=(hb1.block _ (zaa u1)).trans u1;have c2:=zac u2 4 rfl;have b1:=zab b0 hb1 b0.size)
     |(go_at_call 100;(with_reducible refine (HB.out _ b1).mono ?_);rintro e w2 ⟨rfl,hb2⟩))
    go_ret
    exact ⟨by simp [h1],zab b1 hb2 b1.size⟩
  | false=>
    go_enter Tryz.func77,Tryz.ntmps77
    go_upto_region 1 with fail
    rw [← H0.out]
    go_wp2_with (first
     |(go_at_call 102;(with_reducible refine (HA.out _ b0).mono ?_);rintro e w1 ⟨rfl,hb1⟩;have b1:=zab b0 hb1 b0.size))
    go_ret
    exact ⟨by simp,b1⟩
 ·go_enter Tryz.func77,Tryz.ntmps77
  go_upto_region 1 with fail
  rw [← H0.out]
  go_wp2_with fail
  go_ret
  refine ⟨?_,b0⟩
  rw [show decide (0≤id)=false from decide_eq_false (by omega)]
  rfl
set_option maxHeartbeats 3200000 in
set_option maxRecDepth 20000 in
theorem idNAt (a:zap) (W:World) (c:List Value) (h:za4.rel W (Old W) c a):Calls Tryz.prog 67 #[.agg c.toArray] W (zb6 intE a.id W):=by
 obtain ⟨id,ls,ps⟩:=a
 obtain ⟨lv,pv,rfl,hid,_,_,_,_⟩:=h
 have c0:(W.alloc (.cells #[.int .i64 id,lv,pv] 38)).cell? ⟨W.heap.size,0,none⟩=some (.int .i64 id):=zac (zae _ _ rfl) 0 rfl
 have b0:=zas W (.cells #[.int .i64 id,lv,pv] 38)
 have HK:=Lib.hid hid
 clear hid
 go_enter Tryz.func67,Tryz.ntmps67
 go_wp2_with fail
 go_ret
 exact ⟨_,[.int .i64 id],rfl,rfl,⟨rfl,HK.out⟩,b0⟩
set_option maxHeartbeats 3200000 in
set_option maxRecDepth 20000 in
theorem idEAt (a:zat) (W:World) (c:List Value) (h:zaz.rel W (Old W) c a):Calls Tryz.prog 69 #[.agg c.toArray] W (zb6 intE a.id W):=by
 obtain ⟨id,src,dst,ty,ps⟩:=a
 obtain ⟨pv,rfl,hid,_,_,_⟩:=h
 have c0:(W.alloc (.cells #[.int .i64 id,.int .i64 src,.int .i64 dst,.string ty,pv] 41)).cell? ⟨W.heap.size,0,none⟩=some (.int .i64 id):=zac (zae _ _ rfl) 0 rfl
 have b0:=zas W (.cells #[.int .i64 id,.int .i64 src,.int .i64 dst,.string ty,pv] 41)
 have HK:=Lib.hid hid
 clear hid
 go_enter Tryz.func69,Tryz.ntmps69
 go_wp2_with fail
 go_ret
 exact ⟨_,[.int .i64 id],rfl,rfl,⟨rfl,HK.out.1⟩,b0⟩
theorem zba {P:Program} {ops:Array Oper} {rest:List Oper} {o:Oper} {a:Act} {w:World} {Q:Exit→Act→World→Prop} (y:Operand) (g:Nat) (t ty:TypeId) (cs:List Value) (k:Nat) (d:TypeDesc) (hg:w.heap[g]?=some (.cells cs.toArray t (0,0))) (hk:cs.length=k)
 (hu:P.underlying ty=some d) (hd:(match d with | .struct _ | .array _ _=>true | _=>false)=true) (hi:(P.info? ty).map (·.size)=some k) (hw:Region.wanted o (yielded ops a.tmps)=true) (ho:o.op=.load ty y) (hx:a.eval y=.pointer (some ⟨g,0,none⟩))
 (h:wpList P ops Q rest (a.put o.dst (.agg cs.toArray)) w):wpList P ops Q (o::rest) a w:=by
 unfold wpList
 rw [if_pos hw]
 refine .inl ?_
 unfold Oper.wp execOp
 simp only [ho,hx,Instr.loadAt,Instr.sureAddr,Sem.run_bind,Sem.run_pure,Result.andThen_ok,run_loadVar_row (P:=P) w g t ty cs.toArray (0,0) d hg hu hd (by rw [hi];simp [hk])]
 exact h
theorem zgm (ids:List Int) (x:Int):(setL leI ids).contains x=decide (x∈ids):=by
 rw [List.contains_eq_mem]
 exact decide_eq_decide.2 ((zd3 zhp zix zow ids).1 x)
theorem zi4 (ids:List Int):(setL leI ids).Pairwise (·≤·):=(zd3 zhp zix zow ids).2.imp fun h=>by simpa [leI] using h.1
set_option maxHeartbeats 3200000 in
set_option maxRecDepth 20000 in
theorem linkAt (a:zat) (ids:List Int) (b:Nat) (V:Value) (W:World) (c:List Value) (hG:Gd W) (h:zaz.rel W (Old W) c a) (hV:W.cell? ⟨b,0,none⟩=some V) (hI:zb3 W V (setL leI ids)) (hn:(setL leI ids).length≤2097152):
 Calls Tryz.prog 75 #[.agg c.toArray,.pointer (some ⟨b,0,none⟩)] W fun e w'=>e=.returned (.bool (zfo ids a))∧Below W.heap.size W w':=by
 obtain ⟨r3,hr3⟩:∃ r,r=zsq a:=⟨_,rfl⟩
 have hedge:∀ W',Below W.heap.size W W'→Calls Tryz.prog 77 #[.agg c.toArray] W' fun e w'=>e=.returned (.bool r3)∧Below W'.heap.size W' w':=fun W' hb=>by
  rw [hr3]
  exact zsu a W' c (hG.below hb) (zaz.stays (zad hb) h)
 obtain ⟨r1,hr1⟩:∃ r:Bool,r=decide (a.src∈ids):=⟨_,rfl⟩
 obtain ⟨r2,hr2⟩:∃ r:Bool,r=decide (a.dst∈ids):=⟨_,rfl⟩
 have h1:∀ W',Below W.heap.size W W'→Calls Tryz.prog 76 #[V,.int .i64 a.src] W' fun e w'=>e=.returned (.bool r1)∧Below W'.heap.size W' w':=fun W' hb=>by
  refine (zg1 V _ a.src W' (hI.below hb) (zi4 ids) hn).mono ?_
  rintro e w' ⟨rfl,q,rfl⟩
  exact ⟨by rw [zgm,hr1],zbt (Below.refl _ _) q⟩
 have h2:∀ W',Below W.heap.size W W'→Calls Tryz.prog 76 #[V,.int .i64 a.dst] W' fun e w'=>e=.returned (.bool r2)∧Below W'.heap.size W' w':=fun W' hb=>by
  refine (zg1 V _ a.dst W' (hI.below hb) (zi4 ids) hn).mono ?_
  rintro e w' ⟨rfl,q,rfl⟩
  exact ⟨by rw [zgm,hr2],zbt (Below.refl _ _) q⟩
 have e:zfo ids a=((r1 && r2) && r3):=by rw [hr1,hr2,hr3];rfl
 rw [e]
 obtain ⟨id,src,dst,ty,ps⟩:=a
 obtain ⟨pv,rfl,hid,hn1,hn2,hp⟩:=h
 obtain ⟨p2,cap2,rfl⟩:=hp.slice
 obtain ⟨p,cap,rfl,_⟩:=hI
 replace h1:∀ W',Below W.heap.size W W'→Calls Tryz.prog 76 #[.slice p (setL leI ids).length cap,.int .i64 src] W' fun e w'=>e=.returned (.bool r1)∧Below W'.heap.size W' w':=h1
 replace h2:∀ W',Below W.heap.size W W'→Calls Tryz.prog 76 #[.slice p (setL leI ids).length cap,.int .i64 dst] W' fun e w'=>e=.returned (.bool r2)∧Below W'.heap.size W' w':=h2
 have u1:(W.alloc (.cells #[.int .i64 id,.int .i64 src,.int .i64 dst,.string ty,.slice p2 ps.length cap2] 41)).heap[W.heap.size]?=some (.cells #[.int .i64 id,.int .i64 src,.int .i64 dst,.string ty,.slice p2 ps.length cap2] 41 (0,0)):=zae _ _ rfl
 have b0:=zas W (.cells #[.int .i64 id,.int .i64 src,.int .i64 dst,.string ty,.slice p2 ps.length cap2] 41)
 obtain ⟨W0,hW0⟩:∃ W0,W0=W.alloc (.cells #[.int .i64 id,.int .i64 src,.int .i64 dst,.string ty,.slice p2 ps.length cap2] 41):=⟨_,rfl⟩
 rw [← hW0] at u1 b0
 have hbl:=World.block_lt_of_cell? W _ hV
 have v0:=(b0.cell (p:=⟨b,0,none⟩) hbl).trans hV
 have H0:=Lib.hid hW0
 have H1:=Lib.hid h1
 have H2:=Lib.hid h2
 have H3:=Lib.hid hedge
 have c1:=zac u1 1 rfl
 obtain ⟨m,hm⟩:∃ m,m=(setL leI ids).length:=⟨_,rfl⟩
 rw [← hm] at H1 H2 v0
 clear h1 h2 hedge hr1 hr2 hr3 e hp hW0 hG hV hid hn1 hn2 hn hm
 have cases2:∀ (w1:World),Below W0.heap.size W0 w1→w1.cell? ⟨b,0,none⟩=some (.slice p m cap)∧w1.heap[W.heap.size]?=some (.cells #[.int .i64 id,.int .i64 src,.int .i64 dst,.string ty,.slice p2 ps.length cap2] 41 (0,0))∧Below W.heap.size W w1:=fun w1 hb1=>
  ⟨(hb1.cell (p:=⟨b,0,none⟩) (Nat.lt_of_lt_of_le hbl b0.size)).trans v0,(hb1.block _ (zaa u1)).trans u1,zab b0 hb1 b0.size⟩
 have HC:=Lib.hid cases2
 clear cases2
 cases r1 with
 | false=>
   go_enter Tryz.func75,Tryz.ntmps75
   go_upto_region 1 with fail
   rw [← H0.out]
   go_wp2_with (first
    |(go_at_call 76;(with_reducible refine (H1.out _ b0).mono ?_);rintro e w1 ⟨rfl,hb1⟩;have b1:=zab b0 hb1 b0.size))
   go_ret
   exact ⟨by simp,b1⟩
 | true=>
   cases r2 with
   | false=>
     go_enter Tryz.func75,Tryz.ntmps75
     go_upto_region 1 with fail
     rw [← H0.out]
     go_wp2_with (first
      |(go_at_call 76;(first
        |((with_reducible refine (H1.out _ b0).mono ?_);rintro e w1 ⟨rfl,hb1⟩;obtain ⟨v1,u2,b1⟩:=HC.out w1 hb1;have c2:=zac u2 2 rfl)
        |((with_reducible refine (H2.out _ b1).mono ?_);rintro e w2 ⟨rfl,hb2⟩;have b2:=zab b1 hb2 b1.size))))
     go_ret
     exact ⟨by simp,b2⟩
   | true=>
     go_enter Tryz.func75,Tryz.ntmps75
     go_upto_region 1 with fail
     rw [← H0.out]
     go_wp2_with (first
      |(go_at_call 76;(first
        |((with_reducible refine (H1.out _ b0).mono ?_);rintro e w1 ⟨rfl,hb1⟩;obtain ⟨v1,u2,b1⟩:=HC.out w1 hb1;have c2:=zac u2 2 rfl)
        |((with_reducible refine (H2.out _ b1).mono ?_);rintro e w2 ⟨rfl,hb2⟩;have b2:=zab b1 hb2 b1.size;have u3:=(hb2.block _ (zaa u2)).trans u2)))
      |((with_reducible refine zba (.tmp 2) W.heap.size 41 41 [.int .i64 id,.int .i64 src,.int .i64 dst,.string ty,.slice p2 ps.length cap2] 5 _ u3 rfl Tryz.underlying41 rfl zan ?_ ?_ ?_ ?_);rfl;rfl;rfl)
      |(go_at_call 77;(with_reducible refine (H3.out _ b2).mono ?_);rintro e w3 ⟨rfl,hb3⟩))
     go_ret
     exact ⟨by simp,zab b2 hb3 b2.size⟩
theorem zjn {w:World} {P:Nat→Prop}:{xs:List Value}→(l:List Int)→RowE intE w P xs l→xs=l.map (Value.int .i64)
 | _,[],h=>by unfold RowE at h;exact h
 | _,t::l,h=>by
   unfold RowE at h
   obtain ⟨c,ys,rfl,⟨rfl,_⟩,hr⟩:=h
   rw [zjn l hr]
   rfl
set_option maxHeartbeats 6400000 in
set_option maxRecDepth 20000 in
theorem zp2 (g:zau) (vn ve:Value) (W:World) (hG:Gd W) (hn:zak za4 W (Old W) vn g.nodes) (he:zak zaz W (Old W) ve g.edges) (hn1:g.nodes.length≤2097152) (hn2:g.edges.length≤2097152):
 Calls Tryz.prog 36 #[.agg #[vn,ve]] W fun e w'=>e=.returned (.bool (zdt g))∧Below W.heap.size W w':=by
 obtain ⟨r1,hr1⟩:∃ r:Bool,r=decide (idsN g).Nodup:=⟨_,rfl⟩
 obtain ⟨r2,hr2⟩:∃ r:Bool,r=decide (idsE g).Nodup:=⟨_,rfl⟩
 obtain ⟨r3,hr3⟩:∃ r,r=g.nodes.all ze9:=⟨_,rfl⟩
 obtain ⟨r4,hr4⟩:∃ r,r=g.edges.all (zfo (idsN g)):=⟨_,rfl⟩
 have e:zdt g=(((((decide (g.nodes.length≤131072) && decide (g.edges.length≤65536)) && r1) && r2) && r3) && r4):=by rw [hr1,hr2,hr3,hr4];rfl
 rw [e]
 have lN:(idsN g).length≤2097152:=by simpa [idsN] using hn1
 have lE:(idsE g).length≤2097152:=by simpa [idsE] using hn2
 have m1:∀ W',Below W.heap.size W W'→Calls Tryz.prog 66 #[vn,.func (.func 67) #[] #[]] W' (za9 intE 2 W' (idsN g)):=fun W' hb=>
  map66 zap.id g.nodes vn W' (hn.stays (zad hb)) hn1 fun x _ W2 c _ hc=>idNAt x W2 c hc
 have m2:∀ W',Below W.heap.size W W'→Calls Tryz.prog 68 #[ve,.func (.func 69) #[] #[]] W' (za9 intE 2 W' (idsE g)):=fun W' hb=>
  map68 zat.id g.edges ve W' (he.stays (zad hb)) hn2 fun x _ W2 c _ hc=>idEAt x W2 c hc
 have a1:∀ W' V,zb3 W' V (idsN g)→Calls Tryz.prog 70 #[V] W' fun e w'=>e=.returned (.bool r1)∧Below W'.heap.size W' w':=fun W' V h=>by
  rw [hr1]
  exact zgj V _ W' h lN
 have a2:∀ W' V,zb3 W' V (idsE g)→Calls Tryz.prog 70 #[V] W' fun e w'=>e=.returned (.bool r2)∧Below W'.heap.size W' w':=fun W' V h=>by
  rw [hr2]
  exact zgj V _ W' h lE
 have s1:∀ W' V,zb3 W' V (idsN g)→Calls Tryz.prog 71 #[V] W' fun e w'=>∃ v',e=.returned v'∧w'.ownsRow W'.heap.size 2 1 v' (setL leI (idsN g)).length ((setL leI (idsN g)).map (Value.int .i64))∧Below W'.heap.size W' w':=fun W' V h=>zma V _ W' h lN
 have h3:∀ W',Below W.heap.size W W'→Calls Tryz.prog 72 #[vn,.func (.func 73) #[] #[]] W' fun e w'=>e=.returned (.bool r3)∧Below W'.heap.size W' w':=fun W' hb=>by
  rw [hr3]
  exact hold72 ze9 g.nodes vn W' (hn.stays (zad hb)) hn1 fun x _ W2 c hb2 hc=>zst x W2 c (hG.below (hb.trans (hb2.mono hb.size))) hc
 have h4:∀ W' b V,Below W.heap.size W W'→W'.cell? ⟨b,0,none⟩=some V→zb3 W' V (setL leI (idsN g))→Calls Tryz.prog 74 #[ve,.func (.func 75) #[] #[.pointer (some ⟨b,0,none⟩)]] W' fun e w'=>e=.returned (.bool r4)∧Below W'.heap.size W' w':=fun W' b V hb hc hI=>by
  rw [hr4]
  refine hold74 (zfo (idsN g)) g.edges ve _ W' (he.stays (zad hb)) hn2 fun x _ W2 c hb2 hx=>?_
  exact linkAt x (idsN g) b V W2 c (hG.below (hb.trans (hb2.mono hb.size))) hx ((hb2.cell (p:=⟨b,0,none⟩) (World.block_lt_of_cell? W' _ hc)).trans hc) (hI.below hb2) (Nat.le_trans (zfi _) lN)
 obtain ⟨p1,cap1,rfl⟩:=hn.slice
 obtain ⟨p2,cap2,rfl⟩:=he.slice
 obtain ⟨n1,hl1⟩:∃ n,n=g.nodes.length:=⟨_,rfl⟩
 obtain ⟨n2,hl2⟩:∃ n,n=g.edges.length:=⟨_,rfl⟩
 rw [← hl1] at m1 h3 hn1
 rw [← hl2] at m2 h4 hn2
 rw [← hl1,← hl2]
 have u1:(W.alloc (.cells #[.slice p1 n1 cap1,.slice p2 n2 cap2] 25)).heap[W.heap.size]?=some (.cells #[.slice p1 n1 cap1,.slice p2 n2 cap2] 25 (0,0)):=zae _ _ rfl
 have b0:=zas W (.cells #[.slice p1 n1 cap1,.slice p2 n2 cap2] 25)
 obtain ⟨W0,hW0⟩:∃ W0,W0=W.alloc (.cells #[.slice p1 n1 cap1,.slice p2 n2 cap2] 25):=⟨_,rfl⟩
 rw [← hW0] at u1 b0
 have H0:=Lib.hid hW0
 have c0:=zac u1 0 rfl
 have c1:=zac u1 1 rfl
 have M1:=Lib.hid m1
 have M2:=Lib.hid m2
 have A1:=Lib.hid a1
 have A2:=Lib.hid a2
 have S1:=Lib.hid s1
 have H3:=Lib.hid h3
 have H4:=Lib.hid h4
 clear m1 m2 a1 a2 s1 h3 h4 hr1 hr2 hr3 hr4 e hn he hG hW0 lN lE hl1 hl2
 by_cases q1:n1≤131072
 ·by_cases q2:n2≤65536
  ·have q1':¬ (n1:Int) > 131072:=by omega
   have q2':¬ (n2:Int) > 65536:=by omega
   have d1:decide (n1≤131072)=true:=decide_eq_true q1
   have d2:decide (n2≤65536)=true:=decide_eq_true q2
   rw [d1,d2]
   clear d1 d2
   go_enter Tryz.func36,Tryz.ntmps36
   go_upto_region 1 with fail
   rw [← H0.out]
   go_upto_region 3 with fail
   go_upto_region 5 with (first
    |(go_at_call 66;(with_reducible refine (M1.out _ b0).mono ?_);rintro e w1 ⟨V,xs,rfl,ho,hro,hb1⟩
      have u2:=(hb1.block _ (zaa u1)).trans u1
      have c2:=zac u2 1 rfl
      have b1:=zab b0 hb1 b0.size)
    |(go_at_call 68;(with_reducible refine (M2.out _ b1).mono ?_);rintro e w2 ⟨U,ys,rfl,ho2,hro2,hb2⟩
      have u3:=(hb2.block _ (zaa u2)).trans u2
      have b2:=zab b1 hb2 b1.size))
   have IN:zb3 w2 V (idsN g):=by
    have:zb3 w1 V (idsN g):=zbe (base:=W0.heap.size) (e:=2) (by have:=zjn _ hro;rw [← this];exact ho)
    exact this.below hb2
   have IE:zb3 w2 U (idsE g):=zbe (base:=w1.heap.size) (e:=2) (by have:=zjn _ hro2;rw [← this];exact ho2)
   have HN:=Lib.hid IN
   have HE:=Lib.hid IE
   clear IN IE ho hro ho2 hro2 hb1 hb2 u1 u2 c0 c1 c2 b0 b1
   cases r1 with
   | false=>
     go_wp2_with (first
      |(go_at_call 70;(with_reducible refine (A1.out _ _ HN.out).mono ?_);rintro e w3 ⟨rfl,hb3⟩;have b3:=zab b2 hb3 b2.size))
     go_ret
     exact ⟨by simp,b3⟩
   | true=>
     cases r2 with
     | false=>
       go_wp2_with (first
        |(go_at_call 70;(first
          |((with_reducible refine (A1.out _ _ HN.out).mono ?_);rintro e w3 ⟨rfl,hb3⟩;have b3:=zab b2 hb3 b2.size;have HE3:=Lib.hid (HE.out.below hb3))
          |((with_reducible refine (A2.out _ _ HE3.out).mono ?_);rintro e w4 ⟨rfl,hb4⟩;have b4:=zab b3 hb4 b3.size))))
       go_ret
       exact ⟨by simp,b4⟩
     | true=>
       go_upto_region 7 with (first
        |(go_at_call 70;(first
          |((with_reducible refine (A1.out _ _ HN.out).mono ?_);rintro e w3 ⟨rfl,hb3⟩;have b3:=zab b2 hb3 b2.size;have HE3:=Lib.hid (HE.out.below hb3);have HN3:=Lib.hid (HN.out.below hb3);have u4:=(hb3.block _ (zaa u3)).trans u3)
          |((with_reducible refine (A2.out _ _ HE3.out).mono ?_);rintro e w4 ⟨rfl,hb4⟩;have b4:=zab b3 hb4 b3.size;have HN4:=Lib.hid (HN3.out.below hb4);have u5:=(hb4.block _ (zaa u4)).trans u4))))
       clear hb3 hb4 u3 u4 b2 b3
       go_upto_region 8 with (first
        |(go_at_call 71;(with_reducible refine (S1.out _ _ HN4.out).mono ?_);rintro e w5 ⟨Z,rfl,hoz,hb5⟩
          obtain ⟨pz,cz,rfl⟩:=zbc hoz
          have b5:=zab b4 hb5 b4.size
          have u6:=(hb5.block _ (zaa u5)).trans u5
          have IZ:=Lib.hid (zbe hoz)
          clear hb5))
       have b7:=b5.alloc b5.size (.cells #[.slice pz (setL leI (idsN g)).length cz] 77)
       have u7:(w5.alloc (.cells #[.slice pz (setL leI (idsN g)).length cz] 77)).heap[W.heap.size]?=_:=zar _ u6
       have cz7:(w5.alloc (.cells #[.slice pz (setL leI (idsN g)).length cz] 77)).cell? ⟨w5.heap.size,0,none⟩=some (.slice pz (setL leI (idsN g)).length cz):=zac (zae _ _ rfl) 0 rfl
       have IZ7:=Lib.hid (IZ.out.below (zas w5 (.cells #[.slice pz (setL leI (idsN g)).length cz] 77)))
       have CZ:=Lib.hid cz7
       have c7:=zac u7 0 rfl
       clear cz7 IZ u6 u5 b4 b5 hoz
       obtain ⟨N5,hN5⟩:∃ N5,N5=w5.heap.size:=⟨_,rfl⟩
       rw [← hN5] at CZ ⊢
       clear hN5
       generalize w5.alloc (.cells #[.slice pz (setL leI (idsN g)).length cz] 77)=w7 at*
       generalize (setL leI (idsN g)).length=m at*
       cases r3 with
       | false=>
         go_wp2_with (first
          |(go_at_call 72;(with_reducible refine (H3.out _ b7).mono ?_);rintro e w8 ⟨rfl,hb8⟩;have b8:=zab b7 hb8 b7.size))
         go_ret
         exact ⟨by simp,b8⟩
       | true=>
         go_wp2_with (first
          |(go_at_call 72;(with_reducible refine (H3.out _ b7).mono ?_);rintro e w8 ⟨rfl,hb8⟩
            have b8:=zab b7 hb8 b7.size
            have CZ8:=Lib.hid ((hb8.cell (p:=⟨N5,0,none⟩) (World.block_lt_of_cell? w7 _ CZ.out)).trans CZ.out)
            have IZ8:=Lib.hid (IZ7.out.below hb8)
            have c8:=zac ((hb8.block _ (zaa u7)).trans u7) 1 rfl
            clear hb8)
          |(go_at_call 74;(with_reducible refine (H4.out _ N5 _ b8 CZ8.out IZ8.out).mono ?_);rintro e w9 ⟨rfl,hb9⟩;have b9:=zab b8 hb9 b8.size))
         go_ret
         exact ⟨by simp,b9⟩
  ·have q1':¬ (n1:Int) > 131072:=by omega
   have q2':(n2:Int) > 65536:=by omega
   have d2:decide (n2≤65536)=false:=decide_eq_false q2
   rw [d2]
   clear d2
   go_enter Tryz.func36,Tryz.ntmps36
   go_upto_region 1 with fail
   rw [← H0.out]
   go_wp2_with fail
   go_ret
   exact ⟨by simp,b0⟩
 ·have q1':(n1:Int) > 131072:=by omega
  have d1:decide (n1≤131072)=false:=decide_eq_false q1
  rw [d1]
  clear d1
  go_enter Tryz.func36,Tryz.ntmps36
  go_upto_region 1 with fail
  rw [← H0.out]
  go_wp2_with fail
  go_ret
  exact ⟨by simp,b0⟩
end Go.Proofs.YtcfmenkigolnoaaGreatDoor

/- GY -/
namespace Go.Proofs.YtcfmenkigolnoaaGreatDoor
open Go.RowKit
structure Kept (F:Nat→Prop) (w w':World):Prop where
 os:w'.os=w.os
 tape:w'.tape=w.tape
 output:w'.output=w.output
 size:w.heap.size≤w'.heap.size
 block:∀ i,i < w.heap.size→¬ F i→w'.heap[i]?=w.heap[i]?
theorem Kept.refl (F:Nat→Prop) (w:World):Kept F w w:=⟨rfl,rfl,rfl,Nat.le_refl _,fun _ _ _=>rfl⟩
theorem Kept.below {F:Nat→Prop} {a b c:World} (h:Kept F a b) (k:Below b.heap.size b c):Kept F a c:=
 ⟨k.os.trans h.os,k.tape.trans h.tape,k.output.trans h.output,Nat.le_trans h.size k.size,fun i hi hf=>(k.block i (Nat.lt_of_lt_of_le hi h.size)).trans (h.block i hi hf)⟩
theorem Kept.grown {F:Nat→Prop} {a b c:World} {r:Option Nat} (h:Kept F a b) (k:b.grownBy c r) (hr:∀ i,r=some i→i < a.heap.size→F i):Kept F a c:=
 ⟨k.os.trans h.os,k.tape.trans h.tape,k.output.trans h.output,Nat.le_trans h.size k.size,fun i hi hf=>(k.block i (Nat.lt_of_lt_of_le hi h.size) (fun e=>hf (hr i e.symm hi))).trans (h.block i hi hf)⟩
theorem Kept.set {F:Nat→Prop} {a b:World} (h:Kept F a b) {p:Addr} (hp:F p.block) (u:Value):Kept F a (b.setCell p u):=
 ⟨h.os,h.tape,h.output,by simpa using h.size,fun i hi hf=>(Below.heap_setCell _ _ _ _ (fun (e:i=p.block)=>hf (by rw [e];exact hp))).trans (h.block i hi hf)⟩
theorem Kept.trans {F:Nat→Prop} {a b c:World} (h:Kept F a b) (k:Kept F b c):Kept F a c:=
 ⟨k.os.trans h.os,k.tape.trans h.tape,k.output.trans h.output,Nat.le_trans h.size k.size,fun i hi hf=>(k.block i (Nat.lt_of_lt_of_le hi h.size) hf).trans (h.block i hi hf)⟩
theorem Kept.low {F:Nat→Prop} {a b:World} {B:Nat} (h:Kept F a b) (hB:B≤a.heap.size) (hF:∀ i,F i→B≤i):Below B a b:=
 ⟨h.os,h.tape,h.output,h.size,fun i hi=>h.block i (by omega) (fun q=>by have:=hF i q;omega)⟩
def zco {α:Type} (E:Elem α) (id:α→Int) (Pl:α→α→Prop) (w:World) (P:Nat→Prop) (b:Nat) (l:List α):Prop:=
 ∃ n f,n≤l.length∧HMap w Tryz.prog 2 b n f∧(∀ a∈l,∃ a' c,Pl a a'∧f (.int .i64 (id a))=some (.agg c.toArray)∧E.rel w P c a')∧∀ k,(∀ a∈l,k≠.int .i64 (id a))→f k=none
theorem zco.start {α:Type} {E:Elem α} {id:α→Int} {Pl:α→α→Prop} {w:World} {P:Nat→Prop} {b:Nat} (h:w.heap[b]?=some (.map #[] 0)):zco E id Pl w P b []:=by
 obtain ⟨D,⟨es,cl,e,r⟩,q⟩:=HMap.made w Tryz.prog 2
 have e2:(w.alloc (.map #[] 0)).heap[w.heap.size]?=some (.map #[] 0):=zae _ _ rfl
 rw [e2] at e
 cases e
 exact ⟨0,_,Nat.le_refl _,⟨D,⟨#[],0,h,r⟩,q⟩,by simp,fun _ _=>rfl⟩
theorem zco.stays {α:Type} {E:Elem α} {id:α→Int} {Pl:α→α→Prop} {w w':World} {P P':Nat→Prop} {b:Nat} {l:List α} (h:zco E id Pl w P b l) (s:zc9 P P' w w') (hb:w'.heap[b]?=w.heap[b]?):zco E id Pl w' P' b l:=by
 obtain ⟨n,f,h1,h2,h3,h4⟩:=h
 refine ⟨n,f,h1,h2.keep hb,fun a ha=>?_,h4⟩
 obtain ⟨a',c,q1,q2,q3⟩:=h3 a ha
 exact ⟨a',c,q1,q2,E.stays s q3⟩
theorem zco.add {α:Type} {E:Elem α} {id:α→Int} {Pl:α→α→Prop} {w w':World} {P P':Nat→Prop} {b n:Nat} {l:List α} {f:Lit→Option Value} {a a':α} {c:List Value} (h1:n≤l.length) (h3:∀ a∈l,∃ a' c,Pl a a'∧f (.int .i64 (id a))=some (.agg c.toArray)∧E.rel w P c a')
 (h4:∀ k,(∀ a∈l,k≠.int .i64 (id a))→f k=none) (hnew:∀ x∈l,id x≠id a) (hp:Pl a a') (hr:E.rel w P c a') (hm:HMap w' Tryz.prog 2 b (n+1) (updH f (.int .i64 (id a)) (.agg c.toArray))) (s:zc9 P P' w w'):zco E id Pl w' P' b (l++[a]):=by
 have inj:∀ x y:Int,(Lit.int .i64 x)=.int .i64 y→x=y:=fun x y e=>by injection e
 refine ⟨n+1,_,by simp;omega,hm,fun x hx=>?_,fun k hk=>?_⟩
 ·rcases List.mem_append.1 hx with hx | hx
  ·obtain ⟨x',d,q1,q2,q3⟩:=h3 x hx
   exact ⟨x',d,q1,by rw [zb0 (fun e=>hnew x hx (inj _ _ e))];exact q2,E.stays s q3⟩
  ·obtain rfl:x=a:=by simpa using hx
   exact ⟨a',c,hp,zcw _ _ _,E.stays s hr⟩
 ·rw [zb0 (hk a (by simp))]
  exact h4 k fun x hx=>hk x (by simp [hx])
theorem zsv (w:World):(zeroValue 38).run Tryz.prog w=.ok (.agg #[.int .i64 0,.slice none 0 0,.slice none 0 0]) w:=by kernel_rfl
structure T1 {α:Type} (E:Elem α) (id:α→Int) (Pl:α→α→Prop) (b:Nat) (w:World) (l:List α) (wr:World):Prop where
 all:zco E id Pl wr (New w wr) b l
 kept:Kept (fun i=>i=b) w wr
theorem T1.next {α:Type} {E:Elem α} {id:α→Int} {Pl:α→α→Prop} {b n:Nat} {w wr wX w3 w4:World} {l:List α} {a a':α} {c:List Value} {f:Lit→Option Value} (hk:Kept (fun i=>i=b) w wr) (hb:b < w.heap.size) (h1:n≤l.length)
 (h3:∀ a∈l,∃ a' c,Pl a a'∧f (.int .i64 (id a))=some (.agg c.toArray)∧E.rel wr (New w wr) c a') (h4:∀ k,(∀ a∈l,k≠.int .i64 (id a))→f k=none) (hnew:∀ x∈l,id x≠id a) (hp:Pl a a')
 (bX:Below wr.heap.size wr wX) (b3:Below wX.heap.size wX w3) (hr:E.rel w3 (New wX w3) c a') (hm:HMap w4 Tryz.prog 2 b (n+1) (updH f (.int .i64 (id a)) (.agg c.toArray))) (hg:w3.grownBy w4 (some b)):T1 E id Pl b w (l++[a]) w4:=by
 have s1:=hk.size
 have sX:=bX.size
 have s3:=b3.size
 have k3:zc9 (New w wr) (New w w3) wr w3:=fun g hg=>⟨⟨hg.1,by have:=hg.2;omega⟩,(b3.block g (by have:=hg.2;omega)).trans (bX.block g hg.2)⟩
 refine ⟨zco.add (P:=New w w3) h1 (fun x hx=>?_) h4 hnew hp (E.stays (P':=New w w3) (fun g hg=>⟨⟨by have:=hg.1;omega,hg.2⟩,rfl⟩) hr) hm (fun g hh=>⟨⟨hh.1,Nat.lt_of_lt_of_le hh.2 hg.size⟩,hg.block g hh.2 (fun e=>by have:=Option.some.inj e;have:=hh.1;omega)⟩),?_⟩
 ·obtain ⟨x',d,q1,q2,q3⟩:=h3 x hx
  exact ⟨x',d,q1,q2,E.stays k3 q3⟩
 ·exact ((hk.below bX).below b3).grown hg (fun i e _=>(Option.some.inj e).symm)
theorem zgn {α:Type} {id:α→Int} {l:List α} (h:(l.map id).Nodup) {j:Nat} (hj:j < l.length):∀ x∈l.take j,id x≠id l[j]:=by
 intro x hx e
 obtain ⟨i,hi,rfl⟩:=List.getElem_of_mem hx
 rw [List.length_take] at hi
 have hp:=List.pairwise_iff_getElem.1 h i j (by simp;omega) (by simpa using hj) (by omega)
 simp only [List.getElem_map] at hp
 rw [List.getElem_take] at e
 exact hp e
end Go.Proofs.YtcfmenkigolnoaaGreatDoor

/- GZ -/
namespace Go.Proofs.YtcfmenkigolnoaaGreatDoor
open Go.RowKit
def grp {κ:Type} [DecidableEq κ] (E:List (κ × Int)) (x:κ):List Int:=(E.filter fun e=>decide (e.1=x)).map (·.2)
theorem zg4 {κ:Type} [DecidableEq κ] (E:List (κ × Int)) (y:κ) (i:Int) (x:κ):grp (E++[(y,i)]) x=if y=x then grp E x++[i] else grp E x:=by
 unfold grp
 rw [List.filter_append,List.map_append]
 by_cases h:y=x <;> simp [h]
theorem zsw {κ:Type} [DecidableEq κ] (E:List (κ × Int)) (x:κ):(grp E x).length≤E.length:=by
 unfold grp
 rw [List.length_map]
 exact List.length_filter_le _ _
def zcb {κ:Type} [DecidableEq κ] (kt:TypeId) (K:κ→Lit) (w:World) (base b:Nat) (E:List (κ × Int)):Prop:=
 ∃ n f,n≤E.length∧HMap w Tryz.prog kt b n f∧(∀ x,(f (K x)=none∧grp E x=[])∨∃ v,f (K x)=some v∧w.ownsRow base 2 1 v (grp E x).length ((grp E x).map (Value.int .i64)))∧
  ∀ x y v u g,x≠y→f (K x)=some v→f (K y)=some u→v.ownBlock=some g→u.ownBlock≠some g
section
variable {κ:Type} [DecidableEq κ] {kt:TypeId} {K:κ→Lit} {w w':World} {base b:Nat} {E:List (κ × Int)}
theorem zcb.start (h:w.heap[b]?=some (.map #[] 0)):zcb kt K w base b []:=by
 obtain ⟨D,⟨es,cl,e,r⟩,q⟩:=HMap.made w Tryz.prog kt
 have e2:(w.alloc (.map #[] 0)).heap[w.heap.size]?=some (.map #[] 0):=zae _ _ rfl
 rw [e2] at e
 cases e
 exact ⟨0,_,Nat.le_refl _,⟨D,⟨#[],0,h,r⟩,q⟩,fun x=>.inl ⟨rfl,rfl⟩,fun _ _ _ _ _ _ h=>by cases h⟩
theorem zcb.keep (h:zcb kt K w base b E) (hk:∀ i,(i=b∨base≤i)→i < w.heap.size→w'.heap[i]?=w.heap[i]?):zcb kt K w' base b E:=by
 obtain ⟨n,f,h1,h2,h3,h4⟩:=h
 refine ⟨n,f,h1,h2.keep (hk b (.inl rfl) h2.lt),fun x=>?_,h4⟩
 rcases h3 x with h | ⟨v,e,ho⟩
 ·exact .inl h
 ·exact .inr ⟨v,e,zaw ho fun g q=>hk g (.inr (ho.lt g q).1) (ho.lt g q).2⟩
theorem zez {f:Lit→Option Value} (h3:∀ x,(f (K x)=none∧grp E x=[])∨∃ v,f (K x)=some v∧w.ownsRow base 2 1 v (grp E x).length ((grp E x).map (Value.int .i64))) (x:κ):
 w.ownsRow base 2 1 ((f (K x)).getD (.slice none 0 0)) (grp E x).length ((grp E x).map (Value.int .i64)):=by
 rcases h3 x with ⟨e,q⟩ | ⟨v,e,ho⟩
 ·rw [e,q]
  exact World.ownsRow_nil _ _ _ _
 ·rw [e]
  exact ho
theorem zcb.add {w5 w6 w7:World} {n:Nat} {f:Lit→Option Value} {x:κ} {i:Int} {v':Value} (inj:∀ x y,K x=K y→x=y) (hb:b < base) (h1:n≤E.length)
 (h3:∀ x,(f (K x)=none∧grp E x=[])∨∃ v,f (K x)=some v∧w.ownsRow base 2 1 v (grp E x).length ((grp E x).map (Value.int .i64)))
 (h4:∀ x y v u g,x≠y→f (K x)=some v→f (K y)=some u→v.ownBlock=some g→u.ownBlock≠some g) (b5:Below w.heap.size w w5)
 (ho:w6.ownsRow base 2 1 v' ((grp E x).length+1) ((grp E x).map (Value.int .i64)++[.int .i64 i])) (hg6:w5.grownBy w6 ((f (K x)).getD (.slice none 0 0)).ownBlock)
 (hloc:v'.ownBlock=((f (K x)).getD (.slice none 0 0)).ownBlock∨v'.ownBlock=some w5.heap.size) (hm:HMap w7 Tryz.prog kt b (n+1) (updH f (K x) v')) (hg7:w6.grownBy w7 (some b)):zcb kt K w7 base b (E++[(x,i)]):=by
 have low:∀ {u:Value} {m:Nat} {xs:List Value} {W:World},W.ownsRow base 2 1 u m xs→∀ g,u.ownBlock=some g→some b≠some g:=fun h g e q=>by
  have:=(h.lt g e).1
  cases q
  omega
 have apart:∀ y u,y≠x→f (K y)=some u→w.ownsRow base 2 1 u (grp E y).length ((grp E y).map (Value.int .i64))→∀ g,u.ownBlock=some g→((f (K x)).getD (.slice none 0 0)).ownBlock≠some g∧v'.ownBlock≠some g:=fun y u hne e hu g hgu=>by
  have a1:((f (K x)).getD (.slice none 0 0)).ownBlock≠some g:=by
   cases q:f (K x) with
   | none=>intro r;cases r
   | some v=>exact h4 y x u v g hne e q hgu
  refine ⟨a1,?_⟩
  rcases hloc with r | r
  ·rw [r];exact a1
  ·rw [r]
   intro q
   have:=(hu.lt g hgu).2
   have:=b5.size
   cases q
   omega
 refine ⟨n+1,_,by simp;omega,hm,fun y=>?_,fun y z v u g hne ey ez hv=>?_⟩
 ·by_cases e:y=x
  ·subst e
   refine .inr ⟨v',zcw _ _ _,?_⟩
   rw [zg4,if_pos rfl,List.length_append,List.map_append]
   exact zcq ho hg7 (fun g q=>low ho g q)
  ·have ne:K y≠K x:=fun q=>e (inj _ _ q)
   rw [zb0 ne,zg4,if_neg (fun q=>e q.symm)]
   rcases h3 y with h | ⟨u,eu,hu⟩
   ·exact .inl h
   ·refine .inr ⟨u,eu,?_⟩
    have k5:w5.ownsRow base 2 1 u (grp E y).length ((grp E y).map (Value.int .i64)):=zaw hu fun g q=>b5.block g (hu.lt g q).2
    exact zcq (zcq k5 hg6 (fun g q=>(apart y u e eu hu g q).1)) hg7 (fun g q=>low hu g q)
 ·have full:∀ y,f (K y)=some v∨True:=fun _=>.inr trivial
  by_cases e1:y=x
  ·subst e1
   rw [zcw] at ey
   cases ey
   have ne:K z≠K y:=fun q=>hne (inj _ _ q).symm
   rw [zb0 ne] at ez
   rcases h3 z with ⟨q,_⟩ | ⟨u',eu,hu⟩
   ·rw [q] at ez;cases ez
   ·rw [ez] at eu
    cases eu
    intro q
    exact (apart z u (fun q=>hne q.symm) ez hu g q).2 hv
  ·have ne1:K y≠K x:=fun q=>e1 (inj _ _ q)
   rw [zb0 ne1] at ey
   by_cases e2:z=x
   ·subst e2
    rw [zcw] at ez
    cases ez
    rcases h3 y with ⟨q,_⟩ | ⟨u',eu,hu⟩
    ·rw [q] at ey;cases ey
    ·rw [ey] at eu
     cases eu
     exact (apart y v e1 ey hu g hv).2
   ·have ne2:K z≠K x:=fun q=>e2 (inj _ _ q)
    rw [zb0 ne2] at ez
    exact h4 y z v u g hne ey ez hv
end
end Go.Proofs.YtcfmenkigolnoaaGreatDoor

/- GJ -/
namespace Go.Proofs.YtcfmenkigolnoaaGreatDoor
open Go.RowKit
theorem zwe:Go.WideMaps.KeyLaw Tryz.prog 98:=deep_law_laid (by kernel_rfl) (m:=2) (by omega) (of_decide_eq_true (by kernel_rfl)) (by kernel_rfl) (by kernel_rfl)
theorem law98:Go.Maps.Keyed Tryz.prog 98:=Go.Maps.Keyed.of_law zwe
theorem keyW {a d:Int} (ha:(Lit.int .i64 a).wf=true) (hd:(Lit.int .i64 d).wf=true):keyOf Tryz.prog 98 (.agg #[.int .i64 a,.int .i64 d])=some (.string (keyBytes [.int .i64 a,.int .i64 d])):=by
 obtain ⟨m,hsz⟩:∃ m,Tryz.prog.types.size=m+1:=⟨Tryz.prog.types.size - 1,by kernel_rfl⟩
 have hkt:Tryz.prog.keyType 98=true:=by kernel_rfl
 have h6:Tryz.prog.cellsOf 98=2:=by kernel_rfl
 have h2:Tryz.prog.cellsOf 2=1:=by kernel_rfl
 have h3:Tryz.prog.cellsOf 3=1:=by kernel_rfl
 unfold keyOf
 simp only [Tryz.underlying98]
 rw [if_pos (by simp [hkt,Value.formed,Tryz.underlying98,h6]),hsz]
 unfold Program.keyLits
 simp only [Tryz.underlying98,Value.cells]
 rw [if_pos (by rw [h6];exact ⟨rfl,by kernel_rfl⟩)]
 simp [h2,h3,Program.keyLits,Tryz.underlying2,Tryz.underlying3,ha,hd]
theorem HMap.entry {P:Program} {w:World} {b n:Nat} {f:Lit→Option Value} {t k e:TypeId} (h:HMap w P k b n f) (K:Go.WideMaps.KeyLaw P k) (ht:P.underlying t=some (.map k e)) {z:Value} (hz:∀ u:World,(zeroValue e).run P u=.ok z u) (hn:n < maxLen) {key:Value} {kl:Lit} (hkey:keyOf P k key=some kl) (hl:WideAt.IsKeyLit kl):
 ∃ (st:Nat) (wE:World) (es1:Array MapEntry) (cl1:Nat),(Instr.mapEntry t (.map (some b)) key).run P w=.ok (.tuple #[(f kl).getD z,goInt st]) wE∧wE.heap[b]?=some (.map es1 cl1)∧w.grownBy wE (some b)∧
  ∀ (w2:World) (val:Value),w2.heap[b]?=some (.map es1 cl1)→∃ w3,(Instr.entryStore t (.map (some b)) (goInt st) val).run P w2=.ok () w3∧HMap w3 P k b (n+1) (updH f kl val)∧w2.grownBy w3 (some b):=by
 have KP:=Go.Maps.Keyed.of_law K
 have hlook:=h.look KP ht (hz w) hkey hl
 have hupd:=fun val=>h.update KP ht hn hkey hl val
 obtain ⟨D,⟨es,cl,hb,F,_,_⟩,_⟩:=id h
 obtain ⟨v0,st,es1,cl1,h1,h2,h3⟩:=Go.WideElems.entry_then_store K ht hz hb F hkey
 have ev:v0=(f kl).getD z:=by
  rcases Maps.fit_look false KP ht (hz w) hb F hkey with ⟨hr,hno,_⟩ | ⟨e0,y,hm,hk,hr,_,_,_⟩
  ·rw [hlook] at hr
   simp only [Bool.false_eq_true,if_false,Result.ok.injEq,and_true] at hr
   rcases h2 with ⟨x,hx,hxk,_⟩ | ⟨_,hv⟩
   ·exact absurd hxk (hno x hx)
   ·rw [hv,hr]
  ·rw [hlook] at hr
   simp only [Bool.false_eq_true,if_false,Result.ok.injEq,and_true] at hr
   rcases h2 with ⟨x,hx,hxk,hv⟩ | ⟨hno,_⟩
   ·have:x=e0:=Go.entry_eq_of_key (List.pairwise_map.1 F.stamped.2.2) hx hm (hxk.trans hk.symm)
    rw [hv,this,hr]
   ·exact absurd hk (hno e0 hm)
 have other:∀ (W:World) (o:Obj),W.heap[b]?=some (.map es cl)∨W.heap[b]?=some (.map es1 cl1)→W.grownBy (ChangeMaps.setBlock W b o) (some b):=fun W o hW=>by
  rcases hW with hW | hW <;> exact ⟨rfl,rfl,rfl,by simp [ChangeMaps.setBlock],fun i _ hi=>ChangeMaps.heap_setBlock_other hW _ (fun e1=>hi (by rw [e1]))⟩
 refine ⟨st,_,es1,cl1,by rw [← ev];exact h1,ChangeMaps.heap_setBlock_same hb _,other w _ (.inl hb),fun w2 val hw2=>?_⟩
 obtain ⟨es',cl',q1,q2⟩:=h3 w2 val hw2
 obtain ⟨w',r1,r2,r3⟩:=hupd val
 rw [q2] at r1
 simp only [Result.ok.injEq,true_and] at r1
 refine ⟨_,q1,r2.keep ?_,other w2 _ (.inr hw2)⟩
 rw [← r1,ChangeMaps.heap_setBlock_same hw2,ChangeMaps.heap_setBlock_same hb]
end Go.Proofs.YtcfmenkigolnoaaGreatDoor

/- GK -/
namespace Go.Proofs.YtcfmenkigolnoaaGreatDoor
open Go.RowKit
def zee (src dst:Int):List (Int × Int):=[(src,1),(dst,-1),(src,0)]++if dst=src then [] else [(dst,0)]
def ze0 (l:List (Int × Int)):List Value:=l.flatMap fun p=>[.int .i64 p.1,.int .i64 p.2]
theorem zero98:(Tryz.prog.info? 98).map (fun i=>(i.zero,i.size,i.bytes))=some (some (.agg #[.int .i64 0,.int .i64 0]),2,16):=by kernel_rfl
set_option maxHeartbeats 3200000 in
set_option maxRecDepth 20000 in
theorem waysAt (id src dst:Int) (ty:ByteArray) (pv:Value) (w:World) (h1:(Lit.int .i64 src).wf=true) (_h2:(Lit.int .i64 dst).wf=true):
 Calls Tryz.prog 83 #[.agg #[.int .i64 id,.int .i64 src,.int .i64 dst,.string ty,pv]] w fun e w'=>∃ V,e=.returned V∧w'.ownsRow w.heap.size 98 2 V (zee src dst).length (ze0 (zee src dst))∧Below w.heap.size w w':=by
 obtain ⟨i0,hi,hz0,hz1,hz2⟩:=info_parts zero98
 have u1:(w.alloc (.cells #[.int .i64 id,.int .i64 src,.int .i64 dst,.string ty,pv] 41)).heap[w.heap.size]?=some (.cells #[.int .i64 id,.int .i64 src,.int .i64 dst,.string ty,pv] 41 (0,0)):=zae _ _ rfl
 have b1:=zas w (.cells #[.int .i64 id,.int .i64 src,.int .i64 dst,.string ty,pv] 41)
 obtain ⟨W0,hW0⟩:∃ W0,W0=w.alloc (.cells #[.int .i64 id,.int .i64 src,.int .i64 dst,.string ty,pv] 41):=⟨_,rfl⟩
 rw [← hW0] at u1 b1
 have H0:=Lib.hid hW0
 have c1:=zac u1 1 rfl
 have c2:=zac u1 2 rfl
 have z0:W0.heap.size=w.heap.size+1:=by rw [hW0];simp
 clear hW0
 by_cases he:dst=src
 ·subst he
  have hw:zee dst dst=[(dst,1),(dst,-1),(dst,0)]:=by simp [zee]
  rw [hw]
  go_enter Tryz.func83,Tryz.ntmps83
  go_upto_region 1 with fail
  rw [← H0.out]
  go_wp2_with fail
  go_ret
  refine ⟨_,rfl,⟨rfl,.inr ⟨w.heap.size+1,3,_,rfl,by omega,zae _ _ z0,Nat.le_refl _,by unfold maxLen;omega,rfl,rfl⟩⟩,b1.alloc b1.size _⟩
 ·have hw:zee src dst=[(src,1),(dst,-1),(src,0)]++[(dst,0)]:=by simp [zee,he]
  rw [hw]
  have he':(dst == src)=false:=by simpa using he
  have ho:(W0.alloc (.cells #[.int .i64 src,.int .i64 1,.int .i64 dst,.int .i64 (-1),.int .i64 src,.int .i64 0] 98)).ownsRow w.heap.size 98 2 (.slice (some ⟨w.heap.size+1,0,none⟩) 3 3) 3 [.int .i64 src,.int .i64 1,.int .i64 dst,.int .i64 (-1),.int .i64 src,.int .i64 0]:=
   ⟨rfl,.inr ⟨w.heap.size+1,3,_,rfl,by omega,zae _ _ z0,Nat.le_refl _,by unfold maxLen;omega,rfl,rfl⟩⟩
  have u2:(W0.alloc (.cells #[.int .i64 src,.int .i64 1,.int .i64 dst,.int .i64 (-1),.int .i64 src,.int .i64 0] 98)).heap[w.heap.size]?=_:=zar _ u1
  have b2:=b1.alloc b1.size (.cells #[.int .i64 src,.int .i64 1,.int .i64 dst,.int .i64 (-1),.int .i64 src,.int .i64 0] 98)
  obtain ⟨W1,hW1⟩:∃ W1,W1=W0.alloc (.cells #[.int .i64 src,.int .i64 1,.int .i64 dst,.int .i64 (-1),.int .i64 src,.int .i64 0] 98):=⟨_,rfl⟩
  rw [← hW1] at ho u2 b2
  have H1:=Lib.hid hW1
  have c3:=zac u2 1 rfl
  have c4:=zac u2 2 rfl
  clear hW1
  go_enter Tryz.func83,Tryz.ntmps83
  go_upto_region 1 with fail
  rw [← H0.out]
  go_upto_region 2 with fail
  rw [← H1.out]
  go_wp2_with (first
   |(at_builtin;refine wpList_append_own_at _ rfl _ _ 124 rfl w.heap.size 98 i0 (.agg #[.int .i64 0,.int .i64 0]) 2 16 Tryz.underlying124 hi hz0 hz1 hz2 rfl (by decide) _ _ _ rfl (ho.alloc _) ⟨W1.heap.size,0,none⟩ 1 1 [.int .i64 dst,.int .i64 0] rfl rfl (zbp W1 [.int .i64 dst,.int .i64 0] 98) (by simp [Value.oneCell']) ?_ ?_ ?_ ?_))
  all_goals (try (first |(unfold maxLen;omega) | omega |(simp;have:=b2.size;omega)))
  intro v' w5 ho5 hg5 _ _
  go_wp2_with fail
  go_ret
  exact ⟨v',rfl,ho5,(b2.alloc b2.size _).grown hg5 (by have:=b2.size;simp;omega) (fun j e=>by have e2:w.heap.size+1=j:=Option.some.inj e;omega)⟩
end Go.Proofs.YtcfmenkigolnoaaGreatDoor
