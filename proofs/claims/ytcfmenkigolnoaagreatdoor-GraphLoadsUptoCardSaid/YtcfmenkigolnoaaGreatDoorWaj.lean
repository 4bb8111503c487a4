/- Texts of one kind, one behind the other: each says ahead of itself what it shows. -/
import Derived.Test.YtcfmenkigolnoaaGreatDoorWai
import Derived.Test.YtcfmenkigolnoaaGreatDoorWah
/- GR -/
namespace Go.Proofs.YtcfmenkigolnoaaGreatDoor
open Go.RowKit
def zej (ps ps':List zax):Prop:=ps'.Perm ps∧ps'.Pairwise (fun x y=>leT x.key y.key=true)
def ze5 (a a':zap):Prop:=a'.id=a.id∧a'.labels=sortS a.labels∧zej a.props a'.props
def zek (a a':zat):Prop:=a'.id=a.id∧a'.src=a.src∧a'.dst=a.dst∧a'.type=a.type∧zej a.props a'.props
theorem zcq {w w':World} {base size n:Nat} {e:TypeId} {v:Value} {xs:List Value} {r:Option Nat} (h:w.ownsRow base e size v n xs) (g:w.grownBy w' r) (hr:∀ b,v.ownBlock=some b→r≠some b):w'.ownsRow base e size v n xs:=
 zaw h fun b e=>g.block b (h.lt b e).2 (fun q=>hr b e q.symm)
theorem zey {w w':World} {base size n b:Nat} {e:TypeId} {v:Value} {xs:List Value} (h:w.ownsRow base e size v n xs) (g:Only b w w') (hb:b < base):w'.ownsRow base e size v n xs:=
 zaw h fun i q=>g.block i (h.lt i q).2 (by have:=(h.lt i q).1;omega)
theorem zhx {w:World} {P:Nat→Prop} {base:Nat} {V:Value} {ls:List ByteArray} (h:w.ownsRow base 9 1 V ls.length (ls.map Value.string)) (ht:∀ t∈ls,t.size≤2097152) (hP:∀ g,V.ownBlock=some g→P g):zak zbq w P V ls:=by
 have hr:∀ l:List ByteArray,(∀ t∈l,t.size≤2097152)→RowE zbq w P (l.map Value.string) l:=by
  intro l
  induction l with
  | nil=>exact fun _=>RowE.nil
  | cons t l ih=>exact fun h=>RowE.append [t] l (RowE.single (E:=zbq) (c:=[.string t]) ⟨rfl,h t (by simp)⟩) (ih fun u hu=>h u (by simp [hu]))
 exact zbm h (hr ls ht) (fun g hg=>hg) hP
set_option maxHeartbeats 6400000 in
set_option maxRecDepth 20000 in
theorem zjl (id:Int) (ls:List ByteArray) (ps:List zax) (p1 p2:Option Addr) (c1 c2:Nat) (w:World) (hn1:ls.length≤2097152) (hn2:ps.length≤2097152) (hl:zak zbq w (Old w) (.slice p1 ls.length c1) ls) (hp:zak za0 w (Old w) (.slice p2 ps.length c2) ps):
 Calls Tryz.prog 78 #[.agg #[.int .i64 id,.slice p1 ls.length c1,.slice p2 ps.length c2]] w fun e w'=>∃ V U ps',e=.returned (.agg #[.int .i64 id,V,U])∧zej ps ps'∧zak zbq w' (New w w') V (sortS ls)∧zak za0 w' (New w w') U ps'∧Below w.heap.size w w':=by
 obtain ⟨w1,hw1⟩:∃ w1,w1=(w.alloc (.cells #[.int .i64 id,.slice p1 ls.length c1,.slice p2 ps.length c2] 38)).alloc (.cells #[.int .i64 0,.slice none 0 0,.slice none 0 0] 38):=⟨_,rfl⟩
 have u1:w1.heap[w.heap.size]?=some (.cells #[.int .i64 id,.slice p1 ls.length c1,.slice p2 ps.length c2] 38 (0,0)):=by rw [hw1];exact zar _ (zae _ _ rfl)
 have u2:w1.heap[w.heap.size+1]?=some (.cells #[.int .i64 0,.slice none 0 0,.slice none 0 0] 38 (0,0)):=by rw [hw1];exact zae _ _ (by simp)
 have bw:Below w.heap.size w w1:=by rw [hw1];exact zbk _ _ _
 have z1:w1.heap.size=w.heap.size+2:=by rw [hw1];simp
 have HO:Hid (∀ W,Below w.heap.size w W→Calls Tryz.prog 47 #[.agg #[.int .i64 id,.slice p1 ls.length c1,.slice p2 ps.length c2]] W fun e w'=>∃ V U,e=.returned (.agg #[.int .i64 id,V,U])∧OwnT W.heap.size w' V ls∧OwnP W.heap.size V w' U ps∧Below W.heap.size W w'):=Lib.hid fun W hb=>ze8 id ls ps p1 p2 c1 c2 W hn1 hn2 (hl.stays (zad hb)) (hp.stays (zad hb))
 have HW:=Lib.hid hw1
 clear hw1 hp hl
 go_enter Tryz.func78,Tryz.ntmps78
 go_upto_region 1 with fail
 rw [← HW.out]
 go_upto_region 2 with (first
  |((with_reducible refine zaf (.tmp 1) w.heap.size 38 38 [.int .i64 id,.slice p1 ls.length c1,.slice p2 ps.length c2] 3 _ u1 rfl Tryz.underlying38 rfl zal ?_ ?_ ?_ ?_);rfl;rfl;rfl)
  |(go_at_call 47;(with_reducible refine (HO.out _ bw).mono ?_);rintro e w2 ⟨V,U,rfl,hV,hU,hb2⟩
    replace u1:=(hb2.block _ (zaa u1)).trans u1
    replace u2:=(hb2.block _ (zaa u2)).trans u2
    replace bw:=zab bw hb2 bw.size
    obtain ⟨pV,cV,rfl⟩:=zbc hV.1
    obtain ⟨lo,xs,h1,h2,h3,h4⟩:=hU
    obtain ⟨pU,cU,rfl⟩:=zbc h3
    clear hb2)
  |((with_reducible refine zah (.tmp 1) (.tmp 4) w.heap.size 38 38 _ [.int .i64 id,.slice pV ls.length cV,.slice pU ps.length cU] 3 u1 rfl ?_ ?_ ?_ ?_ zal rfl (by simp [Value.oneCell']) ?_);rfl;rfl;rfl;rfl;intro w3 o3 v1))
 replace u2:=(o3.block (w.heap.size+1) (zaa u2) (by omega)).trans u2
 have b3:=zag bw o3 (Nat.le_refl _) bw.size
 have q3:=zey h3 o3 (by omega)
 have r3:RowE za0 w3 (fun g=>lo≤g∧g < w3.heap.size∧(Value.slice pU ps.length cU).ownBlock≠some g) xs ps:=h4.stays fun g hg=>⟨⟨hg.1,Nat.lt_of_lt_of_le hg.2.1 o3.size,hg.2.2⟩,o3.block g hg.2.1 (by have:=hg.1;omega)⟩
 have t3:=zey hV.1 o3 (by omega)
 have hVt:=hV.2
 clear hV h3 h4 u1 o3 bw
 have c0:=zac v1 1 rfl
 have HS:=Lib.hid (fun W h=>zi0 (.slice pV ls.length cV) ls (w1.heap.size+2) W h hn1)
 go_upto_region 3 with (first
  |(go_at_call 90;(with_reducible refine (HS.out _ t3).mono ?_);rintro e w4 ⟨rfl,t4,g4⟩))
 have hne:∀ b,(Value.slice pU ps.length cU).ownBlock=some b→(Value.slice pV ls.length cV).ownBlock≠some b:=fun b e q=>by
  have:=(q3.lt b e).1
  have:=h2 b q
  omega
 have hN:(Value.slice pV ls.length cV).ownBlock≠some w.heap.size:=fun q=>by
  have:=(t3.lt _ q).1
  omega
 have hN1:(Value.slice pV ls.length cV).ownBlock≠some (w.heap.size+1):=fun q=>by
  have:=(t3.lt _ q).1
  omega
 have v4:=(g4.block _ (zaa v1) (fun q=>hN q.symm)).trans v1
 replace u2:=(g4.block _ (zaa u2) (fun q=>hN1 q.symm)).trans u2
 have q4:=zcq q3 g4 hne
 have r4:RowE za0 w4 (fun g=>lo≤g∧g < w4.heap.size∧(Value.slice pU ps.length cU).ownBlock≠some g) xs ps:=r3.stays fun g hg=>⟨⟨hg.1,Nat.lt_of_lt_of_le hg.2.1 g4.size,hg.2.2⟩,g4.block g hg.2.1 (fun q=>by have:=h2 g q.symm;have:=hg.1;omega)⟩
 have b4:Below w.heap.size w w4:=b3.grown g4 b3.size (fun j e=>by have:=(t3.lt j e).1;omega)
 clear c0 t3 g4 v1 r3 q3 b3
 have c0:=zac v4 2 rfl
 have HP:=Lib.hid (fun W h r=>zhw (.slice pU ps.length cU) ps xs lo (fun g=>lo≤g∧g < W.heap.size∧(Value.slice pU ps.length cU).ownBlock≠some g) W h r (fun g hg=>⟨hg.2.1,hg.2.2⟩) hn2)
 go_upto_region 4 with (first
  |(go_at_call 103;(with_reducible refine (HP.out _ q4 r4).mono ?_);rintro e w5 ⟨rfl,xs',ps',hperm,hsort,q5,r5,g5⟩))
 have hU0:(Value.slice pU ps.length cU).ownBlock≠some w.heap.size:=fun q=>by
  have:=(q4.lt _ q).1
  omega
 have hU1:(Value.slice pU ps.length cU).ownBlock≠some (w.heap.size+1):=fun q=>by
  have:=(q4.lt _ q).1
  omega
 have v5:=(g5.block _ (zaa v4) (fun q=>hU0 q.symm)).trans v4
 replace u2:=(g5.block _ (zaa u2) (fun q=>hU1 q.symm)).trans u2
 have b5:Below w.heap.size w w5:=b4.grown g5 b4.size (fun j e=>by have:=(q4.lt j e).1;omega)
 have s5:=g5.size
 have t5:=zcq t4 g5 (fun b e q=>hne b q e)
 clear c0 v4
 go_wp2_with (first
  |((with_reducible refine zaf (.tmp 1) w.heap.size 38 38 [.int .i64 id,.slice pV ls.length cV,.slice pU ps.length cU] 3 _ v5 rfl Tryz.underlying38 rfl zal ?_ ?_ ?_ ?_);rfl;rfl;rfl)
  |((with_reducible refine zah (.tmp 2) (.tmp 11) (w.heap.size+1) 38 38 _ [.int .i64 id,.slice pV ls.length cV,.slice pU ps.length cU] 3 u2 rfl ?_ ?_ ?_ ?_ zal rfl (by simp [Value.oneCell']) ?_);rfl;rfl;rfl;rfl;intro w6 o6 u6))
 have b6:=zag b5 o6 (Nat.le_succ _) b5.size
 have hl5:ps.length=ps'.length:=hperm.length_eq.symm
 have q6:=zey q5 o6 (by omega)
 rw [hl5] at q6
 have sp:zak za0 w6 (New w w6) (.slice pU ps.length cU) ps':=by
  rw [hl5]
  exact zbm q6 (r5.stays (P':=New w w6) fun g hg=>⟨⟨by have:=hg.1;omega,by have:=o6.size;have:=hg.2.1;omega⟩,o6.block g (by have:=hg.2.1;omega) (by have:=hg.1;omega)⟩) (fun g hg=>hg) (fun g e=>⟨by have:=(q6.lt g e).1;omega,(q6.lt g e).2⟩)
 have t6:=zey t5 o6 (by omega)
 have st:zak zbq w6 (New w w6) (.slice pV ls.length cV) (sortS ls):=by
  rw [← zdr] at t6 ⊢
  exact zhx t6 (fun t ht=>hVt t ((zmb ls t).1 ht)) (fun g e=>⟨by have:=(t6.lt g e).1;omega,(t6.lt g e).2⟩)
 exact bodyPost_ret (results_cell_row (p:=2) (ty:=38) Tryz.results78 _ _ (w.heap.size+1) 38 _ (0,0) _ rfl u6 Tryz.underlying38 rfl zal) rfl ⟨_,_,ps',rfl,⟨hperm,hsort⟩,st,sp,b6⟩
theorem znx (a:zap) (W:World) (c:List Value) (h:za4.rel W (Old W) c a):Calls Tryz.prog 78 #[.agg c.toArray] W fun e w'=>∃ a',ze5 a a'∧∃ c',e=.returned (.agg c'.toArray)∧za4.rel w' (New W w') c' a'∧Below W.heap.size W w':=by
 obtain ⟨id,ls,ps⟩:=a
 obtain ⟨lv,pv,rfl,hid,hn1,hn2,hl,hp⟩:=h
 obtain ⟨p1,c1,rfl⟩:=hl.slice
 obtain ⟨p2,c2,rfl⟩:=hp.slice
 refine (zjl id ls ps p1 p2 c1 c2 W hn1 hn2 hl hp).mono ?_
 rintro e w' ⟨V,U,ps',rfl,hpl,hV,hU,hb⟩
 exact ⟨⟨id,sortS ls,ps'⟩,⟨rfl,rfl,hpl⟩,[.int .i64 id,V,U],rfl,⟨V,U,rfl,hid,by simpa [zdr] using hn1,by rw [show (zap.mk id (sortS ls) ps').props.length=ps.length from hpl.1.length_eq];exact hn2,hV,hU⟩,hb⟩
set_option maxHeartbeats 6400000 in
set_option maxRecDepth 20000 in
theorem zjm (id src dst:Int) (ty:ByteArray) (ps:List zax) (p2:Option Addr) (c2:Nat) (w:World) (hn1:ty.size≤2097152) (hn2:ps.length≤2097152) (hp:zak za0 w (Old w) (.slice p2 ps.length c2) ps):
 Calls Tryz.prog 81 #[.agg #[.int .i64 id,.int .i64 src,.int .i64 dst,.string ty,.slice p2 ps.length c2]] w fun e w'=>∃ U ps',e=.returned (.agg #[.int .i64 id,.int .i64 src,.int .i64 dst,.string ty,U])∧zej ps ps'∧zak za0 w' (New w w') U ps'∧Below w.heap.size w w':=by
 obtain ⟨w1,hw1⟩:∃ w1,w1=(w.alloc (.cells #[.int .i64 id,.int .i64 src,.int .i64 dst,.string ty,.slice p2 ps.length c2] 41)).alloc (.cells #[.int .i64 0,.int .i64 0,.int .i64 0,.string ⟨#[]⟩,.slice none 0 0] 41):=⟨_,rfl⟩
 have u1:w1.heap[w.heap.size]?=some (.cells #[.int .i64 id,.int .i64 src,.int .i64 dst,.string ty,.slice p2 ps.length c2] 41 (0,0)):=by rw [hw1];exact zar _ (zae _ _ rfl)
 have u2:w1.heap[w.heap.size+1]?=some (.cells #[.int .i64 0,.int .i64 0,.int .i64 0,.string ⟨#[]⟩,.slice none 0 0] 41 (0,0)):=by rw [hw1];exact zae _ _ (by simp)
 have bw:Below w.heap.size w w1:=by rw [hw1];exact zbk _ _ _
 have z1:w1.heap.size=w.heap.size+2:=by rw [hw1];simp
 have HO:Hid (∀ W,Below w.heap.size w W→Calls Tryz.prog 50 #[.agg #[.int .i64 id,.int .i64 src,.int .i64 dst,.string ty,.slice p2 ps.length c2]] W fun e w'=>∃ U,e=.returned (.agg #[.int .i64 id,.int .i64 src,.int .i64 dst,.string ty,U])∧OwnP W.heap.size (.slice none 0 0) w' U ps∧Below W.heap.size W w'):=Lib.hid fun W hb=>zhv id src dst ty ps p2 c2 W hn1 hn2 (hp.stays (zad hb))
 have HW:=Lib.hid hw1
 clear hw1 hp
 go_enter Tryz.func81,Tryz.ntmps81
 go_upto_region 1 with fail
 rw [← HW.out]
 go_upto_region 2 with (first
  |((with_reducible refine zaf (.tmp 1) w.heap.size 41 41 [.int .i64 id,.int .i64 src,.int .i64 dst,.string ty,.slice p2 ps.length c2] 5 _ u1 rfl Tryz.underlying41 rfl zan ?_ ?_ ?_ ?_);rfl;rfl;rfl)
  |(go_at_call 50;(with_reducible refine (HO.out _ bw).mono ?_);rintro e w2 ⟨U,rfl,hU,hb2⟩
    replace u1:=(hb2.block _ (zaa u1)).trans u1
    replace u2:=(hb2.block _ (zaa u2)).trans u2
    replace bw:=zab bw hb2 bw.size
    obtain ⟨lo,xs,h1,h2,h3,h4⟩:=hU
    obtain ⟨pU,cU,rfl⟩:=zbc h3
    clear hb2)
  |((with_reducible refine zah (.tmp 1) (.tmp 4) w.heap.size 41 41 _ [.int .i64 id,.int .i64 src,.int .i64 dst,.string ty,.slice pU ps.length cU] 5 u1 rfl ?_ ?_ ?_ ?_ zan rfl (by simp [Value.oneCell']) ?_);rfl;rfl;rfl;rfl;intro w3 o3 v1))
 replace u2:=(o3.block (w.heap.size+1) (zaa u2) (by omega)).trans u2
 have b3:=zag bw o3 (Nat.le_refl _) bw.size
 have q3:=zey h3 o3 (by omega)
 have r3:RowE za0 w3 (fun g=>lo≤g∧g < w3.heap.size∧(Value.slice pU ps.length cU).ownBlock≠some g) xs ps:=h4.stays fun g hg=>⟨⟨hg.1,Nat.lt_of_lt_of_le hg.2.1 o3.size,hg.2.2⟩,o3.block g hg.2.1 (by have:=hg.1;omega)⟩
 clear h3 h4 u1 o3 bw
 have v4:=v1
 have q4:=q3
 have r4:=r3
 have b4:=b3
 clear v1 q3 r3 b3
 have c0:=zac v4 4 rfl
 have HP:=Lib.hid (fun W h r=>zhw (.slice pU ps.length cU) ps xs lo (fun g=>lo≤g∧g < W.heap.size∧(Value.slice pU ps.length cU).ownBlock≠some g) W h r (fun g hg=>⟨hg.2.1,hg.2.2⟩) hn2)
 go_upto_region 3 with (first
  |(go_at_call 103;(with_reducible refine (HP.out _ q4 r4).mono ?_);rintro e w5 ⟨rfl,xs',ps',hperm,hsort,q5,r5,g5⟩))
 have hU0:(Value.slice pU ps.length cU).ownBlock≠some w.heap.size:=fun q=>by
  have:=(q4.lt _ q).1
  omega
 have hU1:(Value.slice pU ps.length cU).ownBlock≠some (w.heap.size+1):=fun q=>by
  have:=(q4.lt _ q).1
  omega
 have v5:=(g5.block _ (zaa v4) (fun q=>hU0 q.symm)).trans v4
 replace u2:=(g5.block _ (zaa u2) (fun q=>hU1 q.symm)).trans u2
 have b5:Below w.heap.size w w5:=b4.grown g5 b4.size (fun j e=>by have:=(q4.lt j e).1;omega)
 have s5:=g5.size
 clear c0 v4
 go_wp2_with (first
  |((with_reducible refine zaf (.tmp 1) w.heap.size 41 41 [.int .i64 id,.int .i64 src,.int .i64 dst,.string ty,.slice pU ps.length cU] 5 _ v5 rfl Tryz.underlying41 rfl zan ?_ ?_ ?_ ?_);rfl;rfl;rfl)
  |((with_reducible refine zah (.tmp 2) (.tmp 8) (w.heap.size+1) 41 41 _ [.int .i64 id,.int .i64 src,.int .i64 dst,.string ty,.slice pU ps.length cU] 5 u2 rfl ?_ ?_ ?_ ?_ zan rfl (by simp [Value.oneCell']) ?_);rfl;rfl;rfl;rfl;intro w6 o6 u6))
 have b6:=zag b5 o6 (Nat.le_succ _) b5.size
 have hl5:ps.length=ps'.length:=hperm.length_eq.symm
 have q6:=zey q5 o6 (by omega)
 rw [hl5] at q6
 have sp:zak za0 w6 (New w w6) (.slice pU ps.length cU) ps':=by
  rw [hl5]
  exact zbm q6 (r5.stays (P':=New w w6) fun g hg=>⟨⟨by have:=hg.1;omega,by have:=o6.size;have:=hg.2.1;omega⟩,o6.block g (by have:=hg.2.1;omega) (by have:=hg.1;omega)⟩) (fun g hg=>hg) (fun g e=>⟨by have:=(q6.lt g e).1;omega,(q6.lt g e).2⟩)
 exact bodyPost_ret (results_cell_row (p:=2) (ty:=41) Tryz.results81 _ _ (w.heap.size+1) 41 _ (0,0) _ rfl u6 Tryz.underlying41 rfl zan) rfl ⟨_,ps',rfl,⟨hperm,hsort⟩,sp,b6⟩
theorem zny (a:zat) (W:World) (c:List Value) (h:zaz.rel W (Old W) c a):Calls Tryz.prog 81 #[.agg c.toArray] W fun e w'=>∃ a',zek a a'∧∃ c',e=.returned (.agg c'.toArray)∧zaz.rel w' (New W w') c' a'∧Below W.heap.size W w':=by
 obtain ⟨id,src,dst,ty,ps⟩:=a
 obtain ⟨pv,rfl,hid,hn1,hn2,hp⟩:=h
 obtain ⟨p2,c2,rfl⟩:=hp.slice
 refine (zjm id src dst ty ps p2 c2 W hn1 hn2 hp).mono ?_
 rintro e w' ⟨U,ps',rfl,hpl,hU,hb⟩
 exact ⟨⟨id,src,dst,ty,ps'⟩,⟨rfl,rfl,rfl,rfl,hpl⟩,[.int .i64 id,.int .i64 src,.int .i64 dst,.string ty,U],rfl,⟨U,rfl,hid,hn1,by rw [show (zat.mk id src dst ty ps').props.length=ps.length from hpl.1.length_eq];exact hn2,hU⟩,hb⟩
end Go.Proofs.YtcfmenkigolnoaaGreatDoor

/- GV -/
namespace Go.Proofs.YtcfmenkigolnoaaGreatDoor
open Go.RowKit
def zci (s:ByteArray):Bool:=decide (s.size≠0) && decide (s.size≤1048576)
def zcv (l:List ByteArray):Bool:=(decide (l.length≤65536) && l.all zci) && decide (l.map bl).Nodup
def zdg:Val→Bool
 | .mk k _ _ _ _ _=>decide (k=1) || decide (k=2) || decide (k=3) || decide (k=4)
def ze2:Val→Bool
 | .mk k b n t x q=>(zdg (.mk k b n t x q) || (decide (k=5) && q.all zdg)) && mayP (.mk k b n t x q) 0
def zb9 (ps:List zax):Bool:=(decide (ps.length≤65536) && zcv (ps.map zax.key)) && ps.all fun p=>ze2 p.v
def ze9 (a:zap):Bool:=(decide (0≤a.id) && zcv a.labels) && zb9 a.props
def zsq (a:zat):Bool:=(decide (0≤a.id) && zci a.type) && zb9 a.props
set_option maxHeartbeats 1600000 in
set_option maxRecDepth 20000 in
theorem zo3 (s:ByteArray) (w:World) (hs:s.size≤2097152):Calls Tryz.prog 102 #[.string s] w fun e w'=>e=.returned (.bool (zci s))∧w'=w:=by
 have hmax:s.size≤maxLen:=by unfold maxLen;omega
 by_cases h0:s.toList.isEmpty=true
 ·have e:zci s=false:=by
   have:=(zb7 s).1 h0
   simp [zci,this]
  rw [e]
  clear e
  go_enter Tryz.func102,Tryz.ntmps102
  go_wp2_with fail
  go_ret
  exact ⟨rfl,rfl⟩
 ·have h1:s.size≠0:=fun q=>h0 ((zb7 s).2 q)
  replace h0:s.toList.isEmpty=false:=by simpa using h0
  by_cases h2:s.size≤1048576
  ·have e:zci s=true:=by simp [zci,h1,h2]
   rw [e]
   clear e
   go_enter Tryz.func102,Tryz.ntmps102
   go_wp2_with fail
   go_ret
   exact ⟨by simp [];try omega,rfl⟩
  ·have e:zci s=false:=by simp [zci,h2]
   rw [e]
   clear e
   go_enter Tryz.func102,Tryz.ntmps102
   go_wp2_with fail
   go_ret
   exact ⟨by simp [];try omega,rfl⟩
set_option maxHeartbeats 1600000 in
set_option maxRecDepth 20000 in
theorem zmg (v:Val) (W:World) (c:List Value) (P:Nat→Prop) (h:zfn W P c v):Calls Tryz.prog 148 #[.agg c.toArray] W fun e w'=>e=.returned (.bool (zdg v))∧Below W.heap.size W w':=by
 obtain ⟨k,b,n,t,x,q⟩:=v
 obtain ⟨L,rfl,hf,hq⟩:=h
 obtain ⟨p,cap,rfl⟩:=za5 (zay.held q hq)
 have c0:(W.alloc (.cells #[.int .i64 k,.bool b,.int .i64 n,.string t,.string x,.slice p q.length cap] 60)).cell? ⟨W.heap.size,0,none⟩=some (.int .i64 k):=zac (zae _ _ rfl) 0 rfl
 have b0:=zas W (.cells #[.int .i64 k,.bool b,.int .i64 n,.string t,.string x,.slice p q.length cap] 60)
 clear hf hq
 unfold zdg
 by_cases h1:k=1
 ·subst h1
  go_enter Tryz.func148,Tryz.ntmps148
  go_wp2_with fail
  go_ret
  exact ⟨rfl,b0⟩
 ·by_cases h2:k=2
  ·subst h2
   go_enter Tryz.func148,Tryz.ntmps148
   go_wp2_with fail
   go_ret
   exact ⟨rfl,b0⟩
  ·by_cases h3:k=3
   ·subst h3
    go_enter Tryz.func148,Tryz.ntmps148
    go_wp2_with fail
    go_ret
    exact ⟨rfl,b0⟩
   ·by_cases h4:k=4
    ·subst h4
     go_enter Tryz.func148,Tryz.ntmps148
     go_wp2_with fail
     go_ret
     exact ⟨rfl,b0⟩
    ·simp only [h1,h2,h3,h4,decide_false,Bool.or_false]
     go_enter Tryz.func148,Tryz.ntmps148
     go_wp2_with fail
     go_ret
     exact ⟨rfl,b0⟩
set_option maxHeartbeats 3200000 in
set_option maxRecDepth 20000 in
theorem zvf (v:Val) (W:World) (c:List Value) (hG:Gd W) (h:zfn W (Old W) c v):Calls Tryz.prog 122 #[.agg c.toArray] W fun e w'=>e=.returned (.bool (ze2 v))∧Below W.heap.size W w':=by
 obtain ⟨r1,hr1⟩:∃ r,r=zdg v:=⟨_,rfl⟩
 have hp:∀ W',Below W.heap.size W W'→Calls Tryz.prog 148 #[.agg c.toArray] W' fun e w'=>e=.returned (.bool r1)∧Below W'.heap.size W' w':=fun W' hb=>by
  rw [hr1]
  exact zmg v W' c (Old W') (valE.stays (zad hb) h)
 obtain ⟨r3,hr3⟩:∃ r,r=mayP v 0:=⟨_,rfl⟩
 have hch:∀ W',Below W.heap.size W W'→Calls Tryz.prog 150 #[.agg c.toArray] W' fun e w'=>e=.returned (.bool r3)∧Below W'.heap.size W' w':=fun W' hb=>by
  obtain ⟨k,b,n,t,x,q⟩:=v
  have h':zfn W' (Old W') c (.mk k b n t x q):=valE.stays (zad hb) (show valE.rel W (Old W) c (.mk k b n t x q) from h)
  obtain ⟨L,rfl,hf,hq⟩:=h'
  rw [hr3]
  exact zva _ k b n t x q L W' rfl (hG.below hb) hf.ht hf.hx (zay.held q hq)
 obtain ⟨k,b,n,t,x,q⟩:=v
 obtain ⟨r2,hr2⟩:∃ r,r=q.all zdg:=⟨_,rfl⟩
 have e:ze2 (.mk k b n t x q)=((r1 || (decide (k=5) && r2)) && r3):=by rw [hr1,hr2,hr3];rfl
 rw [e]
 obtain ⟨L,rfl,hf,hq⟩:=h
 obtain ⟨p,cap,rfl⟩:=za5 (zay.held q hq)
 have hal:∀ W',Below W.heap.size W W'→Calls Tryz.prog 149 #[.slice p q.length cap,.func (.func 148) #[] #[]] W' fun e w'=>e=.returned (.bool r2)∧Below W'.heap.size W' w':=fun W' hb=>by
  rw [hr2]
  exact hold149 zdg q _ W' (zep q (zay.stays (zad hb) q hq)) hf.hn fun u hu W2 c2 _ hc=>zmg u W2 c2 _ hc
 have S:Six (W.alloc (.cells #[.int .i64 k,.bool b,.int .i64 n,.string t,.string x,.slice p q.length cap] 60)) W.heap.size k b n t x p q.length cap:=zai _ rfl
 have b0:=zas W (.cells #[.int .i64 k,.bool b,.int .i64 n,.string t,.string x,.slice p q.length cap] 60)
 have HP:=Lib.hid hp
 have HC:=Lib.hid hch
 have HA:=Lib.hid hal
 clear hp hch hal hf hq hr1 hr2 hr3 e hG
 obtain ⟨W0,hW0⟩:∃ W0,W0=W.alloc (.cells #[.int .i64 k,.bool b,.int .i64 n,.string t,.string x,.slice p q.length cap] 60):=⟨_,rfl⟩
 rw [← hW0] at S b0
 have H0:=Lib.hid hW0
 clear hW0
 cases r1 with
 | true=>
   go_enter Tryz.func122,Tryz.ntmps122
   go_upto_region 1 with fail
   rw [← H0.out]
   go_wp2_with (first
    |((with_reducible refine zaj (.tmp 1) W.heap.size S ?_ ?_ ?_ ?_);rfl;rfl;rfl)
    |(go_at_call 148;(with_reducible refine (HP.out _ b0).mono ?_);rintro e w1 ⟨rfl,hb1⟩;have S1:=S.below hb1;have b1:=zab b0 hb1 b0.size;have c0:=S1.c0;have c5:=S1.c5;clear hb1)
    |((with_reducible refine zao (.tmp 1) W.heap.size S1 ?_ ?_ ?_ ?_);rfl;rfl;rfl)
    |(go_at_call 150;(with_reducible refine (HC.out _ b1).mono ?_);rintro e w9 ⟨rfl,hb9⟩))
   go_ret
   exact ⟨by simp,zab b1 hb9 b1.size⟩
 | false=>
   by_cases h5:k=5
   ·subst h5
    cases r2 with
    | true=>
      go_enter Tryz.func122,Tryz.ntmps122
      go_upto_region 1 with fail
      rw [← H0.out]
      go_wp2_with (first
       |((with_reducible refine zaj (.tmp 1) W.heap.size S ?_ ?_ ?_ ?_);rfl;rfl;rfl)
       |(go_at_call 148;(with_reducible refine (HP.out _ b0).mono ?_);rintro e w1 ⟨rfl,hb1⟩;have S1:=S.below hb1;have b1:=zab b0 hb1 b0.size;have c0:=S1.c0;have c5:=S1.c5;clear hb1)
       |(go_at_call 149;(with_reducible refine (HA.out _ b1).mono ?_);rintro e w2 ⟨rfl,hb2⟩;have S2:=S1.below hb2;have b2:=zab b1 hb2 b1.size;clear hb2)
       |((with_reducible refine zao (.tmp 1) W.heap.size S2 ?_ ?_ ?_ ?_);rfl;rfl;rfl)
       |(go_at_call 150;(with_reducible refine (HC.out _ b2).mono ?_);rintro e w9 ⟨rfl,hb9⟩))
      go_ret
      exact ⟨by simp,zab b2 hb9 b2.size⟩
    | false=>
      go_enter Tryz.func122,Tryz.ntmps122
      go_upto_region 1 with fail
      rw [← H0.out]
      go_wp2_with (first
       |((with_reducible refine zaj (.tmp 1) W.heap.size S ?_ ?_ ?_ ?_);rfl;rfl;rfl)
       |(go_at_call 148;(with_reducible refine (HP.out _ b0).mono ?_);rintro e w1 ⟨rfl,hb1⟩;have S1:=S.below hb1;have b1:=zab b0 hb1 b0.size;have c0:=S1.c0;have c5:=S1.c5;clear hb1)
       |(go_at_call 149;(with_reducible refine (HA.out _ b1).mono ?_);rintro e w2 ⟨rfl,hb2⟩;have S2:=S1.below hb2;have b2:=zab b1 hb2 b1.size;clear hb2))
      go_ret
      exact ⟨by simp,b2⟩
   ·have h5':(k:Int)≠5:=h5
    go_enter Tryz.func122,Tryz.ntmps122
    go_upto_region 1 with fail
    rw [← H0.out]
    go_wp2_with (first
     |((with_reducible refine zaj (.tmp 1) W.heap.size S ?_ ?_ ?_ ?_);rfl;rfl;rfl)
     |(go_at_call 148;(with_reducible refine (HP.out _ b0).mono ?_);rintro e w1 ⟨rfl,hb1⟩;have S1:=S.below hb1;have b1:=zab b0 hb1 b0.size;have c0:=S1.c0;have c5:=S1.c5;clear hb1))
    go_ret
    exact ⟨by simp [h5],b1⟩
theorem zc1 {w:World} {P:Nat→Prop} {v:Value} {l:List ByteArray} (h:zak zbq w P v l):zcu w v l:=by
 obtain ⟨p,cap,rfl,hh⟩:=id h
 refine ⟨p,cap,rfl,fun hne=>?_⟩
 obtain ⟨g,off,xs,rfl,_,_,_⟩:=hh hne
 refine ⟨g,off,rfl,fun j hj=>?_⟩
 obtain ⟨g',off',cap',c,e,_,hc,hr⟩:=h.at_ j hj
 injection e with e1
 injection e1 with e1
 injection e1 with e1 e2
 subst e1 e2
 obtain ⟨rfl,_⟩:=hc
 have:=hr 0 _ rfl
 have e3:l.getD j ByteArray.empty=l[j]:=by simp [hj]
 rw [e3]
 simpa [zbq] using this
set_option maxHeartbeats 3200000 in
set_option maxRecDepth 20000 in
theorem keyOfAt (a:zax) (W:World) (c:List Value) (h:za0.rel W (Old W) c a):Calls Tryz.prog 119 #[.agg c.toArray] W (zb6 zbq a.key W):=by
 obtain ⟨key,⟨k,b,n,t,x,q⟩⟩:=a
 obtain ⟨c,rfl,hk,⟨L,rfl,hf,hq⟩⟩:=h
 have c0:(W.alloc (.cells #[.string key,.int .i64 k,.bool b,.int .i64 n,.string t,.string x,L] 70)).cell? ⟨W.heap.size,0,none⟩=some (.string key):=zac (zae _ _ rfl) 0 rfl
 have b0:=zas W (.cells #[.string key,.int .i64 k,.bool b,.int .i64 n,.string t,.string x,L] 70)
 have HK:=Lib.hid hk
 clear hf hq hk
 go_enter Tryz.func119,Tryz.ntmps119
 go_wp2_with fail
 go_ret
 exact ⟨_,[.string key],rfl,rfl,⟨rfl,HK.out⟩,b0⟩
set_option maxHeartbeats 3200000 in
set_option maxRecDepth 20000 in
theorem propAt (a:zax) (W:World) (c:List Value) (hG:Gd W) (h:za0.rel W (Old W) c a):Calls Tryz.prog 121 #[.agg c.toArray] W fun e w'=>e=.returned (.bool (ze2 a.v))∧Below W.heap.size W w':=by
 obtain ⟨key,v⟩:=a
 obtain ⟨r,hr⟩:∃ r,r=ze2 v:=⟨_,rfl⟩
 have hp:∀ W' d,Below W.heap.size W W'→zfn W (Old W) d v→Calls Tryz.prog 122 #[.agg d.toArray] W' fun e w'=>e=.returned (.bool r)∧Below W'.heap.size W' w':=fun W' d hb hd=>by
  rw [hr]
  exact zvf v W' d (hG.below hb) (valE.stays (zad hb) (show valE.rel W (Old W) d v from hd))
 show Calls Tryz.prog 121 #[.agg c.toArray] W fun e w'=>e=.returned (.bool (ze2 v))∧Below W.heap.size W w'
 rw [← hr]
 obtain ⟨c,rfl,hk,hv⟩:=h
 replace hp:=fun W' hb=>hp W' c hb hv
 have hlen:c.length=6:=valE.len hv
 have u1:(W.alloc (.cells (Value.string key::c).toArray 70)).heap[W.heap.size]?=some (.cells (Value.string key::c).toArray 70 (0,0)):=zae _ _ rfl
 have b0:=zas W (.cells (Value.string key::c).toArray 70)
 obtain ⟨W0,hW0⟩:∃ W0,W0=W.alloc (.cells (Value.string key::c).toArray 70):=⟨_,rfl⟩
 rw [← hW0] at u1 b0
 have hra:W0.rangeAt W.heap.size 1 c:=zb4 u1 1 c (by simp)
 have H0:=Lib.hid hW0
 have HP:=Lib.hid hp
 clear hW0 hp hv hk hr hG
 go_enter Tryz.func121,Tryz.ntmps121
 go_upto_region 1 with fail
 rw [← H0.out]
 go_wp2_with (first
  |((with_reducible refine zav (.tmp 3) W.heap.size 1 60 c 6 _ hra hlen Tryz.underlying60 rfl zcg ?_ ?_ ?_ ?_);rfl;rfl;rfl)
  |(go_at_call 122;(with_reducible refine (HP.out _ b0).mono ?_);rintro e w1 ⟨rfl,hb1⟩))
 go_ret
 exact ⟨rfl,zab b0 hb1 b0.size⟩
set_option maxHeartbeats 3200000 in
set_option maxRecDepth 20000 in
theorem zsr (l:List ByteArray) (v:Value) (W:World) (h:zak zbq W (Old W) v l) (hn:l.length≤2097152):Calls Tryz.prog 99 #[v] W fun e w'=>e=.returned (.bool (zcv l))∧Below W.heap.size W w':=by
 obtain ⟨r1,hr1⟩:∃ r,r=l.all zci:=⟨_,rfl⟩
 obtain ⟨r2,hr2⟩:∃ r:Bool,r=decide (l.map bl).Nodup:=⟨_,rfl⟩
 have hall:Calls Tryz.prog 116 #[v,.func (.func 102) #[] #[]] W fun e w'=>e=.returned (.bool r1)∧Below W.heap.size W w':=by
  rw [hr1]
  refine hold116 zci l v W h hn fun x hx W' c _ hc=>?_
  refine (zo3 x W' hc.2).mono ?_
  rintro e w' ⟨rfl,rfl⟩
  exact ⟨rfl,Below.refl _ _⟩
 have hun:∀ W',Below W.heap.size W W'→Calls Tryz.prog 117 #[v] W' fun e w'=>e=.returned (.bool r2)∧Below W'.heap.size W' w':=fun W' hb=>by
  rw [hr2]
  exact zmc v l W' ((zc1 h).below hb) hn
 have e:zcv l=((decide (l.length≤65536) && r1) && r2):=by rw [hr1,hr2];rfl
 rw [e]
 obtain ⟨p,cap,rfl⟩:=h.slice
 obtain ⟨n,hln⟩:∃ n,n=l.length:=⟨_,rfl⟩
 rw [← hln] at hn hall hun ⊢
 have HA:=Lib.hid hall
 have HU:=Lib.hid hun
 clear hall hun hr1 hr2 e h hln
 by_cases h1:n≤65536
 ·have h1':(n:Int)≤65536:=by omega
  cases r1 with
  | true=>
    go_enter Tryz.func99,Tryz.ntmps99
    go_wp2_with (first
     |(go_at_call 116;(with_reducible refine HA.out.mono ?_);rintro e w1 ⟨rfl,hb1⟩)
     |(go_at_call 117;(with_reducible refine (HU.out _ hb1).mono ?_);rintro e w2 ⟨rfl,hb2⟩))
    go_ret
    exact ⟨by simp [h1],zab hb1 hb2 hb1.size⟩
  | false=>
    go_enter Tryz.func99,Tryz.ntmps99
    go_wp2_with (first
     |(go_at_call 116;(with_reducible refine HA.out.mono ?_);rintro e w1 ⟨rfl,hb1⟩))
    go_ret
    exact ⟨by simp,hb1⟩
 ·have h1':¬ (n:Int)≤65536:=by omega
  go_enter Tryz.func99,Tryz.ntmps99
  go_wp2_with fail
  go_ret
  exact ⟨by simp [],Below.refl _ _⟩
set_option maxHeartbeats 3200000 in
set_option maxRecDepth 20000 in
theorem zss (l:List zax) (v:Value) (W:World) (hG:Gd W) (h:zak za0 W (Old W) v l) (hn:l.length≤2097152):Calls Tryz.prog 100 #[v] W fun e w'=>e=.returned (.bool (zb9 l))∧Below W.heap.size W w':=by
 obtain ⟨r1,hr1⟩:∃ r,r=zcv (l.map zax.key):=⟨_,rfl⟩
 obtain ⟨r2,hr2⟩:∃ r:Bool,r=l.all (fun p=>ze2 p.v):=⟨_,rfl⟩
 have hmap:=map118 zax.key l v W h hn fun x hx W' c _ hc=>keyOfAt x W' c hc
 have hw:∀ W' V xs,W'.ownsRow W.heap.size 9 zbq.k V (l.map zax.key).length xs→RowE zbq W' (Inn W V W') xs (l.map zax.key)→Calls Tryz.prog 99 #[V] W' fun e w'=>e=.returned (.bool r1)∧Below W'.heap.size W' w':=fun W' V xs ho hr=>by
  rw [hr1]
  exact zsr _ V W' (zbm ho hr (fun g hg=>hg.2.1) (fun g e=>(ho.lt g e).2)) (by simpa using hn)
 have hall:∀ W',Below W.heap.size W W'→Calls Tryz.prog 120 #[v,.func (.func 121) #[] #[]] W' fun e w'=>e=.returned (.bool r2)∧Below W'.heap.size W' w':=fun W' hb=>by
  rw [hr2]
  exact hold120 _ l v W' (h.stays (zad hb)) hn fun x hx W2 c hb2 hc=>propAt x W2 c (hG.below (hb.trans (hb2.mono hb.size))) hc
 have e:zb9 l=((decide (l.length≤65536) && r1) && r2):=by rw [hr1,hr2];rfl
 rw [e]
 obtain ⟨p,cap,rfl⟩:=h.slice
 obtain ⟨n,hln⟩:∃ n,n=l.length:=⟨_,rfl⟩
 rw [← hln] at hn hall hmap ⊢
 have HM:=Lib.hid hmap
 have HA:=Lib.hid hall
 have HU:=Lib.hid hw
 clear hall hmap hw hr1 hr2 e h hln hG
 by_cases h1:n≤65536
 ·have h1':(n:Int)≤65536:=by omega
  cases r1 with
  | true=>
    go_enter Tryz.func100,Tryz.ntmps100
    go_wp2_with (first
     |(go_at_call 118;(with_reducible refine HM.out.mono ?_);rintro e w1 ⟨V,xs,rfl,ho,hro,hb1⟩)
     |(go_at_call 99;(with_reducible refine (HU.out w1 V xs ho hro).mono ?_);rintro e w2 ⟨rfl,hb2⟩;have b2:=zab hb1 hb2 hb1.size)
     |(go_at_call 120;(with_reducible refine (HA.out _ b2).mono ?_);rintro e w3 ⟨rfl,hb3⟩))
    go_ret
    exact ⟨by simp [h1],zab b2 hb3 b2.size⟩
  | false=>
    go_enter Tryz.func100,Tryz.ntmps100
    go_wp2_with (first
     |(go_at_call 118;(with_reducible refine HM.out.mono ?_);rintro e w1 ⟨V,xs,rfl,ho,hro,hb1⟩)
     |(go_at_call 99;(with_reducible refine (HU.out w1 V xs ho hro).mono ?_);rintro e w2 ⟨rfl,hb2⟩;have b2:=zab hb1 hb2 hb1.size))
    go_ret
    exact ⟨by simp,b2⟩
 ·have h1':¬ (n:Int)≤65536:=by omega
  go_enter Tryz.func100,Tryz.ntmps100
  go_wp2_with fail
  go_ret
  exact ⟨by simp [],Below.refl _ _⟩
end Go.Proofs.YtcfmenkigolnoaaGreatDoor
