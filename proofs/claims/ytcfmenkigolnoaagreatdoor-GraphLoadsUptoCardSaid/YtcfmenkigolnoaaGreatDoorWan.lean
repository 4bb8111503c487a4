/- Texts of one kind, one behind the other: each says ahead of itself what it shows. -/
import Derived.Test.YtcfmenkigolnoaaGreatDoorWam
/- GAN -/
namespace Go.Proofs.YtcfmenkigolnoaaGreatDoor
open Go.RowKit
def zdu (few many:List Int):List Int:=few.filter fun x=>many.contains x
def andL (xs ys:List Int):List Int:=if ys.length < xs.length then zdu ys xs else zdu xs ys
theorem zfr {w:World} {base size n q:Nat} {e:TypeId} {v:Value} {xs:List Value} (h:w.ownsRow base e size v n xs):(w.drewN q).ownsRow base e size v n xs:=zaw h fun _ _=>rfl
theorem zmh (a b:List Int):(zdu a b).length≤a.length:=List.length_filter_le _ _
set_option maxHeartbeats 6400000 in
set_option maxRecDepth 20000 in
theorem andAt (V U:Value) (xs ys:List Int) (W:World) (hx:zb3 W V xs) (hy:zb3 W U ys) (sx:xs.Pairwise (·≤·)) (sy:ys.Pairwise (·≤·)) (nx:xs.length≤2097152) (ny:ys.length≤2097152):
 Calls Tryz.prog 62 #[V,U] W fun e w'=>∃ R,e=.returned R∧w'.ownsRow W.heap.size 2 1 R (andL xs ys).length ((andL xs ys).map (Value.int .i64))∧Below W.heap.size W w':=by
 obtain ⟨p1,cap1,rfl,_⟩:=id hx
 obtain ⟨p2,cap2,rfl,_⟩:=id hy
 obtain ⟨i0,hi,hz0,hz1,hz2⟩:=info_parts zd6
 have HX:=Lib.hid hx
 have HY:=Lib.hid hy
 obtain ⟨n1,hl1⟩:∃ n,n=xs.length:=⟨_,rfl⟩
 obtain ⟨n2,hl2⟩:∃ n,n=ys.length:=⟨_,rfl⟩
 rw [← hl1] at nx
 rw [← hl2] at ny
 have HNX:=Lib.hid hx
 have HMX:=Lib.hid (fun W' (hb:Below W.heap.size W W') (x:Int)=>zg1 _ xs x W' (hx.below hb) sx (by omega))
 have HMY:=Lib.hid (fun W' (hb:Below W.heap.size W W') (x:Int)=>zg1 _ ys x W' (hy.below hb) sy (by omega))
 rw [← hl1] at HMX
 rw [← hl2] at HMY
 rw [← hl1,← hl2]
 have HL:=Lib.hid (And.intro hl1 hl2)
 clear hx hy sx sy HNX hl1 hl2
 by_cases hlt:n2 < n1
 ·have ea:andL xs ys=zdu ys xs:=by unfold andL;rw [if_pos (by have:=HL.out;omega)]
  rw [ea]
  have hgt:(n1:Int) > n2:=by omega
  clear ea
  go_enter Tryz.func62,Tryz.ntmps62
  go_wp2_with fail
  go_loopg [7,21] n2 (fun gg s7 s21 wr=>∃ j:Nat,j+gg=n2∧s21=.int .i64 j∧Hid (wr.ownsRow W.heap.size 2 1 s7 (zdu (ys.take j) xs).length ((zdu (ys.take j) xs).map (Value.int .i64))∧Below W.heap.size W wr))
  case atStart=>exact ⟨0,by omega,rfl,Lib.hid ⟨by simp [zdu];exact World.ownsRow_nil _ _ _ _,Below.refl _ _⟩⟩
  case round=>
   obtain ⟨j,hjg,rfl,HA⟩:=hrel
   by_cases hj:(j:Int) < n2
   ·have hj1:j < ys.length:=by have:=HL.out;omega
    obtain ⟨pp,cc,e0,hcv⟩:=HY.out.below HA.out.2
    injection e0 with e1 e2 e3
    subst e1
    obtain ⟨g,off,rfl,hcj⟩:=hcv (by intro q;rw [q] at hj1;simp at hj1)
    obtain ⟨x,hxj⟩:∃ x,x=ys[j]:=⟨_,rfl⟩
    have cj:wr.cell? ⟨g,off+j,none⟩=some (.int .i64 x):=by
     rw [hcj j hj1,hxj]
     simp [hj1]
    have etk:zdu (ys.take (j+1)) xs=zdu (ys.take j) xs++(if xs.contains x then [x] else []):=by
     unfold zdu
     rw [List.take_succ_eq_append_getElem hj1,List.filter_append,← hxj]
     by_cases q:xs.contains x=true
     ·rw [if_pos q,List.filter_cons_of_pos q];rfl
     ·rw [if_neg q,List.filter_cons_of_neg q];rfl
    have hlen:(zdu (ys.take j) xs).length≤2097152:=by
     have:=zmh (ys.take j) xs
     have:=List.length_take_le j ys
     have:=HL.out
     omega
    have HC:=Lib.hid (HMX.out wr HA.out.2 x)
    obtain ⟨r,hr⟩:∃ r,r=xs.contains x:=⟨_,rfl⟩
    rw [← hr] at HC etk
    have HT:=Lib.hid etk
    obtain ⟨l,hl⟩:∃ l,l=zdu (ys.take j) xs:=⟨_,rfl⟩
    rw [← hl] at HA HT hlen
    clear hcj hcv e2 e3 hxj hr etk hl
    cases r with
    | true=>
      go_wp2_with (first
       |(go_at_call 76;(with_reducible refine HC.out.mono ?_);rintro e w1 ⟨rfl,q,rfl⟩
         have ho:(wr.drewN q).ownsRow W.heap.size 2 1 _ l.length (l.map (Value.int .i64)):=zfr HA.out.1
         have hb:Below W.heap.size W (wr.drewN q):=zbt HA.out.2 q
         generalize wr.drewN q=w1 at *)
       |(at_builtin;refine wpList_append_own_at _ rfl _ _ 77 rfl W.heap.size 2 i0 (.int .i64 0) 1 8 Tryz.underlying77 hi hz0 hz1 hz2 rfl (by decide) _ _ _ rfl (ho.alloc _) ⟨w1.heap.size,0,none⟩ 1 1 [.int .i64 x] rfl rfl (zbp w1 [.int .i64 x] 2) (by simp [Value.oneCell']) ?_ ?_ ?_ ?_))
      all_goals (try (first |(unfold maxLen;omega) | omega |(simp;have:=hb.size;omega)))
      intro v' w5 ho5 hg5 _ hloc5
      have hb5:Below W.heap.size W w5:=(hb.alloc hb.size _).grown hg5 (by have:=hb.size;simp;omega) (fun j e=>(ho.lt j e).1)
      have HB:=Lib.hid (show w5.ownsRow W.heap.size 2 1 v' (l++[x]).length ((l++[x]).map (Value.int .i64)) by rw [List.length_append,List.map_append];exact ho5)
      clear ho5 hg5 hloc5 ho hb
      go_wp2_with fail
      go_roundg (gk - 1)
      case measure=>omega
      case rel=>exact ⟨j+1,by omega,by go_num,Lib.hid (by rw [HT.out,if_pos (by trivial)];exact ⟨HB.out,hb5⟩)⟩
    | false=>
      go_wp2_with (first
       |(go_at_call 76;(with_reducible refine HC.out.mono ?_);rintro e w1 ⟨rfl,q,rfl⟩
         have ho:(wr.drewN q).ownsRow W.heap.size 2 1 _ l.length (l.map (Value.int .i64)):=zfr HA.out.1
         have hb:Below W.heap.size W (wr.drewN q):=zbt HA.out.2 q
         generalize wr.drewN q=w1 at *))
      go_roundg (gk - 1)
      case measure=>omega
      case rel=>exact ⟨j+1,by omega,by go_num,Lib.hid (by rw [HT.out,if_neg (by simp),List.append_nil];exact ⟨ho,hb⟩)⟩
   ·have e:ys.take j=ys:=by rw [List.take_of_length_le];have:=HL.out;omega
    have hA:=HA.out
    rw [e] at hA
    have HZ:=Lib.hid hA
    clear hA HA e
    go_wp2_with fail
    go_ret
    exact ⟨_,rfl,HZ.out⟩
 ·have ea:andL xs ys=zdu xs ys:=by unfold andL;rw [if_neg (by have:=HL.out;omega)]
  rw [ea]
  have hgt:¬ (n1:Int) > n2:=by omega
  clear ea
  go_enter Tryz.func62,Tryz.ntmps62
  go_wp2_with fail
  go_loopg [7,21] n1 (fun gg s7 s21 wr=>∃ j:Nat,j+gg=n1∧s21=.int .i64 j∧Hid (wr.ownsRow W.heap.size 2 1 s7 (zdu (xs.take j) ys).length ((zdu (xs.take j) ys).map (Value.int .i64))∧Below W.heap.size W wr))
  case atStart=>exact ⟨0,by omega,rfl,Lib.hid ⟨by simp [zdu];exact World.ownsRow_nil _ _ _ _,Below.refl _ _⟩⟩
  case round=>
   obtain ⟨j,hjg,rfl,HA⟩:=hrel
   by_cases hj:(j:Int) < n1
   ·have hj1:j < xs.length:=by have:=HL.out;omega
    obtain ⟨pp,cc,e0,hcv⟩:=HX.out.below HA.out.2
    injection e0 with e1 e2 e3
    subst e1
    obtain ⟨g,off,rfl,hcj⟩:=hcv (by intro q;rw [q] at hj1;simp at hj1)
    obtain ⟨x,hxj⟩:∃ x,x=xs[j]:=⟨_,rfl⟩
    have cj:wr.cell? ⟨g,off+j,none⟩=some (.int .i64 x):=by
     rw [hcj j hj1,hxj]
     simp [hj1]
    have etk:zdu (xs.take (j+1)) ys=zdu (xs.take j) ys++(if ys.contains x then [x] else []):=by
     unfold zdu
     rw [List.take_succ_eq_append_getElem hj1,List.filter_append,← hxj]
     by_cases q:ys.contains x=true
     ·rw [if_pos q,List.filter_cons_of_pos q];rfl
     ·rw [if_neg q,List.filter_cons_of_neg q];rfl
    have hlen:(zdu (xs.take j) ys).length≤2097152:=by
     have:=zmh (xs.take j) ys
     have:=List.length_take_le j xs
     have:=HL.out
     omega
    have HC:=Lib.hid (HMY.out wr HA.out.2 x)
    obtain ⟨r,hr⟩:∃ r,r=ys.contains x:=⟨_,rfl⟩
    rw [← hr] at HC etk
    have HT:=Lib.hid etk
    obtain ⟨l,hl⟩:∃ l,l=zdu (xs.take j) ys:=⟨_,rfl⟩
    rw [← hl] at HA HT hlen
    clear hcj hcv e2 e3 hxj hr etk hl
    cases r with
    | true=>
      go_wp2_with (first
       |(go_at_call 76;(with_reducible refine HC.out.mono ?_);rintro e w1 ⟨rfl,q,rfl⟩
         have ho:(wr.drewN q).ownsRow W.heap.size 2 1 _ l.length (l.map (Value.int .i64)):=zfr HA.out.1
         have hb:Below W.heap.size W (wr.drewN q):=zbt HA.out.2 q
         generalize wr.drewN q=w1 at *)
       |(at_builtin;refine wpList_append_own_at _ rfl _ _ 77 rfl W.heap.size 2 i0 (.int .i64 0) 1 8 Tryz.underlying77 hi hz0 hz1 hz2 rfl (by decide) _ _ _ rfl (ho.alloc _) ⟨w1.heap.size,0,none⟩ 1 1 [.int .i64 x] rfl rfl (zbp w1 [.int .i64 x] 2) (by simp [Value.oneCell']) ?_ ?_ ?_ ?_))
      all_goals (try (first |(unfold maxLen;omega) | omega |(simp;have:=hb.size;omega)))
      intro v' w5 ho5 hg5 _ hloc5
      have hb5:Below W.heap.size W w5:=(hb.alloc hb.size _).grown hg5 (by have:=hb.size;simp;omega) (fun j e=>(ho.lt j e).1)
      have HB:=Lib.hid (show w5.ownsRow W.heap.size 2 1 v' (l++[x]).length ((l++[x]).map (Value.int .i64)) by rw [List.length_append,List.map_append];exact ho5)
      clear ho5 hg5 hloc5 ho hb
      go_wp2_with fail
      go_roundg (gk - 1)
      case measure=>omega
      case rel=>exact ⟨j+1,by omega,by go_num,Lib.hid (by rw [HT.out,if_pos (by trivial)];exact ⟨HB.out,hb5⟩)⟩
    | false=>
      go_wp2_with (first
       |(go_at_call 76;(with_reducible refine HC.out.mono ?_);rintro e w1 ⟨rfl,q,rfl⟩
         have ho:(wr.drewN q).ownsRow W.heap.size 2 1 _ l.length (l.map (Value.int .i64)):=zfr HA.out.1
         have hb:Below W.heap.size W (wr.drewN q):=zbt HA.out.2 q
         generalize wr.drewN q=w1 at *))
      go_roundg (gk - 1)
      case measure=>omega
      case rel=>exact ⟨j+1,by omega,by go_num,Lib.hid (by rw [HT.out,if_neg (by simp),List.append_nil];exact ⟨ho,hb⟩)⟩
   ·have e:xs.take j=xs:=by rw [List.take_of_length_le];have:=HL.out;omega
    have hA:=HA.out
    rw [e] at hA
    have HZ:=Lib.hid hA
    clear hA HA e
    go_wp2_with fail
    go_ret
    exact ⟨_,rfl,HZ.out⟩
end Go.Proofs.YtcfmenkigolnoaaGreatDoor

/- GAP -/
namespace Go.Proofs.YtcfmenkigolnoaaGreatDoor
open Go.RowKit
theorem zp3 (v:Value) (zs:List Int) (w:World) (h:zb3 w v zs) (hn:zs.length≤2097152):
 Calls Tryz.prog 63 #[v] w fun e w'=>∃ v',e=.returned v'∧w'.ownsRow w.heap.size 2 1 v' zs.length (zs.map (Value.int .i64))∧Below w.heap.size w w':=by
 obtain ⟨p,cap,rfl,h⟩:=h
 cases p with
 | none=>
   have:zs=[]:=by
    cases zs with
    | nil=>rfl
    | cons z l=>obtain ⟨g,off,e,_⟩:=h (by simp);cases e
   subst this
   refine (AnyG.slices_Clone_int_nil Tryz.cloneJ 0 cap w).mono ?_
   rintro e w' ⟨rfl,rfl⟩
   exact ⟨_,rfl,World.ownsRow_nil _ _ _ _,Below.refl _ _⟩
 | some a=>
   by_cases h0:zs=[]
   ·subst h0
    refine (AnyG.slices_Clone_int_zero Tryz.cloneJ a cap w).mono ?_
    rintro e w' ⟨v',rfl,ho,_,hb⟩
    exact ⟨v',rfl,ho,hb⟩
   ·obtain ⟨g,off,e,hc⟩:=h h0
    cases e
    refine (AnyG.slices_Clone_int Tryz.cloneJ g off zs.length cap zs w (Nat.le_refl _) (by omega) hc).mono ?_
    rintro e w' ⟨v',rfl,ho,_,hb⟩
    rw [List.take_length] at ho
    exact ⟨v',rfl,ho,hb⟩
theorem zgd {κ:Type} [DecidableEq κ] (E F:List (κ × Int)) (x:κ):grp (E++F) x=grp E x++grp F x:=by
 unfold grp
 rw [List.filter_append,List.map_append]
theorem zjp {κ:Type} [DecidableEq κ] (f:Int→List (κ × Int)) (x:κ):(nums:List Int)→grp (nums.flatMap f) x=nums.flatMap fun i=>grp (f i) x
 | []=>rfl
 | i::l=>by rw [List.flatMap_cons,List.flatMap_cons,zgd,zjp f x l]
theorem zn2 (p:Int→Bool):(nums:List Int)→(nums.flatMap fun i=>if p i=true then [i] else [])=nums.filter p
 | []=>rfl
 | i::l=>by
   rw [List.flatMap_cons,zn2 p l]
   by_cases h:p i=true
   ·rw [if_pos h,List.filter_cons_of_pos h];rfl
   ·rw [if_neg h,List.filter_cons_of_neg h];rfl
def ze6 (l:List zap) (t:ByteArray) (i:Int):Bool:=decide (bl t∈(zdd l i).map bl)
theorem zs1 (i:Int) (x:List UInt8):(L:List (List UInt8))→L.Nodup→grp (L.map fun t=>(t,i)) x=if decide (x∈L)=true then [i] else []
 | [],_=>by simp [grp]
 | a::L,h=>by
   rw [List.nodup_cons] at h
   have ih:=zs1 i x L h.2
   rw [List.map_cons,show ((a,i)::L.map fun t=>(t,i))=[(a,i)]++L.map (fun t=>(t,i)) from rfl,zgd,ih]
   by_cases e:a=x
   ·subst e
    have:decide (a∈L)=false:=decide_eq_false h.1
    simp [grp,this]
   ·have e2:¬ x=a:=fun q=>e q.symm
    simp [grp,e,e2]
theorem zs2 (l:List zap) (nums:List Int) (t:ByteArray) (h:∀ i∈nums,((zdd l i).map bl).Nodup):grp (nums.flatMap (evN l)) (bl t)=nums.filter (ze6 l t):=by
 rw [zjp,← zn2]
 have:∀ i∈nums,grp (evN l i) (bl t)=if ze6 l t i=true then [i] else []:=fun i hi=>by
  have q:=zs1 i (bl t) ((zdd l i).map bl) (h i hi)
  rw [List.map_map] at q
  exact q
 induction nums with
 | nil=>rfl
 | cons i r ih=>
   rw [List.flatMap_cons,List.flatMap_cons,this i (by simp),ih (fun j hj=>h j (by simp [hj])) (fun j hj=>this j (by simp [hj]))]
theorem zgp (nums:List Int) (p q:Int→Bool):zdu (nums.filter p) (nums.filter q)=nums.filter fun i=>p i && q i:=by
 unfold zdu
 rw [List.filter_filter]
 refine List.filter_congr fun x hx=>?_
 have:(nums.filter q).contains x=q x:=by
  cases h:q x with
  | true=>simp [hx,h]
  | false=>simp [h]
 rw [this,Bool.and_comm]
theorem zn3 (nums:List Int) (p q:Int→Bool):andL (nums.filter p) (nums.filter q)=nums.filter fun i=>p i && q i:=by
 unfold andL
 split
 ·rw [zgp]
  exact List.filter_congr fun x _=>Bool.and_comm _ _
 ·exact zgp nums p q
theorem zmi {l:List zap} {a:zap} (hd:(l.map zap.id).Nodup) (ha:a∈l) (h:(a.labels.map bl).Nodup):((zdd l a.id).map bl).Nodup:=by
 rw [zfa hd ha]
 have e:(sortS a.labels).map bl=(a.labels.map bl).mergeSort leB:=by
  unfold sortS
  rw [List.map_map]
  exact (List.map_congr_left fun x _=>zox x).trans (List.map_id _)
 rw [e]
 exact (List.mergeSort_perm _ _).nodup_iff.2 h
end Go.Proofs.YtcfmenkigolnoaaGreatDoor

/- GLB -/
namespace Go.Proofs.YtcfmenkigolnoaaGreatDoor
open Go.RowKit
theorem zero77 (w:World):(zeroValue 77).run Tryz.prog w=.ok (.slice none 0 0) w:=by kernel_rfl
def zd2 (g:zau):List Int:=(g.nodes.map zap.id).mergeSort leI
def zdm (g:zau) (ls:List ByteArray):List Int:=(zd2 g).filter fun i=>ls.all fun t=>ze6 g.nodes t i
theorem zmj (g:zau):(zd2 g).Pairwise (·≤·):=by
 have:=List.pairwise_mergeSort (le:=leI) zhp zix (g.nodes.map zap.id)
 exact this.imp fun h=>by simpa [leI] using h
theorem zfs (g:zau):(zd2 g).length=g.nodes.length:=by unfold zd2;rw [List.length_mergeSort,List.length_map]
theorem zes (l:List Int) (p:Int→Bool) (n:Nat) (h:l.length≤n):(l.filter p).length≤n:=Nat.le_trans (List.length_filter_le _ _) h
theorem zmk (g:zau) (ls:List ByteArray):zdm g (setS ls)=zdm g ls:=by
 unfold zdm
 refine List.filter_congr fun i _=>?_
 rw [Bool.eq_iff_iff]
 simp only [List.all_eq_true,zfm]
theorem zvg (p:ByteArray→Bool) (L:List ByteArray) (j:Nat) (hj:j < L.length):(L.take (j+1)).all p=((L.take j).all p && p L[j]):=by
 rw [List.take_succ_eq_append_getElem hj,List.all_append]
 simp
set_option maxHeartbeats 6400000 in
set_option maxRecDepth 20000 in
theorem zs3 (W:World) (s:Nat) (g:zau) (h:zdh W s g) (hd:(g.nodes.map zap.id).Nodup) (hl:∀ a∈g.nodes,(a.labels.map bl).Nodup) (hn:g.nodes.length≤131072) (v:Value) (ls:List ByteArray) (hv:zcu W v ls) (hls:ls.length≤2097152) (ht:∀ t∈ls,t.size≤2097152):
 Calls Tryz.prog 31 #[.pointer (some ⟨s,0,none⟩),v] W fun e w'=>∃ R,e=.returned R∧w'.ownsRow W.heap.size 2 1 R (zdm g ls).length ((zdm g ls).map (Value.int .i64))∧Below W.heap.size W w':=by
 have hI:∀ i∈zd2 g,((zdd g.nodes i).map bl).Nodup:=fun i hi=>by
  obtain ⟨a,ha,rfl⟩:=List.mem_map.1 (List.mem_mergeSort.1 hi)
  exact zmi hd ha (hl a ha)
 obtain ⟨nums,hnums⟩:∃ nums,nums=zd2 g:=⟨_,rfl⟩
 have hnl:nums.length≤131072:=by rw [hnums,zfs];exact hn
 have hns:nums.Pairwise (·≤·):=by rw [hnums];exact zmj g
 have hS:=zht v ls W hv hls
 obtain ⟨L,hL⟩:∃ L,L=setS ls:=⟨_,rfl⟩
 rw [← hL] at hS
 have hLz:L.length≤2097152:=by rw [hL];unfold setS;rw [List.length_map];exact Nat.le_trans (zfi _) (by rw [List.length_map];exact hls)
 have hLt:∀ t∈L,t.size≤2097152:=fun t q=>ht t ((zfm ls t).1 (by rw [← hL];exact q))
 rw [← zmk,← hL]
 have eL:zdm g L=nums.filter fun i=>L.all fun t=>ze6 g.nodes t i:=by rw [hnums];rfl
 rw [eL]
 rw [← hnums] at hI
 have HST:=Lib.hid h
 have HI:=Lib.hid hI
 have HS:=Lib.hid hS
 have HLT:=Lib.hid hLt
 have HNS:=Lib.hid hns
 obtain ⟨m0,m1,m4,m5,V2,V3,q0,_,_,q3,_,_,_⟩:=h.is
 have iv:=zbe q3
 have e2:(g.nodes.map zap.id).mergeSort leI=nums:=hnums.symm
 rw [e2] at iv
 have c2:=zac q0 2 rfl
 have HIV:=Lib.hid iv
 have HNU:=Lib.hid hnums
 clear hd hl hn hv hls ht hI hS hLt hns eL hL iv q3 h e2 hnums
 go_enter Tryz.func31,Tryz.ntmps31
 go_wp2_with (first
  |(go_at_call 53;(with_reducible refine HS.out.mono ?_);rintro e w1 ⟨V,rfl,hV,hb1⟩
    obtain ⟨pV,cV,rfl⟩:=zbc hV))
 obtain ⟨m,hm⟩:∃ m,m=L.length:=⟨_,rfl⟩
 have hT:=zhs hV
 rw [← hm] at hT ⊢
 have HT:=Lib.hid hT
 have HM:=Lib.hid hm
 have HB1:=Lib.hid hb1
 have hmz:m≤2097152:=by omega
 clear hV hT hm hb1 c2 q0
 go_loopg [5,15] m (fun gg s5 s15 wr=>∃ j:Nat,j+gg=m∧s15=.int .i64 j∧Hid (zb3 wr s5 (nums.filter fun i=>(L.take j).all fun t=>ze6 g.nodes t i)∧Below w1.heap.size w1 wr))
 case atStart=>exact ⟨0,by omega,rfl,Lib.hid ⟨by have q:=HIV.out.below HB1.out;rwa [show (nums.filter fun i=>(L.take 0).all fun t=>ze6 g.nodes t i)=nums from List.filter_eq_self.2 (by simp)],Below.refl _ _⟩⟩
 case round=>
  obtain ⟨j,hjg,rfl,HA⟩:=hrel
  by_cases hj:(j:Int) < m
  ·have hj1:j < L.length:=by have:=HM.out;omega
   obtain ⟨pp,cc,e0,hcv⟩:=HT.out.below HA.out.2
   injection e0 with e1 e2 e3
   subst e1
   obtain ⟨g2,off,rfl,hcj⟩:=hcv (by intro q;rw [q] at hj1;simp at hj1)
   obtain ⟨t,htj⟩:∃ t,t=L[j]:=⟨_,rfl⟩
   have cj:wr.cell? ⟨g2,off+j,none⟩=some (.string t):=by
    have:=hcj j (by simpa using hj1)
    rw [this,htj]
    simp [hj1]
   have htz:=HLT.out t (by rw [htj];exact List.getElem_mem hj1)
   have st:=HST.out.below (zab HB1.out HA.out.2 HB1.out.size)
   obtain ⟨k0,k1,k4,k5,U2,U3,r0,_,_,_,_,r5,_⟩:=st.is
   have c4:=zac r0 4 rfl
   obtain ⟨nn,ff,hnn,hmap,h3,_⟩:=r5
   have hkey:keyOf Tryz.prog 9 (.string t)=some (.string (bl t)):=Go.WideMaps.keyOf_string_mk Tryz.underlying9 (by unfold maxLen;omega)
   have hrow:=zbe (zez h3 (bl t))
   have e4:(g.nodes.map zap.id).mergeSort leI=nums:=HNU.out.symm
   rw [e4,zs2 g.nodes nums t HI.out] at hrow
   have HC:=Lib.hid (andAt _ _ _ _ wr HA.out.1 hrow (HNS.out.filter _) (HNS.out.filter _) (zes _ _ _ (by omega)) (zes _ _ _ (by omega)))
   rw [zn3] at HC
   have etk:(nums.filter fun i=>((L.take j).all fun t=>ze6 g.nodes t i) && ze6 g.nodes t i)=nums.filter fun i=>(L.take (j+1)).all fun t=>ze6 g.nodes t i:=by
    refine List.filter_congr fun i _=>?_
    rw [zvg _ L j hj1,htj]
   rw [etk] at HC
   obtain ⟨v0,hv0⟩:∃ v0,v0=(ff (.string (bl t))).getD (.slice none 0 0):=⟨_,rfl⟩
   rw [← hv0] at HC
   have HV0:=Lib.hid hv0
   clear hv0
   clear hcj hcv e2 e3 htj etk hrow h3 hnn st htz e4
   go_wp2_with (first
    |(at_lookup;refine zbs rfl _ _ 75 rfl 9 77 law9 Tryz.underlying75 (zero77 _) k4 nn rfl hmap _ (.string (bl t)) rfl hkey trivial ?_;rw [← HV0.out])
    |(go_at_call 62;(with_reducible refine HC.out.mono ?_);rintro e w3 ⟨R,rfl,hR,hb3⟩))
   have hAN:=Lib.hid (And.intro (zbe hR) (zab HA.out.2 hb3 HA.out.2.size))
   go_roundg (gk - 1)
   case measure=>omega
   case rel=>exact ⟨j+1,by omega,by go_num,hAN⟩
  ·have e:L.take j=L:=by rw [List.take_of_length_le];have:=HM.out;omega
   have hA:=HA.out
   rw [e] at hA
   have HC:=Lib.hid (zp3 _ _ wr hA.1 (zes _ _ _ (by omega)))
   have HB:=Lib.hid (zab HB1.out hA.2 HB1.out.size)
   clear hA HA e
   go_wp2_with (first
    |(go_at_call 63;(with_reducible refine HC.out.mono ?_);rintro e w3 ⟨R,rfl,hR,hb3⟩))
   go_ret
   exact ⟨_,rfl,zcd hR HB.out.size,zab HB.out hb3 HB.out.size⟩
end Go.Proofs.YtcfmenkigolnoaaGreatDoor

/- GEN -/
namespace Go.Proofs.YtcfmenkigolnoaaGreatDoor
open Go.RowKit
set_option maxHeartbeats 3200000 in
set_option maxRecDepth 20000 in
theorem zvh (V U:Value) (xs ys:List Int) (W:World) (hx:zb3 W V xs) (hy:zb3 W U ys) (hn:xs.length≤2097152):
 Calls Tryz.prog 24 #[V,U] W fun e w'=>e=.returned (.bool (decide (xs=ys)))∧Below W.heap.size W w':=by
 obtain ⟨p1,c1,rfl,hc1⟩:=hx
 obtain ⟨p2,c2,rfl,hc2⟩:=hy
 obtain ⟨n,hl1⟩:∃ n,n=xs.length:=⟨_,rfl⟩
 obtain ⟨m,hl2⟩:∃ m,m=ys.length:=⟨_,rfl⟩
 obtain ⟨r,hr⟩:∃ r,r=decide (xs=ys):=⟨_,rfl⟩
 rw [← hr,← hl1,← hl2]
 rw [← hl1] at hn
 have HC1:=Lib.hid hc1
 have HC2:=Lib.hid hc2
 have HR:=Lib.hid hr
 have HL:=Lib.hid (And.intro hl1 hl2)
 clear hc1 hc2 hr hl1 hl2
 by_cases e:n=m
 ·subst e
  go_enter Tryz.func24,Tryz.ntmps24
  go_wp2_with fail
  go_loopg [5] n (fun gg s5 wr=>∃ j:Nat,j+gg=n∧s5=.int .i64 j∧Hid ((∀ (t:Nat) (h1:t < xs.length) (h2:t < ys.length),t < j→xs[t]=ys[t])∧wr.heap=W.heap∧Below W.heap.size W wr))
  case atStart=>exact ⟨0,by omega,rfl,Lib.hid ⟨fun t _ _ h=>by omega,rfl,Below.refl _ _⟩⟩
  case round=>
   obtain ⟨j,hjg,rfl,HA⟩:=hrel
   by_cases hj:(j:Int) < n
   ·have hj1:j < xs.length:=by have:=HL.out;omega
    have hj2:j < ys.length:=by have:=HL.out;omega
    obtain ⟨g1,o1,rfl,hcj1⟩:=HC1.out (by intro q;rw [q] at hj1;simp at hj1)
    obtain ⟨g2,o2,rfl,hcj2⟩:=HC2.out (by intro q;rw [q] at hj2;simp at hj2)
    obtain ⟨x,hxj⟩:∃ x,x=xs[j]:=⟨_,rfl⟩
    obtain ⟨y,hyj⟩:∃ y,y=ys[j]:=⟨_,rfl⟩
    have C1:∀ W':World,W'.heap=W.heap→W'.cell? ⟨g1,o1+j,none⟩=some (.int .i64 x):=fun W' h=>by
     have q:=hcj1 j hj1
     unfold World.cell? at q ⊢
     rw [h,q,hxj]
     simp [hj1]
    have C2:∀ W':World,W'.heap=W.heap→W'.cell? ⟨g2,o2+j,none⟩=some (.int .i64 y):=fun W' h=>by
     have q:=hcj2 j hj2
     unfold World.cell? at q ⊢
     rw [h,q,hyj]
     simp [hj2]
    have hh:=HA.out.2.1
    have HXY:=Lib.hid (And.intro hxj hyj)
    clear hcj1 hcj2 hxj hyj
    go_upto_region 6 with fail
    refine wp_region_held_drew (S:=fun W'=>W'.heap=W.heap) (by kernel_rfl) hh (fun _=>?_)
    refine tg (i:=0) (.slice (some ⟨g1,o1,none⟩) n c1) rfl (hh) ?_
    refine tg (i:=1) (.int .i64 (j:Int)) rfl (hh) ?_
    refine tg (i:=4) (.slice (some ⟨g2,o2,none⟩) n c2) rfl (hh) ?_
    refine tg (i:=5) (.int .i64 (j:Int)) rfl (hh) ?_
    refine tg (i:=2) (.pointer (some ⟨g1,o1+j,none⟩)) rfl (hh) ?_
    refine tg (i:=6) (.pointer (some ⟨g2,o2+j,none⟩)) rfl (hh) ?_
    refine tk (i:=3) (v:=.int .i64 x) rfl (Or.inl ⟨by rfl,fun W' h=>by have q:=C1 W' h;go_simp⟩) (hh) ?_
    refine tk (i:=7) (v:=.int .i64 y) rfl (Or.inl ⟨by rfl,fun W' h=>by have q:=C2 W' h;go_simp⟩) (hh) ?_
    refine tk (i:=8) (v:=.bool (x != y)) rfl (Or.inl ⟨by rfl,fun W _=>by go_simp;try rfl⟩) (hh) ?_
    refine wpAnyH_done (by kernel_rfl) ?_ _
    by_cases q:x=y
    ·have q2:(x != y)=false:=by simpa using q
     rw [q2]
     have HZ:Hid ((∀ (t:Nat) (h1:t < xs.length) (h2:t < ys.length),t < j+1→xs[t]=ys[t])∧wr.drew.heap=W.heap∧Below W.heap.size W wr.drew):=Lib.hid ⟨fun t h1 h2 h=>by
      by_cases e:t=j
      ·subst e
       rw [← HXY.out.1,← HXY.out.2]
       exact q
      ·exact HA.out.1 t h1 h2 (by omega),hh,HA.out.2.2.drew⟩
     clear q q2 hh C1 C2
     go_wp2_with fail
     go_roundg (gk - 1)
     case measure=>omega
     case rel=>exact ⟨j+1,by omega,by go_num,HZ⟩
    ·have q2:(x != y)=true:=by simpa using q
     rw [q2]
     have hf:Hid (r=false):=Lib.hid <| by
      rw [HR.out]
      refine decide_eq_false fun e=>q ?_
      rw [HXY.out.1,HXY.out.2]
      subst e
      rfl
     have HB:=Lib.hid (HA.out.2.2.drew)
     clear q q2 hh C1 C2
     go_wp2_with fail
     go_ret
     exact ⟨by rw [hf.out];rfl,HB.out⟩
   ·have ht:Hid (r=true):=Lib.hid <| by
     rw [HR.out]
     refine decide_eq_true ?_
     have:=HL.out
     exact List.ext_getElem (by omega) fun t h1 h2=>HA.out.1 t h1 h2 (by omega)
    go_wp2_with fail
    go_ret
    exact ⟨by rw [ht.out];rfl,HA.out.2.2⟩
 ·have hf:Hid (r=false):=Lib.hid <| by
   rw [HR.out]
   refine decide_eq_false fun q=>e ?_
   have:=HL.out
   rw [this.1,this.2,q]
  have e3:¬ (n:Int)=m:=by omega
  go_enter Tryz.func24,Tryz.ntmps24
  go_wp2_with fail
  go_ret
  exact ⟨by rw [hf.out];rfl,Below.refl _ _⟩
end Go.Proofs.YtcfmenkigolnoaaGreatDoor

/- GHP -/
namespace Go.Proofs.YtcfmenkigolnoaaGreatDoor
open Go.RowKit
theorem zo7 {κ:Type} [DecidableEq κ] (i:Int) (x:κ):(L:List κ)→L.Nodup→grp (L.map fun t=>(t,i)) x=if decide (x∈L)=true then [i] else []
 | [],_=>by simp [grp]
 | a::L,h=>by
   rw [List.nodup_cons] at h
   have ih:=zo7 i x L h.2
   rw [List.map_cons,show ((a,i)::L.map fun t=>(t,i))=[(a,i)]++L.map (fun t=>(t,i)) from rfl,zgd,ih]
   by_cases e:a=x
   ·subst e
    have:decide (a∈L)=false:=decide_eq_false h.1
    simp [grp,this]
   ·have e2:¬ x=a:=fun q=>e q.symm
    simp [grp,e,e2]
theorem zn4 (s d:Int):(zee s d).Nodup:=by
 unfold zee
 by_cases h:d=s
 ·subst h
  simp
 ·have h2:¬ s=d:=fun q=>h q.symm
  simp [h,h2]
theorem zp4 {s d:Int} (h1:(Lit.int .i64 s).wf=true) (h2:(Lit.int .i64 d).wf=true):((zee s d).map mkW).Nodup:=by
 have e:((zee s d).map mkW).map Subtype.val=zee s d:=by
  rw [List.map_map]
  exact (List.map_congr_left fun p hp=>zwf (zo5 h1 h2 p hp)).trans (List.map_id _)
 have q:=zn4 s d
 rw [← e] at q
 exact List.Pairwise.of_map Subtype.val (fun a b h r=>h (by rw [r])) q
def zml (l:List zat) (w:Way) (i:Int):Bool:=decide (w∈(zdl l i).map mkW)
theorem grp_way (l:List zat) (nums:List Int) (w:Way) (h:∀ i∈nums,((zdl l i).map mkW).Nodup):grp (nums.flatMap (evE l)) w=nums.filter (zml l w):=by
 rw [zjp,← zn2]
 have:∀ i∈nums,grp (evE l i) w=if zml l w i=true then [i] else []:=fun i hi=>by
  have q:=zo7 i w ((zdl l i).map mkW) (h i hi)
  rw [List.map_map] at q
  unfold evE zml
  exact q.trans (by congr)
 induction nums with
 | nil=>rfl
 | cons i r ih=>
   rw [List.flatMap_cons,List.flatMap_cons,this i (by simp),ih (fun j hj=>h j (by simp [hj])) (fun j hj=>this j (by simp [hj]))]
theorem zio {l:List zat} (hd:(l.map zat.id).Nodup) {a:zat} (ha:a∈l) (h1:(Lit.int .i64 a.src).wf=true) (h2:(Lit.int .i64 a.dst).wf=true):((zdl l a.id).map mkW).Nodup:=by
 rw [zfb hd ha]
 exact zp4 h1 h2
end Go.Proofs.YtcfmenkigolnoaaGreatDoor

/- GHS -/
namespace Go.Proofs.YtcfmenkigolnoaaGreatDoor
open Go.RowKit
def memB (t:ByteArray) (ts:List ByteArray):Bool:=decide (bl t∈ts.map bl)
theorem zef (t:ByteArray) (ts:List ByteArray):memB t ts=true↔t∈ts:=by
 unfold memB
 rw [decide_eq_true_iff]
 refine ⟨fun h=>?_,fun h=>List.mem_map.2 ⟨t,h,rfl⟩⟩
 obtain ⟨u,hu,e⟩:=List.mem_map.1 h
 rw [← zoy e]
 exact hu
theorem zhz {t:ByteArray} {ts:List ByteArray} (h:¬ t∈ts):memB t ts=false:=by
 rw [Bool.eq_false_iff]
 exact fun q=>h ((zef t ts).1 q)
theorem zn5 {x y:ByteArray} (h:¬ x=y):(x.toList == y.toList)=false:=by
 rw [beq_eq_false_iff_ne]
 intro e
 rw [Lib.toList_data,Lib.toList_data] at e
 exact h (zoy e)
theorem zvi (a:ByteArray) (w:World):Calls Tryz.prog 138 #[.string a] w fun e w'=>e=.returned (.bool false)∧w'=w:=by
 go_enter Tryz.func138,Tryz.ntmps138
 go_wp2_with fail
 go_ret
 exact ⟨by simp,rfl⟩
theorem zs4 (a:ByteArray) (w:World):Calls Tryz.prog 113 #[.string a] w fun e w'=>e=.returned (.bool false)∧w'=w:=by
 go_enter Tryz.func113,Tryz.ntmps113
 go_wp2_with fail
 go_ret
 exact ⟨by simp,rfl⟩
theorem zs5 (a b:ByteArray) (w:World):Calls Tryz.prog 112 #[.string a,.string b] w fun e w'=>e=.returned (.bool (decide (bl a < bl b)))∧w'=w:=by
 have HN:=Lib.hid (fun x W=>zvi x W)
 go_enter Tryz.func112,Tryz.ntmps112
 go_wp2_with (first
  |(go_at_call 138;(with_reducible refine (HN.out _ _).mono ?_);rintro e w1 ⟨rfl,rfl⟩))
 go_ret
 refine ⟨?_,rfl⟩
 simp [bl,Lib.toList_data,bytesLess_eq]
theorem zfc {ts:List ByteArray} (hs:ts.Pairwise (fun x y=>leT x y=true)) (i j:Nat) (hi:i < ts.length) (hj:j < ts.length) (h:i≤j):bl ts[i]≤bl ts[j]:=by
 by_cases e:i=j
 ·subst e
  exact List.le_refl _
 ·have:=List.pairwise_iff_getElem.1 hs i j hi hj (by omega)
  simpa [leT,leB] using this
set_option maxHeartbeats 6400000 in
set_option maxRecDepth 100000 in
theorem zp5 (V:Value) (ts:List ByteArray) (ky:ByteArray) (w:World) (h:zcu w V ts) (hs:ts.Pairwise (fun x y=>leT x y=true)) (hn:ts.length≤2097152):
 Calls Tryz.prog 92 #[V,.string ky] w fun e w'=>∃ (i:Nat) (b:Bool),e=.returned (.tuple #[.int .i64 i,.bool b])∧b=memB ky ts∧Below w.heap.size w w':=by
 obtain ⟨p,cap,rfl,_⟩:=id h
 have HH:=Lib.hid h
 have HS:=Lib.hid hs
 have HN:=Lib.hid (fun x W=>zs4 x W)
 clear h hs
 go_enter Tryz.func92,Tryz.ntmps92
 go_wp2_with fail
 go_loopg [7,8] ts.length (fun gg s7 s8 wr=>∃ lo hi:Nat,s7=.int .i64 lo∧s8=.int .i64 hi∧lo≤hi∧hi≤ts.length∧hi - lo≤gg∧Hid ((∀ (t:Nat) (ht:t < ts.length),t < lo→bl ts[t] < bl ky)∧(∀ (t:Nat) (ht:t < ts.length),hi≤t→¬ bl ts[t] < bl ky)∧Below w.heap.size w wr))
 case atStart=>exact ⟨0,ts.length,rfl,rfl,Nat.zero_le _,Nat.le_refl _,by omega,Lib.hid ⟨fun t _ h=>by omega,fun t h1 h2=>by omega,Below.refl _ _⟩⟩
 case round=>
  obtain ⟨lo,hi,rfl,rfl,hlo,hin,hg,hb⟩:=hrel
  by_cases hlt:lo < hi
  ·have hx:(lo+hi) / 2 < ts.length:=by omega
   obtain ⟨pp,cc,e0,hcv⟩:=HH.out.below hb.out.2.2
   injection e0 with e1 e2 e3
   subst e1
   obtain ⟨g,off,rfl,hcj⟩:=hcv (by intro q;rw [q] at hx;simp at hx)
   have cj:wr.cell? ⟨g,off+(lo+hi) / 2,none⟩=some (.string ts[(lo+hi) / 2]):=by
    rw [hcj _ hx]
    simp [hx]
   obtain ⟨r,hr⟩:∃ r,r=decide (bl ts[(lo+hi) / 2] < bl ky):=⟨_,rfl⟩
   have HC:=Lib.hid (fun W=>zs5 ts[(lo+hi) / 2] ky W)
   rw [← hr] at HC
   have HZ:Hid (r=true↔bl ts[(lo+hi) / 2] < bl ky):=Lib.hid (by rw [hr];simp)
   have hs1:(lo:Int)+hi < 9223372036854775808:=by omega
   have t1:(0:Int)≤((lo:Int)+hi) / 2:=by omega
   have t2:((lo:Int)+hi) / 2 < ts.length:=by omega
   have t3:(((lo:Int)+hi) / 2).toNat=(lo+hi) / 2:=by omega
   have hlt3:(lo:Int) < hi:=by omega
   clear hr hcv hcj e2 e3
   cases r with
   | true=>
     have hz2:=HZ.out.1 rfl
     have HB:=Lib.hid (show (∀ (t:Nat) (ht:t < ts.length),t < (lo+hi) / 2+1→bl ts[t] < bl ky) from fun t ht h=>List.lt_of_le_of_lt (zfc HS.out t _ ht hx (by omega)) hz2)
     clear hz2 HZ
     go_wp2_with (first
      |(go_at_call 112;(with_reducible refine (HC.out _).mono ?_);rintro e w3 ⟨rfl,rfl⟩))
     go_roundg (hi - ((lo+hi) / 2+1))
     case measure=>omega
     case rel=>exact ⟨(lo+hi) / 2+1,hi,by rw [show (((lo+hi) / 2+1:Nat):Int)=((lo:Int)+(hi:Int)) / 2+1 by omega],rfl,by omega,hin,Nat.le_refl _,Lib.hid ⟨HB.out,hb.out.2.1,hb.out.2.2⟩⟩
   | false=>
     have hz2:¬ bl ts[(lo+hi) / 2] < bl ky:=fun h=>by have:=HZ.out.2 h;simp at this
     have HB:=Lib.hid (show (∀ (t:Nat) (ht:t < ts.length),(lo+hi) / 2≤t→¬ bl ts[t] < bl ky) from fun t ht h q=>hz2 (List.lt_of_le_of_lt (zfc HS.out _ t hx ht h) q))
     clear hz2 HZ
     go_wp2_with (first
      |(go_at_call 112;(with_reducible refine (HC.out _).mono ?_);rintro e w3 ⟨rfl,rfl⟩))
     go_roundg ((lo+hi) / 2 - lo)
     case measure=>omega
     case rel=>exact ⟨lo,(lo+hi) / 2,rfl,by rw [show (((lo+hi) / 2:Nat):Int)=((lo:Int)+(hi:Int)) / 2 by omega],by omega,by omega,Nat.le_refl _,Lib.hid ⟨hb.out.1,HB.out,hb.out.2.2⟩⟩
  ·obtain rfl:hi=lo:=by omega
   by_cases hlt2:hi < ts.length
   ·obtain ⟨pp,cc,e0,hcv⟩:=HH.out.below hb.out.2.2
    injection e0 with e1 e2 e3
    subst e1
    obtain ⟨g,off,rfl,hcj⟩:=hcv (by intro q;rw [q] at hlt2;simp at hlt2)
    have cj:wr.cell? ⟨g,off+hi,none⟩=some (.string ts[hi]):=by
     rw [hcj _ hlt2]
     simp [hlt2]
    obtain ⟨x,hxe⟩:∃ x,x=ts[hi]:=⟨_,rfl⟩
    rw [← hxe] at cj
    have HX:=Lib.hid hxe
    have hlt3:(hi:Int) < ts.length:=by omega
    clear hcv hcj e2 e3 hxe
    by_cases hz:x=ky
    ·subst hz
     go_wp2_with (first
      |(go_at_call 113;(with_reducible refine (HN.out _ _).mono ?_);rintro e w3 ⟨rfl,rfl⟩))
     refine bodyPost_ret (results_tmp2 rfl _ _ _) rfl ?_
     refine ⟨hi,true,by simp,?_,hb.out.2.2⟩
     symm
     rw [zef,HX.out]
     exact List.getElem_mem _
    ·have hz3:(x.toList == ky.toList)=false:=zn5 hz
     go_wp2_with (first
      |(go_at_call 113;(with_reducible refine (HN.out _ _).mono ?_);rintro e w3 ⟨rfl,rfl⟩))
     refine bodyPost_ret (results_tmp2 rfl _ _ _) rfl ?_
     refine ⟨hi,false,by simp [],?_,hb.out.2.2⟩
     symm
     refine zhz fun hq=>?_
     obtain ⟨t,ht,e⟩:=List.getElem_of_mem hq
     by_cases h1:t < hi
     ·have:=hb.out.1 t ht h1
      rw [e] at this
      exact List.lt_irrefl _ this
     ·have h2:=zfc HS.out hi t hlt2 ht (by omega)
      rw [e] at h2
      rcases List.le_iff_lt_or_eq.1 h2 with h3 | h3
      ·exact hb.out.2.1 hi hlt2 (Nat.le_refl _) h3
      ·exact hz (by rw [HX.out];exact zoy h3)
   ·obtain rfl:hi=ts.length:=by omega
    go_wp2_with fail
    refine bodyPost_ret (results_tmp2 rfl _ _ _) rfl ?_
    refine ⟨ts.length,false,rfl,?_,hb.out.2.2⟩
    symm
    refine zhz fun hq=>?_
    obtain ⟨t,ht,e⟩:=List.getElem_of_mem hq
    have:=hb.out.1 t ht ht
    rw [e] at this
    exact List.lt_irrefl _ this
set_option maxHeartbeats 1600000 in
set_option maxRecDepth 20000 in
theorem zs6 (V:Value) (ts:List ByteArray) (ky:ByteArray) (w:World) (h:zcu w V ts) (hs:ts.Pairwise (fun x y=>leT x y=true)) (hn:ts.length≤2097152):
 Calls Tryz.prog 54 #[V,.string ky] w fun e w'=>e=.returned (.bool (memB ky ts))∧Below w.heap.size w w':=by
 have HC:=Lib.hid (zp5 V ts ky w h hs hn)
 obtain ⟨r,hr⟩:∃ r,r=memB ky ts:=⟨_,rfl⟩
 rw [← hr] at HC ⊢
 clear h hr
 go_enter Tryz.func54,Tryz.ntmps54
 go_wp2_with (first
  |(go_at_call 92;(with_reducible refine HC.out.mono ?_);rintro e w1 ⟨i,b,rfl,rfl,hb⟩))
 go_ret
 exact ⟨rfl,hb⟩
end Go.Proofs.YtcfmenkigolnoaaGreatDoor
