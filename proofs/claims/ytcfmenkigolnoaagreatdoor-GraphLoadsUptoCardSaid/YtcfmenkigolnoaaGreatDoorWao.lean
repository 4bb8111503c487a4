/- Texts of one kind, one behind the other: each says ahead of itself what it shows. -/
import Derived.Test.YtcfmenkigolnoaaGreatDoorWan
import Derived.Test.YtcfmenkigolnoaaGreatDoorWae
import Derived.Test.YtcfmenkigolnoaaGreatDoorRows
import Derived.ProofKit
import Derived.OpenShut
import Derived.Carry
import Derived.Lib.SmallJoins
import Derived.HandedShaped
/- GHO -/
namespace Go.Proofs.YtcfmenkigolnoaaGreatDoor
open Go.RowKit
theorem zmm {P:Program} {o:Oper} {a:Act} {w:World} {K:Act→World→Prop} {Q:Exit→Act→World→Prop} {f:Lit→Option Value} (m x:Operand) (t:TypeId) (hop:o.op=Op.lookup t m x false) (k e:TypeId) (KP:Go.Maps.Keyed P k) (ht:P.underlying t=some (.map k e)) {z:Value} (hz:(zeroValue e).run P w=.ok z w) (b n:Nat)
 (hm:a.eval m=.map (some b)) (hown:HMap w P k b n f) (key:Value) (kl:Lit) (hx:a.eval x=key) (hkey:keyOf P k key=some kl) (hl:WideAt.IsKeyLit kl)
 (hK:K (a.put o.dst ((f kl).getD z)) w):o.wp P a w K Q:=by
 have hrun:=hown.look KP ht hz hkey hl
 unfold Oper.wp
 simp [execOp,hop,hm,hx,hrun,Result.andThen]
 exact hK
theorem zd7 {P:Program} {w:World} {ops:Array Oper} {rest:List Oper} {o:Oper} {a:Act} {Q:Exit→Act→World→Prop} {f:Lit→Option Value} (hw:Region.wanted o (yielded ops a.tmps)=true) (m x:Operand) (t:TypeId) (hop:o.op=Op.lookup t m x false) (k e:TypeId) (K:Go.Maps.Keyed P k) (ht:P.underlying t=some (.map k e)) {z:Value} (hz:(zeroValue e).run P w=.ok z w) (b n:Nat)
 (hm:a.eval m=.map (some b)) (hown:HMap w P k b n f) (key:Value) (kl:Lit) (hx:a.eval x=key) (hkey:keyOf P k key=some kl) (hl:WideAt.IsKeyLit kl)
 (hK:wpList P ops Q rest (a.put o.dst ((f kl).getD z)) w):wpList P ops Q (o::rest) a w:=by
 unfold wpList
 rw [if_pos hw]
 exact .inl (zmm m x t hop k e K ht hz b n hm hown key kl hx hkey hl hK)
def zdx (g:zau):List Int:=(g.edges.map zat.id).mergeSort leI
theorem zft (g:zau):(zdx g).length=g.edges.length:=by unfold zdx;rw [List.length_mergeSort,List.length_map]
def zh0 (l:List zat) (i:Int):ByteArray:=((l.find? fun a=>decide (a.id=i)).map zat.type).getD ⟨#[]⟩
theorem zs7 {l:List zat} (h:(l.map zat.id).Nodup) {a:zat} (ha:a∈l):zh0 l a.id=a.type:=by
 unfold zh0
 rw [zjo h ha]
 rfl
def zjq (l:List zat) (ts:List ByteArray) (i:Int):Bool:=ts.isEmpty || memB (zh0 l i) ts
def zmn (g:zau) (w:Way) (ts:List ByteArray):List Int:=((zdx g).filter (zml g.edges w)).filter (zjq g.edges ts)
theorem zvj (ts:List ByteArray):(setS ts).isEmpty=ts.isEmpty:=by
 rw [Bool.eq_iff_iff,List.isEmpty_iff,List.isEmpty_iff]
 constructor
 ·intro h
  refine List.eq_nil_iff_forall_not_mem.2 fun x hx=>?_
  have:=(zfm ts x).2 hx
  rw [h] at this
  simp at this
 ·intro h
  refine List.eq_nil_iff_forall_not_mem.2 fun x hx=>?_
  have:=(zfm ts x).1 hx
  rw [h] at this
  simp at this
theorem zs8 (g:zau) (w:Way) (ts:List ByteArray):zmn g w (setS ts)=zmn g w ts:=by
 unfold zmn
 refine List.filter_congr fun i _=>?_
 unfold zjq
 rw [zvj,show memB (zh0 g.edges i) (setS ts)=memB (zh0 g.edges i) ts by rw [Bool.eq_iff_iff,zef,zef];exact zfm ts _]
theorem zs9 (ts:List ByteArray):(setS ts).Pairwise (fun x y=>leT x y=true):=by
 have:=(zd3 zgk ziy ziz (ts.map bl)).2
 unfold setS
 rw [List.pairwise_map]
 exact this.imp fun h=>by unfold leT;rw [zox,zox];exact h.1
theorem zta {w:World} {P:Nat→Prop} {b:Nat} {l:List zat} (h:zco zaz zat.id zek w P b l) (a:zat) (ha:a∈l):(Lit.int .i64 a.id).wf=true∧(Lit.int .i64 a.src).wf=true∧(Lit.int .i64 a.dst).wf=true:=by
 obtain ⟨_,_,_,_,h3,_⟩:=h
 obtain ⟨a',c,hp,_,pv,rfl,hw,_⟩:=h3 a ha
 rw [← hp.1,← hp.2.1,← hp.2.2.1]
 exact hw
theorem ztb {w:World} {P:Nat→Prop} {b:Nat} {l:List zat} (h:zco zaz zat.id zek w P b l) (hd:(l.map zat.id).Nodup) (n:Int) (hn:n∈l.map zat.id):∃ m f x0 x1 x2 pv,m≤l.length∧HMap w Tryz.prog 2 b m f∧(f (.int .i64 n)).getD (.agg #[.int .i64 0,.int .i64 0,.int .i64 0,.string ⟨#[]⟩,.slice none 0 0])=.agg #[x0,x1,x2,.string (zh0 l n),pv]∧
 (Lit.int .i64 n).wf=true:=by
 obtain ⟨a,ha,rfl⟩:=List.mem_map.1 hn
 have hwf:=zta h a ha
 obtain ⟨m,f,h1,h2,h3,h4⟩:=h
 obtain ⟨a',c,hp,hf,pv,rfl,_,_,hl,hs⟩:=h3 a ha
 exact ⟨m,f,_,_,_,pv,h1,h2,by rw [hf,zs7 hd ha,← hp.2.2.2.1];rfl,hwf.1⟩
theorem ztc (x z y u v:Value) (w:World):(Instr.field 41 (.agg #[x,z,y,u,v]) 3).run Tryz.prog w=.ok u w:=by kernel_rfl
theorem zero42 (w:World):(zeroValue 42).run Tryz.prog w=.ok (.slice none 0 0) w:=by kernel_rfl
theorem zn6 {α:Type} (p:α→Bool) (l:List α) (j:Nat) (hj:j < l.length):(l.take (j+1)).filter p=(l.take j).filter p++(if p l[j]=true then [l[j]] else []):=by
 rw [List.take_succ_eq_append_getElem hj,List.filter_append]
 by_cases q:p l[j]=true
 ·rw [if_pos q,List.filter_cons_of_pos q];rfl
 ·rw [if_neg q,List.filter_cons_of_neg q];rfl
set_option maxHeartbeats 6400000 in
set_option maxRecDepth 20000 in
theorem hopsAt (W:World) (s:Nat) (g:zau) (h:zdh W s g) (hd:(g.edges.map zat.id).Nodup) (hn:g.edges.length≤65536) (wy:Way) (v:Value) (ts:List ByteArray) (hv:zcu W v ts) (hts:ts.length≤2097152):
 Calls Tryz.prog 23 #[.pointer (some ⟨s,0,none⟩),.int .i64 wy.1.1,.int .i64 wy.1.2,v] W fun e w'=>∃ R,e=.returned R∧w'.ownsRow W.heap.size 2 1 R (zmn g wy ts).length ((zmn g wy ts).map (Value.int .i64))∧Below W.heap.size W w':=by
 obtain ⟨i0,hi,hz0,hz1,hz2⟩:=info_parts zd6
 obtain ⟨m0,m1,m4,m5,V2,V3,q0,_,q2,_,_,_,q6⟩:=h.is
 have hI:∀ i∈zdx g,((zdl g.edges i).map mkW).Nodup:=fun i hi=>by
  obtain ⟨a,ha,rfl⟩:=List.mem_map.1 (List.mem_mergeSort.1 hi)
  obtain ⟨_,h1,h2⟩:=zta q2 a ha
  exact zio hd ha h1 h2
 have hS:=zht v ts W hv hts
 obtain ⟨L,hL⟩:∃ L,L=setS ts:=⟨_,rfl⟩
 rw [← hL] at hS
 have hLr:L.Pairwise (fun x y=>leT x y=true):=by rw [hL];exact zs9 ts
 have hLz:L.length≤2097152:=by rw [hL];unfold setS;rw [List.length_map];exact Nat.le_trans (zfi _) (by rw [List.length_map];exact hts)
 rw [← zs8,← hL]
 obtain ⟨hs,hhs⟩:∃ hs,hs=(zdx g).filter (zml g.edges wy):=⟨_,rfl⟩
 have hhl:hs.length≤65536:=by rw [hhs];exact zes _ _ _ (by rw [zft];exact hn)
 have hmem:∀ i∈hs,i∈g.edges.map zat.id:=fun i hi=>by
  rw [hhs] at hi
  exact List.mem_mergeSort.1 (List.mem_filter.1 hi).1
 have eH:zmn g wy L=hs.filter (zjq g.edges L):=by rw [hhs];rfl
 rw [eH]
 have HST:=Lib.hid h
 have HS:=Lib.hid hS
 have HLR:=Lib.hid hLr
 have HMEM:=Lib.hid hmem
 have HI:=Lib.hid hI
 have HHS:=Lib.hid hhs
 have HD:=Lib.hid hd
 have hkey:=zo4 wy
 have hkl:WideAt.IsKeyLit (KW wy):=trivial
 obtain ⟨a,ha⟩:∃ a,a=wy.1.1:=⟨_,rfl⟩
 obtain ⟨d,hdd⟩:∃ d,d=wy.1.2:=⟨_,rfl⟩
 rw [← ha,← hdd] at hkey ⊢
 obtain ⟨kw,hkw⟩:∃ kw,kw=KW wy:=⟨_,rfl⟩
 rw [← hkw] at hkey hkl
 have HKW:=Lib.hid hkw
 clear h hS hLr hmem hI hhs hd hL hv hts eH q0 q2 q6 ha hdd hkw hn
 go_enter Tryz.func23,Tryz.ntmps23
 go_upto_region 3 with (first
  |(go_at_call 53;(with_reducible refine HS.out.mono ?_);rintro e w1 ⟨V,rfl,hV,hb1⟩
    obtain ⟨pV,cV,rfl⟩:=zbc hV))
 have st:=HST.out.below hb1
 obtain ⟨k0,k1,k4,k5,U2,U3,r0,_,_,_,_,_,r6⟩:=st.is
 obtain ⟨nn,ff,hnn,hmap,h3,_⟩:=r6
 have hrow:=zez h3 wy
 have e6:(g.edges.map zat.id).mergeSort leI=zdx g:=rfl
 rw [e6,grp_way g.edges (zdx g) wy HI.out,← HHS.out] at hrow
 obtain ⟨p0,cap0,hv0⟩:=zbc hrow
 rw [hv0] at hrow
 rw [← HKW.out] at hv0
 have c5:=zac r0 5 rfl
 have hin:=zbe hrow
 obtain ⟨n,hnl⟩:∃ n,n=hs.length:=⟨_,rfl⟩
 obtain ⟨m,hml⟩:∃ m,m=L.length:=⟨_,rfl⟩
 have hLs:=zhs hV
 rw [← hnl] at hv0 hin hhl
 rw [← hml] at hLs hLz ⊢
 have HV0:=Lib.hid hv0
 have HIN:=Lib.hid hin
 have HLS:=Lib.hid hLs
 have HB1:=Lib.hid hb1
 have HL:=Lib.hid (And.intro hnl hml)
 clear hv0 hin hLs hrow h3 hnn e6 hV hnl hml hb1 st
 go_wp2_with (first
  |(at_lookup;refine zbs rfl _ _ 76 rfl 98 42 law98 Tryz.underlying76 (zero42 _) k5 nn rfl hmap _ kw rfl hkey hkl ?_;rw [HV0.out]))
 clear hmap c5 hkey r0
 go_loopg [10,12,24] n (fun gg s10 s12 s24 wr=>∃ j:Nat,j+gg=n∧s24=.int .i64 j∧Hid (wr.ownsRow w1.heap.size 2 1 s10 ((hs.take j).filter (zjq g.edges L)).length (((hs.take j).filter (zjq g.edges L)).map (Value.int .i64))∧Below w1.heap.size w1 wr))
 case atStart=>exact ⟨0,by omega,rfl,Lib.hid ⟨by simp;exact World.ownsRow_nil _ _ _ _,Below.refl _ _⟩⟩
 case round=>
  obtain ⟨j,hjg,rfl,HA⟩:=hrel
  by_cases hj:(j:Int) < n
  ·have hj1:j < hs.length:=by have:=HL.out.1;omega
   obtain ⟨pp,cc,e0,hcv⟩:=HIN.out.below HA.out.2
   injection e0 with e1 e2 e3
   subst e1
   obtain ⟨g2,off,rfl,hcj⟩:=hcv (by intro q;rw [q] at hj1;simp at hj1)
   obtain ⟨x,hxj⟩:∃ x,x=hs[j]:=⟨_,rfl⟩
   have cj:wr.cell? ⟨g2,off+j,none⟩=some (.int .i64 x):=by
    rw [hcj j hj1,hxj]
    simp [hj1]
   have etk:=zn6 (zjq g.edges L) hs j hj1
   rw [← hxj] at etk
   obtain ⟨l,hl⟩:∃ l,l=(hs.take j).filter (zjq g.edges L):=⟨_,rfl⟩
   have hlen:l.length≤65536:=by
    rw [hl]
    refine zes _ _ _ ?_
    have:=List.length_take_le j hs
    have:=HL.out
    omega
   rw [← hl] at HA etk
   obtain ⟨r,hr⟩:∃ r,r=zjq g.edges L x:=⟨_,rfl⟩
   rw [← hr] at etk
   have st:=HST.out.below (zab HB1.out HA.out.2 HB1.out.size)
   obtain ⟨k0,k1,k4,k5,U2,U3,r0,_,r2,_,_,_,_⟩:=st.is
   obtain ⟨mm,f1,x0,x1,x2,pv,hmm,hmap1,hX,hwx⟩:=ztb r2 HD.out x (HMEM.out x (by rw [hxj];exact List.getElem_mem hj1))
   have c1:=zac r0 1 rfl
   have hkx:keyOf Tryz.prog 2 (.int .i64 x)=some (.int .i64 x):=Go.Maps.keyOf_int_mk Tryz.underlying2 hwx
   obtain ⟨tt,htt⟩:∃ tt,tt=zh0 g.edges x:=⟨_,rfl⟩
   have HC:=Lib.hid (zs6 (.slice pV m cV) L tt wr (HLS.out.below HA.out.2) HLR.out (by have:=HL.out.2;omega))
   rw [← htt] at hX
   have hf:=ztc x0 x1 x2 (.string tt) pv
   have hrr:r=(decide (m=0) || memB tt L):=by
    rw [hr,htt,HL.out.2]
    unfold zjq
    rw [show L.isEmpty=decide (L.length=0) by cases L <;> rfl]
   have HT:=Lib.hid etk
   have HX:=Lib.hid hX
   have HBB:=Lib.hid (And.intro hmm hwx)
   clear hcj hcv e2 e3 hxj hr etk hl htt hX st hmm hwx
   obtain ⟨q,hq⟩:∃ q,q=memB tt L:=⟨_,rfl⟩
   rw [← hq] at HC hrr
   clear hq
   by_cases hm0:m=0
   ·subst hm0
    obtain rfl:r=true:=by rw [hrr];rfl
    have ho:=HA.out.1
    have hb:=HA.out.2
    clear hrr HC
    go_wp2_with (first
     |(at_builtin;refine wpList_append_own_at _ rfl _ _ 42 rfl w1.heap.size 2 i0 (.int .i64 0) 1 8 Tryz.underlying42 hi hz0 hz1 hz2 rfl (by decide) _ _ _ rfl (ho.alloc _) ⟨wr.heap.size,0,none⟩ 1 1 [.int .i64 x] rfl rfl (zbp wr [.int .i64 x] 2) (by simp [Value.oneCell']) ?_ ?_ ?_ ?_))
    all_goals (try (first |(unfold maxLen;omega) | omega |(have:=hb.size;omega) |(simp;have:=hb.size;omega)))
    intro v' w5 ho5 hg5 _ hloc5
    have hb5:Below w1.heap.size w1 w5:=(hb.alloc hb.size _).grown hg5 (by have:=hb.size;simp;omega) (fun j e=>(ho.lt j e).1)
    have HB:=Lib.hid (show w5.ownsRow w1.heap.size 2 1 v' (l++[x]).length ((l++[x]).map (Value.int .i64)) by rw [List.length_append,List.map_append];exact ho5)
    clear ho5 hg5 hloc5 ho hb
    go_wp2_with fail
    go_roundg (gk - 1)
    case measure=>omega
    case rel=>exact ⟨j+1,by omega,by go_num,Lib.hid (by rw [HT.out,if_pos (by trivial)];exact ⟨HB.out,hb5⟩)⟩
   ·have hm1:((m:Int) == 0)=false:=by simp;omega
    rw [show decide (m=0)=false from decide_eq_false hm0,Bool.false_or] at hrr
    subst hrr
    cases r with
    | true=>
      go_wp2_with (first
       |((refine zd7 ?_ (.tmp 36) (.tmp 37) 74 ?_ 2 41 law2 Tryz.underlying74 (zo6 _) k1 mm ?_ hmap1 _ (.int .i64 x) ?_ hkx trivial ?_);rfl;rfl;rfl;rfl;rw [HX.out])
       |(go_at_call 54;(with_reducible refine HC.out.mono ?_);rintro e w3 ⟨rfl,hb3⟩
         have ho:w3.ownsRow w1.heap.size 2 1 _ l.length (l.map (Value.int .i64)):=za2 HA.out.1 hb3
         have hb:Below w1.heap.size w1 w3:=zab HA.out.2 hb3 HA.out.2.size)
       |(at_builtin;refine wpList_append_own_at _ rfl _ _ 42 rfl w1.heap.size 2 i0 (.int .i64 0) 1 8 Tryz.underlying42 hi hz0 hz1 hz2 rfl (by decide) _ _ _ rfl (ho.alloc _) ⟨w3.heap.size,0,none⟩ 1 1 [.int .i64 x] rfl rfl (zbp w3 [.int .i64 x] 2) (by simp [Value.oneCell']) ?_ ?_ ?_ ?_))
      all_goals (try (first |(unfold maxLen;omega) | omega |(have:=hb.size;omega) |(simp;have:=hb.size;omega)))
      intro v' w5 ho5 hg5 _ hloc5
      have hb5:Below w1.heap.size w1 w5:=(hb.alloc hb.size _).grown hg5 (by have:=hb.size;simp;omega) (fun j e=>(ho.lt j e).1)
      have HB:=Lib.hid (show w5.ownsRow w1.heap.size 2 1 v' (l++[x]).length ((l++[x]).map (Value.int .i64)) by rw [List.length_append,List.map_append];exact ho5)
      clear ho5 hg5 hloc5 ho hb
      go_wp2_with fail
      go_roundg (gk - 1)
      case measure=>omega
      case rel=>exact ⟨j+1,by omega,by go_num,Lib.hid (by rw [HT.out,if_pos (by trivial)];exact ⟨HB.out,hb5⟩)⟩
    | false=>
      go_wp2_with (first
       |((refine zd7 ?_ (.tmp 36) (.tmp 37) 74 ?_ 2 41 law2 Tryz.underlying74 (zo6 _) k1 mm ?_ hmap1 _ (.int .i64 x) ?_ hkx trivial ?_);rfl;rfl;rfl;rfl;rw [HX.out])
       |(go_at_call 54;(with_reducible refine HC.out.mono ?_);rintro e w3 ⟨rfl,hb3⟩
         have ho:w3.ownsRow w1.heap.size 2 1 _ l.length (l.map (Value.int .i64)):=za2 HA.out.1 hb3
         have hb:Below w1.heap.size w1 w3:=zab HA.out.2 hb3 HA.out.2.size))
      go_roundg (gk - 1)
      case measure=>omega
      case rel=>exact ⟨j+1,by omega,by go_num,Lib.hid (by rw [HT.out,if_neg (by simp),List.append_nil];exact ⟨ho,hb⟩)⟩
  ·have e:hs.take j=hs:=by rw [List.take_of_length_le];have:=HL.out;omega
   have hA:=HA.out
   rw [e] at hA
   have HZ:=Lib.hid (And.intro (zcd hA.1 HB1.out.size) (zab HB1.out hA.2 HB1.out.size))
   clear hA HA e
   go_wp2_with fail
   go_ret
   exact ⟨_,rfl,HZ.out⟩
end Go.Proofs.YtcfmenkigolnoaaGreatDoor

/- GPN -/
namespace Go.Proofs.YtcfmenkigolnoaaGreatDoor
open Go.RowKit
def leP (x y:zax):Bool:=leT x.key y.key
def zmo (ps:List zax):List zax:=ps.mergeSort leP
theorem leP_tr:∀ a b c:zax,leP a b=true→leP b c=true→leP a c=true:=fun a b c=>zgk _ _ _
theorem leP_to:∀ a b:zax,(leP a b || leP b a)=true:=fun a b=>ziy _ _
theorem key_inj {ps:List zax} (hd:(ps.map fun p=>bl p.key).Nodup) {x y:zax} (hx:x∈ps) (hy:y∈ps) (h:bl x.key=bl y.key):x=y:=by
 induction ps with
 | nil=>simp at hx
 | cons a r ih=>
   rw [List.map_cons,List.nodup_cons] at hd
   rcases List.mem_cons.1 hx with e1 | h1
   ·rcases List.mem_cons.1 hy with e2 | h2
    ·rw [e1,e2]
    ·exact absurd (List.mem_map.2 ⟨y,h2,by rw [← h,e1]⟩) hd.1
   ·rcases List.mem_cons.1 hy with e2 | h2
    ·exact absurd (List.mem_map.2 ⟨x,h1,by rw [h,e2]⟩) hd.1
    ·exact ih hd.2 h1 h2
theorem zej.eq {ps ps':List zax} (h:zej ps ps') (hd:(ps.map fun p=>bl p.key).Nodup):ps'=zmo ps:=by
 refine List.Perm.eq_of_pairwise (le:=fun x y=>leP x y=true) ?_ h.2 (List.pairwise_mergeSort leP_tr leP_to ps) (h.1.trans (List.mergeSort_perm ps leP).symm)
 intro a b ha hb h1 h2
 exact key_inj hd (h.1.mem_iff.1 ha) ((List.mergeSort_perm ps leP).mem_iff.1 hb) (ziz _ _ h1 h2)
def zcr (a:zap):zap:=⟨a.id,sortS a.labels,zmo a.props⟩
def zc2 (a:zat):zat:=⟨a.id,a.src,a.dst,a.type,zmo a.props⟩
theorem ze5.eq {a a':zap} (h:ze5 a a') (hd:(a.props.map fun p=>bl p.key).Nodup):a'=zcr a:=by
 obtain ⟨i,ls,ps⟩:=a'
 obtain ⟨h1,h2,h3⟩:=h
 have h4:=h3.eq hd
 simp only at h1 h2 h4
 unfold zcr
 rw [h1,h2,h4]
theorem zek.eq {a a':zat} (h:zek a a') (hd:(a.props.map fun p=>bl p.key).Nodup):a'=zc2 a:=by
 obtain ⟨i,s,d,t,ps⟩:=a'
 obtain ⟨h1,h2,h3,h4,h5⟩:=h
 have h6:=h5.eq hd
 simp only at h1 h2 h3 h4 h6
 unfold zc2
 rw [h1,h2,h3,h4,h6]
def zh1 (g:zau) (i:Int):zap:=((g.nodes.find? fun a=>decide (a.id=i)).map zcr).getD ⟨i,[],[]⟩
def zh2 (g:zau) (i:Int):zat:=((g.edges.find? fun a=>decide (a.id=i)).map zc2).getD ⟨i,0,0,⟨#[]⟩,[]⟩
theorem zfu {g:zau} (h:(g.nodes.map zap.id).Nodup) {a:zap} (ha:a∈g.nodes):zh1 g a.id=zcr a:=by
 unfold zh1
 rw [zjo h ha]
 rfl
theorem zfv {g:zau} (h:(g.edges.map zat.id).Nodup) {a:zat} (ha:a∈g.edges):zh2 g a.id=zc2 a:=by
 unfold zh2
 rw [zjo h ha]
 rfl
def za3 (g:zau):zau:=⟨(zd2 g).map (zh1 g),(zdx g).map (zh2 g)⟩
theorem zgq (g:zau):(za3 g).nodes.length=g.nodes.length:=by unfold za3;rw [List.length_map,zfs]
theorem zet (g:zau):(za3 g).edges.length=g.edges.length:=by unfold za3;rw [List.length_map,zft]
structure zel (g:zau):Prop where
 nn:g.nodes.length≤131072
 ne:g.edges.length≤65536
 dn:(g.nodes.map zap.id).Nodup
 de:(g.edges.map zat.id).Nodup
 node:∀ a∈g.nodes,ze9 a=true
 edge:∀ a∈g.edges,zfo (idsN g) a=true
theorem goodG {g:zau} (h:zdt g=true):zel g:=by
 unfold zdt at h
 simp only [Bool.and_eq_true,decide_eq_true_eq,List.all_eq_true] at h
 obtain ⟨⟨⟨⟨⟨h1,h2⟩,h3⟩,h4⟩,h5⟩,h6⟩:=h
 exact ⟨h1,h2,h3,h4,h5,h6⟩
theorem zdo {ps:List zax} (h:zb9 ps=true):ps.length≤65536∧(ps.map fun p=>bl p.key).Nodup∧(∀ p∈ps,zci p.key=true)∧∀ p∈ps,ze2 p.v=true:=by
 unfold zb9 zcv at h
 simp only [Bool.and_eq_true,decide_eq_true_eq,List.all_eq_true] at h
 obtain ⟨⟨h1,⟨_,h2⟩,h3⟩,h4⟩:=h
 rw [List.map_map] at h3
 exact ⟨h1,h3,fun p hp=>h2 _ (List.mem_map.2 ⟨p,hp,rfl⟩),h4⟩
theorem zel.nkeys {g:zau} (h:zel g) (a:zap) (ha:a∈g.nodes):zb9 a.props=true:=by
 have:=h.node a ha
 unfold ze9 at this
 simp only [Bool.and_eq_true] at this
 exact this.2
theorem zel.labels {g:zau} (h:zel g) (a:zap) (ha:a∈g.nodes):a.labels.length≤65536∧(a.labels.map bl).Nodup∧∀ t∈a.labels,zci t=true:=by
 have:=h.node a ha
 unfold ze9 zcv at this
 simp only [Bool.and_eq_true,decide_eq_true_eq,List.all_eq_true] at this
 exact ⟨this.1.2.1.1,this.1.2.2,this.1.2.1.2⟩
theorem zel.ekeys {g:zau} (h:zel g) (a:zat) (ha:a∈g.edges):zb9 a.props=true∧zci a.type=true∧0≤a.id∧a.src∈idsN g∧a.dst∈idsN g:=by
 have:=h.edge a ha
 unfold zfo zsq at this
 simp only [Bool.and_eq_true,decide_eq_true_eq] at this
 exact ⟨this.2.2,this.2.1.2,this.2.1.1,this.1.1,this.1.2⟩
end Go.Proofs.YtcfmenkigolnoaaGreatDoor

/- R1 -/
namespace Go.Proofs.YtcfmenkigolnoaaGreatDoor
open Go.RowKit Go.ChangeShapes
variable {H:Type} {enc:TypeId × Value→H}
theorem zi6 {w:World} {a:Addr} {m:Nat} {cs:List Value} (h:w.cells? 0 a m=some cs):cs.length=m∧∀ j,j < m→w.cell? (a.add j)=cs[j]?:=by
 unfold World.cells? at h
 rw [if_pos (Nat.zero_le _)] at h
 have hl:=mapM_some_length h
 rw [List.length_range] at hl
 refine ⟨hl,fun j hj=>?_⟩
 exact mapM_some_get h j j (by rw [List.getElem?_range hj])
theorem zg5 (g off i:Nat):(Addr.mk g off none).add i=⟨g,off+i,none⟩:=by unfold Addr.add;split <;> simp_all
theorem list6 {α:Type} {l:List α} (h:l.length=6):∃ a b c d e f,l=[a,b,c,d,e,f]:=by
 match l,h with
 | [a,b,c,d,e,f],_=>exact ⟨a,b,c,d,e,f,rfl⟩
theorem ze1 {d:DataW H}:{l:List (DataW H)}→d∈l→Rows.uptoBulk d≤Rows.uptoBulkAll l
 | [],h=>absurd h (by simp)
 | e::r,h=>by
   unfold Rows.uptoBulkAll
   rcases List.mem_cons.1 h with h | h
   ·rw [h];omega
   ·have:=ze1 h;omega
theorem zvk (d:DataW H):1≤Rows.uptoBulk d:=by
 cases d with
 | lit l=>cases l <;> simp [Rows.uptoBulk]
 | _=>simp [Rows.uptoBulk]
theorem zjr:(l:List (DataW H))→l.length≤Rows.uptoBulkAll l
 | []=>by simp
 | e::r=>by
   unfold Rows.uptoBulkAll
   have:=zjr r
   have:=zvk e
   simp only [List.length_cons]
   omega
theorem zfw {W:World} {n:Nat} {cs:List Value} {y:DataW H × List MemPlace} (h:DataW.trod enc Tryz.prog W 0 (fun _=>true) true n 60 cs=some y):
 ∃ n' k b m t x L yl,n=n'+1∧cs=[.int .i64 k,.bool b,.int .i64 m,.string t,.string x,L]∧DataW.trod enc Tryz.prog W 0 (fun _=>true) true n' 43 [L]=some yl∧
  t.size≤Rows.uptoBulk y.1∧x.size≤Rows.uptoBulk y.1∧Rows.uptoBulk yl.1≤Rows.uptoBulk y.1∧(Lit.int .i64 m).wf=true:=by
 obtain ⟨xs,n',rfl,rfl,hl,hlen,hf⟩:=DataW.trod_struct Tryz.underlying60 h
 obtain ⟨c0,c1,c2,c3,c4,c5,rfl⟩:=list6 (hl.trans (by kernel_rfl:Tryz.prog.cellsOf 60=6))
 obtain ⟨y0,y1,y2,y3,y4,y5,rfl⟩:=list6 (hlen.trans rfl)
 have e1:Tryz.prog.cellsOf 3=1:=by kernel_rfl
 have e2:Tryz.prog.cellsOf 4=1:=by kernel_rfl
 have e3:Tryz.prog.cellsOf 2=1:=by kernel_rfl
 have e4:Tryz.prog.cellsOf 9=1:=by kernel_rfl
 have e5:Tryz.prog.cellsOf 43=1:=by kernel_rfl
 have h0:DataW.trod enc Tryz.prog W 0 (fun _=>true) true n' 3 (([c0,c1,c2,c3,c4,c5].drop 0).take (Tryz.prog.cellsOf 3))=[y0,y1,y2,y3,y4,y5][0]?:=hf 0 _ rfl
 have h1:DataW.trod enc Tryz.prog W 0 (fun _=>true) true n' 4 (([c0,c1,c2,c3,c4,c5].drop 1).take (Tryz.prog.cellsOf 4))=[y0,y1,y2,y3,y4,y5][1]?:=hf 1 _ rfl
 have h2:DataW.trod enc Tryz.prog W 0 (fun _=>true) true n' 2 (([c0,c1,c2,c3,c4,c5].drop 2).take (Tryz.prog.cellsOf 2))=[y0,y1,y2,y3,y4,y5][2]?:=hf 2 _ rfl
 have h3:DataW.trod enc Tryz.prog W 0 (fun _=>true) true n' 9 (([c0,c1,c2,c3,c4,c5].drop 3).take (Tryz.prog.cellsOf 9))=[y0,y1,y2,y3,y4,y5][3]?:=hf 3 _ rfl
 have h4:DataW.trod enc Tryz.prog W 0 (fun _=>true) true n' 9 (([c0,c1,c2,c3,c4,c5].drop 4).take (Tryz.prog.cellsOf 9))=[y0,y1,y2,y3,y4,y5][4]?:=hf 4 _ rfl
 have h5:DataW.trod enc Tryz.prog W 0 (fun _=>true) true n' 43 (([c0,c1,c2,c3,c4,c5].drop 5).take (Tryz.prog.cellsOf 43))=[y0,y1,y2,y3,y4,y5][5]?:=hf 5 _ rfl
 rw [e1] at h0
 rw [e2] at h1
 rw [e3] at h2
 rw [e4] at h3 h4
 rw [e5] at h5
 replace h0:DataW.trod enc Tryz.prog W 0 (fun _=>true) true n' 3 [c0]=some y0:=h0
 replace h1:DataW.trod enc Tryz.prog W 0 (fun _=>true) true n' 4 [c1]=some y1:=h1
 replace h2:DataW.trod enc Tryz.prog W 0 (fun _=>true) true n' 2 [c2]=some y2:=h2
 replace h3:DataW.trod enc Tryz.prog W 0 (fun _=>true) true n' 9 [c3]=some y3:=h3
 replace h4:DataW.trod enc Tryz.prog W 0 (fun _=>true) true n' 9 [c4]=some y4:=h4
 replace h5:DataW.trod enc Tryz.prog W 0 (fun _=>true) true n' 43 [c5]=some y5:=h5
 obtain ⟨k,a0,_,_⟩:=DataW.trod_int Tryz.underlying3 h0
 obtain ⟨b,a1,_⟩:=DataW.trod_bool Tryz.underlying4 h1
 obtain ⟨m,a2,_,wm⟩:=DataW.trod_int Tryz.underlying2 h2
 obtain ⟨t,a3,z3,_⟩:=DataW.trod_string Tryz.underlying9 h3
 obtain ⟨x,a4,z4,_⟩:=DataW.trod_string Tryz.underlying9 h4
 simp only [List.cons.injEq,and_true] at a0 a1 a2 a3 a4
 subst a0 a1 a2 a3 a4
 refine ⟨n',k,b,m,t,x,c5,y5,rfl,rfl,h5,?_,?_,?_,wm⟩
 ·have:Rows.uptoBulk y3.1≤Rows.uptoBulkAll ([y0,y1,y2,y3,y4,y5].map (·.1)):=ze1 (by simp)
  rw [z3] at this
  have e:Rows.uptoBulk (.lit (.string t.data.toList):DataW H)=t.data.toList.length+1:=rfl
  have e':t.data.toList.length=t.size:=Array.length_toList
  show t.size≤Rows.uptoBulkAll _+1
  rw [e,e',← z3] at this
  omega
 ·have:Rows.uptoBulk y4.1≤Rows.uptoBulkAll ([y0,y1,y2,y3,y4,y5].map (·.1)):=ze1 (by simp)
  rw [z4] at this
  have e:Rows.uptoBulk (.lit (.string x.data.toList):DataW H)=x.data.toList.length+1:=rfl
  have e':x.data.toList.length=x.size:=Array.length_toList
  show x.size≤Rows.uptoBulkAll _+1
  rw [e,e',← z4] at this
  omega
 ·have:Rows.uptoBulk y5.1≤Rows.uptoBulkAll ([y0,y1,y2,y3,y4,y5].map (·.1)):=ze1 (by simp)
  show Rows.uptoBulk y5.1≤Rows.uptoBulkAll _+1
  omega
theorem zwg {m:Int} (h:(Lit.int .i64 m).wf=true):-9223372036854775808≤m∧m≤9223372036854775807:=by
 have:=bounds_i64 h
 omega
set_option maxRecDepth 20000 in
theorem zmp {W:World} (B:Nat) (hBB:B≤2097152):∀ (N n:Nat),n≤N→∀ (L:Value) (y:DataW H × List MemPlace),DataW.trod enc Tryz.prog W 0 (fun _=>true) true n 43 [L]=some y→Rows.uptoBulk y.1≤B→∃ l,Held W L l∧l.length≤B:=by
 intro N
 induction N with
 | zero=>
   intro n hn L y h _
   obtain rfl:n=0:=by omega
   simp [DataW.trod] at h
 | succ N IH=>
   intro n0 hn0 L y h hB
   rcases DataW.trod_slice Tryz.underlying43 h with ⟨e,_⟩ | ⟨a,len,cap,elems,rest,n1,hn,e,rfl,hb,hl,hm,hlen,hel,_,_⟩
   ·obtain rfl:L=.slice none 0 0:=by simpa using e
    exact ⟨[],by unfold Held;exact ⟨none,0,rfl⟩,by simp⟩
   ·obtain rfl:L=.slice (some a) len cap:=by simpa using e
    rw [show Tryz.prog.cellsOf 60=6 by kernel_rfl] at hel
    have hE:Rows.uptoBulkAll (elems.map (·.1))≤B:=by
     have:Rows.uptoBulkAll (elems.map (·.1))+Rows.uptoBulkAll (rest.map (·.1))+1≤B:=hB
     omega
    have hln:len≤B:=by
     have:=zjr (elems.map (·.1))
     simp only [List.length_map] at this
     omega
    have each:∀ i,i < len→∃ k b m t x l p,(∀ j v,[Value.int .i64 k,.bool b,.int .i64 m,.string t,.string x,p][j]?=some v→W.cell? ((a.add (i*6)).add j)=some v)∧Fine m t x (List.length (α:=Val) l)∧Held W p l:=by
     intro i hi
     have h1:=hel i hi
     have hi':i < elems.length:=by omega
     rw [List.getElem?_eq_getElem hi',Option.bind_eq_some_iff] at h1
     obtain ⟨cs,hcs,hy⟩:=h1
     obtain ⟨c1,c2⟩:=zi6 hcs
     obtain ⟨n',k,b,m,t,x,p,yl,hn',rfl,hp,ht,hx,hpl,wm⟩:=zfw hy
     have hbe:Rows.uptoBulk elems[i].1≤B:=Nat.le_trans (ze1 (List.mem_map_of_mem (List.getElem_mem hi'))) hE
     obtain ⟨l,hheld,hll⟩:=IH n' (by omega) p yl hp (by omega)
     obtain ⟨w1,w2⟩:=zwg wm
     refine ⟨k,b,m,t,x,l,p,fun j v hv=>?_,⟨by omega,by omega,by omega,w1,w2⟩,hheld⟩
     have hj:j < 6:=by
      have:=(List.getElem?_eq_some_iff.1 hv).1
      simpa using this
     rw [c2 j hj,hv]
    by_cases h0:len=0
    ·subst h0
     exact ⟨[],by unfold Held;exact ⟨some a,cap,rfl⟩,by simp⟩
    ·have hsp:a.spot=none:=by
      obtain ⟨k,b,m,t,x,l,p,hc,_,_⟩:=each 0 (by omega)
      have h0:=hc 0 _ rfl
      cases kk:a.spot with
      | none=>rfl
      | some mm=>
        rw [show (a.add (0*6)).add 0=a by simp [Addr.add]] at h0
        unfold World.cell? at h0
        rw [kk] at h0
        split at h0 <;> simp at h0
     obtain ⟨g,off,spot⟩:=a
     simp only at hsp
     subst hsp
     have build:∀ m,m≤len→∃ l:List Val,l.length=m∧zb5 W g (off+(len - m)*6) l:=by
      intro m
      induction m with
      | zero=>exact fun _=>⟨[],rfl,by unfold zb5;trivial⟩
      | succ m ih=>
        intro hm1
        obtain ⟨l,hll,hh⟩:=ih (by omega)
        obtain ⟨k,b,mm,t,x,q,p,hc,hf,hp⟩:=each (len - (m+1)) (by omega)
        have ea:∀ j,((⟨g,off,none⟩:Addr).add ((len - (m+1))*6)).add j=⟨g,off+(len - (m+1))*6+j,none⟩:=fun j=>by rw [zg5,zg5]
        refine ⟨.mk k b mm t x q::l,by simp [hll],?_⟩
        unfold zb5
        refine ⟨?_,?_⟩
        ·unfold za7
         have hcj:=fun j v hv=>(congrArg W.cell? (ea j)).symm.trans (hc j v hv)
         exact ⟨hcj 0 _ rfl,hcj 1 _ rfl,hcj 2 _ rfl,hcj 3 _ rfl,hcj 4 _ rfl,hf,p,hcj 5 _ rfl,hp⟩
        ·rw [show off+(len - (m+1))*6+6=off+(len - m)*6 by omega]
         exact hh
     obtain ⟨l,hll,hh⟩:=build len (Nat.le_refl _)
     rw [Nat.sub_self,Nat.zero_mul,Nat.add_zero] at hh
     refine ⟨l,?_,by omega⟩
     cases l with
     | nil=>simp at hll;omega
     | cons v r=>
       unfold zb5 at hh
       unfold Held
       exact ⟨g,off,cap,by rw [← hll];rfl,hh.1,hh.2⟩
end Go.Proofs.YtcfmenkigolnoaaGreatDoor

/- GRD -/
namespace Go.Proofs.YtcfmenkigolnoaaGreatDoor
open Go.RowKit Go.ChangeShapes
theorem za7.lt {w:World} {g off:Nat}:(v:Val)→za7 w g off v→g < w.heap.size
 | .mk k b n t x l,h=>by
   unfold za7 at h
   exact World.block_lt_of_cell? w _ h.1
mutual
theorem za7.old {w:World} {g off:Nat}:(v:Val)→za7 w g off v→zbi w (Old w) g off v
 | .mk k b n t x l,h=>by
   unfold za7 at h
   unfold zbi
   obtain ⟨h0,h1,h2,h3,h4,hf,L,h5,hl⟩:=h
   exact ⟨h0,h1,h2,h3,h4,hf,L,h5,Held.old l hl⟩
theorem Held.old {w:World} {L:Value}:(l:List Val)→Held w L l→zay w (Old w) L l
 | [],h=>by
   unfold Held at h
   unfold zay
   exact h
 | v::r,h=>by
   unfold Held at h
   unfold zay
   obtain ⟨g,off,cap,e,hv,hr⟩:=h
   exact ⟨g,off,cap,e,za7.lt v hv,za7.old v hv,zb5.old r hr⟩
theorem zb5.old {w:World} {g off:Nat}:(l:List Val)→zb5 w g off l→zb2 w (Old w) g off l
 | [],_=>by unfold zb2;trivial
 | v::r,h=>by
   unfold zb5 at h
   unfold zb2
   exact ⟨za7.old v h.1,zb5.old r h.2⟩
end
theorem zmq {w:World} {g o:Nat} {a b:List Value} (h:w.rangeAt g o a) (k:w.rangeAt g (o+a.length) b):w.rangeAt g o (a++b):=fun j u hj=>by
 by_cases q:j < a.length
 ·rw [List.getElem?_append_left q] at hj
  exact h j u hj
 ·rw [List.getElem?_append_right (by omega)] at hj
  have:=k (j - a.length) u hj
  rwa [show o+a.length+(j - a.length)=o+j by omega] at this
section
variable {H:Type} {enc:TypeId × Value→H}
theorem zp6 {W:World} {B n ty ety size:Nat} {L:Value} {y:DataW H × List MemPlace} (hu:Tryz.prog.underlying ty=some (.slice ety)) (hsz:Tryz.prog.cellsOf ety=size) (h0s:0 < size)
 (h:DataW.trod enc Tryz.prog W 0 (fun _=>true) true n ty [L]=some y) (hB:Rows.uptoBulk y.1≤B):
 ∃ p len cap,L=.slice p len cap∧len≤B∧(len=0∨∃ g off,p=some ⟨g,off,none⟩∧∀ i,i < len→∃ n' cs yi,DataW.trod enc Tryz.prog W 0 (fun _=>true) true n' ety cs=some yi∧Rows.uptoBulk yi.1≤B∧∀ j,j < size→W.cell? ⟨g,off+i*size+j,none⟩=cs[j]?):=by
 cases n with
 | zero=>simp [DataW.trod] at h
 | succ n0=>
   rcases DataW.trod_slice hu h with ⟨e,_⟩ | ⟨a,len,cap,elems,rest,n1,hn,e,rfl,hb,hl,hm,hlen,hel,_,_⟩
   ·obtain rfl:L=.slice none 0 0:=by simpa using e
    exact ⟨none,0,0,rfl,Nat.zero_le _,.inl rfl⟩
   ·obtain rfl:L=.slice (some a) len cap:=by simpa using e
    rw [hsz] at hel
    have hE1:Rows.uptoBulkAll (elems.map (·.1))+Rows.uptoBulkAll (rest.map (·.1))+1≤B:=hB
    have hE:Rows.uptoBulkAll (elems.map (·.1))≤B:=by omega
    have hln:len≤B:=by
     have:=zjr (elems.map (·.1))
     simp only [List.length_map] at this
     omega
    have each:∀ i,i < len→∃ n' cs yi,DataW.trod enc Tryz.prog W 0 (fun _=>true) true n' ety cs=some yi∧Rows.uptoBulk yi.1≤B∧∀ j,j < size→W.cell? ((a.add (i*size)).add j)=cs[j]?∧cs.length=size:=by
     intro i hi
     have h1:=hel i hi
     have hi':i < elems.length:=by omega
     rw [List.getElem?_eq_getElem hi',Option.bind_eq_some_iff] at h1
     obtain ⟨cs,hcs,hy⟩:=h1
     obtain ⟨c1,c2⟩:=zi6 hcs
     exact ⟨_,cs,_,hy,Nat.le_trans (ze1 (List.mem_map_of_mem (List.getElem_mem hi'))) hE,fun j hj=>⟨c2 j hj,c1⟩⟩
    refine ⟨some a,len,cap,rfl,hln,?_⟩
    by_cases h0:len=0
    ·exact .inl h0
    ·right
     have hsp:a.spot=none:=by
      obtain ⟨n',cs,yi,_,_,hc⟩:=each 0 (by omega)
      have hc0:=hc 0 h0s
      obtain ⟨z,hz⟩:∃ z,cs[0]?=some z:=⟨_,List.getElem?_eq_getElem (by rw [hc0.2];exact h0s)⟩
      have h0:=hc0.1.trans hz
      cases kk:a.spot with
      | none=>rfl
      | some mm=>
        rw [show (a.add (0*size)).add 0=a by simp [Addr.add]] at h0
        unfold World.cell? at h0
        rw [kk] at h0
        split at h0 <;> simp at h0
     obtain ⟨g,off,spot⟩:=a
     simp only at hsp
     subst hsp
     refine ⟨g,off,rfl,fun i hi=>?_⟩
     obtain ⟨n',cs,yi,h1,h2,h3⟩:=each i hi
     refine ⟨n',cs,yi,h1,h2,fun j hj=>?_⟩
     have:=(h3 j hj).1
     rwa [zg5,zg5] at this
theorem zdn {α:Type} {E:Elem α} {W:World} {B n ty ety:Nat} {L:Value} {y:DataW H × List MemPlace} (hu:Tryz.prog.underlying ty=some (.slice ety)) (hsz:Tryz.prog.cellsOf ety=E.k) (h0:0 < E.k)
 (each:∀ (n':Nat) (cs:List Value) (yi:DataW H × List MemPlace),DataW.trod enc Tryz.prog W 0 (fun _=>true) true n' ety cs=some yi→Rows.uptoBulk yi.1≤B→∃ a,E.rel W (Old W) cs a)
 (h:DataW.trod enc Tryz.prog W 0 (fun _=>true) true n ty [L]=some y) (hB:Rows.uptoBulk y.1≤B):∃ l,zak E W (Old W) L l∧l.length≤B:=by
 obtain ⟨p,len,cap,rfl,hln,hh⟩:=zp6 (B:=B) (size:=E.k) hu hsz h0 h hB
 rcases hh with rfl | ⟨g,off,rfl,eachc⟩
 ·exact ⟨[],zak.nil _ _,Nat.zero_le _⟩
 ·have build:∀ m,m≤len→∃ (l:List α) (xs:List Value),l.length=m∧W.rangeAt g (off+(len - m)*E.k) xs∧RowE E W (Old W) xs l∧(0 < m→g < W.heap.size):=by
   intro m
   induction m with
   | zero=>exact fun _=>⟨[],[],rfl,fun j u hj=>by simp at hj,rfl,fun h=>absurd h (Nat.lt_irrefl _)⟩
   | succ m ih=>
     intro hm1
     obtain ⟨l,xs,hll,hr,hrow,_⟩:=ih (by omega)
     obtain ⟨n',cs,yi,h1,h2,h3⟩:=eachc (len - (m+1)) (by omega)
     obtain ⟨a,ha⟩:=each n' cs yi h1 h2
     have hlen:=E.len ha
     have hc:W.rangeAt g (off+(len - (m+1))*E.k) cs:=fun j u hj=>by
      rw [h3 j (by rw [← hlen];exact (List.getElem?_eq_some_iff.1 hj).1)]
      exact hj
     refine ⟨a::l,cs++xs,by simp [hll],zmq hc ?_,⟨cs,xs,rfl,ha,hrow⟩,fun _=>?_⟩
     ·rw [hlen,show off+(len - (m+1))*E.k+E.k=off+(len - m)*E.k by
       rw [show len - m=(len - (m+1))+1 by omega,Nat.add_mul,Nat.one_mul,Nat.add_assoc]]
      exact hr
     ·exact World.block_lt_of_cell? W _ (hc 0 cs[0] (List.getElem?_eq_getElem (by omega)))
  obtain ⟨l,xs,hll,hr,hrow,hg⟩:=build len (Nat.le_refl _)
  rw [Nat.sub_self,Nat.zero_mul,Nat.add_zero] at hr
  refine ⟨l,⟨_,cap,by rw [hll],fun hne=>⟨g,off,xs,rfl,hg ?_,hr,hrow⟩⟩,by omega⟩
  have:0 < l.length:=List.length_pos_iff.2 hne
  omega
theorem zeu {W:World} {B n:Nat} {cs:List Value} {y:DataW H × List MemPlace} (hBB:B≤2097152) (h:DataW.trod enc Tryz.prog W 0 (fun _=>true) true n 9 cs=some y) (hB:Rows.uptoBulk y.1≤B):∃ t,zbq.rel W (Old W) cs t:=by
 obtain ⟨t,a3,z3,_⟩:=DataW.trod_string Tryz.underlying9 h
 rw [z3] at hB
 have e:Rows.uptoBulk (.lit (.string t.data.toList):DataW H)=t.data.toList.length+1:=rfl
 have e':t.data.toList.length=t.size:=Array.length_toList
 rw [e,e'] at hB
 exact ⟨t,a3,by omega⟩
theorem zn7 {W:World} {B n:Nat} {cs:List Value} {y:DataW H × List MemPlace} (hBB:B≤2097152) (h:DataW.trod enc Tryz.prog W 0 (fun _=>true) true n 60 cs=some y) (hB:Rows.uptoBulk y.1≤B):∃ v,zfn W (Old W) cs v:=by
 obtain ⟨n',k,b,m,t,x,L,yl,rfl,rfl,hp,ht,hx,hpl,wm⟩:=zfw h
 obtain ⟨l,hheld,hll⟩:=zmp B hBB n' n' (Nat.le_refl _) L yl hp (by omega)
 obtain ⟨w1,w2⟩:=zwg wm
 exact ⟨.mk k b m t x l,L,rfl,⟨by omega,by omega,by omega,w1,w2⟩,Held.old l hheld⟩
theorem zmr {W:World} {B n:Nat} {cs:List Value} {y:DataW H × List MemPlace} (hBB:B≤2097152) (h:DataW.trod enc Tryz.prog W 0 (fun _=>true) true n 70 cs=some y) (hB:Rows.uptoBulk y.1≤B):∃ a,za0.rel W (Old W) cs a:=by
 obtain ⟨xs,n',rfl,rfl,hl,hlen,hf⟩:=DataW.trod_struct Tryz.underlying70 h
 have hl7:cs.length=7:=hl.trans (by kernel_rfl:Tryz.prog.cellsOf 70=7)
 have hlen2:xs.length=2:=hlen.trans rfl
 obtain ⟨y0,y1,rfl⟩:∃ a b,xs=[a,b]:=by
  match xs,hlen2 with
  | [a,b],_=>exact ⟨a,b,rfl⟩
 obtain ⟨c0,cr,rfl⟩:∃ c r,cs=c::r:=by
  cases cs with
  | nil=>simp at hl7
  | cons c r=>exact ⟨c,r,rfl⟩
 have hr6:cr.length=6:=by simpa using hl7
 have e6:Tryz.prog.cellsOf 60=6:=by kernel_rfl
 have e1:Tryz.prog.cellsOf 9=1:=by kernel_rfl
 have h0:DataW.trod enc Tryz.prog W 0 (fun _=>true) true n' 9 (((c0::cr).drop 0).take (Tryz.prog.cellsOf 9))=[y0,y1][0]?:=hf 0 _ rfl
 have h1:DataW.trod enc Tryz.prog W 0 (fun _=>true) true n' 60 (((c0::cr).drop 1).take (Tryz.prog.cellsOf 60))=[y0,y1][1]?:=hf 1 _ rfl
 rw [e1] at h0
 rw [e6] at h1
 have hall:Rows.uptoBulk y0.1+(Rows.uptoBulk y1.1+0)+1≤B:=hB
 obtain ⟨t,ht,hts⟩:=zeu hBB h0 (by omega)
 have h1':DataW.trod enc Tryz.prog W 0 (fun _=>true) true n' 60 cr=some y1:=by
  have:((c0::cr).drop 1).take 6=cr:=by rw [List.drop_one,List.tail_cons,List.take_of_length_le (by omega)]
  rw [this] at h1
  exact h1
 obtain ⟨v,hv⟩:=zn7 hBB h1' (by omega)
 obtain rfl:c0=.string t:=by simpa using ht
 exact ⟨⟨t,v⟩,cr,rfl,hts,hv⟩
theorem zjs {W:World} {B n:Nat} {L:Value} {y:DataW H × List MemPlace} (hBB:B≤2097152) (h:DataW.trod enc Tryz.prog W 0 (fun _=>true) true n 35 [L]=some y) (hB:Rows.uptoBulk y.1≤B):∃ l,zak zbq W (Old W) L l∧l.length≤B:=
 zdn (E:=zbq) Tryz.underlying35 (by kernel_rfl) (by decide) (fun _ _ _ h hb=>zeu hBB h hb) h hB
theorem zfx {W:World} {B n:Nat} {L:Value} {y:DataW H × List MemPlace} (hBB:B≤2097152) (h:DataW.trod enc Tryz.prog W 0 (fun _=>true) true n 36 [L]=some y) (hB:Rows.uptoBulk y.1≤B):∃ l,zak za0 W (Old W) L l∧l.length≤B:=
 zdn (E:=za0) Tryz.underlying36 (by kernel_rfl) (by decide) (fun _ _ _ h hb=>zmr hBB h hb) h hB
theorem list3 {α:Type} {l:List α} (h:l.length=3):∃ a b c,l=[a,b,c]:=by
 match l,h with
 | [a,b,c],_=>exact ⟨a,b,c,rfl⟩
theorem list5 {α:Type} {l:List α} (h:l.length=5):∃ a b c d e,l=[a,b,c,d,e]:=by
 match l,h with
 | [a,b,c,d,e],_=>exact ⟨a,b,c,d,e,rfl⟩
theorem zms {W:World} {B n:Nat} {cs:List Value} {y:DataW H × List MemPlace} (hBB:B≤2097152) (h:DataW.trod enc Tryz.prog W 0 (fun _=>true) true n 38 cs=some y) (hB:Rows.uptoBulk y.1≤B):∃ a,za4.rel W (Old W) cs a:=by
 obtain ⟨xs,n',rfl,rfl,hl,hlen,hf⟩:=DataW.trod_struct Tryz.underlying38 h
 have hl3:cs.length=3:=hl.trans (by kernel_rfl:Tryz.prog.cellsOf 38=3)
 have hlen3:xs.length=3:=hlen.trans rfl
 obtain ⟨y0,y1,y2,rfl⟩:=list3 hlen3
 obtain ⟨c0,c1,c2,rfl⟩:=list3 hl3
 have e2:Tryz.prog.cellsOf 2=1:=by kernel_rfl
 have e35:Tryz.prog.cellsOf 35=1:=by kernel_rfl
 have e36:Tryz.prog.cellsOf 36=1:=by kernel_rfl
 have h0:DataW.trod enc Tryz.prog W 0 (fun _=>true) true n' 2 (([c0,c1,c2].drop 0).take (Tryz.prog.cellsOf 2))=[y0,y1,y2][0]?:=hf 0 _ rfl
 have h1:DataW.trod enc Tryz.prog W 0 (fun _=>true) true n' 35 (([c0,c1,c2].drop 1).take (Tryz.prog.cellsOf 35))=[y0,y1,y2][1]?:=hf 1 _ rfl
 have h2:DataW.trod enc Tryz.prog W 0 (fun _=>true) true n' 36 (([c0,c1,c2].drop 2).take (Tryz.prog.cellsOf 36))=[y0,y1,y2][2]?:=hf 2 _ rfl
 rw [e2] at h0
 rw [e35] at h1
 rw [e36] at h2
 replace h0:DataW.trod enc Tryz.prog W 0 (fun _=>true) true n' 2 [c0]=some y0:=h0
 replace h1:DataW.trod enc Tryz.prog W 0 (fun _=>true) true n' 35 [c1]=some y1:=h1
 replace h2:DataW.trod enc Tryz.prog W 0 (fun _=>true) true n' 36 [c2]=some y2:=h2
 have hall:Rows.uptoBulk y0.1+(Rows.uptoBulk y1.1+(Rows.uptoBulk y2.1+0))+1≤B:=hB
 obtain ⟨m,a0,_,wm⟩:=DataW.trod_int Tryz.underlying2 h0
 obtain ⟨ls,hls,hn1⟩:=zjs hBB h1 (by omega)
 obtain ⟨ps,hps,hn2⟩:=zfx hBB h2 (by omega)
 obtain rfl:c0=.int .i64 m:=by simpa using a0
 exact ⟨⟨m,ls,ps⟩,c1,c2,rfl,wm,by show ls.length≤2097152;omega,by show ps.length≤2097152;omega,hls,hps⟩
theorem zmt {W:World} {B n:Nat} {cs:List Value} {y:DataW H × List MemPlace} (hBB:B≤2097152) (h:DataW.trod enc Tryz.prog W 0 (fun _=>true) true n 41 cs=some y) (hB:Rows.uptoBulk y.1≤B):∃ a,zaz.rel W (Old W) cs a:=by
 obtain ⟨xs,n',rfl,rfl,hl,hlen,hf⟩:=DataW.trod_struct Tryz.underlying41 h
 have hl5:cs.length=5:=hl.trans (by kernel_rfl:Tryz.prog.cellsOf 41=5)
 have hlen5:xs.length=5:=hlen.trans rfl
 obtain ⟨y0,y1,y2,y3,y4,rfl⟩:=list5 hlen5
 obtain ⟨c0,c1,c2,c3,c4,rfl⟩:=list5 hl5
 have e2:Tryz.prog.cellsOf 2=1:=by kernel_rfl
 have e9:Tryz.prog.cellsOf 9=1:=by kernel_rfl
 have e36:Tryz.prog.cellsOf 36=1:=by kernel_rfl
 have h0:DataW.trod enc Tryz.prog W 0 (fun _=>true) true n' 2 (([c0,c1,c2,c3,c4].drop 0).take (Tryz.prog.cellsOf 2))=[y0,y1,y2,y3,y4][0]?:=hf 0 _ rfl
 have h1:DataW.trod enc Tryz.prog W 0 (fun _=>true) true n' 2 (([c0,c1,c2,c3,c4].drop 1).take (Tryz.prog.cellsOf 2))=[y0,y1,y2,y3,y4][1]?:=hf 1 _ rfl
 have h2:DataW.trod enc Tryz.prog W 0 (fun _=>true) true n' 2 (([c0,c1,c2,c3,c4].drop 2).take (Tryz.prog.cellsOf 2))=[y0,y1,y2,y3,y4][2]?:=hf 2 _ rfl
 have h3:DataW.trod enc Tryz.prog W 0 (fun _=>true) true n' 9 (([c0,c1,c2,c3,c4].drop 3).take (Tryz.prog.cellsOf 9))=[y0,y1,y2,y3,y4][3]?:=hf 3 _ rfl
 have h4:DataW.trod enc Tryz.prog W 0 (fun _=>true) true n' 36 (([c0,c1,c2,c3,c4].drop 4).take (Tryz.prog.cellsOf 36))=[y0,y1,y2,y3,y4][4]?:=hf 4 _ rfl
 rw [e2] at h0 h1 h2
 rw [e9] at h3
 rw [e36] at h4
 replace h0:DataW.trod enc Tryz.prog W 0 (fun _=>true) true n' 2 [c0]=some y0:=h0
 replace h1:DataW.trod enc Tryz.prog W 0 (fun _=>true) true n' 2 [c1]=some y1:=h1
 replace h2:DataW.trod enc Tryz.prog W 0 (fun _=>true) true n' 2 [c2]=some y2:=h2
 replace h3:DataW.trod enc Tryz.prog W 0 (fun _=>true) true n' 9 [c3]=some y3:=h3
 replace h4:DataW.trod enc Tryz.prog W 0 (fun _=>true) true n' 36 [c4]=some y4:=h4
 have hall:Rows.uptoBulk y0.1+(Rows.uptoBulk y1.1+(Rows.uptoBulk y2.1+(Rows.uptoBulk y3.1+(Rows.uptoBulk y4.1+0))))+1≤B:=hB
 obtain ⟨m0,a0,_,w0⟩:=DataW.trod_int Tryz.underlying2 h0
 obtain ⟨m1,a1,_,w1⟩:=DataW.trod_int Tryz.underlying2 h1
 obtain ⟨m2,a2,_,w2⟩:=DataW.trod_int Tryz.underlying2 h2
 obtain ⟨t,ht,hts⟩:=zeu hBB h3 (by omega)
 obtain ⟨ps,hps,hn2⟩:=zfx hBB h4 (by omega)
 obtain rfl:c0=.int .i64 m0:=by simpa using a0
 obtain rfl:c1=.int .i64 m1:=by simpa using a1
 obtain rfl:c2=.int .i64 m2:=by simpa using a2
 obtain rfl:c3=.string t:=by simpa using ht
 exact ⟨⟨m0,m1,m2,t,ps⟩,c4,rfl,⟨w0,w1,w2⟩,hts,by show ps.length≤2097152;omega,hps⟩
theorem zjt {W:World} {B n:Nat} {L:Value} {y:DataW H × List MemPlace} (hBB:B≤2097152) (h:DataW.trod enc Tryz.prog W 0 (fun _=>true) true n 23 [L]=some y) (hB:Rows.uptoBulk y.1≤B):∃ l,zak zaz W (Old W) L l∧l.length≤B:=
 zdn (E:=zaz) Tryz.underlying23 (by kernel_rfl) (by decide) (fun _ _ _ h hb=>zmt hBB h hb) h hB
end
end Go.Proofs.YtcfmenkigolnoaaGreatDoor

/- GRA -/
namespace Go.Proofs.YtcfmenkigolnoaaGreatDoor
open Go.RowKit Go.ChangeShapes Go.WideShapes
section
variable {H:Type} {enc:TypeId × Value→H}
end
end Go.Proofs.YtcfmenkigolnoaaGreatDoor
