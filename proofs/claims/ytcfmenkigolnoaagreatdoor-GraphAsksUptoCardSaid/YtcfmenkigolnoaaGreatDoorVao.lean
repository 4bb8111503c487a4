/- Texts of one kind, one behind the other: each says ahead of itself what it shows. -/
import Derived.Test.YtcfmenkigolnoaaGreatDoorVan
import Derived.Test.YtcfmenkigolnoaaGreatDoorVae
import Derived.Test.YtcfmenkigolnoaaGreatDoorRows
import Derived.ProofKit
import Derived.OpenShut
import Derived.Carry
/- GHS -/
namespace Go.Proofs.YtcfmenkigolnoaaGreatDoor
open Go.RowKit
def memB (t:ByteArray) (ts:List ByteArray):Bool:=decide (bl t∈ts.map bl)
theorem ze0 (t:ByteArray) (ts:List ByteArray):memB t ts=true↔t∈ts:=by
 unfold memB
 rw [decide_eq_true_iff]
 refine ⟨fun h=>?_,fun h=>List.mem_map.2 ⟨t,h,rfl⟩⟩
 obtain ⟨u,hu,e⟩:=List.mem_map.1 h
 rw [← zir e]
 exact hu
theorem zi1 {t:ByteArray} {ts:List ByteArray} (h:¬ t∈ts):memB t ts=false:=by
 rw [Bool.eq_false_iff]
 exact fun q=>h ((ze0 t ts).1 q)
theorem zi2 {x y:ByteArray} (h:¬ x=y):(x.toList == y.toList)=false:=by
 rw [beq_eq_false_iff_ne]
 intro e
 rw [Lib.toList_data,Lib.toList_data] at e
 exact h (zir e)
theorem zxr (a:ByteArray) (w:World):Calls Tryz.prog 138 #[.string a] w fun e w'=>e=.returned (.bool false)∧w'=w:=by
 go_enter Tryz.func138,Tryz.ntmps138
 go_wp2_with fail
 go_ret
 exact ⟨by simp,rfl⟩
theorem zu1 (a:ByteArray) (w:World):Calls Tryz.prog 113 #[.string a] w fun e w'=>e=.returned (.bool false)∧w'=w:=by
 go_enter Tryz.func113,Tryz.ntmps113
 go_wp2_with fail
 go_ret
 exact ⟨by simp,rfl⟩
theorem zu2 (a b:ByteArray) (w:World):Calls Tryz.prog 112 #[.string a,.string b] w fun e w'=>e=.returned (.bool (decide (bl a < bl b)))∧w'=w:=by
 have HN:=Lib.hid (fun x W=>zxr x W)
 go_enter Tryz.func112,Tryz.ntmps112
 go_wp2_with (first
  |(go_at_call 138;(with_reducible refine (HN.out _ _).mono ?_);rintro e w1 ⟨rfl,rfl⟩))
 go_ret
 refine ⟨?_,rfl⟩
 simp [bl,Lib.toList_data,bytesLess_eq]
theorem zf5 {ts:List ByteArray} (hs:ts.Pairwise (fun x y=>leT x y=true)) (i j:Nat) (hi:i < ts.length) (hj:j < ts.length) (h:i≤j):bl ts[i]≤bl ts[j]:=by
 by_cases e:i=j
 ·subst e
  exact List.le_refl _
 ·have:=List.pairwise_iff_getElem.1 hs i j hi hj (by omega)
  simpa [leT,leB] using this
set_option maxHeartbeats 6400000 in
set_option maxRecDepth 100000 in
theorem zrw (V:Value) (ts:List ByteArray) (ky:ByteArray) (w:World) (h:zcd w V ts) (hs:ts.Pairwise (fun x y=>leT x y=true)) (hn:ts.length≤2097152):
 Calls Tryz.prog 92 #[V,.string ky] w fun e w'=>∃ (i:Nat) (b:Bool),e=.returned (.tuple #[.int .i64 i,.bool b])∧b=memB ky ts∧Below w.heap.size w w':=by
 obtain ⟨p,cap,rfl,_⟩:=id h
 have HH:=Lib.hid h
 have HS:=Lib.hid hs
 have HN:=Lib.hid (fun x W=>zu1 x W)
 clear h hs
 go_enter Tryz.func92,Tryz.ntmps92
 go_wp2_with fail
 go_loopg [7,8] ts.length (fun gg s7 s8 wr=>∃ lo hi:Nat,s7=.int .i64 lo∧s8=.int .i64 hi∧lo≤hi∧hi≤ts.length∧hi - lo≤gg∧Hid ((∀ (t:Nat) (ht:t < ts.length),t < lo→bl ts[t] < bl ky)∧(∀ (t:Nat) (ht:t < ts.length),hi≤t→¬ bl ts[t] < bl ky)∧Below w.heap.size w wr))
 case atStart=>exact ⟨0,ts.length,rfl,rfl,Nat.zero_le _,Nat.le_refl _,by omega,Lib.hid ⟨fun t _ h=>by omega,fun t h1 h2=>by omega,Below.refl _ _⟩⟩
 case round=>
  obtain ⟨lo,hi,rfl,rfl,hlo,hin,hg,hb⟩:=hrel
  by_cases hlt:lo < hi
  ·have hx:(lo+hi) / 2 < ts.length:=by omega
   obtain ⟨pp,cc,e0,hcv⟩:=HH.out.below hb.out.2.2
   injection e0 with e1 e2 e3
   subst e1
   obtain ⟨g,off,rfl,hcj⟩:=hcv (by intro q;rw [q] at hx;simp at hx)
   have cj:wr.cell? ⟨g,off+(lo+hi) / 2,none⟩=some (.string ts[(lo+hi) / 2]):=by
    rw [hcj _ hx]
    simp [hx]
   obtain ⟨r,hr⟩:∃ r,r=decide (bl ts[(lo+hi) / 2] < bl ky):=⟨_,rfl⟩
   have HC:=Lib.hid (fun W=>zu2 ts[(lo+hi) / 2] ky W)
   rw [← hr] at HC
   have HZ:Hid (r=true↔bl ts[(lo+hi) / 2] < bl ky):=Lib.hid (by rw [hr];simp)
   have hs1:(lo:Int)+hi < 9223372036854775808:=by omega
   have t1:(0:Int)≤((lo:Int)+hi) / 2:=by omega
   have t2:((lo:Int)+hi) / 2 < ts.length:=by omega
   have t3:(((lo:Int)+hi) / 2).toNat=(lo+hi) / 2:=by omega
   have hlt3:(lo:Int) < hi:=by omega
   clear hr hcv hcj e2 e3
   cases r with
   | true=>
     have hz2:=HZ.out.1 rfl
     have HB:=Lib.hid (show (∀ (t:Nat) (ht:t < ts.length),t < (lo+hi) / 2+1→bl ts[t] < bl ky) from fun t ht h=>List.lt_of_le_of_lt (zf5 HS.out t _ ht hx (by omega)) hz2)
     clear hz2 HZ
     go_wp2_with (first
      |(go_at_call 112;(with_reducible refine (HC.out _).mono ?_);rintro e w3 ⟨rfl,rfl⟩))
     go_roundg (hi - ((lo+hi) / 2+1))
     case measure=>omega
     case rel=>exact ⟨(lo+hi) / 2+1,hi,by rw [show (((lo+hi) / 2+1:Nat):Int)=((lo:Int)+(hi:Int)) / 2+1 by omega],rfl,by omega,hin,Nat.le_refl _,Lib.hid ⟨HB.out,hb.out.2.1,hb.out.2.2⟩⟩
   | false=>
     have hz2:¬ bl ts[(lo+hi) / 2] < bl ky:=fun h=>by have:=HZ.out.2 h;simp at this
     have HB:=Lib.hid (show (∀ (t:Nat) (ht:t < ts.length),(lo+hi) / 2≤t→¬ bl ts[t] < bl ky) from fun t ht h q=>hz2 (List.lt_of_le_of_lt (zf5 HS.out _ t hx ht h) q))
     clear hz2 HZ
     go_wp2_with (first
      |(go_at_call 112;(with_reducible refine (HC.out _).mono ?_);rintro e w3 ⟨rfl,rfl⟩))
     go_roundg ((lo+hi) / 2 - lo)
     case measure=>omega
     case rel=>exact ⟨lo,(lo+hi) / 2,rfl,by rw [show (((lo+hi) / 2:Nat):Int)=((lo:Int)+(hi:Int)) / 2 by omega],by omega,by omega,Nat.le_refl _,Lib.hid ⟨hb.out.1,HB.out,hb.out.2.2⟩⟩
  ·obtain rfl:hi=lo:=by omega
   by_cases hlt2:hi < ts.length
   ·obtain ⟨pp,cc,e0,hcv⟩:=HH.out.below hb.out.2.2
    injection e0 with e1 e2 e3
    subst e1
    obtain ⟨g,off,rfl,hcj⟩:=hcv (by intro q;rw [q] at hlt2;simp at hlt2)
    have cj:wr.cell? ⟨g,off+hi,none⟩=some (.string ts[hi]):=by
     rw [hcj _ hlt2]
     simp [hlt2]
    obtain ⟨x,hxe⟩:∃ x,x=ts[hi]:=⟨_,rfl⟩
    rw [← hxe] at cj
    have HX:=Lib.hid hxe
    have hlt3:(hi:Int) < ts.length:=by omega
    clear hcv hcj e2 e3 hxe
    by_cases hz:x=ky
    ·subst hz
     go_wp2_with (first
      |(go_at_call 113;(with_reducible refine (HN.out _ _).mono ?_);rintro e w3 ⟨rfl,rfl⟩))
     refine bodyPost_ret (results_tmp2 rfl _ _ _) rfl ?_
     refine ⟨hi,true,by simp,?_,hb.out.2.2⟩
     symm
     rw [ze0,HX.out]
     exact List.getElem_mem _
    ·have hz3:(x.toList == ky.toList)=false:=zi2 hz
     go_wp2_with (first
      |(go_at_call 113;(with_reducible refine (HN.out _ _).mono ?_);rintro e w3 ⟨rfl,rfl⟩))
     refine bodyPost_ret (results_tmp2 rfl _ _ _) rfl ?_
     refine ⟨hi,false,by simp [hz3],?_,hb.out.2.2⟩
     symm
     refine zi1 fun hq=>?_
     obtain ⟨t,ht,e⟩:=List.getElem_of_mem hq
     by_cases h1:t < hi
     ·have:=hb.out.1 t ht h1
      rw [e] at this
      exact List.lt_irrefl _ this
     ·have h2:=zf5 HS.out hi t hlt2 ht (by omega)
      rw [e] at h2
      rcases List.le_iff_lt_or_eq.1 h2 with h3 | h3
      ·exact hb.out.2.1 hi hlt2 (Nat.le_refl _) h3
      ·exact hz (by rw [HX.out];exact zir h3)
   ·obtain rfl:hi=ts.length:=by omega
    go_wp2_with fail
    refine bodyPost_ret (results_tmp2 rfl _ _ _) rfl ?_
    refine ⟨ts.length,false,rfl,?_,hb.out.2.2⟩
    symm
    refine zi1 fun hq=>?_
    obtain ⟨t,ht,e⟩:=List.getElem_of_mem hq
    have:=hb.out.1 t ht ht
    rw [e] at this
    exact List.lt_irrefl _ this
set_option maxHeartbeats 1600000 in
set_option maxRecDepth 20000 in
theorem zu3 (V:Value) (ts:List ByteArray) (ky:ByteArray) (w:World) (h:zcd w V ts) (hs:ts.Pairwise (fun x y=>leT x y=true)) (hn:ts.length≤2097152):
 Calls Tryz.prog 54 #[V,.string ky] w fun e w'=>e=.returned (.bool (memB ky ts))∧Below w.heap.size w w':=by
 have HC:=Lib.hid (zrw V ts ky w h hs hn)
 obtain ⟨r,hr⟩:∃ r,r=memB ky ts:=⟨_,rfl⟩
 rw [← hr] at HC ⊢
 clear h hr
 go_enter Tryz.func54,Tryz.ntmps54
 go_wp2_with (first
  |(go_at_call 92;(with_reducible refine HC.out.mono ?_);rintro e w1 ⟨i,b,rfl,rfl,hb⟩))
 go_ret
 exact ⟨rfl,hb⟩
end Go.Proofs.YtcfmenkigolnoaaGreatDoor

/- GHO -/
namespace Go.Proofs.YtcfmenkigolnoaaGreatDoor
open Go.RowKit
theorem znt {P:Program} {o:Oper} {a:Act} {w:World} {K:Act→World→Prop} {Q:Exit→Act→World→Prop} {f:Lit→Option Value} (m x:Operand) (t:TypeId) (hop:o.op=Op.lookup t m x false) (k e:TypeId) (KP:Go.Maps.Keyed P k) (ht:P.underlying t=some (.map k e)) {z:Value} (hz:(zeroValue e).run P w=.ok z w) (b n:Nat)
 (hm:a.eval m=.map (some b)) (hown:HMap w P k b n f) (key:Value) (kl:Lit) (hx:a.eval x=key) (hkey:keyOf P k key=some kl) (hl:WideAt.IsKeyLit kl)
 (hK:K (a.put o.dst ((f kl).getD z)) w):o.wp P a w K Q:=by
 have hrun:=hown.look KP ht hz hkey hl
 unfold Oper.wp
 simp [execOp,hop,hm,hx,hrun,Result.andThen]
 exact hK
theorem zen {P:Program} {w:World} {ops:Array Oper} {rest:List Oper} {o:Oper} {a:Act} {Q:Exit→Act→World→Prop} {f:Lit→Option Value} (hw:Region.wanted o (yielded ops a.tmps)=true) (m x:Operand) (t:TypeId) (hop:o.op=Op.lookup t m x false) (k e:TypeId) (K:Go.Maps.Keyed P k) (ht:P.underlying t=some (.map k e)) {z:Value} (hz:(zeroValue e).run P w=.ok z w) (b n:Nat)
 (hm:a.eval m=.map (some b)) (hown:HMap w P k b n f) (key:Value) (kl:Lit) (hx:a.eval x=key) (hkey:keyOf P k key=some kl) (hl:WideAt.IsKeyLit kl)
 (hK:wpList P ops Q rest (a.put o.dst ((f kl).getD z)) w):wpList P ops Q (o::rest) a w:=by
 unfold wpList
 rw [if_pos hw]
 exact .inl (znt m x t hop k e K ht hz b n hm hown key kl hx hkey hl hK)
def zd9 (g:zaw):List Int:=(g.edges.map zas.id).mergeSort leI
theorem zgm (g:zaw):(zd9 g).length=g.edges.length:=by unfold zd9;rw [List.length_mergeSort,List.length_map]
def zhn (l:List zas) (i:Int):ByteArray:=((l.find? fun a=>decide (a.id=i)).map zas.type).getD ⟨#[]⟩
theorem znu {l:List zas} (h:(l.map zas.id).Nodup) {a:zas} (ha:a∈l):zhn l a.id=a.type:=by
 unfold zhn
 rw [zef h ha]
 rfl
def zjt (l:List zas) (ts:List ByteArray) (i:Int):Bool:=ts.isEmpty || memB (zhn l i) ts
def zgn (g:zaw) (w:Way) (ts:List ByteArray):List Int:=((zd9 g).filter (zi0 g.edges w)).filter (zjt g.edges ts)
theorem zxs (ts:List ByteArray):(setS ts).isEmpty=ts.isEmpty:=by
 rw [Bool.eq_iff_iff,List.isEmpty_iff,List.isEmpty_iff]
 constructor
 ·intro h
  refine List.eq_nil_iff_forall_not_mem.2 fun x hx=>?_
  have:=(zgf ts x).2 hx
  rw [h] at this
  simp at this
 ·intro h
  refine List.eq_nil_iff_forall_not_mem.2 fun x hx=>?_
  have:=(zgf ts x).1 hx
  rw [h] at this
  simp at this
theorem zu4 (g:zaw) (w:Way) (ts:List ByteArray):zgn g w (setS ts)=zgn g w ts:=by
 unfold zgn
 refine List.filter_congr fun i _=>?_
 unfold zjt
 rw [zxs,show memB (zhn g.edges i) (setS ts)=memB (zhn g.edges i) ts by rw [Bool.eq_iff_iff,ze0,ze0];exact zgf ts _]
theorem zu5 (ts:List ByteArray):(setS ts).Pairwise (fun x y=>leT x y=true):=by
 have:=(zej zhi zj3 zj4 (ts.map bl)).2
 unfold setS
 rw [List.pairwise_map]
 exact this.imp fun h=>by unfold leT;rw [zqc,zqc];exact h.1
theorem zu6 {w:World} {P:Nat→Prop} {b:Nat} {l:List zas} (h:zcs za0 zas.id zeb w P b l) (a:zas) (ha:a∈l):(Lit.int .i64 a.id).wf=true∧(Lit.int .i64 a.src).wf=true∧(Lit.int .i64 a.dst).wf=true:=by
 obtain ⟨_,_,_,_,h3,_⟩:=h
 obtain ⟨a',c,hp,_,pv,rfl,hw,_⟩:=h3 a ha
 rw [← hp.1,← hp.2.1,← hp.2.2.1]
 exact hw
theorem zu7 {w:World} {P:Nat→Prop} {b:Nat} {l:List zas} (h:zcs za0 zas.id zeb w P b l) (hd:(l.map zas.id).Nodup) (n:Int) (hn:n∈l.map zas.id):∃ m f x0 x1 x2 pv,m≤l.length∧HMap w Tryz.prog 2 b m f∧(f (.int .i64 n)).getD (.agg #[.int .i64 0,.int .i64 0,.int .i64 0,.string ⟨#[]⟩,.slice none 0 0])=.agg #[x0,x1,x2,.string (zhn l n),pv]∧
 (Lit.int .i64 n).wf=true:=by
 obtain ⟨a,ha,rfl⟩:=List.mem_map.1 hn
 have hwf:=zu6 h a ha
 obtain ⟨m,f,h1,h2,h3,h4⟩:=h
 obtain ⟨a',c,hp,hf,pv,rfl,_,_,hl,hs⟩:=h3 a ha
 exact ⟨m,f,_,_,_,pv,h1,h2,by rw [hf,znu hd ha,← hp.2.2.2.1];rfl,hwf.1⟩
theorem zu8 (x z y u v:Value) (w:World):(Instr.field 41 (.agg #[x,z,y,u,v]) 3).run Tryz.prog w=.ok u w:=by kernel_rfl
theorem zero42 (w:World):(zeroValue 42).run Tryz.prog w=.ok (.slice none 0 0) w:=by kernel_rfl
theorem zf6 {α:Type} (p:α→Bool) (l:List α) (j:Nat) (hj:j < l.length):(l.take (j+1)).filter p=(l.take j).filter p++(if p l[j]=true then [l[j]] else []):=by
 rw [List.take_succ_eq_append_getElem hj,List.filter_append]
 by_cases q:p l[j]=true
 ·rw [if_pos q,List.filter_cons_of_pos q];rfl
 ·rw [if_neg q,List.filter_cons_of_neg q];rfl
set_option maxHeartbeats 6400000 in
set_option maxRecDepth 20000 in
theorem zu9 (W:World) (s:Nat) (g:zaw) (h:zcz W s g) (hd:(g.edges.map zas.id).Nodup) (hn:g.edges.length≤65536) (wy:Way) (v:Value) (ts:List ByteArray) (hv:zcd W v ts) (hts:ts.length≤2097152):
 Calls Tryz.prog 23 #[.pointer (some ⟨s,0,none⟩),.int .i64 wy.1.1,.int .i64 wy.1.2,v] W fun e w'=>∃ R,e=.returned R∧w'.ownsRow W.heap.size 2 1 R (zgn g wy ts).length ((zgn g wy ts).map (Value.int .i64))∧Below W.heap.size W w':=by
 obtain ⟨i0,hi,hz0,hz1,hz2⟩:=info_parts zdc
 obtain ⟨m0,m1,m4,m5,V2,V3,q0,_,q2,_,_,_,q6⟩:=h.is
 have hI:∀ i∈zd9 g,((zdw g.edges i).map mkW).Nodup:=fun i hi=>by
  obtain ⟨a,ha,rfl⟩:=List.mem_map.1 (List.mem_mergeSort.1 hi)
  obtain ⟨_,h1,h2⟩:=zu6 q2 a ha
  exact zjs hd ha h1 h2
 have hS:=zit v ts W hv hts
 obtain ⟨L,hL⟩:∃ L,L=setS ts:=⟨_,rfl⟩
 rw [← hL] at hS
 have hLr:L.Pairwise (fun x y=>leT x y=true):=by rw [hL];exact zu5 ts
 have hLz:L.length≤2097152:=by rw [hL];unfold setS;rw [List.length_map];exact Nat.le_trans (zgb _) (by rw [List.length_map];exact hts)
 rw [← zu4,← hL]
 obtain ⟨hs,hhs⟩:∃ hs,hs=(zd9 g).filter (zi0 g.edges wy):=⟨_,rfl⟩
 have hhl:hs.length≤65536:=by rw [hhs];exact zds _ _ _ (by rw [zgm];exact hn)
 have hmem:∀ i∈hs,i∈g.edges.map zas.id:=fun i hi=>by
  rw [hhs] at hi
  exact List.mem_mergeSort.1 (List.mem_filter.1 hi).1
 have eH:zgn g wy L=hs.filter (zjt g.edges L):=by rw [hhs];rfl
 rw [eH]
 have HST:=Lib.hid h
 have HS:=Lib.hid hS
 have HLR:=Lib.hid hLr
 have HMEM:=Lib.hid hmem
 have HI:=Lib.hid hI
 have HHS:=Lib.hid hhs
 have HD:=Lib.hid hd
 have hkey:=zqk wy
 have hkl:WideAt.IsKeyLit (KW wy):=trivial
 obtain ⟨a,ha⟩:∃ a,a=wy.1.1:=⟨_,rfl⟩
 obtain ⟨d,hdd⟩:∃ d,d=wy.1.2:=⟨_,rfl⟩
 rw [← ha,← hdd] at hkey ⊢
 obtain ⟨kw,hkw⟩:∃ kw,kw=KW wy:=⟨_,rfl⟩
 rw [← hkw] at hkey hkl
 have HKW:=Lib.hid hkw
 clear h hS hLr hmem hI hhs hd hL hv hts eH q0 q2 q6 ha hdd hkw hn
 go_enter Tryz.func23,Tryz.ntmps23
 go_upto_region 3 with (first
  |(go_at_call 53;(with_reducible refine HS.out.mono ?_);rintro e w1 ⟨V,rfl,hV,hb1⟩
    obtain ⟨pV,cV,rfl⟩:=zba hV))
 have st:=HST.out.below hb1
 obtain ⟨k0,k1,k4,k5,U2,U3,r0,_,_,_,_,_,r6⟩:=st.is
 obtain ⟨nn,ff,hnn,hmap,h3,_⟩:=r6
 have hrow:=zfq h3 wy
 have e6:(g.edges.map zas.id).mergeSort leI=zd9 g:=rfl
 rw [e6,grp_way g.edges (zd9 g) wy HI.out,← HHS.out] at hrow
 obtain ⟨p0,cap0,hv0⟩:=zba hrow
 rw [hv0] at hrow
 rw [← HKW.out] at hv0
 have c5:=zac r0 5 rfl
 have hin:=za4 hrow
 obtain ⟨n,hnl⟩:∃ n,n=hs.length:=⟨_,rfl⟩
 obtain ⟨m,hml⟩:∃ m,m=L.length:=⟨_,rfl⟩
 have hLs:=zis hV
 rw [← hnl] at hv0 hin hhl
 rw [← hml] at hLs hLz ⊢
 have HV0:=Lib.hid hv0
 have HIN:=Lib.hid hin
 have HLS:=Lib.hid hLs
 have HB1:=Lib.hid hb1
 have HL:=Lib.hid (And.intro hnl hml)
 clear hv0 hin hLs hrow h3 hnn e6 hV hnl hml hb1 st
 go_wp2_with (first
  |(at_lookup;refine zb6 rfl _ _ 76 rfl 98 42 law98 Tryz.underlying76 (zero42 _) k5 nn rfl hmap _ kw rfl hkey hkl ?_;rw [HV0.out]))
 clear hmap c5 hkey r0
 go_loopg [10,12,24] n (fun gg s10 s12 s24 wr=>∃ j:Nat,j+gg=n∧s24=.int .i64 j∧Hid (wr.ownsRow w1.heap.size 2 1 s10 ((hs.take j).filter (zjt g.edges L)).length (((hs.take j).filter (zjt g.edges L)).map (Value.int .i64))∧Below w1.heap.size w1 wr))
 case atStart=>exact ⟨0,by omega,rfl,Lib.hid ⟨by simp;exact World.ownsRow_nil _ _ _ _,Below.refl _ _⟩⟩
 case round=>
  obtain ⟨j,hjg,rfl,HA⟩:=hrel
  by_cases hj:(j:Int) < n
  ·have hj1:j < hs.length:=by have:=HL.out.1;omega
   obtain ⟨pp,cc,e0,hcv⟩:=HIN.out.below HA.out.2
   injection e0 with e1 e2 e3
   subst e1
   obtain ⟨g2,off,rfl,hcj⟩:=hcv (by intro q;rw [q] at hj1;simp at hj1)
   obtain ⟨x,hxj⟩:∃ x,x=hs[j]:=⟨_,rfl⟩
   have cj:wr.cell? ⟨g2,off+j,none⟩=some (.int .i64 x):=by
    rw [hcj j hj1,hxj]
    simp [hj1]
   have etk:=zf6 (zjt g.edges L) hs j hj1
   rw [← hxj] at etk
   obtain ⟨l,hl⟩:∃ l,l=(hs.take j).filter (zjt g.edges L):=⟨_,rfl⟩
   have hlen:l.length≤65536:=by
    rw [hl]
    refine zds _ _ _ ?_
    have:=List.length_take_le j hs
    have:=HL.out
    omega
   rw [← hl] at HA etk
   obtain ⟨r,hr⟩:∃ r,r=zjt g.edges L x:=⟨_,rfl⟩
   rw [← hr] at etk
   have st:=HST.out.below (zab HB1.out HA.out.2 HB1.out.size)
   obtain ⟨k0,k1,k4,k5,U2,U3,r0,_,r2,_,_,_,_⟩:=st.is
   obtain ⟨mm,f1,x0,x1,x2,pv,hmm,hmap1,hX,hwx⟩:=zu7 r2 HD.out x (HMEM.out x (by rw [hxj];exact List.getElem_mem hj1))
   have c1:=zac r0 1 rfl
   have hkx:keyOf Tryz.prog 2 (.int .i64 x)=some (.int .i64 x):=Go.Maps.keyOf_int_mk Tryz.underlying2 hwx
   obtain ⟨tt,htt⟩:∃ tt,tt=zhn g.edges x:=⟨_,rfl⟩
   have HC:=Lib.hid (zu3 (.slice pV m cV) L tt wr (HLS.out.below HA.out.2) HLR.out (by have:=HL.out.2;omega))
   rw [← htt] at hX
   have hf:=zu8 x0 x1 x2 (.string tt) pv
   have hrr:r=(decide (m=0) || memB tt L):=by
    rw [hr,htt,HL.out.2]
    unfold zjt
    rw [show L.isEmpty=decide (L.length=0) by cases L <;> rfl]
   have HT:=Lib.hid etk
   have HX:=Lib.hid hX
   have HBB:=Lib.hid (And.intro hmm hwx)
   clear hcj hcv e2 e3 hxj hr etk hl htt hX st hmm hwx
   obtain ⟨q,hq⟩:∃ q,q=memB tt L:=⟨_,rfl⟩
   rw [← hq] at HC hrr
   clear hq
   by_cases hm0:m=0
   ·subst hm0
    obtain rfl:r=true:=by rw [hrr];rfl
    have ho:=HA.out.1
    have hb:=HA.out.2
    clear hrr HC
    go_wp2_with (first
     |(at_builtin;refine wpList_append_own_at _ rfl _ _ 42 rfl w1.heap.size 2 i0 (.int .i64 0) 1 8 Tryz.underlying42 hi hz0 hz1 hz2 rfl (by decide) _ _ _ rfl (ho.alloc _) ⟨wr.heap.size,0,none⟩ 1 1 [.int .i64 x] rfl rfl (zbc wr [.int .i64 x] 2) (by simp [Value.oneCell']) ?_ ?_ ?_ ?_))
    all_goals (try (first |(unfold maxLen;omega) | omega |(have:=hb.size;omega) |(simp;have:=hb.size;omega)))
    intro v' w5 ho5 hg5 _ hloc5
    have hb5:Below w1.heap.size w1 w5:=(hb.alloc hb.size _).grown hg5 (by have:=hb.size;simp;omega) (fun j e=>(ho.lt j e).1)
    have HB:=Lib.hid (show w5.ownsRow w1.heap.size 2 1 v' (l++[x]).length ((l++[x]).map (Value.int .i64)) by rw [List.length_append,List.map_append];exact ho5)
    clear ho5 hg5 hloc5 ho hb
    go_wp2_with fail
    go_roundg (gk - 1)
    case measure=>omega
    case rel=>exact ⟨j+1,by omega,by go_num,Lib.hid (by rw [HT.out,if_pos (by trivial)];exact ⟨HB.out,hb5⟩)⟩
   ·have hm1:((m:Int) == 0)=false:=by simp;omega
    rw [show decide (m=0)=false from decide_eq_false hm0,Bool.false_or] at hrr
    subst hrr
    cases r with
    | true=>
      go_wp2_with (first
       |((refine zen ?_ (.tmp 36) (.tmp 37) 74 ?_ 2 41 law2 Tryz.underlying74 (zkc _) k1 mm ?_ hmap1 _ (.int .i64 x) ?_ hkx trivial ?_);rfl;rfl;rfl;rfl;rw [HX.out])
       |(go_at_call 54;(with_reducible refine HC.out.mono ?_);rintro e w3 ⟨rfl,hb3⟩
         have ho:w3.ownsRow w1.heap.size 2 1 _ l.length (l.map (Value.int .i64)):=zav HA.out.1 hb3
         have hb:Below w1.heap.size w1 w3:=zab HA.out.2 hb3 HA.out.2.size)
       |(at_builtin;refine wpList_append_own_at _ rfl _ _ 42 rfl w1.heap.size 2 i0 (.int .i64 0) 1 8 Tryz.underlying42 hi hz0 hz1 hz2 rfl (by decide) _ _ _ rfl (ho.alloc _) ⟨w3.heap.size,0,none⟩ 1 1 [.int .i64 x] rfl rfl (zbc w3 [.int .i64 x] 2) (by simp [Value.oneCell']) ?_ ?_ ?_ ?_))
      all_goals (try (first |(unfold maxLen;omega) | omega |(have:=hb.size;omega) |(simp;have:=hb.size;omega)))
      intro v' w5 ho5 hg5 _ hloc5
      have hb5:Below w1.heap.size w1 w5:=(hb.alloc hb.size _).grown hg5 (by have:=hb.size;simp;omega) (fun j e=>(ho.lt j e).1)
      have HB:=Lib.hid (show w5.ownsRow w1.heap.size 2 1 v' (l++[x]).length ((l++[x]).map (Value.int .i64)) by rw [List.length_append,List.map_append];exact ho5)
      clear ho5 hg5 hloc5 ho hb
      go_wp2_with fail
      go_roundg (gk - 1)
      case measure=>omega
      case rel=>exact ⟨j+1,by omega,by go_num,Lib.hid (by rw [HT.out,if_pos (by trivial)];exact ⟨HB.out,hb5⟩)⟩
    | false=>
      go_wp2_with (first
       |((refine zen ?_ (.tmp 36) (.tmp 37) 74 ?_ 2 41 law2 Tryz.underlying74 (zkc _) k1 mm ?_ hmap1 _ (.int .i64 x) ?_ hkx trivial ?_);rfl;rfl;rfl;rfl;rw [HX.out])
       |(go_at_call 54;(with_reducible refine HC.out.mono ?_);rintro e w3 ⟨rfl,hb3⟩
         have ho:w3.ownsRow w1.heap.size 2 1 _ l.length (l.map (Value.int .i64)):=zav HA.out.1 hb3
         have hb:Below w1.heap.size w1 w3:=zab HA.out.2 hb3 HA.out.2.size))
      go_roundg (gk - 1)
      case measure=>omega
      case rel=>exact ⟨j+1,by omega,by go_num,Lib.hid (by rw [HT.out,if_neg (by simp),List.append_nil];exact ⟨ho,hb⟩)⟩
  ·have e:hs.take j=hs:=by rw [List.take_of_length_le];have:=HL.out;omega
   have hA:=HA.out
   rw [e] at hA
   have HZ:=Lib.hid (And.intro (zbr hA.1 HB1.out.size) (zab HB1.out hA.2 HB1.out.size))
   clear hA HA e
   go_wp2_with fail
   go_ret
   exact ⟨_,rfl,HZ.out⟩
end Go.Proofs.YtcfmenkigolnoaaGreatDoor

/- GPN -/
namespace Go.Proofs.YtcfmenkigolnoaaGreatDoor
open Go.RowKit
def leP (x y:za2):Bool:=leT x.key y.key
def znv (ps:List za2):List za2:=ps.mergeSort leP
theorem leP_tr:∀ a b c:za2,leP a b=true→leP b c=true→leP a c=true:=fun a b c=>zhi _ _ _
theorem leP_to:∀ a b:za2,(leP a b || leP b a)=true:=fun a b=>zj3 _ _
theorem zva {ps:List za2} (hd:(ps.map fun p=>bl p.key).Nodup) {x y:za2} (hx:x∈ps) (hy:y∈ps) (h:bl x.key=bl y.key):x=y:=by
 induction ps with
 | nil=>simp at hx
 | cons a r ih=>
   rw [List.map_cons,List.nodup_cons] at hd
   rcases List.mem_cons.1 hx with e1 | h1
   ·rcases List.mem_cons.1 hy with e2 | h2
    ·rw [e1,e2]
    ·exact absurd (List.mem_map.2 ⟨y,h2,by rw [← h,e1]⟩) hd.1
   ·rcases List.mem_cons.1 hy with e2 | h2
    ·exact absurd (List.mem_map.2 ⟨x,h1,by rw [h,e2]⟩) hd.1
    ·exact ih hd.2 h1 h2
theorem zea.eq {ps ps':List za2} (h:zea ps ps') (hd:(ps.map fun p=>bl p.key).Nodup):ps'=znv ps:=by
 refine List.Perm.eq_of_pairwise (le:=fun x y=>leP x y=true) ?_ h.2 (List.pairwise_mergeSort leP_tr leP_to ps) (h.1.trans (List.mergeSort_perm ps leP).symm)
 intro a b ha hb h1 h2
 exact zva hd (h.1.mem_iff.1 ha) ((List.mergeSort_perm ps leP).mem_iff.1 hb) (zj4 _ _ h1 h2)
def zc6 (a:zaq):zaq:=⟨a.id,sortS a.labels,znv a.props⟩
def zc7 (a:zas):zas:=⟨a.id,a.src,a.dst,a.type,znv a.props⟩
theorem ze7.eq {a a':zaq} (h:ze7 a a') (hd:(a.props.map fun p=>bl p.key).Nodup):a'=zc6 a:=by
 obtain ⟨i,ls,ps⟩:=a'
 obtain ⟨h1,h2,h3⟩:=h
 have h4:=h3.eq hd
 simp only at h1 h2 h4
 unfold zc6
 rw [h1,h2,h4]
theorem zeb.eq {a a':zas} (h:zeb a a') (hd:(a.props.map fun p=>bl p.key).Nodup):a'=zc7 a:=by
 obtain ⟨i,s,d,t,ps⟩:=a'
 obtain ⟨h1,h2,h3,h4,h5⟩:=h
 have h6:=h5.eq hd
 simp only at h1 h2 h3 h4 h6
 unfold zc7
 rw [h1,h2,h3,h4,h6]
def zi3 (g:zaw) (i:Int):zaq:=((g.nodes.find? fun a=>decide (a.id=i)).map zc6).getD ⟨i,[],[]⟩
def zfz (g:zaw) (i:Int):zas:=((g.edges.find? fun a=>decide (a.id=i)).map zc7).getD ⟨i,0,0,⟨#[]⟩,[]⟩
theorem zfg {g:zaw} (h:(g.nodes.map zaq.id).Nodup) {a:zaq} (ha:a∈g.nodes):zi3 g a.id=zc6 a:=by
 unfold zi3
 rw [zef h ha]
 rfl
theorem zeo {g:zaw} (h:(g.edges.map zas.id).Nodup) {a:zas} (ha:a∈g.edges):zfz g a.id=zc7 a:=by
 unfold zfz
 rw [zef h ha]
 rfl
def za3 (g:zaw):zaw:=⟨(zez g).map (zi3 g),(zd9 g).map (zfz g)⟩
theorem zed (g:zaw):(za3 g).nodes.length=g.nodes.length:=by unfold za3;rw [List.length_map,zgk]
theorem zdt (g:zaw):(za3 g).edges.length=g.edges.length:=by unfold za3;rw [List.length_map,zgm]
structure zep (g:zaw):Prop where
 nn:g.nodes.length≤131072
 ne:g.edges.length≤65536
 dn:(g.nodes.map zaq.id).Nodup
 de:(g.edges.map zas.id).Nodup
 node:∀ a∈g.nodes,zf4 a=true
 edge:∀ a∈g.edges,zgg (idsN g) a=true
theorem goodG {g:zaw} (h:zd5 g=true):zep g:=by
 unfold zd5 at h
 simp only [Bool.and_eq_true,decide_eq_true_eq,List.all_eq_true] at h
 obtain ⟨⟨⟨⟨⟨h1,h2⟩,h3⟩,h4⟩,h5⟩,h6⟩:=h
 exact ⟨h1,h2,h3,h4,h5,h6⟩
theorem zcn {ps:List za2} (h:zce ps=true):ps.length≤65536∧(ps.map fun p=>bl p.key).Nodup∧(∀ p∈ps,zco p.key=true)∧∀ p∈ps,zfe p.v=true:=by
 unfold zce zc5 at h
 simp only [Bool.and_eq_true,decide_eq_true_eq,List.all_eq_true] at h
 obtain ⟨⟨h1,⟨_,h2⟩,h3⟩,h4⟩:=h
 rw [List.map_map] at h3
 exact ⟨h1,h3,fun p hp=>h2 _ (List.mem_map.2 ⟨p,hp,rfl⟩),h4⟩
theorem zep.nkeys {g:zaw} (h:zep g) (a:zaq) (ha:a∈g.nodes):zce a.props=true:=by
 have:=h.node a ha
 unfold zf4 at this
 simp only [Bool.and_eq_true] at this
 exact this.2
theorem zep.labels {g:zaw} (h:zep g) (a:zaq) (ha:a∈g.nodes):a.labels.length≤65536∧(a.labels.map bl).Nodup∧∀ t∈a.labels,zco t=true:=by
 have:=h.node a ha
 unfold zf4 zc5 at this
 simp only [Bool.and_eq_true,decide_eq_true_eq,List.all_eq_true] at this
 exact ⟨this.1.2.1.1,this.1.2.2,this.1.2.1.2⟩
theorem zep.ekeys {g:zaw} (h:zep g) (a:zas) (ha:a∈g.edges):zce a.props=true∧zco a.type=true∧0≤a.id∧a.src∈idsN g∧a.dst∈idsN g:=by
 have:=h.edge a ha
 unfold zgg zuj at this
 simp only [Bool.and_eq_true,decide_eq_true_eq] at this
 exact ⟨this.2.2,this.2.1.2,this.2.1.1,this.1.1,this.1.2⟩
end Go.Proofs.YtcfmenkigolnoaaGreatDoor

/- R1 -/
namespace Go.Proofs.YtcfmenkigolnoaaGreatDoor
open Go.RowKit Go.ChangeShapes
variable {H:Type} {enc:TypeId × Value→H}
theorem zkd {w:World} {a:Addr} {m:Nat} {cs:List Value} (h:w.cells? 0 a m=some cs):cs.length=m∧∀ j,j < m→w.cell? (a.add j)=cs[j]?:=by
 unfold World.cells? at h
 rw [if_pos (Nat.zero_le _)] at h
 have hl:=mapM_some_length h
 rw [List.length_range] at hl
 refine ⟨hl,fun j hj=>?_⟩
 exact mapM_some_get h j j (by rw [List.getElem?_range hj])
theorem zh5 (g off i:Nat):(Addr.mk g off none).add i=⟨g,off+i,none⟩:=by unfold Addr.add;split <;> simp_all
theorem list6 {α:Type} {l:List α} (h:l.length=6):∃ a b c d e f,l=[a,b,c,d,e,f]:=by
 match l,h with
 | [a,b,c,d,e,f],_=>exact ⟨a,b,c,d,e,f,rfl⟩
theorem zfs {d:DataW H}:{l:List (DataW H)}→d∈l→Rows.uptoBulk d≤Rows.uptoBulkAll l
 | [],h=>absurd h (by simp)
 | e::r,h=>by
   unfold Rows.uptoBulkAll
   rcases List.mem_cons.1 h with h | h
   ·rw [h];omega
   ·have:=zfs h;omega
theorem zxt (d:DataW H):1≤Rows.uptoBulk d:=by
 cases d with
 | lit l=>cases l <;> simp [Rows.uptoBulk]
 | _=>simp [Rows.uptoBulk]
theorem zkx:(l:List (DataW H))→l.length≤Rows.uptoBulkAll l
 | []=>by simp
 | e::r=>by
   unfold Rows.uptoBulkAll
   have:=zkx r
   have:=zxt e
   simp only [List.length_cons]
   omega
theorem zgo {W:World} {n:Nat} {cs:List Value} {y:DataW H × List MemPlace} (h:DataW.trod enc Tryz.prog W 0 (fun _=>true) true n 60 cs=some y):
 ∃ n' k b m t x L yl,n=n'+1∧cs=[.int .i64 k,.bool b,.int .i64 m,.string t,.string x,L]∧DataW.trod enc Tryz.prog W 0 (fun _=>true) true n' 43 [L]=some yl∧
  t.size≤Rows.uptoBulk y.1∧x.size≤Rows.uptoBulk y.1∧Rows.uptoBulk yl.1≤Rows.uptoBulk y.1∧(Lit.int .i64 m).wf=true:=by
 obtain ⟨xs,n',rfl,rfl,hl,hlen,hf⟩:=DataW.trod_struct Tryz.underlying60 h
 obtain ⟨c0,c1,c2,c3,c4,c5,rfl⟩:=list6 (hl.trans (by kernel_rfl:Tryz.prog.cellsOf 60=6))
 obtain ⟨y0,y1,y2,y3,y4,y5,rfl⟩:=list6 (hlen.trans rfl)
 have e1:Tryz.prog.cellsOf 3=1:=by kernel_rfl
 have e2:Tryz.prog.cellsOf 4=1:=by kernel_rfl
 have e3:Tryz.prog.cellsOf 2=1:=by kernel_rfl
 have e4:Tryz.prog.cellsOf 9=1:=by kernel_rfl
 have e5:Tryz.prog.cellsOf 43=1:=by kernel_rfl
 have h0:DataW.trod enc Tryz.prog W 0 (fun _=>true) true n' 3 (([c0,c1,c2,c3,c4,c5].drop 0).take (Tryz.prog.cellsOf 3))=[y0,y1,y2,y3,y4,y5][0]?:=hf 0 _ rfl
 have h1:DataW.trod enc Tryz.prog W 0 (fun _=>true) true n' 4 (([c0,c1,c2,c3,c4,c5].drop 1).take (Tryz.prog.cellsOf 4))=[y0,y1,y2,y3,y4,y5][1]?:=hf 1 _ rfl
 have h2:DataW.trod enc Tryz.prog W 0 (fun _=>true) true n' 2 (([c0,c1,c2,c3,c4,c5].drop 2).take (Tryz.prog.cellsOf 2))=[y0,y1,y2,y3,y4,y5][2]?:=hf 2 _ rfl
 have h3:DataW.trod enc Tryz.prog W 0 (fun _=>true) true n' 9 (([c0,c1,c2,c3,c4,c5].drop 3).take (Tryz.prog.cellsOf 9))=[y0,y1,y2,y3,y4,y5][3]?:=hf 3 _ rfl
 have h4:DataW.trod enc Tryz.prog W 0 (fun _=>true) true n' 9 (([c0,c1,c2,c3,c4,c5].drop 4).take (Tryz.prog.cellsOf 9))=[y0,y1,y2,y3,y4,y5][4]?:=hf 4 _ rfl
 have h5:DataW.trod enc Tryz.prog W 0 (fun _=>true) true n' 43 (([c0,c1,c2,c3,c4,c5].drop 5).take (Tryz.prog.cellsOf 43))=[y0,y1,y2,y3,y4,y5][5]?:=hf 5 _ rfl
 rw [e1] at h0
 rw [e2] at h1
 rw [e3] at h2
 rw [e4] at h3 h4
 rw [e5] at h5
 replace h0:DataW.trod enc Tryz.prog W 0 (fun _=>true) true n' 3 [c0]=some y0:=h0
 replace h1:DataW.trod enc Tryz.prog W 0 (fun _=>true) true n' 4 [c1]=some y1:=h1
 replace h2:DataW.trod enc Tryz.prog W 0 (fun _=>true) true n' 2 [c2]=some y2:=h2
 replace h3:DataW.trod enc Tryz.prog W 0 (fun _=>true) true n' 9 [c3]=some y3:=h3
 replace h4:DataW.trod enc Tryz.prog W 0 (fun _=>true) true n' 9 [c4]=some y4:=h4
 replace h5:DataW.trod enc Tryz.prog W 0 (fun _=>true) true n' 43 [c5]=some y5:=h5
 obtain ⟨k,a0,_,_⟩:=DataW.trod_int Tryz.underlying3 h0
 obtain ⟨b,a1,_⟩:=DataW.trod_bool Tryz.underlying4 h1
 obtain ⟨m,a2,_,wm⟩:=DataW.trod_int Tryz.underlying2 h2
 obtain ⟨t,a3,z3,_⟩:=DataW.trod_string Tryz.underlying9 h3
 obtain ⟨x,a4,z4,_⟩:=DataW.trod_string Tryz.underlying9 h4
 simp only [List.cons.injEq,and_true] at a0 a1 a2 a3 a4
 subst a0 a1 a2 a3 a4
 refine ⟨n',k,b,m,t,x,c5,y5,rfl,rfl,h5,?_,?_,?_,wm⟩
 ·have:Rows.uptoBulk y3.1≤Rows.uptoBulkAll ([y0,y1,y2,y3,y4,y5].map (·.1)):=zfs (by simp)
  rw [z3] at this
  have e:Rows.uptoBulk (.lit (.string t.data.toList):DataW H)=t.data.toList.length+1:=rfl
  have e':t.data.toList.length=t.size:=Array.length_toList
  show t.size≤Rows.uptoBulkAll _+1
  rw [e,e',← z3] at this
  omega
 ·have:Rows.uptoBulk y4.1≤Rows.uptoBulkAll ([y0,y1,y2,y3,y4,y5].map (·.1)):=zfs (by simp)
  rw [z4] at this
  have e:Rows.uptoBulk (.lit (.string x.data.toList):DataW H)=x.data.toList.length+1:=rfl
  have e':x.data.toList.length=x.size:=Array.length_toList
  show x.size≤Rows.uptoBulkAll _+1
  rw [e,e',← z4] at this
  omega
 ·have:Rows.uptoBulk y5.1≤Rows.uptoBulkAll ([y0,y1,y2,y3,y4,y5].map (·.1)):=zfs (by simp)
  show Rows.uptoBulk y5.1≤Rows.uptoBulkAll _+1
  omega
theorem zyz {m:Int} (h:(Lit.int .i64 m).wf=true):-9223372036854775808≤m∧m≤9223372036854775807:=by
 have:=bounds_i64 h
 omega
set_option maxRecDepth 20000 in
theorem znw {W:World} (B:Nat) (hBB:B≤2097152):∀ (N n:Nat),n≤N→∀ (L:Value) (y:DataW H × List MemPlace),DataW.trod enc Tryz.prog W 0 (fun _=>true) true n 43 [L]=some y→Rows.uptoBulk y.1≤B→∃ l,Held W L l∧l.length≤B:=by
 intro N
 induction N with
 | zero=>
   intro n hn L y h _
   obtain rfl:n=0:=by omega
   simp [DataW.trod] at h
 | succ N IH=>
   intro n0 hn0 L y h hB
   rcases DataW.trod_slice Tryz.underlying43 h with ⟨e,_⟩ | ⟨a,len,cap,elems,rest,n1,hn,e,rfl,hb,hl,hm,hlen,hel,_,_⟩
   ·obtain rfl:L=.slice none 0 0:=by simpa using e
    exact ⟨[],by unfold Held;exact ⟨none,0,rfl⟩,by simp⟩
   ·obtain rfl:L=.slice (some a) len cap:=by simpa using e
    rw [show Tryz.prog.cellsOf 60=6 by kernel_rfl] at hel
    have hE:Rows.uptoBulkAll (elems.map (·.1))≤B:=by
     have:Rows.uptoBulkAll (elems.map (·.1))+Rows.uptoBulkAll (rest.map (·.1))+1≤B:=hB
     omega
    have hln:len≤B:=by
     have:=zkx (elems.map (·.1))
     simp only [List.length_map] at this
     omega
    have each:∀ i,i < len→∃ k b m t x l p,(∀ j v,[Value.int .i64 k,.bool b,.int .i64 m,.string t,.string x,p][j]?=some v→W.cell? ((a.add (i*6)).add j)=some v)∧Fine m t x (List.length (α:=Val) l)∧Held W p l:=by
     intro i hi
     have h1:=hel i hi
     have hi':i < elems.length:=by omega
     rw [List.getElem?_eq_getElem hi',Option.bind_eq_some_iff] at h1
     obtain ⟨cs,hcs,hy⟩:=h1
     obtain ⟨c1,c2⟩:=zkd hcs
     obtain ⟨n',k,b,m,t,x,p,yl,hn',rfl,hp,ht,hx,hpl,wm⟩:=zgo hy
     have hbe:Rows.uptoBulk elems[i].1≤B:=Nat.le_trans (zfs (List.mem_map_of_mem (List.getElem_mem hi'))) hE
     obtain ⟨l,hheld,hll⟩:=IH n' (by omega) p yl hp (by omega)
     obtain ⟨w1,w2⟩:=zyz wm
     refine ⟨k,b,m,t,x,l,p,fun j v hv=>?_,⟨by omega,by omega,by omega,w1,w2⟩,hheld⟩
     have hj:j < 6:=by
      have:=(List.getElem?_eq_some_iff.1 hv).1
      simpa using this
     rw [c2 j hj,hv]
    by_cases h0:len=0
    ·subst h0
     exact ⟨[],by unfold Held;exact ⟨some a,cap,rfl⟩,by simp⟩
    ·have hsp:a.spot=none:=by
      obtain ⟨k,b,m,t,x,l,p,hc,_,_⟩:=each 0 (by omega)
      have h0:=hc 0 _ rfl
      cases kk:a.spot with
      | none=>rfl
      | some mm=>
        rw [show (a.add (0*6)).add 0=a by simp [Addr.add]] at h0
        unfold World.cell? at h0
        rw [kk] at h0
        split at h0 <;> simp at h0
     obtain ⟨g,off,spot⟩:=a
     simp only at hsp
     subst hsp
     have build:∀ m,m≤len→∃ l:List Val,l.length=m∧zb8 W g (off+(len - m)*6) l:=by
      intro m
      induction m with
      | zero=>exact fun _=>⟨[],rfl,by unfold zb8;trivial⟩
      | succ m ih=>
        intro hm1
        obtain ⟨l,hll,hh⟩:=ih (by omega)
        obtain ⟨k,b,mm,t,x,q,p,hc,hf,hp⟩:=each (len - (m+1)) (by omega)
        have ea:∀ j,((⟨g,off,none⟩:Addr).add ((len - (m+1))*6)).add j=⟨g,off+(len - (m+1))*6+j,none⟩:=fun j=>by rw [zh5,zh5]
        refine ⟨.mk k b mm t x q::l,by simp [hll],?_⟩
        unfold zb8
        refine ⟨?_,?_⟩
        ·unfold zbf
         have hcj:=fun j v hv=>(congrArg W.cell? (ea j)).symm.trans (hc j v hv)
         exact ⟨hcj 0 _ rfl,hcj 1 _ rfl,hcj 2 _ rfl,hcj 3 _ rfl,hcj 4 _ rfl,hf,p,hcj 5 _ rfl,hp⟩
        ·rw [show off+(len - (m+1))*6+6=off+(len - m)*6 by omega]
         exact hh
     obtain ⟨l,hll,hh⟩:=build len (Nat.le_refl _)
     rw [Nat.sub_self,Nat.zero_mul,Nat.add_zero] at hh
     refine ⟨l,?_,by omega⟩
     cases l with
     | nil=>simp at hll;omega
     | cons v r=>
       unfold zb8 at hh
       unfold Held
       exact ⟨g,off,cap,by rw [← hll];rfl,hh.1,hh.2⟩
end Go.Proofs.YtcfmenkigolnoaaGreatDoor
