/- Texts of one kind, one behind the other: each says ahead of itself what it shows. -/
import Derived.Test.YtanbgdhmfjgihaaGreatDoorTba
import Derived.Test.YtanbgdhmfjgihaaGreatDoorTaq
import Derived.Test.YtanbgdhmfjgihaaGreatDoorTar
namespace Go.Proofs.YtanbgdhmfjgihaaGreatDoor
open Go.RowKit
set_option maxHeartbeats 12800000
set_option maxRecDepth 20000
def RefOk (w:World) (l:List Tri3) (e:Ending) (w':World):Prop:=∃ V out,e=.returned (.tuple #[V,.int .i64 0])∧Ins l l.length out∧Tris w' V out∧(∀ g,V.ownBlock=some g→w.heap.size≤g)∧Below w.heap.size w w'
def RefBad (w:World) (e:Ending) (w':World):Prop:=e=.returned (.tuple #[.slice none 0 0,.int .i64 20])∧Below w.heap.size w w'
def AccV (w:World) (out:List Tri3) (A:Value) (wr:World):Prop:=∃ d:List VE,d.map VE.val=flat out∧wr.ownsRow w.heap.size 41 18 A out.length (d.flatMap VE.enc)∧Below w.heap.size w wr
theorem zvp {w:World} {base n:Nat} {V:Value} {xs:List Value} (h:w.ownsRow base 41 18 V n xs):∃ pa ca,V=.slice pa n ca∧n≤ca∧(pa=none→n=0∧ca=0)∧∀ g o sp,pa=some ⟨g,o,sp⟩→o=0∧sp=none∧∀ (j:Nat) (u:Value),xs[j]?=some u→w.cell? ⟨g,j,none⟩=some u:=by
 have h1:=h.1
 rcases h.2 with ⟨rfl,rfl⟩ | ⟨g,cap,cur,rfl,hg,hh,hc,_⟩
 ·exact ⟨none,0,rfl,Nat.le_refl _,fun _=>⟨rfl,rfl⟩,fun _ _ _ e=>by cases e⟩
 ·refine ⟨_,cap,rfl,hc,fun e=>by (cases e),fun g' o sp e=>?_⟩
  cases e
  refine ⟨rfl,rfl,fun j u hu=>?_⟩
  have ht:j < n*18:=by
   have:=(List.getElem?_eq_some_iff.1 hu).1
   omega
  rw [h.cellAt j ht]
  exact hu
theorem d_len {d:List VE} {out:List Tri3} (h:d.map VE.val=flat out):d.length=3*out.length:=by
 rw [← zif,← h,List.length_map]
theorem zhv (d:List VE) (k:Nat) (h:d.length=3*k):(d.flatMap VE.enc).length=k*18:=by
 have e:(d.flatMap VE.enc).length=6*d.length:=by
  clear h
  induction d with
  | nil=>rfl
  | cons a d ih=>rw [List.flatMap_cons,List.length_append,ih,List.length_cons];show 6+_=_;omega
 omega
theorem zex (d:List VE):∀ u∈d.flatMap VE.enc,u.oneCell'=true:=fun u hu=>by
 obtain ⟨e,_,he⟩:=List.mem_flatMap.1 hu
 exact e.one u he
def SrcC (W:World) (pa:Option Addr) (xs:List Value):Prop:=∀ ad,pa=some ad→∀ (j:Nat) (u:Value),xs[j]?=some u→W.cell? (ad.add j)=some u
theorem zhi {wo wz W:World} {pa:Option Addr} {xs:List Value} (h:∀ g o sp,pa=some ⟨g,o,sp⟩→o=0∧sp=none∧∀ (j:Nat) (u:Value),xs[j]?=some u→wo.cell? ⟨g,j,none⟩=some u) (b:Below wo.heap.size wo wz) (b2:Below wz.heap.size wz W):SrcC W pa xs:=fun ⟨g,o,sp⟩ e j u hu=>by
 obtain ⟨rfl,rfl,hc⟩:=h g o sp e
 have hb:=b.trans (b2.mono b.size)
 rw [Addr.add_mid,Nat.zero_add]
 exact (hb.cell (p:=⟨g,j,none⟩) (World.block_lt_of_cell? wo _ (hc j u hu))).trans (hc j u hu)
theorem zij {pa:Option Addr} {m ca:Nat} (h:pa=none→m=0∧ca=0) (k:Nat) (hk:k≤m):pa=none→k=0∧m - k=0∧ca - k=0∧ca=0:=fun e=>by
 have:=h e
 omega
theorem zik {W:World} {pa:Option Addr} {d:List VE} {k:Nat} (h:SrcC W pa (d.flatMap VE.enc)):SrcC W pa ((d.take k).flatMap VE.enc):=fun ad e j u hu=>by
 refine h ad e j u ?_
 rw [← List.take_append_drop k d,List.flatMap_append,List.getElem?_append_left (List.getElem?_eq_some_iff.1 hu).1]
 exact hu
theorem zrv {W:World} {d:List VE} {k:Nat} {pa:Option Addr} (h:SrcC W pa (d.flatMap VE.enc)) (hl:((d.take (3*k)).flatMap VE.enc).length=k*18):SrcC W (Option.map (fun x=>x.add (k*18)) pa) ((d.drop (3*k)).flatMap VE.enc):=fun ad e j u hu=>by
 cases pa with
 | none=>cases e
 | some a=>
   cases e
   rw [Addr.add_add]
   refine h a rfl _ u ?_
   rw [← List.take_append_drop (3*k) d,List.flatMap_append,List.getElem?_append_right (by omega),hl,show k*18+j - k*18=j by omega]
   exact hu
theorem src_map (pa:Option Addr) {m ca:Nat} (k:Nat) (h:∀ k,k≤m→pa=none→k=0∧m - k=0∧ca - k=0∧ca=0) (hk:k≤m):Option.map (fun x=>x.add (k*18)) pa=none→m - k=0∧ca - k=0:=fun e=>by
 cases pa with
 | none=>exact ⟨(h k hk rfl).2.1,(h k hk rfl).2.2.1⟩
 | some a=>cases e
theorem zxh {w:World} {base base' n:Nat} {V:Value} {xs:List Value} (h:w.ownsRow base' 41 18 V n xs) (hb:base≤base'):w.ownsRow base 41 18 V n xs:=by
 refine ⟨h.1,?_⟩
 rcases h.2 with h0 | ⟨g,cap,cur,e1,h1,h2⟩
 ·exact .inl h0
 ·exact .inr ⟨g,cap,cur,e1,Nat.le_trans hb h1,h2⟩
theorem zpb:(out:List Tri3)→(k:Nat)→(flat out).take (3*k)=flat (out.take k)
 | [],_=>by simp [zie]
 | t::out,0=>by simp [zie]
 | t::out,k+1=>by
   rw [show 3*(k+1)=3*k+1+1+1 by omega,zc1,List.take_succ_cons,List.take_succ_cons,List.take_succ_cons,zpb out k,List.take_succ_cons,zc1]
theorem zpc:(out:List Tri3)→(k:Nat)→(flat out).drop (3*k)=flat (out.drop k)
 | [],_=>by simp [zie]
 | t::out,0=>by simp
 | t::out,k+1=>by
   rw [show 3*(k+1)=3*k+1+1+1 by omega,zc1,List.drop_succ_cons,List.drop_succ_cons,List.drop_succ_cons,zpc out k,List.drop_succ_cons]
theorem AccV.put {w wo w6 w3:World} {out:List Tri3} {d:List VE} {x:Tri3} {e0 e1 e2:VE} {s p o:V6} {k N:Nat} {L:List Value} {v3:Value} (hd:d.map VE.val=flat out) (hbel:Below w.heap.size w wo) (b6:Below wo.heap.size wo w6) (b3:Below w6.heap.size w6 w3) (hk:k≤out.length)
 (h0:e0.v=s∧e0.val=x.s) (h1:e1.v=p∧e1.val=x.p) (h2:e2.v=o∧e2.val=x.o) (hown:w3.ownsRow w6.heap.size 41 18 v3 N L) (hN:N=out.length+1) (hL:L=(d.take (3*k)).flatMap VE.enc++[.int .i64 s.k,.bool s.b,.int .i64 s.n,.string s.t,.string s.x,.slice s.p s.len s.cap,.int .i64 p.k,.bool p.b,.int .i64 p.n,.string p.t,.string p.x,.slice p.p p.len p.cap,.int .i64 o.k,.bool o.b,.int .i64 o.n,.string o.t,.string o.x,.slice o.p o.len o.cap]++(d.drop (3*k)).flatMap VE.enc):AccV w (putT out k x) v3 w3:=by
 subst hN hL
 have s1:=hbel.size
 have s2:=b6.size
 refine ⟨d.take (3*k)++[e0,e1,e2]++d.drop (3*k),?_,?_,hbel.trans ((b6.trans (b3.mono s2)).mono s1)⟩
 ·rw [List.map_append,List.map_append,List.map_take,List.map_drop,hd,zpb,zpc]
  unfold putT
  rw [zrr,zc1,List.append_assoc]
  simp [h0.2,h1.2,h2.2]
 ·rw [zrt _ _ _ hk,List.flatMap_append,List.flatMap_append]
  have e:[e0,e1,e2].flatMap VE.enc=[.int .i64 s.k,.bool s.b,.int .i64 s.n,.string s.t,.string s.x,.slice s.p s.len s.cap,.int .i64 p.k,.bool p.b,.int .i64 p.n,.string p.t,.string p.x,.slice p.p p.len p.cap,.int .i64 o.k,.bool o.b,.int .i64 o.n,.string o.t,.string o.x,.slice o.p o.len o.cap]:=by simp [VE.enc,h0.1,h1.1,h2.1]
  rw [e]
  exact zxh hown (by omega)
theorem zao {w:World} {ops:Array Oper} {rest:List Oper} {o:Oper} {a:Act} {Q:Exit→Act→World→Prop} (hgd:o.guard=none) (s x:Operand) (t:TypeId)
 (ho:o.op=.call { callee:=.builtin .append,args:=#[s,x],argTypes:=#[t,t] })
 (base:Nat) (e:TypeId) (i:TypeInfo) (z:Value) (size bytes:Nat) (ht:Tryz.prog.underlying t=some (.slice e)) (hi:Tryz.prog.info? e=some i) (hz:i.zero=some z)
 (hsize:i.size=size) (hby:i.bytes=bytes) (hzs:z.cells.size=size) (hsz:0 < size)
 (v:Value) (n:Nat) (xs:List Value) (hs:a.eval s=v) (hown:w.ownsRow base e size v n xs)
 (ao:Option Addr) (m c:Nat) (news:List Value) (hx:a.eval x=.slice ao m c) (hl:news.length=m*size) (hnone:ao=none→m=0∧c=0) (hnews:SrcC w ao news) (h1:∀ u∈news,u.oneCell'=true)
 (h63:n+m≤maxLen) (hbytes:(n+m)*bytes≤140737488355328) (hbase:base≤w.heap.size)
 (h:∀ v' w',w'.ownsRow base e size v' (n+m) (xs++news)→w.grownBy w' v.ownBlock→wpList Tryz.prog ops Q rest (a.put o.dst v') w'):wpList Tryz.prog ops Q (o::rest) a w:=by
 cases ao with
 | some ad=>exact wpList_append_own w hgd s x t ho base e i z size bytes ht hi hz hsize hby hzs hsz v n xs hs hown ad m c news hx hl (hnews ad rfl) h1 h63 hbytes hbase fun v' w' h2 h3 _=>h v' w' h2 h3
 | none=>
   obtain ⟨rfl,rfl⟩:=hnone rfl
   have hn:news=[]:=List.eq_nil_of_length_eq_zero (by simpa using hl)
   subst hn
   refine wpList_append_own_none hgd s x t ho base e i size ht hi v n xs hs hown hx (h v w ?_ (World.grownBy.refl _ _))
   simpa using hown
theorem zk4 (l:List Tri3) (L:Value) (w:World) (hl:Tris w L l) (hn:l.length≤65536):Calls Tryz.prog 11 #[L] w fun e w'=>((∀ t∈l,zbl t=true)→RefOk w l e w')∧(¬ (∀ t∈l,zbl t=true)→RefBad w e w'):=by
 obtain ⟨q0,cap,rfl⟩:=zhf hl
 obtain ⟨n,hln⟩:∃ n,n=l.length:=⟨_,rfl⟩
 rw [← hln] at hn ⊢
 obtain ⟨i0,hi,hz0,hz1,hz2⟩:=info_parts zvl
 have hni:¬ (65536:Int) < n:=by omega
 have HL:=Lib.hid hln
 have HH:=Lib.hid hl
 clear hl hln
 go_enter Tryz.func11,Tryz.ntmps11
 go_wp2_with fail
 go_loopg [4] n (fun gg s4 wr=>∃ j:Nat,j+gg=n∧s4=.int .i64 j∧Hid (Below w.heap.size w wr)∧Hid (∀ (i:Nat) (h:i < l.length),i < j→zbl l[i]=true))
 case atStart=>exact ⟨0,by omega,rfl,Lib.hid (Below.refl _ _),Lib.hid fun _ _ h=>absurd h (by omega)⟩
 case round=>
  obtain ⟨j,hjg,rfl,HB,HA⟩:=hrel
  by_cases hlt:(j:Int) < n
  ·have hj1:j < l.length:=by have:=HL.out;omega
   obtain ⟨g,off,rfl,hh⟩:∃ g off,q0=some ⟨g,off,none⟩∧zar w g off (flat l):=by
    obtain ⟨p1,cap1,e,h1⟩:=HH.out
    obtain ⟨g,off,e2,h2⟩:=h1 (by intro e;rw [e] at hj1;exact absurd hj1 (by simp))
    injection e with e3 _ _
    exact ⟨g,off,by rw [e3];exact e2,h2⟩
   obtain ⟨s,p,o,ls,lp,lo,is,ip,io,ra⟩:=zhb (zar.below _ hh HB.out) j hj1
   obtain ⟨r,hr⟩:∃ r,r=zbl l[j]:=⟨_,rfl⟩
   have hc:Calls Tryz.prog 14 #[.agg #[.int .i64 s.k,.bool s.b,.int .i64 s.n,.string s.t,.string s.x,.slice s.p s.len s.cap,.int .i64 p.k,.bool p.b,.int .i64 p.n,.string p.t,.string p.x,.slice p.p p.len p.cap,.int .i64 o.k,.bool o.b,.int .i64 o.n,.string o.t,.string o.x,.slice o.p o.len o.cap]] wr fun e w'=>e=.returned (.bool r)∧Below wr.heap.size wr w':=by
    have:=zuz s p o _ _ _ ls lp lo wr is ip io
    rw [zyk is ip io] at this
    rw [hr]
    exact this
   have HC:=Lib.hid hc
   have HR:=Lib.hid hr
   have hbs:=HB.out.size
   clear hc hr is ip io hh
   cases r with
   | true=>
     go_wp2_with (first
      |((with_reducible refine zbk (.tmp 20) g (off+j*18) s p o ra ?_ ?_ ?_ ?_);rfl;rfl;rfl)
      |(go_at_call 14;(with_reducible refine HC.out.mono ?_);rintro e w3 ⟨rfl,hb3⟩))
     have HB2:Hid (Below w.heap.size w w3):=Lib.hid (HB.out.trans (hb3.mono hbs))
     clear hb3
     go_wp2_with fail
     go_roundg (gk - 1)
     case measure=>omega
     case rel=>
      refine ⟨j+1,by omega,by go_num,HB2,Lib.hid fun i h hi=>?_⟩
      by_cases e:i=j
      ·subst e;exact HR.out.symm
      ·exact HA.out i h (by omega)
   | false=>
     go_wp2_with (first
      |((with_reducible refine zbk (.tmp 20) g (off+j*18) s p o ra ?_ ?_ ?_ ?_);rfl;rfl;rfl)
      |(go_at_call 14;(with_reducible refine HC.out.mono ?_);rintro e w3 ⟨rfl,hb3⟩))
     have HB2:Hid (Below w.heap.size w w3):=Lib.hid (HB.out.trans (hb3.mono hbs))
     have hbad:¬ (∀ t∈l,zbl t=true):=fun h=>by
      have:=h _ (List.getElem_mem hj1)
      rw [← HR.out] at this
      cases this
     clear hb3
     go_wp2_with fail
     go_ret2
     exact ⟨fun h=>absurd h hbad,fun _=>⟨rfl,HB2.out⟩⟩
  ·have hgood:∀ t∈l,zbl t=true:=fun t ht=>by
    obtain ⟨i,hi,rfl⟩:=List.getElem_of_mem ht
    exact HA.out i hi (by have:=HL.out;omega)
   have HGOOD:=Lib.hid hgood
   clear hgood HA
   go_wp2_with fail
   generalize wr=wa at*
   go_loopg [5,6] n (fun gg s5 s6 wr=>∃ (i:Nat) (A:Value),A=s5∧i+gg=n∧s6=.int .i64 i∧Hid (∃ out,Ins l i out∧AccV w out A wr))
   case atStart=>exact ⟨0,_,rfl,by omega,rfl,Lib.hid ⟨[],Ins.zero l,[],rfl,World.ownsRow_nil _ _ _ _,HB.out⟩⟩
   case round=>
    obtain ⟨i,A,rfl,hig,rfl,HA⟩:=hrel
    by_cases hlt2:(i:Int) < n
    ·have hi1:i < l.length:=by have:=HL.out;omega
     obtain ⟨out,hins,d,hd,hown,hbel⟩:=HA.out
     obtain ⟨g,off,rfl,hh⟩:∃ g off,q0=some ⟨g,off,none⟩∧zar w g off (flat l):=by
      obtain ⟨p1,cap1,e,h1⟩:=HH.out
      obtain ⟨g,off,e2,h2⟩:=h1 (by intro e;rw [e] at hi1;exact absurd hi1 (by simp))
      injection e with e3 _ _
      exact ⟨g,off,by rw [e3];exact e2,h2⟩
     obtain ⟨s,p,o,ls,lp,lo,is,ip,io,ra⟩:=zhb (zar.below _ hh hbel) i hi1
     have hpl:=zcx (HGOOD.out _ (List.getElem_mem hi1))
     obtain ⟨e0,he0,hv0⟩:=is.plain hpl.1.1
     obtain ⟨e1,he1,hv1⟩:=ip.plain hpl.2.1.1
     obtain ⟨e2,he2,hv2⟩:=io.plain hpl.2.2.1
     have HE:=Lib.hid (And.intro (And.intro he0 hv0) (And.intro (And.intro he1 hv1) (And.intro he2 hv2)))
     obtain ⟨pa,ca,rfl,hmc,hpn,hcl⟩:=zvp hown
     have hml:=hins.len
     obtain ⟨m,hm⟩:∃ m,m=out.length:=⟨_,rfl⟩
     rw [← hm] at hmc hpn hml hown ⊢
     have HM:=Lib.hid hm
     have HINS:=Lib.hid hins
     have HX:=Lib.hid (And.intro hd (And.intro hown hbel))
     have HIS:=Lib.hid (And.intro is (And.intro ip io))
     have HCL:=Lib.hid hcl
     have HPN:=Lib.hid hpn
     have HRA:=Lib.hid ra
     clear hm hins hd hown hbel is ip io hcl hpn ra hpl he0 he1 he2 hv0 hv1 hv2 hh HA
     go_wp2_with fail
     generalize wr=wo at*
     go_loopg [7] m (fun gg s7 wr=>∃ k:Nat,k=gg∧k≤m∧s7=.int .i64 k∧Hid (Below wo.heap.size wo wr)∧Hid (∀ (j:Nat) (h:j < out.length),k≤j→0 < ordT out[j] l[i]))
     case atStart=>exact ⟨m,rfl,Nat.le_refl _,rfl,Lib.hid (Below.refl _ _),Lib.hid fun j h hk=>absurd h (by have:=HM.out;omega)⟩
     case round=>
      obtain ⟨k,rfl,hkm,rfl,HB,HU⟩:=hrel
      by_cases hk:(0:Int) < k
      ·obtain ⟨k1,hk1⟩:∃ k1,k=k1+1:=⟨k - 1,by omega⟩
       have hk1o:k1 < out.length:=by have:=HM.out;omega
       obtain ⟨⟨ga,oa,sa⟩,rfl⟩:∃ ad,pa=some ad:=by
        cases pa with
        | some ad=>exact ⟨ad,rfl⟩
        | none=>exact absurd (HPN.out rfl).1 (by omega)
       obtain ⟨rfl,rfl,hcells⟩:=HCL.out ga oa sa rfl
       have hrise:zar wr ga 0 (flat out):=by
        rw [← HX.out.1]
        refine zby wr ga d 0 fun t u hu=>?_
        rw [Nat.zero_add]
        exact (HB.out.cell (p:=⟨ga,t,none⟩) (World.block_lt_of_cell? wo _ (hcells t u hu))).trans (hcells t u hu)
       obtain ⟨a0,a1,a2,l0,l1,l2,i0',i1',i2',rb⟩:=zhb hrise k1 hk1o
       rw [Nat.zero_add] at rb
       have ra2:=zae HRA.out HB.out
       obtain ⟨c,hc⟩:∃ c,c=ordT out[k1] l[i]:=⟨_,rfl⟩
       have HC:Hid (∀ W,Below wr.heap.size wr W→Calls Tryz.prog 44 #[.agg #[.int .i64 a0.k,.bool a0.b,.int .i64 a0.n,.string a0.t,.string a0.x,.slice a0.p a0.len a0.cap,.int .i64 a1.k,.bool a1.b,.int .i64 a1.n,.string a1.t,.string a1.x,.slice a1.p a1.len a1.cap,.int .i64 a2.k,.bool a2.b,.int .i64 a2.n,.string a2.t,.string a2.x,.slice a2.p a2.len a2.cap],.agg #[.int .i64 s.k,.bool s.b,.int .i64 s.n,.string s.t,.string s.x,.slice s.p s.len s.cap,.int .i64 p.k,.bool p.b,.int .i64 p.n,.string p.t,.string p.x,.slice p.p p.len p.cap,.int .i64 o.k,.bool o.b,.int .i64 o.n,.string o.t,.string o.x,.slice o.p o.len o.cap]] W fun e w'=>e=.returned (.int .i64 c)∧Below W.heap.size W w'):=Lib.hid fun W hb=>by
        rw [hc]
        exact zuy a0 a1 a2 s p o _ _ _ _ _ _ l0 l1 l2 ls lp lo W (i0'.below hb) (i1'.below hb) (i2'.below hb) (HIS.out.1.below (HB.out.trans (hb.mono HB.out.size))) (HIS.out.2.1.below (HB.out.trans (hb.mono HB.out.size))) (HIS.out.2.2.below (HB.out.trans (hb.mono HB.out.size)))
       have HCC:=Lib.hid hc
       have hks:(k1:Int) < m:=by omega
       have hkk:(k:Int) - 1=(k1:Int):=by omega
       have HK1:=Lib.hid hk1
       have hkn:0 < k:=by omega
       clear hk1
       have hkw:IntKind.i64.wrap (k1:Int)=k1:=IntWalk.i64_in _ (by omega)
       clear hc hrise i0' i1' i2' hcells
       by_cases hpos:(0:Int) < c
       ·go_upto_region 13 with fail
        have L0:Below wr.heap.size wr wr.drew:=(Below.refl _ _).drew
        refine wp_region_held_drew (S:=fun W=>W.rangeAt ga (k1*18) [.int .i64 a0.k,.bool a0.b,.int .i64 a0.n,.string a0.t,.string a0.x,.slice a0.p a0.len a0.cap,.int .i64 a1.k,.bool a1.b,.int .i64 a1.n,.string a1.t,.string a1.x,.slice a1.p a1.len a1.cap,.int .i64 a2.k,.bool a2.b,.int .i64 a2.n,.string a2.t,.string a2.x,.slice a2.p a2.len a2.cap]∧W.rangeAt g (off+i*18) [.int .i64 s.k,.bool s.b,.int .i64 s.n,.string s.t,.string s.x,.slice s.p s.len s.cap,.int .i64 p.k,.bool p.b,.int .i64 p.n,.string p.t,.string p.x,.slice p.p p.len p.cap,.int .i64 o.k,.bool o.b,.int .i64 o.n,.string o.t,.string o.x,.slice o.p o.len o.cap]) (by kernel_rfl) ⟨rb,ra2⟩ (fun hHeld=>?_)
        refine tg (i:=0) (.int .i64 (k:Int)) rfl hHeld ?_
        refine tg (i:=1) (.bool true) rfl hHeld ?_
        refine tg (i:=2) (.bool true) rfl hHeld ?_
        refine tg (i:=3) (.slice (some ⟨ga,0,none⟩) m ca) rfl hHeld ?_
        refine tg (i:=4) (.int .i64 (k:Int)) rfl hHeld ?_
        refine tg (i:=5) (.int .i64 (k1:Int)) rfl hHeld ?_
        refine tg (i:=6) (.pointer (some ⟨ga,k1*18,none⟩)) rfl hHeld ?_
        refine tk (i:=7) rfl (yieldsIf_load_mid (by rfl) 41 (.tmp 38) rfl (ga) (k1*18) rfl [.int .i64 a0.k,.bool a0.b,.int .i64 a0.n,.string a0.t,.string a0.x,.slice a0.p a0.len a0.cap,.int .i64 a1.k,.bool a1.b,.int .i64 a1.n,.string a1.t,.string a1.x,.slice a1.p a1.len a1.cap,.int .i64 a2.k,.bool a2.b,.int .i64 a2.n,.string a2.t,.string a2.x,.slice a2.p a2.len a2.cap] _ (fun W h=>h.1) Tryz.underlying41 rfl zd6) hHeld ?_
        refine tg (i:=8) (.slice (some ⟨g,off,none⟩) n cap) rfl hHeld ?_
        refine tg (i:=9) (.int .i64 (i:Int)) rfl hHeld ?_
        refine tg (i:=10) (.pointer (some ⟨g,off+i*18,none⟩)) rfl hHeld ?_
        refine tk (i:=11) rfl (yieldsIf_load_mid (by rfl) 41 (.tmp 42) rfl (g) (off+i*18) rfl [.int .i64 s.k,.bool s.b,.int .i64 s.n,.string s.t,.string s.x,.slice s.p s.len s.cap,.int .i64 p.k,.bool p.b,.int .i64 p.n,.string p.t,.string p.x,.slice p.p p.len p.cap,.int .i64 o.k,.bool o.b,.int .i64 o.n,.string o.t,.string o.x,.slice o.p o.len o.cap] _ (fun W h=>h.2) Tryz.underlying41 rfl zd6) hHeld ?_
        refine tr 12 rfl (fun K hK=>?_)
        rw [if_pos (by rfl)]
        go_simp
        refine (HC.out _ (L0)).mono ?_
        rintro e9 w5 ⟨rfl,hb9⟩
        have hHeld9:_∧_:=⟨zae hHeld.1 hb9,zae hHeld.2 hb9⟩
        have L9:=L0.trans (hb9.mono L0.size)
        clear hb9
        refine hK.out _ _ hHeld9 (fun _=>?_)
        clear hK K
        try simp only [putS]
        refine tg (i:=13) (.bool true) rfl hHeld9 ?_
        refine tg (i:=14) (.bool true) rfl hHeld9 ?_
        refine wpAnyH_done (by kernel_rfl) ?_ _
        have HU2:Hid (∀ (j:Nat) (h:j < out.length),k1≤j→0 < ordT out[j] l[i]):=Lib.hid fun j h hj=>by
         by_cases e:j=k1
         ·subst e
          rw [← HCC.out]
          exact hpos
         ·exact HU.out j h (by have:=HK1.out;omega)
        have HB2:Hid (Below wo.heap.size wo w5):=Lib.hid (HB.out.trans (L9.mono HB.out.size))
        clear hHeld hHeld9 L9 L0 rb ra2
        go_wp2_with fail
        go_roundg k1
        case measure=>have:=HK1.out;omega
        case rel=>exact ⟨k1,rfl,by have:=HK1.out;omega,by first | rfl | go_num,HB2,HU2⟩
       ·go_upto_region 13 with fail
        have L0:Below wr.heap.size wr wr.drew:=(Below.refl _ _).drew
        refine wp_region_held_drew (S:=fun W=>W.rangeAt ga (k1*18) [.int .i64 a0.k,.bool a0.b,.int .i64 a0.n,.string a0.t,.string a0.x,.slice a0.p a0.len a0.cap,.int .i64 a1.k,.bool a1.b,.int .i64 a1.n,.string a1.t,.string a1.x,.slice a1.p a1.len a1.cap,.int .i64 a2.k,.bool a2.b,.int .i64 a2.n,.string a2.t,.string a2.x,.slice a2.p a2.len a2.cap]∧W.rangeAt g (off+i*18) [.int .i64 s.k,.bool s.b,.int .i64 s.n,.string s.t,.string s.x,.slice s.p s.len s.cap,.int .i64 p.k,.bool p.b,.int .i64 p.n,.string p.t,.string p.x,.slice p.p p.len p.cap,.int .i64 o.k,.bool o.b,.int .i64 o.n,.string o.t,.string o.x,.slice o.p o.len o.cap]) (by kernel_rfl) ⟨rb,ra2⟩ (fun hHeld=>?_)
        refine tg (i:=0) (.int .i64 (k:Int)) rfl hHeld ?_
        refine tg (i:=1) (.bool true) rfl hHeld ?_
        refine tg (i:=2) (.bool true) rfl hHeld ?_
        refine tg (i:=3) (.slice (some ⟨ga,0,none⟩) m ca) rfl hHeld ?_
        refine tg (i:=4) (.int .i64 (k:Int)) rfl hHeld ?_
        refine tg (i:=5) (.int .i64 (k1:Int)) rfl hHeld ?_
        refine tg (i:=6) (.pointer (some ⟨ga,k1*18,none⟩)) rfl hHeld ?_
        refine tk (i:=7) rfl (yieldsIf_load_mid (by rfl) 41 (.tmp 38) rfl (ga) (k1*18) rfl [.int .i64 a0.k,.bool a0.b,.int .i64 a0.n,.string a0.t,.string a0.x,.slice a0.p a0.len a0.cap,.int .i64 a1.k,.bool a1.b,.int .i64 a1.n,.string a1.t,.string a1.x,.slice a1.p a1.len a1.cap,.int .i64 a2.k,.bool a2.b,.int .i64 a2.n,.string a2.t,.string a2.x,.slice a2.p a2.len a2.cap] _ (fun W h=>h.1) Tryz.underlying41 rfl zd6) hHeld ?_
        refine tg (i:=8) (.slice (some ⟨g,off,none⟩) n cap) rfl hHeld ?_
        refine tg (i:=9) (.int .i64 (i:Int)) rfl hHeld ?_
        refine tg (i:=10) (.pointer (some ⟨g,off+i*18,none⟩)) rfl hHeld ?_
        refine tk (i:=11) rfl (yieldsIf_load_mid (by rfl) 41 (.tmp 42) rfl (g) (off+i*18) rfl [.int .i64 s.k,.bool s.b,.int .i64 s.n,.string s.t,.string s.x,.slice s.p s.len s.cap,.int .i64 p.k,.bool p.b,.int .i64 p.n,.string p.t,.string p.x,.slice p.p p.len p.cap,.int .i64 o.k,.bool o.b,.int .i64 o.n,.string o.t,.string o.x,.slice o.p o.len o.cap] _ (fun W h=>h.2) Tryz.underlying41 rfl zd6) hHeld ?_
        refine tr 12 rfl (fun K hK=>?_)
        rw [if_pos (by rfl)]
        go_simp
        refine (HC.out _ (L0)).mono ?_
        rintro e9 w5 ⟨rfl,hb9⟩
        have hHeld9:_∧_:=⟨zae hHeld.1 hb9,zae hHeld.2 hb9⟩
        have L9:=L0.trans (hb9.mono L0.size)
        clear hb9
        refine hK.out _ _ hHeld9 (fun _=>?_)
        clear hK K
        try simp only [putS]
        refine tg (i:=13) (.bool false) rfl hHeld9 ?_
        refine tg (i:=14) (.bool false) rfl hHeld9 ?_
        refine wpAnyH_done (by kernel_rfl) ?_ _
        have HB5:Hid (Below wr.heap.size wr w5):=Lib.hid L9
        have HBZ5:Hid (Below wo.heap.size wo w5):=Lib.hid (HB.out.trans (L9.mono HB.out.size))
        replace rb:=zae rb L9
        replace ra2:=zae ra2 L9
        clear hHeld hHeld9 L9 L0
        by_cases hc0:c=0
        ·subst hc0
         go_upto_region 15 with fail
         have L0:Below w5.heap.size w5 w5.drew:=(Below.refl _ _).drew
         refine wp_region_held_drew (S:=fun W=>W.rangeAt ga (k1*18) [.int .i64 a0.k,.bool a0.b,.int .i64 a0.n,.string a0.t,.string a0.x,.slice a0.p a0.len a0.cap,.int .i64 a1.k,.bool a1.b,.int .i64 a1.n,.string a1.t,.string a1.x,.slice a1.p a1.len a1.cap,.int .i64 a2.k,.bool a2.b,.int .i64 a2.n,.string a2.t,.string a2.x,.slice a2.p a2.len a2.cap]∧W.rangeAt g (off+i*18) [.int .i64 s.k,.bool s.b,.int .i64 s.n,.string s.t,.string s.x,.slice s.p s.len s.cap,.int .i64 p.k,.bool p.b,.int .i64 p.n,.string p.t,.string p.x,.slice p.p p.len p.cap,.int .i64 o.k,.bool o.b,.int .i64 o.n,.string o.t,.string o.x,.slice o.p o.len o.cap]) (by kernel_rfl) ⟨rb,ra2⟩ (fun hHeld=>?_)
         refine tg (i:=0) (.int .i64 (k:Int)) rfl hHeld ?_
         refine tg (i:=1) (.bool true) rfl hHeld ?_
         refine tg (i:=2) (.bool true) rfl hHeld ?_
         refine tg (i:=3) (.slice (some ⟨ga,0,none⟩) m ca) rfl hHeld ?_
         refine tg (i:=4) (.int .i64 (k:Int)) rfl hHeld ?_
         refine tg (i:=5) (.int .i64 (k1:Int)) rfl hHeld ?_
         refine tg (i:=6) (.pointer (some ⟨ga,k1*18,none⟩)) rfl hHeld ?_
         refine tk (i:=7) rfl (yieldsIf_load_mid (by rfl) 41 (.tmp 55) rfl (ga) (k1*18) rfl [.int .i64 a0.k,.bool a0.b,.int .i64 a0.n,.string a0.t,.string a0.x,.slice a0.p a0.len a0.cap,.int .i64 a1.k,.bool a1.b,.int .i64 a1.n,.string a1.t,.string a1.x,.slice a1.p a1.len a1.cap,.int .i64 a2.k,.bool a2.b,.int .i64 a2.n,.string a2.t,.string a2.x,.slice a2.p a2.len a2.cap] _ (fun W h=>h.1) Tryz.underlying41 rfl zd6) hHeld ?_
         refine tg (i:=8) (.slice (some ⟨g,off,none⟩) n cap) rfl hHeld ?_
         refine tg (i:=9) (.int .i64 (i:Int)) rfl hHeld ?_
         refine tg (i:=10) (.pointer (some ⟨g,off+i*18,none⟩)) rfl hHeld ?_
         refine tk (i:=11) rfl (yieldsIf_load_mid (by rfl) 41 (.tmp 59) rfl (g) (off+i*18) rfl [.int .i64 s.k,.bool s.b,.int .i64 s.n,.string s.t,.string s.x,.slice s.p s.len s.cap,.int .i64 p.k,.bool p.b,.int .i64 p.n,.string p.t,.string p.x,.slice p.p p.len p.cap,.int .i64 o.k,.bool o.b,.int .i64 o.n,.string o.t,.string o.x,.slice o.p o.len o.cap] _ (fun W h=>h.2) Tryz.underlying41 rfl zd6) hHeld ?_
         refine tr 12 rfl (fun K hK=>?_)
         rw [if_pos (by rfl)]
         go_simp
         refine (HC.out _ (HB5.out.trans (L0.mono HB5.out.size))).mono ?_
         rintro e9 w6 ⟨rfl,hb9⟩
         have hHeld9:_∧_:=⟨zae hHeld.1 hb9,zae hHeld.2 hb9⟩
         have L9:=L0.trans (hb9.mono L0.size)
         clear hb9
         refine hK.out _ _ hHeld9 (fun _=>?_)
         clear hK K
         try simp only [putS]
         refine tg (i:=13) (.bool true) rfl hHeld9 ?_
         refine tg (i:=14) (.bool true) rfl hHeld9 ?_
         refine wpAnyH_done (by kernel_rfl) ?_ _
         have HB6:Hid (Below wo.heap.size wo w6):=Lib.hid (HBZ5.out.trans (L9.mono HBZ5.out.size))
         have acc:∃ out,Ins l (i+1) out∧AccV w out (.slice (some ⟨ga,0,none⟩) m ca) w6:=by
          obtain ⟨hd,hown,hbel⟩:=HX.out
          refine ⟨out,HINS.out.skip hi1 ?_,d,hd,?_,hbel.trans (HB6.out.mono hbel.size)⟩
          ·have e:=ordT_eq (HGOOD.out _ (List.mem_of_mem_take ((HINS.out.mem _).1 (List.getElem_mem hk1o)))) (HGOOD.out _ (List.getElem_mem hi1)) HCC.out.symm
           rw [← e]
           exact List.getElem_mem hk1o
          ·rw [← HM.out]
           exact zbf hown HB6.out
         have ACC:=Lib.hid acc
         clear hHeld hHeld9 L9 L0 acc rb ra2
         go_wp2_with fail
         go_roundg (n - (i+1))
         case measure=>omega
         case rel=>exact ⟨i+1,_,rfl,by omega,by go_num,ACC⟩
        ·have hce:(c == (0:Int))=false:=by simpa using hc0
         go_upto_region 15 with fail
         have L0:Below w5.heap.size w5 w5.drew:=(Below.refl _ _).drew
         refine wp_region_held_drew (S:=fun W=>W.rangeAt ga (k1*18) [.int .i64 a0.k,.bool a0.b,.int .i64 a0.n,.string a0.t,.string a0.x,.slice a0.p a0.len a0.cap,.int .i64 a1.k,.bool a1.b,.int .i64 a1.n,.string a1.t,.string a1.x,.slice a1.p a1.len a1.cap,.int .i64 a2.k,.bool a2.b,.int .i64 a2.n,.string a2.t,.string a2.x,.slice a2.p a2.len a2.cap]∧W.rangeAt g (off+i*18) [.int .i64 s.k,.bool s.b,.int .i64 s.n,.string s.t,.string s.x,.slice s.p s.len s.cap,.int .i64 p.k,.bool p.b,.int .i64 p.n,.string p.t,.string p.x,.slice p.p p.len p.cap,.int .i64 o.k,.bool o.b,.int .i64 o.n,.string o.t,.string o.x,.slice o.p o.len o.cap]) (by kernel_rfl) ⟨rb,ra2⟩ (fun hHeld=>?_)
         refine tg (i:=0) (.int .i64 (k:Int)) rfl hHeld ?_
         refine tg (i:=1) (.bool true) rfl hHeld ?_
         refine tg (i:=2) (.bool true) rfl hHeld ?_
         refine tg (i:=3) (.slice (some ⟨ga,0,none⟩) m ca) rfl hHeld ?_
         refine tg (i:=4) (.int .i64 (k:Int)) rfl hHeld ?_
         refine tg (i:=5) (.int .i64 (k1:Int)) rfl hHeld ?_
         refine tg (i:=6) (.pointer (some ⟨ga,k1*18,none⟩)) rfl hHeld ?_
         refine tk (i:=7) rfl (yieldsIf_load_mid (by rfl) 41 (.tmp 55) rfl (ga) (k1*18) rfl [.int .i64 a0.k,.bool a0.b,.int .i64 a0.n,.string a0.t,.string a0.x,.slice a0.p a0.len a0.cap,.int .i64 a1.k,.bool a1.b,.int .i64 a1.n,.string a1.t,.string a1.x,.slice a1.p a1.len a1.cap,.int .i64 a2.k,.bool a2.b,.int .i64 a2.n,.string a2.t,.string a2.x,.slice a2.p a2.len a2.cap] _ (fun W h=>h.1) Tryz.underlying41 rfl zd6) hHeld ?_
         refine tg (i:=8) (.slice (some ⟨g,off,none⟩) n cap) rfl hHeld ?_
         refine tg (i:=9) (.int .i64 (i:Int)) rfl hHeld ?_
         refine tg (i:=10) (.pointer (some ⟨g,off+i*18,none⟩)) rfl hHeld ?_
         refine tk (i:=11) rfl (yieldsIf_load_mid (by rfl) 41 (.tmp 59) rfl (g) (off+i*18) rfl [.int .i64 s.k,.bool s.b,.int .i64 s.n,.string s.t,.string s.x,.slice s.p s.len s.cap,.int .i64 p.k,.bool p.b,.int .i64 p.n,.string p.t,.string p.x,.slice p.p p.len p.cap,.int .i64 o.k,.bool o.b,.int .i64 o.n,.string o.t,.string o.x,.slice o.p o.len o.cap] _ (fun W h=>h.2) Tryz.underlying41 rfl zd6) hHeld ?_
         refine tr 12 rfl (fun K hK=>?_)
         rw [if_pos (by rfl)]
         go_simp
         refine (HC.out _ (HB5.out.trans (L0.mono HB5.out.size))).mono ?_
         rintro e9 w6 ⟨rfl,hb9⟩
         have hHeld9:_∧_:=⟨zae hHeld.1 hb9,zae hHeld.2 hb9⟩
         have L9:=L0.trans (hb9.mono L0.size)
         clear hb9
         refine hK.out _ _ hHeld9 (fun _=>?_)
         clear hK K
         try simp only [putS]
         refine tg (i:=13) (.bool false) rfl hHeld9 ?_
         refine tg (i:=14) (.bool false) rfl hHeld9 ?_
         refine wpAnyH_done (by kernel_rfl) ?_ _
         have HBZ:Hid (Below wo.heap.size wo w6):=Lib.hid (HBZ5.out.trans (L9.mono HBZ5.out.size))
         have LO:Hid (∀ (h0:0 < k),ordT (out[k - 1]'(by have:=HM.out;omega)) l[i] < 0):=Lib.hid fun _=>by
          have e:k - 1=k1:=by have:=HK1.out;omega
          simp only [e]
          rw [← HCC.out]
          omega
         clear hHeld hHeld9 L9 L0 rb ra2 hce
         have hkc:(k:Int)≤ca:=by omega
         have hkm2:(k:Int)≤m:=by omega
         have hd3:=d_len HX.out.1
         have hkd:3*k≤d.length:=by have:=HM.out;omega
         have HSRC:=Lib.hid (fun W (hb:Below w6.heap.size w6 W)=>zhi HCL.out (HBZ.out) hb)
         have HPQ:=Lib.hid (zij HPN.out)
         have HRZ:=Lib.hid (zae HRA.out HBZ.out)
         have HLA:((d.take (3*k)).flatMap VE.enc).length=k*18:=zhv _ _ (by rw [List.length_take];omega)
         have HLB:((d.drop (3*k)).flatMap VE.enc).length=(m - k)*18:=zhv _ _ (by rw [List.length_drop];have:=HM.out;omega)
         have HM1:0+k≤maxLen:=by unfold maxLen;omega
         have HM2:k+1≤maxLen:=by unfold maxLen;omega
         have HM3:k+1+(m - k)≤maxLen:=by unfold maxLen;omega
         have HB1:(0+k)*240≤140737488355328:=by omega
         have HB2:(k+1)*240≤140737488355328:=by omega
         have HB3:(k+1+(m - k))*240≤140737488355328:=by omega
         have HLA:=Lib.hid HLA;have HLB:=Lib.hid HLB
         have HM1:=Lib.hid HM1;have HM2:=Lib.hid HM2;have HM3:=Lib.hid HM3
         have HB1:=Lib.hid HB1;have HB2:=Lib.hid HB2;have HB3:=Lib.hid HB3
         go_wp2_with (first
          |(at_builtin;go_loud (refine zao rfl _ _ 22 rfl w6.heap.size 41 i0 (.agg #[.int .i64 0,.bool false,.int .i64 0,.string ⟨#[]⟩,.string ⟨#[]⟩,.slice none 0 0,.int .i64 0,.bool false,.int .i64 0,.string ⟨#[]⟩,.string ⟨#[]⟩,.slice none 0 0,.int .i64 0,.bool false,.int .i64 0,.string ⟨#[]⟩,.string ⟨#[]⟩,.slice none 0 0]) 18 240 Tryz.underlying22 hi hz0 hz1 hz2 rfl (by decide) (.slice none 0 0) 0 [] (by rfl) (World.ownsRow_nil _ _ _ _) (some ⟨ga,0,none⟩) k ca ((d.take (3*k)).flatMap VE.enc) (by rfl) HLA.out (fun e=>⟨(HPQ.out k hkm e).1,(HPQ.out k hkm e).2.2.2⟩) (zik (HSRC.out _ (Below.refl _ _))) (zex _) HM1.out HB1.out (Nat.le_refl _) ?_)))
         intro v1 w1 hown1 hg1
         have BI1:Hid (Below w6.heap.size w6 w1):=Lib.hid ((Below.refl _ _).grown hg1 (Nat.le_refl _) (fun g hg=>by simp [Value.ownBlock] at hg))
         have HO1:=Lib.hid hown1
         have rz1:=zae HRZ.out BI1.out
         have hz1s:=Lib.hid BI1.out.size
         clear hown1 hg1
         go_wp2_with (first
          |((with_reducible refine zbk (.tmp 72) g (off+i*18) s p o rz1 ?_ ?_ ?_ ?_);rfl;rfl;rfl)
          |(at_builtin;go_loud (refine zao rfl _ _ 22 rfl w6.heap.size 41 i0 (.agg #[.int .i64 0,.bool false,.int .i64 0,.string ⟨#[]⟩,.string ⟨#[]⟩,.slice none 0 0,.int .i64 0,.bool false,.int .i64 0,.string ⟨#[]⟩,.string ⟨#[]⟩,.slice none 0 0,.int .i64 0,.bool false,.int .i64 0,.string ⟨#[]⟩,.string ⟨#[]⟩,.slice none 0 0]) 18 240 Tryz.underlying22 hi hz0 hz1 hz2 rfl (by decide) v1 k ((d.take (3*k)).flatMap VE.enc) (by rfl) (HO1.out.alloc _) (some ⟨w1.heap.size,0,none⟩) 1 1 [.int .i64 s.k,.bool s.b,.int .i64 s.n,.string s.t,.string s.x,.slice s.p s.len s.cap,.int .i64 p.k,.bool p.b,.int .i64 p.n,.string p.t,.string p.x,.slice p.p p.len p.cap,.int .i64 o.k,.bool o.b,.int .i64 o.n,.string o.t,.string o.x,.slice o.p o.len o.cap] (by rfl) rfl (fun e=>by cases e) (fun ad e j u hu=>by cases e;exact zfk _ s p o _ j u hu) (by simp [Value.oneCell']) HM2.out HB2.out (by simp;have:=hz1s.out;omega) ?_)))
         intro v2 w2 hown2 hg2
         have BI2:Hid (Below w6.heap.size w6 w2):=Lib.hid ((BI1.out.alloc hz1s.out _).grown hg2 (by simp;have:=hz1s.out;omega) (fun g hg=>(HO1.out.lt g hg).1))
         have HO2:=Lib.hid hown2
         have hz2s:=Lib.hid BI2.out.size
         clear hown2 hg2 rz1
         rcases Nat.lt_or_ge k ca with hck | hck
         ·have hck2:¬ ca=k:=by omega
          have HNN:Hid ((some (⟨ga,k*18,none⟩:Addr))=none→m - k=0∧ca - k=0):=Lib.hid (fun e=>by cases e)
          have HSS:Hid (SrcC w2 (some (⟨ga,k*18,none⟩:Addr)) ((d.drop (3*k)).flatMap VE.enc)):=Lib.hid (by have h:=zrv (k:=k) (HSRC.out _ BI2.out) (zhv (d.take (3*k)) k (by rw [List.length_take];omega));rw [show Option.map (fun x:Addr=>x.add (k*18)) (some ⟨ga,0,none⟩)=some ⟨ga,k*18,none⟩ by rw [Option.map_some,Addr.add_mid,Nat.zero_add]] at h;exact h)
          go_wp2_with (first
           |(at_builtin;go_loud (refine zao rfl _ _ 22 rfl w6.heap.size 41 i0 (.agg #[.int .i64 0,.bool false,.int .i64 0,.string ⟨#[]⟩,.string ⟨#[]⟩,.slice none 0 0,.int .i64 0,.bool false,.int .i64 0,.string ⟨#[]⟩,.string ⟨#[]⟩,.slice none 0 0,.int .i64 0,.bool false,.int .i64 0,.string ⟨#[]⟩,.string ⟨#[]⟩,.slice none 0 0]) 18 240 Tryz.underlying22 hi hz0 hz1 hz2 rfl (by decide) v2 (k+1) ((d.take (3*k)).flatMap VE.enc++[.int .i64 s.k,.bool s.b,.int .i64 s.n,.string s.t,.string s.x,.slice s.p s.len s.cap,.int .i64 p.k,.bool p.b,.int .i64 p.n,.string p.t,.string p.x,.slice p.p p.len p.cap,.int .i64 o.k,.bool o.b,.int .i64 o.n,.string o.t,.string o.x,.slice o.p o.len o.cap]) (by rfl) HO2.out (some (⟨ga,k*18,none⟩:Addr)) (m - k) (ca - k) ((d.drop (3*k)).flatMap VE.enc) (by rfl) HLB.out HNN.out HSS.out (zex _) HM3.out HB3.out hz2s.out ?_)))
          intro v3 w3 hown3 hg3
          have BI3:Below w6.heap.size w6 w3:=BI2.out.grown hg3 hz2s.out (fun g hg=>(HO2.out.lt g hg).1)
          have acc:∃ out,Ins l (i+1) out∧AccV w out v3 w3:=⟨putT out k l[i],HINS.out.put hi1 k (by have:=HM.out;omega) LO.out HU.out,AccV.put HX.out.1 HX.out.2.2 HBZ.out BI3 (by have:=HM.out;omega) HE.out.1 HE.out.2.1 HE.out.2.2 hown3 (by have:=HM.out;omega) (by first | rfl | simp)⟩
          have ACC:=Lib.hid acc
          clear acc hown3 hg3 BI3
          go_wp2_with fail
          go_roundg (n - (i+1))
          case measure=>omega
          case rel=>exact ⟨i+1,_,rfl,by omega,by go_num,ACC⟩
         ·have e1:k=ca:=by omega
          have e2:k=m:=by omega
          subst e1
          subst e2
          go_wp2_with (first
           |(at_builtin;go_loud (refine zao rfl _ _ 22 rfl w6.heap.size 41 i0 (.agg #[.int .i64 0,.bool false,.int .i64 0,.string ⟨#[]⟩,.string ⟨#[]⟩,.slice none 0 0,.int .i64 0,.bool false,.int .i64 0,.string ⟨#[]⟩,.string ⟨#[]⟩,.slice none 0 0,.int .i64 0,.bool false,.int .i64 0,.string ⟨#[]⟩,.string ⟨#[]⟩,.slice none 0 0]) 18 240 Tryz.underlying22 hi hz0 hz1 hz2 rfl (by decide) v2 (k+1) ((d.take (3*k)).flatMap VE.enc++[.int .i64 s.k,.bool s.b,.int .i64 s.n,.string s.t,.string s.x,.slice s.p s.len s.cap,.int .i64 p.k,.bool p.b,.int .i64 p.n,.string p.t,.string p.x,.slice p.p p.len p.cap,.int .i64 o.k,.bool o.b,.int .i64 o.n,.string o.t,.string o.x,.slice o.p o.len o.cap]) (by rfl) HO2.out (some ⟨ga,0,none⟩) 0 0 [] (by rfl) (by rfl) (fun _=>⟨rfl,rfl⟩) (fun _ _ _ _ hu=>by cases hu) (fun _ hu=>by cases hu) HM2.out HB2.out hz2s.out ?_)))
          intro v3 w3 hown3 hg3
          have BI3:Below w6.heap.size w6 w3:=BI2.out.grown hg3 hz2s.out (fun g hg=>(HO2.out.lt g hg).1)
          have acc:∃ out,Ins l (i+1) out∧AccV w out v3 w3:=⟨putT out k l[i],HINS.out.put hi1 k (by have:=HM.out;omega) LO.out HU.out,AccV.put HX.out.1 HX.out.2.2 HBZ.out BI3 (by have:=HM.out;omega) HE.out.1 HE.out.2.1 HE.out.2.2 hown3 (by have:=HM.out;omega) (by rw [List.drop_eq_nil_of_le (by have:=HM.out;omega)];simp)⟩
          have ACC:=Lib.hid acc
          clear acc hown3 hg3 BI3
          go_wp2_with fail
          go_roundg (n - (i+1))
          case measure=>omega
          case rel=>exact ⟨i+1,_,rfl,by omega,by go_num,ACC⟩
      ·have hkz:¬ 0 < k:=by omega
       go_upto_region 13 with fail
       refine wp_region_held_drew (S:=fun _=>True) (by kernel_rfl) trivial (fun hHeld=>?_)
       refine tg (i:=0) (.int .i64 (k:Int)) rfl hHeld ?_
       refine tg (i:=1) (.bool false) rfl hHeld ?_
       refine tg (i:=2) (.bool false) rfl hHeld ?_
       refine tn (i:=3) rfl hHeld ?_
       refine tn (i:=4) rfl hHeld ?_
       refine tn (i:=5) rfl hHeld ?_
       refine tn (i:=6) rfl hHeld ?_
       refine tn (i:=7) rfl hHeld ?_
       refine tn (i:=8) rfl hHeld ?_
       refine tn (i:=9) rfl hHeld ?_
       refine tn (i:=10) rfl hHeld ?_
       refine tn (i:=11) rfl hHeld ?_
       refine tn (i:=12) rfl hHeld ?_
       refine tn (i:=13) rfl hHeld ?_
       refine tg (i:=14) (.bool false) rfl hHeld ?_
       refine wpAnyH_done (by kernel_rfl) ?_ _
       clear hHeld
       go_upto_region 15 with fail
       refine wp_region_held_drew (S:=fun _=>True) (by kernel_rfl) trivial (fun hHeld=>?_)
       refine tg (i:=0) (.int .i64 (k:Int)) rfl hHeld ?_
       refine tg (i:=1) (.bool false) rfl hHeld ?_
       refine tg (i:=2) (.bool false) rfl hHeld ?_
       refine tn (i:=3) rfl hHeld ?_
       refine tn (i:=4) rfl hHeld ?_
       refine tn (i:=5) rfl hHeld ?_
       refine tn (i:=6) rfl hHeld ?_
       refine tn (i:=7) rfl hHeld ?_
       refine tn (i:=8) rfl hHeld ?_
       refine tn (i:=9) rfl hHeld ?_
       refine tn (i:=10) rfl hHeld ?_
       refine tn (i:=11) rfl hHeld ?_
       refine tn (i:=12) rfl hHeld ?_
       refine tn (i:=13) rfl hHeld ?_
       refine tg (i:=14) (.bool false) rfl hHeld ?_
       refine wpAnyH_done (by kernel_rfl) ?_ _
       clear hHeld
       have HBZ:Hid (Below wo.heap.size wo wr.drew.drew):=Lib.hid (HB.out.drew.drew)
       have LO:Hid (∀ (h0:0 < k),ordT (out[k - 1]'(by have:=HM.out;omega)) l[i] < 0):=Lib.hid fun h0=>absurd h0 hkz
       generalize wr.drew.drew=w6 at*
       have hkc:(k:Int)≤ca:=by omega
       have hkm2:(k:Int)≤m:=by omega
       have hd3:=d_len HX.out.1
       have hkd:3*k≤d.length:=by have:=HM.out;omega
       have HSRC:=Lib.hid (fun W (hb:Below w6.heap.size w6 W)=>zhi HCL.out (HBZ.out) hb)
       have HPQ:=Lib.hid (zij HPN.out)
       have HRZ:=Lib.hid (zae HRA.out HBZ.out)
       have HLA:((d.take (3*k)).flatMap VE.enc).length=k*18:=zhv _ _ (by rw [List.length_take];omega)
       have HLB:((d.drop (3*k)).flatMap VE.enc).length=(m - k)*18:=zhv _ _ (by rw [List.length_drop];have:=HM.out;omega)
       have HM1:0+k≤maxLen:=by unfold maxLen;omega
       have HM2:k+1≤maxLen:=by unfold maxLen;omega
       have HM3:k+1+(m - k)≤maxLen:=by unfold maxLen;omega
       have HB1:(0+k)*240≤140737488355328:=by omega
       have HB2:(k+1)*240≤140737488355328:=by omega
       have HB3:(k+1+(m - k))*240≤140737488355328:=by omega
       have HLA:=Lib.hid HLA;have HLB:=Lib.hid HLB
       have HM1:=Lib.hid HM1;have HM2:=Lib.hid HM2;have HM3:=Lib.hid HM3
       have HB1:=Lib.hid HB1;have HB2:=Lib.hid HB2;have HB3:=Lib.hid HB3
       go_wp2_with (first
        |(at_builtin;go_loud (refine zao rfl _ _ 22 rfl w6.heap.size 41 i0 (.agg #[.int .i64 0,.bool false,.int .i64 0,.string ⟨#[]⟩,.string ⟨#[]⟩,.slice none 0 0,.int .i64 0,.bool false,.int .i64 0,.string ⟨#[]⟩,.string ⟨#[]⟩,.slice none 0 0,.int .i64 0,.bool false,.int .i64 0,.string ⟨#[]⟩,.string ⟨#[]⟩,.slice none 0 0]) 18 240 Tryz.underlying22 hi hz0 hz1 hz2 rfl (by decide) (.slice none 0 0) 0 [] (by rfl) (World.ownsRow_nil _ _ _ _) pa k ca ((d.take (3*k)).flatMap VE.enc) (by rfl) HLA.out (fun e=>⟨(HPQ.out k hkm e).1,(HPQ.out k hkm e).2.2.2⟩) (zik (HSRC.out _ (Below.refl _ _))) (zex _) HM1.out HB1.out (Nat.le_refl _) ?_)))
       intro v1 w1 hown1 hg1
       have BI1:Hid (Below w6.heap.size w6 w1):=Lib.hid ((Below.refl _ _).grown hg1 (Nat.le_refl _) (fun g hg=>by simp [Value.ownBlock] at hg))
       have HO1:=Lib.hid hown1
       have rz1:=zae HRZ.out BI1.out
       have hz1s:=Lib.hid BI1.out.size
       clear hown1 hg1
       go_wp2_with (first
        |((with_reducible refine zbk (.tmp 72) g (off+i*18) s p o rz1 ?_ ?_ ?_ ?_);rfl;rfl;rfl)
        |(at_builtin;go_loud (refine zao rfl _ _ 22 rfl w6.heap.size 41 i0 (.agg #[.int .i64 0,.bool false,.int .i64 0,.string ⟨#[]⟩,.string ⟨#[]⟩,.slice none 0 0,.int .i64 0,.bool false,.int .i64 0,.string ⟨#[]⟩,.string ⟨#[]⟩,.slice none 0 0,.int .i64 0,.bool false,.int .i64 0,.string ⟨#[]⟩,.string ⟨#[]⟩,.slice none 0 0]) 18 240 Tryz.underlying22 hi hz0 hz1 hz2 rfl (by decide) v1 k ((d.take (3*k)).flatMap VE.enc) (by rfl) (HO1.out.alloc _) (some ⟨w1.heap.size,0,none⟩) 1 1 [.int .i64 s.k,.bool s.b,.int .i64 s.n,.string s.t,.string s.x,.slice s.p s.len s.cap,.int .i64 p.k,.bool p.b,.int .i64 p.n,.string p.t,.string p.x,.slice p.p p.len p.cap,.int .i64 o.k,.bool o.b,.int .i64 o.n,.string o.t,.string o.x,.slice o.p o.len o.cap] (by rfl) rfl (fun e=>by cases e) (fun ad e j u hu=>by cases e;exact zfk _ s p o _ j u hu) (by simp [Value.oneCell']) HM2.out HB2.out (by simp;have:=hz1s.out;omega) ?_)))
       intro v2 w2 hown2 hg2
       have BI2:Hid (Below w6.heap.size w6 w2):=Lib.hid ((BI1.out.alloc hz1s.out _).grown hg2 (by simp;have:=hz1s.out;omega) (fun g hg=>(HO1.out.lt g hg).1))
       have HO2:=Lib.hid hown2
       have hz2s:=Lib.hid BI2.out.size
       clear hown2 hg2 rz1
       rcases Nat.lt_or_ge k ca with hck | hck
       ·have hck2:¬ ca=k:=by omega
        have HNN:Hid ((Option.map (fun x=>x.add (k*18)) pa)=none→m - k=0∧ca - k=0):=Lib.hid (src_map pa k HPQ.out hkm)
        have HSS:Hid (SrcC w2 (Option.map (fun x=>x.add (k*18)) pa) ((d.drop (3*k)).flatMap VE.enc)):=Lib.hid (zrv (k:=k) (HSRC.out _ BI2.out) (zhv (d.take (3*k)) k (by rw [List.length_take];omega)))
        go_wp2_with (first
         |(at_builtin;go_loud (refine zao rfl _ _ 22 rfl w6.heap.size 41 i0 (.agg #[.int .i64 0,.bool false,.int .i64 0,.string ⟨#[]⟩,.string ⟨#[]⟩,.slice none 0 0,.int .i64 0,.bool false,.int .i64 0,.string ⟨#[]⟩,.string ⟨#[]⟩,.slice none 0 0,.int .i64 0,.bool false,.int .i64 0,.string ⟨#[]⟩,.string ⟨#[]⟩,.slice none 0 0]) 18 240 Tryz.underlying22 hi hz0 hz1 hz2 rfl (by decide) v2 (k+1) ((d.take (3*k)).flatMap VE.enc++[.int .i64 s.k,.bool s.b,.int .i64 s.n,.string s.t,.string s.x,.slice s.p s.len s.cap,.int .i64 p.k,.bool p.b,.int .i64 p.n,.string p.t,.string p.x,.slice p.p p.len p.cap,.int .i64 o.k,.bool o.b,.int .i64 o.n,.string o.t,.string o.x,.slice o.p o.len o.cap]) (by rfl) HO2.out (Option.map (fun x=>x.add (k*18)) pa) (m - k) (ca - k) ((d.drop (3*k)).flatMap VE.enc) (by rfl) HLB.out HNN.out HSS.out (zex _) HM3.out HB3.out hz2s.out ?_)))
        intro v3 w3 hown3 hg3
        have BI3:Below w6.heap.size w6 w3:=BI2.out.grown hg3 hz2s.out (fun g hg=>(HO2.out.lt g hg).1)
        have acc:∃ out,Ins l (i+1) out∧AccV w out v3 w3:=⟨putT out k l[i],HINS.out.put hi1 k (by have:=HM.out;omega) LO.out HU.out,AccV.put HX.out.1 HX.out.2.2 HBZ.out BI3 (by have:=HM.out;omega) HE.out.1 HE.out.2.1 HE.out.2.2 hown3 (by have:=HM.out;omega) (by first | rfl | simp)⟩
        have ACC:=Lib.hid acc
        clear acc hown3 hg3 BI3
        go_wp2_with fail
        go_roundg (n - (i+1))
        case measure=>omega
        case rel=>exact ⟨i+1,_,rfl,by omega,by go_num,ACC⟩
       ·have e1:k=ca:=by omega
        have e2:k=m:=by omega
        subst e1
        subst e2
        go_wp2_with (first
         |(at_builtin;go_loud (refine zao rfl _ _ 22 rfl w6.heap.size 41 i0 (.agg #[.int .i64 0,.bool false,.int .i64 0,.string ⟨#[]⟩,.string ⟨#[]⟩,.slice none 0 0,.int .i64 0,.bool false,.int .i64 0,.string ⟨#[]⟩,.string ⟨#[]⟩,.slice none 0 0,.int .i64 0,.bool false,.int .i64 0,.string ⟨#[]⟩,.string ⟨#[]⟩,.slice none 0 0]) 18 240 Tryz.underlying22 hi hz0 hz1 hz2 rfl (by decide) v2 (k+1) ((d.take (3*k)).flatMap VE.enc++[.int .i64 s.k,.bool s.b,.int .i64 s.n,.string s.t,.string s.x,.slice s.p s.len s.cap,.int .i64 p.k,.bool p.b,.int .i64 p.n,.string p.t,.string p.x,.slice p.p p.len p.cap,.int .i64 o.k,.bool o.b,.int .i64 o.n,.string o.t,.string o.x,.slice o.p o.len o.cap]) (by rfl) HO2.out pa 0 0 [] (by rfl) (by rfl) (fun _=>⟨rfl,rfl⟩) (fun _ _ _ _ hu=>by cases hu) (fun _ hu=>by cases hu) HM2.out HB2.out hz2s.out ?_)))
        intro v3 w3 hown3 hg3
        have BI3:Below w6.heap.size w6 w3:=BI2.out.grown hg3 hz2s.out (fun g hg=>(HO2.out.lt g hg).1)
        have acc:∃ out,Ins l (i+1) out∧AccV w out v3 w3:=⟨putT out k l[i],HINS.out.put hi1 k (by have:=HM.out;omega) LO.out HU.out,AccV.put HX.out.1 HX.out.2.2 HBZ.out BI3 (by have:=HM.out;omega) HE.out.1 HE.out.2.1 HE.out.2.2 hown3 (by have:=HM.out;omega) (by rw [List.drop_eq_nil_of_le (by have:=HM.out;omega)];simp)⟩
        have ACC:=Lib.hid acc
        clear acc hown3 hg3 BI3
        go_wp2_with fail
        go_roundg (n - (i+1))
        case measure=>omega
        case rel=>exact ⟨i+1,_,rfl,by omega,by go_num,ACC⟩
    ·obtain ⟨out,hins,d,hd,hown,hbel⟩:=HA.out
     have hT:=zqk out d hown hd
     have hin:i=l.length:=by have:=HL.out;omega
     have hc:=zs7 out A wr hT (by have:=hins.len;omega)
     go_wp2_with (first
      |(go_at_call 9;(with_reducible refine hc.mono ?_);rintro e w9 ⟨V,rfl,hq⟩))
     have hfin:RefOk w l (.returned (.tuple #[V,.int .i64 0])) w9:=by
      have hb:=hbel.size
      refine ⟨V,out,rfl,by rw [hin] at hins;exact hins,hq.tris,fun g hg=>?_,hbel.trans (hq.bel.mono hb)⟩
      obtain ⟨⟨xs,ho,_⟩,_⟩:=hq
      have:=(ho.lt g hg).1
      omega
     go_ret2
     exact ⟨fun _=>hfin,fun h=>absurd HGOOD.out h⟩
end Go.Proofs.YtanbgdhmfjgihaaGreatDoor
