/- Texts of one kind, one behind the other: each says ahead of itself what it shows. -/
import Derived.Test.YtanbgdhmfjgihaaGreatDoorTaz
import Derived.Test.YtanbgdhmfjgihaaGreatDoorTav
import Derived.Test.YtanbgdhmfjgihaaGreatDoorTay
namespace Go.Proofs.YtanbgdhmfjgihaaGreatDoor
open Go.RowKit
set_option maxHeartbeats 12800000
set_option maxRecDepth 20000
def ordT (a b:Tri3):Int:=triI a.s a.p a.o b.s b.p b.o
theorem zng (a b:Tri3):ordT b a=-ordT a b:=by
 unfold ordT triI
 rw [zbb 1 a.s,zbb 1 a.p,zbb 1 a.o,zcl,zcl]
theorem zxf (a b c:Tri3):Tri (ordT a b) (ordT b c) (ordT a c):=(zb6 1 _ _ _).lex ((zb6 1 _ _ _).lex (zb6 1 _ _ _))
theorem zpa (a:Tri3):ordT a a=0:=by
 have:=zng a a
 omega
theorem ordT_eq {a b:Tri3} (ha:zbl a=true) (hb:zbl b=true) (h:ordT a b=0):a=b:=by
 unfold ordT triI at h
 obtain ⟨h1,h2⟩:=zna h
 obtain ⟨h2,h3⟩:=zna h2
 have pa:=zcx ha
 have pb:=zcx hb
 have e1:=(zds pa.1.1 pb.1.1).1 (zc5 1 _ _ 0 0 pa.1.2 pb.1.2 h1)
 have e2:=(zds pa.2.1.1 pb.2.1.1).1 (zc5 1 _ _ 0 0 pa.2.1.2 pb.2.1.2 h2)
 have e3:=(zds pa.2.2.1 pb.2.2.1).1 (zc5 1 _ _ 0 0 pa.2.2.2 pb.2.2.2 h3)
 obtain ⟨s,p,o⟩:=a
 obtain ⟨s2,p2,o2⟩:=b
 simp only at e1 e2 e3
 rw [e1,e2,e3]
def zlk (l:List Tri3):Prop:=l.Pairwise fun a b=>ordT a b < 0
theorem zlk.ext:{l m:List Tri3}→zlk l→zlk m→(∀ t,t∈l↔t∈m)→l=m
 | [],[],_,_,_=>rfl
 | [],b::m,_,_,h=>absurd ((h b).2 (List.mem_cons_self ..)) (by simp)
 | a::l,[],_,_,h=>absurd ((h a).1 (List.mem_cons_self ..)) (by simp)
 | a::l,b::m,hl,hm,h=>by
   unfold zlk at hl hm
   rw [List.pairwise_cons] at hl hm
   have hab:a=b:=by
    rcases List.mem_cons.1 ((h a).1 (List.mem_cons_self ..)) with e | e
    ·exact e
    ·rcases List.mem_cons.1 ((h b).2 (List.mem_cons_self ..)) with e2 | e2
     ·exact e2.symm
     ·have q1:=hm.1 a e
      have q2:=hl.1 b e2
      have q3:=zng a b
      omega
   subst hab
   congr 1
   refine zlk.ext hl.2 hm.2 fun u=>?_
   constructor
   ·intro hu
    rcases List.mem_cons.1 ((h u).1 (List.mem_cons_of_mem _ hu)) with e | e
    ·subst e
     have:=hl.1 u hu
     rw [zpa] at this
     omega
    ·exact e
   ·intro hu
    rcases List.mem_cons.1 ((h u).2 (List.mem_cons_of_mem _ hu)) with e | e
    ·subst e
     have:=hm.1 u hu
     rw [zpa] at this
     omega
    ·exact e
def putT (out:List Tri3) (k:Nat) (x:Tri3):List Tri3:=out.take k++x::out.drop k
theorem zrt (out:List Tri3) (k:Nat) (x:Tri3) (hk:k≤out.length):(putT out k x).length=out.length+1:=by
 unfold putT
 simp
 omega
structure Ins (l:List Tri3) (i:Nat) (out:List Tri3):Prop where
 rise:zlk out
 mem:∀ t,t∈out↔t∈l.take i
 len:out.length≤i
theorem Ins.zero (l:List Tri3):Ins l 0 []:=⟨List.Pairwise.nil,by simp,Nat.le_refl _⟩
theorem zru {l:List Tri3} {i:Nat} (hi:i < l.length) (t:Tri3):t∈l.take (i+1)↔t∈l.take i∨t=l[i]:=by
 rw [List.take_succ_eq_append_getElem hi,List.mem_append,List.mem_singleton]
theorem Ins.skip {l out:List Tri3} {i:Nat} (h:Ins l i out) (hi:i < l.length) (hm:l[i]∈out):Ins l (i+1) out:=by
 refine ⟨h.rise,fun t=>?_,by have:=h.len;omega⟩
 rw [zru hi,← h.mem]
 constructor
 ·exact .inl
 ·rintro (e | e)
  ·exact e
  ·rw [e];exact hm
theorem Ins.put {l out:List Tri3} {i:Nat} (h:Ins l i out) (hi:i < l.length) (k:Nat) (hk:k≤out.length) (lo:∀ (h0:0 < k),ordT (out[k - 1]'(by omega)) l[i] < 0) (up:∀ (j:Nat) (hj:j < out.length),k≤j→0 < ordT out[j] l[i]):Ins l (i+1) (putT out k l[i]):=by
 have hr:=List.pairwise_iff_getElem.1 h.rise
 have lo':∀ (j:Nat) (hj:j < out.length),j < k→ordT out[j] l[i] < 0:=fun j hj hjk=>by
  have q:=lo (by omega)
  by_cases e:j=k - 1
  ·subst e;exact q
  ·exact (zxf _ _ _).tl (Int.le_of_lt (hr j (k - 1) hj (by omega) (by omega))) q
 refine ⟨?_,fun t=>?_,by rw [zrt _ _ _ hk];have:=h.len;omega⟩
 ·unfold zlk putT
  rw [List.pairwise_append,List.pairwise_cons]
  refine ⟨h.rise.sublist (List.take_sublist _ _),⟨fun b hb=>?_,h.rise.sublist (List.drop_sublist _ _)⟩,fun a ha b hb=>?_⟩
  ·obtain ⟨j,hj,rfl⟩:=List.getElem_of_mem hb
   rw [List.getElem_drop]
   have q:=up (k+j) (by simpa using Nat.add_lt_of_lt_sub' (by simpa using hj)) (by omega)
   have q2:=zng (out[k+j]'(by simpa using Nat.add_lt_of_lt_sub' (by simpa using hj))) l[i]
   omega
  ·obtain ⟨j,hj,rfl⟩:=List.getElem_of_mem ha
   rw [List.getElem_take]
   simp only [List.length_take] at hj
   have q:=lo' j (by omega) (by omega)
   rcases List.mem_cons.1 hb with rfl | hb
   ·exact q
   ·obtain ⟨j2,hj2,rfl⟩:=List.getElem_of_mem hb
    rw [List.getElem_drop]
    simp only [List.length_drop] at hj2
    exact hr j (k+j2) (by omega) (by omega) (by omega)
 ·rw [zru hi,← h.mem]
  unfold putT
  rw [List.mem_append,List.mem_cons]
  conv=>rhs;rw [← List.take_append_drop k out,List.mem_append]
  constructor
  ·rintro (e | e | e)
   ·exact .inl (.inl e)
   ·exact .inr e
   ·exact .inl (.inr e)
  ·rintro ((e | e) | e)
   ·exact .inl e
   ·exact .inr (.inr e)
   ·exact .inr (.inl e)
section
variable {l:List Tri3} {s:SM}
theorem zvo (h:zbe l s) {t:Tri3} (ht:t∈l):s.tri (rowOf s.vs t).r3=t:=by
 have m1:t.s∈s.vs:=(h.mem _).2 (zd3.2 ⟨t,ht,.inl rfl⟩)
 have m2:t.p∈s.vs:=(h.mem _).2 (zd3.2 ⟨t,ht,.inr (.inl rfl)⟩)
 have m3:t.o∈s.vs:=(h.mem _).2 (zd3.2 ⟨t,ht,.inr (.inr rfl)⟩)
 unfold SM.tri rowOf VR.r3
 simp only [Int.toNat_natCast]
 rw [zew m1,zew m2,zew m3]
 rfl
theorem all_mem (h:zbe l s) (t:Tri3):t∈s.all↔t∈l:=by
 unfold SM.all
 rw [List.mem_map]
 constructor
 ·rintro ⟨r,hr,rfl⟩
  obtain ⟨t,ht,e⟩:=(h.rmem r).1 hr
  have:=zvo h ht
  rw [e,vr_r3] at this
  rw [this]
  exact ht
 ·intro ht
  exact ⟨_,(h.rmem _).2 ⟨t,ht,(zyj s.vs t).symm⟩,zvo h ht⟩
theorem zqi (h:Rise s.vs) (i j:Nat) (hi:i < s.vs.length) (hj:j < s.vs.length):(i < j→zan 1 ((s.vs[i]?).getD nulV) ((s.vs[j]?).getD nulV) < 0)∧(i=j→zan 1 ((s.vs[i]?).getD nulV) ((s.vs[j]?).getD nulV)=0):=by
 rw [List.getElem?_eq_getElem hi,List.getElem?_eq_getElem hj,Option.getD_some,Option.getD_some]
 exact ⟨fun q=>h i j q hj,fun q=>by subst q;exact zb5 _⟩
theorem zxg (h:zbe l s) (hn:l.length≤65536):zlk s.all:=by
 have ok:=h.ok hn
 unfold zlk SM.all
 rw [List.pairwise_map]
 refine h.rows.imp_of_mem fun {a b} ha hb hab=>?_
 obtain ⟨a1,a2,a3⟩:=ok.r a ha
 obtain ⟨b1,b2,b3⟩:=ok.r b hb
 obtain ⟨c1,d1⟩:=zqi h.rise a.a b.a a1 b1
 obtain ⟨c2,d2⟩:=zqi h.rise a.b b.b a2 b2
 obtain ⟨c3,d3⟩:=zqi h.rise a.c b.c a3 b3
 have hle:=zym (Int.le_of_lt hab)
 have hne:¬ a=b:=fun e=>by subst e;exact R3.irr _ hab
 unfold R3.vr at hle
 simp only at hle
 unfold ordT triI SM.tri
 simp only
 obtain ⟨h1,h2⟩:=hle
 by_cases e1:a.a=b.a
 ·obtain ⟨h3,h4⟩:=h2 (by omega)
  rw [d1 e1,zbi]
  by_cases e2:a.b=b.b
  ·have h5:=h4 (by omega)
   rw [d2 e2,zbi]
   by_cases e3:a.c=b.c
   ·refine absurd ?_ hne
    obtain ⟨x,y,z⟩:=a
    obtain ⟨x2,y2,z2⟩:=b
    simp only at e1 e2 e3
    rw [e1,e2,e3]
   ·exact c3 (by omega)
  ·have q:=c2 (by omega)
   unfold lexI
   rw [if_neg (by omega)]
   exact q
 ·have q:=c1 (by omega)
  unfold lexI
  rw [if_neg (by omega)]
  exact q
theorem Ins.all (h:zbe l s) (hn:l.length≤65536) {out:List Tri3} (hi:Ins l l.length out):out=s.all:=by
 refine zlk.ext hi.rise (zxg h hn) fun t=>?_
 rw [hi.mem,List.take_length,all_mem h]
end
theorem range_b {W:World} {g o:Nat} {a b c:V6} (h:W.rangeAt g o [.int .i64 a.k,.bool a.b,.int .i64 a.n,.string a.t,.string a.x,.slice a.p a.len a.cap,.int .i64 b.k,.bool b.b,.int .i64 b.n,.string b.t,.string b.x,.slice b.p b.len b.cap,.int .i64 c.k,.bool c.b,.int .i64 c.n,.string c.t,.string c.x,.slice c.p c.len c.cap]):W.rangeAt g (o+6) [.int .i64 b.k,.bool b.b,.int .i64 b.n,.string b.t,.string b.x,.slice b.p b.len b.cap]:=fun i v hv=>by
 match i,hv with
 | 0,e=>exact h 6 v e
 | 1,e=>have:=h 7 v e;rwa [Nat.add_assoc]
 | 2,e=>have:=h 8 v e;rwa [Nat.add_assoc]
 | 3,e=>have:=h 9 v e;rwa [Nat.add_assoc]
 | 4,e=>have:=h 10 v e;rwa [Nat.add_assoc]
 | 5,e=>have:=h 11 v e;rwa [Nat.add_assoc]
 | i+6,e=>simp at e
theorem zqj (v:V6) (u:Val) (q:List Val) (W:World) (h:Is W v u q):Calls Tryz.prog 39 #[.agg #[.int .i64 v.k,.bool v.b,.int .i64 v.n,.string v.t,.string v.x,.slice v.p v.len v.cap]] W (zhd W v.k v.b v.n v.t v.x q):=by
 obtain ⟨k,b,n,t,x,p,len,cap⟩:=v
 obtain ⟨e,hq,hf,hl⟩:=h
 simp only at e hq hf hl
 subst hq
 exact rcopyAt k b n t x q p cap W hf hl
def PA (w wr:World) (A:Value) (g:Nat):Prop:=w.heap.size≤g∧g < wr.heap.size∧A.ownBlock≠some g
structure AccQ (w:World) (l:List Tri3) (A:Value) (wr:World):Prop where
 own:∃ xs,wr.ownsRow w.heap.size 41 18 A l.length xs∧za5 wr (PA w wr A) xs (flat l)
 bel:Below w.heap.size w wr
theorem AccQ.next {w wr wf w1:World} {l:List Tri3} {t:Tri3} {A:Value} {xs ys:List Value} {gg c:Nat} {o:Obj} (hx:wr.ownsRow w.heap.size 41 18 A l.length xs) (hc:za5 wr (PA w wr A) xs (flat l)) (hbel:Below w.heap.size w wr)
 (bf:Below wr.heap.size wr wf) (hy:za5 wf (fun g=>wr.heap.size≤g∧g < wf.heap.size) ys t.l)
 (hown:w1.ownsRow w.heap.size 41 18 (.slice (some ⟨gg,0,none⟩) (l.length+1) c) (l.length+1) (xs++ys)) (hgrow:(wf.alloc o).grownBy w1 A.ownBlock) (hloc:A.ownBlock=some gg∨gg=wf.heap.size+1):
 AccQ w (l++[t]) (.slice (some ⟨gg,0,none⟩) (l.length+1) c) w1:=by
 have hA:∀ g,A.ownBlock=some g→g < wr.heap.size:=fun g hg=>(hx.lt g hg).2
 have s1:(wf.alloc o).heap.size=wf.heap.size+1:=by simp
 have s2:wr.heap.size≤wf.heap.size:=bf.size
 have s3:(wf.alloc o).heap.size≤w1.heap.size:=hgrow.size
 have s0:w.heap.size≤wr.heap.size:=hbel.size
 have hn2:∀ g,g < wf.heap.size→A.ownBlock≠some g→(Value.slice (some ⟨gg,0,none⟩) (l.length+1) c).ownBlock≠some g:=fun g hg hne h=>by
  have h3:gg=g:=by simpa [Value.ownBlock] using h
  rcases hloc with h2 | h2
  ·exact hne (h3 ▸ h2)
  ·omega
 have keep:∀ g,g < wf.heap.size→A.ownBlock≠some g→w1.heap[g]?=wf.heap[g]?:=fun g hg hne=>by
  rw [hgrow.block g (by omega) (fun h=>hne h.symm)]
  exact Below.heap_alloc _ _ _ hg
 refine ⟨⟨_,by rw [List.length_append];exact hown,?_⟩,(hbel.trans (bf.mono s0) |>.alloc (by omega) o).grown hgrow (by omega) (fun g hg=>(hx.lt g hg).1)⟩
 rw [zrr]
 refine za5.append (flat l) _ (hc.stays (fun g hg=>⟨⟨hg.1,by have:=hg.2.1;omega,hn2 g (by have:=hg.2.1;omega) hg.2.2⟩,?_⟩) (flat l)) (by
  have:flat [t]=t.l:=by unfold flat;simp
  rw [this]
  exact hy.stays (fun g hg=>by
   have hne:A.ownBlock≠some g:=fun h=>by have:=hA g h;omega
   exact ⟨⟨by omega,by omega,hn2 g hg.2 hne⟩,keep g hg.2 hne⟩) t.l)
 rw [keep g (by have:=hg.2.1;omega) hg.2.2]
 exact bf.block g hg.2.1
def QPost (w:World) (l:List Tri3) (e:Ending) (w':World):Prop:=∃ V,e=.returned V∧AccQ w l V w'
theorem zs7 (l:List Tri3) (L:Value) (w:World) (hl:Tris w L l) (hn:l.length≤2097152):Calls Tryz.prog 9 #[L] w (QPost w l):=by
 obtain ⟨q0,cap,rfl⟩:=zhf hl
 obtain ⟨n,hln⟩:∃ n,n=l.length:=⟨_,rfl⟩
 rw [← hln] at hn ⊢
 obtain ⟨i0,hi,hz0,hz1,hz2⟩:=info_parts zvl
 have HL:=Lib.hid hln
 have HH:=Lib.hid hl
 clear hl hln
 go_enter Tryz.func9,Tryz.ntmps9
 go_wp2_with fail
 go_loopg [3,4] n (fun gg s3 s4 wr=>∃ (j:Nat) (A:Value),A=s3∧j+gg=n∧s4=.int .i64 j∧Hid (AccQ w (l.take j) A wr))
 case atStart=>exact ⟨0,_,rfl,by omega,rfl,Lib.hid ⟨⟨[],by simpa using World.ownsRow_nil w w.heap.size 41 18,by unfold za5;rfl⟩,Below.refl _ _⟩⟩
 case round=>
  obtain ⟨j,A,rfl,hjg,rfl,HA⟩:=hrel
  by_cases hlt:(j:Int) < n
  ·have hj1:j < l.length:=by have:=HL.out;omega
   obtain ⟨g,off,rfl,hh⟩:∃ g off,q0=some ⟨g,off,none⟩∧zar w g off (flat l):=by
    obtain ⟨p1,cap1,e,h1⟩:=HH.out
    obtain ⟨g,off,e2,h2⟩:=h1 (by intro e;rw [e] at hj1;exact absurd hj1 (by simp))
    injection e with e3 _ _
    exact ⟨g,off,by rw [e3];exact e2,h2⟩
   obtain ⟨⟨xs,hown,hcl⟩,hbel⟩:=HA.out
   have hjl:(l.take j).length=j:=by rw [List.length_take];omega
   rw [hjl] at hown
   obtain ⟨s0,p0',o0,ls0,lp0,lo0,_,_,_,ra0⟩:=zhb hh j hj1
   have HGL:Hid (g < w.heap.size):=Lib.hid (World.block_lt_of_cell? w _ (ra0 0 _ rfl))
   clear ra0
   obtain ⟨s,p,o,ls,lp,lo,is,ip,io,ra⟩:=zhb (zar.below _ hh hbel) j hj1
   have HC0:=Lib.hid (fun W (hb:Below wr.heap.size wr W)=>zqj s _ _ W (is.below hb))
   have HC1:=Lib.hid (fun W (hb:Below wr.heap.size wr W)=>zqj p _ _ W (ip.below hb))
   have HC2:=Lib.hid (fun W (hb:Below wr.heap.size wr W)=>zqj o _ _ W (io.below hb))
   have HX:=Lib.hid (And.intro hown (And.intro hcl hbel))
   have HI:=Lib.hid (And.intro (And.intro is.e is.hf) (And.intro (And.intro ip.e ip.hf) (And.intro io.e io.hf)))
   clear is ip io hown hcl hbel hh
   go_upto_region 5 with fail
   have L0:Below wr.heap.size wr wr.drew:=(Below.refl _ _).drew
   refine wp_region_held_drew (S:=fun W=>W.rangeAt g (off+j*18) [.int .i64 s.k,.bool s.b,.int .i64 s.n,.string s.t,.string s.x,.slice s.p s.len s.cap,.int .i64 p.k,.bool p.b,.int .i64 p.n,.string p.t,.string p.x,.slice p.p p.len p.cap,.int .i64 o.k,.bool o.b,.int .i64 o.n,.string o.t,.string o.x,.slice o.p o.len o.cap]) (by kernel_rfl) ra (fun hHeld=>?_)
   refine tg (i:=0) A rfl hHeld ?_
   refine tg (i:=1) (.slice (some ⟨g,off,none⟩) n cap) rfl hHeld ?_
   refine tg (i:=2) (.int .i64 j) rfl hHeld ?_
   refine tg (i:=3) (.pointer (some ⟨g,off+j*18,none⟩)) rfl hHeld ?_
   refine tg (i:=4) (.pointer (some ⟨g,off+j*18,none⟩)) rfl hHeld ?_
   refine tk (i:=5) rfl (yieldsIf_load_mid (by rfl) 39 (.tmp 15) rfl (g) (off+j*18) rfl [.int .i64 s.k,.bool s.b,.int .i64 s.n,.string s.t,.string s.x,.slice s.p s.len s.cap] _ (fun W h=>range_a h) Tryz.underlying39 rfl zas) hHeld ?_
   refine tg (i:=7) (.slice (some ⟨g,off,none⟩) n cap) rfl hHeld ?_
   refine tg (i:=8) (.int .i64 j) rfl hHeld ?_
   refine tg (i:=9) (.pointer (some ⟨g,off+j*18,none⟩)) rfl hHeld ?_
   refine tg (i:=10) (.pointer (some ⟨g,off+j*18+6,none⟩)) rfl hHeld ?_
   refine tk (i:=11) rfl (yieldsIf_load_mid (by rfl) 39 (.tmp 21) rfl (g) (off+j*18+6) rfl [.int .i64 p.k,.bool p.b,.int .i64 p.n,.string p.t,.string p.x,.slice p.p p.len p.cap] _ (fun W h=>range_b h) Tryz.underlying39 rfl zas) hHeld ?_
   refine tg (i:=13) (.slice (some ⟨g,off,none⟩) n cap) rfl hHeld ?_
   refine tg (i:=14) (.int .i64 j) rfl hHeld ?_
   refine tg (i:=15) (.pointer (some ⟨g,off+j*18,none⟩)) rfl hHeld ?_
   refine tg (i:=16) (.pointer (some ⟨g,off+j*18+12,none⟩)) rfl hHeld ?_
   refine tk (i:=17) rfl (yieldsIf_load_mid (by rfl) 39 (.tmp 27) rfl (g) (off+j*18+12) rfl [.int .i64 o.k,.bool o.b,.int .i64 o.n,.string o.t,.string o.x,.slice o.p o.len o.cap] _ (fun W h=>range_c h) Tryz.underlying39 rfl zas) hHeld ?_
   refine tr 6 rfl (fun K hK=>?_)
   rw [if_pos (by rfl)]
   go_simp
   refine (HC0.out _ L0).mono ?_
   rintro e0 w1 ⟨p0,c0,rfl,hq0,hb0⟩
   have L1:=L0.trans (hb0.mono L0.size)
   have hHeld1:=zae hHeld hb0
   refine hK.out _ _ hHeld1 (fun _=>?_)
   clear hK K
   try simp only [putS]
   refine tr 12 rfl (fun K hK=>?_)
   rw [if_pos (by rfl)]
   go_simp
   refine (HC1.out _ L1).mono ?_
   rintro e1 w2 ⟨p1,c1,rfl,hq1,hb1⟩
   have L2:=L1.trans (hb1.mono L1.size)
   have hHeld2:=zae hHeld1 hb1
   refine hK.out _ _ hHeld2 (fun _=>?_)
   clear hK K
   try simp only [putS]
   refine tr 18 rfl (fun K hK=>?_)
   rw [if_pos (by rfl)]
   go_simp
   refine (HC2.out _ L2).mono ?_
   rintro e2 w3 ⟨p2,c2,rfl,hq2,hb2⟩
   have L3:=L2.trans (hb2.mono L2.size)
   have hHeld3:=zae hHeld2 hb2
   refine hK.out _ _ hHeld3 (fun _=>?_)
   clear hK K
   try simp only [putS]
   refine tg (i:=19) (.agg #[.int .i64 s.k,.bool s.b,.int .i64 s.n,.string s.t,.string s.x,.slice p0 ls.length c0,.int .i64 p.k,.bool p.b,.int .i64 p.n,.string p.t,.string p.x,.slice p1 lp.length c1,.int .i64 o.k,.bool o.b,.int .i64 o.n,.string o.t,.string o.x,.slice p2 lo.length c2]) rfl hHeld3 ?_
   refine tr 20 rfl (fun K hK=>?_)
   (try rw [if_pos (by rfl)])
   go_simp
   have own3:=(zbf HX.out.1 L3).alloc (.cells #[.int .i64 s.k,.bool s.b,.int .i64 s.n,.string s.t,.string s.x,.slice p0 ls.length c0,.int .i64 p.k,.bool p.b,.int .i64 p.n,.string p.t,.string p.x,.slice p1 lp.length c1,.int .i64 o.k,.bool o.b,.int .i64 o.n,.string o.t,.string o.x,.slice p2 lo.length c2] 41)
   have hHeld4:=zae hHeld3 (za0 w3 (.cells #[.int .i64 s.k,.bool s.b,.int .i64 s.n,.string s.t,.string s.x,.slice p0 ls.length c0,.int .i64 p.k,.bool p.b,.int .i64 p.n,.string p.t,.string p.x,.slice p1 lp.length c1,.int .i64 o.k,.bool o.b,.int .i64 o.n,.string o.t,.string o.x,.slice p2 lo.length c2] 41))
   refine hK.out _ _ hHeld4 (fun _=>?_)
   clear hK K
   try simp only [putS]
   refine tr 21 rfl (fun K hK=>?_)
   refine step_append_lies _ (by rfl) _ _ _ (by rfl) w.heap.size 41 i0 _ 18 240 Tryz.underlying22 hi hz0 hz1 hz2 rfl (by omega) A j xs (by rfl) own3 ⟨w3.heap.size,0,none⟩ 1 1 [.int .i64 s.k,.bool s.b,.int .i64 s.n,.string s.t,.string s.x,.slice p0 ls.length c0,.int .i64 p.k,.bool p.b,.int .i64 p.n,.string p.t,.string p.x,.slice p1 lp.length c1,.int .i64 o.k,.bool o.b,.int .i64 o.n,.string o.t,.string o.x,.slice p2 lo.length c2] (by rfl) (by rfl) (World.news_of_block (cs:=#[.int .i64 s.k,.bool s.b,.int .i64 s.n,.string s.t,.string s.x,.slice p0 ls.length c0,.int .i64 p.k,.bool p.b,.int .i64 p.n,.string p.t,.string p.x,.slice p1 lp.length c1,.int .i64 o.k,.bool o.b,.int .i64 o.n,.string o.t,.string o.x,.slice p2 lo.length c2]) (t:=41) (fr:=(0,0)) (by exact heap_alloc_new w3 _)) (by simp [Value.oneCell']) (by omega) (by unfold maxLen;omega) (by omega) (by simp;have:=L3.size;have:=HX.out.2.2.size;omega) (w3.heap.size+1) (by simp) ?_
   intro gg cap' w4 hr4 hg4 hat4 hlt4
   have hHeld5:w4.rangeAt g (off+j*18) [.int .i64 s.k,.bool s.b,.int .i64 s.n,.string s.t,.string s.x,.slice s.p s.len s.cap,.int .i64 p.k,.bool p.b,.int .i64 p.n,.string p.t,.string p.x,.slice p.p p.len p.cap,.int .i64 o.k,.bool o.b,.int .i64 o.n,.string o.t,.string o.x,.slice o.p o.len o.cap]:=by
    have hbk:=hg4.block g (by have:=hHeld4 0 _ rfl;have:=World.block_lt_of_cell? _ _ this;exact this) (fun e=>by
     have:=(HX.out.1.lt g e.symm).1
     have:=HGL.out
     omega)
    intro i v hv
    rw [World.cell?_of_block (w:=w3.alloc (.cells #[.int .i64 s.k,.bool s.b,.int .i64 s.n,.string s.t,.string s.x,.slice p0 ls.length c0,.int .i64 p.k,.bool p.b,.int .i64 p.n,.string p.t,.string p.x,.slice p1 lp.length c1,.int .i64 o.k,.bool o.b,.int .i64 o.n,.string o.t,.string o.x,.slice p2 lo.length c2] 41)) (a:=⟨g,off+j*18+i,none⟩) hbk]
    exact hHeld4 i v hv
   refine hK.out _ _ hHeld5 (fun _=>?_)
   clear hK K
   try simp only [putS]
   refine tr 22 rfl (fun K hK=>?_)
   go_simp
   refine hK.out _ _ hHeld5 (fun _=>?_)
   clear hK K
   try simp only [putS]
   refine wpAnyH_done (by kernel_rfl) ?_ _
   have acc:AccQ w (l.take (j+1)) (.slice (some ⟨gg,0,none⟩) (j+1) cap') w4:=by
    obtain ⟨hown,hcl,hbel⟩:=HX.out
    obtain ⟨⟨es,fs⟩,⟨ep,fp⟩,eo,fo⟩:=HI.out
    have t1:=L1.size
    have t2:=hb1.size
    have t3:=hb2.size
    have t0:wr.drew.heap.size=wr.heap.size:=rfl
    have q1:=hq0.stays (w':=w3) (P':=fun g=>wr.heap.size≤g∧g < w3.heap.size) (fun g hg=>⟨by omega,(hb2.block g (by omega)).trans (hb1.block g hg.2)⟩) _
    have q2:=hq1.stays (w':=w3) (P':=fun g=>wr.heap.size≤g∧g < w3.heap.size) (fun g hg=>⟨by omega,hb2.block g hg.2⟩) _
    have q3:=hq2.stays (w':=w3) (P':=fun g=>wr.heap.size≤g∧g < w3.heap.size) (fun g hg=>⟨by omega,rfl⟩) _
    rw [List.take_succ_eq_append_getElem hj1]
    have hy:za5 w3 (fun g=>wr.heap.size≤g∧g < w3.heap.size) [.int .i64 s.k,.bool s.b,.int .i64 s.n,.string s.t,.string s.x,.slice p0 ls.length c0,.int .i64 p.k,.bool p.b,.int .i64 p.n,.string p.t,.string p.x,.slice p1 lp.length c1,.int .i64 o.k,.bool o.b,.int .i64 o.n,.string o.t,.string o.x,.slice p2 lo.length c2] l[j].l:=by
     unfold Tri3.l
     rw [es,ep,eo]
     exact za5.append [_] [_,_] (za5.one fs q1) (za5.append [_] [_] (za5.one fp q2) (za5.one fo q3))
    have:=AccQ.next (t:=l[j]) (by rw [hjl];exact hown) hcl hbel L3 hy (gg:=gg) (c:=cap') (by rw [hjl];exact hr4) hg4 hat4
    rwa [hjl] at this
   have ACC:=Lib.hid acc
   clear acc hr4 hg4 hat4 hlt4 own3 hHeld hHeld1 hHeld2 hHeld3 hHeld4 hHeld5 hq0 hq1 hq2 hb0 hb1 hb2 L0 L1 L2 L3 HX HC0 HC1 HC2 ra HI
   go_wp2_with fail
   go_roundg (gk - 1)
   case measure=>omega
   case rel=>exact ⟨j+1,_,rfl,by omega,by go_num,ACC⟩
  ·have hjn:j=l.length:=by have:=HL.out;omega
   have hfin:QPost w l (.returned A) wr:=by
    have h:=HA.out
    rw [hjn,List.take_length] at h
    exact ⟨A,rfl,h⟩
   have HF:=Lib.hid hfin
   clear hfin HA
   go_wp2_with fail
   go_ret
   exact HF.out
theorem AccQ.tris {w:World} {l:List Tri3} {A:Value} {wr:World} (h:AccQ w l A wr):Tris wr A l:=by
 obtain ⟨⟨xs,hown,hc⟩,_⟩:=h
 have h1:=hown.1
 rcases hown.2 with ⟨rfl,h0⟩ | ⟨g,cap,cur,rfl,hg,hh,_⟩
 ·exact ⟨none,0,by rw [h0],fun hne=>absurd (List.length_eq_zero_iff.1 h0) hne⟩
 ·refine ⟨some ⟨g,0,none⟩,cap,rfl,fun _=>⟨g,0,rfl,?_⟩⟩
  refine (za5.holds (flat l) 0 hc fun t u hu=>?_).held
  have ht:t < l.length*18:=by
   have:=(List.getElem?_eq_some_iff.1 hu).1
   omega
  rw [Nat.zero_add,hown.cellAt t ht]
  exact hu
def rk (dn:Bool) (d:Nat):Nat:=match dn with | true=>3 - d | false=>2+d
section
variable {l:List Tri3} {s:SM} {k n L:Nat} {c:CS}
end
theorem zqk {w:World} {base:Nat} {V:Value} (A:List Tri3) (dd:List VE) (h:w.ownsRow base 41 18 V A.length (dd.flatMap VE.enc)) (hd:dd.map VE.val=flat A):Tris w V A:=by
 have h1:=h.1
 rcases h.2 with ⟨rfl,h0⟩ | ⟨g,cap,cur,rfl,hg,hh,_⟩
 ·exact ⟨none,0,by rw [h0],fun hne=>absurd (List.length_eq_zero_iff.1 h0) hne⟩
 ·refine ⟨some ⟨g,0,none⟩,cap,rfl,fun _=>⟨g,0,rfl,?_⟩⟩
  rw [← hd]
  refine zby w g dd 0 fun t u hu=>?_
  have ht:t < A.length*18:=by
   have:=(List.getElem?_eq_some_iff.1 hu).1
   omega
  rw [Nat.zero_add,h.cellAt t ht]
  exact hu
section
variable {l:List Tri3} {s:SM} (h:zbe l s)
include h
end
end Go.Proofs.YtanbgdhmfjgihaaGreatDoor
