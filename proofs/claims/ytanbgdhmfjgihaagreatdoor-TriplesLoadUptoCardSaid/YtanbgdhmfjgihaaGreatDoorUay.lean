/- Texts of one kind, one behind the other: each says ahead of itself what it shows. -/
import Derived.Test.YtanbgdhmfjgihaaGreatDoorUax
namespace Go.Proofs.YtanbgdhmfjgihaaGreatDoor
open Go.RowKit
set_option maxHeartbeats 12800000
set_option maxRecDepth 20000
theorem zrh (p:Option Addr) (cap:Nat) (w:World):Calls Tryz.prog 75 #[.slice p 0 cap,.func (.func 76) #[] #[]] w fun e w'=>e=.returned (.slice p 0 cap)∧w'=w:=by
 go_enter Tryz.func75,Tryz.ntmps75
 go_wp2_with fail
 go_ret
 exact ⟨rfl,rfl⟩
theorem zp4 (p:Option Addr) (cap:Nat) (w:World):Calls Tryz.prog 82 #[.slice p 0 cap] w fun e w'=>e=.returned (.slice p 0 cap)∧w'=w:=by
 go_enter Tryz.func82,Tryz.ntmps82
 go_wp2_with fail
 go_ret
 exact ⟨rfl,rfl⟩
theorem zw2 (p:Option Addr) (cap:Nat) (fv:Value) (w:World):Calls Tryz.prog 73 #[.slice p 0 cap,fv] w fun e w'=>e=.returned (.tuple #[])∧w'=w:=AnyF.slices_SortFunc_none Tryz.sortV p cap fv w
theorem zw3 (p:Option Addr) (cap:Nat) (fv:Value) (w:World):Calls Tryz.prog 79 #[.slice p 0 cap,fv] w fun e w'=>e=.returned (.tuple #[])∧w'=w:=AnyF.slices_SortFunc_none Tryz.sortR p cap fv w
theorem zw4 (p:Option Addr) (cap:Nat) (fv:Value) (w:World):Calls Tryz.prog 83 #[.slice p 0 cap,fv] w fun e w'=>e=.returned (.tuple #[])∧w'=w:=by
 have L:=Tryz.sortN
 exact AnyF.slices_SortFunc_none (ρ:=Tryz.sortN_ren) { L with } p cap fv w
theorem zl7 (p:Option Addr) (cap:Nat) (w:World):Calls Tryz.prog 40 #[.slice p 0 cap] w fun e w'=>e=.returned (.slice none 0 0)∧Below w.heap.size w w':=by
 have h1:=fun W=>zw2 none 0 (.func (.func 74) #[] #[]) W
 have h2:=fun W=>zrh none 0 W
 go_enter Tryz.func40,Tryz.ntmps40
 go_wp2_with fail
 go_loopw [3,11] (fun s i wr=>s=.slice none 0 0∧i=.int .i64 0∧Below w.heap.size w wr) (fun _ _ _=>0)
 case atStart=>exact ⟨rfl,rfl,Below.refl _ _⟩
 case round=>
  obtain ⟨rfl,rfl,hb⟩:=hrel
  go_wp2_with (first
   |(go_at_call 73;(with_reducible refine (h1 _).mono ?_);rintro e w3 ⟨rfl,rfl⟩)
   |(go_at_call 75;(with_reducible refine (h2 _).mono ?_);rintro e w3 ⟨rfl,rfl⟩))
  go_loopw [6,30] (fun s i wq=>s=.slice none 0 0∧i=.int .i64 0∧Below w.heap.size w wq) (fun _ _ _=>0)
  case atStart=>exact ⟨rfl,rfl,hb⟩
  case round=>
   obtain ⟨rfl,rfl,hb⟩:=hrel
   go_wp2_with fail
   go_ret
   exact ⟨rfl,hb⟩
theorem zl8 (pv:Option Addr) (n cv:Nat) (p:Option Addr) (cap:Nat) (w:World):Calls Tryz.prog 41 #[.slice pv n cv,.slice p 0 cap] w fun e w'=>e=.returned (.slice none 0 0)∧Below w.heap.size w w':=by
 obtain ⟨W0,hW0⟩:∃ W0,W0=w.alloc (.cells #[.slice pv n cv] 37):=⟨_,rfl⟩
 have b0:Below w.heap.size w W0:=by rw [hW0];exact zap _ _
 have h1:=fun W=>zw3 none 0 (.func (.func 80) #[] #[]) W
 have h2:=fun W=>zp4 none 0 W
 have HW:=Lib.hid hW0
 clear hW0
 go_enter Tryz.func41,Tryz.ntmps41
 go_wp2_with fail
 rw [← HW.out]
 go_loopw [6,12] (fun s i wr=>s=.slice none 0 0∧i=.int .i64 0∧wr=W0) (fun _ _ _=>0)
 case atStart=>exact ⟨rfl,rfl,rfl⟩
 case round=>
  obtain ⟨rfl,rfl,rfl⟩:=hrel
  go_wp2_with (first
   |(go_at_call 79;(with_reducible refine (h1 _).mono ?_);rintro e w3 ⟨rfl,rfl⟩)
   |(go_at_call 82;(with_reducible refine (h2 _).mono ?_);rintro e w3 ⟨rfl,rfl⟩))
  go_ret
  exact ⟨rfl,b0⟩
theorem zl9 (p:Option Addr) (cap:Nat) (u v z:Int) (w:World):Calls Tryz.prog 42 #[.slice p 0 cap,.agg #[.int .i64 u,.int .i64 v,.int .i64 z]] w fun e w'=>e=.returned (.slice none 0 0)∧Below w.heap.size w w':=by
 obtain ⟨W0,hW0⟩:∃ W0,W0=(w.alloc (.cells #[.slice p 0 cap] 71)).alloc (.cells #[.int .i64 u,.int .i64 v,.int .i64 z] 78):=⟨_,rfl⟩
 have b0:Below w.heap.size w W0:=by rw [hW0];exact zdx _ _ _
 have k2:W0.cell? ⟨w.heap.size,0,none⟩=some (.slice p 0 cap):=by rw [hW0];exact zab (zau _ (zag _ _ rfl)) 0 rfl
 have h1:=fun fv W=>zw4 none 0 fv W
 have HW:=Lib.hid hW0
 clear hW0
 go_enter Tryz.func42,Tryz.ntmps42
 go_upto_region 1 with fail
 rw [← HW.out]
 go_wp2_with fail
 go_loopw [5,9] (fun s i wr=>s=.slice none 0 0∧i=.int .i64 0∧wr=W0) (fun _ _ _=>0)
 case atStart=>exact ⟨rfl,rfl,rfl⟩
 case round=>
  obtain ⟨rfl,rfl,rfl⟩:=hrel
  go_wp2_with (first
   |(go_at_call 83;(with_reducible refine (h1 _ _).mono ?_);rintro e w3 ⟨rfl,rfl⟩))
  go_ret
  exact ⟨rfl,b0⟩
def kd:Val→Int | .mk k _ _ _ _ _=>k
def zci (t:Tri3):Bool:=zbc (kd t.s) && zbd (kd t.p) && objP (kd t.o) && mayP t.s 0 && mayP t.p 0 && mayP t.o 0
theorem zeh {b:Bool} {n:Int} {t x:ByteArray} {l:List Val} (h:zbl b n t x l.length=true):l=[]:=by
 unfold zbl at h
 simp only [Bool.and_eq_true,decide_eq_true_eq] at h
 cases l with
 | nil=>rfl
 | cons a l=>simp at h
theorem zn5 {u:Val} (hk:objP (kd u)=true) (hm:mayP u 0=true):zdn u:=by
 obtain ⟨k,b,n,t,x,l⟩:=u
 have hl:l=[]:=by
  unfold mayP zbh at hm
  simp only [kd,objP,Bool.or_eq_true,beq_iff_eq] at hk
  rcases hk with (((((h | h) | h) | h) | h) | h) | h <;> subst h <;> simp only [] at hm <;> simp at hm
  ·exact zeh hm.2
  ·exact zeh hm.2
  ·exact zeh hm.2.2
  ·exact zeh hm.2
  ·exact zeh hm
  ·exact zeh hm
  ·exact zeh hm.2
 exact ⟨k,b,n,t,x,by rw [hl]⟩
theorem zdm {t:Tri3} (h:zci t=true):(zdn t.s∧mayP t.s 0=true)∧(zdn t.p∧mayP t.p 0=true)∧(zdn t.o∧mayP t.o 0=true):=by
 unfold zci at h
 simp only [Bool.and_eq_true] at h
 obtain ⟨⟨⟨⟨⟨h1,h2⟩,h3⟩,h4⟩,h5⟩,h6⟩:=h
 refine ⟨⟨zn5 ?_ h4,h4⟩,⟨zn5 ?_ h5,h5⟩,⟨zn5 h3 h6,h6⟩⟩
 ·unfold zbc at h1
  unfold objP
  simp only [Bool.or_eq_true] at h1 ⊢
  rcases h1 with h | h <;> simp [h]
 ·unfold zbd at h2
  unfold objP
  simp [h2]
theorem zds {l:List Tri3} {u:Val}:u∈flat l↔∃ t∈l,u=t.s∨u=t.p∨u=t.o:=by
 unfold flat
 simp [List.mem_flatMap,Tri3.l]
theorem zp5 {l:List Tri3} (h:∀ t∈l,zci t=true):∀ u∈flat l,zdn u∧mayP u 0=true:=fun u hu=>by
 obtain ⟨t,ht,e⟩:=zds.1 hu
 obtain ⟨h1,h2,h3⟩:=zdm (h t ht)
 rcases e with rfl | rfl | rfl
 ·exact h1
 ·exact h2
 ·exact h3
def Hi (base:Nat) (p:Option Addr):Prop:=∀ g o,p=some ⟨g,o,none⟩→base≤g∧o=0
theorem zri (base:Nat):Hi base none:=fun _ _ h=>by cases h
theorem zrj {base g:Nat} (h:base≤g):Hi base (some ⟨g,0,none⟩):=fun _ _ e=>by cases e;exact ⟨h,rfl⟩
theorem Hi.mono {b b':Nat} {p:Option Addr} (h:Hi b p) (hb:b'≤b):Hi b' p:=fun g o e=>⟨Nat.le_trans hb (h g o e).1,(h g o e).2⟩
def SVG (w:World) (l:List Tri3) (e:Ending) (w':World):Prop:=∃ vs p cap,e=.returned (.slice p vs.length cap)∧Rise vs∧(∀ u,u∈vs↔u∈flat l)∧zle w' p vs∧Hi w.heap.size p∧vs.length≤3*l.length∧Below w.heap.size w w'
theorem zrk (l:List Tri3) (L:Value) (w:World) (hG:Gd w) (hT:Tab w) (hl:Tris w L l) (hn:l.length≤65536) (hg:∀ t∈l,zci t=true):Calls Tryz.prog 40 #[L] w (SVG w l):=by
 obtain ⟨p,cap,rfl,h1⟩:=hl
 cases l with
 | nil=>
   refine (zl7 p cap w).mono ?_
   rintro e w' ⟨rfl,hb⟩
   exact ⟨[],none,0,rfl,fun i j _ h=>absurd h (by simp),fun u=>by simp [flat],fun h=>absurd rfl h,zri _,Nat.zero_le _,hb⟩
 | cons t l=>
   obtain ⟨g,off,rfl,hh⟩:=h1 (by simp)
   refine (zl4 (t::l) g off cap w hG hT hh (by omega) (by simp) (zp5 hg)).mono ?_
   rintro e w' ⟨vs,g',cap',rfl,h1,h2,h3,h4,_,h5,h6⟩
   exact ⟨vs,_,cap',rfl,h1,h2,fun _=>⟨g',0,rfl,h3⟩,zrj h4,h5,h6⟩
def R3.lt (a b:R3):Prop:=VR.cf a.vr b.vr < 0
def SRG (w:World) (vs:List Val) (l:List Tri3) (e:Ending) (w':World):Prop:=∃ (R:List R3) (p:Option Addr) (cap:Nat),e=.returned (.slice p R.length cap)∧R.Pairwise R3.lt∧(∀ r,r∈R↔∃ t∈l,rowOf vs t=r.vr)∧zm5 w' p R∧Hi w.heap.size p∧R.length≤l.length∧Below w.heap.size w w'
def VR.r3 (r:VR):R3:=⟨r.a.toNat,r.b.toNat,r.c.toNat⟩
theorem z0w (vs:List Val) (t:Tri3):(rowOf vs t).r3.vr=rowOf vs t:=by
 unfold VR.r3 R3.vr rowOf
 simp
theorem vr_r3 (r:R3):r.vr.r3=r:=by
 unfold VR.r3 R3.vr
 simp
theorem zrl (l:List Tri3) (L:Value) (vs:List Val) (pv:Option Addr) (cv:Nat) (w:World) (hG:Gd w) (hT:Tab w) (hl:Tris w L l) (hn:l.length≤65536) (hvs:zle w pv vs) (hr:Rise vs) (hv:∀ u,u∈vs↔u∈flat l) (hvn:vs.length≤3*l.length)
 (h0:∀ g o,pv=some ⟨g,o,none⟩→o=0):Calls Tryz.prog 41 #[.slice pv vs.length cv,L] w (SRG w vs l):=by
 obtain ⟨p,cap,rfl,h1⟩:=hl
 cases l with
 | nil=>
   refine (zl8 pv vs.length cv p cap w).mono ?_
   rintro e w' ⟨rfl,hb⟩
   exact ⟨[],none,0,rfl,List.Pairwise.nil,fun r=>by simp,fun h=>absurd rfl h,zri _,Nat.zero_le _,hb⟩
 | cons t l=>
   obtain ⟨g,off,rfl,hh⟩:=h1 (by simp)
   have hne:vs≠[]:=fun e=>by
    have:=(hv t.s).2 (by rw [zbv];exact List.mem_cons_self ..)
    rw [e] at this
    exact absurd this (by simp)
   obtain ⟨gv,ov,rfl,hvh⟩:=hvs hne
   obtain rfl:=h0 gv ov rfl
   refine (zl5 (t::l) vs g off cap gv cv w hG hT hh (by omega) (by simp) hvh hr (fun u hu=>(hv u).2 hu) (by omega)).mono ?_
   rintro e w' ⟨rs,g',cap',rfl,h1,h2,h3,h4,_,h5,h6⟩
   have hback:∀ r∈rs,r.r3.vr=r:=fun r hr=>by
    obtain ⟨t,_,rfl⟩:=(h2 r).1 hr
    exact z0w vs t
   refine ⟨rs.map VR.r3,_,cap',by rw [List.length_map],?_,fun r=>?_,fun _=>⟨g',0,rfl,fun j h=>?_⟩,zrj h4,by rw [List.length_map];exact h5,h6⟩
   ·rw [List.pairwise_map]
    refine h1.imp_of_mem fun {a b} ha hb h=>?_
    unfold R3.lt
    rw [hback a ha,hback b hb]
    exact h
   ·rw [List.mem_map]
    constructor
    ·rintro ⟨a,ha,rfl⟩
     rw [hback a ha]
     exact (h2 a).1 ha
    ·rintro ⟨t,ht,e⟩
     exact ⟨r.vr,(h2 _).2 ⟨t,ht,e⟩,vr_r3 r⟩
   ·rw [List.length_map] at h
    have:=h3 j h
    have hb:=hback rs[j] (List.getElem_mem h)
    rw [← hb] at this
    rw [List.getElem_map,Nat.zero_add]
    exact this
structure Nums (R:List R3) (u v z:Nat) (ns:List Nat):Prop where
 perm:ns.Perm (List.range R.length)
 sort:ns.Pairwise (fun a b=>VR.cf (prow R u v z a) (prow R u v z b)≤0)
def SNG (w:World) (R:List R3) (u v z:Nat) (e:Ending) (w':World):Prop:=∃ (ns:List Nat) (p:Option Addr) (cap:Nat),e=.returned (.slice p ns.length cap)∧Nums R u v z ns∧zdq w' p ns∧Hi w.heap.size p∧Below w.heap.size w w'∧ns.length≤cap
theorem zrm (R:List R3) (pr:Option Addr) (cr u v z:Nat) (w:World) (hu:u < 3) (hv:v < 3) (hz:z < 3) (hn:R.length < 1073741824) (hR:zm5 w pr R) (h0:∀ g o,pr=some ⟨g,o,none⟩→o=0):
 Calls Tryz.prog 42 #[.slice pr R.length cr,.agg #[.int .i64 u,.int .i64 v,.int .i64 z]] w (SNG w R u v z):=by
 by_cases hne:R=[]
 ·subst hne
  refine (zl9 pr cr u v z w).mono ?_
  rintro e w' ⟨rfl,hb⟩
  exact ⟨[],none,0,rfl,⟨by simp,List.Pairwise.nil⟩,fun h=>absurd rfl h,zri _,hb,Nat.le_refl _⟩
 ·obtain ⟨g,o,rfl,hr⟩:=hR hne
  obtain rfl:=h0 g o rfl
  refine (zl6 R g cr u v z w (List.length_pos_iff.2 hne) hu hv hz hn (fun j h=>by have:=hr j h;rwa [Nat.zero_add] at this)).mono ?_
  rintro e w' ⟨ns,g',cap',rfl,h1,h2,h3,h4,h5,h6⟩
  exact ⟨ns,_,cap',rfl,⟨h1,h2⟩,fun _=>⟨g',0,rfl,fun j h=>by rw [Nat.zero_add];exact h3 j h⟩,zrj h4,h5,h6⟩
theorem za6.r18 {w:World} {g:Nat} {s p o:V6} (h:za6 w g s p o):w.rangeAt g 0 [.int .i64 s.k,.bool s.b,.int .i64 s.n,.string s.t,.string s.x,.slice s.p s.len s.cap,.int .i64 p.k,.bool p.b,.int .i64 p.n,.string p.t,.string p.x,.slice p.p p.len p.cap,.int .i64 o.k,.bool o.b,.int .i64 o.n,.string o.t,.string o.x,.slice o.p o.len o.cap]:=fun i v hv=>by
 rw [Nat.zero_add]
 exact zab h i (by simpa using hv)
theorem zc9 {W:World} {L:Value} {l:List Tri3} (h:Tris W L l):∃ p cap,L=.slice p l.length cap:=by
 obtain ⟨p,cap,e,_⟩:=h
 exact ⟨p,cap,e⟩
theorem zip {W:World} {s p o:V6} {us up uo:Val} {ls lp lo:List Val} (hs:Is W s us ls) (hp:Is W p up lp) (ho:Is W o uo lo):chkP s p o us up uo=zci ⟨us,up,uo⟩:=by
 unfold chkP zci
 rw [show kd us=s.k by rw [hs.e];rfl,show kd up=p.k by rw [hp.e];rfl,show kd uo=o.k by rw [ho.e];rfl]
structure zbf (l:List Tri3) (s:SM):Prop where
 rise:Rise s.vs
 mem:∀ u,u∈s.vs↔u∈flat l
 rows:s.rs.Pairwise R3.lt
 rmem:∀ r,r∈s.rs↔∃ t∈l,rowOf s.vs t=r.vr
 nums:∀ k,k < 6→Nums s.rs (lev k).1 (lev k).2.1 (lev k).2.2 (s.ls k)
 none:∀ k,6≤k→s.ls k=[]
 nv:s.vs.length≤3*l.length
 nr:s.rs.length≤l.length
def zf3 (base:Nat) (W:World) (sp:Nat) (s:SM):Prop:=∃ pv pr cv cr pp cc,zcy W sp s pv pr cv cr pp cc∧base≤sp∧Hi base pv∧Hi base pr∧(∀ k,k < 6→Hi base (pp k))∧∀ k,k < 6→(s.ls k).length≤cc k
theorem zf3.at_ {base:Nat} {W:World} {sp:Nat} {s:SM} (h:zf3 base W sp s):ze7 W sp s:=by
 obtain ⟨pv,pr,cv,cr,pp,cc,k,_⟩:=h
 exact ⟨pv,pr,cv,cr,pp,cc,k⟩
def z0x (w:World) (l:List Tri3) (e:Ending) (w':World):Prop:=∃ sp s,e=.returned (.tuple #[.pointer (some ⟨sp,0,none⟩),.int .i64 0])∧zf3 w.heap.size w' sp s∧zbf l s∧Below w.heap.size w w'
def zw5 (w:World) (e:Ending) (w':World):Prop:=e=.returned (.tuple #[.pointer none,.int .i64 20])∧Below w.heap.size w w'
structure GL (vs:List Val) (R:List R3) (pv pr:Option Addr) (cv cr:Nat) (k:Nat) (w2 wr:World):Prop where
 h:∃ (pp:Nat→Option Addr) (cc:Nat→Nat) (ls:Nat→List Nat),wr.heap[w2.heap.size]?=some (.cells #[.slice pv vs.length cv,.slice pr R.length cr,.slice (pp 0) (ls 0).length (cc 0),.slice (pp 1) (ls 1).length (cc 1),.slice (pp 2) (ls 2).length (cc 2),.slice (pp 3) (ls 3).length (cc 3),.slice (pp 4) (ls 4).length (cc 4),.slice (pp 5) (ls 5).length (cc 5)] 76)∧(∀ i,i < k→Nums R (lev i).1 (lev i).2.1 (lev i).2.2 (ls i)∧zdq wr (pp i) (ls i)∧Hi (w2.heap.size+1) (pp i)∧(ls i).length≤cc i)∧(∀ i,k≤i→pp i=none∧cc i=0∧ls i=[])
 b:Below w2.heap.size w2 wr
theorem zw6 (a b:Value) (pp:Nat→Option Addr) (cc:Nat→Nat) (ls:Nat→List Nat) (k:Nat) (hk:k < 6) (pn:Option Addr) (ns:List Nat) (cn:Nat):
 (#[a,b,.slice (pp 0) (ls 0).length (cc 0),.slice (pp 1) (ls 1).length (cc 1),.slice (pp 2) (ls 2).length (cc 2),.slice (pp 3) (ls 3).length (cc 3),.slice (pp 4) (ls 4).length (cc 4),.slice (pp 5) (ls 5).length (cc 5)]:Array Value).setIfInBounds (2+k) (.slice pn ns.length cn)=#[a,b,.slice (if 0=k then pn else pp 0) (if 0=k then ns else ls 0).length (if 0=k then cn else cc 0),.slice (if 1=k then pn else pp 1) (if 1=k then ns else ls 1).length (if 1=k then cn else cc 1),.slice (if 2=k then pn else pp 2) (if 2=k then ns else ls 2).length (if 2=k then cn else cc 2),.slice (if 3=k then pn else pp 3) (if 3=k then ns else ls 3).length (if 3=k then cn else cc 3),.slice (if 4=k then pn else pp 4) (if 4=k then ns else ls 4).length (if 4=k then cn else cc 4),.slice (if 5=k then pn else pp 5) (if 5=k then ns else ls 5).length (if 5=k then cn else cc 5)]:=by
 match k,hk with
 | 0,_ | 1,_ | 2,_ | 3,_ | 4,_ | 5,_=>rfl
theorem zw7 (a b:Value) (pp:Nat→Option Addr) (cc:Nat→Nat) (ls:Nat→List Nat) (k:Nat) (hk:k < 6) (h:pp k=none∧cc k=0∧ls k=[]):
 (#[a,b,.slice (pp 0) (ls 0).length (cc 0),.slice (pp 1) (ls 1).length (cc 1),.slice (pp 2) (ls 2).length (cc 2),.slice (pp 3) (ls 3).length (cc 3),.slice (pp 4) (ls 4).length (cc 4),.slice (pp 5) (ls 5).length (cc 5)]:Array Value)[2+k]?=some (.slice none 0 0):=by
 obtain ⟨h1,h2,h3⟩:=h
 match k,hk with
 | 0,_ | 1,_ | 2,_ | 3,_ | 4,_ | 5,_=>
   simp [h1,h2,h3]
theorem lev_lt (k:Nat):(lev k).1 < 3∧(lev k).2.1 < 3∧(lev k).2.2 < 3:=by
 unfold lev
 split <;> decide
theorem zdq.only {W W':World} {p:Option Addr} {l:List Nat} {b:Nat} (h:zdq W p l) (o:Only b W W') (hb:∀ g o,p=some ⟨g,o,none⟩→g≠b):zdq W' p l:=fun hn=>by
 obtain ⟨g,o',e,k⟩:=h hn
 refine ⟨g,o',e,fun j hj=>?_⟩
 have hlt:=World.block_lt_of_cell? W _ (k j hj)
 have hbk:=o.block g hlt (hb g o' e)
 rw [World.cell?_of_block (w':=W') (w:=W) (a:=⟨g,o'+j,none⟩) hbk]
 exact k j hj
theorem loadBig (p:Option Addr) (n cap:Nat) (w:World) (hn:65536 < n):Calls Tryz.prog 10 #[.slice p n cap] w (zw5 w):=by
 have hni:(65536:Int) < n:=by omega
 go_enter Tryz.func10,Tryz.ntmps10
 go_wp2_with fail
 go_ret2
 exact ⟨rfl,Below.refl _ _⟩
theorem zw8 (L:Value) (l:List Tri3) (w:World) (hG:Gd w) (hT:Tab w) (hl:Tris w L l) (hn:l.length≤65536):
 Calls Tryz.prog 10 #[L] w fun e w'=>((∀ t∈l,zci t=true)→z0x w l e w')∧(¬ (∀ t∈l,zci t=true)→zw5 w e w'):=by
 obtain ⟨p0,cap,rfl⟩:=zc9 hl
 obtain ⟨n,hln⟩:∃ n,n=l.length:=⟨_,rfl⟩
 rw [← hln] at hn ⊢
 have hni:¬ (65536:Int) < n:=by omega
 have HL:=Lib.hid hln
 have HH:=Lib.hid hl
 have HG:=Lib.hid hG
 have HT:=Lib.hid hT
 clear hl hln hG hT
 go_enter Tryz.func10,Tryz.ntmps10
 go_wp2_with fail
 go_loopg [14] n (fun gg s14 wr=>∃ j:Nat,j+gg=n∧s14=.int .i64 j∧Hid (Below w.heap.size w wr)∧Hid (∀ (i:Nat) (h:i < l.length),i < j→zci l[i]=true))
 case atStart=>exact ⟨0,by omega,rfl,Lib.hid (Below.refl _ _),Lib.hid fun _ _ h=>absurd h (by omega)⟩
 case round=>
  obtain ⟨j,hjg,rfl,HB,HA⟩:=hrel
  by_cases hlt:(j:Int) < n
  ·have hj1:j < l.length:=by have:=HL.out;omega
   obtain ⟨g,off,rfl,hh⟩:∃ g off,p0=some ⟨g,off,none⟩∧zaq w g off (flat l):=by
    obtain ⟨p1,cap1,e,h1⟩:=HH.out
    obtain ⟨g,off,e2,h2⟩:=h1 (by intro e;rw [e] at hj1;exact absurd hj1 (by simp))
    injection e with e3 _ _
    exact ⟨g,off,by rw [e3];exact e2,h2⟩
   obtain ⟨s,p,o,ls,lp,lo,is,ip,io,ra⟩:=zdk (zaq.below _ hh HB.out) j hj1
   obtain ⟨r,hr⟩:∃ r,r=zci l[j]:=⟨_,rfl⟩
   have hc:∀ W,Below wr.heap.size wr W→Calls Tryz.prog 13 #[.agg #[.int .i64 s.k,.bool s.b,.int .i64 s.n,.string s.t,.string s.x,.slice s.p s.len s.cap,.int .i64 p.k,.bool p.b,.int .i64 p.n,.string p.t,.string p.x,.slice p.p p.len p.cap,.int .i64 o.k,.bool o.b,.int .i64 o.n,.string o.t,.string o.x,.slice o.p o.len o.cap]] W fun e w'=>e=.returned (.bool r)∧Low W.heap.size W w':=fun W hb=>by
    have:=ziw s p o _ _ _ ls lp lo W ((HG.out.below HB.out).below hb) (is.below hb) (ip.below hb) (io.below hb)
    rw [zip is ip io] at this
    rw [hr]
    exact this
   have HC:=Lib.hid hc
   have HR:=Lib.hid hr
   have hbs:=HB.out.size
   clear hc hr is ip io hh
   go_upto_region 6 with (first
    |((with_reducible refine zbe (.tmp 16) g (off+j*18) s p o ra ?_ ?_ ?_ ?_);rfl;rfl;rfl)
    |((with_reducible refine zdw (.tmp 5) (.tmp 17) wr.heap.size s p o (zag _ _ rfl) rfl ?_ ?_ ?_ ?_ ?_);rfl;rfl;rfl;rfl;intro wX hoX B))
   have bX:Below wr.heap.size wr wX:=zai (zap wr _) hoX (Nat.le_refl _) (by simp)
   have hcX:=HC.out wX bX
   have HBX:=Lib.hid bX
   have B18:=B.r18
   have HCX:=Lib.hid hcX
   clear hoX ra bX HC hcX
   cases r with
   | true=>
     go_wp2_with (first
      |((with_reducible refine zbe (.tmp 5) wr.heap.size 0 s p o B18 ?_ ?_ ?_ ?_);rfl;rfl;rfl)
      |(go_at_call 13;(with_reducible refine HCX.out.mono ?_);rintro e w3 ⟨rfl,hb3⟩))
     have HB2:Hid (Below w.heap.size w w3):=Lib.hid ((HB.out.trans (HBX.out.mono hbs)).trans (hb3.is.mono (Nat.le_trans hbs HBX.out.size)))
     clear hb3 HBX
     go_wp2_with fail
     go_roundg (gk - 1)
     case measure=>omega
     case rel=>
      refine ⟨j+1,by omega,by go_num,HB2,Lib.hid fun i h hi=>?_⟩
      by_cases e:i=j
      ·subst e;exact HR.out.symm
      ·exact HA.out i h (by omega)
   | false=>
     go_wp2_with (first
      |((with_reducible refine zbe (.tmp 5) wr.heap.size 0 s p o B18 ?_ ?_ ?_ ?_);rfl;rfl;rfl)
      |(go_at_call 13;(with_reducible refine HCX.out.mono ?_);rintro e w3 ⟨rfl,hb3⟩))
     have HB2:Hid (Below w.heap.size w w3):=Lib.hid ((HB.out.trans (HBX.out.mono hbs)).trans (hb3.is.mono (Nat.le_trans hbs HBX.out.size)))
     clear hb3 HBX
     go_wp2_with fail
     go_ret2
     refine ⟨fun h=>?_,fun _=>⟨rfl,HB2.out⟩⟩
     have:=h _ (List.getElem_mem hj1)
     rw [← HR.out] at this
     exact absurd this (by decide)
  ·have hjn:j=l.length:=by have:=HL.out;omega
   have hgood:∀ t∈l,zci t=true:=fun t ht=>by
    obtain ⟨i,hi,rfl⟩:=List.getElem_of_mem ht
    exact HA.out i hi (by omega)
   have hv:=zrk l _ wr (HG.out.below HB.out) (HT.out.below HB.out) (HH.out.below HB.out) (by have:=HL.out;omega) hgood
   rw [← HL.out] at hv
   have HV:=Lib.hid hv
   have HGOOD:=Lib.hid hgood
   clear hv hgood HA
   go_upto_region 10 with (first
    |(go_at_call 40;(with_reducible refine HV.out.mono ?_);rintro e1 w1 ⟨vs,pv,cv,rfl,hrise,hmem,hvals,hhv,hnv,hb1⟩))
   have b1:Below w.heap.size w w1:=HB.out.trans (hb1.mono HB.out.size)
   have hrr:=zrl l _ vs pv cv w1 (HG.out.below b1) (HT.out.below b1) (HH.out.below b1) (by have:=HL.out;omega) hvals hrise hmem hnv (fun g o e=>(hhv g o e).2)
   rw [← HL.out] at hrr
   have HRR:=Lib.hid hrr
   have HX1:=Lib.hid (And.intro hrise (And.intro hmem (And.intro hvals (And.intro (hhv.mono HB.out.size) (And.intro hnv b1)))))
   clear hrr hrise hmem hvals hhv hnv b1 hb1
   go_upto_region 11 with (first
    |(go_at_call 41;(with_reducible refine HRR.out.mono ?_);rintro e2 w2 ⟨R,pr,cr,rfl,hrows,hrmem,hrat,hhr,hnr,hb2⟩))
   obtain ⟨hrise,hmem,hvals,hhv,hnv,b1⟩:=HX1.out
   have s1:=b1.size
   have b2:Below w.heap.size w w2:=b1.trans (hb2.mono s1)
   have gl0:GL vs R pv pr cv cr 0 w2 (w2.alloc (.cells #[.slice pv vs.length cv,.slice pr R.length cr,.slice none 0 0,.slice none 0 0,.slice none 0 0,.slice none 0 0,.slice none 0 0,.slice none 0 0] 76)):=
    ⟨⟨fun _=>none,fun _=>0,fun _=>[],zag _ _ rfl,fun i hi=>absurd hi (by omega),fun i _=>⟨rfl,rfl,rfl⟩⟩,zap _ _⟩
   have HX2:=Lib.hid (And.intro hrows (And.intro hrmem (And.intro (hhr.mono s1) (And.intro hnr (And.intro b2 (And.intro (hvals.below hb2) hrat))))))
   have HG0:=Lib.hid gl0
   have hsp:w.heap.size≤w2.heap.size:=b2.size
   have hRn:R.length < 1073741824:=by have:=HL.out;omega
   have h01:∀ g o,pr=some ⟨g,o,none⟩→o=0:=fun g o e=>(hhr g o e).2
   have HZ:=Lib.hid h01
   clear gl0 b2 hb2 hrows hrmem hrat hhr hnr hrise hmem hvals hhv hnv b1 h01
   generalize w2.alloc (.cells #[.slice pv vs.length cv,.slice pr R.length cr,.slice none 0 0,.slice none 0 0,.slice none 0 0,.slice none 0 0,.slice none 0 0,.slice none 0 0] 76)=w4 at*
   go_wp2_with fail
   go_loopg [30] 6 (fun gg s30 wr=>∃ k:Nat,k+gg=6∧s30=.int .i64 k∧Hid (GL vs R pv pr cv cr k w2 wr))
   case atStart=>exact ⟨0,by omega,rfl,HG0⟩
   case round=>
    obtain ⟨k,hkg,rfl,HK⟩:=hrel
    by_cases hlt:(k:Int) < 6
    ·have hk:k < 6:=by omega
     obtain ⟨⟨pp,cc,ls,hcells,hdone,hrest⟩,hbel⟩:=HK.out
     obtain ⟨cs,hcs⟩:∃ cs:Array Value,cs=#[.slice pv vs.length cv,.slice pr R.length cr,.slice (pp 0) (ls 0).length (cc 0),.slice (pp 1) (ls 1).length (cc 1),.slice (pp 2) (ls 2).length (cc 2),.slice (pp 3) (ls 3).length (cc 3),.slice (pp 4) (ls 4).length (cc 4),.slice (pp 5) (ls 5).length (cc 5)]:=⟨_,rfl⟩
     rw [← hcs] at hcells
     have HC1:Hid (cs[1]?=some (.slice pr R.length cr)):=Lib.hid (by rw [hcs];rfl)
     have HC2:Hid (cs[2+k]?=some (.slice none 0 0)):=Lib.hid (by rw [hcs];exact zw7 _ _ pp cc ls k hk (hrest k (Nat.le_refl _)))
     have HCS:=Lib.hid (fun pn ns cn=>(congrArg (fun a:Array Value=>a.setIfInBounds (2+k) (.slice pn (ns:List Nat).length cn)) hcs).trans (zw6 _ _ pp cc ls k hk pn ns cn))
     have HLV:=Lib.hid (fun W=>zn4 k hk W)
     have hlv:=lev_lt k
     have hsn:∀ W,Below wr.heap.size wr W→Calls Tryz.prog 42 #[.slice pr R.length cr,.agg #[.int .i64 ((lev k).1:Nat),.int .i64 ((lev k).2.1:Nat),.int .i64 ((lev k).2.2:Nat)]] W (SNG W R (lev k).1 (lev k).2.1 (lev k).2.2):=fun W hb=>
      zrm R pr cr _ _ _ W hlv.1 hlv.2.1 hlv.2.2 hRn (HX2.out.2.2.2.2.2.2.below (hbel.trans (hb.mono hbel.size))) HZ.out
     have HSN:=Lib.hid hsn
     have HX3:=Lib.hid (And.intro hdone (And.intro hrest hbel))
     have hsw:=hbel.size
     clear hsn hdone hrest hbel hcs HK hlv
     have hk2:(k:Int) < 6:=by omega
     go_upto_region 14 with fail
     refine wp_region_held_drew (S:=fun W=>∃ cs',W.heap[w2.heap.size]?=some (.cells cs' 76)∧cs'[1]?=some (.slice pr R.length cr)) (by kernel_rfl) ⟨cs,hcells,HC1.out⟩ (fun hHeld=>?_)
     have M0:Below wr.heap.size wr wr.drew:=(Below.refl _ _).drew
     refine tg (i:=0) (.pointer (some ⟨w2.heap.size,0,none⟩)) rfl hHeld ?_
     refine tg (i:=1) (.int .i64 k) rfl hHeld ?_
     refine tg (i:=2) (.pointer (some ⟨w2.heap.size,0,none⟩)) rfl hHeld ?_
     refine tg (i:=3) (.pointer (some ⟨w2.heap.size,0,none⟩)) rfl hHeld ?_
     refine tg (i:=4) (.pointer (some ⟨w2.heap.size,1,none⟩)) rfl hHeld ?_
     refine tk (i:=5) (v:=.slice pr R.length cr) rfl (Or.inl ⟨by rfl,fun W h=>by obtain ⟨cs',h1,h2⟩:=h;have c0:=zab h1 1 h2;go_simp⟩) hHeld ?_
     refine tg (i:=6) (.int .i64 k) rfl hHeld ?_
     refine tg (i:=9) (.pointer (some ⟨w2.heap.size,0,none⟩)) rfl hHeld ?_
     refine tg (i:=10) (.pointer (some ⟨w2.heap.size,2,none⟩)) rfl hHeld ?_
     refine tr 7 rfl (fun K hK=>?_)
     rw [if_pos (by rfl)]
     go_simp
     refine (HLV.out _).mono ?_
     rintro e0 w3 ⟨rfl,hb3⟩
     have M1:=zak M0 hb3.is M0.size
     have hH1:=(hb3.block w2.heap.size (zac hcells)).trans hcells
     clear hb3
     refine hK.out _ _ ⟨cs,hH1,HC1.out⟩ (fun hHeld1=>?_)
     clear hK K
     try simp only [putS]
     refine tr 8 rfl (fun K hK=>?_)
     rw [if_pos (by rfl)]
     go_simp
     refine (HSN.out _ M1).mono ?_
     rintro e0 w3 ⟨ns,pn,cn,rfl,hnums,hnat,hhi,hb4,hcn⟩
     have M2:=zak M1 hb4 M1.size
     have hH2:=(hb4.block w2.heap.size (zac hH1)).trans hH1
     have HN:=Lib.hid (And.intro hnums (And.intro hnat (And.intro (hhi.mono M1.size) (And.intro M2 hcn))))
     clear hb4 hnums hnat hhi M1 M2 hcn
     refine hK.out _ _ ⟨cs,hH2,HC1.out⟩ (fun hHeld2=>?_)
     clear hK K
     try simp only [putS]
     refine tg (i:=11) (.pointer (some ⟨w2.heap.size,2+k,none⟩)) rfl hHeld2 ?_
     refine tr 12 rfl (fun K hK=>?_)
     have c0:=zab hH2 (2+k) HC2.out
     have f0:=zbs hH2 (2+k)
     go_simp
     have hS:=zba hH2 (2+k) (.slice pn ns.length cn)
     refine hK.out _ _ ⟨cs.setIfInBounds (2+k) (.slice pn ns.length cn),hS,by rw [Array.getElem?_setIfInBounds_ne (by omega)];exact HC1.out⟩ (fun _=>?_)
     clear hK K c0 f0
     try simp only [putS]
     refine wpAnyH_done (by kernel_rfl) ?_ _
     have acc:GL vs R pv pr cv cr (k+1) w2 (w3.setCell ⟨w2.heap.size,2+k,none⟩ (.slice pn ns.length cn)):=by
      obtain ⟨hdone,hrest,hbel⟩:=HX3.out
      obtain ⟨hnums,hnat,hhi,M2,hcn⟩:=HN.out
      have hlt:=zac hcells
      have on:Only w2.heap.size w3 (w3.setCell ⟨w2.heap.size,2+k,none⟩ (.slice pn ns.length cn)):=(Only.refl _ _).setCell _ _ _
      refine ⟨⟨fun i=>if i=k then pn else pp i,fun i=>if i=k then cn else cc i,fun i=>if i=k then ns else ls i,?_,fun i hi=>?_,fun i hi=>?_⟩,?_⟩
      ·rw [hS,HCS.out pn ns cn]
      ·by_cases e:i=k
       ·subst e
        simp only [if_true]
        exact ⟨hnums,hnat.only on (fun g o e=>by have:=(hhi g o e).1;omega),hhi.mono (by omega),hcn⟩
       ·simp only [if_neg e]
        obtain ⟨h1,h2,h3,h4⟩:=hdone i (by omega)
        exact ⟨h1,(h2.below M2).only on (fun g o e=>by have:=(h3 g o e).1;omega),h3,h4⟩
      ·have e:¬ i=k:=by omega
       simp only [if_neg e]
       exact hrest i (by omega)
      ·exact zf5 (hbel.trans (M2.mono hsw)) none _ (Nat.le_refl _) (Nat.le_trans hsw M2.size)
     have ACC:=Lib.hid acc
     clear acc hS hH2 hH1 hHeld2 HN HX3 HCS HC1 HC2 HLV HSN hcells M0
     generalize w3.setCell ⟨w2.heap.size,2+k,none⟩ (.slice pn ns.length cn)=w5 at*
     go_wp2_with fail
     go_roundg (gk - 1)
     case measure=>omega
     case rel=>exact ⟨k+1,by omega,by go_num,ACC⟩
    ·have hk:k=6:=by omega
     subst hk
     have hfin:z0x w l (.returned (.tuple #[.pointer (some ⟨w2.heap.size,0,none⟩),.int .i64 0])) wr:=by
      obtain ⟨⟨pp,cc,ls,hcells,hdone,hrest⟩,hbel⟩:=HK.out
      obtain ⟨hrows,hrmem,hhr,hnr,b2,hvals,hrat⟩:=HX2.out
      obtain ⟨hrise,hmem,_,hhv,hnv,_⟩:=HX1.out
      refine ⟨w2.heap.size,⟨vs,R,ls⟩,rfl,⟨pv,pr,cv,cr,pp,cc,⟨hcells,hvals.below hbel,hrat.below hbel,fun i hi=>(hdone i hi).2.1⟩,hsp,hhv,hhr,fun i hi=>((hdone i hi).2.2.1).mono (by omega),fun i hi=>(hdone i hi).2.2.2⟩,⟨hrise,hmem,hrows,hrmem,fun i hi=>(hdone i hi).1,fun i hi=>(hrest i hi).2.2,hnv,hnr⟩,b2.trans (hbel.mono hsp)⟩
     have HF:=Lib.hid hfin
     clear hfin HK
     go_wp2_with fail
     go_ret2
     refine ⟨fun _=>HF.out,?_⟩
     intro t ht e
     rw [HGOOD.out t ht] at e
     cases e
theorem zw9 {a b:Int} (h:lexI a b≤0):a≤0∧(a=0→b≤0):=by
 unfold lexI at h
 by_cases e:a=0
 ·rw [if_pos e] at h
  exact ⟨by omega,fun _=>h⟩
 ·rw [if_neg e] at h
  exact ⟨h,fun e2=>absurd e2 e⟩
theorem zrn {a b:Int} (h:cmpZ a b≤0):a≤b:=by
 unfold cmpZ at h
 by_cases e:a < b
 ·omega
 ·rw [if_neg e] at h
  by_cases e2:b < a
  ·rw [if_pos e2] at h
   omega
  ·omega
theorem zs1 (a:Int):cmpZ a a=0:=by
 unfold cmpZ
 rw [if_neg (by omega),if_neg (by omega)]
theorem zxa {a b:VR} (h:VR.cf a b≤0):a.a≤b.a∧(a.a=b.a→a.b≤b.b∧(a.b=b.b→a.c≤b.c)):=by
 unfold VR.cf rowI at h
 obtain ⟨h1,h2⟩:=zw9 h
 refine ⟨zrn h1,fun e=>?_⟩
 obtain ⟨h3,h4⟩:=zw9 (h2 (by rw [e];exact zs1 _))
 exact ⟨zrn h3,fun e2=>zrn (h4 (by rw [e2];exact zs1 _))⟩
section
variable {l:List Tri3} {s:SM}
theorem zbf.row (h:zbf l s) (r:R3) (hr:r∈s.rs):∃ t∈l,s.vs[r.a]?=some t.s∧s.vs[r.b]?=some t.p∧s.vs[r.c]?=some t.o:=by
 obtain ⟨t,ht,e⟩:=(h.rmem r).1 hr
 have m1:t.s∈s.vs:=(h.mem _).2 (zds.2 ⟨t,ht,.inl rfl⟩)
 have m2:t.p∈s.vs:=(h.mem _).2 (zds.2 ⟨t,ht,.inr (.inl rfl)⟩)
 have m3:t.o∈s.vs:=(h.mem _).2 (zds.2 ⟨t,ht,.inr (.inr rfl)⟩)
 unfold rowOf R3.vr at e
 injection e with e1 e2 e3
 refine ⟨t,ht,?_,?_,?_⟩
 ·rw [show r.a=vidx s.vs t.s by omega];exact zfa m1
 ·rw [show r.b=vidx s.vs t.p by omega];exact zfa m2
 ·rw [show r.c=vidx s.vs t.o by omega];exact zfa m3
theorem zbf.len (h:zbf l s) (k:Nat) (hk:k < 6):(s.ls k).length=s.rs.length:=by
 rw [(h.nums k hk).perm.length_eq,List.length_range]
theorem zbf.lt (h:zbf l s) (k:Nat) (x:Nat) (hx:x∈s.ls k):x < s.rs.length:=by
 by_cases hk:k < 6
 ·exact List.mem_range.1 ((h.nums k hk).perm.mem_iff.1 hx)
 ·rw [h.none k (by omega)] at hx
  exact absurd hx (by simp)
theorem zbf.ok (h:zbf l s) (hl:l.length≤65536):SMok s where
 r x hx:=by
  obtain ⟨t,_,h1,h2,h3⟩:=h.row x hx
  exact ⟨(List.getElem?_eq_some_iff.1 h1).1,(List.getElem?_eq_some_iff.1 h2).1,(List.getElem?_eq_some_iff.1 h3).1⟩
 l k x hx:=h.lt k x hx
 nv:=by have:=h.nv;omega
 nr:=by have:=h.nr;omega
 nl k:=by
  have:=h.nr
  by_cases hk:k < 6
  ·rw [h.len k hk];omega
  ·rw [h.none k (by omega)]
   simp
theorem zs2 (s:SM) (k u v z i:Nat) (hi:i < (s.ls k).length):prow s.rs u v z (s.ls k)[i]=⟨(s.num k u i:Nat),(s.num k v i:Nat),(s.num k z i:Nat)⟩:=by
 unfold prow SM.num
 rw [List.getElem?_eq_getElem hi]
 rfl
theorem zbf.cf (h:zbf l s) (k:Nat) (hk:k < 6) (i j:Nat) (hij:i≤j) (hj:j < (s.ls k).length):
 s.num k (lev k).1 i≤s.num k (lev k).1 j∧(s.num k (lev k).1 i=s.num k (lev k).1 j→s.num k (lev k).2.1 i≤s.num k (lev k).2.1 j∧(s.num k (lev k).2.1 i=s.num k (lev k).2.1 j→s.num k (lev k).2.2 i≤s.num k (lev k).2.2 j)):=by
 rcases Nat.lt_or_ge i j with q | q
 ·have:=zxa (List.pairwise_iff_getElem.1 (h.nums k hk).sort i j (by omega) hj q)
  rw [zs2 s k _ _ _ i (by omega),zs2 s k _ _ _ j hj] at this
  simp only at this
  refine ⟨by omega,fun e=>?_⟩
  have h2:=this.2 (by omega)
  exact ⟨by omega,fun e2=>by have:=h2.2 (by omega);omega⟩
 ·obtain rfl:i=j:=by omega
  exact ⟨Nat.le_refl _,fun _=>⟨Nat.le_refl _,fun _=>Nat.le_refl _⟩⟩
theorem zbf.so (h:zbf l s):zim s where
 v:=h.rise
 m0 k hk i j hij hj:=(h.cf k hk i j hij hj).1
 m1 k hk i j hij hj e:=((h.cf k hk i j hij hj).2 e).1
 m2 k hk i j hij hj e e2:=((h.cf k hk i j hij hj).2 e).2 e2
theorem zbf.plain (h:zbf l s) (hg:∀ t∈l,zci t=true) (u:Val) (hu:u∈s.vs):zdn u∧mayP u 0=true:=zp5 hg u ((h.mem u).1 hu)
end
end Go.Proofs.YtanbgdhmfjgihaaGreatDoor
