/- Texts of one kind, one behind the other: each says ahead of itself what it shows. -/
import Derived.Test.YteclpnfckjfibaaGreatDoorBaz
import Derived.Lib.SmallJoins
import Derived.HandedShaped
import Derived.WideShapes
import Derived.Test.YteclpnfckjfibaaGreatDoorBay
import Derived.Test.YteclpnfckjfibaaGreatDoorBae
import Derived.Test.YteclpnfckjfibaaGreatDoorBai
import Derived.Test.YteclpnfckjfibaaGreatDoorBas
import Derived.Test.YteclpnfckjfibaaGreatDoorBah
import Derived.Test.YteclpnfckjfibaaGreatDoorBak
/- GR -/
namespace Go.Proofs.YteclpnfckjfibaaGreatDoor
open Go.RowKit Go.ChangeShapes Go.WideShapes
theorem zba.lt {w:World} {g off:Nat}:(v:Val)→zba w g off v→g < w.heap.size
 | .mk k b n t x l,h=>by
   unfold zba at h
   exact World.block_lt_of_cell? w _ h.1
mutual
theorem zba.old {w:World} {g off:Nat}:(v:Val)→zba w g off v→zbc w (Old w) g off v
 | .mk k b n t x l,h=>by
   unfold zba at h
   unfold zbc
   obtain ⟨h0,h1,h2,h3,h4,hf,L,h5,hl⟩:=h
   exact ⟨h0,h1,h2,h3,h4,hf,L,h5,Held.old l hl⟩
theorem Held.old {w:World} {L:Value}:(l:List Val)→Held w L l→zbe w (Old w) L l
 | [],h=>by
   unfold Held at h
   unfold zbe
   exact h
 | v::r,h=>by
   unfold Held at h
   unfold zbe
   obtain ⟨g,off,cap,e,hv,hr⟩:=h
   exact ⟨g,off,cap,e,zba.lt v hv,zba.old v hv,zb2.old r hr⟩
theorem zb2.old {w:World} {g off:Nat}:(l:List Val)→zb2 w g off l→zb3 w (Old w) g off l
 | [],_=>by unfold zb3;trivial
 | v::r,h=>by
   unfold zb2 at h
   unfold zb3
   exact ⟨zba.old v h.1,zb2.old r h.2⟩
end
theorem zpw {w:World} {g o:Nat} {a b:List Value} (h:w.rangeAt g o a) (k:w.rangeAt g (o+a.length) b):w.rangeAt g o (a++b):=fun j u hj=>by
 by_cases q:j < a.length
 ·rw [List.getElem?_append_left q] at hj
  exact h j u hj
 ·rw [List.getElem?_append_right (by omega)] at hj
  have:=k (j - a.length) u hj
  rwa [show o+a.length+(j - a.length)=o+j by omega] at this
theorem RowE.imp {α:Type} {E E':Elem α} {w:World} {P:Nat→Prop} (hi:∀ c a,E.rel w P c a→E'.rel w P c a):{xs:List Value}→(l:List α)→RowE E w P xs l→RowE E' w P xs l
 | _,[],h=>by
   unfold RowE at h ⊢
   exact h
 | _,a::l,h=>by
   unfold RowE at h ⊢
   obtain ⟨c,ys,e,hc,hr⟩:=h
   exact ⟨c,ys,e,hi c a hc,RowE.imp hi l hr⟩
theorem RowE.each {α:Type} {E:Elem α} {w:World} {P:Nat→Prop}:{xs:List Value}→(l:List α)→RowE E w P xs l→∀ a∈l,∃ c,E.rel w P c a
 | _,[],_,a,h=>by simp at h
 | _,b::l,h,a,ha=>by
   unfold RowE at h
   obtain ⟨c,ys,e,hc,hr⟩:=h
   rcases List.mem_cons.1 ha with q | q
   ·subst q
    exact ⟨c,hc⟩
   ·exact RowE.each l hr a q
theorem zaf.imp {α:Type} {E E':Elem α} {w:World} {P:Nat→Prop} {v:Value} {l:List α} (hi:∀ c a,E.rel w P c a→E'.rel w P c a) (h:zaf E w P v l):zaf E' w P v l:=by
 obtain ⟨p,cap,e,hh⟩:=h
 refine ⟨p,cap,e,fun hne=>?_⟩
 obtain ⟨g,off,xs,h1,h2,h3,h4⟩:=hh hne
 exact ⟨g,off,xs,h1,h2,h3,RowE.imp hi l h4⟩
theorem zaf.each {α:Type} {E:Elem α} {w:World} {P:Nat→Prop} {v:Value} {l:List α} (h:zaf E w P v l):∀ a∈l,∃ c,E.rel w P c a:=by
 obtain ⟨p,cap,e,hh⟩:=h
 intro a ha
 obtain ⟨g,off,xs,h1,h2,h3,h4⟩:=hh (List.ne_nil_of_mem ha)
 exact RowE.each l h4 a ha
def zyq:Elem (List Val) where
 k:=1
 rel:=fun w P xs r=>rowE.rel w P xs r∧wAll r≤2097152
 len:=fun h=>rowE.len h.1
 one:=fun h=>rowE.one h.1
 stays:=fun s h=>⟨rowE.stays s h.1,h.2⟩
section
variable {H:Type} {enc:TypeId × Value→H}
theorem ztq {W:World} {B n ty ety size:Nat} {L:Value} {y:DataW H × List MemPlace} (hu:Tryz.prog.underlying ty=some (.slice ety)) (hsz:Tryz.prog.cellsOf ety=size) (h0s:0 < size)
 (h:DataW.trod enc Tryz.prog W 0 (fun _=>true) true n ty [L]=some y) (hB:Rows.uptoBulk y.1≤B):
 ∃ p len cap,L=.slice p len cap∧len≤B∧(len=0∨∃ g off,p=some ⟨g,off,none⟩∧∀ i,i < len→∃ n' cs yi,DataW.trod enc Tryz.prog W 0 (fun _=>true) true n' ety cs=some yi∧Rows.uptoBulk yi.1≤B∧∀ j,j < size→W.cell? ⟨g,off+i*size+j,none⟩=cs[j]?):=by
 cases n with
 | zero=>simp [DataW.trod] at h
 | succ n0=>
   rcases DataW.trod_slice hu h with ⟨e,_⟩ | ⟨a,len,cap,elems,rest,n1,hn,e,rfl,hb,hl,hm,hlen,hel,_,_⟩
   ·obtain rfl:L=.slice none 0 0:=by simpa using e
    exact ⟨none,0,0,rfl,Nat.zero_le _,.inl rfl⟩
   ·obtain rfl:L=.slice (some a) len cap:=by simpa using e
    rw [hsz] at hel
    have hE1:Rows.uptoBulkAll (elems.map (·.1))+Rows.uptoBulkAll (rest.map (·.1))+1≤B:=hB
    have hE:Rows.uptoBulkAll (elems.map (·.1))≤B:=by omega
    have hln:len≤B:=by
     have:=znq (elems.map (·.1))
     simp only [List.length_map] at this
     omega
    have each:∀ i,i < len→∃ n' cs yi,DataW.trod enc Tryz.prog W 0 (fun _=>true) true n' ety cs=some yi∧Rows.uptoBulk yi.1≤B∧∀ j,j < size→W.cell? ((a.add (i*size)).add j)=cs[j]?∧cs.length=size:=by
     intro i hi
     have h1:=hel i hi
     have hi':i < elems.length:=by omega
     rw [List.getElem?_eq_getElem hi',Option.bind_eq_some_iff] at h1
     obtain ⟨cs,hcs,hy⟩:=h1
     obtain ⟨c1,c2⟩:=zms hcs
     exact ⟨_,cs,_,hy,Nat.le_trans (znp (List.mem_map_of_mem (List.getElem_mem hi'))) hE,fun j hj=>⟨c2 j hj,c1⟩⟩
    refine ⟨some a,len,cap,rfl,hln,?_⟩
    by_cases h0:len=0
    ·exact .inl h0
    ·right
     have hsp:a.spot=none:=by
      obtain ⟨n',cs,yi,_,_,hc⟩:=each 0 (by omega)
      have hc0:=hc 0 h0s
      obtain ⟨z,hz⟩:∃ z,cs[0]?=some z:=⟨_,List.getElem?_eq_getElem (by rw [hc0.2];exact h0s)⟩
      have h0:=hc0.1.trans hz
      cases kk:a.spot with
      | none=>rfl
      | some mm=>
        rw [show (a.add (0*size)).add 0=a by simp [Addr.add]] at h0
        unfold World.cell? at h0
        rw [kk] at h0
        split at h0 <;> simp at h0
     obtain ⟨g,off,spot⟩:=a
     simp only at hsp
     subst hsp
     refine ⟨g,off,rfl,fun i hi=>?_⟩
     obtain ⟨n',cs,yi,h1,h2,h3⟩:=each i hi
     refine ⟨n',cs,yi,h1,h2,fun j hj=>?_⟩
     have:=(h3 j hj).1
     rwa [zil,zil] at this
theorem zez {α:Type} {E:Elem α} {W:World} {B n ty ety:Nat} {L:Value} {y:DataW H × List MemPlace} (hu:Tryz.prog.underlying ty=some (.slice ety)) (hsz:Tryz.prog.cellsOf ety=E.k) (h0:0 < E.k)
 (each:∀ (n':Nat) (cs:List Value) (yi:DataW H × List MemPlace),DataW.trod enc Tryz.prog W 0 (fun _=>true) true n' ety cs=some yi→Rows.uptoBulk yi.1≤B→∃ a,E.rel W (Old W) cs a)
 (h:DataW.trod enc Tryz.prog W 0 (fun _=>true) true n ty [L]=some y) (hB:Rows.uptoBulk y.1≤B):∃ l,zaf E W (Old W) L l∧l.length≤B:=by
 obtain ⟨p,len,cap,rfl,hln,hh⟩:=ztq (B:=B) (size:=E.k) hu hsz h0 h hB
 rcases hh with rfl | ⟨g,off,rfl,eachc⟩
 ·exact ⟨[],zaf.nil _ _,Nat.zero_le _⟩
 ·have build:∀ m,m≤len→∃ (l:List α) (xs:List Value),l.length=m∧W.rangeAt g (off+(len - m)*E.k) xs∧RowE E W (Old W) xs l∧(0 < m→g < W.heap.size):=by
   intro m
   induction m with
   | zero=>exact fun _=>⟨[],[],rfl,fun j u hj=>by simp at hj,rfl,fun h=>absurd h (Nat.lt_irrefl _)⟩
   | succ m ih=>
     intro hm1
     obtain ⟨l,xs,hll,hr,hrow,_⟩:=ih (by omega)
     obtain ⟨n',cs,yi,h1,h2,h3⟩:=eachc (len - (m+1)) (by omega)
     obtain ⟨a,ha⟩:=each n' cs yi h1 h2
     have hlen:=E.len ha
     have hc:W.rangeAt g (off+(len - (m+1))*E.k) cs:=fun j u hj=>by
      rw [h3 j (by rw [← hlen];exact (List.getElem?_eq_some_iff.1 hj).1)]
      exact hj
     refine ⟨a::l,cs++xs,by simp [hll],zpw hc ?_,⟨cs,xs,rfl,ha,hrow⟩,fun _=>?_⟩
     ·rw [hlen,show off+(len - (m+1))*E.k+E.k=off+(len - m)*E.k by
       rw [show len - m=(len - (m+1))+1 by omega,Nat.add_mul,Nat.one_mul,Nat.add_assoc]]
      exact hr
     ·exact World.block_lt_of_cell? W _ (hc 0 cs[0] (List.getElem?_eq_getElem (by omega)))
  obtain ⟨l,xs,hll,hr,hrow,hg⟩:=build len (Nat.le_refl _)
  rw [Nat.sub_self,Nat.zero_mul,Nat.add_zero] at hr
  refine ⟨l,⟨_,cap,by rw [hll],fun hne=>⟨g,off,xs,rfl,hg ?_,hr,hrow⟩⟩,by omega⟩
  have:0 < l.length:=List.length_pos_iff.2 hne
  omega
theorem zpx {W:World} {B n:Nat} {cs:List Value} {y:DataW H × List MemPlace} (hBB:B≤2097152) (h:DataW.trod enc Tryz.prog W 0 (fun _=>true) true n 9 cs=some y) (hB:Rows.uptoBulk y.1≤B):∃ t,za0.rel W (Old W) cs t:=by
 obtain ⟨t,a3,z3,_⟩:=DataW.trod_string Tryz.underlying9 h
 rw [z3] at hB
 have e:Rows.uptoBulk (.lit (.string t.data.toList):DataW H)=t.data.toList.length+1:=rfl
 have e':t.data.toList.length=t.size:=Array.length_toList
 rw [e,e'] at hB
 exact ⟨t,a3,by omega⟩
theorem zhd {W:World} {B n:Nat} {L:Value} {y:DataW H × List MemPlace} (hBB:B≤2097152) (h:DataW.trod enc Tryz.prog W 0 (fun _=>true) true n 22 [L]=some y) (hB:Rows.uptoBulk y.1≤B):∃ l,zaf za0 W (Old W) L l∧l.length≤B:=
 zez (E:=za0) Tryz.underlying22 (by kernel_rfl) (by decide) (fun _ _ _ h hb=>zpx hBB h hb) h hB
theorem zea {W:World} {n ty ety:Nat} {L:Value} {y:DataW H × List MemPlace} (hu:Tryz.prog.underlying ty=some (.slice ety)) (h:DataW.trod enc Tryz.prog W 0 (fun _=>true) true n ty [L]=some y):capK L:=by
 cases n with
 | zero=>simp [DataW.trod] at h
 | succ n0=>
 rcases DataW.trod_slice hu h with ⟨e,_⟩ | ⟨a,len,cap,elems,rest,n1,hn,e,rfl,hb,hl,hm,hlen,hel,_,_⟩
 ·obtain rfl:L=.slice none 0 0:=by simpa using e
  exact zgx
 ·obtain rfl:L=.slice (some a) len cap:=by simpa using e
  clear hel h hm hb
  refine ⟨fun p m c e=>?_,fun m c e=>?_⟩
  ·cases e
   exact hl
  ·cases e
theorem zpy {W:World} {B n:Nat} {cs:List Value} {y:DataW H × List MemPlace} (hBB:B≤2097152) (h:DataW.trod enc Tryz.prog W 0 (fun _=>true) true n 43 cs=some y) (hB:Rows.uptoBulk y.1≤B):∃ r,zyq.rel W (Old W) cs r:=by
 obtain ⟨L,rfl⟩:∃ L,cs=[L]:=by
  cases n with
  | zero=>simp [DataW.trod] at h
  | succ n0=>
    rcases DataW.trod_slice Tryz.underlying43 h with ⟨e,_⟩ | ⟨a,len,cap,elems,rest,n1,hn,e,_⟩
    ·exact ⟨_,e⟩
    ·exact ⟨_,e⟩
 obtain ⟨l,hl,hw⟩:=znr B hBB n n (Nat.le_refl _) L y h hB
 refine ⟨l,⟨L,rfl,zfd l (Held.old l hl),zea Tryz.underlying43 h,?_⟩,by omega⟩
 exact Nat.le_trans (zm9 l) (Nat.le_trans hw (Nat.le_trans hB hBB))
theorem zpz {W:World} {B n:Nat} {L:Value} {y:DataW H × List MemPlace} (hBB:B≤2097152) (h:DataW.trod enc Tryz.prog W 0 (fun _=>true) true n 23 [L]=some y) (hB:Rows.uptoBulk y.1≤B):∃ l,zaf zyq W (Old W) L l∧l.length≤B:=by
 have hsz:Tryz.prog.cellsOf 43=1:=by kernel_rfl
 exact zez (E:=zyq) Tryz.underlying23 hsz (by decide) (fun _ _ _ h1 h2=>zpy hBB h1 h2) h hB
theorem list2 {α:Type} {l:List α} (h:l.length=2):∃ a b,l=[a,b]:=by
 match l,h with
 | [a,b],_=>exact ⟨a,b,rfl⟩
theorem list7 {α:Type} {l:List α} (h:l.length=7):∃ a b c d e f g,l=[a,b,c,d,e,f,g]:=by
 match l,h with
 | [a,b,c,d,e,f,g],_=>exact ⟨a,b,c,d,e,f,g,rfl⟩
theorem array7 {α:Type} {cs:Array α} (h:cs.size=7):∃ a b c d e f g,cs=#[a,b,c,d,e,f,g]:=by
 obtain ⟨l⟩:=cs
 obtain ⟨a,b,c,d,e,f,g,rfl⟩:=list7 (l:=l) h
 exact ⟨a,b,c,d,e,f,g,rfl⟩
theorem zhe {W:World} {B n:Nat} {cs:List Value} {y:DataW H × List MemPlace} (hBB:B≤2097152) (h:DataW.trod enc Tryz.prog W 0 (fun _=>true) true n 25 cs=some y) (hB:Rows.uptoBulk y.1≤B):∃ V R t,cs=[V,R]∧tabE.rel W (Old W) [V,R] t∧∀ r∈t.rows,wAll r≤2097152:=by
 obtain ⟨ws,n2,rfl,hw,hl,hlen2,hf2⟩:=DataW.trod_struct Tryz.underlying25 h
 obtain ⟨c0,c1,rfl⟩:=list2 (hl.trans (by kernel_rfl:Tryz.prog.cellsOf 25=2))
 obtain ⟨w0,w1,rfl⟩:=list2 (hlen2.trans rfl)
 have e22:Tryz.prog.cellsOf 22=1:=by kernel_rfl
 have e23:Tryz.prog.cellsOf 23=1:=by kernel_rfl
 have g0:DataW.trod enc Tryz.prog W 0 (fun _=>true) true n2 22 (([c0,c1].drop 0).take (Tryz.prog.cellsOf 22))=[w0,w1][0]?:=hf2 0 _ rfl
 have g1:DataW.trod enc Tryz.prog W 0 (fun _=>true) true n2 23 (([c0,c1].drop 1).take (Tryz.prog.cellsOf 23))=[w0,w1][1]?:=hf2 1 _ rfl
 rw [e22] at g0
 rw [e23] at g1
 replace g0:DataW.trod enc Tryz.prog W 0 (fun _=>true) true n2 22 [c0]=some w0:=g0
 replace g1:DataW.trod enc Tryz.prog W 0 (fun _=>true) true n2 23 [c1]=some w1:=g1
 have hy0:y.1=.agg [w0.1,w1.1]:=congrArg Prod.fst hw
 rw [hy0] at hB
 have hall:Rows.uptoBulk w0.1+(Rows.uptoBulk w1.1+0)+1≤B:=hB
 obtain ⟨vs,hvs,bv⟩:=zhd hBB g0 (by omega)
 obtain ⟨rs,hrs,br⟩:=zpz hBB g1 (by omega)
 refine ⟨c0,c1,⟨vs,rs⟩,rfl,⟨c0,c1,rfl,hvs,zaf.imp (E:=zyq) (E':=rowE) (fun _ _ h=>h.1) hrs,zea Tryz.underlying22 g0,zea Tryz.underlying23 g1,by show vs.length≤2097152;omega,by show rs.length≤2097152;omega⟩,fun r hr=>?_⟩
 obtain ⟨c,hc⟩:=hrs.each r hr
 exact hc.2
theorem zia {W:World} {n:Nat} {cs:List Value} {y:DataW H × List MemPlace} (h:DataW.trod enc Tryz.prog W 0 (fun _=>true) true n 3 cs=some y):∃ z,intE.rel W (Old W) cs z:=by
 obtain ⟨m,a0,_,wm⟩:=DataW.trod_int Tryz.underlying3 h
 exact ⟨m,a0,wm⟩
theorem zp0 {W:World} {B n:Nat} {L:Value} {y:DataW H × List MemPlace} (h:DataW.trod enc Tryz.prog W 0 (fun _=>true) true n 26 [L]=some y) (hB:Rows.uptoBulk y.1≤B):∃ l,zaf intE W (Old W) L l∧l.length≤B:=
 zez (E:=intE) Tryz.underlying26 (by kernel_rfl) (by decide) (fun _ _ _ h _=>zia h) h hB
structure TwoIs (W:World) (B:Nat) (v:Value) where
 a:TabL
 b:TabL
 vs:List ByteArray
 lang:Int
 ns:List Int
 VA:Value
 RA:Value
 VB:Value
 RB:Value
 VV:Value
 NV:Value
 is:v=.agg #[VA,RA,VB,RB,VV,.int .i64 lang,NV]
 two:zq9 W a b VA RA VB RB
 hv:zaf za0 W (Old W) VV vs
 hn:zaf intE W (Old W) NV ns
 cv:capK VV
 cn:capK NV
 wl:(Lit.int .i64 lang).wf=true
 bs:vs.length≤B∧ns.length≤B
set_option maxHeartbeats 1600000 in
set_option maxRecDepth 20000 in
theorem zra {W:World} {base B:Nat} {v:Value} {d:DataW H} {p:List MemPlace} (hBB:B≤2097152) (hv:Value.okWide Tryz.prog W .any base 28 v) (h:DataW.Trod enc Tryz.prog W 0 (fun _=>true) true 28 v d p) (hB:Rows.uptoBulk d≤B):
 Nonempty (TwoIs W B v):=by
 obtain ⟨cs,rfl,hsz⟩:=okWide_struct Tryz.underlying28 hv
 obtain ⟨c0,c1,c2,c3,c4,c5,c6,rfl⟩:=array7 (hsz.trans (by kernel_rfl:Tryz.prog.cellsOf 28=7))
 obtain ⟨fuel,hf⟩:=h
 obtain ⟨xs,n',_,hx,hl,hlen,hfs⟩:=DataW.trod_struct Tryz.underlying28 hf
 obtain ⟨y0,y1,y2,y3,y4,rfl⟩:∃ a b c d e,xs=[a,b,c,d,e]:=by
  match xs,hlen with
  | [a,b,c,d,e],_=>exact ⟨a,b,c,d,e,rfl⟩
 have e25:Tryz.prog.cellsOf 25=2:=by kernel_rfl
 have e22:Tryz.prog.cellsOf 22=1:=by kernel_rfl
 have e3:Tryz.prog.cellsOf 3=1:=by kernel_rfl
 have e26:Tryz.prog.cellsOf 26=1:=by kernel_rfl
 have h0:DataW.trod enc Tryz.prog W 0 (fun _=>true) true n' 25 (([c0,c1,c2,c3,c4,c5,c6].drop 0).take (Tryz.prog.cellsOf 25))=[y0,y1,y2,y3,y4][0]?:=hfs 0 _ rfl
 have h1:DataW.trod enc Tryz.prog W 0 (fun _=>true) true n' 25 (([c0,c1,c2,c3,c4,c5,c6].drop 2).take (Tryz.prog.cellsOf 25))=[y0,y1,y2,y3,y4][1]?:=hfs 1 _ rfl
 have h2:DataW.trod enc Tryz.prog W 0 (fun _=>true) true n' 22 (([c0,c1,c2,c3,c4,c5,c6].drop 4).take (Tryz.prog.cellsOf 22))=[y0,y1,y2,y3,y4][2]?:=hfs 2 _ rfl
 have h3:DataW.trod enc Tryz.prog W 0 (fun _=>true) true n' 3 (([c0,c1,c2,c3,c4,c5,c6].drop 5).take (Tryz.prog.cellsOf 3))=[y0,y1,y2,y3,y4][3]?:=hfs 3 _ rfl
 have h4:DataW.trod enc Tryz.prog W 0 (fun _=>true) true n' 26 (([c0,c1,c2,c3,c4,c5,c6].drop 6).take (Tryz.prog.cellsOf 26))=[y0,y1,y2,y3,y4][4]?:=hfs 4 _ rfl
 rw [e25] at h0 h1
 rw [e22] at h2
 rw [e3] at h3
 rw [e26] at h4
 replace h0:DataW.trod enc Tryz.prog W 0 (fun _=>true) true n' 25 [c0,c1]=some y0:=h0
 replace h1:DataW.trod enc Tryz.prog W 0 (fun _=>true) true n' 25 [c2,c3]=some y1:=h1
 replace h2:DataW.trod enc Tryz.prog W 0 (fun _=>true) true n' 22 [c4]=some y2:=h2
 replace h3:DataW.trod enc Tryz.prog W 0 (fun _=>true) true n' 3 [c5]=some y3:=h3
 replace h4:DataW.trod enc Tryz.prog W 0 (fun _=>true) true n' 26 [c6]=some y4:=h4
 have hd:d=.agg [y0.1,y1.1,y2.1,y3.1,y4.1]:=congrArg Prod.fst hx
 subst hd
 have hall:Rows.uptoBulk y0.1+(Rows.uptoBulk y1.1+(Rows.uptoBulk y2.1+(Rows.uptoBulk y3.1+(Rows.uptoBulk y4.1+0))))+1≤B:=hB
 obtain ⟨VA,RA,a,ea,ha,wa⟩:=zhe hBB h0 (by omega)
 obtain ⟨VB,RB,b,eb,hb,wb⟩:=zhe hBB h1 (by omega)
 cases ea
 cases eb
 obtain ⟨vs,hvs,bv⟩:=zhd hBB h2 (by omega)
 obtain ⟨ns,hns,bn⟩:=zp0 (B:=B) h4 (by omega)
 obtain ⟨z,hz⟩:=zia h3
 obtain ⟨ez,wz⟩:=hz
 cases ez
 exact ⟨⟨a,b,vs,z,ns,_,_,_,_,c4,c6,rfl,⟨ha,hb,wa,wb⟩,hvs,hns,zea Tryz.underlying22 h2,zea Tryz.underlying26 h4,wz,bv,bn⟩⟩
end
end Go.Proofs.YteclpnfckjfibaaGreatDoor

/- PK -/
namespace Go.Proofs.YteclpnfckjfibaaGreatDoor
open Go.RowKit
theorem zwp (v:Val):zc1 v v=true:=zcx v
theorem zrb {v:Val} (hm:mayP v 0=true) (h:isB v=false):v=zec:=by
 obtain ⟨k,b,n,t,x,l⟩:=v
 have hk:k=0:=by
  unfold isB at h
  rw [decide_eq_false_iff_not] at h
  exact Classical.not_not.1 h
 subst hk
 unfold mayP at hm
 obtain ⟨h1,h2,h3,h4,h5⟩:=zcf (show zb7 b n t x l.length=true from hm)
 rw [h1,h2,e0 h3,e0 h4,zfh h5]
 rfl
theorem zns {vs us:List ByteArray} (hv:vs.Nodup) (x y:List Val):fitB (zat vs us) x y=true↔∀ v∈vs,v∈us→isB (za7 x (za3 (zau v vs)))=true→isB (za7 y (za3 (zau v us)))=true→za7 x (za3 (zau v vs))=za7 y (za3 (zau v us)):=by
 unfold fitB
 rw [List.all_eq_true]
 have key:∀ i (hi:i < vs.length) k,zau vs[i] us=some k→(fit1 x y (i,k)=true↔(isB (za7 x (za3 (zau vs[i] vs)))=true→isB (za7 y (za3 (zau vs[i] us)))=true→za7 x (za3 (zau vs[i] vs))=za7 y (za3 (zau vs[i] us)))):=by
  intro i hi k hk
  rw [zmo hv i hi,hk]
  show _↔(isB (za7 x (i:Int))=true→isB (za7 y (k:Int))=true→za7 x (i:Int)=za7 y (k:Int))
  rw [zdh,zdh]
  unfold fit1
  show (!((isB (atV x i) && isB (atV y k)) && !zc1 (atV x i) (atV y k)))=true↔_
  generalize atV x i=p
  generalize atV y k=q
  rw [Bool.not_eq_true',Bool.and_eq_false_iff,Bool.and_eq_false_iff,Bool.not_eq_false']
  constructor
  ·rintro ((h | h) | h) h1 h2
   ·rw [h] at h1;cases h1
   ·rw [h] at h2;cases h2
   ·exact zqy _ _ h
  ·intro h
   by_cases h1:isB p=true
   ·by_cases h2:isB q=true
    ·right
     rw [h h1 h2]
     exact zwp _
    ·exact .inl (.inr (by simpa using h2))
   ·exact .inl (.inl (by simpa using h1))
 constructor
 ·intro h v hvs hus
  obtain ⟨i,hi,e,ev⟩:=zno hvs
  obtain ⟨k,hk,e2,_⟩:=zno hus
  subst ev
  have hm:(i,k)∈zat vs us:=by
   unfold zat
   rw [List.mem_filterMap]
   refine ⟨(vs[i],i),?_,by rw [e2];rfl⟩
   rw [List.mk_mem_zipIdx_iff_getElem?]
   exact List.getElem?_eq_getElem hi
  exact (key i hi k e2).1 (h _ hm)
 ·rintro h ⟨i,k⟩ hm
  unfold zat at hm
  rw [List.mem_filterMap] at hm
  obtain ⟨⟨v,j⟩,hj,e⟩:=hm
  rw [List.mk_mem_zipIdx_iff_getElem?] at hj
  obtain ⟨hi,rfl⟩:=List.getElem?_eq_some_iff.1 hj
  rw [Option.map_eq_some_iff] at e
  obtain ⟨k',e1,e2⟩:=e
  cases e2
  refine (key _ hi _ e1).2 (h _ (List.getElem_mem _) ?_)
  have hm2:=(zet vs[j] us).1 (by unfold memB;rw [e1];rfl)
  exact hm2
theorem zyr {vs us:List ByteArray} (hv:vs.Nodup) (hu:us.Nodup) (x y:List Val):fitB (zat vs us) x y=fitB (zat us vs) y x:=by
 rw [Bool.eq_iff_iff,zns hv,zns hu]
 exact ⟨fun h v a b c d=>(h v b a d c).symm,fun h v a b c d=>(h v b a d c).symm⟩
theorem zhy:isB zec=false:=by decide
theorem zr9 (r:List Val):za7 r (-1)=zec:=rfl
theorem ztr {a b:List Val} {i k:Int} (ha:∀ v∈a,mayP v 0=true) (hb:∀ v∈b,mayP v 0=true) (h:isB (za7 a i)=true→isB (za7 b k)=true→za7 a i=za7 b k):zc3 a b (i,k)=zc3 b a (k,i):=by
 unfold zc3
 show (if isB (za7 a i) then za7 a i else za7 b k)=(if isB (za7 b k) then za7 b k else za7 a i)
 by_cases p:isB (za7 a i)=true
 ·rw [if_pos p]
  by_cases q:isB (za7 b k)=true
  ·rw [if_pos q,h p q]
  ·rw [if_neg q]
 ·rw [if_neg p]
  by_cases q:isB (za7 b k)=true
  ·rw [if_pos q]
  ·rw [if_neg q,zrb (zfp ha i) (by simpa using p),zrb (zfp hb k) (by simpa using q)]
theorem zp1 {α β γ:Type} (h:α→β→List γ) (lb:List β):(la:List α)→(la.flatMap fun x=>lb.flatMap fun y=>h x y).Perm (lb.flatMap fun y=>la.flatMap fun x=>h x y)
 | []=>by
   have:(lb.flatMap fun y=>([]:List α).flatMap fun x=>h x y)=[]:=by
    rw [List.flatMap_eq_nil_iff]
    exact fun _ _=>rfl
   rw [this]
   exact List.Perm.refl _
 | x::r=>by
   rw [List.flatMap_cons]
   refine (List.Perm.append_left _ (zp1 h lb r)).trans ?_
   refine (zr4 (fun y=>h x y) (fun y=>r.flatMap fun x=>h x y) lb).symm.trans ?_
   simp only [List.flatMap_cons]
   exact List.Perm.refl _
theorem zim {α β:Type} (f:α→Bool) (g:α→β):(l:List α)→(l.filter f).map g=l.flatMap fun y=>if f y=true then [g y] else []
 | []=>rfl
 | x::r=>by
   rw [List.flatMap_cons,List.filter_cons]
   by_cases q:f x=true
   ·rw [if_pos q,if_pos q,List.map_cons,zim f g r]
    rfl
   ·rw [if_neg q,if_neg q,zim f g r]
    rfl
theorem zen {α β:Type} {f g:α→List β}:{l:List α}→(∀ x∈l,f x=g x)→l.flatMap f=l.flatMap g
 | [],_=>rfl
 | x::r,h=>by
   rw [List.flatMap_cons,List.flatMap_cons,h x (by simp),zen fun y hy=>h y (by simp [hy])]
theorem zwq {a b:TabL} (ha:tabP a=true) (hb:tabP b=true) (hl:a.vars.length+b.vars.length≤64):
 zh9 (za4 a b) (zdx (za4 b a) (za4 a b).vars)=true:=by
 have hl':b.vars.length+a.vars.length≤64:=by omega
 have t1:=zik ha hb hl
 have t2:=zik hb ha hl'
 have t3:=zlp t2 (zbl t1)
 have na:=(zcy (zbl ha)).2.2
 have nb:=(zcy (zbl hb)).2.2
 rw [zht t2 (zbl t1)] at t3 ⊢
 refine zmp t1 t3 rfl ?_
 rw [zeg ha hb hl,zeg hb ha hl']
 show (zap (zat a.vars b.vars) (srcP (za2 a.vars b.vars) a.vars b.vars) a.rows b.rows).Perm ((zap (zat b.vars a.vars) (srcP (za2 b.vars a.vars) b.vars a.vars) b.rows a.rows).map fun r=>(zdt (za2 a.vars b.vars) (za2 b.vars a.vars)).map (za7 r))
 have hin:∀ x∈za2 a.vars b.vars,x∈za2 b.vars a.vars:=fun x hx=>znn.2 (znn.1 hx).symm
 have e1:zap (zat a.vars b.vars) (srcP (za2 a.vars b.vars) a.vars b.vars) a.rows b.rows=a.rows.flatMap fun x=>b.rows.flatMap fun y=>if fitB (zat a.vars b.vars) x y=true then [zbo (srcP (za2 a.vars b.vars) a.vars b.vars) x y] else []:=by
  unfold zap
  exact zen fun x _=>by rw [zby,zim]
 have e2:((zap (zat b.vars a.vars) (srcP (za2 b.vars a.vars) b.vars a.vars) b.rows a.rows).map fun r=>(zdt (za2 a.vars b.vars) (za2 b.vars a.vars)).map (za7 r))=b.rows.flatMap fun y=>a.rows.flatMap fun x=>if fitB (zat a.vars b.vars) x y=true then [zbo (srcP (za2 a.vars b.vars) a.vars b.vars) x y] else []:=by
  unfold zap
  rw [List.map_flatMap]
  refine zen fun y hy=>?_
  rw [zby,List.map_map,zim]
  refine zen fun x hx=>?_
  rw [← zyr na nb x y]
  by_cases q:fitB (zat a.vars b.vars) x y=true
  ·rw [if_pos q,if_pos q]
   congr 1
   show (zdt (za2 a.vars b.vars) (za2 b.vars a.vars)).map (za7 (zbo (srcP (za2 b.vars a.vars) b.vars a.vars) y x))=zbo (srcP (za2 a.vars b.vars) a.vars b.vars) x y
   unfold zbo srcP zdt
   rw [List.map_map,List.map_map,List.map_map]
   refine List.map_congr_left fun v hv=>?_
   obtain ⟨k,hk,e,ev⟩:=zno (hin v hv)
   show za7 _ (za3 (zau v (za2 b.vars a.vars)))=zc3 x y (za3 (zau v a.vars),za3 (zau v b.vars))
   rw [e]
   show za7 _ (k:Int)=_
   rw [zdh,zc7 (by simpa using hk)]
   simp only [List.getElem_map,Function.comp]
   rw [ev]
   refine (ztr ((zbm ha).2 x hx) ((zbm hb).2 y hy) ?_).symm
   intro h1 h2
   by_cases va:v∈a.vars
   ·by_cases vb:v∈b.vars
    ·exact (zns na x y).1 q v va vb h1 h2
    ·have:zau v b.vars=none:=zc4.2 fun z hz e=>vb (e ▸ hz)
     rw [this] at h2
     rw [show za7 y (za3 none)=zec from rfl,zhy] at h2
     cases h2
   ·have:zau v a.vars=none:=zc4.2 fun z hz e=>va (e ▸ hz)
    rw [this] at h1
    rw [show za7 x (za3 none)=zec from rfl,zhy] at h1
    cases h1
  ·rw [if_neg q,if_neg q]
 rw [e1,e2]
 exact zp1 _ _ _
def zfk:TabL:=⟨[],[[]]⟩
theorem zts (vs:List ByteArray):zat vs []=[]:=by
 unfold zat
 rw [List.filterMap_eq_nil_iff]
 intro p _
 rfl
theorem zin:tabP zfk=true:=zmn (zlo (by decide) (fun x h=>by simp [zfk] at h) List.nodup_nil) (fun r hr=>by simp [zfk] at hr;subst hr;rfl) (fun r hr v hv=>by simp [zfk] at hr;subst hr;cases hv)
theorem zwr {vs:List ByteArray} (hv:vs.Nodup) {r:List Val} (hr:r.length=vs.length) (hm:∀ v∈r,mayP v 0=true) (q:List Val):zbo (srcP vs vs []) r q=r:=by
 unfold zbo srcP
 rw [List.map_map]
 have e:(vs.map ((zc3 r q) ∘ fun v=>(za3 (zau v vs),za3 (zau v []))))=(zdt vs vs).map (za7 r):=by
  unfold zdt
  rw [List.map_map]
  refine List.map_congr_left fun v _=>?_
  show zc3 r q (za3 (zau v vs),-1)=za7 r (za3 (zau v vs))
  unfold zc3
  show (if isB (za7 r (za3 (zau v vs)))=true then za7 r (za3 (zau v vs)) else za7 q (-1))=_
  split
  ·rfl
  ·rename_i h
   rw [zr9,zrb (zfp hm _) (by simpa using h)]
 rw [e]
 exact zr3 hv hr
theorem ztt {vs:List ByteArray} (hv:vs.Nodup) {r:List Val} (hr:r.length=vs.length) (q:List Val):zbo (srcP vs [] vs) q r=r:=by
 unfold zbo srcP
 rw [List.map_map]
 have e:(vs.map ((zc3 q r) ∘ fun v=>(za3 (zau v []),za3 (zau v vs))))=(zdt vs vs).map (za7 r):=by
  unfold zdt
  rw [List.map_map]
  refine List.map_congr_left fun v _=>?_
  show zc3 q r (-1,za3 (zau v vs))=za7 r (za3 (zau v vs))
  unfold zc3
  show (if isB (za7 q (-1))=true then za7 q (-1) else za7 r (za3 (zau v vs)))=_
  rw [zr9,zhy]
  rfl
 rw [e]
 exact zr3 hv hr
theorem zys (vs:List ByteArray):za2 vs []=vs:=by simp [za2]
theorem zyt {vs:List ByteArray}:za2 [] vs=vs:=by
 unfold za2
 rw [List.nil_append,List.filter_eq_self]
 intro x _
 rfl
theorem zp2 {a:TabL} (ha:tabP a=true):za4 a zfk=a:=by
 rw [zeg ha zin (by show a.vars.length+0≤64;have:=zd9 (zbl ha);omega)]
 show TabL.mk (za2 a.vars []) (zap (zat a.vars []) (srcP (za2 a.vars []) a.vars []) a.rows [[]])=a
 rw [zys,zts]
 have e:zap [] (srcP a.vars a.vars []) a.rows [[]]=a.rows:=by
  unfold zap
  have:a.rows.flatMap (zcu [] (srcP a.vars a.vars []) [[]])=a.rows.flatMap fun x=>[x]:=zen fun x hx=>by
   rw [zby]
   show [zbo (srcP a.vars a.vars []) x []]=[x]
   rw [zwr (zcy (zbl ha)).2.2 ((zbm ha).1 x hx) ((zbm ha).2 x hx)]
  rw [this]
  simp
 rw [e]
theorem zp3 {a:TabL} (ha:tabP a=true):za4 zfk a=a:=by
 rw [zeg zin ha (by show 0+a.vars.length≤64;have:=zd9 (zbl ha);omega)]
 show TabL.mk (za2 [] a.vars) (zap (zat [] a.vars) (srcP (za2 [] a.vars) [] a.vars) [[]] a.rows)=a
 rw [zyt]
 have e:zap (zat [] a.vars) (srcP a.vars [] a.vars) [[]] a.rows=a.rows:=by
  unfold zap
  rw [List.flatMap_cons,List.flatMap_nil,List.append_nil,zby]
  rw [List.filter_eq_self.2 fun y _=>(rfl:fitB (zat [] a.vars) [] y=true)]
  exact (List.map_congr_left (g:=fun r=>r) fun r hr=>ztt (zcy (zbl ha)).2.2 ((zbm ha).1 r hr) []).trans (List.map_id' _)
 rw [e]
theorem zp4 {a:TabL}:(za4 a ⟨[],[]⟩).rows=[]:=by
 unfold za4
 split
 ·show zap _ _ a.rows []=[]
  unfold zap
  rw [List.flatMap_eq_nil_iff]
  intro x _
  rw [zby]
  rfl
 ·rfl
theorem ztu {x y:List Val} {s:Int × Int} (h:isB (za7 x s.1)=true):zc3 x y s=za7 x s.1:=by
 unfold zc3
 rw [if_pos h]
theorem zrc {a b:TabL} (ha:tabP a=true) {x y:List Val} (hf:fitB (zat a.vars b.vars) x y=true) (v:ByteArray) (h:isB (za7 y (za3 (zau v b.vars)))=true):zc3 x y (za3 (zau v a.vars),za3 (zau v b.vars))=za7 y (za3 (zau v b.vars)):=by
 unfold zc3
 show (if isB (za7 x (za3 (zau v a.vars)))=true then za7 x (za3 (zau v a.vars)) else za7 y (za3 (zau v b.vars)))=_
 split
 ·rename_i h1
  refine (zns (zcy (zbl ha)).2.2 x y).1 hf v ?_ ?_ h1 h
  ·refine Classical.byContradiction fun q=>?_
   have:zau v a.vars=none:=zc4.2 fun z hz e=>q (e ▸ hz)
   rw [this,show za7 x (za3 none)=zec from rfl,zhy] at h1
   cases h1
  ·refine Classical.byContradiction fun q=>?_
   have:zau v b.vars=none:=zc4.2 fun z hz e=>q (e ▸ hz)
   rw [this,show za7 y (za3 none)=zec from rfl,zhy] at h
   cases h
 ·rfl
end Go.Proofs.YteclpnfckjfibaaGreatDoor

/- PQ -/
namespace Go.Proofs.YteclpnfckjfibaaGreatDoor
open Go.RowKit
theorem zmt {a b:TabL} (ha:tabP a=true) (hb:tabP b=true) (hl:a.vars.length+b.vars.length≤64) (h1:zcq a.rows) (h2:zcq b.rows):zcq (za4 a b).rows:=by
 rw [zeg ha hb hl]
 exact zlz h1 h2
theorem znt {t:TabL} {V:List ByteArray} (h:tabP t=true) (hv:zdl V=true) (h1:zcq t.rows):zcq (zdx t V).rows:=by
 rw [zht h hv]
 exact ztl h1
theorem zsa {a b:TabL} (ha:tabP a=true) (hb:tabP b=true) (hl:a.vars.length+b.vars.length≤64):(za4 a b).rows.length≤a.rows.length*b.rows.length:=by
 rw [zeg ha hb hl]
 exact zfj _ _ _ _
theorem zws {a b:TabL} (ha:tabP a=true) (hb:tabP b=true) (hl:a.vars.length+b.vars.length≤64):(za4 a b).vars=za2 a.vars b.vars:=by rw [zeg ha hb hl]
end Go.Proofs.YteclpnfckjfibaaGreatDoor

/- OE -/
namespace Go.Proofs.YteclpnfckjfibaaGreatDoor
open Go.RowKit
def ztv (v:Val):Prop:=∀ (W:World) (k:Int) (b:Bool) (n:Int) (t x:ByteArray) (q:List Val) (p:Option Addr) (cap:Nat) (v2:Val) (k2:Int) (b2:Bool) (n2:Int) (t2 x2:ByteArray) (q2:List Val) (p2:Option Addr) (cap2:Nat),
 v=.mk k b n t x q→v2=.mk k2 b2 n2 t2 x2 q2→q.length≤2097152→Held W (.slice p q.length cap) q→Held W (.slice p2 q2.length cap2) q2→
 Calls Tryz.prog 39 #[.agg #[.int .i64 k,.bool b,.int .i64 n,.string t,.string x,.slice p q.length cap],.agg #[.int .i64 k2,.bool b2,.int .i64 n2,.string t2,.string x2,.slice p2 q2.length cap2]] W
  fun e w'=>e=.returned (.bool (zc1 v v2))∧Below W.heap.size W w'
theorem zyu (p p2:Option Addr) (n n2 cap cap2:Nat) (w:World) (h:¬ n=n2):
 Calls Tryz.prog 60 #[.slice p n cap,.slice p2 n2 cap2] w fun e w'=>e=.returned (.bool false)∧Below w.heap.size w w':=by
 have h1:((n:Int) != n2)=true:=by simp;omega
 clear h
 go_enter Tryz.func60,Tryz.ntmps60
 go_wp2_with fail
 go_ret
 exact ⟨rfl,Below.refl _ _⟩
theorem zwt (p p2:Option Addr) (cap cap2:Nat) (w:World):
 Calls Tryz.prog 60 #[.slice p 0 cap,.slice p2 0 cap2] w fun e w'=>e=.returned (.bool true)∧Below w.heap.size w w':=by
 go_enter Tryz.func60,Tryz.ntmps60
 go_wp2_with fail
 go_loopw [5] (fun i wr=>i=.int .i64 0∧wr=w) (fun _ _=>0)
 case atStart=>exact ⟨rfl,rfl⟩
 case round=>
  obtain ⟨rfl,rfl⟩:=hrel
  go_wp2_with fail
  go_ret
  exact ⟨rfl,Below.refl _ _⟩
set_option maxRecDepth 20000 in
set_option maxHeartbeats 3200000 in
theorem zwu (l l2:List Val) (g off cap g2 off2 cap2:Nat) (w:World) (hl:zb2 w g off l) (hl2:zb2 w g2 off2 l2) (hlen:l2.length=l.length) (hn:l.length≤2097152) (each:∀ v∈l,ztv v):
 Calls Tryz.prog 60 #[.slice (some ⟨g,off,none⟩) l.length cap,.slice (some ⟨g2,off2,none⟩) l.length cap2] w fun e w'=>e=.returned (.bool (zbz l l2))∧Below w.heap.size w w':=by
 have HH:=Lib.hid hl
 have HH2:=Lib.hid hl2
 have HE:=Lib.hid each
 have HL:=Lib.hid hlen
 clear hl hl2 each hlen
 go_enter Tryz.func60,Tryz.ntmps60
 go_wp2_with fail
 go_loopw [5] (fun i wr=>∃ j:Nat,j≤l.length∧i=.int .i64 j∧Below w.heap.size w wr∧∀ (i:Nat) (h:i < l.length) (h2:i < l2.length),i < j→zc1 l[i] l2[i]=true) (fun i _=>l.length - (intOf i).toNat)
 case atStart=>exact ⟨0,Nat.zero_le _,rfl,Below.refl _ _,fun _ _ _ h=>absurd h (by omega)⟩
 case round=>
  obtain ⟨j,hj,rfl,hb,hall⟩:=hrel
  have HA:=Lib.hid hall
  clear hall
  by_cases hlt:j < l.length
  ·have hlt2:j < l2.length:=by have:=HL.out;omega
   obtain ⟨k,b,n,t,x,q,p,cp,o1⟩:=(zb2.at_ l off HH.out j hlt).opens
   obtain ⟨k2,b2,n2,t2,x2,q2,p2,cp2,o2⟩:=(zb2.at_ l2 off2 HH2.out j hlt2).opens
   have hc:=fun W (hb:Below w.heap.size w W)=>HE.out l[j] (List.getElem_mem hlt) W k b n t x q p cp l2[j] k2 b2 n2 t2 x2 q2 p2 cp2 o1.e o2.e o1.hf.hn (Held.below q o1.hl hb) (Held.below q2 o2.hl hb)
   obtain ⟨r,hr⟩:∃ r,r=zc1 l[j] l2[j]:=⟨_,rfl⟩
   rw [← hr] at hc
   have R1:∀ w',Below w.heap.size w w'→w'.rangeAt g (off+j*6) [.int .i64 k,.bool b,.int .i64 n,.string t,.string x,.slice p q.length cp]:=fun w' h=>(o1.below h).range
   have R2:∀ w',Below w.heap.size w w'→w'.rangeAt g2 (off2+j*6) [.int .i64 k2,.bool b2,.int .i64 n2,.string t2,.string x2,.slice p2 q2.length cp2]:=fun w' h=>(o2.below h).range
   have HC:=Lib.hid hc
   have HR:=Lib.hid hr
   have HR1:=Lib.hid R1
   have HR2:=Lib.hid R2
   clear o1 o2 hr hc R1 R2
   have hlti:(j:Int) < l.length:=by omega
   go_wp2_with fail
   refine wp_region_held_drew (S:=fun w'=>Below w.heap.size w w') (by kernel_rfl) hb.drew (fun hHeld=>?_)
   refine tg (i:=0) (.slice (some ⟨g,off,none⟩) l.length cap) rfl hHeld ?_
   refine tg (i:=1) (.int .i64 j) rfl hHeld ?_
   refine tg (i:=2) (.pointer (some ⟨g,off+j*6,none⟩)) rfl hHeld ?_
   refine tk (i:=3) rfl (yieldsIf_load_mid (by rfl) 48 (.tmp 19) rfl g (off+j*6) rfl _ _ (fun w h=>HR1.out w h) Tryz.underlying48 rfl zix) hHeld ?_
   refine tg (i:=4) (.slice (some ⟨g2,off2,none⟩) l.length cap2) rfl hHeld ?_
   refine tg (i:=5) (.int .i64 j) rfl hHeld ?_
   refine tg (i:=6) (.pointer (some ⟨g2,off2+j*6,none⟩)) rfl hHeld ?_
   refine tk (i:=7) rfl (yieldsIf_load_mid (by rfl) 48 (.tmp 23) rfl g2 (off2+j*6) rfl _ _ (fun w h=>HR2.out w h) Tryz.underlying48 rfl zix) hHeld ?_
   refine tr 8 rfl (fun K hK=>?_)
   rw [if_pos (by rfl)]
   go_simp
   refine (HC.out _ hHeld).mono ?_
   rintro e w3 ⟨rfl,hb3⟩
   refine hK.out _ _ (zab hHeld hb3 hHeld.size) (fun hHeld2=>?_)
   clear hK K hb3 hHeld
   try simp only [putS]
   refine tg (i:=9) (.bool (!r)) rfl hHeld2 ?_
   refine wpAnyH_done (by kernel_rfl) ?_ _
   cases r with
   | true=>
     go_wp2_with fail
     go_roundw
     case rel=>
      refine ⟨j+1,by omega,by go_num,hHeld2,fun i hi hi2 hlt'=>?_⟩
      by_cases e:i=j
      ·subst e;exact HR.out.symm
      ·exact HA.out i hi hi2 (by omega)
     case measure=>simp [intOf];omega
   | false=>
     go_wp2_with fail
     go_ret
     exact ⟨by rw [zfx l l2 j hlt hlt2 HR.out.symm];rfl,hHeld2⟩
  ·go_wp2_with fail
   go_ret
   exact ⟨by rw [ze7 l l2 fun i h h2=>HA.out i h h2 (by omega)];rfl,hb⟩
theorem eqRowAt (l l2:List Val) (p p2:Option Addr) (cap cap2:Nat) (w:World) (hl:Held w (.slice p l.length cap) l) (hl2:Held w (.slice p2 l2.length cap2) l2) (hn:l.length≤2097152) (each:∀ v∈l,ztv v):
 Calls Tryz.prog 60 #[.slice p l.length cap,.slice p2 l2.length cap2] w fun e w'=>e=.returned (.bool ((l.length == l2.length) && zbz l l2))∧Below w.heap.size w w':=by
 by_cases h:l.length=l2.length
 ·rw [show (l.length == l2.length)=true by simpa using h,Bool.true_and,← h]
  cases l with
  | nil=>
    unfold zbz
    exact zwt _ _ _ _ _
  | cons v r=>
    cases l2 with
    | nil=>simp at h
    | cons v2 r2=>
      obtain ⟨g,off,rfl,hh⟩:=hl.form
      obtain ⟨g2,off2,rfl,hh2⟩:=hl2.form
      exact zwu (v::r) (v2::r2) g off cap g2 off2 cap2 w hh hh2 h.symm hn each
 ·rw [show (l.length == l2.length)=false by simpa using h,Bool.false_and]
  exact zyu p p2 _ _ cap cap2 w h
set_option maxHeartbeats 1600000 in
theorem ztw (v:Val) (k:Int) (b:Bool) (n:Int) (t x:ByteArray) (q:List Val) (ev:v=.mk k b n t x q) (each:∀ u∈q,ztv u):ztv v:=by
 subst ev
 intro W k1 b1 n1 t1 x1 q1 p cap v2 k2 b2 n2 t2 x2 q2 p2 cap2 e1 e2 hn hl hl2
 cases e1
 subst e2
 unfold zc1
 obtain ⟨c1,hc1⟩:∃ c1,c1=Obj.cells #[.int .i64 k,.bool b,.int .i64 n,.string t,.string x,.slice p q.length cap] 48:=⟨_,rfl⟩
 obtain ⟨c2,hc2⟩:∃ c2,c2=Obj.cells #[.int .i64 k2,.bool b2,.int .i64 n2,.string t2,.string x2,.slice p2 q2.length cap2] 48:=⟨_,rfl⟩
 have b0:=zc6 W c1 c2
 have hc:=eqRowAt q q2 p p2 cap cap2 ((W.alloc c1).alloc c2) (Held.below q hl b0) (Held.below q2 hl2 b0) hn each
 have l0:Six ((W.alloc c1).alloc c2) W.heap.size k b n t x p q.length cap:=by rw [hc1];exact (zak _ rfl).alloc _
 have l1:Six ((W.alloc c1).alloc c2) (W.heap.size+1) k2 b2 n2 t2 x2 p2 q2.length cap2:=by rw [hc2];exact zak _ (by simp)
 have z0:=b0.size
 have f0:=l0.c0
 have f1:=l0.c1
 have f2:=l0.c2
 have f3:=l0.c3
 have f4:=l0.c4
 have f5:=l0.c5
 have g0:=l1.c0
 have g1:=l1.c1
 have g2:=l1.c2
 have g3:=l1.c3
 have g4:=l1.c4
 have g5:=l1.c5
 clear l0 l1 hl hl2 each hn
 subst hc1 hc2
 cases a0:(k == k2) with
 | false=>
   rw [Bool.false_and]
   go_enter Tryz.func39,Tryz.ntmps39
   go_wp2_with fail
   go_ret
   exact ⟨rfl,b0⟩
 | true=>
   rw [Bool.true_and]
   cases a1:(b == b2) with
   | false=>
     rw [Bool.false_and]
     go_enter Tryz.func39,Tryz.ntmps39
     go_wp2_with fail
     go_ret
     exact ⟨rfl,b0⟩
   | true=>
     rw [Bool.true_and]
     cases a2:(n == n2) with
     | false=>
       rw [Bool.false_and]
       go_enter Tryz.func39,Tryz.ntmps39
       go_wp2_with fail
       go_ret
       exact ⟨rfl,b0⟩
     | true=>
       rw [Bool.true_and]
       cases a3:(t.toList == t2.toList) with
       | false=>
         rw [Bool.false_and]
         go_enter Tryz.func39,Tryz.ntmps39
         go_wp2_with fail
         go_ret
         exact ⟨rfl,b0⟩
       | true=>
         rw [Bool.true_and]
         cases a4:(x.toList == x2.toList) with
         | false=>
           rw [Bool.false_and]
           go_enter Tryz.func39,Tryz.ntmps39
           go_wp2_with fail
           go_ret
           exact ⟨rfl,b0⟩
         | true=>
           rw [Bool.true_and]
           generalize (q.length == q2.length && zbz q q2)=r at hc ⊢
           go_enter Tryz.func39,Tryz.ntmps39
           go_wp2_with (go_at_call 60;(with_reducible refine hc.mono ?_);rintro e w3 ⟨rfl,hb3⟩;replace b0:=zab b0 hb3 z0)
           go_ret
           exact ⟨rfl,b0⟩
mutual
theorem znu:(v:Val)→ztv v
 | .mk k b n t x q=>ztw _ k b n t x q rfl (zp5 q)
theorem zp5:(q:List Val)→∀ u∈q,ztv u
 | [],_,h=>absurd h (by simp)
 | v::r,u,h=>by
   rcases List.mem_cons.1 h with h | h
   ·rw [h];exact znu v
   ·exact zp5 r u h
end
end Go.Proofs.YteclpnfckjfibaaGreatDoor

/- EQT -/
namespace Go.Proofs.YteclpnfckjfibaaGreatDoor
open Go.RowKit
def YesB (W:World) (e:Ending) (w':World):Prop:=e=.returned (.bool true)∧Below W.heap.size W w'
set_option maxHeartbeats 1600000 in
set_option maxRecDepth 20000 in
theorem zwv (V U:Value) (ts:List ByteArray) (P Q:Nat→Prop) (W:World) (h1:zaf za0 W P V ts) (h2:zaf za0 W Q U ts) (hP:∀ g,P g→g < W.heap.size) (hQ:∀ g,Q g→g < W.heap.size) (hn:ts.length≤2097152):Calls Tryz.prog 50 #[V,U] W (YesB W):=by
 obtain ⟨p1,c1,rfl⟩:=h1.slice
 obtain ⟨p2,c2,rfl⟩:=h2.slice
 obtain ⟨n,hl⟩:∃ n,n=ts.length:=⟨_,rfl⟩
 rw [← hl]
 rw [← hl] at hn
 have H1:=Lib.hid (h1.stays (P':=P) (fun g hg=>⟨hg,rfl⟩:zeb P P W W))
 have H2:=Lib.hid h2
 have HP:=Lib.hid hP
 have HQ:=Lib.hid hQ
 have HL:=Lib.hid hl
 clear h1 h2 hl hP hQ
 go_enter Tryz.func50,Tryz.ntmps50
 go_wp2_with fail
 go_loopg [5] n (fun gg s5 wr=>∃ j:Nat,j+gg=n∧s5=.int .i64 j∧Hid (Below W.heap.size W wr))
 case atStart=>exact ⟨0,by omega,rfl,Lib.hid (Below.refl _ _)⟩
 case round=>
  obtain ⟨j,hjg,rfl,HB⟩:=hrel
  by_cases hj:(j:Int) < n
  ·have hj1:j < ts.length:=by have:=HL.out;omega
   obtain ⟨g1,o1,cc1,d1,e1,hg1,hr1,hra1⟩:=H1.out.at_ j hj1
   obtain ⟨g2,o2,cc2,d2,e2,hg2,hr2,hra2⟩:=H2.out.at_ j hj1
   injection e1 with e11 e12 e13
   injection e2 with e21 e22 e23
   subst e11 e21
   obtain ⟨rfl,_⟩:=hr1
   obtain ⟨rfl,_⟩:=hr2
   obtain ⟨x,hx⟩:∃ x,x=ts[j]:=⟨_,rfl⟩
   have k1:wr.cell? ⟨g1,o1+j,none⟩=some (.string x):=by
    have h:=hra1 0 _ rfl
    rw [hx]
    exact zaw (by simpa [za0] using h) HB.out
   have k2:wr.cell? ⟨g2,o2+j,none⟩=some (.string x):=by
    have h:=hra2 0 _ rfl
    rw [hx]
    exact zaw (by simpa [za0] using h) HB.out
   clear hra1 hra2 hx hg1 hg2 e12 e13 e22 e23
   go_upto_region 6 with fail
   go_quiet (fail)
   have HB2:=Lib.hid (HB.out.trans (zep (Below.refl _ wr) nq |>.mono HB.out.size))
   clear k1 k2 HB
   generalize wr.drewN nq=w9 at*
   go_wp2_with fail
   go_roundg (gk - 1)
   case measure=>omega
   case rel=>exact ⟨j+1,by omega,by go_num,HB2⟩
  ·go_wp2_with fail
   go_ret
   exact ⟨rfl,HB.out⟩
end Go.Proofs.YteclpnfckjfibaaGreatDoor

/- LT -/
namespace Go.Proofs.YteclpnfckjfibaaGreatDoor
open Go.RowKit
structure zdj (w:World) (V R:Value) (t:TabL):Prop where
 at_:∀ w',Below w.heap.size w w'→tabE.rel w' (Old w') [V,R] t
theorem zdj.here {w:World} {V R:Value} {t:TabL} (h:zdj w V R t):tabE.rel w (Old w) [V,R] t:=h.at_ w (Below.refl _ _)
theorem zdj.below {w w':World} {V R:Value} {t:TabL} (h:zdj w V R t) (b:Below w.heap.size w w'):zdj w' V R t:=⟨fun w2 b2=>h.at_ w2 (zab b b2 b.size)⟩
theorem zdj.of {w:World} {V R:Value} {t:TabL} (h:tabE.rel w (Old w) [V,R] t):zdj w V R t:=⟨fun _ b=>tabE.stays (zad b) h⟩
theorem zp6 {u a b:Value} (h:u.cells=[a,b].toArray):u=.agg #[a,b]:=by
 cases u
 case agg cs=>exact congrArg Value.agg h
 all_goals
  have:=congrArg Array.size h
  simp [Value.cells] at this
theorem zef {t:TabL} {W:World} {e:Ending} {w':World} (h:zb0 tabE t W e w'):∃ V R,e=.returned (.agg #[V,R])∧Below W.heap.size W w'∧zdj w' V R t:=by
 obtain ⟨u,c,rfl,hu,hr,hb⟩:=h
 obtain ⟨V,R,rfl,hr2⟩:=id hr
 have e:=zp6 hu
 subst e
 refine ⟨V,R,rfl,hb,⟨fun w2 b=>tabE.stays (fun g hg=>⟨?_,b.block g hg.2⟩) hr⟩⟩
 exact Nat.lt_of_lt_of_le hg.2 b.size
theorem zdj.one {w:World} {V R:Value} {t:TabL} (h:zdj w V R t):V.oneCell'=true∧R.oneCell'=true:=⟨tabE.one h.here V (by simp),tabE.one h.here R (by simp)⟩
end Go.Proofs.YteclpnfckjfibaaGreatDoor
