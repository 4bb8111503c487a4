/- Texts of one kind, one behind the other: each says ahead of itself what it shows. -/
import Derived.Test.YteclpnfckjfibaaGreatDoorAba
import Derived.Test.YteclpnfckjfibaaGreatDoorAam
import Derived.Lib.SmallJoins
import Derived.HandedShaped
import Derived.WideShapes
import Derived.Test.YteclpnfckjfibaaGreatDoorAaz
import Derived.Test.YteclpnfckjfibaaGreatDoorAae
/- R2 -/
namespace Go.Proofs.YteclpnfckjfibaaGreatDoor
open Go.RowKit Go.ChangeShapes
variable {H:Type} {enc:TypeId × Value→H}
theorem zmc {W:World} {n:Nat} {cs:List Value} {y:DataW H × List MemPlace} (h:DataW.trod enc Tryz.prog W 0 (fun _=>true) true n 48 cs=some y):
 ∃ n' k b m t x L yl,n=n'+1∧cs=[.int .i64 k,.bool b,.int .i64 m,.string t,.string x,L]∧DataW.trod enc Tryz.prog W 0 (fun _=>true) true n' 43 [L]=some yl∧
  1+t.size+x.size+Rows.uptoBulk yl.1≤Rows.uptoBulk y.1∧(Lit.int .i64 m).wf=true:=by
 obtain ⟨xs,n',rfl,rfl,hl,hlen,hf⟩:=DataW.trod_struct Tryz.underlying48 h
 obtain ⟨c0,c1,c2,c3,c4,c5,rfl⟩:=list6 (hl.trans (by kernel_rfl:Tryz.prog.cellsOf 48=6))
 obtain ⟨y0,y1,y2,y3,y4,y5,rfl⟩:=list6 (hlen.trans rfl)
 have e1:Tryz.prog.cellsOf 3=1:=by kernel_rfl
 have e2:Tryz.prog.cellsOf 4=1:=by kernel_rfl
 have e3:Tryz.prog.cellsOf 2=1:=by kernel_rfl
 have e4:Tryz.prog.cellsOf 9=1:=by kernel_rfl
 have e5:Tryz.prog.cellsOf 43=1:=by kernel_rfl
 have h0:DataW.trod enc Tryz.prog W 0 (fun _=>true) true n' 3 (([c0,c1,c2,c3,c4,c5].drop 0).take (Tryz.prog.cellsOf 3))=[y0,y1,y2,y3,y4,y5][0]?:=hf 0 _ rfl
 have h1:DataW.trod enc Tryz.prog W 0 (fun _=>true) true n' 4 (([c0,c1,c2,c3,c4,c5].drop 1).take (Tryz.prog.cellsOf 4))=[y0,y1,y2,y3,y4,y5][1]?:=hf 1 _ rfl
 have h2:DataW.trod enc Tryz.prog W 0 (fun _=>true) true n' 2 (([c0,c1,c2,c3,c4,c5].drop 2).take (Tryz.prog.cellsOf 2))=[y0,y1,y2,y3,y4,y5][2]?:=hf 2 _ rfl
 have h3:DataW.trod enc Tryz.prog W 0 (fun _=>true) true n' 9 (([c0,c1,c2,c3,c4,c5].drop 3).take (Tryz.prog.cellsOf 9))=[y0,y1,y2,y3,y4,y5][3]?:=hf 3 _ rfl
 have h4:DataW.trod enc Tryz.prog W 0 (fun _=>true) true n' 9 (([c0,c1,c2,c3,c4,c5].drop 4).take (Tryz.prog.cellsOf 9))=[y0,y1,y2,y3,y4,y5][4]?:=hf 4 _ rfl
 have h5:DataW.trod enc Tryz.prog W 0 (fun _=>true) true n' 43 (([c0,c1,c2,c3,c4,c5].drop 5).take (Tryz.prog.cellsOf 43))=[y0,y1,y2,y3,y4,y5][5]?:=hf 5 _ rfl
 rw [e1] at h0
 rw [e2] at h1
 rw [e3] at h2
 rw [e4] at h3 h4
 rw [e5] at h5
 replace h0:DataW.trod enc Tryz.prog W 0 (fun _=>true) true n' 3 [c0]=some y0:=h0
 replace h1:DataW.trod enc Tryz.prog W 0 (fun _=>true) true n' 4 [c1]=some y1:=h1
 replace h2:DataW.trod enc Tryz.prog W 0 (fun _=>true) true n' 2 [c2]=some y2:=h2
 replace h3:DataW.trod enc Tryz.prog W 0 (fun _=>true) true n' 9 [c3]=some y3:=h3
 replace h4:DataW.trod enc Tryz.prog W 0 (fun _=>true) true n' 9 [c4]=some y4:=h4
 replace h5:DataW.trod enc Tryz.prog W 0 (fun _=>true) true n' 43 [c5]=some y5:=h5
 obtain ⟨k,a0,_,_⟩:=DataW.trod_int Tryz.underlying3 h0
 obtain ⟨b,a1,_⟩:=DataW.trod_bool Tryz.underlying4 h1
 obtain ⟨m,a2,_,wm⟩:=DataW.trod_int Tryz.underlying2 h2
 obtain ⟨t,a3,z3,_⟩:=DataW.trod_string Tryz.underlying9 h3
 obtain ⟨x,a4,z4,_⟩:=DataW.trod_string Tryz.underlying9 h4
 simp only [List.cons.injEq,and_true] at a0 a1 a2 a3 a4
 subst a0 a1 a2 a3 a4
 refine ⟨n',k,b,m,t,x,c5,y5,rfl,rfl,h5,?_,wm⟩
 have a3:Rows.uptoBulk y3.1=t.size+1:=by
  rw [z3]
  have e':t.data.toList.length=t.size:=Array.length_toList
  show t.data.toList.length+1=_
  rw [e']
 have a4:Rows.uptoBulk y4.1=x.size+1:=by
  rw [z4]
  have e':x.data.toList.length=x.size:=Array.length_toList
  show x.data.toList.length+1=_
  rw [e']
 have a:Rows.uptoBulkAll ([y0,y1,y2,y3,y4,y5].map (·.1))=Rows.uptoBulk y0.1+(Rows.uptoBulk y1.1+(Rows.uptoBulk y2.1+(Rows.uptoBulk y3.1+(Rows.uptoBulk y4.1+(Rows.uptoBulk y5.1+0))))):=rfl
 show _≤Rows.uptoBulkAll _+1
 rw [a,a3,a4]
 omega
set_option maxRecDepth 20000 in
theorem zn4 {W:World} (B:Nat) (hBB:B≤2097152):∀ (N n:Nat),n≤N→∀ (L:Value) (y:DataW H × List MemPlace),DataW.trod enc Tryz.prog W 0 (fun _=>true) true n 43 [L]=some y→Rows.uptoBulk y.1≤B→∃ l,Held W L l∧wAll l≤Rows.uptoBulk y.1:=by
 intro N
 induction N with
 | zero=>
   intro n hn L y h _
   obtain rfl:n=0:=by omega
   simp [DataW.trod] at h
 | succ N IH=>
   intro n0 hn0 L y h hB
   rcases DataW.trod_slice Tryz.underlying43 h with ⟨e,_⟩ | ⟨a,len,cap,elems,rest,n1,hn,e,rfl,hb,hl,hm,hlen,hel,_,_⟩
   ·obtain rfl:L=.slice none 0 0:=by simpa using e
    exact ⟨[],by unfold Held;exact ⟨none,0,rfl⟩,by simp [wAll]⟩
   ·obtain rfl:L=.slice (some a) len cap:=by simpa using e
    rw [show Tryz.prog.cellsOf 48=6 by kernel_rfl] at hel
    have hE1:Rows.uptoBulkAll (elems.map (·.1))+Rows.uptoBulkAll (rest.map (·.1))+1≤B:=hB
    have hE:Rows.uptoBulkAll (elems.map (·.1))≤B:=by omega
    have hln:len≤B:=by
     have:=zn3 (elems.map (·.1))
     simp only [List.length_map] at this
     omega
    have each:∀ i,i < len→∃ k b m t x l p,(∀ j v,[Value.int .i64 k,.bool b,.int .i64 m,.string t,.string x,p][j]?=some v→W.cell? ((a.add (i*6)).add j)=some v)∧Fine m t x (List.length (α:=Val) l)∧Held W p l∧∀ h:i < elems.length,1+t.size+x.size+wAll l≤Rows.uptoBulk elems[i].1:=by
     intro i hi
     have h1:=hel i hi
     have hi':i < elems.length:=by omega
     rw [List.getElem?_eq_getElem hi',Option.bind_eq_some_iff] at h1
     obtain ⟨cs,hcs,hy⟩:=h1
     obtain ⟨c1,c2⟩:=zm3 hcs
     obtain ⟨n',k,b,m,t,x,p,yl,hn',rfl,hp,hpl,wm⟩:=zmc hy
     have hbe:Rows.uptoBulk elems[i].1≤B:=Nat.le_trans (zn2 (List.mem_map_of_mem (List.getElem_mem hi'))) hE
     obtain ⟨l,hheld,hll⟩:=IH n' (by omega) p yl hp (by omega)
     obtain ⟨w1,w2⟩:=i64_wf wm
     have hll2:=znh l
     refine ⟨k,b,m,t,x,l,p,fun j v hv=>?_,⟨by omega,by omega,by omega,w1,w2⟩,hheld,fun _=>by omega⟩
     have hj:j < 6:=by
      have:=(List.getElem?_eq_some_iff.1 hv).1
      simpa using this
     rw [c2 j hj,hv]
    by_cases h0:len=0
    ·subst h0
     exact ⟨[],by unfold Held;exact ⟨some a,cap,rfl⟩,by simp [wAll]⟩
    ·have hsp:a.spot=none:=by
      obtain ⟨k,b,m,t,x,l,p,hc,_,_,_⟩:=each 0 (by omega)
      have h0:=hc 0 _ rfl
      cases kk:a.spot with
      | none=>rfl
      | some mm=>
        rw [show (a.add (0*6)).add 0=a by simp [Addr.add]] at h0
        unfold World.cell? at h0
        rw [kk] at h0
        split at h0 <;> simp at h0
     obtain ⟨g,off,spot⟩:=a
     simp only at hsp
     subst hsp
     have build:∀ m,m≤len→∃ l:List Val,l.length=m∧zb0 W g (off+(len - m)*6) l∧wAll l≤Rows.uptoBulkAll ((elems.map (·.1)).drop (len - m)):=by
      intro m
      induction m with
      | zero=>exact fun _=>⟨[],rfl,by unfold zb0;trivial,by simp [wAll]⟩
      | succ m ih=>
        intro hm1
        obtain ⟨l,hll,hh,hwl⟩:=ih (by omega)
        obtain ⟨k,b,mm,t,x,q,p,hc,hf,hp,hwe⟩:=each (len - (m+1)) (by omega)
        have ea:∀ j,((⟨g,off,none⟩:Addr).add ((len - (m+1))*6)).add j=⟨g,off+(len - (m+1))*6+j,none⟩:=fun j=>by rw [zhp,zhp]
        refine ⟨.mk k b mm t x q::l,by simp [hll],?_⟩
        have hi2:len - (m+1) < elems.length:=by omega
        have hd:(elems.map (·.1)).drop (len - (m+1))=elems[len - (m+1)].1::(elems.map (·.1)).drop (len - m):=by
         rw [List.drop_eq_getElem_cons (by simpa using hi2),List.getElem_map,show len - (m+1)+1=len - m by omega]
        refine ⟨?_,?_⟩
        rotate_left
        ·rw [hd]
         have:=hwe hi2
         unfold wAll wOne Rows.uptoBulkAll
         omega
        unfold zb0
        refine ⟨?_,?_⟩
        ·unfold za4
         have hcj:=fun j v hv=>(congrArg W.cell? (ea j)).symm.trans (hc j v hv)
         exact ⟨hcj 0 _ rfl,hcj 1 _ rfl,hcj 2 _ rfl,hcj 3 _ rfl,hcj 4 _ rfl,hf,p,hcj 5 _ rfl,hp⟩
        ·rw [show off+(len - (m+1))*6+6=off+(len - m)*6 by omega]
         exact hh
     obtain ⟨l,hll,hh,hwl⟩:=build len (Nat.le_refl _)
     rw [Nat.sub_self,Nat.zero_mul,Nat.add_zero] at hh
     rw [Nat.sub_self,List.drop_zero] at hwl
     refine ⟨l,?_,by show wAll l≤Rows.uptoBulkAll (elems.map (·.1))+Rows.uptoBulkAll (rest.map (·.1))+1;omega⟩
     cases l with
     | nil=>simp at hll;omega
     | cons v r=>
       unfold zb0 at hh
       unfold Held
       exact ⟨g,off,cap,by rw [← hll];rfl,hh.1,hh.2⟩
end Go.Proofs.YteclpnfckjfibaaGreatDoor

/- GR -/
namespace Go.Proofs.YteclpnfckjfibaaGreatDoor
open Go.RowKit Go.ChangeShapes Go.WideShapes
theorem za4.lt {w:World} {g off:Nat}:(v:Val)→za4 w g off v→g < w.heap.size
 | .mk k b n t x l,h=>by
   unfold za4 at h
   exact World.block_lt_of_cell? w _ h.1
mutual
theorem za4.old {w:World} {g off:Nat}:(v:Val)→za4 w g off v→za8 w (Old w) g off v
 | .mk k b n t x l,h=>by
   unfold za4 at h
   unfold za8
   obtain ⟨h0,h1,h2,h3,h4,hf,L,h5,hl⟩:=h
   exact ⟨h0,h1,h2,h3,h4,hf,L,h5,Held.old l hl⟩
theorem Held.old {w:World} {L:Value}:(l:List Val)→Held w L l→zbf w (Old w) L l
 | [],h=>by
   unfold Held at h
   unfold zbf
   exact h
 | v::r,h=>by
   unfold Held at h
   unfold zbf
   obtain ⟨g,off,cap,e,hv,hr⟩:=h
   exact ⟨g,off,cap,e,za4.lt v hv,za4.old v hv,zb0.old r hr⟩
theorem zb0.old {w:World} {g off:Nat}:(l:List Val)→zb0 w g off l→zb2 w (Old w) g off l
 | [],_=>by unfold zb2;trivial
 | v::r,h=>by
   unfold zb0 at h
   unfold zb2
   exact ⟨za4.old v h.1,zb0.old r h.2⟩
end
theorem zqa {w:World} {g o:Nat} {a b:List Value} (h:w.rangeAt g o a) (k:w.rangeAt g (o+a.length) b):w.rangeAt g o (a++b):=fun j u hj=>by
 by_cases q:j < a.length
 ·rw [List.getElem?_append_left q] at hj
  exact h j u hj
 ·rw [List.getElem?_append_right (by omega)] at hj
  have:=k (j - a.length) u hj
  rwa [show o+a.length+(j - a.length)=o+j by omega] at this
theorem RowE.imp {α:Type} {E E':Elem α} {w:World} {P:Nat→Prop} (hi:∀ c a,E.rel w P c a→E'.rel w P c a):{xs:List Value}→(l:List α)→RowE E w P xs l→RowE E' w P xs l
 | _,[],h=>by
   unfold RowE at h ⊢
   exact h
 | _,a::l,h=>by
   unfold RowE at h ⊢
   obtain ⟨c,ys,e,hc,hr⟩:=h
   exact ⟨c,ys,e,hi c a hc,RowE.imp hi l hr⟩
theorem RowE.each {α:Type} {E:Elem α} {w:World} {P:Nat→Prop}:{xs:List Value}→(l:List α)→RowE E w P xs l→∀ a∈l,∃ c,E.rel w P c a
 | _,[],_,a,h=>by simp at h
 | _,b::l,h,a,ha=>by
   unfold RowE at h
   obtain ⟨c,ys,e,hc,hr⟩:=h
   rcases List.mem_cons.1 ha with q | q
   ·subst q
    exact ⟨c,hc⟩
   ·exact RowE.each l hr a q
theorem zah.imp {α:Type} {E E':Elem α} {w:World} {P:Nat→Prop} {v:Value} {l:List α} (hi:∀ c a,E.rel w P c a→E'.rel w P c a) (h:zah E w P v l):zah E' w P v l:=by
 obtain ⟨p,cap,e,hh⟩:=h
 refine ⟨p,cap,e,fun hne=>?_⟩
 obtain ⟨g,off,xs,h1,h2,h3,h4⟩:=hh hne
 exact ⟨g,off,xs,h1,h2,h3,RowE.imp hi l h4⟩
theorem zah.each {α:Type} {E:Elem α} {w:World} {P:Nat→Prop} {v:Value} {l:List α} (h:zah E w P v l):∀ a∈l,∃ c,E.rel w P c a:=by
 obtain ⟨p,cap,e,hh⟩:=h
 intro a ha
 obtain ⟨g,off,xs,h1,h2,h3,h4⟩:=hh (List.ne_nil_of_mem ha)
 exact RowE.each l h4 a ha
def zyt:Elem (List Val) where
 k:=1
 rel:=fun w P xs r=>rowE.rel w P xs r∧wAll r≤2097152
 len:=fun h=>rowE.len h.1
 one:=fun h=>rowE.one h.1
 stays:=fun s h=>⟨rowE.stays s h.1,h.2⟩
section
variable {H:Type} {enc:TypeId × Value→H}
theorem zt2 {W:World} {B n ty ety size:Nat} {L:Value} {y:DataW H × List MemPlace} (hu:Tryz.prog.underlying ty=some (.slice ety)) (hsz:Tryz.prog.cellsOf ety=size) (h0s:0 < size)
 (h:DataW.trod enc Tryz.prog W 0 (fun _=>true) true n ty [L]=some y) (hB:Rows.uptoBulk y.1≤B):
 ∃ p len cap,L=.slice p len cap∧len≤B∧(len=0∨∃ g off,p=some ⟨g,off,none⟩∧∀ i,i < len→∃ n' cs yi,DataW.trod enc Tryz.prog W 0 (fun _=>true) true n' ety cs=some yi∧Rows.uptoBulk yi.1≤B∧∀ j,j < size→W.cell? ⟨g,off+i*size+j,none⟩=cs[j]?):=by
 cases n with
 | zero=>simp [DataW.trod] at h
 | succ n0=>
   rcases DataW.trod_slice hu h with ⟨e,_⟩ | ⟨a,len,cap,elems,rest,n1,hn,e,rfl,hb,hl,hm,hlen,hel,_,_⟩
   ·obtain rfl:L=.slice none 0 0:=by simpa using e
    exact ⟨none,0,0,rfl,Nat.zero_le _,.inl rfl⟩
   ·obtain rfl:L=.slice (some a) len cap:=by simpa using e
    rw [hsz] at hel
    have hE1:Rows.uptoBulkAll (elems.map (·.1))+Rows.uptoBulkAll (rest.map (·.1))+1≤B:=hB
    have hE:Rows.uptoBulkAll (elems.map (·.1))≤B:=by omega
    have hln:len≤B:=by
     have:=zn3 (elems.map (·.1))
     simp only [List.length_map] at this
     omega
    have each:∀ i,i < len→∃ n' cs yi,DataW.trod enc Tryz.prog W 0 (fun _=>true) true n' ety cs=some yi∧Rows.uptoBulk yi.1≤B∧∀ j,j < size→W.cell? ((a.add (i*size)).add j)=cs[j]?∧cs.length=size:=by
     intro i hi
     have h1:=hel i hi
     have hi':i < elems.length:=by omega
     rw [List.getElem?_eq_getElem hi',Option.bind_eq_some_iff] at h1
     obtain ⟨cs,hcs,hy⟩:=h1
     obtain ⟨c1,c2⟩:=zm3 hcs
     exact ⟨_,cs,_,hy,Nat.le_trans (zn2 (List.mem_map_of_mem (List.getElem_mem hi'))) hE,fun j hj=>⟨c2 j hj,c1⟩⟩
    refine ⟨some a,len,cap,rfl,hln,?_⟩
    by_cases h0:len=0
    ·exact .inl h0
    ·right
     have hsp:a.spot=none:=by
      obtain ⟨n',cs,yi,_,_,hc⟩:=each 0 (by omega)
      have hc0:=hc 0 h0s
      obtain ⟨z,hz⟩:∃ z,cs[0]?=some z:=⟨_,List.getElem?_eq_getElem (by rw [hc0.2];exact h0s)⟩
      have h0:=hc0.1.trans hz
      cases kk:a.spot with
      | none=>rfl
      | some mm=>
        rw [show (a.add (0*size)).add 0=a by simp [Addr.add]] at h0
        unfold World.cell? at h0
        rw [kk] at h0
        split at h0 <;> simp at h0
     obtain ⟨g,off,spot⟩:=a
     simp only at hsp
     subst hsp
     refine ⟨g,off,rfl,fun i hi=>?_⟩
     obtain ⟨n',cs,yi,h1,h2,h3⟩:=each i hi
     refine ⟨n',cs,yi,h1,h2,fun j hj=>?_⟩
     have:=(h3 j hj).1
     rwa [zhp,zhp] at this
theorem ze0 {α:Type} {E:Elem α} {W:World} {B n ty ety:Nat} {L:Value} {y:DataW H × List MemPlace} (hu:Tryz.prog.underlying ty=some (.slice ety)) (hsz:Tryz.prog.cellsOf ety=E.k) (h0:0 < E.k)
 (each:∀ (n':Nat) (cs:List Value) (yi:DataW H × List MemPlace),DataW.trod enc Tryz.prog W 0 (fun _=>true) true n' ety cs=some yi→Rows.uptoBulk yi.1≤B→∃ a,E.rel W (Old W) cs a)
 (h:DataW.trod enc Tryz.prog W 0 (fun _=>true) true n ty [L]=some y) (hB:Rows.uptoBulk y.1≤B):∃ l,zah E W (Old W) L l∧l.length≤B:=by
 obtain ⟨p,len,cap,rfl,hln,hh⟩:=zt2 (B:=B) (size:=E.k) hu hsz h0 h hB
 rcases hh with rfl | ⟨g,off,rfl,eachc⟩
 ·exact ⟨[],zah.nil _ _,Nat.zero_le _⟩
 ·have build:∀ m,m≤len→∃ (l:List α) (xs:List Value),l.length=m∧W.rangeAt g (off+(len - m)*E.k) xs∧RowE E W (Old W) xs l∧(0 < m→g < W.heap.size):=by
   intro m
   induction m with
   | zero=>exact fun _=>⟨[],[],rfl,fun j u hj=>by simp at hj,rfl,fun h=>absurd h (Nat.lt_irrefl _)⟩
   | succ m ih=>
     intro hm1
     obtain ⟨l,xs,hll,hr,hrow,_⟩:=ih (by omega)
     obtain ⟨n',cs,yi,h1,h2,h3⟩:=eachc (len - (m+1)) (by omega)
     obtain ⟨a,ha⟩:=each n' cs yi h1 h2
     have hlen:=E.len ha
     have hc:W.rangeAt g (off+(len - (m+1))*E.k) cs:=fun j u hj=>by
      rw [h3 j (by rw [← hlen];exact (List.getElem?_eq_some_iff.1 hj).1)]
      exact hj
     refine ⟨a::l,cs++xs,by simp [hll],zqa hc ?_,⟨cs,xs,rfl,ha,hrow⟩,fun _=>?_⟩
     ·rw [hlen,show off+(len - (m+1))*E.k+E.k=off+(len - m)*E.k by
       rw [show len - m=(len - (m+1))+1 by omega,Nat.add_mul,Nat.one_mul,Nat.add_assoc]]
      exact hr
     ·exact World.block_lt_of_cell? W _ (hc 0 cs[0] (List.getElem?_eq_getElem (by omega)))
  obtain ⟨l,xs,hll,hr,hrow,hg⟩:=build len (Nat.le_refl _)
  rw [Nat.sub_self,Nat.zero_mul,Nat.add_zero] at hr
  refine ⟨l,⟨_,cap,by rw [hll],fun hne=>⟨g,off,xs,rfl,hg ?_,hr,hrow⟩⟩,by omega⟩
  have:0 < l.length:=List.length_pos_iff.2 hne
  omega
theorem zqb {W:World} {B n:Nat} {cs:List Value} {y:DataW H × List MemPlace} (hBB:B≤2097152) (h:DataW.trod enc Tryz.prog W 0 (fun _=>true) true n 9 cs=some y) (hB:Rows.uptoBulk y.1≤B):∃ t,zax.rel W (Old W) cs t:=by
 obtain ⟨t,a3,z3,_⟩:=DataW.trod_string Tryz.underlying9 h
 rw [z3] at hB
 have e:Rows.uptoBulk (.lit (.string t.data.toList):DataW H)=t.data.toList.length+1:=rfl
 have e':t.data.toList.length=t.size:=Array.length_toList
 rw [e,e'] at hB
 exact ⟨t,a3,by omega⟩
theorem zhq {W:World} {B n:Nat} {L:Value} {y:DataW H × List MemPlace} (hBB:B≤2097152) (h:DataW.trod enc Tryz.prog W 0 (fun _=>true) true n 22 [L]=some y) (hB:Rows.uptoBulk y.1≤B):∃ l,zah zax W (Old W) L l∧l.length≤B:=
 ze0 (E:=zax) Tryz.underlying22 (by kernel_rfl) (by decide) (fun _ _ _ h hb=>zqb hBB h hb) h hB
theorem zed {W:World} {n ty ety:Nat} {L:Value} {y:DataW H × List MemPlace} (hu:Tryz.prog.underlying ty=some (.slice ety)) (h:DataW.trod enc Tryz.prog W 0 (fun _=>true) true n ty [L]=some y):capK L:=by
 cases n with
 | zero=>simp [DataW.trod] at h
 | succ n0=>
 rcases DataW.trod_slice hu h with ⟨e,_⟩ | ⟨a,len,cap,elems,rest,n1,hn,e,rfl,hb,hl,hm,hlen,hel,_,_⟩
 ·obtain rfl:L=.slice none 0 0:=by simpa using e
  exact znc
 ·obtain rfl:L=.slice (some a) len cap:=by simpa using e
  clear hel h hm hb
  refine ⟨fun p m c e=>?_,fun m c e=>?_⟩
  ·cases e
   exact hl
  ·cases e
theorem zqc {W:World} {B n:Nat} {cs:List Value} {y:DataW H × List MemPlace} (hBB:B≤2097152) (h:DataW.trod enc Tryz.prog W 0 (fun _=>true) true n 43 cs=some y) (hB:Rows.uptoBulk y.1≤B):∃ r,zyt.rel W (Old W) cs r:=by
 obtain ⟨L,rfl⟩:∃ L,cs=[L]:=by
  cases n with
  | zero=>simp [DataW.trod] at h
  | succ n0=>
    rcases DataW.trod_slice Tryz.underlying43 h with ⟨e,_⟩ | ⟨a,len,cap,elems,rest,n1,hn,e,_⟩
    ·exact ⟨_,e⟩
    ·exact ⟨_,e⟩
 obtain ⟨l,hl,hw⟩:=zn4 B hBB n n (Nat.le_refl _) L y h hB
 refine ⟨l,⟨L,rfl,zfe l (Held.old l hl),zed Tryz.underlying43 h,?_⟩,by omega⟩
 exact Nat.le_trans (znh l) (Nat.le_trans hw (Nat.le_trans hB hBB))
theorem zqd {W:World} {B n:Nat} {L:Value} {y:DataW H × List MemPlace} (hBB:B≤2097152) (h:DataW.trod enc Tryz.prog W 0 (fun _=>true) true n 23 [L]=some y) (hB:Rows.uptoBulk y.1≤B):∃ l,zah zyt W (Old W) L l∧l.length≤B:=by
 have hsz:Tryz.prog.cellsOf 43=1:=by kernel_rfl
 exact ze0 (E:=zyt) Tryz.underlying23 hsz (by decide) (fun _ _ _ h1 h2=>zqc hBB h1 h2) h hB
theorem list2 {α:Type} {l:List α} (h:l.length=2):∃ a b,l=[a,b]:=by
 match l,h with
 | [a,b],_=>exact ⟨a,b,rfl⟩
theorem list7 {α:Type} {l:List α} (h:l.length=7):∃ a b c d e f g,l=[a,b,c,d,e,f,g]:=by
 match l,h with
 | [a,b,c,d,e,f,g],_=>exact ⟨a,b,c,d,e,f,g,rfl⟩
theorem array7 {α:Type} {cs:Array α} (h:cs.size=7):∃ a b c d e f g,cs=#[a,b,c,d,e,f,g]:=by
 obtain ⟨l⟩:=cs
 obtain ⟨a,b,c,d,e,f,g,rfl⟩:=list7 (l:=l) h
 exact ⟨a,b,c,d,e,f,g,rfl⟩
theorem zhr {W:World} {B n:Nat} {cs:List Value} {y:DataW H × List MemPlace} (hBB:B≤2097152) (h:DataW.trod enc Tryz.prog W 0 (fun _=>true) true n 25 cs=some y) (hB:Rows.uptoBulk y.1≤B):∃ V R t,cs=[V,R]∧tabE.rel W (Old W) [V,R] t∧∀ r∈t.rows,wAll r≤2097152:=by
 obtain ⟨ws,n2,rfl,hw,hl,hlen2,hf2⟩:=DataW.trod_struct Tryz.underlying25 h
 obtain ⟨c0,c1,rfl⟩:=list2 (hl.trans (by kernel_rfl:Tryz.prog.cellsOf 25=2))
 obtain ⟨w0,w1,rfl⟩:=list2 (hlen2.trans rfl)
 have e22:Tryz.prog.cellsOf 22=1:=by kernel_rfl
 have e23:Tryz.prog.cellsOf 23=1:=by kernel_rfl
 have g0:DataW.trod enc Tryz.prog W 0 (fun _=>true) true n2 22 (([c0,c1].drop 0).take (Tryz.prog.cellsOf 22))=[w0,w1][0]?:=hf2 0 _ rfl
 have g1:DataW.trod enc Tryz.prog W 0 (fun _=>true) true n2 23 (([c0,c1].drop 1).take (Tryz.prog.cellsOf 23))=[w0,w1][1]?:=hf2 1 _ rfl
 rw [e22] at g0
 rw [e23] at g1
 replace g0:DataW.trod enc Tryz.prog W 0 (fun _=>true) true n2 22 [c0]=some w0:=g0
 replace g1:DataW.trod enc Tryz.prog W 0 (fun _=>true) true n2 23 [c1]=some w1:=g1
 have hy0:y.1=.agg [w0.1,w1.1]:=congrArg Prod.fst hw
 rw [hy0] at hB
 have hall:Rows.uptoBulk w0.1+(Rows.uptoBulk w1.1+0)+1≤B:=hB
 obtain ⟨vs,hvs,bv⟩:=zhq hBB g0 (by omega)
 obtain ⟨rs,hrs,br⟩:=zqd hBB g1 (by omega)
 refine ⟨c0,c1,⟨vs,rs⟩,rfl,⟨c0,c1,rfl,hvs,zah.imp (E:=zyt) (E':=rowE) (fun _ _ h=>h.1) hrs,zed Tryz.underlying22 g0,zed Tryz.underlying23 g1,by show vs.length≤2097152;omega,by show rs.length≤2097152;omega⟩,fun r hr=>?_⟩
 obtain ⟨c,hc⟩:=hrs.each r hr
 exact hc.2
theorem zim {W:World} {n:Nat} {cs:List Value} {y:DataW H × List MemPlace} (h:DataW.trod enc Tryz.prog W 0 (fun _=>true) true n 3 cs=some y):∃ z,intE.rel W (Old W) cs z:=by
 obtain ⟨m,a0,_,wm⟩:=DataW.trod_int Tryz.underlying3 h
 exact ⟨m,a0,wm⟩
theorem zqe {W:World} {B n:Nat} {L:Value} {y:DataW H × List MemPlace} (h:DataW.trod enc Tryz.prog W 0 (fun _=>true) true n 26 [L]=some y) (hB:Rows.uptoBulk y.1≤B):∃ l,zah intE W (Old W) L l∧l.length≤B:=
 ze0 (E:=intE) Tryz.underlying26 (by kernel_rfl) (by decide) (fun _ _ _ h _=>zim h) h hB
structure TwoIs (W:World) (B:Nat) (v:Value) where
 a:TabL
 b:TabL
 vs:List ByteArray
 lang:Int
 ns:List Int
 VA:Value
 RA:Value
 VB:Value
 RB:Value
 VV:Value
 NV:Value
 is:v=.agg #[VA,RA,VB,RB,VV,.int .i64 lang,NV]
 two:zrk W a b VA RA VB RB
 hv:zah zax W (Old W) VV vs
 hn:zah intE W (Old W) NV ns
 cv:capK VV
 cn:capK NV
 wl:(Lit.int .i64 lang).wf=true
 bs:vs.length≤B∧ns.length≤B
set_option maxHeartbeats 1600000 in
set_option maxRecDepth 20000 in
theorem zrl {W:World} {base B:Nat} {v:Value} {d:DataW H} {p:List MemPlace} (hBB:B≤2097152) (hv:Value.okWide Tryz.prog W .any base 28 v) (h:DataW.Trod enc Tryz.prog W 0 (fun _=>true) true 28 v d p) (hB:Rows.uptoBulk d≤B):
 Nonempty (TwoIs W B v):=by
 obtain ⟨cs,rfl,hsz⟩:=okWide_struct Tryz.underlying28 hv
 obtain ⟨c0,c1,c2,c3,c4,c5,c6,rfl⟩:=array7 (hsz.trans (by kernel_rfl:Tryz.prog.cellsOf 28=7))
 obtain ⟨fuel,hf⟩:=h
 obtain ⟨xs,n',_,hx,hl,hlen,hfs⟩:=DataW.trod_struct Tryz.underlying28 hf
 obtain ⟨y0,y1,y2,y3,y4,rfl⟩:∃ a b c d e,xs=[a,b,c,d,e]:=by
  match xs,hlen with
  | [a,b,c,d,e],_=>exact ⟨a,b,c,d,e,rfl⟩
 have e25:Tryz.prog.cellsOf 25=2:=by kernel_rfl
 have e22:Tryz.prog.cellsOf 22=1:=by kernel_rfl
 have e3:Tryz.prog.cellsOf 3=1:=by kernel_rfl
 have e26:Tryz.prog.cellsOf 26=1:=by kernel_rfl
 have h0:DataW.trod enc Tryz.prog W 0 (fun _=>true) true n' 25 (([c0,c1,c2,c3,c4,c5,c6].drop 0).take (Tryz.prog.cellsOf 25))=[y0,y1,y2,y3,y4][0]?:=hfs 0 _ rfl
 have h1:DataW.trod enc Tryz.prog W 0 (fun _=>true) true n' 25 (([c0,c1,c2,c3,c4,c5,c6].drop 2).take (Tryz.prog.cellsOf 25))=[y0,y1,y2,y3,y4][1]?:=hfs 1 _ rfl
 have h2:DataW.trod enc Tryz.prog W 0 (fun _=>true) true n' 22 (([c0,c1,c2,c3,c4,c5,c6].drop 4).take (Tryz.prog.cellsOf 22))=[y0,y1,y2,y3,y4][2]?:=hfs 2 _ rfl
 have h3:DataW.trod enc Tryz.prog W 0 (fun _=>true) true n' 3 (([c0,c1,c2,c3,c4,c5,c6].drop 5).take (Tryz.prog.cellsOf 3))=[y0,y1,y2,y3,y4][3]?:=hfs 3 _ rfl
 have h4:DataW.trod enc Tryz.prog W 0 (fun _=>true) true n' 26 (([c0,c1,c2,c3,c4,c5,c6].drop 6).take (Tryz.prog.cellsOf 26))=[y0,y1,y2,y3,y4][4]?:=hfs 4 _ rfl
 rw [e25] at h0 h1
 rw [e22] at h2
 rw [e3] at h3
 rw [e26] at h4
 replace h0:DataW.trod enc Tryz.prog W 0 (fun _=>true) true n' 25 [c0,c1]=some y0:=h0
 replace h1:DataW.trod enc Tryz.prog W 0 (fun _=>true) true n' 25 [c2,c3]=some y1:=h1
 replace h2:DataW.trod enc Tryz.prog W 0 (fun _=>true) true n' 22 [c4]=some y2:=h2
 replace h3:DataW.trod enc Tryz.prog W 0 (fun _=>true) true n' 3 [c5]=some y3:=h3
 replace h4:DataW.trod enc Tryz.prog W 0 (fun _=>true) true n' 26 [c6]=some y4:=h4
 have hd:d=.agg [y0.1,y1.1,y2.1,y3.1,y4.1]:=congrArg Prod.fst hx
 subst hd
 have hall:Rows.uptoBulk y0.1+(Rows.uptoBulk y1.1+(Rows.uptoBulk y2.1+(Rows.uptoBulk y3.1+(Rows.uptoBulk y4.1+0))))+1≤B:=hB
 obtain ⟨VA,RA,a,ea,ha,wa⟩:=zhr hBB h0 (by omega)
 obtain ⟨VB,RB,b,eb,hb,wb⟩:=zhr hBB h1 (by omega)
 cases ea
 cases eb
 obtain ⟨vs,hvs,bv⟩:=zhq hBB h2 (by omega)
 obtain ⟨ns,hns,bn⟩:=zqe (B:=B) h4 (by omega)
 obtain ⟨z,hz⟩:=zim h3
 obtain ⟨ez,wz⟩:=hz
 cases ez
 exact ⟨⟨a,b,vs,z,ns,_,_,_,_,c4,c6,rfl,⟨ha,hb,wa,wb⟩,hvs,hns,zed Tryz.underlying22 h2,zed Tryz.underlying26 h4,wz,bv,bn⟩⟩
end
end Go.Proofs.YteclpnfckjfibaaGreatDoor

/- PK -/
namespace Go.Proofs.YteclpnfckjfibaaGreatDoor
open Go.RowKit
theorem null_no:isB zfz=false:=by decide
end Go.Proofs.YteclpnfckjfibaaGreatDoor

/- PQ -/
namespace Go.Proofs.YteclpnfckjfibaaGreatDoor
open Go.RowKit
theorem zia {a b:TabL} (ha:tabP a=true) (hb:tabP b=true) (hl:a.vars.length+b.vars.length≤64) (h1:zbw a.rows) (h2:zbw b.rows):zbw (zb5 a b).rows:=by
 rw [zfm ha hb hl]
 exact zmb h1 h2
theorem zlz {a b:TabL} (ha:tabP a=true) (hb:tabP b=true) (hl:a.vars.length+b.vars.length≤64) (h1:zbw a.rows) (h2:zbw b.rows):zbw (zaw a b).rows:=by
 rw [zhj ha hb hl]
 exact zly (zh9 h1) (zh9 h2)
theorem zn5 {t:TabL} {V:List ByteArray} (h:tabP t=true) (hv:zdg V=true) (h1:zbw t.rows):zbw (zct t V).rows:=by
 rw [zfx h hv]
 exact zh9 h1
theorem zn6 {a b:TabL} (ha:tabP a=true) (hb:tabP b=true) (hl:a.vars.length+b.vars.length≤64):(zb5 a b).rows.length≤a.rows.length*b.rows.length:=by
 rw [zfm ha hb hl]
 exact zil _ _ _ _
theorem zqf {a b:TabL} (ha:tabP a=true) (hb:tabP b=true) (hl:a.vars.length+b.vars.length≤64):(zaw a b).rows.length=a.rows.length+b.rows.length:=by
 rw [zhj ha hb hl]
 simp [zbn]
theorem zqg {a b:TabL} (ha:tabP a=true) (hb:tabP b=true) (hl:a.vars.length+b.vars.length≤64):(zb5 a b).vars=zar a.vars b.vars:=by rw [zfm ha hb hl]
def zcs (b:TabL):TabL:=⟨b.vars,b.rows.take (b.rows.length / 2)⟩
def zc0 (b:TabL):TabL:=⟨b.vars,b.rows.drop (b.rows.length / 2)⟩
def zrm (a:TabL):List ByteArray:=a.vars.take (a.vars.length / 2)
structure zww (a b:TabL):Prop where
 hu:zaw (zcs b) (zc0 b)=b
 nu:(zaw (zcs b) (zc0 b)).rows.length≤2097152
 w1:WtOk a b
 w2:WtOk a (zcs b)
 w3:WtOk (zc8 a (zcs b)) (zc0 b)
 hm:zc8 a b=zc8 (zc8 a (zcs b)) (zc0 b)
 n1:(zb5 a b).rows.length≤2097152
 n2:(zb5 a (zcs b)).rows.length≤2097152
 w4:WtOk a (zc0 b)
 n3:(zb5 a (zc0 b)).rows.length≤2097152
 n4:(zaw (zb5 a (zcs b)) (zb5 a (zc0 b))).rows.length≤2097152
 v1:∀ r∈(zb5 a b).rows,13*wAll r≤700000000
 v2:∀ r∈(zaw (zb5 a (zcs b)) (zb5 a (zc0 b))).rows,13*wAll r≤700000000
 hj:zfk (zb5 a b) (zaw (zb5 a (zcs b)) (zb5 a (zc0 b)))=true
 n5:(zaw a b).rows.length≤2097152
 n6:(zaw b a).rows.length≤2097152
 n7:(zaw a b).vars.length≤2097152
 v3:∀ r∈(zaw a b).rows,13*wAll r≤700000000
 v4:∀ r∈(zct (zaw b a) (zaw a b).vars).rows,13*wAll r≤700000000
 hx:zfk (zaw a b) (zct (zaw b a) (zaw a b).vars)=true
 hp:zct (zct a a.vars) (zrm a)=zct a (zrm a)
 n8:(zaw a a).rows.length≤2097152
 v5:∀ r∈(zaw a a).rows,13*wAll r≤700000000
 v6:∀ r∈a.rows,13*wAll r≤700000000
 v7:∀ r∈(zhh (zaw a a)).rows,13*wAll r≤700000000
 v8:∀ r∈(zhh a).rows,13*wAll r≤700000000
 hd:zfk (zhh (zaw a a)) (zhh a)=true
theorem zyu {a b:TabL} (ha:tabP a=true) (hb:tabP b=true) (hl:a.vars.length+b.vars.length≤64) (hn:a.rows.length*b.rows.length≤900) (la:zbw a.rows) (lb:zbw b.rows) (na:a.rows.length≤60) (nb:b.rows.length≤60):zww a b:=by
 have hl':b.vars.length+a.vars.length≤64:=by omega
 have t1:tabP (zcs b)=true:=znw hb fun r hr=>List.mem_of_mem_take hr
 have t2:tabP (zc0 b)=true:=znw hb fun r hr=>List.mem_of_mem_drop hr
 have l1:zbw (zcs b).rows:=zhn lb fun r hr=>List.mem_of_mem_take hr
 have l2:zbw (zc0 b).rows:=zhn lb fun r hr=>List.mem_of_mem_drop hr
 have eb:(⟨b.vars,(zcs b).rows++(zc0 b).rows⟩:TabL)=b:=by
  show TabL.mk b.vars (b.rows.take (b.rows.length / 2)++b.rows.drop (b.rows.length / 2))=b
  rw [List.take_append_drop]
 have hl1:a.vars.length+(zcs b).vars.length≤64:=hl
 have hl2:a.vars.length+(zc0 b).vars.length≤64:=hl
 have hu:zaw (zcs b) (zc0 b)=b:=(zem (V:=b.vars) t1 t2).trans eb
 have tm:tabP (zc8 a (zcs b))=true:=zp7 ha t1
 have lm:zbw (zc8 a (zcs b)).rows:=by
  rw [zfv ha t1]
  exact zhn la fun r hr=>(List.mem_filter.1 hr).1
 have hm:zc8 a b=zc8 (zc8 a (zcs b)) (zc0 b):=by
  have h:=zre ha (V:=b.vars) (l:=(zcs b).rows) (m:=(zc0 b).rows) t1 t2
  rw [eb] at h
  exact h
 have hj:zfk (zb5 a b) (zaw (zb5 a (zcs b)) (zb5 a (zc0 b)))=true:=by
  have h:=ztr ha (V:=b.vars) (l:=(zcs b).rows) (m:=(zc0 b).rows) t1 t2 hl
  rw [eb] at h
  exact h
 have j0:=zfw ha hb hl
 have j1:=zfw ha t1 hl1
 have j2:=zfw ha t2 hl2
 have c1:(zcs b).rows.length≤60:=by show (b.rows.take _).length≤60;rw [List.length_take];omega
 have c2:(zc0 b).rows.length≤60:=by show (b.rows.drop _).length≤60;rw [List.length_drop];omega
 have m1:(zb5 a (zcs b)).rows.length≤3600:=Nat.le_trans (zn6 ha t1 hl1) (Nat.mul_le_mul na c1)
 have m2:(zb5 a (zc0 b)).rows.length≤3600:=Nat.le_trans (zn6 ha t2 hl2) (Nat.mul_le_mul na c2)
 have e1:zb5 a (zcs b)=⟨zar a.vars b.vars,(zb5 a (zcs b)).rows⟩:=by
  have:=zqg ha t1 hl1
  rw [show zar a.vars b.vars=(zb5 a (zcs b)).vars from this.symm]
 have e2:zb5 a (zc0 b)=⟨zar a.vars b.vars,(zb5 a (zc0 b)).rows⟩:=by
  have:=zqg ha t2 hl2
  rw [show zar a.vars b.vars=(zb5 a (zc0 b)).vars from this.symm]
 have e3:zaw (zb5 a (zcs b)) (zb5 a (zc0 b))=⟨zar a.vars b.vars,(zb5 a (zcs b)).rows++(zb5 a (zc0 b)).rows⟩:=by
  have h:=zem (V:=zar a.vars b.vars) (l:=(zb5 a (zcs b)).rows) (m:=(zb5 a (zc0 b)).rows) (e1 ▸ j1) (e2 ▸ j2)
  rw [← e1,← e2] at h
  exact h
 have tu:tabP (zaw (zb5 a (zcs b)) (zb5 a (zc0 b)))=true:=by
  rw [e3]
  exact zfl (e1 ▸ j1) (e2 ▸ j2)
 have lu:zbw (zaw (zb5 a (zcs b)) (zb5 a (zc0 b))).rows:=by
  rw [e3]
  exact zly (zia ha t1 hl1 la l1) (zia ha t2 hl2 la l2)
 have x1:=zhk ha hb hl
 have x2:=zhk hb ha hl'
 have x3:=zlv x2 (zbk x1)
 have tuu:tabP (⟨a.vars,a.rows++a.rows⟩:TabL)=true:=zfl (V:=a.vars) ha ha
 have euu:zaw a a=⟨a.vars,a.rows++a.rows⟩:=zem (V:=a.vars) ha ha
 have tuu2:tabP (zaw a a)=true:=by rw [euu];exact tuu
 have luu:zbw (zaw a a).rows:=by rw [euu];exact zly la la
 have td:zhh (zaw a a)=zhh a:=ztt ha
 have ld:zbw (zhh a).rows:=by
  rw [zn0 ha]
  exact zhn la (ziv newQ a.rows _ (Nat.le_refl _))
 refine ⟨hu,by rw [hu];omega,ztw ha hb la lb,ztw ha t1 la l1,ztw tm t2 lm l2,hm,?_,by omega,ztw ha t2 la l2,by omega,?_,zc9 j0 (zia ha hb hl la lb),zc9 tu lu,hj,?_,?_,?_,zc9 x1 (zlz ha hb hl la lb),zc9 x3 (zn5 x2 (zbk x1) (zlz hb ha hl' lb la)),zts ha hb hl,?_,?_,zc9 tuu2 luu,zc9 ha la,?_,zc9 (zn1 ha) ld,?_⟩
 ·have:=zn6 ha hb hl
  omega
 ·rw [e3]
  show ((zb5 a (zcs b)).rows++(zb5 a (zc0 b)).rows).length≤_
  rw [List.length_append]
  omega
 ·rw [zqf ha hb hl]
  omega
 ·rw [zqf hb ha hl']
  omega
 ·have:=zfj (zbk x1)
  omega
 ·rw [zp8 ha]
 ·rw [euu]
  show (a.rows++a.rows).length≤_
  rw [List.length_append]
  omega
 ·rw [td]
  exact zc9 (zn1 ha) ld
 ·rw [td]
  exact ztu (zn1 ha)
end Go.Proofs.YteclpnfckjfibaaGreatDoor

/- OE -/
namespace Go.Proofs.YteclpnfckjfibaaGreatDoor
open Go.RowKit
def zrn (v:Val):Prop:=∀ (W:World) (k:Int) (b:Bool) (n:Int) (t x:ByteArray) (q:List Val) (p:Option Addr) (cap:Nat) (v2:Val) (k2:Int) (b2:Bool) (n2:Int) (t2 x2:ByteArray) (q2:List Val) (p2:Option Addr) (cap2:Nat),
 v=.mk k b n t x q→v2=.mk k2 b2 n2 t2 x2 q2→q.length≤2097152→Held W (.slice p q.length cap) q→Held W (.slice p2 q2.length cap2) q2→
 Calls Tryz.prog 39 #[.agg #[.int .i64 k,.bool b,.int .i64 n,.string t,.string x,.slice p q.length cap],.agg #[.int .i64 k2,.bool b2,.int .i64 n2,.string t2,.string x2,.slice p2 q2.length cap2]] W
  fun e w'=>e=.returned (.bool (zde v v2))∧Below W.heap.size W w'
theorem zyv (p p2:Option Addr) (n n2 cap cap2:Nat) (w:World) (h:¬ n=n2):
 Calls Tryz.prog 60 #[.slice p n cap,.slice p2 n2 cap2] w fun e w'=>e=.returned (.bool false)∧Below w.heap.size w w':=by
 have h1:((n:Int) != n2)=true:=by simp;omega
 clear h
 go_enter Tryz.func60,Tryz.ntmps60
 go_wp2_with fail
 go_ret
 exact ⟨rfl,Below.refl _ _⟩
theorem zwx (p p2:Option Addr) (cap cap2:Nat) (w:World):
 Calls Tryz.prog 60 #[.slice p 0 cap,.slice p2 0 cap2] w fun e w'=>e=.returned (.bool true)∧Below w.heap.size w w':=by
 go_enter Tryz.func60,Tryz.ntmps60
 go_wp2_with fail
 go_loopw [5] (fun i wr=>i=.int .i64 0∧wr=w) (fun _ _=>0)
 case atStart=>exact ⟨rfl,rfl⟩
 case round=>
  obtain ⟨rfl,rfl⟩:=hrel
  go_wp2_with fail
  go_ret
  exact ⟨rfl,Below.refl _ _⟩
set_option maxRecDepth 20000 in
set_option maxHeartbeats 3200000 in
theorem zwy (l l2:List Val) (g off cap g2 off2 cap2:Nat) (w:World) (hl:zb0 w g off l) (hl2:zb0 w g2 off2 l2) (hlen:l2.length=l.length) (hn:l.length≤2097152) (each:∀ v∈l,zrn v):
 Calls Tryz.prog 60 #[.slice (some ⟨g,off,none⟩) l.length cap,.slice (some ⟨g2,off2,none⟩) l.length cap2] w fun e w'=>e=.returned (.bool (zbx l l2))∧Below w.heap.size w w':=by
 have HH:=Lib.hid hl
 have HH2:=Lib.hid hl2
 have HE:=Lib.hid each
 have HL:=Lib.hid hlen
 clear hl hl2 each hlen
 go_enter Tryz.func60,Tryz.ntmps60
 go_wp2_with fail
 go_loopw [5] (fun i wr=>∃ j:Nat,j≤l.length∧i=.int .i64 j∧Below w.heap.size w wr∧∀ (i:Nat) (h:i < l.length) (h2:i < l2.length),i < j→zde l[i] l2[i]=true) (fun i _=>l.length - (intOf i).toNat)
 case atStart=>exact ⟨0,Nat.zero_le _,rfl,Below.refl _ _,fun _ _ _ h=>absurd h (by omega)⟩
 case round=>
  obtain ⟨j,hj,rfl,hb,hall⟩:=hrel
  have HA:=Lib.hid hall
  clear hall
  by_cases hlt:j < l.length
  ·have hlt2:j < l2.length:=by have:=HL.out;omega
   obtain ⟨k,b,n,t,x,q,p,cp,o1⟩:=(zb0.at_ l off HH.out j hlt).opens
   obtain ⟨k2,b2,n2,t2,x2,q2,p2,cp2,o2⟩:=(zb0.at_ l2 off2 HH2.out j hlt2).opens
   have hc:=fun W (hb:Below w.heap.size w W)=>HE.out l[j] (List.getElem_mem hlt) W k b n t x q p cp l2[j] k2 b2 n2 t2 x2 q2 p2 cp2 o1.e o2.e o1.hf.hn (Held.below q o1.hl hb) (Held.below q2 o2.hl hb)
   obtain ⟨r,hr⟩:∃ r,r=zde l[j] l2[j]:=⟨_,rfl⟩
   rw [← hr] at hc
   have R1:∀ w',Below w.heap.size w w'→w'.rangeAt g (off+j*6) [.int .i64 k,.bool b,.int .i64 n,.string t,.string x,.slice p q.length cp]:=fun w' h=>(o1.below h).range
   have R2:∀ w',Below w.heap.size w w'→w'.rangeAt g2 (off2+j*6) [.int .i64 k2,.bool b2,.int .i64 n2,.string t2,.string x2,.slice p2 q2.length cp2]:=fun w' h=>(o2.below h).range
   have HC:=Lib.hid hc
   have HR:=Lib.hid hr
   have HR1:=Lib.hid R1
   have HR2:=Lib.hid R2
   clear o1 o2 hr hc R1 R2
   have hlti:(j:Int) < l.length:=by omega
   go_wp2_with fail
   refine wp_region_held_drew (S:=fun w'=>Below w.heap.size w w') (by kernel_rfl) hb.drew (fun hHeld=>?_)
   refine tg (i:=0) (.slice (some ⟨g,off,none⟩) l.length cap) rfl hHeld ?_
   refine tg (i:=1) (.int .i64 j) rfl hHeld ?_
   refine tg (i:=2) (.pointer (some ⟨g,off+j*6,none⟩)) rfl hHeld ?_
   refine tk (i:=3) rfl (yieldsIf_load_mid (by rfl) 48 (.tmp 19) rfl g (off+j*6) rfl _ _ (fun w h=>HR1.out w h) Tryz.underlying48 rfl zi3) hHeld ?_
   refine tg (i:=4) (.slice (some ⟨g2,off2,none⟩) l.length cap2) rfl hHeld ?_
   refine tg (i:=5) (.int .i64 j) rfl hHeld ?_
   refine tg (i:=6) (.pointer (some ⟨g2,off2+j*6,none⟩)) rfl hHeld ?_
   refine tk (i:=7) rfl (yieldsIf_load_mid (by rfl) 48 (.tmp 23) rfl g2 (off2+j*6) rfl _ _ (fun w h=>HR2.out w h) Tryz.underlying48 rfl zi3) hHeld ?_
   refine tr 8 rfl (fun K hK=>?_)
   rw [if_pos (by rfl)]
   go_simp
   refine (HC.out _ hHeld).mono ?_
   rintro e w3 ⟨rfl,hb3⟩
   refine hK.out _ _ (zab hHeld hb3 hHeld.size) (fun hHeld2=>?_)
   clear hK K hb3 hHeld
   try simp only [putS]
   refine tg (i:=9) (.bool (!r)) rfl hHeld2 ?_
   refine wpAnyH_done (by kernel_rfl) ?_ _
   cases r with
   | true=>
     go_wp2_with fail
     go_roundw
     case rel=>
      refine ⟨j+1,by omega,by go_num,hHeld2,fun i hi hi2 hlt'=>?_⟩
      by_cases e:i=j
      ·subst e;exact HR.out.symm
      ·exact HA.out i hi hi2 (by omega)
     case measure=>simp [intOf];omega
   | false=>
     go_wp2_with fail
     go_ret
     exact ⟨by rw [zf5 l l2 j hlt hlt2 HR.out.symm];rfl,hHeld2⟩
  ·go_wp2_with fail
   go_ret
   exact ⟨by rw [ze9 l l2 fun i h h2=>HA.out i h h2 (by omega)];rfl,hb⟩
theorem zwz (l l2:List Val) (p p2:Option Addr) (cap cap2:Nat) (w:World) (hl:Held w (.slice p l.length cap) l) (hl2:Held w (.slice p2 l2.length cap2) l2) (hn:l.length≤2097152) (each:∀ v∈l,zrn v):
 Calls Tryz.prog 60 #[.slice p l.length cap,.slice p2 l2.length cap2] w fun e w'=>e=.returned (.bool ((l.length == l2.length) && zbx l l2))∧Below w.heap.size w w':=by
 by_cases h:l.length=l2.length
 ·rw [show (l.length == l2.length)=true by simpa using h,Bool.true_and,← h]
  cases l with
  | nil=>
    unfold zbx
    exact zwx _ _ _ _ _
  | cons v r=>
    cases l2 with
    | nil=>simp at h
    | cons v2 r2=>
      obtain ⟨g,off,rfl,hh⟩:=hl.form
      obtain ⟨g2,off2,rfl,hh2⟩:=hl2.form
      exact zwy (v::r) (v2::r2) g off cap g2 off2 cap2 w hh hh2 h.symm hn each
 ·rw [show (l.length == l2.length)=false by simpa using h,Bool.false_and]
  exact zyv p p2 _ _ cap cap2 w h
set_option maxHeartbeats 1600000 in
theorem zt3 (v:Val) (k:Int) (b:Bool) (n:Int) (t x:ByteArray) (q:List Val) (ev:v=.mk k b n t x q) (each:∀ u∈q,zrn u):zrn v:=by
 subst ev
 intro W k1 b1 n1 t1 x1 q1 p cap v2 k2 b2 n2 t2 x2 q2 p2 cap2 e1 e2 hn hl hl2
 cases e1
 subst e2
 unfold zde
 obtain ⟨c1,hc1⟩:∃ c1,c1=Obj.cells #[.int .i64 k,.bool b,.int .i64 n,.string t,.string x,.slice p q.length cap] 48:=⟨_,rfl⟩
 obtain ⟨c2,hc2⟩:∃ c2,c2=Obj.cells #[.int .i64 k2,.bool b2,.int .i64 n2,.string t2,.string x2,.slice p2 q2.length cap2] 48:=⟨_,rfl⟩
 have b0:=zc1 W c1 c2
 have hc:=zwz q q2 p p2 cap cap2 ((W.alloc c1).alloc c2) (Held.below q hl b0) (Held.below q2 hl2 b0) hn each
 have l0:Six ((W.alloc c1).alloc c2) W.heap.size k b n t x p q.length cap:=by rw [hc1];exact (zak _ rfl).alloc _
 have l1:Six ((W.alloc c1).alloc c2) (W.heap.size+1) k2 b2 n2 t2 x2 p2 q2.length cap2:=by rw [hc2];exact zak _ (by simp)
 have z0:=b0.size
 have f0:=l0.c0
 have f1:=l0.c1
 have f2:=l0.c2
 have f3:=l0.c3
 have f4:=l0.c4
 have f5:=l0.c5
 have g0:=l1.c0
 have g1:=l1.c1
 have g2:=l1.c2
 have g3:=l1.c3
 have g4:=l1.c4
 have g5:=l1.c5
 clear l0 l1 hl hl2 each hn
 subst hc1 hc2
 cases a0:(k == k2) with
 | false=>
   rw [Bool.false_and]
   go_enter Tryz.func39,Tryz.ntmps39
   go_wp2_with fail
   go_ret
   exact ⟨rfl,b0⟩
 | true=>
   rw [Bool.true_and]
   cases a1:(b == b2) with
   | false=>
     rw [Bool.false_and]
     go_enter Tryz.func39,Tryz.ntmps39
     go_wp2_with fail
     go_ret
     exact ⟨rfl,b0⟩
   | true=>
     rw [Bool.true_and]
     cases a2:(n == n2) with
     | false=>
       rw [Bool.false_and]
       go_enter Tryz.func39,Tryz.ntmps39
       go_wp2_with fail
       go_ret
       exact ⟨rfl,b0⟩
     | true=>
       rw [Bool.true_and]
       cases a3:(t.toList == t2.toList) with
       | false=>
         rw [Bool.false_and]
         go_enter Tryz.func39,Tryz.ntmps39
         go_wp2_with fail
         go_ret
         exact ⟨rfl,b0⟩
       | true=>
         rw [Bool.true_and]
         cases a4:(x.toList == x2.toList) with
         | false=>
           rw [Bool.false_and]
           go_enter Tryz.func39,Tryz.ntmps39
           go_wp2_with fail
           go_ret
           exact ⟨rfl,b0⟩
         | true=>
           rw [Bool.true_and]
           generalize (q.length == q2.length && zbx q q2)=r at hc ⊢
           go_enter Tryz.func39,Tryz.ntmps39
           go_wp2_with (go_at_call 60;(with_reducible refine hc.mono ?_);rintro e w3 ⟨rfl,hb3⟩;replace b0:=zab b0 hb3 z0)
           go_ret
           exact ⟨rfl,b0⟩
mutual
theorem zsk:(v:Val)→zrn v
 | .mk k b n t x q=>zt3 _ k b n t x q rfl (zl0 q)
theorem zl0:(q:List Val)→∀ u∈q,zrn u
 | [],_,h=>absurd h (by simp)
 | v::r,u,h=>by
   rcases List.mem_cons.1 h with h | h
   ·rw [h];exact zsk v
   ·exact zl0 r u h
end
end Go.Proofs.YteclpnfckjfibaaGreatDoor
