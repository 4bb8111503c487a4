/- Texts of one kind, one behind the other: each says ahead of itself what it shows. -/
import Derived.Test.YteclpnfckjfibaaGreatDoorDad
import Derived.Test.YteclpnfckjfibaaGreatDoorRows
import Derived.ProofKit
import Derived.OpenShut
import Derived.Carry
import Derived.Test.YteclpnfckjfibaaGreatDoorDah
import Derived.Test.YteclpnfckjfibaaGreatDoorDap
import Derived.Lib.SmallJoins
import Derived.HandedShaped
import Derived.WideShapes
import Derived.Test.YteclpnfckjfibaaGreatDoorDaf
import Derived.Test.YteclpnfckjfibaaGreatDoorDal
import Derived.Test.YteclpnfckjfibaaGreatDoorDag
import Derived.Test.YteclpnfckjfibaaGreatDoorDam
namespace Go.Proofs.YteclpnfckjfibaaGreatDoor
open Go.RowKit
set_option maxHeartbeats 12800000
set_option maxRecDepth 20000
section
open Go.RowKit Go.ChangeShapes
variable {H:Type} {enc:TypeId × Value→H}
theorem zpm {w:World} {a:Addr} {m:Nat} {cs:List Value} (h:w.cells? 0 a m=some cs):cs.length=m∧∀ j,j < m→w.cell? (a.add j)=cs[j]?:=by
 unfold World.cells? at h
 rw [if_pos (Nat.zero_le _)] at h
 have hl:=mapM_some_length h
 rw [List.length_range] at hl
 refine ⟨hl,fun j hj=>?_⟩
 exact mapM_some_get h j j (by rw [List.getElem?_range hj])
theorem zm1 (g off i:Nat):(Addr.mk g off none).add i=⟨g,off+i,none⟩:=by unfold Addr.add;split <;> simp_all
theorem list6 {α:Type} {l:List α} (h:l.length=6):∃ a b c d e f,l=[a,b,c,d,e,f]:=by
 match l,h with
 | [a,b,c,d,e,f],_=>exact ⟨a,b,c,d,e,f,rfl⟩
theorem zqr {d:DataW H}:{l:List (DataW H)}→d∈l→Rows.uptoBulk d≤Rows.uptoBulkAll l
 | [],h=>absurd h (by simp)
 | e::r,h=>by
   unfold Rows.uptoBulkAll
   rcases List.mem_cons.1 h with h | h
   ·rw [h];omega
   ·have:=zqr h;omega
theorem z2j (d:DataW H):1≤Rows.uptoBulk d:=by
 cases d with
 | lit l=>cases l <;> simp [Rows.uptoBulk]
 | _=>simp [Rows.uptoBulk]
theorem zqs:(l:List (DataW H))→l.length≤Rows.uptoBulkAll l
 | []=>by simp
 | e::r=>by
   unfold Rows.uptoBulkAll
   have:=zqs r
   have:=z2j e
   simp only [List.length_cons]
   omega
theorem i64_wf {m:Int} (h:(Lit.int .i64 m).wf=true):-9223372036854775808≤m∧m≤9223372036854775807:=by
 have:=bounds_i64 h
 omega
end
section
open Go.RowKit Go.ChangeShapes
variable {H:Type} {enc:TypeId × Value→H}
theorem zoo {W:World} {n:Nat} {cs:List Value} {y:DataW H × List MemPlace} (h:DataW.trod enc Tryz.prog W 0 (fun _=>true) true n 48 cs=some y):
 ∃ n' k b m t x L yl,n=n'+1∧cs=[.int .i64 k,.bool b,.int .i64 m,.string t,.string x,L]∧DataW.trod enc Tryz.prog W 0 (fun _=>true) true n' 43 [L]=some yl∧
  1+t.size+x.size+Rows.uptoBulk yl.1≤Rows.uptoBulk y.1∧(Lit.int .i64 m).wf=true:=by
 obtain ⟨xs,n',rfl,rfl,hl,hlen,hf⟩:=DataW.trod_struct Tryz.underlying48 h
 obtain ⟨c0,c1,c2,c3,c4,c5,rfl⟩:=list6 (hl.trans (by kernel_rfl:Tryz.prog.cellsOf 48=6))
 obtain ⟨y0,y1,y2,y3,y4,y5,rfl⟩:=list6 (hlen.trans rfl)
 have e1:Tryz.prog.cellsOf 3=1:=by kernel_rfl
 have e2:Tryz.prog.cellsOf 4=1:=by kernel_rfl
 have e3:Tryz.prog.cellsOf 2=1:=by kernel_rfl
 have e4:Tryz.prog.cellsOf 9=1:=by kernel_rfl
 have e5:Tryz.prog.cellsOf 43=1:=by kernel_rfl
 have h0:DataW.trod enc Tryz.prog W 0 (fun _=>true) true n' 3 (([c0,c1,c2,c3,c4,c5].drop 0).take (Tryz.prog.cellsOf 3))=[y0,y1,y2,y3,y4,y5][0]?:=hf 0 _ rfl
 have h1:DataW.trod enc Tryz.prog W 0 (fun _=>true) true n' 4 (([c0,c1,c2,c3,c4,c5].drop 1).take (Tryz.prog.cellsOf 4))=[y0,y1,y2,y3,y4,y5][1]?:=hf 1 _ rfl
 have h2:DataW.trod enc Tryz.prog W 0 (fun _=>true) true n' 2 (([c0,c1,c2,c3,c4,c5].drop 2).take (Tryz.prog.cellsOf 2))=[y0,y1,y2,y3,y4,y5][2]?:=hf 2 _ rfl
 have h3:DataW.trod enc Tryz.prog W 0 (fun _=>true) true n' 9 (([c0,c1,c2,c3,c4,c5].drop 3).take (Tryz.prog.cellsOf 9))=[y0,y1,y2,y3,y4,y5][3]?:=hf 3 _ rfl
 have h4:DataW.trod enc Tryz.prog W 0 (fun _=>true) true n' 9 (([c0,c1,c2,c3,c4,c5].drop 4).take (Tryz.prog.cellsOf 9))=[y0,y1,y2,y3,y4,y5][4]?:=hf 4 _ rfl
 have h5:DataW.trod enc Tryz.prog W 0 (fun _=>true) true n' 43 (([c0,c1,c2,c3,c4,c5].drop 5).take (Tryz.prog.cellsOf 43))=[y0,y1,y2,y3,y4,y5][5]?:=hf 5 _ rfl
 rw [e1] at h0
 rw [e2] at h1
 rw [e3] at h2
 rw [e4] at h3 h4
 rw [e5] at h5
 replace h0:DataW.trod enc Tryz.prog W 0 (fun _=>true) true n' 3 [c0]=some y0:=h0
 replace h1:DataW.trod enc Tryz.prog W 0 (fun _=>true) true n' 4 [c1]=some y1:=h1
 replace h2:DataW.trod enc Tryz.prog W 0 (fun _=>true) true n' 2 [c2]=some y2:=h2
 replace h3:DataW.trod enc Tryz.prog W 0 (fun _=>true) true n' 9 [c3]=some y3:=h3
 replace h4:DataW.trod enc Tryz.prog W 0 (fun _=>true) true n' 9 [c4]=some y4:=h4
 replace h5:DataW.trod enc Tryz.prog W 0 (fun _=>true) true n' 43 [c5]=some y5:=h5
 obtain ⟨k,a0,_,_⟩:=DataW.trod_int Tryz.underlying3 h0
 obtain ⟨b,a1,_⟩:=DataW.trod_bool Tryz.underlying4 h1
 obtain ⟨m,a2,_,wm⟩:=DataW.trod_int Tryz.underlying2 h2
 obtain ⟨t,a3,z3,_⟩:=DataW.trod_string Tryz.underlying9 h3
 obtain ⟨x,a4,z4,_⟩:=DataW.trod_string Tryz.underlying9 h4
 simp only [List.cons.injEq,and_true] at a0 a1 a2 a3 a4
 subst a0 a1 a2 a3 a4
 refine ⟨n',k,b,m,t,x,c5,y5,rfl,rfl,h5,?_,wm⟩
 have a3:Rows.uptoBulk y3.1=t.size+1:=by
  rw [z3]
  have e':t.data.toList.length=t.size:=Array.length_toList
  show t.data.toList.length+1=_
  rw [e']
 have a4:Rows.uptoBulk y4.1=x.size+1:=by
  rw [z4]
  have e':x.data.toList.length=x.size:=Array.length_toList
  show x.data.toList.length+1=_
  rw [e']
 have a:Rows.uptoBulkAll ([y0,y1,y2,y3,y4,y5].map (·.1))=Rows.uptoBulk y0.1+(Rows.uptoBulk y1.1+(Rows.uptoBulk y2.1+(Rows.uptoBulk y3.1+(Rows.uptoBulk y4.1+(Rows.uptoBulk y5.1+0))))):=rfl
 show _≤Rows.uptoBulkAll _+1
 rw [a,a3,a4]
 omega
theorem zqt {W:World} (B:Nat) (hBB:B≤2097152):∀ (N n:Nat),n≤N→∀ (L:Value) (y:DataW H × List MemPlace),DataW.trod enc Tryz.prog W 0 (fun _=>true) true n 43 [L]=some y→Rows.uptoBulk y.1≤B→∃ l,Held W L l∧wAll l≤Rows.uptoBulk y.1:=by
 intro N
 induction N with
 | zero=>
   intro n hn L y h _
   obtain rfl:n=0:=by omega
   simp [DataW.trod] at h
 | succ N IH=>
   intro n0 hn0 L y h hB
   rcases DataW.trod_slice Tryz.underlying43 h with ⟨e,_⟩ | ⟨a,len,cap,elems,rest,n1,hn,e,rfl,hb,hl,hm,hlen,hel,_,_⟩
   ·obtain rfl:L=.slice none 0 0:=by simpa using e
    exact ⟨[],by unfold Held;exact ⟨none,0,rfl⟩,by simp [wAll]⟩
   ·obtain rfl:L=.slice (some a) len cap:=by simpa using e
    rw [show Tryz.prog.cellsOf 48=6 by kernel_rfl] at hel
    have hE1:Rows.uptoBulkAll (elems.map (·.1))+Rows.uptoBulkAll (rest.map (·.1))+1≤B:=hB
    have hE:Rows.uptoBulkAll (elems.map (·.1))≤B:=by omega
    have hln:len≤B:=by
     have:=zqs (elems.map (·.1))
     simp only [List.length_map] at this
     omega
    have each:∀ i,i < len→∃ k b m t x l p,(∀ j v,[Value.int .i64 k,.bool b,.int .i64 m,.string t,.string x,p][j]?=some v→W.cell? ((a.add (i*6)).add j)=some v)∧Fine m t x (List.length (α:=Val) l)∧Held W p l∧∀ h:i < elems.length,1+t.size+x.size+wAll l≤Rows.uptoBulk elems[i].1:=by
     intro i hi
     have h1:=hel i hi
     have hi':i < elems.length:=by omega
     rw [List.getElem?_eq_getElem hi',Option.bind_eq_some_iff] at h1
     obtain ⟨cs,hcs,hy⟩:=h1
     obtain ⟨c1,c2⟩:=zpm hcs
     obtain ⟨n',k,b,m,t,x,p,yl,hn',rfl,hp,hpl,wm⟩:=zoo hy
     have hbe:Rows.uptoBulk elems[i].1≤B:=Nat.le_trans (zqr (List.mem_map_of_mem (List.getElem_mem hi'))) hE
     obtain ⟨l,hheld,hll⟩:=IH n' (by omega) p yl hp (by omega)
     obtain ⟨w1,w2⟩:=i64_wf wm
     have hll2:=zqe l
     refine ⟨k,b,m,t,x,l,p,fun j v hv=>?_,⟨by omega,by omega,by omega,w1,w2⟩,hheld,fun _=>by omega⟩
     have hj:j < 6:=by
      have:=(List.getElem?_eq_some_iff.1 hv).1
      simpa using this
     rw [c2 j hj,hv]
    by_cases h0:len=0
    ·subst h0
     exact ⟨[],by unfold Held;exact ⟨some a,cap,rfl⟩,by simp [wAll]⟩
    ·have hsp:a.spot=none:=by
      obtain ⟨k,b,m,t,x,l,p,hc,_,_,_⟩:=each 0 (by omega)
      have h0:=hc 0 _ rfl
      cases kk:a.spot with
      | none=>rfl
      | some mm=>
        rw [show (a.add (0*6)).add 0=a by simp [Addr.add]] at h0
        unfold World.cell? at h0
        rw [kk] at h0
        split at h0 <;> simp at h0
     obtain ⟨g,off,spot⟩:=a
     simp only at hsp
     subst hsp
     have build:∀ m,m≤len→∃ l:List Val,l.length=m∧zbp W g (off+(len - m)*6) l∧wAll l≤Rows.uptoBulkAll ((elems.map (·.1)).drop (len - m)):=by
      intro m
      induction m with
      | zero=>exact fun _=>⟨[],rfl,by unfold zbp;trivial,by simp [wAll]⟩
      | succ m ih=>
        intro hm1
        obtain ⟨l,hll,hh,hwl⟩:=ih (by omega)
        obtain ⟨k,b,mm,t,x,q,p,hc,hf,hp,hwe⟩:=each (len - (m+1)) (by omega)
        have ea:∀ j,((⟨g,off,none⟩:Addr).add ((len - (m+1))*6)).add j=⟨g,off+(len - (m+1))*6+j,none⟩:=fun j=>by rw [zm1,zm1]
        refine ⟨.mk k b mm t x q::l,by simp [hll],?_⟩
        have hi2:len - (m+1) < elems.length:=by omega
        have hd:(elems.map (·.1)).drop (len - (m+1))=elems[len - (m+1)].1::(elems.map (·.1)).drop (len - m):=by
         rw [List.drop_eq_getElem_cons (by simpa using hi2),List.getElem_map,show len - (m+1)+1=len - m by omega]
        refine ⟨?_,?_⟩
        rotate_left
        ·rw [hd]
         have:=hwe hi2
         unfold wAll wOne Rows.uptoBulkAll
         omega
        unfold zbp
        refine ⟨?_,?_⟩
        ·unfold za7
         have hcj:=fun j v hv=>(congrArg W.cell? (ea j)).symm.trans (hc j v hv)
         exact ⟨hcj 0 _ rfl,hcj 1 _ rfl,hcj 2 _ rfl,hcj 3 _ rfl,hcj 4 _ rfl,hf,p,hcj 5 _ rfl,hp⟩
        ·rw [show off+(len - (m+1))*6+6=off+(len - m)*6 by omega]
         exact hh
     obtain ⟨l,hll,hh,hwl⟩:=build len (Nat.le_refl _)
     rw [Nat.sub_self,Nat.zero_mul,Nat.add_zero] at hh
     rw [Nat.sub_self,List.drop_zero] at hwl
     refine ⟨l,?_,by show wAll l≤Rows.uptoBulkAll (elems.map (·.1))+Rows.uptoBulkAll (rest.map (·.1))+1;omega⟩
     cases l with
     | nil=>simp at hll;omega
     | cons v r=>
       unfold zbp at hh
       unfold Held
       exact ⟨g,off,cap,by rw [← hll];rfl,hh.1,hh.2⟩
end
section
open Go.RowKit Go.ChangeShapes Go.WideShapes
theorem za7.lt {w:World} {g off:Nat}:(v:Val)→za7 w g off v→g < w.heap.size
 | .mk k b n t x l,h=>by
   unfold za7 at h
   exact World.block_lt_of_cell? w _ h.1
mutual
theorem za7.old {w:World} {g off:Nat}:(v:Val)→za7 w g off v→zbb w (Old w) g off v
 | .mk k b n t x l,h=>by
   unfold za7 at h
   unfold zbb
   obtain ⟨h0,h1,h2,h3,h4,hf,L,h5,hl⟩:=h
   exact ⟨h0,h1,h2,h3,h4,hf,L,h5,Held.old l hl⟩
theorem Held.old {w:World} {L:Value}:(l:List Val)→Held w L l→zbe w (Old w) L l
 | [],h=>by
   unfold Held at h
   unfold zbe
   exact h
 | v::r,h=>by
   unfold Held at h
   unfold zbe
   obtain ⟨g,off,cap,e,hv,hr⟩:=h
   exact ⟨g,off,cap,e,za7.lt v hv,za7.old v hv,zbp.old r hr⟩
theorem zbp.old {w:World} {g off:Nat}:(l:List Val)→zbp w g off l→zb5 w (Old w) g off l
 | [],_=>by unfold zb5;trivial
 | v::r,h=>by
   unfold zbp at h
   unfold zb5
   exact ⟨za7.old v h.1,zbp.old r h.2⟩
end
theorem zr5 {w:World} {g o:Nat} {a b:List Value} (h:w.rangeAt g o a) (k:w.rangeAt g (o+a.length) b):w.rangeAt g o (a++b):=fun j u hj=>by
 by_cases q:j < a.length
 ·rw [List.getElem?_append_left q] at hj
  exact h j u hj
 ·rw [List.getElem?_append_right (by omega)] at hj
  have:=k (j - a.length) u hj
  rwa [show o+a.length+(j - a.length)=o+j by omega] at this
theorem RowE.imp {α:Type} {E E':Elem α} {w:World} {P:Nat→Prop} (hi:∀ c a,E.rel w P c a→E'.rel w P c a):{xs:List Value}→(l:List α)→RowE E w P xs l→RowE E' w P xs l
 | _,[],h=>by
   unfold RowE at h ⊢
   exact h
 | _,a::l,h=>by
   unfold RowE at h ⊢
   obtain ⟨c,ys,e,hc,hr⟩:=h
   exact ⟨c,ys,e,hi c a hc,RowE.imp hi l hr⟩
theorem RowE.each {α:Type} {E:Elem α} {w:World} {P:Nat→Prop}:{xs:List Value}→(l:List α)→RowE E w P xs l→∀ a∈l,∃ c,E.rel w P c a
 | _,[],_,a,h=>by simp at h
 | _,b::l,h,a,ha=>by
   unfold RowE at h
   obtain ⟨c,ys,e,hc,hr⟩:=h
   rcases List.mem_cons.1 ha with q | q
   ·subst q
    exact ⟨c,hc⟩
   ·exact RowE.each l hr a q
theorem zai.imp {α:Type} {E E':Elem α} {w:World} {P:Nat→Prop} {v:Value} {l:List α} (hi:∀ c a,E.rel w P c a→E'.rel w P c a) (h:zai E w P v l):zai E' w P v l:=by
 obtain ⟨p,cap,e,hh⟩:=h
 refine ⟨p,cap,e,fun hne=>?_⟩
 obtain ⟨g,off,xs,h1,h2,h3,h4⟩:=hh hne
 exact ⟨g,off,xs,h1,h2,h3,RowE.imp hi l h4⟩
theorem zai.each {α:Type} {E:Elem α} {w:World} {P:Nat→Prop} {v:Value} {l:List α} (h:zai E w P v l):∀ a∈l,∃ c,E.rel w P c a:=by
 obtain ⟨p,cap,e,hh⟩:=h
 intro a ha
 obtain ⟨g,off,xs,h1,h2,h3,h4⟩:=hh (List.ne_nil_of_mem ha)
 exact RowE.each l h4 a ha
def z2k:Elem (List Val) where
 k:=1
 rel:=fun w P xs r=>rowE.rel w P xs r∧wAll r≤2097152
 len:=fun h=>rowE.len h.1
 one:=fun h=>rowE.one h.1
 stays:=fun s h=>⟨rowE.stays s h.1,h.2⟩
section
variable {H:Type} {enc:TypeId × Value→H}
theorem zwo {W:World} {B n ty ety size:Nat} {L:Value} {y:DataW H × List MemPlace} (hu:Tryz.prog.underlying ty=some (.slice ety)) (hsz:Tryz.prog.cellsOf ety=size) (h0s:0 < size)
 (h:DataW.trod enc Tryz.prog W 0 (fun _=>true) true n ty [L]=some y) (hB:Rows.uptoBulk y.1≤B):
 ∃ p len cap,L=.slice p len cap∧len≤B∧(len=0∨∃ g off,p=some ⟨g,off,none⟩∧∀ i,i < len→∃ n' cs yi,DataW.trod enc Tryz.prog W 0 (fun _=>true) true n' ety cs=some yi∧Rows.uptoBulk yi.1≤B∧∀ j,j < size→W.cell? ⟨g,off+i*size+j,none⟩=cs[j]?):=by
 cases n with
 | zero=>simp [DataW.trod] at h
 | succ n0=>
   rcases DataW.trod_slice hu h with ⟨e,_⟩ | ⟨a,len,cap,elems,rest,n1,hn,e,rfl,hb,hl,hm,hlen,hel,_,_⟩
   ·obtain rfl:L=.slice none 0 0:=by simpa using e
    exact ⟨none,0,0,rfl,Nat.zero_le _,.inl rfl⟩
   ·obtain rfl:L=.slice (some a) len cap:=by simpa using e
    rw [hsz] at hel
    have hE1:Rows.uptoBulkAll (elems.map (·.1))+Rows.uptoBulkAll (rest.map (·.1))+1≤B:=hB
    have hE:Rows.uptoBulkAll (elems.map (·.1))≤B:=by omega
    have hln:len≤B:=by
     have:=zqs (elems.map (·.1))
     simp only [List.length_map] at this
     omega
    have each:∀ i,i < len→∃ n' cs yi,DataW.trod enc Tryz.prog W 0 (fun _=>true) true n' ety cs=some yi∧Rows.uptoBulk yi.1≤B∧∀ j,j < size→W.cell? ((a.add (i*size)).add j)=cs[j]?∧cs.length=size:=by
     intro i hi
     have h1:=hel i hi
     have hi':i < elems.length:=by omega
     rw [List.getElem?_eq_getElem hi',Option.bind_eq_some_iff] at h1
     obtain ⟨cs,hcs,hy⟩:=h1
     obtain ⟨c1,c2⟩:=zpm hcs
     exact ⟨_,cs,_,hy,Nat.le_trans (zqr (List.mem_map_of_mem (List.getElem_mem hi'))) hE,fun j hj=>⟨c2 j hj,c1⟩⟩
    refine ⟨some a,len,cap,rfl,hln,?_⟩
    by_cases h0:len=0
    ·exact .inl h0
    ·right
     have hsp:a.spot=none:=by
      obtain ⟨n',cs,yi,_,_,hc⟩:=each 0 (by omega)
      have hc0:=hc 0 h0s
      obtain ⟨z,hz⟩:∃ z,cs[0]?=some z:=⟨_,List.getElem?_eq_getElem (by rw [hc0.2];exact h0s)⟩
      have h0:=hc0.1.trans hz
      cases kk:a.spot with
      | none=>rfl
      | some mm=>
        rw [show (a.add (0*size)).add 0=a by simp [Addr.add]] at h0
        unfold World.cell? at h0
        rw [kk] at h0
        split at h0 <;> simp at h0
     obtain ⟨g,off,spot⟩:=a
     simp only at hsp
     subst hsp
     refine ⟨g,off,rfl,fun i hi=>?_⟩
     obtain ⟨n',cs,yi,h1,h2,h3⟩:=each i hi
     refine ⟨n',cs,yi,h1,h2,fun j hj=>?_⟩
     have:=(h3 j hj).1
     rwa [zm1,zm1] at this
theorem zfx {α:Type} {E:Elem α} {W:World} {B n ty ety:Nat} {L:Value} {y:DataW H × List MemPlace} (hu:Tryz.prog.underlying ty=some (.slice ety)) (hsz:Tryz.prog.cellsOf ety=E.k) (h0:0 < E.k)
 (each:∀ (n':Nat) (cs:List Value) (yi:DataW H × List MemPlace),DataW.trod enc Tryz.prog W 0 (fun _=>true) true n' ety cs=some yi→Rows.uptoBulk yi.1≤B→∃ a,E.rel W (Old W) cs a)
 (h:DataW.trod enc Tryz.prog W 0 (fun _=>true) true n ty [L]=some y) (hB:Rows.uptoBulk y.1≤B):∃ l,zai E W (Old W) L l∧l.length≤B:=by
 obtain ⟨p,len,cap,rfl,hln,hh⟩:=zwo (B:=B) (size:=E.k) hu hsz h0 h hB
 rcases hh with rfl | ⟨g,off,rfl,eachc⟩
 ·exact ⟨[],zai.nil _ _,Nat.zero_le _⟩
 ·have build:∀ m,m≤len→∃ (l:List α) (xs:List Value),l.length=m∧W.rangeAt g (off+(len - m)*E.k) xs∧RowE E W (Old W) xs l∧(0 < m→g < W.heap.size):=by
   intro m
   induction m with
   | zero=>exact fun _=>⟨[],[],rfl,fun j u hj=>by simp at hj,rfl,fun h=>absurd h (Nat.lt_irrefl _)⟩
   | succ m ih=>
     intro hm1
     obtain ⟨l,xs,hll,hr,hrow,_⟩:=ih (by omega)
     obtain ⟨n',cs,yi,h1,h2,h3⟩:=eachc (len - (m+1)) (by omega)
     obtain ⟨a,ha⟩:=each n' cs yi h1 h2
     have hlen:=E.len ha
     have hc:W.rangeAt g (off+(len - (m+1))*E.k) cs:=fun j u hj=>by
      rw [h3 j (by rw [← hlen];exact (List.getElem?_eq_some_iff.1 hj).1)]
      exact hj
     refine ⟨a::l,cs++xs,by simp [hll],zr5 hc ?_,⟨cs,xs,rfl,ha,hrow⟩,fun _=>?_⟩
     ·rw [hlen,show off+(len - (m+1))*E.k+E.k=off+(len - m)*E.k by
       rw [show len - m=(len - (m+1))+1 by omega,Nat.add_mul,Nat.one_mul,Nat.add_assoc]]
      exact hr
     ·exact World.block_lt_of_cell? W _ (hc 0 cs[0] (List.getElem?_eq_getElem (by omega)))
  obtain ⟨l,xs,hll,hr,hrow,hg⟩:=build len (Nat.le_refl _)
  rw [Nat.sub_self,Nat.zero_mul,Nat.add_zero] at hr
  refine ⟨l,⟨_,cap,by rw [hll],fun hne=>⟨g,off,xs,rfl,hg ?_,hr,hrow⟩⟩,by omega⟩
  have:0 < l.length:=List.length_pos_iff.2 hne
  omega
theorem zr6 {W:World} {B n:Nat} {cs:List Value} {y:DataW H × List MemPlace} (hBB:B≤2097152) (h:DataW.trod enc Tryz.prog W 0 (fun _=>true) true n 9 cs=some y) (hB:Rows.uptoBulk y.1≤B):∃ t,zaz.rel W (Old W) cs t:=by
 obtain ⟨t,a3,z3,_⟩:=DataW.trod_string Tryz.underlying9 h
 rw [z3] at hB
 have e:Rows.uptoBulk (.lit (.string t.data.toList):DataW H)=t.data.toList.length+1:=rfl
 have e':t.data.toList.length=t.size:=Array.length_toList
 rw [e,e'] at hB
 exact ⟨t,a3,by omega⟩
theorem zlg {W:World} {B n:Nat} {L:Value} {y:DataW H × List MemPlace} (hBB:B≤2097152) (h:DataW.trod enc Tryz.prog W 0 (fun _=>true) true n 22 [L]=some y) (hB:Rows.uptoBulk y.1≤B):∃ l,zai zaz W (Old W) L l∧l.length≤B:=
 zfx (E:=zaz) Tryz.underlying22 (by kernel_rfl) (by decide) (fun _ _ _ h hb=>zr6 hBB h hb) h hB
theorem zet {W:World} {n ty ety:Nat} {L:Value} {y:DataW H × List MemPlace} (hu:Tryz.prog.underlying ty=some (.slice ety)) (h:DataW.trod enc Tryz.prog W 0 (fun _=>true) true n ty [L]=some y):capK L:=by
 cases n with
 | zero=>simp [DataW.trod] at h
 | succ n0=>
 rcases DataW.trod_slice hu h with ⟨e,_⟩ | ⟨a,len,cap,elems,rest,n1,hn,e,rfl,hb,hl,hm,hlen,hel,_,_⟩
 ·obtain rfl:L=.slice none 0 0:=by simpa using e
  exact zp9
 ·obtain rfl:L=.slice (some a) len cap:=by simpa using e
  clear hel h hm hb
  refine ⟨fun p m c e=>?_,fun m c e=>?_⟩
  ·cases e
   exact hl
  ·cases e
theorem zr7 {W:World} {B n:Nat} {cs:List Value} {y:DataW H × List MemPlace} (hBB:B≤2097152) (h:DataW.trod enc Tryz.prog W 0 (fun _=>true) true n 43 cs=some y) (hB:Rows.uptoBulk y.1≤B):∃ r,z2k.rel W (Old W) cs r:=by
 obtain ⟨L,rfl⟩:∃ L,cs=[L]:=by
  cases n with
  | zero=>simp [DataW.trod] at h
  | succ n0=>
    rcases DataW.trod_slice Tryz.underlying43 h with ⟨e,_⟩ | ⟨a,len,cap,elems,rest,n1,hn,e,_⟩
    ·exact ⟨_,e⟩
    ·exact ⟨_,e⟩
 obtain ⟨l,hl,hw⟩:=zqt B hBB n n (Nat.le_refl _) L y h hB
 refine ⟨l,⟨L,rfl,zh2 l (Held.old l hl),zet Tryz.underlying43 h,?_⟩,by omega⟩
 exact Nat.le_trans (zqe l) (Nat.le_trans hw (Nat.le_trans hB hBB))
theorem zr8 {W:World} {B n:Nat} {L:Value} {y:DataW H × List MemPlace} (hBB:B≤2097152) (h:DataW.trod enc Tryz.prog W 0 (fun _=>true) true n 23 [L]=some y) (hB:Rows.uptoBulk y.1≤B):∃ l,zai z2k W (Old W) L l∧l.length≤B:=by
 have hsz:Tryz.prog.cellsOf 43=1:=by kernel_rfl
 exact zfx (E:=z2k) Tryz.underlying23 hsz (by decide) (fun _ _ _ h1 h2=>zr7 hBB h1 h2) h hB
theorem list2 {α:Type} {l:List α} (h:l.length=2):∃ a b,l=[a,b]:=by
 match l,h with
 | [a,b],_=>exact ⟨a,b,rfl⟩
theorem list7 {α:Type} {l:List α} (h:l.length=7):∃ a b c d e f g,l=[a,b,c,d,e,f,g]:=by
 match l,h with
 | [a,b,c,d,e,f,g],_=>exact ⟨a,b,c,d,e,f,g,rfl⟩
theorem array7 {α:Type} {cs:Array α} (h:cs.size=7):∃ a b c d e f g,cs=#[a,b,c,d,e,f,g]:=by
 obtain ⟨l⟩:=cs
 obtain ⟨a,b,c,d,e,f,g,rfl⟩:=list7 (l:=l) h
 exact ⟨a,b,c,d,e,f,g,rfl⟩
theorem zlh {W:World} {B n:Nat} {cs:List Value} {y:DataW H × List MemPlace} (hBB:B≤2097152) (h:DataW.trod enc Tryz.prog W 0 (fun _=>true) true n 25 cs=some y) (hB:Rows.uptoBulk y.1≤B):∃ V R t,cs=[V,R]∧tabE.rel W (Old W) [V,R] t∧∀ r∈t.rows,wAll r≤2097152:=by
 obtain ⟨ws,n2,rfl,hw,hl,hlen2,hf2⟩:=DataW.trod_struct Tryz.underlying25 h
 obtain ⟨c0,c1,rfl⟩:=list2 (hl.trans (by kernel_rfl:Tryz.prog.cellsOf 25=2))
 obtain ⟨w0,w1,rfl⟩:=list2 (hlen2.trans rfl)
 have e22:Tryz.prog.cellsOf 22=1:=by kernel_rfl
 have e23:Tryz.prog.cellsOf 23=1:=by kernel_rfl
 have g0:DataW.trod enc Tryz.prog W 0 (fun _=>true) true n2 22 (([c0,c1].drop 0).take (Tryz.prog.cellsOf 22))=[w0,w1][0]?:=hf2 0 _ rfl
 have g1:DataW.trod enc Tryz.prog W 0 (fun _=>true) true n2 23 (([c0,c1].drop 1).take (Tryz.prog.cellsOf 23))=[w0,w1][1]?:=hf2 1 _ rfl
 rw [e22] at g0
 rw [e23] at g1
 replace g0:DataW.trod enc Tryz.prog W 0 (fun _=>true) true n2 22 [c0]=some w0:=g0
 replace g1:DataW.trod enc Tryz.prog W 0 (fun _=>true) true n2 23 [c1]=some w1:=g1
 have hy0:y.1=.agg [w0.1,w1.1]:=congrArg Prod.fst hw
 rw [hy0] at hB
 have hall:Rows.uptoBulk w0.1+(Rows.uptoBulk w1.1+0)+1≤B:=hB
 obtain ⟨vs,hvs,bv⟩:=zlg hBB g0 (by omega)
 obtain ⟨rs,hrs,br⟩:=zr8 hBB g1 (by omega)
 refine ⟨c0,c1,⟨vs,rs⟩,rfl,⟨c0,c1,rfl,hvs,zai.imp (E:=z2k) (E':=rowE) (fun _ _ h=>h.1) hrs,zet Tryz.underlying22 g0,zet Tryz.underlying23 g1,by show vs.length≤2097152;omega,by show rs.length≤2097152;omega⟩,fun r hr=>?_⟩
 obtain ⟨c,hc⟩:=hrs.each r hr
 exact hc.2
theorem zmm {W:World} {n:Nat} {cs:List Value} {y:DataW H × List MemPlace} (h:DataW.trod enc Tryz.prog W 0 (fun _=>true) true n 3 cs=some y):∃ z,intE.rel W (Old W) cs z:=by
 obtain ⟨m,a0,_,wm⟩:=DataW.trod_int Tryz.underlying3 h
 exact ⟨m,a0,wm⟩
theorem zr9 {W:World} {B n:Nat} {L:Value} {y:DataW H × List MemPlace} (h:DataW.trod enc Tryz.prog W 0 (fun _=>true) true n 26 [L]=some y) (hB:Rows.uptoBulk y.1≤B):∃ l,zai intE W (Old W) L l∧l.length≤B:=
 zfx (E:=intE) Tryz.underlying26 (by kernel_rfl) (by decide) (fun _ _ _ h _=>zmm h) h hB
structure TwoIs (W:World) (B:Nat) (v:Value) where
 a:TabL
 b:TabL
 vs:List ByteArray
 lang:Int
 ns:List Int
 VA:Value
 RA:Value
 VB:Value
 RB:Value
 VV:Value
 NV:Value
 is:v=.agg #[VA,RA,VB,RB,VV,.int .i64 lang,NV]
 two:ztn W a b VA RA VB RB
 hv:zai zaz W (Old W) VV vs
 hn:zai intE W (Old W) NV ns
 cv:capK VV
 cn:capK NV
 wl:(Lit.int .i64 lang).wf=true
 bs:vs.length≤B∧ns.length≤B
theorem zto {W:World} {base B:Nat} {v:Value} {d:DataW H} {p:List MemPlace} (hBB:B≤2097152) (hv:Value.okWide Tryz.prog W .any base 28 v) (h:DataW.Trod enc Tryz.prog W 0 (fun _=>true) true 28 v d p) (hB:Rows.uptoBulk d≤B):
 Nonempty (TwoIs W B v):=by
 obtain ⟨cs,rfl,hsz⟩:=okWide_struct Tryz.underlying28 hv
 obtain ⟨c0,c1,c2,c3,c4,c5,c6,rfl⟩:=array7 (hsz.trans (by kernel_rfl:Tryz.prog.cellsOf 28=7))
 obtain ⟨fuel,hf⟩:=h
 obtain ⟨xs,n',_,hx,hl,hlen,hfs⟩:=DataW.trod_struct Tryz.underlying28 hf
 obtain ⟨y0,y1,y2,y3,y4,rfl⟩:∃ a b c d e,xs=[a,b,c,d,e]:=by
  match xs,hlen with
  | [a,b,c,d,e],_=>exact ⟨a,b,c,d,e,rfl⟩
 have e25:Tryz.prog.cellsOf 25=2:=by kernel_rfl
 have e22:Tryz.prog.cellsOf 22=1:=by kernel_rfl
 have e3:Tryz.prog.cellsOf 3=1:=by kernel_rfl
 have e26:Tryz.prog.cellsOf 26=1:=by kernel_rfl
 have h0:DataW.trod enc Tryz.prog W 0 (fun _=>true) true n' 25 (([c0,c1,c2,c3,c4,c5,c6].drop 0).take (Tryz.prog.cellsOf 25))=[y0,y1,y2,y3,y4][0]?:=hfs 0 _ rfl
 have h1:DataW.trod enc Tryz.prog W 0 (fun _=>true) true n' 25 (([c0,c1,c2,c3,c4,c5,c6].drop 2).take (Tryz.prog.cellsOf 25))=[y0,y1,y2,y3,y4][1]?:=hfs 1 _ rfl
 have h2:DataW.trod enc Tryz.prog W 0 (fun _=>true) true n' 22 (([c0,c1,c2,c3,c4,c5,c6].drop 4).take (Tryz.prog.cellsOf 22))=[y0,y1,y2,y3,y4][2]?:=hfs 2 _ rfl
 have h3:DataW.trod enc Tryz.prog W 0 (fun _=>true) true n' 3 (([c0,c1,c2,c3,c4,c5,c6].drop 5).take (Tryz.prog.cellsOf 3))=[y0,y1,y2,y3,y4][3]?:=hfs 3 _ rfl
 have h4:DataW.trod enc Tryz.prog W 0 (fun _=>true) true n' 26 (([c0,c1,c2,c3,c4,c5,c6].drop 6).take (Tryz.prog.cellsOf 26))=[y0,y1,y2,y3,y4][4]?:=hfs 4 _ rfl
 rw [e25] at h0 h1
 rw [e22] at h2
 rw [e3] at h3
 rw [e26] at h4
 replace h0:DataW.trod enc Tryz.prog W 0 (fun _=>true) true n' 25 [c0,c1]=some y0:=h0
 replace h1:DataW.trod enc Tryz.prog W 0 (fun _=>true) true n' 25 [c2,c3]=some y1:=h1
 replace h2:DataW.trod enc Tryz.prog W 0 (fun _=>true) true n' 22 [c4]=some y2:=h2
 replace h3:DataW.trod enc Tryz.prog W 0 (fun _=>true) true n' 3 [c5]=some y3:=h3
 replace h4:DataW.trod enc Tryz.prog W 0 (fun _=>true) true n' 26 [c6]=some y4:=h4
 have hd:d=.agg [y0.1,y1.1,y2.1,y3.1,y4.1]:=congrArg Prod.fst hx
 subst hd
 have hall:Rows.uptoBulk y0.1+(Rows.uptoBulk y1.1+(Rows.uptoBulk y2.1+(Rows.uptoBulk y3.1+(Rows.uptoBulk y4.1+0))))+1≤B:=hB
 obtain ⟨VA,RA,a,ea,ha,wa⟩:=zlh hBB h0 (by omega)
 obtain ⟨VB,RB,b,eb,hb,wb⟩:=zlh hBB h1 (by omega)
 cases ea
 cases eb
 obtain ⟨vs,hvs,bv⟩:=zlg hBB h2 (by omega)
 obtain ⟨ns,hns,bn⟩:=zr9 (B:=B) h4 (by omega)
 obtain ⟨z,hz⟩:=zmm h3
 obtain ⟨ez,wz⟩:=hz
 cases ez
 exact ⟨⟨a,b,vs,z,ns,_,_,_,_,c4,c6,rfl,⟨ha,hb,wa,wb⟩,hvs,hns,zet Tryz.underlying22 h2,zet Tryz.underlying26 h4,wz,bv,bn⟩⟩
end
end
theorem zzz (v:Val):zc9 v v=true:=zfh v
theorem null_no:isB zit=false:=by decide
theorem zsa {a b:TabL} (ha:tabP a=true) (hb:tabP b=true) (hl:a.vars.length+b.vars.length≤64):(zb9 a b).rows.length=a.rows.length+b.rows.length:=by
 rw [z2h ha hb hl]
 simp [zcg]
def ztp (v:Val):Prop:=∀ (W:World) (k:Int) (b:Bool) (n:Int) (t x:ByteArray) (q:List Val) (p:Option Addr) (cap:Nat) (v2:Val) (k2:Int) (b2:Bool) (n2:Int) (t2 x2:ByteArray) (q2:List Val) (p2:Option Addr) (cap2:Nat),
 v=.mk k b n t x q→v2=.mk k2 b2 n2 t2 x2 q2→q.length≤2097152→Held W (.slice p q.length cap) q→Held W (.slice p2 q2.length cap2) q2→
 Calls Tryz.prog 39 #[.agg #[.int .i64 k,.bool b,.int .i64 n,.string t,.string x,.slice p q.length cap],.agg #[.int .i64 k2,.bool b2,.int .i64 n2,.string t2,.string x2,.slice p2 q2.length cap2]] W
  fun e w'=>e=.returned (.bool (zc9 v v2))∧Below W.heap.size W w'
theorem z2l (p p2:Option Addr) (n n2 cap cap2:Nat) (w:World) (h:¬ n=n2):
 Calls Tryz.prog 60 #[.slice p n cap,.slice p2 n2 cap2] w fun e w'=>e=.returned (.bool false)∧Below w.heap.size w w':=by
 have h1:((n:Int) != n2)=true:=by simp;omega
 clear h
 go_enter Tryz.func60,Tryz.ntmps60
 go_wp2_with fail
 go_ret
 exact ⟨rfl,Below.refl _ _⟩
theorem zz0 (p p2:Option Addr) (cap cap2:Nat) (w:World):
 Calls Tryz.prog 60 #[.slice p 0 cap,.slice p2 0 cap2] w fun e w'=>e=.returned (.bool true)∧Below w.heap.size w w':=by
 go_enter Tryz.func60,Tryz.ntmps60
 go_wp2_with fail
 go_loopw [5] (fun i wr=>i=.int .i64 0∧wr=w) (fun _ _=>0)
 case atStart=>exact ⟨rfl,rfl⟩
 case round=>
  obtain ⟨rfl,rfl⟩:=hrel
  go_wp2_with fail
  go_ret
  exact ⟨rfl,Below.refl _ _⟩
theorem zz1 (l l2:List Val) (g off cap g2 off2 cap2:Nat) (w:World) (hl:zbp w g off l) (hl2:zbp w g2 off2 l2) (hlen:l2.length=l.length) (hn:l.length≤2097152) (each:∀ v∈l,ztp v):
 Calls Tryz.prog 60 #[.slice (some ⟨g,off,none⟩) l.length cap,.slice (some ⟨g2,off2,none⟩) l.length cap2] w fun e w'=>e=.returned (.bool (zbr l l2))∧Below w.heap.size w w':=by
 have HH:=Lib.hid hl
 have HH2:=Lib.hid hl2
 have HE:=Lib.hid each
 have HL:=Lib.hid hlen
 clear hl hl2 each hlen
 go_enter Tryz.func60,Tryz.ntmps60
 go_wp2_with fail
 go_loopw [5] (fun i wr=>∃ j:Nat,j≤l.length∧i=.int .i64 j∧Below w.heap.size w wr∧∀ (i:Nat) (h:i < l.length) (h2:i < l2.length),i < j→zc9 l[i] l2[i]=true) (fun i _=>l.length - (intOf i).toNat)
 case atStart=>exact ⟨0,Nat.zero_le _,rfl,Below.refl _ _,fun _ _ _ h=>absurd h (by omega)⟩
 case round=>
  obtain ⟨j,hj,rfl,hb,hall⟩:=hrel
  have HA:=Lib.hid hall
  clear hall
  by_cases hlt:j < l.length
  ·have hlt2:j < l2.length:=by have:=HL.out;omega
   obtain ⟨k,b,n,t,x,q,p,cp,o1⟩:=(zbp.at_ l off HH.out j hlt).opens
   obtain ⟨k2,b2,n2,t2,x2,q2,p2,cp2,o2⟩:=(zbp.at_ l2 off2 HH2.out j hlt2).opens
   have hc:=fun W (hb:Below w.heap.size w W)=>HE.out l[j] (List.getElem_mem hlt) W k b n t x q p cp l2[j] k2 b2 n2 t2 x2 q2 p2 cp2 o1.e o2.e o1.hf.hn (Held.below q o1.hl hb) (Held.below q2 o2.hl hb)
   obtain ⟨r,hr⟩:∃ r,r=zc9 l[j] l2[j]:=⟨_,rfl⟩
   rw [← hr] at hc
   have R1:∀ w',Below w.heap.size w w'→w'.rangeAt g (off+j*6) [.int .i64 k,.bool b,.int .i64 n,.string t,.string x,.slice p q.length cp]:=fun w' h=>(o1.below h).range
   have R2:∀ w',Below w.heap.size w w'→w'.rangeAt g2 (off2+j*6) [.int .i64 k2,.bool b2,.int .i64 n2,.string t2,.string x2,.slice p2 q2.length cp2]:=fun w' h=>(o2.below h).range
   have HC:=Lib.hid hc
   have HR:=Lib.hid hr
   have HR1:=Lib.hid R1
   have HR2:=Lib.hid R2
   clear o1 o2 hr hc R1 R2
   have hlti:(j:Int) < l.length:=by omega
   go_wp2_with fail
   refine wp_region_held_drew (S:=fun w'=>Below w.heap.size w w') (by kernel_rfl) hb.drew (fun hHeld=>?_)
   refine tg (i:=0) (.slice (some ⟨g,off,none⟩) l.length cap) rfl hHeld ?_
   refine tg (i:=1) (.int .i64 j) rfl hHeld ?_
   refine tg (i:=2) (.pointer (some ⟨g,off+j*6,none⟩)) rfl hHeld ?_
   refine tk (i:=3) rfl (yieldsIf_load_mid (by rfl) 48 (.tmp 19) rfl g (off+j*6) rfl _ _ (fun w h=>HR1.out w h) Tryz.underlying48 rfl zmb) hHeld ?_
   refine tg (i:=4) (.slice (some ⟨g2,off2,none⟩) l.length cap2) rfl hHeld ?_
   refine tg (i:=5) (.int .i64 j) rfl hHeld ?_
   refine tg (i:=6) (.pointer (some ⟨g2,off2+j*6,none⟩)) rfl hHeld ?_
   refine tk (i:=7) rfl (yieldsIf_load_mid (by rfl) 48 (.tmp 23) rfl g2 (off2+j*6) rfl _ _ (fun w h=>HR2.out w h) Tryz.underlying48 rfl zmb) hHeld ?_
   refine tr 8 rfl (fun K hK=>?_)
   rw [if_pos (by rfl)]
   go_simp
   refine (HC.out _ hHeld).mono ?_
   rintro e w3 ⟨rfl,hb3⟩
   refine hK.out _ _ (zab hHeld hb3 hHeld.size) (fun hHeld2=>?_)
   clear hK K hb3 hHeld
   try simp only [putS]
   refine tg (i:=9) (.bool (!r)) rfl hHeld2 ?_
   refine wpAnyH_done (by kernel_rfl) ?_ _
   cases r with
   | true=>
     go_wp2_with fail
     go_roundw
     case rel=>
      refine ⟨j+1,by omega,by go_num,hHeld2,fun i hi hi2 hlt'=>?_⟩
      by_cases e:i=j
      ·subst e;exact HR.out.symm
      ·exact HA.out i hi hi2 (by omega)
     case measure=>simp [intOf];omega
   | false=>
     go_wp2_with fail
     go_ret
     exact ⟨by rw [zi2 l l2 j hlt hlt2 HR.out.symm];rfl,hHeld2⟩
  ·go_wp2_with fail
   go_ret
   exact ⟨by rw [zhx l l2 fun i h h2=>HA.out i h h2 (by omega)];rfl,hb⟩
theorem zz2 (l l2:List Val) (p p2:Option Addr) (cap cap2:Nat) (w:World) (hl:Held w (.slice p l.length cap) l) (hl2:Held w (.slice p2 l2.length cap2) l2) (hn:l.length≤2097152) (each:∀ v∈l,ztp v):
 Calls Tryz.prog 60 #[.slice p l.length cap,.slice p2 l2.length cap2] w fun e w'=>e=.returned (.bool ((l.length == l2.length) && zbr l l2))∧Below w.heap.size w w':=by
 by_cases h:l.length=l2.length
 ·rw [show (l.length == l2.length)=true by simpa using h,Bool.true_and,← h]
  cases l with
  | nil=>
    unfold zbr
    exact zz0 _ _ _ _ _
  | cons v r=>
    cases l2 with
    | nil=>simp at h
    | cons v2 r2=>
      obtain ⟨g,off,rfl,hh⟩:=hl.form
      obtain ⟨g2,off2,rfl,hh2⟩:=hl2.form
      exact zz1 (v::r) (v2::r2) g off cap g2 off2 cap2 w hh hh2 h.symm hn each
 ·rw [show (l.length == l2.length)=false by simpa using h,Bool.false_and]
  exact z2l p p2 _ _ cap cap2 w h
theorem zwp (v:Val) (k:Int) (b:Bool) (n:Int) (t x:ByteArray) (q:List Val) (ev:v=.mk k b n t x q) (each:∀ u∈q,ztp u):ztp v:=by
 subst ev
 intro W k1 b1 n1 t1 x1 q1 p cap v2 k2 b2 n2 t2 x2 q2 p2 cap2 e1 e2 hn hl hl2
 cases e1
 subst e2
 unfold zc9
 obtain ⟨c1,hc1⟩:∃ c1,c1=Obj.cells #[.int .i64 k,.bool b,.int .i64 n,.string t,.string x,.slice p q.length cap] 48:=⟨_,rfl⟩
 obtain ⟨c2,hc2⟩:∃ c2,c2=Obj.cells #[.int .i64 k2,.bool b2,.int .i64 n2,.string t2,.string x2,.slice p2 q2.length cap2] 48:=⟨_,rfl⟩
 have b0:=zcr W c1 c2
 have hc:=zz2 q q2 p p2 cap cap2 ((W.alloc c1).alloc c2) (Held.below q hl b0) (Held.below q2 hl2 b0) hn each
 have l0:Six ((W.alloc c1).alloc c2) W.heap.size k b n t x p q.length cap:=by rw [hc1];exact (zaj _ rfl).alloc _
 have l1:Six ((W.alloc c1).alloc c2) (W.heap.size+1) k2 b2 n2 t2 x2 p2 q2.length cap2:=by rw [hc2];exact zaj _ (by simp)
 have z0:=b0.size
 have f0:=l0.c0
 have f1:=l0.c1
 have f2:=l0.c2
 have f3:=l0.c3
 have f4:=l0.c4
 have f5:=l0.c5
 have g0:=l1.c0
 have g1:=l1.c1
 have g2:=l1.c2
 have g3:=l1.c3
 have g4:=l1.c4
 have g5:=l1.c5
 clear l0 l1 hl hl2 each hn
 subst hc1 hc2
 cases a0:(k == k2) with
 | false=>
   rw [Bool.false_and]
   go_enter Tryz.func39,Tryz.ntmps39
   go_wp2_with fail
   go_ret
   exact ⟨rfl,b0⟩
 | true=>
   rw [Bool.true_and]
   cases a1:(b == b2) with
   | false=>
     rw [Bool.false_and]
     go_enter Tryz.func39,Tryz.ntmps39
     go_wp2_with fail
     go_ret
     exact ⟨rfl,b0⟩
   | true=>
     rw [Bool.true_and]
     cases a2:(n == n2) with
     | false=>
       rw [Bool.false_and]
       go_enter Tryz.func39,Tryz.ntmps39
       go_wp2_with fail
       go_ret
       exact ⟨rfl,b0⟩
     | true=>
       rw [Bool.true_and]
       cases a3:(t.toList == t2.toList) with
       | false=>
         rw [Bool.false_and]
         go_enter Tryz.func39,Tryz.ntmps39
         go_wp2_with fail
         go_ret
         exact ⟨rfl,b0⟩
       | true=>
         rw [Bool.true_and]
         cases a4:(x.toList == x2.toList) with
         | false=>
           rw [Bool.false_and]
           go_enter Tryz.func39,Tryz.ntmps39
           go_wp2_with fail
           go_ret
           exact ⟨rfl,b0⟩
         | true=>
           rw [Bool.true_and]
           generalize (q.length == q2.length && zbr q q2)=r at hc ⊢
           go_enter Tryz.func39,Tryz.ntmps39
           go_wp2_with (go_at_call 60;(with_reducible refine hc.mono ?_);rintro e w3 ⟨rfl,hb3⟩;replace b0:=zab b0 hb3 z0)
           go_ret
           exact ⟨rfl,b0⟩
mutual
theorem zu1:(v:Val)→ztp v
 | .mk k b n t x q=>zwp _ k b n t x q rfl (zoc q)
theorem zoc:(q:List Val)→∀ u∈q,ztp u
 | [],_,h=>absurd h (by simp)
 | v::r,u,h=>by
   rcases List.mem_cons.1 h with h | h
   ·rw [h];exact zu1 v
   ·exact zoc r u h
end
def YesB (W:World) (e:Ending) (w':World):Prop:=e=.returned (.bool true)∧Below W.heap.size W w'
theorem zsb (V U:Value) (ts:List ByteArray) (P Q:Nat→Prop) (W:World) (h1:zai zaz W P V ts) (h2:zai zaz W Q U ts) (hP:∀ g,P g→g < W.heap.size) (hQ:∀ g,Q g→g < W.heap.size) (hn:ts.length≤2097152):Calls Tryz.prog 50 #[V,U] W (YesB W):=by
 obtain ⟨p1,c1,rfl⟩:=h1.slice
 obtain ⟨p2,c2,rfl⟩:=h2.slice
 obtain ⟨n,hl⟩:∃ n,n=ts.length:=⟨_,rfl⟩
 rw [← hl]
 rw [← hl] at hn
 have H1:=Lib.hid (h1.stays (P':=P) (fun g hg=>⟨hg,rfl⟩:zel P P W W))
 have H2:=Lib.hid h2
 have HP:=Lib.hid hP
 have HQ:=Lib.hid hQ
 have HL:=Lib.hid hl
 clear h1 h2 hl hP hQ
 go_enter Tryz.func50,Tryz.ntmps50
 go_wp2_with fail
 go_loopg [5] n (fun gg s5 wr=>∃ j:Nat,j+gg=n∧s5=.int .i64 j∧Hid (Below W.heap.size W wr))
 case atStart=>exact ⟨0,by omega,rfl,Lib.hid (Below.refl _ _)⟩
 case round=>
  obtain ⟨j,hjg,rfl,HB⟩:=hrel
  by_cases hj:(j:Int) < n
  ·have hj1:j < ts.length:=by have:=HL.out;omega
   obtain ⟨g1,o1,cc1,d1,e1,hg1,hr1,hra1⟩:=H1.out.at_ j hj1
   obtain ⟨g2,o2,cc2,d2,e2,hg2,hr2,hra2⟩:=H2.out.at_ j hj1
   injection e1 with e11 e12 e13
   injection e2 with e21 e22 e23
   subst e11 e21
   obtain ⟨rfl,_⟩:=hr1
   obtain ⟨rfl,_⟩:=hr2
   obtain ⟨x,hx⟩:∃ x,x=ts[j]:=⟨_,rfl⟩
   have k1:wr.cell? ⟨g1,o1+j,none⟩=some (.string x):=by
    have h:=hra1 0 _ rfl
    rw [hx]
    exact zbj (by simpa [zaz] using h) HB.out
   have k2:wr.cell? ⟨g2,o2+j,none⟩=some (.string x):=by
    have h:=hra2 0 _ rfl
    rw [hx]
    exact zbj (by simpa [zaz] using h) HB.out
   clear hra1 hra2 hx hg1 hg2 e12 e13 e22 e23
   go_upto_region 6 with fail
   go_quiet (fail)
   have HB2:=Lib.hid (HB.out.trans (zfm (Below.refl _ wr) nq |>.mono HB.out.size))
   clear k1 k2 HB
   generalize wr.drewN nq=w9 at*
   go_wp2_with fail
   go_roundg (gk - 1)
   case measure=>omega
   case rel=>exact ⟨j+1,by omega,by go_num,HB2⟩
  ·go_wp2_with fail
   go_ret
   exact ⟨rfl,HB.out⟩
theorem zwq (l:List Val):∀ v∈l,ztp v:=zoc l
theorem z2m (l:List Val) (V U:Value) (P Q:Nat→Prop) (W:World) (h1:zai valE W P V l) (h2:zai valE W Q U l) (hn:l.length≤2097152):Calls Tryz.prog 60 #[V,U] W (YesB W):=by
 have k1:=zbe.held l (zck l h1)
 have k2:=zbe.held l (zck l h2)
 obtain ⟨p1,c1,rfl⟩:=h1.slice
 obtain ⟨p2,c2,rfl⟩:=h2.slice
 have h:=zz2 l l p1 p2 c1 c2 W k1 k2 hn (zwq l)
 rw [zfu,beq_self_eq_true] at h
 exact h
theorem z2n (V U:Value) (l:List (List Val)) (W:World) (h1:zai rowE W (Old W) V l) (h2:zai rowE W (Old W) U l) (hn:l.length≤2097152):Calls Tryz.prog 82 #[V,U] W (YesB W):=by
 obtain ⟨p1,c1,rfl⟩:=h1.slice
 obtain ⟨p2,c2,rfl⟩:=h2.slice
 obtain ⟨n,hl⟩:∃ n,n=l.length:=⟨_,rfl⟩
 rw [← hl]
 rw [← hl] at hn
 have H1:=Lib.hid h1
 have H2:=Lib.hid h2
 have HL:=Lib.hid hl
 clear h1 h2 hl
 go_enter Tryz.func82,Tryz.ntmps82
 go_wp2_with fail
 go_loopg [5] n (fun gg s5 wr=>∃ j:Nat,j+gg=n∧s5=.int .i64 j∧Hid (Below W.heap.size W wr))
 case atStart=>exact ⟨0,by omega,rfl,Lib.hid (Below.refl _ _)⟩
 case round=>
  obtain ⟨j,hjg,rfl,HB⟩:=hrel
  by_cases hj:(j:Int) < n
  ·have hj1:j < l.length:=by have:=HL.out;omega
   obtain ⟨g1,o1,cc1,d1,e1,hg1,hr1,hra1⟩:=(H1.out.stays (zae HB.out)).at_ j hj1
   obtain ⟨g2,o2,cc2,d2,e2,hg2,hr2,hra2⟩:=(H2.out.stays (zae HB.out)).at_ j hj1
   injection e1 with e11 e12 e13
   injection e2 with e21 e22 e23
   subst e11 e21
   obtain ⟨x,hx⟩:∃ x,x=l[j]:=⟨_,rfl⟩
   rw [← hx] at hr1 hr2
   obtain ⟨u1,rfl,hu1,_,hlu⟩:=hr1
   obtain ⟨u2,rfl,hu2,_,_⟩:=hr2
   have k1:wr.cell? ⟨g1,o1+j,none⟩=some u1:=by
    have h:=hra1 0 _ rfl
    simpa [rowE] using h
   have k2:wr.cell? ⟨g2,o2+j,none⟩=some u2:=by
    have h:=hra2 0 _ rfl
    simpa [rowE] using h
   obtain ⟨q1,f1,rfl⟩:=hu1.slice
   obtain ⟨q2,f2,rfl⟩:=hu2.slice
   have HC:Hid (∀ w',Below wr.heap.size wr w'→Calls Tryz.prog 60 #[.slice q1 x.length f1,.slice q2 x.length f2] w' (YesB w')):=Lib.hid fun w' b=>z2m x _ _ _ _ w' (hu1.stays (zae b)) (hu2.stays (zae b)) hlu
   clear hra1 hra2 hx hg1 hg2 e12 e13 e22 e23 hu1 hu2
   have hB:=HB.out
   clear HB
   go_upto_region 6 with fail
   refine wp_region_held_drew (S:=fun W'=>W'.cell? ⟨g1,o1+j,none⟩=some (.slice q1 x.length f1)∧W'.cell? ⟨g2,o2+j,none⟩=some (.slice q2 x.length f2)) (by kernel_rfl) ⟨k1,k2⟩ (fun hh=>?_)
   have hh1:=hh.1
   have hh2:=hh.2
   clear hh k1 k2
   replace hB:=hB.drew
   have bq:Below wr.heap.size wr wr.drew:=(Below.refl _ _).drew
   generalize wr.drew=wD at*
   refine tg (i:=0) (.slice (some ⟨g1,o1,none⟩) n c1) rfl (⟨hh1,hh2⟩) ?_
   refine tg (i:=1) (.int .i64 (j:Int)) rfl (⟨hh1,hh2⟩) ?_
   refine tg (i:=4) (.slice (some ⟨g2,o2,none⟩) n c2) rfl (⟨hh1,hh2⟩) ?_
   refine tg (i:=5) (.int .i64 (j:Int)) rfl (⟨hh1,hh2⟩) ?_
   refine tg (i:=2) (.pointer (some ⟨g1,o1+j,none⟩)) rfl (⟨hh1,hh2⟩) ?_
   refine tg (i:=6) (.pointer (some ⟨g2,o2+j,none⟩)) rfl (⟨hh1,hh2⟩) ?_
   refine tk (i:=3) (v:=.slice q1 x.length f1) rfl (Or.inl ⟨by rfl,fun W' h=>by have c0:=h.1;go_simp⟩) (⟨hh1,hh2⟩) ?_
   refine tk (i:=7) (v:=.slice q2 x.length f2) rfl (Or.inl ⟨by rfl,fun W' h=>by have c0:=h.2;go_simp⟩) (⟨hh1,hh2⟩) ?_
   refine tr 8 rfl (fun K hK=>?_)
   try rw [if_pos (by rfl)]
   go_simp
   refine (HC.out _ bq).mono ?_
   rintro e0 w8 ⟨rfl,hb8⟩
   replace hh1:=zbj hh1 hb8
   replace hh2:=zbj hh2 hb8
   have hB8:=hB.trans (hb8.mono hB.size)
   refine hK.out _ _ (⟨hh1,hh2⟩) (fun _=>?_)
   clear hK K
   try simp only [putS]
   refine tg (i:=9) (.bool false) rfl (⟨hh1,hh2⟩) ?_
   refine wpAnyH_done (by kernel_rfl) ?_ _
   have HB8:=Lib.hid hB8
   clear hB hB8 bq hh1 hh2 HC hb8
   go_wp2_with fail
   go_roundg (gk - 1)
   case measure=>omega
   case rel=>exact ⟨j+1,by omega,by go_num,HB8⟩
  ·go_wp2_with fail
   go_ret
   exact ⟨rfl,HB.out⟩
theorem zsc (t:TabL) (V R V2 R2:Value) (W0:World) (h:tabE.rel W0 (Old W0) [V,R] t) (h2:tabE.rel W0 (Old W0) [V2,R2] t):Calls Tryz.prog 28 #[.agg #[V,R],.agg #[V2,R2]] W0 (YesB W0):=by
 obtain ⟨V',R',e,hv,hr,hcv,hcr,hlv,hlr⟩:=h
 cases e
 obtain ⟨V',R',e,hv2,hr2,hcv2,hcr2,_,_⟩:=h2
 cases e
 obtain ⟨p1,c1,rfl⟩:=hv.slice
 obtain ⟨p2,c2,rfl⟩:=hr.slice
 obtain ⟨p3,c3,rfl⟩:=hv2.slice
 obtain ⟨p4,c4,rfl⟩:=hr2.slice
 obtain ⟨W1,hW1⟩:∃ W1,W1=(W0.alloc (.cells #[.slice p1 t.vars.length c1,.slice p2 t.rows.length c2] 25)).alloc (.cells #[.slice p3 t.vars.length c3,.slice p4 t.rows.length c4] 25):=⟨_,rfl⟩
 have b1:Below W0.heap.size W0 W1:=by rw [hW1];exact zcr _ _ _
 have s1:W0.heap.size+1 < W1.heap.size:=by rw [hW1];simp
 have u2:W1.heap[W0.heap.size]?=some (.cells #[.slice p1 t.vars.length c1,.slice p2 t.rows.length c2] 25):=by rw [hW1];exact zaq _ (zaf _ _ rfl)
 have u3:W1.heap[W0.heap.size+1]?=some (.cells #[.slice p3 t.vars.length c3,.slice p4 t.rows.length c4] 25):=by rw [hW1];exact zaf _ _ (by simp)
 have HC1:=Lib.hid (zsb _ _ t.vars (Old W1) (Old W1) W1 (hv.stays (zae b1)) (hv2.stays (zae b1)) (fun _ h=>h) (fun _ h=>h) hlv)
 have HC2:Hid (∀ w',Below W1.heap.size W1 w'→Calls Tryz.prog 82 #[.slice p2 t.rows.length c2,.slice p4 t.rows.length c4] w' (YesB w')):=Lib.hid fun w' b=>z2n _ _ t.rows w' (hr.stays (zae (zab b1 b b1.size))) (hr2.stays (zae (zab b1 b b1.size))) hlr
 have HW:=Lib.hid hW1
 have HB1:=Lib.hid b1
 have a0:=zad u2 0 rfl
 have a1:=zad u3 0 rfl
 clear hv hr hv2 hr2 hcv hcr hcv2 hcr2 hW1 b1
 go_enter Tryz.func28,Tryz.ntmps28
 go_upto_region 1 with fail
 rw [← HW.out]
 go_wp2_with (first
  |(go_at_call 50;(with_reducible refine HC1.out.mono ?_);rintro e w1 ⟨rfl,hb1⟩;replace u2:=(hb1.block _ (zaa u2)).trans u2;replace u3:=(hb1.block _ (zaa u3)).trans u3;have a2:=zad u2 1 rfl;have a3:=zad u3 1 rfl)
  |(go_at_call 82;(with_reducible refine (HC2.out _ hb1).mono ?_);rintro e w2 ⟨rfl,hb2⟩))
 go_ret
 exact ⟨rfl,zab HB1.out (hb1.trans (hb2.mono hb1.size)) HB1.out.size⟩
structure zd2 (w:World) (V R:Value) (t:TabL):Prop where
 at_:∀ w',Below w.heap.size w w'→tabE.rel w' (Old w') [V,R] t
theorem zd2.here {w:World} {V R:Value} {t:TabL} (h:zd2 w V R t):tabE.rel w (Old w) [V,R] t:=h.at_ w (Below.refl _ _)
theorem zd2.below {w w':World} {V R:Value} {t:TabL} (h:zd2 w V R t) (b:Below w.heap.size w w'):zd2 w' V R t:=⟨fun w2 b2=>h.at_ w2 (zab b b2 b.size)⟩
theorem zd2.of {w:World} {V R:Value} {t:TabL} (h:tabE.rel w (Old w) [V,R] t):zd2 w V R t:=⟨fun _ b=>tabE.stays (zae b) h⟩
theorem zsd {u a b:Value} (h:u.cells=[a,b].toArray):u=.agg #[a,b]:=by
 cases u
 case agg cs=>exact congrArg Value.agg h
 all_goals
  have:=congrArg Array.size h
  simp [Value.cells] at this
theorem zdc {t:TabL} {W:World} {e:Ending} {w':World} (h:zbs tabE t W e w'):∃ V R,e=.returned (.agg #[V,R])∧Below W.heap.size W w'∧zd2 w' V R t:=by
 obtain ⟨u,c,rfl,hu,hr,hb⟩:=h
 obtain ⟨V,R,rfl,hr2⟩:=id hr
 have e:=zsd hu
 subst e
 refine ⟨V,R,rfl,hb,⟨fun w2 b=>tabE.stays (fun g hg=>⟨?_,b.block g hg.2⟩) hr⟩⟩
 exact Nat.lt_of_lt_of_le hg.2 b.size
theorem zd2.one {w:World} {V R:Value} {t:TabL} (h:zd2 w V R t):V.oneCell'=true∧R.oneCell'=true:=⟨tabE.one h.here V (by simp),tabE.one h.here R (by simp)⟩
def numC (n:Int):Val:=.mk 2 false n ⟨#[]⟩ ⟨#[]⟩ []
def numL (n:Int):List Value:=[.int .i64 2,.bool false,.int .i64 n,.string ⟨#[]⟩,.string ⟨#[]⟩,.slice none 0 0]
theorem zl8 (n:Int) (h0:0≤n) (h1:n≤100) (W:World) (P:Nat→Prop):zdp W P (numL n) (numC n):=
 ⟨_,rfl,⟨by decide,by decide,by decide,by omega,by omega⟩,by unfold zbe;exact ⟨_,_,rfl⟩⟩
theorem z2o (W:World) (P:Nat→Prop):zdp W P [.int .i64 0,.bool false,.int .i64 0,.string ⟨#[]⟩,.string ⟨#[]⟩,.slice none 0 0] zit:=
 ⟨_,rfl,⟨by decide,by decide,by decide,by decide,by decide⟩,by unfold zbe;exact ⟨_,_,rfl⟩⟩
theorem z2p (n:Int) (h0:0≤n) (h1:n≤100) (W:World):Calls Tryz.prog 49 #[.int .i64 n] W fun e w'=>e=.returned (.agg #[.int .i64 2,.bool false,.int .i64 n,.string ⟨#[]⟩,.string ⟨#[]⟩,.slice none 0 0])∧Below W.heap.size W w':=by
 obtain ⟨W1,hW1⟩:∃ W1,W1=W.alloc (.cells #[.int .i64 0,.bool false,.int .i64 0,.string ⟨#[]⟩,.string ⟨#[]⟩,.slice none 0 0] 48):=⟨_,rfl⟩
 have b1:Below W.heap.size W W1:=by rw [hW1];exact zav _ _
 have u1:W1.heap[W.heap.size]?=some (.cells #[.int .i64 0,.bool false,.int .i64 0,.string ⟨#[]⟩,.string ⟨#[]⟩,.slice none 0 0] 48):=by rw [hW1];exact zaf _ _ rfl
 have HW:=Lib.hid hW1
 have HB:=Lib.hid b1
 have HO:Hid (∀ u∈[Value.int .i64 2,.bool false,.int .i64 n,.string ⟨#[]⟩,.string ⟨#[]⟩,.slice none 0 0],u.oneCell'=true):=Lib.hid (valE.one (show valE.rel W (Old W) (numL n) (numC n) from zl8 n h0 h1 W (Old W)))
 clear hW1 b1
 go_enter Tryz.func49,Tryz.ntmps49
 go_upto_region 1 with fail
 rw [← HW.out]
 go_wp2_with (first
  |((with_reducible refine zar (.tmp 2) (.tmp 4) W.heap.size 48 48 _ [.int .i64 2,.bool false,.int .i64 n,.string ⟨#[]⟩,.string ⟨#[]⟩,.slice none 0 0] 6 u1 rfl ?_ ?_ ?_ ?_ zap rfl HO.out ?_);rfl;rfl;rfl;rfl;intro wX oX vX))
 exact bodyPost_ret (results_cell_row (p:=2) (ty:=48) Tryz.results49 _ _ W.heap.size 48 _ (0,0) _ rfl vX Tryz.underlying48 rfl zap) rfl ⟨rfl,zam HB.out oX (Nat.le_refl _) HB.out.size⟩
theorem zdb {α:Type} {E:Elem α} {w:World} {P:Nat→Prop} {g:Nat} {c:Array Value} {t:TypeId} {l:List α} (h:w.heap[g]?=some (.cells c t)) (hP:P g) (hr:RowE E w P c.toList l) (n:Nat) (hn:n=l.length):zai E w P (.slice (some ⟨g,0,none⟩) n n) l:=
 ⟨_,_,by rw [hn],fun _=>⟨g,0,c.toList,rfl,hP,zce h 0 _ (fun j u hu=>by rw [Nat.zero_add];simpa using hu),hr⟩⟩
theorem zli (w:World) (P:Nat→Prop):(l:List ByteArray)→(∀ x∈l,x.size≤2097152)→RowE zaz w P (l.map Value.string) l
 | [],_=>RowE.nil
 | x::r,h=>by
   show RowE zaz w P ([Value.string x]++r.map Value.string) ([x]++r)
   exact RowE.append [x] r (RowE.single ⟨rfl,h x (by simp)⟩) (zli w P r fun y hy=>h y (by simp [hy]))
theorem zlj (g n:Nat):capK (.slice (some ⟨g,0,none⟩) n n):=⟨fun p m c e=>by cases e;exact Nat.le_refl _,fun m c e=>by cases e⟩
theorem zz3 (w:World) (gv gr g1 g2:Nat) (vs:List ByteArray) (r1 r2:List Val) (c1 c2 cv cr:Array Value) (n m:Nat) (hv:w.heap[gv]?=some (.cells cv 9)) (ev:cv.toList=vs.map Value.string) (hr:w.heap[gr]?=some (.cells cr 43))
 (er:cr=#[.slice (some ⟨g1,0,none⟩) n n,.slice (some ⟨g2,0,none⟩) n n]) (h1:w.heap[g1]?=some (.cells c1 48)) (h2:w.heap[g2]?=some (.cells c2 48)) (e1:RowE valE w (Old w) c1.toList r1) (e2:RowE valE w (Old w) c2.toList r2)
 (l1:n=r1.length) (l2:n=r2.length) (hn:n≤2097152) (hm:m=vs.length) (hm2:m≤2097152) (hvs:∀ x∈vs,x.size≤2097152):zd2 w (.slice (some ⟨gv,0,none⟩) m m) (.slice (some ⟨gr,0,none⟩) 2 2) ⟨vs,[r1,r2]⟩:=by
 subst er
 have k1:rowE.rel w (Old w) [.slice (some ⟨g1,0,none⟩) n n] r1:=⟨_,rfl,zdb h1 (zaa h1) e1 n l1,zlj _ _,by omega⟩
 have k2:rowE.rel w (Old w) [.slice (some ⟨g2,0,none⟩) n n] r2:=⟨_,rfl,zdb h2 (zaa h2) e2 n l2,zlj _ _,by omega⟩
 exact zd2.of ⟨_,_,rfl,zdb hv (zaa hv) (by rw [ev];exact zli w _ vs hvs) m hm,zdb hr (zaa hr) (RowE.append (xs:=[_]) (ys:=[_]) [r1] [r2] (RowE.single k1) (RowE.single k2)) 2 rfl,zlj _ _,zlj _ _,by show vs.length≤_;omega,by show 2≤_;omega⟩
theorem zd2.slices {w:World} {V R:Value} {t:TabL} (h:zd2 w V R t):∃ p k q l,V=.slice p t.vars.length k∧R=.slice q t.rows.length l:=by
 obtain ⟨_,_,e,hv,hr,_⟩:=h.here
 cases e
 obtain ⟨p,k,e1⟩:=hv.slice
 obtain ⟨q,l,e2⟩:=hr.slice
 exact ⟨p,k,q,l,e1,e2⟩
theorem zd2.vars {w:World} {V R:Value} {t:TabL} (h:zd2 w V R t):zai zaz w (Old w) V t.vars:=by
 obtain ⟨_,_,e,hv,hr,_⟩:=h.here
 cases e
 exact hv
theorem zd2.cap {w:World} {V R:Value} {t:TabL} (h:zd2 w V R t):capK V∧capK R:=by
 obtain ⟨_,_,e,hv,hr,h1,h2,_⟩:=h.here
 cases e
 exact ⟨h1,h2⟩
theorem zd2.rows {w:World} {V R:Value} {t:TabL} (h:zd2 w V R t):zai rowE w (Old w) R t.rows:=by
 obtain ⟨_,_,e,hv,hr,_⟩:=h.here
 cases e
 exact hr
def tx:ByteArray:=⟨#[120]⟩
def ty:ByteArray:=⟨#[121]⟩
def tabA:TabL:=⟨[tx],[[numC 1],[zit]]⟩
def tabB:TabL:=⟨[tx,ty],[[numC 1,numC 2],[numC 3,numC 4]]⟩
def tabJ:TabL:=⟨[tx,ty],[[numC 1,numC 2],[numC 1,numC 2],[numC 3,numC 4]]⟩
theorem zod (n:Int):mayP (numC n) 0=true:=by
 unfold numC mayP zb2
 rfl
theorem zz4:zcc tx=true:=by decide
theorem name_ty:zcc ty=true:=by decide
theorem nd_tx:[tx,ty].Nodup:=by
 rw [List.nodup_cons]
 refine ⟨?_,(List.pairwise_singleton _ _)⟩
 rw [List.mem_singleton]
 intro e
 have:=congrArg bl e
 simp [bl,tx,ty] at this
theorem zoe:tabP tabA=true:=by
 refine zrx (zti (by decide) (fun x hx=>by rw [List.mem_singleton.1 hx];exact zz4) ((List.pairwise_singleton _ _))) (fun r hr=>?_) (fun r hr v hv=>?_)
 ·simp [tabA] at hr
  rcases hr with rfl | rfl <;> rfl
 ·simp [tabA] at hr
  rcases hr with rfl | rfl
  ·rw [List.mem_singleton.1 hv]
   exact zod 1
  ·rw [List.mem_singleton.1 hv]
   exact z2f
theorem zqu:tabP tabB=true:=by
 refine zrx (zti (by decide) (fun x hx=>?_) nd_tx) (fun r hr=>?_) (fun r hr v hv=>?_)
 ·simp [tabB] at hx
  rcases hx with rfl | rfl
  ·exact zz4
  ·exact name_ty
 ·simp [tabB] at hr
  rcases hr with rfl | rfl <;> rfl
 ·simp [tabB] at hr
  rcases hr with rfl | rfl
  ·simp at hv
   rcases hv with rfl | rfl
   ·exact zod 1
   ·exact zod 2
  ·simp at hv
   rcases hv with rfl | rfl
   ·exact zod 3
   ·exact zod 4
theorem zu2:za4 tabA.vars tabB.vars=[(0,0)]:=by decide
theorem srcAB:srcP [tx,ty] tabA.vars tabB.vars=[(0,0),(-1,1)]:=by decide
theorem overAB:za0 tabA.vars tabB.vars=[tx,ty]:=by
 unfold za0
 have h1:memB tx tabA.vars=true:=(zkv _ _).2 (by simp [tabA])
 have h2:memB ty tabA.vars=false:=by decide
 show tabA.vars++List.filter (fun x=>!memB x tabA.vars) [tx,ty]=[tx,ty]
 rw [List.filter_cons,h1,List.filter_cons,h2]
 rfl
theorem f11 (q:Val):fitB [(0,0)] [numC 1] [numC 1,q]=true:=by
 show ((!((isB (numC 1) && isB (numC 1)) && !zc9 (numC 1) (numC 1))) && true)=true
 rw [zfh]
 rfl
theorem f12 (q:Val):fitB [(0,0)] [numC 1] [numC 3,q]=false:=by
 show ((!((isB (numC 1) && isB (numC 3)) && !zc9 (numC 1) (numC 3))) && true)=false
 have:zc9 (numC 1) (numC 3)=false:=by
  unfold numC zc9
  rfl
 rw [this]
 rfl
theorem f2 (q p:Val):fitB [(0,0)] [zit] [q,p]=true:=by
 show ((!((isB zit && isB q) && !zc9 zit q)) && true)=true
 rw [null_no]
 rfl
theorem z34:zon tabA tabB=tabJ:=by
 rw [join_eq zoe zqu (by decide),overAB,srcAB,zu2]
 show TabL.mk [tx,ty] _=_
 unfold tabJ
 congr 1
 show zbn [(0,0)] [(0,0),(-1,1)] [[numC 1],[zit]] [[numC 1,numC 2],[numC 3,numC 4]]=_
 unfold zbn
 rw [List.flatMap_cons,List.flatMap_cons,List.flatMap_nil,zpg,zpg,List.filter_cons,f11,List.filter_cons,f12,List.filter_cons,f2,List.filter_cons,f2]
 rfl
theorem minusAB:(zcd tabA tabB).rows=[[zit]]:=by
 rw [zlc zoe zqu,zu2]
 show List.filter (fun r=>!zeh [(0,0)] r [[numC 1,numC 2],[numC 3,numC 4]]) [[numC 1],[zit]]=_
 have h1:zeh [(0,0)] [numC 1] [[numC 1,numC 2],[numC 3,numC 4]]=true:=by
  unfold zeh
  rw [List.any_cons,f11]
  rfl
 have h2:zeh [(0,0)] [zit] [[numC 1,numC 2],[numC 3,numC 4]]=false:=by
  unfold zeh
  rw [List.any_cons,List.any_cons,f2,f2]
  rfl
 rw [List.filter_cons,h1,List.filter_cons,h2]
 rfl
theorem zof (n:Int):wOne (numC n)≤381000:=by
 show 1+0+0+0≤381000
 omega
theorem z38:zdz tabA.rows:=fun r hr v hv=>by
 simp [tabA] at hr
 rcases hr with rfl | rfl
 ·rw [List.mem_singleton.1 hv]
  exact zof 1
 ·rw [List.mem_singleton.1 hv]
  exact zl7
theorem z4a:zdz tabB.rows:=fun r hr v hv=>by
 simp [tabB] at hr
 rcases hr with rfl | rfl
 ·simp at hv
  rcases hv with rfl | rfl <;> exact zof _
 ·simp at hv
  rcases hv with rfl | rfl <;> exact zof _
theorem zz5:∀ x∈[tx,ty],x.size≤2097152:=fun x hx=>by
 rcases List.mem_cons.1 hx with rfl | hx
 ·decide
 ·rw [List.mem_singleton.1 hx];decide
theorem sameNum (p:Option Addr) (k:Nat) (p2:Option Addr) (k2:Nat) (W:World):Calls Tryz.prog 39 #[.agg #[.int .i64 2,.bool false,.int .i64 4,.string ⟨#[]⟩,.string ⟨#[]⟩,.slice p 0 k],.agg #[.int .i64 2,.bool false,.int .i64 4,.string ⟨#[]⟩,.string ⟨#[]⟩,.slice p2 0 k2]] W fun e w'=>e=.returned (.bool true)∧Below W.heap.size W w':=by
 have h:=zu1 (numC 4) W 2 false 4 ⟨#[]⟩ ⟨#[]⟩ [] p k (numC 4) 2 false 4 ⟨#[]⟩ ⟨#[]⟩ [] p2 k2 rfl rfl (by decide) (by unfold Held;exact ⟨_,_,rfl⟩) (by unfold Held;exact ⟨_,_,rfl⟩)
 rw [zfh] at h
 exact h
theorem wakesAt (W:World) (hG:Gd W):Calls Tryz.prog 11 #[] W fun e w'=>e=.returned (.bool true)∧Below W.heap.size W w':=by
 have N1:=Lib.hid (z2p 1 (by decide) (by decide))
 have N2:=Lib.hid (z2p 2 (by decide) (by decide))
 have N3:=Lib.hid (z2p 3 (by decide) (by decide))
 have N4:=Lib.hid (z2p 4 (by decide) (by decide))
 go_enter Tryz.func11,Tryz.ntmps11
 go_upto_region 2 with (first
  |(go_at_call 49;(with_reducible refine (N1.out _).mono ?_);rintro e w1 ⟨rfl,hb1⟩))
 obtain ⟨WA,hWA⟩:∃ WA,WA=(((w1.alloc (.cells #[.int .i64 2,.bool false,.int .i64 1,.string ⟨#[]⟩,.string ⟨#[]⟩,.slice none 0 0] 48)).alloc (.cells #[.int .i64 0,.bool false,.int .i64 0,.string ⟨#[]⟩,.string ⟨#[]⟩,.slice none 0 0] 48)).alloc (.cells #[.slice (some ⟨w1.heap.size,0,none⟩) 1 1,.slice (some ⟨w1.heap.size+1,0,none⟩) 1 1] 43)).alloc (.cells #[.slice (some ⟨W.heap.size,0,none⟩) 1 1,.slice (some ⟨w1.heap.size+1+1,0,none⟩) 2 2] 25):=⟨_,rfl⟩
 rw [← hWA]
 have x0:w1.heap[W.heap.size]?=some (.cells #[.string tx] 9):=(hb1.block _ (by simp)).trans (zaf _ _ rfl)
 have s1:W.heap.size+1≤w1.heap.size:=by have:=hb1.size;simpa using this
 have ba:Below w1.heap.size w1 WA:=by rw [hWA];exact ((z3h _ _ _ _).alloc (by simp;omega) _)
 have sA:WA.heap.size=w1.heap.size+1+1+1+1:=by rw [hWA];simp
 have x1:WA.heap[W.heap.size]?=some (.cells #[.string tx] 9):=(ba.block _ (by omega)).trans x0
 have x2:WA.heap[w1.heap.size]?=some (.cells #[.int .i64 2,.bool false,.int .i64 1,.string ⟨#[]⟩,.string ⟨#[]⟩,.slice none 0 0] 48):=by rw [hWA];exact zaq _ (zaq _ (zaq _ (zaf _ _ rfl)))
 have x3:WA.heap[w1.heap.size+1]?=some (.cells #[.int .i64 0,.bool false,.int .i64 0,.string ⟨#[]⟩,.string ⟨#[]⟩,.slice none 0 0] 48):=by rw [hWA];exact zaq _ (zaq _ (zaf _ _ (by simp)))
 have x4:WA.heap[w1.heap.size+1+1]?=some (.cells #[.slice (some ⟨w1.heap.size,0,none⟩) 1 1,.slice (some ⟨w1.heap.size+1,0,none⟩) 1 1] 43):=by rw [hWA];exact zaq _ (zaf _ _ (by simp))
 obtain ⟨gA,hgA⟩:∃ gA,gA=w1.heap.size+1+1+1:=⟨_,rfl⟩
 have uA:WA.heap[gA]?=some (.cells #[.slice (some ⟨W.heap.size,0,none⟩) 1 1,.slice (some ⟨w1.heap.size+1+1,0,none⟩) 2 2] 25):=by rw [hWA,hgA];exact zaf _ _ (by simp)
 rw [← hgA]
 have TA:zd2 WA (.slice (some ⟨W.heap.size,0,none⟩) 1 1) (.slice (some ⟨w1.heap.size+1+1,0,none⟩) 2 2) tabA:=zz3 WA _ _ _ _ [tx] [numC 1] [zit] _ _ _ _ 1 1 x1 rfl x4 rfl x2 x3 (RowE.single (zl8 1 (by decide) (by decide) _ _)) (RowE.single (z2o _ _)) rfl rfl (by omega) rfl (by omega) (fun x hx=>by rw [List.mem_singleton.1 hx];decide)
 have bA:Below W.heap.size W WA:=((zav W (.cells #[.string tx] 9)).trans (hb1.mono (by simp))).trans (ba.mono (by omega))
 obtain ⟨RA,hRA⟩:∃ RA,RA=Value.slice (some ⟨w1.heap.size+1+1,0,none⟩) 2 2:=⟨_,rfl⟩
 rw [← hRA] at uA TA
 clear x0 x1 x2 x3 x4 hWA hb1 ba sA s1 hgA hRA
 go_upto_region 3 with (first
  |(go_at_call 49;(with_reducible refine (N1.out _).mono ?_);rintro e wa ⟨rfl,hba⟩)
  |(go_at_call 49;(with_reducible refine (N2.out _).mono ?_);rintro e wb ⟨rfl,hbb⟩)
  |(go_at_call 49;(with_reducible refine (N3.out _).mono ?_);rintro e wc ⟨rfl,hbc⟩)
  |(go_at_call 49;(with_reducible refine (N4.out _).mono ?_);rintro e wd ⟨rfl,hbd⟩))
 obtain ⟨WB,hWB⟩:∃ WB,WB=((wd.alloc (.cells #[.int .i64 2,.bool false,.int .i64 3,.string ⟨#[]⟩,.string ⟨#[]⟩,.slice none 0 0,.int .i64 2,.bool false,.int .i64 4,.string ⟨#[]⟩,.string ⟨#[]⟩,.slice none 0 0] 48)).alloc (.cells #[.slice (some ⟨wb.heap.size,0,none⟩) 2 2,.slice (some ⟨wd.heap.size,0,none⟩) 2 2] 43)).alloc (.cells #[.slice (some ⟨WA.heap.size,0,none⟩) 2 2,.slice (some ⟨wd.heap.size+1,0,none⟩) 2 2] 25):=⟨_,rfl⟩
 rw [← hWB]
 have y0:wa.heap[WA.heap.size]?=some (.cells #[.string tx,.string ty] 9):=(hba.block _ (by simp)).trans (zaf _ _ rfl)
 have z1:WA.heap.size+1≤wa.heap.size:=by have:=hba.size;simpa using this
 have z2:=hbb.size
 have y1:=(hbb.block _ (by omega)).trans y0
 have y2:wc.heap[wb.heap.size]?=some (.cells #[.int .i64 2,.bool false,.int .i64 1,.string ⟨#[]⟩,.string ⟨#[]⟩,.slice none 0 0,.int .i64 2,.bool false,.int .i64 2,.string ⟨#[]⟩,.string ⟨#[]⟩,.slice none 0 0] 48):=(hbc.block _ (by simp)).trans (zaf _ _ rfl)
 have z3:wb.heap.size+1≤wc.heap.size:=by have:=hbc.size;simpa using this
 have y3:=(hbc.block _ (by simp;omega)).trans (zaq _ y1)
 have z4:=hbd.size
 have y4:=(hbd.block _ (by omega)).trans y3
 have y5:=(hbd.block _ (by omega)).trans y2
 have bd:Below wd.heap.size wd WB:=by rw [hWB];exact z3h _ _ _ _
 have v1:=(bd.block WA.heap.size (by omega)).trans y4
 have v2:=(bd.block wb.heap.size (by omega)).trans y5
 have v3:WB.heap[wd.heap.size]?=some (.cells #[.int .i64 2,.bool false,.int .i64 3,.string ⟨#[]⟩,.string ⟨#[]⟩,.slice none 0 0,.int .i64 2,.bool false,.int .i64 4,.string ⟨#[]⟩,.string ⟨#[]⟩,.slice none 0 0] 48):=by rw [hWB];exact zaq _ (zaq _ (zaf _ _ rfl))
 have v4:WB.heap[wd.heap.size+1]?=some (.cells #[.slice (some ⟨wb.heap.size,0,none⟩) 2 2,.slice (some ⟨wd.heap.size,0,none⟩) 2 2] 43):=by rw [hWB];exact zaq _ (zaf _ _ (by simp))
 obtain ⟨gB,hgB⟩:∃ gB,gB=wd.heap.size+1+1:=⟨_,rfl⟩
 have uB:WB.heap[gB]?=some (.cells #[.slice (some ⟨WA.heap.size,0,none⟩) 2 2,.slice (some ⟨wd.heap.size+1,0,none⟩) 2 2] 25):=by rw [hWB,hgB];exact zaf _ _ (by simp)
 rw [← hgB]
 have TB:zd2 WB (.slice (some ⟨WA.heap.size,0,none⟩) 2 2) (.slice (some ⟨wd.heap.size+1,0,none⟩) 2 2) tabB:=zz3 WB _ _ _ _ [tx,ty] [numC 1,numC 2] [numC 3,numC 4] _ _ _ _ 2 2 v1 rfl v4 rfl v2 v3
  (RowE.append (xs:=numL 1) (ys:=numL 2) [_] [_] (RowE.single (zl8 1 (by decide) (by decide) _ _)) (RowE.single (zl8 2 (by decide) (by decide) _ _)))
  (RowE.append (xs:=numL 3) (ys:=numL 4) [_] [_] (RowE.single (zl8 3 (by decide) (by decide) _ _)) (RowE.single (zl8 4 (by decide) (by decide) _ _)))
  rfl rfl (by omega) rfl (by omega) (fun x hx=>by
   rcases List.mem_cons.1 hx with rfl | hx
   ·decide
   ·rw [List.mem_singleton.1 hx];decide)
 have bAB:Below WA.heap.size WA WB:=by
  have q1:Below WA.heap.size WA wa:=(zav WA _).trans (hba.mono (by simp))
  have q2:=q1.trans (hbb.mono (by omega))
  have q3:=(q2.trans ((zav wb (.cells #[.int .i64 2,.bool false,.int .i64 1,.string ⟨#[]⟩,.string ⟨#[]⟩,.slice none 0 0,.int .i64 2,.bool false,.int .i64 2,.string ⟨#[]⟩,.string ⟨#[]⟩,.slice none 0 0] 48)).mono (by omega))).trans (hbc.mono (by simp;omega))
  exact (q3.trans (hbd.mono (by omega))).trans (bd.mono (by omega))
 obtain ⟨VB,hVB⟩:∃ VB,VB=Value.slice (some ⟨WA.heap.size,0,none⟩) 2 2:=⟨_,rfl⟩
 obtain ⟨RB,hRB⟩:∃ RB,RB=Value.slice (some ⟨wd.heap.size+1,0,none⟩) 2 2:=⟨_,rfl⟩
 obtain ⟨VA,hVA⟩:∃ VA,VA=Value.slice (some ⟨W.heap.size,0,none⟩) 1 1:=⟨_,rfl⟩
 rw [← hVB,← hRB] at uB TB
 rw [← hVA] at uA TA
 replace TA:=TA.below bAB
 replace uA:=(bAB.block _ (zaa uA)).trans uA
 have bB:Below W.heap.size W WB:=bA.trans (bAB.mono bA.size)
 have hGB:Gd WB:=hG.below bB
 have n1:(zon tabA tabB).rows.length≤2097152:=by rw [z34];decide
 have HJ:=Lib.hid (joinAt tabA tabB _ _ _ _ WB hGB TA.here TB.here (z2i zoe zqu z38 z4a) n1)
 have HBB:=Lib.hid bB
 clear hba hbb hbc hbd hWB y0 y1 y2 y3 y4 y5 v1 v2 v3 v4 z1 z2 z3 z4 bd bAB bA hgB hVB hRB hVA bB n1 hG N1 N2 N3
 go_upto_region 4 with (first
  |((with_reducible refine zah (.tmp 1) gA 25 25 [VA,RA] 2 _ uA rfl Tryz.underlying25 rfl zag ?_ ?_ ?_ ?_);rfl;rfl;rfl)
  |((with_reducible refine zah (.tmp 2) gB 25 25 [VB,RB] 2 _ uB rfl Tryz.underlying25 rfl zag ?_ ?_ ?_ ?_);rfl;rfl;rfl)
  |(go_at_call 25;go_loud (with_reducible refine HJ.out.mono ?_);rintro e wj hj;obtain ⟨Vj,Rj,rfl,hbj,TJ⟩:=zdc hj;go_loud (rw [z34] at TJ;obtain ⟨pj,kj,qj,lj,ej,fj⟩:=TJ.slices;obtain rfl:Vj=.slice pj 2 kj:=ej;obtain rfl:Rj=.slice qj 3 lj:=fj;clear hj)))
 obtain ⟨gJ,hgJ⟩:∃ gJ,gJ=wj.heap.size:=⟨_,rfl⟩
 obtain ⟨W4,hW4⟩:∃ W4,W4=wj.alloc (.cells #[.slice pj 2 kj,.slice qj 3 lj] 25):=⟨_,rfl⟩
 rw [← hW4,← hgJ]
 have b4:Below wj.heap.size wj W4:=by rw [hW4];exact zav _ _
 have uJ:W4.heap[gJ]?=some (.cells #[.slice pj 2 kj,.slice qj 3 lj] 25):=by rw [hW4,hgJ];exact zaf _ _ rfl
 have bB4:=zab hbj b4 hbj.size
 replace uA:=(bB4.block _ (zaa uA)).trans uA
 replace uB:=(bB4.block _ (zaa uB)).trans uB
 replace TA:=TA.below bB4
 replace TB:=TB.below bB4
 replace TJ:=TJ.below b4
 have hG:=hGB.below bB4
 have hb4:Below W.heap.size W W4:=HBB.out.trans (bB4.mono HBB.out.size)
 obtain ⟨gr,orr,cr,ccr,e0,hgr,hrr,hrar⟩:=(TJ.rows).at_ 2 (by decide)
 injection e0 with e01 e02 e03
 subst e01
 obtain ⟨u,rfl,hu,_,_⟩:=hrr
 obtain ⟨gv,ov,cv,c6,e1,hgv,hv6,hrav⟩:=hu.at_ 1 (by decide)
 subst e1
 obtain ⟨L6,rfl,_,hL6⟩:=(show zdp W4 (Old W4) c6 (numC 4) from hv6)
 obtain ⟨p6,k6,rfl⟩:∃ p k,L6=.slice p 0 k:=by unfold zbe at hL6;exact hL6
 have ur:W4.cell? ⟨gr,orr+2,none⟩=some (.slice (some ⟨gv,ov,none⟩) 2 cv):=by
  have h:=hrar 0 _ rfl
  exact h
 have uv:W4.rangeAt gv (ov+6) [.int .i64 2,.bool false,.int .i64 4,.string ⟨#[]⟩,.string ⟨#[]⟩,.slice p6 0 k6]:=hrav
 clear hrav hrar hu hgr hgv hL6 hv6 e02 e03 hGB hbj b4 bB4 hW4 hgJ HJ HBB
 refine wp_region_held_drew (S:=fun W'=>W'.heap[gJ]?=some (.cells #[.slice pj 2 kj,.slice (some ⟨gr,orr,none⟩) 3 lj] 25)∧W'.heap[gA]?=some (.cells #[VA,RA] 25)∧W'.heap[gB]?=some (.cells #[VB,RB] 25)∧W'.cell? ⟨gr,orr+2,none⟩=some (.slice (some ⟨gv,ov,none⟩) 2 cv)∧W'.rangeAt gv (ov+6) [.int .i64 2,.bool false,.int .i64 4,.string ⟨#[]⟩,.string ⟨#[]⟩,.slice p6 0 k6]) (by kernel_rfl) ⟨uJ,uA,uB,ur,uv⟩ (fun hh=>?_)
 have hh1:=hh.1
 have hh2:=hh.2.1
 have hh3:=hh.2.2.1
 have hh4:=hh.2.2.2.1
 have hh5:=hh.2.2.2.2
 have bq:Below W4.heap.size W4 W4.drew:=(Below.refl _ _).drew
 replace TA:=TA.below bq
 replace TB:=TB.below bq
 replace TJ:=TJ.below bq
 replace hG:=hG.below bq
 replace hb4:=zab hb4 bq hb4.size
 clear hh uJ uA uB ur uv bq
 generalize W4.drew=wD at*
 refine tg (i:=0) (.pointer (some ⟨gJ,0,none⟩)) rfl (⟨hh1,hh2,hh3,hh4,hh5⟩) ?_
 refine tk (i:=1) (v:=.slice pj 2 kj) rfl (Or.inl ⟨by rfl,fun W' h=>by have c0:=zad h.1 0 rfl;go_simp⟩) (⟨hh1,hh2,hh3,hh4,hh5⟩) ?_
 refine tr 2 rfl (fun K hK=>?_)
 try rw [if_pos (by rfl)]
 go_simp
 have y2:(wD.alloc (.cells #[.string ⟨#[120]⟩,.string ⟨#[121]⟩] 9)).heap[wD.heap.size]?=some (.cells #[.string ⟨#[120]⟩,.string ⟨#[121]⟩] 9):=zaf _ _ rfl
 have bz:Below wD.heap.size wD (wD.alloc (.cells #[.string ⟨#[120]⟩,.string ⟨#[121]⟩] 9)):=zav _ _
 replace hh1:=(bz.block _ (zaa hh1)).trans hh1
 replace hh2:=(bz.block _ (zaa hh2)).trans hh2
 replace hh3:=(bz.block _ (zaa hh3)).trans hh3
 replace hh4:=zbj hh4 bz
 replace hh5:=zcj hh5 bz
 replace hG:=hG.below bz
 replace hb4:=zab hb4 bz hb4.size
 replace TA:=TA.below bz
 replace TB:=TB.below bz
 replace TJ:=TJ.below bz
 clear bz
 have HE3:=Lib.hid (zsb _ _ [tx,ty] (Old (wD.alloc (.cells #[.string ⟨#[120]⟩,.string ⟨#[121]⟩] 9))) (Old (wD.alloc (.cells #[.string ⟨#[120]⟩,.string ⟨#[121]⟩] 9))) (wD.alloc (.cells #[.string ⟨#[120]⟩,.string ⟨#[121]⟩] 9)) TJ.vars (zdb (P:=Old (wD.alloc (.cells #[.string ⟨#[120]⟩,.string ⟨#[121]⟩] 9))) y2 (show _ < _ from zaa y2) (zli _ (Old (wD.alloc (.cells #[.string ⟨#[120]⟩,.string ⟨#[121]⟩] 9))) [tx,ty] zz5) 2 rfl) (fun _ h=>h) (fun _ h=>h) (by decide))
 clear y2 TJ
 obtain ⟨gx,hgx⟩:∃ gx,gx=wD.heap.size:=⟨_,rfl⟩
 rw [← hgx] at HE3 ⊢
 generalize wD.alloc (.cells #[.string ⟨#[120]⟩,.string ⟨#[121]⟩] 9)=w2 at*
 clear hgx
 refine hK.out _ _ (⟨hh1,hh2,hh3,hh4,hh5⟩) (fun _=>?_)
 clear hK K
 try simp only [putS]
 refine tr 3 rfl (fun K hK=>?_)
 try rw [if_pos (by rfl)]
 go_simp
 refine HE3.out.mono ?_
 rintro e3 w3 ⟨rfl,hb3⟩
 replace hh1:=(hb3.block _ (zaa hh1)).trans hh1
 replace hh2:=(hb3.block _ (zaa hh2)).trans hh2
 replace hh3:=(hb3.block _ (zaa hh3)).trans hh3
 replace hh4:=zbj hh4 hb3
 replace hh5:=zcj hh5 hb3
 replace hG:=hG.below hb3
 replace hb4:=zab hb4 hb3 hb4.size
 replace TA:=TA.below hb3
 replace TB:=TB.below hb3
 clear hb3
 clear HE3
 refine hK.out _ _ (⟨hh1,hh2,hh3,hh4,hh5⟩) (fun _=>?_)
 clear hK K
 try simp only [putS]
 refine tg (i:=4) (.bool true) rfl (⟨hh1,hh2,hh3,hh4,hh5⟩) ?_
 refine tg (i:=5) (.pointer (some ⟨gJ,1,none⟩)) rfl (⟨hh1,hh2,hh3,hh4,hh5⟩) ?_
 refine tk (i:=6) (v:=.slice (some ⟨gr,orr,none⟩) 3 lj) rfl (Or.inl ⟨by rfl,fun W' h=>by have c0:=zad h.1 1 rfl;go_simp⟩) (⟨hh1,hh2,hh3,hh4,hh5⟩) ?_
 refine tg (i:=7) (.int .i64 3) rfl (⟨hh1,hh2,hh3,hh4,hh5⟩) ?_
 refine tg (i:=8) (.bool true) rfl (⟨hh1,hh2,hh3,hh4,hh5⟩) ?_
 refine tg (i:=9) (.bool true) rfl (⟨hh1,hh2,hh3,hh4,hh5⟩) ?_
 refine tg (i:=10) (.bool true) rfl (⟨hh1,hh2,hh3,hh4,hh5⟩) ?_
 refine tg (i:=11) (.pointer (some ⟨gJ,1,none⟩)) rfl (⟨hh1,hh2,hh3,hh4,hh5⟩) ?_
 refine tk (i:=12) (v:=.slice (some ⟨gr,orr,none⟩) 3 lj) rfl (Or.inl ⟨by rfl,fun W' h=>by have c0:=zad h.1 1 rfl;go_simp⟩) (⟨hh1,hh2,hh3,hh4,hh5⟩) ?_
 refine tg (i:=13) (.pointer (some ⟨gr,orr+2,none⟩)) rfl (⟨hh1,hh2,hh3,hh4,hh5⟩) ?_
 refine tk (i:=14) (v:=.slice (some ⟨gv,ov,none⟩) 2 cv) rfl (Or.inl ⟨by rfl,fun W' h=>by have c0:=h.2.2.2.1;go_simp⟩) (⟨hh1,hh2,hh3,hh4,hh5⟩) ?_
 refine tg (i:=15) (.pointer (some ⟨gv,ov+6,none⟩)) rfl (⟨hh1,hh2,hh3,hh4,hh5⟩) ?_
 refine tk (i:=16) (v:=.agg #[.int .i64 2,.bool false,.int .i64 4,.string ⟨#[]⟩,.string ⟨#[]⟩,.slice p6 0 k6]) rfl (yieldsIf_load_mid (by rfl) 48 (.tmp 38) rfl gv (ov+6) rfl [.int .i64 2,.bool false,.int .i64 4,.string ⟨#[]⟩,.string ⟨#[]⟩,.slice p6 0 k6] _ (fun W h=>h.2.2.2.2) Tryz.underlying48 rfl zap) (⟨hh1,hh2,hh3,hh4,hh5⟩) ?_
 refine tr 17 rfl (fun K hK=>?_)
 try rw [if_pos (by rfl)]
 go_simp
 refine (N4.out _).mono ?_
 rintro e17 w17 ⟨rfl,hb17⟩
 replace hh1:=(hb17.block _ (zaa hh1)).trans hh1
 replace hh2:=(hb17.block _ (zaa hh2)).trans hh2
 replace hh3:=(hb17.block _ (zaa hh3)).trans hh3
 replace hh4:=zbj hh4 hb17
 replace hh5:=zcj hh5 hb17
 replace hG:=hG.below hb17
 replace hb4:=zab hb4 hb17 hb4.size
 replace TA:=TA.below hb17
 replace TB:=TB.below hb17
 clear hb17
 refine hK.out _ _ (⟨hh1,hh2,hh3,hh4,hh5⟩) (fun _=>?_)
 clear hK K
 try simp only [putS]
 refine tr 18 rfl (fun K hK=>?_)
 try rw [if_pos (by rfl)]
 go_simp
 refine (sameNum p6 k6 none 0 w17).mono ?_
 rintro e18 w18 ⟨rfl,hb18⟩
 replace hh1:=(hb18.block _ (zaa hh1)).trans hh1
 replace hh2:=(hb18.block _ (zaa hh2)).trans hh2
 replace hh3:=(hb18.block _ (zaa hh3)).trans hh3
 replace hh4:=zbj hh4 hb18
 replace hh5:=zcj hh5 hb18
 replace hG:=hG.below hb18
 replace hb4:=zab hb4 hb18 hb4.size
 replace TA:=TA.below hb18
 replace TB:=TB.below hb18
 clear hb18
 refine hK.out _ _ (⟨hh1,hh2,hh3,hh4,hh5⟩) (fun _=>?_)
 clear hK K
 try simp only [putS]
 refine tg (i:=19) (.bool true) rfl (⟨hh1,hh2,hh3,hh4,hh5⟩) ?_
 refine tg (i:=20) (.bool true) rfl (⟨hh1,hh2,hh3,hh4,hh5⟩) ?_
 refine tk (i:=21) (v:=.agg #[VA,RA]) rfl (yieldsIf_load_mid (by rfl) 25 (.tmp 1) rfl (gA) 0 rfl [VA,RA] _ (fun W h=>zce h.2.1 0 _ (fun j v hv=>by match j,hv with | 0,e | 1,e=>simpa using e | j+2,e=>simp at e)) Tryz.underlying25 rfl zag) (⟨hh1,hh2,hh3,hh4,hh5⟩) ?_
 refine tk (i:=22) (v:=.agg #[VB,RB]) rfl (yieldsIf_load_mid (by rfl) 25 (.tmp 2) rfl (gB) 0 rfl [VB,RB] _ (fun W h=>zce h.2.2.1 0 _ (fun j v hv=>by match j,hv with | 0,e | 1,e=>simpa using e | j+2,e=>simp at e)) Tryz.underlying25 rfl zag) (⟨hh1,hh2,hh3,hh4,hh5⟩) ?_
 refine tr 23 rfl (fun K hK=>?_)
 try rw [if_pos (by rfl)]
 go_simp
 refine (zte tabA tabB _ _ _ _ w18 hG TA.here TB.here (z2i zoe zqu z38 z4a)).mono ?_
 rintro e23 w23 h23
 obtain ⟨Vm,Rm,rfl,hb23,TM⟩:=zdc h23
 obtain ⟨pm,km,qm,lm,em,fm⟩:=TM.slices
 rw [minusAB] at fm
 obtain rfl:Rm=.slice qm 1 lm:=fm
 clear TM em h23
 replace hh1:=(hb23.block _ (zaa hh1)).trans hh1
 replace hh2:=(hb23.block _ (zaa hh2)).trans hh2
 replace hh3:=(hb23.block _ (zaa hh3)).trans hh3
 replace hh4:=zbj hh4 hb23
 replace hh5:=zcj hh5 hb23
 replace hG:=hG.below hb23
 replace hb4:=zab hb4 hb23 hb4.size
 replace TA:=TA.below hb23
 replace TB:=TB.below hb23
 clear hb23
 refine hK.out _ _ (⟨hh1,hh2,hh3,hh4,hh5⟩) (fun _=>?_)
 clear hK K
 try simp only [putS]
 refine tk (i:=24) (v:=.slice qm 1 lm) rfl (Or.inl ⟨by rfl,fun W _=>by go_simp;rfl⟩) (⟨hh1,hh2,hh3,hh4,hh5⟩) ?_
 refine tg (i:=25) (.int .i64 1) rfl (⟨hh1,hh2,hh3,hh4,hh5⟩) ?_
 refine tg (i:=26) (.bool true) rfl (⟨hh1,hh2,hh3,hh4,hh5⟩) ?_
 refine tg (i:=27) (.bool true) rfl (⟨hh1,hh2,hh3,hh4,hh5⟩) ?_
 refine tg (i:=28) (.bool true) rfl (⟨hh1,hh2,hh3,hh4,hh5⟩) ?_
 refine tk (i:=29) (v:=.agg #[VA,RA]) rfl (yieldsIf_load_mid (by rfl) 25 (.tmp 1) rfl (gA) 0 rfl [VA,RA] _ (fun W h=>zce h.2.1 0 _ (fun j v hv=>by match j,hv with | 0,e | 1,e=>simpa using e | j+2,e=>simp at e)) Tryz.underlying25 rfl zag) (⟨hh1,hh2,hh3,hh4,hh5⟩) ?_
 refine tr 30 rfl (fun K hK=>?_)
 try rw [if_pos (by rfl)]
 go_simp
 refine (zct tabA _ _ w23 hG TA.here).mono ?_
 rintro e30 w30 ⟨rfl,hb30⟩
 rw [zoe]
 replace hh1:=(hb30.block _ (zaa hh1)).trans hh1
 replace hh2:=(hb30.block _ (zaa hh2)).trans hh2
 replace hh3:=(hb30.block _ (zaa hh3)).trans hh3
 replace hh4:=zbj hh4 hb30
 replace hh5:=zcj hh5 hb30
 replace hG:=hG.below hb30
 replace hb4:=zab hb4 hb30 hb4.size
 replace TA:=TA.below hb30
 replace TB:=TB.below hb30
 clear hb30
 refine hK.out _ _ (⟨hh1,hh2,hh3,hh4,hh5⟩) (fun _=>?_)
 clear hK K
 try simp only [putS]
 refine tg (i:=31) (.bool true) rfl (⟨hh1,hh2,hh3,hh4,hh5⟩) ?_
 refine tg (i:=32) (.bool true) rfl (⟨hh1,hh2,hh3,hh4,hh5⟩) ?_
 refine wpAnyH_done (by kernel_rfl) ?_ _
 go_wp2_with fail
 go_ret
 exact ⟨rfl,hb4⟩
def zz6:Val→Int
 | .mk k _ _ _ _ _=>k
theorem zwr {v:Val}:isB v=true↔zz6 v≠0:=by
 obtain ⟨k,b,n,t,x,l⟩:=v
 unfold isB zz6
 rw [decide_eq_true_iff]
theorem z2q {w:World} {P:Nat→Prop} {c:List Value} {v:Val} (h:zdp w P c v):c[0]?=some (.int .i64 (zz6 v)):=by
 obtain ⟨k,b,n,t,x,l⟩:=v
 obtain ⟨L,rfl,_⟩:=h
 rfl
theorem zz7 {w:World} {g o:Nat} {c:List Value} {k:Int} (h:w.rangeAt g o c) (hk:c[0]?=some (.int .i64 k)):w.cell? ⟨g,o,none⟩=some (.int .i64 k):=h 0 _ hk
end Go.Proofs.YteclpnfckjfibaaGreatDoor
