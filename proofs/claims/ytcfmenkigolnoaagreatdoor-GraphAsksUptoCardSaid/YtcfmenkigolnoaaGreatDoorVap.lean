/- Texts of one kind, one behind the other: each says ahead of itself what it shows. -/
import Derived.Test.YtcfmenkigolnoaaGreatDoorVao
import Derived.Lib.SmallJoins
import Derived.HandedShaped
/- GRD -/
namespace Go.Proofs.YtcfmenkigolnoaaGreatDoor
open Go.RowKit Go.ChangeShapes
theorem zbf.lt {w:World} {g off:Nat}:(v:Val)→zbf w g off v→g < w.heap.size
 | .mk k b n t x l,h=>by
   unfold zbf at h
   exact World.block_lt_of_cell? w _ h.1
mutual
theorem zbf.old {w:World} {g off:Nat}:(v:Val)→zbf w g off v→zbn w (Old w) g off v
 | .mk k b n t x l,h=>by
   unfold zbf at h
   unfold zbn
   obtain ⟨h0,h1,h2,h3,h4,hf,L,h5,hl⟩:=h
   exact ⟨h0,h1,h2,h3,h4,hf,L,h5,Held.old l hl⟩
theorem Held.old {w:World} {L:Value}:(l:List Val)→Held w L l→za9 w (Old w) L l
 | [],h=>by
   unfold Held at h
   unfold za9
   exact h
 | v::r,h=>by
   unfold Held at h
   unfold za9
   obtain ⟨g,off,cap,e,hv,hr⟩:=h
   exact ⟨g,off,cap,e,zbf.lt v hv,zbf.old v hv,zb8.old r hr⟩
theorem zb8.old {w:World} {g off:Nat}:(l:List Val)→zb8 w g off l→zb7 w (Old w) g off l
 | [],_=>by unfold zb7;trivial
 | v::r,h=>by
   unfold zb8 at h
   unfold zb7
   exact ⟨zbf.old v h.1,zb8.old r h.2⟩
end
theorem znx {w:World} {g o:Nat} {a b:List Value} (h:w.rangeAt g o a) (k:w.rangeAt g (o+a.length) b):w.rangeAt g o (a++b):=fun j u hj=>by
 by_cases q:j < a.length
 ·rw [List.getElem?_append_left q] at hj
  exact h j u hj
 ·rw [List.getElem?_append_right (by omega)] at hj
  have:=k (j - a.length) u hj
  rwa [show o+a.length+(j - a.length)=o+j by omega] at this
section
variable {H:Type} {enc:TypeId × Value→H}
theorem zrx {W:World} {B n ty ety size:Nat} {L:Value} {y:DataW H × List MemPlace} (hu:Tryz.prog.underlying ty=some (.slice ety)) (hsz:Tryz.prog.cellsOf ety=size) (h0s:0 < size)
 (h:DataW.trod enc Tryz.prog W 0 (fun _=>true) true n ty [L]=some y) (hB:Rows.uptoBulk y.1≤B):
 ∃ p len cap,L=.slice p len cap∧len≤B∧(len=0∨∃ g off,p=some ⟨g,off,none⟩∧∀ i,i < len→∃ n' cs yi,DataW.trod enc Tryz.prog W 0 (fun _=>true) true n' ety cs=some yi∧Rows.uptoBulk yi.1≤B∧∀ j,j < size→W.cell? ⟨g,off+i*size+j,none⟩=cs[j]?):=by
 cases n with
 | zero=>simp [DataW.trod] at h
 | succ n0=>
   rcases DataW.trod_slice hu h with ⟨e,_⟩ | ⟨a,len,cap,elems,rest,n1,hn,e,rfl,hb,hl,hm,hlen,hel,_,_⟩
   ·obtain rfl:L=.slice none 0 0:=by simpa using e
    exact ⟨none,0,0,rfl,Nat.zero_le _,.inl rfl⟩
   ·obtain rfl:L=.slice (some a) len cap:=by simpa using e
    rw [hsz] at hel
    have hE1:Rows.uptoBulkAll (elems.map (·.1))+Rows.uptoBulkAll (rest.map (·.1))+1≤B:=hB
    have hE:Rows.uptoBulkAll (elems.map (·.1))≤B:=by omega
    have hln:len≤B:=by
     have:=zkx (elems.map (·.1))
     simp only [List.length_map] at this
     omega
    have each:∀ i,i < len→∃ n' cs yi,DataW.trod enc Tryz.prog W 0 (fun _=>true) true n' ety cs=some yi∧Rows.uptoBulk yi.1≤B∧∀ j,j < size→W.cell? ((a.add (i*size)).add j)=cs[j]?∧cs.length=size:=by
     intro i hi
     have h1:=hel i hi
     have hi':i < elems.length:=by omega
     rw [List.getElem?_eq_getElem hi',Option.bind_eq_some_iff] at h1
     obtain ⟨cs,hcs,hy⟩:=h1
     obtain ⟨c1,c2⟩:=zkd hcs
     exact ⟨_,cs,_,hy,Nat.le_trans (zfs (List.mem_map_of_mem (List.getElem_mem hi'))) hE,fun j hj=>⟨c2 j hj,c1⟩⟩
    refine ⟨some a,len,cap,rfl,hln,?_⟩
    by_cases h0:len=0
    ·exact .inl h0
    ·right
     have hsp:a.spot=none:=by
      obtain ⟨n',cs,yi,_,_,hc⟩:=each 0 (by omega)
      have hc0:=hc 0 h0s
      obtain ⟨z,hz⟩:∃ z,cs[0]?=some z:=⟨_,List.getElem?_eq_getElem (by rw [hc0.2];exact h0s)⟩
      have h0:=hc0.1.trans hz
      cases kk:a.spot with
      | none=>rfl
      | some mm=>
        rw [show (a.add (0*size)).add 0=a by simp [Addr.add]] at h0
        unfold World.cell? at h0
        rw [kk] at h0
        split at h0 <;> simp at h0
     obtain ⟨g,off,spot⟩:=a
     simp only at hsp
     subst hsp
     refine ⟨g,off,rfl,fun i hi=>?_⟩
     obtain ⟨n',cs,yi,h1,h2,h3⟩:=each i hi
     refine ⟨n',cs,yi,h1,h2,fun j hj=>?_⟩
     have:=(h3 j hj).1
     rwa [zh5,zh5] at this
theorem zcj {α:Type} {E:Elem α} {W:World} {B n ty ety:Nat} {L:Value} {y:DataW H × List MemPlace} (hu:Tryz.prog.underlying ty=some (.slice ety)) (hsz:Tryz.prog.cellsOf ety=E.k) (h0:0 < E.k)
 (each:∀ (n':Nat) (cs:List Value) (yi:DataW H × List MemPlace),DataW.trod enc Tryz.prog W 0 (fun _=>true) true n' ety cs=some yi→Rows.uptoBulk yi.1≤B→∃ a,E.rel W (Old W) cs a)
 (h:DataW.trod enc Tryz.prog W 0 (fun _=>true) true n ty [L]=some y) (hB:Rows.uptoBulk y.1≤B):∃ l,zaj E W (Old W) L l∧l.length≤B:=by
 obtain ⟨p,len,cap,rfl,hln,hh⟩:=zrx (B:=B) (size:=E.k) hu hsz h0 h hB
 rcases hh with rfl | ⟨g,off,rfl,eachc⟩
 ·exact ⟨[],zaj.nil _ _,Nat.zero_le _⟩
 ·have build:∀ m,m≤len→∃ (l:List α) (xs:List Value),l.length=m∧W.rangeAt g (off+(len - m)*E.k) xs∧RowE E W (Old W) xs l∧(0 < m→g < W.heap.size):=by
   intro m
   induction m with
   | zero=>exact fun _=>⟨[],[],rfl,fun j u hj=>by simp at hj,rfl,fun h=>absurd h (Nat.lt_irrefl _)⟩
   | succ m ih=>
     intro hm1
     obtain ⟨l,xs,hll,hr,hrow,_⟩:=ih (by omega)
     obtain ⟨n',cs,yi,h1,h2,h3⟩:=eachc (len - (m+1)) (by omega)
     obtain ⟨a,ha⟩:=each n' cs yi h1 h2
     have hlen:=E.len ha
     have hc:W.rangeAt g (off+(len - (m+1))*E.k) cs:=fun j u hj=>by
      rw [h3 j (by rw [← hlen];exact (List.getElem?_eq_some_iff.1 hj).1)]
      exact hj
     refine ⟨a::l,cs++xs,by simp [hll],znx hc ?_,⟨cs,xs,rfl,ha,hrow⟩,fun _=>?_⟩
     ·rw [hlen,show off+(len - (m+1))*E.k+E.k=off+(len - m)*E.k by
       rw [show len - m=(len - (m+1))+1 by omega,Nat.add_mul,Nat.one_mul,Nat.add_assoc]]
      exact hr
     ·exact World.block_lt_of_cell? W _ (hc 0 cs[0] (List.getElem?_eq_getElem (by omega)))
  obtain ⟨l,xs,hll,hr,hrow,hg⟩:=build len (Nat.le_refl _)
  rw [Nat.sub_self,Nat.zero_mul,Nat.add_zero] at hr
  refine ⟨l,⟨_,cap,by rw [hll],fun hne=>⟨g,off,xs,rfl,hg ?_,hr,hrow⟩⟩,by omega⟩
  have:0 < l.length:=List.length_pos_iff.2 hne
  omega
theorem zfh {W:World} {B n:Nat} {cs:List Value} {y:DataW H × List MemPlace} (hBB:B≤2097152) (h:DataW.trod enc Tryz.prog W 0 (fun _=>true) true n 9 cs=some y) (hB:Rows.uptoBulk y.1≤B):∃ t,zbk.rel W (Old W) cs t:=by
 obtain ⟨t,a3,z3,_⟩:=DataW.trod_string Tryz.underlying9 h
 rw [z3] at hB
 have e:Rows.uptoBulk (.lit (.string t.data.toList):DataW H)=t.data.toList.length+1:=rfl
 have e':t.data.toList.length=t.size:=Array.length_toList
 rw [e,e'] at hB
 exact ⟨t,a3,by omega⟩
theorem zi4 {W:World} {B n:Nat} {cs:List Value} {y:DataW H × List MemPlace} (hBB:B≤2097152) (h:DataW.trod enc Tryz.prog W 0 (fun _=>true) true n 60 cs=some y) (hB:Rows.uptoBulk y.1≤B):∃ v,zfw W (Old W) cs v:=by
 obtain ⟨n',k,b,m,t,x,L,yl,rfl,rfl,hp,ht,hx,hpl,wm⟩:=zgo h
 obtain ⟨l,hheld,hll⟩:=znw B hBB n' n' (Nat.le_refl _) L yl hp (by omega)
 obtain ⟨w1,w2⟩:=zyz wm
 exact ⟨.mk k b m t x l,L,rfl,⟨by omega,by omega,by omega,w1,w2⟩,Held.old l hheld⟩
theorem zny {W:World} {B n:Nat} {cs:List Value} {y:DataW H × List MemPlace} (hBB:B≤2097152) (h:DataW.trod enc Tryz.prog W 0 (fun _=>true) true n 70 cs=some y) (hB:Rows.uptoBulk y.1≤B):∃ a,za8.rel W (Old W) cs a:=by
 obtain ⟨xs,n',rfl,rfl,hl,hlen,hf⟩:=DataW.trod_struct Tryz.underlying70 h
 have hl7:cs.length=7:=hl.trans (by kernel_rfl:Tryz.prog.cellsOf 70=7)
 have hlen2:xs.length=2:=hlen.trans rfl
 obtain ⟨y0,y1,rfl⟩:∃ a b,xs=[a,b]:=by
  match xs,hlen2 with
  | [a,b],_=>exact ⟨a,b,rfl⟩
 obtain ⟨c0,cr,rfl⟩:∃ c r,cs=c::r:=by
  cases cs with
  | nil=>simp at hl7
  | cons c r=>exact ⟨c,r,rfl⟩
 have hr6:cr.length=6:=by simpa using hl7
 have e6:Tryz.prog.cellsOf 60=6:=by kernel_rfl
 have e1:Tryz.prog.cellsOf 9=1:=by kernel_rfl
 have h0:DataW.trod enc Tryz.prog W 0 (fun _=>true) true n' 9 (((c0::cr).drop 0).take (Tryz.prog.cellsOf 9))=[y0,y1][0]?:=hf 0 _ rfl
 have h1:DataW.trod enc Tryz.prog W 0 (fun _=>true) true n' 60 (((c0::cr).drop 1).take (Tryz.prog.cellsOf 60))=[y0,y1][1]?:=hf 1 _ rfl
 rw [e1] at h0
 rw [e6] at h1
 have hall:Rows.uptoBulk y0.1+(Rows.uptoBulk y1.1+0)+1≤B:=hB
 obtain ⟨t,ht,hts⟩:=zfh hBB h0 (by omega)
 have h1':DataW.trod enc Tryz.prog W 0 (fun _=>true) true n' 60 cr=some y1:=by
  have:((c0::cr).drop 1).take 6=cr:=by rw [List.drop_one,List.tail_cons,List.take_of_length_le (by omega)]
  rw [this] at h1
  exact h1
 obtain ⟨v,hv⟩:=zi4 hBB h1' (by omega)
 obtain rfl:c0=.string t:=by simpa using ht
 exact ⟨⟨t,v⟩,cr,rfl,hts,hv⟩
theorem ze1 {W:World} {B n:Nat} {L:Value} {y:DataW H × List MemPlace} (hBB:B≤2097152) (h:DataW.trod enc Tryz.prog W 0 (fun _=>true) true n 35 [L]=some y) (hB:Rows.uptoBulk y.1≤B):∃ l,zaj zbk W (Old W) L l∧l.length≤B:=
 zcj (E:=zbk) Tryz.underlying35 (by kernel_rfl) (by decide) (fun _ _ _ h hb=>zfh hBB h hb) h hB
theorem zgp {W:World} {B n:Nat} {L:Value} {y:DataW H × List MemPlace} (hBB:B≤2097152) (h:DataW.trod enc Tryz.prog W 0 (fun _=>true) true n 36 [L]=some y) (hB:Rows.uptoBulk y.1≤B):∃ l,zaj za8 W (Old W) L l∧l.length≤B:=
 zcj (E:=za8) Tryz.underlying36 (by kernel_rfl) (by decide) (fun _ _ _ h hb=>zny hBB h hb) h hB
theorem list3 {α:Type} {l:List α} (h:l.length=3):∃ a b c,l=[a,b,c]:=by
 match l,h with
 | [a,b,c],_=>exact ⟨a,b,c,rfl⟩
theorem list5 {α:Type} {l:List α} (h:l.length=5):∃ a b c d e,l=[a,b,c,d,e]:=by
 match l,h with
 | [a,b,c,d,e],_=>exact ⟨a,b,c,d,e,rfl⟩
theorem znz {W:World} {B n:Nat} {cs:List Value} {y:DataW H × List MemPlace} (hBB:B≤2097152) (h:DataW.trod enc Tryz.prog W 0 (fun _=>true) true n 38 cs=some y) (hB:Rows.uptoBulk y.1≤B):∃ a,zay.rel W (Old W) cs a:=by
 obtain ⟨xs,n',rfl,rfl,hl,hlen,hf⟩:=DataW.trod_struct Tryz.underlying38 h
 have hl3:cs.length=3:=hl.trans (by kernel_rfl:Tryz.prog.cellsOf 38=3)
 have hlen3:xs.length=3:=hlen.trans rfl
 obtain ⟨y0,y1,y2,rfl⟩:=list3 hlen3
 obtain ⟨c0,c1,c2,rfl⟩:=list3 hl3
 have e2:Tryz.prog.cellsOf 2=1:=by kernel_rfl
 have e35:Tryz.prog.cellsOf 35=1:=by kernel_rfl
 have e36:Tryz.prog.cellsOf 36=1:=by kernel_rfl
 have h0:DataW.trod enc Tryz.prog W 0 (fun _=>true) true n' 2 (([c0,c1,c2].drop 0).take (Tryz.prog.cellsOf 2))=[y0,y1,y2][0]?:=hf 0 _ rfl
 have h1:DataW.trod enc Tryz.prog W 0 (fun _=>true) true n' 35 (([c0,c1,c2].drop 1).take (Tryz.prog.cellsOf 35))=[y0,y1,y2][1]?:=hf 1 _ rfl
 have h2:DataW.trod enc Tryz.prog W 0 (fun _=>true) true n' 36 (([c0,c1,c2].drop 2).take (Tryz.prog.cellsOf 36))=[y0,y1,y2][2]?:=hf 2 _ rfl
 rw [e2] at h0
 rw [e35] at h1
 rw [e36] at h2
 replace h0:DataW.trod enc Tryz.prog W 0 (fun _=>true) true n' 2 [c0]=some y0:=h0
 replace h1:DataW.trod enc Tryz.prog W 0 (fun _=>true) true n' 35 [c1]=some y1:=h1
 replace h2:DataW.trod enc Tryz.prog W 0 (fun _=>true) true n' 36 [c2]=some y2:=h2
 have hall:Rows.uptoBulk y0.1+(Rows.uptoBulk y1.1+(Rows.uptoBulk y2.1+0))+1≤B:=hB
 obtain ⟨m,a0,_,wm⟩:=DataW.trod_int Tryz.underlying2 h0
 obtain ⟨ls,hls,hn1⟩:=ze1 hBB h1 (by omega)
 obtain ⟨ps,hps,hn2⟩:=zgp hBB h2 (by omega)
 obtain rfl:c0=.int .i64 m:=by simpa using a0
 exact ⟨⟨m,ls,ps⟩,c1,c2,rfl,wm,by show ls.length≤2097152;omega,by show ps.length≤2097152;omega,hls,hps⟩
theorem zn0 {W:World} {B n:Nat} {cs:List Value} {y:DataW H × List MemPlace} (hBB:B≤2097152) (h:DataW.trod enc Tryz.prog W 0 (fun _=>true) true n 41 cs=some y) (hB:Rows.uptoBulk y.1≤B):∃ a,za0.rel W (Old W) cs a:=by
 obtain ⟨xs,n',rfl,rfl,hl,hlen,hf⟩:=DataW.trod_struct Tryz.underlying41 h
 have hl5:cs.length=5:=hl.trans (by kernel_rfl:Tryz.prog.cellsOf 41=5)
 have hlen5:xs.length=5:=hlen.trans rfl
 obtain ⟨y0,y1,y2,y3,y4,rfl⟩:=list5 hlen5
 obtain ⟨c0,c1,c2,c3,c4,rfl⟩:=list5 hl5
 have e2:Tryz.prog.cellsOf 2=1:=by kernel_rfl
 have e9:Tryz.prog.cellsOf 9=1:=by kernel_rfl
 have e36:Tryz.prog.cellsOf 36=1:=by kernel_rfl
 have h0:DataW.trod enc Tryz.prog W 0 (fun _=>true) true n' 2 (([c0,c1,c2,c3,c4].drop 0).take (Tryz.prog.cellsOf 2))=[y0,y1,y2,y3,y4][0]?:=hf 0 _ rfl
 have h1:DataW.trod enc Tryz.prog W 0 (fun _=>true) true n' 2 (([c0,c1,c2,c3,c4].drop 1).take (Tryz.prog.cellsOf 2))=[y0,y1,y2,y3,y4][1]?:=hf 1 _ rfl
 have h2:DataW.trod enc Tryz.prog W 0 (fun _=>true) true n' 2 (([c0,c1,c2,c3,c4].drop 2).take (Tryz.prog.cellsOf 2))=[y0,y1,y2,y3,y4][2]?:=hf 2 _ rfl
 have h3:DataW.trod enc Tryz.prog W 0 (fun _=>true) true n' 9 (([c0,c1,c2,c3,c4].drop 3).take (Tryz.prog.cellsOf 9))=[y0,y1,y2,y3,y4][3]?:=hf 3 _ rfl
 have h4:DataW.trod enc Tryz.prog W 0 (fun _=>true) true n' 36 (([c0,c1,c2,c3,c4].drop 4).take (Tryz.prog.cellsOf 36))=[y0,y1,y2,y3,y4][4]?:=hf 4 _ rfl
 rw [e2] at h0 h1 h2
 rw [e9] at h3
 rw [e36] at h4
 replace h0:DataW.trod enc Tryz.prog W 0 (fun _=>true) true n' 2 [c0]=some y0:=h0
 replace h1:DataW.trod enc Tryz.prog W 0 (fun _=>true) true n' 2 [c1]=some y1:=h1
 replace h2:DataW.trod enc Tryz.prog W 0 (fun _=>true) true n' 2 [c2]=some y2:=h2
 replace h3:DataW.trod enc Tryz.prog W 0 (fun _=>true) true n' 9 [c3]=some y3:=h3
 replace h4:DataW.trod enc Tryz.prog W 0 (fun _=>true) true n' 36 [c4]=some y4:=h4
 have hall:Rows.uptoBulk y0.1+(Rows.uptoBulk y1.1+(Rows.uptoBulk y2.1+(Rows.uptoBulk y3.1+(Rows.uptoBulk y4.1+0))))+1≤B:=hB
 obtain ⟨m0,a0,_,w0⟩:=DataW.trod_int Tryz.underlying2 h0
 obtain ⟨m1,a1,_,w1⟩:=DataW.trod_int Tryz.underlying2 h1
 obtain ⟨m2,a2,_,w2⟩:=DataW.trod_int Tryz.underlying2 h2
 obtain ⟨t,ht,hts⟩:=zfh hBB h3 (by omega)
 obtain ⟨ps,hps,hn2⟩:=zgp hBB h4 (by omega)
 obtain rfl:c0=.int .i64 m0:=by simpa using a0
 obtain rfl:c1=.int .i64 m1:=by simpa using a1
 obtain rfl:c2=.int .i64 m2:=by simpa using a2
 obtain rfl:c3=.string t:=by simpa using ht
 exact ⟨⟨m0,m1,m2,t,ps⟩,c4,rfl,⟨w0,w1,w2⟩,hts,by show ps.length≤2097152;omega,hps⟩
theorem zky {W:World} {B n:Nat} {L:Value} {y:DataW H × List MemPlace} (hBB:B≤2097152) (h:DataW.trod enc Tryz.prog W 0 (fun _=>true) true n 23 [L]=some y) (hB:Rows.uptoBulk y.1≤B):∃ l,zaj za0 W (Old W) L l∧l.length≤B:=
 zcj (E:=za0) Tryz.underlying23 (by kernel_rfl) (by decide) (fun _ _ _ h hb=>zn0 hBB h hb) h hB
end
end Go.Proofs.YtcfmenkigolnoaaGreatDoor

/- GRA -/
namespace Go.Proofs.YtcfmenkigolnoaaGreatDoor
open Go.RowKit Go.ChangeShapes Go.WideShapes
section
variable {H:Type} {enc:TypeId × Value→H}
theorem zn1 {W:World} {n:Nat} {cs:List Value} {y:DataW H × List MemPlace} (h:DataW.trod enc Tryz.prog W 0 (fun _=>true) true n 2 cs=some y):∃ z,intE.rel W (Old W) cs z:=by
 obtain ⟨m,a0,_,wm⟩:=DataW.trod_int Tryz.underlying2 h
 exact ⟨m,a0,wm⟩
theorem zn2 {W:World} {n:Nat} {cs:List Value} {y:DataW H × List MemPlace} (h:DataW.trod enc Tryz.prog W 0 (fun _=>true) true n 3 cs=some y):∃ z,intE.rel W (Old W) cs z:=by
 obtain ⟨m,a0,_,wm⟩:=DataW.trod_int Tryz.underlying3 h
 exact ⟨m,a0,wm⟩
theorem zn3 {W:World} {B n:Nat} {L:Value} {y:DataW H × List MemPlace} (h:DataW.trod enc Tryz.prog W 0 (fun _=>true) true n 42 [L]=some y) (hB:Rows.uptoBulk y.1≤B):∃ l,zaj intE W (Old W) L l∧l.length≤B:=
 zcj (E:=intE) Tryz.underlying42 (by kernel_rfl) (by decide) (fun _ _ _ h _=>zn1 h) h hB
theorem zn4 {W:World} {B n:Nat} {L:Value} {y:DataW H × List MemPlace} (h:DataW.trod enc Tryz.prog W 0 (fun _=>true) true n 44 [L]=some y) (hB:Rows.uptoBulk y.1≤B):∃ l,zaj intE W (Old W) L l∧l.length≤B:=
 zcj (E:=intE) Tryz.underlying44 (by kernel_rfl) (by decide) (fun _ _ _ h _=>zn2 h) h hB
theorem zkz {W:World} {B n:Nat} {L:Value} {y:DataW H × List MemPlace} (hBB:B≤2097152) (h:DataW.trod enc Tryz.prog W 0 (fun _=>true) true n 43 [L]=some y) (hB:Rows.uptoBulk y.1≤B):∃ l,zaj valE W (Old W) L l∧l.length≤B:=
 zcj (E:=valE) Tryz.underlying43 (by kernel_rfl) (by decide) (fun _ _ _ h hb=>zi4 hBB h hb) h hB
theorem list7 {α:Type} {l:List α} (h:l.length=7):∃ a b c d e f g,l=[a,b,c,d,e,f,g]:=by
 match l,h with
 | [a,b,c,d,e,f,g],_=>exact ⟨a,b,c,d,e,f,g,rfl⟩
theorem list2 {α:Type} {l:List α} (h:l.length=2):∃ a b,l=[a,b]:=by
 match l,h with
 | [a,b],_=>exact ⟨a,b,rfl⟩
theorem array7 {α:Type} {cs:Array α} (h:cs.size=7):∃ a b c d e f g,cs=#[a,b,c,d,e,f,g]:=by
 obtain ⟨l⟩:=cs
 obtain ⟨a,b,c,d,e,f,g,rfl⟩:=list7 (l:=l) h
 exact ⟨a,b,c,d,e,f,g,rfl⟩
end
end Go.Proofs.YtcfmenkigolnoaaGreatDoor

/- GPL -/
namespace Go.Proofs.YtcfmenkigolnoaaGreatDoor
open Go.RowKit
set_option maxHeartbeats 3200000 in
set_option maxRecDepth 20000 in
theorem map45 (tell:Int→zaq) (l:List Int) (v:Value) (bx:Nat) (w:World) (h:zb9 w v l) (hn:l.length≤2097152)
 (each:∀ x∈l,∀ W,Below w.heap.size w W→Calls Tryz.prog 46 #[.int .i64 x,.pointer (some ⟨bx,0,none⟩)] W (zca zay (tell x) W)):
 Calls Tryz.prog 45 #[v,.func (.func 46) #[] #[.pointer (some ⟨bx,0,none⟩)]] w (zbg zay 38 w (l.map tell)):=by
 obtain ⟨n,hln⟩:∃ n,n=l.length:=⟨_,rfl⟩
 obtain ⟨p,cap,rfl,_⟩:=id h
 rw [← hln] at hn
 obtain ⟨i0,hi,hz0,hz1,hz2⟩:=info_parts zj7
 have HL:=Lib.hid hln
 have HH:=Lib.hid h
 have HE:=Lib.hid each
 rw [← hln]
 clear h hln each
 go_enter Tryz.func45,Tryz.ntmps45
 go_wp2_with fail
 go_loopg [5,10] n (fun gg s5 s10 wr=>∃ j:Nat,j+gg=n∧s10=.int .i64 j∧Hid (AccE zay 38 w ((l.take j).map tell) s5 wr))
 case atStart=>exact ⟨0,by omega,rfl,Lib.hid (AccE.start zay 38 w)⟩
 case round=>
  obtain ⟨j,hjg,rfl,HA⟩:=hrel
  by_cases hlt:(j:Int) < n
  ·have hj1:j < l.length:=by have:=HL.out;omega
   have hbel:=HA.out.bel
   obtain ⟨pp,cc,e0,hcv⟩:=HH.out.below hbel
   injection e0 with e1 e2 e3
   subst e1
   obtain ⟨g,off,rfl,hcj⟩:=hcv (by intro q;rw [q] at hj1;simp at hj1)
   obtain ⟨x,hxj⟩:∃ x,x=l[j]:=⟨_,rfl⟩
   have c0:wr.cell? ⟨g,off+j,none⟩=some (.int .i64 x):=by
    rw [hcj j hj1,hxj]
    simp [hj1]
   have hjl:((l.take j).map tell).length=j:=by rw [List.length_map,List.length_take];omega
   have etk:(l.take (j+1)).map tell=(l.take j).map tell++[tell x]:=by rw [List.take_succ_eq_append_getElem hj1,List.map_append,hxj];rfl
   have hbs:=hbel.size
   have bX:Below wr.heap.size wr wr:=Below.refl _ _
   have hcall:=HE.out x (by rw [hxj];exact List.getElem_mem hj1) wr hbel
   have HX:=Lib.hid (And.intro bX hbel)
   have HK:=Lib.hid (And.intro hjl etk)
   clear hcj hcv hjl etk e2 e3 hbel bX hxj
   go_wp2_with (first
    |(go_at_call 46;(with_reducible refine hcall.mono ?_);rintro e w3 ⟨u,c',rfl,hu,hc',b3⟩
      obtain ⟨⟨xs,hown,hrow⟩,hbel⟩:=HA.out
      replace hown:wr.ownsRow w.heap.size 38 3 _ _ xs:=hown
      have hown3:=zav (zav hown HX.out.1) b3
      have hlen':c'.length=3:=zay.len hc'
      have hone':=zay.one hc'
      have hsX:=HX.out.1.size
      have hs3:=b3.size
      have HY:=Lib.hid (And.intro hown (And.intro hrow (And.intro hbel (And.intro b3 hc'))))
      clear hown hrow hbel b3 hc' HA hcall)
    |((with_reducible refine zbj ?_ 22 38 (.tmp 17) ?_ u c' ?_ hu i0 _ 3 hlen' (by omega) (by omega) Tryz.underlying22 hi hz0 hz1 ?_);rfl;rfl;rfl)
    |(at_builtin;refine wpList_append_own_at _ rfl _ _ 22 rfl w.heap.size 38 i0 (.agg #[.int .i64 0,.slice none 0 0,.slice none 0 0]) 3 56 Tryz.underlying22 hi hz0 hz1 hz2 rfl (by decide) _ _ _ rfl (hown3.alloc _) ⟨w3.heap.size,0,none⟩ 1 1 c' rfl (by rw [hlen']) (zbc _ _ _) hone' ?_ ?_ ?_ ?_))
   all_goals (try (first |(rw [HK.out.1];unfold maxLen;omega) |(rw [HK.out.1];omega) |(simp;omega)))
   intro v' w5 hown' hgrow _ hloc
   have e9:min j l.length=j:=by omega
   rw [e9] at hown'
   have e10:=hown'
   rw [← HK.out.1] at e10
   have acc:AccE zay 38 w ((l.take (j+1)).map tell) v' w5:=by
    rw [HK.out.2]
    exact AccE.next HY.out.1 HY.out.2.1 HY.out.2.2.1 HX.out.1 HY.out.2.2.2.1 HY.out.2.2.2.2 e10 hgrow (by simpa using hloc)
   have ACC:=Lib.hid acc
   clear acc hown' hgrow hloc hown3 HY HX
   go_wp2_with fail
   go_roundg (gk - 1)
   case measure=>omega
   case rel=>exact ⟨j+1,by omega,by go_num,ACC⟩
  ·have e:l.take j=l:=by rw [List.take_of_length_le];have:=HL.out;omega
   have hA:=HA.out
   rw [e] at hA
   obtain ⟨⟨xs,hown,hrow⟩,hbel⟩:=hA
   have HX:=Lib.hid (And.intro hown (And.intro hrow hbel))
   clear hown hrow hbel HA
   go_wp2_with fail
   go_ret
   exact ⟨_,xs,rfl,HX.out.1,HX.out.2.1,HX.out.2.2⟩
set_option maxHeartbeats 3200000 in
set_option maxRecDepth 20000 in
theorem map48 (tell:Int→zas) (l:List Int) (v:Value) (bx:Nat) (w:World) (h:zb9 w v l) (hn:l.length≤2097152)
 (each:∀ x∈l,∀ W,Below w.heap.size w W→Calls Tryz.prog 49 #[.int .i64 x,.pointer (some ⟨bx,0,none⟩)] W (zca za0 (tell x) W)):
 Calls Tryz.prog 48 #[v,.func (.func 49) #[] #[.pointer (some ⟨bx,0,none⟩)]] w (zbg za0 41 w (l.map tell)):=by
 obtain ⟨n,hln⟩:∃ n,n=l.length:=⟨_,rfl⟩
 obtain ⟨p,cap,rfl,_⟩:=id h
 rw [← hln] at hn
 obtain ⟨i0,hi,hz0,hz1,hz2⟩:=info_parts zj8
 have HL:=Lib.hid hln
 have HH:=Lib.hid h
 have HE:=Lib.hid each
 rw [← hln]
 clear h hln each
 go_enter Tryz.func48,Tryz.ntmps48
 go_wp2_with fail
 go_loopg [5,10] n (fun gg s5 s10 wr=>∃ j:Nat,j+gg=n∧s10=.int .i64 j∧Hid (AccE za0 41 w ((l.take j).map tell) s5 wr))
 case atStart=>exact ⟨0,by omega,rfl,Lib.hid (AccE.start za0 41 w)⟩
 case round=>
  obtain ⟨j,hjg,rfl,HA⟩:=hrel
  by_cases hlt:(j:Int) < n
  ·have hj1:j < l.length:=by have:=HL.out;omega
   have hbel:=HA.out.bel
   obtain ⟨pp,cc,e0,hcv⟩:=HH.out.below hbel
   injection e0 with e1 e2 e3
   subst e1
   obtain ⟨g,off,rfl,hcj⟩:=hcv (by intro q;rw [q] at hj1;simp at hj1)
   obtain ⟨x,hxj⟩:∃ x,x=l[j]:=⟨_,rfl⟩
   have c0:wr.cell? ⟨g,off+j,none⟩=some (.int .i64 x):=by
    rw [hcj j hj1,hxj]
    simp [hj1]
   have hjl:((l.take j).map tell).length=j:=by rw [List.length_map,List.length_take];omega
   have etk:(l.take (j+1)).map tell=(l.take j).map tell++[tell x]:=by rw [List.take_succ_eq_append_getElem hj1,List.map_append,hxj];rfl
   have hbs:=hbel.size
   have bX:Below wr.heap.size wr wr:=Below.refl _ _
   have hcall:=HE.out x (by rw [hxj];exact List.getElem_mem hj1) wr hbel
   have HX:=Lib.hid (And.intro bX hbel)
   have HK:=Lib.hid (And.intro hjl etk)
   clear hcj hcv hjl etk e2 e3 hbel bX hxj
   go_wp2_with (first
    |(go_at_call 49;(with_reducible refine hcall.mono ?_);rintro e w3 ⟨u,c',rfl,hu,hc',b3⟩
      obtain ⟨⟨xs,hown,hrow⟩,hbel⟩:=HA.out
      replace hown:wr.ownsRow w.heap.size 41 5 _ _ xs:=hown
      have hown3:=zav (zav hown HX.out.1) b3
      have hlen':c'.length=5:=za0.len hc'
      have hone':=za0.one hc'
      have hsX:=HX.out.1.size
      have hs3:=b3.size
      have HY:=Lib.hid (And.intro hown (And.intro hrow (And.intro hbel (And.intro b3 hc'))))
      clear hown hrow hbel b3 hc' HA hcall)
    |((with_reducible refine zbj ?_ 23 41 (.tmp 17) ?_ u c' ?_ hu i0 _ 5 hlen' (by omega) (by omega) Tryz.underlying23 hi hz0 hz1 ?_);rfl;rfl;rfl)
    |(at_builtin;refine wpList_append_own_at _ rfl _ _ 23 rfl w.heap.size 41 i0 (.agg #[.int .i64 0,.int .i64 0,.int .i64 0,.string ⟨#[]⟩,.slice none 0 0]) 5 64 Tryz.underlying23 hi hz0 hz1 hz2 rfl (by decide) _ _ _ rfl (hown3.alloc _) ⟨w3.heap.size,0,none⟩ 1 1 c' rfl (by rw [hlen']) (zbc _ _ _) hone' ?_ ?_ ?_ ?_))
   all_goals (try (first |(rw [HK.out.1];unfold maxLen;omega) |(rw [HK.out.1];omega) |(simp;omega)))
   intro v' w5 hown' hgrow _ hloc
   have e9:min j l.length=j:=by omega
   rw [e9] at hown'
   have e10:=hown'
   rw [← HK.out.1] at e10
   have acc:AccE za0 41 w ((l.take (j+1)).map tell) v' w5:=by
    rw [HK.out.2]
    exact AccE.next HY.out.1 HY.out.2.1 HY.out.2.2.1 HX.out.1 HY.out.2.2.2.1 HY.out.2.2.2.2 e10 hgrow (by simpa using hloc)
   have ACC:=Lib.hid acc
   clear acc hown' hgrow hloc hown3 HY HX
   go_wp2_with fail
   go_roundg (gk - 1)
   case measure=>omega
   case rel=>exact ⟨j+1,by omega,by go_num,ACC⟩
  ·have e:l.take j=l:=by rw [List.take_of_length_le];have:=HL.out;omega
   have hA:=HA.out
   rw [e] at hA
   obtain ⟨⟨xs,hown,hrow⟩,hbel⟩:=hA
   have HX:=Lib.hid (And.intro hown (And.intro hrow hbel))
   clear hown hrow hbel HA
   go_wp2_with fail
   go_ret
   exact ⟨_,xs,rfl,HX.out.1,HX.out.2.1,HX.out.2.2⟩
theorem zqp (a:zaq) (W:World) (c:List Value) (h:zay.rel W (Old W) c a):Calls Tryz.prog 47 #[.agg c.toArray] W fun e w'=>∃ c',e=.returned (.agg c'.toArray)∧zay.rel w' (New W w') c' a∧Below W.heap.size W w':=by
 obtain ⟨id,ls,ps⟩:=a
 obtain ⟨lv,pv,rfl,hid,hn1,hn2,hl,hp⟩:=h
 obtain ⟨p1,c1,rfl⟩:=hl.slice
 obtain ⟨p2,c2,rfl⟩:=hp.slice
 refine (ziu id ls ps p1 p2 c1 c2 W hn1 hn2 hl hp).mono ?_
 rintro e w' ⟨V,U,rfl,hV,hU,hb⟩
 exact ⟨[.int .i64 id,V,U],rfl,⟨V,U,rfl,hid,hn1,hn2,hV.slice (Nat.le_refl _),hU.slice (Nat.le_refl _)⟩,hb⟩
theorem zqq (a:zas) (W:World) (c:List Value) (h:za0.rel W (Old W) c a):Calls Tryz.prog 50 #[.agg c.toArray] W fun e w'=>∃ c',e=.returned (.agg c'.toArray)∧za0.rel w' (New W w') c' a∧Below W.heap.size W w':=by
 obtain ⟨id,src,dst,ty,ps⟩:=a
 obtain ⟨pv,rfl,hid,hn1,hn2,hp⟩:=h
 obtain ⟨p2,c2,rfl⟩:=hp.slice
 refine (ziv id src dst ty ps p2 c2 W hn1 hn2 hp).mono ?_
 rintro e w' ⟨U,rfl,hU,hb⟩
 exact ⟨[.int .i64 id,.int .i64 src,.int .i64 dst,.string ty,U],rfl,⟨U,rfl,hid,hn1,hn2,hU.slice (Nat.le_refl _)⟩,hb⟩
def BoxS (w:World) (b s:Nat):Prop:=w.heap[b]?=some (.cells #[.pointer (some ⟨s,0,none⟩)] 29 (0,0))
set_option maxHeartbeats 3200000 in
set_option maxRecDepth 20000 in
theorem zxu (a:zaq) (W:World) (s b:Nat) (g:zaw) (h:zcz W s g) (hb:BoxS W b s) (ha:a∈g.nodes) (hd:(a.props.map fun p=>bl p.key).Nodup):
 Calls Tryz.prog 46 #[.int .i64 a.id,.pointer (some ⟨b,0,none⟩)] W (zca zay (zc6 a) W):=by
 obtain ⟨m0,m1,m4,m5,V2,V3,q0,q1,q2,_,_,_,_⟩:=h.is
 obtain ⟨nn,f,hnn,hmap,h3,_⟩:=q1
 obtain ⟨a',c,hp,hff,hr⟩:=h3 a ha
 rw [hp.eq hd] at hr
 have hwf:(Lit.int .i64 a.id).wf=true:=by obtain ⟨_,_,rfl,hw,_⟩:=hr;exact hw
 have hki:keyOf Tryz.prog 2 (.int .i64 a.id)=some (.int .i64 a.id):=Go.Maps.keyOf_int_mk Tryz.underlying2 hwf
 have u1:(W.alloc (.cells #[.int .i64 0,.slice none 0 0,.slice none 0 0] 38)).heap[W.heap.size]?=some (.cells #[.int .i64 0,.slice none 0 0,.slice none 0 0] 38 (0,0)):=zae _ _ rfl
 have b0:=zar W (.cells #[.int .i64 0,.slice none 0 0,.slice none 0 0] 38)
 have us:(W.alloc (.cells #[.int .i64 0,.slice none 0 0,.slice none 0 0] 38)).heap[s]?=_:=zat _ q0
 have ub:(W.alloc (.cells #[.int .i64 0,.slice none 0 0,.slice none 0 0] 38)).heap[b]?=some (.cells #[.pointer (some ⟨s,0,none⟩)] 29 (0,0)):=zat _ hb
 replace hmap:=hmap.keep (b0.block _ hmap.lt)
 obtain ⟨W0,hW0⟩:∃ W0,W0=W.alloc (.cells #[.int .i64 0,.slice none 0 0,.slice none 0 0] 38):=⟨_,rfl⟩
 have hz1:∀ u∈[Value.int .i64 0,.slice none 0 0,.slice none 0 0],u.oneCell'=true:=by simp [Value.oneCell']
 rw [← hW0] at u1 b0 us ub hmap
 have cs:=zac us 0 rfl
 have cb:=zac ub 0 rfl
 have s0:W.heap.size < W0.heap.size:=zaa u1
 have HC:=Lib.hid (zqp (zc6 a) W0 c (zay.stays (zad b0) hr))
 have H0:=Lib.hid hW0
 obtain ⟨id,hid⟩:∃ id,id=a.id:=⟨_,rfl⟩
 rw [← hid] at hki hff ⊢
 clear hW0 hr hp h3 hwf hb h q0 q2 hid
 go_enter Tryz.func46,Tryz.ntmps46
 go_upto_region 1 with fail
 rw [← H0.out]
 go_wp2_with (first
  |(at_lookup;refine zb6 rfl _ _ 73 rfl 2 38 law2 Tryz.underlying73 (zqj _) m0 nn rfl hmap _ (.int .i64 id) rfl hki trivial ?_;rw [hff];simp only [Option.getD_some])
  |(go_at_call 47;(with_reducible refine HC.out.mono ?_);rintro e w3 ⟨c',rfl,hc',hb3⟩
    have u3:=(hb3.block _ (zaa u1)).trans u1
    have hlen:c'.length=3:=zay.len hc'
    have hone:=zay.one hc'
    have HR:=Lib.hid (And.intro hc' hb3)
    clear hc' hb3)
  |((with_reducible refine zag (.tmp 3) (.tmp 10) W.heap.size 38 38 _ c' 3 u3 hlen ?_ ?_ ?_ ?_ zam rfl hone ?_);rfl;rfl;rfl;rfl;intro wX oX u5))
 have hsz:=oX.size
 exact bodyPost_ret (results_cell_row (p:=3) (ty:=38) Tryz.results46 _ _ W.heap.size 38 _ (0,0) _ rfl u5 Tryz.underlying38 rfl (by rw [zam];simp [hlen])) rfl
  ⟨_,c',rfl,rfl,zay.stays (fun i hi=>⟨⟨by have:=hi.1;omega,Nat.lt_of_lt_of_le hi.2 hsz⟩,oX.block i hi.2 (by have:=hi.1;omega)⟩) HR.out.1,zaf (zab b0 HR.out.2 b0.size) oX (Nat.le_refl _) (Nat.le_trans b0.size HR.out.2.size)⟩
set_option maxHeartbeats 3200000 in
set_option maxRecDepth 20000 in
theorem zxv (a:zas) (W:World) (s b:Nat) (g:zaw) (h:zcz W s g) (hb:BoxS W b s) (ha:a∈g.edges) (hd:(a.props.map fun p=>bl p.key).Nodup):
 Calls Tryz.prog 49 #[.int .i64 a.id,.pointer (some ⟨b,0,none⟩)] W (zca za0 (zc7 a) W):=by
 obtain ⟨m0,m1,m4,m5,V2,V3,q0,q1,q2,_,_,_,_⟩:=h.is
 obtain ⟨nn,f,hnn,hmap,h3,_⟩:=q2
 obtain ⟨a',c,hp,hff,hr⟩:=h3 a ha
 rw [hp.eq hd] at hr
 have hwf:(Lit.int .i64 a.id).wf=true:=by obtain ⟨_,rfl,hw,_⟩:=hr;exact hw.1
 have hki:keyOf Tryz.prog 2 (.int .i64 a.id)=some (.int .i64 a.id):=Go.Maps.keyOf_int_mk Tryz.underlying2 hwf
 have u1:(W.alloc (.cells #[.int .i64 0,.int .i64 0,.int .i64 0,.string ⟨#[]⟩,.slice none 0 0] 41)).heap[W.heap.size]?=some (.cells #[.int .i64 0,.int .i64 0,.int .i64 0,.string ⟨#[]⟩,.slice none 0 0] 41 (0,0)):=zae _ _ rfl
 have b0:=zar W (.cells #[.int .i64 0,.int .i64 0,.int .i64 0,.string ⟨#[]⟩,.slice none 0 0] 41)
 have us:(W.alloc (.cells #[.int .i64 0,.int .i64 0,.int .i64 0,.string ⟨#[]⟩,.slice none 0 0] 41)).heap[s]?=_:=zat _ q0
 have ub:(W.alloc (.cells #[.int .i64 0,.int .i64 0,.int .i64 0,.string ⟨#[]⟩,.slice none 0 0] 41)).heap[b]?=some (.cells #[.pointer (some ⟨s,0,none⟩)] 29 (0,0)):=zat _ hb
 replace hmap:=hmap.keep (b0.block _ hmap.lt)
 obtain ⟨W0,hW0⟩:∃ W0,W0=W.alloc (.cells #[.int .i64 0,.int .i64 0,.int .i64 0,.string ⟨#[]⟩,.slice none 0 0] 41):=⟨_,rfl⟩
 have hz1:∀ u∈[Value.int .i64 0,.int .i64 0,.int .i64 0,.string ⟨#[]⟩,.slice none 0 0],u.oneCell'=true:=by simp [Value.oneCell']
 rw [← hW0] at u1 b0 us ub hmap
 have cs:=zac us 1 rfl
 have cb:=zac ub 0 rfl
 have s0:W.heap.size < W0.heap.size:=zaa u1
 have HC:=Lib.hid (zqq (zc7 a) W0 c (za0.stays (zad b0) hr))
 have H0:=Lib.hid hW0
 obtain ⟨id,hid⟩:∃ id,id=a.id:=⟨_,rfl⟩
 rw [← hid] at hki hff ⊢
 clear hW0 hr hp h3 hwf hb h q0 q1 hid
 go_enter Tryz.func49,Tryz.ntmps49
 go_upto_region 1 with fail
 rw [← H0.out]
 go_wp2_with (first
  |(at_lookup;refine zb6 rfl _ _ 74 rfl 2 41 law2 Tryz.underlying74 (zkc _) m1 nn rfl hmap _ (.int .i64 id) rfl hki trivial ?_;rw [hff];simp only [Option.getD_some])
  |(go_at_call 50;(with_reducible refine HC.out.mono ?_);rintro e w3 ⟨c',rfl,hc',hb3⟩
    have u3:=(hb3.block _ (zaa u1)).trans u1
    have hlen:c'.length=5:=za0.len hc'
    have hone:=za0.one hc'
    have HR:=Lib.hid (And.intro hc' hb3)
    clear hc' hb3)
  |((with_reducible refine zag (.tmp 3) (.tmp 10) W.heap.size 41 41 _ c' 5 u3 hlen ?_ ?_ ?_ ?_ zak rfl hone ?_);rfl;rfl;rfl;rfl;intro wX oX u5))
 have hsz:=oX.size
 exact bodyPost_ret (results_cell_row (p:=3) (ty:=41) Tryz.results49 _ _ W.heap.size 41 _ (0,0) _ rfl u5 Tryz.underlying41 rfl (by rw [zak];simp [hlen])) rfl
  ⟨_,c',rfl,rfl,za0.stays (fun i hi=>⟨⟨by have:=hi.1;omega,Nat.lt_of_lt_of_le hi.2 hsz⟩,oX.block i hi.2 (by have:=hi.1;omega)⟩) HR.out.1,zaf (zab b0 HR.out.2 b0.size) oX (Nat.le_refl _) (Nat.le_trans b0.size HR.out.2.size)⟩
def zi5 (W:World) (g:zaw) (e:Ending) (w':World):Prop:=
 ∃ vn ve xn xe mid,e=.returned (.agg #[vn,ve])∧W.heap.size≤mid∧mid≤w'.heap.size∧(∀ b,vn.ownBlock=some b→b < mid)∧
  w'.ownsRow W.heap.size 38 3 vn (za3 g).nodes.length xn∧RowE zay w' (fun i=>W.heap.size≤i∧i < mid∧vn.ownBlock≠some i) xn (za3 g).nodes∧
  w'.ownsRow mid 41 5 ve (za3 g).edges.length xe∧RowE za0 w' (fun i=>mid≤i∧i < w'.heap.size∧ve.ownBlock≠some i) xe (za3 g).edges∧Below W.heap.size W w'
set_option maxHeartbeats 6400000 in
set_option maxRecDepth 20000 in
theorem zvb (W:World) (s:Nat) (g:zaw) (h:zcz W s g) (hg:zep g):Calls Tryz.prog 16 #[.pointer (some ⟨s,0,none⟩)] W (zi5 W g):=by
 obtain ⟨m0,m1,m4,m5,V2,V3,q0,q1,q2,q3,q4,_,_⟩:=h.is
 have e3:(g.nodes.map zaq.id).mergeSort leI=zez g:=rfl
 have e4:(g.edges.map zas.id).mergeSort leI=zd9 g:=rfl
 rw [e3] at q3
 rw [e4] at q4
 have i3:=za4 q3
 have i4:=za4 q4
 obtain ⟨p3,k3,rfl⟩:=zba q3
 obtain ⟨p4,k4,rfl⟩:=zba q4
 obtain ⟨w1,hw1⟩:∃ w1,w1=(W.alloc (.cells #[.pointer (some ⟨s,0,none⟩)] 29)).alloc (.cells #[.slice none 0 0,.slice none 0 0] 25):=⟨_,rfl⟩
 have u1:w1.heap[W.heap.size]?=some (.cells #[.pointer (some ⟨s,0,none⟩)] 29 (0,0)):=by rw [hw1];exact zat _ (zae _ _ rfl)
 have u2:w1.heap[W.heap.size+1]?=some (.cells #[.slice none 0 0,.slice none 0 0] 25 (0,0)):=by rw [hw1];exact zae _ _ (by simp)
 have bw:Below W.heap.size W w1:=by rw [hw1];exact zbi _ _ _
 have us:=(bw.block _ (zaa q0)).trans q0
 have hsz1:W.heap.size+2≤w1.heap.size:=by rw [hw1];simp
 have H45:Hid (∀ W',Below W.heap.size W W'→BoxS W' W.heap.size s→Calls Tryz.prog 45 #[.slice p3 (zez g).length k3,.func (.func 46) #[] #[.pointer (some ⟨W.heap.size,0,none⟩)]] W' (zbg zay 38 W' (za3 g).nodes)):=Lib.hid fun W' hb hx=>by
  refine map45 (zi3 g) (zez g) _ _ W' (i3.below hb) (by rw [zgk];have:=hg.nn;omega) fun x hxm W2 hb2=>?_
  obtain ⟨a,ha,rfl⟩:=List.mem_map.1 (List.mem_mergeSort.1 hxm)
  rw [zfg hg.dn ha]
  exact zxu a W2 s _ g ((h.below hb).below hb2) ((hb2.block _ (zaa hx)).trans hx) ha (zcn (hg.nkeys a ha)).2.1
 have H48:Hid (∀ W',Below W.heap.size W W'→BoxS W' W.heap.size s→Calls Tryz.prog 48 #[.slice p4 (zd9 g).length k4,.func (.func 49) #[] #[.pointer (some ⟨W.heap.size,0,none⟩)]] W' (zbg za0 41 W' (za3 g).edges)):=Lib.hid fun W' hb hx=>by
  refine map48 (zfz g) (zd9 g) _ _ W' (i4.below hb) (by rw [zgm];have:=hg.ne;omega) fun x hxm W2 hb2=>?_
  obtain ⟨a,ha,rfl⟩:=List.mem_map.1 (List.mem_mergeSort.1 hxm)
  rw [zeo hg.de ha]
  exact zxv a W2 s _ g ((h.below hb).below hb2) ((hb2.block _ (zaa hx)).trans hx) ha (zcn (hg.ekeys a ha).1).2.1
 have HW:=Lib.hid hw1
 clear hw1 q1 q2 q3 q4 i3 i4 e3 e4 hg
 go_enter Tryz.func16,Tryz.ntmps16
 go_upto_region 1 with fail
 rw [← HW.out]
 refine wp_region_held_drew (S:=fun W'=>W'.heap[W.heap.size]?=some (.cells #[.pointer (some ⟨s,0,none⟩)] 29 (0,0))∧W'.heap[s]?=some (.cells #[.map (some m0),.map (some m1),.slice p3 (zez g).length k3,.slice p4 (zd9 g).length k4,.map (some m4),.map (some m5)] 79 (0,0))) (by kernel_rfl) ⟨u1,us⟩ (fun _=>?_)
 replace bw:=bw.drew
 replace u1:w1.drew.heap[W.heap.size]?=_:=u1
 replace u2:w1.drew.heap[W.heap.size+1]?=_:=u2
 replace us:w1.drew.heap[s]?=_:=us
 replace hsz1:W.heap.size+2≤w1.drew.heap.size:=hsz1
 refine tk (i:=0) (v:=.pointer (some ⟨s,0,none⟩)) rfl (Or.inl ⟨by rfl,fun W' h=>by have c0:=zac h.1 0 rfl;go_simp⟩) (⟨u1,us⟩) ?_
 refine tg (i:=4) (.func (.func 46) #[] #[.pointer (some ⟨W.heap.size,0,none⟩)]) rfl (⟨u1,us⟩) ?_
 refine tk (i:=6) (v:=.pointer (some ⟨s,0,none⟩)) rfl (Or.inl ⟨by rfl,fun W' h=>by have c0:=zac h.1 0 rfl;go_simp⟩) (⟨u1,us⟩) ?_
 refine tg (i:=10) (.func (.func 49) #[] #[.pointer (some ⟨W.heap.size,0,none⟩)]) rfl (⟨u1,us⟩) ?_
 refine tg (i:=1) (.pointer (some ⟨s,0,none⟩)) rfl (⟨u1,us⟩) ?_
 refine tg (i:=7) (.pointer (some ⟨s,0,none⟩)) rfl (⟨u1,us⟩) ?_
 refine tg (i:=2) (.pointer (some ⟨s,2,none⟩)) rfl (⟨u1,us⟩) ?_
 refine tg (i:=8) (.pointer (some ⟨s,3,none⟩)) rfl (⟨u1,us⟩) ?_
 refine tk (i:=3) (v:=.slice p3 (zez g).length k3) rfl (Or.inl ⟨by rfl,fun W' h=>by have c0:=zac h.2 2 rfl;go_simp⟩) (⟨u1,us⟩) ?_
 refine tk (i:=9) (v:=.slice p4 (zd9 g).length k4) rfl (Or.inl ⟨by rfl,fun W' h=>by have c0:=zac h.2 3 rfl;go_simp⟩) (⟨u1,us⟩) ?_
 refine tr 5 rfl (fun K hK=>?_)
 rw [if_pos (by rfl)]
 go_simp
 refine (H45.out _ bw u1).mono ?_
 rintro e0 w3 ⟨vn,xn,rfl,hon,hrn,hb3⟩
 have hm3:=hb3.size
 obtain ⟨pn,kn,rfl⟩:=zba hon
 replace u1:=(hb3.block _ (zaa u1)).trans u1
 replace u2:=(hb3.block _ (zaa u2)).trans u2
 replace us:=(hb3.block _ (zaa us)).trans us
 replace bw:=zab bw hb3 bw.size
 have HN:=Lib.hid (And.intro hon hrn)
 clear hb3 hon hrn
 refine hK.out _ _ (⟨u1,us⟩) (fun _=>?_)
 clear hK K
 try simp only [putS]
 refine tr 11 rfl (fun K hK=>?_)
 rw [if_pos (by rfl)]
 go_simp
 refine (H48.out _ bw u1).mono ?_
 rintro e0 w4 ⟨ve,xe,rfl,hoe,hre,hb4⟩
 have hm4:=hb4.size
 obtain ⟨pe,ke,rfl⟩:=zba hoe
 replace u1:=(hb4.block _ (zaa u1)).trans u1
 replace u2:=(hb4.block _ (zaa u2)).trans u2
 replace us:=(hb4.block _ (zaa us)).trans us
 replace bw:=zab bw hb4 bw.size
 have HE:=Lib.hid (And.intro hoe (And.intro hre hb4))
 clear hb4 hoe hre
 refine hK.out _ _ (⟨u1,us⟩) (fun _=>?_)
 clear hK K
 try simp only [putS]
 refine tg (i:=12) (.agg #[.slice pn (za3 g).nodes.length kn,.slice pe (za3 g).edges.length ke]) rfl (⟨u1,us⟩) ?_
 refine tr 13 rfl (fun K hK=>?_)
 rw [if_pos (by rfl)]
 refine wp_store_row 25 (.tmp 2) (.tmp 15) rfl (W.heap.size+1) #[.slice pn (za3 g).nodes.length kn,.slice pe (za3 g).edges.length ke] rfl rfl 25 _ u2 zbh rfl (by simp [Value.oneCell']) ?_
 have u5:=zb3 (c':=#[.slice pn (za3 g).nodes.length kn,.slice pe (za3 g).edges.length ke]) u2
 have on:=Only.setRow (b:=W.heap.size+1) w4 #[.slice pn (za3 g).nodes.length kn,.slice pe (za3 g).edges.length ke]
 have hlt2:=zaa u2
 have hlts:=zaa q0
 replace u1:=(on.block W.heap.size (zaa u1) (by omega)).trans u1
 replace us:=(on.block s (zaa us) (by omega)).trans us
 have bz:=zaf bw on (Nat.le_succ _) bw.size
 refine hK.out _ _ (⟨u1,us⟩) (fun _=>?_)
 clear hK K
 try simp only [putS]
 refine wpAnyH_done (by kernel_rfl) ?_ _
 go_wp2_with fail
 have hon:=HN.out.1
 have hrn:=HN.out.2
 have hoe:=HE.out.1
 have hre:=HE.out.2.1
 have hb4:=HE.out.2.2
 have hsz:=on.size
 refine bodyPost_ret (results_cell_row (p:=2) (ty:=25) Tryz.results16 _ _ (W.heap.size+1) 25 _ (0,0) _ rfl u5 Tryz.underlying25 rfl zbh) rfl ?_
 refine ⟨_,_,xn,xe,w3.heap.size,rfl,by omega,by omega,fun b hb=>(hon.lt b hb).2,?_,?_,?_,?_,bz⟩
 ·exact zbr (za5 hon fun i e=>(on.block i (Nat.lt_of_lt_of_le (hon.lt i e).2 hm4) (by have:=(hon.lt i e).1;omega)).trans (hb4.block i (hon.lt i e).2)) (by omega)
 ·exact RowE.stays (fun i hi=>⟨⟨by have:=hi.1;omega,hi.2.1,hi.2.2⟩,(on.block i (Nat.lt_of_lt_of_le hi.2.1 hm4) (by have:=hi.1;omega)).trans (hb4.block i hi.2.1)⟩) _ hrn
 ·exact za5 hoe fun i e=>on.block i (hoe.lt i e).2 (by have:=(hoe.lt i e).1;omega)
 ·exact RowE.stays (fun i hi=>⟨⟨hi.1,Nat.lt_of_lt_of_le hi.2.1 hsz,hi.2.2⟩,on.block i hi.2.1 (by have:=hi.1;omega)⟩) _ hre
theorem zi5.slices {W:World} {g:zaw} {e:Ending} {w':World} (h:zi5 W g e w'):∃ vn ve,e=.returned (.agg #[vn,ve])∧zaj zay w' (New W w') vn (za3 g).nodes∧zaj za0 w' (New W w') ve (za3 g).edges∧Below W.heap.size W w':=by
 obtain ⟨vn,ve,xn,xe,mid,rfl,h1,h2,h3,h4,h5,h6,h7,h8⟩:=h
 exact ⟨vn,ve,rfl,zb0 h4 h5 (fun i hi=>⟨hi.1,by omega⟩) (fun i e=>h4.lt i e),zb0 h6 h7 (fun i hi=>⟨by omega,hi.2.1⟩) (fun i e=>⟨by have:=(h6.lt i e).1;omega,(h6.lt i e).2⟩),h8⟩
end Go.Proofs.YtcfmenkigolnoaaGreatDoor

/- GAK -/
namespace Go.Proofs.YtcfmenkigolnoaaGreatDoor
open Go.RowKit
def LabPost (W:World) (zs:List Int) (e:Ending) (w':World):Prop:=∃ p cap,e=.returned (.slice p zs.length cap)∧zb9 w' (.slice p zs.length cap) zs∧Below W.heap.size W w'
theorem zxw (W:World) (xs:List ByteArray):zcd (W.alloc (.cells (xs.map Value.string).toArray 9)) (.slice (some ⟨W.heap.size,0,none⟩) xs.length xs.length) xs:=
 ⟨_,_,rfl,fun _=>⟨W.heap.size,0,rfl,fun j hj=>zac (zae _ _ rfl) (0+j) (by simp [hj])⟩⟩
theorem askLab (W:World) (s:Nat) (g:zaw) (h:zcz W s g) (hg:zep g) (xs:List ByteArray) (hx:∀ t∈xs,t.size≤2097152) (hl:xs.length≤2):
 Calls Tryz.prog 31 #[.pointer (some ⟨s,0,none⟩),.slice (some ⟨W.heap.size,0,none⟩) xs.length xs.length] (W.alloc (.cells (xs.map Value.string).toArray 9)) (LabPost W (zcp g xs)):=by
 have b0:=zar W (.cells (xs.map Value.string).toArray 9)
 refine (zns _ s g (h.below b0) hg.dn (fun a ha=>(hg.labels a ha).2.1) hg.nn _ xs (zxw W xs) (by omega) hx).mono ?_
 rintro e w' ⟨R,rfl,hR,hb⟩
 obtain ⟨p,cap,rfl⟩:=zba hR
 exact ⟨p,cap,rfl,za4 hR,zab b0 hb b0.size⟩
theorem eqOne (W:World) (z:Int) (p:Option Addr) (cap:Nat) (h:zb9 W (.slice p 1 cap) [z]):
 Calls Tryz.prog 24 #[.slice p 1 cap,.slice (some ⟨W.heap.size,0,none⟩) 1 1] (W.alloc (.cells #[.int .i64 z] 2)) fun e w'=>e=.returned (.bool true)∧Below W.heap.size W w':=by
 have b0:=zar W (.cells #[.int .i64 z] 2)
 have q:=zgl _ _ [z] [z] _ (h.below b0) ⟨_,1,rfl,fun _=>⟨W.heap.size,0,rfl,fun j hj=>zac (zae W _ rfl) (0+j) (by
  have:j=0:=by simpa using hj
  subst this
  rfl)⟩⟩ (by simp)
 refine q.mono ?_
 rintro e w' ⟨rfl,hb⟩
 exact ⟨by simp,zab b0 hb b0.size⟩
end Go.Proofs.YtcfmenkigolnoaaGreatDoor
