/- Texts of one kind, one behind the other: each says ahead of itself what it shows. -/
import Derived.Test.YtanbgdhmfjgihaaGreatDoorTay
import Derived.Test.YtanbgdhmfjgihaaGreatDoorTaf
import Derived.Test.YtanbgdhmfjgihaaGreatDoorRows
import Derived.ProofKit
import Derived.OpenShut
import Derived.Carry
import Derived.Laws.MakeOwn
import Derived.RangeFuncNested
import Derived.RangeFuncBound
import Derived.RangeFuncCalls
import Derived.RangeFuncLeaves
import Derived.Shelf.Abstract
import Derived.Shelf.RegionOpen
import Derived.WalkKit
import Derived.OwnWalkIn
import Derived.TacticsInMore
import Derived.LoopNIn
import Derived.LoopIn
import Derived.Maps.OwnIn
import Derived.Sort.CutIn
import Derived.Deep.AppendLies
/- XC -/
namespace Go.Proofs.YtanbgdhmfjgihaaGreatDoor
open Go.RowKit
section
variable {c:CS}
theorem CS.go_on (c:CS) (h1:1≤c.d) (h3:c.d≤3) (x:Nat):(c.go x).on=decide (x < c.fin):=by
 unfold CS.on
 rw [CS.go_d,CS.go_pos c x h1 h3,CS.go_fin c x h1 h3,decide_eq_true h1,Bool.true_and]
end
section
variable {s:SM} {k:Nat} {c:CS} {u:Val}
end
def nulV:Val:=.mk 0 false 0 ⟨#[]⟩ ⟨#[]⟩ []
def CS.kval (c:CS) (s:SM) (k:Nat):Val:=if c.on then c.val s k else nulV
structure KV (c:CS) (s:SM) (k:Nat) (kk:Int) (b:Bool) (n:Int) (t x:ByteArray):Prop where
 e:c.kval s k=.mk kk b n t x []
 f:Fine n t x 0
theorem kvIs {c:CS} {s:SM} {k:Nat} {kk:Int} {b:Bool} {n:Int} {t x:ByteArray} (h:KV c s k kk b n t x) (W:World):Is W ⟨kk,b,n,t,x,none,0,0⟩ (c.kval s k) []:=⟨h.e,rfl,h.f,⟨none,0,rfl⟩⟩
section
variable {W0 W:World} {s:SM} {g k:Nat} {c:CS}
theorem kvOf (h:zbj W0 s W g c k) (hp:∀ u∈s.vs,zcw u):∃ kk b n t x,KV c s k kk b n t x:=by
 cases q:c.on with
 | false=>exact ⟨0,false,0,⟨#[]⟩,⟨#[]⟩,by unfold CS.kval;rw [if_neg (by rw [q];exact Bool.false_ne_true)];rfl,by constructor <;> decide⟩
 | true=>
   obtain ⟨h1,hpf⟩:=CS.on_is q
   have hin:=h.fit.in_ h1
   have hn:=h.fit.n
   have hm:=s.num_lt h.ok k c.lev c.pos (by omega)
   obtain ⟨pv,pr,cv,cr,pp,cc,h0⟩:=h.at_.S
   have hne:s.vs≠[]:=by intro e;rw [e] at hm;exact absurd hm (by simp)
   obtain ⟨gv,ov,ev,hh⟩:=h0.v hne
   obtain ⟨v,q2,hi,_⟩:=isOf (zar.at_ s.vs ov hh _ hm)
   obtain ⟨kk,b,n,t,x,he⟩:=hp _ (List.getElem_mem hm)
   have hf:=hi.hf
   have e1:=hi.e
   rw [he] at e1
   injection e1 with q1 q2 q3 q4 q5 q6
   rw [← q3,← q4,← q5,← q6] at hf
   refine ⟨kk,b,n,t,x,?_,hf⟩
   unfold CS.kval CS.val
   rw [if_pos q,List.getElem?_eq_getElem hm,Option.getD_some,he]
theorem zro (h:zbj W0 s W g c k) {kk:Int} {b:Bool} {n:Int} {t x:ByteArray} (hv:KV c s k kk b n t x):Calls Tryz.prog 30 #[.pointer (some ⟨g,0,none⟩)] W fun e w'=>e=.returned (.tuple #[.agg #[.int .i64 kk,.bool b,.int .i64 n,.string t,.string x,.slice none 0 0],.bool c.on])∧Below W.heap.size W w':=by
 have he:=hv.e
 cases q:c.on with
 | false=>
   unfold CS.kval at he
   rw [if_neg (by rw [q];exact Bool.false_ne_true)] at he
   unfold nulV at he
   injection he with q1 q2 q3 q4 q5
   subst q1 q2 q3 q4 q5
   exact keyOff h q
 | true=>
   unfold CS.kval at he
   rw [if_pos q] at he
   refine (keyC h q).mono ?_
   rintro e w' ⟨⟨kk',b',n',t',x',l,hv',hf,rfl⟩,hb⟩
   rw [hv'] at he
   injection he with q1 q2 q3 q4 q5
   subst q1 q2 q3 q4 q5
   exact ⟨rfl,hb⟩
theorem cursorD {W2:World} {sp:Nat} {pv pr:Option Addr} {cv cr:Nat} {pp:Nat→Option Addr} {cc:Nat→Nat} (h0:zd1 W sp s pv pr cv cr pp cc) (b:Below W.heap.size W W2) (ok:SMok s) (so:zdd s) (hk:k < 6):
 Calls Tryz.prog 20 #[.pointer (some ⟨sp,0,none⟩),.string (onm k)] W2 fun e w'=>∃ g,e=.returned (.tuple #[.pointer (some ⟨g,0,none⟩),.int .i64 0])∧Low W2.heap.size W2 w'∧W2.heap.size≤g∧zbj W s w' g (zri sp (pp k) (s.ls k).length (cc k) k) k:=by
 have h0':=(b.block _ (zac h0.h)).trans h0.h
 have kl:W2.cell? ⟨sp,2+k,none⟩=some (.slice (pp k) (s.ls k).length (cc k)):=by
  match k,hk with
  | 0,_=>exact zab h0' 2 rfl
  | 1,_=>exact zab h0' 3 rfl
  | 2,_=>exact zab h0' 4 rfl
  | 3,_=>exact zab h0' 5 rfl
  | 4,_=>exact zab h0' 6 rfl
  | 5,_=>exact zab h0' 7 rfl
 refine (zo5 sp k (s.ls k).length (cc k) _ _ _ (pp k) (onm k) W2 hk (fun w=>zvb k hk w) (fun w=>znc k hk w) kl).mono ?_
 rintro e w' ⟨g,rfl,hg,hb,hcur⟩
 have hlv:=lev_lt k
 exact ⟨g,rfl,hb,hg,⟨⟨pv,pr,cv,cr,pp,cc,h0⟩,rfl,h0.l k hk,hlv.1,hlv.2.1,hlv.2.2,Nat.le_trans b.size hg,zak b hb.is b.size,hcur⟩,⟨Nat.zero_le _,rfl,rfl,rfl,rfl,fun q=>absurd q (by show ¬ 1≤0;omega),fun q=>absurd q (by show ¬ 2≤0;omega),fun q=>absurd q (by show ¬ 3≤0;omega)⟩,ok,so,hk⟩
end
def zs5 (W:World) (D:Value) (l:List (Int × Val)):Prop:=
 ∃ p cap,D=.slice p l.length cap∧(l≠[]→∃ g off,p=some ⟨g,off,none⟩∧∀ (j:Nat) (h:j < l.length),W.cell? ⟨g,off+j*7,none⟩=some (.int .i64 l[j].1)∧zay W g (off+j*7+1) l[j].2)
theorem zs5.below {W W':World} {D:Value} {l:List (Int × Val)} (h:zs5 W D l) (b:Below W.heap.size W W'):zs5 W' D l:=by
 obtain ⟨p,cap,e,k⟩:=h
 refine ⟨p,cap,e,fun hn=>?_⟩
 obtain ⟨g,off,e2,k2⟩:=k hn
 exact ⟨g,off,e2,fun j hj=>⟨(b.cell (p:=⟨g,off+j*7,none⟩) (World.block_lt_of_cell? W _ (k2 j hj).1)).trans (k2 j hj).1,zay.below _ (k2 j hj).2 b⟩⟩
end Go.Proofs.YtanbgdhmfjgihaaGreatDoor

/- R1 -/
namespace Go.Proofs.YtanbgdhmfjgihaaGreatDoor
open Go.RowKit Go.ChangeShapes
variable {H:Type} {enc:TypeId × Value→H}
theorem zmi {w:World} {a:Addr} {m:Nat} {cs:List Value} (h:w.cells? 0 a m=some cs):cs.length=m∧∀ j,j < m→w.cell? (a.add j)=cs[j]?:=by
 unfold World.cells? at h
 rw [if_pos (Nat.zero_le _)] at h
 have hl:=mapM_some_length h
 rw [List.length_range] at hl
 refine ⟨hl,fun j hj=>?_⟩
 exact mapM_some_get h j j (by rw [List.getElem?_range hj])
theorem zii (g off i:Nat):(Addr.mk g off none).add i=⟨g,off+i,none⟩:=by unfold Addr.add;split <;> simp_all
theorem list6 {α:Type} {l:List α} (h:l.length=6):∃ a b c d e f,l=[a,b,c,d,e,f]:=by
 match l,h with
 | [a,b,c,d,e,f],_=>exact ⟨a,b,c,d,e,f,rfl⟩
theorem ze6 {d:DataW H}:{l:List (DataW H)}→d∈l→Rows.uptoBulk d≤Rows.uptoBulkAll l
 | [],h=>absurd h (by simp)
 | e::r,h=>by
   unfold Rows.uptoBulkAll
   rcases List.mem_cons.1 h with h | h
   ·rw [h];omega
   ·have:=ze6 h;omega
theorem zxe (d:DataW H):1≤Rows.uptoBulk d:=by
 cases d with
 | lit l=>cases l <;> simp [Rows.uptoBulk]
 | _=>simp [Rows.uptoBulk]
theorem zne:(l:List (DataW H))→l.length≤Rows.uptoBulkAll l
 | []=>by simp
 | e::r=>by
   unfold Rows.uptoBulkAll
   have:=zne r
   have:=zxe e
   simp only [List.length_cons]
   omega
theorem zhg {W:World} {n:Nat} {cs:List Value} {y:DataW H × List MemPlace} (h:DataW.trod enc Tryz.prog W 0 (fun _=>true) true n 39 cs=some y):
 ∃ n' k b m t x L yl,n=n'+1∧cs=[.int .i64 k,.bool b,.int .i64 m,.string t,.string x,L]∧DataW.trod enc Tryz.prog W 0 (fun _=>true) true n' 37 [L]=some yl∧
  t.size≤Rows.uptoBulk y.1∧x.size≤Rows.uptoBulk y.1∧Rows.uptoBulk yl.1≤Rows.uptoBulk y.1∧(Lit.int .i64 m).wf=true:=by
 obtain ⟨xs,n',rfl,rfl,hl,hlen,hf⟩:=DataW.trod_struct Tryz.underlying39 h
 obtain ⟨c0,c1,c2,c3,c4,c5,rfl⟩:=list6 (hl.trans (by kernel_rfl:Tryz.prog.cellsOf 39=6))
 obtain ⟨y0,y1,y2,y3,y4,y5,rfl⟩:=list6 (hlen.trans rfl)
 have e1:Tryz.prog.cellsOf 3=1:=by kernel_rfl
 have e2:Tryz.prog.cellsOf 4=1:=by kernel_rfl
 have e3:Tryz.prog.cellsOf 2=1:=by kernel_rfl
 have e4:Tryz.prog.cellsOf 9=1:=by kernel_rfl
 have e5:Tryz.prog.cellsOf 37=1:=by kernel_rfl
 have h0:DataW.trod enc Tryz.prog W 0 (fun _=>true) true n' 3 (([c0,c1,c2,c3,c4,c5].drop 0).take (Tryz.prog.cellsOf 3))=[y0,y1,y2,y3,y4,y5][0]?:=hf 0 _ rfl
 have h1:DataW.trod enc Tryz.prog W 0 (fun _=>true) true n' 4 (([c0,c1,c2,c3,c4,c5].drop 1).take (Tryz.prog.cellsOf 4))=[y0,y1,y2,y3,y4,y5][1]?:=hf 1 _ rfl
 have h2:DataW.trod enc Tryz.prog W 0 (fun _=>true) true n' 2 (([c0,c1,c2,c3,c4,c5].drop 2).take (Tryz.prog.cellsOf 2))=[y0,y1,y2,y3,y4,y5][2]?:=hf 2 _ rfl
 have h3:DataW.trod enc Tryz.prog W 0 (fun _=>true) true n' 9 (([c0,c1,c2,c3,c4,c5].drop 3).take (Tryz.prog.cellsOf 9))=[y0,y1,y2,y3,y4,y5][3]?:=hf 3 _ rfl
 have h4:DataW.trod enc Tryz.prog W 0 (fun _=>true) true n' 9 (([c0,c1,c2,c3,c4,c5].drop 4).take (Tryz.prog.cellsOf 9))=[y0,y1,y2,y3,y4,y5][4]?:=hf 4 _ rfl
 have h5:DataW.trod enc Tryz.prog W 0 (fun _=>true) true n' 37 (([c0,c1,c2,c3,c4,c5].drop 5).take (Tryz.prog.cellsOf 37))=[y0,y1,y2,y3,y4,y5][5]?:=hf 5 _ rfl
 rw [e1] at h0
 rw [e2] at h1
 rw [e3] at h2
 rw [e4] at h3 h4
 rw [e5] at h5
 replace h0:DataW.trod enc Tryz.prog W 0 (fun _=>true) true n' 3 [c0]=some y0:=h0
 replace h1:DataW.trod enc Tryz.prog W 0 (fun _=>true) true n' 4 [c1]=some y1:=h1
 replace h2:DataW.trod enc Tryz.prog W 0 (fun _=>true) true n' 2 [c2]=some y2:=h2
 replace h3:DataW.trod enc Tryz.prog W 0 (fun _=>true) true n' 9 [c3]=some y3:=h3
 replace h4:DataW.trod enc Tryz.prog W 0 (fun _=>true) true n' 9 [c4]=some y4:=h4
 replace h5:DataW.trod enc Tryz.prog W 0 (fun _=>true) true n' 37 [c5]=some y5:=h5
 obtain ⟨k,a0,_,_⟩:=DataW.trod_int Tryz.underlying3 h0
 obtain ⟨b,a1,_⟩:=DataW.trod_bool Tryz.underlying4 h1
 obtain ⟨m,a2,_,wm⟩:=DataW.trod_int Tryz.underlying2 h2
 obtain ⟨t,a3,z3,_⟩:=DataW.trod_string Tryz.underlying9 h3
 obtain ⟨x,a4,z4,_⟩:=DataW.trod_string Tryz.underlying9 h4
 simp only [List.cons.injEq,and_true] at a0 a1 a2 a3 a4
 subst a0 a1 a2 a3 a4
 refine ⟨n',k,b,m,t,x,c5,y5,rfl,rfl,h5,?_,?_,?_,wm⟩
 ·have:Rows.uptoBulk y3.1≤Rows.uptoBulkAll ([y0,y1,y2,y3,y4,y5].map (·.1)):=ze6 (by simp)
  rw [z3] at this
  have e:Rows.uptoBulk (.lit (.string t.data.toList):DataW H)=t.data.toList.length+1:=rfl
  have e':t.data.toList.length=t.size:=Array.length_toList
  show t.size≤Rows.uptoBulkAll _+1
  rw [e,e',← z3] at this
  omega
 ·have:Rows.uptoBulk y4.1≤Rows.uptoBulkAll ([y0,y1,y2,y3,y4,y5].map (·.1)):=ze6 (by simp)
  rw [z4] at this
  have e:Rows.uptoBulk (.lit (.string x.data.toList):DataW H)=x.data.toList.length+1:=rfl
  have e':x.data.toList.length=x.size:=Array.length_toList
  show x.size≤Rows.uptoBulkAll _+1
  rw [e,e',← z4] at this
  omega
 ·have:Rows.uptoBulk y5.1≤Rows.uptoBulkAll ([y0,y1,y2,y3,y4,y5].map (·.1)):=ze6 (by simp)
  show Rows.uptoBulk y5.1≤Rows.uptoBulkAll _+1
  omega
theorem zyp {m:Int} (h:(Lit.int .i64 m).wf=true):-9223372036854775808≤m∧m≤9223372036854775807:=by
 have:=bounds_i64 h
 omega
set_option maxRecDepth 20000 in
theorem zo8 {W:World} (B:Nat) (hBB:B≤2097152):∀ (N n:Nat),n≤N→∀ (L:Value) (y:DataW H × List MemPlace),DataW.trod enc Tryz.prog W 0 (fun _=>true) true n 37 [L]=some y→Rows.uptoBulk y.1≤B→∃ l,Held W L l∧l.length≤B:=by
 intro N
 induction N with
 | zero=>
   intro n hn L y h _
   obtain rfl:n=0:=by omega
   simp [DataW.trod] at h
 | succ N IH=>
   intro n0 hn0 L y h hB
   rcases DataW.trod_slice Tryz.underlying37 h with ⟨e,_⟩ | ⟨a,len,cap,elems,rest,n1,hn,e,rfl,hb,hl,hm,hlen,hel,_,_⟩
   ·obtain rfl:L=.slice none 0 0:=by simpa using e
    exact ⟨[],by unfold Held;exact ⟨none,0,rfl⟩,by simp⟩
   ·obtain rfl:L=.slice (some a) len cap:=by simpa using e
    rw [show Tryz.prog.cellsOf 39=6 by kernel_rfl] at hel
    have hE:Rows.uptoBulkAll (elems.map (·.1))≤B:=by
     have:Rows.uptoBulkAll (elems.map (·.1))+Rows.uptoBulkAll (rest.map (·.1))+1≤B:=hB
     omega
    have hln:len≤B:=by
     have:=zne (elems.map (·.1))
     simp only [List.length_map] at this
     omega
    have each:∀ i,i < len→∃ k b m t x l p,(∀ j v,[Value.int .i64 k,.bool b,.int .i64 m,.string t,.string x,p][j]?=some v→W.cell? ((a.add (i*6)).add j)=some v)∧Fine m t x (List.length (α:=Val) l)∧Held W p l:=by
     intro i hi
     have h1:=hel i hi
     have hi':i < elems.length:=by omega
     rw [List.getElem?_eq_getElem hi',Option.bind_eq_some_iff] at h1
     obtain ⟨cs,hcs,hy⟩:=h1
     obtain ⟨c1,c2⟩:=zmi hcs
     obtain ⟨n',k,b,m,t,x,p,yl,hn',rfl,hp,ht,hx,hpl,wm⟩:=zhg hy
     have hbe:Rows.uptoBulk elems[i].1≤B:=Nat.le_trans (ze6 (List.mem_map_of_mem (List.getElem_mem hi'))) hE
     obtain ⟨l,hheld,hll⟩:=IH n' (by omega) p yl hp (by omega)
     obtain ⟨w1,w2⟩:=zyp wm
     refine ⟨k,b,m,t,x,l,p,fun j v hv=>?_,⟨by omega,by omega,by omega,w1,w2⟩,hheld⟩
     have hj:j < 6:=by
      have:=(List.getElem?_eq_some_iff.1 hv).1
      simpa using this
     rw [c2 j hj,hv]
    by_cases h0:len=0
    ·subst h0
     exact ⟨[],by unfold Held;exact ⟨some a,cap,rfl⟩,by simp⟩
    ·have hsp:a.spot=none:=by
      obtain ⟨k,b,m,t,x,l,p,hc,_,_⟩:=each 0 (by omega)
      have h0:=hc 0 _ rfl
      cases kk:a.spot with
      | none=>rfl
      | some mm=>
        rw [show (a.add (0*6)).add 0=a by simp [Addr.add]] at h0
        unfold World.cell? at h0
        rw [kk] at h0
        split at h0 <;> simp at h0
     obtain ⟨g,off,spot⟩:=a
     simp only at hsp
     subst hsp
     have build:∀ m,m≤len→∃ l:List Val,l.length=m∧zar W g (off+(len - m)*6) l:=by
      intro m
      induction m with
      | zero=>exact fun _=>⟨[],rfl,by unfold zar;trivial⟩
      | succ m ih=>
        intro hm1
        obtain ⟨l,hll,hh⟩:=ih (by omega)
        obtain ⟨k,b,mm,t,x,q,p,hc,hf,hp⟩:=each (len - (m+1)) (by omega)
        have ea:∀ j,((⟨g,off,none⟩:Addr).add ((len - (m+1))*6)).add j=⟨g,off+(len - (m+1))*6+j,none⟩:=fun j=>by rw [zii,zii]
        refine ⟨.mk k b mm t x q::l,by simp [hll],?_⟩
        unfold zar
        refine ⟨?_,?_⟩
        ·unfold zay
         have hcj:=fun j v hv=>(congrArg W.cell? (ea j)).symm.trans (hc j v hv)
         exact ⟨hcj 0 _ rfl,hcj 1 _ rfl,hcj 2 _ rfl,hcj 3 _ rfl,hcj 4 _ rfl,hf,p,hcj 5 _ rfl,hp⟩
        ·rw [show off+(len - (m+1))*6+6=off+(len - m)*6 by omega]
         exact hh
     obtain ⟨l,hll,hh⟩:=build len (Nat.le_refl _)
     rw [Nat.sub_self,Nat.zero_mul,Nat.add_zero] at hh
     refine ⟨l,?_,by omega⟩
     cases l with
     | nil=>simp at hll;omega
     | cons v r=>
       unfold zar at hh
       unfold Held
       exact ⟨g,off,cap,by rw [← hll];rfl,hh.1,hh.2⟩
end Go.Proofs.YtanbgdhmfjgihaaGreatDoor

/- XE -/
namespace Go.Proofs.YtanbgdhmfjgihaaGreatDoor
open Go.RowKit Go.ChangeShapes
variable {H:Type} {enc:TypeId × Value→H}
theorem zd4 {W:World} (B:Nat) (hBB:B≤2097152) {n:Nat} {cs:List Value} {y:DataW H × List MemPlace} (h:DataW.trod enc Tryz.prog W 0 (fun _=>true) true n 39 cs=some y) (hB:Rows.uptoBulk y.1≤B):
 ∃ k b m t x q p,cs=[.int .i64 k,.bool b,.int .i64 m,.string t,.string x,p]∧Fine m t x (List.length (α:=Val) q)∧Held W p q:=by
 obtain ⟨n',k,b,m,t,x,L,yl,rfl,rfl,hp,ht,hx,hpl,wm⟩:=zhg h
 obtain ⟨l,hheld,hll⟩:=zo8 B hBB n' n' (Nat.le_refl _) L yl hp (by omega)
 obtain ⟨w1,w2⟩:=zyp wm
 exact ⟨k,b,m,t,x,l,L,rfl,⟨by omega,by omega,by omega,w1,w2⟩,hheld⟩
theorem zd5 {W:World} {g off:Nat} {k:Int} {b:Bool} {m:Int} {t x:ByteArray} {q:List Val} {p:Value} (hc:∀ j v,[Value.int .i64 k,.bool b,.int .i64 m,.string t,.string x,p][j]?=some v→W.cell? ⟨g,off+j,none⟩=some v) (hf:Fine m t x q.length) (hp:Held W p q):zay W g off (.mk k b m t x q):=by
 unfold zay
 exact ⟨hc 0 _ rfl,hc 1 _ rfl,hc 2 _ rfl,hc 3 _ rfl,hc 4 _ rfl,hf,p,hc 5 _ rfl,hp⟩
theorem zqg {W:World} (B:Nat) (hBB:B≤2097152) {n:Nat} {cs:List Value} {y:DataW H × List MemPlace} (h:DataW.trod enc Tryz.prog W 0 (fun _=>true) true n 41 cs=some y) (hB:Rows.uptoBulk y.1≤B):
 ∃ t:Tri3,∀ g off,(∀ j,j < 18→W.cell? ⟨g,off+j,none⟩=cs[j]?)→zay W g off t.s∧zay W g (off+6) t.p∧zay W g (off+12) t.o:=by
 obtain ⟨xs,n',rfl,rfl,hl,hlen,hf⟩:=DataW.trod_struct Tryz.underlying41 h
 have hl18:cs.length=18:=hl.trans (by kernel_rfl:Tryz.prog.cellsOf 41=18)
 have hlen3:xs.length=3:=hlen.trans rfl
 obtain ⟨y0,y1,y2,rfl⟩:∃ a b c,xs=[a,b,c]:=by
  match xs,hlen3 with
  | [a,b,c],_=>exact ⟨a,b,c,rfl⟩
 have e6:Tryz.prog.cellsOf 39=6:=by kernel_rfl
 have h0:DataW.trod enc Tryz.prog W 0 (fun _=>true) true n' 39 ((cs.drop 0).take (Tryz.prog.cellsOf 39))=[y0,y1,y2][0]?:=hf 0 _ rfl
 have h1:DataW.trod enc Tryz.prog W 0 (fun _=>true) true n' 39 ((cs.drop 6).take (Tryz.prog.cellsOf 39))=[y0,y1,y2][1]?:=hf 1 _ rfl
 have h2:DataW.trod enc Tryz.prog W 0 (fun _=>true) true n' 39 ((cs.drop 12).take (Tryz.prog.cellsOf 39))=[y0,y1,y2][2]?:=hf 2 _ rfl
 rw [e6] at h0 h1 h2
 have hall:Rows.uptoBulk y0.1+(Rows.uptoBulk y1.1+(Rows.uptoBulk y2.1+0))+1≤B:=hB
 obtain ⟨k0,b0,m0,t0,x0,q0,p0,e0,f0,d0⟩:=zd4 B hBB h0 (by omega)
 obtain ⟨k1,b1,m1,t1,x1,q1,p1,e1,f1,d1⟩:=zd4 B hBB h1 (by omega)
 obtain ⟨k2,b2,m2,t2,x2,q2,p2,e2,f2,d2⟩:=zd4 B hBB h2 (by omega)
 have part:∀ (o:Nat) (L:List Value),(cs.drop o).take 6=L→L.length=6→∀ g off,(∀ j,j < 18→W.cell? ⟨g,off+j,none⟩=cs[j]?)→o+6≤18→∀ j v,L[j]?=some v→W.cell? ⟨g,off+o+j,none⟩=some v:=by
  intro o L hL hL6 g off hc ho j v hv
  have hj:j < 6:=by rw [← hL6];exact (List.getElem?_eq_some_iff.1 hv).1
  rw [← hL,List.getElem?_take,if_pos hj,List.getElem?_drop] at hv
  rw [Nat.add_assoc,hc (o+j) (by omega),hv]
 refine ⟨⟨.mk k0 b0 m0 t0 x0 q0,.mk k1 b1 m1 t1 x1 q1,.mk k2 b2 m2 t2 x2 q2⟩,fun g off hc=>⟨zd5 (part 0 _ e0 rfl g off hc (by omega)) f0 d0,zd5 (part 6 _ e1 rfl g off hc (by omega)) f1 d1,zd5 (part 12 _ e2 rfl g off hc (by omega)) f2 d2⟩⟩
theorem zs6 {W:World} (B:Nat) (hBB:B≤2097152) {n:Nat} {cs:List Value} {y:DataW H × List MemPlace} (h:DataW.trod enc Tryz.prog W 0 (fun _=>true) true n 57 cs=some y) (hB:Rows.uptoBulk y.1≤B):
 ∃ t:Int × Val,∀ g off,(∀ j,j < 7→W.cell? ⟨g,off+j,none⟩=cs[j]?)→W.cell? ⟨g,off,none⟩=some (.int .i64 t.1)∧zay W g (off+1) t.2:=by
 obtain ⟨xs,n',rfl,rfl,hl,hlen,hf⟩:=DataW.trod_struct Tryz.underlying57 h
 have hl7:cs.length=7:=hl.trans (by kernel_rfl:Tryz.prog.cellsOf 57=7)
 have hlen2:xs.length=2:=hlen.trans rfl
 obtain ⟨y0,y1,rfl⟩:∃ a b,xs=[a,b]:=by
  match xs,hlen2 with
  | [a,b],_=>exact ⟨a,b,rfl⟩
 have e6:Tryz.prog.cellsOf 39=6:=by kernel_rfl
 have e1:Tryz.prog.cellsOf 3=1:=by kernel_rfl
 have h0:DataW.trod enc Tryz.prog W 0 (fun _=>true) true n' 3 ((cs.drop 0).take (Tryz.prog.cellsOf 3))=[y0,y1][0]?:=hf 0 _ rfl
 have h1:DataW.trod enc Tryz.prog W 0 (fun _=>true) true n' 39 ((cs.drop 1).take (Tryz.prog.cellsOf 39))=[y0,y1][1]?:=hf 1 _ rfl
 rw [e1] at h0
 rw [e6] at h1
 have hall:Rows.uptoBulk y0.1+(Rows.uptoBulk y1.1+0)+1≤B:=hB
 obtain ⟨k1,b1,m1,t1,x1,q1,p1,ev,f1,d1⟩:=zd4 B hBB h1 (by omega)
 obtain ⟨c0,hc0⟩:∃ c0,(cs.drop 0).take 1=[c0]:=by
  cases cs with
  | nil=>exact absurd hl7 (by simp)
  | cons c r=>exact ⟨c,rfl⟩
 rw [hc0] at h0
 obtain ⟨k,a0,_,_⟩:=DataW.trod_int Tryz.underlying3 h0
 obtain rfl:c0=.int .i64 k:=by simpa using a0
 have hcs0:cs[0]?=some (.int .i64 k):=by
  have:=congrArg (fun l:List Value=>l[0]?) hc0
  simp only [List.drop_zero] at this
  rw [List.getElem?_take,if_pos (by omega)] at this
  exact this
 refine ⟨(k,.mk k1 b1 m1 t1 x1 q1),fun g off hc=>⟨?_,zd5 (fun j v hv=>?_) f1 d1⟩⟩
 ·have:=hc 0 (by omega)
  rw [hcs0] at this
  exact this
 ·have hj:j < 6:=(List.getElem?_eq_some_iff.1 hv).1
  rw [← ev,List.getElem?_take,if_pos hj,List.getElem?_drop] at hv
  rw [Nat.add_assoc,hc (1+j) (by omega),hv]
theorem zmj {W:World} {B n ty ety size:Nat} {L:Value} {y:DataW H × List MemPlace} (hu:Tryz.prog.underlying ty=some (.slice ety)) (hsz:Tryz.prog.cellsOf ety=size) (h0s:0 < size)
 (h:DataW.trod enc Tryz.prog W 0 (fun _=>true) true n ty [L]=some y) (hB:Rows.uptoBulk y.1≤B):
 ∃ p len cap,L=.slice p len cap∧len≤B∧(len=0∨∃ g off,p=some ⟨g,off,none⟩∧∀ i,i < len→∃ n' cs yi,DataW.trod enc Tryz.prog W 0 (fun _=>true) true n' ety cs=some yi∧Rows.uptoBulk yi.1≤B∧∀ j,j < size→W.cell? ⟨g,off+i*size+j,none⟩=cs[j]?):=by
 cases n with
 | zero=>simp [DataW.trod] at h
 | succ n0=>
   rcases DataW.trod_slice hu h with ⟨e,_⟩ | ⟨a,len,cap,elems,rest,n1,hn,e,rfl,hb,hl,hm,hlen,hel,_,_⟩
   ·obtain rfl:L=.slice none 0 0:=by simpa using e
    exact ⟨none,0,0,rfl,Nat.zero_le _,.inl rfl⟩
   ·obtain rfl:L=.slice (some a) len cap:=by simpa using e
    rw [hsz] at hel
    have hE1:Rows.uptoBulkAll (elems.map (·.1))+Rows.uptoBulkAll (rest.map (·.1))+1≤B:=hB
    have hE:Rows.uptoBulkAll (elems.map (·.1))≤B:=by omega
    have hln:len≤B:=by
     have:=zne (elems.map (·.1))
     simp only [List.length_map] at this
     omega
    have each:∀ i,i < len→∃ n' cs yi,DataW.trod enc Tryz.prog W 0 (fun _=>true) true n' ety cs=some yi∧Rows.uptoBulk yi.1≤B∧∀ j,j < size→W.cell? ((a.add (i*size)).add j)=cs[j]?∧cs.length=size:=by
     intro i hi
     have h1:=hel i hi
     have hi':i < elems.length:=by omega
     rw [List.getElem?_eq_getElem hi',Option.bind_eq_some_iff] at h1
     obtain ⟨cs,hcs,hy⟩:=h1
     obtain ⟨c1,c2⟩:=zmi hcs
     exact ⟨_,cs,_,hy,Nat.le_trans (ze6 (List.mem_map_of_mem (List.getElem_mem hi'))) hE,fun j hj=>⟨c2 j hj,c1⟩⟩
    refine ⟨some a,len,cap,rfl,hln,?_⟩
    by_cases h0:len=0
    ·exact .inl h0
    ·right
     have hsp:a.spot=none:=by
      obtain ⟨n',cs,yi,_,_,hc⟩:=each 0 (by omega)
      have hc0:=hc 0 h0s
      obtain ⟨z,hz⟩:∃ z,cs[0]?=some z:=⟨_,List.getElem?_eq_getElem (by rw [hc0.2];exact h0s)⟩
      have h0:=hc0.1.trans hz
      cases kk:a.spot with
      | none=>rfl
      | some mm=>
        rw [show (a.add (0*size)).add 0=a by simp [Addr.add]] at h0
        unfold World.cell? at h0
        rw [kk] at h0
        split at h0 <;> simp at h0
     obtain ⟨g,off,spot⟩:=a
     simp only at hsp
     subst hsp
     refine ⟨g,off,rfl,fun i hi=>?_⟩
     obtain ⟨n',cs,yi,h1,h2,h3⟩:=each i hi
     refine ⟨n',cs,yi,h1,h2,fun j hj=>?_⟩
     have:=(h3 j hj).1
     rwa [zii,zii] at this
theorem zo9 {W:World} (B:Nat) (hBB:B≤2097152) {n:Nat} {L:Value} {y:DataW H × List MemPlace} (h:DataW.trod enc Tryz.prog W 0 (fun _=>true) true n 22 [L]=some y) (hB:Rows.uptoBulk y.1≤B):
 ∃ l,Tris W L l∧l.length≤B:=by
 obtain ⟨p,len,cap,rfl,hln,hh⟩:=zmj (B:=B) (size:=18) Tryz.underlying22 (by kernel_rfl) (by omega) h hB
 rcases hh with rfl | ⟨g,off,rfl,each⟩
 ·exact ⟨[],⟨p,cap,rfl,fun e=>absurd rfl e⟩,Nat.zero_le _⟩
 ·have build:∀ m,m≤len→∃ l:List Tri3,l.length=m∧zar W g (off+(len - m)*18) (flat l):=by
   intro m
   induction m with
   | zero=>exact fun _=>⟨[],rfl,by rw [zie];unfold zar;trivial⟩
   | succ m ih=>
     intro hm1
     obtain ⟨l,hll,hh⟩:=ih (by omega)
     obtain ⟨n',cs,yi,h1,h2,h3⟩:=each (len - (m+1)) (by omega)
     obtain ⟨t,ht⟩:=zqg B hBB h1 h2
     obtain ⟨t1,t2,t3⟩:=ht g _ h3
     refine ⟨t::l,by simp [hll],?_⟩
     rw [zc1]
     unfold zar
     refine ⟨t1,?_⟩
     unfold zar
     refine ⟨t2,?_⟩
     unfold zar
     refine ⟨t3,?_⟩
     rw [show off+(len - (m+1))*18+6+6+6=off+(len - m)*18 by omega]
     exact hh
  obtain ⟨l,hll,hh⟩:=build len (Nat.le_refl _)
  rw [Nat.sub_self,Nat.zero_mul,Nat.add_zero] at hh
  exact ⟨l,⟨_,cap,by rw [hll],fun _=>⟨g,off,rfl,hh⟩⟩,by omega⟩
theorem zqh {W:World} (B:Nat) (hBB:B≤2097152) {n:Nat} {L:Value} {y:DataW H × List MemPlace} (h:DataW.trod enc Tryz.prog W 0 (fun _=>true) true n 24 [L]=some y) (hB:Rows.uptoBulk y.1≤B):
 ∃ l,zs5 W L l∧l.length≤B:=by
 obtain ⟨p,len,cap,rfl,hln,hh⟩:=zmj (B:=B) (size:=7) Tryz.underlying24 (by kernel_rfl) (by omega) h hB
 rcases hh with rfl | ⟨g,off,rfl,each⟩
 ·exact ⟨[],⟨p,cap,rfl,fun e=>absurd rfl e⟩,Nat.zero_le _⟩
 ·have build:∀ m,m≤len→∃ l:List (Int × Val),l.length=m∧∀ (j:Nat) (h:j < l.length),W.cell? ⟨g,off+(len - m+j)*7,none⟩=some (.int .i64 l[j].1)∧zay W g (off+(len - m+j)*7+1) l[j].2:=by
   intro m
   induction m with
   | zero=>exact fun _=>⟨[],rfl,fun j h=>absurd h (by simp)⟩
   | succ m ih=>
     intro hm1
     obtain ⟨l,hll,hh⟩:=ih (by omega)
     obtain ⟨n',cs,yi,h1,h2,h3⟩:=each (len - (m+1)) (by omega)
     obtain ⟨t,ht⟩:=zs6 B hBB h1 h2
     obtain ⟨t1,t2⟩:=ht g _ h3
     refine ⟨t::l,by simp [hll],fun j hj=>?_⟩
     match j,hj with
     | 0,_=>exact ⟨t1,t2⟩
     | j+1,hj=>
       have:=hh j (by simpa using hj)
       rw [show len - (m+1)+(j+1)=len - m+j by omega]
       exact this
  obtain ⟨l,hll,hh⟩:=build len (Nat.le_refl _)
  refine ⟨l,⟨_,cap,by rw [hll],fun _=>⟨g,off,rfl,fun j hj=>?_⟩⟩,by omega⟩
  have:=hh j hj
  rw [show len - len+j=j by omega] at this
  exact this
end Go.Proofs.YtanbgdhmfjgihaaGreatDoor

/- AA -/
namespace Go.Proofs.YtanbgdhmfjgihaaGreatDoor
open Go.RowKit
def SM.tri (s:SM) (r:R3):Tri3:=⟨(s.vs[r.a]?).getD nulV,(s.vs[r.b]?).getD nulV,(s.vs[r.c]?).getD nulV⟩
def SM.all (s:SM):List Tri3:=s.rs.map s.tri
theorem zvl:(Tryz.prog.info? 41).map (fun i=>(i.zero,i.size,i.bytes))=some (some (.agg #[.int .i64 0,.bool false,.int .i64 0,.string ⟨#[]⟩,.string ⟨#[]⟩,.slice none 0 0,.int .i64 0,.bool false,.int .i64 0,.string ⟨#[]⟩,.string ⟨#[]⟩,.slice none 0 0,.int .i64 0,.bool false,.int .i64 0,.string ⟨#[]⟩,.string ⟨#[]⟩,.slice none 0 0]),18,240):=by kernel_rfl
end Go.Proofs.YtanbgdhmfjgihaaGreatDoor

/- AB -/
namespace Go.Proofs.YtanbgdhmfjgihaaGreatDoor
open Go.RowKit
theorem zds {u v:Val} (hu:zcw u) (hv:zcw v):zb8 u v=true↔u=v:=by
 obtain ⟨k,b,n,t,x,rfl⟩:=hu
 obtain ⟨k2,b2,n2,t2,x2,rfl⟩:=hv
 rw [zb8]
 constructor
 ·intro h
  simp only [Bool.and_eq_true,beq_iff_eq] at h
  obtain ⟨h1,h2,h3,h4,h5,_⟩:=h
  have e4:t=t2:=zbs (by rw [← za7,← za7];exact h4)
  have e5:x=x2:=zbs (by rw [← za7,← za7];exact h5)
  rw [h1,h2,h3,e4,e5]
 ·intro h
  injection h with h1 h2 h3 h4 h5 _
  rw [h1,h2,h3,h4,h5]
  simp [za8]
def Plain3 (t:Tri3):Prop:=zcw t.s∧zcw t.p∧zcw t.o
end Go.Proofs.YtanbgdhmfjgihaaGreatDoor

/- AC -/
namespace Go.Proofs.YtanbgdhmfjgihaaGreatDoor
open Go.RowKit
def Way (W:World) (g:Nat) (a b c:V6):Prop:=W.heap[g]?=some (.cells #[.int .i64 a.k,.bool a.b,.int .i64 a.n,.string a.t,.string a.x,.slice a.p a.len a.cap,.int .i64 b.k,.bool b.b,.int .i64 b.n,.string b.t,.string b.x,.slice b.p b.len b.cap,.int .i64 c.k,.bool c.b,.int .i64 c.n,.string c.t,.string c.x,.slice c.p c.len c.cap] 63)
section
variable {w w':World} {g e:Nat} {a b c:V6}
theorem Way.below (h:Way w g a b c) (k:Below w.heap.size w w'):Way w' g a b c:=(k.block g (zac h)).trans h
theorem Way.only (h:Way w g a b c) (k:Only e w w') (d:g≠e):Way w' g a b c:=(k.block g (zac h) d).trans h
theorem Way.r0 (h:Way w g a b c):w.rangeAt g 0 [.int .i64 a.k,.bool a.b,.int .i64 a.n,.string a.t,.string a.x,.slice a.p a.len a.cap]:=fun i v hv=>by
 have hi:i < 6:=(List.getElem?_eq_some_iff.1 hv).1
 match i,hi with
 | 0,_ | 1,_ | 2,_ | 3,_ | 4,_ | 5,_=>exact zab h _ hv
theorem Way.r1 (h:Way w g a b c):w.rangeAt g 6 [.int .i64 b.k,.bool b.b,.int .i64 b.n,.string b.t,.string b.x,.slice b.p b.len b.cap]:=fun i v hv=>by
 have hi:i < 6:=(List.getElem?_eq_some_iff.1 hv).1
 match i,hi with
 | 0,_ | 1,_ | 2,_ | 3,_ | 4,_ | 5,_=>exact zab h _ hv
theorem Way.r2 (h:Way w g a b c):w.rangeAt g 12 [.int .i64 c.k,.bool c.b,.int .i64 c.n,.string c.t,.string c.x,.slice c.p c.len c.cap]:=fun i v hv=>by
 have hi:i < 6:=(List.getElem?_eq_some_iff.1 hv).1
 match i,hi with
 | 0,_ | 1,_ | 2,_ | 3,_ | 4,_ | 5,_=>exact zab h _ hv
end
end Go.Proofs.YtanbgdhmfjgihaaGreatDoor

/- BV -/
namespace Go.Proofs.YtanbgdhmfjgihaaGreatDoor
open Go.RowKit
end Go.Proofs.YtanbgdhmfjgihaaGreatDoor

/- FA -/
namespace Go.Proofs.YtanbgdhmfjgihaaGreatDoor
open Go.RowKit
def twice (vi vj:V6):Bool:=decide (vi.k=0) && (decide (vj.k=0) && (!vi.t.toList.isEmpty && (vi.t.toList == vj.t.toList)))
def zvm (vi vj:V6) (ri rj:Int):Bool:=!(twice vi vj && (ri != rj))
def joinP (v0 v1 v2:V6) (r0 r1 r2:Int):Bool:=zvm v1 v0 r1 r0 && (zvm v2 v0 r2 r0 && zvm v2 v1 r2 r1)
end Go.Proofs.YtanbgdhmfjgihaaGreatDoor

/- AD -/
namespace Go.Proofs.YtanbgdhmfjgihaaGreatDoor
open Go.RowKit
def SM.part (s:SM) (k v j:Nat):Val:=(s.vs[s.num k v j]?).getD nulV
def SM.leaf (s:SM) (k j:Nat):Tri3:=⟨s.part k 0 j,s.part k 1 j,s.part k 2 j⟩
section
variable {l:List Tri3} {s:SM} (h:zbe l s)
include h
theorem zrp (k:Nat) (j:Nat) (hj:j < (s.ls k).length):s.leaf k j=s.tri (s.rs[(s.ls k)[j]]'(h.lt k _ (List.getElem_mem hj))):=by
 have hr:=h.lt k _ (List.getElem_mem hj)
 unfold SM.leaf SM.part SM.tri
 rw [s.num_eq k 0 j hj hr,s.num_eq k 1 j hj hr,s.num_eq k 2 j hj hr]
 rfl
theorem znf (k:Nat) (j:Nat) (hj:j < (s.ls k).length):s.leaf k j∈s.all:=by
 rw [zrp h k j hj]
 exact List.mem_map_of_mem (List.getElem_mem _)
end
section
variable {s:SM} {k:Nat} {c:CS}
theorem zk3 (h1:c.pos < c.fin):c.pos < c.bot s k:=by
 have hb:=c.bot_in s k (Nat.le_of_lt h1)
 rcases Nat.lt_or_ge c.pos (c.bot s k) with q | q
 ·exact q
 ·have e:c.bot s k=c.pos:=by omega
  have:=zh1 (s.same k c.lev c.pos) (c.fin - c.pos) c.pos (by show c.bot s k < _;omega)
  change s.same k c.lev c.pos (c.bot s k)=false at this
  rw [e] at this
  unfold SM.same at this
  simp at this
theorem zrq (h:Fit s k c) (hd:c.d < 3) (h1:1≤c.d) (hp:c.pos < c.fin):c.opens s k=true:=by
 have:=zk3 (s:=s) (k:=k) hp
 unfold CS.opens CS.lo CS.hi
 rw [if_neg (by omega),if_neg (by omega)]
 simp [hd,this]
end
end Go.Proofs.YtanbgdhmfjgihaaGreatDoor

/- AE -/
namespace Go.Proofs.YtanbgdhmfjgihaaGreatDoor
open Go.RowKit
structure VY (y:V6) (u:Val):Prop where
 p:y.p=none
 l:y.len=0
 c:y.cap=0
 e:u=.mk y.k y.b y.n y.t y.x []
 f:Fine y.n y.t y.x 0
theorem VY.is {y:V6} {u:Val} (h:VY y u) (W:World):Is W y u []:=by
 obtain ⟨k,b,n,t,x,p,len,cap⟩:=y
 obtain ⟨hp,hl,hc,he,hf⟩:=h
 simp only at hp hl hc he hf
 subst hp hl hc
 exact ⟨he,rfl,hf,⟨none,0,rfl⟩⟩
section
variable {l:List Tri3} {s:SM} {k:Nat} {c:CS}
theorem zvn (h:c.opens s k=true):c.opn s k=c.down c.lo (c.hi s k):=by unfold CS.opn;rw [if_pos h]
theorem t0 (hd:c.d=0) (hn:0 < c.n):c.opens s k=true∧(c.opn s k).d=1∧(c.opn s k).a0=0:=by
 have ho:c.opens s k=true:=by unfold CS.opens CS.lo CS.hi;rw [if_pos hd,if_pos hd,hd];simp [hn]
 rw [zvn ho]
 unfold CS.lo CS.hi
 rw [if_pos hd,if_pos hd]
 obtain ⟨sp,pl,n,cl,l0,l1,l2,a0,e0,a1,e1,a2,e2,d⟩:=c
 simp only at hd
 subst hd
 exact ⟨ho,rfl,rfl⟩
theorem t1 (h:Fit s k c) (hd:c.d=1) (hp:c.a0 < c.e0):c.opens s k=true∧(c.opn s k).d=2∧(c.opn s k).a1=c.a0∧(c.opn s k).a1 < (c.opn s k).e1∧(c.opn s k).a0=c.a0:=by
 obtain ⟨p,f,lv⟩:=CS.pos1 hd
 have ho:=zrq h (by omega) (by omega) (by rw [p,f];exact hp)
 have hb:=zk3 (s:=s) (k:=k) (c:=c) (by rw [p,f];exact hp)
 rw [zvn ho]
 unfold CS.lo CS.hi
 rw [if_neg (by omega),if_neg (by omega)]
 rw [p] at hb ⊢
 generalize c.bot s k=b at*
 obtain ⟨sp,pl,n,cl,l0,l1,l2,a0,e0,a1,e1,a2,e2,d⟩:=c
 simp only at hd
 subst hd
 exact ⟨ho,rfl,rfl,hb,rfl⟩
theorem t2 (h:Fit s k c) (hd:c.d=2) (hp:c.a1 < c.e1):c.opens s k=true∧(c.opn s k).d=3∧(c.opn s k).a2=c.a1∧(c.opn s k).a2 < (c.opn s k).e2∧(c.opn s k).a0=c.a0∧(c.opn s k).a1=c.a1:=by
 obtain ⟨p,f,lv⟩:=CS.pos2 hd
 have ho:=zrq h (by omega) (by omega) (by rw [p,f];exact hp)
 have hb:=zk3 (s:=s) (k:=k) (c:=c) (by rw [p,f];exact hp)
 rw [zvn ho]
 unfold CS.lo CS.hi
 rw [if_neg (by omega),if_neg (by omega)]
 rw [p] at hb ⊢
 generalize c.bot s k=b at*
 obtain ⟨sp,pl,n,cl,l0,l1,l2,a0,e0,a1,e1,a2,e2,d⟩:=c
 simp only at hd
 subst hd
 exact ⟨ho,rfl,rfl,hb,rfl,rfl⟩
end
end Go.Proofs.YtanbgdhmfjgihaaGreatDoor

/- FB -/
namespace Go.Proofs.YtanbgdhmfjgihaaGreatDoor
open Go.RowKit
def cnt (b:Nat→Bool):Nat→Nat
 | 0=>0
 | m+1=>match b m with | true=>cnt b m | false=>cnt b m+1
section
variable {l:List Tri3} {s:SM} {k:Nat} {c:CS} {b:Nat→Bool} {u:Nat→Val} {m:Nat}
end
def SM.val (s:SM) (v:Nat) (r:R3):Val:=(s.vs[r.at v]?).getD nulV
def SM.hasB (s:SM) (b:Nat→Bool) (u:Nat→Val) (r:R3):Bool:=(b 0 || zb8 (s.val 0 r) (u 0)) && ((b 1 || zb8 (s.val 1 r) (u 1)) && (b 2 || zb8 (s.val 2 r) (u 2)))
def SM.nums (s:SM) (b:Nat→Bool) (u:Nat→Val):List Nat:=(List.range s.rs.length).filter fun n=>s.hasB b u ((s.rs[n]?).getD default)
section
variable {l:List Tri3} {s:SM} {c:CS} {b:Nat→Bool} {u:Nat→Val}
end
end Go.Proofs.YtanbgdhmfjgihaaGreatDoor

/- FC -/
namespace Go.Proofs.YtanbgdhmfjgihaaGreatDoor
open Go.RowKit
end Go.Proofs.YtanbgdhmfjgihaaGreatDoor

/- FD -/
namespace Go.Proofs
open Go.Shelf
namespace YtanbgdhmfjgihaaGreatDoor
open Go.RowKit
attribute [local go_sem] Oper.semAt_some
section
variable {F:Fence} {n:Nat} {ops:Array Oper} {rest:List Oper} {o:Oper} {a:Act} {w:World} {Q:Exit→Act→World→Prop}
end
theorem zd1.belowF {W W':World} {sp:Nat} {s:SM} {pv pr:Option Addr} {cv cr:Nat} {pp:Nat→Option Addr} {cc:Nat→Nat} (k:zd1 W sp s pv pr cv cr pp cc) (b:Below W.heap.size W W'):zd1 W' sp s pv pr cv cr pp cc:=
 ⟨(b.block _ (zac k.h)).trans k.h,k.v.below b,k.r.below b,fun i hi=>(k.l i hi).below b⟩
structure ItIn (w:World) (sp g2 g5:Nat) (v0 v1 v2:V6) (W:World):Prop where
 bel:Below w.heap.size w W
 c2:W.heap[g2]?=some (.cells #[.pointer (some ⟨sp,0,none⟩)] 29)
 way:Way W g5 v0 v1 v2
theorem ItIn.below {w W W':World} {sp g2 g5:Nat} {v0 v1 v2:V6} (h:ItIn w sp g2 g5 v0 v1 v2 W) (b:Below W.heap.size W W'):ItIn w sp g2 g5 v0 v1 v2 W':=
 ⟨h.bel.trans (b.mono h.bel.size),(b.block _ (zac h.c2)).trans h.c2,h.way.below b⟩
def KeepB (B g2 g5:Nat) (W W':World):Prop:=Below B W W'∧W'.heap[g2]?=W.heap[g2]?∧W'.heap[g5]?=W.heap[g5]?
theorem ItIn.keep {w W W':World} {sp g2 g5:Nat} {v0 v1 v2:V6} (h:ItIn w sp g2 g5 v0 v1 v2 W) (b:KeepB w.heap.size g2 g5 W W'):ItIn w sp g2 g5 v0 v1 v2 W':=
 ⟨h.bel.trans b.1,b.2.1.trans h.c2,b.2.2.trans h.way⟩
def SM.row (s:SM) (n:Nat):R3:=(s.rs[n]?).getD default
def jnB (v0 v1 v2:V6) (r:R3):Bool:=joinP v0 v1 v2 (r.a:Nat) (r.b:Nat) (r.c:Nat)
def fitRows (s:SM) (b:Nat→Bool) (u:Nat→Val) (j:R3→Bool):List R3:=((s.nums b u).map s.row).filter j
section
variable {s:SM} {b:Nat→Bool} {u:Nat→Val} {j:R3→Bool}
end
end YtanbgdhmfjgihaaGreatDoor
end Go.Proofs

/- FE -/
namespace Go.Proofs
open Go.Shelf
namespace YtanbgdhmfjgihaaGreatDoor
open Go.RowKit
attribute [local go_sem] Oper.semAt_some
theorem ItIn.from {w W0 W:World} {sp g2 g5:Nat} {v0 v1 v2:V6} (h:ItIn W0 sp g2 g5 v0 v1 v2 W) (b:Below w.heap.size w W0):ItIn w sp g2 g5 v0 v1 v2 W:=⟨b.trans (h.bel.mono b.size),h.c2,h.way⟩
end YtanbgdhmfjgihaaGreatDoor
end Go.Proofs

/- FF -/
namespace Go.Proofs
open Go.Shelf
namespace YtanbgdhmfjgihaaGreatDoor
open Go.RowKit
attribute [local go_sem] Oper.semAt_some
section
variable {n l:Nat} {Q:Exit→Act→World→Prop}
end
theorem zrr (a b:List Tri3):flat (a++b)=flat a++flat b:=by unfold flat;rw [List.flatMap_append]
end YtanbgdhmfjgihaaGreatDoor
end Go.Proofs

/- FG -/
namespace Go.Proofs
open Go.Shelf
namespace YtanbgdhmfjgihaaGreatDoor
open Go.RowKit
attribute [local go_sem] Oper.semAt_some
end YtanbgdhmfjgihaaGreatDoor
end Go.Proofs

/- FH -/
namespace Go.Proofs
open Go.Shelf
namespace YtanbgdhmfjgihaaGreatDoor
open Go.RowKit
attribute [local go_sem] Oper.semAt_some
end YtanbgdhmfjgihaaGreatDoor
end Go.Proofs

/- FI -/
namespace Go.Proofs.YtanbgdhmfjgihaaGreatDoor
open Go.RowKit
theorem zrs {a u:Val} (ha:zcw a):zb8 a u=true↔a=u:=by
 obtain ⟨k2,b2,n2,t2,x2,l2⟩:=u
 cases l2 with
 | nil=>exact zds ha ⟨k2,b2,n2,t2,x2,rfl⟩
 | cons c r=>
   obtain ⟨k,b,n,t,x,rfl⟩:=ha
   constructor
   ·intro h
    rw [zb8] at h
    simp at h
   ·intro h
    injection h with _ _ _ _ _ h6
    cases h6
def b3 (v0 v1 v2:V6):Nat→Bool
 | 0=>decide (v0.k=0)
 | 1=>decide (v1.k=0)
 | _=>decide (v2.k=0)
def u3 (u0 u1 u2:Val):Nat→Val
 | 0=>u0
 | 1=>u1
 | _=>u2
def q3 (q0 q1 q2:List Val):Nat→List Val
 | 0=>q0
 | 1=>q1
 | _=>q2
structure Sto (W:World) (sp:Nat) (l:List Tri3) (s:SM):Prop where
 g:Gd W
 t:Tab W
 n:l.length≤65536
 ld:zbe l s
 ok:∀ t∈l,zbl t=true
 st:∃ pv pr cv cr pp cc,zd1 W sp s pv pr cv cr pp cc∧∀ k,k < 6→(s.ls k).length≤cc k
theorem Sto.below {W W':World} {sp:Nat} {l:List Tri3} {s:SM} (h:Sto W sp l s) (b:Below W.heap.size W W'):Sto W' sp l s:=by
 obtain ⟨h1,h2,h3,h4,h5,pv,pr,cv,cr,pp,cc,h6,h7⟩:=h
 exact ⟨h1.below b,h2.below b,h3,h4,h5,pv,pr,cv,cr,pp,cc,h6.belowF b,h7⟩
def SM.fit (s:SM) (v0 v1 v2:V6) (u0 u1 u2:Val):List Tri3:=(fitRows s (b3 v0 v1 v2) (u3 u0 u1 u2) (jnB v0 v1 v2)).map s.tri
section
variable {W:World} {sp:Nat} {l:List Tri3} {s:SM}
end
section
variable {l:List Tri3} {s:SM}
theorem zhh (hl:zbe l s) (hok:∀ t∈l,zbl t=true) {t:Tri3} (ht:t∈s.all):Plain3 t:=by
 obtain ⟨r,hr,rfl⟩:=List.mem_map.1 ht
 obtain ⟨t,h1,a1,a2,a3⟩:=hl.row r hr
 unfold SM.tri
 rw [a1,a2,a3]
 have:=zcx (hok t h1)
 exact ⟨this.1.1,this.2.1.1,this.2.2.1⟩
end
end Go.Proofs.YtanbgdhmfjgihaaGreatDoor

/- FJ -/
namespace Go.Proofs.YtanbgdhmfjgihaaGreatDoor
open Go.RowKit
theorem range_a {W:World} {g o:Nat} {a b c:V6} (h:W.rangeAt g o [.int .i64 a.k,.bool a.b,.int .i64 a.n,.string a.t,.string a.x,.slice a.p a.len a.cap,.int .i64 b.k,.bool b.b,.int .i64 b.n,.string b.t,.string b.x,.slice b.p b.len b.cap,.int .i64 c.k,.bool c.b,.int .i64 c.n,.string c.t,.string c.x,.slice c.p c.len c.cap]):W.rangeAt g o [.int .i64 a.k,.bool a.b,.int .i64 a.n,.string a.t,.string a.x,.slice a.p a.len a.cap]:=fun i v hv=>by
 match i,hv with
 | 0,e=>exact h 0 v e
 | 1,e=>exact h 1 v e
 | 2,e=>exact h 2 v e
 | 3,e=>exact h 3 v e
 | 4,e=>exact h 4 v e
 | 5,e=>exact h 5 v e
 | i+6,e=>simp at e
theorem range_c {W:World} {g o:Nat} {a b c:V6} (h:W.rangeAt g o [.int .i64 a.k,.bool a.b,.int .i64 a.n,.string a.t,.string a.x,.slice a.p a.len a.cap,.int .i64 b.k,.bool b.b,.int .i64 b.n,.string b.t,.string b.x,.slice b.p b.len b.cap,.int .i64 c.k,.bool c.b,.int .i64 c.n,.string c.t,.string c.x,.slice c.p c.len c.cap]):W.rangeAt g (o+12) [.int .i64 c.k,.bool c.b,.int .i64 c.n,.string c.t,.string c.x,.slice c.p c.len c.cap]:=fun i v hv=>by
 match i,hv with
 | 0,e=>exact h 12 v e
 | 1,e=>have:=h 13 v e;rwa [Nat.add_assoc]
 | 2,e=>have:=h 14 v e;rwa [Nat.add_assoc]
 | 3,e=>have:=h 15 v e;rwa [Nat.add_assoc]
 | 4,e=>have:=h 16 v e;rwa [Nat.add_assoc]
 | 5,e=>have:=h 17 v e;rwa [Nat.add_assoc]
 | i+6,e=>simp at e
theorem all_chk {l:List Tri3} {s:SM} (hl:zbe l s) (hok:∀ t∈l,zbl t=true) {t:Tri3} (ht:t∈s.all):zbl t=true:=by
 obtain ⟨r,hr,rfl⟩:=List.mem_map.1 ht
 obtain ⟨t,h1,a1,a2,a3⟩:=hl.row r hr
 unfold SM.tri
 rw [a1,a2,a3]
 exact hok t h1
end Go.Proofs.YtanbgdhmfjgihaaGreatDoor
