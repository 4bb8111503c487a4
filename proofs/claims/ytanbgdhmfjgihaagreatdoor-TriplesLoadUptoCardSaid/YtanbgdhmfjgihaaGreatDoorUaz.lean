/- Texts of one kind, one behind the other: each says ahead of itself what it shows. -/
import Derived.Test.YtanbgdhmfjgihaaGreatDoorUay
import Derived.Test.YtanbgdhmfjgihaaGreatDoorUaf
import Derived.Test.YtanbgdhmfjgihaaGreatDoorRows
import Derived.ProofKit
import Derived.OpenShut
import Derived.Carry
namespace Go.Proofs.YtanbgdhmfjgihaaGreatDoor
open Go.RowKit
set_option maxHeartbeats 12800000
set_option maxRecDepth 20000
def vi (t:ByteArray):Val:=.mk 8 false 0 t ⟨#[]⟩ []
def tri0:List Tri3:=[⟨(vi ⟨#[97]⟩),(vi ⟨#[112]⟩),(vi ⟨#[98]⟩)⟩,⟨(vi ⟨#[97]⟩),(vi ⟨#[112]⟩),(vi ⟨#[99]⟩)⟩,⟨(vi ⟨#[98]⟩),(vi ⟨#[113]⟩),(vi ⟨#[99]⟩)⟩]
def vs0:List Val:=[(vi ⟨#[97]⟩),(vi ⟨#[98]⟩),(vi ⟨#[99]⟩),(vi ⟨#[112]⟩),(vi ⟨#[113]⟩)]
def rs0:List R3:=[⟨0,3,1⟩,⟨0,3,2⟩,⟨1,4,2⟩]
def sm0:SM:=⟨vs0,rs0,fun _=>[0,1,2]⟩
theorem iriAt (t:ByteArray) (w:World):Calls Tryz.prog 38 #[.string t] w fun e w'=>e=.returned (.agg #[.int .i64 8,.bool false,.int .i64 0,.string t,.string ⟨#[]⟩,.slice none 0 0])∧Below w.heap.size w w':=by
 go_enter Tryz.func38,Tryz.ntmps38
 go_wp2_with (first
  |((with_reducible refine zal (k':=8) (b':=false) (n':=0) (t':=t) (x':=⟨#[]⟩) (p':=none) (len':=0) (cap':=0) (.tmp 2) (.tmp 4) w.heap.size (zah _ rfl) ?_ ?_ ?_ ?_ ?_);rfl;rfl;rfl;rfl;intro w5 ho5 u5))
 exact bodyPost_ret (v:=.agg #[.int .i64 8,.bool false,.int .i64 0,.string t,.string ⟨#[]⟩,.slice none 0 0]) (results_cell_row (p:=2) (ty:=39) Tryz.results38 _ _ w.heap.size 39 _ (0,0) _ rfl u5 Tryz.underlying39 rfl (by exact zav)) rfl ⟨rfl,zai (zap w _) ho5 (Nat.le_refl _) (by simp)⟩
theorem lenC {W:World} {sp:Nat} {s:SM} (h:ze7 W sp s):Calls Tryz.prog 16 #[.pointer (some ⟨sp,0,none⟩)] W fun e w'=>e=.returned (.int .i64 s.rs.length)∧w'=W:=by
 obtain ⟨pv,pr,cv,cr,pp,cc,h0⟩:=h
 have c1:W.cell? ⟨sp,1,none⟩=some (.slice pr s.rs.length cr):=zab h0.h 1 rfl
 clear h0
 go_enter Tryz.func16,Tryz.ntmps16
 go_wp2_with fail
 go_ret
 exact ⟨rfl,rfl⟩
theorem zs3 {α:Type} (R:α→α→Prop) (irr:∀ a,¬ R a a) (asym:∀ a b,R a b→¬ R b a):(l m:List α)→l.Pairwise R→m.Pairwise R→(∀ u,u∈l↔u∈m)→l=m
 | [],[],_,_,_=>rfl
 | [],b::m,_,_,h=>absurd ((h b).2 (List.mem_cons_self ..)) (by simp)
 | a::l,[],_,_,h=>absurd ((h a).1 (List.mem_cons_self ..)) (by simp)
 | a::l,b::m,hl,hm,h=>by
   rw [List.pairwise_cons] at hl hm
   have hab:a=b:=by
    rcases List.mem_cons.1 ((h a).1 (List.mem_cons_self ..)) with e | e
    ·exact e
    ·rcases List.mem_cons.1 ((h b).2 (List.mem_cons_self ..)) with e2 | e2
     ·exact e2.symm
     ·exact absurd (hl.1 b e2) (asym _ _ (hm.1 a e))
   subst hab
   congr 1
   refine zs3 R irr asym l m hl.2 hm.2 fun u=>?_
   constructor
   ·intro hu
    rcases List.mem_cons.1 ((h u).1 (List.mem_cons_of_mem _ hu)) with e | e
    ·subst e;exact absurd (hl.1 u hu) (irr u)
    ·exact e
   ·intro hu
    rcases List.mem_cons.1 ((h u).2 (List.mem_cons_of_mem _ hu)) with e | e
    ·subst e;exact absurd (hm.1 u hu) (irr u)
    ·exact e
theorem R3.irr (a:R3):¬ R3.lt a a:=by
 have h:VR.cf a.vr a.vr=-VR.cf a.vr a.vr:=zdr _ _ _ _ _ _
 unfold R3.lt
 omega
theorem R3.asym (a b:R3) (h:R3.lt a b):¬ R3.lt b a:=by
 have e:VR.cf b.vr a.vr=-VR.cf a.vr b.vr:=zdr _ _ _ _ _ _
 unfold R3.lt at*
 omega
theorem zll {vs:List Val} (h:Rise vs) {u:Val} {m:Nat} (hm:vs[m]?=some u):vidx vs u=m:=by
 obtain ⟨hlt,e⟩:=List.getElem?_eq_some_iff.1 hm
 have hu:u∈vs:=List.mem_of_getElem? hm
 exact h.inj _ _ (zrf hu) hlt ((zsz hu).trans e.symm)
theorem zzl (a:Int):lexI a 0=a:=by
 unfold lexI
 by_cases e:a=0
 ·rw [if_pos e,e]
 ·rw [if_neg e]
theorem ord_vi (t u:ByteArray):za1 1 (vi t) (vi u)=zaj t.data.toList u.data.toList:=by
 unfold vi
 rw [zcu,zd3,zbj,if_neg (by decide)]
 unfold zbw
 rw [if_neg (by decide),if_neg (by decide),if_neg (by decide),zbk,zbk,show zaj (ByteArray.mk #[]).toList (ByteArray.mk #[]).toList=0 by rw [zbk];rfl,zzl]
theorem zup:Rise vs0:=by
 refine Rise.of_pair ?_
 simp only [vs0,List.pairwise_cons,List.mem_cons,List.mem_nil_iff,or_false,forall_eq_or_imp,forall_eq,List.Pairwise.nil,and_true,false_implies,implies_true]
 refine ⟨⟨?_,?_,?_,?_⟩,⟨?_,?_,?_⟩,⟨?_,?_⟩,?_⟩ <;> (rw [ord_vi];decide)
theorem good0:∀ t∈tri0,zci t=true:=by
 intro t ht
 simp only [tri0,List.mem_cons,List.mem_nil_iff,or_false] at ht
 rcases ht with rfl | rfl | rfl <;> rfl
theorem mem0 (u:Val):u∈flat tri0↔u∈vs0:=by
 simp only [flat,tri0,vs0,List.flatMap_cons,List.flatMap_nil,Tri3.l,List.append_nil,List.cons_append,List.nil_append,List.mem_cons,List.mem_nil_iff,or_false]
 constructor
 ·intro h
  rcases h with h | h | h | h | h | h | h | h | h <;> simp [h]
 ·intro h
  rcases h with h | h | h | h | h <;> simp [h]
theorem rows0 (r:R3):(∃ t∈tri0,rowOf vs0 t=r.vr)↔r∈rs0:=by
 have h0:vidx vs0 (vi ⟨#[97]⟩)=0:=zll zup rfl
 have h1:vidx vs0 (vi ⟨#[98]⟩)=1:=zll zup rfl
 have h2:vidx vs0 (vi ⟨#[99]⟩)=2:=zll zup rfl
 have h3:vidx vs0 (vi ⟨#[112]⟩)=3:=zll zup rfl
 have h4:vidx vs0 (vi ⟨#[113]⟩)=4:=zll zup rfl
 constructor
 ·rintro ⟨t,ht,e⟩
  rw [← vr_r3 r,← e]
  simp only [tri0,List.mem_cons,List.mem_nil_iff,or_false] at ht
  rcases ht with rfl | rfl | rfl
  ·simp [rowOf,VR.r3,h0,h1,h3,rs0]
  ·simp [rowOf,VR.r3,h0,h2,h3,rs0]
  ·simp [rowOf,VR.r3,h1,h2,h4,rs0]
 ·intro h
  simp only [rs0,List.mem_cons,List.mem_nil_iff,or_false] at h
  rcases h with rfl | rfl | rfl
  ·exact ⟨⟨(vi ⟨#[97]⟩),(vi ⟨#[112]⟩),(vi ⟨#[98]⟩)⟩,by simp [tri0],by simp [rowOf,R3.vr,h0,h1,h3]⟩
  ·exact ⟨⟨(vi ⟨#[97]⟩),(vi ⟨#[112]⟩),(vi ⟨#[99]⟩)⟩,by simp [tri0],by simp [rowOf,R3.vr,h0,h2,h3]⟩
  ·exact ⟨⟨(vi ⟨#[98]⟩),(vi ⟨#[113]⟩),(vi ⟨#[99]⟩)⟩,by simp [tri0],by simp [rowOf,R3.vr,h1,h2,h4]⟩
theorem pairs0:rs0.Pairwise R3.lt:=by
 unfold rs0
 simp only [List.pairwise_cons,List.mem_cons,List.mem_nil_iff,or_false,forall_eq_or_imp,forall_eq,List.Pairwise.nil,and_true,false_implies,implies_true]
 unfold R3.lt
 decide
theorem nums0:∀ a,a < 3→∀ b,b < 3→VR.cf (prow rs0 1 2 0 a) (prow rs0 1 2 0 b)≤0→VR.cf (prow rs0 1 2 0 b) (prow rs0 1 2 0 a)≤0→a=b:=by decide
theorem sort0:[0,1,2].Pairwise (fun a b=>VR.cf (prow rs0 1 2 0 a) (prow rs0 1 2 0 b)≤0):=by decide
theorem loaded0 {s:SM} (h:zbf tri0 s):s.vs=vs0∧s.rs=rs0∧s.ls 3=[0,1,2]:=by
 have e1:s.vs=vs0:=Rise.ext h.rise zup fun u=>(h.mem u).trans (mem0 u)
 have e2:s.rs=rs0:=zs3 R3.lt R3.irr R3.asym _ _ h.rows pairs0 fun r=>by
  rw [h.rmem,e1]
  exact rows0 r
 have hn:=h.nums 3 (by omega)
 rw [e2] at hn
 refine ⟨e1,e2,?_⟩
 have hp:(s.ls 3).Perm [0,1,2]:=hn.perm
 refine List.Perm.eq_of_pairwise (le:=fun a b=>VR.cf (prow rs0 1 2 0 a) (prow rs0 1 2 0 b)≤0) ?_ hn.sort sort0 hp
 intro a b ha hb h1 h2
 have ha2:=hp.mem_iff.1 ha
 have a3:a < 3:=by simp only [List.mem_cons,List.mem_nil_iff,or_false] at ha2;omega
 have b3:b < 3:=by simp only [List.mem_cons,List.mem_nil_iff,or_false] at hb;omega
 exact nums0 a a3 b b3 h1 h2
section
variable {s:SM} (e1:s.vs=vs0) (e2:s.rs=rs0) (e3:s.ls 3=[0,1,2])
include e2 e3
theorem num0 (v j:Nat):s.num 3 v j=sm0.num 3 v j:=by
 unfold SM.num
 rw [e2,e3]
 rfl
theorem same0 (v a j:Nat):s.same 3 v a j=sm0.same 3 v a j:=by
 unfold SM.same
 rw [num0 e2 e3,num0 e2 e3]
theorem bot0 (c:CS):c.bot s 3=c.bot sm0 3:=by
 unfold CS.bot
 rw [show s.same 3 c.lev c.pos=sm0.same 3 c.lev c.pos from funext fun j=>same0 e2 e3 _ _ j]
theorem z0y (c:CS):c.opens s 3=c.opens sm0 3:=by
 unfold CS.opens CS.hi
 rw [bot0 e2 e3]
theorem opn0 (c:CS):c.opn s 3=c.opn sm0 3:=by
 unfold CS.opn CS.hi
 rw [z0y e2 e3,bot0 e2 e3]
theorem next0 (c:CS):c.next s 3=c.next sm0 3:=by
 unfold CS.next
 rw [bot0 e2 e3]
include e1
theorem val0 (c:CS):c.val s 3=c.val sm0 3:=by
 unfold CS.val
 rw [num0 e2 e3,e1]
 rfl
end
theorem holds0 (w:World) (g:Nat) (h:w.heap[g]?=some (.cells #[.int .i64 8,.bool false,.int .i64 0,.string ⟨#[97]⟩,.string ⟨#[]⟩,.slice none 0 0,.int .i64 8,.bool false,.int .i64 0,.string ⟨#[112]⟩,.string ⟨#[]⟩,.slice none 0 0,.int .i64 8,.bool false,.int .i64 0,.string ⟨#[98]⟩,.string ⟨#[]⟩,.slice none 0 0,.int .i64 8,.bool false,.int .i64 0,.string ⟨#[97]⟩,.string ⟨#[]⟩,.slice none 0 0,.int .i64 8,.bool false,.int .i64 0,.string ⟨#[112]⟩,.string ⟨#[]⟩,.slice none 0 0,.int .i64 8,.bool false,.int .i64 0,.string ⟨#[99]⟩,.string ⟨#[]⟩,.slice none 0 0,.int .i64 8,.bool false,.int .i64 0,.string ⟨#[98]⟩,.string ⟨#[]⟩,.slice none 0 0,.int .i64 8,.bool false,.int .i64 0,.string ⟨#[113]⟩,.string ⟨#[]⟩,.slice none 0 0,.int .i64 8,.bool false,.int .i64 0,.string ⟨#[99]⟩,.string ⟨#[]⟩,.slice none 0 0] 41)):zaq w g 0 (flat tri0):=by
 have fine:∀ c:UInt8,Fine 0 ⟨#[c]⟩ ⟨#[]⟩ 0:=fun c=>by constructor <;> simp [ByteArray.size]
 have one:∀ (off:Nat) (c:UInt8),(∀ i v,[Value.int .i64 8,.bool false,.int .i64 0,.string ⟨#[c]⟩,.string ⟨#[]⟩,.slice none 0 0][i]?=some v→w.cell? ⟨g,off+i,none⟩=some v)→zax w g off (vi ⟨#[c]⟩):=fun off c hc=>by
  unfold vi zax
  exact ⟨hc 0 _ rfl,hc 1 _ rfl,hc 2 _ rfl,hc 3 _ rfl,hc 4 _ rfl,fine c,_,hc 5 _ rfl,by unfold Held;exact ⟨none,0,rfl⟩⟩
 have hh:∀ (off:Nat) (c:UInt8),(∀ i,i < 6→(#[.int .i64 8,.bool false,.int .i64 0,.string ⟨#[97]⟩,.string ⟨#[]⟩,.slice none 0 0,.int .i64 8,.bool false,.int .i64 0,.string ⟨#[112]⟩,.string ⟨#[]⟩,.slice none 0 0,.int .i64 8,.bool false,.int .i64 0,.string ⟨#[98]⟩,.string ⟨#[]⟩,.slice none 0 0,.int .i64 8,.bool false,.int .i64 0,.string ⟨#[97]⟩,.string ⟨#[]⟩,.slice none 0 0,.int .i64 8,.bool false,.int .i64 0,.string ⟨#[112]⟩,.string ⟨#[]⟩,.slice none 0 0,.int .i64 8,.bool false,.int .i64 0,.string ⟨#[99]⟩,.string ⟨#[]⟩,.slice none 0 0,.int .i64 8,.bool false,.int .i64 0,.string ⟨#[98]⟩,.string ⟨#[]⟩,.slice none 0 0,.int .i64 8,.bool false,.int .i64 0,.string ⟨#[113]⟩,.string ⟨#[]⟩,.slice none 0 0,.int .i64 8,.bool false,.int .i64 0,.string ⟨#[99]⟩,.string ⟨#[]⟩,.slice none 0 0]:Array Value)[off+i]?=[Value.int .i64 8,.bool false,.int .i64 0,.string ⟨#[c]⟩,.string ⟨#[]⟩,.slice none 0 0][i]?)→zax w g off (vi ⟨#[c]⟩):=fun off c hc=>by
  refine one off c fun i v hv=>?_
  have hi:i < 6:=by
   have:=(List.getElem?_eq_some_iff.1 hv).1
   simpa using this
  exact zab h (off+i) ((hc i hi).trans hv)
 have six:∀ (off:Nat) (c:UInt8),off+6≤54→(∀ i:Fin 6,(#[.int .i64 8,.bool false,.int .i64 0,.string ⟨#[97]⟩,.string ⟨#[]⟩,.slice none 0 0,.int .i64 8,.bool false,.int .i64 0,.string ⟨#[112]⟩,.string ⟨#[]⟩,.slice none 0 0,.int .i64 8,.bool false,.int .i64 0,.string ⟨#[98]⟩,.string ⟨#[]⟩,.slice none 0 0,.int .i64 8,.bool false,.int .i64 0,.string ⟨#[97]⟩,.string ⟨#[]⟩,.slice none 0 0,.int .i64 8,.bool false,.int .i64 0,.string ⟨#[112]⟩,.string ⟨#[]⟩,.slice none 0 0,.int .i64 8,.bool false,.int .i64 0,.string ⟨#[99]⟩,.string ⟨#[]⟩,.slice none 0 0,.int .i64 8,.bool false,.int .i64 0,.string ⟨#[98]⟩,.string ⟨#[]⟩,.slice none 0 0,.int .i64 8,.bool false,.int .i64 0,.string ⟨#[113]⟩,.string ⟨#[]⟩,.slice none 0 0,.int .i64 8,.bool false,.int .i64 0,.string ⟨#[99]⟩,.string ⟨#[]⟩,.slice none 0 0]:Array Value)[off+i.val]?=[Value.int .i64 8,.bool false,.int .i64 0,.string ⟨#[c]⟩,.string ⟨#[]⟩,.slice none 0 0][i.val]?)→zax w g off (vi ⟨#[c]⟩):=fun off c _ hc=>hh off c fun i hi=>hc ⟨i,hi⟩
 have f6:∀ (P:Fin 6→Prop),P 0→P 1→P 2→P 3→P 4→P 5→∀ i,P i:=fun P a b c d e f i=>by
  match i with
  | 0=>exact a
  | 1=>exact b
  | 2=>exact c
  | 3=>exact d
  | 4=>exact e
  | 5=>exact f
 show zaq w g 0 [(vi ⟨#[97]⟩),(vi ⟨#[112]⟩),(vi ⟨#[98]⟩),(vi ⟨#[97]⟩),(vi ⟨#[112]⟩),(vi ⟨#[99]⟩),(vi ⟨#[98]⟩),(vi ⟨#[113]⟩),(vi ⟨#[99]⟩)]
 unfold zaq
 refine ⟨six 0 _ (by omega) (f6 _ rfl rfl rfl rfl rfl rfl),?_⟩
 unfold zaq
 refine ⟨six 6 _ (by omega) (f6 _ rfl rfl rfl rfl rfl rfl),?_⟩
 unfold zaq
 refine ⟨six 12 _ (by omega) (f6 _ rfl rfl rfl rfl rfl rfl),?_⟩
 unfold zaq
 refine ⟨six 18 _ (by omega) (f6 _ rfl rfl rfl rfl rfl rfl),?_⟩
 unfold zaq
 refine ⟨six 24 _ (by omega) (f6 _ rfl rfl rfl rfl rfl rfl),?_⟩
 unfold zaq
 refine ⟨six 30 _ (by omega) (f6 _ rfl rfl rfl rfl rfl rfl),?_⟩
 unfold zaq
 refine ⟨six 36 _ (by omega) (f6 _ rfl rfl rfl rfl rfl rfl),?_⟩
 unfold zaq
 refine ⟨six 42 _ (by omega) (f6 _ rfl rfl rfl rfl rfl rfl),?_⟩
 unfold zaq
 refine ⟨six 48 _ (by omega) (f6 _ rfl rfl rfl rfl rfl rfl),?_⟩
 unfold zaq
 trivial
theorem load0 (w:World) (hG:Gd w) (hT:Tab w):Calls Tryz.prog 10 #[.slice (some ⟨w.heap.size,0,none⟩) 3 3] (w.alloc (.cells #[.int .i64 8,.bool false,.int .i64 0,.string ⟨#[97]⟩,.string ⟨#[]⟩,.slice none 0 0,.int .i64 8,.bool false,.int .i64 0,.string ⟨#[112]⟩,.string ⟨#[]⟩,.slice none 0 0,.int .i64 8,.bool false,.int .i64 0,.string ⟨#[98]⟩,.string ⟨#[]⟩,.slice none 0 0,.int .i64 8,.bool false,.int .i64 0,.string ⟨#[97]⟩,.string ⟨#[]⟩,.slice none 0 0,.int .i64 8,.bool false,.int .i64 0,.string ⟨#[112]⟩,.string ⟨#[]⟩,.slice none 0 0,.int .i64 8,.bool false,.int .i64 0,.string ⟨#[99]⟩,.string ⟨#[]⟩,.slice none 0 0,.int .i64 8,.bool false,.int .i64 0,.string ⟨#[98]⟩,.string ⟨#[]⟩,.slice none 0 0,.int .i64 8,.bool false,.int .i64 0,.string ⟨#[113]⟩,.string ⟨#[]⟩,.slice none 0 0,.int .i64 8,.bool false,.int .i64 0,.string ⟨#[99]⟩,.string ⟨#[]⟩,.slice none 0 0] 41)) fun e w'=>∃ sp s,e=.returned (.tuple #[.pointer (some ⟨sp,0,none⟩),.int .i64 0])∧ze7 w' sp s∧zbf tri0 s∧Below (w.heap.size+1) (w.alloc (.cells #[.int .i64 8,.bool false,.int .i64 0,.string ⟨#[97]⟩,.string ⟨#[]⟩,.slice none 0 0,.int .i64 8,.bool false,.int .i64 0,.string ⟨#[112]⟩,.string ⟨#[]⟩,.slice none 0 0,.int .i64 8,.bool false,.int .i64 0,.string ⟨#[98]⟩,.string ⟨#[]⟩,.slice none 0 0,.int .i64 8,.bool false,.int .i64 0,.string ⟨#[97]⟩,.string ⟨#[]⟩,.slice none 0 0,.int .i64 8,.bool false,.int .i64 0,.string ⟨#[112]⟩,.string ⟨#[]⟩,.slice none 0 0,.int .i64 8,.bool false,.int .i64 0,.string ⟨#[99]⟩,.string ⟨#[]⟩,.slice none 0 0,.int .i64 8,.bool false,.int .i64 0,.string ⟨#[98]⟩,.string ⟨#[]⟩,.slice none 0 0,.int .i64 8,.bool false,.int .i64 0,.string ⟨#[113]⟩,.string ⟨#[]⟩,.slice none 0 0,.int .i64 8,.bool false,.int .i64 0,.string ⟨#[99]⟩,.string ⟨#[]⟩,.slice none 0 0] 41)) w':=by
 have hb:Below w.heap.size w (w.alloc (.cells #[.int .i64 8,.bool false,.int .i64 0,.string ⟨#[97]⟩,.string ⟨#[]⟩,.slice none 0 0,.int .i64 8,.bool false,.int .i64 0,.string ⟨#[112]⟩,.string ⟨#[]⟩,.slice none 0 0,.int .i64 8,.bool false,.int .i64 0,.string ⟨#[98]⟩,.string ⟨#[]⟩,.slice none 0 0,.int .i64 8,.bool false,.int .i64 0,.string ⟨#[97]⟩,.string ⟨#[]⟩,.slice none 0 0,.int .i64 8,.bool false,.int .i64 0,.string ⟨#[112]⟩,.string ⟨#[]⟩,.slice none 0 0,.int .i64 8,.bool false,.int .i64 0,.string ⟨#[99]⟩,.string ⟨#[]⟩,.slice none 0 0,.int .i64 8,.bool false,.int .i64 0,.string ⟨#[98]⟩,.string ⟨#[]⟩,.slice none 0 0,.int .i64 8,.bool false,.int .i64 0,.string ⟨#[113]⟩,.string ⟨#[]⟩,.slice none 0 0,.int .i64 8,.bool false,.int .i64 0,.string ⟨#[99]⟩,.string ⟨#[]⟩,.slice none 0 0] 41)):=zap _ _
 have ht:Tris (w.alloc (.cells #[.int .i64 8,.bool false,.int .i64 0,.string ⟨#[97]⟩,.string ⟨#[]⟩,.slice none 0 0,.int .i64 8,.bool false,.int .i64 0,.string ⟨#[112]⟩,.string ⟨#[]⟩,.slice none 0 0,.int .i64 8,.bool false,.int .i64 0,.string ⟨#[98]⟩,.string ⟨#[]⟩,.slice none 0 0,.int .i64 8,.bool false,.int .i64 0,.string ⟨#[97]⟩,.string ⟨#[]⟩,.slice none 0 0,.int .i64 8,.bool false,.int .i64 0,.string ⟨#[112]⟩,.string ⟨#[]⟩,.slice none 0 0,.int .i64 8,.bool false,.int .i64 0,.string ⟨#[99]⟩,.string ⟨#[]⟩,.slice none 0 0,.int .i64 8,.bool false,.int .i64 0,.string ⟨#[98]⟩,.string ⟨#[]⟩,.slice none 0 0,.int .i64 8,.bool false,.int .i64 0,.string ⟨#[113]⟩,.string ⟨#[]⟩,.slice none 0 0,.int .i64 8,.bool false,.int .i64 0,.string ⟨#[99]⟩,.string ⟨#[]⟩,.slice none 0 0] 41)) (.slice (some ⟨w.heap.size,0,none⟩) 3 3) tri0:=⟨_,3,rfl,fun _=>⟨_,0,rfl,holds0 _ _ (zag _ _ rfl)⟩⟩
 refine (zw8 _ tri0 _ (hG.below hb) (hT.below hb) ht (by decide)).mono ?_
 rintro e w' ⟨h,_⟩
 obtain ⟨sp,s,he,h1,h2,h3⟩:=h good0
 exact ⟨sp,s,he,h1.at_,h2,by simpa using h3⟩
section
variable {W0 W:World} {s:SM} {g:Nat} {c:CS} (e1:s.vs=vs0) (e2:s.rs=rs0) (e3:s.ls 3=[0,1,2])
include e2 e3
theorem z0z (ST:zbr W0 s W g c 3) (r:Bool) (c':CS) (h1:c.opens sm0 3=r) (h2:c.opn sm0 3=c'):Calls Tryz.prog 22 #[.pointer (some ⟨g,0,none⟩)] W fun e w'=>e=.returned (.bool r)∧Only g W w'∧zbr W0 s w' g c' 3:=by
 refine (zzb ST).mono ?_
 rintro e w' ⟨rfl,o,B⟩
 have h:=ST.opn o B
 rw [opn0 e2 e3,h2] at h
 rw [z0y e2 e3,h1]
 exact ⟨rfl,o,h⟩
theorem zxb (ST:zbr W0 s W g c 3) (r:Bool) (c':CS) (h2:c.next sm0 3=c') (h1:c'.on=r):Calls Tryz.prog 26 #[.pointer (some ⟨g,0,none⟩)] W fun e w'=>e=.returned (.bool r)∧Only g W w'∧zbr W0 s w' g c' 3:=by
 refine (nextC ST).mono ?_
 rintro e w' ⟨rfl,o,B⟩
 have h:=ST.next o B
 rw [next0 e2 e3,h2] at h
 rw [next0 e2 e3,h2,h1]
 exact ⟨rfl,o,h⟩
include e1
theorem keyAt (ST:zbr W0 s W g c 3) (q:c.on=true) (t:ByteArray) (h2:c.val sm0 3=vi t):Calls Tryz.prog 30 #[.pointer (some ⟨g,0,none⟩)] W fun e w'=>e=.returned (.tuple #[.agg #[.int .i64 8,.bool false,.int .i64 0,.string t,.string ⟨#[]⟩,.slice none 0 0],.bool true])∧Below W.heap.size W w':=by
 refine (keyC ST q).mono ?_
 rintro e w' ⟨⟨kk,b,n,t',x,l,hv,hf,rfl⟩,hb⟩
 rw [val0 e1 e2 e3,h2] at hv
 unfold vi at hv
 injection hv with q1 q2 q3 q4 q5 q6
 subst q1 q2 q3 q4 q5
 exact ⟨rfl,hb⟩
end
theorem zp6 (w:World) (hG:Gd w) (hT:Tab w):Calls Tryz.prog 8 #[] w fun e w'=>e=.returned (.bool true)∧Below w.heap.size w w':=by
 have HI:=Lib.hid (fun t W=>iriAt t W)
 have HL:=Lib.hid (fun W (h:Below w.heap.size w W)=>load0 W (hG.below h) (hT.below h))
 have b0:=Below.refl w.heap.size w
 clear hG hT
 go_enter Tryz.func8,Tryz.ntmps8
 go_upto_region 2 with (first
  |(go_at_call 38;(with_reducible refine (HI.out _ _).mono ?_);rintro e w1 ⟨rfl,hb⟩;replace b0:=zak b0 hb b0.size;clear hb)
  |(go_at_call 10;(with_reducible refine (HL.out _ b0).mono ?_);rintro e w2 ⟨sp,s,rfl,hst,hld,hb⟩))
 replace b0:Below w.heap.size w w2:=(b0.alloc b0.size _).trans (hb.mono (by have:=b0.size;omega))
 obtain ⟨e1,e2,e3⟩:=loaded0 hld
 have hlen:=lenC hst
 rw [e2] at hlen
 replace hlen:Calls Tryz.prog 16 #[.pointer (some ⟨sp,0,none⟩)] w2 fun e w'=>e=.returned (.int .i64 3)∧w'=w2:=hlen
 have HLEN:=Lib.hid hlen
 have hcur:Calls Tryz.prog 20 #[.pointer (some ⟨sp,0,none⟩),.string ⟨#[112,111,115]⟩] w2 _:=cursorC (k:=3) hst (Below.refl _ _) (hld.ok (by decide)) hld.so (by omega)
 have HCUR:=Lib.hid hcur
 have hs2:=b0.size
 have HE:=Lib.hid (And.intro e1 (And.intro e2 e3))
 have HB:=Lib.hid b0
 clear hcur hlen hst hld hb e1 e2 e3 b0
 go_upto_region 5 with (first
  |(go_at_call 16;(with_reducible refine HLEN.out.mono ?_);rintro e w3 ⟨rfl,hw3⟩;subst hw3)
  |(go_at_call 20;(with_reducible refine HCUR.out.mono ?_);rintro e w4 ⟨g,c,rfl,hb4,hg4,⟨pl,n,cl,hc⟩,ST⟩))
 obtain ⟨e1,e2,e3⟩:=HE.out
 have hn:n=3:=by
  have:=ST.fit.n
  rw [hc,e3] at this
  exact this
 subst hn hc
 have O1:=Lib.hid (z0z e2 e3 ST true ⟨sp,pl,3,cl,1,2,0,0,3,0,0,0,0,1⟩ rfl rfl)
 have b4:Below w.heap.size w w4:=HB.out.trans (hb4.is.mono hs2)
 have hgw:w.heap.size≤g:=Nat.le_trans hs2 hg4
 clear HCUR HLEN HB hb4
 go_upto_region 7 with (go_at_call 22;(with_reducible refine O1.out.mono ?_);rintro e w5 ⟨rfl,o5,ST5⟩)
 have b5:Below w.heap.size w w5:=zai b4 o5 hgw b4.size
 have K1:=Lib.hid (keyAt e1 e2 e3 ST5 rfl ⟨#[112]⟩ rfl)
 clear O1 ST o5 b4 HE
 go_upto_region 8 with (first
  |(go_at_call 30;(with_reducible refine K1.out.mono ?_);rintro e w6 ⟨rfl,hb6⟩)
  |((with_reducible refine zal (k':=8) (b':=false) (n':=0) (t':=⟨#[112]⟩) (x':=⟨#[]⟩) (p':=none) (len':=0) (cap':=0) (.tmp 4) (.tmp 53) w6.heap.size (zah _ rfl) ?_ ?_ ?_ ?_ ?_);rfl;rfl;rfl;rfl;intro w7 ho7 u7))
 have b67:Below w6.heap.size w6 w7:=zai (zap w6 _) ho7 (Nat.le_refl _) (by simp)
 have b57:Below w5.heap.size w5 w7:=hb6.trans (b67.mono hb6.size)
 have b7:Below w.heap.size w w7:=b5.trans (b57.mono b5.size)
 have ST7:=ST5.bel b57
 have c3:=u7.c3
 have O2:=Lib.hid (z0z e2 e3 ST7 true ⟨sp,pl,3,cl,1,2,0,0,3,0,2,0,0,2⟩ rfl rfl)
 have HE:=Lib.hid (And.intro e2 e3)
 have HB:=Lib.hid b7
 clear K1 ST5 b67 b57 b5 b7 hb6 ho7 u7 e1 e2 e3 ST7
 go_wp2_with (first
  |(go_at_call 22;(with_reducible refine O2.out.mono ?_);rintro e w8 ⟨rfl,o8,ST8⟩
    have HB8:=Lib.hid (zai HB.out o8 hgw HB.out.size)
    have N1:=Lib.hid (zxb HE.out.1 HE.out.2 ST8 true ⟨sp,pl,3,cl,1,2,0,0,3,1,2,0,0,2⟩ rfl rfl)
    clear O2 ST8 o8 HB c3)
  |(go_at_call 26;(with_reducible refine N1.out.mono ?_);rintro e w9 ⟨rfl,o9,ST9⟩
    have HB9:=Lib.hid (zai HB8.out o9 hgw HB8.out.size)
    have N2:=Lib.hid (zxb HE.out.1 HE.out.2 ST9 false ⟨sp,pl,3,cl,1,2,0,0,3,2,2,0,0,2⟩ rfl rfl)
    clear N1 ST9 o9 HB8)
  |(go_at_call 26;(with_reducible refine N2.out.mono ?_);rintro e w10 ⟨rfl,o10,ST10⟩
    have HB10:=Lib.hid (zai HB9.out o10 hgw HB9.out.size)
    have U1:=Lib.hid (upC ST10.at_.B ST10.fit.d3)
    have HS:=Lib.hid ST10
    clear N2 ST10 o10 HB9)
  |(go_at_call 24;(with_reducible refine U1.out.mono ?_);rintro e w11 ⟨rfl,o11,B11⟩
    have HB11:=Lib.hid (zai HB10.out o11 hgw HB10.out.size)
    have ST11:=HS.out.upp o11 B11
    have N3:=Lib.hid (zxb HE.out.1 HE.out.2 ST11 true ⟨sp,pl,3,cl,1,2,0,2,3,2,2,0,0,1⟩ rfl rfl)
    clear U1 ST11 o11 B11 HB10 HS)
  |(go_at_call 26;(with_reducible refine N3.out.mono ?_);rintro e w12 ⟨rfl,o12,ST12⟩
    have HB12:=Lib.hid (zai HB11.out o12 hgw HB11.out.size)
    have D1:=Lib.hid (depthC ST12.at_.B)
    clear N3 ST12 o12 HB11)
  |(go_at_call 33;(with_reducible refine D1.out.mono ?_);rintro e w13 ⟨rfl,hb13⟩))
 go_ret
 exact ⟨rfl,HB12.out⟩
section
variable {c:CS}
theorem CS.go_on (c:CS) (h1:1≤c.d) (h3:c.d≤3) (x:Nat):(c.go x).on=decide (x < c.fin):=by
 unfold CS.on
 rw [CS.go_d,CS.go_pos c x h1 h3,CS.go_fin c x h1 h3,decide_eq_true h1,Bool.true_and]
end
section
variable {s:SM} {k:Nat} {c:CS} {u:Val}
end
def nulV:Val:=.mk 0 false 0 ⟨#[]⟩ ⟨#[]⟩ []
section
variable {W0 W:World} {s:SM} {g k:Nat} {c:CS}
theorem cursorD {W2:World} {sp:Nat} {pv pr:Option Addr} {cv cr:Nat} {pp:Nat→Option Addr} {cc:Nat→Nat} (h0:zcy W sp s pv pr cv cr pp cc) (b:Below W.heap.size W W2) (ok:SMok s) (so:zim s) (hk:k < 6):
 Calls Tryz.prog 20 #[.pointer (some ⟨sp,0,none⟩),.string (onm k)] W2 fun e w'=>∃ g,e=.returned (.tuple #[.pointer (some ⟨g,0,none⟩),.int .i64 0])∧Low W2.heap.size W2 w'∧W2.heap.size≤g∧zbr W s w' g (zs0 sp (pp k) (s.ls k).length (cc k) k) k:=by
 have h0':=(b.block _ (zac h0.h)).trans h0.h
 have kl:W2.cell? ⟨sp,2+k,none⟩=some (.slice (pp k) (s.ls k).length (cc k)):=by
  match k,hk with
  | 0,_=>exact zab h0' 2 rfl
  | 1,_=>exact zab h0' 3 rfl
  | 2,_=>exact zab h0' 4 rfl
  | 3,_=>exact zab h0' 5 rfl
  | 4,_=>exact zab h0' 6 rfl
  | 5,_=>exact zab h0' 7 rfl
 refine (zp3 sp k (s.ls k).length (cc k) _ _ _ (pp k) (onm k) W2 hk (fun w=>zwz k hk w) (fun w=>zn4 k hk w) kl).mono ?_
 rintro e w' ⟨g,rfl,hg,hb,hcur⟩
 have hlv:=lev_lt k
 exact ⟨g,rfl,hb,hg,⟨⟨pv,pr,cv,cr,pp,cc,h0⟩,rfl,h0.l k hk,hlv.1,hlv.2.1,hlv.2.2,Nat.le_trans b.size hg,zak b hb.is b.size,hcur⟩,⟨Nat.zero_le _,rfl,rfl,rfl,rfl,fun q=>absurd q (by show ¬ 1≤0;omega),fun q=>absurd q (by show ¬ 2≤0;omega),fun q=>absurd q (by show ¬ 3≤0;omega)⟩,ok,so,hk⟩
end
def OpsAt (W:World) (D:Value) (l:List (Int × Val)):Prop:=
 ∃ p cap,D=.slice p l.length cap∧(l≠[]→∃ g off,p=some ⟨g,off,none⟩∧∀ (j:Nat) (h:j < l.length),W.cell? ⟨g,off+j*7,none⟩=some (.int .i64 l[j].1)∧zax W g (off+j*7+1) l[j].2)
theorem OpsAt.below {W W':World} {D:Value} {l:List (Int × Val)} (h:OpsAt W D l) (b:Below W.heap.size W W'):OpsAt W' D l:=by
 obtain ⟨p,cap,e,k⟩:=h
 refine ⟨p,cap,e,fun hn=>?_⟩
 obtain ⟨g,off,e2,k2⟩:=k hn
 exact ⟨g,off,e2,fun j hj=>⟨(b.cell (p:=⟨g,off+j*7,none⟩) (World.block_lt_of_cell? W _ (k2 j hj).1)).trans (k2 j hj).1,zax.below _ (k2 j hj).2 b⟩⟩
section
open Go.RowKit Go.ChangeShapes
variable {H:Type} {enc:TypeId × Value→H}
theorem zna {w:World} {a:Addr} {m:Nat} {cs:List Value} (h:w.cells? 0 a m=some cs):cs.length=m∧∀ j,j < m→w.cell? (a.add j)=cs[j]?:=by
 unfold World.cells? at h
 rw [if_pos (Nat.zero_le _)] at h
 have hl:=mapM_some_length h
 rw [List.length_range] at hl
 refine ⟨hl,fun j hj=>?_⟩
 exact mapM_some_get h j j (by rw [List.getElem?_range hj])
theorem zi1 (g off i:Nat):(Addr.mk g off none).add i=⟨g,off+i,none⟩:=by unfold Addr.add;split <;> simp_all
theorem list6 {α:Type} {l:List α} (h:l.length=6):∃ a b c d e f,l=[a,b,c,d,e,f]:=by
 match l,h with
 | [a,b,c,d,e,f],_=>exact ⟨a,b,c,d,e,f,rfl⟩
theorem zfi {d:DataW H}:{l:List (DataW H)}→d∈l→Rows.uptoBulk d≤Rows.uptoBulkAll l
 | [],h=>absurd h (by simp)
 | e::r,h=>by
   unfold Rows.uptoBulkAll
   rcases List.mem_cons.1 h with h | h
   ·rw [h];omega
   ·have:=zfi h;omega
theorem zzm (d:DataW H):1≤Rows.uptoBulk d:=by
 cases d with
 | lit l=>cases l <;> simp [Rows.uptoBulk]
 | _=>simp [Rows.uptoBulk]
theorem zn6:(l:List (DataW H))→l.length≤Rows.uptoBulkAll l
 | []=>by simp
 | e::r=>by
   unfold Rows.uptoBulkAll
   have:=zn6 r
   have:=zzm e
   simp only [List.length_cons]
   omega
theorem zhz {W:World} {n:Nat} {cs:List Value} {y:DataW H × List MemPlace} (h:DataW.trod enc Tryz.prog W 0 (fun _=>true) true n 39 cs=some y):
 ∃ n' k b m t x L yl,n=n'+1∧cs=[.int .i64 k,.bool b,.int .i64 m,.string t,.string x,L]∧DataW.trod enc Tryz.prog W 0 (fun _=>true) true n' 37 [L]=some yl∧
  t.size≤Rows.uptoBulk y.1∧x.size≤Rows.uptoBulk y.1∧Rows.uptoBulk yl.1≤Rows.uptoBulk y.1∧(Lit.int .i64 m).wf=true:=by
 obtain ⟨xs,n',rfl,rfl,hl,hlen,hf⟩:=DataW.trod_struct Tryz.underlying39 h
 obtain ⟨c0,c1,c2,c3,c4,c5,rfl⟩:=list6 (hl.trans (by kernel_rfl:Tryz.prog.cellsOf 39=6))
 obtain ⟨y0,y1,y2,y3,y4,y5,rfl⟩:=list6 (hlen.trans rfl)
 have e1:Tryz.prog.cellsOf 3=1:=by kernel_rfl
 have e2:Tryz.prog.cellsOf 4=1:=by kernel_rfl
 have e3:Tryz.prog.cellsOf 2=1:=by kernel_rfl
 have e4:Tryz.prog.cellsOf 9=1:=by kernel_rfl
 have e5:Tryz.prog.cellsOf 37=1:=by kernel_rfl
 have h0:DataW.trod enc Tryz.prog W 0 (fun _=>true) true n' 3 (([c0,c1,c2,c3,c4,c5].drop 0).take (Tryz.prog.cellsOf 3))=[y0,y1,y2,y3,y4,y5][0]?:=hf 0 _ rfl
 have h1:DataW.trod enc Tryz.prog W 0 (fun _=>true) true n' 4 (([c0,c1,c2,c3,c4,c5].drop 1).take (Tryz.prog.cellsOf 4))=[y0,y1,y2,y3,y4,y5][1]?:=hf 1 _ rfl
 have h2:DataW.trod enc Tryz.prog W 0 (fun _=>true) true n' 2 (([c0,c1,c2,c3,c4,c5].drop 2).take (Tryz.prog.cellsOf 2))=[y0,y1,y2,y3,y4,y5][2]?:=hf 2 _ rfl
 have h3:DataW.trod enc Tryz.prog W 0 (fun _=>true) true n' 9 (([c0,c1,c2,c3,c4,c5].drop 3).take (Tryz.prog.cellsOf 9))=[y0,y1,y2,y3,y4,y5][3]?:=hf 3 _ rfl
 have h4:DataW.trod enc Tryz.prog W 0 (fun _=>true) true n' 9 (([c0,c1,c2,c3,c4,c5].drop 4).take (Tryz.prog.cellsOf 9))=[y0,y1,y2,y3,y4,y5][4]?:=hf 4 _ rfl
 have h5:DataW.trod enc Tryz.prog W 0 (fun _=>true) true n' 37 (([c0,c1,c2,c3,c4,c5].drop 5).take (Tryz.prog.cellsOf 37))=[y0,y1,y2,y3,y4,y5][5]?:=hf 5 _ rfl
 rw [e1] at h0
 rw [e2] at h1
 rw [e3] at h2
 rw [e4] at h3 h4
 rw [e5] at h5
 replace h0:DataW.trod enc Tryz.prog W 0 (fun _=>true) true n' 3 [c0]=some y0:=h0
 replace h1:DataW.trod enc Tryz.prog W 0 (fun _=>true) true n' 4 [c1]=some y1:=h1
 replace h2:DataW.trod enc Tryz.prog W 0 (fun _=>true) true n' 2 [c2]=some y2:=h2
 replace h3:DataW.trod enc Tryz.prog W 0 (fun _=>true) true n' 9 [c3]=some y3:=h3
 replace h4:DataW.trod enc Tryz.prog W 0 (fun _=>true) true n' 9 [c4]=some y4:=h4
 replace h5:DataW.trod enc Tryz.prog W 0 (fun _=>true) true n' 37 [c5]=some y5:=h5
 obtain ⟨k,a0,_,_⟩:=DataW.trod_int Tryz.underlying3 h0
 obtain ⟨b,a1,_⟩:=DataW.trod_bool Tryz.underlying4 h1
 obtain ⟨m,a2,_,wm⟩:=DataW.trod_int Tryz.underlying2 h2
 obtain ⟨t,a3,z3,_⟩:=DataW.trod_string Tryz.underlying9 h3
 obtain ⟨x,a4,z4,_⟩:=DataW.trod_string Tryz.underlying9 h4
 simp only [List.cons.injEq,and_true] at a0 a1 a2 a3 a4
 subst a0 a1 a2 a3 a4
 refine ⟨n',k,b,m,t,x,c5,y5,rfl,rfl,h5,?_,?_,?_,wm⟩
 ·have:Rows.uptoBulk y3.1≤Rows.uptoBulkAll ([y0,y1,y2,y3,y4,y5].map (·.1)):=zfi (by simp)
  rw [z3] at this
  have e:Rows.uptoBulk (.lit (.string t.data.toList):DataW H)=t.data.toList.length+1:=rfl
  have e':t.data.toList.length=t.size:=Array.length_toList
  show t.size≤Rows.uptoBulkAll _+1
  rw [e,e',← z3] at this
  omega
 ·have:Rows.uptoBulk y4.1≤Rows.uptoBulkAll ([y0,y1,y2,y3,y4,y5].map (·.1)):=zfi (by simp)
  rw [z4] at this
  have e:Rows.uptoBulk (.lit (.string x.data.toList):DataW H)=x.data.toList.length+1:=rfl
  have e':x.data.toList.length=x.size:=Array.length_toList
  show x.size≤Rows.uptoBulkAll _+1
  rw [e,e',← z4] at this
  omega
 ·have:Rows.uptoBulk y5.1≤Rows.uptoBulkAll ([y0,y1,y2,y3,y4,y5].map (·.1)):=zfi (by simp)
  show Rows.uptoBulk y5.1≤Rows.uptoBulkAll _+1
  omega
theorem z00 {m:Int} (h:(Lit.int .i64 m).wf=true):-9223372036854775808≤m∧m≤9223372036854775807:=by
 have:=bounds_i64 h
 omega
theorem zp7 {W:World} (B:Nat) (hBB:B≤2097152):∀ (N n:Nat),n≤N→∀ (L:Value) (y:DataW H × List MemPlace),DataW.trod enc Tryz.prog W 0 (fun _=>true) true n 37 [L]=some y→Rows.uptoBulk y.1≤B→∃ l,Held W L l∧l.length≤B:=by
 intro N
 induction N with
 | zero=>
   intro n hn L y h _
   obtain rfl:n=0:=by omega
   simp [DataW.trod] at h
 | succ N IH=>
   intro n0 hn0 L y h hB
   rcases DataW.trod_slice Tryz.underlying37 h with ⟨e,_⟩ | ⟨a,len,cap,elems,rest,n1,hn,e,rfl,hb,hl,hm,hlen,hel,_,_⟩
   ·obtain rfl:L=.slice none 0 0:=by simpa using e
    exact ⟨[],by unfold Held;exact ⟨none,0,rfl⟩,by simp⟩
   ·obtain rfl:L=.slice (some a) len cap:=by simpa using e
    rw [show Tryz.prog.cellsOf 39=6 by kernel_rfl] at hel
    have hE:Rows.uptoBulkAll (elems.map (·.1))≤B:=by
     have:Rows.uptoBulkAll (elems.map (·.1))+Rows.uptoBulkAll (rest.map (·.1))+1≤B:=hB
     omega
    have hln:len≤B:=by
     have:=zn6 (elems.map (·.1))
     simp only [List.length_map] at this
     omega
    have each:∀ i,i < len→∃ k b m t x l p,(∀ j v,[Value.int .i64 k,.bool b,.int .i64 m,.string t,.string x,p][j]?=some v→W.cell? ((a.add (i*6)).add j)=some v)∧Fine m t x (List.length (α:=Val) l)∧Held W p l:=by
     intro i hi
     have h1:=hel i hi
     have hi':i < elems.length:=by omega
     rw [List.getElem?_eq_getElem hi',Option.bind_eq_some_iff] at h1
     obtain ⟨cs,hcs,hy⟩:=h1
     obtain ⟨c1,c2⟩:=zna hcs
     obtain ⟨n',k,b,m,t,x,p,yl,hn',rfl,hp,ht,hx,hpl,wm⟩:=zhz hy
     have hbe:Rows.uptoBulk elems[i].1≤B:=Nat.le_trans (zfi (List.mem_map_of_mem (List.getElem_mem hi'))) hE
     obtain ⟨l,hheld,hll⟩:=IH n' (by omega) p yl hp (by omega)
     obtain ⟨w1,w2⟩:=z00 wm
     refine ⟨k,b,m,t,x,l,p,fun j v hv=>?_,⟨by omega,by omega,by omega,w1,w2⟩,hheld⟩
     have hj:j < 6:=by
      have:=(List.getElem?_eq_some_iff.1 hv).1
      simpa using this
     rw [c2 j hj,hv]
    by_cases h0:len=0
    ·subst h0
     exact ⟨[],by unfold Held;exact ⟨some a,cap,rfl⟩,by simp⟩
    ·have hsp:a.spot=none:=by
      obtain ⟨k,b,m,t,x,l,p,hc,_,_⟩:=each 0 (by omega)
      have h0:=hc 0 _ rfl
      cases kk:a.spot with
      | none=>rfl
      | some mm=>
        rw [show (a.add (0*6)).add 0=a by simp [Addr.add]] at h0
        unfold World.cell? at h0
        rw [kk] at h0
        split at h0 <;> simp at h0
     obtain ⟨g,off,spot⟩:=a
     simp only at hsp
     subst hsp
     have build:∀ m,m≤len→∃ l:List Val,l.length=m∧zaq W g (off+(len - m)*6) l:=by
      intro m
      induction m with
      | zero=>exact fun _=>⟨[],rfl,by unfold zaq;trivial⟩
      | succ m ih=>
        intro hm1
        obtain ⟨l,hll,hh⟩:=ih (by omega)
        obtain ⟨k,b,mm,t,x,q,p,hc,hf,hp⟩:=each (len - (m+1)) (by omega)
        have ea:∀ j,((⟨g,off,none⟩:Addr).add ((len - (m+1))*6)).add j=⟨g,off+(len - (m+1))*6+j,none⟩:=fun j=>by rw [zi1,zi1]
        refine ⟨.mk k b mm t x q::l,by simp [hll],?_⟩
        unfold zaq
        refine ⟨?_,?_⟩
        ·unfold zax
         have hcj:=fun j v hv=>(congrArg W.cell? (ea j)).symm.trans (hc j v hv)
         exact ⟨hcj 0 _ rfl,hcj 1 _ rfl,hcj 2 _ rfl,hcj 3 _ rfl,hcj 4 _ rfl,hf,p,hcj 5 _ rfl,hp⟩
        ·rw [show off+(len - (m+1))*6+6=off+(len - m)*6 by omega]
         exact hh
     obtain ⟨l,hll,hh⟩:=build len (Nat.le_refl _)
     rw [Nat.sub_self,Nat.zero_mul,Nat.add_zero] at hh
     refine ⟨l,?_,by omega⟩
     cases l with
     | nil=>simp at hll;omega
     | cons v r=>
       unfold zaq at hh
       unfold Held
       exact ⟨g,off,cap,by rw [← hll];rfl,hh.1,hh.2⟩
end
section
open Go.RowKit Go.ChangeShapes
variable {H:Type} {enc:TypeId × Value→H}
theorem zc7 {W:World} (B:Nat) (hBB:B≤2097152) {n:Nat} {cs:List Value} {y:DataW H × List MemPlace} (h:DataW.trod enc Tryz.prog W 0 (fun _=>true) true n 39 cs=some y) (hB:Rows.uptoBulk y.1≤B):
 ∃ k b m t x q p,cs=[.int .i64 k,.bool b,.int .i64 m,.string t,.string x,p]∧Fine m t x (List.length (α:=Val) q)∧Held W p q:=by
 obtain ⟨n',k,b,m,t,x,L,yl,rfl,rfl,hp,ht,hx,hpl,wm⟩:=zhz h
 obtain ⟨l,hheld,hll⟩:=zp7 B hBB n' n' (Nat.le_refl _) L yl hp (by omega)
 obtain ⟨w1,w2⟩:=z00 wm
 exact ⟨k,b,m,t,x,l,L,rfl,⟨by omega,by omega,by omega,w1,w2⟩,hheld⟩
theorem zc8 {W:World} {g off:Nat} {k:Int} {b:Bool} {m:Int} {t x:ByteArray} {q:List Val} {p:Value} (hc:∀ j v,[Value.int .i64 k,.bool b,.int .i64 m,.string t,.string x,p][j]?=some v→W.cell? ⟨g,off+j,none⟩=some v) (hf:Fine m t x q.length) (hp:Held W p q):zax W g off (.mk k b m t x q):=by
 unfold zax
 exact ⟨hc 0 _ rfl,hc 1 _ rfl,hc 2 _ rfl,hc 3 _ rfl,hc 4 _ rfl,hf,p,hc 5 _ rfl,hp⟩
theorem zro {W:World} (B:Nat) (hBB:B≤2097152) {n:Nat} {cs:List Value} {y:DataW H × List MemPlace} (h:DataW.trod enc Tryz.prog W 0 (fun _=>true) true n 41 cs=some y) (hB:Rows.uptoBulk y.1≤B):
 ∃ t:Tri3,∀ g off,(∀ j,j < 18→W.cell? ⟨g,off+j,none⟩=cs[j]?)→zax W g off t.s∧zax W g (off+6) t.p∧zax W g (off+12) t.o:=by
 obtain ⟨xs,n',rfl,rfl,hl,hlen,hf⟩:=DataW.trod_struct Tryz.underlying41 h
 have hl18:cs.length=18:=hl.trans (by kernel_rfl:Tryz.prog.cellsOf 41=18)
 have hlen3:xs.length=3:=hlen.trans rfl
 obtain ⟨y0,y1,y2,rfl⟩:∃ a b c,xs=[a,b,c]:=by
  match xs,hlen3 with
  | [a,b,c],_=>exact ⟨a,b,c,rfl⟩
 have e6:Tryz.prog.cellsOf 39=6:=by kernel_rfl
 have h0:DataW.trod enc Tryz.prog W 0 (fun _=>true) true n' 39 ((cs.drop 0).take (Tryz.prog.cellsOf 39))=[y0,y1,y2][0]?:=hf 0 _ rfl
 have h1:DataW.trod enc Tryz.prog W 0 (fun _=>true) true n' 39 ((cs.drop 6).take (Tryz.prog.cellsOf 39))=[y0,y1,y2][1]?:=hf 1 _ rfl
 have h2:DataW.trod enc Tryz.prog W 0 (fun _=>true) true n' 39 ((cs.drop 12).take (Tryz.prog.cellsOf 39))=[y0,y1,y2][2]?:=hf 2 _ rfl
 rw [e6] at h0 h1 h2
 have hall:Rows.uptoBulk y0.1+(Rows.uptoBulk y1.1+(Rows.uptoBulk y2.1+0))+1≤B:=hB
 obtain ⟨k0,b0,m0,t0,x0,q0,p0,e0,f0,d0⟩:=zc7 B hBB h0 (by omega)
 obtain ⟨k1,b1,m1,t1,x1,q1,p1,e1,f1,d1⟩:=zc7 B hBB h1 (by omega)
 obtain ⟨k2,b2,m2,t2,x2,q2,p2,e2,f2,d2⟩:=zc7 B hBB h2 (by omega)
 have part:∀ (o:Nat) (L:List Value),(cs.drop o).take 6=L→L.length=6→∀ g off,(∀ j,j < 18→W.cell? ⟨g,off+j,none⟩=cs[j]?)→o+6≤18→∀ j v,L[j]?=some v→W.cell? ⟨g,off+o+j,none⟩=some v:=by
  intro o L hL hL6 g off hc ho j v hv
  have hj:j < 6:=by rw [← hL6];exact (List.getElem?_eq_some_iff.1 hv).1
  rw [← hL,List.getElem?_take,if_pos hj,List.getElem?_drop] at hv
  rw [Nat.add_assoc,hc (o+j) (by omega),hv]
 refine ⟨⟨.mk k0 b0 m0 t0 x0 q0,.mk k1 b1 m1 t1 x1 q1,.mk k2 b2 m2 t2 x2 q2⟩,fun g off hc=>⟨zc8 (part 0 _ e0 rfl g off hc (by omega)) f0 d0,zc8 (part 6 _ e1 rfl g off hc (by omega)) f1 d1,zc8 (part 12 _ e2 rfl g off hc (by omega)) f2 d2⟩⟩
theorem znb {W:World} {B n ty ety size:Nat} {L:Value} {y:DataW H × List MemPlace} (hu:Tryz.prog.underlying ty=some (.slice ety)) (hsz:Tryz.prog.cellsOf ety=size) (h0s:0 < size)
 (h:DataW.trod enc Tryz.prog W 0 (fun _=>true) true n ty [L]=some y) (hB:Rows.uptoBulk y.1≤B):
 ∃ p len cap,L=.slice p len cap∧len≤B∧(len=0∨∃ g off,p=some ⟨g,off,none⟩∧∀ i,i < len→∃ n' cs yi,DataW.trod enc Tryz.prog W 0 (fun _=>true) true n' ety cs=some yi∧Rows.uptoBulk yi.1≤B∧∀ j,j < size→W.cell? ⟨g,off+i*size+j,none⟩=cs[j]?):=by
 cases n with
 | zero=>simp [DataW.trod] at h
 | succ n0=>
   rcases DataW.trod_slice hu h with ⟨e,_⟩ | ⟨a,len,cap,elems,rest,n1,hn,e,rfl,hb,hl,hm,hlen,hel,_,_⟩
   ·obtain rfl:L=.slice none 0 0:=by simpa using e
    exact ⟨none,0,0,rfl,Nat.zero_le _,.inl rfl⟩
   ·obtain rfl:L=.slice (some a) len cap:=by simpa using e
    rw [hsz] at hel
    have hE1:Rows.uptoBulkAll (elems.map (·.1))+Rows.uptoBulkAll (rest.map (·.1))+1≤B:=hB
    have hE:Rows.uptoBulkAll (elems.map (·.1))≤B:=by omega
    have hln:len≤B:=by
     have:=zn6 (elems.map (·.1))
     simp only [List.length_map] at this
     omega
    have each:∀ i,i < len→∃ n' cs yi,DataW.trod enc Tryz.prog W 0 (fun _=>true) true n' ety cs=some yi∧Rows.uptoBulk yi.1≤B∧∀ j,j < size→W.cell? ((a.add (i*size)).add j)=cs[j]?∧cs.length=size:=by
     intro i hi
     have h1:=hel i hi
     have hi':i < elems.length:=by omega
     rw [List.getElem?_eq_getElem hi',Option.bind_eq_some_iff] at h1
     obtain ⟨cs,hcs,hy⟩:=h1
     obtain ⟨c1,c2⟩:=zna hcs
     exact ⟨_,cs,_,hy,Nat.le_trans (zfi (List.mem_map_of_mem (List.getElem_mem hi'))) hE,fun j hj=>⟨c2 j hj,c1⟩⟩
    refine ⟨some a,len,cap,rfl,hln,?_⟩
    by_cases h0:len=0
    ·exact .inl h0
    ·right
     have hsp:a.spot=none:=by
      obtain ⟨n',cs,yi,_,_,hc⟩:=each 0 (by omega)
      have hc0:=hc 0 h0s
      obtain ⟨z,hz⟩:∃ z,cs[0]?=some z:=⟨_,List.getElem?_eq_getElem (by rw [hc0.2];exact h0s)⟩
      have h0:=hc0.1.trans hz
      cases kk:a.spot with
      | none=>rfl
      | some mm=>
        rw [show (a.add (0*size)).add 0=a by simp [Addr.add]] at h0
        unfold World.cell? at h0
        rw [kk] at h0
        split at h0 <;> simp at h0
     obtain ⟨g,off,spot⟩:=a
     simp only at hsp
     subst hsp
     refine ⟨g,off,rfl,fun i hi=>?_⟩
     obtain ⟨n',cs,yi,h1,h2,h3⟩:=each i hi
     refine ⟨n',cs,yi,h1,h2,fun j hj=>?_⟩
     have:=(h3 j hj).1
     rwa [zi1,zi1] at this
theorem zp8 {W:World} (B:Nat) (hBB:B≤2097152) {n:Nat} {L:Value} {y:DataW H × List MemPlace} (h:DataW.trod enc Tryz.prog W 0 (fun _=>true) true n 22 [L]=some y) (hB:Rows.uptoBulk y.1≤B):
 ∃ l,Tris W L l∧l.length≤B:=by
 obtain ⟨p,len,cap,rfl,hln,hh⟩:=znb (B:=B) (size:=18) Tryz.underlying22 (by kernel_rfl) (by omega) h hB
 rcases hh with rfl | ⟨g,off,rfl,each⟩
 ·exact ⟨[],⟨p,cap,rfl,fun e=>absurd rfl e⟩,Nat.zero_le _⟩
 ·have build:∀ m,m≤len→∃ l:List Tri3,l.length=m∧zaq W g (off+(len - m)*18) (flat l):=by
   intro m
   induction m with
   | zero=>exact fun _=>⟨[],rfl,by rw [zdp];unfold zaq;trivial⟩
   | succ m ih=>
     intro hm1
     obtain ⟨l,hll,hh⟩:=ih (by omega)
     obtain ⟨n',cs,yi,h1,h2,h3⟩:=each (len - (m+1)) (by omega)
     obtain ⟨t,ht⟩:=zro B hBB h1 h2
     obtain ⟨t1,t2,t3⟩:=ht g _ h3
     refine ⟨t::l,by simp [hll],?_⟩
     rw [zbv]
     unfold zaq
     refine ⟨t1,?_⟩
     unfold zaq
     refine ⟨t2,?_⟩
     unfold zaq
     refine ⟨t3,?_⟩
     rw [show off+(len - (m+1))*18+6+6+6=off+(len - m)*18 by omega]
     exact hh
  obtain ⟨l,hll,hh⟩:=build len (Nat.le_refl _)
  rw [Nat.sub_self,Nat.zero_mul,Nat.add_zero] at hh
  exact ⟨l,⟨_,cap,by rw [hll],fun _=>⟨g,off,rfl,hh⟩⟩,by omega⟩
end
end Go.Proofs.YtanbgdhmfjgihaaGreatDoor
