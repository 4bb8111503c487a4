/- Texts of one kind, one behind the other: each says ahead of itself what it shows. -/
import Derived.Test.YtanbgdhmfjgihaaGreatDoorTaf
import Derived.Test.YtanbgdhmfjgihaaGreatDoorTaa
import Derived.Deep.RegionHeld3
import Derived.Deep.RegionWith
import Derived.Test.YtanbgdhmfjgihaaGreatDoorTad
import Derived.Deep.WholeRow
import Derived.Laws.IdiomStrings
import Derived.WalkMore
import Derived.Deep.LoopGhost
import Derived.OwnWalk
namespace Go.Proofs.YtanbgdhmfjgihaaGreatDoor
open Go.RowKit
set_option maxHeartbeats 12800000
set_option maxRecDepth 20000
def sv (n:Bool) (x:Nat):Int:=if n then -(x:Int) else x
def zc2 (l:List UInt8):Bool:=((zcg l).getD (false,[],[])).1
def damt (l:List UInt8):Nat:=ze8 ((zcg l).getD (false,[],[])).2.1 ((zcg l).getD (false,[],[])).2.2
def dval (l:List UInt8):Int:=sv (zc2 l) (damt l)
def txt (z:Int):Option (List UInt8):=wrN (decide (z < 0)) z.natAbs
theorem wr_zero (n m:Bool) (a b:List UInt8) (ha:a.all za1=true) (hb:b.all za1=true) (h1:valD a=0) (h2:valD b=0):wr n a b=wr m a b:=by
 unfold wr
 simp only [(zki ha).2 h1,(zkj hb).2 h2,List.append_nil,List.isEmpty_nil,Bool.not_true,Bool.and_false]
theorem wrN_sv (r:Bool) (x:Nat):wrN r x=txt (sv r x):=by
 unfold txt sv
 cases r
 ·simp only [Bool.false_eq_true,if_false]
  rw [Int.natAbs_natCast,decide_eq_false (by omega)]
 ·simp only [if_true]
  rw [Int.natAbs_neg,Int.natAbs_natCast]
  by_cases h:x=0
  ·subst h
   exact wr_zero _ _ _ _ (ze0 _ _ _) (ze0 _ _ _) (by simp [ze1]) (by simp [ze1])
  ·rw [decide_eq_true (by omega)]
theorem zpo (a b:List UInt8) (ha:a.all za1=true) (hb:b.all za1=true) (la:a.length≤40) (lb:b.length≤20):ze8 a b < 10 ^ 94∧ze8 a b % 10 ^ 34=0:=by
 have h1:=zhm a ha
 have h2:=zhm b hb
 have h3:10 ^ a.length≤10 ^ 40:=Nat.pow_le_pow_right (by omega) la
 have h4:valD b*10 ^ (54 - b.length) < 10 ^ b.length*10 ^ (54 - b.length):=Nat.mul_lt_mul_of_pos_right h2 (Nat.pow_pos (by omega))
 rw [← Nat.pow_add,show b.length+(54 - b.length)=54 by omega] at h4
 unfold ze8
 constructor
 ·have h5:(valD a+1)*10 ^ 54≤10 ^ 40*10 ^ 54:=Nat.mul_le_mul_right _ (by omega)
  rw [← Nat.pow_add,Nat.add_mul] at h5
  omega
 ·have e1:10 ^ 54=10 ^ 20*10 ^ 34:=by rw [← Nat.pow_add]
  have e2:10 ^ (54 - b.length)=10 ^ (20 - b.length)*10 ^ 34:=by rw [← Nat.pow_add];congr 1;omega
  rw [e1,e2,← Nat.mul_assoc,← Nat.mul_assoc,← Nat.add_mul,Nat.mul_mod_left]
theorem zpp (l:List UInt8) (h:chk l=true):txt (dval l)=some l∧damt l < 10 ^ 94∧damt l % 10 ^ 34=0∧(zc2 l=true→damt l≠0)∧
 ∃ a b,zcg l=some (zc2 l,a,b)∧a.all za1=true∧b.all za1=true∧a.length≤40∧b.length≤20∧damt l=ze8 a b:=by
 obtain ⟨n,a,b,hsp,ha,hb,la,lb,hw,hz⟩:=zn2 l h
 have e1:zc2 l=n:=by unfold zc2;rw [hsp];rfl
 have e2:damt l=ze8 a b:=by unfold damt;rw [hsp];rfl
 obtain ⟨f1,f2⟩:=zpo a b ha hb la lb
 have hlt:=zhm a ha
 have h90:10 ^ a.length≤10 ^ 90:=Nat.pow_le_pow_right (by omega) (by omega)
 refine ⟨?_,by rw [e2];exact f1,by rw [e2];exact f2,?_,a,b,by rw [e1];exact hsp,ha,hb,la,lb,e2⟩
 ·unfold dval
  rw [← wrN_sv,e1,e2,← hw,wr_wrN n a b ha hb (by omega) (by omega)]
  rfl
 ·rw [e1,e2]
  intro hn h0
  apply hz hn
  unfold ze8 at h0
  have p1:0 < 10 ^ (54 - b.length):=Nat.pow_pos (by omega)
  rcases Nat.add_eq_zero_iff.1 h0 with ⟨q1,q2⟩
  rw [Nat.mul_eq_zero] at q1 q2
  exact ⟨by omega,by omega⟩
theorem zkk {fn:Func} {p q:Tmp} (h:fn.results=#[.cell p 229,.tmp q]) (tmps:Array Value) {w:World} {g:Nat} {c:Array Value} {n:Bool} {f:Nat→Nat} (v:Value)
 (hp:tmps.getD p undef=.pointer (some ⟨g,0,none⟩)) (hq:tmps.getD q undef=v) (hg:Lies w g c n f):(results fn tmps).run Tryz.prog w=.ok (.tuple #[.agg c,v]) w:=by
 have hp':tmps[p]?.getD undef=.pointer (some ⟨g,0,none⟩):=by simpa using hp
 have hq':tmps[q]?.getD undef=v:=by simpa using hq
 have hl:=run_loadVar_row (P:=Tryz.prog) w g 229 229 c (0,0) _ hg.1 Tryz.underlying229 rfl (by rw [hg.2.size];exact zin)
 simp [results,h,hp',hq',asAddr,hl]
theorem zh8 {fn:Func} {p p2 q:Tmp} (h:fn.results=#[.cell p 229,.cell p2 229,.tmp q]) (tmps:Array Value) {w:World} {g g2:Nat} {c c2:Array Value} {n n2:Bool} {f f2:Nat→Nat} (v:Value)
 (hp:tmps.getD p undef=.pointer (some ⟨g,0,none⟩)) (hp2:tmps.getD p2 undef=.pointer (some ⟨g2,0,none⟩)) (hq:tmps.getD q undef=v) (hg:Lies w g c n f) (hg2:Lies w g2 c2 n2 f2):(results fn tmps).run Tryz.prog w=.ok (.tuple #[.agg c,.agg c2,v]) w:=by
 have hp':tmps[p]?.getD undef=.pointer (some ⟨g,0,none⟩):=by simpa using hp
 have hp2':tmps[p2]?.getD undef=.pointer (some ⟨g2,0,none⟩):=by simpa using hp2
 have hq':tmps[q]?.getD undef=v:=by simpa using hq
 have hl:=run_loadVar_row (P:=Tryz.prog) w g 229 229 c (0,0) _ hg.1 Tryz.underlying229 rfl (by rw [hg.2.size];exact zin)
 have hl2:=run_loadVar_row (P:=Tryz.prog) w g2 229 229 c2 (0,0) _ hg2.1 Tryz.underlying229 rfl (by rw [hg2.2.size];exact zin)
 simp [results,h,hp',hp2',hq',asAddr,hl,hl2]
def zxy (n:Bool):Array Value:=#[.bool n,.int .u32 0,.int .u32 0,.int .u32 0,.int .u32 0,.int .u32 0,.int .u32 0,.int .u32 0,.int .u32 0,.int .u32 0,.int .u32 0,.int .u32 0,.int .u32 0,.int .u32 0,.int .u32 0,.int .u32 0,.int .u32 0]
theorem zsj (n:Bool):zbz (zxy n) n (fun _=>0):=
 ⟨rfl,fun j hj=>by have:=zlm.word j hj;rw [Nat.add_comm] at this ⊢;exact this,rfl,fun j _=>by decide⟩
theorem ztw (w:World) (n:Bool) {g:Nat} (e:w.heap.size=g):Lies (w.alloc (.cells #[.bool n,.int .u32 0,.int .u32 0,.int .u32 0,.int .u32 0,.int .u32 0,.int .u32 0,.int .u32 0,.int .u32 0,.int .u32 0,.int .u32 0,.int .u32 0,.int .u32 0,.int .u32 0,.int .u32 0,.int .u32 0,.int .u32 0] 229)) g (zxy n) n (fun _=>0):=
 ⟨zah _ _ e,zsj n⟩
theorem zfa {ops:Array Oper} {S:World→Prop} {op:Oper} {a:Act} (hw:Region.wanted op (yielded ops a.tmps)=true) (x:Operand) (ho:op.op=.load 229 x)
 (g:Nat) (hx:a.eval x=.pointer (some ⟨g,0,none⟩)) (c:Array Value) (n:Bool) (f:Nat→Nat) (hS:∀ w,S w→Lies w g c n f):YieldsIf Tryz.prog ops S op (.agg c) a:=
 .inl ⟨hw,fun w hw'=>by
  unfold execOp
  simp only [ho,hx,Instr.loadAt,Instr.sureAddr,Sem.run_bind,Sem.run_pure,Result.andThen_ok,run_loadVar_row (P:=Tryz.prog) w g 229 229 c (0,0) _ (hS w hw').1 Tryz.underlying229 rfl (by rw [(hS w hw').2.size];exact zin)]⟩
theorem storeN {w:World} {g:Nat} {c c':Array Value} {n n':Bool} {f f':Nat→Nat} (h:Lies w g c n f) (k:zbz c' n' f'):(Instr.storeAt 229 (.pointer (some ⟨g,0,none⟩)) (.agg c')).run Tryz.prog w=.ok () (w.setRow g c'):=by
 simp only [Instr.storeAt,Instr.sureAddr,Sem.run_bind,Sem.run_pure,Result.andThen_ok]
 exact run_storeVar_row (P:=Tryz.prog) w g 229 229 c c' h.1 (by rw [k.size];exact zin) (by rw [h.2.size,k.size]) k.one
theorem zn3 {op:Oper} {a:Act} {w:World} {K:Act→World→Prop} {Q:Exit→Act→World→Prop} (x y:Operand) (ho:op.op=.store 229 x y) (g:Nat) {c c':Array Value} {n n':Bool} {f f':Nat→Nat}
 (hx:a.eval x=.pointer (some ⟨g,0,none⟩)) (hy:a.eval y=.agg c') (hl:Lies w g c n f) (hn:zbz c' n' f') (h:∀ w',Only g w w'→Lies w' g c' n' f'→K (a.put op.dst undef) w'):op.wp Tryz.prog a w K Q:=by
 unfold Oper.wp execOp
 simp only [ho,hx,hy,storeN hl hn,Sem.run_bind,Sem.run_pure,Result.andThen_ok]
 exact h _ (Only.setRow w c') ⟨za6 hl.1,hn⟩
def ten (e:Nat):Nat:=10 ^ e
theorem powTen (e:Int) (w:World) (h0:0≤e) (h9:e≤8):
 Calls Tryz.prog 229 #[.int .i64 e] w fun r w'=>r=.returned (.int .u32 (ten e.toNat))∧Low w.heap.size w w':=by
 have he:e=0∨e=1∨e=2∨e=3∨e=4∨e=5∨e=6∨e=7∨e=8:=by omega
 rcases he with rfl | rfl | rfl | rfl | rfl | rfl | rfl | rfl | rfl
 all_goals
  go_enter Tryz.func229,Tryz.ntmps229
  go_wp2
  go_ret
  exact ⟨by simp [ten],(Low.refl _ _).alloc (Nat.le_refl _) _⟩
def ztx (b o:Nat) (v:Value) (w:World):Prop:=w.cell? ⟨b,o,none⟩=some v∧w.frozen? ⟨b,o,none⟩=false∧b < w.heap.size
theorem ztx.below {b o:Nat} {v:Value} {w w':World} (h:ztx b o v w) (k:Below w.heap.size w w'):ztx b o v w':=
 ⟨(k.cell (p:=⟨b,o,none⟩) h.2.2).trans h.1,(k.frozen (p:=⟨b,o,none⟩) h.2.2).trans h.2.1,Nat.lt_of_lt_of_le h.2.2 k.size⟩
theorem powTenT (t e:Int) (w:World) (h0:0≤e) (h9:e≤8) (H:Hid (t=ten e.toNat)):
 Calls Tryz.prog 229 #[.int .i64 e] w fun r w'=>r=.returned (.int .u32 t)∧Low w.heap.size w w':=by
 rw [H.out];exact powTen e w h0 h9
theorem putAt (b:Nat) (c:Array Value) (n:Bool) (f:Nat→Nat) (p d:Int) (w:World) (hb:w.heap[b]?=some (.cells c 229)) (hc:zbz c n f)
 (hp0:0≤p) (hp:p≤143) (hd0:48≤d) (hd:d≤57) (hroom:(f (p / 9).toNat:Int)+(d - 48)*ten (p % 9).toNat < 1000000000):
 Calls Tryz.prog 223 #[.pointer (some ⟨b,0,none⟩),.int .i64 p,.int .u8 d] w fun e w'=>e=.returned (.tuple #[])∧Only b w w'∧
  ∃ c',w'.heap[b]?=some (.cells c' 229)∧zbz c' n (upd f (p / 9).toNat (f (p / 9).toNat+(d - 48).toNat*ten (p % 9).toNat)):=by
 have hsz:=zac hb
 have hj:(p / 9).toNat < 16:=by omega
 have hp9:p / 9 < 16:=by omega
 have hp8:0≤p / 9:=by omega
 have hx:w.cell? ⟨b,1+(p / 9).toNat,none⟩=some (.int .u32 (f (p / 9).toNat)):=zab hb _ (hc.word _ hj)
 have hf:w.frozen? ⟨b,1+(p / 9).toNat,none⟩=false:=za9 hb _
 have hlt:f (p / 9).toNat < 1000000000:=hc.lt _ hj
 have m0:0≤p % 9:=by omega
 have m8:p % 9≤8:=by omega
 obtain ⟨x,hx'⟩:∃ x:Int,x=f (p / 9).toNat:=⟨_,rfl⟩
 have hx0:0≤x:=by omega
 have hx9:x < 1000000000:=by omega
 rw [← hx'] at hx
 obtain ⟨t,ht⟩:∃ t:Int,t=ten (p % 9).toNat:=⟨_,rfl⟩
 rw [← hx',← ht] at hroom
 have ht1:1≤t:=by rw [ht];unfold ten;have:=Nat.pow_pos (n:=(p % 9).toNat) (show 0 < 10 by omega);omega
 obtain ⟨y,hy⟩:∃ y:Int,y=(d - 48)*t:=⟨_,rfl⟩
 have hy0:0≤y:=by rw [hy];exact Int.mul_nonneg (by omega) (by omega)
 rw [← hy] at hroom
 have HT:=Lib.hid ht
 have HX:=Lib.hid hx'
 clear ht hx'
 have e5:IntKind.u8.wrap (d - 48)=d - 48:=IntWalk.u8_in _ (by omega)
 have e6:IntKind.u32.wrap (d - 48)=d - 48:=IntWalk.u32_in _ (by omega)
 have e7:IntKind.u32.wrap y=y:=IntWalk.u32_in _ (by omega)
 have e8:IntKind.u32.wrap (x+y)=x+y:=IntWalk.u32_in _ (by omega)
 have e3:IntKind.i64.wrap (p / 9)=p / 9:=IntWalk.i64_in _ (by omega)
 have e1:p.tdiv 9=p / 9:=Int.tdiv_eq_ediv_of_nonneg hp0
 have e2:p.tmod 9=p % 9:=Int.tmod_eq_emod_of_nonneg hp0
 have e4:(d - 48)*t=y:=hy.symm
 have HY:=Lib.hid hy
 clear hy
 go_enter Tryz.func223,Tryz.ntmps223
 go_wp2_with fail
 go_region_with (go_at_call 229;refine (powTenT t (p % 9) _ m0 m8 HT).mono ?_;rintro e w' ⟨rfl,hbel⟩;have hx2:=(hbel.cell (p:=⟨b,1+(p / 9).toNat,none⟩) hsz).trans hx;have hf2:=(hbel.frozen (p:=⟨b,1+(p / 9).toNat,none⟩) hsz).trans hf)
 all_goals
  go_wp2
  go_end0
  have hv:x+y=((f (p / 9).toNat+(d - 48).toNat*ten (p % 9).toNat:Nat):Int):=by
   rw [HX.out,HY.out,HT.out,Int.natCast_add,Int.natCast_mul,Int.toNat_of_nonneg (by omega)]
  have hw1:w'.heap[b]?=some (.cells c 229):=(hbel.block b hsz).trans hb
  refine ⟨rfl,((Only.refl b w).drew.trans (Only.of_low (b:=b) hbel)).setCell _ _ _,_,zaz hw1 _ _,?_⟩
  have hval:f (p / 9).toNat+(d - 48).toNat*ten (p % 9).toNat < BASE:=by unfold BASE;omega
  rw [hv]
  exact hc.set hj hval
theorem zqx (j:Nat):BASE ^ j=10 ^ (9*j):=by
 rw [Nat.pow_mul];rfl
theorem zqy (j:Nat):0 < BASE ^ j:=Nat.pow_pos (by decide)
theorem limb_N (f:Nat→Nat) (hf:zd7 f) (j:Nat):∀ n,j < n→n≤16→vN n f / BASE ^ j % BASE=f j:=by
 intro n
 induction n with
 | zero=>intro h;omega
 | succ n ih=>
   intro h hn
   by_cases e:j=n
   ·subst e
    have:=vN_lt f hf j (by omega)
    simp only [vN]
    rw [Nat.add_mul_div_right _ _ (zqy j),Nat.div_eq_of_lt this,Nat.zero_add,Nat.mod_eq_of_lt (hf j (by omega))]
   ·have hlt:j < n:=by omega
    rw [← ih hlt (by omega)]
    simp only [vN]
    obtain ⟨d,rfl⟩:∃ d,n=j+1+d:=⟨n - (j+1),by omega⟩
    have e:f (j+1+d)*BASE ^ (j+1+d)=(f (j+1+d)*BASE ^ d*BASE)*BASE ^ j:=by
     rw [Nat.pow_add,Nat.pow_succ]
     generalize BASE ^ d=x
     generalize BASE ^ j=y
     ac_rfl
    rw [e,Nat.add_mul_div_right _ _ (zqy j),Nat.add_mul_mod_self_right]
theorem zwc (f:Nat→Nat) (hf:zd7 f) (j:Nat) (hj:j < 16):f j=wval f / BASE ^ j % BASE:=(limb_N f hf j 16 hj (Nat.le_refl _)).symm
theorem vN_updv (f:Nat→Nat) (j v:Nat):∀ n,j < n→vN n (upd f j v)+f j*BASE ^ j=vN n f+v*BASE ^ j:=by
 intro n
 induction n with
 | zero=>intro h;omega
 | succ n ih=>
   intro h
   by_cases e:j=n
   ·subst e
    simp only [vN,zmn,vN_upd _ _ _ _ (Nat.le_refl _)];omega
   ·have:=ih (by omega)
    simp only [vN,zd8 f v (show n≠j by omega)];omega
theorem zqz (f:Nat→Nat) (j v:Nat) (hj:j < 16):wval (upd f j v)+f j*BASE ^ j=wval f+v*BASE ^ j:=vN_updv f j v 16 hj
theorem room (f:Nat→Nat) (hf:zd7 f) (M p:Nat) (hp:p < 144) (h:wval f=M*10 ^ (p+1)):f (p / 9)+9*10 ^ (p % 9) < BASE:=by
 rw [zwc f hf (p / 9) (by omega),zqx,h]
 have e:10 ^ (p+1)=10 ^ (p % 9+1)*10 ^ (9*(p / 9)):=by rw [← Nat.pow_add];congr 1;omega
 rw [e,← Nat.mul_assoc,Nat.mul_div_cancel _ (Nat.pow_pos (by omega))]
 obtain ⟨r,hr⟩:∃ r,r=p % 9:=⟨_,rfl⟩
 rw [← hr]
 have hr9:r≤8:=by omega
 have eb:BASE=10 ^ (r+1)*10 ^ (8 - r):=by rw [← Nat.pow_add,show r+1+(8 - r)=9 by omega];rfl
 rw [Nat.mul_comm M,eb,Nat.mul_mod_mul_left]
 have h1:M % 10 ^ (8 - r) < 10 ^ (8 - r):=Nat.mod_lt _ (Nat.pow_pos (by omega))
 have h2:10 ^ (r+1)*(M % 10 ^ (8 - r)+1)≤10 ^ (r+1)*10 ^ (8 - r):=Nat.mul_le_mul_left _ h1
 rw [Nat.mul_add,Nat.mul_one,Nat.pow_succ] at h2
 have h3:0 < 10 ^ r:=Nat.pow_pos (by omega)
 rw [Nat.pow_succ]
 omega
theorem put_val (f:Nat→Nat) (p d:Nat) (hp:p < 144):wval (upd f (p / 9) (f (p / 9)+d*10 ^ (p % 9)))=wval f+d*10 ^ p:=by
 have:=zqz f (p / 9) (f (p / 9)+d*10 ^ (p % 9)) (by omega)
 have e:d*10 ^ (p % 9)*BASE ^ (p / 9)=d*10 ^ p:=by
  rw [zqx,Nat.mul_assoc,← Nat.pow_add];congr 2;omega
 rw [Nat.add_mul,e] at this
 omega
theorem zty (g:Nat) (c:Array Value) (n:Bool) (f:Nat→Nat) (M q x:Nat) (p d:Int) (w:World) (hl:Lies w g c n f) (hpq:p=q) (hp:q≤143) (hd0:d=48+x) (hd:x≤9) (hv:wval f=M*10 ^ (q+1)):
 Calls Tryz.prog 223 #[.pointer (some ⟨g,0,none⟩),.int .i64 p,.int .u8 d] w fun e w'=>e=.returned (.tuple #[])∧Only g w w'∧
  ∃ c' f',Lies w' g c' n f'∧wval f'=(M*10+x)*10 ^ q:=by
 subst hpq hd0
 have hx:((48:Int)+x - 48).toNat=x:=by omega
 have e1:((q:Int) / 9).toNat=q / 9:=by omega
 have e2:((q:Int) % 9).toNat=q % 9:=by omega
 have hr:=room f hl.num.lt M q (by omega) hv
 have hroom:(f ((q:Int) / 9).toNat:Int)+((48:Int)+x - 48)*ten ((q:Int) % 9).toNat < 1000000000:=by
  rw [e1,e2]
  unfold ten
  have h1:x*10 ^ (q % 9)≤9*10 ^ (q % 9):=Nat.mul_le_mul_right _ (by omega)
  have h2:((48:Int)+x - 48)*((10 ^ (q % 9):Nat):Int)=((x*10 ^ (q % 9):Nat):Int):=by
   rw [Int.natCast_mul];congr 1;omega
  rw [h2]
  unfold BASE at hr
  omega
 refine (putAt g c n f q _ w hl.heap hl.num (by omega) (by omega) (by omega) (by omega) hroom).mono ?_
 rintro e w' ⟨rfl,ho,c',hh,hn⟩
 refine ⟨rfl,ho,c',_,lies_mk hh hn,?_⟩
 rw [e1,e2,hx]
 unfold ten
 rw [put_val f q _ (by omega),hv,Nat.add_mul,Nat.pow_succ]
 congr 1
 ac_rfl
theorem zq0 (l:List UInt8) (k:Nat) (h:k < l.length):valD (l.take (k+1))=valD (l.take k)*10+(l[k].toNat - 48):=by
 rw [List.take_succ_eq_append_getElem h,zbv]
 simp [valD]
theorem zhp (A:ByteArray) (k:Nat) (h:k < A.size):A[k]=A.data.toList[k]'(by simpa using h):=by
 simp [ByteArray.getElem_eq_getElem_data]
theorem zq1 (A:ByteArray) (hA:A.data.toList.all za1=true) (k:Nat) (h:k < A.size):48≤A[k].toNat∧A[k].toNat≤57:=by
 rw [zhp A k h]
 exact zlu (List.all_eq_true.1 hA _ (List.getElem_mem _))
theorem zwd (s A B:ByteArray) (n:Bool) (w:World) (hG:Gd w) (hs:s.size < 4294967281) (h:chk s.data.toList=true) (hsp:zcg s.data.toList=some (n,A.data.toList,B.data.toList))
 (hA:A.data.toList.all za1=true) (hB:B.data.toList.all za1=true) (lA:A.size≤40) (lB:B.size≤20):
 Calls Tryz.prog 213 #[.string s] w fun e w'=>∃ c f,e=.returned (.tuple #[.agg c,.bool true])∧zbz c n f∧wval f=ze8 A.data.toList B.data.toList∧Low w.heap.size w w':=by
 have hc:∀ W,Gd W→Calls Tryz.prog 108 #[.string s] W fun e w'=>e=.returned (.bool true)∧Low W.heap.size W w':=fun W hW=>by
  have:=zmp s W hW hs
  rwa [h] at this
 have hc2:∀ W,Gd W→Calls Tryz.prog 178 #[.string s] W fun e w'=>e=.returned (.tuple #[.bool n,.string A,.string B,.bool true])∧Low W.heap.size W w':=fun W hW=>by
  have:=zpk s W hW hs
  rw [hsp] at this
  exact this
 have HC:=Lib.hid hc
 have HS:=Lib.hid hc2
 clear hc h hc2 hsp
 have l0:=zea w rfl
 have g0:=hG.alloc (.cells #[.bool false,.int .u32 0,.int .u32 0,.int .u32 0,.int .u32 0,.int .u32 0,.int .u32 0,.int .u32 0,.int .u32 0,.int .u32 0,.int .u32 0,.int .u32 0,.int .u32 0,.int .u32 0,.int .u32 0,.int .u32 0,.int .u32 0] 229)
 have b0:=(Low.refl w.heap.size w).alloc (Nat.le_refl _) (.cells #[.bool false,.int .u32 0,.int .u32 0,.int .u32 0,.int .u32 0,.int .u32 0,.int .u32 0,.int .u32 0,.int .u32 0,.int .u32 0,.int .u32 0,.int .u32 0,.int .u32 0,.int .u32 0,.int .u32 0,.int .u32 0,.int .u32 0] 229)
 go_enter Tryz.func213,Tryz.ntmps213
 go_wp2_with (first
  |(go_at_call 108;(with_reducible refine (HC.out _ g0).mono ?_);rintro e w1 ⟨rfl,hb⟩;have l1:=l0.below hb.is;have b1:=zad b0 hb (Nat.le_of_lt l0.lt);have g1:=g0.below hb.is)
  |(go_at_call 178;(with_reducible refine (HS.out _ g1).mono ?_);rintro e w2 ⟨rfl,hb2⟩;have l2:=l1.below hb2.is;have b2:=zad b1 hb2 (Nat.le_of_lt l1.lt)))
 have l3:=ztw w2 n rfl
 have k3:=l2.alloc (.cells #[.bool n,.int .u32 0,.int .u32 0,.int .u32 0,.int .u32 0,.int .u32 0,.int .u32 0,.int .u32 0,.int .u32 0,.int .u32 0,.int .u32 0,.int .u32 0,.int .u32 0,.int .u32 0,.int .u32 0,.int .u32 0,.int .u32 0] 229)
 have b3:=b2.alloc (Nat.le_of_lt l2.lt) (.cells #[.bool n,.int .u32 0,.int .u32 0,.int .u32 0,.int .u32 0,.int .u32 0,.int .u32 0,.int .u32 0,.int .u32 0,.int .u32 0,.int .u32 0,.int .u32 0,.int .u32 0,.int .u32 0,.int .u32 0,.int .u32 0,.int .u32 0] 229)
 have hne:w.heap.size≠w2.heap.size:=Nat.ne_of_lt l2.lt
 have hle:w.heap.size≤w2.heap.size:=Nat.le_of_lt l2.lt
 go_loopw [26] (fun i wr=>∃ (k:Nat) (c:Array Value) (f:Nat→Nat),k≤A.size∧i=.int .i64 k∧Lies wr w2.heap.size c n f∧Lies wr w.heap.size zhz false (fun _=>0)∧Low w.heap.size w wr∧wval f=valD (A.data.toList.take k)*10 ^ (54+A.size - k)) (fun i _=>A.size - (intOf i).toNat)
 case atStart=>
  exact ⟨0,_,_,Nat.zero_le _,rfl,l3,k3,b3,by simp [valD,wval,vN]⟩
 case round=>
  obtain ⟨k,c,f,hk,rfl,hl,hz,hbel,hv⟩:=hrel
  have HV:=Lib.hid hv
  clear hv
  by_cases hlt:k < A.size
  ·have hd:=zq1 A hA k hlt
   obtain ⟨x,hx⟩:∃ x,A[k].toNat=48+x:=⟨A[k].toNat - 48,by omega⟩
   have hx1:(A[k].toNat:Int)=48+x:=by omega
   have hx9:x≤9:=by omega
   have hd2:(A[k].toNat:Int)≤57:=by omega
   obtain ⟨q,hq⟩:∃ q,q=54+A.size - (k+1):=⟨_,rfl⟩
   have hq1:q≤143:=by omega
   have hnew:valD (A.data.toList.take (k+1))*10 ^ (54+A.size - (k+1))=(valD (A.data.toList.take k)*10+x)*10 ^ q:=by
    rw [zq0 _ k (by simpa using hlt),← hq,← zhp A k hlt]
    congr 2
    omega
   have hold:wval f=valD (A.data.toList.take k)*10 ^ (q+1):=by rw [HV.out];congr 2;omega
   have HQ:=Lib.hid hq
   have HN:=Lib.hid hnew
   have HO:=Lib.hid hold
   have HX:=Lib.hid hx1
   clear hd hx hq hnew hold hx1
   go_wp2_with (go_at_call 223;(with_reducible refine (zty _ _ _ _ (valD (A.data.toList.take k)) q x _ _ _ hl ?_ hq1 HX.out hx9 HO.out).mono ?_);(have:=HQ.out;omega);rintro e w3 ⟨rfl,ho,c',f',hl',hv'⟩;have HV':=Lib.hid hv';clear hv')
   go_roundw
   case rel=>exact ⟨k+1,c',f',by omega,by go_num,hl',hz.only ho hne,zbn hbel ho hle (Nat.le_of_lt hz.lt),by rw [HN.out];exact HV'.out⟩
   case measure=>simp [intOf];omega
  ·obtain rfl:k=A.size:=by omega
   have hv0:wval f=valD A.data.toList*10 ^ 54:=by
    have:=HV.out
    rw [List.take_of_length_le (by simp),show 54+A.size - A.size=54 by omega] at this
    exact this
   have HV0:=Lib.hid hv0
   clear hv0
   go_wp2_with fail
   obtain ⟨wo,rfl⟩:∃ wo:World,wo=wr:=⟨_,rfl⟩
   go_loopw [42] (fun i wr=>∃ (k:Nat) (c:Array Value) (f:Nat→Nat),k≤B.size∧i=.int .i64 k∧Lies wr w2.heap.size c n f∧Lies wr w.heap.size zhz false (fun _=>0)∧Low w.heap.size w wr∧wval f=(valD A.data.toList*10 ^ k+valD (B.data.toList.take k))*10 ^ (54 - k)) (fun i _=>B.size - (intOf i).toNat)
   case atStart=>exact ⟨0,c,f,Nat.zero_le _,rfl,hl,hz,hbel,by rw [HV0.out];simp [valD]⟩
   case round=>
    clear hl hz hbel HV HV0
    obtain ⟨k,c,f,hk,rfl,hl,hz,hbel,hv⟩:=hrel
    have HV:=Lib.hid hv
    clear hv
    by_cases hlt:k < B.size
    ·have hd:=zq1 B hB k hlt
     obtain ⟨x,hx⟩:∃ x,B[k].toNat=48+x:=⟨B[k].toNat - 48,by omega⟩
     have hx1:(B[k].toNat:Int)=48+x:=by omega
     have hx9:x≤9:=by omega
     have hd2:(B[k].toNat:Int)≤57:=by omega
     obtain ⟨q,hq⟩:∃ q,q=54 - (k+1):=⟨_,rfl⟩
     have hq1:q≤143:=by omega
     have hnew:(valD A.data.toList*10 ^ (k+1)+valD (B.data.toList.take (k+1)))*10 ^ (54 - (k+1))=((valD A.data.toList*10 ^ k+valD (B.data.toList.take k))*10+x)*10 ^ q:=by
      rw [zq0 _ k (by simpa using hlt),← hq,← zhp B k hlt,Nat.pow_succ]
      congr 1
      have:B[k].toNat - 48=x:=by omega
      rw [this,Nat.add_mul,Nat.mul_assoc]
      omega
     have hold:wval f=(valD A.data.toList*10 ^ k+valD (B.data.toList.take k))*10 ^ (q+1):=by rw [HV.out];congr 2;omega
     have HQ:=Lib.hid hq
     have HN:=Lib.hid hnew
     have HO:=Lib.hid hold
     have HX:=Lib.hid hx1
     clear hd hx hq hnew hold hx1
     go_wp2_with (go_at_call 223;(with_reducible refine (zty _ _ _ _ (valD A.data.toList*10 ^ k+valD (B.data.toList.take k)) q x _ _ _ hl ?_ hq1 HX.out hx9 HO.out).mono ?_);(have:=HQ.out;omega);rintro e w3 ⟨rfl,ho,c',f',hl',hv'⟩;have HV':=Lib.hid hv';clear hv')
     go_roundw
     case rel=>exact ⟨k+1,c',f',by omega,by go_num,hl',hz.only ho hne,zbn hbel ho hle (Nat.le_of_lt hz.lt),by rw [HN.out];exact HV'.out⟩
     case measure=>simp [intOf];omega
    ·obtain rfl:k=B.size:=by omega
     have hv0:wval f=ze8 A.data.toList B.data.toList:=by
      have:=HV.out
      rw [List.take_of_length_le (by simp)] at this
      rw [this]
      unfold ze8
      rw [Nat.add_mul,Nat.mul_assoc,← Nat.pow_add]
      have e:B.data.toList.length=B.size:=by simp
      rw [e]
      congr 3
      omega
     have HV0:=Lib.hid hv0
     clear hv0
     go_wp2_with (first
      |((with_reducible refine zd9 (.tmp 8) w2.heap.size (by assumption) ?_ ?_ ?_ ?_);rfl;rfl;rfl)
      |((with_reducible refine zci (.tmp 2) (.tmp 52) w.heap.size (by assumption) hl.num ?_ ?_ ?_ ?_ ?_);rfl;rfl;rfl;rfl;intro w5 ho5 m5;have b5:=zbn hbel ho5 (Nat.le_refl _) (Nat.le_of_lt hz.lt)))
     exact bodyPost_ret (v:=.tuple #[.agg c,.bool true]) (zkk (p:=2) (q:=3) Tryz.results213 _ (.bool true) rfl rfl m5) rfl ⟨c,f,rfl,hl.num,HV0.out,b5⟩
structure IsDigs (d:Array Value) (k N:Nat):Prop where
 size:d.size=144
 at_:∀ j,144 - k≤j→j < 144→d[j]?=some (.int .u8 ((zto N (143 - j)).toNat:Int))
theorem zq2 (s:ByteArray) (w:World) (hG:Gd w) (hs:s.size < 4294967281) (h:chk s.data.toList=true):
 Calls Tryz.prog 213 #[.string s] w fun e w'=>∃ c f,e=.returned (.tuple #[.agg c,.bool true])∧zbz c (zc2 s.data.toList) f∧wval f=damt s.data.toList∧Low w.heap.size w w':=by
 obtain ⟨n,a,b,hsp,ha,hb,la,lb,_,_⟩:=zn2 _ h
 have e1:zc2 s.data.toList=n:=by unfold zc2;rw [hsp];rfl
 have e2:damt s.data.toList=ze8 a b:=by unfold damt;rw [hsp];rfl
 rw [e1,e2]
 exact zwd s (bs a) (bs b) n w hG hs h hsp ha hb (by simpa [ByteArray.size] using la) (by simpa [ByteArray.size] using lb)
theorem bothYes (s t:ByteArray) (w:World) (hG:Gd w) (hs:s.size < 4294967281) (ht:t.size < 4294967281) (h:chk s.data.toList=true) (h2:chk t.data.toList=true):
 Calls Tryz.prog 205 #[.string s,.string t] w fun e w'=>∃ c d f g,e=.returned (.tuple #[.agg c,.agg d,.bool true])∧zbz c (zc2 s.data.toList) f∧wval f=damt s.data.toList∧
  zbz d (zc2 t.data.toList) g∧wval g=damt t.data.toList∧Low w.heap.size w w':=by
 have hc:∀ W,Gd W→Calls Tryz.prog 213 #[.string s] W fun e w'=>∃ c f,e=.returned (.tuple #[.agg c,.bool true])∧zbz c (zc2 s.data.toList) f∧wval f=damt s.data.toList∧Low W.heap.size W w':=fun W hW=>zq2 s W hW hs h
 have hc2:∀ W,Gd W→Calls Tryz.prog 213 #[.string t] W fun e w'=>∃ c f,e=.returned (.tuple #[.agg c,.bool true])∧zbz c (zc2 t.data.toList) f∧wval f=damt t.data.toList∧Low W.heap.size W w':=fun W hW=>zq2 t W hW ht h2
 have HC:=Lib.hid hc
 have HC2:=Lib.hid hc2
 generalize zc2 s.data.toList=sn at*
 generalize damt s.data.toList=sx at*
 generalize zc2 t.data.toList=tn at*
 generalize damt t.data.toList=tx at*
 clear hc hc2 h h2 hs ht
 have l1:Lies ((w.alloc (.cells #[.bool false,.int .u32 0,.int .u32 0,.int .u32 0,.int .u32 0,.int .u32 0,.int .u32 0,.int .u32 0,.int .u32 0,.int .u32 0,.int .u32 0,.int .u32 0,.int .u32 0,.int .u32 0,.int .u32 0,.int .u32 0,.int .u32 0] 229)).alloc (.cells #[.bool false,.int .u32 0,.int .u32 0,.int .u32 0,.int .u32 0,.int .u32 0,.int .u32 0,.int .u32 0,.int .u32 0,.int .u32 0,.int .u32 0,.int .u32 0,.int .u32 0,.int .u32 0,.int .u32 0,.int .u32 0,.int .u32 0] 229)) w.heap.size zhz false (fun _=>0):=(zea _ rfl).alloc _
 have l2:Lies ((w.alloc (.cells #[.bool false,.int .u32 0,.int .u32 0,.int .u32 0,.int .u32 0,.int .u32 0,.int .u32 0,.int .u32 0,.int .u32 0,.int .u32 0,.int .u32 0,.int .u32 0,.int .u32 0,.int .u32 0,.int .u32 0,.int .u32 0,.int .u32 0] 229)).alloc (.cells #[.bool false,.int .u32 0,.int .u32 0,.int .u32 0,.int .u32 0,.int .u32 0,.int .u32 0,.int .u32 0,.int .u32 0,.int .u32 0,.int .u32 0,.int .u32 0,.int .u32 0,.int .u32 0,.int .u32 0,.int .u32 0,.int .u32 0] 229)) (w.heap.size+1) zhz false (fun _=>0):=zea _ (by simp)
 have g0:=(hG.alloc (.cells #[.bool false,.int .u32 0,.int .u32 0,.int .u32 0,.int .u32 0,.int .u32 0,.int .u32 0,.int .u32 0,.int .u32 0,.int .u32 0,.int .u32 0,.int .u32 0,.int .u32 0,.int .u32 0,.int .u32 0,.int .u32 0,.int .u32 0] 229)).alloc (.cells #[.bool false,.int .u32 0,.int .u32 0,.int .u32 0,.int .u32 0,.int .u32 0,.int .u32 0,.int .u32 0,.int .u32 0,.int .u32 0,.int .u32 0,.int .u32 0,.int .u32 0,.int .u32 0,.int .u32 0,.int .u32 0,.int .u32 0] 229)
 have hb0:=((Low.refl w.heap.size w).alloc (Nat.le_refl _) (.cells #[.bool false,.int .u32 0,.int .u32 0,.int .u32 0,.int .u32 0,.int .u32 0,.int .u32 0,.int .u32 0,.int .u32 0,.int .u32 0,.int .u32 0,.int .u32 0,.int .u32 0,.int .u32 0,.int .u32 0,.int .u32 0,.int .u32 0] 229)).alloc (by simp) (.cells #[.bool false,.int .u32 0,.int .u32 0,.int .u32 0,.int .u32 0,.int .u32 0,.int .u32 0,.int .u32 0,.int .u32 0,.int .u32 0,.int .u32 0,.int .u32 0,.int .u32 0,.int .u32 0,.int .u32 0,.int .u32 0,.int .u32 0] 229)
 go_enter Tryz.func205,Tryz.ntmps205
 go_wp2_with (first
  |(go_at_call 213;(with_reducible refine (HC.out _ g0).mono ?_);rintro e w1 ⟨c,f,rfl,hn,hv,hb⟩;have HV:=Lib.hid hv;clear hv;have q1:=l1.below hb.is;have q2:=l2.below hb.is;have g1:=g0.below hb.is;have hb1:=zad hb0 hb (Nat.le_of_lt l1.lt))
  |((with_reducible refine zci (.tmp 4) (.tmp 10) w.heap.size (by assumption) hn ?_ ?_ ?_ ?_ ?_);rfl;rfl;rfl;rfl;intro w2 ho p1;have p2:=q2.only ho (by omega);have hb2:=zbn hb1 ho (Nat.le_refl _) (Nat.le_of_lt q1.lt);have g2:Gd w2:=hG.below hb2.is)
  |(go_at_call 213;(with_reducible refine (HC2.out _ g2).mono ?_);rintro e w3 ⟨d,g,rfl,hnd,hvd,hb⟩;have HVD:=Lib.hid hvd;clear hvd;have r1:=p1.below hb.is;have r2:=p2.below hb.is;have hb3:=zad hb2 hb (Nat.le_of_lt p1.lt))
  |((with_reducible refine zci (.tmp 5) (.tmp 19) (w.heap.size+1) (by assumption) hnd ?_ ?_ ?_ ?_ ?_);rfl;rfl;rfl;rfl;intro w4 ho4 m2;have m1:=r1.only ho4 (by omega);have hb4:=zbn hb3 ho4 (by omega) (Nat.le_of_lt r1.lt)))
 refine wp_region_held_drew (S:=fun w'=>Lies w' w.heap.size c sn f∧Lies w' (w.heap.size+1) d tn g∧Low w.heap.size w w') (by kernel_rfl) ⟨m1,m2,hb4.drew⟩ (fun hHeld=>?_)
 refine tk (i:=0) rfl (zfa (by rfl) (.tmp 4) rfl w.heap.size rfl c sn f (fun _ h=>h.1)) hHeld ?_
 try simp only [Act.put,List.setIfInBounds_toArray,List.set_cons_zero,List.set_cons_succ]
 refine tk (i:=1) rfl (zfa (by rfl) (.tmp 5) rfl (w.heap.size+1) rfl d tn g (fun _ h=>h.2.1)) hHeld ?_
 try simp only [Act.put,List.setIfInBounds_toArray,List.set_cons_zero,List.set_cons_succ]
 obtain ⟨u1,u2,u3⟩:=hHeld
 refine tr 2 rfl (fun K hK=>?_)
 rw [if_pos (by rfl)]
 refine zn3 (.tmp 4) (.tmp 25) rfl w.heap.size rfl rfl u1 hn (fun w5 ho5 x1=>?_)
 refine hK.out _ _ ⟨x1,u2.only ho5 (by omega),zbn u3 ho5 (Nat.le_refl _) (Nat.le_of_lt u1.lt)⟩ (fun hHeld=>?_)
 clear hK K u1 u2 u3 x1 ho5
 try simp only [Act.put,List.setIfInBounds_toArray]
 obtain ⟨u1,u2,u3⟩:=hHeld
 refine tr 3 rfl (fun K hK=>?_)
 rw [if_pos (by rfl)]
 refine zn3 (.tmp 5) (.tmp 26) rfl (w.heap.size+1) rfl rfl u2 hnd (fun w6 ho6 x2=>?_)
 refine hK.out _ _ ⟨u1.only ho6 (by omega),x2,zbn u3 ho6 (by omega) (Nat.le_of_lt u1.lt)⟩ (fun hHeld=>?_)
 clear hK K u1 u2 u3 x2 ho6
 try simp only [Act.put]
 obtain ⟨u1,u2,u3⟩:=hHeld
 refine tr 4 rfl (fun K hK=>?_)
 go_simp
 refine hK.out _ _ ⟨u1,u2,u3⟩ (fun hHeld=>?_)
 clear hK K hHeld
 try simp only [Act.put,List.setIfInBounds_toArray,List.set_cons_zero,List.set_cons_succ]
 refine wpAnyH_done (by kernel_rfl) ?_ _
 go_wp2_with fail
 exact bodyPost_ret (v:=.tuple #[.agg c,.agg d,.bool true]) (zh8 (p:=4) (p2:=5) (q:=6) Tryz.results205 _ (.bool true) rfl rfl rfl u1 u2) rfl ⟨c,d,f,g,rfl,hn,HV.out,hnd,HVD.out,u3⟩
structure zxz (N m t R:Nat) (qs:List UInt8):Prop where
 len:qs.length=t
 dig:qs.all za1=true
 eq:valD qs*m+R=N / 10 ^ (164 - t)
 lt:R < m
theorem zxz.zero {N m:Nat} (hN:N < 10 ^ 164) (hm:0 < m):zxz N m 0 0 []:=
 ⟨rfl,rfl,by rw [Nat.sub_zero,Nat.div_eq_of_lt hN];simp [valD],hm⟩
theorem info5:(Tryz.prog.info? 5).map (fun i=>(i.zero,i.size,i.bytes))=some (some (.int .u8 0),1,1):=by kernel_rfl
def vals (l:List UInt8):List Value:=l.map fun b=>.int .u8 (b.toNat:Int)
theorem cmpFT (c d:Array Value) (f g:Nat→Nat) (w:World) (hc:zbz c false f) (hd:zbz d true g):
 Calls Tryz.prog 206 #[.agg c,.agg d] w fun e w'=>e=.returned (.int .i64 1)∧Low w.heap.size w w':=by
 have h0:((w.alloc (.cells c 229)).alloc (.cells d 229)).cell? ⟨w.heap.size,0,none⟩=some (.bool false):=zab (zaw _ (zah _ _ rfl)) _ hc.neg
 have h1:((w.alloc (.cells c 229)).alloc (.cells d 229)).cell? ⟨w.heap.size+1,0,none⟩=some (.bool true):=zab (zah _ _ (by simp)) _ hd.neg
 go_enter Tryz.func206,Tryz.ntmps206
 go_wp2_with fail
 go_ret
 exact ⟨rfl,((Low.refl _ _).alloc (Nat.le_refl _) _).alloc (by simp) _⟩
theorem cmpFF (c d:Array Value) (f g:Nat→Nat) (w:World) (hc:zbz c false f) (hd:zbz d false g):
 Calls Tryz.prog 206 #[.agg c,.agg d] w fun e w'=>e=.returned (.int .i64 (cmpI (wval f) (wval g)))∧Low w.heap.size w w':=by
 have h0:((w.alloc (.cells c 229)).alloc (.cells d 229)).cell? ⟨w.heap.size,0,none⟩=some (.bool false):=zab (zaw _ (zah _ _ rfl)) _ hc.neg
 have h1:((w.alloc (.cells c 229)).alloc (.cells d 229)).cell? ⟨w.heap.size+1,0,none⟩=some (.bool false):=zab (zah _ _ (by simp)) _ hd.neg
 have b1:((w.alloc (.cells c 229)).alloc (.cells d 229)).heap[w.heap.size]?=some (.cells c 229):=zaw _ (zah _ _ rfl)
 have b2:((w.alloc (.cells c 229)).alloc (.cells d 229)).heap[w.heap.size+1]?=some (.cells d 229):=zah _ _ (by simp)
 have hb:Low w.heap.size w ((w.alloc (.cells c 229)).alloc (.cells d 229)):=((Low.refl _ _).alloc (Nat.le_refl _) _).alloc (by simp) _
 have hs:w.heap.size≤((w.alloc (.cells c 229)).alloc (.cells d 229)).heap.size:=by simp;omega
 have B1:=Lib.hid b1
 have B2:=Lib.hid b2
 clear b1 b2
 go_enter Tryz.func206,Tryz.ntmps206
 go_wp2_with (first
  |((with_reducible refine zb0 w.heap.size c ?_ ?_ (.tmp 2) ?_ ?_ ?_ ?_);exact B1.out;exact hc.size;rfl;rfl;rfl)
  |((with_reducible refine zb0 (w.heap.size+1) d ?_ ?_ (.tmp 3) ?_ ?_ ?_ ?_);exact B2.out;exact hd.size;rfl;rfl;rfl)
  |(go_at_call 214;(with_reducible refine (zxw c d _ _ _ _ hc hd _).mono ?_);rintro e w' ⟨rfl,hbel⟩))
 go_ret
 exact ⟨rfl,zad hb hbel hs⟩
theorem cmpTF (c d:Array Value) (f g:Nat→Nat) (w:World) (hc:zbz c true f) (hd:zbz d false g):
 Calls Tryz.prog 206 #[.agg c,.agg d] w fun e w'=>e=.returned (.int .i64 (-1))∧Low w.heap.size w w':=by
 have h0:((w.alloc (.cells c 229)).alloc (.cells d 229)).cell? ⟨w.heap.size,0,none⟩=some (.bool true):=zab (zaw _ (zah _ _ rfl)) _ hc.neg
 have h1:((w.alloc (.cells c 229)).alloc (.cells d 229)).cell? ⟨w.heap.size+1,0,none⟩=some (.bool false):=zab (zah _ _ (by simp)) _ hd.neg
 go_enter Tryz.func206,Tryz.ntmps206
 go_wp2_with fail
 go_ret
 exact ⟨rfl,((Low.refl _ _).alloc (Nat.le_refl _) _).alloc (by simp) _⟩
theorem cmpTT (c d:Array Value) (f g:Nat→Nat) (w:World) (hc:zbz c true f) (hd:zbz d true g):
 Calls Tryz.prog 206 #[.agg c,.agg d] w fun e w'=>e=.returned (.int .i64 (cmpI (wval g) (wval f)))∧Low w.heap.size w w':=by
 have h0:((w.alloc (.cells c 229)).alloc (.cells d 229)).cell? ⟨w.heap.size,0,none⟩=some (.bool true):=zab (zaw _ (zah _ _ rfl)) _ hc.neg
 have h1:((w.alloc (.cells c 229)).alloc (.cells d 229)).cell? ⟨w.heap.size+1,0,none⟩=some (.bool true):=zab (zah _ _ (by simp)) _ hd.neg
 have b1:((w.alloc (.cells c 229)).alloc (.cells d 229)).heap[w.heap.size]?=some (.cells c 229):=zaw _ (zah _ _ rfl)
 have b2:((w.alloc (.cells c 229)).alloc (.cells d 229)).heap[w.heap.size+1]?=some (.cells d 229):=zah _ _ (by simp)
 have hb:Low w.heap.size w ((w.alloc (.cells c 229)).alloc (.cells d 229)):=((Low.refl _ _).alloc (Nat.le_refl _) _).alloc (by simp) _
 have hs:w.heap.size≤((w.alloc (.cells c 229)).alloc (.cells d 229)).heap.size:=by simp;omega
 have B1:=Lib.hid b1
 have B2:=Lib.hid b2
 clear b1 b2
 go_enter Tryz.func206,Tryz.ntmps206
 go_wp2_with (first
  |((with_reducible refine zb0 w.heap.size c ?_ ?_ (.tmp 2) ?_ ?_ ?_ ?_);exact B1.out;exact hc.size;rfl;rfl;rfl)
  |((with_reducible refine zb0 (w.heap.size+1) d ?_ ?_ (.tmp 3) ?_ ?_ ?_ ?_);exact B2.out;exact hd.size;rfl;rfl;rfl)
  |(go_at_call 214;(with_reducible refine (zxw d c _ _ _ _ hd hc _).mono ?_);rintro e w' ⟨rfl,hbel⟩))
 go_ret
 exact ⟨rfl,zad hb hbel hs⟩
theorem cmpS_ff (x y:Nat):cmpS false x false y=cmpI x y:=by simp [cmpS]
theorem cmpS_ft (x y:Nat):cmpS false x true y=1:=by simp [cmpS]
theorem cmpS_tf (x y:Nat):cmpS true x false y=-1:=by simp [cmpS]
theorem cmpS_tt (x y:Nat):cmpS true x true y=cmpI y x:=by simp [cmpS]
theorem cmpNum (c d:Array Value) (n m:Bool) (f g:Nat→Nat) (w:World) (hc:zbz c n f) (hd:zbz d m g):
 Calls Tryz.prog 206 #[.agg c,.agg d] w fun e w'=>e=.returned (.int .i64 (cmpS n (wval f) m (wval g)))∧Low w.heap.size w w':=by
 cases n <;> cases m
 ·rw [cmpS_ff];exact cmpFF c d f g w hc hd
 ·rw [cmpS_ft];exact cmpFT c d f g w hc hd
 ·rw [cmpS_tf];exact cmpTF c d f g w hc hd
 ·rw [cmpS_tt];exact cmpTT c d f g w hc hd
def cmpZ (x y:Int):Int:=if x < y then -1 else if y < x then 1 else 0
theorem zcb (x y:Int):cmpZ y x=-cmpZ x y:=by unfold cmpZ;split <;> split <;> (try split) <;> omega
theorem zn4 (x y:Int):cmpZ x y=0↔x=y:=by unfold cmpZ;split <;> (try split) <;> omega
theorem zwe (l r:List UInt8) (h:chk l=true) (h2:chk r=true):cmpS (zc2 l) (damt l) (zc2 r) (damt r)=cmpZ (dval l) (dval r):=by
 have a:=(zpp l h).2.2.2.1
 have b:=(zpp r h2).2.2.2.1
 unfold dval sv cmpS cmpZ cmpI
 generalize damt l=x at*
 generalize damt r=y at*
 cases h3:zc2 l <;> cases h4:zc2 r <;> simp only [h3,h4,Bool.false_eq_true,if_false,if_true,Bool.not_true,Bool.not_false,Bool.and_true,Bool.and_false,Bool.and_self,Int.ofNat_lt,Int.neg_lt_neg_iff] at*
 ·have:=b trivial
  rw [if_neg (by omega),if_pos (by omega)]
 ·have:=a trivial
  rw [if_pos (by omega)]
theorem cmpYes (s t:ByteArray) (w:World) (hG:Gd w) (hs:s.size < 4294967281) (ht:t.size < 4294967281) (h:chk s.data.toList=true) (h2:chk t.data.toList=true):
 Calls Tryz.prog 193 #[.string s,.string t] w fun e w'=>e=.returned (.int .i64 (cmpZ (dval s.data.toList) (dval t.data.toList)))∧Low w.heap.size w w':=by
 have hc:∀ W,Gd W→Calls Tryz.prog 205 #[.string s,.string t] W fun e w'=>∃ c d f g,e=.returned (.tuple #[.agg c,.agg d,.bool true])∧zbz c (zc2 s.data.toList) f∧wval f=damt s.data.toList∧
  zbz d (zc2 t.data.toList) g∧wval g=damt t.data.toList∧Low W.heap.size W w':=fun W hW=>bothYes s t W hW hs ht h h2
 have HC:=Lib.hid hc
 obtain ⟨r,hr⟩:∃ r,r=cmpZ (dval s.data.toList) (dval t.data.toList):=⟨_,rfl⟩
 have hcm:∀ (c d:Array Value) (f g:Nat→Nat) W,zbz c (zc2 s.data.toList) f→wval f=damt s.data.toList→zbz d (zc2 t.data.toList) g→wval g=damt t.data.toList→Calls Tryz.prog 206 #[.agg c,.agg d] W fun e w'=>e=.returned (.int .i64 r)∧Low W.heap.size W w':=fun c d f g W hc e1 hd e2=>by
  have:=cmpNum c d _ _ f g W hc hd
  rwa [e1,e2,zwe _ _ h h2,← hr] at this
 have HCM:=Lib.hid hcm
 rw [← hr]
 clear hc hcm h h2 hs ht hr
 go_enter Tryz.func193,Tryz.ntmps193
 go_wp2_with (first
  |(go_at_call 205;(with_reducible refine (HC.out _ hG).mono ?_);rintro e w1 ⟨c,d,f,g,rfl,hn,hx,hm,hy,hb⟩;have HX:=Lib.hid hx;have HY:=Lib.hid hy;clear hx hy;have l1:Lies ((w1.alloc (.cells #[.bool false,.int .u32 0,.int .u32 0,.int .u32 0,.int .u32 0,.int .u32 0,.int .u32 0,.int .u32 0,.int .u32 0,.int .u32 0,.int .u32 0,.int .u32 0,.int .u32 0,.int .u32 0,.int .u32 0,.int .u32 0,.int .u32 0] 229)).alloc (.cells #[.bool false,.int .u32 0,.int .u32 0,.int .u32 0,.int .u32 0,.int .u32 0,.int .u32 0,.int .u32 0,.int .u32 0,.int .u32 0,.int .u32 0,.int .u32 0,.int .u32 0,.int .u32 0,.int .u32 0,.int .u32 0,.int .u32 0] 229)) w1.heap.size zhz false (fun _=>0):=(zea _ rfl).alloc _;have l2:Lies ((w1.alloc (.cells #[.bool false,.int .u32 0,.int .u32 0,.int .u32 0,.int .u32 0,.int .u32 0,.int .u32 0,.int .u32 0,.int .u32 0,.int .u32 0,.int .u32 0,.int .u32 0,.int .u32 0,.int .u32 0,.int .u32 0,.int .u32 0,.int .u32 0] 229)).alloc (.cells #[.bool false,.int .u32 0,.int .u32 0,.int .u32 0,.int .u32 0,.int .u32 0,.int .u32 0,.int .u32 0,.int .u32 0,.int .u32 0,.int .u32 0,.int .u32 0,.int .u32 0,.int .u32 0,.int .u32 0,.int .u32 0,.int .u32 0] 229)) (w1.heap.size+1) zhz false (fun _=>0):=zea _ (by simp);have hb1:Low w.heap.size w ((w1.alloc (.cells #[.bool false,.int .u32 0,.int .u32 0,.int .u32 0,.int .u32 0,.int .u32 0,.int .u32 0,.int .u32 0,.int .u32 0,.int .u32 0,.int .u32 0,.int .u32 0,.int .u32 0,.int .u32 0,.int .u32 0,.int .u32 0,.int .u32 0] 229)).alloc (.cells #[.bool false,.int .u32 0,.int .u32 0,.int .u32 0,.int .u32 0,.int .u32 0,.int .u32 0,.int .u32 0,.int .u32 0,.int .u32 0,.int .u32 0,.int .u32 0,.int .u32 0,.int .u32 0,.int .u32 0,.int .u32 0,.int .u32 0] 229)):=(hb.alloc hb.size _).alloc (by have:=hb.size;simp;omega) _;have hsz:=hb.size)
  |((with_reducible refine zci (.tmp 5) (.tmp 12) w1.heap.size (by assumption) hn ?_ ?_ ?_ ?_ ?_);rfl;rfl;rfl;rfl;intro w2 ho p1;have p2:=l2.only ho (by omega);have hb2:=zbn hb1 ho hsz (Nat.le_of_lt (Nat.lt_of_le_of_lt hsz l1.lt)))
  |((with_reducible refine zci (.tmp 6) (.tmp 13) (w1.heap.size+1) (by assumption) hm ?_ ?_ ?_ ?_ ?_);rfl;rfl;rfl;rfl;intro w3 ho3 q2;have q1:=p1.only ho3 (by omega);have hb3:=zbn hb2 ho3 (by omega) (Nat.le_of_lt (Nat.lt_of_le_of_lt hsz p1.lt)))
  |((with_reducible refine zd9 (.tmp 5) w1.heap.size (by assumption) ?_ ?_ ?_ ?_);rfl;rfl;rfl)
  |((with_reducible refine zd9 (.tmp 6) (w1.heap.size+1) (by assumption) ?_ ?_ ?_ ?_);rfl;rfl;rfl)
  |(go_at_call 206;(with_reducible refine (HCM.out c d f g _ hn HX.out hm HY.out).mono ?_);rintro e w4 ⟨rfl,hb4⟩;have hb5:=zad hb3 hb4 hb3.size))
 go_ret
 exact ⟨rfl,hb5⟩
def Mid (f:Nat→Nat):Prop:=∀ j,j < 3∨11≤j→j < 16→f j=0
theorem zx0 (f:Nat→Nat) (h:Mid f):vN 3 f=0:=by
 simp only [vN,h 0 (by omega) (by omega),h 1 (by omega) (by omega),h 2 (by omega) (by omega)]
 simp
theorem vN_mid (f:Nat→Nat) (h:Mid f):vN 11 f=wval f:=by
 have:=zqr f (fun _=>0) 11 16 (by omega) (fun j a b=>h j (by omega) b)
 have e:∀ n,vN n (fun _=>0)=0:=by intro n;induction n with
  | zero=>rfl
  | succ n ih=>simp [vN,ih]
 rw [e,e] at this
 unfold wval;omega
structure zn5 (f g p:Nat→Nat) (i:Nat):Prop where
 val:wval p*BASE ^ 6=vN i f*wval g
 words:zd7 p
 high:∀ j,i+5≤j→j < 16→p j=0
structure ztz (f g p:Nat→Nat) (i j cr:Nat):Prop where
 val:wval p*BASE ^ 6+cr*BASE ^ (i+j)=vN i f*wval g+f i*BASE ^ i*vN j g
 words:zd7 p
 high:∀ k,i+5≤k→k < 16→p k=0
 carry:cr < BASE
theorem zt0:wval (fun _=>0)=0:=by
 have e:∀ n,vN n (fun _=>0)=0:=by intro n;induction n with
  | zero=>rfl
  | succ n ih=>simp [vN,ih]
 exact e 16
theorem zn5.zero {f g:Nat→Nat} (hf:Mid f):zn5 f g (fun _=>0) 3:=
 ⟨by rw [zx0 f hf,zt0,Nat.zero_mul,Nat.zero_mul],fun _ _=>by decide,fun _ _ _=>rfl⟩
theorem zn5.inner {f g p:Nat→Nat} {i:Nat} (H:zn5 f g p i) (hg:Mid g):ztz f g p i 3 0:=
 ⟨by rw [zx0 g hg,H.val,Nat.zero_mul,Nat.mul_zero],H.words,H.high,by decide⟩
theorem ztz.outer {f g p:Nat→Nat} {i cr:Nat} (H:ztz f g p i 11 cr) (hg:Mid g) (hi:i < 11):zn5 f g (upd p (i+5) cr) (i+1):=by
 refine ⟨?_,H.words.upd H.carry,?_⟩
 ·have hu:=zqz p (i+5) cr (by omega)
  rw [H.high (i+5) (by omega) (by omega),Nat.zero_mul,Nat.add_zero] at hu
  have hv:=H.val
  rw [vN_mid g hg] at hv
  have e6:BASE ^ (i+11)=BASE ^ (i+5)*BASE ^ 6:=by rw [← Nat.pow_add]
  rw [hu,Nat.add_mul,Nat.mul_assoc,← e6,hv]
  simp only [vN,Nat.add_mul]
 ·intro k hk hk2
  rw [zd8 _ _ (by omega)]
  exact H.high k (by omega) hk2
end Go.Proofs.YtanbgdhmfjgihaaGreatDoor
