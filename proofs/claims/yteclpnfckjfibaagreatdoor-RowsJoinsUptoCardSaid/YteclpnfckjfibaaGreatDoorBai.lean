/- Texts of one kind, one behind the other: each says ahead of itself what it shows. -/
import Derived.Deep.Cut
import Derived.Deep.CutBlock
import Derived.Deep.RegionHeld
import Derived.BigQuiet
import Derived.Test.YteclpnfckjfibaaGreatDoorBah
/- RT -/
namespace Go.Proofs.YteclpnfckjfibaaGreatDoor
open Go.RowKit
theorem zcs {P:Program} {op:Oper} {a:Act} {w:World} {K:Act→World→Prop} {Q:Exit→Act→World→Prop} (x y:Operand) (g:Nat) (t ty:TypeId) (old:Array Value) (cs:List Value) (k:Nat) (hg:w.heap[g]?=some (.cells old t (0,0))) (hk:cs.length=k)
 (ho:op.op=.store ty x y) (hx:a.eval x=.pointer (some ⟨g,0,none⟩)) (hy:a.eval y=.agg cs.toArray) (hi:(P.info? ty).map (·.size)=some k) (hold:old.size=k) (h1:∀ u∈cs,u.oneCell'=true)
 (h:∀ w',Only g w w'→w'.heap[g]?=some (.cells cs.toArray t (0,0))→K (a.put op.dst undef) w'):op.wp P a w K Q:=by
 unfold Oper.wp execOp
 simp only [ho,hx,hy,Instr.storeAt,Instr.sureAddr,Sem.run_bind,Sem.run_pure,Result.andThen_ok,run_storeVar_row (P:=P) w g t ty old cs.toArray hg (by rw [hi];simp [hk]) (by simp [hk,hold]) (all_oneCell_toArray h1)]
 exact h _ (Only.setRow w _) (zdz hg)
theorem zch {V R:Value} (hV:V.oneCell'=true) (hR:R.oneCell'=true):∀ u∈[V,R],u.oneCell'=true:=by
 intro u hu
 simp only [List.mem_cons,List.mem_nil_iff,or_false] at hu
 rcases hu with rfl | rfl
 ·exact hV
 ·exact hR
set_option maxHeartbeats 1600000 in
set_option maxRecDepth 20000 in
theorem zxq (r:List Val) (u:Value) (W:World) (h:rowE.rel W (Old W) [u] r):Calls Tryz.prog 104 #[u] W (zb0 rowE r W):=by
 obtain ⟨v,e,hs,hc,hl⟩:=h
 cases e
 have hm:=zzm id r u W hs hl (fun x _ W' c _ hr=>zo5 x W' c hr)
 rw [List.map_id] at hm
 obtain ⟨p,cap,rfl⟩:=hs.slice
 have HM:=Lib.hid hm
 clear hm hs hc
 go_enter Tryz.func104,Tryz.ntmps104
 go_wp2_with (first
  |(go_at_call 162;(with_reducible refine HM.out.mono ?_);rintro e w1 ⟨V,xs,rfl,hown,hrow,hb⟩))
 go_ret
 exact ⟨V,[V],rfl,by obtain ⟨p1,c1,rfl⟩:=zar hown;rfl,⟨V,rfl,za8.slice hown hrow,zcp hown,hl⟩,hb⟩
theorem zk6 (ts:List ByteArray) (V:Value) (W:World) (h:zaf za0 W (Old W) V ts) (hl:ts.length≤2097152):Calls Tryz.prog 71 #[V] W (za8 za0 9 W ts):=by
 have hm:=map110 id ts V W h hl (fun x _ W' c _ hr=>(zqi x W' (by have:=hr.2;omega)).mono (by
  rintro e w' ⟨rfl,hb⟩
  exact ⟨.string x,[.string x],rfl,rfl,⟨rfl,hr.2⟩,hb⟩))
 rw [List.map_id] at hm
 obtain ⟨p,cap,rfl⟩:=h.slice
 have HM:=Lib.hid hm
 clear hm h
 go_enter Tryz.func71,Tryz.ntmps71
 go_wp2_with (first
  |(go_at_call 110;(with_reducible refine HM.out.mono ?_);rintro e w1 ⟨V,xs,rfl,hown,hrow,hb⟩))
 go_ret
 exact ⟨V,xs,rfl,hown,hrow,hb⟩
theorem zuy (rs:List (List Val)) (V:Value) (W:World) (h:zaf rowE W (Old W) V rs) (hl:rs.length≤2097152):Calls Tryz.prog 103 #[V,.func (.func 104) #[] #[]] W (za8 rowE 43 W rs):=by
 have hm:=map103 id rs V W h hl (fun x _ W' u _ hr=>zxq x u W' hr)
 rwa [List.map_id] at hm
theorem zae:(Tryz.prog.info? 25).map (·.size)=some 2:=by kernel_rfl
set_option maxHeartbeats 3200000 in
set_option maxRecDepth 20000 in
theorem zs2 (t:TabL) (V R:Value) (W:World) (h:tabE.rel W (Old W) [V,R] t):Calls Tryz.prog 65 #[.agg #[V,R]] W (zb0 tabE t W):=by
 obtain ⟨V',R',e,hv,hr,hcv,hcr,hlv,hlr⟩:=h
 cases e
 obtain ⟨W1,hW1⟩:∃ W1,W1=(W.alloc (.cells #[V,R] 25)).alloc (.cells #[.slice none 0 0,.slice none 0 0] 25):=⟨_,rfl⟩
 have bw:Below W.heap.size W W1:=by rw [hW1];exact zc6 _ _ _
 have u1:W1.heap[W.heap.size]?=some (.cells #[V,R] 25):=by rw [hW1];exact zaq _ (zah _ _ rfl)
 have u2:W1.heap[W.heap.size+1]?=some (.cells #[.slice none 0 0,.slice none 0 0] 25):=by rw [hW1];exact zah _ _ (by simp)
 have HV:Hid (∀ W',Below W.heap.size W W'→Calls Tryz.prog 71 #[V] W' (za8 za0 9 W' t.vars)):=Lib.hid fun W' hb=>zk6 t.vars V W' (hv.stays (zad hb)) hlv
 have HR:Hid (∀ W',Below W.heap.size W W'→Calls Tryz.prog 103 #[R,.func (.func 104) #[] #[]] W' (za8 rowE 43 W' t.rows)):=Lib.hid fun W' hb=>zuy t.rows R W' (hr.stays (zad hb)) hlr
 obtain ⟨pv,kv,rfl⟩:=hv.slice
 obtain ⟨pr,kr,rfl⟩:=hr.slice
 have HW:=Lib.hid hW1
 clear hW1 hv hr hcv hcr
 go_enter Tryz.func65,Tryz.ntmps65
 go_upto_region 1 with fail
 rw [← HW.out]
 refine wp_region_held_drew (S:=fun W'=>W'.heap[W.heap.size]?=some (.cells #[.slice pv t.vars.length kv,.slice pr t.rows.length kr] 25)) (by kernel_rfl) u1 (fun hHeld=>?_)
 clear hHeld
 replace bw:=bw.drew
 replace u1:W1.drew.heap[W.heap.size]?=some (.cells #[.slice pv t.vars.length kv,.slice pr t.rows.length kr] 25):=u1
 replace u2:W1.drew.heap[W.heap.size+1]?=some (.cells #[.slice none 0 0,.slice none 0 0] 25):=u2
 have HS2:Hid (W1.drew.heap.size=W.heap.size+2):=Lib.hid (by rw [HW.out];show ((W.alloc _).alloc _).heap.size=_;simp)
 refine tg (i:=0) (.pointer (some ⟨W.heap.size,0,none⟩)) rfl (u1) ?_
 refine tg (i:=3) (.pointer (some ⟨W.heap.size,1,none⟩)) rfl (u1) ?_
 refine tk (i:=1) (v:=.slice pv t.vars.length kv) rfl (Or.inl ⟨by rfl,fun W' h=>by have c0:=zac h 0 rfl;go_simp⟩) (u1) ?_
 refine tk (i:=4) (v:=.slice pr t.rows.length kr) rfl (Or.inl ⟨by rfl,fun W' h=>by have c0:=zac h 1 rfl;go_simp⟩) (u1) ?_
 refine tr 2 rfl (fun K hK=>?_)
 rw [if_pos (by rfl)]
 go_simp
 refine (HV.out _ bw).mono ?_
 rintro e0 w3 ⟨V1,xs1,rfl,ho1,hr1,hb3⟩
 obtain ⟨p1,k1,rfl⟩:=zar ho1
 replace u1:=(hb3.block _ (zaa u1)).trans u1
 replace u2:=(hb3.block _ (zaa u2)).trans u2
 have HA:=Lib.hid (And.intro (za8.slice ho1 hr1) (And.intro (zcp ho1) bw))
 have HS3:=Lib.hid hb3.size
 replace bw:=zab bw hb3 bw.size
 clear ho1 hr1 hb3
 refine hK.out _ _ (u1) (fun _=>?_)
 clear hK K
 try simp only [putS]
 refine tr 5 rfl (fun K hK=>?_)
 rw [if_pos (by rfl)]
 go_simp
 refine (HR.out _ bw).mono ?_
 rintro e0 w4 ⟨V2,xs2,rfl,ho2,hr2,hb4⟩
 obtain ⟨p2,k2,rfl⟩:=zar ho2
 replace u1:=(hb4.block _ (zaa u1)).trans u1
 replace u2:=(hb4.block _ (zaa u2)).trans u2
 have HB:=Lib.hid (And.intro (za8.slice ho2 hr2) (And.intro (zcp ho2) (And.intro bw hb4)))
 replace bw:=zab bw hb4 bw.size
 clear ho2 hr2 hb4
 refine hK.out _ _ (u1) (fun _=>?_)
 clear hK K
 try simp only [putS]
 refine tg (i:=6) (.agg #[.slice p1 t.vars.length k1,.slice p2 t.rows.length k2]) rfl (u1) ?_
 refine tr 7 rfl (fun K hK=>?_)
 try rw [if_pos (by rfl)]
 refine zcs (.tmp 2) (.tmp 9) (W.heap.size+1) 25 25 _ [.slice p1 t.vars.length k1,.slice p2 t.rows.length k2] 2 u2 rfl rfl rfl rfl zae rfl (zch rfl rfl) ?_
 intro w5 ho5 u5
 replace u1:=(ho5.block _ (zaa u1) (by omega)).trans u1
 refine hK.out _ _ (u1) (fun _=>?_)
 clear hK K
 try simp only [putS]
 refine wpAnyH_done (by kernel_rfl) ?_ _
 go_wp2_with fail
 have b5:=zam bw ho5 (Nat.le_succ _) bw.size
 have hz3:=HA.out.2.2.size
 have hz4:=HB.out.2.2.1.size
 have hz5:=HB.out.2.2.2.size
 have hu2:=zaa u2
 refine bodyPost_ret (results_cell_row (p:=2) (ty:=25) Tryz.results65 _ _ (W.heap.size+1) 25 _ (0,0) _ rfl u5 Tryz.underlying25 rfl zae) rfl ⟨_,[.slice p1 t.vars.length k1,.slice p2 t.rows.length k2],rfl,rfl,⟨_,_,rfl,HA.out.1.stays (fun g hg=>?_),HB.out.1.stays (fun g hg=>?_),HA.out.2.1,HB.out.2.1,hlv,hlr⟩,b5⟩
 ·have h1:=hg.1
  have h2:=hg.2
  have hne:g≠W.heap.size+1:=by have:=HA.out.2.2.size;have:=zaa u2;have:=HS2.out;omega
  exact ⟨⟨by omega,by have:=ho5.size;omega⟩,(ho5.block g (by omega) hne).trans (HB.out.2.2.2.block g h2)⟩
 ·have h1:=hg.1
  have h2:=hg.2
  have hne:g≠W.heap.size+1:=by have:=HS2.out;have:=HS3.out;omega
  exact ⟨⟨by omega,by have:=ho5.size;omega⟩,ho5.block g (by omega) hne⟩
end Go.Proofs.YteclpnfckjfibaaGreatDoor

/- RC -/
namespace Go.Proofs.YteclpnfckjfibaaGreatDoor
open Go.RowKit
def zcc (vs:List ByteArray):Bool:=decide (vs.map bl).Nodup
def zdl (vs:List ByteArray):Bool:=(decide (vs.length≤64) && vs.all zca) && zcc vs
def rowP (n:Nat) (r:List Val):Bool:=decide (r.length=n) && r.all (mayP · 0)
def tabP (t:TabL):Bool:=zdl t.vars && t.rows.all (rowP t.vars.length)
theorem zf0 (ls:List ByteArray) (i:Nat) (hi:i < ls.length):zcc (ls.take (i+1))=(zcc (ls.take i) && !memB ls[i] (ls.take i)):=by
 unfold zcc
 rw [List.take_succ_eq_append_getElem hi,List.map_append,Bool.eq_iff_iff]
 simp only [Bool.and_eq_true,decide_eq_true_eq,List.nodup_append,List.map_cons,List.map_nil,List.mem_singleton,Bool.not_eq_true']
 constructor
 ·rintro ⟨h1,_,h2⟩
  refine ⟨h1,?_⟩
  rw [Bool.eq_false_iff]
  intro h
  exact h2 _ (List.mem_map.2 ⟨_,(zet _ _).1 h,rfl⟩) _ rfl rfl
 ·rintro ⟨h1,h2⟩
  refine ⟨h1,by simp,fun a ha b hb e=>?_⟩
  subst hb e
  obtain ⟨t,ht,e2⟩:=List.mem_map.1 ha
  have:=(zet ls[i] (ls.take i)).2 (by rw [← zrs e2];exact ht)
  rw [h2] at this
  cases this
theorem zh1 {ls:List ByteArray} {i:Nat} (hi:i < ls.length) (h:memB ls[i] (ls.take i)=true):zcc ls=false:=by
 have h1:zcc (ls.take (i+1))=false:=by rw [zf0 ls i hi,h];simp
 rw [Bool.eq_false_iff] at h1 ⊢
 intro q
 refine h1 ?_
 unfold zcc at q ⊢
 rw [decide_eq_true_eq] at q ⊢
 rw [List.map_take]
 exact q.sublist (List.take_sublist _ _)
theorem RowE.take {α:Type} {E:Elem α} {w:World} {P:Nat→Prop}:(l:List α)→(xs:List Value)→(i:Nat)→i≤l.length→RowE E w P xs l→RowE E w P (xs.take (i*E.k)) (l.take i)
 | l,xs,0,_,_=>by simp;exact RowE.nil
 | [],xs,i+1,h,_=>absurd h (by simp)
 | a::l,xs,i+1,h,r=>by
   unfold RowE at r
   obtain ⟨c,ys,rfl,hc,hr⟩:=r
   have hk:=E.len hc
   show RowE E w P _ (a::l.take i)
   unfold RowE
   refine ⟨c,ys.take (i*E.k),?_,hc,RowE.take l ys i (by simpa using h) hr⟩
   rw [List.take_append,hk,List.take_of_length_le (by rw [hk,Nat.add_mul];omega)]
   congr 2
   rw [Nat.add_mul]
   omega
theorem zaf.take {α:Type} {E:Elem α} {w:World} {P:Nat→Prop} {p:Option Addr} {n cap:Nat} {l:List α} (h:zaf E w P (.slice p n cap) l) (i:Nat) (hi:i≤l.length):zaf E w P (.slice p i cap) (l.take i):=by
 obtain ⟨p',cap',e,h⟩:=h
 cases e
 refine ⟨p,cap,by rw [List.length_take];congr 1;omega,fun hne=>?_⟩
 obtain ⟨g,off,xs,rfl,hg,hr,he⟩:=h (by intro q;subst q;simp at hne)
 refine ⟨g,off,xs.take (i*E.k),rfl,hg,fun j u hu=>?_,he.take l xs i hi⟩
 rw [List.getElem?_take] at hu
 split at hu
 ·exact hr j u hu
 ·cases hu
theorem zuz (s:ByteArray):mayP (.mk 9 false 0 s ⟨#[]⟩ []) 0=zca s:=by
 unfold mayP zcb
 simp [zb7]
 intro _
 rfl
set_option maxHeartbeats 1600000 in
set_option maxRecDepth 20000 in
theorem zs3 (s:ByteArray) (w:World) (hG:Gd w) (hs:s.size≤2097152):Calls Tryz.prog 101 #[.string s] w fun e w'=>e=.returned (.bool (zca s))∧Low w.heap.size w w':=by
 have hc:=zmd (.mk 9 false 0 s ⟨#[]⟩ []) w [.int .i64 9,.bool false,.int .i64 0,.string s,.string ⟨#[]⟩,.slice none 0 0] (Old w) ⟨_,rfl,⟨hs,by decide,by decide,by decide,by decide⟩,by unfold zbe;exact ⟨_,_,rfl⟩⟩ hG
 rw [zuz] at hc
 have HC:=Lib.hid hc
 clear hc hG
 go_enter Tryz.func101,Tryz.ntmps101
 go_wp2_with (first
  |(go_at_call 56;(with_reducible refine HC.out.mono ?_);rintro e w1 ⟨rfl,hb⟩))
 go_ret
 exact ⟨rfl,hb⟩
set_option maxHeartbeats 3200000 in
set_option maxRecDepth 20000 in
theorem zql (V:Value) (ts:List ByteArray) (P:Nat→Prop) (W:World) (h:zaf za0 W P V ts) (hcap:capK V) (hn:ts.length≤2097152):Calls Tryz.prog 102 #[V] W fun e w'=>e=.returned (.bool (zcc ts))∧W=w':=by
 obtain ⟨p,cap,rfl⟩:=h.slice
 have hcp:=hcap.1 p _ cap rfl
 obtain ⟨n,hl⟩:∃ n,n=ts.length:=⟨_,rfl⟩
 obtain ⟨r,hr⟩:∃ r,r=zcc ts:=⟨_,rfl⟩
 rw [← hr,← hl]
 rw [← hl] at hn hcp
 have HC:=Lib.hid h
 have HL:=Lib.hid hl
 have HR:=Lib.hid hr
 clear h hl hr hcap
 go_enter Tryz.func102,Tryz.ntmps102
 go_wp2_with fail
 go_loopg [7] n (fun gg s7 wr=>∃ j:Nat,j+gg=n∧s7=.int .i64 j∧Hid (zcc (ts.take j)=true)∧wr=W)
 case atStart=>exact ⟨0,by omega,rfl,Lib.hid (by simp [zcc]),rfl⟩
 case round=>
  obtain ⟨j,hjg,rfl,HA,rfl⟩:=hrel
  by_cases hj:(j:Int) < n
  ·have hj1:j < ts.length:=by have:=HL.out;omega
   obtain ⟨g,off,cap',c,e0,hg,hrl,hra⟩:=HC.out.at_ j hj1
   injection e0 with e1 e2 e3
   subst e1
   obtain ⟨y,hy⟩:∃ y,y=ts[j]:=⟨_,rfl⟩
   obtain ⟨rfl,hwf⟩:=hrl
   have cj:wr.cell? ⟨g,off+j,none⟩=some (.string y):=by
    have:=hra 0 _ rfl
    rw [hy]
    simpa [za0] using this
   have hpre:=zme _ (ts.take j) y P wr (HC.out.take j (by omega)) (by rw [List.length_take];omega)
   obtain ⟨m,hm⟩:∃ m,m=memB y (ts.take j):=⟨_,rfl⟩
   rw [← hm] at hpre
   have HP:=Lib.hid hpre
   have hm2:memB ts[j] (ts.take j)=m:=by rw [hm,hy]
   have HM:=Lib.hid hm2
   have hjc:j≤cap:=by omega
   have hjc2:(j:Int)≤cap:=by omega
   clear hra hy hg hwf e2 e3 hpre hm hm2
   cases m with
   | true=>
     have HZ:Hid (r=false):=Lib.hid (by rw [HR.out];exact zh1 hj1 HM.out)
     go_wp2_with (first
      |(go_at_call 120;(with_reducible refine HP.out.mono ?_);rintro e w1 ⟨rfl,rfl⟩))
     go_ret
     exact ⟨by rw [HZ.out];rfl,rfl⟩
   | false=>
     have HZ:Hid (zcc (ts.take (j+1))=true):=Lib.hid (by rw [zf0 ts j hj1,HM.out,HA.out];rfl)
     go_wp2_with (first
      |(go_at_call 120;(with_reducible refine HP.out.mono ?_);rintro e w1 ⟨rfl,rfl⟩))
     go_roundg (gk - 1)
     case measure=>omega
     case rel=>exact ⟨j+1,by omega,by go_num,HZ,rfl⟩
  ·have HZ:Hid (r=true):=Lib.hid (by
    have h:=HA.out
    rw [List.take_of_length_le (by have:=HL.out;omega)] at h
    rw [HR.out,h])
   go_wp2_with fail
   go_ret
   exact ⟨by rw [HZ.out];rfl,rfl⟩
set_option maxHeartbeats 3200000 in
set_option maxRecDepth 20000 in
theorem zo7 (V:Value) (ts:List ByteArray) (W:World) (hG:Gd W) (h:zaf za0 W (Old W) V ts) (hcap:capK V) (hn:ts.length≤2097152):Calls Tryz.prog 57 #[V] W fun e w'=>e=.returned (.bool (zdl ts))∧Below W.heap.size W w':=by
 have h1:=zo6 zca ts V W h hn (fun x _ W' c hb hr=>(zs3 x W' (hG.below hb) hr.2).mono (by rintro e w' ⟨rfl,hb⟩;exact ⟨rfl,hb.is⟩))
 have h2:∀ W',Below W.heap.size W W'→Calls Tryz.prog 102 #[V] W' fun e w'=>e=.returned (.bool (zcc ts))∧W'=w':=fun W' hb=>zql V ts (Old W') W' (h.stays (zad hb)) hcap hn
 obtain ⟨p,cap,rfl⟩:=h.slice
 obtain ⟨a1,ha1⟩:∃ a,a=ts.all zca:=⟨_,rfl⟩
 obtain ⟨a2,ha2⟩:∃ a,a=zcc ts:=⟨_,rfl⟩
 obtain ⟨n,hl⟩:∃ n,n=ts.length:=⟨_,rfl⟩
 have e:zdl ts=((decide (n≤64) && a1) && a2):=by rw [ha1,ha2,hl];rfl
 rw [e]
 rw [← ha1] at h1
 simp only [← ha2] at h2
 rw [← hl] at h1 h2 ⊢
 have H1:=Lib.hid h1
 have H2:=Lib.hid h2
 clear h1 h2 h hcap hG e ha1 ha2 hl
 by_cases q:n≤64
 ·have q1:decide ((n:Int)≤64)=true:=decide_eq_true (by omega)
  rw [decide_eq_true q,Bool.true_and]
  cases a1 with
  | true=>
    rw [Bool.true_and]
    go_enter Tryz.func57,Tryz.ntmps57
    go_wp2_with (first
     |(go_at_call 100;(with_reducible refine H1.out.mono ?_);rintro e w1 ⟨rfl,hb1⟩)
     |(go_at_call 102;(with_reducible refine (H2.out _ hb1).mono ?_);rintro e w2 ⟨rfl,rfl⟩))
    go_ret
    exact ⟨rfl,hb1⟩
  | false=>
    rw [Bool.false_and]
    go_enter Tryz.func57,Tryz.ntmps57
    go_wp2_with (first
     |(go_at_call 100;(with_reducible refine H1.out.mono ?_);rintro e w1 ⟨rfl,hb1⟩))
    go_ret
    exact ⟨rfl,hb1⟩
 ·have q1:decide ((n:Int)≤64)=false:=decide_eq_false (by omega)
  rw [decide_eq_false q,Bool.false_and,Bool.false_and]
  go_enter Tryz.func57,Tryz.ntmps57
  go_wp2_with fail
  go_ret
  exact ⟨rfl,Below.refl _ _⟩
end Go.Proofs.YteclpnfckjfibaaGreatDoor

/- RD -/
namespace Go.Proofs.YteclpnfckjfibaaGreatDoor
open Go.RowKit
set_option maxHeartbeats 3200000 in
set_option maxRecDepth 20000 in
theorem zu0 (r:List Val) (u R:Value) (ts:List ByteArray) (p:Option Addr) (cap g:Nat) (W:World) (hG:Gd W) (hg:W.heap[g]?=some (.cells #[.slice p ts.length cap,R] 25)) (h:rowE.rel W (Old W) [u] r):Calls Tryz.prog 54 #[u,.pointer (some ⟨g,0,none⟩)] W fun e w'=>e=.returned (.bool (rowP ts.length r))∧Below W.heap.size W w':=by
 obtain ⟨v,e,hs,hc,hl⟩:=h
 cases e
 have h1:=zs0 (mayP · 0) r u W hs hl (fun x _ W' c hb hr=>(zmd x W' c (Old W') hr (hG.below hb)).mono (by rintro e w' ⟨rfl,hb⟩;exact ⟨rfl,hb.is⟩))
 obtain ⟨p1,c1,rfl⟩:=hs.slice
 obtain ⟨n,hn⟩:∃ n,n=ts.length:=⟨_,rfl⟩
 obtain ⟨m,hm⟩:∃ m,m=r.length:=⟨_,rfl⟩
 obtain ⟨a1,ha1⟩:∃ a,a=r.all (mayP · 0):=⟨_,rfl⟩
 have e:rowP ts.length r=(decide (m=n) && a1):=by rw [ha1,hm,hn];rfl
 rw [e]
 rw [← ha1,← hm] at h1
 rw [← hn] at hg
 rw [← hm] at hl ⊢
 have c0:=zac hg 0 rfl
 have H1:=Lib.hid h1
 clear h1 hs hc hG hg e ha1 hm hn
 by_cases q:m=n
 ·subst q
  rw [decide_eq_true rfl,Bool.true_and]
  cases a1 with
  | true=>
    go_enter Tryz.func54,Tryz.ntmps54
    go_wp2_with (first
     |(go_at_call 55;(with_reducible refine H1.out.mono ?_);rintro e w1 ⟨rfl,hb1⟩))
    go_ret
    exact ⟨rfl,hb1⟩
  | false=>
    go_enter Tryz.func54,Tryz.ntmps54
    go_wp2_with (first
     |(go_at_call 55;(with_reducible refine H1.out.mono ?_);rintro e w1 ⟨rfl,hb1⟩))
    go_ret
    exact ⟨rfl,hb1⟩
 ·have q1:((m:Int) == n)=false:=by rw [beq_eq_false_iff_ne];omega
  rw [decide_eq_false q,Bool.false_and]
  go_enter Tryz.func54,Tryz.ntmps54
  go_wp2_with fail
  go_ret
  exact ⟨rfl,Below.refl _ _⟩
set_option maxHeartbeats 3200000 in
set_option maxRecDepth 20000 in
theorem zcm (t:TabL) (V R:Value) (W:World) (hG:Gd W) (h:tabE.rel W (Old W) [V,R] t):Calls Tryz.prog 14 #[.agg #[V,R]] W fun e w'=>e=.returned (.bool (tabP t))∧Below W.heap.size W w':=by
 obtain ⟨V',R',e,hv,hr,hcv,hcr,hlv,hlr⟩:=h
 cases e
 obtain ⟨W1,hW1⟩:∃ W1,W1=W.alloc (.cells #[V,R] 25):=⟨_,rfl⟩
 have bw:Below W.heap.size W W1:=by rw [hW1];exact zaz _ _
 have u1:W1.heap[W.heap.size]?=some (.cells #[V,R] 25):=by rw [hW1];exact zah _ _ rfl
 have h1:=zo7 V t.vars W1 (hG.below bw) (hv.stays (zad bw)) hcv hlv
 have h2:∀ W',Below W1.heap.size W1 W'→Calls Tryz.prog 58 #[R,.func (.func 54) #[] #[.pointer (some ⟨W.heap.size,0,none⟩)]] W' fun e w'=>e=.returned (.bool (t.rows.all (rowP t.vars.length)))∧Below W'.heap.size W' w':=fun W' hb=>by
  have bW':=zab bw hb bw.size
  refine zs1 _ (rowP t.vars.length) t.rows R W' (hr.stays (zad bW')) hlr (fun x _ W2 u hb2 hx=>?_)
  obtain ⟨p,cap,e⟩:=hv.slice
  have hg2:=(hb2.block _ (zaa ((hb.block _ (zaa u1)).trans u1))).trans ((hb.block _ (zaa u1)).trans u1)
  rw [e] at hg2
  exact zu0 x u R t.vars p cap W.heap.size W2 ((hG.below bW').below hb2) hg2 hx
 obtain ⟨pv,kv,rfl⟩:=hv.slice
 obtain ⟨pr,kr,rfl⟩:=hr.slice
 obtain ⟨a1,ha1⟩:∃ a,a=zdl t.vars:=⟨_,rfl⟩
 obtain ⟨a2,ha2⟩:∃ a,a=t.rows.all (rowP t.vars.length):=⟨_,rfl⟩
 have e:tabP t=(a1 && a2):=by rw [ha1,ha2];rfl
 rw [e]
 rw [← ha1] at h1
 simp only [← ha2] at h2
 have c0:=zac u1 0 rfl
 have H1:=Lib.hid h1
 have H2:=Lib.hid h2
 have HW:=Lib.hid hW1
 have HU:=Lib.hid u1
 clear h1 h2 hv hr hcv hcr hG e ha1 ha2 hW1 u1
 cases a1 with
 | true=>
   rw [Bool.true_and]
   cases a2 with
   | true=>
     go_enter Tryz.func14,Tryz.ntmps14
     go_upto_region 1 with fail
     rw [← HW.out]
     go_wp2_with (first
      |(go_at_call 57;(with_reducible refine H1.out.mono ?_);rintro e w1 ⟨rfl,hb1⟩;have c1:=zac ((hb1.block _ (zaa HU.out)).trans HU.out) 1 rfl)
      |(go_at_call 58;(with_reducible refine (H2.out _ hb1).mono ?_);rintro e w2 ⟨rfl,hb2⟩))
     go_ret
     exact ⟨rfl,zab (zab bw hb1 bw.size) hb2 (zab bw hb1 bw.size).size⟩
   | false=>
     go_enter Tryz.func14,Tryz.ntmps14
     go_upto_region 1 with fail
     rw [← HW.out]
     go_wp2_with (first
      |(go_at_call 57;(with_reducible refine H1.out.mono ?_);rintro e w1 ⟨rfl,hb1⟩;have c1:=zac ((hb1.block _ (zaa HU.out)).trans HU.out) 1 rfl)
      |(go_at_call 58;(with_reducible refine (H2.out _ hb1).mono ?_);rintro e w2 ⟨rfl,hb2⟩))
     go_ret
     exact ⟨rfl,zab (zab bw hb1 bw.size) hb2 (zab bw hb1 bw.size).size⟩
 | false=>
   rw [Bool.false_and]
   go_enter Tryz.func14,Tryz.ntmps14
   go_upto_region 1 with fail
   rw [← HW.out]
   go_wp2_with (first
    |(go_at_call 57;(with_reducible refine H1.out.mono ?_);rintro e w1 ⟨rfl,hb1⟩))
   go_ret
   exact ⟨rfl,zab bw hb1 bw.size⟩
end Go.Proofs.YteclpnfckjfibaaGreatDoor

/- RH -/
namespace Go.Proofs.YteclpnfckjfibaaGreatDoor
open Go.RowKit
theorem zaw {W W':World} {p:Addr} {v:Value} (h:W.cell? p=some v) (b:Below W.heap.size W W'):W'.cell? p=some v:=(b.cell (p:=p) (World.block_lt_of_cell? W _ h)).trans h
theorem zbw {w w':World} {base size n:Nat} {e:TypeId} {v:Value} {xs:List Value} (h:w.ownsRow base e size v n xs) (k:∀ g,v.ownBlock=some g→w'.heap[g]?=w.heap[g]?):w'.ownsRow base e size v n xs:=by
 obtain ⟨h0,h⟩:=h
 refine ⟨h0,?_⟩
 rcases h with h | ⟨g,cap,cur,rfl,h1,h2,h3⟩
 ·exact .inl h
 ·exact .inr ⟨g,cap,cur,rfl,h1,(k g rfl).trans h2,h3⟩
theorem zct {w w':World} {base size n:Nat} {e:TypeId} {v:Value} {xs:List Value} {r:Option Nat} (h:w.ownsRow base e size v n xs) (g:w.grownBy w' r) (hr:∀ b,v.ownBlock=some b→r≠some b):w'.ownsRow base e size v n xs:=
 zbw h fun b e=>g.block b (h.lt b e).2 (fun q=>hr b e q.symm)
theorem zbu {P:Program} {o:Oper} {a:Act} {w:World} {K:Act→World→Prop} {Q:Exit→Act→World→Prop} (s x:Operand) (t:TypeId) (ho:o.op=.call { callee:=.builtin .append,args:=#[s,x],argTypes:=#[t,t] })
 (base:Nat) (e:TypeId) (i:TypeInfo) (z:Value) (size bytes:Nat) (ht:P.underlying t=some (.slice e)) (hi:P.info? e=some i) (hz:i.zero=some z) (hsize:i.size=size) (hby:i.bytes=bytes) (hzs:z.cells.size=size) (hsz:0 < size)
 (v:Value) (n:Nat) (xs:List Value) (hs:a.eval s=v) (hown:w.ownsRow base e size v n xs) (ad:Addr) (m c:Nat) (news:List Value) (hx:a.eval x=.slice (some ad) m c) (hl:news.length=m*size) (hnews:∀ j u,news[j]?=some u→w.cell? (ad.add j)=some u) (h1:∀ u∈news,u.oneCell'=true)
 (h63:n+m≤maxLen) (hbytes:(n+m)*bytes≤140737488355328) (hbase:base≤w.heap.size)
 (h:∀ v' w',w'.ownsRow base e size v' (n+m) (xs++news)→w.grownBy w' v.ownBlock→(v'=.slice none 0 0↔v=.slice none 0 0∧m=0)→(v'.ownBlock=v.ownBlock∨v'.ownBlock=some w.heap.size)→K (a.put o.dst v') w'):o.wp P a w K Q:=by
 obtain ⟨v',w',hr,h2,h3,h4,h5⟩:=run_append_own_at (P:=P) w base t o.type e i z size bytes ht hi hz hsize hby hzs hsz v n xs hown ad m c news hl hnews h1 h63 hbytes hbase
 unfold Oper.wp execOp
 simp only [ho,resolve,invoke,builtin,Sem.run_bind,Sem.run_pure,Result.andThen_ok,List.map_toArray,List.map_cons,List.map_nil,hs,hx,hr]
 exact h v' w' h2 h3 h4 h5
theorem zu1 {n:Int} (h1:-9223372036854775808≤n) (h2:n≤9223372036854775807):(Lit.int .i64 n).wf=true:=by
 unfold Lit.wf
 simp only [Bool.and_eq_true,decide_eq_true_eq]
 have e1:IntKind.i64.min=-9223372036854775808:=by decide
 have e2:IntKind.i64.max=9223372036854775807:=by decide
 rw [e1,e2]
 exact ⟨h1,h2⟩
structure Kept (F:Nat→Prop) (w w':World):Prop where
 os:w'.os=w.os
 tape:w'.tape=w.tape
 output:w'.output=w.output
 size:w.heap.size≤w'.heap.size
 block:∀ i,i < w.heap.size→¬ F i→w'.heap[i]?=w.heap[i]?
theorem Kept.refl (F:Nat→Prop) (w:World):Kept F w w:=⟨rfl,rfl,rfl,Nat.le_refl _,fun _ _ _=>rfl⟩
theorem Kept.below {F:Nat→Prop} {a b c:World} (h:Kept F a b) (k:Below b.heap.size b c):Kept F a c:=
 ⟨k.os.trans h.os,k.tape.trans h.tape,k.output.trans h.output,Nat.le_trans h.size k.size,fun i hi hf=>(k.block i (Nat.lt_of_lt_of_le hi h.size)).trans (h.block i hi hf)⟩
theorem Kept.grown {F:Nat→Prop} {a b c:World} {r:Option Nat} (h:Kept F a b) (k:b.grownBy c r) (hr:∀ i,r=some i→i < a.heap.size→F i):Kept F a c:=
 ⟨k.os.trans h.os,k.tape.trans h.tape,k.output.trans h.output,Nat.le_trans h.size k.size,fun i hi hf=>(k.block i (Nat.lt_of_lt_of_le hi h.size) (fun e=>hf (hr i e.symm hi))).trans (h.block i hi hf)⟩
theorem Kept.set {F:Nat→Prop} {a b:World} (h:Kept F a b) {p:Addr} (hp:F p.block) (u:Value):Kept F a (b.setCell p u):=
 ⟨h.os,h.tape,h.output,by simpa using h.size,fun i hi hf=>(Below.heap_setCell _ _ _ _ (fun (e:i=p.block)=>hf (by rw [e];exact hp))).trans (h.block i hi hf)⟩
theorem Kept.trans {F:Nat→Prop} {a b c:World} (h:Kept F a b) (k:Kept F b c):Kept F a c:=
 ⟨k.os.trans h.os,k.tape.trans h.tape,k.output.trans h.output,Nat.le_trans h.size k.size,fun i hi hf=>(k.block i (Nat.lt_of_lt_of_le hi h.size) hf).trans (h.block i hi hf)⟩
theorem Kept.low {F:Nat→Prop} {a b:World} {B:Nat} (h:Kept F a b) (hB:B≤a.heap.size) (hF:∀ i,F i→B≤i):Below B a b:=
 ⟨h.os,h.tape,h.output,h.size,fun i hi=>h.block i (by omega) (fun q=>by have:=hF i q;omega)⟩
theorem Kept.alloc {F:Nat→Prop} {a b:World} (h:Kept F a b) (o:Obj):Kept F a (b.alloc o):=h.below (zaz _ _)
theorem Kept.drew {F:Nat→Prop} {a b:World} (h:Kept F a b):Kept F a b.drew:=⟨h.os,h.tape,h.output,h.size,h.block⟩
theorem Kept.only {b:Nat} {w w':World} (h:Only b w w'):Kept (fun i=>i=b) w w':=⟨h.os,h.tape,h.output,h.size,fun i hi e=>h.block i hi e⟩
theorem zal {P:Program} {ops:Array Oper} {rest:List Oper} {o:Oper} {a:Act} {w:World} {Q:Exit→Act→World→Prop} (hw:Region.wanted o (yielded ops a.tmps)=true) (y:Operand) (g:Nat) (t ty:TypeId) (cs:List Value) (k:Nat) (d:TypeDesc) (hg:w.heap[g]?=some (.cells cs.toArray t (0,0))) (hk:cs.length=k)
 (hu:P.underlying ty=some d) (hd:(match d with | .struct _ | .array _ _=>true | _=>false)=true) (hi:(P.info? ty).map (·.size)=some k) (ho:o.op=.load ty y) (hx:a.eval y=.pointer (some ⟨g,0,none⟩))
 (h:wpList P ops Q rest (a.put o.dst (.agg cs.toArray)) w):wpList P ops Q (o::rest) a w:=
 by
  unfold wpList
  rw [if_pos hw]
  refine .inl ?_
  unfold Oper.wp execOp
  simp only [ho,hx,Instr.loadAt,Instr.sureAddr,Sem.run_bind,Sem.run_pure,Result.andThen_ok,run_loadVar_row (P:=P) w g t ty cs.toArray (0,0) d hg hu hd (by rw [hi];simp [hk])]
  exact h
theorem zbg {P:Program} {ops:Array Oper} {rest:List Oper} {o:Oper} {a:Act} {w:World} {Q:Exit→Act→World→Prop} (hw:Region.wanted o (yielded ops a.tmps)=true) (y:Operand) (g off:Nat) (ty:TypeId) (cs:List Value) (k:Nat) (d:TypeDesc) (hr:w.rangeAt g off cs) (hk:cs.length=k)
 (hu:P.underlying ty=some d) (hd:d.isRow=true) (hi:(P.info? ty).map (·.size)=some k) (ho:o.op=.load ty y) (hx:a.eval y=.pointer (some ⟨g,off,none⟩))
 (h:wpList P ops Q rest (a.put o.dst (.agg cs.toArray)) w):wpList P ops Q (o::rest) a w:=
 by
  unfold wpList
  rw [if_pos hw]
  refine .inl ?_
  unfold Oper.wp execOp
  simp only [ho,hx,Instr.loadAt,Instr.sureAddr,Sem.run_bind,Sem.run_pure,Result.andThen_ok,run_loadVar_mid (P:=P) w g off ty cs d hr hu hd (by rw [hi,hk])]
  exact h
end Go.Proofs.YteclpnfckjfibaaGreatDoor

/- RL -/
namespace Go
section
variable {P:Program} {ops:Array Oper} {Q:Exit→Act→World→Prop} {md:Region.Mode} {S:World→Prop} {T:Nat→Bool}
def ze0 (T:Nat→Bool) (listed:Array Bool):Bool:=(List.range listed.size).all fun t=>!(T t && listed.getD t false)
theorem zhi {listed:Array Bool} {j:Nat} (h:ze0 T listed=true) (hj:T j=false):ze0 T (listed.setIfInBounds j true)=true:=by
 unfold ze0 at h ⊢
 rw [List.all_eq_true] at h ⊢
 intro t ht
 rw [List.mem_range,Array.size_setIfInBounds] at ht
 have h1:=h t (List.mem_range.2 ht)
 by_cases e:j=t
 ·subst e
  rw [hj]
  rfl
 ·rw [getD_set_ne false e]
  exact h1
def zd4 (P:Program) (md:Region.Mode) (ops:Array Oper) (Q:Exit→Act→World→Prop) (S:World→Prop) (T:Nat→Bool):Nat→Array Bool→Act→World→Prop
 | 0,listed,a,w=>Region.ready md ops listed=[]∧Q .normal a w
 | fuel+1,listed,a,w=>
   (Region.ready md ops listed=[]→Q .normal a w)∧
   ∀ i∈Region.ready md ops listed,wpOp P ops Q i (fun a' w'=>(ze0 T (listed.setIfInBounds i true)=true→S w')∧zd4 P md ops Q S T fuel (listed.setIfInBounds i true) a' w') a w
theorem zeu:∀ (fuel:Nat) (listed:Array Bool) (a:Act) (w:World),zd4 P md ops Q S T fuel listed a w→wpAny P md ops Q fuel listed a w
 | 0,_,_,_,h=>h
 | fuel+1,_,_,_,h=>⟨h.1,fun i hi=>wpOp_mono (fun a' w' h'=>zeu fuel _ a' w' h'.2) (h.2 i hi)⟩
def zu2 (md:Region.Mode) (ops:Array Oper) (T:Nat→Bool) (i:Nat):Bool:=
 (List.range ops.size).all fun j=>!(T j) || j == i || ((ops[j]?.map fun o=>o.after.any fun e=>Region.binds md e && e.on == i).getD false)
theorem zqm {i:Nat} (h:zu2 md ops T i=true):∀ (j:Nat) (oj:Oper),ops[j]?=some oj→T j=true→j≠i→∃ e∈oj.after,Region.binds md e=true∧e.on=i:=by
 intro j oj hj hT hne
 have hlt:j < ops.size:=(Array.getElem?_eq_some_iff.1 hj).1
 unfold zu2 at h
 rw [List.all_eq_true] at h
 have h1:=h j (List.mem_range.2 hlt)
 rw [hT,hj] at h1
 have h2:(j == i)=false:=by simpa using hne
 rw [h2] at h1
 simp only [Bool.not_true,Bool.false_or,Option.map_some,Option.getD_some,Array.any_eq_true] at h1
 obtain ⟨k,hk,h3⟩:=h1
 rw [Bool.and_eq_true,beq_iff_eq] at h3
 exact ⟨_,Array.getElem_mem hk,h3.1,h3.2⟩
theorem zh2 {i:Nat} {oi:Oper} {v:Value} (S':World→Prop) (hi:ops[i]?=some oi) (hsel:∀ (j:Nat) (o:Oper) cs b,ops[j]?=some o→o.op≠.select cs b)
 (hQ:∀ c a w,Q (.panic c) (a.put oi.dst v) w→Q (.panic c) a w) (hd:((∀ w,S w→S' w)∧T i=false∧∀ (j:Nat) (oj:Oper),ops[j]?=some oj→T j=true→j≠i→∃ e∈oj.after,Region.binds md e=true∧e.on=i)∨∀ w,S' w):
 ∀ (fuel:Nat) (listed:Array Bool) (a:Act) (w:World),
  (∀ j oj,ops[j]?=some oj→j≠i→listed.getD j true=false→(∀ e∈oj.after,Region.binds md e=true→e.on≠i)→oi.apart ops oj=true)→
  i∈Region.ready md ops listed→YieldsIf P ops S' oi v a→S' w→(ze0 T (listed.setIfInBounds i true)=true→S w)→(ze0 T listed=true∨∀ w,S' w)→(T i=false)→
  zd4 P md ops Q S T fuel (listed.setIfInBounds i true) (a.put oi.dst v) w→zd4 P md ops Q S T (fuel+1) listed a w:=by
 intro fuel
 induction fuel with
 | zero=>
   intro listed a w _ hr hy hS hS2 _ _ H
   refine ⟨fun h=>(by rw [h] at hr;cases hr),fun j hj=>?_⟩
   by_cases hji:j=i
   ·subst hji;exact hy.wpOp hi hS ⟨hS2,H⟩
   ·have:=ready_mono hj hji
    rw [H.1] at this
    cases this
 | succ fuel ih=>
   intro listed a w hfree hr hy hS hS2 hno hTi H
   refine ⟨fun h=>(by rw [h] at hr;cases hr),fun j hj=>?_⟩
   by_cases hji:j=i
   ·subst hji;exact hy.wpOp hi hS ⟨hS2,H⟩
   ·have h1:=H.2 j (ready_mono hj hji)
    obtain ⟨hjun,oj,hoj,hall⟩:=mem_ready.1 hj
    have hnot:∀ e∈oj.after,Region.binds md e=true→e.on≠i:=fun e he hb heq=>by
     have h1:=hall e he hb
     have h0:=(mem_ready.1 hr).1
     rw [heq] at h1
     rcases Nat.lt_or_ge i listed.size with h' | h'
     ·simp [h'] at h0 h1;rw [h0] at h1;cases h1
     ·simp [Array.getElem?_eq_none h'] at h1
    have hcomm:(listed.setIfInBounds i true).setIfInBounds j true=(listed.setIfInBounds j true).setIfInBounds i true:=Array.setIfInBounds_comm _ _ (fun e=>hji e.symm)
    have h2:=wpOp_putIf hoj (hfree j oj hoj hji hjun hnot) (fun cs b=>hsel i oi cs b hi) (fun cs b=>hsel j oj cs b hoj) hQ hy h1
    have hfree':∀ k ok,ops[k]?=some ok→k≠i→(listed.setIfInBounds j true).getD k true=false→
     (∀ e∈ok.after,Region.binds md e=true→e.on≠i)→oi.apart ops ok=true:=fun k ok hk hki hun hno=>by
     refine hfree k ok hk hki ?_ hno
     by_cases hjk:j=k
     ·subst hjk;exact hjun
     ·rw [getD_set_ne true hjk] at hun;exact hun
    have hno2:ze0 T (listed.setIfInBounds j true)=true∨∀ w,S' w:=by
     rcases hd with ⟨_,_,hT⟩ | hd
     ·rcases hno with hno | hno
      ·refine .inl (zhi hno ?_)
       cases q:T j with
       | false=>rfl
       | true=>
         obtain ⟨e,he,hb,hon⟩:=hT j oj hoj q hji
         exact absurd hon (hnot e he hb)
      ·exact .inr hno
     ·exact .inr hd
    have hback:∀ w',(ze0 T ((listed.setIfInBounds i true).setIfInBounds j true)=true→S w')→S' w':=fun w' hw=>by
     rcases hno2 with h | h
     ·rcases hd with ⟨hSS,_⟩ | hd
      ·exact hSS w' (hw (by rw [hcomm];exact zhi h hTi))
      ·exact hd w'
     ·exact h w'
    refine wpOp_mono (fun a' w' h3=>⟨fun q=>h3.2.1 (by rw [hcomm];exact zhi q hTi),ih (listed.setIfInBounds j true) a' w' hfree' (ready_mono hr (Ne.symm hji)) h3.1 (hback w' h3.2.1) (fun q=>h3.2.1 (by rw [hcomm];exact q)) hno2 hTi ?_⟩) h2
    rw [← hcomm]
    exact h3.2.2
theorem zbk {i:Nat} {oi:Oper} {v:Value} {fuel:Nat} {listed:Array Bool} {a:Act} {w:World} (hi:ops[i]?=some oi)
 (hs:Region.noSelect ops=true) (hf:Region.free md ops listed i=true) (hr:(Region.ready md ops listed).contains i=true) (hTi:T i=false) (hT:zu2 md ops T i=true) (hno:ze0 T listed=true)
 (hQ:∀ c a w,Q (.panic c) (a.put oi.dst v) w→Q (.panic c) a w) (hy:YieldsIf P ops S oi v a) (hS:S w)
 (h:zd4 P md ops Q S T fuel (listed.setIfInBounds i true) (a.put oi.dst v) w):zd4 P md ops Q S T (fuel+1) listed a w:=
 zh2 S hi (Region.noSelect_spec hs) hQ (.inl ⟨fun _ h=>h,hTi,zqm hT⟩) fuel listed a w (Region.free_spec hi hf) (by simpa using hr) hy hS (fun _=>hS) (.inl hno) hTi h
theorem zce {i:Nat} {oi:Oper} {v:Value} {fuel:Nat} {listed:Array Bool} {a:Act} {w:World} (hi:ops[i]?=some oi)
 (hs:Region.noSelect ops=true) (hf:Region.free md ops listed i=true) (hr:(Region.ready md ops listed).contains i=true) (hTi:T i=false)
 (hQ:∀ c a w,Q (.panic c) (a.put oi.dst v) w→Q (.panic c) a w) (hy:YieldsIf P ops (fun _=>True) oi v a) (hS:ze0 T (listed.setIfInBounds i true)=true→S w)
 (h:zd4 P md ops Q S T fuel (listed.setIfInBounds i true) (a.put oi.dst v) w):zd4 P md ops Q S T (fuel+1) listed a w:=
 zh2 (fun _=>True) hi (Region.noSelect_spec hs) hQ (.inr fun _=>trivial) fuel listed a w (Region.free_spec hi hf) (by simpa using hr) hy trivial hS (.inr fun _=>trivial) hTi h
theorem zd5 {listed:Array Bool} {a:Act} {w:World} (hr:Region.ready md ops listed=[]) (h:Q .normal a w):
 ∀ fuel,zd4 P md ops Q S T fuel listed a w
 | 0=>⟨hr,h⟩
 | _+1=>⟨fun _=>h,by rw [hr];simp⟩
def zan (P:Program) (md:Region.Mode) (ops:Array Oper) (Q:Exit→Act→World→Prop) (S:World→Prop) (T:Nat→Bool) (fuel:Nat) (listed:Array Bool) (a:Act) (w:World) (rs:List Nat):Prop:=
 ∀ i∈rs,wpOp P ops Q i (fun a' w'=>(ze0 T (listed.setIfInBounds i true)=true→S w')∧zd4 P md ops Q S T fuel (listed.setIfInBounds i true) a' w') a w
theorem zan.nil {fuel:Nat} {listed:Array Bool} {a:Act} {w:World}:zan P md ops Q S T fuel listed a w []:=fun _ h=>by cases h
theorem zan.cons {fuel:Nat} {listed:Array Bool} {a:Act} {w:World} {i:Nat} {o:Oper} {rs:List Nat} (ho:ops[i]?=some o)
 (h:∀ K':Act→World→Prop,Shut (∀ a w,S w→(S w→zd4 P md ops Q S T fuel (listed.setIfInBounds i true) a w)→K' a w)→if Region.wanted o (yielded ops a.tmps)=true then Oper.wp P o a w K' Q else K' (a.put o.dst undef) w)
 (hs:zan P md ops Q S T fuel listed a w rs):zan P md ops Q S T fuel listed a w (i::rs):=fun j hj=>by
 rcases List.mem_cons.1 hj with rfl | hj
 ·exact wpOp_step ho (fun K' hK=>h K' (fun a w hS hW=>hK a w ⟨fun _=>hS,hW hS⟩))
 ·exact hs j hj
theorem zan.late {fuel:Nat} {listed:Array Bool} {a:Act} {w:World} {i:Nat} {o:Oper} {rs:List Nat} (ho:ops[i]?=some o) (hT:ze0 T (listed.setIfInBounds i true)=false)
 (h:∀ K':Act→World→Prop,Shut (∀ a w,zd4 P md ops Q S T fuel (listed.setIfInBounds i true) a w→K' a w)→if Region.wanted o (yielded ops a.tmps)=true then Oper.wp P o a w K' Q else K' (a.put o.dst undef) w)
 (hs:zan P md ops Q S T fuel listed a w rs):zan P md ops Q S T fuel listed a w (i::rs):=fun j hj=>by
 rcases List.mem_cons.1 hj with rfl | hj
 ·exact wpOp_step ho (fun K' hK=>h K' (fun a w hW=>hK a w ⟨(fun q=>by rw [hT] at q;cases q),hW⟩))
 ·exact hs j hj
theorem zay {rs:List Nat} {fuel:Nat} {listed:Array Bool} {a:Act} {w:World} (hr:Region.ready md ops listed=rs) (hne:rs≠[])
 (h:zan P md ops Q S T fuel listed a w rs):zd4 P md ops Q S T (fuel+1) listed a w:=⟨fun h0=>absurd (hr ▸ h0) hne,hr ▸ h⟩
theorem zfu {id:Nat} {a:Act} {w:World} (T:Nat→Bool) (hm:P.follows .mixedOrders=true) (hS:S w.drew)
 (h:S w.drew→zd4 P .any ops Q S T ops.size (Array.replicate ops.size false) a w.drew):(Code.region id ops true).wp P Q a w:=
 wp_region_any hm (zeu _ _ _ _ (h hS))
end
end Go
