/- Texts of one kind, one behind the other: each says ahead of itself what it shows. -/
import Derived.Test.YteclpnfckjfibaaGreatDoorBap
import Derived.Deep.CutBlock
import Derived.Test.YteclpnfckjfibaaGreatDoorBao
import Derived.Test.YteclpnfckjfibaaGreatDoorBae
/- DDW1 -/
namespace Go.Proofs.YteclpnfckjfibaaGreatDoor
open Go.RowKit
structure zg1 (w:World) (neg:Bool) (v:Value) (sc:Nat) (s6:Value) (l:List UInt8) (wr:World):Prop where
 own:wr.ownsRow (w.heap.size+1) 5 1 s6 l.length (vals l)
 rc:Rec wr w.heap.size neg v sc
 bel:Below w.heap.size w wr
theorem zg1.app {w wr w1:World} {neg:Bool} {v s6 v':Value} {sc n:Nat} {l:List UInt8} {o:Obj} {c:UInt8} {x:Int} (h:zg1 w neg v sc s6 l wr) (hx:(c.toNat:Int)=x)
 (hown:w1.ownsRow (w.heap.size+1) 5 1 v' n (vals l++[.int .u8 x])) (hn:n=l.length+1) (hg:(wr.alloc o).grownBy w1 s6.ownBlock):zg1 w neg v sc v' (l++[c]) w1:=by
 have hne:some w.heap.size≠s6.ownBlock:=fun e=>by have:=(h.own.lt _ e.symm).1;omega
 have hb:Below w.heap.size w w1:=(h.bel.alloc h.bel.size o).grown hg (by have:=h.bel.size;simp;omega) (fun k hk=>by have:=(h.own.lt k hk).1;omega)
 refine ⟨?_,(hg.block _ (zaa (h.rc.alloc o)) hne).trans (h.rc.alloc o),hb⟩
 subst hx hn
 rw [List.length_append]
 unfold vals at hown ⊢
 simpa using hown
theorem zg1.conv {w wr:World} {neg:Bool} {v s6:Value} {sc:Nat} {l:List UInt8} (h:zg1 w neg v sc s6 l wr) (hne:l≠[]):
 ∃ g cap,s6=.slice (some ⟨g,0,none⟩) l.length cap∧(convert 101 9 (.slice (some ⟨g,0,none⟩) l.length cap)).run Tryz.prog wr=.ok (.string (bs l)) wr:=by
 have hl:0 < l.length:=List.length_pos_iff.2 hne
 rcases h.own.2 with ⟨e,h0⟩ | ⟨g,cap,cur,e,_,_⟩
 ·exact absurd (List.length_eq_zero_iff.1 h0) hne
 ·refine ⟨g,cap,e,?_⟩
  have hown:=h.own
  subst e
  exact run_convert_bytes_back (P:=Tryz.prog) wr 101 9 5 ⟨g,0,none⟩ cap l Tryz.underlying101 Tryz.underlying5 Tryz.underlying9 (fun j hj=>by
   rw [Addr.add_mid,Nat.zero_add,hown.cellAt j (by omega)]
   unfold vals
   rw [List.getElem?_map,List.getElem?_eq_getElem hj]
   rfl)
set_option maxRecDepth 20000 in
set_option maxHeartbeats 3200000 in
theorem refForm (neg:Bool) (v:Value) (ds:List Nat) (sc:Nat) (w:World) (h:Ints w v ds) (hs:zd7 ds) (l1:sc≤1000000000) (l2:ds.length≤1000000000):
 Calls Tryz.prog 220 #[numR neg v sc] w fun e w'=>e=.returned (said (zpe neg ds sc))∧Below w.heap.size w w':=by
 unfold numR
 obtain ⟨i0,hi,hz0,hz1,hz2⟩:=info_parts ze2
 obtain ⟨t,er,hv0⟩:=ziv (zpe neg ds sc)
 rw [hv0]
 have HV0:=Lib.hid hv0
 have HI:=Lib.hid h
 have HS:=Lib.hid hs
 have HF:=h.form
 obtain ⟨p,cap,rfl⟩:=HF
 obtain ⟨n,hn⟩:∃ n,n=ds.length:=⟨_,rfl⟩
 rw [← hn] at l2 ⊢
 have HN:=Lib.hid hn
 have k0:Rec (w.alloc (.cells #[.bool neg,.slice p ds.length cap,.int .i64 sc] 224)) w.heap.size neg (.slice p ds.length cap) sc:=zah _ _ rfl
 have hb0:Below w.heap.size w (w.alloc (.cells #[.bool neg,.slice p ds.length cap,.int .i64 sc] 224)):=(Below.refl _ _).alloc (Nat.le_refl _) _
 rw [← hn] at k0 hb0
 have K0:=Lib.hid (And.intro k0 hb0)
 clear h hs hv0 hn k0 hb0
 go_enter Tryz.func220,Tryz.ntmps220
 go_upto_block 0 with fail
 go_cut [4] (fun s4 wx=>∃ low:Nat,s4=.int .i64 low∧wx=w.alloc (.cells #[.bool neg,.slice p n cap,.int .i64 sc] 224)∧low≤sc∧Aside ((∀ j,j < low→dig ds j=0)∧(low=sc∨dig ds low≠0)))
 case first=>
  go_wp2_with fail
  go_loopg [4] sc (fun gg s4 wr=>∃ low:Nat,low+gg=sc∧s4=.int .i64 low∧wr=w.alloc (.cells #[.bool neg,.slice p n cap,.int .i64 sc] 224)∧Aside (∀ j,j < low→dig ds j=0))
  case atStart=>exact ⟨0,by omega,rfl,rfl,fun j hj=>absurd hj (Nat.not_lt_zero j)⟩
  case round=>
   obtain ⟨low,hl,rfl,rfl,hz⟩:=hrel
   have HZ:=Lib.hid hz.out
   clear hz
   by_cases h1:(low:Int) < sc
   ·obtain ⟨x,hx⟩:∃ x,x=dig ds low:=⟨_,rfl⟩
    have K1:=Lib.hid hx
    have IW:Hid (Ints (w.alloc (.cells #[.bool neg,.slice p n cap,.int .i64 sc] 224)) (.slice p n cap) ds):=Lib.hid (by have:=HI.out;rw [← HN.out] at this;exact this.below K0.out.2)
    by_cases h2:(x:Int)=0
    ·have hz2:∀ j,j < low+1→dig ds j=0:=fun j hj=>by
      rcases Nat.lt_or_ge j low with h3 | h3
      ·exact HZ.out j h3
      ·rw [show j=low by omega,← hx];omega
     have HZ2:=Lib.hid hz2
     clear hz2 hx HZ
     go_wp2_with (go_at_call 248;(with_reducible refine (zru _ ds low x _ IW.out K1).mono ?_);rintro e w' ⟨rfl,rfl⟩)
     go_roundg (gk - 1)
     case measure=>omega
     case rel=>exact ⟨low+1,by omega,by go_num,rfl,HZ2.out⟩
    ·have hx2:dig ds low≠0:=by rw [← hx];omega
     have HX2:=Lib.hid hx2
     have h2b:((x:Int) == 0)=false:=by simpa using h2
     clear hx hx2
     go_wp2_with (go_at_call 248;(with_reducible refine (zru _ ds low x _ IW.out K1).mono ?_);rintro e w' ⟨rfl,rfl⟩)
     go_meet
     case rel=>exact ⟨low,rfl,rfl,by omega,HZ.out,.inr HX2.out⟩
   ·go_wp2_with fail
    go_meet
    case rel=>exact ⟨low,rfl,rfl,by omega,HZ.out,.inl (by omega)⟩
 case rest=>
  obtain ⟨low,rfl,rfl,hlow,hz⟩:=hcut
  have HL:=Lib.hid hz.out
  clear hz
  go_upto_block 2 with fail
  go_cut [5] (fun s5 wx=>∃ high:Nat,s5=.int .i64 high∧wx=w.alloc (.cells #[.bool neg,.slice p n cap,.int .i64 sc] 224)∧high≤n∧Aside ((∀ j,high≤j→dig ds j=0)∧(high≤sc+1∨dig ds (high - 1)≠0)))
  case first=>
   go_wp2_with fail
   go_loopg [5] n (fun gg s5 wr=>∃ high:Nat,high=gg∧s5=.int .i64 high∧wr=w.alloc (.cells #[.bool neg,.slice p n cap,.int .i64 sc] 224)∧high≤n∧Aside (∀ j,high≤j→dig ds j=0))
   case atStart=>exact ⟨n,rfl,rfl,rfl,Nat.le_refl _,fun j hj=>zhj (by rw [← HN.out];exact hj)⟩
   case round=>
    obtain ⟨high,rfl,rfl,rfl,hh,hz⟩:=hrel
    have HZ:=Lib.hid hz.out
    clear hz
    by_cases h1:(high:Int) > sc+1
    ·obtain ⟨k,hk⟩:∃ k:Nat,(high:Int) - 1=k:=⟨high - 1,by omega⟩
     have hk2:high=k+1:=by omega
     have HK:=Lib.hid hk2
     clear hk2
     have hcell:∃ b off,p=some ⟨b,off,none⟩∧w.cell? ⟨b,off+k,none⟩=some (.int .i64 (dig ds k)):=by
      rcases HI.out with ⟨e,e2⟩ | ⟨b,off,cap2,e,hc,_⟩
      ·have:=HN.out;rw [e2] at this;simp at this;omega
      ·injection e with e1 e2 e3
       exact ⟨b,off,e1,hc k (by rw [← HN.out];omega)⟩
     obtain ⟨b,off,rfl,hc⟩:=hcell
     have c1:=(K0.out.2.cell (p:=⟨b,off+k,none⟩) (World.block_lt_of_cell? w _ hc)).trans hc
     obtain ⟨x,hx⟩:∃ x,x=dig ds k:=⟨_,rfl⟩
     rw [← hx] at c1
     clear hc
     by_cases h2:(x:Int)=0
     ·have hz2:∀ j,k≤j→dig ds j=0:=fun j hj=>by
       rcases Nat.lt_or_ge k j with h3 | h3
       ·exact HZ.out j (by omega)
       ·rw [show j=k by omega,← hx];omega
      have HZ2:=Lib.hid hz2
      clear hz2 hx HZ
      rw [h2] at c1
      go_wp2_with fail
      go_roundg k
      case measure=>omega
      case rel=>exact ⟨k,rfl,rfl,rfl,by omega,HZ2.out⟩
     ·have hx2:dig ds k≠0:=by rw [← hx];omega
      have HX2:=Lib.hid hx2
      have h2b:((x:Int) == 0)=false:=by simpa using h2
      clear hx hx2
      go_wp2_with fail
      go_meet
      case rel=>exact ⟨high,rfl,rfl,by omega,HZ.out,.inr (by rw [show high - 1=k by omega];exact HX2.out)⟩
    ·go_wp2_with fail
     go_meet
     case rel=>exact ⟨high,rfl,rfl,by omega,HZ.out,.inl (by omega)⟩
  case rest=>
   obtain ⟨h0,rfl,rfl,hh0,hz⟩:=hcut
   have HH:=Lib.hid hz.out
   clear hz
   go_upto_if 44 with fail
   go_cut [5] (fun s5 wx=>∃ high:Nat,s5=.int .i64 high∧wx=w.alloc (.cells #[.bool neg,.slice p n cap,.int .i64 sc] 224)∧high≤2000000001∧sc+1≤high∧Hid (Ends ds sc low high))
   case first=>
    by_cases h1:(h0:Int)≤sc
    ·have HE:Hid (Ends ds sc low (sc+1)):=Lib.hid ⟨hlow,HL.out.1,HL.out.2,Nat.le_refl _,fun j hj=>HH.out.1 j (by omega),.inl rfl⟩
     go_wp2_with fail
     go_meet
     case rel=>exact ⟨sc+1,by go_num,rfl,by omega,Nat.le_refl _,HE⟩
    ·have HE:Hid (Ends ds sc low h0):=Lib.hid ⟨hlow,HL.out.1,HL.out.2,by omega,HH.out.1,by rcases HH.out.2 with k | k;left;omega;exact .inr k⟩
     go_wp2_with fail
     go_meet
     case rel=>exact ⟨h0,rfl,rfl,by omega,by omega,HE⟩
   case rest=>
    clear HL HH hh0
    obtain ⟨high,rfl,rfl,hh,hsc,HE⟩:=hcut
    have hform:=HE.out.form HS.out neg
    by_cases hov:high - sc > 40∨sc - low > 20
    ·rw [if_pos hov] at hform
     have hr:t=bs []∧er=2:=by
      have:=HV0.out
      rw [hform] at this
      simp [said] at this
      exact ⟨this.1.symm,this.2.symm⟩
     obtain ⟨rfl,rfl⟩:=hr
     clear hform
     by_cases hov1:(high:Int) - sc > 40
     ·clear hov
      go_wp2_with fail
      go_ret2
      exact ⟨rfl,K0.out.2⟩
     ·have hov2:(sc:Int) - low > 20:=by omega
      clear hov
      go_wp2_with fail
      go_ret2
      exact ⟨rfl,K0.out.2⟩
    ·rw [if_neg hov] at hform
     obtain ⟨T,hT⟩:∃ T,T=((if (neg && !decide (zdi ds=0))=true then [45] else [])++(dn ds sc (high - sc)++46::(if low=sc then [48] else dn ds low (sc - low)))):=⟨_,rfl⟩
     rw [← hT] at hform
     have hr:t=bs T∧er=0:=by
      have:=HV0.out
      rw [hform] at this
      simp [said] at this
      exact ⟨this.1.symm,this.2.symm⟩
     obtain ⟨rfl,rfl⟩:=hr
     have HT:=Lib.hid hT
     clear hform hT HV0
     have o1:(high:Int) - sc≤40:=by omega
     have o2:(sc:Int) - low≤20:=by omega
     clear hov
     obtain ⟨d,hd⟩:∃ d:Bool,d=decide (zdi ds=0):=⟨_,rfl⟩
     obtain ⟨S,hS⟩:∃ S:List UInt8,S=if (neg && !d)=true then [45] else []:=⟨_,rfl⟩
     have HD:=Lib.hid hd
     have HSS:=Lib.hid hS
     have hsd:S=if (neg && !decide (zdi ds=0))=true then [45] else []:=by rw [hS,hd]
     have HSD:=Lib.hid hsd
     clear hsd
     have hS1:S.length≤1:=by rw [hS];split <;> simp
     clear hd hS
     go_upto_region 12 with fail
     go_cut [67] (fun s67 wx=>s67=.bool (neg && !d)∧wx=w.alloc (.cells #[.bool neg,.slice p n cap,.int .i64 sc] 224))
     case first=>
      have IW:Hid (Ints (w.alloc (.cells #[.bool neg,.slice p n cap,.int .i64 sc] 224)) (.slice p n cap) ds):=Lib.hid (by have:=HI.out;rw [← HN.out] at this;exact this.below K0.out.2)
      have hn63:ds.length≤9223372036854775807:=by have:=HN.out;omega
      have HN63:=Lib.hid hn63
      clear hn63
      cases neg with
      | false=>
        go_wp2_with fail
        go_meet
        case rel=>exact ⟨rfl,rfl⟩
      | true=>
        cases d with
        | false=>
          go_wp2_with (go_at_call 215;(with_reducible refine (zvj _ ds _ IW.out HN63.out false HD.out).mono ?_);rintro e w' ⟨rfl,rfl⟩)
          go_meet
          case rel=>exact ⟨rfl,rfl⟩
        | true=>
          go_wp2_with (go_at_call 215;(with_reducible refine (zvj _ ds _ IW.out HN63.out true HD.out).mono ?_);rintro e w' ⟨rfl,rfl⟩)
          go_meet
          case rel=>exact ⟨rfl,rfl⟩
     case rest=>
      obtain ⟨rfl,rfl⟩:=hcut
      obtain ⟨m,hm⟩:∃ m:Bool,m=(neg && !d):=⟨_,rfl⟩
      rw [← hm] at HSS ⊢
      have HM:=Lib.hid hm
      clear hm
      go_upto_if 67 with fail
      go_cut [6] (fun s6 wx=>zg1 w neg (.slice p n cap) sc s6 S wx)
      case first=>
       have F0:zg1 w neg (.slice p n cap) sc (.slice none 0 0) [] (w.alloc (.cells #[.bool neg,.slice p n cap,.int .i64 sc] 224)):=⟨World.ownsRow_nil _ _ _ _,K0.out.1,K0.out.2⟩
       have FH:=Lib.hid F0
       clear F0
       cases m with
       | false=>
         have e:S=[]:=by rw [HSS.out];rfl
         go_wp2_with fail
         go_meet
         case rel=>rw [e];exact FH.out
       | true=>
         have e:S=[45]:=by rw [HSS.out];rfl
         have hown:=FH.out.own
         have HE1:=Lib.hid e
         clear e
         go_wp2_with (at_builtin;refine wpList_append_own _ rfl _ _ 101 rfl (w.heap.size+1) 5 i0 (.int .u8 0) 1 1 Tryz.underlying101 hi hz0 hz1 hz2 rfl (by decide) _ _ _ rfl (hown.alloc _) ⟨w.heap.size+1,0,none⟩ 1 1 [.int .u8 45] rfl rfl ?_ ?_ ?_ ?_ ?_ ?_)
         all_goals (try (first | rfl |(unfold maxLen;omega) | omega |(have:=FH.out.bel.size;simp;omega) |(intro j u hj;match j,hj with | 0,hj=>(simp at hj;subst hj;simp [Addr.add])) |(intro u hu;simp at hu;subst hu;rfl)))
         ·intro v' w1 hown' hgrow _
          have F1:=FH.out.app (c:=45) rfl hown' rfl hgrow
          clear hown' hgrow hown
          go_wp2_with fail
          go_meet
          case rel=>rw [HE1.out];exact F1
      case rest=>
       obtain ⟨G,hG⟩:∃ G:List UInt8,G=S++dn ds sc (high - sc):=⟨_,rfl⟩
       have HG:=Lib.hid hG
       have hGl:G.length≤41:=by rw [hG,List.length_append,zmi];omega
       have HGL:=Lib.hid hGl
       have HX:=HS.out
       have HSX:=Lib.hid HX
       clear hG hGl HX HSS HD HM K0
       rename_i s6
       have FC:=Lib.hid hcut
       clear hcut
       go_wp2_with fail
       go_loopg [6,7] (high - sc) (fun gg s6 s7 wr=>∃ (l:List UInt8) (i:Int),i+1=sc+gg∧s7=.int .i64 i∧l.length+gg≤41∧zg1 w neg (.slice p n cap) sc s6 l wr∧Hid (l++dn ds sc gg=G))
       case atStart=>exact ⟨S,_,by omega,rfl,by omega,FC.out,Lib.hid HG.out.symm⟩
       case round=>
        clear FC
        obtain ⟨l,i,hig,rfl,hlen,F,HL⟩:=hrel
        have c1:=F.rc.c1
        have c2:=F.rc.c2
        by_cases h1:i ≥ sc
        ·obtain ⟨j,rfl⟩:=Int.eq_ofNat_of_zero_le (show 0≤i by omega)
         obtain ⟨x,hx⟩:∃ x,x=dig ds j:=⟨_,rfl⟩
         have hx9:=HSX.out j
         rw [← hx] at hx9
         have hcx:((bAt ds j).toNat:Int)=48+x:=by rw [zff HSX.out,← hx];omega
         have hlist:l++[bAt ds j]++dn ds sc (gk - 1)=G:=by
          have:=HL.out
          rw [show gk=gk - 1+1 by omega] at this
          rw [← this,List.append_assoc]
          show l++(bAt ds j::dn ds sc (gk - 1))=l++(bAt ds (sc+(gk - 1))::dn ds sc (gk - 1))
          rw [show sc+(gk - 1)=j by omega]
         have HC:=Lib.hid (And.intro hcx hlist)
         have K1:=Lib.hid hx
         have hw1:IntKind.u8.wrap (48+(x:Int))=48+x:=by unfold IntKind.wrap;simp [IntKind.bits,IntKind.signed];omega
         have IW:Hid (Ints wr (.slice p n cap) ds):=Lib.hid (by have:=HI.out;rw [← HN.out] at this;exact this.below F.bel)
         have hown:=F.own
         have hsz:=F.bel.size
         have hgt:=F.rc.lt
         clear hcx hlist hx
         go_wp2_with (first
          |(go_at_call 248;(with_reducible refine (zru _ ds j x _ IW.out K1).mono ?_);rintro e w' ⟨rfl,rfl⟩)
          |(at_builtin;refine wpList_append_own _ rfl _ _ 101 rfl (w.heap.size+1) 5 i0 (.int .u8 0) 1 1 Tryz.underlying101 hi hz0 hz1 hz2 rfl (by decide) _ _ _ rfl (hown.alloc _) ⟨wr.heap.size,0,none⟩ 1 1 [.int .u8 (48+(x:Int))] rfl rfl ?_ ?_ ?_ ?_ ?_ ?_))
         all_goals (try (first | rfl |(unfold maxLen;omega) | omega |(have:=F.bel.size;simp;omega) |(intro j u hj;match j,hj with | 0,hj=>(simp at hj;subst hj;simp [Addr.add])) |(intro u hu;simp at hu;subst hu;rfl)))
         ·intro v' w1 hown' hgrow _
          have F1:=F.app HC.out.1 hown' rfl hgrow
          clear hown' hgrow hown c1 c2 hw1
          go_wp2_with fail
          go_roundg (gk - 1)
          case measure=>omega
          case rel=>exact ⟨l++[bAt ds j],(j:Int) - 1,by omega,by go_num,by simp;omega,F1,Lib.hid HC.out.2⟩
        ·have hl:l=G:=by
          have:=HL.out
          rw [show gk=0 by omega] at this
          rw [← this];exact (List.append_nil l).symm
         have HLG:=Lib.hid hl
         have hown:=F.own
         have hsz:=F.bel.size
         have hgt:=F.rc.lt
         clear hl
         go_wp2_with (at_builtin;refine wpList_append_own _ rfl _ _ 101 rfl (w.heap.size+1) 5 i0 (.int .u8 0) 1 1 Tryz.underlying101 hi hz0 hz1 hz2 rfl (by decide) _ _ _ rfl (hown.alloc _) ⟨wr.heap.size,0,none⟩ 1 1 [.int .u8 46] rfl rfl ?_ ?_ ?_ ?_ ?_ ?_)
         all_goals (try (first | rfl |(unfold maxLen;omega) | omega |(have:=F.bel.size;simp;omega) |(intro j u hj;match j,hj with | 0,hj=>(simp at hj;subst hj;simp [Addr.add])) |(intro u hu;simp at hu;subst hu;rfl)))
         ·intro v' w1 hown' hgrow _
          have F1:=F.app (c:=46) rfl hown' rfl hgrow
          have FC:=Lib.hid F1
          have d2:=F1.rc.c2
          obtain ⟨G2,hG2⟩:∃ G2:List UInt8,G2=l++[46]++dn ds low (sc - low):=⟨_,rfl⟩
          have HG2:=Lib.hid hG2
          have hlb:(l++[46]).length≤42:=by rw [List.length_append,HLG.out];have:=HGL.out;simp;omega
          have HLB:=Lib.hid hlb
          clear hlb hG2 F1 hown' hgrow hown c1 c2 F HL hlen hig
          go_wp2_with fail
          clear d2
          go_loopg [6,8] (sc - low) (fun gg s6 s8 wq=>∃ (l2:List UInt8) (i2:Int),i2+1=low+gg∧s8=.int .i64 i2∧l2.length+gg≤62∧zg1 w neg (.slice p n cap) sc s6 l2 wq∧Hid (l2++dn ds low gg=G2))
          case atStart=>exact ⟨l++[46],_,by omega,rfl,by have:=HLB.out;omega,FC.out,Lib.hid HG2.out.symm⟩
          case round=>
           clear FC
           obtain ⟨l2,i2,hig2,rfl,hlen2,F2,HL2⟩:=hrel
           have c1:=F2.rc.c1
           have c2:=F2.rc.c2
           by_cases h2:i2 ≥ low
           ·obtain ⟨j,rfl⟩:=Int.eq_ofNat_of_zero_le (show 0≤i2 by omega)
            obtain ⟨x,hx⟩:∃ x,x=dig ds j:=⟨_,rfl⟩
            have hx9:=HSX.out j
            rw [← hx] at hx9
            have hcx:((bAt ds j).toNat:Int)=48+x:=by rw [zff HSX.out,← hx];omega
            have hlist:l2++[bAt ds j]++dn ds low (gk - 1)=G2:=by
             have:=HL2.out
             rw [show gk=gk - 1+1 by omega] at this
             rw [← this,List.append_assoc]
             show l2++(bAt ds j::dn ds low (gk - 1))=l2++(bAt ds (low+(gk - 1))::dn ds low (gk - 1))
             rw [show low+(gk - 1)=j by omega]
            have HC:=Lib.hid (And.intro hcx hlist)
            have K1:=Lib.hid hx
            have hw1:IntKind.u8.wrap (48+(x:Int))=48+x:=by unfold IntKind.wrap;simp [IntKind.bits,IntKind.signed];omega
            have IW:Hid (Ints wr (.slice p n cap) ds):=Lib.hid (by have:=HI.out;rw [← HN.out] at this;exact this.below F2.bel)
            have hown:=F2.own
            have hsz:=F2.bel.size
            have hgt:=F2.rc.lt
            clear hcx hlist hx
            go_wp2_with (first
             |(go_at_call 248;(with_reducible refine (zru _ ds j x _ IW.out K1).mono ?_);rintro e w' ⟨rfl,rfl⟩)
             |(at_builtin;refine wpList_append_own _ rfl _ _ 101 rfl (w.heap.size+1) 5 i0 (.int .u8 0) 1 1 Tryz.underlying101 hi hz0 hz1 hz2 rfl (by decide) _ _ _ rfl (hown.alloc _) ⟨wr.heap.size,0,none⟩ 1 1 [.int .u8 (48+(x:Int))] rfl rfl ?_ ?_ ?_ ?_ ?_ ?_))
            all_goals (try (first | rfl |(unfold maxLen;omega) | omega |(have:=F2.bel.size;simp;omega) |(intro j u hj;match j,hj with | 0,hj=>(simp at hj;subst hj;simp [Addr.add])) |(intro u hu;simp at hu;subst hu;rfl)))
            ·intro v' w1 hown' hgrow _
             have F1:=F2.app HC.out.1 hown' rfl hgrow
             clear hown' hgrow hown c1 c2 hw1
             go_wp2_with fail
             go_roundg (gk - 1)
             case measure=>omega
             case rel=>exact ⟨l2++[bAt ds j],(j:Int) - 1,by omega,by go_num,by simp;omega,F1,Lib.hid HC.out.2⟩
           ·have hl2:l2=G2:=by
             have:=HL2.out
             rw [show gk=0 by omega] at this
             rw [← this];exact (List.append_nil l2).symm
            have HLG2:=Lib.hid hl2
            clear hl2
            by_cases hls:(low:Int)=sc
            ·have hT:l2++[48]=T:=by
              rw [HLG2.out,HG2.out,HLG.out,HG.out,HT.out,if_pos (show low=sc by omega),show sc - low=0 by omega]
              show S++_++[46]++[]++[48]=_
              rw [HSD.out];simp
             have HTT:=Lib.hid hT
             have hown:=F2.own
             have hsz:=F2.bel.size
             have hgt:=F2.rc.lt
             clear hT
             go_wp2_with (at_builtin;refine wpList_append_own _ rfl _ _ 101 rfl (w.heap.size+1) 5 i0 (.int .u8 0) 1 1 Tryz.underlying101 hi hz0 hz1 hz2 rfl (by decide) _ _ _ rfl (hown.alloc _) ⟨wr.heap.size,0,none⟩ 1 1 [.int .u8 48] rfl rfl ?_ ?_ ?_ ?_ ?_ ?_)
             all_goals (try (first | rfl |(unfold maxLen;omega) | omega |(have:=F2.bel.size;simp;omega) |(intro j u hj;match j,hj with | 0,hj=>(simp at hj;subst hj;simp [Addr.add])) |(intro u hu;simp at hu;subst hu;rfl)))
             ·intro v' w1 hown' hgrow _
              have F1:=F2.app (c:=48) rfl hown' rfl hgrow
              obtain ⟨g,cap3,rfl,hcv⟩:=F1.conv (by simp)
              obtain ⟨X,hX⟩:∃ X,X=bs (l2++[48]):=⟨_,rfl⟩
              rw [← hX] at hcv
              have HXX:=Lib.hid hX
              have hbf:=F1.bel
              clear hX F1 hown' hgrow hown c1 c2
              generalize (l2++[48]).length=L at*
              go_wp2_with fail
              go_ret2
              exact ⟨by rw [HXX.out,HTT.out];rfl,hbf⟩
            ·have hT:l2=T:=by
              rw [HLG2.out,HG2.out,HLG.out,HG.out,HT.out,if_neg (show ¬ low=sc by omega),HSD.out];simp
             have HTT:=Lib.hid hT
             have hne:l2≠[]:=by rw [HLG2.out,HG2.out];simp
             obtain ⟨g,cap3,rfl,hcv⟩:=F2.conv hne
             obtain ⟨X,hX⟩:∃ X,X=bs l2:=⟨_,rfl⟩
             rw [← hX] at hcv
             have HXX:=Lib.hid hX
             have hbf:=F2.bel
             clear hX F2 hT hne c1
             generalize l2.length=L at*
             have hlsb:((low:Int) == (sc:Int))=false:=by simpa using hls
             go_wp2_with fail
             go_ret2
             exact ⟨by rw [HXX.out,HTT.out];rfl,hbf⟩
end Go.Proofs.YteclpnfckjfibaaGreatDoor

/- DDW2 -/
namespace Go.Proofs.YteclpnfckjfibaaGreatDoor
open Go.RowKit
def zih (l:List UInt8):Value:=zxd (zib l)
theorem okP_all {r:List UInt8} (h:okP r=true):(Lib.cut r [46]).1.all zbj=true∧(Lib.cut r [46]).2.1.all zbj=true:=by
 unfold okP at h
 rw [Bool.and_eq_true] at h
 refine ⟨by have:=h.1;unfold digs at this;rw [Bool.and_eq_true] at this;exact this.2,?_⟩
 cases hf:(Lib.cut r [46]).2.2 with
 | true=>
   have:=h.2
   rw [hf] at this
   simp only [Bool.not_true,Bool.false_or] at this
   unfold digs at this
   rw [Bool.and_eq_true] at this
   exact this.2
 | false=>
   have:(Lib.cut r [46]).2.1=[]:=by
    by_cases hi:0≤Lib.index r [46]
    ·unfold Lib.cut at hf;rw [if_pos hi] at hf;cases hf
    ·unfold Lib.cut;rw [if_neg hi]
   rw [this];rfl
theorem cut_sum (r:List UInt8):(Lib.cut r [46]).1.length+(Lib.cut r [46]).2.1.length≤r.length:=by
 unfold Lib.cut
 split
 ·simp;omega
 ·simp
theorem zqw (s:ByteArray) (w:World) (hs:s.size≤1000000000) (h:okP (sgn s.data.toList).2=false):
 Calls Tryz.prog 219 #[.string s] w fun e w'=>e=.returned (.tuple #[.agg #[.bool false,.slice none 0 0,.int .i64 0],.bool false])∧Below w.heap.size w w':=
 (zpc s w hs).mono fun _ _ ⟨hb,h1,_⟩=>⟨h1 h,hb⟩
theorem zx5 {w:World} {v:Value} {ds:List Nat} (h:Ints w v ds):v.oneCell'=true:=by
 rcases h with ⟨rfl,_⟩ | ⟨_,_,_,rfl,_,_⟩ <;> rfl
theorem zpf (s:ByteArray) (w:World) (hs:s.size≤1000000000) (h:okP (sgn s.data.toList).2=true) (N:Bool) (ds:List Nat) (sc:Nat) (hN:Hid (N=(sgn s.data.toList).1)) (hd:Hid (ds=revD ((Lib.cut (sgn s.data.toList).2 [46]).1++(Lib.cut (sgn s.data.toList).2 [46]).2.1)))
 (hsc:Hid (sc=(Lib.cut (sgn s.data.toList).2 [46]).2.1.length)):
 Calls Tryz.prog 219 #[.string s] w fun e w'=>∃ v,e=.returned (.tuple #[.agg #[.bool N,v,.int .i64 sc],.bool true])∧Ints w' v ds∧Below w.heap.size w w':=
 (zpc s w hs).mono fun _ _ ⟨hb,_,h2⟩=>by
   obtain ⟨v,e,hi⟩:=h2 h
   exact ⟨v,by rw [e,hN.out,hsc.out];rfl,by rw [hd.out];exact hi,hb⟩
theorem zx6 (N:Bool) (v:Value) (ds:List Nat) (sc:Nat) (w:World) (h:Ints w v ds) (hs:zd7 ds) (l1:sc≤1000000000) (l2:ds.length≤1000000000) (t:ByteArray) (er:Int) (hv:Hid (said (zpe N ds sc)=.tuple #[.string t,.int .i64 er])):
 Calls Tryz.prog 220 #[.agg #[.bool N,v,.int .i64 sc]] w fun e w'=>e=.returned (.tuple #[.string t,.int .i64 er])∧Below w.heap.size w w':=by
 have:=refForm N v ds sc w h hs l1 l2
 rw [hv.out] at this
 exact this
set_option maxRecDepth 20000 in
set_option maxHeartbeats 1600000 in
theorem refRead (s:ByteArray) (w:World) (hs:s.size≤1000000000):
 Calls Tryz.prog 191 #[.string s] w fun e w'=>e=.returned (zih s.data.toList)∧Below w.heap.size w w':=by
 have hrp:zih s.data.toList=if okP (sgn s.data.toList).2=true then said (wr (sgn s.data.toList).1 (Lib.cut (sgn s.data.toList).2 [46]).1 (Lib.cut (sgn s.data.toList).2 [46]).2.1) else .tuple #[.string ⟨#[]⟩,.int .i64 6]:=by
  unfold zih zib
  rw [zvl]
  by_cases h:okP (sgn s.data.toList).2=true
  ·rw [if_pos h,if_pos h];rfl
  ·rw [if_neg h,if_neg h];rfl
 rw [hrp]
 clear hrp
 have k0:∀ W:World,Rec (W.alloc (.cells #[.bool false,.slice none 0 0,.int .i64 0] 224)) W.heap.size false (.slice none 0 0) 0:=fun W=>zah _ _ rfl
 have K0:=Lib.hid k0
 clear k0
 by_cases hok:okP (sgn s.data.toList).2=true
 ·rw [if_pos hok]
  obtain ⟨ha,hb⟩:=okP_all hok
  obtain ⟨N,hN⟩:∃ N,N=(sgn s.data.toList).1:=⟨_,rfl⟩
  obtain ⟨sc,hsc⟩:∃ sc,sc=(Lib.cut (sgn s.data.toList).2 [46]).2.1.length:=⟨_,rfl⟩
  obtain ⟨ds,hds⟩:∃ ds,ds=revD ((Lib.cut (sgn s.data.toList).2 [46]).1++(Lib.cut (sgn s.data.toList).2 [46]).2.1):=⟨_,rfl⟩
  have hfr:=zvv N _ _ ha hb
  rw [← hds,← hsc] at hfr
  rw [← hN,← hfr]
  have hsm:zd7 ds:=by rw [hds];exact zlc _ (by rw [List.all_append,ha,hb];rfl)
  have hlen:sc≤1000000000∧ds.length≤1000000000:=by
   have h1:=cut_sum (sgn s.data.toList).2
   have h2:=zm1 s.data.toList
   have h3:s.data.toList.length=s.size:=Array.length_toList
   rw [hsc,hds,zg0,List.length_append];omega
  have HC:Hid (∀ W,Calls Tryz.prog 219 #[.string s] W fun e w'=>∃ v,e=.returned (.tuple #[.agg #[.bool N,v,.int .i64 sc],.bool true])∧Ints w' v ds∧Below W.heap.size W w'):=
   Lib.hid fun W=>zpf s W hs hok N ds sc (Lib.hid hN) (Lib.hid hds) (Lib.hid hsc)
  obtain ⟨t,er,hv0⟩:=ziv (zpe N ds sc)
  rw [hv0]
  have HV0:=Lib.hid hv0
  have HL:=Lib.hid hlen
  have HS:=Lib.hid hsm
  clear hlen hsm hv0 hfr hN hsc hds ha hb hok
  go_enter Tryz.func191,Tryz.ntmps191
  go_wp2_with (first
   |(go_at_call 219;(with_reducible refine (HC.out _).mono ?_);rintro e w1 ⟨v,rfl,hi,hb1⟩;have HI:=Lib.hid (And.intro hi hb1);have k1:=K0.out w1;clear hi hb1)
   |((with_reducible refine zb1 (m:=N) (u:=v) (sd:=sc) (.tmp 4) (.tmp 9) w1.heap.size k1 (zx5 HI.out.1) ?_ ?_ ?_ ?_ ?_);rfl;rfl;rfl;rfl;intro w2 ho p1;have hb2:=zam ((Below.refl w1.heap.size w1).alloc (Nat.le_refl _) _) ho (Nat.le_refl _) (Nat.le_of_lt k1.lt);have HI2:=Lib.hid (HI.out.1.below hb2);have HB2:=Lib.hid (zab HI.out.2 hb2 HI.out.2.size);clear hb2 ho)
   |((with_reducible refine zew (.tmp 4) w1.heap.size p1 ?_ ?_ ?_ ?_);rfl;rfl;rfl)
   |(go_at_call 220;(with_reducible refine (zx6 N v ds sc w2 HI2.out HS.out HL.out.1 HL.out.2 t er HV0).mono ?_);rintro e w3 ⟨rfl,hb3⟩;have HB3:=Lib.hid (zab HB2.out hb3 HB2.out.size);clear hb3))
  go_ret2
  exact ⟨rfl,HB3.out⟩
 ·rw [if_neg hok]
  have HC:Hid (∀ W,Calls Tryz.prog 219 #[.string s] W fun e w'=>e=.returned (.tuple #[.agg #[.bool false,.slice none 0 0,.int .i64 0],.bool false])∧Below W.heap.size W w'):=
   Lib.hid fun W=>zqw s W hs (by simpa using hok)
  clear hok
  go_enter Tryz.func191,Tryz.ntmps191
  go_wp2_with (first
   |(go_at_call 219;(with_reducible refine (HC.out _).mono ?_);rintro e w1 ⟨rfl,hb1⟩;have HB:=Lib.hid hb1;have k1:=K0.out w1;clear hb1)
   |((with_reducible refine zb1 (m:=false) (u:=.slice none 0 0) (sd:=0) (.tmp 4) (.tmp 9) w1.heap.size k1 rfl ?_ ?_ ?_ ?_ ?_);rfl;rfl;rfl;rfl;intro w2 ho p1;have hb2:=zam ((Below.refl w1.heap.size w1).alloc (Nat.le_refl _) _) ho (Nat.le_refl _) (Nat.le_of_lt k1.lt);have HB2:=Lib.hid (zab HB.out hb2 HB.out.size);clear hb2 ho))
  go_ret2
  exact ⟨rfl,HB2.out⟩
set_option maxRecDepth 20000 in
theorem zx7 (s:ByteArray) (w:World) (hs:s.size≤1000000000):
 Calls Tryz.prog 154 #[.string s] w fun e w'=>e=.returned (.bool (chk s.data.toList))∧Below w.heap.size w w':=by
 obtain ⟨t,k,hv,hk,ht⟩:=zl9 (zib s.data.toList)
 have hc:∀ W,Calls Tryz.prog 191 #[.string s] W fun e w'=>e=.returned (.tuple #[.string t,.int .i64 k])∧Below W.heap.size W w':=fun W=>by
  have:=refRead s W hs
  unfold zih at this
  rwa [hv] at this
 have HC:=Lib.hid hc
 clear hc hv
 by_cases h:chk s.data.toList=true
 ·have hr:zib s.data.toList=some (some s.data.toList):=by simpa [chk] using h
  obtain rfl:k=0:=hk.2 ⟨_,hr⟩
  obtain rfl:t=s:=by rw [ht _ hr]
  rw [h]
  have HH:=Lib.hid h
  clear h hr hk ht
  go_enter Tryz.func154,Tryz.ntmps154
  go_wp2_with (go_at_call 191;(with_reducible refine (HC.out _).mono ?_);rintro e w1 ⟨rfl,hb⟩)
  go_ret
  exact ⟨rfl,hb⟩
 ·have hf:chk s.data.toList=false:=by simpa using h
  rw [hf]
  by_cases h0:k=0
  ·subst h0
   obtain ⟨l,hl⟩:=hk.1 rfl
   have hne:¬ t=s:=by
    rw [ht _ hl]
    intro e
    apply h
    unfold chk
    rw [hl,← e]
    simp
   have e2:(t.toList == s.toList)=false:=beq_eq_false_iff_ne.2 (fun e=>hne (zdq (by rw [← ByteArray.toList_eq,← ByteArray.toList_eq];exact e)))
   clear h hf hk ht hl hne
   go_enter Tryz.func154,Tryz.ntmps154
   go_wp2_with (go_at_call 191;(with_reducible refine (HC.out _).mono ?_);rintro e w1 ⟨rfl,hb⟩)
   go_ret
   exact ⟨rfl,hb⟩
  ·have e0:(k == 0)=false:=by simpa using h0
   clear h hf hk ht
   go_enter Tryz.func154,Tryz.ntmps154
   go_wp2_with (go_at_call 191;(with_reducible refine (HC.out _).mono ?_);rintro e w1 ⟨rfl,hb⟩)
   go_ret
   exact ⟨rfl,hb⟩
end Go.Proofs.YteclpnfckjfibaaGreatDoor

/- DMb -/
namespace Go.Proofs.YteclpnfckjfibaaGreatDoor
open Go.RowKit
theorem zdf (b:Bool) (n:Int) (t x:ByteArray) (len:Nat):zb7 b n t x len=(!b && !(n != 0) && !(!t.toList.isEmpty) && !(!x.toList.isEmpty) && !(decide (0 < len))):=by
 have e1:decide (n=0)=!(n != 0):=by cases h:(n != 0) <;> simp_all
 have e2:decide (t.size=0)=!(!t.toList.isEmpty):=by
  rw [Bool.not_not,Bool.eq_iff_iff,decide_eq_true_eq]
  exact (zcr t).symm
 have e3:decide (x.size=0)=!(!x.toList.isEmpty):=by
  rw [Bool.not_not,Bool.eq_iff_iff,decide_eq_true_eq]
  exact (zcr x).symm
 have e4:decide (len=0)=!(decide (0 < len)):=by
  rw [Bool.eq_iff_iff]
  simp
 unfold zb7
 rw [e1,e2,e3,e4]
theorem zpg:(!(⟨#[]⟩:ByteArray).toList.isEmpty)=false:=by
 have:=(zcr ⟨#[]⟩).2 rfl
 rw [this]
 rfl
theorem fitsK0 (b:Bool) (n:Int) (t x:ByteArray) (len:Nat) (r:Bool):zcb 0 b n t x len r=(!b && !(n != 0) && !(!t.toList.isEmpty) && !(!x.toList.isEmpty) && !(decide (0 < len))):=by
 rw [show zcb 0 b n t x len r=zb7 b n t x len from rfl]
 rw [zdf]
set_option maxRecDepth 20000 in
set_option maxHeartbeats 6400000 in
theorem refMay0 (b:Bool) (n:Int) (t x:ByteArray) (p:Option Addr) (len cap d:Nat) (r0:Bool) (w:World) (hd:(d:Int)≤60) (ht:t.size≤2097152) (hx:x.size≤2097152):
 Calls Tryz.prog 98 #[.agg #[.int .i64 0,.bool b,.int .i64 n,.string t,.string x,.slice p len cap],.int .i64 d] w fun e w'=>e=.returned (.bool (zcb 0 b n t x len r0))∧Below w.heap.size w w':=by
 have S:=zak (k:=0) (b:=b) (n:=n) (t:=t) (x:=x) (p:=p) (len:=len) (cap:=cap) w rfl
 have b0:=zaz w (.cells #[.int .i64 0,.bool b,.int .i64 n,.string t,.string x,.slice p len cap] 48)
 have f0:=S.c0
 have f1:=S.c1
 have f2:=S.c2
 have f3:=S.c3
 have f4:=S.c4
 have f5:=S.c5
 rw [fitsK0]
 obtain ⟨r,hr⟩:∃ r,r=(!b && !(n != 0) && !(!t.toList.isEmpty) && !(!x.toList.isEmpty) && !(decide (0 < len))):=⟨_,rfl⟩
 rw [← hr]
 obtain ⟨w1,hw1⟩:∃ w1,w1=w.alloc (.cells #[.int .i64 0,.bool b,.int .i64 n,.string t,.string x,.slice p len cap] 48):=⟨_,rfl⟩
 rw [← hw1] at S b0
 have HW:=Lib.hid hw1
 have HR:=Lib.hid hr
 clear hw1 hr
 go_enter Tryz.func98,Tryz.ntmps98
 go_upto_region 9 with fail
 rw [← HW.out]
 clear f0 f1 f2 f3 f4 f5
 have f0:=S.c0
 have f2:=S.c2
 have f3:=S.c3
 have f4:=S.c4
 have HR2:=HR.out
 clear HR
 generalize (n != 0)=nb at HR2 ⊢
 generalize (!t.toList.isEmpty)=tb at HR2 ⊢
 generalize (!x.toList.isEmpty)=xb at HR2 ⊢
 generalize decide (0 < len)=lb at HR2 ⊢
 have HR3:=Lib.hid HR2
 clear HR2 ht hx
 go_wp2_with fail
 all_goals
  go_ret
  exact ⟨by rw [HR3.out];simp_all <;> (intros;omega),b0⟩
theorem fitsK1 (b:Bool) (n:Int) (t x:ByteArray) (len:Nat) (r:Bool):zcb 1 b n t x len r=(!(n != 0) && !(!t.toList.isEmpty) && !(!x.toList.isEmpty) && !(decide (0 < len))):=by
 rw [show zcb 1 b n t x len r=zb7 false n t x len from rfl]
 rw [zdf]
 simp
set_option maxRecDepth 20000 in
set_option maxHeartbeats 6400000 in
theorem refMay1 (b:Bool) (n:Int) (t x:ByteArray) (p:Option Addr) (len cap d:Nat) (r0:Bool) (w:World) (hd:(d:Int)≤60) (ht:t.size≤2097152) (hx:x.size≤2097152):
 Calls Tryz.prog 98 #[.agg #[.int .i64 1,.bool b,.int .i64 n,.string t,.string x,.slice p len cap],.int .i64 d] w fun e w'=>e=.returned (.bool (zcb 1 b n t x len r0))∧Below w.heap.size w w':=by
 have S:=zak (k:=1) (b:=b) (n:=n) (t:=t) (x:=x) (p:=p) (len:=len) (cap:=cap) w rfl
 have b0:=zaz w (.cells #[.int .i64 1,.bool b,.int .i64 n,.string t,.string x,.slice p len cap] 48)
 have f0:=S.c0
 have f1:=S.c1
 have f2:=S.c2
 have f3:=S.c3
 have f4:=S.c4
 have f5:=S.c5
 rw [fitsK1]
 obtain ⟨r,hr⟩:∃ r,r=(!(n != 0) && !(!t.toList.isEmpty) && !(!x.toList.isEmpty) && !(decide (0 < len))):=⟨_,rfl⟩
 rw [← hr]
 obtain ⟨w1,hw1⟩:∃ w1,w1=w.alloc (.cells #[.int .i64 1,.bool b,.int .i64 n,.string t,.string x,.slice p len cap] 48):=⟨_,rfl⟩
 rw [← hw1] at S b0
 have HW:=Lib.hid hw1
 have HR:=Lib.hid hr
 clear hw1 hr
 go_enter Tryz.func98,Tryz.ntmps98
 go_upto_region 9 with fail
 rw [← HW.out]
 clear f0 f1 f2 f3 f4 f5
 have f0:=S.c0
 have f2:=S.c2
 have f3:=S.c3
 have f4:=S.c4
 have HR2:=HR.out
 clear HR
 generalize (n != 0)=nb at HR2 ⊢
 generalize (!t.toList.isEmpty)=tb at HR2 ⊢
 generalize (!x.toList.isEmpty)=xb at HR2 ⊢
 generalize decide (0 < len)=lb at HR2 ⊢
 have HR3:=Lib.hid HR2
 clear HR2 ht hx
 go_wp2_with fail
 all_goals
  go_ret
  exact ⟨by rw [HR3.out];simp_all <;> (intros;omega),b0⟩
theorem fitsK2 (b:Bool) (n:Int) (t x:ByteArray) (len:Nat) (r:Bool):zcb 2 b n t x len r=(!b && !(!t.toList.isEmpty) && !(!x.toList.isEmpty) && !(decide (0 < len))):=by
 rw [show zcb 2 b n t x len r=zb7 b 0 t x len from rfl]
 rw [zdf]
 simp
set_option maxRecDepth 20000 in
set_option maxHeartbeats 6400000 in
theorem refMay2 (b:Bool) (n:Int) (t x:ByteArray) (p:Option Addr) (len cap d:Nat) (r0:Bool) (w:World) (hd:(d:Int)≤60) (ht:t.size≤2097152) (hx:x.size≤2097152):
 Calls Tryz.prog 98 #[.agg #[.int .i64 2,.bool b,.int .i64 n,.string t,.string x,.slice p len cap],.int .i64 d] w fun e w'=>e=.returned (.bool (zcb 2 b n t x len r0))∧Below w.heap.size w w':=by
 have S:=zak (k:=2) (b:=b) (n:=n) (t:=t) (x:=x) (p:=p) (len:=len) (cap:=cap) w rfl
 have b0:=zaz w (.cells #[.int .i64 2,.bool b,.int .i64 n,.string t,.string x,.slice p len cap] 48)
 have f0:=S.c0
 have f1:=S.c1
 have f2:=S.c2
 have f3:=S.c3
 have f4:=S.c4
 have f5:=S.c5
 rw [fitsK2]
 obtain ⟨r,hr⟩:∃ r,r=(!b && !(!t.toList.isEmpty) && !(!x.toList.isEmpty) && !(decide (0 < len))):=⟨_,rfl⟩
 rw [← hr]
 obtain ⟨w1,hw1⟩:∃ w1,w1=w.alloc (.cells #[.int .i64 2,.bool b,.int .i64 n,.string t,.string x,.slice p len cap] 48):=⟨_,rfl⟩
 rw [← hw1] at S b0
 have HW:=Lib.hid hw1
 have HR:=Lib.hid hr
 clear hw1 hr
 go_enter Tryz.func98,Tryz.ntmps98
 go_upto_region 9 with fail
 rw [← HW.out]
 clear f0 f1 f2 f3 f4 f5
 have f0:=S.c0
 have f2:=S.c2
 have f3:=S.c3
 have f4:=S.c4
 have HR2:=HR.out
 clear HR
 generalize (n != 0)=nb at HR2 ⊢
 generalize (!t.toList.isEmpty)=tb at HR2 ⊢
 generalize (!x.toList.isEmpty)=xb at HR2 ⊢
 generalize decide (0 < len)=lb at HR2 ⊢
 have HR3:=Lib.hid HR2
 clear HR2 ht hx
 go_wp2_with fail
 all_goals
  go_ret
  exact ⟨by rw [HR3.out];simp_all <;> (intros;omega),b0⟩
theorem fitsK3 (b:Bool) (n:Int) (t x:ByteArray) (len:Nat) (r:Bool):zcb 3 b n t x len r=(chk t.data.toList && (!b && !(n != 0) && !(!x.toList.isEmpty) && !(decide (0 < len)))):=by
 rw [show zcb 3 b n t x len r=(chk t.data.toList && zb7 b n ⟨#[]⟩ x len) from rfl]
 rw [zdf]
 rw [zpg]
 simp
set_option maxRecDepth 20000 in
set_option maxHeartbeats 6400000 in
theorem refMay3 (b:Bool) (n:Int) (t x:ByteArray) (p:Option Addr) (len cap d:Nat) (r0:Bool) (w:World) (hd:(d:Int)≤60) (ht:t.size≤2097152) (hx:x.size≤2097152):
 Calls Tryz.prog 98 #[.agg #[.int .i64 3,.bool b,.int .i64 n,.string t,.string x,.slice p len cap],.int .i64 d] w fun e w'=>e=.returned (.bool (zcb 3 b n t x len r0))∧Below w.heap.size w w':=by
 have S:=zak (k:=3) (b:=b) (n:=n) (t:=t) (x:=x) (p:=p) (len:=len) (cap:=cap) w rfl
 have b0:=zaz w (.cells #[.int .i64 3,.bool b,.int .i64 n,.string t,.string x,.slice p len cap] 48)
 have f0:=S.c0
 have f1:=S.c1
 have f2:=S.c2
 have f3:=S.c3
 have f4:=S.c4
 have f5:=S.c5
 rw [fitsK3]
 obtain ⟨r,hr⟩:∃ r,r=(chk t.data.toList && (!b && !(n != 0) && !(!x.toList.isEmpty) && !(decide (0 < len)))):=⟨_,rfl⟩
 rw [← hr]
 have hC:=fun W=>zx7 t W (by omega)
 obtain ⟨w1,hw1⟩:∃ w1,w1=w.alloc (.cells #[.int .i64 3,.bool b,.int .i64 n,.string t,.string x,.slice p len cap] 48):=⟨_,rfl⟩
 rw [← hw1] at S b0
 have HW:=Lib.hid hw1
 have HR:=Lib.hid hr
 clear hw1 hr
 go_enter Tryz.func98,Tryz.ntmps98
 go_upto_region 9 with fail
 rw [← HW.out]
 clear f0 f1 f2 f3 f4 f5
 have f0:=S.c0
 have f2:=S.c2
 have f3:=S.c3
 have f4:=S.c4
 have HR2:=HR.out
 clear HR
 generalize (n != 0)=nb at HR2 ⊢
 generalize (!t.toList.isEmpty)=tb at HR2 ⊢
 generalize (!x.toList.isEmpty)=xb at HR2 ⊢
 generalize decide (0 < len)=lb at HR2 ⊢
 generalize chk t.data.toList=C at HR2 hC ⊢
 have HR3:=Lib.hid HR2
 clear HR2 ht hx
 go_wp2_with (go_at_call 154;(with_reducible refine (hC _).mono ?_);rintro e w' ⟨rfl,hb⟩;replace b0:=zab b0 hb b0.size)
 all_goals
  go_ret
  exact ⟨by rw [HR3.out];simp_all <;> (intros;omega),b0⟩
end Go.Proofs.YteclpnfckjfibaaGreatDoor

/- DMc -/
namespace Go.Proofs.YteclpnfckjfibaaGreatDoor
open Go.RowKit
theorem fitsK4 (b:Bool) (n:Int) (t x:ByteArray) (len:Nat) (r:Bool):zcb 4 b n t x len r=(decide ((t.size:Int)≤1048576) && (!b && !(n != 0) && !(!x.toList.isEmpty) && !(decide (0 < len)))):=by
 rw [show zcb 4 b n t x len r=(decide (t.size≤1048576) && zb7 b n ⟨#[]⟩ x len) from rfl]
 rw [zdf]
 rw [zpg,show decide (t.size≤1048576)=decide ((t.size:Int)≤1048576) from decide_eq_decide.2 (by omega)]
 simp
set_option maxRecDepth 20000 in
set_option maxHeartbeats 6400000 in
theorem refMay4 (b:Bool) (n:Int) (t x:ByteArray) (p:Option Addr) (len cap d:Nat) (r0:Bool) (w:World) (hd:(d:Int)≤60) (ht:t.size≤2097152) (hx:x.size≤2097152):
 Calls Tryz.prog 98 #[.agg #[.int .i64 4,.bool b,.int .i64 n,.string t,.string x,.slice p len cap],.int .i64 d] w fun e w'=>e=.returned (.bool (zcb 4 b n t x len r0))∧Below w.heap.size w w':=by
 have S:=zak (k:=4) (b:=b) (n:=n) (t:=t) (x:=x) (p:=p) (len:=len) (cap:=cap) w rfl
 have b0:=zaz w (.cells #[.int .i64 4,.bool b,.int .i64 n,.string t,.string x,.slice p len cap] 48)
 have f0:=S.c0
 have f1:=S.c1
 have f2:=S.c2
 have f3:=S.c3
 have f4:=S.c4
 have f5:=S.c5
 rw [fitsK4]
 obtain ⟨r,hr⟩:∃ r,r=(decide ((t.size:Int)≤1048576) && (!b && !(n != 0) && !(!x.toList.isEmpty) && !(decide (0 < len)))):=⟨_,rfl⟩
 rw [← hr]
 obtain ⟨w1,hw1⟩:∃ w1,w1=w.alloc (.cells #[.int .i64 4,.bool b,.int .i64 n,.string t,.string x,.slice p len cap] 48):=⟨_,rfl⟩
 rw [← hw1] at S b0
 have HW:=Lib.hid hw1
 have HR:=Lib.hid hr
 clear hw1 hr
 go_enter Tryz.func98,Tryz.ntmps98
 go_upto_region 9 with fail
 rw [← HW.out]
 clear f0 f1 f2 f3 f4 f5
 have f0:=S.c0
 have f2:=S.c2
 have f3:=S.c3
 have f4:=S.c4
 have HR2:=HR.out
 clear HR
 generalize (n != 0)=nb at HR2 ⊢
 generalize (!t.toList.isEmpty)=tb at HR2 ⊢
 generalize (!x.toList.isEmpty)=xb at HR2 ⊢
 generalize decide (0 < len)=lb at HR2 ⊢
 have HR3:=Lib.hid HR2
 clear HR2 ht hx
 go_wp2_with fail
 all_goals
  go_ret
  exact ⟨by rw [HR3.out];simp_all <;> (intros;omega),b0⟩
theorem fitsK6 (b:Bool) (n:Int) (t x:ByteArray) (len:Nat) (r:Bool):zcb 6 b n t x len r=(decide (0≤n) && (!b && !(!t.toList.isEmpty) && !(!x.toList.isEmpty) && !(decide (0 < len)))):=by
 rw [show zcb 6 b n t x len r=(decide (0≤n) && zb7 b 0 t x len) from rfl]
 rw [zdf]
 simp
set_option maxRecDepth 20000 in
set_option maxHeartbeats 6400000 in
theorem refMay6 (b:Bool) (n:Int) (t x:ByteArray) (p:Option Addr) (len cap d:Nat) (r0:Bool) (w:World) (hd:(d:Int)≤60) (ht:t.size≤2097152) (hx:x.size≤2097152):
 Calls Tryz.prog 98 #[.agg #[.int .i64 6,.bool b,.int .i64 n,.string t,.string x,.slice p len cap],.int .i64 d] w fun e w'=>e=.returned (.bool (zcb 6 b n t x len r0))∧Below w.heap.size w w':=by
 have S:=zak (k:=6) (b:=b) (n:=n) (t:=t) (x:=x) (p:=p) (len:=len) (cap:=cap) w rfl
 have b0:=zaz w (.cells #[.int .i64 6,.bool b,.int .i64 n,.string t,.string x,.slice p len cap] 48)
 have f0:=S.c0
 have f1:=S.c1
 have f2:=S.c2
 have f3:=S.c3
 have f4:=S.c4
 have f5:=S.c5
 rw [fitsK6]
 obtain ⟨r,hr⟩:∃ r,r=(decide (0≤n) && (!b && !(!t.toList.isEmpty) && !(!x.toList.isEmpty) && !(decide (0 < len)))):=⟨_,rfl⟩
 rw [← hr]
 obtain ⟨w1,hw1⟩:∃ w1,w1=w.alloc (.cells #[.int .i64 6,.bool b,.int .i64 n,.string t,.string x,.slice p len cap] 48):=⟨_,rfl⟩
 rw [← hw1] at S b0
 have HW:=Lib.hid hw1
 have HR:=Lib.hid hr
 clear hw1 hr
 go_enter Tryz.func98,Tryz.ntmps98
 go_upto_region 9 with fail
 rw [← HW.out]
 clear f0 f1 f2 f3 f4 f5
 have f0:=S.c0
 have f2:=S.c2
 have f3:=S.c3
 have f4:=S.c4
 have HR2:=HR.out
 clear HR
 generalize (n != 0)=nb at HR2 ⊢
 generalize (!t.toList.isEmpty)=tb at HR2 ⊢
 generalize (!x.toList.isEmpty)=xb at HR2 ⊢
 generalize decide (0 < len)=lb at HR2 ⊢
 have HR3:=Lib.hid HR2
 clear HR2 ht hx
 go_wp2_with fail
 all_goals
  go_ret
  exact ⟨by rw [HR3.out];simp_all <;> (intros;omega),b0⟩
theorem fitsK7 (b:Bool) (n:Int) (t x:ByteArray) (len:Nat) (r:Bool):zcb 7 b n t x len r=(decide (0≤n) && (!b && !(!t.toList.isEmpty) && !(!x.toList.isEmpty) && !(decide (0 < len)))):=by
 rw [show zcb 7 b n t x len r=(decide (0≤n) && zb7 b 0 t x len) from rfl]
 rw [zdf]
 simp
set_option maxRecDepth 20000 in
set_option maxHeartbeats 6400000 in
theorem refMay7 (b:Bool) (n:Int) (t x:ByteArray) (p:Option Addr) (len cap d:Nat) (r0:Bool) (w:World) (hd:(d:Int)≤60) (ht:t.size≤2097152) (hx:x.size≤2097152):
 Calls Tryz.prog 98 #[.agg #[.int .i64 7,.bool b,.int .i64 n,.string t,.string x,.slice p len cap],.int .i64 d] w fun e w'=>e=.returned (.bool (zcb 7 b n t x len r0))∧Below w.heap.size w w':=by
 have S:=zak (k:=7) (b:=b) (n:=n) (t:=t) (x:=x) (p:=p) (len:=len) (cap:=cap) w rfl
 have b0:=zaz w (.cells #[.int .i64 7,.bool b,.int .i64 n,.string t,.string x,.slice p len cap] 48)
 have f0:=S.c0
 have f1:=S.c1
 have f2:=S.c2
 have f3:=S.c3
 have f4:=S.c4
 have f5:=S.c5
 rw [fitsK7]
 obtain ⟨r,hr⟩:∃ r,r=(decide (0≤n) && (!b && !(!t.toList.isEmpty) && !(!x.toList.isEmpty) && !(decide (0 < len)))):=⟨_,rfl⟩
 rw [← hr]
 obtain ⟨w1,hw1⟩:∃ w1,w1=w.alloc (.cells #[.int .i64 7,.bool b,.int .i64 n,.string t,.string x,.slice p len cap] 48):=⟨_,rfl⟩
 rw [← hw1] at S b0
 have HW:=Lib.hid hw1
 have HR:=Lib.hid hr
 clear hw1 hr
 go_enter Tryz.func98,Tryz.ntmps98
 go_upto_region 9 with fail
 rw [← HW.out]
 clear f0 f1 f2 f3 f4 f5
 have f0:=S.c0
 have f2:=S.c2
 have f3:=S.c3
 have f4:=S.c4
 have HR2:=HR.out
 clear HR
 generalize (n != 0)=nb at HR2 ⊢
 generalize (!t.toList.isEmpty)=tb at HR2 ⊢
 generalize (!x.toList.isEmpty)=xb at HR2 ⊢
 generalize decide (0 < len)=lb at HR2 ⊢
 have HR3:=Lib.hid HR2
 clear HR2 ht hx
 go_wp2_with fail
 all_goals
  go_ret
  exact ⟨by rw [HR3.out];simp_all <;> (intros;omega),b0⟩
end Go.Proofs.YteclpnfckjfibaaGreatDoor
