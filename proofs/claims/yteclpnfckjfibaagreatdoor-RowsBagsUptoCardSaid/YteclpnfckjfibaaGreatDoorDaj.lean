/- Texts of one kind, one behind the other: each says ahead of itself what it shows. -/
import Derived.Test.YteclpnfckjfibaaGreatDoorDai
import Derived.BigGuardPart
import Derived.StillTailTactics
import Derived.Deep.RegionLaw
import Derived.Deep.AppendLies
import Derived.IntWalk
import Derived.Deep.DeepCutAuto
import Derived.Deep.CutBlock
import Derived.Test.YteclpnfckjfibaaGreatDoorDad
namespace Go.Proofs.YteclpnfckjfibaaGreatDoor
open Go.RowKit
set_option maxHeartbeats 12800000
set_option maxRecDepth 20000
theorem zol {w:World} {b g:Nat} {x:Obj} (h:w.heap[g]?=some x) (o:Nat) (v:Value) (e:b≠g):(w.setCell ⟨b,o,none⟩ v).heap[g]?=some x:=by
 simp [World.setCell,Array.getElem?_modify,h]
 intro k;exact absurd k e
theorem Rec.other {w:World} {g b:Nat} {n:Bool} {v:Value} {sc:Int} (h:Rec w g n v sc) (o:Nat) (u:Value) (e:b≠g):Rec (w.setCell ⟨b,o,none⟩ u) g n v sc:=zol h o u e
theorem z1q {l:List UInt8} (h:¬ ((l.headD 0).toNat=45∨(l.headD 0).toNat=43)):sgn l=(false,l):=by
 cases l with
 | nil=>rfl
 | cons c r=>
   have h1:c≠45:=fun e=>h (.inl (by rw [e];rfl))
   have h2:c≠43:=fun e=>h (.inr (by rw [e];rfl))
   simp [sgn,h1,h2]
theorem zyu {l:List UInt8} (h:(l.headD 0).toNat=45):sgn l=(true,l.drop 1):=by
 cases l with
 | nil=>exact absurd h (by decide)
 | cons c r=>
   have h1:c=45:=UInt8.toNat_inj.1 h
   simp [sgn,h1]
theorem z1r {l:List UInt8} (h:(l.headD 0).toNat=43):sgn l=(false,l.drop 1):=by
 cases l with
 | nil=>exact absurd h (by decide)
 | cons c r=>
   have h1:c=43:=UInt8.toNat_inj.1 h
   simp [sgn,h1]
theorem znx (s:ByteArray):s.extract 1 s.size=bs (s.data.toList.drop 1):=by
 apply zd4
 rw [Lib.extract_to_end]
theorem zyv (c:UInt8) (d:Bool) (w:World) (h:Hid (d=za8 c)):Calls Tryz.prog 247 #[.int .u8 c.toNat] w fun e w'=>e=.returned (.bool d)∧w=w':=
 (zo5 c.toNat w c.toNat_lt).mono fun _ _ ⟨h1,h2⟩=>⟨by
   rw [h1,h.out]
   congr 2
   rw [Bool.eq_iff_iff,zc8]
   simp
   omega,h2⟩
theorem Seen.mem {t:List UInt8} {p:Int} (h:Seen t p) (c:UInt8) (hc:c∈t) (hn:c≠46):za8 c=true:=by
 rcases h with ⟨_,h⟩ | ⟨x,y,e,_,hx,hy⟩
 ·exact List.all_eq_true.1 h c hc
 ·rw [e,List.mem_append,List.mem_cons] at hc
  rcases hc with k | k | k
  ·exact List.all_eq_true.1 hx c k
  ·exact absurd k hn
  ·exact List.all_eq_true.1 hy c k
theorem zrd {wr w1:World} {v u:Value} {o:Obj} {g base e size n:Nat} {xs:List Value} {N:Bool} {sc:Int} (hgrow:((wr.alloc o).drew).grownBy w1 v.ownBlock) (k1:Rec wr g N u sc) (hown:wr.ownsRow base e size v n xs) (hg:g < base):Rec w1 g N u sc:=
 (hgrow.block g (zaa (k1.alloc o)) (fun h=>by have:=(hown.lt _ h.symm).1;omega)).trans (k1.alloc o)
theorem zv2 {w wr w1:World} {v:Value} {o:Obj} {B base e size n:Nat} {xs:List Value} (hgrow:((wr.alloc o).drew).grownBy w1 v.ownBlock) (hb:Below B w wr) (hs:B≤wr.heap.size) (hown:wr.ownsRow base e size v n xs) (hg:B≤base):Below B w w1:=
 Below.grown ((hb.alloc hs o).drew) hgrow (by show B≤(wr.alloc o).heap.size;simp;omega) (fun k hk=>by have:=(hown.lt k hk).1;omega)
theorem zre {w w':World} {base b e size n:Nat} {v:Value} {xs:List Value} (h:w.ownsRow base e size v n xs) (k:Only b w w') (hb:b < base):w'.ownsRow base e size v n xs:=
 ⟨h.1,h.2.elim .inl fun ⟨g,cap,cur,e1,e2,e3,r⟩=>.inr ⟨g,cap,cur,e1,e2,(k.block g (zaa e3) (by omega)).trans e3,r⟩⟩
theorem zyw (w:World):Calls Tryz.prog 247 #[.int .u8 46] w fun e w'=>e=.returned (.bool false)∧w=w':=zo5 46 w (by omega)
theorem zrf (s:ByteArray) (w:World) (hs:s.size≤1000000000):
 Calls Tryz.prog 219 #[.string s] w fun e w'=>Below w.heap.size w w'∧(okP (sgn s.data.toList).2=false→e=.returned (.tuple #[numR false (.slice none 0 0) 0,.bool false]))∧
  (okP (sgn s.data.toList).2=true→∃ v,e=.returned (.tuple #[numR (sgn s.data.toList).1 v (Lib.cut (sgn s.data.toList).2 [46]).2.1.length,.bool true])∧Ints w' v (revD ((Lib.cut (sgn s.data.toList).2 [46]).1++(Lib.cut (sgn s.data.toList).2 [46]).2.1))):=by
 obtain ⟨r,hr⟩:∃ r,r=(sgn s.data.toList).2:=⟨_,rfl⟩
 obtain ⟨R,hR⟩:∃ R:ByteArray,R=bs r:=⟨_,rfl⟩
 obtain ⟨N,hN⟩:∃ N:Bool,N=(sgn s.data.toList).1:=⟨_,rfl⟩
 have hrl:r.length=R.size:=by rw [hR];exact Array.length_toList
 have hsz:R.size≤1000000000:=by
  have h1:=zp2 s.data.toList
  have h2:s.data.toList.length=s.size:=Array.length_toList
  rw [← hrl,hr];omega
 rw [← hr,← hN]
 obtain ⟨D,hD⟩:∃ D:Bool,D=decide ((s.data.toList.headD 0).toNat=45∨(s.data.toList.headD 0).toNat=43):=⟨_,rfl⟩
 have k0:Rec ((w.alloc (.cells #[.bool false,.slice none 0 0,.int .i64 0] 224)).alloc (.cells #[.bool false,.slice none 0 0,.int .i64 0] 224)) w.heap.size false (.slice none 0 0) 0:=zaq _ (zaf _ _ rfl)
 have k1:Rec ((w.alloc (.cells #[.bool false,.slice none 0 0,.int .i64 0] 224)).alloc (.cells #[.bool false,.slice none 0 0,.int .i64 0] 224)) (w.heap.size+1) false (.slice none 0 0) 0:=zaf _ _ (by simp)
 have hb0:Below w.heap.size w ((w.alloc (.cells #[.bool false,.slice none 0 0,.int .i64 0] 224)).alloc (.cells #[.bool false,.slice none 0 0,.int .i64 0] 224)):=((Below.refl _ _).alloc (Nat.le_refl _) _).alloc (by simp) _
 have K0:=Lib.hid k0
 have K1:=Lib.hid k1
 have HB:=Lib.hid hb0
 have HR:=Lib.hid hR
 have HL:=Lib.hid hr
 have HZ:=Lib.hid hrl
 have HN:=Lib.hid hN
 have HD:=Lib.hid hD
 clear k0 k1 hb0 hR hN hD hr hrl
 have HH:∀ h:0 < s.size,(s.data.toList.headD 0).toNat=s[0].toNat:=fun h=>by
  have hb:=zlp s 0 h
  have hh:∀ (l:List UInt8) (k:0 < l.length),(l.headD 0)=l[0]:=fun l k=>by
   cases l with
   | nil=>simp at k
   | cons c r=>rfl
  rw [hb,hh _ (by simpa using h)]
 have HF:=Lib.hid HH
 clear HH
 go_enter Tryz.func219,Tryz.ntmps219
 go_upto_region 2 with fail
 go_cut [20] (fun s20 wx=>s20=.bool D∧wx=((w.alloc (.cells #[.bool false,.slice none 0 0,.int .i64 0] 224)).alloc (.cells #[.bool false,.slice none 0 0,.int .i64 0] 224)))
 case first=>
  by_cases h0:(s.size:Int) > 0
  ·have h1:0 < s.size:=by omega
   have hf:=HF.out h1
   by_cases h45:(s[0].toNat:Int)=45
   ·obtain rfl:D=true:=by rw [HD.out,hf];simp;omega
    clear hf
    go_wp2
    go_meet
    case rel=>exact ⟨rfl,rfl⟩
   ·by_cases h43:(s[0].toNat:Int)=43
    ·obtain rfl:D=true:=by rw [HD.out,hf];simp;omega
     clear hf
     go_wp2
     go_meet
     case rel=>exact ⟨rfl,rfl⟩
    ·obtain rfl:D=false:=by rw [HD.out,hf];simp;omega
     clear hf
     go_wp2
     go_meet
     case rel=>exact ⟨by simp;omega,rfl⟩
  ·obtain rfl:D=false:=by
    rw [HD.out]
    have:s.data.toList.length=s.size:=Array.length_toList
    rw [List.length_eq_zero_iff.1 (by omega:s.data.toList.length=0)]
    rfl
   go_wp2
   go_meet
   case rel=>exact ⟨rfl,rfl⟩
 case rest=>
  obtain ⟨rfl,rfl⟩:=hcut
  go_upto_if 20 with fail
  go_cut [0] (fun s0 wx=>s0=.string R∧Rec wx w.heap.size false (.slice none 0 0) 0∧Rec wx (w.heap.size+1) N (.slice none 0 0) 0∧Below w.heap.size w wx)
  case first=>
   cases D with
   | false=>
     have hd:¬ ((s.data.toList.headD 0).toNat=45∨(s.data.toList.headD 0).toNat=43):=of_decide_eq_false HD.out.symm
     have hg:=z1q hd
     have e1:R=s:=by rw [HR.out,HL.out,hg]
     have e2:N=false:=by rw [HN.out,hg]
     clear hd hg
     go_wp2
     go_meet
     case rel=>exact ⟨by rw [e1],K0.out,by rw [e2];exact K1.out,HB.out⟩
   | true=>
     have hd:(s.data.toList.headD 0).toNat=45∨(s.data.toList.headD 0).toNat=43:=of_decide_eq_true HD.out.symm
     have h1:0 < s.size:=by
      rcases Nat.eq_zero_or_pos s.size with z | z
      ·have hl:s.data.toList.length=s.size:=Array.length_toList
       rw [z] at hl
       rw [List.length_eq_zero_iff.1 hl] at hd
       exact absurd hd (by decide)
      ·exact z
     have hf:=HF.out h1
     have h1i:(0:Int) < s.size:=by omega
     by_cases h45:(s[0].toNat:Int)=45
     ·have hg:=zyu (l:=s.data.toList) (by omega)
      have e1:R=s.extract 1 s.size:=by rw [HR.out,HL.out,hg,znx]
      have e2:N=true:=by rw [HN.out,hg]
      clear hd hf hg
      go_wp2
      go_meet
      case rel=>exact ⟨by rw [e1],zaq _ (zaf _ _ rfl),by rw [e2];exact zaf _ _ (by simp),((Below.refl _ _).alloc (Nat.le_refl _) _).alloc (by simp) _⟩
     ·have hg:=z1r (l:=s.data.toList) (by omega)
      have e1:R=s.extract 1 s.size:=by rw [HR.out,HL.out,hg,znx]
      have e2:N=false:=by rw [HN.out,hg]
      have e3:((s[0].toNat:Int) == 45)=false:=by simp;omega
      clear hd hf hg
      go_wp2
      go_meet
      case rel=>exact ⟨by rw [e1],zaq _ (zaf _ _ rfl),by rw [e2];exact zaf _ _ (by simp),((Below.refl _ _).alloc (Nat.le_refl _) _).alloc (by simp) _⟩
  case rest=>
   clear K0 K1 HB HD HF
   obtain ⟨rfl,k0,k1,hb⟩:=hcut
   clear HN hs
   go_wp2_with fail
   go_loopg [5,6] R.size (fun gg s5 s6 wr=>∃ (i:Nat) (p:Int),i+gg=R.size∧s5=.int .i64 p∧s6=.int .i64 i∧wr=wc∧(-1≤p∧p < i)∧Hid (Seen (r.take i) p))
   case atStart=>exact ⟨0,-1,by omega,rfl,rfl,rfl,by omega,Lib.hid Seen.start⟩
   case round=>
    obtain ⟨i,p,hi,rfl,rfl,rfl,hp,HS⟩:=hrel
    by_cases hlt:(i:Int) < R.size
    ·have hlt':i < R.size:=by omega
     have hx8:R[i].toNat < 256:=R[i].toNat_lt
     obtain ⟨c,hc⟩:∃ c,c=R[i]:=⟨_,rfl⟩
     have hsplit:r.take (i+1)=r.take i++[c]∧r=r.take i++c::r.drop (i+1):=by
      have hil:i < r.length:=by rw [HZ.out];exact hlt'
      have e:c=r[i]:=by
       rw [hc,zlp R i hlt']
       have e2:R.data.toList=r:=by rw [HR.out]
       simp [e2]
      rw [e]
      exact ⟨List.take_succ_eq_append_getElem hil,by rw [← List.drop_eq_getElem_cons hil,List.take_append_drop]⟩
     have HC:=Lib.hid hsplit
     clear hsplit
     by_cases h46:(R[i].toNat:Int)=46
     ·by_cases hneg:p < 0
      ·have c46:c=46:=by rw [hc];exact UInt8.toNat_inj.1 (by show R[i].toNat=46;omega)
       go_wp2_with fail
       go_roundg (gk - 1)
       case measure=>omega
       case rel=>exact ⟨i+1,i,by omega,rfl,by go_num,rfl,by omega,Lib.hid (by rw [HC.out.1,c46];have:=HS.out.point hneg;rwa [List.length_take,Nat.min_eq_left (by rw [HZ.out];omega)] at this)⟩
      ·have c46:c=46:=by rw [hc];exact UInt8.toNat_inj.1 (by show R[i].toNat=46;omega)
       have hcd:za8 c=false:=by rw [c46];rfl
       have hbad:okP r=false:=by rw [HC.out.2];exact HS.out.bad hcd (.inr (by omega))
       have HBD:=Lib.hid hbad
       have KD:Hid (false=za8 R[i]):=Lib.hid (by rw [← hc];exact hcd.symm)
       clear hbad hcd hc HC HS
       go_wp2_with (first
        |(go_at_call 247;(with_reducible refine (zyw _).mono ?_);rintro e w' ⟨rfl,rfl⟩)
        |(go_at_call 247;(with_reducible refine (zyv R[i] _ _ KD).mono ?_);rintro e w' ⟨rfl,rfl⟩)
        |((with_reducible refine zb1 (m:=false) (u:=.slice none 0 0) (sd:=0) (.tmp 2) (.tmp 47) w.heap.size k0 rfl ?_ ?_ ?_ ?_ ?_);rfl;rfl;rfl;rfl;intro w2 ho p1;have hb2:=zam hb ho (Nat.le_refl _) (Nat.le_of_lt k0.lt)))
       exact bodyPost_ret (v:=.tuple #[numR false (.slice none 0 0) 0,.bool false]) (zeq (p:=2) (q:=3) Tryz.results219 _ (.bool false) rfl rfl p1) rfl ⟨hb2,fun _=>rfl,fun h=>by rw [HBD.out] at h;cases h⟩
     ·have n46:c≠46:=fun e=>h46 (by rw [← hc,e];rfl)
      cases hcd:za8 c with
      | true=>
        have KD:Hid (true=za8 R[i]):=Lib.hid (by rw [← hc];exact hcd.symm)
        have HS2:Hid (Seen (r.take (i+1)) p):=Lib.hid (by rw [HC.out.1];exact HS.out.digit hcd)
        clear hcd hc HC HS
        go_wp2_with (go_at_call 247;(with_reducible refine (zyv R[i] _ _ KD).mono ?_);rintro e w' ⟨rfl,rfl⟩)
        go_roundg (gk - 1)
        case measure=>omega
        case rel=>exact ⟨i+1,p,by omega,rfl,by go_num,rfl,by omega,HS2⟩
      | false=>
        have hbad:okP r=false:=by rw [HC.out.2];exact HS.out.bad hcd (.inl n46)
        have HBD:=Lib.hid hbad
        have KD:Hid (false=za8 R[i]):=Lib.hid (by rw [← hc];exact hcd.symm)
        clear hbad hcd hc HC HS
        go_wp2_with (first
         |(go_at_call 247;(with_reducible refine (zyw _).mono ?_);rintro e w' ⟨rfl,rfl⟩)
         |(go_at_call 247;(with_reducible refine (zyv R[i] _ _ KD).mono ?_);rintro e w' ⟨rfl,rfl⟩)
         |((with_reducible refine zb1 (m:=false) (u:=.slice none 0 0) (sd:=0) (.tmp 2) (.tmp 47) w.heap.size k0 rfl ?_ ?_ ?_ ?_ ?_);rfl;rfl;rfl;rfl;intro w2 ho p1;have hb2:=zam hb ho (Nat.le_refl _) (Nat.le_of_lt k0.lt)))
        exact bodyPost_ret (v:=.tuple #[numR false (.slice none 0 0) 0,.bool false]) (zeq (p:=2) (q:=3) Tryz.results219 _ (.bool false) rfl rfl p1) rfl ⟨hb2,fun _=>rfl,fun h=>by rw [HBD.out] at h;cases h⟩
    ·obtain rfl:i=R.size:=by omega
     have hlen:=HZ.out
     have HSA:Hid (Seen r p):=Lib.hid (by have:=HS.out;rwa [← hlen,List.take_length] at this)
     clear HS
     by_cases e0:(R.size:Int)=0
     ·have hbad:okP r=false:=by rw [HSA.out.all];simp;omega
      have HBD:=Lib.hid hbad
      clear hbad HSA
      go_wp2_with ((with_reducible refine zb1 (m:=false) (u:=.slice none 0 0) (sd:=0) (.tmp 2) (.tmp 62) w.heap.size k0 rfl ?_ ?_ ?_ ?_ ?_);rfl;rfl;rfl;rfl;intro w2 ho p1;have hb2:=zam hb ho (Nat.le_refl _) (Nat.le_of_lt k0.lt))
      exact bodyPost_ret (v:=.tuple #[numR false (.slice none 0 0) 0,.bool false]) (zeq (p:=2) (q:=3) Tryz.results219 _ (.bool false) rfl rfl p1) rfl ⟨hb2,fun _=>rfl,fun h=>by rw [HBD.out] at h;cases h⟩
     ·by_cases e1:p=0
      ·have hbad:okP r=false:=by rw [HSA.out.all];simp;omega
       have HBD:=Lib.hid hbad
       clear hbad HSA
       go_wp2_with ((with_reducible refine zb1 (m:=false) (u:=.slice none 0 0) (sd:=0) (.tmp 2) (.tmp 62) w.heap.size k0 rfl ?_ ?_ ?_ ?_ ?_);rfl;rfl;rfl;rfl;intro w2 ho p1;have hb2:=zam hb ho (Nat.le_refl _) (Nat.le_of_lt k0.lt))
       exact bodyPost_ret (v:=.tuple #[numR false (.slice none 0 0) 0,.bool false]) (zeq (p:=2) (q:=3) Tryz.results219 _ (.bool false) rfl rfl p1) rfl ⟨hb2,fun _=>rfl,fun h=>by rw [HBD.out] at h;cases h⟩
      ·by_cases e2:p=(R.size:Int) - 1
       ·have hbad:okP r=false:=by rw [HSA.out.all];simp;omega
        have HBD:=Lib.hid hbad
        clear hbad HSA
        go_wp2_with ((with_reducible refine zb1 (m:=false) (u:=.slice none 0 0) (sd:=0) (.tmp 2) (.tmp 62) w.heap.size k0 rfl ?_ ?_ ?_ ?_ ?_);rfl;rfl;rfl;rfl;intro w2 ho p1;have hb2:=zam hb ho (Nat.le_refl _) (Nat.le_of_lt k0.lt))
        exact bodyPost_ret (v:=.tuple #[numR false (.slice none 0 0) 0,.bool false]) (zeq (p:=2) (q:=3) Tryz.results219 _ (.bool false) rfl rfl p1) rfl ⟨hb2,fun _=>rfl,fun h=>by rw [HBD.out] at h;cases h⟩
       ·have hok:okP r=true:=by rw [HSA.out.all];exact decide_eq_true ⟨by omega,e1,by rw [hlen];exact e2⟩
        have HP:=Lib.hid (And.intro hok HSA.out.parts)
        obtain ⟨i0,hi0,hz0,hz1,hz2⟩:=info_parts info3
        have hpb:-1≤p∧p < R.size:=hp
        clear hok hp hlt hi
        have e2b:(p == (R.size:Int) - 1)=false:=by simpa using e2
        go_wp2_with fail
        go_loopg [7] R.size (fun gg s7 wx=>∃ (i:Int) (v:Value) (zs:List Nat),i+1=gg∧i < R.size∧s7=.int .i64 i∧Hid (zs=revD ((r.drop (i+1).toNat).filter (· != 46)))∧wx.ownsRow (w.heap.size+2) 3 1 v zs.length (zcq zs)∧Rec wx w.heap.size false (.slice none 0 0) 0∧Rec wx (w.heap.size+1) N v 0∧Below w.heap.size w wx∧zs.length≤1000000000)
        case atStart=>exact ⟨(R.size:Int) - 1,.slice none 0 0,[],by omega,by omega,rfl,Lib.hid (by rw [List.drop_eq_nil_of_le (by have:=HZ.out;omega)];rfl),World.ownsRow_nil _ _ _ _,k0,k1,hb,by simp⟩
        case round=>
         clear k0 k1 hb
         obtain ⟨i,v,zs,hi,hin,rfl,HD2,hown,k0,k1,hb,hzl⟩:=hrel
         by_cases hge:i ≥ 0
         ·obtain ⟨k,rfl⟩:=Int.eq_ofNat_of_zero_le hge
          have hk:k < R.size:=by omega
          have hkl:k < r.length:=by rw [HZ.out];exact hk
          obtain ⟨c,hc⟩:∃ c,c=R[k]:=⟨_,rfl⟩
          have hdrop:r.drop k=c::r.drop (k+1):=by
           have e:c=r[k]:=by
            rw [hc,zlp R k hk]
            have e2:R.data.toList=r:=by rw [HR.out]
            simp [e2]
           rw [e];exact List.drop_eq_getElem_cons hkl
          have HDR:=Lib.hid hdrop
          clear hdrop hkl
          by_cases h46:(R[k].toNat:Int)=46
          ·have c46:c=46:=by rw [hc];exact UInt8.toNat_inj.1 (by show R[k].toNat=46;omega)
           go_wp2_with fail
           go_roundg (gk - 1)
           case measure=>omega
           case rel=>exact ⟨(k:Int) - 1,v,zs,by omega,by omega,by go_num,Lib.hid (by
            rw [HD2.out,show ((k:Int) - 1+1).toNat=k by omega,show ((k:Int)+1).toNat=k+1 by omega,HDR.out,c46];rfl),hown,k0,k1,hb,hzl⟩
          ·have cN:=k1.c1
           have n46:c≠46:=fun e=>h46 (by rw [← hc,e];rfl)
           have hcd:za8 c=true:=HSA.out.mem c (by have:=HDR.out;exact List.mem_of_mem_drop (i:=k) (by rw [this];exact List.mem_cons_self)) n46
           obtain ⟨d,hd⟩:∃ d:Nat,d=c.toNat - 48:=⟨_,rfl⟩
           have hdg:=(zc8 c).1 hcd
           have hd1:(R[k].toNat:Int) - 48=d:=by rw [← hc];omega
           have hd9:d≤9:=by omega
           have hw1:IntKind.u8.wrap (d:Int)=d:=by unfold IntKind.wrap;simp [IntKind.bits,IntKind.signed];omega
           have hw2:IntKind.i64.wrap (d:Int)=d:=IntWalk.i64_in _ (by omega)
           have hrev:zs++[d]=revD ((r.drop k).filter (· != 46)):=by
            rw [HDR.out,List.filter_cons_of_pos (by simpa using n46),znv,← hd,HD2.out,show ((k:Int)+1).toNat=k+1 by omega]
           have HRV:=Lib.hid hrev
           have hzb:(zs++[d]).length≤1000000000:=by
            rw [hrev,zkx]
            have h1:=List.length_filter_le (· != (46:UInt8)) (r.drop k)
            have h2:(r.drop k).length=r.length - k:=List.length_drop
            have h3:=HZ.out
            omega
           have hszw:w.heap.size+2≤wr.heap.size:=by have:=k1.lt;omega
           clear hrev hd hdg hcd n46 hc HDR HSA
           have cN2:(wr.alloc (.cells #[.int .i64 (d:Int)] 3)).cell? ⟨w.heap.size+1,1,none⟩=some v:=(k1.alloc _).c1
           go_wp2_with fail
           go_region_law (first
            |(refine step_append_lies _ (by rfl) _ _ _ (by rfl) (w.heap.size+2) 3 i0 _ 1 8 Tryz.underlying26 hi0 hz0 hz1 hz2 rfl (by omega) v zs.length (zcq zs) (by rfl) ((hown.alloc _).drew)
               ⟨wr.heap.size,0,none⟩ 1 1 [.int .i64 (d:Int)] (by rfl) (by rfl) (World.news_of_block (cs:=#[.int .i64 (d:Int)]) (t:=3) (fr:=(0,0)) (by exact heap_alloc_new wr _)) (by simp [Value.oneCell'])
               (by omega) (by unfold maxLen;omega) (by omega) (by simp;omega) (wr.heap.size+1) (by simp) ?_;intro gg cap w1 hown1 hgrow hat hlt
              have q1:Rec w1 (w.heap.size+1) N v 0:=zrd hgrow k1 hown (by omega)
              have q0:Rec w1 w.heap.size false (.slice none 0 0) 0:=zrd hgrow k0 hown (by omega)
              have hbq:Below w.heap.size w w1:=zv2 hgrow hb hb.size hown (by omega)
              have qc:=q1.c1
              have qf:w1.frozen? ⟨w.heap.size+1,1,none⟩=false:=zdl q1 1))
           all_goals
            have own2:(w1.setCell ⟨w.heap.size+1,1,none⟩ (.slice (some ⟨gg,0,none⟩) (zs.length+1) cap)).ownsRow (w.heap.size+2) 3 1 (.slice (some ⟨gg,0,none⟩) (zs.length+1) cap) (zs++[d]).length (zcq (zs++[d])):=by
             rw [z1p,List.length_append]
             exact ownsRow_setCell_below hown1 (Nat.lt_succ_self _) _
            have b2:=hbq.setCell (p:=⟨w.heap.size+1,1,none⟩) (Nat.le_succ _) (.slice (some ⟨gg,0,none⟩) (zs.length+1) cap)
            have r1:=q1.set1 (.slice (some ⟨gg,0,none⟩) (zs.length+1) cap)
            have r0:=q0.other 1 (.slice (some ⟨gg,0,none⟩) (zs.length+1) cap) (b:=w.heap.size+1) (by omega)
            clear qc qf q1 q0 hown1 hgrow hat hlt cN cN2 hown
            go_wp2_with fail
            go_roundg (gk - 1)
            case measure=>omega
            case rel=>exact ⟨(k:Int) - 1,_,zs++[d],by omega,by omega,by go_num,Lib.hid (by rw [show ((k:Int) - 1+1).toNat=k by omega];exact HRV.out),own2,r0,r1,b2,hzb⟩
         ·obtain rfl:i=-1:=by omega
          have hzz:zs=revD ((Lib.cut r [46]).1++(Lib.cut r [46]).2.1):=by
           rw [HD2.out,← HP.out.2.1];rfl
          have hvone:v.oneCell'=true:=by
           rcases hown.2 with ⟨e,_⟩ | ⟨g,cap,cur,e,_⟩ <;> rw [e] <;> rfl
          have hsc0:=HP.out.2.2
          have hlr:=HZ.out
          by_cases hp0:p ≥ 0
          ·have hsc:((Lib.cut r [46]).2.1.length:Int)=(R.size:Int) - 1 - p:=by rw [hsc0,if_neg (by omega)];omega
           have c2:=k1.c2
           have f2:wr.frozen? ⟨w.heap.size+1,2,none⟩=false:=zdl k1 2
           have k1b:=k1.set2 ((R.size:Int) - 1 - p)
           have k0b:=k0.other 2 (.int .i64 ((R.size:Int) - 1 - p)) (b:=w.heap.size+1) (by omega)
           have ownb:=ownsRow_setCell_below hown (a:=⟨w.heap.size+1,2,none⟩) (Nat.lt_succ_self _) (.int .i64 ((R.size:Int) - 1 - p))
           have hbb:=hb.setCell (p:=⟨w.heap.size+1,2,none⟩) (Nat.le_succ _) (.int .i64 ((R.size:Int) - 1 - p))
           clear hsc0
           go_wp2_with (first
            |((with_reducible refine zft (.tmp 4) (w.heap.size+1) k1b ?_ ?_ ?_ ?_);rfl;rfl;rfl)
            |((with_reducible refine zb1 (m:=N) (u:=v) (sd:=(R.size:Int) - 1 - p) (.tmp 2) (.tmp 92) w.heap.size k0b hvone ?_ ?_ ?_ ?_ ?_);rfl;rfl;rfl;rfl;intro w2 ho p1;have hb2:=zam hbb ho (Nat.le_refl _) (Nat.le_of_lt k0b.lt);have own2:=zre ownb ho (by omega)))
           exact bodyPost_ret (v:=.tuple #[numR N v (Lib.cut r [46]).2.1.length,.bool true]) (zeq (p:=2) (q:=3) Tryz.results219 _ (.bool true) rfl rfl (by rw [← hsc] at p1;exact p1)) rfl ⟨hb2,(fun h=>by rw [HP.out.1] at h;cases h),fun _=>⟨v,rfl,by rw [← hzz];exact zmg own2 rfl⟩⟩
          ·have hsc:((Lib.cut r [46]).2.1.length:Int)=0:=by rw [hsc0,if_pos (by omega)]
           have k0b:=k0
           clear hsc0
           go_wp2_with (first
            |((with_reducible refine zft (.tmp 4) (w.heap.size+1) k1 ?_ ?_ ?_ ?_);rfl;rfl;rfl)
            |((with_reducible refine zb1 (m:=N) (u:=v) (sd:=0) (.tmp 2) (.tmp 92) w.heap.size k0b hvone ?_ ?_ ?_ ?_ ?_);rfl;rfl;rfl;rfl;intro w2 ho p1;have hb2:=zam hb ho (Nat.le_refl _) (Nat.le_of_lt k0b.lt);have own2:=zre hown ho (by omega)))
           exact bodyPost_ret (v:=.tuple #[numR N v (Lib.cut r [46]).2.1.length,.bool true]) (zeq (p:=2) (q:=3) Tryz.results219 _ (.bool true) rfl rfl (by rw [← hsc] at p1;exact p1)) rfl ⟨hb2,(fun h=>by rw [HP.out.1] at h;cases h),fun _=>⟨v,rfl,by rw [← hzz];exact zmg own2 rfl⟩⟩
def bAt (ds:List Nat) (j:Nat):UInt8:=UInt8.ofNat (48+dig ds j)
def dn (ds:List Nat) (lo:Nat):Nat→List UInt8
 | 0=>[]
 | n+1=>bAt ds (lo+n)::dn ds lo n
theorem zh6 {ds:List Nat} (h:zec ds) (j:Nat):(bAt ds j).toNat=48+dig ds j:=by
 have:=h j
 unfold bAt;rw [UInt8.toNat_ofNat'];omega
theorem bAt_dig {ds:List Nat} (h:zec ds) (j:Nat):za8 (bAt ds j)=true:=by
 rw [zc8,zh6 h];have:=h j;omega
theorem zyx {ds:List Nat} (h:zec ds) (j:Nat):bAt ds j=48↔dig ds j=0:=by
 constructor
 ·intro e
  have:=zh6 h j
  rw [e] at this
  have h2:(48:UInt8).toNat=48:=rfl
  omega
 ·intro e;unfold bAt;rw [e];rfl
theorem zo8 (ds:List Nat) (lo n:Nat):(dn ds lo n).length=n:=by
 induction n with
 | zero=>rfl
 | succ n ih=>simp [dn,ih]
theorem zyy {ds:List Nat} (h:zec ds) (lo n:Nat):(dn ds lo n).all za8=true:=by
 induction n with
 | zero=>rfl
 | succ n ih=>simp [dn,ih,bAt_dig h]
theorem z3x {ds:List Nat} (h:zec ds) (lo n:Nat):valD (dn ds lo n)*10 ^ lo+vT lo (dig ds)=vT (lo+n) (dig ds):=by
 induction n with
 | zero=>simp [dn,valD]
 | succ n ih=>
   simp only [dn,valD,zo8,zh6 h]
   show _=vT (lo+n) (dig ds)+dig ds (lo+n)*10 ^ (lo+n)
   rw [← ih,Nat.add_sub_cancel_left,Nat.add_mul,Nat.pow_add,Nat.mul_assoc,Nat.mul_comm (10 ^ n)]
   omega
theorem zyz {ds:List Nat} (h:zec ds) (n:Nat):valD (dn ds 0 n)=vT n (dig ds):=by
 have:=z3x h 0 n
 simp [vT] at this
 exact this
theorem zrg (ds:List Nat) (lo m:Nat):∀ n,dn ds lo (m+n)=dn ds (lo+m) n++dn ds lo m
 | 0=>by simp [dn]
 | n+1=>by
   show bAt ds (lo+(m+n))::dn ds lo (m+n)=_
   rw [zrg ds lo m n]
   show _=bAt ds (lo+m+n)::dn ds (lo+m) n++dn ds lo m
   rw [Nat.add_assoc lo m n];rfl
theorem zlw {ds:List Nat} (lo:Nat):∀ n,(∀ j,lo≤j→j < lo+n→dig ds j=0)→dn ds lo n=List.replicate n 48
 | 0,_=>rfl
 | n+1,h=>by
   show bAt ds (lo+n)::dn ds lo n=_
   rw [zlw lo n (fun j a b=>h j a (by omega)),List.replicate_succ]
   unfold bAt;rw [h (lo+n) (by omega) (by omega)];rfl
theorem zny {l:List UInt8} (h:∀ c r,l=c::r→c≠48):Lib.trimLeftB l 48=l:=by
 cases l with
 | nil=>rfl
 | cons c r=>
   unfold Lib.trimLeftB
   rw [List.dropWhile_cons,if_neg (by simpa using h c r rfl)]
theorem zuo {ds:List Nat} (hs:zec ds) (lo m k:Nat) (h0:∀ j,lo+m≤j→j < lo+(m+k)→dig ds j=0) (h1:m=0∨dig ds (lo+m - 1)≠0):Lib.trimLeftB (dn ds lo (m+k)) 48=dn ds lo m:=by
 rw [zrg,zlw (lo+m) k (fun j a b=>h0 j a (by omega)),zf6]
 apply zny
 intro c r e hc
 cases m with
 | zero=>cases e
 | succ m=>
   have e1:c=bAt ds (lo+m):=(List.cons.inj e).1.symm
   rw [hc] at e1
   rcases h1 with h | h
   ·cases h
   ·exact h (by rw [show lo+(m+1) - 1=lo+m by omega];exact (zyx hs _).1 e1.symm)
theorem zv3 {l:List UInt8} (h:∀ r c,l=r++[c]→c≠48):Lib.trimRightB l 48=l:=by
 unfold Lib.trimRightB
 have:Lib.trimLeftB l.reverse 48=l.reverse:=zny fun c r e=>h r.reverse c (by rw [← List.reverse_reverse l,e];simp)
 unfold Lib.trimLeftB at this
 rw [this,List.reverse_reverse]
theorem z1s {ds:List Nat} (hs:zec ds) (lo k m:Nat) (h0:∀ j,lo≤j→j < lo+k→dig ds j=0) (h1:m=0∨dig ds (lo+k)≠0):Lib.trimRightB (dn ds lo (k+m)) 48=dn ds (lo+k) m:=by
 rw [zrg,zlw lo k h0,zf7]
 apply zv3
 intro r c e hc
 cases m with
 | zero=>simp [dn] at e
 | succ m=>
   rw [Nat.add_comm m 1,zrg] at e
   have e2:=List.append_inj_right' e (by simp [dn])
   have e1:bAt ds (lo+k)=c:=by
    have:=(List.cons.inj e2).1
    rw [show lo+k+0=lo+k from rfl] at this
    exact this
   rw [hc] at e1
   rcases h1 with h | h
   ·omega
   ·exact h ((zyx hs _).1 e1)
def zrh (neg:Bool) (ds:List Nat) (sc:Nat):Option (List UInt8):=wr neg (dn ds sc (ds.length - sc)) (dn ds 0 sc)
theorem zs9 {ds:List Nat} (hs:zec ds) (sc:Nat):zcy ds=valD (dn ds sc (ds.length - sc))*10 ^ sc+valD (dn ds 0 sc):=by
 rw [zyz hs,z3x hs,zh5 _ (by omega)]
structure Ends (ds:List Nat) (sc low high:Nat):Prop where
 l:low≤sc
 lz:∀ j,j < low→dig ds j=0
 ln:low=sc∨dig ds low≠0
 h:sc+1≤high
 hz:∀ j,high≤j→dig ds j=0
 hn:high=sc+1∨dig ds (high - 1)≠0
theorem Ends.trimR {ds:List Nat} {sc low high:Nat} (h:Ends ds sc low high) (hs:zec ds):Lib.trimRightB (dn ds 0 sc) 48=dn ds low (sc - low):=by
 have e:=z1s hs 0 low (sc - low) (fun j _ b=>h.lz j (by omega)) (by
  rcases h.ln with k | k
  ·left;omega
  ·right;rwa [Nat.zero_add])
 have hl:=h.l
 rw [show low+(sc - low)=sc by omega,Nat.zero_add] at e
 exact e
theorem Ends.trimL {ds:List Nat} {sc low high:Nat} (h:Ends ds sc low high) (hs:zec ds):Lib.trimLeftB (dn ds sc (ds.length - sc)) 48=if dig ds (high - 1)=0 then [] else dn ds sc (high - sc):=by
 have hh:=h.h
 by_cases h0:dig ds (high - 1)=0
 ·rw [if_pos h0]
  have e:high=sc+1:=by rcases h.hn with k | k
                       ·exact k
                       ·exact absurd h0 k
  have:=zuo hs sc 0 (ds.length - sc) (fun j a _=>by
   by_cases k:j=sc
   ·rw [k,← h0,e];rfl
   ·exact h.hz j (by omega)) (.inl rfl)
  rwa [Nat.zero_add] at this
 ·rw [if_neg h0]
  have hl:high≤ds.length:=by
   rcases Nat.lt_or_ge (high - 1) ds.length with k | k
   ·omega
   ·exact absurd (zlv k) h0
  have:=zuo hs sc (high - sc) (ds.length - high) (fun j a _=>h.hz j (by omega)) (.inr (by rw [show sc+(high - sc) - 1=high - 1 by omega];exact h0))
  rwa [show high - sc+(ds.length - high)=ds.length - sc by omega] at this
theorem Ends.orL {ds:List Nat} {sc low high:Nat} (h:Ends ds sc low high) (hs:zec ds):orN (Lib.trimLeftB (dn ds sc (ds.length - sc)) 48)=dn ds sc (high - sc)∧
 ((Lib.trimLeftB (dn ds sc (ds.length - sc)) 48).length > 40↔high - sc > 40):=by
 have hh:=h.h
 rw [h.trimL hs]
 by_cases h0:dig ds (high - 1)=0
 ·rw [if_pos h0]
  have e:high=sc+1:=by rcases h.hn with k | k
                       ·exact k
                       ·exact absurd h0 k
  have e1:dig ds sc=0:=by rw [← h0,e];rfl
  rw [e,show sc+1 - sc=1 by omega]
  refine ⟨?_,by simp⟩
  show [48]=[bAt ds (sc+0)]
  rw [(zyx hs (sc+0)).2 e1]
 ·rw [if_neg h0,zo8]
  refine ⟨?_,Iff.rfl⟩
  obtain ⟨k,hk⟩:∃ k,high - sc=k+1:=⟨high - sc - 1,by omega⟩
  rw [hk];rfl
theorem Ends.form {ds:List Nat} {sc low high:Nat} (h:Ends ds sc low high) (hs:zec ds) (neg:Bool):
 zrh neg ds sc=if high - sc > 40∨sc - low > 20 then none else some ((if neg && !decide (zcy ds=0) then [45] else [])++(dn ds sc (high - sc)++46::(if low=sc then [48] else dn ds low (sc - low)))):=by
 obtain ⟨o1,o2⟩:=h.orL hs
 have t2:=h.trimR hs
 have hl:=h.l
 have hx:=zm6 (zyy hs sc (ds.length - sc))
 have hy:=zm7 (zyy hs 0 sc)
 have hv:=zs9 hs sc
 unfold zrh wr
 simp only
 have c1:(40 < (Lib.trimLeftB (dn ds sc (ds.length - sc)) 48).length∨20 < (Lib.trimRightB (dn ds 0 sc) 48).length)↔(high - sc > 40∨sc - low > 20):=by
  rw [t2,zo8];exact or_congr o2 Iff.rfl
 have c2:(!(Lib.trimLeftB (dn ds sc (ds.length - sc)) 48++Lib.trimRightB (dn ds 0 sc) 48).isEmpty)=!decide (zcy ds=0):=by
  congr 1
  rw [Bool.eq_iff_iff,decide_eq_true_iff,List.isEmpty_iff,List.append_eq_nil_iff,hx,hy,hv,Nat.add_eq_zero_iff,Nat.mul_eq_zero]
  have hp:(10:Nat) ^ sc≠0:=Nat.pos_iff_ne_zero.1 (Nat.pow_pos (by decide))
  constructor
  ·rintro ⟨a,b⟩;exact ⟨.inl a,b⟩
  ·rintro ⟨a | a,b⟩
   ·exact ⟨a,b⟩
   ·exact absurd a hp
 rw [c2,o1]
 have c3:orN (Lib.trimRightB (dn ds 0 sc) 48)=if low=sc then [48] else dn ds low (sc - low):=by
  rw [t2]
  by_cases e:low=sc
  ·rw [if_pos e,e,Nat.sub_self];rfl
  ·rw [if_neg e]
   obtain ⟨k,hk⟩:∃ k,sc - low=k+1:=⟨sc - low - 1,by omega⟩
   rw [hk];rfl
 rw [c3]
 by_cases hc:high - sc > 40∨sc - low > 20
 ·rw [if_pos hc,if_pos (c1.2 hc)]
 ·rw [if_neg hc,if_neg (fun k=>hc (c1.1 k))]
def nval (neg:Bool) (ds:List Nat) (sc:Nat):Int:=sv neg (zcy ds*10 ^ (54 - sc))
theorem dn_revD (a b:List UInt8) (ha:a.all za8=true) (hb:b.all za8=true):dn (revD (a++b)) b.length a.length=a∧dn (revD (a++b)) 0 b.length=b:=by
 have hall:(a++b).all za8=true:=by rw [List.all_append,ha,hb];rfl
 have key:∀ (l:List UInt8),l.all za8=true→dn (revD l) 0 l.length=l:=by
  intro l hl
  apply zej _ _ (zyy (znw l hl) _ _) hl (zo8 _ _ _)
  rw [zyz (znw l hl)]
  have:=zys l
  unfold zcy at this
  rwa [zkx] at this
 have h1:=key (a++b) hall
 rw [List.length_append,Nat.add_comm,zrg,Nat.zero_add] at h1
 exact List.append_inj h1 (zo8 _ _ _)
theorem zy0 (neg:Bool) (a b:List UInt8) (ha:a.all za8=true) (hb:b.all za8=true):zrh neg (revD (a++b)) b.length=wr neg a b:=by
 obtain ⟨h1,h2⟩:=dn_revD a b ha hb
 unfold zrh
 rw [zkx,List.length_append,Nat.add_sub_cancel,h1,h2]
structure zky (w:World) (neg:Bool) (v:Value) (sc:Nat) (s6:Value) (l:List UInt8) (wr:World):Prop where
 own:wr.ownsRow (w.heap.size+1) 5 1 s6 l.length (vals l)
 rc:Rec wr w.heap.size neg v sc
 bel:Below w.heap.size w wr
theorem zky.app {w wr w1:World} {neg:Bool} {v s6 v':Value} {sc n:Nat} {l:List UInt8} {o:Obj} {c:UInt8} {x:Int} (h:zky w neg v sc s6 l wr) (hx:(c.toNat:Int)=x)
 (hown:w1.ownsRow (w.heap.size+1) 5 1 v' n (vals l++[.int .u8 x])) (hn:n=l.length+1) (hg:(wr.alloc o).grownBy w1 s6.ownBlock):zky w neg v sc v' (l++[c]) w1:=by
 have hne:some w.heap.size≠s6.ownBlock:=fun e=>by have:=(h.own.lt _ e.symm).1;omega
 have hb:Below w.heap.size w w1:=(h.bel.alloc h.bel.size o).grown hg (by have:=h.bel.size;simp;omega) (fun k hk=>by have:=(h.own.lt k hk).1;omega)
 refine ⟨?_,(hg.block _ (zaa (h.rc.alloc o)) hne).trans (h.rc.alloc o),hb⟩
 subst hx hn
 rw [List.length_append]
 unfold vals at hown ⊢
 simpa using hown
theorem zky.conv {w wr:World} {neg:Bool} {v s6:Value} {sc:Nat} {l:List UInt8} (h:zky w neg v sc s6 l wr) (hne:l≠[]):
 ∃ g cap,s6=.slice (some ⟨g,0,none⟩) l.length cap∧(convert 101 9 (.slice (some ⟨g,0,none⟩) l.length cap)).run Tryz.prog wr=.ok (.string (bs l)) wr:=by
 have hl:0 < l.length:=List.length_pos_iff.2 hne
 rcases h.own.2 with ⟨e,h0⟩ | ⟨g,cap,cur,e,_,_⟩
 ·exact absurd (List.length_eq_zero_iff.1 h0) hne
 ·refine ⟨g,cap,e,?_⟩
  have hown:=h.own
  subst e
  exact run_convert_bytes_back (P:=Tryz.prog) wr 101 9 5 ⟨g,0,none⟩ cap l Tryz.underlying101 Tryz.underlying5 Tryz.underlying9 (fun j hj=>by
   rw [Addr.add_mid,Nat.zero_add,hown.cellAt j (by omega)]
   unfold vals
   rw [List.getElem?_map,List.getElem?_eq_getElem hj]
   rfl)
theorem refForm (neg:Bool) (v:Value) (ds:List Nat) (sc:Nat) (w:World) (h:Ints w v ds) (hs:zec ds) (l1:sc≤1000000000) (l2:ds.length≤1000000000):
 Calls Tryz.prog 220 #[numR neg v sc] w fun e w'=>e=.returned (said (zrh neg ds sc))∧Below w.heap.size w w':=by
 unfold numR
 obtain ⟨i0,hi,hz0,hz1,hz2⟩:=info_parts zf0
 obtain ⟨t,er,hv0⟩:=zna (zrh neg ds sc)
 rw [hv0]
 have HV0:=Lib.hid hv0
 have HI:=Lib.hid h
 have HS:=Lib.hid hs
 have HF:=h.form
 obtain ⟨p,cap,rfl⟩:=HF
 obtain ⟨n,hn⟩:∃ n,n=ds.length:=⟨_,rfl⟩
 rw [← hn] at l2 ⊢
 have HN:=Lib.hid hn
 have k0:Rec (w.alloc (.cells #[.bool neg,.slice p ds.length cap,.int .i64 sc] 224)) w.heap.size neg (.slice p ds.length cap) sc:=zaf _ _ rfl
 have hb0:Below w.heap.size w (w.alloc (.cells #[.bool neg,.slice p ds.length cap,.int .i64 sc] 224)):=(Below.refl _ _).alloc (Nat.le_refl _) _
 rw [← hn] at k0 hb0
 have K0:=Lib.hid (And.intro k0 hb0)
 clear h hs hv0 hn k0 hb0
 go_enter Tryz.func220,Tryz.ntmps220
 go_upto_block 0 with fail
 go_cut [4] (fun s4 wx=>∃ low:Nat,s4=.int .i64 low∧wx=w.alloc (.cells #[.bool neg,.slice p n cap,.int .i64 sc] 224)∧low≤sc∧Aside ((∀ j,j < low→dig ds j=0)∧(low=sc∨dig ds low≠0)))
 case first=>
  go_wp2_with fail
  go_loopg [4] sc (fun gg s4 wr=>∃ low:Nat,low+gg=sc∧s4=.int .i64 low∧wr=w.alloc (.cells #[.bool neg,.slice p n cap,.int .i64 sc] 224)∧Aside (∀ j,j < low→dig ds j=0))
  case atStart=>exact ⟨0,by omega,rfl,rfl,fun j hj=>absurd hj (Nat.not_lt_zero j)⟩
  case round=>
   obtain ⟨low,hl,rfl,rfl,hz⟩:=hrel
   have HZ:=Lib.hid hz.out
   clear hz
   by_cases h1:(low:Int) < sc
   ·obtain ⟨x,hx⟩:∃ x,x=dig ds low:=⟨_,rfl⟩
    have K1:=Lib.hid hx
    have IW:Hid (Ints (w.alloc (.cells #[.bool neg,.slice p n cap,.int .i64 sc] 224)) (.slice p n cap) ds):=Lib.hid (by have:=HI.out;rw [← HN.out] at this;exact this.below K0.out.2)
    by_cases h2:(x:Int)=0
    ·have hz2:∀ j,j < low+1→dig ds j=0:=fun j hj=>by
      rcases Nat.lt_or_ge j low with h3 | h3
      ·exact HZ.out j h3
      ·rw [show j=low by omega,← hx];omega
     have HZ2:=Lib.hid hz2
     clear hz2 hx HZ
     go_wp2_with (go_at_call 248;(with_reducible refine (zun _ ds low x _ IW.out K1).mono ?_);rintro e w' ⟨rfl,rfl⟩)
     go_roundg (gk - 1)
     case measure=>omega
     case rel=>exact ⟨low+1,by omega,by go_num,rfl,HZ2.out⟩
    ·have hx2:dig ds low≠0:=by rw [← hx];omega
     have HX2:=Lib.hid hx2
     have h2b:((x:Int) == 0)=false:=by simpa using h2
     clear hx hx2
     go_wp2_with (go_at_call 248;(with_reducible refine (zun _ ds low x _ IW.out K1).mono ?_);rintro e w' ⟨rfl,rfl⟩)
     go_meet
     case rel=>exact ⟨low,rfl,rfl,by omega,HZ.out,.inr HX2.out⟩
   ·go_wp2_with fail
    go_meet
    case rel=>exact ⟨low,rfl,rfl,by omega,HZ.out,.inl (by omega)⟩
 case rest=>
  obtain ⟨low,rfl,rfl,hlow,hz⟩:=hcut
  have HL:=Lib.hid hz.out
  clear hz
  go_upto_block 2 with fail
  go_cut [5] (fun s5 wx=>∃ high:Nat,s5=.int .i64 high∧wx=w.alloc (.cells #[.bool neg,.slice p n cap,.int .i64 sc] 224)∧high≤n∧Aside ((∀ j,high≤j→dig ds j=0)∧(high≤sc+1∨dig ds (high - 1)≠0)))
  case first=>
   go_wp2_with fail
   go_loopg [5] n (fun gg s5 wr=>∃ high:Nat,high=gg∧s5=.int .i64 high∧wr=w.alloc (.cells #[.bool neg,.slice p n cap,.int .i64 sc] 224)∧high≤n∧Aside (∀ j,high≤j→dig ds j=0))
   case atStart=>exact ⟨n,rfl,rfl,rfl,Nat.le_refl _,fun j hj=>zlv (by rw [← HN.out];exact hj)⟩
   case round=>
    obtain ⟨high,rfl,rfl,rfl,hh,hz⟩:=hrel
    have HZ:=Lib.hid hz.out
    clear hz
    by_cases h1:(high:Int) > sc+1
    ·obtain ⟨k,hk⟩:∃ k:Nat,(high:Int) - 1=k:=⟨high - 1,by omega⟩
     have hk2:high=k+1:=by omega
     have HK:=Lib.hid hk2
     clear hk2
     have hcell:∃ b off,p=some ⟨b,off,none⟩∧w.cell? ⟨b,off+k,none⟩=some (.int .i64 (dig ds k)):=by
      rcases HI.out with ⟨e,e2⟩ | ⟨b,off,cap2,e,hc,_⟩
      ·have:=HN.out;rw [e2] at this;simp at this;omega
      ·injection e with e1 e2 e3
       exact ⟨b,off,e1,hc k (by rw [← HN.out];omega)⟩
     obtain ⟨b,off,rfl,hc⟩:=hcell
     have c1:=(K0.out.2.cell (p:=⟨b,off+k,none⟩) (World.block_lt_of_cell? w _ hc)).trans hc
     obtain ⟨x,hx⟩:∃ x,x=dig ds k:=⟨_,rfl⟩
     rw [← hx] at c1
     clear hc
     by_cases h2:(x:Int)=0
     ·have hz2:∀ j,k≤j→dig ds j=0:=fun j hj=>by
       rcases Nat.lt_or_ge k j with h3 | h3
       ·exact HZ.out j (by omega)
       ·rw [show j=k by omega,← hx];omega
      have HZ2:=Lib.hid hz2
      clear hz2 hx HZ
      rw [h2] at c1
      go_wp2_with fail
      go_roundg k
      case measure=>omega
      case rel=>exact ⟨k,rfl,rfl,rfl,by omega,HZ2.out⟩
     ·have hx2:dig ds k≠0:=by rw [← hx];omega
      have HX2:=Lib.hid hx2
      have h2b:((x:Int) == 0)=false:=by simpa using h2
      clear hx hx2
      go_wp2_with fail
      go_meet
      case rel=>exact ⟨high,rfl,rfl,by omega,HZ.out,.inr (by rw [show high - 1=k by omega];exact HX2.out)⟩
    ·go_wp2_with fail
     go_meet
     case rel=>exact ⟨high,rfl,rfl,by omega,HZ.out,.inl (by omega)⟩
  case rest=>
   obtain ⟨h0,rfl,rfl,hh0,hz⟩:=hcut
   have HH:=Lib.hid hz.out
   clear hz
   go_upto_if 44 with fail
   go_cut [5] (fun s5 wx=>∃ high:Nat,s5=.int .i64 high∧wx=w.alloc (.cells #[.bool neg,.slice p n cap,.int .i64 sc] 224)∧high≤2000000001∧sc+1≤high∧Hid (Ends ds sc low high))
   case first=>
    by_cases h1:(h0:Int)≤sc
    ·have HE:Hid (Ends ds sc low (sc+1)):=Lib.hid ⟨hlow,HL.out.1,HL.out.2,Nat.le_refl _,fun j hj=>HH.out.1 j (by omega),.inl rfl⟩
     go_wp2_with fail
     go_meet
     case rel=>exact ⟨sc+1,by go_num,rfl,by omega,Nat.le_refl _,HE⟩
    ·have HE:Hid (Ends ds sc low h0):=Lib.hid ⟨hlow,HL.out.1,HL.out.2,by omega,HH.out.1,by rcases HH.out.2 with k | k;left;omega;exact .inr k⟩
     go_wp2_with fail
     go_meet
     case rel=>exact ⟨h0,rfl,rfl,by omega,by omega,HE⟩
   case rest=>
    clear HL HH hh0
    obtain ⟨high,rfl,rfl,hh,hsc,HE⟩:=hcut
    have hform:=HE.out.form HS.out neg
    by_cases hov:high - sc > 40∨sc - low > 20
    ·rw [if_pos hov] at hform
     have hr:t=bs []∧er=2:=by
      have:=HV0.out
      rw [hform] at this
      simp [said] at this
      exact ⟨this.1.symm,this.2.symm⟩
     obtain ⟨rfl,rfl⟩:=hr
     clear hform
     by_cases hov1:(high:Int) - sc > 40
     ·clear hov
      go_wp2_with fail
      go_ret2
      exact ⟨rfl,K0.out.2⟩
     ·have hov2:(sc:Int) - low > 20:=by omega
      clear hov
      go_wp2_with fail
      go_ret2
      exact ⟨rfl,K0.out.2⟩
    ·rw [if_neg hov] at hform
     obtain ⟨T,hT⟩:∃ T,T=((if (neg && !decide (zcy ds=0))=true then [45] else [])++(dn ds sc (high - sc)++46::(if low=sc then [48] else dn ds low (sc - low)))):=⟨_,rfl⟩
     rw [← hT] at hform
     have hr:t=bs T∧er=0:=by
      have:=HV0.out
      rw [hform] at this
      simp [said] at this
      exact ⟨this.1.symm,this.2.symm⟩
     obtain ⟨rfl,rfl⟩:=hr
     have HT:=Lib.hid hT
     clear hform hT HV0
     have o1:(high:Int) - sc≤40:=by omega
     have o2:(sc:Int) - low≤20:=by omega
     clear hov
     obtain ⟨d,hd⟩:∃ d:Bool,d=decide (zcy ds=0):=⟨_,rfl⟩
     obtain ⟨S,hS⟩:∃ S:List UInt8,S=if (neg && !d)=true then [45] else []:=⟨_,rfl⟩
     have HD:=Lib.hid hd
     have HSS:=Lib.hid hS
     have hsd:S=if (neg && !decide (zcy ds=0))=true then [45] else []:=by rw [hS,hd]
     have HSD:=Lib.hid hsd
     clear hsd
     have hS1:S.length≤1:=by rw [hS];split <;> simp
     clear hd hS
     go_upto_region 12 with fail
     go_cut [67] (fun s67 wx=>s67=.bool (neg && !d)∧wx=w.alloc (.cells #[.bool neg,.slice p n cap,.int .i64 sc] 224))
     case first=>
      have IW:Hid (Ints (w.alloc (.cells #[.bool neg,.slice p n cap,.int .i64 sc] 224)) (.slice p n cap) ds):=Lib.hid (by have:=HI.out;rw [← HN.out] at this;exact this.below K0.out.2)
      have hn63:ds.length≤9223372036854775807:=by have:=HN.out;omega
      have HN63:=Lib.hid hn63
      clear hn63
      cases neg with
      | false=>
        go_wp2_with fail
        go_meet
        case rel=>exact ⟨rfl,rfl⟩
      | true=>
        cases d with
        | false=>
          go_wp2_with (go_at_call 215;(with_reducible refine (zyo _ ds _ IW.out HN63.out false HD.out).mono ?_);rintro e w' ⟨rfl,rfl⟩)
          go_meet
          case rel=>exact ⟨rfl,rfl⟩
        | true=>
          go_wp2_with (go_at_call 215;(with_reducible refine (zyo _ ds _ IW.out HN63.out true HD.out).mono ?_);rintro e w' ⟨rfl,rfl⟩)
          go_meet
          case rel=>exact ⟨rfl,rfl⟩
     case rest=>
      obtain ⟨rfl,rfl⟩:=hcut
      obtain ⟨m,hm⟩:∃ m:Bool,m=(neg && !d):=⟨_,rfl⟩
      rw [← hm] at HSS ⊢
      have HM:=Lib.hid hm
      clear hm
      go_upto_if 67 with fail
      go_cut [6] (fun s6 wx=>zky w neg (.slice p n cap) sc s6 S wx)
      case first=>
       have F0:zky w neg (.slice p n cap) sc (.slice none 0 0) [] (w.alloc (.cells #[.bool neg,.slice p n cap,.int .i64 sc] 224)):=⟨World.ownsRow_nil _ _ _ _,K0.out.1,K0.out.2⟩
       have FH:=Lib.hid F0
       clear F0
       cases m with
       | false=>
         have e:S=[]:=by rw [HSS.out];rfl
         go_wp2_with fail
         go_meet
         case rel=>rw [e];exact FH.out
       | true=>
         have e:S=[45]:=by rw [HSS.out];rfl
         have hown:=FH.out.own
         have HE1:=Lib.hid e
         clear e
         go_wp2_with (at_builtin;refine wpList_append_own _ rfl _ _ 101 rfl (w.heap.size+1) 5 i0 (.int .u8 0) 1 1 Tryz.underlying101 hi hz0 hz1 hz2 rfl (by decide) _ _ _ rfl (hown.alloc _) ⟨w.heap.size+1,0,none⟩ 1 1 [.int .u8 45] rfl rfl ?_ ?_ ?_ ?_ ?_ ?_)
         all_goals (try (first | rfl |(unfold maxLen;omega) | omega |(have:=FH.out.bel.size;simp;omega) |(intro j u hj;match j,hj with | 0,hj=>(simp at hj;subst hj;simp [Addr.add])) |(intro u hu;simp at hu;subst hu;rfl)))
         ·intro v' w1 hown' hgrow _
          have F1:=FH.out.app (c:=45) rfl hown' rfl hgrow
          clear hown' hgrow hown
          go_wp2_with fail
          go_meet
          case rel=>rw [HE1.out];exact F1
      case rest=>
       obtain ⟨G,hG⟩:∃ G:List UInt8,G=S++dn ds sc (high - sc):=⟨_,rfl⟩
       have HG:=Lib.hid hG
       have hGl:G.length≤41:=by rw [hG,List.length_append,zo8];omega
       have HGL:=Lib.hid hGl
       have HX:=HS.out
       have HSX:=Lib.hid HX
       clear hG hGl HX HSS HD HM K0
       rename_i s6
       have FC:=Lib.hid hcut
       clear hcut
       go_wp2_with fail
       go_loopg [6,7] (high - sc) (fun gg s6 s7 wr=>∃ (l:List UInt8) (i:Int),i+1=sc+gg∧s7=.int .i64 i∧l.length+gg≤41∧zky w neg (.slice p n cap) sc s6 l wr∧Hid (l++dn ds sc gg=G))
       case atStart=>exact ⟨S,_,by omega,rfl,by omega,FC.out,Lib.hid HG.out.symm⟩
       case round=>
        clear FC
        obtain ⟨l,i,hig,rfl,hlen,F,HL⟩:=hrel
        have c1:=F.rc.c1
        have c2:=F.rc.c2
        by_cases h1:i ≥ sc
        ·obtain ⟨j,rfl⟩:=Int.eq_ofNat_of_zero_le (show 0≤i by omega)
         obtain ⟨x,hx⟩:∃ x,x=dig ds j:=⟨_,rfl⟩
         have hx9:=HSX.out j
         rw [← hx] at hx9
         have hcx:((bAt ds j).toNat:Int)=48+x:=by rw [zh6 HSX.out,← hx];omega
         have hlist:l++[bAt ds j]++dn ds sc (gk - 1)=G:=by
          have:=HL.out
          rw [show gk=gk - 1+1 by omega] at this
          rw [← this,List.append_assoc]
          show l++(bAt ds j::dn ds sc (gk - 1))=l++(bAt ds (sc+(gk - 1))::dn ds sc (gk - 1))
          rw [show sc+(gk - 1)=j by omega]
         have HC:=Lib.hid (And.intro hcx hlist)
         have K1:=Lib.hid hx
         have hw1:IntKind.u8.wrap (48+(x:Int))=48+x:=by unfold IntKind.wrap;simp [IntKind.bits,IntKind.signed];omega
         have IW:Hid (Ints wr (.slice p n cap) ds):=Lib.hid (by have:=HI.out;rw [← HN.out] at this;exact this.below F.bel)
         have hown:=F.own
         have hsz:=F.bel.size
         have hgt:=F.rc.lt
         clear hcx hlist hx
         go_wp2_with (first
          |(go_at_call 248;(with_reducible refine (zun _ ds j x _ IW.out K1).mono ?_);rintro e w' ⟨rfl,rfl⟩)
          |(at_builtin;refine wpList_append_own _ rfl _ _ 101 rfl (w.heap.size+1) 5 i0 (.int .u8 0) 1 1 Tryz.underlying101 hi hz0 hz1 hz2 rfl (by decide) _ _ _ rfl (hown.alloc _) ⟨wr.heap.size,0,none⟩ 1 1 [.int .u8 (48+(x:Int))] rfl rfl ?_ ?_ ?_ ?_ ?_ ?_))
         all_goals (try (first | rfl |(unfold maxLen;omega) | omega |(have:=F.bel.size;simp;omega) |(intro j u hj;match j,hj with | 0,hj=>(simp at hj;subst hj;simp [Addr.add])) |(intro u hu;simp at hu;subst hu;rfl)))
         ·intro v' w1 hown' hgrow _
          have F1:=F.app HC.out.1 hown' rfl hgrow
          clear hown' hgrow hown c1 c2 hw1
          go_wp2_with fail
          go_roundg (gk - 1)
          case measure=>omega
          case rel=>exact ⟨l++[bAt ds j],(j:Int) - 1,by omega,by go_num,by simp;omega,F1,Lib.hid HC.out.2⟩
        ·have hl:l=G:=by
          have:=HL.out
          rw [show gk=0 by omega] at this
          rw [← this];exact (List.append_nil l).symm
         have HLG:=Lib.hid hl
         have hown:=F.own
         have hsz:=F.bel.size
         have hgt:=F.rc.lt
         clear hl
         go_wp2_with (at_builtin;refine wpList_append_own _ rfl _ _ 101 rfl (w.heap.size+1) 5 i0 (.int .u8 0) 1 1 Tryz.underlying101 hi hz0 hz1 hz2 rfl (by decide) _ _ _ rfl (hown.alloc _) ⟨wr.heap.size,0,none⟩ 1 1 [.int .u8 46] rfl rfl ?_ ?_ ?_ ?_ ?_ ?_)
         all_goals (try (first | rfl |(unfold maxLen;omega) | omega |(have:=F.bel.size;simp;omega) |(intro j u hj;match j,hj with | 0,hj=>(simp at hj;subst hj;simp [Addr.add])) |(intro u hu;simp at hu;subst hu;rfl)))
         ·intro v' w1 hown' hgrow _
          have F1:=F.app (c:=46) rfl hown' rfl hgrow
          have FC:=Lib.hid F1
          have d2:=F1.rc.c2
          obtain ⟨G2,hG2⟩:∃ G2:List UInt8,G2=l++[46]++dn ds low (sc - low):=⟨_,rfl⟩
          have HG2:=Lib.hid hG2
          have hlb:(l++[46]).length≤42:=by rw [List.length_append,HLG.out];have:=HGL.out;simp;omega
          have HLB:=Lib.hid hlb
          clear hlb hG2 F1 hown' hgrow hown c1 c2 F HL hlen hig
          go_wp2_with fail
          clear d2
          go_loopg [6,8] (sc - low) (fun gg s6 s8 wq=>∃ (l2:List UInt8) (i2:Int),i2+1=low+gg∧s8=.int .i64 i2∧l2.length+gg≤62∧zky w neg (.slice p n cap) sc s6 l2 wq∧Hid (l2++dn ds low gg=G2))
          case atStart=>exact ⟨l++[46],_,by omega,rfl,by have:=HLB.out;omega,FC.out,Lib.hid HG2.out.symm⟩
          case round=>
           clear FC
           obtain ⟨l2,i2,hig2,rfl,hlen2,F2,HL2⟩:=hrel
           have c1:=F2.rc.c1
           have c2:=F2.rc.c2
           by_cases h2:i2 ≥ low
           ·obtain ⟨j,rfl⟩:=Int.eq_ofNat_of_zero_le (show 0≤i2 by omega)
            obtain ⟨x,hx⟩:∃ x,x=dig ds j:=⟨_,rfl⟩
            have hx9:=HSX.out j
            rw [← hx] at hx9
            have hcx:((bAt ds j).toNat:Int)=48+x:=by rw [zh6 HSX.out,← hx];omega
            have hlist:l2++[bAt ds j]++dn ds low (gk - 1)=G2:=by
             have:=HL2.out
             rw [show gk=gk - 1+1 by omega] at this
             rw [← this,List.append_assoc]
             show l2++(bAt ds j::dn ds low (gk - 1))=l2++(bAt ds (low+(gk - 1))::dn ds low (gk - 1))
             rw [show low+(gk - 1)=j by omega]
            have HC:=Lib.hid (And.intro hcx hlist)
            have K1:=Lib.hid hx
            have hw1:IntKind.u8.wrap (48+(x:Int))=48+x:=by unfold IntKind.wrap;simp [IntKind.bits,IntKind.signed];omega
            have IW:Hid (Ints wr (.slice p n cap) ds):=Lib.hid (by have:=HI.out;rw [← HN.out] at this;exact this.below F2.bel)
            have hown:=F2.own
            have hsz:=F2.bel.size
            have hgt:=F2.rc.lt
            clear hcx hlist hx
            go_wp2_with (first
             |(go_at_call 248;(with_reducible refine (zun _ ds j x _ IW.out K1).mono ?_);rintro e w' ⟨rfl,rfl⟩)
             |(at_builtin;refine wpList_append_own _ rfl _ _ 101 rfl (w.heap.size+1) 5 i0 (.int .u8 0) 1 1 Tryz.underlying101 hi hz0 hz1 hz2 rfl (by decide) _ _ _ rfl (hown.alloc _) ⟨wr.heap.size,0,none⟩ 1 1 [.int .u8 (48+(x:Int))] rfl rfl ?_ ?_ ?_ ?_ ?_ ?_))
            all_goals (try (first | rfl |(unfold maxLen;omega) | omega |(have:=F2.bel.size;simp;omega) |(intro j u hj;match j,hj with | 0,hj=>(simp at hj;subst hj;simp [Addr.add])) |(intro u hu;simp at hu;subst hu;rfl)))
            ·intro v' w1 hown' hgrow _
             have F1:=F2.app HC.out.1 hown' rfl hgrow
             clear hown' hgrow hown c1 c2 hw1
             go_wp2_with fail
             go_roundg (gk - 1)
             case measure=>omega
             case rel=>exact ⟨l2++[bAt ds j],(j:Int) - 1,by omega,by go_num,by simp;omega,F1,Lib.hid HC.out.2⟩
           ·have hl2:l2=G2:=by
             have:=HL2.out
             rw [show gk=0 by omega] at this
             rw [← this];exact (List.append_nil l2).symm
            have HLG2:=Lib.hid hl2
            clear hl2
            by_cases hls:(low:Int)=sc
            ·have hT:l2++[48]=T:=by
              rw [HLG2.out,HG2.out,HLG.out,HG.out,HT.out,if_pos (show low=sc by omega),show sc - low=0 by omega]
              show S++_++[46]++[]++[48]=_
              rw [HSD.out];simp
             have HTT:=Lib.hid hT
             have hown:=F2.own
             have hsz:=F2.bel.size
             have hgt:=F2.rc.lt
             clear hT
             go_wp2_with (at_builtin;refine wpList_append_own _ rfl _ _ 101 rfl (w.heap.size+1) 5 i0 (.int .u8 0) 1 1 Tryz.underlying101 hi hz0 hz1 hz2 rfl (by decide) _ _ _ rfl (hown.alloc _) ⟨wr.heap.size,0,none⟩ 1 1 [.int .u8 48] rfl rfl ?_ ?_ ?_ ?_ ?_ ?_)
             all_goals (try (first | rfl |(unfold maxLen;omega) | omega |(have:=F2.bel.size;simp;omega) |(intro j u hj;match j,hj with | 0,hj=>(simp at hj;subst hj;simp [Addr.add])) |(intro u hu;simp at hu;subst hu;rfl)))
             ·intro v' w1 hown' hgrow _
              have F1:=F2.app (c:=48) rfl hown' rfl hgrow
              obtain ⟨g,cap3,rfl,hcv⟩:=F1.conv (by simp)
              obtain ⟨X,hX⟩:∃ X,X=bs (l2++[48]):=⟨_,rfl⟩
              rw [← hX] at hcv
              have HXX:=Lib.hid hX
              have hbf:=F1.bel
              clear hX F1 hown' hgrow hown c1 c2
              generalize (l2++[48]).length=L at*
              go_wp2_with fail
              go_ret2
              exact ⟨by rw [HXX.out,HTT.out];rfl,hbf⟩
            ·have hT:l2=T:=by
              rw [HLG2.out,HG2.out,HLG.out,HG.out,HT.out,if_neg (show ¬ low=sc by omega),HSD.out];simp
             have HTT:=Lib.hid hT
             have hne:l2≠[]:=by rw [HLG2.out,HG2.out];simp
             obtain ⟨g,cap3,rfl,hcv⟩:=F2.conv hne
             obtain ⟨X,hX⟩:∃ X,X=bs l2:=⟨_,rfl⟩
             rw [← hX] at hcv
             have HXX:=Lib.hid hX
             have hbf:=F2.bel
             clear hX F2 hT hne c1
             generalize l2.length=L at*
             have hlsb:((low:Int) == (sc:Int))=false:=by simpa using hls
             go_wp2_with fail
             go_ret2
             exact ⟨by rw [HXX.out,HTT.out];rfl,hbf⟩
def zmx (l:List UInt8):Value:=z01 (zln l)
theorem okP_all {r:List UInt8} (h:okP r=true):(Lib.cut r [46]).1.all za8=true∧(Lib.cut r [46]).2.1.all za8=true:=by
 unfold okP at h
 rw [Bool.and_eq_true] at h
 refine ⟨by have:=h.1;unfold digs at this;rw [Bool.and_eq_true] at this;exact this.2,?_⟩
 cases hf:(Lib.cut r [46]).2.2 with
 | true=>
   have:=h.2
   rw [hf] at this
   simp only [Bool.not_true,Bool.false_or] at this
   unfold digs at this
   rw [Bool.and_eq_true] at this
   exact this.2
 | false=>
   have:(Lib.cut r [46]).2.1=[]:=by
    by_cases hi:0≤Lib.index r [46]
    ·unfold Lib.cut at hf;rw [if_pos hi] at hf;cases hf
    ·unfold Lib.cut;rw [if_neg hi]
   rw [this];rfl
theorem cut_sum (r:List UInt8):(Lib.cut r [46]).1.length+(Lib.cut r [46]).2.1.length≤r.length:=by
 unfold Lib.cut
 split
 ·simp;omega
 ·simp
theorem zta (s:ByteArray) (w:World) (hs:s.size≤1000000000) (h:okP (sgn s.data.toList).2=false):
 Calls Tryz.prog 219 #[.string s] w fun e w'=>e=.returned (.tuple #[.agg #[.bool false,.slice none 0 0,.int .i64 0],.bool false])∧Below w.heap.size w w':=
 (zrf s w hs).mono fun _ _ ⟨hb,h1,_⟩=>⟨h1 h,hb⟩
theorem z1t {w:World} {v:Value} {ds:List Nat} (h:Ints w v ds):v.oneCell'=true:=by
 rcases h with ⟨rfl,_⟩ | ⟨_,_,_,rfl,_,_⟩ <;> rfl
theorem zri (s:ByteArray) (w:World) (hs:s.size≤1000000000) (h:okP (sgn s.data.toList).2=true) (N:Bool) (ds:List Nat) (sc:Nat) (hN:Hid (N=(sgn s.data.toList).1)) (hd:Hid (ds=revD ((Lib.cut (sgn s.data.toList).2 [46]).1++(Lib.cut (sgn s.data.toList).2 [46]).2.1)))
 (hsc:Hid (sc=(Lib.cut (sgn s.data.toList).2 [46]).2.1.length)):
 Calls Tryz.prog 219 #[.string s] w fun e w'=>∃ v,e=.returned (.tuple #[.agg #[.bool N,v,.int .i64 sc],.bool true])∧Ints w' v ds∧Below w.heap.size w w':=
 (zrf s w hs).mono fun _ _ ⟨hb,_,h2⟩=>by
   obtain ⟨v,e,hi⟩:=h2 h
   exact ⟨v,by rw [e,hN.out,hsc.out];rfl,by rw [hd.out];exact hi,hb⟩
theorem z1u (N:Bool) (v:Value) (ds:List Nat) (sc:Nat) (w:World) (h:Ints w v ds) (hs:zec ds) (l1:sc≤1000000000) (l2:ds.length≤1000000000) (t:ByteArray) (er:Int) (hv:Hid (said (zrh N ds sc)=.tuple #[.string t,.int .i64 er])):
 Calls Tryz.prog 220 #[.agg #[.bool N,v,.int .i64 sc]] w fun e w'=>e=.returned (.tuple #[.string t,.int .i64 er])∧Below w.heap.size w w':=by
 have:=refForm N v ds sc w h hs l1 l2
 rw [hv.out] at this
 exact this
theorem refRead (s:ByteArray) (w:World) (hs:s.size≤1000000000):
 Calls Tryz.prog 191 #[.string s] w fun e w'=>e=.returned (zmx s.data.toList)∧Below w.heap.size w w':=by
 have hrp:zmx s.data.toList=if okP (sgn s.data.toList).2=true then said (wr (sgn s.data.toList).1 (Lib.cut (sgn s.data.toList).2 [46]).1 (Lib.cut (sgn s.data.toList).2 [46]).2.1) else .tuple #[.string ⟨#[]⟩,.int .i64 6]:=by
  unfold zmx zln
  rw [zyq]
  by_cases h:okP (sgn s.data.toList).2=true
  ·rw [if_pos h,if_pos h];rfl
  ·rw [if_neg h,if_neg h];rfl
 rw [hrp]
 clear hrp
 have k0:∀ W:World,Rec (W.alloc (.cells #[.bool false,.slice none 0 0,.int .i64 0] 224)) W.heap.size false (.slice none 0 0) 0:=fun W=>zaf _ _ rfl
 have K0:=Lib.hid k0
 clear k0
 by_cases hok:okP (sgn s.data.toList).2=true
 ·rw [if_pos hok]
  obtain ⟨ha,hb⟩:=okP_all hok
  obtain ⟨N,hN⟩:∃ N,N=(sgn s.data.toList).1:=⟨_,rfl⟩
  obtain ⟨sc,hsc⟩:∃ sc,sc=(Lib.cut (sgn s.data.toList).2 [46]).2.1.length:=⟨_,rfl⟩
  obtain ⟨ds,hds⟩:∃ ds,ds=revD ((Lib.cut (sgn s.data.toList).2 [46]).1++(Lib.cut (sgn s.data.toList).2 [46]).2.1):=⟨_,rfl⟩
  have hfr:=zy0 N _ _ ha hb
  rw [← hds,← hsc] at hfr
  rw [← hN,← hfr]
  have hsm:zec ds:=by rw [hds];exact znw _ (by rw [List.all_append,ha,hb];rfl)
  have hlen:sc≤1000000000∧ds.length≤1000000000:=by
   have h1:=cut_sum (sgn s.data.toList).2
   have h2:=zp2 s.data.toList
   have h3:s.data.toList.length=s.size:=Array.length_toList
   rw [hsc,hds,zkx,List.length_append];omega
  have HC:Hid (∀ W,Calls Tryz.prog 219 #[.string s] W fun e w'=>∃ v,e=.returned (.tuple #[.agg #[.bool N,v,.int .i64 sc],.bool true])∧Ints w' v ds∧Below W.heap.size W w'):=
   Lib.hid fun W=>zri s W hs hok N ds sc (Lib.hid hN) (Lib.hid hds) (Lib.hid hsc)
  obtain ⟨t,er,hv0⟩:=zna (zrh N ds sc)
  rw [hv0]
  have HV0:=Lib.hid hv0
  have HL:=Lib.hid hlen
  have HS:=Lib.hid hsm
  clear hlen hsm hv0 hfr hN hsc hds ha hb hok
  go_enter Tryz.func191,Tryz.ntmps191
  go_wp2_with (first
   |(go_at_call 219;(with_reducible refine (HC.out _).mono ?_);rintro e w1 ⟨v,rfl,hi,hb1⟩;have HI:=Lib.hid (And.intro hi hb1);have k1:=K0.out w1;clear hi hb1)
   |((with_reducible refine zb1 (m:=N) (u:=v) (sd:=sc) (.tmp 4) (.tmp 9) w1.heap.size k1 (z1t HI.out.1) ?_ ?_ ?_ ?_ ?_);rfl;rfl;rfl;rfl;intro w2 ho p1;have hb2:=zam ((Below.refl w1.heap.size w1).alloc (Nat.le_refl _) _) ho (Nat.le_refl _) (Nat.le_of_lt k1.lt);have HI2:=Lib.hid (HI.out.1.below hb2);have HB2:=Lib.hid (zab HI.out.2 hb2 HI.out.2.size);clear hb2 ho)
   |((with_reducible refine zft (.tmp 4) w1.heap.size p1 ?_ ?_ ?_ ?_);rfl;rfl;rfl)
   |(go_at_call 220;(with_reducible refine (z1u N v ds sc w2 HI2.out HS.out HL.out.1 HL.out.2 t er HV0).mono ?_);rintro e w3 ⟨rfl,hb3⟩;have HB3:=Lib.hid (zab HB2.out hb3 HB2.out.size);clear hb3))
  go_ret2
  exact ⟨rfl,HB3.out⟩
 ·rw [if_neg hok]
  have HC:Hid (∀ W,Calls Tryz.prog 219 #[.string s] W fun e w'=>e=.returned (.tuple #[.agg #[.bool false,.slice none 0 0,.int .i64 0],.bool false])∧Below W.heap.size W w'):=
   Lib.hid fun W=>zta s W hs (by simpa using hok)
  clear hok
  go_enter Tryz.func191,Tryz.ntmps191
  go_wp2_with (first
   |(go_at_call 219;(with_reducible refine (HC.out _).mono ?_);rintro e w1 ⟨rfl,hb1⟩;have HB:=Lib.hid hb1;have k1:=K0.out w1;clear hb1)
   |((with_reducible refine zb1 (m:=false) (u:=.slice none 0 0) (sd:=0) (.tmp 4) (.tmp 9) w1.heap.size k1 rfl ?_ ?_ ?_ ?_ ?_);rfl;rfl;rfl;rfl;intro w2 ho p1;have hb2:=zam ((Below.refl w1.heap.size w1).alloc (Nat.le_refl _) _) ho (Nat.le_refl _) (Nat.le_of_lt k1.lt);have HB2:=Lib.hid (zab HB.out hb2 HB.out.size);clear hb2 ho))
  go_ret2
  exact ⟨rfl,HB2.out⟩
theorem z1v (s:ByteArray) (w:World) (hs:s.size≤1000000000):
 Calls Tryz.prog 154 #[.string s] w fun e w'=>e=.returned (.bool (chk s.data.toList))∧Below w.heap.size w w':=by
 obtain ⟨t,k,hv,hk,ht⟩:=zoy (zln s.data.toList)
 have hc:∀ W,Calls Tryz.prog 191 #[.string s] W fun e w'=>e=.returned (.tuple #[.string t,.int .i64 k])∧Below W.heap.size W w':=fun W=>by
  have:=refRead s W hs
  unfold zmx at this
  rwa [hv] at this
 have HC:=Lib.hid hc
 clear hc hv
 by_cases h:chk s.data.toList=true
 ·have hr:zln s.data.toList=some (some s.data.toList):=by simpa [chk] using h
  obtain rfl:k=0:=hk.2 ⟨_,hr⟩
  obtain rfl:t=s:=by rw [ht _ hr]
  rw [h]
  have HH:=Lib.hid h
  clear h hr hk ht
  go_enter Tryz.func154,Tryz.ntmps154
  go_wp2_with (go_at_call 191;(with_reducible refine (HC.out _).mono ?_);rintro e w1 ⟨rfl,hb⟩)
  go_ret
  exact ⟨rfl,hb⟩
 ·have hf:chk s.data.toList=false:=by simpa using h
  rw [hf]
  by_cases h0:k=0
  ·subst h0
   obtain ⟨l,hl⟩:=hk.1 rfl
   have hne:¬ t=s:=by
    rw [ht _ hl]
    intro e
    apply h
    unfold chk
    rw [hl,← e]
    simp
   have e2:(t.toList == s.toList)=false:=beq_eq_false_iff_ne.2 (fun e=>hne (zd4 (by rw [← ByteArray.toList_eq,← ByteArray.toList_eq];exact e)))
   clear h hf hk ht hl hne
   go_enter Tryz.func154,Tryz.ntmps154
   go_wp2_with (go_at_call 191;(with_reducible refine (HC.out _).mono ?_);rintro e w1 ⟨rfl,hb⟩)
   go_ret
   exact ⟨rfl,hb⟩
  ·have e0:(k == 0)=false:=by simpa using h0
   clear h hf hk ht
   go_enter Tryz.func154,Tryz.ntmps154
   go_wp2_with (go_at_call 191;(with_reducible refine (HC.out _).mono ?_);rintro e w1 ⟨rfl,hb⟩)
   go_ret
   exact ⟨rfl,hb⟩
theorem zds (b:Bool) (n:Int) (t x:ByteArray) (len:Nat):zca b n t x len=(!b && !(n != 0) && !(!t.toList.isEmpty) && !(!x.toList.isEmpty) && !(decide (0 < len))):=by
 have e1:decide (n=0)=!(n != 0):=by cases h:(n != 0) <;> simp_all
 have e2:decide (t.size=0)=!(!t.toList.isEmpty):=by
  rw [Bool.not_not,Bool.eq_iff_iff,decide_eq_true_eq]
  exact (zc1 t).symm
 have e3:decide (x.size=0)=!(!x.toList.isEmpty):=by
  rw [Bool.not_not,Bool.eq_iff_iff,decide_eq_true_eq]
  exact (zc1 x).symm
 have e4:decide (len=0)=!(decide (0 < len)):=by
  rw [Bool.eq_iff_iff]
  simp
 unfold zca
 rw [e1,e2,e3,e4]
theorem zrj:(!(⟨#[]⟩:ByteArray).toList.isEmpty)=false:=by
 have:=(zc1 ⟨#[]⟩).2 rfl
 rw [this]
 rfl
theorem fitsK0 (b:Bool) (n:Int) (t x:ByteArray) (len:Nat) (r:Bool):zb2 0 b n t x len r=(!b && !(n != 0) && !(!t.toList.isEmpty) && !(!x.toList.isEmpty) && !(decide (0 < len))):=by
 rw [show zb2 0 b n t x len r=zca b n t x len from rfl]
 rw [zds]
theorem refMay0 (b:Bool) (n:Int) (t x:ByteArray) (p:Option Addr) (len cap d:Nat) (r0:Bool) (w:World) (hd:(d:Int)≤60) (ht:t.size≤2097152) (hx:x.size≤2097152):
 Calls Tryz.prog 98 #[.agg #[.int .i64 0,.bool b,.int .i64 n,.string t,.string x,.slice p len cap],.int .i64 d] w fun e w'=>e=.returned (.bool (zb2 0 b n t x len r0))∧Below w.heap.size w w':=by
 have S:=zaj (k:=0) (b:=b) (n:=n) (t:=t) (x:=x) (p:=p) (len:=len) (cap:=cap) w rfl
 have b0:=zav w (.cells #[.int .i64 0,.bool b,.int .i64 n,.string t,.string x,.slice p len cap] 48)
 have f0:=S.c0
 have f1:=S.c1
 have f2:=S.c2
 have f3:=S.c3
 have f4:=S.c4
 have f5:=S.c5
 rw [fitsK0]
 obtain ⟨r,hr⟩:∃ r,r=(!b && !(n != 0) && !(!t.toList.isEmpty) && !(!x.toList.isEmpty) && !(decide (0 < len))):=⟨_,rfl⟩
 rw [← hr]
 obtain ⟨w1,hw1⟩:∃ w1,w1=w.alloc (.cells #[.int .i64 0,.bool b,.int .i64 n,.string t,.string x,.slice p len cap] 48):=⟨_,rfl⟩
 rw [← hw1] at S b0
 have HW:=Lib.hid hw1
 have HR:=Lib.hid hr
 clear hw1 hr
 go_enter Tryz.func98,Tryz.ntmps98
 go_upto_region 9 with fail
 rw [← HW.out]
 clear f0 f1 f2 f3 f4 f5
 have f0:=S.c0
 have f2:=S.c2
 have f3:=S.c3
 have f4:=S.c4
 have HR2:=HR.out
 clear HR
 generalize (n != 0)=nb at HR2 ⊢
 generalize (!t.toList.isEmpty)=tb at HR2 ⊢
 generalize (!x.toList.isEmpty)=xb at HR2 ⊢
 generalize decide (0 < len)=lb at HR2 ⊢
 have HR3:=Lib.hid HR2
 clear HR2 ht hx
 go_wp2_with fail
 all_goals
  go_ret
  exact ⟨by rw [HR3.out];simp_all <;> (intros;omega),b0⟩
theorem fitsK1 (b:Bool) (n:Int) (t x:ByteArray) (len:Nat) (r:Bool):zb2 1 b n t x len r=(!(n != 0) && !(!t.toList.isEmpty) && !(!x.toList.isEmpty) && !(decide (0 < len))):=by
 rw [show zb2 1 b n t x len r=zca false n t x len from rfl]
 rw [zds]
 simp
theorem refMay1 (b:Bool) (n:Int) (t x:ByteArray) (p:Option Addr) (len cap d:Nat) (r0:Bool) (w:World) (hd:(d:Int)≤60) (ht:t.size≤2097152) (hx:x.size≤2097152):
 Calls Tryz.prog 98 #[.agg #[.int .i64 1,.bool b,.int .i64 n,.string t,.string x,.slice p len cap],.int .i64 d] w fun e w'=>e=.returned (.bool (zb2 1 b n t x len r0))∧Below w.heap.size w w':=by
 have S:=zaj (k:=1) (b:=b) (n:=n) (t:=t) (x:=x) (p:=p) (len:=len) (cap:=cap) w rfl
 have b0:=zav w (.cells #[.int .i64 1,.bool b,.int .i64 n,.string t,.string x,.slice p len cap] 48)
 have f0:=S.c0
 have f1:=S.c1
 have f2:=S.c2
 have f3:=S.c3
 have f4:=S.c4
 have f5:=S.c5
 rw [fitsK1]
 obtain ⟨r,hr⟩:∃ r,r=(!(n != 0) && !(!t.toList.isEmpty) && !(!x.toList.isEmpty) && !(decide (0 < len))):=⟨_,rfl⟩
 rw [← hr]
 obtain ⟨w1,hw1⟩:∃ w1,w1=w.alloc (.cells #[.int .i64 1,.bool b,.int .i64 n,.string t,.string x,.slice p len cap] 48):=⟨_,rfl⟩
 rw [← hw1] at S b0
 have HW:=Lib.hid hw1
 have HR:=Lib.hid hr
 clear hw1 hr
 go_enter Tryz.func98,Tryz.ntmps98
 go_upto_region 9 with fail
 rw [← HW.out]
 clear f0 f1 f2 f3 f4 f5
 have f0:=S.c0
 have f2:=S.c2
 have f3:=S.c3
 have f4:=S.c4
 have HR2:=HR.out
 clear HR
 generalize (n != 0)=nb at HR2 ⊢
 generalize (!t.toList.isEmpty)=tb at HR2 ⊢
 generalize (!x.toList.isEmpty)=xb at HR2 ⊢
 generalize decide (0 < len)=lb at HR2 ⊢
 have HR3:=Lib.hid HR2
 clear HR2 ht hx
 go_wp2_with fail
 all_goals
  go_ret
  exact ⟨by rw [HR3.out];simp_all <;> (intros;omega),b0⟩
theorem fitsK2 (b:Bool) (n:Int) (t x:ByteArray) (len:Nat) (r:Bool):zb2 2 b n t x len r=(!b && !(!t.toList.isEmpty) && !(!x.toList.isEmpty) && !(decide (0 < len))):=by
 rw [show zb2 2 b n t x len r=zca b 0 t x len from rfl]
 rw [zds]
 simp
theorem refMay2 (b:Bool) (n:Int) (t x:ByteArray) (p:Option Addr) (len cap d:Nat) (r0:Bool) (w:World) (hd:(d:Int)≤60) (ht:t.size≤2097152) (hx:x.size≤2097152):
 Calls Tryz.prog 98 #[.agg #[.int .i64 2,.bool b,.int .i64 n,.string t,.string x,.slice p len cap],.int .i64 d] w fun e w'=>e=.returned (.bool (zb2 2 b n t x len r0))∧Below w.heap.size w w':=by
 have S:=zaj (k:=2) (b:=b) (n:=n) (t:=t) (x:=x) (p:=p) (len:=len) (cap:=cap) w rfl
 have b0:=zav w (.cells #[.int .i64 2,.bool b,.int .i64 n,.string t,.string x,.slice p len cap] 48)
 have f0:=S.c0
 have f1:=S.c1
 have f2:=S.c2
 have f3:=S.c3
 have f4:=S.c4
 have f5:=S.c5
 rw [fitsK2]
 obtain ⟨r,hr⟩:∃ r,r=(!b && !(!t.toList.isEmpty) && !(!x.toList.isEmpty) && !(decide (0 < len))):=⟨_,rfl⟩
 rw [← hr]
 obtain ⟨w1,hw1⟩:∃ w1,w1=w.alloc (.cells #[.int .i64 2,.bool b,.int .i64 n,.string t,.string x,.slice p len cap] 48):=⟨_,rfl⟩
 rw [← hw1] at S b0
 have HW:=Lib.hid hw1
 have HR:=Lib.hid hr
 clear hw1 hr
 go_enter Tryz.func98,Tryz.ntmps98
 go_upto_region 9 with fail
 rw [← HW.out]
 clear f0 f1 f2 f3 f4 f5
 have f0:=S.c0
 have f2:=S.c2
 have f3:=S.c3
 have f4:=S.c4
 have HR2:=HR.out
 clear HR
 generalize (n != 0)=nb at HR2 ⊢
 generalize (!t.toList.isEmpty)=tb at HR2 ⊢
 generalize (!x.toList.isEmpty)=xb at HR2 ⊢
 generalize decide (0 < len)=lb at HR2 ⊢
 have HR3:=Lib.hid HR2
 clear HR2 ht hx
 go_wp2_with fail
 all_goals
  go_ret
  exact ⟨by rw [HR3.out];simp_all <;> (intros;omega),b0⟩
theorem fitsK3 (b:Bool) (n:Int) (t x:ByteArray) (len:Nat) (r:Bool):zb2 3 b n t x len r=(chk t.data.toList && (!b && !(n != 0) && !(!x.toList.isEmpty) && !(decide (0 < len)))):=by
 rw [show zb2 3 b n t x len r=(chk t.data.toList && zca b n ⟨#[]⟩ x len) from rfl]
 rw [zds]
 rw [zrj]
 simp
theorem refMay3 (b:Bool) (n:Int) (t x:ByteArray) (p:Option Addr) (len cap d:Nat) (r0:Bool) (w:World) (hd:(d:Int)≤60) (ht:t.size≤2097152) (hx:x.size≤2097152):
 Calls Tryz.prog 98 #[.agg #[.int .i64 3,.bool b,.int .i64 n,.string t,.string x,.slice p len cap],.int .i64 d] w fun e w'=>e=.returned (.bool (zb2 3 b n t x len r0))∧Below w.heap.size w w':=by
 have S:=zaj (k:=3) (b:=b) (n:=n) (t:=t) (x:=x) (p:=p) (len:=len) (cap:=cap) w rfl
 have b0:=zav w (.cells #[.int .i64 3,.bool b,.int .i64 n,.string t,.string x,.slice p len cap] 48)
 have f0:=S.c0
 have f1:=S.c1
 have f2:=S.c2
 have f3:=S.c3
 have f4:=S.c4
 have f5:=S.c5
 rw [fitsK3]
 obtain ⟨r,hr⟩:∃ r,r=(chk t.data.toList && (!b && !(n != 0) && !(!x.toList.isEmpty) && !(decide (0 < len)))):=⟨_,rfl⟩
 rw [← hr]
 have hC:=fun W=>z1v t W (by omega)
 obtain ⟨w1,hw1⟩:∃ w1,w1=w.alloc (.cells #[.int .i64 3,.bool b,.int .i64 n,.string t,.string x,.slice p len cap] 48):=⟨_,rfl⟩
 rw [← hw1] at S b0
 have HW:=Lib.hid hw1
 have HR:=Lib.hid hr
 clear hw1 hr
 go_enter Tryz.func98,Tryz.ntmps98
 go_upto_region 9 with fail
 rw [← HW.out]
 clear f0 f1 f2 f3 f4 f5
 have f0:=S.c0
 have f2:=S.c2
 have f3:=S.c3
 have f4:=S.c4
 have HR2:=HR.out
 clear HR
 generalize (n != 0)=nb at HR2 ⊢
 generalize (!t.toList.isEmpty)=tb at HR2 ⊢
 generalize (!x.toList.isEmpty)=xb at HR2 ⊢
 generalize decide (0 < len)=lb at HR2 ⊢
 generalize chk t.data.toList=C at HR2 hC ⊢
 have HR3:=Lib.hid HR2
 clear HR2 ht hx
 go_wp2_with (go_at_call 154;(with_reducible refine (hC _).mono ?_);rintro e w' ⟨rfl,hb⟩;replace b0:=zab b0 hb b0.size)
 all_goals
  go_ret
  exact ⟨by rw [HR3.out];simp_all <;> (intros;omega),b0⟩
theorem fitsK4 (b:Bool) (n:Int) (t x:ByteArray) (len:Nat) (r:Bool):zb2 4 b n t x len r=(decide ((t.size:Int)≤1048576) && (!b && !(n != 0) && !(!x.toList.isEmpty) && !(decide (0 < len)))):=by
 rw [show zb2 4 b n t x len r=(decide (t.size≤1048576) && zca b n ⟨#[]⟩ x len) from rfl]
 rw [zds]
 rw [zrj,show decide (t.size≤1048576)=decide ((t.size:Int)≤1048576) from decide_eq_decide.2 (by omega)]
 simp
theorem refMay4 (b:Bool) (n:Int) (t x:ByteArray) (p:Option Addr) (len cap d:Nat) (r0:Bool) (w:World) (hd:(d:Int)≤60) (ht:t.size≤2097152) (hx:x.size≤2097152):
 Calls Tryz.prog 98 #[.agg #[.int .i64 4,.bool b,.int .i64 n,.string t,.string x,.slice p len cap],.int .i64 d] w fun e w'=>e=.returned (.bool (zb2 4 b n t x len r0))∧Below w.heap.size w w':=by
 have S:=zaj (k:=4) (b:=b) (n:=n) (t:=t) (x:=x) (p:=p) (len:=len) (cap:=cap) w rfl
 have b0:=zav w (.cells #[.int .i64 4,.bool b,.int .i64 n,.string t,.string x,.slice p len cap] 48)
 have f0:=S.c0
 have f1:=S.c1
 have f2:=S.c2
 have f3:=S.c3
 have f4:=S.c4
 have f5:=S.c5
 rw [fitsK4]
 obtain ⟨r,hr⟩:∃ r,r=(decide ((t.size:Int)≤1048576) && (!b && !(n != 0) && !(!x.toList.isEmpty) && !(decide (0 < len)))):=⟨_,rfl⟩
 rw [← hr]
 obtain ⟨w1,hw1⟩:∃ w1,w1=w.alloc (.cells #[.int .i64 4,.bool b,.int .i64 n,.string t,.string x,.slice p len cap] 48):=⟨_,rfl⟩
 rw [← hw1] at S b0
 have HW:=Lib.hid hw1
 have HR:=Lib.hid hr
 clear hw1 hr
 go_enter Tryz.func98,Tryz.ntmps98
 go_upto_region 9 with fail
 rw [← HW.out]
 clear f0 f1 f2 f3 f4 f5
 have f0:=S.c0
 have f2:=S.c2
 have f3:=S.c3
 have f4:=S.c4
 have HR2:=HR.out
 clear HR
 generalize (n != 0)=nb at HR2 ⊢
 generalize (!t.toList.isEmpty)=tb at HR2 ⊢
 generalize (!x.toList.isEmpty)=xb at HR2 ⊢
 generalize decide (0 < len)=lb at HR2 ⊢
 have HR3:=Lib.hid HR2
 clear HR2 ht hx
 go_wp2_with fail
 all_goals
  go_ret
  exact ⟨by rw [HR3.out];simp_all <;> (intros;omega),b0⟩
theorem fitsK6 (b:Bool) (n:Int) (t x:ByteArray) (len:Nat) (r:Bool):zb2 6 b n t x len r=(decide (0≤n) && (!b && !(!t.toList.isEmpty) && !(!x.toList.isEmpty) && !(decide (0 < len)))):=by
 rw [show zb2 6 b n t x len r=(decide (0≤n) && zca b 0 t x len) from rfl]
 rw [zds]
 simp
theorem refMay6 (b:Bool) (n:Int) (t x:ByteArray) (p:Option Addr) (len cap d:Nat) (r0:Bool) (w:World) (hd:(d:Int)≤60) (ht:t.size≤2097152) (hx:x.size≤2097152):
 Calls Tryz.prog 98 #[.agg #[.int .i64 6,.bool b,.int .i64 n,.string t,.string x,.slice p len cap],.int .i64 d] w fun e w'=>e=.returned (.bool (zb2 6 b n t x len r0))∧Below w.heap.size w w':=by
 have S:=zaj (k:=6) (b:=b) (n:=n) (t:=t) (x:=x) (p:=p) (len:=len) (cap:=cap) w rfl
 have b0:=zav w (.cells #[.int .i64 6,.bool b,.int .i64 n,.string t,.string x,.slice p len cap] 48)
 have f0:=S.c0
 have f1:=S.c1
 have f2:=S.c2
 have f3:=S.c3
 have f4:=S.c4
 have f5:=S.c5
 rw [fitsK6]
 obtain ⟨r,hr⟩:∃ r,r=(decide (0≤n) && (!b && !(!t.toList.isEmpty) && !(!x.toList.isEmpty) && !(decide (0 < len)))):=⟨_,rfl⟩
 rw [← hr]
 obtain ⟨w1,hw1⟩:∃ w1,w1=w.alloc (.cells #[.int .i64 6,.bool b,.int .i64 n,.string t,.string x,.slice p len cap] 48):=⟨_,rfl⟩
 rw [← hw1] at S b0
 have HW:=Lib.hid hw1
 have HR:=Lib.hid hr
 clear hw1 hr
 go_enter Tryz.func98,Tryz.ntmps98
 go_upto_region 9 with fail
 rw [← HW.out]
 clear f0 f1 f2 f3 f4 f5
 have f0:=S.c0
 have f2:=S.c2
 have f3:=S.c3
 have f4:=S.c4
 have HR2:=HR.out
 clear HR
 generalize (n != 0)=nb at HR2 ⊢
 generalize (!t.toList.isEmpty)=tb at HR2 ⊢
 generalize (!x.toList.isEmpty)=xb at HR2 ⊢
 generalize decide (0 < len)=lb at HR2 ⊢
 have HR3:=Lib.hid HR2
 clear HR2 ht hx
 go_wp2_with fail
 all_goals
  go_ret
  exact ⟨by rw [HR3.out];simp_all <;> (intros;omega),b0⟩
theorem fitsK7 (b:Bool) (n:Int) (t x:ByteArray) (len:Nat) (r:Bool):zb2 7 b n t x len r=(decide (0≤n) && (!b && !(!t.toList.isEmpty) && !(!x.toList.isEmpty) && !(decide (0 < len)))):=by
 rw [show zb2 7 b n t x len r=(decide (0≤n) && zca b 0 t x len) from rfl]
 rw [zds]
 simp
theorem refMay7 (b:Bool) (n:Int) (t x:ByteArray) (p:Option Addr) (len cap d:Nat) (r0:Bool) (w:World) (hd:(d:Int)≤60) (ht:t.size≤2097152) (hx:x.size≤2097152):
 Calls Tryz.prog 98 #[.agg #[.int .i64 7,.bool b,.int .i64 n,.string t,.string x,.slice p len cap],.int .i64 d] w fun e w'=>e=.returned (.bool (zb2 7 b n t x len r0))∧Below w.heap.size w w':=by
 have S:=zaj (k:=7) (b:=b) (n:=n) (t:=t) (x:=x) (p:=p) (len:=len) (cap:=cap) w rfl
 have b0:=zav w (.cells #[.int .i64 7,.bool b,.int .i64 n,.string t,.string x,.slice p len cap] 48)
 have f0:=S.c0
 have f1:=S.c1
 have f2:=S.c2
 have f3:=S.c3
 have f4:=S.c4
 have f5:=S.c5
 rw [fitsK7]
 obtain ⟨r,hr⟩:∃ r,r=(decide (0≤n) && (!b && !(!t.toList.isEmpty) && !(!x.toList.isEmpty) && !(decide (0 < len)))):=⟨_,rfl⟩
 rw [← hr]
 obtain ⟨w1,hw1⟩:∃ w1,w1=w.alloc (.cells #[.int .i64 7,.bool b,.int .i64 n,.string t,.string x,.slice p len cap] 48):=⟨_,rfl⟩
 rw [← hw1] at S b0
 have HW:=Lib.hid hw1
 have HR:=Lib.hid hr
 clear hw1 hr
 go_enter Tryz.func98,Tryz.ntmps98
 go_upto_region 9 with fail
 rw [← HW.out]
 clear f0 f1 f2 f3 f4 f5
 have f0:=S.c0
 have f2:=S.c2
 have f3:=S.c3
 have f4:=S.c4
 have HR2:=HR.out
 clear HR
 generalize (n != 0)=nb at HR2 ⊢
 generalize (!t.toList.isEmpty)=tb at HR2 ⊢
 generalize (!x.toList.isEmpty)=xb at HR2 ⊢
 generalize decide (0 < len)=lb at HR2 ⊢
 have HR3:=Lib.hid HR2
 clear HR2 ht hx
 go_wp2_with fail
 all_goals
  go_ret
  exact ⟨by rw [HR3.out];simp_all <;> (intros;omega),b0⟩
end Go.Proofs.YteclpnfckjfibaaGreatDoor
