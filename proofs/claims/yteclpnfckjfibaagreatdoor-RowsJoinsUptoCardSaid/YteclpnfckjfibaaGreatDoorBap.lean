/- Texts of one kind, one behind the other: each says ahead of itself what it shows. -/
import Derived.Test.YteclpnfckjfibaaGreatDoorBao
import Derived.BigGuardPart
import Derived.StillTailTactics
import Derived.Deep.RegionLaw
import Derived.Deep.AppendLies
import Derived.IntWalk
import Derived.Deep.DeepCutAuto
/- DDU9 -/
namespace Go.Proofs.YteclpnfckjfibaaGreatDoor
open Go.RowKit
theorem zlx {w:World} {b g:Nat} {x:Obj} (h:w.heap[g]?=some x) (o:Nat) (v:Value) (e:b≠g):(w.setCell ⟨b,o,none⟩ v).heap[g]?=some x:=by
 simp [World.setCell,Array.getElem?_modify,h]
 intro k;exact absurd k e
theorem Rec.other {w:World} {g b:Nat} {n:Bool} {v:Value} {sc:Int} (h:Rec w g n v sc) (o:Nat) (u:Value) (e:b≠g):Rec (w.setCell ⟨b,o,none⟩ u) g n v sc:=zlx h o u e
theorem zx2 {l:List UInt8} (h:¬ ((l.headD 0).toNat=45∨(l.headD 0).toNat=43)):sgn l=(false,l):=by
 cases l with
 | nil=>rfl
 | cons c r=>
   have h1:c≠45:=fun e=>h (.inl (by rw [e];rfl))
   have h2:c≠43:=fun e=>h (.inr (by rw [e];rfl))
   simp [sgn,h1,h2]
theorem zvp {l:List UInt8} (h:(l.headD 0).toNat=45):sgn l=(true,l.drop 1):=by
 cases l with
 | nil=>exact absurd h (by decide)
 | cons c r=>
   have h1:c=45:=UInt8.toNat_inj.1 h
   simp [sgn,h1]
theorem zx3 {l:List UInt8} (h:(l.headD 0).toNat=43):sgn l=(false,l.drop 1):=by
 cases l with
 | nil=>exact absurd h (by decide)
 | cons c r=>
   have h1:c=43:=UInt8.toNat_inj.1 h
   simp [sgn,h1]
theorem zld (s:ByteArray):s.extract 1 s.size=bs (s.data.toList.drop 1):=by
 apply zdq
 rw [Lib.extract_to_end]
theorem zvq (c:UInt8) (d:Bool) (w:World) (h:Hid (d=zbj c)):Calls Tryz.prog 247 #[.int .u8 c.toNat] w fun e w'=>e=.returned (.bool d)∧w=w':=
 (zmf c.toNat w c.toNat_lt).mono fun _ _ ⟨h1,h2⟩=>⟨by
   rw [h1,h.out]
   congr 2
   rw [Bool.eq_iff_iff,zda]
   simp
   omega,h2⟩
theorem Seen.mem {t:List UInt8} {p:Int} (h:Seen t p) (c:UInt8) (hc:c∈t) (hn:c≠46):zbj c=true:=by
 rcases h with ⟨_,h⟩ | ⟨x,y,e,_,hx,hy⟩
 ·exact List.all_eq_true.1 h c hc
 ·rw [e,List.mem_append,List.mem_cons] at hc
  rcases hc with k | k | k
  ·exact List.all_eq_true.1 hx c k
  ·exact absurd k hn
  ·exact List.all_eq_true.1 hy c k
theorem zpa {wr w1:World} {v u:Value} {o:Obj} {g base e size n:Nat} {xs:List Value} {N:Bool} {sc:Int} (hgrow:((wr.alloc o).drew).grownBy w1 v.ownBlock) (k1:Rec wr g N u sc) (hown:wr.ownsRow base e size v n xs) (hg:g < base):Rec w1 g N u sc:=
 (hgrow.block g (zaa (k1.alloc o)) (fun h=>by have:=(hown.lt _ h.symm).1;omega)).trans (k1.alloc o)
theorem zs8 {w wr w1:World} {v:Value} {o:Obj} {B base e size n:Nat} {xs:List Value} (hgrow:((wr.alloc o).drew).grownBy w1 v.ownBlock) (hb:Below B w wr) (hs:B≤wr.heap.size) (hown:wr.ownsRow base e size v n xs) (hg:B≤base):Below B w w1:=
 Below.grown ((hb.alloc hs o).drew) hgrow (by show B≤(wr.alloc o).heap.size;simp;omega) (fun k hk=>by have:=(hown.lt k hk).1;omega)
theorem zpb {w w':World} {base b e size n:Nat} {v:Value} {xs:List Value} (h:w.ownsRow base e size v n xs) (k:Only b w w') (hb:b < base):w'.ownsRow base e size v n xs:=
 ⟨h.1,h.2.elim .inl fun ⟨g,cap,cur,e1,e2,e3,r⟩=>.inr ⟨g,cap,cur,e1,e2,(k.block g (zaa e3) (by omega)).trans e3,r⟩⟩
theorem zvr (w:World):Calls Tryz.prog 247 #[.int .u8 46] w fun e w'=>e=.returned (.bool false)∧w=w':=zmf 46 w (by omega)
set_option maxRecDepth 20000 in
set_option maxHeartbeats 3200000 in
theorem zpc (s:ByteArray) (w:World) (hs:s.size≤1000000000):
 Calls Tryz.prog 219 #[.string s] w fun e w'=>Below w.heap.size w w'∧(okP (sgn s.data.toList).2=false→e=.returned (.tuple #[numR false (.slice none 0 0) 0,.bool false]))∧
  (okP (sgn s.data.toList).2=true→∃ v,e=.returned (.tuple #[numR (sgn s.data.toList).1 v (Lib.cut (sgn s.data.toList).2 [46]).2.1.length,.bool true])∧Ints w' v (revD ((Lib.cut (sgn s.data.toList).2 [46]).1++(Lib.cut (sgn s.data.toList).2 [46]).2.1))):=by
 obtain ⟨r,hr⟩:∃ r,r=(sgn s.data.toList).2:=⟨_,rfl⟩
 obtain ⟨R,hR⟩:∃ R:ByteArray,R=bs r:=⟨_,rfl⟩
 obtain ⟨N,hN⟩:∃ N:Bool,N=(sgn s.data.toList).1:=⟨_,rfl⟩
 have hrl:r.length=R.size:=by rw [hR];exact Array.length_toList
 have hsz:R.size≤1000000000:=by
  have h1:=zm1 s.data.toList
  have h2:s.data.toList.length=s.size:=Array.length_toList
  rw [← hrl,hr];omega
 rw [← hr,← hN]
 obtain ⟨D,hD⟩:∃ D:Bool,D=decide ((s.data.toList.headD 0).toNat=45∨(s.data.toList.headD 0).toNat=43):=⟨_,rfl⟩
 have k0:Rec ((w.alloc (.cells #[.bool false,.slice none 0 0,.int .i64 0] 224)).alloc (.cells #[.bool false,.slice none 0 0,.int .i64 0] 224)) w.heap.size false (.slice none 0 0) 0:=zaq _ (zah _ _ rfl)
 have k1:Rec ((w.alloc (.cells #[.bool false,.slice none 0 0,.int .i64 0] 224)).alloc (.cells #[.bool false,.slice none 0 0,.int .i64 0] 224)) (w.heap.size+1) false (.slice none 0 0) 0:=zah _ _ (by simp)
 have hb0:Below w.heap.size w ((w.alloc (.cells #[.bool false,.slice none 0 0,.int .i64 0] 224)).alloc (.cells #[.bool false,.slice none 0 0,.int .i64 0] 224)):=((Below.refl _ _).alloc (Nat.le_refl _) _).alloc (by simp) _
 have K0:=Lib.hid k0
 have K1:=Lib.hid k1
 have HB:=Lib.hid hb0
 have HR:=Lib.hid hR
 have HL:=Lib.hid hr
 have HZ:=Lib.hid hrl
 have HN:=Lib.hid hN
 have HD:=Lib.hid hD
 clear k0 k1 hb0 hR hN hD hr hrl
 have HH:∀ h:0 < s.size,(s.data.toList.headD 0).toNat=s[0].toNat:=fun h=>by
  have hb:=zqc s 0 h
  have hh:∀ (l:List UInt8) (k:0 < l.length),(l.headD 0)=l[0]:=fun l k=>by
   cases l with
   | nil=>simp at k
   | cons c r=>rfl
  rw [hb,hh _ (by simpa using h)]
 have HF:=Lib.hid HH
 clear HH
 go_enter Tryz.func219,Tryz.ntmps219
 go_upto_region 2 with fail
 go_cut [20] (fun s20 wx=>s20=.bool D∧wx=((w.alloc (.cells #[.bool false,.slice none 0 0,.int .i64 0] 224)).alloc (.cells #[.bool false,.slice none 0 0,.int .i64 0] 224)))
 case first=>
  by_cases h0:(s.size:Int) > 0
  ·have h1:0 < s.size:=by omega
   have hf:=HF.out h1
   by_cases h45:(s[0].toNat:Int)=45
   ·obtain rfl:D=true:=by rw [HD.out,hf];simp;omega
    clear hf
    go_wp2
    go_meet
    case rel=>exact ⟨rfl,rfl⟩
   ·by_cases h43:(s[0].toNat:Int)=43
    ·obtain rfl:D=true:=by rw [HD.out,hf];simp;omega
     clear hf
     go_wp2
     go_meet
     case rel=>exact ⟨rfl,rfl⟩
    ·obtain rfl:D=false:=by rw [HD.out,hf];simp;omega
     clear hf
     go_wp2
     go_meet
     case rel=>exact ⟨by simp;omega,rfl⟩
  ·obtain rfl:D=false:=by
    rw [HD.out]
    have:s.data.toList.length=s.size:=Array.length_toList
    rw [List.length_eq_zero_iff.1 (by omega:s.data.toList.length=0)]
    rfl
   go_wp2
   go_meet
   case rel=>exact ⟨rfl,rfl⟩
 case rest=>
  obtain ⟨rfl,rfl⟩:=hcut
  go_upto_if 20 with fail
  go_cut [0] (fun s0 wx=>s0=.string R∧Rec wx w.heap.size false (.slice none 0 0) 0∧Rec wx (w.heap.size+1) N (.slice none 0 0) 0∧Below w.heap.size w wx)
  case first=>
   cases D with
   | false=>
     have hd:¬ ((s.data.toList.headD 0).toNat=45∨(s.data.toList.headD 0).toNat=43):=of_decide_eq_false HD.out.symm
     have hg:=zx2 hd
     have e1:R=s:=by rw [HR.out,HL.out,hg]
     have e2:N=false:=by rw [HN.out,hg]
     clear hd hg
     go_wp2
     go_meet
     case rel=>exact ⟨by rw [e1],K0.out,by rw [e2];exact K1.out,HB.out⟩
   | true=>
     have hd:(s.data.toList.headD 0).toNat=45∨(s.data.toList.headD 0).toNat=43:=of_decide_eq_true HD.out.symm
     have h1:0 < s.size:=by
      rcases Nat.eq_zero_or_pos s.size with z | z
      ·have hl:s.data.toList.length=s.size:=Array.length_toList
       rw [z] at hl
       rw [List.length_eq_zero_iff.1 hl] at hd
       exact absurd hd (by decide)
      ·exact z
     have hf:=HF.out h1
     have h1i:(0:Int) < s.size:=by omega
     by_cases h45:(s[0].toNat:Int)=45
     ·have hg:=zvp (l:=s.data.toList) (by omega)
      have e1:R=s.extract 1 s.size:=by rw [HR.out,HL.out,hg,zld]
      have e2:N=true:=by rw [HN.out,hg]
      clear hd hf hg
      go_wp2
      go_meet
      case rel=>exact ⟨by rw [e1],zaq _ (zah _ _ rfl),by rw [e2];exact zah _ _ (by simp),((Below.refl _ _).alloc (Nat.le_refl _) _).alloc (by simp) _⟩
     ·have hg:=zx3 (l:=s.data.toList) (by omega)
      have e1:R=s.extract 1 s.size:=by rw [HR.out,HL.out,hg,zld]
      have e2:N=false:=by rw [HN.out,hg]
      have e3:((s[0].toNat:Int) == 45)=false:=by simp;omega
      clear hd hf hg
      go_wp2
      go_meet
      case rel=>exact ⟨by rw [e1],zaq _ (zah _ _ rfl),by rw [e2];exact zah _ _ (by simp),((Below.refl _ _).alloc (Nat.le_refl _) _).alloc (by simp) _⟩
  case rest=>
   clear K0 K1 HB HD HF
   obtain ⟨rfl,k0,k1,hb⟩:=hcut
   clear HN hs
   go_wp2_with fail
   go_loopg [5,6] R.size (fun gg s5 s6 wr=>∃ (i:Nat) (p:Int),i+gg=R.size∧s5=.int .i64 p∧s6=.int .i64 i∧wr=wc∧(-1≤p∧p < i)∧Hid (Seen (r.take i) p))
   case atStart=>exact ⟨0,-1,by omega,rfl,rfl,rfl,by omega,Lib.hid Seen.start⟩
   case round=>
    obtain ⟨i,p,hi,rfl,rfl,rfl,hp,HS⟩:=hrel
    by_cases hlt:(i:Int) < R.size
    ·have hlt':i < R.size:=by omega
     have hx8:R[i].toNat < 256:=R[i].toNat_lt
     obtain ⟨c,hc⟩:∃ c,c=R[i]:=⟨_,rfl⟩
     have hsplit:r.take (i+1)=r.take i++[c]∧r=r.take i++c::r.drop (i+1):=by
      have hil:i < r.length:=by rw [HZ.out];exact hlt'
      have e:c=r[i]:=by
       rw [hc,zqc R i hlt']
       have e2:R.data.toList=r:=by rw [HR.out]
       simp [e2]
      rw [e]
      exact ⟨List.take_succ_eq_append_getElem hil,by rw [← List.drop_eq_getElem_cons hil,List.take_append_drop]⟩
     have HC:=Lib.hid hsplit
     clear hsplit
     by_cases h46:(R[i].toNat:Int)=46
     ·by_cases hneg:p < 0
      ·have c46:c=46:=by rw [hc];exact UInt8.toNat_inj.1 (by show R[i].toNat=46;omega)
       go_wp2_with fail
       go_roundg (gk - 1)
       case measure=>omega
       case rel=>exact ⟨i+1,i,by omega,rfl,by go_num,rfl,by omega,Lib.hid (by rw [HC.out.1,c46];have:=HS.out.point hneg;rwa [List.length_take,Nat.min_eq_left (by rw [HZ.out];omega)] at this)⟩
      ·have c46:c=46:=by rw [hc];exact UInt8.toNat_inj.1 (by show R[i].toNat=46;omega)
       have hcd:zbj c=false:=by rw [c46];rfl
       have hbad:okP r=false:=by rw [HC.out.2];exact HS.out.bad hcd (.inr (by omega))
       have HBD:=Lib.hid hbad
       have KD:Hid (false=zbj R[i]):=Lib.hid (by rw [← hc];exact hcd.symm)
       clear hbad hcd hc HC HS
       go_wp2_with (first
        |(go_at_call 247;(with_reducible refine (zvr _).mono ?_);rintro e w' ⟨rfl,rfl⟩)
        |(go_at_call 247;(with_reducible refine (zvq R[i] _ _ KD).mono ?_);rintro e w' ⟨rfl,rfl⟩)
        |((with_reducible refine zb1 (m:=false) (u:=.slice none 0 0) (sd:=0) (.tmp 2) (.tmp 47) w.heap.size k0 rfl ?_ ?_ ?_ ?_ ?_);rfl;rfl;rfl;rfl;intro w2 ho p1;have hb2:=zam hb ho (Nat.le_refl _) (Nat.le_of_lt k0.lt)))
       exact bodyPost_ret (v:=.tuple #[numR false (.slice none 0 0) 0,.bool false]) (zd8 (p:=2) (q:=3) Tryz.results219 _ (.bool false) rfl rfl p1) rfl ⟨hb2,fun _=>rfl,fun h=>by rw [HBD.out] at h;cases h⟩
     ·have n46:c≠46:=fun e=>h46 (by rw [← hc,e];rfl)
      cases hcd:zbj c with
      | true=>
        have KD:Hid (true=zbj R[i]):=Lib.hid (by rw [← hc];exact hcd.symm)
        have HS2:Hid (Seen (r.take (i+1)) p):=Lib.hid (by rw [HC.out.1];exact HS.out.digit hcd)
        clear hcd hc HC HS
        go_wp2_with (go_at_call 247;(with_reducible refine (zvq R[i] _ _ KD).mono ?_);rintro e w' ⟨rfl,rfl⟩)
        go_roundg (gk - 1)
        case measure=>omega
        case rel=>exact ⟨i+1,p,by omega,rfl,by go_num,rfl,by omega,HS2⟩
      | false=>
        have hbad:okP r=false:=by rw [HC.out.2];exact HS.out.bad hcd (.inl n46)
        have HBD:=Lib.hid hbad
        have KD:Hid (false=zbj R[i]):=Lib.hid (by rw [← hc];exact hcd.symm)
        clear hbad hcd hc HC HS
        go_wp2_with (first
         |(go_at_call 247;(with_reducible refine (zvr _).mono ?_);rintro e w' ⟨rfl,rfl⟩)
         |(go_at_call 247;(with_reducible refine (zvq R[i] _ _ KD).mono ?_);rintro e w' ⟨rfl,rfl⟩)
         |((with_reducible refine zb1 (m:=false) (u:=.slice none 0 0) (sd:=0) (.tmp 2) (.tmp 47) w.heap.size k0 rfl ?_ ?_ ?_ ?_ ?_);rfl;rfl;rfl;rfl;intro w2 ho p1;have hb2:=zam hb ho (Nat.le_refl _) (Nat.le_of_lt k0.lt)))
        exact bodyPost_ret (v:=.tuple #[numR false (.slice none 0 0) 0,.bool false]) (zd8 (p:=2) (q:=3) Tryz.results219 _ (.bool false) rfl rfl p1) rfl ⟨hb2,fun _=>rfl,fun h=>by rw [HBD.out] at h;cases h⟩
    ·obtain rfl:i=R.size:=by omega
     have hlen:=HZ.out
     have HSA:Hid (Seen r p):=Lib.hid (by have:=HS.out;rwa [← hlen,List.take_length] at this)
     clear HS
     by_cases e0:(R.size:Int)=0
     ·have hbad:okP r=false:=by rw [HSA.out.all];simp;omega
      have HBD:=Lib.hid hbad
      clear hbad HSA
      go_wp2_with ((with_reducible refine zb1 (m:=false) (u:=.slice none 0 0) (sd:=0) (.tmp 2) (.tmp 62) w.heap.size k0 rfl ?_ ?_ ?_ ?_ ?_);rfl;rfl;rfl;rfl;intro w2 ho p1;have hb2:=zam hb ho (Nat.le_refl _) (Nat.le_of_lt k0.lt))
      exact bodyPost_ret (v:=.tuple #[numR false (.slice none 0 0) 0,.bool false]) (zd8 (p:=2) (q:=3) Tryz.results219 _ (.bool false) rfl rfl p1) rfl ⟨hb2,fun _=>rfl,fun h=>by rw [HBD.out] at h;cases h⟩
     ·by_cases e1:p=0
      ·have hbad:okP r=false:=by rw [HSA.out.all];simp;omega
       have HBD:=Lib.hid hbad
       clear hbad HSA
       go_wp2_with ((with_reducible refine zb1 (m:=false) (u:=.slice none 0 0) (sd:=0) (.tmp 2) (.tmp 62) w.heap.size k0 rfl ?_ ?_ ?_ ?_ ?_);rfl;rfl;rfl;rfl;intro w2 ho p1;have hb2:=zam hb ho (Nat.le_refl _) (Nat.le_of_lt k0.lt))
       exact bodyPost_ret (v:=.tuple #[numR false (.slice none 0 0) 0,.bool false]) (zd8 (p:=2) (q:=3) Tryz.results219 _ (.bool false) rfl rfl p1) rfl ⟨hb2,fun _=>rfl,fun h=>by rw [HBD.out] at h;cases h⟩
      ·by_cases e2:p=(R.size:Int) - 1
       ·have hbad:okP r=false:=by rw [HSA.out.all];simp;omega
        have HBD:=Lib.hid hbad
        clear hbad HSA
        go_wp2_with ((with_reducible refine zb1 (m:=false) (u:=.slice none 0 0) (sd:=0) (.tmp 2) (.tmp 62) w.heap.size k0 rfl ?_ ?_ ?_ ?_ ?_);rfl;rfl;rfl;rfl;intro w2 ho p1;have hb2:=zam hb ho (Nat.le_refl _) (Nat.le_of_lt k0.lt))
        exact bodyPost_ret (v:=.tuple #[numR false (.slice none 0 0) 0,.bool false]) (zd8 (p:=2) (q:=3) Tryz.results219 _ (.bool false) rfl rfl p1) rfl ⟨hb2,fun _=>rfl,fun h=>by rw [HBD.out] at h;cases h⟩
       ·have hok:okP r=true:=by rw [HSA.out.all];exact decide_eq_true ⟨by omega,e1,by rw [hlen];exact e2⟩
        have HP:=Lib.hid (And.intro hok HSA.out.parts)
        obtain ⟨i0,hi0,hz0,hz1,hz2⟩:=info_parts info3
        have hpb:-1≤p∧p < R.size:=hp
        clear hok hp hlt hi
        have e2b:(p == (R.size:Int) - 1)=false:=by simpa using e2
        go_wp2_with fail
        go_loopg [7] R.size (fun gg s7 wx=>∃ (i:Int) (v:Value) (zs:List Nat),i+1=gg∧i < R.size∧s7=.int .i64 i∧Hid (zs=revD ((r.drop (i+1).toNat).filter (· != 46)))∧wx.ownsRow (w.heap.size+2) 3 1 v zs.length (zcj zs)∧Rec wx w.heap.size false (.slice none 0 0) 0∧Rec wx (w.heap.size+1) N v 0∧Below w.heap.size w wx∧zs.length≤1000000000)
        case atStart=>exact ⟨(R.size:Int) - 1,.slice none 0 0,[],by omega,by omega,rfl,Lib.hid (by rw [List.drop_eq_nil_of_le (by have:=HZ.out;omega)];rfl),World.ownsRow_nil _ _ _ _,k0,k1,hb,by simp⟩
        case round=>
         clear k0 k1 hb
         obtain ⟨i,v,zs,hi,hin,rfl,HD2,hown,k0,k1,hb,hzl⟩:=hrel
         by_cases hge:i ≥ 0
         ·obtain ⟨k,rfl⟩:=Int.eq_ofNat_of_zero_le hge
          have hk:k < R.size:=by omega
          have hkl:k < r.length:=by rw [HZ.out];exact hk
          obtain ⟨c,hc⟩:∃ c,c=R[k]:=⟨_,rfl⟩
          have hdrop:r.drop k=c::r.drop (k+1):=by
           have e:c=r[k]:=by
            rw [hc,zqc R k hk]
            have e2:R.data.toList=r:=by rw [HR.out]
            simp [e2]
           rw [e];exact List.drop_eq_getElem_cons hkl
          have HDR:=Lib.hid hdrop
          clear hdrop hkl
          by_cases h46:(R[k].toNat:Int)=46
          ·have c46:c=46:=by rw [hc];exact UInt8.toNat_inj.1 (by show R[k].toNat=46;omega)
           go_wp2_with fail
           go_roundg (gk - 1)
           case measure=>omega
           case rel=>exact ⟨(k:Int) - 1,v,zs,by omega,by omega,by go_num,Lib.hid (by
            rw [HD2.out,show ((k:Int) - 1+1).toNat=k by omega,show ((k:Int)+1).toNat=k+1 by omega,HDR.out,c46];rfl),hown,k0,k1,hb,hzl⟩
          ·have cN:=k1.c1
           have n46:c≠46:=fun e=>h46 (by rw [← hc,e];rfl)
           have hcd:zbj c=true:=HSA.out.mem c (by have:=HDR.out;exact List.mem_of_mem_drop (i:=k) (by rw [this];exact List.mem_cons_self)) n46
           obtain ⟨d,hd⟩:∃ d:Nat,d=c.toNat - 48:=⟨_,rfl⟩
           have hdg:=(zda c).1 hcd
           have hd1:(R[k].toNat:Int) - 48=d:=by rw [← hc];omega
           have hd9:d≤9:=by omega
           have hw1:IntKind.u8.wrap (d:Int)=d:=by unfold IntKind.wrap;simp [IntKind.bits,IntKind.signed];omega
           have hw2:IntKind.i64.wrap (d:Int)=d:=IntWalk.i64_in _ (by omega)
           have hrev:zs++[d]=revD ((r.drop k).filter (· != 46)):=by
            rw [HDR.out,List.filter_cons_of_pos (by simpa using n46),zlb,← hd,HD2.out,show ((k:Int)+1).toNat=k+1 by omega]
           have HRV:=Lib.hid hrev
           have hzb:(zs++[d]).length≤1000000000:=by
            rw [hrev,zg0]
            have h1:=List.length_filter_le (· != (46:UInt8)) (r.drop k)
            have h2:(r.drop k).length=r.length - k:=List.length_drop
            have h3:=HZ.out
            omega
           have hszw:w.heap.size+2≤wr.heap.size:=by have:=k1.lt;omega
           clear hrev hd hdg hcd n46 hc HDR HSA
           have cN2:(wr.alloc (.cells #[.int .i64 (d:Int)] 3)).cell? ⟨w.heap.size+1,1,none⟩=some v:=(k1.alloc _).c1
           go_wp2_with fail
           go_region_law (first
            |(refine step_append_lies _ (by rfl) _ _ _ (by rfl) (w.heap.size+2) 3 i0 _ 1 8 Tryz.underlying26 hi0 hz0 hz1 hz2 rfl (by omega) v zs.length (zcj zs) (by rfl) ((hown.alloc _).drew)
               ⟨wr.heap.size,0,none⟩ 1 1 [.int .i64 (d:Int)] (by rfl) (by rfl) (World.news_of_block (cs:=#[.int .i64 (d:Int)]) (t:=3) (fr:=(0,0)) (by exact heap_alloc_new wr _)) (by simp [Value.oneCell'])
               (by omega) (by unfold maxLen;omega) (by omega) (by simp;omega) (wr.heap.size+1) (by simp) ?_;intro gg cap w1 hown1 hgrow hat hlt
              have q1:Rec w1 (w.heap.size+1) N v 0:=zpa hgrow k1 hown (by omega)
              have q0:Rec w1 w.heap.size false (.slice none 0 0) 0:=zpa hgrow k0 hown (by omega)
              have hbq:Below w.heap.size w w1:=zs8 hgrow hb hb.size hown (by omega)
              have qc:=q1.c1
              have qf:w1.frozen? ⟨w.heap.size+1,1,none⟩=false:=zdy q1 1))
           all_goals
            have own2:(w1.setCell ⟨w.heap.size+1,1,none⟩ (.slice (some ⟨gg,0,none⟩) (zs.length+1) cap)).ownsRow (w.heap.size+2) 3 1 (.slice (some ⟨gg,0,none⟩) (zs.length+1) cap) (zs++[d]).length (zcj (zs++[d])):=by
             rw [zx1,List.length_append]
             exact ownsRow_setCell_below hown1 (Nat.lt_succ_self _) _
            have b2:=hbq.setCell (p:=⟨w.heap.size+1,1,none⟩) (Nat.le_succ _) (.slice (some ⟨gg,0,none⟩) (zs.length+1) cap)
            have r1:=q1.set1 (.slice (some ⟨gg,0,none⟩) (zs.length+1) cap)
            have r0:=q0.other 1 (.slice (some ⟨gg,0,none⟩) (zs.length+1) cap) (b:=w.heap.size+1) (by omega)
            clear qc qf q1 q0 hown1 hgrow hat hlt cN cN2 hown
            go_wp2_with fail
            go_roundg (gk - 1)
            case measure=>omega
            case rel=>exact ⟨(k:Int) - 1,_,zs++[d],by omega,by omega,by go_num,Lib.hid (by rw [show ((k:Int) - 1+1).toNat=k by omega];exact HRV.out),own2,r0,r1,b2,hzb⟩
         ·obtain rfl:i=-1:=by omega
          have hzz:zs=revD ((Lib.cut r [46]).1++(Lib.cut r [46]).2.1):=by
           rw [HD2.out,← HP.out.2.1];rfl
          have hvone:v.oneCell'=true:=by
           rcases hown.2 with ⟨e,_⟩ | ⟨g,cap,cur,e,_⟩ <;> rw [e] <;> rfl
          have hsc0:=HP.out.2.2
          have hlr:=HZ.out
          by_cases hp0:p ≥ 0
          ·have hsc:((Lib.cut r [46]).2.1.length:Int)=(R.size:Int) - 1 - p:=by rw [hsc0,if_neg (by omega)];omega
           have c2:=k1.c2
           have f2:wr.frozen? ⟨w.heap.size+1,2,none⟩=false:=zdy k1 2
           have k1b:=k1.set2 ((R.size:Int) - 1 - p)
           have k0b:=k0.other 2 (.int .i64 ((R.size:Int) - 1 - p)) (b:=w.heap.size+1) (by omega)
           have ownb:=ownsRow_setCell_below hown (a:=⟨w.heap.size+1,2,none⟩) (Nat.lt_succ_self _) (.int .i64 ((R.size:Int) - 1 - p))
           have hbb:=hb.setCell (p:=⟨w.heap.size+1,2,none⟩) (Nat.le_succ _) (.int .i64 ((R.size:Int) - 1 - p))
           clear hsc0
           go_wp2_with (first
            |((with_reducible refine zew (.tmp 4) (w.heap.size+1) k1b ?_ ?_ ?_ ?_);rfl;rfl;rfl)
            |((with_reducible refine zb1 (m:=N) (u:=v) (sd:=(R.size:Int) - 1 - p) (.tmp 2) (.tmp 92) w.heap.size k0b hvone ?_ ?_ ?_ ?_ ?_);rfl;rfl;rfl;rfl;intro w2 ho p1;have hb2:=zam hbb ho (Nat.le_refl _) (Nat.le_of_lt k0b.lt);have own2:=zpb ownb ho (by omega)))
           exact bodyPost_ret (v:=.tuple #[numR N v (Lib.cut r [46]).2.1.length,.bool true]) (zd8 (p:=2) (q:=3) Tryz.results219 _ (.bool true) rfl rfl (by rw [← hsc] at p1;exact p1)) rfl ⟨hb2,(fun h=>by rw [HP.out.1] at h;cases h),fun _=>⟨v,rfl,by rw [← hzz];exact zh4 own2 rfl⟩⟩
          ·have hsc:((Lib.cut r [46]).2.1.length:Int)=0:=by rw [hsc0,if_pos (by omega)]
           have k0b:=k0
           clear hsc0
           go_wp2_with (first
            |((with_reducible refine zew (.tmp 4) (w.heap.size+1) k1 ?_ ?_ ?_ ?_);rfl;rfl;rfl)
            |((with_reducible refine zb1 (m:=N) (u:=v) (sd:=0) (.tmp 2) (.tmp 92) w.heap.size k0b hvone ?_ ?_ ?_ ?_ ?_);rfl;rfl;rfl;rfl;intro w2 ho p1;have hb2:=zam hb ho (Nat.le_refl _) (Nat.le_of_lt k0b.lt);have own2:=zpb hown ho (by omega)))
           exact bodyPost_ret (v:=.tuple #[numR N v (Lib.cut r [46]).2.1.length,.bool true]) (zd8 (p:=2) (q:=3) Tryz.results219 _ (.bool true) rfl rfl (by rw [← hsc] at p1;exact p1)) rfl ⟨hb2,(fun h=>by rw [HP.out.1] at h;cases h),fun _=>⟨v,rfl,by rw [← hzz];exact zh4 own2 rfl⟩⟩
end Go.Proofs.YteclpnfckjfibaaGreatDoor

/- DDV0 -/
namespace Go.Proofs.YteclpnfckjfibaaGreatDoor
def bAt (ds:List Nat) (j:Nat):UInt8:=UInt8.ofNat (48+dig ds j)
def dn (ds:List Nat) (lo:Nat):Nat→List UInt8
 | 0=>[]
 | n+1=>bAt ds (lo+n)::dn ds lo n
theorem zff {ds:List Nat} (h:zd7 ds) (j:Nat):(bAt ds j).toNat=48+dig ds j:=by
 have:=h j
 unfold bAt;rw [UInt8.toNat_ofNat'];omega
theorem bAt_dig {ds:List Nat} (h:zd7 ds) (j:Nat):zbj (bAt ds j)=true:=by
 rw [zda,zff h];have:=h j;omega
theorem zvs {ds:List Nat} (h:zd7 ds) (j:Nat):bAt ds j=48↔dig ds j=0:=by
 constructor
 ·intro e
  have:=zff h j
  rw [e] at this
  have h2:(48:UInt8).toNat=48:=rfl
  omega
 ·intro e;unfold bAt;rw [e];rfl
theorem zmi (ds:List Nat) (lo n:Nat):(dn ds lo n).length=n:=by
 induction n with
 | zero=>rfl
 | succ n ih=>simp [dn,ih]
theorem zvt {ds:List Nat} (h:zd7 ds) (lo n:Nat):(dn ds lo n).all zbj=true:=by
 induction n with
 | zero=>rfl
 | succ n ih=>simp [dn,ih,bAt_dig h]
theorem zzt {ds:List Nat} (h:zd7 ds) (lo n:Nat):valD (dn ds lo n)*10 ^ lo+vT lo (dig ds)=vT (lo+n) (dig ds):=by
 induction n with
 | zero=>simp [dn,valD]
 | succ n ih=>
   simp only [dn,valD,zmi,zff h]
   show _=vT (lo+n) (dig ds)+dig ds (lo+n)*10 ^ (lo+n)
   rw [← ih,Nat.add_sub_cancel_left,Nat.add_mul,Nat.pow_add,Nat.mul_assoc,Nat.mul_comm (10 ^ n)]
   omega
theorem zvu {ds:List Nat} (h:zd7 ds) (n:Nat):valD (dn ds 0 n)=vT n (dig ds):=by
 have:=zzt h 0 n
 simp [vT] at this
 exact this
theorem zpd (ds:List Nat) (lo m:Nat):∀ n,dn ds lo (m+n)=dn ds (lo+m) n++dn ds lo m
 | 0=>by simp [dn]
 | n+1=>by
   show bAt ds (lo+(m+n))::dn ds lo (m+n)=_
   rw [zpd ds lo m n]
   show _=bAt ds (lo+m+n)::dn ds (lo+m) n++dn ds lo m
   rw [Nat.add_assoc lo m n];rfl
theorem zhk {ds:List Nat} (lo:Nat):∀ n,(∀ j,lo≤j→j < lo+n→dig ds j=0)→dn ds lo n=List.replicate n 48
 | 0,_=>rfl
 | n+1,h=>by
   show bAt ds (lo+n)::dn ds lo n=_
   rw [zhk lo n (fun j a b=>h j a (by omega)),List.replicate_succ]
   unfold bAt;rw [h (lo+n) (by omega) (by omega)];rfl
theorem zle {l:List UInt8} (h:∀ c r,l=c::r→c≠48):Lib.trimLeftB l 48=l:=by
 cases l with
 | nil=>rfl
 | cons c r=>
   unfold Lib.trimLeftB
   rw [List.dropWhile_cons,if_neg (by simpa using h c r rfl)]
theorem zrv {ds:List Nat} (hs:zd7 ds) (lo m k:Nat) (h0:∀ j,lo+m≤j→j < lo+(m+k)→dig ds j=0) (h1:m=0∨dig ds (lo+m - 1)≠0):Lib.trimLeftB (dn ds lo (m+k)) 48=dn ds lo m:=by
 rw [zpd,zhk (lo+m) k (fun j a b=>h0 j a (by omega)),zis]
 apply zle
 intro c r e hc
 cases m with
 | zero=>cases e
 | succ m=>
   have e1:c=bAt ds (lo+m):=(List.cons.inj e).1.symm
   rw [hc] at e1
   rcases h1 with h | h
   ·cases h
   ·exact h (by rw [show lo+(m+1) - 1=lo+m by omega];exact (zvs hs _).1 e1.symm)
theorem zs9 {l:List UInt8} (h:∀ r c,l=r++[c]→c≠48):Lib.trimRightB l 48=l:=by
 unfold Lib.trimRightB
 have:Lib.trimLeftB l.reverse 48=l.reverse:=zle fun c r e=>h r.reverse c (by rw [← List.reverse_reverse l,e];simp)
 unfold Lib.trimLeftB at this
 rw [this,List.reverse_reverse]
theorem zx4 {ds:List Nat} (hs:zd7 ds) (lo k m:Nat) (h0:∀ j,lo≤j→j < lo+k→dig ds j=0) (h1:m=0∨dig ds (lo+k)≠0):Lib.trimRightB (dn ds lo (k+m)) 48=dn ds (lo+k) m:=by
 rw [zpd,zhk lo k h0,zit]
 apply zs9
 intro r c e hc
 cases m with
 | zero=>simp [dn] at e
 | succ m=>
   rw [Nat.add_comm m 1,zpd] at e
   have e2:=List.append_inj_right' e (by simp [dn])
   have e1:bAt ds (lo+k)=c:=by
    have:=(List.cons.inj e2).1
    rw [show lo+k+0=lo+k from rfl] at this
    exact this
   rw [hc] at e1
   rcases h1 with h | h
   ·omega
   ·exact h ((zvs hs _).1 e1)
def zpe (neg:Bool) (ds:List Nat) (sc:Nat):Option (List UInt8):=wr neg (dn ds sc (ds.length - sc)) (dn ds 0 sc)
theorem zqv {ds:List Nat} (hs:zd7 ds) (sc:Nat):zdi ds=valD (dn ds sc (ds.length - sc))*10 ^ sc+valD (dn ds 0 sc):=by
 rw [zvu hs,zzt hs,zgz _ (by omega)]
structure Ends (ds:List Nat) (sc low high:Nat):Prop where
 l:low≤sc
 lz:∀ j,j < low→dig ds j=0
 ln:low=sc∨dig ds low≠0
 h:sc+1≤high
 hz:∀ j,high≤j→dig ds j=0
 hn:high=sc+1∨dig ds (high - 1)≠0
theorem Ends.trimR {ds:List Nat} {sc low high:Nat} (h:Ends ds sc low high) (hs:zd7 ds):Lib.trimRightB (dn ds 0 sc) 48=dn ds low (sc - low):=by
 have e:=zx4 hs 0 low (sc - low) (fun j _ b=>h.lz j (by omega)) (by
  rcases h.ln with k | k
  ·left;omega
  ·right;rwa [Nat.zero_add])
 have hl:=h.l
 rw [show low+(sc - low)=sc by omega,Nat.zero_add] at e
 exact e
theorem Ends.trimL {ds:List Nat} {sc low high:Nat} (h:Ends ds sc low high) (hs:zd7 ds):Lib.trimLeftB (dn ds sc (ds.length - sc)) 48=if dig ds (high - 1)=0 then [] else dn ds sc (high - sc):=by
 have hh:=h.h
 by_cases h0:dig ds (high - 1)=0
 ·rw [if_pos h0]
  have e:high=sc+1:=by rcases h.hn with k | k
                       ·exact k
                       ·exact absurd h0 k
  have:=zrv hs sc 0 (ds.length - sc) (fun j a _=>by
   by_cases k:j=sc
   ·rw [k,← h0,e];rfl
   ·exact h.hz j (by omega)) (.inl rfl)
  rwa [Nat.zero_add] at this
 ·rw [if_neg h0]
  have hl:high≤ds.length:=by
   rcases Nat.lt_or_ge (high - 1) ds.length with k | k
   ·omega
   ·exact absurd (zhj k) h0
  have:=zrv hs sc (high - sc) (ds.length - high) (fun j a _=>h.hz j (by omega)) (.inr (by rw [show sc+(high - sc) - 1=high - 1 by omega];exact h0))
  rwa [show high - sc+(ds.length - high)=ds.length - sc by omega] at this
theorem Ends.orL {ds:List Nat} {sc low high:Nat} (h:Ends ds sc low high) (hs:zd7 ds):orN (Lib.trimLeftB (dn ds sc (ds.length - sc)) 48)=dn ds sc (high - sc)∧
 ((Lib.trimLeftB (dn ds sc (ds.length - sc)) 48).length > 40↔high - sc > 40):=by
 have hh:=h.h
 rw [h.trimL hs]
 by_cases h0:dig ds (high - 1)=0
 ·rw [if_pos h0]
  have e:high=sc+1:=by rcases h.hn with k | k
                       ·exact k
                       ·exact absurd h0 k
  have e1:dig ds sc=0:=by rw [← h0,e];rfl
  rw [e,show sc+1 - sc=1 by omega]
  refine ⟨?_,by simp⟩
  show [48]=[bAt ds (sc+0)]
  rw [(zvs hs (sc+0)).2 e1]
 ·rw [if_neg h0,zmi]
  refine ⟨?_,Iff.rfl⟩
  obtain ⟨k,hk⟩:∃ k,high - sc=k+1:=⟨high - sc - 1,by omega⟩
  rw [hk];rfl
theorem Ends.form {ds:List Nat} {sc low high:Nat} (h:Ends ds sc low high) (hs:zd7 ds) (neg:Bool):
 zpe neg ds sc=if high - sc > 40∨sc - low > 20 then none else some ((if neg && !decide (zdi ds=0) then [45] else [])++(dn ds sc (high - sc)++46::(if low=sc then [48] else dn ds low (sc - low)))):=by
 obtain ⟨o1,o2⟩:=h.orL hs
 have t2:=h.trimR hs
 have hl:=h.l
 have hx:=zn0 (zvt hs sc (ds.length - sc))
 have hy:=zn1 (zvt hs 0 sc)
 have hv:=zqv hs sc
 unfold zpe wr
 simp only
 have c1:(40 < (Lib.trimLeftB (dn ds sc (ds.length - sc)) 48).length∨20 < (Lib.trimRightB (dn ds 0 sc) 48).length)↔(high - sc > 40∨sc - low > 20):=by
  rw [t2,zmi];exact or_congr o2 Iff.rfl
 have c2:(!(Lib.trimLeftB (dn ds sc (ds.length - sc)) 48++Lib.trimRightB (dn ds 0 sc) 48).isEmpty)=!decide (zdi ds=0):=by
  congr 1
  rw [Bool.eq_iff_iff,decide_eq_true_iff,List.isEmpty_iff,List.append_eq_nil_iff,hx,hy,hv,Nat.add_eq_zero_iff,Nat.mul_eq_zero]
  have hp:(10:Nat) ^ sc≠0:=Nat.pos_iff_ne_zero.1 (Nat.pow_pos (by decide))
  constructor
  ·rintro ⟨a,b⟩;exact ⟨.inl a,b⟩
  ·rintro ⟨a | a,b⟩
   ·exact ⟨a,b⟩
   ·exact absurd a hp
 rw [c2,o1]
 have c3:orN (Lib.trimRightB (dn ds 0 sc) 48)=if low=sc then [48] else dn ds low (sc - low):=by
  rw [t2]
  by_cases e:low=sc
  ·rw [if_pos e,e,Nat.sub_self];rfl
  ·rw [if_neg e]
   obtain ⟨k,hk⟩:∃ k,sc - low=k+1:=⟨sc - low - 1,by omega⟩
   rw [hk];rfl
 rw [c3]
 by_cases hc:high - sc > 40∨sc - low > 20
 ·rw [if_pos hc,if_pos (c1.2 hc)]
 ·rw [if_neg hc,if_neg (fun k=>hc (c1.1 k))]
theorem dn_revD (a b:List UInt8) (ha:a.all zbj=true) (hb:b.all zbj=true):dn (revD (a++b)) b.length a.length=a∧dn (revD (a++b)) 0 b.length=b:=by
 have hall:(a++b).all zbj=true:=by rw [List.all_append,ha,hb];rfl
 have key:∀ (l:List UInt8),l.all zbj=true→dn (revD l) 0 l.length=l:=by
  intro l hl
  apply zf8 _ _ (zvt (zlc l hl) _ _) hl (zmi _ _ _)
  rw [zvu (zlc l hl)]
  have:=zvn l
  unfold zdi at this
  rwa [zg0] at this
 have h1:=key (a++b) hall
 rw [List.length_append,Nat.add_comm,zpd,Nat.zero_add] at h1
 exact List.append_inj h1 (zmi _ _ _)
theorem zvv (neg:Bool) (a b:List UInt8) (ha:a.all zbj=true) (hb:b.all zbj=true):zpe neg (revD (a++b)) b.length=wr neg a b:=by
 obtain ⟨h1,h2⟩:=dn_revD a b ha hb
 unfold zpe
 rw [zg0,List.length_append,Nat.add_sub_cancel,h1,h2]
end Go.Proofs.YteclpnfckjfibaaGreatDoor
