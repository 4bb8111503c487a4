/- Texts of one kind, one behind the other: each says ahead of itself what it shows. -/
import Derived.Test.YteclpnfckjfibaaGreatDoorAaw
import Derived.Test.YteclpnfckjfibaaGreatDoorAax
import Derived.Test.YteclpnfckjfibaaGreatDoorAav
import Derived.Test.YteclpnfckjfibaaGreatDoorAay
import Derived.Test.YteclpnfckjfibaaGreatDoorAae
import Derived.Test.YteclpnfckjfibaaGreatDoorAah
import Derived.Test.YteclpnfckjfibaaGreatDoorAak
import Derived.Test.YteclpnfckjfibaaGreatDoorAai
import Derived.Test.YteclpnfckjfibaaGreatDoorAao
/- PP -/
namespace Go.Proofs.YteclpnfckjfibaaGreatDoor
open Go.RowKit
theorem znv:mayP zfz 0=true:=by decide
theorem zp3 {vs:List ByteArray} (h:zcg vs=true):vs.Nodup:=by
 unfold zcg at h
 rw [decide_eq_true_eq] at h
 unfold List.Nodup at h
 rw [List.pairwise_map] at h
 exact h.imp fun q e=>q (by rw [e])
theorem zp4 {vs:List ByteArray} (h:vs.Nodup):zcg vs=true:=by
 unfold zcg
 rw [decide_eq_true_eq]
 unfold List.Nodup
 rw [List.pairwise_map]
 exact h.imp fun q e=>q (zr1 e)
theorem zdy {vs:List ByteArray} (h:zdg vs=true):vs.length≤64∧(∀ x∈vs,zce x=true)∧vs.Nodup:=by
 unfold zdg at h
 simp only [Bool.and_eq_true,decide_eq_true_eq,List.all_eq_true] at h
 exact ⟨h.1.1,h.1.2,zp3 h.2⟩
theorem zrd {vs:List ByteArray} (h1:vs.length≤64) (h2:∀ x∈vs,zce x=true) (h3:vs.Nodup):zdg vs=true:=by
 unfold zdg
 simp only [Bool.and_eq_true,decide_eq_true_eq,List.all_eq_true]
 exact ⟨⟨h1,h2⟩,zp4 h3⟩
theorem zmy {t:TabL} (hv:zdg t.vars=true) (hr:∀ r∈t.rows,r.length=t.vars.length) (hm:∀ r∈t.rows,∀ v∈r,mayP v 0=true):tabP t=true:=by
 unfold tabP
 simp only [Bool.and_eq_true,List.all_eq_true]
 refine ⟨hv,fun r h=>?_⟩
 unfold rowP
 simp only [Bool.and_eq_true,decide_eq_true_eq,List.all_eq_true]
 exact ⟨hr r h,hm r h⟩
theorem znw {t:TabL} {l:List (List Val)} (h:tabP t=true) (hl:∀ r∈l,r∈t.rows):tabP ⟨t.vars,l⟩=true:=
 zmy (t:=⟨t.vars,l⟩) (show zdg t.vars=true from zbk h) (fun r hr=>(zbi h).1 r (hl r hr)) (fun r hr=>(zbi h).2 r (hl r hr))
theorem znx {ta tb:List ByteArray} {x:ByteArray}:x∈zar ta tb↔x∈ta∨x∈tb:=by
 unfold zar
 rw [List.mem_append,List.mem_filter]
 constructor
 ·rintro (h | h)
  ·exact .inl h
  ·exact .inr h.1
 ·rintro (h | h)
  ·exact .inl h
  ·by_cases q:x∈ta
   ·exact .inl q
   ·refine .inr ⟨h,?_⟩
    rw [Bool.not_eq_true',Bool.eq_false_iff]
    exact fun e=>q ((zes _ _).1 e)
theorem zp5 (vs:List ByteArray):zar vs vs=vs:=by
 unfold zar
 rw [List.filter_eq_nil_iff.2,List.append_nil]
 intro x hx
 rw [(zes _ _).2 hx]
 simp
theorem ztp {ta tb:List ByteArray} (ha:ta.Nodup) (hb:tb.Nodup):(zar ta tb).Nodup:=by
 unfold zar
 rw [List.nodup_append]
 refine ⟨ha,hb.filter _,fun x hx y hy e=>?_⟩
 subst e
 have:=(List.mem_filter.1 hy).2
 rw [(zes _ _).2 hx] at this
 simp at this
theorem zp6 {ta tb:List ByteArray} (ha:zdg ta=true) (hb:zdg tb=true) (hl:ta.length+tb.length≤64):zdg (zar ta tb)=true:=by
 refine zrd (Nat.le_trans (zhf _ _) hl) (fun x hx=>?_) (ztp (zdy ha).2.2 (zdy hb).2.2)
 rcases znx.1 hx with h | h
 ·exact (zdy ha).2.1 x h
 ·exact (zdy hb).2.1 x h
theorem ztq {vs:List ByteArray} (h:vs.Nodup) (i:Nat) (hi:i < vs.length):zbg vs[i] vs=some i:=
 zff hi rfl fun j hj hlt e=>by
  exact (List.pairwise_iff_getElem.1 h) j i hj hi hlt e
theorem zyq {x:ByteArray} {vs:List ByteArray} (h:x∈vs):∃ k,∃ hk:k < vs.length,zbg x vs=some k∧vs[k]=x:=by
 have h1:=(zes x vs).2 h
 unfold memB at h1
 obtain ⟨k,hk⟩:=Option.isSome_iff_exists.1 h1
 obtain ⟨h2,h3,_⟩:=zf7 hk
 exact ⟨k,h2,hk,h3⟩
theorem zlt (r:List Val) (k:Nat):zcy r (k:Int)=atV r k:=by
 unfold zcy
 rw [if_neg (by omega)]
 simp
theorem zyr {vs:List ByteArray} (h:vs.Nodup) {r:List Val} (hr:r.length=vs.length):(zeh vs vs).map (zcy r)=r:=by
 refine List.ext_getElem (by simp [zeh,hr]) fun i h1 h2=>?_
 simp only [zeh,List.getElem_map]
 have hi:i < vs.length:=by simpa [zeh] using h1
 rw [ztq h i hi]
 show zcy r (i:Int)=_
 rw [zlt,ze2 h2]
theorem zlu {t:TabL} (h:tabP t=true):zbn t t.vars=t.rows:=by
 unfold zbn
 exact (List.map_congr_left (g:=fun r=>r) fun r hr=>zyr (zdy (zbk h)).2.2 ((zbi h).1 r hr)).trans (List.map_id' _)
theorem zny {r:List Val} (h:∀ v∈r,mayP v 0=true) (c:Int):mayP (zcy r c) 0=true:=by
 unfold zcy
 split
 ·exact znv
 ·by_cases q:c.toNat < r.length
  ·rw [ze2 q]
   exact h _ (List.getElem_mem q)
  ·unfold atV
   rw [List.getD_eq_getElem?_getD,List.getElem?_eq_none (by omega)]
   exact znv
theorem znz {t:TabL} {V:List ByteArray} (h:tabP t=true) (hv:zdg V=true):tabP ⟨V,zbn t V⟩=true:=by
 refine zmy hv (fun r hr=>?_) (fun r hr v hm=>?_)
 ·obtain ⟨q,_,rfl⟩:=List.mem_map.1 hr
  simp [zeh]
 ·obtain ⟨q,hq,rfl⟩:=List.mem_map.1 hr
  obtain ⟨c,_,rfl⟩:=List.mem_map.1 hm
  exact zny ((zbi h).2 q hq) c
theorem zfl {V:List ByteArray} {l m:List (List Val)} (h1:tabP ⟨V,l⟩=true) (h2:tabP ⟨V,m⟩=true):tabP ⟨V,l++m⟩=true:=by
 refine zmy (t:=⟨V,l++m⟩) (show zdg V=true from zbk h1) (fun r hr=>?_) (fun r hr=>?_)
 ·rcases List.mem_append.1 hr with h | h
  ·exact (zbi h1).1 r h
  ·exact (zbi h2).1 r h
 ·rcases List.mem_append.1 hr with h | h
  ·exact (zbi h1).2 r h
  ·exact (zbi h2).2 r h
theorem zhj {a b:TabL} (ha:tabP a=true) (hb:tabP b=true) (hl:a.vars.length+b.vars.length≤64):zaw a b=⟨zar a.vars b.vars,zbn a (zar a.vars b.vars)++zbn b (zar a.vars b.vars)⟩:=by
 unfold zaw
 rw [if_pos ⟨by rw [ha,hb];rfl,Nat.le_trans (zhf _ _) hl⟩]
theorem zem {V:List ByteArray} {l m:List (List Val)} (h1:tabP ⟨V,l⟩=true) (h2:tabP ⟨V,m⟩=true):zaw ⟨V,l⟩ ⟨V,m⟩=⟨V,l++m⟩:=by
 unfold zaw
 rw [if_pos ⟨by rw [h1,h2];rfl,by show (zar V V).length≤64;rw [zp5];exact (zdy (zbk h1)).1⟩]
 show TabL.mk (zar V V) (zbn ⟨V,l⟩ (zar V V)++zbn ⟨V,m⟩ (zar V V))=_
 rw [zp5]
 have e1:=zlu h1
 have e2:=zlu h2
 rw [e1,e2]
theorem zhk {a b:TabL} (ha:tabP a=true) (hb:tabP b=true) (hl:a.vars.length+b.vars.length≤64):tabP (zaw a b)=true:=by
 rw [zhj ha hb hl]
 have hv:=zp6 (zbk ha) (zbk hb) hl
 exact zfl (znz ha hv) (znz hb hv)
theorem zfv {a b:TabL} (ha:tabP a=true) (hb:tabP b=true):zc8 a b=⟨a.vars,a.rows.filter fun r=>!zeb (za5 a.vars b.vars) r b.rows⟩:=by
 unfold zc8
 rw [if_pos (by rw [ha,hb];rfl)]
theorem zp7 {a b:TabL} (ha:tabP a=true) (hb:tabP b=true):tabP (zc8 a b)=true:=by
 rw [zfv ha hb]
 exact znw ha fun r hr=>(List.mem_filter.1 hr).1
theorem zre {a:TabL} {V:List ByteArray} {l m:List (List Val)} (ha:tabP a=true) (h1:tabP ⟨V,l⟩=true) (h2:tabP ⟨V,m⟩=true):
 zc8 a ⟨V,l++m⟩=zc8 (zc8 a ⟨V,l⟩) ⟨V,m⟩:=by
 rw [zfv ha (zfl h1 h2),zfv (zp7 ha h1) h2,zfv ha h1]
 show TabL.mk a.vars _=TabL.mk a.vars _
 congr 1
 show _=List.filter _ (List.filter _ a.rows)
 rw [List.filter_filter]
 refine List.filter_congr fun r _=>?_
 show (!zeb (za5 a.vars V) r (l++m))=((!zeb (za5 a.vars V) r m) && !zeb (za5 a.vars V) r l)
 unfold zeb
 rw [List.any_append,Bool.not_or,Bool.and_comm]
theorem zwq {α β:Type} (f:α→Bool) (g:α→β) (d:α) (all:List α):(l:List α)→(k:Nat)→(∀ j,j < l.length→all.getD (k+j) d=l.getD j d)→((l.zipIdx k).filter fun p=>f p.1).map (fun p=>g (all.getD p.2 d))=(l.filter f).map g
 | [],_,_=>rfl
 | x::r,k,h=>by
   have h0:all.getD k d=x:=by simpa using h 0 (by simp)
   have ih:=zwq f g d all r (k+1) (fun j hj=>by
    have:=h (j+1) (by simpa using hj)
    rw [show k+1+j=k+(j+1) by omega,this]
    simp)
   rw [List.zipIdx_cons,List.filter_cons,List.filter_cons]
   by_cases q:f x=true
   ·rw [if_pos q,if_pos q,List.map_cons,List.map_cons,ih,h0]
   ·rw [if_neg q,if_neg q,ih]
theorem zdq (sh:List (Nat × Nat)) (src:List (Int × Int)) (rows:List (List Val)) (x:List Val):zez sh src rows x=(rows.filter (fitB sh x)).map (zec src x):=by
 unfold zez fitN
 rw [List.map_map]
 exact zwq (fitB sh x) (zec src x) [] rows rows 0 (fun j _=>by rw [Nat.zero_add])
theorem zse {α β:Type} (f g:α→List β):(l:List α)→(l.flatMap fun x=>f x++g x).Perm (l.flatMap f++l.flatMap g)
 | []=>by simp
 | x::r=>by
   simp only [List.flatMap_cons,List.append_assoc]
   refine List.Perm.append_left (f x) ?_
   refine (List.Perm.append_left (g x) (zse f g r)).trans ?_
   rw [← List.append_assoc,← List.append_assoc]
   exact List.Perm.append_right _ List.perm_append_comm
theorem zma (sh:List (Nat × Nat)) (src:List (Int × Int)) (rowsA l m:List (List Val)):(zaz sh src rowsA (l++m)).Perm (zaz sh src rowsA l++zaz sh src rowsA m):=by
 unfold zaz
 have e:zez sh src (l++m)=fun x=>zez sh src l x++zez sh src m x:=by
  funext x
  rw [zdq,zdq,zdq,List.filter_append,List.map_append]
 rw [e]
 exact zse _ _ rowsA
theorem zfm {a b:TabL} (ha:tabP a=true) (hb:tabP b=true) (hl:a.vars.length+b.vars.length≤64):
 zb5 a b=⟨zar a.vars b.vars,zaz (za5 a.vars b.vars) (srcP (zar a.vars b.vars) a.vars b.vars) a.rows b.rows⟩:=by
 unfold zb5
 rw [if_pos ⟨by rw [ha,hb];rfl,Nat.le_trans (zhf _ _) hl⟩]
theorem zh5 {sh:List (Nat × Nat)} {src:List (Int × Int)} {la lb:List (List Val)} {r:List Val} (h:r∈zaz sh src la lb):∃ x∈la,∃ y∈lb,fitB sh x y=true∧r=zec src x y:=by
 unfold zaz at h
 obtain ⟨x,hx,h⟩:=List.mem_flatMap.1 h
 rw [zdq] at h
 obtain ⟨y,hy,rfl⟩:=List.mem_map.1 h
 exact ⟨x,hx,y,(List.mem_filter.1 hy).1,(List.mem_filter.1 hy).2,rfl⟩
theorem zil (sh:List (Nat × Nat)) (src:List (Int × Int)) (lb:List (List Val)):(la:List (List Val))→(zaz sh src la lb).length≤la.length*lb.length
 | []=>by simp [zaz]
 | x::r=>by
   have ih:=zil sh src lb r
   unfold zaz at ih ⊢
   rw [List.flatMap_cons,List.length_append,zdq,List.length_map,List.length_cons,Nat.add_mul,Nat.one_mul]
   have:=List.length_filter_le (fitB sh x) lb
   omega
theorem zrf {src:List (Int × Int)} {x y:List Val} (hx:∀ v∈x,mayP v 0=true) (hy:∀ v∈y,mayP v 0=true):∀ v∈zec src x y,mayP v 0=true:=by
 intro v hv
 obtain ⟨s,_,rfl⟩:=List.mem_map.1 hv
 unfold zlf
 split
 ·exact zny hx _
 ·exact zny hy _
theorem zfw {a b:TabL} (ha:tabP a=true) (hb:tabP b=true) (hl:a.vars.length+b.vars.length≤64):tabP (zb5 a b)=true:=by
 rw [zfm ha hb hl]
 refine zmy (zp6 (zbk ha) (zbk hb) hl) (fun r hr=>?_) (fun r hr=>?_)
 ·obtain ⟨x,_,y,_,_,rfl⟩:=zh5 hr
  simp [zec,srcP]
 ·obtain ⟨x,hx,y,hy,_,rfl⟩:=zh5 hr
  exact zrf ((zbi ha).2 x hx) ((zbi hb).2 y hy)
theorem zh6 {a b:TabL} (ha:tabP a=true) (hb:tabP b=true) (hv:a.vars=b.vars) (h:a.rows.Perm b.rows):zfk a b=true:=by
 unfold zfk
 rw [ha,hb,decide_eq_true hv,decide_eq_true (h.map zan)]
 rfl
theorem ztr {a:TabL} {V:List ByteArray} {l m:List (List Val)} (ha:tabP a=true) (h1:tabP ⟨V,l⟩=true) (h2:tabP ⟨V,m⟩=true) (hl:a.vars.length+V.length≤64):
 zfk (zb5 a ⟨V,l++m⟩) (zaw (zb5 a ⟨V,l⟩) (zb5 a ⟨V,m⟩))=true:=by
 have j:=zfw ha (zfl h1 h2) hl
 have j1:=zfw ha h1 hl
 have j2:=zfw ha h2 hl
 rw [zfm ha (zfl h1 h2) hl] at j ⊢
 rw [zfm ha h1 hl] at j1 ⊢
 rw [zfm ha h2 hl] at j2 ⊢
 rw [zem j1 j2]
 exact zh6 j (zfl j1 j2) rfl (zma _ _ _ _ _)
theorem zwr (V V' us:List ByteArray) (h:∀ x∈V,x∈V') (r:List Val):(zeh V V').map (zcy ((zeh V' us).map (zcy r)))=(zeh V us).map (zcy r):=by
 unfold zeh
 rw [List.map_map,List.map_map,List.map_map]
 refine List.map_congr_left fun x hx=>?_
 obtain ⟨k,hk,e,hv⟩:=zyq (h x hx)
 show zcy _ (zcn (zbg x V'))=zcy r (zcn (zbg x us))
 rw [e]
 show zcy _ (k:Int)=_
 rw [zlt,ze2 (by simpa using hk)]
 simp only [List.getElem_map,hv]
 rfl
theorem zmz {t:TabL} {V V':List ByteArray} (h:∀ x∈V,x∈V'):zbn ⟨V',zbn t V'⟩ V=zbn t V:=by
 unfold zbn
 rw [List.map_map]
 exact List.map_congr_left fun r _=>zwr V V' t.vars h r
theorem zfx {t:TabL} {V:List ByteArray} (h:tabP t=true) (hv:zdg V=true):zct t V=⟨V,zbn t V⟩:=by
 unfold zct
 rw [if_pos (by rw [h,hv];rfl)]
theorem zlv {t:TabL} {V:List ByteArray} (h:tabP t=true) (hv:zdg V=true):tabP (zct t V)=true:=by
 rw [zfx h hv]
 exact znz h hv
theorem zp8 {t:TabL} (h:tabP t=true):zct t t.vars=t:=by
 rw [zfx h (zbk h),zlu h]
theorem zts {a b:TabL} (ha:tabP a=true) (hb:tabP b=true) (hl:a.vars.length+b.vars.length≤64):
 zfk (zaw a b) (zct (zaw b a) (zaw a b).vars)=true:=by
 have hl':b.vars.length+a.vars.length≤64:=by omega
 have t1:=zhk ha hb hl
 have t2:=zhk hb ha hl'
 have t3:=zlv t2 (zbk t1)
 rw [zfx t2 (zbk t1)] at t3 ⊢
 refine zh6 t1 t3 rfl ?_
 rw [zhj ha hb hl,zhj hb ha hl']
 show (zbn a (zar a.vars b.vars)++zbn b (zar a.vars b.vars)).Perm (zbn ⟨zar b.vars a.vars,zbn b (zar b.vars a.vars)++zbn a (zar b.vars a.vars)⟩ (zar a.vars b.vars))
 have hin:∀ x∈zar a.vars b.vars,x∈zar b.vars a.vars:=fun x hx=>znx.2 (znx.1 hx).symm
 have e:zbn ⟨zar b.vars a.vars,zbn b (zar b.vars a.vars)++zbn a (zar b.vars a.vars)⟩ (zar a.vars b.vars)=zbn b (zar a.vars b.vars)++zbn a (zar a.vars b.vars):=by
  rw [← zmz (t:=b) hin,← zmz (t:=a) hin]
  unfold zbn
  rw [List.map_append]
 rw [e]
 exact List.perm_append_comm
theorem zsf (q:List (List Val)→List Val→Bool) (l m:List (List Val)):(n:Nat)→n≤l.length→zck q (l++m) n=zck q l n
 | 0,_=>rfl
 | n+1,h=>by
   unfold zck
   rw [zsf q l m n (by omega),List.take_append_of_le_length (by omega)]
   have e:(l++m).getD n []=l.getD n []:=by
    rw [List.getD_eq_getElem?_getD,List.getD_eq_getElem?_getD,List.getElem?_append_left (by omega)]
   rw [e]
theorem zm0 (l:List (List Val)):(j:Nat)→j≤l.length→zck newQ (l++l) (l.length+j)=zck newQ l l.length
 | 0,_=>zsf newQ l l l.length (Nat.le_refl _)
 | j+1,h=>by
   show zck newQ (l++l) ((l.length+j)+1)=_
   rw [zck.eq_def newQ (l++l) (l.length+j+1)]
   show (if newQ ((l++l).take (l.length+j)) ((l++l).getD (l.length+j) [])=true then _ else zck newQ (l++l) (l.length+j))=_
   rw [zm0 l j (by omega),if_neg]
   have hj:j < l.length:=by omega
   have e:(l++l).getD (l.length+j) []=l[j]:=by
    rw [List.getD_eq_getElem?_getD,List.getElem?_append_right (by omega),show l.length+j - l.length=j by omega,List.getElem?_eq_getElem hj]
    rfl
   rw [e]
   unfold newQ
   rw [Bool.not_eq_true,Bool.not_eq_false',List.any_eq_true]
   refine ⟨l[j],?_,by simp⟩
   rw [List.take_append,List.mem_append]
   left
   rw [List.take_of_length_le (by omega)]
   exact List.getElem_mem hj
theorem ziv (q:List (List Val)→List Val→Bool) (l:List (List Val)):(n:Nat)→n≤l.length→∀ r∈zck q l n,r∈l
 | 0,_,r,h=>by simp [zck] at h
 | n+1,hn,r,h=>by
   have e:l.getD n []=l[n]:=by rw [List.getD_eq_getElem?_getD,List.getElem?_eq_getElem (by omega)];rfl
   unfold zck at h
   rw [e] at h
   split at h
   ·rcases List.mem_append.1 h with h | h
    ·exact ziv q l n (by omega) r h
    ·rw [List.mem_singleton.1 h]
     exact List.getElem_mem _
   ·exact ziv q l n (by omega) r h
theorem zn0 {t:TabL} (h:tabP t=true):zhh t=⟨t.vars,zck newQ t.rows t.rows.length⟩:=by
 unfold zhh
 rw [if_pos h]
theorem zn1 {t:TabL} (h:tabP t=true):tabP (zhh t)=true:=by
 rw [zn0 h]
 exact znw h (ziv newQ t.rows _ (Nat.le_refl _))
theorem ztt {a:TabL} (h:tabP a=true):zhh (zaw a a)=zhh a:=by
 have hu:zaw a a=⟨a.vars,a.rows++a.rows⟩:=zem (V:=a.vars) h h
 have ht:tabP ⟨a.vars,a.rows++a.rows⟩=true:=zfl (V:=a.vars) h h
 rw [hu,zn0 ht,zn0 h]
 show TabL.mk a.vars (zck newQ (a.rows++a.rows) (a.rows++a.rows).length)=_
 rw [List.length_append,zm0 a.rows _ (Nat.le_refl _)]
theorem ztu {a:TabL} (h:tabP a=true):zfk a a=true:=zh6 h h rfl (List.Perm.refl _)
end Go.Proofs.YteclpnfckjfibaaGreatDoor

/- LW -/
namespace Go.Proofs.YteclpnfckjfibaaGreatDoor
open Go.RowKit
mutual
def zrg:Val→Nat
 | .mk _ _ _ t x l=>1+t.size / 64+x.size / 64+zhl l
def zhl:List Val→Nat
 | []=>0
 | v::r=>zrg v+zhl r
end
mutual
theorem sz_le:(v:Val)→zrg v≤wOne v
 | .mk k b n t x l=>by
   have h:=zsg l
   unfold zrg wOne
   omega
theorem zsg:(l:List Val)→zhl l≤wAll l
 | []=>by unfold zhl;omega
 | v::r=>by
   have h1:=sz_le v
   have h2:=zsg r
   unfold zhl wAll
   omega
end
mutual
theorem w_le:(v:Val)→wOne v≤127*zrg v
 | .mk k b n t x l=>by
   have h:=ws_le l
   unfold zrg wOne
   omega
theorem ws_le:(l:List Val)→wAll l≤127*zhl l
 | []=>by unfold wAll;omega
 | v::r=>by
   have h1:=w_le v
   have h2:=ws_le r
   unfold zhl wAll
   omega
end
mutual
theorem ztv:(v:Val)→(n:Int)→0≤n→n+wOne v≤1152921504606846976→zf6 v n=n+zrg v
 | .mk k b m t x l,n,h0,h=>by
   unfold wOne at h
   have hs:=zsg l
   have e:=zh7 l 0 (by omega) (by omega)
   unfold zf6 zrg
   rw [e]
   unfold addW wrap64
   omega
theorem zh7:(l:List Val)→(n:Int)→0≤n→n+wAll l≤1152921504606846976→zbm l n=n+zhl l
 | [],n,_,_=>by unfold zbm zhl;omega
 | v::r,n,h0,h=>by
   unfold wAll at h
   have h1:=sz_le v
   unfold zbm zhl
   rw [ztv v n h0 (by omega),zh7 r _ (by omega) (by omega)]
   omega
end
def zbv:List (List Val)→Int→Int
 | [],n=>n
 | r::l,n=>zbv l (addW (addW n 1) (zbm r 0))
theorem zhm:(l:List (List Val))→(n:Int)→(j:Nat)→(h:j < l.length)→zbv (l.take (j+1)) n=addW (addW (zbv (l.take j) n) 1) (zbm (l[j]'h) 0)
 | [],_,j,h=>absurd h (by simp)
 | v::r,n,0,_=>by
   show zbv (v::r.take 0) n=addW (addW (zbv [] n) 1) (zbm v 0)
   simp [zbv]
 | v::r,n,j+1,h=>by
   show zbv (v::r.take (j+1)) n=addW (addW (zbv (v::r.take j) n) 1) (zbm (r[j]'(by simpa using h)) 0)
   unfold zbv
   exact zhm r _ j (by simpa using h)
def zlw:List (List Val)→Nat
 | []=>0
 | r::l=>1+zhl r+zlw l
theorem zgd:(l:List (List Val))→(n:Int)→0≤n→(∀ r∈l,wAll r≤2097152)→n+4194304*l.length≤1152921504606846976→zbv l n=n+zlw l
 | [],n,_,_,_=>by unfold zbv zlw;omega
 | r::l,n,h0,hw,h=>by
   have h1:=hw r (by simp)
   have hs:=zsg r
   rw [List.length_cons] at h
   unfold zbv zlw
   have e1:zbm r 0=zhl r:=by rw [zh7 r 0 (by omega) (by omega)];omega
   have e2:addW (addW n 1) (zbm r 0)=n+(1+zhl r:Nat):=by
    rw [e1]
    unfold addW wrap64
    omega
   rw [e2,zgd l _ (by omega) (fun q hq=>hw q (by simp [hq])) (by omega)]
   omega
theorem zm1:{l:List (List Val)}→{r:List Val}→r∈l→zhl r≤zlw l
 | q::l,r,h=>by
   unfold zlw
   rcases List.mem_cons.1 h with e | h
   ·subst e;omega
   ·have:=zm1 h;omega
theorem zsh (m:Nat):(l:List Val)→(∀ v∈l,wOne v≤m)→wAll l≤l.length*m
 | [],_=>by unfold wAll;omega
 | v::r,h=>by
   have h1:=h v (by simp)
   have h2:=zsh m r (fun u hu=>h u (by simp [hu]))
   unfold wAll
   rw [List.length_cons,Nat.add_mul,Nat.one_mul]
   omega
def zbw (l:List (List Val)):Prop:=∀ r∈l,∀ v∈r,wOne v≤381000
theorem zlx {r:List Val} (hn:r.length≤64) (h:∀ v∈r,wOne v≤381000):13*wAll r≤700000000:=by
 have h1:=zsh 381000 r h
 have h2:r.length*381000≤64*381000:=Nat.mul_le_mul_right _ hn
 omega
theorem zc9 {t:TabL} (ht:tabP t=true) (h:zbw t.rows):∀ r∈t.rows,13*wAll r≤700000000:=fun r hr=>
 zlx (by rw [(zbi ht).1 r hr];exact zfj (zbk ht)) (h r hr)
theorem zh8:wOne zfz≤381000:=by
 show 1+0+0+0≤381000
 omega
theorem zfy {r:List Val} (h:∀ v∈r,wOne v≤381000) (c:Int):wOne (zcy r c)≤381000:=by
 unfold zcy
 split
 ·exact zh8
 ·by_cases q:c.toNat < r.length
  ·rw [ze2 q]
   exact h _ (List.getElem_mem q)
  ·unfold atV
   rw [List.getD_eq_getElem?_getD,List.getElem?_eq_none (by omega)]
   exact zh8
theorem zsi {r:List Val} (h:∀ v∈r,wOne v≤381000) (i:Nat):wOne (atV r i)≤381000:=by
 have:=zfy h (i:Int)
 rwa [zlt] at this
theorem zh9 {t:TabL} {V:List ByteArray} (h:zbw t.rows):zbw (zbn t V):=by
 intro r hr v hv
 obtain ⟨q,hq,rfl⟩:=List.mem_map.1 hr
 obtain ⟨c,_,rfl⟩:=List.mem_map.1 hv
 exact zfy (h q hq) c
theorem zmb {sh:List (Nat × Nat)} {src:List (Int × Int)} {la lb:List (List Val)} (h1:zbw la) (h2:zbw lb):zbw (zaz sh src la lb):=by
 intro r hr v hv
 obtain ⟨x,hx,y,hy,_,rfl⟩:=zh5 hr
 obtain ⟨s,_,rfl⟩:=List.mem_map.1 hv
 unfold zlf
 split
 ·exact zfy (h1 x hx) _
 ·exact zfy (h2 y hy) _
theorem zly {l m:List (List Val)} (h1:zbw l) (h2:zbw m):zbw (l++m):=fun r hr=>(List.mem_append.1 hr).elim (h1 r) (h2 r)
theorem zhn {l m:List (List Val)} (h:zbw l) (hs:∀ r∈m,r∈l):zbw m:=fun r hr=>h r (hs r hr)
theorem ztw {a b:TabL} (ha:tabP a=true) (hb:tabP b=true) (h1:zbw a.rows) (h2:zbw b.rows):WtOk a b:=by
 have hs:(za5 a.vars b.vars).length≤64:=Nat.le_trans (zfn _ _) (zfj (zbk ha))
 constructor
 ·intro r hr
  refine zlx (by simpa [zbu] using hs) fun v hv=>?_
  obtain ⟨i,_,rfl⟩:=List.mem_map.1 hv
  exact zsi (h1 r hr) i
 ·intro r hr
  refine zlx (by simpa [zbc] using hs) fun v hv=>?_
  obtain ⟨i,_,rfl⟩:=List.mem_map.1 hv
  exact zsi (h2 r hr) i
theorem zsj {l:List (List Val)} (h:zlw l≤3000):zbw l:=fun r hr v hv=>by
 have h1:=zm1 hr
 have h2:=ws_le r
 have h3:=zng hv
 omega
end Go.Proofs.YteclpnfckjfibaaGreatDoor

/- LI -/
namespace Go.Proofs.YteclpnfckjfibaaGreatDoor
open Go.RowKit
set_option maxHeartbeats 3200000 in
set_option maxRecDepth 20000 in
theorem zm2 (V:Value) (l:List (List Val)) (W:World) (h:zah rowE W (Old W) V l) (hn:l.length≤2097152):Calls Tryz.prog 48 #[V] W fun e w'=>e=.returned (.int .i64 (zbv l 0))∧Below W.heap.size W w':=by
 obtain ⟨p,cap,rfl⟩:=h.slice
 obtain ⟨n,hl⟩:∃ n,n=l.length:=⟨_,rfl⟩
 rw [← hl]
 rw [← hl] at hn
 have HC:=Lib.hid h
 have HL:=Lib.hid hl
 clear h hl
 go_enter Tryz.func48,Tryz.ntmps48
 go_wp2_with fail
 go_loopg [3,4] n (fun gg s3 s4 wr=>∃ (j:Nat) (z:Int),j+gg=n∧s4=.int .i64 j∧s3=.int .i64 z∧Hid (z=zbv (l.take j) 0)∧Hid (Below W.heap.size W wr))
 case atStart=>exact ⟨0,0,by omega,rfl,rfl,Lib.hid (by simp [zbv]),Lib.hid (Below.refl _ _)⟩
 case round=>
  obtain ⟨j,z,hjg,rfl,rfl,HZ,HB⟩:=hrel
  by_cases hj:(j:Int) < n
  ·have hj1:j < l.length:=by have:=HL.out;omega
   obtain ⟨g,off,cap',c,e0,hg,hrl,hra⟩:=(HC.out.stays (zad HB.out)).at_ j hj1
   injection e0 with e1 e2 e3
   subst e1 e3
   obtain ⟨row,hrow⟩:∃ row,row=l[j]:=⟨_,rfl⟩
   rw [← hrow] at hrl
   obtain ⟨u,rfl,hu,hcu,hlu⟩:=hrl
   have hh:=zbf.held row (zci row hu)
   obtain ⟨pu,ku,rfl⟩:=hu.slice
   have cj:wr.cell? ⟨g,off+j,none⟩=some (.slice pu row.length ku):=by
    have:=hra 0 _ rfl
    simpa [rowE] using this
   have HS:=Lib.hid (zpc row pu ku wr hh hlu (znb row))
   have HZ2:Hid (zbv (l.take (j+1)) 0=wrap64 (wrap64 (z+1)+zbm row 0)):=Lib.hid (by
    rw [zhm l 0 j hj1,← HZ.out,← hrow]
    rfl)
   clear hra hg hu hcu hrow e2 hh HZ
   generalize zbm row 0=zr at*
   generalize row.length=lr at*
   go_wp2_with (first |(go_at_call 96;(with_reducible refine HS.out.mono ?_);rintro e w1 ⟨rfl,mm,rfl⟩))
   go_roundg (gk - 1)
   case measure=>omega
   case rel=>exact ⟨j+1,_,by omega,by go_num,rfl,Lib.hid HZ2.out.symm,Lib.hid (HB.out.trans ((zeo (Below.refl _ wr) mm).mono HB.out.size))⟩
  ·have HE:Hid (zbv l 0=z):=Lib.hid (by
    have h:=HZ.out
    rw [List.take_of_length_le (by have:=HL.out;omega)] at h
    exact h.symm)
   go_wp2_with fail
   go_ret
   exact ⟨by rw [HE.out];rfl,HB.out⟩
def zho (a b:TabL):Bool:=decide (zbv a.rows 0≤3000) && decide (zbv b.rows 0≤3000) && decide (a.rows.length≤60) && decide (b.rows.length≤60) && decide (a.vars.length≤100) && decide (b.vars.length≤100)
theorem zge {a b:TabL} (h:zho a b=true) (ha:∀ r∈a.rows,wAll r≤2097152) (hb:∀ r∈b.rows,wAll r≤2097152):zbw a.rows∧zbw b.rows∧a.rows.length≤60∧b.rows.length≤60:=by
 unfold zho at h
 simp only [Bool.and_eq_true,decide_eq_true_eq] at h
 obtain ⟨⟨⟨⟨⟨h1,h2⟩,h3⟩,h4⟩,_⟩,_⟩:=h
 have e1:=zgd a.rows 0 (by omega) ha (by omega)
 have e2:=zgd b.rows 0 (by omega) hb (by omega)
 exact ⟨zsj (by omega),zsj (by omega),h3,h4⟩
end Go.Proofs.YteclpnfckjfibaaGreatDoor

/- DX -/
namespace Go.Proofs.YteclpnfckjfibaaGreatDoor
open Go.RowKit
set_option maxHeartbeats 3200000 in
theorem ztx (V:Value) (ts:List ByteArray) (t:ByteArray) (P:Nat→Prop) (W:World) (h:zah zax W P V ts) (hn:ts.length≤2097152):Calls Tryz.prog 38 #[V,.string t] W fun e w'=>e=.returned (.int .i64 (zcn (zbg t ts)))∧W=w':=by
 obtain ⟨p,cap,rfl⟩:=h.slice
 obtain ⟨n,hl⟩:∃ n,n=ts.length:=⟨_,rfl⟩
 obtain ⟨r,hr⟩:∃ r,r=zcn (zbg t ts):=⟨_,rfl⟩
 rw [← hr,← hl]
 rw [← hl] at hn
 have HC:=Lib.hid h
 have HL:=Lib.hid hl
 have HR:=Lib.hid hr
 clear h hl hr
 go_enter Tryz.func38,Tryz.ntmps38
 go_wp2_with fail
 go_loopg [5] n (fun gg s5 wr=>∃ j:Nat,j+gg=n∧s5=.int .i64 j∧Hid (∀ i (h:i < ts.length),i < j→ts[i]≠t)∧wr=W)
 case atStart=>exact ⟨0,by omega,rfl,Lib.hid (fun i _ h=>absurd h (by omega)),rfl⟩
 case round=>
  obtain ⟨j,hjg,rfl,HA,rfl⟩:=hrel
  by_cases hj:(j:Int) < n
  ·have hj1:j < ts.length:=by have:=HL.out;omega
   obtain ⟨g,off,cap',c,e0,hg,hrl,hra⟩:=HC.out.at_ j hj1
   injection e0 with e1 e2 e3
   subst e1
   obtain ⟨y,hy⟩:∃ y,y=ts[j]:=⟨_,rfl⟩
   obtain ⟨rfl,hwf⟩:=hrl
   have cj:wr.cell? ⟨g,off+j,none⟩=some (.string y):=by
    have:=hra 0 _ rfl
    rw [hy]
    simpa [zax] using this
   have HY:=Lib.hid hy
   clear hra hy hg hwf e2 e3
   by_cases q:t=y
   ·subst q
    have HR2:Hid (r=j):=Lib.hid (by rw [HR.out,zff hj1 HY.out.symm HA.out];rfl)
    go_wp2_with fail
    go_ret
    exact ⟨by rw [HR2.out];rfl,rfl⟩
   ·have q2:(y.toList == t.toList)=false:=zqu fun e=>q e.symm
    have HA2:Hid (∀ i (h:i < ts.length),i < j+1→ts[i]≠t):=Lib.hid fun i h1 h2=>by
     by_cases e:i=j
     ·subst e
      rw [← HY.out]
      exact fun z=>q z.symm
     ·exact HA.out i h1 (by omega)
    clear q
    go_wp2_with fail
    go_roundg (gk - 1)
    case measure=>omega
    case rel=>exact ⟨j+1,by omega,by go_num,HA2,rfl⟩
  ·have HR2:Hid (r=-1):=Lib.hid (by
    rw [HR.out,zf8.2 fun x hx=>?_]
    ·rfl
    ·obtain ⟨i,hi,rfl⟩:=List.getElem_of_mem hx
     exact HA.out i hi (by have:=HL.out;omega))
   go_wp2_with fail
   go_ret
   exact ⟨by rw [HR2.out];rfl,rfl⟩
end Go.Proofs.YteclpnfckjfibaaGreatDoor

/- UK -/
namespace Go.Proofs.YteclpnfckjfibaaGreatDoor
open Go.RowKit
def zen (ls:List ByteArray):Bool:=ls.all zce && zcg ls
theorem zty (ls:List ByteArray) (i:Nat) (hi:i < ls.length):zen (ls.take (i+1))=(zen (ls.take i) && (zce ls[i] && !memB ls[i] (ls.take i))):=by
 unfold zen
 rw [zf9 ls i hi,List.take_succ_eq_append_getElem hi,List.all_append]
 simp only [List.all_cons,List.all_nil,Bool.and_true]
 generalize (ls.take i).all zce=a
 generalize zce ls[i]=b
 generalize zcg (ls.take i)=c
 generalize memB ls[i] (ls.take i)=d
 revert a b c d
 decide
theorem zrh {ls:List ByteArray} {i:Nat} (hi:i < ls.length) (h:(zce ls[i] && !memB ls[i] (ls.take i))=false):zen ls=false:=by
 rw [Bool.and_eq_false_iff] at h
 unfold zen
 rw [Bool.and_eq_false_iff]
 rcases h with h | h
 ·left
  rw [List.all_eq_false]
  exact ⟨_,List.getElem_mem hi,by rw [h];simp⟩
 ·right
  exact zid hi (by simpa using h)
theorem zws {t:ByteArray} {ts:List ByteArray} (h:memB t ts=true):0≤zcn (zbg t ts):=by
 unfold memB at h
 obtain ⟨k,hk⟩:=Option.isSome_iff_exists.1 h
 rw [hk]
 exact Int.natCast_nonneg k
theorem zwt {t:ByteArray} {ts:List ByteArray} (h:memB t ts=false):zcn (zbg t ts) < 0:=by
 unfold memB at h
 rw [Option.isSome_eq_false_iff,Option.isNone_iff_eq_none] at h
 rw [h]
 decide
set_option maxHeartbeats 6400000 in
set_option maxRecDepth 20000 in
theorem zri (V:Value) (ts:List ByteArray) (W:World) (h:zah zax W (Old W) V ts) (hcap:capK V) (hn:ts.length≤2097152):Calls Tryz.prog 17 #[V] W fun e w'=>e=.returned (.bool (zen ts))∧Below W.heap.size W w':=by
 obtain ⟨p,cap,rfl⟩:=h.slice
 have hcp:=hcap.1 p _ cap rfl
 obtain ⟨n,hl⟩:∃ n,n=ts.length:=⟨_,rfl⟩
 obtain ⟨r,hr⟩:∃ r,r=zen ts:=⟨_,rfl⟩
 rw [← hr,← hl]
 rw [← hl] at hn hcp
 have HC:=Lib.hid h
 have HL:=Lib.hid hl
 have HR:=Lib.hid hr
 clear h hl hr hcap
 go_enter Tryz.func17,Tryz.ntmps17
 go_wp2_with fail
 go_loopg [3] n (fun gg s3 wr=>∃ j:Nat,j+gg=n∧s3=.int .i64 j∧Hid (zen (ts.take j)=true)∧Hid (Below W.heap.size W wr))
 case atStart=>exact ⟨0,by omega,rfl,Lib.hid (by simp [zen,zcg]),Lib.hid (Below.refl _ _)⟩
 case round=>
  obtain ⟨j,hjg,rfl,HA,HB⟩:=hrel
  by_cases hj:(j:Int) < n
  ·have hj1:j < ts.length:=by have:=HL.out;omega
   have HCr:=HC.out.stays (zad HB.out)
   obtain ⟨g,off,cap',c,e0,hg,hrl,hra⟩:=HCr.at_ j hj1
   injection e0 with e1 e2 e3
   subst e1
   obtain ⟨t,hte⟩:∃ t,t=ts[j]:=⟨_,rfl⟩
   obtain ⟨rfl,hwf⟩:=hrl
   have cj:wr.cell? ⟨g,off+j,none⟩=some (.string t):=by
    have:=hra 0 _ rfl
    rw [hte]
    simpa [zax] using this
   have hts:t.size≤2097152:=by rw [hte];exact hwf
   have hpre:zah zax wr (Old wr) (.slice (some ⟨g,off,none⟩) j cap) (ts.take j):=HCr.take j (by omega)
   have hjc:j≤cap:=by omega
   have hjc2:(j:Int)≤cap:=by omega
   have HW:=Lib.hid (fun W'=>zvn t W' (Nat.le_trans hts (by decide)))
   have HI:=Lib.hid (fun W' (b:Below wr.heap.size wr W')=>ztx _ (ts.take j) t _ W' (hpre.stays (zad b)) (by rw [List.length_take];omega))
   obtain ⟨r1,hr1⟩:∃ r1,r1=zce t:=⟨_,rfl⟩
   obtain ⟨z2,hz2⟩:∃ z2,z2=zcn (zbg t (ts.take j)):=⟨_,rfl⟩
   have hp1:=@zws t (ts.take j)
   have hp2:=@zwt t (ts.take j)
   obtain ⟨r2,hr2⟩:∃ r2,r2=memB t (ts.take j):=⟨_,rfl⟩
   rw [← hr1] at HW
   rw [← hz2] at HI hp1 hp2
   rw [← hr2] at hp1 hp2
   have HZ:Hid ((r1 && !r2)=false→r=false):=Lib.hid fun h=>by
    rw [HR.out]
    refine zrh hj1 ?_
    rw [← hte,← hr1,← hr2]
    exact h
   have HY:Hid ((r1 && !r2)=true→zen (ts.take (j+1))=true):=Lib.hid fun h=>by
    rw [zty ts j hj1,HA.out,← hte,← hr1,← hr2,h]
    rfl
   clear hra e2 e3 hte hr1 hr2 hz2 hpre HA hg hwf HCr
   have hB:=HB.out
   have ck:=Below.refl wr.heap.size wr
   clear HB
   cases r1 with
   | false=>
     obtain rfl:r=false:=HZ.out rfl
     clear hp1 hp2
     go_upto_region 4 with fail
     refine wp_region_held_drew (S:=fun W'=>W'.cell? ⟨g,off+j,none⟩=some (.string t)) (by kernel_rfl) cj (fun _=>?_)
     replace cj:wr.drew.cell? ⟨g,off+j,none⟩=_:=cj
     replace hB:=hB.drew
     replace ck:=ck.drew
     generalize wr.drew=wD at*
     refine tg (i:=0) (.slice (some ⟨g,off,none⟩) n cap) rfl (cj) ?_
     refine tg (i:=1) (.int .i64 (j:Int)) rfl (cj) ?_
     refine tg (i:=2) (.pointer (some ⟨g,off+j,none⟩)) rfl (cj) ?_
     refine tk (i:=3) (v:=.string t) rfl (Or.inl ⟨by rfl,fun W' h=>by have c0:=h;go_simp⟩) (cj) ?_
     refine tr 4 rfl (fun K hK=>?_)
     rw [if_pos (by rfl)]
     go_simp
     refine (HW.out _).mono ?_
     rintro e0 w3 ⟨rfl,rfl⟩
     refine hK.out _ _ (cj) (fun _=>?_)
     clear hK K
     try simp only [putS]
     refine tg (i:=5) (.bool true) rfl (cj) ?_
     refine tg (i:=6) (.bool true) rfl (cj) ?_
     refine tn (i:=7) rfl (cj) ?_
     refine tn (i:=8) rfl (cj) ?_
     refine tn (i:=10) rfl (cj) ?_
     refine tn (i:=11) rfl (cj) ?_
     refine tn (i:=9) rfl (cj) ?_
     refine tn (i:=12) rfl (cj) ?_
     refine tn (i:=13) rfl (cj) ?_
     refine tn (i:=14) rfl (cj) ?_
     refine tn (i:=15) rfl (cj) ?_
     refine tg (i:=16) (.bool true) rfl (cj) ?_
     refine wpAnyH_done (by kernel_rfl) ?_ _
     go_wp2_with fail
     go_ret
     exact ⟨rfl,hB⟩
   | true=>
     cases r2 with
     | true=>
       obtain rfl:r=false:=HZ.out rfl
       have hz:0≤z2:=hp1 rfl
       clear hp1 hp2
       go_upto_region 4 with fail
       refine wp_region_held_drew (S:=fun W'=>W'.cell? ⟨g,off+j,none⟩=some (.string t)) (by kernel_rfl) cj (fun _=>?_)
       replace cj:wr.drew.cell? ⟨g,off+j,none⟩=_:=cj
       replace hB:=hB.drew
       replace ck:=ck.drew
       generalize wr.drew=wD at*
       refine tg (i:=0) (.slice (some ⟨g,off,none⟩) n cap) rfl (cj) ?_
       refine tg (i:=1) (.int .i64 (j:Int)) rfl (cj) ?_
       refine tg (i:=2) (.pointer (some ⟨g,off+j,none⟩)) rfl (cj) ?_
       refine tk (i:=3) (v:=.string t) rfl (Or.inl ⟨by rfl,fun W' h=>by have c0:=h;go_simp⟩) (cj) ?_
       refine tr 4 rfl (fun K hK=>?_)
       rw [if_pos (by rfl)]
       go_simp
       refine (HW.out _).mono ?_
       rintro e0 w3 ⟨rfl,rfl⟩
       refine hK.out _ _ (cj) (fun _=>?_)
       clear hK K
       try simp only [putS]
       refine tg (i:=5) (.bool false) rfl (cj) ?_
       refine tg (i:=6) (.bool false) rfl (cj) ?_
       refine tg (i:=7) (.slice (some ⟨g,off,none⟩) n cap) rfl (cj) ?_
       refine tg (i:=8) (.int .i64 (j:Int)) rfl (cj) ?_
       refine tg (i:=10) (.slice (some ⟨g,off,none⟩) n cap) rfl (cj) ?_
       refine tg (i:=11) (.int .i64 (j:Int)) rfl (cj) ?_
       refine tg (i:=9) (.slice (some ⟨g,off,none⟩) j cap) rfl (cj) ?_
       refine tg (i:=12) (.pointer (some ⟨g,off+j,none⟩)) rfl (cj) ?_
       refine tk (i:=13) (v:=.string t) rfl (Or.inl ⟨by rfl,fun W' h=>by have c0:=h;go_simp⟩) (cj) ?_
       refine tr 14 rfl (fun K hK=>?_)
       rw [if_pos (by rfl)]
       go_simp
       refine (HI.out _ ck).mono ?_
       rintro e0 w4 ⟨rfl,rfl⟩
       refine hK.out _ _ (cj) (fun _=>?_)
       clear hK K
       try simp only [putS]
       refine tg (i:=15) (.bool true) rfl (cj) ?_
       refine tg (i:=16) (.bool true) rfl (cj) ?_
       refine wpAnyH_done (by kernel_rfl) ?_ _
       go_wp2_with fail
       go_ret
       exact ⟨rfl,hB⟩
     | false=>
       have hz:¬ 0≤z2:=by have:=hp2 rfl;omega
       clear hp1 hp2
       go_upto_region 4 with fail
       refine wp_region_held_drew (S:=fun W'=>W'.cell? ⟨g,off+j,none⟩=some (.string t)) (by kernel_rfl) cj (fun _=>?_)
       replace cj:wr.drew.cell? ⟨g,off+j,none⟩=_:=cj
       replace hB:=hB.drew
       replace ck:=ck.drew
       generalize wr.drew=wD at*
       refine tg (i:=0) (.slice (some ⟨g,off,none⟩) n cap) rfl (cj) ?_
       refine tg (i:=1) (.int .i64 (j:Int)) rfl (cj) ?_
       refine tg (i:=2) (.pointer (some ⟨g,off+j,none⟩)) rfl (cj) ?_
       refine tk (i:=3) (v:=.string t) rfl (Or.inl ⟨by rfl,fun W' h=>by have c0:=h;go_simp⟩) (cj) ?_
       refine tr 4 rfl (fun K hK=>?_)
       rw [if_pos (by rfl)]
       go_simp
       refine (HW.out _).mono ?_
       rintro e0 w3 ⟨rfl,rfl⟩
       refine hK.out _ _ (cj) (fun _=>?_)
       clear hK K
       try simp only [putS]
       refine tg (i:=5) (.bool false) rfl (cj) ?_
       refine tg (i:=6) (.bool false) rfl (cj) ?_
       refine tg (i:=7) (.slice (some ⟨g,off,none⟩) n cap) rfl (cj) ?_
       refine tg (i:=8) (.int .i64 (j:Int)) rfl (cj) ?_
       refine tg (i:=10) (.slice (some ⟨g,off,none⟩) n cap) rfl (cj) ?_
       refine tg (i:=11) (.int .i64 (j:Int)) rfl (cj) ?_
       refine tg (i:=9) (.slice (some ⟨g,off,none⟩) j cap) rfl (cj) ?_
       refine tg (i:=12) (.pointer (some ⟨g,off+j,none⟩)) rfl (cj) ?_
       refine tk (i:=13) (v:=.string t) rfl (Or.inl ⟨by rfl,fun W' h=>by have c0:=h;go_simp⟩) (cj) ?_
       refine tr 14 rfl (fun K hK=>?_)
       rw [if_pos (by rfl)]
       go_simp
       refine (HI.out _ ck).mono ?_
       rintro e0 w4 ⟨rfl,rfl⟩
       refine hK.out _ _ (cj) (fun _=>?_)
       clear hK K
       try simp only [putS]
       refine tg (i:=15) (.bool false) rfl (cj) ?_
       refine tg (i:=16) (.bool false) rfl (cj) ?_
       refine wpAnyH_done (by kernel_rfl) ?_ _
       have HB3:=Lib.hid hB
       have HA3:=Lib.hid (HY.out rfl)
       clear hB cj ck HW HI HZ HY
       go_wp2_with fail
       go_roundg (gk - 1)
       case measure=>omega
       case rel=>exact ⟨j+1,by omega,by go_num,HA3,HB3⟩
  ·have HZ:Hid (r=true):=Lib.hid (by
    have h:=HA.out
    rw [List.take_of_length_le (by have:=HL.out;omega)] at h
    rw [HR.out,h])
   go_wp2_with fail
   go_ret
   exact ⟨by rw [HZ.out];rfl,HB.out⟩
end Go.Proofs.YteclpnfckjfibaaGreatDoor
