/- Texts of one kind, one behind the other: each says ahead of itself what it shows. -/
import Derived.Test.YtanbgdhmfjgihaaGreatDoorUah
import Derived.Test.YtanbgdhmfjgihaaGreatDoorUac
import Derived.Shelf.Small.Strs
namespace Go.Proofs.YtanbgdhmfjgihaaGreatDoor
open Go.RowKit
set_option maxHeartbeats 12800000
set_option maxRecDepth 20000
def lexI (c d:Int):Int:=if c=0 then d else c
def zaj (l m:List UInt8):Int:=if Op.bytesLess l m then -1 else if Op.bytesLess m l then 1 else 0
def zlx (a b:Bool):Int:=if a=b then 0 else if b then -1 else 1
def zat (lang k:Int):Int:=
 if k=0 then (if lang=1 then 0 else 10) else if k=5 then 1 else if k=6 then 2 else if k=7 then 3 else if k=9 then 4 else if k=8 then 5 else
 if k=10 then 6 else if k=4 then 7 else if k=1 then 8 else if k=2 then 9 else if k=3 then 9 else 11
mutual
def za1 (lang:Int):Val→Val→Int
 | .mk k b n t x l,.mk k2 b2 n2 t2 x2 l2=>
   lexI (cmpZ (zat lang k) (zat lang k2))
    (if k=5 then zbi lang l l2
     else if k=6∨k=7 then cmpZ n n2
     else if k=1 then zlx b b2
     else if k=2∨k=3 then lexI (cmpZ (numV k n t) (numV k2 n2 t2)) (lexI (cmpZ k k2) (if k=3 then zaj t.toList t2.toList else 0))
     else lexI (zaj t.toList t2.toList) (zaj x.toList x2.toList))
def zbi (lang:Int):List Val→List Val→Int
 | [],[]=>0
 | [],_::_=>-1
 | _::_,[]=>1
 | u::r,v::s=>lexI (za1 lang u v) (zbi lang r s)
end
structure Tri (x y z:Int):Prop where
 le:x≤0→y≤0→z≤0
 lt:x < 0→y≤0→z < 0
 tl:x≤0→y < 0→z < 0
 eq:x=0→y=0→z=0
theorem Tri.lex {x y z x2 y2 z2:Int} (h:Tri x y z) (h2:Tri x2 y2 z2):Tri (lexI x x2) (lexI y y2) (lexI z z2):=by
 obtain ⟨a,b,c,d⟩:=h
 obtain ⟨a2,b2,c2,d2⟩:=h2
 constructor <;> unfold lexI <;> intro p q <;> (repeat' split at p) <;> (repeat' split at q) <;> (repeat' split) <;> omega
theorem zct {x y:Int}:lexI (-x) (-y)=-lexI x y:=by
 unfold lexI
 split <;> split <;> omega
theorem zed (a b c:Int):Tri (cmpZ a b) (cmpZ b c) (cmpZ a c):=by
 constructor <;> unfold cmpZ <;> (repeat' split) <;> omega
theorem zvv (a b:Bool):zlx b a=-zlx a b:=by cases a <;> cases b <;> rfl
theorem zyo (a b c:Bool):Tri (zlx a b) (zlx b c) (zlx a c):=by
 cases a <;> cases b <;> cases c <;> constructor <;> decide
theorem zh8 (l m:List UInt8):zaj m l=-zaj l m:=by
 unfold zaj
 cases h:Op.bytesLess l m
 ·cases h2:Op.bytesLess m l <;> simp
 ·rw [zmr _ _ h];simp
theorem zd2:(l m:List UInt8)→Op.bytesLess l m=false→Op.bytesLess m l=false→l=m
 | [],[],_,_=>rfl
 | [],_::_,h,_=>by cases h
 | _::_,[],_,h=>by cases h
 | a::x,b::y,h,g=>by
   unfold Op.bytesLess at h g
   rw [Bool.or_eq_false_iff,decide_eq_false_iff_not,Bool.and_eq_false_iff,beq_eq_false_iff_ne] at h g
   have e:a=b:=by
    have h1:=h.1
    have g1:=g.1
    rw [UInt8.lt_iff_toNat_lt] at h1 g1
    exact UInt8.toNat_inj.1 (by omega)
   subst e
   rcases h.2 with h2 | h2
   ·exact absurd rfl h2
   ·rcases g.2 with g2 | g2
    ·exact absurd rfl g2
    ·rw [zd2 x y h2 g2]
theorem zms:(l m n:List UInt8)→Op.bytesLess l m=true→Op.bytesLess m n=true→Op.bytesLess l n=true
 | [],_,[],_,g=>by
   rename_i m h
   cases m
   ·cases h
   ·cases g
 | [],_,_::_,_,_=>rfl
 | _::_,[],_,h,_=>by cases h
 | _::_,_::_,[],_,g=>by cases g
 | a::x,b::y,c::z,h,g=>by
   unfold Op.bytesLess at h g ⊢
   rw [Bool.or_eq_true,Bool.and_eq_true,decide_eq_true_eq,beq_iff_eq] at h g ⊢
   rw [UInt8.lt_iff_toNat_lt] at h g ⊢
   rcases h with h | ⟨rfl,h⟩
   ·rcases g with g | ⟨rfl,g⟩
    ·exact .inl (by omega)
    ·exact .inl h
   ·rcases g with g | ⟨rfl,g⟩
    ·exact .inl g
    ·exact .inr ⟨rfl,zms x y z h g⟩
theorem zk2 (a b c:List UInt8):Tri (zaj a b) (zaj b c) (zaj a c):=by
 rcases h1:Op.bytesLess a b with _ | _
 ·rcases h2:Op.bytesLess b a with _ | _
  ·obtain rfl:=zd2 a b h1 h2
   have e:zaj a a=0:=by unfold zaj;rw [zfy];simp
   rw [e]
   constructor <;> intros <;> omega
  ·have e:zaj a b=1:=by unfold zaj;rw [h1,h2];simp
   rw [e]
   constructor <;> intros <;> omega
 ·have e:zaj a b=-1:=by unfold zaj;rw [h1];simp
  rw [e]
  rcases h3:Op.bytesLess b c with _ | _
  ·rcases h4:Op.bytesLess c b with _ | _
   ·obtain rfl:=zd2 b c h3 h4
    rw [e]
    constructor <;> intros <;> omega
   ·have e2:zaj b c=1:=by unfold zaj;rw [h3,h4];simp
    rw [e2]
    constructor <;> intros <;> omega
  ·have e3:zaj a c=-1:=by unfold zaj;rw [zms a b c h1 h3];simp
   rw [e3]
   constructor <;> intros <;> omega
theorem Tri.lexIf {x y z x2 y2 z2:Int} (h:Tri x y z) (h2:x=0→y=0→Tri x2 y2 z2):Tri (lexI x x2) (lexI y y2) (lexI z z2):=by
 by_cases e:x=0∧y=0
 ·exact h.lex (h2 e.1 e.2)
 ·obtain ⟨a,b,c,d⟩:=h
  constructor <;> unfold lexI <;> intro p q <;> (repeat' split at p) <;> (repeat' split at q) <;> (repeat' split) <;> omega
theorem zcg {a b:Int} (h:cmpZ a b=0):a=b:=by
 unfold cmpZ at h
 (repeat' split at h) <;> omega
theorem zd3 (a:Int):cmpZ a a=0:=by unfold cmpZ;(repeat' split) <;> omega
theorem zbj (d:Int):lexI 0 d=d:=rfl
theorem zhq {c:Int} (h:c≠0) (d e:Int):lexI c d=lexI c e:=by unfold lexI;rw [if_neg h,if_neg h]
theorem rank5 (lang k:Int):zat lang k=1↔k=5:=by unfold zat;(repeat' split) <;> omega
theorem zsm (lang k:Int):(zat lang k=2∨zat lang k=3)↔(k=6∨k=7):=by unfold zat;(repeat' split) <;> omega
theorem zvw (lang k:Int):zat lang k=8↔k=1:=by unfold zat;(repeat' split) <;> omega
theorem zsn (lang k:Int):zat lang k=9↔(k=2∨k=3):=by unfold zat;(repeat' split) <;> omega
theorem zee {lang k k2:Int} (h:zat lang k=zat lang k2):(k=5↔k2=5)∧((k=6∨k=7)↔(k2=6∨k2=7))∧(k=1↔k2=1)∧((k=2∨k=3)↔(k2=2∨k2=3)):=by
 rw [← rank5 lang k,← rank5 lang k2,← zsm lang k,← zsm lang k2,← zvw lang k,← zvw lang k2,← zsn lang k,← zsn lang k2,h]
 exact ⟨.rfl,.rfl,.rfl,.rfl⟩
def zbw (k n:Int) (b:Bool) (t x:ByteArray) (k2 n2:Int) (b2:Bool) (t2 x2:ByteArray):Int:=
 if k=6∨k=7 then cmpZ n n2
 else if k=1 then zlx b b2
 else if k=2∨k=3 then lexI (cmpZ (numV k n t) (numV k2 n2 t2)) (lexI (cmpZ k k2) (if k=3 then zaj t.toList t2.toList else 0))
 else lexI (zaj t.toList t2.toList) (zaj x.toList x2.toList)
theorem zcu (lang:Int) (k:Int) (b:Bool) (n:Int) (t x:ByteArray) (l:List Val) (k2:Int) (b2:Bool) (n2:Int) (t2 x2:ByteArray) (l2:List Val):za1 lang (.mk k b n t x l) (.mk k2 b2 n2 t2 x2 l2)=
 lexI (cmpZ (zat lang k) (zat lang k2)) (if k=5 then zbi lang l l2 else zbw k n b t x k2 n2 b2 t2 x2):=by
 unfold za1 zbw
 rfl
theorem zvx {lang k k2:Int} (h:zat lang k=zat lang k2) (n:Int) (b:Bool) (t x:ByteArray) (n2:Int) (b2:Bool) (t2 x2:ByteArray):zbw k2 n2 b2 t2 x2 k n b t x=-zbw k n b t x k2 n2 b2 t2 x2:=by
 obtain ⟨_,c2,c3,c4⟩:=zee h
 unfold zbw
 by_cases h2:k=6∨k=7
 ·rw [if_pos h2,if_pos (c2.1 h2),zcf]
 ·rw [if_neg h2,if_neg (fun e=>h2 (c2.2 e))]
  by_cases h3:k=1
  ·rw [if_pos h3,if_pos (c3.1 h3),zvv]
  ·rw [if_neg h3,if_neg (fun e=>h3 (c3.2 e))]
   by_cases h4:k=2∨k=3
   ·rw [if_pos h4,if_pos (c4.1 h4)]
    by_cases e:k=k2
    ·subst e
     by_cases h5:k=3
     ·rw [if_pos h5,if_pos h5,zd3,zbj,zbj,← zct,← zcf,← zh8]
     ·rw [if_neg h5,if_neg h5,zd3,zbj,← zct,← zcf,Int.neg_zero]
    ·have d:cmpZ k k2≠0:=fun z=>e (zcg z)
     have d2:cmpZ k2 k≠0:=fun z=>e (zcg z).symm
     rw [zhq d _ (-0),zhq d2 _ (- -0),zcf (numV k n t),zcf k k2,zct,zct]
   ·rw [if_neg h4,if_neg (fun e=>h4 (c4.2 e)),zh8 t.toList,zh8 x.toList,zct]
theorem zvy {lang k k2 k3:Int} (h:zat lang k=zat lang k2) (n:Int) (b:Bool) (t x:ByteArray) (n2:Int) (b2:Bool) (t2 x2:ByteArray) (n3:Int) (b3:Bool) (t3 x3:ByteArray):
 Tri (zbw k n b t x k2 n2 b2 t2 x2) (zbw k2 n2 b2 t2 x2 k3 n3 b3 t3 x3) (zbw k n b t x k3 n3 b3 t3 x3):=by
 obtain ⟨_,c2,c3,c4⟩:=zee h
 unfold zbw
 by_cases h2:k=6∨k=7
 ·rw [if_pos h2,if_pos (c2.1 h2),if_pos h2]
  exact zed _ _ _
 ·rw [if_neg h2,if_neg (fun e=>h2 (c2.2 e)),if_neg h2]
  by_cases h3:k=1
  ·rw [if_pos h3,if_pos (c3.1 h3),if_pos h3]
   exact zyo _ _ _
  ·rw [if_neg h3,if_neg (fun e=>h3 (c3.2 e)),if_neg h3]
   by_cases h4:k=2∨k=3
   ·rw [if_pos h4,if_pos (c4.1 h4),if_pos h4]
    refine (zed _ _ _).lex ((zed k k2 k3).lexIf fun e e'=>?_)
    obtain rfl:=zcg e
    by_cases h5:k=3
    ·rw [if_pos h5,if_pos h5,if_pos h5]
     exact zk2 _ _ _
    ·rw [if_neg h5,if_neg h5,if_neg h5]
     constructor <;> intros <;> omega
   ·rw [if_neg h4,if_neg (fun e=>h4 (c4.2 e)),if_neg h4]
    exact (zk2 _ _ _).lex (zk2 _ _ _)
mutual
theorem zbn (lang:Int):(v v2:Val)→za1 lang v2 v=-za1 lang v v2
 | .mk k b n t x l,.mk k2 b2 n2 t2 x2 l2=>by
   rw [zcu,zcu]
   by_cases h:zat lang k=zat lang k2
   ·rw [h,zd3,zbj,zbj]
    have c:=(zee h).1
    by_cases h5:k=5
    ·rw [if_pos h5,if_pos (c.1 h5)]
     exact zo5 lang l l2
    ·rw [if_neg h5,if_neg (fun e=>h5 (c.2 e))]
     exact zvx h _ _ _ _ _ _ _ _
   ·have d:cmpZ (zat lang k) (zat lang k2)≠0:=fun z=>h (zcg z)
    have d2:cmpZ (zat lang k2) (zat lang k)≠0:=fun z=>h (zcg z).symm
    rw [zhq d _ (-0),zhq d2 _ (- -0),zcf (zat lang k),zct]
theorem zo5 (lang:Int):(l m:List Val)→zbi lang m l=-zbi lang l m
 | [],[]=>by unfold zbi;rfl
 | [],_::_=>by unfold zbi;rfl
 | _::_,[]=>by unfold zbi;rfl
 | u::r,v::s=>by
   unfold zbi
   rw [zbn lang u v,zo5 lang r s,zct]
end
mutual
theorem zco (lang:Int):(v v2 v3:Val)→Tri (za1 lang v v2) (za1 lang v2 v3) (za1 lang v v3)
 | .mk k b n t x l,.mk k2 b2 n2 t2 x2 l2,.mk k3 b3 n3 t3 x3 l3=>by
   rw [zcu,zcu,zcu]
   refine (zed _ _ _).lexIf fun e e'=>?_
   have h:=zcg e
   have c:=(zee h).1
   by_cases h5:k=5
   ·rw [if_pos h5,if_pos (c.1 h5),if_pos h5]
    exact zo6 lang l l2 l3
   ·rw [if_neg h5,if_neg (fun e=>h5 (c.2 e)),if_neg h5]
    exact zvy h _ _ _ _ _ _ _ _ _ _ _ _
theorem zo6 (lang:Int):(l l2 l3:List Val)→Tri (zbi lang l l2) (zbi lang l2 l3) (zbi lang l l3)
 | [],[],[]=>by unfold zbi;constructor <;> intros <;> omega
 | [],[],_::_=>by unfold zbi;constructor <;> intros <;> omega
 | [],_::_,[]=>by unfold zbi;constructor <;> intros <;> omega
 | [],_::_,_::_=>by
   unfold zbi
   constructor <;> intros <;> omega
 | _::_,[],[]=>by unfold zbi;constructor <;> intros <;> omega
 | _::_,[],_::_=>by unfold zbi;constructor <;> intros <;> omega
 | _::_,_::_,[]=>by
   unfold zbi
   constructor <;> intros <;> omega
 | u::r,v::s,z::q=>by
   unfold zbi
   exact (zco lang u v z).lex (zo6 lang r s q)
end
theorem ze1 {c d:Int} (h:lexI c d=0):c=0∧d=0:=by
 unfold lexI at h
 split at h
 ·exact ⟨‹_›,h⟩
 ·exact absurd h ‹_›
theorem zef {l m:List UInt8} (h:zaj l m=0):l=m:=by
 unfold zaj at h
 cases h1:Op.bytesLess l m
 ·cases h2:Op.bytesLess m l
  ·exact zd2 l m h1 h2
  ·rw [h1,h2] at h;simp at h
 ·rw [h1] at h;simp at h
theorem zih {t:ByteArray} (h:t.size=0):t=⟨#[]⟩:=by
 obtain ⟨⟨l⟩⟩:=t
 cases l with
 | nil=>rfl
 | cons a r=>exact absurd h (by simp [ByteArray.size])
theorem zbu {b:Bool} {n:Int} {t x:ByteArray} {len:Nat} (h:zbl b n t x len=true):b=false∧n=0∧t=⟨#[]⟩∧x=⟨#[]⟩∧len=0:=by
 unfold zbl at h
 simp only [Bool.and_eq_true,Bool.not_eq_true',decide_eq_true_eq] at h
 exact ⟨h.1.1.1.1,h.1.1.1.2,zih h.1.1.2,zih h.1.2,h.2⟩
theorem zmt (n:Int) (t:ByteArray):numV 2 n t=n*10 ^ 54:=by unfold numV;rw [if_pos rfl]
theorem rank0 (lang k:Int):(zat lang k=0∨zat lang k=10)↔k=0:=by unfold zat;(repeat' split) <;> omega
theorem rank4 (lang k:Int):zat lang k=7↔k=4:=by unfold zat;(repeat' split) <;> omega
theorem rank6 (lang k:Int):zat lang k=2↔k=6:=by unfold zat;(repeat' split) <;> omega
theorem rank7 (lang k:Int):zat lang k=3↔k=7:=by unfold zat;(repeat' split) <;> omega
theorem rank8 (lang k:Int):zat lang k=5↔k=8:=by unfold zat;(repeat' split) <;> omega
theorem rank9 (lang k:Int):zat lang k=4↔k=9:=by unfold zat;(repeat' split) <;> omega
theorem z0f (lang k:Int):zat lang k=6↔k=10:=by unfold zat;(repeat' split) <;> omega
theorem zt7 (lang:Int) (k:Int) (b:Bool) (n:Int) (t x:ByteArray) (len:Nat) (r:Bool) (k2:Int) (b2:Bool) (n2:Int) (t2 x2:ByteArray) (len2:Nat) (r2:Bool) (er:zat lang k=zat lang k2) (h5:¬ k=5)
 (m:zbh k b n t x len r=true) (m2:zbh k2 b2 n2 t2 x2 len2 r2=true) (hi:zbw k n b t x k2 n2 b2 t2 x2=0):k=k2∧b=b2∧n=n2∧t.toList=t2.toList∧x.toList=x2.toList∧len=0∧len2=0:=by
 by_cases h0:k=0
 ·have e:=(rank0 lang k2).1 (er ▸ (rank0 lang k).2 h0)
  subst h0 e
  unfold zbh at m m2
  rw [if_pos rfl] at m m2
  obtain ⟨rfl,rfl,rfl,rfl,rfl⟩:=zbu m
  obtain ⟨rfl,rfl,rfl,rfl,rfl⟩:=zbu m2
  exact ⟨rfl,rfl,rfl,rfl,rfl,rfl,rfl⟩
 by_cases h1:k=1
 ·have e:=(zvw lang k2).1 (er ▸ (zvw lang k).2 h1)
  subst h1 e
  unfold zbh at m m2
  rw [if_neg (by decide),if_pos rfl] at m m2
  obtain ⟨_,rfl,rfl,rfl,rfl⟩:=zbu m
  obtain ⟨_,rfl,rfl,rfl,rfl⟩:=zbu m2
  unfold zbw at hi
  rw [if_neg (by decide),if_pos rfl] at hi
  have eb:b=b2:=by cases b <;> cases b2 <;> first | rfl |(exact absurd hi (by decide))
  exact ⟨rfl,eb,rfl,rfl,rfl,rfl,rfl⟩
 by_cases h6:k=6∨k=7
 ·have e:k2=k:=by
   rcases h6 with h | h
   ·rw [h];exact (rank6 lang k2).1 (er ▸ (rank6 lang k).2 h)
   ·rw [h];exact (rank7 lang k2).1 (er ▸ (rank7 lang k).2 h)
  subst e
  unfold zbw at hi
  rw [if_pos h6] at hi
  obtain rfl:=zcg hi
  unfold zbh at m m2
  rw [if_neg h0,if_neg h1,if_neg (by omega),if_neg (by omega),if_neg (by omega),if_neg h5,if_pos h6,Bool.and_eq_true] at m m2
  obtain ⟨rfl,_,rfl,rfl,rfl⟩:=zbu m.2
  obtain ⟨rfl,_,rfl,rfl,rfl⟩:=zbu m2.2
  exact ⟨rfl,rfl,rfl,rfl,rfl,rfl,rfl⟩
 by_cases h2:k=2∨k=3
 ·unfold zbw at hi
  rw [if_neg h6,if_neg h1,if_pos h2] at hi
  obtain ⟨hn,hk⟩:=ze1 hi
  obtain ⟨hk,ht⟩:=ze1 hk
  have ek:=zcg hk
  subst ek
  by_cases h3:k=3
  ·subst h3
   rw [if_pos rfl] at ht
   have et:=zef ht
   unfold zbh at m m2
   rw [if_neg h0,if_neg h1,if_neg (by decide),if_pos rfl,Bool.and_eq_true] at m m2
   obtain ⟨rfl,rfl,_,rfl,rfl⟩:=zbu m.2
   obtain ⟨rfl,rfl,_,rfl,rfl⟩:=zbu m2.2
   exact ⟨rfl,rfl,rfl,et,rfl,rfl,rfl⟩
  ·obtain rfl:k=2:=by omega
   rw [zmt,zmt,zmq] at hn
   obtain rfl:=zcg hn
   unfold zbh at m m2
   rw [if_neg h0,if_neg h1,if_pos rfl] at m m2
   obtain ⟨rfl,_,rfl,rfl,rfl⟩:=zbu m
   obtain ⟨rfl,_,rfl,rfl,rfl⟩:=zbu m2
   exact ⟨rfl,rfl,rfl,rfl,rfl,rfl,rfl⟩
 unfold zbw at hi
 rw [if_neg h6,if_neg h1,if_neg h2] at hi
 obtain ⟨ht,hx⟩:=ze1 hi
 have et:=zef ht
 have ex:=zef hx
 have n2:¬ k=2:=fun e=>h2 (.inl e)
 have n3:¬ k=3:=fun e=>h2 (.inr e)
 have e:k2=k:=by
  by_cases a4:k=4
  ·rw [a4];exact (rank4 lang k2).1 (er ▸ (rank4 lang k).2 a4)
  by_cases a8:k=8
  ·rw [a8];exact (rank8 lang k2).1 (er ▸ (rank8 lang k).2 a8)
  by_cases a9:k=9
  ·rw [a9];exact (rank9 lang k2).1 (er ▸ (rank9 lang k).2 a9)
  by_cases a10:k=10
  ·rw [a10];exact (z0f lang k2).1 (er ▸ (z0f lang k).2 a10)
  unfold zbh at m
  rw [if_neg h0,if_neg h1,if_neg n2,if_neg n3,if_neg a4,if_neg h5,if_neg h6,if_neg a8,if_neg a9,if_neg a10] at m
  cases m
 subst e
 unfold zbh at m m2
 rw [if_neg h0,if_neg h1,if_neg n2,if_neg n3] at m m2
 by_cases a4:k2=4
 ·rw [if_pos a4,Bool.and_eq_true] at m m2
  obtain ⟨rfl,rfl,_,rfl,rfl⟩:=zbu m.2
  obtain ⟨rfl,rfl,_,rfl,rfl⟩:=zbu m2.2
  exact ⟨rfl,rfl,rfl,et,rfl,rfl,rfl⟩
 rw [if_neg a4,if_neg h5,if_neg h6] at m m2
 by_cases a8:k2=8
 ·rw [if_pos a8,Bool.and_eq_true] at m m2
  obtain ⟨rfl,rfl,_,rfl,rfl⟩:=zbu m.2
  obtain ⟨rfl,rfl,_,rfl,rfl⟩:=zbu m2.2
  exact ⟨rfl,rfl,rfl,et,rfl,rfl,rfl⟩
 rw [if_neg a8] at m m2
 by_cases a9:k2=9
 ·rw [if_pos a9,Bool.and_eq_true] at m m2
  obtain ⟨rfl,rfl,_,rfl,rfl⟩:=zbu m.2
  obtain ⟨rfl,rfl,_,rfl,rfl⟩:=zbu m2.2
  exact ⟨rfl,rfl,rfl,et,rfl,rfl,rfl⟩
 rw [if_neg a9] at m m2
 by_cases a10:k2=10
 ·rw [if_pos a10,Bool.and_eq_true,Bool.and_eq_true] at m m2
  obtain ⟨rfl,rfl,_,_,rfl⟩:=zbu m.2.2
  obtain ⟨rfl,rfl,_,_,rfl⟩:=zbu m2.2.2
  exact ⟨rfl,rfl,rfl,et,ex,rfl,rfl⟩
 rw [if_neg a10] at m
 cases m
mutual
theorem zd4 (lang:Int):(v v2:Val)→(d d2:Nat)→mayP v d=true→mayP v2 d2=true→za1 lang v v2=0→za7 v v2=true
 | .mk k b n t x l,.mk k2 b2 n2 t2 x2 l2,d,d2,m,m2,h=>by
   rw [zcu] at h
   obtain ⟨hr,hi⟩:=ze1 h
   have er:=zcg hr
   unfold mayP at m m2
   unfold za7
   by_cases h5:k=5
   ·have h52:=(zee er).1.1 h5
    subst h5 h52
    rw [if_pos rfl] at hi
    unfold zbh at m m2
    simp only [show ¬ (5:Int)=0 from by decide,show ¬ (5:Int)=1 from by decide,show ¬ (5:Int)=2 from by decide,show ¬ (5:Int)=3 from by decide,show ¬ (5:Int)=4 from by decide,if_true,if_false,Bool.and_eq_true] at m m2
    obtain ⟨⟨_,me⟩,mb⟩:=m
    obtain ⟨⟨_,me2⟩,mb2⟩:=m2
    obtain ⟨rfl,rfl,rfl,rfl,_⟩:=zbu mb
    obtain ⟨rfl,rfl,rfl,rfl,_⟩:=zbu mb2
    obtain ⟨e1,e2⟩:=zo7 lang l l2 _ _ me me2 hi
    simp [e1,e2]
   ·rw [if_neg h5] at hi
    obtain ⟨rfl,rfl,rfl,et,ex,l0,l20⟩:=zt7 lang k b n t x l.length _ k2 b2 n2 t2 x2 l2.length _ er h5 m m2 hi
    obtain rfl:=List.length_eq_zero_iff.1 l0
    obtain rfl:=List.length_eq_zero_iff.1 l20
    simp [et,ex,za3]
theorem zo7 (lang:Int):(l l2:List Val)→(d d2:Nat)→zea l d=true→zea l2 d2=true→zbi lang l l2=0→l.length=l2.length∧za3 l l2=true
 | [],[],_,_,_,_,_=>by unfold za3;exact ⟨rfl,rfl⟩
 | [],_::_,_,_,_,_,h=>by unfold zbi at h;omega
 | _::_,[],_,_,_,_,h=>by unfold zbi at h;omega
 | u::r,v::s,d,d2,m,m2,h=>by
   unfold zbi at h
   unfold zea at m m2
   rw [Bool.and_eq_true] at m m2
   obtain ⟨h1,h2⟩:=ze1 h
   have a:=zd4 lang u v d d2 m.1 m2.1 h1
   obtain ⟨e1,e2⟩:=zo7 lang r s d d2 m.2 m2.2 h2
   unfold za3
   rw [a,e2]
   exact ⟨by simp [e1],rfl⟩
end
theorem zvz (t:ByteArray):(n i:Nat)→(r:List UInt8)→n=t.size - i→ByteArray.toList.loop t i r=r.reverse++t.data.toList.drop i
 | 0,i,r,h=>by
   unfold ByteArray.toList.loop
   rw [if_neg (by omega)]
   have:t.data.toList.length≤i:=by rw [Array.length_toList];show t.size≤i;omega
   rw [List.drop_eq_nil_of_le this,List.append_nil]
 | n+1,i,r,h=>by
   have hi:i < t.size:=by omega
   unfold ByteArray.toList.loop
   rw [if_pos hi,zvz t n (i+1) _ (by omega)]
   have hl:i < t.data.toList.length:=by rw [Array.length_toList];exact hi
   rw [List.drop_eq_getElem_cons hl,List.reverse_cons,List.append_assoc]
   have e:t.get! i=t.data.toList[i]:=by
    obtain ⟨d⟩:=t
    have h2:i < d.size:=hi
    show d[i]! =d.toList[i]
    rw [getElem!_pos d i h2]
    simp
   rw [e]
   rfl
theorem zbk (t:ByteArray):t.toList=t.data.toList:=by
 unfold ByteArray.toList
 rw [zvz t _ 0 [] rfl]
 simp
theorem zq1 (l:List UInt8):zaj l l=0:=by unfold zaj;rw [zfy];rfl
theorem z0g (lang k:Int) (b:Bool) (n:Int) (t x:ByteArray) (p:Option Addr) (len cap:Nat) (w:World):
 Calls Tryz.prog 136 #[.int .i64 lang,.agg #[.int .i64 k,.bool b,.int .i64 n,.string t,.string x,.slice p len cap]] w fun e w'=>e=.returned (.int .i64 (zat lang k))∧Low w.heap.size w w':=by
 have S:=zah (k:=k) (b:=b) (n:=n) (t:=t) (x:=x) (p:=p) (len:=len) (cap:=cap) w rfl
 have b0:=low1 w (.cells #[.int .i64 k,.bool b,.int .i64 n,.string t,.string x,.slice p len cap] 39)
 by_cases h0:k=0
 ·subst h0
  by_cases hl:lang=1
  ·subst hl
   rw [show zat 1 0=0 from rfl]
   go_enter Tryz.func136,Tryz.ntmps136
   go_wp2_with (first
    |((with_reducible refine zaa (.tmp 3) w.heap.size S ?_ ?_ ?_ ?_);rfl;rfl;rfl)
    |(go_at_call 107;(with_reducible refine (zas 0 b n t x _ 145 rfl _).mono ?_);rintro e w2 ⟨rfl,hb2⟩;have b2:=zad b0 hb2 b0.size;clear hb2)
    |(simp only [zi6,Result.andThen_ok]))
   go_ret
   exact ⟨rfl,b2⟩
  ·rw [show zat lang 0=10 by unfold zat;rw [if_pos rfl,if_neg hl]]
   go_enter Tryz.func136,Tryz.ntmps136
   go_wp2_with (first
    |((with_reducible refine zaa (.tmp 3) w.heap.size S ?_ ?_ ?_ ?_);rfl;rfl;rfl)
    |(go_at_call 107;(with_reducible refine (zas 0 b n t x _ 145 rfl _).mono ?_);rintro e w2 ⟨rfl,hb2⟩;have b2:=zad b0 hb2 b0.size;clear hb2)
    |(simp only [zi6,Result.andThen_ok]))
   go_ret
   exact ⟨rfl,b2⟩
 by_cases h1:k=1
 ·subst h1
  rw [show zat lang 1=8 from rfl]
  go_enter Tryz.func136,Tryz.ntmps136
  go_wp2_with (first
   |((with_reducible refine zaa (.tmp 3) w.heap.size S ?_ ?_ ?_ ?_);rfl;rfl;rfl)
   |(go_at_call 107;(with_reducible refine (zas 1 b n t x _ 146 rfl _).mono ?_);rintro e w2 ⟨rfl,hb2⟩;have b2:=zad b0 hb2 b0.size;clear hb2)
   |(simp only [zoj,zjb,zjd,zje,zok,zol,zom,zon,zjg,Result.andThen_ok]))
  go_ret
  exact ⟨rfl,b2⟩
 by_cases h2:k=2
 ·subst h2
  rw [show zat lang 2=9 from rfl]
  go_enter Tryz.func136,Tryz.ntmps136
  go_wp2_with (first
   |((with_reducible refine zaa (.tmp 3) w.heap.size S ?_ ?_ ?_ ?_);rfl;rfl;rfl)
   |(go_at_call 107;(with_reducible refine (zas 2 b n t x _ 147 rfl _).mono ?_);rintro e w2 ⟨rfl,hb2⟩;have b2:=zad b0 hb2 b0.size;clear hb2)
   |(simp only [zoo,zjh,zji,zjj,zjk,zjl,zop,zoq,zor,zos,zjm,Result.andThen_ok]))
  go_ret
  exact ⟨rfl,b2⟩
 by_cases h3:k=3
 ·subst h3
  rw [show zat lang 3=9 from rfl]
  go_enter Tryz.func136,Tryz.ntmps136
  go_wp2_with (first
   |((with_reducible refine zaa (.tmp 3) w.heap.size S ?_ ?_ ?_ ?_);rfl;rfl;rfl)
   |(go_at_call 107;(with_reducible refine (zas 3 b n t x _ 150 rfl _).mono ?_);rintro e w2 ⟨rfl,hb2⟩;have b2:=zad b0 hb2 b0.size;clear hb2)
   |(simp only [zjx,zgp,zgq,zgr,zgs,zgt,zjy,zjz,zj0,zj1,zgu,Result.andThen_ok]))
  go_ret
  exact ⟨rfl,b2⟩
 by_cases h4:k=4
 ·subst h4
  rw [show zat lang 4=7 from rfl]
  go_enter Tryz.func136,Tryz.ntmps136
  go_wp2_with (first
   |((with_reducible refine zaa (.tmp 3) w.heap.size S ?_ ?_ ?_ ?_);rfl;rfl;rfl)
   |(go_at_call 107;(with_reducible refine (zas 4 b n t x _ 151 rfl _).mono ?_);rintro e w2 ⟨rfl,hb2⟩;have b2:=zad b0 hb2 b0.size;clear hb2)
   |(simp only [zj2,zgx,zgy,zj3,zj4,zj5,zj6,zg0,Result.andThen_ok]))
  go_ret
  exact ⟨rfl,b2⟩
 by_cases h5:k=5
 ·subst h5
  rw [show zat lang 5=1 from rfl]
  go_enter Tryz.func136,Tryz.ntmps136
  go_wp2_with (first
   |((with_reducible refine zaa (.tmp 3) w.heap.size S ?_ ?_ ?_ ?_);rfl;rfl;rfl)
   |(go_at_call 107;(with_reducible refine (zas 5 b n t x _ 155 rfl _).mono ?_);rintro e w2 ⟨rfl,hb2⟩;have b2:=zad b0 hb2 b0.size;clear hb2)
   |(simp only [zkh,zhn,Result.andThen_ok]))
  go_ret
  exact ⟨rfl,b2⟩
 by_cases h6:k=6
 ·subst h6
  rw [show zat lang 6=2 from rfl]
  go_enter Tryz.func136,Tryz.ntmps136
  go_wp2_with (first
   |((with_reducible refine zaa (.tmp 3) w.heap.size S ?_ ?_ ?_ ?_);rfl;rfl;rfl)
   |(go_at_call 107;(with_reducible refine (zas 6 b n t x _ 148 rfl _).mono ?_);rintro e w2 ⟨rfl,hb2⟩;have b2:=zad b0 hb2 b0.size;clear hb2)
   |(simp only [zjn,zgf,zgi,Result.andThen_ok]))
  go_ret
  exact ⟨rfl,b2⟩
 by_cases h7:k=7
 ·subst h7
  rw [show zat lang 7=3 from rfl]
  go_enter Tryz.func136,Tryz.ntmps136
  go_wp2_with (first
   |((with_reducible refine zaa (.tmp 3) w.heap.size S ?_ ?_ ?_ ?_);rfl;rfl;rfl)
   |(go_at_call 107;(with_reducible refine (zas 7 b n t x _ 149 rfl _).mono ?_);rintro e w2 ⟨rfl,hb2⟩;have b2:=zad b0 hb2 b0.size;clear hb2)
   |(simp only [zjs,zgl,zgm,zgo,Result.andThen_ok]))
  go_ret
  exact ⟨rfl,b2⟩
 by_cases h8:k=8
 ·subst h8
  rw [show zat lang 8=5 from rfl]
  go_enter Tryz.func136,Tryz.ntmps136
  go_wp2_with (first
   |((with_reducible refine zaa (.tmp 3) w.heap.size S ?_ ?_ ?_ ?_);rfl;rfl;rfl)
   |(go_at_call 107;(with_reducible refine (zas 8 b n t x _ 152 rfl _).mono ?_);rintro e w2 ⟨rfl,hb2⟩;have b2:=zad b0 hb2 b0.size;clear hb2)
   |(simp only [zj7,zg3,zg4,zj9,zka,zg6,Result.andThen_ok]))
  go_ret
  exact ⟨rfl,b2⟩
 by_cases h9:k=9
 ·subst h9
  rw [show zat lang 9=4 from rfl]
  go_enter Tryz.func136,Tryz.ntmps136
  go_wp2_with (first
   |((with_reducible refine zaa (.tmp 3) w.heap.size S ?_ ?_ ?_ ?_);rfl;rfl;rfl)
   |(go_at_call 107;(with_reducible refine (zas 9 b n t x _ 153 rfl _).mono ?_);rintro e w2 ⟨rfl,hb2⟩;have b2:=zad b0 hb2 b0.size;clear hb2)
   |(simp only [zkc,zg9,zha,zkf,zhc,Result.andThen_ok]))
  go_ret
  exact ⟨rfl,b2⟩
 by_cases h10:k=10
 ·subst h10
  rw [show zat lang 10=6 from rfl]
  go_enter Tryz.func136,Tryz.ntmps136
  go_wp2_with (first
   |((with_reducible refine zaa (.tmp 3) w.heap.size S ?_ ?_ ?_ ?_);rfl;rfl;rfl)
   |(go_at_call 107;(with_reducible refine (zas 10 b n t x _ 154 rfl _).mono ?_);rintro e w2 ⟨rfl,hb2⟩;have b2:=zad b0 hb2 b0.size;clear hb2)
   |(simp only [zhd,zet,zeu,zhf,zhg,zhh,zew,Result.andThen_ok]))
  go_ret
  exact ⟨rfl,b2⟩
 have hk:zlw k=188:=by unfold zlw;simp [h0,h1,h2,h3,h4,h5,h6,h7,h8,h9,h10]
 rw [show zat lang k=11 by unfold zat;simp [h0,h1,h2,h3,h4,h5,h6,h7,h8,h9,h10]]
 go_enter Tryz.func136,Tryz.ntmps136
 go_wp2_with (first
  |((with_reducible refine zaa (.tmp 3) w.heap.size S ?_ ?_ ?_ ?_);rfl;rfl;rfl)
  |(go_at_call 107;(with_reducible refine (zas k b n t x _ 188 hk.symm _).mono ?_);rintro e w2 ⟨rfl,hb2⟩;have b2:=zad b0 hb2 b0.size;clear hb2)
  |(simp only [zot,zkm,zkn,zko,zkp,zkq,zou,zov,zow,zox,zkr,Result.andThen_ok]))
 go_ret
 exact ⟨rfl,b2⟩
theorem zo8 (a b:Bool) (w:World):Calls Tryz.prog 168 #[.bool a,.bool b] w fun e w'=>e=.returned (.int .i64 (zlx a b))∧w'=w:=by
 cases a <;> cases b
 all_goals
  go_enter Tryz.func168,Tryz.ntmps168
  go_wp2_with fail
  go_ret
  exact ⟨rfl,rfl⟩
theorem ze2:(l m:List UInt8)→Lib.compareBytes l m=zaj l m
 | [],[]=>by rfl
 | [],_::_=>by unfold Lib.compareBytes zaj;rfl
 | _::_,[]=>by unfold Lib.compareBytes zaj;rfl
 | a::x,b::y=>by
   unfold Lib.compareBytes
   rw [ze2 x y]
   unfold zaj
   rw [show Op.bytesLess (a::x) (b::y)=(decide (a < b) || (a == b && Op.bytesLess x y)) from rfl,show Op.bytesLess (b::y) (a::x)=(decide (b < a) || (b == a && Op.bytesLess y x)) from rfl]
   by_cases h:a < b
   ·simp [h]
   ·by_cases g:b < a
    ·have e:a≠b:=by
      intro e
      subst e
      exact h g
     simp [h,g,e]
    ·have e:a=b:=by
      rw [UInt8.lt_iff_toNat_lt] at h g
      exact UInt8.toNat_inj.1 (by omega)
     subst e
     simp [h]
def Tryz.lays106_ren:Go.Shelf.Ren:=⟨fun | 106=>171 | 213=>184 | 265=>195 | n=>n,fun | n=>n,fun | n=>n⟩
theorem Tryz.lays106:Go.Proofs.Lays.n106 Tryz.prog Tryz.lays106_ren:={
 mixed:=by kernel_rfl
 f106:=Tryz.func171.trans (congrArg some (by kernel_rfl))
 f213:=Tryz.func184.trans (congrArg some (by kernel_rfl))
 f265:=Tryz.func195.trans (congrArg some (by kernel_rfl))
 t3:=Tryz.underlying3
 a3:=Tryz.isAgg3
 z3:=Tryz.sizeOf3
 v3:=Tryz.zeroValue3
 t9:=Tryz.underlying9
 a9:=Tryz.isAgg9
 z9:=Tryz.sizeOf9
 v9:=Tryz.zeroValue9 }
theorem zcb (a b:ByteArray) (w:World):Calls Tryz.prog 171 #[.string a,.string b] w fun e w'=>e=.returned (.int .i64 (zaj a.toList b.toList))∧w'=w:=by
 rw [zbk,zbk,← ze2]
 exact Any.strings_Compare Tryz.lays106 a b w
theorem orAt (c d:Int) (g:Nat) (w:World) (h0:w.cell? ⟨g,0,none⟩=some (.int .i64 c)) (h1:w.cell? ⟨g,1,none⟩=some (.int .i64 d)):
 Calls Tryz.prog 170 #[.slice (some ⟨g,0,none⟩) 2 2] w fun e w'=>e=.returned (.int .i64 (lexI c d))∧w'=w:=by
 obtain ⟨r,hr⟩:∃ r,r=lexI c d:=⟨_,rfl⟩
 rw [← hr]
 have HR:=Lib.hid hr
 clear hr
 go_enter Tryz.func170,Tryz.ntmps170
 go_wp2_with fail
 go_loopw [8] (fun i wr=>wr=w∧∃ j:Nat,i=.int .i64 j∧(j=0∨(j=1∧c=0)∨(j=2∧c=0∧d=0))) (fun i _=>2 - (intOf i).toNat)
 case atStart=>exact ⟨rfl,0,rfl,.inl rfl⟩
 case round=>
  obtain ⟨rfl,j,rfl,rfl | ⟨rfl,hc⟩ | ⟨rfl,hc,hd⟩⟩:=hrel
  ·by_cases hc:c=0
   ·have e2:(c != 0)=false:=by simp [hc]
    go_wp2_with fail
    go_roundw
    case rel=>exact ⟨trivial,1,by go_num,.inr (.inl ⟨rfl,hc⟩)⟩
    case measure=>simp [intOf]
   ·have e2:(c != 0)=true:=by simpa using hc
    go_wp2_with fail
    go_ret
    exact ⟨by rw [HR.out,lexI,if_neg hc];rfl,rfl⟩
  ·by_cases hd:d=0
   ·have e2:(d != 0)=false:=by simp [hd]
    go_wp2_with fail
    go_roundw
    case rel=>exact ⟨trivial,2,by go_num,.inr (.inr ⟨rfl,hc,hd⟩)⟩
    case measure=>simp [intOf]
   ·have e2:(d != 0)=true:=by simpa using hd
    go_wp2_with fail
    go_ret
    exact ⟨by rw [HR.out,lexI,if_pos hc];rfl,rfl⟩
  ·go_wp2_with fail
   go_ret
   exact ⟨by rw [HR.out,lexI,if_pos hc,hd];rfl,rfl⟩
theorem zv0 (k:Int) (b:Bool) (n:Int) (t x:ByteArray) (p:Option Addr) (len cap:Nat) (k2:Int) (b2:Bool) (n2:Int) (t2 x2:ByteArray) (p2:Option Addr) (len2 cap2:Nat) (w:World) (hG:Gd w) (hT:Tab w) (hf:Fine n t x len) (hf2:Fine n2 t2 x2 len2) (hk:k=2∨k=3) (hk2:k2=2∨k2=3):
 Calls Tryz.prog 169 #[.agg #[.int .i64 k,.bool b,.int .i64 n,.string t,.string x,.slice p len cap],.agg #[.int .i64 k2,.bool b2,.int .i64 n2,.string t2,.string x2,.slice p2 len2 cap2]] w fun e w'=>e=.returned (.int .i64 (lexI (cmpZ (numV k n t) (numV k2 n2 t2)) (lexI (cmpZ k k2) (if k=3 then zaj t.toList t2.toList else 0))))∧Low w.heap.size w w':=by
 obtain ⟨W0,hW0⟩:∃ W0,W0=(w.alloc (.cells #[.int .i64 k,.bool b,.int .i64 n,.string t,.string x,.slice p len cap] 39)).alloc (.cells #[.int .i64 k2,.bool b2,.int .i64 n2,.string t2,.string x2,.slice p2 len2 cap2] 39):=⟨_,rfl⟩
 have S4:Six W0 w.heap.size k b n t x p len cap:=by rw [hW0];exact (zah _ rfl).alloc _
 have S5:Six W0 (w.heap.size+1) k2 b2 n2 t2 x2 p2 len2 cap2:=by rw [hW0];exact zah _ (by simp)
 have b0:Low w.heap.size w W0:=by rw [hW0];exact low2 _ _ _
 have hN:=fun W (h:Low w.heap.size w W)=>zvu k b n t x p len cap k2 b2 n2 t2 x2 p2 len2 cap2 W (hG.below h.is) (hT.below h.is) hf hf2
 have hB2:=fun W=>zi5 2 k b n t x (.slice p len cap) k2 b2 n2 t2 x2 (.slice p2 len2 cap2) W
 have hB3:=fun W=>zi5 3 k b n t x (.slice p len cap) k2 b2 n2 t2 x2 (.slice p2 len2 cap2) W
 have hS:=fun W=>zcb t t2 W
 have H0:=Lib.hid hW0
 clear hf hf2 hG hT hW0
 generalize cmpZ (numV k n t) (numV k2 n2 t2)=c at hN ⊢
 generalize zaj t.toList t2.toList=s at hS ⊢
 obtain ⟨r2,hr2⟩:∃ r,r=(k == 2 && k2 == 2):=⟨_,rfl⟩
 obtain ⟨r3,hr3⟩:∃ r,r=(k == 3 && k2 == 3):=⟨_,rfl⟩
 rw [← hr2] at hB2
 rw [← hr3] at hB3
 by_cases hc:c=0
 ·subst hc
  rw [zbj]
  rcases hk with rfl | rfl <;> rcases hk2 with rfl | rfl
  ·obtain rfl:r2=true:=hr2
   obtain rfl:r3=false:=hr3
   rw [show lexI (cmpZ 2 2) (if (2:Int)=3 then s else 0)=0 from rfl]
   go_enter Tryz.func169,Tryz.ntmps169
   go_wp2_with (first
    |(rw [← H0.out];(with_reducible refine zaa (.tmp 2) w.heap.size S4 ?_ ?_ ?_ ?_);rfl;rfl;rfl)
    |((with_reducible refine zaa (.tmp 2) w.heap.size S4 ?_ ?_ ?_ ?_);rfl;rfl;rfl)
    |((with_reducible refine zaa (.tmp 3) (w.heap.size+1) S5 ?_ ?_ ?_ ?_);rfl;rfl;rfl)
    |((with_reducible refine zae (.tmp 2) w.heap.size S4 ?_ ?_ ?_ ?_);rfl;rfl;rfl)
    |((with_reducible refine zae (.tmp 3) (w.heap.size+1) S5 ?_ ?_ ?_ ?_);rfl;rfl;rfl)
    |(go_at_call 182;(with_reducible refine (hN _ b0).mono ?_);rintro e w' ⟨rfl,hb⟩;replace S4:=S4.below hb.is;replace S5:=S5.below hb.is;replace b0:=zad b0 hb b0.size;have f3:=S4.c3;have g3:=S5.c3;have f0:=S4.c0;clear hb)
    |(go_at_call 183;(with_reducible refine (hB2 _).mono ?_);rintro e w' ⟨rfl,hb⟩;replace S4:=S4.below hb.is;replace S5:=S5.below hb.is;replace b0:=zad b0 hb b0.size;have f3:=S4.c3;have g3:=S5.c3;have f0:=S4.c0;clear hb)
    |(go_at_call 183;(with_reducible refine (hB3 _).mono ?_);rintro e w' ⟨rfl,hb⟩;replace S4:=S4.below hb.is;replace S5:=S5.below hb.is;replace b0:=zad b0 hb b0.size;have f3:=S4.c3;have g3:=S5.c3;have f0:=S4.c0;clear hb)
    |(go_at_call 171;(with_reducible refine (hS _).mono ?_);rintro e w' ⟨rfl,rfl⟩))
   go_ret
   exact ⟨rfl,b0⟩
  ·obtain rfl:r2=false:=hr2
   obtain rfl:r3=false:=hr3
   rw [show lexI (cmpZ 2 3) (if (2:Int)=3 then s else 0)=-1 from rfl]
   go_enter Tryz.func169,Tryz.ntmps169
   go_wp2_with (first
    |(rw [← H0.out];(with_reducible refine zaa (.tmp 2) w.heap.size S4 ?_ ?_ ?_ ?_);rfl;rfl;rfl)
    |((with_reducible refine zaa (.tmp 2) w.heap.size S4 ?_ ?_ ?_ ?_);rfl;rfl;rfl)
    |((with_reducible refine zaa (.tmp 3) (w.heap.size+1) S5 ?_ ?_ ?_ ?_);rfl;rfl;rfl)
    |((with_reducible refine zae (.tmp 2) w.heap.size S4 ?_ ?_ ?_ ?_);rfl;rfl;rfl)
    |((with_reducible refine zae (.tmp 3) (w.heap.size+1) S5 ?_ ?_ ?_ ?_);rfl;rfl;rfl)
    |(go_at_call 182;(with_reducible refine (hN _ b0).mono ?_);rintro e w' ⟨rfl,hb⟩;replace S4:=S4.below hb.is;replace S5:=S5.below hb.is;replace b0:=zad b0 hb b0.size;have f3:=S4.c3;have g3:=S5.c3;have f0:=S4.c0;clear hb)
    |(go_at_call 183;(with_reducible refine (hB2 _).mono ?_);rintro e w' ⟨rfl,hb⟩;replace S4:=S4.below hb.is;replace S5:=S5.below hb.is;replace b0:=zad b0 hb b0.size;have f3:=S4.c3;have g3:=S5.c3;have f0:=S4.c0;clear hb)
    |(go_at_call 183;(with_reducible refine (hB3 _).mono ?_);rintro e w' ⟨rfl,hb⟩;replace S4:=S4.below hb.is;replace S5:=S5.below hb.is;replace b0:=zad b0 hb b0.size;have f3:=S4.c3;have g3:=S5.c3;have f0:=S4.c0;clear hb)
    |(go_at_call 171;(with_reducible refine (hS _).mono ?_);rintro e w' ⟨rfl,rfl⟩))
   go_ret
   exact ⟨rfl,b0⟩
  ·obtain rfl:r2=false:=hr2
   obtain rfl:r3=false:=hr3
   rw [show lexI (cmpZ 3 2) (if (3:Int)=3 then s else 0)=1 from rfl]
   go_enter Tryz.func169,Tryz.ntmps169
   go_wp2_with (first
    |(rw [← H0.out];(with_reducible refine zaa (.tmp 2) w.heap.size S4 ?_ ?_ ?_ ?_);rfl;rfl;rfl)
    |((with_reducible refine zaa (.tmp 2) w.heap.size S4 ?_ ?_ ?_ ?_);rfl;rfl;rfl)
    |((with_reducible refine zaa (.tmp 3) (w.heap.size+1) S5 ?_ ?_ ?_ ?_);rfl;rfl;rfl)
    |((with_reducible refine zae (.tmp 2) w.heap.size S4 ?_ ?_ ?_ ?_);rfl;rfl;rfl)
    |((with_reducible refine zae (.tmp 3) (w.heap.size+1) S5 ?_ ?_ ?_ ?_);rfl;rfl;rfl)
    |(go_at_call 182;(with_reducible refine (hN _ b0).mono ?_);rintro e w' ⟨rfl,hb⟩;replace S4:=S4.below hb.is;replace S5:=S5.below hb.is;replace b0:=zad b0 hb b0.size;have f3:=S4.c3;have g3:=S5.c3;have f0:=S4.c0;clear hb)
    |(go_at_call 183;(with_reducible refine (hB2 _).mono ?_);rintro e w' ⟨rfl,hb⟩;replace S4:=S4.below hb.is;replace S5:=S5.below hb.is;replace b0:=zad b0 hb b0.size;have f3:=S4.c3;have g3:=S5.c3;have f0:=S4.c0;clear hb)
    |(go_at_call 183;(with_reducible refine (hB3 _).mono ?_);rintro e w' ⟨rfl,hb⟩;replace S4:=S4.below hb.is;replace S5:=S5.below hb.is;replace b0:=zad b0 hb b0.size;have f3:=S4.c3;have g3:=S5.c3;have f0:=S4.c0;clear hb)
    |(go_at_call 171;(with_reducible refine (hS _).mono ?_);rintro e w' ⟨rfl,rfl⟩))
   go_ret
   exact ⟨rfl,b0⟩
  ·obtain rfl:r2=false:=hr2
   obtain rfl:r3=true:=hr3
   rw [show lexI (cmpZ 3 3) (if (3:Int)=3 then s else 0)=s from rfl]
   go_enter Tryz.func169,Tryz.ntmps169
   go_wp2_with (first
    |(rw [← H0.out];(with_reducible refine zaa (.tmp 2) w.heap.size S4 ?_ ?_ ?_ ?_);rfl;rfl;rfl)
    |((with_reducible refine zaa (.tmp 2) w.heap.size S4 ?_ ?_ ?_ ?_);rfl;rfl;rfl)
    |((with_reducible refine zaa (.tmp 3) (w.heap.size+1) S5 ?_ ?_ ?_ ?_);rfl;rfl;rfl)
    |((with_reducible refine zae (.tmp 2) w.heap.size S4 ?_ ?_ ?_ ?_);rfl;rfl;rfl)
    |((with_reducible refine zae (.tmp 3) (w.heap.size+1) S5 ?_ ?_ ?_ ?_);rfl;rfl;rfl)
    |(go_at_call 182;(with_reducible refine (hN _ b0).mono ?_);rintro e w' ⟨rfl,hb⟩;replace S4:=S4.below hb.is;replace S5:=S5.below hb.is;replace b0:=zad b0 hb b0.size;have f3:=S4.c3;have g3:=S5.c3;have f0:=S4.c0;clear hb)
    |(go_at_call 183;(with_reducible refine (hB2 _).mono ?_);rintro e w' ⟨rfl,hb⟩;replace S4:=S4.below hb.is;replace S5:=S5.below hb.is;replace b0:=zad b0 hb b0.size;have f3:=S4.c3;have g3:=S5.c3;have f0:=S4.c0;clear hb)
    |(go_at_call 183;(with_reducible refine (hB3 _).mono ?_);rintro e w' ⟨rfl,hb⟩;replace S4:=S4.below hb.is;replace S5:=S5.below hb.is;replace b0:=zad b0 hb b0.size;have f3:=S4.c3;have g3:=S5.c3;have f0:=S4.c0;clear hb)
    |(go_at_call 171;(with_reducible refine (hS _).mono ?_);rintro e w' ⟨rfl,rfl⟩))
   go_ret
   exact ⟨rfl,b0⟩
 ·rw [show lexI c (lexI (cmpZ k k2) (if k=3 then s else 0))=c from if_neg hc]
  have hc2:(c != 0)=true:=by simpa using hc
  clear hk hk2 hr2 hr3 hc
  go_enter Tryz.func169,Tryz.ntmps169
  go_wp2_with (first
   |(rw [← H0.out];(with_reducible refine zaa (.tmp 2) w.heap.size S4 ?_ ?_ ?_ ?_);rfl;rfl;rfl)
   |((with_reducible refine zaa (.tmp 2) w.heap.size S4 ?_ ?_ ?_ ?_);rfl;rfl;rfl)
   |((with_reducible refine zaa (.tmp 3) (w.heap.size+1) S5 ?_ ?_ ?_ ?_);rfl;rfl;rfl)
   |((with_reducible refine zae (.tmp 2) w.heap.size S4 ?_ ?_ ?_ ?_);rfl;rfl;rfl)
   |((with_reducible refine zae (.tmp 3) (w.heap.size+1) S5 ?_ ?_ ?_ ?_);rfl;rfl;rfl)
   |(go_at_call 182;(with_reducible refine (hN _ b0).mono ?_);rintro e w' ⟨rfl,hb⟩;replace S4:=S4.below hb.is;replace S5:=S5.below hb.is;replace b0:=zad b0 hb b0.size;have f3:=S4.c3;have g3:=S5.c3;have f0:=S4.c0;clear hb)
   |(go_at_call 183;(with_reducible refine (hB2 _).mono ?_);rintro e w' ⟨rfl,hb⟩;replace S4:=S4.below hb.is;replace S5:=S5.below hb.is;replace b0:=zad b0 hb b0.size;have f3:=S4.c3;have g3:=S5.c3;have f0:=S4.c0;clear hb)
   |(go_at_call 183;(with_reducible refine (hB3 _).mono ?_);rintro e w' ⟨rfl,hb⟩;replace S4:=S4.below hb.is;replace S5:=S5.below hb.is;replace b0:=zad b0 hb b0.size;have f3:=S4.c3;have g3:=S5.c3;have f0:=S4.c0;clear hb)
   |(go_at_call 171;(with_reducible refine (hS _).mono ?_);rintro e w' ⟨rfl,rfl⟩))
  go_ret
  exact ⟨rfl,b0⟩
end Go.Proofs.YtanbgdhmfjgihaaGreatDoor
