/-
  What the plain functions are. No condition.
-/
import Derived.Test.YtcbkcblkecmjnaaGreatx4S1
import Derived.Test.YtcbkcblkecmjnaaGreatx4K2
namespace Go.Proofs.YtcbkcblkecmjnaaGreat
open Go
def cont (c:UInt8):Bool:=decide (128≤c.toNat∧c.toNat<192)
def is1:List UInt8→Bool
 | a::_=>decide (a.toNat<128)
 | _=>false
def is2:List UInt8→Bool
 | a::b::_=>decide (194≤a.toNat∧a.toNat<224∧cont b=true)
 | _=>false
def is3:List UInt8→Bool
 | a::b::c::_=>decide (224≤a.toNat∧a.toNat<240∧cont b=true∧cont c=true∧(a.toNat=224→160≤b.toNat)∧(a.toNat=237→b.toNat<160))
 | _=>false
def is4:List UInt8→Bool
 | a::b::c::d::_=>decide (240≤a.toNat∧a.toNat<245∧cont b=true∧cont c=true∧cont d=true∧(a.toNat=240→144≤b.toNat)∧(a.toNat=244→b.toNat<144))
 | _=>false
def nxt (l:List UInt8):Nat:=if is1 l then 1 else if is2 l then 2 else if is3 l then 3 else if is4 l then 4 else 0
def isN (n:Nat) (l:List UInt8):Bool:=match n with
 | 1=>is1 l
 | 2=>is2 l
 | 3=>is3 l
 | 4=>is4 l
 | _=>false
theorem zio {n:Nat} {l:List UInt8} (h:isN n l=true):∃a t,l=a::t∧n≤l.length∧(n=1∧a.toNat<128∨n=2∧194≤a.toNat∧a.toNat<224∨n=3∧224≤a.toNat∧a.toNat<240∨n=4∧240≤a.toNat):=by
 match n,l with
 | 1,a::t=>simp only [isN,is1,decide_eq_true_eq] at h;exact ⟨a,t,rfl,by simp,.inl ⟨rfl,h⟩⟩
 | 2,a::b::t=>simp only [isN,is2,decide_eq_true_eq] at h;exact ⟨a,_,rfl,by simp,.inr (.inl ⟨rfl,h.1,h.2.1⟩)⟩
 | 3,a::b::c::t=>simp only [isN,is3,decide_eq_true_eq] at h;exact ⟨a,_,rfl,by simp,.inr (.inr (.inl ⟨rfl,h.1,h.2.1⟩))⟩
 | 4,a::b::c::d::t=>simp only [isN,is4,decide_eq_true_eq] at h;exact ⟨a,_,rfl,by simp,.inr (.inr (.inr ⟨rfl,h.1⟩))⟩
 | 0,_=>cases h
 | 1,[]=>cases h
 | 2,[]=>cases h
 | 2,[_]=>cases h
 | 3,[]=>cases h
 | 3,[_]=>cases h
 | 3,[_,_]=>cases h
 | 4,[]=>cases h
 | 4,[_]=>cases h
 | 4,[_,_]=>cases h
 | 4,[_,_,_]=>cases h
 | _+5,_=>cases h
theorem zCI {n m:Nat} {l:List UInt8} (h:isN n l=true) (h':isN m l=true):n=m:=by
 obtain ⟨a,t,e,_,g⟩:=zio h
 obtain ⟨a',t',e',_,g'⟩:=zio h'
 rw [e] at e'
 cases e'
 omega
theorem zEj {n:Nat} {l:List UInt8} (h:isN n l=true):nxt l=n:=by
 obtain ⟨_,_,_,_,g⟩:=zio h
 have k:∀m,m≠n→isN m l=false:=fun m hm=>by
  cases hh:isN m l with
  | false=>rfl
  | true=>exact absurd (zCI hh h) hm
 have hn:n=1∨n=2∨n=3∨n=4:=by omega
 rcases hn with rfl| rfl| rfl| rfl
 ·simp only [isN] at h;simp [nxt,h]
 ·have j1:=k 1 (by omega);simp only [isN] at h j1;simp [nxt,h,j1]
 ·have j1:=k 1 (by omega);have j2:=k 2 (by omega);simp only [isN] at h j1 j2;simp [nxt,h,j1,j2]
 ·have j1:=k 1 (by omega);have j2:=k 2 (by omega);have j3:=k 3 (by omega);simp only [isN] at h j1 j2 j3;simp [nxt,h,j1,j2,j3]
theorem zqp {l:List UInt8} (h:nxt l≠0):isN (nxt l) l=true:=by
 unfold nxt at h⊢
 by_cases h1:is1 l=true
 ·simp [h1,isN]
 ·by_cases h2:is2 l=true
  ·simp [h1,h2,isN]
  ·by_cases h3:is3 l=true
   ·simp [h1,h2,h3,isN]
   ·by_cases h4:is4 l=true
    ·simp [h1,h2,h3,h4,isN]
    ·simp [h1,h2,h3,h4] at h
theorem zrq (l:List UInt8):nxt l≤l.length:=by
 by_cases h:nxt l=0
 ·omega
 ·obtain ⟨_,_,_,g,_⟩:=zio (zqp h);exact g
theorem zCZ (l:List UInt8):nxt l≤4:=by
 by_cases h:nxt l=0
 ·omega
 ·obtain ⟨_,_,_,_,g⟩:=zio (zqp h);omega
def fst4 (m:Int) (l:List UInt8):Nat×Nat:=
 if h:nxt l=0∨(nxt l:Int)>m then (0,0) else (nxt l+(fst4 (m - nxt l) (l.drop (nxt l))).1,(fst4 (m - nxt l) (l.drop (nxt l))).2+1)
termination_by l.length
decreasing_by all_goals (have:=zrq l;simp only [List.length_drop];omega)
theorem zoH {m:Int} {l:List UInt8} (h:nxt l=0∨(nxt l:Int)>m):fst4 m l=(0,0):=by rw [fst4,dif_pos h]
theorem zup {m:Int} {l:List UInt8} (h:¬(nxt l=0∨(nxt l:Int)>m)):fst4 m l=(nxt l+(fst4 (m - nxt l) (l.drop (nxt l))).1,(fst4 (m - nxt l) (l.drop (nxt l))).2+1):=by rw [fst4,dif_neg h]
def pre4 (l:List UInt8):Nat×Nat:=fst4 l.length l
theorem zAL {m:Int} {l:List UInt8} (h:(l.length:Int)≤m):fst4 m l=pre4 l:=by
 have key:∀(n:Nat) (l:List UInt8) (m m':Int),l.length=n→(l.length:Int)≤m→(l.length:Int)≤m'→fst4 m l=fst4 m' l:=by
  intro n
  induction n using Nat.strongRecOn with
  | _ n ih=>
   intro l m m' hn hm hm'
   have hle:=zrq l
   by_cases h:nxt l=0
   ·rw [zoH (.inl h),zoH (.inl h)]
   ·rw [zup (m:=m) (l:=l) (by omega),zup (m:=m') (l:=l) (by omega),ih _ (by simp only [List.length_drop];omega) (l.drop (nxt l)) (m - nxt l) (m' - nxt l) rfl (by simp only [List.length_drop];omega) (by simp only [List.length_drop];omega)]
 exact key _ l m l.length rfl h (Int.le_refl _)
theorem zzJ {l:List UInt8} (h:nxt l=0):pre4 l=(0,0):=zoH (.inl h)
theorem zDe {l:List UInt8} (h:nxt l≠0):pre4 l=(nxt l+(pre4 (l.drop (nxt l))).1,(pre4 (l.drop (nxt l))).2+1):=by
 have hle:=zrq l
 unfold pre4
 rw [zup (by omega),zAL (m:=(l.length:Int) - nxt l) (by simp only [List.length_drop];omega)]
 rfl
theorem zBG (P:List UInt8→Prop) (h0:∀l,nxt l=0→P l) (h1:∀l,nxt l≠0→P (l.drop (nxt l))→P l) (l:List UInt8):P l:=by
 generalize hn:l.length=n
 induction n using Nat.strongRecOn generalizing l with
 | _ n ih=>
  by_cases h:nxt l=0
  ·exact h0 l h
  ·have:=zrq l
   exact h1 l h (ih _ (by simp only [List.length_drop];omega) _ rfl)
def zey (l:List UInt8):Bool:=decide ((pre4 l).1=l.length)
end Go.Proofs.YtcbkcblkecmjnaaGreat
namespace Go.Proofs.YtcbkcblkecmjnaaGreat
open Go
def enc (v:Nat):List UInt8:=if v<128 then [UInt8.ofNat v] else UInt8.ofNat (128+v%128)::enc (v/128)
termination_by v
decreasing_by omega
def scan:Nat→Nat→List UInt8→Unit⊕(Int×Int×Int)
 | _,_,[]=> .inl ()
 | i,acc,c::t=>if i=9∧1<c.toNat then .inr (0,0,4) else if c.toNat<128 then .inr (((acc+c.toNat%128*128^i:Nat):Int),((i+1:Nat):Int),0) else scan (i+1) (acc+c.toNat%128*128^i) t
def rdR:Unit⊕(Int×Int×Int)→Int×Int×Int
 | .inl _=>(0,0,3)
 | .inr r=>r
def rd (b:List UInt8):Int×Int×Int:=rdR (scan 0 0 (b.take 10))
def hor:List UInt8→Nat
 | []=>0
 | c::t=>c.toNat%128+128*hor t
def lead:Nat→List UInt8→Nat
 | 0,_=>0
 | _+1,[]=>0
 | k+1,c::t=>if 128≤c.toNat then lead k t+1 else 0
theorem zDL (i:Nat):2^(7*i)=128^i:=by rw [Nat.pow_mul]
theorem zCz (c:Nat):c&&&127=c%128:=Nat.and_two_pow_sub_one_eq_mod c 7
theorem zzM {acc i c:Nat} (hi:i≤9) (hacc:acc<128^i) (hc:c<256) (h9:i=9→c≤1):
  orI .u64 (acc:Int) (shlI .u64 (IntKind.u64.wrap (andI .u8 (c:Int) 127)) ((7*i:Nat):Int))=((acc+c%128*128^i:Nat):Int):=by
 have e1:andI .u8 (c:Int) 127=((c%128:Nat):Int):=by
  have:=zvg (k:= .u8) rfl (a:=c) (b:=127) (by simpa [IntKind.bits] using hc) (by simp [IntKind.bits])
  rw [zCz] at this;exact this
 have hp:128^i≤128^9:=Nat.pow_le_pow_right (by omega) hi
 have hlt:c%128*128^i<18446744073709551616:=by
  by_cases h:i=9
  ·subst h
   have:=h9 rfl
   have h2:c%128≤1:=by omega
   have:=Nat.mul_le_mul_right (128^9) h2
   omega
  ·have h3:128^i≤128^8:=Nat.pow_le_pow_right (by omega) (by omega)
   have:=Nat.mul_le_mul (show c%128≤127 by omega) h3
   omega
 have e2:shlI .u64 (IntKind.u64.wrap ((c%128:Nat):Int)) ((7*i:Nat):Int)=((c%128*128^i:Nat):Int):=by
  unfold shlI
  rw [zoq rfl (by simp [IntKind.bits];omega),Int.toNat_natCast,Nat.min_eq_left (by simp [IntKind.bits];omega)]
  have h4:((c%128:Nat):Int)*2^(7*i)=((c%128*128^i:Nat):Int):=by rw [←zDL];push_cast;rfl
  rw [h4]
  exact zoq rfl (by simpa [IntKind.bits] using hlt)
 rw [e1,e2,zyK rfl (by simp [IntKind.bits];omega) (by simpa [IntKind.bits] using hlt)]
 congr 1
 rw [←zDL] at hacc⊢
 exact zvZ _ _ _ hacc
theorem zzL:∀(t:List UInt8) (v:List UInt8) (i acc:Nat),v.drop i=t→i+t.length=v.length→v.length≤10→acc<128^i→zep v acc i=some (scan i acc t):=by
 intro t
 induction t with
 | nil=>
  intro v i acc _ hl _ _
  refine zfR ?_
  unfold zbK
  rw [itF (by simp at hl⊢;omega)]
  rfl
 | cons c t ih=>
  intro v i acc hd hl hv hacc
  simp only [List.length_cons] at hl
  have hget:v[i]'(by omega)=c:=by
   have h1:v.drop i=v[i]'(by omega)::v.drop (i+1):=List.drop_eq_getElem_cons (by omega)
   rw [hd] at h1;exact (List.cons.inj h1).1.symm
  have hd':v.drop (i+1)=t:=by rw [←List.drop_drop,hd];rfl
  have hc:=c.toNat_lt
  have hb:zbK v acc i=if i=9∧1<c.toNat then some (.inr (.inr (0,0,4))) else if c.toNat<128 then some (.inr (.inr (((acc+c.toNat%128*128^i:Nat):Int),((i+1:Nat):Int),0))) else some (.inl (((acc+c.toNat%128*128^i:Nat):Int),((i+1:Nat):Int))):=by
   unfold zbK
   rw [itT (by simp;omega),zan rfl (show i<v.length by omega),sb,hget]
   by_cases h9:i=9∧1<c.toNat
   ·rw [if_pos h9,itT (by simp;omega)]
   ·rw [if_neg h9,itF (by simp;omega),zW (by omega)]
    have e:((7:Int)*(i:Int))=((7*i:Nat):Int):=by push_cast;rfl
    rw [e,zwn,sb,zzM (by omega) hacc (by omega) (by omega),zW (by omega)]
    by_cases h8:c.toNat<128
    ·rw [if_pos h8,itT (by simp;omega)];push_cast;rfl
    ·rw [if_neg h8,itF (by simp;omega)];push_cast;rfl
  rw [scan]
  split at hb
  ·rename_i h9;rw [if_pos h9];exact zfR hb
  ·rename_i h9
   rw [if_neg h9]
   split at hb
   ·rename_i h8;rw [if_pos h8];exact zfR hb
   ·rename_i h8
    rw [if_neg h8,zng hb]
    refine ih v (i+1) _ hd' (by omega) hv ?_
    rw [Nat.pow_succ]
    have:=Nat.mul_le_mul_right (128^i) (show c.toNat%128≤127 by omega)
    omega
theorem zqv (b:List UInt8):zeu b=some (rd b):=by
 unfold zeu rd
 have e:(if (10:Int)<(b.length:Int) then (10:Int) else (b.length:Int))=((min 10 b.length:Nat):Int):=by split<;>omega
 have e2:b.take (min 10 b.length)=b.take 10:=by rw [List.take_eq_take_iff];omega
 rw [e,zqP rfl (by omega),sb,e2]
 have h:=zzL (b.take 10) (b.take 10) 0 0 rfl (by simp) (by simp;omega) (by simp)
 have h':zep (b.take 10) 0 0=some (scan 0 0 (b.take 10)):=h
 rw [h',sb]
 cases scan 0 0 (b.take 10)<;>rfl
theorem zyS (b:List UInt8):zge b=some ((rd b).2.1,(rd b).2.2):=by unfold zge;rw [zqv,sb]
theorem zyy:∀(k:Nat) (l:List UInt8),lead k l≤k∧lead k l≤l.length
 | 0,_=>⟨Nat.le_refl _,Nat.zero_le _⟩
 | _+1,[]=>⟨Nat.zero_le _,Nat.le_refl _⟩
 | k+1,c::t=>by
  have:=zyy k t
  rw [lead];split<;>simp<;>omega
theorem zzU:∀(l:List UInt8) (i acc:Nat),i+l.length≤10→i≤9→
  scan i acc l=if i+lead (10 - i) l=10 then .inr (0,0,4) else if lead (10 - i) l=l.length then .inl () else if i+lead (10 - i) l=9∧1<(l.getD (lead (10 - i) l) 0).toNat then .inr (0,0,4) else
   .inr (((acc+hor (l.take (lead (10 - i) l+1))*128^i:Nat):Int),((i+lead (10 - i) l+1:Nat):Int),0):=by
 intro l
 induction l with
 | nil=>
  intro i acc _ hi
  obtain ⟨k,hk⟩:∃k,10 - i=k+1:=⟨9 - i,by omega⟩
  rw [hk]
  simp only [lead,scan,List.length_nil]
  rw [if_neg (by omega),if_pos trivial]
 | cons c t ih=>
  intro i acc hl hi
  obtain ⟨k,hk⟩:∃k,10 - i=k+1:=⟨9 - i,by omega⟩
  simp only [List.length_cons] at hl
  rw [scan]
  by_cases hc:128≤c.toNat
  ·have e:lead (10 - i) (c::t)=lead k t+1:=by rw [hk,lead,if_pos hc]
   rw [e]
   by_cases h9:i=9
   ·have:k=0:=by omega
    subst this
    rw [if_pos ⟨h9,by omega⟩,lead,if_pos (by omega)]
   ·rw [if_neg (by omega),if_neg (by omega),ih (i+1) _ (by omega) (by omega),show 10 - (i+1)=k by omega]
    by_cases h1:i+1+lead k t=10
    ·rw [if_pos h1,if_pos (show i+(lead k t+1)=10 by omega)]
    ·rw [if_neg h1,if_neg (show ¬i+(lead k t+1)=10 by omega)]
     by_cases h2:lead k t=t.length
     ·rw [if_pos h2,if_pos (show lead k t+1=(c::t).length by simp;omega)]
     ·rw [if_neg h2,if_neg (show ¬lead k t+1=(c::t).length by simp;omega)]
      have eg:(c::t).getD (lead k t+1) 0=t.getD (lead k t) 0:=by simp [List.getD]
      rw [eg]
      by_cases h3:i+1+lead k t=9∧1<(t.getD (lead k t) 0).toNat
      ·rw [if_pos h3,if_pos (show i+(lead k t+1)=9∧1<(t.getD (lead k t) 0).toNat by omega)]
      ·rw [if_neg h3,if_neg (show ¬(i+(lead k t+1)=9∧1<(t.getD (lead k t) 0).toNat) by omega)]
       rw [List.take_succ_cons,hor,Nat.pow_succ]
       have e5:acc+c.toNat%128*128^i+hor (t.take (lead k t+1))*(128^i*128)=acc+(c.toNat%128+128*hor (t.take (lead k t+1)))*128^i:=by
        rw [Nat.add_mul,Nat.mul_assoc 128,Nat.mul_comm (128^i) 128,←Nat.mul_assoc,Nat.mul_comm _ 128,Nat.mul_assoc];omega
       rw [e5]
       congr 3
       omega
  ·have e:lead (10 - i) (c::t)=0:=by rw [hk,lead,if_neg hc]
   rw [e]
   simp only [Nat.add_zero,List.length_cons,List.getD_cons_zero]
   rw [if_neg (show ¬i=10 by omega),if_neg (show ¬0=t.length+1 by omega)]
   by_cases h9:i=9∧1<c.toNat
   ·rw [if_pos h9,if_pos h9]
   ·rw [if_neg h9,if_neg h9,if_pos (show c.toNat<128 by omega)]
    simp [hor]
theorem zxd (x y:List UInt8):hor (x++y)=hor x+128^x.length*hor y:=by
 induction x with
 | nil=>simp [hor]
 | cons c t ih=>simp only [List.cons_append,hor,ih,List.length_cons,Nat.pow_succ,Nat.mul_add];rw [Nat.mul_comm (128^t.length) 128,Nat.mul_assoc];omega
theorem zAN (l:List UInt8):hor l<128^l.length:=by
 induction l with
 | nil=>simp [hor]
 | cons c t ih=>simp only [hor,List.length_cons,Nat.pow_succ];omega
theorem zEB {n C X:Nat} (hn:n≤9) (hC:C<256) (h9:¬(n=9∧1<C)) (hX:X<128^n):X+128^n*(C%128)<18446744073709551616:=by
 by_cases h9':n=9
 ·subst h9'
  have:C%128≤1:=by omega
  have:=Nat.mul_le_mul_left (128^9) this
  omega
 ·have h5:128^n≤128^8:=Nat.pow_le_pow_right (by omega) (by omega)
  have h6:C%128≤127:=by omega
  have:=Nat.mul_le_mul h5 h6
  omega
theorem zti:∀(k:Nat) (l:List UInt8),lead k (l.take k)=lead k l
 | 0,_=>rfl
 | _+1,[]=>rfl
 | k+1,c::t=>by simp only [List.take_succ_cons,lead,zti k t]
theorem zth:∀(k:Nat) (l:List UInt8),(∀y∈l.take (lead k l),128≤y.toNat)∧∀(h:lead k l<l.length),lead k l<k→(l[lead k l]).toNat<128
 | 0,_=>⟨fun y hy=>by simp [lead] at hy,fun _ h=>by omega⟩
 | _+1,[]=>⟨fun y hy=>by simp at hy,fun h=>by simp at h⟩
 | k+1,c::t=>by
  obtain ⟨h1,h2⟩:=zth k t
  by_cases hc:128≤c.toNat
  ·have e:lead (k+1) (c::t)=lead k t+1:=by rw [lead,if_pos hc]
   constructor
   ·rw [e,List.take_succ_cons]
    intro y hy
    cases hy with
    | head=>exact hc
    | tail _ hy=>exact h1 y hy
   ·simp only [e,List.getElem_cons_succ,List.length_cons]
    intro h hk;exact h2 (by omega) (by omega)
  ·have e:lead (k+1) (c::t)=0:=by rw [lead,if_neg hc]
   constructor
   ·rw [e];intro y hy;simp at hy
   ·simp only [e];intro _ _;simp;omega
theorem ziv (b:List UInt8):rd b=(0,0,4)∨(rd b=(0,0,3)∧b.length≤9)∨
  ∃x c y,b=x++c::y∧(∀z∈x,128≤z.toNat)∧c.toNat<128∧x.length≤9∧hor (x++[c])<18446744073709551616∧rd b=(((hor (x++[c]):Nat):Int),((x.length+1:Nat):Int),0):=by
 have hle:=zyy 10 b
 have hs:=zzU (b.take 10) 0 0 (by simp;omega) (by omega)
 simp only [Nat.zero_add,Nat.sub_zero,zti,Nat.pow_zero,Nat.mul_one] at hs
 unfold rd
 rw [hs]
 by_cases h10:lead 10 b=10
 ·rw [if_pos h10];exact .inl rfl
 ·rw [if_neg h10]
  by_cases hl:lead 10 b=(b.take 10).length
  ·rw [if_pos hl];refine .inr (.inl ⟨rfl,?_⟩);rw [List.length_take] at hl;omega
  ·rw [if_neg hl]
   rw [List.length_take] at hl
   have hlt:lead 10 b<b.length:=by omega
   have hg:(b.take 10).getD (lead 10 b) 0=b[lead 10 b]:=by
    rw [List.getD_eq_getElem?_getD,List.getElem?_take,if_pos (by omega),List.getElem?_eq_getElem hlt];rfl
   rw [hg,List.take_take,Nat.min_eq_left (by omega)]
   have hc:=(b[lead 10 b]).toNat_lt
   by_cases h9:lead 10 b=9∧1<(b[lead 10 b]).toNat
   ·rw [if_pos h9];exact .inl rfl
   ·rw [if_neg h9]
    obtain ⟨hf1,hf2⟩:=zth 10 b
    have hsp:b.take (lead 10 b+1)=b.take (lead 10 b)++[b[lead 10 b]]:=by
     rw [List.take_add_one,List.getElem?_eq_getElem hlt];rfl
    have hlen:(b.take (lead 10 b)).length=lead 10 b:=by rw [List.length_take];omega
    refine .inr (.inr ⟨b.take (lead 10 b),b[lead 10 b],b.drop (lead 10 b+1),?_,hf1,hf2 hlt (by omega),by omega,?_,?_⟩)
    ·rw [←List.drop_eq_getElem_cons hlt,List.take_append_drop]
    ·rw [zxd]
     have h3:=zAN (b.take (lead 10 b))
     rw [hlen] at h3⊢
     simp only [hor,Nat.mul_zero,Nat.add_zero]
     exact zEB (by omega) (by omega) h9 h3
    ·rw [hsp,hlen];simp [rdR]
theorem zDV {v:Nat} (h:v<128):enc v=[UInt8.ofNat v]:=by rw [enc,if_pos h]
theorem zDU {v:Nat} (h:¬v<128):enc v=UInt8.ofNat (128+v%128)::enc (v/128):=by rw [enc,if_neg h]
theorem zui:∀(v:Nat),(enc v).length=lenN v:=by
 intro v
 induction v using Nat.strongRecOn with
 | _ v ih=>
  by_cases h:v<128
  ·rw [zDV h,zlX h];rfl
  ·rw [zDU h,znF h,List.length_cons,ih _ (by omega)]
theorem zDM (v:Nat):shrI .u64 (v:Int) 7=((v/128:Nat):Int):=zrL (k:= .u64) (a:=v) (b:=7) (by simp [IntKind.bits])
theorem zBn:∀(w n:Nat),n+w<9223372036854775808+w→n+lz w≤1152921504606846976→zfS w n=some ((n+lz w:Nat):Int):=by
 intro w
 induction w using Nat.strongRecOn with
 | _ w ih=>
  intro n hn hl
  by_cases h:w=0
  ·subst h
   refine zpQ ?_
   unfold zdk
   rw [itF (by simp)];rfl
  ·have e:=zEh h
   refine (zpP (wv2':=((w/128:Nat):Int)) (n':=((n+1:Nat):Int)) ?_).trans ?_
   ·unfold zdk
    rw [itT (by simp;omega),zDM,zW (by omega)];rfl
   ·rw [ih (w/128) (by omega) (n+1) (by omega) (by omega)]
    congr 2;omega
theorem zEe {v:Nat} (h:v<18446744073709551616):zkY (v:Int)=some ((lenN v:Nat):Int):=by
 unfold zkY
 have h1:=zEg v
 have h2:=zBm h
 have h3:=zBn (v/128) 1 (by omega) (by omega)
 have h3':zfS ((v/128:Nat):Int) 1=some ((1+lz (v/128):Nat):Int):=h3
 rw [zDM,h3',sb,h1]
theorem zzT (a b:List Int) (hl:a.length=b.length) (hb:a.length≤1152921504606846976):∀(k i:Nat),i+k=a.length→
  (a.drop i=b.drop i∧zbt a b i=some (.inl ()))∨(a.drop i≠b.drop i∧zbt a b i=some (.inr ())):=by
 intro k
 induction k with
 | zero=>
  intro i hi
  refine .inl ⟨?_,zfx ?_⟩
  ·rw [List.drop_eq_nil_of_le (by omega),List.drop_eq_nil_of_le (by omega)]
  ·unfold zaE
   rw [itF (by simp;omega)]
 | succ k ih=>
  intro i hi
  have ha:a.drop i=a[i]'(by omega)::a.drop (i+1):=List.drop_eq_getElem_cons (by omega)
  have hb':b.drop i=b[i]'(by omega)::b.drop (i+1):=List.drop_eq_getElem_cons (by omega)
  have hbody:zaE a b i=if a[i]'(by omega)=b[i]'(by omega) then some (.inl ((i+1:Nat):Int)) else some (.inr (.inr ())):=by
   unfold zaE
   rw [itT (by simp;omega),zan rfl (show i<a.length by omega),sb,zan rfl (show i<b.length by omega),sb,zW (by omega)]
   by_cases h:a[i]'(by omega)=b[i]'(by omega)
   ·rw [if_pos h,itF (by simpa using h)];rfl
   ·rw [if_neg h,itT (by simpa using h)]
  rw [ha,hb']
  by_cases h:a[i]'(by omega)=b[i]'(by omega)
  ·rw [if_pos h] at hbody
   rw [zjb hbody]
   rcases ih (i+1) (by omega) with ⟨h1,h2⟩| ⟨h1,h2⟩
   ·exact .inl ⟨by rw [h,h1],h2⟩
   ·exact .inr ⟨fun e=>h1 (List.cons.inj e).2,h2⟩
  ·rw [if_neg h] at hbody
   exact .inr ⟨fun e=>h (List.cons.inj e).1,zfx hbody⟩
theorem zyR (a b:List Int) (hb:a.length≤1152921504606846976):zbP a b=some (decide (a=b)):=by
 unfold zbP
 by_cases hl:a.length=b.length
 ·rw [itF (by simp;omega)]
  rcases zzT a b hl hb a.length 0 (by omega) with ⟨h1,h2⟩| ⟨h1,h2⟩
  ·have h2':zbt a b 0=some (.inl ()):=h2
   rw [h2',sb]
   simp only [List.drop_zero] at h1
   simp [h1]
  ·have h2':zbt a b 0=some (.inr ()):=h2
   rw [h2',sb]
   simp only [List.drop_zero] at h1
   simp [h1]
 ·rw [itT (by simp;omega)]
  have:a≠b:=fun e=>hl (by rw [e])
  simp [this]
end Go.Proofs.YtcbkcblkecmjnaaGreat
namespace Go.Proofs.YtcbkcblkecmjnaaGreat
open Go
def zfQ (n w:Int):Bool:=decide (1≤n∧n≤536870911∧(w=0∨w=1∨w=2∨w=5))
def tgR (r:Int×Int×Int):Int×Int×Int×Int:=
 if r.2.2≠0 then (0,0,0,r.2.2) else if 4294967295<r.1∨zfQ (r.1/8) (r.1%8)=false then (0,0,0,5) else (r.1/8,r.1%8,r.2.1,0)
def tg (l:List UInt8):Int×Int×Int×Int:=tgR (rd l)
def tW (n w:Int):Nat:=(8*n+w).toNat
theorem zrU {n w:Int}:zfQ n w=true↔1≤n∧n≤536870911∧(w=0∨w=1∨w=2∨w=5):=by simp [zfQ]
theorem zgT (l:List UInt8):0≤(rd l).1∧(rd l).1<18446744073709551616∧0≤(rd l).2.1∧(rd l).2.1≤10∧(rd l).2.1≤l.length∧((rd l).2.2=0∨(rd l).2.2=3∨(rd l).2.2=4)∧((rd l).2.2=0→1≤(rd l).2.1):=by
 rcases ziv l with h| ⟨h,_⟩| ⟨x,c,y,e,_,_,hl,hv,h⟩
 ·rw [h];simp
 ·rw [h];simp
 ·have:l.length=x.length+1+y.length:=by rw [e];simp;omega
  rw [h]
  refine ⟨?_,?_,?_,?_,?_,.inl rfl,fun _=>?_⟩<;>simp only<;>omega
theorem zyP (x:List UInt8) (c:UInt8) (y:List UInt8) (hx:∀z∈x,128≤z.toNat) (hc:c.toNat<128) (hl:x.length≤9) (hv:hor (x++[c])<18446744073709551616):
  rd (x++c::y)=(((hor (x++[c]):Nat):Int),((x.length+1:Nat):Int),0):=by
 have key:∀(x:List UInt8) (z:List UInt8) (i acc:Nat),(∀z∈x,128≤z.toNat)→i+x.length≤9→acc+hor (x++[c])*128^i<18446744073709551616→scan i acc (x++c::z)= .inr (((acc+hor (x++[c])*128^i:Nat):Int),((i+x.length+1:Nat):Int),0):=by
  intro x
  induction x with
  | nil=>
   intro z i acc _ hi hv
   have e1:hor ([]++[c])=c.toNat:=by simp [hor];omega
   rw [e1] at hv⊢
   rw [List.nil_append,scan,if_neg,if_pos hc,Nat.mod_eq_of_lt hc]
   ·rfl
   ·rintro ⟨rfl,h2⟩
    have:=Nat.mul_le_mul_right (128^9) (show 2≤c.toNat by omega)
    omega
  | cons d x ih=>
   intro z i acc hx hi hv
   simp only [List.length_cons] at hi
   have hd:=hx d List.mem_cons_self
   have e5:acc+hor ((d::x)++[c])*128^i=acc+d.toNat%128*128^i+hor (x++[c])*128^(i+1):=by
    rw [List.cons_append,hor,Nat.pow_succ,Nat.add_mul,Nat.mul_comm (128^i) 128,←Nat.mul_assoc,Nat.mul_comm (hor (x++[c])) 128];omega
   rw [e5] at hv⊢
   rw [List.cons_append,scan,if_neg (by omega),if_neg (by omega),ih z (i+1) _ (fun z hz=>hx z (List.mem_cons_of_mem _ hz)) (by omega) hv,List.length_cons]
   congr 3
   omega
 unfold rd
 have e2:(x++c::y).take 10=x++c::y.take (9 - x.length):=by
  rw [List.take_append,List.take_of_length_le (by omega),show 10 - x.length=(9 - x.length)+1 by omega,List.take_succ_cons]
 rw [e2,key x _ 0 0 hx (by omega) (by simpa using hv)]
 simp [rdR]
theorem zoX (l m:List UInt8) (h:(rd l).2.2=0):rd (l++m)=rd l:=by
 rcases ziv l with h'| ⟨h',_⟩| ⟨x,c,y,e,hx,hc,hl,hv,h'⟩
 ·rw [h'] at h;cases h
 ·rw [h'] at h;cases h
 ·rw [h',e,List.append_assoc,List.cons_append,zyP x c _ hx hc hl hv]
theorem ztF (l m:List UInt8) (h:(rd l).2.2=0):tg (l++m)=tg l:=by unfold tg;rw [zoX l m h]
theorem zyW {r:Int×Int×Int} (h:r.2.2≠0):tgR r=(0,0,0,r.2.2):=if_pos h
theorem zrW {r:Int×Int×Int} (h:r.2.2=0) (h2:4294967295<r.1∨zfQ (r.1/8) (r.1%8)=false):tgR r=(0,0,0,5):=by unfold tgR;rw [if_neg (by simp [h]),if_pos h2]
theorem zCg {r:Int×Int×Int} (h:r.2.2=0) (h2:¬(4294967295<r.1∨zfQ (r.1/8) (r.1%8)=false)):tgR r=(r.1/8,r.1%8,r.2.1,0):=by unfold tgR;rw [if_neg (by simp [h]),if_neg h2]
theorem zwt (l:List UInt8):(∃c,tg l=(0,0,0,c)∧(c=3∨c=4∨c=5))∨∃n w k,tg l=(n,w,k,0)∧zfQ n w=true∧1≤k∧k≤10∧k≤l.length∧rd l=(8*n+w,k,0):=by
 obtain ⟨h1,h2,h3,h4,h5,h6,h7⟩:=zgT l
 unfold tg
 by_cases h:(rd l).2.2=0
 ·by_cases hg:4294967295<(rd l).1∨zfQ ((rd l).1/8) ((rd l).1%8)=false
  ·exact .inl ⟨5,zrW h hg,by omega⟩
  ·refine .inr ⟨_,_,_,zCg h hg,?_,h7 h,h4,h5,?_⟩
   ·cases ht:zfQ ((rd l).1/8) ((rd l).1%8)
    ·exact absurd (.inr ht) hg
    ·rfl
   ·refine Prod.ext ?_ (Prod.ext rfl h)
    simp only;omega
 ·exact .inl ⟨_,zyW h,by omega⟩
end Go.Proofs.YtcbkcblkecmjnaaGreat
namespace Go.Proofs.YtcbkcblkecmjnaaGreat
open Go
set_option linter.unusedVariables false
abbrev Rec:=zx
def zfT (w:Int) (k:Nat) (m:List UInt8):Int⊕(Nat×Nat):=
 if w=0 then (if (rd m).2.2≠0 then .inl (rd m).2.2 else .inr (k,k+(rd m).2.1.toNat))
 else if w=2 then (if (rd m).2.2≠0 then .inl (rd m).2.2 else if (m.length:Int) - (rd m).2.1<(rd m).1 then .inl 3 else .inr (k+(rd m).2.1.toNat,k+(rd m).2.1.toNat+(rd m).1.toNat))
 else if m.length<(if w=5 then 4 else 8) then .inl 3 else .inr (k,k+(if w=5 then 4 else 8))
def rec5 (l:List UInt8):Int⊕(Int×Int×Nat×Nat):=
 if (tg l).2.2.2≠0 then .inl (tg l).2.2.2 else match zfT (tg l).2.1 (tg l).2.2.1.toNat (l.drop (tg l).2.2.1.toNat) with
  | .inl c=> .inl c
  | .inr p=> .inr ((tg l).1,(tg l).2.1,p.1,p.2)
theorem zhn (w:Int) (k:Nat) (m:List UInt8):(∃c,zfT w k m= .inl c∧(c=3∨c=4))∨
  ∃a t,zfT w k m= .inr (a,t)∧k≤a∧a≤t∧t≤k+m.length∧
   (w=0∧a=k∧(rd m).2.2=0∧((t - k:Nat):Int)=(rd m).2.1∧k<t∨w=2∧(rd m).2.2=0∧((a - k:Nat):Int)=(rd m).2.1∧((t - a:Nat):Int)=(rd m).1∨w≠0∧w≠2∧a=k∧t=k+(if w=5 then 4 else 8)):=by
 obtain ⟨h1,h2,h3,h4,h5,h6,h7⟩:=zgT m
 unfold zfT
 by_cases w0:w=0
 ·rw [if_pos w0]
  by_cases h:(rd m).2.2=0
  ·have:=h7 h
   rw [if_neg (by simpa using h)]
   exact .inr ⟨_,_,rfl,Nat.le_refl _,by omega,by omega,.inl ⟨w0,rfl,h,by omega,by omega⟩⟩
  ·rw [if_pos h];exact .inl ⟨_,rfl,by omega⟩
 ·rw [if_neg w0]
  by_cases w2:w=2
  ·rw [if_pos w2]
   by_cases h:(rd m).2.2=0
   ·rw [if_neg (by simpa using h)]
    by_cases h8:(m.length:Int) - (rd m).2.1<(rd m).1
    ·rw [if_pos h8];exact .inl ⟨_,rfl,by omega⟩
    ·rw [if_neg h8]
     exact .inr ⟨_,_,rfl,by omega,by omega,by omega,.inr (.inl ⟨w2,h,by omega,by omega⟩)⟩
   ·rw [if_pos h];exact .inl ⟨_,rfl,by omega⟩
  ·rw [if_neg w2]
   by_cases h8:m.length<(if w=5 then 4 else 8)
   ·rw [if_pos h8];exact .inl ⟨_,rfl,by omega⟩
   ·rw [if_neg h8]
    exact .inr ⟨_,_,rfl,Nat.le_refl _,by omega,by omega,.inr (.inr ⟨w0,w2,rfl,rfl⟩)⟩
theorem ztW (w:Int) (k:Nat) (m z:List UInt8) {p:Nat×Nat} (h:zfT w k m= .inr p):zfT w k (m++z)= .inr p:=by
 unfold zfT at h⊢
 by_cases w0:w=0
 ·rw [if_pos w0] at h⊢
  by_cases h0:(rd m).2.2=0
  ·rw [zoX m z h0];exact h
  ·rw [if_pos h0] at h;cases h
 ·rw [if_neg w0] at h⊢
  by_cases w2:w=2
  ·rw [if_pos w2] at h⊢
   by_cases h0:(rd m).2.2=0
   ·rw [zoX m z h0]
    rw [if_neg (by simpa using h0)] at h⊢
    by_cases h8:(m.length:Int) - (rd m).2.1<(rd m).1
    ·rw [if_pos h8] at h;cases h
    ·rw [if_neg h8] at h
     rw [if_neg (by simp only [List.length_append];omega)];exact h
   ·rw [if_pos h0] at h;cases h
  ·rw [if_neg w2] at h⊢
   by_cases h8:m.length<(if w=5 then 4 else 8)
   ·rw [if_pos h8] at h;cases h
   ·rw [if_neg h8] at h
    rw [if_neg (by simp only [List.length_append];omega)];exact h
theorem ziw (l:List UInt8):(∃c,rec5 l= .inl c∧(c=3∨c=4∨c=5))∨
  ∃(n w:Int) (k a t:Nat),rec5 l= .inr (n,w,a,t)∧tg l=(n,w,(k:Int),0)∧zfQ n w=true∧zfT w k (l.drop k)= .inr (a,t)∧1≤k∧k≤l.length∧k≤a∧a≤t∧t≤l.length∧rd l=(8*n+w,(k:Int),0):=by
 rcases zwt l with ⟨c,h,hc⟩| ⟨n,w,k,h,hr,k1,k2,k3,hrd⟩
 ·refine .inl ⟨c,?_,hc⟩
  unfold rec5;rw [h,if_pos (by simp only;omega)]
 ·obtain ⟨k,rfl⟩:∃j:Nat,k=j:=⟨k.toNat,by omega⟩
  have e:rec5 l=match zfT w k (l.drop k) with
   | .inl c=> .inl c
   | .inr p=> .inr (n,w,p.1,p.2):=by unfold rec5;rw [h];simp
  rcases zhn w k (l.drop k) with ⟨c,h2,hc⟩| ⟨a,t,h2,g1,g2,g3,_⟩
  ·exact .inl ⟨c,by rw [e,h2],by omega⟩
  ·simp only [List.length_drop] at g3
   exact .inr ⟨n,w,k,a,t,by rw [e,h2],h,hr,h2,by omega,by omega,g1,g2,by omega,hrd⟩
theorem zwf (l z:List UInt8) {r:Int×Int×Nat×Nat} (h:rec5 l= .inr r):rec5 (l++z)= .inr r:=by
 rcases ziw l with ⟨c,h',_⟩| ⟨n,w,k,a,t,h',htg,_,hb,_,hk,_,_,_,hrd⟩
 ·rw [h'] at h;cases h
 ·rw [h'] at h
  have e:tg (l++z)=(n,w,(k:Int),0):=by rw [ztF l z (by rw [hrd]),htg]
  unfold rec5
  rw [e]
  simp only [ne_eq,not_true_eq_false,if_false,Int.toNat_natCast]
  rw [List.drop_append_of_le_length hk,ztW _ _ _ _ hb]
  exact h
def zrec:Rec:=⟨0,0,0,0,0⟩
def zed (b:List UInt8) (at5:Int):Rec×Int:=if at5<0∨at5≥b.length then (zrec,2) else match rec5 (b.drop at5.toNat) with
 | .inl c=>(zrec,c)
 | .inr (n,w,a,t)=>(⟨n,w,at5,at5+a,at5+t⟩,0)
def spl (base:Nat) (l:List UInt8):List Rec×Option (Nat×Int):=
 if hl:l=[] then ([],none) else match h:rec5 l with
  | .inl c=>([],some (base,c))
  | .inr (n,w,a,t)=>(⟨n,w,base,(base+a:Nat),(base+t:Nat)⟩::(spl (base+t) (l.drop t)).1,(spl (base+t) (l.drop t)).2)
termination_by l.length
decreasing_by
 all_goals
  rcases ziw l with ⟨c',h',_⟩| ⟨n',w',k',a',t',h',_,_,_,g1,g2,g3,g4,g5,_⟩
  ·rw [h'] at h;cases h
  ·rw [h'] at h;cases h;simp only [List.length_drop];omega
theorem zfm (base:Nat):spl base []=([],none):=by rw [spl,dif_pos rfl]
theorem zfJ {base:Nat} {l:List UInt8} {c:Int} (hl:l≠[]) (h:rec5 l= .inl c):spl base l=([],some (base,c)):=by
 rw [spl,dif_neg hl]
 split
 ·rename_i c' h';rw [h] at h';cases h';rfl
 ·rename_i h';rw [h] at h';cases h'
theorem zdR {base:Nat} {l:List UInt8} {n w:Int} {a t:Nat} (hl:l≠[]) (h:rec5 l= .inr (n,w,a,t)):
  spl base l=(⟨n,w,base,(base+a:Nat),(base+t:Nat)⟩::(spl (base+t) (l.drop t)).1,(spl (base+t) (l.drop t)).2):=by
 rw [spl,dif_neg hl]
 split
 ·rename_i c' h';rw [h] at h';cases h'
 ·rename_i n' w' a' t' h';rw [h] at h';cases h';rfl
theorem zgz (P:Nat→List UInt8→Prop) (h0:∀base,P base []) (he:∀base l c,l≠[]→rec5 l= .inl c→(c=3∨c=4∨c=5)→P base l)
  (hc:∀base l (n w:Int) (a t:Nat),l≠[]→rec5 l= .inr (n,w,a,t)→zfQ n w=true→1≤a→a≤t→t≤l.length→P (base+t) (l.drop t)→P base l) (base:Nat) (l:List UInt8):P base l:=by
 generalize hn:l.length=m
 induction m using Nat.strongRecOn generalizing base l with
 | _ m ih=>
  by_cases hl:l=[]
  ·subst hl;exact h0 base
  ·rcases ziw l with ⟨c,h,hc'⟩| ⟨n,w,k,a,t,h,_,hr,_,g1,g2,g3,g4,g5,_⟩
   ·exact he base l c hl h hc'
   ·exact hc base l n w a t hl h hr (by omega) g4 g5 (ih _ (by simp only [List.length_drop];omega) _ _ rfl)
theorem zDl (base:Nat) (l:List UInt8):(spl base l).1.length≤l.length:=by
 refine zgz (fun base l=>(spl base l).1.length≤l.length) ?_ ?_ ?_ base l
 ·intro base;rw [zfm];simp
 ·intro base l c hl h _;rw [zfJ hl h];simp
 ·intro base l n w a t hl h _ g1 g2 g3 ih
  rw [zdR hl h]
  simp only [List.length_cons,List.length_drop] at ih⊢
  omega
theorem zBS (base:Nat) (l:List UInt8):∀p c,(spl base l).2=some (p,c)→(c=3∨c=4∨c=5)∧base≤p∧p<base+l.length:=by
 refine zgz (fun base l=>∀p c,(spl base l).2=some (p,c)→(c=3∨c=4∨c=5)∧base≤p∧p<base+l.length) ?_ ?_ ?_ base l
 ·intro base p c h;rw [zfm] at h;cases h
 ·intro base l c' hl h hc p c h2
  rw [zfJ hl h] at h2
  cases h2
  have:0<l.length:=List.length_pos_iff.2 hl
  exact ⟨hc,by omega,by omega⟩
 ·intro base l n w a t hl h _ g1 g2 g3 ih p c h2
  rw [zdR hl h] at h2
  have:=ih p c h2
  simp only [List.length_drop] at this
  omega
def ziB (d:Nat) (r:Rec):Rec:=⟨r.Number,r.Wire,r.From+d,r.At+d,r.To+d⟩
theorem ztA (d:Nat) (base:Nat) (l:List UInt8):spl (base+d) l=((spl base l).1.map (ziB d),(spl base l).2.map fun p=>(p.1+d,p.2)):=by
 refine zgz (fun base l=>spl (base+d) l=((spl base l).1.map (ziB d),(spl base l).2.map fun p=>(p.1+d,p.2))) ?_ ?_ ?_ base l
 ·intro base;rw [zfm,zfm];rfl
 ·intro base l c hl h _;rw [zfJ hl h,zfJ hl h];rfl
 ·intro base l n w a t hl h _ g1 g2 g3 ih
  rw [zdR hl h,zdR hl h,show base+d+t=base+t+d by omega,ih]
  simp only [List.map_cons,ziB,Prod.mk.injEq,List.cons.injEq,zx.mk.injEq,true_and,and_true]
  push_cast
  omega
theorem zrQ (m:List UInt8) (base:Nat) (l:List UInt8):(spl base l).2=none→spl base (l++m)=((spl base l).1++(spl (base+l.length) m).1,(spl (base+l.length) m).2):=by
 refine zgz (fun base l=>(spl base l).2=none→spl base (l++m)=((spl base l).1++(spl (base+l.length) m).1,(spl (base+l.length) m).2)) ?_ ?_ ?_ base l
 ·intro base _;rw [zfm];simp
 ·intro base l c hl h _ h2;rw [zfJ hl h] at h2;cases h2
 ·intro base l n w a t hl h _ g1 g2 g3 ih h2
  rw [zdR hl h] at h2⊢
  rw [zdR (by simp [hl]) (zwf l m h),List.drop_append_of_le_length g3,ih h2]
  simp only [List.length_drop,List.cons_append,show base+t+(l.length - t)=base+l.length by omega]
def zeX (w:Int) (v:List UInt8):Bool:=
 if w=0 then decide ((rd v).2.2=0∧(rd v).2.1=v.length) else decide (w=2∨w=1∧v.length=8∨w=5∧v.length=4)
def put5 (n w:Int) (v:List UInt8):List UInt8:=enc (tW n w)++(if w=2 then enc v.length else [])++v
theorem zBH (n w:Int) (v:List UInt8):(put5 n w v).length=(enc (tW n w)).length+(if w=2 then (enc v.length).length else 0)+v.length:=by
 unfold put5
 split
 ·simp;omega
 ·simp
theorem zyh {l:List UInt8} {k:Nat} (h:rd l=((rd l).1,(k:Int),0)):(enc (rd l).1.toNat).length≤k:=by
 rcases ziv l with h'| ⟨h',_⟩| ⟨x,c,y,e,hx,hc,hl,hv,h'⟩
 ·rw [h'] at h;cases h
 ·rw [h'] at h;cases h
 ·rw [h'] at h⊢
  have hk:(x.length:Int)+1=k:=by have:=congrArg (fun p=>p.2.1) h;simpa using this
  simp only [Int.toNat_natCast]
  have h1:=zAN (x++[c])
  rw [zui]
  have key:∀(j v:Nat),v<128^(j+1)→lenN v≤j+1:=by
   intro j
   induction j with
   | zero=>intro v hv;rw [zlX (by omega)];omega
   | succ j ih=>
    intro v hv
    by_cases h2:v<128
    ·rw [zlX h2];omega
    ·rw [znF h2]
     have:=ih (v/128) (by rw [Nat.pow_succ] at hv;exact Nat.div_lt_of_lt_mul (by omega))
     omega
  have:=key x.length (hor (x++[c])) (by simpa using h1)
  omega
theorem zxD {l:List UInt8} {n w:Int} {a t:Nat} (h:rec5 l= .inr (n,w,a,t)):
  zeX w ((l.drop a).take (t - a))=true∧((l.drop a).take (t - a)).length=t - a∧(put5 n w ((l.drop a).take (t - a))).length≤t:=by
 rcases ziw l with ⟨c,h',_⟩| ⟨n',w',k,a',t',h',_,hr,hb,g1,g2,g3,g4,g5,hrd⟩
 ·rw [h'] at h;cases h
 ·rw [h'] at h;cases h
  have hlen:((l.drop a).take (t - a)).length=t - a:=by simp;omega
  have hm:=zyh (l:=l) (k:=k) (by rw [hrd])
  have e1:(rd l).1.toNat=tW n w:=by rw [hrd];rfl
  rw [e1] at hm
  refine ⟨?_,hlen,?_⟩
  ·rcases zhn w k (l.drop k) with ⟨c,hc,_⟩| ⟨a2,t2,h2,k1,k2,k3,hcase⟩
   ·rw [hc] at hb;cases hb
   ·rw [h2] at hb;cases hb
    unfold zeX
    rcases hcase with ⟨rfl,rfl,f1,f2,f3⟩| ⟨rfl,f1,f2,f3⟩| ⟨w0,w2,rfl,f1⟩
    ·rw [if_pos rfl]
     -- what is read is the value alone
     have hv:rd ((l.drop a).take (t - a))=rd (l.drop a):=by
      rcases ziv (l.drop a) with h6| ⟨h6,_⟩| ⟨x,c,y,e,hx,hc,hl,hv,h6⟩
      ·rw [h6] at f1;cases f1
      ·rw [h6] at f1;cases f1
      ·rw [h6] at f2
       have e7:t - a=(x++[c]).length:=by simp at f2⊢;omega
       have e8:(l.drop a).take (t - a)=x++c::[]:=by rw [e7,e,List.append_cons x c y,List.take_left]
       rw [e8,zyP x c [] hx hc hl hv,h6]
     rw [hv]
     exact decide_eq_true ⟨f1,by rw [←f2,hlen]⟩
    ·rw [if_neg (by omega)];exact decide_eq_true (.inl rfl)
    ·have hw:=(zrU.1 hr).2.2
     rw [if_neg w0]
     rw [hlen,f1]
     refine decide_eq_true ?_
     rcases hw with rfl| rfl| rfl| rfl
     ·exact absurd rfl w0
     ·right;left;simp
     ·exact absurd rfl w2
     ·right;right;simp
  ·rw [zBH,hlen]
   rcases zhn w k (l.drop k) with ⟨c,hc,_⟩| ⟨a2,t2,h2,k1,k2,k3,hcase⟩
   ·rw [hc] at hb;cases hb
   ·rw [h2] at hb;cases hb
    by_cases hw2:w=2
    ·rw [if_pos hw2]
     rcases hcase with ⟨rfl,_⟩| ⟨_,f1,f2,f3⟩| ⟨_,w2,_⟩
     ·omega
     ·have hm2:=zyh (l:=l.drop k) (k:=a - k) (by rw [f2];exact Prod.ext rfl (Prod.ext rfl f1))
      have e3:(rd (l.drop k)).1.toNat=t - a:=by omega
      rw [e3] at hm2
      omega
     ·exact absurd hw2 w2
    ·rw [if_neg hw2];omega
theorem zuE (l:List UInt8) {j:Nat} (h:(rd l).2.2=0) (hj:(rd l).2.1≤j):rd (l.take j)=rd l:=by
 rcases ziv l with h6| ⟨h6,_⟩| ⟨x,c,y,e,hx,hc,hl,hv,h6⟩
 ·rw [h6] at h;cases h
 ·rw [h6] at h;cases h
 ·rw [h6] at hj
  have hj':(x++[c]).length≤j:=by simp at hj⊢;omega
  have:l.take j=x++c::y.take (j - (x++[c]).length):=by
   rw [e,List.append_cons x c y,List.take_append,List.take_of_length_le hj',←List.append_cons]
  rw [this,zyP x c _ hx hc hl hv,h6]
theorem zwQ {w:Int} {k:Nat} {m:List UInt8} {a t:Nat} (h:zfT w k m= .inr (a,t)):zfT w k (m.take (t - k))= .inr (a,t):=by
 rcases zhn w k m with ⟨c,hc,_⟩| ⟨a2,t2,h2,k1,k2,k3,hcase⟩
 ·rw [hc] at h;cases h
 ·rw [h2] at h
  cases h
  have hl:(m.take (t - k)).length=t - k:=by simp;omega
  rcases hcase with ⟨rfl,rfl,f1,f2,f3⟩| ⟨rfl,f1,f2,f3⟩| ⟨w0,w2,rfl,f1⟩
  ·have hr:=zuE m (j:=t - a) f1 (by omega)
   unfold zfT at h2⊢
   rw [if_pos rfl] at h2⊢
   rw [hr];exact h2
  ·have hr:=zuE m (j:=t - k) f1 (by omega)
   unfold zfT at h2⊢
   rw [if_neg (by omega),if_pos rfl] at h2⊢
   rw [hr]
   rw [if_neg (by simpa using f1)] at h2⊢
   split at h2
   ·cases h2
   ·rw [if_neg (by rw [hl];omega)];exact h2
  ·unfold zfT
   rw [if_neg w0,if_neg w2,if_neg (by rw [hl];omega),←f1]
theorem zzN {l:List UInt8} {n w:Int} {a t:Nat} (h:rec5 l= .inr (n,w,a,t)):rec5 (l.take t)= .inr (n,w,a,t):=by
 rcases ziw l with ⟨c,h',_⟩| ⟨n',w',k,a',t',h',htg,hr,hb,g1,g2,g3,g4,g5,hrd⟩
 ·rw [h'] at h;cases h
 ·rw [h'] at h
  cases h
  have hr1:=zuE l (j:=t) (by rw [hrd]) (by rw [hrd];simp only;omega)
  have e:tg (l.take t)=(n,w,(k:Int),0):=by
   have:=ztF (l.take t) (l.drop t) (by rw [hr1,hrd])
   rw [List.take_append_drop,htg] at this
   exact this.symm
  unfold rec5
  rw [e]
  simp only [ne_eq,not_true_eq_false,if_false,Int.toNat_natCast]
  rw [List.drop_take,zwQ hb]
theorem zDm (b:List UInt8) (base:Nat) (l:List UInt8):l=b.drop base→base≤b.length→∀r∈(spl base l).1,∃(n w:Int) (f a t:Nat),r=⟨n,w,(f:Int),((f+a:Nat):Int),((f+t:Nat):Int)⟩∧rec5 (b.drop f)= .inr (n,w,a,t)∧1≤a∧a≤t∧f+t≤b.length:=by
 refine zgz (fun base l=>l=b.drop base→base≤b.length→∀r∈(spl base l).1,∃(n w:Int) (f a t:Nat),r=⟨n,w,(f:Int),((f+a:Nat):Int),((f+t:Nat):Int)⟩∧rec5 (b.drop f)= .inr (n,w,a,t)∧1≤a∧a≤t∧f+t≤b.length) ?_ ?_ ?_ base l
 ·intro base _ _ r hr;rw [zfm] at hr;cases hr
 ·intro base l c hl h _ _ _ r hr;rw [zfJ hl h] at hr;cases hr
 ·intro base l n w a t hl h _ g1 g2 g3 ih hld hbase r hr
  have hlen:l.length=b.length - base:=by rw [hld];simp
  rw [zdR hl h] at hr
  rcases List.mem_cons.1 hr with rfl| hr
  ·exact ⟨n,w,base,a,t,rfl,by rw [←hld];exact h,g1,g2,by omega⟩
  ·exact ih (by rw [hld,List.drop_drop]) (by omega) r hr
end Go.Proofs.YtcbkcblkecmjnaaGreat
namespace Go.Proofs.YtcbkcblkecmjnaaGreat
open Go
set_option linter.unusedVariables false
theorem zBB (k:IntKind) (a b:Int):orI k a b=bits .or k a b:=rfl
theorem zvX (w:Int):zgL w=some (w%4294967296):=by unfold zgL;rw [zwH]
theorem zzW (w:Int):zhl w=some (sgnS w):=by
 unfold zhl
 rw [zvX,sb,zAq]
 unfold sgnS
 congr 1
 split<;>split<;>omega
theorem zAn {n:Int} (h: -2147483648≤n∧n≤2147483647):zhm n=some (zpN n):=by
 unfold zhm
 rw [zW (by omega),wrap_u64]
 unfold zpN
 congr 1
 split<;>omega
theorem zAc {l:List UInt8} {j:Nat} (h:j<l.length):l.take (j+1)=l.take j++[l[j]]:=by rw [List.take_add_one,List.getElem?_eq_getElem h];rfl
theorem zAp {v:List UInt8} (hv:v.length≤8):∀(d j:Nat),j+d=v.length→zfj v ((word (v.take j):Nat):Int) (j:Int)=some ((word v:Nat):Int):=by
 intro d
 induction d with
 | zero=>
  intro j hj
  refine zox ?_
  unfold zcJ
  rw [itF (by simp;omega),List.take_of_length_le (by omega)]
 | succ d ih=>
  intro j hj
  have hl:(v.take j).length=j:=by simp;omega
  have hw:=zvb (v.take j)
  rw [hl] at hw
  refine (zow (wv':=((word (v.take (j+1)):Nat):Int)) (v2':=((j+1:Nat):Int)) ?_).trans (ih (j+1) (by omega))
  unfold zcJ
  have hc:=(v[j]'(by omega)).toNat_lt
  have e1:IntKind.i64.wrap (8*(j:Int))=((8*j:Nat):Int):=by rw [zW (by omega)];push_cast;rfl
  have e2:shlI .u64 (IntKind.u64.wrap ((v[j]'(by omega)).toNat:Int)) ((8*j:Nat):Int)=IntKind.u64.wrap (((v[j]'(by omega)).toNat:Int)*2^(8*j)):=by
   unfold shlI
   rw [Int.toNat_natCast,Nat.min_eq_left (by simp [IntKind.bits];omega),wrap_u64 ((v[j]'(by omega)).toNat:Int),Int.emod_eq_of_lt (by omega) (by omega)]
  rw [itT (by simp;omega),zan rfl (show j<v.length by omega),sb,e1,zwn,sb,e2,zBB,zDA _ _ _ (by omega) (by omega) hw,zAc (show j<v.length by omega),ztI,hl,zW (by omega)]
  rfl
theorem zDz (b:List UInt8):zjr b=some ((word (b.take 8):Nat):Int):=by
 unfold zjr
 have e:(if (8:Int)<(b.length:Int) then (8:Int) else (b.length:Int))=((min 8 b.length:Nat):Int):=by split<;>omega
 have e2:b.take (min 8 b.length)=b.take 8:=by rw [List.take_eq_take_iff];omega
 rw [e,zqP rfl (by omega),sb,e2]
 have h:=zAp (v:=b.take 8) (by simp;omega) (b.take 8).length 0 (by omega)
 have h':zfj (b.take 8) 0 0=some ((word (b.take 8):Nat):Int):=h
 rw [h',sb]
end Go.Proofs.YtcbkcblkecmjnaaGreat
namespace Go.Proofs.YtcbkcblkecmjnaaGreat
open Go
set_option linter.unusedVariables false
def zbH (k:Int):Bool:=decide (1≤k∧k≤17)
def kNum (k:Int):Bool:=decide (1≤k∧k≤14)
def zcX (k:Int):Int:=if 15≤k then 2 else if 12≤k then 1 else if 9≤k then 5 else 0
def zdg (k w:Int):Int:=
 if k=1∨k=8 then zpN (sgnS w) else if k=3∨k=5∨k=9∨k=10∨k=11 then w%4294967296 else if k=7 then (if 0<w then 1 else 0) else w
theorem znm (k:Int) {w:Int} (h:0≤w∧w≤18446744073709551615):0≤zdg k w∧zdg k w≤18446744073709551615:=by
 have hs:=zxI w
 unfold zdg
 split
 ·exact zDx (by omega)
 ·split
  ·omega
  ·split
   ·split<;>omega
   ·exact h
theorem zpw (k:Int) {w:Int} (h:0≤w∧w≤18446744073709551615):zdg k (zdg k w)=zdg k w:=by
 have hs:=zxI w
 unfold zdg
 by_cases h1:k=1∨k=8
 ·simp only [if_pos h1];rw [zBO hs]
 ·simp only [if_neg h1]
  by_cases h2:k=3∨k=5∨k=9∨k=10∨k=11
  ·simp only [if_pos h2];omega
  ·simp only [if_neg h2]
   by_cases h7:k=7
   ·simp only [if_pos h7];split<;>simp
   ·simp only [if_neg h7]
end Go.Proofs.YtcbkcblkecmjnaaGreat
namespace Go.Proofs.YtcbkcblkecmjnaaGreat
open Go
set_option linter.unusedVariables false
def rawW (k:Int) (b:List UInt8):Int:=if zcX k=0 then (rd b).1 else (word (b.take 8):Nat)
def zmx (k:Int) (b:List UInt8):Int×Int:=if kNum k=false then (0,2) else if zeX (zcX k) b=false then (0,12) else (zdg k (rawW k b),0)
def zxH (k:Int) (c:Nat):List UInt8:=if 12≤k then zri 8 c else if 9≤k then zri 4 c else enc c
def sPut (k w:Int):List UInt8:=zxH k (zdg k w).toNat
theorem znO (k:Int) {b:List UInt8}:0≤rawW k b∧rawW k b≤18446744073709551615:=by
 unfold rawW
 split
 ·have:=zgT b;omega
 ·have h:=zvb (b.take 8)
  have h2:(256:Nat)^(b.take 8).length≤256^8:=Nat.pow_le_pow_right (by omega) (by simp;omega)
  omega
theorem zhu {k:Int}:kNum k=true↔1≤k∧k≤14:=by simp [kNum]
end Go.Proofs.YtcbkcblkecmjnaaGreat
namespace Go.Proofs.YtcbkcblkecmjnaaGreat
open Go
set_option linter.unusedVariables false
def zjY (k:Int) (l:List UInt8):Int⊕Nat:=
 if k<9 then (if (rd l).2.2≠0 then .inl (rd l).2.2 else .inr (rd l).2.1.toNat) else if l.length<(if k<12 then 4 else 8) then .inl 3 else .inr (if k<12 then 4 else 8)
theorem zlI (k:Int) (l:List UInt8):(∃c,zjY k l= .inl c∧(c=3∨c=4))∨∃n,zjY k l= .inr n∧1≤n∧n≤l.length∧n≤10∧(k<9∧(rd l).2.2=0∧(rd l).2.1=(n:Int)∨¬k<9∧n=(if k<12 then 4 else 8)):=by
 obtain ⟨h1,h2,h3,h4,h5,h6,h7⟩:=zgT l
 unfold zjY
 by_cases h:k<9
 ·rw [if_pos h]
  by_cases h0:(rd l).2.2=0
  ·have:=h7 h0
   rw [if_neg (by simpa using h0)]
   exact .inr ⟨_,rfl,by omega,by omega,by omega,.inl ⟨h,h0,by omega⟩⟩
  ·rw [if_pos h0];exact .inl ⟨_,rfl,by omega⟩
 ·rw [if_neg h]
  by_cases h8:l.length<(if k<12 then 4 else 8)
  ·rw [if_pos h8];exact .inl ⟨_,rfl,by omega⟩
  ·rw [if_neg h8]
   exact .inr ⟨_,rfl,by split<;>omega,by omega,by split<;>omega,.inr ⟨h,rfl⟩⟩
def pcs (k:Int) (l:List UInt8):List (List UInt8)×Int:=
 if hl:l=[] then ([],0) else match h:zjY k l with
  | .inl c=>([],c)
  | .inr n=>(l.take n::(pcs k (l.drop n)).1,(pcs k (l.drop n)).2)
termination_by l.length
decreasing_by
 all_goals
  rcases zlI k l with ⟨c',h',_⟩| ⟨n',h',g1,g2,_⟩
  ·rw [h'] at h;cases h
  ·rw [h'] at h;cases h;simp only [List.length_drop];omega
theorem znM (k:Int):pcs k []=([],0):=by rw [pcs,dif_pos rfl]
theorem zqr {k:Int} {l:List UInt8} {c:Int} (hl:l≠[]) (h:zjY k l= .inl c):pcs k l=([],c):=by
 rw [pcs,dif_neg hl]
 split
 ·rename_i c' h';rw [h] at h';cases h';rfl
 ·rename_i h';rw [h] at h';cases h'
theorem zls {k:Int} {l:List UInt8} {n:Nat} (hl:l≠[]) (h:zjY k l= .inr n):pcs k l=(l.take n::(pcs k (l.drop n)).1,(pcs k (l.drop n)).2):=by
 rw [pcs,dif_neg hl]
 split
 ·rename_i c' h';rw [h] at h';cases h'
 ·rename_i n' h';rw [h] at h';cases h';rfl
theorem zqs (k:Int) (P:List UInt8→Prop) (h0:P []) (he:∀l c,l≠[]→zjY k l= .inl c→(c=3∨c=4)→P l)
  (hc:∀l n,l≠[]→zjY k l= .inr n→1≤n→n≤l.length→n≤10→P (l.drop n)→P l) (l:List UInt8):P l:=by
 generalize hn:l.length=m
 induction m using Nat.strongRecOn generalizing l with
 | _ m ih=>
  by_cases hl:l=[]
  ·subst hl;exact h0
  ·rcases zlI k l with ⟨c,h,hc'⟩| ⟨n,h,g1,g2,g3,_⟩
   ·exact he l c hl h hc'
   ·exact hc l n hl h g1 g2 g3 (ih _ (by simp only [List.length_drop];omega) _ rfl)
theorem zwc (k:Int) (l:List UInt8):(pcs k l).2=0∨(pcs k l).2=3∨(pcs k l).2=4:=by
 refine zqs k (fun l=>(pcs k l).2=0∨(pcs k l).2=3∨(pcs k l).2=4) ?_ ?_ ?_ l
 ·rw [znM];exact .inl rfl
 ·intro l c hl h hc;rw [zqr hl h];exact .inr hc
 ·intro l n hl h _ _ _ ih;rw [zls hl h];exact ih
theorem zyL (k:Int) (l:List UInt8):(pcs k l).1.length≤l.length:=by
 refine zqs k (fun l=>(pcs k l).1.length≤l.length) ?_ ?_ ?_ l
 ·rw [znM];simp
 ·intro l c hl h _;rw [zqr hl h];simp
 ·intro l n hl h _ _ _ ih
  rw [zls hl h]
  simp only [List.length_cons,List.length_drop] at ih⊢
  have:=List.length_pos_iff.2 hl
  omega
theorem zxS {k:Int} (hk:kNum k=true) {l:List UInt8} {n:Nat} (h:zjY k l= .inr n):zeX (zcX k) (l.take n)=true:=by
 have hk':=zhu.1 hk
 rcases zlI k l with ⟨c,h',_⟩| ⟨n',h',g1,g2,g3,hcase⟩
 ·rw [h'] at h;cases h
 ·rw [h'] at h;cases h
  have hlen:(l.take n).length=n:=by simp;omega
  unfold zeX
  rcases hcase with ⟨h9,f1,f2⟩| ⟨h9,f1⟩
  ·have e:zcX k=0:=by unfold zcX;rw [if_neg (by omega),if_neg (by omega),if_neg (by omega)]
   rw [if_pos e]
   rcases ziv l with h6| ⟨h6,_⟩| ⟨x,c,y,e,hx,hc,hl,hv,h6⟩
   ·rw [h6] at f1;cases f1
   ·rw [h6] at f1;cases f1
   ·rw [h6] at f2
    have e7:n=(x++[c]).length:=by simp at f2⊢;omega
    have e8:l.take n=x++c::[]:=by rw [e7,e,List.append_cons x c y,List.take_left]
    rw [e8,zyP x c [] hx hc hl hv]
    simp
  ·have h12:zcX k=1∧12≤k∨zcX k=5∧k<12:=by
    unfold zcX
    rw [if_neg (by omega)]
    by_cases hh:12≤k
    ·rw [if_pos hh];exact .inl ⟨rfl,hh⟩
    ·rw [if_neg hh,if_pos (by omega)];exact .inr ⟨rfl,by omega⟩
   rw [if_neg (by omega),hlen,f1]
   refine decide_eq_true ?_
   rcases h12 with ⟨e,hh⟩| ⟨e,hh⟩
   ·rw [e,if_neg (by omega)];right;left;exact ⟨rfl,rfl⟩
   ·rw [e,if_pos hh];right;right;exact ⟨rfl,rfl⟩
theorem zBE {k:Int} (hk:kNum k=true) (l:List UInt8):∀p∈(pcs k l).1,zeX (zcX k) p=true∧1≤p.length∧p.length≤10:=by
 refine zqs k (fun l=>∀p∈(pcs k l).1,zeX (zcX k) p=true∧1≤p.length∧p.length≤10) ?_ ?_ ?_ l
 ·rw [znM];intro p hp;cases hp
 ·intro l c hl h _;rw [zqr hl h];intro p hp;cases hp
 ·intro l n hl h g1 g2 g3 ih
  rw [zls hl h]
  intro p hp
  cases hp with
  | head=>exact ⟨zxS hk h,by simp;omega,by simp;omega⟩
  | tail _ hp=>exact ih p hp
def ziJ (k:Int) (p:List UInt8):Int:=zdg k (rawW k p)
theorem zlx {k:Int} (hk:kNum k=true) {p:List UInt8} (hf:zeX (zcX k) p=true):zmx k p=(ziJ k p,0):=by
 unfold zmx ziJ
 rw [hk,if_neg (by simp),hf,if_neg (by simp)]
def ends (base:Nat):List (List UInt8)→List Int
 | []=>[]
 | p::ps=>((base+p.length:Nat):Int)::ends (base+p.length) ps
def zkB (k:Int) (b:List UInt8):List Int×Int:=if kNum k=false then ([],2) else if (pcs k b).2=0 then (ends 0 (pcs k b).1,0) else ([],(pcs k b).2)
def zbj (k:Int) (b:List UInt8):List Int×Int:=if kNum k=false then ([],2) else if (pcs k b).2=0 then ((pcs k b).1.map (ziJ k),0) else ([],(pcs k b).2)
end Go.Proofs.YtcbkcblkecmjnaaGreat
namespace Go.Proofs.YtcbkcblkecmjnaaGreat
open Go
set_option linter.unusedVariables false
abbrev Fld:=zc
abbrev Mes:=zi
def zil {α:Type} (p:α→Bool) (l:List α):Int:=match l.findIdx? p with
 | some i=>(i:Int)
 | none=> -1
theorem ziQ {α:Type} {p:α→Bool} {l:List α} (h:l.findIdx? p=none):zil p l= -1:=by unfold zil;rw [h]
theorem ziR {α:Type} {p:α→Bool} {l:List α} {i:Nat} (h:l.findIdx? p=some i):zil p l=(i:Int):=by unfold zil;rw [h]
theorem zoE {α:Type} (p:α→Bool) (l:List α) (F:Int→Option (Unit⊕Int)) (h0:F (l.length:Int)=some (.inl ())) (hs:∀(i:Nat) (h:i<l.length),F (i:Int)=if p l[i] then some (.inr (i:Int)) else F ((i+1:Nat):Int)):
  ∀(d i:Nat),i+d=l.length→(∀j (h:j<l.length),j<i→p l[j]=false)→F (i:Int)=some (match l.findIdx? p with| some k=> .inr (k:Int)| none=> .inl ()):=by
 intro d
 induction d with
 | zero=>
  intro i hi hj
  have:i=l.length:=by omega
  subst this
  have hn:l.findIdx? p=none:=by
   rw [List.findIdx?_eq_none_iff]
   intro x hx
   obtain ⟨j,hj',rfl⟩:=List.getElem_of_mem hx
   exact hj j hj' hj'
  rw [h0,hn]
 | succ d ih=>
  intro i hi hj
  have hil:i<l.length:=by omega
  rw [hs i hil]
  by_cases hp:p l[i]=true
  ·have hf:l.findIdx? p=some i:=by
    rw [List.findIdx?_eq_some_iff_getElem]
    exact ⟨hil,hp,fun j hji=>by simpa using hj j (by omega) hji⟩
   rw [if_pos hp,hf]
  ·rw [if_neg hp]
   refine ih (i+1) (by omega) fun j h hji=>?_
   by_cases e:j=i
   ·subst e;simpa using hp
   ·exact hj j h (by omega)
def fldI (m:Mes) (number:Int):Int:=zil (fun f:Fld=>f.Number==number) m.Fields
def nmc (i:Nat) (c:UInt8):Bool:=decide (65≤c.toNat∧c.toNat≤90∨97≤c.toNat∧c.toNat≤122∨c.toNat=95∨0<i∧48≤c.toNat∧c.toNat≤57)
def nmA:Nat→List UInt8→Bool
 | _,[]=>true
 | i,c::l=>nmc i c&&nmA (i+1) l
def zfs (s:List UInt8):Bool:=nmA 0 s&&decide (1≤s.length∧s.length≤60)
theorem zmG {α:Type} {l t:List α} {x:α} {k:Nat} (h:l.drop k=x::t):∃hk:k<l.length,l[k]=x∧l.drop (k+1)=t:=by
 have hk:k<l.length:=by
  rcases Nat.lt_or_ge k l.length with h'| h'
  ·exact h'
  ·rw [List.drop_eq_nil_of_le h'] at h;cases h
 rw [List.drop_eq_getElem_cons hk] at h
 injection h with h1 h2
 exact ⟨hk,h1,h2⟩
theorem zoz {α:Type} {l:List α} {k:Nat} (h:l.drop k=[]):l.length≤k:=by have:=congrArg List.length h;simp at this;omega
def zcn (n:Int) (prev:List Fld) (f:Fld):Int:=
 if zfs f.Name=false then 5 else if prev.any (fun g=>g.Name==f.Name)=true then 6
 else if f.Number<1∨f.Number>536870911∨(19000≤f.Number∧f.Number<20000) then 7
 else if prev.any (fun g=>g.Number==f.Number)=true then 8 else if zbH f.Kind=false then 9
 else if f.Packed=true∧¬(f.Repeated=true∧kNum f.Kind=true) then 10
 else if f.Kind=17∧(f.Of<0∨f.Of≥n)∨f.Kind≠17∧f.Of≠0 then 11 else 0
theorem zvr (n:Int) (prev:List Fld) (f:Fld):0≤zcn n prev f∧zcn n prev f≤11:=by
 unfold zcn
 repeat' split
 all_goals omega
def msgF (n:Int) (prev:List Fld):List Fld→Option (Nat×Int)
 | []=>none
 | f::l=>if 0<zcn n prev f then some (prev.length,zcn n prev f) else msgF n (prev++[f]) l
def chkF (n:Int) (prev:List Mes):List Mes→Option (Nat×Int×Int)
 | []=>none
 | m::l=>if zfs m.Name=false then some (prev.length, -1,2) else if prev.any (fun g=>g.Name==m.Name)=true then some (prev.length, -1,3)
  else if 200<m.Fields.length then some (prev.length, -1,4) else match msgF n [] m.Fields with
   | some (k,w)=>some (prev.length,(k:Int),w)
   | none=>chkF n (prev++[m]) l
def zij (s:List Mes):Int×Int×Int:=if s.length=0∨100<s.length then (-1, -1,1) else match chkF s.length [] s with
 | none=>(0,0,0)
 | some (i,k,w)=>((i:Int),k,w)
def zgV (s:List Mes):Bool:=decide ((zij s).2.2=0)
def WS (s:List Mes):Prop:=s.length≤140737488351232∧∀m∈s,m.Name.length≤140737488351232∧m.Fields.length≤140737488351232∧∀f∈m.Fields,f.Name.length≤140737488351232
theorem zoP {n:Int}:∀(l prev:List Fld),msgF n prev l=none↔∀(k:Nat) (f:Fld),l[k]? =some f→zcn n (prev++l.take k) f=0
 | [],prev=>by simp [msgF]
 | f::l,prev=>by
  have hb:=zvr n prev f
  rw [msgF]
  by_cases h:0<zcn n prev f
  ·rw [if_pos h]
   refine ⟨(fun h'=>nomatch h'),fun h'=>?_⟩
   have:=h' 0 f rfl
   simp at this;omega
  ·rw [if_neg h,zoP l (prev++[f])]
   constructor
   ·intro h' k g hg
    cases k with
    | zero=>simp at hg;subst hg;simp;omega
    | succ k=>have:=h' k g (by simpa using hg);simpa using this
   ·intro h' k g hg
    have:=h' (k+1) g (by simpa using hg)
    simpa using this
theorem zsO {n:Int}:∀(l prev:List Mes),chkF n prev l=none↔∀(i:Nat) (m:Mes),l[i]? =some m→zfs m.Name=true∧(prev++l.take i).any (fun g=>g.Name==m.Name)=false∧m.Fields.length≤200∧msgF n [] m.Fields=none
 | [],prev=>by simp [chkF]
 | m::l,prev=>by
  rw [chkF]
  by_cases h1:zfs m.Name=false
  ·rw [if_pos h1]
   refine ⟨(fun h'=>nomatch h'),fun h'=>?_⟩
   have:=(h' 0 m rfl).1
   rw [h1] at this;cases this
  ·rw [if_neg h1]
   by_cases h2:prev.any (fun g=>g.Name==m.Name)=true
   ·rw [if_pos h2]
    refine ⟨(fun h'=>nomatch h'),fun h'=>?_⟩
    have:=(h' 0 m rfl).2.1
    simp only [List.take_zero,List.append_nil] at this
    rw [h2] at this;cases this
   ·rw [if_neg h2]
    by_cases h3:200<m.Fields.length
    ·rw [if_pos h3]
     refine ⟨(fun h'=>nomatch h'),fun h'=>?_⟩
     have:=(h' 0 m rfl).2.2.1
     omega
    ·rw [if_neg h3]
     cases h4:msgF n [] m.Fields with
     | some p=>
      refine ⟨(fun h'=>nomatch h'),fun h'=>?_⟩
      have:=(h' 0 m rfl).2.2.2
      rw [h4] at this;cases this
     | none=>
      simp only
      rw [zsO l (prev++[m])]
      constructor
      ·intro h' i g hg
       cases i with
       | zero=>simp at hg;subst hg;exact ⟨by simpa using h1,by simpa using h2,by omega,h4⟩
       | succ i=>have:=h' i g (by simpa using hg);simpa using this
      ·intro h' i g hg
       have:=h' (i+1) g (by simpa using hg)
       simpa using this
theorem zCY:∀(n:Int) (l prev:List Fld) (k:Nat) (w:Int),msgF n prev l=some (k,w)→0<w:=by
 intro n l
 induction l with
 | nil=>intro prev k w h;cases h
 | cons f l ih=>
  intro prev k w h
  rw [msgF] at h
  split at h
  ·cases h;assumption
  ·exact ih _ _ _ h
theorem zyb:∀(n:Int) (l prev:List Mes) (i:Nat) (k w:Int),chkF n prev l=some (i,k,w)→0<w:=by
 intro n l
 induction l with
 | nil=>intro prev i k w h;cases h
 | cons m l ih=>
  intro prev i k w h
  rw [chkF] at h
  split at h
  ·cases h;omega
  ·split at h
   ·cases h;omega
   ·split at h
    ·cases h;omega
    ·split at h
     ·rename_i k' w' h';cases h;exact zCY _ _ _ _ _ h'
     ·exact ih _ _ _ _ h
structure zDE (n:Int) (f:Fld):Prop where
 name:zfs f.Name=true
 lo:1≤f.Number
 hi:f.Number≤536870911
 kind:zbH f.Kind=true
 packed:f.Packed=true→f.Repeated=true∧kNum f.Kind=true
 sub:f.Kind=17→0≤f.Of∧f.Of<n
 noSub:f.Kind≠17→f.Of=0
theorem zqR {n:Int} {prev:List Fld} {f:Fld} (h:zcn n prev f=0):zDE n f∧prev.any (fun g=>g.Name==f.Name)=false∧prev.any (fun g=>g.Number==f.Number)=false:=by
 unfold zcn at h
 split at h
 ·omega
 ·rename_i h1
  split at h
  ·omega
  ·rename_i h2
   split at h
   ·omega
   ·rename_i h3
    split at h
    ·omega
    ·rename_i h4
     split at h
     ·omega
     ·rename_i h5
      split at h
      ·omega
      ·rename_i h6
       split at h
       ·omega
       ·rename_i h7
        refine ⟨⟨by simpa using h1,by omega,by omega,by simpa using h5,fun hp=>?_,fun hk=>by omega,fun hk=>by omega⟩,by simpa using h2,by simpa using h4⟩
        by_cases hq:f.Repeated=true∧kNum f.Kind=true
        ·exact hq
        ·exact absurd ⟨hp,hq⟩ h6
structure zfK (s:List Mes):Prop where
 len:1≤s.length∧s.length≤100
 name:∀m∈s,zfs m.Name=true
 names:∀(i j:Nat) (a b:Mes),i<j→s[i]? =some a→s[j]? =some b→a.Name≠b.Name
 few:∀m∈s,m.Fields.length≤200
 fld:∀m∈s,∀f∈m.Fields,zDE s.length f
 nums:∀m∈s,∀(i j:Nat) (f g:Fld),i<j→m.Fields[i]? =some f→m.Fields[j]? =some g→f.Number≠g.Number∧f.Name≠g.Name
theorem zot {α:Type} {l:List α} {p:α→Bool} (h:l.any p=false) {x:α} (hx:x∈l):p x=false:=by
 rw [List.any_eq_false] at h
 simpa using h x hx
theorem zzO {s:List Mes} (h:zgV s=true):zfK s:=by
 have h0:(zij s).2.2=0:=by simpa [zgV] using h
 have h1:¬(s.length=0∨100<s.length):=fun hh=>by unfold zij at h0;rw [if_pos hh] at h0;simp at h0
 have h2:chkF s.length [] s=none:=by
  cases h4:chkF s.length [] s with
  | none=>rfl
  | some p=>
   exfalso
   obtain ⟨i,k,w⟩:=p
   have h5:(zij s).2.2=w:=by unfold zij;rw [if_neg h1,h4]
   have:=zyb _ _ _ _ _ _ h4
   omega
 have h3:=(zsO s []).1 h2
 have at':∀m∈s,zfs m.Name=true∧m.Fields.length≤200∧msgF s.length [] m.Fields=none:=fun m hm=>by
  obtain ⟨i,hi,rfl⟩:=List.getElem_of_mem hm
  have:=h3 i _ (List.getElem?_eq_getElem hi)
  exact ⟨this.1,this.2.2.1,this.2.2.2⟩
 refine ⟨by omega,fun m hm=>(at' m hm).1,fun i j a b hij ha hb=>?_,fun m hm=>(at' m hm).2.1,fun m hm f hf=>?_,fun m hm i j f g hij hf hg=>?_⟩
 ·have:=(h3 j b hb).2.1
  have hai:a∈([]++s.take j:List Mes):=by
   rw [List.nil_append]
   exact List.mem_of_getElem? (i:=i) (by rw [List.getElem?_take,if_pos hij];exact ha)
  simpa using zot this hai
 ·have h4:=(zoP m.Fields []).1 (at' m hm).2.2
  obtain ⟨i,hi,rfl⟩:=List.getElem_of_mem hf
  exact (zqR (h4 i _ (List.getElem?_eq_getElem hi))).1
 ·have h4:=(zoP m.Fields []).1 (at' m hm).2.2
  obtain ⟨_,k1,k2⟩:=zqR (h4 j g hg)
  have hai:f∈([]++m.Fields.take j:List Fld):=by
   rw [List.nil_append]
   exact List.mem_of_getElem? (i:=i) (by rw [List.getElem?_take,if_pos hij];exact hf)
  exact ⟨by simpa using zot k2 hai,by simpa using zot k1 hai⟩
theorem zks {α:Type} [DecidableEq α] (a b:List α) (F:Int→Option (Unit⊕Unit)) (hl:a.length=b.length) (h0:F (a.length:Int)=some (.inl ()))
  (hs:∀(i:Nat) (h:i<a.length) (h':i<b.length),F (i:Int)=if a[i]=b[i] then F ((i+1:Nat):Int) else some (.inr ())):
  ∀(d i:Nat),i+d=a.length→F (i:Int)=some (if a.drop i=b.drop i then .inl () else .inr ()):=by
 intro d
 induction d with
 | zero=>
  intro i hi
  have e1:a.drop i=[]:=List.drop_eq_nil_of_le (by omega)
  have e2:b.drop i=[]:=List.drop_eq_nil_of_le (by omega)
  have:i=a.length:=by omega
  rw [e1,e2,if_pos rfl,this,h0]
 | succ d ih=>
  intro i hi
  rw [hs i (by omega) (by omega),List.drop_eq_getElem_cons (l:=a) (by omega),List.drop_eq_getElem_cons (l:=b) (by omega)]
  by_cases h:a[i]'(by omega)=b[i]'(by omega)
  ·rw [if_pos h,ih (i+1) (by omega),h]
   simp only [List.cons.injEq,true_and]
  ·rw [if_neg h,if_neg (fun e=>h (List.cons.inj e).1)]
theorem zzm {s:List Mes} {i:Nat} {m:Mes} (hi:∃h:i<s.length,s[i]=m) (hb:m.Fields.length≤140737488351232):∀(d k:Nat) (n:Int),k+d=m.Fields.length→∃r,zcu i s n k=some r:=by
 obtain ⟨hil,hm⟩:=hi
 have e1:idx s (i:Int)=some m:=by rw [zan rfl hil,hm]
 intro d
 induction d with
 | zero=>
  intro k n hk
  refine ⟨n,zjv ?_⟩
  unfold zba
  rw [e1,sb,itF (by simp;omega)]
 | succ d ih=>
  intro k n hk
  obtain ⟨r,hr⟩:=ih (k+1) (IntKind.i64.wrap (n+(IntKind.i64.wrap (Int.tdiv (((m.Fields[k]'(by omega)).Name.length:Int)) 100)))) (by omega)
  refine ⟨r,(zju (k':=((k+1:Nat):Int)) ?_).trans hr⟩
  unfold zba
  rw [e1,sb,itT (by simp;omega),sb,zan rfl (by omega),sb,zW (x:=(k:Int)+1) (by omega)]
  push_cast;rfl
theorem zDW {s:List Mes} (hw:WS s):∃b,zee s=some b:=by
 obtain ⟨hs,hm⟩:=hw
 have key:∀(d i:Nat) (n:Int),i+d=s.length→∃r,zct s n i=some r:=by
  intro d
  induction d with
  | zero=>
   intro i n hi
   refine ⟨n,zjt ?_⟩
   unfold zaZ
   rw [itF (by simp;omega)]
  | succ d ih=>
   intro i n hi
   have hil:i<s.length:=by omega
   obtain ⟨q,hq⟩:=zzm (s:=s) (i:=i) (m:=s[i]) ⟨hil,rfl⟩ (hm _ (List.getElem_mem hil)).2.1 (s[i]).Fields.length 0
    (IntKind.i64.wrap ((IntKind.i64.wrap ((IntKind.i64.wrap (n+1))+(IntKind.i64.wrap (Int.tdiv ((s[i]).Name.length:Int) 100))))+((s[i]).Fields.length:Int))) (by omega)
   have hq':zcu i s (IntKind.i64.wrap ((IntKind.i64.wrap ((IntKind.i64.wrap (n+1))+(IntKind.i64.wrap (Int.tdiv ((s[i]).Name.length:Int) 100))))+((s[i]).Fields.length:Int))) 0=some q:=hq
   obtain ⟨r,hr⟩:=ih (i+1) q (by omega)
   refine ⟨r,(zjs (i':=((i+1:Nat):Int)) ?_).trans hr⟩
   unfold zaZ
   rw [itT (by simp;omega),zan rfl hil,sb,sb,hq',sb,zW (x:=(i:Int)+1) (by omega)]
   push_cast;rfl
 obtain ⟨r,hr⟩:=key s.length 0 0 (by omega)
 have hr':zct s 0 0=some r:=hr
 exact ⟨_,by unfold zee;rw [hr',sb]⟩
def zfz (m:Mes) (p:Int):Int:=(m.Fields.getD p.toNat ⟨[],0,0,false,false,0⟩).Number
def insS (κ:Int→Int) (i:Int) (out:List Int):List Int:=out.takeWhile (fun x=>decide (κ x≤κ i))++i::out.dropWhile (fun x=>decide (κ x≤κ i))
def zeD (κ:Int→Int):Nat→List Int
 | 0=>[]
 | n+1=>insS κ n (zeD κ n)
theorem zte (κ:Int→Int) (i:Int) (out:List Int):(insS κ i out).Perm (i::out):=by
 unfold insS
 refine List.perm_middle.trans ?_
 rw [List.takeWhile_append_dropWhile]
theorem zej {κ:Int→Int}:∀{n:Nat} {x:Int},x∈zeD κ n↔0≤x∧x<n
 | 0,x=>by
  simp only [zeD,List.not_mem_nil,false_iff];omega
 | n+1,x=>by
  rw [zeD,(zte κ n _).mem_iff,List.mem_cons,zej]
  omega
theorem ztz (κ:Int→Int):∀(n:Nat),(zeD κ n).length=n
 | 0=>rfl
 | n+1=>by rw [zeD,(zte κ n _).length_eq,List.length_cons,ztz κ n]
def zov (κ:Int→Int) (a b:Int):Prop:=κ a<κ b∨κ a=κ b∧a<b
theorem zuT {κ:Int→Int} {c:Int}:∀{l:List Int},∀x∈l.takeWhile (fun x=>decide (κ x≤c)),κ x≤c∧x∈l:=by
 intro l
 induction l with
 | nil=>intro x hx;simp at hx
 | cons y l ih=>
  intro x hx
  rw [List.takeWhile_cons] at hx
  by_cases hy:κ y≤c
  ·rw [if_pos (by simpa using hy)] at hx
   rcases List.mem_cons.1 hx with rfl| hx
   ·exact ⟨hy,List.mem_cons_self⟩
   ·exact ⟨(ih x hx).1,List.mem_cons_of_mem _ (ih x hx).2⟩
  ·rw [if_neg (by simpa using hy)] at hx;cases hx
theorem zuf {κ:Int→Int} {c:Int}:∀{l:List Int},l.Pairwise (zov κ)→∀x∈l.dropWhile (fun x=>decide (κ x≤c)),c<κ x:=by
 intro l
 induction l with
 | nil=>intro _ x hx;simp at hx
 | cons y l ih=>
  intro hp x hx
  rw [List.dropWhile_cons] at hx
  have hp':=List.pairwise_cons.1 hp
  by_cases hy:κ y≤c
  ·rw [if_pos (by simpa using hy)] at hx
   exact ih hp'.2 x hx
  ·rw [if_neg (by simpa using hy)] at hx
   rcases List.mem_cons.1 hx with rfl| hx
   ·omega
   ·have:=hp'.1 x hx
    unfold zov at this
    omega
theorem znY (κ:Int→Int):∀(n:Nat),(zeD κ n).Pairwise (zov κ)
 | 0=> .nil
 | n+1=>by
  have ih:=znY κ n
  have hm:∀x∈zeD κ n,x<n:=fun x hx=>(zej.1 hx).2
  rw [zeD,insS]
  have hsplit:(zeD κ n).takeWhile (fun x=>decide (κ x≤κ n))++(zeD κ n).dropWhile (fun x=>decide (κ x≤κ n))=zeD κ n:=List.takeWhile_append_dropWhile
  have hp:((zeD κ n).takeWhile (fun x=>decide (κ x≤κ n))++(zeD κ n).dropWhile (fun x=>decide (κ x≤κ n))).Pairwise (zov κ):=by rw [hsplit];exact ih
  have ht:=zuT (κ:=κ) (c:=κ n) (l:=zeD κ n)
  have hd:=zuf (c:=κ n) ih
  have htm:∀x∈(zeD κ n).takeWhile (fun x=>decide (κ x≤κ n)),x<n:=fun x hx=>hm x (ht x hx).2
  rw [List.pairwise_append] at hp⊢
  refine ⟨hp.1,List.pairwise_cons.2 ⟨fun x hx=> .inl (hd x hx),hp.2.1⟩,fun a ha b hb=>?_⟩
  rcases List.mem_cons.1 hb with rfl| hb
  ·have h1:=(ht a ha).1
   have h2:=htm a ha
   unfold zov;omega
  ·exact hp.2.2 a ha b hb
end Go.Proofs.YtcbkcblkecmjnaaGreat
namespace Go.Proofs.YtcbkcblkecmjnaaGreat
open Go
set_option linter.unusedVariables false
abbrev Vw:=zsp
def zvw:Vw:=⟨zrec,0,false⟩
def zX (m:Mes) (i:Int):Fld:=m.Fields.getD i.toNat ⟨[],0,0,false,false,0⟩
def vw (m:Mes) (n w:Int):Int⊕(Int×Bool):=
 if fldI m n<0 then .inr (-1,false)
 else if (zX m (fldI m n)).Repeated=true∧kNum (zX m (fldI m n)).Kind=true∧w=2 then .inr (fldI m n,true)
 else if zbH (zX m (fldI m n)).Kind=false∨zcX (zX m (fldI m n)).Kind≠w then .inl 6 else .inr (fldI m n,false)
theorem zgO (m:Mes) (n:Int):fldI m n= -1∧(∀f∈m.Fields,f.Number≠n)∨∃(i:Nat) (h:i<m.Fields.length),fldI m n=i∧m.Fields[i].Number=n∧∀(j:Nat) (h:j<m.Fields.length),j<i→m.Fields[j].Number≠n:=by
 unfold fldI
 cases h:m.Fields.findIdx? (fun f:Fld=>f.Number==n) with
 | none=>
  left
  rw [List.findIdx?_eq_none_iff] at h
  exact ⟨ziQ (List.findIdx?_eq_none_iff.2 h),fun f hf=>by simpa using h f hf⟩
 | some i=>
  right
  have h':=h
  rw [List.findIdx?_eq_some_iff_getElem] at h
  obtain ⟨hi,hp,hj⟩:=h
  exact ⟨i,hi,ziR h',by simpa using hp,fun j hjl hji=>by simpa using hj j hji⟩
theorem zdK {m:Mes} {i:Nat} (h:i<m.Fields.length):zX m (i:Int)=m.Fields[i]:=by
 unfold zX;rw [Int.toNat_natCast,List.getD_eq_getElem?_getD,List.getElem?_eq_getElem h];rfl
theorem zfi (m:Mes) (n w:Int):vw m n w= .inl 6∨vw m n w= .inr (-1,false)∧fldI m n= -1∨∃(i:Nat) (run:Bool),vw m n w= .inr ((i:Int),run)∧fldI m n=i∧i<m.Fields.length:=by
 unfold vw
 rcases zgO m n with ⟨h,_⟩| ⟨i,hi,h,_⟩
 ·right;left;rw [h,if_pos (by omega)];exact ⟨rfl,rfl⟩
 ·rw [h,if_neg (by omega)]
  split
  ·right;right;exact ⟨i,true,rfl,rfl,hi⟩
  ·split
   ·left;rfl
   ·right;right;exact ⟨i,false,rfl,rfl,hi⟩
def zdA (m:Mes) (b:List UInt8) (at5:Int):Vw×Int:=
 if (zed b at5).2≠0 then (zvw,(zed b at5).2) else match vw m (zed b at5).1.Number (zed b at5).1.Wire with
  | .inl c=>(zvw,c)
  | .inr (i,run)=>(⟨(zed b at5).1,i,run⟩,0)
def vws (m:Mes) (e:Option (Nat×Int)):List Rec→List Vw×Option (Int×Int)
 | []=>([],e.map fun p=>((p.1:Int),p.2))
 | r::l=>match vw m r.Number r.Wire with
  | .inl c=>([],some (r.From,c))
  | .inr (i,run)=>(⟨r,i,run⟩::(vws m e l).1,(vws m e l).2)
def vwR (r:List Vw×Option (Int×Int)):List Vw×Int×Int:=match r.2 with
 | none=>(r.1,0,0)
 | some (p,c)=>([],p,c)
def zea (m:Mes) (b:List UInt8):List Vw×Int×Int:=vwR (vws m (spl 0 b).2 (spl 0 b).1)
end Go.Proofs.YtcbkcblkecmjnaaGreat
namespace Go.Proofs.YtcbkcblkecmjnaaGreat
open Go
set_option linter.unusedVariables false
def zY (s:List Mes) (i:Int):Mes:=s.getD i.toNat ⟨[],[]⟩
theorem zfa {s:List Mes} {i:Nat} (h:i<s.length):zY s (i:Int)=s[i]:=by
 unfold zY;rw [Int.toNat_natCast,List.getD_eq_getElem?_getD,List.getElem?_eq_getElem h];rfl
def valB (b:List UInt8) (r:Rec):List UInt8:=(b.drop r.At.toNat).take (r.To.toNat - r.At.toNat)
abbrev zhP:=Option (Int→List UInt8→Option (Int×Int))
def zis (f:Fld) (run:Bool) (sub:zhP) (r:Rec) (v:List UInt8):Option (Int×Int):=
 if run=true then (if (zkB f.Kind v).2≠0 then some (r.From,(zkB f.Kind v).2) else none)
 else if f.Kind=15∧zey v=false then some (r.From,7)
 else if f.Kind=17 then (match sub with
  | none=>some (r.From,8)
  | some g=>match g f.Of v with
   | some (p,c)=>some (r.At+p,c)
   | none=>none)
 else none
def zcD (m:Mes) (sub:zhP) (b:List UInt8) (r:Rec):Option (Int×Int):=match vw m r.Number r.Wire with
 | .inl c=>some (r.From,c)
 | .inr (i,run)=>if i<0 then none else zis (zX m i) run sub r (valB b r)
def zce (m:Mes) (sub:zhP) (b:List UInt8) (x:List Rec×Option (Nat×Int)):Option (Int×Int):=match x.1.findSome? (zcD m sub b) with
 | some p=>some p
 | none=>x.2.map fun p=>((p.1:Int),p.2)
def zaf (s:List Mes):Nat→Int→List UInt8→Option (Int×Int)
 | 0,k,b=>zce (zY s k) none b (spl 0 b)
 | d+1,k,b=>zce (zY s k) (some (zaf s d)) b (spl 0 b)
def zqz (g:Int→List UInt8→Option (Int×Int)):Prop:=∀k v p c,g k v=some (p,c)→3≤c∧c≤8∧0≤p∧p<v.length
theorem zzk (k:Int) {b:List UInt8}:(zkB k b).2=0∨(zkB k b).2=2∧kNum k=false∨(zkB k b).2=3∨(zkB k b).2=4:=by
 unfold zkB
 have:=zwc k b
 split
 ·rename_i h;exact .inr (.inl ⟨rfl,h⟩)
 ·split
  ·exact .inl rfl
  ·rename_i h;simp only;omega
theorem zxW {m:Mes} {n w:Int} {i:Int} (h:vw m n w= .inr (i,true)):kNum (zX m i).Kind=true∧(zX m i).Repeated=true∧w=2:=by
 unfold vw at h
 split at h
 ·cases h
 ·split at h
  ·rename_i h1;cases h;exact ⟨h1.2.1,h1.1,h1.2.2⟩
  ·split at h<;>cases h
theorem zwz {b:List UInt8} {r:Rec} {base a t:Nat} (hr:r.At=((base+a:Nat):Int)) (ht:r.To=((base+t:Nat):Int)) (h:base+t≤b.length) (hat:a≤t):(valB b r).length=t - a:=by
 unfold valB;rw [hr,ht];simp;omega
theorem ztB {m:Mes} {sub:zhP} {b:List UInt8} (hg:∀g,sub=some g→zqz g) {n w:Int} {base a t:Nat} (h1:1≤a) (hat:a≤t) (ht:base+t≤b.length) {p c:Int}
  (h:zcD m sub b ⟨n,w,base,(base+a:Nat),(base+t:Nat)⟩=some (p,c)):3≤c∧c≤8∧0≤p∧p<b.length:=by
 unfold zcD at h
 rcases zfi m n w with hv| ⟨hv,_⟩| ⟨i,run,hv,_,hi⟩
 ·simp only [hv] at h;cases h;(try dsimp only);omega
 ·simp only [hv] at h;rw [if_pos (by omega)] at h;cases h
 ·simp only [hv] at h
  rw [if_neg (by omega)] at h
  unfold zis at h
  split at h
  ·rename_i hr
   subst hr
   have hk:=zxW hv
   split at h
   ·cases h
    have:=zzk (zX m i).Kind (b:=valB b ⟨n,w,base,(base+a:Nat),(base+t:Nat)⟩)
    rw [hk.1] at this
    simp only [Bool.true_eq_false,and_false,false_or] at this
    (try dsimp only)
    omega
   ·cases h
  ·split at h
   ·cases h;(try dsimp only);omega
   ·split at h
    ·cases sub with
     | none=>simp only at h;cases h;(try dsimp only);omega
     | some g=>
      simp only at h
      have hl:=zwz (b:=b) (r:=⟨n,w,base,(base+a:Nat),(base+t:Nat)⟩) rfl rfl ht hat
      cases hgv:g (zX m i).Of (valB b ⟨n,w,base,(base+a:Nat),(base+t:Nat)⟩) with
      | none=>rw [hgv] at h;cases h
      | some q=>
       obtain ⟨q1,q2⟩:=q
       rw [hgv] at h
       have:=hg g rfl _ _ _ _ hgv
       cases h
       (try dsimp only)
       omega
    ·cases h
theorem ztb {m:Mes} {sub:zhP} {b:List UInt8} (hg:∀g,sub=some g→zqz g) (base:Nat) (l:List UInt8):l=b.drop base→base≤b.length→∀p c,zce m sub b (spl base l)=some (p,c)→3≤c∧c≤8∧0≤p∧p<b.length:=by
 refine zgz (fun base l=>l=b.drop base→base≤b.length→∀p c,zce m sub b (spl base l)=some (p,c)→3≤c∧c≤8∧0≤p∧p<b.length) ?_ ?_ ?_ base l
 ·intro base _ _ p c h
  unfold zce at h;rw [zfm] at h;cases h
 ·intro base l c' hl h hc hld hb p c h2
  have hlt:base<b.length:=by subst hld;have:=List.length_pos_iff.2 hl;simp at this;omega
  unfold zce at h2;rw [zfJ hl h] at h2
  simp only [List.findSome?_nil,Option.map_some] at h2
  cases h2;omega
 ·intro base l n w a t hl h _ g1 g2 g3 ih hld hb p c h2
  have hbl:base+t≤b.length:=by subst hld;simp at g3;omega
  unfold zce at h2 ih
  rw [zdR hl h] at h2
  simp only [List.findSome?_cons] at h2
  cases hs:zcD m sub b ⟨n,w,base,(base+a:Nat),(base+t:Nat)⟩ with
  | some q=>rw [hs] at h2;cases h2;exact ztB hg g1 g2 hbl hs
  | none=>
   rw [hs] at h2
   exact ih (by rw [hld,List.drop_drop]) hbl p c h2
theorem zim (s:List Mes):∀(d:Nat),zqz (zaf s d)
 | 0=>fun k v p c h=>ztb (fun g hg=>by cases hg) 0 v rfl (Nat.zero_le _) p c h
 | d+1=>fun k v p c h=>ztb (fun g hg=>by cases hg;exact zim s d) 0 v rfl (Nat.zero_le _) p c h
def argS (s:List Mes) (root d:Int):Int:=if zgV s=false then 9 else if root<0∨root≥s.length∨d<0∨d>64 then 2 else 0
def zbO (s:List Mes) (root:Int) (b:List UInt8) (d:Int):Int×Int:=if argS s root d≠0 then (0,argS s root d) else (zaf s d.toNat root b).getD (0,0)
theorem zlQ {s:List Mes} {root d:Int} (h:argS s root d=0):zfK s∧0≤root∧root<s.length∧0≤d∧d≤64:=by
 unfold argS at h
 split at h
 ·omega
 ·rename_i h1
  split at h
  ·omega
  ·rename_i h2
   exact ⟨zzO (by simpa using h1),by omega⟩
def is11 (s:List Mes) (root:Int) (b:List UInt8) (d:Int):Bool:=(zbO s root b d).2==0
def zhg (s:List Mes) (root:Int) (b:List UInt8):Nat:=((List.range 64).find? fun d=>is11 s root b (d:Nat)).getD 64
def zDO (a b:zhP):Prop:=∀g,a=some g→∃g',b=some g'∧∀k v,g k v=none→g' k v=none
theorem zzZ {m:Mes} {a c:zhP} (h:zDO a c) {b:List UInt8} {r:Rec} (hn:zcD m a b r=none):zcD m c b r=none:=by
 unfold zcD at hn⊢
 cases hv:vw m r.Number r.Wire with
 | inl x=>rw [hv] at hn;cases hn
 | inr p=>
  obtain ⟨i,run⟩:=p
  rw [hv] at hn
  simp only at hn⊢
  by_cases hi:i<0
  ·rw [if_pos hi]
  ·rw [if_neg hi] at hn⊢
   unfold zis at hn⊢
   by_cases hr:run=true
   ·rw [if_pos hr] at hn⊢;exact hn
   ·rw [if_neg hr] at hn⊢
    by_cases h15:(zX m i).Kind=15∧zey (valB b r)=false
    ·rw [if_pos h15] at hn;cases hn
    ·rw [if_neg h15] at hn⊢
     by_cases h17:(zX m i).Kind=17
     ·rw [if_pos h17] at hn⊢
      cases a with
      | none=>cases hn
      | some g=>
       obtain ⟨g',rfl,hg⟩:=h g rfl
       simp only at hn⊢
       cases hgv:g (zX m i).Of (valB b r) with
       | some q=>rw [hgv] at hn;cases hn
       | none=>rw [hg _ _ hgv]
     ·rw [if_neg h17]
theorem zdB {m:Mes} {sub:zhP} {b:List UInt8} {x:List Rec×Option (Nat×Int)}:zce m sub b x=none↔(∀r∈x.1,zcD m sub b r=none)∧x.2=none:=by
 unfold zce
 cases h:x.1.findSome? (zcD m sub b) with
 | some p=>
  refine ⟨(fun h'=>nomatch h'),fun ⟨h1,_⟩=>?_⟩
  obtain ⟨r,hr,hs⟩:=List.exists_of_findSome?_eq_some h
  rw [h1 r hr] at hs;cases hs
 | none=>
  rw [List.findSome?_eq_none_iff] at h
  cases hx:x.2 with
  | none=>exact ⟨fun _=>⟨h,rfl⟩,fun _=>rfl⟩
  | some p=>exact ⟨(fun h'=>nomatch h'),fun ⟨_,h2⟩=>nomatch h2⟩
theorem ztc {m:Mes} {a c:zhP} (h:zDO a c) {b:List UInt8} {x:List Rec×Option (Nat×Int)} (hn:zce m a b x=none):zce m c b x=none:=by
 rw [zdB] at hn⊢
 exact ⟨fun r hr=>zzZ h (hn.1 r hr),hn.2⟩
theorem zqX (s:List Mes):∀(d:Nat) (k:Int) (b:List UInt8),zaf s d k b=none→zaf s (d+1) k b=none
 | 0,k,b,h=>ztc (a:=none) (fun g hg=>nomatch hg) h
 | d+1,k,b,h=>ztc (a:=some (zaf s d)) (fun g hg=>by cases hg;exact ⟨_,rfl,fun k v hv=>zqX s d k v hv⟩) h
theorem zvx (s:List Mes) {d e:Nat} (hde:d≤e) (k:Int) (b:List UInt8) (h:zaf s d k b=none):zaf s e k b=none:=by
 induction hde with
 | refl=>exact h
 | step _ ih=>exact zqX s _ k b ih
theorem zpL {b:List UInt8} (z:List UInt8) {r:Rec} (h0:0≤r.To) (h:r.To≤b.length):valB (b++z) r=valB b r:=by
 unfold valB
 by_cases ha:r.At.toNat≤b.length
 ·rw [List.drop_append_of_le_length ha,List.take_append_of_le_length (by simp;omega)]
 ·have e:r.To.toNat - r.At.toNat=0:=by omega
  rw [e,List.take_zero,List.take_zero]
theorem zne (a b:List UInt8) {r:Rec} (h0:0≤r.At) (h1:r.At≤r.To):valB (a++b) (ziB a.length r)=valB b r:=by
 unfold valB ziB
 simp only
 have e1:(r.At+(a.length:Int)).toNat=a.length+r.At.toNat:=by omega
 have e2:(r.To+(a.length:Int)).toNat - (a.length+r.At.toNat)=r.To.toNat - r.At.toNat:=by omega
 rw [e1,e2,←List.drop_drop,List.drop_left]
theorem zrR {m:Mes} {sub:zhP} {b b':List UInt8} {r r':Rec} (hn:r'.Number=r.Number) (hw:r'.Wire=r.Wire) (hv:valB b' r'=valB b r):zcD m sub b' r'=none↔zcD m sub b r=none:=by
 unfold zcD
 rw [hn,hw,hv]
 cases vw m r.Number r.Wire with
 | inl c=>simp
 | inr p=>
  simp only
  by_cases hi:p.1<0
  ·simp [hi]
  ·rw [if_neg hi,if_neg hi]
   unfold zis
   by_cases hr:p.2=true
   ·rw [if_pos hr,if_pos hr]
    by_cases he:(zkB (zX m p.1).Kind (valB b r)).2≠0
    ·rw [if_pos he,if_pos he];simp
    ·rw [if_neg he,if_neg he]
   ·rw [if_neg hr,if_neg hr]
    by_cases h15:(zX m p.1).Kind=15∧zey (valB b r)=false
    ·rw [if_pos h15,if_pos h15];simp
    ·rw [if_neg h15,if_neg h15]
     by_cases h17:(zX m p.1).Kind=17
     ·rw [if_pos h17,if_pos h17]
      cases sub with
      | none=>simp
      | some g=>simp only;cases g (zX m p.1).Of (valB b r)<;>simp
     ·rw [if_neg h17,if_neg h17]
theorem zpd (base:Nat) (l:List UInt8):∀r∈(spl base l).1,(base:Int)≤r.From∧r.From<r.At∧r.At≤r.To∧r.To≤base+l.length:=by
 refine zgz (fun base l=>∀r∈(spl base l).1,(base:Int)≤r.From∧r.From<r.At∧r.At≤r.To∧r.To≤base+l.length) ?_ ?_ ?_ base l
 ·intro base r hr;rw [zfm] at hr;cases hr
 ·intro base l c hl h _ r hr;rw [zfJ hl h] at hr;cases hr
 ·intro base l n w a t hl h _ g1 g2 g3 ih r hr
  rw [zdR hl h] at hr
  rcases List.mem_cons.1 hr with rfl| hr
  ·simp only;omega
  ·have:=ih r hr
   simp only [List.length_drop] at this
   omega
theorem zpz {m:Mes} {sub:zhP} {a:List UInt8} (z:List UInt8) (h:zce m sub a (spl 0 a)=none):zce m sub (a++z) (spl 0 (a++z))=none↔zce m sub z (spl 0 z)=none:=by
 rw [zdB] at h
 have hap:=zrQ z 0 a h.2
 have hsh:=ztA a.length 0 z
 rw [Nat.zero_add] at hap hsh
 rw [hsh] at hap
 rw [zdB,zdB,hap]
 simp only [List.mem_append,List.mem_map]
 constructor
 ·rintro ⟨h1,h2⟩
  refine ⟨fun r hr=>?_,by cases hz:(spl 0 z).2 with| none=>rfl| some p=>rw [hz] at h2;cases h2⟩
  have hb:=zpd 0 z r hr
  have:=h1 (ziB a.length r) (.inr ⟨r,hr,rfl⟩)
  exact (zrR (r:=r) (r':=ziB a.length r) rfl rfl (zne a z (by omega) (by omega))).1 this
 ·rintro ⟨h1,h2⟩
  refine ⟨fun r hr=>?_,by rw [h2];rfl⟩
  rcases hr with hr| ⟨r,hr,rfl⟩
  ·have hb:=zpd 0 a r hr
   exact (zrR (r:=r) (r':=r) rfl rfl (zpL z (by omega) (by omega))).2 (h.1 r hr)
  ·have hb:=zpd 0 z r hr
   exact (zrR (r:=r) (r':=ziB a.length r) rfl rfl (zne a z (by omega) (by omega))).2 (h1 r hr)
theorem zgn (s:List Mes) (d:Nat) (k:Int) {a:List UInt8} (z:List UInt8) (h:zaf s d k a=none):zaf s d k (a++z)=none↔zaf s d k z=none:=by
 cases d with
 | zero=>exact zpz z h
 | succ d=>exact zpz z h
theorem zfy {s:List Mes} {root:Int} {b:List UInt8} {d:Int}:is11 s root b d=true↔argS s root d=0∧zaf s d.toNat root b=none:=by
 unfold is11 zbO
 by_cases h:argS s root d=0
 ·rw [if_neg (by simpa using h)]
  cases hf:zaf s d.toNat root b with
  | none=>simp [h]
  | some p=>
   obtain ⟨p,c⟩:=p
   have:=zim s d.toNat root b p c hf
   simp only [Option.getD_some,h,true_and]
   simp;omega
 ·rw [if_pos h]
  simp [h]
theorem zqG {s:List Mes} {root d e:Int} (h:argS s root d=0) (he:0≤e∧e≤64):argS s root e=0:=by
 unfold argS at h⊢
 split at h
 ·omega
 ·rename_i h1
  rw [if_neg h1]
  split at h
  ·omega
  ·rw [if_neg (by omega)]
theorem zwY {s:List Mes} {root:Int} {b:List UInt8}:zhg s root b≤64:=by
 unfold zhg
 cases h:(List.range 64).find? fun d=>is11 s root b (d:Nat) with
 | none=>simp
 | some d=>have:=List.mem_of_find?_eq_some h;simp at this⊢;omega
theorem ziP {s:List Mes} {root:Int} {b:List UInt8} (h:is11 s root b 64=true) {d:Nat} (hd:d≤64):is11 s root b (d:Nat)=true↔zhg s root b≤d:=by
 obtain ⟨ha,hf⟩:=zfy.1 h
 have iff:∀e:Nat,e≤64→(is11 s root b (e:Nat)=true↔zaf s e root b=none):=fun e he=>by
  rw [zfy,Int.toNat_natCast]
  exact ⟨fun h=>h.2,fun h=>⟨zqG ha (by omega),h⟩⟩
 unfold zhg
 cases hx:(List.range 64).find? fun d=>is11 s root b (d:Nat) with
 | none=>
  simp only [Option.getD_none]
  rw [List.find?_eq_none] at hx
  constructor
  ·intro hi
   rcases Nat.lt_or_ge d 64 with h'| h'
   ·have:=hx d (by simpa using h');rw [hi] at this;exact absurd rfl this
   ·exact h'
  ·intro h'
   have:d=64:=by omega
   subst this;exact h
 | some e=>
  simp only [Option.getD_some]
  rw [List.find?_range_eq_some] at hx
  obtain ⟨h1,h2,h3⟩:=hx
  have he:e<64:=by simpa using h2
  constructor
  ·intro hi
   rcases Nat.lt_or_ge d e with h'| h'
   ·have:=h3 d h';rw [hi] at this;cases this
   ·exact h'
  ·intro h'
   rw [iff d hd]
   exact zvx s h' root b ((iff e (by omega)).1 h1)
end Go.Proofs.YtcbkcblkecmjnaaGreat
namespace Go.Proofs.YtcbkcblkecmjnaaGreat
open Go
set_option linter.unusedVariables false
abbrev Msg:=ze
abbrev Vlu:=zb
mutual
def szM:Msg→Nat
 | ⟨vs,_⟩=>1+szVs vs
def szVs:List Vlu→Nat
 | []=>0
 | v::l=>szV v+szVs l
def szV:Vlu→Nat
 | ⟨_,_,_,s⟩=>1+szMs s
def szMs:List Msg→Nat
 | []=>0
 | x::l=>szM x+szMs l
end
theorem zuP (x:Msg):szM x=1+szVs x.Values:=by cases x;rw [szM]
theorem zuQ (v:Vlu):szV v=1+szMs v.Subs:=by cases v;rw [szV]
theorem zlC {v:Vlu}:∀{l:List Vlu},v∈l→szV v≤szVs l
 | [],h=>by cases h
 | u::l,h=>by
  rw [szVs]
  rcases List.mem_cons.1 h with rfl| h
  ·omega
  ·have:=zlC h;omega
theorem zlB {x:Msg}:∀{l:List Msg},x∈l→szM x≤szMs l
 | [],h=>by cases h
 | u::l,h=>by
  rw [szMs]
  rcases List.mem_cons.1 h with rfl| h
  ·omega
  ·have:=zlB h;omega
mutual
/-- Within the reach of what a law is handed. -/
def bdM:Msg→Prop
 | ⟨vs,u⟩=>vs.length*80≤140737488351232∧(u.length*16≤140737488351232∧∀t∈u,t.length≤140737488351232)∧bdVs vs
def bdVs:List Vlu→Prop
 | []=>True
 | v::l=>bdV v∧bdVs l
def bdV:Vlu→Prop
 | ⟨n,w,t,s⟩=>(Lit.int .i64 n).wf=true∧(w.length*8≤140737488351232∧∀x∈w,0≤x∧x≤18446744073709551615)∧(t.length*16≤140737488351232∧∀x∈t,x.length≤140737488351232)∧s.length*48≤140737488351232∧bdMs s
def bdMs:List Msg→Prop
 | []=>True
 | x::l=>bdM x∧bdMs l
end
theorem zou (x:Msg):bdM x↔x.Values.length*80≤140737488351232∧(x.Unknown.length*16≤140737488351232∧∀t∈x.Unknown,t.length≤140737488351232)∧bdVs x.Values:=by cases x;simp only [bdM]
theorem zqH (v:Vlu):bdV v↔(Lit.int .i64 v.Number).wf=true∧(v.Words.length*8≤140737488351232∧∀x∈v.Words,0≤x∧x≤18446744073709551615)∧(v.Texts.length*16≤140737488351232∧∀x∈v.Texts,x.length≤140737488351232)∧v.Subs.length*48≤140737488351232∧bdMs v.Subs:=by cases v;simp only [bdV]
theorem zjq:∀{l:List Vlu},bdVs l↔∀v∈l,bdV v
 | []=>by simp [bdVs]
 | v::l=>by rw [bdVs,zjq (l:=l)];simp
theorem zjp:∀{l:List Msg},bdMs l↔∀v∈l,bdM v
 | []=>by simp [bdMs]
 | v::l=>by rw [bdMs,zjp (l:=l)];simp
section
open Classical
noncomputable def zly {α:Type} (x y:α):Bool:=decide (x=y)
theorem zeI {α:Type} {x y:α}:zly x y=true↔x=y:=by unfold zly;simp
end
def zbM (v:Vlu):Nat:=v.Words.length+v.Texts.length+v.Subs.length
mutual
def dM:Msg→Nat
 | ⟨vs,_⟩=>dVs vs
def dVs:List Vlu→Nat
 | []=>0
 | v::l=>max (dV v) (dVs l)
def dV:Vlu→Nat
 | ⟨_,_,_,s⟩=>dMs s
def dMs:List Msg→Nat
 | []=>0
 | x::l=>max (1+dM x) (dMs l)
end
theorem zDH (x:Msg):dM x=dVs x.Values:=by cases x;rw [dM]
theorem zAD (v:Vlu):dV v=dMs v.Subs:=by cases v;rw [dV]
theorem zue {v:Vlu}:∀{l:List Vlu},v∈l→dV v≤dVs l
 | [],h=>by cases h
 | u::l,h=>by
  rw [dVs]
  rcases List.mem_cons.1 h with rfl| h
  ·omega
  ·have:=zue h;omega
theorem zye {x:Msg}:∀{l:List Msg},x∈l→1+dM x≤dMs l
 | [],h=>by cases h
 | u::l,h=>by
  rw [dMs]
  rcases List.mem_cons.1 h with rfl| h
  ·omega
  ·have:=zye h;omega
structure Th where
 fi:Int
 run:Bool
 val:List UInt8
 raw:List UInt8
def rawB (b:List UInt8) (r:Rec):List UInt8:=(b.drop r.From.toNat).take (r.To.toNat - r.From.toNat)
def thOf (b:List UInt8) (t:Vw):Th:=⟨t.Field,t.Run,valB b t.R,rawB b t.R⟩
def ths (m:Mes) (b:List UInt8):List Th:=(zea m b).1.map (thOf b)
def wt:List Th→Nat
 | []=>0
 | t::l=>t.val.length+1+wt l
theorem zpr:∀(l:List Th),l.length≤wt l
 | []=>by simp [wt]
 | t::l=>by have:=zpr l;simp only [List.length_cons,wt];omega
theorem znh {t:Th}:∀{l:List Th},t∈l→t.val.length+1≤wt l
 | [],h=>by cases h
 | u::l,h=>by
  rw [wt]
  rcases List.mem_cons.1 h with rfl| h
  ·omega
  ·have:=znh h;omega
theorem zza {m:Mes} {e:Option (Nat×Int)}:∀{l:List Rec} {t:Vw},t∈(vws m e l).1→t.R∈l
 | [],t,h=>by simp [vws] at h
 | r::l,t,h=>by
  rw [vws] at h
  cases hv:vw m r.Number r.Wire with
  | inl c=>rw [hv] at h;simp at h
  | inr p=>
   rw [hv] at h
   rcases List.mem_cons.1 h with rfl| h
   ·exact List.mem_cons_self
   ·exact List.mem_cons_of_mem _ (zza h)
theorem zzg {m:Mes} {b:List UInt8} {t:Vw} (h:t∈(zea m b).1):t.R∈(spl 0 b).1:=by
 unfold zea vwR at h
 split at h
 ·exact zza h
 ·simp at h
theorem zAr {m:Mes} {b:List UInt8} {t:Vw} (h:t∈(zea m b).1):0≤t.R.From∧t.R.From<t.R.At∧t.R.At≤t.R.To∧t.R.To≤b.length:=by
 have:=zpd 0 b _ (zzg h)
 simpa using this
theorem zEF {m:Mes} {e:Option (Nat×Int)} (b:List UInt8):∀(base:Nat) (l:List UInt8),l=b.drop base→base≤b.length→wt ((vws m e (spl base l).1).1.map (thOf b))≤l.length:=by
 intro base l
 refine zgz (fun base l=>l=b.drop base→base≤b.length→wt ((vws m e (spl base l).1).1.map (thOf b))≤l.length) ?_ ?_ ?_ base l
 ·intro base _ _;rw [zfm];simp [vws,wt]
 ·intro base l c hl h _ _ _;rw [zfJ hl h];simp [vws,wt]
 ·intro base l n w a t hl h _ g1 g2 g3 ih hld hbase
  have hlen:l.length=b.length - base:=by rw [hld];simp
  have ih':=ih (by rw [hld,List.drop_drop]) (by omega)
  rw [zdR hl h,vws]
  cases hv:vw m n w with
  | inl c=>simp [wt]
  | inr p=>
   simp only [List.map_cons,wt,thOf,List.length_drop] at ih'⊢
   rw [zwz (b:=b) (base:=base) (a:=a) (t:=t) rfl rfl (by omega) g2]
   omega
theorem zmZ (m:Mes) (b:List UInt8):wt (ths m b)≤b.length:=by
 unfold ths zea vwR
 split
 ·exact zEF b 0 b rfl (Nat.zero_le _)
 ·simp [wt]
abbrev zcF:=List UInt8×Bool×List Int×List Str×List Msg
def stp (g:Int→List UInt8→Msg) (f:Fld) (a:zcF) (t:Th):zcF:=
 if t.run=true then (a.1,true,(if f.Repeated=true then a.2.2.1 else [])++(zbj f.Kind t.val).1,(if f.Repeated=true then a.2.2.2.1 else []),a.2.2.2.2)
 else if kNum f.Kind=true then (a.1,true,(if f.Repeated=true then a.2.2.1 else [])++[(zmx f.Kind t.val).1],(if f.Repeated=true then a.2.2.2.1 else []),a.2.2.2.2)
 else if f.Kind=17∧f.Repeated=true then (a.1,true,(if f.Repeated=true then a.2.2.1 else []),(if f.Repeated=true then a.2.2.2.1 else []),a.2.2.2.2++[g f.Of t.val])
 else if f.Kind=17 then (a.1++t.val,true,(if f.Repeated=true then a.2.2.1 else []),(if f.Repeated=true then a.2.2.2.1 else []),a.2.2.2.2)
 else (a.1,true,(if f.Repeated=true then a.2.2.1 else []),(if f.Repeated=true then a.2.2.2.1 else [])++[t.val],a.2.2.2.2)
def accF (g:Int→List UInt8→Msg) (f:Fld) (i:Int):zcF→List Th→zcF
 | a,[]=>a
 | a,t::l=>accF g f i (if t.fi=i then stp g f a t else a) l
theorem zpt (g:Int→List UInt8→Msg) (f:Fld) (i:Int):∀(a:zcF) (l m:List Th),accF g f i a (l++m)=accF g f i (accF g f i a l) m
 | a,[],m=>rfl
 | a,t::l,m=>by simp only [List.cons_append,accF];exact zpt g f i _ l m
def wA (a:zcF):Nat:=a.1.length+a.2.2.1.length+a.2.2.2.1.length+a.2.2.2.2.length
def wJ (a:zcF):Nat:=a.1.length+(if a.2.1=true then 1 else 0)
theorem ztJ (k:Int) (v:List UInt8):(zbj k v).1.length≤v.length:=by
 unfold zbj
 have:=zyL k v
 split
 ·simp
 ·split
  ·simpa using this
  ·simp
theorem zEv (g:Int→List UInt8→Msg) (f:Fld) (a:zcF) (t:Th):wA (stp g f a t)≤wA a+t.val.length+1∧wJ (stp g f a t)≤wJ a+t.val.length+1:=by
 have h1:(if f.Repeated=true then a.2.2.1 else []).length≤a.2.2.1.length:=by split<;>simp
 have h2:(if f.Repeated=true then a.2.2.2.1 else []).length≤a.2.2.2.1.length:=by split<;>simp
 have h3:=ztJ f.Kind t.val
 unfold stp wA wJ
 split
 ·simp only [List.length_append,if_true];omega
 ·split
  ·simp only [List.length_append,List.length_singleton,if_true];omega
  ·split
   ·simp only [List.length_append,List.length_singleton,if_true];omega
   ·split
    ·simp only [List.length_append,if_true];omega
    ·simp only [List.length_append,List.length_singleton,if_true];omega
theorem zos (g:Int→List UInt8→Msg) (f:Fld) (i:Int):∀(a:zcF) (l:List Th),wA (accF g f i a l)≤wA a+wt l∧wJ (accF g f i a l)≤wJ a+wt l
 | a,[]=>by simp [accF,wt]
 | a,t::l=>by
  have h:=zos g f i (if t.fi=i then stp g f a t else a) l
  have h2:=zEv g f a t
  rw [accF,wt]
  split at h
  ·rename_i ht;rw [if_pos ht];omega
  ·rename_i ht;rw [if_neg ht];omega
def acc0:zcF:=([],false,[],[],[])
def valO (g:Int→List UInt8→Msg) (f:Fld) (q:zcF):Vlu:=⟨f.Number,q.2.2.1,q.2.2.2.1,if q.2.1=true∧f.Kind=17∧f.Repeated=false then [g f.Of q.1] else q.2.2.2.2⟩
def zpM (g:Int→List UInt8→Msg) (m:Mes) (l:List Th) (o:List Int):List Vlu:=(o.map fun i=>valO g (zX m i) (accF g (zX m i) i acc0 l)).filter fun v=>decide (0<zbM v)
def unkO (l:List Th):List Str:=(l.filter fun t=>decide (t.fi<0)).map (·.raw)
def zeZ (g:Int→List UInt8→Msg) (m:Mes) (l:List Th):Msg:=⟨zpM g m l (zeD (zfz m) m.Fields.length),unkO l⟩
def ofN (s:List Mes):Nat→Int→List UInt8→Msg
 | 0,_,_=>⟨[],[]⟩
 | n+1,k,b=>zeZ (ofN s n) (zY s k) (ths (zY s k) b)
theorem zAa {g g':Int→List UInt8→Msg} {f:Fld} (a:zcF) {t:Th} (h:f.Kind=17→g f.Of t.val=g' f.Of t.val):stp g f a t=stp g' f a t:=by
 unfold stp
 by_cases h17:f.Kind=17
 ·rw [h h17]
 ·rw [if_neg (c:=f.Kind=17∧_) (fun hh=>h17 hh.1),if_neg (c:=f.Kind=17∧_) (fun hh=>h17 hh.1)]
theorem zqD {g g':Int→List UInt8→Msg} {f:Fld} (i:Int):∀(a:zcF) {l:List Th},(f.Kind=17→∀v:List UInt8,v.length+1≤wt l→g f.Of v=g' f.Of v)→accF g f i a l=accF g' f i a l
 | a,[],h=>rfl
 | a,t::l,h=>by
  rw [accF,accF,zAa a (fun h17=>h h17 t.val (by rw [wt];omega))]
  exact zqD i _ (fun h17 v hv=>h h17 v (by rw [wt];omega))
theorem zxT {g g':Int→List UInt8→Msg} {f:Fld} (i:Int) {l:List Th} (h:f.Kind=17→∀v:List UInt8,v.length+1≤wt l→g f.Of v=g' f.Of v):valO g f (accF g f i acc0 l)=valO g' f (accF g' f i acc0 l):=by
 rw [zqD i acc0 h]
 have hw:=(zos g' f i acc0 l).2
 unfold valO
 by_cases hc:(accF g' f i acc0 l).2.1=true∧f.Kind=17∧f.Repeated=false
 ·rw [if_pos hc,if_pos hc,h hc.2.1 _ (by
   have h0:wJ acc0=0:=rfl
   rw [h0,wJ,if_pos hc.1] at hw
   omega)]
 ·rw [if_neg hc,if_neg hc]
theorem zpD {g g':Int→List UInt8→Msg} {m:Mes} {l:List Th} (h:∀k:Int,∀v:List UInt8,v.length+1≤wt l→g k v=g' k v):zeZ g m l=zeZ g' m l:=by
 unfold zeZ zpM
 congr 2
 exact List.map_congr_left fun i _=>zxT i (fun _ v hv=>h _ v hv)
theorem zrr (s:List Mes):∀(n n':Nat) (k:Int) (b:List UInt8),b.length<n→b.length<n'→ofN s n k b=ofN s n' k b
 | 0,n',k,b,h,_=>by omega
 | n+1,0,k,b,_,h=>by omega
 | n+1,n'+1,k,b,h,h'=>by
  rw [ofN,ofN]
  have hw:=zmZ (zY s k) b
  exact zpD fun k v hv=>zrr s n n' k v (by omega) (by omega)
def ofM (s:List Mes) (k:Int) (b:List UInt8):Msg:=ofN s (b.length+1) k b
theorem zjf (s:List Mes) (k:Int) (b:List UInt8):ofM s k b=zeZ (ofM s) (zY s k) (ths (zY s k) b):=by
 have hw:=zmZ (zY s k) b
 unfold ofM
 rw [ofN]
 exact zpD fun k v hv=>zrr s _ _ _ _ (by omega) (Nat.lt_succ_self _)
theorem zDs (b:List UInt8) (r:Rec) (h:r.At≤r.To) (h0:0≤r.From) (h1:r.From<r.At) (h2:r.To≤b.length):(valB b r).length+1≤b.length:=by
 unfold valB;simp;omega
def unkR (m:Mes) (u:Str):Bool:=(zed u 0).2==0&&(zed u 0).1.To==(u.length:Int)&&decide (fldI m (zed u 0).1.Number<0)
def zhU (f:Fld) (w:Int):Bool:=kNum f.Kind&&zdg f.Kind w==w
def ziD (f:Fld) (t:Str):Bool:=f.Kind==16|| (f.Kind==15&&zey t)
def znI (f:Fld) (v:Vlu):Bool:=decide (0<zbM v)&&(decide (zbM v≤1)|| f.Repeated)&&zbH f.Kind
mutual
def zcG (s:List Mes):Msg→Int→Bool
 | ⟨vs,u⟩,k=>decide (0≤k∧k<s.length)&&zeT s vs (zY s k) none&&u.all (unkR (zY s k))
def zeT (s:List Mes):List Vlu→Mes→Option Int→Bool
 | [],_,_=>true
 | v::l,m,p=>decide (0≤fldI m v.Number)&&p.all (fun n=>decide (n<v.Number))&&zjx s v (zX m (fldI m v.Number))&&zeT s l m (some v.Number)
def zjx (s:List Mes):Vlu→Fld→Bool
 | ⟨n,w,t,sub⟩,f=>znI f ⟨n,w,t,sub⟩&&w.all (zhU f)&&t.all (ziD f)&&zmd s sub f
def zmd (s:List Mes):List Msg→Fld→Bool
 | [],_=>true
 | x::l,f=>(f.Kind==17&&zcG s x f.Of)&&zmd s l f
end
theorem zjI (s:List Mes) (x:Msg) (k:Int):zcG s x k=(decide (0≤k∧k<s.length)&&zeT s x.Values (zY s k) none&&x.Unknown.all (unkR (zY s k))):=by cases x;rw [zcG]
theorem zqY (s:List Mes) (v:Vlu) (f:Fld):zjx s v f=(znI f v&&v.Words.all (zhU f)&&v.Texts.all (ziD f)&&zmd s v.Subs f):=by cases v;rw [zjx]
theorem zkq (s:List Mes) (f:Fld):∀(l:List Msg),zmd s l f=l.all fun x=>f.Kind==17&&zcG s x f.Of
 | []=>by rw [zmd];rfl
 | x::l=>by rw [zmd,zkq s f l];rfl
mutual
/-- No list is long. -/
def smM:Msg→Prop
 | ⟨vs,u⟩=>vs.length≤1048576∧(u.length≤1048576∧∀t∈u,t.length≤1048576)∧smVs vs
def smVs:List Vlu→Prop
 | []=>True
 | v::l=>smV v∧smVs l
def smV:Vlu→Prop
 | ⟨n,w,t,s⟩=>w.length≤1048576∧(t.length≤1048576∧∀x∈t,x.length≤1048576)∧s.length≤1048576∧smMs s
def smMs:List Msg→Prop
 | []=>True
 | x::l=>smM x∧smMs l
end
theorem zuL (x:Msg):smM x↔x.Values.length≤1048576∧(x.Unknown.length≤1048576∧∀t∈x.Unknown,t.length≤1048576)∧smVs x.Values:=by cases x;simp only [smM]
theorem zBR (v:Vlu):smV v↔v.Words.length≤1048576∧(v.Texts.length≤1048576∧∀x∈v.Texts,x.length≤1048576)∧v.Subs.length≤1048576∧smMs v.Subs:=by cases v;simp only [smV]
theorem zrP:∀{l:List Vlu},smVs l↔∀v∈l,smV v
 | []=>by simp [smVs]
 | v::l=>by rw [smVs,zrP (l:=l)];simp
theorem zrO:∀{l:List Msg},smMs l↔∀v∈l,smM v
 | []=>by simp [smMs]
 | v::l=>by rw [smMs,zrO (l:=l)];simp
def zCc (s:List Mes):Nat→zhP
 | 0=>none
 | e+1=>some (zaf s e)
theorem zkg (s:List Mes) (d:Nat) (k:Int) (b:List UInt8):zaf s d k b=zce (zY s k) (zCc s d) b (spl 0 b):=by cases d<;>rfl
theorem zpx (s:List Mes) (d:Nat) (k:Int):zaf s d k []=none:=by rw [zkg,zfm];rfl
def vwG (m:Mes) (r:Rec):Int×Bool:=match vw m r.Number r.Wire with
 | .inl _=>(-1,false)
 | .inr p=>p
def thR (m:Mes) (b:List UInt8) (r:Rec):Th:=⟨(vwG m r).1,(vwG m r).2,valB b r,rawB b r⟩
theorem zCp {m:Mes}:∀{l:List Rec},(∀r∈l,∃p,vw m r.Number r.Wire= .inr p)→vws m none l=(l.map fun r=>⟨r,(vwG m r).1,(vwG m r).2⟩,none)
 | [],_=>rfl
 | r::l,h=>by
  obtain ⟨p,hp⟩:=h r List.mem_cons_self
  rw [vws,hp,zCp fun x hx=>h x (List.mem_cons_of_mem _ hx)]
  simp only [List.map_cons,vwG,hp]
theorem zDn {m:Mes} {sub:zhP} {b:List UInt8} {r:Rec} (h:zcD m sub b r=none):∃p,vw m r.Number r.Wire= .inr p:=by
 unfold zcD at h
 cases hv:vw m r.Number r.Wire with
 | inl c=>rw [hv] at h;cases h
 | inr p=>exact ⟨p,rfl⟩
theorem zuU {s:List Mes} {d:Nat} {k:Int} {b:List UInt8} (h:zaf s d k b=none):ths (zY s k) b=(spl 0 b).1.map (thR (zY s k) b):=by
 rw [zkg,zdB] at h
 unfold ths zea
 rw [h.2,zCp fun r hr=>zDn (h.1 r hr)]
 unfold vwR
 simp only [List.map_map]
 rfl
theorem zwe {b:List UInt8} (z:List UInt8) {r:Rec} (h0:0≤r.To) (h:r.To≤b.length):rawB (b++z) r=rawB b r:=by
 unfold rawB
 by_cases ha:r.From.toNat≤b.length
 ·rw [List.drop_append_of_le_length ha,List.take_append_of_le_length (by simp;omega)]
 ·have e:r.To.toNat - r.From.toNat=0:=by omega
  rw [e,List.take_zero,List.take_zero]
theorem zxC (a b:List UInt8) {r:Rec} (h0:0≤r.From) (h1:r.From≤r.To):rawB (a++b) (ziB a.length r)=rawB b r:=by
 unfold rawB ziB
 simp only
 have e1:(r.From+(a.length:Int)).toNat=a.length+r.From.toNat:=by omega
 have e2:(r.To+(a.length:Int)).toNat - (a.length+r.From.toNat)=r.To.toNat - r.From.toNat:=by omega
 rw [e1,e2,←List.drop_drop,List.drop_left]
theorem zxM {s:List Mes} {d:Nat} {k:Int} {a z:List UInt8} (ha:zaf s d k a=none) (hz:zaf s d k z=none):ths (zY s k) (a++z)=ths (zY s k) a++ths (zY s k) z:=by
 rw [zuU ((zgn s d k z ha).2 hz),zuU ha,zuU hz]
 rw [zkg,zdB] at ha
 have hap:=zrQ z 0 a ha.2
 have hsh:=ztA a.length 0 z
 rw [Nat.zero_add] at hap hsh
 rw [hap,hsh]
 simp only [List.map_append,List.map_map]
 congr 1
 ·refine List.map_congr_left fun r hr=>?_
  have:=zpd 0 a r hr
  unfold thR
  rw [zpL z (by omega) (by omega),zwe z (by omega) (by omega)]
 ·refine List.map_congr_left fun r hr=>?_
  have:=zpd 0 z r hr
  show thR _ _ (ziB a.length r)=_
  unfold thR
  rw [zne a z (by omega) (by omega),zxC a z (by omega) (by omega)]
  rfl
structure OkT (s:List Mes) (d:Nat) (m:Mes) (t:Th):Prop where
 fi:t.fi= -1∨0≤t.fi∧t.fi<m.Fields.length
 unk:t.fi<0→unkR m t.raw=true
 run:0≤t.fi→t.run=true→kNum (zX m t.fi).Kind=true∧(zX m t.fi).Repeated=true∧(zkB (zX m t.fi).Kind t.val).2=0
 one:0≤t.fi→t.run=false→zbH (zX m t.fi).Kind=true∧zeX (zcX (zX m t.fi).Kind) t.val=true∧((zX m t.fi).Kind=15→zey t.val=true)∧((zX m t.fi).Kind=17→∃e,d=e+1∧zaf s e (zX m t.fi).Of t.val=none)
theorem zyX {s:List Mes} {d:Nat} {k:Int} {b:List UInt8} (h:zaf s d k b=none):∀t∈ths (zY s k) b,OkT s d (zY s k) t:=by
 intro t ht
 rw [zuU h] at ht
 obtain ⟨r,hr,rfl⟩:=List.mem_map.1 ht
 obtain ⟨n,w,f,a,u,hre,hrec,h1,h2,h3⟩:=zDm b 0 b rfl (Nat.zero_le _) r hr
 rw [zkg,zdB] at h
 have hs:=h.1 r hr
 generalize zY s k=m at hs⊢
 have hraw:rawB b r=(b.drop f).take u:=by
  unfold rawB;rw [hre];simp only [Int.toNat_natCast]
  rw [show f+u - f=u by omega]
 have hval:valB b r=((b.drop f).drop a).take (u - a):=by
  unfold valB;rw [hre];simp only [Int.toNat_natCast]
  rw [List.drop_drop,show f+u - (f+a)=u - a by omega]
 have hfit:=(zxD hrec).1
 have hn:r.Number=n:=by rw [hre]
 have hw:r.Wire=w:=by rw [hre]
 have hrl:((b.drop f).take u).length=u:=by simp;omega
 have hnx:zed ((b.drop f).take u) 0=(⟨n,w,0,0+(a:Int),0+(u:Int)⟩,0):=by
  unfold zed
  rw [if_neg (by rw [hrl];omega)]
  simp only [Int.toNat_zero,List.drop_zero,zzN hrec]
 unfold zcD at hs
 rcases zfi m r.Number r.Wire with hv| ⟨hv,hf⟩| ⟨i,run,hv,hfi,hi⟩
 ·rw [hv] at hs;cases hs
 ·have e:vwG m r=(-1,false):=by unfold vwG;rw [hv]
  refine ⟨.inl (by simp only [thR,e]),fun _=>?_,fun hh=>by simp only [thR,e] at hh;omega,fun hh=>by simp only [thR,e] at hh;omega⟩
  simp only [thR,hraw]
  unfold unkR
  rw [hnx,hrl]
  simp only [beq_self_eq_true,Bool.true_and,Int.zero_add]
  rw [←hn,hf];rfl
 ·have e:vwG m r=((i:Int),run):=by unfold vwG;rw [hv]
  rw [hv] at hs
  simp only at hs
  rw [if_neg (by omega)] at hs
  refine ⟨.inr (by simp only [thR,e];omega),fun hh=>by simp only [thR,e] at hh;omega,fun _ hrn=>?_,fun _ hrn=>?_⟩
  ·simp only [thR,e] at hrn⊢
   subst hrn
   obtain ⟨v1,v2,_⟩:=zxW hv
   refine ⟨v1,v2,?_⟩
   unfold zis at hs
   rw [if_pos rfl] at hs
   by_cases he:(zkB (zX m i).Kind (valB b r)).2=0
   ·exact he
   ·rw [if_pos he] at hs;cases hs
  ·simp only [thR,e] at hrn⊢
   subst hrn
   have hk:zbH (zX m i).Kind=true∧zcX (zX m i).Kind=r.Wire:=by
    unfold vw at hv
    rw [hfi] at hv
    split at hv
    ·cases hv
    ·split at hv
     ·cases hv
     ·split at hv
      ·cases hv
      ·rename_i h4
       cases hr:zbH (zX m i).Kind with
       | false=>exact absurd (.inl hr) h4
       | true=>exact ⟨rfl,by by_cases hq:zcX (zX m i).Kind=r.Wire;exact hq;exact absurd (.inr hq) h4⟩
   refine ⟨hk.1,by rw [hk.2,hw,hval];exact hfit,fun h15=>?_,fun h17=>?_⟩
   ·unfold zis at hs
    rw [if_neg (by simp)] at hs
    cases hr4:zey (valB b r) with
    | true=>rfl
    | false=>rw [if_pos ⟨h15,hr4⟩] at hs;cases hs
   ·unfold zis at hs
    rw [if_neg (by simp),if_neg (by omega),if_pos h17] at hs
    cases d with
    | zero=>simp only [zCc] at hs;cases hs
    | succ e=>
     simp only [zCc] at hs
     refine ⟨e,rfl,?_⟩
     cases hg:zaf s e (zX m i).Of (valB b r) with
     | none=>rfl
     | some q=>rw [hg] at hs;cases hs
structure zqx (s:List Mes) (d:Nat) (f:Fld) (a:zcF):Prop where
 words:∀w∈a.2.2.1,zhU f w=true
 texts:∀t∈a.2.2.2.1,ziD f t=true
 numT:kNum f.Kind=true→a.2.2.2.1=[]
 subs:∀x∈a.2.2.2.2,f.Kind=17∧zcG s x f.Of=true∧1+dM x≤d
 join:f.Kind=17→∀e,d=e+1→zaf s e f.Of a.1=none
 met:a.2.1=true→f.Kind=17→∃e,d=e+1
 one:f.Repeated=false→a.2.2.1.length≤1∧a.2.2.2.1.length≤1∧a.2.2.2.2=[]
theorem zuA {k:Int} (h:kNum k=true):k≠17∧k≠15∧k≠16:=by rw [zhu] at h;omega
theorem zwG {f:Fld} (hk:kNum f.Kind=true) (v:List UInt8):∀w∈(zbj f.Kind v).1,zhU f w=true:=by
 intro w hw
 unfold zbj at hw
 rw [if_neg (by rw [hk];simp)] at hw
 split at hw
 ·obtain ⟨p,_,rfl⟩:=List.mem_map.1 hw
  unfold zhU ziJ
  rw [hk,zpw _ (znO _)]
  simp
 ·cases hw
theorem zwm {f:Fld} (hk:kNum f.Kind=true) {v:List UInt8} (hf:zeX (zcX f.Kind) v=true):zhU f (zmx f.Kind v).1=true:=by
 rw [zlx hk hf]
 unfold zhU ziJ
 rw [hk,zpw _ (znO _)]
 simp
theorem ztP (s:List Mes) (d:Nat) (f:Fld):zqx s d f acc0 where
 words:=fun w hw=>nomatch hw
 texts:=fun w hw=>nomatch hw
 numT:=fun _=>rfl
 subs:=fun w hw=>nomatch hw
 join:=fun _ e _=>zpx s e _
 met:=fun h=>nomatch h
 one:=fun _=>⟨Nat.zero_le _,Nat.zero_le _,rfl⟩
theorem zEu {s:List Mes} {d:Nat} {m:Mes} {f:Fld} {g:Int→List UInt8→Msg} {a:zcF} {t:Th} (ha:zqx s d f a) (ht:OkT s d m t) (hi:0≤t.fi) (hf:zX m t.fi=f)
  (hg:f.Kind=17→∀e,d=e+1→zaf s e f.Of t.val=none→zcG s (g f.Of t.val) f.Of=true∧dM (g f.Of t.val)≤e):zqx s d f (stp g f a t):=by
 obtain ⟨h1,h2,hnt,h3,h4,h5,h6⟩:=ha
 have hrun:=ht.run hi
 have hone:=ht.one hi
 rw [hf] at hrun hone
 have w0:∀w∈(if f.Repeated=true then a.2.2.1 else []),zhU f w=true:=fun w hw=>by
  split at hw
  ·exact h1 w hw
  ·cases hw
 have t0:∀w∈(if f.Repeated=true then a.2.2.2.1 else []),ziD f w=true:=fun w hw=>by
  split at hw
  ·exact h2 w hw
  ·cases hw
 have tn:kNum f.Kind=true→(if f.Repeated=true then a.2.2.2.1 else [])=[]:=fun hk=>by
  split
  ·exact hnt hk
  ·rfl
 have wl:f.Repeated=false→(if f.Repeated=true then a.2.2.1 else [])=[]:=fun h=>by rw [h];rfl
 have tl:f.Repeated=false→(if f.Repeated=true then a.2.2.2.1 else [])=[]:=fun h=>by rw [h];rfl
 unfold stp
 by_cases hr:t.run=true
 ·obtain ⟨r1,r2,r3⟩:=hrun hr
  rw [if_pos hr]
  refine ⟨fun w hw=>?_,t0,tn,h3,h4,fun _ hk=>absurd hk (zuA r1).1,fun hh=>by rw [r2] at hh;cases hh⟩
  rcases List.mem_append.1 hw with hw| hw
  ·exact w0 w hw
  ·exact zwG r1 _ w hw
 ·have hr':t.run=false:=by simpa using hr
  obtain ⟨o1,o2,o3,o4⟩:=hone hr'
  rw [if_neg hr]
  by_cases hn:kNum f.Kind=true
  ·rw [if_pos hn]
   refine ⟨fun w hw=>?_,t0,tn,h3,h4,fun _ hk=>absurd hk (zuA hn).1,fun hh=>?_⟩
   ·rcases List.mem_append.1 hw with hw| hw
    ·exact w0 w hw
    ·rw [List.mem_singleton.1 hw];exact zwm hn o2
   ·have:=h6 hh
    simp only [wl hh,tl hh]
    exact ⟨Nat.le_refl _,Nat.zero_le _,this.2.2⟩
  ·rw [if_neg hn]
   by_cases hk:f.Kind=17∧f.Repeated=true
   ·rw [if_pos hk]
    obtain ⟨e,he,hv⟩:=o4 hk.1
    obtain ⟨g1,g2⟩:=hg hk.1 e he hv
    refine ⟨w0,t0,tn,fun x hx=>?_,h4,fun _ _=>⟨e,he⟩,fun hh=>by rw [hk.2] at hh;cases hh⟩
    rcases List.mem_append.1 hx with hx| hx
    ·exact h3 x hx
    ·rw [List.mem_singleton.1 hx];exact ⟨hk.1,g1,by omega⟩
   ·rw [if_neg hk]
    by_cases hk2:f.Kind=17
    ·rw [if_pos hk2]
     obtain ⟨e,he,hv⟩:=o4 hk2
     refine ⟨w0,t0,tn,h3,fun _ e' he'=>?_,fun _ _=>⟨e,he⟩,fun hh=>?_⟩
     ·have:e'=e:=by omega
      subst this
      exact (zgn s e' f.Of t.val (h4 hk2 e' he')).2 hv
     ·simp only [wl hh,tl hh]
      exact ⟨Nat.zero_le _,Nat.zero_le _,(h6 hh).2.2⟩
    ·rw [if_neg hk2]
     have hk15:f.Kind=15∨f.Kind=16:=by
      have:¬(1≤f.Kind∧f.Kind≤14):=fun hh=>hn (zhu.2 hh)
      have h17:1≤f.Kind∧f.Kind≤17:=by simpa [zbH] using o1
      omega
     refine ⟨w0,fun x hx=>?_,fun hh=>absurd hh hn,h3,h4,fun _ hh=>absurd hh hk2,fun hh=>?_⟩
     ·rcases List.mem_append.1 hx with hx| hx
      ·exact t0 x hx
      ·rw [List.mem_singleton.1 hx]
       unfold ziD
       rcases hk15 with hh| hh
       ·simp [hh,o3 hh]
       ·simp [hh]
     ·simp only [wl hh,tl hh]
      exact ⟨Nat.zero_le _,Nat.le_refl _,(h6 hh).2.2⟩
theorem zqc {s:List Mes} {d:Nat} {m:Mes} {f:Fld} {g:Int→List UInt8→Msg} {i:Int} (hi:0≤i) (hf:zX m i=f):∀(a:zcF) (l:List Th),zqx s d f a→(∀t∈l,OkT s d m t)→
  (∀t∈l,f.Kind=17→∀e,d=e+1→zaf s e f.Of t.val=none→zcG s (g f.Of t.val) f.Of=true∧dM (g f.Of t.val)≤e)→zqx s d f (accF g f i a l)
 | a,[],ha,_,_=>ha
 | a,t::l,ha,ht,hg=>by
  rw [accF]
  refine zqc hi hf _ l ?_ (fun x hx=>ht x (List.mem_cons_of_mem _ hx)) (fun x hx=>hg x (List.mem_cons_of_mem _ hx))
  split
  ·rename_i h
   exact zEu ha (ht t List.mem_cons_self) (by omega) (by rw [h];exact hf) (hg t List.mem_cons_self)
  ·exact ha
theorem zAC {d:Nat}:∀{l:List Msg},(∀x∈l,1+dM x≤d)→dMs l≤d
 | [],_=>by simp [dMs]
 | x::l,h=>by
  rw [dMs]
  have:=h x List.mem_cons_self
  have:=zAC fun y hy=>h y (List.mem_cons_of_mem _ hy)
  omega
theorem zAE {d:Nat}:∀{l:List Vlu},(∀x∈l,dV x≤d)→dVs l≤d
 | [],_=>by simp [dVs]
 | x::l,h=>by
  rw [dVs]
  have:=h x List.mem_cons_self
  have:=zAE fun y hy=>h y (List.mem_cons_of_mem _ hy)
  omega
theorem zDt {s:List Mes} {d:Nat} {f:Fld} {g:Int→List UInt8→Msg} {q:zcF} (hq:zqx s d f q) (hkr:zbH f.Kind=true)
  (hg:f.Kind=17→q.2.1=true→∀e,d=e+1→zaf s e f.Of q.1=none→zcG s (g f.Of q.1) f.Of=true∧dM (g f.Of q.1)≤e) (hm:0<zbM (valO g f q)):
  zjx s (valO g f q) f=true∧dV (valO g f q)≤d:=by
 obtain ⟨h1,h2,hnt,h3,h4,h5,h6⟩:=hq
 have hsubs:∀x∈(valO g f q).Subs,f.Kind=17∧zcG s x f.Of=true∧1+dM x≤d:=by
  unfold valO
  simp only
  intro x hx
  split at hx
  ·rename_i hc
   obtain ⟨e,he⟩:=h5 hc.1 hc.2.1
   obtain ⟨g1,g2⟩:=hg hc.2.1 hc.1 e he (h4 hc.2.1 e he)
   rw [List.mem_singleton.1 hx]
   exact ⟨hc.2.1,g1,by omega⟩
  ·exact h3 x hx
 constructor
 ·rw [zqY,zkq]
  have hmany:znI f (valO g f q)=true:=by
   unfold znI
   rw [decide_eq_true hm,hkr,Bool.true_and,Bool.and_true]
   cases hr:f.Repeated with
   | true=>simp
   | false=>
    rw [Bool.or_false]
    refine decide_eq_true ?_
    obtain ⟨o1,o2,o3⟩:=h6 hr
    unfold zbM valO
    simp only
    by_cases hk:f.Kind=17
    ·have e1:q.2.2.1=[]:=by
      cases hw:q.2.2.1 with
      | nil=>rfl
      | cons w l=>
       have:=h1 w (by rw [hw];exact List.mem_cons_self)
       unfold zhU at this
       simp only [Bool.and_eq_true] at this
       exact absurd hk (zuA this.1).1
     have e2:q.2.2.2.1=[]:=by
      cases hw:q.2.2.2.1 with
      | nil=>rfl
      | cons w l=>
       have:=h2 w (by rw [hw];exact List.mem_cons_self)
       unfold ziD at this
       rw [hk] at this;simp at this
     rw [e1,e2]
     split
     ·simp
     ·rw [o3];simp
    ·rw [if_neg (fun hh=>hk hh.2.1),o3]
     by_cases hn:kNum f.Kind=true
     ·rw [hnt hn];simp;exact o1
     ·have e1:q.2.2.1=[]:=by
       cases hw:q.2.2.1 with
       | nil=>rfl
       | cons w l=>
        have:=h1 w (by rw [hw];exact List.mem_cons_self)
        unfold zhU at this
        simp only [Bool.and_eq_true] at this
        exact absurd this.1 hn
      rw [e1];simp;exact o2
  rw [hmany,Bool.true_and,Bool.and_eq_true,Bool.and_eq_true]
  refine ⟨⟨List.all_eq_true.2 h1,List.all_eq_true.2 h2⟩,List.all_eq_true.2 fun x hx=>?_⟩
  obtain ⟨x1,x2,_⟩:=hsubs x hx
  simp [x1,x2]
 ·rw [zAD]
  exact zAC fun x hx=>(hsubs x hx).2.2
theorem zlh (m:Mes) (i:Int):zfz m i=(zX m i).Number:=rfl
theorem zBy {s:List Mes} (hs:zfK s) {m:Mes} (hm:m∈s) {i j:Nat} (hi:i<m.Fields.length) (hj:j<m.Fields.length) (h:m.Fields[i].Number=m.Fields[j].Number):i=j:=by
 rcases Nat.lt_trichotomy i j with hlt| h'| hlt
 ·exact absurd h (hs.nums m hm i j _ _ hlt (List.getElem?_eq_getElem hi) (List.getElem?_eq_getElem hj)).1
 ·exact h'
 ·exact absurd h.symm (hs.nums m hm j i _ _ hlt (List.getElem?_eq_getElem hj) (List.getElem?_eq_getElem hi)).1
theorem znv {s:List Mes} (hs:zfK s) {m:Mes} (hm:m∈s) {i:Int} (h0:0≤i) (hi:i<m.Fields.length):fldI m (zX m i).Number=i:=by
 obtain ⟨n,rfl⟩:∃n:Nat,i=n:=⟨i.toNat,by omega⟩
 have hn:n<m.Fields.length:=by omega
 rw [zdK hn]
 rcases zgO m m.Fields[n].Number with ⟨_,h⟩| ⟨j,hj,h,hjn,_⟩
 ·exact absurd rfl (h _ (List.getElem_mem hn))
 ·rw [h,zBy hs hm hj hn hjn]
theorem znX {s:List Mes} (hs:zfK s) {m:Mes} (hm:m∈s):(zeD (zfz m) m.Fields.length).Pairwise fun a b=>zfz m a<zfz m b:=by
 refine (znY (zfz m) m.Fields.length).imp_of_mem fun {a b} ha hb h=>?_
 rcases h with h| ⟨h,hlt⟩
 ·exact h
 ·exfalso
  obtain ⟨a0,a1⟩:=zej.1 ha
  obtain ⟨b0,b1⟩:=zej.1 hb
  rw [zlh,zlh] at h
  have:=znv hs hm a0 a1
  rw [h,znv hs hm b0 b1] at this
  omega
theorem znR {s:List Mes} (hs:zfK s) {m:Mes} (hm:m∈s) (v:Int→Vlu) (hn:∀i,(v i).Number=zfz m i):∀(o:List Int) (p:Option Int),(∀i∈o,0≤i∧i<m.Fields.length)→(o.Pairwise fun a b=>zfz m a<zfz m b)→
  (∀i∈o,p.all (fun n=>decide (n<zfz m i))=true)→(∀i∈o,0<zbM (v i)→zjx s (v i) (zX m i)=true)→zeT s ((o.map v).filter fun x=>decide (0<zbM x)) m p=true
 | [],p,_,_,_,_=>by rw [List.map_nil,List.filter_nil,zeT]
 | i::o,p,h1,h2,h3,h4=>by
  obtain ⟨h2a,h2b⟩:=List.pairwise_cons.1 h2
  have ih:=fun p hp=>znR hs hm v hn o p (fun j hj=>h1 j (List.mem_cons_of_mem _ hj)) h2b hp (fun j hj=>h4 j (List.mem_cons_of_mem _ hj))
  rw [List.map_cons,List.filter_cons]
  by_cases hp:0<zbM (v i)
  ·rw [if_pos (by simpa using hp),zeT,ih _ (fun j hj=>by rw [hn];simpa using h2a j hj)]
   obtain ⟨i0,i1⟩:=h1 i List.mem_cons_self
   have hfi:=znv hs hm i0 i1
   rw [hn,zlh,hfi,h4 i List.mem_cons_self hp,←zlh,h3 i List.mem_cons_self,decide_eq_true i0]
   rfl
  ·rw [if_neg (by simpa using hp)]
   exact ih p fun j hj=>h3 j (List.mem_cons_of_mem _ hj)
theorem zif {s:List Mes} (hs:zfK s):∀(N:Nat) (b:List UInt8) (d k:Nat),b.length=N→k<s.length→zaf s d k b=none→zcG s (ofM s k b) k=true∧dM (ofM s k b)≤d:=by
 intro N
 induction N using Nat.strongRecOn with
 | _ N IH=>
  intro b d k hN hk hv
  have hmm:zY s (k:Int)∈s:=by rw [zfa hk];exact List.getElem_mem hk
  have hth:=zyX hv
  have hwt:=zmZ (zY s (k:Int)) b
  rw [zjf]
  generalize hl:ths (zY s (k:Int)) b=l at hth hwt
  generalize hm:zY s (k:Int)=m at hmm hth hwt
  have hsub:∀f∈m.Fields,f.Kind=17→∀v:List UInt8,v.length+1≤b.length→∀e,zaf s e f.Of v=none→zcG s (ofM s f.Of v) f.Of=true∧dM (ofM s f.Of v)≤e:=fun f hf h17 v hvl e he=>by
   have hof:=(hs.fld _ hmm f hf).sub h17
   obtain ⟨q,hq⟩:∃q:Nat,f.Of=q:=⟨f.Of.toNat,by omega⟩
   rw [hq] at he⊢
   exact IH v.length (by omega) v e q rfl (by omega) he
  have hval:∀i∈zeD (zfz m) m.Fields.length,0<zbM (valO (ofM s) (zX m i) (accF (ofM s) (zX m i) i acc0 l))→
    zjx s (valO (ofM s) (zX m i) (accF (ofM s) (zX m i) i acc0 l)) (zX m i)=true∧dV (valO (ofM s) (zX m i) (accF (ofM s) (zX m i) i acc0 l))≤d:=fun i hi hp=>by
   obtain ⟨i0,i1⟩:=zej.1 hi
   obtain ⟨n,hn⟩:∃n:Nat,i=n:=⟨i.toNat,by omega⟩
   have hnl:n<m.Fields.length:=by omega
   have hfm:zX m i∈m.Fields:=by rw [hn,zdK hnl];exact List.getElem_mem _
   have hacc:=zqc (g:=ofM s) i0 rfl acc0 l (ztP s d (zX m i)) hth (fun t ht h17 e he hv=>hsub _ hfm h17 _ (by have:=znh ht;omega) e hv)
   have hw:=(zos (ofM s) (zX m i) i acc0 l).2
   refine zDt hacc (hs.fld _ hmm _ hfm).kind (fun h17 hmet e he hv=>hsub _ hfm h17 _ ?_ e hv) hp
   have h0:wJ acc0=0:=rfl
   rw [h0,wJ,if_pos hmet] at hw
   omega
  constructor
  ·rw [zjI,hm,decide_eq_true (by omega),Bool.true_and,Bool.and_eq_true]
   constructor
   ·unfold zeZ zpM
    exact znR hs hmm (fun i=>valO (ofM s) (zX m i) (accF (ofM s) (zX m i) i acc0 l)) (fun i=>rfl) _ none (fun i hi=>zej.1 hi) (znX hs hmm) (fun _ _=>rfl) (fun i hi hp=>(hval i hi hp).1)
   ·unfold zeZ unkO
    refine List.all_eq_true.2 fun u hu=>?_
    obtain ⟨t,ht,rfl⟩:=List.mem_map.1 hu
    obtain ⟨ht1,ht2⟩:=List.mem_filter.1 ht
    exact (hth t ht1).unk (by simpa using ht2)
  ·rw [zDH]
   unfold zeZ zpM
   refine zAE fun x hx=>?_
   obtain ⟨hx1,hx2⟩:=List.mem_filter.1 hx
   obtain ⟨i,hi,rfl⟩:=List.mem_map.1 hx1
   exact (hval i hi (by simpa using hx2)).2
theorem zAO {n:Int} (h: -9223372036854775808≤n∧n≤9223372036854775807):(Lit.int .i64 n).wf=true:=by
 simpa [Lit.wf,IntKind.min,IntKind.max,IntKind.bits,IntKind.signed] using h
structure zvd (a:zcF):Prop where
 words:∀w∈a.2.2.1,0≤w∧w≤18446744073709551615
 texts:∀t∈a.2.2.2.1,t.length≤1048576
 subs:∀x∈a.2.2.2.2,bdM x∧smM x
theorem zCw:zvd acc0:=⟨fun w h=>(nomatch h),fun w h=>(nomatch h),fun w h=>(nomatch h)⟩
theorem zCr (k:Int) (v:List UInt8):∀w∈(zbj k v).1,0≤w∧w≤18446744073709551615:=by
 intro w hw
 unfold zbj at hw
 split at hw
 ·cases hw
 ·split at hw
  ·obtain ⟨p,_,rfl⟩:=List.mem_map.1 hw
   exact znm k (znO k)
  ·cases hw
theorem zBN (k:Int) (v:List UInt8):0≤(zmx k v).1∧(zmx k v).1≤18446744073709551615:=by
 unfold zmx
 split
 ·simp
 ·split
  ·simp
  ·exact znm k (znO k)
theorem zEt {g:Int→List UInt8→Msg} {f:Fld} {a:zcF} {t:Th} (ha:zvd a) (ht:t.val.length≤1048576) (hg:f.Kind=17→bdM (g f.Of t.val)∧smM (g f.Of t.val)):zvd (stp g f a t):=by
 obtain ⟨h1,h2,h3⟩:=ha
 have w0:∀w∈(if f.Repeated=true then a.2.2.1 else []),0≤w∧w≤18446744073709551615:=fun w hw=>by
  split at hw
  ·exact h1 w hw
  ·cases hw
 have t0:∀w∈(if f.Repeated=true then a.2.2.2.1 else []),w.length≤1048576:=fun w hw=>by
  split at hw
  ·exact h2 w hw
  ·cases hw
 unfold stp
 split
 ·refine ⟨fun w hw=>?_,t0,h3⟩
  rcases List.mem_append.1 hw with hw| hw
  ·exact w0 w hw
  ·exact zCr _ _ w hw
 ·split
  ·refine ⟨fun w hw=>?_,t0,h3⟩
   rcases List.mem_append.1 hw with hw| hw
   ·exact w0 w hw
   ·rw [List.mem_singleton.1 hw];exact zBN _ _
  ·split
   ·rename_i hk
    refine ⟨w0,t0,fun x hx=>?_⟩
    rcases List.mem_append.1 hx with hx| hx
    ·exact h3 x hx
    ·rw [List.mem_singleton.1 hx];exact hg hk.1
   ·split
    ·exact ⟨w0,t0,h3⟩
    ·refine ⟨w0,fun x hx=>?_,h3⟩
     rcases List.mem_append.1 hx with hx| hx
     ·exact t0 x hx
     ·rw [List.mem_singleton.1 hx];exact ht
theorem zxY {g:Int→List UInt8→Msg} {f:Fld} {i:Int}:∀{l:List Th} {a:zcF},zvd a→(∀t∈l,t.val.length≤1048576)→(f.Kind=17→∀t∈l,bdM (g f.Of t.val)∧smM (g f.Of t.val))→zvd (accF g f i a l)
 | [],a,ha,_,_=>ha
 | t::l,a,ha,ht,hg=>by
  rw [accF]
  refine zxY ?_ (fun x hx=>ht x (List.mem_cons_of_mem _ hx)) fun h17 x hx=>hg h17 x (List.mem_cons_of_mem _ hx)
  split
  ·exact zEt ha (ht t List.mem_cons_self) fun h17=>hg h17 t List.mem_cons_self
  ·exact ha
theorem zEk {s:List Mes} (hs:zfK s):∀(N:Nat) (b:List UInt8) (k:Nat),b.length=N→N≤1048576→k<s.length→bdM (ofM s k b)∧smM (ofM s k b):=by
 intro N
 induction N using Nat.strongRecOn with
 | _ N IH=>
  intro b k hN hb hk
  have hmm:zY s (k:Int)∈s:=by rw [zfa hk];exact List.getElem_mem hk
  have hwt:=zmZ (zY s (k:Int)) b
  have hraw:∀t∈ths (zY s (k:Int)) b,t.raw.length≤b.length:=fun t ht=>by
   unfold ths at ht
   obtain ⟨r,_,rfl⟩:=List.mem_map.1 ht
   show (rawB b r.R).length≤_
   unfold rawB;simp;omega
  have hfew:=hs.few _ hmm
  rw [zjf]
  generalize ths (zY s (k:Int)) b=l at hwt hraw
  generalize zY s (k:Int)=m at hmm hfew⊢
  have hsub:∀f∈m.Fields,f.Kind=17→∀v:List UInt8,v.length+1≤b.length→bdM (ofM s f.Of v)∧smM (ofM s f.Of v):=fun f hf h17 v hvl=>by
   have hof:=(hs.fld _ hmm f hf).sub h17
   obtain ⟨q,hq⟩:∃q:Nat,f.Of=q:=⟨f.Of.toNat,by omega⟩
   rw [hq]
   exact IH v.length (by omega) v q rfl (by omega) (by omega)
  have hval:∀i∈zeD (zfz m) m.Fields.length,bdV (valO (ofM s) (zX m i) (accF (ofM s) (zX m i) i acc0 l))∧smV (valO (ofM s) (zX m i) (accF (ofM s) (zX m i) i acc0 l)):=fun i hi=>by
   obtain ⟨i0,i1⟩:=zej.1 hi
   obtain ⟨n,hn⟩:∃n:Nat,i=n:=⟨i.toNat,by omega⟩
   have hnl:n<m.Fields.length:=by omega
   have hfm:zX m i∈m.Fields:=by rw [hn,zdK hnl];exact List.getElem_mem _
   have hfo:=hs.fld _ hmm _ hfm
   have hacc:=zxY (g:=ofM s) (f:=zX m i) (i:=i) (l:=l) zCw (fun t ht=>by have:=znh ht;omega) (fun h17 t ht=>hsub _ hfm h17 _ (by have:=znh ht;omega))
   have hw:=zos (ofM s) (zX m i) i acc0 l
   have w0:wA acc0=0:=rfl
   have j0:wJ acc0=0:=rfl
   rw [w0,j0] at hw
   generalize zX m i=f at hfm hfo hacc hw⊢
   generalize accF (ofM s) f i acc0 l=q at hacc hw⊢
   obtain ⟨a1,a2,a3⟩:=hacc
   have hsubs:(valO (ofM s) f q).Subs.length≤1048576∧∀x∈(valO (ofM s) f q).Subs,bdM x∧smM x:=by
    unfold valO
    simp only
    split
    ·rename_i hc
     refine ⟨by simp,fun x hx=>?_⟩
     rw [List.mem_singleton.1 hx]
     have h2:=hw.2
     rw [wJ,if_pos hc.1] at h2
     exact hsub f hfm hc.2.1 _ (by omega)
    ·exact ⟨by have:=hw.1;unfold wA at this;omega,a3⟩
   have h1:=hw.1
   unfold wA at h1
   have e1:(valO (ofM s) f q).Words=q.2.2.1:=rfl
   have e2:(valO (ofM s) f q).Texts=q.2.2.2.1:=rfl
   have e3:(valO (ofM s) f q).Number=f.Number:=rfl
   refine ⟨(zqH _).2 ⟨by rw [e3];exact zAO (by have:=hfo.lo;have:=hfo.hi;omega),⟨by rw [e1];omega,by rw [e1];exact a1⟩,⟨by rw [e2];omega,fun x hx=>by rw [e2] at hx;have:=a2 x hx;omega⟩,by have:=hsubs.1;omega,zjp.2 fun x hx=>(hsubs.2 x hx).1⟩,
    (zBR _).2 ⟨by rw [e1];omega,⟨by rw [e2];omega,by rw [e2];exact a2⟩,hsubs.1,zrO.2 fun x hx=>(hsubs.2 x hx).2⟩⟩
  have hvl:(zeZ (ofM s) m l).Values.length≤200:=by
   unfold zeZ zpM
   simp only
   refine Nat.le_trans (List.length_filter_le _ _) ?_
   rw [List.length_map,ztz];exact hfew
  have hul:(zeZ (ofM s) m l).Unknown.length≤1048576:=by
   unfold zeZ unkO
   simp only
   rw [List.length_map]
   refine Nat.le_trans (List.length_filter_le _ _) ?_
   have:=zpr l
   omega
  have hum:∀t∈(zeZ (ofM s) m l).Unknown,t.length≤1048576:=fun u hu=>by
   unfold zeZ unkO at hu
   obtain ⟨t,ht,rfl⟩:=List.mem_map.1 hu
   have:=hraw t (List.mem_filter.1 ht).1
   omega
  have hvm:∀v∈(zeZ (ofM s) m l).Values,bdV v∧smV v:=fun v hv=>by
   unfold zeZ zpM at hv
   obtain ⟨hx1,_⟩:=List.mem_filter.1 hv
   obtain ⟨i,hi,rfl⟩:=List.mem_map.1 hx1
   exact hval i hi
  refine ⟨(zou _).2 ⟨by omega,⟨by omega,fun t ht=>by have:=hum t ht;omega⟩,zjq.2 fun v hv=>(hvm v hv).1⟩,(zuL _).2 ⟨by omega,⟨hul,hum⟩,zrP.2 fun v hv=>(hvm v hv).2⟩⟩
end Go.Proofs.YtcbkcblkecmjnaaGreat
namespace Go.Proofs.YtcbkcblkecmjnaaGreat
open Go
set_option linter.unusedVariables false
def splF:Nat→Nat→List UInt8→List Rec×Option (Nat×Int)
 | 0,_,_=>([],none)
 | n+1,base,l=>match l with
  | []=>([],none)
  | x::r=>match rec5 (x::r) with
   | .inl c=>([],some (base,c))
   | .inr (m,w,a,t)=>(⟨m,w,(base:Int),((base+a:Nat):Int),((base+t:Nat):Int)⟩::(splF n (base+t) ((x::r).drop t)).1,(splF n (base+t) ((x::r).drop t)).2)
theorem zBT (base:Nat) (l:List UInt8):∀n,l.length<n→spl base l=splF n base l:=by
 refine zgz (fun base l=>∀n,l.length<n→spl base l=splF n base l) ?_ ?_ ?_ base l
 ·intro base n hn
  obtain ⟨n,rfl⟩:∃m,n=m+1:=⟨n - 1,by omega⟩
  rw [zfm];rfl
 ·intro base l c hl h _ n hn
  obtain ⟨n,rfl⟩:∃m,n=m+1:=⟨n - 1,by omega⟩
  rw [zfJ hl h]
  cases l with
  | nil=>exact absurd rfl hl
  | cons x r=>simp only [splF,h]
 ·intro base l m w a t hl h _ g1 g2 g3 ih n hn
  obtain ⟨n,rfl⟩:∃m,n=m+1:=⟨n - 1,by omega⟩
  rw [zdR hl h,ih n (by simp;omega)]
  cases l with
  | nil=>exact absurd rfl hl
  | cons x r=>simp only [splF,h]
theorem zuM (l:List UInt8):spl 0 l=splF (l.length+1) 0 l:=zBT 0 l _ (Nat.lt_succ_self _)
theorem zzf (m:Mes) (b:List UInt8):zea m b=vwR (vws m (splF (b.length+1) 0 b).2 (splF (b.length+1) 0 b).1):=by unfold zea;rw [zuM]
theorem zDp (m:Mes) (b:List UInt8):ths m b=(vwR (vws m (splF (b.length+1) 0 b).2 (splF (b.length+1) 0 b).1)).1.map (thOf b):=by unfold ths;rw [zzf]
def zul (s:List Mes):Nat→Int→List UInt8→Option (Int×Int)
 | 0,k,b=>zce (zY s k) none b (splF (b.length+1) 0 b)
 | d+1,k,b=>zce (zY s k) (some (zul s d)) b (splF (b.length+1) 0 b)
theorem zoF (s:List Mes):∀(d:Nat),zaf s d=zul s d
 | 0=>by funext k b;simp only [zaf,zul,zuM]
 | d+1=>by funext k b;simp only [zaf,zul,zuM,zoF s d]
def ofF (s:List Mes):Nat→Int→List UInt8→Msg
 | 0,_,_=>⟨[],[]⟩
 | n+1,k,b=>zeZ (ofF s n) (zY s k) ((vwR (vws (zY s k) (splF (b.length+1) 0 b).2 (splF (b.length+1) 0 b).1)).1.map (thOf b))
theorem zBA (s:List Mes):∀(n:Nat),ofN s n=ofF s n
 | 0=>by funext k b;simp only [ofN,ofF]
 | n+1=>by funext k b;simp only [ofN,ofF,zDp,zBA s n]
theorem zyI (s:List Mes) (k:Int) (b:List UInt8):ofM s k b=ofF s (b.length+1) k b:=by unfold ofM;rw [zBA]
end Go.Proofs.YtcbkcblkecmjnaaGreat
namespace Go.Proofs.YtcbkcblkecmjnaaGreat
open Go
set_option linter.unusedVariables false
def zdX (l:List Vlu):Prop:=l.Pairwise fun a b=>a.Number<b.Number
def look (l:List Vlu) (n:Int):Option Vlu:=l.find? fun v=>v.Number==n
theorem zbX (v:Vlu) (l:List Vlu) (n:Int):look (v::l) n=if v.Number=n then some v else look l n:=by
 unfold look
 rw [List.find?_cons]
 by_cases h:v.Number=n
 ·rw [if_pos h];simp [h]
 ·rw [if_neg h]
  have:(v.Number==n)=false:=by simpa using h
  rw [this]
theorem ztl {l:List Vlu} {n:Int} {v:Vlu} (h:look l n=some v):v.Number=n∧v∈l:=by
 unfold look at h
 exact ⟨by simpa using List.find?_some h,List.mem_of_find?_eq_some h⟩
theorem znH {l:List Vlu} {n:Int} (h:∀v∈l,n<v.Number):look l n=none:=by
 unfold look
 rw [List.find?_eq_none]
 intro v hv
 have:=h v hv
 simp;omega
theorem zBu {l:List Vlu} (hr:zdX l) {v:Vlu} (h:v∈l):look l v.Number=some v:=by
 induction l with
 | nil=>cases h
 | cons u l ih=>
  obtain ⟨h1,h2⟩:=List.pairwise_cons.1 hr
  rw [zbX]
  rcases List.mem_cons.1 h with rfl| h
  ·rw [if_pos rfl]
  ·have:=h1 v h
   rw [if_neg (by omega),ih h2 h]
theorem zrk:∀{l k:List Vlu},zdX l→zdX k→(∀n,look l n=look k n)→l=k
 | [],[],_,_,_=>rfl
 | [],u::k,_,_,h=>by
  have:=h u.Number
  rw [zbX,if_pos rfl] at this
  cases this
 | v::l,[],_,_,h=>by
  have:=h v.Number
  rw [zbX,if_pos rfl] at this
  cases this
 | v::l,u::k,hl,hk,h=>by
  obtain ⟨l1,l2⟩:=List.pairwise_cons.1 hl
  obtain ⟨k1,k2⟩:=List.pairwise_cons.1 hk
  have e:v=u:=by
   have hv:=h v.Number
   have hu:=h u.Number
   rw [zbX,if_pos rfl] at hv
   rw [zbX (n:=u.Number) (v:=u),if_pos rfl] at hu
   rcases Int.lt_trichotomy v.Number u.Number with hlt| heq| hlt
   ·rw [znH (l:=u::k) (fun x hx=>by
     rcases List.mem_cons.1 hx with rfl| hx
     ·exact hlt
     ·have:=k1 x hx;omega)] at hv
    cases hv
   ·rw [zbX,if_pos heq.symm] at hv
    exact Option.some.inj hv
   ·rw [znH (l:=v::l) (fun x hx=>by
     rcases List.mem_cons.1 hx with rfl| hx
     ·exact hlt
     ·have:=l1 x hx;omega)] at hu
    cases hu
  subst e
  rw [zrk l2 k2 fun n=>by
   by_cases hn:v.Number<n
   ·have:=h n
    rw [zbX,zbX,if_neg (by omega),if_neg (by omega)] at this
    exact this
   ·rw [znH fun x hx=>by have:=l1 x hx;omega,znH fun x hx=>by have:=k1 x hx;omega]]
def putL (v:Vlu):Bool→List Vlu→List Vlu
 | done,[]=>if done=true then [] else [v]
 | done,u::l=>(if done=false∧v.Number≤u.Number then [v] else [])++((if u.Number=v.Number then [] else [u])++putL v (done|| decide (v.Number≤u.Number)) l)
theorem zwd {v:Vlu}:∀{d:Bool} {l:List Vlu} {x:Vlu},x∈putL v d l→x=v∧d=false∨x∈l∧x.Number≠v.Number
 | d,[],x,h=>by
  rw [putL] at h
  cases d
  ·rw [if_neg (by simp)] at h;exact .inl ⟨List.mem_singleton.1 h,rfl⟩
  ·rw [if_pos rfl] at h;cases h
 | d,u::l,x,h=>by
  rw [putL] at h
  rcases List.mem_append.1 h with h| h
  ·split at h
   ·rename_i hc;exact .inl ⟨List.mem_singleton.1 h,hc.1⟩
   ·cases h
  ·rcases List.mem_append.1 h with h| h
   ·split at h
    ·cases h
    ·rename_i hc
     rw [List.mem_singleton.1 h]
     exact .inr ⟨List.mem_cons_self,hc⟩
   ·rcases zwd h with ⟨h1,h2⟩| ⟨h1,h2⟩
    ·refine .inl ⟨h1,?_⟩
     cases d
     ·rfl
     ·simp at h2
    ·exact .inr ⟨List.mem_cons_of_mem _ h1,h2⟩
theorem zpG {v:Vlu}:∀{d:Bool} {l:List Vlu},zdX l→zdX (putL v d l)
 | d,[],_=>by rw [putL];cases d<;>simp [zdX]
 | d,u::l,h=>by
  obtain ⟨h1,h2⟩:=List.pairwise_cons.1 h
  have ih:=zpG (v:=v) (d:=d|| decide (v.Number≤u.Number)) h2
  have hrest:∀x∈putL v (d|| decide (v.Number≤u.Number)) l,u.Number<x.Number:=fun x hx=>by
   rcases zwd hx with ⟨rfl,hd⟩| ⟨hx,_⟩
   ·simp at hd;omega
   ·exact h1 x hx
  rw [putL]
  have htail:zdX ((if u.Number=v.Number then [] else [u])++putL v (d|| decide (v.Number≤u.Number)) l):=by
   split
   ·exact ih
   ·exact List.pairwise_cons.2 ⟨hrest,ih⟩
  split
  ·rename_i hc
   rw [List.singleton_append]
   refine List.pairwise_cons.2 ⟨fun x hx=>?_,htail⟩
   rcases List.mem_append.1 hx with hx| hx
   ·split at hx
    ·cases hx
    ·rw [List.mem_singleton.1 hx];omega
   ·have:=hrest x hx
    omega
  ·exact htail
theorem zpB (l k:List Vlu) (n:Int):look (l++k) n=match look l n with| some v=>some v| none=>look k n:=by
 unfold look
 rw [List.find?_append]
 cases l.find? (fun v=>v.Number==n)<;>rfl
theorem zvW {v:Vlu}:∀{d:Bool} {l:List Vlu},zdX l→∀n,look (putL v d l) n=if n=v.Number then (if d=true then none else some v) else look l n
 | d,[],_,n=>by
  rw [putL]
  cases d
  ·rw [if_neg (show ¬(false=true) by simp),if_neg (show ¬(false=true) by simp),zbX]
   by_cases h:n=v.Number
   ·rw [if_pos h,if_pos h.symm]
   ·rw [if_neg h,if_neg (fun hh=>h hh.symm)]
  ·rw [if_pos rfl,if_pos rfl]
   split<;>rfl
 | d,u::l,h,n=>by
  obtain ⟨h1,h2⟩:=List.pairwise_cons.1 h
  have ih:=zvW (v:=v) (d:=d|| decide (v.Number≤u.Number)) h2 n
  rw [putL,zpB,zpB,ih,zbX u l n]
  by_cases hn:n=v.Number
  ·rw [if_pos hn,if_pos hn]
   have hu:look (if u.Number=v.Number then [] else [u]) n=none:=by
    split
    ·rfl
    ·rw [zbX,if_neg (by omega)];rfl
   rw [hu]
   cases d
   ·by_cases hle:v.Number≤u.Number
    ·rw [if_pos ⟨rfl,hle⟩,zbX,if_pos hn.symm];simp
    ·rw [if_neg (fun hh=>hle hh.2)];simp [look,hle]
   ·rw [if_neg (by simp)];simp [look]
  ·rw [if_neg hn,if_neg hn]
   have hv:look (if d=false∧v.Number≤u.Number then [v] else []) n=none:=by
    split
    ·rw [zbX,if_neg (fun hh=>hn hh.symm)];rfl
    ·rfl
   rw [hv]
   by_cases hu:u.Number=v.Number
   ·rw [if_pos hu,if_neg (by omega)];rfl
   ·rw [if_neg hu,zbX]
    by_cases hun:u.Number=n
    ·rw [if_pos hun,if_pos hun]
    ·rw [if_neg hun,if_neg hun];rfl
def putM (x:Msg) (v:Vlu):Msg:=⟨putL v (decide (zbM v=0)) x.Values,x.Unknown⟩
theorem ziW {s:List Mes} {m:Mes}:∀{l:List Vlu} {p:Option Int},zeT s l m p=true→∀v∈l,0≤fldI m v.Number∧zjx s v (zX m (fldI m v.Number))=true∧p.all (fun n=>decide (n<v.Number))=true
 | [],p,_,v,hv=>by cases hv
 | u::l,p,h,v,hv=>by
  rw [zeT] at h
  simp only [Bool.and_eq_true,decide_eq_true_eq] at h
  obtain ⟨⟨⟨h1,h2⟩,h3⟩,h4⟩:=h
  rcases List.mem_cons.1 hv with rfl| hv
  ·exact ⟨h1,h3,h2⟩
  ·obtain ⟨g1,g2,g3⟩:=ziW h4 v hv
   refine ⟨g1,g2,?_⟩
   cases p with
   | none=>rfl
   | some n=>
    simp at h2 g3⊢
    omega
theorem zlv {s:List Mes} {m:Mes}:∀{l:List Vlu} {p:Option Int},zeT s l m p=true→zdX l
 | [],p,_=> .nil
 | u::l,p,h=>by
  rw [zeT] at h
  simp only [Bool.and_eq_true,decide_eq_true_eq] at h
  refine List.pairwise_cons.2 ⟨fun v hv=>?_,zlv h.2⟩
  have:=(ziW h.2 v hv).2.2
  simpa using this
theorem zfZ {s:List Mes} {x:Msg} {k:Int} (h:zcG s x k=true):0≤k∧k<s.length∧zdX x.Values∧(∀v∈x.Values,0≤fldI (zY s k) v.Number∧zjx s v (zX (zY s k) (fldI (zY s k) v.Number))=true)∧∀u∈x.Unknown,unkR (zY s k) u=true:=by
 rw [zjI] at h
 simp only [Bool.and_eq_true,decide_eq_true_eq] at h
 exact ⟨h.1.1.1,h.1.1.2,zlv h.1.2,fun v hv=>⟨(ziW h.1.2 v hv).1,(ziW h.1.2 v hv).2.1⟩,List.all_eq_true.1 h.2⟩
structure zni (s:List Mes) (v:Vlu) (f:Fld):Prop where
 many:0<zbM v
 one:f.Repeated=false→zbM v=1
 kind:zbH f.Kind=true
 words:∀w∈v.Words,zhU f w=true
 texts:∀t∈v.Texts,ziD f t=true
 subs:∀x∈v.Subs,f.Kind=17∧zcG s x f.Of=true
theorem zsU {s:List Mes} {v:Vlu} {f:Fld} (h:zjx s v f=true):zni s v f:=by
 rw [zqY,zkq] at h
 unfold znI at h
 simp only [Bool.and_eq_true,Bool.or_eq_true,decide_eq_true_eq,List.all_eq_true,beq_iff_eq] at h
 obtain ⟨⟨⟨⟨⟨h1,h2⟩,h3⟩,h4⟩,h5⟩,h6⟩:=h
 refine ⟨h1,fun hr=>?_,h3,h4,h5,fun x hx=>?_⟩
 ·rw [hr] at h2;simp at h2;omega
 ·exact h6 x hx
theorem zni.noWords {s:List Mes} {v:Vlu} {f:Fld} (h:zni s v f) (hk:kNum f.Kind=false):v.Words=[]:=by
 cases hw:v.Words with
 | nil=>rfl
 | cons w l=>
  have:=h.words w (by rw [hw];exact List.mem_cons_self)
  unfold zhU at this
  rw [hk] at this;simp at this
theorem zni.noTexts {s:List Mes} {v:Vlu} {f:Fld} (h:zni s v f) (hk:f.Kind≠15∧f.Kind≠16):v.Texts=[]:=by
 cases hw:v.Texts with
 | nil=>rfl
 | cons w l=>
  have:=h.texts w (by rw [hw];exact List.mem_cons_self)
  unfold ziD at this
  simp at this;omega
theorem zni.msg {s:List Mes} {v:Vlu} {f:Fld} (h:zni s v f) (hk:f.Kind=17) (hr:f.Repeated=false):∃x,v=⟨v.Number,[],[],[x]⟩∧zcG s x f.Of=true:=by
 have h1:=h.noWords (by rw [hk];rfl)
 have h2:=h.noTexts (by omega)
 have h3:=h.one hr
 have h4:=h.subs
 obtain ⟨n,w,t,sub⟩:=v
 simp only at h1 h2 h4
 subst h1 h2
 unfold zbM at h3
 simp at h3
 obtain ⟨x,rfl⟩:∃x,sub=[x]:=by
  cases sub with
  | nil=>simp at h3
  | cons x l=>cases l with
   | nil=>exact ⟨x,rfl⟩
   | cons _ _=>simp at h3
 exact ⟨x,rfl,(h4 x List.mem_cons_self).2⟩
mutual
/-- b zeW a. -/
def ziq (s:List Mes):Msg→Msg→Int→Msg
 | ⟨vs,u⟩,a,k=>⟨zmK s vs a (zY s k) a.Values,a.Unknown++u⟩
def zmK (s:List Mes):List Vlu→Msg→Mes→List Vlu→List Vlu
 | [],_,_,acc=>acc
 | v::l,a,m,acc=>zmK s l a m (putM ⟨acc,[]⟩ (zlf s v (look a.Values v.Number) (zX m (fldI m v.Number)))).Values
def zlf (s:List Mes):Vlu→Option Vlu→Fld→Vlu
 | ⟨n,w,t,sub⟩,none,f=>⟨n,w,t,sub⟩
 | ⟨n,w,t,sub⟩,some u,f=>if f.Repeated=true then ⟨n,u.Words++w,u.Texts++t,u.Subs++sub⟩ else if f.Kind=17 then ⟨n,[],[],zur s sub u.Subs f.Of⟩ else ⟨n,w,t,sub⟩
def zur (s:List Mes):List Msg→List Msg→Int→List Msg
 | [],_,_=>[]
 | x::_,ys,k=>match ys with
  | []=>[]
  | y::_=>[ziq s x y k]
end
theorem zrf (s:List Mes) (b a:Msg) (k:Int):ziq s b a k=⟨zmK s b.Values a (zY s k) a.Values,a.Unknown++b.Unknown⟩:=by cases b;rw [ziq]
theorem zjz (s:List Mes) (v:Vlu) (o:Option Vlu) (f:Fld):zlf s v o f=match o with
  | none=>v
  | some u=>if f.Repeated=true then ⟨v.Number,u.Words++v.Words,u.Texts++v.Texts,u.Subs++v.Subs⟩ else if f.Kind=17 then ⟨v.Number,[],[],zur s v.Subs u.Subs f.Of⟩ else v:=by
 cases v
 cases o<;>rw [zlf]
theorem zzs (s:List Mes) (v:Vlu) (o:Option Vlu) (f:Fld):(zlf s v o f).Number=v.Number:=by
 rw [zjz]
 cases o with
 | none=>rfl
 | some u=>simp only;split;rfl;split<;>rfl
theorem zpC {s:List Mes} {a:Msg} {m:Mes}:∀{l acc:List Vlu},zdX acc→zdX l→(∀v∈l,0<zbM (zlf s v (look a.Values v.Number) (zX m (fldI m v.Number))))→
  zdX (zmK s l a m acc)∧∀n,look (zmK s l a m acc) n=match look l n with
   | some v=>some (zlf s v (look a.Values n) (zX m (fldI m n)))
   | none=>look acc n
 | [],acc,h1,_,_=>by rw [zmK];exact ⟨h1,fun n=>rfl⟩
 | v::l,acc,h1,h2,h3=>by
  obtain ⟨l1,l2⟩:=List.pairwise_cons.1 h2
  have hv:=h3 v List.mem_cons_self
  have hnum:=zzs s v (look a.Values v.Number) (zX m (fldI m v.Number))
  rw [zmK]
  have hacc:zdX (putM ⟨acc,[]⟩ (zlf s v (look a.Values v.Number) (zX m (fldI m v.Number)))).Values:=zpG h1
  obtain ⟨r1,r2⟩:=zpC (s:=s) (a:=a) (m:=m) hacc l2 fun u hu=>h3 u (List.mem_cons_of_mem _ hu)
  refine ⟨r1,fun n=>?_⟩
  rw [r2 n,zbX]
  have hlk:look (putM ⟨acc,[]⟩ (zlf s v (look a.Values v.Number) (zX m (fldI m v.Number)))).Values n=if n=v.Number then some (zlf s v (look a.Values v.Number) (zX m (fldI m v.Number))) else look acc n:=by
   unfold putM
   simp only
   rw [zvW h1 n,hnum]
   by_cases hn:n=v.Number
   ·rw [if_pos hn,if_pos hn,if_neg fun hh=>by have:=of_decide_eq_true hh;omega]
   ·rw [if_neg hn,if_neg hn]
  by_cases hn:v.Number=n
  ·rw [if_pos hn,znH fun u hu=>by have:=l1 u hu;omega,hlk,if_pos hn.symm]
   simp only [hn]
  ·rw [if_neg hn,hlk,if_neg fun hh=>hn hh.symm]
theorem zxf {s:List Mes} {v:Vlu} {o:Option Vlu} {f:Fld} (hv:zni s v f) (ho:∀u,o=some u→zni s u f):0<zbM (zlf s v o f):=by
 rw [zjz]
 cases o with
 | none=>exact hv.many
 | some u=>
  have:=hv.many
  simp only
  by_cases hr:f.Repeated=true
  ·rw [if_pos hr]
   unfold zbM at this⊢
   simp only [List.length_append]
   omega
  ·rw [if_neg hr]
   by_cases h17:f.Kind=17
   ·rw [if_pos h17]
    obtain ⟨x,hvx,_⟩:=hv.msg h17 (by simpa using hr)
    obtain ⟨y,huy,_⟩:=(ho u rfl).msg h17 (by simpa using hr)
    rw [hvx,huy,zur]
    simp [zbM]
   ·rw [if_neg h17];exact this
theorem ztk {s:List Mes} {a b:Msg} {k:Int} (ha:zcG s a k=true) (hb:zcG s b k=true):zdX (ziq s b a k).Values∧∀n,look (ziq s b a k).Values n=match look b.Values n with
   | some v=>some (zlf s v (look a.Values n) (zX (zY s k) (fldI (zY s k) n)))
   | none=>look a.Values n:=by
 obtain ⟨_,_,ra,ha',_⟩:=zfZ ha
 obtain ⟨_,_,rb,hb',_⟩:=zfZ hb
 rw [zrf]
 exact zpC ra rb fun v hv=>zxf (zsU (hb' v hv).2) fun u hu=>by
  obtain ⟨e,hm⟩:=ztl hu
  have:=zsU (ha' u hm).2
  rw [e] at this
  exact this
def zsc (g:Int→List UInt8→Msg) (m:Mes) (l:List Th) (i:Int):Vlu:=valO g (zX m i) (accF g (zX m i) i acc0 l)
theorem zoL {s:List Mes} (hs:zfK s) {m:Mes} (hm:m∈s) {g:Int→List UInt8→Msg} {l:List Th} (hr:zdX (zeZ g m l).Values) (n:Int):
  look (zeZ g m l).Values n=if 0≤fldI m n∧0<zbM (zsc g m l (fldI m n)) then some (zsc g m l (fldI m n)) else none:=by
 have hmem:∀v,v∈(zeZ g m l).Values↔∃i:Int,(0≤i∧i<m.Fields.length)∧zsc g m l i=v∧0<zbM v:=fun v=>by
  unfold zeZ zpM
  simp only [List.mem_filter,List.mem_map,zej,decide_eq_true_eq]
  constructor
  ·rintro ⟨⟨i,hi,rfl⟩,h2⟩;exact ⟨i,hi,rfl,h2⟩
  ·rintro ⟨i,hi,rfl,h2⟩;exact ⟨⟨i,hi,rfl⟩,h2⟩
 have hnum:∀i,(zsc g m l i).Number=(zX m i).Number:=fun i=>rfl
 by_cases hc:0≤fldI m n∧0<zbM (zsc g m l (fldI m n))
 ·rw [if_pos hc]
  rcases zgO m n with ⟨hf,_⟩| ⟨j,hj,hf,hjn,_⟩
  ·omega
  ·have h:=zBu hr ((hmem (zsc g m l (fldI m n))).2 ⟨fldI m n,by omega,rfl,hc.2⟩)
   rw [hnum,hf,zdK hj,hjn] at h
   rw [hf];exact h
 ·rw [if_neg hc]
  cases hlk:look (zeZ g m l).Values n with
  | none=>rfl
  | some v=>
   exfalso
   obtain ⟨hn,hv⟩:=ztl hlk
   obtain ⟨i,hi,rfl,hp⟩:=(hmem v).1 hv
   rw [hnum] at hn
   have:=znv hs hm hi.1 hi.2
   rw [hn] at this
   rw [this] at hc
   exact hc ⟨hi.1,hp⟩
def comb (f:Fld) (a q:zcF):zcF:=(a.1++q.1,a.2.1|| q.2.1,(if f.Repeated=true then a.2.2.1++q.2.2.1 else if q.2.1=true then q.2.2.1 else a.2.2.1),(if f.Repeated=true then a.2.2.2.1++q.2.2.2.1 else if q.2.1=true then q.2.2.2.1 else a.2.2.2.1),a.2.2.2.2++q.2.2.2.2)
theorem zDF (f:Fld) (a:zcF):comb f a acc0=a:=by
 unfold comb acc0
 cases f.Repeated<;>simp
theorem zBZ (g:Int→List UInt8→Msg) (f:Fld) (a q:zcF) (t:Th):stp g f (comb f a q) t=comb f a (stp g f q t):=by
 unfold stp comb
 cases hr:f.Repeated
 ·by_cases h1:t.run=true
  ·simp [h1]
  ·by_cases h2:kNum f.Kind=true
   ·simp [h1,h2]
   ·by_cases h3:f.Kind=17
    ·have e:kNum 17=false:=rfl
     simp [h1,h3,e]
    ·simp [h1,h2,h3]
 ·by_cases h1:t.run=true
  ·simp [h1]
  ·by_cases h2:kNum f.Kind=true
   ·simp [h1,h2]
   ·by_cases h3:f.Kind=17
    ·have e:kNum 17=false:=rfl
     simp [h1,h3,e]
    ·simp [h1,h2,h3]
theorem zor (g:Int→List UInt8→Msg) (f:Fld) (i:Int) (a:zcF):∀(l:List Th) (q:zcF),accF g f i (comb f a q) l=comb f a (accF g f i q l)
 | [],q=>rfl
 | t::l,q=>by
  rw [accF,accF]
  split
  ·rw [zBZ,zor g f i a l]
  ·rw [zor g f i a l]
theorem zyT (g:Int→List UInt8→Msg) (f:Fld) (a:zcF) (t:Th):(stp g f a t).2.1=true:=by
 unfold stp;split;rfl;split;rfl;split;rfl;split<;>rfl
theorem zsJ (g:Int→List UInt8→Msg) (f:Fld) (i:Int):∀(l:List Th) (a:zcF),a.2.1=true→(accF g f i a l).2.1=true
 | [],a,h=>h
 | t::l,a,h=>by
  rw [accF]
  refine zsJ g f i l _ ?_
  split
  ·exact zyT g f a t
  ·exact h
theorem zqE (g:Int→List UInt8→Msg) (f:Fld) (i:Int):∀(l:List Th) (a:zcF),(accF g f i a l).2.1=false→accF g f i a l=a
 | [],a,h=>rfl
 | t::l,a,h=>by
  rw [accF] at h⊢
  split at h
  ·rw [zsJ g f i l _ (zyT g f a t)] at h;cases h
  ·rename_i ht;rw [if_neg ht];exact zqE g f i l a h
theorem zCa {s:List Mes} {d:Nat} {m:Mes} {f:Fld} {g:Int→List UInt8→Msg} {a:zcF} {t:Th} (ht:OkT s d m t) (hi:0≤t.fi) (hf:zX m t.fi=f) (hr:f.Repeated=false) (h17:f.Kind≠17):
  0<(stp g f a t).2.2.1.length+(stp g f a t).2.2.2.1.length:=by
 have hrun:=ht.run hi
 rw [hf] at hrun
 unfold stp
 by_cases h1:t.run=true
 ·have:=(hrun h1).2.1
  rw [hr] at this;cases this
 ·rw [if_neg h1]
  by_cases h2:kNum f.Kind=true
  ·rw [if_pos h2];simp;omega
  ·rw [if_neg h2,if_neg (fun hh=>h17 hh.1),if_neg h17];simp;omega
theorem zsI {s:List Mes} {d:Nat} {m:Mes} {f:Fld} {g:Int→List UInt8→Msg} {i:Int} (hi:0≤i) (hf:zX m i=f) (hr:f.Repeated=false) (h17:f.Kind≠17):∀(l:List Th) (a:zcF),(∀t∈l,OkT s d m t)→
  (a.2.1=true→0<a.2.2.1.length+a.2.2.2.1.length)→(accF g f i a l).2.1=true→0<(accF g f i a l).2.2.1.length+(accF g f i a l).2.2.2.1.length
 | [],a,_,h,hm=>h hm
 | t::l,a,ht,h,hm=>by
  rw [accF] at hm⊢
  refine zsI hi hf hr h17 l _ (fun x hx=>ht x (List.mem_cons_of_mem _ hx)) ?_ hm
  split
  ·rename_i hti
   exact fun _=>zCa (ht t List.mem_cons_self) (by omega) (by rw [hti];exact hf) hr h17
  ·exact h
theorem zxx {s:List Mes} (hs:zfK s):∀(N:Nat) (a z:List UInt8) (d k:Nat),a.length+z.length=N→k<s.length→zaf s d k a=none→zaf s d k z=none→ofM s k (a++z)=ziq s (ofM s k z) (ofM s k a) k:=by
 intro N
 induction N using Nat.strongRecOn with
 | _ N IH=>
  intro a z d k hN hk hva hvz
  have hmm:zY s (k:Int)∈s:=by rw [zfa hk];exact List.getElem_mem hk
  have hvaz:=(zgn s d k z hva).2 hvz
  have hra:=(zif hs _ a d k rfl hk hva).1
  have hrz:=(zif hs _ z d k rfl hk hvz).1
  have hraz:=(zif hs _ (a++z) d k rfl hk hvaz).1
  obtain ⟨j1,j2⟩:=ztk hra hrz
  obtain ⟨_,_,ra,_,_⟩:=zfZ hra
  obtain ⟨_,_,rz,_,_⟩:=zfZ hrz
  obtain ⟨_,_,raz,_,_⟩:=zfZ hraz
  have hta:=zyX hva
  have htz:=zyX hvz
  have hwa:=zmZ (zY s (k:Int)) a
  have hwz:=zmZ (zY s (k:Int)) z
  have haz:=zxM hva hvz
  have hvals:(ofM s k (a++z)).Values=(ziq s (ofM s k z) (ofM s k a) k).Values:=by
   refine zrk raz j1 fun n=>?_
   rw [j2 n]
   rw [zjf] at raz ra rz
   rw [zjf s k (a++z),zjf s k z,zjf s k a,zoL hs hmm raz,zoL hs hmm rz,zoL hs hmm ra,haz]
   generalize zY s (k:Int)=m at hmm hta htz hwa hwz
   rcases zgO m n with ⟨hf,_⟩| ⟨j,hj,hf,hjn,_⟩
   ·rw [hf]
    rw [if_neg (fun hh=>absurd hh.1 (by omega)),if_neg (fun hh=>absurd hh.1 (by omega)),if_neg (fun hh=>absurd hh.1 (by omega))]
   ·rw [hf]
    have hj0:(0:Int)≤(j:Int):=by omega
    simp only [hj0,true_and]
    have hfm:zX m (j:Int)∈m.Fields:=by rw [zdK hj];exact List.getElem_mem hj
    unfold zsc
    generalize hff:zX m (j:Int)=f at hfm
    have hsub:f.Kind=17→∀v:List UInt8,v.length+1≤N→∀e,zaf s e f.Of v=none→zcG s (ofM s f.Of v) f.Of=true∧dM (ofM s f.Of v)≤e:=fun h17 v _ e he=>by
     have hof:=(hs.fld _ hmm f hfm).sub h17
     obtain ⟨q,hq⟩:∃q:Nat,f.Of=q:=⟨f.Of.toNat,by omega⟩
     rw [hq] at he⊢
     exact zif hs v.length v e q rfl (by omega) he
    have ha1:=zqc (g:=ofM s) hj0 hff acc0 (ths m a) (ztP s d f) hta (fun t ht h17 e he hv=>hsub h17 _ (by have:=znh ht;omega) e hv)
    have hz1:=zqc (g:=ofM s) hj0 hff acc0 (ths m z) (ztP s d f) htz (fun t ht h17 e he hv=>hsub h17 _ (by have:=znh ht;omega) e hv)
    have hca:=zor (ofM s) f j (accF (ofM s) f j acc0 (ths m a)) (ths m z) acc0
    rw [zDF] at hca
    rw [zpt,hca]
    have hma:=zqE (ofM s) f j (ths m a) acc0
    have hmz:=zqE (ofM s) f j (ths m z) acc0
    have hnz:=fun hr h17=>zsI (g:=ofM s) hj0 hff hr h17 (ths m z) acc0 htz (fun hh=>nomatch hh)
    have hja:=(zos (ofM s) f j acc0 (ths m a)).2
    have hjz:=(zos (ofM s) f j acc0 (ths m z)).2
    have j0:wJ acc0=0:=rfl
    rw [j0] at hja hjz
    generalize accF (ofM s) f j acc0 (ths m a)=q1 at ha1 hma hja
    generalize accF (ofM s) f j acc0 (ths m z)=q2 at hz1 hmz hnz hjz
    have e0:zbM (valO (ofM s) f acc0)=0:=by unfold zbM valO acc0;simp
    cases hm2:q2.2.1 with
    | false=>
     rw [hmz hm2,zDF,e0,if_neg (show ¬(0<0) by omega)]
    | true=>
     cases hr:f.Repeated with
     | true=>
      have v1:valO (ofM s) f q1=⟨f.Number,q1.2.2.1,q1.2.2.2.1,q1.2.2.2.2⟩:=by unfold valO;rw [if_neg (fun hh=>by rw [hr] at hh;cases hh.2.2)]
      have v2:valO (ofM s) f q2=⟨f.Number,q2.2.2.1,q2.2.2.2.1,q2.2.2.2.2⟩:=by unfold valO;rw [if_neg (fun hh=>by rw [hr] at hh;cases hh.2.2)]
      have v12:valO (ofM s) f (comb f q1 q2)=⟨f.Number,q1.2.2.1++q2.2.2.1,q1.2.2.2.1++q2.2.2.2.1,q1.2.2.2.2++q2.2.2.2.2⟩:=by
       unfold valO;rw [if_neg (fun hh=>by rw [hr] at hh;cases hh.2.2)];unfold comb;simp [hr]
      rw [v1,v2,v12]
      have nil2:∀(x y w:Nat),x+y+w=0→x=0∧y=0∧w=0:=by omega
      by_cases h2:0<zbM (⟨f.Number,q2.2.2.1,q2.2.2.2.1,q2.2.2.2.2⟩:Vlu)
      ·rw [if_pos h2]
       simp only
       rw [if_pos (by unfold zbM at h2⊢;simp only [List.length_append] at h2⊢;omega),zjz]
       by_cases h1:0<zbM (⟨f.Number,q1.2.2.1,q1.2.2.2.1,q1.2.2.2.2⟩:Vlu)
       ·rw [if_pos h1];simp only;rw [if_pos hr]
       ·rw [if_neg h1]
        simp only
        unfold zbM at h1
        simp only at h1
        obtain ⟨n1,n2,n3⟩:=nil2 _ _ _ (show q1.2.2.1.length+q1.2.2.2.1.length+q1.2.2.2.2.length=0 by omega)
        rw [List.eq_nil_of_length_eq_zero n1,List.eq_nil_of_length_eq_zero n2,List.eq_nil_of_length_eq_zero n3]
        rfl
      ·rw [if_neg h2]
       simp only
       unfold zbM at h2
       simp only at h2
       obtain ⟨n1,n2,n3⟩:=nil2 _ _ _ (show q2.2.2.1.length+q2.2.2.2.1.length+q2.2.2.2.2.length=0 by omega)
       rw [List.eq_nil_of_length_eq_zero n1,List.eq_nil_of_length_eq_zero n2,List.eq_nil_of_length_eq_zero n3]
       simp only [List.append_nil]
     | false=>
      have s1:=(ha1.one hr).2.2
      have s2:=(hz1.one hr).2.2
      by_cases h17:f.Kind=17
      ·have nw:∀q:zcF,zqx s d f q→q.2.2.1=[]∧q.2.2.2.1=[]:=fun q hq=>by
        constructor
        ·cases hw:q.2.2.1 with
         | nil=>rfl
         | cons w l=>
          have:=hq.words w (by rw [hw];exact List.mem_cons_self)
          unfold zhU at this
          rw [h17] at this;simp [kNum] at this
        ·cases hw:q.2.2.2.1 with
         | nil=>rfl
         | cons w l=>
          have:=hq.texts w (by rw [hw];exact List.mem_cons_self)
          unfold ziD at this
          rw [h17] at this;simp at this
       obtain ⟨a1,a2⟩:=nw q1 ha1
       obtain ⟨z1,z2⟩:=nw q2 hz1
       have v2:valO (ofM s) f q2=⟨f.Number,[],[],[ofM s f.Of q2.1]⟩:=by unfold valO;rw [if_pos ⟨hm2,h17,hr⟩,z1,z2]
       have m2:0<zbM (⟨f.Number,[],[],[ofM s f.Of q2.1]⟩:Vlu):=by simp [zbM]
       rw [v2,if_pos m2]
       simp only
       cases hm1:q1.2.1 with
       | false=>
        have hq1:=hma hm1
        rw [hq1,e0,if_neg (show ¬(0<0) by omega),zjz]
        simp only
        have v12:valO (ofM s) f (comb f acc0 q2)=⟨f.Number,[],[],[ofM s f.Of q2.1]⟩:=by
         unfold valO comb acc0;simp [hm2,h17,hr,z1,z2]
        rw [v12,if_pos m2]
       | true=>
        have v1:valO (ofM s) f q1=⟨f.Number,[],[],[ofM s f.Of q1.1]⟩:=by unfold valO;rw [if_pos ⟨hm1,h17,hr⟩,a1,a2]
        have v12:valO (ofM s) f (comb f q1 q2)=⟨f.Number,[],[],[ofM s f.Of (q1.1++q2.1)]⟩:=by
         unfold valO comb;simp [hm1,hm2,h17,hr,z1,z2]
        obtain ⟨e,he⟩:=hz1.met hm2 h17
        have jv1:=ha1.join h17 e he
        have jv2:=hz1.join h17 e he
        rw [wJ,if_pos hm1] at hja
        rw [wJ,if_pos hm2] at hjz
        have hof:=(hs.fld _ hmm f hfm).sub h17
        obtain ⟨q,hq⟩:∃q:Nat,f.Of=q:=⟨f.Of.toNat,by omega⟩
        have hih:ofM s f.Of (q1.1++q2.1)=ziq s (ofM s f.Of q2.1) (ofM s f.Of q1.1) f.Of:=by
         rw [hq] at jv1 jv2⊢
         exact IH (q1.1.length+q2.1.length) (by omega) _ _ e q rfl (by omega) jv1 jv2
        rw [v1,v12,if_pos (by simp [zbM]),if_pos (by simp [zbM]),zjz]
        simp only
        rw [if_neg (by rw [hr];simp),if_pos h17,zur,hih]
      ·have v1:valO (ofM s) f q1=⟨f.Number,q1.2.2.1,q1.2.2.2.1,[]⟩:=by unfold valO;rw [if_neg (fun hh=>h17 hh.2.1),s1]
       have v2:valO (ofM s) f q2=⟨f.Number,q2.2.2.1,q2.2.2.2.1,[]⟩:=by unfold valO;rw [if_neg (fun hh=>h17 hh.2.1),s2]
       have v12:valO (ofM s) f (comb f q1 q2)=⟨f.Number,q2.2.2.1,q2.2.2.2.1,[]⟩:=by
        unfold valO;rw [if_neg (fun hh=>h17 hh.2.1)];unfold comb;simp [hr,hm2,s1,s2]
       have m2:0<zbM (⟨f.Number,q2.2.2.1,q2.2.2.2.1,[]⟩:Vlu):=by
        have:=hnz hr h17 hm2
        unfold zbM;simp only [List.length_nil];omega
       rw [v12,v2,if_pos m2]
       simp only
       rw [zjz]
       split
       ·rfl
       ·rw [if_neg (by rw [hr];simp),if_neg h17]
  have hunk:(ofM s k (a++z)).Unknown=(ziq s (ofM s k z) (ofM s k a) k).Unknown:=by
   rw [zrf,zjf s k (a++z),zjf s k z,zjf s k a,haz]
   unfold zeZ unkO
   simp only [List.filter_append,List.map_append]
  generalize ofM s k (a++z)=x at hvals hunk⊢
  generalize ziq s (ofM s k z) (ofM s k a) k=y at hvals hunk⊢
  cases x;cases y
  simp only at hvals hunk
  rw [hvals,hunk]
end Go.Proofs.YtcbkcblkecmjnaaGreat
namespace Go.Proofs.YtcbkcblkecmjnaaGreat
open Go
set_option linter.unusedVariables false
theorem zwM (s:List Mes) (root d:Int):argS s root d=0∨argS s root d=2∨argS s root d=9:=by
 unfold argS
 split
 ·omega
 ·split<;>omega
theorem ztY (s:List Mes) (root:Int) (b:List UInt8) (d:Int):0≤(zbO s root b d).2∧(zbO s root b d).2≤9:=by
 unfold zbO
 by_cases h:argS s root d=0
 ·rw [if_neg (by simpa using h)]
  cases hf:zaf s d.toNat root b with
  | none=>simp
  | some p=>
   have:=zim s d.toNat root b p.1 p.2 hf
   simp only [Option.getD_some];omega
 ·rw [if_pos h]
  rcases zwM s root d with h| h| h<;>rw [h]<;>simp
def zyf (s:List Mes) (root:Int) (b:List UInt8):Int×Int:=if (zbO s root b 64).2≠0 then (0,(zbO s root b 64).2) else ((zhg s root b:Nat),0)
theorem zAF {s:List Mes} {root:Int} {b:List UInt8} (h:is11 s root b 64=true):zyf s root b=(((zhg s root b:Nat):Int),0):=by
 have:(zbO s root b 64).2=0:=by unfold is11 at h;simpa using h
 unfold zyf;rw [if_neg (by simpa using this)]
end Go.Proofs.YtcbkcblkecmjnaaGreat
namespace Go.Proofs.YtcbkcblkecmjnaaGreat
open Go
set_option linter.unusedVariables false
def zku (s:List Mes) (root:Int) (b:List UInt8) (d:Int):Msg×Int:=if (zbO s root b d).2≠0 then (⟨[],[]⟩,(zbO s root b d).2) else (ofM s root b,0)
theorem ztZ {s:List Mes} {root:Int} {b:List UInt8} {d:Int} (h:(zbO s root b d).2=0):argS s root d=0:=by
 unfold zbO at h
 by_cases h0:argS s root d=0
 ·exact h0
 ·rw [if_pos h0] at h;exact h
end Go.Proofs.YtcbkcblkecmjnaaGreat
namespace Go.Proofs.YtcbkcblkecmjnaaGreat
open Go
set_option linter.unusedVariables false
theorem zyV:∀(fuel:Nat) (x:Msg) (most:Nat),szM x<fuel→bdM x→dM x≤most→most≤1048576→zdZ fuel x most=some ((dM x:Nat):Int)
 | 0,x,_,h,_,_,_=>by omega
 | fuel+1,x,most,hs,hb,hd,hm=>by
  obtain ⟨b1,_,b4⟩:=(zou x).1 hb
  rw [zuP] at hs
  rw [zDH] at hd⊢
  show zgA (zdZ fuel) x most=_
  unfold zgA
  have inner:∀(v:Vlu),v∈x.Values→∀(c i d:Nat),i+c=v.Subs.length→d≤most→zeL most (zdZ fuel) v d i=some (.inl ((max d (dMs (v.Subs.drop i)):Nat):Int)):=by
   intro v hv c
   have hsz:=zlC hv
   have hdv:=zue hv
   obtain ⟨_,_,_,c1,c2⟩:=(zqH _).1 (zjq.1 b4 _ hv)
   rw [zuQ] at hsz
   rw [zAD] at hdv
   induction c with
   | zero=>
    intro i d hi hdm
    have e:v.Subs.drop i=[]:=List.drop_eq_nil_of_le (by omega)
    rw [e,dMs]
    refine zod ?_
    unfold zch
    rw [itF (by simp;omega),Nat.max_zero]
   | succ c ih=>
    intro i d hi hdm
    have hil:i<v.Subs.length:=by omega
    have hm2:=List.getElem_mem hil
    have s2:=zlB hm2
    have d2:=zye hm2
    rw [List.drop_eq_getElem_cons hil,dMs]
    have hr:=zyV fuel v.Subs[i] (most - 1) (by omega) (zjp.1 c2 _ hm2) (by omega) (by omega)
    have hmost:IntKind.i64.wrap ((most:Int) - 1)=((most - 1:Nat):Int):=by rw [zW (by omega)];omega
    have hw:IntKind.i64.wrap (1+((dM v.Subs[i]:Nat):Int))=1+((dM v.Subs[i]:Nat):Int):=by rw [zW (by omega)]
    have hmax:(if (d:Int)<1+((dM v.Subs[i]:Nat):Int) then 1+((dM v.Subs[i]:Nat):Int) else (d:Int))=((max d (1+dM v.Subs[i]):Nat):Int):=by
     split<;>omega
    refine (zoc (deep3':=((max d (1+dM v.Subs[i]):Nat):Int)) (v3':=((i+1:Nat):Int)) ?_).trans ?_
    ·unfold zch
     rw [itT (by simp;omega),zan rfl hil,sb,itF (by simp;omega),hmost,hr,sb,hw,hmax,itF (by simp;omega),zW (by omega)]
     push_cast;rfl
    ·rw [ih (i+1) (max d (1+dM v.Subs[i])) (by omega) (by omega)]
     congr 3
     omega
  have outer:∀(c i d:Nat),i+c=x.Values.length→d≤most→zeK most (zdZ fuel) x d i=some (.inl ((max d (dVs (x.Values.drop i)):Nat):Int)):=by
   intro c
   induction c with
   | zero=>
    intro i d hi hdm
    have e:x.Values.drop i=[]:=List.drop_eq_nil_of_le (by omega)
    rw [e,dVs]
    refine zob ?_
    unfold zcg
    rw [itF (by simp;omega),Nat.max_zero]
   | succ c ih=>
    intro i d hi hdm
    have hil:i<x.Values.length:=by omega
    have hmem:=List.getElem_mem hil
    have hdv:=zue hmem
    rw [List.drop_eq_getElem_cons hil,dVs]
    have h2:=inner x.Values[i] hmem (x.Values[i]).Subs.length 0 d (Nat.zero_add _) hdm
    rw [List.drop_zero,←zAD] at h2
    have h2':zeL most (zdZ fuel) x.Values[i] d 0=_:=h2
    refine (zoa (deep':=((max d (dV x.Values[i]):Nat):Int)) (v':=((i+1:Nat):Int)) ?_).trans ?_
    ·unfold zcg
     rw [itT (by simp;omega),zan rfl hil,sb,h2',sb,zW (by omega)]
     push_cast;rfl
    ·rw [ih (i+1) (max d (dV x.Values[i])) (by omega) (by omega)]
     congr 3
     omega
  have h:=outer x.Values.length 0 0 (Nat.zero_add _) (Nat.zero_le _)
  have h':zeK most (zdZ fuel) x 0 0=_:=h
  rw [h',sb,List.drop_zero,Nat.zero_max]
theorem ztE {fuel:Nat} {x:Msg} (hf:szM x<fuel) (hb:bdM x) (hd:dM x≤131072):zgZ fuel x=some ((dM x:Nat):Int):=by
 unfold zgZ
 have h:=zyV fuel x 131072 hf hb hd (by omega)
 have h':zdZ fuel x 131072=_:=h
 rw [h',sb]
theorem zrV {fuel:Nat} {x:Msg} (hf:szM x<fuel) (hb:bdM x) (hd:dM x≤131072):zha fuel x=some true:=by
 unfold zha
 rw [ztE hf hb hd,sb]
 congr 1
 simp;omega
theorem zzl {a b:List Int} (ha:a.length≤1152921504606846976):zbv a b=some (decide (a=b)):=by
 unfold zbv
 by_cases hl:a.length=b.length
 ·rw [itF (by simp [hl])]
  have h:=zks a b (fun i=>zaJ a b i) hl (by
    refine zde ?_
    unfold zad
    rw [itF (by simp)])
   (fun i hi hi'=>by
    by_cases hp:a[i]=b[i]
    ·rw [if_pos hp]
     refine zfw ?_
     unfold zad
     rw [itT (by simp;omega),zan rfl hi,sb,zan rfl hi',sb,itF (by simp [hp]),zW (by omega)];push_cast;rfl
    ·rw [if_neg hp]
     refine zde ?_
     unfold zad
     rw [itT (by simp;omega),zan rfl hi,sb,zan rfl hi',sb,itT (by simp [hp])])
   a.length 0 (by omega)
  have h':zaJ a b 0=_:=h
  rw [h',sb]
  simp only [List.drop_zero]
  by_cases e:a=b
  ·rw [if_pos e];simp [e]
  ·rw [if_neg e];simp [e]
 ·rw [itT (by simp;omega)]
  have:a≠b:=fun e=>hl (by rw [e])
  simp [this]
theorem zsT {a b:List Str} (ha:a.length≤1152921504606846976):zaW a b=some (decide (a=b)):=by
 unfold zaW
 by_cases hl:a.length=b.length
 ·rw [itF (by simp [hl])]
  have h:=zks a b (fun i=>zaI a b i) hl (by
    refine zdd ?_
    unfold zac
    rw [itF (by simp)])
   (fun i hi hi'=>by
    by_cases hp:a[i]=b[i]
    ·rw [if_pos hp]
     refine zfv ?_
     unfold zac
     rw [itT (by simp;omega),zan rfl hi,sb,zan rfl hi',sb,itF (by simp [hp]),zW (by omega)];push_cast;rfl
    ·rw [if_neg hp]
     refine zdd ?_
     unfold zac
     rw [itT (by simp;omega),zan rfl hi,sb,zan rfl hi',sb,itT (by simp [hp])])
   a.length 0 (by omega)
  have h':zaI a b 0=_:=h
  rw [h',sb]
  simp only [List.drop_zero]
  by_cases e:a=b
  ·rw [if_pos e];simp [e]
  ·rw [if_neg e];simp [e]
 ·rw [itT (by simp;omega)]
  have:a≠b:=fun e=>hl (by rw [e])
  simp [this]
section
open Classical
theorem zcY {α:Type} {x y:α} (h:x≠y):zly x y=false:=by
 cases hq:zly x y with
 | false=>rfl
 | true=>exact absurd (zeI.1 hq) h
theorem zyY:∀(fuel:Nat),(∀x y:Msg,2*szM x<fuel→bdM x→zen fuel x y=some (zly x y))∧(∀v u:Vlu,2*szV v<fuel→bdV v→zcs fuel v u=some (zly v u))∧
  (∀a b:List Vlu,2*szVs a+1<fuel→a.length≤1152921504606846976→bdVs a→zJ fuel a b=some (zly a b))∧
  ∀a b:List Msg,2*szMs a+1<fuel→a.length≤1152921504606846976→bdMs a→zP fuel a b=some (zly a b)
 | 0=>⟨fun x y h=>by omega,fun v u h=>by omega,fun a b h=>by omega,fun a b h=>by omega⟩
 | fuel+1=>by
  obtain ⟨ih1,ih2,ih3,ih4⟩:=zyY fuel
  refine ⟨fun x y hs hb=>?_,fun v u hs hb=>?_,fun a b hs hl hb=>?_,fun a b hs hl hb=>?_⟩
  ·obtain ⟨b1,⟨b2,b3⟩,b4⟩:=(zou x).1 hb
   rw [zuP] at hs
   show zhG (zen fuel) (zcs fuel) (zJ fuel) (zP fuel) x y=_
   unfold zhG
   rw [ih3 x.Values y.Values (by omega) (by omega) b4,sb]
   by_cases e1:x.Values=y.Values
   ·rw [zeI.2 e1,itT (by rfl),zsT (by omega),sb,sb]
    by_cases e2:x.Unknown=y.Unknown
    ·rw [decide_eq_true e2,zeI.2 (by cases x;cases y;simp only at e1 e2;rw [e1,e2])]
    ·rw [decide_eq_false e2,zcY fun e=>e2 (by rw [e])]
   ·rw [zcY e1,itF (by rfl),sb,zcY fun e=>e1 (by rw [e])]
  ·obtain ⟨b0,⟨b1,_⟩,⟨b2,b3⟩,b4,b5⟩:=(zqH v).1 hb
   rw [zuQ] at hs
   show zeo (zen fuel) (zcs fuel) (zJ fuel) (zP fuel) v u=_
   unfold zeo
   by_cases e0:v.Number=u.Number
   ·rw [itT (by simp [e0]),zzl (by omega),sb]
    by_cases e1:v.Words=u.Words
    ·rw [itT (by simp [e1]),zsT (by omega),sb]
     by_cases e2:v.Texts=u.Texts
     ·rw [itT (by simp [e2]),ih4 v.Subs u.Subs (by omega) (by omega) b5,sb,sb]
      by_cases e3:v.Subs=u.Subs
      ·rw [zeI.2 e3,zeI.2 (by cases v;cases u;simp only at e0 e1 e2 e3;rw [e0,e1,e2,e3])]
      ·rw [zcY e3,zcY fun e=>e3 (by rw [e])]
     ·rw [itF (by simp [e2]),sb,zcY fun e=>e2 (by rw [e])]
    ·rw [itF (by simp [e1]),sb,zcY fun e=>e1 (by rw [e])]
   ·rw [itF (by simp [e0]),sb,zcY fun e=>e0 (by rw [e])]
  ·show zN (zen fuel) (zcs fuel) (zJ fuel) (zP fuel) a b=_
   unfold zN
   by_cases hll:a.length=b.length
   ·rw [itF (by simp [hll])]
    have hv:∀(i:Nat) (hi:i<a.length) (hi':i<b.length),zcs fuel a[i] b[i]=some (zly a[i] b[i]):=fun i hi hi'=>by
     have hm:=List.getElem_mem hi
     have:=zlC hm
     exact ih2 _ _ (by omega) (zjq.1 hb _ hm)
    have h:=zks a b (fun i=>zI (zcs fuel) a b i) hll (by
      refine zaw ?_
      unfold zu
      rw [itF (by simp)])
     (fun i hi hi'=>by
      by_cases hp:a[i]=b[i]
      ·rw [if_pos hp]
       refine zbi ?_
       unfold zu
       rw [itT (by simp;omega),zan rfl hi,sb,zan rfl hi',sb,hv i hi hi',sb,itF (by rw [zeI.2 hp];rfl),zW (by omega)];push_cast;rfl
      ·rw [if_neg hp]
       refine zaw ?_
       unfold zu
       rw [itT (by simp;omega),zan rfl hi,sb,zan rfl hi',sb,hv i hi hi',sb,itT (by rw [zcY hp];rfl)])
     a.length 0 (by omega)
    have h':zI (zcs fuel) a b 0=_:=h
    rw [h',sb]
    simp only [List.drop_zero]
    by_cases e:a=b
    ·rw [if_pos e,zeI.2 e]
    ·rw [if_neg e,zcY e]
   ·rw [itT (by simp;omega),zcY fun e=>hll (by rw [e])]
  ·show zS (zen fuel) (zcs fuel) (zJ fuel) (zP fuel) a b=_
   unfold zS
   by_cases hll:a.length=b.length
   ·rw [itF (by simp [hll])]
    have hv:∀(i:Nat) (hi:i<a.length) (hi':i<b.length),zen fuel a[i] b[i]=some (zly a[i] b[i]):=fun i hi hi'=>by
     have hm:=List.getElem_mem hi
     have:=zlB hm
     exact ih1 _ _ (by omega) (zjp.1 hb _ hm)
    have h:=zks a b (fun i=>zO (zen fuel) a b i) hll (by
      refine zaC ?_
      unfold zy
      rw [itF (by simp)])
     (fun i hi hi'=>by
      by_cases hp:a[i]=b[i]
      ·rw [if_pos hp]
       refine zbF ?_
       unfold zy
       rw [itT (by simp;omega),zan rfl hi,sb,zan rfl hi',sb,hv i hi hi',sb,itF (by rw [zeI.2 hp];rfl),zW (by omega)];push_cast;rfl
      ·rw [if_neg hp]
       refine zaC ?_
       unfold zy
       rw [itT (by simp;omega),zan rfl hi,sb,zan rfl hi',sb,hv i hi hi',sb,itT (by rw [zcY hp];rfl)])
     a.length 0 (by omega)
    have h':zO (zen fuel) a b 0=_:=h
    rw [h',sb]
    simp only [List.drop_zero]
    by_cases e:a=b
    ·rw [if_pos e,zeI.2 e]
    ·rw [if_neg e,zcY e]
   ·rw [itT (by simp;omega),zcY fun e=>hll (by rw [e])]
end
theorem zCj {fuel:Nat} {x:Msg} (y:Msg) (hf:2*szM x<fuel) (hb:bdM x) (hd:dM x≤131072):zjU fuel x y=some (zly x y):=by
 unfold zjU
 rw [zrV (by omega) hb hd,sb,itT (by rfl),(zyY fuel).1 x y hf hb,sb,sb]
theorem zwX {a:List Vlu} (h:a.length*80≤140737488355328):zaH a=some a:=by
 unfold zaH
 have h1:(app 80 ([]:List Vlu) a>>=fun v=>some v)=some a:=by rw [zgm (by simp;omega),sb,List.nil_append]
 cases a with
 | nil=>exact znl rfl h1
 | cons=>exact h1
theorem zwW {a:List Msg} (h:a.length*48≤140737488355328):zbc a=some a:=by
 unfold zbc
 have h1:(app 48 ([]:List Msg) a>>=fun v=>some v)=some a:=by rw [zgm (by simp;omega),sb,List.nil_append]
 cases a with
 | nil=>exact znl rfl h1
 | cons=>exact h1
theorem zsP {a:List Str} (h:a.length*16≤140737488355328):zaT a=some a:=by
 unfold zaT
 have h1:(app 16 ([]:List Str) a>>=fun v=>some v)=some a:=by rw [zgm (by simp;omega),sb,List.nil_append]
 cases a with
 | nil=>exact znl rfl h1
 | cons=>exact h1
theorem zzi {a:List Int} (h:a.length*8≤140737488355328):zbu a=some a:=by
 unfold zbu
 have h1:(app 8 ([]:List Int) a>>=fun v=>some v)=some a:=by rw [zgm (by simp;omega),sb,List.nil_append]
 cases a with
 | nil=>exact znl rfl h1
 | cons=>exact h1
theorem zrK {α:Type}:∀(l:List α) (i:Nat) (h:i<l.length),l.set i l[i]=l
 | [],i,h=>by simp at h
 | x::l,0,h=>rfl
 | x::l,i+1,h=>by simp only [List.set_cons_succ,List.getElem_cons_succ];rw [zrK l i (by simpa using h)]
theorem zyU:∀(fuel:Nat),(∀x:Msg,szM x<fuel→bdM x→zet fuel x=some x)∧∀v:Vlu,szV v<fuel→bdV v→zdp fuel v=some v
 | 0=>⟨fun x h=>by omega,fun v h=>by omega⟩
 | fuel+1=>by
  obtain ⟨ih1,ih2⟩:=zyU fuel
  refine ⟨fun x hs hb=>?_,fun v hs hb=>?_⟩
  ·obtain ⟨b1,⟨b2,b3⟩,b4⟩:=(zou x).1 hb
   rw [zuP] at hs
   show zfG (zet fuel) (zdp fuel) x=_
   unfold zfG
   have hloop:∀(c i:Nat),i+c=x.Values.length→zel (zdp fuel) x.Values x.Values i=some x.Values:=by
    intro c
    induction c with
    | zero=>
     intro i hi
     refine znb ?_
     unfold zbU
     rw [itF (by simp;omega)]
    | succ c ih=>
     intro i hi
     have hil:i<x.Values.length:=by omega
     have hm:=List.getElem_mem hil
     have:=zlC hm
     refine (zna (v':=x.Values) (v2':=((i+1:Nat):Int)) ?_).trans (ih (i+1) (by omega))
     unfold zbU
     rw [itT (by simp;omega),zan rfl hil,sb,ih2 _ (by omega) (zjq.1 b4 _ hm),sb,sb,zW (by omega),Int.toNat_natCast,zrK _ _ hil]
     push_cast;rfl
   have h:=hloop x.Values.length 0 (Nat.zero_add _)
   have h':zel (zdp fuel) x.Values x.Values 0=_:=h
   rw [zwX (by omega),sb,zsP (by omega),sb,h',sb]
   cases x;rfl
  ·obtain ⟨b0,⟨b1,_⟩,⟨b2,b3⟩,b4,b5⟩:=(zqH v).1 hb
   rw [zuQ] at hs
   show zdw (zet fuel) (zdp fuel) v=_
   unfold zdw
   have hloop:∀(c i:Nat),i+c=v.Subs.length→zcw (zet fuel) v.Subs v.Subs i=some v.Subs:=by
    intro c
    induction c with
    | zero=>
     intro i hi
     refine zjX ?_
     unfold zbb
     rw [itF (by simp;omega)]
    | succ c ih=>
     intro i hi
     have hil:i<v.Subs.length:=by omega
     have hm:=List.getElem_mem hil
     have:=zlB hm
     refine (zjW (v2':=v.Subs) (v3':=((i+1:Nat):Int)) ?_).trans (ih (i+1) (by omega))
     unfold zbb
     rw [itT (by simp;omega),zan rfl hil,sb,ih1 _ (by omega) (zjp.1 b5 _ hm),sb,sb,zW (by omega),Int.toNat_natCast,zrK _ _ hil]
     push_cast;rfl
   have h:=hloop v.Subs.length 0 (Nat.zero_add _)
   have h':zcw (zet fuel) v.Subs v.Subs 0=_:=h
   rw [zzi (by omega),sb,zsP (by omega),sb,zwW (by omega),sb,h',sb]
   cases v;rfl
theorem zCe {fuel:Nat} {x:Msg} (hf:szM x<fuel) (hb:bdM x) (hd:dM x≤131072):zjT fuel x=some x:=by
 unfold zjT
 rw [zrV hf hb hd,sb,itF (by rfl),(zyU fuel).1 x hf hb,sb]
end Go.Proofs.YtcbkcblkecmjnaaGreat
namespace Go.Proofs.YtcbkcblkecmjnaaGreat
open Go
theorem zDa:∀a<256,zom ((a:Nat):Int)=some (if a<128 then (1,(a:Int)) else if a/32=6 then (2,((a%32:Nat):Int)) else if a/16=14 then (3,((a%16:Nat):Int)) else if a/8=30 then (4,((a%8:Nat):Int)) else (0,0)):=by decide+kernel
theorem zuK (w k:Nat) (h:k≤32):shrI .u32 (w:Int) (k:Int)=((w/2^k:Nat):Int):=zrL (k:= .u32) (a:=w) (b:=k) (by simpa [IntKind.bits] using h)
theorem zqn (w:Nat):zkb (w:Int)=some (if w<128 then 1 else if w<2048 then 2 else if 55296≤w∧w≤57343 then 0 else if w<65536 then 3 else if w≤1114111 then 4 else 0):=by
 unfold zkb
 have e7:shrI .u32 (w:Int) 7=((w/128:Nat):Int):=zuK w 7 (by omega)
 have e11:shrI .u32 (w:Int) 11=((w/2048:Nat):Int):=zuK w 11 (by omega)
 have e16:shrI .u32 (w:Int) 16=((w/65536:Nat):Int):=zuK w 16 (by omega)
 rw [e7,e11,e16]
 by_cases h1:w<128
 ·rw [itT (by simp;omega),if_pos h1]
 ·rw [itF (by simp;omega),if_neg h1]
  by_cases h2:w<2048
  ·rw [itT (by simp;omega),if_pos h2]
  ·rw [itF (by simp;omega),if_neg h2]
   by_cases h3:55296≤w∧w≤57343
   ·rw [itT (by simp;omega),if_pos h3]
   ·rw [itF (by simp;omega),if_neg h3]
    by_cases h4:w<65536
    ·rw [itT (by simp;omega),if_pos h4]
    ·rw [itF (by simp;omega),if_neg h4]
     by_cases h5:w≤1114111
     ·rw [itT (by simp;omega),if_pos h5]
     ·rw [itF (by simp;omega),if_neg h5]
theorem zzy:∀c<256,shrI .u8 ((c:Nat):Int) 6=((c/64:Nat):Int)∧IntKind.u32.wrap (andI .u8 ((c:Nat):Int) 63)=((c%64:Nat):Int):=by decide+kernel
theorem zie {v:List UInt8} {w i:Nat} (h:i<v.length) (hv:v.length≤1000) (hw:w≤1000000):
  zbS v w i=if cont v[i] then zbS v ((64*w+v[i].toNat%64:Nat):Int) ((i+1:Nat):Int) else some (.inr ()):=by
 have hc:=v[i].toNat_lt
 obtain ⟨e1,e2⟩:=zzy v[i].toNat (by omega)
 have hb:zcV v w i=if cont v[i] then some (.inl (((64*w+v[i].toNat%64:Nat):Int),((i+1:Nat):Int))) else some (.inr (.inr ())):=by
  unfold zcV
  rw [itT (by simp;omega),zan rfl h,sb,e1,e2]
  by_cases hk:cont v[i]=true
  ·rw [if_pos hk]
   unfold cont at hk
   simp only [decide_eq_true_eq] at hk
   rw [itF (by simp;omega),zW (by omega)]
   have e3:shlI .u32 (w:Int) 6=((w*64:Nat):Int):=by
    have:shlI .u32 (w:Int) 6=((w*64%4294967296:Nat):Int):=by simp [shlI,IntKind.bits,zwH]
    rw [this,Nat.mod_eq_of_lt (by omega)]
   rw [e3,zyK rfl (by simp [IntKind.bits];omega) (by simp [IntKind.bits];omega),Nat.or_comm,zvZ _ w 6 (by omega)]
   have e4:v[i].toNat%64+w*2^6=64*w+v[i].toNat%64:=by omega
   rw [e4];rfl
  ·rw [if_neg hk]
   unfold cont at hk
   simp only [decide_eq_true_eq] at hk
   rw [itT (by simp;omega)]
 by_cases hk:cont v[i]=true
 ·rw [if_pos hk] at hb⊢;exact zpY hb
 ·rw [if_neg hk] at hb⊢;exact zkJ hb
theorem znC {v:List UInt8} {w i:Nat} (h:v.length≤i):zbS v w i=some (.inl (w:Int)):=by
 refine zkJ ?_
 unfold zcV
 rw [itF (by simp;omega)]
theorem zEO {w:Nat} {b:UInt8} (hw:w≤100):zbS [b] w 0=if cont b then some (.inl ((64*w+b.toNat%64:Nat):Int)) else some (.inr ()):=by
 have h:=zie (v:=[b]) (w:=w) (i:=0) (by simp) (by simp) (by omega)
 refine Eq.trans h ?_
 simp only [List.getElem_cons_zero]
 rw [znC (by simp)]
theorem zEP {w:Nat} {b c:UInt8} (hw:w≤100):zbS [b,c] w 0=if cont b then (if cont c then some (.inl ((64*(64*w+b.toNat%64)+c.toNat%64:Nat):Int)) else some (.inr ())) else some (.inr ()):=by
 have h:=zie (v:=[b,c]) (w:=w) (i:=0) (by simp) (by simp) (by omega)
 refine Eq.trans h ?_
 rw [zie (i:=0+1) (by simp) (by simp) (by omega)]
 simp only [List.getElem_cons_zero,List.getElem_cons_succ,Nat.zero_add]
 rw [znC (by simp)]
theorem zEQ {w:Nat} {b c d:UInt8} (hw:w≤100):zbS [b,c,d] w 0=if cont b then (if cont c then (if cont d then some (.inl ((64*(64*(64*w+b.toNat%64)+c.toNat%64)+d.toNat%64:Nat):Int)) else some (.inr ())) else some (.inr ())) else some (.inr ()):=by
 have h:=zie (v:=[b,c,d]) (w:=w) (i:=0) (by simp) (by simp) (by omega)
 refine Eq.trans h ?_
 rw [zie (i:=0+1) (by simp) (by simp) (by omega),zie (i:=0+1+1) (by simp) (by simp) (by omega)]
 simp only [List.getElem_cons_zero,List.getElem_cons_succ,Nat.zero_add]
 rw [znC (by simp)]
theorem zBz (n:Nat) {l:List UInt8} (h:∀m,m≠n→isN m l=false):nxt l=if isN n l then n else 0:=by
 by_cases hn:isN n l=true
 ·rw [if_pos hn,zEj hn]
 ·rw [if_neg hn]
  by_cases h0:nxt l=0
  ·exact h0
  ·have h1:=zqp h0
   by_cases h2:nxt l=n
   ·rw [h2] at h1;exact absurd h1 hn
   ·rw [h _ h2] at h1;cases h1
theorem zjF (n:Nat) {a:UInt8} {t:List UInt8} (h:n=1∧a.toNat<128∨n=2∧192≤a.toNat∧a.toNat<224∨n=3∧224≤a.toNat∧a.toNat<240∨n=4∧240≤a.toNat):nxt (a::t)=if isN n (a::t) then n else 0:=by
 refine zBz n fun m hm=>?_
 cases hh:isN m (a::t) with
 | false=>rfl
 | true=>
  obtain ⟨a',t',e,_,g⟩:=zio hh
  cases e
  omega
theorem zyx (b:List UInt8):zka b=some ((nxt b:Nat):Int):=by
 cases b with
 | nil=>rfl
 | cons a t=>
  have ha:=a.toNat_lt
  unfold zka
  have e00:idx (a::t) (0:Int)=some a:=zan (n:=0) rfl (by simp)
  rw [itF (by simp;omega),e00,sb]
  rw [zDa _ (by omega),sb]
  by_cases h1:a.toNat<128
  ·rw [zjF 1 (.inl ⟨rfl,h1⟩),if_pos h1]
   simp only
   rw [itF (by simp;omega),zgM (i:=1) (j:=1) (a:=1) (b:=1) rfl rfl (by omega) (by simp),sb]
   have e0:zbS (((a::t).drop 1).take (1 - 1)) (a.toNat:Int) 0=some (.inl (a.toNat:Int)):=znC (i:=0) (by simp)
   rw [e0,sb]
   simp only
   rw [zqn,sb,if_pos h1,itF (by rfl)]
   simp [isN,is1,h1]
  ·rw [if_neg h1]
   by_cases h2:a.toNat/32=6
   ·rw [zjF 2 (.inr (.inl ⟨rfl,by omega,by omega⟩)),if_pos h2]
    simp only
    match t with
    | []=>rw [itT (by simp)];rfl
    | b::t=>
     rw [itF (by simp;omega),zgM (i:=1) (j:=2) (a:=1) (b:=2) rfl rfl (by omega) (by simp),sb]
     have e0:=zEO (w:=a.toNat%32) (b:=b) (by omega)
     have e0':zbS (((a::b::t).drop 1).take (2 - 1)) ((a.toNat%32:Nat):Int) 0=_:=e0
     rw [e0']
     have hb:=b.toNat_lt
     by_cases c1:cont b=true
     ·rw [if_pos c1,sb]
      simp only
      have hn:=zqn (64*(a.toNat%32)+b.toNat%64)
      simp only [isN,is2,c1,and_true,decide_eq_true_eq]
      simp only [cont,decide_eq_true_eq] at c1
      by_cases h:194≤a.toNat
      ·rw [if_neg (by omega),if_pos (by omega)] at hn
       rw [hn,sb,itF (by rfl),if_pos (by omega)];rfl
      ·rw [if_pos (by omega)] at hn
       rw [hn,sb,itT (by rfl),if_neg (by omega)];rfl
     ·rw [if_neg c1,sb]
      simp only
      simp [isN,is2,c1]
   ·rw [if_neg h2]
    by_cases h3:a.toNat/16=14
    ·rw [zjF 3 (.inr (.inr (.inl ⟨rfl,by omega,by omega⟩))),if_pos h3]
     simp only
     match t with
     | []=>rw [itT (by simp)];rfl
     | [b]=>rw [itT (by simp)];rfl
     | b::c::t=>
      rw [itF (by simp;omega),zgM (i:=1) (j:=3) (a:=1) (b:=3) rfl rfl (by omega) (by simp),sb]
      have e0:=zEP (w:=a.toNat%16) (b:=b) (c:=c) (by omega)
      have e0':zbS (((a::b::c::t).drop 1).take (3 - 1)) ((a.toNat%16:Nat):Int) 0=_:=e0
      rw [e0']
      have hb:=b.toNat_lt
      have hc:=c.toNat_lt
      by_cases c1:cont b=true
      ·rw [if_pos c1]
       by_cases c2:cont c=true
       ·rw [if_pos c2,sb]
        simp only
        have hn:=zqn (64*(64*(a.toNat%16)+b.toNat%64)+c.toNat%64)
        simp only [isN,is3,c1,c2,true_and,decide_eq_true_eq]
        simp only [cont,decide_eq_true_eq] at c1 c2
        by_cases h:(a.toNat=224→160≤b.toNat)∧(a.toNat=237→b.toNat<160)
        ·rw [if_neg (by omega),if_neg (by omega),if_neg (by omega),if_pos (by omega)] at hn
         rw [hn,sb,itF (by rfl),if_pos (by omega)];rfl
        ·by_cases g:64*(64*(a.toNat%16)+b.toNat%64)+c.toNat%64<2048
         ·by_cases g':64*(64*(a.toNat%16)+b.toNat%64)+c.toNat%64<128
          ·rw [if_pos g'] at hn
           rw [hn,sb,itT (by rfl),if_neg (by omega)];rfl
          ·rw [if_neg g',if_pos g] at hn
           rw [hn,sb,itT (by rfl),if_neg (by omega)];rfl
         ·rw [if_neg (by omega),if_neg g,if_pos (by omega)] at hn
          rw [hn,sb,itT (by rfl),if_neg (by omega)];rfl
       ·rw [if_neg c2,sb]
        simp only
        simp [isN,is3,c2]
      ·rw [if_neg c1,sb]
       simp only
       simp [isN,is3,c1]
    ·rw [if_neg h3]
     by_cases h4:a.toNat/8=30
     ·rw [zjF 4 (.inr (.inr (.inr ⟨rfl,by omega⟩))),if_pos h4]
      simp only
      match t with
      | []=>rw [itT (by simp)];rfl
      | [b]=>rw [itT (by simp)];rfl
      | [b,c]=>rw [itT (by simp)];rfl
      | b::c::d::t=>
       rw [itF (by simp;omega),zgM (i:=1) (j:=4) (a:=1) (b:=4) rfl rfl (by omega) (by simp),sb]
       have e0:=zEQ (w:=a.toNat%8) (b:=b) (c:=c) (d:=d) (by omega)
       have e0':zbS (((a::b::c::d::t).drop 1).take (4 - 1)) ((a.toNat%8:Nat):Int) 0=_:=e0
       rw [e0']
       have hb:=b.toNat_lt
       have hc:=c.toNat_lt
       have hd:=d.toNat_lt
       by_cases c1:cont b=true
       ·rw [if_pos c1]
        by_cases c2:cont c=true
        ·rw [if_pos c2]
         by_cases c3:cont d=true
         ·rw [if_pos c3,sb]
          simp only
          have hn:=zqn (64*(64*(64*(a.toNat%8)+b.toNat%64)+c.toNat%64)+d.toNat%64)
          simp only [isN,is4,c1,c2,c3,true_and,decide_eq_true_eq]
          simp only [cont,decide_eq_true_eq] at c1 c2 c3
          by_cases h:a.toNat<245∧(a.toNat=240→144≤b.toNat)∧(a.toNat=244→b.toNat<144)
          ·rw [if_neg (by omega),if_neg (by omega),if_neg (by omega),if_neg (by omega),if_pos (by omega)] at hn
           rw [hn,sb,itF (by rfl),if_pos (by omega)];rfl
          ·have hw:¬(65536≤64*(64*(64*(a.toNat%8)+b.toNat%64)+c.toNat%64)+d.toNat%64∧64*(64*(64*(a.toNat%8)+b.toNat%64)+c.toNat%64)+d.toNat%64≤1114111):=by omega
           generalize 64*(64*(64*(a.toNat%8)+b.toNat%64)+c.toNat%64)+d.toNat%64=w at hn hw
           have hx:∃x:Int,zkb w=some x∧x≠4:=⟨_,hn,by (repeat' split)<;>omega⟩
           obtain ⟨x,hx,h4⟩:=hx
           rw [hx,sb,itT (by simp;omega),if_neg (by omega)];rfl
         ·rw [if_neg c3,sb]
          simp only
          simp [isN,is4,c3]
        ·rw [if_neg c2,sb]
         simp only
         simp [isN,is4,c2]
       ·rw [if_neg c1,sb]
        simp only
        simp [isN,is4,c1]
     ·rw [if_neg h4,itT (by rfl)]
      by_cases h5:240≤a.toNat
      ·rw [zjF 4 (.inr (.inr (.inr ⟨rfl,h5⟩)))]
       cases hh:isN 4 (a::t) with
       | false=>rfl
       | true=>
        match t,hh with
        | b::c::d::t,hh=>simp only [isN,is4,decide_eq_true_eq] at hh;omega
      ·by_cases h0:nxt (a::t)=0
       ·rw [h0];rfl
       ·obtain ⟨a',t',e,_,g⟩:=zio (zqp h0)
        cases e
        omega
theorem zAm {b:List UInt8} (hb:b.length≤1152921504606846976) (l:List UInt8):∀(a c:Nat),c≤a→a≤b.length→l=b.drop a→
  zfg b a c ((nxt l:Nat):Int)=some (((a+(pre4 l).1:Nat):Int),((c+(pre4 l).2:Nat):Int)):=by
 refine zBG (fun l=>∀(a c:Nat),c≤a→a≤b.length→l=b.drop a→zfg b a c ((nxt l:Nat):Int)=some (((a+(pre4 l).1:Nat):Int),((c+(pre4 l).2:Nat):Int))) ?_ ?_ l
 ·intro l h a c hc ha hl
  rw [h,zzJ h]
  refine zqa ?_
  unfold zdm
  rw [itF (by rfl)];rfl
 ·intro l h ih a c hc ha hl
  subst hl
  have h4:=zCZ (b.drop a)
  have hle:=zrq (b.drop a)
  simp only [List.length_drop] at hle
  have e1:(b.drop a).drop (nxt (b.drop a))=b.drop (a+nxt (b.drop a)):=by rw [List.drop_drop]
  refine (zpZ (atv':=((a+nxt (b.drop a):Nat):Int)) (points':=((c+1:Nat):Int)) (size':=((nxt (b.drop (a+nxt (b.drop a))):Nat):Int)) ?_).trans ?_
  ·unfold zdm
   rw [itT (by simp;omega),zW (by omega),zno (a:=a+nxt (b.drop a)) (by push_cast;rfl) rfl (by omega),sb,zyx,sb,zW (by omega)];rfl
  ·rw [←e1,ih (a+nxt (b.drop a)) (c+1) (by omega) (by omega) e1,zDe h]
   simp only [Nat.add_assoc,Nat.add_comm 1]
theorem zCl {b:List UInt8} (hb:b.length≤1152921504606846976):zlJ b=some (((pre4 b).1:Int),((pre4 b).2:Int)):=by
 unfold zlJ
 rw [zyx,sb]
 have h:=zAm hb b 0 0 (Nat.le_refl _) (Nat.zero_le _) rfl
 simp only [Nat.zero_add] at h
 have h':zfg b 0 0 ((nxt b:Nat):Int)=some (((pre4 b).1:Int),((pre4 b).2:Int)):=h
 rw [h',sb]
theorem zAg {b:List UInt8} (hb:b.length≤1152921504606846976):zjZ b=some ((pre4 b).1:Int):=by
 unfold zjZ
 rw [zCl hb,sb]
theorem zpo {b:List UInt8} (hb:b.length≤1152921504606846976):zhc b=some (zey b):=by
 unfold zhc zey
 rw [zAg hb,sb,zCB]
end Go.Proofs.YtcbkcblkecmjnaaGreat
namespace Go.Proofs.YtcbkcblkecmjnaaGreat
open Go
set_option linter.unusedVariables false
def zEi:List Str:=[[],[105,110,116,51,50],[105,110,116,54,52],[117,105,110,116,51,50],[117,105,110,116,54,52],[115,105,110,116,51,50],[115,105,110,116,54,52],[98,111,111,108],[101,110,117,109],[102,105,120,101,100,51,50],[115,102,105,120,101,100,51,50],[102,108,111,97,116],[102,105,120,101,100,54,52],[115,102,105,120,101,100,54,52],[100,111,117,98,108,101],[115,116,114,105,110,103],[98,121,116,101,115],[109,101,115,115,97,103,101]]
def zAZ (k:Int):Str:=(zEi[k.toNat]?).getD []
def kT:List (Int×zw):=[(1,⟨[105,110,116,51,50],0⟩),(2,⟨[105,110,116,54,52],0⟩),(3,⟨[117,105,110,116,51,50],0⟩),(4,⟨[117,105,110,116,54,52],0⟩),(5,⟨[115,105,110,116,51,50],0⟩),(6,⟨[115,105,110,116,54,52],0⟩),(7,⟨[98,111,111,108],0⟩),(8,⟨[101,110,117,109],0⟩),(9,⟨[102,105,120,101,100,51,50],5⟩),(10,⟨[115,102,105,120,101,100,51,50],5⟩),(11,⟨[102,108,111,97,116],5⟩),(12,⟨[102,105,120,101,100,54,52],1⟩),(13,⟨[115,102,105,120,101,100,54,52],1⟩),(14,⟨[100,111,117,98,108,101],1⟩),(15,⟨[115,116,114,105,110,103],2⟩),(16,⟨[98,121,116,101,115],2⟩),(17,⟨[109,101,115,115,97,103,101],2⟩)]
theorem zvT:zir=some kT:=rfl
theorem zpH {k:Int} (h:zbH k=true):k=1∨k=2∨k=3∨k=4∨k=5∨k=6∨k=7∨k=8∨k=9∨k=10∨k=11∨k=12∨k=13∨k=14∨k=15∨k=16∨k=17:=by
 have:=of_decide_eq_true h
 omega
theorem zEa {k:Int} (h:zbH k=true):mget kT k=some ⟨zAZ k,zcX k⟩:=by
 rcases zpH h with rfl| rfl| rfl| rfl| rfl| rfl| rfl| rfl| rfl| rfl| rfl| rfl| rfl| rfl| rfl| rfl| rfl<;>rfl
theorem zCK {e:Int×zw} (h:e∈kT):zbH e.1=true∧e.2=⟨zAZ e.1,zcX e.1⟩:=by
 have:kT.all (fun e=>zbH e.1&&decide (e.2=⟨zAZ e.1,zcX e.1⟩))=true:=by decide
 have h1:=List.all_eq_true.1 this e h
 simp only [Bool.and_eq_true,decide_eq_true_eq] at h1
 exact h1
theorem zCL {k:Int} (h:zbH k=false):mget kT k=none:=by
 cases hg:mget kT k with
 | none=>rfl
 | some x=>
  have mem:∀{m:List (Int×zw)} {x:zw},mget m k=some x→(k,x)∈m:=fun {m x} hg=>by
   induction m with
   | nil=>cases hg
   | cons p m ih=>
    rw [mget] at hg
    split at hg
    ·rename_i e;cases hg;rw [e];exact List.mem_cons_self
    ·exact List.mem_cons_of_mem _ (ih hg)
  have h1:=(zCK (mem hg)).1
  simp only at h1
  rw [h] at h1
  cases h1
theorem zvV (k:Int):zid k=some (if zbH k then (zcX k,0) else (0,2)):=by
 unfold zid
 rw [zvT,sb]
 cases h:zbH k with
 | true=>rw [zEa h];rfl
 | false=>rw [zCL h];rfl
theorem zrg (k:Int):zfW k=some (kNum k):=by
 unfold zfW
 rw [zvV,sb]
 cases h:zbH k with
 | true=>
  rcases zpH h with rfl| rfl| rfl| rfl| rfl| rfl| rfl| rfl| rfl| rfl| rfl| rfl| rfl| rfl| rfl| rfl| rfl<;>rfl
 | false=>
  have h1:=of_decide_eq_false h
  have:kNum k=false:=decide_eq_false (by omega)
  rw [this]
  rfl
theorem zCN:kT.map Prod.fst=[1,2,3,4,5,6,7,8,9,10,11,12,13,14,15,16,17]:=rfl
theorem zCM:zli=some [1,2,3,4,5,6,7,8,9,10,11,12,13,14,15,16,17]:=by
 have e:zny kT=some [1,2,3,4,5,6,7,8,9,10,11,12,13,14,15,16,17]:=by
  unfold zny
  rw [if_pos ⟨by decide,by decide⟩,zCN,List.mergeSort_of_pairwise (by decide)]
 unfold zli
 rw [zvT,sb,e,sb]
theorem zjA (k:Int) {w:Int} (h:0≤w∧w≤18446744073709551615):zfM k w=some (if kNum k then (zdg k w,0) else (0,2)):=by
 have hs:=zxI w
 have hc:=znm k h
 unfold zfM
 by_cases h1:k=1∨k=8
 ·have e:(if (k==1)=true then some (k==1) else some (k==8))=some true:=by rcases h1 with rfl| rfl<;>rfl
  have hn:kNum k=true:=decide_eq_true (by omega)
  rw [e,sb,itT rfl,zzW,sb,zAn (by omega),sb,hn]
  unfold zdg
  rw [if_pos h1]
  rfl
 ·have e:(if (k==1)=true then some (k==1) else some (k==8))=some false:=by rw [itF (by simp;omega)];simp;omega
  rw [e,sb,itF rfl]
  by_cases h2:k=3∨k=5∨k=9∨k=10∨k=11
  ·have e2:(if (k==3)=true then some (k==3) else if (k==5)=true then some (k==5) else if (k==9)=true then some (k==9) else if (k==10)=true then some (k==10) else some (k==11))=some true:=by
    rcases h2 with rfl| rfl| rfl| rfl| rfl<;>rfl
   have hn:kNum k=true:=decide_eq_true (by omega)
   have hw:IntKind.u64.wrap (w%4294967296)=w%4294967296:=by rw [wrap_u64];omega
   rw [e2,sb,itT rfl,zvX,sb,hn,hw]
   unfold zdg
   rw [if_neg h1,if_pos h2]
   rfl
  ·have e2:(if (k==3)=true then some (k==3) else if (k==5)=true then some (k==5) else if (k==9)=true then some (k==9) else if (k==10)=true then some (k==10) else some (k==11))=some false:=by
    rw [itF (by simp;omega),itF (by simp;omega),itF (by simp;omega),itF (by simp;omega)];simp;omega
   rw [e2,sb,itF rfl]
   by_cases h7:k=7
   ·have hn:kNum k=true:=decide_eq_true (by omega)
    rw [itT (by simpa using h7),hn]
    unfold zki zdg
    rw [sb,if_neg h1,if_neg h2,if_pos h7]
    by_cases h0:0<w
    ·rw [if_pos h0]
     by_cases h10:1<w
     ·rw [if_pos h10];rfl
     ·rw [if_neg h10,show w=1 by omega];rfl
    ·rw [if_neg h0,if_neg (by omega),show w=0 by omega];rfl
   ·rw [itF (by simpa using h7)]
    by_cases hn:kNum k=true
    ·have hk:=of_decide_eq_true hn
     have e3:(if (k==2)=true then some (k==2) else if (k==4)=true then some (k==4) else if (k==6)=true then some (k==6) else if (k==12)=true then some (k==12) else if (k==13)=true then some (k==13) else some (k==14))=some true:=by
      have:k=2∨k=4∨k=6∨k=12∨k=13∨k=14:=by omega
      rcases this with rfl| rfl| rfl| rfl| rfl| rfl<;>rfl
     rw [e3,sb,itT rfl,hn]
     unfold zdg
     rw [if_neg h1,if_neg h2,if_neg h7]
     rfl
    ·have hn:kNum k=false:=by simpa using hn
     have hk:=of_decide_eq_false hn
     have e3:(if (k==2)=true then some (k==2) else if (k==4)=true then some (k==4) else if (k==6)=true then some (k==6) else if (k==12)=true then some (k==12) else if (k==13)=true then some (k==13) else some (k==14))=some false:=by
      rw [itF (by simp;omega),itF (by simp;omega),itF (by simp;omega),itF (by simp;omega),itF (by simp;omega)];simp;omega
     rw [e3,sb,itF rfl,hn]
     rfl
end Go.Proofs.YtcbkcblkecmjnaaGreat
namespace Go.Proofs.YtcbkcblkecmjnaaGreat
open Go
set_option linter.unusedVariables false
def lt7 (c:UInt8):Bool:=decide (97≤c.toNat∧c.toNat≤122∨65≤c.toNat∧c.toNat≤90∨c.toNat=95)
def dg7 (c:UInt8):Bool:=decide (48≤c.toNat∧c.toNat≤57)
theorem zrc (c:UInt8):zeh (c.toNat:Int)=some (dg7 c):=by
 unfold zeh dg7
 congr 1
 rw [Bool.eq_iff_iff]
 simp
 omega
theorem zvI (c:UInt8):zeA (c.toNat:Int)=some (lt7 c):=by
 unfold zeA lt7
 congr 1
 by_cases h1:(c.toNat:Int)≥97<;>by_cases h2:(c.toNat:Int)≥65<;>simp only [h1,h2,decide_true,decide_false,if_true,if_false,Bool.false_eq_true]<;>rw [Bool.eq_iff_iff]<;>simp<;>omega
theorem zvJ (s:List UInt8) (hs:s.length≤1152921504606846976):∀(l:List UInt8) (i:Nat),s.drop i=l→zdn s i=some (if (l.all fun c=>lt7 c|| dg7 c)=true then .inl () else .inr ()):=by
 intro l
 induction l with
 | nil=>
  intro i hd
  have:=zoz hd
  refine zhz ?_
  unfold zbo
  rw [itF (by simp;omega)]
  rfl
 | cons c l ih=>
  intro i hd
  obtain ⟨hi,hc,hd'⟩:=zmG hd
  have hb:zbo s i=if (lt7 c|| dg7 c)=true then some (.inl ((i+1:Nat):Int)) else some (.inr (.inr ())):=by
   unfold zbo
   rw [itT (by simp;omega),zan rfl hi,sb,hc,zvI,sb,sb,zrc,zW (by omega)]
   cases lt7 c<;>cases dg7 c<;>rfl
  rw [List.all_cons]
  cases hk:(lt7 c|| dg7 c) with
  | false=>
   rw [hk] at hb
   rw [zhz hb]
   rfl
  | true=>
   rw [hk] at hb
   rw [zlA hb,ih _ hd',Bool.true_and]
theorem zyG:∀(l:List UInt8) (i:Nat),0<i→nmA i l=l.all fun c=>lt7 c|| dg7 c
 | [],_,_=>rfl
 | c::l,i,h=>by
  rw [nmA,zyG l (i+1) (by omega),List.all_cons]
  congr 1
  unfold nmc lt7 dg7
  rw [Bool.eq_iff_iff]
  simp
  omega
theorem ztf {s:List UInt8} (hs:s.length≤1152921504606846976):zeJ s=some (zfs s):=by
 unfold zeJ zfs
 have hl:=zvJ s hs s 0 rfl
 have hl':zdn s 0=_:=hl
 cases s with
 | nil=>rfl
 | cons c l=>
  rw [itF (by simp)]
  by_cases h60:((c::l).length:Int)>60
  ·rw [itT (by simpa using h60),sb,itT rfl]
   have:decide (1≤(c::l).length∧(c::l).length≤60)=false:=by simp only [decide_eq_false_iff_not];omega
   rw [this,Bool.and_false]
  ·have hd:decide (1≤(c::l).length∧(c::l).length≤60)=true:=by simp only [decide_eq_true_eq];refine ⟨by simp,by omega⟩
   have hc:idx (c::l) 0=some c:=by simp [idx]
   rw [itF (by simpa using h60),hc,sb,zrc,sb,sb,hd,Bool.and_true,hl',sb]
   have e:nmA 0 (c::l)=(lt7 c&&l.all fun c=>lt7 c|| dg7 c):=by
    rw [nmA,zyG l 1 (by omega)]
    congr 1
    unfold nmc lt7
    rw [Bool.eq_iff_iff]
    simp
    omega
   have hx:lt7 c=true→dg7 c=false:=by
    unfold lt7 dg7
    simp only [decide_eq_true_eq,decide_eq_false_iff_not]
    omega
   rw [e,List.all_cons]
   cases h1:lt7 c<;>cases h2:dg7 c<;>first| (rw [hx h1] at h2;cases h2;done)| skip
   ·rfl
   ·rfl
   ·cases l.all fun c=>lt7 c|| dg7 c<;>rfl
theorem zAP {l:List Int} (hl:l.length≤1152921504606846976) (v:Int):zca l v=some (zil (fun x=>v==x) l):=by
 unfold zca
 have h:=zoE (fun x=>v==x) l (fun i=>zbp l v i) (zei (by unfold zao;rw [itF (by simp)])) (fun i hi=>by
  by_cases hp:(v==l[i])=true
  ·rw [if_pos hp];exact zei (by unfold zao;rw [itT (by simp;omega),zan rfl hi,sb,itT hp])
  ·rw [if_neg hp];exact zgX (by unfold zao;rw [itT (by simp;omega),zan rfl hi,sb,itF (by simpa using hp),zW (by omega)];rfl)) l.length 0 (by omega) (fun j _ h=>by omega)
 have h':zbp l v 0=_:=h
 rw [h',sb]
 unfold zil
 cases l.findIdx? (fun x=>v==x)<;>rfl
theorem zss {α:Type} (p:α→Bool) (l:List α):decide (zil p l≥0)=l.any p:=by
 cases h:l.findIdx? p with
 | none=>
  rw [ziQ h]
  rw [List.findIdx?_eq_none_iff] at h
  symm
  rw [List.any_eq_false.2 fun x hx=>by simpa using h x hx]
  rfl
 | some i=>
  rw [ziR h]
  rw [List.findIdx?_eq_some_iff_getElem] at h
  obtain ⟨hi,hp,_⟩:=h
  symm
  rw [List.any_eq_true.2 ⟨l[i],List.getElem_mem hi,hp⟩]
  simp
theorem zvo {l:List Int} (hl:l.length≤1152921504606846976) (v:Int):zbJ l v=some (l.any fun x=>v==x):=by
 unfold zbJ
 rw [zAP hl,sb,zss]
def K17:List Int:=[1,2,3,4,5,6,7,8,9,10,11,12,13,14,15,16,17]
theorem zzv (k:Int):(K17.any fun x=>k==x)=zbH k:=by
 unfold zbH K17
 rw [Bool.eq_iff_iff]
 simp
 omega
def hasN (m:List (zn×Bool)) (i:Int) (n:Str):Bool:=(mget m (⟨i,n⟩:zn)).getD false
def hasU (m:List (zo×Bool)) (i:Int) (n:Int):Bool:=(mget m (⟨i,n⟩:zo)).getD false
theorem zjy (m:List (zn×Bool)) (i j:Int) (n k:Str):hasN (mput m ⟨i,n⟩ true) j k=(decide (j=i∧k=n)|| hasN m j k):=by
 unfold hasN
 rw [zgQ]
 by_cases h:j=i∧k=n
 ·obtain ⟨rfl,rfl⟩:=h;simp
 ·rw [if_neg (fun e=>h (by injection e with e1 e2;exact ⟨e1,e2⟩))];simp [h]
theorem zvE (m:List (zo×Bool)) (i j:Int) (n k:Int):hasU (mput m ⟨i,n⟩ true) j k=(decide (j=i∧k=n)|| hasU m j k):=by
 unfold hasU
 rw [zgQ]
 by_cases h:j=i∧k=n
 ·obtain ⟨rfl,rfl⟩:=h;simp
 ·rw [if_neg (fun e=>h (by injection e with e1 e2;exact ⟨e1,e2⟩))];simp [h]
theorem zvK (n:Int):zeC n=some (decide ¬(n<1∨n>536870911∨(19000≤n∧n<20000))):=by
 unfold zeC
 congr 1
 rw [Bool.eq_iff_iff]
 simp
 omega
theorem zxt (f:Fld):zfc f=some (f.Repeated&&kNum f.Kind):=by
 unfold zfc
 rw [zrg]
 cases f.Repeated<;>rfl
theorem zBk (n:Int) (K:List Int) (nm:List (zn×Bool)) (nu:List (zo×Bool)) (f:Fld):zdu ⟨n,K,nm,nu⟩ f=some (decide ¬(f.Kind=17∧(f.Of<0∨f.Of≥n)∨f.Kind≠17∧f.Of≠0)):=by
 unfold zdu
 by_cases h:f.Kind=17
 ·rw [itT (by simpa using h)]
  congr 1
  rw [Bool.eq_iff_iff]
  simp [h]
 ·rw [itF (by simpa using h)]
  congr 1
  rw [Bool.eq_iff_iff]
  simp [h]
theorem zAH {n i:Int} {nm:List (zn×Bool)} {nu:List (zo×Bool)} {prev:List Fld} {f:Fld} (hf:f.Name.length≤1152921504606846976) (hN:hasN nm i f.Name=prev.any fun g=>g.Name==f.Name) (hU:hasU nu i f.Number=prev.any fun g=>g.Number==f.Number):
  zdt ⟨n,K17,nm,nu⟩ i f=some (zcn n prev f,if zcn n prev f=0 then (mput nm ⟨i,f.Name⟩ true,mput nu ⟨i,f.Number⟩ true) else (nm,nu)):=by
 unfold zdt
 rw [ztf hf,sb]
 have e1:(mget nm (⟨i,f.Name⟩:zn)).getD false=hasN nm i f.Name:=rfl
 have e2:(mget nu (⟨i,f.Number⟩:zo)).getD false=hasU nu i f.Number:=rfl
 simp only [e1,e2,hN,hU]
 have hz:∀(k:Int) (x y:List (zn×Bool)×List (zo×Bool)),k≠0→(if k=0 then x else y)=y:=fun k x y h=>if_neg h
 by_cases h1:zfs f.Name=false
 ·have hF:zcn n prev f=5:=by unfold zcn;rw [if_pos h1]
  rw [hF,hz 5 _ _ (by decide),itT (by rw [h1];rfl)]
 rw [itF (show (!zfs f.Name)=false by simpa using h1)]
 by_cases h2:(prev.any fun g=>g.Name==f.Name)=true
 ·have hF:zcn n prev f=6:=by unfold zcn;rw [if_neg h1,if_pos h2]
  rw [hF,hz 6 _ _ (by decide),itT h2]
 have h2':(prev.any fun g=>g.Name==f.Name)=false:=eq_false_of_ne_true h2
 rw [itF h2',zvK,sb]
 by_cases h3:f.Number<1∨f.Number>536870911∨(19000≤f.Number∧f.Number<20000)
 ·have hF:zcn n prev f=7:=by unfold zcn;rw [if_neg h1,if_neg h2,if_pos h3]
  rw [hF,hz 7 _ _ (by decide),itT (by rw [decide_eq_false (fun h=>h h3)];rfl)]
 rw [itF (by rw [decide_eq_true h3];rfl)]
 by_cases h4:(prev.any fun g=>g.Number==f.Number)=true
 ·have hF:zcn n prev f=8:=by unfold zcn;rw [if_neg h1,if_neg h2,if_neg h3,if_pos h4]
  rw [hF,hz 8 _ _ (by decide),itT h4]
 have h4':(prev.any fun g=>g.Number==f.Number)=false:=eq_false_of_ne_true h4
 rw [itF h4',zvo (by decide),sb,zzv]
 by_cases h5:zbH f.Kind=false
 ·have hF:zcn n prev f=9:=by unfold zcn;rw [if_neg h1,if_neg h2,if_neg h3,if_neg h4,if_pos h5]
  rw [hF,hz 9 _ _ (by decide),itT (by rw [h5];rfl)]
 rw [itF (show (!zbH f.Kind)=false by simpa using h5),zxt]
 have hg:(if f.Packed=true then (some (f.Repeated&&kNum f.Kind)>>=fun rv4=>some (!rv4)) else some false)=some (decide (f.Packed=true∧¬(f.Repeated=true∧kNum f.Kind=true))):=by
  cases f.Packed<;>cases f.Repeated<;>cases kNum f.Kind<;>rfl
 rw [hg,sb]
 by_cases h6:f.Packed=true∧¬(f.Repeated=true∧kNum f.Kind=true)
 ·have hF:zcn n prev f=10:=by unfold zcn;rw [if_neg h1,if_neg h2,if_neg h3,if_neg h4,if_neg h5,if_pos h6]
  rw [hF,hz 10 _ _ (by decide),itT (decide_eq_true h6)]
 rw [itF (decide_eq_false h6),zBk,sb]
 by_cases h7:f.Kind=17∧(f.Of<0∨f.Of≥n)∨f.Kind≠17∧f.Of≠0
 ·have hF:zcn n prev f=11:=by unfold zcn;rw [if_neg h1,if_neg h2,if_neg h3,if_neg h4,if_neg h5,if_neg h6,if_pos h7]
  rw [hF,hz 11 _ _ (by decide),itT (by rw [decide_eq_false (fun h=>h h7)];rfl)]
 have hF:zcn n prev f=0:=by unfold zcn;rw [if_neg h1,if_neg h2,if_neg h3,if_neg h4,if_neg h5,if_neg h6,if_neg h7]
 rw [hF,if_pos rfl,itF (by rw [decide_eq_true h7];rfl)]
theorem zxv {n:Int} {nm:List (zn×Bool)} {nu:List (zo×Bool)} {prev:List Mes} {m:Mes} (hm:m.Name.length≤1152921504606846976) (hN:hasN nm (-1) m.Name=prev.any fun g=>g.Name==m.Name):
  zcS ⟨n,K17,nm,nu⟩ m=some (if zfs m.Name=false then (2,nm,nu) else if (prev.any fun g=>g.Name==m.Name)=true then (3,nm,nu) else if 200<m.Fields.length then (4,nm,nu) else (0,mput nm ⟨-1,m.Name⟩ true,nu)):=by
 unfold zcS
 rw [ztf hm,sb]
 have e1:(mget nm (⟨(-1),m.Name⟩:zn)).getD false=hasN nm (-1) m.Name:=rfl
 simp only [e1,hN]
 by_cases h1:zfs m.Name=false
 ·rw [if_pos h1,itT (show (!zfs m.Name)=true by rw [h1];rfl)]
 rw [if_neg h1,itF (show (!zfs m.Name)=false by simpa using h1)]
 by_cases h2:(prev.any fun g=>g.Name==m.Name)=true
 ·rw [if_pos h2,itT h2]
 have h2':(prev.any fun g=>g.Name==m.Name)=false:=eq_false_of_ne_true h2
 rw [if_neg h2,itF h2']
 by_cases h3:200<m.Fields.length
 ·rw [if_pos h3,itT (show decide ((m.Fields.length:Int)>200)=true by simp;omega)]
 rw [if_neg h3,itF (show decide ((m.Fields.length:Int)>200)=false by simp;omega)]
structure Met (nm:List (zn×Bool)) (nu:List (zo×Bool)) (i:Nat) (prev:List Mes) (p:List Fld):Prop where
 mes:∀n,hasN nm (-1) n=prev.any fun g=>g.Name==n
 nam:∀n,hasN nm i n=p.any fun g=>g.Name==n
 num:∀n,hasU nu i n=p.any fun g=>g.Number==n
 later:∀(j:Nat) n,i<j→hasN nm j n=false
 laterU:∀(j:Nat) n,i<j→hasU nu j n=false
theorem Met.step {nm:List (zn×Bool)} {nu:List (zo×Bool)} {i:Nat} {prev:List Mes} {p:List Fld} (h:Met nm nu i prev p) (f:Fld):Met (mput nm ⟨i,f.Name⟩ true) (mput nu ⟨i,f.Number⟩ true) i prev (p++[f]):=by
 refine ⟨fun n=>?_,fun n=>?_,fun n=>?_,fun j n hj=>?_,fun j n hj=>?_⟩
 ·rw [zjy,h.mes,decide_eq_false (by omega),Bool.false_or]
 ·rw [zjy,h.nam,List.any_append,Bool.or_comm]
  congr 1
  simp only [List.any_cons,List.any_nil,Bool.or_false]
  rw [Bool.eq_iff_iff];simp;exact eq_comm
 ·rw [zvE,h.num,List.any_append,Bool.or_comm]
  congr 1
  simp only [List.any_cons,List.any_nil,Bool.or_false]
  rw [Bool.eq_iff_iff];simp;exact eq_comm
 ·rw [zjy,h.later j n hj,decide_eq_false (by omega)];rfl
 ·rw [zvE,h.laterU j n hj,decide_eq_false (by omega)];rfl
theorem zAz {s:List Mes} {i:Nat} {prev:List Mes} {m:Mes} (hb:m.Fields.length≤140737488351232) (hn:∀f∈m.Fields,f.Name.length≤140737488351232):
  ∀(l:List Fld) (k:Nat) (nm:List (zn×Bool)) (nu:List (zo×Bool)),m.Fields.drop k=l→k≤m.Fields.length→Met nm nu i prev (m.Fields.take k)→
   (∃j w,msgF s.length (m.Fields.take k) l=some (j,w)∧zcA K17 s i m k nm nu=some (.inr ((j:Int),w)))∨
   (msgF s.length (m.Fields.take k) l=none∧∃nm' nu',zcA K17 s i m k nm nu=some (.inl (nm',nu'))∧Met nm' nu' i prev m.Fields):=by
 intro l
 induction l with
 | nil=>
  intro k nm nu hd hk hM
  have:=zoz hd
  have hkl:k=m.Fields.length:=by omega
  subst hkl
  refine .inr ⟨rfl,nm,nu,zhR ?_,by simpa using hM⟩
  unfold zbn
  rw [itF (by simp)]
 | cons f l ih=>
  intro k nm nu hd hk hM
  obtain ⟨hi,hc,hd'⟩:=zmG hd
  have hf:=hn f (by rw [←hc];exact List.getElem_mem hi)
  have hfld:=zAH (n:=(s.length:Int)) (i:=(i:Int)) (nm:=nm) (nu:=nu) (prev:=m.Fields.take k) (f:=f) (by omega) (hM.nam _) (hM.num _)
  have htk:m.Fields.take (k+1)=m.Fields.take k++[f]:=by rw [List.take_succ_eq_append_getElem hi,hc]
  have hlen:(m.Fields.take k).length=k:=by simp;omega
  obtain ⟨bd,_⟩:=zvr (s.length:Int) (m.Fields.take k) f
  rw [msgF]
  by_cases h0:zcn s.length (m.Fields.take k) f=0
  ·rw [if_neg (by omega)]
   rw [h0,if_pos rfl] at hfld
   have hstep:zbn K17 s i m k nm nu=some (.inl (((k+1:Nat):Int),mput nm ⟨i,f.Name⟩ true,mput nu ⟨i,f.Number⟩ true)):=by
    unfold zbn
    rw [itT (by simp;omega),zan rfl hi,sb,hc,hfld,sb]
    dsimp only
    rw [itF (show ((0:Int) !=0)=false from rfl),zW (by omega)]
    rfl
   rw [zmn hstep,←htk]
   exact ih (k+1) _ _ hd' (by omega) (by rw [htk];exact hM.step f)
  ·rw [if_pos (by omega)]
   rw [if_neg h0] at hfld
   refine .inl ⟨k,_,by rw [hlen],zhR ?_⟩
   unfold zbn
   rw [itT (by simp;omega),zan rfl hi,sb,hc,hfld,sb]
   dsimp only
   rw [itT (show (zcn (s.length:Int) (m.Fields.take k) f !=0)=true by simpa using h0)]
theorem zAy {s:List Mes} (hw:WS s):∀(l:List Mes) (i:Nat) (nm:List (zn×Bool)) (nu:List (zo×Bool)),s.drop i=l→i≤s.length→Met nm nu i (s.take i) []→
  zdG K17 s i nm nu=some (match chkF s.length (s.take i) l with| some (j,k,w)=> .inr ((j:Int),k,w)| none=> .inl ()):=by
 intro l
 induction l with
 | nil=>
  intro i nm nu hd hi hM
  have:=zoz hd
  refine zdc ?_
  unfold zaL
  rw [itF (by simp;omega)]
  rfl
 | cons m l ih=>
  intro i nm nu hd hi hM
  obtain ⟨hil,hc,hd'⟩:=zmG hd
  obtain ⟨w1,w2⟩:=hw
  obtain ⟨m1,m2,m3⟩:=w2 m (by rw [←hc];exact List.getElem_mem hil)
  have hmes:=zxv (n:=(s.length:Int)) (nm:=nm) (nu:=nu) (prev:=s.take i) (m:=m) (by omega) (hM.mes _)
  have htk:s.take (i+1)=s.take i++[m]:=by rw [List.take_succ_eq_append_getElem hil,hc]
  have hlen:(s.take i).length=i:=by simp;omega
  rw [chkF]
  by_cases h1:zfs m.Name=false
  ·rw [if_pos h1] at hmes⊢
   refine zdc ?_
   unfold zaL
   rw [itT (by simp;omega),zan rfl hil,sb,hc,hmes,sb]
   dsimp only
   rw [itT (show ((2:Int) !=0)=true from rfl),hlen]
  rw [if_neg h1] at hmes⊢
  by_cases h2:((s.take i).any fun g=>g.Name==m.Name)=true
  ·rw [if_pos h2] at hmes⊢
   refine zdc ?_
   unfold zaL
   rw [itT (by simp;omega),zan rfl hil,sb,hc,hmes,sb]
   dsimp only
   rw [itT (show ((3:Int) !=0)=true from rfl),hlen]
  rw [if_neg h2] at hmes⊢
  by_cases h3:200<m.Fields.length
  ·rw [if_pos h3] at hmes⊢
   refine zdc ?_
   unfold zaL
   rw [itT (by simp;omega),zan rfl hil,sb,hc,hmes,sb]
   dsimp only
   rw [itT (show ((4:Int) !=0)=true from rfl),hlen]
  rw [if_neg h3] at hmes⊢
  have hM0:Met (mput nm ⟨-1,m.Name⟩ true) nu i (s.take i++[m]) (m.Fields.take 0):=by
   refine ⟨fun n=>?_,fun n=>?_,fun n=>?_,fun j n hj=>?_,fun j n hj=>hM.laterU j n hj⟩
   ·rw [zjy,hM.mes,List.any_append,Bool.or_comm]
    congr 1
    simp only [List.any_cons,List.any_nil,Bool.or_false]
    rw [Bool.eq_iff_iff];simp;exact eq_comm
   ·rw [zjy,hM.nam,decide_eq_false (by omega)];rfl
   ·rw [hM.num];rfl
   ·rw [zjy,hM.later j n hj,decide_eq_false (by omega)];rfl
  have hl2:=zAz (s:=s) (i:=i) m2 m3 m.Fields 0 _ nu rfl (by omega) hM0
  simp only [List.take_zero] at hl2
  rcases hl2 with ⟨j,w,g1,g2⟩| ⟨g1,nm',nu',g2,g3⟩
  ·rw [g1]
   refine zdc ?_
   unfold zaL
   have g2':zcA K17 s i m 0 (mput nm ⟨-1,m.Name⟩ true) nu=_:=g2
   rw [itT (by simp;omega),zan rfl hil,sb,hc,hmes,sb]
   dsimp only
   rw [itF (show ((0:Int) !=0)=false from rfl),g2',sb]
   simp only [hlen]
  ·rw [g1]
   have hstep:zaL K17 s i nm nu=some (.inl (((i+1:Nat):Int),nm',nu')):=by
    unfold zaL
    have g2':zcA K17 s i m 0 (mput nm ⟨-1,m.Name⟩ true) nu=_:=g2
    rw [itT (by simp;omega),zan rfl hil,sb,hc,hmes,sb]
    dsimp only
    rw [itF (show ((0:Int) !=0)=false from rfl),g2',sb]
    dsimp only
    rw [zW (by omega)]
    rfl
   rw [zmm hstep]
   simp only []
   rw [←htk]
   refine ih (i+1) nm' nu' hd' (by omega) ⟨fun n=>?_,fun n=>?_,fun n=>?_,fun j n hj=>g3.later j n (by omega),fun j n hj=>g3.laterU j n (by omega)⟩
   ·rw [htk];exact g3.mes n
   ·rw [g3.later (i+1) n (by omega)];rfl
   ·rw [g3.laterU (i+1) n (by omega)];rfl
theorem zAx {s:List Mes} (hw:WS s):zgv s=some (⟨(zij s).1,(zij s).2.1,(zij s).2.2⟩,if (zij s).2.2=0 then 0 else 9):=by
 unfold zgv zij
 by_cases h:s.length=0∨100<s.length
 ·rw [itT (by simp;omega),if_pos h]
  rfl
 ·rw [itF (by simp;omega),if_neg h,zCM,sb]
  have hl:=zAy hw s 0 [] [] rfl (by omega) ⟨fun n=>rfl,fun n=>rfl,fun n=>rfl,fun j n _=>rfl,fun j n _=>rfl⟩
  simp only [List.take_zero] at hl
  have hl':zdG [1,2,3,4,5,6,7,8,9,10,11,12,13,14,15,16,17] s 0 [] []=_:=hl
  rw [hl',sb]
  cases hc:chkF s.length [] s with
  | none=>rfl
  | some q=>
   obtain ⟨i,k,w⟩:=q
   have:=zyb _ _ _ _ _ _ hc
   simp only
   rw [if_neg (by omega)]
theorem zBJ {s:List Mes} (hw:WS s):zgw s=some (zgV s):=by
 unfold zgw zgV
 rw [zAx hw,sb]
 by_cases h:(zij s).2.2=0<;>simp [h]
end Go.Proofs.YtcbkcblkecmjnaaGreat
namespace Go.Proofs.YtcbkcblkecmjnaaGreat
open Go
set_option linter.unusedVariables false
theorem zpO {k:Int} {b:List UInt8} (h:(zbj k b).2=0):kNum k=true∧(pcs k b).2=0∧(zbj k b).1=(pcs k b).1.map (ziJ k):=by
 unfold zbj at h⊢
 cases hn:kNum k with
 | false=>rw [hn,if_pos rfl] at h;simp at h
 | true=>
  rw [hn,if_neg (by simp)] at h
  rw [if_neg (by simp)]
  by_cases h0:(pcs k b).2=0
  ·rw [if_pos h0];exact ⟨rfl,h0,rfl⟩
  ·rw [if_neg h0] at h;exact absurd h h0
theorem zsk {k:Int} {b:List UInt8} (h:(zbj k b).2≠0):(zbj k b).1=[]∧((zbj k b).2=2∨(zbj k b).2=3∨(zbj k b).2=4):=by
 unfold zbj at h⊢
 by_cases hn:kNum k=false
 ·rw [if_pos hn];simp
 ·rw [if_neg hn] at h⊢
  by_cases h0:(pcs k b).2=0
  ·rw [if_pos h0] at h;exact absurd rfl h
  ·rw [if_neg h0]
   rcases zwc k b with h1| h1| h1
   ·exact absurd h1 h0
   ·rw [h1];simp
   ·rw [h1];simp
end Go.Proofs.YtcbkcblkecmjnaaGreat
namespace Go.Proofs.YtcbkcblkecmjnaaGreat
open Go
set_option linter.unusedVariables false
theorem zAT {α:Type} (x y:α):(if (true:Bool)=false then x else y)=y:=rfl
def wid (k:Int):Nat:=if 12≤k then 8 else if 9≤k then 4 else 0
theorem ztD (k:Int):zfl k=some (if kNum k then ((wid k:Int),0) else (0,2)):=by
 cases hn:kNum k with
 | true=>
  have h:=zhu.1 hn
  have hk:k=1∨k=2∨k=3∨k=4∨k=5∨k=6∨k=7∨k=8∨k=9∨k=10∨k=11∨k=12∨k=13∨k=14:=by omega
  rcases hk with rfl| rfl| rfl| rfl| rfl| rfl| rfl| rfl| rfl| rfl| rfl| rfl| rfl| rfl<;>rfl
 | false=>
  have h:=of_decide_eq_false hn
  unfold zfl
  have hne:∀c:Int,1≤c→c≤14→(k==c)=false:=fun c h1 h2=>by simp;omega
  simp only [hne 1 (by omega) (by omega),hne 2 (by omega) (by omega),hne 3 (by omega) (by omega),hne 4 (by omega) (by omega),hne 5 (by omega) (by omega),hne 6 (by omega) (by omega),hne 7 (by omega) (by omega),hne 8 (by omega) (by omega),hne 9 (by omega) (by omega),hne 10 (by omega) (by omega),hne 11 (by omega) (by omega),hne 12 (by omega) (by omega),hne 13 (by omega) (by omega),hne 14 (by omega) (by omega)]
  rfl
theorem zzu {k:Int} (hk:kNum k=true):(zcX k=0↔wid k=0)∧(wid k≠0→∀b:List UInt8,zeX (zcX k) b=decide (wid k=b.length))∧(wid k=0∨wid k=4∨wid k=8):=by
 have:=zhu.1 hk
 unfold zcX wid zeX
 by_cases h1:12≤k
 ·rw [if_neg (by omega),if_pos h1,if_pos h1]
  refine ⟨by simp,fun _ b=>?_,by simp⟩
  rw [if_neg (by omega)]
  simp only [show ((1:Int)=2)=False from by simp,show ((1:Int)=5)=False from by simp,false_or,false_and,or_false,true_and]
  simp [eq_comm]
 ·rw [if_neg (by omega),if_neg h1,if_neg h1]
  by_cases h2:9≤k
  ·rw [if_pos h2,if_pos h2]
   refine ⟨by simp,fun _ b=>?_,by simp⟩
   rw [if_neg (by omega)]
   simp [eq_comm]
  ·rw [if_neg h2,if_neg h2]
   exact ⟨by simp,fun h=>absurd rfl h,by simp⟩
theorem zAb (b:List UInt8):zgu b=some (if zeX 0 b then ((rd b).1,0) else (0,12)):=by
 unfold zgu zeX
 rw [zqv,sb,if_pos rfl]
 by_cases h:(rd b).2.2=0∧(rd b).2.1=(b.length:Int)
 ·rw [itF (by simp [h.1,h.2]),if_pos (by simpa using h)]
 ·rw [itT (by simp;omega),if_neg (by simpa using h)]
theorem zzY (k:Int) (b:List UInt8):zgt k b=some (if kNum k=false then (0,2) else if zeX (zcX k) b=false then (0,12) else (rawW k b,0)):=by
 unfold zgt
 rw [ztD,sb]
 cases hn:kNum k with
 | false=>rw [if_pos rfl];rfl
 | true=>
  obtain ⟨e0,ef,_⟩:=zzu hn
  simp only [if_true]
  rw [itF (by simp),if_neg (show ¬(true=false) by simp)]
  by_cases h0:wid k=0
  ·have hw:=e0.2 h0
   rw [itT (by simp [h0]),zAb,sb,hw]
   unfold rawW
   cases hf:zeX 0 b with
   | true=>simp [hw]
   | false=>simp
  ·rw [itF (by simpa using h0),ef h0]
   by_cases hl:wid k=b.length
   ·rw [itF (by simp;omega),zDz,sb,if_neg (by simpa using hl)]
    unfold rawW
    rw [if_neg (fun h=>h0 (e0.1 h))]
   ·rw [itT (by simp;omega),if_pos (by simpa using hl)]
theorem zBU (k:Int) (b:List UInt8):zhx k b=some (zmx k b):=by
 unfold zhx zmx
 rw [zzY,sb]
 cases hn:kNum k with
 | false=>rfl
 | true=>
  simp only [zAT]
  cases hf:zeX (zcX k) b with
  | false=>rfl
  | true=>
   simp only [zAT]
   rw [itF (by rfl),zjA k (znO k),sb,hn,if_pos rfl]
theorem zBV {k w:Int} (h:0≤w∧w≤18446744073709551615):zhy k w=some (if kNum k then ((sPut k w).length:Int) else 0):=by
 have hc:=znm k h
 obtain ⟨c,hcc⟩:∃c:Nat,zdg k w=c:=⟨(zdg k w).toNat,by omega⟩
 unfold zhy
 rw [ztD,sb]
 cases hn:kNum k with
 | false=>rfl
 | true=>
  simp only [if_true]
  unfold sPut zxH
  rw [hcc,Int.toNat_natCast]
  unfold wid
  by_cases h1:12≤k
  ·rw [if_pos h1,if_pos h1,itT (by rfl),zfC]
  ·rw [if_neg h1,if_neg h1]
   by_cases h2:9≤k
   ·rw [if_pos h2,if_pos h2,itT (by rfl),zfC]
   ·rw [if_neg h2,if_neg h2,itF (by rfl),zjA k h,sb,hn]
    simp only [if_true]
    rw [hcc,zEe (by omega),sb,zui]
end Go.Proofs.YtcbkcblkecmjnaaGreat
namespace Go.Proofs.YtcbkcblkecmjnaaGreat
open Go
theorem zsR {α:Type} {l t:List α} {x:α} {k:Nat} (h:l.drop k=x::t):∃hk:k<l.length,l[k]=x∧l.drop (k+1)=t:=by
 have hk:k<l.length:=by
  rcases Nat.lt_or_ge k l.length with h'| h'
  ·exact h'
  ·rw [List.drop_eq_nil_of_le h'] at h;cases h
 rw [List.drop_eq_getElem_cons hk] at h
 injection h with h1 h2
 exact ⟨hk,h1,h2⟩
theorem zua (l:List (List UInt8)) (hl:l.length≤1099511627776):∀(t:List (List UInt8)) (k s:Nat),l.drop k=t→s+t.flatten.length≤1099511627776→
  zaU l s k=some ((s+t.flatten.length:Nat):Int):=by
 intro t
 induction t with
 | nil=>
  intro k s hd _
  have hk:l.length≤k:=by have:=congrArg List.length hd;simp at this;omega
  refine zgh ?_
  unfold zak
  rw [itF (by simp;omega)]
  simp
 | cons x t ih=>
  intro k s hd hs
  obtain ⟨hk,hx,hd'⟩:=zsR hd
  simp only [List.flatten_cons,List.length_append] at hs
  refine (zgg (size':=((s+x.length:Nat):Int)) (v':=((k+1:Nat):Int)) ?_).trans ?_
  ·unfold zak
   rw [itT (by simp;omega),zan rfl hk,sb,hx,zW (by omega),itF (by simp;omega),zW (by omega)]
   push_cast;rfl
  ·rw [ih _ _ hd' (by omega)]
   simp only [List.flatten_cons,List.length_append]
   congr 2;omega
theorem zub (l:List (List UInt8)) (hl:l.length≤1099511627776):∀(t:List (List UInt8)) (k:Nat) (acc:List UInt8),l.drop k=t→acc.length+t.flatten.length≤1099511627776→
  zaV l acc k=some (acc++t.flatten):=by
 intro t
 induction t with
 | nil=>
  intro k acc hd _
  have hk:l.length≤k:=by have:=congrArg List.length hd;simp at this;omega
  refine zgj ?_
  unfold zal
  rw [itF (by simp;omega)]
  simp
 | cons x t ih=>
  intro k acc hd hs
  obtain ⟨hk,hx,hd'⟩:=zsR hd
  simp only [List.flatten_cons,List.length_append] at hs
  refine (zgi (newslice':=acc++x) (v2':=((k+1:Nat):Int)) ?_).trans ?_
  ·unfold zal
   rw [itT (by simp;omega),zan rfl hk,sb,hx,zgm (by omega),sb,zW (by omega)]
   push_cast;rfl
  ·rw [ih _ _ hd' (by rw [List.length_append];omega)]
   simp
theorem zCH {n:Nat} (h:n≤1099511627776):zbT (n:Int)=some []:=by
 unfold zbT
 have e:IntKind.i64.wrap ((n:Int) - IntKind.i64.wrap (0 - 0))=n:=by rw [zW (x:=0 - 0) (by omega),zW (by omega)];omega
 rw [itF (by simp),e]
 by_cases h0:(n:Int)>0
 ·rw [itT (by simpa using h0),zoN (a:=n) rfl (Int.le_refl _) (by omega),sb]
  have e0:cut (List.replicate n (0:UInt8)) 0 0=some []:=zqP (b:=0) rfl (Nat.zero_le _)
  rw [e0,sb]
 ·rw [itF (by simpa using h0)]
theorem zzj {l:List (List UInt8)} (hl:l.length≤1099511627776) (h:l.flatten.length≤1099511627776):zbI l=some l.flatten:=by
 unfold zbI
 have h1:=zua l hl l 0 0 rfl (by omega)
 have h1':zaU l 0 0=_:=h1
 have h2:=zub l hl l 0 [] rfl (by simpa using h)
 have h2':zaV l [] 0=_:=h2
 rw [h1',sb,zCH (by omega),sb,h2',sb]
 simp
end Go.Proofs.YtcbkcblkecmjnaaGreat
namespace Go.Proofs.YtcbkcblkecmjnaaGreat
open Go
set_option linter.unusedVariables false
def wid9 (k:Int):Int:=if kNum k then (if 12≤k then 8 else if 9≤k then 4 else 1) else 0
theorem zsu {k:Int} (hk:kNum k=true):(((sPut k 0).length:Nat):Int)=(if 12≤k then 8 else if 9≤k then 4 else 1):=by
 have hk':=zhu.1 hk
 have hc:(zdg k 0).toNat=0:=by
  have:k=1∨k=2∨k=3∨k=4∨k=5∨k=6∨k=7∨k=8∨k=9∨k=10∨k=11∨k=12∨k=13∨k=14:=by omega
  rcases this with h| h| h| h| h| h| h| h| h| h| h| h| h| h<;>subst h<;>decide
 unfold sPut
 rw [hc]
 unfold zxH
 by_cases h1:12≤k
 ·rw [if_pos h1,if_pos h1,zfC];rfl
 ·rw [if_neg h1,if_neg h1]
  by_cases h2:9≤k
  ·rw [if_pos h2,if_pos h2,zfC];rfl
  ·rw [if_neg h2,if_neg h2,zui]
   simp [lenN]
theorem zzR (k:Int):zjN k=some (wid9 k):=by
 unfold zjN wid9
 rw [zBV (by omega),sb]
 cases hk:kNum k with
 | false=>rfl
 | true=>simp only [if_true];rw [zsu hk]
theorem zzc {k:Int} (hk:kNum k=true):(k<9→wid9 k=1)∧(¬k<9→k<12→wid9 k=4)∧(¬k<12→wid9 k=8):=by
 unfold wid9
 rw [hk,if_pos rfl]
 refine ⟨fun h=>?_,fun h1 h2=>?_,fun h=>?_⟩
 ·rw [if_neg (show ¬12≤k by omega),if_neg (show ¬9≤k by omega)]
 ·rw [if_neg (show ¬12≤k by omega),if_pos (show 9≤k by omega)]
 ·rw [if_pos (show 12≤k by omega)]
theorem zCq {k:Int} (hk:kNum k=false):wid9 k=0:=by unfold wid9;rw [hk];rfl
theorem zDw {k:Int} (hk:kNum k=true):(wid9 k==0)=false:=by
 obtain ⟨h1,h2,h3⟩:=zzc hk
 by_cases h9:k<9
 ·rw [h1 h9];rfl
 ·by_cases h12:k<12
  ·rw [h2 h9 h12];rfl
  ·rw [h3 h12];rfl
theorem zty {k:Int} (hk:kNum k=true) (b:List UInt8):zjM (wid9 k) b=some (match zjY k b with| .inl c=>(0,c)| .inr n=>((n:Int),0)):=by
 obtain ⟨w1,w2,w3⟩:=zzc hk
 unfold zjM zjY
 by_cases h9:k<9
 ·rw [w1 h9,itT (by rfl),zyS,sb,if_pos h9]
  rcases ziv b with h| ⟨h,_⟩| ⟨x,c,y,e,hx,hc,hl,hv,h⟩
  ·rw [h];rfl
  ·rw [h];rfl
  ·rw [h,if_neg (by simp)];simp
 ·rw [if_neg h9]
  by_cases h12:k<12
  ·rw [w2 h9 h12,itF (by rfl),if_pos h12]
   by_cases hl:b.length<4
   ·rw [itT (by simp;omega),if_pos hl]
   ·rw [itF (by simp;omega),if_neg hl];rfl
  ·rw [w3 h12,itF (by rfl),if_neg h12]
   by_cases hl:b.length<8
   ·rw [itT (by simp;omega),if_pos hl]
   ·rw [itF (by simp;omega),if_neg hl];rfl
def zgI (k:Int) (b:List UInt8):List (List UInt8)×Int:=if kNum k=false then ([],2) else pcs k b
def go9 {σ ρ:Type} (kb:σ→(List UInt8×Int)→Option (σ⊕ρ)):List (List UInt8)→Int→σ→Option (σ⊕ρ)
 | [],c,s=>if c=0 then some (.inl s) else kb s ([],c)
 | p::ps,c,s=>match kb s (p,0) with
  | some (.inl s')=>go9 kb ps c s'
  | some (.inr r)=>some (.inr r)
  | none=>none
theorem zxE {σ ρ χ:Type} {kb:σ→χ→Option (σ⊕ρ)} {s:σ} {x:χ} {o:σ⊕ρ} (h:kb s x=some o):∃c,rnd kb (.inl s) x=some (c,o)∧(c=true∧(∃s',o= .inl s')∨c=false∧∃r,o= .inr r):=by
 cases o with
 | inl s'=>exact ⟨true,by simp only [rnd,h],.inl ⟨rfl,s',rfl⟩⟩
 | inr r=>exact ⟨false,by simp only [rnd,h],.inr ⟨rfl,r,rfl⟩⟩
theorem zEX {σ ρ:Type} (kb:σ→(List UInt8×Int)→Option (σ⊕ρ)) {k:Int} (hk:kNum k=true) (b:List UInt8):∀(s:σ) (o:σ⊕ρ),go9 kb (pcs k b).1 (pcs k b).2 s=some o→
  ∃q,zdE (rnd kb) (wid9 k) b (.inl s)=some q∧(q= .inl o∨q= .inr o):=by
 refine zqs k (fun b=>∀(s:σ) (o:σ⊕ρ),go9 kb (pcs k b).1 (pcs k b).2 s=some o→
  ∃q,zdE (rnd kb) (wid9 k) b (.inl s)=some q∧(q= .inl o∨q= .inr o)) ?_ ?_ ?_ b
 ·intro s o h
  rw [znM] at h
  have h':some (.inl s)=some o:=h
  refine ⟨.inl o,zft ?_,.inl rfl⟩
  unfold zbm
  rw [itF (by rfl),←Option.some.inj h']
 ·intro l c hl hu hc s o h
  rw [zqr hl hu] at h
  have h':kb s ([],c)=some o:=by
   have h2:(if c=0 then some (.inl s) else kb s ([],c))=some o:=h
   rwa [if_neg (by omega)] at h2
  obtain ⟨t,ht,_⟩:=zxE h'
  refine ⟨.inr o,zft ?_,.inr rfl⟩
  have hp:=List.length_pos_iff.2 hl
  unfold zbm
  rw [itT (by simp;omega),zty hk,sb,hu]
  simp only
  rw [zgM (i:=0) (j:=0) (a:=0) (b:=0) rfl rfl (Nat.le_refl _) (Nat.zero_le _),sb]
  simp only [List.drop_zero,Nat.sub_self,List.take_zero]
  rw [ht,sb,itT (by simp;omega)]
 ·intro l n hl hu g1 g2 g3 ih s o h
  rw [zls hl hu] at h
  have hp:=List.length_pos_iff.2 hl
  have hbody:∀{t:Bool} {y:σ⊕ρ},rnd kb (.inl s) (l.take n,0)=some (t,y)→zbm (rnd kb) (wid9 k) l (.inl s)=(if t then some (.inl (l.drop n,y)) else some (.inr (.inr y))):=by
   intro t y ht
   unfold zbm
   rw [itT (by simp;omega),zty hk,sb,hu]
   simp only
   rw [zgM (i:=0) (j:=(n:Int)) (a:=0) (b:=n) rfl rfl (Nat.zero_le _) g2,sb]
   simp only [List.drop_zero,Nat.sub_zero]
   rw [ht,sb]
   cases t with
   | false=>rw [itT (by rfl)];rfl
   | true=>rw [itF (by rfl),zno (a:=n) rfl rfl g2,sb];rfl
  simp only [go9] at h
  cases hb:kb s (l.take n,0) with
  | none=>rw [hb] at h;cases h
  | some z=>
   rw [hb] at h
   obtain ⟨t,ht,hcase⟩:=zxE hb
   have hB:=hbody ht
   rcases hcase with ⟨rfl,s',rfl⟩| ⟨rfl,r,rfl⟩
   ·obtain ⟨q,hq,hq'⟩:=ih s' o h
    exact ⟨q,by rw [zml hB];exact hq,hq'⟩
   ·have h':some (.inr r)=some o:=h
    exact ⟨.inr (.inr r),zft hB,.inr (by rw [Option.some.inj h'])⟩
theorem zzb {σ ρ:Type} (kb:σ→(List UInt8×Int)→Option (σ⊕ρ)) (k:Int) (b:List UInt8) {s:σ} {o:σ⊕ρ} (h:go9 kb (zgI k b).1 (zgI k b).2 s=some o):zdi k b (rnd kb) (.inl s)=some o:=by
 unfold zdi
 rw [zzR,sb]
 unfold zgI at h
 cases hk:kNum k with
 | false=>
  rw [hk,if_pos rfl] at h
  have h':kb s ([],2)=some o:=h
  obtain ⟨t,ht,_⟩:=zxE h'
  rw [zCq hk,itT (by rfl),ht,sb]
 | true=>
  rw [hk,if_neg (by simp)] at h
  have hw:=zDw hk
  obtain ⟨q,hq,hq'⟩:=zEX kb hk b s o h
  rw [itF hw,hq,sb]
  rcases hq' with rfl| rfl<;>rfl
theorem zsf (k:Int) (b:List UInt8):(zgI k b).2=(zbj k b).2∧((zbj k b).2=0→(zgI k b).1=(pcs k b).1)∧(∀p∈(zgI k b).1,zeX (zcX k) p=true∧1≤p.length∧p.length≤10)∧(zgI k b).1.length≤b.length∧((zgI k b).1=[]∨kNum k=true):=by
 unfold zgI zbj
 by_cases hn:kNum k=false
 ·rw [if_pos hn,if_pos hn];exact ⟨rfl,fun h=>by simp at h,(fun p hp=>by cases hp),Nat.zero_le _,.inl rfl⟩
 ·have hk:kNum k=true:=by simpa using hn
  rw [if_neg hn,if_neg hn]
  refine ⟨?_,fun _=>rfl,zBE hk b,zyL k b,.inr hk⟩
  by_cases h0:(pcs k b).2=0
  ·rw [if_pos h0];exact h0
  ·rw [if_neg h0]
theorem zwF {k:Int} (hk:kNum k=true) (c:Int):∀(ps:List (List UInt8)) (acc:List Int),(∀p∈ps,zeX (zcX k) p=true∧1≤p.length∧p.length≤10)→acc.length+ps.length≤1048576→
  go9 (fun (s:List Int) (x:List UInt8×Int)=>zcM k s x.1 x.2) ps c acc=some (if c=0 then .inl (acc++ps.map (ziJ k)) else .inr (c,acc++ps.map (ziJ k)))
 | [],acc,_,hl=>by
  simp only [go9,List.map_nil,List.append_nil]
  by_cases h0:c=0
  ·rw [if_pos h0,if_pos h0]
  ·rw [if_neg h0,if_neg h0];unfold zcM;rw [itT (by simpa using h0)]
 | p::ps,acc,hf,hl=>by
  simp only [List.length_cons] at hl
  have h1:zcM k acc p 0=some (.inl (acc++[ziJ k p])):=by
   unfold zcM
   rw [itF (by rfl),zBU,sb,zlx hk (hf p List.mem_cons_self).1,zgm (by simp;omega),sb]
  simp only [go9,h1]
  rw [zwF hk c ps _ (fun q hq=>hf q (List.mem_cons_of_mem _ hq)) (by simp;omega)]
  simp
theorem zzS (k:Int) {b:List UInt8} (hb:b.length≤1048576):zjL k b=some (zbj k b):=by
 obtain ⟨h1,h2,h3,h4,h5⟩:=zsf k b
 unfold zjL zgW
 rw [sb]
 simp only
 have hgo:go9 (fun (s:List Int) (x:List UInt8×Int)=>zcM k s x.1 x.2) (zgI k b).1 (zgI k b).2 []=some (if (zgI k b).2=0 then .inl ([]++(zgI k b).1.map (ziJ k)) else .inr ((zgI k b).2,[]++(zgI k b).1.map (ziJ k))):=by
  rcases h5 with h5| h5
  ·rw [h5]
   simp only [go9,List.map_nil,List.append_nil]
   by_cases h0:(zgI k b).2=0
   ·rw [if_pos h0,if_pos h0]
   ·rw [if_neg h0,if_neg h0];unfold zcM;rw [itT (by simpa using h0)]
  ·exact zwF h5 _ _ _ h3 (by simp;omega)
 rw [zzb _ k b hgo,sb,h1]
 by_cases h0:(zbj k b).2=0
 ·rw [if_pos h0,h2 h0]
  simp only [List.nil_append]
  rw [←(zpO h0).2.2,←h0]
 ·rw [if_neg h0]
  simp only
  rw [←(zsk h0).1]
theorem zvp (c:Int):∀(ps:List (List UInt8)) (n:Nat),n+ps.length≤1048576→
  go9 (fun (s:Int) (x:List UInt8×Int)=>zdN s x.1 x.2) ps c (n:Int)=some (if c=0 then .inl ((n+ps.length:Nat):Int) else .inr (c,((n+ps.length:Nat):Int)))
 | [],n,hl=>by
  simp only [go9,List.length_nil,Nat.add_zero]
  by_cases h0:c=0
  ·rw [if_pos h0,if_pos h0]
  ·rw [if_neg h0,if_neg h0];unfold zdN;rw [itT (by simpa using h0)]
 | p::ps,n,hl=>by
  simp only [List.length_cons] at hl
  have h1:zdN (n:Int) p 0=some (.inl ((n+1:Nat):Int)):=by
   unfold zdN
   rw [itF (by rfl),zW (by omega)];rfl
  simp only [go9,h1]
  rw [zvp c ps (n+1) (by omega)]
  simp only [List.length_cons]
  rw [Nat.add_right_comm,Nat.add_assoc]
theorem zzK (k:Int) {b:List UInt8} (hb:b.length≤1048576):zjK k b=some (((zbj k b).1.length:Int),(zbj k b).2):=by
 obtain ⟨h1,h2,h3,h4,h5⟩:=zsf k b
 unfold zjK zgW
 rw [sb]
 simp only
 have hgo:=zvp (zgI k b).2 (zgI k b).1 0 (by omega)
 rw [zzb (s:=(0:Int)) _ k b hgo,sb,h1]
 by_cases h0:(zbj k b).2=0
 ·rw [if_pos h0,h2 h0]
  simp only
  rw [(zpO h0).2.2,h0]
  simp
 ·rw [if_neg h0]
  simp only
  rw [(zsk h0).1]
  rfl
end Go.Proofs.YtcbkcblkecmjnaaGreat
namespace Go.Proofs.YtcbkcblkecmjnaaGreat
open Go
set_option linter.unusedVariables false
abbrev PVw:=zg
def prV (v:Vw):PVw:=⟨v.R,v.Field,v.Run⟩
theorem zsi (m:Mes) {e:Option (Nat×Int)} (he:∀p c,e=some (p,c)→3≤c∧c≤5):∀(l:List Rec) (p c:Int),(vws m e l).2=some (p,c)→3≤c∧c≤6
 | [],p,c,h=>by
  cases e with
  | none=>cases h
  | some q=>
   simp only [vws,Option.map_some,Option.some.injEq,Prod.mk.injEq] at h
   have:=he q.1 q.2 rfl
   omega
 | r::l,p,c,h=>by
  rw [vws] at h
  rcases zfi m r.Number r.Wire with hv| ⟨hv,_⟩| ⟨i,run,hv,_⟩
  ·simp only [hv,Option.some.injEq,Prod.mk.injEq] at h;omega
  ·simp only [hv] at h;exact zsi m he l p c h
  ·simp only [hv] at h;exact zsi m he l p c h
theorem zEq (b:List UInt8):∀p c,(spl 0 b).2=some (p,c)→3≤c∧c≤5:=fun p c h=>by
 have:=(zBS 0 b p c h).1;omega
theorem zpu (m:Mes) (b:List UInt8):(zea m b).2.2=0∧(vws m (spl 0 b).2 (spl 0 b).1).2=none∧(zea m b).1=(vws m (spl 0 b).2 (spl 0 b).1).1∧(zea m b).2.1=0∨(3≤(zea m b).2.2∧(zea m b).2.2≤6)∧(zea m b).1=[]:=by
 unfold zea vwR
 cases h:(vws m (spl 0 b).2 (spl 0 b).1).2 with
 | none=>exact .inl ⟨rfl,rfl,rfl,rfl⟩
 | some q=>exact .inr ⟨zsi m (zEq b) _ q.1 q.2 h,rfl⟩
theorem zsj {m:Mes} {e:Option (Nat×Int)}:∀{l:List Rec},(vws m e l).2=none→e=none∧(vws m e l).1.map (·.R)=l
 | [],h=>by
  cases e with
  | none=>exact ⟨rfl,rfl⟩
  | some q=>simp [vws] at h
 | r::l,h=>by
  rw [vws] at h⊢
  rcases zfi m r.Number r.Wire with hv| ⟨hv,_⟩| ⟨i,run,hv,_⟩
  ·simp only [hv] at h;cases h
  ·simp only [hv] at h⊢
   have:=zsj h
   exact ⟨this.1,by simp [this.2]⟩
  ·simp only [hv] at h⊢
   have:=zsj h
   exact ⟨this.1,by simp [this.2]⟩
theorem zwD {m:Mes} {e:Option (Nat×Int)}:∀{l:List Rec},∀v∈(vws m e l).1,v.R∈l∧vw m v.R.Number v.R.Wire= .inr (v.Field,v.Run)
 | [],v,h=>by cases h
 | r::l,v,h=>by
  rw [vws] at h
  rcases zfi m r.Number r.Wire with hv| ⟨hv,_⟩| ⟨i,run,hv,_⟩
  ·simp only [hv] at h;cases h
  all_goals
   simp only [hv] at h
   rcases List.mem_cons.1 h with rfl| h
   ·exact ⟨List.mem_cons_self,hv⟩
   ·have:=zwD v h
    exact ⟨List.mem_cons_of_mem _ this.1,this.2⟩
theorem zDr {m:Mes} {b:List UInt8} {v:Vw} (h:v∈(zea m b).1):v.R∈(spl 0 b).1∧vw m v.R.Number v.R.Wire= .inr (v.Field,v.Run):=by
 rcases zpu m b with ⟨_,_,e,_⟩| ⟨_,e⟩
 ·rw [e] at h;exact zwD v h
 ·rw [e] at h;cases h
end Go.Proofs.YtcbkcblkecmjnaaGreat
namespace Go.Proofs.YtcbkcblkecmjnaaGreat
open Go
theorem ztG (t:zaY):zjQ t=some (zfQ t.Number t.Wire):=by
 have e:zfE t.Wire=some (decide (t.Wire=0∨t.Wire=1∨t.Wire=2∨t.Wire=5)):=by
  unfold zfE
  by_cases h0:t.Wire=0
  ·simp [h0]
  by_cases h1:t.Wire=1
  ·simp [h1]
  by_cases h2:t.Wire=2
  ·simp [h2]
  by_cases h5:t.Wire=5
  ·simp [h5]
  simp [h0,h1,h2,h5]
 unfold zjQ zfQ
 rw [e]
 by_cases h1:1≤t.Number
 ·by_cases h2:t.Number≤536870911
  ·rw [itT (by simpa using h1),itT (by simpa using h2),sb,sb];simp [h1,h2]
  ·rw [itT (by simpa using h1),itF (by simpa using h2),sb];simp [h2]
 ·rw [itF (by simpa using h1),sb];simp [h1]
theorem zEI (w:Nat) (h:w<18446744073709551616):andI .u64 (w:Int) 7=((w%8:Nat):Int):=by
 have e:=zvg (k:= .u64) rfl (a:=w) (b:=7) (by simpa [IntKind.bits] using h) (by simp [IntKind.bits])
 have e2:w&&&7=w%8:=Nat.and_two_pow_sub_one_eq_mod w 3
 rw [e2] at e;exact e
theorem zEU (w:Nat):shrI .u64 (w:Int) 3=((w/8:Nat):Int):=zrL (k:= .u64) (a:=w) (b:=3) (by simp [IntKind.bits])
theorem zCi (b:List UInt8):zlD b=some ((⟨(tg b).1,(tg b).2.1⟩:zaY),(tg b).2.2.1,(tg b).2.2.2):=by
 obtain ⟨h1,h2,h3,h4,h5,h6,h7⟩:=zgT b
 unfold zlD tg
 rw [zqv,sb]
 by_cases h:(rd b).2.2=0
 ·rw [itF (by simpa using h)]
  obtain ⟨w,hw⟩:∃w:Nat,(rd b).1=w:=⟨(rd b).1.toNat,by omega⟩
  rw [hw] at h2⊢
  rw [zEU,zEI w (by omega)]
  have e0:IntKind.i64.wrap ((w%8:Nat):Int)=(w:Int)%8:=by rw [zW (by omega)];omega
  by_cases hg:4294967295<w
  ·have e1:IntKind.i64.wrap (if (536870912:Int)<((w/8:Nat):Int) then 536870912 else ((w/8:Nat):Int))=536870912:=by
    split
    ·rfl
    ·rw [zW (by omega)];omega
   rw [e0,e1,ztG,sb]
   have e2:zfQ 536870912 ((w:Int)%8)=false:=by simp [zfQ]
   simp only [e2]
   rw [itT (by rfl),zrW h (.inl (by rw [hw];omega))]
  ·have e1:IntKind.i64.wrap (if (536870912:Int)<((w/8:Nat):Int) then 536870912 else ((w/8:Nat):Int))=(w:Int)/8:=by
    rw [if_neg (by omega),zW (by omega)];omega
   rw [e0,e1,ztG,sb]
   simp only
   cases ht:zfQ ((w:Int)/8) ((w:Int)%8)
   ·rw [itT (by rfl),zrW h (.inr (by rw [hw];exact ht))]
   ·rw [itF (by rfl),zCg h (by rw [hw,ht];simp;omega),hw]
 ·rw [itT (by simpa using h),zyW h]
end Go.Proofs.YtcbkcblkecmjnaaGreat
namespace Go.Proofs.YtcbkcblkecmjnaaGreat
open Go
theorem zDk {w:Int} {b:List UInt8} (hw:w=0∨w=1∨w=2∨w=5) (hb:b.length≤1048576):
  zhv w b=some (match zfT w 0 b with| .inl c=>(0,(if w=0 then (rd b).2.1 else 0),c)| .inr (a,t)=>((a:Int),(t:Int),0)):=by
 obtain ⟨h1,h2,h3,h4,h5,h6,h7⟩:=zgT b
 unfold zhv zfT
 rcases hw with rfl| rfl| rfl| rfl
 ·rw [itT (by rfl),zyS,sb,if_pos rfl]
  by_cases h:(rd b).2.2=0
  ·rw [if_neg (by simpa using h)]
   simp only [h,Nat.zero_add]
   congr 3
   simp;omega
  ·rw [if_pos h];rfl
 ·rw [itF (by rfl),itT (by rfl),sb,itF (by rfl),if_neg (show ¬((1:Int)=0) by omega),if_neg (show ¬((1:Int)=2) by omega)]
  simp only
  have e:IntKind.u64.wrap (IntKind.i64.wrap ((b.length:Int) - 0))=(b.length:Int):=by rw [zW (by omega),wrap_u64];omega
  rw [e]
  by_cases g:b.length<8
  ·rw [itT (by simp;omega),if_pos (by simpa using g)];rfl
  ·rw [itF (by simp;omega),if_neg (by simpa using g)];rfl
 ·rw [itF (by rfl),itF (by rfl),itF (by rfl),itT (by rfl),zqv,sb,sb,if_neg (show ¬((2:Int)=0) by omega),if_pos (show (2:Int)=2 from rfl)]
  by_cases h:(rd b).2.2=0
  ·have hk:=h7 h
   rw [itF (by simpa using h),if_neg (show ¬((rd b).2.2≠0) from fun g=>g h)]
   simp only
   have e:IntKind.u64.wrap (IntKind.i64.wrap ((b.length:Int) - (rd b).2.1))=(b.length:Int) - (rd b).2.1:=by rw [zW (by omega),wrap_u64];omega
   rw [e]
   by_cases g:(b.length:Int) - (rd b).2.1<(rd b).1
   ·rw [itT (by simpa using g),if_pos g];rfl
   ·rw [itF (by simpa using g),if_neg g,zW (x:=(rd b).1) (by omega),zW (by omega)]
    simp;omega
  ·rw [itT (by simpa using h),if_pos h];rfl
 ·rw [itF (by rfl),itF (by rfl),itT (by rfl),sb,itF (by rfl),if_neg (show ¬((5:Int)=0) by omega),if_neg (show ¬((5:Int)=2) by omega)]
  simp only
  have e:IntKind.u64.wrap (IntKind.i64.wrap ((b.length:Int) - 0))=(b.length:Int):=by rw [zW (by omega),wrap_u64];omega
  rw [e]
  by_cases g:b.length<4
  ·rw [itT (by simp;omega),if_pos (by simpa using g)];rfl
  ·rw [itF (by simp;omega),if_neg (by simpa using g)];rfl
theorem zvm (w:Int) (k:Nat) (m:List UInt8):zfT w k m=match zfT w 0 m with| .inl c=> .inl c| .inr (a,t)=> .inr (k+a,k+t):=by
 unfold zfT
 repeat' split
 all_goals first
  | rfl
  | (rename_i h1 h2;injection h2 with h3;injection h3 with h4 h5;subst h4 h5;simp<;>omega)
  | simp_all<;>omega
theorem zuz {b:List UInt8} (hb:b.length≤1048576) (at5:Int):zfb b at5=some (zed b at5):=by
 unfold zfb zed
 by_cases h:at5<0∨at5≥b.length
 ·rw [itT (by simpa using h),if_pos h];rfl
 ·rw [itF (by simpa using h),if_neg h]
  obtain ⟨p,rfl⟩:∃p:Nat,at5=p:=⟨at5.toNat,by omega⟩
  rw [zno rfl rfl (by omega),sb,zCi,sb,Int.toNat_natCast]
  have hdl:(b.drop p).length=b.length - p:=by simp
  rcases zwt (b.drop p) with ⟨c,ht,hc⟩| ⟨n,w,k,ht,hr,k1,k2,k3,hrd⟩
  ·have e:rec5 (b.drop p)= .inl c:=by unfold rec5;rw [ht,if_pos (by simp only;omega)]
   rw [e,ht,itT (by simp;omega)];rfl
  ·obtain ⟨k,rfl⟩:∃j:Nat,k=j:=⟨k.toNat,by omega⟩
   have e:rec5 (b.drop p)=match zfT w k ((b.drop p).drop k) with
    | .inl c=> .inl c
    | .inr p=> .inr (n,w,p.1,p.2):=by unfold rec5;rw [ht];simp<;>rfl
   have hdd:(b.drop p).drop k=b.drop (p+k):=by rw [List.drop_drop]
   have hml:(b.drop (p+k)).length=b.length - (p+k):=by simp
   have ew:IntKind.i64.wrap ((p:Int)+k)=((p+k:Nat):Int):=by rw [zW (by omega)];push_cast;rfl
   rw [e,ht,itF (by simp),hdd]
   simp only [ew]
   rw [zno rfl rfl (by omega),sb,zDk (zrU.1 hr).2.2 (by omega),sb,zvm w k]
   rcases zhn w 0 (b.drop (p+k)) with ⟨c,hc,hc2⟩| ⟨a,t,hc,_,_,hle,_⟩
   ·rw [hc]
    simp only
    rw [itT (by simp;omega)];rfl
   ·rw [hc]
    simp only
    rw [itF (by rfl),zW (by omega),zW (by omega)]
    simp only [Option.some.injEq,Prod.mk.injEq,zx.mk.injEq,true_and,and_true]
    push_cast
    omega
end Go.Proofs.YtcbkcblkecmjnaaGreat
namespace Go.Proofs.YtcbkcblkecmjnaaGreat
open Go
set_option linter.unusedVariables false
abbrev Head:=zM
abbrev Role:=zQ
def rol (m:Mes) (h:Head):Role:=match vw m h.number h.wire with
 | .inl c=>⟨0,false,c⟩
 | .inr (i,run)=>⟨i,run,0⟩
theorem zAk {m:Mes} (hm:m.Fields.length≤1152921504606846976) (n:Int):ziH m n=some (fldI m n):=by
 unfold ziH zax
 have h:=zoE (fun f:Fld=>f.Number==n) m.Fields (fun i=>zZ m.Fields n i) (zbh (by unfold zF;rw [itF (by simp)])) (fun i hi=>by
  by_cases hp:(m.Fields[i].Number==n)=true
  ·rw [if_pos hp];exact zbh (by unfold zF zgC;rw [itT (by simp;omega),zan rfl hi,sb,sb,itT hp])
  ·rw [if_neg hp];exact zcC (by unfold zF zgC;rw [itT (by simp;omega),zan rfl hi,sb,sb,itF (eq_false_of_ne_true hp),zW (by omega)];rfl)) m.Fields.length 0 (by omega) (fun j _ h=>by omega)
 have h':zZ m.Fields n 0=_:=h
 rw [h',sb]
 unfold fldI zil
 cases m.Fields.findIdx? (fun f:Fld=>f.Number==n) with
 | none=>rfl
 | some i=>rfl
theorem zAl (f:Fld) (w:Int):ziI f w=some (decide (f.Repeated=true∧kNum f.Kind=true∧w=2)):=by
 unfold ziI
 cases f.Repeated
 ·simp [sb]
 ·by_cases hw:w=2
  ·subst hw
   rw [itT rfl,itT (c:=(2:Int)==2) rfl,zrg,sb,sb]
   cases kNum f.Kind<;>rfl
  ·rw [itT rfl,itF (by simpa using hw),sb]
   simp [hw]
theorem zCn (k w:Int):zkd k w=some (decide (¬(zbH k=false∨zcX k≠w))):=by
 unfold zkd
 rw [zvV,sb]
 cases zbH k with
 | false=>rfl
 | true=>
  by_cases h:zcX k=w<;>simp [h]
theorem zxU {m:Mes} (hm:m.Fields.length≤1152921504606846976) (h:Head):zgf m h=some (rol m h):=by
 unfold zgf rol
 rw [zAk hm,sb]
 unfold vw
 rcases zgO m h.number with ⟨hf,_⟩| ⟨i,hi,hf,_⟩
 ·rw [hf,itT (by rfl),if_pos (by decide)]
 ·rw [hf,itF (by simp),if_neg (by omega),zan rfl hi,sb,zdK hi,zAl,sb]
  by_cases h1:(m.Fields[i]).Repeated=true∧kNum (m.Fields[i]).Kind=true∧h.wire=2
  ·rw [if_pos h1,decide_eq_true h1]
   rfl
  ·rw [if_neg h1,decide_eq_false h1,itT (by rfl),zCn,sb,sb]
   by_cases h2:zbH (m.Fields[i]).Kind=false∨zcX (m.Fields[i]).Kind≠h.wire
   ·rw [if_pos h2,itT (by rw [decide_eq_false (fun g=>g h2)];rfl)]
   ·rw [if_neg h2,itF (by rw [decide_eq_true h2];rfl)]
def zky (m:Mes) (met:List (Head×Role)):Prop:=∀h x,mget met h=some x→x=rol m h
theorem zky.nil (m:Mes):zky m []:=fun h x g=>by cases g
theorem zky.put {m:Mes} {met:List (Head×Role)} (g:zky m met) (h:Head):zky m (mput met h (rol m h)):=fun j x hx=>by
 rw [zgQ] at hx
 by_cases e:j=h
 ·rw [if_pos e] at hx;rw [e];exact (Option.some.inj hx).symm
 ·rw [if_neg e] at hx;exact g j x hx
theorem zrl {m:Mes} (hm:m.Fields.length≤1152921504606846976) {b:List UInt8} (hb:b.length≤1048576) (p:Int) {met:List (Head×Role)} (g:zky m met):
  ∃met',zig m b p met=some (prV (zdA m b p).1,(zdA m b p).2,met')∧zky m met':=by
 unfold zig zdA
 rw [zuz hb,sb]
 by_cases h:(zed b p).2=0
 ·rw [itF (by simpa using h),if_neg (show ¬((zed b p).2≠0) from fun q=>q h)]
  generalize (zed b p).1=r
  have key:∃met',(if (!(mget met (⟨r.Number,r.Wire⟩:Head)).isSome) then (zgf m (⟨r.Number,r.Wire⟩:Head)>>=fun rv2=>some ((mput met (⟨r.Number,r.Wire⟩:Head) rv2),rv2.field,rv2.run,rv2.e))
    else some (met,((mget met (⟨r.Number,r.Wire⟩:Head)).getD (⟨0,false,0⟩:Role)).field,((mget met (⟨r.Number,r.Wire⟩:Head)).getD (⟨0,false,0⟩:Role)).run,((mget met (⟨r.Number,r.Wire⟩:Head)).getD (⟨0,false,0⟩:Role)).e))=some (met',(rol m ⟨r.Number,r.Wire⟩).field,(rol m ⟨r.Number,r.Wire⟩).run,(rol m ⟨r.Number,r.Wire⟩).e)∧zky m met':=by
   cases hg:mget met (⟨r.Number,r.Wire⟩:Head) with
   | none=>
    rw [itT (by rfl),zxU hm,sb]
    exact ⟨_,rfl,g.put _⟩
   | some x=>
    rw [itF (by rfl)]
    refine ⟨met,?_,g⟩
    rw [←g _ x hg]
    rfl
  obtain ⟨met',hk,hM⟩:=key
  refine ⟨met',?_,hM⟩
  rw [hk,sb]
  unfold rol
  rcases zfi m r.Number r.Wire with hv| ⟨hv,_⟩| ⟨i,run,hv,_⟩
  ·simp only [hv];rfl
  ·simp only [hv];rfl
  ·simp only [hv];rfl
 ·rw [itT (by simpa using h),if_pos h]
  exact ⟨met,rfl,g⟩
theorem zCo {m:Mes} (hm:m.Fields.length≤1152921504606846976) {b:List UInt8} (hb:b.length≤1048576) (p:Int):zkc m b p=some (prV (zdA m b p).1,(zdA m b p).2):=by
 obtain ⟨met',h,_⟩:=zrl hm hb p (zky.nil m)
 unfold zkc
 rw [h,sb]
theorem zAh {m:Mes} (hm:m.Fields.length≤1152921504606846976) {b:List UInt8} (hb:b.length≤1048576) (base:Nat) (l:List UInt8):∀(out:List Vw) (met:List (Head×Role)),base≤b.length→l=b.drop base→out.length≤base→zky m met→
  zfh b m (out.map prV) met base=some (match (vws m (spl base l).2 (spl base l).1).2 with| none=> .inl ((out++(vws m (spl base l).2 (spl base l).1).1).map prV)| some (p,c)=> .inr (p,c)):=by
 refine zgz (fun base l=>∀(out:List Vw) (met:List (Head×Role)),base≤b.length→l=b.drop base→out.length≤base→zky m met→
  zfh b m (out.map prV) met base=some (match (vws m (spl base l).2 (spl base l).1).2 with| none=> .inl ((out++(vws m (spl base l).2 (spl base l).1).1).map prV)| some (p,c)=> .inr (p,c))) ?_ ?_ ?_ base l
 ·intro base out met hbase hl ho hM
  have:b.length≤base:=by have:=congrArg List.length hl;simp at this;omega
  rw [zfm]
  simp only [vws,Option.map_none,List.append_nil]
  refine zhO ?_
  unfold zcc
  rw [itF (by simp;omega)]
 ·intro base l c hl h hc out met hbase hld ho hM
  subst hld
  have hlt:base<b.length:=by have:=List.length_pos_iff.2 hl;simp at this;omega
  rw [zfJ hl h]
  simp only [vws,Option.map_some]
  refine zhO ?_
  unfold zcc
  have e:zed b base=(zrec,c):=by unfold zed;rw [if_neg (by omega),Int.toNat_natCast,h]
  have e2:zdA m b base=(zvw,c):=by unfold zdA;rw [e,if_pos (by simp only;omega)]
  obtain ⟨met',hk,_⟩:=zrl hm hb base hM
  rw [itT (by simp;omega),hk,sb,e2,itT (by simp;omega)]
 ·intro base l n w a t hl h _ g1 g2 g3 ih out met hbase hld ho hM
  subst hld
  simp only [List.length_drop] at g3
  have hlt:base<b.length:=by omega
  rw [zdR hl h]
  have e:zed b base=(⟨n,w,base,(base+a:Nat),(base+t:Nat)⟩,0):=by
   unfold zed;rw [if_neg (by omega),Int.toNat_natCast,h];push_cast;rfl
  rw [vws]
  obtain ⟨met',hk,hM'⟩:=zrl hm hb base hM
  rcases zfi m n w with hv| ⟨hv,_⟩| ⟨i,run,hv,_,hi⟩
  ·have e2:zdA m b base=(zvw,6):=by unfold zdA;rw [e];simp only [ne_eq,not_true_eq_false,if_false,hv]
   simp only [hv]
   refine zhO ?_
   unfold zcc
   rw [itT (by simp;omega),hk,sb,e2,itT (by rfl)]
  ·have e2:zdA m b base=(⟨⟨n,w,base,(base+a:Nat),(base+t:Nat)⟩, -1,false⟩,0):=by unfold zdA;rw [e];simp only [ne_eq,not_true_eq_false,if_false,hv]
   simp only [hv]
   refine (zkK (l':=(out++([⟨⟨n,w,base,(base+a:Nat),(base+t:Nat)⟩, -1,false⟩]:List Vw)).map prV) (met':=met') (fromv':=((base+t:Nat):Int)) ?_).trans ?_
   ·unfold zcc
    rw [itT (by simp;omega),hk,sb,e2,itF (by rfl),zgm (by simp;omega),sb,List.map_append]
    rfl
   ·rw [ih _ met' (by omega) (by rw [List.drop_drop]) (by simp;omega) hM']
    simp only [List.append_assoc,List.singleton_append]
  ·have e2:zdA m b base=(⟨⟨n,w,base,(base+a:Nat),(base+t:Nat)⟩,i,run⟩,0):=by unfold zdA;rw [e];simp only [ne_eq,not_true_eq_false,if_false,hv]
   simp only [hv]
   refine (zkK (l':=(out++([⟨⟨n,w,base,(base+a:Nat),(base+t:Nat)⟩,i,run⟩]:List Vw)).map prV) (met':=met') (fromv':=((base+t:Nat):Int)) ?_).trans ?_
   ·unfold zcc
    rw [itT (by simp;omega),hk,sb,e2,itF (by rfl),zgm (by simp;omega),sb,List.map_append]
    rfl
   ·rw [ih _ met' (by omega) (by rw [List.drop_drop]) (by simp;omega) hM']
    simp only [List.append_assoc,List.singleton_append]
theorem zDv {m:Mes} (hm:m.Fields.length≤1152921504606846976) {b:List UInt8} (hb:b.length≤1048576):zlO m b=some ((zea m b).1.map prV,(zea m b).2.1,(zea m b).2.2):=by
 unfold zlO
 have h:=zAh hm hb 0 b [] [] (Nat.zero_le _) rfl (Nat.le_refl _) (zky.nil m)
 have h':zfh b m [] [] 0=_:=h
 rw [h',sb]
 unfold zea vwR
 cases (vws m (spl 0 b).2 (spl 0 b).1).2 with
 | none=>rfl
 | some p=>rfl
theorem zDq (m:Mes) (b:List UInt8):(zea m b).1.length≤b.length:=by
 rcases zpu m b with ⟨_,hn,e,_⟩| ⟨_,e⟩
 ·have h:=congrArg List.length (zsj hn).2
  rw [List.length_map] at h
  rw [e,h]
  exact zDl 0 b
 ·rw [e];simp
end Go.Proofs.YtcbkcblkecmjnaaGreat
