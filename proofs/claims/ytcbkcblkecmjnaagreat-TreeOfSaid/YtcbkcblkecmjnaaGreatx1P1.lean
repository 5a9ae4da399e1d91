/-
  What the plain functions are. No condition.
-/
import Derived.Test.YtcbkcblkecmjnaaGreatx1S1
import Derived.Test.YtcbkcblkecmjnaaGreatx1K2
namespace Go.Proofs.YtcbkcblkecmjnaaGreat
open Go
def cpN (r:Nat):List Nat:=
 if r<128 then [r] else if r<2048 then [192+r/64,128+r%64]
 else if r<65536 then (if 55296≤r∧r≤57343 then [] else [224+r/4096,128+r/64%64,128+r%64])
 else if r≤1114111 then [240+r/262144,128+r/4096%64,128+r/64%64,128+r%64] else []
def cpB (r:Nat):List UInt8:=(cpN r).map UInt8.ofNat
def cont (c:UInt8):Bool:=decide (128≤c.toNat∧c.toNat<192)
def is1:List UInt8→Bool
 | a::_=>decide (a.toNat<128)
 | _=>false
def is2:List UInt8→Bool
 | a::b::_=>decide (194≤a.toNat∧a.toNat<224∧cont b=true)
 | _=>false
def is3:List UInt8→Bool
 | a::b::c::_=>decide (224≤a.toNat∧a.toNat<240∧cont b=true∧cont c=true∧(a.toNat=224→160≤b.toNat)∧(a.toNat=237→b.toNat<160))
 | _=>false
def is4:List UInt8→Bool
 | a::b::c::d::_=>decide (240≤a.toNat∧a.toNat<245∧cont b=true∧cont c=true∧cont d=true∧(a.toNat=240→144≤b.toNat)∧(a.toNat=244→b.toNat<144))
 | _=>false
def nxt (l:List UInt8):Nat:=if is1 l then 1 else if is2 l then 2 else if is3 l then 3 else if is4 l then 4 else 0
theorem zpj {n:Nat} {c:UInt8} (h:n<256):(UInt8.ofNat n=c)↔n=c.toNat:=by
 constructor
 ·intro e;rw [←e,UInt8.toNat_ofNat'];omega
 ·intro e;rw [e,UInt8.ofNat_toNat]
theorem zDc (r:Int):zfm r=some (if r<0 then [] else cpB r.toNat):=by
 unfold zfm
 by_cases h0:r<0
 ·rw [itT (by simp;omega),if_pos h0]
 ·rw [if_neg h0]
  obtain ⟨n,rfl⟩:∃n:Nat,r=n:=⟨r.toNat,by omega⟩
  rw [Int.toNat_natCast]
  unfold cpB cpN
  by_cases h1:n<128
  ·rw [itF (by simp;omega),itT (by simp;omega),if_pos h1,zrU,zfO (n:=n) (by omega) (by omega)];rfl
  ·rw [if_neg h1]
   by_cases h2:n<2048
   ·rw [itF (by simp;omega),itF (by simp;omega),itT (by simp;omega),if_pos h2]
    simp only [Int.tdiv_eq_ediv_of_nonneg (show (0:Int)≤n by omega),Int.tmod_eq_emod_of_nonneg (show (0:Int)≤n by omega),zrU]
    rw [zz (x:=(n:Int)/64) (by omega),zz (by omega),zz (by omega),zfO (n:=192+n/64) (by omega) (by omega),sb,zfO (n:=128+n%64) (by omega) (by omega)];rfl
   ·rw [if_neg h2]
    by_cases h3:n<65536
    ·rw [if_pos h3]
     by_cases h4:55296≤n∧n≤57343
     ·rw [itT (by simp;omega),if_pos h4];rfl
     ·rw [itF (by simp;omega),itF (by simp;omega),itF (by simp;omega),itT (by simp;omega),if_neg h4]
      simp only [Int.tdiv_eq_ediv_of_nonneg (show (0:Int)≤n by omega),Int.tmod_eq_emod_of_nonneg (show (0:Int)≤n by omega),zrU]
      rw [zz (x:=(n:Int)/4096) (by omega),zz (x:=(n:Int)/64) (by omega),Int.tmod_eq_emod_of_nonneg (by omega),zz (by omega),zz (by omega),zz (by omega),
       zfO (n:=224+n/4096) (by omega) (by omega),sb,zfO (n:=128+n/64%64) (by omega) (by omega),sb,zfO (n:=128+n%64) (by omega) (by omega)];rfl
    ·rw [if_neg h3]
     by_cases h4:n≤1114111
     ·rw [itF (by simp;omega),itF (by simp;omega),itF (by simp;omega),itF (by simp;omega),if_pos h4]
      simp only [Int.tdiv_eq_ediv_of_nonneg (show (0:Int)≤n by omega),Int.tmod_eq_emod_of_nonneg (show (0:Int)≤n by omega),zrU]
      rw [zz (x:=(n:Int)/262144) (by omega),zz (x:=(n:Int)/4096) (by omega),zz (x:=(n:Int)/64) (by omega),Int.tmod_eq_emod_of_nonneg (by omega),Int.tmod_eq_emod_of_nonneg (by omega),zz (by omega),zz (by omega),zz (by omega),zz (by omega),
       zfO (n:=240+n/262144) (by omega) (by omega),sb,zfO (n:=128+n/4096%64) (by omega) (by omega),sb,zfO (n:=128+n/64%64) (by omega) (by omega),sb,zfO (n:=128+n%64) (by omega) (by omega)];rfl
     ·rw [itT (by simp;omega),if_neg h4];rfl
def zsg:Nat→List UInt8→Nat
 | 1,a::_=>a.toNat
 | 2,a::b::_=>64*(a.toNat%32)+b.toNat%64
 | 3,a::b::c::_=>64*(64*(a.toNat%16)+b.toNat%64)+c.toNat%64
 | 4,a::b::c::d::_=>64*(64*(64*(a.toNat%8)+b.toNat%64)+c.toNat%64)+d.toNat%64
 | _,_=>0
theorem map1 {l:List Nat} {a:UInt8} (h:∀x∈l,x<256):l.map UInt8.ofNat=[a]↔l=[a.toNat]:=by
 cases l with
 | nil=>simp
 | cons x l=>cases l with
  | nil=>simp only [List.map_cons,List.map_nil,List.cons.injEq,and_true];exact zpj (h x (by simp))
  | cons y l=>simp
theorem map2 {l:List Nat} {a b:UInt8} (h:∀x∈l,x<256):l.map UInt8.ofNat=[a,b]↔l=[a.toNat,b.toNat]:=by
 cases l with
 | nil=>simp
 | cons x l=>simp only [List.map_cons,List.cons.injEq,zpj (h x (by simp)),map1 (l:=l) fun y hy=>h y (by simp [hy])]
theorem map3 {l:List Nat} {a b c:UInt8} (h:∀x∈l,x<256):l.map UInt8.ofNat=[a,b,c]↔l=[a.toNat,b.toNat,c.toNat]:=by
 cases l with
 | nil=>simp
 | cons x l=>simp only [List.map_cons,List.cons.injEq,zpj (h x (by simp)),map2 (l:=l) fun y hy=>h y (by simp [hy])]
theorem map4 {l:List Nat} {a b c d:UInt8} (h:∀x∈l,x<256):l.map UInt8.ofNat=[a,b,c,d]↔l=[a.toNat,b.toNat,c.toNat,d.toNat]:=by
 cases l with
 | nil=>simp
 | cons x l=>simp only [List.map_cons,List.cons.injEq,zpj (h x (by simp)),map3 (l:=l) fun y hy=>h y (by simp [hy])]
theorem zvs (r:Nat):∀x∈cpN r,x<256:=by
 intro x hx
 unfold cpN at hx
 split at hx
 ·simp at hx;omega
 ·split at hx
  ·simp at hx;omega
  ·split at hx
   ·split at hx
    ·cases hx
    ·simp at hx;omega
   ·split at hx
    ·simp at hx;omega
    ·cases hx
theorem cpB1 (a:UInt8):cpB a.toNat=[a]↔a.toNat<128:=by
 have ha:=a.toNat_lt
 unfold cpB
 rw [map1 (zvs _)]
 unfold cpN
 by_cases h:a.toNat<128
 ·simp [h]
 ·rw [if_neg h,if_pos (by omega)];simp;omega
theorem cpB2 (a b:UInt8):cpB (64*(a.toNat%32)+b.toNat%64)=[a,b]↔194≤a.toNat∧a.toNat<224∧cont b=true:=by
 have ha:=a.toNat_lt
 have hb:=b.toNat_lt
 unfold cpB cont
 rw [map2 (zvs _)]
 unfold cpN
 by_cases h:64*(a.toNat%32)+b.toNat%64<128
 ·rw [if_pos h];simp;omega
 ·rw [if_neg h,if_pos (by omega)];simp;omega
theorem cpB3 (a b c:UInt8):cpB (64*(64*(a.toNat%16)+b.toNat%64)+c.toNat%64)=[a,b,c]↔224≤a.toNat∧a.toNat<240∧cont b=true∧cont c=true∧(a.toNat=224→160≤b.toNat)∧(a.toNat=237→b.toNat<160):=by
 have ha:=a.toNat_lt
 have hb:=b.toNat_lt
 have hc:=c.toNat_lt
 unfold cpB cont
 rw [map3 (zvs _)]
 unfold cpN
 by_cases h:64*(64*(a.toNat%16)+b.toNat%64)+c.toNat%64<128
 ·rw [if_pos h];simp;omega
 ·rw [if_neg h]
  by_cases h2:64*(64*(a.toNat%16)+b.toNat%64)+c.toNat%64<2048
  ·rw [if_pos h2];simp;omega
  ·rw [if_neg h2,if_pos (by omega)]
   by_cases h3:55296≤64*(64*(a.toNat%16)+b.toNat%64)+c.toNat%64∧64*(64*(a.toNat%16)+b.toNat%64)+c.toNat%64≤57343
   ·rw [if_pos h3];simp;omega
   ·rw [if_neg h3];simp;omega
theorem cpB4 (a b c d:UInt8):cpB (64*(64*(64*(a.toNat%8)+b.toNat%64)+c.toNat%64)+d.toNat%64)=[a,b,c,d]↔
  240≤a.toNat∧a.toNat<245∧cont b=true∧cont c=true∧cont d=true∧(a.toNat=240→144≤b.toNat)∧(a.toNat=244→b.toNat<144):=by
 have ha:=a.toNat_lt
 have hb:=b.toNat_lt
 have hc:=c.toNat_lt
 have hd:=d.toNat_lt
 unfold cpB cont
 rw [map4 (zvs _)]
 unfold cpN
 by_cases h:64*(64*(64*(a.toNat%8)+b.toNat%64)+c.toNat%64)+d.toNat%64<65536
 ·have:∀l:List Nat,l.length≤3→(l=[a.toNat,b.toNat,c.toNat,d.toNat])=False:=fun l hl=>by simp only [eq_iff_iff,iff_false];intro e;rw [e] at hl;simp at hl
  rw [if_pos h]
  split
  ·rw [this _ (by simp)];simp;omega
  ·split
   ·rw [this _ (by simp)];simp;omega
   ·split
    ·rw [this _ (by simp)];simp;omega
    ·rw [this _ (by simp)];simp;omega
 ·rw [if_neg (by omega),if_neg (by omega),if_neg h]
  by_cases h2:64*(64*(64*(a.toNat%8)+b.toNat%64)+c.toNat%64)+d.toNat%64≤1114111
  ·rw [if_pos h2];simp;omega
  ·rw [if_neg h2];simp;omega
def isN (n:Nat) (l:List UInt8):Bool:=match n with
 | 1=>is1 l
 | 2=>is2 l
 | 3=>is3 l
 | 4=>is4 l
 | _=>false
theorem zzO (n:Nat) (l:List UInt8) (h1:1≤n) (h4:n≤4) (hl:n≤l.length):cpB (zsg n l)=l.take n↔isN n l=true:=by
 match n,l,h1,h4,hl with
 | 1,a::t,_,_,_=>simp only [zsg,List.take_succ_cons,List.take_zero,cpB1,isN,is1,decide_eq_true_eq]
 | 2,a::b::t,_,_,_=>simp only [zsg,List.take_succ_cons,List.take_zero,cpB2,isN,is2,decide_eq_true_eq]
 | 3,a::b::c::t,_,_,_=>simp only [zsg,List.take_succ_cons,List.take_zero,cpB3,isN,is3,decide_eq_true_eq]
 | 4,a::b::c::d::t,_,_,_=>simp only [zsg,List.take_succ_cons,List.take_zero,cpB4,isN,is4,decide_eq_true_eq]
theorem zzP (n:Nat) (l:List UInt8) (h:l.length<n):isN n l=false:=by
 match n,l with
 | 0,_=>rfl
 | 1,[]=>rfl
 | 2,[]=>rfl
 | 2,[_]=>rfl
 | 3,[]=>rfl
 | 3,[_]=>rfl
 | 3,[_,_]=>rfl
 | 4,[]=>rfl
 | 4,[_]=>rfl
 | 4,[_,_]=>rfl
 | 4,[_,_,_]=>rfl
 | n+5,_=>rfl
 | 1,_::_=>simp at h
 | 2,_::_::_=>simp at h;omega
 | 3,_::_::_::_=>simp at h;omega
 | 4,_::_::_::_::_=>simp at h;omega
theorem zny {b:List UInt8} {a n i r:Nat} (hb:b.length≤1152921504606846976) (hn:n≤4) (h:i<n) (ha:a+i<b.length) (hr:r≤1000000000):
  zbo a b n r i=zbo a b n ((64*r+(b[a+i]).toNat%64:Nat):Int) ((i+1:Nat):Int):=by
 refine zkx ?_
 unfold zbb
 have hc:=(b[a+i]).toNat_lt
 rw [itT (by simp;omega),zz (by omega),zZ (show (a:Int)+i=((a+i:Nat):Int) by push_cast;rfl) ha,sb]
 simp (disch:=omega) only [zz,Int.tmod_eq_emod_of_nonneg]
 push_cast;rfl
theorem zvI {b:List UInt8} {a n i r:Nat} (h:n≤i):zbo a b n r i=some (r:Int):=by
 refine zky ?_
 unfold zbb
 rw [itF (by simp;omega)]
theorem zjl {b:List UInt8} {a i:Nat} {c:UInt8} (h:(b.drop a)[i]? =some c):∃h:a+i<b.length,b[a+i]=c:=by
 rw [List.getElem?_drop] at h
 exact List.getElem?_eq_some_iff.1 h
theorem zGj {b:List UInt8} {a n:Nat} {c:UInt8} {t:List UInt8} (hb:b.length≤1152921504606846976) (hl:b.drop a=c::t) (h1:1≤n) (h4:n≤4) (hn:n≤(b.drop a).length):
  zbo a b n ((if 1<n then c.toNat%([0,0,32,16,8].getD n 0) else c.toNat:Nat):Int) (1:Nat)=some ((zsg n (b.drop a):Nat):Int):=by
 have hc:=c.toNat_lt
 rw [hl] at hn
 match n,t,h1,h4,hn with
 | 1,t,_,_,_=>rw [zvI (by omega),hl];rfl
 | 2,x::t,_,_,_=>
  obtain ⟨g1,e1⟩:=zjl (b:=b) (a:=a) (i:=1) (c:=x) (by rw [hl];rfl)
  rw [if_pos (by omega),zny hb (by omega) (by omega) g1 (by simp;omega),zvI (by omega),hl,e1];rfl
 | 3,x::y::t,_,_,_=>
  obtain ⟨g1,e1⟩:=zjl (b:=b) (a:=a) (i:=1) (c:=x) (by rw [hl];rfl)
  obtain ⟨g2,e2⟩:=zjl (b:=b) (a:=a) (i:=2) (c:=y) (by rw [hl];rfl)
  have hx:=x.toNat_lt
  rw [if_pos (by omega),zny hb (by omega) (by omega) g1 (by simp;omega),zny hb (by omega) (by omega) g2 (by simp;omega),zvI (by omega),hl,e1,e2];rfl
 | 4,x::y::z::t,_,_,_=>
  obtain ⟨g1,e1⟩:=zjl (b:=b) (a:=a) (i:=1) (c:=x) (by rw [hl];rfl)
  obtain ⟨g2,e2⟩:=zjl (b:=b) (a:=a) (i:=2) (c:=y) (by rw [hl];rfl)
  obtain ⟨g3,e3⟩:=zjl (b:=b) (a:=a) (i:=3) (c:=z) (by rw [hl];rfl)
  have hx:=x.toNat_lt
  have hy:=y.toNat_lt
  rw [if_pos (by omega),zny hb (by omega) (by omega) g1 (by simp;omega),zny hb (by omega) (by omega) g2 (by simp;omega),zny hb (by omega) (by omega) g3 (by simp;omega),zvI (by omega),hl,e1,e2,e3];rfl
theorem zFb {b:List UInt8} {a n:Nat} (hb:b.length≤1152921504606846976) (ha:a≤b.length) (h1:1≤n) (h5:n≤5):
  zba a b n=if isN n (b.drop a) then some (.inr (.inr (n:Int))) else if n≤4∧n≤(b.drop a).length then some (.inl ((n+1:Nat):Int)) else some (.inr (.inl ())):=by
 have hdl:(b.drop a).length=b.length - a:=by simp
 unfold zba
 by_cases h:n≤4∧n≤(b.drop a).length
 ·rw [if_pos h,zz (by omega),itT (by simp;omega)]
  obtain ⟨c,t,hl⟩:∃c t,b.drop a=c::t:=by
   cases hh:b.drop a with
   | nil=>rw [hh] at h;simp at h;omega
   | cons c t=>exact ⟨c,t,rfl⟩
  obtain ⟨g0,e0⟩:=zjl (b:=b) (a:=a) (i:=0) (c:=c) (by rw [hl];rfl)
  have hc:=c.toNat_lt
  rw [zZ rfl (show a<b.length by omega),sb]
  have e0':b[a]'(by omega)=c:=by simpa using e0
  rw [e0',zz (by omega)]
  have hp:(if (decide ((n:Int)>1))=true then (idx ([0,0,32,16,8]:(List Int)) (n:Int)>>=fun x2=>remI (c.toNat:Int) x2>>=fun v3=>some v3) else some (c.toNat:Int))=some (((if 1<n then c.toNat%([0,0,32,16,8].getD n 0) else c.toNat:Nat)):Int):=by
   match n,h1,h.1 with
   | 1,_,_=>rfl
   | 2,_,_=>rfl
   | 3,_,_=>rfl
   | 4,_,_=>rfl
  rw [hp,sb]
  have h2:=zGj hb hl h1 h.1 h.2
  have h2':zbo a b n ((if 1<n then c.toNat%([0,0,32,16,8].getD n 0) else c.toNat:Nat):Int) 1=some ((zsg n (b.drop a):Nat):Int):=h2
  rw [h2',sb,zDc,sb,if_neg (by omega),Int.toNat_natCast,zfY rfl (show (a:Int)+n=((a+n:Nat):Int) by push_cast;rfl) (by omega) (by omega),sb,Nat.add_sub_cancel_left]
  by_cases hi:isN n (b.drop a)=true
  ·rw [if_pos hi,itT (by simpa using (zzO n _ h1 h.1 h.2).2 hi)]
  ·rw [if_neg hi,itF (by simpa using fun e=>hi ((zzO n _ h1 h.1 h.2).1 e)),zz (by omega)];rfl
 ·have hn:isN n (b.drop a)=false:=by
   by_cases h4:n≤4
   ·exact zzP _ _ (by omega)
   ·have:n=5:=by omega
    subst this;rfl
  rw [if_neg h,hn,zz (by omega),itF (by simp;omega)];rfl
theorem zta {b:List UInt8} {a:Nat} (hb:b.length≤1152921504606846976) (ha:a≤b.length):zeP b a=some ((nxt (b.drop a):Nat):Int):=by
 have key:∀(k n:Nat),n+k=5→1≤n→(∀j,1≤j→j<n→isN j (b.drop a)=false)→∃q,zcF a b n=some q∧(match q with| .inl _=>(0:Int)| .inr u=>u)=((nxt (b.drop a):Nat):Int):=by
  intro k
  induction k with
  | zero=>
   intro n hn h1 hj
   have:n=5:=by omega
   subst this
   refine ⟨.inl (),zfe ?_,?_⟩
   ·rw [zFb hb ha h1 (by omega),if_neg (by simp [isN]),if_neg (by omega)]
   ·have j1:=hj 1 (by omega) (by omega)
    have j2:=hj 2 (by omega) (by omega)
    have j3:=hj 3 (by omega) (by omega)
    have j4:=hj 4 (by omega) (by omega)
    simp only [isN] at j1 j2 j3 j4
    simp [nxt,j1,j2,j3,j4]
  | succ k ih=>
   intro n hn h1 hj
   have hb1:=zFb hb ha h1 (show n≤5 by omega)
   by_cases hi:isN n (b.drop a)=true
   ·rw [if_pos hi] at hb1
    refine ⟨.inr n,zfe hb1,?_⟩
    have e:nxt (b.drop a)=n:=by
     match n,h1,(show n≤4 by omega),hi,hj with
     | 1,_,_,hi,_=>simp only [isN] at hi;simp [nxt,hi]
     | 2,_,_,hi,hj=>have j1:=hj 1 (by omega) (by omega);simp only [isN] at hi j1;simp [nxt,hi,j1]
     | 3,_,_,hi,hj=>have j1:=hj 1 (by omega) (by omega);have j2:=hj 2 (by omega) (by omega);simp only [isN] at hi j1 j2;simp [nxt,hi,j1,j2]
     | 4,_,_,hi,hj=>have j1:=hj 1 (by omega) (by omega);have j2:=hj 2 (by omega) (by omega);have j3:=hj 3 (by omega) (by omega);simp only [isN] at hi j1 j2 j3;simp [nxt,hi,j1,j2,j3]
    simp only [e]
   ·rw [if_neg hi] at hb1
    by_cases hl:n≤4∧n≤(b.drop a).length
    ·rw [if_pos hl] at hb1
     obtain ⟨q,h2,h3⟩:=ih (n+1) (by omega) (by omega) fun j g1 g2=>by
      by_cases he:j=n
      ·subst he;simpa using hi
      ·exact hj j g1 (by omega)
     exact ⟨q,(zkw hb1).trans h2,h3⟩
    ·rw [if_neg hl] at hb1
     refine ⟨.inl (),zfe hb1,?_⟩
     have hall:∀j,1≤j→isN j (b.drop a)=false:=fun j g1=>by
      by_cases g2:j<n
      ·exact hj j g1 g2
      ·by_cases g3:j≤4
       ·exact zzP _ _ (by omega)
       ·match j,g3 with
        | j+5,_=>rfl
     have j1:=hall 1 (by omega)
     have j2:=hall 2 (by omega)
     have j3:=hall 3 (by omega)
     have j4:=hall 4 (by omega)
     simp only [isN] at j1 j2 j3 j4
     simp [nxt,j1,j2,j3,j4]
 obtain ⟨q,h1,h2⟩:=key 4 1 rfl (by omega) fun j g1 g2=>by omega
 unfold zeP
 have h1':zcF a b 1=some q:=h1
 rw [h1',sb,←h2]
 cases q<;>rfl
theorem zjn {n:Nat} {l:List UInt8} (h:isN n l=true):∃a t,l=a::t∧n≤l.length∧(n=1∧a.toNat<128∨n=2∧194≤a.toNat∧a.toNat<224∨n=3∧224≤a.toNat∧a.toNat<240∨n=4∧240≤a.toNat):=by
 match n,l with
 | 1,a::t=>simp only [isN,is1,decide_eq_true_eq] at h;exact ⟨a,t,rfl,by simp,.inl ⟨rfl,h⟩⟩
 | 2,a::b::t=>simp only [isN,is2,decide_eq_true_eq] at h;exact ⟨a,_,rfl,by simp,.inr (.inl ⟨rfl,h.1,h.2.1⟩)⟩
 | 3,a::b::c::t=>simp only [isN,is3,decide_eq_true_eq] at h;exact ⟨a,_,rfl,by simp,.inr (.inr (.inl ⟨rfl,h.1,h.2.1⟩))⟩
 | 4,a::b::c::d::t=>simp only [isN,is4,decide_eq_true_eq] at h;exact ⟨a,_,rfl,by simp,.inr (.inr (.inr ⟨rfl,h.1⟩))⟩
 | 0,_=>cases h
 | 1,[]=>cases h
 | 2,[]=>cases h
 | 2,[_]=>cases h
 | 3,[]=>cases h
 | 3,[_]=>cases h
 | 3,[_,_]=>cases h
 | 4,[]=>cases h
 | 4,[_]=>cases h
 | 4,[_,_]=>cases h
 | 4,[_,_,_]=>cases h
 | _+5,_=>cases h
theorem zEf {n m:Nat} {l:List UInt8} (h:isN n l=true) (h':isN m l=true):n=m:=by
 obtain ⟨a,t,e,_,g⟩:=zjn h
 obtain ⟨a',t',e',_,g'⟩:=zjn h'
 rw [e] at e'
 cases e'
 omega
theorem zFF {n:Nat} {l:List UInt8} (h:isN n l=true):nxt l=n:=by
 obtain ⟨_,_,_,_,g⟩:=zjn h
 have k:∀m,m≠n→isN m l=false:=fun m hm=>by
  cases hh:isN m l with
  | false=>rfl
  | true=>exact absurd (zEf hh h) hm
 have hn:n=1∨n=2∨n=3∨n=4:=by omega
 rcases hn with rfl| rfl| rfl| rfl
 ·simp only [isN] at h;simp [nxt,h]
 ·have j1:=k 1 (by omega);simp only [isN] at h j1;simp [nxt,h,j1]
 ·have j1:=k 1 (by omega);have j2:=k 2 (by omega);simp only [isN] at h j1 j2;simp [nxt,h,j1,j2]
 ·have j1:=k 1 (by omega);have j2:=k 2 (by omega);have j3:=k 3 (by omega);simp only [isN] at h j1 j2 j3;simp [nxt,h,j1,j2,j3]
theorem zrN {l:List UInt8} (h:nxt l≠0):isN (nxt l) l=true:=by
 unfold nxt at h⊢
 by_cases h1:is1 l=true
 ·simp [h1,isN]
 ·by_cases h2:is2 l=true
  ·simp [h1,h2,isN]
  ·by_cases h3:is3 l=true
   ·simp [h1,h2,h3,isN]
   ·by_cases h4:is4 l=true
    ·simp [h1,h2,h3,h4,isN]
    ·simp [h1,h2,h3,h4] at h
theorem zoA (l:List UInt8):nxt l≤l.length:=by
 by_cases h:nxt l=0
 ·omega
 ·obtain ⟨_,_,_,g,_⟩:=zjn (zrN h);exact g
theorem zvS (l:List UInt8):nxt l≤4:=by
 by_cases h:nxt l=0
 ·omega
 ·obtain ⟨_,_,_,_,g⟩:=zjn (zrN h);omega
def fst4 (m:Int) (l:List UInt8):Nat×Nat:=
 if h:nxt l=0∨(nxt l:Int)>m then (0,0) else (nxt l+(fst4 (m - nxt l) (l.drop (nxt l))).1,(fst4 (m - nxt l) (l.drop (nxt l))).2+1)
termination_by l.length
decreasing_by all_goals (have:=zoA l;simp only [List.length_drop];omega)
theorem znv {m:Int} {l:List UInt8} (h:nxt l=0∨(nxt l:Int)>m):fst4 m l=(0,0):=by rw [fst4,dif_pos h]
theorem zrD {m:Int} {l:List UInt8} (h:¬(nxt l=0∨(nxt l:Int)>m)):fst4 m l=(nxt l+(fst4 (m - nxt l) (l.drop (nxt l))).1,(fst4 (m - nxt l) (l.drop (nxt l))).2+1):=by rw [fst4,dif_neg h]
theorem zCj (P:Int→List UInt8→Prop) (h0:∀m l,(nxt l=0∨(nxt l:Int)>m)→P m l) (h1:∀m l,¬(nxt l=0∨(nxt l:Int)>m)→P (m - nxt l) (l.drop (nxt l))→P m l) (m:Int) (l:List UInt8):P m l:=by
 generalize hn:l.length=n
 induction n using Nat.strongRecOn generalizing m l with
 | _ n ih=>
  by_cases h:nxt l=0∨(nxt l:Int)>m
  ·exact h0 m l h
  ·have:=zoA l
   exact h1 m l h (ih _ (by simp only [List.length_drop];omega) _ _ rfl)
theorem ztV {b:List UInt8} (hb:b.length≤140737488355328) (most:Int) (m:Int) (l:List UInt8):∀(a c:Nat),c≤a→a≤b.length→l=b.drop a→m=most - a→
  zbQ b most a c=some (((a+(fst4 m l).1:Nat):Int),((c+(fst4 m l).2:Nat):Int)):=by
 refine zCj (fun m l=>∀(a c:Nat),c≤a→a≤b.length→l=b.drop a→m=most - a→zbQ b most a c=some (((a+(fst4 m l).1:Nat):Int),((c+(fst4 m l).2:Nat):Int))) ?_ ?_ m l
 ·intro m l h a c hc ha hl hm
  subst hl hm
  have h4:=zvS (b.drop a)
  refine zjK ?_
  unfold zaQ
  rw [zta (by omega) ha,sb,zz (by omega),itT (by simp;omega),znv h];rfl
 ·intro m l h ih a c hc ha hl hm
  subst hl hm
  have h4:=zvS (b.drop a)
  have hle:=zoA (b.drop a)
  simp only [List.length_drop] at hle
  refine (zjJ (atv':=((a+nxt (b.drop a):Nat):Int)) (count':=((c+1:Nat):Int)) ?_).trans ?_
  ·unfold zaQ
   rw [zta (by omega) ha,sb,zz (by omega),itF (by simp;omega),zz (by omega)];rfl
  ·rw [ih (a+nxt (b.drop a)) (c+1) (by omega) (by omega) (by rw [List.drop_drop]) (by omega),zrD h]
   simp only [Nat.add_assoc,Nat.add_comm 1]
theorem zxJ {b:List UInt8} (hb:b.length≤140737488355328) (most:Int):zem b most=some (((fst4 most b).1:Int),((fst4 most b).2:Int)):=by
 unfold zem
 have h:=ztV hb most most b 0 0 (Nat.le_refl _) (Nat.zero_le _) rfl (by omega)
 simp only [Nat.zero_add] at h
 have h':zbQ b most 0 0=some (((fst4 most b).1:Int),((fst4 most b).2:Int)):=h
 rw [h',sb]
def pre4 (l:List UInt8):Nat×Nat:=fst4 l.length l
theorem zCi {m:Int} {l:List UInt8} (h:(l.length:Int)≤m):fst4 m l=pre4 l:=by
 have key:∀(n:Nat) (l:List UInt8) (m m':Int),l.length=n→(l.length:Int)≤m→(l.length:Int)≤m'→fst4 m l=fst4 m' l:=by
  intro n
  induction n using Nat.strongRecOn with
  | _ n ih=>
   intro l m m' hn hm hm'
   have hle:=zoA l
   by_cases h:nxt l=0
   ·rw [znv (.inl h),znv (.inl h)]
   ·rw [zrD (m:=m) (l:=l) (by omega),zrD (m:=m') (l:=l) (by omega),ih _ (by simp only [List.length_drop];omega) (l.drop (nxt l)) (m - nxt l) (m' - nxt l) rfl (by simp only [List.length_drop];omega) (by simp only [List.length_drop];omega)]
 exact key _ l m l.length rfl h (Int.le_refl _)
theorem zBc {l:List UInt8} (h:nxt l=0):pre4 l=(0,0):=znv (.inl h)
theorem zEB {l:List UInt8} (h:nxt l≠0):pre4 l=(nxt l+(pre4 (l.drop (nxt l))).1,(pre4 (l.drop (nxt l))).2+1):=by
 have hle:=zoA l
 unfold pre4
 rw [zrD (by omega),zCi (m:=(l.length:Int) - nxt l) (by simp only [List.length_drop];omega)]
 rfl
theorem zCZ (P:List UInt8→Prop) (h0:∀l,nxt l=0→P l) (h1:∀l,nxt l≠0→P (l.drop (nxt l))→P l) (l:List UInt8):P l:=by
 generalize hn:l.length=n
 induction n using Nat.strongRecOn generalizing l with
 | _ n ih=>
  by_cases h:nxt l=0
  ·exact h0 l h
  ·have:=zoA l
   exact h1 l h (ih _ (by simp only [List.length_drop];omega) _ rfl)
def zfG (l:List UInt8):Bool:=decide ((pre4 l).1=l.length)
theorem zwb {b:List UInt8} (hb:b.length≤140737488355328):zcz b=some (zfG b):=by
 unfold zcz
 rw [zxJ hb,sb]
 unfold zfG pre4
 by_cases h:(fst4 (b.length:Int) b).1=b.length
 ·simp [h]
 ·have h2:¬(((fst4 (b.length:Int) b).1:Int)=b.length):=by omega
  simp [h,h2]
theorem zxK {b:List UInt8} (hb:b.length≤1048576):zcz b=some (zfG b):=zwb (by omega)
end Go.Proofs.YtcbkcblkecmjnaaGreat
namespace Go.Proofs.YtcbkcblkecmjnaaGreat
open Go
def enc (v:Nat):List UInt8:=if v<128 then [UInt8.ofNat v] else UInt8.ofNat (128+v%128)::enc (v/128)
termination_by v
decreasing_by omega
def scan:Nat→Nat→List UInt8→Unit⊕(Int×Int×Int)
 | _,_,[]=> .inl ()
 | i,acc,c::t=>if i=9∧1<c.toNat then .inr (0,0,4) else if c.toNat<128 then .inr (((acc+c.toNat%128*128^i:Nat):Int),((i+1:Nat):Int),0) else scan (i+1) (acc+c.toNat%128*128^i) t
def rdR:Unit⊕(Int×Int×Int)→Int×Int×Int
 | .inl _=>(0,0,3)
 | .inr r=>r
def rd (b:List UInt8):Int×Int×Int:=rdR (scan 0 0 (b.take 10))
def hor:List UInt8→Nat
 | []=>0
 | c::t=>c.toNat%128+128*hor t
def lead:Nat→List UInt8→Nat
 | 0,_=>0
 | _+1,[]=>0
 | k+1,c::t=>if 128≤c.toNat then lead k t+1 else 0
theorem zFh (i:Nat):2^(7*i)=128^i:=by rw [Nat.pow_mul]
theorem zDV (c:Nat):c&&&127=c%128:=Nat.and_two_pow_sub_one_eq_mod c 7
theorem zBf {acc i c:Nat} (hi:i≤9) (hacc:acc<128^i) (hc:c<256) (h9:i=9→c≤1):
  orI .u64 (acc:Int) (shlI .u64 (IntKind.u64.wrap (andI .u8 (c:Int) 127)) ((7*i:Nat):Int))=((acc+c%128*128^i:Nat):Int):=by
 have e1:andI .u8 (c:Int) 127=((c%128:Nat):Int):=by
  have:=zwE (k:= .u8) rfl (a:=c) (b:=127) (by simpa [IntKind.bits] using hc) (by simp [IntKind.bits])
  rw [zDV] at this;exact this
 have hp:128^i≤128^9:=Nat.pow_le_pow_right (by omega) hi
 have hlt:c%128*128^i<18446744073709551616:=by
  by_cases h:i=9
  ·subst h
   have:=h9 rfl
   have h2:c%128≤1:=by omega
   have:=Nat.mul_le_mul_right (128^9) h2
   omega
  ·have h3:128^i≤128^8:=Nat.pow_le_pow_right (by omega) (by omega)
   have:=Nat.mul_le_mul (show c%128≤127 by omega) h3
   omega
 have e2:shlI .u64 (IntKind.u64.wrap ((c%128:Nat):Int)) ((7*i:Nat):Int)=((c%128*128^i:Nat):Int):=by
  unfold shlI
  rw [zpO rfl (by simp [IntKind.bits];omega),Int.toNat_natCast,Nat.min_eq_left (by simp [IntKind.bits];omega)]
  have h4:((c%128:Nat):Int)*2^(7*i)=((c%128*128^i:Nat):Int):=by rw [←zFh];push_cast;rfl
  rw [h4]
  exact zpO rfl (by simpa [IntKind.bits] using hlt)
 rw [e1,e2,zAk rfl (by simp [IntKind.bits];omega) (by simpa [IntKind.bits] using hlt)]
 congr 1
 rw [←zFh] at hacc⊢
 exact zxw _ _ _ hacc
theorem zBe:∀(t:List UInt8) (v:List UInt8) (i acc:Nat),v.drop i=t→i+t.length=v.length→v.length≤10→acc<128^i→zfs v acc i=some (scan i acc t):=by
 intro t
 induction t with
 | nil=>
  intro v i acc _ hl _ _
  refine zgV ?_
  unfold zca
  rw [itF (by simp at hl⊢;omega)]
  rfl
 | cons c t ih=>
  intro v i acc hd hl hv hacc
  simp only [List.length_cons] at hl
  have hget:v[i]'(by omega)=c:=by
   have h1:v.drop i=v[i]'(by omega)::v.drop (i+1):=List.drop_eq_getElem_cons (by omega)
   rw [hd] at h1;exact (List.cons.inj h1).1.symm
  have hd':v.drop (i+1)=t:=by rw [←List.drop_drop,hd];rfl
  have hc:=c.toNat_lt
  have hb:zca v acc i=if i=9∧1<c.toNat then some (.inr (.inr (0,0,4))) else if c.toNat<128 then some (.inr (.inr (((acc+c.toNat%128*128^i:Nat):Int),((i+1:Nat):Int),0))) else some (.inl (((acc+c.toNat%128*128^i:Nat):Int),((i+1:Nat):Int))):=by
   unfold zca
   rw [itT (by simp;omega),zZ rfl (show i<v.length by omega),sb,hget]
   by_cases h9:i=9∧1<c.toNat
   ·rw [if_pos h9,itT (by simp;omega)]
   ·rw [if_neg h9,itF (by simp;omega),zz (by omega)]
    have e:((7:Int)*(i:Int))=((7*i:Nat):Int):=by push_cast;rfl
    rw [e,zxR,sb,zBf (by omega) hacc (by omega) (by omega),zz (by omega)]
    by_cases h8:c.toNat<128
    ·rw [if_pos h8,itT (by simp;omega)];push_cast;rfl
    ·rw [if_neg h8,itF (by simp;omega)];push_cast;rfl
  rw [scan]
  split at hb
  ·rename_i h9;rw [if_pos h9];exact zgV hb
  ·rename_i h9
   rw [if_neg h9]
   split at hb
   ·rename_i h8;rw [if_pos h8];exact zgV hb
   ·rename_i h8
    rw [if_neg h8,zoO hb]
    refine ih v (i+1) _ hd' (by omega) hv ?_
    rw [Nat.pow_succ]
    have:=Nat.mul_le_mul_right (128^i) (show c.toNat%128≤127 by omega)
    omega
theorem zrR (b:List UInt8):zfA b=some (rd b):=by
 unfold zfA rd
 have e:(if (10:Int)<(b.length:Int) then (10:Int) else (b.length:Int))=((min 10 b.length:Nat):Int):=by split<;>omega
 have e2:b.take (min 10 b.length)=b.take 10:=by rw [List.take_eq_take_iff];omega
 rw [e,zoU rfl (by omega),sb,e2]
 have h:=zBe (b.take 10) (b.take 10) 0 0 rfl (by simp) (by simp;omega) (by simp)
 have h':zfs (b.take 10) 0 0=some (scan 0 0 (b.take 10)):=h
 rw [h',sb]
 cases scan 0 0 (b.take 10)<;>rfl
theorem zAr (b:List UInt8):zhd b=some ((rd b).2.1,(rd b).2.2):=by unfold zhd;rw [zrR,sb]
theorem zvK:∀(k:Nat) (l:List UInt8),lead k l≤k∧lead k l≤l.length
 | 0,_=>⟨Nat.le_refl _,Nat.zero_le _⟩
 | _+1,[]=>⟨Nat.zero_le _,Nat.le_refl _⟩
 | k+1,c::t=>by
  have:=zvK k t
  rw [lead];split<;>simp<;>omega
theorem zuT:∀(l:List UInt8) (i acc:Nat),i+l.length≤10→i≤9→
  scan i acc l=if i+lead (10 - i) l=10 then .inr (0,0,4) else if lead (10 - i) l=l.length then .inl () else if i+lead (10 - i) l=9∧1<(l.getD (lead (10 - i) l) 0).toNat then .inr (0,0,4) else
   .inr (((acc+hor (l.take (lead (10 - i) l+1))*128^i:Nat):Int),((i+lead (10 - i) l+1:Nat):Int),0):=by
 intro l
 induction l with
 | nil=>
  intro i acc _ hi
  obtain ⟨k,hk⟩:∃k,10 - i=k+1:=⟨9 - i,by omega⟩
  rw [hk]
  simp only [lead,scan,List.length_nil]
  rw [if_neg (by omega),if_pos trivial]
 | cons c t ih=>
  intro i acc hl hi
  obtain ⟨k,hk⟩:∃k,10 - i=k+1:=⟨9 - i,by omega⟩
  simp only [List.length_cons] at hl
  rw [scan]
  by_cases hc:128≤c.toNat
  ·have e:lead (10 - i) (c::t)=lead k t+1:=by rw [hk,lead,if_pos hc]
   rw [e]
   by_cases h9:i=9
   ·have:k=0:=by omega
    subst this
    rw [if_pos ⟨h9,by omega⟩,lead,if_pos (by omega)]
   ·rw [if_neg (by omega),if_neg (by omega),ih (i+1) _ (by omega) (by omega),show 10 - (i+1)=k by omega]
    by_cases h1:i+1+lead k t=10
    ·rw [if_pos h1,if_pos (show i+(lead k t+1)=10 by omega)]
    ·rw [if_neg h1,if_neg (show ¬i+(lead k t+1)=10 by omega)]
     by_cases h2:lead k t=t.length
     ·rw [if_pos h2,if_pos (show lead k t+1=(c::t).length by simp;omega)]
     ·rw [if_neg h2,if_neg (show ¬lead k t+1=(c::t).length by simp;omega)]
      have eg:(c::t).getD (lead k t+1) 0=t.getD (lead k t) 0:=by simp [List.getD]
      rw [eg]
      by_cases h3:i+1+lead k t=9∧1<(t.getD (lead k t) 0).toNat
      ·rw [if_pos h3,if_pos (show i+(lead k t+1)=9∧1<(t.getD (lead k t) 0).toNat by omega)]
      ·rw [if_neg h3,if_neg (show ¬(i+(lead k t+1)=9∧1<(t.getD (lead k t) 0).toNat) by omega)]
       rw [List.take_succ_cons,hor,Nat.pow_succ]
       have e5:acc+c.toNat%128*128^i+hor (t.take (lead k t+1))*(128^i*128)=acc+(c.toNat%128+128*hor (t.take (lead k t+1)))*128^i:=by
        rw [Nat.add_mul,Nat.mul_assoc 128,Nat.mul_comm (128^i) 128,←Nat.mul_assoc,Nat.mul_comm _ 128,Nat.mul_assoc];omega
       rw [e5]
       congr 3
       omega
  ·have e:lead (10 - i) (c::t)=0:=by rw [hk,lead,if_neg hc]
   rw [e]
   simp only [Nat.add_zero,List.length_cons,List.getD_cons_zero]
   rw [if_neg (show ¬i=10 by omega),if_neg (show ¬0=t.length+1 by omega)]
   by_cases h9:i=9∧1<c.toNat
   ·rw [if_pos h9,if_pos h9]
   ·rw [if_neg h9,if_neg h9,if_pos (show c.toNat<128 by omega)]
    simp [hor]
theorem zsv (x y:List UInt8):hor (x++y)=hor x+128^x.length*hor y:=by
 induction x with
 | nil=>simp [hor]
 | cons c t ih=>simp only [List.cons_append,hor,ih,List.length_cons,Nat.pow_succ,Nat.mul_add];rw [Nat.mul_comm (128^t.length) 128,Nat.mul_assoc];omega
theorem zyD (l:List UInt8):hor l<128^l.length:=by
 induction l with
 | nil=>simp [hor]
 | cons c t ih=>simp only [hor,List.length_cons,Nat.pow_succ];omega
theorem zCl (l:List UInt8) (j:Nat):hor (l.drop j)≤hor l:=by
 induction l generalizing j with
 | nil=>simp
 | cons c t ih=>
  cases j with
  | zero=>exact Nat.le_refl _
  | succ j=>have:=ih j;simp only [List.drop_succ_cons,hor];omega
theorem zBh (b:List UInt8) (a:Nat) (hb:b.length≤1152921504606846976):∀(k n:Nat),n+k=10→a+n≤b.length→zcC a b n=some ((n+lead k (b.drop (a+n)):Nat):Int):=by
 intro k
 induction k with
 | zero=>
  intro n hn ha
  refine zfd ?_
  unfold zaA
  rw [zz (by omega)]
  by_cases h1:a+n<b.length
  ·rw [itT (by simp;omega),itF (by simp;omega),sb,itF (by rfl)];rfl
  ·rw [itF (by simp;omega),sb,itF (by rfl)];rfl
 | succ k ih=>
  intro n hn ha
  by_cases h1:a+n<b.length
  ·have hd:b.drop (a+n)=b[a+n]::b.drop (a+(n+1)):=List.drop_eq_getElem_cons h1
   have hbody:zaA a b n=if 128≤b[a+n].toNat then some (.inl ((n+1:Nat):Int)) else some (.inr (n:Int)):=by
    unfold zaA
    rw [zz (by omega),zz (by omega),itT (by simp;omega),itT (by simp;omega),zZ (show (a:Int)+n=((a+n:Nat):Int) by push_cast;rfl) h1,sb,sb]
    by_cases h2:128≤b[a+n].toNat
    ·rw [if_pos h2,itT (by simp;omega)];push_cast;rfl
    ·rw [if_neg h2,itF (by simp;omega)]
   rw [hd,lead]
   by_cases h2:128≤b[a+n].toNat
   ·rw [if_pos h2] at hbody⊢
    rw [zks hbody,ih (n+1) (by omega) (by omega)]
    congr 2;omega
   ·rw [if_neg h2] at hbody⊢
    exact zfd hbody
  ·have hd:b.drop (a+n)=[]:=List.drop_eq_nil_of_le (by omega)
   rw [hd]
   refine zfd ?_
   unfold zaA
   rw [zz (by omega),itF (by simp;omega),sb,itF (by rfl)];rfl
theorem zBi (b:List UInt8) (a m:Nat) (hb:b.length≤1152921504606846976) (hm:a+m≤b.length) (hh:hor ((b.drop a).take m)<18446744073709551616):
  ∀(j:Nat),j≤m→zcD a b (hor (((b.drop a).take m).drop j)) ((j:Int) - 1)=some ((hor ((b.drop a).take m):Nat):Int):=by
 intro j
 induction j with
 | zero=>
  intro _
  refine zku ?_
  unfold zaZ
  rw [itF (by simp)];rfl
 | succ j ih=>
  intro hj
  have hL:((b.drop a).take m).length=m:=by simp;omega
  have hd:((b.drop a).take m).drop j=((b.drop a).take m)[j]'(by omega)::((b.drop a).take m).drop (j+1):=List.drop_eq_getElem_cons (by omega)
  have hc:((b.drop a).take m)[j]'(by omega)=b[a+j]'(by omega):=by simp
  have h1:=zCl ((b.drop a).take m) j
  rw [hd,hor,hc] at h1
  have h2:=(b[a+j]'(by omega)).toNat_lt
  refine (zkt (wv':=(hor (((b.drop a).take m).drop j):Nat)) (i':=(j:Int) - 1) ?_).trans (ih (by omega))
  unfold zaZ
  rw [itT (by simp),zz (by omega),zZ (show (a:Int)+(((j+1:Nat):Int) - 1)=((a+j:Nat):Int) by push_cast;omega) (by omega),sb,zz (by omega),hd,hor,hc]
  simp only [wrap_u64]
  rw [Int.tmod_eq_emod_of_nonneg (by omega)]
  congr 3
  ·omega
  ·push_cast;omega
theorem zDF {n C X:Nat} (hn:n≤9) (hC:C<256) (h9:¬(n=9∧1<C)) (hX:X<128^n):X+128^n*(C%128)<18446744073709551616:=by
 by_cases h9':n=9
 ·subst h9'
  have:C%128≤1:=by omega
  have:=Nat.mul_le_mul_left (128^9) this
  omega
 ·have h5:128^n≤128^8:=Nat.pow_le_pow_right (by omega) (by omega)
  have h6:C%128≤127:=by omega
  have:=Nat.mul_le_mul h5 h6
  omega
theorem zoF (b:List UInt8) (a:Nat) (hb:b.length≤1152921504606846976) (ha:a≤b.length):zbc b a=some (rd (b.drop a)):=by
 unfold zbc
 have h1:=zBh b a hb 10 0 rfl (by omega)
 simp only [Nat.zero_add,Nat.add_zero] at h1
 have h1':zcC a b 0=some ((lead 10 (b.drop a):Nat):Int):=h1
 rw [h1',sb]
 have hle:=zvK 10 (b.drop a)
 have hlen:(b.drop a).length=b.length - a:=by simp
 -- the ten bytes that count
 have htake:∀(k:Nat) (l:List UInt8),lead k (l.take k)=lead k l:=by
  intro k
  induction k with
  | zero=>intro l;rfl
  | succ k ih=>intro l;cases l with
   | nil=>rfl
   | cons c t=>simp only [List.take_succ_cons,lead,ih]
 have hs:=zuT ((b.drop a).take 10) 0 0 (by simp;omega) (by omega)
 simp only [Nat.zero_add,Nat.sub_zero,htake,Nat.pow_zero,Nat.mul_one] at hs
 unfold rd
 rw [hs]
 by_cases h10:lead 10 (b.drop a)=10
 ·rw [if_pos h10,itT (by simp;omega)];rfl
 ·rw [if_neg h10,itF (by simp;omega),zz (by omega)]
  by_cases hl:lead 10 (b.drop a)=(b.drop a).length
  ·rw [if_pos (show lead 10 (b.drop a)=((b.drop a).take 10).length by rw [List.length_take];omega),itT (by simp;omega)];rfl
  ·rw [if_neg (show ¬lead 10 (b.drop a)=((b.drop a).take 10).length by rw [List.length_take];omega),itF (by simp;omega)]
   have hlt:a+lead 10 (b.drop a)<b.length:=by omega
   have hg:((b.drop a).take 10).getD (lead 10 (b.drop a)) 0=b[a+lead 10 (b.drop a)]:=by
    rw [List.getD_eq_getElem?_getD,List.getElem?_take,if_pos (by omega),List.getElem?_drop,List.getElem?_eq_getElem hlt];rfl
   rw [hg,List.take_take,Nat.min_eq_left (by omega)]
   have hc:=(b[a+lead 10 (b.drop a)]).toNat_lt
   have hg2:(if (((lead 10 (b.drop a):Nat):Int)==9)=true then (idx b ((a:Int)+((lead 10 (b.drop a):Nat):Int))>>=fun x2=>some (decide ((x2.toNat:Int)>1))) else some false)=some (decide (lead 10 (b.drop a)=9∧1<(b[a+lead 10 (b.drop a)]).toNat)):=by
    by_cases h9:lead 10 (b.drop a)=9
    ·rw [itT (by simp;omega),zZ (show (a:Int)+((lead 10 (b.drop a):Nat):Int)=((a+lead 10 (b.drop a):Nat):Int) by push_cast;rfl) hlt,sb]
     congr 1
     simp only [h9,true_and,decide_eq_decide]
     omega
    ·rw [itF (by simp;omega)];simp [h9]
   rw [hg2,sb]
   by_cases h9:lead 10 (b.drop a)=9∧1<(b[a+lead 10 (b.drop a)]).toNat
   ·rw [if_pos h9,itT (by simpa using h9)];rfl
   ·rw [if_neg h9,itF (decide_eq_false h9)]
    have hbd:hor ((b.drop a).take (lead 10 (b.drop a)+1))<18446744073709551616:=by
     have hsp:(b.drop a).take (lead 10 (b.drop a)+1)=(b.drop a).take (lead 10 (b.drop a))++[b[a+lead 10 (b.drop a)]]:=by
      rw [List.take_add_one,List.getElem?_drop,List.getElem?_eq_getElem hlt];rfl
     rw [hsp,zsv]
     have h3:=zyD ((b.drop a).take (lead 10 (b.drop a)))
     have h4:((b.drop a).take (lead 10 (b.drop a))).length=lead 10 (b.drop a):=by simp;omega
     rw [h4] at h3⊢
     simp only [hor,Nat.mul_zero,Nat.add_zero]
     exact zDF (by omega) (by omega) h9 h3
    have h2:=zBi b a (lead 10 (b.drop a)+1) hb (by omega) hbd (lead 10 (b.drop a)+1) (Nat.le_refl _)
    have hz:((b.drop a).take (lead 10 (b.drop a)+1)).drop (lead 10 (b.drop a)+1)=[]:=List.drop_eq_nil_of_le (by simp;omega)
    rw [hz] at h2
    have e3:(((lead 10 (b.drop a)+1:Nat):Int) - 1)=((lead 10 (b.drop a):Nat):Int):=by push_cast;omega
    rw [e3] at h2
    have h2':zcD a b 0 ((lead 10 (b.drop a):Nat):Int)=some ((hor ((b.drop a).take (lead 10 (b.drop a)+1)):Nat):Int):=h2
    rw [h2',sb,zz (by omega)]
    simp [rdR]
theorem zuG:∀(k:Nat) (l:List UInt8),lead k (l.take k)=lead k l
 | 0,_=>rfl
 | _+1,[]=>rfl
 | k+1,c::t=>by simp only [List.take_succ_cons,lead,zuG k t]
theorem zuF:∀(k:Nat) (l:List UInt8),(∀y∈l.take (lead k l),128≤y.toNat)∧∀(h:lead k l<l.length),lead k l<k→(l[lead k l]).toNat<128
 | 0,_=>⟨fun y hy=>by simp [lead] at hy,fun _ h=>by omega⟩
 | _+1,[]=>⟨fun y hy=>by simp at hy,fun h=>by simp at h⟩
 | k+1,c::t=>by
  obtain ⟨h1,h2⟩:=zuF k t
  by_cases hc:128≤c.toNat
  ·have e:lead (k+1) (c::t)=lead k t+1:=by rw [lead,if_pos hc]
   constructor
   ·rw [e,List.take_succ_cons]
    intro y hy
    cases hy with
    | head=>exact hc
    | tail _ hy=>exact h1 y hy
   ·simp only [e,List.getElem_cons_succ,List.length_cons]
    intro h hk;exact h2 (by omega) (by omega)
  ·have e:lead (k+1) (c::t)=0:=by rw [lead,if_neg hc]
   constructor
   ·rw [e];intro y hy;simp at hy
   ·simp only [e];intro _ _;simp;omega
theorem zju (b:List UInt8):rd b=(0,0,4)∨(rd b=(0,0,3)∧b.length≤9)∨
  ∃x c y,b=x++c::y∧(∀z∈x,128≤z.toNat)∧c.toNat<128∧x.length≤9∧hor (x++[c])<18446744073709551616∧rd b=(((hor (x++[c]):Nat):Int),((x.length+1:Nat):Int),0):=by
 have hle:=zvK 10 b
 have hs:=zuT (b.take 10) 0 0 (by simp;omega) (by omega)
 simp only [Nat.zero_add,Nat.sub_zero,zuG,Nat.pow_zero,Nat.mul_one] at hs
 unfold rd
 rw [hs]
 by_cases h10:lead 10 b=10
 ·rw [if_pos h10];exact .inl rfl
 ·rw [if_neg h10]
  by_cases hl:lead 10 b=(b.take 10).length
  ·rw [if_pos hl];refine .inr (.inl ⟨rfl,?_⟩);rw [List.length_take] at hl;omega
  ·rw [if_neg hl]
   rw [List.length_take] at hl
   have hlt:lead 10 b<b.length:=by omega
   have hg:(b.take 10).getD (lead 10 b) 0=b[lead 10 b]:=by
    rw [List.getD_eq_getElem?_getD,List.getElem?_take,if_pos (by omega),List.getElem?_eq_getElem hlt];rfl
   rw [hg,List.take_take,Nat.min_eq_left (by omega)]
   have hc:=(b[lead 10 b]).toNat_lt
   by_cases h9:lead 10 b=9∧1<(b[lead 10 b]).toNat
   ·rw [if_pos h9];exact .inl rfl
   ·rw [if_neg h9]
    obtain ⟨hf1,hf2⟩:=zuF 10 b
    have hsp:b.take (lead 10 b+1)=b.take (lead 10 b)++[b[lead 10 b]]:=by
     rw [List.take_add_one,List.getElem?_eq_getElem hlt];rfl
    have hlen:(b.take (lead 10 b)).length=lead 10 b:=by rw [List.length_take];omega
    refine .inr (.inr ⟨b.take (lead 10 b),b[lead 10 b],b.drop (lead 10 b+1),?_,hf1,hf2 hlt (by omega),by omega,?_,?_⟩)
    ·rw [←List.drop_eq_getElem_cons hlt,List.take_append_drop]
    ·rw [zsv]
     have h3:=zyD (b.take (lead 10 b))
     rw [hlen] at h3⊢
     simp only [hor,Nat.mul_zero,Nat.add_zero]
     exact zDF (by omega) (by omega) h9 h3
    ·rw [hsp,hlen];simp [rdR]
theorem zFr {v:Nat} (h:v<128):enc v=[UInt8.ofNat v]:=by rw [enc,if_pos h]
theorem zFq {v:Nat} (h:¬v<128):enc v=UInt8.ofNat (128+v%128)::enc (v/128):=by rw [enc,if_neg h]
theorem zvz:∀(v:Nat),(enc v).length=lenN v:=by
 intro v
 induction v using Nat.strongRecOn with
 | _ v ih=>
  by_cases h:v<128
  ·rw [zFr h,znz h];rfl
  ·rw [zFq h,zpi h,List.length_cons,ih _ (by omega)]
theorem zFi (v:Nat):shrI .u64 (v:Int) 7=((v/128:Nat):Int):=ztj (k:= .u64) (a:=v) (b:=7) (by simp [IntKind.bits])
theorem zCK:∀(w n:Nat),n+w<9223372036854775808+w→n+lz w≤1152921504606846976→zgW w n=some ((n+lz w:Nat):Int):=by
 intro w
 induction w using Nat.strongRecOn with
 | _ w ih=>
  intro n hn hl
  by_cases h:w=0
  ·subst h
   refine zrm ?_
   unfold zeg
   rw [itF (by simp)];rfl
  ·have e:=zFD h
   refine (zrl (wv2':=((w/128:Nat):Int)) (n':=((n+1:Nat):Int)) ?_).trans ?_
   ·unfold zeg
    rw [itT (by simp;omega),zFi,zz (by omega)];rfl
   ·rw [ih (w/128) (by omega) (n+1) (by omega) (by omega)]
    congr 2;omega
theorem zFA {v:Nat} (h:v<18446744073709551616):zmA (v:Int)=some ((lenN v:Nat):Int):=by
 unfold zmA
 have h1:=zFC v
 have h2:=zCJ h
 have h3:=zCK (v/128) 1 (by omega) (by omega)
 have h3':zgW ((v/128:Nat):Int) 1=some ((1+lz (v/128):Nat):Int):=h3
 rw [zFi,h3',sb,h1]
theorem zBo (a b:List Int) (hl:a.length=b.length) (hb:a.length≤1152921504606846976):∀(k i:Nat),i+k=a.length→
  (a.drop i=b.drop i∧zbF a b i=some (.inl ()))∨(a.drop i≠b.drop i∧zbF a b i=some (.inr ())):=by
 intro k
 induction k with
 | zero=>
  intro i hi
  refine .inl ⟨?_,zgI ?_⟩
  ·rw [List.drop_eq_nil_of_le (by omega),List.drop_eq_nil_of_le (by omega)]
  ·unfold zaL
   rw [itF (by simp;omega)]
 | succ k ih=>
  intro i hi
  have ha:a.drop i=a[i]'(by omega)::a.drop (i+1):=List.drop_eq_getElem_cons (by omega)
  have hb':b.drop i=b[i]'(by omega)::b.drop (i+1):=List.drop_eq_getElem_cons (by omega)
  have hbody:zaL a b i=if a[i]'(by omega)=b[i]'(by omega) then some (.inl ((i+1:Nat):Int)) else some (.inr (.inr ())):=by
   unfold zaL
   rw [itT (by simp;omega),zZ rfl (show i<a.length by omega),sb,zZ rfl (show i<b.length by omega),sb,zz (by omega)]
   by_cases h:a[i]'(by omega)=b[i]'(by omega)
   ·rw [if_pos h,itF (by simpa using h)];rfl
   ·rw [if_neg h,itT (by simpa using h)]
  rw [ha,hb']
  by_cases h:a[i]'(by omega)=b[i]'(by omega)
  ·rw [if_pos h] at hbody
   rw [zkv hbody]
   rcases ih (i+1) (by omega) with ⟨h1,h2⟩| ⟨h1,h2⟩
   ·exact .inl ⟨by rw [h,h1],h2⟩
   ·exact .inr ⟨fun e=>h1 (List.cons.inj e).2,h2⟩
  ·rw [if_neg h] at hbody
   exact .inr ⟨fun e=>h (List.cons.inj e).1,zgI hbody⟩
theorem zAq (a b:List Int) (hb:a.length≤1152921504606846976):zci a b=some (decide (a=b)):=by
 unfold zci
 by_cases hl:a.length=b.length
 ·rw [itF (by simp;omega)]
  rcases zBo a b hl hb a.length 0 (by omega) with ⟨h1,h2⟩| ⟨h1,h2⟩
  ·have h2':zbF a b 0=some (.inl ()):=h2
   rw [h2',sb]
   simp only [List.drop_zero] at h1
   simp [h1]
  ·have h2':zbF a b 0=some (.inr ()):=h2
   rw [h2',sb]
   simp only [List.drop_zero] at h1
   simp [h1]
 ·rw [itT (by simp;omega)]
  have:a≠b:=fun e=>hl (by rw [e])
  simp [this]
end Go.Proofs.YtcbkcblkecmjnaaGreat
namespace Go.Proofs.YtcbkcblkecmjnaaGreat
open Go
def zgb (n w:Int):Bool:=decide (1≤n∧n≤536870911∧(w=0∨w=1∨w=2∨w=5))
def tgR (r:Int×Int×Int):Int×Int×Int×Int:=
 if r.2.2≠0 then (0,0,0,r.2.2) else if 4294967295<r.1∨zgb (r.1/8) (r.1%8)=false then (0,0,0,5) else (r.1/8,r.1%8,r.2.1,0)
def tg (l:List UInt8):Int×Int×Int×Int:=tgR (rd l)
def tW (n w:Int):Nat:=(8*n+w).toNat
theorem zoL {n w:Int}:zgb n w=true↔1≤n∧n≤536870911∧(w=0∨w=1∨w=2∨w=5):=by simp [zgb]
theorem zxH (n w:Int):zel n w=some (zgb n w):=by
 unfold zel zgb
 simp [Bool.decide_and,Bool.decide_or,Bool.beq_eq_decide_eq]
theorem zgz (l:List UInt8):0≤(rd l).1∧(rd l).1<18446744073709551616∧0≤(rd l).2.1∧(rd l).2.1≤10∧(rd l).2.1≤l.length∧((rd l).2.2=0∨(rd l).2.2=3∨(rd l).2.2=4)∧((rd l).2.2=0→1≤(rd l).2.1):=by
 rcases zju l with h| ⟨h,_⟩| ⟨x,c,y,e,_,_,hl,hv,h⟩
 ·rw [h];simp
 ·rw [h];simp
 ·have:l.length=x.length+1+y.length:=by rw [e];simp;omega
  rw [h]
  refine ⟨?_,?_,?_,?_,?_,.inl rfl,fun _=>?_⟩<;>simp only<;>omega
theorem zAo (x:List UInt8) (c:UInt8) (y:List UInt8) (hx:∀z∈x,128≤z.toNat) (hc:c.toNat<128) (hl:x.length≤9) (hv:hor (x++[c])<18446744073709551616):
  rd (x++c::y)=(((hor (x++[c]):Nat):Int),((x.length+1:Nat):Int),0):=by
 have key:∀(x:List UInt8) (z:List UInt8) (i acc:Nat),(∀z∈x,128≤z.toNat)→i+x.length≤9→acc+hor (x++[c])*128^i<18446744073709551616→scan i acc (x++c::z)= .inr (((acc+hor (x++[c])*128^i:Nat):Int),((i+x.length+1:Nat):Int),0):=by
  intro x
  induction x with
  | nil=>
   intro z i acc _ hi hv
   have e1:hor ([]++[c])=c.toNat:=by simp [hor];omega
   rw [e1] at hv⊢
   rw [List.nil_append,scan,if_neg,if_pos hc,Nat.mod_eq_of_lt hc]
   ·rfl
   ·rintro ⟨rfl,h2⟩
    have:=Nat.mul_le_mul_right (128^9) (show 2≤c.toNat by omega)
    omega
  | cons d x ih=>
   intro z i acc hx hi hv
   simp only [List.length_cons] at hi
   have hd:=hx d List.mem_cons_self
   have e5:acc+hor ((d::x)++[c])*128^i=acc+d.toNat%128*128^i+hor (x++[c])*128^(i+1):=by
    rw [List.cons_append,hor,Nat.pow_succ,Nat.add_mul,Nat.mul_comm (128^i) 128,←Nat.mul_assoc,Nat.mul_comm (hor (x++[c])) 128];omega
   rw [e5] at hv⊢
   rw [List.cons_append,scan,if_neg (by omega),if_neg (by omega),ih z (i+1) _ (fun z hz=>hx z (List.mem_cons_of_mem _ hz)) (by omega) hv,List.length_cons]
   congr 3
   omega
 unfold rd
 have e2:(x++c::y).take 10=x++c::y.take (9 - x.length):=by
  rw [List.take_append,List.take_of_length_le (by omega),show 10 - x.length=(9 - x.length)+1 by omega,List.take_succ_cons]
 rw [e2,key x _ 0 0 hx (by omega) (by simpa using hv)]
 simp [rdR]
theorem zqu (l m:List UInt8) (h:(rd l).2.2=0):rd (l++m)=rd l:=by
 rcases zju l with h'| ⟨h',_⟩| ⟨x,c,y,e,hx,hc,hl,hv,h'⟩
 ·rw [h'] at h;cases h
 ·rw [h'] at h;cases h
 ·rw [h',e,List.append_assoc,List.cons_append,zAo x c _ hx hc hl hv]
theorem zuY (l m:List UInt8) (h:(rd l).2.2=0):tg (l++m)=tg l:=by unfold tg;rw [zqu l m h]
theorem zwt {r:Int×Int×Int} (h:r.2.2≠0):tgR r=(0,0,0,r.2.2):=if_pos h
theorem znh {r:Int×Int×Int} (h:r.2.2=0) (h2:4294967295<r.1∨zgb (r.1/8) (r.1%8)=false):tgR r=(0,0,0,5):=by unfold tgR;rw [if_neg (by simp [h]),if_pos h2]
theorem zzp {r:Int×Int×Int} (h:r.2.2=0) (h2:¬(4294967295<r.1∨zgb (r.1/8) (r.1%8)=false)):tgR r=(r.1/8,r.1%8,r.2.1,0):=by unfold tgR;rw [if_neg (by simp [h]),if_neg h2]
theorem zts (l:List UInt8):(∃c,tg l=(0,0,0,c)∧(c=3∨c=4∨c=5))∨∃n w k,tg l=(n,w,k,0)∧zgb n w=true∧1≤k∧k≤10∧k≤l.length∧rd l=(8*n+w,k,0):=by
 obtain ⟨h1,h2,h3,h4,h5,h6,h7⟩:=zgz l
 unfold tg
 by_cases h:(rd l).2.2=0
 ·by_cases hg:4294967295<(rd l).1∨zgb ((rd l).1/8) ((rd l).1%8)=false
  ·exact .inl ⟨5,znh h hg,by omega⟩
  ·refine .inr ⟨_,_,_,zzp h hg,?_,h7 h,h4,h5,?_⟩
   ·cases ht:zgb ((rd l).1/8) ((rd l).1%8)
    ·exact absurd (.inr ht) hg
    ·rfl
   ·refine Prod.ext ?_ (Prod.ext rfl h)
    simp only;omega
 ·exact .inl ⟨_,zwt h,by omega⟩
theorem zvY (b:List UInt8) (a:Nat) (hb:b.length≤1152921504606846976) (ha:a≤b.length):zeO b a=some (tg (b.drop a)):=by
 unfold zeO tg
 obtain ⟨h1,h2,h3,h4,h5,h6,h7⟩:=zgz (b.drop a)
 rw [zoF b a hb ha,sb]
 by_cases h:(rd (b.drop a)).2.2=0
 ·rw [itF (by simpa using h)]
  have e1:IntKind.i64.wrap (IntKind.u64.wrap (Int.tdiv (rd (b.drop a)).1 8))=(rd (b.drop a)).1/8:=by
   rw [Int.tdiv_eq_ediv_of_nonneg h1,wrap_u64,Int.emod_eq_of_lt (by omega) (by omega),zz (by omega)]
  have e2:IntKind.i64.wrap (Int.tmod (rd (b.drop a)).1 8)=(rd (b.drop a)).1%8:=by
   rw [Int.tmod_eq_emod_of_nonneg h1,zz (by omega)]
  simp only [e1,e2,zxH,sb]
  by_cases hg:4294967295<(rd (b.drop a)).1
  ·rw [itT (by simpa using hg),sb,itT (by rfl),znh h (.inl hg)]
  ·rw [itF (by simpa using hg),sb]
   cases ht:zgb ((rd (b.drop a)).1/8) ((rd (b.drop a)).1%8)
   ·rw [itT (by rfl),znh h (.inr ht)]
   ·rw [itF (by rfl),zzp h (by simp [ht];omega)]
 ·rw [itT (by simpa using h),zwt h]
end Go.Proofs.YtcbkcblkecmjnaaGreat
namespace Go.Proofs.YtcbkcblkecmjnaaGreat
open Go
set_option linter.unusedVariables false
abbrev Rec:=zo
def zdS (w:Int) (k:Nat) (m:List UInt8):Int⊕(Nat×Nat):=
 if w=0 then (if (rd m).2.2≠0 then .inl (rd m).2.2 else .inr (k,k+(rd m).2.1.toNat))
 else if w=2 then (if (rd m).2.2≠0 then .inl (rd m).2.2 else if (m.length:Int) - (rd m).2.1<(rd m).1 then .inl 3 else .inr (k+(rd m).2.1.toNat,k+(rd m).2.1.toNat+(rd m).1.toNat))
 else if m.length<(if w=5 then 4 else 8) then .inl 3 else .inr (k,k+(if w=5 then 4 else 8))
def rec5 (l:List UInt8):Int⊕(Int×Int×Nat×Nat):=
 if (tg l).2.2.2≠0 then .inl (tg l).2.2.2 else match zdS (tg l).2.1 (tg l).2.2.1.toNat (l.drop (tg l).2.2.1.toNat) with
  | .inl c=> .inl c
  | .inr p=> .inr ((tg l).1,(tg l).2.1,p.1,p.2)
theorem zie (w:Int) (k:Nat) (m:List UInt8):(∃c,zdS w k m= .inl c∧(c=3∨c=4))∨
  ∃a t,zdS w k m= .inr (a,t)∧k≤a∧a≤t∧t≤k+m.length∧
   (w=0∧a=k∧(rd m).2.2=0∧((t - k:Nat):Int)=(rd m).2.1∧k<t∨w=2∧(rd m).2.2=0∧((a - k:Nat):Int)=(rd m).2.1∧((t - a:Nat):Int)=(rd m).1∨w≠0∧w≠2∧a=k∧t=k+(if w=5 then 4 else 8)):=by
 obtain ⟨h1,h2,h3,h4,h5,h6,h7⟩:=zgz m
 unfold zdS
 by_cases w0:w=0
 ·rw [if_pos w0]
  by_cases h:(rd m).2.2=0
  ·have:=h7 h
   rw [if_neg (by simpa using h)]
   exact .inr ⟨_,_,rfl,Nat.le_refl _,by omega,by omega,.inl ⟨w0,rfl,h,by omega,by omega⟩⟩
  ·rw [if_pos h];exact .inl ⟨_,rfl,by omega⟩
 ·rw [if_neg w0]
  by_cases w2:w=2
  ·rw [if_pos w2]
   by_cases h:(rd m).2.2=0
   ·rw [if_neg (by simpa using h)]
    by_cases h8:(m.length:Int) - (rd m).2.1<(rd m).1
    ·rw [if_pos h8];exact .inl ⟨_,rfl,by omega⟩
    ·rw [if_neg h8]
     exact .inr ⟨_,_,rfl,by omega,by omega,by omega,.inr (.inl ⟨w2,h,by omega,by omega⟩)⟩
   ·rw [if_pos h];exact .inl ⟨_,rfl,by omega⟩
  ·rw [if_neg w2]
   by_cases h8:m.length<(if w=5 then 4 else 8)
   ·rw [if_pos h8];exact .inl ⟨_,rfl,by omega⟩
   ·rw [if_neg h8]
    exact .inr ⟨_,_,rfl,Nat.le_refl _,by omega,by omega,.inr (.inr ⟨w0,w2,rfl,rfl⟩)⟩
theorem zvm (w:Int) (k:Nat) (m z:List UInt8) {p:Nat×Nat} (h:zdS w k m= .inr p):zdS w k (m++z)= .inr p:=by
 unfold zdS at h⊢
 by_cases w0:w=0
 ·rw [if_pos w0] at h⊢
  by_cases h0:(rd m).2.2=0
  ·rw [zqu m z h0];exact h
  ·rw [if_pos h0] at h;cases h
 ·rw [if_neg w0] at h⊢
  by_cases w2:w=2
  ·rw [if_pos w2] at h⊢
   by_cases h0:(rd m).2.2=0
   ·rw [zqu m z h0]
    rw [if_neg (by simpa using h0)] at h⊢
    by_cases h8:(m.length:Int) - (rd m).2.1<(rd m).1
    ·rw [if_pos h8] at h;cases h
    ·rw [if_neg h8] at h
     rw [if_neg (by simp only [List.length_append];omega)];exact h
   ·rw [if_pos h0] at h;cases h
  ·rw [if_neg w2] at h⊢
   by_cases h8:m.length<(if w=5 then 4 else 8)
   ·rw [if_pos h8] at h;cases h
   ·rw [if_neg h8] at h
    rw [if_neg (by simp only [List.length_append];omega)];exact h
theorem zjv (l:List UInt8):(∃c,rec5 l= .inl c∧(c=3∨c=4∨c=5))∨
  ∃(n w:Int) (k a t:Nat),rec5 l= .inr (n,w,a,t)∧tg l=(n,w,(k:Int),0)∧zgb n w=true∧zdS w k (l.drop k)= .inr (a,t)∧1≤k∧k≤l.length∧k≤a∧a≤t∧t≤l.length∧rd l=(8*n+w,(k:Int),0):=by
 rcases zts l with ⟨c,h,hc⟩| ⟨n,w,k,h,hr,k1,k2,k3,hrd⟩
 ·refine .inl ⟨c,?_,hc⟩
  unfold rec5;rw [h,if_pos (by simp only;omega)]
 ·obtain ⟨k,rfl⟩:∃j:Nat,k=j:=⟨k.toNat,by omega⟩
  have e:rec5 l=match zdS w k (l.drop k) with
   | .inl c=> .inl c
   | .inr p=> .inr (n,w,p.1,p.2):=by unfold rec5;rw [h];simp
  rcases zie w k (l.drop k) with ⟨c,h2,hc⟩| ⟨a,t,h2,g1,g2,g3,_⟩
  ·exact .inl ⟨c,by rw [e,h2],by omega⟩
  ·simp only [List.length_drop] at g3
   exact .inr ⟨n,w,k,a,t,by rw [e,h2],h,hr,h2,by omega,by omega,g1,g2,by omega,hrd⟩
theorem zxB (l z:List UInt8) {r:Int×Int×Nat×Nat} (h:rec5 l= .inr r):rec5 (l++z)= .inr r:=by
 rcases zjv l with ⟨c,h',_⟩| ⟨n,w,k,a,t,h',htg,_,hb,_,hk,_,_,_,hrd⟩
 ·rw [h'] at h;cases h
 ·rw [h'] at h
  have e:tg (l++z)=(n,w,(k:Int),0):=by rw [zuY l z (by rw [hrd]),htg]
  unfold rec5
  rw [e]
  simp only [ne_eq,not_true_eq_false,if_false,Int.toNat_natCast]
  rw [List.drop_append_of_le_length hk,zvm _ _ _ _ hb]
  exact h
def zrec:Rec:=⟨0,0,0,0,0⟩
def zcR (b:List UInt8) (at5:Int):Rec×Int:=if at5<0∨at5≥b.length then (zrec,2) else match rec5 (b.drop at5.toNat) with
 | .inl c=>(zrec,c)
 | .inr (n,w,a,t)=>(⟨n,w,at5,at5+a,at5+t⟩,0)
theorem zxG {b:List UInt8} (hb:b.length≤140737488355328) (at5:Int):zdM b at5=some (zcR b at5):=by
 unfold zdM zcR
 by_cases h:at5<0∨at5≥b.length
 ·rw [itT (by simpa using h),if_pos h];rfl
 ·rw [itF (by simpa using h),if_neg h]
  obtain ⟨p,rfl⟩:∃p:Nat,at5=p:=⟨at5.toNat,by omega⟩
  rw [zvY b p (by omega) (by omega),sb,Int.toNat_natCast]
  have hdl:(b.drop p).length=b.length - p:=by simp
  rcases zts (b.drop p) with ⟨c,ht,hc⟩| ⟨n,w,k,ht,hr,k1,k2,k3,hrd⟩
  ·have e:rec5 (b.drop p)= .inl c:=by unfold rec5;rw [ht,if_pos (by simp only;omega)]
   rw [e,ht,itT (by simp;omega)];rfl
  ·obtain ⟨k,rfl⟩:∃j:Nat,k=j:=⟨k.toNat,by omega⟩
   have e:rec5 (b.drop p)=match zdS w k ((b.drop p).drop k) with
    | .inl c=> .inl c
    | .inr p=> .inr (n,w,p.1,p.2):=by unfold rec5;rw [ht];simp
   have hdd:(b.drop p).drop k=b.drop (p+k):=by rw [List.drop_drop]
   have hml:(b.drop (p+k)).length=b.length - (p+k):=by simp
   obtain ⟨h1,h2,h3,h4,h5,h6,h7⟩:=zgz (b.drop (p+k))
   rw [e,ht,itF (by simp),hdd]
   have ew:IntKind.i64.wrap ((p:Int)+k)=((p+k:Nat):Int):=by rw [zz (by omega)];push_cast;rfl
   have er:IntKind.i64.wrap ((b.length:Int) - ((p+k:Nat):Int))=((b.length - (p+k):Nat):Int):=by rw [zz (by omega)];omega
   simp only [ew,er]
   have hw:=(zoL.1 hr).2.2
   rcases hw with rfl| rfl| rfl| rfl
   ·-- a varint
    rw [itF (by rfl),sb,itT (by rfl),zoF b (p+k) (by omega) (by omega),sb]
    by_cases g:(rd (b.drop (p+k))).2.2=0
    ·have:=h7 g
     have hb5:zdS 0 k (b.drop (p+k))= .inr (k,k+(rd (b.drop (p+k))).2.1.toNat):=by unfold zdS;rw [if_pos rfl,if_neg (by simpa using g)]
     rw [itF (by simpa using g),sb,hb5]
     simp only
     rw [itF (by rfl),sb]
     simp only
     rw [itF (by simp;omega),zz (by omega)]
     simp;omega
    ·have hb5:zdS 0 k (b.drop (p+k))= .inl (rd (b.drop (p+k))).2.2:=by unfold zdS;rw [if_pos rfl,if_pos g]
     rw [itT (by simpa using g),sb,hb5];rfl
   ·rw [itF (by rfl),sb,itF (by rfl),sb]
    simp only
    rw [itF (by rfl),sb]
    unfold zdS
    rw [if_neg (by omega),if_neg (by omega)]
    simp only
    by_cases g:b.length - (p+k)<8
    ·rw [itT (by simp;omega),if_pos (by simpa [hml] using g)];rfl
    ·rw [itF (by simp;omega),if_neg (by simpa [hml] using g),zz (by omega)]
     simp;omega
   ·rw [itF (by rfl),sb,itF (by rfl),sb]
    simp only
    rw [itT (by rfl),zoF b (p+k) (by omega) (by omega),sb]
    by_cases g:(rd (b.drop (p+k))).2.2=0
    ·have:=h7 g
     have e1:IntKind.i64.wrap (((b.length - (p+k):Nat):Int) - (rd (b.drop (p+k))).2.1)=((b.drop (p+k)).length:Int) - (rd (b.drop (p+k))).2.1:=by rw [zz (by omega),hml]
     have e2:IntKind.u64.wrap (((b.drop (p+k)).length:Int) - (rd (b.drop (p+k))).2.1)=((b.drop (p+k)).length:Int) - (rd (b.drop (p+k))).2.1:=by rw [wrap_u64,Int.emod_eq_of_lt (by omega) (by omega)]
     rw [itF (by simpa using g)]
     simp only [e1,e2]
     by_cases g2:((b.drop (p+k)).length:Int) - (rd (b.drop (p+k))).2.1<(rd (b.drop (p+k))).1
     ·have hb5:zdS 2 k (b.drop (p+k))= .inl 3:=by unfold zdS;rw [if_neg (by omega),if_pos rfl,if_neg (by simpa using g),if_pos g2]
      rw [itT (by simpa using g2),sb,hb5];rfl
     ·have hb5:zdS 2 k (b.drop (p+k))= .inr (k+(rd (b.drop (p+k))).2.1.toNat,k+(rd (b.drop (p+k))).2.1.toNat+(rd (b.drop (p+k))).1.toNat):=by
       unfold zdS;rw [if_neg (by omega),if_pos rfl,if_neg (by simpa using g),if_neg g2]
      rw [itF (by simpa using g2),sb,hb5]
      simp only
      rw [zz (x:=(rd (b.drop (p+k))).1) (by omega),itF (by simpa using g2),zz (x:=((p+k:Nat):Int)+(rd (b.drop (p+k))).2.1) (by omega),zz (by omega)]
      simp;omega
    ·have hb5:zdS 2 k (b.drop (p+k))= .inl (rd (b.drop (p+k))).2.2:=by unfold zdS;rw [if_neg (by omega),if_pos rfl,if_pos g]
     rw [itT (by simpa using g),sb,hb5];rfl
   ·rw [itT (by rfl),sb,itF (by rfl),sb]
    simp only
    rw [itF (by rfl),sb]
    unfold zdS
    rw [if_neg (by omega),if_neg (by omega)]
    simp only
    by_cases g:b.length - (p+k)<4
    ·rw [itT (by simp;omega),if_pos (by simpa [hml] using g)];rfl
    ·rw [itF (by simp;omega),if_neg (by simpa [hml] using g),zz (by omega)]
     simp;omega
theorem zze {b:List UInt8} (hb:b.length≤1048576) (at5:Int):zdM b at5=some (zcR b at5):=zxG (by omega) at5
def spl (base:Nat) (l:List UInt8):List Rec×Option (Nat×Int):=
 if hl:l=[] then ([],none) else match h:rec5 l with
  | .inl c=>([],some (base,c))
  | .inr (n,w,a,t)=>(⟨n,w,base,(base+a:Nat),(base+t:Nat)⟩::(spl (base+t) (l.drop t)).1,(spl (base+t) (l.drop t)).2)
termination_by l.length
decreasing_by
 all_goals
  rcases zjv l with ⟨c',h',_⟩| ⟨n',w',k',a',t',h',_,_,_,g1,g2,g3,g4,g5,_⟩
  ·rw [h'] at h;cases h
  ·rw [h'] at h;cases h;simp only [List.length_drop];omega
theorem zfH (base:Nat):spl base []=([],none):=by rw [spl,dif_pos rfl]
theorem zgi {base:Nat} {l:List UInt8} {c:Int} (hl:l≠[]) (h:rec5 l= .inl c):spl base l=([],some (base,c)):=by
 rw [spl,dif_neg hl]
 split
 ·rename_i c' h';rw [h] at h';cases h';rfl
 ·rename_i h';rw [h] at h';cases h'
theorem zdZ {base:Nat} {l:List UInt8} {n w:Int} {a t:Nat} (hl:l≠[]) (h:rec5 l= .inr (n,w,a,t)):
  spl base l=(⟨n,w,base,(base+a:Nat),(base+t:Nat)⟩::(spl (base+t) (l.drop t)).1,(spl (base+t) (l.drop t)).2):=by
 rw [spl,dif_neg hl]
 split
 ·rename_i c' h';rw [h] at h';cases h'
 ·rename_i n' w' a' t' h';rw [h] at h';cases h';rfl
theorem zgB (P:Nat→List UInt8→Prop) (h0:∀base,P base []) (he:∀base l c,l≠[]→rec5 l= .inl c→(c=3∨c=4∨c=5)→P base l)
  (hc:∀base l (n w:Int) (a t:Nat),l≠[]→rec5 l= .inr (n,w,a,t)→zgb n w=true→1≤a→a≤t→t≤l.length→P (base+t) (l.drop t)→P base l) (base:Nat) (l:List UInt8):P base l:=by
 generalize hn:l.length=m
 induction m using Nat.strongRecOn generalizing base l with
 | _ m ih=>
  by_cases hl:l=[]
  ·subst hl;exact h0 base
  ·rcases zjv l with ⟨c,h,hc'⟩| ⟨n,w,k,a,t,h,_,hr,_,g1,g2,g3,g4,g5,_⟩
   ·exact he base l c hl h hc'
   ·exact hc base l n w a t hl h hr (by omega) g4 g5 (ih _ (by simp only [List.length_drop];omega) _ _ rfl)
theorem zEI (base:Nat) (l:List UInt8):(spl base l).1.length≤l.length:=by
 refine zgB (fun base l=>(spl base l).1.length≤l.length) ?_ ?_ ?_ base l
 ·intro base;rw [zfH];simp
 ·intro base l c hl h _;rw [zgi hl h];simp
 ·intro base l n w a t hl h _ g1 g2 g3 ih
  rw [zdZ hl h]
  simp only [List.length_cons,List.length_drop] at ih⊢
  omega
theorem zDo (base:Nat) (l:List UInt8):∀p c,(spl base l).2=some (p,c)→(c=3∨c=4∨c=5)∧base≤p∧p<base+l.length:=by
 refine zgB (fun base l=>∀p c,(spl base l).2=some (p,c)→(c=3∨c=4∨c=5)∧base≤p∧p<base+l.length) ?_ ?_ ?_ base l
 ·intro base p c h;rw [zfH] at h;cases h
 ·intro base l c' hl h hc p c h2
  rw [zgi hl h] at h2
  cases h2
  have:0<l.length:=List.length_pos_iff.2 hl
  exact ⟨hc,by omega,by omega⟩
 ·intro base l n w a t hl h _ g1 g2 g3 ih p c h2
  rw [zdZ hl h] at h2
  have:=ih p c h2
  simp only [List.length_drop] at this
  omega
def znd (d:Nat) (r:Rec):Rec:=⟨r.Number,r.Wire,r.From+d,r.At+d,r.To+d⟩
theorem zBr (d:Nat) (base:Nat) (l:List UInt8):spl (base+d) l=((spl base l).1.map (znd d),(spl base l).2.map fun p=>(p.1+d,p.2)):=by
 refine zgB (fun base l=>spl (base+d) l=((spl base l).1.map (znd d),(spl base l).2.map fun p=>(p.1+d,p.2))) ?_ ?_ ?_ base l
 ·intro base;rw [zfH,zfH];rfl
 ·intro base l c hl h _;rw [zgi hl h,zgi hl h];rfl
 ·intro base l n w a t hl h _ g1 g2 g3 ih
  rw [zdZ hl h,zdZ hl h,show base+d+t=base+t+d by omega,ih]
  simp only [List.map_cons,znd,Prod.mk.injEq,List.cons.injEq,zo.mk.injEq,true_and,and_true]
  push_cast
  omega
theorem zzm (m:List UInt8) (base:Nat) (l:List UInt8):(spl base l).2=none→spl base (l++m)=((spl base l).1++(spl (base+l.length) m).1,(spl (base+l.length) m).2):=by
 refine zgB (fun base l=>(spl base l).2=none→spl base (l++m)=((spl base l).1++(spl (base+l.length) m).1,(spl (base+l.length) m).2)) ?_ ?_ ?_ base l
 ·intro base _;rw [zfH];simp
 ·intro base l c hl h _ h2;rw [zgi hl h] at h2;cases h2
 ·intro base l n w a t hl h _ g1 g2 g3 ih h2
  rw [zdZ hl h] at h2⊢
  rw [zdZ (by simp [hl]) (zxB l m h),List.drop_append_of_le_length g3,ih h2]
  simp only [List.length_drop,List.cons_append,show base+t+(l.length - t)=base+l.length by omega]
def zfp (w:Int) (v:List UInt8):Bool:=
 if w=0 then decide ((rd v).2.2=0∧(rd v).2.1=v.length) else decide (w=2∨w=1∧v.length=8∨w=5∧v.length=4)
def put5 (n w:Int) (v:List UInt8):List UInt8:=enc (tW n w)++(if w=2 then enc v.length else [])++v
theorem zzc (w:Int) {v:List UInt8} (hv:v.length≤1048576):zeQ w v=some (zfp w v):=by
 unfold zeQ zfp
 by_cases h:w=0
 ·have:=zoF v 0 (by omega) (Nat.zero_le _)
  rw [List.drop_zero] at this
  have h':zbc v 0=some (rd v):=this
  rw [itT (by simpa using h),if_pos h,h',sb]
  simp [Bool.decide_and,Bool.beq_eq_decide_eq]
 ·rw [itF (by simpa using h),if_neg h]
  congr 1
  have e8:((v.length:Int)==8)=decide (v.length=8):=znr _ 8
  have e4:((v.length:Int)==4)=decide (v.length=4):=znr _ 4
  rw [e8,e4]
  by_cases h1:w=1
  ·subst h1;simp
  ·by_cases h2:w=2
   ·subst h2;simp
   ·by_cases h5:w=5
    ·subst h5;simp
    ·simp [h1,h2,h5]
theorem zDa (n w:Int) (v:List UInt8):(put5 n w v).length=(enc (tW n w)).length+(if w=2 then (enc v.length).length else 0)+v.length:=by
 unfold put5
 split
 ·simp;omega
 ·simp
theorem zzH {l:List UInt8} {k:Nat} (h:rd l=((rd l).1,(k:Int),0)):(enc (rd l).1.toNat).length≤k:=by
 rcases zju l with h'| ⟨h',_⟩| ⟨x,c,y,e,hx,hc,hl,hv,h'⟩
 ·rw [h'] at h;cases h
 ·rw [h'] at h;cases h
 ·rw [h'] at h⊢
  have hk:(x.length:Int)+1=k:=by have:=congrArg (fun p=>p.2.1) h;simpa using this
  simp only [Int.toNat_natCast]
  have h1:=zyD (x++[c])
  rw [zvz]
  have key:∀(j v:Nat),v<128^(j+1)→lenN v≤j+1:=by
   intro j
   induction j with
   | zero=>intro v hv;rw [znz (by omega)];omega
   | succ j ih=>
    intro v hv
    by_cases h2:v<128
    ·rw [znz h2];omega
    ·rw [zpi h2]
     have:=ih (v/128) (by rw [Nat.pow_succ] at hv;exact Nat.div_lt_of_lt_mul (by omega))
     omega
  have:=key x.length (hor (x++[c])) (by simpa using h1)
  omega
theorem zza {l:List UInt8} {n w:Int} {a t:Nat} (h:rec5 l= .inr (n,w,a,t)):
  zfp w ((l.drop a).take (t - a))=true∧((l.drop a).take (t - a)).length=t - a∧(put5 n w ((l.drop a).take (t - a))).length≤t:=by
 rcases zjv l with ⟨c,h',_⟩| ⟨n',w',k,a',t',h',_,hr,hb,g1,g2,g3,g4,g5,hrd⟩
 ·rw [h'] at h;cases h
 ·rw [h'] at h;cases h
  have hlen:((l.drop a).take (t - a)).length=t - a:=by simp;omega
  have hm:=zzH (l:=l) (k:=k) (by rw [hrd])
  have e1:(rd l).1.toNat=tW n w:=by rw [hrd];rfl
  rw [e1] at hm
  refine ⟨?_,hlen,?_⟩
  ·rcases zie w k (l.drop k) with ⟨c,hc,_⟩| ⟨a2,t2,h2,k1,k2,k3,hcase⟩
   ·rw [hc] at hb;cases hb
   ·rw [h2] at hb;cases hb
    unfold zfp
    rcases hcase with ⟨rfl,rfl,f1,f2,f3⟩| ⟨rfl,f1,f2,f3⟩| ⟨w0,w2,rfl,f1⟩
    ·rw [if_pos rfl]
     -- what is read is the value alone
     have hv:rd ((l.drop a).take (t - a))=rd (l.drop a):=by
      rcases zju (l.drop a) with h6| ⟨h6,_⟩| ⟨x,c,y,e,hx,hc,hl,hv,h6⟩
      ·rw [h6] at f1;cases f1
      ·rw [h6] at f1;cases f1
      ·rw [h6] at f2
       have e7:t - a=(x++[c]).length:=by simp at f2⊢;omega
       have e8:(l.drop a).take (t - a)=x++c::[]:=by rw [e7,e,List.append_cons x c y,List.take_left]
       rw [e8,zAo x c [] hx hc hl hv,h6]
     rw [hv]
     exact decide_eq_true ⟨f1,by rw [←f2,hlen]⟩
    ·rw [if_neg (by omega)];exact decide_eq_true (.inl rfl)
    ·have hw:=(zoL.1 hr).2.2
     rw [if_neg w0]
     rw [hlen,f1]
     refine decide_eq_true ?_
     rcases hw with rfl| rfl| rfl| rfl
     ·exact absurd rfl w0
     ·right;left;simp
     ·exact absurd rfl w2
     ·right;right;simp
  ·rw [zDa,hlen]
   rcases zie w k (l.drop k) with ⟨c,hc,_⟩| ⟨a2,t2,h2,k1,k2,k3,hcase⟩
   ·rw [hc] at hb;cases hb
   ·rw [h2] at hb;cases hb
    by_cases hw2:w=2
    ·rw [if_pos hw2]
     rcases hcase with ⟨rfl,_⟩| ⟨_,f1,f2,f3⟩| ⟨_,w2,_⟩
     ·omega
     ·have hm2:=zzH (l:=l.drop k) (k:=a - k) (by rw [f2];exact Prod.ext rfl (Prod.ext rfl f1))
      have e3:(rd (l.drop k)).1.toNat=t - a:=by omega
      rw [e3] at hm2
      omega
     ·exact absurd hw2 w2
    ·rw [if_neg hw2];omega
theorem zvX (l:List UInt8) {j:Nat} (h:(rd l).2.2=0) (hj:(rd l).2.1≤j):rd (l.take j)=rd l:=by
 rcases zju l with h6| ⟨h6,_⟩| ⟨x,c,y,e,hx,hc,hl,hv,h6⟩
 ·rw [h6] at h;cases h
 ·rw [h6] at h;cases h
 ·rw [h6] at hj
  have hj':(x++[c]).length≤j:=by simp at hj⊢;omega
  have:l.take j=x++c::y.take (j - (x++[c]).length):=by
   rw [e,List.append_cons x c y,List.take_append,List.take_of_length_le hj',←List.append_cons]
  rw [this,zAo x c _ hx hc hl hv,h6]
theorem zyt {w:Int} {k:Nat} {m:List UInt8} {a t:Nat} (h:zdS w k m= .inr (a,t)):zdS w k (m.take (t - k))= .inr (a,t):=by
 rcases zie w k m with ⟨c,hc,_⟩| ⟨a2,t2,h2,k1,k2,k3,hcase⟩
 ·rw [hc] at h;cases h
 ·rw [h2] at h
  cases h
  have hl:(m.take (t - k)).length=t - k:=by simp;omega
  rcases hcase with ⟨rfl,rfl,f1,f2,f3⟩| ⟨rfl,f1,f2,f3⟩| ⟨w0,w2,rfl,f1⟩
  ·have hr:=zvX m (j:=t - a) f1 (by omega)
   unfold zdS at h2⊢
   rw [if_pos rfl] at h2⊢
   rw [hr];exact h2
  ·have hr:=zvX m (j:=t - k) f1 (by omega)
   unfold zdS at h2⊢
   rw [if_neg (by omega),if_pos rfl] at h2⊢
   rw [hr]
   rw [if_neg (by simpa using f1)] at h2⊢
   split at h2
   ·cases h2
   ·rw [if_neg (by rw [hl];omega)];exact h2
  ·unfold zdS
   rw [if_neg w0,if_neg w2,if_neg (by rw [hl];omega),←f1]
theorem zBg {l:List UInt8} {n w:Int} {a t:Nat} (h:rec5 l= .inr (n,w,a,t)):rec5 (l.take t)= .inr (n,w,a,t):=by
 rcases zjv l with ⟨c,h',_⟩| ⟨n',w',k,a',t',h',htg,hr,hb,g1,g2,g3,g4,g5,hrd⟩
 ·rw [h'] at h;cases h
 ·rw [h'] at h
  cases h
  have hr1:=zvX l (j:=t) (by rw [hrd]) (by rw [hrd];simp only;omega)
  have e:tg (l.take t)=(n,w,(k:Int),0):=by
   have:=zuY (l.take t) (l.drop t) (by rw [hr1,hrd])
   rw [List.take_append_drop,htg] at this
   exact this.symm
  unfold rec5
  rw [e]
  simp only [ne_eq,not_true_eq_false,if_false,Int.toNat_natCast]
  rw [List.drop_take,zyt hb]
theorem zEJ (b:List UInt8) (base:Nat) (l:List UInt8):l=b.drop base→base≤b.length→∀r∈(spl base l).1,∃(n w:Int) (f a t:Nat),r=⟨n,w,(f:Int),((f+a:Nat):Int),((f+t:Nat):Int)⟩∧rec5 (b.drop f)= .inr (n,w,a,t)∧1≤a∧a≤t∧f+t≤b.length:=by
 refine zgB (fun base l=>l=b.drop base→base≤b.length→∀r∈(spl base l).1,∃(n w:Int) (f a t:Nat),r=⟨n,w,(f:Int),((f+a:Nat):Int),((f+t:Nat):Int)⟩∧rec5 (b.drop f)= .inr (n,w,a,t)∧1≤a∧a≤t∧f+t≤b.length) ?_ ?_ ?_ base l
 ·intro base _ _ r hr;rw [zfH] at hr;cases hr
 ·intro base l c hl h _ _ _ r hr;rw [zgi hl h] at hr;cases hr
 ·intro base l n w a t hl h _ g1 g2 g3 ih hld hbase r hr
  have hlen:l.length=b.length - base:=by rw [hld];simp
  rw [zdZ hl h] at hr
  rcases List.mem_cons.1 hr with rfl| hr
  ·exact ⟨n,w,base,a,t,rfl,by rw [←hld];exact h,g1,g2,by omega⟩
  ·exact ih (by rw [hld,List.drop_drop]) (by omega) r hr
end Go.Proofs.YtcbkcblkecmjnaaGreat
namespace Go.Proofs.YtcbkcblkecmjnaaGreat
open Go
set_option linter.unusedVariables false
theorem zCV (k:IntKind) (a b:Int):orI k a b=bits .or k a b:=rfl
theorem zxu (w:Int):zhG w=some (w%4294967296):=by unfold zhG;rw [zyk]
theorem zBq (w:Int):zic w=some (sgnS w):=by
 unfold zic
 rw [zxu,sb,zBL]
 unfold sgnS
 congr 1
 split<;>split<;>omega
theorem zBI {n:Int} (h: -2147483648≤n∧n≤2147483647):zid n=some (zon n):=by
 unfold zid
 rw [zz (by omega),wrap_u64]
 unfold zon
 congr 1
 split<;>omega
theorem zzj {w:Int} (h:0≤w∧w≤18446744073709551615):zdU w=some (sgnS w):=by
 unfold zdU
 rw [Int.tmod_eq_emod_of_nonneg h.1,zz (x:=w%4294967296) (by omega)]
 unfold sgnS
 by_cases h2:w%4294967296<2147483648
 ·rw [itF (by simp;omega),if_pos h2]
 ·rw [itT (by simp;omega),if_neg h2,zz (by omega)]
theorem zDh {n:Int} (h: -9223372036854775808≤n∧n≤9223372036854775807):zeM n=some (zon n):=by
 unfold zeM zon
 by_cases h0:0≤n
 ·rw [itT (by simp;omega),if_pos h0,wrap_u64,Int.emod_eq_of_lt (by omega) (by omega)]
 ·rw [itF (by simp;omega),if_neg h0]
  simp (disch:=omega) only [zz,wrap_u64]
  congr 1
  omega
theorem zuX {l:List UInt8} {j:Nat} (h:j<l.length):l.take (j+1)=l.take j++[l[j]]:=by rw [List.take_add_one,List.getElem?_eq_getElem h];rfl
theorem zBK {v:List UInt8} (hv:v.length≤8):∀(d j:Nat),j+d=v.length→zgv v ((word (v.take j):Nat):Int) (j:Int)=some ((word v:Nat):Int):=by
 intro d
 induction d with
 | zero=>
  intro j hj
  refine zpV ?_
  unfold zdA
  rw [itF (by simp;omega),List.take_of_length_le (by omega)]
 | succ d ih=>
  intro j hj
  have hl:(v.take j).length=j:=by simp;omega
  have hw:=zrT (v.take j)
  rw [hl] at hw
  refine (zpU (wv':=((word (v.take (j+1)):Nat):Int)) (v2':=((j+1:Nat):Int)) ?_).trans (ih (j+1) (by omega))
  unfold zdA
  have hc:=(v[j]'(by omega)).toNat_lt
  have e1:IntKind.i64.wrap (8*(j:Int))=((8*j:Nat):Int):=by rw [zz (by omega)];push_cast;rfl
  have e2:shlI .u64 (IntKind.u64.wrap ((v[j]'(by omega)).toNat:Int)) ((8*j:Nat):Int)=IntKind.u64.wrap (((v[j]'(by omega)).toNat:Int)*2^(8*j)):=by
   unfold shlI
   rw [Int.toNat_natCast,Nat.min_eq_left (by simp [IntKind.bits];omega),wrap_u64 ((v[j]'(by omega)).toNat:Int),Int.emod_eq_of_lt (by omega) (by omega)]
  rw [itT (by simp;omega),zZ rfl (show j<v.length by omega),sb,e1,zxR,sb,e2,zCV,zEW _ _ _ (by omega) (by omega) hw,zuX (show j<v.length by omega),zqL,hl,zz (by omega)]
  rfl
theorem zEV (b:List UInt8):zkQ b=some ((word (b.take 8):Nat):Int):=by
 unfold zkQ
 have e:(if (8:Int)<(b.length:Int) then (8:Int) else (b.length:Int))=((min 8 b.length:Nat):Int):=by split<;>omega
 have e2:b.take (min 8 b.length)=b.take 8:=by rw [List.take_eq_take_iff];omega
 rw [e,zoU rfl (by omega),sb,e2]
 have h:=zBK (v:=b.take 8) (by simp;omega) (b.take 8).length 0 (by omega)
 have h':zgv (b.take 8) 0 0=some ((word (b.take 8):Nat):Int):=h
 rw [h',sb]
theorem zzk {b:List UInt8} (hb:b.length≤1152921504606846976):∀(d j:Nat),j+d=min 8 b.length→zcB b ((word (b.take j):Nat):Int) ((256^j%18446744073709551616:Nat):Int) (j:Int)=some ((word (b.take 8):Nat):Int):=by
 intro d
 induction d with
 | zero=>
  intro j hj
  refine zkr ?_
  unfold zaY
  have e:b.take j=b.take 8:=by rw [List.take_eq_take_iff];omega
  rw [itF (by simp;omega),e]
 | succ d ih=>
  intro j hj
  have hl:(b.take j).length=j:=by simp;omega
  have hw:=zrT (b.take j)
  rw [hl] at hw
  refine (zkq (wv':=((word (b.take (j+1)):Nat):Int)) (place':=((256^(j+1)%18446744073709551616:Nat):Int)) (i':=((j+1:Nat):Int)) ?_).trans (ih (j+1) (by omega))
  unfold zaY
  have hc:=(b[j]'(by omega)).toNat_lt
  rw [itT (by simp;omega),zZ rfl (show j<b.length by omega),sb,wrap_u64 ((b[j]'(by omega)).toNat:Int),Int.emod_eq_of_lt (by omega) (by omega),zDL _ _ _ (by omega) (by omega) hw,zuX (show j<b.length by omega),zqL,hl,zz (by omega),←zyZ]
  rfl
theorem zDi {b:List UInt8} (hb:b.length≤1152921504606846976):zeN b=some ((word (b.take 8):Nat):Int):=by
 unfold zeN
 have h:=zzk hb (min 8 b.length) 0 (by omega)
 have h':zcB b 0 1 0=some ((word (b.take 8):Nat):Int):=h
 rw [h',sb]
end Go.Proofs.YtcbkcblkecmjnaaGreat
namespace Go.Proofs.YtcbkcblkecmjnaaGreat
open Go
set_option linter.unusedVariables false
def zbT (k:Int):Bool:=decide (1≤k∧k≤17)
def kNum (k:Int):Bool:=decide (1≤k∧k≤14)
def zcu (k:Int):Int:=if 15≤k then 2 else if 12≤k then 1 else if 9≤k then 5 else 0
def zfc (k w:Int):Int:=
 if k=1∨k=8 then zon (sgnS w) else if k=3∨k=5∨k=9∨k=10∨k=11 then w%4294967296 else if k=7 then (if 0<w then 1 else 0) else w
theorem zpp (k:Int):zds k=some (zbT k):=by unfold zds zbT;simp [Bool.decide_and]
theorem zjw (k:Int):zbm k=some (kNum k):=by unfold zbm kNum;simp [Bool.decide_and]
theorem zrb (k:Int):zdb k=some (zcu k):=by
 unfold zdb zcu
 by_cases h1:15≤k
 ·rw [itT (by simpa using h1),if_pos h1]
 ·rw [itF (by simpa using h1),if_neg h1]
  by_cases h2:12≤k
  ·rw [itT (by simpa using h2),if_pos h2]
  ·rw [itF (by simpa using h2),if_neg h2]
   by_cases h3:9≤k
   ·rw [itT (by simpa using h3),if_pos h3]
   ·rw [itF (by simpa using h3),if_neg h3]
theorem zra (k:Int) {w:Int} (h:0≤w∧w≤18446744073709551615):zdr k w=some (zfc k w):=by
 have hs:=zwi w
 unfold zdr zfc
 by_cases h1:k=1∨k=8
 ·rw [if_pos h1]
  have e:(if (k==1)=true then some (k==1) else some (k==8))=some true:=by rcases h1 with rfl| rfl<;>rfl
  rw [e,sb,itT rfl,zzj h,sb,zDh (by omega),sb]
 ·rw [if_neg h1]
  have e:(if (k==1)=true then some (k==1) else some (k==8))=some false:=by rw [itF (by simp;omega)];simp;omega
  rw [e,sb,itF rfl]
  by_cases h2:k=3∨k=5∨k=9∨k=10∨k=11
  ·rw [if_pos h2]
   have e2:(if (k==3)=true then some (k==3) else if (k==5)=true then some (k==5) else if (k==9)=true then some (k==9) else if (k==10)=true then some (k==10) else some (k==11))=some true:=by
    rcases h2 with rfl| rfl| rfl| rfl| rfl<;>rfl
   rw [e2,sb,itT rfl,Int.tmod_eq_emod_of_nonneg h.1]
  ·rw [if_neg h2]
   have e2:(if (k==3)=true then some (k==3) else if (k==5)=true then some (k==5) else if (k==9)=true then some (k==9) else if (k==10)=true then some (k==10) else some (k==11))=some false:=by
    rw [itF (by simp;omega),itF (by simp;omega),itF (by simp;omega),itF (by simp;omega)];simp;omega
   rw [e2,sb,itF rfl]
   by_cases h7:k=7
   ·rw [itT (by simpa using h7),if_pos h7]
    by_cases h0:0<w
    ·rw [itT (by simpa using h0),if_pos h0]
    ·rw [itF (by simpa using h0),if_neg h0]
   ·rw [itF (by simpa using h7),if_neg h7]
theorem zoQ (k:Int) {w:Int} (h:0≤w∧w≤18446744073709551615):0≤zfc k w∧zfc k w≤18446744073709551615:=by
 have hs:=zwi w
 unfold zfc
 split
 ·exact zET (by omega)
 ·split
  ·omega
  ·split
   ·split<;>omega
   ·exact h
theorem zqQ (k:Int) {w:Int} (h:0≤w∧w≤18446744073709551615):zfc k (zfc k w)=zfc k w:=by
 have hs:=zwi w
 unfold zfc
 by_cases h1:k=1∨k=8
 ·simp only [if_pos h1];rw [zDl hs]
 ·simp only [if_neg h1]
  by_cases h2:k=3∨k=5∨k=9∨k=10∨k=11
  ·simp only [if_pos h2];omega
  ·simp only [if_neg h2]
   by_cases h7:k=7
   ·simp only [if_pos h7];split<;>simp
   ·simp only [if_neg h7]
end Go.Proofs.YtcbkcblkecmjnaaGreat
namespace Go.Proofs.YtcbkcblkecmjnaaGreat
open Go
set_option linter.unusedVariables false
def rawW (k:Int) (b:List UInt8):Int:=if zcu k=0 then (rd b).1 else (word (b.take 8):Nat)
def zlY (k:Int) (b:List UInt8):Int×Int:=if kNum k=false then (0,2) else if zfp (zcu k) b=false then (0,12) else (zfc k (rawW k b),0)
def zzl (k:Int) (c:Nat):List UInt8:=if 12≤k then zsD 8 c else if 9≤k then zsD 4 c else enc c
def sPut (k w:Int):List UInt8:=zzl k (zfc k w).toNat
theorem znF (k:Int) {b:List UInt8}:0≤rawW k b∧rawW k b≤18446744073709551615:=by
 unfold rawW
 split
 ·have:=zgz b;omega
 ·have h:=zrT (b.take 8)
  have h2:(256:Nat)^(b.take 8).length≤256^8:=Nat.pow_le_pow_right (by omega) (by simp;omega)
  omega
theorem zrd (k:Int) {b:List UInt8} (hb:b.length≤1048576):zdO k b=some (zlY k b):=by
 unfold zdO zlY
 rw [zjw,sb]
 cases hn:kNum k
 ·rw [itT (by rfl),if_pos rfl]
 ·rw [itF (by rfl),if_neg (by simp),zrb,sb,zzc _ hb,sb]
  cases hf:zfp (zcu k) b
  ·rw [itT (by rfl),if_pos rfl]
  ·rw [itF (by rfl),if_neg (by simp),zDi (by omega),sb,sb]
   have hbd:=znF k (b:=b)
   have e0:zbc b 0=some (rd b):=by
    have:=zoF b 0 (by omega) (Nat.zero_le _)
    rw [List.drop_zero] at this
    exact this
   by_cases h0:zcu k=0
   ·have e:rawW k b=(rd b).1:=by unfold rawW;rw [if_pos h0]
    rw [itT (by simpa using h0),e0,sb,←e,zra k hbd,sb]
   ·have e:rawW k b=((word (b.take 8):Nat):Int):=by unfold rawW;rw [if_neg h0]
    rw [itF (by simpa using h0),←e,zra k hbd,sb]
theorem zjo {k:Int}:kNum k=true↔1≤k∧k≤14:=by simp [kNum]
end Go.Proofs.YtcbkcblkecmjnaaGreat
namespace Go.Proofs.YtcbkcblkecmjnaaGreat
open Go
set_option linter.unusedVariables false
def zkk (k:Int) (l:List UInt8):Int⊕Nat:=
 if k<9 then (if (rd l).2.2≠0 then .inl (rd l).2.2 else .inr (rd l).2.1.toNat) else if l.length<(if k<12 then 4 else 8) then .inl 3 else .inr (if k<12 then 4 else 8)
theorem zkl (k:Int) (l:List UInt8):(∃c,zkk k l= .inl c∧(c=3∨c=4))∨∃n,zkk k l= .inr n∧1≤n∧n≤l.length∧n≤10∧(k<9∧(rd l).2.2=0∧(rd l).2.1=(n:Int)∨¬k<9∧n=(if k<12 then 4 else 8)):=by
 obtain ⟨h1,h2,h3,h4,h5,h6,h7⟩:=zgz l
 unfold zkk
 by_cases h:k<9
 ·rw [if_pos h]
  by_cases h0:(rd l).2.2=0
  ·have:=h7 h0
   rw [if_neg (by simpa using h0)]
   exact .inr ⟨_,rfl,by omega,by omega,by omega,.inl ⟨h,h0,by omega⟩⟩
  ·rw [if_pos h0];exact .inl ⟨_,rfl,by omega⟩
 ·rw [if_neg h]
  by_cases h8:l.length<(if k<12 then 4 else 8)
  ·rw [if_pos h8];exact .inl ⟨_,rfl,by omega⟩
  ·rw [if_neg h8]
   exact .inr ⟨_,rfl,by split<;>omega,by omega,by split<;>omega,.inr ⟨h,rfl⟩⟩
def pcs (k:Int) (l:List UInt8):List (List UInt8)×Int:=
 if hl:l=[] then ([],0) else match h:zkk k l with
  | .inl c=>([],c)
  | .inr n=>(l.take n::(pcs k (l.drop n)).1,(pcs k (l.drop n)).2)
termination_by l.length
decreasing_by
 all_goals
  rcases zkl k l with ⟨c',h',_⟩| ⟨n',h',g1,g2,_⟩
  ·rw [h'] at h;cases h
  ·rw [h'] at h;cases h;simp only [List.length_drop];omega
theorem zlM (k:Int):pcs k []=([],0):=by rw [pcs,dif_pos rfl]
theorem znC {k:Int} {l:List UInt8} {c:Int} (hl:l≠[]) (h:zkk k l= .inl c):pcs k l=([],c):=by
 rw [pcs,dif_neg hl]
 split
 ·rename_i c' h';rw [h] at h';cases h';rfl
 ·rename_i h';rw [h] at h';cases h'
theorem zjs {k:Int} {l:List UInt8} {n:Nat} (hl:l≠[]) (h:zkk k l= .inr n):pcs k l=(l.take n::(pcs k (l.drop n)).1,(pcs k (l.drop n)).2):=by
 rw [pcs,dif_neg hl]
 split
 ·rename_i c' h';rw [h] at h';cases h'
 ·rename_i n' h';rw [h] at h';cases h';rfl
theorem znD (k:Int) (P:List UInt8→Prop) (h0:P []) (he:∀l c,l≠[]→zkk k l= .inl c→(c=3∨c=4)→P l)
  (hc:∀l n,l≠[]→zkk k l= .inr n→1≤n→n≤l.length→n≤10→P (l.drop n)→P l) (l:List UInt8):P l:=by
 generalize hn:l.length=m
 induction m using Nat.strongRecOn generalizing l with
 | _ m ih=>
  by_cases hl:l=[]
  ·subst hl;exact h0
  ·rcases zkl k l with ⟨c,h,hc'⟩| ⟨n,h,g1,g2,g3,_⟩
   ·exact he l c hl h hc'
   ·exact hc l n hl h g1 g2 g3 (ih _ (by simp only [List.length_drop];omega) _ rfl)
theorem zxz (k:Int) (l:List UInt8):(pcs k l).2=0∨(pcs k l).2=3∨(pcs k l).2=4:=by
 refine znD k (fun l=>(pcs k l).2=0∨(pcs k l).2=3∨(pcs k l).2=4) ?_ ?_ ?_ l
 ·rw [zlM];exact .inl rfl
 ·intro l c hl h hc;rw [znC hl h];exact .inr hc
 ·intro l n hl h _ _ _ ih;rw [zjs hl h];exact ih
theorem zvU (k:Int) (l:List UInt8):(pcs k l).1.length≤l.length:=by
 refine znD k (fun l=>(pcs k l).1.length≤l.length) ?_ ?_ ?_ l
 ·rw [zlM];simp
 ·intro l c hl h _;rw [znC hl h];simp
 ·intro l n hl h _ _ _ ih
  rw [zjs hl h]
  simp only [List.length_cons,List.length_drop] at ih⊢
  have:=List.length_pos_iff.2 hl
  omega
theorem zCX (k:Int) (l:List UInt8):(pcs k l).2=0→(pcs k l).1.flatten=l:=by
 refine znD k (fun l=>(pcs k l).2=0→(pcs k l).1.flatten=l) ?_ ?_ ?_ l
 ·rw [zlM];intro _;rfl
 ·intro l c hl h hc h2;rw [znC hl h] at h2;simp only at h2;omega
 ·intro l n hl h _ _ _ ih h2
  rw [zjs hl h] at h2⊢
  simp only [List.flatten_cons]
  rw [ih h2,List.take_append_drop]
theorem zzt {k:Int} (hk:kNum k=true) {l:List UInt8} {n:Nat} (h:zkk k l= .inr n):zfp (zcu k) (l.take n)=true:=by
 have hk':=zjo.1 hk
 rcases zkl k l with ⟨c,h',_⟩| ⟨n',h',g1,g2,g3,hcase⟩
 ·rw [h'] at h;cases h
 ·rw [h'] at h;cases h
  have hlen:(l.take n).length=n:=by simp;omega
  unfold zfp
  rcases hcase with ⟨h9,f1,f2⟩| ⟨h9,f1⟩
  ·have e:zcu k=0:=by unfold zcu;rw [if_neg (by omega),if_neg (by omega),if_neg (by omega)]
   rw [if_pos e]
   rcases zju l with h6| ⟨h6,_⟩| ⟨x,c,y,e,hx,hc,hl,hv,h6⟩
   ·rw [h6] at f1;cases f1
   ·rw [h6] at f1;cases f1
   ·rw [h6] at f2
    have e7:n=(x++[c]).length:=by simp at f2⊢;omega
    have e8:l.take n=x++c::[]:=by rw [e7,e,List.append_cons x c y,List.take_left]
    rw [e8,zAo x c [] hx hc hl hv]
    simp
  ·have h12:zcu k=1∧12≤k∨zcu k=5∧k<12:=by
    unfold zcu
    rw [if_neg (by omega)]
    by_cases hh:12≤k
    ·rw [if_pos hh];exact .inl ⟨rfl,hh⟩
    ·rw [if_neg hh,if_pos (by omega)];exact .inr ⟨rfl,by omega⟩
   rw [if_neg (by omega),hlen,f1]
   refine decide_eq_true ?_
   rcases h12 with ⟨e,hh⟩| ⟨e,hh⟩
   ·rw [e,if_neg (by omega)];right;left;exact ⟨rfl,rfl⟩
   ·rw [e,if_pos hh];right;right;exact ⟨rfl,rfl⟩
theorem zxA {k:Int} (hk:kNum k=true) (l:List UInt8):∀p∈(pcs k l).1,zfp (zcu k) p=true∧1≤p.length∧p.length≤10:=by
 refine znD k (fun l=>∀p∈(pcs k l).1,zfp (zcu k) p=true∧1≤p.length∧p.length≤10) ?_ ?_ ?_ l
 ·rw [zlM];intro p hp;cases hp
 ·intro l c hl h _;rw [znC hl h];intro p hp;cases hp
 ·intro l n hl h g1 g2 g3 ih
  rw [zjs hl h]
  intro p hp
  cases hp with
  | head=>exact ⟨zzt hk h,by simp;omega,by simp;omega⟩
  | tail _ hp=>exact ih p hp
def zhx (k:Int) (p:List UInt8):Int:=zfc k (rawW k p)
theorem zkh {k:Int} (hk:kNum k=true) {p:List UInt8} (hf:zfp (zcu k) p=true):zlY k p=(zhx k p,0):=by
 unfold zlY zhx
 rw [hk,if_neg (by simp),hf,if_neg (by simp)]
def ends (base:Nat):List (List UInt8)→List Int
 | []=>[]
 | p::ps=>((base+p.length:Nat):Int)::ends (base+p.length) ps
theorem zqR (base:Nat) (ps:List (List UInt8)):(ends base ps).length=ps.length:=by
 induction ps generalizing base with
 | nil=>rfl
 | cons p ps ih=>simp [ends,ih]
theorem zsi:∀(ps:List (List UInt8)) (base i:Nat),i<ps.length→(ends base ps)[i]? =some ((base+(ps.take (i+1)).flatten.length:Nat):Int)
 | [],_,_,h=>by simp at h
 | p::ps,base,0,_=>by simp [ends]
 | p::ps,base,i+1,h=>by
  have:=zsi ps (base+p.length) i (by simpa using h)
  simp only [ends,List.getElem?_cons_succ,this,List.take_succ_cons,List.flatten_cons,List.length_append,Nat.add_assoc]
theorem zvZ {b:List UInt8} (hb:b.length≤1048576) (k:Int) (l:List UInt8):∀(a:Nat) (out:List Int),a≤b.length→l=b.drop a→out.length≤a→
  zbW b k out a=some (if (pcs k l).2=0 then .inl (out++ends a (pcs k l).1) else .inr (pcs k l).2):=by
 refine znD k (fun l=>∀(a:Nat) (out:List Int),a≤b.length→l=b.drop a→out.length≤a→
  zbW b k out a=some (if (pcs k l).2=0 then .inl (out++ends a (pcs k l).1) else .inr (pcs k l).2)) ?_ ?_ ?_ l
 ·intro a out ha hl ho
  have:b.length≤a:=by have:=congrArg List.length hl;simp at this;omega
  rw [zlM,if_pos rfl]
  refine zgK ?_
  unfold zaB
  rw [itF (by simp;omega)]
  simp [ends]
 ·intro l c hl h hc a out ha hld ho
  subst hld
  have hlt:a<b.length:=by have:=List.length_pos_iff.2 hl;simp at this;omega
  have hdl:(b.drop a).length=b.length - a:=by simp
  rw [znC hl h,if_neg (by simp only;omega)]
  refine zgK ?_
  unfold zaB
  rw [itT (by simp;omega)]
  unfold zkk at h
  by_cases h9:k<9
  ·rw [if_pos h9] at h
   by_cases h0:(rd (b.drop a)).2.2=0
   ·rw [if_neg (by simpa using h0)] at h;cases h
   ·rw [if_pos h0] at h;cases h
    rw [itT (by simp;omega),sb,itT (by simpa using h9),zoF b a (by omega) ha,sb,itT (by simpa using h0),sb]
  ·rw [if_neg h9] at h
   by_cases h12:k<12
   ·simp only [if_pos h12] at h
    by_cases h8:(b.drop a).length<4
    ·rw [if_pos h8] at h;cases h
     rw [itT (by simpa using h12),sb,itF (by simpa using h9),sb]
     simp only
     rw [zz (by omega),itT (by simp;omega)]
    ·rw [if_neg h8] at h;cases h
   ·simp only [if_neg h12] at h
    by_cases h8:(b.drop a).length<8
    ·rw [if_pos h8] at h;cases h
     rw [itF (by simpa using h12),sb,itF (by simpa using h9),sb]
     simp only
     rw [zz (by omega),itT (by simp;omega)]
    ·rw [if_neg h8] at h;cases h
 ·intro l n hl h g1 g2 g3 ih a out ha hld ho
  subst hld
  have hdl:(b.drop a).length=b.length - a:=by simp
  have hbody:zaB b k out a=some (.inl (out++[((a+n:Nat):Int)],((a+n:Nat):Int))):=by
   unfold zaB
   rw [itT (by simp;omega)]
   rcases zkl k (b.drop a) with ⟨c,h',_⟩| ⟨n',h',_,_,_,hcase⟩
   ·rw [h'] at h;cases h
   ·rw [h'] at h;cases h
    rcases hcase with ⟨h9,f1,f2⟩| ⟨h9,f1⟩
    ·rw [itT (by simp;omega),sb,itT (by simpa using h9),zoF b a (by omega) ha,sb,itF (by simpa using f1),sb]
     simp only
     rw [f2,zz (by omega),itF (by simp;omega),zdp (by simp;omega),sb]
     push_cast;rfl
    ·by_cases h12:k<12
     ·rw [if_pos h12] at f1;subst f1
      rw [itT (by simpa using h12),sb,itF (by simpa using h9),sb]
      simp only
      rw [zz (by omega),itF (by simp;omega),zdp (by simp;omega),sb]
      push_cast;rfl
     ·rw [if_neg h12] at f1;subst f1
      rw [itF (by simpa using h12),sb,itF (by simpa using h9),sb]
      simp only
      rw [zz (by omega),itF (by simp;omega),zdp (by simp;omega),sb]
      push_cast;rfl
  rw [zkA hbody,ih (a+n) _ (by omega) (by rw [List.drop_drop]) (by simp;omega),zjs hl h]
  have e:((b.drop a).take n).length=n:=by simp;omega
  simp only [ends,e,List.append_assoc,List.singleton_append]
def zin (k:Int) (b:List UInt8):List Int×Int:=if kNum k=false then ([],2) else if (pcs k b).2=0 then (ends 0 (pcs k b).1,0) else ([],(pcs k b).2)
theorem zsX (k:Int) {b:List UInt8} (hb:b.length≤1048576):zdP k b=some (zin k b):=by
 unfold zdP zin
 rw [zjw,sb]
 cases hn:kNum k
 ·rw [itT (by rfl),if_pos rfl]
 ·have h:=zvZ hb k b 0 [] (Nat.zero_le _) rfl (Nat.le_refl _)
  have h':zbW b k [] 0=_:=h
  rw [itF (by rfl),if_neg (by simp),h',sb]
  by_cases h0:(pcs k b).2=0
  ·rw [if_pos h0,if_pos h0];rfl
  ·rw [if_neg h0,if_neg h0]
def zbs (k:Int) (b:List UInt8):List Int×Int:=if kNum k=false then ([],2) else if (pcs k b).2=0 then ((pcs k b).1.map (zhx k),0) else ([],(pcs k b).2)
theorem ztU {b:List UInt8} (hb:b.length≤1048576) {k:Int} (hk:kNum k=true) {ps:List (List UInt8)} (hps:∀p∈ps,zfp (zcu k) p=true) (hfl:ps.flatten=b) (hl:ps.length≤b.length) (c:Int):∀(d i:Nat),i+d=ps.length→
  zbx b k (ends 0 ps,c) ((ps.take i).map (zhx k)) i=some (ps.map (zhx k)):=by
 intro d
 induction d with
 | zero=>
  intro i hi
  refine zey ?_
  unfold zav
  rw [itF (by simp [zqR];omega),List.take_of_length_le (by omega)]
 | succ d ih=>
  intro i hi
  have hil:i<ps.length:=by omega
  have hps1:ps.take (i+1)=ps.take i++[ps[i]]:=by rw [List.take_add_one,List.getElem?_eq_getElem hil];rfl
  have hsplit:ps=ps.take i++ps[i]::ps.drop (i+1):=by rw [←List.drop_eq_getElem_cons hil,List.take_append_drop]
  have hb2:b=(ps.take i).flatten++(ps[i]++(ps.drop (i+1)).flatten):=by
   have h1:b=(ps.take i++ps[i]::ps.drop (i+1)).flatten:=by rw [←hsplit];exact hfl.symm
   rw [List.flatten_append,List.flatten_cons] at h1
   exact h1
  have hcut:(b.drop (ps.take i).flatten.length).take ((ps.take (i+1)).flatten.length - (ps.take i).flatten.length)=ps[i]:=by
   rw [hps1,List.flatten_append,List.length_append,Nat.add_sub_cancel_left]
   conv=>lhs;arg 2;rw [hb2]
   rw [List.drop_left]
   simp
  have hle:(ps.take (i+1)).flatten.length≤b.length:=by
   have:=congrArg List.length hb2
   rw [hps1]
   simp only [List.flatten_append,List.length_append,List.flatten_cons,List.flatten_nil,List.append_nil] at this⊢
   omega
  refine (zjS (out':=(ps.take (i+1)).map (zhx k)) (i':=((i+1:Nat):Int)) ?_).trans (ih (i+1) (by omega))
  unfold zav
  rw [itT (by simp [zqR];omega)]
  have efrom:(if (decide ((i:Int)>0))=true then (idx (ends 0 ps) (IntKind.i64.wrap ((i:Int) - 1))>>=fun x=>some x) else some 0)=some (((ps.take i).flatten.length:Nat):Int):=by
   cases i with
   | zero=>rw [itF (by simp)];simp
   | succ j=>
    have hg:=zsi ps 0 j (by omega)
    rw [itT (by first| (simp;done)| (simp;omega)),zz (by omega)]
    unfold idx
    rw [if_pos (by omega),show (((j+1:Nat):Int) - 1).toNat=j by omega,hg,sb]
    simp
  have hg:=zsi ps 0 i hil
  have eto:idx (ends 0 ps) (i:Int)=some (((ps.take (i+1)).flatten.length:Nat):Int):=by
   unfold idx
   rw [if_pos (by omega),Int.toNat_natCast,hg]
   simp
  have hmono:(ps.take i).flatten.length≤(ps.take (i+1)).flatten.length:=by rw [hps1,List.flatten_append,List.length_append];omega
  have hpl:(ps[i]).length≤b.length:=by have:=congrArg List.length hb2;simp at this;omega
  simp only
  rw [efrom,sb,eto,sb,zfY rfl rfl hmono hle,sb,hcut,zrd k (by omega),sb,zkh hk (hps _ (List.getElem_mem hil)),zdp (by simp;omega),sb,zz (by omega)]
  rw [hps1,List.map_append]
  rfl
theorem zxI (k:Int) {b:List UInt8} (hb:b.length≤1048576):zer k b=some (zbs k b):=by
 unfold zer zbs
 rw [zsX k hb,sb]
 unfold zin
 cases hn:kNum k
 ·rw [if_pos rfl,if_pos rfl]
  have h':zbx b k (([]:List Int),2) [] 0=some []:=by
   refine zey ?_
   unfold zav
   rw [itF (by simp)]
  rw [h',sb]
 ·simp only [if_neg (show ¬(true=false) by simp)]
  by_cases h0:(pcs k b).2=0
  ·simp only [if_pos h0]
   have h:=ztU hb hn (ps:=(pcs k b).1) (fun p hp=>(zxA hn b p hp).1) (zCX k b h0) (zvU k b) 0 (pcs k b).1.length 0 (by omega)
   have h':zbx b k (ends 0 (pcs k b).1,0) [] 0=_:=h
   rw [h',sb]
  ·simp only [if_neg h0]
   have h':zbx b k (([]:List Int),(pcs k b).2) [] 0=some []:=by
    refine zey ?_
    unfold zav
    rw [itF (by simp)]
   rw [h',sb]
end Go.Proofs.YtcbkcblkecmjnaaGreat
namespace Go.Proofs.YtcbkcblkecmjnaaGreat
open Go
set_option linter.unusedVariables false
abbrev Fld:=zc
abbrev Mes:=zh
def zkD {α:Type} (p:α→Bool) (l:List α):Int:=match l.findIdx? p with
 | some i=>(i:Int)
 | none=> -1
theorem zqT {α:Type} {p:α→Bool} {l:List α} (h:l.findIdx? p=none):zkD p l= -1:=by unfold zkD;rw [h]
theorem zqU {α:Type} {p:α→Bool} {l:List α} {i:Nat} (h:l.findIdx? p=some i):zkD p l=(i:Int):=by unfold zkD;rw [h]
theorem zqb {α:Type} (p:α→Bool) (l:List α) (F:Int→Option (Unit⊕Int)) (h0:F (l.length:Int)=some (.inl ())) (hs:∀(i:Nat) (h:i<l.length),F (i:Int)=if p l[i] then some (.inr (i:Int)) else F ((i+1:Nat):Int)):
  ∀(d i:Nat),i+d=l.length→(∀j (h:j<l.length),j<i→p l[j]=false)→F (i:Int)=some (match l.findIdx? p with| some k=> .inr (k:Int)| none=> .inl ()):=by
 intro d
 induction d with
 | zero=>
  intro i hi hj
  have:i=l.length:=by omega
  subst this
  have hn:l.findIdx? p=none:=by
   rw [List.findIdx?_eq_none_iff]
   intro x hx
   obtain ⟨j,hj',rfl⟩:=List.getElem_of_mem hx
   exact hj j hj' hj'
  rw [h0,hn]
 | succ d ih=>
  intro i hi hj
  have hil:i<l.length:=by omega
  rw [hs i hil]
  by_cases hp:p l[i]=true
  ·have hf:l.findIdx? p=some i:=by
    rw [List.findIdx?_eq_some_iff_getElem]
    exact ⟨hil,hp,fun j hji=>by simpa using hj j (by omega) hji⟩
   rw [if_pos hp,hf]
  ·rw [if_neg hp]
   refine ih (i+1) (by omega) fun j h hji=>?_
   by_cases e:j=i
   ·subst e;simpa using hp
   ·exact hj j h (by omega)
def fldI (m:Mes) (number:Int):Int:=zkD (fun f:Fld=>f.Number==number) m.Fields
theorem zxF {m:Mes} (hm:m.Fields.length≤1152921504606846976) (number:Int):zep m number=some (fldI m number):=by
 unfold zep fldI
 have h:=zqb (fun f:Fld=>f.Number==number) m.Fields (fun i=>zcp m number i) (by
   refine zgF ?_
   unfold zaG
   rw [itF (by simp)])
  (fun i hi=>by
   have hb:zaG m number i=if ((m.Fields[i]).Number==number)=true then some (.inr (.inr (i:Int))) else some (.inl ((i+1:Nat):Int)):=by
    unfold zaG
    rw [itT (by simp;omega),zZ rfl hi,sb,zz (by omega)];rfl
   by_cases hp:((m.Fields[i]).Number==number)=true
   ·rw [if_pos hp] at hb⊢;exact zgF hb
   ·rw [if_neg hp] at hb⊢;exact zjR hb)
  m.Fields.length 0 (by omega) (fun j _ hj=>by omega)
 have h':zcp m number 0=_:=h
 rw [h',sb]
 unfold zkD
 cases m.Fields.findIdx? (fun f:Fld=>f.Number==number)<;>rfl
def nmc (i:Nat) (c:UInt8):Bool:=decide (65≤c.toNat∧c.toNat≤90∨97≤c.toNat∧c.toNat≤122∨c.toNat=95∨0<i∧48≤c.toNat∧c.toNat≤57)
def nmA:Nat→List UInt8→Bool
 | _,[]=>true
 | i,c::l=>nmc i c&&nmA (i+1) l
def zeE (s:List UInt8):Bool:=nmA 0 s&&decide (1≤s.length∧s.length≤60)
theorem zfB {α:Type} {l t:List α} {x:α} {k:Nat} (h:l.drop k=x::t):∃hk:k<l.length,l[k]=x∧l.drop (k+1)=t:=by
 have hk:k<l.length:=by
  rcases Nat.lt_or_ge k l.length with h'| h'
  ·exact h'
  ·rw [List.drop_eq_nil_of_le h'] at h;cases h
 rw [List.drop_eq_getElem_cons hk] at h
 injection h with h1 h2
 exact ⟨hk,h1,h2⟩
theorem zgw {α:Type} {l:List α} {k:Nat} (h:l.drop k=[]):l.length≤k:=by have:=congrArg List.length h;simp at this;omega
theorem zAX (s:List UInt8) (hs:s.length≤1152921504606846976):∀(l:List UInt8) (i:Nat),s.drop i=l→zcG s i=some (if nmA i l=true then .inl () else .inr ()):=by
 intro l
 induction l with
 | nil=>
  intro i hd
  have:=zgw hd
  refine zgJ ?_
  unfold zaM
  rw [itF (by simp;omega)];rfl
 | cons c l ih=>
  intro i hd
  obtain ⟨hk,hx,hd'⟩:=zfB hd
  have hb:zaM s i=if nmc i c=true then some (.inl ((i+1:Nat):Int)) else some (.inr (.inr ())):=by
   unfold zaM
   rw [itT (by simp;omega),zZ rfl hk,sb,hx,zz (by omega)]
   have e:(if (decide ((c.toNat:Int)≥65)) then ((decide ((c.toNat:Int)≤90))|| (if (decide ((c.toNat:Int)≥97)) then ((decide ((c.toNat:Int)≤122))|| (((c.toNat:Int)==95)|| ((decide ((i:Int)>0))&&((decide ((c.toNat:Int)≥48))&&(decide ((c.toNat:Int)≤57)))))) else (((c.toNat:Int)==95)|| ((decide ((i:Int)>0))&&((decide ((c.toNat:Int)≥48))&&(decide ((c.toNat:Int)≤57))))))) else (if (decide ((c.toNat:Int)≥97)) then ((decide ((c.toNat:Int)≤122))|| (((c.toNat:Int)==95)|| ((decide ((i:Int)>0))&&((decide ((c.toNat:Int)≥48))&&(decide ((c.toNat:Int)≤57)))))) else (((c.toNat:Int)==95)|| ((decide ((i:Int)>0))&&((decide ((c.toNat:Int)≥48))&&(decide ((c.toNat:Int)≤57)))))))=nmc i c:=by
    have e95:((c.toNat:Int)==95)=decide (c.toNat=95):=znr _ 95
    have a1:decide ((c.toNat:Int)≥65)=decide (65≤c.toNat):=decide_eq_decide.2 (by omega)
    have a2:decide ((c.toNat:Int)≤90)=decide (c.toNat≤90):=decide_eq_decide.2 (by omega)
    have a3:decide ((c.toNat:Int)≥97)=decide (97≤c.toNat):=decide_eq_decide.2 (by omega)
    have a4:decide ((c.toNat:Int)≤122)=decide (c.toNat≤122):=decide_eq_decide.2 (by omega)
    have a5:decide ((i:Int)>0)=decide (0<i):=decide_eq_decide.2 (by omega)
    have a6:decide ((c.toNat:Int)≥48)=decide (48≤c.toNat):=decide_eq_decide.2 (by omega)
    have a7:decide ((c.toNat:Int)≤57)=decide (c.toNat≤57):=decide_eq_decide.2 (by omega)
    rw [e95,a1,a2,a3,a4,a5,a6,a7]
    simp only [nmc,Bool.decide_or,Bool.decide_and]
    generalize decide (65≤c.toNat)=p1
    generalize decide (c.toNat≤90)=p2
    generalize decide (97≤c.toNat)=p3
    generalize decide (c.toNat≤122)=p4
    generalize decide (c.toNat=95)=p5
    generalize decide (0<i)=p6
    generalize decide (48≤c.toNat)=p7
    generalize decide (c.toNat≤57)=p8
    cases p1<;>cases p2<;>cases p3<;>cases p4<;>cases p5<;>cases p6<;>cases p7<;>cases p8<;>rfl
   rw [e]
   cases nmc i c
   ·rw [itT (by rfl)];rfl
   ·rw [itF (by rfl)];push_cast;rfl
  rw [nmA]
  cases hc:nmc i c
  ·rw [hc,if_neg (by simp)] at hb
   rw [zgJ hb];rfl
  ·rw [hc,if_pos rfl] at hb
   rw [zkz hb,ih _ hd',Bool.true_and]
theorem zsY {s:List UInt8} (hs:s.length≤1152921504606846976):zdN s=some (zeE s):=by
 unfold zdN zeE
 have h:=zAX s hs s 0 rfl
 have h':zcG s 0=_:=h
 rw [h',sb]
 cases nmA 0 s
 ·rfl
 ·simp [Bool.decide_and]
  rw [Bool.eq_iff_iff];simp;omega
def zct (n:Int) (prev:List Fld) (f:Fld):Int:=
 if zeE f.Name=false then 5 else if prev.any (fun g=>g.Name==f.Name)=true then 6
 else if f.Number<1∨f.Number>536870911∨(19000≤f.Number∧f.Number<20000) then 7
 else if prev.any (fun g=>g.Number==f.Number)=true then 8 else if zbT f.Kind=false then 9
 else if f.Packed=true∧¬(f.Repeated=true∧kNum f.Kind=true) then 10
 else if f.Kind=17∧(f.Of<0∨f.Of≥n)∨f.Kind≠17∧f.Of≠0 then 11 else 0
theorem zsk (n:Int) (prev:List Fld) (f:Fld):0≤zct n prev f∧zct n prev f≤11:=by
 unfold zct
 repeat' split
 all_goals omega
theorem zyB {s:List Mes} {i k:Nat} {m:Mes} (hi:∃h:i<s.length,s[i]=m) (hk:k≤m.Fields.length) (hb:m.Fields.length≤1152921504606846976) (f:Fld):
  ∀(l:List Fld) (j:Nat) (a b:Bool),(m.Fields.take k).drop j=l→j≤k→zco i k s f a b j=some (a|| l.any (fun g=>g.Name==f.Name),b|| l.any (fun g=>g.Number==f.Number)):=by
 obtain ⟨hi,hm⟩:=hi
 intro l
 induction l with
 | nil=>
  intro j a b hd hj
  have:=zgw hd
  rw [List.length_take] at this
  refine zjQ ?_
  unfold zaS
  rw [itF (by simp;omega)];simp
 | cons g l ih=>
  intro j a b hd hj
  obtain ⟨hjk,hx,hd'⟩:=zfB hd
  rw [List.length_take] at hjk
  rw [List.getElem_take] at hx
  refine (zjP (name':=a|| (g.Name==f.Name)) (number':=b|| (g.Number==f.Number)) (j':=((j+1:Nat):Int)) ?_).trans ?_
  ·unfold zaS
   have e1:idx s (i:Int)=some m:=by rw [zZ rfl hi,hm]
   have e2:idx m.Fields (j:Int)=some g:=by rw [zZ rfl (by omega),hx]
   rw [itT (by simp;omega),e1,sb,e2,sb,zz (by omega)]
   cases a<;>cases b<;>(simp only [Bool.false_eq_true,if_false,if_true,e2,sb,Bool.false_or,Bool.true_or];push_cast;rfl)
  ·rw [ih _ _ _ hd' (by omega),List.any_cons,List.any_cons,Bool.or_assoc,Bool.or_assoc]
theorem zxE {s:List Mes} {i k:Nat} {m:Mes} {f:Fld} (hi:∃h:i<s.length,s[i]=m) (hk:∃h:k<m.Fields.length,m.Fields[k]=f) (hb:m.Fields.length≤1152921504606846976) (hf:f.Name.length≤1152921504606846976):
  zeo s i k=some (zct s.length (m.Fields.take k) f):=by
 obtain ⟨hil,hm⟩:=hi
 obtain ⟨hkl,hfe⟩:=hk
 have e1:idx s (i:Int)=some m:=by rw [zZ rfl hil,hm]
 have e2:idx m.Fields (k:Int)=some f:=by rw [zZ rfl hkl,hfe]
 have h:=zyB ⟨hil,hm⟩ (Nat.le_of_lt hkl) hb f (m.Fields.take k) 0 false false rfl (Nat.zero_le _)
 have h':zco i k s f false false 0=_:=h
 unfold zeo zct
 rw [e1,sb,e2,sb,h',sb,zsY hf,sb]
 simp only [Bool.false_or]
 cases h1:zeE f.Name
 ·rw [itT (by rfl),if_pos (show false=false from rfl)]
 ·rw [itF (by rfl),if_neg (show ¬(true=false) by simp)]
  cases h2:(m.Fields.take k).any (fun g=>g.Name==f.Name)
  ·rw [itF (by rfl),if_neg (show ¬(false=true) by simp)]
   by_cases h3:f.Number<1∨f.Number>536870911∨(19000≤f.Number∧f.Number<20000)
   ·rw [itT (by simpa using h3),if_pos h3]
   ·rw [itF (by simp;omega),if_neg h3]
    cases h4:(m.Fields.take k).any (fun g=>g.Number==f.Number)
    ·rw [itF (by rfl),if_neg (show ¬(false=true) by simp),zpp,sb]
     cases h5:zbT f.Kind
     ·rw [itT (by rfl),if_pos (show false=false from rfl)]
     ·rw [itF (by rfl),if_neg (show ¬(true=false) by simp)]
      have e10:(if f.Packed=true then (if f.Repeated=true then (zbm f.Kind>>=fun rv3=>some (!rv3)) else some (!false)) else some false)=some (decide (f.Packed=true∧¬(f.Repeated=true∧kNum f.Kind=true))):=by
       rw [zjw,sb]
       cases f.Packed<;>cases f.Repeated<;>cases kNum f.Kind<;>rfl
      rw [e10,sb]
      by_cases h6:f.Packed=true∧¬(f.Repeated=true∧kNum f.Kind=true)
      ·rw [itT (decide_eq_true h6),if_pos h6]
      ·rw [itF (decide_eq_false h6),if_neg h6]
       by_cases h7:f.Kind=17
       ·by_cases h8:f.Of<0∨f.Of≥(s.length:Int)
        ·rw [itT (by simp [h7];simpa using h8),if_pos (.inl ⟨h7,h8⟩)]
        ·rw [itF (by simp [h7];omega),if_neg (by simp [h7];omega)]
       ·by_cases h8:f.Of=0
        ·rw [itF (by simp [h7,h8]),if_neg (by simp [h7,h8])]
        ·rw [itT (by simp [h7,h8]),if_pos (.inr ⟨h7,h8⟩)]
    ·rw [itT (by rfl),if_pos (show true=true from rfl)]
  ·rw [itT (by rfl),if_pos (show true=true from rfl)]
def msgF (n:Int) (prev:List Fld):List Fld→Option (Nat×Int)
 | []=>none
 | f::l=>if 0<zct n prev f then some (prev.length,zct n prev f) else msgF n (prev++[f]) l
def chkF (n:Int) (prev:List Mes):List Mes→Option (Nat×Int×Int)
 | []=>none
 | m::l=>if zeE m.Name=false then some (prev.length, -1,2) else if prev.any (fun g=>g.Name==m.Name)=true then some (prev.length, -1,3)
  else if 200<m.Fields.length then some (prev.length, -1,4) else match msgF n [] m.Fields with
   | some (k,w)=>some (prev.length,(k:Int),w)
   | none=>chkF n (prev++[m]) l
def zhH (s:List Mes):Int×Int×Int:=if s.length=0∨100<s.length then (-1, -1,1) else match chkF s.length [] s with
 | none=>(0,0,0)
 | some (i,k,w)=>((i:Int),k,w)
def zkK (s:List Mes):Bool:=decide ((zhH s).2.2=0)
def WS (s:List Mes):Prop:=s.length≤140737488351232∧∀m∈s,m.Name.length≤140737488351232∧m.Fields.length≤140737488351232∧∀f∈m.Fields,f.Name.length≤140737488351232
theorem zwM {s:List Mes} {i:Nat} {m:Mes} (hi:∃h:i<s.length,s[i]=m) (hb:m.Fields.length≤140737488351232) (hn:∀f∈m.Fields,f.Name.length≤140737488351232):
  ∀(l:List Fld) (k:Nat),m.Fields.drop k=l→k≤m.Fields.length→zcn i s k=some (match msgF s.length (m.Fields.take k) l with| some (j,w)=> .inr ((j:Int),w)| none=> .inl ()):=by
 obtain ⟨hil,hm⟩:=hi
 have e1:idx s (i:Int)=some m:=by rw [zZ rfl hil,hm]
 intro l
 induction l with
 | nil=>
  intro k hd hk
  have:=zgw hd
  refine zgE ?_
  unfold zaF
  rw [e1,sb,itF (by simp;omega)];rfl
 | cons f l ih=>
  intro k hd hk
  obtain ⟨hkl,hx,hd'⟩:=zfB hd
  have hf:=zxE (s:=s) (i:=i) (k:=k) (m:=m) (f:=f) ⟨hil,hm⟩ ⟨hkl,hx⟩ (by omega) (by have:=hn f (by rw [←hx];exact List.getElem_mem hkl);omega)
  have hbd:=zsk s.length (m.Fields.take k) f
  have htl:(m.Fields.take k).length=k:=by rw [List.length_take];omega
  rw [msgF]
  by_cases h0:0<zct s.length (m.Fields.take k) f
  ·rw [if_pos h0]
   refine zgE ?_
   unfold zaF
   rw [e1,sb,itT (by simp;omega),hf,sb,itT (by simpa using h0)]
   simp only [htl]
  ·rw [if_neg h0]
   refine (zjO (k2':=((k+1:Nat):Int)) ?_).trans ?_
   ·unfold zaF
    rw [e1,sb,itT (by simp;omega),hf,sb,itF (by simp;omega),zz (by omega)]
    push_cast;rfl
   ·rw [ih (k+1) hd' (by omega),List.take_succ_eq_append_getElem hkl,hx]
theorem zwL {s:List Mes} {i:Nat} {m:Mes} (hi:∃h:i<s.length,s[i]=m) (hs:s.length≤140737488351232):
  ∀(l:List Mes) (k:Nat) (a:Bool),(s.take i).drop k=l→k≤i→zcm i s a k=some (a|| l.any (fun g=>g.Name==m.Name)):=by
 obtain ⟨hil,hm⟩:=hi
 intro l
 induction l with
 | nil=>
  intro k a hd hk
  have:=zgw hd
  rw [List.length_take] at this
  refine zjN ?_
  unfold zaR
  rw [itF (by simp;omega)];simp
 | cons g l ih=>
  intro k a hd hk
  obtain ⟨hkl,hx,hd'⟩:=zfB hd
  rw [List.length_take] at hkl
  rw [List.getElem_take] at hx
  refine (zjM (twice':=a|| (g.Name==m.Name)) (k':=((k+1:Nat):Int)) ?_).trans ?_
  ·unfold zaR
   have e1:idx s (i:Int)=some m:=by rw [zZ rfl hil,hm]
   have e2:idx s (k:Int)=some g:=by rw [zZ rfl (by omega),hx]
   rw [itT (by simp;omega),e1,e2,sb,sb,zz (by omega)]
   cases a<;>(simp only [Bool.false_eq_true,if_false,if_true,sb,Bool.false_or,Bool.true_or];push_cast;rfl)
  ·rw [ih _ _ hd' (by omega),List.any_cons,Bool.or_assoc]
theorem zwK {s:List Mes} (hw:WS s):∀(l:List Mes) (i:Nat),s.drop i=l→i≤s.length→zcl s i=some (match chkF s.length (s.take i) l with| some (j,k,w)=> .inr ((j:Int),k,w)| none=> .inl ()):=by
 intro l
 induction l with
 | nil=>
  intro i hd hi
  have:=zgw hd
  refine zcf ?_
  unfold zaE
  rw [itF (by simp;omega)];rfl
 | cons m l ih=>
  intro i hd hi
  obtain ⟨hil,hx,hd'⟩:=zfB hd
  obtain ⟨hsl,hwm⟩:=hw
  obtain ⟨w1,w2,w3⟩:=hwm m (by rw [←hx];exact List.getElem_mem hil)
  have htl:(s.take i).length=i:=by rw [List.length_take];omega
  have e1:idx s (i:Int)=some m:=by rw [zZ rfl hil,hx]
  have h2:=zwL ⟨hil,hx⟩ hsl (s.take i) 0 false rfl (Nat.zero_le _)
  have h2':zcm i s false 0=_:=h2
  have h3:=zwM ⟨hil,hx⟩ w2 w3 m.Fields 0 rfl (Nat.zero_le _)
  have h3':zcn i s 0=_:=h3
  have hb:zaE s i=(if zeE m.Name=false then some (.inr (.inr ((i:Int), -1,2))) else if (s.take i).any (fun g=>g.Name==m.Name)=true then some (.inr (.inr ((i:Int), -1,3)))
    else if 200<m.Fields.length then some (.inr (.inr ((i:Int), -1,4))) else match msgF s.length [] m.Fields with
     | some (k,w)=>some (.inr (.inr ((i:Int),(k:Int),w)))
     | none=>some (.inl ((i+1:Nat):Int))):=by
   unfold zaE
   rw [itT (by simp;omega),h2',sb,e1,sb,zsY (by omega),sb,sb,h3',sb,Bool.false_or]
   cases h4:zeE m.Name
   ·rw [itT (by rfl),if_pos (show false=false from rfl)]
   ·rw [itF (by rfl),if_neg (show ¬(true=false) by simp)]
    cases h5:(s.take i).any (fun g=>g.Name==m.Name)
    ·rw [itF (by rfl),if_neg (show ¬(false=true) by simp)]
     by_cases h6:200<m.Fields.length
     ·rw [itT (by simp;omega),if_pos h6]
     ·rw [itF (by simp;omega),if_neg h6,List.take_zero]
      cases msgF s.length [] m.Fields with
      | none=>simp only;rw [zz (by omega)];push_cast;rfl
      | some p=>rfl
    ·rw [itT (by rfl),if_pos (show true=true from rfl)]
  rw [chkF]
  by_cases h4:zeE m.Name=false
  ·rw [if_pos h4] at hb⊢
   rw [zcf hb];simp only [htl]
  ·rw [if_neg h4] at hb⊢
   by_cases h5:(s.take i).any (fun g=>g.Name==m.Name)=true
   ·rw [if_pos h5] at hb⊢
    rw [zcf hb];simp only [htl]
   ·rw [if_neg h5] at hb⊢
    by_cases h6:200<m.Fields.length
    ·rw [if_pos h6] at hb⊢
     rw [zcf hb];simp only [htl]
    ·rw [if_neg h6] at hb⊢
     cases h7:msgF s.length [] m.Fields with
     | some p=>
      rw [h7] at hb
      rw [zcf hb];simp only [htl]
     | none=>
      rw [h7] at hb
      rw [zjL hb,ih _ hd' (by omega),List.take_succ_eq_append_getElem hil,hx]
theorem ztQ {s:List Mes} (hw:WS s):zen s=some (zhH s):=by
 unfold zen zhH
 by_cases h:s.length=0∨100<s.length
 ·have e0:((s.length:Int)==0)=decide (s.length=0):=znr _ 0
  rw [e0,itT (by simp only [Bool.or_eq_true,decide_eq_true_eq];omega),if_pos h]
 ·have e0:((s.length:Int)==0)=decide (s.length=0):=znr _ 0
  rw [e0,itF (by simp only [Bool.or_eq_false_iff,decide_eq_false_iff_not];omega),if_neg h]
  have h1:=zwK hw s 0 rfl (Nat.zero_le _)
  have h1':zcl s 0=_:=h1
  rw [h1',sb,List.take_zero]
  cases chkF s.length [] s with
  | none=>rfl
  | some p=>rfl
theorem ztT {s:List Mes} (hw:WS s):zeq s=some (zkK s):=by
 unfold zeq zkK
 rw [ztQ hw,sb]
 rfl
theorem zqn {n:Int}:∀(l prev:List Fld),msgF n prev l=none↔∀(k:Nat) (f:Fld),l[k]? =some f→zct n (prev++l.take k) f=0
 | [],prev=>by simp [msgF]
 | f::l,prev=>by
  have hb:=zsk n prev f
  rw [msgF]
  by_cases h:0<zct n prev f
  ·rw [if_pos h]
   refine ⟨(fun h'=>nomatch h'),fun h'=>?_⟩
   have:=h' 0 f rfl
   simp at this;omega
  ·rw [if_neg h,zqn l (prev++[f])]
   constructor
   ·intro h' k g hg
    cases k with
    | zero=>simp at hg;subst hg;simp;omega
    | succ k=>have:=h' k g (by simpa using hg);simpa using this
   ·intro h' k g hg
    have:=h' (k+1) g (by simpa using hg)
    simpa using this
theorem zup {n:Int}:∀(l prev:List Mes),chkF n prev l=none↔∀(i:Nat) (m:Mes),l[i]? =some m→zeE m.Name=true∧(prev++l.take i).any (fun g=>g.Name==m.Name)=false∧m.Fields.length≤200∧msgF n [] m.Fields=none
 | [],prev=>by simp [chkF]
 | m::l,prev=>by
  rw [chkF]
  by_cases h1:zeE m.Name=false
  ·rw [if_pos h1]
   refine ⟨(fun h'=>nomatch h'),fun h'=>?_⟩
   have:=(h' 0 m rfl).1
   rw [h1] at this;cases this
  ·rw [if_neg h1]
   by_cases h2:prev.any (fun g=>g.Name==m.Name)=true
   ·rw [if_pos h2]
    refine ⟨(fun h'=>nomatch h'),fun h'=>?_⟩
    have:=(h' 0 m rfl).2.1
    simp only [List.take_zero,List.append_nil] at this
    rw [h2] at this;cases this
   ·rw [if_neg h2]
    by_cases h3:200<m.Fields.length
    ·rw [if_pos h3]
     refine ⟨(fun h'=>nomatch h'),fun h'=>?_⟩
     have:=(h' 0 m rfl).2.2.1
     omega
    ·rw [if_neg h3]
     cases h4:msgF n [] m.Fields with
     | some p=>
      refine ⟨(fun h'=>nomatch h'),fun h'=>?_⟩
      have:=(h' 0 m rfl).2.2.2
      rw [h4] at this;cases this
     | none=>
      simp only
      rw [zup l (prev++[m])]
      constructor
      ·intro h' i g hg
       cases i with
       | zero=>simp at hg;subst hg;exact ⟨by simpa using h1,by simpa using h2,by omega,h4⟩
       | succ i=>have:=h' i g (by simpa using hg);simpa using this
      ·intro h' i g hg
       have:=h' (i+1) g (by simpa using hg)
       simpa using this
theorem zEv:∀(n:Int) (l prev:List Fld) (k:Nat) (w:Int),msgF n prev l=some (k,w)→0<w:=by
 intro n l
 induction l with
 | nil=>intro prev k w h;cases h
 | cons f l ih=>
  intro prev k w h
  rw [msgF] at h
  split at h
  ·cases h;assumption
  ·exact ih _ _ _ h
theorem zzD:∀(n:Int) (l prev:List Mes) (i:Nat) (k w:Int),chkF n prev l=some (i,k,w)→0<w:=by
 intro n l
 induction l with
 | nil=>intro prev i k w h;cases h
 | cons m l ih=>
  intro prev i k w h
  rw [chkF] at h
  split at h
  ·cases h;omega
  ·split at h
   ·cases h;omega
   ·split at h
    ·cases h;omega
    ·split at h
     ·rename_i k' w' h';cases h;exact zEv _ _ _ _ _ h'
     ·exact ih _ _ _ _ h
structure zFa (n:Int) (f:Fld):Prop where
 name:zeE f.Name=true
 lo:1≤f.Number
 hi:f.Number≤536870911
 kind:zbT f.Kind=true
 packed:f.Packed=true→f.Repeated=true∧kNum f.Kind=true
 sub:f.Kind=17→0≤f.Of∧f.Of<n
 noSub:f.Kind≠17→f.Of=0
theorem zsl {n:Int} {prev:List Fld} {f:Fld} (h:zct n prev f=0):zFa n f∧prev.any (fun g=>g.Name==f.Name)=false∧prev.any (fun g=>g.Number==f.Number)=false:=by
 unfold zct at h
 split at h
 ·omega
 ·rename_i h1
  split at h
  ·omega
  ·rename_i h2
   split at h
   ·omega
   ·rename_i h3
    split at h
    ·omega
    ·rename_i h4
     split at h
     ·omega
     ·rename_i h5
      split at h
      ·omega
      ·rename_i h6
       split at h
       ·omega
       ·rename_i h7
        refine ⟨⟨by simpa using h1,by omega,by omega,by simpa using h5,fun hp=>?_,fun hk=>by omega,fun hk=>by omega⟩,by simpa using h2,by simpa using h4⟩
        by_cases hq:f.Repeated=true∧kNum f.Kind=true
        ·exact hq
        ·exact absurd ⟨hp,hq⟩ h6
structure zgR (s:List Mes):Prop where
 len:1≤s.length∧s.length≤100
 name:∀m∈s,zeE m.Name=true
 names:∀(i j:Nat) (a b:Mes),i<j→s[i]? =some a→s[j]? =some b→a.Name≠b.Name
 few:∀m∈s,m.Fields.length≤200
 fld:∀m∈s,∀f∈m.Fields,zFa s.length f
 nums:∀m∈s,∀(i j:Nat) (f g:Fld),i<j→m.Fields[i]? =some f→m.Fields[j]? =some g→f.Number≠g.Number∧f.Name≠g.Name
theorem zpR {α:Type} {l:List α} {p:α→Bool} (h:l.any p=false) {x:α} (hx:x∈l):p x=false:=by
 rw [List.any_eq_false] at h
 simpa using h x hx
theorem zBj {s:List Mes} (h:zkK s=true):zgR s:=by
 have h0:(zhH s).2.2=0:=by simpa [zkK] using h
 have h1:¬(s.length=0∨100<s.length):=fun hh=>by unfold zhH at h0;rw [if_pos hh] at h0;simp at h0
 have h2:chkF s.length [] s=none:=by
  cases h4:chkF s.length [] s with
  | none=>rfl
  | some p=>
   exfalso
   obtain ⟨i,k,w⟩:=p
   have h5:(zhH s).2.2=w:=by unfold zhH;rw [if_neg h1,h4]
   have:=zzD _ _ _ _ _ _ h4
   omega
 have h3:=(zup s []).1 h2
 have at':∀m∈s,zeE m.Name=true∧m.Fields.length≤200∧msgF s.length [] m.Fields=none:=fun m hm=>by
  obtain ⟨i,hi,rfl⟩:=List.getElem_of_mem hm
  have:=h3 i _ (List.getElem?_eq_getElem hi)
  exact ⟨this.1,this.2.2.1,this.2.2.2⟩
 refine ⟨by omega,fun m hm=>(at' m hm).1,fun i j a b hij ha hb=>?_,fun m hm=>(at' m hm).2.1,fun m hm f hf=>?_,fun m hm i j f g hij hf hg=>?_⟩
 ·have:=(h3 j b hb).2.1
  have hai:a∈([]++s.take j:List Mes):=by
   rw [List.nil_append]
   exact List.mem_of_getElem? (i:=i) (by rw [List.getElem?_take,if_pos hij];exact ha)
  simpa using zpR this hai
 ·have h4:=(zqn m.Fields []).1 (at' m hm).2.2
  obtain ⟨i,hi,rfl⟩:=List.getElem_of_mem hf
  exact (zsl (h4 i _ (List.getElem?_eq_getElem hi))).1
 ·have h4:=(zqn m.Fields []).1 (at' m hm).2.2
  obtain ⟨_,k1,k2⟩:=zsl (h4 j g hg)
  have hai:f∈([]++m.Fields.take j:List Fld):=by
   rw [List.nil_append]
   exact List.mem_of_getElem? (i:=i) (by rw [List.getElem?_take,if_pos hij];exact hf)
  exact ⟨by simpa using zpR k2 hai,by simpa using zpR k1 hai⟩
theorem zjA {α:Type} [DecidableEq α] (a b:List α) (F:Int→Option (Unit⊕Unit)) (hl:a.length=b.length) (h0:F (a.length:Int)=some (.inl ()))
  (hs:∀(i:Nat) (h:i<a.length) (h':i<b.length),F (i:Int)=if a[i]=b[i] then F ((i+1:Nat):Int) else some (.inr ())):
  ∀(d i:Nat),i+d=a.length→F (i:Int)=some (if a.drop i=b.drop i then .inl () else .inr ()):=by
 intro d
 induction d with
 | zero=>
  intro i hi
  have e1:a.drop i=[]:=List.drop_eq_nil_of_le (by omega)
  have e2:b.drop i=[]:=List.drop_eq_nil_of_le (by omega)
  have:i=a.length:=by omega
  rw [e1,e2,if_pos rfl,this,h0]
 | succ d ih=>
  intro i hi
  rw [hs i (by omega) (by omega),List.drop_eq_getElem_cons (l:=a) (by omega),List.drop_eq_getElem_cons (l:=b) (by omega)]
  by_cases h:a[i]'(by omega)=b[i]'(by omega)
  ·rw [if_pos h,ih (i+1) (by omega),h]
   simp only [List.cons.injEq,true_and]
  ·rw [if_neg h,if_neg (fun e=>h (List.cons.inj e).1)]
theorem zAH {s:List Mes} {i:Nat} {m:Mes} (hi:∃h:i<s.length,s[i]=m) (hb:m.Fields.length≤140737488351232):∀(d k:Nat) (n:Int),k+d=m.Fields.length→∃r,zdg i s n k=some r:=by
 obtain ⟨hil,hm⟩:=hi
 have e1:idx s (i:Int)=some m:=by rw [zZ rfl hil,hm]
 intro d
 induction d with
 | zero=>
  intro k n hk
  refine ⟨n,zkU ?_⟩
  unfold zbl
  rw [e1,sb,itF (by simp;omega)]
 | succ d ih=>
  intro k n hk
  obtain ⟨r,hr⟩:=ih (k+1) (IntKind.i64.wrap (n+(IntKind.i64.wrap (Int.tdiv (((m.Fields[k]'(by omega)).Name.length:Int)) 100)))) (by omega)
  refine ⟨r,(zkT (k':=((k+1:Nat):Int)) ?_).trans hr⟩
  unfold zbl
  rw [e1,sb,itT (by simp;omega),sb,zZ rfl (by omega),sb,zz (x:=(k:Int)+1) (by omega)]
  push_cast;rfl
theorem zFs {s:List Mes} (hw:WS s):∃b,zfl s=some b:=by
 obtain ⟨hs,hm⟩:=hw
 have key:∀(d i:Nat) (n:Int),i+d=s.length→∃r,zdf s n i=some r:=by
  intro d
  induction d with
  | zero=>
   intro i n hi
   refine ⟨n,zkS ?_⟩
   unfold zbk
   rw [itF (by simp;omega)]
  | succ d ih=>
   intro i n hi
   have hil:i<s.length:=by omega
   obtain ⟨q,hq⟩:=zAH (s:=s) (i:=i) (m:=s[i]) ⟨hil,rfl⟩ (hm _ (List.getElem_mem hil)).2.1 (s[i]).Fields.length 0
    (IntKind.i64.wrap ((IntKind.i64.wrap ((IntKind.i64.wrap (n+1))+(IntKind.i64.wrap (Int.tdiv ((s[i]).Name.length:Int) 100))))+((s[i]).Fields.length:Int))) (by omega)
   have hq':zdg i s (IntKind.i64.wrap ((IntKind.i64.wrap ((IntKind.i64.wrap (n+1))+(IntKind.i64.wrap (Int.tdiv ((s[i]).Name.length:Int) 100))))+((s[i]).Fields.length:Int))) 0=some q:=hq
   obtain ⟨r,hr⟩:=ih (i+1) q (by omega)
   refine ⟨r,(zkR (i':=((i+1:Nat):Int)) ?_).trans hr⟩
   unfold zbk
   rw [itT (by simp;omega),zZ rfl hil,sb,sb,hq',sb,zz (x:=(i:Int)+1) (by omega)]
   push_cast;rfl
 obtain ⟨r,hr⟩:=key s.length 0 0 (by omega)
 have hr':zdf s 0 0=some r:=hr
 exact ⟨_,by unfold zfl;rw [hr',sb]⟩
def zbt (m:Mes) (p:Int):Int:=(m.Fields.getD p.toNat ⟨[],0,0,false,false,0⟩).Number
def insS (κ:Int→Int) (i:Int) (out:List Int):List Int:=out.takeWhile (fun x=>decide (κ x≤κ i))++i::out.dropWhile (fun x=>decide (κ x≤κ i))
def zcj (κ:Int→Int):Nat→List Int
 | 0=>[]
 | n+1=>insS κ n (zcj κ n)
theorem zuB (κ:Int→Int) (i:Int) (out:List Int):(insS κ i out).Perm (i::out):=by
 unfold insS
 refine List.perm_middle.trans ?_
 rw [List.takeWhile_append_dropWhile]
theorem zeI {κ:Int→Int}:∀{n:Nat} {x:Int},x∈zcj κ n↔0≤x∧x<n
 | 0,x=>by
  simp only [zcj,List.not_mem_nil,false_iff];omega
 | n+1,x=>by
  rw [zcj,(zuB κ n _).mem_iff,List.mem_cons,zeI]
  omega
theorem znM (κ:Int→Int):∀(n:Nat),(zcj κ n).length=n
 | 0=>rfl
 | n+1=>by rw [zcj,(zuB κ n _).length_eq,List.length_cons,znM κ n]
def zpT (κ:Int→Int) (a b:Int):Prop:=κ a<κ b∨κ a=κ b∧a<b
theorem zws {κ:Int→Int} {c:Int}:∀{l:List Int},∀x∈l.takeWhile (fun x=>decide (κ x≤c)),κ x≤c∧x∈l:=by
 intro l
 induction l with
 | nil=>intro x hx;simp at hx
 | cons y l ih=>
  intro x hx
  rw [List.takeWhile_cons] at hx
  by_cases hy:κ y≤c
  ·rw [if_pos (by simpa using hy)] at hx
   rcases List.mem_cons.1 hx with rfl| hx
   ·exact ⟨hy,List.mem_cons_self⟩
   ·exact ⟨(ih x hx).1,List.mem_cons_of_mem _ (ih x hx).2⟩
  ·rw [if_neg (by simpa using hy)] at hx;cases hx
theorem zvv {κ:Int→Int} {c:Int}:∀{l:List Int},l.Pairwise (zpT κ)→∀x∈l.dropWhile (fun x=>decide (κ x≤c)),c<κ x:=by
 intro l
 induction l with
 | nil=>intro _ x hx;simp at hx
 | cons y l ih=>
  intro hp x hx
  rw [List.dropWhile_cons] at hx
  have hp':=List.pairwise_cons.1 hp
  by_cases hy:κ y≤c
  ·rw [if_pos (by simpa using hy)] at hx
   exact ih hp'.2 x hx
  ·rw [if_neg (by simpa using hy)] at hx
   rcases List.mem_cons.1 hx with rfl| hx
   ·omega
   ·have:=hp'.1 x hx
    unfold zpT at this
    omega
theorem zpA (κ:Int→Int):∀(n:Nat),(zcj κ n).Pairwise (zpT κ)
 | 0=> .nil
 | n+1=>by
  have ih:=zpA κ n
  have hm:∀x∈zcj κ n,x<n:=fun x hx=>(zeI.1 hx).2
  rw [zcj,insS]
  have hsplit:(zcj κ n).takeWhile (fun x=>decide (κ x≤κ n))++(zcj κ n).dropWhile (fun x=>decide (κ x≤κ n))=zcj κ n:=List.takeWhile_append_dropWhile
  have hp:((zcj κ n).takeWhile (fun x=>decide (κ x≤κ n))++(zcj κ n).dropWhile (fun x=>decide (κ x≤κ n))).Pairwise (zpT κ):=by rw [hsplit];exact ih
  have ht:=zws (κ:=κ) (c:=κ n) (l:=zcj κ n)
  have hd:=zvv (c:=κ n) ih
  have htm:∀x∈(zcj κ n).takeWhile (fun x=>decide (κ x≤κ n)),x<n:=fun x hx=>hm x (ht x hx).2
  rw [List.pairwise_append] at hp⊢
  refine ⟨hp.1,List.pairwise_cons.2 ⟨fun x hx=> .inl (hd x hx),hp.2.1⟩,fun a ha b hb=>?_⟩
  rcases List.mem_cons.1 hb with rfl| hb
  ·have h1:=(ht a ha).1
   have h2:=htm a ha
   unfold zpT;omega
  ·exact hp.2.2 a ha b hb
theorem zwk {m:Mes} {i:Nat} {out:List Int} (hi:i<m.Fields.length) (hb:m.Fields.length≤1099511627776) (hol:out.length≤1099511627776) (ho:∀x∈out,0≤x∧x<m.Fields.length):
  ∀(t:List Int) (k:Nat),out.drop k=t→k≤out.length→zcd i m out k=some ((k+(t.takeWhile (fun x=>decide (zbt m x≤zbt m i))).length:Nat):Int):=by
 have ki:zbt m i=(m.Fields[i]).Number:=by unfold zbt;rw [Int.toNat_natCast,List.getD_eq_getElem?_getD,List.getElem?_eq_getElem hi];rfl
 intro t
 induction t with
 | nil=>
  intro k hd hk
  have:=zgw hd
  refine zgl ?_
  unfold zax
  rw [itF (by simp;omega),sb,itF (by rfl)];simp
 | cons x t ih=>
  intro k hd hk
  obtain ⟨hkl,hx,hd'⟩:=zfB hd
  have hxo:=ho x (by rw [←hx];exact List.getElem_mem hkl)
  have kx:zbt m x=(m.Fields[x.toNat]'(by omega)).Number:=by unfold zbt;rw [List.getD_eq_getElem?_getD,List.getElem?_eq_getElem (by omega)];rfl
  have hb2:zax i m out k=if zbt m x≤zbt m i then some (.inl ((k+1:Nat):Int)) else some (.inr (k:Int)):=by
   unfold zax
   rw [itT (by simp;omega),zZ rfl hkl,sb,hx,zZ (n:=x.toNat) (by omega) (by omega),sb,zZ rfl hi,sb,sb,kx,ki,zz (by omega)]
   by_cases h:(m.Fields[x.toNat]'(by omega)).Number≤(m.Fields[i]).Number
   ·rw [itT (by simpa using h),if_pos h];push_cast;rfl
   ·rw [itF (by simpa using h),if_neg h]
  rw [List.takeWhile_cons]
  by_cases h:zbt m x≤zbt m i
  ·rw [if_pos h] at hb2
   rw [zji hb2,ih _ hd' (by omega),if_pos (by simpa using h),List.length_cons]
   congr 2;omega
  ·rw [if_neg h] at hb2
   rw [zgl hb2,if_neg (by simpa using h)];simp
theorem zwa {m:Mes} (hb:m.Fields.length≤1099511627776):zdV m=some (zcj (zbt m) m.Fields.length):=by
 have key:∀(d i:Nat),i+d=m.Fields.length→zcc m (zcj (zbt m) i) i=some (zcj (zbt m) m.Fields.length):=by
  intro d
  induction d with
  | zero=>
   intro i hi
   have:i=m.Fields.length:=by omega
   subst this
   refine zjh ?_
   unfold zaJ
   rw [itF (by simp)]
  | succ d ih=>
   intro i hi
   refine (zjg (out':=zcj (zbt m) (i+1)) (i':=((i+1:Nat):Int)) ?_).trans (ih _ (by omega))
   have hl:=znM (zbt m) i
   have h2:=zwk (m:=m) (i:=i) (out:=zcj (zbt m) i) (by omega) hb (by omega) (fun x hx=>by have:=zeI.1 hx;omega) (zcj (zbt m) i) 0 rfl (Nat.zero_le _)
   have h2':zcd i m (zcj (zbt m) i) 0=_:=h2
   rw [Nat.zero_add] at h2'
   have hsp:(zcj (zbt m) i).takeWhile (fun x=>decide (zbt m x≤zbt m i))++(zcj (zbt m) i).dropWhile (fun x=>decide (zbt m x≤zbt m i))=zcj (zbt m) i:=List.takeWhile_append_dropWhile
   generalize htk:(zcj (zbt m) i).takeWhile (fun x=>decide (zbt m x≤zbt m i))=tk at h2' hsp
   generalize hdk:(zcj (zbt m) i).dropWhile (fun x=>decide (zbt m x≤zbt m i))=dk at hsp
   have hins:zcj (zbt m) (i+1)=tk++(i:Int)::dk:=by rw [zcj,insS,htk,hdk]
   have hlen:tk.length+dk.length=i:=by rw [←hl,←hsp,List.length_append]
   have c1:cut (zcj (zbt m) i) 0 ((tk.length:Nat):Int)=some tk:=by rw [zoU rfl (by omega),←hsp,List.take_left]
   have c2:cut (zcj (zbt m) i) ((tk.length:Nat):Int) ((zcj (zbt m) i).length:Int)=some dk:=by rw [zmC rfl rfl (by omega),←hsp,List.drop_left]
   unfold zaJ
   rw [itT (by simp;omega),h2',sb,c1,sb,zdp (by simp;omega),sb,List.nil_append,zdp (by simp;omega),sb,c2,sb,zdp (by simp;omega),sb,zz (by omega),hins]
   simp
 unfold zdV
 have h:=key m.Fields.length 0 (by omega)
 have h':zcc m [] 0=_:=h
 rw [h',sb]
end Go.Proofs.YtcbkcblkecmjnaaGreat
namespace Go.Proofs.YtcbkcblkecmjnaaGreat
open Go
set_option linter.unusedVariables false
abbrev Vw:=zG
def zvw:Vw:=⟨zrec,0,false⟩
def zV (m:Mes) (i:Int):Fld:=m.Fields.getD i.toNat ⟨[],0,0,false,false,0⟩
def vw (m:Mes) (n w:Int):Int⊕(Int×Bool):=
 if fldI m n<0 then .inr (-1,false)
 else if (zV m (fldI m n)).Repeated=true∧kNum (zV m (fldI m n)).Kind=true∧w=2 then .inr (fldI m n,true)
 else if zbT (zV m (fldI m n)).Kind=false∨zcu (zV m (fldI m n)).Kind≠w then .inl 6 else .inr (fldI m n,false)
theorem zjm (m:Mes) (n:Int):fldI m n= -1∧(∀f∈m.Fields,f.Number≠n)∨∃(i:Nat) (h:i<m.Fields.length),fldI m n=i∧m.Fields[i].Number=n∧∀(j:Nat) (h:j<m.Fields.length),j<i→m.Fields[j].Number≠n:=by
 unfold fldI
 cases h:m.Fields.findIdx? (fun f:Fld=>f.Number==n) with
 | none=>
  left
  rw [List.findIdx?_eq_none_iff] at h
  exact ⟨zqT (List.findIdx?_eq_none_iff.2 h),fun f hf=>by simpa using h f hf⟩
 | some i=>
  right
  have h':=h
  rw [List.findIdx?_eq_some_iff_getElem] at h
  obtain ⟨hi,hp,hj⟩:=h
  exact ⟨i,hi,zqU h',by simpa using hp,fun j hjl hji=>by simpa using hj j hji⟩
theorem zdX {m:Mes} {i:Nat} (h:i<m.Fields.length):zV m (i:Int)=m.Fields[i]:=by
 unfold zV;rw [Int.toNat_natCast,List.getD_eq_getElem?_getD,List.getElem?_eq_getElem h];rfl
theorem zft (m:Mes) (n w:Int):vw m n w= .inl 6∨vw m n w= .inr (-1,false)∧fldI m n= -1∨∃(i:Nat) (run:Bool),vw m n w= .inr ((i:Int),run)∧fldI m n=i∧i<m.Fields.length:=by
 unfold vw
 rcases zjm m n with ⟨h,_⟩| ⟨i,hi,h,_⟩
 ·right;left;rw [h,if_pos (by omega)];exact ⟨rfl,rfl⟩
 ·rw [h,if_neg (by omega)]
  split
  ·right;right;exact ⟨i,true,rfl,rfl,hi⟩
  ·split
   ·left;rfl
   ·right;right;exact ⟨i,false,rfl,rfl,hi⟩
def zbE (m:Mes) (b:List UInt8) (at5:Int):Vw×Int:=
 if (zcR b at5).2≠0 then (zvw,(zcR b at5).2) else match vw m (zcR b at5).1.Number (zcR b at5).1.Wire with
  | .inl c=>(zvw,c)
  | .inr (i,run)=>(⟨(zcR b at5).1,i,run⟩,0)
theorem zhR {m:Mes} (hm:m.Fields.length≤1152921504606846976) {b:List UInt8} (hb:b.length≤1048576) (at5:Int):zdQ m b at5=some (zbE m b at5):=by
 unfold zdQ zbE
 rw [zze hb,sb]
 by_cases h:(zcR b at5).2=0
 ·rw [itF (by simpa using h),if_neg (by simpa using h),zxF hm,sb]
  generalize (zcR b at5).1=r
  unfold vw
  rcases zjm m r.Number with ⟨hf,_⟩| ⟨i,hi,hf,_⟩
  ·rw [hf,itT (by rfl),if_pos (by decide)]
  ·rw [hf,itF (by simp),if_neg (by omega),zZ rfl hi,sb,zdX hi,zjw,sb,zpp,sb,zrb,sb]
   have e:(if (m.Fields[i]).Repeated=true then (if kNum (m.Fields[i]).Kind=true then some (r.Wire==2) else some false) else some false)=some (decide ((m.Fields[i]).Repeated=true∧kNum (m.Fields[i]).Kind=true∧r.Wire=2)):=by
    cases (m.Fields[i]).Repeated
    ·rfl
    ·cases kNum (m.Fields[i]).Kind
     ·rfl
     ·by_cases hw:r.Wire=2<;>simp [hw]
   rw [e,sb]
   by_cases h1:(m.Fields[i]).Repeated=true∧kNum (m.Fields[i]).Kind=true∧r.Wire=2
   ·rw [itT (decide_eq_true h1),if_pos h1]
   ·rw [itF (decide_eq_false h1),if_neg h1]
    have e2:(if (!zbT (m.Fields[i]).Kind)=true then some true else some (zcu (m.Fields[i]).Kind !=r.Wire))=some (decide (zbT (m.Fields[i]).Kind=false∨zcu (m.Fields[i]).Kind≠r.Wire)):=by
     cases zbT (m.Fields[i]).Kind
     ·rfl
     ·by_cases hw:zcu (m.Fields[i]).Kind=r.Wire<;>simp [hw]
    rw [e2,sb]
    by_cases h2:zbT (m.Fields[i]).Kind=false∨zcu (m.Fields[i]).Kind≠r.Wire
    ·rw [itT (decide_eq_true h2),if_pos h2];rfl
    ·rw [itF (decide_eq_false h2),if_neg h2]
 ·rw [itT (by simpa using h),if_pos h];rfl
def vws (m:Mes) (e:Option (Nat×Int)):List Rec→List Vw×Option (Int×Int)
 | []=>([],e.map fun p=>((p.1:Int),p.2))
 | r::l=>match vw m r.Number r.Wire with
  | .inl c=>([],some (r.From,c))
  | .inr (i,run)=>(⟨r,i,run⟩::(vws m e l).1,(vws m e l).2)
def vwR (r:List Vw×Option (Int×Int)):List Vw×Int×Int:=match r.2 with
 | none=>(r.1,0,0)
 | some (p,c)=>([],p,c)
def zdz (m:Mes) (b:List UInt8):List Vw×Int×Int:=vwR (vws m (spl 0 b).2 (spl 0 b).1)
theorem zxD {m:Mes} (hm:m.Fields.length≤1152921504606846976) {b:List UInt8} (hb:b.length≤1048576) (base:Nat) (l:List UInt8):∀(out:List Vw),base≤b.length→l=b.drop base→out.length≤base→
  zch b m out base=some (match (vws m (spl base l).2 (spl base l).1).2 with| none=> .inl (out++(vws m (spl base l).2 (spl base l).1).1)| some (p,c)=> .inr (p,c)):=by
 refine zgB (fun base l=>∀(out:List Vw),base≤b.length→l=b.drop base→out.length≤base→
  zch b m out base=some (match (vws m (spl base l).2 (spl base l).1).2 with| none=> .inl (out++(vws m (spl base l).2 (spl base l).1).1)| some (p,c)=> .inr (p,c))) ?_ ?_ ?_ base l
 ·intro base out hbase hl ho
  have:b.length≤base:=by have:=congrArg List.length hl;simp at this;omega
  rw [zfH]
  simp only [vws,Option.map_none,List.append_nil]
  refine zfo ?_
  unfold zaz
  rw [itF (by simp;omega)]
 ·intro base l c hl h hc out hbase hld ho
  subst hld
  have hlt:base<b.length:=by have:=List.length_pos_iff.2 hl;simp at this;omega
  rw [zgi hl h]
  simp only [vws,Option.map_some]
  refine zfo ?_
  unfold zaz
  have e:zcR b base=(zrec,c):=by unfold zcR;rw [if_neg (by omega),Int.toNat_natCast,h]
  have e2:zbE m b base=(zvw,c):=by unfold zbE;rw [e,if_pos (by simp only;omega)]
  rw [itT (by simp;omega),zhR hm hb,sb,e2,itT (by simp;omega)]
 ·intro base l n w a t hl h _ g1 g2 g3 ih out hbase hld ho
  subst hld
  simp only [List.length_drop] at g3
  have hlt:base<b.length:=by omega
  rw [zdZ hl h]
  have e:zcR b base=(⟨n,w,base,(base+a:Nat),(base+t:Nat)⟩,0):=by
   unfold zcR;rw [if_neg (by omega),Int.toNat_natCast,h];push_cast;rfl
  rw [vws]
  rcases zft m n w with hv| ⟨hv,_⟩| ⟨i,run,hv,_,hi⟩
  ·have e2:zbE m b base=(zvw,6):=by unfold zbE;rw [e];simp only [ne_eq,not_true_eq_false,if_false,hv]
   simp only [hv]
   refine zfo ?_
   unfold zaz
   rw [itT (by simp;omega),zhR hm hb,sb,e2,itT (by rfl)]
  ·have e2:zbE m b base=(⟨⟨n,w,base,(base+a:Nat),(base+t:Nat)⟩, -1,false⟩,0):=by unfold zbE;rw [e];simp only [ne_eq,not_true_eq_false,if_false,hv]
   simp only [hv]
   refine (zgY (out':=out++[⟨⟨n,w,base,(base+a:Nat),(base+t:Nat)⟩, -1,false⟩]) (atv':=((base+t:Nat):Int)) ?_).trans ?_
   ·unfold zaz
    rw [itT (by simp;omega),zhR hm hb,sb,e2,itF (by rfl),zdp (by simp;omega),sb]
   ·rw [ih _ (by omega) (by rw [List.drop_drop]) (by simp;omega)]
    simp only [List.append_assoc,List.singleton_append]
  ·have e2:zbE m b base=(⟨⟨n,w,base,(base+a:Nat),(base+t:Nat)⟩,i,run⟩,0):=by unfold zbE;rw [e];simp only [ne_eq,not_true_eq_false,if_false,hv]
   simp only [hv]
   refine (zgY (out':=out++[⟨⟨n,w,base,(base+a:Nat),(base+t:Nat)⟩,i,run⟩]) (atv':=((base+t:Nat):Int)) ?_).trans ?_
   ·unfold zaz
    rw [itT (by simp;omega),zhR hm hb,sb,e2,itF (by rfl),zdp (by simp;omega),sb]
   ·rw [ih _ (by omega) (by rw [List.drop_drop]) (by simp;omega)]
    simp only [List.append_assoc,List.singleton_append]
theorem zxC {m:Mes} (hm:m.Fields.length≤1152921504606846976) {b:List UInt8} (hb:b.length≤1048576):zfn m b=some (zdz m b):=by
 unfold zfn
 have h:=zxD hm hb 0 b [] (Nat.zero_le _) rfl (Nat.le_refl _)
 have h':zch b m [] 0=_:=h
 rw [h',sb]
 unfold zdz vwR
 cases (vws m (spl 0 b).2 (spl 0 b).1).2 with
 | none=>rfl
 | some p=>rfl
end Go.Proofs.YtcbkcblkecmjnaaGreat
namespace Go.Proofs.YtcbkcblkecmjnaaGreat
open Go
set_option linter.unusedVariables false
def zY (s:List Mes) (i:Int):Mes:=s.getD i.toNat ⟨[],[]⟩
theorem zfJ {s:List Mes} {i:Nat} (h:i<s.length):zY s (i:Int)=s[i]:=by
 unfold zY;rw [Int.toNat_natCast,List.getD_eq_getElem?_getD,List.getElem?_eq_getElem h];rfl
def valB (b:List UInt8) (r:Rec):List UInt8:=(b.drop r.At.toNat).take (r.To.toNat - r.At.toNat)
abbrev zka:=Option (Int→List UInt8→Option (Int×Int))
def zjq (f:Fld) (run:Bool) (sub:zka) (r:Rec) (v:List UInt8):Option (Int×Int):=
 if run=true then (if (zin f.Kind v).2≠0 then some (r.From,(zin f.Kind v).2) else none)
 else if f.Kind=15∧zfG v=false then some (r.From,7)
 else if f.Kind=17 then (match sub with
  | none=>some (r.From,8)
  | some g=>match g f.Of v with
   | some (p,c)=>some (r.At+p,c)
   | none=>none)
 else none
def zcQ (m:Mes) (sub:zka) (b:List UInt8) (r:Rec):Option (Int×Int):=match vw m r.Number r.Wire with
 | .inl c=>some (r.From,c)
 | .inr (i,run)=>if i<0 then none else zjq (zV m i) run sub r (valB b r)
def zbR (m:Mes) (sub:zka) (b:List UInt8) (x:List Rec×Option (Nat×Int)):Option (Int×Int):=match x.1.findSome? (zcQ m sub b) with
 | some p=>some p
 | none=>x.2.map fun p=>((p.1:Int),p.2)
def zaf (s:List Mes):Nat→Int→List UInt8→Option (Int×Int)
 | 0,k,b=>zbR (zY s k) none b (spl 0 b)
 | d+1,k,b=>zbR (zY s k) (some (zaf s d)) b (spl 0 b)
def zpQ (g:Int→List UInt8→Option (Int×Int)):Prop:=∀k v p c,g k v=some (p,c)→3≤c∧c≤8∧0≤p∧p<v.length
theorem zAG (k:Int) {b:List UInt8}:(zin k b).2=0∨(zin k b).2=2∧kNum k=false∨(zin k b).2=3∨(zin k b).2=4:=by
 unfold zin
 have:=zxz k b
 split
 ·rename_i h;exact .inr (.inl ⟨rfl,h⟩)
 ·split
  ·exact .inl rfl
  ·rename_i h;simp only;omega
theorem zzx {m:Mes} {n w:Int} {i:Int} (h:vw m n w= .inr (i,true)):kNum (zV m i).Kind=true∧(zV m i).Repeated=true∧w=2:=by
 unfold vw at h
 split at h
 ·cases h
 ·split at h
  ·rename_i h1;cases h;exact ⟨h1.2.1,h1.1,h1.2.2⟩
  ·split at h<;>cases h
theorem ztx {b:List UInt8} {r:Rec} {base a t:Nat} (hr:r.At=((base+a:Nat):Int)) (ht:r.To=((base+t:Nat):Int)) (h:base+t≤b.length) (hat:a≤t):(valB b r).length=t - a:=by
 unfold valB;rw [hr,ht];simp;omega
theorem zuU {m:Mes} {sub:zka} {b:List UInt8} (hg:∀g,sub=some g→zpQ g) {n w:Int} {base a t:Nat} (h1:1≤a) (hat:a≤t) (ht:base+t≤b.length) {p c:Int}
  (h:zcQ m sub b ⟨n,w,base,(base+a:Nat),(base+t:Nat)⟩=some (p,c)):3≤c∧c≤8∧0≤p∧p<b.length:=by
 unfold zcQ at h
 rcases zft m n w with hv| ⟨hv,_⟩| ⟨i,run,hv,_,hi⟩
 ·simp only [hv] at h;cases h;(try dsimp only);omega
 ·simp only [hv] at h;rw [if_pos (by omega)] at h;cases h
 ·simp only [hv] at h
  rw [if_neg (by omega)] at h
  unfold zjq at h
  split at h
  ·rename_i hr
   subst hr
   have hk:=zzx hv
   split at h
   ·cases h
    have:=zAG (zV m i).Kind (b:=valB b ⟨n,w,base,(base+a:Nat),(base+t:Nat)⟩)
    rw [hk.1] at this
    simp only [Bool.true_eq_false,and_false,false_or] at this
    (try dsimp only)
    omega
   ·cases h
  ·split at h
   ·cases h;(try dsimp only);omega
   ·split at h
    ·cases sub with
     | none=>simp only at h;cases h;(try dsimp only);omega
     | some g=>
      simp only at h
      have hl:=ztx (b:=b) (r:=⟨n,w,base,(base+a:Nat),(base+t:Nat)⟩) rfl rfl ht hat
      cases hgv:g (zV m i).Of (valB b ⟨n,w,base,(base+a:Nat),(base+t:Nat)⟩) with
      | none=>rw [hgv] at h;cases h
      | some q=>
       obtain ⟨q1,q2⟩:=q
       rw [hgv] at h
       have:=hg g rfl _ _ _ _ hgv
       cases h
       (try dsimp only)
       omega
    ·cases h
theorem zuz {m:Mes} {sub:zka} {b:List UInt8} (hg:∀g,sub=some g→zpQ g) (base:Nat) (l:List UInt8):l=b.drop base→base≤b.length→∀p c,zbR m sub b (spl base l)=some (p,c)→3≤c∧c≤8∧0≤p∧p<b.length:=by
 refine zgB (fun base l=>l=b.drop base→base≤b.length→∀p c,zbR m sub b (spl base l)=some (p,c)→3≤c∧c≤8∧0≤p∧p<b.length) ?_ ?_ ?_ base l
 ·intro base _ _ p c h
  unfold zbR at h;rw [zfH] at h;cases h
 ·intro base l c' hl h hc hld hb p c h2
  have hlt:base<b.length:=by subst hld;have:=List.length_pos_iff.2 hl;simp at this;omega
  unfold zbR at h2;rw [zgi hl h] at h2
  simp only [List.findSome?_nil,Option.map_some] at h2
  cases h2;omega
 ·intro base l n w a t hl h _ g1 g2 g3 ih hld hb p c h2
  have hbl:base+t≤b.length:=by subst hld;simp at g3;omega
  unfold zbR at h2 ih
  rw [zdZ hl h] at h2
  simp only [List.findSome?_cons] at h2
  cases hs:zcQ m sub b ⟨n,w,base,(base+a:Nat),(base+t:Nat)⟩ with
  | some q=>rw [hs] at h2;cases h2;exact zuU hg g1 g2 hbl hs
  | none=>
   rw [hs] at h2
   exact ih (by rw [hld,List.drop_drop]) hbl p c h2
theorem zhJ (s:List Mes):∀(d:Nat),zpQ (zaf s d)
 | 0=>fun k v p c h=>zuz (fun g hg=>by cases hg) 0 v rfl (Nat.zero_le _) p c h
 | d+1=>fun k v p c h=>zuz (fun g hg=>by cases hg;exact zhJ s d) 0 v rfl (Nat.zero_le _) p c h
theorem zsr {s:List Mes} {k:Nat} {m:Mes} (hk:∃h:k<s.length,s[k]=m) (hm:m.Fields.length≤1152921504606846976) {b:List UInt8} (hb:b.length≤1048576) {d:Int} (hd:0≤d∧d≤64) {sub:zka}
  {rec:List zh→Int→List UInt8→Int→Option (Int×Int)} (hg:∀g,sub=some g→zpQ g) (h0:sub=none↔d=0)
  (hs:∀g,sub=some g→∀f∈m.Fields,f.Kind=17→∀v:List UInt8,v.length≤b.length→rec s f.Of v (d - 1)=some ((g f.Of v).getD (0,0))) (base:Nat) (l:List UInt8):
  l=b.drop base→base≤b.length→zby b d k rec s base=some (match zbR m sub b (spl base l) with| none=> .inl ()| some p=> .inr p):=by
 obtain ⟨hkl,hke⟩:=hk
 have e1:idx s (k:Int)=some m:=by rw [zZ rfl hkl,hke]
 refine zgB (fun base l=>l=b.drop base→base≤b.length→zby b d k rec s base=some (match zbR m sub b (spl base l) with| none=> .inl ()| some p=> .inr p)) ?_ ?_ ?_ base l
 ·intro base hl hbase
  have:b.length≤base:=by have:=congrArg List.length hl;simp at this;omega
  unfold zbR
  rw [zfH]
  refine zez ?_
  unfold zaw
  rw [itF (by simp;omega)];rfl
 ·intro base l c hl h hc hld hbase
  subst hld
  have hlt:base<b.length:=by have:=List.length_pos_iff.2 hl;simp at this;omega
  unfold zbR
  rw [zgi hl h]
  refine zez ?_
  unfold zaw
  have e:zcR b base=(zrec,c):=by unfold zcR;rw [if_neg (by omega),Int.toNat_natCast,h]
  have e2:zbE m b base=(zvw,c):=by unfold zbE;rw [e,if_pos (by simp only;omega)]
  rw [itT (by simp;omega),e1,sb,zhR hm hb,sb,e2,itT (by simp;omega)];rfl
 ·intro base l n w a t hl h _ g1 g2 g3 ih hld hbase
  subst hld
  simp only [List.length_drop] at g3
  have hlt:base<b.length:=by omega
  have e:zcR b base=(⟨n,w,base,(base+a:Nat),(base+t:Nat)⟩,0):=by
   unfold zcR;rw [if_neg (by omega),Int.toNat_natCast,h];push_cast;rfl
  have ih':=ih (by rw [List.drop_drop]) (by omega)
  have hfr:zbR m sub b (spl base (b.drop base))=match zcQ m sub b ⟨n,w,base,(base+a:Nat),(base+t:Nat)⟩ with
    | some p=>some p
    | none=>zbR m sub b (spl (base+t) ((b.drop base).drop t)):=by
   unfold zbR
   rw [zdZ hl h]
   simp only [List.findSome?_cons]
   cases zcQ m sub b ⟨n,w,base,(base+a:Nat),(base+t:Nat)⟩<;>rfl
  have hcut:cut b ((base+a:Nat):Int) ((base+t:Nat):Int)=some (valB b ⟨n,w,base,(base+a:Nat),(base+t:Nat)⟩):=by
   rw [zfY rfl rfl (by omega) (by omega)];unfold valB;simp only [Int.toNat_natCast]
  have hvl:=ztx (b:=b) (r:=⟨n,w,base,(base+a:Nat),(base+t:Nat)⟩) rfl rfl (by omega) g2
  -- the body, by what the record's fault is
  have hbody:zaw b d k rec s base=match zcQ m sub b ⟨n,w,base,(base+a:Nat),(base+t:Nat)⟩ with
    | some p=>some (.inr (.inr p))
    | none=>some (.inl ((base+t:Nat):Int)):=by
   unfold zaw zcQ
   rw [itT (by simp;omega),e1,sb,zhR hm hb,sb]
   rcases zft m n w with hv| ⟨hv,_⟩| ⟨i,run,hv,_,hi⟩
   ·have e2:zbE m b base=(zvw,6):=by unfold zbE;rw [e];simp only [ne_eq,not_true_eq_false,if_false,hv]
    rw [e2,itT (by rfl)]
    simp only [hv]
   ·have e2:zbE m b base=(⟨⟨n,w,base,(base+a:Nat),(base+t:Nat)⟩, -1,false⟩,0):=by unfold zbE;rw [e];simp only [ne_eq,not_true_eq_false,if_false,hv]
    rw [e2,itF (by rfl)]
    simp only [hv]
    rw [hcut,sb,itF (by rfl),if_pos (by omega)]
   ·have e2:zbE m b base=(⟨⟨n,w,base,(base+a:Nat),(base+t:Nat)⟩,i,run⟩,0):=by unfold zbE;rw [e];simp only [ne_eq,not_true_eq_false,if_false,hv]
    have hfm:zV m (i:Int)∈m.Fields:=by rw [zdX hi];exact List.getElem_mem hi
    rw [e2,itF (by rfl)]
    simp only [hv]
    rw [hcut,sb,itT (by simp),sb,zZ rfl hi,sb,if_neg (show ¬((i:Int)<0) by omega),←zdX hi]
    generalize hvv:valB b ⟨n,w,base,(base+a:Nat),(base+t:Nat)⟩=v at hvl⊢
    generalize zV m (i:Int)=f at hfm⊢
    unfold zjq
    cases run
    ·rw [itF (c:=false) rfl,if_neg (show ¬(false=true) by simp)]
     have e15:(if (f.Kind==15)=true then (zcz v>>=fun rv3=>some (!rv3)) else some false)=some (decide (f.Kind=15∧zfG v=false)):=by
      rw [zxK (by omega),sb]
      by_cases h15:f.Kind=15
      ·rw [itT (by simpa using h15)];cases zfG v<;>simp [h15]
      ·rw [itF (by simpa using h15)];simp [h15]
     rw [e15,sb]
     by_cases h15:f.Kind=15∧zfG v=false
     ·rw [itT (decide_eq_true h15),if_pos h15]
     ·rw [itF (decide_eq_false h15),if_neg h15]
      by_cases h17:f.Kind=17
      ·rw [itT (by simpa using h17),if_pos h17]
       cases hsub:sub with
       | none=>
        have:=h0.1 hsub
        rw [itT (by simpa using this)]
       | some g=>
        have hd0:d≠0:=fun hh=>by rw [h0.2 hh] at hsub;cases hsub
        rw [itF (by simpa using hd0),zz (x:=d - 1) (by omega),hs g hsub f hfm h17 v (by omega),sb]
        cases hgv:g f.Of v with
        | none=>simp only [Option.getD_none,hgv];rw [itF (by rfl)]
        | some q=>
         obtain ⟨q1,q2⟩:=q
         have:=hg g hsub _ _ _ _ hgv
         simp only [Option.getD_some,hgv]
         rw [itT (by simp;omega),zz (by omega)]
      ·rw [itF (by simpa using h17),if_neg h17]
    ·rw [itT (c:=true) rfl,if_pos (show true=true from rfl),zsX _ (by omega),sb]
     by_cases he:(zin f.Kind v).2=0
     ·rw [itF (by simpa using he),if_neg (show ¬((zin f.Kind v).2≠0) from fun hh=>hh he)]
     ·rw [itT (by simpa using he),if_pos he]
  rw [hfr]
  cases hst:zcQ m sub b ⟨n,w,base,(base+a:Nat),(base+t:Nat)⟩ with
  | some p=>rw [hst] at hbody;rw [zez hbody]
  | none=>rw [hst] at hbody;rw [zjT hbody,ih']
theorem ztS {s:List Mes} (hr:zgR s):∀(d fuel:Nat),d≤64→d<fuel→∀(k:Nat) (b:List UInt8),k<s.length→b.length≤1048576→
  zbv fuel s k b d=some ((zaf s d k b).getD (0,0)):=by
 intro d
 induction d with
 | zero=>
  intro fuel hd hf k b hk hb
  obtain ⟨fuel,rfl⟩:∃q,fuel=q+1:=⟨fuel - 1,by omega⟩
  have h:=zsr (s:=s) (k:=k) (m:=s[k]) ⟨hk,rfl⟩ (by have:=hr.few _ (List.getElem_mem hk);omega) hb (d:=0) (by omega) (sub:=none) (rec:=zbv fuel) (fun g hg=>by cases hg) (by simp) (fun g hg=>by cases hg) 0 b rfl (Nat.zero_le _)
  have h':zby b 0 k (zbv fuel) s 0=_:=h
  show zbX (zbv fuel) s k b 0=_
  unfold zbX
  rw [h',sb,zaf,zfJ hk]
  cases zbR s[k] none b (spl 0 b)<;>rfl
 | succ d ih=>
  intro fuel hd hf k b hk hb
  obtain ⟨fuel,rfl⟩:∃q,fuel=q+1:=⟨fuel - 1,by omega⟩
  have h:=zsr (s:=s) (k:=k) (m:=s[k]) ⟨hk,rfl⟩ (by have:=hr.few _ (List.getElem_mem hk);omega) hb (d:=((d+1:Nat):Int)) (by omega) (sub:=some (zaf s d)) (rec:=zbv fuel)
   (fun g hg=>by cases hg;exact zhJ s d) (by constructor<;>intro h<;>first| cases h| omega)
   (fun g hg f hf17 h17 v hv=>by
    cases hg
    have hof:=(hr.fld _ (List.getElem_mem hk) f hf17).sub h17
    obtain ⟨q,hq⟩:∃q:Nat,f.Of=q:=⟨f.Of.toNat,by omega⟩
    have e:((d+1:Nat):Int) - 1=(d:Int):=by omega
    rw [e,hq]
    exact ih fuel (by omega) (by omega) q v (by omega) (by omega)) 0 b rfl (Nat.zero_le _)
  have h':zby b ((d+1:Nat):Int) k (zbv fuel) s 0=_:=h
  show zbX (zbv fuel) s k b ((d+1:Nat):Int)=_
  unfold zbX
  rw [h',sb,zaf,zfJ hk]
  cases zbR s[k] (some (zaf s d)) b (spl 0 b)<;>rfl
def argS (s:List Mes) (root d:Int):Int:=if zkK s=false then 9 else if root<0∨root≥s.length∨d<0∨d>64 then 2 else 0
theorem zzb {s:List Mes} (hw:WS s) (root d:Int):zeR s root d=some (argS s root d):=by
 unfold zeR argS
 rw [ztT hw,sb]
 cases h:zkK s
 ·rw [itT (c:= !false) rfl,if_pos (show false=false from rfl)]
 ·rw [itF (c:= !true) rfl,if_neg (show ¬(true=false) by simp)]
  by_cases h2:root<0∨root≥s.length∨d<0∨d>64
  ·rw [itT (by simpa using h2),if_pos h2]
  ·rw [itF (by simp;omega),if_neg h2]
def zdB (s:List Mes) (root:Int) (b:List UInt8) (d:Int):Int×Int:=if argS s root d≠0 then (0,argS s root d) else (zaf s d.toNat root b).getD (0,0)
theorem znq {s:List Mes} {root d:Int} (h:argS s root d=0):zgR s∧0≤root∧root<s.length∧0≤d∧d≤64:=by
 unfold argS at h
 split at h
 ·omega
 ·rename_i h1
  split at h
  ·omega
  ·rename_i h2
   exact ⟨zBj (by simpa using h1),by omega⟩
theorem ztR {s:List Mes} (hw:WS s) (root:Int) {b:List UInt8} (hb:b.length≤1048576) (d:Int) {fuel:Nat} (hf:64<fuel):zes fuel s root b d=some (zdB s root b d):=by
 unfold zes zdB
 rw [zzb hw,sb]
 by_cases h:argS s root d=0
 ·obtain ⟨hr,h1,h2,h3,h4⟩:=znq h
  obtain ⟨k,rfl⟩:∃k:Nat,root=k:=⟨root.toNat,by omega⟩
  obtain ⟨e,rfl⟩:∃k:Nat,d=k:=⟨d.toNat,by omega⟩
  rw [itF (by simpa using h),if_neg (by simpa using h),ztS hr e fuel (by omega) (by omega) k b (by omega) hb,sb,Int.toNat_natCast]
 ·rw [itT (by simpa using h),if_pos h]
def is11 (s:List Mes) (root:Int) (b:List UInt8) (d:Int):Bool:=(zdB s root b d).2==0
theorem zfP {m:Mes} {sub:zka} {b:List UInt8} {x:List Rec×Option (Nat×Int)}:zbR m sub b x=none↔(∀r∈x.1,zcQ m sub b r=none)∧x.2=none:=by
 unfold zbR
 cases h:x.1.findSome? (zcQ m sub b) with
 | some p=>
  refine ⟨(fun h'=>nomatch h'),fun ⟨h1,_⟩=>?_⟩
  obtain ⟨r,hr,hs⟩:=List.exists_of_findSome?_eq_some h
  rw [h1 r hr] at hs;cases hs
 | none=>
  rw [List.findSome?_eq_none_iff] at h
  cases hx:x.2 with
  | none=>exact ⟨fun _=>⟨h,rfl⟩,fun _=>rfl⟩
  | some p=>exact ⟨(fun h'=>nomatch h'),fun ⟨_,h2⟩=>nomatch h2⟩
theorem zye {b:List UInt8} (z:List UInt8) {r:Rec} (h0:0≤r.To) (h:r.To≤b.length):valB (b++z) r=valB b r:=by
 unfold valB
 by_cases ha:r.At.toNat≤b.length
 ·rw [List.drop_append_of_le_length ha,List.take_append_of_le_length (by simp;omega)]
 ·have e:r.To.toNat - r.At.toNat=0:=by omega
  rw [e,List.take_zero,List.take_zero]
theorem zty (a b:List UInt8) {r:Rec} (h0:0≤r.At) (h1:r.At≤r.To):valB (a++b) (znd a.length r)=valB b r:=by
 unfold valB znd
 simp only
 have e1:(r.At+(a.length:Int)).toNat=a.length+r.At.toNat:=by omega
 have e2:(r.To+(a.length:Int)).toNat - (a.length+r.At.toNat)=r.To.toNat - r.At.toNat:=by omega
 rw [e1,e2,←List.drop_drop,List.drop_left]
theorem ztm {m:Mes} {sub:zka} {b b':List UInt8} {r r':Rec} (hn:r'.Number=r.Number) (hw:r'.Wire=r.Wire) (hv:valB b' r'=valB b r):zcQ m sub b' r'=none↔zcQ m sub b r=none:=by
 unfold zcQ
 rw [hn,hw,hv]
 cases vw m r.Number r.Wire with
 | inl c=>simp
 | inr p=>
  simp only
  by_cases hi:p.1<0
  ·simp [hi]
  ·rw [if_neg hi,if_neg hi]
   unfold zjq
   by_cases hr:p.2=true
   ·rw [if_pos hr,if_pos hr]
    by_cases he:(zin (zV m p.1).Kind (valB b r)).2≠0
    ·rw [if_pos he,if_pos he];simp
    ·rw [if_neg he,if_neg he]
   ·rw [if_neg hr,if_neg hr]
    by_cases h15:(zV m p.1).Kind=15∧zfG (valB b r)=false
    ·rw [if_pos h15,if_pos h15];simp
    ·rw [if_neg h15,if_neg h15]
     by_cases h17:(zV m p.1).Kind=17
     ·rw [if_pos h17,if_pos h17]
      cases sub with
      | none=>simp
      | some g=>simp only;cases g (zV m p.1).Of (valB b r)<;>simp
     ·rw [if_neg h17,if_neg h17]
theorem zwl (base:Nat) (l:List UInt8):∀r∈(spl base l).1,(base:Int)≤r.From∧r.From<r.At∧r.At≤r.To∧r.To≤base+l.length:=by
 refine zgB (fun base l=>∀r∈(spl base l).1,(base:Int)≤r.From∧r.From<r.At∧r.At≤r.To∧r.To≤base+l.length) ?_ ?_ ?_ base l
 ·intro base r hr;rw [zfH] at hr;cases hr
 ·intro base l c hl h _ r hr;rw [zgi hl h] at hr;cases hr
 ·intro base l n w a t hl h _ g1 g2 g3 ih r hr
  rw [zdZ hl h] at hr
  rcases List.mem_cons.1 hr with rfl| hr
  ·simp only;omega
  ·have:=ih r hr
   simp only [List.length_drop] at this
   omega
theorem zqW {m:Mes} {sub:zka} {a:List UInt8} (z:List UInt8) (h:zbR m sub a (spl 0 a)=none):zbR m sub (a++z) (spl 0 (a++z))=none↔zbR m sub z (spl 0 z)=none:=by
 rw [zfP] at h
 have hap:=zzm z 0 a h.2
 have hsh:=zBr a.length 0 z
 rw [Nat.zero_add] at hap hsh
 rw [hsh] at hap
 rw [zfP,zfP,hap]
 simp only [List.mem_append,List.mem_map]
 constructor
 ·rintro ⟨h1,h2⟩
  refine ⟨fun r hr=>?_,by cases hz:(spl 0 z).2 with| none=>rfl| some p=>rw [hz] at h2;cases h2⟩
  have hb:=zwl 0 z r hr
  have:=h1 (znd a.length r) (.inr ⟨r,hr,rfl⟩)
  exact (ztm (r:=r) (r':=znd a.length r) rfl rfl (zty a z (by omega) (by omega))).1 this
 ·rintro ⟨h1,h2⟩
  refine ⟨fun r hr=>?_,by rw [h2];rfl⟩
  rcases hr with hr| ⟨r,hr,rfl⟩
  ·have hb:=zwl 0 a r hr
   exact (ztm (r:=r) (r':=r) rfl rfl (zye z (by omega) (by omega))).2 (h.1 r hr)
  ·have hb:=zwl 0 z r hr
   exact (ztm (r:=r) (r':=znd a.length r) rfl rfl (zty a z (by omega) (by omega))).2 (h1 r hr)
theorem zoY (s:List Mes) (d:Nat) (k:Int) {a:List UInt8} (z:List UInt8) (h:zaf s d k a=none):zaf s d k (a++z)=none↔zaf s d k z=none:=by
 cases d with
 | zero=>exact zqW z h
 | succ d=>exact zqW z h
theorem zsw {s:List Mes} {root:Int} {b:List UInt8} {d:Int}:is11 s root b d=true↔argS s root d=0∧zaf s d.toNat root b=none:=by
 unfold is11 zdB
 by_cases h:argS s root d=0
 ·rw [if_neg (by simpa using h)]
  cases hf:zaf s d.toNat root b with
  | none=>simp [h]
  | some p=>
   obtain ⟨p,c⟩:=p
   have:=zhJ s d.toNat root b p c hf
   simp only [Option.getD_some,h,true_and]
   simp;omega
 ·rw [if_pos h]
  simp [h]
end Go.Proofs.YtcbkcblkecmjnaaGreat
namespace Go.Proofs.YtcbkcblkecmjnaaGreat
open Go
set_option linter.unusedVariables false
abbrev Msg:=ze
abbrev Vlu:=zb
mutual
def szM:Msg→Nat
 | ⟨vs,_⟩=>1+szVs vs
def szVs:List Vlu→Nat
 | []=>0
 | v::l=>szV v+szVs l
def szV:Vlu→Nat
 | ⟨_,_,_,s⟩=>1+szMs s
def szMs:List Msg→Nat
 | []=>0
 | x::l=>szM x+szMs l
end
theorem ztq (x:Msg):szM x=1+szVs x.Values:=by cases x;rw [szM]
theorem zwp (v:Vlu):szV v=1+szMs v.Subs:=by cases v;rw [szV]
theorem znf {v:Vlu}:∀{l:List Vlu},v∈l→szV v≤szVs l
 | [],h=>by cases h
 | u::l,h=>by
  rw [szVs]
  rcases List.mem_cons.1 h with rfl| h
  ·omega
  ·have:=znf h;omega
theorem zne {x:Msg}:∀{l:List Msg},x∈l→szM x≤szMs l
 | [],h=>by cases h
 | u::l,h=>by
  rw [szMs]
  rcases List.mem_cons.1 h with rfl| h
  ·omega
  ·have:=zne h;omega
mutual
/-- Within the reach of what a law is handed. -/
def bdM:Msg→Prop
 | ⟨vs,u⟩=>vs.length*80≤140737488351232∧(u.length*16≤140737488351232∧∀t∈u,t.length≤140737488351232)∧bdVs vs
def bdVs:List Vlu→Prop
 | []=>True
 | v::l=>bdV v∧bdVs l
def bdV:Vlu→Prop
 | ⟨n,w,t,s⟩=>(Lit.int .i64 n).wf=true∧(w.length*8≤140737488351232∧∀x∈w,0≤x∧x≤18446744073709551615)∧(t.length*16≤140737488351232∧∀x∈t,x.length≤140737488351232)∧s.length*48≤140737488351232∧bdMs s
def bdMs:List Msg→Prop
 | []=>True
 | x::l=>bdM x∧bdMs l
end
theorem zpS (x:Msg):bdM x↔x.Values.length*80≤140737488351232∧(x.Unknown.length*16≤140737488351232∧∀t∈x.Unknown,t.length≤140737488351232)∧bdVs x.Values:=by cases x;simp only [bdM]
theorem zrZ (v:Vlu):bdV v↔(Lit.int .i64 v.Number).wf=true∧(v.Words.length*8≤140737488351232∧∀x∈v.Words,0≤x∧x≤18446744073709551615)∧(v.Texts.length*16≤140737488351232∧∀x∈v.Texts,x.length≤140737488351232)∧v.Subs.length*48≤140737488351232∧bdMs v.Subs:=by cases v;simp only [bdV]
theorem zkP:∀{l:List Vlu},bdVs l↔∀v∈l,bdV v
 | []=>by simp [bdVs]
 | v::l=>by rw [bdVs,zkP (l:=l)];simp
theorem zkO:∀{l:List Msg},bdMs l↔∀v∈l,bdM v
 | []=>by simp [bdMs]
 | v::l=>by rw [bdMs,zkO (l:=l)];simp
section
open Classical
noncomputable def ziM {α:Type} (x y:α):Bool:=decide (x=y)
theorem zeG {α:Type} {x y:α}:ziM x y=true↔x=y:=by unfold ziM;simp
theorem zDk:∀(fuel:Nat),(∀x y:Msg,szM x<fuel→bdM x→zbp fuel x y=some (ziM x y))∧∀v u:Vlu,szV v<fuel→bdV v→zbL fuel v u=some (ziM v u)
 | 0=>⟨fun x y h=>by omega,fun v u h=>by omega⟩
 | fuel+1=>by
  obtain ⟨ih1,ih2⟩:=zDk fuel
  refine ⟨fun x y hs hb=>?_,fun v u hs hb=>?_⟩
  ·obtain ⟨b1,⟨b2,b3⟩,b4⟩:=(zpS x).1 hb
   rw [ztq] at hs
   show zdW (zbp fuel) (zbL fuel) x y=_
   unfold zdW
   by_cases hl:x.Values.length=y.Values.length∧x.Unknown.length=y.Unknown.length
   ·rw [itF (by simp [hl.1,hl.2])]
    have hv:∀(i:Nat) (hi:i<x.Values.length) (hi':i<y.Values.length),zbL fuel x.Values[i] y.Values[i]=some (ziM x.Values[i] y.Values[i]):=fun i hi hi'=>by
     have hm:=List.getElem_mem hi
     have:=znf hm
     exact ih2 _ _ (by omega) (zkP.1 b4 _ hm)
    have h1:=zjA x.Values y.Values (fun i=>zcH x y (zbL fuel) i) hl.1 (by
      refine zgL ?_
      unfold zaN
      rw [itF (by simp)])
     (fun i hi hi'=>by
      by_cases hp:x.Values[i]=y.Values[i]
      ·rw [if_pos hp]
       refine zkB ?_
       unfold zaN
       rw [itT (by simp;omega),zZ rfl hi,sb,zZ rfl hi',sb,hv i hi hi',sb,itF (by rw [zeG.2 hp];rfl),zz (by omega)];push_cast;rfl
      ·rw [if_neg hp]
       refine zgL ?_
       unfold zaN
       have:ziM x.Values[i] y.Values[i]=false:=by cases hq:ziM x.Values[i] y.Values[i] with
        | false=>rfl
        | true=>exact absurd (zeG.1 hq) hp
       rw [itT (by simp;omega),zZ rfl hi,sb,zZ rfl hi',sb,hv i hi hi',sb,itT (by rw [this];rfl)])
     x.Values.length 0 (by omega)
    have h1':zcH x y (zbL fuel) 0=_:=h1
    have h2:=zjA x.Unknown y.Unknown (fun i=>zcI x y i) hl.2 (by
      refine zgM ?_
      unfold zaO
      rw [itF (by simp)])
     (fun i hi hi'=>by
      by_cases hp:x.Unknown[i]=y.Unknown[i]
      ·rw [if_pos hp]
       refine zkC ?_
       unfold zaO
       rw [itT (by simp;omega),zZ rfl hi,sb,zZ rfl hi',sb,itF (by simp [hp]),zz (by omega)];push_cast;rfl
      ·rw [if_neg hp]
       refine zgM ?_
       unfold zaO
       rw [itT (by simp;omega),zZ rfl hi,sb,zZ rfl hi',sb,itT (by simp [hp])])
     x.Unknown.length 0 (by omega)
    have h2':zcI x y 0=_:=h2
    rw [h1',sb]
    simp only [List.drop_zero]
    by_cases e1:x.Values=y.Values
    ·rw [if_pos e1]
     simp only
     rw [h2',sb]
     simp only [List.drop_zero]
     by_cases e2:x.Unknown=y.Unknown
     ·rw [if_pos e2,zeG.2 (by cases x;cases y;simp only at e1 e2;rw [e1,e2])]
     ·rw [if_neg e2]
      cases hq:ziM x y with
      | false=>rfl
      | true=>exact absurd (by rw [zeG.1 hq]) e2
    ·rw [if_neg e1]
     cases hq:ziM x y with
     | false=>rfl
     | true=>exact absurd (by rw [zeG.1 hq]) e1
   ·rw [itT (by simp;omega)]
    cases hq:ziM x y with
    | false=>rfl
    | true=>exact absurd (by rw [zeG.1 hq];exact ⟨rfl,rfl⟩) hl
  ·obtain ⟨b0,⟨b1,_⟩,⟨b2,b3⟩,b4,b5⟩:=(zrZ v).1 hb
   rw [zwp] at hs
   show zcs (zbp fuel) (zbL fuel) v u=_
   unfold zcs
   have no:(v.Number≠u.Number∨v.Words≠u.Words∨v.Texts≠u.Texts∨v.Subs≠u.Subs)→ziM v u=false:=fun h=>by
    cases hq:ziM v u with
    | false=>rfl
    | true=>
     have:=zeG.1 hq
     subst this
     rcases h with h| h| h| h<;>exact absurd rfl h
   by_cases hl:v.Number=u.Number∧v.Words.length=u.Words.length∧v.Texts.length=u.Texts.length∧v.Subs.length=u.Subs.length
   ·rw [itF (by simp [hl.1,hl.2.1,hl.2.2.1,hl.2.2.2])]
    have hv:∀(i:Nat) (hi:i<v.Subs.length) (hi':i<u.Subs.length),zbp fuel v.Subs[i] u.Subs[i]=some (ziM v.Subs[i] u.Subs[i]):=fun i hi hi'=>by
     have hm:=List.getElem_mem hi
     have:=zne hm
     exact ih1 _ _ (by omega) (zkO.1 b5 _ hm)
    have h1:=zjA v.Words u.Words (fun i=>zbG v u i) hl.2.1 (by
      refine zfw ?_
      unfold zal
      rw [itF (by simp)])
     (fun i hi hi'=>by
      by_cases hp:v.Words[i]=u.Words[i]
      ·rw [if_pos hp]
       refine zik ?_
       unfold zal
       rw [itT (by simp;omega),zZ rfl hi,sb,zZ rfl hi',sb,itF (by simp [hp]),zz (by omega)];push_cast;rfl
      ·rw [if_neg hp]
       refine zfw ?_
       unfold zal
       rw [itT (by simp;omega),zZ rfl hi,sb,zZ rfl hi',sb,itT (by simp [hp])])
     v.Words.length 0 (by omega)
    have h1':zbG v u 0=_:=h1
    have h2:=zjA v.Texts u.Texts (fun i=>zbH v u i) hl.2.2.1 (by
      refine zfx ?_
      unfold zam
      rw [itF (by simp)])
     (fun i hi hi'=>by
      by_cases hp:v.Texts[i]=u.Texts[i]
      ·rw [if_pos hp]
       refine zil ?_
       unfold zam
       rw [itT (by simp;omega),zZ rfl hi,sb,zZ rfl hi',sb,itF (by simp [hp]),zz (by omega)];push_cast;rfl
      ·rw [if_neg hp]
       refine zfx ?_
       unfold zam
       rw [itT (by simp;omega),zZ rfl hi,sb,zZ rfl hi',sb,itT (by simp [hp])])
     v.Texts.length 0 (by omega)
    have h2':zbH v u 0=_:=h2
    have h3:=zjA v.Subs u.Subs (fun i=>zbI v u (zbp fuel) i) hl.2.2.2 (by
      refine zfy ?_
      unfold zan
      rw [itF (by simp)])
     (fun i hi hi'=>by
      by_cases hp:v.Subs[i]=u.Subs[i]
      ·rw [if_pos hp]
       refine zim ?_
       unfold zan
       rw [itT (by simp;omega),zZ rfl hi,sb,zZ rfl hi',sb,hv i hi hi',sb,itF (by rw [zeG.2 hp];rfl),zz (by omega)];push_cast;rfl
      ·rw [if_neg hp]
       refine zfy ?_
       unfold zan
       have:ziM v.Subs[i] u.Subs[i]=false:=by cases hq:ziM v.Subs[i] u.Subs[i] with
        | false=>rfl
        | true=>exact absurd (zeG.1 hq) hp
       rw [itT (by simp;omega),zZ rfl hi,sb,zZ rfl hi',sb,hv i hi hi',sb,itT (by rw [this];rfl)])
     v.Subs.length 0 (by omega)
    have h3':zbI v u (zbp fuel) 0=_:=h3
    rw [h1',sb]
    simp only [List.drop_zero]
    by_cases e1:v.Words=u.Words
    ·rw [if_pos e1]
     simp only
     rw [h2',sb]
     simp only [List.drop_zero]
     by_cases e2:v.Texts=u.Texts
     ·rw [if_pos e2]
      simp only
      rw [h3',sb]
      simp only [List.drop_zero]
      by_cases e3:v.Subs=u.Subs
      ·rw [if_pos e3,zeG.2 (by cases v;cases u;simp only at e1 e2 e3 hl;rw [hl.1,e1,e2,e3])]
      ·rw [if_neg e3,no (.inr (.inr (.inr e3)))]
     ·rw [if_neg e2,no (.inr (.inr (.inl e2)))]
    ·rw [if_neg e1,no (.inr (.inl e1))]
   ·rw [itT (by simp;omega),no (by
     by_cases h0:v.Number=u.Number
     ·by_cases h1:v.Words=u.Words
      ·by_cases h2:v.Texts=u.Texts
       ·exact .inr (.inr (.inr fun h3=>hl ⟨h0,by rw [h1],by rw [h2],by rw [h3]⟩))
       ·exact .inr (.inr (.inl h2))
      ·exact .inr (.inl h1)
     ·exact .inl h0)]
end
theorem zpr {x:Msg} (y:Msg) {fuel:Nat} (hf:szM x<fuel) (hb:bdM x):zbp fuel x y=some (ziM x y):=(zDk fuel).1 x y hf hb
def zgf (v:Vlu):Nat:=v.Words.length+v.Texts.length+v.Subs.length
theorem zzd {v:Vlu} (hb:v.Words.length≤140737488351232∧v.Texts.length≤140737488351232∧v.Subs.length≤140737488351232):zeS v=some ((zgf v:Nat):Int):=by
 unfold zeS zgf
 rw [zz (x:=(v.Words.length:Int)+(v.Texts.length:Int)) (by omega),zz (by omega)]
 push_cast
 rfl
mutual
def dM:Msg→Nat
 | ⟨vs,_⟩=>dVs vs
def dVs:List Vlu→Nat
 | []=>0
 | v::l=>max (dV v) (dVs l)
def dV:Vlu→Nat
 | ⟨_,_,_,s⟩=>dMs s
def dMs:List Msg→Nat
 | []=>0
 | x::l=>max (1+dM x) (dMs l)
end
theorem zBZ (x:Msg):dM x=dVs x.Values:=by cases x;rw [dM]
theorem zwR (v:Vlu):dV v=dMs v.Subs:=by cases v;rw [dV]
theorem zwQ (l:List Msg):∀(c i:Nat),i+c=l.length→∀(F:Int→Int→Option Int) (D:Nat→Int),(∀d,F d (l.length:Int)=some d)→
  (∀(j:Nat) (h:j<l.length) (d:Int),0≤d→F d (j:Int)=F (max d (1+(dM l[j]:Int))) ((j+1:Nat):Int))→∀d:Nat,F d i=some ((max d (dMs (l.drop i)):Nat):Int)
 | 0,i,hi,F,D,h0,hs,d=>by
  have e:l.drop i=[]:=List.drop_eq_nil_of_le (by omega)
  have hi':i=l.length:=by omega
  rw [e,hi',h0,dMs]
  simp
 | c+1,i,hi,F,D,h0,hs,d=>by
  rw [hs i (by omega) d (by omega),List.drop_eq_getElem_cons (by omega),dMs]
  have:=zwQ l c (i+1) (by omega) F D h0 hs (max d (1+dM l[i]))
  have e:((max d (1+dM l[i]):Nat):Int)=max (d:Int) (1+(dM l[i]:Int)):=by omega
  rw [e] at this
  rw [this]
  congr 2
  omega
theorem zwS (l:List Vlu):∀(c i:Nat),i+c=l.length→∀(F:Int→Int→Option Int),(∀d,F d (l.length:Int)=some d)→
  (∀(j:Nat) (h:j<l.length) (d:Nat),F d (j:Int)=F ((max d (dV l[j]):Nat):Int) ((j+1:Nat):Int))→∀d:Nat,F d i=some ((max d (dVs (l.drop i)):Nat):Int)
 | 0,i,hi,F,h0,hs,d=>by
  have e:l.drop i=[]:=List.drop_eq_nil_of_le (by omega)
  have hi':i=l.length:=by omega
  rw [e,hi',h0,dVs]
  simp
 | c+1,i,hi,F,h0,hs,d=>by
  rw [hs i (by omega) d,List.drop_eq_getElem_cons (by omega),dVs,zwS l c (i+1) (by omega) F h0 hs]
  congr 2
  omega
theorem zry {v:Vlu}:∀{l:List Vlu},v∈l→dV v≤dVs l
 | [],h=>by cases h
 | u::l,h=>by
  rw [dVs]
  rcases List.mem_cons.1 h with rfl| h
  ·omega
  ·have:=zry h;omega
theorem zvu {x:Msg}:∀{l:List Msg},x∈l→1+dM x≤dMs l
 | [],h=>by cases h
 | u::l,h=>by
  rw [dMs]
  rcases List.mem_cons.1 h with rfl| h
  ·omega
  ·have:=zvu h;omega
theorem zoj:∀(fuel:Nat) (x:Msg),szM x<fuel→bdM x→dM x≤1152921504606846976→zbK fuel x=some ((dM x:Nat):Int)
 | 0,x,h,_,_=>by omega
 | fuel+1,x,hs,hb,hd=>by
  obtain ⟨b1,_,b4⟩:=(zpS x).1 hb
  rw [ztq] at hs
  rw [zBZ] at hd⊢
  show zdH (zbK fuel) x=_
  unfold zdH
  have h:=zwS x.Values x.Values.length 0 (by omega) (fun d i=>zcq (zbK fuel) x d i) (fun d=>by
    refine zjV ?_
    unfold zaT
    rw [itF (by simp)])
   (fun j hj d=>by
    have hm:=List.getElem_mem hj
    have hsz:=znf hm
    have hdv:=zry hm
    obtain ⟨_,_,_,c1,c2⟩:=(zrZ _).1 (zkP.1 b4 _ hm)
    have e0:idx x.Values (j:Int)=some x.Values[j]:=zZ rfl hj
    rw [zwp] at hsz
    rw [zwR] at hdv
    have h2:=zwQ (x.Values[j]).Subs (x.Values[j]).Subs.length 0 (by omega) (fun d k=>zcr (j:Int) (zbK fuel) x d k) (fun _=>0) (fun d=>by
      refine zjX ?_
      unfold zaU
      rw [e0,sb,itF (by simp)])
     (fun k hk d h0=>by
      have hm2:=List.getElem_mem hk
      have s2:=zne hm2
      have d2:=zvu hm2
      have ih:=zoj fuel ((x.Values[j]).Subs[k]) (by omega) (zkO.1 c2 _ hm2) (by omega)
      refine zjW ?_
      unfold zaU
      rw [e0,sb,itT (by simp;omega),sb,zZ rfl hk,sb,ih,sb]
      have hw:IntKind.i64.wrap (1+((dM ((x.Values[j]).Subs[k]):Nat):Int))=1+((dM ((x.Values[j]).Subs[k]):Nat):Int):=by rw [zz (by omega)]
      have hk2:IntKind.i64.wrap ((k:Int)+1)=((k+1:Nat):Int):=by rw [zz (by omega)];push_cast;rfl
      rw [hw,hk2]
      have hmax:(if d<1+((dM ((x.Values[j]).Subs[k]):Nat):Int) then 1+((dM ((x.Values[j]).Subs[k]):Nat):Int) else d)=max d (1+((dM ((x.Values[j]).Subs[k]):Nat):Int)):=by
       split<;>omega
      rw [hmax]) d
    have h2':zcr (j:Int) (zbK fuel) x d 0=_:=h2
    refine (zjU (d':=((max d (dV x.Values[j]):Nat):Int)) (i':=((j+1:Nat):Int)) ?_)
    unfold zaT
    rw [itT (by simp;omega),h2',sb,List.drop_zero,zwR,zz (by omega)];push_cast;rfl) 0
  have h':zcq (zbK fuel) x 0 0=_:=h
  rw [h',sb,List.drop_zero]
  simp
structure Th where
 fi:Int
 run:Bool
 val:List UInt8
 raw:List UInt8
def rawB (b:List UInt8) (r:Rec):List UInt8:=(b.drop r.From.toNat).take (r.To.toNat - r.From.toNat)
def thOf (b:List UInt8) (t:Vw):Th:=⟨t.Field,t.Run,valB b t.R,rawB b t.R⟩
def ths (m:Mes) (b:List UInt8):List Th:=(zdz m b).1.map (thOf b)
def wt:List Th→Nat
 | []=>0
 | t::l=>t.val.length+1+wt l
theorem znp:∀(l:List Th),l.length≤wt l
 | []=>by simp [wt]
 | t::l=>by have:=znp l;simp only [List.length_cons,wt];omega
theorem ztJ {t:Th}:∀{l:List Th},t∈l→t.val.length+1≤wt l
 | [],h=>by cases h
 | u::l,h=>by
  rw [wt]
  rcases List.mem_cons.1 h with rfl| h
  ·omega
  ·have:=ztJ h;omega
theorem zAv {m:Mes} {e:Option (Nat×Int)}:∀{l:List Rec} {t:Vw},t∈(vws m e l).1→t.R∈l
 | [],t,h=>by simp [vws] at h
 | r::l,t,h=>by
  rw [vws] at h
  cases hv:vw m r.Number r.Wire with
  | inl c=>rw [hv] at h;simp at h
  | inr p=>
   rw [hv] at h
   rcases List.mem_cons.1 h with rfl| h
   ·exact List.mem_cons_self
   ·exact List.mem_cons_of_mem _ (zAv h)
theorem zAC {m:Mes} {b:List UInt8} {t:Vw} (h:t∈(zdz m b).1):t.R∈(spl 0 b).1:=by
 unfold zdz vwR at h
 split at h
 ·exact zAv h
 ·simp at h
theorem zwD {m:Mes} {b:List UInt8} {t:Vw} (h:t∈(zdz m b).1):0≤t.R.From∧t.R.From<t.R.At∧t.R.At≤t.R.To∧t.R.To≤b.length:=by
 have:=zwl 0 b _ (zAC h)
 simpa using this
theorem zGc {m:Mes} {e:Option (Nat×Int)} (b:List UInt8):∀(base:Nat) (l:List UInt8),l=b.drop base→base≤b.length→wt ((vws m e (spl base l).1).1.map (thOf b))≤l.length:=by
 intro base l
 refine zgB (fun base l=>l=b.drop base→base≤b.length→wt ((vws m e (spl base l).1).1.map (thOf b))≤l.length) ?_ ?_ ?_ base l
 ·intro base _ _;rw [zfH];simp [vws,wt]
 ·intro base l c hl h _ _ _;rw [zgi hl h];simp [vws,wt]
 ·intro base l n w a t hl h _ g1 g2 g3 ih hld hbase
  have hlen:l.length=b.length - base:=by rw [hld];simp
  have ih':=ih (by rw [hld,List.drop_drop]) (by omega)
  rw [zdZ hl h,vws]
  cases hv:vw m n w with
  | inl c=>simp [wt]
  | inr p=>
   simp only [List.map_cons,wt,thOf,List.length_drop] at ih'⊢
   rw [ztx (b:=b) (base:=base) (a:=a) (t:=t) rfl rfl (by omega) g2]
   omega
theorem zqD (m:Mes) (b:List UInt8):wt (ths m b)≤b.length:=by
 unfold ths zdz vwR
 split
 ·exact zGc b 0 b rfl (Nat.zero_le _)
 ·simp [wt]
abbrev zfv:=List UInt8×Bool×List Int×List Str×List Msg
def stp (g:Int→List UInt8→Msg) (f:Fld) (a:zfv) (t:Th):zfv:=
 if t.run=true then (a.1,true,(if f.Repeated=true then a.2.2.1 else [])++(zbs f.Kind t.val).1,(if f.Repeated=true then a.2.2.2.1 else []),a.2.2.2.2)
 else if kNum f.Kind=true then (a.1,true,(if f.Repeated=true then a.2.2.1 else [])++[(zlY f.Kind t.val).1],(if f.Repeated=true then a.2.2.2.1 else []),a.2.2.2.2)
 else if f.Kind=17∧f.Repeated=true then (a.1,true,(if f.Repeated=true then a.2.2.1 else []),(if f.Repeated=true then a.2.2.2.1 else []),a.2.2.2.2++[g f.Of t.val])
 else if f.Kind=17 then (a.1++t.val,true,(if f.Repeated=true then a.2.2.1 else []),(if f.Repeated=true then a.2.2.2.1 else []),a.2.2.2.2)
 else (a.1,true,(if f.Repeated=true then a.2.2.1 else []),(if f.Repeated=true then a.2.2.2.1 else [])++[t.val],a.2.2.2.2)
def accF (g:Int→List UInt8→Msg) (f:Fld) (i:Int):zfv→List Th→zfv
 | a,[]=>a
 | a,t::l=>accF g f i (if t.fi=i then stp g f a t else a) l
def wA (a:zfv):Nat:=a.1.length+a.2.2.1.length+a.2.2.2.1.length+a.2.2.2.2.length
def wJ (a:zfv):Nat:=a.1.length+(if a.2.1=true then 1 else 0)
theorem zqM (k:Int) (v:List UInt8):(zbs k v).1.length≤v.length:=by
 unfold zbs
 have:=zvU k v
 split
 ·simp
 ·split
  ·simpa using this
  ·simp
theorem zDu (g:Int→List UInt8→Msg) (f:Fld) (a:zfv) (t:Th):wA (stp g f a t)≤wA a+t.val.length+1∧wJ (stp g f a t)≤wJ a+t.val.length+1:=by
 have h1:(if f.Repeated=true then a.2.2.1 else []).length≤a.2.2.1.length:=by split<;>simp
 have h2:(if f.Repeated=true then a.2.2.2.1 else []).length≤a.2.2.2.1.length:=by split<;>simp
 have h3:=zqM f.Kind t.val
 unfold stp wA wJ
 split
 ·simp only [List.length_append,if_true];omega
 ·split
  ·simp only [List.length_append,List.length_singleton,if_true];omega
  ·split
   ·simp only [List.length_append,List.length_singleton,if_true];omega
   ·split
    ·simp only [List.length_append,if_true];omega
    ·simp only [List.length_append,List.length_singleton,if_true];omega
theorem zrY (g:Int→List UInt8→Msg) (f:Fld) (i:Int):∀(a:zfv) (l:List Th),wA (accF g f i a l)≤wA a+wt l∧wJ (accF g f i a l)≤wJ a+wt l
 | a,[]=>by simp [accF,wt]
 | a,t::l=>by
  have h:=zrY g f i (if t.fi=i then stp g f a t else a) l
  have h2:=zDu g f a t
  rw [accF,wt]
  split at h
  ·rename_i ht;rw [if_pos ht];omega
  ·rename_i ht;rw [if_neg ht];omega
def acc0:zfv:=([],false,[],[],[])
def valO (g:Int→List UInt8→Msg) (f:Fld) (q:zfv):Vlu:=⟨f.Number,q.2.2.1,q.2.2.2.1,if q.2.1=true∧f.Kind=17∧f.Repeated=false then [g f.Of q.1] else q.2.2.2.2⟩
def zmc (g:Int→List UInt8→Msg) (m:Mes) (l:List Th) (o:List Int):List Vlu:=(o.map fun i=>valO g (zV m i) (accF g (zV m i) i acc0 l)).filter fun v=>decide (0<zgf v)
def unkO (l:List Th):List Str:=(l.filter fun t=>decide (t.fi<0)).map (·.raw)
def zit (g:Int→List UInt8→Msg) (m:Mes) (l:List Th):Msg:=⟨zmc g m l (zcj (zbt m) m.Fields.length),unkO l⟩
def ofN (s:List Mes):Nat→Int→List UInt8→Msg
 | 0,_,_=>⟨[],[]⟩
 | n+1,k,b=>zit (ofN s n) (zY s k) (ths (zY s k) b)
theorem zBt {g g':Int→List UInt8→Msg} {f:Fld} (a:zfv) {t:Th} (h:f.Kind=17→g f.Of t.val=g' f.Of t.val):stp g f a t=stp g' f a t:=by
 unfold stp
 by_cases h17:f.Kind=17
 ·rw [h h17]
 ·rw [if_neg (c:=f.Kind=17∧_) (fun hh=>h17 hh.1),if_neg (c:=f.Kind=17∧_) (fun hh=>h17 hh.1)]
theorem zrX {g g':Int→List UInt8→Msg} {f:Fld} (i:Int):∀(a:zfv) {l:List Th},(f.Kind=17→∀v:List UInt8,v.length+1≤wt l→g f.Of v=g' f.Of v)→accF g f i a l=accF g' f i a l
 | a,[],h=>rfl
 | a,t::l,h=>by
  rw [accF,accF,zBt a (fun h17=>h h17 t.val (by rw [wt];omega))]
  exact zrX i _ (fun h17 v hv=>h h17 v (by rw [wt];omega))
theorem zzu {g g':Int→List UInt8→Msg} {f:Fld} (i:Int) {l:List Th} (h:f.Kind=17→∀v:List UInt8,v.length+1≤wt l→g f.Of v=g' f.Of v):valO g f (accF g f i acc0 l)=valO g' f (accF g' f i acc0 l):=by
 rw [zrX i acc0 h]
 have hw:=(zrY g' f i acc0 l).2
 unfold valO
 by_cases hc:(accF g' f i acc0 l).2.1=true∧f.Kind=17∧f.Repeated=false
 ·rw [if_pos hc,if_pos hc,h hc.2.1 _ (by
   have h0:wJ acc0=0:=rfl
   rw [h0,wJ,if_pos hc.1] at hw
   omega)]
 ·rw [if_neg hc,if_neg hc]
theorem zqX {g g':Int→List UInt8→Msg} {m:Mes} {l:List Th} (h:∀k:Int,∀v:List UInt8,v.length+1≤wt l→g k v=g' k v):zit g m l=zit g' m l:=by
 unfold zit zmc
 congr 2
 exact List.map_congr_left fun i _=>zzu i (fun _ v hv=>h _ v hv)
theorem zoB (s:List Mes):∀(n n':Nat) (k:Int) (b:List UInt8),b.length<n→b.length<n'→ofN s n k b=ofN s n' k b
 | 0,n',k,b,h,_=>by omega
 | n+1,0,k,b,_,h=>by omega
 | n+1,n'+1,k,b,h,h'=>by
  rw [ofN,ofN]
  have hw:=zqD (zY s k) b
  exact zqX fun k v hv=>zoB s n n' k v (by omega) (by omega)
def ofM (s:List Mes) (k:Int) (b:List UInt8):Msg:=ofN s (b.length+1) k b
theorem zEw {s:List Mes} {n:Nat} {k:Int} {b:List UInt8} (h:b.length<n):ofN s n k b=ofM s k b:=zoB s _ _ _ _ h (Nat.lt_succ_self _)
theorem zyV (s:List Mes) (k:Int) (b:List UInt8):ofM s k b=zit (ofM s) (zY s k) (ths (zY s k) b):=by
 have hw:=zqD (zY s k) b
 unfold ofM
 rw [ofN]
 exact zqX fun k v hv=>zoB s _ _ _ _ (by omega) (Nat.lt_succ_self _)
theorem zAt (b:List UInt8) (r:Rec) (h:r.At≤r.To) (h0:0≤r.From) (h1:r.From<r.At) (h2:r.To≤b.length):(valB b r).length+1≤b.length:=by
 unfold valB;simp;omega
theorem zsZ {g:Int→List UInt8→Msg} {rec:List zh→Int→List UInt8→Option ze} {sv:List Mes} {b:List UInt8} (hb:b.length≤1048576) {f:Fld}
  (hg:f.Kind=17→∀v:List UInt8,v.length+1≤b.length→rec sv f.Of v=some (g f.Of v)) {rv:List Vw×Int×Int} (hr:∀t∈rv.1,0≤t.R.From∧t.R.From<t.R.At∧t.R.At≤t.R.To∧t.R.To≤b.length)
  (hL:rv.1.length≤1048576) {rv2:List Int} {i:Nat} {ix:Int} (hi:idx rv2 (i:Int)=some ix):∀(c k:Nat) (a:zfv),k+c=rv.1.length→wA a+wt ((rv.1.drop k).map (thOf b))≤1048576→
  zdu b i rec rv rv2 sv f a.1 a.2.1 k a.2.2.1 a.2.2.2.1 a.2.2.2.2=some (accF g f ix a ((rv.1.drop k).map (thOf b)))
 | 0,k,a,hk,hw=>by
  have e:rv.1.drop k=[]:=List.drop_eq_nil_of_le (by omega)
  rw [e]
  refine zlE ?_
  unfold zbe
  rw [itF (by simp;omega)]
  rfl
 | c+1,k,a,hk,hw=>by
  have hkl:k<rv.1.length:=by omega
  rw [List.drop_eq_getElem_cons hkl,List.map_cons] at hw⊢
  rw [wt] at hw
  generalize ht:rv.1[k]=t at hw⊢
  have hx:idx rv.1 (k:Int)=some t:=by rw [zZ rfl hkl,ht]
  have htr:=hr t (by rw [←ht];exact List.getElem_mem hkl)
  obtain ⟨r1,r2,r3,r4⟩:=htr
  have hcut:cut b t.R.At t.R.To=some (valB b t.R):=by
   obtain ⟨x,hx1⟩:∃x:Nat,t.R.At=x:=⟨t.R.At.toNat,by omega⟩
   obtain ⟨y,hy1⟩:∃x:Nat,t.R.To=x:=⟨t.R.To.toNat,by omega⟩
   rw [zfY hx1 hy1 (by omega) (by omega)];unfold valB;rw [hx1,hy1];simp only [Int.toNat_natCast]
  have hvl:=zAt b t.R r3 r1 r2 r4
  have hst:=(zDu g f a (thOf b t)).1
  have ih:=zsZ hb hg hr hL hi c (k+1) (if t.Field=ix then stp g f a (thOf b t) else a) (by omega)
   (by split<;>omega)
  have hwk:IntKind.i64.wrap ((k:Int)+1)=((k+1:Nat):Int):=by rw [zz (by omega)];push_cast;rfl
  rw [accF]
  have hfi:(thOf b t).fi=t.Field:=rfl
  rw [hfi,←ih]
  by_cases hf:t.Field=ix
  ·rw [if_pos hf]
   refine zhl ?_
   unfold zbe
   have hp:(if (!f.Repeated)=true then some (([]:List Int),([]:List Str)) else some (a.2.2.1,a.2.2.2.1))=some ((if f.Repeated=true then a.2.2.1 else []),(if f.Repeated=true then a.2.2.2.1 else [])):=by
    cases f.Repeated<;>rfl
   rw [itT (by simp;omega),hx,sb,hi,sb,itF (by simpa using hf),sb,sb,hcut,sb,hp,sb,sb,hwk]
   have l1:(if f.Repeated=true then a.2.2.1 else []).length≤a.2.2.1.length:=by split<;>simp
   have l2:(if f.Repeated=true then a.2.2.2.1 else []).length≤a.2.2.2.1.length:=by split<;>simp
   have hval:(thOf b t).val=valB b t.R:=rfl
   have hrun:(thOf b t).run=t.Run:=rfl
   rw [hval] at hw
   unfold wA at hw
   unfold stp
   rw [hval,hrun]
   by_cases hrn:t.Run=true
   ·have hl:=zqM f.Kind (valB b t.R)
    rw [itT hrn,if_pos hrn,zxI _ (by omega),sb,zdp (by simp only;omega),sb]
   ·rw [itF (by simpa using hrn),if_neg hrn,zjw,sb]
    by_cases hn:kNum f.Kind=true
    ·rw [itT hn,if_pos hn,zrd _ (by omega),sb,zdp (by simp only [List.length_singleton];omega),sb]
    ·rw [itF (by simpa using hn),if_neg hn]
     by_cases h1:f.Kind=17∧f.Repeated=true
     ·rw [itT (by simpa using h1),if_pos h1,hg h1.1 _ hvl,sb,zdp (by simp only [List.length_singleton];omega),sb]
     ·rw [itF (by simpa using h1),if_neg h1]
      by_cases h2:f.Kind=17
      ·rw [itT (by simpa using h2),if_pos h2,zdp (by omega),sb]
      ·rw [itF (by simpa using h2),if_neg h2,zdp (by simp only [List.length_singleton];omega),sb]
  ·rw [if_neg hf]
   refine zhl ?_
   unfold zbe
   rw [itT (by simp;omega),hx,sb,hi,sb,itT (by simpa using hf),hwk]
theorem zBB {g:Int→List UInt8→Msg} {f:Fld} {q:zfv} (h:wA q≤1048576):(valO g f q).Words.length≤1048576∧(valO g f q).Texts.length≤1048576∧(valO g f q).Subs.length≤1048577:=by
 unfold wA at h
 unfold valO
 simp only
 refine ⟨by omega,by omega,?_⟩
 split
 ·simp
 ·omega
theorem zpq {g:Int→List UInt8→Msg} {rec:List zh→Int→List UInt8→Option ze} {sv:List Mes} {root:Int} {m:Mes} (hm:idx sv root=some m) {b:List UInt8} (hb:b.length≤1048576)
  (hg:∀f∈m.Fields,f.Kind=17→∀v:List UInt8,v.length+1≤b.length→rec sv f.Of v=some (g f.Of v)) {rv:List Vw×Int×Int} (hr:∀t∈rv.1,0≤t.R.From∧t.R.From<t.R.At∧t.R.At≤t.R.To∧t.R.To≤b.length)
  (hw:wt (rv.1.map (thOf b))≤b.length) {o:List Int} (ho:∀x∈o,0≤x∧x<m.Fields.length) (hol:o.length≤1048576):∀(c i:Nat) (out:List Vlu),i+c=o.length→out.length≤i→
  zdt b rec root rv o sv i out=some (out++zmc g m (rv.1.map (thOf b)) (o.drop i))
 | 0,i,out,hi,hout=>by
  have e:o.drop i=[]:=List.drop_eq_nil_of_le (by omega)
  rw [e]
  refine zlD ?_
  unfold zbd
  rw [itF (by simp;omega)]
  simp [zmc]
 | c+1,i,out,hi,hout=>by
  have hil:i<o.length:=by omega
  rw [List.drop_eq_getElem_cons hil]
  have hxm:=ho _ (List.getElem_mem hil)
  generalize hx:o[i]=ix at hxm⊢
  have hix:idx o (i:Int)=some ix:=by rw [zZ rfl hil,hx]
  obtain ⟨n,hn⟩:∃n:Nat,ix=n:=⟨ix.toNat,by omega⟩
  have hnl:n<m.Fields.length:=by omega
  have hfx:idx m.Fields ix=some (zV m ix):=by subst hn;rw [zZ rfl hnl,zdX hnl]
  have hfm:zV m ix∈m.Fields:=by rw [hn,zdX hnl];exact List.getElem_mem _
  have hL:rv.1.length≤1048576:=by have:=znp (rv.1.map (thOf b));simp only [List.length_map] at this;omega
  have w0:wA acc0=0:=rfl
  have j0:wJ acc0=0:=rfl
  have hl2:=zsZ hb (hg _ hfm) hr hL hix rv.1.length 0 acc0 (by omega) (by rw [w0,List.drop_zero];omega)
  have hl2':zdu b i rec rv o sv (zV m ix) [] false 0 [] [] []=_:=hl2
  rw [List.drop_zero] at hl2'
  have haw:=zrY g (zV m ix) ix acc0 (rv.1.map (thOf b))
  generalize hq:accF g (zV m ix) ix acc0 (rv.1.map (thOf b))=q at hl2' haw
  have hmany:=zBB (g:=g) (f:=zV m ix) (q:=q) (by omega)
  have hv:zmc g m (rv.1.map (thOf b)) (ix::o.drop (i+1))=(if 0<zgf (valO g (zV m ix) q) then [valO g (zV m ix) q] else [])++zmc g m (rv.1.map (thOf b)) (o.drop (i+1)):=by
   unfold zmc
   rw [List.map_cons,hq,List.filter_cons]
   by_cases h:0<zgf (valO g (zV m ix) q)
   ·rw [if_pos (by simpa using h),if_pos h];rfl
   ·rw [if_neg (by simpa using h),if_neg h];rfl
  have hbody:zbd b rec root rv o sv i out=some (.inl (((i+1:Nat):Int),out++(if 0<zgf (valO g (zV m ix) q) then [valO g (zV m ix) q] else []))):=by
   unfold zbd
   rw [itT (by simp;omega),hm,sb,hix,sb,hfx,sb,hl2',sb]
   have hp:(if (q.2.1&&((zV m ix).Kind==17&& !(zV m ix).Repeated))=true then (rec sv (zV m ix).Of q.1>>=fun rv7=>some ([rv7]:List ze)) else some q.2.2.2.2)=some (valO g (zV m ix) q).Subs:=by
    unfold valO
    by_cases hc:q.2.1=true∧(zV m ix).Kind=17∧(zV m ix).Repeated=false
    ·rw [itT (by simp [hc.1,hc.2.1,hc.2.2]),hg _ hfm hc.2.1 _ (by
      have:=haw.2
      rw [j0,wJ,if_pos hc.1] at this
      omega),sb]
     simp only
     rw [if_pos hc]
    ·rw [itF (by
      cases h1:q.2.1
      ·rfl
      ·cases h2:(zV m ix).Repeated
       ·have:(zV m ix).Kind≠17:=fun h3=>hc ⟨h1,h3,h2⟩
        simp [this]
       ·simp)]
     simp only
     rw [if_neg hc]
   rw [hp,sb]
   have he:(⟨(zV m ix).Number,q.2.2.1,q.2.2.2.1,(valO g (zV m ix) q).Subs⟩:Vlu)=valO g (zV m ix) q:=rfl
   rw [he,zzd ⟨by omega,by omega,by omega⟩,sb,zz (by omega)]
   by_cases h:0<zgf (valO g (zV m ix) q)
   ·rw [itT (by simpa using h),if_pos h,zdp (by simp only [List.length_singleton];omega),sb];push_cast;rfl
   ·rw [itF (by simpa using h),if_neg h,List.append_nil];push_cast;rfl
  rw [zlC hbody,zpq hm hb hg hr hw ho hol c (i+1) _ (by omega) (by
   rw [List.length_append]
   split<;>simp<;>omega),hv,List.append_assoc]
theorem zkI {b:List UInt8} (hb:b.length≤1048576) {rv:List Vw×Int×Int} (hr:∀t∈rv.1,0≤t.R.From∧t.R.From<t.R.At∧t.R.At≤t.R.To∧t.R.To≤b.length) (hL:rv.1.length≤1048576):
  ∀(c k:Nat) (out:List Str),k+c=rv.1.length→out.length≤k→zdv b rv k out=some (out++unkO ((rv.1.drop k).map (thOf b)))
 | 0,k,out,hk,hout=>by
  have e:rv.1.drop k=[]:=List.drop_eq_nil_of_le (by omega)
  rw [e]
  refine zlF ?_
  unfold zaH
  rw [itF (by simp;omega)]
  simp [unkO]
 | c+1,k,out,hk,hout=>by
  have hkl:k<rv.1.length:=by omega
  rw [List.drop_eq_getElem_cons hkl,List.map_cons]
  generalize ht:rv.1[k]=t
  have hx:idx rv.1 (k:Int)=some t:=by rw [zZ rfl hkl,ht]
  obtain ⟨r1,r2,r3,r4⟩:=hr t (by rw [←ht];exact List.getElem_mem hkl)
  have hcut:cut b t.R.From t.R.To=some (rawB b t.R):=by
   obtain ⟨x,hx1⟩:∃x:Nat,t.R.From=x:=⟨t.R.From.toNat,by omega⟩
   obtain ⟨y,hy1⟩:∃x:Nat,t.R.To=x:=⟨t.R.To.toNat,by omega⟩
   rw [zfY hx1 hy1 (by omega) (by omega)];unfold rawB;rw [hx1,hy1];simp only [Int.toNat_natCast]
  have hwk:IntKind.i64.wrap ((k:Int)+1)=((k+1:Nat):Int):=by rw [zz (by omega)];push_cast;rfl
  have hfi:(thOf b t).fi=t.Field:=rfl
  have hraw:(thOf b t).raw=rawB b t.R:=rfl
  by_cases hf:t.Field<0
  ·have hbody:zaH b rv k out=some (.inl (((k+1:Nat):Int),out++[rawB b t.R])):=by
    unfold zaH
    rw [itT (by simp;omega),hx,sb,itT (by simpa using hf),sb,sb,hcut,sb,zdp (by simp only [List.length_singleton];omega),sb,hwk]
   rw [zhm hbody,zkI hb hr hL c (k+1) _ (by omega) (by simp;omega)]
   unfold unkO
   rw [List.filter_cons,if_pos (by rw [hfi];simpa using hf),List.map_cons,hraw,List.append_assoc]
   rfl
  ·have hbody:zaH b rv k out=some (.inl (((k+1:Nat):Int),out)):=by
    unfold zaH
    rw [itT (by simp;omega),hx,sb,itF (by simpa using hf),hwk]
   rw [zhm hbody,zkI hb hr hL c (k+1) _ (by omega) (by omega)]
   unfold unkO
   rw [List.filter_cons,if_neg (by rw [hfi];simpa using hf)]
theorem zrc {s:List Mes} (hs:zgR s):∀(fuel k:Nat) (b:List UInt8),k<s.length→b.length≤1048576→b.length<fuel→zdi fuel s k b=some (ofN s fuel k b)
 | 0,k,b,_,_,h=>by omega
 | fuel+1,k,b,hk,hb,hf=>by
  have hm:idx s (k:Int)=some (zY s k):=by rw [zZ rfl hk,zfJ hk]
  have hmm:zY s (k:Int)∈s:=by rw [zfJ hk];exact List.getElem_mem hk
  have hfew:=hs.few _ hmm
  have hg:∀f∈(zY s (k:Int)).Fields,f.Kind=17→∀v:List UInt8,v.length+1≤b.length→zdi fuel s f.Of v=some (ofN s fuel f.Of v):=fun f hfm h17 v hv=>by
   have hof:=(hs.fld _ hmm f hfm).sub h17
   obtain ⟨q,hq⟩:∃q:Nat,f.Of=q:=⟨f.Of.toNat,by omega⟩
   rw [hq]
   exact zrc hs fuel q v (by omega) (by omega) (by omega)
  have hr:∀t∈(zdz (zY s (k:Int)) b).1,0≤t.R.From∧t.R.From<t.R.At∧t.R.At≤t.R.To∧t.R.To≤b.length:=fun t ht=>zwD ht
  have hw:wt ((zdz (zY s (k:Int)) b).1.map (thOf b))≤b.length:=zqD _ _
  have hL:(zdz (zY s (k:Int)) b).1.length≤1048576:=by have:=znp ((zdz (zY s (k:Int)) b).1.map (thOf b));simp only [List.length_map] at this;omega
  have h1:=zpq (root:=(k:Int)) hm hb hg hr hw (o:=zcj (zbt (zY s (k:Int))) (zY s (k:Int)).Fields.length) (fun x hx=>zeI.1 hx) (by rw [znM];omega) _ 0 [] (Nat.zero_add _) (Nat.le_refl _)
  have h1':zdt b (zdi fuel) k (zdz (zY s (k:Int)) b) (zcj (zbt (zY s (k:Int))) (zY s (k:Int)).Fields.length) s 0 []=_:=h1
  have h3:=zkI hb hr hL _ 0 [] (Nat.zero_add _) (Nat.le_refl _)
  have h3':zdv b (zdz (zY s (k:Int)) b) 0 []=_:=h3
  show zeT (zdi fuel) s k b=_
  unfold zeT
  rw [hm,sb,zxC (by omega) hb,sb,sb,zwa (by omega),sb,h1',sb,h3',sb,ofN]
  rfl
theorem zzf {s:List Mes} (hs:zgR s) {k:Nat} (hk:k<s.length) {b:List UInt8} (hb:b.length≤1048576) {fuel:Nat} (hf:b.length<fuel):zdi fuel s k b=some (ofM s k b):=by
 rw [zrc hs fuel k b hk hb hf,zEw hf]
def unkR (m:Mes) (u:Str):Bool:=(zcR u 0).2==0&&(zcR u 0).1.To==(u.length:Int)&&decide (fldI m (zcR u 0).1.Number<0)
def znn (f:Fld) (w:Int):Bool:=kNum f.Kind&&zfc f.Kind w==w
def ztr (f:Fld) (t:Str):Bool:=f.Kind==16|| (f.Kind==15&&zfG t)
def zzZ (f:Fld) (v:Vlu):Bool:=decide (0<zgf v)&&(decide (zgf v≤1)|| f.Repeated)&&zbT f.Kind
mutual
def ziH (s:List Mes):Msg→Int→Bool
 | ⟨vs,u⟩,k=>decide (0≤k∧k<s.length)&&znI s vs (zY s k) none&&u.all (unkR (zY s k))
def znI (s:List Mes):List Vlu→Mes→Option Int→Bool
 | [],_,_=>true
 | v::l,m,p=>decide (0≤fldI m v.Number)&&p.all (fun n=>decide (n<v.Number))&&zus s v (zV m (fldI m v.Number))&&znI s l m (some v.Number)
def zus (s:List Mes):Vlu→Fld→Bool
 | ⟨n,w,t,sub⟩,f=>zzZ f ⟨n,w,t,sub⟩&&w.all (znn f)&&t.all (ztr f)&&znH s sub f
def znH (s:List Mes):List Msg→Fld→Bool
 | [],_=>true
 | x::l,f=>(f.Kind==17&&ziH s x f.Of)&&znH s l f
end
theorem zBk (s:List Mes) (x:Msg) (k:Int):ziH s x k=(decide (0≤k∧k<s.length)&&znI s x.Values (zY s k) none&&x.Unknown.all (unkR (zY s k))):=by cases x;rw [ziH]
theorem zCf (s:List Mes) (v:Vlu) (f:Fld):zus s v f=(zzZ f v&&v.Words.all (znn f)&&v.Texts.all (ztr f)&&znH s v.Subs f):=by cases v;rw [zus]
theorem ztc (s:List Mes) (f:Fld):∀(l:List Msg),znH s l f=l.all fun x=>f.Kind==17&&ziH s x f.Of
 | []=>by rw [znH];rfl
 | x::l=>by rw [znH,ztc s f l];rfl
theorem zpW {α:Type} (bytes:Nat) (l:List α) (hl:l.length*bytes≤140737488355328) (F:Int→List α→Option (List α)) (h0:∀a,F (l.length:Int) a=some a)
  (hs:∀(i:Nat) (h:i<l.length) (a:List α),(a.length+1)*bytes≤140737488355328→F (i:Int) a=F ((i+1:Nat):Int) (a++[l[i]])):∀(c i:Nat),i+c=l.length→F (i:Int) (l.take i)=some l
 | 0,i,h=>by
  have hi:i=l.length:=by omega
  rw [hi,h0,List.take_length]
 | c+1,i,h=>by
  have hil:i<l.length:=by omega
  have hb:(i+1)*bytes≤140737488355328:=Nat.le_trans (Nat.mul_le_mul_right _ hil) hl
  rw [hs i hil _ (by rw [List.length_take,Nat.min_eq_left (by omega)];exact hb),List.take_append_getElem hil]
  exact zpW bytes l hl F h0 hs c (i+1) (by omega)
theorem zBY:∀(fuel:Nat),(∀x:Msg,szM x<fuel→bdM x→zcb fuel x=some x)∧∀v:Vlu,szV v<fuel→bdV v→zcA fuel v=some v
 | 0=>⟨fun x h=>by omega,fun v h=>by omega⟩
 | fuel+1=>by
  obtain ⟨ih1,ih2⟩:=zBY fuel
  refine ⟨fun x hsz hb=>?_,fun v hsz hb=>?_⟩
  ·obtain ⟨b1,⟨b2,b3⟩,b4⟩:=(zpS x).1 hb
   rw [ztq] at hsz
   show zeL (zcb fuel) (zcA fuel) x=_
   unfold zeL
   have h:=zpW 80 x.Values (by omega) (fun i a=>zdq (zcA fuel) x i a) (fun a=>by
     refine zlw ?_
     unfold zbu
     rw [itF (by simp)])
    (fun i hi a ha=>by
     have hm:=List.getElem_mem hi
     have s1:=znf hm
     refine zlv ?_
     unfold zbu
     rw [itT (by simp;omega),zZ rfl hi,sb,ih2 _ (by omega) (zkP.1 b4 _ hm),sb,zdp (by rw [List.length_singleton];exact ha),sb,zz (by omega)];push_cast;rfl)
    x.Values.length 0 (Nat.zero_add _)
   have h':zdq (zcA fuel) x 0 []=_:=h
   rw [zdp (by simp;omega),sb,h',sb,List.nil_append]
   cases x;rfl
  ·obtain ⟨_,_,_,b4,b5⟩:=(zrZ v).1 hb
   rw [zwp] at hsz
   show zcZ (zcb fuel) (zcA fuel) v=_
   unfold zcZ
   have h:=zpW 48 v.Subs (by omega) (fun i a=>zbU (zcb fuel) v i a) (fun a=>by
     refine ziR ?_
     unfold zaC
     rw [itF (by simp)])
    (fun i hi a ha=>by
     have hm:=List.getElem_mem hi
     have s1:=zne hm
     refine ziQ ?_
     unfold zaC
     rw [itT (by simp;omega),zZ rfl hi,sb,ih1 _ (by omega) (zkO.1 b5 _ hm),sb,zdp (by rw [List.length_singleton];exact ha),sb,zz (by omega)];push_cast;rfl)
    v.Subs.length 0 (Nat.zero_add _)
   have h':zbU (zcb fuel) v 0 []=_:=h
   rw [h',sb]
   cases v;rfl
theorem zsB {x:Msg} {fuel:Nat} (hf:szM x<fuel) (hb:bdM x):zcb fuel x=some x:=(zBY fuel).1 x hf hb
mutual
/-- No list is long. -/
def smM:Msg→Prop
 | ⟨vs,u⟩=>vs.length≤1048576∧(u.length≤1048576∧∀t∈u,t.length≤1048576)∧smVs vs
def smVs:List Vlu→Prop
 | []=>True
 | v::l=>smV v∧smVs l
def smV:Vlu→Prop
 | ⟨n,w,t,s⟩=>w.length≤1048576∧(t.length≤1048576∧∀x∈t,x.length≤1048576)∧s.length≤1048576∧smMs s
def smMs:List Msg→Prop
 | []=>True
 | x::l=>smM x∧smMs l
end
theorem zFM (x:Msg):smM x↔x.Values.length≤1048576∧(x.Unknown.length≤1048576∧∀t∈x.Unknown,t.length≤1048576)∧smVs x.Values:=by cases x;simp only [smM]
theorem zFN (v:Vlu):smV v↔v.Words.length≤1048576∧(v.Texts.length≤1048576∧∀x∈v.Texts,x.length≤1048576)∧v.Subs.length≤1048576∧smMs v.Subs:=by cases v;simp only [smV]
theorem zxT:∀{l:List Vlu},smVs l↔∀v∈l,smV v
 | []=>by simp [smVs]
 | v::l=>by rw [smVs,zxT (l:=l)];simp
theorem zxS:∀{l:List Msg},smMs l↔∀v∈l,smM v
 | []=>by simp [smMs]
 | v::l=>by rw [smMs,zxS (l:=l)];simp
def zDw (s:List Mes):Nat→zka
 | 0=>none
 | e+1=>some (zaf s e)
theorem zov (s:List Mes) (d:Nat) (k:Int) (b:List UInt8):zaf s d k b=zbR (zY s k) (zDw s d) b (spl 0 b):=by cases d<;>rfl
theorem zqS (s:List Mes) (d:Nat) (k:Int):zaf s d k []=none:=by rw [zov,zfH];rfl
def vwG (m:Mes) (r:Rec):Int×Bool:=match vw m r.Number r.Wire with
 | .inl _=>(-1,false)
 | .inr p=>p
def thR (m:Mes) (b:List UInt8) (r:Rec):Th:=⟨(vwG m r).1,(vwG m r).2,valB b r,rawB b r⟩
theorem zDJ {m:Mes}:∀{l:List Rec},(∀r∈l,∃p,vw m r.Number r.Wire= .inr p)→vws m none l=(l.map fun r=>⟨r,(vwG m r).1,(vwG m r).2⟩,none)
 | [],_=>rfl
 | r::l,h=>by
  obtain ⟨p,hp⟩:=h r List.mem_cons_self
  rw [vws,hp,zDJ fun x hx=>h x (List.mem_cons_of_mem _ hx)]
  simp only [List.map_cons,vwG,hp]
theorem zEK {m:Mes} {sub:zka} {b:List UInt8} {r:Rec} (h:zcQ m sub b r=none):∃p,vw m r.Number r.Wire= .inr p:=by
 unfold zcQ at h
 cases hv:vw m r.Number r.Wire with
 | inl c=>rw [hv] at h;cases h
 | inr p=>exact ⟨p,rfl⟩
theorem zFX {s:List Mes} {d:Nat} {k:Int} {b:List UInt8} (h:zaf s d k b=none):ths (zY s k) b=(spl 0 b).1.map (thR (zY s k) b):=by
 rw [zov,zfP] at h
 unfold ths zdz
 rw [h.2,zDJ fun r hr=>zEK (h.1 r hr)]
 unfold vwR
 simp only [List.map_map]
 rfl
structure OkT (s:List Mes) (d:Nat) (m:Mes) (t:Th):Prop where
 fi:t.fi= -1∨0≤t.fi∧t.fi<m.Fields.length
 unk:t.fi<0→unkR m t.raw=true
 run:0≤t.fi→t.run=true→kNum (zV m t.fi).Kind=true∧(zV m t.fi).Repeated=true∧(zin (zV m t.fi).Kind t.val).2=0
 one:0≤t.fi→t.run=false→zbT (zV m t.fi).Kind=true∧zfp (zcu (zV m t.fi).Kind) t.val=true∧((zV m t.fi).Kind=15→zfG t.val=true)∧((zV m t.fi).Kind=17→∃e,d=e+1∧zaf s e (zV m t.fi).Of t.val=none)
theorem zFl {s:List Mes} {d:Nat} {k:Int} {b:List UInt8} (h:zaf s d k b=none):∀t∈ths (zY s k) b,OkT s d (zY s k) t:=by
 intro t ht
 rw [zFX h] at ht
 obtain ⟨r,hr,rfl⟩:=List.mem_map.1 ht
 obtain ⟨n,w,f,a,u,hre,hrec,h1,h2,h3⟩:=zEJ b 0 b rfl (Nat.zero_le _) r hr
 rw [zov,zfP] at h
 have hs:=h.1 r hr
 generalize zY s k=m at hs⊢
 have hraw:rawB b r=(b.drop f).take u:=by
  unfold rawB;rw [hre];simp only [Int.toNat_natCast]
  rw [show f+u - f=u by omega]
 have hval:valB b r=((b.drop f).drop a).take (u - a):=by
  unfold valB;rw [hre];simp only [Int.toNat_natCast]
  rw [List.drop_drop,show f+u - (f+a)=u - a by omega]
 have hfit:=(zza hrec).1
 have hn:r.Number=n:=by rw [hre]
 have hw:r.Wire=w:=by rw [hre]
 have hrl:((b.drop f).take u).length=u:=by simp;omega
 have hnx:zcR ((b.drop f).take u) 0=(⟨n,w,0,0+(a:Int),0+(u:Int)⟩,0):=by
  unfold zcR
  rw [if_neg (by rw [hrl];omega)]
  simp only [Int.toNat_zero,List.drop_zero,zBg hrec]
 unfold zcQ at hs
 rcases zft m r.Number r.Wire with hv| ⟨hv,hf⟩| ⟨i,run,hv,hfi,hi⟩
 ·rw [hv] at hs;cases hs
 ·have e:vwG m r=(-1,false):=by unfold vwG;rw [hv]
  refine ⟨.inl (by simp only [thR,e]),fun _=>?_,fun hh=>by simp only [thR,e] at hh;omega,fun hh=>by simp only [thR,e] at hh;omega⟩
  simp only [thR,hraw]
  unfold unkR
  rw [hnx,hrl]
  simp only [beq_self_eq_true,Bool.true_and,Int.zero_add]
  rw [←hn,hf];rfl
 ·have e:vwG m r=((i:Int),run):=by unfold vwG;rw [hv]
  rw [hv] at hs
  simp only at hs
  rw [if_neg (by omega)] at hs
  refine ⟨.inr (by simp only [thR,e];omega),fun hh=>by simp only [thR,e] at hh;omega,fun _ hrn=>?_,fun _ hrn=>?_⟩
  ·simp only [thR,e] at hrn⊢
   subst hrn
   obtain ⟨v1,v2,_⟩:=zzx hv
   refine ⟨v1,v2,?_⟩
   unfold zjq at hs
   rw [if_pos rfl] at hs
   by_cases he:(zin (zV m i).Kind (valB b r)).2=0
   ·exact he
   ·rw [if_pos he] at hs;cases hs
  ·simp only [thR,e] at hrn⊢
   subst hrn
   have hk:zbT (zV m i).Kind=true∧zcu (zV m i).Kind=r.Wire:=by
    unfold vw at hv
    rw [hfi] at hv
    split at hv
    ·cases hv
    ·split at hv
     ·cases hv
     ·split at hv
      ·cases hv
      ·rename_i h4
       cases hr:zbT (zV m i).Kind with
       | false=>exact absurd (.inl hr) h4
       | true=>exact ⟨rfl,by by_cases hq:zcu (zV m i).Kind=r.Wire;exact hq;exact absurd (.inr hq) h4⟩
   refine ⟨hk.1,by rw [hk.2,hw,hval];exact hfit,fun h15=>?_,fun h17=>?_⟩
   ·unfold zjq at hs
    rw [if_neg (by simp)] at hs
    cases hr4:zfG (valB b r) with
    | true=>rfl
    | false=>rw [if_pos ⟨h15,hr4⟩] at hs;cases hs
   ·unfold zjq at hs
    rw [if_neg (by simp),if_neg (by omega),if_pos h17] at hs
    cases d with
    | zero=>simp only [zDw] at hs;cases hs
    | succ e=>
     simp only [zDw] at hs
     refine ⟨e,rfl,?_⟩
     cases hg:zaf s e (zV m i).Of (valB b r) with
     | none=>rfl
     | some q=>rw [hg] at hs;cases hs
structure zui (s:List Mes) (d:Nat) (f:Fld) (a:zfv):Prop where
 words:∀w∈a.2.2.1,znn f w=true
 texts:∀t∈a.2.2.2.1,ztr f t=true
 numT:kNum f.Kind=true→a.2.2.2.1=[]
 subs:∀x∈a.2.2.2.2,f.Kind=17∧ziH s x f.Of=true∧1+dM x≤d
 join:f.Kind=17→∀e,d=e+1→zaf s e f.Of a.1=none
 met:a.2.1=true→f.Kind=17→∃e,d=e+1
 one:f.Repeated=false→a.2.2.1.length≤1∧a.2.2.2.1.length≤1∧a.2.2.2.2=[]
theorem zvR {k:Int} (h:kNum k=true):k≠17∧k≠15∧k≠16:=by rw [zjo] at h;omega
theorem zyj {f:Fld} (hk:kNum f.Kind=true) (v:List UInt8):∀w∈(zbs f.Kind v).1,znn f w=true:=by
 intro w hw
 unfold zbs at hw
 rw [if_neg (by rw [hk];simp)] at hw
 split at hw
 ·obtain ⟨p,_,rfl⟩:=List.mem_map.1 hw
  unfold znn zhx
  rw [hk,zqQ _ (znF _)]
  simp
 ·cases hw
theorem zxQ {f:Fld} (hk:kNum f.Kind=true) {v:List UInt8} (hf:zfp (zcu f.Kind) v=true):znn f (zlY f.Kind v).1=true:=by
 rw [zkh hk hf]
 unfold znn zhx
 rw [hk,zqQ _ (znF _)]
 simp
theorem zDS (s:List Mes) (d:Nat) (f:Fld):zui s d f acc0 where
 words:=fun w hw=>nomatch hw
 texts:=fun w hw=>nomatch hw
 numT:=fun _=>rfl
 subs:=fun w hw=>nomatch hw
 join:=fun _ e _=>zqS s e _
 met:=fun h=>nomatch h
 one:=fun _=>⟨Nat.zero_le _,Nat.zero_le _,rfl⟩
theorem zFT {s:List Mes} {d:Nat} {m:Mes} {f:Fld} {g:Int→List UInt8→Msg} {a:zfv} {t:Th} (ha:zui s d f a) (ht:OkT s d m t) (hi:0≤t.fi) (hf:zV m t.fi=f)
  (hg:f.Kind=17→∀e,d=e+1→zaf s e f.Of t.val=none→ziH s (g f.Of t.val) f.Of=true∧dM (g f.Of t.val)≤e):zui s d f (stp g f a t):=by
 obtain ⟨h1,h2,hnt,h3,h4,h5,h6⟩:=ha
 have hrun:=ht.run hi
 have hone:=ht.one hi
 rw [hf] at hrun hone
 have w0:∀w∈(if f.Repeated=true then a.2.2.1 else []),znn f w=true:=fun w hw=>by
  split at hw
  ·exact h1 w hw
  ·cases hw
 have t0:∀w∈(if f.Repeated=true then a.2.2.2.1 else []),ztr f w=true:=fun w hw=>by
  split at hw
  ·exact h2 w hw
  ·cases hw
 have tn:kNum f.Kind=true→(if f.Repeated=true then a.2.2.2.1 else [])=[]:=fun hk=>by
  split
  ·exact hnt hk
  ·rfl
 have wl:f.Repeated=false→(if f.Repeated=true then a.2.2.1 else [])=[]:=fun h=>by rw [h];rfl
 have tl:f.Repeated=false→(if f.Repeated=true then a.2.2.2.1 else [])=[]:=fun h=>by rw [h];rfl
 unfold stp
 by_cases hr:t.run=true
 ·obtain ⟨r1,r2,r3⟩:=hrun hr
  rw [if_pos hr]
  refine ⟨fun w hw=>?_,t0,tn,h3,h4,fun _ hk=>absurd hk (zvR r1).1,fun hh=>by rw [r2] at hh;cases hh⟩
  rcases List.mem_append.1 hw with hw| hw
  ·exact w0 w hw
  ·exact zyj r1 _ w hw
 ·have hr':t.run=false:=by simpa using hr
  obtain ⟨o1,o2,o3,o4⟩:=hone hr'
  rw [if_neg hr]
  by_cases hn:kNum f.Kind=true
  ·rw [if_pos hn]
   refine ⟨fun w hw=>?_,t0,tn,h3,h4,fun _ hk=>absurd hk (zvR hn).1,fun hh=>?_⟩
   ·rcases List.mem_append.1 hw with hw| hw
    ·exact w0 w hw
    ·rw [List.mem_singleton.1 hw];exact zxQ hn o2
   ·have:=h6 hh
    simp only [wl hh,tl hh]
    exact ⟨Nat.le_refl _,Nat.zero_le _,this.2.2⟩
  ·rw [if_neg hn]
   by_cases hk:f.Kind=17∧f.Repeated=true
   ·rw [if_pos hk]
    obtain ⟨e,he,hv⟩:=o4 hk.1
    obtain ⟨g1,g2⟩:=hg hk.1 e he hv
    refine ⟨w0,t0,tn,fun x hx=>?_,h4,fun _ _=>⟨e,he⟩,fun hh=>by rw [hk.2] at hh;cases hh⟩
    rcases List.mem_append.1 hx with hx| hx
    ·exact h3 x hx
    ·rw [List.mem_singleton.1 hx];exact ⟨hk.1,g1,by omega⟩
   ·rw [if_neg hk]
    by_cases hk2:f.Kind=17
    ·rw [if_pos hk2]
     obtain ⟨e,he,hv⟩:=o4 hk2
     refine ⟨w0,t0,tn,h3,fun _ e' he'=>?_,fun _ _=>⟨e,he⟩,fun hh=>?_⟩
     ·have:e'=e:=by omega
      subst this
      exact (zoY s e' f.Of t.val (h4 hk2 e' he')).2 hv
     ·simp only [wl hh,tl hh]
      exact ⟨Nat.zero_le _,Nat.zero_le _,(h6 hh).2.2⟩
    ·rw [if_neg hk2]
     have hk15:f.Kind=15∨f.Kind=16:=by
      have:¬(1≤f.Kind∧f.Kind≤14):=fun hh=>hn (zjo.2 hh)
      have h17:1≤f.Kind∧f.Kind≤17:=by simpa [zbT] using o1
      omega
     refine ⟨w0,fun x hx=>?_,fun hh=>absurd hh hn,h3,h4,fun _ hh=>absurd hh hk2,fun hh=>?_⟩
     ·rcases List.mem_append.1 hx with hx| hx
      ·exact t0 x hx
      ·rw [List.mem_singleton.1 hx]
       unfold ztr
       rcases hk15 with hh| hh
       ·simp [hh,o3 hh]
       ·simp [hh]
     ·simp only [wl hh,tl hh]
      exact ⟨Nat.zero_le _,Nat.le_refl _,(h6 hh).2.2⟩
theorem zzA {s:List Mes} {d:Nat} {m:Mes} {f:Fld} {g:Int→List UInt8→Msg} {i:Int} (hi:0≤i) (hf:zV m i=f):∀(a:zfv) (l:List Th),zui s d f a→(∀t∈l,OkT s d m t)→
  (∀t∈l,f.Kind=17→∀e,d=e+1→zaf s e f.Of t.val=none→ziH s (g f.Of t.val) f.Of=true∧dM (g f.Of t.val)≤e)→zui s d f (accF g f i a l)
 | a,[],ha,_,_=>ha
 | a,t::l,ha,ht,hg=>by
  rw [accF]
  refine zzA hi hf _ l ?_ (fun x hx=>ht x (List.mem_cons_of_mem _ hx)) (fun x hx=>hg x (List.mem_cons_of_mem _ hx))
  split
  ·rename_i h
   exact zFT ha (ht t List.mem_cons_self) (by omega) (by rw [h];exact hf) (hg t List.mem_cons_self)
  ·exact ha
theorem zCa {d:Nat}:∀{l:List Msg},(∀x∈l,1+dM x≤d)→dMs l≤d
 | [],_=>by simp [dMs]
 | x::l,h=>by
  rw [dMs]
  have:=h x List.mem_cons_self
  have:=zCa fun y hy=>h y (List.mem_cons_of_mem _ hy)
  omega
theorem zCb {d:Nat}:∀{l:List Vlu},(∀x∈l,dV x≤d)→dVs l≤d
 | [],_=>by simp [dVs]
 | x::l,h=>by
  rw [dVs]
  have:=h x List.mem_cons_self
  have:=zCb fun y hy=>h y (List.mem_cons_of_mem _ hy)
  omega
theorem zEP {s:List Mes} {d:Nat} {f:Fld} {g:Int→List UInt8→Msg} {q:zfv} (hq:zui s d f q) (hkr:zbT f.Kind=true)
  (hg:f.Kind=17→q.2.1=true→∀e,d=e+1→zaf s e f.Of q.1=none→ziH s (g f.Of q.1) f.Of=true∧dM (g f.Of q.1)≤e) (hm:0<zgf (valO g f q)):
  zus s (valO g f q) f=true∧dV (valO g f q)≤d:=by
 obtain ⟨h1,h2,hnt,h3,h4,h5,h6⟩:=hq
 have hsubs:∀x∈(valO g f q).Subs,f.Kind=17∧ziH s x f.Of=true∧1+dM x≤d:=by
  unfold valO
  simp only
  intro x hx
  split at hx
  ·rename_i hc
   obtain ⟨e,he⟩:=h5 hc.1 hc.2.1
   obtain ⟨g1,g2⟩:=hg hc.2.1 hc.1 e he (h4 hc.2.1 e he)
   rw [List.mem_singleton.1 hx]
   exact ⟨hc.2.1,g1,by omega⟩
  ·exact h3 x hx
 constructor
 ·rw [zCf,ztc]
  have hmany:zzZ f (valO g f q)=true:=by
   unfold zzZ
   rw [decide_eq_true hm,hkr,Bool.true_and,Bool.and_true]
   cases hr:f.Repeated with
   | true=>simp
   | false=>
    rw [Bool.or_false]
    refine decide_eq_true ?_
    obtain ⟨o1,o2,o3⟩:=h6 hr
    unfold zgf valO
    simp only
    by_cases hk:f.Kind=17
    ·have e1:q.2.2.1=[]:=by
      cases hw:q.2.2.1 with
      | nil=>rfl
      | cons w l=>
       have:=h1 w (by rw [hw];exact List.mem_cons_self)
       unfold znn at this
       simp only [Bool.and_eq_true] at this
       exact absurd hk (zvR this.1).1
     have e2:q.2.2.2.1=[]:=by
      cases hw:q.2.2.2.1 with
      | nil=>rfl
      | cons w l=>
       have:=h2 w (by rw [hw];exact List.mem_cons_self)
       unfold ztr at this
       rw [hk] at this;simp at this
     rw [e1,e2]
     split
     ·simp
     ·rw [o3];simp
    ·rw [if_neg (fun hh=>hk hh.2.1),o3]
     by_cases hn:kNum f.Kind=true
     ·rw [hnt hn];simp;exact o1
     ·have e1:q.2.2.1=[]:=by
       cases hw:q.2.2.1 with
       | nil=>rfl
       | cons w l=>
        have:=h1 w (by rw [hw];exact List.mem_cons_self)
        unfold znn at this
        simp only [Bool.and_eq_true] at this
        exact absurd this.1 hn
      rw [e1];simp;exact o2
  rw [hmany,Bool.true_and,Bool.and_eq_true,Bool.and_eq_true]
  refine ⟨⟨List.all_eq_true.2 h1,List.all_eq_true.2 h2⟩,List.all_eq_true.2 fun x hx=>?_⟩
  obtain ⟨x1,x2,_⟩:=hsubs x hx
  simp [x1,x2]
 ·rw [zwR]
  exact zCa fun x hx=>(hsubs x hx).2.2
theorem zmP (m:Mes) (i:Int):zbt m i=(zV m i).Number:=rfl
theorem zCS {s:List Mes} (hs:zgR s) {m:Mes} (hm:m∈s) {i j:Nat} (hi:i<m.Fields.length) (hj:j<m.Fields.length) (h:m.Fields[i].Number=m.Fields[j].Number):i=j:=by
 rcases Nat.lt_trichotomy i j with hlt| h'| hlt
 ·exact absurd h (hs.nums m hm i j _ _ hlt (List.getElem?_eq_getElem hi) (List.getElem?_eq_getElem hj)).1
 ·exact h'
 ·exact absurd h.symm (hs.nums m hm j i _ _ hlt (List.getElem?_eq_getElem hj) (List.getElem?_eq_getElem hi)).1
theorem zrC {s:List Mes} (hs:zgR s) {m:Mes} (hm:m∈s) {i:Int} (h0:0≤i) (hi:i<m.Fields.length):fldI m (zV m i).Number=i:=by
 obtain ⟨n,rfl⟩:∃n:Nat,i=n:=⟨i.toNat,by omega⟩
 have hn:n<m.Fields.length:=by omega
 rw [zdX hn]
 rcases zjm m m.Fields[n].Number with ⟨_,h⟩| ⟨j,hj,h,hjn,_⟩
 ·exact absurd rfl (h _ (List.getElem_mem hn))
 ·rw [h,zCS hs hm hj hn hjn]
theorem zpz {s:List Mes} (hs:zgR s) {m:Mes} (hm:m∈s):(zcj (zbt m) m.Fields.length).Pairwise fun a b=>zbt m a<zbt m b:=by
 refine (zpA (zbt m) m.Fields.length).imp_of_mem fun {a b} ha hb h=>?_
 rcases h with h| ⟨h,hlt⟩
 ·exact h
 ·exfalso
  obtain ⟨a0,a1⟩:=zeI.1 ha
  obtain ⟨b0,b1⟩:=zeI.1 hb
  rw [zmP,zmP] at h
  have:=zrC hs hm a0 a1
  rw [h,zrC hs hm b0 b1] at this
  omega
theorem zpv {s:List Mes} (hs:zgR s) {m:Mes} (hm:m∈s) (v:Int→Vlu) (hn:∀i,(v i).Number=zbt m i):∀(o:List Int) (p:Option Int),(∀i∈o,0≤i∧i<m.Fields.length)→(o.Pairwise fun a b=>zbt m a<zbt m b)→
  (∀i∈o,p.all (fun n=>decide (n<zbt m i))=true)→(∀i∈o,0<zgf (v i)→zus s (v i) (zV m i)=true)→znI s ((o.map v).filter fun x=>decide (0<zgf x)) m p=true
 | [],p,_,_,_,_=>by rw [List.map_nil,List.filter_nil,znI]
 | i::o,p,h1,h2,h3,h4=>by
  obtain ⟨h2a,h2b⟩:=List.pairwise_cons.1 h2
  have ih:=fun p hp=>zpv hs hm v hn o p (fun j hj=>h1 j (List.mem_cons_of_mem _ hj)) h2b hp (fun j hj=>h4 j (List.mem_cons_of_mem _ hj))
  rw [List.map_cons,List.filter_cons]
  by_cases hp:0<zgf (v i)
  ·rw [if_pos (by simpa using hp),znI,ih _ (fun j hj=>by rw [hn];simpa using h2a j hj)]
   obtain ⟨i0,i1⟩:=h1 i List.mem_cons_self
   have hfi:=zrC hs hm i0 i1
   rw [hn,zmP,hfi,h4 i List.mem_cons_self hp,←zmP,h3 i List.mem_cons_self,decide_eq_true i0]
   rfl
  ·rw [if_neg (by simpa using hp)]
   exact ih p fun j hj=>h3 j (List.mem_cons_of_mem _ hj)
theorem zAY {s:List Mes} (hs:zgR s):∀(N:Nat) (b:List UInt8) (d k:Nat),b.length=N→k<s.length→zaf s d k b=none→ziH s (ofM s k b) k=true∧dM (ofM s k b)≤d:=by
 intro N
 induction N using Nat.strongRecOn with
 | _ N IH=>
  intro b d k hN hk hv
  have hmm:zY s (k:Int)∈s:=by rw [zfJ hk];exact List.getElem_mem hk
  have hth:=zFl hv
  have hwt:=zqD (zY s (k:Int)) b
  rw [zyV]
  generalize hl:ths (zY s (k:Int)) b=l at hth hwt
  generalize hm:zY s (k:Int)=m at hmm hth hwt
  have hsub:∀f∈m.Fields,f.Kind=17→∀v:List UInt8,v.length+1≤b.length→∀e,zaf s e f.Of v=none→ziH s (ofM s f.Of v) f.Of=true∧dM (ofM s f.Of v)≤e:=fun f hf h17 v hvl e he=>by
   have hof:=(hs.fld _ hmm f hf).sub h17
   obtain ⟨q,hq⟩:∃q:Nat,f.Of=q:=⟨f.Of.toNat,by omega⟩
   rw [hq] at he⊢
   exact IH v.length (by omega) v e q rfl (by omega) he
  have hval:∀i∈zcj (zbt m) m.Fields.length,0<zgf (valO (ofM s) (zV m i) (accF (ofM s) (zV m i) i acc0 l))→
    zus s (valO (ofM s) (zV m i) (accF (ofM s) (zV m i) i acc0 l)) (zV m i)=true∧dV (valO (ofM s) (zV m i) (accF (ofM s) (zV m i) i acc0 l))≤d:=fun i hi hp=>by
   obtain ⟨i0,i1⟩:=zeI.1 hi
   obtain ⟨n,hn⟩:∃n:Nat,i=n:=⟨i.toNat,by omega⟩
   have hnl:n<m.Fields.length:=by omega
   have hfm:zV m i∈m.Fields:=by rw [hn,zdX hnl];exact List.getElem_mem _
   have hacc:=zzA (g:=ofM s) i0 rfl acc0 l (zDS s d (zV m i)) hth (fun t ht h17 e he hv=>hsub _ hfm h17 _ (by have:=ztJ ht;omega) e hv)
   have hw:=(zrY (ofM s) (zV m i) i acc0 l).2
   refine zEP hacc (hs.fld _ hmm _ hfm).kind (fun h17 hmet e he hv=>hsub _ hfm h17 _ ?_ e hv) hp
   have h0:wJ acc0=0:=rfl
   rw [h0,wJ,if_pos hmet] at hw
   omega
  constructor
  ·rw [zBk,hm,decide_eq_true (by omega),Bool.true_and,Bool.and_eq_true]
   constructor
   ·unfold zit zmc
    exact zpv hs hmm (fun i=>valO (ofM s) (zV m i) (accF (ofM s) (zV m i) i acc0 l)) (fun i=>rfl) _ none (fun i hi=>zeI.1 hi) (zpz hs hmm) (fun _ _=>rfl) (fun i hi hp=>(hval i hi hp).1)
   ·unfold zit unkO
    refine List.all_eq_true.2 fun u hu=>?_
    obtain ⟨t,ht,rfl⟩:=List.mem_map.1 hu
    obtain ⟨ht1,ht2⟩:=List.mem_filter.1 ht
    exact (hth t ht1).unk (by simpa using ht2)
  ·rw [zBZ]
   unfold zit zmc
   refine zCb fun x hx=>?_
   obtain ⟨hx1,hx2⟩:=List.mem_filter.1 hx
   obtain ⟨i,hi,rfl⟩:=List.mem_map.1 hx1
   exact (hval i hi (by simpa using hx2)).2
theorem zCm {n:Int} (h: -9223372036854775808≤n∧n≤9223372036854775807):(Lit.int .i64 n).wf=true:=by
 simpa [Lit.wf,IntKind.min,IntKind.max,IntKind.bits,IntKind.signed] using h
structure zwz (a:zfv):Prop where
 words:∀w∈a.2.2.1,0≤w∧w≤18446744073709551615
 texts:∀t∈a.2.2.2.1,t.length≤1048576
 subs:∀x∈a.2.2.2.2,bdM x∧smM x
theorem zDR:zwz acc0:=⟨fun w h=>(nomatch h),fun w h=>(nomatch h),fun w h=>(nomatch h)⟩
theorem zDM (k:Int) (v:List UInt8):∀w∈(zbs k v).1,0≤w∧w≤18446744073709551615:=by
 intro w hw
 unfold zbs at hw
 split at hw
 ·cases hw
 ·split at hw
  ·obtain ⟨p,_,rfl⟩:=List.mem_map.1 hw
   exact zoQ k (znF k)
  ·cases hw
theorem zDj (k:Int) (v:List UInt8):0≤(zlY k v).1∧(zlY k v).1≤18446744073709551615:=by
 unfold zlY
 split
 ·simp
 ·split
  ·simp
  ·exact zoQ k (znF k)
theorem zFS {g:Int→List UInt8→Msg} {f:Fld} {a:zfv} {t:Th} (ha:zwz a) (ht:t.val.length≤1048576) (hg:f.Kind=17→bdM (g f.Of t.val)∧smM (g f.Of t.val)):zwz (stp g f a t):=by
 obtain ⟨h1,h2,h3⟩:=ha
 have w0:∀w∈(if f.Repeated=true then a.2.2.1 else []),0≤w∧w≤18446744073709551615:=fun w hw=>by
  split at hw
  ·exact h1 w hw
  ·cases hw
 have t0:∀w∈(if f.Repeated=true then a.2.2.2.1 else []),w.length≤1048576:=fun w hw=>by
  split at hw
  ·exact h2 w hw
  ·cases hw
 unfold stp
 split
 ·refine ⟨fun w hw=>?_,t0,h3⟩
  rcases List.mem_append.1 hw with hw| hw
  ·exact w0 w hw
  ·exact zDM _ _ w hw
 ·split
  ·refine ⟨fun w hw=>?_,t0,h3⟩
   rcases List.mem_append.1 hw with hw| hw
   ·exact w0 w hw
   ·rw [List.mem_singleton.1 hw];exact zDj _ _
  ·split
   ·rename_i hk
    refine ⟨w0,t0,fun x hx=>?_⟩
    rcases List.mem_append.1 hx with hx| hx
    ·exact h3 x hx
    ·rw [List.mem_singleton.1 hx];exact hg hk.1
   ·split
    ·exact ⟨w0,t0,h3⟩
    ·refine ⟨w0,fun x hx=>?_,h3⟩
     rcases List.mem_append.1 hx with hx| hx
     ·exact t0 x hx
     ·rw [List.mem_singleton.1 hx];exact ht
theorem zzz {g:Int→List UInt8→Msg} {f:Fld} {i:Int}:∀{l:List Th} {a:zfv},zwz a→(∀t∈l,t.val.length≤1048576)→(f.Kind=17→∀t∈l,bdM (g f.Of t.val)∧smM (g f.Of t.val))→zwz (accF g f i a l)
 | [],a,ha,_,_=>ha
 | t::l,a,ha,ht,hg=>by
  rw [accF]
  refine zzz ?_ (fun x hx=>ht x (List.mem_cons_of_mem _ hx)) fun h17 x hx=>hg h17 x (List.mem_cons_of_mem _ hx)
  split
  ·exact zFS ha (ht t List.mem_cons_self) fun h17=>hg h17 t List.mem_cons_self
  ·exact ha
theorem zFG {s:List Mes} (hs:zgR s):∀(N:Nat) (b:List UInt8) (k:Nat),b.length=N→N≤1048576→k<s.length→bdM (ofM s k b)∧smM (ofM s k b):=by
 intro N
 induction N using Nat.strongRecOn with
 | _ N IH=>
  intro b k hN hb hk
  have hmm:zY s (k:Int)∈s:=by rw [zfJ hk];exact List.getElem_mem hk
  have hwt:=zqD (zY s (k:Int)) b
  have hraw:∀t∈ths (zY s (k:Int)) b,t.raw.length≤b.length:=fun t ht=>by
   unfold ths at ht
   obtain ⟨r,_,rfl⟩:=List.mem_map.1 ht
   show (rawB b r.R).length≤_
   unfold rawB;simp;omega
  have hfew:=hs.few _ hmm
  rw [zyV]
  generalize ths (zY s (k:Int)) b=l at hwt hraw
  generalize zY s (k:Int)=m at hmm hfew⊢
  have hsub:∀f∈m.Fields,f.Kind=17→∀v:List UInt8,v.length+1≤b.length→bdM (ofM s f.Of v)∧smM (ofM s f.Of v):=fun f hf h17 v hvl=>by
   have hof:=(hs.fld _ hmm f hf).sub h17
   obtain ⟨q,hq⟩:∃q:Nat,f.Of=q:=⟨f.Of.toNat,by omega⟩
   rw [hq]
   exact IH v.length (by omega) v q rfl (by omega) (by omega)
  have hval:∀i∈zcj (zbt m) m.Fields.length,bdV (valO (ofM s) (zV m i) (accF (ofM s) (zV m i) i acc0 l))∧smV (valO (ofM s) (zV m i) (accF (ofM s) (zV m i) i acc0 l)):=fun i hi=>by
   obtain ⟨i0,i1⟩:=zeI.1 hi
   obtain ⟨n,hn⟩:∃n:Nat,i=n:=⟨i.toNat,by omega⟩
   have hnl:n<m.Fields.length:=by omega
   have hfm:zV m i∈m.Fields:=by rw [hn,zdX hnl];exact List.getElem_mem _
   have hfo:=hs.fld _ hmm _ hfm
   have hacc:=zzz (g:=ofM s) (f:=zV m i) (i:=i) (l:=l) zDR (fun t ht=>by have:=ztJ ht;omega) (fun h17 t ht=>hsub _ hfm h17 _ (by have:=ztJ ht;omega))
   have hw:=zrY (ofM s) (zV m i) i acc0 l
   have w0:wA acc0=0:=rfl
   have j0:wJ acc0=0:=rfl
   rw [w0,j0] at hw
   generalize zV m i=f at hfm hfo hacc hw⊢
   generalize accF (ofM s) f i acc0 l=q at hacc hw⊢
   obtain ⟨a1,a2,a3⟩:=hacc
   have hsubs:(valO (ofM s) f q).Subs.length≤1048576∧∀x∈(valO (ofM s) f q).Subs,bdM x∧smM x:=by
    unfold valO
    simp only
    split
    ·rename_i hc
     refine ⟨by simp,fun x hx=>?_⟩
     rw [List.mem_singleton.1 hx]
     have h2:=hw.2
     rw [wJ,if_pos hc.1] at h2
     exact hsub f hfm hc.2.1 _ (by omega)
    ·exact ⟨by have:=hw.1;unfold wA at this;omega,a3⟩
   have h1:=hw.1
   unfold wA at h1
   have e1:(valO (ofM s) f q).Words=q.2.2.1:=rfl
   have e2:(valO (ofM s) f q).Texts=q.2.2.2.1:=rfl
   have e3:(valO (ofM s) f q).Number=f.Number:=rfl
   refine ⟨(zrZ _).2 ⟨by rw [e3];exact zCm (by have:=hfo.lo;have:=hfo.hi;omega),⟨by rw [e1];omega,by rw [e1];exact a1⟩,⟨by rw [e2];omega,fun x hx=>by rw [e2] at hx;have:=a2 x hx;omega⟩,by have:=hsubs.1;omega,zkO.2 fun x hx=>(hsubs.2 x hx).1⟩,
    (zFN _).2 ⟨by rw [e1];omega,⟨by rw [e2];omega,by rw [e2];exact a2⟩,hsubs.1,zxS.2 fun x hx=>(hsubs.2 x hx).2⟩⟩
  have hvl:(zit (ofM s) m l).Values.length≤200:=by
   unfold zit zmc
   simp only
   refine Nat.le_trans (List.length_filter_le _ _) ?_
   rw [List.length_map,znM];exact hfew
  have hul:(zit (ofM s) m l).Unknown.length≤1048576:=by
   unfold zit unkO
   simp only
   rw [List.length_map]
   refine Nat.le_trans (List.length_filter_le _ _) ?_
   have:=znp l
   omega
  have hum:∀t∈(zit (ofM s) m l).Unknown,t.length≤1048576:=fun u hu=>by
   unfold zit unkO at hu
   obtain ⟨t,ht,rfl⟩:=List.mem_map.1 hu
   have:=hraw t (List.mem_filter.1 ht).1
   omega
  have hvm:∀v∈(zit (ofM s) m l).Values,bdV v∧smV v:=fun v hv=>by
   unfold zit zmc at hv
   obtain ⟨hx1,_⟩:=List.mem_filter.1 hv
   obtain ⟨i,hi,rfl⟩:=List.mem_map.1 hx1
   exact hval i hi
  refine ⟨(zpS _).2 ⟨by omega,⟨by omega,fun t ht=>by have:=hum t ht;omega⟩,zkP.2 fun v hv=>(hvm v hv).1⟩,(zFM _).2 ⟨by omega,⟨hul,hum⟩,zxT.2 fun v hv=>(hvm v hv).2⟩⟩
end Go.Proofs.YtcbkcblkecmjnaaGreat
namespace Go.Proofs.YtcbkcblkecmjnaaGreat
open Go
set_option linter.unusedVariables false
def splF:Nat→Nat→List UInt8→List Rec×Option (Nat×Int)
 | 0,_,_=>([],none)
 | n+1,base,l=>match l with
  | []=>([],none)
  | x::r=>match rec5 (x::r) with
   | .inl c=>([],some (base,c))
   | .inr (m,w,a,t)=>(⟨m,w,(base:Int),((base+a:Nat):Int),((base+t:Nat):Int)⟩::(splF n (base+t) ((x::r).drop t)).1,(splF n (base+t) ((x::r).drop t)).2)
theorem zDp (base:Nat) (l:List UInt8):∀n,l.length<n→spl base l=splF n base l:=by
 refine zgB (fun base l=>∀n,l.length<n→spl base l=splF n base l) ?_ ?_ ?_ base l
 ·intro base n hn
  obtain ⟨n,rfl⟩:∃m,n=m+1:=⟨n - 1,by omega⟩
  rw [zfH];rfl
 ·intro base l c hl h _ n hn
  obtain ⟨n,rfl⟩:∃m,n=m+1:=⟨n - 1,by omega⟩
  rw [zgi hl h]
  cases l with
  | nil=>exact absurd rfl hl
  | cons x r=>simp only [splF,h]
 ·intro base l m w a t hl h _ g1 g2 g3 ih n hn
  obtain ⟨n,rfl⟩:∃m,n=m+1:=⟨n - 1,by omega⟩
  rw [zdZ hl h,ih n (by simp;omega)]
  cases l with
  | nil=>exact absurd rfl hl
  | cons x r=>simp only [splF,h]
theorem zwm (l:List UInt8):spl 0 l=splF (l.length+1) 0 l:=zDp 0 l _ (Nat.lt_succ_self _)
theorem zAB (m:Mes) (b:List UInt8):zdz m b=vwR (vws m (splF (b.length+1) 0 b).2 (splF (b.length+1) 0 b).1):=by unfold zdz;rw [zwm]
theorem zEM (m:Mes) (b:List UInt8):ths m b=(vwR (vws m (splF (b.length+1) 0 b).2 (splF (b.length+1) 0 b).1)).1.map (thOf b):=by unfold ths;rw [zAB]
def zvC (s:List Mes):Nat→Int→List UInt8→Option (Int×Int)
 | 0,k,b=>zbR (zY s k) none b (splF (b.length+1) 0 b)
 | d+1,k,b=>zbR (zY s k) (some (zvC s d)) b (splF (b.length+1) 0 b)
theorem zqc (s:List Mes):∀(d:Nat),zaf s d=zvC s d
 | 0=>by funext k b;simp only [zaf,zvC,zwm]
 | d+1=>by funext k b;simp only [zaf,zvC,zwm,zqc s d]
def ofF (s:List Mes):Nat→Int→List UInt8→Msg
 | 0,_,_=>⟨[],[]⟩
 | n+1,k,b=>zit (ofF s n) (zY s k) ((vwR (vws (zY s k) (splF (b.length+1) 0 b).2 (splF (b.length+1) 0 b).1)).1.map (thOf b))
theorem zCU (s:List Mes):∀(n:Nat),ofN s n=ofF s n
 | 0=>by funext k b;simp only [ofN,ofF]
 | n+1=>by funext k b;simp only [ofN,ofF,zEM,zCU s n]
theorem zAi (s:List Mes) (k:Int) (b:List UInt8):ofM s k b=ofF s (b.length+1) k b:=by unfold ofM;rw [zCU]
end Go.Proofs.YtcbkcblkecmjnaaGreat
namespace Go.Proofs.YtcbkcblkecmjnaaGreat
open Go
set_option linter.unusedVariables false
structure zGB (s:List Mes) (v:Vlu) (f:Fld):Prop where
 many:0<zgf v
 one:f.Repeated=false→zgf v=1
 kind:zbT f.Kind=true
 words:∀w∈v.Words,znn f w=true
 texts:∀t∈v.Texts,ztr f t=true
 subs:∀x∈v.Subs,f.Kind=17∧ziH s x f.Of=true
end Go.Proofs.YtcbkcblkecmjnaaGreat
namespace Go.Proofs.YtcbkcblkecmjnaaGreat
open Go
set_option linter.unusedVariables false
theorem zyp (s:List Mes) (root d:Int):argS s root d=0∨argS s root d=2∨argS s root d=9:=by
 unfold argS
 split
 ·omega
 ·split<;>omega
theorem zvo (s:List Mes) (root:Int) (b:List UInt8) (d:Int):0≤(zdB s root b d).2∧(zdB s root b d).2≤9:=by
 unfold zdB
 by_cases h:argS s root d=0
 ·rw [if_neg (by simpa using h)]
  cases hf:zaf s d.toNat root b with
  | none=>simp
  | some p=>
   have:=zhJ s d.toNat root b p.1 p.2 hf
   simp only [Option.getD_some];omega
 ·rw [if_pos h]
  rcases zyp s root d with h| h| h<;>rw [h]<;>simp
end Go.Proofs.YtcbkcblkecmjnaaGreat
namespace Go.Proofs.YtcbkcblkecmjnaaGreat
open Go
set_option linter.unusedVariables false
def treeOf (s:List Mes) (root:Int) (b:List UInt8) (d:Int):Msg×Int:=if (zdB s root b d).2≠0 then (⟨[],[]⟩,(zdB s root b d).2) else (ofM s root b,0)
theorem zoR {s:List Mes} {root:Int} {b:List UInt8} {d:Int} (h:(zdB s root b d).2=0):argS s root d=0:=by
 unfold zdB at h
 by_cases h0:argS s root d=0
 ·exact h0
 ·rw [if_pos h0] at h;exact h
end Go.Proofs.YtcbkcblkecmjnaaGreat
namespace Go.Proofs.YtcbkcblkecmjnaaGreat
open Go
set_option linter.unusedVariables false
theorem zAs:∀(fuel:Nat) (x:Msg) (most:Nat),szM x<fuel→bdM x→dM x≤most→most≤1048576→zfh fuel x most=some ((dM x:Nat):Int)
 | 0,x,_,h,_,_,_=>by omega
 | fuel+1,x,most,hs,hb,hd,hm=>by
  obtain ⟨b1,_,b4⟩:=(zpS x).1 hb
  rw [ztq] at hs
  rw [zBZ] at hd⊢
  show zhu (zfh fuel) x most=_
  unfold zhu
  have inner:∀(v:Vlu),v∈x.Values→∀(c i d:Nat),i+c=v.Subs.length→d≤most→zfV most (zfh fuel) v d i=some (.inl ((max d (dMs (v.Subs.drop i)):Nat):Int)):=by
   intro v hv c
   have hsz:=znf hv
   have hdv:=zry hv
   obtain ⟨_,_,_,c1,c2⟩:=(zrZ _).1 (zkP.1 b4 _ hv)
   rw [zwp] at hsz
   rw [zwR] at hdv
   induction c with
   | zero=>
    intro i d hi hdm
    have e:v.Subs.drop i=[]:=List.drop_eq_nil_of_le (by omega)
    rw [e,dMs]
    refine zpF ?_
    unfold zcU
    rw [itF (by simp;omega),Nat.max_zero]
   | succ c ih=>
    intro i d hi hdm
    have hil:i<v.Subs.length:=by omega
    have hm2:=List.getElem_mem hil
    have s2:=zne hm2
    have d2:=zvu hm2
    rw [List.drop_eq_getElem_cons hil,dMs]
    have hr:=zAs fuel v.Subs[i] (most - 1) (by omega) (zkO.1 c2 _ hm2) (by omega) (by omega)
    have hmost:IntKind.i64.wrap ((most:Int) - 1)=((most - 1:Nat):Int):=by rw [zz (by omega)];omega
    have hw:IntKind.i64.wrap (1+((dM v.Subs[i]:Nat):Int))=1+((dM v.Subs[i]:Nat):Int):=by rw [zz (by omega)]
    have hmax:(if (d:Int)<1+((dM v.Subs[i]:Nat):Int) then 1+((dM v.Subs[i]:Nat):Int) else (d:Int))=((max d (1+dM v.Subs[i]):Nat):Int):=by
     split<;>omega
    refine (zpE (deep3':=((max d (1+dM v.Subs[i]):Nat):Int)) (v3':=((i+1:Nat):Int)) ?_).trans ?_
    ·unfold zcU
     rw [itT (by simp;omega),zZ rfl hil,sb,itF (by simp;omega),hmost,hr,sb,hw,hmax,itF (by simp;omega),zz (by omega)]
     push_cast;rfl
    ·rw [ih (i+1) (max d (1+dM v.Subs[i])) (by omega) (by omega)]
     congr 3
     omega
  have outer:∀(c i d:Nat),i+c=x.Values.length→d≤most→zfU most (zfh fuel) x d i=some (.inl ((max d (dVs (x.Values.drop i)):Nat):Int)):=by
   intro c
   induction c with
   | zero=>
    intro i d hi hdm
    have e:x.Values.drop i=[]:=List.drop_eq_nil_of_le (by omega)
    rw [e,dVs]
    refine zpD ?_
    unfold zcT
    rw [itF (by simp;omega),Nat.max_zero]
   | succ c ih=>
    intro i d hi hdm
    have hil:i<x.Values.length:=by omega
    have hmem:=List.getElem_mem hil
    have hdv:=zry hmem
    rw [List.drop_eq_getElem_cons hil,dVs]
    have h2:=inner x.Values[i] hmem (x.Values[i]).Subs.length 0 d (Nat.zero_add _) hdm
    rw [List.drop_zero,←zwR] at h2
    have h2':zfV most (zfh fuel) x.Values[i] d 0=_:=h2
    refine (zpC (deep':=((max d (dV x.Values[i]):Nat):Int)) (v':=((i+1:Nat):Int)) ?_).trans ?_
    ·unfold zcT
     rw [itT (by simp;omega),zZ rfl hil,sb,h2',sb,zz (by omega)]
     push_cast;rfl
    ·rw [ih (i+1) (max d (dV x.Values[i])) (by omega) (by omega)]
     congr 3
     omega
  have h:=outer x.Values.length 0 0 (Nat.zero_add _) (Nat.zero_le _)
  have h':zfU most (zfh fuel) x 0 0=_:=h
  rw [h',sb,List.drop_zero,Nat.zero_max]
theorem zBv {fuel:Nat} {x:Msg} (hf:szM x<fuel) (hb:bdM x) (hd:dM x≤131072):zjC fuel x=some ((dM x:Nat):Int):=by
 unfold zjC
 have h:=zAs fuel x 131072 hf hb hd (by omega)
 have h':zfh fuel x 131072=_:=h
 rw [h',sb]
section
open Classical
end
end Go.Proofs.YtcbkcblkecmjnaaGreat
namespace Go.Proofs.YtcbkcblkecmjnaaGreat
open Go
theorem zEx:∀a<256,zpK ((a:Nat):Int)=some (if a<128 then (1,(a:Int)) else if a/32=6 then (2,((a%32:Nat):Int)) else if a/16=14 then (3,((a%16:Nat):Int)) else if a/8=30 then (4,((a%8:Nat):Int)) else (0,0)):=by decide+kernel
theorem zwj (w k:Nat) (h:k≤32):shrI .u32 (w:Int) (k:Int)=((w/2^k:Nat):Int):=ztj (k:= .u32) (a:=w) (b:=k) (by simpa [IntKind.bits] using h)
theorem zrL (w:Nat):zlr (w:Int)=some (if w<128 then 1 else if w<2048 then 2 else if 55296≤w∧w≤57343 then 0 else if w<65536 then 3 else if w≤1114111 then 4 else 0):=by
 unfold zlr
 have e7:shrI .u32 (w:Int) 7=((w/128:Nat):Int):=zwj w 7 (by omega)
 have e11:shrI .u32 (w:Int) 11=((w/2048:Nat):Int):=zwj w 11 (by omega)
 have e16:shrI .u32 (w:Int) 16=((w/65536:Nat):Int):=zwj w 16 (by omega)
 rw [e7,e11,e16]
 by_cases h1:w<128
 ·rw [itT (by simp;omega),if_pos h1]
 ·rw [itF (by simp;omega),if_neg h1]
  by_cases h2:w<2048
  ·rw [itT (by simp;omega),if_pos h2]
  ·rw [itF (by simp;omega),if_neg h2]
   by_cases h3:55296≤w∧w≤57343
   ·rw [itT (by simp;omega),if_pos h3]
   ·rw [itF (by simp;omega),if_neg h3]
    by_cases h4:w<65536
    ·rw [itT (by simp;omega),if_pos h4]
    ·rw [itF (by simp;omega),if_neg h4]
     by_cases h5:w≤1114111
     ·rw [itT (by simp;omega),if_pos h5]
     ·rw [itF (by simp;omega),if_neg h5]
theorem zAQ:∀c<256,shrI .u8 ((c:Nat):Int) 6=((c/64:Nat):Int)∧IntKind.u32.wrap (andI .u8 ((c:Nat):Int) 63)=((c%64:Nat):Int):=by decide+kernel
theorem zjc {v:List UInt8} {w i:Nat} (h:i<v.length) (hv:v.length≤1000) (hw:w≤1000000):
  zck v w i=if cont v[i] then zck v ((64*w+v[i].toNat%64:Nat):Int) ((i+1:Nat):Int) else some (.inr ()):=by
 have hc:=v[i].toNat_lt
 obtain ⟨e1,e2⟩:=zAQ v[i].toNat (by omega)
 have hb:zdK v w i=if cont v[i] then some (.inl (((64*w+v[i].toNat%64:Nat):Int),((i+1:Nat):Int))) else some (.inr (.inr ())):=by
  unfold zdK
  rw [itT (by simp;omega),zZ rfl h,sb,e1,e2]
  by_cases hk:cont v[i]=true
  ·rw [if_pos hk]
   unfold cont at hk
   simp only [decide_eq_true_eq] at hk
   rw [itF (by simp;omega),zz (by omega)]
   have e3:shlI .u32 (w:Int) 6=((w*64:Nat):Int):=by
    have:shlI .u32 (w:Int) 6=((w*64%4294967296:Nat):Int):=by simp [shlI,IntKind.bits,zyk]
    rw [this,Nat.mod_eq_of_lt (by omega)]
   rw [e3,zAk rfl (by simp [IntKind.bits];omega) (by simp [IntKind.bits];omega),Nat.or_comm,zxw _ w 6 (by omega)]
   have e4:v[i].toNat%64+w*2^6=64*w+v[i].toNat%64:=by omega
   rw [e4];rfl
  ·rw [if_neg hk]
   unfold cont at hk
   simp only [decide_eq_true_eq] at hk
   rw [itT (by simp;omega)]
 by_cases hk:cont v[i]=true
 ·rw [if_pos hk] at hb⊢;exact zrt hb
 ·rw [if_neg hk] at hb⊢;exact zmb hb
theorem zpf {v:List UInt8} {w i:Nat} (h:v.length≤i):zck v w i=some (.inl (w:Int)):=by
 refine zmb ?_
 unfold zdK
 rw [itF (by simp;omega)]
theorem zGn {w:Nat} {b:UInt8} (hw:w≤100):zck [b] w 0=if cont b then some (.inl ((64*w+b.toNat%64:Nat):Int)) else some (.inr ()):=by
 have h:=zjc (v:=[b]) (w:=w) (i:=0) (by simp) (by simp) (by omega)
 refine Eq.trans h ?_
 simp only [List.getElem_cons_zero]
 rw [zpf (by simp)]
theorem zGo {w:Nat} {b c:UInt8} (hw:w≤100):zck [b,c] w 0=if cont b then (if cont c then some (.inl ((64*(64*w+b.toNat%64)+c.toNat%64:Nat):Int)) else some (.inr ())) else some (.inr ()):=by
 have h:=zjc (v:=[b,c]) (w:=w) (i:=0) (by simp) (by simp) (by omega)
 refine Eq.trans h ?_
 rw [zjc (i:=0+1) (by simp) (by simp) (by omega)]
 simp only [List.getElem_cons_zero,List.getElem_cons_succ,Nat.zero_add]
 rw [zpf (by simp)]
theorem zGp {w:Nat} {b c d:UInt8} (hw:w≤100):zck [b,c,d] w 0=if cont b then (if cont c then (if cont d then some (.inl ((64*(64*(64*w+b.toNat%64)+c.toNat%64)+d.toNat%64:Nat):Int)) else some (.inr ())) else some (.inr ())) else some (.inr ()):=by
 have h:=zjc (v:=[b,c,d]) (w:=w) (i:=0) (by simp) (by simp) (by omega)
 refine Eq.trans h ?_
 rw [zjc (i:=0+1) (by simp) (by simp) (by omega),zjc (i:=0+1+1) (by simp) (by simp) (by omega)]
 simp only [List.getElem_cons_zero,List.getElem_cons_succ,Nat.zero_add]
 rw [zpf (by simp)]
theorem zCT (n:Nat) {l:List UInt8} (h:∀m,m≠n→isN m l=false):nxt l=if isN n l then n else 0:=by
 by_cases hn:isN n l=true
 ·rw [if_pos hn,zFF hn]
 ·rw [if_neg hn]
  by_cases h0:nxt l=0
  ·exact h0
  ·have h1:=zrN h0
   by_cases h2:nxt l=n
   ·rw [h2] at h1;exact absurd h1 hn
   ·rw [h _ h2] at h1;cases h1
theorem zlb (n:Nat) {a:UInt8} {t:List UInt8} (h:n=1∧a.toNat<128∨n=2∧192≤a.toNat∧a.toNat<224∨n=3∧224≤a.toNat∧a.toNat<240∨n=4∧240≤a.toNat):nxt (a::t)=if isN n (a::t) then n else 0:=by
 refine zCT n fun m hm=>?_
 cases hh:isN m (a::t) with
 | false=>rfl
 | true=>
  obtain ⟨a',t',e,_,g⟩:=zjn hh
  cases e
  omega
theorem zzX (b:List UInt8):zlq b=some ((nxt b:Nat):Int):=by
 cases b with
 | nil=>rfl
 | cons a t=>
  have ha:=a.toNat_lt
  unfold zlq
  have e00:idx (a::t) (0:Int)=some a:=zZ (n:=0) rfl (by simp)
  rw [itF (by simp;omega),e00,sb]
  rw [zEx _ (by omega),sb]
  by_cases h1:a.toNat<128
  ·rw [zlb 1 (.inl ⟨rfl,h1⟩),if_pos h1]
   simp only
   rw [itF (by simp;omega),zfY (i:=1) (j:=1) (a:=1) (b:=1) rfl rfl (by omega) (by simp),sb]
   have e0:zck (((a::t).drop 1).take (1 - 1)) (a.toNat:Int) 0=some (.inl (a.toNat:Int)):=zpf (i:=0) (by simp)
   rw [e0,sb]
   simp only
   rw [zrL,sb,if_pos h1,itF (by rfl)]
   simp [isN,is1,h1]
  ·rw [if_neg h1]
   by_cases h2:a.toNat/32=6
   ·rw [zlb 2 (.inr (.inl ⟨rfl,by omega,by omega⟩)),if_pos h2]
    simp only
    match t with
    | []=>rw [itT (by simp)];rfl
    | b::t=>
     rw [itF (by simp;omega),zfY (i:=1) (j:=2) (a:=1) (b:=2) rfl rfl (by omega) (by simp),sb]
     have e0:=zGn (w:=a.toNat%32) (b:=b) (by omega)
     have e0':zck (((a::b::t).drop 1).take (2 - 1)) ((a.toNat%32:Nat):Int) 0=_:=e0
     rw [e0']
     have hb:=b.toNat_lt
     by_cases c1:cont b=true
     ·rw [if_pos c1,sb]
      simp only
      have hn:=zrL (64*(a.toNat%32)+b.toNat%64)
      simp only [isN,is2,c1,and_true,decide_eq_true_eq]
      simp only [cont,decide_eq_true_eq] at c1
      by_cases h:194≤a.toNat
      ·rw [if_neg (by omega),if_pos (by omega)] at hn
       rw [hn,sb,itF (by rfl),if_pos (by omega)];rfl
      ·rw [if_pos (by omega)] at hn
       rw [hn,sb,itT (by rfl),if_neg (by omega)];rfl
     ·rw [if_neg c1,sb]
      simp only
      simp [isN,is2,c1]
   ·rw [if_neg h2]
    by_cases h3:a.toNat/16=14
    ·rw [zlb 3 (.inr (.inr (.inl ⟨rfl,by omega,by omega⟩))),if_pos h3]
     simp only
     match t with
     | []=>rw [itT (by simp)];rfl
     | [b]=>rw [itT (by simp)];rfl
     | b::c::t=>
      rw [itF (by simp;omega),zfY (i:=1) (j:=3) (a:=1) (b:=3) rfl rfl (by omega) (by simp),sb]
      have e0:=zGo (w:=a.toNat%16) (b:=b) (c:=c) (by omega)
      have e0':zck (((a::b::c::t).drop 1).take (3 - 1)) ((a.toNat%16:Nat):Int) 0=_:=e0
      rw [e0']
      have hb:=b.toNat_lt
      have hc:=c.toNat_lt
      by_cases c1:cont b=true
      ·rw [if_pos c1]
       by_cases c2:cont c=true
       ·rw [if_pos c2,sb]
        simp only
        have hn:=zrL (64*(64*(a.toNat%16)+b.toNat%64)+c.toNat%64)
        simp only [isN,is3,c1,c2,true_and,decide_eq_true_eq]
        simp only [cont,decide_eq_true_eq] at c1 c2
        by_cases h:(a.toNat=224→160≤b.toNat)∧(a.toNat=237→b.toNat<160)
        ·rw [if_neg (by omega),if_neg (by omega),if_neg (by omega),if_pos (by omega)] at hn
         rw [hn,sb,itF (by rfl),if_pos (by omega)];rfl
        ·by_cases g:64*(64*(a.toNat%16)+b.toNat%64)+c.toNat%64<2048
         ·by_cases g':64*(64*(a.toNat%16)+b.toNat%64)+c.toNat%64<128
          ·rw [if_pos g'] at hn
           rw [hn,sb,itT (by rfl),if_neg (by omega)];rfl
          ·rw [if_neg g',if_pos g] at hn
           rw [hn,sb,itT (by rfl),if_neg (by omega)];rfl
         ·rw [if_neg (by omega),if_neg g,if_pos (by omega)] at hn
          rw [hn,sb,itT (by rfl),if_neg (by omega)];rfl
       ·rw [if_neg c2,sb]
        simp only
        simp [isN,is3,c2]
      ·rw [if_neg c1,sb]
       simp only
       simp [isN,is3,c1]
    ·rw [if_neg h3]
     by_cases h4:a.toNat/8=30
     ·rw [zlb 4 (.inr (.inr (.inr ⟨rfl,by omega⟩))),if_pos h4]
      simp only
      match t with
      | []=>rw [itT (by simp)];rfl
      | [b]=>rw [itT (by simp)];rfl
      | [b,c]=>rw [itT (by simp)];rfl
      | b::c::d::t=>
       rw [itF (by simp;omega),zfY (i:=1) (j:=4) (a:=1) (b:=4) rfl rfl (by omega) (by simp),sb]
       have e0:=zGp (w:=a.toNat%8) (b:=b) (c:=c) (d:=d) (by omega)
       have e0':zck (((a::b::c::d::t).drop 1).take (4 - 1)) ((a.toNat%8:Nat):Int) 0=_:=e0
       rw [e0']
       have hb:=b.toNat_lt
       have hc:=c.toNat_lt
       have hd:=d.toNat_lt
       by_cases c1:cont b=true
       ·rw [if_pos c1]
        by_cases c2:cont c=true
        ·rw [if_pos c2]
         by_cases c3:cont d=true
         ·rw [if_pos c3,sb]
          simp only
          have hn:=zrL (64*(64*(64*(a.toNat%8)+b.toNat%64)+c.toNat%64)+d.toNat%64)
          simp only [isN,is4,c1,c2,c3,true_and,decide_eq_true_eq]
          simp only [cont,decide_eq_true_eq] at c1 c2 c3
          by_cases h:a.toNat<245∧(a.toNat=240→144≤b.toNat)∧(a.toNat=244→b.toNat<144)
          ·rw [if_neg (by omega),if_neg (by omega),if_neg (by omega),if_neg (by omega),if_pos (by omega)] at hn
           rw [hn,sb,itF (by rfl),if_pos (by omega)];rfl
          ·have hw:¬(65536≤64*(64*(64*(a.toNat%8)+b.toNat%64)+c.toNat%64)+d.toNat%64∧64*(64*(64*(a.toNat%8)+b.toNat%64)+c.toNat%64)+d.toNat%64≤1114111):=by omega
           generalize 64*(64*(64*(a.toNat%8)+b.toNat%64)+c.toNat%64)+d.toNat%64=w at hn hw
           have hx:∃x:Int,zlr w=some x∧x≠4:=⟨_,hn,by (repeat' split)<;>omega⟩
           obtain ⟨x,hx,h4⟩:=hx
           rw [hx,sb,itT (by simp;omega),if_neg (by omega)];rfl
         ·rw [if_neg c3,sb]
          simp only
          simp [isN,is4,c3]
        ·rw [if_neg c2,sb]
         simp only
         simp [isN,is4,c2]
       ·rw [if_neg c1,sb]
        simp only
        simp [isN,is4,c1]
     ·rw [if_neg h4,itT (by rfl)]
      by_cases h5:240≤a.toNat
      ·rw [zlb 4 (.inr (.inr (.inr ⟨rfl,h5⟩)))]
       cases hh:isN 4 (a::t) with
       | false=>rfl
       | true=>
        match t,hh with
        | b::c::d::t,hh=>simp only [isN,is4,decide_eq_true_eq] at hh;omega
      ·by_cases h0:nxt (a::t)=0
       ·rw [h0];rfl
       ·obtain ⟨a',t',e,_,g⟩:=zjn (zrN h0)
        cases e
        omega
theorem zBH {b:List UInt8} (hb:b.length≤1152921504606846976) (l:List UInt8):∀(a c:Nat),c≤a→a≤b.length→l=b.drop a→
  zgs b a c ((nxt l:Nat):Int)=some (((a+(pre4 l).1:Nat):Int),((c+(pre4 l).2:Nat):Int)):=by
 refine zCZ (fun l=>∀(a c:Nat),c≤a→a≤b.length→l=b.drop a→zgs b a c ((nxt l:Nat):Int)=some (((a+(pre4 l).1:Nat):Int),((c+(pre4 l).2:Nat):Int))) ?_ ?_ l
 ·intro l h a c hc ha hl
  rw [h,zBc h]
  refine zrv ?_
  unfold zei
  rw [itF (by rfl)];rfl
 ·intro l h ih a c hc ha hl
  subst hl
  have h4:=zvS (b.drop a)
  have hle:=zoA (b.drop a)
  simp only [List.length_drop] at hle
  have e1:(b.drop a).drop (nxt (b.drop a))=b.drop (a+nxt (b.drop a)):=by rw [List.drop_drop]
  refine (zru (atv':=((a+nxt (b.drop a):Nat):Int)) (points':=((c+1:Nat):Int)) (size':=((nxt (b.drop (a+nxt (b.drop a))):Nat):Int)) ?_).trans ?_
  ·unfold zei
   rw [itT (by simp;omega),zz (by omega),zmC (a:=a+nxt (b.drop a)) (by push_cast;rfl) rfl (by omega),sb,zzX,sb,zz (by omega)];rfl
  ·rw [←e1,ih (a+nxt (b.drop a)) (c+1) (by omega) (by omega) e1,zEB h]
   simp only [Nat.add_assoc,Nat.add_comm 1]
theorem zDD {b:List UInt8} (hb:b.length≤1152921504606846976):znj b=some (((pre4 b).1:Int),((pre4 b).2:Int)):=by
 unfold znj
 rw [zzX,sb]
 have h:=zBH hb b 0 0 (Nat.le_refl _) (Nat.zero_le _) rfl
 simp only [Nat.zero_add] at h
 have h':zgs b 0 0 ((nxt b:Nat):Int)=some (((pre4 b).1:Int),((pre4 b).2:Int)):=h
 rw [h',sb]
theorem zBz {b:List UInt8} (hb:b.length≤1152921504606846976):zlp b=some ((pre4 b).1:Int):=by
 unfold zlp
 rw [zDD hb,sb]
theorem zBA {b:List UInt8} (hb:b.length≤1152921504606846976):zjd b=some (zfG b):=by
 unfold zjd zfG
 rw [zBz hb,sb,znr]
end Go.Proofs.YtcbkcblkecmjnaaGreat
