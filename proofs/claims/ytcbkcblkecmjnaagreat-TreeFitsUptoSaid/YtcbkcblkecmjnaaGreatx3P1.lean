/-
  What the plain functions are. No condition.
-/
import Derived.Test.YtcbkcblkecmjnaaGreatx3S1
import Derived.Test.YtcbkcblkecmjnaaGreatx3K2
namespace Go.Proofs.YtcbkcblkecmjnaaGreat
open Go
def cpN (r:Nat):List Nat:=
 if r<128 then [r] else if r<2048 then [192+r/64,128+r%64]
 else if r<65536 then (if 55296≤r∧r≤57343 then [] else [224+r/4096,128+r/64%64,128+r%64])
 else if r≤1114111 then [240+r/262144,128+r/4096%64,128+r/64%64,128+r%64] else []
def cpB (r:Nat):List UInt8:=(cpN r).map UInt8.ofNat
def cont (c:UInt8):Bool:=decide (128≤c.toNat∧c.toNat<192)
def is1:List UInt8→Bool
 | a::_=>decide (a.toNat<128)
 | _=>false
def is2:List UInt8→Bool
 | a::b::_=>decide (194≤a.toNat∧a.toNat<224∧cont b=true)
 | _=>false
def is3:List UInt8→Bool
 | a::b::c::_=>decide (224≤a.toNat∧a.toNat<240∧cont b=true∧cont c=true∧(a.toNat=224→160≤b.toNat)∧(a.toNat=237→b.toNat<160))
 | _=>false
def is4:List UInt8→Bool
 | a::b::c::d::_=>decide (240≤a.toNat∧a.toNat<245∧cont b=true∧cont c=true∧cont d=true∧(a.toNat=240→144≤b.toNat)∧(a.toNat=244→b.toNat<144))
 | _=>false
def nxt (l:List UInt8):Nat:=if is1 l then 1 else if is2 l then 2 else if is3 l then 3 else if is4 l then 4 else 0
theorem zoZ {n:Nat} {c:UInt8} (h:n<256):(UInt8.ofNat n=c)↔n=c.toNat:=by
 constructor
 ·intro e;rw [←e,UInt8.toNat_ofNat'];omega
 ·intro e;rw [e,UInt8.ofNat_toNat]
theorem zCv (r:Int):zeZ r=some (if r<0 then [] else cpB r.toNat):=by
 unfold zeZ
 by_cases h0:r<0
 ·rw [itT (by simp;omega),if_pos h0]
 ·rw [if_neg h0]
  obtain ⟨n,rfl⟩:∃n:Nat,r=n:=⟨r.toNat,by omega⟩
  rw [Int.toNat_natCast]
  unfold cpB cpN
  by_cases h1:n<128
  ·rw [itF (by simp;omega),itT (by simp;omega),if_pos h1,zrG,zfv (n:=n) (by omega) (by omega)];rfl
  ·rw [if_neg h1]
   by_cases h2:n<2048
   ·rw [itF (by simp;omega),itF (by simp;omega),itT (by simp;omega),if_pos h2]
    simp only [Int.tdiv_eq_ediv_of_nonneg (show (0:Int)≤n by omega),Int.tmod_eq_emod_of_nonneg (show (0:Int)≤n by omega),zrG]
    rw [zB (x:=(n:Int)/64) (by omega),zB (by omega),zB (by omega),zfv (n:=192+n/64) (by omega) (by omega),sb,zfv (n:=128+n%64) (by omega) (by omega)];rfl
   ·rw [if_neg h2]
    by_cases h3:n<65536
    ·rw [if_pos h3]
     by_cases h4:55296≤n∧n≤57343
     ·rw [itT (by simp;omega),if_pos h4];rfl
     ·rw [itF (by simp;omega),itF (by simp;omega),itF (by simp;omega),itT (by simp;omega),if_neg h4]
      simp only [Int.tdiv_eq_ediv_of_nonneg (show (0:Int)≤n by omega),Int.tmod_eq_emod_of_nonneg (show (0:Int)≤n by omega),zrG]
      rw [zB (x:=(n:Int)/4096) (by omega),zB (x:=(n:Int)/64) (by omega),Int.tmod_eq_emod_of_nonneg (by omega),zB (by omega),zB (by omega),zB (by omega),
       zfv (n:=224+n/4096) (by omega) (by omega),sb,zfv (n:=128+n/64%64) (by omega) (by omega),sb,zfv (n:=128+n%64) (by omega) (by omega)];rfl
    ·rw [if_neg h3]
     by_cases h4:n≤1114111
     ·rw [itF (by simp;omega),itF (by simp;omega),itF (by simp;omega),itF (by simp;omega),if_pos h4]
      simp only [Int.tdiv_eq_ediv_of_nonneg (show (0:Int)≤n by omega),Int.tmod_eq_emod_of_nonneg (show (0:Int)≤n by omega),zrG]
      rw [zB (x:=(n:Int)/262144) (by omega),zB (x:=(n:Int)/4096) (by omega),zB (x:=(n:Int)/64) (by omega),Int.tmod_eq_emod_of_nonneg (by omega),Int.tmod_eq_emod_of_nonneg (by omega),zB (by omega),zB (by omega),zB (by omega),zB (by omega),
       zfv (n:=240+n/262144) (by omega) (by omega),sb,zfv (n:=128+n/4096%64) (by omega) (by omega),sb,zfv (n:=128+n/64%64) (by omega) (by omega),sb,zfv (n:=128+n%64) (by omega) (by omega)];rfl
     ·rw [itT (by simp;omega),if_neg h4];rfl
def zrR:Nat→List UInt8→Nat
 | 1,a::_=>a.toNat
 | 2,a::b::_=>64*(a.toNat%32)+b.toNat%64
 | 3,a::b::c::_=>64*(64*(a.toNat%16)+b.toNat%64)+c.toNat%64
 | 4,a::b::c::d::_=>64*(64*(64*(a.toNat%8)+b.toNat%64)+c.toNat%64)+d.toNat%64
 | _,_=>0
theorem map1 {l:List Nat} {a:UInt8} (h:∀x∈l,x<256):l.map UInt8.ofNat=[a]↔l=[a.toNat]:=by
 cases l with
 | nil=>simp
 | cons x l=>cases l with
  | nil=>simp only [List.map_cons,List.map_nil,List.cons.injEq,and_true];exact zoZ (h x (by simp))
  | cons y l=>simp
theorem map2 {l:List Nat} {a b:UInt8} (h:∀x∈l,x<256):l.map UInt8.ofNat=[a,b]↔l=[a.toNat,b.toNat]:=by
 cases l with
 | nil=>simp
 | cons x l=>simp only [List.map_cons,List.cons.injEq,zoZ (h x (by simp)),map1 (l:=l) fun y hy=>h y (by simp [hy])]
theorem map3 {l:List Nat} {a b c:UInt8} (h:∀x∈l,x<256):l.map UInt8.ofNat=[a,b,c]↔l=[a.toNat,b.toNat,c.toNat]:=by
 cases l with
 | nil=>simp
 | cons x l=>simp only [List.map_cons,List.cons.injEq,zoZ (h x (by simp)),map2 (l:=l) fun y hy=>h y (by simp [hy])]
theorem map4 {l:List Nat} {a b c d:UInt8} (h:∀x∈l,x<256):l.map UInt8.ofNat=[a,b,c,d]↔l=[a.toNat,b.toNat,c.toNat,d.toNat]:=by
 cases l with
 | nil=>simp
 | cons x l=>simp only [List.map_cons,List.cons.injEq,zoZ (h x (by simp)),map3 (l:=l) fun y hy=>h y (by simp [hy])]
theorem zuX (r:Nat):∀x∈cpN r,x<256:=by
 intro x hx
 unfold cpN at hx
 split at hx
 ·simp at hx;omega
 ·split at hx
  ·simp at hx;omega
  ·split at hx
   ·split at hx
    ·cases hx
    ·simp at hx;omega
   ·split at hx
    ·simp at hx;omega
    ·cases hx
theorem cpB1 (a:UInt8):cpB a.toNat=[a]↔a.toNat<128:=by
 have ha:=a.toNat_lt
 unfold cpB
 rw [map1 (zuX _)]
 unfold cpN
 by_cases h:a.toNat<128
 ·simp [h]
 ·rw [if_neg h,if_pos (by omega)];simp;omega
theorem cpB2 (a b:UInt8):cpB (64*(a.toNat%32)+b.toNat%64)=[a,b]↔194≤a.toNat∧a.toNat<224∧cont b=true:=by
 have ha:=a.toNat_lt
 have hb:=b.toNat_lt
 unfold cpB cont
 rw [map2 (zuX _)]
 unfold cpN
 by_cases h:64*(a.toNat%32)+b.toNat%64<128
 ·rw [if_pos h];simp;omega
 ·rw [if_neg h,if_pos (by omega)];simp;omega
theorem cpB3 (a b c:UInt8):cpB (64*(64*(a.toNat%16)+b.toNat%64)+c.toNat%64)=[a,b,c]↔224≤a.toNat∧a.toNat<240∧cont b=true∧cont c=true∧(a.toNat=224→160≤b.toNat)∧(a.toNat=237→b.toNat<160):=by
 have ha:=a.toNat_lt
 have hb:=b.toNat_lt
 have hc:=c.toNat_lt
 unfold cpB cont
 rw [map3 (zuX _)]
 unfold cpN
 by_cases h:64*(64*(a.toNat%16)+b.toNat%64)+c.toNat%64<128
 ·rw [if_pos h];simp;omega
 ·rw [if_neg h]
  by_cases h2:64*(64*(a.toNat%16)+b.toNat%64)+c.toNat%64<2048
  ·rw [if_pos h2];simp;omega
  ·rw [if_neg h2,if_pos (by omega)]
   by_cases h3:55296≤64*(64*(a.toNat%16)+b.toNat%64)+c.toNat%64∧64*(64*(a.toNat%16)+b.toNat%64)+c.toNat%64≤57343
   ·rw [if_pos h3];simp;omega
   ·rw [if_neg h3];simp;omega
theorem cpB4 (a b c d:UInt8):cpB (64*(64*(64*(a.toNat%8)+b.toNat%64)+c.toNat%64)+d.toNat%64)=[a,b,c,d]↔
  240≤a.toNat∧a.toNat<245∧cont b=true∧cont c=true∧cont d=true∧(a.toNat=240→144≤b.toNat)∧(a.toNat=244→b.toNat<144):=by
 have ha:=a.toNat_lt
 have hb:=b.toNat_lt
 have hc:=c.toNat_lt
 have hd:=d.toNat_lt
 unfold cpB cont
 rw [map4 (zuX _)]
 unfold cpN
 by_cases h:64*(64*(64*(a.toNat%8)+b.toNat%64)+c.toNat%64)+d.toNat%64<65536
 ·have:∀l:List Nat,l.length≤3→(l=[a.toNat,b.toNat,c.toNat,d.toNat])=False:=fun l hl=>by simp only [eq_iff_iff,iff_false];intro e;rw [e] at hl;simp at hl
  rw [if_pos h]
  split
  ·rw [this _ (by simp)];simp;omega
  ·split
   ·rw [this _ (by simp)];simp;omega
   ·split
    ·rw [this _ (by simp)];simp;omega
    ·rw [this _ (by simp)];simp;omega
 ·rw [if_neg (by omega),if_neg (by omega),if_neg h]
  by_cases h2:64*(64*(64*(a.toNat%8)+b.toNat%64)+c.toNat%64)+d.toNat%64≤1114111
  ·rw [if_pos h2];simp;omega
  ·rw [if_neg h2];simp;omega
def isN (n:Nat) (l:List UInt8):Bool:=match n with
 | 1=>is1 l
 | 2=>is2 l
 | 3=>is3 l
 | 4=>is4 l
 | _=>false
theorem zzn (n:Nat) (l:List UInt8) (h1:1≤n) (h4:n≤4) (hl:n≤l.length):cpB (zrR n l)=l.take n↔isN n l=true:=by
 match n,l,h1,h4,hl with
 | 1,a::t,_,_,_=>simp only [zrR,List.take_succ_cons,List.take_zero,cpB1,isN,is1,decide_eq_true_eq]
 | 2,a::b::t,_,_,_=>simp only [zrR,List.take_succ_cons,List.take_zero,cpB2,isN,is2,decide_eq_true_eq]
 | 3,a::b::c::t,_,_,_=>simp only [zrR,List.take_succ_cons,List.take_zero,cpB3,isN,is3,decide_eq_true_eq]
 | 4,a::b::c::d::t,_,_,_=>simp only [zrR,List.take_succ_cons,List.take_zero,cpB4,isN,is4,decide_eq_true_eq]
theorem zzo (n:Nat) (l:List UInt8) (h:l.length<n):isN n l=false:=by
 match n,l with
 | 0,_=>rfl
 | 1,[]=>rfl
 | 2,[]=>rfl
 | 2,[_]=>rfl
 | 3,[]=>rfl
 | 3,[_]=>rfl
 | 3,[_,_]=>rfl
 | 4,[]=>rfl
 | 4,[_]=>rfl
 | 4,[_,_]=>rfl
 | 4,[_,_,_]=>rfl
 | n+5,_=>rfl
 | 1,_::_=>simp at h
 | 2,_::_::_=>simp at h;omega
 | 3,_::_::_::_=>simp at h;omega
 | 4,_::_::_::_::_=>simp at h;omega
theorem znx {b:List UInt8} {a n i r:Nat} (hb:b.length≤1152921504606846976) (hn:n≤4) (h:i<n) (ha:a+i<b.length) (hr:r≤1000000000):
  zbk a b n r i=zbk a b n ((64*r+(b[a+i]).toNat%64:Nat):Int) ((i+1:Nat):Int):=by
 refine zkv ?_
 unfold zaX
 have hc:=(b[a+i]).toNat_lt
 rw [itT (by simp;omega),zB (by omega),zW (show (a:Int)+i=((a+i:Nat):Int) by push_cast;rfl) ha,sb]
 simp (disch:=omega) only [zB,Int.tmod_eq_emod_of_nonneg]
 push_cast;rfl
theorem zvp {b:List UInt8} {a n i r:Nat} (h:n≤i):zbk a b n r i=some (r:Int):=by
 refine zkw ?_
 unfold zaX
 rw [itF (by simp;omega)]
theorem zji {b:List UInt8} {a i:Nat} {c:UInt8} (h:(b.drop a)[i]? =some c):∃h:a+i<b.length,b[a+i]=c:=by
 rw [List.getElem?_drop] at h
 exact List.getElem?_eq_some_iff.1 h
theorem zFC {b:List UInt8} {a n:Nat} {c:UInt8} {t:List UInt8} (hb:b.length≤1152921504606846976) (hl:b.drop a=c::t) (h1:1≤n) (h4:n≤4) (hn:n≤(b.drop a).length):
  zbk a b n ((if 1<n then c.toNat%([0,0,32,16,8].getD n 0) else c.toNat:Nat):Int) (1:Nat)=some ((zrR n (b.drop a):Nat):Int):=by
 have hc:=c.toNat_lt
 rw [hl] at hn
 match n,t,h1,h4,hn with
 | 1,t,_,_,_=>rw [zvp (by omega),hl];rfl
 | 2,x::t,_,_,_=>
  obtain ⟨g1,e1⟩:=zji (b:=b) (a:=a) (i:=1) (c:=x) (by rw [hl];rfl)
  rw [if_pos (by omega),znx hb (by omega) (by omega) g1 (by simp;omega),zvp (by omega),hl,e1];rfl
 | 3,x::y::t,_,_,_=>
  obtain ⟨g1,e1⟩:=zji (b:=b) (a:=a) (i:=1) (c:=x) (by rw [hl];rfl)
  obtain ⟨g2,e2⟩:=zji (b:=b) (a:=a) (i:=2) (c:=y) (by rw [hl];rfl)
  have hx:=x.toNat_lt
  rw [if_pos (by omega),znx hb (by omega) (by omega) g1 (by simp;omega),znx hb (by omega) (by omega) g2 (by simp;omega),zvp (by omega),hl,e1,e2];rfl
 | 4,x::y::z::t,_,_,_=>
  obtain ⟨g1,e1⟩:=zji (b:=b) (a:=a) (i:=1) (c:=x) (by rw [hl];rfl)
  obtain ⟨g2,e2⟩:=zji (b:=b) (a:=a) (i:=2) (c:=y) (by rw [hl];rfl)
  obtain ⟨g3,e3⟩:=zji (b:=b) (a:=a) (i:=3) (c:=z) (by rw [hl];rfl)
  have hx:=x.toNat_lt
  have hy:=y.toNat_lt
  rw [if_pos (by omega),znx hb (by omega) (by omega) g1 (by simp;omega),znx hb (by omega) (by omega) g2 (by simp;omega),znx hb (by omega) (by omega) g3 (by simp;omega),zvp (by omega),hl,e1,e2,e3];rfl
theorem zEp {b:List UInt8} {a n:Nat} (hb:b.length≤1152921504606846976) (ha:a≤b.length) (h1:1≤n) (h5:n≤5):
  zaW a b n=if isN n (b.drop a) then some (.inr (.inr (n:Int))) else if n≤4∧n≤(b.drop a).length then some (.inl ((n+1:Nat):Int)) else some (.inr (.inl ())):=by
 have hdl:(b.drop a).length=b.length - a:=by simp
 unfold zaW
 by_cases h:n≤4∧n≤(b.drop a).length
 ·rw [if_pos h,zB (by omega),itT (by simp;omega)]
  obtain ⟨c,t,hl⟩:∃c t,b.drop a=c::t:=by
   cases hh:b.drop a with
   | nil=>rw [hh] at h;simp at h;omega
   | cons c t=>exact ⟨c,t,rfl⟩
  obtain ⟨g0,e0⟩:=zji (b:=b) (a:=a) (i:=0) (c:=c) (by rw [hl];rfl)
  have hc:=c.toNat_lt
  rw [zW rfl (show a<b.length by omega),sb]
  have e0':b[a]'(by omega)=c:=by simpa using e0
  rw [e0',zB (by omega)]
  have hp:(if (decide ((n:Int)>1))=true then (idx ([0,0,32,16,8]:(List Int)) (n:Int)>>=fun x2=>remI (c.toNat:Int) x2>>=fun v3=>some v3) else some (c.toNat:Int))=some (((if 1<n then c.toNat%([0,0,32,16,8].getD n 0) else c.toNat:Nat)):Int):=by
   match n,h1,h.1 with
   | 1,_,_=>rfl
   | 2,_,_=>rfl
   | 3,_,_=>rfl
   | 4,_,_=>rfl
  rw [hp,sb]
  have h2:=zFC hb hl h1 h.1 h.2
  have h2':zbk a b n ((if 1<n then c.toNat%([0,0,32,16,8].getD n 0) else c.toNat:Nat):Int) 1=some ((zrR n (b.drop a):Nat):Int):=h2
  rw [h2',sb,zCv,sb,if_neg (by omega),Int.toNat_natCast,zhj rfl (show (a:Int)+n=((a+n:Nat):Int) by push_cast;rfl) (by omega) (by omega),sb,Nat.add_sub_cancel_left]
  by_cases hi:isN n (b.drop a)=true
  ·rw [if_pos hi,itT (by simpa using (zzn n _ h1 h.1 h.2).2 hi)]
  ·rw [if_neg hi,itF (by simpa using fun e=>hi ((zzn n _ h1 h.1 h.2).1 e)),zB (by omega)];rfl
 ·have hn:isN n (b.drop a)=false:=by
   by_cases h4:n≤4
   ·exact zzo _ _ (by omega)
   ·have:n=5:=by omega
    subst this;rfl
  rw [if_neg h,hn,zB (by omega),itF (by simp;omega)];rfl
theorem zsG {b:List UInt8} {a:Nat} (hb:b.length≤1152921504606846976) (ha:a≤b.length):zeC b a=some ((nxt (b.drop a):Nat):Int):=by
 have key:∀(k n:Nat),n+k=5→1≤n→(∀j,1≤j→j<n→isN j (b.drop a)=false)→∃q,zcv a b n=some q∧(match q with| .inl _=>(0:Int)| .inr u=>u)=((nxt (b.drop a):Nat):Int):=by
  intro k
  induction k with
  | zero=>
   intro n hn h1 hj
   have:n=5:=by omega
   subst this
   refine ⟨.inl (),zeP ?_,?_⟩
   ·rw [zEp hb ha h1 (by omega),if_neg (by simp [isN]),if_neg (by omega)]
   ·have j1:=hj 1 (by omega) (by omega)
    have j2:=hj 2 (by omega) (by omega)
    have j3:=hj 3 (by omega) (by omega)
    have j4:=hj 4 (by omega) (by omega)
    simp only [isN] at j1 j2 j3 j4
    simp [nxt,j1,j2,j3,j4]
  | succ k ih=>
   intro n hn h1 hj
   have hb1:=zEp hb ha h1 (show n≤5 by omega)
   by_cases hi:isN n (b.drop a)=true
   ·rw [if_pos hi] at hb1
    refine ⟨.inr n,zeP hb1,?_⟩
    have e:nxt (b.drop a)=n:=by
     match n,h1,(show n≤4 by omega),hi,hj with
     | 1,_,_,hi,_=>simp only [isN] at hi;simp [nxt,hi]
     | 2,_,_,hi,hj=>have j1:=hj 1 (by omega) (by omega);simp only [isN] at hi j1;simp [nxt,hi,j1]
     | 3,_,_,hi,hj=>have j1:=hj 1 (by omega) (by omega);have j2:=hj 2 (by omega) (by omega);simp only [isN] at hi j1 j2;simp [nxt,hi,j1,j2]
     | 4,_,_,hi,hj=>have j1:=hj 1 (by omega) (by omega);have j2:=hj 2 (by omega) (by omega);have j3:=hj 3 (by omega) (by omega);simp only [isN] at hi j1 j2 j3;simp [nxt,hi,j1,j2,j3]
    simp only [e]
   ·rw [if_neg hi] at hb1
    by_cases hl:n≤4∧n≤(b.drop a).length
    ·rw [if_pos hl] at hb1
     obtain ⟨q,h2,h3⟩:=ih (n+1) (by omega) (by omega) fun j g1 g2=>by
      by_cases he:j=n
      ·subst he;simpa using hi
      ·exact hj j g1 (by omega)
     exact ⟨q,(zku hb1).trans h2,h3⟩
    ·rw [if_neg hl] at hb1
     refine ⟨.inl (),zeP hb1,?_⟩
     have hall:∀j,1≤j→isN j (b.drop a)=false:=fun j g1=>by
      by_cases g2:j<n
      ·exact hj j g1 g2
      ·by_cases g3:j≤4
       ·exact zzo _ _ (by omega)
       ·match j,g3 with
        | j+5,_=>rfl
     have j1:=hall 1 (by omega)
     have j2:=hall 2 (by omega)
     have j3:=hall 3 (by omega)
     have j4:=hall 4 (by omega)
     simp only [isN] at j1 j2 j3 j4
     simp [nxt,j1,j2,j3,j4]
 obtain ⟨q,h1,h2⟩:=key 4 1 rfl (by omega) fun j g1 g2=>by omega
 unfold zeC
 have h1':zcv a b 1=some q:=h1
 rw [h1',sb,←h2]
 cases q<;>rfl
theorem zjk {n:Nat} {l:List UInt8} (h:isN n l=true):∃a t,l=a::t∧n≤l.length∧(n=1∧a.toNat<128∨n=2∧194≤a.toNat∧a.toNat<224∨n=3∧224≤a.toNat∧a.toNat<240∨n=4∧240≤a.toNat):=by
 match n,l with
 | 1,a::t=>simp only [isN,is1,decide_eq_true_eq] at h;exact ⟨a,t,rfl,by simp,.inl ⟨rfl,h⟩⟩
 | 2,a::b::t=>simp only [isN,is2,decide_eq_true_eq] at h;exact ⟨a,_,rfl,by simp,.inr (.inl ⟨rfl,h.1,h.2.1⟩)⟩
 | 3,a::b::c::t=>simp only [isN,is3,decide_eq_true_eq] at h;exact ⟨a,_,rfl,by simp,.inr (.inr (.inl ⟨rfl,h.1,h.2.1⟩))⟩
 | 4,a::b::c::d::t=>simp only [isN,is4,decide_eq_true_eq] at h;exact ⟨a,_,rfl,by simp,.inr (.inr (.inr ⟨rfl,h.1⟩))⟩
 | 0,_=>cases h
 | 1,[]=>cases h
 | 2,[]=>cases h
 | 2,[_]=>cases h
 | 3,[]=>cases h
 | 3,[_]=>cases h
 | 3,[_,_]=>cases h
 | 4,[]=>cases h
 | 4,[_]=>cases h
 | 4,[_,_]=>cases h
 | 4,[_,_,_]=>cases h
 | _+5,_=>cases h
theorem zDt {n m:Nat} {l:List UInt8} (h:isN n l=true) (h':isN m l=true):n=m:=by
 obtain ⟨a,t,e,_,g⟩:=zjk h
 obtain ⟨a',t',e',_,g'⟩:=zjk h'
 rw [e] at e'
 cases e'
 omega
theorem zEX {n:Nat} {l:List UInt8} (h:isN n l=true):nxt l=n:=by
 obtain ⟨_,_,_,_,g⟩:=zjk h
 have k:∀m,m≠n→isN m l=false:=fun m hm=>by
  cases hh:isN m l with
  | false=>rfl
  | true=>exact absurd (zDt hh h) hm
 have hn:n=1∨n=2∨n=3∨n=4:=by omega
 rcases hn with rfl| rfl| rfl| rfl
 ·simp only [isN] at h;simp [nxt,h]
 ·have j1:=k 1 (by omega);simp only [isN] at h j1;simp [nxt,h,j1]
 ·have j1:=k 1 (by omega);have j2:=k 2 (by omega);simp only [isN] at h j1 j2;simp [nxt,h,j1,j2]
 ·have j1:=k 1 (by omega);have j2:=k 2 (by omega);have j3:=k 3 (by omega);simp only [isN] at h j1 j2 j3;simp [nxt,h,j1,j2,j3]
theorem zry {l:List UInt8} (h:nxt l≠0):isN (nxt l) l=true:=by
 unfold nxt at h⊢
 by_cases h1:is1 l=true
 ·simp [h1,isN]
 ·by_cases h2:is2 l=true
  ·simp [h1,h2,isN]
  ·by_cases h3:is3 l=true
   ·simp [h1,h2,h3,isN]
   ·by_cases h4:is4 l=true
    ·simp [h1,h2,h3,h4,isN]
    ·simp [h1,h2,h3,h4] at h
theorem zoo (l:List UInt8):nxt l≤l.length:=by
 by_cases h:nxt l=0
 ·omega
 ·obtain ⟨_,_,_,g,_⟩:=zjk (zry h);exact g
theorem zvD (l:List UInt8):nxt l≤4:=by
 by_cases h:nxt l=0
 ·omega
 ·obtain ⟨_,_,_,_,g⟩:=zjk (zry h);omega
def fst4 (m:Int) (l:List UInt8):Nat×Nat:=
 if h:nxt l=0∨(nxt l:Int)>m then (0,0) else (nxt l+(fst4 (m - nxt l) (l.drop (nxt l))).1,(fst4 (m - nxt l) (l.drop (nxt l))).2+1)
termination_by l.length
decreasing_by all_goals (have:=zoo l;simp only [List.length_drop];omega)
theorem znu {m:Int} {l:List UInt8} (h:nxt l=0∨(nxt l:Int)>m):fst4 m l=(0,0):=by rw [fst4,dif_pos h]
theorem zrn {m:Int} {l:List UInt8} (h:¬(nxt l=0∨(nxt l:Int)>m)):fst4 m l=(nxt l+(fst4 (m - nxt l) (l.drop (nxt l))).1,(fst4 (m - nxt l) (l.drop (nxt l))).2+1):=by rw [fst4,dif_neg h]
theorem zBD (P:Int→List UInt8→Prop) (h0:∀m l,(nxt l=0∨(nxt l:Int)>m)→P m l) (h1:∀m l,¬(nxt l=0∨(nxt l:Int)>m)→P (m - nxt l) (l.drop (nxt l))→P m l) (m:Int) (l:List UInt8):P m l:=by
 generalize hn:l.length=n
 induction n using Nat.strongRecOn generalizing m l with
 | _ n ih=>
  by_cases h:nxt l=0∨(nxt l:Int)>m
  ·exact h0 m l h
  ·have:=zoo l
   exact h1 m l h (ih _ (by simp only [List.length_drop];omega) _ _ rfl)
theorem ztx {b:List UInt8} (hb:b.length≤140737488355328) (most:Int) (m:Int) (l:List UInt8):∀(a c:Nat),c≤a→a≤b.length→l=b.drop a→m=most - a→
  zbK b most a c=some (((a+(fst4 m l).1:Nat):Int),((c+(fst4 m l).2:Nat):Int)):=by
 refine zBD (fun m l=>∀(a c:Nat),c≤a→a≤b.length→l=b.drop a→m=most - a→zbK b most a c=some (((a+(fst4 m l).1:Nat):Int),((c+(fst4 m l).2:Nat):Int))) ?_ ?_ m l
 ·intro m l h a c hc ha hl hm
  subst hl hm
  have h4:=zvD (b.drop a)
  refine zjK ?_
  unfold zaN
  rw [zsG (by omega) ha,sb,zB (by omega),itT (by simp;omega),znu h];rfl
 ·intro m l h ih a c hc ha hl hm
  subst hl hm
  have h4:=zvD (b.drop a)
  have hle:=zoo (b.drop a)
  simp only [List.length_drop] at hle
  refine (zjJ (atv':=((a+nxt (b.drop a):Nat):Int)) (count':=((c+1:Nat):Int)) ?_).trans ?_
  ·unfold zaN
   rw [zsG (by omega) ha,sb,zB (by omega),itF (by simp;omega),zB (by omega)];rfl
  ·rw [ih (a+nxt (b.drop a)) (c+1) (by omega) (by omega) (by rw [List.drop_drop]) (by omega),zrn h]
   simp only [Nat.add_assoc,Nat.add_comm 1]
theorem zxq {b:List UInt8} (hb:b.length≤140737488355328) (most:Int):zea b most=some (((fst4 most b).1:Int),((fst4 most b).2:Int)):=by
 unfold zea
 have h:=ztx hb most most b 0 0 (Nat.le_refl _) (Nat.zero_le _) rfl (by omega)
 simp only [Nat.zero_add] at h
 have h':zbK b most 0 0=some (((fst4 most b).1:Int),((fst4 most b).2:Int)):=h
 rw [h',sb]
def pre4 (l:List UInt8):Nat×Nat:=fst4 l.length l
theorem zBC {m:Int} {l:List UInt8} (h:(l.length:Int)≤m):fst4 m l=pre4 l:=by
 have key:∀(n:Nat) (l:List UInt8) (m m':Int),l.length=n→(l.length:Int)≤m→(l.length:Int)≤m'→fst4 m l=fst4 m' l:=by
  intro n
  induction n using Nat.strongRecOn with
  | _ n ih=>
   intro l m m' hn hm hm'
   have hle:=zoo l
   by_cases h:nxt l=0
   ·rw [znu (.inl h),znu (.inl h)]
   ·rw [zrn (m:=m) (l:=l) (by omega),zrn (m:=m') (l:=l) (by omega),ih _ (by simp only [List.length_drop];omega) (l.drop (nxt l)) (m - nxt l) (m' - nxt l) rfl (by simp only [List.length_drop];omega) (by simp only [List.length_drop];omega)]
 exact key _ l m l.length rfl h (Int.le_refl _)
theorem zAz {l:List UInt8} (h:nxt l=0):pre4 l=(0,0):=znu (.inl h)
theorem zDO {l:List UInt8} (h:nxt l≠0):pre4 l=(nxt l+(pre4 (l.drop (nxt l))).1,(pre4 (l.drop (nxt l))).2+1):=by
 have hle:=zoo l
 unfold pre4
 rw [zrn (by omega),zBC (m:=(l.length:Int) - nxt l) (by simp only [List.length_drop];omega)]
 rfl
theorem zCs (P:List UInt8→Prop) (h0:∀l,nxt l=0→P l) (h1:∀l,nxt l≠0→P (l.drop (nxt l))→P l) (l:List UInt8):P l:=by
 generalize hn:l.length=n
 induction n using Nat.strongRecOn generalizing l with
 | _ n ih=>
  by_cases h:nxt l=0
  ·exact h0 l h
  ·have:=zoo l
   exact h1 l h (ih _ (by simp only [List.length_drop];omega) _ rfl)
def zfb (l:List UInt8):Bool:=decide ((pre4 l).1=l.length)
theorem zvJ {b:List UInt8} (hb:b.length≤140737488355328):zeb b=some (zfb b):=by
 unfold zeb
 rw [zxq hb,sb]
 unfold zfb pre4
 by_cases h:(fst4 (b.length:Int) b).1=b.length
 ·simp [h]
 ·have h2:¬(((fst4 (b.length:Int) b).1:Int)=b.length):=by omega
  simp [h,h2]
end Go.Proofs.YtcbkcblkecmjnaaGreat
namespace Go.Proofs.YtcbkcblkecmjnaaGreat
open Go
def enc (v:Nat):List UInt8:=if v<128 then [UInt8.ofNat v] else UInt8.ofNat (128+v%128)::enc (v/128)
termination_by v
decreasing_by omega
def scan:Nat→Nat→List UInt8→Unit⊕(Int×Int×Int)
 | _,_,[]=> .inl ()
 | i,acc,c::t=>if i=9∧1<c.toNat then .inr (0,0,4) else if c.toNat<128 then .inr (((acc+c.toNat%128*128^i:Nat):Int),((i+1:Nat):Int),0) else scan (i+1) (acc+c.toNat%128*128^i) t
def rdR:Unit⊕(Int×Int×Int)→Int×Int×Int
 | .inl _=>(0,0,3)
 | .inr r=>r
def rd (b:List UInt8):Int×Int×Int:=rdR (scan 0 0 (b.take 10))
def hor:List UInt8→Nat
 | []=>0
 | c::t=>c.toNat%128+128*hor t
def lead:Nat→List UInt8→Nat
 | 0,_=>0
 | _+1,[]=>0
 | k+1,c::t=>if 128≤c.toNat then lead k t+1 else 0
theorem zEy (i:Nat):2^(7*i)=128^i:=by rw [Nat.pow_mul]
theorem zDj (c:Nat):c&&&127=c%128:=Nat.and_two_pow_sub_one_eq_mod c 7
theorem zAC {acc i c:Nat} (hi:i≤9) (hacc:acc<128^i) (hc:c<256) (h9:i=9→c≤1):
  orI .u64 (acc:Int) (shlI .u64 (IntKind.u64.wrap (andI .u8 (c:Int) 127)) ((7*i:Nat):Int))=((acc+c%128*128^i:Nat):Int):=by
 have e1:andI .u8 (c:Int) 127=((c%128:Nat):Int):=by
  have:=zwj (k:= .u8) rfl (a:=c) (b:=127) (by simpa [IntKind.bits] using hc) (by simp [IntKind.bits])
  rw [zDj] at this;exact this
 have hp:128^i≤128^9:=Nat.pow_le_pow_right (by omega) hi
 have hlt:c%128*128^i<18446744073709551616:=by
  by_cases h:i=9
  ·subst h
   have:=h9 rfl
   have h2:c%128≤1:=by omega
   have:=Nat.mul_le_mul_right (128^9) h2
   omega
  ·have h3:128^i≤128^8:=Nat.pow_le_pow_right (by omega) (by omega)
   have:=Nat.mul_le_mul (show c%128≤127 by omega) h3
   omega
 have e2:shlI .u64 (IntKind.u64.wrap ((c%128:Nat):Int)) ((7*i:Nat):Int)=((c%128*128^i:Nat):Int):=by
  unfold shlI
  rw [zpE rfl (by simp [IntKind.bits];omega),Int.toNat_natCast,Nat.min_eq_left (by simp [IntKind.bits];omega)]
  have h4:((c%128:Nat):Int)*2^(7*i)=((c%128*128^i:Nat):Int):=by rw [←zEy];push_cast;rfl
  rw [h4]
  exact zpE rfl (by simpa [IntKind.bits] using hlt)
 rw [e1,e2,zzH rfl (by simp [IntKind.bits];omega) (by simpa [IntKind.bits] using hlt)]
 congr 1
 rw [←zEy] at hacc⊢
 exact zxh _ _ _ hacc
theorem zAB:∀(t:List UInt8) (v:List UInt8) (i acc:Nat),v.drop i=t→i+t.length=v.length→v.length≤10→acc<128^i→zfg v acc i=some (scan i acc t):=by
 intro t
 induction t with
 | nil=>
  intro v i acc _ hl _ _
  refine zgO ?_
  unfold zbT
  rw [itF (by simp at hl⊢;omega)]
  rfl
 | cons c t ih=>
  intro v i acc hd hl hv hacc
  simp only [List.length_cons] at hl
  have hget:v[i]'(by omega)=c:=by
   have h1:v.drop i=v[i]'(by omega)::v.drop (i+1):=List.drop_eq_getElem_cons (by omega)
   rw [hd] at h1;exact (List.cons.inj h1).1.symm
  have hd':v.drop (i+1)=t:=by rw [←List.drop_drop,hd];rfl
  have hc:=c.toNat_lt
  have hb:zbT v acc i=if i=9∧1<c.toNat then some (.inr (.inr (0,0,4))) else if c.toNat<128 then some (.inr (.inr (((acc+c.toNat%128*128^i:Nat):Int),((i+1:Nat):Int),0))) else some (.inl (((acc+c.toNat%128*128^i:Nat):Int),((i+1:Nat):Int))):=by
   unfold zbT
   rw [itT (by simp;omega),zW rfl (show i<v.length by omega),sb,hget]
   by_cases h9:i=9∧1<c.toNat
   ·rw [if_pos h9,itT (by simp;omega)]
   ·rw [if_neg h9,itF (by simp;omega),zB (by omega)]
    have e:((7:Int)*(i:Int))=((7*i:Nat):Int):=by push_cast;rfl
    rw [e,zxx,sb,zAC (by omega) hacc (by omega) (by omega),zB (by omega)]
    by_cases h8:c.toNat<128
    ·rw [if_pos h8,itT (by simp;omega)];push_cast;rfl
    ·rw [if_neg h8,itF (by simp;omega)];push_cast;rfl
  rw [scan]
  split at hb
  ·rename_i h9;rw [if_pos h9];exact zgO hb
  ·rename_i h9
   rw [if_neg h9]
   split at hb
   ·rename_i h8;rw [if_pos h8];exact zgO hb
   ·rename_i h8
    rw [if_neg h8,zoD hb]
    refine ih v (i+1) _ hd' (by omega) hv ?_
    rw [Nat.pow_succ]
    have:=Nat.mul_le_mul_right (128^i) (show c.toNat%128≤127 by omega)
    omega
theorem zrE (b:List UInt8):zeM b=some (rd b):=by
 unfold zeM rd
 have e:(if (10:Int)<(b.length:Int) then (10:Int) else (b.length:Int))=((min 10 b.length:Nat):Int):=by split<;>omega
 have e2:b.take (min 10 b.length)=b.take 10:=by rw [List.take_eq_take_iff];omega
 rw [e,zrS rfl (by omega),sb,e2]
 have h:=zAB (b.take 10) (b.take 10) 0 0 rfl (by simp) (by simp;omega) (by simp)
 have h':zfg (b.take 10) 0 0=some (scan 0 0 (b.take 10)):=h
 rw [h',sb]
 cases scan 0 0 (b.take 10)<;>rfl
theorem zzQ (b:List UInt8):zgY b=some ((rd b).2.1,(rd b).2.2):=by unfold zgY;rw [zrE,sb]
theorem zvr:∀(k:Nat) (l:List UInt8),lead k l≤k∧lead k l≤l.length
 | 0,_=>⟨Nat.le_refl _,Nat.zero_le _⟩
 | _+1,[]=>⟨Nat.zero_le _,Nat.le_refl _⟩
 | k+1,c::t=>by
  have:=zvr k t
  rw [lead];split<;>simp<;>omega
theorem zux:∀(l:List UInt8) (i acc:Nat),i+l.length≤10→i≤9→
  scan i acc l=if i+lead (10 - i) l=10 then .inr (0,0,4) else if lead (10 - i) l=l.length then .inl () else if i+lead (10 - i) l=9∧1<(l.getD (lead (10 - i) l) 0).toNat then .inr (0,0,4) else
   .inr (((acc+hor (l.take (lead (10 - i) l+1))*128^i:Nat):Int),((i+lead (10 - i) l+1:Nat):Int),0):=by
 intro l
 induction l with
 | nil=>
  intro i acc _ hi
  obtain ⟨k,hk⟩:∃k,10 - i=k+1:=⟨9 - i,by omega⟩
  rw [hk]
  simp only [lead,scan,List.length_nil]
  rw [if_neg (by omega),if_pos trivial]
 | cons c t ih=>
  intro i acc hl hi
  obtain ⟨k,hk⟩:∃k,10 - i=k+1:=⟨9 - i,by omega⟩
  simp only [List.length_cons] at hl
  rw [scan]
  by_cases hc:128≤c.toNat
  ·have e:lead (10 - i) (c::t)=lead k t+1:=by rw [hk,lead,if_pos hc]
   rw [e]
   by_cases h9:i=9
   ·have:k=0:=by omega
    subst this
    rw [if_pos ⟨h9,by omega⟩,lead,if_pos (by omega)]
   ·rw [if_neg (by omega),if_neg (by omega),ih (i+1) _ (by omega) (by omega),show 10 - (i+1)=k by omega]
    by_cases h1:i+1+lead k t=10
    ·rw [if_pos h1,if_pos (show i+(lead k t+1)=10 by omega)]
    ·rw [if_neg h1,if_neg (show ¬i+(lead k t+1)=10 by omega)]
     by_cases h2:lead k t=t.length
     ·rw [if_pos h2,if_pos (show lead k t+1=(c::t).length by simp;omega)]
     ·rw [if_neg h2,if_neg (show ¬lead k t+1=(c::t).length by simp;omega)]
      have eg:(c::t).getD (lead k t+1) 0=t.getD (lead k t) 0:=by simp [List.getD]
      rw [eg]
      by_cases h3:i+1+lead k t=9∧1<(t.getD (lead k t) 0).toNat
      ·rw [if_pos h3,if_pos (show i+(lead k t+1)=9∧1<(t.getD (lead k t) 0).toNat by omega)]
      ·rw [if_neg h3,if_neg (show ¬(i+(lead k t+1)=9∧1<(t.getD (lead k t) 0).toNat) by omega)]
       rw [List.take_succ_cons,hor,Nat.pow_succ]
       have e5:acc+c.toNat%128*128^i+hor (t.take (lead k t+1))*(128^i*128)=acc+(c.toNat%128+128*hor (t.take (lead k t+1)))*128^i:=by
        rw [Nat.add_mul,Nat.mul_assoc 128,Nat.mul_comm (128^i) 128,←Nat.mul_assoc,Nat.mul_comm _ 128,Nat.mul_assoc];omega
       rw [e5]
       congr 3
       omega
  ·have e:lead (10 - i) (c::t)=0:=by rw [hk,lead,if_neg hc]
   rw [e]
   simp only [Nat.add_zero,List.length_cons,List.getD_cons_zero]
   rw [if_neg (show ¬i=10 by omega),if_neg (show ¬0=t.length+1 by omega)]
   by_cases h9:i=9∧1<c.toNat
   ·rw [if_pos h9,if_pos h9]
   ·rw [if_neg h9,if_neg h9,if_pos (show c.toNat<128 by omega)]
    simp [hor]
theorem zsf (x y:List UInt8):hor (x++y)=hor x+128^x.length*hor y:=by
 induction x with
 | nil=>simp [hor]
 | cons c t ih=>simp only [List.cons_append,hor,ih,List.length_cons,Nat.pow_succ,Nat.mul_add];rw [Nat.mul_comm (128^t.length) 128,Nat.mul_assoc];omega
theorem zyg (l:List UInt8):hor l<128^l.length:=by
 induction l with
 | nil=>simp [hor]
 | cons c t ih=>simp only [hor,List.length_cons,Nat.pow_succ];omega
theorem zBF (l:List UInt8) (j:Nat):hor (l.drop j)≤hor l:=by
 induction l generalizing j with
 | nil=>simp
 | cons c t ih=>
  cases j with
  | zero=>exact Nat.le_refl _
  | succ j=>have:=ih j;simp only [List.drop_succ_cons,hor];omega
theorem zAE (b:List UInt8) (a:Nat) (hb:b.length≤1152921504606846976):∀(k n:Nat),n+k=10→a+n≤b.length→zct a b n=some ((n+lead k (b.drop (a+n)):Nat):Int):=by
 intro k
 induction k with
 | zero=>
  intro n hn ha
  refine zeO ?_
  unfold zay
  rw [zB (by omega)]
  by_cases h1:a+n<b.length
  ·rw [itT (by simp;omega),itF (by simp;omega),sb,itF (by rfl)];rfl
  ·rw [itF (by simp;omega),sb,itF (by rfl)];rfl
 | succ k ih=>
  intro n hn ha
  by_cases h1:a+n<b.length
  ·have hd:b.drop (a+n)=b[a+n]::b.drop (a+(n+1)):=List.drop_eq_getElem_cons h1
   have hbody:zay a b n=if 128≤b[a+n].toNat then some (.inl ((n+1:Nat):Int)) else some (.inr (n:Int)):=by
    unfold zay
    rw [zB (by omega),zB (by omega),itT (by simp;omega),itT (by simp;omega),zW (show (a:Int)+n=((a+n:Nat):Int) by push_cast;rfl) h1,sb,sb]
    by_cases h2:128≤b[a+n].toNat
    ·rw [if_pos h2,itT (by simp;omega)];push_cast;rfl
    ·rw [if_neg h2,itF (by simp;omega)]
   rw [hd,lead]
   by_cases h2:128≤b[a+n].toNat
   ·rw [if_pos h2] at hbody⊢
    rw [zkq hbody,ih (n+1) (by omega) (by omega)]
    congr 2;omega
   ·rw [if_neg h2] at hbody⊢
    exact zeO hbody
  ·have hd:b.drop (a+n)=[]:=List.drop_eq_nil_of_le (by omega)
   rw [hd]
   refine zeO ?_
   unfold zay
   rw [zB (by omega),itF (by simp;omega),sb,itF (by rfl)];rfl
theorem zAF (b:List UInt8) (a m:Nat) (hb:b.length≤1152921504606846976) (hm:a+m≤b.length) (hh:hor ((b.drop a).take m)<18446744073709551616):
  ∀(j:Nat),j≤m→zcu a b (hor (((b.drop a).take m).drop j)) ((j:Int) - 1)=some ((hor ((b.drop a).take m):Nat):Int):=by
 intro j
 induction j with
 | zero=>
  intro _
  refine zks ?_
  unfold zaV
  rw [itF (by simp)];rfl
 | succ j ih=>
  intro hj
  have hL:((b.drop a).take m).length=m:=by simp;omega
  have hd:((b.drop a).take m).drop j=((b.drop a).take m)[j]'(by omega)::((b.drop a).take m).drop (j+1):=List.drop_eq_getElem_cons (by omega)
  have hc:((b.drop a).take m)[j]'(by omega)=b[a+j]'(by omega):=by simp
  have h1:=zBF ((b.drop a).take m) j
  rw [hd,hor,hc] at h1
  have h2:=(b[a+j]'(by omega)).toNat_lt
  refine (zkr (wv':=(hor (((b.drop a).take m).drop j):Nat)) (i':=(j:Int) - 1) ?_).trans (ih (by omega))
  unfold zaV
  rw [itT (by simp),zB (by omega),zW (show (a:Int)+(((j+1:Nat):Int) - 1)=((a+j:Nat):Int) by push_cast;omega) (by omega),sb,zB (by omega),hd,hor,hc]
  simp only [wrap_u64]
  rw [Int.tmod_eq_emod_of_nonneg (by omega)]
  congr 3
  ·omega
  ·push_cast;omega
theorem zCU {n C X:Nat} (hn:n≤9) (hC:C<256) (h9:¬(n=9∧1<C)) (hX:X<128^n):X+128^n*(C%128)<18446744073709551616:=by
 by_cases h9':n=9
 ·subst h9'
  have:C%128≤1:=by omega
  have:=Nat.mul_le_mul_left (128^9) this
  omega
 ·have h5:128^n≤128^8:=Nat.pow_le_pow_right (by omega) (by omega)
  have h6:C%128≤127:=by omega
  have:=Nat.mul_le_mul h5 h6
  omega
theorem zyC (b:List UInt8) (a:Nat) (hb:b.length≤1152921504606846976) (ha:a≤b.length):zcO b a=some (rd (b.drop a)):=by
 unfold zcO
 have h1:=zAE b a hb 10 0 rfl (by omega)
 simp only [Nat.zero_add,Nat.add_zero] at h1
 have h1':zct a b 0=some ((lead 10 (b.drop a):Nat):Int):=h1
 rw [h1',sb]
 have hle:=zvr 10 (b.drop a)
 have hlen:(b.drop a).length=b.length - a:=by simp
 -- the ten bytes that count
 have htake:∀(k:Nat) (l:List UInt8),lead k (l.take k)=lead k l:=by
  intro k
  induction k with
  | zero=>intro l;rfl
  | succ k ih=>intro l;cases l with
   | nil=>rfl
   | cons c t=>simp only [List.take_succ_cons,lead,ih]
 have hs:=zux ((b.drop a).take 10) 0 0 (by simp;omega) (by omega)
 simp only [Nat.zero_add,Nat.sub_zero,htake,Nat.pow_zero,Nat.mul_one] at hs
 unfold rd
 rw [hs]
 by_cases h10:lead 10 (b.drop a)=10
 ·rw [if_pos h10,itT (by simp;omega)];rfl
 ·rw [if_neg h10,itF (by simp;omega),zB (by omega)]
  by_cases hl:lead 10 (b.drop a)=(b.drop a).length
  ·rw [if_pos (show lead 10 (b.drop a)=((b.drop a).take 10).length by rw [List.length_take];omega),itT (by simp;omega)];rfl
  ·rw [if_neg (show ¬lead 10 (b.drop a)=((b.drop a).take 10).length by rw [List.length_take];omega),itF (by simp;omega)]
   have hlt:a+lead 10 (b.drop a)<b.length:=by omega
   have hg:((b.drop a).take 10).getD (lead 10 (b.drop a)) 0=b[a+lead 10 (b.drop a)]:=by
    rw [List.getD_eq_getElem?_getD,List.getElem?_take,if_pos (by omega),List.getElem?_drop,List.getElem?_eq_getElem hlt];rfl
   rw [hg,List.take_take,Nat.min_eq_left (by omega)]
   have hc:=(b[a+lead 10 (b.drop a)]).toNat_lt
   have hg2:(if (((lead 10 (b.drop a):Nat):Int)==9)=true then (idx b ((a:Int)+((lead 10 (b.drop a):Nat):Int))>>=fun x2=>some (decide ((x2.toNat:Int)>1))) else some false)=some (decide (lead 10 (b.drop a)=9∧1<(b[a+lead 10 (b.drop a)]).toNat)):=by
    by_cases h9:lead 10 (b.drop a)=9
    ·rw [itT (by simp;omega),zW (show (a:Int)+((lead 10 (b.drop a):Nat):Int)=((a+lead 10 (b.drop a):Nat):Int) by push_cast;rfl) hlt,sb]
     congr 1
     simp only [h9,true_and,decide_eq_decide]
     omega
    ·rw [itF (by simp;omega)];simp [h9]
   rw [hg2,sb]
   by_cases h9:lead 10 (b.drop a)=9∧1<(b[a+lead 10 (b.drop a)]).toNat
   ·rw [if_pos h9,itT (by simpa using h9)];rfl
   ·rw [if_neg h9,itF (decide_eq_false h9)]
    have hbd:hor ((b.drop a).take (lead 10 (b.drop a)+1))<18446744073709551616:=by
     have hsp:(b.drop a).take (lead 10 (b.drop a)+1)=(b.drop a).take (lead 10 (b.drop a))++[b[a+lead 10 (b.drop a)]]:=by
      rw [List.take_add_one,List.getElem?_drop,List.getElem?_eq_getElem hlt];rfl
     rw [hsp,zsf]
     have h3:=zyg ((b.drop a).take (lead 10 (b.drop a)))
     have h4:((b.drop a).take (lead 10 (b.drop a))).length=lead 10 (b.drop a):=by simp;omega
     rw [h4] at h3⊢
     simp only [hor,Nat.mul_zero,Nat.add_zero]
     exact zCU (by omega) (by omega) h9 h3
    have h2:=zAF b a (lead 10 (b.drop a)+1) hb (by omega) hbd (lead 10 (b.drop a)+1) (Nat.le_refl _)
    have hz:((b.drop a).take (lead 10 (b.drop a)+1)).drop (lead 10 (b.drop a)+1)=[]:=List.drop_eq_nil_of_le (by simp;omega)
    rw [hz] at h2
    have e3:(((lead 10 (b.drop a)+1:Nat):Int) - 1)=((lead 10 (b.drop a):Nat):Int):=by push_cast;omega
    rw [e3] at h2
    have h2':zcu a b 0 ((lead 10 (b.drop a):Nat):Int)=some ((hor ((b.drop a).take (lead 10 (b.drop a)+1)):Nat):Int):=h2
    rw [h2',sb,zB (by omega)]
    simp [rdR]
theorem zuh:∀(k:Nat) (l:List UInt8),lead k (l.take k)=lead k l
 | 0,_=>rfl
 | _+1,[]=>rfl
 | k+1,c::t=>by simp only [List.take_succ_cons,lead,zuh k t]
theorem zug:∀(k:Nat) (l:List UInt8),(∀y∈l.take (lead k l),128≤y.toNat)∧∀(h:lead k l<l.length),lead k l<k→(l[lead k l]).toNat<128
 | 0,_=>⟨fun y hy=>by simp [lead] at hy,fun _ h=>by omega⟩
 | _+1,[]=>⟨fun y hy=>by simp at hy,fun h=>by simp at h⟩
 | k+1,c::t=>by
  obtain ⟨h1,h2⟩:=zug k t
  by_cases hc:128≤c.toNat
  ·have e:lead (k+1) (c::t)=lead k t+1:=by rw [lead,if_pos hc]
   constructor
   ·rw [e,List.take_succ_cons]
    intro y hy
    cases hy with
    | head=>exact hc
    | tail _ hy=>exact h1 y hy
   ·simp only [e,List.getElem_cons_succ,List.length_cons]
    intro h hk;exact h2 (by omega) (by omega)
  ·have e:lead (k+1) (c::t)=0:=by rw [lead,if_neg hc]
   constructor
   ·rw [e];intro y hy;simp at hy
   ·simp only [e];intro _ _;simp;omega
theorem zjr (b:List UInt8):rd b=(0,0,4)∨(rd b=(0,0,3)∧b.length≤9)∨
  ∃x c y,b=x++c::y∧(∀z∈x,128≤z.toNat)∧c.toNat<128∧x.length≤9∧hor (x++[c])<18446744073709551616∧rd b=(((hor (x++[c]):Nat):Int),((x.length+1:Nat):Int),0):=by
 have hle:=zvr 10 b
 have hs:=zux (b.take 10) 0 0 (by simp;omega) (by omega)
 simp only [Nat.zero_add,Nat.sub_zero,zuh,Nat.pow_zero,Nat.mul_one] at hs
 unfold rd
 rw [hs]
 by_cases h10:lead 10 b=10
 ·rw [if_pos h10];exact .inl rfl
 ·rw [if_neg h10]
  by_cases hl:lead 10 b=(b.take 10).length
  ·rw [if_pos hl];refine .inr (.inl ⟨rfl,?_⟩);rw [List.length_take] at hl;omega
  ·rw [if_neg hl]
   rw [List.length_take] at hl
   have hlt:lead 10 b<b.length:=by omega
   have hg:(b.take 10).getD (lead 10 b) 0=b[lead 10 b]:=by
    rw [List.getD_eq_getElem?_getD,List.getElem?_take,if_pos (by omega),List.getElem?_eq_getElem hlt];rfl
   rw [hg,List.take_take,Nat.min_eq_left (by omega)]
   have hc:=(b[lead 10 b]).toNat_lt
   by_cases h9:lead 10 b=9∧1<(b[lead 10 b]).toNat
   ·rw [if_pos h9];exact .inl rfl
   ·rw [if_neg h9]
    obtain ⟨hf1,hf2⟩:=zug 10 b
    have hsp:b.take (lead 10 b+1)=b.take (lead 10 b)++[b[lead 10 b]]:=by
     rw [List.take_add_one,List.getElem?_eq_getElem hlt];rfl
    have hlen:(b.take (lead 10 b)).length=lead 10 b:=by rw [List.length_take];omega
    refine .inr (.inr ⟨b.take (lead 10 b),b[lead 10 b],b.drop (lead 10 b+1),?_,hf1,hf2 hlt (by omega),by omega,?_,?_⟩)
    ·rw [←List.drop_eq_getElem_cons hlt,List.take_append_drop]
    ·rw [zsf]
     have h3:=zyg (b.take (lead 10 b))
     rw [hlen] at h3⊢
     simp only [hor,Nat.mul_zero,Nat.add_zero]
     exact zCU (by omega) (by omega) h9 h3
    ·rw [hsp,hlen];simp [rdR]
theorem zEH {v:Nat} (h:v<128):enc v=[UInt8.ofNat v]:=by rw [enc,if_pos h]
theorem zEG {v:Nat} (h:¬v<128):enc v=UInt8.ofNat (128+v%128)::enc (v/128):=by rw [enc,if_neg h]
theorem zvd:∀(v:Nat),(enc v).length=lenN v:=by
 intro v
 induction v using Nat.strongRecOn with
 | _ v ih=>
  by_cases h:v<128
  ·rw [zEH h,zny h];rfl
  ·rw [zEG h,zoX h,List.length_cons,ih _ (by omega)]
theorem zEz (v:Nat):shrI .u64 (v:Int) 7=((v/128:Nat):Int):=zsO (k:= .u64) (a:=v) (b:=7) (by simp [IntKind.bits])
theorem zCe:∀(w n:Nat),n+w<9223372036854775808+w→n+lz w≤1152921504606846976→zgP w n=some ((n+lz w:Nat):Int):=by
 intro w
 induction w using Nat.strongRecOn with
 | _ w ih=>
  intro n hn hl
  by_cases h:w=0
  ·subst h
   refine zqY ?_
   unfold zdU
   rw [itF (by simp)];rfl
  ·have e:=zEV h
   refine (zqX (wv2':=((w/128:Nat):Int)) (n':=((n+1:Nat):Int)) ?_).trans ?_
   ·unfold zdU
    rw [itT (by simp;omega),zEz,zB (by omega)];rfl
   ·rw [ih (w/128) (by omega) (n+1) (by omega) (by omega)]
    congr 2;omega
theorem zER {v:Nat} (h:v<18446744073709551616):zmz (v:Int)=some ((lenN v:Nat):Int):=by
 unfold zmz
 have h1:=zEU v
 have h2:=zCd h
 have h3:=zCe (v/128) 1 (by omega) (by omega)
 have h3':zgP ((v/128:Nat):Int) 1=some ((1+lz (v/128):Nat):Int):=h3
 rw [zEz,h3',sb,h1]
theorem zAJ (a b:List Int) (hl:a.length=b.length) (hb:a.length≤1152921504606846976):∀(k i:Nat),i+k=a.length→
  (a.drop i=b.drop i∧zbA a b i=some (.inl ()))∨(a.drop i≠b.drop i∧zbA a b i=some (.inr ())):=by
 intro k
 induction k with
 | zero=>
  intro i hi
  refine .inl ⟨?_,zgz ?_⟩
  ·rw [List.drop_eq_nil_of_le (by omega),List.drop_eq_nil_of_le (by omega)]
  ·unfold zaK
   rw [itF (by simp;omega)]
 | succ k ih=>
  intro i hi
  have ha:a.drop i=a[i]'(by omega)::a.drop (i+1):=List.drop_eq_getElem_cons (by omega)
  have hb':b.drop i=b[i]'(by omega)::b.drop (i+1):=List.drop_eq_getElem_cons (by omega)
  have hbody:zaK a b i=if a[i]'(by omega)=b[i]'(by omega) then some (.inl ((i+1:Nat):Int)) else some (.inr (.inr ())):=by
   unfold zaK
   rw [itT (by simp;omega),zW rfl (show i<a.length by omega),sb,zW rfl (show i<b.length by omega),sb,zB (by omega)]
   by_cases h:a[i]'(by omega)=b[i]'(by omega)
   ·rw [if_pos h,itF (by simpa using h)];rfl
   ·rw [if_neg h,itT (by simpa using h)]
  rw [ha,hb']
  by_cases h:a[i]'(by omega)=b[i]'(by omega)
  ·rw [if_pos h] at hbody
   rw [zkt hbody]
   rcases ih (i+1) (by omega) with ⟨h1,h2⟩| ⟨h1,h2⟩
   ·exact .inl ⟨by rw [h,h1],h2⟩
   ·exact .inr ⟨fun e=>h1 (List.cons.inj e).2,h2⟩
  ·rw [if_neg h] at hbody
   exact .inr ⟨fun e=>h (List.cons.inj e).1,zgz hbody⟩
theorem zzP (a b:List Int) (hb:a.length≤1152921504606846976):zbZ a b=some (decide (a=b)):=by
 unfold zbZ
 by_cases hl:a.length=b.length
 ·rw [itF (by simp;omega)]
  rcases zAJ a b hl hb a.length 0 (by omega) with ⟨h1,h2⟩| ⟨h1,h2⟩
  ·have h2':zbA a b 0=some (.inl ()):=h2
   rw [h2',sb]
   simp only [List.drop_zero] at h1
   simp [h1]
  ·have h2':zbA a b 0=some (.inr ()):=h2
   rw [h2',sb]
   simp only [List.drop_zero] at h1
   simp [h1]
 ·rw [itT (by simp;omega)]
  have:a≠b:=fun e=>hl (by rw [e])
  simp [this]
theorem all_nil (acc:List Int):znZ [] acc=some (.inl acc):=by
 refine zpA ?_
 unfold zhW
 rw [itF (by simp)]
end Go.Proofs.YtcbkcblkecmjnaaGreat
namespace Go.Proofs.YtcbkcblkecmjnaaGreat
open Go
def zfH (n w:Int):Bool:=decide (1≤n∧n≤536870911∧(w=0∨w=1∨w=2∨w=5))
def tgR (r:Int×Int×Int):Int×Int×Int×Int:=
 if r.2.2≠0 then (0,0,0,r.2.2) else if 4294967295<r.1∨zfH (r.1/8) (r.1%8)=false then (0,0,0,5) else (r.1/8,r.1%8,r.2.1,0)
def tg (l:List UInt8):Int×Int×Int×Int:=tgR (rd l)
def tW (n w:Int):Nat:=(8*n+w).toNat
theorem zoA {n w:Int}:zfH n w=true↔1≤n∧n≤536870911∧(w=0∨w=1∨w=2∨w=5):=by simp [zfH]
theorem zxp (n w:Int):zdZ n w=some (zfH n w):=by
 unfold zdZ zfH
 simp [Bool.decide_and,Bool.decide_or,Bool.beq_eq_decide_eq]
theorem zgh (l:List UInt8):0≤(rd l).1∧(rd l).1<18446744073709551616∧0≤(rd l).2.1∧(rd l).2.1≤10∧(rd l).2.1≤l.length∧((rd l).2.2=0∨(rd l).2.2=3∨(rd l).2.2=4)∧((rd l).2.2=0→1≤(rd l).2.1):=by
 rcases zjr l with h| ⟨h,_⟩| ⟨x,c,y,e,_,_,hl,hv,h⟩
 ·rw [h];simp
 ·rw [h];simp
 ·have:l.length=x.length+1+y.length:=by rw [e];simp;omega
  rw [h]
  refine ⟨?_,?_,?_,?_,?_,.inl rfl,fun _=>?_⟩<;>simp only<;>omega
theorem zzM (x:List UInt8) (c:UInt8) (y:List UInt8) (hx:∀z∈x,128≤z.toNat) (hc:c.toNat<128) (hl:x.length≤9) (hv:hor (x++[c])<18446744073709551616):
  rd (x++c::y)=(((hor (x++[c]):Nat):Int),((x.length+1:Nat):Int),0):=by
 have key:∀(x:List UInt8) (z:List UInt8) (i acc:Nat),(∀z∈x,128≤z.toNat)→i+x.length≤9→acc+hor (x++[c])*128^i<18446744073709551616→scan i acc (x++c::z)= .inr (((acc+hor (x++[c])*128^i:Nat):Int),((i+x.length+1:Nat):Int),0):=by
  intro x
  induction x with
  | nil=>
   intro z i acc _ hi hv
   have e1:hor ([]++[c])=c.toNat:=by simp [hor];omega
   rw [e1] at hv⊢
   rw [List.nil_append,scan,if_neg,if_pos hc,Nat.mod_eq_of_lt hc]
   ·rfl
   ·rintro ⟨rfl,h2⟩
    have:=Nat.mul_le_mul_right (128^9) (show 2≤c.toNat by omega)
    omega
  | cons d x ih=>
   intro z i acc hx hi hv
   simp only [List.length_cons] at hi
   have hd:=hx d List.mem_cons_self
   have e5:acc+hor ((d::x)++[c])*128^i=acc+d.toNat%128*128^i+hor (x++[c])*128^(i+1):=by
    rw [List.cons_append,hor,Nat.pow_succ,Nat.add_mul,Nat.mul_comm (128^i) 128,←Nat.mul_assoc,Nat.mul_comm (hor (x++[c])) 128];omega
   rw [e5] at hv⊢
   rw [List.cons_append,scan,if_neg (by omega),if_neg (by omega),ih z (i+1) _ (fun z hz=>hx z (List.mem_cons_of_mem _ hz)) (by omega) hv,List.length_cons]
   congr 3
   omega
 unfold rd
 have e2:(x++c::y).take 10=x++c::y.take (9 - x.length):=by
  rw [List.take_append,List.take_of_length_le (by omega),show 10 - x.length=(9 - x.length)+1 by omega,List.take_succ_cons]
 rw [e2,key x _ 0 0 hx (by omega) (by simpa using hv)]
 simp [rdR]
theorem zqh (l m:List UInt8) (h:(rd l).2.2=0):rd (l++m)=rd l:=by
 rcases zjr l with h'| ⟨h',_⟩| ⟨x,c,y,e,hx,hc,hl,hv,h'⟩
 ·rw [h'] at h;cases h
 ·rw [h'] at h;cases h
 ·rw [h',e,List.append_assoc,List.cons_append,zzM x c _ hx hc hl hv]
theorem zuB (l m:List UInt8) (h:(rd l).2.2=0):tg (l++m)=tg l:=by unfold tg;rw [zqh l m h]
theorem zvZ {r:Int×Int×Int} (h:r.2.2≠0):tgR r=(0,0,0,r.2.2):=if_pos h
theorem znf {r:Int×Int×Int} (h:r.2.2=0) (h2:4294967295<r.1∨zfH (r.1/8) (r.1%8)=false):tgR r=(0,0,0,5):=by unfold tgR;rw [if_neg (by simp [h]),if_pos h2]
theorem zyO {r:Int×Int×Int} (h:r.2.2=0) (h2:¬(4294967295<r.1∨zfH (r.1/8) (r.1%8)=false)):tgR r=(r.1/8,r.1%8,r.2.1,0):=by unfold tgR;rw [if_neg (by simp [h]),if_neg h2]
theorem zsV (l:List UInt8):(∃c,tg l=(0,0,0,c)∧(c=3∨c=4∨c=5))∨∃n w k,tg l=(n,w,k,0)∧zfH n w=true∧1≤k∧k≤10∧k≤l.length∧rd l=(8*n+w,k,0):=by
 obtain ⟨h1,h2,h3,h4,h5,h6,h7⟩:=zgh l
 unfold tg
 by_cases h:(rd l).2.2=0
 ·by_cases hg:4294967295<(rd l).1∨zfH ((rd l).1/8) ((rd l).1%8)=false
  ·exact .inl ⟨5,znf h hg,by omega⟩
  ·refine .inr ⟨_,_,_,zyO h hg,?_,h7 h,h4,h5,?_⟩
   ·cases ht:zfH ((rd l).1/8) ((rd l).1%8)
    ·exact absurd (.inr ht) hg
    ·rfl
   ·refine Prod.ext ?_ (Prod.ext rfl h)
    simp only;omega
 ·exact .inl ⟨_,zvZ h,by omega⟩
theorem zvH (b:List UInt8) (a:Nat) (hb:b.length≤1152921504606846976) (ha:a≤b.length):zeA b a=some (tg (b.drop a)):=by
 unfold zeA tg
 obtain ⟨h1,h2,h3,h4,h5,h6,h7⟩:=zgh (b.drop a)
 rw [zyC b a hb ha,sb]
 by_cases h:(rd (b.drop a)).2.2=0
 ·rw [itF (by simpa using h)]
  have e1:IntKind.i64.wrap (IntKind.u64.wrap (Int.tdiv (rd (b.drop a)).1 8))=(rd (b.drop a)).1/8:=by
   rw [Int.tdiv_eq_ediv_of_nonneg h1,wrap_u64,Int.emod_eq_of_lt (by omega) (by omega),zB (by omega)]
  have e2:IntKind.i64.wrap (Int.tmod (rd (b.drop a)).1 8)=(rd (b.drop a)).1%8:=by
   rw [Int.tmod_eq_emod_of_nonneg h1,zB (by omega)]
  simp only [e1,e2,zxp,sb]
  by_cases hg:4294967295<(rd (b.drop a)).1
  ·rw [itT (by simpa using hg),sb,itT (by rfl),znf h (.inl hg)]
  ·rw [itF (by simpa using hg),sb]
   cases ht:zfH ((rd (b.drop a)).1/8) ((rd (b.drop a)).1%8)
   ·rw [itT (by rfl),znf h (.inr ht)]
   ·rw [itF (by rfl),zyO h (by simp [ht];omega)]
 ·rw [itT (by simpa using h),zvZ h]
end Go.Proofs.YtcbkcblkecmjnaaGreat
namespace Go.Proofs.YtcbkcblkecmjnaaGreat
open Go
set_option linter.unusedVariables false
abbrev Rec:=zq
def zdH (w:Int) (k:Nat) (m:List UInt8):Int⊕(Nat×Nat):=
 if w=0 then (if (rd m).2.2≠0 then .inl (rd m).2.2 else .inr (k,k+(rd m).2.1.toNat))
 else if w=2 then (if (rd m).2.2≠0 then .inl (rd m).2.2 else if (m.length:Int) - (rd m).2.1<(rd m).1 then .inl 3 else .inr (k+(rd m).2.1.toNat,k+(rd m).2.1.toNat+(rd m).1.toNat))
 else if m.length<(if w=5 then 4 else 8) then .inl 3 else .inr (k,k+(if w=5 then 4 else 8))
def rec5 (l:List UInt8):Int⊕(Int×Int×Nat×Nat):=
 if (tg l).2.2.2≠0 then .inl (tg l).2.2.2 else match zdH (tg l).2.1 (tg l).2.2.1.toNat (l.drop (tg l).2.2.1.toNat) with
  | .inl c=> .inl c
  | .inr p=> .inr ((tg l).1,(tg l).2.1,p.1,p.2)
theorem zia (w:Int) (k:Nat) (m:List UInt8):(∃c,zdH w k m= .inl c∧(c=3∨c=4))∨
  ∃a t,zdH w k m= .inr (a,t)∧k≤a∧a≤t∧t≤k+m.length∧
   (w=0∧a=k∧(rd m).2.2=0∧((t - k:Nat):Int)=(rd m).2.1∧k<t∨w=2∧(rd m).2.2=0∧((a - k:Nat):Int)=(rd m).2.1∧((t - a:Nat):Int)=(rd m).1∨w≠0∧w≠2∧a=k∧t=k+(if w=5 then 4 else 8)):=by
 obtain ⟨h1,h2,h3,h4,h5,h6,h7⟩:=zgh m
 unfold zdH
 by_cases w0:w=0
 ·rw [if_pos w0]
  by_cases h:(rd m).2.2=0
  ·have:=h7 h
   rw [if_neg (by simpa using h)]
   exact .inr ⟨_,_,rfl,Nat.le_refl _,by omega,by omega,.inl ⟨w0,rfl,h,by omega,by omega⟩⟩
  ·rw [if_pos h];exact .inl ⟨_,rfl,by omega⟩
 ·rw [if_neg w0]
  by_cases w2:w=2
  ·rw [if_pos w2]
   by_cases h:(rd m).2.2=0
   ·rw [if_neg (by simpa using h)]
    by_cases h8:(m.length:Int) - (rd m).2.1<(rd m).1
    ·rw [if_pos h8];exact .inl ⟨_,rfl,by omega⟩
    ·rw [if_neg h8]
     exact .inr ⟨_,_,rfl,by omega,by omega,by omega,.inr (.inl ⟨w2,h,by omega,by omega⟩)⟩
   ·rw [if_pos h];exact .inl ⟨_,rfl,by omega⟩
  ·rw [if_neg w2]
   by_cases h8:m.length<(if w=5 then 4 else 8)
   ·rw [if_pos h8];exact .inl ⟨_,rfl,by omega⟩
   ·rw [if_neg h8]
    exact .inr ⟨_,_,rfl,Nat.le_refl _,by omega,by omega,.inr (.inr ⟨w0,w2,rfl,rfl⟩)⟩
theorem zuR (w:Int) (k:Nat) (m z:List UInt8) {p:Nat×Nat} (h:zdH w k m= .inr p):zdH w k (m++z)= .inr p:=by
 unfold zdH at h⊢
 by_cases w0:w=0
 ·rw [if_pos w0] at h⊢
  by_cases h0:(rd m).2.2=0
  ·rw [zqh m z h0];exact h
  ·rw [if_pos h0] at h;cases h
 ·rw [if_neg w0] at h⊢
  by_cases w2:w=2
  ·rw [if_pos w2] at h⊢
   by_cases h0:(rd m).2.2=0
   ·rw [zqh m z h0]
    rw [if_neg (by simpa using h0)] at h⊢
    by_cases h8:(m.length:Int) - (rd m).2.1<(rd m).1
    ·rw [if_pos h8] at h;cases h
    ·rw [if_neg h8] at h
     rw [if_neg (by simp only [List.length_append];omega)];exact h
   ·rw [if_pos h0] at h;cases h
  ·rw [if_neg w2] at h⊢
   by_cases h8:m.length<(if w=5 then 4 else 8)
   ·rw [if_pos h8] at h;cases h
   ·rw [if_neg h8] at h
    rw [if_neg (by simp only [List.length_append];omega)];exact h
theorem zjs (l:List UInt8):(∃c,rec5 l= .inl c∧(c=3∨c=4∨c=5))∨
  ∃(n w:Int) (k a t:Nat),rec5 l= .inr (n,w,a,t)∧tg l=(n,w,(k:Int),0)∧zfH n w=true∧zdH w k (l.drop k)= .inr (a,t)∧1≤k∧k≤l.length∧k≤a∧a≤t∧t≤l.length∧rd l=(8*n+w,(k:Int),0):=by
 rcases zsV l with ⟨c,h,hc⟩| ⟨n,w,k,h,hr,k1,k2,k3,hrd⟩
 ·refine .inl ⟨c,?_,hc⟩
  unfold rec5;rw [h,if_pos (by simp only;omega)]
 ·obtain ⟨k,rfl⟩:∃j:Nat,k=j:=⟨k.toNat,by omega⟩
  have e:rec5 l=match zdH w k (l.drop k) with
   | .inl c=> .inl c
   | .inr p=> .inr (n,w,p.1,p.2):=by unfold rec5;rw [h];simp
  rcases zia w k (l.drop k) with ⟨c,h2,hc⟩| ⟨a,t,h2,g1,g2,g3,_⟩
  ·exact .inl ⟨c,by rw [e,h2],by omega⟩
  ·simp only [List.length_drop] at g3
   exact .inr ⟨n,w,k,a,t,by rw [e,h2],h,hr,h2,by omega,by omega,g1,g2,by omega,hrd⟩
theorem zxl (l z:List UInt8) {r:Int×Int×Nat×Nat} (h:rec5 l= .inr r):rec5 (l++z)= .inr r:=by
 rcases zjs l with ⟨c,h',_⟩| ⟨n,w,k,a,t,h',htg,_,hb,_,hk,_,_,_,hrd⟩
 ·rw [h'] at h;cases h
 ·rw [h'] at h
  have e:tg (l++z)=(n,w,(k:Int),0):=by rw [zuB l z (by rw [hrd]),htg]
  unfold rec5
  rw [e]
  simp only [ne_eq,not_true_eq_false,if_false,Int.toNat_natCast]
  rw [List.drop_append_of_le_length hk,zuR _ _ _ _ hb]
  exact h
def zrec:Rec:=⟨0,0,0,0,0⟩
def zeh (b:List UInt8) (at5:Int):Rec×Int:=if at5<0∨at5≥b.length then (zrec,2) else match rec5 (b.drop at5.toNat) with
 | .inl c=>(zrec,c)
 | .inr (n,w,a,t)=>(⟨n,w,at5,at5+a,at5+t⟩,0)
theorem zxo {b:List UInt8} (hb:b.length≤140737488355328) (at5:Int):zeD b at5=some (zeh b at5):=by
 unfold zeD zeh
 by_cases h:at5<0∨at5≥b.length
 ·rw [itT (by simpa using h),if_pos h];rfl
 ·rw [itF (by simpa using h),if_neg h]
  obtain ⟨p,rfl⟩:∃p:Nat,at5=p:=⟨at5.toNat,by omega⟩
  rw [zvH b p (by omega) (by omega),sb,Int.toNat_natCast]
  have hdl:(b.drop p).length=b.length - p:=by simp
  rcases zsV (b.drop p) with ⟨c,ht,hc⟩| ⟨n,w,k,ht,hr,k1,k2,k3,hrd⟩
  ·have e:rec5 (b.drop p)= .inl c:=by unfold rec5;rw [ht,if_pos (by simp only;omega)]
   rw [e,ht,itT (by simp;omega)];rfl
  ·obtain ⟨k,rfl⟩:∃j:Nat,k=j:=⟨k.toNat,by omega⟩
   have e:rec5 (b.drop p)=match zdH w k ((b.drop p).drop k) with
    | .inl c=> .inl c
    | .inr p=> .inr (n,w,p.1,p.2):=by unfold rec5;rw [ht];simp
   have hdd:(b.drop p).drop k=b.drop (p+k):=by rw [List.drop_drop]
   have hml:(b.drop (p+k)).length=b.length - (p+k):=by simp
   obtain ⟨h1,h2,h3,h4,h5,h6,h7⟩:=zgh (b.drop (p+k))
   rw [e,ht,itF (by simp),hdd]
   have ew:IntKind.i64.wrap ((p:Int)+k)=((p+k:Nat):Int):=by rw [zB (by omega)];push_cast;rfl
   have er:IntKind.i64.wrap ((b.length:Int) - ((p+k:Nat):Int))=((b.length - (p+k):Nat):Int):=by rw [zB (by omega)];omega
   simp only [ew,er]
   have hw:=(zoA.1 hr).2.2
   rcases hw with rfl| rfl| rfl| rfl
   ·-- a varint
    rw [itF (by rfl),sb,itT (by rfl),zyC b (p+k) (by omega) (by omega),sb]
    by_cases g:(rd (b.drop (p+k))).2.2=0
    ·have:=h7 g
     have hb5:zdH 0 k (b.drop (p+k))= .inr (k,k+(rd (b.drop (p+k))).2.1.toNat):=by unfold zdH;rw [if_pos rfl,if_neg (by simpa using g)]
     rw [itF (by simpa using g),sb,hb5]
     simp only
     rw [itF (by rfl),sb]
     simp only
     rw [itF (by simp;omega),zB (by omega)]
     simp;omega
    ·have hb5:zdH 0 k (b.drop (p+k))= .inl (rd (b.drop (p+k))).2.2:=by unfold zdH;rw [if_pos rfl,if_pos g]
     rw [itT (by simpa using g),sb,hb5];rfl
   ·rw [itF (by rfl),sb,itF (by rfl),sb]
    simp only
    rw [itF (by rfl),sb]
    unfold zdH
    rw [if_neg (by omega),if_neg (by omega)]
    simp only
    by_cases g:b.length - (p+k)<8
    ·rw [itT (by simp;omega),if_pos (by simpa [hml] using g)];rfl
    ·rw [itF (by simp;omega),if_neg (by simpa [hml] using g),zB (by omega)]
     simp;omega
   ·rw [itF (by rfl),sb,itF (by rfl),sb]
    simp only
    rw [itT (by rfl),zyC b (p+k) (by omega) (by omega),sb]
    by_cases g:(rd (b.drop (p+k))).2.2=0
    ·have:=h7 g
     have e1:IntKind.i64.wrap (((b.length - (p+k):Nat):Int) - (rd (b.drop (p+k))).2.1)=((b.drop (p+k)).length:Int) - (rd (b.drop (p+k))).2.1:=by rw [zB (by omega),hml]
     have e2:IntKind.u64.wrap (((b.drop (p+k)).length:Int) - (rd (b.drop (p+k))).2.1)=((b.drop (p+k)).length:Int) - (rd (b.drop (p+k))).2.1:=by rw [wrap_u64,Int.emod_eq_of_lt (by omega) (by omega)]
     rw [itF (by simpa using g)]
     simp only [e1,e2]
     by_cases g2:((b.drop (p+k)).length:Int) - (rd (b.drop (p+k))).2.1<(rd (b.drop (p+k))).1
     ·have hb5:zdH 2 k (b.drop (p+k))= .inl 3:=by unfold zdH;rw [if_neg (by omega),if_pos rfl,if_neg (by simpa using g),if_pos g2]
      rw [itT (by simpa using g2),sb,hb5];rfl
     ·have hb5:zdH 2 k (b.drop (p+k))= .inr (k+(rd (b.drop (p+k))).2.1.toNat,k+(rd (b.drop (p+k))).2.1.toNat+(rd (b.drop (p+k))).1.toNat):=by
       unfold zdH;rw [if_neg (by omega),if_pos rfl,if_neg (by simpa using g),if_neg g2]
      rw [itF (by simpa using g2),sb,hb5]
      simp only
      rw [zB (x:=(rd (b.drop (p+k))).1) (by omega),itF (by simpa using g2),zB (x:=((p+k:Nat):Int)+(rd (b.drop (p+k))).2.1) (by omega),zB (by omega)]
      simp;omega
    ·have hb5:zdH 2 k (b.drop (p+k))= .inl (rd (b.drop (p+k))).2.2:=by unfold zdH;rw [if_neg (by omega),if_pos rfl,if_pos g]
     rw [itT (by simpa using g),sb,hb5];rfl
   ·rw [itT (by rfl),sb,itF (by rfl),sb]
    simp only
    rw [itF (by rfl),sb]
    unfold zdH
    rw [if_neg (by omega),if_neg (by omega)]
    simp only
    by_cases g:b.length - (p+k)<4
    ·rw [itT (by simp;omega),if_pos (by simpa [hml] using g)];rfl
    ·rw [itF (by simp;omega),if_neg (by simpa [hml] using g),zB (by omega)]
     simp;omega
def spl (base:Nat) (l:List UInt8):List Rec×Option (Nat×Int):=
 if hl:l=[] then ([],none) else match h:rec5 l with
  | .inl c=>([],some (base,c))
  | .inr (n,w,a,t)=>(⟨n,w,base,(base+a:Nat),(base+t:Nat)⟩::(spl (base+t) (l.drop t)).1,(spl (base+t) (l.drop t)).2)
termination_by l.length
decreasing_by
 all_goals
  rcases zjs l with ⟨c',h',_⟩| ⟨n',w',k',a',t',h',_,_,_,g1,g2,g3,g4,g5,_⟩
  ·rw [h'] at h;cases h
  ·rw [h'] at h;cases h;simp only [List.length_drop];omega
theorem zgk (base:Nat):spl base []=([],none):=by rw [spl,dif_pos rfl]
theorem zgK {base:Nat} {l:List UInt8} {c:Int} (hl:l≠[]) (h:rec5 l= .inl c):spl base l=([],some (base,c)):=by
 rw [spl,dif_neg hl]
 split
 ·rename_i c' h';rw [h] at h';cases h';rfl
 ·rename_i h';rw [h] at h';cases h'
theorem zeJ {base:Nat} {l:List UInt8} {n w:Int} {a t:Nat} (hl:l≠[]) (h:rec5 l= .inr (n,w,a,t)):
  spl base l=(⟨n,w,base,(base+a:Nat),(base+t:Nat)⟩::(spl (base+t) (l.drop t)).1,(spl (base+t) (l.drop t)).2):=by
 rw [spl,dif_neg hl]
 split
 ·rename_i c' h';rw [h] at h';cases h'
 ·rename_i n' w' a' t' h';rw [h] at h';cases h';rfl
theorem zhr (P:Nat→List UInt8→Prop) (h0:∀base,P base []) (he:∀base l c,l≠[]→rec5 l= .inl c→(c=3∨c=4∨c=5)→P base l)
  (hc:∀base l (n w:Int) (a t:Nat),l≠[]→rec5 l= .inr (n,w,a,t)→zfH n w=true→1≤a→a≤t→t≤l.length→P (base+t) (l.drop t)→P base l) (base:Nat) (l:List UInt8):P base l:=by
 generalize hn:l.length=m
 induction m using Nat.strongRecOn generalizing base l with
 | _ m ih=>
  by_cases hl:l=[]
  ·subst hl;exact h0 base
  ·rcases zjs l with ⟨c,h,hc'⟩| ⟨n,w,k,a,t,h,_,hr,_,g1,g2,g3,g4,g5,_⟩
   ·exact he base l c hl h hc'
   ·exact hc base l n w a t hl h hr (by omega) g4 g5 (ih _ (by simp only [List.length_drop];omega) _ _ rfl)
theorem zDW (base:Nat) (l:List UInt8):(spl base l).1.length≤l.length:=by
 refine zhr (fun base l=>(spl base l).1.length≤l.length) ?_ ?_ ?_ base l
 ·intro base;rw [zgk];simp
 ·intro base l c hl h _;rw [zgK hl h];simp
 ·intro base l n w a t hl h _ g1 g2 g3 ih
  rw [zeJ hl h]
  simp only [List.length_cons,List.length_drop] at ih⊢
  omega
theorem zCD (base:Nat) (l:List UInt8):∀p c,(spl base l).2=some (p,c)→(c=3∨c=4∨c=5)∧base≤p∧p<base+l.length:=by
 refine zhr (fun base l=>∀p c,(spl base l).2=some (p,c)→(c=3∨c=4∨c=5)∧base≤p∧p<base+l.length) ?_ ?_ ?_ base l
 ·intro base p c h;rw [zgk] at h;cases h
 ·intro base l c' hl h hc p c h2
  rw [zgK hl h] at h2
  cases h2
  have:0<l.length:=List.length_pos_iff.2 hl
  exact ⟨hc,by omega,by omega⟩
 ·intro base l n w a t hl h _ g1 g2 g3 ih p c h2
  rw [zeJ hl h] at h2
  have:=ih p c h2
  simp only [List.length_drop] at this
  omega
def zna (d:Nat) (r:Rec):Rec:=⟨r.Number,r.Wire,r.From+d,r.At+d,r.To+d⟩
theorem zAM (d:Nat) (base:Nat) (l:List UInt8):spl (base+d) l=((spl base l).1.map (zna d),(spl base l).2.map fun p=>(p.1+d,p.2)):=by
 refine zhr (fun base l=>spl (base+d) l=((spl base l).1.map (zna d),(spl base l).2.map fun p=>(p.1+d,p.2))) ?_ ?_ ?_ base l
 ·intro base;rw [zgk,zgk];rfl
 ·intro base l c hl h _;rw [zgK hl h,zgK hl h];rfl
 ·intro base l n w a t hl h _ g1 g2 g3 ih
  rw [zeJ hl h,zeJ hl h,show base+d+t=base+t+d by omega,ih]
  simp only [List.map_cons,zna,Prod.mk.injEq,List.cons.injEq,zq.mk.injEq,true_and,and_true]
  push_cast
  omega
theorem zyL (m:List UInt8) (base:Nat) (l:List UInt8):(spl base l).2=none→spl base (l++m)=((spl base l).1++(spl (base+l.length) m).1,(spl (base+l.length) m).2):=by
 refine zhr (fun base l=>(spl base l).2=none→spl base (l++m)=((spl base l).1++(spl (base+l.length) m).1,(spl (base+l.length) m).2)) ?_ ?_ ?_ base l
 ·intro base _;rw [zgk];simp
 ·intro base l c hl h _ h2;rw [zgK hl h] at h2;cases h2
 ·intro base l n w a t hl h _ g1 g2 g3 ih h2
  rw [zeJ hl h] at h2⊢
  rw [zeJ (by simp [hl]) (zxl l m h),List.drop_append_of_le_length g3,ih h2]
  simp only [List.length_drop,List.cons_append,show base+t+(l.length - t)=base+l.length by omega]
def zgr (w:Int) (v:List UInt8):Bool:=
 if w=0 then decide ((rd v).2.2=0∧(rd v).2.1=v.length) else decide (w=2∨w=1∧v.length=8∨w=5∧v.length=4)
def put5 (n w:Int) (v:List UInt8):List UInt8:=enc (tW n w)++(if w=2 then enc v.length else [])++v
theorem zCt (n w:Int) (v:List UInt8):(put5 n w v).length=(enc (tW n w)).length+(if w=2 then (enc v.length).length else 0)+v.length:=by
 unfold put5
 split
 ·simp;omega
 ·simp
theorem zzh {l:List UInt8} {k:Nat} (h:rd l=((rd l).1,(k:Int),0)):(enc (rd l).1.toNat).length≤k:=by
 rcases zjr l with h'| ⟨h',_⟩| ⟨x,c,y,e,hx,hc,hl,hv,h'⟩
 ·rw [h'] at h;cases h
 ·rw [h'] at h;cases h
 ·rw [h'] at h⊢
  have hk:(x.length:Int)+1=k:=by have:=congrArg (fun p=>p.2.1) h;simpa using this
  simp only [Int.toNat_natCast]
  have h1:=zyg (x++[c])
  rw [zvd]
  have key:∀(j v:Nat),v<128^(j+1)→lenN v≤j+1:=by
   intro j
   induction j with
   | zero=>intro v hv;rw [zny (by omega)];omega
   | succ j ih=>
    intro v hv
    by_cases h2:v<128
    ·rw [zny h2];omega
    ·rw [zoX h2]
     have:=ih (v/128) (by rw [Nat.pow_succ] at hv;exact Nat.div_lt_of_lt_mul (by omega))
     omega
  have:=key x.length (hor (x++[c])) (by simpa using h1)
  omega
theorem zyA {l:List UInt8} {n w:Int} {a t:Nat} (h:rec5 l= .inr (n,w,a,t)):
  zgr w ((l.drop a).take (t - a))=true∧((l.drop a).take (t - a)).length=t - a∧(put5 n w ((l.drop a).take (t - a))).length≤t:=by
 rcases zjs l with ⟨c,h',_⟩| ⟨n',w',k,a',t',h',_,hr,hb,g1,g2,g3,g4,g5,hrd⟩
 ·rw [h'] at h;cases h
 ·rw [h'] at h;cases h
  have hlen:((l.drop a).take (t - a)).length=t - a:=by simp;omega
  have hm:=zzh (l:=l) (k:=k) (by rw [hrd])
  have e1:(rd l).1.toNat=tW n w:=by rw [hrd];rfl
  rw [e1] at hm
  refine ⟨?_,hlen,?_⟩
  ·rcases zia w k (l.drop k) with ⟨c,hc,_⟩| ⟨a2,t2,h2,k1,k2,k3,hcase⟩
   ·rw [hc] at hb;cases hb
   ·rw [h2] at hb;cases hb
    unfold zgr
    rcases hcase with ⟨rfl,rfl,f1,f2,f3⟩| ⟨rfl,f1,f2,f3⟩| ⟨w0,w2,rfl,f1⟩
    ·rw [if_pos rfl]
     -- what is read is the value alone
     have hv:rd ((l.drop a).take (t - a))=rd (l.drop a):=by
      rcases zjr (l.drop a) with h6| ⟨h6,_⟩| ⟨x,c,y,e,hx,hc,hl,hv,h6⟩
      ·rw [h6] at f1;cases f1
      ·rw [h6] at f1;cases f1
      ·rw [h6] at f2
       have e7:t - a=(x++[c]).length:=by simp at f2⊢;omega
       have e8:(l.drop a).take (t - a)=x++c::[]:=by rw [e7,e,List.append_cons x c y,List.take_left]
       rw [e8,zzM x c [] hx hc hl hv,h6]
     rw [hv]
     exact decide_eq_true ⟨f1,by rw [←f2,hlen]⟩
    ·rw [if_neg (by omega)];exact decide_eq_true (.inl rfl)
    ·have hw:=(zoA.1 hr).2.2
     rw [if_neg w0]
     rw [hlen,f1]
     refine decide_eq_true ?_
     rcases hw with rfl| rfl| rfl| rfl
     ·exact absurd rfl w0
     ·right;left;simp
     ·exact absurd rfl w2
     ·right;right;simp
  ·rw [zCt,hlen]
   rcases zia w k (l.drop k) with ⟨c,hc,_⟩| ⟨a2,t2,h2,k1,k2,k3,hcase⟩
   ·rw [hc] at hb;cases hb
   ·rw [h2] at hb;cases hb
    by_cases hw2:w=2
    ·rw [if_pos hw2]
     rcases hcase with ⟨rfl,_⟩| ⟨_,f1,f2,f3⟩| ⟨_,w2,_⟩
     ·omega
     ·have hm2:=zzh (l:=l.drop k) (k:=a - k) (by rw [f2];exact Prod.ext rfl (Prod.ext rfl f1))
      have e3:(rd (l.drop k)).1.toNat=t - a:=by omega
      rw [e3] at hm2
      omega
     ·exact absurd hw2 w2
    ·rw [if_neg hw2];omega
theorem zvG (l:List UInt8) {j:Nat} (h:(rd l).2.2=0) (hj:(rd l).2.1≤j):rd (l.take j)=rd l:=by
 rcases zjr l with h6| ⟨h6,_⟩| ⟨x,c,y,e,hx,hc,hl,hv,h6⟩
 ·rw [h6] at h;cases h
 ·rw [h6] at h;cases h
 ·rw [h6] at hj
  have hj':(x++[c]).length≤j:=by simp at hj⊢;omega
  have:l.take j=x++c::y.take (j - (x++[c]).length):=by
   rw [e,List.append_cons x c y,List.take_append,List.take_of_length_le hj',←List.append_cons]
  rw [this,zzM x c _ hx hc hl hv,h6]
theorem zxW {w:Int} {k:Nat} {m:List UInt8} {a t:Nat} (h:zdH w k m= .inr (a,t)):zdH w k (m.take (t - k))= .inr (a,t):=by
 rcases zia w k m with ⟨c,hc,_⟩| ⟨a2,t2,h2,k1,k2,k3,hcase⟩
 ·rw [hc] at h;cases h
 ·rw [h2] at h
  cases h
  have hl:(m.take (t - k)).length=t - k:=by simp;omega
  rcases hcase with ⟨rfl,rfl,f1,f2,f3⟩| ⟨rfl,f1,f2,f3⟩| ⟨w0,w2,rfl,f1⟩
  ·have hr:=zvG m (j:=t - a) f1 (by omega)
   unfold zdH at h2⊢
   rw [if_pos rfl] at h2⊢
   rw [hr];exact h2
  ·have hr:=zvG m (j:=t - k) f1 (by omega)
   unfold zdH at h2⊢
   rw [if_neg (by omega),if_pos rfl] at h2⊢
   rw [hr]
   rw [if_neg (by simpa using f1)] at h2⊢
   split at h2
   ·cases h2
   ·rw [if_neg (by rw [hl];omega)];exact h2
  ·unfold zdH
   rw [if_neg w0,if_neg w2,if_neg (by rw [hl];omega),←f1]
theorem zAD {l:List UInt8} {n w:Int} {a t:Nat} (h:rec5 l= .inr (n,w,a,t)):rec5 (l.take t)= .inr (n,w,a,t):=by
 rcases zjs l with ⟨c,h',_⟩| ⟨n',w',k,a',t',h',htg,hr,hb,g1,g2,g3,g4,g5,hrd⟩
 ·rw [h'] at h;cases h
 ·rw [h'] at h
  cases h
  have hr1:=zvG l (j:=t) (by rw [hrd]) (by rw [hrd];simp only;omega)
  have e:tg (l.take t)=(n,w,(k:Int),0):=by
   have:=zuB (l.take t) (l.drop t) (by rw [hr1,hrd])
   rw [List.take_append_drop,htg] at this
   exact this.symm
  unfold rec5
  rw [e]
  simp only [ne_eq,not_true_eq_false,if_false,Int.toNat_natCast]
  rw [List.drop_take,zxW hb]
theorem zDX (b:List UInt8) (base:Nat) (l:List UInt8):l=b.drop base→base≤b.length→∀r∈(spl base l).1,∃(n w:Int) (f a t:Nat),r=⟨n,w,(f:Int),((f+a:Nat):Int),((f+t:Nat):Int)⟩∧rec5 (b.drop f)= .inr (n,w,a,t)∧1≤a∧a≤t∧f+t≤b.length:=by
 refine zhr (fun base l=>l=b.drop base→base≤b.length→∀r∈(spl base l).1,∃(n w:Int) (f a t:Nat),r=⟨n,w,(f:Int),((f+a:Nat):Int),((f+t:Nat):Int)⟩∧rec5 (b.drop f)= .inr (n,w,a,t)∧1≤a∧a≤t∧f+t≤b.length) ?_ ?_ ?_ base l
 ·intro base _ _ r hr;rw [zgk] at hr;cases hr
 ·intro base l c hl h _ _ _ r hr;rw [zgK hl h] at hr;cases hr
 ·intro base l n w a t hl h _ g1 g2 g3 ih hld hbase r hr
  have hlen:l.length=b.length - base:=by rw [hld];simp
  rw [zeJ hl h] at hr
  rcases List.mem_cons.1 hr with rfl| hr
  ·exact ⟨n,w,base,a,t,rfl,by rw [←hld];exact h,g1,g2,by omega⟩
  ·exact ih (by rw [hld,List.drop_drop]) (by omega) r hr
end Go.Proofs.YtcbkcblkecmjnaaGreat
namespace Go.Proofs.YtcbkcblkecmjnaaGreat
open Go
set_option linter.unusedVariables false
theorem zCo (k:IntKind) (a b:Int):orI k a b=bits .or k a b:=rfl
theorem zxf (w:Int):zhE w=some (w%4294967296):=by unfold zhE;rw [zxO]
theorem zAL (w:Int):zhY w=some (sgnS w):=by
 unfold zhY
 rw [zxf,sb,zBf]
 unfold sgnS
 congr 1
 split<;>split<;>omega
theorem zBc {n:Int} (h: -2147483648≤n∧n≤2147483647):zhZ n=some (zqV n):=by
 unfold zhZ
 rw [zB (by omega),wrap_u64]
 unfold zqV
 congr 1
 split<;>omega
theorem zyG {w:Int} (h:0≤w∧w≤18446744073709551615):zdJ w=some (sgnS w):=by
 unfold zdJ
 rw [Int.tmod_eq_emod_of_nonneg h.1,zB (x:=w%4294967296) (by omega)]
 unfold sgnS
 by_cases h2:w%4294967296<2147483648
 ·rw [itF (by simp;omega),if_pos h2]
 ·rw [itT (by simp;omega),if_neg h2,zB (by omega)]
theorem zCz {n:Int} (h: -9223372036854775808≤n∧n≤9223372036854775807):zez n=some (zqV n):=by
 unfold zez zqV
 by_cases h0:0≤n
 ·rw [itT (by simp;omega),if_pos h0,wrap_u64,Int.emod_eq_of_lt (by omega) (by omega)]
 ·rw [itF (by simp;omega),if_neg h0]
  simp (disch:=omega) only [zB,wrap_u64]
  congr 1
  omega
theorem zAQ {l:List UInt8} {j:Nat} (h:j<l.length):l.take (j+1)=l.take j++[l[j]]:=by rw [List.take_add_one,List.getElem?_eq_getElem h];rfl
theorem zBe {v:List UInt8} (hv:v.length≤8):∀(d j:Nat),j+d=v.length→zgf v ((word (v.take j):Nat):Int) (j:Int)=some ((word v:Nat):Int):=by
 intro d
 induction d with
 | zero=>
  intro j hj
  refine zpL ?_
  unfold zdk
  rw [itF (by simp;omega),List.take_of_length_le (by omega)]
 | succ d ih=>
  intro j hj
  have hl:(v.take j).length=j:=by simp;omega
  have hw:=zwg (v.take j)
  rw [hl] at hw
  refine (zpK (wv':=((word (v.take (j+1)):Nat):Int)) (v2':=((j+1:Nat):Int)) ?_).trans (ih (j+1) (by omega))
  unfold zdk
  have hc:=(v[j]'(by omega)).toNat_lt
  have e1:IntKind.i64.wrap (8*(j:Int))=((8*j:Nat):Int):=by rw [zB (by omega)];push_cast;rfl
  have e2:shlI .u64 (IntKind.u64.wrap ((v[j]'(by omega)).toNat:Int)) ((8*j:Nat):Int)=IntKind.u64.wrap (((v[j]'(by omega)).toNat:Int)*2^(8*j)):=by
   unfold shlI
   rw [Int.toNat_natCast,Nat.min_eq_left (by simp [IntKind.bits];omega),wrap_u64 ((v[j]'(by omega)).toNat:Int),Int.emod_eq_of_lt (by omega) (by omega)]
  rw [itT (by simp;omega),zW rfl (show j<v.length by omega),sb,e1,zxx,sb,e2,zCo,zEk _ _ _ (by omega) (by omega) hw,zAQ (show j<v.length by omega),zuD,hl,zB (by omega)]
  rfl
theorem zEj (b:List UInt8):zkQ b=some ((word (b.take 8):Nat):Int):=by
 unfold zkQ
 have e:(if (8:Int)<(b.length:Int) then (8:Int) else (b.length:Int))=((min 8 b.length:Nat):Int):=by split<;>omega
 have e2:b.take (min 8 b.length)=b.take 8:=by rw [List.take_eq_take_iff];omega
 rw [e,zrS rfl (by omega),sb,e2]
 have h:=zBe (v:=b.take 8) (by simp;omega) (b.take 8).length 0 (by omega)
 have h':zgf (b.take 8) 0 0=some ((word (b.take 8):Nat):Int):=h
 rw [h',sb]
end Go.Proofs.YtcbkcblkecmjnaaGreat
namespace Go.Proofs.YtcbkcblkecmjnaaGreat
open Go
set_option linter.unusedVariables false
def zbN (k:Int):Bool:=decide (1≤k∧k≤17)
def kNum (k:Int):Bool:=decide (1≤k∧k≤14)
def zdL (k:Int):Int:=if 15≤k then 2 else if 12≤k then 1 else if 9≤k then 5 else 0
def zeo (k w:Int):Int:=
 if k=1∨k=8 then zqV (sgnS w) else if k=3∨k=5∨k=9∨k=10∨k=11 then w%4294967296 else if k=7 then (if 0<w then 1 else 0) else w
theorem zpg (k:Int):zbD k=some (zbN k):=by unfold zbD zbN;simp [Bool.decide_and]
theorem zsE (k:Int):zbX k=some (kNum k):=by unfold zbX kNum;simp [Bool.decide_and]
theorem zxm (k:Int) {w:Int} (h:0≤w∧w≤18446744073709551615):zec k w=some (zeo k w):=by
 have hs:=zyI w
 unfold zec zeo
 by_cases h1:k=1∨k=8
 ·rw [if_pos h1]
  have e:(if (k==1)=true then some (k==1) else some (k==8))=some true:=by rcases h1 with rfl| rfl<;>rfl
  rw [e,sb,itT rfl,zyG h,sb,zCz (by omega),sb]
 ·rw [if_neg h1]
  have e:(if (k==1)=true then some (k==1) else some (k==8))=some false:=by rw [itF (by simp;omega)];simp;omega
  rw [e,sb,itF rfl]
  by_cases h2:k=3∨k=5∨k=9∨k=10∨k=11
  ·rw [if_pos h2]
   have e2:(if (k==3)=true then some (k==3) else if (k==5)=true then some (k==5) else if (k==9)=true then some (k==9) else if (k==10)=true then some (k==10) else some (k==11))=some true:=by
    rcases h2 with rfl| rfl| rfl| rfl| rfl<;>rfl
   rw [e2,sb,itT rfl,Int.tmod_eq_emod_of_nonneg h.1]
  ·rw [if_neg h2]
   have e2:(if (k==3)=true then some (k==3) else if (k==5)=true then some (k==5) else if (k==9)=true then some (k==9) else if (k==10)=true then some (k==10) else some (k==11))=some false:=by
    rw [itF (by simp;omega),itF (by simp;omega),itF (by simp;omega),itF (by simp;omega)];simp;omega
   rw [e2,sb,itF rfl]
   by_cases h7:k=7
   ·rw [itT (by simpa using h7),if_pos h7]
    by_cases h0:0<w
    ·rw [itT (by simpa using h0),if_pos h0]
    ·rw [itF (by simpa using h0),if_neg h0]
   ·rw [itF (by simpa using h7),if_neg h7]
theorem zwr (k:Int) {w:Int} (h:0≤w∧w≤18446744073709551615):0≤zeo k w∧zeo k w≤18446744073709551615:=by
 have hs:=zyI w
 unfold zeo
 split
 ·exact zEh (by omega)
 ·split
  ·omega
  ·split
   ·split<;>omega
   ·exact h
end Go.Proofs.YtcbkcblkecmjnaaGreat
namespace Go.Proofs.YtcbkcblkecmjnaaGreat
open Go
set_option linter.unusedVariables false
def rawW (k:Int) (b:List UInt8):Int:=if zdL k=0 then (rd b).1 else (word (b.take 8):Nat)
def zuw (k:Int) (b:List UInt8):Int×Int:=if kNum k=false then (0,2) else if zgr (zdL k) b=false then (0,12) else (zeo k (rawW k b),0)
def zyH (k:Int) (c:Nat):List UInt8:=if 12≤k then zsl 8 c else if 9≤k then zsl 4 c else enc c
def sPut (k w:Int):List UInt8:=zyH k (zeo k w).toNat
theorem zDP (k:Int) {b:List UInt8}:0≤rawW k b∧rawW k b≤18446744073709551615:=by
 unfold rawW
 split
 ·have:=zgh b;omega
 ·have h:=zwg (b.take 8)
  have h2:(256:Nat)^(b.take 8).length≤256^8:=Nat.pow_le_pow_right (by omega) (by simp;omega)
  omega
theorem zkZ {k:Int}:kNum k=true↔1≤k∧k≤14:=by simp [kNum]
end Go.Proofs.YtcbkcblkecmjnaaGreat
namespace Go.Proofs.YtcbkcblkecmjnaaGreat
open Go
set_option linter.unusedVariables false
def zlu (k:Int) (l:List UInt8):Int⊕Nat:=
 if k<9 then (if (rd l).2.2≠0 then .inl (rd l).2.2 else .inr (rd l).2.1.toNat) else if l.length<(if k<12 then 4 else 8) then .inl 3 else .inr (if k<12 then 4 else 8)
theorem znj (k:Int) (l:List UInt8):(∃c,zlu k l= .inl c∧(c=3∨c=4))∨∃n,zlu k l= .inr n∧1≤n∧n≤l.length∧n≤10∧(k<9∧(rd l).2.2=0∧(rd l).2.1=(n:Int)∨¬k<9∧n=(if k<12 then 4 else 8)):=by
 obtain ⟨h1,h2,h3,h4,h5,h6,h7⟩:=zgh l
 unfold zlu
 by_cases h:k<9
 ·rw [if_pos h]
  by_cases h0:(rd l).2.2=0
  ·have:=h7 h0
   rw [if_neg (by simpa using h0)]
   exact .inr ⟨_,rfl,by omega,by omega,by omega,.inl ⟨h,h0,by omega⟩⟩
  ·rw [if_pos h0];exact .inl ⟨_,rfl,by omega⟩
 ·rw [if_neg h]
  by_cases h8:l.length<(if k<12 then 4 else 8)
  ·rw [if_pos h8];exact .inl ⟨_,rfl,by omega⟩
  ·rw [if_neg h8]
   exact .inr ⟨_,rfl,by split<;>omega,by omega,by split<;>omega,.inr ⟨h,rfl⟩⟩
def pcs (k:Int) (l:List UInt8):List (List UInt8)×Int:=
 if hl:l=[] then ([],0) else match h:zlu k l with
  | .inl c=>([],c)
  | .inr n=>(l.take n::(pcs k (l.drop n)).1,(pcs k (l.drop n)).2)
termination_by l.length
decreasing_by
 all_goals
  rcases znj k l with ⟨c',h',_⟩| ⟨n',h',g1,g2,_⟩
  ·rw [h'] at h;cases h
  ·rw [h'] at h;cases h;simp only [List.length_drop];omega
theorem zpe (k:Int):pcs k []=([],0):=by rw [pcs,dif_pos rfl]
theorem zrA {k:Int} {l:List UInt8} {c:Int} (hl:l≠[]) (h:zlu k l= .inl c):pcs k l=([],c):=by
 rw [pcs,dif_neg hl]
 split
 ·rename_i c' h';rw [h] at h';cases h';rfl
 ·rename_i h';rw [h] at h';cases h'
theorem zmV {k:Int} {l:List UInt8} {n:Nat} (hl:l≠[]) (h:zlu k l= .inr n):pcs k l=(l.take n::(pcs k (l.drop n)).1,(pcs k (l.drop n)).2):=by
 rw [pcs,dif_neg hl]
 split
 ·rename_i c' h';rw [h] at h';cases h'
 ·rename_i n' h';rw [h] at h';cases h';rfl
theorem zrB (k:Int) (P:List UInt8→Prop) (h0:P []) (he:∀l c,l≠[]→zlu k l= .inl c→(c=3∨c=4)→P l)
  (hc:∀l n,l≠[]→zlu k l= .inr n→1≤n→n≤l.length→n≤10→P (l.drop n)→P l) (l:List UInt8):P l:=by
 generalize hn:l.length=m
 induction m using Nat.strongRecOn generalizing l with
 | _ m ih=>
  by_cases hl:l=[]
  ·subst hl;exact h0
  ·rcases znj k l with ⟨c,h,hc'⟩| ⟨n,h,g1,g2,g3,_⟩
   ·exact he l c hl h hc'
   ·exact hc l n hl h g1 g2 g3 (ih _ (by simp only [List.length_drop];omega) _ rfl)
theorem zxk (k:Int) (l:List UInt8):(pcs k l).2=0∨(pcs k l).2=3∨(pcs k l).2=4:=by
 refine zrB k (fun l=>(pcs k l).2=0∨(pcs k l).2=3∨(pcs k l).2=4) ?_ ?_ ?_ l
 ·rw [zpe];exact .inl rfl
 ·intro l c hl h hc;rw [zrA hl h];exact .inr hc
 ·intro l n hl h _ _ _ ih;rw [zmV hl h];exact ih
theorem zzI (k:Int) (l:List UInt8):(pcs k l).1.length≤l.length:=by
 refine zrB k (fun l=>(pcs k l).1.length≤l.length) ?_ ?_ ?_ l
 ·rw [zpe];simp
 ·intro l c hl h _;rw [zrA hl h];simp
 ·intro l n hl h _ _ _ ih
  rw [zmV hl h]
  simp only [List.length_cons,List.length_drop] at ih⊢
  have:=List.length_pos_iff.2 hl
  omega
theorem zyU {k:Int} (hk:kNum k=true) {l:List UInt8} {n:Nat} (h:zlu k l= .inr n):zgr (zdL k) (l.take n)=true:=by
 have hk':=zkZ.1 hk
 rcases znj k l with ⟨c,h',_⟩| ⟨n',h',g1,g2,g3,hcase⟩
 ·rw [h'] at h;cases h
 ·rw [h'] at h;cases h
  have hlen:(l.take n).length=n:=by simp;omega
  unfold zgr
  rcases hcase with ⟨h9,f1,f2⟩| ⟨h9,f1⟩
  ·have e:zdL k=0:=by unfold zdL;rw [if_neg (by omega),if_neg (by omega),if_neg (by omega)]
   rw [if_pos e]
   rcases zjr l with h6| ⟨h6,_⟩| ⟨x,c,y,e,hx,hc,hl,hv,h6⟩
   ·rw [h6] at f1;cases f1
   ·rw [h6] at f1;cases f1
   ·rw [h6] at f2
    have e7:n=(x++[c]).length:=by simp at f2⊢;omega
    have e8:l.take n=x++c::[]:=by rw [e7,e,List.append_cons x c y,List.take_left]
    rw [e8,zzM x c [] hx hc hl hv]
    simp
  ·have h12:zdL k=1∧12≤k∨zdL k=5∧k<12:=by
    unfold zdL
    rw [if_neg (by omega)]
    by_cases hh:12≤k
    ·rw [if_pos hh];exact .inl ⟨rfl,hh⟩
    ·rw [if_neg hh,if_pos (by omega)];exact .inr ⟨rfl,by omega⟩
   rw [if_neg (by omega),hlen,f1]
   refine decide_eq_true ?_
   rcases h12 with ⟨e,hh⟩| ⟨e,hh⟩
   ·rw [e,if_neg (by omega)];right;left;exact ⟨rfl,rfl⟩
   ·rw [e,if_pos hh];right;right;exact ⟨rfl,rfl⟩
theorem zCq {k:Int} (hk:kNum k=true) (l:List UInt8):∀p∈(pcs k l).1,zgr (zdL k) p=true∧1≤p.length∧p.length≤10:=by
 refine zrB k (fun l=>∀p∈(pcs k l).1,zgr (zdL k) p=true∧1≤p.length∧p.length≤10) ?_ ?_ ?_ l
 ·rw [zpe];intro p hp;cases hp
 ·intro l c hl h _;rw [zrA hl h];intro p hp;cases hp
 ·intro l n hl h g1 g2 g3 ih
  rw [zmV hl h]
  intro p hp
  cases hp with
  | head=>exact ⟨zyU hk h,by simp;omega,by simp;omega⟩
  | tail _ hp=>exact ih p hp
def zlQ (k:Int) (p:List UInt8):Int:=zeo k (rawW k p)
theorem zqT {k:Int} (hk:kNum k=true) {p:List UInt8} (hf:zgr (zdL k) p=true):zuw k p=(zlQ k p,0):=by
 unfold zuw zlQ
 rw [hk,if_neg (by simp),hf,if_neg (by simp)]
def ends (base:Nat):List (List UInt8)→List Int
 | []=>[]
 | p::ps=>((base+p.length:Nat):Int)::ends (base+p.length) ps
def zlT (k:Int) (b:List UInt8):List Int×Int:=if kNum k=false then ([],2) else if (pcs k b).2=0 then (ends 0 (pcs k b).1,0) else ([],(pcs k b).2)
def zbH (k:Int) (b:List UInt8):List Int×Int:=if kNum k=false then ([],2) else if (pcs k b).2=0 then ((pcs k b).1.map (zlQ k),0) else ([],(pcs k b).2)
end Go.Proofs.YtcbkcblkecmjnaaGreat
namespace Go.Proofs.YtcbkcblkecmjnaaGreat
open Go
set_option linter.unusedVariables false
abbrev Fld:=za
abbrev Mes:=zg
def ziz {α:Type} (p:α→Bool) (l:List α):Int:=match l.findIdx? p with
 | some i=>(i:Int)
 | none=> -1
theorem zjY {α:Type} {p:α→Bool} {l:List α} (h:l.findIdx? p=none):ziz p l= -1:=by unfold ziz;rw [h]
theorem zjZ {α:Type} {p:α→Bool} {l:List α} {i:Nat} (h:l.findIdx? p=some i):ziz p l=(i:Int):=by unfold ziz;rw [h]
theorem znt {α:Type} (p:α→Bool) (l:List α) (F:Int→Option (Unit⊕Int)) (h0:F (l.length:Int)=some (.inl ())) (hs:∀(i:Nat) (h:i<l.length),F (i:Int)=if p l[i] then some (.inr (i:Int)) else F ((i+1:Nat):Int)):
  ∀(d i:Nat),i+d=l.length→(∀j (h:j<l.length),j<i→p l[j]=false)→F (i:Int)=some (match l.findIdx? p with| some k=> .inr (k:Int)| none=> .inl ()):=by
 intro d
 induction d with
 | zero=>
  intro i hi hj
  have:i=l.length:=by omega
  subst this
  have hn:l.findIdx? p=none:=by
   rw [List.findIdx?_eq_none_iff]
   intro x hx
   obtain ⟨j,hj',rfl⟩:=List.getElem_of_mem hx
   exact hj j hj' hj'
  rw [h0,hn]
 | succ d ih=>
  intro i hi hj
  have hil:i<l.length:=by omega
  rw [hs i hil]
  by_cases hp:p l[i]=true
  ·have hf:l.findIdx? p=some i:=by
    rw [List.findIdx?_eq_some_iff_getElem]
    exact ⟨hil,hp,fun j hji=>by simpa using hj j (by omega) hji⟩
   rw [if_pos hp,hf]
  ·rw [if_neg hp]
   refine ih (i+1) (by omega) fun j h hji=>?_
   by_cases e:j=i
   ·subst e;simpa using hp
   ·exact hj j h (by omega)
def fldI (m:Mes) (number:Int):Int:=ziz (fun f:Fld=>f.Number==number) m.Fields
theorem zqP {m:Mes} (hm:m.Fields.length≤1152921504606846976) (number:Int):zdg m number=some (fldI m number):=by
 unfold zdg fldI
 have h:=znt (fun f:Fld=>f.Number==number) m.Fields (fun i=>zch m number i) (by
   refine zgo ?_
   unfold zaF
   rw [itF (by simp)])
  (fun i hi=>by
   have hb:zaF m number i=if ((m.Fields[i]).Number==number)=true then some (.inr (.inr (i:Int))) else some (.inl ((i+1:Nat):Int)):=by
    unfold zaF
    rw [itT (by simp;omega),zW rfl hi,sb,zB (by omega)];rfl
   by_cases hp:((m.Fields[i]).Number==number)=true
   ·rw [if_pos hp] at hb⊢;exact zgo hb
   ·rw [if_neg hp] at hb⊢;exact zjR hb)
  m.Fields.length 0 (by omega) (fun j _ hj=>by omega)
 have h':zch m number 0=_:=h
 rw [h',sb]
 unfold ziz
 cases m.Fields.findIdx? (fun f:Fld=>f.Number==number)<;>rfl
def nmc (i:Nat) (c:UInt8):Bool:=decide (65≤c.toNat∧c.toNat≤90∨97≤c.toNat∧c.toNat≤122∨c.toNat=95∨0<i∧48≤c.toNat∧c.toNat≤57)
def nmA:Nat→List UInt8→Bool
 | _,[]=>true
 | i,c::l=>nmc i c&&nmA (i+1) l
def zeq (s:List UInt8):Bool:=nmA 0 s&&decide (1≤s.length∧s.length≤60)
theorem zfR {α:Type} {l t:List α} {x:α} {k:Nat} (h:l.drop k=x::t):∃hk:k<l.length,l[k]=x∧l.drop (k+1)=t:=by
 have hk:k<l.length:=by
  rcases Nat.lt_or_ge k l.length with h'| h'
  ·exact h'
  ·rw [List.drop_eq_nil_of_le h'] at h;cases h
 rw [List.drop_eq_getElem_cons hk] at h
 injection h with h1 h2
 exact ⟨hk,h1,h2⟩
theorem zgR {α:Type} {l:List α} {k:Nat} (h:l.drop k=[]):l.length≤k:=by have:=congrArg List.length h;simp at this;omega
theorem zAv (s:List UInt8) (hs:s.length≤1152921504606846976):∀(l:List UInt8) (i:Nat),s.drop i=l→zcw s i=some (if nmA i l=true then .inl () else .inr ()):=by
 intro l
 induction l with
 | nil=>
  intro i hd
  have:=zgR hd
  refine zgA ?_
  unfold zaL
  rw [itF (by simp;omega)];rfl
 | cons c l ih=>
  intro i hd
  obtain ⟨hk,hx,hd'⟩:=zfR hd
  have hb:zaL s i=if nmc i c=true then some (.inl ((i+1:Nat):Int)) else some (.inr (.inr ())):=by
   unfold zaL
   rw [itT (by simp;omega),zW rfl hk,sb,hx,zB (by omega)]
   have e:(if (decide ((c.toNat:Int)≥65)) then ((decide ((c.toNat:Int)≤90))|| (if (decide ((c.toNat:Int)≥97)) then ((decide ((c.toNat:Int)≤122))|| (((c.toNat:Int)==95)|| ((decide ((i:Int)>0))&&((decide ((c.toNat:Int)≥48))&&(decide ((c.toNat:Int)≤57)))))) else (((c.toNat:Int)==95)|| ((decide ((i:Int)>0))&&((decide ((c.toNat:Int)≥48))&&(decide ((c.toNat:Int)≤57))))))) else (if (decide ((c.toNat:Int)≥97)) then ((decide ((c.toNat:Int)≤122))|| (((c.toNat:Int)==95)|| ((decide ((i:Int)>0))&&((decide ((c.toNat:Int)≥48))&&(decide ((c.toNat:Int)≤57)))))) else (((c.toNat:Int)==95)|| ((decide ((i:Int)>0))&&((decide ((c.toNat:Int)≥48))&&(decide ((c.toNat:Int)≤57)))))))=nmc i c:=by
    have e95:((c.toNat:Int)==95)=decide (c.toNat=95):=zri _ 95
    have a1:decide ((c.toNat:Int)≥65)=decide (65≤c.toNat):=decide_eq_decide.2 (by omega)
    have a2:decide ((c.toNat:Int)≤90)=decide (c.toNat≤90):=decide_eq_decide.2 (by omega)
    have a3:decide ((c.toNat:Int)≥97)=decide (97≤c.toNat):=decide_eq_decide.2 (by omega)
    have a4:decide ((c.toNat:Int)≤122)=decide (c.toNat≤122):=decide_eq_decide.2 (by omega)
    have a5:decide ((i:Int)>0)=decide (0<i):=decide_eq_decide.2 (by omega)
    have a6:decide ((c.toNat:Int)≥48)=decide (48≤c.toNat):=decide_eq_decide.2 (by omega)
    have a7:decide ((c.toNat:Int)≤57)=decide (c.toNat≤57):=decide_eq_decide.2 (by omega)
    rw [e95,a1,a2,a3,a4,a5,a6,a7]
    simp only [nmc,Bool.decide_or,Bool.decide_and]
    generalize decide (65≤c.toNat)=p1
    generalize decide (c.toNat≤90)=p2
    generalize decide (97≤c.toNat)=p3
    generalize decide (c.toNat≤122)=p4
    generalize decide (c.toNat=95)=p5
    generalize decide (0<i)=p6
    generalize decide (48≤c.toNat)=p7
    generalize decide (c.toNat≤57)=p8
    cases p1<;>cases p2<;>cases p3<;>cases p4<;>cases p5<;>cases p6<;>cases p7<;>cases p8<;>rfl
   rw [e]
   cases nmc i c
   ·rw [itT (by rfl)];rfl
   ·rw [itF (by rfl)];push_cast;rfl
  rw [nmA]
  cases hc:nmc i c
  ·rw [hc,if_neg (by simp)] at hb
   rw [zgA hb];rfl
  ·rw [hc,if_pos rfl] at hb
   rw [zkx hb,ih _ hd',Bool.true_and]
theorem zsF {s:List UInt8} (hs:s.length≤1152921504606846976):zdy s=some (zeq s):=by
 unfold zdy zeq
 have h:=zAv s hs s 0 rfl
 have h':zcw s 0=_:=h
 rw [h',sb]
 cases nmA 0 s
 ·rfl
 ·simp [Bool.decide_and]
  rw [Bool.eq_iff_iff];simp;omega
def zcl (n:Int) (prev:List Fld) (f:Fld):Int:=
 if zeq f.Name=false then 5 else if prev.any (fun g=>g.Name==f.Name)=true then 6
 else if f.Number<1∨f.Number>536870911∨(19000≤f.Number∧f.Number<20000) then 7
 else if prev.any (fun g=>g.Number==f.Number)=true then 8 else if zbN f.Kind=false then 9
 else if f.Packed=true∧¬(f.Repeated=true∧kNum f.Kind=true) then 10
 else if f.Kind=17∧(f.Of<0∨f.Of≥n)∨f.Kind≠17∧f.Of≠0 then 11 else 0
theorem zrV (n:Int) (prev:List Fld) (f:Fld):0≤zcl n prev f∧zcl n prev f≤11:=by
 unfold zcl
 repeat' split
 all_goals omega
theorem zye {s:List Mes} {i k:Nat} {m:Mes} (hi:∃h:i<s.length,s[i]=m) (hk:k≤m.Fields.length) (hb:m.Fields.length≤1152921504606846976) (f:Fld):
  ∀(l:List Fld) (j:Nat) (a b:Bool),(m.Fields.take k).drop j=l→j≤k→zcg i k s f a b j=some (a|| l.any (fun g=>g.Name==f.Name),b|| l.any (fun g=>g.Number==f.Number)):=by
 obtain ⟨hi,hm⟩:=hi
 intro l
 induction l with
 | nil=>
  intro j a b hd hj
  have:=zgR hd
  rw [List.length_take] at this
  refine zjQ ?_
  unfold zaP
  rw [itF (by simp;omega)];simp
 | cons g l ih=>
  intro j a b hd hj
  obtain ⟨hjk,hx,hd'⟩:=zfR hd
  rw [List.length_take] at hjk
  rw [List.getElem_take] at hx
  refine (zjP (name':=a|| (g.Name==f.Name)) (number':=b|| (g.Number==f.Number)) (j':=((j+1:Nat):Int)) ?_).trans ?_
  ·unfold zaP
   have e1:idx s (i:Int)=some m:=by rw [zW rfl hi,hm]
   have e2:idx m.Fields (j:Int)=some g:=by rw [zW rfl (by omega),hx]
   rw [itT (by simp;omega),e1,sb,e2,sb,zB (by omega)]
   cases a<;>cases b<;>(simp only [Bool.false_eq_true,if_false,if_true,e2,sb,Bool.false_or,Bool.true_or];push_cast;rfl)
  ·rw [ih _ _ _ hd' (by omega),List.any_cons,List.any_cons,Bool.or_assoc,Bool.or_assoc]
theorem zxn {s:List Mes} {i k:Nat} {m:Mes} {f:Fld} (hi:∃h:i<s.length,s[i]=m) (hk:∃h:k<m.Fields.length,m.Fields[k]=f) (hb:m.Fields.length≤1152921504606846976) (hf:f.Name.length≤1152921504606846976):
  zee s i k=some (zcl s.length (m.Fields.take k) f):=by
 obtain ⟨hil,hm⟩:=hi
 obtain ⟨hkl,hfe⟩:=hk
 have e1:idx s (i:Int)=some m:=by rw [zW rfl hil,hm]
 have e2:idx m.Fields (k:Int)=some f:=by rw [zW rfl hkl,hfe]
 have h:=zye ⟨hil,hm⟩ (Nat.le_of_lt hkl) hb f (m.Fields.take k) 0 false false rfl (Nat.zero_le _)
 have h':zcg i k s f false false 0=_:=h
 unfold zee zcl
 rw [e1,sb,e2,sb,h',sb,zsF hf,sb]
 simp only [Bool.false_or]
 cases h1:zeq f.Name
 ·rw [itT (by rfl),if_pos (show false=false from rfl)]
 ·rw [itF (by rfl),if_neg (show ¬(true=false) by simp)]
  cases h2:(m.Fields.take k).any (fun g=>g.Name==f.Name)
  ·rw [itF (by rfl),if_neg (show ¬(false=true) by simp)]
   by_cases h3:f.Number<1∨f.Number>536870911∨(19000≤f.Number∧f.Number<20000)
   ·rw [itT (by simpa using h3),if_pos h3]
   ·rw [itF (by simp;omega),if_neg h3]
    cases h4:(m.Fields.take k).any (fun g=>g.Number==f.Number)
    ·rw [itF (by rfl),if_neg (show ¬(false=true) by simp),zpg,sb]
     cases h5:zbN f.Kind
     ·rw [itT (by rfl),if_pos (show false=false from rfl)]
     ·rw [itF (by rfl),if_neg (show ¬(true=false) by simp)]
      have e10:(if f.Packed=true then (if f.Repeated=true then (zbX f.Kind>>=fun rv3=>some (!rv3)) else some (!false)) else some false)=some (decide (f.Packed=true∧¬(f.Repeated=true∧kNum f.Kind=true))):=by
       rw [zsE,sb]
       cases f.Packed<;>cases f.Repeated<;>cases kNum f.Kind<;>rfl
      rw [e10,sb]
      by_cases h6:f.Packed=true∧¬(f.Repeated=true∧kNum f.Kind=true)
      ·rw [itT (decide_eq_true h6),if_pos h6]
      ·rw [itF (decide_eq_false h6),if_neg h6]
       by_cases h7:f.Kind=17
       ·by_cases h8:f.Of<0∨f.Of≥(s.length:Int)
        ·rw [itT (by simp [h7];simpa using h8),if_pos (.inl ⟨h7,h8⟩)]
        ·rw [itF (by simp [h7];omega),if_neg (by simp [h7];omega)]
       ·by_cases h8:f.Of=0
        ·rw [itF (by simp [h7,h8]),if_neg (by simp [h7,h8])]
        ·rw [itT (by simp [h7,h8]),if_pos (.inr ⟨h7,h8⟩)]
    ·rw [itT (by rfl),if_pos (show true=true from rfl)]
  ·rw [itT (by rfl),if_pos (show true=true from rfl)]
def msgF (n:Int) (prev:List Fld):List Fld→Option (Nat×Int)
 | []=>none
 | f::l=>if 0<zcl n prev f then some (prev.length,zcl n prev f) else msgF n (prev++[f]) l
def chkF (n:Int) (prev:List Mes):List Mes→Option (Nat×Int×Int)
 | []=>none
 | m::l=>if zeq m.Name=false then some (prev.length, -1,2) else if prev.any (fun g=>g.Name==m.Name)=true then some (prev.length, -1,3)
  else if 200<m.Fields.length then some (prev.length, -1,4) else match msgF n [] m.Fields with
   | some (k,w)=>some (prev.length,(k:Int),w)
   | none=>chkF n (prev++[m]) l
def zhF (s:List Mes):Int×Int×Int:=if s.length=0∨100<s.length then (-1, -1,1) else match chkF s.length [] s with
 | none=>(0,0,0)
 | some (i,k,w)=>((i:Int),k,w)
def zjv (s:List Mes):Bool:=decide ((zhF s).2.2=0)
def WS (s:List Mes):Prop:=s.length≤140737488351232∧∀m∈s,m.Name.length≤140737488351232∧m.Fields.length≤140737488351232∧∀f∈m.Fields,f.Name.length≤140737488351232
theorem zwv {s:List Mes} {i:Nat} {m:Mes} (hi:∃h:i<s.length,s[i]=m) (hb:m.Fields.length≤140737488351232) (hn:∀f∈m.Fields,f.Name.length≤140737488351232):
  ∀(l:List Fld) (k:Nat),m.Fields.drop k=l→k≤m.Fields.length→zcf i s k=some (match msgF s.length (m.Fields.take k) l with| some (j,w)=> .inr ((j:Int),w)| none=> .inl ()):=by
 obtain ⟨hil,hm⟩:=hi
 have e1:idx s (i:Int)=some m:=by rw [zW rfl hil,hm]
 intro l
 induction l with
 | nil=>
  intro k hd hk
  have:=zgR hd
  refine zgn ?_
  unfold zaE
  rw [e1,sb,itF (by simp;omega)];rfl
 | cons f l ih=>
  intro k hd hk
  obtain ⟨hkl,hx,hd'⟩:=zfR hd
  have hf:=zxn (s:=s) (i:=i) (k:=k) (m:=m) (f:=f) ⟨hil,hm⟩ ⟨hkl,hx⟩ (by omega) (by have:=hn f (by rw [←hx];exact List.getElem_mem hkl);omega)
  have hbd:=zrV s.length (m.Fields.take k) f
  have htl:(m.Fields.take k).length=k:=by rw [List.length_take];omega
  rw [msgF]
  by_cases h0:0<zcl s.length (m.Fields.take k) f
  ·rw [if_pos h0]
   refine zgn ?_
   unfold zaE
   rw [e1,sb,itT (by simp;omega),hf,sb,itT (by simpa using h0)]
   simp only [htl]
  ·rw [if_neg h0]
   refine (zjO (k2':=((k+1:Nat):Int)) ?_).trans ?_
   ·unfold zaE
    rw [e1,sb,itT (by simp;omega),hf,sb,itF (by simp;omega),zB (by omega)]
    push_cast;rfl
   ·rw [ih (k+1) hd' (by omega),List.take_succ_eq_append_getElem hkl,hx]
theorem zwu {s:List Mes} {i:Nat} {m:Mes} (hi:∃h:i<s.length,s[i]=m) (hs:s.length≤140737488351232):
  ∀(l:List Mes) (k:Nat) (a:Bool),(s.take i).drop k=l→k≤i→zce i s a k=some (a|| l.any (fun g=>g.Name==m.Name)):=by
 obtain ⟨hil,hm⟩:=hi
 intro l
 induction l with
 | nil=>
  intro k a hd hk
  have:=zgR hd
  rw [List.length_take] at this
  refine zjN ?_
  unfold zaO
  rw [itF (by simp;omega)];simp
 | cons g l ih=>
  intro k a hd hk
  obtain ⟨hkl,hx,hd'⟩:=zfR hd
  rw [List.length_take] at hkl
  rw [List.getElem_take] at hx
  refine (zjM (twice':=a|| (g.Name==m.Name)) (k':=((k+1:Nat):Int)) ?_).trans ?_
  ·unfold zaO
   have e1:idx s (i:Int)=some m:=by rw [zW rfl hil,hm]
   have e2:idx s (k:Int)=some g:=by rw [zW rfl (by omega),hx]
   rw [itT (by simp;omega),e1,e2,sb,sb,zB (by omega)]
   cases a<;>(simp only [Bool.false_eq_true,if_false,if_true,sb,Bool.false_or,Bool.true_or];push_cast;rfl)
  ·rw [ih _ _ hd' (by omega),List.any_cons,Bool.or_assoc]
theorem zwt {s:List Mes} (hw:WS s):∀(l:List Mes) (i:Nat),s.drop i=l→i≤s.length→zcd s i=some (match chkF s.length (s.take i) l with| some (j,k,w)=> .inr ((j:Int),k,w)| none=> .inl ()):=by
 intro l
 induction l with
 | nil=>
  intro i hd hi
  have:=zgR hd
  refine zbV ?_
  unfold zaD
  rw [itF (by simp;omega)];rfl
 | cons m l ih=>
  intro i hd hi
  obtain ⟨hil,hx,hd'⟩:=zfR hd
  obtain ⟨hsl,hwm⟩:=hw
  obtain ⟨w1,w2,w3⟩:=hwm m (by rw [←hx];exact List.getElem_mem hil)
  have htl:(s.take i).length=i:=by rw [List.length_take];omega
  have e1:idx s (i:Int)=some m:=by rw [zW rfl hil,hx]
  have h2:=zwu ⟨hil,hx⟩ hsl (s.take i) 0 false rfl (Nat.zero_le _)
  have h2':zce i s false 0=_:=h2
  have h3:=zwv ⟨hil,hx⟩ w2 w3 m.Fields 0 rfl (Nat.zero_le _)
  have h3':zcf i s 0=_:=h3
  have hb:zaD s i=(if zeq m.Name=false then some (.inr (.inr ((i:Int), -1,2))) else if (s.take i).any (fun g=>g.Name==m.Name)=true then some (.inr (.inr ((i:Int), -1,3)))
    else if 200<m.Fields.length then some (.inr (.inr ((i:Int), -1,4))) else match msgF s.length [] m.Fields with
     | some (k,w)=>some (.inr (.inr ((i:Int),(k:Int),w)))
     | none=>some (.inl ((i+1:Nat):Int))):=by
   unfold zaD
   rw [itT (by simp;omega),h2',sb,e1,sb,zsF (by omega),sb,sb,h3',sb,Bool.false_or]
   cases h4:zeq m.Name
   ·rw [itT (by rfl),if_pos (show false=false from rfl)]
   ·rw [itF (by rfl),if_neg (show ¬(true=false) by simp)]
    cases h5:(s.take i).any (fun g=>g.Name==m.Name)
    ·rw [itF (by rfl),if_neg (show ¬(false=true) by simp)]
     by_cases h6:200<m.Fields.length
     ·rw [itT (by simp;omega),if_pos h6]
     ·rw [itF (by simp;omega),if_neg h6,List.take_zero]
      cases msgF s.length [] m.Fields with
      | none=>simp only;rw [zB (by omega)];push_cast;rfl
      | some p=>rfl
    ·rw [itT (by rfl),if_pos (show true=true from rfl)]
  rw [chkF]
  by_cases h4:zeq m.Name=false
  ·rw [if_pos h4] at hb⊢
   rw [zbV hb];simp only [htl]
  ·rw [if_neg h4] at hb⊢
   by_cases h5:(s.take i).any (fun g=>g.Name==m.Name)=true
   ·rw [if_pos h5] at hb⊢
    rw [zbV hb];simp only [htl]
   ·rw [if_neg h5] at hb⊢
    by_cases h6:200<m.Fields.length
    ·rw [if_pos h6] at hb⊢
     rw [zbV hb];simp only [htl]
    ·rw [if_neg h6] at hb⊢
     cases h7:msgF s.length [] m.Fields with
     | some p=>
      rw [h7] at hb
      rw [zbV hb];simp only [htl]
     | none=>
      rw [h7] at hb
      rw [zjL hb,ih _ hd' (by omega),List.take_succ_eq_append_getElem hil,hx]
theorem ztv {s:List Mes} (hw:WS s):zed s=some (zhF s):=by
 unfold zed zhF
 by_cases h:s.length=0∨100<s.length
 ·have e0:((s.length:Int)==0)=decide (s.length=0):=zri _ 0
  rw [e0,itT (by simp only [Bool.or_eq_true,decide_eq_true_eq];omega),if_pos h]
 ·have e0:((s.length:Int)==0)=decide (s.length=0):=zri _ 0
  rw [e0,itF (by simp only [Bool.or_eq_false_iff,decide_eq_false_iff_not];omega),if_neg h]
  have h1:=zwt hw s 0 rfl (Nat.zero_le _)
  have h1':zcd s 0=_:=h1
  rw [h1',sb,List.take_zero]
  cases chkF s.length [] s with
  | none=>rfl
  | some p=>rfl
theorem ztw {s:List Mes} (hw:WS s):zef s=some (zjv s):=by
 unfold zef zjv
 rw [ztv hw,sb]
 rfl
theorem zqb {n:Int}:∀(l prev:List Fld),msgF n prev l=none↔∀(k:Nat) (f:Fld),l[k]? =some f→zcl n (prev++l.take k) f=0
 | [],prev=>by simp [msgF]
 | f::l,prev=>by
  have hb:=zrV n prev f
  rw [msgF]
  by_cases h:0<zcl n prev f
  ·rw [if_pos h]
   refine ⟨(fun h'=>nomatch h'),fun h'=>?_⟩
   have:=h' 0 f rfl
   simp at this;omega
  ·rw [if_neg h,zqb l (prev++[f])]
   constructor
   ·intro h' k g hg
    cases k with
    | zero=>simp at hg;subst hg;simp;omega
    | succ k=>have:=h' k g (by simpa using hg);simpa using this
   ·intro h' k g hg
    have:=h' (k+1) g (by simpa using hg)
    simpa using this
theorem ztS {n:Int}:∀(l prev:List Mes),chkF n prev l=none↔∀(i:Nat) (m:Mes),l[i]? =some m→zeq m.Name=true∧(prev++l.take i).any (fun g=>g.Name==m.Name)=false∧m.Fields.length≤200∧msgF n [] m.Fields=none
 | [],prev=>by simp [chkF]
 | m::l,prev=>by
  rw [chkF]
  by_cases h1:zeq m.Name=false
  ·rw [if_pos h1]
   refine ⟨(fun h'=>nomatch h'),fun h'=>?_⟩
   have:=(h' 0 m rfl).1
   rw [h1] at this;cases this
  ·rw [if_neg h1]
   by_cases h2:prev.any (fun g=>g.Name==m.Name)=true
   ·rw [if_pos h2]
    refine ⟨(fun h'=>nomatch h'),fun h'=>?_⟩
    have:=(h' 0 m rfl).2.1
    simp only [List.take_zero,List.append_nil] at this
    rw [h2] at this;cases this
   ·rw [if_neg h2]
    by_cases h3:200<m.Fields.length
    ·rw [if_pos h3]
     refine ⟨(fun h'=>nomatch h'),fun h'=>?_⟩
     have:=(h' 0 m rfl).2.2.1
     omega
    ·rw [if_neg h3]
     cases h4:msgF n [] m.Fields with
     | some p=>
      refine ⟨(fun h'=>nomatch h'),fun h'=>?_⟩
      have:=(h' 0 m rfl).2.2.2
      rw [h4] at this;cases this
     | none=>
      simp only
      rw [ztS l (prev++[m])]
      constructor
      ·intro h' i g hg
       cases i with
       | zero=>simp at hg;subst hg;exact ⟨by simpa using h1,by simpa using h2,by omega,h4⟩
       | succ i=>have:=h' i g (by simpa using hg);simpa using this
      ·intro h' i g hg
       have:=h' (i+1) g (by simpa using hg)
       simpa using this
theorem zDJ:∀(n:Int) (l prev:List Fld) (k:Nat) (w:Int),msgF n prev l=some (k,w)→0<w:=by
 intro n l
 induction l with
 | nil=>intro prev k w h;cases h
 | cons f l ih=>
  intro prev k w h
  rw [msgF] at h
  split at h
  ·cases h;assumption
  ·exact ih _ _ _ h
theorem zzc:∀(n:Int) (l prev:List Mes) (i:Nat) (k w:Int),chkF n prev l=some (i,k,w)→0<w:=by
 intro n l
 induction l with
 | nil=>intro prev i k w h;cases h
 | cons m l ih=>
  intro prev i k w h
  rw [chkF] at h
  split at h
  ·cases h;omega
  ·split at h
   ·cases h;omega
   ·split at h
    ·cases h;omega
    ·split at h
     ·rename_i k' w' h';cases h;exact zDJ _ _ _ _ _ h'
     ·exact ih _ _ _ _ h
structure zEo (n:Int) (f:Fld):Prop where
 name:zeq f.Name=true
 lo:1≤f.Number
 hi:f.Number≤536870911
 kind:zbN f.Kind=true
 packed:f.Packed=true→f.Repeated=true∧kNum f.Kind=true
 sub:f.Kind=17→0≤f.Of∧f.Of<n
 noSub:f.Kind≠17→f.Of=0
theorem zrW {n:Int} {prev:List Fld} {f:Fld} (h:zcl n prev f=0):zEo n f∧prev.any (fun g=>g.Name==f.Name)=false∧prev.any (fun g=>g.Number==f.Number)=false:=by
 unfold zcl at h
 split at h
 ·omega
 ·rename_i h1
  split at h
  ·omega
  ·rename_i h2
   split at h
   ·omega
   ·rename_i h3
    split at h
    ·omega
    ·rename_i h4
     split at h
     ·omega
     ·rename_i h5
      split at h
      ·omega
      ·rename_i h6
       split at h
       ·omega
       ·rename_i h7
        refine ⟨⟨by simpa using h1,by omega,by omega,by simpa using h5,fun hp=>?_,fun hk=>by omega,fun hk=>by omega⟩,by simpa using h2,by simpa using h4⟩
        by_cases hq:f.Repeated=true∧kNum f.Kind=true
        ·exact hq
        ·exact absurd ⟨hp,hq⟩ h6
structure zix (s:List Mes):Prop where
 len:1≤s.length∧s.length≤100
 name:∀m∈s,zeq m.Name=true
 names:∀(i j:Nat) (a b:Mes),i<j→s[i]? =some a→s[j]? =some b→a.Name≠b.Name
 few:∀m∈s,m.Fields.length≤200
 fld:∀m∈s,∀f∈m.Fields,zEo s.length f
 nums:∀m∈s,∀(i j:Nat) (f g:Fld),i<j→m.Fields[i]? =some f→m.Fields[j]? =some g→f.Number≠g.Number∧f.Name≠g.Name
theorem zpH {α:Type} {l:List α} {p:α→Bool} (h:l.any p=false) {x:α} (hx:x∈l):p x=false:=by
 rw [List.any_eq_false] at h
 simpa using h x hx
theorem zqn {s:List Mes} (h:zjv s=true):zix s:=by
 have h0:(zhF s).2.2=0:=by simpa [zjv] using h
 have h1:¬(s.length=0∨100<s.length):=fun hh=>by unfold zhF at h0;rw [if_pos hh] at h0;simp at h0
 have h2:chkF s.length [] s=none:=by
  cases h4:chkF s.length [] s with
  | none=>rfl
  | some p=>
   exfalso
   obtain ⟨i,k,w⟩:=p
   have h5:(zhF s).2.2=w:=by unfold zhF;rw [if_neg h1,h4]
   have:=zzc _ _ _ _ _ _ h4
   omega
 have h3:=(ztS s []).1 h2
 have at':∀m∈s,zeq m.Name=true∧m.Fields.length≤200∧msgF s.length [] m.Fields=none:=fun m hm=>by
  obtain ⟨i,hi,rfl⟩:=List.getElem_of_mem hm
  have:=h3 i _ (List.getElem?_eq_getElem hi)
  exact ⟨this.1,this.2.2.1,this.2.2.2⟩
 refine ⟨by omega,fun m hm=>(at' m hm).1,fun i j a b hij ha hb=>?_,fun m hm=>(at' m hm).2.1,fun m hm f hf=>?_,fun m hm i j f g hij hf hg=>?_⟩
 ·have:=(h3 j b hb).2.1
  have hai:a∈([]++s.take j:List Mes):=by
   rw [List.nil_append]
   exact List.mem_of_getElem? (i:=i) (by rw [List.getElem?_take,if_pos hij];exact ha)
  simpa using zpH this hai
 ·have h4:=(zqb m.Fields []).1 (at' m hm).2.2
  obtain ⟨i,hi,rfl⟩:=List.getElem_of_mem hf
  exact (zrW (h4 i _ (List.getElem?_eq_getElem hi))).1
 ·have h4:=(zqb m.Fields []).1 (at' m hm).2.2
  obtain ⟨_,k1,k2⟩:=zrW (h4 j g hg)
  have hai:f∈([]++m.Fields.take j:List Fld):=by
   rw [List.nil_append]
   exact List.mem_of_getElem? (i:=i) (by rw [List.getElem?_take,if_pos hij];exact hf)
  exact ⟨by simpa using zpH k2 hai,by simpa using zpH k1 hai⟩
theorem zAe {s:List Mes} {i:Nat} {m:Mes} (hi:∃h:i<s.length,s[i]=m) (hb:m.Fields.length≤140737488351232):∀(d k:Nat) (n:Int),k+d=m.Fields.length→∃r,zcT i s n k=some r:=by
 obtain ⟨hil,hm⟩:=hi
 have e1:idx s (i:Int)=some m:=by rw [zW rfl hil,hm]
 intro d
 induction d with
 | zero=>
  intro k n hk
  refine ⟨n,zkU ?_⟩
  unfold zbi
  rw [e1,sb,itF (by simp;omega)]
 | succ d ih=>
  intro k n hk
  obtain ⟨r,hr⟩:=ih (k+1) (IntKind.i64.wrap (n+(IntKind.i64.wrap (Int.tdiv (((m.Fields[k]'(by omega)).Name.length:Int)) 100)))) (by omega)
  refine ⟨r,(zkT (k':=((k+1:Nat):Int)) ?_).trans hr⟩
  unfold zbi
  rw [e1,sb,itT (by simp;omega),sb,zW rfl (by omega),sb,zB (x:=(k:Int)+1) (by omega)]
  push_cast;rfl
theorem zEI {s:List Mes} (hw:WS s):∃b,zeY s=some b:=by
 obtain ⟨hs,hm⟩:=hw
 have key:∀(d i:Nat) (n:Int),i+d=s.length→∃r,zcS s n i=some r:=by
  intro d
  induction d with
  | zero=>
   intro i n hi
   refine ⟨n,zkS ?_⟩
   unfold zbh
   rw [itF (by simp;omega)]
  | succ d ih=>
   intro i n hi
   have hil:i<s.length:=by omega
   obtain ⟨q,hq⟩:=zAe (s:=s) (i:=i) (m:=s[i]) ⟨hil,rfl⟩ (hm _ (List.getElem_mem hil)).2.1 (s[i]).Fields.length 0
    (IntKind.i64.wrap ((IntKind.i64.wrap ((IntKind.i64.wrap (n+1))+(IntKind.i64.wrap (Int.tdiv ((s[i]).Name.length:Int) 100))))+((s[i]).Fields.length:Int))) (by omega)
   have hq':zcT i s (IntKind.i64.wrap ((IntKind.i64.wrap ((IntKind.i64.wrap (n+1))+(IntKind.i64.wrap (Int.tdiv ((s[i]).Name.length:Int) 100))))+((s[i]).Fields.length:Int))) 0=some q:=hq
   obtain ⟨r,hr⟩:=ih (i+1) q (by omega)
   refine ⟨r,(zkR (i':=((i+1:Nat):Int)) ?_).trans hr⟩
   unfold zbh
   rw [itT (by simp;omega),zW rfl hil,sb,sb,hq',sb,zB (x:=(i:Int)+1) (by omega)]
   push_cast;rfl
 obtain ⟨r,hr⟩:=key s.length 0 0 (by omega)
 have hr':zcS s 0 0=some r:=hr
 exact ⟨_,by unfold zeY;rw [hr',sb]⟩
def zjl (m:Mes) (p:Int):Int:=(m.Fields.getD p.toNat ⟨[],0,0,false,false,0⟩).Number
def insS (κ:Int→Int) (i:Int) (out:List Int):List Int:=out.takeWhile (fun x=>decide (κ x≤κ i))++i::out.dropWhile (fun x=>decide (κ x≤κ i))
def zgF (κ:Int→Int):Nat→List Int
 | 0=>[]
 | n+1=>insS κ n (zgF κ n)
theorem zAj (κ:Int→Int) (i:Int) (out:List Int):(insS κ i out).Perm (i::out):=by
 unfold insS
 refine List.perm_middle.trans ?_
 rw [List.takeWhile_append_dropWhile]
theorem zhP {κ:Int→Int}:∀{n:Nat} {x:Int},x∈zgF κ n↔0≤x∧x<n
 | 0,x=>by
  simp only [zgF,List.not_mem_nil,false_iff];omega
 | n+1,x=>by
  rw [zgF,(zAj κ n _).mem_iff,List.mem_cons,zhP]
  omega
def zpJ (κ:Int→Int) (a b:Int):Prop:=κ a<κ b∨κ a=κ b∧a<b
theorem zvY {κ:Int→Int} {c:Int}:∀{l:List Int},∀x∈l.takeWhile (fun x=>decide (κ x≤c)),κ x≤c∧x∈l:=by
 intro l
 induction l with
 | nil=>intro x hx;simp at hx
 | cons y l ih=>
  intro x hx
  rw [List.takeWhile_cons] at hx
  by_cases hy:κ y≤c
  ·rw [if_pos (by simpa using hy)] at hx
   rcases List.mem_cons.1 hx with rfl| hx
   ·exact ⟨hy,List.mem_cons_self⟩
   ·exact ⟨(ih x hx).1,List.mem_cons_of_mem _ (ih x hx).2⟩
  ·rw [if_neg (by simpa using hy)] at hx;cases hx
theorem zva {κ:Int→Int} {c:Int}:∀{l:List Int},l.Pairwise (zpJ κ)→∀x∈l.dropWhile (fun x=>decide (κ x≤c)),c<κ x:=by
 intro l
 induction l with
 | nil=>intro _ x hx;simp at hx
 | cons y l ih=>
  intro hp x hx
  rw [List.dropWhile_cons] at hx
  have hp':=List.pairwise_cons.1 hp
  by_cases hy:κ y≤c
  ·rw [if_pos (by simpa using hy)] at hx
   exact ih hp'.2 x hx
  ·rw [if_neg (by simpa using hy)] at hx
   rcases List.mem_cons.1 hx with rfl| hx
   ·omega
   ·have:=hp'.1 x hx
    unfold zpJ at this
    omega
theorem zpn (κ:Int→Int):∀(n:Nat),(zgF κ n).Pairwise (zpJ κ)
 | 0=> .nil
 | n+1=>by
  have ih:=zpn κ n
  have hm:∀x∈zgF κ n,x<n:=fun x hx=>(zhP.1 hx).2
  rw [zgF,insS]
  have hsplit:(zgF κ n).takeWhile (fun x=>decide (κ x≤κ n))++(zgF κ n).dropWhile (fun x=>decide (κ x≤κ n))=zgF κ n:=List.takeWhile_append_dropWhile
  have hp:((zgF κ n).takeWhile (fun x=>decide (κ x≤κ n))++(zgF κ n).dropWhile (fun x=>decide (κ x≤κ n))).Pairwise (zpJ κ):=by rw [hsplit];exact ih
  have ht:=zvY (κ:=κ) (c:=κ n) (l:=zgF κ n)
  have hd:=zva (c:=κ n) ih
  have htm:∀x∈(zgF κ n).takeWhile (fun x=>decide (κ x≤κ n)),x<n:=fun x hx=>hm x (ht x hx).2
  rw [List.pairwise_append] at hp⊢
  refine ⟨hp.1,List.pairwise_cons.2 ⟨fun x hx=> .inl (hd x hx),hp.2.1⟩,fun a ha b hb=>?_⟩
  rcases List.mem_cons.1 hb with rfl| hb
  ·have h1:=(ht a ha).1
   have h2:=htm a ha
   unfold zpJ;omega
  ·exact hp.2.2 a ha b hb
end Go.Proofs.YtcbkcblkecmjnaaGreat
namespace Go.Proofs.YtcbkcblkecmjnaaGreat
open Go
set_option linter.unusedVariables false
abbrev Vw:=ztp
def zvw:Vw:=⟨zrec,0,false⟩
def zaj (m:Mes) (i:Int):Fld:=m.Fields.getD i.toNat ⟨[],0,0,false,false,0⟩
def vw (m:Mes) (n w:Int):Int⊕(Int×Bool):=
 if fldI m n<0 then .inr (-1,false)
 else if (zaj m (fldI m n)).Repeated=true∧kNum (zaj m (fldI m n)).Kind=true∧w=2 then .inr (fldI m n,true)
 else if zbN (zaj m (fldI m n)).Kind=false∨zdL (zaj m (fldI m n)).Kind≠w then .inl 6 else .inr (fldI m n,false)
theorem zjj (m:Mes) (n:Int):fldI m n= -1∧(∀f∈m.Fields,f.Number≠n)∨∃(i:Nat) (h:i<m.Fields.length),fldI m n=i∧m.Fields[i].Number=n∧∀(j:Nat) (h:j<m.Fields.length),j<i→m.Fields[j].Number≠n:=by
 unfold fldI
 cases h:m.Fields.findIdx? (fun f:Fld=>f.Number==n) with
 | none=>
  left
  rw [List.findIdx?_eq_none_iff] at h
  exact ⟨zjY (List.findIdx?_eq_none_iff.2 h),fun f hf=>by simpa using h f hf⟩
 | some i=>
  right
  have h':=h
  rw [List.findIdx?_eq_some_iff_getElem] at h
  obtain ⟨hi,hp,hj⟩:=h
  exact ⟨i,hi,zjZ h',by simpa using hp,fun j hjl hji=>by simpa using hj j hji⟩
theorem zfS {m:Mes} {i:Nat} (h:i<m.Fields.length):zaj m (i:Int)=m.Fields[i]:=by
 unfold zaj;rw [Int.toNat_natCast,List.getD_eq_getElem?_getD,List.getElem?_eq_getElem h];rfl
theorem zgd (m:Mes) (n w:Int):vw m n w= .inl 6∨vw m n w= .inr (-1,false)∧fldI m n= -1∨∃(i:Nat) (run:Bool),vw m n w= .inr ((i:Int),run)∧fldI m n=i∧i<m.Fields.length:=by
 unfold vw
 rcases zjj m n with ⟨h,_⟩| ⟨i,hi,h,_⟩
 ·right;left;rw [h,if_pos (by omega)];exact ⟨rfl,rfl⟩
 ·rw [h,if_neg (by omega)]
  split
  ·right;right;exact ⟨i,true,rfl,rfl,hi⟩
  ·split
   ·left;rfl
   ·right;right;exact ⟨i,false,rfl,rfl,hi⟩
def zep (m:Mes) (b:List UInt8) (at5:Int):Vw×Int:=
 if (zeh b at5).2≠0 then (zvw,(zeh b at5).2) else match vw m (zeh b at5).1.Number (zeh b at5).1.Wire with
  | .inl c=>(zvw,c)
  | .inr (i,run)=>(⟨(zeh b at5).1,i,run⟩,0)
def vws (m:Mes) (e:Option (Nat×Int)):List Rec→List Vw×Option (Int×Int)
 | []=>([],e.map fun p=>((p.1:Int),p.2))
 | r::l=>match vw m r.Number r.Wire with
  | .inl c=>([],some (r.From,c))
  | .inr (i,run)=>(⟨r,i,run⟩::(vws m e l).1,(vws m e l).2)
def vwR (r:List Vw×Option (Int×Int)):List Vw×Int×Int:=match r.2 with
 | none=>(r.1,0,0)
 | some (p,c)=>([],p,c)
def zeU (m:Mes) (b:List UInt8):List Vw×Int×Int:=vwR (vws m (spl 0 b).2 (spl 0 b).1)
end Go.Proofs.YtcbkcblkecmjnaaGreat
namespace Go.Proofs.YtcbkcblkecmjnaaGreat
open Go
set_option linter.unusedVariables false
def zY (s:List Mes) (i:Int):Mes:=s.getD i.toNat ⟨[],[]⟩
theorem zgD {s:List Mes} {i:Nat} (h:i<s.length):zY s (i:Int)=s[i]:=by
 unfold zY;rw [Int.toNat_natCast,List.getD_eq_getElem?_getD,List.getElem?_eq_getElem h];rfl
def valB (b:List UInt8) (r:Rec):List UInt8:=(b.drop r.At.toNat).take (r.To.toNat - r.At.toNat)
abbrev zkP:=Option (Int→List UInt8→Option (Int×Int))
def zkH (f:Fld) (run:Bool) (sub:zkP) (r:Rec) (v:List UInt8):Option (Int×Int):=
 if run=true then (if (zlT f.Kind v).2≠0 then some (r.From,(zlT f.Kind v).2) else none)
 else if f.Kind=15∧zfb v=false then some (r.From,7)
 else if f.Kind=17 then (match sub with
  | none=>some (r.From,8)
  | some g=>match g f.Of v with
   | some (p,c)=>some (r.At+p,c)
   | none=>none)
 else none
def zdG (m:Mes) (sub:zkP) (b:List UInt8) (r:Rec):Option (Int×Int):=match vw m r.Number r.Wire with
 | .inl c=>some (r.From,c)
 | .inr (i,run)=>if i<0 then none else zkH (zaj m i) run sub r (valB b r)
def zda (m:Mes) (sub:zkP) (b:List UInt8) (x:List Rec×Option (Nat×Int)):Option (Int×Int):=match x.1.findSome? (zdG m sub b) with
 | some p=>some p
 | none=>x.2.map fun p=>((p.1:Int),p.2)
def zaC (s:List Mes):Nat→Int→List UInt8→Option (Int×Int)
 | 0,k,b=>zda (zY s k) none b (spl 0 b)
 | d+1,k,b=>zda (zY s k) (some (zaC s d)) b (spl 0 b)
def zrI (g:Int→List UInt8→Option (Int×Int)):Prop:=∀k v p c,g k v=some (p,c)→3≤c∧c≤8∧0≤p∧p<v.length
theorem zAd (k:Int) {b:List UInt8}:(zlT k b).2=0∨(zlT k b).2=2∧kNum k=false∨(zlT k b).2=3∨(zlT k b).2=4:=by
 unfold zlT
 have:=zxk k b
 split
 ·rename_i h;exact .inr (.inl ⟨rfl,h⟩)
 ·split
  ·exact .inl rfl
  ·rename_i h;simp only;omega
theorem zyY {m:Mes} {n w:Int} {i:Int} (h:vw m n w= .inr (i,true)):kNum (zaj m i).Kind=true∧(zaj m i).Repeated=true∧w=2:=by
 unfold vw at h
 split at h
 ·cases h
 ·split at h
  ·rename_i h1;cases h;exact ⟨h1.2.1,h1.1,h1.2.2⟩
  ·split at h<;>cases h
theorem zxJ {b:List UInt8} {r:Rec} {base a t:Nat} (hr:r.At=((base+a:Nat):Int)) (ht:r.To=((base+t:Nat):Int)) (h:base+t≤b.length) (hat:a≤t):(valB b r).length=t - a:=by
 unfold valB;rw [hr,ht];simp;omega
theorem zuy {m:Mes} {sub:zkP} {b:List UInt8} (hg:∀g,sub=some g→zrI g) {n w:Int} {base a t:Nat} (h1:1≤a) (hat:a≤t) (ht:base+t≤b.length) {p c:Int}
  (h:zdG m sub b ⟨n,w,base,(base+a:Nat),(base+t:Nat)⟩=some (p,c)):3≤c∧c≤8∧0≤p∧p<b.length:=by
 unfold zdG at h
 rcases zgd m n w with hv| ⟨hv,_⟩| ⟨i,run,hv,_,hi⟩
 ·simp only [hv] at h;cases h;(try dsimp only);omega
 ·simp only [hv] at h;rw [if_pos (by omega)] at h;cases h
 ·simp only [hv] at h
  rw [if_neg (by omega)] at h
  unfold zkH at h
  split at h
  ·rename_i hr
   subst hr
   have hk:=zyY hv
   split at h
   ·cases h
    have:=zAd (zaj m i).Kind (b:=valB b ⟨n,w,base,(base+a:Nat),(base+t:Nat)⟩)
    rw [hk.1] at this
    simp only [Bool.true_eq_false,and_false,false_or] at this
    (try dsimp only)
    omega
   ·cases h
  ·split at h
   ·cases h;(try dsimp only);omega
   ·split at h
    ·cases sub with
     | none=>simp only at h;cases h;(try dsimp only);omega
     | some g=>
      simp only at h
      have hl:=zxJ (b:=b) (r:=⟨n,w,base,(base+a:Nat),(base+t:Nat)⟩) rfl rfl ht hat
      cases hgv:g (zaj m i).Of (valB b ⟨n,w,base,(base+a:Nat),(base+t:Nat)⟩) with
      | none=>rw [hgv] at h;cases h
      | some q=>
       obtain ⟨q1,q2⟩:=q
       rw [hgv] at h
       have:=hg g rfl _ _ _ _ hgv
       cases h
       (try dsimp only)
       omega
    ·cases h
theorem zub {m:Mes} {sub:zkP} {b:List UInt8} (hg:∀g,sub=some g→zrI g) (base:Nat) (l:List UInt8):l=b.drop base→base≤b.length→∀p c,zda m sub b (spl base l)=some (p,c)→3≤c∧c≤8∧0≤p∧p<b.length:=by
 refine zhr (fun base l=>l=b.drop base→base≤b.length→∀p c,zda m sub b (spl base l)=some (p,c)→3≤c∧c≤8∧0≤p∧p<b.length) ?_ ?_ ?_ base l
 ·intro base _ _ p c h
  unfold zda at h;rw [zgk] at h;cases h
 ·intro base l c' hl h hc hld hb p c h2
  have hlt:base<b.length:=by subst hld;have:=List.length_pos_iff.2 hl;simp at this;omega
  unfold zda at h2;rw [zgK hl h] at h2
  simp only [List.findSome?_nil,Option.map_some] at h2
  cases h2;omega
 ·intro base l n w a t hl h _ g1 g2 g3 ih hld hb p c h2
  have hbl:base+t≤b.length:=by subst hld;simp at g3;omega
  unfold zda at h2 ih
  rw [zeJ hl h] at h2
  simp only [List.findSome?_cons] at h2
  cases hs:zdG m sub b ⟨n,w,base,(base+a:Nat),(base+t:Nat)⟩ with
  | some q=>rw [hs] at h2;cases h2;exact zuy hg g1 g2 hbl hs
  | none=>
   rw [hs] at h2
   exact ih (by rw [hld,List.drop_drop]) hbl p c h2
theorem zlF (s:List Mes):∀(d:Nat),zrI (zaC s d)
 | 0=>fun k v p c h=>zub (fun g hg=>by cases hg) 0 v rfl (Nat.zero_le _) p c h
 | d+1=>fun k v p c h=>zub (fun g hg=>by cases hg;exact zlF s d) 0 v rfl (Nat.zero_le _) p c h
def argS (s:List Mes) (root d:Int):Int:=if zjv s=false then 9 else if root<0∨root≥s.length∨d<0∨d>64 then 2 else 0
def zfK (s:List Mes) (root:Int) (b:List UInt8) (d:Int):Int×Int:=if argS s root d≠0 then (0,argS s root d) else (zaC s d.toNat root b).getD (0,0)
theorem ztO {s:List Mes} {root d:Int} (h:argS s root d=0):zix s∧0≤root∧root<s.length∧0≤d∧d≤64:=by
 unfold argS at h
 split at h
 ·omega
 ·rename_i h1
  split at h
  ·omega
  ·rename_i h2
   exact ⟨zqn (by simpa using h1),by omega⟩
def is11 (s:List Mes) (root:Int) (b:List UInt8) (d:Int):Bool:=(zfK s root b d).2==0
theorem zfw {m:Mes} {sub:zkP} {b:List UInt8} {x:List Rec×Option (Nat×Int)}:zda m sub b x=none↔(∀r∈x.1,zdG m sub b r=none)∧x.2=none:=by
 unfold zda
 cases h:x.1.findSome? (zdG m sub b) with
 | some p=>
  refine ⟨(fun h'=>nomatch h'),fun ⟨h1,_⟩=>?_⟩
  obtain ⟨r,hr,hs⟩:=List.exists_of_findSome?_eq_some h
  rw [h1 r hr] at hs;cases hs
 | none=>
  rw [List.findSome?_eq_none_iff] at h
  cases hx:x.2 with
  | none=>exact ⟨fun _=>⟨h,rfl⟩,fun _=>rfl⟩
  | some p=>exact ⟨(fun h'=>nomatch h'),fun ⟨_,h2⟩=>nomatch h2⟩
theorem zxI {b:List UInt8} (z:List UInt8) {r:Rec} (h0:0≤r.To) (h:r.To≤b.length):valB (b++z) r=valB b r:=by
 unfold valB
 by_cases ha:r.At.toNat≤b.length
 ·rw [List.drop_append_of_le_length ha,List.take_append_of_le_length (by simp;omega)]
 ·have e:r.To.toNat - r.At.toNat=0:=by omega
  rw [e,List.take_zero,List.take_zero]
theorem ztb (a b:List UInt8) {r:Rec} (h0:0≤r.At) (h1:r.At≤r.To):valB (a++b) (zna a.length r)=valB b r:=by
 unfold valB zna
 simp only
 have e1:(r.At+(a.length:Int)).toNat=a.length+r.At.toNat:=by omega
 have e2:(r.To+(a.length:Int)).toNat - (a.length+r.At.toNat)=r.To.toNat - r.At.toNat:=by omega
 rw [e1,e2,←List.drop_drop,List.drop_left]
theorem zsR {m:Mes} {sub:zkP} {b b':List UInt8} {r r':Rec} (hn:r'.Number=r.Number) (hw:r'.Wire=r.Wire) (hv:valB b' r'=valB b r):zdG m sub b' r'=none↔zdG m sub b r=none:=by
 unfold zdG
 rw [hn,hw,hv]
 cases vw m r.Number r.Wire with
 | inl c=>simp
 | inr p=>
  simp only
  by_cases hi:p.1<0
  ·simp [hi]
  ·rw [if_neg hi,if_neg hi]
   unfold zkH
   by_cases hr:p.2=true
   ·rw [if_pos hr,if_pos hr]
    by_cases he:(zlT (zaj m p.1).Kind (valB b r)).2≠0
    ·rw [if_pos he,if_pos he];simp
    ·rw [if_neg he,if_neg he]
   ·rw [if_neg hr,if_neg hr]
    by_cases h15:(zaj m p.1).Kind=15∧zfb (valB b r)=false
    ·rw [if_pos h15,if_pos h15];simp
    ·rw [if_neg h15,if_neg h15]
     by_cases h17:(zaj m p.1).Kind=17
     ·rw [if_pos h17,if_pos h17]
      cases sub with
      | none=>simp
      | some g=>simp only;cases g (zaj m p.1).Of (valB b r)<;>simp
     ·rw [if_neg h17,if_neg h17]
theorem zvS (base:Nat) (l:List UInt8):∀r∈(spl base l).1,(base:Int)≤r.From∧r.From<r.At∧r.At≤r.To∧r.To≤base+l.length:=by
 refine zhr (fun base l=>∀r∈(spl base l).1,(base:Int)≤r.From∧r.From<r.At∧r.At≤r.To∧r.To≤base+l.length) ?_ ?_ ?_ base l
 ·intro base r hr;rw [zgk] at hr;cases hr
 ·intro base l c hl h _ r hr;rw [zgK hl h] at hr;cases hr
 ·intro base l n w a t hl h _ g1 g2 g3 ih r hr
  rw [zeJ hl h] at hr
  rcases List.mem_cons.1 hr with rfl| hr
  ·simp only;omega
  ·have:=ih r hr
   simp only [List.length_drop] at this
   omega
theorem zqJ {m:Mes} {sub:zkP} {a:List UInt8} (z:List UInt8) (h:zda m sub a (spl 0 a)=none):zda m sub (a++z) (spl 0 (a++z))=none↔zda m sub z (spl 0 z)=none:=by
 rw [zfw] at h
 have hap:=zyL z 0 a h.2
 have hsh:=zAM a.length 0 z
 rw [Nat.zero_add] at hap hsh
 rw [hsh] at hap
 rw [zfw,zfw,hap]
 simp only [List.mem_append,List.mem_map]
 constructor
 ·rintro ⟨h1,h2⟩
  refine ⟨fun r hr=>?_,by cases hz:(spl 0 z).2 with| none=>rfl| some p=>rw [hz] at h2;cases h2⟩
  have hb:=zvS 0 z r hr
  have:=h1 (zna a.length r) (.inr ⟨r,hr,rfl⟩)
  exact (zsR (r:=r) (r':=zna a.length r) rfl rfl (ztb a z (by omega) (by omega))).1 this
 ·rintro ⟨h1,h2⟩
  refine ⟨fun r hr=>?_,by rw [h2];rfl⟩
  rcases hr with hr| ⟨r,hr,rfl⟩
  ·have hb:=zvS 0 a r hr
   exact (zsR (r:=r) (r':=r) rfl rfl (zxI z (by omega) (by omega))).2 (h.1 r hr)
  ·have hb:=zvS 0 z r hr
   exact (zsR (r:=r) (r':=zna a.length r) rfl rfl (ztb a z (by omega) (by omega))).2 (h1 r hr)
theorem zvg (s:List Mes) (d:Nat) (k:Int) {a:List UInt8} (z:List UInt8) (h:zaC s d k a=none):zaC s d k (a++z)=none↔zaC s d k z=none:=by
 cases d with
 | zero=>exact zqJ z h
 | succ d=>exact zqJ z h
theorem zwO {s:List Mes} {root:Int} {b:List UInt8} {d:Int}:is11 s root b d=true↔argS s root d=0∧zaC s d.toNat root b=none:=by
 unfold is11 zfK
 by_cases h:argS s root d=0
 ·rw [if_neg (by simpa using h)]
  cases hf:zaC s d.toNat root b with
  | none=>simp [h]
  | some p=>
   obtain ⟨p,c⟩:=p
   have:=zlF s d.toNat root b p c hf
   simp only [Option.getD_some,h,true_and]
   simp;omega
 ·rw [if_pos h]
  simp [h]
end Go.Proofs.YtcbkcblkecmjnaaGreat
namespace Go.Proofs.YtcbkcblkecmjnaaGreat
open Go
set_option linter.unusedVariables false
abbrev Msg:=zf
abbrev Vlu:=zc
mutual
def szM:Msg→Nat
 | ⟨vs,_⟩=>1+szVs vs
def szVs:List Vlu→Nat
 | []=>0
 | v::l=>szV v+szVs l
def szV:Vlu→Nat
 | ⟨_,_,_,s⟩=>1+szMs s
def szMs:List Msg→Nat
 | []=>0
 | x::l=>szM x+szMs l
end
theorem znd (x:Msg):szM x=1+szVs x.Values:=by cases x;rw [szM]
theorem zoz (v:Vlu):szV v=1+szMs v.Subs:=by cases v;rw [szV]
theorem zjA {v:Vlu}:∀{l:List Vlu},v∈l→szV v≤szVs l
 | [],h=>by cases h
 | u::l,h=>by
  rw [szVs]
  rcases List.mem_cons.1 h with rfl| h
  ·omega
  ·have:=zjA h;omega
theorem zjz {x:Msg}:∀{l:List Msg},x∈l→szM x≤szMs l
 | [],h=>by cases h
 | u::l,h=>by
  rw [szMs]
  rcases List.mem_cons.1 h with rfl| h
  ·omega
  ·have:=zjz h;omega
mutual
/-- Within the reach of what a law is handed. -/
def bdM:Msg→Prop
 | ⟨vs,u⟩=>vs.length*80≤140737488351232∧(u.length*16≤140737488351232∧∀t∈u,t.length≤140737488351232)∧bdVs vs
def bdVs:List Vlu→Prop
 | []=>True
 | v::l=>bdV v∧bdVs l
def bdV:Vlu→Prop
 | ⟨n,w,t,s⟩=>(Lit.int .i64 n).wf=true∧(w.length*8≤140737488351232∧∀x∈w,0≤x∧x≤18446744073709551615)∧(t.length*16≤140737488351232∧∀x∈t,x.length≤140737488351232)∧s.length*48≤140737488351232∧bdMs s
def bdMs:List Msg→Prop
 | []=>True
 | x::l=>bdM x∧bdMs l
end
theorem zod (x:Msg):bdM x↔x.Values.length*80≤140737488351232∧(x.Unknown.length*16≤140737488351232∧∀t∈x.Unknown,t.length≤140737488351232)∧bdVs x.Values:=by cases x;simp only [bdM]
theorem zpI (v:Vlu):bdV v↔(Lit.int .i64 v.Number).wf=true∧(v.Words.length*8≤140737488351232∧∀x∈v.Words,0≤x∧x≤18446744073709551615)∧(v.Texts.length*16≤140737488351232∧∀x∈v.Texts,x.length≤140737488351232)∧v.Subs.length*48≤140737488351232∧bdMs v.Subs:=by cases v;simp only [bdV]
theorem zjf:∀{l:List Vlu},bdVs l↔∀v∈l,bdV v
 | []=>by simp [bdVs]
 | v::l=>by rw [bdVs,zjf (l:=l)];simp
theorem zje:∀{l:List Msg},bdMs l↔∀v∈l,bdM v
 | []=>by simp [bdMs]
 | v::l=>by rw [bdMs,zje (l:=l)];simp
section
open Classical
end
def zgC (v:Vlu):Nat:=v.Words.length+v.Texts.length+v.Subs.length
theorem zyB {v:Vlu} (hb:v.Words.length≤140737488351232∧v.Texts.length≤140737488351232∧v.Subs.length≤140737488351232):zca v=some ((zgC v:Nat):Int):=by
 unfold zca zgC
 rw [zB (x:=(v.Words.length:Int)+(v.Texts.length:Int)) (by omega),zB (by omega)]
 push_cast
 rfl
mutual
def dM:Msg→Nat
 | ⟨vs,_⟩=>dVs vs
def dVs:List Vlu→Nat
 | []=>0
 | v::l=>max (dV v) (dVs l)
def dV:Vlu→Nat
 | ⟨_,_,_,s⟩=>dMs s
def dMs:List Msg→Nat
 | []=>0
 | x::l=>max (1+dM x) (dMs l)
end
theorem zBv (x:Msg):dM x=dVs x.Values:=by cases x;rw [dM]
theorem zBw (v:Vlu):dV v=dMs v.Subs:=by cases v;rw [dV]
theorem zuZ {v:Vlu}:∀{l:List Vlu},v∈l→dV v≤dVs l
 | [],h=>by cases h
 | u::l,h=>by
  rw [dVs]
  rcases List.mem_cons.1 h with rfl| h
  ·omega
  ·have:=zuZ h;omega
theorem zzf {x:Msg}:∀{l:List Msg},x∈l→1+dM x≤dMs l
 | [],h=>by cases h
 | u::l,h=>by
  rw [dMs]
  rcases List.mem_cons.1 h with rfl| h
  ·omega
  ·have:=zzf h;omega
structure Th where
 fi:Int
 run:Bool
 val:List UInt8
 raw:List UInt8
def rawB (b:List UInt8) (r:Rec):List UInt8:=(b.drop r.From.toNat).take (r.To.toNat - r.From.toNat)
def thOf (b:List UInt8) (t:Vw):Th:=⟨t.Field,t.Run,valB b t.R,rawB b t.R⟩
def ths (m:Mes) (b:List UInt8):List Th:=(zeU m b).1.map (thOf b)
def wt:List Th→Nat
 | []=>0
 | t::l=>t.val.length+1+wt l
theorem ztm:∀(l:List Th),l.length≤wt l
 | []=>by simp [wt]
 | t::l=>by have:=ztm l;simp only [List.length_cons,wt];omega
theorem zDe {t:Th}:∀{l:List Th},t∈l→t.val.length+1≤wt l
 | [],h=>by cases h
 | u::l,h=>by
  rw [wt]
  rcases List.mem_cons.1 h with rfl| h
  ·omega
  ·have:=zDe h;omega
theorem zzT {m:Mes} {e:Option (Nat×Int)}:∀{l:List Rec} {t:Vw},t∈(vws m e l).1→t.R∈l
 | [],t,h=>by simp [vws] at h
 | r::l,t,h=>by
  rw [vws] at h
  cases hv:vw m r.Number r.Wire with
  | inl c=>rw [hv] at h;simp at h
  | inr p=>
   rw [hv] at h
   rcases List.mem_cons.1 h with rfl| h
   ·exact List.mem_cons_self
   ·exact List.mem_cons_of_mem _ (zzT h)
theorem zAa {m:Mes} {b:List UInt8} {t:Vw} (h:t∈(zeU m b).1):t.R∈(spl 0 b).1:=by
 unfold zeU vwR at h
 split at h
 ·exact zzT h
 ·simp at h
theorem zBh {m:Mes} {b:List UInt8} {t:Vw} (h:t∈(zeU m b).1):0≤t.R.From∧t.R.From<t.R.At∧t.R.At≤t.R.To∧t.R.To≤b.length:=by
 have:=zvS 0 b _ (zAa h)
 simpa using this
theorem zFv {m:Mes} {e:Option (Nat×Int)} (b:List UInt8):∀(base:Nat) (l:List UInt8),l=b.drop base→base≤b.length→wt ((vws m e (spl base l).1).1.map (thOf b))≤l.length:=by
 intro base l
 refine zhr (fun base l=>l=b.drop base→base≤b.length→wt ((vws m e (spl base l).1).1.map (thOf b))≤l.length) ?_ ?_ ?_ base l
 ·intro base _ _;rw [zgk];simp [vws,wt]
 ·intro base l c hl h _ _ _;rw [zgK hl h];simp [vws,wt]
 ·intro base l n w a t hl h _ g1 g2 g3 ih hld hbase
  have hlen:l.length=b.length - base:=by rw [hld];simp
  have ih':=ih (by rw [hld,List.drop_drop]) (by omega)
  rw [zeJ hl h,vws]
  cases hv:vw m n w with
  | inl c=>simp [wt]
  | inr p=>
   simp only [List.map_cons,wt,thOf,List.length_drop] at ih'⊢
   rw [zxJ (b:=b) (base:=base) (a:=a) (t:=t) rfl rfl (by omega) g2]
   omega
theorem zyP (m:Mes) (b:List UInt8):wt (ths m b)≤b.length:=by
 unfold ths zeU vwR
 split
 ·exact zFv b 0 b rfl (Nat.zero_le _)
 ·simp [wt]
abbrev zhf:=List UInt8×Bool×List Int×List Str×List Msg
def stp (g:Int→List UInt8→Msg) (f:Fld) (a:zhf) (t:Th):zhf:=
 if t.run=true then (a.1,true,(if f.Repeated=true then a.2.2.1 else [])++(zbH f.Kind t.val).1,(if f.Repeated=true then a.2.2.2.1 else []),a.2.2.2.2)
 else if kNum f.Kind=true then (a.1,true,(if f.Repeated=true then a.2.2.1 else [])++[(zuw f.Kind t.val).1],(if f.Repeated=true then a.2.2.2.1 else []),a.2.2.2.2)
 else if f.Kind=17∧f.Repeated=true then (a.1,true,(if f.Repeated=true then a.2.2.1 else []),(if f.Repeated=true then a.2.2.2.1 else []),a.2.2.2.2++[g f.Of t.val])
 else if f.Kind=17 then (a.1++t.val,true,(if f.Repeated=true then a.2.2.1 else []),(if f.Repeated=true then a.2.2.2.1 else []),a.2.2.2.2)
 else (a.1,true,(if f.Repeated=true then a.2.2.1 else []),(if f.Repeated=true then a.2.2.2.1 else [])++[t.val],a.2.2.2.2)
def accF (g:Int→List UInt8→Msg) (f:Fld) (i:Int):zhf→List Th→zhf
 | a,[]=>a
 | a,t::l=>accF g f i (if t.fi=i then stp g f a t else a) l
def wA (a:zhf):Nat:=a.1.length+a.2.2.1.length+a.2.2.2.1.length+a.2.2.2.2.length
def wJ (a:zhf):Nat:=a.1.length+(if a.2.1=true then 1 else 0)
theorem zuE (k:Int) (v:List UInt8):(zbH k v).1.length≤v.length:=by
 unfold zbH
 have:=zzI k v
 split
 ·simp
 ·split
  ·simpa using this
  ·simp
theorem zFj (g:Int→List UInt8→Msg) (f:Fld) (a:zhf) (t:Th):wA (stp g f a t)≤wA a+t.val.length+1∧wJ (stp g f a t)≤wJ a+t.val.length+1:=by
 have h1:(if f.Repeated=true then a.2.2.1 else []).length≤a.2.2.1.length:=by split<;>simp
 have h2:(if f.Repeated=true then a.2.2.2.1 else []).length≤a.2.2.2.1.length:=by split<;>simp
 have h3:=zuE f.Kind t.val
 unfold stp wA wJ
 split
 ·simp only [List.length_append,if_true];omega
 ·split
  ·simp only [List.length_append,List.length_singleton,if_true];omega
  ·split
   ·simp only [List.length_append,List.length_singleton,if_true];omega
   ·split
    ·simp only [List.length_append,if_true];omega
    ·simp only [List.length_append,List.length_singleton,if_true];omega
theorem zBg (g:Int→List UInt8→Msg) (f:Fld) (i:Int):∀(a:zhf) (l:List Th),wA (accF g f i a l)≤wA a+wt l∧wJ (accF g f i a l)≤wJ a+wt l
 | a,[]=>by simp [accF,wt]
 | a,t::l=>by
  have h:=zBg g f i (if t.fi=i then stp g f a t else a) l
  have h2:=zFj g f a t
  rw [accF,wt]
  split at h
  ·rename_i ht;rw [if_pos ht];omega
  ·rename_i ht;rw [if_neg ht];omega
def acc0:zhf:=([],false,[],[],[])
def valO (g:Int→List UInt8→Msg) (f:Fld) (q:zhf):Vlu:=⟨f.Number,q.2.2.1,q.2.2.2.1,if q.2.1=true∧f.Kind=17∧f.Repeated=false then [g f.Of q.1] else q.2.2.2.2⟩
def zCV (g:Int→List UInt8→Msg) (m:Mes) (l:List Th) (o:List Int):List Vlu:=(o.map fun i=>valO g (zaj m i) (accF g (zaj m i) i acc0 l)).filter fun v=>decide (0<zgC v)
def unkO (l:List Th):List Str:=(l.filter fun t=>decide (t.fi<0)).map (·.raw)
def zuj (g:Int→List UInt8→Msg) (m:Mes) (l:List Th):Msg:=⟨zCV g m l (zgF (zjl m) m.Fields.length),unkO l⟩
def ofN (s:List Mes):Nat→Int→List UInt8→Msg
 | 0,_,_=>⟨[],[]⟩
 | n+1,k,b=>zuj (ofN s n) (zY s k) (ths (zY s k) b)
theorem zAO {g g':Int→List UInt8→Msg} {f:Fld} (a:zhf) {t:Th} (h:f.Kind=17→g f.Of t.val=g' f.Of t.val):stp g f a t=stp g' f a t:=by
 unfold stp
 by_cases h17:f.Kind=17
 ·rw [h h17]
 ·rw [if_neg (c:=f.Kind=17∧_) (fun hh=>h17 hh.1),if_neg (c:=f.Kind=17∧_) (fun hh=>h17 hh.1)]
theorem zrK {g g':Int→List UInt8→Msg} {f:Fld} (i:Int):∀(a:zhf) {l:List Th},(f.Kind=17→∀v:List UInt8,v.length+1≤wt l→g f.Of v=g' f.Of v)→accF g f i a l=accF g' f i a l
 | a,[],h=>rfl
 | a,t::l,h=>by
  rw [accF,accF,zAO a (fun h17=>h h17 t.val (by rw [wt];omega))]
  exact zrK i _ (fun h17 v hv=>h h17 v (by rw [wt];omega))
theorem zyV {g g':Int→List UInt8→Msg} {f:Fld} (i:Int) {l:List Th} (h:f.Kind=17→∀v:List UInt8,v.length+1≤wt l→g f.Of v=g' f.Of v):valO g f (accF g f i acc0 l)=valO g' f (accF g' f i acc0 l):=by
 rw [zrK i acc0 h]
 have hw:=(zBg g' f i acc0 l).2
 unfold valO
 by_cases hc:(accF g' f i acc0 l).2.1=true∧f.Kind=17∧f.Repeated=false
 ·rw [if_pos hc,if_pos hc,h hc.2.1 _ (by
   have h0:wJ acc0=0:=rfl
   rw [h0,wJ,if_pos hc.1] at hw
   omega)]
 ·rw [if_neg hc,if_neg hc]
theorem zqK {g g':Int→List UInt8→Msg} {m:Mes} {l:List Th} (h:∀k:Int,∀v:List UInt8,v.length+1≤wt l→g k v=g' k v):zuj g m l=zuj g' m l:=by
 unfold zuj zCV
 congr 2
 exact List.map_congr_left fun i _=>zyV i (fun _ v hv=>h _ v hv)
theorem zsu (s:List Mes):∀(n n':Nat) (k:Int) (b:List UInt8),b.length<n→b.length<n'→ofN s n k b=ofN s n' k b
 | 0,n',k,b,h,_=>by omega
 | n+1,0,k,b,_,h=>by omega
 | n+1,n'+1,k,b,h,h'=>by
  rw [ofN,ofN]
  have hw:=zyP (zY s k) b
  exact zqK fun k v hv=>zsu s n n' k v (by omega) (by omega)
def ofM (s:List Mes) (k:Int) (b:List UInt8):Msg:=ofN s (b.length+1) k b
theorem zEY (s:List Mes) (k:Int) (b:List UInt8):ofM s k b=zuj (ofM s) (zY s k) (ths (zY s k) b):=by
 have hw:=zyP (zY s k) b
 unfold ofM
 rw [ofN]
 exact zqK fun k v hv=>zsu s _ _ _ _ (by omega) (Nat.lt_succ_self _)
theorem zEd (b:List UInt8) (r:Rec) (h:r.At≤r.To) (h0:0≤r.From) (h1:r.From<r.At) (h2:r.To≤b.length):(valB b r).length+1≤b.length:=by
 unfold valB;simp;omega
mutual
/-- How much a meaning is, all together. -/
def wgM:Msg→Nat
 | ⟨vs,u⟩=>1+(u.map fun t=>1+t.length).sum+wgVs vs
def wgVs:List Vlu→Nat
 | []=>0
 | v::l=>wgV v+wgVs l
def wgV:Vlu→Nat
 | ⟨_,w,t,s⟩=>1+w.length+(t.map fun t=>1+t.length).sum+wgMs s
def wgMs:List Msg→Nat
 | []=>0
 | x::l=>wgM x+wgMs l
end
theorem zFr (x:Msg):wgM x=1+(x.Unknown.map fun t=>1+t.length).sum+wgVs x.Values:=by cases x;rw [wgM]
theorem zFs (v:Vlu):wgV v=1+v.Words.length+(v.Texts.map fun t=>1+t.length).sum+wgMs v.Subs:=by cases v;rw [wgV]
def unkR (m:Mes) (u:Str):Bool:=(zeh u 0).2==0&&(zeh u 0).1.To==(u.length:Int)&&decide (fldI m (zeh u 0).1.Number<0)
def zlA (f:Fld) (w:Int):Bool:=kNum f.Kind&&zeo f.Kind w==w
def zkh (f:Fld) (t:Str):Bool:=f.Kind==16|| (f.Kind==15&&zfb t)
def znV (f:Fld) (v:Vlu):Bool:=decide (0<zgC v)&&(decide (zgC v≤1)|| f.Repeated)&&zbN f.Kind
mutual
def zgw (s:List Mes):Msg→Int→Bool
 | ⟨vs,u⟩,k=>decide (0≤k∧k<s.length)&&zhm s vs (zY s k) none&&u.all (unkR (zY s k))
def zhm (s:List Mes):List Vlu→Mes→Option Int→Bool
 | [],_,_=>true
 | v::l,m,p=>decide (0≤fldI m v.Number)&&p.all (fun n=>decide (n<v.Number))&&zka s v (zaj m (fldI m v.Number))&&zhm s l m (some v.Number)
def zka (s:List Mes):Vlu→Fld→Bool
 | ⟨n,w,t,sub⟩,f=>znV f ⟨n,w,t,sub⟩&&w.all (zlA f)&&t.all (zkh f)&&znC s sub f
def znC (s:List Mes):List Msg→Fld→Bool
 | [],_=>true
 | x::l,f=>(f.Kind==17&&zgw s x f.Of)&&znC s l f
end
theorem zqo (s:List Mes) (x:Msg) (k:Int):zgw s x k=(decide (0≤k∧k<s.length)&&zhm s x.Values (zY s k) none&&x.Unknown.all (unkR (zY s k))):=by cases x;rw [zgw]
theorem zwF (s:List Mes) (v:Vlu) (f:Fld):zka s v f=(znV f v&&v.Words.all (zlA f)&&v.Texts.all (zkh f)&&znC s v.Subs f):=by cases v;rw [zka]
theorem zot (s:List Mes) (f:Fld):∀(l:List Msg),znC s l f=l.all fun x=>f.Kind==17&&zgw s x f.Of
 | []=>by rw [znC];rfl
 | x::l=>by rw [znC,zot s f l];rfl
theorem zoG {α:Type} (p:α→Bool) (l:List α) (F:Bool→Int→Option Bool) (h0:∀a,F a (l.length:Int)=some a)
  (hs:∀(a:Bool) (i:Nat) (h:i<l.length),F a (i:Int)=F (a&&p l[i]) ((i+1:Nat):Int)):∀(c i:Nat) (a:Bool),i+c=l.length→F a (i:Int)=some (a&&(l.drop i).all p)
 | 0,i,a,h=>by
  have e:l.drop i=[]:=List.drop_eq_nil_of_le (by omega)
  have hi:i=l.length:=by omega
  rw [e,hi,h0];simp
 | c+1,i,a,h=>by
  have hd:l.drop i=l[i]::l.drop (i+1):=List.drop_eq_getElem_cons (by omega)
  rw [hs a i (by omega),zoG p l F h0 hs c (i+1) _ (by omega),hd,List.all_cons,Bool.and_assoc]
def prv (vs:List Vlu) (i:Nat):Option Int:=if i=0 then none else (vs[i - 1]?).map (·.Number)
theorem zzN {s:List Mes} (hs:zix s):∀(fuel:Nat),(∀(v:Vlu) (f:Fld),szV v<fuel→bdV v→zby fuel s f v=some (zka s v f))∧
  ∀(x:Msg) (k:Int),szM x<fuel→bdM x→zdh fuel s k x=some (zgw s x k)
 | 0=>⟨fun v f h=>by omega,fun x k h=>by omega⟩
 | fuel+1=>by
  obtain ⟨ih1,ih2⟩:=zzN hs fuel
  refine ⟨fun v f hsz hb=>?_,fun x k hsz hb=>?_⟩
  ·obtain ⟨_,⟨b1,b1'⟩,⟨b2,b3⟩,b4,b5⟩:=(zpI v).1 hb
   rw [zoz] at hsz
   show zdK (zby fuel) (zdh fuel) s f v=_
   unfold zdK
   rw [zwF]
   have hg:(zca v>>=fun rv=>if (rv==0)=true then some true else (zca v>>=fun rv2=>if (decide (rv2>1))=true then (if (!f.Repeated)=true then some true else (zbD f.Kind>>=fun rv3=>some (!rv3))) else (zbD f.Kind>>=fun rv4=>some (!rv4))))=some (!znV f v):=by
    rw [zyB ⟨by omega,by omega,by omega⟩,sb,sb,zpg,sb]
    unfold znV
    by_cases h0:zgC v=0
    ·rw [itT (by simp [h0])];simp [h0]
    ·rw [itF (by simp;omega)]
     by_cases h1:zgC v>1
     ·rw [itT (by simp;omega)]
      cases hr:f.Repeated
      ·rw [itT (by rfl)];simp;omega
      ·rw [itF (by rfl)];simp;omega
     ·rw [itF (by simp;omega)];simp;omega
   rw [hg,sb]
   by_cases hm:znV f v=true
   ·rw [itF (by rw [hm];rfl),hm,Bool.true_and]
    have h1:=zoG (zlA f) v.Words (fun a i=>zcx f v a i) (fun a=>by
      refine zkz ?_
      unfold zaY
      rw [itF (by simp)])
     (fun a i hi=>by
      refine zky ?_
      unfold zaY
      have hx:idx v.Words (i:Int)=some v.Words[i]:=zW rfl hi
      rw [itT (by simp;omega),hx,sb,zsE,sb,zxm _ (b1' _ (List.getElem_mem hi)),sb,sb,zB (by omega)]
      unfold zlA
      cases a
      ·rw [itF (by rfl),sb];push_cast;rfl
      ·rw [itT (by rfl)]
       cases kNum f.Kind
       ·rw [itF (by rfl),sb];push_cast;rfl
       ·rw [itT (by rfl),sb];push_cast;rfl) v.Words.length 0 true (Nat.zero_add _)
    have h1':zcx f v true 0=_:=h1
    rw [h1',sb,List.drop_zero,Bool.true_and]
    have h2:=zoG (zkh f) v.Texts (fun a i=>zcy f v a i) (fun a=>by
      refine zkB ?_
      unfold zaZ
      rw [itF (by simp)])
     (fun a i hi=>by
      refine zkA ?_
      unfold zaZ
      have hx:idx v.Texts (i:Int)=some v.Texts[i]:=zW rfl hi
      have hl:=b3 _ (List.getElem_mem hi)
      rw [itT (by simp;omega),hx,sb,zB (by omega)]
      have e:lenO v.Texts[i]=some v.Texts[i]:=by unfold lenO;rw [if_pos (by omega)]
      rw [e,sb,zvJ (by omega),sb]
      unfold zkh
      cases a
      ·rw [itF (by rfl),sb];push_cast;rfl
      ·rw [itT (by rfl)]
       by_cases h16:f.Kind=16
       ·rw [itT (by simpa using h16),sb];simp [h16]
       ·rw [itF (by simpa using h16)]
        by_cases h15:f.Kind=15
        ·rw [itT (by simpa using h15),sb];simp [h15]
        ·rw [itF (by simpa using h15),sb];simp [h15,h16]) v.Texts.length 0 (v.Words.all (zlA f)) (Nat.zero_add _)
    have h2':zcy f v (v.Words.all (zlA f)) 0=_:=h2
    rw [h2',sb,List.drop_zero]
    have h3:=zoG (fun x=>f.Kind==17&&zgw s x f.Of) v.Subs (fun a i=>zcz f (zdh fuel) s v a i) (fun a=>by
      refine zkD ?_
      unfold zba
      rw [itF (by simp)])
     (fun a i hi=>by
      refine zkC ?_
      unfold zba
      have hx:idx v.Subs (i:Int)=some v.Subs[i]:=zW rfl hi
      have hmem:=List.getElem_mem hi
      have s1:=zjz hmem
      rw [itT (by simp;omega),hx,sb,zB (by omega),ih2 _ f.Of (by omega) (zje.1 b5 _ hmem),sb]
      cases a
      ·rw [itF (by rfl),sb];push_cast;rfl
      ·rw [itT (by rfl)]
       by_cases h17:f.Kind=17
       ·rw [itT (by simpa using h17),sb];simp [h17]
       ·rw [itF (by simpa using h17),sb];simp [h17]) v.Subs.length 0 (v.Words.all (zlA f)&&v.Texts.all (zkh f)) (Nat.zero_add _)
    have h3':zcz f (zdh fuel) s v (v.Words.all (zlA f)&&v.Texts.all (zkh f)) 0=_:=h3
    rw [h3',sb,List.drop_zero,zot]
   ·have hm':znV f v=false:=by simpa using hm
    rw [itT (by rw [hm'];rfl),hm'];rfl
  ·obtain ⟨b1,⟨b2,b3⟩,b4⟩:=(zod x).1 hb
   rw [znd] at hsz
   show zdq (zby fuel) (zdh fuel) s k x=_
   unfold zdq
   rw [zqo]
   by_cases hk:0≤k∧k<s.length
   ·rw [itF (by simp;omega),decide_eq_true hk,Bool.true_and]
    obtain ⟨n,rfl⟩:∃n:Nat,k=n:=⟨k.toNat,by omega⟩
    have hn:n<s.length:=by omega
    have hm:idx s (n:Int)=some (zY s n):=by rw [zW rfl hn,zgD hn]
    have hmm:zY s (n:Int)∈s:=by rw [zgD hn];exact List.getElem_mem hn
    have hfew:=hs.few _ hmm
    generalize zY s (n:Int)=m at hm hmm hfew⊢
    have hv:∀(c i:Nat),i+c=x.Values.length→zci (zby fuel) n s x i=some (if zhm s (x.Values.drop i) m (prv x.Values i)=true then .inl () else .inr ()):=by
     intro c
     induction c with
     | zero=>
      intro i hi
      have e:x.Values.drop i=[]:=List.drop_eq_nil_of_le (by omega)
      rw [e,zhm,if_pos rfl]
      refine zgp ?_
      unfold zaG
      rw [itF (by simp;omega)]
     | succ c ih=>
      intro i hi
      have hil:i<x.Values.length:=by omega
      have hd:x.Values.drop i=x.Values[i]::x.Values.drop (i+1):=List.drop_eq_getElem_cons hil
      have hx:idx x.Values (i:Int)=some x.Values[i]:=zW rfl hil
      have hmem:=List.getElem_mem hil
      have s1:=zjA hmem
      have hp1:prv x.Values (i+1)=some (x.Values[i]).Number:=by unfold prv;rw [if_neg (by omega)];simp [hil]
      rw [hd,zhm]
      have hbody:zaG (zby fuel) n s x i=if (decide (0≤fldI m (x.Values[i]).Number)&&(prv x.Values i).all (fun q=>decide (q<(x.Values[i]).Number))&&zka s x.Values[i] (zaj m (fldI m (x.Values[i]).Number)))=true then some (.inl ((i+1:Nat):Int)) else some (.inr (.inr ())):=by
       unfold zaG
       have hw1:IntKind.i64.wrap ((i:Int)+1)=((i+1:Nat):Int):=by rw [zB (by omega)];push_cast;rfl
       rw [itT (by simp;omega),hm,sb,hx,sb,zqP (by omega),sb,hw1]
       rcases zjj m (x.Values[i]).Number with ⟨hf,_⟩| ⟨j,hj,hf,_⟩
       ·rw [hf,itT (by rfl),sb,itT (by rfl),if_neg (by simp)]
       ·have hfj:idx m.Fields (j:Int)=some (zaj m (j:Int)):=by rw [zW rfl hj,zfS hj]
        have hfit:=ih1 x.Values[i] (zaj m (j:Int)) (by omega) (zjf.1 b4 _ hmem)
        rw [hf,itF (by simp)]
        by_cases hi0:i=0
        ·subst hi0
         rw [itF (by simp),sb,hfj,sb,sb,hfit,sb,sb]
         unfold prv
         cases hfv:zka s x.Values[0] (zaj m (j:Int))
         ·rw [itT (by rfl),if_neg (by simp)]
         ·rw [itF (by rfl),if_pos (by simp)]
        ·have hi1:i - 1<x.Values.length:=by omega
         have hxp:idx x.Values (IntKind.i64.wrap ((i:Int) - 1))=some x.Values[i - 1]:=by
          rw [zB (by omega)]
          exact zW (by omega) hi1
         have hpv:prv x.Values i=some (x.Values[i - 1]).Number:=by unfold prv;rw [if_neg hi0];simp [hi1]
         rw [itT (by simp;omega),hxp,sb,sb,hpv]
         by_cases hlt:(x.Values[i - 1]).Number<(x.Values[i]).Number
         ·rw [itF (by simpa using hlt),sb,hfj,sb,sb,hfit,sb,sb]
          cases hfv:zka s x.Values[i] (zaj m (j:Int))
          ·rw [itT (by rfl),if_neg (by simp)]
          ·rw [itF (by rfl),if_pos (by simp [hlt])]
         ·rw [itT (by simpa using hlt),sb,itT (by rfl),if_neg (by simp;omega)]
      generalize (decide (0≤fldI m (x.Values[i]).Number)&&(prv x.Values i).all (fun q=>decide (q<(x.Values[i]).Number))&&zka s x.Values[i] (zaj m (fldI m (x.Values[i]).Number)))=bb at hbody⊢
      cases bb
      ·rw [if_neg (by simp)] at hbody
       rw [zgp hbody,Bool.false_and,if_neg (by simp)]
      ·rw [if_pos rfl] at hbody
       rw [zjS hbody,ih _ (by omega),Bool.true_and,hp1]
    have h1:=hv x.Values.length 0 (Nat.zero_add _)
    have h1':zci (zby fuel) n s x 0=_:=h1
    have hp0:prv x.Values 0=none:=rfl
    rw [List.drop_zero,hp0] at h1'
    rw [h1',sb]
    cases hrv:zhm s x.Values m none
    ·rw [if_neg (by simp)];rfl
    ·rw [if_pos rfl,Bool.true_and]
     simp only
     have hu:∀(c i:Nat),i+c=x.Unknown.length→zcj n s x i=some (if (x.Unknown.drop i).all (unkR m)=true then .inl () else .inr ()):=by
      intro c
      induction c with
      | zero=>
       intro i hi
       have e:x.Unknown.drop i=[]:=List.drop_eq_nil_of_le (by omega)
       rw [e,List.all_nil,if_pos rfl]
       refine zgq ?_
       unfold zaH
       rw [itF (by simp;omega)]
      | succ c ih=>
       intro i hi
       have hil:i<x.Unknown.length:=by omega
       have hd:x.Unknown.drop i=x.Unknown[i]::x.Unknown.drop (i+1):=List.drop_eq_getElem_cons hil
       have hx:idx x.Unknown (i:Int)=some x.Unknown[i]:=zW rfl hil
       have hl:=b3 _ (List.getElem_mem hil)
       have e:lenO x.Unknown[i]=some x.Unknown[i]:=by unfold lenO;rw [if_pos (by omega)]
       have hw1:IntKind.i64.wrap ((i:Int)+1)=((i+1:Nat):Int):=by rw [zB (by omega)];push_cast;rfl
       rw [hd,List.all_cons]
       have hbody:zaH n s x i=if unkR m x.Unknown[i]=true then some (.inl ((i+1:Nat):Int)) else some (.inr (.inr ())):=by
        unfold zaH unkR
        rw [itT (by simp;omega),hx,sb,e,sb,zxo (by omega),sb,hw1]
        generalize zeh x.Unknown[i] 0=r
        by_cases c1:r.2=0
        ·rw [itF (by simpa using c1),sb]
         by_cases c2:r.1.To=(x.Unknown[i]).length
         ·rw [itF (by simpa using c2),hm,sb,zqP (by omega),sb,sb]
          by_cases c3:fldI m r.1.Number<0
          ·rw [itF (by simpa using c3),if_pos (by simp [c1,c2,c3])]
          ·rw [itT (by simpa using c3),if_neg (by simp [c1,c2];omega)]
         ·rw [itT (by simpa using c2),sb,itT (by rfl),if_neg (by simp [c1,c2])]
        ·rw [itT (by simpa using c1),sb,itT (by rfl),if_neg (by simp [c1])]
       cases hun:unkR m x.Unknown[i]
       ·rw [hun,if_neg (by simp)] at hbody
        rw [zgq hbody,Bool.false_and,if_neg (by simp)]
       ·rw [hun,if_pos rfl] at hbody
        rw [zjT hbody,ih _ (by omega),Bool.true_and]
     have h2:=hu x.Unknown.length 0 (Nat.zero_add _)
     have h2':zcj n s x 0=_:=h2
     rw [h2',sb,List.drop_zero]
     cases x.Unknown.all (unkR m)<;>rfl
   ·rw [itT (by simp;omega),decide_eq_false hk];rfl
theorem zvI {s:List Mes} (hs:zix s) {v:Vlu} (f:Fld) {fuel:Nat} (hf:szV v<fuel) (hb:bdV v):zby fuel s f v=some (zka s v f):=(zzN hs fuel).1 v f hf hb
theorem zpM {α:Type} (bytes:Nat) (l:List α) (hl:l.length*bytes≤140737488355328) (F:Int→List α→Option (List α)) (h0:∀a,F (l.length:Int) a=some a)
  (hs:∀(i:Nat) (h:i<l.length) (a:List α),(a.length+1)*bytes≤140737488355328→F (i:Int) a=F ((i+1:Nat):Int) (a++[l[i]])):∀(c i:Nat),i+c=l.length→F (i:Int) (l.take i)=some l
 | 0,i,h=>by
  have hi:i=l.length:=by omega
  rw [hi,h0,List.take_length]
 | c+1,i,h=>by
  have hil:i<l.length:=by omega
  have hb:(i+1)*bytes≤140737488355328:=Nat.le_trans (Nat.mul_le_mul_right _ hil) hl
  rw [hs i hil _ (by rw [List.length_take,Nat.min_eq_left (by omega)];exact hb),List.take_append_getElem hil]
  exact zpM bytes l hl F h0 hs c (i+1) (by omega)
theorem zBu:∀(fuel:Nat),(∀x:Msg,szM x<fuel→bdM x→zer fuel x=some x)∧∀v:Vlu,szV v<fuel→bdV v→zbj fuel v=some v
 | 0=>⟨fun x h=>by omega,fun v h=>by omega⟩
 | fuel+1=>by
  obtain ⟨ih1,ih2⟩:=zBu fuel
  refine ⟨fun x hsz hb=>?_,fun v hsz hb=>?_⟩
  ·obtain ⟨b1,⟨b2,b3⟩,b4⟩:=(zod x).1 hb
   rw [znd] at hsz
   show zex (zer fuel) (zbj fuel) x=_
   unfold zex
   have h:=zpM 80 x.Values (by omega) (fun i a=>zdf (zbj fuel) x i a) (fun a=>by
     refine zlC ?_
     unfold zbo
     rw [itF (by simp)])
    (fun i hi a ha=>by
     have hm:=List.getElem_mem hi
     have s1:=zjA hm
     refine zlB ?_
     unfold zbo
     rw [itT (by simp;omega),zW rfl hi,sb,ih2 _ (by omega) (zjf.1 b4 _ hm),sb,zjd (by rw [List.length_singleton];exact ha),sb,zB (by omega)];push_cast;rfl)
    x.Values.length 0 (Nat.zero_add _)
   have h':zdf (zbj fuel) x 0 []=_:=h
   rw [zjd (by simp;omega),sb,h',sb,List.nil_append]
   cases x;rfl
  ·obtain ⟨_,_,_,b4,b5⟩:=(zpI v).1 hb
   rw [zoz] at hsz
   show zcN (zer fuel) (zbj fuel) v=_
   unfold zcN
   have h:=zpM 48 v.Subs (by omega) (fun i a=>zbO (zer fuel) v i a) (fun a=>by
     refine ziL ?_
     unfold zaA
     rw [itF (by simp)])
    (fun i hi a ha=>by
     have hm:=List.getElem_mem hi
     have s1:=zjz hm
     refine ziK ?_
     unfold zaA
     rw [itT (by simp;omega),zW rfl hi,sb,ih1 _ (by omega) (zje.1 b5 _ hm),sb,zjd (by rw [List.length_singleton];exact ha),sb,zB (by omega)];push_cast;rfl)
    v.Subs.length 0 (Nat.zero_add _)
   have h':zbO (zer fuel) v 0 []=_:=h
   rw [h',sb]
   cases v;rfl
theorem zxd {v:Vlu} {fuel:Nat} (hf:szV v<fuel) (hb:bdV v):zbj fuel v=some v:=(zBu fuel).2 v hf hb
mutual
/-- No list is long. -/
def smM:Msg→Prop
 | ⟨vs,u⟩=>vs.length≤1048576∧(u.length≤1048576∧∀t∈u,t.length≤1048576)∧smVs vs
def smVs:List Vlu→Prop
 | []=>True
 | v::l=>smV v∧smVs l
def smV:Vlu→Prop
 | ⟨n,w,t,s⟩=>w.length≤1048576∧(t.length≤1048576∧∀x∈t,x.length≤1048576)∧s.length≤1048576∧smMs s
def smMs:List Msg→Prop
 | []=>True
 | x::l=>smM x∧smMs l
end
theorem zyJ (x:Msg):smM x↔x.Values.length≤1048576∧(x.Unknown.length≤1048576∧∀t∈x.Unknown,t.length≤1048576)∧smVs x.Values:=by cases x;simp only [smM]
theorem zyK (v:Vlu):smV v↔v.Words.length≤1048576∧(v.Texts.length≤1048576∧∀x∈v.Texts,x.length≤1048576)∧v.Subs.length≤1048576∧smMs v.Subs:=by cases v;simp only [smV]
theorem znc:∀{l:List Vlu},smVs l↔∀v∈l,smV v
 | []=>by simp [smVs]
 | v::l=>by rw [smVs,znc (l:=l)];simp
theorem znb:∀{l:List Msg},smMs l↔∀v∈l,smM v
 | []=>by simp [smMs]
 | v::l=>by rw [smMs,znb (l:=l)];simp
theorem zqs (l:List Str) (F:Int→Int→Option Int) (h0:∀n,F n (l.length:Int)=some n)
  (hs:∀(i:Nat) (h:i<l.length) (n:Int),F n (i:Int)=F (IntKind.i64.wrap (IntKind.i64.wrap (n+1)+(l[i].length:Int))) ((i+1:Nat):Int)):∀(c i:Nat) (n:Int),i+c=l.length→
  ∃r,F n (i:Int)=some r∧((∀t∈l,t.length≤1048576)→0≤n→n+1048577*c≤4611686018427387904→r=n+(((l.drop i).map fun t=>1+t.length).sum:Nat)∧r≤n+1048577*c)
 | 0,i,n,h=>by
  have hi:i=l.length:=by omega
  refine ⟨n,by rw [hi,h0],fun _ _ _=>?_⟩
  rw [hi,List.drop_length];simp
 | c+1,i,n,h=>by
  have hil:i<l.length:=by omega
  obtain ⟨r,hr,hw⟩:=zqs l F h0 hs c (i+1) (IntKind.i64.wrap (IntKind.i64.wrap (n+1)+(l[i].length:Int))) (by omega)
  refine ⟨r,by rw [hs i hil,hr],fun ht hn hc=>?_⟩
  have:=ht _ (List.getElem_mem hil)
  have e:IntKind.i64.wrap (IntKind.i64.wrap (n+1)+(l[i].length:Int))=n+1+(l[i].length:Int):=by
   rw [zB (x:=n+1) (by omega),zB (by omega)]
  rw [e] at hw
  have hd:l.drop i=l[i]::l.drop (i+1):=List.drop_eq_getElem_cons hil
  obtain ⟨w1,w2⟩:=hw ht (by omega) (by omega)
  rw [hd,List.map_cons,List.sum_cons]
  push_cast at w1⊢
  omega
theorem zpT {α:Type} (l:List α) (g:α→Int) (F:Int→Int→Option (Int⊕Unit)) (h0:∀n,F n (l.length:Int)=some (.inl n))
  (hs:∀(i:Nat) (h:i<l.length) (n:Int),F n (i:Int)=if IntKind.i64.wrap (n+g l[i])≥5000 then some (.inr ()) else F (IntKind.i64.wrap (n+g l[i])) ((i+1:Nat):Int)):∀(c i:Nat) (n:Int),i+c=l.length→
  ∃q,F n (i:Int)=some q∧((∀a∈l,0≤g a∧g a≤4398046511104)→0≤n→n≤4398046511104→∀u,q= .inl u→u=n+((l.drop i).map g).sum∧0≤u∧(u≤n∨u<5000)∧∀a∈l.drop i,g a<5000)
 | 0,i,n,h=>by
  have hi:i=l.length:=by omega
  refine ⟨.inl n,by rw [hi,h0],fun _ _ _ u hu=>?_⟩
  cases hu
  rw [hi,List.drop_length];simp
  omega
 | c+1,i,n,h=>by
  have hil:i<l.length:=by omega
  have hd:l.drop i=l[i]::l.drop (i+1):=List.drop_eq_getElem_cons hil
  rw [hs i hil]
  by_cases h5:IntKind.i64.wrap (n+g l[i])≥5000
  ·exact ⟨.inr (),by rw [if_pos h5],fun _ _ _ u hu=>by cases hu⟩
  ·obtain ⟨q,hq,hw⟩:=zpT l g F h0 hs c (i+1) (IntKind.i64.wrap (n+g l[i])) (by omega)
   refine ⟨q,by rw [if_neg h5,hq],fun hg hn hnb u hu=>?_⟩
   have hgi:=hg _ (List.getElem_mem hil)
   have e:IntKind.i64.wrap (n+g l[i])=n+g l[i]:=by rw [zB (by omega)]
   rw [e] at hw h5
   obtain ⟨w1,w2,w3,w4⟩:=hw hg (by omega) (by omega) u hu
   rw [hd,List.map_cons,List.sum_cons]
   refine ⟨by omega,w2,by omega,fun a ha=>?_⟩
   rcases List.mem_cons.1 ha with rfl| ha
   ·omega
   ·exact w4 a ha
theorem zCA:∀(fuel:Nat),(∀(x:Msg) (d:Int),szM x<fuel→bdM x→ -1≤d→d≤1048576→∃r,zbM fuel x d=some r∧(smM x→0≤r∧r≤4398046511104∧(r<5000→r=wgM x∧(dM x:Int)≤d)))∧
  ∀(v:Vlu) (d:Int),szV v<fuel→bdV v→0≤d→d≤1048576→∃r,zax fuel v d=some r∧(smV v→0≤r∧r≤4398046511104∧(r<5000→r=wgV v∧(dV v:Int)≤d))
 | 0=>⟨fun x d h=>by omega,fun v d h=>by omega⟩
 | fuel+1=>by
  obtain ⟨ih1,ih2⟩:=zCA fuel
  refine ⟨fun x d hsz hb hd hd2=>?_,fun v d hsz hb hd hd2=>?_⟩
  ·obtain ⟨b1,⟨b2,b3⟩,b4⟩:=(zod x).1 hb
   rw [znd] at hsz
   show∃r,zdI (zbM fuel) (zax fuel) x d=some r∧_
   unfold zdI
   by_cases hneg:d<0
   ·exact ⟨5000,by rw [itT (by simpa using hneg)],fun _=>⟨by omega,by omega,fun h=>by omega⟩⟩
   rw [itF (by simpa using hneg)]
   obtain ⟨n,hn,hnw⟩:=zqs x.Unknown (fun n i=>zcr x n i) (fun n=>by
     refine zkn ?_
     unfold zaU
     rw [itF (by simp)])
    (fun i hi n=>by
     refine zkm ?_
     unfold zaU
     have hw1:IntKind.i64.wrap ((i:Int)+1)=((i+1:Nat):Int):=by rw [zB (by omega)];push_cast;rfl
     rw [itT (by simp;omega),zW rfl hi,sb,hw1]) x.Unknown.length 0 1 (Nat.zero_add _)
   have hn':zcr x 1 0=some n:=hn
   have hgg:∀v∈x.Values,∃r,zax fuel v d=some r∧(smV v→0≤r∧r≤4398046511104∧(r<5000→r=wgV v∧(dV v:Int)≤d)):=fun v hv=>by
    have:=zjA hv
    exact ih2 v d (by omega) (zjf.1 b4 _ hv) (by omega) hd2
   obtain ⟨q,hq,hqw⟩:=zpT x.Values (fun v=>(zax fuel v d).getD 0) (fun n i=>zcs d (zax fuel) x n i) (fun n=>by
     refine zgy ?_
     unfold zaJ
     rw [itF (by simp)])
    (fun i hi n=>by
     obtain ⟨r,hr,_⟩:=hgg _ (List.getElem_mem hi)
     have hw1:IntKind.i64.wrap ((i:Int)+1)=((i+1:Nat):Int):=by rw [zB (by omega)];push_cast;rfl
     simp only [hr,Option.getD_some]
     split
     ·rename_i h5
      refine zgy ?_
      unfold zaJ
      rw [itT (by simp;omega),zW rfl hi,sb,hr,sb,itT (by simpa using h5)]
     ·rename_i h5
      refine zko ?_
      unfold zaJ
      rw [itT (by simp;omega),zW rfl hi,sb,hr,sb,itF (by simpa using h5),hw1]) x.Values.length 0 n (Nat.zero_add _)
   have hq':zcs d (zax fuel) x n 0=some q:=hq
   rw [hn',sb,hq',sb]
   cases q with
   | inr u=>exact ⟨5000,rfl,fun _=>⟨by omega,by omega,fun h=>by omega⟩⟩
   | inl u=>
    refine ⟨u,rfl,fun hsm=>?_⟩
    obtain ⟨s1,⟨s2,s3⟩,s4⟩:=(zyJ x).1 hsm
    obtain ⟨n1,n2⟩:=hnw s3 (by omega) (by omega)
    rw [List.drop_zero] at n1
    obtain ⟨u1,u2,u3,u4⟩:=hqw (fun v hv=>by
     obtain ⟨r,hr,hrw⟩:=hgg v hv
     have:=hrw (znc.1 s4 v hv)
     simp only [hr,Option.getD_some]
     exact ⟨this.1,this.2.1⟩) (by omega) (by omega) u rfl
    rw [List.drop_zero] at u1 u4
    refine ⟨u2,by omega,fun _=>?_⟩
    have hall:∀l:List Vlu,(∀v∈l,v∈x.Values)→(l.map fun v=>(zax fuel v d).getD 0).sum=(wgVs l:Int)∧(dVs l:Int)≤d:=by
     intro l
     induction l with
     | nil=>intro _;simp [wgVs,dVs];omega
     | cons v l ih=>
      intro hl
      have hv:=hl v List.mem_cons_self
      obtain ⟨r,hr,hrw⟩:=hgg v hv
      obtain ⟨_,_,hr3⟩:=hrw (znc.1 s4 v hv)
      have h5:=u4 v hv
      simp only [hr,Option.getD_some] at h5
      obtain ⟨e1,e2⟩:=hr3 h5
      obtain ⟨i1,i2⟩:=ih fun w hw=>hl w (List.mem_cons_of_mem _ hw)
      rw [List.map_cons,List.sum_cons,i1,hr,Option.getD_some,wgVs,dVs]
      push_cast
      omega
    obtain ⟨a1,a2⟩:=hall x.Values fun v hv=>hv
    rw [zFr,zBv]
    push_cast
    refine ⟨?_,a2⟩
    push_cast at n1
    omega
  ·obtain ⟨_,⟨b1,_⟩,⟨b2,b3⟩,b4,b5⟩:=(zpI v).1 hb
   rw [zoz] at hsz
   show∃r,zck (zbM fuel) (zax fuel) v d=some r∧_
   unfold zck
   rw [zB (x:=1+(v.Words.length:Int)) (by omega)]
   obtain ⟨n,hn,hnw⟩:=zqs v.Texts (fun n i=>zbB v n i) (fun n=>by
     refine zic ?_
     unfold zau
     rw [itF (by simp)])
    (fun i hi n=>by
     refine zib ?_
     unfold zau
     have hw1:IntKind.i64.wrap ((i:Int)+1)=((i+1:Nat):Int):=by rw [zB (by omega)];push_cast;rfl
     rw [itT (by simp;omega),zW rfl hi,sb,hw1]) v.Texts.length 0 (1+(v.Words.length:Int)) (Nat.zero_add _)
   have hn':zbB v (1+(v.Words.length:Int)) 0=some n:=hn
   have hgg:∀x∈v.Subs,∃r,zbM fuel x (d - 1)=some r∧(smM x→0≤r∧r≤4398046511104∧(r<5000→r=wgM x∧(dM x:Int)≤d - 1)):=fun x hx=>by
    have:=zjz hx
    exact ih1 x (d - 1) (by omega) (zje.1 b5 _ hx) (by omega) (by omega)
   have hd1:IntKind.i64.wrap (d - 1)=d - 1:=by rw [zB (by omega)]
   obtain ⟨q,hq,hqw⟩:=zpT v.Subs (fun x=>(zbM fuel x (d - 1)).getD 0) (fun n i=>zbC d (zbM fuel) v n i) (fun n=>by
     refine zfj ?_
     unfold zah
     rw [itF (by simp)])
    (fun i hi n=>by
     obtain ⟨r,hr,_⟩:=hgg _ (List.getElem_mem hi)
     have hw1:IntKind.i64.wrap ((i:Int)+1)=((i+1:Nat):Int):=by rw [zB (by omega)];push_cast;rfl
     simp only [hr,Option.getD_some]
     split
     ·rename_i h5
      refine zfj ?_
      unfold zah
      rw [itT (by simp;omega),zW rfl hi,sb,hd1,hr,sb,itT (by simpa using h5)]
     ·rename_i h5
      refine zid ?_
      unfold zah
      rw [itT (by simp;omega),zW rfl hi,sb,hd1,hr,sb,itF (by simpa using h5),hw1]) v.Subs.length 0 n (Nat.zero_add _)
   have hq':zbC d (zbM fuel) v n 0=some q:=hq
   rw [hn',sb,hq',sb]
   cases q with
   | inr u=>exact ⟨5000,rfl,fun _=>⟨by omega,by omega,fun h=>by omega⟩⟩
   | inl u=>
    refine ⟨u,rfl,fun hsm=>?_⟩
    obtain ⟨s1,⟨s2,s3⟩,s5,s4⟩:=(zyK v).1 hsm
    obtain ⟨n1,n2⟩:=hnw s3 (by omega) (by omega)
    rw [List.drop_zero] at n1
    obtain ⟨u1,u2,u3,u4⟩:=hqw (fun x hx=>by
     obtain ⟨r,hr,hrw⟩:=hgg x hx
     have:=hrw (znb.1 s4 x hx)
     simp only [hr,Option.getD_some]
     exact ⟨this.1,this.2.1⟩) (by omega) (by omega) u rfl
    rw [List.drop_zero] at u1 u4
    refine ⟨u2,by omega,fun _=>?_⟩
    have hall:∀l:List Msg,(∀x∈l,x∈v.Subs)→(l.map fun x=>(zbM fuel x (d - 1)).getD 0).sum=(wgMs l:Int)∧(dMs l:Int)≤d:=by
     intro l
     induction l with
     | nil=>intro _;simp [wgMs,dMs];omega
     | cons x l ih=>
      intro hl
      have hx:=hl x List.mem_cons_self
      obtain ⟨r,hr,hrw⟩:=hgg x hx
      obtain ⟨_,_,hr3⟩:=hrw (znb.1 s4 x hx)
      have h5:=u4 x hx
      simp only [hr,Option.getD_some] at h5
      obtain ⟨e1,e2⟩:=hr3 h5
      obtain ⟨i1,i2⟩:=ih fun w hw=>hl w (List.mem_cons_of_mem _ hw)
      rw [List.map_cons,List.sum_cons,i1,hr,Option.getD_some,wgMs,dMs]
      push_cast
      omega
    obtain ⟨a1,a2⟩:=hall v.Subs fun v hv=>hv
    rw [zFs,zBw]
    push_cast
    refine ⟨?_,a2⟩
    push_cast at n1
    omega
def zCK (s:List Mes):Nat→zkP
 | 0=>none
 | e+1=>some (zaC s e)
theorem zoi (s:List Mes) (d:Nat) (k:Int) (b:List UInt8):zaC s d k b=zda (zY s k) (zCK s d) b (spl 0 b):=by cases d<;>rfl
theorem zwE (s:List Mes) (d:Nat) (k:Int):zaC s d k []=none:=by rw [zoi,zgk];rfl
def vwG (m:Mes) (r:Rec):Int×Bool:=match vw m r.Number r.Wire with
 | .inl _=>(-1,false)
 | .inr p=>p
def thR (m:Mes) (b:List UInt8) (r:Rec):Th:=⟨(vwG m r).1,(vwG m r).2,valB b r,rawB b r⟩
theorem zCZ {m:Mes}:∀{l:List Rec},(∀r∈l,∃p,vw m r.Number r.Wire= .inr p)→vws m none l=(l.map fun r=>⟨r,(vwG m r).1,(vwG m r).2⟩,none)
 | [],_=>rfl
 | r::l,h=>by
  obtain ⟨p,hp⟩:=h r List.mem_cons_self
  rw [vws,hp,zCZ fun x hx=>h x (List.mem_cons_of_mem _ hx)]
  simp only [List.map_cons,vwG,hp]
theorem zDY {m:Mes} {sub:zkP} {b:List UInt8} {r:Rec} (h:zdG m sub b r=none):∃p,vw m r.Number r.Wire= .inr p:=by
 unfold zdG at h
 cases hv:vw m r.Number r.Wire with
 | inl c=>rw [hv] at h;cases h
 | inr p=>exact ⟨p,rfl⟩
theorem zFn {s:List Mes} {d:Nat} {k:Int} {b:List UInt8} (h:zaC s d k b=none):ths (zY s k) b=(spl 0 b).1.map (thR (zY s k) b):=by
 rw [zoi,zfw] at h
 unfold ths zeU
 rw [h.2,zCZ fun r hr=>zDY (h.1 r hr)]
 unfold vwR
 simp only [List.map_map]
 rfl
structure OkT (s:List Mes) (d:Nat) (m:Mes) (t:Th):Prop where
 fi:t.fi= -1∨0≤t.fi∧t.fi<m.Fields.length
 unk:t.fi<0→unkR m t.raw=true
 run:0≤t.fi→t.run=true→kNum (zaj m t.fi).Kind=true∧(zaj m t.fi).Repeated=true∧(zlT (zaj m t.fi).Kind t.val).2=0
 one:0≤t.fi→t.run=false→zbN (zaj m t.fi).Kind=true∧zgr (zdL (zaj m t.fi).Kind) t.val=true∧((zaj m t.fi).Kind=15→zfb t.val=true)∧((zaj m t.fi).Kind=17→∃e,d=e+1∧zaC s e (zaj m t.fi).Of t.val=none)
theorem zFX {s:List Mes} {d:Nat} {k:Int} {b:List UInt8} (h:zaC s d k b=none):∀t∈ths (zY s k) b,OkT s d (zY s k) t:=by
 intro t ht
 rw [zFn h] at ht
 obtain ⟨r,hr,rfl⟩:=List.mem_map.1 ht
 obtain ⟨n,w,f,a,u,hre,hrec,h1,h2,h3⟩:=zDX b 0 b rfl (Nat.zero_le _) r hr
 rw [zoi,zfw] at h
 have hs:=h.1 r hr
 generalize zY s k=m at hs⊢
 have hraw:rawB b r=(b.drop f).take u:=by
  unfold rawB;rw [hre];simp only [Int.toNat_natCast]
  rw [show f+u - f=u by omega]
 have hval:valB b r=((b.drop f).drop a).take (u - a):=by
  unfold valB;rw [hre];simp only [Int.toNat_natCast]
  rw [List.drop_drop,show f+u - (f+a)=u - a by omega]
 have hfit:=(zyA hrec).1
 have hn:r.Number=n:=by rw [hre]
 have hw:r.Wire=w:=by rw [hre]
 have hrl:((b.drop f).take u).length=u:=by simp;omega
 have hnx:zeh ((b.drop f).take u) 0=(⟨n,w,0,0+(a:Int),0+(u:Int)⟩,0):=by
  unfold zeh
  rw [if_neg (by rw [hrl];omega)]
  simp only [Int.toNat_zero,List.drop_zero,zAD hrec]
 unfold zdG at hs
 rcases zgd m r.Number r.Wire with hv| ⟨hv,hf⟩| ⟨i,run,hv,hfi,hi⟩
 ·rw [hv] at hs;cases hs
 ·have e:vwG m r=(-1,false):=by unfold vwG;rw [hv]
  refine ⟨.inl (by simp only [thR,e]),fun _=>?_,fun hh=>by simp only [thR,e] at hh;omega,fun hh=>by simp only [thR,e] at hh;omega⟩
  simp only [thR,hraw]
  unfold unkR
  rw [hnx,hrl]
  simp only [beq_self_eq_true,Bool.true_and,Int.zero_add]
  rw [←hn,hf];rfl
 ·have e:vwG m r=((i:Int),run):=by unfold vwG;rw [hv]
  rw [hv] at hs
  simp only at hs
  rw [if_neg (by omega)] at hs
  refine ⟨.inr (by simp only [thR,e];omega),fun hh=>by simp only [thR,e] at hh;omega,fun _ hrn=>?_,fun _ hrn=>?_⟩
  ·simp only [thR,e] at hrn⊢
   subst hrn
   obtain ⟨v1,v2,_⟩:=zyY hv
   refine ⟨v1,v2,?_⟩
   unfold zkH at hs
   rw [if_pos rfl] at hs
   by_cases he:(zlT (zaj m i).Kind (valB b r)).2=0
   ·exact he
   ·rw [if_pos he] at hs;cases hs
  ·simp only [thR,e] at hrn⊢
   subst hrn
   have hk:zbN (zaj m i).Kind=true∧zdL (zaj m i).Kind=r.Wire:=by
    unfold vw at hv
    rw [hfi] at hv
    split at hv
    ·cases hv
    ·split at hv
     ·cases hv
     ·split at hv
      ·cases hv
      ·rename_i h4
       cases hr:zbN (zaj m i).Kind with
       | false=>exact absurd (.inl hr) h4
       | true=>exact ⟨rfl,by by_cases hq:zdL (zaj m i).Kind=r.Wire;exact hq;exact absurd (.inr hq) h4⟩
   refine ⟨hk.1,by rw [hk.2,hw,hval];exact hfit,fun h15=>?_,fun h17=>?_⟩
   ·unfold zkH at hs
    rw [if_neg (by simp)] at hs
    cases hr4:zfb (valB b r) with
    | true=>rfl
    | false=>rw [if_pos ⟨h15,hr4⟩] at hs;cases hs
   ·unfold zkH at hs
    rw [if_neg (by simp),if_neg (by omega),if_pos h17] at hs
    cases d with
    | zero=>simp only [zCK] at hs;cases hs
    | succ e=>
     simp only [zCK] at hs
     refine ⟨e,rfl,?_⟩
     cases hg:zaC s e (zaj m i).Of (valB b r) with
     | none=>rfl
     | some q=>rw [hg] at hs;cases hs
structure zGd (s:List Mes) (d:Nat) (f:Fld) (a:zhf):Prop where
 words:∀w∈a.2.2.1,zlA f w=true
 texts:∀t∈a.2.2.2.1,zkh f t=true
 numT:kNum f.Kind=true→a.2.2.2.1=[]
 subs:∀x∈a.2.2.2.2,f.Kind=17∧zgw s x f.Of=true∧1+dM x≤d
 join:f.Kind=17→∀e,d=e+1→zaC s e f.Of a.1=none
 met:a.2.1=true→f.Kind=17→∃e,d=e+1
 one:f.Repeated=false→a.2.2.1.length≤1∧a.2.2.2.1.length≤1∧a.2.2.2.2=[]
theorem zsj (m:Mes) (i:Int):zjl m i=(zaj m i).Number:=rfl
theorem zCl {s:List Mes} (hs:zix s) {m:Mes} (hm:m∈s) {i j:Nat} (hi:i<m.Fields.length) (hj:j<m.Fields.length) (h:m.Fields[i].Number=m.Fields[j].Number):i=j:=by
 rcases Nat.lt_trichotomy i j with hlt| h'| hlt
 ·exact absurd h (hs.nums m hm i j _ _ hlt (List.getElem?_eq_getElem hi) (List.getElem?_eq_getElem hj)).1
 ·exact h'
 ·exact absurd h.symm (hs.nums m hm j i _ _ hlt (List.getElem?_eq_getElem hj) (List.getElem?_eq_getElem hi)).1
theorem zvk {s:List Mes} (hs:zix s) {m:Mes} (hm:m∈s) {i:Int} (h0:0≤i) (hi:i<m.Fields.length):fldI m (zaj m i).Number=i:=by
 obtain ⟨n,rfl⟩:∃n:Nat,i=n:=⟨i.toNat,by omega⟩
 have hn:n<m.Fields.length:=by omega
 rw [zfS hn]
 rcases zjj m m.Fields[n].Number with ⟨_,h⟩| ⟨j,hj,h,hjn,_⟩
 ·exact absurd rfl (h _ (List.getElem_mem hn))
 ·rw [h,zCl hs hm hj hn hjn]
theorem zvR {s:List Mes} (hs:zix s) {m:Mes} (hm:m∈s):(zgF (zjl m) m.Fields.length).Pairwise fun a b=>zjl m a<zjl m b:=by
 refine (zpn (zjl m) m.Fields.length).imp_of_mem fun {a b} ha hb h=>?_
 rcases h with h| ⟨h,hlt⟩
 ·exact h
 ·exfalso
  obtain ⟨a0,a1⟩:=zhP.1 ha
  obtain ⟨b0,b1⟩:=zhP.1 hb
  rw [zsj,zsj] at h
  have:=zvk hs hm a0 a1
  rw [h,zvk hs hm b0 b1] at this
  omega
theorem zEJ {n:Int} (h: -9223372036854775808≤n∧n≤9223372036854775807):(Lit.int .i64 n).wf=true:=by
 simpa [Lit.wf,IntKind.min,IntKind.max,IntKind.bits,IntKind.signed] using h
structure zGc (a:zhf):Prop where
 words:∀w∈a.2.2.1,0≤w∧w≤18446744073709551615
 texts:∀t∈a.2.2.2.1,t.length≤1048576
 subs:∀x∈a.2.2.2.2,bdM x∧smM x
end Go.Proofs.YtcbkcblkecmjnaaGreat
namespace Go.Proofs.YtcbkcblkecmjnaaGreat
open Go
set_option linter.unusedVariables false
def splF:Nat→Nat→List UInt8→List Rec×Option (Nat×Int)
 | 0,_,_=>([],none)
 | n+1,base,l=>match l with
  | []=>([],none)
  | x::r=>match rec5 (x::r) with
   | .inl c=>([],some (base,c))
   | .inr (m,w,a,t)=>(⟨m,w,(base:Int),((base+a:Nat):Int),((base+t:Nat):Int)⟩::(splF n (base+t) ((x::r).drop t)).1,(splF n (base+t) ((x::r).drop t)).2)
theorem zCE (base:Nat) (l:List UInt8):∀n,l.length<n→spl base l=splF n base l:=by
 refine zhr (fun base l=>∀n,l.length<n→spl base l=splF n base l) ?_ ?_ ?_ base l
 ·intro base n hn
  obtain ⟨n,rfl⟩:∃m,n=m+1:=⟨n - 1,by omega⟩
  rw [zgk];rfl
 ·intro base l c hl h _ n hn
  obtain ⟨n,rfl⟩:∃m,n=m+1:=⟨n - 1,by omega⟩
  rw [zgK hl h]
  cases l with
  | nil=>exact absurd rfl hl
  | cons x r=>simp only [splF,h]
 ·intro base l m w a t hl h _ g1 g2 g3 ih n hn
  obtain ⟨n,rfl⟩:∃m,n=m+1:=⟨n - 1,by omega⟩
  rw [zeJ hl h,ih n (by simp;omega)]
  cases l with
  | nil=>exact absurd rfl hl
  | cons x r=>simp only [splF,h]
theorem zvT (l:List UInt8):spl 0 l=splF (l.length+1) 0 l:=zCE 0 l _ (Nat.lt_succ_self _)
theorem zzZ (m:Mes) (b:List UInt8):zeU m b=vwR (vws m (splF (b.length+1) 0 b).2 (splF (b.length+1) 0 b).1):=by unfold zeU;rw [zvT]
theorem zEa (m:Mes) (b:List UInt8):ths m b=(vwR (vws m (splF (b.length+1) 0 b).2 (splF (b.length+1) 0 b).1)).1.map (thOf b):=by unfold ths;rw [zzZ]
def zvf (s:List Mes):Nat→Int→List UInt8→Option (Int×Int)
 | 0,k,b=>zda (zY s k) none b (splF (b.length+1) 0 b)
 | d+1,k,b=>zda (zY s k) (some (zvf s d)) b (splF (b.length+1) 0 b)
theorem zpR (s:List Mes):∀(d:Nat),zaC s d=zvf s d
 | 0=>by funext k b;simp only [zaC,zvf,zvT]
 | d+1=>by funext k b;simp only [zaC,zvf,zvT,zpR s d]
def ofF (s:List Mes):Nat→Int→List UInt8→Msg
 | 0,_,_=>⟨[],[]⟩
 | n+1,k,b=>zuj (ofF s n) (zY s k) ((vwR (vws (zY s k) (splF (b.length+1) 0 b).2 (splF (b.length+1) 0 b).1)).1.map (thOf b))
theorem zCn (s:List Mes):∀(n:Nat),ofN s n=ofF s n
 | 0=>by funext k b;simp only [ofN,ofF]
 | n+1=>by funext k b;simp only [ofN,ofF,zEa,zCn s n]
theorem zzF (s:List Mes) (k:Int) (b:List UInt8):ofM s k b=ofF s (b.length+1) k b:=by unfold ofM;rw [zCn]
end Go.Proofs.YtcbkcblkecmjnaaGreat
namespace Go.Proofs.YtcbkcblkecmjnaaGreat
open Go
set_option linter.unusedVariables false
structure zGe (s:List Mes) (v:Vlu) (f:Fld):Prop where
 many:0<zgC v
 one:f.Repeated=false→zgC v=1
 kind:zbN f.Kind=true
 words:∀w∈v.Words,zlA f w=true
 texts:∀t∈v.Texts,zkh f t=true
 subs:∀x∈v.Subs,f.Kind=17∧zgw s x f.Of=true
end Go.Proofs.YtcbkcblkecmjnaaGreat
namespace Go.Proofs.YtcbkcblkecmjnaaGreat
open Go
set_option linter.unusedVariables false
def zyS (s:List Mes) (root:Int) (b:List UInt8) (d:Int):Msg×Int:=if (zfK s root b d).2≠0 then (⟨[],[]⟩,(zfK s root b d).2) else (ofM s root b,0)
theorem zuT {s:List Mes} {root:Int} {b:List UInt8} {d:Int} (h:(zfK s root b d).2=0):argS s root d=0:=by
 unfold zfK at h
 by_cases h0:argS s root d=0
 ·exact h0
 ·rw [if_pos h0] at h;exact h
end Go.Proofs.YtcbkcblkecmjnaaGreat
namespace Go.Proofs.YtcbkcblkecmjnaaGreat
open Go
set_option linter.unusedVariables false
theorem zzR:∀(fuel:Nat) (x:Msg) (most:Nat),szM x<fuel→bdM x→dM x≤most→most≤1048576→zeT fuel x most=some ((dM x:Nat):Int)
 | 0,x,_,h,_,_,_=>by omega
 | fuel+1,x,most,hs,hb,hd,hm=>by
  obtain ⟨b1,_,b4⟩:=(zod x).1 hb
  rw [znd] at hs
  rw [zBv] at hd⊢
  show zhs (zeT fuel) x most=_
  unfold zhs
  have inner:∀(v:Vlu),v∈x.Values→∀(c i d:Nat),i+c=v.Subs.length→d≤most→zfC most (zeT fuel) v d i=some (.inl ((max d (dMs (v.Subs.drop i)):Nat):Int)):=by
   intro v hv c
   have hsz:=zjA hv
   have hdv:=zuZ hv
   obtain ⟨_,_,_,c1,c2⟩:=(zpI _).1 (zjf.1 b4 _ hv)
   rw [zoz] at hsz
   rw [zBw] at hdv
   induction c with
   | zero=>
    intro i d hi hdm
    have e:v.Subs.drop i=[]:=List.drop_eq_nil_of_le (by omega)
    rw [e,dMs]
    refine zps ?_
    unfold zcI
    rw [itF (by simp;omega),Nat.max_zero]
   | succ c ih=>
    intro i d hi hdm
    have hil:i<v.Subs.length:=by omega
    have hm2:=List.getElem_mem hil
    have s2:=zjz hm2
    have d2:=zzf hm2
    rw [List.drop_eq_getElem_cons hil,dMs]
    have hr:=zzR fuel v.Subs[i] (most - 1) (by omega) (zje.1 c2 _ hm2) (by omega) (by omega)
    have hmost:IntKind.i64.wrap ((most:Int) - 1)=((most - 1:Nat):Int):=by rw [zB (by omega)];omega
    have hw:IntKind.i64.wrap (1+((dM v.Subs[i]:Nat):Int))=1+((dM v.Subs[i]:Nat):Int):=by rw [zB (by omega)]
    have hmax:(if (d:Int)<1+((dM v.Subs[i]:Nat):Int) then 1+((dM v.Subs[i]:Nat):Int) else (d:Int))=((max d (1+dM v.Subs[i]):Nat):Int):=by
     split<;>omega
    refine (zpr (deep3':=((max d (1+dM v.Subs[i]):Nat):Int)) (v3':=((i+1:Nat):Int)) ?_).trans ?_
    ·unfold zcI
     rw [itT (by simp;omega),zW rfl hil,sb,itF (by simp;omega),hmost,hr,sb,hw,hmax,itF (by simp;omega),zB (by omega)]
     push_cast;rfl
    ·rw [ih (i+1) (max d (1+dM v.Subs[i])) (by omega) (by omega)]
     congr 3
     omega
  have outer:∀(c i d:Nat),i+c=x.Values.length→d≤most→zfB most (zeT fuel) x d i=some (.inl ((max d (dVs (x.Values.drop i)):Nat):Int)):=by
   intro c
   induction c with
   | zero=>
    intro i d hi hdm
    have e:x.Values.drop i=[]:=List.drop_eq_nil_of_le (by omega)
    rw [e,dVs]
    refine zpq ?_
    unfold zcH
    rw [itF (by simp;omega),Nat.max_zero]
   | succ c ih=>
    intro i d hi hdm
    have hil:i<x.Values.length:=by omega
    have hmem:=List.getElem_mem hil
    have hdv:=zuZ hmem
    rw [List.drop_eq_getElem_cons hil,dVs]
    have h2:=inner x.Values[i] hmem (x.Values[i]).Subs.length 0 d (Nat.zero_add _) hdm
    rw [List.drop_zero,←zBw] at h2
    have h2':zfC most (zeT fuel) x.Values[i] d 0=_:=h2
    refine (zpp (deep':=((max d (dV x.Values[i]):Nat):Int)) (v':=((i+1:Nat):Int)) ?_).trans ?_
    ·unfold zcH
     rw [itT (by simp;omega),zW rfl hil,sb,h2',sb,zB (by omega)]
     push_cast;rfl
    ·rw [ih (i+1) (max d (dV x.Values[i])) (by omega) (by omega)]
     congr 3
     omega
  have h:=outer x.Values.length 0 0 (Nat.zero_add _) (Nat.zero_le _)
  have h':zfB most (zeT fuel) x 0 0=_:=h
  rw [h',sb,List.drop_zero,Nat.zero_max]
theorem zAR {fuel:Nat} {x:Msg} (hf:szM x<fuel) (hb:bdM x) (hd:dM x≤131072):zjB fuel x=some ((dM x:Nat):Int):=by
 unfold zjB
 have h:=zzR fuel x 131072 hf hb hd (by omega)
 have h':zeT fuel x 131072=_:=h
 rw [h',sb]
theorem zCM {fuel:Nat} {x:Msg} (hf:szM x<fuel) (hb:bdM x) (hd:dM x≤131072):zlt fuel x=some true:=by
 unfold zlt
 rw [zAR hf hb hd,sb]
 congr 1
 simp;omega
section
open Classical
end
end Go.Proofs.YtcbkcblkecmjnaaGreat
namespace Go.Proofs.YtcbkcblkecmjnaaGreat
open Go
theorem zDK:∀a<256,zpz ((a:Nat):Int)=some (if a<128 then (1,(a:Int)) else if a/32=6 then (2,((a%32:Nat):Int)) else if a/16=14 then (3,((a%16:Nat):Int)) else if a/8=30 then (4,((a%8:Nat):Int)) else (0,0)):=by decide+kernel
theorem zvQ (w k:Nat) (h:k≤32):shrI .u32 (w:Int) (k:Int)=((w/2^k:Nat):Int):=zsO (k:= .u32) (a:=w) (b:=k) (by simpa [IntKind.bits] using h)
theorem zrw (w:Nat):zlx (w:Int)=some (if w<128 then 1 else if w<2048 then 2 else if 55296≤w∧w≤57343 then 0 else if w<65536 then 3 else if w≤1114111 then 4 else 0):=by
 unfold zlx
 have e7:shrI .u32 (w:Int) 7=((w/128:Nat):Int):=zvQ w 7 (by omega)
 have e11:shrI .u32 (w:Int) 11=((w/2048:Nat):Int):=zvQ w 11 (by omega)
 have e16:shrI .u32 (w:Int) 16=((w/65536:Nat):Int):=zvQ w 16 (by omega)
 rw [e7,e11,e16]
 by_cases h1:w<128
 ·rw [itT (by simp;omega),if_pos h1]
 ·rw [itF (by simp;omega),if_neg h1]
  by_cases h2:w<2048
  ·rw [itT (by simp;omega),if_pos h2]
  ·rw [itF (by simp;omega),if_neg h2]
   by_cases h3:55296≤w∧w≤57343
   ·rw [itT (by simp;omega),if_pos h3]
   ·rw [itF (by simp;omega),if_neg h3]
    by_cases h4:w<65536
    ·rw [itT (by simp;omega),if_pos h4]
    ·rw [itF (by simp;omega),if_neg h4]
     by_cases h5:w≤1114111
     ·rw [itT (by simp;omega),if_pos h5]
     ·rw [itF (by simp;omega),if_neg h5]
theorem zAo:∀c<256,shrI .u8 ((c:Nat):Int) 6=((c/64:Nat):Int)∧IntKind.u32.wrap (andI .u8 ((c:Nat):Int) 63)=((c%64:Nat):Int):=by decide+kernel
theorem ziX {v:List UInt8} {w i:Nat} (h:i<v.length) (hv:v.length≤1000) (hw:w≤1000000):
  zcc v w i=if cont v[i] then zcc v ((64*w+v[i].toNat%64:Nat):Int) ((i+1:Nat):Int) else some (.inr ()):=by
 have hc:=v[i].toNat_lt
 obtain ⟨e1,e2⟩:=zAo v[i].toNat (by omega)
 have hb:zdw v w i=if cont v[i] then some (.inl (((64*w+v[i].toNat%64:Nat):Int),((i+1:Nat):Int))) else some (.inr (.inr ())):=by
  unfold zdw
  rw [itT (by simp;omega),zW rfl h,sb,e1,e2]
  by_cases hk:cont v[i]=true
  ·rw [if_pos hk]
   unfold cont at hk
   simp only [decide_eq_true_eq] at hk
   rw [itF (by simp;omega),zB (by omega)]
   have e3:shlI .u32 (w:Int) 6=((w*64:Nat):Int):=by
    have:shlI .u32 (w:Int) 6=((w*64%4294967296:Nat):Int):=by simp [shlI,IntKind.bits,zxO]
    rw [this,Nat.mod_eq_of_lt (by omega)]
   rw [e3,zzH rfl (by simp [IntKind.bits];omega) (by simp [IntKind.bits];omega),Nat.or_comm,zxh _ w 6 (by omega)]
   have e4:v[i].toNat%64+w*2^6=64*w+v[i].toNat%64:=by omega
   rw [e4];rfl
  ·rw [if_neg hk]
   unfold cont at hk
   simp only [decide_eq_true_eq] at hk
   rw [itT (by simp;omega)]
 by_cases hk:cont v[i]=true
 ·rw [if_pos hk] at hb⊢;exact zre hb
 ·rw [if_neg hk] at hb⊢;exact zmc hb
theorem zoU {v:List UInt8} {w i:Nat} (h:v.length≤i):zcc v w i=some (.inl (w:Int)):=by
 refine zmc ?_
 unfold zdw
 rw [itF (by simp;omega)]
theorem zFG {w:Nat} {b:UInt8} (hw:w≤100):zcc [b] w 0=if cont b then some (.inl ((64*w+b.toNat%64:Nat):Int)) else some (.inr ()):=by
 have h:=ziX (v:=[b]) (w:=w) (i:=0) (by simp) (by simp) (by omega)
 refine Eq.trans h ?_
 simp only [List.getElem_cons_zero]
 rw [zoU (by simp)]
theorem zFH {w:Nat} {b c:UInt8} (hw:w≤100):zcc [b,c] w 0=if cont b then (if cont c then some (.inl ((64*(64*w+b.toNat%64)+c.toNat%64:Nat):Int)) else some (.inr ())) else some (.inr ()):=by
 have h:=ziX (v:=[b,c]) (w:=w) (i:=0) (by simp) (by simp) (by omega)
 refine Eq.trans h ?_
 rw [ziX (i:=0+1) (by simp) (by simp) (by omega)]
 simp only [List.getElem_cons_zero,List.getElem_cons_succ,Nat.zero_add]
 rw [zoU (by simp)]
theorem zFI {w:Nat} {b c d:UInt8} (hw:w≤100):zcc [b,c,d] w 0=if cont b then (if cont c then (if cont d then some (.inl ((64*(64*(64*w+b.toNat%64)+c.toNat%64)+d.toNat%64:Nat):Int)) else some (.inr ())) else some (.inr ())) else some (.inr ()):=by
 have h:=ziX (v:=[b,c,d]) (w:=w) (i:=0) (by simp) (by simp) (by omega)
 refine Eq.trans h ?_
 rw [ziX (i:=0+1) (by simp) (by simp) (by omega),ziX (i:=0+1+1) (by simp) (by simp) (by omega)]
 simp only [List.getElem_cons_zero,List.getElem_cons_succ,Nat.zero_add]
 rw [zoU (by simp)]
theorem zCm (n:Nat) {l:List UInt8} (h:∀m,m≠n→isN m l=false):nxt l=if isN n l then n else 0:=by
 by_cases hn:isN n l=true
 ·rw [if_pos hn,zEX hn]
 ·rw [if_neg hn]
  by_cases h0:nxt l=0
  ·exact h0
  ·have h1:=zry h0
   by_cases h2:nxt l=n
   ·rw [h2] at h1;exact absurd h1 hn
   ·rw [h _ h2] at h1;cases h1
theorem zld (n:Nat) {a:UInt8} {t:List UInt8} (h:n=1∧a.toNat<128∨n=2∧192≤a.toNat∧a.toNat<224∨n=3∧224≤a.toNat∧a.toNat<240∨n=4∧240≤a.toNat):nxt (a::t)=if isN n (a::t) then n else 0:=by
 refine zCm n fun m hm=>?_
 cases hh:isN m (a::t) with
 | false=>rfl
 | true=>
  obtain ⟨a',t',e,_,g⟩:=zjk hh
  cases e
  omega
theorem zzv (b:List UInt8):zlw b=some ((nxt b:Nat):Int):=by
 cases b with
 | nil=>rfl
 | cons a t=>
  have ha:=a.toNat_lt
  unfold zlw
  have e00:idx (a::t) (0:Int)=some a:=zW (n:=0) rfl (by simp)
  rw [itF (by simp;omega),e00,sb]
  rw [zDK _ (by omega),sb]
  by_cases h1:a.toNat<128
  ·rw [zld 1 (.inl ⟨rfl,h1⟩),if_pos h1]
   simp only
   rw [itF (by simp;omega),zhj (i:=1) (j:=1) (a:=1) (b:=1) rfl rfl (by omega) (by simp),sb]
   have e0:zcc (((a::t).drop 1).take (1 - 1)) (a.toNat:Int) 0=some (.inl (a.toNat:Int)):=zoU (i:=0) (by simp)
   rw [e0,sb]
   simp only
   rw [zrw,sb,if_pos h1,itF (by rfl)]
   simp [isN,is1,h1]
  ·rw [if_neg h1]
   by_cases h2:a.toNat/32=6
   ·rw [zld 2 (.inr (.inl ⟨rfl,by omega,by omega⟩)),if_pos h2]
    simp only
    match t with
    | []=>rw [itT (by simp)];rfl
    | b::t=>
     rw [itF (by simp;omega),zhj (i:=1) (j:=2) (a:=1) (b:=2) rfl rfl (by omega) (by simp),sb]
     have e0:=zFG (w:=a.toNat%32) (b:=b) (by omega)
     have e0':zcc (((a::b::t).drop 1).take (2 - 1)) ((a.toNat%32:Nat):Int) 0=_:=e0
     rw [e0']
     have hb:=b.toNat_lt
     by_cases c1:cont b=true
     ·rw [if_pos c1,sb]
      simp only
      have hn:=zrw (64*(a.toNat%32)+b.toNat%64)
      simp only [isN,is2,c1,and_true,decide_eq_true_eq]
      simp only [cont,decide_eq_true_eq] at c1
      by_cases h:194≤a.toNat
      ·rw [if_neg (by omega),if_pos (by omega)] at hn
       rw [hn,sb,itF (by rfl),if_pos (by omega)];rfl
      ·rw [if_pos (by omega)] at hn
       rw [hn,sb,itT (by rfl),if_neg (by omega)];rfl
     ·rw [if_neg c1,sb]
      simp only
      simp [isN,is2,c1]
   ·rw [if_neg h2]
    by_cases h3:a.toNat/16=14
    ·rw [zld 3 (.inr (.inr (.inl ⟨rfl,by omega,by omega⟩))),if_pos h3]
     simp only
     match t with
     | []=>rw [itT (by simp)];rfl
     | [b]=>rw [itT (by simp)];rfl
     | b::c::t=>
      rw [itF (by simp;omega),zhj (i:=1) (j:=3) (a:=1) (b:=3) rfl rfl (by omega) (by simp),sb]
      have e0:=zFH (w:=a.toNat%16) (b:=b) (c:=c) (by omega)
      have e0':zcc (((a::b::c::t).drop 1).take (3 - 1)) ((a.toNat%16:Nat):Int) 0=_:=e0
      rw [e0']
      have hb:=b.toNat_lt
      have hc:=c.toNat_lt
      by_cases c1:cont b=true
      ·rw [if_pos c1]
       by_cases c2:cont c=true
       ·rw [if_pos c2,sb]
        simp only
        have hn:=zrw (64*(64*(a.toNat%16)+b.toNat%64)+c.toNat%64)
        simp only [isN,is3,c1,c2,true_and,decide_eq_true_eq]
        simp only [cont,decide_eq_true_eq] at c1 c2
        by_cases h:(a.toNat=224→160≤b.toNat)∧(a.toNat=237→b.toNat<160)
        ·rw [if_neg (by omega),if_neg (by omega),if_neg (by omega),if_pos (by omega)] at hn
         rw [hn,sb,itF (by rfl),if_pos (by omega)];rfl
        ·by_cases g:64*(64*(a.toNat%16)+b.toNat%64)+c.toNat%64<2048
         ·by_cases g':64*(64*(a.toNat%16)+b.toNat%64)+c.toNat%64<128
          ·rw [if_pos g'] at hn
           rw [hn,sb,itT (by rfl),if_neg (by omega)];rfl
          ·rw [if_neg g',if_pos g] at hn
           rw [hn,sb,itT (by rfl),if_neg (by omega)];rfl
         ·rw [if_neg (by omega),if_neg g,if_pos (by omega)] at hn
          rw [hn,sb,itT (by rfl),if_neg (by omega)];rfl
       ·rw [if_neg c2,sb]
        simp only
        simp [isN,is3,c2]
      ·rw [if_neg c1,sb]
       simp only
       simp [isN,is3,c1]
    ·rw [if_neg h3]
     by_cases h4:a.toNat/8=30
     ·rw [zld 4 (.inr (.inr (.inr ⟨rfl,by omega⟩))),if_pos h4]
      simp only
      match t with
      | []=>rw [itT (by simp)];rfl
      | [b]=>rw [itT (by simp)];rfl
      | [b,c]=>rw [itT (by simp)];rfl
      | b::c::d::t=>
       rw [itF (by simp;omega),zhj (i:=1) (j:=4) (a:=1) (b:=4) rfl rfl (by omega) (by simp),sb]
       have e0:=zFI (w:=a.toNat%8) (b:=b) (c:=c) (d:=d) (by omega)
       have e0':zcc (((a::b::c::d::t).drop 1).take (4 - 1)) ((a.toNat%8:Nat):Int) 0=_:=e0
       rw [e0']
       have hb:=b.toNat_lt
       have hc:=c.toNat_lt
       have hd:=d.toNat_lt
       by_cases c1:cont b=true
       ·rw [if_pos c1]
        by_cases c2:cont c=true
        ·rw [if_pos c2]
         by_cases c3:cont d=true
         ·rw [if_pos c3,sb]
          simp only
          have hn:=zrw (64*(64*(64*(a.toNat%8)+b.toNat%64)+c.toNat%64)+d.toNat%64)
          simp only [isN,is4,c1,c2,c3,true_and,decide_eq_true_eq]
          simp only [cont,decide_eq_true_eq] at c1 c2 c3
          by_cases h:a.toNat<245∧(a.toNat=240→144≤b.toNat)∧(a.toNat=244→b.toNat<144)
          ·rw [if_neg (by omega),if_neg (by omega),if_neg (by omega),if_neg (by omega),if_pos (by omega)] at hn
           rw [hn,sb,itF (by rfl),if_pos (by omega)];rfl
          ·have hw:¬(65536≤64*(64*(64*(a.toNat%8)+b.toNat%64)+c.toNat%64)+d.toNat%64∧64*(64*(64*(a.toNat%8)+b.toNat%64)+c.toNat%64)+d.toNat%64≤1114111):=by omega
           generalize 64*(64*(64*(a.toNat%8)+b.toNat%64)+c.toNat%64)+d.toNat%64=w at hn hw
           have hx:∃x:Int,zlx w=some x∧x≠4:=⟨_,hn,by (repeat' split)<;>omega⟩
           obtain ⟨x,hx,h4⟩:=hx
           rw [hx,sb,itT (by simp;omega),if_neg (by omega)];rfl
         ·rw [if_neg c3,sb]
          simp only
          simp [isN,is4,c3]
        ·rw [if_neg c2,sb]
         simp only
         simp [isN,is4,c2]
       ·rw [if_neg c1,sb]
        simp only
        simp [isN,is4,c1]
     ·rw [if_neg h4,itT (by rfl)]
      by_cases h5:240≤a.toNat
      ·rw [zld 4 (.inr (.inr (.inr ⟨rfl,h5⟩)))]
       cases hh:isN 4 (a::t) with
       | false=>rfl
       | true=>
        match t,hh with
        | b::c::d::t,hh=>simp only [isN,is4,decide_eq_true_eq] at hh;omega
      ·by_cases h0:nxt (a::t)=0
       ·rw [h0];rfl
       ·obtain ⟨a',t',e,_,g⟩:=zjk (zry h0)
        cases e
        omega
theorem zBb {b:List UInt8} (hb:b.length≤1152921504606846976) (l:List UInt8):∀(a c:Nat),c≤a→a≤b.length→l=b.drop a→
  zgb b a c ((nxt l:Nat):Int)=some (((a+(pre4 l).1:Nat):Int),((c+(pre4 l).2:Nat):Int)):=by
 refine zCs (fun l=>∀(a c:Nat),c≤a→a≤b.length→l=b.drop a→zgb b a c ((nxt l:Nat):Int)=some (((a+(pre4 l).1:Nat):Int),((c+(pre4 l).2:Nat):Int))) ?_ ?_ l
 ·intro l h a c hc ha hl
  rw [h,zAz h]
  refine zrg ?_
  unfold zdV
  rw [itF (by rfl)];rfl
 ·intro l h ih a c hc ha hl
  subst hl
  have h4:=zvD (b.drop a)
  have hle:=zoo (b.drop a)
  simp only [List.length_drop] at hle
  have e1:(b.drop a).drop (nxt (b.drop a))=b.drop (a+nxt (b.drop a)):=by rw [List.drop_drop]
  refine (zrf (atv':=((a+nxt (b.drop a):Nat):Int)) (points':=((c+1:Nat):Int)) (size':=((nxt (b.drop (a+nxt (b.drop a))):Nat):Int)) ?_).trans ?_
  ·unfold zdV
   rw [itT (by simp;omega),zB (by omega),zoI (a:=a+nxt (b.drop a)) (by push_cast;rfl) rfl (by omega),sb,zzv,sb,zB (by omega)];rfl
  ·rw [←e1,ih (a+nxt (b.drop a)) (c+1) (by omega) (by omega) e1,zDO h]
   simp only [Nat.add_assoc,Nat.add_comm 1]
theorem zCS {b:List UInt8} (hb:b.length≤1152921504606846976):znk b=some (((pre4 b).1:Int),((pre4 b).2:Int)):=by
 unfold znk
 rw [zzv,sb]
 have h:=zBb hb b 0 0 (Nat.le_refl _) (Nat.zero_le _) rfl
 simp only [Nat.zero_add] at h
 have h':zgb b 0 0 ((nxt b:Nat):Int)=some (((pre4 b).1:Int),((pre4 b).2:Int)):=h
 rw [h',sb]
theorem zAV {b:List UInt8} (hb:b.length≤1152921504606846976):zlv b=some ((pre4 b).1:Int):=by
 unfold zlv
 rw [zCS hb,sb]
theorem zqA {b:List UInt8} (hb:b.length≤1152921504606846976):zhS b=some (zfb b):=by
 unfold zhS zfb
 rw [zAV hb,sb,zri]
end Go.Proofs.YtcbkcblkecmjnaaGreat
namespace Go.Proofs.YtcbkcblkecmjnaaGreat
open Go
set_option linter.unusedVariables false
def zEW:List Str:=[[],[105,110,116,51,50],[105,110,116,54,52],[117,105,110,116,51,50],[117,105,110,116,54,52],[115,105,110,116,51,50],[115,105,110,116,54,52],[98,111,111,108],[101,110,117,109],[102,105,120,101,100,51,50],[115,102,105,120,101,100,51,50],[102,108,111,97,116],[102,105,120,101,100,54,52],[115,102,105,120,101,100,54,52],[100,111,117,98,108,101],[115,116,114,105,110,103],[98,121,116,101,115],[109,101,115,115,97,103,101]]
def zBQ (k:Int):Str:=(zEW[k.toNat]?).getD []
def kT:List (Int×zw):=[(1,⟨[105,110,116,51,50],0⟩),(2,⟨[105,110,116,54,52],0⟩),(3,⟨[117,105,110,116,51,50],0⟩),(4,⟨[117,105,110,116,54,52],0⟩),(5,⟨[115,105,110,116,51,50],0⟩),(6,⟨[115,105,110,116,54,52],0⟩),(7,⟨[98,111,111,108],0⟩),(8,⟨[101,110,117,109],0⟩),(9,⟨[102,105,120,101,100,51,50],5⟩),(10,⟨[115,102,105,120,101,100,51,50],5⟩),(11,⟨[102,108,111,97,116],5⟩),(12,⟨[102,105,120,101,100,54,52],1⟩),(13,⟨[115,102,105,120,101,100,54,52],1⟩),(14,⟨[100,111,117,98,108,101],1⟩),(15,⟨[115,116,114,105,110,103],2⟩),(16,⟨[98,121,116,101,115],2⟩),(17,⟨[109,101,115,115,97,103,101],2⟩)]
theorem zxa:zjm=some kT:=rfl
theorem zqQ {k:Int} (h:zbN k=true):k=1∨k=2∨k=3∨k=4∨k=5∨k=6∨k=7∨k=8∨k=9∨k=10∨k=11∨k=12∨k=13∨k=14∨k=15∨k=16∨k=17:=by
 have:=of_decide_eq_true h
 omega
theorem zEN {k:Int} (h:zbN k=true):mget kT k=some ⟨zBQ k,zdL k⟩:=by
 rcases zqQ h with rfl| rfl| rfl| rfl| rfl| rfl| rfl| rfl| rfl| rfl| rfl| rfl| rfl| rfl| rfl| rfl| rfl<;>rfl
theorem zDv {e:Int×zw} (h:e∈kT):zbN e.1=true∧e.2=⟨zBQ e.1,zdL e.1⟩:=by
 have:kT.all (fun e=>zbN e.1&&decide (e.2=⟨zBQ e.1,zdL e.1⟩))=true:=by decide
 have h1:=List.all_eq_true.1 this e h
 simp only [Bool.and_eq_true,decide_eq_true_eq] at h1
 exact h1
theorem zDw {k:Int} (h:zbN k=false):mget kT k=none:=by
 cases hg:mget kT k with
 | none=>rfl
 | some x=>
  have mem:∀{m:List (Int×zw)} {x:zw},mget m k=some x→(k,x)∈m:=fun {m x} hg=>by
   induction m with
   | nil=>cases hg
   | cons p m ih=>
    rw [mget] at hg
    split at hg
    ·rename_i e;cases hg;rw [e];exact List.mem_cons_self
    ·exact List.mem_cons_of_mem _ (ih hg)
  have h1:=(zDv (mem hg)).1
  simp only at h1
  rw [h] at h1
  cases h1
theorem zxc (k:Int):ziW k=some (if zbN k then (zdL k,0) else (0,2)):=by
 unfold ziW
 rw [zxa,sb]
 cases h:zbN k with
 | true=>rw [zEN h];rfl
 | false=>rw [zDw h];rfl
theorem zsk (k:Int):zgT k=some (kNum k):=by
 unfold zgT
 rw [zxc,sb]
 cases h:zbN k with
 | true=>
  rcases zqQ h with rfl| rfl| rfl| rfl| rfl| rfl| rfl| rfl| rfl| rfl| rfl| rfl| rfl| rfl| rfl| rfl| rfl<;>rfl
 | false=>
  have h1:=of_decide_eq_false h
  have:kNum k=false:=decide_eq_false (by omega)
  rw [this]
  rfl
theorem zDy:kT.map Prod.fst=[1,2,3,4,5,6,7,8,9,10,11,12,13,14,15,16,17]:=rfl
theorem zDx:zmL=some [1,2,3,4,5,6,7,8,9,10,11,12,13,14,15,16,17]:=by
 have e:zoQ kT=some [1,2,3,4,5,6,7,8,9,10,11,12,13,14,15,16,17]:=by
  unfold zoQ
  rw [if_pos ⟨by decide,by decide⟩,zDy,List.mergeSort_of_pairwise (by decide)]
 unfold zmL
 rw [zxa,sb,e,sb]
theorem zla (k:Int) {w:Int} (h:0≤w∧w≤18446744073709551615):zgL k w=some (if kNum k then (zeo k w,0) else (0,2)):=by
 have hs:=zyI w
 have hc:=zwr k h
 unfold zgL
 by_cases h1:k=1∨k=8
 ·have e:(if (k==1)=true then some (k==1) else some (k==8))=some true:=by rcases h1 with rfl| rfl<;>rfl
  have hn:kNum k=true:=decide_eq_true (by omega)
  rw [e,sb,itT rfl,zAL,sb,zBc (by omega),sb,hn]
  unfold zeo
  rw [if_pos h1]
  rfl
 ·have e:(if (k==1)=true then some (k==1) else some (k==8))=some false:=by rw [itF (by simp;omega)];simp;omega
  rw [e,sb,itF rfl]
  by_cases h2:k=3∨k=5∨k=9∨k=10∨k=11
  ·have e2:(if (k==3)=true then some (k==3) else if (k==5)=true then some (k==5) else if (k==9)=true then some (k==9) else if (k==10)=true then some (k==10) else some (k==11))=some true:=by
    rcases h2 with rfl| rfl| rfl| rfl| rfl<;>rfl
   have hn:kNum k=true:=decide_eq_true (by omega)
   have hw:IntKind.u64.wrap (w%4294967296)=w%4294967296:=by rw [wrap_u64];omega
   rw [e2,sb,itT rfl,zxf,sb,hn,hw]
   unfold zeo
   rw [if_neg h1,if_pos h2]
   rfl
  ·have e2:(if (k==3)=true then some (k==3) else if (k==5)=true then some (k==5) else if (k==9)=true then some (k==9) else if (k==10)=true then some (k==10) else some (k==11))=some false:=by
    rw [itF (by simp;omega),itF (by simp;omega),itF (by simp;omega),itF (by simp;omega)];simp;omega
   rw [e2,sb,itF rfl]
   by_cases h7:k=7
   ·have hn:kNum k=true:=decide_eq_true (by omega)
    rw [itT (by simpa using h7),hn]
    unfold zlH zeo
    rw [sb,if_neg h1,if_neg h2,if_pos h7]
    by_cases h0:0<w
    ·rw [if_pos h0]
     by_cases h10:1<w
     ·rw [if_pos h10];rfl
     ·rw [if_neg h10,show w=1 by omega];rfl
    ·rw [if_neg h0,if_neg (by omega),show w=0 by omega];rfl
   ·rw [itF (by simpa using h7)]
    by_cases hn:kNum k=true
    ·have hk:=of_decide_eq_true hn
     have e3:(if (k==2)=true then some (k==2) else if (k==4)=true then some (k==4) else if (k==6)=true then some (k==6) else if (k==12)=true then some (k==12) else if (k==13)=true then some (k==13) else some (k==14))=some true:=by
      have:k=2∨k=4∨k=6∨k=12∨k=13∨k=14:=by omega
      rcases this with rfl| rfl| rfl| rfl| rfl| rfl<;>rfl
     rw [e3,sb,itT rfl,hn]
     unfold zeo
     rw [if_neg h1,if_neg h2,if_neg h7]
     rfl
    ·have hn:kNum k=false:=by simpa using hn
     have hk:=of_decide_eq_false hn
     have e3:(if (k==2)=true then some (k==2) else if (k==4)=true then some (k==4) else if (k==6)=true then some (k==6) else if (k==12)=true then some (k==12) else if (k==13)=true then some (k==13) else some (k==14))=some false:=by
      rw [itF (by simp;omega),itF (by simp;omega),itF (by simp;omega),itF (by simp;omega),itF (by simp;omega)];simp;omega
     rw [e3,sb,itF rfl,hn]
     rfl
end Go.Proofs.YtcbkcblkecmjnaaGreat
namespace Go.Proofs.YtcbkcblkecmjnaaGreat
open Go
set_option linter.unusedVariables false
def lt7 (c:UInt8):Bool:=decide (97≤c.toNat∧c.toNat≤122∨65≤c.toNat∧c.toNat≤90∨c.toNat=95)
def dg7 (c:UInt8):Bool:=decide (48≤c.toNat∧c.toNat≤57)
theorem zsg (c:UInt8):zfc (c.toNat:Int)=some (dg7 c):=by
 unfold zfc dg7
 congr 1
 rw [Bool.eq_iff_iff]
 simp
 omega
theorem zwP (c:UInt8):zfs (c.toNat:Int)=some (lt7 c):=by
 unfold zfs lt7
 congr 1
 by_cases h1:(c.toNat:Int)≥97<;>by_cases h2:(c.toNat:Int)≥65<;>simp only [h1,h2,decide_true,decide_false,if_true,if_false,Bool.false_eq_true]<;>rw [Bool.eq_iff_iff]<;>simp<;>omega
theorem zwQ (s:List UInt8) (hs:s.length≤1152921504606846976):∀(l:List UInt8) (i:Nat),s.drop i=l→zdW s i=some (if (l.all fun c=>lt7 c|| dg7 c)=true then .inl () else .inr ()):=by
 intro l
 induction l with
 | nil=>
  intro i hd
  have:=zgR hd
  refine zin ?_
  unfold zbu
  rw [itF (by simp;omega)]
  rfl
 | cons c l ih=>
  intro i hd
  obtain ⟨hi,hc,hd'⟩:=zfR hd
  have hb:zbu s i=if (lt7 c|| dg7 c)=true then some (.inl ((i+1:Nat):Int)) else some (.inr (.inr ())):=by
   unfold zbu
   rw [itT (by simp;omega),zW rfl hi,sb,hc,zwP,sb,sb,zsg,zB (by omega)]
   cases lt7 c<;>cases dg7 c<;>rfl
  rw [List.all_cons]
  cases hk:(lt7 c|| dg7 c) with
  | false=>
   rw [hk] at hb
   rw [zin hb]
   rfl
  | true=>
   rw [hk] at hb
   rw [zmZ hb,ih _ hd',Bool.true_and]
theorem zzD:∀(l:List UInt8) (i:Nat),0<i→nmA i l=l.all fun c=>lt7 c|| dg7 c
 | [],_,_=>rfl
 | c::l,i,h=>by
  rw [nmA,zzD l (i+1) (by omega),List.all_cons]
  congr 1
  unfold nmc lt7 dg7
  rw [Bool.eq_iff_iff]
  simp
  omega
theorem zud {s:List UInt8} (hs:s.length≤1152921504606846976):zfA s=some (zeq s):=by
 unfold zfA zeq
 have hl:=zwQ s hs s 0 rfl
 have hl':zdW s 0=_:=hl
 cases s with
 | nil=>rfl
 | cons c l=>
  rw [itF (by simp)]
  by_cases h60:((c::l).length:Int)>60
  ·rw [itT (by simpa using h60),sb,itT rfl]
   have:decide (1≤(c::l).length∧(c::l).length≤60)=false:=by simp only [decide_eq_false_iff_not];omega
   rw [this,Bool.and_false]
  ·have hd:decide (1≤(c::l).length∧(c::l).length≤60)=true:=by simp only [decide_eq_true_eq];refine ⟨by simp,by omega⟩
   have hc:idx (c::l) 0=some c:=by simp [idx]
   rw [itF (by simpa using h60),hc,sb,zsg,sb,sb,hd,Bool.and_true,hl',sb]
   have e:nmA 0 (c::l)=(lt7 c&&l.all fun c=>lt7 c|| dg7 c):=by
    rw [nmA,zzD l 1 (by omega)]
    congr 1
    unfold nmc lt7
    rw [Bool.eq_iff_iff]
    simp
    omega
   have hx:lt7 c=true→dg7 c=false:=by
    unfold lt7 dg7
    simp only [decide_eq_true_eq,decide_eq_false_iff_not]
    omega
   rw [e,List.all_cons]
   cases h1:lt7 c<;>cases h2:dg7 c<;>first| (rw [hx h1] at h2;cases h2;done)| skip
   ·rfl
   ·rfl
   ·cases l.all fun c=>lt7 c|| dg7 c<;>rfl
theorem zBG {l:List Int} (hl:l.length≤1152921504606846976) (v:Int):zcD l v=some (ziz (fun x=>v==x) l):=by
 unfold zcD
 have h:=znt (fun x=>v==x) l (fun i=>zbv l v i) (zfd (by unfold zaf;rw [itF (by simp)])) (fun i hi=>by
  by_cases hp:(v==l[i])=true
  ·rw [if_pos hp];exact zfd (by unfold zaf;rw [itT (by simp;omega),zW rfl hi,sb,itT hp])
  ·rw [if_neg hp];exact zhO (by unfold zaf;rw [itT (by simp;omega),zW rfl hi,sb,itF (by simpa using hp),zB (by omega)];rfl)) l.length 0 (by omega) (fun j _ h=>by omega)
 have h':zbv l v 0=_:=h
 rw [h',sb]
 unfold ziz
 cases l.findIdx? (fun x=>v==x)<;>rfl
theorem ztt {α:Type} (p:α→Bool) (l:List α):decide (ziz p l≥0)=l.any p:=by
 cases h:l.findIdx? p with
 | none=>
  rw [zjY h]
  rw [List.findIdx?_eq_none_iff] at h
  symm
  rw [List.any_eq_false.2 fun x hx=>by simpa using h x hx]
  rfl
 | some i=>
  rw [zjZ h]
  rw [List.findIdx?_eq_some_iff_getElem] at h
  obtain ⟨hi,hp,_⟩:=h
  symm
  rw [List.any_eq_true.2 ⟨l[i],List.getElem_mem hi,hp⟩]
  simp
theorem zwx {l:List Int} (hl:l.length≤1152921504606846976) (v:Int):zbS l v=some (l.any fun x=>v==x):=by
 unfold zbS
 rw [zBG hl,sb,ztt]
def K17:List Int:=[1,2,3,4,5,6,7,8,9,10,11,12,13,14,15,16,17]
theorem zAm (k:Int):(K17.any fun x=>k==x)=zbN k:=by
 unfold zbN K17
 rw [Bool.eq_iff_iff]
 simp
 omega
def hasN (m:List (zo×Bool)) (i:Int) (n:Str):Bool:=(mget m (⟨i,n⟩:zo)).getD false
def hasU (m:List (zp×Bool)) (i:Int) (n:Int):Bool:=(mget m (⟨i,n⟩:zp)).getD false
theorem zkY (m:List (zo×Bool)) (i j:Int) (n k:Str):hasN (mput m ⟨i,n⟩ true) j k=(decide (j=i∧k=n)|| hasN m j k):=by
 unfold hasN
 rw [zhJ]
 by_cases h:j=i∧k=n
 ·obtain ⟨rfl,rfl⟩:=h;simp
 ·rw [if_neg (fun e=>h (by injection e with e1 e2;exact ⟨e1,e2⟩))];simp [h]
theorem zwL (m:List (zp×Bool)) (i j:Int) (n k:Int):hasU (mput m ⟨i,n⟩ true) j k=(decide (j=i∧k=n)|| hasU m j k):=by
 unfold hasU
 rw [zhJ]
 by_cases h:j=i∧k=n
 ·obtain ⟨rfl,rfl⟩:=h;simp
 ·rw [if_neg (fun e=>h (by injection e with e1 e2;exact ⟨e1,e2⟩))];simp [h]
theorem zwR (n:Int):zft n=some (decide ¬(n<1∨n>536870911∨(19000≤n∧n<20000))):=by
 unfold zft
 congr 1
 rw [Bool.eq_iff_iff]
 simp
 omega
theorem zyu (f:Fld):zfX f=some (f.Repeated&&kNum f.Kind):=by
 unfold zfX
 rw [zsk]
 cases f.Repeated<;>rfl
theorem zCb (n:Int) (K:List Int) (nm:List (zo×Bool)) (nu:List (zp×Bool)) (f:Fld):zek ⟨n,K,nm,nu⟩ f=some (decide ¬(f.Kind=17∧(f.Of<0∨f.Of≥n)∨f.Kind≠17∧f.Of≠0)):=by
 unfold zek
 by_cases h:f.Kind=17
 ·rw [itT (by simpa using h)]
  congr 1
  rw [Bool.eq_iff_iff]
  simp [h]
 ·rw [itF (by simpa using h)]
  congr 1
  rw [Bool.eq_iff_iff]
  simp [h]
theorem zBy {n i:Int} {nm:List (zo×Bool)} {nu:List (zp×Bool)} {prev:List Fld} {f:Fld} (hf:f.Name.length≤1152921504606846976) (hN:hasN nm i f.Name=prev.any fun g=>g.Name==f.Name) (hU:hasU nu i f.Number=prev.any fun g=>g.Number==f.Number):
  zej ⟨n,K17,nm,nu⟩ i f=some (zcl n prev f,if zcl n prev f=0 then (mput nm ⟨i,f.Name⟩ true,mput nu ⟨i,f.Number⟩ true) else (nm,nu)):=by
 unfold zej
 rw [zud hf,sb]
 have e1:(mget nm (⟨i,f.Name⟩:zo)).getD false=hasN nm i f.Name:=rfl
 have e2:(mget nu (⟨i,f.Number⟩:zp)).getD false=hasU nu i f.Number:=rfl
 simp only [e1,e2,hN,hU]
 have hz:∀(k:Int) (x y:List (zo×Bool)×List (zp×Bool)),k≠0→(if k=0 then x else y)=y:=fun k x y h=>if_neg h
 by_cases h1:zeq f.Name=false
 ·have hF:zcl n prev f=5:=by unfold zcl;rw [if_pos h1]
  rw [hF,hz 5 _ _ (by decide),itT (by rw [h1];rfl)]
 rw [itF (show (!zeq f.Name)=false by simpa using h1)]
 by_cases h2:(prev.any fun g=>g.Name==f.Name)=true
 ·have hF:zcl n prev f=6:=by unfold zcl;rw [if_neg h1,if_pos h2]
  rw [hF,hz 6 _ _ (by decide),itT h2]
 have h2':(prev.any fun g=>g.Name==f.Name)=false:=eq_false_of_ne_true h2
 rw [itF h2',zwR,sb]
 by_cases h3:f.Number<1∨f.Number>536870911∨(19000≤f.Number∧f.Number<20000)
 ·have hF:zcl n prev f=7:=by unfold zcl;rw [if_neg h1,if_neg h2,if_pos h3]
  rw [hF,hz 7 _ _ (by decide),itT (by rw [decide_eq_false (fun h=>h h3)];rfl)]
 rw [itF (by rw [decide_eq_true h3];rfl)]
 by_cases h4:(prev.any fun g=>g.Number==f.Number)=true
 ·have hF:zcl n prev f=8:=by unfold zcl;rw [if_neg h1,if_neg h2,if_neg h3,if_pos h4]
  rw [hF,hz 8 _ _ (by decide),itT h4]
 have h4':(prev.any fun g=>g.Number==f.Number)=false:=eq_false_of_ne_true h4
 rw [itF h4',zwx (by decide),sb,zAm]
 by_cases h5:zbN f.Kind=false
 ·have hF:zcl n prev f=9:=by unfold zcl;rw [if_neg h1,if_neg h2,if_neg h3,if_neg h4,if_pos h5]
  rw [hF,hz 9 _ _ (by decide),itT (by rw [h5];rfl)]
 rw [itF (show (!zbN f.Kind)=false by simpa using h5),zyu]
 have hg:(if f.Packed=true then (some (f.Repeated&&kNum f.Kind)>>=fun rv4=>some (!rv4)) else some false)=some (decide (f.Packed=true∧¬(f.Repeated=true∧kNum f.Kind=true))):=by
  cases f.Packed<;>cases f.Repeated<;>cases kNum f.Kind<;>rfl
 rw [hg,sb]
 by_cases h6:f.Packed=true∧¬(f.Repeated=true∧kNum f.Kind=true)
 ·have hF:zcl n prev f=10:=by unfold zcl;rw [if_neg h1,if_neg h2,if_neg h3,if_neg h4,if_neg h5,if_pos h6]
  rw [hF,hz 10 _ _ (by decide),itT (decide_eq_true h6)]
 rw [itF (decide_eq_false h6),zCb,sb]
 by_cases h7:f.Kind=17∧(f.Of<0∨f.Of≥n)∨f.Kind≠17∧f.Of≠0
 ·have hF:zcl n prev f=11:=by unfold zcl;rw [if_neg h1,if_neg h2,if_neg h3,if_neg h4,if_neg h5,if_neg h6,if_pos h7]
  rw [hF,hz 11 _ _ (by decide),itT (by rw [decide_eq_false (fun h=>h h7)];rfl)]
 have hF:zcl n prev f=0:=by unfold zcl;rw [if_neg h1,if_neg h2,if_neg h3,if_neg h4,if_neg h5,if_neg h6,if_neg h7]
 rw [hF,if_pos rfl,itF (by rw [decide_eq_true h7];rfl)]
theorem zyv {n:Int} {nm:List (zo×Bool)} {nu:List (zp×Bool)} {prev:List Mes} {m:Mes} (hm:m.Name.length≤1152921504606846976) (hN:hasN nm (-1) m.Name=prev.any fun g=>g.Name==m.Name):
  zdu ⟨n,K17,nm,nu⟩ m=some (if zeq m.Name=false then (2,nm,nu) else if (prev.any fun g=>g.Name==m.Name)=true then (3,nm,nu) else if 200<m.Fields.length then (4,nm,nu) else (0,mput nm ⟨-1,m.Name⟩ true,nu)):=by
 unfold zdu
 rw [zud hm,sb]
 have e1:(mget nm (⟨(-1),m.Name⟩:zo)).getD false=hasN nm (-1) m.Name:=rfl
 simp only [e1,hN]
 by_cases h1:zeq m.Name=false
 ·rw [if_pos h1,itT (show (!zeq m.Name)=true by rw [h1];rfl)]
 rw [if_neg h1,itF (show (!zeq m.Name)=false by simpa using h1)]
 by_cases h2:(prev.any fun g=>g.Name==m.Name)=true
 ·rw [if_pos h2,itT h2]
 have h2':(prev.any fun g=>g.Name==m.Name)=false:=eq_false_of_ne_true h2
 rw [if_neg h2,itF h2']
 by_cases h3:200<m.Fields.length
 ·rw [if_pos h3,itT (show decide ((m.Fields.length:Int)>200)=true by simp;omega)]
 rw [if_neg h3,itF (show decide ((m.Fields.length:Int)>200)=false by simp;omega)]
structure Met (nm:List (zo×Bool)) (nu:List (zp×Bool)) (i:Nat) (prev:List Mes) (p:List Fld):Prop where
 mes:∀n,hasN nm (-1) n=prev.any fun g=>g.Name==n
 nam:∀n,hasN nm i n=p.any fun g=>g.Name==n
 num:∀n,hasU nu i n=p.any fun g=>g.Number==n
 later:∀(j:Nat) n,i<j→hasN nm j n=false
 laterU:∀(j:Nat) n,i<j→hasU nu j n=false
theorem Met.step {nm:List (zo×Bool)} {nu:List (zp×Bool)} {i:Nat} {prev:List Mes} {p:List Fld} (h:Met nm nu i prev p) (f:Fld):Met (mput nm ⟨i,f.Name⟩ true) (mput nu ⟨i,f.Number⟩ true) i prev (p++[f]):=by
 refine ⟨fun n=>?_,fun n=>?_,fun n=>?_,fun j n hj=>?_,fun j n hj=>?_⟩
 ·rw [zkY,h.mes,decide_eq_false (by omega),Bool.false_or]
 ·rw [zkY,h.nam,List.any_append,Bool.or_comm]
  congr 1
  simp only [List.any_cons,List.any_nil,Bool.or_false]
  rw [Bool.eq_iff_iff];simp;exact eq_comm
 ·rw [zwL,h.num,List.any_append,Bool.or_comm]
  congr 1
  simp only [List.any_cons,List.any_nil,Bool.or_false]
  rw [Bool.eq_iff_iff];simp;exact eq_comm
 ·rw [zkY,h.later j n hj,decide_eq_false (by omega)];rfl
 ·rw [zwL,h.laterU j n hj,decide_eq_false (by omega)];rfl
theorem zBr {s:List Mes} {i:Nat} {prev:List Mes} {m:Mes} (hb:m.Fields.length≤140737488351232) (hn:∀f∈m.Fields,f.Name.length≤140737488351232):
  ∀(l:List Fld) (k:Nat) (nm:List (zo×Bool)) (nu:List (zp×Bool)),m.Fields.drop k=l→k≤m.Fields.length→Met nm nu i prev (m.Fields.take k)→
   (∃j w,msgF s.length (m.Fields.take k) l=some (j,w)∧zcY K17 s i m k nm nu=some (.inr ((j:Int),w)))∨
   (msgF s.length (m.Fields.take k) l=none∧∃nm' nu',zcY K17 s i m k nm nu=some (.inl (nm',nu'))∧Met nm' nu' i prev m.Fields):=by
 intro l
 induction l with
 | nil=>
  intro k nm nu hd hk hM
  have:=zgR hd
  have hkl:k=m.Fields.length:=by omega
  subst hkl
  refine .inr ⟨rfl,nm,nu,ziG ?_,by simpa using hM⟩
  unfold zbt
  rw [itF (by simp)]
 | cons f l ih=>
  intro k nm nu hd hk hM
  obtain ⟨hi,hc,hd'⟩:=zfR hd
  have hf:=hn f (by rw [←hc];exact List.getElem_mem hi)
  have hfld:=zBy (n:=(s.length:Int)) (i:=(i:Int)) (nm:=nm) (nu:=nu) (prev:=m.Fields.take k) (f:=f) (by omega) (hM.nam _) (hM.num _)
  have htk:m.Fields.take (k+1)=m.Fields.take k++[f]:=by rw [List.take_succ_eq_append_getElem hi,hc]
  have hlen:(m.Fields.take k).length=k:=by simp;omega
  obtain ⟨bd,_⟩:=zrV (s.length:Int) (m.Fields.take k) f
  rw [msgF]
  by_cases h0:zcl s.length (m.Fields.take k) f=0
  ·rw [if_neg (by omega)]
   rw [h0,if_pos rfl] at hfld
   have hstep:zbt K17 s i m k nm nu=some (.inl (((k+1:Nat):Int),mput nm ⟨i,f.Name⟩ true,mput nu ⟨i,f.Number⟩ true)):=by
    unfold zbt
    rw [itT (by simp;omega),zW rfl hi,sb,hc,hfld,sb]
    dsimp only
    rw [itF (show ((0:Int) !=0)=false from rfl),zB (by omega)]
    rfl
   rw [znO hstep,←htk]
   exact ih (k+1) _ _ hd' (by omega) (by rw [htk];exact hM.step f)
  ·rw [if_pos (by omega)]
   rw [if_neg h0] at hfld
   refine .inl ⟨k,_,by rw [hlen],ziG ?_⟩
   unfold zbt
   rw [itT (by simp;omega),zW rfl hi,sb,hc,hfld,sb]
   dsimp only
   rw [itT (show (zcl (s.length:Int) (m.Fields.take k) f !=0)=true by simpa using h0)]
theorem zBq {s:List Mes} (hw:WS s):∀(l:List Mes) (i:Nat) (nm:List (zo×Bool)) (nu:List (zp×Bool)),s.drop i=l→i≤s.length→Met nm nu i (s.take i) []→
  zeu K17 s i nm nu=some (match chkF s.length (s.take i) l with| some (j,k,w)=> .inr ((j:Int),k,w)| none=> .inl ()):=by
 intro l
 induction l with
 | nil=>
  intro i nm nu hd hi hM
  have:=zgR hd
  refine zdN ?_
  unfold zaQ
  rw [itF (by simp;omega)]
  rfl
 | cons m l ih=>
  intro i nm nu hd hi hM
  obtain ⟨hil,hc,hd'⟩:=zfR hd
  obtain ⟨w1,w2⟩:=hw
  obtain ⟨m1,m2,m3⟩:=w2 m (by rw [←hc];exact List.getElem_mem hil)
  have hmes:=zyv (n:=(s.length:Int)) (nm:=nm) (nu:=nu) (prev:=s.take i) (m:=m) (by omega) (hM.mes _)
  have htk:s.take (i+1)=s.take i++[m]:=by rw [List.take_succ_eq_append_getElem hil,hc]
  have hlen:(s.take i).length=i:=by simp;omega
  rw [chkF]
  by_cases h1:zeq m.Name=false
  ·rw [if_pos h1] at hmes⊢
   refine zdN ?_
   unfold zaQ
   rw [itT (by simp;omega),zW rfl hil,sb,hc,hmes,sb]
   dsimp only
   rw [itT (show ((2:Int) !=0)=true from rfl),hlen]
  rw [if_neg h1] at hmes⊢
  by_cases h2:((s.take i).any fun g=>g.Name==m.Name)=true
  ·rw [if_pos h2] at hmes⊢
   refine zdN ?_
   unfold zaQ
   rw [itT (by simp;omega),zW rfl hil,sb,hc,hmes,sb]
   dsimp only
   rw [itT (show ((3:Int) !=0)=true from rfl),hlen]
  rw [if_neg h2] at hmes⊢
  by_cases h3:200<m.Fields.length
  ·rw [if_pos h3] at hmes⊢
   refine zdN ?_
   unfold zaQ
   rw [itT (by simp;omega),zW rfl hil,sb,hc,hmes,sb]
   dsimp only
   rw [itT (show ((4:Int) !=0)=true from rfl),hlen]
  rw [if_neg h3] at hmes⊢
  have hM0:Met (mput nm ⟨-1,m.Name⟩ true) nu i (s.take i++[m]) (m.Fields.take 0):=by
   refine ⟨fun n=>?_,fun n=>?_,fun n=>?_,fun j n hj=>?_,fun j n hj=>hM.laterU j n hj⟩
   ·rw [zkY,hM.mes,List.any_append,Bool.or_comm]
    congr 1
    simp only [List.any_cons,List.any_nil,Bool.or_false]
    rw [Bool.eq_iff_iff];simp;exact eq_comm
   ·rw [zkY,hM.nam,decide_eq_false (by omega)];rfl
   ·rw [hM.num];rfl
   ·rw [zkY,hM.later j n hj,decide_eq_false (by omega)];rfl
  have hl2:=zBr (s:=s) (i:=i) m2 m3 m.Fields 0 _ nu rfl (by omega) hM0
  simp only [List.take_zero] at hl2
  rcases hl2 with ⟨j,w,g1,g2⟩| ⟨g1,nm',nu',g2,g3⟩
  ·rw [g1]
   refine zdN ?_
   unfold zaQ
   have g2':zcY K17 s i m 0 (mput nm ⟨-1,m.Name⟩ true) nu=_:=g2
   rw [itT (by simp;omega),zW rfl hil,sb,hc,hmes,sb]
   dsimp only
   rw [itF (show ((0:Int) !=0)=false from rfl),g2',sb]
   simp only [hlen]
  ·rw [g1]
   have hstep:zaQ K17 s i nm nu=some (.inl (((i+1:Nat):Int),nm',nu')):=by
    unfold zaQ
    have g2':zcY K17 s i m 0 (mput nm ⟨-1,m.Name⟩ true) nu=_:=g2
    rw [itT (by simp;omega),zW rfl hil,sb,hc,hmes,sb]
    dsimp only
    rw [itF (show ((0:Int) !=0)=false from rfl),g2',sb]
    dsimp only
    rw [zB (by omega)]
    rfl
   rw [znN hstep]
   simp only []
   rw [←htk]
   refine ih (i+1) nm' nu' hd' (by omega) ⟨fun n=>?_,fun n=>?_,fun n=>?_,fun j n hj=>g3.later j n (by omega),fun j n hj=>g3.laterU j n (by omega)⟩
   ·rw [htk];exact g3.mes n
   ·rw [g3.later (i+1) n (by omega)];rfl
   ·rw [g3.laterU (i+1) n (by omega)];rfl
theorem zBp {s:List Mes} (hw:WS s):zhq s=some (⟨(zhF s).1,(zhF s).2.1,(zhF s).2.2⟩,if (zhF s).2.2=0 then 0 else 9):=by
 unfold zhq zhF
 by_cases h:s.length=0∨100<s.length
 ·rw [itT (by simp;omega),if_pos h]
  rfl
 ·rw [itF (by simp;omega),if_neg h,zDx,sb]
  have hl:=zBq hw s 0 [] [] rfl (by omega) ⟨fun n=>rfl,fun n=>rfl,fun n=>rfl,fun j n _=>rfl,fun j n _=>rfl⟩
  simp only [List.take_zero] at hl
  have hl':zeu [1,2,3,4,5,6,7,8,9,10,11,12,13,14,15,16,17] s 0 [] []=_:=hl
  rw [hl',sb]
  cases hc:chkF s.length [] s with
  | none=>rfl
  | some q=>
   obtain ⟨i,k,w⟩:=q
   have:=zzc _ _ _ _ _ _ hc
   simp only
   rw [if_neg (by omega)]
theorem zxu {s:List Mes} (hw:WS s):zgj s=some (zjv s):=by
 unfold zgj zjv
 rw [zBp hw,sb]
 by_cases h:(zhF s).2.2=0<;>simp [h]
end Go.Proofs.YtcbkcblkecmjnaaGreat
namespace Go.Proofs.YtcbkcblkecmjnaaGreat
open Go
set_option linter.unusedVariables false
theorem zqW {k:Int} {b:List UInt8} (h:(zbH k b).2=0):kNum k=true∧(pcs k b).2=0∧(zbH k b).1=(pcs k b).1.map (zlQ k):=by
 unfold zbH at h⊢
 cases hn:kNum k with
 | false=>rw [hn,if_pos rfl] at h;simp at h
 | true=>
  rw [hn,if_neg (by simp)] at h
  rw [if_neg (by simp)]
  by_cases h0:(pcs k b).2=0
  ·rw [if_pos h0];exact ⟨rfl,h0,rfl⟩
  ·rw [if_neg h0] at h;exact absurd h h0
theorem ztj {k:Int} {b:List UInt8} (h:(zbH k b).2≠0):(zbH k b).1=[]∧((zbH k b).2=2∨(zbH k b).2=3∨(zbH k b).2=4):=by
 unfold zbH at h⊢
 by_cases hn:kNum k=false
 ·rw [if_pos hn];simp
 ·rw [if_neg hn] at h⊢
  by_cases h0:(pcs k b).2=0
  ·rw [if_pos h0] at h;exact absurd rfl h
  ·rw [if_neg h0]
   rcases zxk k b with h1| h1| h1
   ·exact absurd h1 h0
   ·rw [h1];simp
   ·rw [h1];simp
end Go.Proofs.YtcbkcblkecmjnaaGreat
namespace Go.Proofs.YtcbkcblkecmjnaaGreat
open Go
set_option linter.unusedVariables false
theorem zBK {α:Type} (x y:α):(if (true:Bool)=false then x else y)=y:=rfl
def wid (k:Int):Nat:=if 12≤k then 8 else if 9≤k then 4 else 0
theorem zuA (k:Int):zgi k=some (if kNum k then ((wid k:Int),0) else (0,2)):=by
 cases hn:kNum k with
 | true=>
  have h:=zkZ.1 hn
  have hk:k=1∨k=2∨k=3∨k=4∨k=5∨k=6∨k=7∨k=8∨k=9∨k=10∨k=11∨k=12∨k=13∨k=14:=by omega
  rcases hk with rfl| rfl| rfl| rfl| rfl| rfl| rfl| rfl| rfl| rfl| rfl| rfl| rfl| rfl<;>rfl
 | false=>
  have h:=of_decide_eq_false hn
  unfold zgi
  have hne:∀c:Int,1≤c→c≤14→(k==c)=false:=fun c h1 h2=>by simp;omega
  simp only [hne 1 (by omega) (by omega),hne 2 (by omega) (by omega),hne 3 (by omega) (by omega),hne 4 (by omega) (by omega),hne 5 (by omega) (by omega),hne 6 (by omega) (by omega),hne 7 (by omega) (by omega),hne 8 (by omega) (by omega),hne 9 (by omega) (by omega),hne 10 (by omega) (by omega),hne 11 (by omega) (by omega),hne 12 (by omega) (by omega),hne 13 (by omega) (by omega),hne 14 (by omega) (by omega)]
  rfl
theorem zAl {k:Int} (hk:kNum k=true):(zdL k=0↔wid k=0)∧(wid k≠0→∀b:List UInt8,zgr (zdL k) b=decide (wid k=b.length))∧(wid k=0∨wid k=4∨wid k=8):=by
 have:=zkZ.1 hk
 unfold zdL wid zgr
 by_cases h1:12≤k
 ·rw [if_neg (by omega),if_pos h1,if_pos h1]
  refine ⟨by simp,fun _ b=>?_,by simp⟩
  rw [if_neg (by omega)]
  simp only [show ((1:Int)=2)=False from by simp,show ((1:Int)=5)=False from by simp,false_or,false_and,or_false,true_and]
  simp [eq_comm]
 ·rw [if_neg (by omega),if_neg h1,if_neg h1]
  by_cases h2:9≤k
  ·rw [if_pos h2,if_pos h2]
   refine ⟨by simp,fun _ b=>?_,by simp⟩
   rw [if_neg (by omega)]
   simp [eq_comm]
  ·rw [if_neg h2,if_neg h2]
   exact ⟨by simp,fun h=>absurd rfl h,by simp⟩
theorem zAP (b:List UInt8):zhp b=some (if zgr 0 b then ((rd b).1,0) else (0,12)):=by
 unfold zhp zgr
 rw [zrE,sb,if_pos rfl]
 by_cases h:(rd b).2.2=0∧(rd b).2.1=(b.length:Int)
 ·rw [itF (by simp [h.1,h.2]),if_pos (by simpa using h)]
 ·rw [itT (by simp;omega),if_neg (by simpa using h)]
theorem zAN (k:Int) (b:List UInt8):zho k b=some (if kNum k=false then (0,2) else if zgr (zdL k) b=false then (0,12) else (rawW k b,0)):=by
 unfold zho
 rw [zuA,sb]
 cases hn:kNum k with
 | false=>rw [if_pos rfl];rfl
 | true=>
  obtain ⟨e0,ef,_⟩:=zAl hn
  simp only [if_true]
  rw [itF (by simp),if_neg (show ¬(true=false) by simp)]
  by_cases h0:wid k=0
  ·have hw:=e0.2 h0
   rw [itT (by simp [h0]),zAP,sb,hw]
   unfold rawW
   cases hf:zgr 0 b with
   | true=>simp [hw]
   | false=>simp
  ·rw [itF (by simpa using h0),ef h0]
   by_cases hl:wid k=b.length
   ·rw [itF (by simp;omega),zEj,sb,if_neg (by simpa using hl)]
    unfold rawW
    rw [if_neg (fun h=>h0 (e0.1 h))]
   ·rw [itT (by simp;omega),if_pos (by simpa using hl)]
theorem zCF (k:Int) (b:List UInt8):zil k b=some (zuw k b):=by
 unfold zil zuw
 rw [zAN,sb]
 cases hn:kNum k with
 | false=>rfl
 | true=>
  simp only [zBK]
  cases hf:zgr (zdL k) b with
  | false=>rfl
  | true=>
   simp only [zBK]
   rw [itF (by rfl),zla k (zDP k),sb,hn,if_pos rfl]
theorem zCG {k w:Int} (h:0≤w∧w≤18446744073709551615):zim k w=some (if kNum k then ((sPut k w).length:Int) else 0):=by
 have hc:=zwr k h
 obtain ⟨c,hcc⟩:∃c:Nat,zeo k w=c:=⟨(zeo k w).toNat,by omega⟩
 unfold zim
 rw [zuA,sb]
 cases hn:kNum k with
 | false=>rfl
 | true=>
  simp only [if_true]
  unfold sPut zyH
  rw [hcc,Int.toNat_natCast]
  unfold wid
  by_cases h1:12≤k
  ·rw [if_pos h1,if_pos h1,itT (by rfl),zgB]
  ·rw [if_neg h1,if_neg h1]
   by_cases h2:9≤k
   ·rw [if_pos h2,if_pos h2,itT (by rfl),zgB]
   ·rw [if_neg h2,if_neg h2,itF (by rfl),zla k h,sb,hn]
    simp only [if_true]
    rw [hcc,zER (by omega),sb,zvd]
end Go.Proofs.YtcbkcblkecmjnaaGreat
namespace Go.Proofs.YtcbkcblkecmjnaaGreat
open Go
theorem ztU {α:Type} {l t:List α} {x:α} {k:Nat} (h:l.drop k=x::t):∃hk:k<l.length,l[k]=x∧l.drop (k+1)=t:=by
 have hk:k<l.length:=by
  rcases Nat.lt_or_ge k l.length with h'| h'
  ·exact h'
  ·rw [List.drop_eq_nil_of_le h'] at h;cases h
 rw [List.drop_eq_getElem_cons hk] at h
 injection h with h1 h2
 exact ⟨hk,h1,h2⟩
theorem zuU (l:List (List UInt8)) (hl:l.length≤1099511627776):∀(t:List (List UInt8)) (k s:Nat),l.drop k=t→s+t.flatten.length≤1099511627776→
  zbd l s k=some ((s+t.flatten.length:Nat):Int):=by
 intro t
 induction t with
 | nil=>
  intro k s hd _
  have hk:l.length≤k:=by have:=congrArg List.length hd;simp at this;omega
  refine zhb ?_
  unfold zac
  rw [itF (by simp;omega)]
  simp
 | cons x t ih=>
  intro k s hd hs
  obtain ⟨hk,hx,hd'⟩:=ztU hd
  simp only [List.flatten_cons,List.length_append] at hs
  refine (zha (size':=((s+x.length:Nat):Int)) (v':=((k+1:Nat):Int)) ?_).trans ?_
  ·unfold zac
   rw [itT (by simp;omega),zW rfl hk,sb,hx,zB (by omega),itF (by simp;omega),zB (by omega)]
   push_cast;rfl
  ·rw [ih _ _ hd' (by omega)]
   simp only [List.flatten_cons,List.length_append]
   congr 2;omega
theorem zuV (l:List (List UInt8)) (hl:l.length≤1099511627776):∀(t:List (List UInt8)) (k:Nat) (acc:List UInt8),l.drop k=t→acc.length+t.flatten.length≤1099511627776→
  zbe l acc k=some (acc++t.flatten):=by
 intro t
 induction t with
 | nil=>
  intro k acc hd _
  have hk:l.length≤k:=by have:=congrArg List.length hd;simp at this;omega
  refine zhd ?_
  unfold zad
  rw [itF (by simp;omega)]
  simp
 | cons x t ih=>
  intro k acc hd hs
  obtain ⟨hk,hx,hd'⟩:=ztU hd
  simp only [List.flatten_cons,List.length_append] at hs
  refine (zhc (newslice':=acc++x) (v2':=((k+1:Nat):Int)) ?_).trans ?_
  ·unfold zad
   rw [itT (by simp;omega),zW rfl hk,sb,hx,zjd (by omega),sb,zB (by omega)]
   push_cast;rfl
  ·rw [ih _ _ hd' (by rw [List.length_append];omega)]
   simp
theorem zDs {n:Nat} (h:n≤1099511627776):zcm (n:Int)=some []:=by
 unfold zcm
 have e:IntKind.i64.wrap ((n:Int) - IntKind.i64.wrap (0 - 0))=n:=by rw [zB (x:=0 - 0) (by omega),zB (by omega)];omega
 rw [itF (by simp),e]
 by_cases h0:(n:Int)>0
 ·rw [itT (by simpa using h0),zpZ (a:=n) rfl (Int.le_refl _) (by omega),sb]
  have e0:cut (List.replicate n (0:UInt8)) 0 0=some []:=zrS (b:=0) rfl (Nat.zero_le _)
  rw [e0,sb]
 ·rw [itF (by simpa using h0)]
theorem zAc {l:List (List UInt8)} (hl:l.length≤1099511627776) (h:l.flatten.length≤1099511627776):zbR l=some l.flatten:=by
 unfold zbR
 have h1:=zuU l hl l 0 0 rfl (by omega)
 have h1':zbd l 0 0=_:=h1
 have h2:=zuV l hl l 0 [] rfl (by simpa using h)
 have h2':zbe l [] 0=_:=h2
 rw [h1',sb,zDs (by omega),sb,h2',sb]
 simp
end Go.Proofs.YtcbkcblkecmjnaaGreat
namespace Go.Proofs.YtcbkcblkecmjnaaGreat
open Go
set_option linter.unusedVariables false
def wid9 (k:Int):Int:=if kNum k then (if 12≤k then 8 else if 9≤k then 4 else 1) else 0
theorem zty {k:Int} (hk:kNum k=true):(((sPut k 0).length:Nat):Int)=(if 12≤k then 8 else if 9≤k then 4 else 1):=by
 have hk':=zkZ.1 hk
 have hc:(zeo k 0).toNat=0:=by
  have:k=1∨k=2∨k=3∨k=4∨k=5∨k=6∨k=7∨k=8∨k=9∨k=10∨k=11∨k=12∨k=13∨k=14:=by omega
  rcases this with h| h| h| h| h| h| h| h| h| h| h| h| h| h<;>subst h<;>decide
 unfold sPut
 rw [hc]
 unfold zyH
 by_cases h1:12≤k
 ·rw [if_pos h1,if_pos h1,zgB];rfl
 ·rw [if_neg h1,if_neg h1]
  by_cases h2:9≤k
  ·rw [if_pos h2,if_pos h2,zgB];rfl
  ·rw [if_neg h2,if_neg h2,zvd]
   simp [lenN]
theorem zAH (k:Int):zll k=some (wid9 k):=by
 unfold zll wid9
 rw [zCG (by omega),sb]
 cases hk:kNum k with
 | false=>rfl
 | true=>simp only [if_true];rw [zty hk]
theorem zzV {k:Int} (hk:kNum k=true):(k<9→wid9 k=1)∧(¬k<9→k<12→wid9 k=4)∧(¬k<12→wid9 k=8):=by
 unfold wid9
 rw [hk,if_pos rfl]
 refine ⟨fun h=>?_,fun h1 h2=>?_,fun h=>?_⟩
 ·rw [if_neg (show ¬12≤k by omega),if_neg (show ¬9≤k by omega)]
 ·rw [if_neg (show ¬12≤k by omega),if_pos (show 9≤k by omega)]
 ·rw [if_pos (show 12≤k by omega)]
theorem zDa {k:Int} (hk:kNum k=false):wid9 k=0:=by unfold wid9;rw [hk];rfl
theorem zEg {k:Int} (hk:kNum k=true):(wid9 k==0)=false:=by
 obtain ⟨h1,h2,h3⟩:=zzV hk
 by_cases h9:k<9
 ·rw [h1 h9];rfl
 ·by_cases h12:k<12
  ·rw [h2 h9 h12];rfl
  ·rw [h3 h12];rfl
theorem zuv {k:Int} (hk:kNum k=true) (b:List UInt8):zlk (wid9 k) b=some (match zlu k b with| .inl c=>(0,c)| .inr n=>((n:Int),0)):=by
 obtain ⟨w1,w2,w3⟩:=zzV hk
 unfold zlk zlu
 by_cases h9:k<9
 ·rw [w1 h9,itT (by rfl),zzQ,sb,if_pos h9]
  rcases zjr b with h| ⟨h,_⟩| ⟨x,c,y,e,hx,hc,hl,hv,h⟩
  ·rw [h];rfl
  ·rw [h];rfl
  ·rw [h,if_neg (by simp)];simp
 ·rw [if_neg h9]
  by_cases h12:k<12
  ·rw [w2 h9 h12,itF (by rfl),if_pos h12]
   by_cases hl:b.length<4
   ·rw [itT (by simp;omega),if_pos hl]
   ·rw [itF (by simp;omega),if_neg hl];rfl
  ·rw [w3 h12,itF (by rfl),if_neg h12]
   by_cases hl:b.length<8
   ·rw [itT (by simp;omega),if_pos hl]
   ·rw [itF (by simp;omega),if_neg hl];rfl
def zhB (k:Int) (b:List UInt8):List (List UInt8)×Int:=if kNum k=false then ([],2) else pcs k b
def go9 {σ ρ:Type} (kb:σ→(List UInt8×Int)→Option (σ⊕ρ)):List (List UInt8)→Int→σ→Option (σ⊕ρ)
 | [],c,s=>if c=0 then some (.inl s) else kb s ([],c)
 | p::ps,c,s=>match kb s (p,0) with
  | some (.inl s')=>go9 kb ps c s'
  | some (.inr r)=>some (.inr r)
  | none=>none
theorem zyD {σ ρ χ:Type} {kb:σ→χ→Option (σ⊕ρ)} {s:σ} {x:χ} {o:σ⊕ρ} (h:kb s x=some o):∃c,rnd kb (.inl s) x=some (c,o)∧(c=true∧(∃s',o= .inl s')∨c=false∧∃r,o= .inr r):=by
 cases o with
 | inl s'=>exact ⟨true,by simp only [rnd,h],.inl ⟨rfl,s',rfl⟩⟩
 | inr r=>exact ⟨false,by simp only [rnd,h],.inr ⟨rfl,r,rfl⟩⟩
theorem zFY {σ ρ:Type} (kb:σ→(List UInt8×Int)→Option (σ⊕ρ)) {k:Int} (hk:kNum k=true) (b:List UInt8):∀(s:σ) (o:σ⊕ρ),go9 kb (pcs k b).1 (pcs k b).2 s=some o→
  ∃q,zes (rnd kb) (wid9 k) b (.inl s)=some q∧(q= .inl o∨q= .inr o):=by
 refine zrB k (fun b=>∀(s:σ) (o:σ⊕ρ),go9 kb (pcs k b).1 (pcs k b).2 s=some o→
  ∃q,zes (rnd kb) (wid9 k) b (.inl s)=some q∧(q= .inl o∨q= .inr o)) ?_ ?_ ?_ b
 ·intro s o h
  rw [zpe] at h
  have h':some (.inl s)=some o:=h
  refine ⟨.inl o,zgx ?_,.inl rfl⟩
  unfold zbs
  rw [itF (by rfl),←Option.some.inj h']
 ·intro l c hl hu hc s o h
  rw [zrA hl hu] at h
  have h':kb s ([],c)=some o:=by
   have h2:(if c=0 then some (.inl s) else kb s ([],c))=some o:=h
   rwa [if_neg (by omega)] at h2
  obtain ⟨t,ht,_⟩:=zyD h'
  refine ⟨.inr o,zgx ?_,.inr rfl⟩
  have hp:=List.length_pos_iff.2 hl
  unfold zbs
  rw [itT (by simp;omega),zuv hk,sb,hu]
  simp only
  rw [zhj (i:=0) (j:=0) (a:=0) (b:=0) rfl rfl (Nat.le_refl _) (Nat.zero_le _),sb]
  simp only [List.drop_zero,Nat.sub_self,List.take_zero]
  rw [ht,sb,itT (by simp;omega)]
 ·intro l n hl hu g1 g2 g3 ih s o h
  rw [zmV hl hu] at h
  have hp:=List.length_pos_iff.2 hl
  have hbody:∀{t:Bool} {y:σ⊕ρ},rnd kb (.inl s) (l.take n,0)=some (t,y)→zbs (rnd kb) (wid9 k) l (.inl s)=(if t then some (.inl (l.drop n,y)) else some (.inr (.inr y))):=by
   intro t y ht
   unfold zbs
   rw [itT (by simp;omega),zuv hk,sb,hu]
   simp only
   rw [zhj (i:=0) (j:=(n:Int)) (a:=0) (b:=n) rfl rfl (Nat.zero_le _) g2,sb]
   simp only [List.drop_zero,Nat.sub_zero]
   rw [ht,sb]
   cases t with
   | false=>rw [itT (by rfl)];rfl
   | true=>rw [itF (by rfl),zoI (a:=n) rfl rfl g2,sb];rfl
  simp only [go9] at h
  cases hb:kb s (l.take n,0) with
  | none=>rw [hb] at h;cases h
  | some z=>
   rw [hb] at h
   obtain ⟨t,ht,hcase⟩:=zyD hb
   have hB:=hbody ht
   rcases hcase with ⟨rfl,s',rfl⟩| ⟨rfl,r,rfl⟩
   ·obtain ⟨q,hq,hq'⟩:=ih s' o h
    exact ⟨q,by rw [znM hB];exact hq,hq'⟩
   ·have h':some (.inr r)=some o:=h
    exact ⟨.inr (.inr r),zgx hB,.inr (by rw [Option.some.inj h'])⟩
theorem zzU {σ ρ:Type} (kb:σ→(List UInt8×Int)→Option (σ⊕ρ)) (k:Int) (b:List UInt8) {s:σ} {o:σ⊕ρ} (h:go9 kb (zhB k b).1 (zhB k b).2 s=some o):zdS k b (rnd kb) (.inl s)=some o:=by
 unfold zdS
 rw [zAH,sb]
 unfold zhB at h
 cases hk:kNum k with
 | false=>
  rw [hk,if_pos rfl] at h
  have h':kb s ([],2)=some o:=h
  obtain ⟨t,ht,_⟩:=zyD h'
  rw [zDa hk,itT (by rfl),ht,sb]
 | true=>
  rw [hk,if_neg (by simp)] at h
  have hw:=zEg hk
  obtain ⟨q,hq,hq'⟩:=zFY kb hk b s o h
  rw [itF hw,hq,sb]
  rcases hq' with rfl| rfl<;>rfl
theorem zte (k:Int) (b:List UInt8):(zhB k b).2=(zbH k b).2∧((zbH k b).2=0→(zhB k b).1=(pcs k b).1)∧(∀p∈(zhB k b).1,zgr (zdL k) p=true∧1≤p.length∧p.length≤10)∧(zhB k b).1.length≤b.length∧((zhB k b).1=[]∨kNum k=true):=by
 unfold zhB zbH
 by_cases hn:kNum k=false
 ·rw [if_pos hn,if_pos hn];exact ⟨rfl,fun h=>by simp at h,(fun p hp=>by cases hp),Nat.zero_le _,.inl rfl⟩
 ·have hk:kNum k=true:=by simpa using hn
  rw [if_neg hn,if_neg hn]
  refine ⟨?_,fun _=>rfl,zCq hk b,zzI k b,.inr hk⟩
  by_cases h0:(pcs k b).2=0
  ·rw [if_pos h0];exact h0
  ·rw [if_neg h0]
theorem zxN {k:Int} (hk:kNum k=true) (c:Int):∀(ps:List (List UInt8)) (acc:List Int),(∀p∈ps,zgr (zdL k) p=true∧1≤p.length∧p.length≤10)→acc.length+ps.length≤1048576→
  go9 (fun (s:List Int) (x:List UInt8×Int)=>zdm k s x.1 x.2) ps c acc=some (if c=0 then .inl (acc++ps.map (zlQ k)) else .inr (c,acc++ps.map (zlQ k)))
 | [],acc,_,hl=>by
  simp only [go9,List.map_nil,List.append_nil]
  by_cases h0:c=0
  ·rw [if_pos h0,if_pos h0]
  ·rw [if_neg h0,if_neg h0];unfold zdm;rw [itT (by simpa using h0)]
 | p::ps,acc,hf,hl=>by
  simp only [List.length_cons] at hl
  have h1:zdm k acc p 0=some (.inl (acc++[zlQ k p])):=by
   unfold zdm
   rw [itF (by rfl),zCF,sb,zqT hk (hf p List.mem_cons_self).1,zjd (by simp;omega),sb]
  simp only [go9,h1]
  rw [zxN hk c ps _ (fun q hq=>hf q (List.mem_cons_of_mem _ hq)) (by simp;omega)]
  simp
theorem zAI (k:Int) {b:List UInt8} (hb:b.length≤1048576):zlj k b=some (zbH k b):=by
 obtain ⟨h1,h2,h3,h4,h5⟩:=zte k b
 unfold zlj zhN
 rw [sb]
 simp only
 have hgo:go9 (fun (s:List Int) (x:List UInt8×Int)=>zdm k s x.1 x.2) (zhB k b).1 (zhB k b).2 []=some (if (zhB k b).2=0 then .inl ([]++(zhB k b).1.map (zlQ k)) else .inr ((zhB k b).2,[]++(zhB k b).1.map (zlQ k))):=by
  rcases h5 with h5| h5
  ·rw [h5]
   simp only [go9,List.map_nil,List.append_nil]
   by_cases h0:(zhB k b).2=0
   ·rw [if_pos h0,if_pos h0]
   ·rw [if_neg h0,if_neg h0];unfold zdm;rw [itT (by simpa using h0)]
  ·exact zxN h5 _ _ _ h3 (by simp;omega)
 rw [zzU _ k b hgo,sb,h1]
 by_cases h0:(zbH k b).2=0
 ·rw [if_pos h0,h2 h0]
  simp only [List.nil_append]
  rw [←(zqW h0).2.2,←h0]
 ·rw [if_neg h0]
  simp only
  rw [←(ztj h0).1]
theorem zwy (c:Int):∀(ps:List (List UInt8)) (n:Nat),n+ps.length≤1048576→
  go9 (fun (s:Int) (x:List UInt8×Int)=>zeH s x.1 x.2) ps c (n:Int)=some (if c=0 then .inl ((n+ps.length:Nat):Int) else .inr (c,((n+ps.length:Nat):Int)))
 | [],n,hl=>by
  simp only [go9,List.length_nil,Nat.add_zero]
  by_cases h0:c=0
  ·rw [if_pos h0,if_pos h0]
  ·rw [if_neg h0,if_neg h0];unfold zeH;rw [itT (by simpa using h0)]
 | p::ps,n,hl=>by
  simp only [List.length_cons] at hl
  have h1:zeH (n:Int) p 0=some (.inl ((n+1:Nat):Int)):=by
   unfold zeH
   rw [itF (by rfl),zB (by omega)];rfl
  simp only [go9,h1]
  rw [zwy c ps (n+1) (by omega)]
  simp only [List.length_cons]
  rw [Nat.add_right_comm,Nat.add_assoc]
theorem zAA (k:Int) {b:List UInt8} (hb:b.length≤1048576):zli k b=some (((zbH k b).1.length:Int),(zbH k b).2):=by
 obtain ⟨h1,h2,h3,h4,h5⟩:=zte k b
 unfold zli zhN
 rw [sb]
 simp only
 have hgo:=zwy (zhB k b).2 (zhB k b).1 0 (by omega)
 rw [zzU (s:=(0:Int)) _ k b hgo,sb,h1]
 by_cases h0:(zbH k b).2=0
 ·rw [if_pos h0,h2 h0]
  simp only
  rw [(zqW h0).2.2,h0]
  simp
 ·rw [if_neg h0]
  simp only
  rw [(ztj h0).1]
  rfl
end Go.Proofs.YtcbkcblkecmjnaaGreat
namespace Go.Proofs.YtcbkcblkecmjnaaGreat
open Go
set_option linter.unusedVariables false
abbrev PVw:=ze
def prV (v:Vw):PVw:=⟨v.R,v.Field,v.Run⟩
theorem zth (m:Mes) {e:Option (Nat×Int)} (he:∀p c,e=some (p,c)→3≤c∧c≤5):∀(l:List Rec) (p c:Int),(vws m e l).2=some (p,c)→3≤c∧c≤6
 | [],p,c,h=>by
  cases e with
  | none=>cases h
  | some q=>
   simp only [vws,Option.map_some,Option.some.injEq,Prod.mk.injEq] at h
   have:=he q.1 q.2 rfl
   omega
 | r::l,p,c,h=>by
  rw [vws] at h
  rcases zgd m r.Number r.Wire with hv| ⟨hv,_⟩| ⟨i,run,hv,_⟩
  ·simp only [hv,Option.some.injEq,Prod.mk.injEq] at h;omega
  ·simp only [hv] at h;exact zth m he l p c h
  ·simp only [hv] at h;exact zth m he l p c h
theorem zFf (b:List UInt8):∀p c,(spl 0 b).2=some (p,c)→3≤c∧c≤5:=fun p c h=>by
 have:=(zCD 0 b p c h).1;omega
theorem zqF (m:Mes) (b:List UInt8):(zeU m b).2.2=0∧(vws m (spl 0 b).2 (spl 0 b).1).2=none∧(zeU m b).1=(vws m (spl 0 b).2 (spl 0 b).1).1∧(zeU m b).2.1=0∨(3≤(zeU m b).2.2∧(zeU m b).2.2≤6)∧(zeU m b).1=[]:=by
 unfold zeU vwR
 cases h:(vws m (spl 0 b).2 (spl 0 b).1).2 with
 | none=>exact .inl ⟨rfl,rfl,rfl,rfl⟩
 | some q=>exact .inr ⟨zth m (zFf b) _ q.1 q.2 h,rfl⟩
theorem zti {m:Mes} {e:Option (Nat×Int)}:∀{l:List Rec},(vws m e l).2=none→e=none∧(vws m e l).1.map (·.R)=l
 | [],h=>by
  cases e with
  | none=>exact ⟨rfl,rfl⟩
  | some q=>simp [vws] at h
 | r::l,h=>by
  rw [vws] at h⊢
  rcases zgd m r.Number r.Wire with hv| ⟨hv,_⟩| ⟨i,run,hv,_⟩
  ·simp only [hv] at h;cases h
  ·simp only [hv] at h⊢
   have:=zti h
   exact ⟨this.1,by simp [this.2]⟩
  ·simp only [hv] at h⊢
   have:=zti h
   exact ⟨this.1,by simp [this.2]⟩
theorem zxL {m:Mes} {e:Option (Nat×Int)}:∀{l:List Rec},∀v∈(vws m e l).1,v.R∈l∧vw m v.R.Number v.R.Wire= .inr (v.Field,v.Run)
 | [],v,h=>by cases h
 | r::l,v,h=>by
  rw [vws] at h
  rcases zgd m r.Number r.Wire with hv| ⟨hv,_⟩| ⟨i,run,hv,_⟩
  ·simp only [hv] at h;cases h
  all_goals
   simp only [hv] at h
   rcases List.mem_cons.1 h with rfl| h
   ·exact ⟨List.mem_cons_self,hv⟩
   ·have:=zxL v h
    exact ⟨List.mem_cons_of_mem _ this.1,this.2⟩
theorem zEc {m:Mes} {b:List UInt8} {v:Vw} (h:v∈(zeU m b).1):v.R∈(spl 0 b).1∧vw m v.R.Number v.R.Wire= .inr (v.Field,v.Run):=by
 rcases zqF m b with ⟨_,_,e,_⟩| ⟨_,e⟩
 ·rw [e] at h;exact zxL v h
 ·rw [e] at h;cases h
end Go.Proofs.YtcbkcblkecmjnaaGreat
namespace Go.Proofs.YtcbkcblkecmjnaaGreat
open Go
theorem zuC (t:zbg):zlo t=some (zfH t.Number t.Wire):=by
 have e:zgG t.Wire=some (decide (t.Wire=0∨t.Wire=1∨t.Wire=2∨t.Wire=5)):=by
  unfold zgG
  by_cases h0:t.Wire=0
  ·simp [h0]
  by_cases h1:t.Wire=1
  ·simp [h1]
  by_cases h2:t.Wire=2
  ·simp [h2]
  by_cases h5:t.Wire=5
  ·simp [h5]
  simp [h0,h1,h2,h5]
 unfold zlo zfH
 rw [e]
 by_cases h1:1≤t.Number
 ·by_cases h2:t.Number≤536870911
  ·rw [itT (by simpa using h1),itT (by simpa using h2),sb,sb];simp [h1,h2]
  ·rw [itT (by simpa using h1),itF (by simpa using h2),sb];simp [h2]
 ·rw [itF (by simpa using h1),sb];simp [h1]
theorem zFy (w:Nat) (h:w<18446744073709551616):andI .u64 (w:Int) 7=((w%8:Nat):Int):=by
 have e:=zwj (k:= .u64) rfl (a:=w) (b:=7) (by simpa [IntKind.bits] using h) (by simp [IntKind.bits])
 have e2:w&&&7=w%8:=Nat.and_two_pow_sub_one_eq_mod w 3
 rw [e2] at e;exact e
theorem zFR (w:Nat):shrI .u64 (w:Int) 3=((w/8:Nat):Int):=zsO (k:= .u64) (a:=w) (b:=3) (by simp [IntKind.bits])
theorem zCQ (b:List UInt8):zne b=some ((⟨(tg b).1,(tg b).2.1⟩:zbg),(tg b).2.2.1,(tg b).2.2.2):=by
 obtain ⟨h1,h2,h3,h4,h5,h6,h7⟩:=zgh b
 unfold zne tg
 rw [zrE,sb]
 by_cases h:(rd b).2.2=0
 ·rw [itF (by simpa using h)]
  obtain ⟨w,hw⟩:∃w:Nat,(rd b).1=w:=⟨(rd b).1.toNat,by omega⟩
  rw [hw] at h2⊢
  rw [zFR,zFy w (by omega)]
  have e0:IntKind.i64.wrap ((w%8:Nat):Int)=(w:Int)%8:=by rw [zB (by omega)];omega
  by_cases hg:4294967295<w
  ·have e1:IntKind.i64.wrap (if (536870912:Int)<((w/8:Nat):Int) then 536870912 else ((w/8:Nat):Int))=536870912:=by
    split
    ·rfl
    ·rw [zB (by omega)];omega
   rw [e0,e1,zuC,sb]
   have e2:zfH 536870912 ((w:Int)%8)=false:=by simp [zfH]
   simp only [e2]
   rw [itT (by rfl),znf h (.inl (by rw [hw];omega))]
  ·have e1:IntKind.i64.wrap (if (536870912:Int)<((w/8:Nat):Int) then 536870912 else ((w/8:Nat):Int))=(w:Int)/8:=by
    rw [if_neg (by omega),zB (by omega)];omega
   rw [e0,e1,zuC,sb]
   simp only
   cases ht:zfH ((w:Int)/8) ((w:Int)%8)
   ·rw [itT (by rfl),znf h (.inr (by rw [hw];exact ht))]
   ·rw [itF (by rfl),zyO h (by rw [hw,ht];simp;omega),hw]
 ·rw [itT (by simpa using h),zvZ h]
end Go.Proofs.YtcbkcblkecmjnaaGreat
namespace Go.Proofs.YtcbkcblkecmjnaaGreat
open Go
theorem zDV {w:Int} {b:List UInt8} (hw:w=0∨w=1∨w=2∨w=5) (hb:b.length≤1048576):
  zik w b=some (match zdH w 0 b with| .inl c=>(0,(if w=0 then (rd b).2.1 else 0),c)| .inr (a,t)=>((a:Int),(t:Int),0)):=by
 obtain ⟨h1,h2,h3,h4,h5,h6,h7⟩:=zgh b
 unfold zik zdH
 rcases hw with rfl| rfl| rfl| rfl
 ·rw [itT (by rfl),zzQ,sb,if_pos rfl]
  by_cases h:(rd b).2.2=0
  ·rw [if_neg (by simpa using h)]
   simp only [h,Nat.zero_add]
   congr 3
   simp;omega
  ·rw [if_pos h];rfl
 ·rw [itF (by rfl),itT (by rfl),sb,itF (by rfl),if_neg (show ¬((1:Int)=0) by omega),if_neg (show ¬((1:Int)=2) by omega)]
  simp only
  have e:IntKind.u64.wrap (IntKind.i64.wrap ((b.length:Int) - 0))=(b.length:Int):=by rw [zB (by omega),wrap_u64];omega
  rw [e]
  by_cases g:b.length<8
  ·rw [itT (by simp;omega),if_pos (by simpa using g)];rfl
  ·rw [itF (by simp;omega),if_neg (by simpa using g)];rfl
 ·rw [itF (by rfl),itF (by rfl),itF (by rfl),itT (by rfl),zrE,sb,sb,if_neg (show ¬((2:Int)=0) by omega),if_pos (show (2:Int)=2 from rfl)]
  by_cases h:(rd b).2.2=0
  ·have hk:=h7 h
   rw [itF (by simpa using h),if_neg (show ¬((rd b).2.2≠0) from fun g=>g h)]
   simp only
   have e:IntKind.u64.wrap (IntKind.i64.wrap ((b.length:Int) - (rd b).2.1))=(b.length:Int) - (rd b).2.1:=by rw [zB (by omega),wrap_u64];omega
   rw [e]
   by_cases g:(b.length:Int) - (rd b).2.1<(rd b).1
   ·rw [itT (by simpa using g),if_pos g];rfl
   ·rw [itF (by simpa using g),if_neg g,zB (x:=(rd b).1) (by omega),zB (by omega)]
    simp;omega
  ·rw [itT (by simpa using h),if_pos h];rfl
 ·rw [itF (by rfl),itF (by rfl),itT (by rfl),sb,itF (by rfl),if_neg (show ¬((5:Int)=0) by omega),if_neg (show ¬((5:Int)=2) by omega)]
  simp only
  have e:IntKind.u64.wrap (IntKind.i64.wrap ((b.length:Int) - 0))=(b.length:Int):=by rw [zB (by omega),wrap_u64];omega
  rw [e]
  by_cases g:b.length<4
  ·rw [itT (by simp;omega),if_pos (by simpa using g)];rfl
  ·rw [itF (by simp;omega),if_neg (by simpa using g)];rfl
theorem zwp (w:Int) (k:Nat) (m:List UInt8):zdH w k m=match zdH w 0 m with| .inl c=> .inl c| .inr (a,t)=> .inr (k+a,k+t):=by
 unfold zdH
 repeat' split
 all_goals first
  | rfl
  | (rename_i h1 h2;injection h2 with h3;injection h3 with h4 h5;subst h4 h5;simp<;>omega)
  | simp_all<;>omega
theorem zvC {b:List UInt8} (hb:b.length≤1048576) (at5:Int):zfW b at5=some (zeh b at5):=by
 unfold zfW zeh
 by_cases h:at5<0∨at5≥b.length
 ·rw [itT (by simpa using h),if_pos h];rfl
 ·rw [itF (by simpa using h),if_neg h]
  obtain ⟨p,rfl⟩:∃p:Nat,at5=p:=⟨at5.toNat,by omega⟩
  rw [zoI rfl rfl (by omega),sb,zCQ,sb,Int.toNat_natCast]
  have hdl:(b.drop p).length=b.length - p:=by simp
  rcases zsV (b.drop p) with ⟨c,ht,hc⟩| ⟨n,w,k,ht,hr,k1,k2,k3,hrd⟩
  ·have e:rec5 (b.drop p)= .inl c:=by unfold rec5;rw [ht,if_pos (by simp only;omega)]
   rw [e,ht,itT (by simp;omega)];rfl
  ·obtain ⟨k,rfl⟩:∃j:Nat,k=j:=⟨k.toNat,by omega⟩
   have e:rec5 (b.drop p)=match zdH w k ((b.drop p).drop k) with
    | .inl c=> .inl c
    | .inr p=> .inr (n,w,p.1,p.2):=by unfold rec5;rw [ht];simp<;>rfl
   have hdd:(b.drop p).drop k=b.drop (p+k):=by rw [List.drop_drop]
   have hml:(b.drop (p+k)).length=b.length - (p+k):=by simp
   have ew:IntKind.i64.wrap ((p:Int)+k)=((p+k:Nat):Int):=by rw [zB (by omega)];push_cast;rfl
   rw [e,ht,itF (by simp),hdd]
   simp only [ew]
   rw [zoI rfl rfl (by omega),sb,zDV (zoA.1 hr).2.2 (by omega),sb,zwp w k]
   rcases zia w 0 (b.drop (p+k)) with ⟨c,hc,hc2⟩| ⟨a,t,hc,_,_,hle,_⟩
   ·rw [hc]
    simp only
    rw [itT (by simp;omega)];rfl
   ·rw [hc]
    simp only
    rw [itF (by rfl),zB (by omega),zB (by omega)]
    simp only [Option.some.injEq,Prod.mk.injEq,zq.mk.injEq,true_and,and_true]
    push_cast
    omega
end Go.Proofs.YtcbkcblkecmjnaaGreat
