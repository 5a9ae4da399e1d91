/-
  What the plain functions are. No condition.
-/
import Derived.Test.YtaglemhabeipfaaGreatx1S1
import Derived.Test.YtaglemhabeipfaaGreatx1K3
set_option autoImplicit true
set_option relaxedAutoImplicit true
namespace Go.Proofs.YtaglemhabeipfaaGreat
open Go.IntKind (i64 u64)
open Go
def cpN (r:Nat):List Nat:=
 if r<128 then [r] else if r<2048 then [192+r/64,128+r%64]
 else if r<65536 then (if 55296<=r/\r<=57343 then [] else [224+r/4096,128+r/64%64,128+r%64])
 else if r<=1114111 then [240+r/262144,128+r/4096%64,128+r/64%64,128+r%64] else []
def cpB (r:Nat):List UInt8:=(cpN r).map UInt8.ofNat
def cont (c:UInt8):Bool:=decide (128<=c.toNat/\c.toNat<192)
def is1:List UInt8->Bool
 | a::_=>decide (a.toNat<128)
 | _=>false
def is2:List UInt8->Bool
 | a::b::_=>decide (194<=a.toNat/\a.toNat<224/\cont b=true)
 | _=>false
def is3:List UInt8->Bool
 | a::b::c::_=>decide (224<=a.toNat/\a.toNat<240/\cont b=true/\cont c=true/\(a.toNat=224->160<=b.toNat)/\(a.toNat=237->b.toNat<160))
 | _=>false
def is4:List UInt8->Bool
 | a::b::c::d::_=>decide (240<=a.toNat/\a.toNat<245/\cont b=true/\cont c=true/\cont d=true/\(a.toNat=240->144<=b.toNat)/\(a.toNat=244->b.toNat<144))
 | _=>false
def nxt (l:List UInt8):Nat:=if is1 l then 1 else if is2 l then 2 else if is3 l then 3 else if is4 l then 4 else 0
theorem zux (h:n<256):(UInt8.ofNat n=c)↔n=c.toNat:=by
 constructor
 ·intro e;rw [<-e,UInt8.toNat_ofNat'];omega
 simp_all
theorem zLV (r:Int):zgF r=some (if r<0 then [] else cpB r.toNat):=by
 unfold zgF;by_cases h0:r<0
 ·grind
 ·rw [xq h0];obtain ⟨n,rfl⟩:∃n:Nat,r=n:=⟨r.toNat,by omega⟩;rw [xD];unfold cpB cpN;by_cases h1:n<128
  ·grind [zjV,zfQ]
  ·rw [xq h1];by_cases h2:n<2048
   ·grind [zjV,wrap_i64,zfQ,sb]
   ·rw [xq h2];by_cases h3:n<65536
    ·grind [zjV,wrap_i64,zfQ,sb]
    ·rw [xq h3];by_cases h4:n<=1114111
     ·rw [uW,uW,uW,uW,xr h4];simp only [pX (show (0:Int)<=n by omega),ql (show (0:Int)<=n by omega),zjV]
      rw [wrap_i64 (x:=(n:Int)/262144) (by omega),wrap_i64 (x:=(n:Int)/4096) (by omega),wrap_i64 (x:=(n:Int)/64) (by omega),ql (by omega),ql (by omega),uX,uX,uX,uX,
       zfQ (n:=240+n/262144) (by omega) (by omega),sb,zfQ (n:=128+n/4096%64) (by omega) (by omega),sb,zfQ (n:=128+n/64%64) (by omega) (by omega),sb,zfQ (n:=128+n%64) (by omega) (by omega)];rfl
     grind
def zxV:Nat->List UInt8->Nat
 | 1,a::_=>a.toNat
 | 2,a::b::_=>64*(a.toNat%32)+b.toNat%64
 | 3,a::b::c::_=>64*(64*(a.toNat%16)+b.toNat%64)+c.toNat%64
 | 4,a::b::c::d::_=>64*(64*(64*(a.toNat%8)+b.toNat%64)+c.toNat%64)+d.toNat%64
 | _,_=>0
theorem map1 (h:∀x∈l,x<256):l.map UInt8.ofNat=[a]↔l=[a.toNat]:=by
 cases l with
 | nil=>simp
 | cons x l=>cases l with
  | nil=>simp only [xJ,yL,yM,qy];exact zux (h x (by simp))
  | cons y l=>simp
theorem map2 (h:∀x∈l,x<256):l.map UInt8.ofNat=[a,b]↔l=[a.toNat,b.toNat]:=by
 cases l with
 | nil=>simp
 | cons x l=>simp only [xJ,yM,zux (h x (by simp)),map1 (l:=l) fun y hy=>h y (by simp [hy])]
theorem map3 (h:∀x∈l,x<256):l.map UInt8.ofNat=[a,b,c]↔l=[a.toNat,b.toNat,c.toNat]:=by
 cases l with
 | nil=>simp
 | cons x l=>simp only [xJ,yM,zux (h x (by simp)),map2 (l:=l) fun y hy=>h y (by simp [hy])]
theorem map4 (h:∀x∈l,x<256):l.map UInt8.ofNat=[a,b,c,d]↔l=[a.toNat,b.toNat,c.toNat,d.toNat]:=by
 cases l with
 | nil=>simp
 | cons x l=>simp only [xJ,yM,zux (h x (by simp)),map3 (l:=l) fun y hy=>h y (by simp [hy])]
theorem zCs (r:Nat):∀x∈cpN r,x<256:=by
 grind [cpN]
theorem cpB1 (a:UInt8):cpB a.toNat=[a]↔a.toNat<128:=by
 grind [cpB,cpN,map1,zCs]
theorem cpB2 (a b:UInt8):cpB (64*(a.toNat%32)+b.toNat%64)=[a,b]↔194<=a.toNat/\a.toNat<224/\cont b=true:=by
 have ha:=a.toNat_lt;have hb:=b.toNat_lt;unfold cpB cont
 grind [cpN,map2,zCs]
theorem cpB3 (a b c:UInt8):cpB (64*(64*(a.toNat%16)+b.toNat%64)+c.toNat%64)=[a,b,c]↔224<=a.toNat/\a.toNat<240/\cont b=true/\cont c=true/\(a.toNat=224->160<=b.toNat)/\(a.toNat=237->b.toNat<160):=by
 have ha:=a.toNat_lt;have hb:=b.toNat_lt;have hc:=c.toNat_lt;unfold cpB cont;rw [map3 (zCs _)];unfold cpN
 grind
theorem cpB4 (a b c d:UInt8):cpB (64*(64*(64*(a.toNat%8)+b.toNat%64)+c.toNat%64)+d.toNat%64)=[a,b,c,d]↔
  240<=a.toNat/\a.toNat<245/\cont b=true/\cont c=true/\cont d=true/\(a.toNat=240->144<=b.toNat)/\(a.toNat=244->b.toNat<144):=by
 have ha:=a.toNat_lt;have hb:=b.toNat_lt;have hc:=c.toNat_lt;have hd:=d.toNat_lt;unfold cpB cont;rw [map4 (zCs _)];unfold cpN;by_cases h:64*(64*(64*(a.toNat%8)+b.toNat%64)+c.toNat%64)+d.toNat%64<65536
 ·have:∀l:List Nat,l.length<=3->(l=[a.toNat,b.toNat,c.toNat,d.toNat])=False:=fun l hl=>by simp only [eq_iff_iff,iff_false];intro e;rw [e] at hl;simp at hl
  rw [xr h];split
  ·rw [this _ (by simp)];simp;omega
  ·split
   ·rw [this _ (by simp)];simp;omega
   ·split
    ·rw [this _ (by simp)];simp;omega
    ·rw [this _ (by simp)];simp;omega
 ·rw [xq (by omega),xq (by omega),xq h];by_cases h2:64*(64*(64*(a.toNat%8)+b.toNat%64)+c.toNat%64)+d.toNat%64<=1114111
  ·rw [xr h2];simp;omega
  ·rw [xq h2];simp;omega
def isN (n:Nat) (l:List UInt8):Bool:=match n with
 | 1=>is1 l
 | 2=>is2 l
 | 3=>is3 l
 | 4=>is4 l
 | _=>false
theorem zNn (n:Nat) (l:List UInt8) (h1:1<=n) (h4:n<=4) (hl:n<=l.length):cpB (zxV n l)=l.take n↔isN n l=true:=by
 match n,l,h1,h4,hl with
 | 1,a::t,_,_,_=>simp only [zxV,yZ,qA,cpB1,isN,is1,xT]
 | 2,a::b::t,_,_,_=>simp only [zxV,yZ,qA,cpB2,isN,is2,xT]
 | 3,a::b::c::t,_,_,_=>simp only [zxV,yZ,qA,cpB3,isN,is3,xT]
 | 4,a::b::c::d::t,_,_,_=>simp only [zxV,yZ,qA,cpB4,isN,is4,xT]
theorem zHZ (n:Nat) (l:List UInt8) (h:l.length<n):isN n l=false:=by
 match n,l with
 | 0,_=>rfl
 | 1,[]=>rfl
 | 2,[]=>rfl
 | 2,[_]=>rfl
 | 3,[]=>rfl
 | 3,[_]=>rfl
 | 3,[_,_]=>rfl
 | 4,[]=>rfl
 | 4,[_]=>rfl
 | 4,[_,_]=>rfl
 | 4,[_,_,_]=>rfl
 | n+5,_=>rfl
 | 1,_::_=>simp at h
 | 2,_::_::_=>simp at h;omega
 | 3,_::_::_::_=>simp at h;omega
 | 4,_::_::_::_::_=>simp at h;omega
theorem zsa {b:List UInt8} {a n i r:Nat} (hb:b.length<=1152921504606846976) (hn:n<=4) (h:i<n) (ha:a+i<b.length) (hr:r<=1000000000):
  zaW a b n r i=zaW a b n ((64*r+(b[a+i]).toNat%64:Nat):Int) ((i+1:Nat):Int):=by
 refine znM ?_;unfold zcc;have hc:=(b[a+i]).toNat_lt;rw [uV,uX,zP (show (a:Int)+i=((a+i:Nat):Int) by push_cast;rfl) ha,sb];simp (disch:=omega) only [wrap_i64,ql];push_cast;rfl
theorem zCF (h:n<=i):zaW a b n r i=some (r:Int):=by
 refine znN ?_;unfold zcc
 grind
theorem zml {b:List UInt8} {a i:Nat} {c:UInt8} (h:(b.drop a)[i]? =some c):∃h:a+i<b.length,b[a+i]=c:=by
 grind
theorem zQy {b:List UInt8} {a n:Nat} {c:UInt8} {t:List UInt8} (hb:b.length<=1152921504606846976) (hl:b.drop a=c::t) (h1:1<=n) (h4:n<=4) (hn:n<=(b.drop a).length):
  zaW a b n ((if 1<n then c.toNat%([0,0,32,16,8].getD n 0) else c.toNat:Nat):Int) (1:Nat)=some ((zxV n (b.drop a):Nat):Int):=by
 have hc:=c.toNat_lt;rw [hl] at hn
 match n,t,h1,h4,hn with
 | 1,t,_,_,_=>rw [zCF (by omega),hl];rfl
 | 2,x::t,_,_,_=>
  obtain ⟨g1,e1⟩:=zml (b:=b) (a:=a) (i:=1) (c:=x) (by rw [hl];rfl);rw [xr (by omega),zsa hb (by omega) (by omega) g1 (by simp;omega),zCF (by omega),hl,e1];rfl
 | 3,x::y::t,_,_,_=>
  obtain ⟨g1,e1⟩:=zml (b:=b) (a:=a) (i:=1) (c:=x) (by rw [hl];rfl);obtain ⟨g2,e2⟩:=zml (b:=b) (a:=a) (i:=2) (c:=y) (by rw [hl];rfl);have hx:=x.toNat_lt;rw [xr (by omega),zsa hb (by omega) (by omega) g1 (by simp;omega),zsa hb (by omega) (by omega) g2 (by simp;omega),zCF (by omega),hl,e1,e2];rfl
 | 4,x::y::z::t,_,_,_=>
  obtain ⟨g1,e1⟩:=zml (b:=b) (a:=a) (i:=1) (c:=x) (by rw [hl];rfl);obtain ⟨g2,e2⟩:=zml (b:=b) (a:=a) (i:=2) (c:=y) (by rw [hl];rfl);obtain ⟨g3,e3⟩:=zml (b:=b) (a:=a) (i:=3) (c:=z) (by rw [hl];rfl);have hx:=x.toNat_lt;have hy:=y.toNat_lt;rw [xr (by omega),zsa hb (by omega) (by omega) g1 (by simp;omega),zsa hb (by omega) (by omega) g2 (by simp;omega),zsa hb (by omega) (by omega) g3 (by simp;omega),zCF (by omega),hl,e1,e2,e3];rfl
theorem zQt {b:List UInt8} {a n:Nat} (hb:b.length<=1152921504606846976) (ha:a<=b.length) (h1:1<=n) (h5:n<=5):
  zdg a b n=if isN n (b.drop a) then some (.inr (.inr (n:Int))) else if n<=4/\n<=(b.drop a).length then some (.inl ((n+1:Nat):Int)) else some (.inr (.inl ())):=by
 have hdl:(b.drop a).length=b.length - a:=by simp
 unfold zdg;by_cases h:n<=4/\n<=(b.drop a).length
 ·rw [xr h,uX,uV];obtain ⟨c,t,hl⟩:∃c t,b.drop a=c::t:=by
   cases hh:b.drop a with
   | nil=>rw [hh] at h;simp at h;omega
   | cons c t=>exact ⟨c,t,rfl⟩
  obtain ⟨g0,e0⟩:=zml (b:=b) (a:=a) (i:=0) (c:=c) (by rw [hl];rfl);have hc:=c.toNat_lt;rw [zP rfl (show a<b.length by omega),sb];have e0':b[a]'(by omega)=c:=by simpa using e0
  rw [e0',uX];have hp:(if (decide ((n:Int)>1))=true then (idx ([0,0,32,16,8]:(List Int)) (n:Int)>>=fun x2=>remI (c.toNat:Int) x2>>=fun v3=>some v3) else some (c.toNat:Int))=some (((if 1<n then c.toNat%([0,0,32,16,8].getD n 0) else c.toNat:Nat)):Int):=by
   match n,h1,h.1 with
   | 1,_,_=>rfl
   | 2,_,_=>rfl
   | 3,_,_=>rfl
   | 4,_,_=>rfl
  rw [hp,sb];have h2:=zQy hb hl h1 h.1 h.2;have h2':zaW a b n ((if 1<n then c.toNat%([0,0,32,16,8].getD n 0) else c.toNat:Nat):Int) 1=some ((zxV n (b.drop a):Nat):Int):=h2;rw [h2',sb,zLV,sb,xq (by omega),xD,zgC rfl (show (a:Int)+n=((a+n:Nat):Int) by push_cast;rfl) (by omega) (by omega),sb,uy]
  grind [zNn,wrap_i64]
 ·have hn:isN n (b.drop a)=false:=by
   by_cases h4:n<=4
   ·exact zHZ _ _ (by omega)
   ·have:n=5:=by omega
    subst this;rfl
  grind [wrap_i64]
theorem zzs {b:List UInt8} {a:Nat} (hb:b.length<=1152921504606846976) (ha:a<=b.length):zfZ b a=some ((nxt (b.drop a):Nat):Int):=by
 have key:∀(k n:Nat),n+k=5->1<=n->(∀j,1<=j->j<n->isN j (b.drop a)=false)->∃q,zew a b n=some q/\(match q with| .inl _=>(0:Int)| .inr u=>u)=((nxt (b.drop a):Nat):Int):=by
  intro k
  induction k with
  | zero=>
   intro n hn h1 hj;have:n=5:=by omega
   subst this;refine ⟨.inl (),zgo ?_,?_⟩
   ·rfl
   ·have j1:=hj 1 (by omega) (by omega);have j2:=hj 2 (by omega) (by omega);have j3:=hj 3 (by omega) (by omega);have j4:=hj 4 (by omega) (by omega);simp only [isN] at j1 j2 j3 j4;simp [nxt,j1,j2,j3,j4]
  | succ k ih=>
   intro n hn h1 hj;have hb1:=zQt hb ha h1 (show n<=5 by omega);by_cases hi:isN n (b.drop a)=true
   ·rw [xr hi] at hb1;refine ⟨.inr n,zgo hb1,?_⟩;have e:nxt (b.drop a)=n:=by
     match n,h1,(show n<=4 by omega),hi,hj with
     | 1,_,_,hi,_=>simp only [isN] at hi;simp [nxt,hi]
     | 2,_,_,hi,hj=>have j1:=hj 1 (by omega) (by omega);simp only [isN] at hi j1;simp [nxt,hi,j1]
     | 3,_,_,hi,hj=>have j1:=hj 1 (by omega) (by omega);have j2:=hj 2 (by omega) (by omega);simp only [isN] at hi j1 j2;simp [nxt,hi,j1,j2]
     | 4,_,_,hi,hj=>have j1:=hj 1 (by omega) (by omega);have j2:=hj 2 (by omega) (by omega);have j3:=hj 3 (by omega) (by omega);simp only [isN] at hi j1 j2 j3;simp [nxt,hi,j1,j2,j3]
    simp only [e]
   ·rw [xq hi] at hb1;by_cases hl:n<=4/\n<=(b.drop a).length
    ·rw [xr hl] at hb1;obtain ⟨q,h2,h3⟩:=ih (n+1) (by omega) (by omega) fun j g1 g2=>by
      grind
     exact ⟨q,(znL hb1).trans h2,h3⟩
    ·rw [xq hl] at hb1;refine ⟨.inl (),zgo hb1,?_⟩;have hall:∀j,1<=j->isN j (b.drop a)=false:=fun j g1=>by
      grind [zHZ]
     have j1:=hall 1 (by omega);have j2:=hall 2 (by omega);have j3:=hall 3 (by omega);have j4:=hall 4 (by omega);simp only [isN] at j1 j2 j3 j4;simp [nxt,j1,j2,j3,j4]
 obtain ⟨q,h1,h2⟩:=key 4 1 rfl (by omega) fun j g1 g2=>by omega
 unfold zfZ
 grind
theorem zox (h:isN n l=true):∃a t,l=a::t/\n<=l.length/\(n=1/\a.toNat<128\/n=2/\194<=a.toNat/\a.toNat<224\/n=3/\224<=a.toNat/\a.toNat<240\/n=4/\240<=a.toNat):=by
 match n,l with
 | 1,a::t=>simp only [isN,is1,xT] at h;exact ⟨a,t,rfl,by simp,.inl ⟨rfl,h⟩⟩
 | 2,a::b::t=>simp only [isN,is2,xT] at h;exact ⟨a,_,rfl,by simp,.inr (.inl ⟨rfl,h.1,h.2.1⟩)⟩
 | 3,a::b::c::t=>simp only [isN,is3,xT] at h;exact ⟨a,_,rfl,by simp,.inr (.inr (.inl ⟨rfl,h.1,h.2.1⟩))⟩
 | 4,a::b::c::d::t=>simp only [isN,is4,xT] at h;exact ⟨a,_,rfl,by simp,.inr (.inr (.inr ⟨rfl,h.1⟩))⟩
 | 0,_=>cases h
 | 1,[]=>cases h
 | 2,[]=>cases h
 | 2,[_]=>cases h
 | 3,[]=>cases h
 | 3,[_]=>cases h
 | 3,[_,_]=>cases h
 | 4,[]=>cases h
 | 4,[_]=>cases h
 | 4,[_,_]=>cases h
 | 4,[_,_,_]=>cases h
 | _+5,_=>cases h
theorem zNo (h:isN n l=true) (h':isN m l=true):n=m:=by
 grind [zox]
theorem zPF (h:isN n l=true):nxt l=n:=by
 obtain ⟨_,_,_,_,g⟩:=zox h;have k:∀m,m≠n->isN m l=false:=fun m hm=>by
  cases hh:isN m l with
  | false=>rfl
  | true=>exact absurd (zNo hh h) hm
 have hn:n=1\/n=2\/n=3\/n=4:=by omega
 rcases hn with rfl| rfl| rfl| rfl
 ·simp only [isN] at h;simp [nxt,h]
 ·have j1:=k 1 (by omega);simp only [isN] at h j1;simp [nxt,h,j1]
 ·have j1:=k 1 (by omega);have j2:=k 2 (by omega);simp only [isN] at h j1 j2;simp [nxt,h,j1,j2]
 ·have j1:=k 1 (by omega);have j2:=k 2 (by omega);have j3:=k 3 (by omega);simp only [isN] at h j1 j2 j3;simp [nxt,h,j1,j2,j3]
theorem zxo (h:nxt l≠0):isN (nxt l) l=true:=by
 unfold nxt at h|-;by_cases h1:is1 l=true
 ·simp [h1,isN]
 ·by_cases h2:is2 l=true
  ·simp [h1,h2,isN]
  ·by_cases h3:is3 l=true
   ·simp [h1,h2,h3,isN]
   ·by_cases h4:is4 l=true
    ·simp [h1,h2,h3,h4,isN]
    grind
theorem ztq (l:List UInt8):nxt l<=l.length:=by
 grind [zox,zxo]
theorem zCU (l:List UInt8):nxt l<=4:=by
 grind [zox,zxo]
def fst4 (m:Int) (l:List UInt8):Nat×Nat:=
 if h:nxt l=0\/(nxt l:Int)>m then (0,0) else (nxt l+(fst4 (m - nxt l) (l.drop (nxt l))).1,(fst4 (m - nxt l) (l.drop (nxt l))).2+1)
termination_by l.length
decreasing_by all_goals (have:=ztq l;simp only [xR];omega)
theorem zvz (h:nxt l=0\/(nxt l:Int)>m):fst4 m l=(0,0):=by rw [fst4,dif_pos h]
theorem zCz (h:¬(nxt l=0\/(nxt l:Int)>m)):fst4 m l=(nxt l+(fst4 (m - nxt l) (l.drop (nxt l))).1,(fst4 (m - nxt l) (l.drop (nxt l))).2+1):=by rw [fst4,dif_neg h]
theorem zKU (P:Int->List UInt8->Prop) (h0:∀m l,(nxt l=0\/(nxt l:Int)>m)->P m l) (h1:∀m l,¬(nxt l=0\/(nxt l:Int)>m)->P (m - nxt l) (l.drop (nxt l))->P m l) (m:Int) (l:List UInt8):P m l:=by
 generalize hn:l.length=n
 induction n using Nat.strongRecOn generalizing m l with
 | _ n ih=>
  grind [ztq]
theorem zAA {b:List UInt8} (hb:b.length<=140737488355328) (kK:Int) (m:Int) (l:List UInt8):∀(a c:Nat),c<=a->a<=b.length->l=b.drop a->m=kK - a->
  zcG b kK a c=some (((a+(fst4 m l).1:Nat):Int),((c+(fst4 m l).2:Nat):Int)):=by
 refine zKU (fun m l=>∀(a c:Nat),c<=a->a<=b.length->l=b.drop a->m=kK - a->zcG b kK a c=some (((a+(fst4 m l).1:Nat):Int),((c+(fst4 m l).2:Nat):Int))) ?_ ?_ m l
 ·intro m l h a c hc ha hl hm;subst hl hm;have h4:=zCU (b.drop a);refine zmQ ?_
  grind [zbI,sb,wrap_i64,zzs,zvz]
 ·intro m l h ih a c hc ha hl hm;subst hl hm;have h4:=zCU (b.drop a);have hle:=ztq (b.drop a);simp only [xR] at hle;refine (zmP (atv':=((a+nxt (b.drop a):Nat):Int)) (count':=((c+1:Nat):Int)) ?_).trans ?_
  ·grind [zbI,sb,wrap_i64,zzs]
  ·rw [ih (a+nxt (b.drop a)) (c+1) (by omega) (by omega) (by rw [yb]) (by omega),zCz h]
   grind
theorem zFo (hb:b.length<=140737488355328) (kK:Int):zfs b kK=some (((fst4 kK b).1:Int),((fst4 kK b).2:Int)):=by
 unfold zfs;have h:=zAA hb kK kK b 0 0 (xx _) (xC _) rfl (by omega)
 grind
def pre4 (l:List UInt8):Nat×Nat:=fst4 l.length l
theorem zKT (h:(l.length:Int)<=m):fst4 m l=pre4 l:=by
 have key:∀(n:Nat) (l:List UInt8) (m m':Int),l.length=n->(l.length:Int)<=m->(l.length:Int)<=m'->fst4 m l=fst4 m' l:=by
  intro n
  induction n using Nat.strongRecOn with
  | _ n ih=>
   grind [ztq,zvz,zCz]
 exact key _ l m l.length rfl h (Int.le_refl _)
theorem zJP (h:nxt l=0):pre4 l=(0,0):=zvz (.inl h)
theorem zNW (h:nxt l≠0):pre4 l=(nxt l+(pre4 (l.drop (nxt l))).1,(pre4 (l.drop (nxt l))).2+1):=by
 grind [pre4,ztq,zCz,zKT]
theorem zLP (P:List UInt8->Prop) (h0:∀l,nxt l=0->P l) (h1:∀l,nxt l≠0->P (l.drop (nxt l))->P l) (l:List UInt8):P l:=by
 generalize hn:l.length=n
 induction n using Nat.strongRecOn generalizing l with
 | _ n ih=>
  grind [ztq]
def zhE (l:List UInt8):Bool:=decide ((pre4 l).1=l.length)
theorem zDi (hb:b.length<=140737488355328):zcV b=some (zhE b):=by
 unfold zcV;rw [zFo hb,sb];unfold zhE pre4;by_cases h:(fst4 (b.length:Int) b).1=b.length
 ·simp [h]
 ·have h2:¬(((fst4 (b.length:Int) b).1:Int)=b.length):=by omega
  simp [h,h2]
theorem zFp {b:List UInt8} (hb:b.length<=1048576):zcV b=some (zhE b):=zDi (by omega)
def enc (v:Nat):List UInt8:=if v<128 then [UInt8.ofNat v] else UInt8.ofNat (128+v%128)::enc (v/128)
termination_by v
decreasing_by omega
def scan:Nat->Nat->List UInt8->Unit⊕(Int×Int×Int)
 | _,_,[]=> .inl ()
 | i,acc,c::t=>if i=9/\1<c.toNat then .inr (0,0,4) else if c.toNat<128 then .inr (((acc+c.toNat%128*128^i:Nat):Int),((i+1:Nat):Int),0) else scan (i+1) (acc+c.toNat%128*128^i) t
def rdR:Unit⊕(Int×Int×Int)->Int×Int×Int
 | .inl _=>(0,0,3)
 | .inr r=>r
def rd (b:List UInt8):Int×Int×Int:=rdR (scan 0 0 (b.take 10))
def hor:List UInt8->Nat
 | []=>0
 | c::t=>c.toNat%128+128*hor t
def lead:Nat->List UInt8->Nat
 | 0,_=>0
 | _+1,[]=>0
 | k+1,c::t=>if 128<=c.toNat then lead k t+1 else 0
theorem zOP (i:Nat):2^(7*i)=128^i:=by rw [Nat.pow_mul]
theorem zMV (c:Nat):c&&&127=c%128:=uP c 7
theorem zJT {acc i c:Nat} (hi:i<=9) (hacc:acc<128^i) (hc:c<256) (h9:i=9->c<=1):
  orI .u64 (acc:Int) (shlI .u64 (u64.wrap (andI .u8 (c:Int) 127)) ((7*i:Nat):Int))=((acc+c%128*128^i:Nat):Int):=by
 have e1:andI .u8 (c:Int) 127=((c%128:Nat):Int):=by
  have:=zDK (k:= .u8) rfl (a:=c) (b:=127) (by simpa [IntKind.bits] using hc) (by simp [IntKind.bits]);rw [zMV] at this;exact this
 have hp:128^i<=128^9:=q7 (by omega) hi;have km:c%128*128^i<18446744073709551616:=by
  by_cases h:i=9
  ·grind
  ·have h3:128^i<=128^8:=q7 (by omega) (by omega);have:=pV (show c%128<=127 by omega) h3;omega
 have e2:shlI .u64 (u64.wrap ((c%128:Nat):Int)) ((7*i:Nat):Int)=((c%128*128^i:Nat):Int):=by
  unfold shlI;rw [zvi rfl (by simp [IntKind.bits];omega),xD,yU (by simp [IntKind.bits];omega)];have h4:((c%128:Nat):Int)*2^(7*i)=((c%128*128^i:Nat):Int):=by rw [<-zOP];push_cast;rfl
  rw [h4];exact zvi rfl (by simpa [IntKind.bits] using km)
 rw [e1,e2,zxp rfl (by simp [IntKind.bits];omega) (by simpa [IntKind.bits] using km)];congr 1;rw [<-zOP] at hacc|-;exact zyX _ _ _ hacc
theorem zJS:∀(t:List UInt8) (v:List UInt8) (i acc:Nat),v.drop i=t->i+t.length=v.length->v.length<=10->acc<128^i->zgO v acc i=some (scan i acc t):=by
 intro t
 induction t with
 | nil=>
  intro v i acc _ hl _ _;refine ziQ ?_;unfold zeH;rw [itF (by simp at hl|-;omega)];rfl
 | cons c t ih=>
  intro v i acc hd hl hv hacc;simp only [yk] at hl;have hget:v[i]'(by omega)=c:=by
   have h1:v.drop i=v[i]'(by omega)::v.drop (i+1):=yf (by omega)
   grind
  have hd':v.drop (i+1)=t:=by rw [<-yb,hd];rfl
  have hc:=c.toNat_lt;have hb:zeH v acc i=if i=9/\1<c.toNat then some (.inr (.inr (0,0,4))) else if c.toNat<128 then some (.inr (.inr (((acc+c.toNat%128*128^i:Nat):Int),((i+1:Nat):Int),0))) else some (.inl (((acc+c.toNat%128*128^i:Nat):Int),((i+1:Nat):Int))):=by
   unfold zeH;rw [uV,zP rfl (show i<v.length by omega),sb,hget];by_cases h9:i=9/\1<c.toNat
   ·grind
   ·rw [xq h9,uW,uX];have e:((7:Int)*(i:Int))=((7*i:Nat):Int):=by push_cast;rfl
    rw [e,zFy,sb,zJT (by omega) hacc (by omega) (by omega),uX]
    grind
  rw [scan];split at hb
  ·rename_i h9;rw [xr h9];exact ziQ hb
  ·rename_i h9;rw [xq h9];split at hb
   ·rename_i h8;rw [xr h8];exact ziQ hb
   ·rename_i h8;rw [xq h8,ztJ hb];refine ih v (i+1) _ hd' (by omega) hv ?_;rw [yH];have:=yI (128^i) (show c.toNat%128<=127 by omega);omega
theorem zxu (b:List UInt8):zgR b=some (rd b):=by
 unfold zgR rd;have e:(if (10:Int)<(b.length:Int) then (10:Int) else (b.length:Int))=((min 10 b.length:Nat):Int):=by split<;>omega
 have e2:b.take (min 10 b.length)=b.take 10:=by rw [uA];omega
 rw [e,ztT rfl (by omega),sb,e2];have h:=zJS (b.take 10) (b.take 10) 0 0 rfl (by simp) (by simp;omega) (by simp);have h':zgO (b.take 10) 0 0=some (scan 0 0 (b.take 10)):=h;rw [h',sb];cases scan 0 0 (b.take 10)<;>rfl
theorem zIJ (b:List UInt8):zjl b=some ((rd b).2.1,(rd b).2.2):=by unfold zjl;rw [zxu,sb]
theorem zCH:∀(k:Nat) (l:List UInt8),lead k l<=k/\lead k l<=l.length
 | 0,_=>⟨xx _,xC _⟩
 | _+1,[]=>⟨xC _,xx _⟩
 | k+1,c::t=>by
  have:=zCH k t;rw [lead];split<;>simp<;>omega
theorem zBJ:∀(l:List UInt8) (i acc:Nat),i+l.length<=10->i<=9->
  scan i acc l=if i+lead (10 - i) l=10 then .inr (0,0,4) else if lead (10 - i) l=l.length then .inl () else if i+lead (10 - i) l=9/\1<(l.getD (lead (10 - i) l) 0).toNat then .inr (0,0,4) else
   .inr (((acc+hor (l.take (lead (10 - i) l+1))*128^i:Nat):Int),((i+lead (10 - i) l+1:Nat):Int),0):=by
 intro l
 induction l with
 | nil=>
  intro i acc _ hi;obtain ⟨k,hk⟩:∃k,10 - i=k+1:=⟨9 - i,by omega⟩;rw [hk];simp only [lead,scan,yv]
  grind
 | cons c t ih=>
  intro i acc hl hi;obtain ⟨k,hk⟩:∃k,10 - i=k+1:=⟨9 - i,by omega⟩;simp only [yk] at hl;rw [scan];by_cases hc:128<=c.toNat
  ·have e:lead (10 - i) (c::t)=lead k t+1:=by rw [hk,lead,xr hc]
   rw [e];by_cases h9:i=9
   ·have:k=0:=by omega
    subst this;rw [xr ⟨h9,by omega⟩,lead,xr (by omega)]
   ·rw [xq (by omega),xq (by omega),ih (i+1) _ (by omega) (by omega),show 10 - (i+1)=k by omega];by_cases h1:i+1+lead k t=10
    ·grind
    ·rw [xq h1,xq (show ¬i+(lead k t+1)=10 by omega)];by_cases h2:lead k t=t.length
     ·grind
     ·rw [xq h2,xq (show ¬lead k t+1=(c::t).length by simp;omega)];have eg:(c::t).getD (lead k t+1) 0=t.getD (lead k t) 0:=by simp [List.getD]
      rw [eg];by_cases h3:i+1+lead k t=9/\1<(t.getD (lead k t) 0).toNat
      ·grind
      ·rw [xq h3,xq (show ¬(i+(lead k t+1)=9/\1<(t.getD (lead k t) 0).toNat) by omega)];rw [yZ,hor,yH]
       grind
  ·have e:lead (10 - i) (c::t)=0:=by rw [hk,lead,xq hc]
   rw [e];simp only [yz,yk,List.getD_cons_zero];rw [xq (show ¬i=10 by omega),xq (show ¬0=t.length+1 by omega)];by_cases h9:i=9/\1<c.toNat
   ·grind
   ·rw [xq h9,xq h9,xr (show c.toNat<128 by omega)];simp [hor]
theorem zyu (x y:List UInt8):hor (x++y)=hor x+128^x.length*hor y:=by
 induction x with
 | nil=>simp [hor]
 | cons c t ih=>simp only [yn,hor,ih,yk,yH,Nat.mul_add];rw [qd (128^t.length) 128,q6];omega
theorem zGC (l:List UInt8):hor l<128^l.length:=by
 induction l with
 | nil=>simp [hor]
 | cons c t ih=>simp only [hor,yk,yH];omega
theorem zKW (l:List UInt8) (j:Nat):hor (l.drop j)<=hor l:=by
 induction l generalizing j with
 | nil=>simp
 | cons c t ih=>
  cases j with
  | zero=>exact xx _
  | succ j=>have:=ih j;simp only [List.drop_succ_cons,hor];omega
theorem zJU (b:List UInt8) (a:Nat) (hb:b.length<=1152921504606846976):∀(k n:Nat),n+k=10->a+n<=b.length->zdd a b n=some ((n+lead k (b.drop (a+n)):Nat):Int):=by
 intro k
 induction k with
 | zero=>
  intro n hn ha;refine zgn ?_;unfold zbu;rw [uX];by_cases h1:a+n<b.length
  ·rw [uV,uW,sb,uS];rfl
  ·rw [uW,sb,uS];rfl
 | succ k ih=>
  intro n hn ha;by_cases h1:a+n<b.length
  ·have hd:b.drop (a+n)=b[a+n]::b.drop (a+(n+1)):=yf h1;have kW:zbu a b n=if 128<=b[a+n].toNat then some (.inl ((n+1:Nat):Int)) else some (.inr (n:Int)):=by
    unfold zbu;rw [uX,uX,uV,uV,zP (show (a:Int)+n=((a+n:Nat):Int) by push_cast;rfl) h1,sb,sb]
    grind
   rw [hd,lead];by_cases h2:128<=b[a+n].toNat
   ·rw [xr h2] at kW|-;rw [znI kW,ih (n+1) (by omega) (by omega)];congr 2;omega
   ·rw [xq h2] at kW|-;exact zgn kW
  ·have hd:b.drop (a+n)=[]:=yo (by omega);rw [hd];refine zgn ?_;unfold zbu;rw [uX,uW,sb,uS];rfl
theorem zJV (b:List UInt8) (a m:Nat) (hb:b.length<=1152921504606846976) (hm:a+m<=b.length) (hh:hor ((b.drop a).take m)<18446744073709551616):
  ∀(j:Nat),j<=m->zde a b (hor (((b.drop a).take m).drop j)) ((j:Int) - 1)=some ((hor ((b.drop a).take m):Nat):Int):=by
 intro j
 induction j with
 | zero=>
  intro _;refine znK ?_;rfl
 | succ j ih=>
  intro hj;have hL:((b.drop a).take m).length=m:=by simp;omega
  have hd:((b.drop a).take m).drop j=((b.drop a).take m)[j]'(by omega)::((b.drop a).take m).drop (j+1):=yf (by omega);have hc:((b.drop a).take m)[j]'(by omega)=b[a+j]'(by omega):=by simp
  have h1:=zKW ((b.drop a).take m) j;rw [hd,hor,hc] at h1;have h2:=(b[a+j]'(by omega)).toNat_lt;refine (znJ (wv':=(hor (((b.drop a).take m).drop j):Nat)) (i':=(j:Int) - 1) ?_).trans (ih (by omega));unfold zdc;rw [uT,uX,zP (show (a:Int)+(((j+1:Nat):Int) - 1)=((a+j:Nat):Int) by push_cast;omega) (by omega),sb,uX,hd,hor,hc]
  grind [wrap_u64]
theorem zMG (hn:n<=9) (hC:C<256) (h9:¬(n=9/\1<C)) (hX:X<128^n):X+128^n*(C%128)<18446744073709551616:=by
 by_cases h9':n=9
 ·subst h9';omega
 ·have h5:128^n<=128^8:=q7 (by omega) (by omega);have h6:C%128<=127:=by omega
  have:=pV h5 h6;omega
theorem ztw (b:List UInt8) (a:Nat) (hb:b.length<=1152921504606846976) (ha:a<=b.length):zaH b a=some (rd (b.drop a)):=by
 unfold zaH;have h1:=zJU b a hb 10 0 rfl (by omega);simp only [xK,yz] at h1;have h1':zdd a b 0=some ((lead 10 (b.drop a):Nat):Int):=h1;rw [h1',sb];have hle:=zCH 10 (b.drop a);have ku:(b.drop a).length=b.length - a:=by simp
 -- the ten bytes that count
 have htake:∀(k:Nat) (l:List UInt8),lead k (l.take k)=lead k l:=by
  intro k
  induction k with
  | zero=>intro l;rfl
  | succ k ih=>intro l;cases l with
   | nil=>rfl
   | cons c t=>simp only [yZ,lead,ih]
 have hs:=zBJ ((b.drop a).take 10) 0 0 (by simp;omega) (by omega);simp only [xK,qF,htake,Nat.pow_zero,yT] at hs;unfold rd;rw [hs];by_cases h10:lead 10 (b.drop a)=10
 ·rw [xr h10,uV];rfl
 ·rw [xq h10,uW,uX];by_cases hl:lead 10 (b.drop a)=(b.drop a).length
  ·rw [xr (show lead 10 (b.drop a)=((b.drop a).take 10).length by rw [xS];omega),uV];rfl
  ·rw [xq (show ¬lead 10 (b.drop a)=((b.drop a).take 10).length by rw [xS];omega),uW];have km:a+lead 10 (b.drop a)<b.length:=by omega
   have hg:((b.drop a).take 10).getD (lead 10 (b.drop a)) 0=b[a+lead 10 (b.drop a)]:=by
    grind
   rw [hg,qo,yU (by omega)];have hc:=(b[a+lead 10 (b.drop a)]).toNat_lt;have hg2:(if (((lead 10 (b.drop a):Nat):Int)==9)=true then (idx b ((a:Int)+((lead 10 (b.drop a):Nat):Int))>>=fun x2=>some (decide ((x2.toNat:Int)>1))) else some false)=some (decide (lead 10 (b.drop a)=9/\1<(b[a+lead 10 (b.drop a)]).toNat)):=by
    grind [zP,sb]
   rw [hg2,sb];by_cases h9:lead 10 (b.drop a)=9/\1<(b[a+lead 10 (b.drop a)]).toNat
   ·rw [xr h9,itT (by simpa using h9)];rfl
   ·rw [xq h9,itF (xU h9)];have hbd:hor ((b.drop a).take (lead 10 (b.drop a)+1))<18446744073709551616:=by
     have hsp:(b.drop a).take (lead 10 (b.drop a)+1)=(b.drop a).take (lead 10 (b.drop a))++[b[a+lead 10 (b.drop a)]]:=by
      rw [uB,qD,xN km];rfl
     rw [hsp,zyu];have h3:=zGC ((b.drop a).take (lead 10 (b.drop a)));have h4:((b.drop a).take (lead 10 (b.drop a))).length=lead 10 (b.drop a):=by simp;omega
     rw [h4] at h3|-;simp only [hor,Nat.mul_zero,yz];exact zMG (by omega) (by omega) h9 h3
    have h2:=zJV b a (lead 10 (b.drop a)+1) hb (by omega) hbd (lead 10 (b.drop a)+1) (xx _);have hz:((b.drop a).take (lead 10 (b.drop a)+1)).drop (lead 10 (b.drop a)+1)=[]:=yo (by simp;omega);rw [hz] at h2;have e3:(((lead 10 (b.drop a)+1:Nat):Int) - 1)=((lead 10 (b.drop a):Nat):Int):=by push_cast;omega
    rw [e3] at h2;have h2':zde a b 0 ((lead 10 (b.drop a):Nat):Int)=some ((hor ((b.drop a).take (lead 10 (b.drop a)+1)):Nat):Int):=h2;rw [h2',sb,uX];simp [rdR]
theorem zBi:∀(k:Nat) (l:List UInt8),lead k (l.take k)=lead k l
 | 0,_=>rfl
 | _+1,[]=>rfl
 | k+1,c::t=>by simp only [yZ,lead,zBi k t]
theorem zBh:∀(k:Nat) (l:List UInt8),(∀y∈l.take (lead k l),128<=y.toNat)/\∀(h:lead k l<l.length),lead k l<k->(l[lead k l]).toNat<128
 | 0,_=>⟨fun y hy=>by simp [lead] at hy,fun _ h=>by omega⟩
 | _+1,[]=>⟨fun y hy=>by simp at hy,fun h=>by simp at h⟩
 | k+1,c::t=>by
  obtain ⟨h1,h2⟩:=zBh k t;by_cases hc:128<=c.toNat
  ·have e:lead (k+1) (c::t)=lead k t+1:=by rw [lead,xr hc]
   grind
  ·have e:lead (k+1) (c::t)=0:=by rw [lead,xq hc]
   grind
theorem zmz (b:List UInt8):rd b=(0,0,4)\/(rd b=(0,0,3)/\b.length<=9)\/
  ∃x c y,b=x++c::y/\(∀z∈x,128<=z.toNat)/\c.toNat<128/\x.length<=9/\hor (x++[c])<18446744073709551616/\rd b=(((hor (x++[c]):Nat):Int),((x.length+1:Nat):Int),0):=by
 have hle:=zCH 10 b;have hs:=zBJ (b.take 10) 0 0 (by simp;omega) (by omega);simp only [xK,qF,zBi,Nat.pow_zero,yT] at hs;unfold rd;rw [hs];by_cases h10:lead 10 b=10
 ·rw [xr h10];exact .inl rfl
 ·rw [xq h10];by_cases hl:lead 10 b=(b.take 10).length
  ·rw [xr hl];refine .inr (.inl ⟨rfl,?_⟩);rw [xS] at hl;omega
  ·rw [xq hl];rw [xS] at hl;have km:lead 10 b<b.length:=by omega
   have hg:(b.take 10).getD (lead 10 b) 0=b[lead 10 b]:=by
    grind
   rw [hg,qo,yU (by omega)];have hc:=(b[lead 10 b]).toNat_lt;by_cases h9:lead 10 b=9/\1<(b[lead 10 b]).toNat
   ·rw [xr h9];exact .inl rfl
   ·rw [xq h9];obtain ⟨hf1,hf2⟩:=zBh 10 b;have hsp:b.take (lead 10 b+1)=b.take (lead 10 b)++[b[lead 10 b]]:=by
     simp_all
    have ku:(b.take (lead 10 b)).length=lead 10 b:=by rw [xS];omega
    refine .inr (.inr ⟨b.take (lead 10 b),b[lead 10 b],b.drop (lead 10 b+1),?_,hf1,hf2 km (by omega),by omega,?_,?_⟩)
    ·simp_all
    ·rw [zyu];have h3:=zGC (b.take (lead 10 b));rw [ku] at h3|-;simp only [hor,Nat.mul_zero,yz];exact zMG (by omega) (by omega) h9 h3
    ·rw [hsp,ku];simp [rdR]
theorem zth (h:v<128):enc v=[UInt8.ofNat v]:=by rw [enc,xr h]
theorem zya (h:¬v<128):enc v=UInt8.ofNat (128+v%128)::enc (v/128):=by rw [enc,xq h]
theorem ziG:∀(v:Nat),(enc v).length=lenN v:=by
 intro v
 induction v using Nat.strongRecOn with
 | _ v ih=>
  grind [zth,zdW,zya,zdB]
theorem ziL {v:Nat} (h:v<18446744073709551616):1<=(enc v).length/\(enc v).length<=10:=by
 rw [ziG];exact ⟨zoB v,zuo h⟩
theorem zMj:∀(v i acc:Nat) (more:List UInt8),v*128^i<18446744073709551616->scan i acc (enc v++more)= .inr (((acc+v*128^i:Nat):Int),((i+(enc v).length:Nat):Int),0):=by
 intro v
 induction v using Nat.strongRecOn with
 | _ v ih=>
  intro i acc more hv;have h9:i=9->v<=1:=fun h=>by
   grind
  by_cases h:v<128
  ·have e:(UInt8.ofNat v).toNat=v:=by simp;omega
   rw [zth h,uC,scan,e,xq (by omega),xr h,qu h];rfl
  ·have e:(UInt8.ofNat (128+v%128)).toNat=128+v%128:=by simp;omega
   rw [zya h,yn,scan,e,xq (by omega),xq (by omega)];have h2:v/128*128^(i+1)<=v*128^i:=by
    rw [yH,qd (128^i) 128,<-q6];exact yI _ (by omega)
   rw [ih (v/128) (by omega) (i+1) _ _ (by omega)];have e3:acc+(128+v%128)%128*128^i+v/128*128^(i+1)=acc+v*128^i:=by
    have e5:v/128*128^(i+1)=v/128*128*128^i:=by rw [yH,qd (128^i) 128,<-q6]
    rw [e5,show (128+v%128)%128=v%128 by omega,qW,<-Nat.add_mul,show v%128+v/128*128=v by omega]
   grind
theorem zzk {v:Nat} (more:List UInt8) (h:v<18446744073709551616):rd (enc v++more)=((v:Int),(((enc v).length:Nat):Int),0):=by
 unfold rd;rw [qV,yR (ziL h).2,zMj v 0 0 _ (by simpa using h)];simp [rdR]
theorem zJW:∀(k v:Nat),v<128^(k+1)->v<18446744073709551616->zcp (k+1) (v:Int)=some (enc v):=by
 intro k
 induction k with
 | zero=>
  intro v hv _;rw [zcp];unfold zfq
  grind [zjV,zfQ,sb,zth]
 | succ k ih=>
  intro v hv h64;rw [zcp];unfold zfq;by_cases h:v<128
  ·grind [zjV,zfQ,sb,zth]
  ·rw [uW,zjV,wrap_u64,wrap_u64,ql (by omega),pX (by omega)];rw [zfQ (n:=128+v%128) (by omega) (by omega),sb];have e:((v:Int)/128%18446744073709551616)=((v/128:Nat):Int):=by omega
   have h2:v/128<128^(k+1):=by rw [yH] at hv;exact Nat.div_lt_of_lt_mul (by omega)
   rw [e,ih _ h2 (by omega),sb]
   grind [ziL,zaQ,sb,zya]
theorem zvS {fuel:Nat} (hf:10<=fuel) {v:Nat} (h:v<18446744073709551616):zcp fuel (v:Int)=some (enc v):=by
 obtain ⟨k,rfl⟩:∃k,fuel=k+1:=⟨fuel - 1,by omega⟩;have h1:128^10<=128^(k+1):=q7 (by omega) hf;exact zJW k v (by omega) h
theorem zMn (v:Nat):shrI .u64 (v:Int) 7=((v/128:Nat):Int):=zuQ (k:= .u64) (a:=v) (b:=7) (by simp [IntKind.bits])
theorem zLu:∀(w n:Nat),n+w<9223372036854775808+w->n+lz w<=1152921504606846976->zkL w n=some ((n+lz w:Nat):Int):=by
 intro w
 induction w using Nat.strongRecOn with
 | _ w ih=>
  intro n hn hl;by_cases h:w=0
  ·subst h;refine zwO ?_;rfl
  ·have e:=zPC h;refine (zwN (wv2':=((w/128:Nat):Int)) (n':=((n+1:Nat):Int)) ?_).trans ?_
   ·grind [ziT,sb,wrap_i64,zMn]
   ·rw [ih (w/128) (by omega) (n+1) (by omega) (by omega)];congr 2;omega
theorem zLt {v:Nat} (h:v<18446744073709551616):zom (v:Int)=some ((lenN v:Nat):Int):=by
 unfold zom;have h1:=zPB v;have h2:=zuo h;have h3:=zLu (v/128) 1 (by omega) (by omega)
 grind [zMn,sb]
theorem zPI:∀n<256,n||| 128=n%128+128:=by decide+kernel
theorem zLR:∀(v:Nat) (l:List UInt8),v<18446744073709551616->l.length+(enc v).length<=1152921504606->∃(v':Nat) (l':List UInt8),ziE (v:Int) l=some ((v':Int),l')/\v'<128/\l'++[UInt8.ofNat v']=l++enc v:=by
 intro v
 induction v using Nat.strongRecOn with
 | _ v ih=>
  intro l hv hl;by_cases h:v<128
  ·refine ⟨v,l,zuZ ?_,h,by rw [zth h]⟩;unfold zgt
   grind
  ·rw [zya h,yk] at hl;obtain ⟨v',l',h1,h2,h3⟩:=ih (v/128) (by omega) (l++[UInt8.ofNat (128+v%128)]) (by omega) (by simp;omega);refine ⟨v',l',?_,h2,by rw [h3,zya h];simp⟩;refine (zuY (wv2':=((v/128:Nat):Int)) (l':=l++[UInt8.ofNat (128+v%128)]) ?_).trans h1;unfold zgt;have e1:(v:Int)%256=((v%256:Nat):Int):=by omega
   have e2:orI .u8 ((v%256:Nat):Int) 128=((v%128+128:Nat):Int):=by
    have:=zxp (k:= .u8) rfl (a:=v%256) (b:=128) (by simp [IntKind.bits];omega) (by simp [IntKind.bits])
    grind [zPI]
   grind [zjV,zfQ,sb,zaQ,zMn]
theorem zHa {v:Nat} (b:List UInt8) (h:v<18446744073709551616) (hb:b.length<=1099511627776):ziP b (v:Int)=some (b++enc v):=by
 unfold ziP;have h1:=zuo h;have h2:=(ziL h).2;rw [zLt h,sb,uX,zNK (by omega) (by omega),sb,zaQ (by simp;omega),sb];obtain ⟨v',l',h3,h4,h5⟩:=zLR v b h (by omega);have ku:l'.length+1=b.length+(enc v).length:=by have:=congrArg List.length h5;simpa using this
 grind [sb,zjV,zfQ,zaQ]
theorem zty (a b:List UInt8):zdw a b=some (a==b):=rfl
def zaU (n w:Int):Bool:=decide (1<=n/\n<=536870911/\(w=0\/w=1\/w=2\/w=5))
def tgR (r:Int×Int×Int):Int×Int×Int×Int:=
 if r.2.2≠0 then (0,0,0,r.2.2) else if 4294967295<r.1\/zaU (r.1/8) (r.1%8)=false then (0,0,0,5) else (r.1/8,r.1%8,r.2.1,0)
def tg (l:List UInt8):Int×Int×Int×Int:=tgR (rd l)
def tW (n w:Int):Nat:=(8*n+w).toNat
theorem zcZ :zaU n w=true↔1<=n/\n<=536870911/\(w=0\/w=1\/w=2\/w=5):=by simp [zaU]
theorem zFl (n w:Int):zfr n w=some (zaU n w):=by
 unfold zfr zaU;simp [Bool.decide_and,Bool.decide_or,Bool.beq_eq_decide_eq]
theorem zhw (l:List UInt8):0<=(rd l).1/\(rd l).1<18446744073709551616/\0<=(rd l).2.1/\(rd l).2.1<=10/\(rd l).2.1<=l.length/\((rd l).2.2=0\/(rd l).2.2=3\/(rd l).2.2=4)/\((rd l).2.2=0->1<=(rd l).2.1):=by
 rcases zmz l with h| ⟨h,_⟩| ⟨x,c,y,e,_,_,hl,hv,h⟩
 ·rw [h];simp
 ·rw [h];simp
 ·have:l.length=x.length+1+y.length:=by rw [e];simp;omega
  rw [h];refine ⟨?_,?_,?_,?_,?_,.inl rfl,fun _=>?_⟩<;>simp only<;>omega
theorem zIF (x:List UInt8) (c:UInt8) (y:List UInt8) (hx:∀z∈x,128<=z.toNat) (hc:c.toNat<128) (hl:x.length<=9) (hv:hor (x++[c])<18446744073709551616):
  rd (x++c::y)=(((hor (x++[c]):Nat):Int),((x.length+1:Nat):Int),0):=by
 have key:∀(x:List UInt8) (z:List UInt8) (i acc:Nat),(∀z∈x,128<=z.toNat)->i+x.length<=9->acc+hor (x++[c])*128^i<18446744073709551616->scan i acc (x++c::z)= .inr (((acc+hor (x++[c])*128^i:Nat):Int),((i+x.length+1:Nat):Int),0):=by
  intro x
  induction x with
  | nil=>
   intro z i acc _ hi hv;have e1:hor ([]++[c])=c.toNat:=by simp [hor];omega
   rw [e1] at hv|-;rw [xH,scan,xq,xr hc,qu hc]
   ·rfl
   ·rintro ⟨rfl,h2⟩;have:=yI (128^9) (show 2<=c.toNat by omega);omega
  | cons d x ih=>
   intro z i acc hx hi hv;simp only [yk] at hi;have hd:=hx d xt;have e5:acc+hor ((d::x)++[c])*128^i=acc+d.toNat%128*128^i+hor (x++[c])*128^(i+1):=by
    rw [yn,hor,yH,Nat.add_mul,qd (128^i) 128,<-q6,qd (hor (x++[c])) 128];omega
   rw [e5] at hv|-;rw [yn,scan,xq (by omega),xq (by omega),ih z (i+1) _ (fun z hz=>hx z (xu _ hz)) (by omega) hv,yk];congr 3;omega
 unfold rd;have e2:(x++c::y).take 10=x++c::y.take (9 - x.length):=by
  rw [qV,yR (by omega),show 10 - x.length=(9 - x.length)+1 by omega,yZ]
 rw [e2,key x _ 0 0 hx (by omega) (by simpa using hv)];simp [rdR]
theorem zsj (l m:List UInt8) (h:(rd l).2.2=0):rd (l++m)=rd l:=by
 rcases zmz l with h'| ⟨h',_⟩| ⟨x,c,y,e,hx,hc,hl,hv,h'⟩
 ·rw [h'] at h;cases h
 ·rw [h'] at h;cases h
 ·rw [h',e,yj,yn,zIF x c _ hx hc hl hv]
theorem zBR (l m:List UInt8) (h:(rd l).2.2=0):tg (l++m)=tg l:=by unfold tg;rw [zsj l m h]
theorem zDx (h:r.2.2≠0):tgR r=(0,0,0,r.2.2):=xr h
theorem zrG (h:r.2.2=0) (h2:4294967295<r.1\/zaU (r.1/8) (r.1%8)=false):tgR r=(0,0,0,5):=by unfold tgR;rw [xq (by simp [h]),xr h2]
theorem zDy (h:r.2.2=0) (h2:¬(4294967295<r.1\/zaU (r.1/8) (r.1%8)=false)):tgR r=(r.1/8,r.1%8,r.2.1,0):=by unfold tgR;rw [xq (by simp [h]),xq h2]
theorem zzL (l:List UInt8):(∃c,tg l=(0,0,0,c)/\(c=3\/c=4\/c=5))\/∃n w k,tg l=(n,w,k,0)/\zaU n w=true/\1<=k/\k<=10/\k<=l.length/\rd l=(8*n+w,k,0):=by
 obtain ⟨h1,h2,h3,h4,h5,h6,h7⟩:=zhw l;unfold tg;by_cases h:(rd l).2.2=0
 ·by_cases hg:4294967295<(rd l).1\/zaU ((rd l).1/8) ((rd l).1%8)=false
  ·exact .inl ⟨5,zrG h hg,by omega⟩
  ·refine .inr ⟨_,_,_,zDy h hg,?_,h7 h,h4,h5,?_⟩
   ·cases ht:zaU ((rd l).1/8) ((rd l).1%8)
    ·exact absurd (.inr ht) hg
    ·rfl
   ·refine pt ?_ (pt rfl h);simp only;omega
 ·exact .inl ⟨_,zDx h,by omega⟩
theorem zDd (b:List UInt8) (a:Nat) (hb:b.length<=1152921504606846976) (ha:a<=b.length):zfY b a=some (tg (b.drop a)):=by
 unfold zfY tg;obtain ⟨h1,h2,h3,h4,h5,h6,h7⟩:=zhw (b.drop a);rw [ztw b a hb ha,sb];by_cases h:(rd (b.drop a)).2.2=0
 ·rw [itF (by simpa using h)];have e1:i64.wrap (u64.wrap (Int.tdiv (rd (b.drop a)).1 8))=(rd (b.drop a)).1/8:=by
   rw [pX h1,wrap_u64,yG (by omega) (by omega),uX]
  have e2:i64.wrap (Int.tmod (rd (b.drop a)).1 8)=(rd (b.drop a)).1%8:=by
   rw [ql h1,uX]
  simp only [e1,e2,zFl,sb];by_cases hg:4294967295<(rd (b.drop a)).1
  ·rw [itT (by simpa using hg),sb,uR,zrG h (.inl hg)]
  ·rw [itF (by simpa using hg),sb];cases ht:zaU ((rd (b.drop a)).1/8) ((rd (b.drop a)).1%8)
   ·rw [uR,zrG h (.inr ht)]
   ·rw [uS,zDy h (by simp [ht];omega)]
 ·rw [itT (by simpa using h),zDx h]
theorem zsZ {n w:Int} (h:zaU n w=true):((tW n w:Nat):Int)=8*n+w/\tW n w<4294967296:=by
 have:=zcZ.1 h;unfold tW;omega
theorem zFg {fuel:Nat} (hf:10<=fuel) {n w:Int} (h:zaU n w=true):zgE fuel n w=some (enc (tW n w)):=by
 have hr:=zcZ.1 h;obtain ⟨e,km⟩:=zsZ h;unfold zgE;have e2:u64.wrap (i64.wrap ((i64.wrap (8*n))+w))=((tW n w:Nat):Int):=by
  rw [wrap_i64 (x:=8*n) (by omega),uX,wrap_u64,yG (by omega) (by omega),e]
 rw [e2,zvS hf (by omega),sb]
theorem zNv {v:Nat} (h:v<34359738368):lenN v<=5:=by
 by_cases h1:v<128
 ·rw [zdW h1];omega
 ·rw [zdB h1];by_cases h2:v/128<128
  ·rw [zdW h2];omega
  ·rw [zdB h2];by_cases h3:v/128/128<128
   ·rw [zdW h3];omega
   ·rw [zdB h3];by_cases h4:v/128/128/128<128
    ·rw [zdW h4];omega
    ·rw [zdB h4,zdW (by omega)];omega
theorem zQa {n w:Int} (more:List UInt8) (h:zaU n w=true):tg (enc (tW n w)++more)=(n,w,((enc (tW n w)).length:Int),0):=by
 have hr:=zcZ.1 h;obtain ⟨e,km⟩:=zsZ h;unfold tg;rw [zzk more (by omega)];have e1:((tW n w:Nat):Int)/8=n:=by omega
 have e2:((tW n w:Nat):Int)%8=w:=by omega
 rw [zDy rfl (by simp only [e1,e2,h];simp;omega)];simp only [e1,e2]
set_option linter.unusedVariables false
abbrev Rec:=zj
def zev (w:Int) (k:Nat) (m:List UInt8):Int⊕(Nat×Nat):=
 if w=0 then (if (rd m).2.2≠0 then .inl (rd m).2.2 else .inr (k,k+(rd m).2.1.toNat))
 else if w=2 then (if (rd m).2.2≠0 then .inl (rd m).2.2 else if (m.length:Int) - (rd m).2.1<(rd m).1 then .inl 3 else .inr (k+(rd m).2.1.toNat,k+(rd m).2.1.toNat+(rd m).1.toNat))
 else if m.length<(if w=5 then 4 else 8) then .inl 3 else .inr (k,k+(if w=5 then 4 else 8))
def rec5 (l:List UInt8):Int⊕(Int×Int×Nat×Nat):=
 if (tg l).2.2.2≠0 then .inl (tg l).2.2.2 else match zev (tg l).2.1 (tg l).2.2.1.toNat (l.drop (tg l).2.2.1.toNat) with
  | .inl c=> .inl c
  | .inr p=> .inr ((tg l).1,(tg l).2.1,p.1,p.2)
theorem zkP (w:Int) (k:Nat) (m:List UInt8):(∃c,zev w k m= .inl c/\(c=3\/c=4))\/
  ∃a t,zev w k m= .inr (a,t)/\k<=a/\a<=t/\t<=k+m.length/\
   (w=0/\a=k/\(rd m).2.2=0/\((t - k:Nat):Int)=(rd m).2.1/\k<t\/w=2/\(rd m).2.2=0/\((a - k:Nat):Int)=(rd m).2.1/\((t - a:Nat):Int)=(rd m).1\/w≠0/\w≠2/\a=k/\t=k+(if w=5 then 4 else 8)):=by
 obtain ⟨h1,h2,h3,h4,h5,h6,h7⟩:=zhw m;unfold zev;by_cases w0:w=0
 ·grind
 ·grind
theorem zCm (w:Int) (k:Nat) (m z:List UInt8) (h:zev w k m= .inr p):zev w k (m++z)= .inr p:=by
 unfold zev at h|-
 grind [zsj]
theorem zhf (l:List UInt8):(∃c,rec5 l= .inl c/\(c=3\/c=4\/c=5))\/
  ∃(n w:Int) (k a t:Nat),rec5 l= .inr (n,w,a,t)/\tg l=(n,w,(k:Int),0)/\zaU n w=true/\zev w k (l.drop k)= .inr (a,t)/\1<=k/\k<=l.length/\k<=a/\a<=t/\t<=l.length/\rd l=(8*n+w,(k:Int),0):=by
 rcases zzL l with ⟨c,h,hc⟩| ⟨n,w,k,h,hr,k1,k2,k3,hrd⟩
 ·grind [rec5]
 ·obtain ⟨k,rfl⟩:∃j:Nat,k=j:=⟨k.toNat,by omega⟩
  have e:rec5 l=match zev w k (l.drop k) with
   | .inl c=> .inl c
   | .inr p=> .inr (n,w,p.1,p.2):=by unfold rec5;rw [h];simp
  rcases zkP w k (l.drop k) with ⟨c,h2,hc⟩| ⟨a,t,h2,g1,g2,g3,_⟩
  ·grind
  grind
theorem zrs (l z:List UInt8) (h:rec5 l= .inr r):rec5 (l++z)= .inr r:=by
 rcases zhf l with ⟨c,h',_⟩| ⟨n,w,k,a,t,h',htg,_,hb,_,hk,_,_,_,hrd⟩
 ·grind
 grind [rec5,zBR,zCm]
def zrec:Rec:=⟨0,0,0,0,0⟩
def zbm (b:List UInt8) (at5:Int):Rec×Int:=if at5<0\/at5>=b.length then (zrec,2) else match rec5 (b.drop at5.toNat) with
 | .inl c=>(zrec,c)
 | .inr (n,w,a,t)=>(⟨n,w,at5,at5+a,at5+t⟩,0)
theorem zFk (hb:b.length<=140737488355328) (at5:Int):zdx b at5=some (zbm b at5):=by
 unfold zdx zbm;by_cases h:at5<0\/at5>=b.length
 ·rw [itT (by simpa using h),xr h];rfl
 ·rw [itF (by simpa using h),xq h];obtain ⟨p,rfl⟩:∃p:Nat,at5=p:=⟨at5.toNat,by omega⟩;rw [zDd b p (by omega) (by omega),sb,xD];have hdl:(b.drop p).length=b.length - p:=by simp
  rcases zzL (b.drop p) with ⟨c,ht,hc⟩| ⟨n,w,k,ht,hr,k1,k2,k3,hrd⟩
  ·have e:rec5 (b.drop p)= .inl c:=by unfold rec5;rw [ht,xr (by simp only;omega)]
   rw [e,ht,uV];rfl
  ·obtain ⟨k,rfl⟩:∃j:Nat,k=j:=⟨k.toNat,by omega⟩
   have e:rec5 (b.drop p)=match zev w k ((b.drop p).drop k) with
    | .inl c=> .inl c
    | .inr p=> .inr (n,w,p.1,p.2):=by unfold rec5;rw [ht];simp
   have hdd:(b.drop p).drop k=b.drop (p+k):=by rw [yb]
   have hml:(b.drop (p+k)).length=b.length - (p+k):=by simp
   obtain ⟨h1,h2,h3,h4,h5,h6,h7⟩:=zhw (b.drop (p+k));rw [e,ht,uU,hdd];have ew:i64.wrap ((p:Int)+k)=((p+k:Nat):Int):=by rw [uX];push_cast;rfl
   have er:i64.wrap ((b.length:Int) - ((p+k:Nat):Int))=((b.length - (p+k):Nat):Int):=by rw [uX];omega
   simp only [ew,er];have hw:=(zcZ.1 hr).2.2;rcases hw with rfl| rfl| rfl| rfl
   ·-- a varint
    rw [uS,sb,uR,ztw b (p+k) (by omega) (by omega),sb];by_cases g:(rd (b.drop (p+k))).2.2=0
    ·grind [zev,sb,wrap_i64]
    ·have hb5:zev 0 k (b.drop (p+k))= .inl (rd (b.drop (p+k))).2.2:=by unfold zev;rw [xr rfl,xr g]
     rw [itT (by simpa using g),sb,hb5];rfl
   ·rw [uS,sb,uS,sb];simp only;rw [uS,sb];unfold zev;rw [xq (by omega),xq (by omega)];simp only;by_cases g:b.length - (p+k)<8
    ·rw [uV,xr (by simpa [hml] using g)];rfl
    grind [wrap_i64]
   ·rw [uS,sb,uS,sb];simp only;rw [uR,ztw b (p+k) (by omega) (by omega),sb];by_cases g:(rd (b.drop (p+k))).2.2=0
    ·have:=h7 g;have e1:i64.wrap (((b.length - (p+k):Nat):Int) - (rd (b.drop (p+k))).2.1)=((b.drop (p+k)).length:Int) - (rd (b.drop (p+k))).2.1:=by rw [uX,hml]
     have e2:u64.wrap (((b.drop (p+k)).length:Int) - (rd (b.drop (p+k))).2.1)=((b.drop (p+k)).length:Int) - (rd (b.drop (p+k))).2.1:=by rw [wrap_u64,yG (by omega) (by omega)]
     rw [itF (by simpa using g)];simp only [e1,e2];by_cases g2:((b.drop (p+k)).length:Int) - (rd (b.drop (p+k))).2.1<(rd (b.drop (p+k))).1
     ·have hb5:zev 2 k (b.drop (p+k))= .inl 3:=by unfold zev;rw [xq (by omega),xr rfl,xq (by simpa using g),xr g2]
      rw [itT (by simpa using g2),sb,hb5];rfl
     grind [zev,sb,wrap_i64]
    ·have hb5:zev 2 k (b.drop (p+k))= .inl (rd (b.drop (p+k))).2.2:=by unfold zev;rw [xq (by omega),xr rfl,xr g]
     rw [itT (by simpa using g),sb,hb5];rfl
   ·rw [uR,sb,uS,sb];simp only;rw [uS,sb];unfold zev;rw [xq (by omega),xq (by omega)];simp only;by_cases g:b.length - (p+k)<4
    ·rw [uV,xr (by simpa [hml] using g)];rfl
    grind [wrap_i64]
theorem ztv {b:List UInt8} (hb:b.length<=1048576) (at5:Int):zdx b at5=some (zbm b at5):=zFk (by omega) at5
def spl (base:Nat) (l:List UInt8):List Rec×Option (Nat×Int):=
 if hl:l=[] then ([],none) else match h:rec5 l with
  | .inl c=>([],some (base,c))
  | .inr (n,w,a,t)=>(⟨n,w,base,(base+a:Nat),(base+t:Nat)⟩::(spl (base+t) (l.drop t)).1,(spl (base+t) (l.drop t)).2)
termination_by l.length
decreasing_by
 all_goals
  rcases zhf l with ⟨c',h',_⟩| ⟨n',w',k',a',t',h',_,_,_,g1,g2,g3,g4,g5,_⟩
  ·rw [h'] at h;cases h
  ·rw [h'] at h;cases h;simp only [xR];omega
theorem zdr (base:Nat):spl base []=([],none):=by rw [spl,dif_pos rfl]
theorem zfJ (hl:l≠[]) (h:rec5 l= .inl c):spl base l=([],some (base,c)):=by
 rw [spl,dif_neg hl]
 grind
theorem zbW (hl:l≠[]) (h:rec5 l= .inr (n,w,a,t)):
  spl base l=(⟨n,w,base,(base+a:Nat),(base+t:Nat)⟩::(spl (base+t) (l.drop t)).1,(spl (base+t) (l.drop t)).2):=by
 rw [spl,dif_neg hl];split
 ·grind
 ·grind
theorem zgz (P:Nat->List UInt8->Prop) (h0:∀base,P base []) (he:∀base l c,l≠[]->rec5 l= .inl c->(c=3\/c=4\/c=5)->P base l)
  (hc:∀base l (n w:Int) (a t:Nat),l≠[]->rec5 l= .inr (n,w,a,t)->zaU n w=true->1<=a->a<=t->t<=l.length->P (base+t) (l.drop t)->P base l) (base:Nat) (l:List UInt8):P base l:=by
 generalize hn:l.length=m
 induction m using Nat.strongRecOn generalizing base l with
 | _ m ih=>
  by_cases hl:l=[]
  ·grind
  ·rcases zhf l with ⟨c,h,hc'⟩| ⟨n,w,k,a,t,h,_,hr,_,g1,g2,g3,g4,g5,_⟩
   ·grind
   ·exact hc base l n w a t hl h hr (by omega) g4 g5 (ih _ (by simp only [xR];omega) _ _ rfl)
def splR (r:List Rec×Option (Nat×Int)):List Rec×Int×Int:=match r.2 with
 | none=>(r.1,0,0)
 | some (p,c)=>([],p,c)
theorem zIM (base:Nat) (l:List UInt8):(spl base l).1.length<=l.length:=by
 refine zgz (fun base l=>(spl base l).1.length<=l.length) ?_ ?_ ?_ base l
 ·intro base;rw [zdr];simp
 ·intro base l c hl h _;rw [zfJ hl h];simp
 ·intro base l n w a t hl h _ g1 g2 g3 ih;rw [zbW hl h]
  grind
theorem zMq (base:Nat) (l:List UInt8):∀p c,(spl base l).2=some (p,c)->(c=3\/c=4\/c=5)/\base<=p/\p<base+l.length:=by
 refine zgz (fun base l=>∀p c,(spl base l).2=some (p,c)->(c=3\/c=4\/c=5)/\base<=p/\p<base+l.length) ?_ ?_ ?_ base l
 ·intro base p c h;rw [zdr] at h;cases h
 ·intro base l c' hl h hc p c h2;rw [zfJ hl h] at h2;cases h2
  grind
 ·intro base l n w a t hl h _ g1 g2 g3 ih p c h2;rw [zbW hl h] at h2
  grind
theorem zAy {b:List UInt8} (hb:b.length<=1048576) (base:Nat) (l:List UInt8):∀(out:List Rec),base<=b.length->l=b.drop base->out.length<=base->
  zbJ b out base=some (match (spl base l).2 with| none=> .inl (out++(spl base l).1)| some (p,c)=> .inr ((p:Int),c)):=by
 refine zgz (fun base l=>∀(out:List Rec),base<=b.length->l=b.drop base->out.length<=base->
  zbJ b out base=some (match (spl base l).2 with| none=> .inl (out++(spl base l).1)| some (p,c)=> .inr ((p:Int),c))) ?_ ?_ ?_ base l
 ·intro base out hbase hl ho;have:b.length<=base:=by have:=congrArg List.length hl;simp at this;omega
  rw [zdr,xQ];refine zij ?_;unfold zbh
  grind
 ·intro base l c hl h hc out hbase hld ho;subst hld;have km:base<b.length:=by have:=qe.2 hl;simp at this;omega
  rw [zfJ hl h];refine zij ?_;unfold zbh
  grind [zbm,ztv,sb]
 ·intro base l n w a t hl h _ g1 g2 g3 ih out hbase hld ho;subst hld;simp only [xR] at g3;have km:base<b.length:=by omega
  rw [zbW hl h];have e:zbm b base=(⟨n,w,base,(base:Int)+a,(base:Int)+t⟩,0):=by unfold zbm;rw [xq (by omega),xD,h]
  refine (zmR (kV:=out++[⟨n,w,base,(base+a:Nat),(base+t:Nat)⟩]) (atv':=((base+t:Nat):Int)) ?_).trans ?_
  ·unfold zbh
   grind [ztv,sb,zaQ]
  ·rw [ih _ (by omega) (by rw [yb]) (by simp;omega)]
   grind
theorem zFm {b:List UInt8} (hb:b.length<=1048576):zft b=some (splR (spl 0 b)):=by
 unfold zft;have h:=zAy hb 0 b [] (xC _) rfl (xx _);have h':zbJ b [] 0=_:=h;rw [h',sb];unfold splR;cases (spl 0 b).2 with
 | none=>rfl
 | some p=>rfl
def zmG (d:Nat) (r:Rec):Rec:=⟨r.Number,r.Wire,r.From+d,r.At+d,r.To+d⟩
theorem zBM (d:Nat) (base:Nat) (l:List UInt8):spl (base+d) l=((spl base l).1.map (zmG d),(spl base l).2.map fun p=>(p.1+d,p.2)):=by
 refine zgz (fun base l=>spl (base+d) l=((spl base l).1.map (zmG d),(spl base l).2.map fun p=>(p.1+d,p.2))) ?_ ?_ ?_ base l
 ·intro base;rw [zdr,zdr];rfl
 ·intro base l c hl h _;rw [zfJ hl h,zfJ hl h];rfl
 ·intro base l n w a t hl h _ g1 g2 g3 ih;rw [zbW hl h,zbW hl h,show base+d+t=base+t+d by omega,ih];simp only [xJ,zmG,yy,yM,zj.mk.injEq,qz,qy];push_cast;omega
theorem zzG (m:List UInt8) (base:Nat) (l:List UInt8):(spl base l).2=none->spl base (l++m)=((spl base l).1++(spl (base+l.length) m).1,(spl (base+l.length) m).2):=by
 refine zgz (fun base l=>(spl base l).2=none->spl base (l++m)=((spl base l).1++(spl (base+l.length) m).1,(spl (base+l.length) m).2)) ?_ ?_ ?_ base l
 ·intro base _;rw [zdr];simp
 ·intro base l c hl h _ h2;rw [zfJ hl h] at h2;cases h2
 ·intro base l n w a t hl h _ g1 g2 g3 ih h2;rw [zbW hl h] at h2|-;rw [zbW (by simp [hl]) (zrs l m h),pr g3,ih h2]
  grind
def zbt (w:Int) (v:List UInt8):Bool:=
 if w=0 then decide ((rd v).2.2=0/\(rd v).2.1=v.length) else decide (w=2\/w=1/\v.length=8\/w=5/\v.length=4)
def put5 (n w:Int) (v:List UInt8):List UInt8:=enc (tW n w)++(if w=2 then enc v.length else [])++v
theorem zHe (w:Int) {v:List UInt8} (hv:v.length<=1048576):zga w v=some (zbt w v):=by
 unfold zga zbt;by_cases h:w=0
 ·have:=ztw v 0 (by omega) (xC _);rw [yc] at this;have h':zaH v 0=some (rd v):=this;rw [itT (by simpa using h),xr h,h',sb];simp [Bool.decide_and,Bool.beq_eq_decide_eq]
 ·rw [itF (by simpa using h),xq h];congr 1
  grind [ztO]
theorem zNb (v:Nat):1<=(enc v).length:=by rw [ziG];exact zoB v
theorem zny {fuel:Nat} (hf:10<=fuel) {n w:Int} {v:List UInt8} (h:zaU n w=true) (hv:v.length<=1048576):zdh fuel n w v=some (put5 n w v):=by
 obtain ⟨_,km⟩:=zsZ h;have h1:=ziL (v:=tW n w) (by omega);have h2:=ziL (v:=v.length) (by omega);unfold zdh put5;rw [zFg hf h,sb];by_cases hw:w=2
 ·rw [itT (by simpa using hw),xr hw];have e:u64.wrap (v.length:Int)=(v.length:Int):=by rw [wrap_u64,yG (by omega) (by omega)]
  grind [zvS,sb,zaQ]
 grind [zaQ,sb]
theorem zFf {n w:Int} {v:List UInt8} (z:List UInt8) (h:zaU n w=true) (hf:zbt w v=true) (hv:v.length<=1048576):
  rec5 (put5 n w v++z)= .inr (n,w,(put5 n w v).length - v.length,(put5 n w v).length):=by
 obtain ⟨_,km⟩:=zsZ h;have hen:=ziL (v:=v.length) (by omega);have e:tg (put5 n w v++z)=(n,w,((enc (tW n w)).length:Int),0):=by
  grind [put5,sb,wrap_i64,zQa]
 have hd:(put5 n w v++z).drop (enc (tW n w)).length=(if w=2 then enc v.length else [])++v++z:=by
  unfold put5
  grind
 unfold rec5;rw [e];simp only [yK,yQ,yp,xD];rw [hd];have hw:=(zcZ.1 h).2.2;unfold zbt at hf;rcases hw with rfl| rfl| rfl| rfl
 ·rw [xr rfl] at hf;obtain ⟨f1,f2⟩:=yx hf;have hb:zev 0 (enc (tW n 0)).length ((if (0:Int)=2 then enc v.length else [])++v++z)= .inr ((enc (tW n 0)).length,(enc (tW n 0)).length+v.length):=by
   grind [zev,zsj]
  rw [hb];simp [put5]
 ·grind [zev]
 ·grind [zev,zzk]
 ·grind [zev]
theorem ziz (n w:Int) (v:List UInt8):(put5 n w v).length=(enc (tW n w)).length+(if w=2 then (enc v.length).length else 0)+v.length:=by
 unfold put5
 grind
theorem zOe {n w:Int} {v:List UInt8} (h:zaU n w=true) (hf:zbt w v=true) (hv:v.length<=1048576):
  spl 0 (put5 n w v)=([⟨n,w,0,(((put5 n w v).length - v.length:Nat):Int),((put5 n w v).length:Int)⟩],none):=by
 have h1:=zFf [] h hf hv;rw [xQ] at h1;have kO:put5 n w v≠[]:=fun e=>by
  grind [ziz,zNb]
 rw [zbW kO h1,pD,zdr];simp
theorem zCy {l:List UInt8} {k:Nat} (h:rd l=((rd l).1,(k:Int),0)):(enc (rd l).1.toNat).length<=k:=by
 rcases zmz l with h'| ⟨h',_⟩| ⟨x,c,y,e,hx,hc,hl,hv,h'⟩
 ·grind
 ·grind
 ·rw [h'] at h|-;have hk:(x.length:Int)+1=k:=by have:=congrArg (fun p=>p.2.1) h;simpa using this
  simp only [xD];have h1:=zGC (x++[c]);rw [ziG];have key:∀(j v:Nat),v<128^(j+1)->lenN v<=j+1:=by
   intro j
   induction j with
   | zero=>intro v hv;rw [zdW (by omega)];omega
   | succ j ih=>
    grind [zdW,zdB]
  grind
theorem zzl {l:List UInt8} {n w:Int} {a t:Nat} (h:rec5 l= .inr (n,w,a,t)):
  zbt w ((l.drop a).take (t - a))=true/\((l.drop a).take (t - a)).length=t - a/\(put5 n w ((l.drop a).take (t - a))).length<=t:=by
 rcases zhf l with ⟨c,h',_⟩| ⟨n',w',k,a',t',h',_,hr,hb,g1,g2,g3,g4,g5,hrd⟩
 ·grind
 ·rw [h'] at h;cases h;have ku:((l.drop a).take (t - a)).length=t - a:=by simp;omega
  have hm:=zCy (l:=l) (k:=k) (by rw [hrd]);have e1:(rd l).1.toNat=tW n w:=by rw [hrd];rfl
  rw [e1] at hm;refine ⟨?_,ku,?_⟩
  ·rcases zkP w k (l.drop k) with ⟨c,hc,_⟩| ⟨a2,t2,h2,k1,k2,k3,hcase⟩
   ·grind
   ·rw [h2] at hb;cases hb;unfold zbt;rcases hcase with ⟨rfl,rfl,f1,f2,f3⟩| ⟨rfl,f1,f2,f3⟩| ⟨w0,w2,rfl,f1⟩
    ·rw [xr rfl]
     -- what is read is the value alone
     have hv:rd ((l.drop a).take (t - a))=rd (l.drop a):=by
      rcases zmz (l.drop a) with h6| ⟨h6,_⟩| ⟨x,c,y,e,hx,hc,hl,hv,h6⟩
      ·grind
      ·grind
      ·rw [h6] at f2;have e7:t - a=(x++[c]).length:=by simp at f2|-;omega
       grind [zIF]
     grind
    ·rfl
    grind [zcZ]
  ·rw [ziz,ku];rcases zkP w k (l.drop k) with ⟨c,hc,_⟩| ⟨a2,t2,h2,k1,k2,k3,hcase⟩
   ·grind
   ·rw [h2] at hb;cases hb;by_cases hw2:w=2
    ·rw [xr hw2];rcases hcase with ⟨rfl,_⟩| ⟨_,f1,f2,f3⟩| ⟨_,w2,_⟩
     ·omega
     ·have hm2:=zCy (l:=l.drop k) (k:=a - k) (by rw [f2];exact pt rfl (pt rfl f1))
      grind
     grind
    grind
theorem zIG (l:List UInt8) {j:Nat} (h:(rd l).2.2=0) (hj:(rd l).2.1<=j):rd (l.take j)=rd l:=by
 rcases zmz l with h6| ⟨h6,_⟩| ⟨x,c,y,e,hx,hc,hl,hv,h6⟩
 ·grind
 ·grind
 ·rw [h6] at hj;have hj':(x++[c]).length<=j:=by simp at hj|-;omega
  have:l.take j=x++c::y.take (j - (x++[c]).length):=by
   rw [e,List.append_cons x c y,qV,yR hj',<-List.append_cons]
  rw [this,zIF x c _ hx hc hl hv,h6]
theorem zGl (h:zev w k m= .inr (a,t)):zev w k (m.take (t - k))= .inr (a,t):=by
 rcases zkP w k m with ⟨c,hc,_⟩| ⟨a2,t2,h2,k1,k2,k3,hcase⟩
 ·grind
 grind [zev,zIG]
theorem zsk (h:rec5 l= .inr (n,w,a,t)):rec5 (l.take t)= .inr (n,w,a,t):=by
 rcases zhf l with ⟨c,h',_⟩| ⟨n',w',k,a',t',h',htg,hr,hb,g1,g2,g3,g4,g5,hrd⟩
 ·grind
 ·rw [h'] at h;cases h;have hr1:=zIG l (j:=t) (by rw [hrd]) (by rw [hrd];simp only;omega);have e:tg (l.take t)=(n,w,(k:Int),0):=by
   have:=zBR (l.take t) (l.drop t) (by rw [hr1,hrd]);simp_all
  unfold rec5;rw [e];simp only [yK,yQ,yp,xD];rw [qx,zGl hb]
theorem zDr (b:List UInt8) (base:Nat) (l:List UInt8):l=b.drop base->base<=b.length->∀r∈(spl base l).1,∃(n w:Int) (f a t:Nat),r=⟨n,w,(f:Int),((f+a:Nat):Int),((f+t:Nat):Int)⟩/\rec5 (b.drop f)= .inr (n,w,a,t)/\1<=a/\a<=t/\f+t<=b.length:=by
 refine zgz (fun base l=>l=b.drop base->base<=b.length->∀r∈(spl base l).1,∃(n w:Int) (f a t:Nat),r=⟨n,w,(f:Int),((f+a:Nat):Int),((f+t:Nat):Int)⟩/\rec5 (b.drop f)= .inr (n,w,a,t)/\1<=a/\a<=t/\f+t<=b.length) ?_ ?_ ?_ base l
 ·intro base _ _ r hr;rw [zdr] at hr;cases hr
 ·intro base l c hl h _ _ _ r hr;rw [zfJ hl h] at hr;cases hr
 ·intro base l n w a t hl h _ g1 g2 g3 ih hld hbase r hr;have ku:l.length=b.length - base:=by rw [hld];simp
  rw [zbW hl h] at hr;rcases xy.1 hr with rfl| hr
  ·grind
  ·exact ih (by rw [hld,yb]) (by omega) r hr
theorem zLK (k:IntKind) (a b:Int):orI k a b=bits .or k a b:=rfl
theorem zEQ (w:Int):zkg w=some (w%4294967296):=by unfold zkg;rw [zGa]
theorem zKa (w:Int):zkN w=some (sgnS w):=by
 unfold zkN;rw [zEQ,sb,zKs];unfold sgnS;congr 1;split<;>split<;>omega
theorem zKp (h: -2147483648<=n/\n<=2147483647):zkO n=some (zpV n):=by
 unfold zkO;rw [uX,wrap_u64];unfold zpV;congr 1;split<;>omega
theorem zHk (h:0<=w/\w<=18446744073709551615):zeW w=some (sgnS w):=by
 unfold zeW;rw [ql h.1,wrap_i64 (x:=w%4294967296) (by omega)];unfold sgnS;by_cases h2:w%4294967296<2147483648
 ·rw [uW,xr h2]
 ·rw [uV,xq h2,uX]
theorem zMg (h: -9223372036854775808<=n/\n<=9223372036854775807):zfW n=some (zpV n):=by
 unfold zfW zpV;by_cases h0:0<=n
 ·rw [uV,xr h0,wrap_u64,yG (by omega) (by omega)]
 ·rw [uW,xq h0];simp (disch:=omega) only [wrap_i64,wrap_u64];congr 1;omega
theorem zEO {v:List UInt8} {m k j:Nat} (hk:k<=8) (hv:v.length=k) (hj:j<k):zeu v (m:Int) (zif k m j) (j:Int)=some (.inl (zif k m (j+1),((j+1:Nat):Int))):=by
 have ku:=zyE (n:=k) (m:=m) (j:=j) (by omega);unfold zeu;have e1:i64.wrap (8*(j:Int))=((8*j:Nat):Int):=by rw [uX];push_cast;rfl
 rw [uV,e1,zMm,sb,zP rfl (show j<(zif k m j).length by omega),sb,zuQ (by simp [IntKind.bits];omega),zxt,zjV,zwt,zxQ rfl,sb,xD,zEM hj,uX];rfl
theorem zEN {v:List UInt8} {m k:Nat} (hk:k<=8) (hv:v.length=k):∀(d j:Nat),j+d=k->zgB v (m:Int) (zif k m j) (j:Int)=some (zfd k m):=by
 intro d
 induction d with
 | zero=>
  intro j hj;refine zte ?_;unfold zeu;have:j=k:=by omega
  subst this;rw [uW,zEL]
 | succ d ih=>
  intro j hj;rw [ztd (zEO hk hv (by omega))];exact ih (j+1) (by omega)
theorem zBj {m:Nat} (n:Int):zkM (m:Int) n=some (zfd (min n.toNat 8) m):=by
 unfold zkM;have e:(if (8:Int)<(if n<0 then 0 else n) then (8:Int) else (if n<0 then 0 else n))=((min n.toNat 8:Nat):Int):=by split<;>split<;>omega
 rw [e,zGP rfl (Int.le_refl _) (by omega),sb];have h:=zEN (v:=List.replicate (min n.toNat 8) (0:UInt8)) (m:=m) (k:=min n.toNat 8) (by omega) (by simp) (min n.toNat 8) 0 (by omega);rw [zCJ] at h;have h':zgB (List.replicate (min n.toNat 8) (0:UInt8)) (m:Int) (List.replicate (min n.toNat 8) (0:UInt8)) 0=some (zfd (min n.toNat 8) m):=h;rw [h',sb]
theorem zDj {m k:Nat} {n:Int} (hm:m<18446744073709551616) (hk:k=min n.toNat 8):∀(d j:Nat),j+d=k->zco n ((m/256^j:Nat):Int) (zfd j m) (j:Int)=some (zfd k m):=by
 intro d
 induction d with
 | zero=>
  intro j hj;refine zmc ?_;unfold zby;have:j=k:=by omega
  subst this;rw [uW]
 | succ d ih=>
  intro j hj;have ku:=zaB j m;refine (zmb (wv2':=((m/256^(j+1):Nat):Int)) (kV:=zfd (j+1) m) (i':=((j+1:Nat):Int)) ?_).trans (ih (j+1) (by omega));unfold zby;have h1:(0:Int)<=((m/256^j:Nat):Int):=Int.natCast_nonneg _;rw [uV,ql h1,zjV,Int.emod_emod_of_dvd _ (Int.dvd_refl _),zwt,zxQ rfl,sb,zaQ (by simp;omega),sb,<-zqV,pX h1,uX];have e:u64.wrap (((m/256^j:Nat):Int)/256)=((m/256^(j+1):Nat):Int):=by
   have hq:m/256^j<=m:=Nat.div_le_self _ _;rw [yH,<-Nat.div_div_eq_div_mul]
   generalize m/256^j=q at hq
   rw [wrap_u64,yG (by omega) (by omega)];omega
  rw [e];rfl
theorem zzw {m:Nat} (hm:m<18446744073709551616) (n:Int):zdH (m:Int) n=some (zfd (min n.toNat 8) m):=by
 unfold zdH;have h:=zDj (n:=n) hm rfl (min n.toNat 8) 0 (by omega);rw [Nat.pow_zero,Nat.div_one] at h;have h':zco n (m:Int) [] 0=some (zfd (min n.toNat 8) m):=h;rw [h',sb]
theorem zBQ {l:List UInt8} {j:Nat} (h:j<l.length):l.take (j+1)=l.take j++[l[j]]:=by rw [uB,xN h];rfl
theorem zKr {v:List UInt8} (hv:v.length<=8):∀(d j:Nat),j+d=v.length->zia v ((word (v.take j):Nat):Int) (j:Int)=some ((word v:Nat):Int):=by
 intro d
 induction d with
 | zero=>
  intro j hj;refine zvn ?_;unfold zgU;rw [uW,yR (by omega)]
 | succ d ih=>
  intro j hj;have hl:(v.take j).length=j:=by simp;omega
  have hw:=zxz (v.take j);rw [hl] at hw;refine (zvm (wv':=((word (v.take (j+1)):Nat):Int)) (v2':=((j+1:Nat):Int)) ?_).trans (ih (j+1) (by omega));unfold zgU;have hc:=(v[j]'(by omega)).toNat_lt;have e1:i64.wrap (8*(j:Int))=((8*j:Nat):Int):=by rw [uX];push_cast;rfl
  have e2:shlI .u64 (u64.wrap ((v[j]'(by omega)).toNat:Int)) ((8*j:Nat):Int)=u64.wrap (((v[j]'(by omega)).toNat:Int)*2^(8*j)):=by
   unfold shlI;rw [xD,yU (by simp [IntKind.bits];omega),wrap_u64 ((v[j]'(by omega)).toNat:Int),yG (by omega) (by omega)]
  rw [uV,zP rfl (show j<v.length by omega),sb,e1,zFy,sb,e2,zLK,zOs _ _ _ (by omega) (by omega) hw,zBQ (show j<v.length by omega),zwc,hl,uX];rfl
theorem zOr (b:List UInt8):zon b=some ((word (b.take 8):Nat):Int):=by
 unfold zon;have e:(if (8:Int)<(b.length:Int) then (8:Int) else (b.length:Int))=((min 8 b.length:Nat):Int):=by split<;>omega
 have e2:b.take (min 8 b.length)=b.take 8:=by rw [uA];omega
 rw [e,ztT rfl (by omega),sb,e2];have h:=zKr (v:=b.take 8) (by simp;omega) (b.take 8).length 0 (by omega);have h':zia (b.take 8) 0 0=some ((word (b.take 8):Nat):Int):=h;rw [h',sb]
theorem zHl {b:List UInt8} (hb:b.length<=1152921504606846976):∀(d j:Nat),j+d=min 8 b.length->zdb b ((word (b.take j):Nat):Int) ((256^j%18446744073709551616:Nat):Int) (j:Int)=some ((word (b.take 8):Nat):Int):=by
 intro d
 induction d with
 | zero=>
  intro j hj;refine znH ?_;unfold zcb;have e:b.take j=b.take 8:=by rw [uA];omega
  rw [uW,e]
 | succ d ih=>
  intro j hj;have hl:(b.take j).length=j:=by simp;omega
  have hw:=zxz (b.take j);rw [hl] at hw;refine (znG (wv':=((word (b.take (j+1)):Nat):Int)) (place':=((256^(j+1)%18446744073709551616:Nat):Int)) (i':=((j+1:Nat):Int)) ?_).trans (ih (j+1) (by omega));unfold zcb;have hc:=(b[j]'(by omega)).toNat_lt;rw [uV,zP rfl (show j<b.length by omega),sb,wrap_u64 ((b[j]'(by omega)).toNat:Int),yG (by omega) (by omega),zMM _ _ _ (by omega) (by omega) hw,zBQ (show j<b.length by omega),zwc,hl,uX,<-zGZ];rfl
theorem zMh {b:List UInt8} (hb:b.length<=1152921504606846976):zfX b=some ((word (b.take 8):Nat):Int):=by
 unfold zfX;have h:=zHl hb (min 8 b.length) 0 (by omega);have h':zdb b 0 1 0=some ((word (b.take 8):Nat):Int):=h;rw [h',sb]
def zbb (k:Int):Bool:=decide (1<=k/\k<=17)
def kNum (k:Int):Bool:=decide (1<=k/\k<=14)
def zab (k:Int):Int:=if 15<=k then 2 else if 12<=k then 1 else if 9<=k then 5 else 0
def zbg (k w:Int):Int:=
 if k=1\/k=8 then zpV (sgnS w) else if k=3\/k=5\/k=9\/k=10\/k=11 then w%4294967296 else if k=7 then (if 0<w then 1 else 0) else w
theorem zuG (k:Int):zed k=some (zbb k):=by unfold zed zbb;simp [Bool.decide_and]
theorem zkv (k:Int):zaF k=some (kNum k):=by unfold zaF kNum;simp [Bool.decide_and]
theorem zrv (k:Int):zcC k=some (zab k):=by
 unfold zcC zab;by_cases h1:15<=k
 ·rw [itT (by simpa using h1),xr h1]
 ·rw [itF (by simpa using h1),xq h1];by_cases h2:12<=k
  ·rw [itT (by simpa using h2),xr h2]
  ·rw [itF (by simpa using h2),xq h2];by_cases h3:9<=k
   ·rw [itT (by simpa using h3),xr h3]
   ·rw [itF (by simpa using h3),xq h3]
theorem zru (k:Int) (h:0<=w/\w<=18446744073709551615):zcW k w=some (zbg k w):=by
 have hs:=zDo w;unfold zcW zbg;by_cases h1:k=1\/k=8
 ·rw [xr h1];have e:(if (k==1)=true then some (k==1) else some (k==8))=some true:=by rcases h1 with rfl| rfl<;>rfl
  rw [e,sb,itT rfl,zHk h,sb,zMg (by omega),sb]
 ·rw [xq h1];have e:(if (k==1)=true then some (k==1) else some (k==8))=some false:=by rw [uW];simp;omega
  rw [e,sb,itF rfl];by_cases h2:k=3\/k=5\/k=9\/k=10\/k=11
  ·rw [xr h2];have e2:(if (k==3)=true then some (k==3) else if (k==5)=true then some (k==5) else if (k==9)=true then some (k==9) else if (k==10)=true then some (k==10) else some (k==11))=some true:=by
    rcases h2 with rfl| rfl| rfl| rfl| rfl<;>rfl
   rw [e2,sb,itT rfl,ql h.1]
  ·rw [xq h2];have e2:(if (k==3)=true then some (k==3) else if (k==5)=true then some (k==5) else if (k==9)=true then some (k==9) else if (k==10)=true then some (k==10) else some (k==11))=some false:=by
    rw [uW,uW,uW,uW];simp;omega
   rw [e2,sb,itF rfl];by_cases h7:k=7
   ·rw [itT (by simpa using h7),xr h7];by_cases h0:0<w
    ·rw [itT (by simpa using h0),xr h0]
    ·rw [itF (by simpa using h0),xq h0]
   ·rw [itF (by simpa using h7),xq h7]
theorem zhk (k:Int) (h:0<=w/\w<=18446744073709551615):0<=zbg k w/\zbg k w<=18446744073709551615:=by
 have hs:=zDo w;unfold zbg;split
 ·exact zOp (by omega)
 ·split
  ·omega
  ·split
   ·split<;>omega
   ·exact h
theorem zKC {k:Int} {w:Int} (h9:9<=k) (h12:k<12):zbg k w<4294967296:=by
 unfold zbg;rw [xq (by omega),xr (by omega)];omega
theorem znm (k:Int) {w:Int} (h:0<=w/\w<=18446744073709551615):zbg k (zbg k w)=zbg k w:=by
 have hs:=zDo w;unfold zbg;by_cases h1:k=1\/k=8
 ·simp only [xr h1];rw [zMl hs]
 ·simp only [xq h1];by_cases h2:k=3\/k=5\/k=9\/k=10\/k=11
  ·simp only [xr h2];omega
  ·simp only [xq h2];by_cases h7:k=7
   ·simp only [xr h7];split<;>simp
   ·simp only [xq h7]
def rawW (k:Int) (b:List UInt8):Int:=if zab k=0 then (rd b).1 else (word (b.take 8):Nat)
def zmE (k:Int) (b:List UInt8):Int×Int:=if kNum k=false then (0,2) else if zbt (zab k) b=false then (0,12) else (zbg k (rawW k b),0)
def zkz (k:Int) (c:Nat):List UInt8:=if 12<=k then zfd 8 c else if 9<=k then zfd 4 c else enc c
def sPut (k w:Int):List UInt8:=zkz k (zbg k w).toNat
theorem znx (k:Int) :0<=rawW k b/\rawW k b<=18446744073709551615:=by
 unfold rawW;split
 ·have:=zhw b;omega
 ·have h:=zxz (b.take 8);have h2:(256:Nat)^(b.take 8).length<=256^8:=q7 (by omega) (by simp;omega);omega
theorem zwB (k:Int) {b:List UInt8} (hb:b.length<=1048576):zeJ k b=some (zmE k b):=by
 unfold zeJ zmE;rw [zkv,sb];cases hn:kNum k
 ·rw [uR,xr rfl]
 ·rw [uS,xq (by simp),zrv,sb,zHe _ hb,sb];cases hf:zbt (zab k) b
  ·rw [uR,xr rfl]
  ·rw [uS,xq (by simp),zMh (by omega),sb,sb];have hbd:=znx k (b:=b);have e0:zaH b 0=some (rd b):=by
    have:=ztw b 0 (by omega) (xC _);rw [yc] at this;exact this
   by_cases h0:zab k=0
   ·have e:rawW k b=(rd b).1:=by unfold rawW;rw [xr h0]
    rw [itT (by simpa using h0),e0,sb,<-e,zru k hbd,sb]
   ·have e:rawW k b=((word (b.take 8):Nat):Int):=by unfold rawW;rw [xq h0]
    rw [itF (by simpa using h0),<-e,zru k hbd,sb]
theorem zzr {fuel:Nat} (hf:10<=fuel) {k w:Int} (h:0<=w/\w<=18446744073709551615):zfi fuel k w=some (sPut k w):=by
 have hc:=zhk k h;obtain ⟨c,hcc⟩:∃c:Nat,zbg k w=c:=⟨(zbg k w).toNat,by omega⟩;unfold zfi sPut zkz;rw [zru k h,sb,hcc,xD];by_cases h1:12<=k
 ·rw [itT (by simpa using h1),xr h1,zzw (by omega),sb];rfl
 ·rw [itF (by simpa using h1),xq h1];by_cases h2:9<=k
  ·rw [itT (by simpa using h2),xr h2,zzw (by omega),sb];rfl
  ·rw [itF (by simpa using h2),xq h2,zvS hf (by omega),sb]
theorem zfB :kNum k=true↔1<=k/\k<=14:=by simp [kNum]
theorem zwG {k:Int} (hk:kNum k=true) {c:Nat} (hc:c<18446744073709551616):zbt (zab k) (zkz k c)=true:=by
 have:=zfB.1 hk;unfold zkz;by_cases h1:12<=k
 ·have e:zab k=1:=by unfold zab;rw [xq (by omega),xr h1]
  rw [xr h1,e];simp [zbt,zaB]
 ·rw [xq h1];by_cases h2:9<=k
  ·have e:zab k=5:=by unfold zab;rw [xq (by omega),xq h1,xr h2]
   rw [xr h2,e];simp [zbt,zaB]
  ·have e:zab k=0:=by unfold zab;rw [xq (by omega),xq h1,xq h2]
   have hr:=zzk [] hc;rw [xQ] at hr;rw [xq h2,e];unfold zbt;rw [xr rfl,hr];simp
theorem zHc {k:Int} (hk:kNum k=true) {c:Nat} (hc:c<18446744073709551616) (h32:9<=k->k<12->c<4294967296):rawW k (zkz k c)=(c:Int):=by
 have:=zfB.1 hk;unfold zkz rawW;by_cases h1:12<=k
 ·have e:zab k=1:=by unfold zab;rw [xq (by omega),xr h1]
  rw [xr h1,e,xq (by omega),yR (by rw [zaB];omega),zrQ,qu (by omega)]
 ·rw [xq h1];by_cases h2:9<=k
  ·have e:zab k=5:=by unfold zab;rw [xq (by omega),xq h1,xr h2]
   have:=h32 h2 (by omega);rw [xr h2,e,xq (by omega),yR (by rw [zaB];omega),zrQ,qu (by omega)]
  ·have e:zab k=0:=by unfold zab;rw [xq (by omega),xq h1,xq h2]
   have hr:=zzk [] hc;rw [xQ] at hr;rw [xq h2,e,xr rfl,hr]
theorem zHn {k w:Int} (hk:kNum k=true) (h:0<=w/\w<=18446744073709551615):zmE k (sPut k w)=(zbg k w,0):=by
 have hc:=zhk k h;obtain ⟨c,hcc⟩:∃c:Nat,zbg k w=c:=⟨(zbg k w).toNat,by omega⟩;unfold zmE sPut;rw [hcc,xD,hk,xq (by simp),zwG hk (by omega),xq (by simp),zHc hk (by omega) (fun h9 h12=>by have:=zKC (w:=w) h9 h12;omega),<-hcc,znm k h]
theorem zHm {k w:Int} (h:0<=w/\w<=18446744073709551615):sPut k (zbg k w)=sPut k w:=by unfold sPut;rw [znm k h]
theorem zhS {k w:Int} (h:0<=w/\w<=18446744073709551615):1<=(sPut k w).length/\(sPut k w).length<=10:=by
 have hc:=zhk k h;unfold sPut zkz;split
 ·rw [zaB];omega
 ·split
  ·rw [zaB];omega
  ·exact ziL (by omega)
def zjP (k:Int) (l:List UInt8):Int⊕Nat:=
 if k<9 then (if (rd l).2.2≠0 then .inl (rd l).2.2 else .inr (rd l).2.1.toNat) else if l.length<(if k<12 then 4 else 8) then .inl 3 else .inr (if k<12 then 4 else 8)
theorem znC (k:Int) (l:List UInt8):(∃c,zjP k l= .inl c/\(c=3\/c=4))\/∃n,zjP k l= .inr n/\1<=n/\n<=l.length/\n<=10/\(k<9/\(rd l).2.2=0/\(rd l).2.1=(n:Int)\/¬k<9/\n=(if k<12 then 4 else 8)):=by
 obtain ⟨h1,h2,h3,h4,h5,h6,h7⟩:=zhw l;unfold zjP
 grind
theorem zDA (k:Int) (l m:List UInt8) {n:Nat} (h:zjP k l= .inr n):zjP k (l++m)= .inr n:=by
 unfold zjP at h|-
 grind [zsj]
def pcs (k:Int) (l:List UInt8):List (List UInt8)×Int:=
 if hl:l=[] then ([],0) else match h:zjP k l with
  | .inl c=>([],c)
  | .inr n=>(l.take n::(pcs k (l.drop n)).1,(pcs k (l.drop n)).2)
termination_by l.length
decreasing_by
 all_goals
  rcases znC k l with ⟨c',h',_⟩| ⟨n',h',g1,g2,_⟩
  ·rw [h'] at h;cases h
  ·rw [h'] at h;cases h;simp only [xR];omega
theorem zjE (k:Int):pcs k []=([],0):=by rw [pcs,dif_pos rfl]
theorem zpA (hl:l≠[]) (h:zjP k l= .inl c):pcs k l=([],c):=by
 rw [pcs,dif_neg hl]
 grind
theorem ziy (hl:l≠[]) (h:zjP k l= .inr n):pcs k l=(l.take n::(pcs k (l.drop n)).1,(pcs k (l.drop n)).2):=by
 rw [pcs,dif_neg hl]
 grind
theorem zpB (k:Int) (P:List UInt8->Prop) (h0:P []) (he:∀l c,l≠[]->zjP k l= .inl c->(c=3\/c=4)->P l)
  (hc:∀l n,l≠[]->zjP k l= .inr n->1<=n->n<=l.length->n<=10->P (l.drop n)->P l) (l:List UInt8):P l:=by
 generalize hn:l.length=m
 induction m using Nat.strongRecOn generalizing l with
 | _ m ih=>
  by_cases hl:l=[]
  ·grind
  ·rcases znC k l with ⟨c,h,hc'⟩| ⟨n,h,g1,g2,g3,_⟩
   ·grind
   grind
theorem zEV (k:Int) (l:List UInt8):(pcs k l).2=0\/(pcs k l).2=3\/(pcs k l).2=4:=by
 refine zpB k (fun l=>(pcs k l).2=0\/(pcs k l).2=3\/(pcs k l).2=4) ?_ ?_ ?_ l
 ·rw [zjE];exact .inl rfl
 ·intro l c hl h hc;rw [zpA hl h];exact .inr hc
 ·intro l n hl h _ _ _ ih;rw [ziy hl h];exact ih
theorem zxr (k:Int) (l:List UInt8):(pcs k l).1.length<=l.length:=by
 refine zpB k (fun l=>(pcs k l).1.length<=l.length) ?_ ?_ ?_ l
 ·rw [zjE];simp
 ·intro l c hl h _;rw [zpA hl h];simp
 ·intro l n hl h _ _ _ ih;rw [ziy hl h]
  grind
theorem zze (k:Int) (l:List UInt8):(pcs k l).2=0->(pcs k l).1.flatten=l:=by
 refine zpB k (fun l=>(pcs k l).2=0->(pcs k l).1.flatten=l) ?_ ?_ ?_ l
 ·rw [zjE];intro _;rfl
 ·intro l c hl h hc h2;rw [zpA hl h] at h2;simp only at h2;omega
 ·intro l n hl h _ _ _ ih h2;rw [ziy hl h] at h2|-;simp_all
theorem zGY (k:Int) (m l:List UInt8):(pcs k l).2=0->pcs k (l++m)=((pcs k l).1++(pcs k m).1,(pcs k m).2):=by
 refine zpB k (fun l=>(pcs k l).2=0->pcs k (l++m)=((pcs k l).1++(pcs k m).1,(pcs k m).2)) ?_ ?_ ?_ l
 ·intro _;rw [zjE];simp
 ·intro l c hl h hc h2;rw [zpA hl h] at h2;simp only at h2;omega
 ·intro l n hl h g1 g2 _ ih h2;rw [ziy hl h] at h2|-;rw [ziy (by simp [hl]) (zDA k l m h),ul g2,pr g2,ih h2];rfl
theorem zHv (hk:kNum k=true) (h:zjP k l= .inr n):zbt (zab k) (l.take n)=true:=by
 have hk':=zfB.1 hk;rcases znC k l with ⟨c,h',_⟩| ⟨n',h',g1,g2,g3,hcase⟩
 ·grind
 ·rw [h'] at h;cases h;have ku:(l.take n).length=n:=by simp;omega
  unfold zbt;rcases hcase with ⟨h9,f1,f2⟩| ⟨h9,f1⟩
  ·have e:zab k=0:=by unfold zab;rw [xq (by omega),xq (by omega),xq (by omega)]
   rw [xr e];rcases zmz l with h6| ⟨h6,_⟩| ⟨x,c,y,e,hx,hc,hl,hv,h6⟩
   ·grind
   ·grind
   ·rw [h6] at f2;have e7:n=(x++[c]).length:=by simp at f2|-;omega
    grind [zIF]
  grind [zab]
theorem zro (hk:kNum k=true) (l:List UInt8):∀p∈(pcs k l).1,zbt (zab k) p=true/\1<=p.length/\p.length<=10:=by
 refine zpB k (fun l=>∀p∈(pcs k l).1,zbt (zab k) p=true/\1<=p.length/\p.length<=10) ?_ ?_ ?_ l
 ·rw [zjE];intro p hp;cases hp
 ·intro l c hl h _;rw [zpA hl h];intro p hp;cases hp
 ·intro l n hl h g1 g2 g3 ih;rw [ziy hl h]
  grind [zHv]
def zep (k:Int) (p:List UInt8):Int:=zbg k (rawW k p)
theorem zjh (hk:kNum k=true) (hf:zbt (zab k) p=true):zmE k p=(zep k p,0):=by
 unfold zmE zep
 grind
theorem zHw {k w:Int} (hk:kNum k=true) (h:0<=w/\w<=18446744073709551615) (m:List UInt8):zjP k (sPut k w++m)= .inr (sPut k w).length:=by
 have hk':=zfB.1 hk;have hc:=zhk k h;unfold sPut zkz zjP
 grind [zaB,zzk]
theorem zrp {k:Int} (hk:kNum k=true):∀(l:List Int),(∀w∈l,0<=w/\w<=18446744073709551615)->pcs k (l.flatMap (sPut k))=(l.map (sPut k),0)
 | [],_=>zjE k
 | w::l,h=>by
  have hw:=h w xt;have ku:=zhS (k:=k) hw;have kO:sPut k w++l.flatMap (sPut k)≠[]:=fun e=>by
   simp_all
  rw [xE,ziy kO (zHw hk hw _),yY,q8,zrp hk l fun v hv=>h v (xu _ hv)];rfl
def ends (base:Nat):List (List UInt8)->List Int
 | []=>[]
 | p::ps=>((base+p.length:Nat):Int)::ends (base+p.length) ps
theorem zwk (base:Nat) (ps:List (List UInt8)):(ends base ps).length=ps.length:=by
 induction ps generalizing base with
 | nil=>rfl
 | cons p ps ih=>simp [ends,ih]
theorem zyc:∀(ps:List (List UInt8)) (base i:Nat),i<ps.length->(ends base ps)[i]? =some ((base+(ps.take (i+1)).flatten.length:Nat):Int)
 | [],_,_,h=>by simp at h
 | p::ps,base,0,_=>by simp [ends]
 | p::ps,base,i+1,h=>by
  have:=zyc ps (base+p.length) i (by simpa using h);simp only [ends,uO,this,yZ,qt,xz,qW]
theorem zDe {b:List UInt8} (hb:b.length<=1048576) (k:Int) (l:List UInt8):∀(a:Nat) (out:List Int),a<=b.length->l=b.drop a->out.length<=a->
  zdj b k out a=some (if (pcs k l).2=0 then .inl (out++ends a (pcs k l).1) else .inr (pcs k l).2):=by
 refine zpB k (fun l=>∀(a:Nat) (out:List Int),a<=b.length->l=b.drop a->out.length<=a->
  zdj b k out a=some (if (pcs k l).2=0 then .inl (out++ends a (pcs k l).1) else .inr (pcs k l).2)) ?_ ?_ ?_ l
 ·intro a out ha hl ho;have:b.length<=a:=by have:=congrArg List.length hl;simp at this;omega
  rw [zjE,xr rfl];refine ziv ?_;unfold zaX;rw [uW];simp [ends]
 ·intro l c hl h hc a out ha hld ho;subst hld;have km:a<b.length:=by have:=qe.2 hl;simp at this;omega
  have hdl:(b.drop a).length=b.length - a:=by simp
  rw [zpA hl h,xq (by simp only;omega)];refine ziv ?_;unfold zaX
  grind [zjP,sb,ztw,wrap_i64]
 ·intro l n hl h g1 g2 g3 ih a out ha hld ho;subst hld;have hdl:(b.drop a).length=b.length - a:=by simp
  have kW:zaX b k out a=some (.inl (out++[((a+n:Nat):Int)],((a+n:Nat):Int))):=by
   unfold zaX;rw [uV];rcases znC k (b.drop a) with ⟨c,h',_⟩| ⟨n',h',_,_,_,hcase⟩
   ·grind
   grind [sb,ztw,wrap_i64,zaQ]
  rw [znP kW,ih (a+n) _ (by omega) (by rw [yb]) (by simp;omega),ziy hl h];have e:((b.drop a).take n).length=n:=by simp;omega
  simp only [ends,e,yj,uC]
def zmn (k:Int) (b:List UInt8):List Int×Int:=if kNum k=false then ([],2) else if (pcs k b).2=0 then (ends 0 (pcs k b).1,0) else ([],(pcs k b).2)
theorem zzo (k:Int) {b:List UInt8} (hb:b.length<=1048576):zeK k b=some (zmn k b):=by
 unfold zeK zmn;rw [zkv,sb];cases hn:kNum k
 ·rfl
 ·have h:=zDe hb k b 0 [] (xC _) rfl (xx _)
  grind
def zag (k:Int) (b:List UInt8):List Int×Int:=if kNum k=false then ([],2) else if (pcs k b).2=0 then ((pcs k b).1.map (zep k),0) else ([],(pcs k b).2)
theorem zAz {b:List UInt8} (hb:b.length<=1048576) {k:Int} (hk:kNum k=true) {ps:List (List UInt8)} (hps:∀p∈ps,zbt (zab k) p=true) (hfl:ps.flatten=b) (hl:ps.length<=b.length) (c:Int):∀(d i:Nat),i+d=ps.length->
  zbQ b k (ends 0 ps,c) ((ps.take i).map (zep k)) i=some (ps.map (zep k)):=by
 intro d
 induction d with
 | zero=>
  intro i hi;refine zfL ?_;unfold zbP
  grind [zwk]
 | succ d ih=>
  intro i hi;have hil:i<ps.length:=by omega
  have hps1:ps.take (i+1)=ps.take i++[ps[i]]:=by rw [uB,xN hil];rfl
  have hsplit:ps=ps.take i++ps[i]::ps.drop (i+1):=by rw [<-yf hil,qn]
  have hb2:b=(ps.take i).flatten++(ps[i]++(ps.drop (i+1)).flatten):=by
   grind
  have hcut:(b.drop (ps.take i).flatten.length).take ((ps.take (i+1)).flatten.length - (ps.take i).flatten.length)=ps[i]:=by
   rw [hps1,List.flatten_append,xz,uy]
   grind
  have hle:(ps.take (i+1)).flatten.length<=b.length:=by
   grind
  refine (zmZ (kV:=(ps.take (i+1)).map (zep k)) (i':=((i+1:Nat):Int)) ?_).trans (ih (i+1) (by omega));unfold zbP;rw [itT (by simp [zwk];omega)];have efrom:(if (decide ((i:Int)>0))=true then (idx (ends 0 ps) (i64.wrap ((i:Int) - 1))>>=fun x=>some x) else some 0)=some (((ps.take i).flatten.length:Nat):Int):=by
   cases i with
   | zero=>rw [uU];simp
   | succ j=>
    have hg:=zyc ps 0 j (by omega);rw [itT (by first| (simp;done)| (simp;omega)),uX]
    grind [idx,sb,wrap_i64,zP,zaQ]
  have hg:=zyc ps 0 i hil;have eto:idx (ends 0 ps) (i:Int)=some (((ps.take (i+1)).flatten.length:Nat):Int):=by
   grind [idx,sb,wrap_i64,zP,zaQ]
  have hmono:(ps.take i).flatten.length<=(ps.take (i+1)).flatten.length:=by rw [hps1,List.flatten_append,xz];omega
  have hpl:(ps[i]).length<=b.length:=by have:=congrArg List.length hb2;simp at this;omega
  simp only;rw [efrom,sb,eto,sb,zgC rfl rfl hmono hle,sb,hcut,zwB k (by omega),sb,zjh hk (hps _ (xB hil)),zaQ (by simp;omega),sb,uX]
  grind
theorem zFn (k:Int) {b:List UInt8} (hb:b.length<=1048576):zfx k b=some (zag k b):=by
 unfold zfx zag;rw [zzo k hb,sb];unfold zmn;cases hn:kNum k
 ·rw [xr rfl,xr rfl];have h':zbQ b k (([]:List Int),2) [] 0=some []:=by
   refine zfL ?_;rfl
  rw [h',sb]
 ·simp only [xq (show ¬(true=false) by simp)];by_cases h0:(pcs k b).2=0
  ·simp only [xr h0];have h:=zAz hb hn (ps:=(pcs k b).1) (fun p hp=>(zro hn b p hp).1) (zze k b h0) (zxr k b) 0 (pcs k b).1.length 0 (by omega)
   grind
  ·simp only [xq h0];have h':zbQ b k (([]:List Int),(pcs k b).2) [] 0=some []:=by
    refine zfL ?_;rfl
   rw [h',sb]
theorem zDg {fuel:Nat} (hf:10<=fuel) {k:Int} {l:List Int} (h:∀w∈l,0<=w/\w<=18446744073709551615) (hl:l.length<=1048576):∀(d i:Nat) (out:List UInt8),i+d=l.length->out.length<=10*i->
  zex fuel k l out i=some (out++(l.drop i).flatMap (sPut k)):=by
 intro d
 induction d with
 | zero=>
  intro i out hi ho;refine znR ?_;unfold zce
  grind
 | succ d ih=>
  intro i out hi ho;have hil:i<l.length:=by omega
  have hw:=h _ (xB hil);have ku:=zhS (k:=k) hw;refine (znQ (kV:=out++sPut k l[i]) (i':=((i+1:Nat):Int)) ?_).trans ?_
  ·grind [zce,sb,wrap_i64,zP,zzr,zaQ]
  ·rw [ih (i+1) _ (by omega) (by simp;omega),yf hil,xE,yj]
theorem zHh {fuel:Nat} (hf:10<=fuel) {k:Int} {l:List Int} (h:∀w∈l,0<=w/\w<=18446744073709551615) (hl:l.length<=1048576):zgc fuel k l=some (l.flatMap (sPut k)):=by
 unfold zgc;have h1:=zDg hf (k:=k) h hl l.length 0 [] (by omega) (by simp)
 grind
abbrev Fld:=za
abbrev Mes:=zc
def zlm {α:Type} (p:α->Bool) (l:List α):Int:=match l.findIdx? p with
 | some i=>(i:Int)
 | none=> -1
theorem znq {α:Type} {p:α->Bool} {l:List α} (h:l.findIdx? p=none):zlm p l= -1:=by unfold zlm;rw [h]
theorem znr {α:Type} {p:α->Bool} {l:List α} {i:Nat} (h:l.findIdx? p=some i):zlm p l=(i:Int):=by unfold zlm;rw [h]
theorem zrX {α:Type} (p:α->Bool) (l:List α) (F:Int->Option (Unit⊕Int)) (h0:F (l.length:Int)=some (.inl ())) (hs:∀(i:Nat) (h:i<l.length),F (i:Int)=if p l[i] then some (.inr (i:Int)) else F ((i+1:Nat):Int)):
  ∀(d i:Nat),i+d=l.length->(∀j (h:j<l.length),j<i->p l[j]=false)->F (i:Int)=some (match l.findIdx? p with| some k=> .inr (k:Int)| none=> .inl ()):=by
 intro d
 induction d with
 | zero=>
  intro i hi hj;have:i=l.length:=by omega
  subst this;have hn:l.findIdx? p=none:=by
   rw [uQ];intro x hx;obtain ⟨j,hj',rfl⟩:=qE hx
   grind
  rw [h0,hn]
 | succ d ih=>
  intro i hi hj;have hil:i<l.length:=by omega
  rw [hs i hil];by_cases hp:p l[i]=true
  ·have hf:l.findIdx? p=some i:=by
    rw [pY]
    grind
   grind
  ·rw [xq hp];refine ih (i+1) (by omega) fun j h hji=>?_
   grind
def fldI (m:Mes) (number:Int):Int:=zlm (fun f:Fld=>f.Number==number) m.Fields
theorem zwz (hm:m.Fields.length<=1152921504606846976) (number:Int):zee m number=some (fldI m number):=by
 unfold zee fldI;have h:=zrX (fun f:Fld=>f.Number==number) m.Fields (fun i=>zdZ m number i) (by
   refine zil ?_;unfold zbO;rw [uU])
  (fun i hi=>by
   have hb:zbO m number i=if ((m.Fields[i]).Number==number)=true then some (.inr (.inr (i:Int))) else some (.inl ((i+1:Nat):Int)):=by
    grind [zbO,sb,wrap_i64,zP]
   by_cases hp:((m.Fields[i]).Number==number)=true
   ·rw [xr hp] at hb|-;exact zil hb
   ·rw [xq hp] at hb|-;exact zmY hb)
  m.Fields.length 0 (by omega) (fun j _ hj=>by omega)
 grind [zlm,sb]
def nmc (i:Nat) (c:UInt8):Bool:=decide (65<=c.toNat/\c.toNat<=90\/97<=c.toNat/\c.toNat<=122\/c.toNat=95\/0<i/\48<=c.toNat/\c.toNat<=57)
def nmA:Nat->List UInt8->Bool
 | _,[]=>true
 | i,c::l=>nmc i c&&nmA (i+1) l
def zfP (s:List UInt8):Bool:=nmA 0 s&&decide (1<=s.length/\s.length<=60)
theorem zgV {α:Type} {l t:List α} {x:α} {k:Nat} (h:l.drop k=x::t):∃hk:k<l.length,l[k]=x/\l.drop (k+1)=t:=by
 have hk:k<l.length:=by
  rcases yB k l.length with h'| h'
  ·exact h'
  ·rw [yo h'] at h;cases h
 rw [yf hk] at h
 grind
theorem zib {α:Type} {l:List α} {k:Nat} (h:l.drop k=[]):l.length<=k:=by have:=congrArg List.length h;simp at this;omega
theorem zJG (s:List UInt8) (hs:s.length<=1152921504606846976):∀(l:List UInt8) (i:Nat),s.drop i=l->zdi s i=some (if nmA i l=true then .inl () else .inr ()):=by
 intro l
 induction l with
 | nil=>
  intro i hd;have:=zib hd;refine ziu ?_;unfold zcd;rw [uW];rfl
 | cons c l ih=>
  intro i hd;obtain ⟨hk,hx,hd'⟩:=zgV hd;have hb:zcd s i=if nmc i c=true then some (.inl ((i+1:Nat):Int)) else some (.inr (.inr ())):=by
   unfold zcd;rw [uV,zP rfl hk,sb,hx,uX];have e:(if (decide ((c.toNat:Int)>=65)) then ((decide ((c.toNat:Int)<=90))|| (if (decide ((c.toNat:Int)>=97)) then ((decide ((c.toNat:Int)<=122))|| (((c.toNat:Int)==95)|| ((decide ((i:Int)>0))&&((decide ((c.toNat:Int)>=48))&&(decide ((c.toNat:Int)<=57)))))) else (((c.toNat:Int)==95)|| ((decide ((i:Int)>0))&&((decide ((c.toNat:Int)>=48))&&(decide ((c.toNat:Int)<=57))))))) else (if (decide ((c.toNat:Int)>=97)) then ((decide ((c.toNat:Int)<=122))|| (((c.toNat:Int)==95)|| ((decide ((i:Int)>0))&&((decide ((c.toNat:Int)>=48))&&(decide ((c.toNat:Int)<=57)))))) else (((c.toNat:Int)==95)|| ((decide ((i:Int)>0))&&((decide ((c.toNat:Int)>=48))&&(decide ((c.toNat:Int)<=57)))))))=nmc i c:=by
    have e95:((c.toNat:Int)==95)=decide (c.toNat=95):=ztO _ 95;have a1:decide ((c.toNat:Int)>=65)=decide (65<=c.toNat):=qB.2 (by omega);have a2:decide ((c.toNat:Int)<=90)=decide (c.toNat<=90):=qB.2 (by omega);have a3:decide ((c.toNat:Int)>=97)=decide (97<=c.toNat):=qB.2 (by omega);have a4:decide ((c.toNat:Int)<=122)=decide (c.toNat<=122):=qB.2 (by omega);have a5:decide ((i:Int)>0)=decide (0<i):=qB.2 (by omega);have a6:decide ((c.toNat:Int)>=48)=decide (48<=c.toNat):=qB.2 (by omega);have a7:decide ((c.toNat:Int)<=57)=decide (c.toNat<=57):=qB.2 (by omega);rw [e95,a1,a2,a3,a4,a5,a6,a7];simp only [nmc,Bool.decide_or,Bool.decide_and]
    grind
   grind
  rw [nmA];cases hc:nmc i c
  ·rw [hc,xq (by simp)] at hb;rw [ziu hb];rfl
  ·rw [hc,xr rfl] at hb;rw [znO hb,ih _ hd',ye]
theorem zzp (hs:s.length<=1152921504606846976):zeI s=some (zfP s):=by
 unfold zeI zfP;have h:=zJG s hs s 0 rfl;have h':zdi s 0=_:=h;rw [h',sb];cases nmA 0 s
 ·rfl
 ·simp [Bool.decide_and]
  grind
def zcO (n:Int) (prev:List Fld) (f:Fld):Int:=
 if zfP f.Name=false then 5 else if prev.any (fun g=>g.Name==f.Name)=true then 6
 else if f.Number<1\/f.Number>536870911\/(19000<=f.Number/\f.Number<20000) then 7
 else if prev.any (fun g=>g.Number==f.Number)=true then 8 else if zbb f.Kind=false then 9
 else if f.Packed=true/\¬(f.Repeated=true/\kNum f.Kind=true) then 10
 else if f.Kind=17/\(f.Of<0\/f.Of>=n)\/f.Kind≠17/\f.Of≠0 then 11 else 0
theorem zyd (n:Int) (prev:List Fld) (f:Fld):0<=zcO n prev f/\zcO n prev f<=11:=by
 unfold zcO;omega
theorem zGz {s:List Mes} {i k:Nat} {m:Mes} (hi:∃h:i<s.length,s[i]=m) (hk:k<=m.Fields.length) (hb:m.Fields.length<=1152921504606846976) (f:Fld):
  ∀(l:List Fld) (j:Nat) (a b:Bool),(m.Fields.take k).drop j=l->j<=k->zcJ i k s f a b j=some (a|| l.any (fun g=>g.Name==f.Name),b|| l.any (fun g=>g.Number==f.Number)):=by
 obtain ⟨hi,hm⟩:=hi;intro l
 induction l with
 | nil=>
  intro j a b hd hj;have:=zib hd;rw [xS] at this;refine zmX ?_;unfold zbN
  grind
 | cons g l ih=>
  intro j a b hd hj;obtain ⟨hjk,hx,hd'⟩:=zgV hd;rw [xS] at hjk;rw [List.getElem_take] at hx;refine (zmW (name':=a|| (g.Name==f.Name)) (number':=b|| (g.Number==f.Number)) (j':=((j+1:Nat):Int)) ?_).trans ?_
  ·unfold zbN;have e1:idx s (i:Int)=some m:=by rw [zP rfl hi,hm]
   grind [zP,sb,wrap_i64]
  ·rw [ih _ _ _ hd' (by omega),q9,q9,uD,uD]
theorem zFj {s:List Mes} {i k:Nat} {m:Mes} {f:Fld} (hi:∃h:i<s.length,s[i]=m) (hk:∃h:k<m.Fields.length,m.Fields[k]=f) (hb:m.Fields.length<=1152921504606846976) (hf:f.Name.length<=1152921504606846976):
  zfv s i k=some (zcO s.length (m.Fields.take k) f):=by
 obtain ⟨hil,hm⟩:=hi;obtain ⟨hkl,hfe⟩:=hk;have e1:idx s (i:Int)=some m:=by rw [zP rfl hil,hm]
 have e2:idx m.Fields (k:Int)=some f:=by rw [zP rfl hkl,hfe]
 have h:=zGz ⟨hil,hm⟩ (Nat.le_of_lt hkl) hb f (m.Fields.take k) 0 false false rfl (xC _);have h':zcJ i k s f false false 0=_:=h;unfold zfv zcO;rw [e1,sb,e2,sb,h',sb,zzp hf,sb];simp only [pk];cases h1:zfP f.Name
 ·rfl
 ·rw [uS,xq (show ¬(true=false) by simp)];cases h2:(m.Fields.take k).any (fun g=>g.Name==f.Name)
  ·rw [uS,xq (show ¬(false=true) by simp)];by_cases h3:f.Number<1\/f.Number>536870911\/(19000<=f.Number/\f.Number<20000)
   ·grind
   ·rw [uW,xq h3];cases h4:(m.Fields.take k).any (fun g=>g.Number==f.Number)
    ·grind [zuG,sb,zkv]
    rfl
  rfl
def msgF (n:Int) (prev:List Fld):List Fld->Option (Nat×Int)
 | []=>none
 | f::l=>if 0<zcO n prev f then some (prev.length,zcO n prev f) else msgF n (prev++[f]) l
def chkF (n:Int) (prev:List Mes):List Mes->Option (Nat×Int×Int)
 | []=>none
 | m::l=>if zfP m.Name=false then some (prev.length, -1,2) else if prev.any (fun g=>g.Name==m.Name)=true then some (prev.length, -1,3)
  else if 200<m.Fields.length then some (prev.length, -1,4) else match msgF n [] m.Fields with
   | some (k,w)=>some (prev.length,(k:Int),w)
   | none=>chkF n (prev++[m]) l
def zkh (s:List Mes):Int×Int×Int:=if s.length=0\/100<s.length then (-1, -1,1) else match chkF s.length [] s with
 | none=>(0,0,0)
 | some (i,k,w)=>((i:Int),k,w)
def zlq (s:List Mes):Bool:=decide ((zkh s).2.2=0)
def WS (s:List Mes):Prop:=s.length<=140737488351232/\∀m∈s,m.Name.length<=140737488351232/\m.Fields.length<=140737488351232/\∀f∈m.Fields,f.Name.length<=140737488351232
theorem zDV {s:List Mes} {i:Nat} {m:Mes} (hi:∃h:i<s.length,s[i]=m) (hb:m.Fields.length<=140737488351232) (hn:∀f∈m.Fields,f.Name.length<=140737488351232):
  ∀(l:List Fld) (k:Nat),m.Fields.drop k=l->k<=m.Fields.length->zcI i s k=some (match msgF s.length (m.Fields.take k) l with| some (j,w)=> .inr ((j:Int),w)| none=> .inl ()):=by
 obtain ⟨hil,hm⟩:=hi;have e1:idx s (i:Int)=some m:=by rw [zP rfl hil,hm]
 intro l
 induction l with
 | nil=>
  intro k hd hk;have:=zib hd;refine zik ?_;unfold zbM;rw [e1,sb,uW];rfl
 | cons f l ih=>
  intro k hd hk;obtain ⟨hkl,hx,hd'⟩:=zgV hd;have hf:=zFj (s:=s) (i:=i) (k:=k) (m:=m) (f:=f) ⟨hil,hm⟩ ⟨hkl,hx⟩ (by omega) (by have:=hn f (by rw [<-hx];exact xB hkl);omega);have hbd:=zyd s.length (m.Fields.take k) f;have htl:(m.Fields.take k).length=k:=by rw [xS];omega
  rw [msgF];by_cases h0:0<zcO s.length (m.Fields.take k) f
  ·rw [xr h0];refine zik ?_;unfold zbM
   grind
  ·rw [xq h0];refine (zmV (k2':=((k+1:Nat):Int)) ?_).trans ?_
   ·unfold zbM;rw [e1,sb,uV,hf,sb,uW,uX];push_cast;rfl
   grind
theorem zDU (hi:∃h:i<s.length,s[i]=m) (hs:s.length<=140737488351232):
  ∀(l:List Mes) (k:Nat) (a:Bool),(s.take i).drop k=l->k<=i->zcH i s a k=some (a|| l.any (fun g=>g.Name==m.Name)):=by
 obtain ⟨hil,hm⟩:=hi;intro l
 induction l with
 | nil=>
  intro k a hd hk;have:=zib hd;rw [xS] at this;refine zmU ?_;unfold zbL
  grind
 | cons g l ih=>
  intro k a hd hk;obtain ⟨hkl,hx,hd'⟩:=zgV hd;rw [xS] at hkl;rw [List.getElem_take] at hx;refine (zmT (twice':=a|| (g.Name==m.Name)) (k':=((k+1:Nat):Int)) ?_).trans ?_
  ·grind [zbL,sb,wrap_i64,zP]
  ·rw [ih _ _ hd' (by omega),q9,uD]
theorem zDT (hw:WS s):∀(l:List Mes) (i:Nat),s.drop i=l->i<=s.length->zdY s i=some (match chkF s.length (s.take i) l with| some (j,k,w)=> .inr ((j:Int),k,w)| none=> .inl ()):=by
 intro l
 induction l with
 | nil=>
  intro i hd hi;have:=zib hd;refine zcv ?_;unfold zbK;rw [uW];rfl
 | cons m l ih=>
  intro i hd hi;obtain ⟨hil,hx,hd'⟩:=zgV hd;obtain ⟨hsl,hwm⟩:=hw;obtain ⟨w1,w2,w3⟩:=hwm m (by rw [<-hx];exact xB hil);have htl:(s.take i).length=i:=by rw [xS];omega
  have e1:idx s (i:Int)=some m:=by rw [zP rfl hil,hx]
  have h2:=zDU ⟨hil,hx⟩ hsl (s.take i) 0 false rfl (xC _);have h2':zcH i s false 0=_:=h2;have h3:=zDV ⟨hil,hx⟩ w2 w3 m.Fields 0 rfl (xC _);have h3':zcI i s 0=_:=h3
  have hb:zbK s i=(if zfP m.Name=false then some (.inr (.inr ((i:Int), -1,2))) else if (s.take i).any (fun g=>g.Name==m.Name)=true then some (.inr (.inr ((i:Int), -1,3)))
    else if 200<m.Fields.length then some (.inr (.inr ((i:Int), -1,4))) else match msgF s.length [] m.Fields with
     | some (k,w)=>some (.inr (.inr ((i:Int),(k:Int),w)))
     | none=>some (.inl ((i+1:Nat):Int))):=by
   unfold zbK;rw [uV,h2',sb,e1,sb,zzp (by omega),sb,sb,h3',sb,pk];cases h4:zfP m.Name
   ·rfl
   ·rw [uS,xq (show ¬(true=false) by simp)];cases h5:(s.take i).any (fun g=>g.Name==m.Name)
    ·rw [uS,xq (show ¬(false=true) by simp)];by_cases h6:200<m.Fields.length
     ·grind
     ·rw [uW,xq h6,qA];cases msgF s.length [] m.Fields with
      | none=>simp only;rw [uX];push_cast;rfl
      | some p=>rfl
    rfl
  rw [chkF];by_cases h4:zfP m.Name=false
  ·rw [xr h4] at hb|-;rw [zcv hb];simp only [htl]
  ·rw [xq h4] at hb|-;by_cases h5:(s.take i).any (fun g=>g.Name==m.Name)=true
   ·rw [xr h5] at hb|-;rw [zcv hb];simp only [htl]
   ·rw [xq h5] at hb|-;by_cases h6:200<m.Fields.length
    ·rw [xr h6] at hb|-;rw [zcv hb];simp only [htl]
    ·rw [xq h6] at hb|-;cases h7:msgF s.length [] m.Fields with
     | some p=>
      rw [h7] at hb;rw [zcv hb];simp only [htl]
     | none=>
      rw [h7] at hb;rw [zmS hb,ih _ hd' (by omega),pZ hil,hx]
theorem zAs (hw:WS s):zfu s=some (zkh s):=by
 unfold zfu zkh;by_cases h:s.length=0\/100<s.length
 ·grind
 ·have e0:((s.length:Int)==0)=decide (s.length=0):=ztO _ 0;rw [e0,itF (by simp only [qN,uE];omega),xq h];have h1:=zDT hw s 0 rfl (xC _)
  grind
theorem zAx (hw:WS s):zfw s=some (zlq s):=by
 unfold zfw zlq;rw [zAs hw,sb];rfl
theorem zvK :∀(l prev:List Fld),msgF n prev l=none↔∀(k:Nat) (f:Fld),l[k]? =some f->zcO n (prev++l.take k) f=0
 | [],prev=>by simp [msgF]
 | f::l,prev=>by
  have hb:=zyd n prev f;rw [msgF];by_cases h:0<zcO n prev f
  ·rw [xr h];refine ⟨(fun h'=>nomatch h'),fun h'=>?_⟩;have:=h' 0 f rfl;simp at this;omega
  ·rw [xq h,zvK l (prev++[f])];constructor
   ·intro h' k g hg;cases k with
    | zero=>simp at hg;subst hg;simp;omega
    | succ k=>have:=h' k g (by simpa using hg);simpa using this
   ·intro h' k g hg;have:=h' (k+1) g (by simpa using hg);simpa using this
theorem zAO :∀(l prev:List Mes),chkF n prev l=none↔∀(i:Nat) (m:Mes),l[i]? =some m->zfP m.Name=true/\(prev++l.take i).any (fun g=>g.Name==m.Name)=false/\m.Fields.length<=200/\msgF n [] m.Fields=none
 | [],prev=>by simp [chkF]
 | m::l,prev=>by
  rw [chkF];by_cases h1:zfP m.Name=false
  ·rw [xr h1];refine ⟨(fun h'=>nomatch h'),fun h'=>?_⟩;have:=(h' 0 m rfl).1;rw [h1] at this;cases this
  ·rw [xq h1];by_cases h2:prev.any (fun g=>g.Name==m.Name)=true
   ·rw [xr h2];refine ⟨(fun h'=>nomatch h'),fun h'=>?_⟩;have:=(h' 0 m rfl).2.1;simp only [qA,xQ] at this;rw [h2] at this;cases this
   ·rw [xq h2];by_cases h3:200<m.Fields.length
    ·rw [xr h3];refine ⟨(fun h'=>nomatch h'),fun h'=>?_⟩;have:=(h' 0 m rfl).2.2.1;omega
    ·rw [xq h3];cases h4:msgF n [] m.Fields with
     | some p=>
      refine ⟨(fun h'=>nomatch h'),fun h'=>?_⟩;have:=(h' 0 m rfl).2.2.2;rw [h4] at this;cases this
     | none=>
      simp only;rw [zAO l (prev++[m])];constructor
      ·intro h' i g hg;cases i with
       | zero=>simp at hg;subst hg;exact ⟨by simpa using h1,by simpa using h2,by omega,h4⟩
       | succ i=>have:=h' i g (by simpa using hg);simpa using this
      ·intro h' i g hg;have:=h' (i+1) g (by simpa using hg);simpa using this
theorem zNL:∀(n:Int) (l prev:List Fld) (k:Nat) (w:Int),msgF n prev l=some (k,w)->0<w:=by
 intro n l
 induction l with
 | nil=>intro prev k w h;cases h
 | cons f l ih=>
  intro prev k w h;rw [msgF] at h
  grind
theorem zHK:∀(n:Int) (l prev:List Mes) (i:Nat) (k w:Int),chkF n prev l=some (i,k,w)->0<w:=by
 intro n l
 induction l with
 | nil=>intro prev i k w h;cases h
 | cons m l ih=>
  intro prev i k w h;rw [chkF] at h;split at h
  ·cases h;omega
  ·split at h
   ·cases h;omega
   ·split at h
    ·cases h;omega
    ·split at h
     ·rename_i k' w' h';cases h;exact zNL _ _ _ _ _ h'
     grind
structure zOu (n:Int) (f:Fld):Prop where
 name:zfP f.Name=true
 lo:1<=f.Number
 hi:f.Number<=536870911
 kind:zbb f.Kind=true
 packed:f.Packed=true->f.Repeated=true/\kNum f.Kind=true
 sub:f.Kind=17->0<=f.Of/\f.Of<n
 noSub:f.Kind≠17->f.Of=0
theorem zye (h:zcO n prev f=0):zOu n f/\prev.any (fun g=>g.Name==f.Name)=false/\prev.any (fun g=>g.Number==f.Number)=false:=by
 unfold zcO at h;split at h
 ·omega
 ·rename_i h1;split at h
  ·omega
  ·rename_i h2;split at h
   ·omega
   ·rename_i h3;split at h
    ·omega
    ·rename_i h4;split at h
     ·omega
     ·rename_i h5;split at h
      ·omega
      ·rename_i h6;split at h
       ·omega
       ·rename_i h7;refine ⟨⟨by simpa using h1,by omega,by omega,by simpa using h5,fun hp=>?_,fun hk=>by omega,fun hk=>by omega⟩,by simpa using h2,by simpa using h4⟩
        grind
structure zca (s:List Mes):Prop where
 len:1<=s.length/\s.length<=100
 name:∀m∈s,zfP m.Name=true
 names:∀(i j:Nat) (a b:Mes),i<j->s[i]? =some a->s[j]? =some b->a.Name≠b.Name
 few:∀m∈s,m.Fields.length<=200
 fld:∀m∈s,∀f∈m.Fields,zOu s.length f
 nums:∀m∈s,∀(i j:Nat) (f g:Fld),i<j->m.Fields[i]? =some f->m.Fields[j]? =some g->f.Number≠g.Number/\f.Name≠g.Name
theorem zJX {s:List Mes} (h:zlq s=true):zca s:=by
 have h0:(zkh s).2.2=0:=by simpa [zlq] using h
 have h1:¬(s.length=0\/100<s.length):=fun hh=>by unfold zkh at h0;rw [xr hh] at h0;simp at h0
 have h2:chkF s.length [] s=none:=by
  cases h4:chkF s.length [] s with
  | none=>rfl
  | some p=>
   exfalso;obtain ⟨i,k,w⟩:=p;have h5:(zkh s).2.2=w:=by unfold zkh;rw [xq h1,h4]
   have:=zHK _ _ _ _ _ _ h4;omega
 have h3:=(zAO s []).1 h2;have at':∀m∈s,zfP m.Name=true/\m.Fields.length<=200/\msgF s.length [] m.Fields=none:=fun m hm=>by
  obtain ⟨i,hi,rfl⟩:=qE hm;have:=h3 i _ (xN hi)
  grind
 refine ⟨by omega,fun m hm=>(at' m hm).1,fun i j a b hij ha hb=>?_,fun m hm=>(at' m hm).2.1,fun m hm f hf=>?_,fun m hm i j f g hij hf hg=>?_⟩
 ·have:=(h3 j b hb).2.1;have hai:a∈([]++s.take j:List Mes):=by
   rw [xH];exact qS (i:=i) (by rw [yX,xr hij];exact ha)
  grind
 ·have h4:=(zvK m.Fields []).1 (at' m hm).2.2;obtain ⟨i,hi,rfl⟩:=qE hf;exact (zye (h4 i _ (xN hi))).1
 ·have h4:=(zvK m.Fields []).1 (at' m hm).2.2;obtain ⟨_,k1,k2⟩:=zye (h4 j g hg);have hai:f∈([]++m.Fields.take j:List Fld):=by
   rw [xH];exact qS (i:=i) (by rw [yX,xr hij];exact hf)
  grind
theorem zJk {s:List Mes} {i:Nat} {m:Mes} (hi:∃h:i<s.length,s[i]=m) (hb:m.Fields.length<=140737488351232):∀(d k:Nat) (n:Int),k+d=m.Fields.length->∃r,zdG i s n k=some r:=by
 obtain ⟨hil,hm⟩:=hi;have e1:idx s (i:Int)=some m:=by rw [zP rfl hil,hm]
 intro d
 induction d with
 | zero=>
  intro k n hk;refine ⟨n,zor ?_⟩;unfold zcz
  grind
 | succ d ih=>
  intro k n hk;obtain ⟨r,hr⟩:=ih (k+1) (i64.wrap (n+(i64.wrap (Int.tdiv (((m.Fields[k]'(by omega)).Name.length:Int)) 100)))) (by omega);refine ⟨r,(zoq (k':=((k+1:Nat):Int)) ?_).trans hr⟩
  grind [zcz,sb,wrap_i64,zP]
theorem zPg {s:List Mes} (hw:WS s):∃b,zgD s=some b:=by
 obtain ⟨hs,hm⟩:=hw;have key:∀(d i:Nat) (n:Int),i+d=s.length->∃r,zdF s n i=some r:=by
  intro d
  induction d with
  | zero=>
   intro i n hi;refine ⟨n,zop ?_⟩;unfold zcy
   grind
  | succ d ih=>
   intro i n hi;have hil:i<s.length:=by omega
   obtain ⟨q,hq⟩:=zJk (s:=s) (i:=i) (m:=s[i]) ⟨hil,rfl⟩ (hm _ (xB hil)).2.1 (s[i]).Fields.length 0
    (i64.wrap ((i64.wrap ((i64.wrap (n+1))+(i64.wrap (Int.tdiv ((s[i]).Name.length:Int) 100))))+((s[i]).Fields.length:Int))) (by omega)
   have hq':zdG i s (i64.wrap ((i64.wrap ((i64.wrap (n+1))+(i64.wrap (Int.tdiv ((s[i]).Name.length:Int) 100))))+((s[i]).Fields.length:Int))) 0=some q:=hq;obtain ⟨r,hr⟩:=ih (i+1) q (by omega);refine ⟨r,(zoo (i':=((i+1:Nat):Int)) ?_).trans hr⟩
   grind [zcy,sb,wrap_i64,zP]
 obtain ⟨r,hr⟩:=key s.length 0 0 (by omega);have hr':zdF s 0 0=some r:=hr;exact ⟨_,by unfold zgD;rw [hr',sb]⟩
def zaV (m:Mes) (p:Int):Int:=(m.Fields.getD p.toNat ⟨[],0,0,false,false,0⟩).Number
def insS (κ:Int->Int) (i:Int) (out:List Int):List Int:=out.takeWhile (fun x=>decide (κ x<=κ i))++i::out.dropWhile (fun x=>decide (κ x<=κ i))
def zcx (κ:Int->Int):Nat->List Int
 | 0=>[]
 | n+1=>insS κ n (zcx κ n)
theorem zBc (κ:Int->Int) (i:Int) (out:List Int):(insS κ i out).Perm (i::out):=by
 unfold insS;refine List.perm_middle.trans ?_;simp_all
theorem zen :∀{n:Nat} {x:Int},x∈zcx κ n↔0<=x/\x<n
 | 0,x=>by
  simp only [zcx,xL,false_iff];omega
 | n+1,x=>by
  rw [zcx,(zBc κ n _).mem_iff,xy,zen];omega
theorem zsq (κ:Int->Int):∀(n:Nat),(zcx κ n).length=n
 | 0=>rfl
 | n+1=>by rw [zcx,(zBc κ n _).length_eq,yk,zsq κ n]
def zgT (κ:Int->Int) (a b:Int):Prop:=κ a<κ b\/κ a=κ b/\a<b
theorem zDw {κ:Int->Int} {c:Int}:∀{l:List Int},∀x∈l.takeWhile (fun x=>decide (κ x<=c)),κ x<=c/\x∈l:=by
 intro l
 induction l with
 | nil=>intro x hx;simp at hx
 | cons y l ih=>
  intro x hx;rw [uF] at hx
  grind
theorem zCw :∀{l:List Int},l.Pairwise (zgT κ)->∀x∈l.dropWhile (fun x=>decide (κ x<=c)),c<κ x:=by
 intro l
 induction l with
 | nil=>intro _ x hx;simp at hx
 | cons y l ih=>
  intro hp x hx;rw [List.dropWhile_cons] at hx;have hp':=yd.1 hp
  grind [zgT]
theorem zpH (κ:Int->Int):∀(n:Nat),(zcx κ n).Pairwise (zgT κ)
 | 0=> .nil
 | n+1=>by
  have ih:=zpH κ n;have hm:∀x∈zcx κ n,x<n:=fun x hx=>(zen.1 hx).2
  rw [zcx,insS];have hsplit:(zcx κ n).takeWhile (fun x=>decide (κ x<=κ n))++(zcx κ n).dropWhile (fun x=>decide (κ x<=κ n))=zcx κ n:=pu;have hp:((zcx κ n).takeWhile (fun x=>decide (κ x<=κ n))++(zcx κ n).dropWhile (fun x=>decide (κ x<=κ n))).Pairwise (zgT κ):=by rw [hsplit];exact ih
  have ht:=zDw (κ:=κ) (c:=κ n) (l:=zcx κ n);have hd:=zCw (c:=κ n) ih;have htm:∀x∈(zcx κ n).takeWhile (fun x=>decide (κ x<=κ n)),x<n:=fun x hx=>hm x (ht x hx).2
  rw [List.pairwise_append] at hp|-;refine ⟨hp.1,yd.2 ⟨fun x hx=> .inl (hd x hx),hp.2.1⟩,fun a ha b hb=>?_⟩
  grind [zgT]
theorem zCi {κ:Int->Int} {a b:Int} (h:zgT κ a b) (k:zgT κ b a):False:=by unfold zgT at h k;omega
theorem zDq {m:Mes} {i:Nat} {out:List Int} (hi:i<m.Fields.length) (hb:m.Fields.length<=1099511627776) (hol:out.length<=1099511627776) (ho:∀x∈out,0<=x/\x<m.Fields.length):
  ∀(t:List Int) (k:Nat),out.drop k=t->k<=out.length->zcr i m out k=some ((k+(t.takeWhile (fun x=>decide (zaV m x<=zaV m i))).length:Nat):Int):=by
 have ki:zaV m i=(m.Fields[i]).Number:=by unfold zaV;rw [xD,p9,xN hi];rfl
 intro t
 induction t with
 | nil=>
  intro k hd hk;have:=zib hd;refine zhN ?_;unfold zbB;rw [uW,sb,uS];simp
 | cons x t ih=>
  intro k hd hk;obtain ⟨hkl,hx,hd'⟩:=zgV hd;have hxo:=ho x (by rw [<-hx];exact xB hkl);have kx:zaV m x=(m.Fields[x.toNat]'(by omega)).Number:=by unfold zaV;rw [p9,xN (by omega)];rfl
  have hb2:zbB i m out k=if zaV m x<=zaV m i then some (.inl ((k+1:Nat):Int)) else some (.inr (k:Int)):=by
   grind [zbB,sb,wrap_i64,zP]
  rw [uF];by_cases h:zaV m x<=zaV m i
  ·rw [xr h] at hb2;rw [zmf hb2,ih _ hd' (by omega),xr (by simpa using h),yk];congr 2;omega
  ·rw [xq h] at hb2;rw [zhN hb2,xq (by simpa using h)];simp
theorem zDh {m:Mes} (hb:m.Fields.length<=1099511627776):zeX m=some (zcx (zaV m) m.Fields.length):=by
 have key:∀(d i:Nat),i+d=m.Fields.length->zcq m (zcx (zaV m) i) i=some (zcx (zaV m) m.Fields.length):=by
  intro d
  induction d with
  | zero=>
   intro i hi;have:i=m.Fields.length:=by omega
   subst this;refine zme ?_;unfold zbA
   grind
  | succ d ih=>
   intro i hi;refine (zmd (kV:=zcx (zaV m) (i+1)) (i':=((i+1:Nat):Int)) ?_).trans (ih _ (by omega));have hl:=zsq (zaV m) i;have h2:=zDq (m:=m) (i:=i) (out:=zcx (zaV m) i) (by omega) hb (by omega) (fun x hx=>by have:=zen.1 hx;omega) (zcx (zaV m) i) 0 rfl (xC _);have h2':zcr i m (zcx (zaV m) i) 0=_:=h2;rw [xK] at h2';have hsp:(zcx (zaV m) i).takeWhile (fun x=>decide (zaV m x<=zaV m i))++(zcx (zaV m) i).dropWhile (fun x=>decide (zaV m x<=zaV m i))=zcx (zaV m) i:=pu
   generalize htk:(zcx (zaV m) i).takeWhile (fun x=>decide (zaV m x<=zaV m i))=tk at h2' hsp
   generalize hdk:(zcx (zaV m) i).dropWhile (fun x=>decide (zaV m x<=zaV m i))=dk at hsp
   have hins:zcx (zaV m) (i+1)=tk++(i:Int)::dk:=by rw [zcx,insS,htk,hdk]
   have ku:tk.length+dk.length=i:=by rw [<-hl,<-hsp,xz]
   have c1:cut (zcx (zaV m) i) 0 ((tk.length:Nat):Int)=some tk:=by rw [ztT rfl (by omega),<-hsp,yY]
   have c2:cut (zcx (zaV m) i) ((tk.length:Nat):Int) ((zcx (zaV m) i).length:Int)=some dk:=by rw [zqx rfl rfl (by omega),<-hsp,q8]
   unfold zbA;rw [uV,h2',sb,c1,sb,zaQ (by simp;omega),sb,xH,zaQ (by simp;omega),sb,c2,sb,zaQ (by simp;omega),sb,uX,hins];simp
 unfold zeX;have h:=key m.Fields.length 0 (by omega);have h':zcq m [] 0=_:=h;rw [h',sb]
abbrev Vw:=zD
def zvw:Vw:=⟨zrec,0,false⟩
def zt (m:Mes) (i:Int):Fld:=m.Fields.getD i.toNat ⟨[],0,0,false,false,0⟩
def vw (m:Mes) (n w:Int):Int⊕(Int×Bool):=
 if fldI m n<0 then .inr (-1,false)
 else if (zt m (fldI m n)).Repeated=true/\kNum (zt m (fldI m n)).Kind=true/\w=2 then .inr (fldI m n,true)
 else if zbb (zt m (fldI m n)).Kind=false\/zab (zt m (fldI m n)).Kind≠w then .inl 6 else .inr (fldI m n,false)
theorem zcX (m:Mes) (n:Int):fldI m n= -1/\(∀f∈m.Fields,f.Number≠n)\/∃(i:Nat) (h:i<m.Fields.length),fldI m n=i/\m.Fields[i].Number=n/\∀(j:Nat) (h:j<m.Fields.length),j<i->m.Fields[j].Number≠n:=by
 unfold fldI;cases h:m.Fields.findIdx? (fun f:Fld=>f.Number==n) with
 | none=>
  grind [znq]
 | some i=>
  right;have h':=h;rw [pY] at h
  grind [znr]
theorem zbe {m:Mes} {i:Nat} (h:i<m.Fields.length):zt m (i:Int)=m.Fields[i]:=by
 unfold zt;rw [xD,p9,xN h];rfl
theorem zdE (m:Mes) (n w:Int):vw m n w= .inl 6\/vw m n w= .inr (-1,false)/\fldI m n= -1\/∃(i:Nat) (run:Bool),vw m n w= .inr ((i:Int),run)/\fldI m n=i/\i<m.Fields.length:=by
 unfold vw
 grind [zcX]
def zbp (m:Mes) (b:List UInt8) (at5:Int):Vw×Int:=
 if (zbm b at5).2≠0 then (zvw,(zbm b at5).2) else match vw m (zbm b at5).1.Number (zbm b at5).1.Wire with
  | .inl c=>(zvw,c)
  | .inr (i,run)=>(⟨(zbm b at5).1,i,run⟩,0)
theorem zkw {m:Mes} (hm:m.Fields.length<=1152921504606846976) {b:List UInt8} (hb:b.length<=1048576) (at5:Int):zeL m b at5=some (zbp m b at5):=by
 unfold zeL zbp;rw [ztv hb,sb];by_cases h:(zbm b at5).2=0
 ·rw [itF (by simpa using h),xq (by simpa using h),zwz hm,sb]
  generalize (zbm b at5).1=r
  unfold vw;rcases zcX m r.Number with ⟨hf,_⟩| ⟨i,hi,hf,_⟩
  ·grind
  ·rw [hf,uU,xq (by omega),zP rfl hi,sb,zbe hi,zkv,sb,zuG,sb,zrv,sb];have e:(if (m.Fields[i]).Repeated=true then (if kNum (m.Fields[i]).Kind=true then some (r.Wire==2) else some false) else some false)=some (decide ((m.Fields[i]).Repeated=true/\kNum (m.Fields[i]).Kind=true/\r.Wire=2)):=by
    grind
   rw [e,sb];by_cases h1:(m.Fields[i]).Repeated=true/\kNum (m.Fields[i]).Kind=true/\r.Wire=2
   ·grind
   ·rw [itF (xU h1),xq h1];have e2:(if (!zbb (m.Fields[i]).Kind)=true then some true else some (zab (m.Fields[i]).Kind !=r.Wire))=some (decide (zbb (m.Fields[i]).Kind=false\/zab (m.Fields[i]).Kind≠r.Wire)):=by
     cases zbb (m.Fields[i]).Kind
     ·rfl
     grind
    rw [e2,sb];by_cases h2:zbb (m.Fields[i]).Kind=false\/zab (m.Fields[i]).Kind≠r.Wire
    ·rw [itT (xO h2),xr h2];rfl
    grind
 ·rw [itT (by simpa using h),xr h];rfl
def vws (m:Mes) (e:Option (Nat×Int)):List Rec->List Vw×Option (Int×Int)
 | []=>([],e.map fun p=>((p.1:Int),p.2))
 | r::l=>match vw m r.Number r.Wire with
  | .inl c=>([],some (r.From,c))
  | .inr (i,run)=>(⟨r,i,run⟩::(vws m e l).1,(vws m e l).2)
def vwR (r:List Vw×Option (Int×Int)):List Vw×Int×Int:=match r.2 with
 | none=>(r.1,0,0)
 | some (p,c)=>([],p,c)
def zai (m:Mes) (b:List UInt8):List Vw×Int×Int:=vwR (vws m (spl 0 b).2 (spl 0 b).1)
theorem zFi {m:Mes} (hm:m.Fields.length<=1152921504606846976) {b:List UInt8} (hb:b.length<=1048576) (base:Nat) (l:List UInt8):∀(out:List Vw),base<=b.length->l=b.drop base->out.length<=base->
  zcA b m out base=some (match (vws m (spl base l).2 (spl base l).1).2 with| none=> .inl (out++(vws m (spl base l).2 (spl base l).1).1)| some (p,c)=> .inr (p,c)):=by
 refine zgz (fun base l=>∀(out:List Vw),base<=b.length->l=b.drop base->out.length<=base->
  zcA b m out base=some (match (vws m (spl base l).2 (spl base l).1).2 with| none=> .inl (out++(vws m (spl base l).2 (spl base l).1).1)| some (p,c)=> .inr (p,c))) ?_ ?_ ?_ base l
 ·intro base out hbase hl ho;have:b.length<=base:=by have:=congrArg List.length hl;simp at this;omega
  rw [zdr];simp only [vws,pR,xQ];refine zgH ?_;unfold zaR
  grind
 ·intro base l c hl h hc out hbase hld ho;subst hld;have km:base<b.length:=by have:=qe.2 hl;simp at this;omega
  rw [zfJ hl h];simp only [vws,qM];refine zgH ?_;unfold zaR
  grind [zbm,zbp,zkw,sb]
 ·intro base l n w a t hl h _ g1 g2 g3 ih out hbase hld ho;subst hld;simp only [xR] at g3;have km:base<b.length:=by omega
  rw [zbW hl h];have e:zbm b base=(⟨n,w,base,(base+a:Nat),(base+t:Nat)⟩,0):=by
   unfold zbm;rw [xq (by omega),xD,h];push_cast;rfl
  rw [vws];rcases zdE m n w with hv| ⟨hv,_⟩| ⟨i,run,hv,_,hi⟩
  ·have e2:zbp m b base=(zvw,6):=by unfold zbp;rw [e];simp only [yK,yQ,yp,hv]
   simp only [hv];refine zgH ?_;unfold zaR
   grind [zkw,sb]
  ·have e2:zbp m b base=(⟨⟨n,w,base,(base+a:Nat),(base+t:Nat)⟩, -1,false⟩,0):=by unfold zbp;rw [e];simp only [yK,yQ,yp,hv]
   simp only [hv];refine (ziW (kV:=out++[⟨⟨n,w,base,(base+a:Nat),(base+t:Nat)⟩, -1,false⟩]) (atv':=((base+t:Nat):Int)) ?_).trans ?_
   ·unfold zaR
    grind [zkw,sb,zaQ]
   ·rw [ih _ (by omega) (by rw [yb]) (by simp;omega)]
    grind
  ·have e2:zbp m b base=(⟨⟨n,w,base,(base+a:Nat),(base+t:Nat)⟩,i,run⟩,0):=by unfold zbp;rw [e];simp only [yK,yQ,yp,hv]
   simp only [hv];refine (ziW (kV:=out++[⟨⟨n,w,base,(base+a:Nat),(base+t:Nat)⟩,i,run⟩]) (atv':=((base+t:Nat):Int)) ?_).trans ?_
   ·unfold zaR
    grind [zkw,sb,zaQ]
   ·rw [ih _ (by omega) (by rw [yb]) (by simp;omega)]
    grind
theorem zFh {m:Mes} (hm:m.Fields.length<=1152921504606846976) {b:List UInt8} (hb:b.length<=1048576):zgG m b=some (zai m b):=by
 unfold zgG;have h:=zFi hm hb 0 b [] (xC _) rfl (xx _);have h':zcA b m [] 0=_:=h;rw [h',sb];unfold zai vwR;cases (vws m (spl 0 b).2 (spl 0 b).1).2 with
 | none=>rfl
 | some p=>rfl
def zm (s:List Mes) (i:Int):Mes:=s.getD i.toNat ⟨[],[]⟩
theorem zbq {s:List Mes} {i:Nat} (h:i<s.length):zm s (i:Int)=s[i]:=by
 unfold zm;rw [xD,p9,xN h];rfl
def valB (b:List UInt8) (r:Rec):List UInt8:=(b.drop r.At.toNat).take (r.To.toNat - r.At.toNat)
abbrev znj:=Option (Int->List UInt8->Option (Int×Int))
def zir (f:Fld) (run:Bool) (sub:znj) (r:Rec) (v:List UInt8):Option (Int×Int):=
 if run=true then (if (zmn f.Kind v).2≠0 then some (r.From,(zmn f.Kind v).2) else none)
 else if f.Kind=15/\zhE v=false then some (r.From,7)
 else if f.Kind=17 then (match sub with
  | none=>some (r.From,8)
  | some g=>match g f.Of v with
   | some (p,c)=>some (r.At+p,c)
   | none=>none)
 else none
def zcQ (m:Mes) (sub:znj) (b:List UInt8) (r:Rec):Option (Int×Int):=match vw m r.Number r.Wire with
 | .inl c=>some (r.From,c)
 | .inr (i,run)=>if i<0 then none else zir (zt m i) run sub r (valB b r)
def zcB (m:Mes) (sub:znj) (b:List UInt8) (x:List Rec×Option (Nat×Int)):Option (Int×Int):=match x.1.findSome? (zcQ m sub b) with
 | some p=>some p
 | none=>x.2.map fun p=>((p.1:Int),p.2)
def zH (s:List Mes):Nat->Int->List UInt8->Option (Int×Int)
 | 0,k,b=>zcB (zm s k) none b (spl 0 b)
 | d+1,k,b=>zcB (zm s k) (some (zH s d)) b (spl 0 b)
def zvk (g:Int->List UInt8->Option (Int×Int)):Prop:=∀k v p c,g k v=some (p,c)->3<=c/\c<=8/\0<=p/\p<v.length
theorem zJj (k:Int) :(zmn k b).2=0\/(zmn k b).2=2/\kNum k=false\/(zmn k b).2=3\/(zmn k b).2=4:=by
 unfold zmn
 grind [zEV]
theorem zDF (h:vw m n w= .inr (i,true)):kNum (zt m i).Kind=true/\(zt m i).Repeated=true/\w=2:=by
 unfold vw at h
 grind
theorem zzP (hr:r.At=((base+a:Nat):Int)) (ht:r.To=((base+t:Nat):Int)) (h:base+t<=b.length) (hat:a<=t):(valB b r).length=t - a:=by
 unfold valB;rw [hr,ht];simp;omega
theorem zBP {m:Mes} {sub:znj} {b:List UInt8} (hg:∀g,sub=some g->zvk g) {n w:Int} {base a t:Nat} (h1:1<=a) (hat:a<=t) (ht:base+t<=b.length) {p c:Int}
  (h:zcQ m sub b ⟨n,w,base,(base+a:Nat),(base+t:Nat)⟩=some (p,c)):3<=c/\c<=8/\0<=p/\p<b.length:=by
 unfold zcQ at h;rcases zdE m n w with hv| ⟨hv,_⟩| ⟨i,run,hv,_,hi⟩
 ·grind
 ·grind
 ·simp only [hv] at h;rw [xq (by omega)] at h;unfold zir at h;split at h
  ·grind [zDF,zJj]
  ·split at h
   ·grind
   ·split at h
    ·cases sub with
     | none=>simp only at h;cases h;(try dsimp only);omega
     | some g=>
      simp only at h;have hl:=zzP (b:=b) (r:=⟨n,w,base,(base+a:Nat),(base+t:Nat)⟩) rfl rfl ht hat;cases hgv:g (zt m i).Of (valB b ⟨n,w,base,(base+a:Nat),(base+t:Nat)⟩) with
      | none=>rw [hgv] at h;cases h
      | some q=>
       obtain ⟨q1,q2⟩:=q;rw [hgv] at h;have:=hg g rfl _ _ _ _ hgv
       grind
    ·cases h
theorem zBb {m:Mes} {sub:znj} {b:List UInt8} (hg:∀g,sub=some g->zvk g) (base:Nat) (l:List UInt8):l=b.drop base->base<=b.length->∀p c,zcB m sub b (spl base l)=some (p,c)->3<=c/\c<=8/\0<=p/\p<b.length:=by
 refine zgz (fun base l=>l=b.drop base->base<=b.length->∀p c,zcB m sub b (spl base l)=some (p,c)->3<=c/\c<=8/\0<=p/\p<b.length) ?_ ?_ ?_ base l
 ·grind [zcB,zdr]
 ·intro base l c' hl h hc hld hb p c h2;have km:base<b.length:=by subst hld;have:=qe.2 hl;simp at this;omega
  unfold zcB at h2;rw [zfJ hl h] at h2
  grind
 ·intro base l n w a t hl h _ g1 g2 g3 ih hld hb p c h2;have hbl:base+t<=b.length:=by subst hld;simp at g3;omega
  unfold zcB at h2 ih;rw [zbW hl h] at h2;simp only [uG] at h2;cases hs:zcQ m sub b ⟨n,w,base,(base+a:Nat),(base+t:Nat)⟩ with
  | some q=>rw [hs] at h2;cases h2;exact zBP hg g1 g2 hbl hs
  | none=>
   simp_all
theorem zkl (s:List Mes):∀(d:Nat),zvk (zH s d)
 | 0=>fun k v p c h=>zBb (fun g hg=>by cases hg) 0 v rfl (xC _) p c h
 | d+1=>fun k v p c h=>zBb (fun g hg=>by cases hg;exact zkl s d) 0 v rfl (xC _) p c h
theorem zyi {s:List Mes} {k:Nat} {m:Mes} (hk:∃h:k<s.length,s[k]=m) (hm:m.Fields.length<=1152921504606846976) {b:List UInt8} (hb:b.length<=1048576) {d:Int} (hd:0<=d/\d<=64) {sub:znj}
  {rec:List zc->Int->List UInt8->Int->Option (Int×Int)} (hg:∀g,sub=some g->zvk g) (h0:sub=none↔d=0)
  (hs:∀g,sub=some g->∀f∈m.Fields,f.Kind=17->∀v:List UInt8,v.length<=b.length->rec s f.Of v (d - 1)=some ((g f.Of v).getD (0,0))) (base:Nat) (l:List UInt8):
  l=b.drop base->base<=b.length->zbj b d k rec s base=some (match zcB m sub b (spl base l) with| none=> .inl ()| some p=> .inr p):=by
 obtain ⟨hkl,hke⟩:=hk;have e1:idx s (k:Int)=some m:=by rw [zP rfl hkl,hke]
 refine zgz (fun base l=>l=b.drop base->base<=b.length->zbj b d k rec s base=some (match zcB m sub b (spl base l) with| none=> .inl ()| some p=> .inr p)) ?_ ?_ ?_ base l
 ·intro base hl hbase;have:b.length<=base:=by have:=congrArg List.length hl;simp at this;omega
  unfold zcB;rw [zdr];refine zfM ?_;unfold zbi
  grind
 ·intro base l c hl h hc hld hbase;subst hld;have km:base<b.length:=by have:=qe.2 hl;simp at this;omega
  unfold zcB;rw [zfJ hl h];refine zfM ?_;unfold zbi;have e:zbm b base=(zrec,c):=by unfold zbm;rw [xq (by omega),xD,h]
  grind [zbp,sb,zkw]
 ·intro base l n w a t hl h _ g1 g2 g3 ih hld hbase;subst hld;simp only [xR] at g3;have km:base<b.length:=by omega
  have e:zbm b base=(⟨n,w,base,(base+a:Nat),(base+t:Nat)⟩,0):=by
   unfold zbm;rw [xq (by omega),xD,h];push_cast;rfl
  have ih':=ih (by rw [yb]) (by omega)
  have hfr:zcB m sub b (spl base (b.drop base))=match zcQ m sub b ⟨n,w,base,(base+a:Nat),(base+t:Nat)⟩ with
    | some p=>some p
    | none=>zcB m sub b (spl (base+t) ((b.drop base).drop t)):=by
   unfold zcB;rw [zbW hl h];simp only [uG];cases zcQ m sub b ⟨n,w,base,(base+a:Nat),(base+t:Nat)⟩<;>rfl
  have hcut:cut b ((base+a:Nat):Int) ((base+t:Nat):Int)=some (valB b ⟨n,w,base,(base+a:Nat),(base+t:Nat)⟩):=by
   grind [valB,zgC]
  have hvl:=zzP (b:=b) (r:=⟨n,w,base,(base+a:Nat),(base+t:Nat)⟩) rfl rfl (by omega) g2
  -- the body, by what the record's fault is
  have kW:zbi b d k rec s base=match zcQ m sub b ⟨n,w,base,(base+a:Nat),(base+t:Nat)⟩ with
    | some p=>some (.inr (.inr p))
    | none=>some (.inl ((base+t:Nat):Int)):=by
   unfold zbi zcQ;rw [uV,e1,sb,zkw hm hb,sb];rcases zdE m n w with hv| ⟨hv,_⟩| ⟨i,run,hv,_,hi⟩
   ·grind [zbp]
   ·grind [zbp,sb]
   ·have e2:zbp m b base=(⟨⟨n,w,base,(base+a:Nat),(base+t:Nat)⟩,i,run⟩,0):=by unfold zbp;rw [e];simp only [yK,yQ,yp,hv]
    have hfm:zt m (i:Int)∈m.Fields:=by rw [zbe hi];exact xB hi
    rw [e2,uS];simp only [hv];rw [hcut,sb,uT,sb,zP rfl hi,sb,xq (show ¬((i:Int)<0) by omega),<-zbe hi]
    generalize hvv:valB b ⟨n,w,base,(base+a:Nat),(base+t:Nat)⟩=v at hvl|-
    generalize zt m (i:Int)=f at hfm|-
    unfold zir;cases run
    ·rw [itF (c:=false) rfl,xq (show ¬(false=true) by simp)];have e15:(if (f.Kind==15)=true then (zcV v>>=fun kr=>some (!kr)) else some false)=some (decide (f.Kind=15/\zhE v=false)):=by
      rw [zFp (by omega),sb];by_cases h15:f.Kind=15
      ·simp_all
      grind
     rw [e15,sb];by_cases h15:f.Kind=15/\zhE v=false
     ·grind
     ·rw [itF (xU h15),xq h15];by_cases kq:f.Kind=17
      ·rw [itT (by simpa using kq),xr kq];cases hsub:sub with
       | none=>
        grind
       | some g=>
        have hd0:d≠0:=fun hh=>by rw [h0.2 hh] at hsub;cases hsub
        rw [itF (by simpa using hd0),wrap_i64 (x:=d - 1) (by omega),hs g hsub f hfm kq v (by omega),sb];cases hgv:g f.Of v with
        | none=>simp only [Option.getD_none,hgv];rw [uS]
        | some q=>
         obtain ⟨q1,q2⟩:=q;have:=hg g hsub _ _ _ _ hgv
         grind [wrap_i64]
      grind
    grind [zzo,sb]
  rw [hfr];cases hst:zcQ m sub b ⟨n,w,base,(base+a:Nat),(base+t:Nat)⟩ with
  | some p=>rw [hst] at kW;rw [zfM kW]
  | none=>rw [hst] at kW;rw [zna kW,ih']
theorem zAv {s:List Mes} (hr:zca s):∀(d fuel:Nat),d<=64->d<fuel->∀(k:Nat) (b:List UInt8),k<s.length->b.length<=1048576->
  zaZ fuel s k b d=some ((zH s d k b).getD (0,0)):=by
 intro d
 induction d with
 | zero=>
  intro fuel hd hf k b hk hb;obtain ⟨fuel,rfl⟩:∃q,fuel=q+1:=⟨fuel - 1,by omega⟩;have h:=zyi (s:=s) (k:=k) (m:=s[k]) ⟨hk,rfl⟩ (by have:=hr.few _ (xB hk);omega) hb (d:=0) (by omega) (sub:=none) (rec:=zaZ fuel) (fun g hg=>by cases hg) (by simp) (fun g hg=>by cases hg) 0 b rfl (xC _);have h':zbj b 0 k (zaZ fuel) s 0=_:=h;show zcf (zaZ fuel) s k b 0=_;unfold zcf;rw [h',sb,zH,zbq hk]
  grind
 | succ d ih=>
  intro fuel hd hf k b hk hb;obtain ⟨fuel,rfl⟩:∃q,fuel=q+1:=⟨fuel - 1,by omega⟩
  have h:=zyi (s:=s) (k:=k) (m:=s[k]) ⟨hk,rfl⟩ (by have:=hr.few _ (xB hk);omega) hb (d:=((d+1:Nat):Int)) (by omega) (sub:=some (zH s d)) (rec:=zaZ fuel)
   (fun g hg=>by cases hg;exact zkl s d) (by constructor<;>intro h<;>first| cases h| omega)
   (fun g hg f hf17 kq v hv=>by
    cases hg;have hof:=(hr.fld _ (xB hk) f hf17).sub kq;obtain ⟨q,hq⟩:∃q:Nat,f.Of=q:=⟨f.Of.toNat,by omega⟩;have e:((d+1:Nat):Int) - 1=(d:Int):=by omega
    rw [e,hq];exact ih fuel (by omega) (by omega) q v (by omega) (by omega)) 0 b rfl (xC _)
  have h':zbj b ((d+1:Nat):Int) k (zaZ fuel) s 0=_:=h;show zcf (zaZ fuel) s k b ((d+1:Nat):Int)=_;unfold zcf;rw [h',sb,zH,zbq hk]
  grind
def argS (s:List Mes) (root d:Int):Int:=if zlq s=false then 9 else if root<0\/root>=s.length\/d<0\/d>64 then 2 else 0
theorem zHd {s:List Mes} (hw:WS s) (root d:Int):zgd s root d=some (argS s root d):=by
 unfold zgd argS
 grind [zAx,sb]
def zaE (s:List Mes) (root:Int) (b:List UInt8) (d:Int):Int×Int:=if argS s root d≠0 then (0,argS s root d) else (zH s d.toNat root b).getD (0,0)
theorem zol (h:argS s root d=0):zca s/\0<=root/\root<s.length/\0<=d/\d<=64:=by
 unfold argS at h
 grind [zJX]
theorem zAt {s:List Mes} (hw:WS s) (root:Int) {b:List UInt8} (hb:b.length<=1048576) (d:Int) {fuel:Nat} (hf:64<fuel):zfy fuel s root b d=some (zaE s root b d):=by
 unfold zfy zaE;rw [zHd hw,sb];by_cases h:argS s root d=0
 ·obtain ⟨hr,h1,h2,h3,h4⟩:=zol h;obtain ⟨k,rfl⟩:∃k:Nat,root=k:=⟨root.toNat,by omega⟩
  grind [zAv,sb]
 grind
def is11 (s:List Mes) (root:Int) (b:List UInt8) (d:Int):Bool:=(zaE s root b d).2==0
theorem zbX :zcB m sub b x=none↔(∀r∈x.1,zcQ m sub b r=none)/\x.2=none:=by
 unfold zcB;cases h:x.1.findSome? (zcQ m sub b) with
 | some p=>
  grind
 | none=>
  rw [List.findSome?_eq_none_iff] at h;cases hx:x.2 with
  | none=>exact ⟨fun _=>⟨h,rfl⟩,fun _=>rfl⟩
  | some p=>exact ⟨(fun h'=>nomatch h'),fun ⟨_,h2⟩=>nomatch h2⟩
theorem zwL (z:List UInt8) (h0:0<=r.To) (h:r.To<=b.length):valB (b++z) r=valB b r:=by
 unfold valB;by_cases ha:r.At.toNat<=b.length
 ·grind
 ·have e:r.To.toNat - r.At.toNat=0:=by omega
  grind
theorem ztH (a b:List UInt8) (h0:0<=r.At) (h1:r.At<=r.To):valB (a++b) (zmG a.length r)=valB b r:=by
 unfold valB zmG;simp only;have e1:(r.At+(a.length:Int)).toNat=a.length+r.At.toNat:=by omega
 have e2:(r.To+(a.length:Int)).toNat - (a.length+r.At.toNat)=r.To.toNat - r.At.toNat:=by omega
 simp_all
theorem zrD (hn:r'.Number=r.Number) (hw:r'.Wire=r.Wire) (hv:valB b' r'=valB b r):zcQ m sub b' r'=none↔zcQ m sub b r=none:=by
 unfold zcQ;rw [hn,hw,hv];cases vw m r.Number r.Wire with
 | inl c=>simp
 | inr p=>
  simp only;by_cases hi:p.1<0
  ·simp [hi]
  ·rw [xq hi,xq hi];unfold zir
   grind
theorem ztC (base:Nat) (l:List UInt8):∀r∈(spl base l).1,(base:Int)<=r.From/\r.From<r.At/\r.At<=r.To/\r.To<=base+l.length:=by
 refine zgz (fun base l=>∀r∈(spl base l).1,(base:Int)<=r.From/\r.From<r.At/\r.At<=r.To/\r.To<=base+l.length) ?_ ?_ ?_ base l
 ·intro base r hr;rw [zdr] at hr;cases hr
 ·intro base l c hl h _ r hr;rw [zfJ hl h] at hr;cases hr
 ·intro base l n w a t hl h _ g1 g2 g3 ih r hr;rw [zbW hl h] at hr
  grind
theorem zwp (z:List UInt8) (h:zcB m sub a (spl 0 a)=none):zcB m sub (a++z) (spl 0 (a++z))=none↔zcB m sub z (spl 0 z)=none:=by
 rw [zbX] at h;have hap:=zzG z 0 a h.2;have hsh:=zBM a.length 0 z;rw [xK] at hap hsh;rw [hsh] at hap;rw [zbX,zbX,hap];simp only [xF,xA];constructor
 ·rintro ⟨h1,h2⟩;refine ⟨fun r hr=>?_,by cases hz:(spl 0 z).2 with| none=>rfl| some p=>rw [hz] at h2;cases h2⟩;have hb:=ztC 0 z r hr;have:=h1 (zmG a.length r) (.inr ⟨r,hr,rfl⟩);exact (zrD (r:=r) (r':=zmG a.length r) rfl rfl (ztH a z (by omega) (by omega))).1 this
 ·rintro ⟨h1,h2⟩;refine ⟨fun r hr=>?_,by rw [h2];rfl⟩;rcases hr with hr| ⟨r,hr,rfl⟩
  ·have hb:=ztC 0 a r hr
   grind [zrD,zwL]
  ·have hb:=ztC 0 z r hr;exact (zrD (r:=r) (r':=zmG a.length r) rfl rfl (ztH a z (by omega) (by omega))).2 (h1 r hr)
theorem zid (s:List Mes) (d:Nat) (k:Int) (z:List UInt8) (h:zH s d k a=none):zH s d k (a++z)=none↔zH s d k z=none:=by
 cases d with
 | zero=>exact zwp z h
 | succ d=>exact zwp z h
theorem zEq :is11 s root b d=true↔argS s root d=0/\zH s d.toNat root b=none:=by
 unfold is11 zaE;by_cases h:argS s root d=0
 ·rw [xq (by simpa using h)];cases hf:zH s d.toNat root b with
  | none=>simp [h]
  | some p=>
   obtain ⟨p,c⟩:=p;have:=zkl s d.toNat root b p c hf
   grind
 grind
abbrev Msg:=zh
abbrev Vlu:=ze
mutual
def szM:Msg->Nat
 | ⟨vs,_⟩=>1+szVs vs
def szVs:List Vlu->Nat
 | []=>0
 | v::l=>szV v+szVs l
def szV:Vlu->Nat
 | ⟨_,_,_,s⟩=>1+szMs s
def szMs:List Msg->Nat
 | []=>0
 | x::l=>szM x+szMs l
end
theorem zcR (x:Msg):szM x=1+szVs x.Values:=by cases x;rw [szM]
theorem zgr (v:Vlu):szV v=1+szMs v.Subs:=by cases v;rw [szV]
theorem zfb :∀{l:List Vlu},v∈l->szV v<=szVs l
 | [],h=>by cases h
 | u::l,h=>by
  rw [szVs];rcases xy.1 h with rfl| h
  ·omega
  ·have:=zfb h;omega
theorem zfa :∀{l:List Msg},x∈l->szM x<=szMs l
 | [],h=>by cases h
 | u::l,h=>by
  rw [szMs];rcases xy.1 h with rfl| h
  ·omega
  ·have:=zfa h;omega
mutual
/-- Within the reach of what a law is handed. -/
def bdM:Msg->Prop
 | ⟨vs,u⟩=>vs.length*80<=140737488351232/\(u.length*16<=140737488351232/\∀t∈u,t.length<=140737488351232)/\bdVs vs
def bdVs:List Vlu->Prop
 | []=>True
 | v::l=>bdV v/\bdVs l
def bdV:Vlu->Prop
 | ⟨n,w,t,s⟩=>(Lit.int .i64 n).wf=true/\(w.length*8<=140737488351232/\∀x∈w,0<=x/\x<=18446744073709551615)/\(t.length*16<=140737488351232/\∀x∈t,x.length<=140737488351232)/\s.length*48<=140737488351232/\bdMs s
def bdMs:List Msg->Prop
 | []=>True
 | x::l=>bdM x/\bdMs l
end
theorem zlk (x:Msg):bdM x↔x.Values.length*80<=140737488351232/\(x.Unknown.length*16<=140737488351232/\∀t∈x.Unknown,t.length<=140737488351232)/\bdVs x.Values:=by cases x;simp only [bdM]
theorem ziK (v:Vlu):bdV v↔(Lit.int .i64 v.Number).wf=true/\(v.Words.length*8<=140737488351232/\∀x∈v.Words,0<=x/\x<=18446744073709551615)/\(v.Texts.length*16<=140737488351232/\∀x∈v.Texts,x.length<=140737488351232)/\v.Subs.length*48<=140737488351232/\bdMs v.Subs:=by cases v;simp only [bdV]
theorem zfo:∀{l:List Vlu},bdVs l↔∀v∈l,bdV v
 | []=>by simp [bdVs]
 | v::l=>by rw [bdVs,zfo (l:=l)];simp
theorem zfn:∀{l:List Msg},bdMs l↔∀v∈l,bdM v
 | []=>by simp [bdMs]
 | v::l=>by rw [bdMs,zfn (l:=l)];simp
section
open Classical
end
def zas (v:Vlu):Nat:=v.Words.length+v.Texts.length+v.Subs.length
theorem zHf (hb:v.Words.length<=140737488351232/\v.Texts.length<=140737488351232/\v.Subs.length<=140737488351232):zge v=some ((zas v:Nat):Int):=by
 unfold zge zas;rw [wrap_i64 (x:=(v.Words.length:Int)+(v.Texts.length:Int)) (by omega),uX];push_cast;rfl
mutual
def dM:Msg->Nat
 | ⟨vs,_⟩=>dVs vs
def dVs:List Vlu->Nat
 | []=>0
 | v::l=>max (dV v) (dVs l)
def dV:Vlu->Nat
 | ⟨_,_,_,s⟩=>dMs s
def dMs:List Msg->Nat
 | []=>0
 | x::l=>max (1+dM x) (dMs l)
end
theorem zHN (x:Msg):dM x=dVs x.Values:=by cases x;rw [dM]
theorem zDY (v:Vlu):dV v=dMs v.Subs:=by cases v;rw [dV]
theorem zxc :∀{l:List Vlu},v∈l->dV v<=dVs l
 | [],h=>by cases h
 | u::l,h=>by
  rw [dVs];rcases xy.1 h with rfl| h
  ·omega
  ·have:=zxc h;omega
theorem zCv :∀{l:List Msg},x∈l->1+dM x<=dMs l
 | [],h=>by cases h
 | u::l,h=>by
  rw [dMs];rcases xy.1 h with rfl| h
  ·omega
  ·have:=zCv h;omega
structure Th where
 fi:Int
 run:Bool
 val:List UInt8
 raw:List UInt8
def rawB (b:List UInt8) (r:Rec):List UInt8:=(b.drop r.From.toNat).take (r.To.toNat - r.From.toNat)
def thOf (b:List UInt8) (t:Vw):Th:=⟨t.Field,t.Run,valB b t.R,rawB b t.R⟩
def ths (m:Mes) (b:List UInt8):List Th:=(zai m b).1.map (thOf b)
def wt:List Th->Nat
 | []=>0
 | t::l=>t.val.length+1+wt l
theorem zDH:∀(l:List Th),l.length<=wt l
 | []=>by simp [wt]
 | t::l=>by have:=zDH l;simp only [yk,wt];omega
theorem ztL :∀{l:List Th},t∈l->t.val.length+1<=wt l
 | [],h=>by cases h
 | u::l,h=>by
  rw [wt];rcases xy.1 h with rfl| h
  ·omega
  ·have:=ztL h;omega
theorem zIW :∀{l:List Rec} {t:Vw},t∈(vws m e l).1->t.R∈l
 | [],t,h=>by simp [vws] at h
 | r::l,t,h=>by
  rw [vws] at h;cases hv:vw m r.Number r.Wire with
  | inl c=>rw [hv] at h;simp at h
  | inr p=>
   rw [hv] at h;rcases xy.1 h with rfl| h
   ·grind
   ·exact xu _ (zIW h)
theorem zJf (h:t∈(zai m b).1):t.R∈(spl 0 b).1:=by
 unfold zai vwR at h;split at h
 ·exact zIW h
 ·simp at h
theorem zxK (h:t∈(zai m b).1):0<=t.R.From/\t.R.From<t.R.At/\t.R.At<=t.R.To/\t.R.To<=b.length:=by
 have:=ztC 0 b _ (zJf h);simpa using this
theorem zQk (b:List UInt8):∀(base:Nat) (l:List UInt8),l=b.drop base->base<=b.length->wt ((vws m e (spl base l).1).1.map (thOf b))<=l.length:=by
 intro base l;refine zgz (fun base l=>l=b.drop base->base<=b.length->wt ((vws m e (spl base l).1).1.map (thOf b))<=l.length) ?_ ?_ ?_ base l
 ·intro base _ _;rw [zdr];simp [vws,wt]
 ·intro base l c hl h _ _ _;rw [zfJ hl h];simp [vws,wt]
 ·intro base l n w a t hl h _ g1 g2 g3 ih hld hbase;have ku:l.length=b.length - base:=by rw [hld];simp
  have ih':=ih (by rw [hld,yb]) (by omega);rw [zbW hl h,vws];cases hv:vw m n w with
  | inl c=>simp [wt]
  | inr p=>
   simp only [xJ,wt,thOf,xR] at ih'|-;rw [zzP (b:=b) (base:=base) (a:=a) (t:=t) rfl rfl (by omega) g2];omega
theorem zod (m:Mes) (b:List UInt8):wt (ths m b)<=b.length:=by
 unfold ths zai vwR;split
 ·exact zQk b 0 b rfl (xC _)
 ·simp [wt]
abbrev zcu:=List UInt8×Bool×List Int×List Str×List Msg
def stp (g:Int->List UInt8->Msg) (f:Fld) (a:zcu) (t:Th):zcu:=
 if t.run=true then (a.1,true,(if f.Repeated=true then a.2.2.1 else [])++(zag f.Kind t.val).1,(if f.Repeated=true then a.2.2.2.1 else []),a.2.2.2.2)
 else if kNum f.Kind=true then (a.1,true,(if f.Repeated=true then a.2.2.1 else [])++[(zmE f.Kind t.val).1],(if f.Repeated=true then a.2.2.2.1 else []),a.2.2.2.2)
 else if f.Kind=17/\f.Repeated=true then (a.1,true,(if f.Repeated=true then a.2.2.1 else []),(if f.Repeated=true then a.2.2.2.1 else []),a.2.2.2.2++[g f.Of t.val])
 else if f.Kind=17 then (a.1++t.val,true,(if f.Repeated=true then a.2.2.1 else []),(if f.Repeated=true then a.2.2.2.1 else []),a.2.2.2.2)
 else (a.1,true,(if f.Repeated=true then a.2.2.1 else []),(if f.Repeated=true then a.2.2.2.1 else [])++[t.val],a.2.2.2.2)
def accF (g:Int->List UInt8->Msg) (f:Fld) (i:Int):zcu->List Th->zcu
 | a,[]=>a
 | a,t::l=>accF g f i (if t.fi=i then stp g f a t else a) l
theorem znk (g:Int->List UInt8->Msg) (f:Fld) (i:Int):∀(a:zcu) (l m:List Th),accF g f i a (l++m)=accF g f i (accF g f i a l) m
 | a,[],m=>rfl
 | a,t::l,m=>by simp only [yn,accF];exact znk g f i _ l m
def wA (a:zcu):Nat:=a.1.length+a.2.2.1.length+a.2.2.2.1.length+a.2.2.2.2.length
def wJ (a:zcu):Nat:=a.1.length+(if a.2.1=true then 1 else 0)
theorem zwd (k:Int) (v:List UInt8):(zag k v).1.length<=v.length:=by
 unfold zag;have:=zxr k v
 grind
theorem zMw (g:Int->List UInt8->Msg) (f:Fld) (a:zcu) (t:Th):wA (stp g f a t)<=wA a+t.val.length+1/\wJ (stp g f a t)<=wJ a+t.val.length+1:=by
 have h1:(if f.Repeated=true then a.2.2.1 else []).length<=a.2.2.1.length:=by split<;>simp
 have h2:(if f.Repeated=true then a.2.2.2.1 else []).length<=a.2.2.2.1.length:=by split<;>simp
 have h3:=zwd f.Kind t.val;unfold stp wA wJ
 grind
theorem zqt (g:Int->List UInt8->Msg) (f:Fld) (i:Int):∀(a:zcu) (l:List Th),wA (accF g f i a l)<=wA a+wt l/\wJ (accF g f i a l)<=wJ a+wt l
 | a,[]=>by simp [accF,wt]
 | a,t::l=>by
  have h:=zqt g f i (if t.fi=i then stp g f a t else a) l;have h2:=zMw g f a t;rw [accF,wt];split at h
  ·rename_i ht;rw [xr ht];omega
  ·rename_i ht;rw [xq ht];omega
def acc0:zcu:=([],false,[],[],[])
def valO (g:Int->List UInt8->Msg) (f:Fld) (q:zcu):Vlu:=⟨f.Number,q.2.2.1,q.2.2.2.1,if q.2.1=true/\f.Kind=17/\f.Repeated=false then [g f.Of q.1] else q.2.2.2.2⟩
def zmL (g:Int->List UInt8->Msg) (m:Mes) (l:List Th) (o:List Int):List Vlu:=(o.map fun i=>valO g (zt m i) (accF g (zt m i) i acc0 l)).filter fun v=>decide (0<zas v)
def unkO (l:List Th):List Str:=(l.filter fun t=>decide (t.fi<0)).map (·.raw)
def zdR (g:Int->List UInt8->Msg) (m:Mes) (l:List Th):Msg:=⟨zmL g m l (zcx (zaV m) m.Fields.length),unkO l⟩
def ofN (s:List Mes):Nat->Int->List UInt8->Msg
 | 0,_,_=>⟨[],[]⟩
 | n+1,k,b=>zdR (ofN s n) (zm s k) (ths (zm s k) b)
theorem zKd (a:zcu) (h:f.Kind=17->g f.Of t.val=g' f.Of t.val):stp g f a t=stp g' f a t:=by
 unfold stp
 grind
theorem zxI (i:Int):∀(a:zcu) {l:List Th},(f.Kind=17->∀v:List UInt8,v.length+1<=wt l->g f.Of v=g' f.Of v)->accF g f i a l=accF g' f i a l
 | a,[],h=>rfl
 | a,t::l,h=>by
  rw [accF,accF,zKd a (fun kq=>h kq t.val (by rw [wt];omega))];exact zxI i _ (fun kq v hv=>h kq v (by rw [wt];omega))
theorem zHx (i:Int) (h:f.Kind=17->∀v:List UInt8,v.length+1<=wt l->g f.Of v=g' f.Of v):valO g f (accF g f i acc0 l)=valO g' f (accF g' f i acc0 l):=by
 rw [zxI i acc0 h];have hw:=(zqt g' f i acc0 l).2;unfold valO;by_cases hc:(accF g' f i acc0 l).2.1=true/\f.Kind=17/\f.Repeated=false
 ·rw [xr hc,xr hc,h hc.2.1 _ (by
   have h0:wJ acc0=0:=rfl;rw [h0,wJ,xr hc.1] at hw;omega)]
 grind
theorem zwv (h:∀k:Int,∀v:List UInt8,v.length+1<=wt l->g k v=g' k v):zdR g m l=zdR g' m l:=by
 unfold zdR zmL;congr 2;exact qk fun i _=>zHx i (fun _ v hv=>h _ v hv)
theorem ztr (s:List Mes):∀(n n':Nat) (k:Int) (b:List UInt8),b.length<n->b.length<n'->ofN s n k b=ofN s n' k b
 | 0,n',k,b,h,_=>by omega
 | n+1,0,k,b,_,h=>by omega
 | n+1,n'+1,k,b,h,h'=>by
  rw [ofN,ofN];have hw:=zod (zm s k) b;exact zwv fun k v hv=>ztr s n n' k v (by omega) (by omega)
def ofM (s:List Mes) (k:Int) (b:List UInt8):Msg:=ofN s (b.length+1) k b
theorem zNO {s:List Mes} {n:Nat} {k:Int} {b:List UInt8} (h:b.length<n):ofN s n k b=ofM s k b:=ztr s _ _ _ _ h (Nat.lt_succ_self _)
theorem zks (s:List Mes) (k:Int) (b:List UInt8):ofM s k b=zdR (ofM s) (zm s k) (ths (zm s k) b):=by
 have hw:=zod (zm s k) b;unfold ofM;rw [ofN];exact zwv fun k v hv=>ztr s _ _ _ _ (by omega) (Nat.lt_succ_self _)
theorem zOk (b:List UInt8) (r:Rec) (h:r.At<=r.To) (h0:0<=r.From) (h1:r.From<r.At) (h2:r.To<=b.length):(valB b r).length+1<=b.length:=by
 unfold valB;simp;omega
theorem zzq {g:Int->List UInt8->Msg} {rec:List zc->Int->List UInt8->Option zh} {sv:List Mes} {b:List UInt8} (hb:b.length<=1048576) {f:Fld}
  (hg:f.Kind=17->∀v:List UInt8,v.length+1<=b.length->rec sv f.Of v=some (g f.Of v)) {rv:List Vw×Int×Int} (hr:∀t∈rv.1,0<=t.R.From/\t.R.From<t.R.At/\t.R.At<=t.R.To/\t.R.To<=b.length)
  (hL:rv.1.length<=1048576) {kj:List Int} {i:Nat} {ix:Int} (hi:idx kj (i:Int)=some ix):∀(c k:Nat) (a:zcu),k+c=rv.1.length->wA a+wt ((rv.1.drop k).map (thOf b))<=1048576->
  zeg b i rec rv kj sv f a.1 a.2.1 k a.2.2.1 a.2.2.2.1 a.2.2.2.2=some (accF g f ix a ((rv.1.drop k).map (thOf b)))
 | 0,k,a,hk,hw=>by
  have e:rv.1.drop k=[]:=yo (by omega);rw [e];refine zph ?_;unfold zch;rw [uW];rfl
 | c+1,k,a,hk,hw=>by
  have hkl:k<rv.1.length:=by omega
  rw [yf hkl,xJ] at hw|-;rw [wt] at hw
  generalize ht:rv.1[k]=t at hw|-
  have hx:idx rv.1 (k:Int)=some t:=by rw [zP rfl hkl,ht]
  have htr:=hr t (by rw [<-ht];exact xB hkl);obtain ⟨r1,r2,r3,r4⟩:=htr;have hcut:cut b t.R.At t.R.To=some (valB b t.R):=by
   obtain ⟨x,hx1⟩:∃x:Nat,t.R.At=x:=⟨t.R.At.toNat,by omega⟩;obtain ⟨y,hy1⟩:∃x:Nat,t.R.To=x:=⟨t.R.To.toNat,by omega⟩;rw [zgC hx1 hy1 (by omega) (by omega)];unfold valB;rw [hx1,hy1];simp only [xD]
  have hvl:=zOk b t.R r3 r1 r2 r4;have hst:=(zMw g f a (thOf b t)).1
  have ih:=zzq hb hg hr hL hi c (k+1) (if t.Field=ix then stp g f a (thOf b t) else a) (by omega)
   (by split<;>omega)
  have hwk:i64.wrap ((k:Int)+1)=((k+1:Nat):Int):=by rw [uX];push_cast;rfl
  rw [accF];have hfi:(thOf b t).fi=t.Field:=rfl;rw [hfi,<-ih];by_cases hf:t.Field=ix
  ·rw [xr hf];refine zjs ?_;unfold zch;have hp:(if (!f.Repeated)=true then some (([]:List Int),([]:List Str)) else some (a.2.2.1,a.2.2.2.1))=some ((if f.Repeated=true then a.2.2.1 else []),(if f.Repeated=true then a.2.2.2.1 else [])):=by
    grind
   rw [uV,hx,sb,hi,sb,itF (by simpa using hf),sb,sb,hcut,sb,hp,sb,sb,hwk];have l1:(if f.Repeated=true then a.2.2.1 else []).length<=a.2.2.1.length:=by split<;>simp
   have l2:(if f.Repeated=true then a.2.2.2.1 else []).length<=a.2.2.2.1.length:=by split<;>simp
   have kX:(thOf b t).val=valB b t.R:=rfl;have kF:(thOf b t).run=t.Run:=rfl;rw [kX] at hw;unfold wA at hw;unfold stp;rw [kX,kF];by_cases hrn:t.Run=true
   ·have hl:=zwd f.Kind (valB b t.R);rw [itT hrn,xr hrn,zFn _ (by omega),sb,zaQ (by simp only;omega),sb]
   ·rw [itF (by simpa using hrn),xq hrn,zkv,sb];by_cases hn:kNum f.Kind=true
    ·rw [itT hn,xr hn,zwB _ (by omega),sb,zaQ (by simp only [qv];omega),sb]
    ·rw [itF (by simpa using hn),xq hn];by_cases h1:f.Kind=17/\f.Repeated=true
     ·rw [itT (by simpa using h1),xr h1,hg h1.1 _ hvl,sb,zaQ (by simp only [qv];omega),sb]
     ·rw [itF (by simpa using h1),xq h1];by_cases h2:f.Kind=17
      ·rw [itT (by simpa using h2),xr h2,zaQ (by omega),sb]
      ·rw [itF (by simpa using h2),xq h2,zaQ (by simp only [qv];omega),sb]
  ·rw [xq hf];refine zjs ?_;unfold zch
   grind
theorem zKj {g:Int->List UInt8->Msg} {f:Fld} {q:zcu} (h:wA q<=1048576):(valO g f q).Words.length<=1048576/\(valO g f q).Texts.length<=1048576/\(valO g f q).Subs.length<=1048577:=by
 unfold wA at h;unfold valO
 grind
theorem zuH {g:Int->List UInt8->Msg} {rec:List zc->Int->List UInt8->Option zh} {sv:List Mes} {root:Int} {m:Mes} (hm:idx sv root=some m) {b:List UInt8} (hb:b.length<=1048576)
  (hg:∀f∈m.Fields,f.Kind=17->∀v:List UInt8,v.length+1<=b.length->rec sv f.Of v=some (g f.Of v)) {rv:List Vw×Int×Int} (hr:∀t∈rv.1,0<=t.R.From/\t.R.From<t.R.At/\t.R.At<=t.R.To/\t.R.To<=b.length)
  (hw:wt (rv.1.map (thOf b))<=b.length) {o:List Int} (ho:∀x∈o,0<=x/\x<m.Fields.length) (hol:o.length<=1048576):∀(c i:Nat) (out:List Vlu),i+c=o.length->out.length<=i->
  zef b rec root rv o sv i out=some (out++zmL g m (rv.1.map (thOf b)) (o.drop i))
 | 0,i,out,hi,hout=>by
  have e:o.drop i=[]:=yo (by omega);rw [e];refine zpg ?_;unfold zcg;rw [uW];simp [zmL]
 | c+1,i,out,hi,hout=>by
  have hil:i<o.length:=by omega
  rw [yf hil];have hxm:=ho _ (xB hil)
  generalize hx:o[i]=ix at hxm|-
  have hix:idx o (i:Int)=some ix:=by rw [zP rfl hil,hx]
  obtain ⟨n,hn⟩:∃n:Nat,ix=n:=⟨ix.toNat,by omega⟩;have hnl:n<m.Fields.length:=by omega
  have hfx:idx m.Fields ix=some (zt m ix):=by subst hn;rw [zP rfl hnl,zbe hnl]
  have hfm:zt m ix∈m.Fields:=by rw [hn,zbe hnl];exact xB _
  have hL:rv.1.length<=1048576:=by have:=zDH (rv.1.map (thOf b));simp only [pv] at this;omega
  have w0:wA acc0=0:=rfl;have j0:wJ acc0=0:=rfl;have hl2:=zzq hb (hg _ hfm) hr hL hix rv.1.length 0 acc0 (by omega) (by rw [w0,yc];omega);have hl2':zeg b i rec rv o sv (zt m ix) [] false 0 [] [] []=_:=hl2;rw [yc] at hl2';have haw:=zqt g (zt m ix) ix acc0 (rv.1.map (thOf b))
  generalize hq:accF g (zt m ix) ix acc0 (rv.1.map (thOf b))=q at hl2' haw
  have hmany:=zKj (g:=g) (f:=zt m ix) (q:=q) (by omega);have hv:zmL g m (rv.1.map (thOf b)) (ix::o.drop (i+1))=(if 0<zas (valO g (zt m ix) q) then [valO g (zt m ix) q] else [])++zmL g m (rv.1.map (thOf b)) (o.drop (i+1)):=by
   unfold zmL
   grind
  have kW:zcg b rec root rv o sv i out=some (.inl (((i+1:Nat):Int),out++(if 0<zas (valO g (zt m ix) q) then [valO g (zt m ix) q] else []))):=by
   unfold zcg;rw [uV,hm,sb,hix,sb,hfx,sb,hl2',sb];have hp:(if (q.2.1&&((zt m ix).Kind==17&& !(zt m ix).Repeated))=true then (rec sv (zt m ix).Of q.1>>=fun rv7=>some ([rv7]:List zh)) else some q.2.2.2.2)=some (valO g (zt m ix) q).Subs:=by
    unfold valO;by_cases hc:q.2.1=true/\(zt m ix).Kind=17/\(zt m ix).Repeated=false
    ·rw [itT (by simp [hc.1,hc.2.1,hc.2.2]),hg _ hfm hc.2.1 _ (by
      have:=haw.2;rw [j0,wJ,xr hc.1] at this;omega),sb]
     grind
    grind
   rw [hp,sb];have he:(⟨(zt m ix).Number,q.2.2.1,q.2.2.2.1,(valO g (zt m ix) q).Subs⟩:Vlu)=valO g (zt m ix) q:=rfl;rw [he,zHf ⟨by omega,by omega,by omega⟩,sb,uX];by_cases h:0<zas (valO g (zt m ix) q)
   ·rw [itT (by simpa using h),xr h,zaQ (by simp only [qv];omega),sb];push_cast;rfl
   grind
  rw [zpf kW,zuH hm hb hg hr hw ho hol c (i+1) _ (by omega) (by
   rw [xz];split<;>simp<;>omega),hv,yj]
theorem zob {b:List UInt8} (hb:b.length<=1048576) {rv:List Vw×Int×Int} (hr:∀t∈rv.1,0<=t.R.From/\t.R.From<t.R.At/\t.R.At<=t.R.To/\t.R.To<=b.length) (hL:rv.1.length<=1048576):
  ∀(c k:Nat) (out:List Str),k+c=rv.1.length->out.length<=k->zeh b rv k out=some (out++unkO ((rv.1.drop k).map (thOf b)))
 | 0,k,out,hk,hout=>by
  have e:rv.1.drop k=[]:=yo (by omega);rw [e];refine zpi ?_;unfold zba;rw [uW];simp [unkO]
 | c+1,k,out,hk,hout=>by
  have hkl:k<rv.1.length:=by omega
  rw [yf hkl,xJ]
  generalize ht:rv.1[k]=t
  have hx:idx rv.1 (k:Int)=some t:=by rw [zP rfl hkl,ht]
  obtain ⟨r1,r2,r3,r4⟩:=hr t (by rw [<-ht];exact xB hkl);have hcut:cut b t.R.From t.R.To=some (rawB b t.R):=by
   obtain ⟨x,hx1⟩:∃x:Nat,t.R.From=x:=⟨t.R.From.toNat,by omega⟩;obtain ⟨y,hy1⟩:∃x:Nat,t.R.To=x:=⟨t.R.To.toNat,by omega⟩;rw [zgC hx1 hy1 (by omega) (by omega)];unfold rawB;rw [hx1,hy1];simp only [xD]
  have hwk:i64.wrap ((k:Int)+1)=((k+1:Nat):Int):=by rw [uX];push_cast;rfl
  have hfi:(thOf b t).fi=t.Field:=rfl;have hraw:(thOf b t).raw=rawB b t.R:=rfl;by_cases hf:t.Field<0
  ·have kW:zba b rv k out=some (.inl (((k+1:Nat):Int),out++[rawB b t.R])):=by
    unfold zba;rw [uV,hx,sb,itT (by simpa using hf),sb,sb,hcut,sb,zaQ (by simp only [qv];omega),sb,hwk]
   rw [zjt kW,zob hb hr hL c (k+1) _ (by omega) (by simp;omega)];unfold unkO;rw [yD,xr (by rw [hfi];simpa using hf),xJ,hraw,yj];rfl
  ·have kW:zba b rv k out=some (.inl (((k+1:Nat):Int),out)):=by
    unfold zba;rw [uV,hx,sb,itF (by simpa using hf),hwk]
   rw [zjt kW,zob hb hr hL c (k+1) _ (by omega) (by omega)];unfold unkO;rw [yD,xq (by rw [hfi];simpa using hf)]
theorem zwA {s:List Mes} (hs:zca s):∀(fuel k:Nat) (b:List UInt8),k<s.length->b.length<=1048576->b.length<fuel->zdN fuel s k b=some (ofN s fuel k b)
 | 0,k,b,_,_,h=>by omega
 | fuel+1,k,b,hk,hb,hf=>by
  have hm:idx s (k:Int)=some (zm s k):=by rw [zP rfl hk,zbq hk]
  have hmm:zm s (k:Int)∈s:=by rw [zbq hk];exact xB hk
  have hfew:=hs.few _ hmm;have hg:∀f∈(zm s (k:Int)).Fields,f.Kind=17->∀v:List UInt8,v.length+1<=b.length->zdN fuel s f.Of v=some (ofN s fuel f.Of v):=fun f hfm kq v hv=>by
   have hof:=(hs.fld _ hmm f hfm).sub kq;obtain ⟨q,hq⟩:∃q:Nat,f.Of=q:=⟨f.Of.toNat,by omega⟩;rw [hq];exact zwA hs fuel q v (by omega) (by omega) (by omega)
  have hr:∀t∈(zai (zm s (k:Int)) b).1,0<=t.R.From/\t.R.From<t.R.At/\t.R.At<=t.R.To/\t.R.To<=b.length:=fun t ht=>zxK ht
  have hw:wt ((zai (zm s (k:Int)) b).1.map (thOf b))<=b.length:=zod _ _;have hL:(zai (zm s (k:Int)) b).1.length<=1048576:=by have:=zDH ((zai (zm s (k:Int)) b).1.map (thOf b));simp only [pv] at this;omega
  have h1:=zuH (root:=(k:Int)) hm hb hg hr hw (o:=zcx (zaV (zm s (k:Int))) (zm s (k:Int)).Fields.length) (fun x hx=>zen.1 hx) (by rw [zsq];omega) _ 0 [] (xK _) (xx _);have h1':zef b (zdN fuel) k (zai (zm s (k:Int)) b) (zcx (zaV (zm s (k:Int))) (zm s (k:Int)).Fields.length) s 0 []=_:=h1;have h3:=zob hb hr hL _ 0 [] (xK _) (xx _);have h3':zeh b (zai (zm s (k:Int)) b) 0 []=_:=h3;show zgf (zdN fuel) s k b=_;unfold zgf;rw [hm,sb,zFh (by omega) hb,sb,sb,zDh (by omega),sb,h1',sb,h3',sb,ofN];rfl
theorem zHg {s:List Mes} (hs:zca s) {k:Nat} (hk:k<s.length) {b:List UInt8} (hb:b.length<=1048576) {fuel:Nat} (hf:b.length<fuel):zdN fuel s k b=some (ofM s k b):=by
 rw [zwA hs fuel k b hk hb hf,zNO hf]
mutual
/-- How much a meaning is, all together. -/
def wgM:Msg->Nat
 | ⟨vs,u⟩=>1+(u.map fun t=>1+t.length).sum+wgVs vs
def wgVs:List Vlu->Nat
 | []=>0
 | v::l=>wgV v+wgVs l
def wgV:Vlu->Nat
 | ⟨_,w,t,s⟩=>1+w.length+(t.map fun t=>1+t.length).sum+wgMs s
def wgMs:List Msg->Nat
 | []=>0
 | x::l=>wgM x+wgMs l
end
theorem zlt (x:Msg):wgM x=1+(x.Unknown.map fun t=>1+t.length).sum+wgVs x.Values:=by cases x;rw [wgM]
theorem zjS (v:Vlu):wgV v=1+v.Words.length+(v.Texts.map fun t=>1+t.length).sum+wgMs v.Subs:=by cases v;rw [wgV]
theorem zrP :∀{l:List Vlu},v∈l->wgV v<=wgVs l
 | [],h=>by cases h
 | u::l,h=>by
  rw [wgVs];rcases xy.1 h with rfl| h
  ·omega
  ·have:=zrP h;omega
theorem zli :∀{l:List Msg},x∈l->wgM x<=wgMs l
 | [],h=>by cases h
 | u::l,h=>by
  rw [wgMs];rcases xy.1 h with rfl| h
  ·omega
  ·have:=zli h;omega
theorem zst :∀{l:List Str},t∈l->1+t.length<=(l.map fun t=>1+t.length).sum
 | [],h=>by cases h
 | u::l,h=>by
  rw [xJ,qQ];rcases xy.1 h with rfl| h
  ·omega
  ·have:=zst h;omega
theorem zxx:∀{l:List Str},l.length<=(l.map fun t=>1+t.length).sum
 | []=>by simp
 | u::l=>by
  rw [xJ,qQ,yk];have:=zxx (l:=l);omega
theorem zFU:∀(l:List Vlu),l.length<=wgVs l
 | []=>by simp [wgVs]
 | u::l=>by rw [wgVs,yk,zjS];have:=zFU l;omega
theorem zzY:∀(l:List Msg),l.length<=wgMs l
 | []=>by simp [wgMs]
 | u::l=>by rw [wgMs,yk,zlt];have:=zzY l;omega
def unkR (m:Mes) (u:Str):Bool:=(zbm u 0).2==0&&(zbm u 0).1.To==(u.length:Int)&&decide (fldI m (zbm u 0).1.Number<0)
def zjT (f:Fld) (w:Int):Bool:=kNum f.Kind&&zbg f.Kind w==w
def zly (f:Fld) (t:Str):Bool:=f.Kind==16|| (f.Kind==15&&zhE t)
def zsS (f:Fld) (v:Vlu):Bool:=decide (0<zas v)&&(decide (zas v<=1)|| f.Repeated)&&zbb f.Kind
mutual
def zay (s:List Mes):Msg->Int->Bool
 | ⟨vs,u⟩,k=>decide (0<=k/\k<s.length)&&zgl s vs (zm s k) none&&u.all (unkR (zm s k))
def zgl (s:List Mes):List Vlu->Mes->Option Int->Bool
 | [],_,_=>true
 | v::l,m,p=>decide (0<=fldI m v.Number)&&p.all (fun n=>decide (n<v.Number))&&zjY s v (zt m (fldI m v.Number))&&zgl s l m (some v.Number)
def zjY (s:List Mes):Vlu->Fld->Bool
 | ⟨n,w,t,sub⟩,f=>zsS f ⟨n,w,t,sub⟩&&w.all (zjT f)&&t.all (zly f)&&zsn s sub f
def zsn (s:List Mes):List Msg->Fld->Bool
 | [],_=>true
 | x::l,f=>(f.Kind==17&&zay s x f.Of)&&zsn s l f
end
theorem zlQ (s:List Mes) (x:Msg) (k:Int):zay s x k=(decide (0<=k/\k<s.length)&&zgl s x.Values (zm s k) none&&x.Unknown.all (unkR (zm s k))):=by cases x;rw [zay]
theorem zuc (s:List Mes) (v:Vlu) (f:Fld):zjY s v f=(zsS f v&&v.Words.all (zjT f)&&v.Texts.all (zly f)&&zsn s v.Subs f):=by cases v;rw [zjY]
theorem zmC (s:List Mes) (f:Fld):∀(l:List Msg),zsn s l f=l.all fun x=>f.Kind==17&&zay s x f.Of
 | []=>by rw [zsn];rfl
 | x::l=>by rw [zsn,zmC s f l];rfl
mutual
/-- No list is long. -/
def smM:Msg->Prop
 | ⟨vs,u⟩=>vs.length<=1048576/\(u.length<=1048576/\∀t∈u,t.length<=1048576)/\smVs vs
def smVs:List Vlu->Prop
 | []=>True
 | v::l=>smV v/\smVs l
def smV:Vlu->Prop
 | ⟨n,w,t,s⟩=>w.length<=1048576/\(t.length<=1048576/\∀x∈t,x.length<=1048576)/\s.length<=1048576/\smMs s
def smMs:List Msg->Prop
 | []=>True
 | x::l=>smM x/\smMs l
end
theorem zzE (x:Msg):smM x↔x.Values.length<=1048576/\(x.Unknown.length<=1048576/\∀t∈x.Unknown,t.length<=1048576)/\smVs x.Values:=by cases x;simp only [smM]
theorem zzF (v:Vlu):smV v↔v.Words.length<=1048576/\(v.Texts.length<=1048576/\∀x∈v.Texts,x.length<=1048576)/\v.Subs.length<=1048576/\smMs v.Subs:=by cases v;simp only [smV]
theorem zoQ:∀{l:List Vlu},smVs l↔∀v∈l,smV v
 | []=>by simp [smVs]
 | v::l=>by rw [smVs,zoQ (l:=l)];simp
theorem zoP:∀{l:List Msg},smMs l↔∀v∈l,smM v
 | []=>by simp [smMs]
 | v::l=>by rw [smMs,zoP (l:=l)];simp
def zFC (s:List Mes):Nat->znj
 | 0=>none
 | e+1=>some (zH s e)
theorem zej (s:List Mes) (d:Nat) (k:Int) (b:List UInt8):zH s d k b=zcB (zm s k) (zFC s d) b (spl 0 b):=by cases d<;>rfl
theorem znp (s:List Mes) (d:Nat) (k:Int):zH s d k []=none:=by rw [zej,zdr];rfl
def vwG (m:Mes) (r:Rec):Int×Bool:=match vw m r.Number r.Wire with
 | .inl _=>(-1,false)
 | .inr p=>p
def thR (m:Mes) (b:List UInt8) (r:Rec):Th:=⟨(vwG m r).1,(vwG m r).2,valB b r,rawB b r⟩
theorem zHB :∀{l:List Rec},(∀r∈l,∃p,vw m r.Number r.Wire= .inr p)->vws m none l=(l.map fun r=>⟨r,(vwG m r).1,(vwG m r).2⟩,none)
 | [],_=>rfl
 | r::l,h=>by
  obtain ⟨p,hp⟩:=h r xt;rw [vws,hp,zHB fun x hx=>h x (xu _ hx)];simp only [xJ,vwG,hp]
theorem zDs (h:zcQ m sub b r=none):∃p,vw m r.Number r.Wire= .inr p:=by
 unfold zcQ at h;cases hv:vw m r.Number r.Wire with
 | inl c=>rw [hv] at h;cases h
 | inr p=>exact ⟨p,rfl⟩
theorem zoc (h:zH s d k b=none):ths (zm s k) b=(spl 0 b).1.map (thR (zm s k) b):=by
 rw [zej,zbX] at h;unfold ths zai;rw [h.2,zHB fun r hr=>zDs (h.1 r hr)];unfold vwR;simp only [yC];rfl
theorem zFe {b:List UInt8} (z:List UInt8) {r:Rec} (h0:0<=r.To) (h:r.To<=b.length):rawB (b++z) r=rawB b r:=by
 unfold rawB;by_cases ha:r.From.toNat<=b.length
 ·grind
 ·have e:r.To.toNat - r.From.toNat=0:=by omega
  grind
theorem zHb (a b:List UInt8) {r:Rec} (h0:0<=r.From) (h1:r.From<=r.To):rawB (a++b) (zmG a.length r)=rawB b r:=by
 unfold rawB zmG;simp only;have e1:(r.From+(a.length:Int)).toNat=a.length+r.From.toNat:=by omega
 have e2:(r.To+(a.length:Int)).toNat - (a.length+r.From.toNat)=r.To.toNat - r.From.toNat:=by omega
 simp_all
theorem zzM {s:List Mes} {d:Nat} {k:Int} {a z:List UInt8} (ha:zH s d k a=none) (hz:zH s d k z=none):ths (zm s k) (a++z)=ths (zm s k) a++ths (zm s k) z:=by
 rw [zoc ((zid s d k z ha).2 hz),zoc ha,zoc hz];rw [zej,zbX] at ha;have hap:=zzG z 0 a ha.2;have hsh:=zBM a.length 0 z;rw [xK] at hap hsh;rw [hap,hsh];simp only [qi,yC];congr 1
 ·refine qk fun r hr=>?_
  have:=ztC 0 a r hr;unfold thR;rw [zwL z (by omega) (by omega),zFe z (by omega) (by omega)]
 ·refine qk fun r hr=>?_
  have:=ztC 0 z r hr;show thR _ _ (zmG a.length r)=_;unfold thR;rw [ztH a z (by omega) (by omega),zHb a z (by omega) (by omega)];rfl
structure OkT (s:List Mes) (d:Nat) (m:Mes) (t:Th):Prop where
 fi:t.fi= -1\/0<=t.fi/\t.fi<m.Fields.length
 unk:t.fi<0->unkR m t.raw=true
 run:0<=t.fi->t.run=true->kNum (zt m t.fi).Kind=true/\(zt m t.fi).Repeated=true/\(zmn (zt m t.fi).Kind t.val).2=0
 one:0<=t.fi->t.run=false->zbb (zt m t.fi).Kind=true/\zbt (zab (zt m t.fi).Kind) t.val=true/\((zt m t.fi).Kind=15->zhE t.val=true)/\((zt m t.fi).Kind=17->∃e,d=e+1/\zH s e (zt m t.fi).Of t.val=none)
theorem zFG (h:zH s d k b=none):∀t∈ths (zm s k) b,OkT s d (zm s k) t:=by
 intro t ht;rw [zoc h] at ht;obtain ⟨r,hr,rfl⟩:=xA.1 ht;obtain ⟨n,w,f,a,u,hre,kZ,h1,h2,h3⟩:=zDr b 0 b rfl (xC _) r hr;rw [zej,zbX] at h;have hs:=h.1 r hr
 generalize zm s k=m at hs|-
 have hraw:rawB b r=(b.drop f).take u:=by
  unfold rawB;rw [hre];simp only [xD]
  grind
 have kX:valB b r=((b.drop f).drop a).take (u - a):=by
  unfold valB;rw [hre];simp only [xD];rw [yb,show f+u - (f+a)=u - a by omega]
 have hfit:=(zzl kZ).1;have hn:r.Number=n:=by rw [hre]
 have hw:r.Wire=w:=by rw [hre]
 have hrl:((b.drop f).take u).length=u:=by simp;omega
 have hnx:zbm ((b.drop f).take u) 0=(⟨n,w,0,0+(a:Int),0+(u:Int)⟩,0):=by
  unfold zbm;rw [xq (by rw [hrl];omega)];simp only [Int.toNat_zero,yc,zsk kZ]
 unfold zcQ at hs;rcases zdE m r.Number r.Wire with hv| ⟨hv,hf⟩| ⟨i,run,hv,hfi,hi⟩
 ·grind
 ·have e:vwG m r=(-1,false):=by unfold vwG;rw [hv]
  refine ⟨.inl (by simp only [thR,e]),fun _=>?_,fun hh=>by simp only [thR,e] at hh;omega,fun hh=>by simp only [thR,e] at hh;omega⟩;simp only [thR,hraw];unfold unkR
  grind
 ·have e:vwG m r=((i:Int),run):=by unfold vwG;rw [hv]
  rw [hv] at hs;simp only at hs;rw [xq (by omega)] at hs;refine ⟨.inr (by simp only [thR,e];omega),fun hh=>by simp only [thR,e] at hh;omega,fun _ hrn=>?_,fun _ hrn=>?_⟩
  ·simp only [thR,e] at hrn|-;subst hrn;obtain ⟨v1,v2,_⟩:=zDF hv;refine ⟨v1,v2,?_⟩;unfold zir at hs
   grind
  ·simp only [thR,e] at hrn|-;subst hrn;have hk:zbb (zt m i).Kind=true/\zab (zt m i).Kind=r.Wire:=by
    unfold vw at hv
    grind
   refine ⟨hk.1,by rw [hk.2,hw,kX];exact hfit,fun h15=>?_,fun kq=>?_⟩
   ·unfold zir at hs
    grind
   ·unfold zir at hs;rw [xq (by simp),xq (by omega),xr kq] at hs;cases d with
    | zero=>simp only [zFC] at hs;cases hs
    | succ e=>
     simp only [zFC] at hs;refine ⟨e,rfl,?_⟩;cases hg:zH s e (zt m i).Of (valB b r) with
     | none=>rfl
     | some q=>rw [hg] at hs;cases hs
structure zxB (s:List Mes) (d:Nat) (f:Fld) (a:zcu):Prop where
 words:∀w∈a.2.2.1,zjT f w=true
 texts:∀t∈a.2.2.2.1,zly f t=true
 numT:kNum f.Kind=true->a.2.2.2.1=[]
 subs:∀x∈a.2.2.2.2,f.Kind=17/\zay s x f.Of=true/\1+dM x<=d
 join:f.Kind=17->∀e,d=e+1->zH s e f.Of a.1=none
 met:a.2.1=true->f.Kind=17->∃e,d=e+1
 one:f.Repeated=false->a.2.2.1.length<=1/\a.2.2.2.1.length<=1/\a.2.2.2.2=[]
theorem zhd {k:Int} (h:kNum k=true):k≠17/\k≠15/\k≠16:=by rw [zfB] at h;omega
theorem zFY {f:Fld} (hk:kNum f.Kind=true) (v:List UInt8):∀w∈(zag f.Kind v).1,zjT f w=true:=by
 intro w hw;unfold zag at hw;rw [xq (by rw [hk];simp)] at hw;split at hw
 ·obtain ⟨p,_,rfl⟩:=xA.1 hw;unfold zjT zep;rw [hk,znm _ (znx _)];simp
 ·cases hw
theorem zFx {f:Fld} (hk:kNum f.Kind=true) {v:List UInt8} (hf:zbt (zab f.Kind) v=true):zjT f (zmE f.Kind v).1=true:=by
 rw [zjh hk hf];unfold zjT zep;rw [hk,znm _ (znx _)];simp
theorem zCb (s:List Mes) (d:Nat) (f:Fld):zxB s d f acc0 where
 words:=fun w hw=>nomatch hw
 texts:=fun w hw=>nomatch hw
 numT:=fun _=>rfl
 subs:=fun w hw=>nomatch hw
 join:=fun _ e _=>znp s e _
 met:=fun h=>nomatch h
 one:=fun _=>⟨xC _,xC _,rfl⟩
theorem zPU {s:List Mes} {d:Nat} {m:Mes} {f:Fld} {g:Int->List UInt8->Msg} {a:zcu} {t:Th} (ha:zxB s d f a) (ht:OkT s d m t) (hi:0<=t.fi) (hf:zt m t.fi=f)
  (hg:f.Kind=17->∀e,d=e+1->zH s e f.Of t.val=none->zay s (g f.Of t.val) f.Of=true/\dM (g f.Of t.val)<=e):zxB s d f (stp g f a t):=by
 obtain ⟨h1,h2,hnt,h3,h4,h5,h6⟩:=ha;have kF:=ht.run hi;have hone:=ht.one hi;rw [hf] at kF hone;have w0:∀w∈(if f.Repeated=true then a.2.2.1 else []),zjT f w=true:=fun w hw=>by
  grind
 have t0:∀w∈(if f.Repeated=true then a.2.2.2.1 else []),zly f w=true:=fun w hw=>by
  grind
 have tn:kNum f.Kind=true->(if f.Repeated=true then a.2.2.2.1 else [])=[]:=fun hk=>by
  grind
 have wl:f.Repeated=false->(if f.Repeated=true then a.2.2.1 else [])=[]:=fun h=>by rw [h];rfl
 have tl:f.Repeated=false->(if f.Repeated=true then a.2.2.2.1 else [])=[]:=fun h=>by rw [h];rfl
 unfold stp;by_cases hr:t.run=true
 ·obtain ⟨r1,r2,r3⟩:=kF hr;rw [xr hr];refine ⟨fun w hw=>?_,t0,tn,h3,h4,fun _ hk=>absurd hk (zhd r1).1,fun hh=>by rw [r2] at hh;cases hh⟩;rcases xF.1 hw with hw| hw
  ·exact w0 w hw
  ·exact zFY r1 _ w hw
 ·have hr':t.run=false:=by simpa using hr
  obtain ⟨o1,o2,o3,o4⟩:=hone hr';rw [xq hr];by_cases hn:kNum f.Kind=true
  ·rw [xr hn];refine ⟨fun w hw=>?_,t0,tn,h3,h4,fun _ hk=>absurd hk (zhd hn).1,fun hh=>?_⟩
   ·rcases xF.1 hw with hw| hw
    ·exact w0 w hw
    ·rw [xY.1 hw];exact zFx hn o2
   grind
  ·rw [xq hn];by_cases hk:f.Kind=17/\f.Repeated=true
   ·rw [xr hk];obtain ⟨e,he,hv⟩:=o4 hk.1;obtain ⟨g1,g2⟩:=hg hk.1 e he hv;refine ⟨w0,t0,tn,fun x hx=>?_,h4,fun _ _=>⟨e,he⟩,fun hh=>by rw [hk.2] at hh;cases hh⟩
    grind
   ·rw [xq hk];by_cases hk2:f.Kind=17
    ·rw [xr hk2];obtain ⟨e,he,hv⟩:=o4 hk2;refine ⟨w0,t0,tn,h3,fun _ e' he'=>?_,fun _ _=>⟨e,he⟩,fun hh=>?_⟩
     ·have:e'=e:=by omega
      subst this;exact (zid s e' f.Of t.val (h4 hk2 e' he')).2 hv
     grind
    ·rw [xq hk2];have hk15:f.Kind=15\/f.Kind=16:=by
      have:¬(1<=f.Kind/\f.Kind<=14):=fun hh=>hn (zfB.2 hh)
      have kq:1<=f.Kind/\f.Kind<=17:=by simpa [zbb] using o1
      omega
     refine ⟨w0,fun x hx=>?_,fun hh=>absurd hh hn,h3,h4,fun _ hh=>absurd hh hk2,fun hh=>?_⟩
     ·rcases xF.1 hx with hx| hx
      ·exact t0 x hx
      ·rw [xY.1 hx];unfold zly
       grind
     grind
theorem zxa {s:List Mes} {d:Nat} {m:Mes} {f:Fld} {g:Int->List UInt8->Msg} {i:Int} (hi:0<=i) (hf:zt m i=f):∀(a:zcu) (l:List Th),zxB s d f a->(∀t∈l,OkT s d m t)->
  (∀t∈l,f.Kind=17->∀e,d=e+1->zH s e f.Of t.val=none->zay s (g f.Of t.val) f.Of=true/\dM (g f.Of t.val)<=e)->zxB s d f (accF g f i a l)
 | a,[],ha,_,_=>ha
 | a,t::l,ha,ht,hg=>by
  rw [accF];refine zxa hi hf _ l ?_ (fun x hx=>ht x (xu _ hx)) (fun x hx=>hg x (xu _ hx));split
  ·rename_i h;exact zPU ha (ht t xt) (by omega) (by rw [h];exact hf) (hg t xt)
  ·exact ha
theorem zKI {d:Nat}:∀{l:List Msg},(∀x∈l,1+dM x<=d)->dMs l<=d
 | [],_=>by simp [dMs]
 | x::l,h=>by
  rw [dMs];have:=h x xt;have:=zKI fun y hy=>h y (xu _ hy)
  omega
theorem zKJ {d:Nat}:∀{l:List Vlu},(∀x∈l,dV x<=d)->dVs l<=d
 | [],_=>by simp [dVs]
 | x::l,h=>by
  rw [dVs];have:=h x xt;have:=zKJ fun y hy=>h y (xu _ hy)
  omega
theorem zOl {s:List Mes} {d:Nat} {f:Fld} {g:Int->List UInt8->Msg} {q:zcu} (hq:zxB s d f q) (hkr:zbb f.Kind=true)
  (hg:f.Kind=17->q.2.1=true->∀e,d=e+1->zH s e f.Of q.1=none->zay s (g f.Of q.1) f.Of=true/\dM (g f.Of q.1)<=e) (hm:0<zas (valO g f q)):
  zjY s (valO g f q) f=true/\dV (valO g f q)<=d:=by
 obtain ⟨h1,h2,hnt,h3,h4,h5,h6⟩:=hq;have hsubs:∀x∈(valO g f q).Subs,f.Kind=17/\zay s x f.Of=true/\1+dM x<=d:=by
  unfold valO;simp only;intro x hx;split at hx
  ·rename_i hc;obtain ⟨e,he⟩:=h5 hc.1 hc.2.1;obtain ⟨g1,g2⟩:=hg hc.2.1 hc.1 e he (h4 hc.2.1 e he)
   grind
  ·exact h3 x hx
 constructor
 ·rw [zuc,zmC];have hmany:zsS f (valO g f q)=true:=by
   unfold zsS;rw [xO hm,hkr,ye,pd];cases hr:f.Repeated with
   | true=>simp
   | false=>
    rw [pw];refine xO ?_;obtain ⟨o1,o2,o3⟩:=h6 hr;unfold zas valO;simp only;by_cases hk:f.Kind=17
    ·have e1:q.2.2.1=[]:=by
      cases hw:q.2.2.1 with
      | nil=>rfl
      | cons w l=>
       have:=h1 w (by rw [hw];exact xt);unfold zjT at this;simp only [xw] at this;exact absurd hk (zhd this.1).1
     have e2:q.2.2.2.1=[]:=by
      cases hw:q.2.2.2.1 with
      | nil=>rfl
      | cons w l=>
       have:=h2 w (by rw [hw];exact xt);unfold zly at this
       grind
     grind
    ·rw [xq (fun hh=>hk hh.2.1),o3];by_cases hn:kNum f.Kind=true
     ·grind
     ·have e1:q.2.2.1=[]:=by
       cases hw:q.2.2.1 with
       | nil=>rfl
       | cons w l=>
        have:=h1 w (by rw [hw];exact xt);unfold zjT at this
        grind
      grind
  rw [hmany,ye,xw,xw];refine ⟨⟨xI.2 h1,xI.2 h2⟩,xI.2 fun x hx=>?_⟩
  grind
 ·rw [zDY];exact zKI fun x hx=>(hsubs x hx).2.2
theorem zqQ (m:Mes) (i:Int):zaV m i=(zt m i).Number:=rfl
theorem zLE (hs:zca s) (hm:m∈s) (hi:i<m.Fields.length) (hj:j<m.Fields.length) (h:m.Fields[i].Number=m.Fields[j].Number):i=j:=by
 rcases Nat.lt_trichotomy i j with km| h'| km
 ·exact absurd h (hs.nums m hm i j _ _ km (xN hi) (xN hj)).1
 ·exact h'
 ·exact absurd h.symm (hs.nums m hm j i _ _ km (xN hj) (xN hi)).1
theorem zue {s:List Mes} (hs:zca s) {m:Mes} (hm:m∈s) {i:Int} (h0:0<=i) (hi:i<m.Fields.length):fldI m (zt m i).Number=i:=by
 obtain ⟨n,rfl⟩:∃n:Nat,i=n:=⟨i.toNat,by omega⟩;have hn:n<m.Fields.length:=by omega
 rw [zbe hn];rcases zcX m m.Fields[n].Number with ⟨_,h⟩| ⟨j,hj,h,hjn,_⟩
 ·grind
 ·rw [h,zLE hs hm hj hn hjn]
theorem zuR {s:List Mes} (hs:zca s) {m:Mes} (hm:m∈s):(zcx (zaV m) m.Fields.length).Pairwise fun a b=>zaV m a<zaV m b:=by
 refine (zpH (zaV m) m.Fields.length).imp_of_mem fun {a b} ha hb h=>?_
 rcases h with h| ⟨h,km⟩
 ·exact h
 ·exfalso;obtain ⟨a0,a1⟩:=zen.1 ha;obtain ⟨b0,b1⟩:=zen.1 hb;rw [zqQ,zqQ] at h;have:=zue hs hm a0 a1;rw [h,zue hs hm b0 b1] at this;omega
theorem zuJ {s:List Mes} (hs:zca s) {m:Mes} (hm:m∈s) (v:Int->Vlu) (hn:∀i,(v i).Number=zaV m i):∀(o:List Int) (p:Option Int),(∀i∈o,0<=i/\i<m.Fields.length)->(o.Pairwise fun a b=>zaV m a<zaV m b)->
  (∀i∈o,p.all (fun n=>decide (n<zaV m i))=true)->(∀i∈o,0<zas (v i)->zjY s (v i) (zt m i)=true)->zgl s ((o.map v).filter fun x=>decide (0<zas x)) m p=true
 | [],p,_,_,_,_=>by rw [yL,List.filter_nil,zgl]
 | i::o,p,h1,h2,h3,h4=>by
  obtain ⟨h2a,h2b⟩:=yd.1 h2;have ih:=fun p hp=>zuJ hs hm v hn o p (fun j hj=>h1 j (xu _ hj)) h2b hp (fun j hj=>h4 j (xu _ hj))
  rw [xJ,yD];by_cases hp:0<zas (v i)
  ·rw [xr (by simpa using hp),zgl,ih _ (fun j hj=>by rw [hn];simpa using h2a j hj)];obtain ⟨i0,i1⟩:=h1 i xt;have hfi:=zue hs hm i0 i1;rw [hn,zqQ,hfi,h4 i xt hp,<-zqQ,h3 i xt,xO i0];rfl
  ·rw [xq (by simpa using hp)];exact ih p fun j hj=>h3 j (xu _ hj)
theorem zhv {s:List Mes} (hs:zca s):∀(N:Nat) (b:List UInt8) (d k:Nat),b.length=N->k<s.length->zH s d k b=none->zay s (ofM s k b) k=true/\dM (ofM s k b)<=d:=by
 intro N
 induction N using Nat.strongRecOn with
 | _ N IH=>
  intro b d k hN hk hv;have hmm:zm s (k:Int)∈s:=by rw [zbq hk];exact xB hk
  have hth:=zFG hv;have hwt:=zod (zm s (k:Int)) b;rw [zks]
  generalize hl:ths (zm s (k:Int)) b=l at hth hwt
  generalize hm:zm s (k:Int)=m at hmm hth hwt
  have hsub:∀f∈m.Fields,f.Kind=17->∀v:List UInt8,v.length+1<=b.length->∀e,zH s e f.Of v=none->zay s (ofM s f.Of v) f.Of=true/\dM (ofM s f.Of v)<=e:=fun f hf kq v hvl e he=>by
   have hof:=(hs.fld _ hmm f hf).sub kq;obtain ⟨q,hq⟩:∃q:Nat,f.Of=q:=⟨f.Of.toNat,by omega⟩
   grind
  have kX:∀i∈zcx (zaV m) m.Fields.length,0<zas (valO (ofM s) (zt m i) (accF (ofM s) (zt m i) i acc0 l))->
    zjY s (valO (ofM s) (zt m i) (accF (ofM s) (zt m i) i acc0 l)) (zt m i)=true/\dV (valO (ofM s) (zt m i) (accF (ofM s) (zt m i) i acc0 l))<=d:=fun i hi hp=>by
   obtain ⟨i0,i1⟩:=zen.1 hi;obtain ⟨n,hn⟩:∃n:Nat,i=n:=⟨i.toNat,by omega⟩;have hnl:n<m.Fields.length:=by omega
   have hfm:zt m i∈m.Fields:=by rw [hn,zbe hnl];exact xB _
   have hacc:=zxa (g:=ofM s) i0 rfl acc0 l (zCb s d (zt m i)) hth (fun t ht kq e he hv=>hsub _ hfm kq _ (by have:=ztL ht;omega) e hv);have hw:=(zqt (ofM s) (zt m i) i acc0 l).2;refine zOl hacc (hs.fld _ hmm _ hfm).kind (fun kq hmet e he hv=>hsub _ hfm kq _ ?_ e hv) hp;have h0:wJ acc0=0:=rfl;rw [h0,wJ,xr hmet] at hw;omega
  constructor
  ·rw [zlQ,hm,xO (by omega),ye,xw];constructor
   ·unfold zdR zmL;exact zuJ hs hmm (fun i=>valO (ofM s) (zt m i) (accF (ofM s) (zt m i) i acc0 l)) (fun i=>rfl) _ none (fun i hi=>zen.1 hi) (zuR hs hmm) (fun _ _=>rfl) (fun i hi hp=>(kX i hi hp).1)
   ·unfold zdR unkO;refine xI.2 fun u hu=>?_
    obtain ⟨t,ht,rfl⟩:=xA.1 hu;obtain ⟨ht1,ht2⟩:=xW.1 ht;exact (hth t ht1).unk (by simpa using ht2)
  ·rw [zHN];unfold zdR zmL;refine zKJ fun x hx=>?_
   grind
theorem zGD (h: -9223372036854775808<=n/\n<=9223372036854775807):(Lit.int .i64 n).wf=true:=by
 simpa [Lit.wf,IntKind.min,IntKind.max,IntKind.bits,IntKind.signed] using h
structure zDI (a:zcu):Prop where
 words:∀w∈a.2.2.1,0<=w/\w<=18446744073709551615
 texts:∀t∈a.2.2.2.1,t.length<=1048576
 subs:∀x∈a.2.2.2.2,bdM x/\smM x
theorem zMS:zDI acc0:=⟨fun w h=>(nomatch h),fun w h=>(nomatch h),fun w h=>(nomatch h)⟩
theorem zAa (k:Int) (v:List UInt8):∀w∈(zag k v).1,0<=w/\w<=18446744073709551615:=by
 intro w hw;unfold zag at hw;split at hw
 ·cases hw
 ·split at hw
  ·obtain ⟨p,_,rfl⟩:=xA.1 hw;exact zhk k (znx k)
  ·cases hw
theorem zMi (k:Int) (v:List UInt8):0<=(zmE k v).1/\(zmE k v).1<=18446744073709551615:=by
 unfold zmE;split
 ·simp
 ·split
  ·simp
  ·exact zhk k (znx k)
theorem zPT {g:Int->List UInt8->Msg} {f:Fld} {a:zcu} {t:Th} (ha:zDI a) (ht:t.val.length<=1048576) (hg:f.Kind=17->bdM (g f.Of t.val)/\smM (g f.Of t.val)):zDI (stp g f a t):=by
 obtain ⟨h1,h2,h3⟩:=ha;have w0:∀w∈(if f.Repeated=true then a.2.2.1 else []),0<=w/\w<=18446744073709551615:=fun w hw=>by
  grind
 have t0:∀w∈(if f.Repeated=true then a.2.2.2.1 else []),w.length<=1048576:=fun w hw=>by
  grind
 unfold stp;split
 ·refine ⟨fun w hw=>?_,t0,h3⟩;rcases xF.1 hw with hw| hw
  ·exact w0 w hw
  ·exact zAa _ _ w hw
 ·split
  ·refine ⟨fun w hw=>?_,t0,h3⟩;rcases xF.1 hw with hw| hw
   ·exact w0 w hw
   ·rw [xY.1 hw];exact zMi _ _
  ·split
   ·rename_i hk;refine ⟨w0,t0,fun x hx=>?_⟩
    grind
   ·split
    ·exact ⟨w0,t0,h3⟩
    ·refine ⟨w0,fun x hx=>?_,h3⟩
     grind
theorem zHG {g:Int->List UInt8->Msg} {f:Fld} {i:Int}:∀{l:List Th} {a:zcu},zDI a->(∀t∈l,t.val.length<=1048576)->(f.Kind=17->∀t∈l,bdM (g f.Of t.val)/\smM (g f.Of t.val))->zDI (accF g f i a l)
 | [],a,ha,_,_=>ha
 | t::l,a,ha,ht,hg=>by
  rw [accF];refine zHG ?_ (fun x hx=>ht x (xu _ hx)) fun kq x hx=>hg kq x (xu _ hx)
  split
  ·exact zPT ha (ht t xt) fun kq=>hg kq t xt
  ·exact ha
theorem zLH {s:List Mes} (hs:zca s):∀(N:Nat) (b:List UInt8) (k:Nat),b.length=N->N<=1048576->k<s.length->bdM (ofM s k b)/\smM (ofM s k b):=by
 intro N
 induction N using Nat.strongRecOn with
 | _ N IH=>
  intro b k hN hb hk;have hmm:zm s (k:Int)∈s:=by rw [zbq hk];exact xB hk
  have hwt:=zod (zm s (k:Int)) b;have hraw:∀t∈ths (zm s (k:Int)) b,t.raw.length<=b.length:=fun t ht=>by
   unfold ths at ht;obtain ⟨r,_,rfl⟩:=xA.1 ht;show (rawB b r.R).length<=_;unfold rawB;simp;omega
  have hfew:=hs.few _ hmm;rw [zks]
  generalize ths (zm s (k:Int)) b=l at hwt hraw
  generalize zm s (k:Int)=m at hmm hfew|-
  have hsub:∀f∈m.Fields,f.Kind=17->∀v:List UInt8,v.length+1<=b.length->bdM (ofM s f.Of v)/\smM (ofM s f.Of v):=fun f hf kq v hvl=>by
   have hof:=(hs.fld _ hmm f hf).sub kq;obtain ⟨q,hq⟩:∃q:Nat,f.Of=q:=⟨f.Of.toNat,by omega⟩
   grind
  have kX:∀i∈zcx (zaV m) m.Fields.length,bdV (valO (ofM s) (zt m i) (accF (ofM s) (zt m i) i acc0 l))/\smV (valO (ofM s) (zt m i) (accF (ofM s) (zt m i) i acc0 l)):=fun i hi=>by
   obtain ⟨i0,i1⟩:=zen.1 hi;obtain ⟨n,hn⟩:∃n:Nat,i=n:=⟨i.toNat,by omega⟩;have hnl:n<m.Fields.length:=by omega
   have hfm:zt m i∈m.Fields:=by rw [hn,zbe hnl];exact xB _
   have hfo:=hs.fld _ hmm _ hfm;have hacc:=zHG (g:=ofM s) (f:=zt m i) (i:=i) (l:=l) zMS (fun t ht=>by have:=ztL ht;omega) (fun kq t ht=>hsub _ hfm kq _ (by have:=ztL ht;omega));have hw:=zqt (ofM s) (zt m i) i acc0 l;have w0:wA acc0=0:=rfl;have j0:wJ acc0=0:=rfl;rw [w0,j0] at hw
   generalize zt m i=f at hfm hfo hacc hw|-
   generalize accF (ofM s) f i acc0 l=q at hacc hw|-
   obtain ⟨a1,a2,a3⟩:=hacc;have hsubs:(valO (ofM s) f q).Subs.length<=1048576/\∀x∈(valO (ofM s) f q).Subs,bdM x/\smM x:=by
    unfold valO;simp only;split
    ·rename_i hc;refine ⟨by simp,fun x hx=>?_⟩;rw [xY.1 hx];have h2:=hw.2;rw [wJ,xr hc.1] at h2
     grind
    ·exact ⟨by have:=hw.1;unfold wA at this;omega,a3⟩
   have h1:=hw.1;unfold wA at h1;have e1:(valO (ofM s) f q).Words=q.2.2.1:=rfl;have e2:(valO (ofM s) f q).Texts=q.2.2.2.1:=rfl;have e3:(valO (ofM s) f q).Number=f.Number:=rfl
   refine ⟨(ziK _).2 ⟨by rw [e3];exact zGD (by have:=hfo.lo;have:=hfo.hi;omega),⟨by rw [e1];omega,by rw [e1];exact a1⟩,⟨by rw [e2];omega,fun x hx=>by rw [e2] at hx;have:=a2 x hx;omega⟩,by have:=hsubs.1;omega,zfn.2 fun x hx=>(hsubs.2 x hx).1⟩,
    (zzF _).2 ⟨by rw [e1];omega,⟨by rw [e2];omega,by rw [e2];exact a2⟩,hsubs.1,zoP.2 fun x hx=>(hsubs.2 x hx).2⟩⟩
  have hvl:(zdR (ofM s) m l).Values.length<=200:=by
   unfold zdR zmL;simp only;refine yg (pz _ _) ?_;rw [pv,zsq];exact hfew
  have hul:(zdR (ofM s) m l).Unknown.length<=1048576:=by
   unfold zdR unkO;simp only;rw [pv];refine yg (pz _ _) ?_;have:=zDH l;omega
  have hum:∀t∈(zdR (ofM s) m l).Unknown,t.length<=1048576:=fun u hu=>by
   unfold zdR unkO at hu
   grind
  have hvm:∀v∈(zdR (ofM s) m l).Values,bdV v/\smV v:=fun v hv=>by
   unfold zdR zmL at hv
   grind
  refine ⟨(zlk _).2 ⟨by omega,⟨by omega,fun t ht=>by have:=hum t ht;omega⟩,zfo.2 fun v hv=>(hvm v hv).1⟩,(zzE _).2 ⟨by omega,⟨hul,hum⟩,zoQ.2 fun v hv=>(hvm v hv).2⟩⟩
abbrev zal:=List Int
def begB (way w:zal):Bool:=w.isPrefixOf way
theorem zKx :begB way w=true↔w<+:way:=List.isPrefixOf_iff_prefix
def zdQ:zal->zal->Bool
 | [],b=> !b.isEmpty
 | _::_,[]=>false
 | x::a,y::b=>if x=y then zdQ a b else decide (x<y)
theorem zpu:∀(a:zal),zdQ a a=false
 | []=>rfl
 | x::a=>by rw [zdQ,xr rfl,zpu a]
theorem zqT:∀(a b c:zal),zdQ a b=true->zdQ b c=true->zdQ a c=true
 | [],b,c,h1,h2=>by
  cases c with
  | nil=>cases b<;>simp [zdQ] at h2
  | cons=>rfl
 | _::_,[],_,h1,_=>by simp [zdQ] at h1
 | _::_,_::_,[],_,h2=>by simp [zdQ] at h2
 | x::a,y::b,z::c,h1,h2=>by
  rw [zdQ] at h1 h2|-;by_cases hxy:x=y
  ·rw [xr hxy] at h1;by_cases hyz:y=z
   ·rw [xr hyz] at h2;rw [xr (hxy.trans hyz)];exact zqT a b c h1 h2
   grind
  grind
theorem zws:∀(a b:zal),a≠b->zdQ a b=true\/zdQ b a=true
 | [],[],h=>absurd rfl h
 | [],_::_,_=> .inl rfl
 | _::_,[],_=> .inr rfl
 | x::a,y::b,h=>by
  rw [zdQ,zdQ];by_cases hxy:x=y
  ·rw [xr hxy,xr hxy.symm];exact zws a b (fun e=>h (by rw [hxy,e]))
  grind
theorem zEK (h:zdQ a b=true):zdQ b a=false:=by
 cases hb:zdQ b a with
 | false=>rfl
 | true=>have:=zqT a b a h hb;rw [zpu] at this;cases this
theorem zwI:∀(l k:List zal),l.Pairwise (fun a b=>zdQ a b=true)->k.Pairwise (fun a b=>zdQ a b=true)->(∀w,w∈l↔w∈k)->l=k
 | [],[],_,_,_=>rfl
 | [],y::k,_,_,h=>absurd ((h y).2 xt) (by simp)
 | x::l,[],_,_,h=>absurd ((h x).1 xt) (by simp)
 | x::l,y::k,hl,hk,h=>by
  have hl':=yd.1 hl;have hk':=yd.1 hk;have hxy:x=y:=by
   rcases xy.1 ((h x).1 xt) with h1| h1
   ·exact h1
   ·rcases xy.1 ((h y).2 xt) with h2| h2
    ·exact h2.symm
    grind [zEK]
  subst hxy;congr 1;refine zwI l k hl'.2 hk'.2 fun w=>?_
  grind [zpu]
def zIB (kL:List zal) (i:Nat) (w:zal) (k:Nat) (v:zal):Bool:=decide (k≠i)&& !v.isEmpty&&begB w v&&(decide (v.length<w.length)|| decide (k<i))
def badW (kL:List zal) (i:Nat) (w:zal):Nat->List zal->Bool
 | _,[]=>false
 | k,v::l=>zIB kL i w k v|| badW kL i w (k+1) l
def insL (w:zal) (out:List zal):List zal:=out.takeWhile (fun x=>zdQ x w)++w::out.dropWhile (fun x=>zdQ x w)
def ofK (kL:List zal):Nat->List zal
 | 0=>[]
 | i+1=>match kL[i]? with
  | some w=>if !w.isEmpty&& !badW kL i w 0 kL then insL w (ofK kL i) else ofK kL i
  | none=>ofK kL i
def ofW (kL:List zal):List zal:=ofK kL kL.length
theorem zKY :x∈insL w out↔x=w\/x∈out:=by
 unfold insL;have hs:out.takeWhile (fun x=>zdQ x w)++out.dropWhile (fun x=>zdQ x w)=out:=pu
 grind
theorem zHr :∀{l:List zal},∀x∈l.takeWhile (fun x=>zdQ x w),zdQ x w=true:=by
 intro l
 induction l with
 | nil=>intro x hx;simp at hx
 | cons y l ih=>
  intro x hx;rw [uF] at hx
  grind
theorem zGw :∀{l:List zal},l.Pairwise (fun a b=>zdQ a b=true)->(w∉l)->∀x∈l.dropWhile (fun x=>zdQ x w),zdQ w x=true:=by
 intro l
 induction l with
 | nil=>intro _ _ x hx;simp at hx
 | cons y l ih=>
  intro hp hn x hx;rw [List.dropWhile_cons] at hx;have hp':=yd.1 hp
  grind [zws,zqT]
theorem zEp (hs:out.Pairwise (fun a b=>zdQ a b=true)) (hn:w∉out):(insL w out).Pairwise (fun a b=>zdQ a b=true):=by
 unfold insL;have hsp:out.takeWhile (fun x=>zdQ x w)++out.dropWhile (fun x=>zdQ x w)=out:=pu;have hp:(out.takeWhile (fun x=>zdQ x w)++out.dropWhile (fun x=>zdQ x w)).Pairwise (fun a b=>zdQ a b=true):=by rw [hsp];exact hs
 rw [List.pairwise_append] at hp|-;have ht:=zHr (w:=w) (l:=out);have hd:=zGw hs hn;simp_all
theorem zDN {kL:List zal} {i:Nat} {w:zal}:∀(l:List zal) (k:Nat),badW kL i w k l=true↔∃j v,l[j]? =some v/\zIB kL i w (k+j) v=true
 | [],k=>by simp [badW]
 | v::l,k=>by
  rw [badW,qZ,zDN l (k+1)];constructor
  ·rintro (h| ⟨j,u,h1,h2⟩)
   ·exact ⟨0,v,rfl,by simpa using h⟩
   ·exact ⟨j+1,u,by simpa using h1,by rw [show k+(j+1)=k+1+j by omega];exact h2⟩
  grind
def zGe (kL:List zal) (w:zal):Prop:=w∈kL/\w≠[]/\∀v∈kL,v≠[]->v<+:w->v=w
theorem zEl {kL:List zal} {i:Nat} {w:zal} (hi:kL[i]? =some w):(!w.isEmpty&& !badW kL i w 0 kL)=true↔zGe kL w/\∀j<i,kL[j]? ≠some w:=by
 rw [xw,xZ,xZ,<-ug,<-ug,zDN];have hw:w∈kL:=qS hi;have kz:∀(k:Nat) (v:zal),zIB kL i w k v=true↔k≠i/\v≠[]/\v<+:w/\(v.length<w.length\/k<i):=by
  grind [zIB,zKx]
 constructor
 ·rintro ⟨h1,h2⟩;refine ⟨⟨hw,by simpa using h1,fun v hv hv0 hp=>?_⟩,fun j hj hje=>?_⟩
  ·obtain ⟨k,hk,rfl⟩:=qE hv;rcases yB (kL[k]).length w.length with hl| hl
   ·exfalso;refine h2 ⟨k,kL[k],xN hk,(kz _ _).2 ⟨fun e=>?_,hv0,hp,.inl hl⟩⟩
    grind
   ·exact hp.eq_of_length (by have:=hp.length_le;omega)
  grind
 ·rintro ⟨⟨_,h1,h2⟩,h3⟩
  grind
theorem zCV {kL:List zal}:∀(i:Nat),i<=kL.length->∀w,w∈ofK kL i↔zGe kL w/\∃j<i,kL[j]? =some w
 | 0,_,w=>by simp [ofK]
 | i+1,hi,w=>by
  have hil:i<kL.length:=hi;have ih:=zCV (kL:=kL) i (Nat.le_of_lt hil) w;obtain ⟨u,hg⟩:∃u,kL[i]? =some u:=⟨kL[i],xN hil⟩;rw [ofK,hg]
  grind [zKY,zEl]
theorem zIy {kL:List zal} {w:zal}:w∈ofW kL↔zGe kL w:=by
 unfold ofW;rw [zCV _ (xx _)];refine ⟨fun h=>h.1,fun h=>⟨h,?_⟩⟩;obtain ⟨j,hj,rfl⟩:=qE h.1;exact ⟨j,hj,xN hj⟩
theorem zyQ {kL:List zal}:∀(i:Nat),i<=kL.length->(ofK kL i).Pairwise (fun a b=>zdQ a b=true)
 | 0,_=> .nil
 | i+1,hi=>by
  have hil:i<kL.length:=hi;have ih:=zyQ (kL:=kL) i (Nat.le_of_lt hil);obtain ⟨u,hg⟩:∃u,kL[i]? =some u:=⟨kL[i],xN hil⟩;rw [ofK,hg]
  grind [zEl,zEp,zCV]
theorem zGU (kL:List zal):(ofW kL).Pairwise (fun a b=>zdQ a b=true):=zyQ _ (xx _)
theorem zIx {kL:List zal}:∀(i:Nat),(ofK kL i).length<=i
 | 0=>xx _
 | i+1=>by
  have ih:=zIx (kL:=kL) i;rw [ofK];split
  ·split
   ·unfold insL;have hs:∀(p:zal->Bool),((ofK kL i).takeWhile p).length+((ofK kL i).dropWhile p).length=(ofK kL i).length:=fun p=>by rw [<-xz,pu]
    grind
   ·omega
  ·omega
theorem zNP (kL:List zal):(ofW kL).length<=kL.length:=zIx _
def hasB (kL:List zal) (way:zal):Bool:=kL.any fun v=> !v.isEmpty&&begB way v
def zpL (m:List zal) (n:Int):Bool:=m.any fun v=>v==[n]
def zPK (n:Int):zal->Option zal
 | x::y::v=>if x=n then some (y::v) else none
 | _=>none
def zoh (m:List zal) (n:Int):List zal:=m.filterMap (zPK n)
def zel (l:List Vlu):Prop:=l.Pairwise fun a b=>a.Number<b.Number
def look (l:List Vlu) (n:Int):Option Vlu:=l.find? fun v=>v.Number==n
theorem zdk (v:Vlu) (l:List Vlu) (n:Int):look (v::l) n=if v.Number=n then some v else look l n:=by
 unfold look
 grind
theorem zfj (h:look l n=some v):v.Number=n/\v∈l:=by
 unfold look at h
 grind
theorem zsd (h:∀v∈l,n<v.Number):look l n=none:=by
 unfold look
 grind
theorem zyG (hr:zel l) (h:v∈l):look l v.Number=some v:=by
 induction l with
 | nil=>cases h
 | cons u l ih=>
  obtain ⟨h1,h2⟩:=yd.1 hr;rw [zdk];rcases xy.1 h with rfl| h
  ·rw [xr rfl]
  ·have:=h1 v h;rw [xq (by omega),ih h2 h]
theorem zyF:∀{l k:List Vlu},zel l->zel k->(∀n,look l n=look k n)->l=k
 | [],[],_,_,_=>rfl
 | [],u::k,_,_,h=>by
  have:=h u.Number;rw [zdk,xr rfl] at this;cases this
 | v::l,[],_,_,h=>by
  have:=h v.Number;rw [zdk,xr rfl] at this;cases this
 | v::l,u::k,hl,hk,h=>by
  obtain ⟨l1,l2⟩:=yd.1 hl;obtain ⟨k1,k2⟩:=yd.1 hk;have e:v=u:=by
   have hv:=h v.Number;have hu:=h u.Number
   grind [zdk,zsd]
  subst e;rw [zyF l2 k2 fun n=>by
   by_cases hn:v.Number<n
   ·have:=h n
    grind [zdk]
   ·rw [zsd fun x hx=>by have:=l1 x hx;omega,zsd fun x hx=>by have:=k1 x hx;omega]]
def putL (v:Vlu):Bool->List Vlu->List Vlu
 | done,[]=>if done=true then [] else [v]
 | done,u::l=>(if done=false/\v.Number<=u.Number then [v] else [])++((if u.Number=v.Number then [] else [u])++putL v (done|| decide (v.Number<=u.Number)) l)
theorem zEZ (v:Vlu):∀(d:Bool) (l:List Vlu),(putL v d l).length<=l.length+(if d=true then 0 else 1)
 | d,[]=>by rw [putL];cases d<;>simp
 | d,u::l=>by
  have:=zEZ v (d|| decide (v.Number<=u.Number)) l;rw [putL]
  grind
theorem zFa :∀{d:Bool} {l:List Vlu} {x:Vlu},x∈putL v d l->x=v/\d=false\/x∈l/\x.Number≠v.Number
 | d,[],x,h=>by
  rw [putL] at h
  grind
 | d,u::l,x,h=>by
  rw [putL] at h;rcases xF.1 h with h| h
  ·grind
  ·rcases xF.1 h with h| h
   ·grind
   ·rcases zFa h with ⟨h1,h2⟩| ⟨h1,h2⟩
    ·grind
    grind
theorem znw :∀{d:Bool} {l:List Vlu},zel l->zel (putL v d l)
 | d,[],_=>by rw [putL];cases d<;>simp [zel]
 | d,u::l,h=>by
  obtain ⟨h1,h2⟩:=yd.1 h;have ih:=znw (v:=v) (d:=d|| decide (v.Number<=u.Number)) h2;have hrest:∀x∈putL v (d|| decide (v.Number<=u.Number)) l,u.Number<x.Number:=fun x hx=>by
   grind [zFa]
  rw [putL];have htail:zel ((if u.Number=v.Number then [] else [u])++putL v (d|| decide (v.Number<=u.Number)) l):=by
   split
   ·exact ih
   ·exact yd.2 ⟨hrest,ih⟩
  split
  ·rename_i hc;rw [uC];refine yd.2 ⟨fun x hx=>?_,htail⟩
   grind
  ·exact htail
theorem zqY (l k:List Vlu) (n:Int):look (l++k) n=match look l n with| some v=>some v| none=>look k n:=by
 unfold look
 grind
theorem zur :∀{d:Bool} {l:List Vlu},zel l->∀n,look (putL v d l) n=if n=v.Number then (if d=true then none else some v) else look l n
 | d,[],_,n=>by
  rw [putL];cases d
  ·grind [zdk]
  ·rw [xr rfl,xr rfl];split<;>rfl
 | d,u::l,h,n=>by
  obtain ⟨h1,h2⟩:=yd.1 h;have ih:=zur (v:=v) (d:=d|| decide (v.Number<=u.Number)) h2 n;rw [putL,zqY,zqY,ih,zdk u l n];by_cases hn:n=v.Number
  ·rw [xr hn,xr hn];have hu:look (if u.Number=v.Number then [] else [u]) n=none:=by
    split
    ·rfl
    ·rw [zdk,xq (by omega)];rfl
   grind [zdk]
  ·rw [xq hn,xq hn];have hv:look (if d=false/\v.Number<=u.Number then [v] else []) n=none:=by
    split
    ·rw [zdk,xq (fun hh=>hn hh.symm)];rfl
    ·rfl
   grind [zdk]
def putM (x:Msg) (v:Vlu):Msg:=⟨putL v (decide (zas v=0)) x.Values,x.Unknown⟩
theorem znz :∀{l:List Vlu} {p:Option Int},zgl s l m p=true->∀v∈l,0<=fldI m v.Number/\zjY s v (zt m (fldI m v.Number))=true/\p.all (fun n=>decide (n<v.Number))=true
 | [],p,_,v,hv=>by cases hv
 | u::l,p,h,v,hv=>by
  rw [zgl] at h;simp only [xw,xT] at h;obtain ⟨⟨⟨h1,h2⟩,h3⟩,h4⟩:=h;rcases xy.1 hv with rfl| hv
  ·grind
  ·obtain ⟨g1,g2,g3⟩:=znz h4 v hv;refine ⟨g1,g2,?_⟩;cases p with
   | none=>rfl
   | some n=>
    grind
theorem zrz :∀{l:List Vlu} {p:Option Int},zgl s l m p=true->zel l
 | [],p,_=> .nil
 | u::l,p,h=>by
  rw [zgl] at h;simp only [xw,xT] at h;refine yd.2 ⟨fun v hv=>?_,zrz h.2⟩;have:=(znz h.2 v hv).2.2;simpa using this
theorem zzv :∀{l:List Vlu} {p:Option Int},zel l->(∀v∈l,0<=fldI m v.Number/\zjY s v (zt m (fldI m v.Number))=true/\p.all (fun n=>decide (n<v.Number))=true)->zgl s l m p=true
 | [],p,_,_=>by rw [zgl]
 | u::l,p,hr,h=>by
  obtain ⟨h1,h2⟩:=yd.1 hr;obtain ⟨a1,a2,a3⟩:=h u xt;rw [zgl,zzv h2 fun v hv=>⟨(h v (xu _ hv)).1,(h v (xu _ hv)).2.1,by simpa using h1 v hv⟩,a2,a3,xO a1];rfl
theorem zaY (h:zay s x k=true):0<=k/\k<s.length/\zel x.Values/\(∀v∈x.Values,0<=fldI (zm s k) v.Number/\zjY s v (zt (zm s k) (fldI (zm s k) v.Number))=true)/\∀u∈x.Unknown,unkR (zm s k) u=true:=by
 rw [zlQ] at h;simp only [xw,xT] at h;exact ⟨h.1.1.1,h.1.1.2,zrz h.1.2,fun v hv=>⟨(znz h.1.2 v hv).1,(znz h.1.2 v hv).2.1⟩,xI.1 h.2⟩
theorem zBG (h1:0<=k) (h2:k<s.length) (h3:zel x.Values) (h4:∀v∈x.Values,0<=fldI (zm s k) v.Number/\zjY s v (zt (zm s k) (fldI (zm s k) v.Number))=true) (h5:∀u∈x.Unknown,unkR (zm s k) u=true):zay s x k=true:=by
 grind [zlQ,zzv]
structure zhK (s:List Mes) (v:Vlu) (f:Fld):Prop where
 many:0<zas v
 one:f.Repeated=false->zas v=1
 kind:zbb f.Kind=true
 words:∀w∈v.Words,zjT f w=true
 texts:∀t∈v.Texts,zly f t=true
 subs:∀x∈v.Subs,f.Kind=17/\zay s x f.Of=true
theorem zdI (h:zjY s v f=true):zhK s v f:=by
 rw [zuc,zmC] at h;unfold zsS at h;simp only [xw,qZ,xT,xI,qP] at h;obtain ⟨⟨⟨⟨⟨h1,h2⟩,h3⟩,h4⟩,h5⟩,h6⟩:=h;refine ⟨h1,fun hr=>?_,h3,h4,h5,fun x hx=>?_⟩
 ·grind
 ·exact h6 x hx
theorem zHT (h:zhK s v f):zjY s v f=true:=by
 obtain ⟨h1,h2,h3,h4,h5,h6⟩:=h;rw [zuc,zmC];unfold zsS;simp only [xw,qZ,xT,xI,qP];refine ⟨⟨⟨⟨⟨h1,?_⟩,h3⟩,h4⟩,h5⟩,fun x hx=>h6 x hx⟩;cases hr:f.Repeated with
 | true=>exact .inr rfl
 | false=>exact .inl (by have:=h2 hr;omega)
theorem zhK.noWords (h:zhK s v f) (hk:kNum f.Kind=false):v.Words=[]:=by
 cases hw:v.Words with
 | nil=>rfl
 | cons w l=>
  have:=h.words w (by rw [hw];exact xt);unfold zjT at this
  grind
theorem zhK.noTexts (h:zhK s v f) (hk:f.Kind≠15/\f.Kind≠16):v.Texts=[]:=by
 cases hw:v.Texts with
 | nil=>rfl
 | cons w l=>
  have:=h.texts w (by rw [hw];exact xt);unfold zly at this
  grind
theorem zhK.noSubs {s:List Mes} {v:Vlu} {f:Fld} (h:zhK s v f) (hk:f.Kind≠17):v.Subs=[]:=by
 cases hw:v.Subs with
 | nil=>rfl
 | cons w l=>exact absurd (h.subs w (by rw [hw];exact xt)).1 hk
theorem zhK.msg (h:zhK s v f) (hk:f.Kind=17) (hr:f.Repeated=false):∃x,v=⟨v.Number,[],[],[x]⟩/\zay s x f.Of=true:=by
 have h1:=h.noWords (by rw [hk];rfl);have h2:=h.noTexts (by omega);have h3:=h.one hr;have h4:=h.subs;obtain ⟨n,w,t,sub⟩:=v;simp only at h1 h2 h4;subst h1 h2;unfold zas at h3;simp at h3;obtain ⟨x,rfl⟩:∃x,sub=[x]:=by
  cases sub with
  | nil=>simp at h3
  | cons x l=>cases l with
   | nil=>exact ⟨x,rfl⟩
   | cons _ _=>simp at h3
 grind
mutual
/-- b zhA a. -/
def zkX (s:List Mes):Msg->Msg->Int->Msg
 | ⟨vs,u⟩,a,k=>⟨ziq s vs a (zm s k) a.Values,a.Unknown++u⟩
def ziq (s:List Mes):List Vlu->Msg->Mes->List Vlu->List Vlu
 | [],_,_,acc=>acc
 | v::l,a,m,acc=>ziq s l a m (putM ⟨acc,[]⟩ (zhl s v (look a.Values v.Number) (zt m (fldI m v.Number)))).Values
def zhl (s:List Mes):Vlu->Option Vlu->Fld->Vlu
 | ⟨n,w,t,sub⟩,none,f=>⟨n,w,t,sub⟩
 | ⟨n,w,t,sub⟩,some u,f=>if f.Repeated=true then ⟨n,u.Words++w,u.Texts++t,u.Subs++sub⟩ else if f.Kind=17 then ⟨n,[],[],zln s sub u.Subs f.Of⟩ else ⟨n,w,t,sub⟩
def zln (s:List Mes):List Msg->List Msg->Int->List Msg
 | [],_,_=>[]
 | x::_,ys,k=>match ys with
  | []=>[]
  | y::_=>[zkX s x y k]
end
theorem zmp (s:List Mes) (b a:Msg) (k:Int):zkX s b a k=⟨ziq s b.Values a (zm s k) a.Values,a.Unknown++b.Unknown⟩:=by cases b;rw [zkX]
theorem ziw (s:List Mes) (v:Vlu) (o:Option Vlu) (f:Fld):zhl s v o f=match o with
  | none=>v
  | some u=>if f.Repeated=true then ⟨v.Number,u.Words++v.Words,u.Texts++v.Texts,u.Subs++v.Subs⟩ else if f.Kind=17 then ⟨v.Number,[],[],zln s v.Subs u.Subs f.Of⟩ else v:=by
 cases v;cases o<;>rw [zhl]
theorem zvD (s:List Mes) (v:Vlu) (o:Option Vlu) (f:Fld):(zhl s v o f).Number=v.Number:=by
 rw [ziw];cases o with
 | none=>rfl
 | some u=>simp only;split;rfl;split<;>rfl
theorem zLQ (acc:List Vlu) (u:List Str) (v:Vlu):(putM ⟨acc,u⟩ v).Values.length<=acc.length+1:=by
 grind [putM,zEZ]
theorem zwu :∀{l acc:List Vlu},zel acc->zel l->(∀v∈l,0<zas (zhl s v (look a.Values v.Number) (zt m (fldI m v.Number))))->
  zel (ziq s l a m acc)/\∀n,look (ziq s l a m acc) n=match look l n with
   | some v=>some (zhl s v (look a.Values n) (zt m (fldI m n)))
   | none=>look acc n
 | [],acc,h1,_,_=>by rw [ziq];exact ⟨h1,fun n=>rfl⟩
 | v::l,acc,h1,h2,h3=>by
  obtain ⟨l1,l2⟩:=yd.1 h2;have hv:=h3 v xt;have hnum:=zvD s v (look a.Values v.Number) (zt m (fldI m v.Number));rw [ziq];have hacc:zel (putM ⟨acc,[]⟩ (zhl s v (look a.Values v.Number) (zt m (fldI m v.Number)))).Values:=znw h1;obtain ⟨r1,r2⟩:=zwu (s:=s) (a:=a) (m:=m) hacc l2 fun u hu=>h3 u (xu _ hu)
  grind [putM,zdk,zur,zsd]
theorem ztm (hv:zhK s v f) (ho:∀u,o=some u->zhK s u f):0<zas (zhl s v o f):=by
 rw [ziw];cases o with
 | none=>exact hv.many
 | some u=>
  have:=hv.many;simp only;by_cases hr:f.Repeated=true
  ·grind [zas]
  ·rw [xq hr];by_cases kq:f.Kind=17
   ·rw [xr kq];obtain ⟨x,hvx,_⟩:=hv.msg kq (by simpa using hr);obtain ⟨y,huy,_⟩:=(ho u rfl).msg kq (by simpa using hr);rw [hvx,huy,zln];simp [zas]
   grind
theorem zvH (ha:zay s a k=true) (hb:zay s b k=true):zel (zkX s b a k).Values/\∀n,look (zkX s b a k).Values n=match look b.Values n with
   | some v=>some (zhl s v (look a.Values n) (zt (zm s k) (fldI (zm s k) n)))
   | none=>look a.Values n:=by
 obtain ⟨_,_,ra,ha',_⟩:=zaY ha;obtain ⟨_,_,rb,hb',_⟩:=zaY hb;rw [zmp];exact zwu ra rb fun v hv=>ztm (zdI (hb' v hv).2) fun u hu=>by
  obtain ⟨e,hm⟩:=zfj hu;have:=zdI (ha' u hm).2
  grind
def zzO (g:Int->List UInt8->Msg) (m:Mes) (l:List Th) (i:Int):Vlu:=valO g (zt m i) (accF g (zt m i) i acc0 l)
theorem zse {s:List Mes} (hs:zca s) {m:Mes} (hm:m∈s) {g:Int->List UInt8->Msg} {l:List Th} (hr:zel (zdR g m l).Values) (n:Int):
  look (zdR g m l).Values n=if 0<=fldI m n/\0<zas (zzO g m l (fldI m n)) then some (zzO g m l (fldI m n)) else none:=by
 have hmem:∀v,v∈(zdR g m l).Values↔∃i:Int,(0<=i/\i<m.Fields.length)/\zzO g m l i=v/\0<zas v:=fun v=>by
  unfold zdR zmL;simp only [xW,xA,zen,xT];constructor
  ·rintro ⟨⟨i,hi,rfl⟩,h2⟩;exact ⟨i,hi,rfl,h2⟩
  ·rintro ⟨i,hi,rfl,h2⟩;exact ⟨⟨i,hi,rfl⟩,h2⟩
 have hnum:∀i,(zzO g m l i).Number=(zt m i).Number:=fun i=>rfl
 by_cases hc:0<=fldI m n/\0<zas (zzO g m l (fldI m n))
 ·grind [zcX,zyG,zbe]
 ·rw [xq hc];cases hlk:look (zdR g m l).Values n with
  | none=>rfl
  | some v=>
   exfalso;obtain ⟨hn,hv⟩:=zfj hlk
   grind [zue]
def comb (f:Fld) (a q:zcu):zcu:=(a.1++q.1,a.2.1|| q.2.1,(if f.Repeated=true then a.2.2.1++q.2.2.1 else if q.2.1=true then q.2.2.1 else a.2.2.1),(if f.Repeated=true then a.2.2.2.1++q.2.2.2.1 else if q.2.1=true then q.2.2.2.1 else a.2.2.2.1),a.2.2.2.2++q.2.2.2.2)
theorem zOx (f:Fld) (a:zcu):comb f a acc0=a:=by
 unfold comb acc0
 grind
theorem zMu (g:Int->List UInt8->Msg) (f:Fld) (a q:zcu) (t:Th):stp g f (comb f a q) t=comb f a (stp g f q t):=by
 unfold stp comb
 grind
theorem zvl (g:Int->List UInt8->Msg) (f:Fld) (i:Int) (a:zcu):∀(l:List Th) (q:zcu),accF g f i (comb f a q) l=comb f a (accF g f i q l)
 | [],q=>rfl
 | t::l,q=>by
  rw [accF,accF];split
  ·rw [zMu,zvl g f i a l]
  ·rw [zvl g f i a l]
theorem zIO (g:Int->List UInt8->Msg) (f:Fld) (a:zcu) (t:Th):(stp g f a t).2.1=true:=by
 unfold stp;split;rfl;split;rfl;split;rfl;split<;>rfl
theorem zAL (g:Int->List UInt8->Msg) (f:Fld) (i:Int):∀(l:List Th) (a:zcu),a.2.1=true->(accF g f i a l).2.1=true
 | [],a,h=>h
 | t::l,a,h=>by
  rw [accF];refine zAL g f i l _ ?_;split
  ·exact zIO g f a t
  ·exact h
theorem zqs (g:Int->List UInt8->Msg) (f:Fld) (i:Int):∀(l:List Th) (a:zcu),(accF g f i a l).2.1=false->accF g f i a l=a
 | [],a,h=>rfl
 | t::l,a,h=>by
  rw [accF] at h|-;split at h
  ·grind [zAL,zIO]
  ·rename_i ht;rw [xq ht];exact zqs g f i l a h
theorem zMv {s:List Mes} {d:Nat} {m:Mes} {f:Fld} {g:Int->List UInt8->Msg} {a:zcu} {t:Th} (ht:OkT s d m t) (hi:0<=t.fi) (hf:zt m t.fi=f) (hr:f.Repeated=false) (kq:f.Kind≠17):
  0<(stp g f a t).2.2.1.length+(stp g f a t).2.2.2.1.length:=by
 have kF:=ht.run hi;rw [hf] at kF;unfold stp;by_cases h1:t.run=true
 ·grind
 ·grind
theorem zAJ {s:List Mes} {d:Nat} {m:Mes} {f:Fld} {g:Int->List UInt8->Msg} {i:Int} (hi:0<=i) (hf:zt m i=f) (hr:f.Repeated=false) (kq:f.Kind≠17):∀(l:List Th) (a:zcu),(∀t∈l,OkT s d m t)->
  (a.2.1=true->0<a.2.2.1.length+a.2.2.2.1.length)->(accF g f i a l).2.1=true->0<(accF g f i a l).2.2.1.length+(accF g f i a l).2.2.2.1.length
 | [],a,_,h,hm=>h hm
 | t::l,a,ht,h,hm=>by
  rw [accF] at hm|-;refine zAJ hi hf hr kq l _ (fun x hx=>ht x (xu _ hx)) ?_ hm;split
  ·rename_i hti;exact fun _=>zMv (ht t xt) (by omega) (by rw [hti];exact hf) hr kq
  ·exact h
theorem zGT {s:List Mes} (hs:zca s):∀(N:Nat) (a z:List UInt8) (d k:Nat),a.length+z.length=N->k<s.length->zH s d k a=none->zH s d k z=none->ofM s k (a++z)=zkX s (ofM s k z) (ofM s k a) k:=by
 intro N
 induction N using Nat.strongRecOn with
 | _ N IH=>
  intro a z d k hN hk hva hvz;have hmm:zm s (k:Int)∈s:=by rw [zbq hk];exact xB hk
  have hvaz:=(zid s d k z hva).2 hvz;have hra:=(zhv hs _ a d k rfl hk hva).1;have hrz:=(zhv hs _ z d k rfl hk hvz).1;have hraz:=(zhv hs _ (a++z) d k rfl hk hvaz).1;obtain ⟨j1,j2⟩:=zvH hra hrz;obtain ⟨_,_,ra,_,_⟩:=zaY hra;obtain ⟨_,_,rz,_,_⟩:=zaY hrz;obtain ⟨_,_,raz,_,_⟩:=zaY hraz;have hta:=zFG hva;have htz:=zFG hvz;have hwa:=zod (zm s (k:Int)) a;have hwz:=zod (zm s (k:Int)) z;have haz:=zzM hva hvz;have hvals:(ofM s k (a++z)).Values=(zkX s (ofM s k z) (ofM s k a) k).Values:=by
   refine zyF raz j1 fun n=>?_
   rw [j2 n];rw [zks] at raz ra rz;rw [zks s k (a++z),zks s k z,zks s k a,zse hs hmm raz,zse hs hmm rz,zse hs hmm ra,haz]
   generalize zm s (k:Int)=m at hmm hta htz hwa hwz
   rcases zcX m n with ⟨hf,_⟩| ⟨j,hj,hf,hjn,_⟩
   ·grind
   ·rw [hf];have hj0:(0:Int)<=(j:Int):=by omega
    simp only [hj0,qz];have hfm:zt m (j:Int)∈m.Fields:=by rw [zbe hj];exact xB hj
    unfold zzO
    generalize hff:zt m (j:Int)=f at hfm
    have hsub:f.Kind=17->∀v:List UInt8,v.length+1<=N->∀e,zH s e f.Of v=none->zay s (ofM s f.Of v) f.Of=true/\dM (ofM s f.Of v)<=e:=fun kq v _ e he=>by
     have hof:=(hs.fld _ hmm f hfm).sub kq;obtain ⟨q,hq⟩:∃q:Nat,f.Of=q:=⟨f.Of.toNat,by omega⟩;rw [hq] at he|-;exact zhv hs v.length v e q rfl (by omega) he
    have ha1:=zxa (g:=ofM s) hj0 hff acc0 (ths m a) (zCb s d f) hta (fun t ht kq e he hv=>hsub kq _ (by have:=ztL ht;omega) e hv);have hz1:=zxa (g:=ofM s) hj0 hff acc0 (ths m z) (zCb s d f) htz (fun t ht kq e he hv=>hsub kq _ (by have:=ztL ht;omega) e hv);have hca:=zvl (ofM s) f j (accF (ofM s) f j acc0 (ths m a)) (ths m z) acc0;rw [zOx] at hca;rw [znk,hca];have hma:=zqs (ofM s) f j (ths m a) acc0;have hmz:=zqs (ofM s) f j (ths m z) acc0;have hnz:=fun hr kq=>zAJ (g:=ofM s) hj0 hff hr kq (ths m z) acc0 htz (fun hh=>nomatch hh)
    have hja:=(zqt (ofM s) f j acc0 (ths m a)).2;have hjz:=(zqt (ofM s) f j acc0 (ths m z)).2;have j0:wJ acc0=0:=rfl;rw [j0] at hja hjz
    generalize accF (ofM s) f j acc0 (ths m a)=q1 at ha1 hma hja
    generalize accF (ofM s) f j acc0 (ths m z)=q2 at hz1 hmz hnz hjz
    have e0:zas (valO (ofM s) f acc0)=0:=by unfold zas valO acc0;simp
    cases hm2:q2.2.1 with
    | false=>
     rw [hmz hm2,zOx,e0,xq (show ¬(0<0) by omega)]
    | true=>
     cases hr:f.Repeated with
     | true=>
      have v1:valO (ofM s) f q1=⟨f.Number,q1.2.2.1,q1.2.2.2.1,q1.2.2.2.2⟩:=by unfold valO;rw [xq (fun hh=>by rw [hr] at hh;cases hh.2.2)]
      have v2:valO (ofM s) f q2=⟨f.Number,q2.2.2.1,q2.2.2.2.1,q2.2.2.2.2⟩:=by unfold valO;rw [xq (fun hh=>by rw [hr] at hh;cases hh.2.2)]
      have v12:valO (ofM s) f (comb f q1 q2)=⟨f.Number,q1.2.2.1++q2.2.2.1,q1.2.2.2.1++q2.2.2.2.1,q1.2.2.2.2++q2.2.2.2.2⟩:=by
       unfold valO;rw [xq (fun hh=>by rw [hr] at hh;cases hh.2.2)];unfold comb;simp [hr]
      rw [v1,v2,v12];have nil2:∀(x y w:Nat),x+y+w=0->x=0/\y=0/\w=0:=by omega
      grind [zas,ziw]
     | false=>
      have s1:=(ha1.one hr).2.2;have s2:=(hz1.one hr).2.2;by_cases kq:f.Kind=17
      ·have nw:∀q:zcu,zxB s d f q->q.2.2.1=[]/\q.2.2.2.1=[]:=fun q hq=>by
        constructor
        ·cases hw:q.2.2.1 with
         | nil=>rfl
         | cons w l=>
          have:=hq.words w (by rw [hw];exact xt);unfold zjT at this;rw [kq] at this;simp [kNum] at this
        ·cases hw:q.2.2.2.1 with
         | nil=>rfl
         | cons w l=>
          have:=hq.texts w (by rw [hw];exact xt);unfold zly at this
          grind
       obtain ⟨a1,a2⟩:=nw q1 ha1;obtain ⟨z1,z2⟩:=nw q2 hz1;have v2:valO (ofM s) f q2=⟨f.Number,[],[],[ofM s f.Of q2.1]⟩:=by unfold valO;rw [xr ⟨hm2,kq,hr⟩,z1,z2]
       have m2:0<zas (⟨f.Number,[],[],[ofM s f.Of q2.1]⟩:Vlu):=by simp [zas]
       rw [v2,xr m2];simp only;cases hm1:q1.2.1 with
       | false=>
        grind [valO,comb,acc0,ziw]
       | true=>
        have v1:valO (ofM s) f q1=⟨f.Number,[],[],[ofM s f.Of q1.1]⟩:=by unfold valO;rw [xr ⟨hm1,kq,hr⟩,a1,a2]
        have v12:valO (ofM s) f (comb f q1 q2)=⟨f.Number,[],[],[ofM s f.Of (q1.1++q2.1)]⟩:=by
         unfold valO comb;simp [hm1,hm2,kq,hr,z1,z2]
        obtain ⟨e,he⟩:=hz1.met hm2 kq;have jv1:=ha1.join kq e he;have jv2:=hz1.join kq e he;rw [wJ,xr hm1] at hja;rw [wJ,xr hm2] at hjz;have hof:=(hs.fld _ hmm f hfm).sub kq;obtain ⟨q,hq⟩:∃q:Nat,f.Of=q:=⟨f.Of.toNat,by omega⟩;have hih:ofM s f.Of (q1.1++q2.1)=zkX s (ofM s f.Of q2.1) (ofM s f.Of q1.1) f.Of:=by
         grind
        rw [v1,v12,xr (by simp [zas]),xr (by simp [zas]),ziw];simp only;rw [xq (by rw [hr];simp),xr kq,zln,hih]
      grind [valO,comb,zas,ziw]
  grind [zdR,unkO,zmp,zks]
mutual
/-- Kept or left by ways. -/
def zuA (s:List Mes):Msg->Int->List zal->Bool->Msg
 | ⟨vs,u⟩,k,w,keep=>⟨zjD s vs (zm s k) w keep,if keep=true then [] else u⟩
def zjD (s:List Mes):List Vlu->Mes->List zal->Bool->List Vlu
 | [],_,_,_=>[]
 | v::l,m,w,keep=>zzd s v (zt m (fldI m v.Number)) w keep++zjD s l m w keep
def zzd (s:List Mes):Vlu->Fld->List zal->Bool->List Vlu
 | ⟨n,a,t,sub⟩,f,w,keep=>if zpL w n=false/\zoh w n≠[]/\f.Kind=17/\f.Repeated=false then [⟨n,[],[],zrl s sub f.Of (zoh w n) keep⟩]
  else if zpL w n=keep then [⟨n,a,t,sub⟩] else []
def zrl (s:List Mes):List Msg->Int->List zal->Bool->List Msg
 | [],_,_,_=>[]
 | x::_,k,w,keep=>[zuA s x k w keep]
end
theorem zzb (s:List Mes) (x:Msg) (k:Int) (w:List zal) (keep:Bool):zuA s x k w keep=⟨zjD s x.Values (zm s k) w keep,if keep=true then [] else x.Unknown⟩:=by cases x;rw [zuA]
theorem zuB (s:List Mes) (v:Vlu) (f:Fld) (w:List zal) (keep:Bool):zzd s v f w keep=if zpL w v.Number=false/\zoh w v.Number≠[]/\f.Kind=17/\f.Repeated=false then [⟨v.Number,[],[],zrl s v.Subs f.Of (zoh w v.Number) keep⟩]
  else if zpL w v.Number=keep then [v] else []:=by cases v;rw [zzd]
theorem zJM (s:List Mes) (v:Vlu) (f:Fld) (w:List zal) (keep:Bool):(zzd s v f w keep).length<=1:=by
 rw [zuB];split;simp;split<;>simp
theorem zGF (hv:zhK s v f) (ho:∀u,o=some u->zhK s u f)
  (ih:∀x∈v.Subs,∀y:Msg,zay s x f.Of=true->zay s y f.Of=true->zay s (zkX s x y f.Of) f.Of=true):zhK s (zhl s v o f) f:=by
 have hm:=ztm hv ho;rw [ziw] at hm|-;cases o with
 | none=>exact hv
 | some u=>
  have hu:=ho u rfl;simp only at hm|-;by_cases hr:f.Repeated=true
  ·rw [xr hr] at hm|-;refine ⟨hm,(fun h=>by rw [hr] at h;cases h),hv.kind,fun w hw=>?_,fun w hw=>?_,fun w hw=>?_⟩
   ·rcases xF.1 hw with hw| hw
    ·exact hu.words w hw
    ·exact hv.words w hw
   ·rcases xF.1 hw with hw| hw
    ·exact hu.texts w hw
    ·exact hv.texts w hw
   ·rcases xF.1 hw with hw| hw
    ·exact hu.subs w hw
    ·exact hv.subs w hw
  ·rw [xq hr] at hm|-;by_cases kq:f.Kind=17
   ·rw [xr kq] at hm|-;obtain ⟨x,hvx,hx⟩:=hv.msg kq (by simpa using hr);obtain ⟨y,huy,hy⟩:=hu.msg kq (by simpa using hr);have hvs:v.Subs=[x]:=by rw [hvx]
    have hus:u.Subs=[y]:=by rw [huy]
    rw [hvs,hus,zln];refine ⟨by simp [zas],(fun _=>by simp [zas]),hv.kind,(fun w hw=>nomatch hw),(fun w hw=>nomatch hw),fun w hw=>?_⟩
    grind
   grind
theorem zwq :∀(N:Nat) (b a:Msg) (k:Int),szM b<=N->zay s a k=true->zay s b k=true->zay s (zkX s b a k) k=true
 | 0,b,a,k,h,_,_=>by rw [zcR] at h;omega
 | N+1,b,a,k,kG,ha,hb=>by
  obtain ⟨k0,k1,ra,ha',ua⟩:=zaY ha;obtain ⟨_,_,rb,hb',ub⟩:=zaY hb;obtain ⟨j1,j2⟩:=zvH ha hb;rw [zcR] at kG;refine zBG k0 k1 j1 (fun v hv=>?_) fun u hu=>?_
  ·have hl:=zyG j1 hv;rw [j2] at hl;cases hbl:look b.Values v.Number with
   | none=>
    grind [zfj]
   | some w=>
    rw [hbl] at hl;simp only at hl;obtain ⟨wn,wm⟩:=zfj hbl;obtain ⟨w0,wf⟩:=hb' w wm;rw [wn] at w0 wf;have hfw:=zdI wf;have s1:=zfb wm;rw [zgr] at s1;refine ⟨w0,zHT ?_⟩;have hvj:zhl s w (look a.Values v.Number) (zt (zm s k) (fldI (zm s k) v.Number))=v:=qO hl;have:=zGF (o:=look a.Values v.Number) hfw (fun u hu=>by
     obtain ⟨un,um⟩:=zfj hu;have:=zdI (ha' u um).2;rw [un] at this;exact this) fun x hx y hxr hyr=>by
      have:=zfa hx;exact zwq N x y _ (by omega) hyr hxr
    grind
  grind [zmp]
end Go.Proofs.YtaglemhabeipfaaGreat
