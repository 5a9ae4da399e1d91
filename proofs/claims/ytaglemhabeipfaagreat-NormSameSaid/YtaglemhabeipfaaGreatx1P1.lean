/-
  What the plain functions are. No condition.
-/
import Derived.Test.YtaglemhabeipfaaGreatx1S1
import Derived.Test.YtaglemhabeipfaaGreatx1K3
set_option autoImplicit true
set_option relaxedAutoImplicit true
namespace Go.Proofs.YtaglemhabeipfaaGreat
open Go.IntKind (i64 u64)
open Go
def cpN (r:Nat):List Nat:=
 if r<128 then [r] else if r<2048 then [192+r/64,128+r%64]
 else if r<65536 then (if 55296<=r/\r<=57343 then [] else [224+r/4096,128+r/64%64,128+r%64])
 else if r<=1114111 then [240+r/262144,128+r/4096%64,128+r/64%64,128+r%64] else []
def cpB (r:Nat):List UInt8:=(cpN r).map UInt8.ofNat
def cont (c:UInt8):Bool:=decide (128<=c.toNat/\c.toNat<192)
def is1:List UInt8->Bool
 | a::_=>decide (a.toNat<128)
 | _=>false
def is2:List UInt8->Bool
 | a::b::_=>decide (194<=a.toNat/\a.toNat<224/\cont b=true)
 | _=>false
def is3:List UInt8->Bool
 | a::b::c::_=>decide (224<=a.toNat/\a.toNat<240/\cont b=true/\cont c=true/\(a.toNat=224->160<=b.toNat)/\(a.toNat=237->b.toNat<160))
 | _=>false
def is4:List UInt8->Bool
 | a::b::c::d::_=>decide (240<=a.toNat/\a.toNat<245/\cont b=true/\cont c=true/\cont d=true/\(a.toNat=240->144<=b.toNat)/\(a.toNat=244->b.toNat<144))
 | _=>false
def nxt (l:List UInt8):Nat:=if is1 l then 1 else if is2 l then 2 else if is3 l then 3 else if is4 l then 4 else 0
theorem zsP (h:n<256):(UInt8.ofNat n=c)↔n=c.toNat:=by
 constructor
 ·intro e;rw [<-e,UInt8.toNat_ofNat'];omega
 simp_all
theorem zJR (r:Int):zgc r=some (if r<0 then [] else cpB r.toNat):=by
 unfold zgc;by_cases h0:r<0
 ·grind
 ·rw [xp h0];obtain ⟨n,rfl⟩:∃n:Nat,r=n:=⟨r.toNat,by omega⟩;rw [xD];unfold cpB cpN;by_cases h1:n<128
  ·grind [zoF,zhr]
  ·rw [xp h1];by_cases h2:n<2048
   ·grind [zoF,wrap_i64,zhr,sb]
   ·rw [xp h2];by_cases h3:n<65536
    ·grind [zoF,wrap_i64,zhr,sb]
    ·rw [xp h3];by_cases h4:n<=1114111
     ·rw [uK,uK,uK,uK,xq h4];simp only [uD (show (0:Int)<=n by omega),qK (show (0:Int)<=n by omega),zoF]
      rw [wrap_i64 (x:=(n:Int)/262144) (by omega),wrap_i64 (x:=(n:Int)/4096) (by omega),wrap_i64 (x:=(n:Int)/64) (by omega),qK (by omega),qK (by omega),uL,uL,uL,uL,
       zhr (n:=240+n/262144) (by omega) (by omega),sb,zhr (n:=128+n/4096%64) (by omega) (by omega),sb,zhr (n:=128+n/64%64) (by omega) (by omega),sb,zhr (n:=128+n%64) (by omega) (by omega)];rfl
     grind
def zwm:Nat->List UInt8->Nat
 | 1,a::_=>a.toNat
 | 2,a::b::_=>64*(a.toNat%32)+b.toNat%64
 | 3,a::b::c::_=>64*(64*(a.toNat%16)+b.toNat%64)+c.toNat%64
 | 4,a::b::c::d::_=>64*(64*(64*(a.toNat%8)+b.toNat%64)+c.toNat%64)+d.toNat%64
 | _,_=>0
theorem map1 (h:∀x∈l,x<256):l.map UInt8.ofNat=[a]↔l=[a.toNat]:=by
 cases l with
 | nil=>simp
 | cons x l=>cases l with
  | nil=>simp only [xH,yF,yG,qn];exact zsP (h x (by simp))
  | cons y l=>simp
theorem map2 (h:∀x∈l,x<256):l.map UInt8.ofNat=[a,b]↔l=[a.toNat,b.toNat]:=by
 cases l with
 | nil=>simp
 | cons x l=>simp only [xH,yG,zsP (h x (by simp)),map1 (l:=l) fun y hy=>h y (by simp [hy])]
theorem map3 (h:∀x∈l,x<256):l.map UInt8.ofNat=[a,b,c]↔l=[a.toNat,b.toNat,c.toNat]:=by
 cases l with
 | nil=>simp
 | cons x l=>simp only [xH,yG,zsP (h x (by simp)),map2 (l:=l) fun y hy=>h y (by simp [hy])]
theorem map4 (h:∀x∈l,x<256):l.map UInt8.ofNat=[a,b,c,d]↔l=[a.toNat,b.toNat,c.toNat,d.toNat]:=by
 cases l with
 | nil=>simp
 | cons x l=>simp only [xH,yG,zsP (h x (by simp)),map3 (l:=l) fun y hy=>h y (by simp [hy])]
theorem zAo (r:Nat):∀x∈cpN r,x<256:=by
 grind [cpN]
theorem cpB1 (a:UInt8):cpB a.toNat=[a]↔a.toNat<128:=by
 grind [cpB,cpN,map1,zAo]
theorem cpB2 (a b:UInt8):cpB (64*(a.toNat%32)+b.toNat%64)=[a,b]↔194<=a.toNat/\a.toNat<224/\cont b=true:=by
 have ha:=a.toNat_lt;have hb:=b.toNat_lt;unfold cpB cont
 grind [cpN,map2,zAo]
theorem cpB3 (a b c:UInt8):cpB (64*(64*(a.toNat%16)+b.toNat%64)+c.toNat%64)=[a,b,c]↔224<=a.toNat/\a.toNat<240/\cont b=true/\cont c=true/\(a.toNat=224->160<=b.toNat)/\(a.toNat=237->b.toNat<160):=by
 have ha:=a.toNat_lt;have hb:=b.toNat_lt;have hc:=c.toNat_lt;unfold cpB cont;rw [map3 (zAo _)];unfold cpN
 grind
theorem cpB4 (a b c d:UInt8):cpB (64*(64*(64*(a.toNat%8)+b.toNat%64)+c.toNat%64)+d.toNat%64)=[a,b,c,d]↔
  240<=a.toNat/\a.toNat<245/\cont b=true/\cont c=true/\cont d=true/\(a.toNat=240->144<=b.toNat)/\(a.toNat=244->b.toNat<144):=by
 have ha:=a.toNat_lt;have hb:=b.toNat_lt;have hc:=c.toNat_lt;have hd:=d.toNat_lt;unfold cpB cont;rw [map4 (zAo _)];unfold cpN;by_cases h:64*(64*(64*(a.toNat%8)+b.toNat%64)+c.toNat%64)+d.toNat%64<65536
 ·have:∀l:List Nat,l.length<=3->(l=[a.toNat,b.toNat,c.toNat,d.toNat])=False:=fun l hl=>by simp only [eq_iff_iff,iff_false];intro e;rw [e] at hl;simp at hl
  rw [xq h];split
  ·rw [this _ (by simp)];simp;omega
  ·split
   ·rw [this _ (by simp)];simp;omega
   ·split
    ·rw [this _ (by simp)];simp;omega
    ·rw [this _ (by simp)];simp;omega
 ·rw [xp (by omega),xp (by omega),xp h];by_cases h2:64*(64*(64*(a.toNat%8)+b.toNat%64)+c.toNat%64)+d.toNat%64<=1114111
  ·rw [xq h2];simp;omega
  ·rw [xp h2];simp;omega
def isN (n:Nat) (l:List UInt8):Bool:=match n with
 | 1=>is1 l
 | 2=>is2 l
 | 3=>is3 l
 | 4=>is4 l
 | _=>false
theorem zLn (n:Nat) (l:List UInt8) (h1:1<=n) (h4:n<=4) (hl:n<=l.length):cpB (zwm n l)=l.take n↔isN n l=true:=by
 match n,l,h1,h4,hl with
 | 1,a::t,_,_,_=>simp only [zwm,yQ,qq,cpB1,isN,is1,xP]
 | 2,a::b::t,_,_,_=>simp only [zwm,yQ,qq,cpB2,isN,is2,xP]
 | 3,a::b::c::t,_,_,_=>simp only [zwm,yQ,qq,cpB3,isN,is3,xP]
 | 4,a::b::c::d::t,_,_,_=>simp only [zwm,yQ,qq,cpB4,isN,is4,xP]
theorem zFU (n:Nat) (l:List UInt8) (h:l.length<n):isN n l=false:=by
 match n,l with
 | 0,_=>rfl
 | 1,[]=>rfl
 | 2,[]=>rfl
 | 2,[_]=>rfl
 | 3,[]=>rfl
 | 3,[_]=>rfl
 | 3,[_,_]=>rfl
 | 4,[]=>rfl
 | 4,[_]=>rfl
 | 4,[_,_]=>rfl
 | 4,[_,_,_]=>rfl
 | n+5,_=>rfl
 | 1,_::_=>simp at h
 | 2,_::_::_=>simp at h;omega
 | 3,_::_::_::_=>simp at h;omega
 | 4,_::_::_::_::_=>simp at h;omega
theorem zqE {b:List UInt8} {a n i r:Nat} (hb:b.length<=1152921504606846976) (hn:n<=4) (h:i<n) (ha:a+i<b.length) (hr:r<=1000000000):
  zaU a b n r i=zaU a b n ((64*r+(b[a+i]).toNat%64:Nat):Int) ((i+1:Nat):Int):=by
 refine zmJ ?_;unfold zbO;have hc:=(b[a+i]).toNat_lt;rw [uJ,uL,zK (show (a:Int)+i=((a+i:Nat):Int) by push_cast;rfl) ha,sb];simp (disch:=omega) only [wrap_i64,qK];push_cast;rfl
theorem zAB (h:n<=i):zaU a b n r i=some (r:Int):=by
 refine zmK ?_;unfold zbO
 grind
theorem zlo {b:List UInt8} {a i:Nat} {c:UInt8} (h:(b.drop a)[i]? =some c):∃h:a+i<b.length,b[a+i]=c:=by
 grind
theorem zOp {b:List UInt8} {a n:Nat} {c:UInt8} {t:List UInt8} (hb:b.length<=1152921504606846976) (hl:b.drop a=c::t) (h1:1<=n) (h4:n<=4) (hn:n<=(b.drop a).length):
  zaU a b n ((if 1<n then c.toNat%([0,0,32,16,8].getD n 0) else c.toNat:Nat):Int) (1:Nat)=some ((zwm n (b.drop a):Nat):Int):=by
 have hc:=c.toNat_lt;rw [hl] at hn
 match n,t,h1,h4,hn with
 | 1,t,_,_,_=>rw [zAB (by omega),hl];rfl
 | 2,x::t,_,_,_=>
  obtain ⟨g1,e1⟩:=zlo (b:=b) (a:=a) (i:=1) (c:=x) (by rw [hl];rfl);rw [xq (by omega),zqE hb (by omega) (by omega) g1 (by simp;omega),zAB (by omega),hl,e1];rfl
 | 3,x::y::t,_,_,_=>
  obtain ⟨g1,e1⟩:=zlo (b:=b) (a:=a) (i:=1) (c:=x) (by rw [hl];rfl);obtain ⟨g2,e2⟩:=zlo (b:=b) (a:=a) (i:=2) (c:=y) (by rw [hl];rfl);have hx:=x.toNat_lt;rw [xq (by omega),zqE hb (by omega) (by omega) g1 (by simp;omega),zqE hb (by omega) (by omega) g2 (by simp;omega),zAB (by omega),hl,e1,e2];rfl
 | 4,x::y::z::t,_,_,_=>
  obtain ⟨g1,e1⟩:=zlo (b:=b) (a:=a) (i:=1) (c:=x) (by rw [hl];rfl);obtain ⟨g2,e2⟩:=zlo (b:=b) (a:=a) (i:=2) (c:=y) (by rw [hl];rfl);obtain ⟨g3,e3⟩:=zlo (b:=b) (a:=a) (i:=3) (c:=z) (by rw [hl];rfl);have hx:=x.toNat_lt;have hy:=y.toNat_lt;rw [xq (by omega),zqE hb (by omega) (by omega) g1 (by simp;omega),zqE hb (by omega) (by omega) g2 (by simp;omega),zqE hb (by omega) (by omega) g3 (by simp;omega),zAB (by omega),hl,e1,e2,e3];rfl
theorem zOl {b:List UInt8} {a n:Nat} (hb:b.length<=1152921504606846976) (ha:a<=b.length) (h1:1<=n) (h5:n<=5):
  zcO a b n=if isN n (b.drop a) then some (.inr (.inr (n:Int))) else if n<=4/\n<=(b.drop a).length then some (.inl ((n+1:Nat):Int)) else some (.inr (.inl ())):=by
 have hdl:(b.drop a).length=b.length - a:=by simp
 unfold zcO;by_cases h:n<=4/\n<=(b.drop a).length
 ·rw [xq h,uL,uJ];obtain ⟨c,t,hl⟩:∃c t,b.drop a=c::t:=by
   cases hh:b.drop a with
   | nil=>rw [hh] at h;simp at h;omega
   | cons c t=>exact ⟨c,t,rfl⟩
  obtain ⟨g0,e0⟩:=zlo (b:=b) (a:=a) (i:=0) (c:=c) (by rw [hl];rfl);have hc:=c.toNat_lt;rw [zK rfl (show a<b.length by omega),sb];have e0':b[a]'(by omega)=c:=by simpa using e0
  rw [e0',uL];have hp:(if (decide ((n:Int)>1))=true then (idx ([0,0,32,16,8]:(List Int)) (n:Int)>>=fun x2=>remI (c.toNat:Int) x2>>=fun v3=>some v3) else some (c.toNat:Int))=some (((if 1<n then c.toNat%([0,0,32,16,8].getD n 0) else c.toNat:Nat)):Int):=by
   match n,h1,h.1 with
   | 1,_,_=>rfl
   | 2,_,_=>rfl
   | 3,_,_=>rfl
   | 4,_,_=>rfl
  rw [hp,sb];have h2:=zOp hb hl h1 h.1 h.2;have h2':zaU a b n ((if 1<n then c.toNat%([0,0,32,16,8].getD n 0) else c.toNat:Nat):Int) 1=some ((zwm n (b.drop a):Nat):Int):=h2;rw [h2',sb,zJR,sb,xp (by omega),xD,zgv rfl (show (a:Int)+n=((a+n:Nat):Int) by push_cast;rfl) (by omega) (by omega),sb,uk]
  grind [zLn,wrap_i64]
 ·have hn:isN n (b.drop a)=false:=by
   by_cases h4:n<=4
   ·exact zFU _ _ (by omega)
   ·have:n=5:=by omega
    subst this;rfl
  grind [wrap_i64]
theorem zxD {b:List UInt8} {a:Nat} (hb:b.length<=1152921504606846976) (ha:a<=b.length):zfB b a=some ((nxt (b.drop a):Nat):Int):=by
 have key:∀(k n:Nat),n+k=5->1<=n->(∀j,1<=j->j<n->isN j (b.drop a)=false)->∃q,zed a b n=some q/\(match q with| .inl _=>(0:Int)| .inr u=>u)=((nxt (b.drop a):Nat):Int):=by
  intro k
  induction k with
  | zero=>
   intro n hn h1 hj;have:n=5:=by omega
   subst this;refine ⟨.inl (),zfO ?_,?_⟩
   ·rfl
   ·have j1:=hj 1 (by omega) (by omega);have j2:=hj 2 (by omega) (by omega);have j3:=hj 3 (by omega) (by omega);have j4:=hj 4 (by omega) (by omega);simp only [isN] at j1 j2 j3 j4;simp [nxt,j1,j2,j3,j4]
  | succ k ih=>
   intro n hn h1 hj;have hb1:=zOl hb ha h1 (show n<=5 by omega);by_cases hi:isN n (b.drop a)=true
   ·rw [xq hi] at hb1;refine ⟨.inr n,zfO hb1,?_⟩;have e:nxt (b.drop a)=n:=by
     match n,h1,(show n<=4 by omega),hi,hj with
     | 1,_,_,hi,_=>simp only [isN] at hi;simp [nxt,hi]
     | 2,_,_,hi,hj=>have j1:=hj 1 (by omega) (by omega);simp only [isN] at hi j1;simp [nxt,hi,j1]
     | 3,_,_,hi,hj=>have j1:=hj 1 (by omega) (by omega);have j2:=hj 2 (by omega) (by omega);simp only [isN] at hi j1 j2;simp [nxt,hi,j1,j2]
     | 4,_,_,hi,hj=>have j1:=hj 1 (by omega) (by omega);have j2:=hj 2 (by omega) (by omega);have j3:=hj 3 (by omega) (by omega);simp only [isN] at hi j1 j2 j3;simp [nxt,hi,j1,j2,j3]
    simp only [e]
   ·rw [xp hi] at hb1;by_cases hl:n<=4/\n<=(b.drop a).length
    ·rw [xq hl] at hb1;obtain ⟨q,h2,h3⟩:=ih (n+1) (by omega) (by omega) fun j g1 g2=>by
      grind
     exact ⟨q,(zmI hb1).trans h2,h3⟩
    ·rw [xp hl] at hb1;refine ⟨.inl (),zfO hb1,?_⟩;have hall:∀j,1<=j->isN j (b.drop a)=false:=fun j g1=>by
      grind [zFU]
     have j1:=hall 1 (by omega);have j2:=hall 2 (by omega);have j3:=hall 3 (by omega);have j4:=hall 4 (by omega);simp only [isN] at j1 j2 j3 j4;simp [nxt,j1,j2,j3,j4]
 obtain ⟨q,h1,h2⟩:=key 4 1 rfl (by omega) fun j g1 g2=>by omega
 unfold zfB
 grind
theorem znq (h:isN n l=true):∃a t,l=a::t/\n<=l.length/\(n=1/\a.toNat<128\/n=2/\194<=a.toNat/\a.toNat<224\/n=3/\224<=a.toNat/\a.toNat<240\/n=4/\240<=a.toNat):=by
 match n,l with
 | 1,a::t=>simp only [isN,is1,xP] at h;exact ⟨a,t,rfl,by simp,.inl ⟨rfl,h⟩⟩
 | 2,a::b::t=>simp only [isN,is2,xP] at h;exact ⟨a,_,rfl,by simp,.inr (.inl ⟨rfl,h.1,h.2.1⟩)⟩
 | 3,a::b::c::t=>simp only [isN,is3,xP] at h;exact ⟨a,_,rfl,by simp,.inr (.inr (.inl ⟨rfl,h.1,h.2.1⟩))⟩
 | 4,a::b::c::d::t=>simp only [isN,is4,xP] at h;exact ⟨a,_,rfl,by simp,.inr (.inr (.inr ⟨rfl,h.1⟩))⟩
 | 0,_=>cases h
 | 1,[]=>cases h
 | 2,[]=>cases h
 | 2,[_]=>cases h
 | 3,[]=>cases h
 | 3,[_]=>cases h
 | 3,[_,_]=>cases h
 | 4,[]=>cases h
 | 4,[_]=>cases h
 | 4,[_,_]=>cases h
 | 4,[_,_,_]=>cases h
 | _+5,_=>cases h
theorem zLo (h:isN n l=true) (h':isN m l=true):n=m:=by
 grind [znq]
theorem zNA (h:isN n l=true):nxt l=n:=by
 obtain ⟨_,_,_,_,g⟩:=znq h;have k:∀m,m≠n->isN m l=false:=fun m hm=>by
  cases hh:isN m l with
  | false=>rfl
  | true=>exact absurd (zLo hh h) hm
 have hn:n=1\/n=2\/n=3\/n=4:=by omega
 rcases hn with rfl| rfl| rfl| rfl
 ·simp only [isN] at h;simp [nxt,h]
 ·have j1:=k 1 (by omega);simp only [isN] at h j1;simp [nxt,h,j1]
 ·have j1:=k 1 (by omega);have j2:=k 2 (by omega);simp only [isN] at h j1 j2;simp [nxt,h,j1,j2]
 ·have j1:=k 1 (by omega);have j2:=k 2 (by omega);have j3:=k 3 (by omega);simp only [isN] at h j1 j2 j3;simp [nxt,h,j1,j2,j3]
theorem zvL (h:nxt l≠0):isN (nxt l) l=true:=by
 unfold nxt at h|-;by_cases h1:is1 l=true
 ·simp [h1,isN]
 ·by_cases h2:is2 l=true
  ·simp [h1,h2,isN]
  ·by_cases h3:is3 l=true
   ·simp [h1,h2,h3,isN]
   ·by_cases h4:is4 l=true
    ·simp [h1,h2,h3,h4,isN]
    grind
theorem zrR (l:List UInt8):nxt l<=l.length:=by
 grind [znq,zvL]
theorem zAR (l:List UInt8):nxt l<=4:=by
 grind [znq,zvL]
def fst4 (m:Int) (l:List UInt8):Nat×Nat:=
 if h:nxt l=0\/(nxt l:Int)>m then (0,0) else (nxt l+(fst4 (m - nxt l) (l.drop (nxt l))).1,(fst4 (m - nxt l) (l.drop (nxt l))).2+1)
termination_by l.length
decreasing_by all_goals (have:=zrR l;simp only [xW];omega)
theorem ztR (h:nxt l=0\/(nxt l:Int)>m):fst4 m l=(0,0):=by rw [fst4,dif_pos h]
theorem zAv (h:¬(nxt l=0\/(nxt l:Int)>m)):fst4 m l=(nxt l+(fst4 (m - nxt l) (l.drop (nxt l))).1,(fst4 (m - nxt l) (l.drop (nxt l))).2+1):=by rw [fst4,dif_neg h]
theorem zIO (P:Int->List UInt8->Prop) (h0:∀m l,(nxt l=0\/(nxt l:Int)>m)->P m l) (h1:∀m l,¬(nxt l=0\/(nxt l:Int)>m)->P (m - nxt l) (l.drop (nxt l))->P m l) (m:Int) (l:List UInt8):P m l:=by
 generalize hn:l.length=n
 induction n using Nat.strongRecOn generalizing m l with
 | _ n ih=>
  grind [zrR]
theorem zyA {b:List UInt8} (hb:b.length<=140737488355328) (ke:Int) (m:Int) (l:List UInt8):∀(a c:Nat),c<=a->a<=b.length->l=b.drop a->m=ke - a->
  zcr b ke a c=some (((a+(fst4 m l).1:Nat):Int),((c+(fst4 m l).2:Nat):Int)):=by
 refine zIO (fun m l=>∀(a c:Nat),c<=a->a<=b.length->l=b.drop a->m=ke - a->zcr b ke a c=some (((a+(fst4 m l).1:Nat):Int),((c+(fst4 m l).2:Nat):Int))) ?_ ?_ m l
 ·intro m l h a c hc ha hl hm;subst hl hm;have h4:=zAR (b.drop a);refine zlT ?_
  grind [zbA,sb,wrap_i64,zxD,ztR]
 ·intro m l h ih a c hc ha hl hm;subst hl hm;have h4:=zAR (b.drop a);have hle:=zrR (b.drop a);simp only [xW] at hle;refine (zlS (atv':=((a+nxt (b.drop a):Nat):Int)) (count':=((c+1:Nat):Int)) ?_).trans ?_
  ·grind [zbA,sb,wrap_i64,zxD]
  ·rw [ih (a+nxt (b.drop a)) (c+1) (by omega) (by omega) (by rw [yh]) (by omega),zAv h]
   grind
theorem zDj (hb:b.length<=140737488355328) (ke:Int):zeZ b ke=some (((fst4 ke b).1:Int),((fst4 ke b).2:Int)):=by
 unfold zeZ;have h:=zyA hb ke ke b 0 0 (xw _) (xC _) rfl (by omega)
 grind
def pre4 (l:List UInt8):Nat×Nat:=fst4 l.length l
theorem zIN (h:(l.length:Int)<=m):fst4 m l=pre4 l:=by
 have key:∀(n:Nat) (l:List UInt8) (m m':Int),l.length=n->(l.length:Int)<=m->(l.length:Int)<=m'->fst4 m l=fst4 m' l:=by
  intro n
  induction n using Nat.strongRecOn with
  | _ n ih=>
   grind [zrR,ztR,zAv]
 exact key _ l m l.length rfl h (Int.le_refl _)
theorem zHJ (h:nxt l=0):pre4 l=(0,0):=ztR (.inl h)
theorem zLT (h:nxt l≠0):pre4 l=(nxt l+(pre4 (l.drop (nxt l))).1,(pre4 (l.drop (nxt l))).2+1):=by
 grind [pre4,zrR,zAv,zIN]
theorem zJL (P:List UInt8->Prop) (h0:∀l,nxt l=0->P l) (h1:∀l,nxt l≠0->P (l.drop (nxt l))->P l) (l:List UInt8):P l:=by
 generalize hn:l.length=n
 induction n using Nat.strongRecOn generalizing l with
 | _ n ih=>
  grind [zrR]
def zgW (l:List UInt8):Bool:=decide ((pre4 l).1=l.length)
theorem zBd (hb:b.length<=140737488355328):zcG b=some (zgW b):=by
 unfold zcG;rw [zDj hb,sb];unfold zgW pre4;by_cases h:(fst4 (b.length:Int) b).1=b.length
 ·simp [h]
 ·have h2:¬(((fst4 (b.length:Int) b).1:Int)=b.length):=by omega
  simp [h,h2]
theorem zDk {b:List UInt8} (hb:b.length<=1048576):zcG b=some (zgW b):=zBd (by omega)
def enc (v:Nat):List UInt8:=if v<128 then [UInt8.ofNat v] else UInt8.ofNat (128+v%128)::enc (v/128)
termination_by v
decreasing_by omega
def scan:Nat->Nat->List UInt8->Unit⊕(Int×Int×Int)
 | _,_,[]=> .inl ()
 | i,acc,c::t=>if i=9/\1<c.toNat then .inr (0,0,4) else if c.toNat<128 then .inr (((acc+c.toNat%128*128^i:Nat):Int),((i+1:Nat):Int),0) else scan (i+1) (acc+c.toNat%128*128^i) t
def rdR:Unit⊕(Int×Int×Int)->Int×Int×Int
 | .inl _=>(0,0,3)
 | .inr r=>r
def rd (b:List UInt8):Int×Int×Int:=rdR (scan 0 0 (b.take 10))
def hor:List UInt8->Nat
 | []=>0
 | c::t=>c.toNat%128+128*hor t
def lead:Nat->List UInt8->Nat
 | 0,_=>0
 | _+1,[]=>0
 | k+1,c::t=>if 128<=c.toNat then lead k t+1 else 0
theorem zMN (i:Nat):2^(7*i)=128^i:=by rw [Nat.pow_mul]
theorem zKV (c:Nat):c&&&127=c%128:=uE c 7
theorem zHM {acc i c:Nat} (hi:i<=9) (hacc:acc<128^i) (hc:c<256) (h9:i=9->c<=1):
  orI .u64 (acc:Int) (shlI .u64 (u64.wrap (andI .u8 (c:Int) 127)) ((7*i:Nat):Int))=((acc+c%128*128^i:Nat):Int):=by
 have e1:andI .u8 (c:Int) 127=((c%128:Nat):Int):=by
  have:=zBF (k:= .u8) rfl (a:=c) (b:=127) (by simpa [IntKind.bits] using hc) (by simp [IntKind.bits]);rw [zKV] at this;exact this
 have hp:128^i<=128^9:=pl (by omega) hi;have wS:c%128*128^i<18446744073709551616:=by
  by_cases h:i=9
  ·grind
  ·have h3:128^i<=128^8:=pl (by omega) (by omega);have:=pL (show c%128<=127 by omega) h3;omega
 have e2:shlI .u64 (u64.wrap ((c%128:Nat):Int)) ((7*i:Nat):Int)=((c%128*128^i:Nat):Int):=by
  unfold shlI;rw [ztD rfl (by simp [IntKind.bits];omega),xD,yO (by simp [IntKind.bits];omega)];have h4:((c%128:Nat):Int)*2^(7*i)=((c%128*128^i:Nat):Int):=by rw [<-zMN];push_cast;rfl
  rw [h4];exact ztD rfl (by simpa [IntKind.bits] using wS)
 rw [e1,e2,zvM rfl (by simp [IntKind.bits];omega) (by simpa [IntKind.bits] using wS)];congr 1;rw [<-zMN] at hacc|-;exact zxk _ _ _ hacc
theorem zHL:∀(t:List UInt8) (v:List UInt8) (i acc:Nat),v.drop i=t->i+t.length=v.length->v.length<=10->acc<128^i->zgm v acc i=some (scan i acc t):=by
 intro t
 induction t with
 | nil=>
  intro v i acc _ hl _ _;refine zif ?_;unfold zek;rw [itF (by simp at hl|-;omega)];rfl
 | cons c t ih=>
  intro v i acc hd hl hv hacc;simp only [ye] at hl;have hget:v[i]'(by omega)=c:=by
   have h1:v.drop i=v[i]'(by omega)::v.drop (i+1):=yl (by omega)
   grind
  have hd':v.drop (i+1)=t:=by rw [<-yh,hd];rfl
  have hc:=c.toNat_lt;have hb:zek v acc i=if i=9/\1<c.toNat then some (.inr (.inr (0,0,4))) else if c.toNat<128 then some (.inr (.inr (((acc+c.toNat%128*128^i:Nat):Int),((i+1:Nat):Int),0))) else some (.inl (((acc+c.toNat%128*128^i:Nat):Int),((i+1:Nat):Int))):=by
   unfold zek;rw [uJ,zK rfl (show i<v.length by omega),sb,hget];by_cases h9:i=9/\1<c.toNat
   ·grind
   ·rw [xp h9,uK,uL];have e:((7:Int)*(i:Int))=((7*i:Nat):Int):=by push_cast;rfl
    rw [e,zDt,sb,zHM (by omega) hacc (by omega) (by omega),uL]
    grind
  rw [scan];split at hb
  ·rename_i h9;rw [xq h9];exact zif hb
  ·rename_i h9;rw [xp h9];split at hb
   ·rename_i h8;rw [xq h8];exact zif hb
   ·rename_i h8;rw [xp h8,zsh hb];refine ih v (i+1) _ hd' (by omega) hv ?_;rw [yH];have:=yC (128^i) (show c.toNat%128<=127 by omega);omega
theorem zvR (b:List UInt8):zgs b=some (rd b):=by
 unfold zgs rd;have e:(if (10:Int)<(b.length:Int) then (10:Int) else (b.length:Int))=((min 10 b.length:Nat):Int):=by split<;>omega
 have e2:b.take (min 10 b.length)=b.take 10:=by rw [uo];omega
 rw [e,zsr rfl (by omega),sb,e2];have h:=zHL (b.take 10) (b.take 10) 0 0 rfl (by simp) (by simp;omega) (by simp);have h':zgm (b.take 10) 0 0=some (scan 0 0 (b.take 10)):=h;rw [h',sb];cases scan 0 0 (b.take 10)<;>rfl
theorem zGD (b:List UInt8):zix b=some ((rd b).2.1,(rd b).2.2):=by unfold zix;rw [zvR,sb]
theorem zAD:∀(k:Nat) (l:List UInt8),lead k l<=k/\lead k l<=l.length
 | 0,_=>⟨xw _,xC _⟩
 | _+1,[]=>⟨xC _,xw _⟩
 | k+1,c::t=>by
  have:=zAD k t;rw [lead];split<;>simp<;>omega
theorem zzK:∀(l:List UInt8) (i acc:Nat),i+l.length<=10->i<=9->
  scan i acc l=if i+lead (10 - i) l=10 then .inr (0,0,4) else if lead (10 - i) l=l.length then .inl () else if i+lead (10 - i) l=9/\1<(l.getD (lead (10 - i) l) 0).toNat then .inr (0,0,4) else
   .inr (((acc+hor (l.take (lead (10 - i) l+1))*128^i:Nat):Int),((i+lead (10 - i) l+1:Nat):Int),0):=by
 intro l
 induction l with
 | nil=>
  intro i acc _ hi;obtain ⟨k,hk⟩:∃k,10 - i=k+1:=⟨9 - i,by omega⟩;rw [hk];simp only [lead,scan,yz]
  grind
 | cons c t ih=>
  intro i acc hl hi;obtain ⟨k,hk⟩:∃k,10 - i=k+1:=⟨9 - i,by omega⟩;simp only [ye] at hl;rw [scan];by_cases hc:128<=c.toNat
  ·have e:lead (10 - i) (c::t)=lead k t+1:=by rw [hk,lead,xq hc]
   rw [e];by_cases h9:i=9
   ·have:k=0:=by omega
    subst this;rw [xq ⟨h9,by omega⟩,lead,xq (by omega)]
   ·rw [xp (by omega),xp (by omega),ih (i+1) _ (by omega) (by omega),show 10 - (i+1)=k by omega];by_cases h1:i+1+lead k t=10
    ·grind
    ·rw [xp h1,xp (show ¬i+(lead k t+1)=10 by omega)];by_cases h2:lead k t=t.length
     ·grind
     ·rw [xp h2,xp (show ¬lead k t+1=(c::t).length by simp;omega)];have eg:(c::t).getD (lead k t+1) 0=t.getD (lead k t) 0:=by simp [List.getD]
      rw [eg];by_cases h3:i+1+lead k t=9/\1<(t.getD (lead k t) 0).toNat
      ·grind
      ·rw [xp h3,xp (show ¬(i+(lead k t+1)=9/\1<(t.getD (lead k t) 0).toNat) by omega)];rw [yQ,hor,yH]
       grind
  ·have e:lead (10 - i) (c::t)=0:=by rw [hk,lead,xp hc]
   rw [e];simp only [yw,ye,List.getD_cons_zero];rw [xp (show ¬i=10 by omega),xp (show ¬0=t.length+1 by omega)];by_cases h9:i=9/\1<c.toNat
   ·grind
   ·rw [xp h9,xp h9,xq (show c.toNat<128 by omega)];simp [hor]
theorem zwK (x y:List UInt8):hor (x++y)=hor x+128^x.length*hor y:=by
 induction x with
 | nil=>simp [hor]
 | cons c t ih=>simp only [yj,hor,ih,ye,yH,Nat.mul_add];rw [yT (128^t.length) 128,qW];omega
theorem zEy (l:List UInt8):hor l<128^l.length:=by
 induction l with
 | nil=>simp [hor]
 | cons c t ih=>simp only [hor,ye,yH];omega
theorem zIQ (l:List UInt8) (j:Nat):hor (l.drop j)<=hor l:=by
 induction l generalizing j with
 | nil=>simp
 | cons c t ih=>
  cases j with
  | zero=>exact xw _
  | succ j=>have:=ih j;simp only [List.drop_succ_cons,hor];omega
theorem zHN (b:List UInt8) (a:Nat) (hb:b.length<=1152921504606846976):∀(k n:Nat),n+k=10->a+n<=b.length->zcL a b n=some ((n+lead k (b.drop (a+n)):Nat):Int):=by
 intro k
 induction k with
 | zero=>
  intro n hn ha;refine zfN ?_;unfold zbl;rw [uL];by_cases h1:a+n<b.length
  ·rw [uJ,uK,sb,uH];rfl
  ·rw [uK,sb,uH];rfl
 | succ k ih=>
  intro n hn ha;by_cases h1:a+n<b.length
  ·have hd:b.drop (a+n)=b[a+n]::b.drop (a+(n+1)):=yl h1;have kw:zbl a b n=if 128<=b[a+n].toNat then some (.inl ((n+1:Nat):Int)) else some (.inr (n:Int)):=by
    unfold zbl;rw [uL,uL,uJ,uJ,zK (show (a:Int)+n=((a+n:Nat):Int) by push_cast;rfl) h1,sb,sb]
    grind
   rw [hd,lead];by_cases h2:128<=b[a+n].toNat
   ·rw [xq h2] at kw|-;rw [zmF kw,ih (n+1) (by omega) (by omega)];congr 2;omega
   ·rw [xp h2] at kw|-;exact zfN kw
  ·have hd:b.drop (a+n)=[]:=yy (by omega);rw [hd];refine zfN ?_;unfold zbl;rw [uL,uK,sb,uH];rfl
theorem zHO (b:List UInt8) (a m:Nat) (hb:b.length<=1152921504606846976) (hm:a+m<=b.length) (hh:hor ((b.drop a).take m)<18446744073709551616):
  ∀(j:Nat),j<=m->zcM a b (hor (((b.drop a).take m).drop j)) ((j:Int) - 1)=some ((hor ((b.drop a).take m):Nat):Int):=by
 intro j
 induction j with
 | zero=>
  intro _;refine zmH ?_;rfl
 | succ j ih=>
  intro hj;have hL:((b.drop a).take m).length=m:=by simp;omega
  have hd:((b.drop a).take m).drop j=((b.drop a).take m)[j]'(by omega)::((b.drop a).take m).drop (j+1):=yl (by omega);have hc:((b.drop a).take m)[j]'(by omega)=b[a+j]'(by omega):=by simp
  have h1:=zIQ ((b.drop a).take m) j;rw [hd,hor,hc] at h1;have h2:=(b[a+j]'(by omega)).toNat_lt;refine (zmG (wv':=(hor (((b.drop a).take m).drop j):Nat)) (i':=(j:Int) - 1) ?_).trans (ih (by omega));unfold zcK;rw [itT (by simp),uL,zK (show (a:Int)+(((j+1:Nat):Int) - 1)=((a+j:Nat):Int) by push_cast;omega) (by omega),sb,uL,hd,hor,hc]
  grind [wrap_u64]
theorem zKF (hn:n<=9) (hC:C<256) (h9:¬(n=9/\1<C)) (hX:X<128^n):X+128^n*(C%128)<18446744073709551616:=by
 by_cases h9':n=9
 ·subst h9';omega
 ·have h5:128^n<=128^8:=pl (by omega) (by omega);have h6:C%128<=127:=by omega
  have:=pL h5 h6;omega
theorem zrW (b:List UInt8) (a:Nat) (hb:b.length<=1152921504606846976) (ha:a<=b.length):zaD b a=some (rd (b.drop a)):=by
 unfold zaD;have h1:=zHN b a hb 10 0 rfl (by omega);simp only [xL,yw] at h1;have h1':zcL a b 0=some ((lead 10 (b.drop a):Nat):Int):=h1;rw [h1',sb];have hle:=zAD 10 (b.drop a);have wY:(b.drop a).length=b.length - a:=by simp
 -- the ten bytes that count
 have htake:∀(k:Nat) (l:List UInt8),lead k (l.take k)=lead k l:=by
  intro k
  induction k with
  | zero=>intro l;rfl
  | succ k ih=>intro l;cases l with
   | nil=>rfl
   | cons c t=>simp only [yQ,lead,ih]
 have hs:=zzK ((b.drop a).take 10) 0 0 (by simp;omega) (by omega);simp only [xL,qw,htake,Nat.pow_zero,yN] at hs;unfold rd;rw [hs];by_cases h10:lead 10 (b.drop a)=10
 ·rw [xq h10,uJ];rfl
 ·rw [xp h10,uK,uL];by_cases hl:lead 10 (b.drop a)=(b.drop a).length
  ·rw [xq (show lead 10 (b.drop a)=((b.drop a).take 10).length by rw [xO];omega),uJ];rfl
  ·rw [xp (show ¬lead 10 (b.drop a)=((b.drop a).take 10).length by rw [xO];omega),uK];have wS:a+lead 10 (b.drop a)<b.length:=by omega
   have hg:((b.drop a).take 10).getD (lead 10 (b.drop a)) 0=b[a+lead 10 (b.drop a)]:=by
    grind
   rw [hg,qd,yO (by omega)];have hc:=(b[a+lead 10 (b.drop a)]).toNat_lt;have hg2:(if (((lead 10 (b.drop a):Nat):Int)==9)=true then (idx b ((a:Int)+((lead 10 (b.drop a):Nat):Int))>>=fun x2=>some (decide ((x2.toNat:Int)>1))) else some false)=some (decide (lead 10 (b.drop a)=9/\1<(b[a+lead 10 (b.drop a)]).toNat)):=by
    grind [zK,sb]
   rw [hg2,sb];by_cases h9:lead 10 (b.drop a)=9/\1<(b[a+lead 10 (b.drop a)]).toNat
   ·rw [xq h9,itT (by simpa using h9)];rfl
   ·rw [xp h9,itF (xT h9)];have hbd:hor ((b.drop a).take (lead 10 (b.drop a)+1))<18446744073709551616:=by
     have hsp:(b.drop a).take (lead 10 (b.drop a)+1)=(b.drop a).take (lead 10 (b.drop a))++[b[a+lead 10 (b.drop a)]]:=by
      rw [up,qu,xM wS];rfl
     rw [hsp,zwK];have h3:=zEy ((b.drop a).take (lead 10 (b.drop a)));have h4:((b.drop a).take (lead 10 (b.drop a))).length=lead 10 (b.drop a):=by simp;omega
     rw [h4] at h3|-;simp only [hor,Nat.mul_zero,yw];exact zKF (by omega) (by omega) h9 h3
    have h2:=zHO b a (lead 10 (b.drop a)+1) hb (by omega) hbd (lead 10 (b.drop a)+1) (xw _);have hz:((b.drop a).take (lead 10 (b.drop a)+1)).drop (lead 10 (b.drop a)+1)=[]:=yy (by simp;omega);rw [hz] at h2;have e3:(((lead 10 (b.drop a)+1:Nat):Int) - 1)=((lead 10 (b.drop a):Nat):Int):=by push_cast;omega
    rw [e3] at h2;have h2':zcM a b 0 ((lead 10 (b.drop a):Nat):Int)=some ((hor ((b.drop a).take (lead 10 (b.drop a)+1)):Nat):Int):=h2;rw [h2',sb,uL];simp [rdR]
theorem zzj:∀(k:Nat) (l:List UInt8),lead k (l.take k)=lead k l
 | 0,_=>rfl
 | _+1,[]=>rfl
 | k+1,c::t=>by simp only [yQ,lead,zzj k t]
theorem zzi:∀(k:Nat) (l:List UInt8),(∀y∈l.take (lead k l),128<=y.toNat)/\∀(h:lead k l<l.length),lead k l<k->(l[lead k l]).toNat<128
 | 0,_=>⟨fun y hy=>by simp [lead] at hy,fun _ h=>by omega⟩
 | _+1,[]=>⟨fun y hy=>by simp at hy,fun h=>by simp at h⟩
 | k+1,c::t=>by
  obtain ⟨h1,h2⟩:=zzi k t;by_cases hc:128<=c.toNat
  ·have e:lead (k+1) (c::t)=lead k t+1:=by rw [lead,xq hc]
   grind
  ·have e:lead (k+1) (c::t)=0:=by rw [lead,xp hc]
   grind
theorem zlz (b:List UInt8):rd b=(0,0,4)\/(rd b=(0,0,3)/\b.length<=9)\/
  ∃x c y,b=x++c::y/\(∀z∈x,128<=z.toNat)/\c.toNat<128/\x.length<=9/\hor (x++[c])<18446744073709551616/\rd b=(((hor (x++[c]):Nat):Int),((x.length+1:Nat):Int),0):=by
 have hle:=zAD 10 b;have hs:=zzK (b.take 10) 0 0 (by simp;omega) (by omega);simp only [xL,qw,zzj,Nat.pow_zero,yN] at hs;unfold rd;rw [hs];by_cases h10:lead 10 b=10
 ·rw [xq h10];exact .inl rfl
 ·rw [xp h10];by_cases hl:lead 10 b=(b.take 10).length
  ·rw [xq hl];refine .inr (.inl ⟨rfl,?_⟩);rw [xO] at hl;omega
  ·rw [xp hl];rw [xO] at hl;have wS:lead 10 b<b.length:=by omega
   have hg:(b.take 10).getD (lead 10 b) 0=b[lead 10 b]:=by
    grind
   rw [hg,qd,yO (by omega)];have hc:=(b[lead 10 b]).toNat_lt;by_cases h9:lead 10 b=9/\1<(b[lead 10 b]).toNat
   ·rw [xq h9];exact .inl rfl
   ·rw [xp h9];obtain ⟨hf1,hf2⟩:=zzi 10 b;have hsp:b.take (lead 10 b+1)=b.take (lead 10 b)++[b[lead 10 b]]:=by
     simp_all
    have wY:(b.take (lead 10 b)).length=lead 10 b:=by rw [xO];omega
    refine .inr (.inr ⟨b.take (lead 10 b),b[lead 10 b],b.drop (lead 10 b+1),?_,hf1,hf2 wS (by omega),by omega,?_,?_⟩)
    ·simp_all
    ·rw [zwK];have h3:=zEy (b.take (lead 10 b));rw [wY] at h3|-;simp only [hor,Nat.mul_zero,yw];exact zKF (by omega) (by omega) h9 h3
    ·rw [hsp,wY];simp [rdR]
theorem zwr (h:v<128):enc v=[UInt8.ofNat v]:=by rw [enc,xq h]
theorem zAt (h:¬v<128):enc v=UInt8.ofNat (128+v%128)::enc (v/128):=by rw [enc,xp h]
theorem zhV:∀(v:Nat),(enc v).length=lenN v:=by
 intro v
 induction v using Nat.strongRecOn with
 | _ v ih=>
  grind [zwr,zdD,zAt,zdl]
theorem zkx {v:Nat} (h:v<18446744073709551616):1<=(enc v).length/\(enc v).length<=10:=by
 rw [zhV];exact ⟨znu v,zsJ h⟩
theorem zKg:∀(v i acc:Nat) (more:List UInt8),v*128^i<18446744073709551616->scan i acc (enc v++more)= .inr (((acc+v*128^i:Nat):Int),((i+(enc v).length:Nat):Int),0):=by
 intro v
 induction v using Nat.strongRecOn with
 | _ v ih=>
  intro i acc more hv;have h9:i=9->v<=1:=fun h=>by
   grind
  by_cases h:v<128
  ·have e:(UInt8.ofNat v).toNat=v:=by simp;omega
   rw [zwr h,uq,scan,e,xp (by omega),xq h,qj h];rfl
  ·have e:(UInt8.ofNat (128+v%128)).toNat=128+v%128:=by simp;omega
   rw [zAt h,yj,scan,e,xp (by omega),xp (by omega)];have h2:v/128*128^(i+1)<=v*128^i:=by
    rw [yH,yT (128^i) 128,<-qW];exact yC _ (by omega)
   rw [ih (v/128) (by omega) (i+1) _ _ (by omega)];have e3:acc+(128+v%128)%128*128^i+v/128*128^(i+1)=acc+v*128^i:=by
    have e5:v/128*128^(i+1)=v/128*128*128^i:=by rw [yH,yT (128^i) 128,<-qW]
    rw [e5,show (128+v%128)%128=v%128 by omega,qR,<-Nat.add_mul,show v%128+v/128*128=v by omega]
   grind
theorem zxw {v:Nat} (more:List UInt8) (h:v<18446744073709551616):rd (enc v++more)=((v:Int),(((enc v).length:Nat):Int),0):=by
 unfold rd;rw [qQ,yM (zkx h).2,zKg v 0 0 _ (by simpa using h)];simp [rdR]
theorem zKk (v:Nat):shrI .u64 (v:Int) 7=((v/128:Nat):Int):=ztk (k:= .u64) (a:=v) (b:=7) (by simp [IntKind.bits])
theorem zJq:∀(w n:Nat),n+w<9223372036854775808+w->n+lz w<=1152921504606846976->zjR w n=some ((n+lz w:Nat):Int):=by
 intro w
 induction w using Nat.strongRecOn with
 | _ w ih=>
  intro n hn hl;by_cases h:w=0
  ·subst h;refine zvj ?_;rfl
  ·have e:=zNy h;refine (zvi (wv2':=((w/128:Nat):Int)) (n':=((n+1:Nat):Int)) ?_).trans ?_
   ·grind [zih,sb,wrap_i64,zKk]
   ·rw [ih (w/128) (by omega) (n+1) (by omega) (by omega)];congr 2;omega
theorem zJp {v:Nat} (h:v<18446744073709551616):znh (v:Int)=some ((lenN v:Nat):Int):=by
 unfold znh;have h1:=zNx v;have h2:=zsJ h;have h3:=zJq (v/128) 1 (by omega) (by omega)
 grind [zKk,sb]
theorem zNE:∀n<256,n||| 128=n%128+128:=by decide+kernel
theorem zJN:∀(v:Nat) (l:List UInt8),v<18446744073709551616->l.length+(enc v).length<=1152921504606->∃(v':Nat) (l':List UInt8),zhU (v:Int) l=some ((v':Int),l')/\v'<128/\l'++[UInt8.ofNat v']=l++enc v:=by
 intro v
 induction v using Nat.strongRecOn with
 | _ v ih=>
  intro l hv hl;by_cases h:v<128
  ·refine ⟨v,l,ztv ?_,h,by rw [zwr h]⟩;unfold zfU
   grind
  ·rw [zAt h,ye] at hl;obtain ⟨v',l',h1,h2,h3⟩:=ih (v/128) (by omega) (l++[UInt8.ofNat (128+v%128)]) (by omega) (by simp;omega);refine ⟨v',l',?_,h2,by rw [h3,zAt h];simp⟩;refine (ztu (wv2':=((v/128:Nat):Int)) (l':=l++[UInt8.ofNat (128+v%128)]) ?_).trans h1;unfold zfU;have e1:(v:Int)%256=((v%256:Nat):Int):=by omega
   have e2:orI .u8 ((v%256:Nat):Int) 128=((v%128+128:Nat):Int):=by
    have:=zvM (k:= .u8) rfl (a:=v%256) (b:=128) (by simp [IntKind.bits];omega) (by simp [IntKind.bits])
    grind [zNE]
   grind [zoF,zhr,sb,zcF,zKk]
theorem zEW {v:Nat} (b:List UInt8) (h:v<18446744073709551616) (hb:b.length<=1099511627776):zie b (v:Int)=some (b++enc v):=by
 unfold zie;have h1:=zsJ h;have h2:=(zkx h).2;rw [zJp h,sb,uL,zLI (by omega) (by omega),sb,zcF (by simp;omega),sb];obtain ⟨v',l',h3,h4,h5⟩:=zJN v b h (by omega);have wY:l'.length+1=b.length+(enc v).length:=by have:=congrArg List.length h5;simpa using this
 grind [sb,zoF,zhr,zcF]
def zbx (n w:Int):Bool:=decide (1<=n/\n<=536870911/\(w=0\/w=1\/w=2\/w=5))
def tgR (r:Int×Int×Int):Int×Int×Int×Int:=
 if r.2.2≠0 then (0,0,0,r.2.2) else if 4294967295<r.1\/zbx (r.1/8) (r.1%8)=false then (0,0,0,5) else (r.1/8,r.1%8,r.2.1,0)
def tg (l:List UInt8):Int×Int×Int×Int:=tgR (rd l)
def tW (n w:Int):Nat:=(8*n+w).toNat
theorem zeC :zbx n w=true↔1<=n/\n<=536870911/\(w=0\/w=1\/w=2\/w=5):=by simp [zbx]
theorem zDh (n w:Int):zeY n w=some (zbx n w):=by
 unfold zeY zbx;simp [Bool.decide_and,Bool.decide_or,Bool.beq_eq_decide_eq]
theorem zgP (l:List UInt8):0<=(rd l).1/\(rd l).1<18446744073709551616/\0<=(rd l).2.1/\(rd l).2.1<=10/\(rd l).2.1<=l.length/\((rd l).2.2=0\/(rd l).2.2=3\/(rd l).2.2=4)/\((rd l).2.2=0->1<=(rd l).2.1):=by
 rcases zlz l with h| ⟨h,_⟩| ⟨x,c,y,e,_,_,hl,hv,h⟩
 ·rw [h];simp
 ·rw [h];simp
 ·have:l.length=x.length+1+y.length:=by rw [e];simp;omega
  rw [h];refine ⟨?_,?_,?_,?_,?_,.inl rfl,fun _=>?_⟩<;>simp only<;>omega
theorem zGz (x:List UInt8) (c:UInt8) (y:List UInt8) (hx:∀z∈x,128<=z.toNat) (hc:c.toNat<128) (hl:x.length<=9) (hv:hor (x++[c])<18446744073709551616):
  rd (x++c::y)=(((hor (x++[c]):Nat):Int),((x.length+1:Nat):Int),0):=by
 have key:∀(x:List UInt8) (z:List UInt8) (i acc:Nat),(∀z∈x,128<=z.toNat)->i+x.length<=9->acc+hor (x++[c])*128^i<18446744073709551616->scan i acc (x++c::z)= .inr (((acc+hor (x++[c])*128^i:Nat):Int),((i+x.length+1:Nat):Int),0):=by
  intro x
  induction x with
  | nil=>
   intro z i acc _ hi hv;have e1:hor ([]++[c])=c.toNat:=by simp [hor];omega
   rw [e1] at hv|-;rw [xG,scan,xp,xq hc,qj hc]
   ·rfl
   ·rintro ⟨rfl,h2⟩;have:=yC (128^9) (show 2<=c.toNat by omega);omega
  | cons d x ih=>
   intro z i acc hx hi hv;simp only [ye] at hi;have hd:=hx d xr;have e5:acc+hor ((d::x)++[c])*128^i=acc+d.toNat%128*128^i+hor (x++[c])*128^(i+1):=by
    rw [yj,hor,yH,Nat.add_mul,yT (128^i) 128,<-qW,yT (hor (x++[c])) 128];omega
   rw [e5] at hv|-;rw [yj,scan,xp (by omega),xp (by omega),ih z (i+1) _ (fun z hz=>hx z (xt _ hz)) (by omega) hv,ye];congr 3;omega
 unfold rd;have e2:(x++c::y).take 10=x++c::y.take (9 - x.length):=by
  rw [qQ,yM (by omega),show 10 - x.length=(9 - x.length)+1 by omega,yQ]
 rw [e2,key x _ 0 0 hx (by omega) (by simpa using hv)];simp [rdR]
theorem zqM (l m:List UInt8) (h:(rd l).2.2=0):rd (l++m)=rd l:=by
 rcases zlz l with h'| ⟨h',_⟩| ⟨x,c,y,e,hx,hc,hl,hv,h'⟩
 ·rw [h'] at h;cases h
 ·rw [h'] at h;cases h
 ·rw [h',e,yk,yj,zGz x c _ hx hc hl hv]
theorem zzR (l m:List UInt8) (h:(rd l).2.2=0):tg (l++m)=tg l:=by unfold tg;rw [zqM l m h]
theorem zBr (h:r.2.2≠0):tgR r=(0,0,0,r.2.2):=xq h
theorem zqn (h:r.2.2=0) (h2:4294967295<r.1\/zbx (r.1/8) (r.1%8)=false):tgR r=(0,0,0,5):=by unfold tgR;rw [xp (by simp [h]),xq h2]
theorem zBs (h:r.2.2=0) (h2:¬(4294967295<r.1\/zbx (r.1/8) (r.1%8)=false)):tgR r=(r.1/8,r.1%8,r.2.1,0):=by unfold tgR;rw [xp (by simp [h]),xp h2]
theorem zxU (l:List UInt8):(∃c,tg l=(0,0,0,c)/\(c=3\/c=4\/c=5))\/∃n w k,tg l=(n,w,k,0)/\zbx n w=true/\1<=k/\k<=10/\k<=l.length/\rd l=(8*n+w,k,0):=by
 obtain ⟨h1,h2,h3,h4,h5,h6,h7⟩:=zgP l;unfold tg;by_cases h:(rd l).2.2=0
 ·by_cases hg:4294967295<(rd l).1\/zbx ((rd l).1/8) ((rd l).1%8)=false
  ·exact .inl ⟨5,zqn h hg,by omega⟩
  ·refine .inr ⟨_,_,_,zBs h hg,?_,h7 h,h4,h5,?_⟩
   ·cases ht:zbx ((rd l).1/8) ((rd l).1%8)
    ·exact absurd (.inr ht) hg
    ·rfl
   ·refine pm ?_ (pm rfl h);simp only;omega
 ·exact .inl ⟨_,zBr h,by omega⟩
theorem zAZ (b:List UInt8) (a:Nat) (hb:b.length<=1152921504606846976) (ha:a<=b.length):zfA b a=some (tg (b.drop a)):=by
 unfold zfA tg;obtain ⟨h1,h2,h3,h4,h5,h6,h7⟩:=zgP (b.drop a);rw [zrW b a hb ha,sb];by_cases h:(rd (b.drop a)).2.2=0
 ·rw [itF (by simpa using h)];have e1:i64.wrap (u64.wrap (Int.tdiv (rd (b.drop a)).1 8))=(rd (b.drop a)).1/8:=by
   rw [uD h1,wrap_u64,yL (by omega) (by omega),uL]
  have e2:i64.wrap (Int.tmod (rd (b.drop a)).1 8)=(rd (b.drop a)).1%8:=by
   rw [qK h1,uL]
  simp only [e1,e2,zDh,sb];by_cases hg:4294967295<(rd (b.drop a)).1
  ·rw [itT (by simpa using hg),sb,uG,zqn h (.inl hg)]
  ·rw [itF (by simpa using hg),sb];cases ht:zbx ((rd (b.drop a)).1/8) ((rd (b.drop a)).1%8)
   ·rw [uG,zqn h (.inr ht)]
   ·rw [uH,zBs h (by simp [ht];omega)]
 ·rw [itT (by simpa using h),zBr h]
theorem zvc {n w:Int} (h:zbx n w=true):((tW n w:Nat):Int)=8*n+w/\tW n w<4294967296:=by
 have:=zeC.1 h;unfold tW;omega
theorem zLv {v:Nat} (h:v<34359738368):lenN v<=5:=by
 by_cases h1:v<128
 ·rw [zdD h1];omega
 ·rw [zdl h1];by_cases h2:v/128<128
  ·rw [zdD h2];omega
  ·rw [zdl h2];by_cases h3:v/128/128<128
   ·rw [zdD h3];omega
   ·rw [zdl h3];by_cases h4:v/128/128/128<128
    ·rw [zdD h4];omega
    ·rw [zdl h4,zdD (by omega)];omega
theorem zNW {n w:Int} (more:List UInt8) (h:zbx n w=true):tg (enc (tW n w)++more)=(n,w,((enc (tW n w)).length:Int),0):=by
 have hr:=zeC.1 h;obtain ⟨e,wS⟩:=zvc h;unfold tg;rw [zxw more (by omega)];have e1:((tW n w:Nat):Int)/8=n:=by omega
 have e2:((tW n w:Nat):Int)%8=w:=by omega
 rw [zBs rfl (by simp only [e1,e2,h];simp;omega)];simp only [e1,e2]
set_option linter.unusedVariables false
abbrev Rec:=zj
def zec (w:Int) (k:Nat) (m:List UInt8):Int⊕(Nat×Nat):=
 if w=0 then (if (rd m).2.2≠0 then .inl (rd m).2.2 else .inr (k,k+(rd m).2.1.toNat))
 else if w=2 then (if (rd m).2.2≠0 then .inl (rd m).2.2 else if (m.length:Int) - (rd m).2.1<(rd m).1 then .inl 3 else .inr (k+(rd m).2.1.toNat,k+(rd m).2.1.toNat+(rd m).1.toNat))
 else if m.length<(if w=5 then 4 else 8) then .inl 3 else .inr (k,k+(if w=5 then 4 else 8))
def rec5 (l:List UInt8):Int⊕(Int×Int×Nat×Nat):=
 if (tg l).2.2.2≠0 then .inl (tg l).2.2.2 else match zec (tg l).2.1 (tg l).2.2.1.toNat (l.drop (tg l).2.2.1.toNat) with
  | .inl c=> .inl c
  | .inr p=> .inr ((tg l).1,(tg l).2.1,p.1,p.2)
theorem zjV (w:Int) (k:Nat) (m:List UInt8):(∃c,zec w k m= .inl c/\(c=3\/c=4))\/
  ∃a t,zec w k m= .inr (a,t)/\k<=a/\a<=t/\t<=k+m.length/\
   (w=0/\a=k/\(rd m).2.2=0/\((t - k:Nat):Int)=(rd m).2.1/\k<t\/w=2/\(rd m).2.2=0/\((a - k:Nat):Int)=(rd m).2.1/\((t - a:Nat):Int)=(rd m).1\/w≠0/\w≠2/\a=k/\t=k+(if w=5 then 4 else 8)):=by
 obtain ⟨h1,h2,h3,h4,h5,h6,h7⟩:=zgP m;unfold zec;by_cases w0:w=0
 ·grind
 ·grind
theorem zAi (w:Int) (k:Nat) (m z:List UInt8) (h:zec w k m= .inr p):zec w k (m++z)= .inr p:=by
 unfold zec at h|-
 grind [zqM]
theorem zia (l:List UInt8):(∃c,rec5 l= .inl c/\(c=3\/c=4\/c=5))\/
  ∃(n w:Int) (k a t:Nat),rec5 l= .inr (n,w,a,t)/\tg l=(n,w,(k:Int),0)/\zbx n w=true/\zec w k (l.drop k)= .inr (a,t)/\1<=k/\k<=l.length/\k<=a/\a<=t/\t<=l.length/\rd l=(8*n+w,(k:Int),0):=by
 rcases zxU l with ⟨c,h,hc⟩| ⟨n,w,k,h,hr,k1,k2,k3,hrd⟩
 ·grind [rec5]
 ·obtain ⟨k,rfl⟩:∃j:Nat,k=j:=⟨k.toNat,by omega⟩
  have e:rec5 l=match zec w k (l.drop k) with
   | .inl c=> .inl c
   | .inr p=> .inr (n,w,p.1,p.2):=by unfold rec5;rw [h];simp
  rcases zjV w k (l.drop k) with ⟨c,h2,hc⟩| ⟨a,t,h2,g1,g2,g3,_⟩
  ·grind
  grind
theorem zuP (l z:List UInt8) (h:rec5 l= .inr r):rec5 (l++z)= .inr r:=by
 rcases zia l with ⟨c,h',_⟩| ⟨n,w,k,a,t,h',htg,_,hb,_,hk,_,_,_,hrd⟩
 ·grind
 grind [rec5,zzR,zAi]
def zrec:Rec:=⟨0,0,0,0,0⟩
def zbJ (b:List UInt8) (at5:Int):Rec×Int:=if at5<0\/at5>=b.length then (zrec,2) else match rec5 (b.drop at5.toNat) with
 | .inl c=>(zrec,c)
 | .inr (n,w,a,t)=>(⟨n,w,at5,at5+a,at5+t⟩,0)
theorem zDg (hb:b.length<=140737488355328) (at5:Int):zem b at5=some (zbJ b at5):=by
 unfold zem zbJ;by_cases h:at5<0\/at5>=b.length
 ·rw [itT (by simpa using h),xq h];rfl
 ·rw [itF (by simpa using h),xp h];obtain ⟨p,rfl⟩:∃p:Nat,at5=p:=⟨at5.toNat,by omega⟩;rw [zAZ b p (by omega) (by omega),sb,xD];have hdl:(b.drop p).length=b.length - p:=by simp
  rcases zxU (b.drop p) with ⟨c,ht,hc⟩| ⟨n,w,k,ht,hr,k1,k2,k3,hrd⟩
  ·have e:rec5 (b.drop p)= .inl c:=by unfold rec5;rw [ht,xq (by simp only;omega)]
   rw [e,ht,uJ];rfl
  ·obtain ⟨k,rfl⟩:∃j:Nat,k=j:=⟨k.toNat,by omega⟩
   have e:rec5 (b.drop p)=match zec w k ((b.drop p).drop k) with
    | .inl c=> .inl c
    | .inr p=> .inr (n,w,p.1,p.2):=by unfold rec5;rw [ht];simp
   have hdd:(b.drop p).drop k=b.drop (p+k):=by rw [yh]
   have hml:(b.drop (p+k)).length=b.length - (p+k):=by simp
   obtain ⟨h1,h2,h3,h4,h5,h6,h7⟩:=zgP (b.drop (p+k));rw [e,ht,uI,hdd];have ew:i64.wrap ((p:Int)+k)=((p+k:Nat):Int):=by rw [uL];push_cast;rfl
   have er:i64.wrap ((b.length:Int) - ((p+k:Nat):Int))=((b.length - (p+k):Nat):Int):=by rw [uL];omega
   simp only [ew,er];have hw:=(zeC.1 hr).2.2;rcases hw with rfl| rfl| rfl| rfl
   ·-- a varint
    rw [uH,sb,uG,zrW b (p+k) (by omega) (by omega),sb];by_cases g:(rd (b.drop (p+k))).2.2=0
    ·grind [zec,sb,wrap_i64]
    ·have hb5:zec 0 k (b.drop (p+k))= .inl (rd (b.drop (p+k))).2.2:=by unfold zec;rw [xq rfl,xq g]
     rw [itT (by simpa using g),sb,hb5];rfl
   ·rw [uH,sb,uH,sb];simp only;rw [uH,sb];unfold zec;rw [xp (by omega),xp (by omega)];simp only;by_cases g:b.length - (p+k)<8
    ·rw [uJ,xq (by simpa [hml] using g)];rfl
    grind [wrap_i64]
   ·rw [uH,sb,uH,sb];simp only;rw [uG,zrW b (p+k) (by omega) (by omega),sb];by_cases g:(rd (b.drop (p+k))).2.2=0
    ·have:=h7 g;have e1:i64.wrap (((b.length - (p+k):Nat):Int) - (rd (b.drop (p+k))).2.1)=((b.drop (p+k)).length:Int) - (rd (b.drop (p+k))).2.1:=by rw [uL,hml]
     have e2:u64.wrap (((b.drop (p+k)).length:Int) - (rd (b.drop (p+k))).2.1)=((b.drop (p+k)).length:Int) - (rd (b.drop (p+k))).2.1:=by rw [wrap_u64,yL (by omega) (by omega)]
     rw [itF (by simpa using g)];simp only [e1,e2];by_cases g2:((b.drop (p+k)).length:Int) - (rd (b.drop (p+k))).2.1<(rd (b.drop (p+k))).1
     ·have hb5:zec 2 k (b.drop (p+k))= .inl 3:=by unfold zec;rw [xp (by omega),xq rfl,xp (by simpa using g),xq g2]
      rw [itT (by simpa using g2),sb,hb5];rfl
     grind [zec,sb,wrap_i64]
    ·have hb5:zec 2 k (b.drop (p+k))= .inl (rd (b.drop (p+k))).2.2:=by unfold zec;rw [xp (by omega),xq rfl,xq g]
     rw [itT (by simpa using g),sb,hb5];rfl
   ·rw [uG,sb,uH,sb];simp only;rw [uH,sb];unfold zec;rw [xp (by omega),xp (by omega)];simp only;by_cases g:b.length - (p+k)<4
    ·rw [uJ,xq (by simpa [hml] using g)];rfl
    grind [wrap_i64]
theorem zFc {b:List UInt8} (hb:b.length<=1048576) (at5:Int):zem b at5=some (zbJ b at5):=zDg (by omega) at5
def spl (base:Nat) (l:List UInt8):List Rec×Option (Nat×Int):=
 if hl:l=[] then ([],none) else match h:rec5 l with
  | .inl c=>([],some (base,c))
  | .inr (n,w,a,t)=>(⟨n,w,base,(base+a:Nat),(base+t:Nat)⟩::(spl (base+t) (l.drop t)).1,(spl (base+t) (l.drop t)).2)
termination_by l.length
decreasing_by
 all_goals
  rcases zia l with ⟨c',h',_⟩| ⟨n',w',k',a',t',h',_,_,_,g1,g2,g3,g4,g5,_⟩
  ·rw [h'] at h;cases h
  ·rw [h'] at h;cases h;simp only [xW];omega
theorem zdZ (base:Nat):spl base []=([],none):=by rw [spl,dif_pos rfl]
theorem zfY (hl:l≠[]) (h:rec5 l= .inl c):spl base l=([],some (base,c)):=by
 rw [spl,dif_neg hl]
 grind
theorem zcz (hl:l≠[]) (h:rec5 l= .inr (n,w,a,t)):
  spl base l=(⟨n,w,base,(base+a:Nat),(base+t:Nat)⟩::(spl (base+t) (l.drop t)).1,(spl (base+t) (l.drop t)).2):=by
 rw [spl,dif_neg hl];split
 ·grind
 ·grind
theorem zha (P:Nat->List UInt8->Prop) (h0:∀base,P base []) (he:∀base l c,l≠[]->rec5 l= .inl c->(c=3\/c=4\/c=5)->P base l)
  (hc:∀base l (n w:Int) (a t:Nat),l≠[]->rec5 l= .inr (n,w,a,t)->zbx n w=true->1<=a->a<=t->t<=l.length->P (base+t) (l.drop t)->P base l) (base:Nat) (l:List UInt8):P base l:=by
 generalize hn:l.length=m
 induction m using Nat.strongRecOn generalizing base l with
 | _ m ih=>
  by_cases hl:l=[]
  ·grind
  ·rcases zia l with ⟨c,h,hc'⟩| ⟨n,w,k,a,t,h,_,hr,_,g1,g2,g3,g4,g5,_⟩
   ·grind
   ·exact hc base l n w a t hl h hr (by omega) g4 g5 (ih _ (by simp only [xW];omega) _ _ rfl)
theorem zMb (base:Nat) (l:List UInt8):(spl base l).1.length<=l.length:=by
 refine zha (fun base l=>(spl base l).1.length<=l.length) ?_ ?_ ?_ base l
 ·intro base;rw [zdZ];simp
 ·intro base l c hl h _;rw [zfY hl h];simp
 ·intro base l n w a t hl h _ g1 g2 g3 ih;rw [zcz hl h]
  grind
theorem zKn (base:Nat) (l:List UInt8):∀p c,(spl base l).2=some (p,c)->(c=3\/c=4\/c=5)/\base<=p/\p<base+l.length:=by
 refine zha (fun base l=>∀p c,(spl base l).2=some (p,c)->(c=3\/c=4\/c=5)/\base<=p/\p<base+l.length) ?_ ?_ ?_ base l
 ·intro base p c h;rw [zdZ] at h;cases h
 ·intro base l c' hl h hc p c h2;rw [zfY hl h] at h2;cases h2
  grind
 ·intro base l n w a t hl h _ g1 g2 g3 ih p c h2;rw [zcz hl h] at h2
  grind
def zlJ (d:Nat) (r:Rec):Rec:=⟨r.Number,r.Wire,r.From+d,r.At+d,r.To+d⟩
theorem zzM (d:Nat) (base:Nat) (l:List UInt8):spl (base+d) l=((spl base l).1.map (zlJ d),(spl base l).2.map fun p=>(p.1+d,p.2)):=by
 refine zha (fun base l=>spl (base+d) l=((spl base l).1.map (zlJ d),(spl base l).2.map fun p=>(p.1+d,p.2))) ?_ ?_ ?_ base l
 ·intro base;rw [zdZ,zdZ];rfl
 ·intro base l c hl h _;rw [zfY hl h,zfY hl h];rfl
 ·intro base l n w a t hl h _ g1 g2 g3 ih;rw [zcz hl h,zcz hl h,show base+d+t=base+t+d by omega,ih];simp only [xH,zlJ,yr,yG,zj.mk.injEq,qo,qn];push_cast;omega
theorem zxP (m:List UInt8) (base:Nat) (l:List UInt8):(spl base l).2=none->spl base (l++m)=((spl base l).1++(spl (base+l.length) m).1,(spl (base+l.length) m).2):=by
 refine zha (fun base l=>(spl base l).2=none->spl base (l++m)=((spl base l).1++(spl (base+l.length) m).1,(spl (base+l.length) m).2)) ?_ ?_ ?_ base l
 ·intro base _;rw [zdZ];simp
 ·intro base l c hl h _ h2;rw [zfY hl h] at h2;cases h2
 ·intro base l n w a t hl h _ g1 g2 g3 ih h2;rw [zcz hl h] at h2|-;rw [zcz (by simp [hl]) (zuP l m h),pI g3,ih h2]
  grind
def zbu (w:Int) (v:List UInt8):Bool:=
 if w=0 then decide ((rd v).2.2=0/\(rd v).2.1=v.length) else decide (w=2\/w=1/\v.length=8\/w=5/\v.length=4)
def put5 (n w:Int) (v:List UInt8):List UInt8:=enc (tW n w)++(if w=2 then enc v.length else [])++v
theorem zFa (w:Int) {v:List UInt8} (hv:v.length<=1048576):zfC w v=some (zbu w v):=by
 unfold zfC zbu;by_cases h:w=0
 ·have:=zrW v 0 (by omega) (xC _);rw [yd] at this;have h':zaD v 0=some (rd v):=this;rw [itT (by simpa using h),xq h,h',sb];simp [Bool.decide_and,Bool.beq_eq_decide_eq]
 ·rw [itF (by simpa using h),xp h];congr 1
  grind [zsn]
theorem zLc (v:Nat):1<=(enc v).length:=by rw [zhV];exact znu v
theorem zJQ {n w:Int} {v:List UInt8} (z:List UInt8) (h:zbx n w=true) (hf:zbu w v=true) (hv:v.length<=1048576):
  rec5 (put5 n w v++z)= .inr (n,w,(put5 n w v).length - v.length,(put5 n w v).length):=by
 obtain ⟨_,wS⟩:=zvc h;have hen:=zkx (v:=v.length) (by omega);have e:tg (put5 n w v++z)=(n,w,((enc (tW n w)).length:Int),0):=by
  grind [put5,sb,wrap_i64,zNW]
 have hd:(put5 n w v++z).drop (enc (tW n w)).length=(if w=2 then enc v.length else [])++v++z:=by
  unfold put5
  grind
 unfold rec5;rw [e];simp only [ne_eq,qb,yu,xD];rw [hd];have hw:=(zeC.1 h).2.2;unfold zbu at hf;rcases hw with rfl| rfl| rfl| rfl
 ·rw [xq rfl] at hf;obtain ⟨f1,f2⟩:=yq hf;have hb:zec 0 (enc (tW n 0)).length ((if (0:Int)=2 then enc v.length else [])++v++z)= .inr ((enc (tW n 0)).length,(enc (tW n 0)).length+v.length):=by
   grind [zec,zqM]
  rw [hb];simp [put5]
 ·grind [zec]
 ·grind [zec,zxw]
 ·grind [zec]
theorem zhP (n w:Int) (v:List UInt8):(put5 n w v).length=(enc (tW n w)).length+(if w=2 then (enc v.length).length else 0)+v.length:=by
 unfold put5
 grind
theorem zMc {n w:Int} {v:List UInt8} (h:zbx n w=true) (hf:zbu w v=true) (hv:v.length<=1048576):
  spl 0 (put5 n w v)=([⟨n,w,0,(((put5 n w v).length - v.length:Nat):Int),((put5 n w v).length:Int)⟩],none):=by
 have h1:=zJQ [] h hf hv;rw [xY] at h1;have kl:put5 n w v≠[]:=fun e=>by
  grind [zhP,zLc]
 rw [zcz kl h1,pr,zdZ];simp
theorem zAu {l:List UInt8} {k:Nat} (h:rd l=((rd l).1,(k:Int),0)):(enc (rd l).1.toNat).length<=k:=by
 rcases zlz l with h'| ⟨h',_⟩| ⟨x,c,y,e,hx,hc,hl,hv,h'⟩
 ·grind
 ·grind
 ·rw [h'] at h|-;have hk:(x.length:Int)+1=k:=by have:=congrArg (fun p=>p.2.1) h;simpa using this
  simp only [xD];have h1:=zEy (x++[c]);rw [zhV];have key:∀(j v:Nat),v<128^(j+1)->lenN v<=j+1:=by
   intro j
   induction j with
   | zero=>intro v hv;rw [zdD (by omega)];omega
   | succ j ih=>
    grind [zdD,zdl]
  grind
theorem zxx {l:List UInt8} {n w:Int} {a t:Nat} (h:rec5 l= .inr (n,w,a,t)):
  zbu w ((l.drop a).take (t - a))=true/\((l.drop a).take (t - a)).length=t - a/\(put5 n w ((l.drop a).take (t - a))).length<=t:=by
 rcases zia l with ⟨c,h',_⟩| ⟨n',w',k,a',t',h',_,hr,hb,g1,g2,g3,g4,g5,hrd⟩
 ·grind
 ·rw [h'] at h;cases h;have wY:((l.drop a).take (t - a)).length=t - a:=by simp;omega
  have hm:=zAu (l:=l) (k:=k) (by rw [hrd]);have e1:(rd l).1.toNat=tW n w:=by rw [hrd];rfl
  rw [e1] at hm;refine ⟨?_,wY,?_⟩
  ·rcases zjV w k (l.drop k) with ⟨c,hc,_⟩| ⟨a2,t2,h2,k1,k2,k3,hcase⟩
   ·grind
   ·rw [h2] at hb;cases hb;unfold zbu;rcases hcase with ⟨rfl,rfl,f1,f2,f3⟩| ⟨rfl,f1,f2,f3⟩| ⟨w0,w2,rfl,f1⟩
    ·rw [xq rfl]
     -- what is read is the value alone
     have hv:rd ((l.drop a).take (t - a))=rd (l.drop a):=by
      rcases zlz (l.drop a) with h6| ⟨h6,_⟩| ⟨x,c,y,e,hx,hc,hl,hv,h6⟩
      ·grind
      ·grind
      ·rw [h6] at f2;have e7:t - a=(x++[c]).length:=by simp at f2|-;omega
       grind [zGz]
     grind
    ·rfl
    grind [zeC]
  ·rw [zhP,wY];rcases zjV w k (l.drop k) with ⟨c,hc,_⟩| ⟨a2,t2,h2,k1,k2,k3,hcase⟩
   ·grind
   ·rw [h2] at hb;cases hb;by_cases hw2:w=2
    ·rw [xq hw2];rcases hcase with ⟨rfl,_⟩| ⟨_,f1,f2,f3⟩| ⟨_,w2,_⟩
     ·omega
     ·have hm2:=zAu (l:=l.drop k) (k:=a - k) (by rw [f2];exact pm rfl (pm rfl f1))
      grind
     grind
    grind
theorem zGA (l:List UInt8) {j:Nat} (h:(rd l).2.2=0) (hj:(rd l).2.1<=j):rd (l.take j)=rd l:=by
 rcases zlz l with h6| ⟨h6,_⟩| ⟨x,c,y,e,hx,hc,hl,hv,h6⟩
 ·grind
 ·grind
 ·rw [h6] at hj;have hj':(x++[c]).length<=j:=by simp at hj|-;omega
  have:l.take j=x++c::y.take (j - (x++[c]).length):=by
   rw [e,List.append_cons x c y,qQ,yM hj',<-List.append_cons]
  rw [this,zGz x c _ hx hc hl hv,h6]
theorem zEi (h:zec w k m= .inr (a,t)):zec w k (m.take (t - k))= .inr (a,t):=by
 rcases zjV w k m with ⟨c,hc,_⟩| ⟨a2,t2,h2,k1,k2,k3,hcase⟩
 ·grind
 grind [zec,zGA]
theorem zui (h:rec5 l= .inr (n,w,a,t)):rec5 (l.take t)= .inr (n,w,a,t):=by
 rcases zia l with ⟨c,h',_⟩| ⟨n',w',k,a',t',h',htg,hr,hb,g1,g2,g3,g4,g5,hrd⟩
 ·grind
 ·rw [h'] at h;cases h;have hr1:=zGA l (j:=t) (by rw [hrd]) (by rw [hrd];simp only;omega);have e:tg (l.take t)=(n,w,(k:Int),0):=by
   have:=zzR (l.take t) (l.drop t) (by rw [hr1,hrd]);simp_all
  unfold rec5;rw [e];simp only [ne_eq,qb,yu,xD];rw [qI,zEi hb]
theorem zGG (b:List UInt8) (base:Nat) (l:List UInt8):l=b.drop base->base<=b.length->∀r∈(spl base l).1,∃(n w:Int) (f a t:Nat),r=⟨n,w,(f:Int),((f+a:Nat):Int),((f+t:Nat):Int)⟩/\rec5 (b.drop f)= .inr (n,w,a,t)/\1<=a/\a<=t/\f+t<=b.length:=by
 refine zha (fun base l=>l=b.drop base->base<=b.length->∀r∈(spl base l).1,∃(n w:Int) (f a t:Nat),r=⟨n,w,(f:Int),((f+a:Nat):Int),((f+t:Nat):Int)⟩/\rec5 (b.drop f)= .inr (n,w,a,t)/\1<=a/\a<=t/\f+t<=b.length) ?_ ?_ ?_ base l
 ·intro base _ _ r hr;rw [zdZ] at hr;cases hr
 ·intro base l c hl h _ _ _ r hr;rw [zfY hl h] at hr;cases hr
 ·intro base l n w a t hl h _ g1 g2 g3 ih hld hbase r hr;have wY:l.length=b.length - base:=by rw [hld];simp
  rw [zcz hl h] at hr;rcases xx.1 hr with rfl| hr
  ·grind
  ·exact ih (by rw [hld,yh]) (by omega) r hr
theorem zJG (k:IntKind) (a b:Int):orI k a b=bits .or k a b:=rfl
theorem zCM (w:Int):zjp w=some (w%4294967296):=by unfold zjp;rw [zDW]
theorem zHS (w:Int):zjT w=some (sgnS w):=by
 unfold zjT;rw [zCM,sb,zIk];unfold sgnS;congr 1;split<;>split<;>omega
theorem zIh (h: -2147483648<=n/\n<=2147483647):zjU n=some (zoO n):=by
 unfold zjU;rw [uL,wrap_u64];unfold zoO;congr 1;split<;>omega
theorem zFf (h:0<=w/\w<=18446744073709551615):zeE w=some (sgnS w):=by
 unfold zeE;rw [qK h.1,wrap_i64 (x:=w%4294967296) (by omega)];unfold sgnS;by_cases h2:w%4294967296<2147483648
 ·rw [uK,xq h2]
 ·rw [uJ,xp h2,uL]
theorem zKc (h: -9223372036854775808<=n/\n<=9223372036854775807):zfy n=some (zoO n):=by
 unfold zfy zoO;by_cases h0:0<=n
 ·rw [uJ,xq h0,wrap_u64,yL (by omega) (by omega)]
 ·rw [uK,xp h0];simp (disch:=omega) only [wrap_i64,wrap_u64];congr 1;omega
theorem zCJ {v:List UInt8} {m k j:Nat} (hk:k<=8) (hv:v.length=k) (hj:j<k):zeb v (m:Int) (zhv k m j) (j:Int)=some (.inl (zhv k m (j+1),((j+1:Nat):Int))):=by
 have wY:=zwV (n:=k) (m:=m) (j:=j) (by omega);unfold zeb;have e1:i64.wrap (8*(j:Int))=((8*j:Nat):Int):=by rw [uL];push_cast;rfl
 rw [uJ,e1,zKj,sb,zK rfl (show j<(zhv k m j).length by omega),sb,ztk (by simp [IntKind.bits];omega),zvQ,zoF,zCK,zBO rfl,sb,xD,zCH hj,uL];rfl
theorem zCI {v:List UInt8} {m k:Nat} (hk:k<=8) (hv:v.length=k):∀(d j:Nat),j+d=k->zga v (m:Int) (zhv k m j) (j:Int)=some (zgA k m):=by
 intro d
 induction d with
 | zero=>
  intro j hj;refine zrG ?_;unfold zeb;have:j=k:=by omega
  subst this;rw [uK,zCG]
 | succ d ih=>
  intro j hj;rw [zrF (zCJ hk hv (by omega))];exact ih (j+1) (by omega)
theorem zzk {m:Nat} (n:Int):zjS (m:Int) n=some (zgA (min n.toNat 8) m):=by
 unfold zjS;have e:(if (8:Int)<(if n<0 then 0 else n) then (8:Int) else (if n<0 then 0 else n))=((min n.toNat 8:Nat):Int):=by split<;>split<;>omega
 rw [e,zEK rfl (Int.le_refl _) (by omega),sb];have h:=zCI (v:=List.replicate (min n.toNat 8) (0:UInt8)) (m:=m) (k:=min n.toNat 8) (by omega) (by simp) (min n.toNat 8) 0 (by omega);rw [zAF] at h;have h':zga (List.replicate (min n.toNat 8) (0:UInt8)) (m:Int) (List.replicate (min n.toNat 8) (0:UInt8)) 0=some (zgA (min n.toNat 8) m):=h;rw [h',sb]
theorem zzQ {l:List UInt8} {j:Nat} (h:j<l.length):l.take (j+1)=l.take j++[l[j]]:=by rw [up,xM h];rfl
theorem zIj {v:List UInt8} (hv:v.length<=8):∀(d j:Nat),j+d=v.length->zhq v ((word (v.take j):Nat):Int) (j:Int)=some ((word v:Nat):Int):=by
 intro d
 induction d with
 | zero=>
  intro j hj;refine ztI ?_;unfold zgu;rw [uK,yM (by omega)]
 | succ d ih=>
  intro j hj;have hl:(v.take j).length=j:=by simp;omega
  have hw:=zvU (v.take j);rw [hl] at hw;refine (ztH (wv':=((word (v.take (j+1)):Nat):Int)) (v2':=((j+1:Nat):Int)) ?_).trans (ih (j+1) (by omega));unfold zgu;have hc:=(v[j]'(by omega)).toNat_lt;have e1:i64.wrap (8*(j:Int))=((8*j:Nat):Int):=by rw [uL];push_cast;rfl
  have e2:shlI .u64 (u64.wrap ((v[j]'(by omega)).toNat:Int)) ((8*j:Nat):Int)=u64.wrap (((v[j]'(by omega)).toNat:Int)*2^(8*j)):=by
   unfold shlI;rw [xD,yO (by simp [IntKind.bits];omega),wrap_u64 ((v[j]'(by omega)).toNat:Int),yL (by omega) (by omega)]
  rw [uJ,zK rfl (show j<v.length by omega),sb,e1,zDt,sb,e2,zJG,zMq _ _ _ (by omega) (by omega) hw,zzQ (show j<v.length by omega),zut,hl,uL];rfl
theorem zMp (b:List UInt8):zni b=some ((word (b.take 8):Nat):Int):=by
 unfold zni;have e:(if (8:Int)<(b.length:Int) then (8:Int) else (b.length:Int))=((min 8 b.length:Nat):Int):=by split<;>omega
 have e2:b.take (min 8 b.length)=b.take 8:=by rw [uo];omega
 rw [e,zsr rfl (by omega),sb,e2];have h:=zIj (v:=b.take 8) (by simp;omega) (b.take 8).length 0 (by omega);have h':zhq (b.take 8) 0 0=some ((word (b.take 8):Nat):Int):=h;rw [h',sb]
theorem zFg {b:List UInt8} (hb:b.length<=1152921504606846976):∀(d j:Nat),j+d=min 8 b.length->zcJ b ((word (b.take j):Nat):Int) ((256^j%18446744073709551616:Nat):Int) (j:Int)=some ((word (b.take 8):Nat):Int):=by
 intro d
 induction d with
 | zero=>
  intro j hj;refine zmE ?_;unfold zbN;have e:b.take j=b.take 8:=by rw [uo];omega
  rw [uK,e]
 | succ d ih=>
  intro j hj;have hl:(b.take j).length=j:=by simp;omega
  have hw:=zvU (b.take j);rw [hl] at hw;refine (zmD (wv':=((word (b.take (j+1)):Nat):Int)) (place':=((256^(j+1)%18446744073709551616:Nat):Int)) (i':=((j+1:Nat):Int)) ?_).trans (ih (j+1) (by omega));unfold zbN;have hc:=(b[j]'(by omega)).toNat_lt;rw [uJ,zK rfl (show j<b.length by omega),sb,wrap_u64 ((b[j]'(by omega)).toNat:Int),yL (by omega) (by omega),zKL _ _ _ (by omega) (by omega) hw,zzQ (show j<b.length by omega),zut,hl,uL,<-zEV];rfl
theorem zKd {b:List UInt8} (hb:b.length<=1152921504606846976):zfz b=some ((word (b.take 8):Nat):Int):=by
 unfold zfz;have h:=zFg hb (min 8 b.length) 0 (by omega);have h':zcJ b 0 1 0=some ((word (b.take 8):Nat):Int):=h;rw [h',sb]
def zaY (k:Int):Bool:=decide (1<=k/\k<=17)
def kNum (k:Int):Bool:=decide (1<=k/\k<=14)
def zaa (k:Int):Int:=if 15<=k then 2 else if 12<=k then 1 else if 9<=k then 5 else 0
def zbk (k w:Int):Int:=
 if k=1\/k=8 then zoO (sgnS w) else if k=3\/k=5\/k=9\/k=10\/k=11 then w%4294967296 else if k=7 then (if 0<w then 1 else 0) else w
theorem zta (k:Int):zdK k=some (zaY k):=by unfold zdK zaY;simp [Bool.decide_and]
theorem zlB (k:Int):zbe k=some (kNum k):=by unfold zbe kNum;simp [Bool.decide_and]
theorem zuR (k:Int):zdh k=some (zaa k):=by
 unfold zdh zaa;by_cases h1:15<=k
 ·rw [itT (by simpa using h1),xq h1]
 ·rw [itF (by simpa using h1),xp h1];by_cases h2:12<=k
  ·rw [itT (by simpa using h2),xq h2]
  ·rw [itF (by simpa using h2),xp h2];by_cases h3:9<=k
   ·rw [itT (by simpa using h3),xq h3]
   ·rw [itF (by simpa using h3),xp h3]
theorem zuQ (k:Int) (h:0<=w/\w<=18446744073709551615):zdJ k w=some (zbk k w):=by
 have hs:=zBi w;unfold zdJ zbk;by_cases h1:k=1\/k=8
 ·rw [xq h1];have e:(if (k==1)=true then some (k==1) else some (k==8))=some true:=by rcases h1 with rfl| rfl<;>rfl
  rw [e,sb,itT rfl,zFf h,sb,zKc (by omega),sb]
 ·rw [xp h1];have e:(if (k==1)=true then some (k==1) else some (k==8))=some false:=by rw [uK];simp;omega
  rw [e,sb,itF rfl];by_cases h2:k=3\/k=5\/k=9\/k=10\/k=11
  ·rw [xq h2];have e2:(if (k==3)=true then some (k==3) else if (k==5)=true then some (k==5) else if (k==9)=true then some (k==9) else if (k==10)=true then some (k==10) else some (k==11))=some true:=by
    rcases h2 with rfl| rfl| rfl| rfl| rfl<;>rfl
   rw [e2,sb,itT rfl,qK h.1]
  ·rw [xp h2];have e2:(if (k==3)=true then some (k==3) else if (k==5)=true then some (k==5) else if (k==9)=true then some (k==9) else if (k==10)=true then some (k==10) else some (k==11))=some false:=by
    rw [uK,uK,uK,uK];simp;omega
   rw [e2,sb,itF rfl];by_cases h7:k=7
   ·rw [itT (by simpa using h7),xq h7];by_cases h0:0<w
    ·rw [itT (by simpa using h0),xq h0]
    ·rw [itF (by simpa using h0),xp h0]
   ·rw [itF (by simpa using h7),xp h7]
theorem zhc (k:Int) (h:0<=w/\w<=18446744073709551615):0<=zbk k w/\zbk k w<=18446744073709551615:=by
 have hs:=zBi w;unfold zbk;split
 ·exact zMn (by omega)
 ·split
  ·omega
  ·split
   ·split<;>omega
   ·exact h
theorem zIv {k:Int} {w:Int} (h9:9<=k) (h12:k<12):zbk k w<4294967296:=by
 unfold zbk;rw [xp (by omega),xq (by omega)];omega
theorem zmh (k:Int) {w:Int} (h:0<=w/\w<=18446744073709551615):zbk k (zbk k w)=zbk k w:=by
 have hs:=zBi w;unfold zbk;by_cases h1:k=1\/k=8
 ·simp only [xq h1];rw [zKi hs]
 ·simp only [xp h1];by_cases h2:k=3\/k=5\/k=9\/k=10\/k=11
  ·simp only [xq h2];omega
  ·simp only [xp h2];by_cases h7:k=7
   ·simp only [xq h7];split<;>simp
   ·simp only [xp h7]
def rawW (k:Int) (b:List UInt8):Int:=if zaa k=0 then (rd b).1 else (word (b.take 8):Nat)
def zlG (k:Int) (b:List UInt8):Int×Int:=if kNum k=false then (0,2) else if zbu (zaa k) b=false then (0,12) else (zbk k (rawW k b),0)
def zkD (k:Int) (c:Nat):List UInt8:=if 12<=k then zgA 8 c else if 9<=k then zgA 4 c else enc c
def sPut (k w:Int):List UInt8:=zkD k (zbk k w).toNat
theorem zms (k:Int) :0<=rawW k b/\rawW k b<=18446744073709551615:=by
 unfold rawW;split
 ·have:=zgP b;omega
 ·have h:=zvU (b.take 8);have h2:(256:Nat)^(b.take 8).length<=256^8:=pl (by omega) (by simp;omega);omega
theorem zuT (k:Int) {b:List UInt8} (hb:b.length<=1048576):zeo k b=some (zlG k b):=by
 unfold zeo zlG;rw [zlB,sb];cases hn:kNum k
 ·rw [uG,xq rfl]
 ·rw [uH,xp (by simp),zuR,sb,zFa _ hb,sb];cases hf:zbu (zaa k) b
  ·rw [uG,xq rfl]
  ·rw [uH,xp (by simp),zKd (by omega),sb,sb];have hbd:=zms k (b:=b);have e0:zaD b 0=some (rd b):=by
    have:=zrW b 0 (by omega) (xC _);rw [yd] at this;exact this
   by_cases h0:zaa k=0
   ·have e:rawW k b=(rd b).1:=by unfold rawW;rw [xq h0]
    rw [itT (by simpa using h0),e0,sb,<-e,zuQ k hbd,sb]
   ·have e:rawW k b=((word (b.take 8):Nat):Int):=by unfold rawW;rw [xp h0]
    rw [itF (by simpa using h0),<-e,zuQ k hbd,sb]
theorem zff :kNum k=true↔1<=k/\k<=14:=by simp [kNum]
theorem zuY {k:Int} (hk:kNum k=true) {c:Nat} (hc:c<18446744073709551616):zbu (zaa k) (zkD k c)=true:=by
 have:=zff.1 hk;unfold zkD;by_cases h1:12<=k
 ·have e:zaa k=1:=by unfold zaa;rw [xp (by omega),xq h1]
  rw [xq h1,e];simp [zbu,zaB]
 ·rw [xp h1];by_cases h2:9<=k
  ·have e:zaa k=5:=by unfold zaa;rw [xp (by omega),xp h1,xq h2]
   rw [xq h2,e];simp [zbu,zaB]
  ·have e:zaa k=0:=by unfold zaa;rw [xp (by omega),xp h1,xp h2]
   have hr:=zxw [] hc;rw [xY] at hr;rw [xp h2,e];unfold zbu;rw [xq rfl,hr];simp
theorem zEY {k:Int} (hk:kNum k=true) {c:Nat} (hc:c<18446744073709551616) (h32:9<=k->k<12->c<4294967296):rawW k (zkD k c)=(c:Int):=by
 have:=zff.1 hk;unfold zkD rawW;by_cases h1:12<=k
 ·have e:zaa k=1:=by unfold zaa;rw [xp (by omega),xq h1]
  rw [xq h1,e,xp (by omega),yM (by rw [zaB];omega),zqu,qj (by omega)]
 ·rw [xp h1];by_cases h2:9<=k
  ·have e:zaa k=5:=by unfold zaa;rw [xp (by omega),xp h1,xq h2]
   have:=h32 h2 (by omega);rw [xq h2,e,xp (by omega),yM (by rw [zaB];omega),zqu,qj (by omega)]
  ·have e:zaa k=0:=by unfold zaa;rw [xp (by omega),xp h1,xp h2]
   have hr:=zxw [] hc;rw [xY] at hr;rw [xp h2,e,xq rfl,hr]
theorem zFi {k w:Int} (hk:kNum k=true) (h:0<=w/\w<=18446744073709551615):zlG k (sPut k w)=(zbk k w,0):=by
 have hc:=zhc k h;obtain ⟨c,hcc⟩:∃c:Nat,zbk k w=c:=⟨(zbk k w).toNat,by omega⟩;unfold zlG sPut;rw [hcc,xD,hk,xp (by simp),zuY hk (by omega),xp (by simp),zEY hk (by omega) (fun h9 h12=>by have:=zIv (w:=w) h9 h12;omega),<-hcc,zmh k h]
theorem zFh {k w:Int} (h:0<=w/\w<=18446744073709551615):sPut k (zbk k w)=sPut k w:=by unfold sPut;rw [zmh k h]
theorem zkm {k w:Int} (h:0<=w/\w<=18446744073709551615):1<=(sPut k w).length/\(sPut k w).length<=10:=by
 have hc:=zhc k h;unfold sPut zkD;split
 ·rw [zaB];omega
 ·split
  ·rw [zaB];omega
  ·exact zkx (by omega)
def zja (k:Int) (l:List UInt8):Int⊕Nat:=
 if k<9 then (if (rd l).2.2≠0 then .inl (rd l).2.2 else .inr (rd l).2.1.toNat) else if l.length<(if k<12 then 4 else 8) then .inl 3 else .inr (if k<12 then 4 else 8)
theorem zmy (k:Int) (l:List UInt8):(∃c,zja k l= .inl c/\(c=3\/c=4))\/∃n,zja k l= .inr n/\1<=n/\n<=l.length/\n<=10/\(k<9/\(rd l).2.2=0/\(rd l).2.1=(n:Int)\/¬k<9/\n=(if k<12 then 4 else 8)):=by
 obtain ⟨h1,h2,h3,h4,h5,h6,h7⟩:=zgP l;unfold zja
 grind
theorem zBu (k:Int) (l m:List UInt8) {n:Nat} (h:zja k l= .inr n):zja k (l++m)= .inr n:=by
 unfold zja at h|-
 grind [zqM]
def pcs (k:Int) (l:List UInt8):List (List UInt8)×Int:=
 if hl:l=[] then ([],0) else match h:zja k l with
  | .inl c=>([],c)
  | .inr n=>(l.take n::(pcs k (l.drop n)).1,(pcs k (l.drop n)).2)
termination_by l.length
decreasing_by
 all_goals
  rcases zmy k l with ⟨c',h',_⟩| ⟨n',h',g1,g2,_⟩
  ·rw [h'] at h;cases h
  ·rw [h'] at h;cases h;simp only [xW];omega
theorem ziQ (k:Int):pcs k []=([],0):=by rw [pcs,dif_pos rfl]
theorem zos (hl:l≠[]) (h:zja k l= .inl c):pcs k l=([],c):=by
 rw [pcs,dif_neg hl]
 grind
theorem zhO (hl:l≠[]) (h:zja k l= .inr n):pcs k l=(l.take n::(pcs k (l.drop n)).1,(pcs k (l.drop n)).2):=by
 rw [pcs,dif_neg hl]
 grind
theorem zot (k:Int) (P:List UInt8->Prop) (h0:P []) (he:∀l c,l≠[]->zja k l= .inl c->(c=3\/c=4)->P l)
  (hc:∀l n,l≠[]->zja k l= .inr n->1<=n->n<=l.length->n<=10->P (l.drop n)->P l) (l:List UInt8):P l:=by
 generalize hn:l.length=m
 induction m using Nat.strongRecOn generalizing l with
 | _ m ih=>
  by_cases hl:l=[]
  ·grind
  ·rcases zmy k l with ⟨c,h,hc'⟩| ⟨n,h,g1,g2,g3,_⟩
   ·grind
   grind
theorem zCS (k:Int) (l:List UInt8):(pcs k l).2=0\/(pcs k l).2=3\/(pcs k l).2=4:=by
 refine zot k (fun l=>(pcs k l).2=0\/(pcs k l).2=3\/(pcs k l).2=4) ?_ ?_ ?_ l
 ·rw [ziQ];exact .inl rfl
 ·intro l c hl h hc;rw [zos hl h];exact .inr hc
 ·intro l n hl h _ _ _ ih;rw [zhO hl h];exact ih
theorem zvO (k:Int) (l:List UInt8):(pcs k l).1.length<=l.length:=by
 refine zot k (fun l=>(pcs k l).1.length<=l.length) ?_ ?_ ?_ l
 ·rw [ziQ];simp
 ·intro l c hl h _;rw [zos hl h];simp
 ·intro l n hl h _ _ _ ih;rw [zhO hl h]
  grind
theorem zxr (k:Int) (l:List UInt8):(pcs k l).2=0->(pcs k l).1.flatten=l:=by
 refine zot k (fun l=>(pcs k l).2=0->(pcs k l).1.flatten=l) ?_ ?_ ?_ l
 ·rw [ziQ];intro _;rfl
 ·intro l c hl h hc h2;rw [zos hl h] at h2;simp only at h2;omega
 ·intro l n hl h _ _ _ ih h2;rw [zhO hl h] at h2|-;simp_all
theorem zEU (k:Int) (m l:List UInt8):(pcs k l).2=0->pcs k (l++m)=((pcs k l).1++(pcs k m).1,(pcs k m).2):=by
 refine zot k (fun l=>(pcs k l).2=0->pcs k (l++m)=((pcs k l).1++(pcs k m).1,(pcs k m).2)) ?_ ?_ ?_ l
 ·intro _;rw [ziQ];simp
 ·intro l c hl h hc h2;rw [zos hl h] at h2;simp only at h2;omega
 ·intro l n hl h g1 g2 _ ih h2;rw [zhO hl h] at h2|-;rw [zhO (by simp [hl]) (zBu k l m h),p9 g2,pI g2,ih h2];rfl
theorem zFq (hk:kNum k=true) (h:zja k l= .inr n):zbu (zaa k) (l.take n)=true:=by
 have hk':=zff.1 hk;rcases zmy k l with ⟨c,h',_⟩| ⟨n',h',g1,g2,g3,hcase⟩
 ·grind
 ·rw [h'] at h;cases h;have wY:(l.take n).length=n:=by simp;omega
  unfold zbu;rcases hcase with ⟨h9,f1,f2⟩| ⟨h9,f1⟩
  ·have e:zaa k=0:=by unfold zaa;rw [xp (by omega),xp (by omega),xp (by omega)]
   rw [xq e];rcases zlz l with h6| ⟨h6,_⟩| ⟨x,c,y,e,hx,hc,hl,hv,h6⟩
   ·grind
   ·grind
   ·rw [h6] at f2;have e7:n=(x++[c]).length:=by simp at f2|-;omega
    grind [zGz]
  grind [zaa]
theorem zsU (hk:kNum k=true) (l:List UInt8):∀p∈(pcs k l).1,zbu (zaa k) p=true/\1<=p.length/\p.length<=10:=by
 refine zot k (fun l=>∀p∈(pcs k l).1,zbu (zaa k) p=true/\1<=p.length/\p.length<=10) ?_ ?_ ?_ l
 ·rw [ziQ];intro p hp;cases hp
 ·intro l c hl h _;rw [zos hl h];intro p hp;cases hp
 ·intro l n hl h g1 g2 g3 ih;rw [zhO hl h]
  grind [zFq]
def zdW (k:Int) (p:List UInt8):Int:=zbk k (rawW k p)
theorem ziu (hk:kNum k=true) (hf:zbu (zaa k) p=true):zlG k p=(zdW k p,0):=by
 unfold zlG zdW
 grind
theorem zFr {k w:Int} (hk:kNum k=true) (h:0<=w/\w<=18446744073709551615) (m:List UInt8):zja k (sPut k w++m)= .inr (sPut k w).length:=by
 have hk':=zff.1 hk;have hc:=zhc k h;unfold sPut zkD zja
 grind [zaB,zxw]
theorem zsV {k:Int} (hk:kNum k=true):∀(l:List Int),(∀w∈l,0<=w/\w<=18446744073709551615)->pcs k (l.flatMap (sPut k))=(l.map (sPut k),0)
 | [],_=>ziQ k
 | w::l,h=>by
  have hw:=h w xr;have wY:=zkm (k:=k) hw;have kl:sPut k w++l.flatMap (sPut k)≠[]:=fun e=>by
   simp_all
  rw [xI,zhO kl (zFr hk hw _),qf,pN,zsV hk l fun v hv=>h v (xt _ hv)];rfl
def ends (base:Nat):List (List UInt8)->List Int
 | []=>[]
 | p::ps=>((base+p.length:Nat):Int)::ends (base+p.length) ps
theorem zuA (base:Nat) (ps:List (List UInt8)):(ends base ps).length=ps.length:=by
 induction ps generalizing base with
 | nil=>rfl
 | cons p ps ih=>simp [ends,ih]
theorem zwt:∀(ps:List (List UInt8)) (base i:Nat),i<ps.length->(ends base ps)[i]? =some ((base+(ps.take (i+1)).flatten.length:Nat):Int)
 | [],_,_,h=>by simp at h
 | p::ps,base,0,_=>by simp [ends]
 | p::ps,base,i+1,h=>by
  have:=zwt ps (base+p.length) i (by simpa using h);simp only [ends,uC,this,yQ,qi,xy,qR]
theorem zBa {b:List UInt8} (hb:b.length<=1048576) (k:Int) (l:List UInt8):∀(a:Nat) (out:List Int),a<=b.length->l=b.drop a->out.length<=a->
  zcQ b k out a=some (if (pcs k l).2=0 then .inl (out++ends a (pcs k l).1) else .inr (pcs k l).2):=by
 refine zot k (fun l=>∀(a:Nat) (out:List Int),a<=b.length->l=b.drop a->out.length<=a->
  zcQ b k out a=some (if (pcs k l).2=0 then .inl (out++ends a (pcs k l).1) else .inr (pcs k l).2)) ?_ ?_ ?_ l
 ·intro a out ha hl ho;have:b.length<=a:=by have:=congrArg List.length hl;simp at this;omega
  rw [ziQ,xq rfl];refine zhJ ?_;unfold zaV;rw [uK];simp [ends]
 ·intro l c hl h hc a out ha hld ho;subst hld;have wS:a<b.length:=by have:=qr.2 hl;simp at this;omega
  have hdl:(b.drop a).length=b.length - a:=by simp
  rw [zos hl h,xp (by simp only;omega)];refine zhJ ?_;unfold zaV
  grind [zja,sb,zrW,wrap_i64]
 ·intro l n hl h g1 g2 g3 ih a out ha hld ho;subst hld;have hdl:(b.drop a).length=b.length - a:=by simp
  have kw:zaV b k out a=some (.inl (out++[((a+n:Nat):Int)],((a+n:Nat):Int))):=by
   unfold zaV;rw [uJ];rcases zmy k (b.drop a) with ⟨c,h',_⟩| ⟨n',h',_,_,_,hcase⟩
   ·grind
   grind [sb,zrW,wrap_i64,zcF]
  rw [zmM kw,ih (a+n) _ (by omega) (by rw [yh]) (by simp;omega),zhO hl h];have e:((b.drop a).take n).length=n:=by simp;omega
  simp only [ends,e,yk,uq]
def zlp (k:Int) (b:List UInt8):List Int×Int:=if kNum k=false then ([],2) else if (pcs k b).2=0 then (ends 0 (pcs k b).1,0) else ([],(pcs k b).2)
theorem zxz (k:Int) {b:List UInt8} (hb:b.length<=1048576):zep k b=some (zlp k b):=by
 unfold zep zlp;rw [zlB,sb];cases hn:kNum k
 ·rfl
 ·have h:=zBa hb k b 0 [] (xC _) rfl (xw _)
  grind
def zai (k:Int) (b:List UInt8):List Int×Int:=if kNum k=false then ([],2) else if (pcs k b).2=0 then ((pcs k b).1.map (zdW k),0) else ([],(pcs k b).2)
theorem zyz {b:List UInt8} (hb:b.length<=1048576) {k:Int} (hk:kNum k=true) {ps:List (List UInt8)} (hps:∀p∈ps,zbu (zaa k) p=true) (hfl:ps.flatten=b) (hl:ps.length<=b.length) (c:Int):∀(d i:Nat),i+d=ps.length->
  zbH b k (ends 0 ps,c) ((ps.take i).map (zdW k)) i=some (ps.map (zdW k)):=by
 intro d
 induction d with
 | zero=>
  intro i hi;refine zfq ?_;unfold zbG
  grind [zuA]
 | succ d ih=>
  intro i hi;have hil:i<ps.length:=by omega
  have hps1:ps.take (i+1)=ps.take i++[ps[i]]:=by rw [up,xM hil];rfl
  have hsplit:ps=ps.take i++ps[i]::ps.drop (i+1):=by rw [<-yl hil,qc]
  have hb2:b=(ps.take i).flatten++(ps[i]++(ps.drop (i+1)).flatten):=by
   grind
  have hcut:(b.drop (ps.take i).flatten.length).take ((ps.take (i+1)).flatten.length - (ps.take i).flatten.length)=ps[i]:=by
   rw [hps1,List.flatten_append,xy,uk]
   grind
  have hle:(ps.take (i+1)).flatten.length<=b.length:=by
   grind
  refine (zmb (out':=(ps.take (i+1)).map (zdW k)) (i':=((i+1:Nat):Int)) ?_).trans (ih (i+1) (by omega));unfold zbG;rw [itT (by simp [zuA];omega)];have efrom:(if (decide ((i:Int)>0))=true then (idx (ends 0 ps) (i64.wrap ((i:Int) - 1))>>=fun x=>some x) else some 0)=some (((ps.take i).flatten.length:Nat):Int):=by
   cases i with
   | zero=>rw [uI];simp
   | succ j=>
    have hg:=zwt ps 0 j (by omega);rw [itT (by first| (simp;done)| (simp;omega)),uL]
    grind [idx,sb,wrap_i64,zK,zcF]
  have hg:=zwt ps 0 i hil;have eto:idx (ends 0 ps) (i:Int)=some (((ps.take (i+1)).flatten.length:Nat):Int):=by
   grind [idx,sb,wrap_i64,zK,zcF]
  have hmono:(ps.take i).flatten.length<=(ps.take (i+1)).flatten.length:=by rw [hps1,List.flatten_append,xy];omega
  have hpl:(ps[i]).length<=b.length:=by have:=congrArg List.length hb2;simp at this;omega
  simp only;rw [efrom,sb,eto,sb,zgv rfl rfl hmono hle,sb,hcut,zuT k (by omega),sb,ziu hk (hps _ (xB hil)),zcF (by simp;omega),sb,uL]
  grind
theorem zDi (k:Int) {b:List UInt8} (hb:b.length<=1048576):zfe k b=some (zai k b):=by
 unfold zfe zai;rw [zxz k hb,sb];unfold zlp;cases hn:kNum k
 ·rw [xq rfl,xq rfl];have h':zbH b k (([]:List Int),2) [] 0=some []:=by
   refine zfq ?_;rfl
  rw [h',sb]
 ·simp only [xp (show ¬(true=false) by simp)];by_cases h0:(pcs k b).2=0
  ·simp only [xq h0];have h:=zyz hb hn (ps:=(pcs k b).1) (fun p hp=>(zsU hn b p hp).1) (zxr k b h0) (zvO k b) 0 (pcs k b).1.length 0 (by omega)
   grind
  ·simp only [xp h0];have h':zbH b k (([]:List Int),(pcs k b).2) [] 0=some []:=by
    refine zfq ?_;rfl
   rw [h',sb]
abbrev Fld:=za
abbrev Mes:=ze
def zkz {α:Type} (p:α->Bool) (l:List α):Int:=match l.findIdx? p with
 | some i=>(i:Int)
 | none=> -1
theorem zmm {α:Type} {p:α->Bool} {l:List α} (h:l.findIdx? p=none):zkz p l= -1:=by unfold zkz;rw [h]
theorem zmn {α:Type} {p:α->Bool} {l:List α} {i:Nat} (h:l.findIdx? p=some i):zkz p l=(i:Int):=by unfold zkz;rw [h]
theorem zqA {α:Type} (p:α->Bool) (l:List α) (F:Int->Option (Unit⊕Int)) (h0:F (l.length:Int)=some (.inl ())) (hs:∀(i:Nat) (h:i<l.length),F (i:Int)=if p l[i] then some (.inr (i:Int)) else F ((i+1:Nat):Int)):
  ∀(d i:Nat),i+d=l.length->(∀j (h:j<l.length),j<i->p l[j]=false)->F (i:Int)=some (match l.findIdx? p with| some k=> .inr (k:Int)| none=> .inl ()):=by
 intro d
 induction d with
 | zero=>
  intro i hi hj;have:i=l.length:=by omega
  subst this;have hn:l.findIdx? p=none:=by
   rw [uF];intro x hx;obtain ⟨j,hj',rfl⟩:=qv hx
   grind
  rw [h0,hn]
 | succ d ih=>
  intro i hi hj;have hil:i<l.length:=by omega
  rw [hs i hil];by_cases hp:p l[i]=true
  ·have hf:l.findIdx? p=some i:=by
    rw [pO]
    grind
   grind
  ·rw [xp hp];refine ih (i+1) (by omega) fun j h hji=>?_
   grind
def fldI (m:Mes) (number:Int):Int:=zkz (fun f:Fld=>f.Number==number) m.Fields
theorem zDf (hm:m.Fields.length<=1152921504606846976) (number:Int):zfc m number=some (fldI m number):=by
 unfold zfc fldI;have h:=zqA (fun f:Fld=>f.Number==number) m.Fields (fun i=>zdH m number i) (by
   refine zhC ?_;unfold zbF;rw [uI])
  (fun i hi=>by
   have hb:zbF m number i=if ((m.Fields[i]).Number==number)=true then some (.inr (.inr (i:Int))) else some (.inl ((i+1:Nat):Int)):=by
    grind [zbF,sb,wrap_i64,zK]
   by_cases hp:((m.Fields[i]).Number==number)=true
   ·rw [xq hp] at hb|-;exact zhC hb
   ·rw [xp hp] at hb|-;exact zma hb)
  m.Fields.length 0 (by omega) (fun j _ hj=>by omega)
 grind [zkz,sb]
def nmc (i:Nat) (c:UInt8):Bool:=decide (65<=c.toNat/\c.toNat<=90\/97<=c.toNat/\c.toNat<=122\/c.toNat=95\/0<i/\48<=c.toNat/\c.toNat<=57)
def nmA:Nat->List UInt8->Bool
 | _,[]=>true
 | i,c::l=>nmc i c&&nmA (i+1) l
def zfs (s:List UInt8):Bool:=nmA 0 s&&decide (1<=s.length/\s.length<=60)
theorem zgw {α:Type} {l t:List α} {x:α} {k:Nat} (h:l.drop k=x::t):∃hk:k<l.length,l[k]=x/\l.drop (k+1)=t:=by
 have hk:k<l.length:=by
  rcases yv k l.length with h'| h'
  ·exact h'
  ·rw [yy h'] at h;cases h
 rw [yl hk] at h
 grind
theorem zhs {α:Type} {l:List α} {k:Nat} (h:l.drop k=[]):l.length<=k:=by have:=congrArg List.length h;simp at this;omega
theorem zHC (s:List UInt8) (hs:s.length<=1152921504606846976):∀(l:List UInt8) (i:Nat),s.drop i=l->zcP s i=some (if nmA i l=true then .inl () else .inr ()):=by
 intro l
 induction l with
 | nil=>
  intro i hd;have:=zhs hd;refine zhI ?_;unfold zbP;rw [uK];rfl
 | cons c l ih=>
  intro i hd;obtain ⟨hk,hx,hd'⟩:=zgw hd;have hb:zbP s i=if nmc i c=true then some (.inl ((i+1:Nat):Int)) else some (.inr (.inr ())):=by
   unfold zbP;rw [uJ,zK rfl hk,sb,hx,uL];have e:(if (decide ((c.toNat:Int)>=65)) then ((decide ((c.toNat:Int)<=90))|| (if (decide ((c.toNat:Int)>=97)) then ((decide ((c.toNat:Int)<=122))|| (((c.toNat:Int)==95)|| ((decide ((i:Int)>0))&&((decide ((c.toNat:Int)>=48))&&(decide ((c.toNat:Int)<=57)))))) else (((c.toNat:Int)==95)|| ((decide ((i:Int)>0))&&((decide ((c.toNat:Int)>=48))&&(decide ((c.toNat:Int)<=57))))))) else (if (decide ((c.toNat:Int)>=97)) then ((decide ((c.toNat:Int)<=122))|| (((c.toNat:Int)==95)|| ((decide ((i:Int)>0))&&((decide ((c.toNat:Int)>=48))&&(decide ((c.toNat:Int)<=57)))))) else (((c.toNat:Int)==95)|| ((decide ((i:Int)>0))&&((decide ((c.toNat:Int)>=48))&&(decide ((c.toNat:Int)<=57)))))))=nmc i c:=by
    have e95:((c.toNat:Int)==95)=decide (c.toNat=95):=zsn _ 95;have a1:decide ((c.toNat:Int)>=65)=decide (65<=c.toNat):=qt.2 (by omega);have a2:decide ((c.toNat:Int)<=90)=decide (c.toNat<=90):=qt.2 (by omega);have a3:decide ((c.toNat:Int)>=97)=decide (97<=c.toNat):=qt.2 (by omega);have a4:decide ((c.toNat:Int)<=122)=decide (c.toNat<=122):=qt.2 (by omega);have a5:decide ((i:Int)>0)=decide (0<i):=qt.2 (by omega);have a6:decide ((c.toNat:Int)>=48)=decide (48<=c.toNat):=qt.2 (by omega);have a7:decide ((c.toNat:Int)<=57)=decide (c.toNat<=57):=qt.2 (by omega);rw [e95,a1,a2,a3,a4,a5,a6,a7];simp only [nmc,Bool.decide_or,Bool.decide_and]
    grind
   grind
  rw [nmA];cases hc:nmc i c
  ·rw [hc,xp (by simp)] at hb;rw [zhI hb];rfl
  ·rw [hc,xq rfl] at hb;rw [zmL hb,ih _ hd',xZ]
theorem zxA (hs:s.length<=1152921504606846976):zen s=some (zfs s):=by
 unfold zen zfs;have h:=zHC s hs s 0 rfl;have h':zcP s 0=_:=h;rw [h',sb];cases nmA 0 s
 ·rfl
 ·simp [Bool.decide_and]
  grind
def zcx (n:Int) (prev:List Fld) (f:Fld):Int:=
 if zfs f.Name=false then 5 else if prev.any (fun g=>g.Name==f.Name)=true then 6
 else if f.Number<1\/f.Number>536870911\/(19000<=f.Number/\f.Number<20000) then 7
 else if prev.any (fun g=>g.Number==f.Number)=true then 8 else if zaY f.Kind=false then 9
 else if f.Packed=true/\¬(f.Repeated=true/\kNum f.Kind=true) then 10
 else if f.Kind=17/\(f.Of<0\/f.Of>=n)\/f.Kind≠17/\f.Of≠0 then 11 else 0
theorem zwu (n:Int) (prev:List Fld) (f:Fld):0<=zcx n prev f/\zcx n prev f<=11:=by
 unfold zcx;omega
theorem zEv {s:List Mes} {i k:Nat} {m:Mes} (hi:∃h:i<s.length,s[i]=m) (hk:k<=m.Fields.length) (hb:m.Fields.length<=1152921504606846976) (f:Fld):
  ∀(l:List Fld) (j:Nat) (a b:Bool),(m.Fields.take k).drop j=l->j<=k->zcu i k s f a b j=some (a|| l.any (fun g=>g.Name==f.Name),b|| l.any (fun g=>g.Number==f.Number)):=by
 obtain ⟨hi,hm⟩:=hi;intro l
 induction l with
 | nil=>
  intro j a b hd hj;have:=zhs hd;rw [xO] at this;refine zlZ ?_;unfold zbE
  grind
 | cons g l ih=>
  intro j a b hd hj;obtain ⟨hjk,hx,hd'⟩:=zgw hd;rw [xO] at hjk;rw [List.getElem_take] at hx;refine (zlY (name':=a|| (g.Name==f.Name)) (number':=b|| (g.Number==f.Number)) (j':=((j+1:Nat):Int)) ?_).trans ?_
  ·unfold zbE;have e1:idx s (i:Int)=some m:=by rw [zK rfl hi,hm]
   grind [zK,sb,wrap_i64]
  ·rw [ih _ _ _ hd' (by omega),qX,qX,ur,ur]
theorem zDe {s:List Mes} {i k:Nat} {m:Mes} {f:Fld} (hi:∃h:i<s.length,s[i]=m) (hk:∃h:k<m.Fields.length,m.Fields[k]=f) (hb:m.Fields.length<=1152921504606846976) (hf:f.Name.length<=1152921504606846976):
  zfb s i k=some (zcx s.length (m.Fields.take k) f):=by
 obtain ⟨hil,hm⟩:=hi;obtain ⟨hkl,hfe⟩:=hk;have e1:idx s (i:Int)=some m:=by rw [zK rfl hil,hm]
 have e2:idx m.Fields (k:Int)=some f:=by rw [zK rfl hkl,hfe]
 have h:=zEv ⟨hil,hm⟩ (Nat.le_of_lt hkl) hb f (m.Fields.take k) 0 false false rfl (xC _);have h':zcu i k s f false false 0=_:=h;unfold zfb zcx;rw [e1,sb,e2,sb,h',sb,zxA hf,sb];simp only [q9];cases h1:zfs f.Name
 ·rfl
 ·rw [uH,xp (show ¬(true=false) by simp)];cases h2:(m.Fields.take k).any (fun g=>g.Name==f.Name)
  ·rw [uH,xp (show ¬(false=true) by simp)];by_cases h3:f.Number<1\/f.Number>536870911\/(19000<=f.Number/\f.Number<20000)
   ·grind
   ·rw [uK,xp h3];cases h4:(m.Fields.take k).any (fun g=>g.Number==f.Number)
    ·grind [zta,sb,zlB]
    rfl
  rfl
def msgF (n:Int) (prev:List Fld):List Fld->Option (Nat×Int)
 | []=>none
 | f::l=>if 0<zcx n prev f then some (prev.length,zcx n prev f) else msgF n (prev++[f]) l
def chkF (n:Int) (prev:List Mes):List Mes->Option (Nat×Int×Int)
 | []=>none
 | m::l=>if zfs m.Name=false then some (prev.length, -1,2) else if prev.any (fun g=>g.Name==m.Name)=true then some (prev.length, -1,3)
  else if 200<m.Fields.length then some (prev.length, -1,4) else match msgF n [] m.Fields with
   | some (k,w)=>some (prev.length,(k:Int),w)
   | none=>chkF n (prev++[m]) l
def zjq (s:List Mes):Int×Int×Int:=if s.length=0\/100<s.length then (-1, -1,1) else match chkF s.length [] s with
 | none=>(0,0,0)
 | some (i,k,w)=>((i:Int),k,w)
def zkC (s:List Mes):Bool:=decide ((zjq s).2.2=0)
def WS (s:List Mes):Prop:=s.length<=140737488351232/\∀m∈s,m.Name.length<=140737488351232/\m.Fields.length<=140737488351232/\∀f∈m.Fields,f.Name.length<=140737488351232
theorem zBS {s:List Mes} {i:Nat} {m:Mes} (hi:∃h:i<s.length,s[i]=m) (hb:m.Fields.length<=140737488351232) (hn:∀f∈m.Fields,f.Name.length<=140737488351232):
  ∀(l:List Fld) (k:Nat),m.Fields.drop k=l->k<=m.Fields.length->zct i s k=some (match msgF s.length (m.Fields.take k) l with| some (j,w)=> .inr ((j:Int),w)| none=> .inl ()):=by
 obtain ⟨hil,hm⟩:=hi;have e1:idx s (i:Int)=some m:=by rw [zK rfl hil,hm]
 intro l
 induction l with
 | nil=>
  intro k hd hk;have:=zhs hd;refine zhB ?_;unfold zbD;rw [e1,sb,uK];rfl
 | cons f l ih=>
  intro k hd hk;obtain ⟨hkl,hx,hd'⟩:=zgw hd;have hf:=zDe (s:=s) (i:=i) (k:=k) (m:=m) (f:=f) ⟨hil,hm⟩ ⟨hkl,hx⟩ (by omega) (by have:=hn f (by rw [<-hx];exact xB hkl);omega);have hbd:=zwu s.length (m.Fields.take k) f;have htl:(m.Fields.take k).length=k:=by rw [xO];omega
  rw [msgF];by_cases h0:0<zcx s.length (m.Fields.take k) f
  ·rw [xq h0];refine zhB ?_;unfold zbD
   grind
  ·rw [xp h0];refine (zlX (k2':=((k+1:Nat):Int)) ?_).trans ?_
   ·unfold zbD;rw [e1,sb,uJ,hf,sb,uK,uL];push_cast;rfl
   grind
theorem zBR (hi:∃h:i<s.length,s[i]=m) (hs:s.length<=140737488351232):
  ∀(l:List Mes) (k:Nat) (a:Bool),(s.take i).drop k=l->k<=i->zcs i s a k=some (a|| l.any (fun g=>g.Name==m.Name)):=by
 obtain ⟨hil,hm⟩:=hi;intro l
 induction l with
 | nil=>
  intro k a hd hk;have:=zhs hd;rw [xO] at this;refine zlW ?_;unfold zbC
  grind
 | cons g l ih=>
  intro k a hd hk;obtain ⟨hkl,hx,hd'⟩:=zgw hd;rw [xO] at hkl;rw [List.getElem_take] at hx;refine (zlV (twice':=a|| (g.Name==m.Name)) (k':=((k+1:Nat):Int)) ?_).trans ?_
  ·grind [zbC,sb,wrap_i64,zK]
  ·rw [ih _ _ hd' (by omega),qX,ur]
theorem zBQ (hw:WS s):∀(l:List Mes) (i:Nat),s.drop i=l->i<=s.length->zdG s i=some (match chkF s.length (s.take i) l with| some (j,k,w)=> .inr ((j:Int),k,w)| none=> .inl ()):=by
 intro l
 induction l with
 | nil=>
  intro i hd hi;have:=zhs hd;refine zcf ?_;unfold zbB;rw [uK];rfl
 | cons m l ih=>
  intro i hd hi;obtain ⟨hil,hx,hd'⟩:=zgw hd;obtain ⟨hsl,hwm⟩:=hw;obtain ⟨w1,w2,w3⟩:=hwm m (by rw [<-hx];exact xB hil);have htl:(s.take i).length=i:=by rw [xO];omega
  have e1:idx s (i:Int)=some m:=by rw [zK rfl hil,hx]
  have h2:=zBR ⟨hil,hx⟩ hsl (s.take i) 0 false rfl (xC _);have h2':zcs i s false 0=_:=h2;have h3:=zBS ⟨hil,hx⟩ w2 w3 m.Fields 0 rfl (xC _);have h3':zct i s 0=_:=h3
  have hb:zbB s i=(if zfs m.Name=false then some (.inr (.inr ((i:Int), -1,2))) else if (s.take i).any (fun g=>g.Name==m.Name)=true then some (.inr (.inr ((i:Int), -1,3)))
    else if 200<m.Fields.length then some (.inr (.inr ((i:Int), -1,4))) else match msgF s.length [] m.Fields with
     | some (k,w)=>some (.inr (.inr ((i:Int),(k:Int),w)))
     | none=>some (.inl ((i+1:Nat):Int))):=by
   unfold zbB;rw [uJ,h2',sb,e1,sb,zxA (by omega),sb,sb,h3',sb,q9];cases h4:zfs m.Name
   ·rfl
   ·rw [uH,xp (show ¬(true=false) by simp)];cases h5:(s.take i).any (fun g=>g.Name==m.Name)
    ·rw [uH,xp (show ¬(false=true) by simp)];by_cases h6:200<m.Fields.length
     ·grind
     ·rw [uK,xp h6,qq];cases msgF s.length [] m.Fields with
      | none=>simp only;rw [uL];push_cast;rfl
      | some p=>rfl
    rfl
  rw [chkF];by_cases h4:zfs m.Name=false
  ·rw [xq h4] at hb|-;rw [zcf hb];simp only [htl]
  ·rw [xp h4] at hb|-;by_cases h5:(s.take i).any (fun g=>g.Name==m.Name)=true
   ·rw [xq h5] at hb|-;rw [zcf hb];simp only [htl]
   ·rw [xp h5] at hb|-;by_cases h6:200<m.Fields.length
    ·rw [xq h6] at hb|-;rw [zcf hb];simp only [htl]
    ·rw [xp h6] at hb|-;cases h7:msgF s.length [] m.Fields with
     | some p=>
      rw [h7] at hb;rw [zcf hb];simp only [htl]
     | none=>
      rw [h7] at hb;rw [zlU hb,ih _ hd' (by omega),pP hil,hx]
theorem zyw (hw:WS s):zfa s=some (zjq s):=by
 unfold zfa zjq;by_cases h:s.length=0\/100<s.length
 ·grind
 ·have e0:((s.length:Int)==0)=decide (s.length=0):=zsn _ 0;rw [e0,itF (by simp only [qE,ut];omega),xp h];have h1:=zBQ hw s 0 rfl (xC _)
  grind
theorem zyy (hw:WS s):zfd s=some (zkC s):=by
 unfold zfd zkC;rw [zyw hw,sb];rfl
theorem zua :∀(l prev:List Fld),msgF n prev l=none↔∀(k:Nat) (f:Fld),l[k]? =some f->zcx n (prev++l.take k) f=0
 | [],prev=>by simp [msgF]
 | f::l,prev=>by
  have hb:=zwu n prev f;rw [msgF];by_cases h:0<zcx n prev f
  ·rw [xq h];refine ⟨(fun h'=>nomatch h'),fun h'=>?_⟩;have:=h' 0 f rfl;simp at this;omega
  ·rw [xp h,zua l (prev++[f])];constructor
   ·intro h' k g hg;cases k with
    | zero=>simp at hg;subst hg;simp;omega
    | succ k=>have:=h' k g (by simpa using hg);simpa using this
   ·intro h' k g hg;have:=h' (k+1) g (by simpa using hg);simpa using this
theorem zyP :∀(l prev:List Mes),chkF n prev l=none↔∀(i:Nat) (m:Mes),l[i]? =some m->zfs m.Name=true/\(prev++l.take i).any (fun g=>g.Name==m.Name)=false/\m.Fields.length<=200/\msgF n [] m.Fields=none
 | [],prev=>by simp [chkF]
 | m::l,prev=>by
  rw [chkF];by_cases h1:zfs m.Name=false
  ·rw [xq h1];refine ⟨(fun h'=>nomatch h'),fun h'=>?_⟩;have:=(h' 0 m rfl).1;rw [h1] at this;cases this
  ·rw [xp h1];by_cases h2:prev.any (fun g=>g.Name==m.Name)=true
   ·rw [xq h2];refine ⟨(fun h'=>nomatch h'),fun h'=>?_⟩;have:=(h' 0 m rfl).2.1;simp only [qq,xY] at this;rw [h2] at this;cases this
   ·rw [xp h2];by_cases h3:200<m.Fields.length
    ·rw [xq h3];refine ⟨(fun h'=>nomatch h'),fun h'=>?_⟩;have:=(h' 0 m rfl).2.2.1;omega
    ·rw [xp h3];cases h4:msgF n [] m.Fields with
     | some p=>
      refine ⟨(fun h'=>nomatch h'),fun h'=>?_⟩;have:=(h' 0 m rfl).2.2.2;rw [h4] at this;cases this
     | none=>
      simp only;rw [zyP l (prev++[m])];constructor
      ·intro h' i g hg;cases i with
       | zero=>simp at hg;subst hg;exact ⟨by simpa using h1,by simpa using h2,by omega,h4⟩
       | succ i=>have:=h' i g (by simpa using hg);simpa using this
      ·intro h' i g hg;have:=h' (i+1) g (by simpa using hg);simpa using this
theorem zLJ:∀(n:Int) (l prev:List Fld) (k:Nat) (w:Int),msgF n prev l=some (k,w)->0<w:=by
 intro n l
 induction l with
 | nil=>intro prev k w h;cases h
 | cons f l ih=>
  intro prev k w h;rw [msgF] at h
  grind
theorem zFE:∀(n:Int) (l prev:List Mes) (i:Nat) (k w:Int),chkF n prev l=some (i,k,w)->0<w:=by
 intro n l
 induction l with
 | nil=>intro prev i k w h;cases h
 | cons m l ih=>
  intro prev i k w h;rw [chkF] at h;split at h
  ·cases h;omega
  ·split at h
   ·cases h;omega
   ·split at h
    ·cases h;omega
    ·split at h
     ·rename_i k' w' h';cases h;exact zLJ _ _ _ _ _ h'
     grind
structure zMs (n:Int) (f:Fld):Prop where
 name:zfs f.Name=true
 lo:1<=f.Number
 hi:f.Number<=536870911
 kind:zaY f.Kind=true
 packed:f.Packed=true->f.Repeated=true/\kNum f.Kind=true
 sub:f.Kind=17->0<=f.Of/\f.Of<n
 noSub:f.Kind≠17->f.Of=0
theorem zwv (h:zcx n prev f=0):zMs n f/\prev.any (fun g=>g.Name==f.Name)=false/\prev.any (fun g=>g.Number==f.Number)=false:=by
 unfold zcx at h;split at h
 ·omega
 ·rename_i h1;split at h
  ·omega
  ·rename_i h2;split at h
   ·omega
   ·rename_i h3;split at h
    ·omega
    ·rename_i h4;split at h
     ·omega
     ·rename_i h5;split at h
      ·omega
      ·rename_i h6;split at h
       ·omega
       ·rename_i h7;refine ⟨⟨by simpa using h1,by omega,by omega,by simpa using h5,fun hp=>?_,fun hk=>by omega,fun hk=>by omega⟩,by simpa using h2,by simpa using h4⟩
        grind
structure zdA (s:List Mes):Prop where
 len:1<=s.length/\s.length<=100
 name:∀m∈s,zfs m.Name=true
 names:∀(i j:Nat) (a b:Mes),i<j->s[i]? =some a->s[j]? =some b->a.Name≠b.Name
 few:∀m∈s,m.Fields.length<=200
 fld:∀m∈s,∀f∈m.Fields,zMs s.length f
 nums:∀m∈s,∀(i j:Nat) (f g:Fld),i<j->m.Fields[i]? =some f->m.Fields[j]? =some g->f.Number≠g.Number/\f.Name≠g.Name
theorem zHP {s:List Mes} (h:zkC s=true):zdA s:=by
 have h0:(zjq s).2.2=0:=by simpa [zkC] using h
 have h1:¬(s.length=0\/100<s.length):=fun hh=>by unfold zjq at h0;rw [xq hh] at h0;simp at h0
 have h2:chkF s.length [] s=none:=by
  cases h4:chkF s.length [] s with
  | none=>rfl
  | some p=>
   exfalso;obtain ⟨i,k,w⟩:=p;have h5:(zjq s).2.2=w:=by unfold zjq;rw [xp h1,h4]
   have:=zFE _ _ _ _ _ _ h4;omega
 have h3:=(zyP s []).1 h2;have at':∀m∈s,zfs m.Name=true/\m.Fields.length<=200/\msgF s.length [] m.Fields=none:=fun m hm=>by
  obtain ⟨i,hi,rfl⟩:=qv hm;have:=h3 i _ (xM hi)
  grind
 refine ⟨by omega,fun m hm=>(at' m hm).1,fun i j a b hij ha hb=>?_,fun m hm=>(at' m hm).2.1,fun m hm f hf=>?_,fun m hm i j f g hij hf hg=>?_⟩
 ·have:=(h3 j b hb).2.1;have hai:a∈([]++s.take j:List Mes):=by
   rw [xG];exact qN (i:=i) (by rw [yP,xq hij];exact ha)
  grind
 ·have h4:=(zua m.Fields []).1 (at' m hm).2.2;obtain ⟨i,hi,rfl⟩:=qv hf;exact (zwv (h4 i _ (xM hi))).1
 ·have h4:=(zua m.Fields []).1 (at' m hm).2.2;obtain ⟨_,k1,k2⟩:=zwv (h4 j g hg);have hai:f∈([]++m.Fields.take j:List Fld):=by
   rw [xG];exact qN (i:=i) (by rw [yP,xq hij];exact hf)
  grind
theorem zlH {α:Type} [DecidableEq α] (a b:List α) (F:Int->Option (Unit⊕Unit)) (hl:a.length=b.length) (h0:F (a.length:Int)=some (.inl ()))
  (hs:∀(i:Nat) (h:i<a.length) (h':i<b.length),F (i:Int)=if a[i]=b[i] then F ((i+1:Nat):Int) else some (.inr ())):
  ∀(d i:Nat),i+d=a.length->F (i:Int)=some (if a.drop i=b.drop i then .inl () else .inr ()):=by
 intro d
 induction d with
 | zero=>
  grind
 | succ d ih=>
  intro i hi;rw [hs i (by omega) (by omega),yl (l:=a) (by omega),yl (l:=b) (by omega)]
  grind
theorem zHf {s:List Mes} {i:Nat} {m:Mes} (hi:∃h:i<s.length,s[i]=m) (hb:m.Fields.length<=140737488351232):∀(d k:Nat) (n:Int),k+d=m.Fields.length->∃r,zdq i s n k=some r:=by
 obtain ⟨hil,hm⟩:=hi;have e1:idx s (i:Int)=some m:=by rw [zK rfl hil,hm]
 intro d
 induction d with
 | zero=>
  intro k n hk;refine ⟨n,znm ?_⟩;unfold zcj
  grind
 | succ d ih=>
  intro k n hk;obtain ⟨r,hr⟩:=ih (k+1) (i64.wrap (n+(i64.wrap (Int.tdiv (((m.Fields[k]'(by omega)).Name.length:Int)) 100)))) (by omega);refine ⟨r,(znl (k':=((k+1:Nat):Int)) ?_).trans hr⟩
  grind [zcj,sb,wrap_i64,zK]
theorem zNe {s:List Mes} (hw:WS s):∃b,zgb s=some b:=by
 obtain ⟨hs,hm⟩:=hw;have key:∀(d i:Nat) (n:Int),i+d=s.length->∃r,zdp s n i=some r:=by
  intro d
  induction d with
  | zero=>
   intro i n hi;refine ⟨n,znk ?_⟩;unfold zci
   grind
  | succ d ih=>
   intro i n hi;have hil:i<s.length:=by omega
   obtain ⟨q,hq⟩:=zHf (s:=s) (i:=i) (m:=s[i]) ⟨hil,rfl⟩ (hm _ (xB hil)).2.1 (s[i]).Fields.length 0
    (i64.wrap ((i64.wrap ((i64.wrap (n+1))+(i64.wrap (Int.tdiv ((s[i]).Name.length:Int) 100))))+((s[i]).Fields.length:Int))) (by omega)
   have hq':zdq i s (i64.wrap ((i64.wrap ((i64.wrap (n+1))+(i64.wrap (Int.tdiv ((s[i]).Name.length:Int) 100))))+((s[i]).Fields.length:Int))) 0=some q:=hq;obtain ⟨r,hr⟩:=ih (i+1) q (by omega);refine ⟨r,(znj (i':=((i+1:Nat):Int)) ?_).trans hr⟩
   grind [zci,sb,wrap_i64,zK]
 obtain ⟨r,hr⟩:=key s.length 0 0 (by omega);have hr':zdp s 0 0=some r:=hr;exact ⟨_,by unfold zgb;rw [hr',sb]⟩
def zaR (m:Mes) (p:Int):Int:=(m.Fields.getD p.toNat ⟨[],0,0,false,false,0⟩).Number
def insS (κ:Int->Int) (i:Int) (out:List Int):List Int:=out.takeWhile (fun x=>decide (κ x<=κ i))++i::out.dropWhile (fun x=>decide (κ x<=κ i))
def zch (κ:Int->Int):Nat->List Int
 | 0=>[]
 | n+1=>insS κ n (zch κ n)
theorem zzd (κ:Int->Int) (i:Int) (out:List Int):(insS κ i out).Perm (i::out):=by
 unfold insS;refine List.perm_middle.trans ?_;simp_all
theorem zdU :∀{n:Nat} {x:Int},x∈zch κ n↔0<=x/\x<n
 | 0,x=>by
  simp only [zch,xJ,false_iff];omega
 | n+1,x=>by
  rw [zch,(zzd κ n _).mem_iff,xx,zdU];omega
theorem zqS (κ:Int->Int):∀(n:Nat),(zch κ n).length=n
 | 0=>rfl
 | n+1=>by rw [zch,(zzd κ n _).length_eq,ye,zqS κ n]
def zgt (κ:Int->Int) (a b:Int):Prop:=κ a<κ b\/κ a=κ b/\a<b
theorem zBq {κ:Int->Int} {c:Int}:∀{l:List Int},∀x∈l.takeWhile (fun x=>decide (κ x<=c)),κ x<=c/\x∈l:=by
 intro l
 induction l with
 | nil=>intro x hx;simp at hx
 | cons y l ih=>
  intro x hx;rw [uu] at hx
  grind
theorem zAr :∀{l:List Int},l.Pairwise (zgt κ)->∀x∈l.dropWhile (fun x=>decide (κ x<=c)),c<κ x:=by
 intro l
 induction l with
 | nil=>intro _ x hx;simp at hx
 | cons y l ih=>
  intro hp x hx;rw [List.dropWhile_cons] at hx;have hp':=xX.1 hp
  grind [zgt]
theorem zoz (κ:Int->Int):∀(n:Nat),(zch κ n).Pairwise (zgt κ)
 | 0=> .nil
 | n+1=>by
  have ih:=zoz κ n;have hm:∀x∈zch κ n,x<n:=fun x hx=>(zdU.1 hx).2
  rw [zch,insS];have hsplit:(zch κ n).takeWhile (fun x=>decide (κ x<=κ n))++(zch κ n).dropWhile (fun x=>decide (κ x<=κ n))=zch κ n:=pn;have hp:((zch κ n).takeWhile (fun x=>decide (κ x<=κ n))++(zch κ n).dropWhile (fun x=>decide (κ x<=κ n))).Pairwise (zgt κ):=by rw [hsplit];exact ih
  have ht:=zBq (κ:=κ) (c:=κ n) (l:=zch κ n);have hd:=zAr (c:=κ n) ih;have htm:∀x∈(zch κ n).takeWhile (fun x=>decide (κ x<=κ n)),x<n:=fun x hx=>hm x (ht x hx).2
  rw [List.pairwise_append] at hp|-;refine ⟨hp.1,xX.2 ⟨fun x hx=> .inl (hd x hx),hp.2.1⟩,fun a ha b hb=>?_⟩
  grind [zgt]
theorem zAe {κ:Int->Int} {a b:Int} (h:zgt κ a b) (k:zgt κ b a):False:=by unfold zgt at h k;omega
theorem zBk {m:Mes} {i:Nat} {out:List Int} (hi:i<m.Fields.length) (hb:m.Fields.length<=1099511627776) (hol:out.length<=1099511627776) (ho:∀x∈out,0<=x/\x<m.Fields.length):
  ∀(t:List Int) (k:Nat),out.drop k=t->k<=out.length->zcc i m out k=some ((k+(t.takeWhile (fun x=>decide (zaR m x<=zaR m i))).length:Nat):Int):=by
 have ki:zaR m i=(m.Fields[i]).Number:=by unfold zaR;rw [xD,pQ,xM hi];rfl
 intro t
 induction t with
 | nil=>
  intro k hd hk;have:=zhs hd;refine zhe ?_;unfold zbs;rw [uK,sb,uH];simp
 | cons x t ih=>
  intro k hd hk;obtain ⟨hkl,hx,hd'⟩:=zgw hd;have hxo:=ho x (by rw [<-hx];exact xB hkl);have kx:zaR m x=(m.Fields[x.toNat]'(by omega)).Number:=by unfold zaR;rw [pQ,xM (by omega)];rfl
  have hb2:zbs i m out k=if zaR m x<=zaR m i then some (.inl ((k+1:Nat):Int)) else some (.inr (k:Int)):=by
   grind [zbs,sb,wrap_i64,zK]
  rw [uu];by_cases h:zaR m x<=zaR m i
  ·rw [xq h] at hb2;rw [zlk hb2,ih _ hd' (by omega),xq (by simpa using h),ye];congr 2;omega
  ·rw [xp h] at hb2;rw [zhe hb2,xp (by simpa using h)];simp
theorem zBc {m:Mes} (hb:m.Fields.length<=1099511627776):zeF m=some (zch (zaR m) m.Fields.length):=by
 have key:∀(d i:Nat),i+d=m.Fields.length->zcb m (zch (zaR m) i) i=some (zch (zaR m) m.Fields.length):=by
  intro d
  induction d with
  | zero=>
   intro i hi;have:i=m.Fields.length:=by omega
   subst this;refine zlj ?_;unfold zbr
   grind
  | succ d ih=>
   intro i hi;refine (zli (out':=zch (zaR m) (i+1)) (i':=((i+1:Nat):Int)) ?_).trans (ih _ (by omega));have hl:=zqS (zaR m) i;have h2:=zBk (m:=m) (i:=i) (out:=zch (zaR m) i) (by omega) hb (by omega) (fun x hx=>by have:=zdU.1 hx;omega) (zch (zaR m) i) 0 rfl (xC _);have h2':zcc i m (zch (zaR m) i) 0=_:=h2;rw [xL] at h2';have hsp:(zch (zaR m) i).takeWhile (fun x=>decide (zaR m x<=zaR m i))++(zch (zaR m) i).dropWhile (fun x=>decide (zaR m x<=zaR m i))=zch (zaR m) i:=pn
   generalize htk:(zch (zaR m) i).takeWhile (fun x=>decide (zaR m x<=zaR m i))=tk at h2' hsp
   generalize hdk:(zch (zaR m) i).dropWhile (fun x=>decide (zaR m x<=zaR m i))=dk at hsp
   have hins:zch (zaR m) (i+1)=tk++(i:Int)::dk:=by rw [zch,insS,htk,hdk]
   have wY:tk.length+dk.length=i:=by rw [<-hl,<-hsp,xy]
   have c1:cut (zch (zaR m) i) 0 ((tk.length:Nat):Int)=some tk:=by rw [zsr rfl (by omega),<-hsp,qf]
   have c2:cut (zch (zaR m) i) ((tk.length:Nat):Int) ((zch (zaR m) i).length:Int)=some dk:=by rw [zpm rfl rfl (by omega),<-hsp,pN]
   unfold zbr;rw [uJ,h2',sb,c1,sb,zcF (by simp;omega),sb,xG,zcF (by simp;omega),sb,c2,sb,zcF (by simp;omega),sb,uL,hins];simp
 unfold zeF;have h:=key m.Fields.length 0 (by omega);have h':zcb m [] 0=_:=h;rw [h',sb]
abbrev Vw:=zE
def zvw:Vw:=⟨zrec,0,false⟩
def zr (m:Mes) (i:Int):Fld:=m.Fields.getD i.toNat ⟨[],0,0,false,false,0⟩
def vw (m:Mes) (n w:Int):Int⊕(Int×Bool):=
 if fldI m n<0 then .inr (-1,false)
 else if (zr m (fldI m n)).Repeated=true/\kNum (zr m (fldI m n)).Kind=true/\w=2 then .inr (fldI m n,true)
 else if zaY (zr m (fldI m n)).Kind=false\/zaa (zr m (fldI m n)).Kind≠w then .inl 6 else .inr (fldI m n,false)
theorem zdQ (m:Mes) (n:Int):fldI m n= -1/\(∀f∈m.Fields,f.Number≠n)\/∃(i:Nat) (h:i<m.Fields.length),fldI m n=i/\m.Fields[i].Number=n/\∀(j:Nat) (h:j<m.Fields.length),j<i->m.Fields[j].Number≠n:=by
 unfold fldI;cases h:m.Fields.findIdx? (fun f:Fld=>f.Number==n) with
 | none=>
  grind [zmm]
 | some i=>
  right;have h':=h;rw [pO] at h
  grind [zmn]
theorem zbv {m:Mes} {i:Nat} (h:i<m.Fields.length):zr m (i:Int)=m.Fields[i]:=by
 unfold zr;rw [xD,pQ,xM h];rfl
theorem zel (m:Mes) (n w:Int):vw m n w= .inl 6\/vw m n w= .inr (-1,false)/\fldI m n= -1\/∃(i:Nat) (run:Bool),vw m n w= .inr ((i:Int),run)/\fldI m n=i/\i<m.Fields.length:=by
 unfold vw
 grind [zdQ]
def zcn (m:Mes) (b:List UInt8) (at5:Int):Vw×Int:=
 if (zbJ b at5).2≠0 then (zvw,(zbJ b at5).2) else match vw m (zbJ b at5).1.Number (zbJ b at5).1.Wire with
  | .inl c=>(zvw,c)
  | .inr (i,run)=>(⟨(zbJ b at5).1,i,run⟩,0)
theorem zjD {m:Mes} (hm:m.Fields.length<=1152921504606846976) {b:List UInt8} (hb:b.length<=1048576) (at5:Int):zeq m b at5=some (zcn m b at5):=by
 unfold zeq zcn;rw [zFc hb,sb];by_cases h:(zbJ b at5).2=0
 ·rw [itF (by simpa using h),xp (by simpa using h),zDf hm,sb]
  generalize (zbJ b at5).1=r
  unfold vw;rcases zdQ m r.Number with ⟨hf,_⟩| ⟨i,hi,hf,_⟩
  ·grind
  ·rw [hf,uI,xp (by omega),zK rfl hi,sb,zbv hi,zlB,sb,zta,sb,zuR,sb];have e:(if (m.Fields[i]).Repeated=true then (if kNum (m.Fields[i]).Kind=true then some (r.Wire==2) else some false) else some false)=some (decide ((m.Fields[i]).Repeated=true/\kNum (m.Fields[i]).Kind=true/\r.Wire=2)):=by
    grind
   rw [e,sb];by_cases h1:(m.Fields[i]).Repeated=true/\kNum (m.Fields[i]).Kind=true/\r.Wire=2
   ·grind
   ·rw [itF (xT h1),xp h1];have e2:(if (!zaY (m.Fields[i]).Kind)=true then some true else some (zaa (m.Fields[i]).Kind !=r.Wire))=some (decide (zaY (m.Fields[i]).Kind=false\/zaa (m.Fields[i]).Kind≠r.Wire)):=by
     cases zaY (m.Fields[i]).Kind
     ·rfl
     grind
    rw [e2,sb];by_cases h2:zaY (m.Fields[i]).Kind=false\/zaa (m.Fields[i]).Kind≠r.Wire
    ·rw [itT (xQ h2),xq h2];rfl
    grind
 ·rw [itT (by simpa using h),xq h];rfl
def vws (m:Mes) (e:Option (Nat×Int)):List Rec->List Vw×Option (Int×Int)
 | []=>([],e.map fun p=>((p.1:Int),p.2))
 | r::l=>match vw m r.Number r.Wire with
  | .inl c=>([],some (r.From,c))
  | .inr (i,run)=>(⟨r,i,run⟩::(vws m e l).1,(vws m e l).2)
def vwR (r:List Vw×Option (Int×Int)):List Vw×Int×Int:=match r.2 with
 | none=>(r.1,0,0)
 | some (p,c)=>([],p,c)
def zaC (m:Mes) (b:List UInt8):List Vw×Int×Int:=vwR (vws m (spl 0 b).2 (spl 0 b).1)
theorem zDd {m:Mes} (hm:m.Fields.length<=1152921504606846976) {b:List UInt8} (hb:b.length<=1048576) (base:Nat) (l:List UInt8):∀(out:List Vw),base<=b.length->l=b.drop base->out.length<=base->
  zck b m out base=some (match (vws m (spl base l).2 (spl base l).1).2 with| none=> .inl (out++(vws m (spl base l).2 (spl base l).1).1)| some (p,c)=> .inr (p,c)):=by
 refine zha (fun base l=>∀(out:List Vw),base<=b.length->l=b.drop base->out.length<=base->
  zck b m out base=some (match (vws m (spl base l).2 (spl base l).1).2 with| none=> .inl (out++(vws m (spl base l).2 (spl base l).1).1)| some (p,c)=> .inr (p,c))) ?_ ?_ ?_ base l
 ·intro base out hbase hl ho;have:b.length<=base:=by have:=congrArg List.length hl;simp at this;omega
  rw [zdZ];simp only [vws,uj,xY];refine zge ?_;unfold zaM
  grind
 ·intro base l c hl h hc out hbase hld ho;subst hld;have wS:base<b.length:=by have:=qr.2 hl;simp at this;omega
  rw [zfY hl h];simp only [vws,qU];refine zge ?_;unfold zaM
  grind [zbJ,zcn,zjD,sb]
 ·intro base l n w a t hl h _ g1 g2 g3 ih out hbase hld ho;subst hld;simp only [xW] at g3;have wS:base<b.length:=by omega
  rw [zcz hl h];have e:zbJ b base=(⟨n,w,base,(base+a:Nat),(base+t:Nat)⟩,0):=by
   unfold zbJ;rw [xp (by omega),xD,h];push_cast;rfl
  rw [vws];rcases zel m n w with hv| ⟨hv,_⟩| ⟨i,run,hv,_,hi⟩
  ·have e2:zcn m b base=(zvw,6):=by unfold zcn;rw [e];simp only [ne_eq,qb,yu,hv]
   simp only [hv];refine zge ?_;unfold zaM
   grind [zjD,sb]
  ·have e2:zcn m b base=(⟨⟨n,w,base,(base+a:Nat),(base+t:Nat)⟩, -1,false⟩,0):=by unfold zcn;rw [e];simp only [ne_eq,qb,yu,hv]
   simp only [hv];refine (zik (out':=out++[⟨⟨n,w,base,(base+a:Nat),(base+t:Nat)⟩, -1,false⟩]) (atv':=((base+t:Nat):Int)) ?_).trans ?_
   ·unfold zaM
    grind [zjD,sb,zcF]
   ·rw [ih _ (by omega) (by rw [yh]) (by simp;omega)]
    grind
  ·have e2:zcn m b base=(⟨⟨n,w,base,(base+a:Nat),(base+t:Nat)⟩,i,run⟩,0):=by unfold zcn;rw [e];simp only [ne_eq,qb,yu,hv]
   simp only [hv];refine (zik (out':=out++[⟨⟨n,w,base,(base+a:Nat),(base+t:Nat)⟩,i,run⟩]) (atv':=((base+t:Nat):Int)) ?_).trans ?_
   ·unfold zaM
    grind [zjD,sb,zcF]
   ·rw [ih _ (by omega) (by rw [yh]) (by simp;omega)]
    grind
theorem zDc {m:Mes} (hm:m.Fields.length<=1152921504606846976) {b:List UInt8} (hb:b.length<=1048576):zgd m b=some (zaC m b):=by
 unfold zgd;have h:=zDd hm hb 0 b [] (xC _) rfl (xw _);have h':zck b m [] 0=_:=h;rw [h',sb];unfold zaC vwR;cases (vws m (spl 0 b).2 (spl 0 b).1).2 with
 | none=>rfl
 | some p=>rfl
def zo (s:List Mes) (i:Int):Mes:=s.getD i.toNat ⟨[],[]⟩
theorem zcg {s:List Mes} {i:Nat} (h:i<s.length):zo s (i:Int)=s[i]:=by
 unfold zo;rw [xD,pQ,xM h];rfl
def valB (b:List UInt8) (r:Rec):List UInt8:=(b.drop r.At.toNat).take (r.To.toNat - r.At.toNat)
abbrev zme:=Option (Int->List UInt8->Option (Int×Int))
def zhF (f:Fld) (run:Bool) (sub:zme) (r:Rec) (v:List UInt8):Option (Int×Int):=
 if run=true then (if (zlp f.Kind v).2≠0 then some (r.From,(zlp f.Kind v).2) else none)
 else if f.Kind=15/\zgW v=false then some (r.From,7)
 else if f.Kind=17 then (match sub with
  | none=>some (r.From,8)
  | some g=>match g f.Of v with
   | some (p,c)=>some (r.At+p,c)
   | none=>none)
 else none
def zcA (m:Mes) (sub:zme) (b:List UInt8) (r:Rec):Option (Int×Int):=match vw m r.Number r.Wire with
 | .inl c=>some (r.From,c)
 | .inr (i,run)=>if i<0 then none else zhF (zr m i) run sub r (valB b r)
def zcm (m:Mes) (sub:zme) (b:List UInt8) (x:List Rec×Option (Nat×Int)):Option (Int×Int):=match x.1.findSome? (zcA m sub b) with
 | some p=>some p
 | none=>x.2.map fun p=>((p.1:Int),p.2)
def zN (s:List Mes):Nat->Int->List UInt8->Option (Int×Int)
 | 0,k,b=>zcm (zo s k) none b (spl 0 b)
 | d+1,k,b=>zcm (zo s k) (some (zN s d)) b (spl 0 b)
def ztF (g:Int->List UInt8->Option (Int×Int)):Prop:=∀k v p c,g k v=some (p,c)->3<=c/\c<=8/\0<=p/\p<v.length
theorem zHe (k:Int) :(zlp k b).2=0\/(zlp k b).2=2/\kNum k=false\/(zlp k b).2=3\/(zlp k b).2=4:=by
 unfold zlp
 grind [zCS]
theorem zBz (h:vw m n w= .inr (i,true)):kNum (zr m i).Kind=true/\(zr m i).Repeated=true/\w=2:=by
 unfold vw at h
 grind
theorem zxY (hr:r.At=((base+a:Nat):Int)) (ht:r.To=((base+t:Nat):Int)) (h:base+t<=b.length) (hat:a<=t):(valB b r).length=t - a:=by
 unfold valB;rw [hr,ht];simp;omega
theorem zzP {m:Mes} {sub:zme} {b:List UInt8} (hg:∀g,sub=some g->ztF g) {n w:Int} {base a t:Nat} (h1:1<=a) (hat:a<=t) (ht:base+t<=b.length) {p c:Int}
  (h:zcA m sub b ⟨n,w,base,(base+a:Nat),(base+t:Nat)⟩=some (p,c)):3<=c/\c<=8/\0<=p/\p<b.length:=by
 unfold zcA at h;rcases zel m n w with hv| ⟨hv,_⟩| ⟨i,run,hv,_,hi⟩
 ·grind
 ·grind
 ·simp only [hv] at h;rw [xp (by omega)] at h;unfold zhF at h;split at h
  ·grind [zBz,zHe]
  ·split at h
   ·grind
   ·split at h
    ·cases sub with
     | none=>simp only at h;cases h;(try dsimp only);omega
     | some g=>
      simp only at h;have hl:=zxY (b:=b) (r:=⟨n,w,base,(base+a:Nat),(base+t:Nat)⟩) rfl rfl ht hat;cases hgv:g (zr m i).Of (valB b ⟨n,w,base,(base+a:Nat),(base+t:Nat)⟩) with
      | none=>rw [hgv] at h;cases h
      | some q=>
       obtain ⟨q1,q2⟩:=q;rw [hgv] at h;have:=hg g rfl _ _ _ _ hgv
       grind
    ·cases h
theorem zzc {m:Mes} {sub:zme} {b:List UInt8} (hg:∀g,sub=some g->ztF g) (base:Nat) (l:List UInt8):l=b.drop base->base<=b.length->∀p c,zcm m sub b (spl base l)=some (p,c)->3<=c/\c<=8/\0<=p/\p<b.length:=by
 refine zha (fun base l=>l=b.drop base->base<=b.length->∀p c,zcm m sub b (spl base l)=some (p,c)->3<=c/\c<=8/\0<=p/\p<b.length) ?_ ?_ ?_ base l
 ·grind [zcm,zdZ]
 ·intro base l c' hl h hc hld hb p c h2;have wS:base<b.length:=by subst hld;have:=qr.2 hl;simp at this;omega
  unfold zcm at h2;rw [zfY hl h] at h2
  grind
 ·intro base l n w a t hl h _ g1 g2 g3 ih hld hb p c h2;have hbl:base+t<=b.length:=by subst hld;simp at g3;omega
  unfold zcm at h2 ih;rw [zcz hl h] at h2;simp only [uv] at h2;cases hs:zcA m sub b ⟨n,w,base,(base+a:Nat),(base+t:Nat)⟩ with
  | some q=>rw [hs] at h2;cases h2;exact zzP hg g1 g2 hbl hs
  | none=>
   simp_all
theorem zjt (s:List Mes):∀(d:Nat),ztF (zN s d)
 | 0=>fun k v p c h=>zzc (fun g hg=>by cases hg) 0 v rfl (xC _) p c h
 | d+1=>fun k v p c h=>zzc (fun g hg=>by cases hg;exact zjt s d) 0 v rfl (xC _) p c h
theorem zwz {s:List Mes} {k:Nat} {m:Mes} (hk:∃h:k<s.length,s[k]=m) (hm:m.Fields.length<=1152921504606846976) {b:List UInt8} (hb:b.length<=1048576) {d:Int} (hd:0<=d/\d<=64) {sub:zme}
  {rec:List ze->Int->List UInt8->Int->Option (Int×Int)} (hg:∀g,sub=some g->ztF g) (h0:sub=none↔d=0)
  (hs:∀g,sub=some g->∀f∈m.Fields,f.Kind=17->∀v:List UInt8,v.length<=b.length->rec s f.Of v (d - 1)=some ((g f.Of v).getD (0,0))) (base:Nat) (l:List UInt8):
  l=b.drop base->base<=b.length->zbb b d k rec s base=some (match zcm m sub b (spl base l) with| none=> .inl ()| some p=> .inr p):=by
 obtain ⟨hkl,hke⟩:=hk;have e1:idx s (k:Int)=some m:=by rw [zK rfl hkl,hke]
 refine zha (fun base l=>l=b.drop base->base<=b.length->zbb b d k rec s base=some (match zcm m sub b (spl base l) with| none=> .inl ()| some p=> .inr p)) ?_ ?_ ?_ base l
 ·intro base hl hbase;have:b.length<=base:=by have:=congrArg List.length hl;simp at this;omega
  unfold zcm;rw [zdZ];refine zfr ?_;unfold zba
  grind
 ·intro base l c hl h hc hld hbase;subst hld;have wS:base<b.length:=by have:=qr.2 hl;simp at this;omega
  unfold zcm;rw [zfY hl h];refine zfr ?_;unfold zba;have e:zbJ b base=(zrec,c):=by unfold zbJ;rw [xp (by omega),xD,h]
  grind [zcn,sb,zjD]
 ·intro base l n w a t hl h _ g1 g2 g3 ih hld hbase;subst hld;simp only [xW] at g3;have wS:base<b.length:=by omega
  have e:zbJ b base=(⟨n,w,base,(base+a:Nat),(base+t:Nat)⟩,0):=by
   unfold zbJ;rw [xp (by omega),xD,h];push_cast;rfl
  have ih':=ih (by rw [yh]) (by omega)
  have hfr:zcm m sub b (spl base (b.drop base))=match zcA m sub b ⟨n,w,base,(base+a:Nat),(base+t:Nat)⟩ with
    | some p=>some p
    | none=>zcm m sub b (spl (base+t) ((b.drop base).drop t)):=by
   unfold zcm;rw [zcz hl h];simp only [uv];cases zcA m sub b ⟨n,w,base,(base+a:Nat),(base+t:Nat)⟩<;>rfl
  have hcut:cut b ((base+a:Nat):Int) ((base+t:Nat):Int)=some (valB b ⟨n,w,base,(base+a:Nat),(base+t:Nat)⟩):=by
   grind [valB,zgv]
  have hvl:=zxY (b:=b) (r:=⟨n,w,base,(base+a:Nat),(base+t:Nat)⟩) rfl rfl (by omega) g2
  -- the body, by what the record's fault is
  have kw:zba b d k rec s base=match zcA m sub b ⟨n,w,base,(base+a:Nat),(base+t:Nat)⟩ with
    | some p=>some (.inr (.inr p))
    | none=>some (.inl ((base+t:Nat):Int)):=by
   unfold zba zcA;rw [uJ,e1,sb,zjD hm hb,sb];rcases zel m n w with hv| ⟨hv,_⟩| ⟨i,run,hv,_,hi⟩
   ·grind [zcn]
   ·grind [zcn,sb]
   ·have e2:zcn m b base=(⟨⟨n,w,base,(base+a:Nat),(base+t:Nat)⟩,i,run⟩,0):=by unfold zcn;rw [e];simp only [ne_eq,qb,yu,hv]
    have hfm:zr m (i:Int)∈m.Fields:=by rw [zbv hi];exact xB hi
    rw [e2,uH];simp only [hv];rw [hcut,sb,itT (by simp),sb,zK rfl hi,sb,xp (show ¬((i:Int)<0) by omega),<-zbv hi]
    generalize hvv:valB b ⟨n,w,base,(base+a:Nat),(base+t:Nat)⟩=v at hvl|-
    generalize zr m (i:Int)=f at hfm|-
    unfold zhF;cases run
    ·rw [itF (c:=false) rfl,xp (show ¬(false=true) by simp)];have e15:(if (f.Kind==15)=true then (zcG v>>=fun wV=>some (!wV)) else some false)=some (decide (f.Kind=15/\zgW v=false)):=by
      rw [zDk (by omega),sb];by_cases h15:f.Kind=15
      ·simp_all
      grind
     rw [e15,sb];by_cases h15:f.Kind=15/\zgW v=false
     ·grind
     ·rw [itF (xT h15),xp h15];by_cases wT:f.Kind=17
      ·rw [itT (by simpa using wT),xq wT];cases hsub:sub with
       | none=>
        grind
       | some g=>
        have hd0:d≠0:=fun hh=>by rw [h0.2 hh] at hsub;cases hsub
        rw [itF (by simpa using hd0),wrap_i64 (x:=d - 1) (by omega),hs g hsub f hfm wT v (by omega),sb];cases hgv:g f.Of v with
        | none=>simp only [Option.getD_none,hgv];rw [uH]
        | some q=>
         obtain ⟨q1,q2⟩:=q;have:=hg g hsub _ _ _ _ hgv
         grind [wrap_i64]
      grind
    grind [zxz,sb]
  rw [hfr];cases hst:zcA m sub b ⟨n,w,base,(base+a:Nat),(base+t:Nat)⟩ with
  | some p=>rw [hst] at kw;rw [zfr kw]
  | none=>rw [hst] at kw;rw [zmc kw,ih']
theorem zyx {s:List Mes} (hr:zdA s):∀(d fuel:Nat),d<=64->d<fuel->∀(k:Nat) (b:List UInt8),k<s.length->b.length<=1048576->
  zaW fuel s k b d=some ((zN s d k b).getD (0,0)):=by
 intro d
 induction d with
 | zero=>
  intro fuel hd hf k b hk hb;obtain ⟨fuel,rfl⟩:∃q,fuel=q+1:=⟨fuel - 1,by omega⟩;have h:=zwz (s:=s) (k:=k) (m:=s[k]) ⟨hk,rfl⟩ (by have:=hr.few _ (xB hk);omega) hb (d:=0) (by omega) (sub:=none) (rec:=zaW fuel) (fun g hg=>by cases hg) (by simp) (fun g hg=>by cases hg) 0 b rfl (xC _);have h':zbb b 0 k (zaW fuel) s 0=_:=h;show zbQ (zaW fuel) s k b 0=_;unfold zbQ;rw [h',sb,zN,zcg hk]
  grind
 | succ d ih=>
  intro fuel hd hf k b hk hb;obtain ⟨fuel,rfl⟩:∃q,fuel=q+1:=⟨fuel - 1,by omega⟩
  have h:=zwz (s:=s) (k:=k) (m:=s[k]) ⟨hk,rfl⟩ (by have:=hr.few _ (xB hk);omega) hb (d:=((d+1:Nat):Int)) (by omega) (sub:=some (zN s d)) (rec:=zaW fuel)
   (fun g hg=>by cases hg;exact zjt s d) (by constructor<;>intro h<;>first| cases h| omega)
   (fun g hg f hf17 wT v hv=>by
    cases hg;have hof:=(hr.fld _ (xB hk) f hf17).sub wT;obtain ⟨q,hq⟩:∃q:Nat,f.Of=q:=⟨f.Of.toNat,by omega⟩;have e:((d+1:Nat):Int) - 1=(d:Int):=by omega
    rw [e,hq];exact ih fuel (by omega) (by omega) q v (by omega) (by omega)) 0 b rfl (xC _)
  have h':zbb b ((d+1:Nat):Int) k (zaW fuel) s 0=_:=h;show zbQ (zaW fuel) s k b ((d+1:Nat):Int)=_;unfold zbQ;rw [h',sb,zN,zcg hk]
  grind
def argS (s:List Mes) (root d:Int):Int:=if zkC s=false then 9 else if root<0\/root>=s.length\/d<0\/d>64 then 2 else 0
theorem zEZ {s:List Mes} (hw:WS s) (root d:Int):zfD s root d=some (argS s root d):=by
 unfold zfD argS
 grind [zyy,sb]
def zaT (s:List Mes) (root:Int) (b:List UInt8) (d:Int):Int×Int:=if argS s root d≠0 then (0,argS s root d) else (zN s d.toNat root b).getD (0,0)
theorem zng (h:argS s root d=0):zdA s/\0<=root/\root<s.length/\0<=d/\d<=64:=by
 unfold argS at h
 grind [zHP]
theorem zry {s:List Mes} (hw:WS s) (root:Int) {b:List UInt8} (hb:b.length<=1048576) (d:Int) {fuel:Nat} (hf:64<fuel):zdL fuel s root b d=some (zaT s root b d):=by
 unfold zdL zaT;rw [zEZ hw,sb];by_cases h:argS s root d=0
 ·obtain ⟨hr,h1,h2,h3,h4⟩:=zng h;obtain ⟨k,rfl⟩:∃k:Nat,root=k:=⟨root.toNat,by omega⟩
  grind [zyx,sb]
 grind
def is11 (s:List Mes) (root:Int) (b:List UInt8) (d:Int):Bool:=(zaT s root b d).2==0
theorem zcU :zcm m sub b x=none↔(∀r∈x.1,zcA m sub b r=none)/\x.2=none:=by
 unfold zcm;cases h:x.1.findSome? (zcA m sub b) with
 | some p=>
  grind
 | none=>
  rw [List.findSome?_eq_none_iff] at h;cases hx:x.2 with
  | none=>exact ⟨fun _=>⟨h,rfl⟩,fun _=>rfl⟩
  | some p=>exact ⟨(fun h'=>nomatch h'),fun ⟨_,h2⟩=>nomatch h2⟩
theorem zve (z:List UInt8) (h0:0<=r.To) (h:r.To<=b.length):valB (b++z) r=valB b r:=by
 unfold valB;by_cases ha:r.At.toNat<=b.length
 ·grind
 ·have e:r.To.toNat - r.At.toNat=0:=by omega
  grind
theorem zsf (a b:List UInt8) (h0:0<=r.At) (h1:r.At<=r.To):valB (a++b) (zlJ a.length r)=valB b r:=by
 unfold valB zlJ;simp only;have e1:(r.At+(a.length:Int)).toNat=a.length+r.At.toNat:=by omega
 have e2:(r.To+(a.length:Int)).toNat - (a.length+r.At.toNat)=r.To.toNat - r.At.toNat:=by omega
 simp_all
theorem ztm (hn:r'.Number=r.Number) (hw:r'.Wire=r.Wire) (hv:valB b' r'=valB b r):zcA m sub b' r'=none↔zcA m sub b r=none:=by
 unfold zcA;rw [hn,hw,hv];cases vw m r.Number r.Wire with
 | inl c=>simp
 | inr p=>
  simp only;by_cases hi:p.1<0
  ·simp [hi]
  ·rw [xp hi,xp hi];unfold zhF
   grind
theorem zum (base:Nat) (l:List UInt8):∀r∈(spl base l).1,(base:Int)<=r.From/\r.From<r.At/\r.At<=r.To/\r.To<=base+l.length:=by
 refine zha (fun base l=>∀r∈(spl base l).1,(base:Int)<=r.From/\r.From<r.At/\r.At<=r.To/\r.To<=base+l.length) ?_ ?_ ?_ base l
 ·intro base r hr;rw [zdZ] at hr;cases hr
 ·intro base l c hl h _ r hr;rw [zfY hl h] at hr;cases hr
 ·intro base l n w a t hl h _ g1 g2 g3 ih r hr;rw [zcz hl h] at hr
  grind
theorem zuF (z:List UInt8) (h:zcm m sub a (spl 0 a)=none):zcm m sub (a++z) (spl 0 (a++z))=none↔zcm m sub z (spl 0 z)=none:=by
 rw [zcU] at h;have hap:=zxP z 0 a h.2;have hsh:=zzM a.length 0 z;rw [xL] at hap hsh;rw [hsh] at hap;rw [zcU,zcU,hap];simp only [xA,xz];constructor
 ·rintro ⟨h1,h2⟩;refine ⟨fun r hr=>?_,by cases hz:(spl 0 z).2 with| none=>rfl| some p=>rw [hz] at h2;cases h2⟩;have hb:=zum 0 z r hr;have:=h1 (zlJ a.length r) (.inr ⟨r,hr,rfl⟩);exact (ztm (r:=r) (r':=zlJ a.length r) rfl rfl (zsf a z (by omega) (by omega))).1 this
 ·rintro ⟨h1,h2⟩;refine ⟨fun r hr=>?_,by rw [h2];rfl⟩;rcases hr with hr| ⟨r,hr,rfl⟩
  ·have hb:=zum 0 a r hr
   grind [ztm,zve]
  ·have hb:=zum 0 z r hr;exact (ztm (r:=r) (r':=zlJ a.length r) rfl rfl (zsf a z (by omega) (by omega))).2 (h1 r hr)
theorem zhu (s:List Mes) (d:Nat) (k:Int) (z:List UInt8) (h:zN s d k a=none):zN s d k (a++z)=none↔zN s d k z=none:=by
 cases d with
 | zero=>exact zuF z h
 | succ d=>exact zuF z h
theorem zCk :is11 s root b d=true↔argS s root d=0/\zN s d.toNat root b=none:=by
 unfold is11 zaT;by_cases h:argS s root d=0
 ·rw [xp (by simpa using h)];cases hf:zN s d.toNat root b with
  | none=>simp [h]
  | some p=>
   obtain ⟨p,c⟩:=p;have:=zjt s d.toNat root b p c hf
   grind
 grind
abbrev Msg:=zd
abbrev Vlu:=zc
mutual
def szM:Msg->Nat
 | ⟨vs,_⟩=>1+szVs vs
def szVs:List Vlu->Nat
 | []=>0
 | v::l=>szV v+szVs l
def szV:Vlu->Nat
 | ⟨_,_,_,s⟩=>1+szMs s
def szMs:List Msg->Nat
 | []=>0
 | x::l=>szM x+szMs l
end
theorem zcB (x:Msg):szM x=1+szVs x.Values:=by cases x;rw [szM]
theorem zfS (v:Vlu):szV v=1+szMs v.Subs:=by cases v;rw [szV]
theorem zeK :∀{l:List Vlu},v∈l->szV v<=szVs l
 | [],h=>by cases h
 | u::l,h=>by
  rw [szVs];rcases xx.1 h with rfl| h
  ·omega
  ·have:=zeK h;omega
theorem zeJ :∀{l:List Msg},x∈l->szM x<=szMs l
 | [],h=>by cases h
 | u::l,h=>by
  rw [szMs];rcases xx.1 h with rfl| h
  ·omega
  ·have:=zeJ h;omega
mutual
/-- Within the reach of what a law is handed. -/
def bdM:Msg->Prop
 | ⟨vs,u⟩=>vs.length*80<=140737488351232/\(u.length*16<=140737488351232/\∀t∈u,t.length<=140737488351232)/\bdVs vs
def bdVs:List Vlu->Prop
 | []=>True
 | v::l=>bdV v/\bdVs l
def bdV:Vlu->Prop
 | ⟨n,w,t,s⟩=>(Lit.int .i64 n).wf=true/\(w.length*8<=140737488351232/\∀x∈w,0<=x/\x<=18446744073709551615)/\(t.length*16<=140737488351232/\∀x∈t,x.length<=140737488351232)/\s.length*48<=140737488351232/\bdMs s
def bdMs:List Msg->Prop
 | []=>True
 | x::l=>bdM x/\bdMs l
end
theorem zkw (x:Msg):bdM x↔x.Values.length*80<=140737488351232/\(x.Unknown.length*16<=140737488351232/\∀t∈x.Unknown,t.length<=140737488351232)/\bdVs x.Values:=by cases x;simp only [bdM]
theorem zhZ (v:Vlu):bdV v↔(Lit.int .i64 v.Number).wf=true/\(v.Words.length*8<=140737488351232/\∀x∈v.Words,0<=x/\x<=18446744073709551615)/\(v.Texts.length*16<=140737488351232/\∀x∈v.Texts,x.length<=140737488351232)/\v.Subs.length*48<=140737488351232/\bdMs v.Subs:=by cases v;simp only [bdV]
theorem zeU:∀{l:List Vlu},bdVs l↔∀v∈l,bdV v
 | []=>by simp [bdVs]
 | v::l=>by rw [bdVs,zeU (l:=l)];simp
theorem zfx:∀{l:List Msg},bdMs l↔∀v∈l,bdM v
 | []=>by simp [bdMs]
 | v::l=>by rw [bdMs,zfx (l:=l)];simp
section
open Classical
noncomputable def zkH {α:Type} (x y:α):Bool:=decide (x=y)
theorem zgh {α:Type} {x y:α}:zkH x y=true↔x=y:=by unfold zkH;simp
theorem zKf:∀(fuel:Nat),(∀x y:Msg,szM x<fuel->bdM x->zbi fuel x y=some (zkH x y))/\∀v u:Vlu,szV v<fuel->bdV v->zbt fuel v u=some (zkH v u)
 | 0=>⟨fun x y h=>by omega,fun v u h=>by omega⟩
 | fuel+1=>by
  obtain ⟨ih1,ih2⟩:=zKf fuel;refine ⟨fun x y hs hb=>?_,fun v u hs hb=>?_⟩
  ·obtain ⟨b1,⟨b2,b3⟩,b4⟩:=(zkw x).1 hb;rw [zcB] at hs;show zeG (zbi fuel) (zbt fuel) x y=_;unfold zeG;by_cases hl:x.Values.length=y.Values.length/\x.Unknown.length=y.Unknown.length
   ·rw [itF (by simp [hl.1,hl.2])];have hv:∀(i:Nat) (hi:i<x.Values.length) (hi':i<y.Values.length),zbt fuel x.Values[i] y.Values[i]=some (zkH x.Values[i] y.Values[i]):=fun i hi hi'=>by
     have hm:=xB hi;have:=zeK hm;exact ih2 _ _ (by omega) (zeU.1 b4 _ hm)
    have h1:=zlH x.Values y.Values (fun i=>zcR x y (zbt fuel) i) hl.1 (by
      refine zhK ?_;unfold zbT;rw [uI])
     (fun i hi hi'=>by
      by_cases hp:x.Values[i]=y.Values[i]
      ·rw [xq hp];refine zmN ?_;unfold zbT;rw [uJ,zK rfl hi,sb,zK rfl hi',sb,hv i hi hi',sb,itF (by rw [zgh.2 hp];rfl),uL];push_cast;rfl
      ·rw [xp hp];refine zhK ?_;unfold zbT
       have:zkH x.Values[i] y.Values[i]=false:=by cases hq:zkH x.Values[i] y.Values[i] with
        | false=>rfl
        | true=>exact absurd (zgh.1 hq) hp
       rw [uJ,zK rfl hi,sb,zK rfl hi',sb,hv i hi hi',sb,itT (by rw [this];rfl)])
     x.Values.length 0 (by omega)
    have h1':zcR x y (zbt fuel) 0=_:=h1;have h2:=zlH x.Unknown y.Unknown (fun i=>zcS x y i) hl.2 (by
      refine zhL ?_;unfold zbU;rw [uI])
     (fun i hi hi'=>by
      by_cases hp:x.Unknown[i]=y.Unknown[i]
      ·rw [xq hp];refine zmO ?_;unfold zbU;rw [uJ,zK rfl hi,sb,zK rfl hi',sb,itF (by simp [hp]),uL];push_cast;rfl
      ·rw [xp hp];refine zhL ?_;unfold zbU;rw [uJ,zK rfl hi,sb,zK rfl hi',sb,itT (by simp [hp])])
     x.Unknown.length 0 (by omega)
    have h2':zcS x y 0=_:=h2;rw [h1',sb];simp only [yd];by_cases e1:x.Values=y.Values
    ·rw [xq e1];simp only;rw [h2',sb];simp only [yd];by_cases e2:x.Unknown=y.Unknown
     ·rw [xq e2,zgh.2 (by cases x;cases y;simp only at e1 e2;rw [e1,e2])]
     ·rw [xp e2];cases hq:zkH x y with
      | false=>rfl
      | true=>exact absurd (by rw [zgh.1 hq]) e2
    ·rw [xp e1];cases hq:zkH x y with
     | false=>rfl
     | true=>exact absurd (by rw [zgh.1 hq]) e1
   ·rw [uJ];cases hq:zkH x y with
    | false=>rfl
    | true=>exact absurd (by rw [zgh.1 hq];exact ⟨rfl,rfl⟩) hl
  ·obtain ⟨b0,⟨b1,_⟩,⟨b2,b3⟩,b4,b5⟩:=(zhZ v).1 hb;rw [zfS] at hs;show zcw (zbi fuel) (zbt fuel) v u=_;unfold zcw;have no:(v.Number≠u.Number\/v.Words≠u.Words\/v.Texts≠u.Texts\/v.Subs≠u.Subs)->zkH v u=false:=fun h=>by
    cases hq:zkH v u with
    | false=>rfl
    | true=>
     have:=zgh.1 hq
     grind
   by_cases hl:v.Number=u.Number/\v.Words.length=u.Words.length/\v.Texts.length=u.Texts.length/\v.Subs.length=u.Subs.length
   ·rw [itF (by simp [hl.1,hl.2.1,hl.2.2.1,hl.2.2.2])];have hv:∀(i:Nat) (hi:i<v.Subs.length) (hi':i<u.Subs.length),zbi fuel v.Subs[i] u.Subs[i]=some (zkH v.Subs[i] u.Subs[i]):=fun i hi hi'=>by
     have hm:=xB hi;have:=zeJ hm;exact ih1 _ _ (by omega) (zfx.1 b5 _ hm)
    have h1:=zlH v.Words u.Words (fun i=>zbo v u i) hl.2.1 (by
      refine zgn ?_;unfold zaO;rw [uI])
     (fun i hi hi'=>by
      by_cases hp:v.Words[i]=u.Words[i]
      ·rw [xq hp];refine zka ?_;unfold zaO;rw [uJ,zK rfl hi,sb,zK rfl hi',sb,itF (by simp [hp]),uL];push_cast;rfl
      ·rw [xp hp];refine zgn ?_;unfold zaO;rw [uJ,zK rfl hi,sb,zK rfl hi',sb,itT (by simp [hp])])
     v.Words.length 0 (by omega)
    have h1':zbo v u 0=_:=h1;have h2:=zlH v.Texts u.Texts (fun i=>zbp v u i) hl.2.2.1 (by
      refine zgo ?_;unfold zaP;rw [uI])
     (fun i hi hi'=>by
      by_cases hp:v.Texts[i]=u.Texts[i]
      ·rw [xq hp];refine zkb ?_;unfold zaP;rw [uJ,zK rfl hi,sb,zK rfl hi',sb,itF (by simp [hp]),uL];push_cast;rfl
      ·rw [xp hp];refine zgo ?_;unfold zaP;rw [uJ,zK rfl hi,sb,zK rfl hi',sb,itT (by simp [hp])])
     v.Texts.length 0 (by omega)
    have h2':zbp v u 0=_:=h2;have h3:=zlH v.Subs u.Subs (fun i=>zbq v u (zbi fuel) i) hl.2.2.2 (by
      refine zgp ?_;unfold zaQ;rw [uI])
     (fun i hi hi'=>by
      by_cases hp:v.Subs[i]=u.Subs[i]
      ·rw [xq hp];refine zkc ?_;unfold zaQ;rw [uJ,zK rfl hi,sb,zK rfl hi',sb,hv i hi hi',sb,itF (by rw [zgh.2 hp];rfl),uL];push_cast;rfl
      ·rw [xp hp];refine zgp ?_;unfold zaQ
       have:zkH v.Subs[i] u.Subs[i]=false:=by cases hq:zkH v.Subs[i] u.Subs[i] with
        | false=>rfl
        | true=>exact absurd (zgh.1 hq) hp
       rw [uJ,zK rfl hi,sb,zK rfl hi',sb,hv i hi hi',sb,itT (by rw [this];rfl)])
     v.Subs.length 0 (by omega)
    have h3':zbq v u (zbi fuel) 0=_:=h3;rw [h1',sb];simp only [yd];by_cases e1:v.Words=u.Words
    ·rw [xq e1];simp only;rw [h2',sb];simp only [yd];by_cases e2:v.Texts=u.Texts
     ·rw [xq e2];simp only;rw [h3',sb];simp only [yd];by_cases e3:v.Subs=u.Subs
      ·rw [xq e3,zgh.2 (by cases v;cases u;simp only at e1 e2 e3 hl;rw [hl.1,e1,e2,e3])]
      grind
     grind
    grind
   grind
end
theorem zBb (y:Msg) (hf:szM x<fuel) (hb:bdM x):zbi fuel x y=some (zkH x y):=(zKf fuel).1 x y hf hb
def zaq (v:Vlu):Nat:=v.Words.length+v.Texts.length+v.Subs.length
theorem zFb (hb:v.Words.length<=140737488351232/\v.Texts.length<=140737488351232/\v.Subs.length<=140737488351232):zfE v=some ((zaq v:Nat):Int):=by
 unfold zfE zaq;rw [wrap_i64 (x:=(v.Words.length:Int)+(v.Texts.length:Int)) (by omega),uL];push_cast;rfl
mutual
def dM:Msg->Nat
 | ⟨vs,_⟩=>dVs vs
def dVs:List Vlu->Nat
 | []=>0
 | v::l=>max (dV v) (dVs l)
def dV:Vlu->Nat
 | ⟨_,_,_,s⟩=>dMs s
def dMs:List Msg->Nat
 | []=>0
 | x::l=>max (1+dM x) (dMs l)
end
theorem zFI (x:Msg):dM x=dVs x.Values:=by cases x;rw [dM]
theorem zBV (v:Vlu):dV v=dMs v.Subs:=by cases v;rw [dV]
theorem zvy :∀{l:List Vlu},v∈l->dV v<=dVs l
 | [],h=>by cases h
 | u::l,h=>by
  rw [dVs];rcases xx.1 h with rfl| h
  ·omega
  ·have:=zvy h;omega
theorem zAq :∀{l:List Msg},x∈l->1+dM x<=dMs l
 | [],h=>by cases h
 | u::l,h=>by
  rw [dMs];rcases xx.1 h with rfl| h
  ·omega
  ·have:=zAq h;omega
structure Th where
 fi:Int
 run:Bool
 val:List UInt8
 raw:List UInt8
def rawB (b:List UInt8) (r:Rec):List UInt8:=(b.drop r.From.toNat).take (r.To.toNat - r.From.toNat)
def thOf (b:List UInt8) (t:Vw):Th:=⟨t.Field,t.Run,valB b t.R,rawB b t.R⟩
def ths (m:Mes) (b:List UInt8):List Th:=(zaC m b).1.map (thOf b)
def wt:List Th->Nat
 | []=>0
 | t::l=>t.val.length+1+wt l
theorem zBB:∀(l:List Th),l.length<=wt l
 | []=>by simp [wt]
 | t::l=>by have:=zBB l;simp only [ye,wt];omega
theorem zsj :∀{l:List Th},t∈l->t.val.length+1<=wt l
 | [],h=>by cases h
 | u::l,h=>by
  rw [wt];rcases xx.1 h with rfl| h
  ·omega
  ·have:=zsj h;omega
theorem zGR :∀{l:List Rec} {t:Vw},t∈(vws m e l).1->t.R∈l
 | [],t,h=>by simp [vws] at h
 | r::l,t,h=>by
  rw [vws] at h;cases hv:vw m r.Number r.Wire with
  | inl c=>rw [hv] at h;simp at h
  | inr p=>
   rw [hv] at h;rcases xx.1 h with rfl| h
   ·grind
   ·exact xt _ (zGR h)
theorem zGZ (h:t∈(zaC m b).1):t.R∈(spl 0 b).1:=by
 unfold zaC vwR at h;split at h
 ·exact zGR h
 ·simp at h
theorem zBD (h:t∈(zaC m b).1):0<=t.R.From/\t.R.From<t.R.At/\t.R.At<=t.R.To/\t.R.To<=b.length:=by
 have:=zum 0 b _ (zGZ h);simpa using this
theorem zOd (b:List UInt8):∀(base:Nat) (l:List UInt8),l=b.drop base->base<=b.length->wt ((vws m e (spl base l).1).1.map (thOf b))<=l.length:=by
 intro base l;refine zha (fun base l=>l=b.drop base->base<=b.length->wt ((vws m e (spl base l).1).1.map (thOf b))<=l.length) ?_ ?_ ?_ base l
 ·intro base _ _;rw [zdZ];simp [vws,wt]
 ·intro base l c hl h _ _ _;rw [zfY hl h];simp [vws,wt]
 ·intro base l n w a t hl h _ g1 g2 g3 ih hld hbase;have wY:l.length=b.length - base:=by rw [hld];simp
  have ih':=ih (by rw [hld,yh]) (by omega);rw [zcz hl h,vws];cases hv:vw m n w with
  | inl c=>simp [wt]
  | inr p=>
   simp only [xH,wt,thOf,xW] at ih'|-;rw [zxY (b:=b) (base:=base) (a:=a) (t:=t) rfl rfl (by omega) g2];omega
theorem zoB (m:Mes) (b:List UInt8):wt (ths m b)<=b.length:=by
 unfold ths zaC vwR;split
 ·exact zOd b 0 b rfl (xC _)
 ·simp [wt]
abbrev zce:=List UInt8×Bool×List Int×List Str×List Msg
def stp (g:Int->List UInt8->Msg) (f:Fld) (a:zce) (t:Th):zce:=
 if t.run=true then (a.1,true,(if f.Repeated=true then a.2.2.1 else [])++(zai f.Kind t.val).1,(if f.Repeated=true then a.2.2.2.1 else []),a.2.2.2.2)
 else if kNum f.Kind=true then (a.1,true,(if f.Repeated=true then a.2.2.1 else [])++[(zlG f.Kind t.val).1],(if f.Repeated=true then a.2.2.2.1 else []),a.2.2.2.2)
 else if f.Kind=17/\f.Repeated=true then (a.1,true,(if f.Repeated=true then a.2.2.1 else []),(if f.Repeated=true then a.2.2.2.1 else []),a.2.2.2.2++[g f.Of t.val])
 else if f.Kind=17 then (a.1++t.val,true,(if f.Repeated=true then a.2.2.1 else []),(if f.Repeated=true then a.2.2.2.1 else []),a.2.2.2.2)
 else (a.1,true,(if f.Repeated=true then a.2.2.1 else []),(if f.Repeated=true then a.2.2.2.1 else [])++[t.val],a.2.2.2.2)
def accF (g:Int->List UInt8->Msg) (f:Fld) (i:Int):zce->List Th->zce
 | a,[]=>a
 | a,t::l=>accF g f i (if t.fi=i then stp g f a t else a) l
theorem zmf (g:Int->List UInt8->Msg) (f:Fld) (i:Int):∀(a:zce) (l m:List Th),accF g f i a (l++m)=accF g f i (accF g f i a l) m
 | a,[],m=>rfl
 | a,t::l,m=>by simp only [yj,accF];exact zmf g f i _ l m
def wA (a:zce):Nat:=a.1.length+a.2.2.1.length+a.2.2.2.1.length+a.2.2.2.2.length
def wJ (a:zce):Nat:=a.1.length+(if a.2.1=true then 1 else 0)
theorem zuu (k:Int) (v:List UInt8):(zai k v).1.length<=v.length:=by
 unfold zai;have:=zvO k v
 grind
theorem zKt (g:Int->List UInt8->Msg) (f:Fld) (a:zce) (t:Th):wA (stp g f a t)<=wA a+t.val.length+1/\wJ (stp g f a t)<=wJ a+t.val.length+1:=by
 have h1:(if f.Repeated=true then a.2.2.1 else []).length<=a.2.2.1.length:=by split<;>simp
 have h2:(if f.Repeated=true then a.2.2.2.1 else []).length<=a.2.2.2.1.length:=by split<;>simp
 have h3:=zuu f.Kind t.val;unfold stp wA wJ
 grind
theorem zpk (g:Int->List UInt8->Msg) (f:Fld) (i:Int):∀(a:zce) (l:List Th),wA (accF g f i a l)<=wA a+wt l/\wJ (accF g f i a l)<=wJ a+wt l
 | a,[]=>by simp [accF,wt]
 | a,t::l=>by
  have h:=zpk g f i (if t.fi=i then stp g f a t else a) l;have h2:=zKt g f a t;rw [accF,wt];split at h
  ·rename_i ht;rw [xq ht];omega
  ·rename_i ht;rw [xp ht];omega
def acc0:zce:=([],false,[],[],[])
def valO (g:Int->List UInt8->Msg) (f:Fld) (q:zce):Vlu:=⟨f.Number,q.2.2.1,q.2.2.2.1,if q.2.1=true/\f.Kind=17/\f.Repeated=false then [g f.Of q.1] else q.2.2.2.2⟩
def zlN (g:Int->List UInt8->Msg) (m:Mes) (l:List Th) (o:List Int):List Vlu:=(o.map fun i=>valO g (zr m i) (accF g (zr m i) i acc0 l)).filter fun v=>decide (0<zaq v)
def unkO (l:List Th):List Str:=(l.filter fun t=>decide (t.fi<0)).map (·.raw)
def zdy (g:Int->List UInt8->Msg) (m:Mes) (l:List Th):Msg:=⟨zlN g m l (zch (zaR m) m.Fields.length),unkO l⟩
def ofN (s:List Mes):Nat->Int->List UInt8->Msg
 | 0,_,_=>⟨[],[]⟩
 | n+1,k,b=>zdy (ofN s n) (zo s k) (ths (zo s k) b)
theorem zHV (a:zce) (h:f.Kind=17->g f.Of t.val=g' f.Of t.val):stp g f a t=stp g' f a t:=by
 unfold stp
 grind
theorem zwb (i:Int):∀(a:zce) {l:List Th},(f.Kind=17->∀v:List UInt8,v.length+1<=wt l->g f.Of v=g' f.Of v)->accF g f i a l=accF g' f i a l
 | a,[],h=>rfl
 | a,t::l,h=>by
  rw [accF,accF,zHV a (fun wT=>h wT t.val (by rw [wt];omega))];exact zwb i _ (fun wT v hv=>h wT v (by rw [wt];omega))
theorem zFs (i:Int) (h:f.Kind=17->∀v:List UInt8,v.length+1<=wt l->g f.Of v=g' f.Of v):valO g f (accF g f i acc0 l)=valO g' f (accF g' f i acc0 l):=by
 rw [zwb i acc0 h];have hw:=(zpk g' f i acc0 l).2;unfold valO;by_cases hc:(accF g' f i acc0 l).2.1=true/\f.Kind=17/\f.Repeated=false
 ·rw [xq hc,xq hc,h hc.2.1 _ (by
   have h0:wJ acc0=0:=rfl;rw [h0,wJ,xq hc.1] at hw;omega)]
 grind
theorem zuL (h:∀k:Int,∀v:List UInt8,v.length+1<=wt l->g k v=g' k v):zdy g m l=zdy g' m l:=by
 unfold zdy zlN;congr 2;exact qa fun i _=>zFs i (fun _ v hv=>h _ v hv)
theorem zrS (s:List Mes):∀(n n':Nat) (k:Int) (b:List UInt8),b.length<n->b.length<n'->ofN s n k b=ofN s n' k b
 | 0,n',k,b,h,_=>by omega
 | n+1,0,k,b,_,h=>by omega
 | n+1,n'+1,k,b,h,h'=>by
  rw [ofN,ofN];have hw:=zoB (zo s k) b;exact zuL fun k v hv=>zrS s n n' k v (by omega) (by omega)
def ofM (s:List Mes) (k:Int) (b:List UInt8):Msg:=ofN s (b.length+1) k b
theorem zLM {s:List Mes} {n:Nat} {k:Int} {b:List UInt8} (h:b.length<n):ofN s n k b=ofM s k b:=zrS s _ _ _ _ h (Nat.lt_succ_self _)
theorem zjA (s:List Mes) (k:Int) (b:List UInt8):ofM s k b=zdy (ofM s) (zo s k) (ths (zo s k) b):=by
 have hw:=zoB (zo s k) b;unfold ofM;rw [ofN];exact zuL fun k v hv=>zrS s _ _ _ _ (by omega) (Nat.lt_succ_self _)
theorem zMj (b:List UInt8) (r:Rec) (h:r.At<=r.To) (h0:0<=r.From) (h1:r.From<r.At) (h2:r.To<=b.length):(valB b r).length+1<=b.length:=by
 unfold valB;simp;omega
theorem zxC {g:Int->List UInt8->Msg} {rec:List ze->Int->List UInt8->Option zd} {sv:List Mes} {b:List UInt8} (hb:b.length<=1048576) {f:Fld}
  (hg:f.Kind=17->∀v:List UInt8,v.length+1<=b.length->rec sv f.Of v=some (g f.Of v)) {rv:List Vw×Int×Int} (hr:∀t∈rv.1,0<=t.R.From/\t.R.From<t.R.At/\t.R.At<=t.R.To/\t.R.To<=b.length)
  (hL:rv.1.length<=1048576) {wQ:List Int} {i:Nat} {ix:Int} (hi:idx wQ (i:Int)=some ix):∀(c k:Nat) (a:zce),k+c=rv.1.length->wA a+wt ((rv.1.drop k).map (thOf b))<=1048576->
  zdN b i rec rv wQ sv f a.1 a.2.1 k a.2.2.1 a.2.2.2.1 a.2.2.2.2=some (accF g f ix a ((rv.1.drop k).map (thOf b)))
 | 0,k,a,hk,hw=>by
  have e:rv.1.drop k=[]:=yy (by omega);rw [e];refine zod ?_;unfold zbS;rw [uK];rfl
 | c+1,k,a,hk,hw=>by
  have hkl:k<rv.1.length:=by omega
  rw [yl hkl,xH] at hw|-;rw [wt] at hw
  generalize ht:rv.1[k]=t at hw|-
  have hx:idx rv.1 (k:Int)=some t:=by rw [zK rfl hkl,ht]
  have htr:=hr t (by rw [<-ht];exact xB hkl);obtain ⟨r1,r2,r3,r4⟩:=htr;have hcut:cut b t.R.At t.R.To=some (valB b t.R):=by
   obtain ⟨x,hx1⟩:∃x:Nat,t.R.At=x:=⟨t.R.At.toNat,by omega⟩;obtain ⟨y,hy1⟩:∃x:Nat,t.R.To=x:=⟨t.R.To.toNat,by omega⟩;rw [zgv hx1 hy1 (by omega) (by omega)];unfold valB;rw [hx1,hy1];simp only [xD]
  have hvl:=zMj b t.R r3 r1 r2 r4;have hst:=(zKt g f a (thOf b t)).1
  have ih:=zxC hb hg hr hL hi c (k+1) (if t.Field=ix then stp g f a (thOf b t) else a) (by omega)
   (by split<;>omega)
  have hwk:i64.wrap ((k:Int)+1)=((k+1:Nat):Int):=by rw [uL];push_cast;rfl
  rw [accF];have hfi:(thOf b t).fi=t.Field:=rfl;rw [hfi,<-ih];by_cases hf:t.Field=ix
  ·rw [xq hf];refine ziE ?_;unfold zbS;have hp:(if (!f.Repeated)=true then some (([]:List Int),([]:List Str)) else some (a.2.2.1,a.2.2.2.1))=some ((if f.Repeated=true then a.2.2.1 else []),(if f.Repeated=true then a.2.2.2.1 else [])):=by
    grind
   rw [uJ,hx,sb,hi,sb,itF (by simpa using hf),sb,sb,hcut,sb,hp,sb,sb,hwk];have l1:(if f.Repeated=true then a.2.2.1 else []).length<=a.2.2.1.length:=by split<;>simp
   have l2:(if f.Repeated=true then a.2.2.2.1 else []).length<=a.2.2.2.1.length:=by split<;>simp
   have hval:(thOf b t).val=valB b t.R:=rfl;have ka:(thOf b t).run=t.Run:=rfl;rw [hval] at hw;unfold wA at hw;unfold stp;rw [hval,ka];by_cases hrn:t.Run=true
   ·have hl:=zuu f.Kind (valB b t.R);rw [itT hrn,xq hrn,zDi _ (by omega),sb,zcF (by simp only;omega),sb]
   ·rw [itF (by simpa using hrn),xp hrn,zlB,sb];by_cases hn:kNum f.Kind=true
    ·rw [itT hn,xq hn,zuT _ (by omega),sb,zcF (by simp only [qk];omega),sb]
    ·rw [itF (by simpa using hn),xp hn];by_cases h1:f.Kind=17/\f.Repeated=true
     ·rw [itT (by simpa using h1),xq h1,hg h1.1 _ hvl,sb,zcF (by simp only [qk];omega),sb]
     ·rw [itF (by simpa using h1),xp h1];by_cases h2:f.Kind=17
      ·rw [itT (by simpa using h2),xq h2,zcF (by omega),sb]
      ·rw [itF (by simpa using h2),xp h2,zcF (by simp only [qk];omega),sb]
  ·rw [xp hf];refine ziE ?_;unfold zbS
   grind
theorem zIb {g:Int->List UInt8->Msg} {f:Fld} {q:zce} (h:wA q<=1048576):(valO g f q).Words.length<=1048576/\(valO g f q).Texts.length<=1048576/\(valO g f q).Subs.length<=1048577:=by
 unfold wA at h;unfold valO
 grind
theorem ztb {g:Int->List UInt8->Msg} {rec:List ze->Int->List UInt8->Option zd} {sv:List Mes} {root:Int} {m:Mes} (hm:idx sv root=some m) {b:List UInt8} (hb:b.length<=1048576)
  (hg:∀f∈m.Fields,f.Kind=17->∀v:List UInt8,v.length+1<=b.length->rec sv f.Of v=some (g f.Of v)) {rv:List Vw×Int×Int} (hr:∀t∈rv.1,0<=t.R.From/\t.R.From<t.R.At/\t.R.At<=t.R.To/\t.R.To<=b.length)
  (hw:wt (rv.1.map (thOf b))<=b.length) {o:List Int} (ho:∀x∈o,0<=x/\x<m.Fields.length) (hol:o.length<=1048576):∀(c i:Nat) (out:List Vlu),i+c=o.length->out.length<=i->
  zdM b rec root rv o sv i out=some (out++zlN g m (rv.1.map (thOf b)) (o.drop i))
 | 0,i,out,hi,hout=>by
  have e:o.drop i=[]:=yy (by omega);rw [e];refine zoc ?_;unfold zbR;rw [uK];simp [zlN]
 | c+1,i,out,hi,hout=>by
  have hil:i<o.length:=by omega
  rw [yl hil];have hxm:=ho _ (xB hil)
  generalize hx:o[i]=ix at hxm|-
  have hix:idx o (i:Int)=some ix:=by rw [zK rfl hil,hx]
  obtain ⟨n,hn⟩:∃n:Nat,ix=n:=⟨ix.toNat,by omega⟩;have hnl:n<m.Fields.length:=by omega
  have hfx:idx m.Fields ix=some (zr m ix):=by subst hn;rw [zK rfl hnl,zbv hnl]
  have hfm:zr m ix∈m.Fields:=by rw [hn,zbv hnl];exact xB _
  have hL:rv.1.length<=1048576:=by have:=zBB (rv.1.map (thOf b));simp only [po] at this;omega
  have w0:wA acc0=0:=rfl;have j0:wJ acc0=0:=rfl;have hl2:=zxC hb (hg _ hfm) hr hL hix rv.1.length 0 acc0 (by omega) (by rw [w0,yd];omega);have hl2':zdN b i rec rv o sv (zr m ix) [] false 0 [] [] []=_:=hl2;rw [yd] at hl2';have haw:=zpk g (zr m ix) ix acc0 (rv.1.map (thOf b))
  generalize hq:accF g (zr m ix) ix acc0 (rv.1.map (thOf b))=q at hl2' haw
  have hmany:=zIb (g:=g) (f:=zr m ix) (q:=q) (by omega);have hv:zlN g m (rv.1.map (thOf b)) (ix::o.drop (i+1))=(if 0<zaq (valO g (zr m ix) q) then [valO g (zr m ix) q] else [])++zlN g m (rv.1.map (thOf b)) (o.drop (i+1)):=by
   unfold zlN
   grind
  have kw:zbR b rec root rv o sv i out=some (.inl (((i+1:Nat):Int),out++(if 0<zaq (valO g (zr m ix) q) then [valO g (zr m ix) q] else []))):=by
   unfold zbR;rw [uJ,hm,sb,hix,sb,hfx,sb,hl2',sb];have hp:(if (q.2.1&&((zr m ix).Kind==17&& !(zr m ix).Repeated))=true then (rec sv (zr m ix).Of q.1>>=fun rv7=>some ([rv7]:List zd)) else some q.2.2.2.2)=some (valO g (zr m ix) q).Subs:=by
    unfold valO;by_cases hc:q.2.1=true/\(zr m ix).Kind=17/\(zr m ix).Repeated=false
    ·rw [itT (by simp [hc.1,hc.2.1,hc.2.2]),hg _ hfm hc.2.1 _ (by
      have:=haw.2;rw [j0,wJ,xq hc.1] at this;omega),sb]
     grind
    grind
   rw [hp,sb];have he:(⟨(zr m ix).Number,q.2.2.1,q.2.2.2.1,(valO g (zr m ix) q).Subs⟩:Vlu)=valO g (zr m ix) q:=rfl;rw [he,zFb ⟨by omega,by omega,by omega⟩,sb,uL];by_cases h:0<zaq (valO g (zr m ix) q)
   ·rw [itT (by simpa using h),xq h,zcF (by simp only [qk];omega),sb];push_cast;rfl
   grind
  rw [zob kw,ztb hm hb hg hr hw ho hol c (i+1) _ (by omega) (by
   rw [xy];split<;>simp<;>omega),hv,yk]
theorem zmY {b:List UInt8} (hb:b.length<=1048576) {rv:List Vw×Int×Int} (hr:∀t∈rv.1,0<=t.R.From/\t.R.From<t.R.At/\t.R.At<=t.R.To/\t.R.To<=b.length) (hL:rv.1.length<=1048576):
  ∀(c k:Nat) (out:List Str),k+c=rv.1.length->out.length<=k->zdO b rv k out=some (out++unkO ((rv.1.drop k).map (thOf b)))
 | 0,k,out,hk,hout=>by
  have e:rv.1.drop k=[]:=yy (by omega);rw [e];refine zoe ?_;unfold zaX;rw [uK];simp [unkO]
 | c+1,k,out,hk,hout=>by
  have hkl:k<rv.1.length:=by omega
  rw [yl hkl,xH]
  generalize ht:rv.1[k]=t
  have hx:idx rv.1 (k:Int)=some t:=by rw [zK rfl hkl,ht]
  obtain ⟨r1,r2,r3,r4⟩:=hr t (by rw [<-ht];exact xB hkl);have hcut:cut b t.R.From t.R.To=some (rawB b t.R):=by
   obtain ⟨x,hx1⟩:∃x:Nat,t.R.From=x:=⟨t.R.From.toNat,by omega⟩;obtain ⟨y,hy1⟩:∃x:Nat,t.R.To=x:=⟨t.R.To.toNat,by omega⟩;rw [zgv hx1 hy1 (by omega) (by omega)];unfold rawB;rw [hx1,hy1];simp only [xD]
  have hwk:i64.wrap ((k:Int)+1)=((k+1:Nat):Int):=by rw [uL];push_cast;rfl
  have hfi:(thOf b t).fi=t.Field:=rfl;have hraw:(thOf b t).raw=rawB b t.R:=rfl;by_cases hf:t.Field<0
  ·have kw:zaX b rv k out=some (.inl (((k+1:Nat):Int),out++[rawB b t.R])):=by
    unfold zaX;rw [uJ,hx,sb,itT (by simpa using hf),sb,sb,hcut,sb,zcF (by simp only [qk];omega),sb,hwk]
   rw [ziF kw,zmY hb hr hL c (k+1) _ (by omega) (by simp;omega)];unfold unkO;rw [yJ,xq (by rw [hfi];simpa using hf),xH,hraw,yk];rfl
  ·have kw:zaX b rv k out=some (.inl (((k+1:Nat):Int),out)):=by
    unfold zaX;rw [uJ,hx,sb,itF (by simpa using hf),hwk]
   rw [ziF kw,zmY hb hr hL c (k+1) _ (by omega) (by omega)];unfold unkO;rw [yJ,xp (by rw [hfi];simpa using hf)]
theorem zuS {s:List Mes} (hs:zdA s):∀(fuel k:Nat) (b:List UInt8),k<s.length->b.length<=1048576->b.length<fuel->zcC fuel s k b=some (ofN s fuel k b)
 | 0,k,b,_,_,h=>by omega
 | fuel+1,k,b,hk,hb,hf=>by
  have hm:idx s (k:Int)=some (zo s k):=by rw [zK rfl hk,zcg hk]
  have hmm:zo s (k:Int)∈s:=by rw [zcg hk];exact xB hk
  have hfew:=hs.few _ hmm;have hg:∀f∈(zo s (k:Int)).Fields,f.Kind=17->∀v:List UInt8,v.length+1<=b.length->zcC fuel s f.Of v=some (ofN s fuel f.Of v):=fun f hfm wT v hv=>by
   have hof:=(hs.fld _ hmm f hfm).sub wT;obtain ⟨q,hq⟩:∃q:Nat,f.Of=q:=⟨f.Of.toNat,by omega⟩;rw [hq];exact zuS hs fuel q v (by omega) (by omega) (by omega)
  have hr:∀t∈(zaC (zo s (k:Int)) b).1,0<=t.R.From/\t.R.From<t.R.At/\t.R.At<=t.R.To/\t.R.To<=b.length:=fun t ht=>zBD ht
  have hw:wt ((zaC (zo s (k:Int)) b).1.map (thOf b))<=b.length:=zoB _ _;have hL:(zaC (zo s (k:Int)) b).1.length<=1048576:=by have:=zBB ((zaC (zo s (k:Int)) b).1.map (thOf b));simp only [po] at this;omega
  have h1:=ztb (root:=(k:Int)) hm hb hg hr hw (o:=zch (zaR (zo s (k:Int))) (zo s (k:Int)).Fields.length) (fun x hx=>zdU.1 hx) (by rw [zqS];omega) _ 0 [] (xL _) (xw _);have h1':zdM b (zcC fuel) k (zaC (zo s (k:Int)) b) (zch (zaR (zo s (k:Int))) (zo s (k:Int)).Fields.length) s 0 []=_:=h1;have h3:=zmY hb hr hL _ 0 [] (xL _) (xw _);have h3':zdO b (zaC (zo s (k:Int)) b) 0 []=_:=h3;show zfF (zcC fuel) s k b=_;unfold zfF;rw [hm,sb,zDc (by omega) hb,sb,sb,zBc (by omega),sb,h1',sb,h3',sb,ofN];rfl
theorem zxB {s:List Mes} (hs:zdA s) {k:Nat} (hk:k<s.length) {b:List UInt8} (hb:b.length<=1048576) {fuel:Nat} (hf:b.length<fuel):zcC fuel s k b=some (ofM s k b):=by
 rw [zuS hs fuel k b hk hb hf,zLM hf]
mutual
/-- How much a meaning is, all together. -/
def wgM:Msg->Nat
 | ⟨vs,u⟩=>1+(u.map fun t=>1+t.length).sum+wgVs vs
def wgVs:List Vlu->Nat
 | []=>0
 | v::l=>wgV v+wgVs l
def wgV:Vlu->Nat
 | ⟨_,w,t,s⟩=>1+w.length+(t.map fun t=>1+t.length).sum+wgMs s
def wgMs:List Msg->Nat
 | []=>0
 | x::l=>wgM x+wgMs l
end
theorem zlQ (x:Msg):wgM x=1+(x.Unknown.map fun t=>1+t.length).sum+wgVs x.Values:=by cases x;rw [wgM]
theorem zjL (v:Vlu):wgV v=1+v.Words.length+(v.Texts.map fun t=>1+t.length).sum+wgMs v.Subs:=by cases v;rw [wgV]
theorem ztz :∀{l:List Vlu},v∈l->wgV v<=wgVs l
 | [],h=>by cases h
 | u::l,h=>by
  rw [wgVs];rcases xx.1 h with rfl| h
  ·omega
  ·have:=ztz h;omega
theorem zlR :∀{l:List Msg},x∈l->wgM x<=wgMs l
 | [],h=>by cases h
 | u::l,h=>by
  rw [wgMs];rcases xx.1 h with rfl| h
  ·omega
  ·have:=zlR h;omega
theorem ztn :∀{l:List Str},t∈l->1+t.length<=(l.map fun t=>1+t.length).sum
 | [],h=>by cases h
 | u::l,h=>by
  rw [xH,qL];rcases xx.1 h with rfl| h
  ·omega
  ·have:=ztn h;omega
theorem zBo:∀{l:List Str},l.length<=(l.map fun t=>1+t.length).sum
 | []=>by simp
 | u::l=>by
  rw [xH,qL,ye];have:=zBo (l:=l);omega
theorem zDP:∀(l:List Vlu),l.length<=wgVs l
 | []=>by simp [wgVs]
 | u::l=>by rw [wgVs,ye,zjL];have:=zDP l;omega
theorem zDO:∀(l:List Msg),l.length<=wgMs l
 | []=>by simp [wgMs]
 | u::l=>by rw [wgMs,ye,zlQ];have:=zDO l;omega
def unkR (m:Mes) (u:Str):Bool:=(zbJ u 0).2==0&&(zbJ u 0).1.To==(u.length:Int)&&decide (fldI m (zbJ u 0).1.Number<0)
def zjd (f:Fld) (w:Int):Bool:=kNum f.Kind&&zbk f.Kind w==w
def zkJ (f:Fld) (t:Str):Bool:=f.Kind==16|| (f.Kind==15&&zgW t)
def zru (f:Fld) (v:Vlu):Bool:=decide (0<zaq v)&&(decide (zaq v<=1)|| f.Repeated)&&zaY f.Kind
mutual
def zaA (s:List Mes):Msg->Int->Bool
 | ⟨vs,u⟩,k=>decide (0<=k/\k<s.length)&&zfL s vs (zo s k) none&&u.all (unkR (zo s k))
def zfL (s:List Mes):List Vlu->Mes->Option Int->Bool
 | [],_,_=>true
 | v::l,m,p=>decide (0<=fldI m v.Number)&&p.all (fun n=>decide (n<v.Number))&&zkd s v (zr m (fldI m v.Number))&&zfL s l m (some v.Number)
def zkd (s:List Mes):Vlu->Fld->Bool
 | ⟨n,w,t,sub⟩,f=>zru f ⟨n,w,t,sub⟩&&w.all (zjd f)&&t.all (zkJ f)&&zqP s sub f
def zqP (s:List Mes):List Msg->Fld->Bool
 | [],_=>true
 | x::l,f=>(f.Kind==17&&zaA s x f.Of)&&zqP s l f
end
theorem zkY (s:List Mes) (x:Msg) (k:Int):zaA s x k=(decide (0<=k/\k<s.length)&&zfL s x.Values (zo s k) none&&x.Unknown.all (unkR (zo s k))):=by cases x;rw [zaA]
theorem zsy (s:List Mes) (v:Vlu) (f:Fld):zkd s v f=(zru f v&&v.Words.all (zjd f)&&v.Texts.all (zkJ f)&&zqP s v.Subs f):=by cases v;rw [zkd]
theorem zlD (s:List Mes) (f:Fld):∀(l:List Msg),zqP s l f=l.all fun x=>f.Kind==17&&zaA s x f.Of
 | []=>by rw [zqP];rfl
 | x::l=>by rw [zqP,zlD s f l];rfl
mutual
/-- No list is long. -/
def smM:Msg->Prop
 | ⟨vs,u⟩=>vs.length<=1048576/\(u.length<=1048576/\∀t∈u,t.length<=1048576)/\smVs vs
def smVs:List Vlu->Prop
 | []=>True
 | v::l=>smV v/\smVs l
def smV:Vlu->Prop
 | ⟨n,w,t,s⟩=>w.length<=1048576/\(t.length<=1048576/\∀x∈t,x.length<=1048576)/\s.length<=1048576/\smMs s
def smMs:List Msg->Prop
 | []=>True
 | x::l=>smM x/\smMs l
end
theorem zxN (x:Msg):smM x↔x.Values.length<=1048576/\(x.Unknown.length<=1048576/\∀t∈x.Unknown,t.length<=1048576)/\smVs x.Values:=by cases x;simp only [smM]
theorem zxO (v:Vlu):smV v↔v.Words.length<=1048576/\(v.Texts.length<=1048576/\∀x∈v.Texts,x.length<=1048576)/\v.Subs.length<=1048576/\smMs v.Subs:=by cases v;simp only [smV]
theorem znL:∀{l:List Vlu},smVs l↔∀v∈l,smV v
 | []=>by simp [smVs]
 | v::l=>by rw [smVs,znL (l:=l)];simp
theorem znK:∀{l:List Msg},smMs l↔∀v∈l,smM v
 | []=>by simp [smMs]
 | v::l=>by rw [smMs,znK (l:=l)];simp
def zDx (s:List Mes):Nat->zme
 | 0=>none
 | e+1=>some (zN s e)
theorem zfP (s:List Mes) (d:Nat) (k:Int) (b:List UInt8):zN s d k b=zcm (zo s k) (zDx s d) b (spl 0 b):=by cases d<;>rfl
theorem zpz (s:List Mes) (d:Nat) (k:Int):zN s d k []=none:=by rw [zfP,zdZ];rfl
def vwG (m:Mes) (r:Rec):Int×Bool:=match vw m r.Number r.Wire with
 | .inl _=>(-1,false)
 | .inr p=>p
def thR (m:Mes) (b:List UInt8) (r:Rec):Th:=⟨(vwG m r).1,(vwG m r).2,valB b r,rawB b r⟩
theorem zFv :∀{l:List Rec},(∀r∈l,∃p,vw m r.Number r.Wire= .inr p)->vws m none l=(l.map fun r=>⟨r,(vwG m r).1,(vwG m r).2⟩,none)
 | [],_=>rfl
 | r::l,h=>by
  obtain ⟨p,hp⟩:=h r xr;rw [vws,hp,zFv fun x hx=>h x (xt _ hx)];simp only [xH,vwG,hp]
theorem zBl (h:zcA m sub b r=none):∃p,vw m r.Number r.Wire= .inr p:=by
 unfold zcA at h;cases hv:vw m r.Number r.Wire with
 | inl c=>rw [hv] at h;cases h
 | inr p=>exact ⟨p,rfl⟩
theorem zmZ (h:zN s d k b=none):ths (zo s k) b=(spl 0 b).1.map (thR (zo s k) b):=by
 rw [zfP,zcU] at h;unfold ths zaC;rw [h.2,zFv fun r hr=>zBl (h.1 r hr)];unfold vwR;simp only [yU];rfl
theorem zDa {b:List UInt8} (z:List UInt8) {r:Rec} (h0:0<=r.To) (h:r.To<=b.length):rawB (b++z) r=rawB b r:=by
 unfold rawB;by_cases ha:r.From.toNat<=b.length
 ·grind
 ·have e:r.To.toNat - r.From.toNat=0:=by omega
  grind
theorem zEX (a b:List UInt8) {r:Rec} (h0:0<=r.From) (h1:r.From<=r.To):rawB (a++b) (zlJ a.length r)=rawB b r:=by
 unfold rawB zlJ;simp only;have e1:(r.From+(a.length:Int)).toNat=a.length+r.From.toNat:=by omega
 have e2:(r.To+(a.length:Int)).toNat - (a.length+r.From.toNat)=r.To.toNat - r.From.toNat:=by omega
 simp_all
theorem zxV {s:List Mes} {d:Nat} {k:Int} {a z:List UInt8} (ha:zN s d k a=none) (hz:zN s d k z=none):ths (zo s k) (a++z)=ths (zo s k) a++ths (zo s k) z:=by
 rw [zmZ ((zhu s d k z ha).2 hz),zmZ ha,zmZ hz];rw [zfP,zcU] at ha;have hap:=zxP z 0 a ha.2;have hsh:=zzM a.length 0 z;rw [xL] at hap hsh;rw [hap,hsh];simp only [qG,yU];congr 1
 ·refine qa fun r hr=>?_
  have:=zum 0 a r hr;unfold thR;rw [zve z (by omega) (by omega),zDa z (by omega) (by omega)]
 ·refine qa fun r hr=>?_
  have:=zum 0 z r hr;show thR _ _ (zlJ a.length r)=_;unfold thR;rw [zsf a z (by omega) (by omega),zEX a z (by omega) (by omega)];rfl
structure OkT (s:List Mes) (d:Nat) (m:Mes) (t:Th):Prop where
 fi:t.fi= -1\/0<=t.fi/\t.fi<m.Fields.length
 unk:t.fi<0->unkR m t.raw=true
 run:0<=t.fi->t.run=true->kNum (zr m t.fi).Kind=true/\(zr m t.fi).Repeated=true/\(zlp (zr m t.fi).Kind t.val).2=0
 one:0<=t.fi->t.run=false->zaY (zr m t.fi).Kind=true/\zbu (zaa (zr m t.fi).Kind) t.val=true/\((zr m t.fi).Kind=15->zgW t.val=true)/\((zr m t.fi).Kind=17->∃e,d=e+1/\zN s e (zr m t.fi).Of t.val=none)
theorem zDB (h:zN s d k b=none):∀t∈ths (zo s k) b,OkT s d (zo s k) t:=by
 intro t ht;rw [zmZ h] at ht;obtain ⟨r,hr,rfl⟩:=xz.1 ht;obtain ⟨n,w,f,a,u,hre,hrec,h1,h2,h3⟩:=zGG b 0 b rfl (xC _) r hr;rw [zfP,zcU] at h;have hs:=h.1 r hr
 generalize zo s k=m at hs|-
 have hraw:rawB b r=(b.drop f).take u:=by
  unfold rawB;rw [hre];simp only [xD]
  grind
 have hval:valB b r=((b.drop f).drop a).take (u - a):=by
  unfold valB;rw [hre];simp only [xD];rw [yh,show f+u - (f+a)=u - a by omega]
 have hfit:=(zxx hrec).1;have hn:r.Number=n:=by rw [hre]
 have hw:r.Wire=w:=by rw [hre]
 have hrl:((b.drop f).take u).length=u:=by simp;omega
 have hnx:zbJ ((b.drop f).take u) 0=(⟨n,w,0,0+(a:Int),0+(u:Int)⟩,0):=by
  unfold zbJ;rw [xp (by rw [hrl];omega)];simp only [Int.toNat_zero,yd,zui hrec]
 unfold zcA at hs;rcases zel m r.Number r.Wire with hv| ⟨hv,hf⟩| ⟨i,run,hv,hfi,hi⟩
 ·grind
 ·have e:vwG m r=(-1,false):=by unfold vwG;rw [hv]
  refine ⟨.inl (by simp only [thR,e]),fun _=>?_,fun hh=>by simp only [thR,e] at hh;omega,fun hh=>by simp only [thR,e] at hh;omega⟩;simp only [thR,hraw];unfold unkR
  grind
 ·have e:vwG m r=((i:Int),run):=by unfold vwG;rw [hv]
  rw [hv] at hs;simp only at hs;rw [xp (by omega)] at hs;refine ⟨.inr (by simp only [thR,e];omega),fun hh=>by simp only [thR,e] at hh;omega,fun _ hrn=>?_,fun _ hrn=>?_⟩
  ·simp only [thR,e] at hrn|-;subst hrn;obtain ⟨v1,v2,_⟩:=zBz hv;refine ⟨v1,v2,?_⟩;unfold zhF at hs
   grind
  ·simp only [thR,e] at hrn|-;subst hrn;have hk:zaY (zr m i).Kind=true/\zaa (zr m i).Kind=r.Wire:=by
    unfold vw at hv
    grind
   refine ⟨hk.1,by rw [hk.2,hw,hval];exact hfit,fun h15=>?_,fun wT=>?_⟩
   ·unfold zhF at hs
    grind
   ·unfold zhF at hs;rw [xp (by simp),xp (by omega),xq wT] at hs;cases d with
    | zero=>simp only [zDx] at hs;cases hs
    | succ e=>
     simp only [zDx] at hs;refine ⟨e,rfl,?_⟩;cases hg:zN s e (zr m i).Of (valB b r) with
     | none=>rfl
     | some q=>rw [hg] at hs;cases hs
structure zvW (s:List Mes) (d:Nat) (f:Fld) (a:zce):Prop where
 words:∀w∈a.2.2.1,zjd f w=true
 texts:∀t∈a.2.2.2.1,zkJ f t=true
 numT:kNum f.Kind=true->a.2.2.2.1=[]
 subs:∀x∈a.2.2.2.2,f.Kind=17/\zaA s x f.Of=true/\1+dM x<=d
 join:f.Kind=17->∀e,d=e+1->zN s e f.Of a.1=none
 met:a.2.1=true->f.Kind=17->∃e,d=e+1
 one:f.Repeated=false->a.2.2.1.length<=1/\a.2.2.2.1.length<=1/\a.2.2.2.2=[]
theorem zhw {k:Int} (h:kNum k=true):k≠17/\k≠15/\k≠16:=by rw [zff] at h;omega
theorem zDU {f:Fld} (hk:kNum f.Kind=true) (v:List UInt8):∀w∈(zai f.Kind v).1,zjd f w=true:=by
 intro w hw;unfold zai at hw;rw [xp (by rw [hk];simp)] at hw;split at hw
 ·obtain ⟨p,_,rfl⟩:=xz.1 hw;unfold zjd zdW;rw [hk,zmh _ (zms _)];simp
 ·cases hw
theorem zDs {f:Fld} (hk:kNum f.Kind=true) {v:List UInt8} (hf:zbu (zaa f.Kind) v=true):zjd f (zlG f.Kind v).1=true:=by
 rw [ziu hk hf];unfold zjd zdW;rw [hk,zmh _ (zms _)];simp
theorem zzY (s:List Mes) (d:Nat) (f:Fld):zvW s d f acc0 where
 words:=fun w hw=>nomatch hw
 texts:=fun w hw=>nomatch hw
 numT:=fun _=>rfl
 subs:=fun w hw=>nomatch hw
 join:=fun _ e _=>zpz s e _
 met:=fun h=>nomatch h
 one:=fun _=>⟨xC _,xC _,rfl⟩
theorem zNQ {s:List Mes} {d:Nat} {m:Mes} {f:Fld} {g:Int->List UInt8->Msg} {a:zce} {t:Th} (ha:zvW s d f a) (ht:OkT s d m t) (hi:0<=t.fi) (hf:zr m t.fi=f)
  (hg:f.Kind=17->∀e,d=e+1->zN s e f.Of t.val=none->zaA s (g f.Of t.val) f.Of=true/\dM (g f.Of t.val)<=e):zvW s d f (stp g f a t):=by
 obtain ⟨h1,h2,hnt,h3,h4,h5,h6⟩:=ha;have ka:=ht.run hi;have hone:=ht.one hi;rw [hf] at ka hone;have w0:∀w∈(if f.Repeated=true then a.2.2.1 else []),zjd f w=true:=fun w hw=>by
  grind
 have t0:∀w∈(if f.Repeated=true then a.2.2.2.1 else []),zkJ f w=true:=fun w hw=>by
  grind
 have tn:kNum f.Kind=true->(if f.Repeated=true then a.2.2.2.1 else [])=[]:=fun hk=>by
  grind
 have wl:f.Repeated=false->(if f.Repeated=true then a.2.2.1 else [])=[]:=fun h=>by rw [h];rfl
 have tl:f.Repeated=false->(if f.Repeated=true then a.2.2.2.1 else [])=[]:=fun h=>by rw [h];rfl
 unfold stp;by_cases hr:t.run=true
 ·obtain ⟨r1,r2,r3⟩:=ka hr;rw [xq hr];refine ⟨fun w hw=>?_,t0,tn,h3,h4,fun _ hk=>absurd hk (zhw r1).1,fun hh=>by rw [r2] at hh;cases hh⟩;rcases xA.1 hw with hw| hw
  ·exact w0 w hw
  ·exact zDU r1 _ w hw
 ·have hr':t.run=false:=by simpa using hr
  obtain ⟨o1,o2,o3,o4⟩:=hone hr';rw [xp hr];by_cases hn:kNum f.Kind=true
  ·rw [xq hn];refine ⟨fun w hw=>?_,t0,tn,h3,h4,fun _ hk=>absurd hk (zhw hn).1,fun hh=>?_⟩
   ·rcases xA.1 hw with hw| hw
    ·exact w0 w hw
    ·rw [yg.1 hw];exact zDs hn o2
   grind
  ·rw [xp hn];by_cases hk:f.Kind=17/\f.Repeated=true
   ·rw [xq hk];obtain ⟨e,he,hv⟩:=o4 hk.1;obtain ⟨g1,g2⟩:=hg hk.1 e he hv;refine ⟨w0,t0,tn,fun x hx=>?_,h4,fun _ _=>⟨e,he⟩,fun hh=>by rw [hk.2] at hh;cases hh⟩
    grind
   ·rw [xp hk];by_cases hk2:f.Kind=17
    ·rw [xq hk2];obtain ⟨e,he,hv⟩:=o4 hk2;refine ⟨w0,t0,tn,h3,fun _ e' he'=>?_,fun _ _=>⟨e,he⟩,fun hh=>?_⟩
     ·have:e'=e:=by omega
      subst this;exact (zhu s e' f.Of t.val (h4 hk2 e' he')).2 hv
     grind
    ·rw [xp hk2];have hk15:f.Kind=15\/f.Kind=16:=by
      have:¬(1<=f.Kind/\f.Kind<=14):=fun hh=>hn (zff.2 hh)
      have wT:1<=f.Kind/\f.Kind<=17:=by simpa [zaY] using o1
      omega
     refine ⟨w0,fun x hx=>?_,fun hh=>absurd hh hn,h3,h4,fun _ hh=>absurd hh hk2,fun hh=>?_⟩
     ·rcases xA.1 hx with hx| hx
      ·exact t0 x hx
      ·rw [yg.1 hx];unfold zkJ
       grind
     grind
theorem zvv {s:List Mes} {d:Nat} {m:Mes} {f:Fld} {g:Int->List UInt8->Msg} {i:Int} (hi:0<=i) (hf:zr m i=f):∀(a:zce) (l:List Th),zvW s d f a->(∀t∈l,OkT s d m t)->
  (∀t∈l,f.Kind=17->∀e,d=e+1->zN s e f.Of t.val=none->zaA s (g f.Of t.val) f.Of=true/\dM (g f.Of t.val)<=e)->zvW s d f (accF g f i a l)
 | a,[],ha,_,_=>ha
 | a,t::l,ha,ht,hg=>by
  rw [accF];refine zvv hi hf _ l ?_ (fun x hx=>ht x (xt _ hx)) (fun x hx=>hg x (xt _ hx));split
  ·rename_i h;exact zNQ ha (ht t xr) (by omega) (by rw [h];exact hf) (hg t xr)
  ·exact ha
theorem zIB {d:Nat}:∀{l:List Msg},(∀x∈l,1+dM x<=d)->dMs l<=d
 | [],_=>by simp [dMs]
 | x::l,h=>by
  rw [dMs];have:=h x xr;have:=zIB fun y hy=>h y (xt _ hy)
  omega
theorem zIC {d:Nat}:∀{l:List Vlu},(∀x∈l,dV x<=d)->dVs l<=d
 | [],_=>by simp [dVs]
 | x::l,h=>by
  rw [dVs];have:=h x xr;have:=zIC fun y hy=>h y (xt _ hy)
  omega
theorem zMk {s:List Mes} {d:Nat} {f:Fld} {g:Int->List UInt8->Msg} {q:zce} (hq:zvW s d f q) (hkr:zaY f.Kind=true)
  (hg:f.Kind=17->q.2.1=true->∀e,d=e+1->zN s e f.Of q.1=none->zaA s (g f.Of q.1) f.Of=true/\dM (g f.Of q.1)<=e) (hm:0<zaq (valO g f q)):
  zkd s (valO g f q) f=true/\dV (valO g f q)<=d:=by
 obtain ⟨h1,h2,hnt,h3,h4,h5,h6⟩:=hq;have hsubs:∀x∈(valO g f q).Subs,f.Kind=17/\zaA s x f.Of=true/\1+dM x<=d:=by
  unfold valO;simp only;intro x hx;split at hx
  ·rename_i hc;obtain ⟨e,he⟩:=h5 hc.1 hc.2.1;obtain ⟨g1,g2⟩:=hg hc.2.1 hc.1 e he (h4 hc.2.1 e he)
   grind
  ·exact h3 x hx
 constructor
 ·rw [zsy,zlD];have hmany:zru f (valO g f q)=true:=by
   unfold zru;rw [xQ hm,hkr,xZ,qY];cases hr:f.Repeated with
   | true=>simp
   | false=>
    rw [pp];refine xQ ?_;obtain ⟨o1,o2,o3⟩:=h6 hr;unfold zaq valO;simp only;by_cases hk:f.Kind=17
    ·have e1:q.2.2.1=[]:=by
      cases hw:q.2.2.1 with
      | nil=>rfl
      | cons w l=>
       have:=h1 w (by rw [hw];exact xr);unfold zjd at this;simp only [xu] at this;exact absurd hk (zhw this.1).1
     have e2:q.2.2.2.1=[]:=by
      cases hw:q.2.2.2.1 with
      | nil=>rfl
      | cons w l=>
       have:=h2 w (by rw [hw];exact xr);unfold zkJ at this
       grind
     grind
    ·rw [xp (fun hh=>hk hh.2.1),o3];by_cases hn:kNum f.Kind=true
     ·grind
     ·have e1:q.2.2.1=[]:=by
       cases hw:q.2.2.1 with
       | nil=>rfl
       | cons w l=>
        have:=h1 w (by rw [hw];exact xr);unfold zjd at this
        grind
      grind
  rw [hmany,xZ,xu,xu];refine ⟨⟨xF.2 h1,xF.2 h2⟩,xF.2 fun x hx=>?_⟩
  grind
 ·rw [zBV];exact zIB fun x hx=>(hsubs x hx).2.2
theorem zpF (m:Mes) (i:Int):zaR m i=(zr m i).Number:=rfl
theorem zJC (hs:zdA s) (hm:m∈s) (hi:i<m.Fields.length) (hj:j<m.Fields.length) (h:m.Fields[i].Number=m.Fields[j].Number):i=j:=by
 rcases Nat.lt_trichotomy i j with wS| h'| wS
 ·exact absurd h (hs.nums m hm i j _ _ wS (xM hi) (xM hj)).1
 ·exact h'
 ·exact absurd h.symm (hs.nums m hm j i _ _ wS (xM hj) (xM hi)).1
theorem zsz {s:List Mes} (hs:zdA s) {m:Mes} (hm:m∈s) {i:Int} (h0:0<=i) (hi:i<m.Fields.length):fldI m (zr m i).Number=i:=by
 obtain ⟨n,rfl⟩:∃n:Nat,i=n:=⟨i.toNat,by omega⟩;have hn:n<m.Fields.length:=by omega
 rw [zbv hn];rcases zdQ m m.Fields[n].Number with ⟨_,h⟩| ⟨j,hj,h,hjn,_⟩
 ·grind
 ·rw [h,zJC hs hm hj hn hjn]
theorem ztl {s:List Mes} (hs:zdA s) {m:Mes} (hm:m∈s):(zch (zaR m) m.Fields.length).Pairwise fun a b=>zaR m a<zaR m b:=by
 refine (zoz (zaR m) m.Fields.length).imp_of_mem fun {a b} ha hb h=>?_
 rcases h with h| ⟨h,wS⟩
 ·exact h
 ·exfalso;obtain ⟨a0,a1⟩:=zdU.1 ha;obtain ⟨b0,b1⟩:=zdU.1 hb;rw [zpF,zpF] at h;have:=zsz hs hm a0 a1;rw [h,zsz hs hm b0 b1] at this;omega
theorem ztd {s:List Mes} (hs:zdA s) {m:Mes} (hm:m∈s) (v:Int->Vlu) (hn:∀i,(v i).Number=zaR m i):∀(o:List Int) (p:Option Int),(∀i∈o,0<=i/\i<m.Fields.length)->(o.Pairwise fun a b=>zaR m a<zaR m b)->
  (∀i∈o,p.all (fun n=>decide (n<zaR m i))=true)->(∀i∈o,0<zaq (v i)->zkd s (v i) (zr m i)=true)->zfL s ((o.map v).filter fun x=>decide (0<zaq x)) m p=true
 | [],p,_,_,_,_=>by rw [yF,List.filter_nil,zfL]
 | i::o,p,h1,h2,h3,h4=>by
  obtain ⟨h2a,h2b⟩:=xX.1 h2;have ih:=fun p hp=>ztd hs hm v hn o p (fun j hj=>h1 j (xt _ hj)) h2b hp (fun j hj=>h4 j (xt _ hj))
  rw [xH,yJ];by_cases hp:0<zaq (v i)
  ·rw [xq (by simpa using hp),zfL,ih _ (fun j hj=>by rw [hn];simpa using h2a j hj)];obtain ⟨i0,i1⟩:=h1 i xr;have hfi:=zsz hs hm i0 i1;rw [hn,zpF,hfi,h4 i xr hp,<-zpF,h3 i xr,xQ i0];rfl
  ·rw [xp (by simpa using hp)];exact ih p fun j hj=>h3 j (xt _ hj)
theorem zhx {s:List Mes} (hs:zdA s):∀(N:Nat) (b:List UInt8) (d k:Nat),b.length=N->k<s.length->zN s d k b=none->zaA s (ofM s k b) k=true/\dM (ofM s k b)<=d:=by
 intro N
 induction N using Nat.strongRecOn with
 | _ N IH=>
  intro b d k hN hk hv;have hmm:zo s (k:Int)∈s:=by rw [zcg hk];exact xB hk
  have hth:=zDB hv;have hwt:=zoB (zo s (k:Int)) b;rw [zjA]
  generalize hl:ths (zo s (k:Int)) b=l at hth hwt
  generalize hm:zo s (k:Int)=m at hmm hth hwt
  have hsub:∀f∈m.Fields,f.Kind=17->∀v:List UInt8,v.length+1<=b.length->∀e,zN s e f.Of v=none->zaA s (ofM s f.Of v) f.Of=true/\dM (ofM s f.Of v)<=e:=fun f hf wT v hvl e he=>by
   have hof:=(hs.fld _ hmm f hf).sub wT;obtain ⟨q,hq⟩:∃q:Nat,f.Of=q:=⟨f.Of.toNat,by omega⟩
   grind
  have hval:∀i∈zch (zaR m) m.Fields.length,0<zaq (valO (ofM s) (zr m i) (accF (ofM s) (zr m i) i acc0 l))->
    zkd s (valO (ofM s) (zr m i) (accF (ofM s) (zr m i) i acc0 l)) (zr m i)=true/\dV (valO (ofM s) (zr m i) (accF (ofM s) (zr m i) i acc0 l))<=d:=fun i hi hp=>by
   obtain ⟨i0,i1⟩:=zdU.1 hi;obtain ⟨n,hn⟩:∃n:Nat,i=n:=⟨i.toNat,by omega⟩;have hnl:n<m.Fields.length:=by omega
   have hfm:zr m i∈m.Fields:=by rw [hn,zbv hnl];exact xB _
   have hacc:=zvv (g:=ofM s) i0 rfl acc0 l (zzY s d (zr m i)) hth (fun t ht wT e he hv=>hsub _ hfm wT _ (by have:=zsj ht;omega) e hv);have hw:=(zpk (ofM s) (zr m i) i acc0 l).2;refine zMk hacc (hs.fld _ hmm _ hfm).kind (fun wT hmet e he hv=>hsub _ hfm wT _ ?_ e hv) hp;have h0:wJ acc0=0:=rfl;rw [h0,wJ,xq hmet] at hw;omega
  constructor
  ·rw [zkY,hm,xQ (by omega),xZ,xu];constructor
   ·unfold zdy zlN;exact ztd hs hmm (fun i=>valO (ofM s) (zr m i) (accF (ofM s) (zr m i) i acc0 l)) (fun i=>rfl) _ none (fun i hi=>zdU.1 hi) (ztl hs hmm) (fun _ _=>rfl) (fun i hi hp=>(hval i hi hp).1)
   ·unfold zdy unkO;refine xF.2 fun u hu=>?_
    obtain ⟨t,ht,rfl⟩:=xz.1 hu;obtain ⟨ht1,ht2⟩:=yb.1 ht;exact (hth t ht1).unk (by simpa using ht2)
  ·rw [zFI];unfold zdy zlN;refine zIC fun x hx=>?_
   grind
theorem zIR (h: -9223372036854775808<=n/\n<=9223372036854775807):(Lit.int .i64 n).wf=true:=by
 simpa [Lit.wf,IntKind.min,IntKind.max,IntKind.bits,IntKind.signed] using h
structure zBC (a:zce):Prop where
 words:∀w∈a.2.2.1,0<=w/\w<=18446744073709551615
 texts:∀t∈a.2.2.2.1,t.length<=1048576
 subs:∀x∈a.2.2.2.2,bdM x/\smM x
theorem zKS:zBC acc0:=⟨fun w h=>(nomatch h),fun w h=>(nomatch h),fun w h=>(nomatch h)⟩
theorem zDS (k:Int) (v:List UInt8):∀w∈(zai k v).1,0<=w/\w<=18446744073709551615:=by
 intro w hw;unfold zai at hw;split at hw
 ·cases hw
 ·split at hw
  ·obtain ⟨p,_,rfl⟩:=xz.1 hw;exact zhc k (zms k)
  ·cases hw
theorem zKe (k:Int) (v:List UInt8):0<=(zlG k v).1/\(zlG k v).1<=18446744073709551615:=by
 unfold zlG;split
 ·simp
 ·split
  ·simp
  ·exact zhc k (zms k)
theorem zNP {g:Int->List UInt8->Msg} {f:Fld} {a:zce} {t:Th} (ha:zBC a) (ht:t.val.length<=1048576) (hg:f.Kind=17->bdM (g f.Of t.val)/\smM (g f.Of t.val)):zBC (stp g f a t):=by
 obtain ⟨h1,h2,h3⟩:=ha;have w0:∀w∈(if f.Repeated=true then a.2.2.1 else []),0<=w/\w<=18446744073709551615:=fun w hw=>by
  grind
 have t0:∀w∈(if f.Repeated=true then a.2.2.2.1 else []),w.length<=1048576:=fun w hw=>by
  grind
 unfold stp;split
 ·refine ⟨fun w hw=>?_,t0,h3⟩;rcases xA.1 hw with hw| hw
  ·exact w0 w hw
  ·exact zDS _ _ w hw
 ·split
  ·refine ⟨fun w hw=>?_,t0,h3⟩;rcases xA.1 hw with hw| hw
   ·exact w0 w hw
   ·rw [yg.1 hw];exact zKe _ _
  ·split
   ·rename_i hk;refine ⟨w0,t0,fun x hx=>?_⟩
    grind
   ·split
    ·exact ⟨w0,t0,h3⟩
    ·refine ⟨w0,fun x hx=>?_,h3⟩
     grind
theorem zFA {g:Int->List UInt8->Msg} {f:Fld} {i:Int}:∀{l:List Th} {a:zce},zBC a->(∀t∈l,t.val.length<=1048576)->(f.Kind=17->∀t∈l,bdM (g f.Of t.val)/\smM (g f.Of t.val))->zBC (accF g f i a l)
 | [],a,ha,_,_=>ha
 | t::l,a,ha,ht,hg=>by
  rw [accF];refine zFA ?_ (fun x hx=>ht x (xt _ hx)) fun wT x hx=>hg wT x (xt _ hx)
  split
  ·exact zNP ha (ht t xr) fun wT=>hg wT t xr
  ·exact ha
theorem zNB {s:List Mes} (hs:zdA s):∀(N:Nat) (b:List UInt8) (k:Nat),b.length=N->N<=1048576->k<s.length->bdM (ofM s k b)/\smM (ofM s k b):=by
 intro N
 induction N using Nat.strongRecOn with
 | _ N IH=>
  intro b k hN hb hk;have hmm:zo s (k:Int)∈s:=by rw [zcg hk];exact xB hk
  have hwt:=zoB (zo s (k:Int)) b;have hraw:∀t∈ths (zo s (k:Int)) b,t.raw.length<=b.length:=fun t ht=>by
   unfold ths at ht;obtain ⟨r,_,rfl⟩:=xz.1 ht;show (rawB b r.R).length<=_;unfold rawB;simp;omega
  have hfew:=hs.few _ hmm;rw [zjA]
  generalize ths (zo s (k:Int)) b=l at hwt hraw
  generalize zo s (k:Int)=m at hmm hfew|-
  have hsub:∀f∈m.Fields,f.Kind=17->∀v:List UInt8,v.length+1<=b.length->bdM (ofM s f.Of v)/\smM (ofM s f.Of v):=fun f hf wT v hvl=>by
   have hof:=(hs.fld _ hmm f hf).sub wT;obtain ⟨q,hq⟩:∃q:Nat,f.Of=q:=⟨f.Of.toNat,by omega⟩
   grind
  have hval:∀i∈zch (zaR m) m.Fields.length,bdV (valO (ofM s) (zr m i) (accF (ofM s) (zr m i) i acc0 l))/\smV (valO (ofM s) (zr m i) (accF (ofM s) (zr m i) i acc0 l)):=fun i hi=>by
   obtain ⟨i0,i1⟩:=zdU.1 hi;obtain ⟨n,hn⟩:∃n:Nat,i=n:=⟨i.toNat,by omega⟩;have hnl:n<m.Fields.length:=by omega
   have hfm:zr m i∈m.Fields:=by rw [hn,zbv hnl];exact xB _
   have hfo:=hs.fld _ hmm _ hfm;have hacc:=zFA (g:=ofM s) (f:=zr m i) (i:=i) (l:=l) zKS (fun t ht=>by have:=zsj ht;omega) (fun wT t ht=>hsub _ hfm wT _ (by have:=zsj ht;omega));have hw:=zpk (ofM s) (zr m i) i acc0 l;have w0:wA acc0=0:=rfl;have j0:wJ acc0=0:=rfl;rw [w0,j0] at hw
   generalize zr m i=f at hfm hfo hacc hw|-
   generalize accF (ofM s) f i acc0 l=q at hacc hw|-
   obtain ⟨a1,a2,a3⟩:=hacc;have hsubs:(valO (ofM s) f q).Subs.length<=1048576/\∀x∈(valO (ofM s) f q).Subs,bdM x/\smM x:=by
    unfold valO;simp only;split
    ·rename_i hc;refine ⟨by simp,fun x hx=>?_⟩;rw [yg.1 hx];have h2:=hw.2;rw [wJ,xq hc.1] at h2
     grind
    ·exact ⟨by have:=hw.1;unfold wA at this;omega,a3⟩
   have h1:=hw.1;unfold wA at h1;have e1:(valO (ofM s) f q).Words=q.2.2.1:=rfl;have e2:(valO (ofM s) f q).Texts=q.2.2.2.1:=rfl;have e3:(valO (ofM s) f q).Number=f.Number:=rfl
   refine ⟨(zhZ _).2 ⟨by rw [e3];exact zIR (by have:=hfo.lo;have:=hfo.hi;omega),⟨by rw [e1];omega,by rw [e1];exact a1⟩,⟨by rw [e2];omega,fun x hx=>by rw [e2] at hx;have:=a2 x hx;omega⟩,by have:=hsubs.1;omega,zfx.2 fun x hx=>(hsubs.2 x hx).1⟩,
    (zxO _).2 ⟨by rw [e1];omega,⟨by rw [e2];omega,by rw [e2];exact a2⟩,hsubs.1,znK.2 fun x hx=>(hsubs.2 x hx).2⟩⟩
  have hvl:(zdy (ofM s) m l).Values.length<=200:=by
   unfold zdy zlN;simp only;refine yi (uw _ _) ?_;rw [po,zqS];exact hfew
  have hul:(zdy (ofM s) m l).Unknown.length<=1048576:=by
   unfold zdy unkO;simp only;rw [po];refine yi (uw _ _) ?_;have:=zBB l;omega
  have hum:∀t∈(zdy (ofM s) m l).Unknown,t.length<=1048576:=fun u hu=>by
   unfold zdy unkO at hu
   grind
  have hvm:∀v∈(zdy (ofM s) m l).Values,bdV v/\smV v:=fun v hv=>by
   unfold zdy zlN at hv
   grind
  refine ⟨(zkw _).2 ⟨by omega,⟨by omega,fun t ht=>by have:=hum t ht;omega⟩,zeU.2 fun v hv=>(hvm v hv).1⟩,(zxN _).2 ⟨by omega,⟨hul,hum⟩,znL.2 fun v hv=>(hvm v hv).2⟩⟩
abbrev zag:=List Int
def begB (way w:zag):Bool:=w.isPrefixOf way
theorem zIq :begB way w=true↔w<+:way:=List.isPrefixOf_iff_prefix
def zdx:zag->zag->Bool
 | [],b=> !b.isEmpty
 | _::_,[]=>false
 | x::a,y::b=>if x=y then zdx a b else decide (x<y)
theorem zol:∀(a:zag),zdx a a=false
 | []=>rfl
 | x::a=>by rw [zdx,xq rfl,zol a]
theorem zpI:∀(a b c:zag),zdx a b=true->zdx b c=true->zdx a c=true
 | [],b,c,h1,h2=>by
  cases c with
  | nil=>cases b<;>simp [zdx] at h2
  | cons=>rfl
 | _::_,[],_,h1,_=>by simp [zdx] at h1
 | _::_,_::_,[],_,h2=>by simp [zdx] at h2
 | x::a,y::b,z::c,h1,h2=>by
  rw [zdx] at h1 h2|-;by_cases hxy:x=y
  ·rw [xq hxy] at h1;by_cases hyz:y=z
   ·rw [xq hyz] at h2;rw [xq (hxy.trans hyz)];exact zpI a b c h1 h2
   grind
  grind
theorem zuI:∀(a b:zag),a≠b->zdx a b=true\/zdx b a=true
 | [],[],h=>absurd rfl h
 | [],_::_,_=> .inl rfl
 | _::_,[],_=> .inr rfl
 | x::a,y::b,h=>by
  rw [zdx,zdx];by_cases hxy:x=y
  ·rw [xq hxy,xq hxy.symm];exact zuI a b (fun e=>h (by rw [hxy,e]))
  grind
theorem zCF (h:zdx a b=true):zdx b a=false:=by
 cases hb:zdx b a with
 | false=>rfl
 | true=>have:=zpI a b a h hb;rw [zol] at this;cases this
theorem zva:∀(l k:List zag),l.Pairwise (fun a b=>zdx a b=true)->k.Pairwise (fun a b=>zdx a b=true)->(∀w,w∈l↔w∈k)->l=k
 | [],[],_,_,_=>rfl
 | [],y::k,_,_,h=>absurd ((h y).2 xr) (by simp)
 | x::l,[],_,_,h=>absurd ((h x).1 xr) (by simp)
 | x::l,y::k,hl,hk,h=>by
  have hl':=xX.1 hl;have hk':=xX.1 hk;have hxy:x=y:=by
   rcases xx.1 ((h x).1 xr) with h1| h1
   ·exact h1
   ·rcases xx.1 ((h y).2 xr) with h2| h2
    ·exact h2.symm
    grind [zCF]
  subst hxy;congr 1;refine zva l k hl'.2 hk'.2 fun w=>?_
  grind [zol]
def zGv (kh:List zag) (i:Nat) (w:zag) (k:Nat) (v:zag):Bool:=decide (k≠i)&& !v.isEmpty&&begB w v&&(decide (v.length<w.length)|| decide (k<i))
def badW (kh:List zag) (i:Nat) (w:zag):Nat->List zag->Bool
 | _,[]=>false
 | k,v::l=>zGv kh i w k v|| badW kh i w (k+1) l
def insL (w:zag) (out:List zag):List zag:=out.takeWhile (fun x=>zdx x w)++w::out.dropWhile (fun x=>zdx x w)
def ofK (kh:List zag):Nat->List zag
 | 0=>[]
 | i+1=>match kh[i]? with
  | some w=>if !w.isEmpty&& !badW kh i w 0 kh then insL w (ofK kh i) else ofK kh i
  | none=>ofK kh i
def ofW (kh:List zag):List zag:=ofK kh kh.length
theorem zIT :x∈insL w out↔x=w\/x∈out:=by
 unfold insL;have hs:out.takeWhile (fun x=>zdx x w)++out.dropWhile (fun x=>zdx x w)=out:=pn
 grind
theorem zFn :∀{l:List zag},∀x∈l.takeWhile (fun x=>zdx x w),zdx x w=true:=by
 intro l
 induction l with
 | nil=>intro x hx;simp at hx
 | cons y l ih=>
  intro x hx;rw [uu] at hx
  grind
theorem zEt :∀{l:List zag},l.Pairwise (fun a b=>zdx a b=true)->(w∉l)->∀x∈l.dropWhile (fun x=>zdx x w),zdx w x=true:=by
 intro l
 induction l with
 | nil=>intro _ _ x hx;simp at hx
 | cons y l ih=>
  intro hp hn x hx;rw [List.dropWhile_cons] at hx;have hp':=xX.1 hp
  grind [zuI,zpI]
theorem zCj (hs:out.Pairwise (fun a b=>zdx a b=true)) (hn:w∉out):(insL w out).Pairwise (fun a b=>zdx a b=true):=by
 unfold insL;have hsp:out.takeWhile (fun x=>zdx x w)++out.dropWhile (fun x=>zdx x w)=out:=pn;have hp:(out.takeWhile (fun x=>zdx x w)++out.dropWhile (fun x=>zdx x w)).Pairwise (fun a b=>zdx a b=true):=by rw [hsp];exact hs
 rw [List.pairwise_append] at hp|-;have ht:=zFn (w:=w) (l:=out);have hd:=zEt hs hn;simp_all
theorem zBJ {kh:List zag} {i:Nat} {w:zag}:∀(l:List zag) (k:Nat),badW kh i w k l=true↔∃j v,l[j]? =some v/\zGv kh i w (k+j) v=true
 | [],k=>by simp [badW]
 | v::l,k=>by
  rw [badW,qV,zBJ l (k+1)];constructor
  ·rintro (h| ⟨j,u,h1,h2⟩)
   ·exact ⟨0,v,rfl,by simpa using h⟩
   ·exact ⟨j+1,u,by simpa using h1,by rw [show k+(j+1)=k+1+j by omega];exact h2⟩
  grind
def zEa (kh:List zag) (w:zag):Prop:=w∈kh/\w≠[]/\∀v∈kh,v≠[]->v<+:w->v=w
theorem zCf {kh:List zag} {i:Nat} {w:zag} (hi:kh[i]? =some w):(!w.isEmpty&& !badW kh i w 0 kh)=true↔zEa kh w/\∀j<i,kh[j]? ≠some w:=by
 rw [xu,xU,xU,<-pW,<-pW,zBJ];have hw:w∈kh:=qN hi;have w6:∀(k:Nat) (v:zag),zGv kh i w k v=true↔k≠i/\v≠[]/\v<+:w/\(v.length<w.length\/k<i):=by
  grind [zGv,zIq]
 constructor
 ·rintro ⟨h1,h2⟩;refine ⟨⟨hw,by simpa using h1,fun v hv hv0 hp=>?_⟩,fun j hj hje=>?_⟩
  ·obtain ⟨k,hk,rfl⟩:=qv hv;rcases yv (kh[k]).length w.length with hl| hl
   ·exfalso;refine h2 ⟨k,kh[k],xM hk,(w6 _ _).2 ⟨fun e=>?_,hv0,hp,.inl hl⟩⟩
    grind
   ·exact hp.eq_of_length (by have:=hp.length_le;omega)
  grind
 ·rintro ⟨⟨_,h1,h2⟩,h3⟩
  grind
theorem zAS {kh:List zag}:∀(i:Nat),i<=kh.length->∀w,w∈ofK kh i↔zEa kh w/\∃j<i,kh[j]? =some w
 | 0,_,w=>by simp [ofK]
 | i+1,hi,w=>by
  have hil:i<kh.length:=hi;have ih:=zAS (kh:=kh) i (Nat.le_of_lt hil) w;obtain ⟨u,hg⟩:∃u,kh[i]? =some u:=⟨kh[i],xM hil⟩;rw [ofK,hg]
  grind [zIT,zCf]
theorem zGs {kh:List zag} {w:zag}:w∈ofW kh↔zEa kh w:=by
 unfold ofW;rw [zAS _ (xw _)];refine ⟨fun h=>h.1,fun h=>⟨h,?_⟩⟩;obtain ⟨j,hj,rfl⟩:=qv h.1;exact ⟨j,hj,xM hj⟩
theorem zxe {kh:List zag}:∀(i:Nat),i<=kh.length->(ofK kh i).Pairwise (fun a b=>zdx a b=true)
 | 0,_=> .nil
 | i+1,hi=>by
  have hil:i<kh.length:=hi;have ih:=zxe (kh:=kh) i (Nat.le_of_lt hil);obtain ⟨u,hg⟩:∃u,kh[i]? =some u:=⟨kh[i],xM hil⟩;rw [ofK,hg]
  grind [zCf,zCj,zAS]
theorem zEQ (kh:List zag):(ofW kh).Pairwise (fun a b=>zdx a b=true):=zxe _ (xw _)
theorem zGr {kh:List zag}:∀(i:Nat),(ofK kh i).length<=i
 | 0=>xw _
 | i+1=>by
  have ih:=zGr (kh:=kh) i;rw [ofK];split
  ·split
   ·unfold insL;have hs:∀(p:zag->Bool),((ofK kh i).takeWhile p).length+((ofK kh i).dropWhile p).length=(ofK kh i).length:=fun p=>by rw [<-xy,pn]
    grind
   ·omega
  ·omega
theorem zLN (kh:List zag):(ofW kh).length<=kh.length:=zGr _
def hasB (kh:List zag) (way:zag):Bool:=kh.any fun v=> !v.isEmpty&&begB way v
def zoE (m:List zag) (n:Int):Bool:=m.any fun v=>v==[n]
def zNG (n:Int):zag->Option zag
 | x::y::v=>if x=n then some (y::v) else none
 | _=>none
def znd (m:List zag) (n:Int):List zag:=m.filterMap (zNG n)
def zdS (l:List Vlu):Prop:=l.Pairwise fun a b=>a.Number<b.Number
def look (l:List Vlu) (n:Int):Option Vlu:=l.find? fun v=>v.Number==n
theorem zcW (v:Vlu) (l:List Vlu) (n:Int):look (v::l) n=if v.Number=n then some v else look l n:=by
 unfold look
 grind
theorem zeQ (h:look l n=some v):v.Number=n/\v∈l:=by
 unfold look at h
 grind
theorem zqH (h:∀v∈l,n<v.Number):look l n=none:=by
 unfold look
 grind
theorem zwX (hr:zdS l) (h:v∈l):look l v.Number=some v:=by
 induction l with
 | nil=>cases h
 | cons u l ih=>
  obtain ⟨h1,h2⟩:=xX.1 hr;rw [zcW];rcases xx.1 h with rfl| h
  ·rw [xq rfl]
  ·have:=h1 v h;rw [xp (by omega),ih h2 h]
theorem zwW:∀{l k:List Vlu},zdS l->zdS k->(∀n,look l n=look k n)->l=k
 | [],[],_,_,_=>rfl
 | [],u::k,_,_,h=>by
  have:=h u.Number;rw [zcW,xq rfl] at this;cases this
 | v::l,[],_,_,h=>by
  have:=h v.Number;rw [zcW,xq rfl] at this;cases this
 | v::l,u::k,hl,hk,h=>by
  obtain ⟨l1,l2⟩:=xX.1 hl;obtain ⟨k1,k2⟩:=xX.1 hk;have e:v=u:=by
   have hv:=h v.Number;have hu:=h u.Number
   grind [zcW,zqH]
  subst e;rw [zwW l2 k2 fun n=>by
   by_cases hn:v.Number<n
   ·have:=h n
    grind [zcW]
   ·rw [zqH fun x hx=>by have:=l1 x hx;omega,zqH fun x hx=>by have:=k1 x hx;omega]]
def putL (v:Vlu):Bool->List Vlu->List Vlu
 | done,[]=>if done=true then [] else [v]
 | done,u::l=>(if done=false/\v.Number<=u.Number then [v] else [])++((if u.Number=v.Number then [] else [u])++putL v (done|| decide (v.Number<=u.Number)) l)
theorem zCW (v:Vlu):∀(d:Bool) (l:List Vlu),(putL v d l).length<=l.length+(if d=true then 0 else 1)
 | d,[]=>by rw [putL];cases d<;>simp
 | d,u::l=>by
  have:=zCW v (d|| decide (v.Number<=u.Number)) l;rw [putL]
  grind
theorem zCX :∀{d:Bool} {l:List Vlu} {x:Vlu},x∈putL v d l->x=v/\d=false\/x∈l/\x.Number≠v.Number
 | d,[],x,h=>by
  rw [putL] at h
  grind
 | d,u::l,x,h=>by
  rw [putL] at h;rcases xA.1 h with h| h
  ·grind
  ·rcases xA.1 h with h| h
   ·grind
   ·rcases zCX h with ⟨h1,h2⟩| ⟨h1,h2⟩
    ·grind
    grind
theorem zmr :∀{d:Bool} {l:List Vlu},zdS l->zdS (putL v d l)
 | d,[],_=>by rw [putL];cases d<;>simp [zdS]
 | d,u::l,h=>by
  obtain ⟨h1,h2⟩:=xX.1 h;have ih:=zmr (v:=v) (d:=d|| decide (v.Number<=u.Number)) h2;have hrest:∀x∈putL v (d|| decide (v.Number<=u.Number)) l,u.Number<x.Number:=fun x hx=>by
   grind [zCX]
  rw [putL];have htail:zdS ((if u.Number=v.Number then [] else [u])++putL v (d|| decide (v.Number<=u.Number)) l):=by
   split
   ·exact ih
   ·exact xX.2 ⟨hrest,ih⟩
  split
  ·rename_i hc;rw [uq];refine xX.2 ⟨fun x hx=>?_,htail⟩
   grind
  ·exact htail
theorem zpM (l k:List Vlu) (n:Int):look (l++k) n=match look l n with| some v=>some v| none=>look k n:=by
 unfold look
 grind
theorem zsM :∀{d:Bool} {l:List Vlu},zdS l->∀n,look (putL v d l) n=if n=v.Number then (if d=true then none else some v) else look l n
 | d,[],_,n=>by
  rw [putL];cases d
  ·grind [zcW]
  ·rw [xq rfl,xq rfl];split<;>rfl
 | d,u::l,h,n=>by
  obtain ⟨h1,h2⟩:=xX.1 h;have ih:=zsM (v:=v) (d:=d|| decide (v.Number<=u.Number)) h2 n;rw [putL,zpM,zpM,ih,zcW u l n];by_cases hn:n=v.Number
  ·rw [xq hn,xq hn];have hu:look (if u.Number=v.Number then [] else [u]) n=none:=by
    split
    ·rfl
    ·rw [zcW,xp (by omega)];rfl
   grind [zcW]
  ·rw [xp hn,xp hn];have hv:look (if d=false/\v.Number<=u.Number then [v] else []) n=none:=by
    split
    ·rw [zcW,xp (fun hh=>hn hh.symm)];rfl
    ·rfl
   grind [zcW]
def putM (x:Msg) (v:Vlu):Msg:=⟨putL v (decide (zaq v=0)) x.Values,x.Unknown⟩
theorem zmt :∀{l:List Vlu} {p:Option Int},zfL s l m p=true->∀v∈l,0<=fldI m v.Number/\zkd s v (zr m (fldI m v.Number))=true/\p.all (fun n=>decide (n<v.Number))=true
 | [],p,_,v,hv=>by cases hv
 | u::l,p,h,v,hv=>by
  rw [zfL] at h;simp only [xu,xP] at h;obtain ⟨⟨⟨h1,h2⟩,h3⟩,h4⟩:=h;rcases xx.1 hv with rfl| hv
  ·grind
  ·obtain ⟨g1,g2,g3⟩:=zmt h4 v hv;refine ⟨g1,g2,?_⟩;cases p with
   | none=>rfl
   | some n=>
    grind
theorem zqh :∀{l:List Vlu} {p:Option Int},zfL s l m p=true->zdS l
 | [],p,_=> .nil
 | u::l,p,h=>by
  rw [zfL] at h;simp only [xu,xP] at h;refine xX.2 ⟨fun v hv=>?_,zqh h.2⟩;have:=(zmt h.2 v hv).2.2;simpa using this
theorem zxG :∀{l:List Vlu} {p:Option Int},zdS l->(∀v∈l,0<=fldI m v.Number/\zkd s v (zr m (fldI m v.Number))=true/\p.all (fun n=>decide (n<v.Number))=true)->zfL s l m p=true
 | [],p,_,_=>by rw [zfL]
 | u::l,p,hr,h=>by
  obtain ⟨h1,h2⟩:=xX.1 hr;obtain ⟨a1,a2,a3⟩:=h u xr;rw [zfL,zxG h2 fun v hv=>⟨(h v (xt _ hv)).1,(h v (xt _ hv)).2.1,by simpa using h1 v hv⟩,a2,a3,xQ a1];rfl
theorem zbc (h:zaA s x k=true):0<=k/\k<s.length/\zdS x.Values/\(∀v∈x.Values,0<=fldI (zo s k) v.Number/\zkd s v (zr (zo s k) (fldI (zo s k) v.Number))=true)/\∀u∈x.Unknown,unkR (zo s k) u=true:=by
 rw [zkY] at h;simp only [xu,xP] at h;exact ⟨h.1.1.1,h.1.1.2,zqh h.1.2,fun v hv=>⟨(zmt h.1.2 v hv).1,(zmt h.1.2 v hv).2.1⟩,xF.1 h.2⟩
theorem zzH (h1:0<=k) (h2:k<s.length) (h3:zdS x.Values) (h4:∀v∈x.Values,0<=fldI (zo s k) v.Number/\zkd s v (zr (zo s k) (fldI (zo s k) v.Number))=true) (h5:∀u∈x.Unknown,unkR (zo s k) u=true):zaA s x k=true:=by
 grind [zkY,zxG]
structure zhb (s:List Mes) (v:Vlu) (f:Fld):Prop where
 many:0<zaq v
 one:f.Repeated=false->zaq v=1
 kind:zaY f.Kind=true
 words:∀w∈v.Words,zjd f w=true
 texts:∀t∈v.Texts,zkJ f t=true
 subs:∀x∈v.Subs,f.Kind=17/\zaA s x f.Of=true
theorem zdP (h:zkd s v f=true):zhb s v f:=by
 rw [zsy,zlD] at h;unfold zru at h;simp only [xu,qV,xP,xF,qJ] at h;obtain ⟨⟨⟨⟨⟨h1,h2⟩,h3⟩,h4⟩,h5⟩,h6⟩:=h;refine ⟨h1,fun hr=>?_,h3,h4,h5,fun x hx=>?_⟩
 ·grind
 ·exact h6 x hx
theorem zFO (h:zhb s v f):zkd s v f=true:=by
 obtain ⟨h1,h2,h3,h4,h5,h6⟩:=h;rw [zsy,zlD];unfold zru;simp only [xu,qV,xP,xF,qJ];refine ⟨⟨⟨⟨⟨h1,?_⟩,h3⟩,h4⟩,h5⟩,fun x hx=>h6 x hx⟩;cases hr:f.Repeated with
 | true=>exact .inr rfl
 | false=>exact .inl (by have:=h2 hr;omega)
theorem zhb.noWords (h:zhb s v f) (hk:kNum f.Kind=false):v.Words=[]:=by
 cases hw:v.Words with
 | nil=>rfl
 | cons w l=>
  have:=h.words w (by rw [hw];exact xr);unfold zjd at this
  grind
theorem zhb.noTexts (h:zhb s v f) (hk:f.Kind≠15/\f.Kind≠16):v.Texts=[]:=by
 cases hw:v.Texts with
 | nil=>rfl
 | cons w l=>
  have:=h.texts w (by rw [hw];exact xr);unfold zkJ at this
  grind
theorem zhb.noSubs {s:List Mes} {v:Vlu} {f:Fld} (h:zhb s v f) (hk:f.Kind≠17):v.Subs=[]:=by
 cases hw:v.Subs with
 | nil=>rfl
 | cons w l=>exact absurd (h.subs w (by rw [hw];exact xr)).1 hk
theorem zhb.msg (h:zhb s v f) (hk:f.Kind=17) (hr:f.Repeated=false):∃x,v=⟨v.Number,[],[],[x]⟩/\zaA s x f.Of=true:=by
 have h1:=h.noWords (by rw [hk];rfl);have h2:=h.noTexts (by omega);have h3:=h.one hr;have h4:=h.subs;obtain ⟨n,w,t,sub⟩:=v;simp only at h1 h2 h4;subst h1 h2;unfold zaq at h3;simp at h3;obtain ⟨x,rfl⟩:∃x,sub=[x]:=by
  cases sub with
  | nil=>simp at h3
  | cons x l=>cases l with
   | nil=>exact ⟨x,rfl⟩
   | cons _ _=>simp at h3
 grind
mutual
/-- b zgT a. -/
def zkg (s:List Mes):Msg->Msg->Int->Msg
 | ⟨vs,u⟩,a,k=>⟨zhE s vs a (zo s k) a.Values,a.Unknown++u⟩
def zhE (s:List Mes):List Vlu->Msg->Mes->List Vlu->List Vlu
 | [],_,_,acc=>acc
 | v::l,a,m,acc=>zhE s l a m (putM ⟨acc,[]⟩ (zgH s v (look a.Values v.Number) (zr m (fldI m v.Number)))).Values
def zgH (s:List Mes):Vlu->Option Vlu->Fld->Vlu
 | ⟨n,w,t,sub⟩,none,f=>⟨n,w,t,sub⟩
 | ⟨n,w,t,sub⟩,some u,f=>if f.Repeated=true then ⟨n,u.Words++w,u.Texts++t,u.Subs++sub⟩ else if f.Kind=17 then ⟨n,[],[],zkA s sub u.Subs f.Of⟩ else ⟨n,w,t,sub⟩
def zkA (s:List Mes):List Msg->List Msg->Int->List Msg
 | [],_,_=>[]
 | x::_,ys,k=>match ys with
  | []=>[]
  | y::_=>[zkg s x y k]
end
theorem zlr (s:List Mes) (b a:Msg) (k:Int):zkg s b a k=⟨zhE s b.Values a (zo s k) a.Values,a.Unknown++b.Unknown⟩:=by cases b;rw [zkg]
theorem zhM (s:List Mes) (v:Vlu) (o:Option Vlu) (f:Fld):zgH s v o f=match o with
  | none=>v
  | some u=>if f.Repeated=true then ⟨v.Number,u.Words++v.Words,u.Texts++v.Texts,u.Subs++v.Subs⟩ else if f.Kind=17 then ⟨v.Number,[],[],zkA s v.Subs u.Subs f.Of⟩ else v:=by
 cases v;cases o<;>rw [zgH]
theorem ztU (s:List Mes) (v:Vlu) (o:Option Vlu) (f:Fld):(zgH s v o f).Number=v.Number:=by
 rw [zhM];cases o with
 | none=>rfl
 | some u=>simp only;split;rfl;split<;>rfl
theorem zJM (acc:List Vlu) (u:List Str) (v:Vlu):(putM ⟨acc,u⟩ v).Values.length<=acc.length+1:=by
 grind [putM,zCW]
theorem zuK :∀{l acc:List Vlu},zdS acc->zdS l->(∀v∈l,0<zaq (zgH s v (look a.Values v.Number) (zr m (fldI m v.Number))))->
  zdS (zhE s l a m acc)/\∀n,look (zhE s l a m acc) n=match look l n with
   | some v=>some (zgH s v (look a.Values n) (zr m (fldI m n)))
   | none=>look acc n
 | [],acc,h1,_,_=>by rw [zhE];exact ⟨h1,fun n=>rfl⟩
 | v::l,acc,h1,h2,h3=>by
  obtain ⟨l1,l2⟩:=xX.1 h2;have hv:=h3 v xr;have hnum:=ztU s v (look a.Values v.Number) (zr m (fldI m v.Number));rw [zhE];have hacc:zdS (putM ⟨acc,[]⟩ (zgH s v (look a.Values v.Number) (zr m (fldI m v.Number)))).Values:=zmr h1;obtain ⟨r1,r2⟩:=zuK (s:=s) (a:=a) (m:=m) hacc l2 fun u hu=>h3 u (xt _ hu)
  grind [putM,zcW,zsM,zqH]
theorem zrO (hv:zhb s v f) (ho:∀u,o=some u->zhb s u f):0<zaq (zgH s v o f):=by
 rw [zhM];cases o with
 | none=>exact hv.many
 | some u=>
  have:=hv.many;simp only;by_cases hr:f.Repeated=true
  ·grind [zaq]
  ·rw [xp hr];by_cases wT:f.Kind=17
   ·rw [xq wT];obtain ⟨x,hvx,_⟩:=hv.msg wT (by simpa using hr);obtain ⟨y,huy,_⟩:=(ho u rfl).msg wT (by simpa using hr);rw [hvx,huy,zkA];simp [zaq]
   grind
theorem ztY (ha:zaA s a k=true) (hb:zaA s b k=true):zdS (zkg s b a k).Values/\∀n,look (zkg s b a k).Values n=match look b.Values n with
   | some v=>some (zgH s v (look a.Values n) (zr (zo s k) (fldI (zo s k) n)))
   | none=>look a.Values n:=by
 obtain ⟨_,_,ra,ha',_⟩:=zbc ha;obtain ⟨_,_,rb,hb',_⟩:=zbc hb;rw [zlr];exact zuK ra rb fun v hv=>zrO (zdP (hb' v hv).2) fun u hu=>by
  obtain ⟨e,hm⟩:=zeQ hu;have:=zdP (ha' u hm).2
  grind
def zxX (g:Int->List UInt8->Msg) (m:Mes) (l:List Th) (i:Int):Vlu:=valO g (zr m i) (accF g (zr m i) i acc0 l)
theorem zqI {s:List Mes} (hs:zdA s) {m:Mes} (hm:m∈s) {g:Int->List UInt8->Msg} {l:List Th} (hr:zdS (zdy g m l).Values) (n:Int):
  look (zdy g m l).Values n=if 0<=fldI m n/\0<zaq (zxX g m l (fldI m n)) then some (zxX g m l (fldI m n)) else none:=by
 have hmem:∀v,v∈(zdy g m l).Values↔∃i:Int,(0<=i/\i<m.Fields.length)/\zxX g m l i=v/\0<zaq v:=fun v=>by
  unfold zdy zlN;simp only [yb,xz,zdU,xP];constructor
  ·rintro ⟨⟨i,hi,rfl⟩,h2⟩;exact ⟨i,hi,rfl,h2⟩
  ·rintro ⟨i,hi,rfl,h2⟩;exact ⟨⟨i,hi,rfl⟩,h2⟩
 have hnum:∀i,(zxX g m l i).Number=(zr m i).Number:=fun i=>rfl
 by_cases hc:0<=fldI m n/\0<zaq (zxX g m l (fldI m n))
 ·grind [zdQ,zwX,zbv]
 ·rw [xp hc];cases hlk:look (zdy g m l).Values n with
  | none=>rfl
  | some v=>
   exfalso;obtain ⟨hn,hv⟩:=zeQ hlk
   grind [zsz]
def comb (f:Fld) (a q:zce):zce:=(a.1++q.1,a.2.1|| q.2.1,(if f.Repeated=true then a.2.2.1++q.2.2.1 else if q.2.1=true then q.2.2.1 else a.2.2.1),(if f.Repeated=true then a.2.2.2.1++q.2.2.2.1 else if q.2.1=true then q.2.2.2.1 else a.2.2.2.1),a.2.2.2.2++q.2.2.2.2)
theorem zMv (f:Fld) (a:zce):comb f a acc0=a:=by
 unfold comb acc0
 grind
theorem zKr (g:Int->List UInt8->Msg) (f:Fld) (a q:zce) (t:Th):stp g f (comb f a q) t=comb f a (stp g f q t):=by
 unfold stp comb
 grind
theorem ztG (g:Int->List UInt8->Msg) (f:Fld) (i:Int) (a:zce):∀(l:List Th) (q:zce),accF g f i (comb f a q) l=comb f a (accF g f i q l)
 | [],q=>rfl
 | t::l,q=>by
  rw [accF,accF];split
  ·rw [zKr,ztG g f i a l]
  ·rw [ztG g f i a l]
theorem zGI (g:Int->List UInt8->Msg) (f:Fld) (a:zce) (t:Th):(stp g f a t).2.1=true:=by
 unfold stp;split;rfl;split;rfl;split;rfl;split<;>rfl
theorem zyL (g:Int->List UInt8->Msg) (f:Fld) (i:Int):∀(l:List Th) (a:zce),a.2.1=true->(accF g f i a l).2.1=true
 | [],a,h=>h
 | t::l,a,h=>by
  rw [accF];refine zyL g f i l _ ?_;split
  ·exact zGI g f a t
  ·exact h
theorem zpj (g:Int->List UInt8->Msg) (f:Fld) (i:Int):∀(l:List Th) (a:zce),(accF g f i a l).2.1=false->accF g f i a l=a
 | [],a,h=>rfl
 | t::l,a,h=>by
  rw [accF] at h|-;split at h
  ·grind [zyL,zGI]
  ·rename_i ht;rw [xp ht];exact zpj g f i l a h
theorem zKs {s:List Mes} {d:Nat} {m:Mes} {f:Fld} {g:Int->List UInt8->Msg} {a:zce} {t:Th} (ht:OkT s d m t) (hi:0<=t.fi) (hf:zr m t.fi=f) (hr:f.Repeated=false) (wT:f.Kind≠17):
  0<(stp g f a t).2.2.1.length+(stp g f a t).2.2.2.1.length:=by
 have ka:=ht.run hi;rw [hf] at ka;unfold stp;by_cases h1:t.run=true
 ·grind
 ·grind
theorem zyJ {s:List Mes} {d:Nat} {m:Mes} {f:Fld} {g:Int->List UInt8->Msg} {i:Int} (hi:0<=i) (hf:zr m i=f) (hr:f.Repeated=false) (wT:f.Kind≠17):∀(l:List Th) (a:zce),(∀t∈l,OkT s d m t)->
  (a.2.1=true->0<a.2.2.1.length+a.2.2.2.1.length)->(accF g f i a l).2.1=true->0<(accF g f i a l).2.2.1.length+(accF g f i a l).2.2.2.1.length
 | [],a,_,h,hm=>h hm
 | t::l,a,ht,h,hm=>by
  rw [accF] at hm|-;refine zyJ hi hf hr wT l _ (fun x hx=>ht x (xt _ hx)) ?_ hm;split
  ·rename_i hti;exact fun _=>zKs (ht t xr) (by omega) (by rw [hti];exact hf) hr wT
  ·exact h
theorem zEP {s:List Mes} (hs:zdA s):∀(N:Nat) (a z:List UInt8) (d k:Nat),a.length+z.length=N->k<s.length->zN s d k a=none->zN s d k z=none->ofM s k (a++z)=zkg s (ofM s k z) (ofM s k a) k:=by
 intro N
 induction N using Nat.strongRecOn with
 | _ N IH=>
  intro a z d k hN hk hva hvz;have hmm:zo s (k:Int)∈s:=by rw [zcg hk];exact xB hk
  have hvaz:=(zhu s d k z hva).2 hvz;have hra:=(zhx hs _ a d k rfl hk hva).1;have hrz:=(zhx hs _ z d k rfl hk hvz).1;have hraz:=(zhx hs _ (a++z) d k rfl hk hvaz).1;obtain ⟨j1,j2⟩:=ztY hra hrz;obtain ⟨_,_,ra,_,_⟩:=zbc hra;obtain ⟨_,_,rz,_,_⟩:=zbc hrz;obtain ⟨_,_,raz,_,_⟩:=zbc hraz;have hta:=zDB hva;have htz:=zDB hvz;have hwa:=zoB (zo s (k:Int)) a;have hwz:=zoB (zo s (k:Int)) z;have haz:=zxV hva hvz;have hvals:(ofM s k (a++z)).Values=(zkg s (ofM s k z) (ofM s k a) k).Values:=by
   refine zwW raz j1 fun n=>?_
   rw [j2 n];rw [zjA] at raz ra rz;rw [zjA s k (a++z),zjA s k z,zjA s k a,zqI hs hmm raz,zqI hs hmm rz,zqI hs hmm ra,haz]
   generalize zo s (k:Int)=m at hmm hta htz hwa hwz
   rcases zdQ m n with ⟨hf,_⟩| ⟨j,hj,hf,hjn,_⟩
   ·grind
   ·rw [hf];have hj0:(0:Int)<=(j:Int):=by omega
    simp only [hj0,qo];have hfm:zr m (j:Int)∈m.Fields:=by rw [zbv hj];exact xB hj
    unfold zxX
    generalize hff:zr m (j:Int)=f at hfm
    have hsub:f.Kind=17->∀v:List UInt8,v.length+1<=N->∀e,zN s e f.Of v=none->zaA s (ofM s f.Of v) f.Of=true/\dM (ofM s f.Of v)<=e:=fun wT v _ e he=>by
     have hof:=(hs.fld _ hmm f hfm).sub wT;obtain ⟨q,hq⟩:∃q:Nat,f.Of=q:=⟨f.Of.toNat,by omega⟩;rw [hq] at he|-;exact zhx hs v.length v e q rfl (by omega) he
    have ha1:=zvv (g:=ofM s) hj0 hff acc0 (ths m a) (zzY s d f) hta (fun t ht wT e he hv=>hsub wT _ (by have:=zsj ht;omega) e hv);have hz1:=zvv (g:=ofM s) hj0 hff acc0 (ths m z) (zzY s d f) htz (fun t ht wT e he hv=>hsub wT _ (by have:=zsj ht;omega) e hv);have hca:=ztG (ofM s) f j (accF (ofM s) f j acc0 (ths m a)) (ths m z) acc0;rw [zMv] at hca;rw [zmf,hca];have hma:=zpj (ofM s) f j (ths m a) acc0;have hmz:=zpj (ofM s) f j (ths m z) acc0;have hnz:=fun hr wT=>zyJ (g:=ofM s) hj0 hff hr wT (ths m z) acc0 htz (fun hh=>nomatch hh)
    have hja:=(zpk (ofM s) f j acc0 (ths m a)).2;have hjz:=(zpk (ofM s) f j acc0 (ths m z)).2;have j0:wJ acc0=0:=rfl;rw [j0] at hja hjz
    generalize accF (ofM s) f j acc0 (ths m a)=q1 at ha1 hma hja
    generalize accF (ofM s) f j acc0 (ths m z)=q2 at hz1 hmz hnz hjz
    have e0:zaq (valO (ofM s) f acc0)=0:=by unfold zaq valO acc0;simp
    cases hm2:q2.2.1 with
    | false=>
     rw [hmz hm2,zMv,e0,xp (show ¬(0<0) by omega)]
    | true=>
     cases hr:f.Repeated with
     | true=>
      have v1:valO (ofM s) f q1=⟨f.Number,q1.2.2.1,q1.2.2.2.1,q1.2.2.2.2⟩:=by unfold valO;rw [xp (fun hh=>by rw [hr] at hh;cases hh.2.2)]
      have v2:valO (ofM s) f q2=⟨f.Number,q2.2.2.1,q2.2.2.2.1,q2.2.2.2.2⟩:=by unfold valO;rw [xp (fun hh=>by rw [hr] at hh;cases hh.2.2)]
      have v12:valO (ofM s) f (comb f q1 q2)=⟨f.Number,q1.2.2.1++q2.2.2.1,q1.2.2.2.1++q2.2.2.2.1,q1.2.2.2.2++q2.2.2.2.2⟩:=by
       unfold valO;rw [xp (fun hh=>by rw [hr] at hh;cases hh.2.2)];unfold comb;simp [hr]
      rw [v1,v2,v12];have nil2:∀(x y w:Nat),x+y+w=0->x=0/\y=0/\w=0:=by omega
      grind [zaq,zhM]
     | false=>
      have s1:=(ha1.one hr).2.2;have s2:=(hz1.one hr).2.2;by_cases wT:f.Kind=17
      ·have nw:∀q:zce,zvW s d f q->q.2.2.1=[]/\q.2.2.2.1=[]:=fun q hq=>by
        constructor
        ·cases hw:q.2.2.1 with
         | nil=>rfl
         | cons w l=>
          have:=hq.words w (by rw [hw];exact xr);unfold zjd at this;rw [wT] at this;simp [kNum] at this
        ·cases hw:q.2.2.2.1 with
         | nil=>rfl
         | cons w l=>
          have:=hq.texts w (by rw [hw];exact xr);unfold zkJ at this
          grind
       obtain ⟨a1,a2⟩:=nw q1 ha1;obtain ⟨z1,z2⟩:=nw q2 hz1;have v2:valO (ofM s) f q2=⟨f.Number,[],[],[ofM s f.Of q2.1]⟩:=by unfold valO;rw [xq ⟨hm2,wT,hr⟩,z1,z2]
       have m2:0<zaq (⟨f.Number,[],[],[ofM s f.Of q2.1]⟩:Vlu):=by simp [zaq]
       rw [v2,xq m2];simp only;cases hm1:q1.2.1 with
       | false=>
        grind [valO,comb,acc0,zhM]
       | true=>
        have v1:valO (ofM s) f q1=⟨f.Number,[],[],[ofM s f.Of q1.1]⟩:=by unfold valO;rw [xq ⟨hm1,wT,hr⟩,a1,a2]
        have v12:valO (ofM s) f (comb f q1 q2)=⟨f.Number,[],[],[ofM s f.Of (q1.1++q2.1)]⟩:=by
         unfold valO comb;simp [hm1,hm2,wT,hr,z1,z2]
        obtain ⟨e,he⟩:=hz1.met hm2 wT;have jv1:=ha1.join wT e he;have jv2:=hz1.join wT e he;rw [wJ,xq hm1] at hja;rw [wJ,xq hm2] at hjz;have hof:=(hs.fld _ hmm f hfm).sub wT;obtain ⟨q,hq⟩:∃q:Nat,f.Of=q:=⟨f.Of.toNat,by omega⟩;have hih:ofM s f.Of (q1.1++q2.1)=zkg s (ofM s f.Of q2.1) (ofM s f.Of q1.1) f.Of:=by
         grind
        rw [v1,v12,xq (by simp [zaq]),xq (by simp [zaq]),zhM];simp only;rw [xp (by rw [hr];simp),xq wT,zkA,hih]
      grind [valO,comb,zaq,zhM]
  grind [zdy,unkO,zlr,zjA]
mutual
/-- Kept or left by ways. -/
def zsS (s:List Mes):Msg->Int->List zag->Bool->Msg
 | ⟨vs,u⟩,k,w,keep=>⟨ziP s vs (zo s k) w keep,if keep=true then [] else u⟩
def ziP (s:List Mes):List Vlu->Mes->List zag->Bool->List Vlu
 | [],_,_,_=>[]
 | v::l,m,w,keep=>zxq s v (zr m (fldI m v.Number)) w keep++ziP s l m w keep
def zxq (s:List Mes):Vlu->Fld->List zag->Bool->List Vlu
 | ⟨n,a,t,sub⟩,f,w,keep=>if zoE w n=false/\znd w n≠[]/\f.Kind=17/\f.Repeated=false then [⟨n,[],[],zpY s sub f.Of (znd w n) keep⟩]
  else if zoE w n=keep then [⟨n,a,t,sub⟩] else []
def zpY (s:List Mes):List Msg->Int->List zag->Bool->List Msg
 | [],_,_,_=>[]
 | x::_,k,w,keep=>[zsS s x k w keep]
end
theorem zxo (s:List Mes) (x:Msg) (k:Int) (w:List zag) (keep:Bool):zsS s x k w keep=⟨ziP s x.Values (zo s k) w keep,if keep=true then [] else x.Unknown⟩:=by cases x;rw [zsS]
theorem zsT (s:List Mes) (v:Vlu) (f:Fld) (w:List zag) (keep:Bool):zxq s v f w keep=if zoE w v.Number=false/\znd w v.Number≠[]/\f.Kind=17/\f.Repeated=false then [⟨v.Number,[],[],zpY s v.Subs f.Of (znd w v.Number) keep⟩]
  else if zoE w v.Number=keep then [v] else []:=by cases v;rw [zxq]
theorem zHG (s:List Mes) (v:Vlu) (f:Fld) (w:List zag) (keep:Bool):(zxq s v f w keep).length<=1:=by
 rw [zsT];split;simp;split<;>simp
theorem zEA (hv:zhb s v f) (ho:∀u,o=some u->zhb s u f)
  (ih:∀x∈v.Subs,∀y:Msg,zaA s x f.Of=true->zaA s y f.Of=true->zaA s (zkg s x y f.Of) f.Of=true):zhb s (zgH s v o f) f:=by
 have hm:=zrO hv ho;rw [zhM] at hm|-;cases o with
 | none=>exact hv
 | some u=>
  have hu:=ho u rfl;simp only at hm|-;by_cases hr:f.Repeated=true
  ·rw [xq hr] at hm|-;refine ⟨hm,(fun h=>by rw [hr] at h;cases h),hv.kind,fun w hw=>?_,fun w hw=>?_,fun w hw=>?_⟩
   ·rcases xA.1 hw with hw| hw
    ·exact hu.words w hw
    ·exact hv.words w hw
   ·rcases xA.1 hw with hw| hw
    ·exact hu.texts w hw
    ·exact hv.texts w hw
   ·rcases xA.1 hw with hw| hw
    ·exact hu.subs w hw
    ·exact hv.subs w hw
  ·rw [xp hr] at hm|-;by_cases wT:f.Kind=17
   ·rw [xq wT] at hm|-;obtain ⟨x,hvx,hx⟩:=hv.msg wT (by simpa using hr);obtain ⟨y,huy,hy⟩:=hu.msg wT (by simpa using hr);have hvs:v.Subs=[x]:=by rw [hvx]
    have hus:u.Subs=[y]:=by rw [huy]
    rw [hvs,hus,zkA];refine ⟨by simp [zaq],(fun _=>by simp [zaq]),hv.kind,(fun w hw=>nomatch hw),(fun w hw=>nomatch hw),fun w hw=>?_⟩
    grind
   grind
theorem zuG :∀(N:Nat) (b a:Msg) (k:Int),szM b<=N->zaA s a k=true->zaA s b k=true->zaA s (zkg s b a k) k=true
 | 0,b,a,k,h,_,_=>by rw [zcB] at h;omega
 | N+1,b,a,k,kg,ha,hb=>by
  obtain ⟨k0,k1,ra,ha',ua⟩:=zbc ha;obtain ⟨_,_,rb,hb',ub⟩:=zbc hb;obtain ⟨j1,j2⟩:=ztY ha hb;rw [zcB] at kg;refine zzH k0 k1 j1 (fun v hv=>?_) fun u hu=>?_
  ·have hl:=zwX j1 hv;rw [j2] at hl;cases hbl:look b.Values v.Number with
   | none=>
    grind [zeQ]
   | some w=>
    rw [hbl] at hl;simp only at hl;obtain ⟨wn,wm⟩:=zeQ hbl;obtain ⟨w0,wf⟩:=hb' w wm;rw [wn] at w0 wf;have hfw:=zdP wf;have s1:=zeK wm;rw [zfS] at s1;refine ⟨w0,zFO ?_⟩;have hvj:zgH s w (look a.Values v.Number) (zr (zo s k) (fldI (zo s k) v.Number))=v:=qH hl;have:=zEA (o:=look a.Values v.Number) hfw (fun u hu=>by
     obtain ⟨un,um⟩:=zeQ hu;have:=zdP (ha' u um).2;rw [un] at this;exact this) fun x hx y hxr hyr=>by
      have:=zeJ hx;exact zuG N x y _ (by omega) hyr hxr
    grind
  grind [zlr]
end Go.Proofs.YtaglemhabeipfaaGreat
