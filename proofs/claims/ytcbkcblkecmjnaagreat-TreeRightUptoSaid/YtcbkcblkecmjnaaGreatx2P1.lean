/-
  What the plain functions are. No condition.
-/
import Derived.Test.YtcbkcblkecmjnaaGreatx2S1
import Derived.Test.YtcbkcblkecmjnaaGreatx2K2
namespace Go.Proofs.YtcbkcblkecmjnaaGreat
open Go
def cpN (r:Nat):List Nat:=
 if r<128 then [r] else if r<2048 then [192+r/64,128+r%64]
 else if r<65536 then (if 55296≤r∧r≤57343 then [] else [224+r/4096,128+r/64%64,128+r%64])
 else if r≤1114111 then [240+r/262144,128+r/4096%64,128+r/64%64,128+r%64] else []
def cpB (r:Nat):List UInt8:=(cpN r).map UInt8.ofNat
def cont (c:UInt8):Bool:=decide (128≤c.toNat∧c.toNat<192)
def is1:List UInt8→Bool
 | a::_=>decide (a.toNat<128)
 | _=>false
def is2:List UInt8→Bool
 | a::b::_=>decide (194≤a.toNat∧a.toNat<224∧cont b=true)
 | _=>false
def is3:List UInt8→Bool
 | a::b::c::_=>decide (224≤a.toNat∧a.toNat<240∧cont b=true∧cont c=true∧(a.toNat=224→160≤b.toNat)∧(a.toNat=237→b.toNat<160))
 | _=>false
def is4:List UInt8→Bool
 | a::b::c::d::_=>decide (240≤a.toNat∧a.toNat<245∧cont b=true∧cont c=true∧cont d=true∧(a.toNat=240→144≤b.toNat)∧(a.toNat=244→b.toNat<144))
 | _=>false
def nxt (l:List UInt8):Nat:=if is1 l then 1 else if is2 l then 2 else if is3 l then 3 else if is4 l then 4 else 0
theorem zrL {n:Nat} {c:UInt8} (h:n<256):(UInt8.ofNat n=c)↔n=c.toNat:=by
 constructor
 ·intro e;rw [←e,UInt8.toNat_ofNat'];omega
 ·intro e;rw [e,UInt8.ofNat_toNat]
theorem zFJ (r:Int):zgx r=some (if r<0 then [] else cpB r.toNat):=by
 unfold zgx
 by_cases h0:r<0
 ·rw [itT (by simp;omega),if_pos h0]
 ·rw [if_neg h0]
  obtain ⟨n,rfl⟩:∃n:Nat,r=n:=⟨r.toNat,by omega⟩
  rw [Int.toNat_natCast]
  unfold cpB cpN
  by_cases h1:n<128
  ·rw [itF (by simp;omega),itT (by simp;omega),if_pos h1,zuw,zhe (n:=n) (by omega) (by omega)];rfl
  ·rw [if_neg h1]
   by_cases h2:n<2048
   ·rw [itF (by simp;omega),itF (by simp;omega),itT (by simp;omega),if_pos h2]
    simp only [Int.tdiv_eq_ediv_of_nonneg (show (0:Int)≤n by omega),Int.tmod_eq_emod_of_nonneg (show (0:Int)≤n by omega),zuw]
    rw [zD (x:=(n:Int)/64) (by omega),zD (by omega),zD (by omega),zhe (n:=192+n/64) (by omega) (by omega),sb,zhe (n:=128+n%64) (by omega) (by omega)];rfl
   ·rw [if_neg h2]
    by_cases h3:n<65536
    ·rw [if_pos h3]
     by_cases h4:55296≤n∧n≤57343
     ·rw [itT (by simp;omega),if_pos h4];rfl
     ·rw [itF (by simp;omega),itF (by simp;omega),itF (by simp;omega),itT (by simp;omega),if_neg h4]
      simp only [Int.tdiv_eq_ediv_of_nonneg (show (0:Int)≤n by omega),Int.tmod_eq_emod_of_nonneg (show (0:Int)≤n by omega),zuw]
      rw [zD (x:=(n:Int)/4096) (by omega),zD (x:=(n:Int)/64) (by omega),Int.tmod_eq_emod_of_nonneg (by omega),zD (by omega),zD (by omega),zD (by omega),
       zhe (n:=224+n/4096) (by omega) (by omega),sb,zhe (n:=128+n/64%64) (by omega) (by omega),sb,zhe (n:=128+n%64) (by omega) (by omega)];rfl
    ·rw [if_neg h3]
     by_cases h4:n≤1114111
     ·rw [itF (by simp;omega),itF (by simp;omega),itF (by simp;omega),itF (by simp;omega),if_pos h4]
      simp only [Int.tdiv_eq_ediv_of_nonneg (show (0:Int)≤n by omega),Int.tmod_eq_emod_of_nonneg (show (0:Int)≤n by omega),zuw]
      rw [zD (x:=(n:Int)/262144) (by omega),zD (x:=(n:Int)/4096) (by omega),zD (x:=(n:Int)/64) (by omega),Int.tmod_eq_emod_of_nonneg (by omega),Int.tmod_eq_emod_of_nonneg (by omega),zD (by omega),zD (by omega),zD (by omega),zD (by omega),
       zhe (n:=240+n/262144) (by omega) (by omega),sb,zhe (n:=128+n/4096%64) (by omega) (by omega),sb,zhe (n:=128+n/64%64) (by omega) (by omega),sb,zhe (n:=128+n%64) (by omega) (by omega)];rfl
     ·rw [itT (by simp;omega),if_neg h4];rfl
def zuK:Nat→List UInt8→Nat
 | 1,a::_=>a.toNat
 | 2,a::b::_=>64*(a.toNat%32)+b.toNat%64
 | 3,a::b::c::_=>64*(64*(a.toNat%16)+b.toNat%64)+c.toNat%64
 | 4,a::b::c::d::_=>64*(64*(64*(a.toNat%8)+b.toNat%64)+c.toNat%64)+d.toNat%64
 | _,_=>0
theorem map1 {l:List Nat} {a:UInt8} (h:∀x∈l,x<256):l.map UInt8.ofNat=[a]↔l=[a.toNat]:=by
 cases l with
 | nil=>simp
 | cons x l=>cases l with
  | nil=>simp only [List.map_cons,List.map_nil,List.cons.injEq,and_true];exact zrL (h x (by simp))
  | cons y l=>simp
theorem map2 {l:List Nat} {a b:UInt8} (h:∀x∈l,x<256):l.map UInt8.ofNat=[a,b]↔l=[a.toNat,b.toNat]:=by
 cases l with
 | nil=>simp
 | cons x l=>simp only [List.map_cons,List.cons.injEq,zrL (h x (by simp)),map1 (l:=l) fun y hy=>h y (by simp [hy])]
theorem map3 {l:List Nat} {a b c:UInt8} (h:∀x∈l,x<256):l.map UInt8.ofNat=[a,b,c]↔l=[a.toNat,b.toNat,c.toNat]:=by
 cases l with
 | nil=>simp
 | cons x l=>simp only [List.map_cons,List.cons.injEq,zrL (h x (by simp)),map2 (l:=l) fun y hy=>h y (by simp [hy])]
theorem map4 {l:List Nat} {a b c d:UInt8} (h:∀x∈l,x<256):l.map UInt8.ofNat=[a,b,c,d]↔l=[a.toNat,b.toNat,c.toNat,d.toNat]:=by
 cases l with
 | nil=>simp
 | cons x l=>simp only [List.map_cons,List.cons.injEq,zrL (h x (by simp)),map3 (l:=l) fun y hy=>h y (by simp [hy])]
theorem zxX (r:Nat):∀x∈cpN r,x<256:=by
 intro x hx
 unfold cpN at hx
 split at hx
 ·simp at hx;omega
 ·split at hx
  ·simp at hx;omega
  ·split at hx
   ·split at hx
    ·cases hx
    ·simp at hx;omega
   ·split at hx
    ·simp at hx;omega
    ·cases hx
theorem cpB1 (a:UInt8):cpB a.toNat=[a]↔a.toNat<128:=by
 have ha:=a.toNat_lt
 unfold cpB
 rw [map1 (zxX _)]
 unfold cpN
 by_cases h:a.toNat<128
 ·simp [h]
 ·rw [if_neg h,if_pos (by omega)];simp;omega
theorem cpB2 (a b:UInt8):cpB (64*(a.toNat%32)+b.toNat%64)=[a,b]↔194≤a.toNat∧a.toNat<224∧cont b=true:=by
 have ha:=a.toNat_lt
 have hb:=b.toNat_lt
 unfold cpB cont
 rw [map2 (zxX _)]
 unfold cpN
 by_cases h:64*(a.toNat%32)+b.toNat%64<128
 ·rw [if_pos h];simp;omega
 ·rw [if_neg h,if_pos (by omega)];simp;omega
theorem cpB3 (a b c:UInt8):cpB (64*(64*(a.toNat%16)+b.toNat%64)+c.toNat%64)=[a,b,c]↔224≤a.toNat∧a.toNat<240∧cont b=true∧cont c=true∧(a.toNat=224→160≤b.toNat)∧(a.toNat=237→b.toNat<160):=by
 have ha:=a.toNat_lt
 have hb:=b.toNat_lt
 have hc:=c.toNat_lt
 unfold cpB cont
 rw [map3 (zxX _)]
 unfold cpN
 by_cases h:64*(64*(a.toNat%16)+b.toNat%64)+c.toNat%64<128
 ·rw [if_pos h];simp;omega
 ·rw [if_neg h]
  by_cases h2:64*(64*(a.toNat%16)+b.toNat%64)+c.toNat%64<2048
  ·rw [if_pos h2];simp;omega
  ·rw [if_neg h2,if_pos (by omega)]
   by_cases h3:55296≤64*(64*(a.toNat%16)+b.toNat%64)+c.toNat%64∧64*(64*(a.toNat%16)+b.toNat%64)+c.toNat%64≤57343
   ·rw [if_pos h3];simp;omega
   ·rw [if_neg h3];simp;omega
theorem cpB4 (a b c d:UInt8):cpB (64*(64*(64*(a.toNat%8)+b.toNat%64)+c.toNat%64)+d.toNat%64)=[a,b,c,d]↔
  240≤a.toNat∧a.toNat<245∧cont b=true∧cont c=true∧cont d=true∧(a.toNat=240→144≤b.toNat)∧(a.toNat=244→b.toNat<144):=by
 have ha:=a.toNat_lt
 have hb:=b.toNat_lt
 have hc:=c.toNat_lt
 have hd:=d.toNat_lt
 unfold cpB cont
 rw [map4 (zxX _)]
 unfold cpN
 by_cases h:64*(64*(64*(a.toNat%8)+b.toNat%64)+c.toNat%64)+d.toNat%64<65536
 ·have:∀l:List Nat,l.length≤3→(l=[a.toNat,b.toNat,c.toNat,d.toNat])=False:=fun l hl=>by simp only [eq_iff_iff,iff_false];intro e;rw [e] at hl;simp at hl
  rw [if_pos h]
  split
  ·rw [this _ (by simp)];simp;omega
  ·split
   ·rw [this _ (by simp)];simp;omega
   ·split
    ·rw [this _ (by simp)];simp;omega
    ·rw [this _ (by simp)];simp;omega
 ·rw [if_neg (by omega),if_neg (by omega),if_neg h]
  by_cases h2:64*(64*(64*(a.toNat%8)+b.toNat%64)+c.toNat%64)+d.toNat%64≤1114111
  ·rw [if_pos h2];simp;omega
  ·rw [if_neg h2];simp;omega
def isN (n:Nat) (l:List UInt8):Bool:=match n with
 | 1=>is1 l
 | 2=>is2 l
 | 3=>is3 l
 | 4=>is4 l
 | _=>false
theorem zCw (n:Nat) (l:List UInt8) (h1:1≤n) (h4:n≤4) (hl:n≤l.length):cpB (zuK n l)=l.take n↔isN n l=true:=by
 match n,l,h1,h4,hl with
 | 1,a::t,_,_,_=>simp only [zuK,List.take_succ_cons,List.take_zero,cpB1,isN,is1,decide_eq_true_eq]
 | 2,a::b::t,_,_,_=>simp only [zuK,List.take_succ_cons,List.take_zero,cpB2,isN,is2,decide_eq_true_eq]
 | 3,a::b::c::t,_,_,_=>simp only [zuK,List.take_succ_cons,List.take_zero,cpB3,isN,is3,decide_eq_true_eq]
 | 4,a::b::c::d::t,_,_,_=>simp only [zuK,List.take_succ_cons,List.take_zero,cpB4,isN,is4,decide_eq_true_eq]
theorem zCx (n:Nat) (l:List UInt8) (h:l.length<n):isN n l=false:=by
 match n,l with
 | 0,_=>rfl
 | 1,[]=>rfl
 | 2,[]=>rfl
 | 2,[_]=>rfl
 | 3,[]=>rfl
 | 3,[_]=>rfl
 | 3,[_,_]=>rfl
 | 4,[]=>rfl
 | 4,[_]=>rfl
 | 4,[_,_]=>rfl
 | 4,[_,_,_]=>rfl
 | n+5,_=>rfl
 | 1,_::_=>simp at h
 | 2,_::_::_=>simp at h;omega
 | 3,_::_::_::_=>simp at h;omega
 | 4,_::_::_::_::_=>simp at h;omega
theorem zqb {b:List UInt8} {a n i r:Nat} (hb:b.length≤1152921504606846976) (hn:n≤4) (h:i<n) (ha:a+i<b.length) (hr:r≤1000000000):
  zbZ a b n r i=zbZ a b n ((64*r+(b[a+i]).toNat%64:Nat):Int) ((i+1:Nat):Int):=by
 refine zmL ?_
 unfold zbH
 have hc:=(b[a+i]).toNat_lt
 rw [itT (by simp;omega),zD (by omega),zR (show (a:Int)+i=((a+i:Nat):Int) by push_cast;rfl) ha,sb]
 simp (disch:=omega) only [zD,Int.tmod_eq_emod_of_nonneg]
 push_cast;rfl
theorem zyp {b:List UInt8} {a n i r:Nat} (h:n≤i):zbZ a b n r i=some (r:Int):=by
 refine zmM ?_
 unfold zbH
 rw [itF (by simp;omega)]
theorem zlD {b:List UInt8} {a i:Nat} {c:UInt8} (h:(b.drop a)[i]? =some c):∃h:a+i<b.length,b[a+i]=c:=by
 rw [List.getElem?_drop] at h
 exact List.getElem?_eq_some_iff.1 h
theorem zIM {b:List UInt8} {a n:Nat} {c:UInt8} {t:List UInt8} (hb:b.length≤1152921504606846976) (hl:b.drop a=c::t) (h1:1≤n) (h4:n≤4) (hn:n≤(b.drop a).length):
  zbZ a b n ((if 1<n then c.toNat%([0,0,32,16,8].getD n 0) else c.toNat:Nat):Int) (1:Nat)=some ((zuK n (b.drop a):Nat):Int):=by
 have hc:=c.toNat_lt
 rw [hl] at hn
 match n,t,h1,h4,hn with
 | 1,t,_,_,_=>rw [zyp (by omega),hl];rfl
 | 2,x::t,_,_,_=>
  obtain ⟨g1,e1⟩:=zlD (b:=b) (a:=a) (i:=1) (c:=x) (by rw [hl];rfl)
  rw [if_pos (by omega),zqb hb (by omega) (by omega) g1 (by simp;omega),zyp (by omega),hl,e1];rfl
 | 3,x::y::t,_,_,_=>
  obtain ⟨g1,e1⟩:=zlD (b:=b) (a:=a) (i:=1) (c:=x) (by rw [hl];rfl)
  obtain ⟨g2,e2⟩:=zlD (b:=b) (a:=a) (i:=2) (c:=y) (by rw [hl];rfl)
  have hx:=x.toNat_lt
  rw [if_pos (by omega),zqb hb (by omega) (by omega) g1 (by simp;omega),zqb hb (by omega) (by omega) g2 (by simp;omega),zyp (by omega),hl,e1,e2];rfl
 | 4,x::y::z::t,_,_,_=>
  obtain ⟨g1,e1⟩:=zlD (b:=b) (a:=a) (i:=1) (c:=x) (by rw [hl];rfl)
  obtain ⟨g2,e2⟩:=zlD (b:=b) (a:=a) (i:=2) (c:=y) (by rw [hl];rfl)
  obtain ⟨g3,e3⟩:=zlD (b:=b) (a:=a) (i:=3) (c:=z) (by rw [hl];rfl)
  have hx:=x.toNat_lt
  have hy:=y.toNat_lt
  rw [if_pos (by omega),zqb hb (by omega) (by omega) g1 (by simp;omega),zqb hb (by omega) (by omega) g2 (by simp;omega),zqb hb (by omega) (by omega) g3 (by simp;omega),zyp (by omega),hl,e1,e2,e3];rfl
theorem zHC {b:List UInt8} {a n:Nat} (hb:b.length≤1152921504606846976) (ha:a≤b.length) (h1:1≤n) (h5:n≤5):
  zbG a b n=if isN n (b.drop a) then some (.inr (.inr (n:Int))) else if n≤4∧n≤(b.drop a).length then some (.inl ((n+1:Nat):Int)) else some (.inr (.inl ())):=by
 have hdl:(b.drop a).length=b.length - a:=by simp
 unfold zbG
 by_cases h:n≤4∧n≤(b.drop a).length
 ·rw [if_pos h,zD (by omega),itT (by simp;omega)]
  obtain ⟨c,t,hl⟩:∃c t,b.drop a=c::t:=by
   cases hh:b.drop a with
   | nil=>rw [hh] at h;simp at h;omega
   | cons c t=>exact ⟨c,t,rfl⟩
  obtain ⟨g0,e0⟩:=zlD (b:=b) (a:=a) (i:=0) (c:=c) (by rw [hl];rfl)
  have hc:=c.toNat_lt
  rw [zR rfl (show a<b.length by omega),sb]
  have e0':b[a]'(by omega)=c:=by simpa using e0
  rw [e0',zD (by omega)]
  have hp:(if (decide ((n:Int)>1))=true then (idx ([0,0,32,16,8]:(List Int)) (n:Int)>>=fun x2=>remI (c.toNat:Int) x2>>=fun v3=>some v3) else some (c.toNat:Int))=some (((if 1<n then c.toNat%([0,0,32,16,8].getD n 0) else c.toNat:Nat)):Int):=by
   match n,h1,h.1 with
   | 1,_,_=>rfl
   | 2,_,_=>rfl
   | 3,_,_=>rfl
   | 4,_,_=>rfl
  rw [hp,sb]
  have h2:=zIM hb hl h1 h.1 h.2
  have h2':zbZ a b n ((if 1<n then c.toNat%([0,0,32,16,8].getD n 0) else c.toNat:Nat):Int) 1=some ((zuK n (b.drop a):Nat):Int):=h2
  rw [h2',sb,zFJ,sb,if_neg (by omega),Int.toNat_natCast,zjl rfl (show (a:Int)+n=((a+n:Nat):Int) by push_cast;rfl) (by omega) (by omega),sb,Nat.add_sub_cancel_left]
  by_cases hi:isN n (b.drop a)=true
  ·rw [if_pos hi,itT (by simpa using (zCw n _ h1 h.1 h.2).2 hi)]
  ·rw [if_neg hi,itF (by simpa using fun e=>hi ((zCw n _ h1 h.1 h.2).1 e)),zD (by omega)];rfl
 ·have hn:isN n (b.drop a)=false:=by
   by_cases h4:n≤4
   ·exact zCx _ _ (by omega)
   ·have:n=5:=by omega
    subst this;rfl
  rw [if_neg h,hn,zD (by omega),itF (by simp;omega)];rfl
theorem zvy {b:List UInt8} {a:Nat} (hb:b.length≤1152921504606846976) (ha:a≤b.length):zfX b a=some ((nxt (b.drop a):Nat):Int):=by
 have key:∀(k n:Nat),n+k=5→1≤n→(∀j,1≤j→j<n→isN j (b.drop a)=false)→∃q,zdw a b n=some q∧(match q with| .inl _=>(0:Int)| .inr u=>u)=((nxt (b.drop a):Nat):Int):=by
  intro k
  induction k with
  | zero=>
   intro n hn h1 hj
   have:n=5:=by omega
   subst this
   refine ⟨.inl (),zgm ?_,?_⟩
   ·rw [zHC hb ha h1 (by omega),if_neg (by simp [isN]),if_neg (by omega)]
   ·have j1:=hj 1 (by omega) (by omega)
    have j2:=hj 2 (by omega) (by omega)
    have j3:=hj 3 (by omega) (by omega)
    have j4:=hj 4 (by omega) (by omega)
    simp only [isN] at j1 j2 j3 j4
    simp [nxt,j1,j2,j3,j4]
  | succ k ih=>
   intro n hn h1 hj
   have hb1:=zHC hb ha h1 (show n≤5 by omega)
   by_cases hi:isN n (b.drop a)=true
   ·rw [if_pos hi] at hb1
    refine ⟨.inr n,zgm hb1,?_⟩
    have e:nxt (b.drop a)=n:=by
     match n,h1,(show n≤4 by omega),hi,hj with
     | 1,_,_,hi,_=>simp only [isN] at hi;simp [nxt,hi]
     | 2,_,_,hi,hj=>have j1:=hj 1 (by omega) (by omega);simp only [isN] at hi j1;simp [nxt,hi,j1]
     | 3,_,_,hi,hj=>have j1:=hj 1 (by omega) (by omega);have j2:=hj 2 (by omega) (by omega);simp only [isN] at hi j1 j2;simp [nxt,hi,j1,j2]
     | 4,_,_,hi,hj=>have j1:=hj 1 (by omega) (by omega);have j2:=hj 2 (by omega) (by omega);have j3:=hj 3 (by omega) (by omega);simp only [isN] at hi j1 j2 j3;simp [nxt,hi,j1,j2,j3]
    simp only [e]
   ·rw [if_neg hi] at hb1
    by_cases hl:n≤4∧n≤(b.drop a).length
    ·rw [if_pos hl] at hb1
     obtain ⟨q,h2,h3⟩:=ih (n+1) (by omega) (by omega) fun j g1 g2=>by
      by_cases he:j=n
      ·subst he;simpa using hi
      ·exact hj j g1 (by omega)
     exact ⟨q,(zmK hb1).trans h2,h3⟩
    ·rw [if_neg hl] at hb1
     refine ⟨.inl (),zgm hb1,?_⟩
     have hall:∀j,1≤j→isN j (b.drop a)=false:=fun j g1=>by
      by_cases g2:j<n
      ·exact hj j g1 g2
      ·by_cases g3:j≤4
       ·exact zCx _ _ (by omega)
       ·match j,g3 with
        | j+5,_=>rfl
     have j1:=hall 1 (by omega)
     have j2:=hall 2 (by omega)
     have j3:=hall 3 (by omega)
     have j4:=hall 4 (by omega)
     simp only [isN] at j1 j2 j3 j4
     simp [nxt,j1,j2,j3,j4]
 obtain ⟨q,h1,h2⟩:=key 4 1 rfl (by omega) fun j g1 g2=>by omega
 unfold zfX
 have h1':zdw a b 1=some q:=h1
 rw [h1',sb,←h2]
 cases q<;>rfl
theorem zlG {n:Nat} {l:List UInt8} (h:isN n l=true):∃a t,l=a::t∧n≤l.length∧(n=1∧a.toNat<128∨n=2∧194≤a.toNat∧a.toNat<224∨n=3∧224≤a.toNat∧a.toNat<240∨n=4∧240≤a.toNat):=by
 match n,l with
 | 1,a::t=>simp only [isN,is1,decide_eq_true_eq] at h;exact ⟨a,t,rfl,by simp,.inl ⟨rfl,h⟩⟩
 | 2,a::b::t=>simp only [isN,is2,decide_eq_true_eq] at h;exact ⟨a,_,rfl,by simp,.inr (.inl ⟨rfl,h.1,h.2.1⟩)⟩
 | 3,a::b::c::t=>simp only [isN,is3,decide_eq_true_eq] at h;exact ⟨a,_,rfl,by simp,.inr (.inr (.inl ⟨rfl,h.1,h.2.1⟩))⟩
 | 4,a::b::c::d::t=>simp only [isN,is4,decide_eq_true_eq] at h;exact ⟨a,_,rfl,by simp,.inr (.inr (.inr ⟨rfl,h.1⟩))⟩
 | 0,_=>cases h
 | 1,[]=>cases h
 | 2,[]=>cases h
 | 2,[_]=>cases h
 | 3,[]=>cases h
 | 3,[_]=>cases h
 | 3,[_,_]=>cases h
 | 4,[]=>cases h
 | 4,[_]=>cases h
 | 4,[_,_]=>cases h
 | 4,[_,_,_]=>cases h
 | _+5,_=>cases h
theorem zGF {n m:Nat} {l:List UInt8} (h:isN n l=true) (h':isN m l=true):n=m:=by
 obtain ⟨a,t,e,_,g⟩:=zlG h
 obtain ⟨a',t',e',_,g'⟩:=zlG h'
 rw [e] at e'
 cases e'
 omega
theorem zIi {n:Nat} {l:List UInt8} (h:isN n l=true):nxt l=n:=by
 obtain ⟨_,_,_,_,g⟩:=zlG h
 have k:∀m,m≠n→isN m l=false:=fun m hm=>by
  cases hh:isN m l with
  | false=>rfl
  | true=>exact absurd (zGF hh h) hm
 have hn:n=1∨n=2∨n=3∨n=4:=by omega
 rcases hn with rfl| rfl| rfl| rfl
 ·simp only [isN] at h;simp [nxt,h]
 ·have j1:=k 1 (by omega);simp only [isN] at h j1;simp [nxt,h,j1]
 ·have j1:=k 1 (by omega);have j2:=k 2 (by omega);simp only [isN] at h j1 j2;simp [nxt,h,j1,j2]
 ·have j1:=k 1 (by omega);have j2:=k 2 (by omega);have j3:=k 3 (by omega);simp only [isN] at h j1 j2 j3;simp [nxt,h,j1,j2,j3]
theorem zuo {l:List UInt8} (h:nxt l≠0):isN (nxt l) l=true:=by
 unfold nxt at h⊢
 by_cases h1:is1 l=true
 ·simp [h1,isN]
 ·by_cases h2:is2 l=true
  ·simp [h1,h2,isN]
  ·by_cases h3:is3 l=true
   ·simp [h1,h2,h3,isN]
   ·by_cases h4:is4 l=true
    ·simp [h1,h2,h3,h4,isN]
    ·simp [h1,h2,h3,h4] at h
theorem zqU (l:List UInt8):nxt l≤l.length:=by
 by_cases h:nxt l=0
 ·omega
 ·obtain ⟨_,_,_,g,_⟩:=zlG (zuo h);exact g
theorem zyB (l:List UInt8):nxt l≤4:=by
 by_cases h:nxt l=0
 ·omega
 ·obtain ⟨_,_,_,_,g⟩:=zlG (zuo h);omega
def fst4 (m:Int) (l:List UInt8):Nat×Nat:=
 if h:nxt l=0∨(nxt l:Int)>m then (0,0) else (nxt l+(fst4 (m - nxt l) (l.drop (nxt l))).1,(fst4 (m - nxt l) (l.drop (nxt l))).2+1)
termination_by l.length
decreasing_by all_goals (have:=zqU l;simp only [List.length_drop];omega)
theorem zpX {m:Int} {l:List UInt8} (h:nxt l=0∨(nxt l:Int)>m):fst4 m l=(0,0):=by rw [fst4,dif_pos h]
theorem zue {m:Int} {l:List UInt8} (h:¬(nxt l=0∨(nxt l:Int)>m)):fst4 m l=(nxt l+(fst4 (m - nxt l) (l.drop (nxt l))).1,(fst4 (m - nxt l) (l.drop (nxt l))).2+1):=by rw [fst4,dif_neg h]
theorem zEQ (P:Int→List UInt8→Prop) (h0:∀m l,(nxt l=0∨(nxt l:Int)>m)→P m l) (h1:∀m l,¬(nxt l=0∨(nxt l:Int)>m)→P (m - nxt l) (l.drop (nxt l))→P m l) (m:Int) (l:List UInt8):P m l:=by
 generalize hn:l.length=n
 induction n using Nat.strongRecOn generalizing m l with
 | _ n ih=>
  by_cases h:nxt l=0∨(nxt l:Int)>m
  ·exact h0 m l h
  ·have:=zqU l
   exact h1 m l h (ih _ (by simp only [List.length_drop];omega) _ _ rfl)
theorem zwu {b:List UInt8} (hb:b.length≤140737488355328) (most:Int) (m:Int) (l:List UInt8):∀(a c:Nat),c≤a→a≤b.length→l=b.drop a→m=most - a→
  zcJ b most a c=some (((a+(fst4 m l).1:Nat):Int),((c+(fst4 m l).2:Nat):Int)):=by
 refine zEQ (fun m l=>∀(a c:Nat),c≤a→a≤b.length→l=b.drop a→m=most - a→zcJ b most a c=some (((a+(fst4 m l).1:Nat):Int),((c+(fst4 m l).2:Nat):Int))) ?_ ?_ m l
 ·intro m l h a c hc ha hl hm
  subst hl hm
  have h4:=zyB (b.drop a)
  refine zmb ?_
  unfold zbq
  rw [zvy (by omega) ha,sb,zD (by omega),itT (by simp;omega),zpX h];rfl
 ·intro m l h ih a c hc ha hl hm
  subst hl hm
  have h4:=zyB (b.drop a)
  have hle:=zqU (b.drop a)
  simp only [List.length_drop] at hle
  refine (zma (atv':=((a+nxt (b.drop a):Nat):Int)) (count':=((c+1:Nat):Int)) ?_).trans ?_
  ·unfold zbq
   rw [zvy (by omega) ha,sb,zD (by omega),itF (by simp;omega),zD (by omega)];rfl
  ·rw [ih (a+nxt (b.drop a)) (c+1) (by omega) (by omega) (by rw [List.drop_drop]) (by omega),zue h]
   simp only [Nat.add_assoc,Nat.add_comm 1]
theorem zAp {b:List UInt8} (hb:b.length≤140737488355328) (most:Int):zfw b most=some (((fst4 most b).1:Int),((fst4 most b).2:Int)):=by
 unfold zfw
 have h:=zwu hb most most b 0 0 (Nat.le_refl _) (Nat.zero_le _) rfl (by omega)
 simp only [Nat.zero_add] at h
 have h':zcJ b most 0 0=some (((fst4 most b).1:Int),((fst4 most b).2:Int)):=h
 rw [h',sb]
def pre4 (l:List UInt8):Nat×Nat:=fst4 l.length l
theorem zEP {m:Int} {l:List UInt8} (h:(l.length:Int)≤m):fst4 m l=pre4 l:=by
 have key:∀(n:Nat) (l:List UInt8) (m m':Int),l.length=n→(l.length:Int)≤m→(l.length:Int)≤m'→fst4 m l=fst4 m' l:=by
  intro n
  induction n using Nat.strongRecOn with
  | _ n ih=>
   intro l m m' hn hm hm'
   have hle:=zqU l
   by_cases h:nxt l=0
   ·rw [zpX (.inl h),zpX (.inl h)]
   ·rw [zue (m:=m) (l:=l) (by omega),zue (m:=m') (l:=l) (by omega),ih _ (by simp only [List.length_drop];omega) (l.drop (nxt l)) (m - nxt l) (m' - nxt l) rfl (by simp only [List.length_drop];omega) (by simp only [List.length_drop];omega)]
 exact key _ l m l.length rfl h (Int.le_refl _)
theorem zDM {l:List UInt8} (h:nxt l=0):pre4 l=(0,0):=zpX (.inl h)
theorem zHa {l:List UInt8} (h:nxt l≠0):pre4 l=(nxt l+(pre4 (l.drop (nxt l))).1,(pre4 (l.drop (nxt l))).2+1):=by
 have hle:=zqU l
 unfold pre4
 rw [zue (by omega),zEP (m:=(l.length:Int) - nxt l) (by simp only [List.length_drop];omega)]
 rfl
theorem zFG (P:List UInt8→Prop) (h0:∀l,nxt l=0→P l) (h1:∀l,nxt l≠0→P (l.drop (nxt l))→P l) (l:List UInt8):P l:=by
 generalize hn:l.length=n
 induction n using Nat.strongRecOn generalizing l with
 | _ n ih=>
  by_cases h:nxt l=0
  ·exact h0 l h
  ·have:=zqU l
   exact h1 l h (ih _ (by simp only [List.length_drop];omega) _ rfl)
def zgB (l:List UInt8):Bool:=decide ((pre4 l).1=l.length)
theorem zyG {b:List UInt8} (hb:b.length≤140737488355328):zfx b=some (zgB b):=by
 unfold zfx
 rw [zAp hb,sb]
 unfold zgB pre4
 by_cases h:(fst4 (b.length:Int) b).1=b.length
 ·simp [h]
 ·have h2:¬(((fst4 (b.length:Int) b).1:Int)=b.length):=by omega
  simp [h,h2]
end Go.Proofs.YtcbkcblkecmjnaaGreat
namespace Go.Proofs.YtcbkcblkecmjnaaGreat
open Go
def enc (v:Nat):List UInt8:=if v<128 then [UInt8.ofNat v] else UInt8.ofNat (128+v%128)::enc (v/128)
termination_by v
decreasing_by omega
def scan:Nat→Nat→List UInt8→Unit⊕(Int×Int×Int)
 | _,_,[]=> .inl ()
 | i,acc,c::t=>if i=9∧1<c.toNat then .inr (0,0,4) else if c.toNat<128 then .inr (((acc+c.toNat%128*128^i:Nat):Int),((i+1:Nat):Int),0) else scan (i+1) (acc+c.toNat%128*128^i) t
def rdR:Unit⊕(Int×Int×Int)→Int×Int×Int
 | .inl _=>(0,0,3)
 | .inr r=>r
def rd (b:List UInt8):Int×Int×Int:=rdR (scan 0 0 (b.take 10))
def hor:List UInt8→Nat
 | []=>0
 | c::t=>c.toNat%128+128*hor t
def lead:Nat→List UInt8→Nat
 | 0,_=>0
 | _+1,[]=>0
 | k+1,c::t=>if 128≤c.toNat then lead k t+1 else 0
theorem zHJ (i:Nat):2^(7*i)=128^i:=by rw [Nat.pow_mul]
theorem zGu (c:Nat):c&&&127=c%128:=Nat.and_two_pow_sub_one_eq_mod c 7
theorem zDP {acc i c:Nat} (hi:i≤9) (hacc:acc<128^i) (hc:c<256) (h9:i=9→c≤1):
  orI .u64 (acc:Int) (shlI .u64 (IntKind.u64.wrap (andI .u8 (c:Int) 127)) ((7*i:Nat):Int))=((acc+c%128*128^i:Nat):Int):=by
 have e1:andI .u8 (c:Int) 127=((c%128:Nat):Int):=by
  have:=zze (k:= .u8) rfl (a:=c) (b:=127) (by simpa [IntKind.bits] using hc) (by simp [IntKind.bits])
  rw [zGu] at this;exact this
 have hp:128^i≤128^9:=Nat.pow_le_pow_right (by omega) hi
 have hlt:c%128*128^i<18446744073709551616:=by
  by_cases h:i=9
  ·subst h
   have:=h9 rfl
   have h2:c%128≤1:=by omega
   have:=Nat.mul_le_mul_right (128^9) h2
   omega
  ·have h3:128^i≤128^8:=Nat.pow_le_pow_right (by omega) (by omega)
   have:=Nat.mul_le_mul (show c%128≤127 by omega) h3
   omega
 have e2:shlI .u64 (IntKind.u64.wrap ((c%128:Nat):Int)) ((7*i:Nat):Int)=((c%128*128^i:Nat):Int):=by
  unfold shlI
  rw [zst rfl (by simp [IntKind.bits];omega),Int.toNat_natCast,Nat.min_eq_left (by simp [IntKind.bits];omega)]
  have h4:((c%128:Nat):Int)*2^(7*i)=((c%128*128^i:Nat):Int):=by rw [←zHJ];push_cast;rfl
  rw [h4]
  exact zst rfl (by simpa [IntKind.bits] using hlt)
 rw [e1,e2,zCO rfl (by simp [IntKind.bits];omega) (by simpa [IntKind.bits] using hlt)]
 congr 1
 rw [←zHJ] at hacc⊢
 exact zAg _ _ _ hacc
theorem zDO:∀(t:List UInt8) (v:List UInt8) (i acc:Nat),v.drop i=t→i+t.length=v.length→v.length≤10→acc<128^i→zgL v acc i=some (scan i acc t):=by
 intro t
 induction t with
 | nil=>
  intro v i acc _ hl _ _
  refine ziO ?_
  unfold zcS
  rw [itF (by simp at hl⊢;omega)]
  rfl
 | cons c t ih=>
  intro v i acc hd hl hv hacc
  simp only [List.length_cons] at hl
  have hget:v[i]'(by omega)=c:=by
   have h1:v.drop i=v[i]'(by omega)::v.drop (i+1):=List.drop_eq_getElem_cons (by omega)
   rw [hd] at h1;exact (List.cons.inj h1).1.symm
  have hd':v.drop (i+1)=t:=by rw [←List.drop_drop,hd];rfl
  have hc:=c.toNat_lt
  have hb:zcS v acc i=if i=9∧1<c.toNat then some (.inr (.inr (0,0,4))) else if c.toNat<128 then some (.inr (.inr (((acc+c.toNat%128*128^i:Nat):Int),((i+1:Nat):Int),0))) else some (.inl (((acc+c.toNat%128*128^i:Nat):Int),((i+1:Nat):Int))):=by
   unfold zcS
   rw [itT (by simp;omega),zR rfl (show i<v.length by omega),sb,hget]
   by_cases h9:i=9∧1<c.toNat
   ·rw [if_pos h9,itT (by simp;omega)]
   ·rw [if_neg h9,itF (by simp;omega),zD (by omega)]
    have e:((7:Int)*(i:Int))=((7*i:Nat):Int):=by push_cast;rfl
    rw [e,zAw,sb,zDP (by omega) hacc (by omega) (by omega),zD (by omega)]
    by_cases h8:c.toNat<128
    ·rw [if_pos h8,itT (by simp;omega)];push_cast;rfl
    ·rw [if_neg h8,itF (by simp;omega)];push_cast;rfl
  rw [scan]
  split at hb
  ·rename_i h9;rw [if_pos h9];exact ziO hb
  ·rename_i h9
   rw [if_neg h9]
   split at hb
   ·rename_i h8;rw [if_pos h8];exact ziO hb
   ·rename_i h8
    rw [if_neg h8,zrm hb]
    refine ih v (i+1) _ hd' (by omega) hv ?_
    rw [Nat.pow_succ]
    have:=Nat.mul_le_mul_right (128^i) (show c.toNat%128≤127 by omega)
    omega
theorem zuu (b:List UInt8):zgj b=some (rd b):=by
 unfold zgj rd
 have e:(if (10:Int)<(b.length:Int) then (10:Int) else (b.length:Int))=((min 10 b.length:Nat):Int):=by split<;>omega
 have e2:b.take (min 10 b.length)=b.take 10:=by rw [List.take_eq_take_iff];omega
 rw [e,zuL rfl (by omega),sb,e2]
 have h:=zDO (b.take 10) (b.take 10) 0 0 rfl (by simp) (by simp;omega) (by simp)
 have h':zgL (b.take 10) 0 0=some (scan 0 0 (b.take 10)):=h
 rw [h',sb]
 cases scan 0 0 (b.take 10)<;>rfl
theorem zCX (b:List UInt8):zjb b=some ((rd b).2.1,(rd b).2.2):=by unfold zjb;rw [zuu,sb]
theorem zyr:∀(k:Nat) (l:List UInt8),lead k l≤k∧lead k l≤l.length
 | 0,_=>⟨Nat.le_refl _,Nat.zero_le _⟩
 | _+1,[]=>⟨Nat.zero_le _,Nat.le_refl _⟩
 | k+1,c::t=>by
  have:=zyr k t
  rw [lead];split<;>simp<;>omega
theorem zxw:∀(l:List UInt8) (i acc:Nat),i+l.length≤10→i≤9→
  scan i acc l=if i+lead (10 - i) l=10 then .inr (0,0,4) else if lead (10 - i) l=l.length then .inl () else if i+lead (10 - i) l=9∧1<(l.getD (lead (10 - i) l) 0).toNat then .inr (0,0,4) else
   .inr (((acc+hor (l.take (lead (10 - i) l+1))*128^i:Nat):Int),((i+lead (10 - i) l+1:Nat):Int),0):=by
 intro l
 induction l with
 | nil=>
  intro i acc _ hi
  obtain ⟨k,hk⟩:∃k,10 - i=k+1:=⟨9 - i,by omega⟩
  rw [hk]
  simp only [lead,scan,List.length_nil]
  rw [if_neg (by omega),if_pos trivial]
 | cons c t ih=>
  intro i acc hl hi
  obtain ⟨k,hk⟩:∃k,10 - i=k+1:=⟨9 - i,by omega⟩
  simp only [List.length_cons] at hl
  rw [scan]
  by_cases hc:128≤c.toNat
  ·have e:lead (10 - i) (c::t)=lead k t+1:=by rw [hk,lead,if_pos hc]
   rw [e]
   by_cases h9:i=9
   ·have:k=0:=by omega
    subst this
    rw [if_pos ⟨h9,by omega⟩,lead,if_pos (by omega)]
   ·rw [if_neg (by omega),if_neg (by omega),ih (i+1) _ (by omega) (by omega),show 10 - (i+1)=k by omega]
    by_cases h1:i+1+lead k t=10
    ·rw [if_pos h1,if_pos (show i+(lead k t+1)=10 by omega)]
    ·rw [if_neg h1,if_neg (show ¬i+(lead k t+1)=10 by omega)]
     by_cases h2:lead k t=t.length
     ·rw [if_pos h2,if_pos (show lead k t+1=(c::t).length by simp;omega)]
     ·rw [if_neg h2,if_neg (show ¬lead k t+1=(c::t).length by simp;omega)]
      have eg:(c::t).getD (lead k t+1) 0=t.getD (lead k t) 0:=by simp [List.getD]
      rw [eg]
      by_cases h3:i+1+lead k t=9∧1<(t.getD (lead k t) 0).toNat
      ·rw [if_pos h3,if_pos (show i+(lead k t+1)=9∧1<(t.getD (lead k t) 0).toNat by omega)]
      ·rw [if_neg h3,if_neg (show ¬(i+(lead k t+1)=9∧1<(t.getD (lead k t) 0).toNat) by omega)]
       rw [List.take_succ_cons,hor,Nat.pow_succ]
       have e5:acc+c.toNat%128*128^i+hor (t.take (lead k t+1))*(128^i*128)=acc+(c.toNat%128+128*hor (t.take (lead k t+1)))*128^i:=by
        rw [Nat.add_mul,Nat.mul_assoc 128,Nat.mul_comm (128^i) 128,←Nat.mul_assoc,Nat.mul_comm _ 128,Nat.mul_assoc];omega
       rw [e5]
       congr 3
       omega
  ·have e:lead (10 - i) (c::t)=0:=by rw [hk,lead,if_neg hc]
   rw [e]
   simp only [Nat.add_zero,List.length_cons,List.getD_cons_zero]
   rw [if_neg (show ¬i=10 by omega),if_neg (show ¬0=t.length+1 by omega)]
   by_cases h9:i=9∧1<c.toNat
   ·rw [if_pos h9,if_pos h9]
   ·rw [if_neg h9,if_neg h9,if_pos (show c.toNat<128 by omega)]
    simp [hor]
theorem zuX (x y:List UInt8):hor (x++y)=hor x+128^x.length*hor y:=by
 induction x with
 | nil=>simp [hor]
 | cons c t ih=>simp only [List.cons_append,hor,ih,List.length_cons,Nat.pow_succ,Nat.mul_add];rw [Nat.mul_comm (128^t.length) 128,Nat.mul_assoc];omega
theorem zBl (l:List UInt8):hor l<128^l.length:=by
 induction l with
 | nil=>simp [hor]
 | cons c t ih=>simp only [hor,List.length_cons,Nat.pow_succ];omega
theorem zES (l:List UInt8) (j:Nat):hor (l.drop j)≤hor l:=by
 induction l generalizing j with
 | nil=>simp
 | cons c t ih=>
  cases j with
  | zero=>exact Nat.le_refl _
  | succ j=>have:=ih j;simp only [List.drop_succ_cons,hor];omega
theorem zDS (b:List UInt8) (a:Nat) (hb:b.length≤1152921504606846976):∀(k n:Nat),n+k=10→a+n≤b.length→zdu a b n=some ((n+lead k (b.drop (a+n)):Nat):Int):=by
 intro k
 induction k with
 | zero=>
  intro n hn ha
  refine zgl ?_
  unfold zaQ
  rw [zD (by omega)]
  by_cases h1:a+n<b.length
  ·rw [itT (by simp;omega),itF (by simp;omega),sb,itF (by rfl)];rfl
  ·rw [itF (by simp;omega),sb,itF (by rfl)];rfl
 | succ k ih=>
  intro n hn ha
  by_cases h1:a+n<b.length
  ·have hd:b.drop (a+n)=b[a+n]::b.drop (a+(n+1)):=List.drop_eq_getElem_cons h1
   have hbody:zaQ a b n=if 128≤b[a+n].toNat then some (.inl ((n+1:Nat):Int)) else some (.inr (n:Int)):=by
    unfold zaQ
    rw [zD (by omega),zD (by omega),itT (by simp;omega),itT (by simp;omega),zR (show (a:Int)+n=((a+n:Nat):Int) by push_cast;rfl) h1,sb,sb]
    by_cases h2:128≤b[a+n].toNat
    ·rw [if_pos h2,itT (by simp;omega)];push_cast;rfl
    ·rw [if_neg h2,itF (by simp;omega)]
   rw [hd,lead]
   by_cases h2:128≤b[a+n].toNat
   ·rw [if_pos h2] at hbody⊢
    rw [zmG hbody,ih (n+1) (by omega) (by omega)]
    congr 2;omega
   ·rw [if_neg h2] at hbody⊢
    exact zgl hbody
  ·have hd:b.drop (a+n)=[]:=List.drop_eq_nil_of_le (by omega)
   rw [hd]
   refine zgl ?_
   unfold zaQ
   rw [zD (by omega),itF (by simp;omega),sb,itF (by rfl)];rfl
theorem zDT (b:List UInt8) (a m:Nat) (hb:b.length≤1152921504606846976) (hm:a+m≤b.length) (hh:hor ((b.drop a).take m)<18446744073709551616):
  ∀(j:Nat),j≤m→zdv a b (hor (((b.drop a).take m).drop j)) ((j:Int) - 1)=some ((hor ((b.drop a).take m):Nat):Int):=by
 intro j
 induction j with
 | zero=>
  intro _
  refine zmI ?_
  unfold zbF
  rw [itF (by simp)];rfl
 | succ j ih=>
  intro hj
  have hL:((b.drop a).take m).length=m:=by simp;omega
  have hd:((b.drop a).take m).drop j=((b.drop a).take m)[j]'(by omega)::((b.drop a).take m).drop (j+1):=List.drop_eq_getElem_cons (by omega)
  have hc:((b.drop a).take m)[j]'(by omega)=b[a+j]'(by omega):=by simp
  have h1:=zES ((b.drop a).take m) j
  rw [hd,hor,hc] at h1
  have h2:=(b[a+j]'(by omega)).toNat_lt
  refine (zmH (wv':=(hor (((b.drop a).take m).drop j):Nat)) (i':=(j:Int) - 1) ?_).trans (ih (by omega))
  unfold zbF
  rw [itT (by simp),zD (by omega),zR (show (a:Int)+(((j+1:Nat):Int) - 1)=((a+j:Nat):Int) by push_cast;omega) (by omega),sb,zD (by omega),hd,hor,hc]
  simp only [wrap_u64]
  rw [Int.tmod_eq_emod_of_nonneg (by omega)]
  congr 3
  ·omega
  ·push_cast;omega
theorem zGh {n C X:Nat} (hn:n≤9) (hC:C<256) (h9:¬(n=9∧1<C)) (hX:X<128^n):X+128^n*(C%128)<18446744073709551616:=by
 by_cases h9':n=9
 ·subst h9'
  have:C%128≤1:=by omega
  have:=Nat.mul_le_mul_left (128^9) this
  omega
 ·have h5:128^n≤128^8:=Nat.pow_le_pow_right (by omega) (by omega)
  have h6:C%128≤127:=by omega
  have:=Nat.mul_le_mul h5 h6
  omega
theorem zBH (b:List UInt8) (a:Nat) (hb:b.length≤1152921504606846976) (ha:a≤b.length):zdW b a=some (rd (b.drop a)):=by
 unfold zdW
 have h1:=zDS b a hb 10 0 rfl (by omega)
 simp only [Nat.zero_add,Nat.add_zero] at h1
 have h1':zdu a b 0=some ((lead 10 (b.drop a):Nat):Int):=h1
 rw [h1',sb]
 have hle:=zyr 10 (b.drop a)
 have hlen:(b.drop a).length=b.length - a:=by simp
 -- the ten bytes that count
 have htake:∀(k:Nat) (l:List UInt8),lead k (l.take k)=lead k l:=by
  intro k
  induction k with
  | zero=>intro l;rfl
  | succ k ih=>intro l;cases l with
   | nil=>rfl
   | cons c t=>simp only [List.take_succ_cons,lead,ih]
 have hs:=zxw ((b.drop a).take 10) 0 0 (by simp;omega) (by omega)
 simp only [Nat.zero_add,Nat.sub_zero,htake,Nat.pow_zero,Nat.mul_one] at hs
 unfold rd
 rw [hs]
 by_cases h10:lead 10 (b.drop a)=10
 ·rw [if_pos h10,itT (by simp;omega)];rfl
 ·rw [if_neg h10,itF (by simp;omega),zD (by omega)]
  by_cases hl:lead 10 (b.drop a)=(b.drop a).length
  ·rw [if_pos (show lead 10 (b.drop a)=((b.drop a).take 10).length by rw [List.length_take];omega),itT (by simp;omega)];rfl
  ·rw [if_neg (show ¬lead 10 (b.drop a)=((b.drop a).take 10).length by rw [List.length_take];omega),itF (by simp;omega)]
   have hlt:a+lead 10 (b.drop a)<b.length:=by omega
   have hg:((b.drop a).take 10).getD (lead 10 (b.drop a)) 0=b[a+lead 10 (b.drop a)]:=by
    rw [List.getD_eq_getElem?_getD,List.getElem?_take,if_pos (by omega),List.getElem?_drop,List.getElem?_eq_getElem hlt];rfl
   rw [hg,List.take_take,Nat.min_eq_left (by omega)]
   have hc:=(b[a+lead 10 (b.drop a)]).toNat_lt
   have hg2:(if (((lead 10 (b.drop a):Nat):Int)==9)=true then (idx b ((a:Int)+((lead 10 (b.drop a):Nat):Int))>>=fun x2=>some (decide ((x2.toNat:Int)>1))) else some false)=some (decide (lead 10 (b.drop a)=9∧1<(b[a+lead 10 (b.drop a)]).toNat)):=by
    by_cases h9:lead 10 (b.drop a)=9
    ·rw [itT (by simp;omega),zR (show (a:Int)+((lead 10 (b.drop a):Nat):Int)=((a+lead 10 (b.drop a):Nat):Int) by push_cast;rfl) hlt,sb]
     congr 1
     simp only [h9,true_and,decide_eq_decide]
     omega
    ·rw [itF (by simp;omega)];simp [h9]
   rw [hg2,sb]
   by_cases h9:lead 10 (b.drop a)=9∧1<(b[a+lead 10 (b.drop a)]).toNat
   ·rw [if_pos h9,itT (by simpa using h9)];rfl
   ·rw [if_neg h9,itF (decide_eq_false h9)]
    have hbd:hor ((b.drop a).take (lead 10 (b.drop a)+1))<18446744073709551616:=by
     have hsp:(b.drop a).take (lead 10 (b.drop a)+1)=(b.drop a).take (lead 10 (b.drop a))++[b[a+lead 10 (b.drop a)]]:=by
      rw [List.take_add_one,List.getElem?_drop,List.getElem?_eq_getElem hlt];rfl
     rw [hsp,zuX]
     have h3:=zBl ((b.drop a).take (lead 10 (b.drop a)))
     have h4:((b.drop a).take (lead 10 (b.drop a))).length=lead 10 (b.drop a):=by simp;omega
     rw [h4] at h3⊢
     simp only [hor,Nat.mul_zero,Nat.add_zero]
     exact zGh (by omega) (by omega) h9 h3
    have h2:=zDT b a (lead 10 (b.drop a)+1) hb (by omega) hbd (lead 10 (b.drop a)+1) (Nat.le_refl _)
    have hz:((b.drop a).take (lead 10 (b.drop a)+1)).drop (lead 10 (b.drop a)+1)=[]:=List.drop_eq_nil_of_le (by simp;omega)
    rw [hz] at h2
    have e3:(((lead 10 (b.drop a)+1:Nat):Int) - 1)=((lead 10 (b.drop a):Nat):Int):=by push_cast;omega
    rw [e3] at h2
    have h2':zdv a b 0 ((lead 10 (b.drop a):Nat):Int)=some ((hor ((b.drop a).take (lead 10 (b.drop a)+1)):Nat):Int):=h2
    rw [h2',sb,zD (by omega)]
    simp [rdR]
theorem zxg:∀(k:Nat) (l:List UInt8),lead k (l.take k)=lead k l
 | 0,_=>rfl
 | _+1,[]=>rfl
 | k+1,c::t=>by simp only [List.take_succ_cons,lead,zxg k t]
theorem zxf:∀(k:Nat) (l:List UInt8),(∀y∈l.take (lead k l),128≤y.toNat)∧∀(h:lead k l<l.length),lead k l<k→(l[lead k l]).toNat<128
 | 0,_=>⟨fun y hy=>by simp [lead] at hy,fun _ h=>by omega⟩
 | _+1,[]=>⟨fun y hy=>by simp at hy,fun h=>by simp at h⟩
 | k+1,c::t=>by
  obtain ⟨h1,h2⟩:=zxf k t
  by_cases hc:128≤c.toNat
  ·have e:lead (k+1) (c::t)=lead k t+1:=by rw [lead,if_pos hc]
   constructor
   ·rw [e,List.take_succ_cons]
    intro y hy
    cases hy with
    | head=>exact hc
    | tail _ hy=>exact h1 y hy
   ·simp only [e,List.getElem_cons_succ,List.length_cons]
    intro h hk;exact h2 (by omega) (by omega)
  ·have e:lead (k+1) (c::t)=0:=by rw [lead,if_neg hc]
   constructor
   ·rw [e];intro y hy;simp at hy
   ·simp only [e];intro _ _;simp;omega
theorem zlM (b:List UInt8):rd b=(0,0,4)∨(rd b=(0,0,3)∧b.length≤9)∨
  ∃x c y,b=x++c::y∧(∀z∈x,128≤z.toNat)∧c.toNat<128∧x.length≤9∧hor (x++[c])<18446744073709551616∧rd b=(((hor (x++[c]):Nat):Int),((x.length+1:Nat):Int),0):=by
 have hle:=zyr 10 b
 have hs:=zxw (b.take 10) 0 0 (by simp;omega) (by omega)
 simp only [Nat.zero_add,Nat.sub_zero,zxg,Nat.pow_zero,Nat.mul_one] at hs
 unfold rd
 rw [hs]
 by_cases h10:lead 10 b=10
 ·rw [if_pos h10];exact .inl rfl
 ·rw [if_neg h10]
  by_cases hl:lead 10 b=(b.take 10).length
  ·rw [if_pos hl];refine .inr (.inl ⟨rfl,?_⟩);rw [List.length_take] at hl;omega
  ·rw [if_neg hl]
   rw [List.length_take] at hl
   have hlt:lead 10 b<b.length:=by omega
   have hg:(b.take 10).getD (lead 10 b) 0=b[lead 10 b]:=by
    rw [List.getD_eq_getElem?_getD,List.getElem?_take,if_pos (by omega),List.getElem?_eq_getElem hlt];rfl
   rw [hg,List.take_take,Nat.min_eq_left (by omega)]
   have hc:=(b[lead 10 b]).toNat_lt
   by_cases h9:lead 10 b=9∧1<(b[lead 10 b]).toNat
   ·rw [if_pos h9];exact .inl rfl
   ·rw [if_neg h9]
    obtain ⟨hf1,hf2⟩:=zxf 10 b
    have hsp:b.take (lead 10 b+1)=b.take (lead 10 b)++[b[lead 10 b]]:=by
     rw [List.take_add_one,List.getElem?_eq_getElem hlt];rfl
    have hlen:(b.take (lead 10 b)).length=lead 10 b:=by rw [List.length_take];omega
    refine .inr (.inr ⟨b.take (lead 10 b),b[lead 10 b],b.drop (lead 10 b+1),?_,hf1,hf2 hlt (by omega),by omega,?_,?_⟩)
    ·rw [←List.drop_eq_getElem_cons hlt,List.take_append_drop]
    ·rw [zuX]
     have h3:=zBl (b.take (lead 10 b))
     rw [hlen] at h3⊢
     simp only [hor,Nat.mul_zero,Nat.add_zero]
     exact zGh (by omega) (by omega) h9 h3
    ·rw [hsp,hlen];simp [rdR]
theorem zHS {v:Nat} (h:v<128):enc v=[UInt8.ofNat v]:=by rw [enc,if_pos h]
theorem zHR {v:Nat} (h:¬v<128):enc v=UInt8.ofNat (128+v%128)::enc (v/128):=by rw [enc,if_neg h]
theorem zyd:∀(v:Nat),(enc v).length=lenN v:=by
 intro v
 induction v using Nat.strongRecOn with
 | _ v ih=>
  by_cases h:v<128
  ·rw [zHS h,zqc h];rfl
  ·rw [zHR h,zrJ h,List.length_cons,ih _ (by omega)]
theorem zHK (v:Nat):shrI .u64 (v:Int) 7=((v/128:Nat):Int):=zvI (k:= .u64) (a:=v) (b:=7) (by simp [IntKind.bits])
theorem zFr:∀(w n:Nat),n+w<9223372036854775808+w→n+lz w≤1152921504606846976→ziP w n=some ((n+lz w:Nat):Int):=by
 intro w
 induction w using Nat.strongRecOn with
 | _ w ih=>
  intro n hn hl
  by_cases h:w=0
  ·subst h
   refine ztM ?_
   unfold zfn
   rw [itF (by simp)];rfl
  ·have e:=zIg h
   refine (ztL (wv2':=((w/128:Nat):Int)) (n':=((n+1:Nat):Int)) ?_).trans ?_
   ·unfold zfn
    rw [itT (by simp;omega),zHK,zD (by omega)];rfl
   ·rw [ih (w/128) (by omega) (n+1) (by omega) (by omega)]
    congr 2;omega
theorem zIc {v:Nat} (h:v<18446744073709551616):zpc (v:Int)=some ((lenN v:Nat):Int):=by
 unfold zpc
 have h1:=zIf v
 have h2:=zFq h
 have h3:=zFr (v/128) 1 (by omega) (by omega)
 have h3':ziP ((v/128:Nat):Int) 1=some ((1+lz (v/128):Nat):Int):=h3
 rw [zHK,h3',sb,h1]
theorem zDY (a b:List Int) (hl:a.length=b.length) (hb:a.length≤1152921504606846976):∀(k i:Nat),i+k=a.length→
  (a.drop i=b.drop i∧zcu a b i=some (.inl ()))∨(a.drop i≠b.drop i∧zcu a b i=some (.inr ())):=by
 intro k
 induction k with
 | zero=>
  intro i hi
  refine .inl ⟨?_,zir ?_⟩
  ·rw [List.drop_eq_nil_of_le (by omega),List.drop_eq_nil_of_le (by omega)]
  ·unfold zbh
   rw [itF (by simp;omega)]
 | succ k ih=>
  intro i hi
  have ha:a.drop i=a[i]'(by omega)::a.drop (i+1):=List.drop_eq_getElem_cons (by omega)
  have hb':b.drop i=b[i]'(by omega)::b.drop (i+1):=List.drop_eq_getElem_cons (by omega)
  have hbody:zbh a b i=if a[i]'(by omega)=b[i]'(by omega) then some (.inl ((i+1:Nat):Int)) else some (.inr (.inr ())):=by
   unfold zbh
   rw [itT (by simp;omega),zR rfl (show i<a.length by omega),sb,zR rfl (show i<b.length by omega),sb,zD (by omega)]
   by_cases h:a[i]'(by omega)=b[i]'(by omega)
   ·rw [if_pos h,itF (by simpa using h)];rfl
   ·rw [if_neg h,itT (by simpa using h)]
  rw [ha,hb']
  by_cases h:a[i]'(by omega)=b[i]'(by omega)
  ·rw [if_pos h] at hbody
   rw [zmJ hbody]
   rcases ih (i+1) (by omega) with ⟨h1,h2⟩| ⟨h1,h2⟩
   ·exact .inl ⟨by rw [h,h1],h2⟩
   ·exact .inr ⟨fun e=>h1 (List.cons.inj e).2,h2⟩
  ·rw [if_neg h] at hbody
   exact .inr ⟨fun e=>h (List.cons.inj e).1,zir hbody⟩
theorem zCW (a b:List Int) (hb:a.length≤1152921504606846976):zcY a b=some (decide (a=b)):=by
 unfold zcY
 by_cases hl:a.length=b.length
 ·rw [itF (by simp;omega)]
  rcases zDY a b hl hb a.length 0 (by omega) with ⟨h1,h2⟩| ⟨h1,h2⟩
  ·have h2':zcu a b 0=some (.inl ()):=h2
   rw [h2',sb]
   simp only [List.drop_zero] at h1
   simp [h1]
  ·have h2':zcu a b 0=some (.inr ()):=h2
   rw [h2',sb]
   simp only [List.drop_zero] at h1
   simp [h1]
 ·rw [itT (by simp;omega)]
  have:a≠b:=fun e=>hl (by rw [e])
  simp [this]
theorem all_nil (acc:List Int):zqH [] acc=some (.inl acc):=by
 refine zsp ?_
 unfold zkk
 rw [itF (by simp)]
end Go.Proofs.YtcbkcblkecmjnaaGreat
namespace Go.Proofs.YtcbkcblkecmjnaaGreat
open Go
def zhs (n w:Int):Bool:=decide (1≤n∧n≤536870911∧(w=0∨w=1∨w=2∨w=5))
def tgR (r:Int×Int×Int):Int×Int×Int×Int:=
 if r.2.2≠0 then (0,0,0,r.2.2) else if 4294967295<r.1∨zhs (r.1/8) (r.1%8)=false then (0,0,0,5) else (r.1/8,r.1%8,r.2.1,0)
def tg (l:List UInt8):Int×Int×Int×Int:=tgR (rd l)
def tW (n w:Int):Nat:=(8*n+w).toNat
theorem zrf {n w:Int}:zhs n w=true↔1≤n∧n≤536870911∧(w=0∨w=1∨w=2∨w=5):=by simp [zhs]
theorem zAo (n w:Int):zfv n w=some (zhs n w):=by
 unfold zfv zhs
 simp [Bool.decide_and,Bool.decide_or,Bool.beq_eq_decide_eq]
theorem zhV (l:List UInt8):0≤(rd l).1∧(rd l).1<18446744073709551616∧0≤(rd l).2.1∧(rd l).2.1≤10∧(rd l).2.1≤l.length∧((rd l).2.2=0∨(rd l).2.2=3∨(rd l).2.2=4)∧((rd l).2.2=0→1≤(rd l).2.1):=by
 rcases zlM l with h| ⟨h,_⟩| ⟨x,c,y,e,_,_,hl,hv,h⟩
 ·rw [h];simp
 ·rw [h];simp
 ·have:l.length=x.length+1+y.length:=by rw [e];simp;omega
  rw [h]
  refine ⟨?_,?_,?_,?_,?_,.inl rfl,fun _=>?_⟩<;>simp only<;>omega
theorem zCT (x:List UInt8) (c:UInt8) (y:List UInt8) (hx:∀z∈x,128≤z.toNat) (hc:c.toNat<128) (hl:x.length≤9) (hv:hor (x++[c])<18446744073709551616):
  rd (x++c::y)=(((hor (x++[c]):Nat):Int),((x.length+1:Nat):Int),0):=by
 have key:∀(x:List UInt8) (z:List UInt8) (i acc:Nat),(∀z∈x,128≤z.toNat)→i+x.length≤9→acc+hor (x++[c])*128^i<18446744073709551616→scan i acc (x++c::z)= .inr (((acc+hor (x++[c])*128^i:Nat):Int),((i+x.length+1:Nat):Int),0):=by
  intro x
  induction x with
  | nil=>
   intro z i acc _ hi hv
   have e1:hor ([]++[c])=c.toNat:=by simp [hor];omega
   rw [e1] at hv⊢
   rw [List.nil_append,scan,if_neg,if_pos hc,Nat.mod_eq_of_lt hc]
   ·rfl
   ·rintro ⟨rfl,h2⟩
    have:=Nat.mul_le_mul_right (128^9) (show 2≤c.toNat by omega)
    omega
  | cons d x ih=>
   intro z i acc hx hi hv
   simp only [List.length_cons] at hi
   have hd:=hx d List.mem_cons_self
   have e5:acc+hor ((d::x)++[c])*128^i=acc+d.toNat%128*128^i+hor (x++[c])*128^(i+1):=by
    rw [List.cons_append,hor,Nat.pow_succ,Nat.add_mul,Nat.mul_comm (128^i) 128,←Nat.mul_assoc,Nat.mul_comm (hor (x++[c])) 128];omega
   rw [e5] at hv⊢
   rw [List.cons_append,scan,if_neg (by omega),if_neg (by omega),ih z (i+1) _ (fun z hz=>hx z (List.mem_cons_of_mem _ hz)) (by omega) hv,List.length_cons]
   congr 3
   omega
 unfold rd
 have e2:(x++c::y).take 10=x++c::y.take (9 - x.length):=by
  rw [List.take_append,List.take_of_length_le (by omega),show 10 - x.length=(9 - x.length)+1 by omega,List.take_succ_cons]
 rw [e2,key x _ 0 0 hx (by omega) (by simpa using hv)]
 simp [rdR]
theorem zsX (l m:List UInt8) (h:(rd l).2.2=0):rd (l++m)=rd l:=by
 rcases zlM l with h'| ⟨h',_⟩| ⟨x,c,y,e,hx,hc,hl,hv,h'⟩
 ·rw [h'] at h;cases h
 ·rw [h'] at h;cases h
 ·rw [h',e,List.append_assoc,List.cons_append,zCT x c _ hx hc hl hv]
theorem zxB (l m:List UInt8) (h:(rd l).2.2=0):tg (l++m)=tg l:=by unfold tg;rw [zsX l m h]
theorem zyV {r:Int×Int×Int} (h:r.2.2≠0):tgR r=(0,0,0,r.2.2):=if_pos h
theorem zpI {r:Int×Int×Int} (h:r.2.2=0) (h2:4294967295<r.1∨zhs (r.1/8) (r.1%8)=false):tgR r=(0,0,0,5):=by unfold tgR;rw [if_neg (by simp [h]),if_pos h2]
theorem zBW {r:Int×Int×Int} (h:r.2.2=0) (h2:¬(4294967295<r.1∨zhs (r.1/8) (r.1%8)=false)):tgR r=(r.1/8,r.1%8,r.2.1,0):=by unfold tgR;rw [if_neg (by simp [h]),if_neg h2]
theorem zvQ (l:List UInt8):(∃c,tg l=(0,0,0,c)∧(c=3∨c=4∨c=5))∨∃n w k,tg l=(n,w,k,0)∧zhs n w=true∧1≤k∧k≤10∧k≤l.length∧rd l=(8*n+w,k,0):=by
 obtain ⟨h1,h2,h3,h4,h5,h6,h7⟩:=zhV l
 unfold tg
 by_cases h:(rd l).2.2=0
 ·by_cases hg:4294967295<(rd l).1∨zhs ((rd l).1/8) ((rd l).1%8)=false
  ·exact .inl ⟨5,zpI h hg,by omega⟩
  ·refine .inr ⟨_,_,_,zBW h hg,?_,h7 h,h4,h5,?_⟩
   ·cases ht:zhs ((rd l).1/8) ((rd l).1%8)
    ·exact absurd (.inr ht) hg
    ·rfl
   ·refine Prod.ext ?_ (Prod.ext rfl h)
    simp only;omega
 ·exact .inl ⟨_,zyV h,by omega⟩
theorem zyF (b:List UInt8) (a:Nat) (hb:b.length≤1152921504606846976) (ha:a≤b.length):zfW b a=some (tg (b.drop a)):=by
 unfold zfW tg
 obtain ⟨h1,h2,h3,h4,h5,h6,h7⟩:=zhV (b.drop a)
 rw [zBH b a hb ha,sb]
 by_cases h:(rd (b.drop a)).2.2=0
 ·rw [itF (by simpa using h)]
  have e1:IntKind.i64.wrap (IntKind.u64.wrap (Int.tdiv (rd (b.drop a)).1 8))=(rd (b.drop a)).1/8:=by
   rw [Int.tdiv_eq_ediv_of_nonneg h1,wrap_u64,Int.emod_eq_of_lt (by omega) (by omega),zD (by omega)]
  have e2:IntKind.i64.wrap (Int.tmod (rd (b.drop a)).1 8)=(rd (b.drop a)).1%8:=by
   rw [Int.tmod_eq_emod_of_nonneg h1,zD (by omega)]
  simp only [e1,e2,zAo,sb]
  by_cases hg:4294967295<(rd (b.drop a)).1
  ·rw [itT (by simpa using hg),sb,itT (by rfl),zpI h (.inl hg)]
  ·rw [itF (by simpa using hg),sb]
   cases ht:zhs ((rd (b.drop a)).1/8) ((rd (b.drop a)).1%8)
   ·rw [itT (by rfl),zpI h (.inr ht)]
   ·rw [itF (by rfl),zBW h (by simp [ht];omega)]
 ·rw [itT (by simpa using h),zyV h]
end Go.Proofs.YtcbkcblkecmjnaaGreat
namespace Go.Proofs.YtcbkcblkecmjnaaGreat
open Go
set_option linter.unusedVariables false
abbrev Rec:=zu
def zeY (w:Int) (k:Nat) (m:List UInt8):Int⊕(Nat×Nat):=
 if w=0 then (if (rd m).2.2≠0 then .inl (rd m).2.2 else .inr (k,k+(rd m).2.1.toNat))
 else if w=2 then (if (rd m).2.2≠0 then .inl (rd m).2.2 else if (m.length:Int) - (rd m).2.1<(rd m).1 then .inl 3 else .inr (k+(rd m).2.1.toNat,k+(rd m).2.1.toNat+(rd m).1.toNat))
 else if m.length<(if w=5 then 4 else 8) then .inl 3 else .inr (k,k+(if w=5 then 4 else 8))
def rec5 (l:List UInt8):Int⊕(Int×Int×Nat×Nat):=
 if (tg l).2.2.2≠0 then .inl (tg l).2.2.2 else match zeY (tg l).2.1 (tg l).2.2.1.toNat (l.drop (tg l).2.2.1.toNat) with
  | .inl c=> .inl c
  | .inr p=> .inr ((tg l).1,(tg l).2.1,p.1,p.2)
theorem zko (w:Int) (k:Nat) (m:List UInt8):(∃c,zeY w k m= .inl c∧(c=3∨c=4))∨
  ∃a t,zeY w k m= .inr (a,t)∧k≤a∧a≤t∧t≤k+m.length∧
   (w=0∧a=k∧(rd m).2.2=0∧((t - k:Nat):Int)=(rd m).2.1∧k<t∨w=2∧(rd m).2.2=0∧((a - k:Nat):Int)=(rd m).2.1∧((t - a:Nat):Int)=(rd m).1∨w≠0∧w≠2∧a=k∧t=k+(if w=5 then 4 else 8)):=by
 obtain ⟨h1,h2,h3,h4,h5,h6,h7⟩:=zhV m
 unfold zeY
 by_cases w0:w=0
 ·rw [if_pos w0]
  by_cases h:(rd m).2.2=0
  ·have:=h7 h
   rw [if_neg (by simpa using h)]
   exact .inr ⟨_,_,rfl,Nat.le_refl _,by omega,by omega,.inl ⟨w0,rfl,h,by omega,by omega⟩⟩
  ·rw [if_pos h];exact .inl ⟨_,rfl,by omega⟩
 ·rw [if_neg w0]
  by_cases w2:w=2
  ·rw [if_pos w2]
   by_cases h:(rd m).2.2=0
   ·rw [if_neg (by simpa using h)]
    by_cases h8:(m.length:Int) - (rd m).2.1<(rd m).1
    ·rw [if_pos h8];exact .inl ⟨_,rfl,by omega⟩
    ·rw [if_neg h8]
     exact .inr ⟨_,_,rfl,by omega,by omega,by omega,.inr (.inl ⟨w2,h,by omega,by omega⟩)⟩
   ·rw [if_pos h];exact .inl ⟨_,rfl,by omega⟩
  ·rw [if_neg w2]
   by_cases h8:m.length<(if w=5 then 4 else 8)
   ·rw [if_pos h8];exact .inl ⟨_,rfl,by omega⟩
   ·rw [if_neg h8]
    exact .inr ⟨_,_,rfl,Nat.le_refl _,by omega,by omega,.inr (.inr ⟨w0,w2,rfl,rfl⟩)⟩
theorem zxR (w:Int) (k:Nat) (m z:List UInt8) {p:Nat×Nat} (h:zeY w k m= .inr p):zeY w k (m++z)= .inr p:=by
 unfold zeY at h⊢
 by_cases w0:w=0
 ·rw [if_pos w0] at h⊢
  by_cases h0:(rd m).2.2=0
  ·rw [zsX m z h0];exact h
  ·rw [if_pos h0] at h;cases h
 ·rw [if_neg w0] at h⊢
  by_cases w2:w=2
  ·rw [if_pos w2] at h⊢
   by_cases h0:(rd m).2.2=0
   ·rw [zsX m z h0]
    rw [if_neg (by simpa using h0)] at h⊢
    by_cases h8:(m.length:Int) - (rd m).2.1<(rd m).1
    ·rw [if_pos h8] at h;cases h
    ·rw [if_neg h8] at h
     rw [if_neg (by simp only [List.length_append];omega)];exact h
   ·rw [if_pos h0] at h;cases h
  ·rw [if_neg w2] at h⊢
   by_cases h8:m.length<(if w=5 then 4 else 8)
   ·rw [if_pos h8] at h;cases h
   ·rw [if_neg h8] at h
    rw [if_neg (by simp only [List.length_append];omega)];exact h
theorem zlN (l:List UInt8):(∃c,rec5 l= .inl c∧(c=3∨c=4∨c=5))∨
  ∃(n w:Int) (k a t:Nat),rec5 l= .inr (n,w,a,t)∧tg l=(n,w,(k:Int),0)∧zhs n w=true∧zeY w k (l.drop k)= .inr (a,t)∧1≤k∧k≤l.length∧k≤a∧a≤t∧t≤l.length∧rd l=(8*n+w,(k:Int),0):=by
 rcases zvQ l with ⟨c,h,hc⟩| ⟨n,w,k,h,hr,k1,k2,k3,hrd⟩
 ·refine .inl ⟨c,?_,hc⟩
  unfold rec5;rw [h,if_pos (by simp only;omega)]
 ·obtain ⟨k,rfl⟩:∃j:Nat,k=j:=⟨k.toNat,by omega⟩
  have e:rec5 l=match zeY w k (l.drop k) with
   | .inl c=> .inl c
   | .inr p=> .inr (n,w,p.1,p.2):=by unfold rec5;rw [h];simp
  rcases zko w k (l.drop k) with ⟨c,h2,hc⟩| ⟨a,t,h2,g1,g2,g3,_⟩
  ·exact .inl ⟨c,by rw [e,h2],by omega⟩
  ·simp only [List.length_drop] at g3
   exact .inr ⟨n,w,k,a,t,by rw [e,h2],h,hr,h2,by omega,by omega,g1,g2,by omega,hrd⟩
theorem zAk (l z:List UInt8) {r:Int×Int×Nat×Nat} (h:rec5 l= .inr r):rec5 (l++z)= .inr r:=by
 rcases zlN l with ⟨c,h',_⟩| ⟨n,w,k,a,t,h',htg,_,hb,_,hk,_,_,_,hrd⟩
 ·rw [h'] at h;cases h
 ·rw [h'] at h
  have e:tg (l++z)=(n,w,(k:Int),0):=by rw [zxB l z (by rw [hrd]),htg]
  unfold rec5
  rw [e]
  simp only [ne_eq,not_true_eq_false,if_false,Int.toNat_natCast]
  rw [List.drop_append_of_le_length hk,zxR _ _ _ _ hb]
  exact h
def zrec:Rec:=⟨0,0,0,0,0⟩
def zfC (b:List UInt8) (at5:Int):Rec×Int:=if at5<0∨at5≥b.length then (zrec,2) else match rec5 (b.drop at5.toNat) with
 | .inl c=>(zrec,c)
 | .inr (n,w,a,t)=>(⟨n,w,at5,at5+a,at5+t⟩,0)
theorem zAn {b:List UInt8} (hb:b.length≤140737488355328) (at5:Int):zfY b at5=some (zfC b at5):=by
 unfold zfY zfC
 by_cases h:at5<0∨at5≥b.length
 ·rw [itT (by simpa using h),if_pos h];rfl
 ·rw [itF (by simpa using h),if_neg h]
  obtain ⟨p,rfl⟩:∃p:Nat,at5=p:=⟨at5.toNat,by omega⟩
  rw [zyF b p (by omega) (by omega),sb,Int.toNat_natCast]
  have hdl:(b.drop p).length=b.length - p:=by simp
  rcases zvQ (b.drop p) with ⟨c,ht,hc⟩| ⟨n,w,k,ht,hr,k1,k2,k3,hrd⟩
  ·have e:rec5 (b.drop p)= .inl c:=by unfold rec5;rw [ht,if_pos (by simp only;omega)]
   rw [e,ht,itT (by simp;omega)];rfl
  ·obtain ⟨k,rfl⟩:∃j:Nat,k=j:=⟨k.toNat,by omega⟩
   have e:rec5 (b.drop p)=match zeY w k ((b.drop p).drop k) with
    | .inl c=> .inl c
    | .inr p=> .inr (n,w,p.1,p.2):=by unfold rec5;rw [ht];simp
   have hdd:(b.drop p).drop k=b.drop (p+k):=by rw [List.drop_drop]
   have hml:(b.drop (p+k)).length=b.length - (p+k):=by simp
   obtain ⟨h1,h2,h3,h4,h5,h6,h7⟩:=zhV (b.drop (p+k))
   rw [e,ht,itF (by simp),hdd]
   have ew:IntKind.i64.wrap ((p:Int)+k)=((p+k:Nat):Int):=by rw [zD (by omega)];push_cast;rfl
   have er:IntKind.i64.wrap ((b.length:Int) - ((p+k:Nat):Int))=((b.length - (p+k):Nat):Int):=by rw [zD (by omega)];omega
   simp only [ew,er]
   have hw:=(zrf.1 hr).2.2
   rcases hw with rfl| rfl| rfl| rfl
   ·-- a varint
    rw [itF (by rfl),sb,itT (by rfl),zBH b (p+k) (by omega) (by omega),sb]
    by_cases g:(rd (b.drop (p+k))).2.2=0
    ·have:=h7 g
     have hb5:zeY 0 k (b.drop (p+k))= .inr (k,k+(rd (b.drop (p+k))).2.1.toNat):=by unfold zeY;rw [if_pos rfl,if_neg (by simpa using g)]
     rw [itF (by simpa using g),sb,hb5]
     simp only
     rw [itF (by rfl),sb]
     simp only
     rw [itF (by simp;omega),zD (by omega)]
     simp;omega
    ·have hb5:zeY 0 k (b.drop (p+k))= .inl (rd (b.drop (p+k))).2.2:=by unfold zeY;rw [if_pos rfl,if_pos g]
     rw [itT (by simpa using g),sb,hb5];rfl
   ·rw [itF (by rfl),sb,itF (by rfl),sb]
    simp only
    rw [itF (by rfl),sb]
    unfold zeY
    rw [if_neg (by omega),if_neg (by omega)]
    simp only
    by_cases g:b.length - (p+k)<8
    ·rw [itT (by simp;omega),if_pos (by simpa [hml] using g)];rfl
    ·rw [itF (by simp;omega),if_neg (by simpa [hml] using g),zD (by omega)]
     simp;omega
   ·rw [itF (by rfl),sb,itF (by rfl),sb]
    simp only
    rw [itT (by rfl),zBH b (p+k) (by omega) (by omega),sb]
    by_cases g:(rd (b.drop (p+k))).2.2=0
    ·have:=h7 g
     have e1:IntKind.i64.wrap (((b.length - (p+k):Nat):Int) - (rd (b.drop (p+k))).2.1)=((b.drop (p+k)).length:Int) - (rd (b.drop (p+k))).2.1:=by rw [zD (by omega),hml]
     have e2:IntKind.u64.wrap (((b.drop (p+k)).length:Int) - (rd (b.drop (p+k))).2.1)=((b.drop (p+k)).length:Int) - (rd (b.drop (p+k))).2.1:=by rw [wrap_u64,Int.emod_eq_of_lt (by omega) (by omega)]
     rw [itF (by simpa using g)]
     simp only [e1,e2]
     by_cases g2:((b.drop (p+k)).length:Int) - (rd (b.drop (p+k))).2.1<(rd (b.drop (p+k))).1
     ·have hb5:zeY 2 k (b.drop (p+k))= .inl 3:=by unfold zeY;rw [if_neg (by omega),if_pos rfl,if_neg (by simpa using g),if_pos g2]
      rw [itT (by simpa using g2),sb,hb5];rfl
     ·have hb5:zeY 2 k (b.drop (p+k))= .inr (k+(rd (b.drop (p+k))).2.1.toNat,k+(rd (b.drop (p+k))).2.1.toNat+(rd (b.drop (p+k))).1.toNat):=by
       unfold zeY;rw [if_neg (by omega),if_pos rfl,if_neg (by simpa using g),if_neg g2]
      rw [itF (by simpa using g2),sb,hb5]
      simp only
      rw [zD (x:=(rd (b.drop (p+k))).1) (by omega),itF (by simpa using g2),zD (x:=((p+k:Nat):Int)+(rd (b.drop (p+k))).2.1) (by omega),zD (by omega)]
      simp;omega
    ·have hb5:zeY 2 k (b.drop (p+k))= .inl (rd (b.drop (p+k))).2.2:=by unfold zeY;rw [if_neg (by omega),if_pos rfl,if_pos g]
     rw [itT (by simpa using g),sb,hb5];rfl
   ·rw [itT (by rfl),sb,itF (by rfl),sb]
    simp only
    rw [itF (by rfl),sb]
    unfold zeY
    rw [if_neg (by omega),if_neg (by omega)]
    simp only
    by_cases g:b.length - (p+k)<4
    ·rw [itT (by simp;omega),if_pos (by simpa [hml] using g)];rfl
    ·rw [itF (by simp;omega),if_neg (by simpa [hml] using g),zD (by omega)]
     simp;omega
def spl (base:Nat) (l:List UInt8):List Rec×Option (Nat×Int):=
 if hl:l=[] then ([],none) else match h:rec5 l with
  | .inl c=>([],some (base,c))
  | .inr (n,w,a,t)=>(⟨n,w,base,(base+a:Nat),(base+t:Nat)⟩::(spl (base+t) (l.drop t)).1,(spl (base+t) (l.drop t)).2)
termination_by l.length
decreasing_by
 all_goals
  rcases zlN l with ⟨c',h',_⟩| ⟨n',w',k',a',t',h',_,_,_,g1,g2,g3,g4,g5,_⟩
  ·rw [h'] at h;cases h
  ·rw [h'] at h;cases h;simp only [List.length_drop];omega
theorem zhX (base:Nat):spl base []=([],none):=by rw [spl,dif_pos rfl]
theorem ziH {base:Nat} {l:List UInt8} {c:Int} (hl:l≠[]) (h:rec5 l= .inl c):spl base l=([],some (base,c)):=by
 rw [spl,dif_neg hl]
 split
 ·rename_i c' h';rw [h] at h';cases h';rfl
 ·rename_i h';rw [h] at h';cases h'
theorem zgg {base:Nat} {l:List UInt8} {n w:Int} {a t:Nat} (hl:l≠[]) (h:rec5 l= .inr (n,w,a,t)):
  spl base l=(⟨n,w,base,(base+a:Nat),(base+t:Nat)⟩::(spl (base+t) (l.drop t)).1,(spl (base+t) (l.drop t)).2):=by
 rw [spl,dif_neg hl]
 split
 ·rename_i c' h';rw [h] at h';cases h'
 ·rename_i n' w' a' t' h';rw [h] at h';cases h';rfl
theorem zjv (P:Nat→List UInt8→Prop) (h0:∀base,P base []) (he:∀base l c,l≠[]→rec5 l= .inl c→(c=3∨c=4∨c=5)→P base l)
  (hc:∀base l (n w:Int) (a t:Nat),l≠[]→rec5 l= .inr (n,w,a,t)→zhs n w=true→1≤a→a≤t→t≤l.length→P (base+t) (l.drop t)→P base l) (base:Nat) (l:List UInt8):P base l:=by
 generalize hn:l.length=m
 induction m using Nat.strongRecOn generalizing base l with
 | _ m ih=>
  by_cases hl:l=[]
  ·subst hl;exact h0 base
  ·rcases zlN l with ⟨c,h,hc'⟩| ⟨n,w,k,a,t,h,_,hr,_,g1,g2,g3,g4,g5,_⟩
   ·exact he base l c hl h hc'
   ·exact hc base l n w a t hl h hr (by omega) g4 g5 (ih _ (by simp only [List.length_drop];omega) _ _ rfl)
theorem zHi (base:Nat) (l:List UInt8):(spl base l).1.length≤l.length:=by
 refine zjv (fun base l=>(spl base l).1.length≤l.length) ?_ ?_ ?_ base l
 ·intro base;rw [zhX];simp
 ·intro base l c hl h _;rw [ziH hl h];simp
 ·intro base l n w a t hl h _ g1 g2 g3 ih
  rw [zgg hl h]
  simp only [List.length_cons,List.length_drop] at ih⊢
  omega
theorem zFR (base:Nat) (l:List UInt8):∀p c,(spl base l).2=some (p,c)→(c=3∨c=4∨c=5)∧base≤p∧p<base+l.length:=by
 refine zjv (fun base l=>∀p c,(spl base l).2=some (p,c)→(c=3∨c=4∨c=5)∧base≤p∧p<base+l.length) ?_ ?_ ?_ base l
 ·intro base p c h;rw [zhX] at h;cases h
 ·intro base l c' hl h hc p c h2
  rw [ziH hl h] at h2
  cases h2
  have:0<l.length:=List.length_pos_iff.2 hl
  exact ⟨hc,by omega,by omega⟩
 ·intro base l n w a t hl h _ g1 g2 g3 ih p c h2
  rw [zgg hl h] at h2
  have:=ih p c h2
  simp only [List.length_drop] at this
  omega
def zpE (d:Nat) (r:Rec):Rec:=⟨r.Number,r.Wire,r.From+d,r.At+d,r.To+d⟩
theorem zEc (d:Nat) (base:Nat) (l:List UInt8):spl (base+d) l=((spl base l).1.map (zpE d),(spl base l).2.map fun p=>(p.1+d,p.2)):=by
 refine zjv (fun base l=>spl (base+d) l=((spl base l).1.map (zpE d),(spl base l).2.map fun p=>(p.1+d,p.2))) ?_ ?_ ?_ base l
 ·intro base;rw [zhX,zhX];rfl
 ·intro base l c hl h _;rw [ziH hl h,ziH hl h];rfl
 ·intro base l n w a t hl h _ g1 g2 g3 ih
  rw [zgg hl h,zgg hl h,show base+d+t=base+t+d by omega,ih]
  simp only [List.map_cons,zpE,Prod.mk.injEq,List.cons.injEq,zu.mk.injEq,true_and,and_true]
  push_cast
  omega
theorem zBS (m:List UInt8) (base:Nat) (l:List UInt8):(spl base l).2=none→spl base (l++m)=((spl base l).1++(spl (base+l.length) m).1,(spl (base+l.length) m).2):=by
 refine zjv (fun base l=>(spl base l).2=none→spl base (l++m)=((spl base l).1++(spl (base+l.length) m).1,(spl (base+l.length) m).2)) ?_ ?_ ?_ base l
 ·intro base _;rw [zhX];simp
 ·intro base l c hl h _ h2;rw [ziH hl h] at h2;cases h2
 ·intro base l n w a t hl h _ g1 g2 g3 ih h2
  rw [zgg hl h] at h2⊢
  rw [zgg (by simp [hl]) (zAk l m h),List.drop_append_of_le_length g3,ih h2]
  simp only [List.length_drop,List.cons_append,show base+t+(l.length - t)=base+l.length by omega]
def zie (w:Int) (v:List UInt8):Bool:=
 if w=0 then decide ((rd v).2.2=0∧(rd v).2.1=v.length) else decide (w=2∨w=1∧v.length=8∨w=5∧v.length=4)
def put5 (n w:Int) (v:List UInt8):List UInt8:=enc (tW n w)++(if w=2 then enc v.length else [])++v
theorem zFH (n w:Int) (v:List UInt8):(put5 n w v).length=(enc (tW n w)).length+(if w=2 then (enc v.length).length else 0)+v.length:=by
 unfold put5
 split
 ·simp;omega
 ·simp
theorem zCp {l:List UInt8} {k:Nat} (h:rd l=((rd l).1,(k:Int),0)):(enc (rd l).1.toNat).length≤k:=by
 rcases zlM l with h'| ⟨h',_⟩| ⟨x,c,y,e,hx,hc,hl,hv,h'⟩
 ·rw [h'] at h;cases h
 ·rw [h'] at h;cases h
 ·rw [h'] at h⊢
  have hk:(x.length:Int)+1=k:=by have:=congrArg (fun p=>p.2.1) h;simpa using this
  simp only [Int.toNat_natCast]
  have h1:=zBl (x++[c])
  rw [zyd]
  have key:∀(j v:Nat),v<128^(j+1)→lenN v≤j+1:=by
   intro j
   induction j with
   | zero=>intro v hv;rw [zqc (by omega)];omega
   | succ j ih=>
    intro v hv
    by_cases h2:v<128
    ·rw [zqc h2];omega
    ·rw [zrJ h2]
     have:=ih (v/128) (by rw [Nat.pow_succ] at hv;exact Nat.div_lt_of_lt_mul (by omega))
     omega
  have:=key x.length (hor (x++[c])) (by simpa using h1)
  omega
theorem zBF {l:List UInt8} {n w:Int} {a t:Nat} (h:rec5 l= .inr (n,w,a,t)):
  zie w ((l.drop a).take (t - a))=true∧((l.drop a).take (t - a)).length=t - a∧(put5 n w ((l.drop a).take (t - a))).length≤t:=by
 rcases zlN l with ⟨c,h',_⟩| ⟨n',w',k,a',t',h',_,hr,hb,g1,g2,g3,g4,g5,hrd⟩
 ·rw [h'] at h;cases h
 ·rw [h'] at h;cases h
  have hlen:((l.drop a).take (t - a)).length=t - a:=by simp;omega
  have hm:=zCp (l:=l) (k:=k) (by rw [hrd])
  have e1:(rd l).1.toNat=tW n w:=by rw [hrd];rfl
  rw [e1] at hm
  refine ⟨?_,hlen,?_⟩
  ·rcases zko w k (l.drop k) with ⟨c,hc,_⟩| ⟨a2,t2,h2,k1,k2,k3,hcase⟩
   ·rw [hc] at hb;cases hb
   ·rw [h2] at hb;cases hb
    unfold zie
    rcases hcase with ⟨rfl,rfl,f1,f2,f3⟩| ⟨rfl,f1,f2,f3⟩| ⟨w0,w2,rfl,f1⟩
    ·rw [if_pos rfl]
     -- what is read is the value alone
     have hv:rd ((l.drop a).take (t - a))=rd (l.drop a):=by
      rcases zlM (l.drop a) with h6| ⟨h6,_⟩| ⟨x,c,y,e,hx,hc,hl,hv,h6⟩
      ·rw [h6] at f1;cases f1
      ·rw [h6] at f1;cases f1
      ·rw [h6] at f2
       have e7:t - a=(x++[c]).length:=by simp at f2⊢;omega
       have e8:(l.drop a).take (t - a)=x++c::[]:=by rw [e7,e,List.append_cons x c y,List.take_left]
       rw [e8,zCT x c [] hx hc hl hv,h6]
     rw [hv]
     exact decide_eq_true ⟨f1,by rw [←f2,hlen]⟩
    ·rw [if_neg (by omega)];exact decide_eq_true (.inl rfl)
    ·have hw:=(zrf.1 hr).2.2
     rw [if_neg w0]
     rw [hlen,f1]
     refine decide_eq_true ?_
     rcases hw with rfl| rfl| rfl| rfl
     ·exact absurd rfl w0
     ·right;left;simp
     ·exact absurd rfl w2
     ·right;right;simp
  ·rw [zFH,hlen]
   rcases zko w k (l.drop k) with ⟨c,hc,_⟩| ⟨a2,t2,h2,k1,k2,k3,hcase⟩
   ·rw [hc] at hb;cases hb
   ·rw [h2] at hb;cases hb
    by_cases hw2:w=2
    ·rw [if_pos hw2]
     rcases hcase with ⟨rfl,_⟩| ⟨_,f1,f2,f3⟩| ⟨_,w2,_⟩
     ·omega
     ·have hm2:=zCp (l:=l.drop k) (k:=a - k) (by rw [f2];exact Prod.ext rfl (Prod.ext rfl f1))
      have e3:(rd (l.drop k)).1.toNat=t - a:=by omega
      rw [e3] at hm2
      omega
     ·exact absurd hw2 w2
    ·rw [if_neg hw2];omega
theorem zyE (l:List UInt8) {j:Nat} (h:(rd l).2.2=0) (hj:(rd l).2.1≤j):rd (l.take j)=rd l:=by
 rcases zlM l with h6| ⟨h6,_⟩| ⟨x,c,y,e,hx,hc,hl,hv,h6⟩
 ·rw [h6] at h;cases h
 ·rw [h6] at h;cases h
 ·rw [h6] at hj
  have hj':(x++[c]).length≤j:=by simp at hj⊢;omega
  have:l.take j=x++c::y.take (j - (x++[c]).length):=by
   rw [e,List.append_cons x c y,List.take_append,List.take_of_length_le hj',←List.append_cons]
  rw [this,zCT x c _ hx hc hl hv,h6]
theorem zAY {w:Int} {k:Nat} {m:List UInt8} {a t:Nat} (h:zeY w k m= .inr (a,t)):zeY w k (m.take (t - k))= .inr (a,t):=by
 rcases zko w k m with ⟨c,hc,_⟩| ⟨a2,t2,h2,k1,k2,k3,hcase⟩
 ·rw [hc] at h;cases h
 ·rw [h2] at h
  cases h
  have hl:(m.take (t - k)).length=t - k:=by simp;omega
  rcases hcase with ⟨rfl,rfl,f1,f2,f3⟩| ⟨rfl,f1,f2,f3⟩| ⟨w0,w2,rfl,f1⟩
  ·have hr:=zyE m (j:=t - a) f1 (by omega)
   unfold zeY at h2⊢
   rw [if_pos rfl] at h2⊢
   rw [hr];exact h2
  ·have hr:=zyE m (j:=t - k) f1 (by omega)
   unfold zeY at h2⊢
   rw [if_neg (by omega),if_pos rfl] at h2⊢
   rw [hr]
   rw [if_neg (by simpa using f1)] at h2⊢
   split at h2
   ·cases h2
   ·rw [if_neg (by rw [hl];omega)];exact h2
  ·unfold zeY
   rw [if_neg w0,if_neg w2,if_neg (by rw [hl];omega),←f1]
theorem zDQ {l:List UInt8} {n w:Int} {a t:Nat} (h:rec5 l= .inr (n,w,a,t)):rec5 (l.take t)= .inr (n,w,a,t):=by
 rcases zlN l with ⟨c,h',_⟩| ⟨n',w',k,a',t',h',htg,hr,hb,g1,g2,g3,g4,g5,hrd⟩
 ·rw [h'] at h;cases h
 ·rw [h'] at h
  cases h
  have hr1:=zyE l (j:=t) (by rw [hrd]) (by rw [hrd];simp only;omega)
  have e:tg (l.take t)=(n,w,(k:Int),0):=by
   have:=zxB (l.take t) (l.drop t) (by rw [hr1,hrd])
   rw [List.take_append_drop,htg] at this
   exact this.symm
  unfold rec5
  rw [e]
  simp only [ne_eq,not_true_eq_false,if_false,Int.toNat_natCast]
  rw [List.drop_take,zAY hb]
theorem zHj (b:List UInt8) (base:Nat) (l:List UInt8):l=b.drop base→base≤b.length→∀r∈(spl base l).1,∃(n w:Int) (f a t:Nat),r=⟨n,w,(f:Int),((f+a:Nat):Int),((f+t:Nat):Int)⟩∧rec5 (b.drop f)= .inr (n,w,a,t)∧1≤a∧a≤t∧f+t≤b.length:=by
 refine zjv (fun base l=>l=b.drop base→base≤b.length→∀r∈(spl base l).1,∃(n w:Int) (f a t:Nat),r=⟨n,w,(f:Int),((f+a:Nat):Int),((f+t:Nat):Int)⟩∧rec5 (b.drop f)= .inr (n,w,a,t)∧1≤a∧a≤t∧f+t≤b.length) ?_ ?_ ?_ base l
 ·intro base _ _ r hr;rw [zhX] at hr;cases hr
 ·intro base l c hl h _ _ _ r hr;rw [ziH hl h] at hr;cases hr
 ·intro base l n w a t hl h _ g1 g2 g3 ih hld hbase r hr
  have hlen:l.length=b.length - base:=by rw [hld];simp
  rw [zgg hl h] at hr
  rcases List.mem_cons.1 hr with rfl| hr
  ·exact ⟨n,w,base,a,t,rfl,by rw [←hld];exact h,g1,g2,by omega⟩
  ·exact ih (by rw [hld,List.drop_drop]) (by omega) r hr
end Go.Proofs.YtcbkcblkecmjnaaGreat
namespace Go.Proofs.YtcbkcblkecmjnaaGreat
open Go
set_option linter.unusedVariables false
theorem zFB (k:IntKind) (a b:Int):orI k a b=bits .or k a b:=rfl
theorem zAe (w:Int):zjM w=some (w%4294967296):=by unfold zjM;rw [zAQ]
theorem zEa (w:Int):zkm w=some (sgnS w):=by
 unfold zkm
 rw [zAe,sb,zEu]
 unfold sgnS
 congr 1
 split<;>split<;>omega
theorem zEr {n:Int} (h: -2147483648≤n∧n≤2147483647):zkn n=some (ztJ n):=by
 unfold zkn
 rw [zD (by omega),wrap_u64]
 unfold ztJ
 congr 1
 split<;>omega
theorem zBL {w:Int} (h:0≤w∧w≤18446744073709551615):zfa w=some (sgnS w):=by
 unfold zfa
 rw [Int.tmod_eq_emod_of_nonneg h.1,zD (x:=w%4294967296) (by omega)]
 unfold sgnS
 by_cases h2:w%4294967296<2147483648
 ·rw [itF (by simp;omega),if_pos h2]
 ·rw [itT (by simp;omega),if_neg h2,zD (by omega)]
theorem zFO {n:Int} (h: -9223372036854775808≤n∧n≤9223372036854775807):zfV n=some (ztJ n):=by
 unfold zfV ztJ
 by_cases h0:0≤n
 ·rw [itT (by simp;omega),if_pos h0,wrap_u64,Int.emod_eq_of_lt (by omega) (by omega)]
 ·rw [itF (by simp;omega),if_neg h0]
  simp (disch:=omega) only [zD,wrap_u64]
  congr 1
  omega
theorem zEg {l:List UInt8} {j:Nat} (h:j<l.length):l.take (j+1)=l.take j++[l[j]]:=by rw [List.take_add_one,List.getElem?_eq_getElem h];rfl
theorem zEt {v:List UInt8} (hv:v.length≤8):∀(d j:Nat),j+d=v.length→zhU v ((word (v.take j):Nat):Int) (j:Int)=some ((word v:Nat):Int):=by
 intro d
 induction d with
 | zero=>
  intro j hj
  refine zsy ?_
  unfold zev
  rw [itF (by simp;omega),List.take_of_length_le (by omega)]
 | succ d ih=>
  intro j hj
  have hl:(v.take j).length=j:=by simp;omega
  have hw:=zza (v.take j)
  rw [hl] at hw
  refine (zsx (wv':=((word (v.take (j+1)):Nat):Int)) (v2':=((j+1:Nat):Int)) ?_).trans (ih (j+1) (by omega))
  unfold zev
  have hc:=(v[j]'(by omega)).toNat_lt
  have e1:IntKind.i64.wrap (8*(j:Int))=((8*j:Nat):Int):=by rw [zD (by omega)];push_cast;rfl
  have e2:shlI .u64 (IntKind.u64.wrap ((v[j]'(by omega)).toNat:Int)) ((8*j:Nat):Int)=IntKind.u64.wrap (((v[j]'(by omega)).toNat:Int)*2^(8*j)):=by
   unfold shlI
   rw [Int.toNat_natCast,Nat.min_eq_left (by simp [IntKind.bits];omega),wrap_u64 ((v[j]'(by omega)).toNat:Int),Int.emod_eq_of_lt (by omega) (by omega)]
  rw [itT (by simp;omega),zR rfl (show j<v.length by omega),sb,e1,zAw,sb,e2,zFB,zHx _ _ _ (by omega) (by omega) hw,zEg (show j<v.length by omega),zxD,hl,zD (by omega)]
  rfl
theorem zHw (b:List UInt8):znk b=some ((word (b.take 8):Nat):Int):=by
 unfold znk
 have e:(if (8:Int)<(b.length:Int) then (8:Int) else (b.length:Int))=((min 8 b.length:Nat):Int):=by split<;>omega
 have e2:b.take (min 8 b.length)=b.take 8:=by rw [List.take_eq_take_iff];omega
 rw [e,zuL rfl (by omega),sb,e2]
 have h:=zEt (v:=b.take 8) (by simp;omega) (b.take 8).length 0 (by omega)
 have h':zhU (b.take 8) 0 0=some ((word (b.take 8):Nat):Int):=h
 rw [h',sb]
end Go.Proofs.YtcbkcblkecmjnaaGreat
namespace Go.Proofs.YtcbkcblkecmjnaaGreat
open Go
set_option linter.unusedVariables false
def zcM (k:Int):Bool:=decide (1≤k∧k≤17)
def kNum (k:Int):Bool:=decide (1≤k∧k≤14)
def zfe (k:Int):Int:=if 15≤k then 2 else if 12≤k then 1 else if 9≤k then 5 else 0
def zfJ (k w:Int):Int:=
 if k=1∨k=8 then ztJ (sgnS w) else if k=3∨k=5∨k=9∨k=10∨k=11 then w%4294967296 else if k=7 then (if 0<w then 1 else 0) else w
theorem zrS (k:Int):zcC k=some (zcM k):=by unfold zcC zcM;simp [Bool.decide_and]
theorem zvv (k:Int):zcX k=some (kNum k):=by unfold zcX kNum;simp [Bool.decide_and]
theorem zAl (k:Int) {w:Int} (h:0≤w∧w≤18446744073709551615):zfy k w=some (zfJ k w):=by
 have hs:=zBO w
 unfold zfy zfJ
 by_cases h1:k=1∨k=8
 ·rw [if_pos h1]
  have e:(if (k==1)=true then some (k==1) else some (k==8))=some true:=by rcases h1 with rfl| rfl<;>rfl
  rw [e,sb,itT rfl,zBL h,sb,zFO (by omega),sb]
 ·rw [if_neg h1]
  have e:(if (k==1)=true then some (k==1) else some (k==8))=some false:=by rw [itF (by simp;omega)];simp;omega
  rw [e,sb,itF rfl]
  by_cases h2:k=3∨k=5∨k=9∨k=10∨k=11
  ·rw [if_pos h2]
   have e2:(if (k==3)=true then some (k==3) else if (k==5)=true then some (k==5) else if (k==9)=true then some (k==9) else if (k==10)=true then some (k==10) else some (k==11))=some true:=by
    rcases h2 with rfl| rfl| rfl| rfl| rfl<;>rfl
   rw [e2,sb,itT rfl,Int.tmod_eq_emod_of_nonneg h.1]
  ·rw [if_neg h2]
   have e2:(if (k==3)=true then some (k==3) else if (k==5)=true then some (k==5) else if (k==9)=true then some (k==9) else if (k==10)=true then some (k==10) else some (k==11))=some false:=by
    rw [itF (by simp;omega),itF (by simp;omega),itF (by simp;omega),itF (by simp;omega)];simp;omega
   rw [e2,sb,itF rfl]
   by_cases h7:k=7
   ·rw [itT (by simpa using h7),if_pos h7]
    by_cases h0:0<w
    ·rw [itT (by simpa using h0),if_pos h0]
    ·rw [itF (by simpa using h0),if_neg h0]
   ·rw [itF (by simpa using h7),if_neg h7]
theorem zzn (k:Int) {w:Int} (h:0≤w∧w≤18446744073709551615):0≤zfJ k w∧zfJ k w≤18446744073709551615:=by
 have hs:=zBO w
 unfold zfJ
 split
 ·exact zHu (by omega)
 ·split
  ·omega
  ·split
   ·split<;>omega
   ·exact h
end Go.Proofs.YtcbkcblkecmjnaaGreat
namespace Go.Proofs.YtcbkcblkecmjnaaGreat
open Go
set_option linter.unusedVariables false
def rawW (k:Int) (b:List UInt8):Int:=if zfe k=0 then (rd b).1 else (word (b.take 8):Nat)
def zxv (k:Int) (b:List UInt8):Int×Int:=if kNum k=false then (0,2) else if zie (zfe k) b=false then (0,12) else (zfJ k (rawW k b),0)
def zBM (k:Int) (c:Nat):List UInt8:=if 12≤k then zve 8 c else if 9≤k then zve 4 c else enc c
def sPut (k w:Int):List UInt8:=zBM k (zfJ k w).toNat
theorem zHb (k:Int) {b:List UInt8}:0≤rawW k b∧rawW k b≤18446744073709551615:=by
 unfold rawW
 split
 ·have:=zhV b;omega
 ·have h:=zza (b.take 8)
  have h2:(256:Nat)^(b.take 8).length≤256^8:=Nat.pow_le_pow_right (by omega) (by simp;omega)
  omega
theorem znt {k:Int}:kNum k=true↔1≤k∧k≤14:=by simp [kNum]
end Go.Proofs.YtcbkcblkecmjnaaGreat
namespace Go.Proofs.YtcbkcblkecmjnaaGreat
open Go
set_option linter.unusedVariables false
def znO (k:Int) (l:List UInt8):Int⊕Nat:=
 if k<9 then (if (rd l).2.2≠0 then .inl (rd l).2.2 else .inr (rd l).2.1.toNat) else if l.length<(if k<12 then 4 else 8) then .inl 3 else .inr (if k<12 then 4 else 8)
theorem zpO (k:Int) (l:List UInt8):(∃c,znO k l= .inl c∧(c=3∨c=4))∨∃n,znO k l= .inr n∧1≤n∧n≤l.length∧n≤10∧(k<9∧(rd l).2.2=0∧(rd l).2.1=(n:Int)∨¬k<9∧n=(if k<12 then 4 else 8)):=by
 obtain ⟨h1,h2,h3,h4,h5,h6,h7⟩:=zhV l
 unfold znO
 by_cases h:k<9
 ·rw [if_pos h]
  by_cases h0:(rd l).2.2=0
  ·have:=h7 h0
   rw [if_neg (by simpa using h0)]
   exact .inr ⟨_,rfl,by omega,by omega,by omega,.inl ⟨h,h0,by omega⟩⟩
  ·rw [if_pos h0];exact .inl ⟨_,rfl,by omega⟩
 ·rw [if_neg h]
  by_cases h8:l.length<(if k<12 then 4 else 8)
  ·rw [if_pos h8];exact .inl ⟨_,rfl,by omega⟩
  ·rw [if_neg h8]
   exact .inr ⟨_,rfl,by split<;>omega,by omega,by split<;>omega,.inr ⟨h,rfl⟩⟩
def pcs (k:Int) (l:List UInt8):List (List UInt8)×Int:=
 if hl:l=[] then ([],0) else match h:znO k l with
  | .inl c=>([],c)
  | .inr n=>(l.take n::(pcs k (l.drop n)).1,(pcs k (l.drop n)).2)
termination_by l.length
decreasing_by
 all_goals
  rcases zpO k l with ⟨c',h',_⟩| ⟨n',h',g1,g2,_⟩
  ·rw [h'] at h;cases h
  ·rw [h'] at h;cases h;simp only [List.length_drop];omega
theorem zrQ (k:Int):pcs k []=([],0):=by rw [pcs,dif_pos rfl]
theorem zuq {k:Int} {l:List UInt8} {c:Int} (hl:l≠[]) (h:znO k l= .inl c):pcs k l=([],c):=by
 rw [pcs,dif_neg hl]
 split
 ·rename_i c' h';rw [h] at h';cases h';rfl
 ·rename_i h';rw [h] at h';cases h'
theorem zpy {k:Int} {l:List UInt8} {n:Nat} (hl:l≠[]) (h:znO k l= .inr n):pcs k l=(l.take n::(pcs k (l.drop n)).1,(pcs k (l.drop n)).2):=by
 rw [pcs,dif_neg hl]
 split
 ·rename_i c' h';rw [h] at h';cases h'
 ·rename_i n' h';rw [h] at h';cases h';rfl
theorem zur (k:Int) (P:List UInt8→Prop) (h0:P []) (he:∀l c,l≠[]→znO k l= .inl c→(c=3∨c=4)→P l)
  (hc:∀l n,l≠[]→znO k l= .inr n→1≤n→n≤l.length→n≤10→P (l.drop n)→P l) (l:List UInt8):P l:=by
 generalize hn:l.length=m
 induction m using Nat.strongRecOn generalizing l with
 | _ m ih=>
  by_cases hl:l=[]
  ·subst hl;exact h0
  ·rcases zpO k l with ⟨c,h,hc'⟩| ⟨n,h,g1,g2,g3,_⟩
   ·exact he l c hl h hc'
   ·exact hc l n hl h g1 g2 g3 (ih _ (by simp only [List.length_drop];omega) _ rfl)
theorem zAj (k:Int) (l:List UInt8):(pcs k l).2=0∨(pcs k l).2=3∨(pcs k l).2=4:=by
 refine zur k (fun l=>(pcs k l).2=0∨(pcs k l).2=3∨(pcs k l).2=4) ?_ ?_ ?_ l
 ·rw [zrQ];exact .inl rfl
 ·intro l c hl h hc;rw [zuq hl h];exact .inr hc
 ·intro l n hl h _ _ _ ih;rw [zpy hl h];exact ih
theorem zCP (k:Int) (l:List UInt8):(pcs k l).1.length≤l.length:=by
 refine zur k (fun l=>(pcs k l).1.length≤l.length) ?_ ?_ ?_ l
 ·rw [zrQ];simp
 ·intro l c hl h _;rw [zuq hl h];simp
 ·intro l n hl h _ _ _ ih
  rw [zpy hl h]
  simp only [List.length_cons,List.length_drop] at ih⊢
  have:=List.length_pos_iff.2 hl
  omega
theorem zCd {k:Int} (hk:kNum k=true) {l:List UInt8} {n:Nat} (h:znO k l= .inr n):zie (zfe k) (l.take n)=true:=by
 have hk':=znt.1 hk
 rcases zpO k l with ⟨c,h',_⟩| ⟨n',h',g1,g2,g3,hcase⟩
 ·rw [h'] at h;cases h
 ·rw [h'] at h;cases h
  have hlen:(l.take n).length=n:=by simp;omega
  unfold zie
  rcases hcase with ⟨h9,f1,f2⟩| ⟨h9,f1⟩
  ·have e:zfe k=0:=by unfold zfe;rw [if_neg (by omega),if_neg (by omega),if_neg (by omega)]
   rw [if_pos e]
   rcases zlM l with h6| ⟨h6,_⟩| ⟨x,c,y,e,hx,hc,hl,hv,h6⟩
   ·rw [h6] at f1;cases f1
   ·rw [h6] at f1;cases f1
   ·rw [h6] at f2
    have e7:n=(x++[c]).length:=by simp at f2⊢;omega
    have e8:l.take n=x++c::[]:=by rw [e7,e,List.append_cons x c y,List.take_left]
    rw [e8,zCT x c [] hx hc hl hv]
    simp
  ·have h12:zfe k=1∧12≤k∨zfe k=5∧k<12:=by
    unfold zfe
    rw [if_neg (by omega)]
    by_cases hh:12≤k
    ·rw [if_pos hh];exact .inl ⟨rfl,hh⟩
    ·rw [if_neg hh,if_pos (by omega)];exact .inr ⟨rfl,by omega⟩
   rw [if_neg (by omega),hlen,f1]
   refine decide_eq_true ?_
   rcases h12 with ⟨e,hh⟩| ⟨e,hh⟩
   ·rw [e,if_neg (by omega)];right;left;exact ⟨rfl,rfl⟩
   ·rw [e,if_pos hh];right;right;exact ⟨rfl,rfl⟩
theorem zFE {k:Int} (hk:kNum k=true) (l:List UInt8):∀p∈(pcs k l).1,zie (zfe k) p=true∧1≤p.length∧p.length≤10:=by
 refine zur k (fun l=>∀p∈(pcs k l).1,zie (zfe k) p=true∧1≤p.length∧p.length≤10) ?_ ?_ ?_ l
 ·rw [zrQ];intro p hp;cases hp
 ·intro l c hl h _;rw [zuq hl h];intro p hp;cases hp
 ·intro l n hl h g1 g2 g3 ih
  rw [zpy hl h]
  intro p hp
  cases hp with
  | head=>exact ⟨zCd hk h,by simp;omega,by simp;omega⟩
  | tail _ hp=>exact ih p hp
def zoo (k:Int) (p:List UInt8):Int:=zfJ k (rawW k p)
theorem ztH {k:Int} (hk:kNum k=true) {p:List UInt8} (hf:zie (zfe k) p=true):zxv k p=(zoo k p,0):=by
 unfold zxv zoo
 rw [hk,if_neg (by simp),hf,if_neg (by simp)]
def ends (base:Nat):List (List UInt8)→List Int
 | []=>[]
 | p::ps=>((base+p.length:Nat):Int)::ends (base+p.length) ps
def zos (k:Int) (b:List UInt8):List Int×Int:=if kNum k=false then ([],2) else if (pcs k b).2=0 then (ends 0 (pcs k b).1,0) else ([],(pcs k b).2)
def zcF (k:Int) (b:List UInt8):List Int×Int:=if kNum k=false then ([],2) else if (pcs k b).2=0 then ((pcs k b).1.map (zoo k),0) else ([],(pcs k b).2)
end Go.Proofs.YtcbkcblkecmjnaaGreat
namespace Go.Proofs.YtcbkcblkecmjnaaGreat
open Go
set_option linter.unusedVariables false
abbrev Fld:=ze
abbrev Mes:=zh
def zjP {α:Type} (p:α→Bool) (l:List α):Int:=match l.findIdx? p with
 | some i=>(i:Int)
 | none=> -1
theorem zhE {α:Type} {p:α→Bool} {l:List α} (h:l.findIdx? p=none):zjP p l= -1:=by unfold zjP;rw [h]
theorem zhF {α:Type} {p:α→Bool} {l:List α} {i:Nat} (h:l.findIdx? p=some i):zjP p l=(i:Int):=by unfold zjP;rw [h]
theorem znr {α:Type} (p:α→Bool) (l:List α) (F:Int→Option (Unit⊕Int)) (h0:F (l.length:Int)=some (.inl ())) (hs:∀(i:Nat) (h:i<l.length),F (i:Int)=if p l[i] then some (.inr (i:Int)) else F ((i+1:Nat):Int)):
  ∀(d i:Nat),i+d=l.length→(∀j (h:j<l.length),j<i→p l[j]=false)→F (i:Int)=some (match l.findIdx? p with| some k=> .inr (k:Int)| none=> .inl ()):=by
 intro d
 induction d with
 | zero=>
  intro i hi hj
  have:i=l.length:=by omega
  subst this
  have hn:l.findIdx? p=none:=by
   rw [List.findIdx?_eq_none_iff]
   intro x hx
   obtain ⟨j,hj',rfl⟩:=List.getElem_of_mem hx
   exact hj j hj' hj'
  rw [h0,hn]
 | succ d ih=>
  intro i hi hj
  have hil:i<l.length:=by omega
  rw [hs i hil]
  by_cases hp:p l[i]=true
  ·have hf:l.findIdx? p=some i:=by
    rw [List.findIdx?_eq_some_iff_getElem]
    exact ⟨hil,hp,fun j hji=>by simpa using hj j (by omega) hji⟩
   rw [if_pos hp,hf]
  ·rw [if_neg hp]
   refine ih (i+1) (by omega) fun j h hji=>?_
   by_cases e:j=i
   ·subst e;simpa using hp
   ·exact hj j h (by omega)
def fldI (m:Mes) (number:Int):Int:=zjP (fun f:Fld=>f.Number==number) m.Fields
theorem ztD {m:Mes} (hm:m.Fields.length≤1152921504606846976) (number:Int):zes m number=some (fldI m number):=by
 unfold zes fldI
 have h:=znr (fun f:Fld=>f.Number==number) m.Fields (fun i=>zdh m number i) (by
   refine zib ?_
   unfold zaW
   rw [itF (by simp)])
  (fun i hi=>by
   have hb:zaW m number i=if ((m.Fields[i]).Number==number)=true then some (.inr (.inr (i:Int))) else some (.inl ((i+1:Nat):Int)):=by
    unfold zaW
    rw [itT (by simp;omega),zR rfl hi,sb,zD (by omega)];rfl
   by_cases hp:((m.Fields[i]).Number==number)=true
   ·rw [if_pos hp] at hb⊢;exact zib hb
   ·rw [if_neg hp] at hb⊢;exact zmi hb)
  m.Fields.length 0 (by omega) (fun j _ hj=>by omega)
 have h':zdh m number 0=_:=h
 rw [h',sb]
 unfold zjP
 cases m.Fields.findIdx? (fun f:Fld=>f.Number==number)<;>rfl
def nmc (i:Nat) (c:UInt8):Bool:=decide (65≤c.toNat∧c.toNat≤90∨97≤c.toNat∧c.toNat≤122∨c.toNat=95∨0<i∧48≤c.toNat∧c.toNat≤57)
def nmA:Nat→List UInt8→Bool
 | _,[]=>true
 | i,c::l=>nmc i c&&nmA (i+1) l
def zfM (s:List UInt8):Bool:=nmA 0 s&&decide (1≤s.length∧s.length≤60)
theorem zhD {α:Type} {l t:List α} {x:α} {k:Nat} (h:l.drop k=x::t):∃hk:k<l.length,l[k]=x∧l.drop (k+1)=t:=by
 have hk:k<l.length:=by
  rcases Nat.lt_or_ge k l.length with h'| h'
  ·exact h'
  ·rw [List.drop_eq_nil_of_le h'] at h;cases h
 rw [List.drop_eq_getElem_cons hk] at h
 injection h with h1 h2
 exact ⟨hk,h1,h2⟩
theorem ziS {α:Type} {l:List α} {k:Nat} (h:l.drop k=[]):l.length≤k:=by have:=congrArg List.length h;simp at this;omega
theorem zDI (s:List UInt8) (hs:s.length≤1152921504606846976):∀(l:List UInt8) (i:Nat),s.drop i=l→zdx s i=some (if nmA i l=true then .inl () else .inr ()):=by
 intro l
 induction l with
 | nil=>
  intro i hd
  have:=ziS hd
  refine zis ?_
  unfold zbi
  rw [itF (by simp;omega)];rfl
 | cons c l ih=>
  intro i hd
  obtain ⟨hk,hx,hd'⟩:=zhD hd
  have hb:zbi s i=if nmc i c=true then some (.inl ((i+1:Nat):Int)) else some (.inr (.inr ())):=by
   unfold zbi
   rw [itT (by simp;omega),zR rfl hk,sb,hx,zD (by omega)]
   have e:(if (decide ((c.toNat:Int)≥65)) then ((decide ((c.toNat:Int)≤90))|| (if (decide ((c.toNat:Int)≥97)) then ((decide ((c.toNat:Int)≤122))|| (((c.toNat:Int)==95)|| ((decide ((i:Int)>0))&&((decide ((c.toNat:Int)≥48))&&(decide ((c.toNat:Int)≤57)))))) else (((c.toNat:Int)==95)|| ((decide ((i:Int)>0))&&((decide ((c.toNat:Int)≥48))&&(decide ((c.toNat:Int)≤57))))))) else (if (decide ((c.toNat:Int)≥97)) then ((decide ((c.toNat:Int)≤122))|| (((c.toNat:Int)==95)|| ((decide ((i:Int)>0))&&((decide ((c.toNat:Int)≥48))&&(decide ((c.toNat:Int)≤57)))))) else (((c.toNat:Int)==95)|| ((decide ((i:Int)>0))&&((decide ((c.toNat:Int)≥48))&&(decide ((c.toNat:Int)≤57)))))))=nmc i c:=by
    have e95:((c.toNat:Int)==95)=decide (c.toNat=95):=ztZ _ 95
    have a1:decide ((c.toNat:Int)≥65)=decide (65≤c.toNat):=decide_eq_decide.2 (by omega)
    have a2:decide ((c.toNat:Int)≤90)=decide (c.toNat≤90):=decide_eq_decide.2 (by omega)
    have a3:decide ((c.toNat:Int)≥97)=decide (97≤c.toNat):=decide_eq_decide.2 (by omega)
    have a4:decide ((c.toNat:Int)≤122)=decide (c.toNat≤122):=decide_eq_decide.2 (by omega)
    have a5:decide ((i:Int)>0)=decide (0<i):=decide_eq_decide.2 (by omega)
    have a6:decide ((c.toNat:Int)≥48)=decide (48≤c.toNat):=decide_eq_decide.2 (by omega)
    have a7:decide ((c.toNat:Int)≤57)=decide (c.toNat≤57):=decide_eq_decide.2 (by omega)
    rw [e95,a1,a2,a3,a4,a5,a6,a7]
    simp only [nmc,Bool.decide_or,Bool.decide_and]
    generalize decide (65≤c.toNat)=p1
    generalize decide (c.toNat≤90)=p2
    generalize decide (97≤c.toNat)=p3
    generalize decide (c.toNat≤122)=p4
    generalize decide (c.toNat=95)=p5
    generalize decide (0<i)=p6
    generalize decide (48≤c.toNat)=p7
    generalize decide (c.toNat≤57)=p8
    cases p1<;>cases p2<;>cases p3<;>cases p4<;>cases p5<;>cases p6<;>cases p7<;>cases p8<;>rfl
   rw [e]
   cases nmc i c
   ·rw [itT (by rfl)];rfl
   ·rw [itF (by rfl)];push_cast;rfl
  rw [nmA]
  cases hc:nmc i c
  ·rw [hc,if_neg (by simp)] at hb
   rw [zis hb];rfl
  ·rw [hc,if_pos rfl] at hb
   rw [zmN hb,ih _ hd',Bool.true_and]
theorem zvx {s:List UInt8} (hs:s.length≤1152921504606846976):zeN s=some (zfM s):=by
 unfold zeN zfM
 have h:=zDI s hs s 0 rfl
 have h':zdx s 0=_:=h
 rw [h',sb]
 cases nmA 0 s
 ·rfl
 ·simp [Bool.decide_and]
  rw [Bool.eq_iff_iff];simp;omega
def zdo (n:Int) (prev:List Fld) (f:Fld):Int:=
 if zfM f.Name=false then 5 else if prev.any (fun g=>g.Name==f.Name)=true then 6
 else if f.Number<1∨f.Number>536870911∨(19000≤f.Number∧f.Number<20000) then 7
 else if prev.any (fun g=>g.Number==f.Number)=true then 8 else if zcM f.Kind=false then 9
 else if f.Packed=true∧¬(f.Repeated=true∧kNum f.Kind=true) then 10
 else if f.Kind=17∧(f.Of<0∨f.Of≥n)∨f.Kind≠17∧f.Of≠0 then 11 else 0
theorem zuN (n:Int) (prev:List Fld) (f:Fld):0≤zdo n prev f∧zdo n prev f≤11:=by
 unfold zdo
 repeat' split
 all_goals omega
theorem zBj {s:List Mes} {i k:Nat} {m:Mes} (hi:∃h:i<s.length,s[i]=m) (hk:k≤m.Fields.length) (hb:m.Fields.length≤1152921504606846976) (f:Fld):
  ∀(l:List Fld) (j:Nat) (a b:Bool),(m.Fields.take k).drop j=l→j≤k→zdg i k s f a b j=some (a|| l.any (fun g=>g.Name==f.Name),b|| l.any (fun g=>g.Number==f.Number)):=by
 obtain ⟨hi,hm⟩:=hi
 intro l
 induction l with
 | nil=>
  intro j a b hd hj
  have:=ziS hd
  rw [List.length_take] at this
  refine zmh ?_
  unfold zbs
  rw [itF (by simp;omega)];simp
 | cons g l ih=>
  intro j a b hd hj
  obtain ⟨hjk,hx,hd'⟩:=zhD hd
  rw [List.length_take] at hjk
  rw [List.getElem_take] at hx
  refine (zmg (name':=a|| (g.Name==f.Name)) (number':=b|| (g.Number==f.Number)) (j':=((j+1:Nat):Int)) ?_).trans ?_
  ·unfold zbs
   have e1:idx s (i:Int)=some m:=by rw [zR rfl hi,hm]
   have e2:idx m.Fields (j:Int)=some g:=by rw [zR rfl (by omega),hx]
   rw [itT (by simp;omega),e1,sb,e2,sb,zD (by omega)]
   cases a<;>cases b<;>(simp only [Bool.false_eq_true,if_false,if_true,e2,sb,Bool.false_or,Bool.true_or];push_cast;rfl)
  ·rw [ih _ _ _ hd' (by omega),List.any_cons,List.any_cons,Bool.or_assoc,Bool.or_assoc]
theorem zAm {s:List Mes} {i k:Nat} {m:Mes} {f:Fld} (hi:∃h:i<s.length,s[i]=m) (hk:∃h:k<m.Fields.length,m.Fields[k]=f) (hb:m.Fields.length≤1152921504606846976) (hf:f.Name.length≤1152921504606846976):
  zfA s i k=some (zdo s.length (m.Fields.take k) f):=by
 obtain ⟨hil,hm⟩:=hi
 obtain ⟨hkl,hfe⟩:=hk
 have e1:idx s (i:Int)=some m:=by rw [zR rfl hil,hm]
 have e2:idx m.Fields (k:Int)=some f:=by rw [zR rfl hkl,hfe]
 have h:=zBj ⟨hil,hm⟩ (Nat.le_of_lt hkl) hb f (m.Fields.take k) 0 false false rfl (Nat.zero_le _)
 have h':zdg i k s f false false 0=_:=h
 unfold zfA zdo
 rw [e1,sb,e2,sb,h',sb,zvx hf,sb]
 simp only [Bool.false_or]
 cases h1:zfM f.Name
 ·rw [itT (by rfl),if_pos (show false=false from rfl)]
 ·rw [itF (by rfl),if_neg (show ¬(true=false) by simp)]
  cases h2:(m.Fields.take k).any (fun g=>g.Name==f.Name)
  ·rw [itF (by rfl),if_neg (show ¬(false=true) by simp)]
   by_cases h3:f.Number<1∨f.Number>536870911∨(19000≤f.Number∧f.Number<20000)
   ·rw [itT (by simpa using h3),if_pos h3]
   ·rw [itF (by simp;omega),if_neg h3]
    cases h4:(m.Fields.take k).any (fun g=>g.Number==f.Number)
    ·rw [itF (by rfl),if_neg (show ¬(false=true) by simp),zrS,sb]
     cases h5:zcM f.Kind
     ·rw [itT (by rfl),if_pos (show false=false from rfl)]
     ·rw [itF (by rfl),if_neg (show ¬(true=false) by simp)]
      have e10:(if f.Packed=true then (if f.Repeated=true then (zcX f.Kind>>=fun rv3=>some (!rv3)) else some (!false)) else some false)=some (decide (f.Packed=true∧¬(f.Repeated=true∧kNum f.Kind=true))):=by
       rw [zvv,sb]
       cases f.Packed<;>cases f.Repeated<;>cases kNum f.Kind<;>rfl
      rw [e10,sb]
      by_cases h6:f.Packed=true∧¬(f.Repeated=true∧kNum f.Kind=true)
      ·rw [itT (decide_eq_true h6),if_pos h6]
      ·rw [itF (decide_eq_false h6),if_neg h6]
       by_cases h7:f.Kind=17
       ·by_cases h8:f.Of<0∨f.Of≥(s.length:Int)
        ·rw [itT (by simp [h7];simpa using h8),if_pos (.inl ⟨h7,h8⟩)]
        ·rw [itF (by simp [h7];omega),if_neg (by simp [h7];omega)]
       ·by_cases h8:f.Of=0
        ·rw [itF (by simp [h7,h8]),if_neg (by simp [h7,h8])]
        ·rw [itT (by simp [h7,h8]),if_pos (.inr ⟨h7,h8⟩)]
    ·rw [itT (by rfl),if_pos (show true=true from rfl)]
  ·rw [itT (by rfl),if_pos (show true=true from rfl)]
def msgF (n:Int) (prev:List Fld):List Fld→Option (Nat×Int)
 | []=>none
 | f::l=>if 0<zdo n prev f then some (prev.length,zdo n prev f) else msgF n (prev++[f]) l
def chkF (n:Int) (prev:List Mes):List Mes→Option (Nat×Int×Int)
 | []=>none
 | m::l=>if zfM m.Name=false then some (prev.length, -1,2) else if prev.any (fun g=>g.Name==m.Name)=true then some (prev.length, -1,3)
  else if 200<m.Fields.length then some (prev.length, -1,4) else match msgF n [] m.Fields with
   | some (k,w)=>some (prev.length,(k:Int),w)
   | none=>chkF n (prev++[m]) l
def zjN (s:List Mes):Int×Int×Int:=if s.length=0∨100<s.length then (-1, -1,1) else match chkF s.length [] s with
 | none=>(0,0,0)
 | some (i,k,w)=>((i:Int),k,w)
def zhK (s:List Mes):Bool:=decide ((zjN s).2.2=0)
def WS (s:List Mes):Prop:=s.length≤140737488351232∧∀m∈s,m.Name.length≤140737488351232∧m.Fields.length≤140737488351232∧∀f∈m.Fields,f.Name.length≤140737488351232
theorem zzr {s:List Mes} {i:Nat} {m:Mes} (hi:∃h:i<s.length,s[i]=m) (hb:m.Fields.length≤140737488351232) (hn:∀f∈m.Fields,f.Name.length≤140737488351232):
  ∀(l:List Fld) (k:Nat),m.Fields.drop k=l→k≤m.Fields.length→zdf i s k=some (match msgF s.length (m.Fields.take k) l with| some (j,w)=> .inr ((j:Int),w)| none=> .inl ()):=by
 obtain ⟨hil,hm⟩:=hi
 have e1:idx s (i:Int)=some m:=by rw [zR rfl hil,hm]
 intro l
 induction l with
 | nil=>
  intro k hd hk
  have:=ziS hd
  refine zia ?_
  unfold zaV
  rw [e1,sb,itF (by simp;omega)];rfl
 | cons f l ih=>
  intro k hd hk
  obtain ⟨hkl,hx,hd'⟩:=zhD hd
  have hf:=zAm (s:=s) (i:=i) (k:=k) (m:=m) (f:=f) ⟨hil,hm⟩ ⟨hkl,hx⟩ (by omega) (by have:=hn f (by rw [←hx];exact List.getElem_mem hkl);omega)
  have hbd:=zuN s.length (m.Fields.take k) f
  have htl:(m.Fields.take k).length=k:=by rw [List.length_take];omega
  rw [msgF]
  by_cases h0:0<zdo s.length (m.Fields.take k) f
  ·rw [if_pos h0]
   refine zia ?_
   unfold zaV
   rw [e1,sb,itT (by simp;omega),hf,sb,itT (by simpa using h0)]
   simp only [htl]
  ·rw [if_neg h0]
   refine (zmf (k2':=((k+1:Nat):Int)) ?_).trans ?_
   ·unfold zaV
    rw [e1,sb,itT (by simp;omega),hf,sb,itF (by simp;omega),zD (by omega)]
    push_cast;rfl
   ·rw [ih (k+1) hd' (by omega),List.take_succ_eq_append_getElem hkl,hx]
theorem zzq {s:List Mes} {i:Nat} {m:Mes} (hi:∃h:i<s.length,s[i]=m) (hs:s.length≤140737488351232):
  ∀(l:List Mes) (k:Nat) (a:Bool),(s.take i).drop k=l→k≤i→zde i s a k=some (a|| l.any (fun g=>g.Name==m.Name)):=by
 obtain ⟨hil,hm⟩:=hi
 intro l
 induction l with
 | nil=>
  intro k a hd hk
  have:=ziS hd
  rw [List.length_take] at this
  refine zme ?_
  unfold zbr
  rw [itF (by simp;omega)];simp
 | cons g l ih=>
  intro k a hd hk
  obtain ⟨hkl,hx,hd'⟩:=zhD hd
  rw [List.length_take] at hkl
  rw [List.getElem_take] at hx
  refine (zmd (twice':=a|| (g.Name==m.Name)) (k':=((k+1:Nat):Int)) ?_).trans ?_
  ·unfold zbr
   have e1:idx s (i:Int)=some m:=by rw [zR rfl hil,hm]
   have e2:idx s (k:Int)=some g:=by rw [zR rfl (by omega),hx]
   rw [itT (by simp;omega),e1,e2,sb,sb,zD (by omega)]
   cases a<;>(simp only [Bool.false_eq_true,if_false,if_true,sb,Bool.false_or,Bool.true_or];push_cast;rfl)
  ·rw [ih _ _ hd' (by omega),List.any_cons,Bool.or_assoc]
theorem zzp {s:List Mes} (hw:WS s):∀(l:List Mes) (i:Nat),s.drop i=l→i≤s.length→zdd s i=some (match chkF s.length (s.take i) l with| some (j,k,w)=> .inr ((j:Int),k,w)| none=> .inl ()):=by
 intro l
 induction l with
 | nil=>
  intro i hd hi
  have:=ziS hd
  refine zcV ?_
  unfold zaU
  rw [itF (by simp;omega)];rfl
 | cons m l ih=>
  intro i hd hi
  obtain ⟨hil,hx,hd'⟩:=zhD hd
  obtain ⟨hsl,hwm⟩:=hw
  obtain ⟨w1,w2,w3⟩:=hwm m (by rw [←hx];exact List.getElem_mem hil)
  have htl:(s.take i).length=i:=by rw [List.length_take];omega
  have e1:idx s (i:Int)=some m:=by rw [zR rfl hil,hx]
  have h2:=zzq ⟨hil,hx⟩ hsl (s.take i) 0 false rfl (Nat.zero_le _)
  have h2':zde i s false 0=_:=h2
  have h3:=zzr ⟨hil,hx⟩ w2 w3 m.Fields 0 rfl (Nat.zero_le _)
  have h3':zdf i s 0=_:=h3
  have hb:zaU s i=(if zfM m.Name=false then some (.inr (.inr ((i:Int), -1,2))) else if (s.take i).any (fun g=>g.Name==m.Name)=true then some (.inr (.inr ((i:Int), -1,3)))
    else if 200<m.Fields.length then some (.inr (.inr ((i:Int), -1,4))) else match msgF s.length [] m.Fields with
     | some (k,w)=>some (.inr (.inr ((i:Int),(k:Int),w)))
     | none=>some (.inl ((i+1:Nat):Int))):=by
   unfold zaU
   rw [itT (by simp;omega),h2',sb,e1,sb,zvx (by omega),sb,sb,h3',sb,Bool.false_or]
   cases h4:zfM m.Name
   ·rw [itT (by rfl),if_pos (show false=false from rfl)]
   ·rw [itF (by rfl),if_neg (show ¬(true=false) by simp)]
    cases h5:(s.take i).any (fun g=>g.Name==m.Name)
    ·rw [itF (by rfl),if_neg (show ¬(false=true) by simp)]
     by_cases h6:200<m.Fields.length
     ·rw [itT (by simp;omega),if_pos h6]
     ·rw [itF (by simp;omega),if_neg h6,List.take_zero]
      cases msgF s.length [] m.Fields with
      | none=>simp only;rw [zD (by omega)];push_cast;rfl
      | some p=>rfl
    ·rw [itT (by rfl),if_pos (show true=true from rfl)]
  rw [chkF]
  by_cases h4:zfM m.Name=false
  ·rw [if_pos h4] at hb⊢
   rw [zcV hb];simp only [htl]
  ·rw [if_neg h4] at hb⊢
   by_cases h5:(s.take i).any (fun g=>g.Name==m.Name)=true
   ·rw [if_pos h5] at hb⊢
    rw [zcV hb];simp only [htl]
   ·rw [if_neg h5] at hb⊢
    by_cases h6:200<m.Fields.length
    ·rw [if_pos h6] at hb⊢
     rw [zcV hb];simp only [htl]
    ·rw [if_neg h6] at hb⊢
     cases h7:msgF s.length [] m.Fields with
     | some p=>
      rw [h7] at hb
      rw [zcV hb];simp only [htl]
     | none=>
      rw [h7] at hb
      rw [zmc hb,ih _ hd' (by omega),List.take_succ_eq_append_getElem hil,hx]
theorem zwq {s:List Mes} (hw:WS s):zfz s=some (zjN s):=by
 unfold zfz zjN
 by_cases h:s.length=0∨100<s.length
 ·have e0:((s.length:Int)==0)=decide (s.length=0):=ztZ _ 0
  rw [e0,itT (by simp only [Bool.or_eq_true,decide_eq_true_eq];omega),if_pos h]
 ·have e0:((s.length:Int)==0)=decide (s.length=0):=ztZ _ 0
  rw [e0,itF (by simp only [Bool.or_eq_false_iff,decide_eq_false_iff_not];omega),if_neg h]
  have h1:=zzp hw s 0 rfl (Nat.zero_le _)
  have h1':zdd s 0=_:=h1
  rw [h1',sb,List.take_zero]
  cases chkF s.length [] s with
  | none=>rfl
  | some p=>rfl
theorem zwr {s:List Mes} (hw:WS s):zfB s=some (zhK s):=by
 unfold zfB zhK
 rw [zwq hw,sb]
 rfl
theorem zsP {n:Int}:∀(l prev:List Fld),msgF n prev l=none↔∀(k:Nat) (f:Fld),l[k]? =some f→zdo n (prev++l.take k) f=0
 | [],prev=>by simp [msgF]
 | f::l,prev=>by
  have hb:=zuN n prev f
  rw [msgF]
  by_cases h:0<zdo n prev f
  ·rw [if_pos h]
   refine ⟨(fun h'=>nomatch h'),fun h'=>?_⟩
   have:=h' 0 f rfl
   simp at this;omega
  ·rw [if_neg h,zsP l (prev++[f])]
   constructor
   ·intro h' k g hg
    cases k with
    | zero=>simp at hg;subst hg;simp;omega
    | succ k=>have:=h' k g (by simpa using hg);simpa using this
   ·intro h' k g hg
    have:=h' (k+1) g (by simpa using hg)
    simpa using this
theorem zwO {n:Int}:∀(l prev:List Mes),chkF n prev l=none↔∀(i:Nat) (m:Mes),l[i]? =some m→zfM m.Name=true∧(prev++l.take i).any (fun g=>g.Name==m.Name)=false∧m.Fields.length≤200∧msgF n [] m.Fields=none
 | [],prev=>by simp [chkF]
 | m::l,prev=>by
  rw [chkF]
  by_cases h1:zfM m.Name=false
  ·rw [if_pos h1]
   refine ⟨(fun h'=>nomatch h'),fun h'=>?_⟩
   have:=(h' 0 m rfl).1
   rw [h1] at this;cases this
  ·rw [if_neg h1]
   by_cases h2:prev.any (fun g=>g.Name==m.Name)=true
   ·rw [if_pos h2]
    refine ⟨(fun h'=>nomatch h'),fun h'=>?_⟩
    have:=(h' 0 m rfl).2.1
    simp only [List.take_zero,List.append_nil] at this
    rw [h2] at this;cases this
   ·rw [if_neg h2]
    by_cases h3:200<m.Fields.length
    ·rw [if_pos h3]
     refine ⟨(fun h'=>nomatch h'),fun h'=>?_⟩
     have:=(h' 0 m rfl).2.2.1
     omega
    ·rw [if_neg h3]
     cases h4:msgF n [] m.Fields with
     | some p=>
      refine ⟨(fun h'=>nomatch h'),fun h'=>?_⟩
      have:=(h' 0 m rfl).2.2.2
      rw [h4] at this;cases this
     | none=>
      simp only
      rw [zwO l (prev++[m])]
      constructor
      ·intro h' i g hg
       cases i with
       | zero=>simp at hg;subst hg;exact ⟨by simpa using h1,by simpa using h2,by omega,h4⟩
       | succ i=>have:=h' i g (by simpa using hg);simpa using this
      ·intro h' i g hg
       have:=h' (i+1) g (by simpa using hg)
       simpa using this
theorem zGV:∀(n:Int) (l prev:List Fld) (k:Nat) (w:Int),msgF n prev l=some (k,w)→0<w:=by
 intro n l
 induction l with
 | nil=>intro prev k w h;cases h
 | cons f l ih=>
  intro prev k w h
  rw [msgF] at h
  split at h
  ·cases h;assumption
  ·exact ih _ _ _ h
theorem zCl:∀(n:Int) (l prev:List Mes) (i:Nat) (k w:Int),chkF n prev l=some (i,k,w)→0<w:=by
 intro n l
 induction l with
 | nil=>intro prev i k w h;cases h
 | cons m l ih=>
  intro prev i k w h
  rw [chkF] at h
  split at h
  ·cases h;omega
  ·split at h
   ·cases h;omega
   ·split at h
    ·cases h;omega
    ·split at h
     ·rename_i k' w' h';cases h;exact zGV _ _ _ _ _ h'
     ·exact ih _ _ _ _ h
structure zHB (n:Int) (f:Fld):Prop where
 name:zfM f.Name=true
 lo:1≤f.Number
 hi:f.Number≤536870911
 kind:zcM f.Kind=true
 packed:f.Packed=true→f.Repeated=true∧kNum f.Kind=true
 sub:f.Kind=17→0≤f.Of∧f.Of<n
 noSub:f.Kind≠17→f.Of=0
theorem zuO {n:Int} {prev:List Fld} {f:Fld} (h:zdo n prev f=0):zHB n f∧prev.any (fun g=>g.Name==f.Name)=false∧prev.any (fun g=>g.Number==f.Number)=false:=by
 unfold zdo at h
 split at h
 ·omega
 ·rename_i h1
  split at h
  ·omega
  ·rename_i h2
   split at h
   ·omega
   ·rename_i h3
    split at h
    ·omega
    ·rename_i h4
     split at h
     ·omega
     ·rename_i h5
      split at h
      ·omega
      ·rename_i h6
       split at h
       ·omega
       ·rename_i h7
        refine ⟨⟨by simpa using h1,by omega,by omega,by simpa using h5,fun hp=>?_,fun hk=>by omega,fun hk=>by omega⟩,by simpa using h2,by simpa using h4⟩
        by_cases hq:f.Repeated=true∧kNum f.Kind=true
        ·exact hq
        ·exact absurd ⟨hp,hq⟩ h6
structure zkR (s:List Mes):Prop where
 len:1≤s.length∧s.length≤100
 name:∀m∈s,zfM m.Name=true
 names:∀(i j:Nat) (a b:Mes),i<j→s[i]? =some a→s[j]? =some b→a.Name≠b.Name
 few:∀m∈s,m.Fields.length≤200
 fld:∀m∈s,∀f∈m.Fields,zHB s.length f
 nums:∀m∈s,∀(i j:Nat) (f g:Fld),i<j→m.Fields[i]? =some f→m.Fields[j]? =some g→f.Number≠g.Number∧f.Name≠g.Name
theorem zsu {α:Type} {l:List α} {p:α→Bool} (h:l.any p=false) {x:α} (hx:x∈l):p x=false:=by
 rw [List.any_eq_false] at h
 simpa using h x hx
theorem zxu {s:List Mes} (h:zhK s=true):zkR s:=by
 have h0:(zjN s).2.2=0:=by simpa [zhK] using h
 have h1:¬(s.length=0∨100<s.length):=fun hh=>by unfold zjN at h0;rw [if_pos hh] at h0;simp at h0
 have h2:chkF s.length [] s=none:=by
  cases h4:chkF s.length [] s with
  | none=>rfl
  | some p=>
   exfalso
   obtain ⟨i,k,w⟩:=p
   have h5:(zjN s).2.2=w:=by unfold zjN;rw [if_neg h1,h4]
   have:=zCl _ _ _ _ _ _ h4
   omega
 have h3:=(zwO s []).1 h2
 have at':∀m∈s,zfM m.Name=true∧m.Fields.length≤200∧msgF s.length [] m.Fields=none:=fun m hm=>by
  obtain ⟨i,hi,rfl⟩:=List.getElem_of_mem hm
  have:=h3 i _ (List.getElem?_eq_getElem hi)
  exact ⟨this.1,this.2.2.1,this.2.2.2⟩
 refine ⟨by omega,fun m hm=>(at' m hm).1,fun i j a b hij ha hb=>?_,fun m hm=>(at' m hm).2.1,fun m hm f hf=>?_,fun m hm i j f g hij hf hg=>?_⟩
 ·have:=(h3 j b hb).2.1
  have hai:a∈([]++s.take j:List Mes):=by
   rw [List.nil_append]
   exact List.mem_of_getElem? (i:=i) (by rw [List.getElem?_take,if_pos hij];exact ha)
  simpa using zsu this hai
 ·have h4:=(zsP m.Fields []).1 (at' m hm).2.2
  obtain ⟨i,hi,rfl⟩:=List.getElem_of_mem hf
  exact (zuO (h4 i _ (List.getElem?_eq_getElem hi))).1
 ·have h4:=(zsP m.Fields []).1 (at' m hm).2.2
  obtain ⟨_,k1,k2⟩:=zuO (h4 j g hg)
  have hai:f∈([]++m.Fields.take j:List Fld):=by
   rw [List.nil_append]
   exact List.mem_of_getElem? (i:=i) (by rw [List.getElem?_take,if_pos hij];exact hf)
  exact ⟨by simpa using zsu k2 hai,by simpa using zsu k1 hai⟩
theorem zgZ {α:Type} [DecidableEq α] (a b:List α) (F:Int→Option (Unit⊕Unit)) (hl:a.length=b.length) (h0:F (a.length:Int)=some (.inl ()))
  (hs:∀(i:Nat) (h:i<a.length) (h':i<b.length),F (i:Int)=if a[i]=b[i] then F ((i+1:Nat):Int) else some (.inr ())):
  ∀(d i:Nat),i+d=a.length→F (i:Int)=some (if a.drop i=b.drop i then .inl () else .inr ()):=by
 intro d
 induction d with
 | zero=>
  intro i hi
  have e1:a.drop i=[]:=List.drop_eq_nil_of_le (by omega)
  have e2:b.drop i=[]:=List.drop_eq_nil_of_le (by omega)
  have:i=a.length:=by omega
  rw [e1,e2,if_pos rfl,this,h0]
 | succ d ih=>
  intro i hi
  rw [hs i (by omega) (by omega),List.drop_eq_getElem_cons (l:=a) (by omega),List.drop_eq_getElem_cons (l:=b) (by omega)]
  by_cases h:a[i]'(by omega)=b[i]'(by omega)
  ·rw [if_pos h,ih (i+1) (by omega),h]
   simp only [List.cons.injEq,true_and]
  ·rw [if_neg h,if_neg (fun e=>h (List.cons.inj e).1)]
theorem zDr {s:List Mes} {i:Nat} {m:Mes} (hi:∃h:i<s.length,s[i]=m) (hb:m.Fields.length≤140737488351232):∀(d k:Nat) (n:Int),k+d=m.Fields.length→∃r,zee i s n k=some r:=by
 obtain ⟨hil,hm⟩:=hi
 have e1:idx s (i:Int)=some m:=by rw [zR rfl hil,hm]
 intro d
 induction d with
 | zero=>
  intro k n hk
  refine ⟨n,zno ?_⟩
  unfold zbU
  rw [e1,sb,itF (by simp;omega)]
 | succ d ih=>
  intro k n hk
  obtain ⟨r,hr⟩:=ih (k+1) (IntKind.i64.wrap (n+(IntKind.i64.wrap (Int.tdiv (((m.Fields[k]'(by omega)).Name.length:Int)) 100)))) (by omega)
  refine ⟨r,(znn (k':=((k+1:Nat):Int)) ?_).trans hr⟩
  unfold zbU
  rw [e1,sb,itT (by simp;omega),sb,zR rfl (by omega),sb,zD (x:=(k:Int)+1) (by omega)]
  push_cast;rfl
theorem zHT {s:List Mes} (hw:WS s):∃b,zgv s=some b:=by
 obtain ⟨hs,hm⟩:=hw
 have key:∀(d i:Nat) (n:Int),i+d=s.length→∃r,zed s n i=some r:=by
  intro d
  induction d with
  | zero=>
   intro i n hi
   refine ⟨n,znm ?_⟩
   unfold zbT
   rw [itF (by simp;omega)]
  | succ d ih=>
   intro i n hi
   have hil:i<s.length:=by omega
   obtain ⟨q,hq⟩:=zDr (s:=s) (i:=i) (m:=s[i]) ⟨hil,rfl⟩ (hm _ (List.getElem_mem hil)).2.1 (s[i]).Fields.length 0
    (IntKind.i64.wrap ((IntKind.i64.wrap ((IntKind.i64.wrap (n+1))+(IntKind.i64.wrap (Int.tdiv ((s[i]).Name.length:Int) 100))))+((s[i]).Fields.length:Int))) (by omega)
   have hq':zee i s (IntKind.i64.wrap ((IntKind.i64.wrap ((IntKind.i64.wrap (n+1))+(IntKind.i64.wrap (Int.tdiv ((s[i]).Name.length:Int) 100))))+((s[i]).Fields.length:Int))) 0=some q:=hq
   obtain ⟨r,hr⟩:=ih (i+1) q (by omega)
   refine ⟨r,(znl (i':=((i+1:Nat):Int)) ?_).trans hr⟩
   unfold zbT
   rw [itT (by simp;omega),zR rfl hil,sb,sb,hq',sb,zD (x:=(i:Int)+1) (by omega)]
   push_cast;rfl
 obtain ⟨r,hr⟩:=key s.length 0 0 (by omega)
 have hr':zed s 0 0=some r:=hr
 exact ⟨_,by unfold zgv;rw [hr',sb]⟩
def zlH (m:Mes) (p:Int):Int:=(m.Fields.getD p.toNat ⟨[],0,0,false,false,0⟩).Number
def insS (κ:Int→Int) (i:Int) (out:List Int):List Int:=out.takeWhile (fun x=>decide (κ x≤κ i))++i::out.dropWhile (fun x=>decide (κ x≤κ i))
def ziA (κ:Int→Int):Nat→List Int
 | 0=>[]
 | n+1=>insS κ n (ziA κ n)
theorem zDw (κ:Int→Int) (i:Int) (out:List Int):(insS κ i out).Perm (i::out):=by
 unfold insS
 refine List.perm_middle.trans ?_
 rw [List.takeWhile_append_dropWhile]
theorem zka {κ:Int→Int}:∀{n:Nat} {x:Int},x∈ziA κ n↔0≤x∧x<n
 | 0,x=>by
  simp only [ziA,List.not_mem_nil,false_iff];omega
 | n+1,x=>by
  rw [ziA,(zDw κ n _).mem_iff,List.mem_cons,zka]
  omega
def zsw (κ:Int→Int) (a b:Int):Prop:=κ a<κ b∨κ a=κ b∧a<b
theorem zyU {κ:Int→Int} {c:Int}:∀{l:List Int},∀x∈l.takeWhile (fun x=>decide (κ x≤c)),κ x≤c∧x∈l:=by
 intro l
 induction l with
 | nil=>intro x hx;simp at hx
 | cons y l ih=>
  intro x hx
  rw [List.takeWhile_cons] at hx
  by_cases hy:κ y≤c
  ·rw [if_pos (by simpa using hy)] at hx
   rcases List.mem_cons.1 hx with rfl| hx
   ·exact ⟨hy,List.mem_cons_self⟩
   ·exact ⟨(ih x hx).1,List.mem_cons_of_mem _ (ih x hx).2⟩
  ·rw [if_neg (by simpa using hy)] at hx;cases hx
theorem zya {κ:Int→Int} {c:Int}:∀{l:List Int},l.Pairwise (zsw κ)→∀x∈l.dropWhile (fun x=>decide (κ x≤c)),c<κ x:=by
 intro l
 induction l with
 | nil=>intro _ x hx;simp at hx
 | cons y l ih=>
  intro hp x hx
  rw [List.dropWhile_cons] at hx
  have hp':=List.pairwise_cons.1 hp
  by_cases hy:κ y≤c
  ·rw [if_pos (by simpa using hy)] at hx
   exact ih hp'.2 x hx
  ·rw [if_neg (by simpa using hy)] at hx
   rcases List.mem_cons.1 hx with rfl| hx
   ·omega
   ·have:=hp'.1 x hx
    unfold zsw at this
    omega
theorem zsa (κ:Int→Int):∀(n:Nat),(ziA κ n).Pairwise (zsw κ)
 | 0=> .nil
 | n+1=>by
  have ih:=zsa κ n
  have hm:∀x∈ziA κ n,x<n:=fun x hx=>(zka.1 hx).2
  rw [ziA,insS]
  have hsplit:(ziA κ n).takeWhile (fun x=>decide (κ x≤κ n))++(ziA κ n).dropWhile (fun x=>decide (κ x≤κ n))=ziA κ n:=List.takeWhile_append_dropWhile
  have hp:((ziA κ n).takeWhile (fun x=>decide (κ x≤κ n))++(ziA κ n).dropWhile (fun x=>decide (κ x≤κ n))).Pairwise (zsw κ):=by rw [hsplit];exact ih
  have ht:=zyU (κ:=κ) (c:=κ n) (l:=ziA κ n)
  have hd:=zya (c:=κ n) ih
  have htm:∀x∈(ziA κ n).takeWhile (fun x=>decide (κ x≤κ n)),x<n:=fun x hx=>hm x (ht x hx).2
  rw [List.pairwise_append] at hp⊢
  refine ⟨hp.1,List.pairwise_cons.2 ⟨fun x hx=> .inl (hd x hx),hp.2.1⟩,fun a ha b hb=>?_⟩
  rcases List.mem_cons.1 hb with rfl| hb
  ·have h1:=(ht a ha).1
   have h2:=htm a ha
   unfold zsw;omega
  ·exact hp.2.2 a ha b hb
end Go.Proofs.YtcbkcblkecmjnaaGreat
namespace Go.Proofs.YtcbkcblkecmjnaaGreat
open Go
set_option linter.unusedVariables false
abbrev Vw:=zwl
def zvw:Vw:=⟨zrec,0,false⟩
def zaE (m:Mes) (i:Int):Fld:=m.Fields.getD i.toNat ⟨[],0,0,false,false,0⟩
def vw (m:Mes) (n w:Int):Int⊕(Int×Bool):=
 if fldI m n<0 then .inr (-1,false)
 else if (zaE m (fldI m n)).Repeated=true∧kNum (zaE m (fldI m n)).Kind=true∧w=2 then .inr (fldI m n,true)
 else if zcM (zaE m (fldI m n)).Kind=false∨zfe (zaE m (fldI m n)).Kind≠w then .inl 6 else .inr (fldI m n,false)
theorem zlE (m:Mes) (n:Int):fldI m n= -1∧(∀f∈m.Fields,f.Number≠n)∨∃(i:Nat) (h:i<m.Fields.length),fldI m n=i∧m.Fields[i].Number=n∧∀(j:Nat) (h:j<m.Fields.length),j<i→m.Fields[j].Number≠n:=by
 unfold fldI
 cases h:m.Fields.findIdx? (fun f:Fld=>f.Number==n) with
 | none=>
  left
  rw [List.findIdx?_eq_none_iff] at h
  exact ⟨zhE (List.findIdx?_eq_none_iff.2 h),fun f hf=>by simpa using h f hf⟩
 | some i=>
  right
  have h':=h
  rw [List.findIdx?_eq_some_iff_getElem] at h
  obtain ⟨hi,hp,hj⟩:=h
  exact ⟨i,hi,zhF h',by simpa using hp,fun j hjl hji=>by simpa using hj j hji⟩
theorem zhG {m:Mes} {i:Nat} (h:i<m.Fields.length):zaE m (i:Int)=m.Fields[i]:=by
 unfold zaE;rw [Int.toNat_natCast,List.getD_eq_getElem?_getD,List.getElem?_eq_getElem h];rfl
theorem zhS (m:Mes) (n w:Int):vw m n w= .inl 6∨vw m n w= .inr (-1,false)∧fldI m n= -1∨∃(i:Nat) (run:Bool),vw m n w= .inr ((i:Int),run)∧fldI m n=i∧i<m.Fields.length:=by
 unfold vw
 rcases zlE m n with ⟨h,_⟩| ⟨i,hi,h,_⟩
 ·right;left;rw [h,if_pos (by omega)];exact ⟨rfl,rfl⟩
 ·rw [h,if_neg (by omega)]
  split
  ·right;right;exact ⟨i,true,rfl,rfl,hi⟩
  ·split
   ·left;rfl
   ·right;right;exact ⟨i,false,rfl,rfl,hi⟩
def zfL (m:Mes) (b:List UInt8) (at5:Int):Vw×Int:=
 if (zfC b at5).2≠0 then (zvw,(zfC b at5).2) else match vw m (zfC b at5).1.Number (zfC b at5).1.Wire with
  | .inl c=>(zvw,c)
  | .inr (i,run)=>(⟨(zfC b at5).1,i,run⟩,0)
def vws (m:Mes) (e:Option (Nat×Int)):List Rec→List Vw×Option (Int×Int)
 | []=>([],e.map fun p=>((p.1:Int),p.2))
 | r::l=>match vw m r.Number r.Wire with
  | .inl c=>([],some (r.From,c))
  | .inr (i,run)=>(⟨r,i,run⟩::(vws m e l).1,(vws m e l).2)
def vwR (r:List Vw×Option (Int×Int)):List Vw×Int×Int:=match r.2 with
 | none=>(r.1,0,0)
 | some (p,c)=>([],p,c)
def zgr (m:Mes) (b:List UInt8):List Vw×Int×Int:=vwR (vws m (spl 0 b).2 (spl 0 b).1)
end Go.Proofs.YtcbkcblkecmjnaaGreat
namespace Go.Proofs.YtcbkcblkecmjnaaGreat
open Go
set_option linter.unusedVariables false
def zaq (s:List Mes) (i:Int):Mes:=s.getD i.toNat ⟨[],[]⟩
theorem ziy {s:List Mes} {i:Nat} (h:i<s.length):zaq s (i:Int)=s[i]:=by
 unfold zaq;rw [Int.toNat_natCast,List.getD_eq_getElem?_getD,List.getElem?_eq_getElem h];rfl
def valB (b:List UInt8) (r:Rec):List UInt8:=(b.drop r.At.toNat).take (r.To.toNat - r.At.toNat)
abbrev znj:=Option (Int→List UInt8→Option (Int×Int))
def zmZ (f:Fld) (run:Bool) (sub:znj) (r:Rec) (v:List UInt8):Option (Int×Int):=
 if run=true then (if (zos f.Kind v).2≠0 then some (r.From,(zos f.Kind v).2) else none)
 else if f.Kind=15∧zgB v=false then some (r.From,7)
 else if f.Kind=17 then (match sub with
  | none=>some (r.From,8)
  | some g=>match g f.Of v with
   | some (p,c)=>some (r.At+p,c)
   | none=>none)
 else none
def zeX (m:Mes) (sub:znj) (b:List UInt8) (r:Rec):Option (Int×Int):=match vw m r.Number r.Wire with
 | .inl c=>some (r.From,c)
 | .inr (i,run)=>if i<0 then none else zmZ (zaE m i) run sub r (valB b r)
def zen (m:Mes) (sub:znj) (b:List UInt8) (x:List Rec×Option (Nat×Int)):Option (Int×Int):=match x.1.findSome? (zeX m sub b) with
 | some p=>some p
 | none=>x.2.map fun p=>((p.1:Int),p.2)
def zaT (s:List Mes):Nat→Int→List UInt8→Option (Int×Int)
 | 0,k,b=>zen (zaq s k) none b (spl 0 b)
 | d+1,k,b=>zen (zaq s k) (some (zaT s d)) b (spl 0 b)
def zuy (g:Int→List UInt8→Option (Int×Int)):Prop:=∀k v p c,g k v=some (p,c)→3≤c∧c≤8∧0≤p∧p<v.length
theorem zDp (k:Int) {b:List UInt8}:(zos k b).2=0∨(zos k b).2=2∧kNum k=false∨(zos k b).2=3∨(zos k b).2=4:=by
 unfold zos
 have:=zAj k b
 split
 ·rename_i h;exact .inr (.inl ⟨rfl,h⟩)
 ·split
  ·exact .inl rfl
  ·rename_i h;simp only;omega
theorem zCh {m:Mes} {n w:Int} {i:Int} (h:vw m n w= .inr (i,true)):kNum (zaE m i).Kind=true∧(zaE m i).Repeated=true∧w=2:=by
 unfold vw at h
 split at h
 ·cases h
 ·split at h
  ·rename_i h1;cases h;exact ⟨h1.2.1,h1.1,h1.2.2⟩
  ·split at h<;>cases h
theorem zAK {b:List UInt8} {r:Rec} {base a t:Nat} (hr:r.At=((base+a:Nat):Int)) (ht:r.To=((base+t:Nat):Int)) (h:base+t≤b.length) (hat:a≤t):(valB b r).length=t - a:=by
 unfold valB;rw [hr,ht];simp;omega
theorem zxx {m:Mes} {sub:znj} {b:List UInt8} (hg:∀g,sub=some g→zuy g) {n w:Int} {base a t:Nat} (h1:1≤a) (hat:a≤t) (ht:base+t≤b.length) {p c:Int}
  (h:zeX m sub b ⟨n,w,base,(base+a:Nat),(base+t:Nat)⟩=some (p,c)):3≤c∧c≤8∧0≤p∧p<b.length:=by
 unfold zeX at h
 rcases zhS m n w with hv| ⟨hv,_⟩| ⟨i,run,hv,_,hi⟩
 ·simp only [hv] at h;cases h;(try dsimp only);omega
 ·simp only [hv] at h;rw [if_pos (by omega)] at h;cases h
 ·simp only [hv] at h
  rw [if_neg (by omega)] at h
  unfold zmZ at h
  split at h
  ·rename_i hr
   subst hr
   have hk:=zCh hv
   split at h
   ·cases h
    have:=zDp (zaE m i).Kind (b:=valB b ⟨n,w,base,(base+a:Nat),(base+t:Nat)⟩)
    rw [hk.1] at this
    simp only [Bool.true_eq_false,and_false,false_or] at this
    (try dsimp only)
    omega
   ·cases h
  ·split at h
   ·cases h;(try dsimp only);omega
   ·split at h
    ·cases sub with
     | none=>simp only at h;cases h;(try dsimp only);omega
     | some g=>
      simp only at h
      have hl:=zAK (b:=b) (r:=⟨n,w,base,(base+a:Nat),(base+t:Nat)⟩) rfl rfl ht hat
      cases hgv:g (zaE m i).Of (valB b ⟨n,w,base,(base+a:Nat),(base+t:Nat)⟩) with
      | none=>rw [hgv] at h;cases h
      | some q=>
       obtain ⟨q1,q2⟩:=q
       rw [hgv] at h
       have:=hg g rfl _ _ _ _ hgv
       cases h
       (try dsimp only)
       omega
    ·cases h
theorem zxa {m:Mes} {sub:znj} {b:List UInt8} (hg:∀g,sub=some g→zuy g) (base:Nat) (l:List UInt8):l=b.drop base→base≤b.length→∀p c,zen m sub b (spl base l)=some (p,c)→3≤c∧c≤8∧0≤p∧p<b.length:=by
 refine zjv (fun base l=>l=b.drop base→base≤b.length→∀p c,zen m sub b (spl base l)=some (p,c)→3≤c∧c≤8∧0≤p∧p<b.length) ?_ ?_ ?_ base l
 ·intro base _ _ p c h
  unfold zen at h;rw [zhX] at h;cases h
 ·intro base l c' hl h hc hld hb p c h2
  have hlt:base<b.length:=by subst hld;have:=List.length_pos_iff.2 hl;simp at this;omega
  unfold zen at h2;rw [ziH hl h] at h2
  simp only [List.findSome?_nil,Option.map_some] at h2
  cases h2;omega
 ·intro base l n w a t hl h _ g1 g2 g3 ih hld hb p c h2
  have hbl:base+t≤b.length:=by subst hld;simp at g3;omega
  unfold zen at h2 ih
  rw [zgg hl h] at h2
  simp only [List.findSome?_cons] at h2
  cases hs:zeX m sub b ⟨n,w,base,(base+a:Nat),(base+t:Nat)⟩ with
  | some q=>rw [hs] at h2;cases h2;exact zxx hg g1 g2 hbl hs
  | none=>
   rw [hs] at h2
   exact ih (by rw [hld,List.drop_drop]) hbl p c h2
theorem zob (s:List Mes):∀(d:Nat),zuy (zaT s d)
 | 0=>fun k v p c h=>zxa (fun g hg=>by cases hg) 0 v rfl (Nat.zero_le _) p c h
 | d+1=>fun k v p c h=>zxa (fun g hg=>by cases hg;exact zob s d) 0 v rfl (Nat.zero_le _) p c h
def argS (s:List Mes) (root d:Int):Int:=if zhK s=false then 9 else if root<0∨root≥s.length∨d<0∨d>64 then 2 else 0
def zhv (s:List Mes) (root:Int) (b:List UInt8) (d:Int):Int×Int:=if argS s root d≠0 then (0,argS s root d) else (zaT s d.toNat root b).getD (0,0)
theorem zsv {s:List Mes} {root d:Int} (h:argS s root d=0):zkR s∧0≤root∧root<s.length∧0≤d∧d≤64:=by
 unfold argS at h
 split at h
 ·omega
 ·rename_i h1
  split at h
  ·omega
  ·rename_i h2
   exact ⟨zxu (by simpa using h1),by omega⟩
def is11 (s:List Mes) (root:Int) (b:List UInt8) (d:Int):Bool:=(zhv s root b d).2==0
theorem zhf {m:Mes} {sub:znj} {b:List UInt8} {x:List Rec×Option (Nat×Int)}:zen m sub b x=none↔(∀r∈x.1,zeX m sub b r=none)∧x.2=none:=by
 unfold zen
 cases h:x.1.findSome? (zeX m sub b) with
 | some p=>
  refine ⟨(fun h'=>nomatch h'),fun ⟨h1,_⟩=>?_⟩
  obtain ⟨r,hr,hs⟩:=List.exists_of_findSome?_eq_some h
  rw [h1 r hr] at hs;cases hs
 | none=>
  rw [List.findSome?_eq_none_iff] at h
  cases hx:x.2 with
  | none=>exact ⟨fun _=>⟨h,rfl⟩,fun _=>rfl⟩
  | some p=>exact ⟨(fun h'=>nomatch h'),fun ⟨_,h2⟩=>nomatch h2⟩
theorem zAJ {b:List UInt8} (z:List UInt8) {r:Rec} (h0:0≤r.To) (h:r.To≤b.length):valB (b++z) r=valB b r:=by
 unfold valB
 by_cases ha:r.At.toNat≤b.length
 ·rw [List.drop_append_of_le_length ha,List.take_append_of_le_length (by simp;omega)]
 ·have e:r.To.toNat - r.At.toNat=0:=by omega
  rw [e,List.take_zero,List.take_zero]
theorem zvX (a b:List UInt8) {r:Rec} (h0:0≤r.At) (h1:r.At≤r.To):valB (a++b) (zpE a.length r)=valB b r:=by
 unfold valB zpE
 simp only
 have e1:(r.At+(a.length:Int)).toNat=a.length+r.At.toNat:=by omega
 have e2:(r.To+(a.length:Int)).toNat - (a.length+r.At.toNat)=r.To.toNat - r.At.toNat:=by omega
 rw [e1,e2,←List.drop_drop,List.drop_left]
theorem zvL {m:Mes} {sub:znj} {b b':List UInt8} {r r':Rec} (hn:r'.Number=r.Number) (hw:r'.Wire=r.Wire) (hv:valB b' r'=valB b r):zeX m sub b' r'=none↔zeX m sub b r=none:=by
 unfold zeX
 rw [hn,hw,hv]
 cases vw m r.Number r.Wire with
 | inl c=>simp
 | inr p=>
  simp only
  by_cases hi:p.1<0
  ·simp [hi]
  ·rw [if_neg hi,if_neg hi]
   unfold zmZ
   by_cases hr:p.2=true
   ·rw [if_pos hr,if_pos hr]
    by_cases he:(zos (zaE m p.1).Kind (valB b r)).2≠0
    ·rw [if_pos he,if_pos he];simp
    ·rw [if_neg he,if_neg he]
   ·rw [if_neg hr,if_neg hr]
    by_cases h15:(zaE m p.1).Kind=15∧zgB (valB b r)=false
    ·rw [if_pos h15,if_pos h15];simp
    ·rw [if_neg h15,if_neg h15]
     by_cases h17:(zaE m p.1).Kind=17
     ·rw [if_pos h17,if_pos h17]
      cases sub with
      | none=>simp
      | some g=>simp only;cases g (zaE m p.1).Of (valB b r)<;>simp
     ·rw [if_neg h17,if_neg h17]
theorem zyO (base:Nat) (l:List UInt8):∀r∈(spl base l).1,(base:Int)≤r.From∧r.From<r.At∧r.At≤r.To∧r.To≤base+l.length:=by
 refine zjv (fun base l=>∀r∈(spl base l).1,(base:Int)≤r.From∧r.From<r.At∧r.At≤r.To∧r.To≤base+l.length) ?_ ?_ ?_ base l
 ·intro base r hr;rw [zhX] at hr;cases hr
 ·intro base l c hl h _ r hr;rw [ziH hl h] at hr;cases hr
 ·intro base l n w a t hl h _ g1 g2 g3 ih r hr
  rw [zgg hl h] at hr
  rcases List.mem_cons.1 hr with rfl| hr
  ·simp only;omega
  ·have:=ih r hr
   simp only [List.length_drop] at this
   omega
theorem ztw {m:Mes} {sub:znj} {a:List UInt8} (z:List UInt8) (h:zen m sub a (spl 0 a)=none):zen m sub (a++z) (spl 0 (a++z))=none↔zen m sub z (spl 0 z)=none:=by
 rw [zhf] at h
 have hap:=zBS z 0 a h.2
 have hsh:=zEc a.length 0 z
 rw [Nat.zero_add] at hap hsh
 rw [hsh] at hap
 rw [zhf,zhf,hap]
 simp only [List.mem_append,List.mem_map]
 constructor
 ·rintro ⟨h1,h2⟩
  refine ⟨fun r hr=>?_,by cases hz:(spl 0 z).2 with| none=>rfl| some p=>rw [hz] at h2;cases h2⟩
  have hb:=zyO 0 z r hr
  have:=h1 (zpE a.length r) (.inr ⟨r,hr,rfl⟩)
  exact (zvL (r:=r) (r':=zpE a.length r) rfl rfl (zvX a z (by omega) (by omega))).1 this
 ·rintro ⟨h1,h2⟩
  refine ⟨fun r hr=>?_,by rw [h2];rfl⟩
  rcases hr with hr| ⟨r,hr,rfl⟩
  ·have hb:=zyO 0 a r hr
   exact (zvL (r:=r) (r':=r) rfl rfl (zAJ z (by omega) (by omega))).2 (h.1 r hr)
  ·have hb:=zyO 0 z r hr
   exact (zvL (r:=r) (r':=zpE a.length r) rfl rfl (zvX a z (by omega) (by omega))).2 (h1 r hr)
theorem zyg (s:List Mes) (d:Nat) (k:Int) {a:List UInt8} (z:List UInt8) (h:zaT s d k a=none):zaT s d k (a++z)=none↔zaT s d k z=none:=by
 cases d with
 | zero=>exact ztw z h
 | succ d=>exact ztw z h
theorem zzN {s:List Mes} {root:Int} {b:List UInt8} {d:Int}:is11 s root b d=true↔argS s root d=0∧zaT s d.toNat root b=none:=by
 unfold is11 zhv
 by_cases h:argS s root d=0
 ·rw [if_neg (by simpa using h)]
  cases hf:zaT s d.toNat root b with
  | none=>simp [h]
  | some p=>
   obtain ⟨p,c⟩:=p
   have:=zob s d.toNat root b p c hf
   simp only [Option.getD_some,h,true_and]
   simp;omega
 ·rw [if_pos h]
  simp [h]
end Go.Proofs.YtcbkcblkecmjnaaGreat
namespace Go.Proofs.YtcbkcblkecmjnaaGreat
open Go
set_option linter.unusedVariables false
abbrev Msg:=zc
abbrev Vlu:=zb
mutual
def szM:Msg→Nat
 | ⟨vs,_⟩=>1+szVs vs
def szVs:List Vlu→Nat
 | []=>0
 | v::l=>szV v+szVs l
def szV:Vlu→Nat
 | ⟨_,_,_,s⟩=>1+szMs s
def szMs:List Msg→Nat
 | []=>0
 | x::l=>szM x+szMs l
end
theorem zjw (x:Msg):szM x=1+szVs x.Values:=by cases x;rw [szM]
theorem zkW (v:Vlu):szV v=1+szMs v.Subs:=by cases v;rw [szV]
theorem zgF {v:Vlu}:∀{l:List Vlu},v∈l→szV v≤szVs l
 | [],h=>by cases h
 | u::l,h=>by
  rw [szVs]
  rcases List.mem_cons.1 h with rfl| h
  ·omega
  ·have:=zgF h;omega
theorem zhN {x:Msg}:∀{l:List Msg},x∈l→szM x≤szMs l
 | [],h=>by cases h
 | u::l,h=>by
  rw [szMs]
  rcases List.mem_cons.1 h with rfl| h
  ·omega
  ·have:=zhN h;omega
mutual
/-- Within the reach of what a law is handed. -/
def bdM:Msg→Prop
 | ⟨vs,u⟩=>vs.length*80≤140737488351232∧(u.length*16≤140737488351232∧∀t∈u,t.length≤140737488351232)∧bdVs vs
def bdVs:List Vlu→Prop
 | []=>True
 | v::l=>bdV v∧bdVs l
def bdV:Vlu→Prop
 | ⟨n,w,t,s⟩=>(Lit.int .i64 n).wf=true∧(w.length*8≤140737488351232∧∀x∈w,0≤x∧x≤18446744073709551615)∧(t.length*16≤140737488351232∧∀x∈t,x.length≤140737488351232)∧s.length*48≤140737488351232∧bdMs s
def bdMs:List Msg→Prop
 | []=>True
 | x::l=>bdM x∧bdMs l
end
theorem zjL (x:Msg):bdM x↔x.Values.length*80≤140737488351232∧(x.Unknown.length*16≤140737488351232∧∀t∈x.Unknown,t.length≤140737488351232)∧bdVs x.Values:=by cases x;simp only [bdM]
theorem zlz (v:Vlu):bdV v↔(Lit.int .i64 v.Number).wf=true∧(v.Words.length*8≤140737488351232∧∀x∈v.Words,0≤x∧x≤18446744073709551615)∧(v.Texts.length*16≤140737488351232∧∀x∈v.Texts,x.length≤140737488351232)∧v.Subs.length*48≤140737488351232∧bdMs v.Subs:=by cases v;simp only [bdV]
theorem zgu:∀{l:List Vlu},bdVs l↔∀v∈l,bdV v
 | []=>by simp [bdVs]
 | v::l=>by rw [bdVs,zgu (l:=l)];simp
theorem zhB:∀{l:List Msg},bdMs l↔∀v∈l,bdM v
 | []=>by simp [bdMs]
 | v::l=>by rw [bdMs,zhB (l:=l)];simp
section
open Classical
noncomputable def zgT {α:Type} (x y:α):Bool:=decide (x=y)
theorem zcH {α:Type} {x y:α}:zgT x y=true↔x=y:=by unfold zgT;simp
theorem zBN:∀(fuel:Nat),(∀x y:Msg,szM x<fuel→bdM x→zbl fuel x y=some (zgT x y))∧∀v u:Vlu,szV v<fuel→bdV v→zaO fuel v u=some (zgT v u)
 | 0=>⟨fun x y h=>by omega,fun v u h=>by omega⟩
 | fuel+1=>by
  obtain ⟨ih1,ih2⟩:=zBN fuel
  refine ⟨fun x y hs hb=>?_,fun v u hs hb=>?_⟩
  ·obtain ⟨b1,⟨b2,b3⟩,b4⟩:=(zjL x).1 hb
   rw [zjw] at hs
   show zfc (zbl fuel) (zaO fuel) x y=_
   unfold zfc
   by_cases hl:x.Values.length=y.Values.length∧x.Unknown.length=y.Unknown.length
   ·rw [itF (by simp [hl.1,hl.2])]
    have hv:∀(i:Nat) (hi:i<x.Values.length) (hi':i<y.Values.length),zaO fuel x.Values[i] y.Values[i]=some (zgT x.Values[i] y.Values[i]):=fun i hi hi'=>by
     have hm:=List.getElem_mem hi
     have:=zgF hm
     exact ih2 _ _ (by omega) (zgu.1 b4 _ hm)
    have h1:=zgZ x.Values y.Values (fun i=>zdB x y (zaO fuel) i) hl.1 (by
      refine zit ?_
      unfold zbj
      rw [itF (by simp)])
     (fun i hi hi'=>by
      by_cases hp:x.Values[i]=y.Values[i]
      ·rw [if_pos hp]
       refine zmU ?_
       unfold zbj
       rw [itT (by simp;omega),zR rfl hi,sb,zR rfl hi',sb,hv i hi hi',sb,itF (by rw [zcH.2 hp];rfl),zD (by omega)];push_cast;rfl
      ·rw [if_neg hp]
       refine zit ?_
       unfold zbj
       have:zgT x.Values[i] y.Values[i]=false:=by cases hq:zgT x.Values[i] y.Values[i] with
        | false=>rfl
        | true=>exact absurd (zcH.1 hq) hp
       rw [itT (by simp;omega),zR rfl hi,sb,zR rfl hi',sb,hv i hi hi',sb,itT (by rw [this];rfl)])
     x.Values.length 0 (by omega)
    have h1':zdB x y (zaO fuel) 0=_:=h1
    have h2:=zgZ x.Unknown y.Unknown (fun i=>zdC x y i) hl.2 (by
      refine ziu ?_
      unfold zbk
      rw [itF (by simp)])
     (fun i hi hi'=>by
      by_cases hp:x.Unknown[i]=y.Unknown[i]
      ·rw [if_pos hp]
       refine zmV ?_
       unfold zbk
       rw [itT (by simp;omega),zR rfl hi,sb,zR rfl hi',sb,itF (by simp [hp]),zD (by omega)];push_cast;rfl
      ·rw [if_neg hp]
       refine ziu ?_
       unfold zbk
       rw [itT (by simp;omega),zR rfl hi,sb,zR rfl hi',sb,itT (by simp [hp])])
     x.Unknown.length 0 (by omega)
    have h2':zdC x y 0=_:=h2
    rw [h1',sb]
    simp only [List.drop_zero]
    by_cases e1:x.Values=y.Values
    ·rw [if_pos e1]
     simp only
     rw [h2',sb]
     simp only [List.drop_zero]
     by_cases e2:x.Unknown=y.Unknown
     ·rw [if_pos e2,zcH.2 (by cases x;cases y;simp only at e1 e2;rw [e1,e2])]
     ·rw [if_neg e2]
      cases hq:zgT x y with
      | false=>rfl
      | true=>exact absurd (by rw [zcH.1 hq]) e2
    ·rw [if_neg e1]
     cases hq:zgT x y with
     | false=>rfl
     | true=>exact absurd (by rw [zcH.1 hq]) e1
   ·rw [itT (by simp;omega)]
    cases hq:zgT x y with
    | false=>rfl
    | true=>exact absurd (by rw [zcH.1 hq];exact ⟨rfl,rfl⟩) hl
  ·obtain ⟨b0,⟨b1,_⟩,⟨b2,b3⟩,b4,b5⟩:=(zlz v).1 hb
   rw [zkW] at hs
   show zdn (zbl fuel) (zaO fuel) v u=_
   unfold zdn
   have no:(v.Number≠u.Number∨v.Words≠u.Words∨v.Texts≠u.Texts∨v.Subs≠u.Subs)→zgT v u=false:=fun h=>by
    cases hq:zgT v u with
    | false=>rfl
    | true=>
     have:=zcH.1 hq
     subst this
     rcases h with h| h| h| h<;>exact absurd rfl h
   by_cases hl:v.Number=u.Number∧v.Words.length=u.Words.length∧v.Texts.length=u.Texts.length∧v.Subs.length=u.Subs.length
   ·rw [itF (by simp [hl.1,hl.2.1,hl.2.2.1,hl.2.2.2])]
    have hv:∀(i:Nat) (hi:i<v.Subs.length) (hi':i<u.Subs.length),zbl fuel v.Subs[i] u.Subs[i]=some (zgT v.Subs[i] u.Subs[i]):=fun i hi hi'=>by
     have hm:=List.getElem_mem hi
     have:=zhN hm
     exact ih1 _ _ (by omega) (zhB.1 b5 _ hm)
    have h1:=zgZ v.Words u.Words (fun i=>zcz v u i) hl.2.1 (by
      refine zgO ?_
      unfold zaA
      rw [itF (by simp)])
     (fun i hi hi'=>by
      by_cases hp:v.Words[i]=u.Words[i]
      ·rw [if_pos hp]
       refine zkw ?_
       unfold zaA
       rw [itT (by simp;omega),zR rfl hi,sb,zR rfl hi',sb,itF (by simp [hp]),zD (by omega)];push_cast;rfl
      ·rw [if_neg hp]
       refine zgO ?_
       unfold zaA
       rw [itT (by simp;omega),zR rfl hi,sb,zR rfl hi',sb,itT (by simp [hp])])
     v.Words.length 0 (by omega)
    have h1':zcz v u 0=_:=h1
    have h2:=zgZ v.Texts u.Texts (fun i=>zcA v u i) hl.2.2.1 (by
      refine zgP ?_
      unfold zaB
      rw [itF (by simp)])
     (fun i hi hi'=>by
      by_cases hp:v.Texts[i]=u.Texts[i]
      ·rw [if_pos hp]
       refine zkx ?_
       unfold zaB
       rw [itT (by simp;omega),zR rfl hi,sb,zR rfl hi',sb,itF (by simp [hp]),zD (by omega)];push_cast;rfl
      ·rw [if_neg hp]
       refine zgP ?_
       unfold zaB
       rw [itT (by simp;omega),zR rfl hi,sb,zR rfl hi',sb,itT (by simp [hp])])
     v.Texts.length 0 (by omega)
    have h2':zcA v u 0=_:=h2
    have h3:=zgZ v.Subs u.Subs (fun i=>zcB v u (zbl fuel) i) hl.2.2.2 (by
      refine zgQ ?_
      unfold zaC
      rw [itF (by simp)])
     (fun i hi hi'=>by
      by_cases hp:v.Subs[i]=u.Subs[i]
      ·rw [if_pos hp]
       refine zky ?_
       unfold zaC
       rw [itT (by simp;omega),zR rfl hi,sb,zR rfl hi',sb,hv i hi hi',sb,itF (by rw [zcH.2 hp];rfl),zD (by omega)];push_cast;rfl
      ·rw [if_neg hp]
       refine zgQ ?_
       unfold zaC
       have:zgT v.Subs[i] u.Subs[i]=false:=by cases hq:zgT v.Subs[i] u.Subs[i] with
        | false=>rfl
        | true=>exact absurd (zcH.1 hq) hp
       rw [itT (by simp;omega),zR rfl hi,sb,zR rfl hi',sb,hv i hi hi',sb,itT (by rw [this];rfl)])
     v.Subs.length 0 (by omega)
    have h3':zcB v u (zbl fuel) 0=_:=h3
    rw [h1',sb]
    simp only [List.drop_zero]
    by_cases e1:v.Words=u.Words
    ·rw [if_pos e1]
     simp only
     rw [h2',sb]
     simp only [List.drop_zero]
     by_cases e2:v.Texts=u.Texts
     ·rw [if_pos e2]
      simp only
      rw [h3',sb]
      simp only [List.drop_zero]
      by_cases e3:v.Subs=u.Subs
      ·rw [if_pos e3,zcH.2 (by cases v;cases u;simp only at e1 e2 e3 hl;rw [hl.1,e1,e2,e3])]
      ·rw [if_neg e3,no (.inr (.inr (.inr e3)))]
     ·rw [if_neg e2,no (.inr (.inr (.inl e2)))]
    ·rw [if_neg e1,no (.inr (.inl e1))]
   ·rw [itT (by simp;omega),no (by
     by_cases h0:v.Number=u.Number
     ·by_cases h1:v.Words=u.Words
      ·by_cases h2:v.Texts=u.Texts
       ·exact .inr (.inr (.inr fun h3=>hl ⟨h0,by rw [h1],by rw [h2],by rw [h3]⟩))
       ·exact .inr (.inr (.inl h2))
      ·exact .inr (.inl h1)
     ·exact .inl h0)]
end
theorem zrT {x:Msg} (y:Msg) {fuel:Nat} (hf:szM x<fuel) (hb:bdM x):zbl fuel x y=some (zgT x y):=(zBN fuel).1 x y hf hb
theorem zwt {v:Vlu} (u:Vlu) {fuel:Nat} (hf:szV v<fuel) (hb:bdV v):zaO fuel v u=some (zgT v u):=(zBN fuel).2 v u hf hb
def zix (v:Vlu):Nat:=v.Words.length+v.Texts.length+v.Subs.length
theorem zBG {v:Vlu} (hb:v.Words.length≤140737488351232∧v.Texts.length≤140737488351232∧v.Subs.length≤140737488351232):zcZ v=some ((zix v:Nat):Int):=by
 unfold zcZ zix
 rw [zD (x:=(v.Words.length:Int)+(v.Texts.length:Int)) (by omega),zD (by omega)]
 push_cast
 rfl
def getM (x:Msg) (number:Int):Int:=zjP (fun v:Vlu=>v.Number==number) x.Values
theorem zDR {x:Msg} (hb:x.Values.length≤140737488351232) (number:Int):zgy x number=some (getM x number):=by
 have h:=znr (fun v:Vlu=>v.Number==number) x.Values (fun i=>zef number x i) (by
   refine ziR ?_
   unfold zbx
   rw [itF (by simp)])
  (fun i hi=>by
   by_cases hp:(x.Values[i]).Number=number
   ·rw [if_pos (by simpa using hp)]
    refine ziR ?_
    unfold zbx
    rw [itT (by simp;omega),zR rfl hi,sb,itT (by simpa using hp)]
   ·rw [if_neg (by simpa using hp)]
    refine znp ?_
    unfold zbx
    rw [itT (by simp;omega),zR rfl hi,sb,itF (by simpa using hp),zD (by omega)];push_cast;rfl)
  x.Values.length 0 (by omega) (fun j _ hj=>by omega)
 have h':zef number x 0=_:=h
 unfold zgy getM
 rw [h',sb]
 cases hf:x.Values.findIdx? (fun v:Vlu=>v.Number==number) with
 | none=>rw [zhE hf]
 | some k=>rw [zhF hf]
mutual
def dM:Msg→Nat
 | ⟨vs,_⟩=>dVs vs
def dVs:List Vlu→Nat
 | []=>0
 | v::l=>max (dV v) (dVs l)
def dV:Vlu→Nat
 | ⟨_,_,_,s⟩=>dMs s
def dMs:List Msg→Nat
 | []=>0
 | x::l=>max (1+dM x) (dMs l)
end
theorem zzu (x:Msg):dM x=dVs x.Values:=by cases x;rw [dM]
theorem zzw (v:Vlu):dV v=dMs v.Subs:=by cases v;rw [dV]
theorem zzv (l:List Msg):∀(c i:Nat),i+c=l.length→∀(F:Int→Int→Option Int) (D:Nat→Int),(∀d,F d (l.length:Int)=some d)→
  (∀(j:Nat) (h:j<l.length) (d:Int),0≤d→F d (j:Int)=F (max d (1+(dM l[j]:Int))) ((j+1:Nat):Int))→∀d:Nat,F d i=some ((max d (dMs (l.drop i)):Nat):Int)
 | 0,i,hi,F,D,h0,hs,d=>by
  have e:l.drop i=[]:=List.drop_eq_nil_of_le (by omega)
  have hi':i=l.length:=by omega
  rw [e,hi',h0,dMs]
  simp
 | c+1,i,hi,F,D,h0,hs,d=>by
  rw [hs i (by omega) d (by omega),List.drop_eq_getElem_cons (by omega),dMs]
  have:=zzv l c (i+1) (by omega) F D h0 hs (max d (1+dM l[i]))
  have e:((max d (1+dM l[i]):Nat):Int)=max (d:Int) (1+(dM l[i]:Int)):=by omega
  rw [e] at this
  rw [this]
  congr 2
  omega
theorem zzx (l:List Vlu):∀(c i:Nat),i+c=l.length→∀(F:Int→Int→Option Int),(∀d,F d (l.length:Int)=some d)→
  (∀(j:Nat) (h:j<l.length) (d:Nat),F d (j:Int)=F ((max d (dV l[j]):Nat):Int) ((j+1:Nat):Int))→∀d:Nat,F d i=some ((max d (dVs (l.drop i)):Nat):Int)
 | 0,i,hi,F,h0,hs,d=>by
  have e:l.drop i=[]:=List.drop_eq_nil_of_le (by omega)
  have hi':i=l.length:=by omega
  rw [e,hi',h0,dVs]
  simp
 | c+1,i,hi,F,h0,hs,d=>by
  rw [hs i (by omega) d,List.drop_eq_getElem_cons (by omega),dVs,zzx l c (i+1) (by omega) F h0 hs]
  congr 2
  omega
theorem zru {v:Vlu}:∀{l:List Vlu},v∈l→dV v≤dVs l
 | [],h=>by cases h
 | u::l,h=>by
  rw [dVs]
  rcases List.mem_cons.1 h with rfl| h
  ·omega
  ·have:=zru h;omega
theorem zxZ {x:Msg}:∀{l:List Msg},x∈l→1+dM x≤dMs l
 | [],h=>by cases h
 | u::l,h=>by
  rw [dMs]
  rcases List.mem_cons.1 h with rfl| h
  ·omega
  ·have:=zxZ h;omega
theorem zqD:∀(fuel:Nat) (x:Msg),szM x<fuel→bdM x→dM x≤1152921504606846976→zcg fuel x=some ((dM x:Nat):Int)
 | 0,x,h,_,_=>by omega
 | fuel+1,x,hs,hb,hd=>by
  obtain ⟨b1,_,b4⟩:=(zjL x).1 hb
  rw [zjw] at hs
  rw [zzu] at hd⊢
  show zeD (zcg fuel) x=_
  unfold zeD
  have h:=zzx x.Values x.Values.length 0 (by omega) (fun d i=>zdi (zcg fuel) x d i) (fun d=>by
    refine zmk ?_
    unfold zbt
    rw [itF (by simp)])
   (fun j hj d=>by
    have hm:=List.getElem_mem hj
    have hsz:=zgF hm
    have hdv:=zru hm
    obtain ⟨_,_,_,c1,c2⟩:=(zlz _).1 (zgu.1 b4 _ hm)
    have e0:idx x.Values (j:Int)=some x.Values[j]:=zR rfl hj
    rw [zkW] at hsz
    rw [zzw] at hdv
    have h2:=zzv (x.Values[j]).Subs (x.Values[j]).Subs.length 0 (by omega) (fun d k=>zdj (j:Int) (zcg fuel) x d k) (fun _=>0) (fun d=>by
      refine zmm ?_
      unfold zbu
      rw [e0,sb,itF (by simp)])
     (fun k hk d h0=>by
      have hm2:=List.getElem_mem hk
      have s2:=zhN hm2
      have d2:=zxZ hm2
      have ih:=zqD fuel ((x.Values[j]).Subs[k]) (by omega) (zhB.1 c2 _ hm2) (by omega)
      refine zml ?_
      unfold zbu
      rw [e0,sb,itT (by simp;omega),sb,zR rfl hk,sb,ih,sb]
      have hw:IntKind.i64.wrap (1+((dM ((x.Values[j]).Subs[k]):Nat):Int))=1+((dM ((x.Values[j]).Subs[k]):Nat):Int):=by rw [zD (by omega)]
      have hk2:IntKind.i64.wrap ((k:Int)+1)=((k+1:Nat):Int):=by rw [zD (by omega)];push_cast;rfl
      rw [hw,hk2]
      have hmax:(if d<1+((dM ((x.Values[j]).Subs[k]):Nat):Int) then 1+((dM ((x.Values[j]).Subs[k]):Nat):Int) else d)=max d (1+((dM ((x.Values[j]).Subs[k]):Nat):Int)):=by
       split<;>omega
      rw [hmax]) d
    have h2':zdj (j:Int) (zcg fuel) x d 0=_:=h2
    refine (zmj (d':=((max d (dV x.Values[j]):Nat):Int)) (i':=((j+1:Nat):Int)) ?_)
    unfold zbt
    rw [itT (by simp;omega),h2',sb,List.drop_zero,zzw,zD (by omega)];push_cast;rfl) 0
  have h':zdi (zcg fuel) x 0 0=_:=h
  rw [h',sb,List.drop_zero]
  simp
structure Th where
 fi:Int
 run:Bool
 val:List UInt8
 raw:List UInt8
def rawB (b:List UInt8) (r:Rec):List UInt8:=(b.drop r.From.toNat).take (r.To.toNat - r.From.toNat)
def thOf (b:List UInt8) (t:Vw):Th:=⟨t.Field,t.Run,valB b t.R,rawB b t.R⟩
def ths (m:Mes) (b:List UInt8):List Th:=(zgr m b).1.map (thOf b)
def wt:List Th→Nat
 | []=>0
 | t::l=>t.val.length+1+wt l
theorem zwi:∀(l:List Th),l.length≤wt l
 | []=>by simp [wt]
 | t::l=>by have:=zwi l;simp only [List.length_cons,wt];omega
theorem zGq {t:Th}:∀{l:List Th},t∈l→t.val.length+1≤wt l
 | [],h=>by cases h
 | u::l,h=>by
  rw [wt]
  rcases List.mem_cons.1 h with rfl| h
  ·omega
  ·have:=zGq h;omega
theorem zDe {m:Mes} {e:Option (Nat×Int)}:∀{l:List Rec} {t:Vw},t∈(vws m e l).1→t.R∈l
 | [],t,h=>by simp [vws] at h
 | r::l,t,h=>by
  rw [vws] at h
  cases hv:vw m r.Number r.Wire with
  | inl c=>rw [hv] at h;simp at h
  | inr p=>
   rw [hv] at h
   rcases List.mem_cons.1 h with rfl| h
   ·exact List.mem_cons_self
   ·exact List.mem_cons_of_mem _ (zDe h)
theorem zDl {m:Mes} {b:List UInt8} {t:Vw} (h:t∈(zgr m b).1):t.R∈(spl 0 b).1:=by
 unfold zgr vwR at h
 split at h
 ·exact zDe h
 ·simp at h
theorem zEw {m:Mes} {b:List UInt8} {t:Vw} (h:t∈(zgr m b).1):0≤t.R.From∧t.R.From<t.R.At∧t.R.At≤t.R.To∧t.R.To≤b.length:=by
 have:=zyO 0 b _ (zDl h)
 simpa using this
theorem zIF {m:Mes} {e:Option (Nat×Int)} (b:List UInt8):∀(base:Nat) (l:List UInt8),l=b.drop base→base≤b.length→wt ((vws m e (spl base l).1).1.map (thOf b))≤l.length:=by
 intro base l
 refine zjv (fun base l=>l=b.drop base→base≤b.length→wt ((vws m e (spl base l).1).1.map (thOf b))≤l.length) ?_ ?_ ?_ base l
 ·intro base _ _;rw [zhX];simp [vws,wt]
 ·intro base l c hl h _ _ _;rw [ziH hl h];simp [vws,wt]
 ·intro base l n w a t hl h _ g1 g2 g3 ih hld hbase
  have hlen:l.length=b.length - base:=by rw [hld];simp
  have ih':=ih (by rw [hld,List.drop_drop]) (by omega)
  rw [zgg hl h,vws]
  cases hv:vw m n w with
  | inl c=>simp [wt]
  | inr p=>
   simp only [List.map_cons,wt,thOf,List.length_drop] at ih'⊢
   rw [zAK (b:=b) (base:=base) (a:=a) (t:=t) rfl rfl (by omega) g2]
   omega
theorem zBX (m:Mes) (b:List UInt8):wt (ths m b)≤b.length:=by
 unfold ths zgr vwR
 split
 ·exact zIF b 0 b rfl (Nat.zero_le _)
 ·simp [wt]
abbrev zji:=List UInt8×Bool×List Int×List Str×List Msg
def stp (g:Int→List UInt8→Msg) (f:Fld) (a:zji) (t:Th):zji:=
 if t.run=true then (a.1,true,(if f.Repeated=true then a.2.2.1 else [])++(zcF f.Kind t.val).1,(if f.Repeated=true then a.2.2.2.1 else []),a.2.2.2.2)
 else if kNum f.Kind=true then (a.1,true,(if f.Repeated=true then a.2.2.1 else [])++[(zxv f.Kind t.val).1],(if f.Repeated=true then a.2.2.2.1 else []),a.2.2.2.2)
 else if f.Kind=17∧f.Repeated=true then (a.1,true,(if f.Repeated=true then a.2.2.1 else []),(if f.Repeated=true then a.2.2.2.1 else []),a.2.2.2.2++[g f.Of t.val])
 else if f.Kind=17 then (a.1++t.val,true,(if f.Repeated=true then a.2.2.1 else []),(if f.Repeated=true then a.2.2.2.1 else []),a.2.2.2.2)
 else (a.1,true,(if f.Repeated=true then a.2.2.1 else []),(if f.Repeated=true then a.2.2.2.1 else [])++[t.val],a.2.2.2.2)
def accF (g:Int→List UInt8→Msg) (f:Fld) (i:Int):zji→List Th→zji
 | a,[]=>a
 | a,t::l=>accF g f i (if t.fi=i then stp g f a t else a) l
def wA (a:zji):Nat:=a.1.length+a.2.2.1.length+a.2.2.2.1.length+a.2.2.2.2.length
def wJ (a:zji):Nat:=a.1.length+(if a.2.1=true then 1 else 0)
theorem zxE (k:Int) (v:List UInt8):(zcF k v).1.length≤v.length:=by
 unfold zcF
 have:=zCP k v
 split
 ·simp
 ·split
  ·simpa using this
  ·simp
theorem zIt (g:Int→List UInt8→Msg) (f:Fld) (a:zji) (t:Th):wA (stp g f a t)≤wA a+t.val.length+1∧wJ (stp g f a t)≤wJ a+t.val.length+1:=by
 have h1:(if f.Repeated=true then a.2.2.1 else []).length≤a.2.2.1.length:=by split<;>simp
 have h2:(if f.Repeated=true then a.2.2.2.1 else []).length≤a.2.2.2.1.length:=by split<;>simp
 have h3:=zxE f.Kind t.val
 unfold stp wA wJ
 split
 ·simp only [List.length_append,if_true];omega
 ·split
  ·simp only [List.length_append,List.length_singleton,if_true];omega
  ·split
   ·simp only [List.length_append,List.length_singleton,if_true];omega
   ·split
    ·simp only [List.length_append,if_true];omega
    ·simp only [List.length_append,List.length_singleton,if_true];omega
theorem zEv (g:Int→List UInt8→Msg) (f:Fld) (i:Int):∀(a:zji) (l:List Th),wA (accF g f i a l)≤wA a+wt l∧wJ (accF g f i a l)≤wJ a+wt l
 | a,[]=>by simp [accF,wt]
 | a,t::l=>by
  have h:=zEv g f i (if t.fi=i then stp g f a t else a) l
  have h2:=zIt g f a t
  rw [accF,wt]
  split at h
  ·rename_i ht;rw [if_pos ht];omega
  ·rename_i ht;rw [if_neg ht];omega
def acc0:zji:=([],false,[],[],[])
def valO (g:Int→List UInt8→Msg) (f:Fld) (q:zji):Vlu:=⟨f.Number,q.2.2.1,q.2.2.2.1,if q.2.1=true∧f.Kind=17∧f.Repeated=false then [g f.Of q.1] else q.2.2.2.2⟩
def zGi (g:Int→List UInt8→Msg) (m:Mes) (l:List Th) (o:List Int):List Vlu:=(o.map fun i=>valO g (zaE m i) (accF g (zaE m i) i acc0 l)).filter fun v=>decide (0<zix v)
def unkO (l:List Th):List Str:=(l.filter fun t=>decide (t.fi<0)).map (·.raw)
def zxi (g:Int→List UInt8→Msg) (m:Mes) (l:List Th):Msg:=⟨zGi g m l (ziA (zlH m) m.Fields.length),unkO l⟩
def ofN (s:List Mes):Nat→Int→List UInt8→Msg
 | 0,_,_=>⟨[],[]⟩
 | n+1,k,b=>zxi (ofN s n) (zaq s k) (ths (zaq s k) b)
theorem zEe {g g':Int→List UInt8→Msg} {f:Fld} (a:zji) {t:Th} (h:f.Kind=17→g f.Of t.val=g' f.Of t.val):stp g f a t=stp g' f a t:=by
 unfold stp
 by_cases h17:f.Kind=17
 ·rw [h h17]
 ·rw [if_neg (c:=f.Kind=17∧_) (fun hh=>h17 hh.1),if_neg (c:=f.Kind=17∧_) (fun hh=>h17 hh.1)]
theorem zuB {g g':Int→List UInt8→Msg} {f:Fld} (i:Int):∀(a:zji) {l:List Th},(f.Kind=17→∀v:List UInt8,v.length+1≤wt l→g f.Of v=g' f.Of v)→accF g f i a l=accF g' f i a l
 | a,[],h=>rfl
 | a,t::l,h=>by
  rw [accF,accF,zEe a (fun h17=>h h17 t.val (by rw [wt];omega))]
  exact zuB i _ (fun h17 v hv=>h h17 v (by rw [wt];omega))
theorem zCe {g g':Int→List UInt8→Msg} {f:Fld} (i:Int) {l:List Th} (h:f.Kind=17→∀v:List UInt8,v.length+1≤wt l→g f.Of v=g' f.Of v):valO g f (accF g f i acc0 l)=valO g' f (accF g' f i acc0 l):=by
 rw [zuB i acc0 h]
 have hw:=(zEv g' f i acc0 l).2
 unfold valO
 by_cases hc:(accF g' f i acc0 l).2.1=true∧f.Kind=17∧f.Repeated=false
 ·rw [if_pos hc,if_pos hc,h hc.2.1 _ (by
   have h0:wJ acc0=0:=rfl
   rw [h0,wJ,if_pos hc.1] at hw
   omega)]
 ·rw [if_neg hc,if_neg hc]
theorem zty {g g':Int→List UInt8→Msg} {m:Mes} {l:List Th} (h:∀k:Int,∀v:List UInt8,v.length+1≤wt l→g k v=g' k v):zxi g m l=zxi g' m l:=by
 unfold zxi zGi
 congr 2
 exact List.map_congr_left fun i _=>zCe i (fun _ v hv=>h _ v hv)
theorem zvl (s:List Mes):∀(n n':Nat) (k:Int) (b:List UInt8),b.length<n→b.length<n'→ofN s n k b=ofN s n' k b
 | 0,n',k,b,h,_=>by omega
 | n+1,0,k,b,_,h=>by omega
 | n+1,n'+1,k,b,h,h'=>by
  rw [ofN,ofN]
  have hw:=zBX (zaq s k) b
  exact zty fun k v hv=>zvl s n n' k v (by omega) (by omega)
def ofM (s:List Mes) (k:Int) (b:List UInt8):Msg:=ofN s (b.length+1) k b
theorem zIj (s:List Mes) (k:Int) (b:List UInt8):ofM s k b=zxi (ofM s) (zaq s k) (ths (zaq s k) b):=by
 have hw:=zBX (zaq s k) b
 unfold ofM
 rw [ofN]
 exact zty fun k v hv=>zvl s _ _ _ _ (by omega) (Nat.lt_succ_self _)
theorem zHq (b:List UInt8) (r:Rec) (h:r.At≤r.To) (h0:0≤r.From) (h1:r.From<r.At) (h2:r.To≤b.length):(valB b r).length+1≤b.length:=by
 unfold valB;simp;omega
mutual
/-- How much a meaning is, all together. -/
def wgM:Msg→Nat
 | ⟨vs,u⟩=>1+(u.map fun t=>1+t.length).sum+wgVs vs
def wgVs:List Vlu→Nat
 | []=>0
 | v::l=>wgV v+wgVs l
def wgV:Vlu→Nat
 | ⟨_,w,t,s⟩=>1+w.length+(t.map fun t=>1+t.length).sum+wgMs s
def wgMs:List Msg→Nat
 | []=>0
 | x::l=>wgM x+wgMs l
end
theorem zIB (x:Msg):wgM x=1+(x.Unknown.map fun t=>1+t.length).sum+wgVs x.Values:=by cases x;rw [wgM]
theorem zIC (v:Vlu):wgV v=1+v.Words.length+(v.Texts.map fun t=>1+t.length).sum+wgMs v.Subs:=by cases v;rw [wgV]
def unkR (m:Mes) (u:Str):Bool:=(zfC u 0).2==0&&(zfC u 0).1.To==(u.length:Int)&&decide (fldI m (zfC u 0).1.Number<0)
def znU (f:Fld) (w:Int):Bool:=kNum f.Kind&&zfJ f.Kind w==w
def zmz (f:Fld) (t:Str):Bool:=f.Kind==16|| (f.Kind==15&&zgB t)
def zqB (f:Fld) (v:Vlu):Bool:=decide (0<zix v)&&(decide (zix v≤1)|| f.Repeated)&&zcM f.Kind
mutual
def zgC (s:List Mes):Msg→Int→Bool
 | ⟨vs,u⟩,k=>decide (0≤k∧k<s.length)&&zjn s vs (zaq s k) none&&u.all (unkR (zaq s k))
def zjn (s:List Mes):List Vlu→Mes→Option Int→Bool
 | [],_,_=>true
 | v::l,m,p=>decide (0≤fldI m v.Number)&&p.all (fun n=>decide (n<v.Number))&&zot s v (zaE m (fldI m v.Number))&&zjn s l m (some v.Number)
def zot (s:List Mes):Vlu→Fld→Bool
 | ⟨n,w,t,sub⟩,f=>zqB f ⟨n,w,t,sub⟩&&w.all (znU f)&&t.all (zmz f)&&zqj s sub f
def zqj (s:List Mes):List Msg→Fld→Bool
 | [],_=>true
 | x::l,f=>(f.Kind==17&&zgC s x f.Of)&&zqj s l f
end
theorem zqi (s:List Mes) (x:Msg) (k:Int):zgC s x k=(decide (0≤k∧k<s.length)&&zjn s x.Values (zaq s k) none&&x.Unknown.all (unkR (zaq s k))):=by cases x;rw [zgC]
theorem zzE (s:List Mes) (v:Vlu) (f:Fld):zot s v f=(zqB f v&&v.Words.all (znU f)&&v.Texts.all (zmz f)&&zqj s v.Subs f):=by cases v;rw [zot]
theorem zqZ (s:List Mes) (f:Fld):∀(l:List Msg),zqj s l f=l.all fun x=>f.Kind==17&&zgC s x f.Of
 | []=>by rw [zqj];rfl
 | x::l=>by rw [zqj,zqZ s f l];rfl
theorem zrq {α:Type} (p:α→Bool) (l:List α) (F:Bool→Int→Option Bool) (h0:∀a,F a (l.length:Int)=some a)
  (hs:∀(a:Bool) (i:Nat) (h:i<l.length),F a (i:Int)=F (a&&p l[i]) ((i+1:Nat):Int)):∀(c i:Nat) (a:Bool),i+c=l.length→F a (i:Int)=some (a&&(l.drop i).all p)
 | 0,i,a,h=>by
  have e:l.drop i=[]:=List.drop_eq_nil_of_le (by omega)
  have hi:i=l.length:=by omega
  rw [e,hi,h0];simp
 | c+1,i,a,h=>by
  have hd:l.drop i=l[i]::l.drop (i+1):=List.drop_eq_getElem_cons (by omega)
  rw [hs a i (by omega),zrq p l F h0 hs c (i+1) _ (by omega),hd,List.all_cons,Bool.and_assoc]
def prv (vs:List Vlu) (i:Nat):Option Int:=if i=0 then none else (vs[i - 1]?).map (·.Number)
theorem zCU {s:List Mes} (hs:zkR s):∀(fuel:Nat),(∀(v:Vlu) (f:Fld),szV v<fuel→bdV v→zdX fuel s f v=some (zot s v f))∧
  ∀(x:Msg) (k:Int),szM x<fuel→bdM x→zch fuel s k x=some (zgC s x k)
 | 0=>⟨fun v f h=>by omega,fun x k h=>by omega⟩
 | fuel+1=>by
  obtain ⟨ih1,ih2⟩:=zCU hs fuel
  refine ⟨fun v f hsz hb=>?_,fun x k hsz hb=>?_⟩
  ·obtain ⟨_,⟨b1,b1'⟩,⟨b2,b3⟩,b4,b5⟩:=(zlz v).1 hb
   rw [zkW] at hsz
   show zfb (zdX fuel) (zch fuel) s f v=_
   unfold zfb
   rw [zzE]
   have hg:(zcZ v>>=fun rv=>if (rv==0)=true then some true else (zcZ v>>=fun rv2=>if (decide (rv2>1))=true then (if (!f.Repeated)=true then some true else (zcC f.Kind>>=fun rv3=>some (!rv3))) else (zcC f.Kind>>=fun rv4=>some (!rv4))))=some (!zqB f v):=by
    rw [zBG ⟨by omega,by omega,by omega⟩,sb,sb,zrS,sb]
    unfold zqB
    by_cases h0:zix v=0
    ·rw [itT (by simp [h0])];simp [h0]
    ·rw [itF (by simp;omega)]
     by_cases h1:zix v>1
     ·rw [itT (by simp;omega)]
      cases hr:f.Repeated
      ·rw [itT (by rfl)];simp;omega
      ·rw [itF (by rfl)];simp;omega
     ·rw [itF (by simp;omega)];simp;omega
   rw [hg,sb]
   by_cases hm:zqB f v=true
   ·rw [itF (by rw [hm];rfl),hm,Bool.true_and]
    have h1:=zrq (znU f) v.Words (fun a i=>zdy f v a i) (fun a=>by
      refine zmP ?_
      unfold zbI
      rw [itF (by simp)])
     (fun a i hi=>by
      refine zmO ?_
      unfold zbI
      have hx:idx v.Words (i:Int)=some v.Words[i]:=zR rfl hi
      rw [itT (by simp;omega),hx,sb,zvv,sb,zAl _ (b1' _ (List.getElem_mem hi)),sb,sb,zD (by omega)]
      unfold znU
      cases a
      ·rw [itF (by rfl),sb];push_cast;rfl
      ·rw [itT (by rfl)]
       cases kNum f.Kind
       ·rw [itF (by rfl),sb];push_cast;rfl
       ·rw [itT (by rfl),sb];push_cast;rfl) v.Words.length 0 true (Nat.zero_add _)
    have h1':zdy f v true 0=_:=h1
    rw [h1',sb,List.drop_zero,Bool.true_and]
    have h2:=zrq (zmz f) v.Texts (fun a i=>zdz f v a i) (fun a=>by
      refine zmR ?_
      unfold zbJ
      rw [itF (by simp)])
     (fun a i hi=>by
      refine zmQ ?_
      unfold zbJ
      have hx:idx v.Texts (i:Int)=some v.Texts[i]:=zR rfl hi
      have hl:=b3 _ (List.getElem_mem hi)
      rw [itT (by simp;omega),hx,sb,zD (by omega)]
      have e:lenO v.Texts[i]=some v.Texts[i]:=by unfold lenO;rw [if_pos (by omega)]
      rw [e,sb,zyG (by omega),sb]
      unfold zmz
      cases a
      ·rw [itF (by rfl),sb];push_cast;rfl
      ·rw [itT (by rfl)]
       by_cases h16:f.Kind=16
       ·rw [itT (by simpa using h16),sb];simp [h16]
       ·rw [itF (by simpa using h16)]
        by_cases h15:f.Kind=15
        ·rw [itT (by simpa using h15),sb];simp [h15]
        ·rw [itF (by simpa using h15),sb];simp [h15,h16]) v.Texts.length 0 (v.Words.all (znU f)) (Nat.zero_add _)
    have h2':zdz f v (v.Words.all (znU f)) 0=_:=h2
    rw [h2',sb,List.drop_zero]
    have h3:=zrq (fun x=>f.Kind==17&&zgC s x f.Of) v.Subs (fun a i=>zdA f (zch fuel) s v a i) (fun a=>by
      refine zmT ?_
      unfold zbK
      rw [itF (by simp)])
     (fun a i hi=>by
      refine zmS ?_
      unfold zbK
      have hx:idx v.Subs (i:Int)=some v.Subs[i]:=zR rfl hi
      have hmem:=List.getElem_mem hi
      have s1:=zhN hmem
      rw [itT (by simp;omega),hx,sb,zD (by omega),ih2 _ f.Of (by omega) (zhB.1 b5 _ hmem),sb]
      cases a
      ·rw [itF (by rfl),sb];push_cast;rfl
      ·rw [itT (by rfl)]
       by_cases h17:f.Kind=17
       ·rw [itT (by simpa using h17),sb];simp [h17]
       ·rw [itF (by simpa using h17),sb];simp [h17]) v.Subs.length 0 (v.Words.all (znU f)&&v.Texts.all (zmz f)) (Nat.zero_add _)
    have h3':zdA f (zch fuel) s v (v.Words.all (znU f)&&v.Texts.all (zmz f)) 0=_:=h3
    rw [h3',sb,List.drop_zero,zqZ]
   ·have hm':zqB f v=false:=by simpa using hm
    rw [itT (by rw [hm'];rfl),hm'];rfl
  ·obtain ⟨b1,⟨b2,b3⟩,b4⟩:=(zjL x).1 hb
   rw [zjw] at hsz
   show zeE (zdX fuel) (zch fuel) s k x=_
   unfold zeE
   rw [zqi]
   by_cases hk:0≤k∧k<s.length
   ·rw [itF (by simp;omega),decide_eq_true hk,Bool.true_and]
    obtain ⟨n,rfl⟩:∃n:Nat,k=n:=⟨k.toNat,by omega⟩
    have hn:n<s.length:=by omega
    have hm:idx s (n:Int)=some (zaq s n):=by rw [zR rfl hn,ziy hn]
    have hmm:zaq s (n:Int)∈s:=by rw [ziy hn];exact List.getElem_mem hn
    have hfew:=hs.few _ hmm
    generalize zaq s (n:Int)=m at hm hmm hfew⊢
    have hv:∀(c i:Nat),i+c=x.Values.length→zdk (zdX fuel) n s x i=some (if zjn s (x.Values.drop i) m (prv x.Values i)=true then .inl () else .inr ()):=by
     intro c
     induction c with
     | zero=>
      intro i hi
      have e:x.Values.drop i=[]:=List.drop_eq_nil_of_le (by omega)
      rw [e,zjn,if_pos rfl]
      refine zic ?_
      unfold zaX
      rw [itF (by simp;omega)]
     | succ c ih=>
      intro i hi
      have hil:i<x.Values.length:=by omega
      have hd:x.Values.drop i=x.Values[i]::x.Values.drop (i+1):=List.drop_eq_getElem_cons hil
      have hx:idx x.Values (i:Int)=some x.Values[i]:=zR rfl hil
      have hmem:=List.getElem_mem hil
      have s1:=zgF hmem
      have hp1:prv x.Values (i+1)=some (x.Values[i]).Number:=by unfold prv;rw [if_neg (by omega)];simp [hil]
      rw [hd,zjn]
      have hbody:zaX (zdX fuel) n s x i=if (decide (0≤fldI m (x.Values[i]).Number)&&(prv x.Values i).all (fun q=>decide (q<(x.Values[i]).Number))&&zot s x.Values[i] (zaE m (fldI m (x.Values[i]).Number)))=true then some (.inl ((i+1:Nat):Int)) else some (.inr (.inr ())):=by
       unfold zaX
       have hw1:IntKind.i64.wrap ((i:Int)+1)=((i+1:Nat):Int):=by rw [zD (by omega)];push_cast;rfl
       rw [itT (by simp;omega),hm,sb,hx,sb,ztD (by omega),sb,hw1]
       rcases zlE m (x.Values[i]).Number with ⟨hf,_⟩| ⟨j,hj,hf,_⟩
       ·rw [hf,itT (by rfl),sb,itT (by rfl),if_neg (by simp)]
       ·have hfj:idx m.Fields (j:Int)=some (zaE m (j:Int)):=by rw [zR rfl hj,zhG hj]
        have hfit:=ih1 x.Values[i] (zaE m (j:Int)) (by omega) (zgu.1 b4 _ hmem)
        rw [hf,itF (by simp)]
        by_cases hi0:i=0
        ·subst hi0
         rw [itF (by simp),sb,hfj,sb,sb,hfit,sb,sb]
         unfold prv
         cases hfv:zot s x.Values[0] (zaE m (j:Int))
         ·rw [itT (by rfl),if_neg (by simp)]
         ·rw [itF (by rfl),if_pos (by simp)]
        ·have hi1:i - 1<x.Values.length:=by omega
         have hxp:idx x.Values (IntKind.i64.wrap ((i:Int) - 1))=some x.Values[i - 1]:=by
          rw [zD (by omega)]
          exact zR (by omega) hi1
         have hpv:prv x.Values i=some (x.Values[i - 1]).Number:=by unfold prv;rw [if_neg hi0];simp [hi1]
         rw [itT (by simp;omega),hxp,sb,sb,hpv]
         by_cases hlt:(x.Values[i - 1]).Number<(x.Values[i]).Number
         ·rw [itF (by simpa using hlt),sb,hfj,sb,sb,hfit,sb,sb]
          cases hfv:zot s x.Values[i] (zaE m (j:Int))
          ·rw [itT (by rfl),if_neg (by simp)]
          ·rw [itF (by rfl),if_pos (by simp [hlt])]
         ·rw [itT (by simpa using hlt),sb,itT (by rfl),if_neg (by simp;omega)]
      generalize (decide (0≤fldI m (x.Values[i]).Number)&&(prv x.Values i).all (fun q=>decide (q<(x.Values[i]).Number))&&zot s x.Values[i] (zaE m (fldI m (x.Values[i]).Number)))=bb at hbody⊢
      cases bb
      ·rw [if_neg (by simp)] at hbody
       rw [zic hbody,Bool.false_and,if_neg (by simp)]
      ·rw [if_pos rfl] at hbody
       rw [zmn hbody,ih _ (by omega),Bool.true_and,hp1]
    have h1:=hv x.Values.length 0 (Nat.zero_add _)
    have h1':zdk (zdX fuel) n s x 0=_:=h1
    have hp0:prv x.Values 0=none:=rfl
    rw [List.drop_zero,hp0] at h1'
    rw [h1',sb]
    cases hrv:zjn s x.Values m none
    ·rw [if_neg (by simp)];rfl
    ·rw [if_pos rfl,Bool.true_and]
     simp only
     have hu:∀(c i:Nat),i+c=x.Unknown.length→zdl n s x i=some (if (x.Unknown.drop i).all (unkR m)=true then .inl () else .inr ()):=by
      intro c
      induction c with
      | zero=>
       intro i hi
       have e:x.Unknown.drop i=[]:=List.drop_eq_nil_of_le (by omega)
       rw [e,List.all_nil,if_pos rfl]
       refine zid ?_
       unfold zaY
       rw [itF (by simp;omega)]
      | succ c ih=>
       intro i hi
       have hil:i<x.Unknown.length:=by omega
       have hd:x.Unknown.drop i=x.Unknown[i]::x.Unknown.drop (i+1):=List.drop_eq_getElem_cons hil
       have hx:idx x.Unknown (i:Int)=some x.Unknown[i]:=zR rfl hil
       have hl:=b3 _ (List.getElem_mem hil)
       have e:lenO x.Unknown[i]=some x.Unknown[i]:=by unfold lenO;rw [if_pos (by omega)]
       have hw1:IntKind.i64.wrap ((i:Int)+1)=((i+1:Nat):Int):=by rw [zD (by omega)];push_cast;rfl
       rw [hd,List.all_cons]
       have hbody:zaY n s x i=if unkR m x.Unknown[i]=true then some (.inl ((i+1:Nat):Int)) else some (.inr (.inr ())):=by
        unfold zaY unkR
        rw [itT (by simp;omega),hx,sb,e,sb,zAn (by omega),sb,hw1]
        generalize zfC x.Unknown[i] 0=r
        by_cases c1:r.2=0
        ·rw [itF (by simpa using c1),sb]
         by_cases c2:r.1.To=(x.Unknown[i]).length
         ·rw [itF (by simpa using c2),hm,sb,ztD (by omega),sb,sb]
          by_cases c3:fldI m r.1.Number<0
          ·rw [itF (by simpa using c3),if_pos (by simp [c1,c2,c3])]
          ·rw [itT (by simpa using c3),if_neg (by simp [c1,c2];omega)]
         ·rw [itT (by simpa using c2),sb,itT (by rfl),if_neg (by simp [c1,c2])]
        ·rw [itT (by simpa using c1),sb,itT (by rfl),if_neg (by simp [c1])]
       cases hun:unkR m x.Unknown[i]
       ·rw [hun,if_neg (by simp)] at hbody
        rw [zid hbody,Bool.false_and,if_neg (by simp)]
       ·rw [hun,if_pos rfl] at hbody
        rw [zmo hbody,ih _ (by omega),Bool.true_and]
     have h2:=hu x.Unknown.length 0 (Nat.zero_add _)
     have h2':zdl n s x 0=_:=h2
     rw [h2',sb,List.drop_zero]
     cases x.Unknown.all (unkR m)<;>rfl
   ·rw [itT (by simp;omega),decide_eq_false hk];rfl
theorem zws {s:List Mes} (hs:zkR s) {x:Msg} (k:Int) {fuel:Nat} (hf:szM x<fuel) (hb:bdM x):zch fuel s k x=some (zgC s x k):=(zCU hs fuel).2 x k hf hb
theorem zsz {α:Type} (bytes:Nat) (l:List α) (hl:l.length*bytes≤140737488355328) (F:Int→List α→Option (List α)) (h0:∀a,F (l.length:Int) a=some a)
  (hs:∀(i:Nat) (h:i<l.length) (a:List α),(a.length+1)*bytes≤140737488355328→F (i:Int) a=F ((i+1:Nat):Int) (a++[l[i]])):∀(c i:Nat),i+c=l.length→F (i:Int) (l.take i)=some l
 | 0,i,h=>by
  have hi:i=l.length:=by omega
  rw [hi,h0,List.take_length]
 | c+1,i,h=>by
  have hil:i<l.length:=by omega
  have hb:(i+1)*bytes≤140737488355328:=Nat.le_trans (Nat.mul_le_mul_right _ hil) hl
  rw [hs i hil _ (by rw [List.length_take,Nat.min_eq_left (by omega)];exact hb),List.take_append_getElem hil]
  exact zsz bytes l hl F h0 hs c (i+1) (by omega)
theorem zBg:∀(fuel:Nat),(∀x:Msg,szM x<fuel→bdM x→zcm fuel x=some x)∧∀v:Vlu,szV v<fuel→bdV v→zbD fuel v=some v
 | 0=>⟨fun x h=>by omega,fun v h=>by omega⟩
 | fuel+1=>by
  obtain ⟨ih1,ih2⟩:=zBg fuel
  refine ⟨fun x hsz hb=>?_,fun v hsz hb=>?_⟩
  ·obtain ⟨b1,⟨b2,b3⟩,b4⟩:=(zjL x).1 hb
   rw [zjw] at hsz
   show zfT (zcm fuel) (zbD fuel) x=_
   unfold zfT
   have h:=zsz 80 x.Values (by omega) (fun i a=>zer (zbD fuel) x i a) (fun a=>by
     refine znW ?_
     unfold zcf
     rw [itF (by simp)])
    (fun i hi a ha=>by
     have hm:=List.getElem_mem hi
     have s1:=zgF hm
     refine znV ?_
     unfold zcf
     rw [itT (by simp;omega),zR rfl hi,sb,ih2 _ (by omega) (zgu.1 b4 _ hm),sb,ziI (by rw [List.length_singleton];exact ha),sb,zD (by omega)];push_cast;rfl)
    x.Values.length 0 (Nat.zero_add _)
   have h':zer (zbD fuel) x 0 []=_:=h
   rw [ziI (by simp;omega),sb,h',sb,List.nil_append]
   cases x;rfl
  ·obtain ⟨_,_,_,b4,b5⟩:=(zlz v).1 hb
   rw [zkW] at hsz
   show zdU (zcm fuel) (zbD fuel) v=_
   unfold zdU
   have h:=zsz 48 v.Subs (by omega) (fun i a=>zcN (zcm fuel) v i a) (fun a=>by
     refine zlg ?_
     unfold zaS
     rw [itF (by simp)])
    (fun i hi a ha=>by
     have hm:=List.getElem_mem hi
     have s1:=zhN hm
     refine zlf ?_
     unfold zaS
     rw [itT (by simp;omega),zR rfl hi,sb,ih1 _ (by omega) (zhB.1 b5 _ hm),sb,ziI (by rw [List.length_singleton];exact ha),sb,zD (by omega)];push_cast;rfl)
    v.Subs.length 0 (Nat.zero_add _)
   have h':zcN (zcm fuel) v 0 []=_:=h
   rw [h',sb]
   cases v;rfl
theorem zqP {x:Msg} {fuel:Nat} (hf:szM x<fuel) (hb:bdM x):zcm fuel x=some x:=(zBg fuel).1 x hf hb
theorem zAd {v:Vlu} {fuel:Nat} (hf:szV v<fuel) (hb:bdV v):zbD fuel v=some v:=(zBg fuel).2 v hf hb
mutual
/-- No list is long. -/
def smM:Msg→Prop
 | ⟨vs,u⟩=>vs.length≤1048576∧(u.length≤1048576∧∀t∈u,t.length≤1048576)∧smVs vs
def smVs:List Vlu→Prop
 | []=>True
 | v::l=>smV v∧smVs l
def smV:Vlu→Prop
 | ⟨n,w,t,s⟩=>w.length≤1048576∧(t.length≤1048576∧∀x∈t,x.length≤1048576)∧s.length≤1048576∧smMs s
def smMs:List Msg→Prop
 | []=>True
 | x::l=>smM x∧smMs l
end
theorem zBQ (x:Msg):smM x↔x.Values.length≤1048576∧(x.Unknown.length≤1048576∧∀t∈x.Unknown,t.length≤1048576)∧smVs x.Values:=by cases x;simp only [smM]
theorem zBR (v:Vlu):smV v↔v.Words.length≤1048576∧(v.Texts.length≤1048576∧∀x∈v.Texts,x.length≤1048576)∧v.Subs.length≤1048576∧smMs v.Subs:=by cases v;simp only [smV]
theorem zpG:∀{l:List Vlu},smVs l↔∀v∈l,smV v
 | []=>by simp [smVs]
 | v::l=>by rw [smVs,zpG (l:=l)];simp
theorem zpF:∀{l:List Msg},smMs l↔∀v∈l,smM v
 | []=>by simp [smMs]
 | v::l=>by rw [smMs,zpF (l:=l)];simp
theorem ztg (l:List Str) (F:Int→Int→Option Int) (h0:∀n,F n (l.length:Int)=some n)
  (hs:∀(i:Nat) (h:i<l.length) (n:Int),F n (i:Int)=F (IntKind.i64.wrap (IntKind.i64.wrap (n+1)+(l[i].length:Int))) ((i+1:Nat):Int)):∀(c i:Nat) (n:Int),i+c=l.length→
  ∃r,F n (i:Int)=some r∧((∀t∈l,t.length≤1048576)→0≤n→n+1048577*c≤4611686018427387904→r=n+(((l.drop i).map fun t=>1+t.length).sum:Nat)∧r≤n+1048577*c)
 | 0,i,n,h=>by
  have hi:i=l.length:=by omega
  refine ⟨n,by rw [hi,h0],fun _ _ _=>?_⟩
  rw [hi,List.drop_length];simp
 | c+1,i,n,h=>by
  have hil:i<l.length:=by omega
  obtain ⟨r,hr,hw⟩:=ztg l F h0 hs c (i+1) (IntKind.i64.wrap (IntKind.i64.wrap (n+1)+(l[i].length:Int))) (by omega)
  refine ⟨r,by rw [hs i hil,hr],fun ht hn hc=>?_⟩
  have:=ht _ (List.getElem_mem hil)
  have e:IntKind.i64.wrap (IntKind.i64.wrap (n+1)+(l[i].length:Int))=n+1+(l[i].length:Int):=by
   rw [zD (x:=n+1) (by omega),zD (by omega)]
  rw [e] at hw
  have hd:l.drop i=l[i]::l.drop (i+1):=List.drop_eq_getElem_cons hil
  obtain ⟨w1,w2⟩:=hw ht (by omega) (by omega)
  rw [hd,List.map_cons,List.sum_cons]
  push_cast at w1⊢
  omega
theorem zsH {α:Type} (l:List α) (g:α→Int) (F:Int→Int→Option (Int⊕Unit)) (h0:∀n,F n (l.length:Int)=some (.inl n))
  (hs:∀(i:Nat) (h:i<l.length) (n:Int),F n (i:Int)=if IntKind.i64.wrap (n+g l[i])≥5000 then some (.inr ()) else F (IntKind.i64.wrap (n+g l[i])) ((i+1:Nat):Int)):∀(c i:Nat) (n:Int),i+c=l.length→
  ∃q,F n (i:Int)=some q∧((∀a∈l,0≤g a∧g a≤4398046511104)→0≤n→n≤4398046511104→∀u,q= .inl u→u=n+((l.drop i).map g).sum∧0≤u∧(u≤n∨u<5000)∧∀a∈l.drop i,g a<5000)
 | 0,i,n,h=>by
  have hi:i=l.length:=by omega
  refine ⟨.inl n,by rw [hi,h0],fun _ _ _ u hu=>?_⟩
  cases hu
  rw [hi,List.drop_length];simp
  omega
 | c+1,i,n,h=>by
  have hil:i<l.length:=by omega
  have hd:l.drop i=l[i]::l.drop (i+1):=List.drop_eq_getElem_cons hil
  rw [hs i hil]
  by_cases h5:IntKind.i64.wrap (n+g l[i])≥5000
  ·exact ⟨.inr (),by rw [if_pos h5],fun _ _ _ u hu=>by cases hu⟩
  ·obtain ⟨q,hq,hw⟩:=zsH l g F h0 hs c (i+1) (IntKind.i64.wrap (n+g l[i])) (by omega)
   refine ⟨q,by rw [if_neg h5,hq],fun hg hn hnb u hu=>?_⟩
   have hgi:=hg _ (List.getElem_mem hil)
   have e:IntKind.i64.wrap (n+g l[i])=n+g l[i]:=by rw [zD (by omega)]
   rw [e] at hw h5
   obtain ⟨w1,w2,w3,w4⟩:=hw hg (by omega) (by omega) u hu
   rw [hd,List.map_cons,List.sum_cons]
   refine ⟨by omega,w2,by omega,fun a ha=>?_⟩
   rcases List.mem_cons.1 ha with rfl| ha
   ·omega
   ·exact w4 a ha
theorem zBP:∀(fuel:Nat),(∀(x:Msg) (d:Int),szM x<fuel→bdM x→ -1≤d→d≤1048576→∃r,zbL fuel x d=some r∧(smM x→0≤r∧r≤4398046511104∧(r<5000→r=wgM x∧(dM x:Int)≤d)))∧
  ∀(v:Vlu) (d:Int),szV v<fuel→bdV v→0≤d→d≤1048576→∃r,zbA fuel v d=some r∧(smV v→0≤r∧r≤4398046511104∧(r<5000→r=wgV v∧(dV v:Int)≤d))
 | 0=>⟨fun x d h=>by omega,fun v d h=>by omega⟩
 | fuel+1=>by
  obtain ⟨ih1,ih2⟩:=zBP fuel
  refine ⟨fun x d hsz hb hd hd2=>?_,fun v d hsz hb hd hd2=>?_⟩
  ·obtain ⟨b1,⟨b2,b3⟩,b4⟩:=(zjL x).1 hb
   rw [zjw] at hsz
   show∃r,zeZ (zbL fuel) (zbA fuel) x d=some r∧_
   unfold zeZ
   by_cases hneg:d<0
   ·exact ⟨5000,by rw [itT (by simpa using hneg)],fun _=>⟨by omega,by omega,fun h=>by omega⟩⟩
   rw [itF (by simpa using hneg)]
   obtain ⟨n,hn,hnw⟩:=ztg x.Unknown (fun n i=>zds x n i) (fun n=>by
     refine zmE ?_
     unfold zbE
     rw [itF (by simp)])
    (fun i hi n=>by
     refine zmD ?_
     unfold zbE
     have hw1:IntKind.i64.wrap ((i:Int)+1)=((i+1:Nat):Int):=by rw [zD (by omega)];push_cast;rfl
     rw [itT (by simp;omega),zR rfl hi,sb,hw1]) x.Unknown.length 0 1 (Nat.zero_add _)
   have hn':zds x 1 0=some n:=hn
   have hgg:∀v∈x.Values,∃r,zbA fuel v d=some r∧(smV v→0≤r∧r≤4398046511104∧(r<5000→r=wgV v∧(dV v:Int)≤d)):=fun v hv=>by
    have:=zgF hv
    exact ih2 v d (by omega) (zgu.1 b4 _ hv) (by omega) hd2
   obtain ⟨q,hq,hqw⟩:=zsH x.Values (fun v=>(zbA fuel v d).getD 0) (fun n i=>zdt d (zbA fuel) x n i) (fun n=>by
     refine ziq ?_
     unfold zbg
     rw [itF (by simp)])
    (fun i hi n=>by
     obtain ⟨r,hr,_⟩:=hgg _ (List.getElem_mem hi)
     have hw1:IntKind.i64.wrap ((i:Int)+1)=((i+1:Nat):Int):=by rw [zD (by omega)];push_cast;rfl
     simp only [hr,Option.getD_some]
     split
     ·rename_i h5
      refine ziq ?_
      unfold zbg
      rw [itT (by simp;omega),zR rfl hi,sb,hr,sb,itT (by simpa using h5)]
     ·rename_i h5
      refine zmF ?_
      unfold zbg
      rw [itT (by simp;omega),zR rfl hi,sb,hr,sb,itF (by simpa using h5),hw1]) x.Values.length 0 n (Nat.zero_add _)
   have hq':zdt d (zbA fuel) x n 0=some q:=hq
   rw [hn',sb,hq',sb]
   cases q with
   | inr u=>exact ⟨5000,rfl,fun _=>⟨by omega,by omega,fun h=>by omega⟩⟩
   | inl u=>
    refine ⟨u,rfl,fun hsm=>?_⟩
    obtain ⟨s1,⟨s2,s3⟩,s4⟩:=(zBQ x).1 hsm
    obtain ⟨n1,n2⟩:=hnw s3 (by omega) (by omega)
    rw [List.drop_zero] at n1
    obtain ⟨u1,u2,u3,u4⟩:=hqw (fun v hv=>by
     obtain ⟨r,hr,hrw⟩:=hgg v hv
     have:=hrw (zpG.1 s4 v hv)
     simp only [hr,Option.getD_some]
     exact ⟨this.1,this.2.1⟩) (by omega) (by omega) u rfl
    rw [List.drop_zero] at u1 u4
    refine ⟨u2,by omega,fun _=>?_⟩
    have hall:∀l:List Vlu,(∀v∈l,v∈x.Values)→(l.map fun v=>(zbA fuel v d).getD 0).sum=(wgVs l:Int)∧(dVs l:Int)≤d:=by
     intro l
     induction l with
     | nil=>intro _;simp [wgVs,dVs];omega
     | cons v l ih=>
      intro hl
      have hv:=hl v List.mem_cons_self
      obtain ⟨r,hr,hrw⟩:=hgg v hv
      obtain ⟨_,_,hr3⟩:=hrw (zpG.1 s4 v hv)
      have h5:=u4 v hv
      simp only [hr,Option.getD_some] at h5
      obtain ⟨e1,e2⟩:=hr3 h5
      obtain ⟨i1,i2⟩:=ih fun w hw=>hl w (List.mem_cons_of_mem _ hw)
      rw [List.map_cons,List.sum_cons,i1,hr,Option.getD_some,wgVs,dVs]
      push_cast
      omega
    obtain ⟨a1,a2⟩:=hall x.Values fun v hv=>hv
    rw [zIB,zzu]
    push_cast
    refine ⟨?_,a2⟩
    push_cast at n1
    omega
  ·obtain ⟨_,⟨b1,_⟩,⟨b2,b3⟩,b4,b5⟩:=(zlz v).1 hb
   rw [zkW] at hsz
   show∃r,zdm (zbL fuel) (zbA fuel) v d=some r∧_
   unfold zdm
   rw [zD (x:=1+(v.Words.length:Int)) (by omega)]
   obtain ⟨n,hn,hnw⟩:=ztg v.Texts (fun n i=>zcx v n i) (fun n=>by
     refine zkq ?_
     unfold zaM
     rw [itF (by simp)])
    (fun i hi n=>by
     refine zkp ?_
     unfold zaM
     have hw1:IntKind.i64.wrap ((i:Int)+1)=((i+1:Nat):Int):=by rw [zD (by omega)];push_cast;rfl
     rw [itT (by simp;omega),zR rfl hi,sb,hw1]) v.Texts.length 0 (1+(v.Words.length:Int)) (Nat.zero_add _)
   have hn':zcx v (1+(v.Words.length:Int)) 0=some n:=hn
   have hgg:∀x∈v.Subs,∃r,zbL fuel x (d - 1)=some r∧(smM x→0≤r∧r≤4398046511104∧(r<5000→r=wgM x∧(dM x:Int)≤d - 1)):=fun x hx=>by
    have:=zhN hx
    exact ih1 x (d - 1) (by omega) (zhB.1 b5 _ hx) (by omega) (by omega)
   have hd1:IntKind.i64.wrap (d - 1)=d - 1:=by rw [zD (by omega)]
   obtain ⟨q,hq,hqw⟩:=zsH v.Subs (fun x=>(zbL fuel x (d - 1)).getD 0) (fun n i=>zcy d (zbL fuel) v n i) (fun n=>by
     refine zgN ?_
     unfold zaz
     rw [itF (by simp)])
    (fun i hi n=>by
     obtain ⟨r,hr,_⟩:=hgg _ (List.getElem_mem hi)
     have hw1:IntKind.i64.wrap ((i:Int)+1)=((i+1:Nat):Int):=by rw [zD (by omega)];push_cast;rfl
     simp only [hr,Option.getD_some]
     split
     ·rename_i h5
      refine zgN ?_
      unfold zaz
      rw [itT (by simp;omega),zR rfl hi,sb,hd1,hr,sb,itT (by simpa using h5)]
     ·rename_i h5
      refine zkr ?_
      unfold zaz
      rw [itT (by simp;omega),zR rfl hi,sb,hd1,hr,sb,itF (by simpa using h5),hw1]) v.Subs.length 0 n (Nat.zero_add _)
   have hq':zcy d (zbL fuel) v n 0=some q:=hq
   rw [hn',sb,hq',sb]
   cases q with
   | inr u=>exact ⟨5000,rfl,fun _=>⟨by omega,by omega,fun h=>by omega⟩⟩
   | inl u=>
    refine ⟨u,rfl,fun hsm=>?_⟩
    obtain ⟨s1,⟨s2,s3⟩,s5,s4⟩:=(zBR v).1 hsm
    obtain ⟨n1,n2⟩:=hnw s3 (by omega) (by omega)
    rw [List.drop_zero] at n1
    obtain ⟨u1,u2,u3,u4⟩:=hqw (fun x hx=>by
     obtain ⟨r,hr,hrw⟩:=hgg x hx
     have:=hrw (zpF.1 s4 x hx)
     simp only [hr,Option.getD_some]
     exact ⟨this.1,this.2.1⟩) (by omega) (by omega) u rfl
    rw [List.drop_zero] at u1 u4
    refine ⟨u2,by omega,fun _=>?_⟩
    have hall:∀l:List Msg,(∀x∈l,x∈v.Subs)→(l.map fun x=>(zbL fuel x (d - 1)).getD 0).sum=(wgMs l:Int)∧(dMs l:Int)≤d:=by
     intro l
     induction l with
     | nil=>intro _;simp [wgMs,dMs];omega
     | cons x l ih=>
      intro hl
      have hx:=hl x List.mem_cons_self
      obtain ⟨r,hr,hrw⟩:=hgg x hx
      obtain ⟨_,_,hr3⟩:=hrw (zpF.1 s4 x hx)
      have h5:=u4 x hx
      simp only [hr,Option.getD_some] at h5
      obtain ⟨e1,e2⟩:=hr3 h5
      obtain ⟨i1,i2⟩:=ih fun w hw=>hl w (List.mem_cons_of_mem _ hw)
      rw [List.map_cons,List.sum_cons,i1,hr,Option.getD_some,wgMs,dMs]
      push_cast
      omega
    obtain ⟨a1,a2⟩:=hall v.Subs fun v hv=>hv
    rw [zIC,zzw]
    push_cast
    refine ⟨?_,a2⟩
    push_cast at n1
    omega
def zFY (s:List Mes):Nat→znj
 | 0=>none
 | e+1=>some (zaT s e)
theorem zqN (s:List Mes) (d:Nat) (k:Int) (b:List UInt8):zaT s d k b=zen (zaq s k) (zFY s d) b (spl 0 b):=by cases d<;>rfl
theorem zzD (s:List Mes) (d:Nat) (k:Int):zaT s d k []=none:=by rw [zqN,zhX];rfl
def vwG (m:Mes) (r:Rec):Int×Bool:=match vw m r.Number r.Wire with
 | .inl _=>(-1,false)
 | .inr p=>p
def thR (m:Mes) (b:List UInt8) (r:Rec):Th:=⟨(vwG m r).1,(vwG m r).2,valB b r,rawB b r⟩
theorem zGl {m:Mes}:∀{l:List Rec},(∀r∈l,∃p,vw m r.Number r.Wire= .inr p)→vws m none l=(l.map fun r=>⟨r,(vwG m r).1,(vwG m r).2⟩,none)
 | [],_=>rfl
 | r::l,h=>by
  obtain ⟨p,hp⟩:=h r List.mem_cons_self
  rw [vws,hp,zGl fun x hx=>h x (List.mem_cons_of_mem _ hx)]
  simp only [List.map_cons,vwG,hp]
theorem zHk {m:Mes} {sub:znj} {b:List UInt8} {r:Rec} (h:zeX m sub b r=none):∃p,vw m r.Number r.Wire= .inr p:=by
 unfold zeX at h
 cases hv:vw m r.Number r.Wire with
 | inl c=>rw [hv] at h;cases h
 | inr p=>exact ⟨p,rfl⟩
theorem zIx {s:List Mes} {d:Nat} {k:Int} {b:List UInt8} (h:zaT s d k b=none):ths (zaq s k) b=(spl 0 b).1.map (thR (zaq s k) b):=by
 rw [zqN,zhf] at h
 unfold ths zgr
 rw [h.2,zGl fun r hr=>zHk (h.1 r hr)]
 unfold vwR
 simp only [List.map_map]
 rfl
structure OkT (s:List Mes) (d:Nat) (m:Mes) (t:Th):Prop where
 fi:t.fi= -1∨0≤t.fi∧t.fi<m.Fields.length
 unk:t.fi<0→unkR m t.raw=true
 run:0≤t.fi→t.run=true→kNum (zaE m t.fi).Kind=true∧(zaE m t.fi).Repeated=true∧(zos (zaE m t.fi).Kind t.val).2=0
 one:0≤t.fi→t.run=false→zcM (zaE m t.fi).Kind=true∧zie (zfe (zaE m t.fi).Kind) t.val=true∧((zaE m t.fi).Kind=15→zgB t.val=true)∧((zaE m t.fi).Kind=17→∃e,d=e+1∧zaT s e (zaE m t.fi).Of t.val=none)
theorem zJf {s:List Mes} {d:Nat} {k:Int} {b:List UInt8} (h:zaT s d k b=none):∀t∈ths (zaq s k) b,OkT s d (zaq s k) t:=by
 intro t ht
 rw [zIx h] at ht
 obtain ⟨r,hr,rfl⟩:=List.mem_map.1 ht
 obtain ⟨n,w,f,a,u,hre,hrec,h1,h2,h3⟩:=zHj b 0 b rfl (Nat.zero_le _) r hr
 rw [zqN,zhf] at h
 have hs:=h.1 r hr
 generalize zaq s k=m at hs⊢
 have hraw:rawB b r=(b.drop f).take u:=by
  unfold rawB;rw [hre];simp only [Int.toNat_natCast]
  rw [show f+u - f=u by omega]
 have hval:valB b r=((b.drop f).drop a).take (u - a):=by
  unfold valB;rw [hre];simp only [Int.toNat_natCast]
  rw [List.drop_drop,show f+u - (f+a)=u - a by omega]
 have hfit:=(zBF hrec).1
 have hn:r.Number=n:=by rw [hre]
 have hw:r.Wire=w:=by rw [hre]
 have hrl:((b.drop f).take u).length=u:=by simp;omega
 have hnx:zfC ((b.drop f).take u) 0=(⟨n,w,0,0+(a:Int),0+(u:Int)⟩,0):=by
  unfold zfC
  rw [if_neg (by rw [hrl];omega)]
  simp only [Int.toNat_zero,List.drop_zero,zDQ hrec]
 unfold zeX at hs
 rcases zhS m r.Number r.Wire with hv| ⟨hv,hf⟩| ⟨i,run,hv,hfi,hi⟩
 ·rw [hv] at hs;cases hs
 ·have e:vwG m r=(-1,false):=by unfold vwG;rw [hv]
  refine ⟨.inl (by simp only [thR,e]),fun _=>?_,fun hh=>by simp only [thR,e] at hh;omega,fun hh=>by simp only [thR,e] at hh;omega⟩
  simp only [thR,hraw]
  unfold unkR
  rw [hnx,hrl]
  simp only [beq_self_eq_true,Bool.true_and,Int.zero_add]
  rw [←hn,hf];rfl
 ·have e:vwG m r=((i:Int),run):=by unfold vwG;rw [hv]
  rw [hv] at hs
  simp only at hs
  rw [if_neg (by omega)] at hs
  refine ⟨.inr (by simp only [thR,e];omega),fun hh=>by simp only [thR,e] at hh;omega,fun _ hrn=>?_,fun _ hrn=>?_⟩
  ·simp only [thR,e] at hrn⊢
   subst hrn
   obtain ⟨v1,v2,_⟩:=zCh hv
   refine ⟨v1,v2,?_⟩
   unfold zmZ at hs
   rw [if_pos rfl] at hs
   by_cases he:(zos (zaE m i).Kind (valB b r)).2=0
   ·exact he
   ·rw [if_pos he] at hs;cases hs
  ·simp only [thR,e] at hrn⊢
   subst hrn
   have hk:zcM (zaE m i).Kind=true∧zfe (zaE m i).Kind=r.Wire:=by
    unfold vw at hv
    rw [hfi] at hv
    split at hv
    ·cases hv
    ·split at hv
     ·cases hv
     ·split at hv
      ·cases hv
      ·rename_i h4
       cases hr:zcM (zaE m i).Kind with
       | false=>exact absurd (.inl hr) h4
       | true=>exact ⟨rfl,by by_cases hq:zfe (zaE m i).Kind=r.Wire;exact hq;exact absurd (.inr hq) h4⟩
   refine ⟨hk.1,by rw [hk.2,hw,hval];exact hfit,fun h15=>?_,fun h17=>?_⟩
   ·unfold zmZ at hs
    rw [if_neg (by simp)] at hs
    cases hr4:zgB (valB b r) with
    | true=>rfl
    | false=>rw [if_pos ⟨h15,hr4⟩] at hs;cases hs
   ·unfold zmZ at hs
    rw [if_neg (by simp),if_neg (by omega),if_pos h17] at hs
    cases d with
    | zero=>simp only [zFY] at hs;cases hs
    | succ e=>
     simp only [zFY] at hs
     refine ⟨e,rfl,?_⟩
     cases hg:zaT s e (zaE m i).Of (valB b r) with
     | none=>rfl
     | some q=>rw [hg] at hs;cases hs
structure zJl (s:List Mes) (d:Nat) (f:Fld) (a:zji):Prop where
 words:∀w∈a.2.2.1,znU f w=true
 texts:∀t∈a.2.2.2.1,zmz f t=true
 numT:kNum f.Kind=true→a.2.2.2.1=[]
 subs:∀x∈a.2.2.2.2,f.Kind=17∧zgC s x f.Of=true∧1+dM x≤d
 join:f.Kind=17→∀e,d=e+1→zaT s e f.Of a.1=none
 met:a.2.1=true→f.Kind=17→∃e,d=e+1
 one:f.Repeated=false→a.2.2.1.length≤1∧a.2.2.2.1.length≤1∧a.2.2.2.2=[]
theorem zvb (m:Mes) (i:Int):zlH m i=(zaE m i).Number:=rfl
theorem zFy {s:List Mes} (hs:zkR s) {m:Mes} (hm:m∈s) {i j:Nat} (hi:i<m.Fields.length) (hj:j<m.Fields.length) (h:m.Fields[i].Number=m.Fields[j].Number):i=j:=by
 rcases Nat.lt_trichotomy i j with hlt| h'| hlt
 ·exact absurd h (hs.nums m hm i j _ _ hlt (List.getElem?_eq_getElem hi) (List.getElem?_eq_getElem hj)).1
 ·exact h'
 ·exact absurd h.symm (hs.nums m hm j i _ _ hlt (List.getElem?_eq_getElem hj) (List.getElem?_eq_getElem hi)).1
theorem zyk {s:List Mes} (hs:zkR s) {m:Mes} (hm:m∈s) {i:Int} (h0:0≤i) (hi:i<m.Fields.length):fldI m (zaE m i).Number=i:=by
 obtain ⟨n,rfl⟩:∃n:Nat,i=n:=⟨i.toNat,by omega⟩
 have hn:n<m.Fields.length:=by omega
 rw [zhG hn]
 rcases zlE m m.Fields[n].Number with ⟨_,h⟩| ⟨j,hj,h,hjn,_⟩
 ·exact absurd rfl (h _ (List.getElem_mem hn))
 ·rw [h,zFy hs hm hj hn hjn]
theorem zyN {s:List Mes} (hs:zkR s) {m:Mes} (hm:m∈s):(ziA (zlH m) m.Fields.length).Pairwise fun a b=>zlH m a<zlH m b:=by
 refine (zsa (zlH m) m.Fields.length).imp_of_mem fun {a b} ha hb h=>?_
 rcases h with h| ⟨h,hlt⟩
 ·exact h
 ·exfalso
  obtain ⟨a0,a1⟩:=zka.1 ha
  obtain ⟨b0,b1⟩:=zka.1 hb
  rw [zvb,zvb] at h
  have:=zyk hs hm a0 a1
  rw [h,zyk hs hm b0 b1] at this
  omega
theorem zHU {n:Int} (h: -9223372036854775808≤n∧n≤9223372036854775807):(Lit.int .i64 n).wf=true:=by
 simpa [Lit.wf,IntKind.min,IntKind.max,IntKind.bits,IntKind.signed] using h
structure zJk (a:zji):Prop where
 words:∀w∈a.2.2.1,0≤w∧w≤18446744073709551615
 texts:∀t∈a.2.2.2.1,t.length≤1048576
 subs:∀x∈a.2.2.2.2,bdM x∧smM x
end Go.Proofs.YtcbkcblkecmjnaaGreat
namespace Go.Proofs.YtcbkcblkecmjnaaGreat
open Go
set_option linter.unusedVariables false
def splF:Nat→Nat→List UInt8→List Rec×Option (Nat×Int)
 | 0,_,_=>([],none)
 | n+1,base,l=>match l with
  | []=>([],none)
  | x::r=>match rec5 (x::r) with
   | .inl c=>([],some (base,c))
   | .inr (m,w,a,t)=>(⟨m,w,(base:Int),((base+a:Nat):Int),((base+t:Nat):Int)⟩::(splF n (base+t) ((x::r).drop t)).1,(splF n (base+t) ((x::r).drop t)).2)
theorem zFS (base:Nat) (l:List UInt8):∀n,l.length<n→spl base l=splF n base l:=by
 refine zjv (fun base l=>∀n,l.length<n→spl base l=splF n base l) ?_ ?_ ?_ base l
 ·intro base n hn
  obtain ⟨n,rfl⟩:∃m,n=m+1:=⟨n - 1,by omega⟩
  rw [zhX];rfl
 ·intro base l c hl h _ n hn
  obtain ⟨n,rfl⟩:∃m,n=m+1:=⟨n - 1,by omega⟩
  rw [ziH hl h]
  cases l with
  | nil=>exact absurd rfl hl
  | cons x r=>simp only [splF,h]
 ·intro base l m w a t hl h _ g1 g2 g3 ih n hn
  obtain ⟨n,rfl⟩:∃m,n=m+1:=⟨n - 1,by omega⟩
  rw [zgg hl h,ih n (by simp;omega)]
  cases l with
  | nil=>exact absurd rfl hl
  | cons x r=>simp only [splF,h]
theorem zyP (l:List UInt8):spl 0 l=splF (l.length+1) 0 l:=zFS 0 l _ (Nat.lt_succ_self _)
theorem zDk (m:Mes) (b:List UInt8):zgr m b=vwR (vws m (splF (b.length+1) 0 b).2 (splF (b.length+1) 0 b).1):=by unfold zgr;rw [zyP]
theorem zHn (m:Mes) (b:List UInt8):ths m b=(vwR (vws m (splF (b.length+1) 0 b).2 (splF (b.length+1) 0 b).1)).1.map (thOf b):=by unfold ths;rw [zDk]
def zyf (s:List Mes):Nat→Int→List UInt8→Option (Int×Int)
 | 0,k,b=>zen (zaq s k) none b (splF (b.length+1) 0 b)
 | d+1,k,b=>zen (zaq s k) (some (zyf s d)) b (splF (b.length+1) 0 b)
theorem zsF (s:List Mes):∀(d:Nat),zaT s d=zyf s d
 | 0=>by funext k b;simp only [zaT,zyf,zyP]
 | d+1=>by funext k b;simp only [zaT,zyf,zyP,zsF s d]
def ofF (s:List Mes):Nat→Int→List UInt8→Msg
 | 0,_,_=>⟨[],[]⟩
 | n+1,k,b=>zxi (ofF s n) (zaq s k) ((vwR (vws (zaq s k) (splF (b.length+1) 0 b).2 (splF (b.length+1) 0 b).1)).1.map (thOf b))
theorem zFA (s:List Mes):∀(n:Nat),ofN s n=ofF s n
 | 0=>by funext k b;simp only [ofN,ofF]
 | n+1=>by funext k b;simp only [ofN,ofF,zHn,zFA s n]
theorem zCM (s:List Mes) (k:Int) (b:List UInt8):ofM s k b=ofF s (b.length+1) k b:=by unfold ofM;rw [zFA]
end Go.Proofs.YtcbkcblkecmjnaaGreat
namespace Go.Proofs.YtcbkcblkecmjnaaGreat
open Go
set_option linter.unusedVariables false
structure zJm (s:List Mes) (v:Vlu) (f:Fld):Prop where
 many:0<zix v
 one:f.Repeated=false→zix v=1
 kind:zcM f.Kind=true
 words:∀w∈v.Words,znU f w=true
 texts:∀t∈v.Texts,zmz f t=true
 subs:∀x∈v.Subs,f.Kind=17∧zgC s x f.Of=true
end Go.Proofs.YtcbkcblkecmjnaaGreat
namespace Go.Proofs.YtcbkcblkecmjnaaGreat
open Go
set_option linter.unusedVariables false
def zCa (s:List Mes) (root:Int) (b:List UInt8) (d:Int):Msg×Int:=if (zhv s root b d).2≠0 then (⟨[],[]⟩,(zhv s root b d).2) else (ofM s root b,0)
def zkT (x:Msg) (n:Int):Vlu×Bool:=if getM x n<0 then (⟨0,[],[],[]⟩,false) else (x.Values.getD (getM x n).toNat ⟨0,[],[],[]⟩,true)
theorem zGD (x:Msg) (n:Int):getM x n= -1∨∃(j:Nat) (h:j<x.Values.length),getM x n=j:=by
 unfold getM
 cases h:x.Values.findIdx? (fun v:Vlu=>v.Number==n) with
 | none=>exact .inl (zhE h)
 | some j=>exact .inr ⟨j,(List.findIdx?_eq_some_iff_getElem.1 h).1,zhF h⟩
theorem zxT {s:List Mes} {root:Int} {b:List UInt8} {d:Int} (h:(zhv s root b d).2=0):argS s root d=0:=by
 unfold zhv at h
 by_cases h0:argS s root d=0
 ·exact h0
 ·rw [if_pos h0] at h;exact h
end Go.Proofs.YtcbkcblkecmjnaaGreat
namespace Go.Proofs.YtcbkcblkecmjnaaGreat
open Go
set_option linter.unusedVariables false
theorem zDb:∀(fuel:Nat) (x:Msg) (most:Nat),szM x<fuel→bdM x→dM x≤most→most≤1048576→zgq fuel x most=some ((dM x:Nat):Int)
 | 0,x,_,h,_,_,_=>by omega
 | fuel+1,x,most,hs,hb,hd,hm=>by
  obtain ⟨b1,_,b4⟩:=(zjL x).1 hb
  rw [zjw] at hs
  rw [zzu] at hd⊢
  show zjy (zgq fuel) x most=_
  unfold zjy
  have inner:∀(v:Vlu),v∈x.Values→∀(c i d:Nat),i+c=v.Subs.length→d≤most→zhm most (zgq fuel) v d i=some (.inl ((max d (dMs (v.Subs.drop i)):Nat):Int)):=by
   intro v hv c
   have hsz:=zgF hv
   have hdv:=zru hv
   obtain ⟨_,_,_,c1,c2⟩:=(zlz _).1 (zgu.1 b4 _ hv)
   rw [zkW] at hsz
   rw [zzw] at hdv
   induction c with
   | zero=>
    intro i d hi hdm
    have e:v.Subs.drop i=[]:=List.drop_eq_nil_of_le (by omega)
    rw [e,dMs]
    refine zsg ?_
    unfold zdP
    rw [itF (by simp;omega),Nat.max_zero]
   | succ c ih=>
    intro i d hi hdm
    have hil:i<v.Subs.length:=by omega
    have hm2:=List.getElem_mem hil
    have s2:=zhN hm2
    have d2:=zxZ hm2
    rw [List.drop_eq_getElem_cons hil,dMs]
    have hr:=zDb fuel v.Subs[i] (most - 1) (by omega) (zhB.1 c2 _ hm2) (by omega) (by omega)
    have hmost:IntKind.i64.wrap ((most:Int) - 1)=((most - 1:Nat):Int):=by rw [zD (by omega)];omega
    have hw:IntKind.i64.wrap (1+((dM v.Subs[i]:Nat):Int))=1+((dM v.Subs[i]:Nat):Int):=by rw [zD (by omega)]
    have hmax:(if (d:Int)<1+((dM v.Subs[i]:Nat):Int) then 1+((dM v.Subs[i]:Nat):Int) else (d:Int))=((max d (1+dM v.Subs[i]):Nat):Int):=by
     split<;>omega
    refine (zsf (deep3':=((max d (1+dM v.Subs[i]):Nat):Int)) (v3':=((i+1:Nat):Int)) ?_).trans ?_
    ·unfold zdP
     rw [itT (by simp;omega),zR rfl hil,sb,itF (by simp;omega),hmost,hr,sb,hw,hmax,itF (by simp;omega),zD (by omega)]
     push_cast;rfl
    ·rw [ih (i+1) (max d (1+dM v.Subs[i])) (by omega) (by omega)]
     congr 3
     omega
  have outer:∀(c i d:Nat),i+c=x.Values.length→d≤most→zhl most (zgq fuel) x d i=some (.inl ((max d (dVs (x.Values.drop i)):Nat):Int)):=by
   intro c
   induction c with
   | zero=>
    intro i d hi hdm
    have e:x.Values.drop i=[]:=List.drop_eq_nil_of_le (by omega)
    rw [e,dVs]
    refine zse ?_
    unfold zdO
    rw [itF (by simp;omega),Nat.max_zero]
   | succ c ih=>
    intro i d hi hdm
    have hil:i<x.Values.length:=by omega
    have hmem:=List.getElem_mem hil
    have hdv:=zru hmem
    rw [List.drop_eq_getElem_cons hil,dVs]
    have h2:=inner x.Values[i] hmem (x.Values[i]).Subs.length 0 d (Nat.zero_add _) hdm
    rw [List.drop_zero,←zzw] at h2
    have h2':zhm most (zgq fuel) x.Values[i] d 0=_:=h2
    refine (zsd (deep':=((max d (dV x.Values[i]):Nat):Int)) (v':=((i+1:Nat):Int)) ?_).trans ?_
    ·unfold zdO
     rw [itT (by simp;omega),zR rfl hil,sb,h2',sb,zD (by omega)]
     push_cast;rfl
    ·rw [ih (i+1) (max d (dV x.Values[i])) (by omega) (by omega)]
     congr 3
     omega
  have h:=outer x.Values.length 0 0 (Nat.zero_add _) (Nat.zero_le _)
  have h':zhl most (zgq fuel) x 0 0=_:=h
  rw [h',sb,List.drop_zero,Nat.zero_max]
theorem zxA {fuel:Nat} {x:Msg} (hf:szM x<fuel) (hb:bdM x) (hd:dM x≤131072):ziN fuel x=some ((dM x:Nat):Int):=by
 unfold ziN
 have h:=zDb fuel x 131072 hf hb hd (by omega)
 have h':zgq fuel x 131072=_:=h
 rw [h',sb]
theorem zvP {fuel:Nat} {x:Msg} (hf:szM x<fuel) (hb:bdM x) (hd:dM x≤131072):zkd fuel x=some true:=by
 unfold zkd
 rw [zxA hf hb hd,sb]
 congr 1
 simp;omega
theorem zDq {a b:List Int} (ha:a.length≤1152921504606846976):zcw a b=some (decide (a=b)):=by
 unfold zcw
 by_cases hl:a.length=b.length
 ·rw [itF (by simp [hl])]
  have h:=zgZ a b (fun i=>zbo a b i) hl (by
    refine zfh ?_
    unfold zak
    rw [itF (by simp)])
   (fun i hi hi'=>by
    by_cases hp:a[i]=b[i]
    ·rw [if_pos hp]
     refine zio ?_
     unfold zak
     rw [itT (by simp;omega),zR rfl hi,sb,zR rfl hi',sb,itF (by simp [hp]),zD (by omega)];push_cast;rfl
    ·rw [if_neg hp]
     refine zfh ?_
     unfold zak
     rw [itT (by simp;omega),zR rfl hi,sb,zR rfl hi',sb,itT (by simp [hp])])
   a.length 0 (by omega)
  have h':zbo a b 0=_:=h
  rw [h',sb]
  simp only [List.drop_zero]
  by_cases e:a=b
  ·rw [if_pos e];simp [e]
  ·rw [if_neg e];simp [e]
 ·rw [itT (by simp;omega)]
  have:a≠b:=fun e=>hl (by rw [e])
  simp [this]
theorem zwT {a b:List Str} (ha:a.length≤1152921504606846976):zbQ a b=some (decide (a=b)):=by
 unfold zbQ
 by_cases hl:a.length=b.length
 ·rw [itF (by simp [hl])]
  have h:=zgZ a b (fun i=>zbn a b i) hl (by
    refine zfg ?_
    unfold zaj
    rw [itF (by simp)])
   (fun i hi hi'=>by
    by_cases hp:a[i]=b[i]
    ·rw [if_pos hp]
     refine zin ?_
     unfold zaj
     rw [itT (by simp;omega),zR rfl hi,sb,zR rfl hi',sb,itF (by simp [hp]),zD (by omega)];push_cast;rfl
    ·rw [if_neg hp]
     refine zfg ?_
     unfold zaj
     rw [itT (by simp;omega),zR rfl hi,sb,zR rfl hi',sb,itT (by simp [hp])])
   a.length 0 (by omega)
  have h':zbn a b 0=_:=h
  rw [h',sb]
  simp only [List.drop_zero]
  by_cases e:a=b
  ·rw [if_pos e];simp [e]
  ·rw [if_neg e];simp [e]
 ·rw [itT (by simp;omega)]
  have:a≠b:=fun e=>hl (by rw [e])
  simp [this]
section
open Classical
theorem zeQ {α:Type} {x y:α} (h:x≠y):zgT x y=false:=by
 cases hq:zgT x y with
 | false=>rfl
 | true=>exact absurd (zcH.1 hq) h
theorem zDc:∀(fuel:Nat),(∀x y:Msg,2*szM x<fuel→bdM x→zgJ fuel x y=some (zgT x y))∧(∀v u:Vlu,2*szV v<fuel→bdV v→zec fuel v u=some (zgT v u))∧
  (∀a b:List Vlu,2*szVs a+1<fuel→a.length≤1152921504606846976→bdVs a→zP fuel a b=some (zgT a b))∧
  ∀a b:List Msg,2*szMs a+1<fuel→a.length≤1152921504606846976→bdMs a→zV fuel a b=some (zgT a b)
 | 0=>⟨fun x y h=>by omega,fun v u h=>by omega,fun a b h=>by omega,fun a b h=>by omega⟩
 | fuel+1=>by
  obtain ⟨ih1,ih2,ih3,ih4⟩:=zDc fuel
  refine ⟨fun x y hs hb=>?_,fun v u hs hb=>?_,fun a b hs hl hb=>?_,fun a b hs hl hb=>?_⟩
  ·obtain ⟨b1,⟨b2,b3⟩,b4⟩:=(zjL x).1 hb
   rw [zjw] at hs
   show zkN (zgJ fuel) (zec fuel) (zP fuel) (zV fuel) x y=_
   unfold zkN
   rw [ih3 x.Values y.Values (by omega) (by omega) b4,sb]
   by_cases e1:x.Values=y.Values
   ·rw [zcH.2 e1,itT (by rfl),zwT (by omega),sb,sb]
    by_cases e2:x.Unknown=y.Unknown
    ·rw [decide_eq_true e2,zcH.2 (by cases x;cases y;simp only at e1 e2;rw [e1,e2])]
    ·rw [decide_eq_false e2,zeQ fun e=>e2 (by rw [e])]
   ·rw [zeQ e1,itF (by rfl),sb,zeQ fun e=>e1 (by rw [e])]
  ·obtain ⟨b0,⟨b1,_⟩,⟨b2,b3⟩,b4,b5⟩:=(zlz v).1 hb
   rw [zkW] at hs
   show zgK (zgJ fuel) (zec fuel) (zP fuel) (zV fuel) v u=_
   unfold zgK
   by_cases e0:v.Number=u.Number
   ·rw [itT (by simp [e0]),zDq (by omega),sb]
    by_cases e1:v.Words=u.Words
    ·rw [itT (by simp [e1]),zwT (by omega),sb]
     by_cases e2:v.Texts=u.Texts
     ·rw [itT (by simp [e2]),ih4 v.Subs u.Subs (by omega) (by omega) b5,sb,sb]
      by_cases e3:v.Subs=u.Subs
      ·rw [zcH.2 e3,zcH.2 (by cases v;cases u;simp only at e0 e1 e2 e3;rw [e0,e1,e2,e3])]
      ·rw [zeQ e3,zeQ fun e=>e3 (by rw [e])]
     ·rw [itF (by simp [e2]),sb,zeQ fun e=>e2 (by rw [e])]
    ·rw [itF (by simp [e1]),sb,zeQ fun e=>e1 (by rw [e])]
   ·rw [itF (by simp [e0]),sb,zeQ fun e=>e0 (by rw [e])]
  ·show zT (zgJ fuel) (zec fuel) (zP fuel) (zV fuel) a b=_
   unfold zT
   by_cases hll:a.length=b.length
   ·rw [itF (by simp [hll])]
    have hv:∀(i:Nat) (hi:i<a.length) (hi':i<b.length),zec fuel a[i] b[i]=some (zgT a[i] b[i]):=fun i hi hi'=>by
     have hm:=List.getElem_mem hi
     have:=zgF hm
     exact ih2 _ _ (by omega) (zgu.1 hb _ hm)
    have h:=zgZ a b (fun i=>zM (zec fuel) a b i) hll (by
      refine zaK ?_
      unfold zy
      rw [itF (by simp)])
     (fun i hi hi'=>by
      by_cases hp:a[i]=b[i]
      ·rw [if_pos hp]
       refine zcl ?_
       unfold zy
       rw [itT (by simp;omega),zR rfl hi,sb,zR rfl hi',sb,hv i hi hi',sb,itF (by rw [zcH.2 hp];rfl),zD (by omega)];push_cast;rfl
      ·rw [if_neg hp]
       refine zaK ?_
       unfold zy
       rw [itT (by simp;omega),zR rfl hi,sb,zR rfl hi',sb,hv i hi hi',sb,itT (by rw [zeQ hp];rfl)])
     a.length 0 (by omega)
    have h':zM (zec fuel) a b 0=_:=h
    rw [h',sb]
    simp only [List.drop_zero]
    by_cases e:a=b
    ·rw [if_pos e,zcH.2 e]
    ·rw [if_neg e,zeQ e]
   ·rw [itT (by simp;omega),zeQ fun e=>hll (by rw [e])]
  ·show zac (zgJ fuel) (zec fuel) (zP fuel) (zV fuel) a b=_
   unfold zac
   by_cases hll:a.length=b.length
   ·rw [itF (by simp [hll])]
    have hv:∀(i:Nat) (hi:i<a.length) (hi':i<b.length),zgJ fuel a[i] b[i]=some (zgT a[i] b[i]):=fun i hi hi'=>by
     have hm:=List.getElem_mem hi
     have:=zhN hm
     exact ih1 _ _ (by omega) (zhB.1 hb _ hm)
    have h:=zgZ a b (fun i=>zU (zgJ fuel) a b i) hll (by
      refine zbc ?_
      unfold zE
      rw [itF (by simp)])
     (fun i hi hi'=>by
      by_cases hp:a[i]=b[i]
      ·rw [if_pos hp]
       refine zcO ?_
       unfold zE
       rw [itT (by simp;omega),zR rfl hi,sb,zR rfl hi',sb,hv i hi hi',sb,itF (by rw [zcH.2 hp];rfl),zD (by omega)];push_cast;rfl
      ·rw [if_neg hp]
       refine zbc ?_
       unfold zE
       rw [itT (by simp;omega),zR rfl hi,sb,zR rfl hi',sb,hv i hi hi',sb,itT (by rw [zeQ hp];rfl)])
     a.length 0 (by omega)
    have h':zU (zgJ fuel) a b 0=_:=h
    rw [h',sb]
    simp only [List.drop_zero]
    by_cases e:a=b
    ·rw [if_pos e,zcH.2 e]
    ·rw [if_neg e,zeQ e]
   ·rw [itT (by simp;omega),zeQ fun e=>hll (by rw [e])]
end
theorem zGd {fuel:Nat} {x:Msg} (y:Msg) (hf:2*szM x<fuel) (hb:bdM x) (hd:dM x≤131072):zlt fuel x y=some (zgT x y):=by
 unfold zlt
 rw [zvP (by omega) hb hd,sb,itT (by rfl),(zDc fuel).1 x y hf hb,sb,sb]
theorem zBf {a:List Vlu} (h:a.length*80≤140737488355328):zbm a=some a:=by
 unfold zbm
 have h1:(app 80 ([]:List Vlu) a>>=fun v=>some v)=some a:=by rw [ziI (by simp;omega),sb,List.nil_append]
 cases a with
 | nil=>exact zrp rfl h1
 | cons=>exact h1
theorem zBe {a:List Msg} (h:a.length*48≤140737488355328):zbW a=some a:=by
 unfold zbW
 have h1:(app 48 ([]:List Msg) a>>=fun v=>some v)=some a:=by rw [ziI (by simp;omega),sb,List.nil_append]
 cases a with
 | nil=>exact zrp rfl h1
 | cons=>exact h1
theorem zwP {a:List Str} (h:a.length*16≤140737488355328):zbN a=some a:=by
 unfold zbN
 have h1:(app 16 ([]:List Str) a>>=fun v=>some v)=some a:=by rw [ziI (by simp;omega),sb,List.nil_append]
 cases a with
 | nil=>exact zrp rfl h1
 | cons=>exact h1
theorem zDn {a:List Int} (h:a.length*8≤140737488355328):zcv a=some a:=by
 unfold zcv
 have h1:(app 8 ([]:List Int) a>>=fun v=>some v)=some a:=by rw [ziI (by simp;omega),sb,List.nil_append]
 cases a with
 | nil=>exact zrp rfl h1
 | cons=>exact h1
theorem zvH {α:Type}:∀(l:List α) (i:Nat) (h:i<l.length),l.set i l[i]=l
 | [],i,h=>by simp at h
 | x::l,0,h=>rfl
 | x::l,i+1,h=>by simp only [List.set_cons_succ,List.getElem_cons_succ];rw [zvH l i (by simpa using h)]
theorem zDa:∀(fuel:Nat),(∀x:Msg,szM x<fuel→bdM x→zgU fuel x=some x)∧∀v:Vlu,szV v<fuel→bdV v→zft fuel v=some v
 | 0=>⟨fun x h=>by omega,fun v h=>by omega⟩
 | fuel+1=>by
  obtain ⟨ih1,ih2⟩:=zDa fuel
  refine ⟨fun x hs hb=>?_,fun v hs hb=>?_⟩
  ·obtain ⟨b1,⟨b2,b3⟩,b4⟩:=(zjL x).1 hb
   rw [zjw] at hs
   show ziD (zgU fuel) (zft fuel) x=_
   unfold ziD
   have hloop:∀(c i:Nat),i+c=x.Values.length→zgH (zft fuel) x.Values x.Values i=some x.Values:=by
    intro c
    induction c with
    | zero=>
     intro i hi
     refine zrh ?_
     unfold zdq
     rw [itF (by simp;omega)]
    | succ c ih=>
     intro i hi
     have hil:i<x.Values.length:=by omega
     have hm:=List.getElem_mem hil
     have:=zgF hm
     refine (zrg (v':=x.Values) (v2':=((i+1:Nat):Int)) ?_).trans (ih (i+1) (by omega))
     unfold zdq
     rw [itT (by simp;omega),zR rfl hil,sb,ih2 _ (by omega) (zgu.1 b4 _ hm),sb,sb,zD (by omega),Int.toNat_natCast,zvH _ _ hil]
     push_cast;rfl
   have h:=hloop x.Values.length 0 (Nat.zero_add _)
   have h':zgH (zft fuel) x.Values x.Values 0=_:=h
   rw [zBf (by omega),sb,zwP (by omega),sb,h',sb]
   cases x;rfl
  ·obtain ⟨b0,⟨b1,_⟩,⟨b2,b3⟩,b4,b5⟩:=(zlz v).1 hb
   rw [zkW] at hs
   show zfG (zgU fuel) (zft fuel) v=_
   unfold zfG
   have hloop:∀(c i:Nat),i+c=v.Subs.length→zeh (zgU fuel) v.Subs v.Subs i=some v.Subs:=by
    intro c
    induction c with
    | zero=>
     intro i hi
     refine znN ?_
     unfold zbV
     rw [itF (by simp;omega)]
    | succ c ih=>
     intro i hi
     have hil:i<v.Subs.length:=by omega
     have hm:=List.getElem_mem hil
     have:=zhN hm
     refine (znM (v2':=v.Subs) (v3':=((i+1:Nat):Int)) ?_).trans (ih (i+1) (by omega))
     unfold zbV
     rw [itT (by simp;omega),zR rfl hil,sb,ih1 _ (by omega) (zhB.1 b5 _ hm),sb,sb,zD (by omega),Int.toNat_natCast,zvH _ _ hil]
     push_cast;rfl
   have h:=hloop v.Subs.length 0 (Nat.zero_add _)
   have h':zeh (zgU fuel) v.Subs v.Subs 0=_:=h
   rw [zDn (by omega),sb,zwP (by omega),sb,zBe (by omega),sb,h',sb]
   cases v;rfl
theorem zAC {fuel:Nat} {x:Msg} (hf:szM x<fuel) (hb:bdM x) (hd:dM x≤131072):ziW fuel x=some x:=by
 unfold ziW
 rw [zvP hf hb hd,sb,itF (by rfl),(zDa fuel).1 x hf hb,sb]
theorem zHm {fuel:Nat} {x:Msg} (n:Int) (hf:szM x<fuel) (hb:bdM x) (hd:dM x≤131072):zpJ fuel x n=some (zkT x n):=by
 obtain ⟨b1,⟨b2,b3⟩,b4⟩:=(zjL x).1 hb
 rw [zjw] at hf
 rw [zzu] at hd
 unfold zpJ
 have key:∀(c i:Nat),i+c=x.Values.length→ziX fuel n x i=some (match (x.Values.drop i).find? (fun v=>v.Number==n) with
   | none=> .inl ()
   | some v=> .inr (true,v.Number,v.Words,v.Texts,v.Subs)):=by
  intro c
  induction c with
  | zero=>
   intro i hi
   have e:x.Values.drop i=[]:=List.drop_eq_nil_of_le (by omega)
   rw [e]
   refine zoB ?_
   unfold zeK
   rw [itF (by simp;omega)]
   rfl
  | succ c ih=>
   intro i hi
   have hil:i<x.Values.length:=by omega
   have hm:=List.getElem_mem hil
   have s1:=zgF hm
   have d1:=zru hm
   have hbv:=zgu.1 b4 _ hm
   rw [List.drop_eq_getElem_cons hil,List.find?_cons]
   generalize hv:x.Values[i]=v at hm s1 d1 hbv⊢
   have hx:idx x.Values (i:Int)=some v:=by rw [zR rfl hil,hv]
   by_cases hp:v.Number=n
   ·have hc:ziW fuel (⟨[v],[]⟩:Msg)=some ⟨[v],[]⟩:=zAC (by rw [zjw];simp only [szVs];omega) ((zjL _).2 ⟨by simp,⟨by simp,by simp⟩,by rw [bdVs,bdVs];exact ⟨hbv,trivial⟩⟩) (by rw [zzu];simp only [dVs];omega)
    have hp':(v.Number==n)=true:=by simpa using hp
    rw [hp']
    refine zoB ?_
    unfold zeK
    rw [itT (by simp;omega),hx,sb,itT hp',hc,sb]
    rfl
   ·have hp':(v.Number==n)=false:=by simpa using hp
    rw [hp']
    refine (ztS (v':=((i+1:Nat):Int)) ?_).trans (ih (i+1) (by omega))
    unfold zeK
    rw [itT (by simp;omega),hx,sb,itF hp',zD (by omega)]
    push_cast;rfl
 have h:=key x.Values.length 0 (Nat.zero_add _)
 have h':ziX fuel n x 0=_:=h
 rw [h',sb,List.drop_zero]
 unfold zkT getM
 cases hf':x.Values.findIdx? (fun v:Vlu=>v.Number==n) with
 | none=>
  have:x.Values.find? (fun v:Vlu=>v.Number==n)=none:=by
   rw [List.findIdx?_eq_none_iff] at hf'
   rw [List.find?_eq_none]
   intro v hv
   simp [hf' v hv]
  rw [zhE hf',this,if_pos (by decide)]
 | some k=>
  rw [zhF hf',if_neg (by omega)]
  rw [List.findIdx?_eq_some_iff_getElem] at hf'
  obtain ⟨hk,hp,hlt⟩:=hf'
  have:x.Values.find? (fun v:Vlu=>v.Number==n)=some x.Values[k]:=by
   rw [List.find?_eq_some_iff_getElem]
   exact ⟨hp,k,hk,rfl,fun j hj=>by simpa using hlt j hj⟩
  rw [this]
  have e:x.Values.getD ((k:Int)).toNat ⟨0,[],[],[]⟩=x.Values[k]:=by simp [List.getD_eq_getElem?_getD,hk]
  rw [e]
  generalize x.Values[k]=v
  cases v;rfl
end Go.Proofs.YtcbkcblkecmjnaaGreat
namespace Go.Proofs.YtcbkcblkecmjnaaGreat
open Go
theorem zGW:∀a<256,zso ((a:Nat):Int)=some (if a<128 then (1,(a:Int)) else if a/32=6 then (2,((a%32:Nat):Int)) else if a/16=14 then (3,((a%16:Nat):Int)) else if a/8=30 then (4,((a%8:Nat):Int)) else (0,0)):=by decide+kernel
theorem zyM (w k:Nat) (h:k≤32):shrI .u32 (w:Int) (k:Int)=((w/2^k:Nat):Int):=zvI (k:= .u32) (a:=w) (b:=k) (by simpa [IntKind.bits] using h)
theorem zum (w:Nat):znR (w:Int)=some (if w<128 then 1 else if w<2048 then 2 else if 55296≤w∧w≤57343 then 0 else if w<65536 then 3 else if w≤1114111 then 4 else 0):=by
 unfold znR
 have e7:shrI .u32 (w:Int) 7=((w/128:Nat):Int):=zyM w 7 (by omega)
 have e11:shrI .u32 (w:Int) 11=((w/2048:Nat):Int):=zyM w 11 (by omega)
 have e16:shrI .u32 (w:Int) 16=((w/65536:Nat):Int):=zyM w 16 (by omega)
 rw [e7,e11,e16]
 by_cases h1:w<128
 ·rw [itT (by simp;omega),if_pos h1]
 ·rw [itF (by simp;omega),if_neg h1]
  by_cases h2:w<2048
  ·rw [itT (by simp;omega),if_pos h2]
  ·rw [itF (by simp;omega),if_neg h2]
   by_cases h3:55296≤w∧w≤57343
   ·rw [itT (by simp;omega),if_pos h3]
   ·rw [itF (by simp;omega),if_neg h3]
    by_cases h4:w<65536
    ·rw [itT (by simp;omega),if_pos h4]
    ·rw [itF (by simp;omega),if_neg h4]
     by_cases h5:w≤1114111
     ·rw [itT (by simp;omega),if_pos h5]
     ·rw [itF (by simp;omega),if_neg h5]
theorem zDB:∀c<256,shrI .u8 ((c:Nat):Int) 6=((c/64:Nat):Int)∧IntKind.u32.wrap (andI .u8 ((c:Nat):Int) 63)=((c%64:Nat):Int):=by decide+kernel
theorem zls {v:List UInt8} {w i:Nat} (h:i<v.length) (hv:v.length≤1000) (hw:w≤1000000):
  zdc v w i=if cont v[i] then zdc v ((64*w+v[i].toNat%64:Nat):Int) ((i+1:Nat):Int) else some (.inr ()):=by
 have hc:=v[i].toNat_lt
 obtain ⟨e1,e2⟩:=zDB v[i].toNat (by omega)
 have hb:zeL v w i=if cont v[i] then some (.inl (((64*w+v[i].toNat%64:Nat):Int),((i+1:Nat):Int))) else some (.inr (.inr ())):=by
  unfold zeL
  rw [itT (by simp;omega),zR rfl h,sb,e1,e2]
  by_cases hk:cont v[i]=true
  ·rw [if_pos hk]
   unfold cont at hk
   simp only [decide_eq_true_eq] at hk
   rw [itF (by simp;omega),zD (by omega)]
   have e3:shlI .u32 (w:Int) 6=((w*64:Nat):Int):=by
    have:shlI .u32 (w:Int) 6=((w*64%4294967296:Nat):Int):=by simp [shlI,IntKind.bits,zAQ]
    rw [this,Nat.mod_eq_of_lt (by omega)]
   rw [e3,zCO rfl (by simp [IntKind.bits];omega) (by simp [IntKind.bits];omega),Nat.or_comm,zAg _ w 6 (by omega)]
   have e4:v[i].toNat%64+w*2^6=64*w+v[i].toNat%64:=by omega
   rw [e4];rfl
  ·rw [if_neg hk]
   unfold cont at hk
   simp only [decide_eq_true_eq] at hk
   rw [itT (by simp;omega)]
 by_cases hk:cont v[i]=true
 ·rw [if_pos hk] at hb⊢;exact ztV hb
 ·rw [if_neg hk] at hb⊢;exact zoC hb
theorem zrG {v:List UInt8} {w i:Nat} (h:v.length≤i):zdc v w i=some (.inl (w:Int)):=by
 refine zoC ?_
 unfold zeL
 rw [itF (by simp;omega)]
theorem zIQ {w:Nat} {b:UInt8} (hw:w≤100):zdc [b] w 0=if cont b then some (.inl ((64*w+b.toNat%64:Nat):Int)) else some (.inr ()):=by
 have h:=zls (v:=[b]) (w:=w) (i:=0) (by simp) (by simp) (by omega)
 refine Eq.trans h ?_
 simp only [List.getElem_cons_zero]
 rw [zrG (by simp)]
theorem zIR {w:Nat} {b c:UInt8} (hw:w≤100):zdc [b,c] w 0=if cont b then (if cont c then some (.inl ((64*(64*w+b.toNat%64)+c.toNat%64:Nat):Int)) else some (.inr ())) else some (.inr ()):=by
 have h:=zls (v:=[b,c]) (w:=w) (i:=0) (by simp) (by simp) (by omega)
 refine Eq.trans h ?_
 rw [zls (i:=0+1) (by simp) (by simp) (by omega)]
 simp only [List.getElem_cons_zero,List.getElem_cons_succ,Nat.zero_add]
 rw [zrG (by simp)]
theorem zIS {w:Nat} {b c d:UInt8} (hw:w≤100):zdc [b,c,d] w 0=if cont b then (if cont c then (if cont d then some (.inl ((64*(64*(64*w+b.toNat%64)+c.toNat%64)+d.toNat%64:Nat):Int)) else some (.inr ())) else some (.inr ())) else some (.inr ()):=by
 have h:=zls (v:=[b,c,d]) (w:=w) (i:=0) (by simp) (by simp) (by omega)
 refine Eq.trans h ?_
 rw [zls (i:=0+1) (by simp) (by simp) (by omega),zls (i:=0+1+1) (by simp) (by simp) (by omega)]
 simp only [List.getElem_cons_zero,List.getElem_cons_succ,Nat.zero_add]
 rw [zrG (by simp)]
theorem zFz (n:Nat) {l:List UInt8} (h:∀m,m≠n→isN m l=false):nxt l=if isN n l then n else 0:=by
 by_cases hn:isN n l=true
 ·rw [if_pos hn,zIi hn]
 ·rw [if_neg hn]
  by_cases h0:nxt l=0
  ·exact h0
  ·have h1:=zuo h0
   by_cases h2:nxt l=n
   ·rw [h2] at h1;exact absurd h1 hn
   ·rw [h _ h2] at h1;cases h1
theorem zny (n:Nat) {a:UInt8} {t:List UInt8} (h:n=1∧a.toNat<128∨n=2∧192≤a.toNat∧a.toNat<224∨n=3∧224≤a.toNat∧a.toNat<240∨n=4∧240≤a.toNat):nxt (a::t)=if isN n (a::t) then n else 0:=by
 refine zFz n fun m hm=>?_
 cases hh:isN m (a::t) with
 | false=>rfl
 | true=>
  obtain ⟨a',t',e,_,g⟩:=zlG hh
  cases e
  omega
theorem zCD (b:List UInt8):znQ b=some ((nxt b:Nat):Int):=by
 cases b with
 | nil=>rfl
 | cons a t=>
  have ha:=a.toNat_lt
  unfold znQ
  have e00:idx (a::t) (0:Int)=some a:=zR (n:=0) rfl (by simp)
  rw [itF (by simp;omega),e00,sb]
  rw [zGW _ (by omega),sb]
  by_cases h1:a.toNat<128
  ·rw [zny 1 (.inl ⟨rfl,h1⟩),if_pos h1]
   simp only
   rw [itF (by simp;omega),zjl (i:=1) (j:=1) (a:=1) (b:=1) rfl rfl (by omega) (by simp),sb]
   have e0:zdc (((a::t).drop 1).take (1 - 1)) (a.toNat:Int) 0=some (.inl (a.toNat:Int)):=zrG (i:=0) (by simp)
   rw [e0,sb]
   simp only
   rw [zum,sb,if_pos h1,itF (by rfl)]
   simp [isN,is1,h1]
  ·rw [if_neg h1]
   by_cases h2:a.toNat/32=6
   ·rw [zny 2 (.inr (.inl ⟨rfl,by omega,by omega⟩)),if_pos h2]
    simp only
    match t with
    | []=>rw [itT (by simp)];rfl
    | b::t=>
     rw [itF (by simp;omega),zjl (i:=1) (j:=2) (a:=1) (b:=2) rfl rfl (by omega) (by simp),sb]
     have e0:=zIQ (w:=a.toNat%32) (b:=b) (by omega)
     have e0':zdc (((a::b::t).drop 1).take (2 - 1)) ((a.toNat%32:Nat):Int) 0=_:=e0
     rw [e0']
     have hb:=b.toNat_lt
     by_cases c1:cont b=true
     ·rw [if_pos c1,sb]
      simp only
      have hn:=zum (64*(a.toNat%32)+b.toNat%64)
      simp only [isN,is2,c1,and_true,decide_eq_true_eq]
      simp only [cont,decide_eq_true_eq] at c1
      by_cases h:194≤a.toNat
      ·rw [if_neg (by omega),if_pos (by omega)] at hn
       rw [hn,sb,itF (by rfl),if_pos (by omega)];rfl
      ·rw [if_pos (by omega)] at hn
       rw [hn,sb,itT (by rfl),if_neg (by omega)];rfl
     ·rw [if_neg c1,sb]
      simp only
      simp [isN,is2,c1]
   ·rw [if_neg h2]
    by_cases h3:a.toNat/16=14
    ·rw [zny 3 (.inr (.inr (.inl ⟨rfl,by omega,by omega⟩))),if_pos h3]
     simp only
     match t with
     | []=>rw [itT (by simp)];rfl
     | [b]=>rw [itT (by simp)];rfl
     | b::c::t=>
      rw [itF (by simp;omega),zjl (i:=1) (j:=3) (a:=1) (b:=3) rfl rfl (by omega) (by simp),sb]
      have e0:=zIR (w:=a.toNat%16) (b:=b) (c:=c) (by omega)
      have e0':zdc (((a::b::c::t).drop 1).take (3 - 1)) ((a.toNat%16:Nat):Int) 0=_:=e0
      rw [e0']
      have hb:=b.toNat_lt
      have hc:=c.toNat_lt
      by_cases c1:cont b=true
      ·rw [if_pos c1]
       by_cases c2:cont c=true
       ·rw [if_pos c2,sb]
        simp only
        have hn:=zum (64*(64*(a.toNat%16)+b.toNat%64)+c.toNat%64)
        simp only [isN,is3,c1,c2,true_and,decide_eq_true_eq]
        simp only [cont,decide_eq_true_eq] at c1 c2
        by_cases h:(a.toNat=224→160≤b.toNat)∧(a.toNat=237→b.toNat<160)
        ·rw [if_neg (by omega),if_neg (by omega),if_neg (by omega),if_pos (by omega)] at hn
         rw [hn,sb,itF (by rfl),if_pos (by omega)];rfl
        ·by_cases g:64*(64*(a.toNat%16)+b.toNat%64)+c.toNat%64<2048
         ·by_cases g':64*(64*(a.toNat%16)+b.toNat%64)+c.toNat%64<128
          ·rw [if_pos g'] at hn
           rw [hn,sb,itT (by rfl),if_neg (by omega)];rfl
          ·rw [if_neg g',if_pos g] at hn
           rw [hn,sb,itT (by rfl),if_neg (by omega)];rfl
         ·rw [if_neg (by omega),if_neg g,if_pos (by omega)] at hn
          rw [hn,sb,itT (by rfl),if_neg (by omega)];rfl
       ·rw [if_neg c2,sb]
        simp only
        simp [isN,is3,c2]
      ·rw [if_neg c1,sb]
       simp only
       simp [isN,is3,c1]
    ·rw [if_neg h3]
     by_cases h4:a.toNat/8=30
     ·rw [zny 4 (.inr (.inr (.inr ⟨rfl,by omega⟩))),if_pos h4]
      simp only
      match t with
      | []=>rw [itT (by simp)];rfl
      | [b]=>rw [itT (by simp)];rfl
      | [b,c]=>rw [itT (by simp)];rfl
      | b::c::d::t=>
       rw [itF (by simp;omega),zjl (i:=1) (j:=4) (a:=1) (b:=4) rfl rfl (by omega) (by simp),sb]
       have e0:=zIS (w:=a.toNat%8) (b:=b) (c:=c) (d:=d) (by omega)
       have e0':zdc (((a::b::c::d::t).drop 1).take (4 - 1)) ((a.toNat%8:Nat):Int) 0=_:=e0
       rw [e0']
       have hb:=b.toNat_lt
       have hc:=c.toNat_lt
       have hd:=d.toNat_lt
       by_cases c1:cont b=true
       ·rw [if_pos c1]
        by_cases c2:cont c=true
        ·rw [if_pos c2]
         by_cases c3:cont d=true
         ·rw [if_pos c3,sb]
          simp only
          have hn:=zum (64*(64*(64*(a.toNat%8)+b.toNat%64)+c.toNat%64)+d.toNat%64)
          simp only [isN,is4,c1,c2,c3,true_and,decide_eq_true_eq]
          simp only [cont,decide_eq_true_eq] at c1 c2 c3
          by_cases h:a.toNat<245∧(a.toNat=240→144≤b.toNat)∧(a.toNat=244→b.toNat<144)
          ·rw [if_neg (by omega),if_neg (by omega),if_neg (by omega),if_neg (by omega),if_pos (by omega)] at hn
           rw [hn,sb,itF (by rfl),if_pos (by omega)];rfl
          ·have hw:¬(65536≤64*(64*(64*(a.toNat%8)+b.toNat%64)+c.toNat%64)+d.toNat%64∧64*(64*(64*(a.toNat%8)+b.toNat%64)+c.toNat%64)+d.toNat%64≤1114111):=by omega
           generalize 64*(64*(64*(a.toNat%8)+b.toNat%64)+c.toNat%64)+d.toNat%64=w at hn hw
           have hx:∃x:Int,znR w=some x∧x≠4:=⟨_,hn,by (repeat' split)<;>omega⟩
           obtain ⟨x,hx,h4⟩:=hx
           rw [hx,sb,itT (by simp;omega),if_neg (by omega)];rfl
         ·rw [if_neg c3,sb]
          simp only
          simp [isN,is4,c3]
        ·rw [if_neg c2,sb]
         simp only
         simp [isN,is4,c2]
       ·rw [if_neg c1,sb]
        simp only
        simp [isN,is4,c1]
     ·rw [if_neg h4,itT (by rfl)]
      by_cases h5:240≤a.toNat
      ·rw [zny 4 (.inr (.inr (.inr ⟨rfl,h5⟩)))]
       cases hh:isN 4 (a::t) with
       | false=>rfl
       | true=>
        match t,hh with
        | b::c::d::t,hh=>simp only [isN,is4,decide_eq_true_eq] at hh;omega
      ·by_cases h0:nxt (a::t)=0
       ·rw [h0];rfl
       ·obtain ⟨a',t',e,_,g⟩:=zlG (zuo h0)
        cases e
        omega
theorem zEq {b:List UInt8} (hb:b.length≤1152921504606846976) (l:List UInt8):∀(a c:Nat),c≤a→a≤b.length→l=b.drop a→
  zhQ b a c ((nxt l:Nat):Int)=some (((a+(pre4 l).1:Nat):Int),((c+(pre4 l).2:Nat):Int)):=by
 refine zFG (fun l=>∀(a c:Nat),c≤a→a≤b.length→l=b.drop a→zhQ b a c ((nxt l:Nat):Int)=some (((a+(pre4 l).1:Nat):Int),((c+(pre4 l).2:Nat):Int))) ?_ ?_ l
 ·intro l h a c hc ha hl
  rw [h,zDM h]
  refine ztX ?_
  unfold zfp
  rw [itF (by rfl)];rfl
 ·intro l h ih a c hc ha hl
  subst hl
  have h4:=zyB (b.drop a)
  have hle:=zqU (b.drop a)
  simp only [List.length_drop] at hle
  have e1:(b.drop a).drop (nxt (b.drop a))=b.drop (a+nxt (b.drop a)):=by rw [List.drop_drop]
  refine (ztW (atv':=((a+nxt (b.drop a):Nat):Int)) (points':=((c+1:Nat):Int)) (size':=((nxt (b.drop (a+nxt (b.drop a))):Nat):Int)) ?_).trans ?_
  ·unfold zfp
   rw [itT (by simp;omega),zD (by omega),zrs (a:=a+nxt (b.drop a)) (by push_cast;rfl) rfl (by omega),sb,zCD,sb,zD (by omega)];rfl
  ·rw [←e1,ih (a+nxt (b.drop a)) (c+1) (by omega) (by omega) e1,zHa h]
   simp only [Nat.add_assoc,Nat.add_comm 1]
theorem zGf {b:List UInt8} (hb:b.length≤1152921504606846976):zpP b=some (((pre4 b).1:Int),((pre4 b).2:Int)):=by
 unfold zpP
 rw [zCD,sb]
 have h:=zEq hb b 0 0 (Nat.le_refl _) (Nat.zero_le _) rfl
 simp only [Nat.zero_add] at h
 have h':zhQ b 0 0 ((nxt b:Nat):Int)=some (((pre4 b).1:Int),((pre4 b).2:Int)):=h
 rw [h',sb]
theorem zEk {b:List UInt8} (hb:b.length≤1152921504606846976):znP b=some ((pre4 b).1:Int):=by
 unfold znP
 rw [zGf hb,sb]
theorem zto {b:List UInt8} (hb:b.length≤1152921504606846976):zkf b=some (zgB b):=by
 unfold zkf zgB
 rw [zEk hb,sb,ztZ]
end Go.Proofs.YtcbkcblkecmjnaaGreat
namespace Go.Proofs.YtcbkcblkecmjnaaGreat
open Go
set_option linter.unusedVariables false
def zIh:List Str:=[[],[105,110,116,51,50],[105,110,116,54,52],[117,105,110,116,51,50],[117,105,110,116,54,52],[115,105,110,116,51,50],[115,105,110,116,54,52],[98,111,111,108],[101,110,117,109],[102,105,120,101,100,51,50],[115,102,105,120,101,100,51,50],[102,108,111,97,116],[102,105,120,101,100,54,52],[115,102,105,120,101,100,54,52],[100,111,117,98,108,101],[115,116,114,105,110,103],[98,121,116,101,115],[109,101,115,115,97,103,101]]
def zFd (k:Int):Str:=(zIh[k.toNat]?).getD []
def kT:List (Int×zB):=[(1,⟨[105,110,116,51,50],0⟩),(2,⟨[105,110,116,54,52],0⟩),(3,⟨[117,105,110,116,51,50],0⟩),(4,⟨[117,105,110,116,54,52],0⟩),(5,⟨[115,105,110,116,51,50],0⟩),(6,⟨[115,105,110,116,54,52],0⟩),(7,⟨[98,111,111,108],0⟩),(8,⟨[101,110,117,109],0⟩),(9,⟨[102,105,120,101,100,51,50],5⟩),(10,⟨[115,102,105,120,101,100,51,50],5⟩),(11,⟨[102,108,111,97,116],5⟩),(12,⟨[102,105,120,101,100,54,52],1⟩),(13,⟨[115,102,105,120,101,100,54,52],1⟩),(14,⟨[100,111,117,98,108,101],1⟩),(15,⟨[115,116,114,105,110,103],2⟩),(16,⟨[98,121,116,101,115],2⟩),(17,⟨[109,101,115,115,97,103,101],2⟩)]
theorem zAa:zlI=some kT:=rfl
theorem ztE {k:Int} (h:zcM k=true):k=1∨k=2∨k=3∨k=4∨k=5∨k=6∨k=7∨k=8∨k=9∨k=10∨k=11∨k=12∨k=13∨k=14∨k=15∨k=16∨k=17:=by
 have:=of_decide_eq_true h
 omega
theorem zHY {k:Int} (h:zcM k=true):mget kT k=some ⟨zFd k,zfe k⟩:=by
 rcases ztE h with rfl| rfl| rfl| rfl| rfl| rfl| rfl| rfl| rfl| rfl| rfl| rfl| rfl| rfl| rfl| rfl| rfl<;>rfl
theorem zGH {e:Int×zB} (h:e∈kT):zcM e.1=true∧e.2=⟨zFd e.1,zfe e.1⟩:=by
 have:kT.all (fun e=>zcM e.1&&decide (e.2=⟨zFd e.1,zfe e.1⟩))=true:=by decide
 have h1:=List.all_eq_true.1 this e h
 simp only [Bool.and_eq_true,decide_eq_true_eq] at h1
 exact h1
theorem zGI {k:Int} (h:zcM k=false):mget kT k=none:=by
 cases hg:mget kT k with
 | none=>rfl
 | some x=>
  have mem:∀{m:List (Int×zB)} {x:zB},mget m k=some x→(k,x)∈m:=fun {m x} hg=>by
   induction m with
   | nil=>cases hg
   | cons p m ih=>
    rw [mget] at hg
    split at hg
    ·rename_i e;cases hg;rw [e];exact List.mem_cons_self
    ·exact List.mem_cons_of_mem _ (ih hg)
  have h1:=(zGH (mem hg)).1
  simp only at h1
  rw [h] at h1
  cases h1
theorem zAc (k:Int):zlr k=some (if zcM k then (zfe k,0) else (0,2)):=by
 unfold zlr
 rw [zAa,sb]
 cases h:zcM k with
 | true=>rw [zHY h];rfl
 | false=>rw [zGI h];rfl
theorem zvc (k:Int):ziU k=some (kNum k):=by
 unfold ziU
 rw [zAc,sb]
 cases h:zcM k with
 | true=>
  rcases ztE h with rfl| rfl| rfl| rfl| rfl| rfl| rfl| rfl| rfl| rfl| rfl| rfl| rfl| rfl| rfl| rfl| rfl<;>rfl
 | false=>
  have h1:=of_decide_eq_false h
  have:kNum k=false:=decide_eq_false (by omega)
  rw [this]
  rfl
theorem zGK:kT.map Prod.fst=[1,2,3,4,5,6,7,8,9,10,11,12,13,14,15,16,17]:=rfl
theorem zGJ:zpo=some [1,2,3,4,5,6,7,8,9,10,11,12,13,14,15,16,17]:=by
 have e:zrC kT=some [1,2,3,4,5,6,7,8,9,10,11,12,13,14,15,16,17]:=by
  unfold zrC
  rw [if_pos ⟨by decide,by decide⟩,zGK,List.mergeSort_of_pairwise (by decide)]
 unfold zpo
 rw [zAa,sb,e,sb]
theorem znu (k:Int) {w:Int} (h:0≤w∧w≤18446744073709551615):ziK k w=some (if kNum k then (zfJ k w,0) else (0,2)):=by
 have hs:=zBO w
 have hc:=zzn k h
 unfold ziK
 by_cases h1:k=1∨k=8
 ·have e:(if (k==1)=true then some (k==1) else some (k==8))=some true:=by rcases h1 with rfl| rfl<;>rfl
  have hn:kNum k=true:=decide_eq_true (by omega)
  rw [e,sb,itT rfl,zEa,sb,zEr (by omega),sb,hn]
  unfold zfJ
  rw [if_pos h1]
  rfl
 ·have e:(if (k==1)=true then some (k==1) else some (k==8))=some false:=by rw [itF (by simp;omega)];simp;omega
  rw [e,sb,itF rfl]
  by_cases h2:k=3∨k=5∨k=9∨k=10∨k=11
  ·have e2:(if (k==3)=true then some (k==3) else if (k==5)=true then some (k==5) else if (k==9)=true then some (k==9) else if (k==10)=true then some (k==10) else some (k==11))=some true:=by
    rcases h2 with rfl| rfl| rfl| rfl| rfl<;>rfl
   have hn:kNum k=true:=decide_eq_true (by omega)
   have hw:IntKind.u64.wrap (w%4294967296)=w%4294967296:=by rw [wrap_u64];omega
   rw [e2,sb,itT rfl,zAe,sb,hn,hw]
   unfold zfJ
   rw [if_neg h1,if_pos h2]
   rfl
  ·have e2:(if (k==3)=true then some (k==3) else if (k==5)=true then some (k==5) else if (k==9)=true then some (k==9) else if (k==10)=true then some (k==10) else some (k==11))=some false:=by
    rw [itF (by simp;omega),itF (by simp;omega),itF (by simp;omega),itF (by simp;omega)];simp;omega
   rw [e2,sb,itF rfl]
   by_cases h7:k=7
   ·have hn:kNum k=true:=decide_eq_true (by omega)
    rw [itT (by simpa using h7),hn]
    unfold zod zfJ
    rw [sb,if_neg h1,if_neg h2,if_pos h7]
    by_cases h0:0<w
    ·rw [if_pos h0]
     by_cases h10:1<w
     ·rw [if_pos h10];rfl
     ·rw [if_neg h10,show w=1 by omega];rfl
    ·rw [if_neg h0,if_neg (by omega),show w=0 by omega];rfl
   ·rw [itF (by simpa using h7)]
    by_cases hn:kNum k=true
    ·have hk:=of_decide_eq_true hn
     have e3:(if (k==2)=true then some (k==2) else if (k==4)=true then some (k==4) else if (k==6)=true then some (k==6) else if (k==12)=true then some (k==12) else if (k==13)=true then some (k==13) else some (k==14))=some true:=by
      have:k=2∨k=4∨k=6∨k=12∨k=13∨k=14:=by omega
      rcases this with rfl| rfl| rfl| rfl| rfl| rfl<;>rfl
     rw [e3,sb,itT rfl,hn]
     unfold zfJ
     rw [if_neg h1,if_neg h2,if_neg h7]
     rfl
    ·have hn:kNum k=false:=by simpa using hn
     have hk:=of_decide_eq_false hn
     have e3:(if (k==2)=true then some (k==2) else if (k==4)=true then some (k==4) else if (k==6)=true then some (k==6) else if (k==12)=true then some (k==12) else if (k==13)=true then some (k==13) else some (k==14))=some false:=by
      rw [itF (by simp;omega),itF (by simp;omega),itF (by simp;omega),itF (by simp;omega),itF (by simp;omega)];simp;omega
     rw [e3,sb,itF rfl,hn]
     rfl
end Go.Proofs.YtcbkcblkecmjnaaGreat
