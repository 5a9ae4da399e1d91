/-
  What the plain functions are. No condition.
-/
import Derived.Test.YtekgmimingolbaaGreatx2S1
import Derived.Test.YtekgmimingolbaaGreatx2K2
import Derived.Test.YtekgmimingolbaaGreatx2K3
set_option autoImplicit true
set_option relaxedAutoImplicit true
namespace Go.Proofs.YtekgmimingolbaaGreat
open Go
set_option linter.unusedVariables false
theorem zyf (w:Int):zjc w=some (w%4294967296):=by unfold zjc;rw [zyR]
theorem zCi (w:Int):zjv w=some (sgnS w):=by
 unfold zjv;rw [zyf,sb,zCC];unfold sgnS;congr 1;split<;>split<;>omega
theorem zCA (h: -2147483648<=n/\n<=2147483647):zjw n=some (zvT n):=by
 unfold zjw;rw [uy,zoA];unfold zvT;congr 1;split<;>omega
def zfa (k:Int):Bool:=decide (1<=k/\k<=17)
def kNum (k:Int):Bool:=decide (1<=k/\k<=14)
def zvo (k:Int):Int:=if 15<=k then 2 else if 12<=k then 1 else if 9<=k then 5 else 0
def ziG (k w:Int):Int:=
 if k=1\/k=8 then zvT (sgnS w) else if k=3\/k=5\/k=9\/k=10\/k=11 then w%4294967296 else if k=7 then (if 0<w then 1 else 0) else w
theorem zCN (k:Int) (h:0<=w/\w<=18446744073709551615):0<=ziG k w/\ziG k w<=18446744073709551615:=by
 have hs:=zEr w;unfold ziG;split
 ·exact zFO (by omega)
 ·split
  ·omega
  ·split
   ·split<;>omega
   ·exact h
abbrev Fld:=ze
abbrev Mes:=zf
def zka {α:Type} (p:α->Bool) (l:List α):Int:=match l.findIdx? p with
 | some i=>(i:Int)
 | none=> -1
theorem zlj {α:Type} {p:α->Bool} {l:List α} (h:l.findIdx? p=none):zka p l= -1:=by unfold zka;rw [h]
theorem zlk {α:Type} {p:α->Bool} {l:List α} {i:Nat} (h:l.findIdx? p=some i):zka p l=(i:Int):=by unfold zka;rw [h]
theorem zvd {α:Type} (p:α->Bool) (l:List α) (F:Int->Option (Unit⊕Int)) (h0:F (l.length:Int)=some (.inl ())) (hs:∀(i:Nat) (h:i<l.length),F (i:Int)=if p l[i] then some (.inr (i:Int)) else F ((i+1:Nat):Int)):
  ∀(d i:Nat),i+d=l.length->(∀j (h:j<l.length),j<i->p l[j]=false)->F (i:Int)=some (match l.findIdx? p with| some k=> .inr (k:Int)| none=> .inl ()):=by
 intro d
 induction d with
 | zero=>
  intro i hi hj;have:i=l.length:=by omega
  subst this;have hn:l.findIdx? p=none:=by
   rw [pu];intro x hx;obtain ⟨j,hj',rfl⟩:=yU hx;exact hj j hj' hj'
  rw [h0,hn]
 | succ d ih=>
  intro i hi hj;have hil:i<l.length:=by omega
  rw [hs i hil];by_cases hp:p l[i]=true
  ·have hf:l.findIdx? p=some i:=by
    rw [pv];exact ⟨hil,hp,fun j hji=>by simpa using hj j (by omega) hji⟩
   rw [xr hp,hf]
  ·rw [xq hp];refine ih (i+1) (by omega) fun j h hji=>?_
   by_cases e:j=i
   ·subst e;simpa using hp
   ·exact hj j h (by omega)
def fldI (m:Mes) (number:Int):Int:=zka (fun f:Fld=>f.Number==number) m.Fields
def nmc (i:Nat) (c:UInt8):Bool:=decide (65<=c.toNat/\c.toNat<=90\/97<=c.toNat/\c.toNat<=122\/c.toNat=95\/0<i/\48<=c.toNat/\c.toNat<=57)
def nmA:Nat->List UInt8->Bool
 | _,[]=>true
 | i,c::l=>nmc i c&&nmA (i+1) l
def zhQ (s:List UInt8):Bool:=nmA 0 s&&decide (1<=s.length/\s.length<=60)
theorem zem {α:Type} {l t:List α} {x:α} {k:Nat} (h:l.drop k=x::t):∃hk:k<l.length,l[k]=x/\l.drop (k+1)=t:=by
 have hk:k<l.length:=by
  rcases yK k l.length with h'| h'
  ·exact h'
  ·rw [yd h'] at h;cases h
 rw [xT hk] at h;injection h with h1 h2;exact ⟨hk,h1,h2⟩
theorem zfh {α:Type} {l:List α} {k:Nat} (h:l.drop k=[]):l.length<=k:=by have:=congrArg List.length h;simp at this;omega
def zdD (n:Int) (prev:List Fld) (f:Fld):Int:=
 if zhQ f.Name=false then 5 else if prev.any (fun g=>g.Name==f.Name)=true then 6
 else if f.Number<1\/f.Number>536870911\/(19000<=f.Number/\f.Number<20000) then 7
 else if prev.any (fun g=>g.Number==f.Number)=true then 8 else if zfa f.Kind=false then 9
 else if f.Packed=true/\¬(f.Repeated=true/\kNum f.Kind=true) then 10
 else if f.Kind=17/\(f.Of<0\/f.Of>=n)\/f.Kind≠17/\f.Of≠0 then 11 else 0
theorem zxE (n:Int) (prev:List Fld) (f:Fld):0<=zdD n prev f/\zdD n prev f<=11:=by
 unfold zdD
 repeat' split
 all_goals omega
def msgF (n:Int) (prev:List Fld):List Fld->Option (Nat×Int)
 | []=>none
 | f::l=>if 0<zdD n prev f then some (prev.length,zdD n prev f) else msgF n (prev++[f]) l
def chkF (n:Int) (prev:List Mes):List Mes->Option (Nat×Int×Int)
 | []=>none
 | m::l=>if zhQ m.Name=false then some (prev.length, -1,2) else if prev.any (fun g=>g.Name==m.Name)=true then some (prev.length, -1,3)
  else if 200<m.Fields.length then some (prev.length, -1,4) else match msgF n [] m.Fields with
   | some (k,w)=>some (prev.length,(k:Int),w)
   | none=>chkF n (prev++[m]) l
def zkE (s:List Mes):Int×Int×Int:=if s.length=0\/100<s.length then (-1, -1,1) else match chkF s.length [] s with
 | none=>(0,0,0)
 | some (i,k,w)=>((i:Int),k,w)
def zfp (s:List Mes):Bool:=decide ((zkE s).2.2=0)
def WS (s:List Mes):Prop:=s.length<=140737488351232/\∀m∈s,m.Name.length<=140737488351232/\m.Fields.length<=140737488351232/\∀f∈m.Fields,f.Name.length<=140737488351232
theorem zrt :∀(l prev:List Fld),msgF n prev l=none↔∀(k:Nat) (f:Fld),l[k]? =some f->zdD n (prev++l.take k) f=0
 | [],prev=>by simp [msgF]
 | f::l,prev=>by
  have hb:=zxE n prev f;rw [msgF];by_cases h:0<zdD n prev f
  ·rw [xr h];refine ⟨(fun h'=>nomatch h'),fun h'=>?_⟩;have:=h' 0 f rfl;simp at this;omega
  ·rw [xq h,zrt l (prev++[f])];constructor
   ·intro h' k g hg;cases k with
    | zero=>simp at hg;subst hg;simp;omega
    | succ k=>have:=h' k g (by simpa using hg);simpa using this
   ·intro h' k g hg;have:=h' (k+1) g (by simpa using hg);simpa using this
theorem zuX :∀(l prev:List Mes),chkF n prev l=none↔∀(i:Nat) (m:Mes),l[i]? =some m->zhQ m.Name=true/\(prev++l.take i).any (fun g=>g.Name==m.Name)=false/\m.Fields.length<=200/\msgF n [] m.Fields=none
 | [],prev=>by simp [chkF]
 | m::l,prev=>by
  rw [chkF];by_cases h1:zhQ m.Name=false
  ·rw [xr h1];refine ⟨(fun h'=>nomatch h'),fun h'=>?_⟩;have:=(h' 0 m rfl).1;rw [h1] at this;cases this
  ·rw [xq h1];by_cases h2:prev.any (fun g=>g.Name==m.Name)=true
   ·rw [xr h2];refine ⟨(fun h'=>nomatch h'),fun h'=>?_⟩;have:=(h' 0 m rfl).2.1;simp only [yZ,yR] at this;rw [h2] at this;cases this
   ·rw [xq h2];by_cases h3:200<m.Fields.length
    ·rw [xr h3];refine ⟨(fun h'=>nomatch h'),fun h'=>?_⟩;have:=(h' 0 m rfl).2.2.1;omega
    ·rw [xq h3];cases h4:msgF n [] m.Fields with
     | some p=>
      refine ⟨(fun h'=>nomatch h'),fun h'=>?_⟩;have:=(h' 0 m rfl).2.2.2;rw [h4] at this;cases this
     | none=>
      simp only;rw [zuX l (prev++[m])];constructor
      ·intro h' i g hg;cases i with
       | zero=>simp at hg;subst hg;exact ⟨by simpa using h1,by simpa using h2,by omega,h4⟩
       | succ i=>have:=h' i g (by simpa using hg);simpa using this
      ·intro h' i g hg;have:=h' (i+1) g (by simpa using hg);simpa using this
theorem zFw:∀(n:Int) (l prev:List Fld) (k:Nat) (w:Int),msgF n prev l=some (k,w)->0<w:=by
 intro n l
 induction l with
 | nil=>intro prev k w h;cases h
 | cons f l ih=>
  intro prev k w h;rw [msgF] at h;split at h
  ·cases h;assumption
  ·exact ih _ _ _ h
theorem zAo:∀(n:Int) (l prev:List Mes) (i:Nat) (k w:Int),chkF n prev l=some (i,k,w)->0<w:=by
 intro n l
 induction l with
 | nil=>intro prev i k w h;cases h
 | cons m l ih=>
  intro prev i k w h;rw [chkF] at h;split at h
  ·cases h;omega
  ·split at h
   ·cases h;omega
   ·split at h
    ·cases h;omega
    ·split at h
     ·rename_i k' w' h';cases h;exact zFw _ _ _ _ _ h'
     ·exact ih _ _ _ _ h
structure zFS (n:Int) (f:Fld):Prop where
 name:zhQ f.Name=true
 lo:1<=f.Number
 hi:f.Number<=536870911
 kind:zfa f.Kind=true
 packed:f.Packed=true->f.Repeated=true/\kNum f.Kind=true
 sub:f.Kind=17->0<=f.Of/\f.Of<n
 noSub:f.Kind≠17->f.Of=0
theorem ztf (h:zdD n prev f=0):zFS n f/\prev.any (fun g=>g.Name==f.Name)=false/\prev.any (fun g=>g.Number==f.Number)=false:=by
 unfold zdD at h;split at h
 ·omega
 ·rename_i h1;split at h
  ·omega
  ·rename_i h2;split at h
   ·omega
   ·rename_i h3;split at h
    ·omega
    ·rename_i h4;split at h
     ·omega
     ·rename_i h5;split at h
      ·omega
      ·rename_i h6;split at h
       ·omega
       ·rename_i h7;refine ⟨⟨by simpa using h1,by omega,by omega,by simpa using h5,fun hp=>?_,fun hk=>by omega,fun hk=>by omega⟩,by simpa using h2,by simpa using h4⟩;by_cases hq:f.Repeated=true/\kNum f.Kind=true
        ·exact hq
        ·exact absurd ⟨hp,hq⟩ h6
structure zmA (s:List Mes):Prop where
 len:1<=s.length/\s.length<=100
 name:∀m∈s,zhQ m.Name=true
 names:∀(i j:Nat) (a b:Mes),i<j->s[i]? =some a->s[j]? =some b->a.Name≠b.Name
 few:∀m∈s,m.Fields.length<=200
 fld:∀m∈s,∀f∈m.Fields,zFS s.length f
 nums:∀m∈s,∀(i j:Nat) (f g:Fld),i<j->m.Fields[i]? =some f->m.Fields[j]? =some g->f.Number≠g.Number/\f.Name≠g.Name
theorem zre {α:Type} {l:List α} {p:α->Bool} (h:l.any p=false) {x:α} (hx:x∈l):p x=false:=by
 rw [pT] at h;simpa using h x hx
theorem zvK {s:List Mes} (h:zfp s=true):zmA s:=by
 have h0:(zkE s).2.2=0:=by simpa [zfp] using h
 have h1:¬(s.length=0\/100<s.length):=fun hh=>by unfold zkE at h0;rw [xr hh] at h0;simp at h0
 have h2:chkF s.length [] s=none:=by
  cases h4:chkF s.length [] s with
  | none=>rfl
  | some p=>
   exfalso;obtain ⟨i,k,w⟩:=p;have h5:(zkE s).2.2=w:=by unfold zkE;rw [xq h1,h4]
   have:=zAo _ _ _ _ _ _ h4;omega
 have h3:=(zuX s []).1 h2;have at':∀m∈s,zhQ m.Name=true/\m.Fields.length<=200/\msgF s.length [] m.Fields=none:=fun m hm=>by
  obtain ⟨i,hi,rfl⟩:=yU hm;have:=h3 i _ (xF hi);exact ⟨this.1,this.2.2.1,this.2.2.2⟩
 refine ⟨by omega,fun m hm=>(at' m hm).1,fun i j a b hij ha hb=>?_,fun m hm=>(at' m hm).2.1,fun m hm f hf=>?_,fun m hm i j f g hij hf hg=>?_⟩
 ·have:=(h3 j b hb).2.1;have hai:a∈([]++s.take j:List Mes):=by
   rw [x8];exact yE (i:=i) (by rw [yf,xr hij];exact ha)
  simpa using zre this hai
 ·have h4:=(zrt m.Fields []).1 (at' m hm).2.2;obtain ⟨i,hi,rfl⟩:=yU hf;exact (ztf (h4 i _ (xF hi))).1
 ·have h4:=(zrt m.Fields []).1 (at' m hm).2.2;obtain ⟨_,k1,k2⟩:=ztf (h4 j g hg);have hai:f∈([]++m.Fields.take j:List Fld):=by
   rw [x8];exact yE (i:=i) (by rw [yf,xr hij];exact hf)
  exact ⟨by simpa using zre k2 hai,by simpa using zre k1 hai⟩
theorem zmY {α:Type} [DecidableEq α] (a b:List α) (F:Int->Option (Unit⊕Unit)) (hl:a.length=b.length) (h0:F (a.length:Int)=some (.inl ()))
  (hs:∀(i:Nat) (h:i<a.length) (h':i<b.length),F (i:Int)=if a[i]=b[i] then F ((i+1:Nat):Int) else some (.inr ())):
  ∀(d i:Nat),i+d=a.length->F (i:Int)=some (if a.drop i=b.drop i then .inl () else .inr ()):=by
 intro d
 induction d with
 | zero=>
  intro i hi;have e1:a.drop i=[]:=yd (by omega);have e2:b.drop i=[]:=yd (by omega);have:i=a.length:=by omega
  rw [e1,e2,xr rfl,this,h0]
 | succ d ih=>
  intro i hi;rw [hs i (by omega) (by omega),xT (l:=a) (by omega),xT (l:=b) (by omega)];by_cases h:a[i]'(by omega)=b[i]'(by omega)
  ·rw [xr h,ih (i+1) (by omega),h];simp only [yD,qt]
  ·rw [xq h,xq (fun e=>h (List.cons.inj e).1)]
theorem zBC {s:List Mes} {i:Nat} {m:Mes} (hi:∃h:i<s.length,s[i]=m) (hb:m.Fields.length<=140737488351232):∀(d k:Nat) (n:Int),k+d=m.Fields.length->∃r,zdO i s n k=some r:=by
 obtain ⟨hil,hm⟩:=hi;have e1:idx s (i:Int)=some m:=by rw [zah rfl hil,hm]
 intro d
 induction d with
 | zero=>
  intro k n hk;refine ⟨n,zlY ?_⟩;unfold zbK;rw [e1,sb,uw]
 | succ d ih=>
  intro k n hk;obtain ⟨r,hr⟩:=ih (k+1) (IntKind.i64.wrap (n+(IntKind.i64.wrap (Int.tdiv (((m.Fields[k]'(by omega)).Name.length:Int)) 100)))) (by omega);refine ⟨r,(zlX (k':=((k+1:Nat):Int)) ?_).trans hr⟩;unfold zbK;rw [e1,sb,uv,sb,zah rfl (by omega),sb,zI (x:=(k:Int)+1) (by omega)];push_cast;rfl
theorem zGp {s:List Mes} (hw:WS s):∃b,zgc s=some b:=by
 obtain ⟨hs,hm⟩:=hw;have key:∀(d i:Nat) (n:Int),i+d=s.length->∃r,zdN s n i=some r:=by
  intro d
  induction d with
  | zero=>
   intro i n hi;refine ⟨n,zlW ?_⟩;unfold zbJ;rw [uw]
  | succ d ih=>
   intro i n hi;have hil:i<s.length:=by omega
   obtain ⟨q,hq⟩:=zBC (s:=s) (i:=i) (m:=s[i]) ⟨hil,rfl⟩ (hm _ (xE hil)).2.1 (s[i]).Fields.length 0
    (IntKind.i64.wrap ((IntKind.i64.wrap ((IntKind.i64.wrap (n+1))+(IntKind.i64.wrap (Int.tdiv ((s[i]).Name.length:Int) 100))))+((s[i]).Fields.length:Int))) (by omega)
   have hq':zdO i s (IntKind.i64.wrap ((IntKind.i64.wrap ((IntKind.i64.wrap (n+1))+(IntKind.i64.wrap (Int.tdiv ((s[i]).Name.length:Int) 100))))+((s[i]).Fields.length:Int))) 0=some q:=hq;obtain ⟨r,hr⟩:=ih (i+1) q (by omega);refine ⟨r,(zlV (i':=((i+1:Nat):Int)) ?_).trans hr⟩;unfold zbJ;rw [uv,zah rfl hil,sb,sb,hq',sb,zI (x:=(i:Int)+1) (by omega)];push_cast;rfl
 obtain ⟨r,hr⟩:=key s.length 0 0 (by omega);have hr':zdN s 0 0=some r:=hr;exact ⟨_,by unfold zgc;rw [hr',sb]⟩
def zGa (m:Mes) (p:Int):Int:=(m.Fields.getD p.toNat ⟨[],0,0,false,false,0⟩).Number
def zCI (κ:Int->Int) (a b:Int):Prop:=κ a<κ b\/κ a=κ b/\a<b
def cont (c:UInt8):Bool:=decide (128<=c.toNat/\c.toNat<192)
def is1:List UInt8->Bool
 | a::_=>decide (a.toNat<128)
 | _=>false
def is2:List UInt8->Bool
 | a::b::_=>decide (194<=a.toNat/\a.toNat<224/\cont b=true)
 | _=>false
def is3:List UInt8->Bool
 | a::b::c::_=>decide (224<=a.toNat/\a.toNat<240/\cont b=true/\cont c=true/\(a.toNat=224->160<=b.toNat)/\(a.toNat=237->b.toNat<160))
 | _=>false
def is4:List UInt8->Bool
 | a::b::c::d::_=>decide (240<=a.toNat/\a.toNat<245/\cont b=true/\cont c=true/\cont d=true/\(a.toNat=240->144<=b.toNat)/\(a.toNat=244->b.toNat<144))
 | _=>false
def nxt (l:List UInt8):Nat:=if is1 l then 1 else if is2 l then 2 else if is3 l then 3 else if is4 l then 4 else 0
def isN (n:Nat) (l:List UInt8):Bool:=match n with
 | 1=>is1 l
 | 2=>is2 l
 | 3=>is3 l
 | 4=>is4 l
 | _=>false
theorem zkJ (h:isN n l=true):∃a t,l=a::t/\n<=l.length/\(n=1/\a.toNat<128\/n=2/\194<=a.toNat/\a.toNat<224\/n=3/\224<=a.toNat/\a.toNat<240\/n=4/\240<=a.toNat):=by
 match n,l with
 | 1,a::t=>simp only [isN,is1,xU] at h;exact ⟨a,t,rfl,by simp,.inl ⟨rfl,h⟩⟩
 | 2,a::b::t=>simp only [isN,is2,xU] at h;exact ⟨a,_,rfl,by simp,.inr (.inl ⟨rfl,h.1,h.2.1⟩)⟩
 | 3,a::b::c::t=>simp only [isN,is3,xU] at h;exact ⟨a,_,rfl,by simp,.inr (.inr (.inl ⟨rfl,h.1,h.2.1⟩))⟩
 | 4,a::b::c::d::t=>simp only [isN,is4,xU] at h;exact ⟨a,_,rfl,by simp,.inr (.inr (.inr ⟨rfl,h.1⟩))⟩
 | 0,_=>cases h
 | 1,[]=>cases h
 | 2,[]=>cases h
 | 2,[_]=>cases h
 | 3,[]=>cases h
 | 3,[_]=>cases h
 | 3,[_,_]=>cases h
 | 4,[]=>cases h
 | 4,[_]=>cases h
 | 4,[_,_]=>cases h
 | 4,[_,_,_]=>cases h
 | _+5,_=>cases h
theorem zFi (h:isN n l=true) (h':isN m l=true):n=m:=by
 obtain ⟨a,t,e,_,g⟩:=zkJ h;obtain ⟨a',t',e',_,g'⟩:=zkJ h';rw [e] at e';cases e';omega
theorem zGJ (h:isN n l=true):nxt l=n:=by
 obtain ⟨_,_,_,_,g⟩:=zkJ h;have k:∀m,m≠n->isN m l=false:=fun m hm=>by
  cases hh:isN m l with
  | false=>rfl
  | true=>exact absurd (zFi hh h) hm
 have hn:n=1\/n=2\/n=3\/n=4:=by omega
 rcases hn with rfl| rfl| rfl| rfl
 ·simp only [isN] at h;simp [nxt,h]
 ·have j1:=k 1 (by omega);simp only [isN] at h j1;simp [nxt,h,j1]
 ·have j1:=k 1 (by omega);have j2:=k 2 (by omega);simp only [isN] at h j1 j2;simp [nxt,h,j1,j2]
 ·have j1:=k 1 (by omega);have j2:=k 2 (by omega);have j3:=k 3 (by omega);simp only [isN] at h j1 j2 j3;simp [nxt,h,j1,j2,j3]
theorem zsD (h:nxt l≠0):isN (nxt l) l=true:=by
 unfold nxt at h|-;by_cases h1:is1 l=true
 ·simp [h1,isN]
 ·by_cases h2:is2 l=true
  ·simp [h1,h2,isN]
  ·by_cases h3:is3 l=true
   ·simp [h1,h2,h3,isN]
   ·by_cases h4:is4 l=true
    ·simp [h1,h2,h3,h4,isN]
    ·simp [h1,h2,h3,h4] at h
theorem ztL (l:List UInt8):nxt l<=l.length:=by
 by_cases h:nxt l=0
 ·omega
 ·obtain ⟨_,_,_,g,_⟩:=zkJ (zsD h);exact g
theorem zFy (l:List UInt8):nxt l<=4:=by
 by_cases h:nxt l=0
 ·omega
 ·obtain ⟨_,_,_,_,g⟩:=zkJ (zsD h);omega
def fst4 (m:Int) (l:List UInt8):Nat×Nat:=
 if h:nxt l=0\/(nxt l:Int)>m then (0,0) else (nxt l+(fst4 (m - nxt l) (l.drop (nxt l))).1,(fst4 (m - nxt l) (l.drop (nxt l))).2+1)
termination_by l.length
decreasing_by all_goals (have:=ztL l;simp only [yl];omega)
theorem zrj (h:nxt l=0\/(nxt l:Int)>m):fst4 m l=(0,0):=by rw [fst4,dif_pos h]
theorem zwp (h:¬(nxt l=0\/(nxt l:Int)>m)):fst4 m l=(nxt l+(fst4 (m - nxt l) (l.drop (nxt l))).1,(fst4 (m - nxt l) (l.drop (nxt l))).2+1):=by rw [fst4,dif_neg h]
def pre4 (l:List UInt8):Nat×Nat:=fst4 l.length l
theorem zDh (h:(l.length:Int)<=m):fst4 m l=pre4 l:=by
 have key:∀(n:Nat) (l:List UInt8) (m m':Int),l.length=n->(l.length:Int)<=m->(l.length:Int)<=m'->fst4 m l=fst4 m' l:=by
  intro n
  induction n using Nat.strongRecOn with
  | _ n ih=>
   intro l m m' hn hm hm';have hle:=ztL l;by_cases h:nxt l=0
   ·rw [zrj (.inl h),zrj (.inl h)]
   ·rw [zwp (m:=m) (l:=l) (by omega),zwp (m:=m') (l:=l) (by omega),ih _ (by simp only [yl];omega) (l.drop (nxt l)) (m - nxt l) (m' - nxt l) rfl (by simp only [yl];omega) (by simp only [yl];omega)]
 exact key _ l m l.length rfl h (y8 _)
theorem zCc (h:nxt l=0):pre4 l=(0,0):=zrj (.inl h)
theorem zFB (h:nxt l≠0):pre4 l=(nxt l+(pre4 (l.drop (nxt l))).1,(pre4 (l.drop (nxt l))).2+1):=by
 have hle:=ztL l;unfold pre4;rw [zwp (by omega),zDh (m:=(l.length:Int) - nxt l) (by simp only [yl];omega)];rfl
theorem zEg (P:List UInt8->Prop) (h0:∀l,nxt l=0->P l) (h1:∀l,nxt l≠0->P (l.drop (nxt l))->P l) (l:List UInt8):P l:=by
 generalize hn:l.length=n
 induction n using Nat.strongRecOn generalizing l with
 | _ n ih=>
  by_cases h:nxt l=0
  ·exact h0 l h
  ·have:=ztL l;exact h1 l h (ih _ (by simp only [yl];omega) _ rfl)
def zlK (l:List UInt8):Bool:=decide ((pre4 l).1=l.length)
def enc (v:Nat):List UInt8:=if v<128 then [UInt8.ofNat v] else UInt8.ofNat (128+v%128)::enc (v/128)
termination_by v
decreasing_by omega
def scan:Nat->Nat->List UInt8->Unit⊕(Int×Int×Int)
 | _,_,[]=> .inl ()
 | i,acc,c::t=>if i=9/\1<c.toNat then .inr (0,0,4) else if c.toNat<128 then .inr (((acc+c.toNat%128*128^i:Nat):Int),((i+1:Nat):Int),0) else scan (i+1) (acc+c.toNat%128*128^i) t
def rdR:Unit⊕(Int×Int×Int)->Int×Int×Int
 | .inl _=>(0,0,3)
 | .inr r=>r
def rd (b:List UInt8):Int×Int×Int:=rdR (scan 0 0 (b.take 10))
def hor:List UInt8->Nat
 | []=>0
 | c::t=>c.toNat%128+128*hor t
def lead:Nat->List UInt8->Nat
 | 0,_=>0
 | _+1,[]=>0
 | k+1,c::t=>if 128<=c.toNat then lead k t+1 else 0
theorem zGf (i:Nat):2^(7*i)=128^i:=by rw [Nat.pow_mul]
theorem zES (c:Nat):c&&&127=c%128:=uq c 7
theorem zCe {acc i c:Nat} (hi:i<=9) (hacc:acc<128^i) (hc:c<256) (h9:i=9->c<=1):
  orI .u64 (acc:Int) (shlI .u64 (IntKind.u64.wrap (andI .u8 (c:Int) 127)) ((7*i:Nat):Int))=((acc+c%128*128^i:Nat):Int):=by
 have e1:andI .u8 (c:Int) 127=((c%128:Nat):Int):=by
  have:=zxm (k:= .u8) rfl (a:=c) (b:=127) (by simpa [IntKind.bits] using hc) (by simp [IntKind.bits]);rw [zES] at this;exact this
 have hp:128^i<=128^9:=pU (by omega) hi;have hlt:c%128*128^i<18446744073709551616:=by
  by_cases h:i=9
  ·subst h;have:=h9 rfl;have h2:c%128<=1:=by omega
   have:=x9 (128^9) h2;omega
  ·have h3:128^i<=128^8:=pU (by omega) (by omega);have:=Nat.mul_le_mul (show c%128<=127 by omega) h3;omega
 have e2:shlI .u64 (IntKind.u64.wrap ((c%128:Nat):Int)) ((7*i:Nat):Int)=((c%128*128^i:Nat):Int):=by
  unfold shlI;rw [zqW rfl (by simp [IntKind.bits];omega),yp,yM (by simp [IntKind.bits];omega)];have h4:((c%128:Nat):Int)*2^(7*i)=((c%128*128^i:Nat):Int):=by rw [<-zGf];push_cast;rfl
  rw [h4];exact zqW rfl (by simpa [IntKind.bits] using hlt)
 rw [e1,e2,zAZ rfl (by simp [IntKind.bits];omega) (by simpa [IntKind.bits] using hlt)];congr 1;rw [<-zGf] at hacc|-;exact zyj _ _ _ hacc
theorem zCd:∀(t:List UInt8) (v:List UInt8) (i acc:Nat),v.drop i=t->i+t.length=v.length->v.length<=10->acc<128^i->zgt v acc i=some (scan i acc t):=by
 intro t
 induction t with
 | nil=>
  intro v i acc _ hl _ _;refine zin ?_;unfold zcN;rw [itF (by simp at hl|-;omega)];rfl
 | cons c t ih=>
  intro v i acc hd hl hv hacc;simp only [yi] at hl;have hget:v[i]'(by omega)=c:=by
   have h1:v.drop i=v[i]'(by omega)::v.drop (i+1):=xT (by omega);rw [hd] at h1;exact (List.cons.inj h1).1.symm
  have hd':v.drop (i+1)=t:=by rw [<-qD,hd];rfl
  have hc:=c.toNat_lt;have hb:zcN v acc i=if i=9/\1<c.toNat then some (.inr (.inr (0,0,4))) else if c.toNat<128 then some (.inr (.inr (((acc+c.toNat%128*128^i:Nat):Int),((i+1:Nat):Int),0))) else some (.inl (((acc+c.toNat%128*128^i:Nat):Int),((i+1:Nat):Int))):=by
   unfold zcN;rw [uv,zah rfl (show i<v.length by omega),sb,hget];by_cases h9:i=9/\1<c.toNat
   ·rw [xr h9,uv]
   ·rw [xq h9,uw,uy];have e:((7:Int)*(i:Int))=((7*i:Nat):Int):=by push_cast;rfl
    rw [e,zEs,sb,zCe (by omega) hacc (by omega) (by omega),uy];by_cases h8:c.toNat<128
    ·rw [xr h8,uv];push_cast;rfl
    ·rw [xq h8,uw];push_cast;rfl
  rw [scan];split at hb
  ·rename_i h9;rw [xr h9];exact zin hb
  ·rename_i h9;rw [xq h9];split at hb
   ·rename_i h8;rw [xr h8];exact zin hb
   ·rename_i h8;rw [xq h8,zqb hb];refine ih v (i+1) _ hd' (by omega) hv ?_;rw [pw];have:=x9 (128^i) (show c.toNat%128<=127 by omega);omega
theorem zwM (b:List UInt8):zhu b=some (rd b):=by
 unfold zhu rd;have e:(if (10:Int)<(b.length:Int) then (10:Int) else (b.length:Int))=((min 10 b.length:Nat):Int):=by split<;>omega
 have e2:b.take (min 10 b.length)=b.take 10:=by rw [List.take_eq_take_iff];omega
 rw [e,znF rfl (by omega),sb,e2];have h:=zCd (b.take 10) (b.take 10) 0 0 rfl (by simp) (by simp;omega) (by simp);have h':zgt (b.take 10) 0 0=some (scan 0 0 (b.take 10)):=h;rw [h',sb];cases scan 0 0 (b.take 10)<;>rfl
theorem zFH (b:List UInt8):zjX b=some ((rd b).2.1,(rd b).2.2):=by unfold zjX;rw [zwM,sb]
theorem zAK:∀(k:Nat) (l:List UInt8),lead k l<=k/\lead k l<=l.length
 | 0,_=>⟨xx _,xG _⟩
 | _+1,[]=>⟨xG _,xx _⟩
 | k+1,c::t=>by
  have:=zAK k t;rw [lead];split<;>simp<;>omega
theorem zCh:∀(l:List UInt8) (i acc:Nat),i+l.length<=10->i<=9->
  scan i acc l=if i+lead (10 - i) l=10 then .inr (0,0,4) else if lead (10 - i) l=l.length then .inl () else if i+lead (10 - i) l=9/\1<(l.getD (lead (10 - i) l) 0).toNat then .inr (0,0,4) else
   .inr (((acc+hor (l.take (lead (10 - i) l+1))*128^i:Nat):Int),((i+lead (10 - i) l+1:Nat):Int),0):=by
 intro l
 induction l with
 | nil=>
  intro i acc _ hi;obtain ⟨k,hk⟩:∃k,10 - i=k+1:=⟨9 - i,by omega⟩;rw [hk];simp only [lead,scan,q8];rw [xq (by omega),xr trivial]
 | cons c t ih=>
  intro i acc hl hi;obtain ⟨k,hk⟩:∃k,10 - i=k+1:=⟨9 - i,by omega⟩;simp only [yi] at hl;rw [scan];by_cases hc:128<=c.toNat
  ·have e:lead (10 - i) (c::t)=lead k t+1:=by rw [hk,lead,xr hc]
   rw [e];by_cases h9:i=9
   ·have:k=0:=by omega
    subst this;rw [xr ⟨h9,by omega⟩,lead,xr (by omega)]
   ·rw [xq (by omega),xq (by omega),ih (i+1) _ (by omega) (by omega),show 10 - (i+1)=k by omega];by_cases h1:i+1+lead k t=10
    ·rw [xr h1,xr (show i+(lead k t+1)=10 by omega)]
    ·rw [xq h1,xq (show ¬i+(lead k t+1)=10 by omega)];by_cases h2:lead k t=t.length
     ·rw [xr h2,xr (show lead k t+1=(c::t).length by simp;omega)]
     ·rw [xq h2,xq (show ¬lead k t+1=(c::t).length by simp;omega)];have eg:(c::t).getD (lead k t+1) 0=t.getD (lead k t) 0:=by simp [List.getD]
      rw [eg];by_cases h3:i+1+lead k t=9/\1<(t.getD (lead k t) 0).toNat
      ·rw [xr h3,xr (show i+(lead k t+1)=9/\1<(t.getD (lead k t) 0).toNat by omega)]
      ·rw [xq h3,xq (show ¬(i+(lead k t+1)=9/\1<(t.getD (lead k t) 0).toNat) by omega)];rw [qK,hor,pw];have e5:acc+c.toNat%128*128^i+hor (t.take (lead k t+1))*(128^i*128)=acc+(c.toNat%128+128*hor (t.take (lead k t+1)))*128^i:=by
        rw [Nat.add_mul,px 128,pt (128^i) 128,<-px,pt _ 128,px];omega
       rw [e5];congr 3;omega
  ·have e:lead (10 - i) (c::t)=0:=by rw [hk,lead,xq hc]
   rw [e];simp only [yG,yi,List.getD_cons_zero];rw [xq (show ¬i=10 by omega),xq (show ¬0=t.length+1 by omega)];by_cases h9:i=9/\1<c.toNat
   ·rw [xr h9,xr h9]
   ·rw [xq h9,xq h9,xr (show c.toNat<128 by omega)];simp [hor]
theorem zzs (x y:List UInt8):hor (x++y)=hor x+128^x.length*hor y:=by
 induction x with
 | nil=>simp [hor]
 | cons c t ih=>simp only [yo,hor,ih,yi,pw,Nat.mul_add];rw [pt (128^t.length) 128,px];omega
theorem zGt (l:List UInt8):hor l<128^l.length:=by
 induction l with
 | nil=>simp [hor]
 | cons c t ih=>simp only [hor,yi,pw];omega
theorem zGZ (hn:n<=9) (hC:C<256) (h9:¬(n=9/\1<C)) (hX:X<128^n):X+128^n*(C%128)<18446744073709551616:=by
 by_cases h9':n=9
 ·subst h9';have:C%128<=1:=by omega
  have:=pJ (128^9) this;omega
 ·have h5:128^n<=128^8:=pU (by omega) (by omega);have h6:C%128<=127:=by omega
  have:=Nat.mul_le_mul h5 h6;omega
theorem zvs:∀(k:Nat) (l:List UInt8),lead k (l.take k)=lead k l
 | 0,_=>rfl
 | _+1,[]=>rfl
 | k+1,c::t=>by simp only [qK,lead,zvs k t]
theorem zvr:∀(k:Nat) (l:List UInt8),(∀y∈l.take (lead k l),128<=y.toNat)/\∀(h:lead k l<l.length),lead k l<k->(l[lead k l]).toNat<128
 | 0,_=>⟨fun y hy=>by simp [lead] at hy,fun _ h=>by omega⟩
 | _+1,[]=>⟨fun y hy=>by simp at hy,fun h=>by simp at h⟩
 | k+1,c::t=>by
  obtain ⟨h1,h2⟩:=zvr k t;by_cases hc:128<=c.toNat
  ·have e:lead (k+1) (c::t)=lead k t+1:=by rw [lead,xr hc]
   constructor
   ·rw [e,qK];intro y hy;cases hy with
    | head=>exact hc
    | tail _ hy=>exact h1 y hy
   ·simp only [e,py,yi];intro h hk;exact h2 (by omega) (by omega)
  ·have e:lead (k+1) (c::t)=0:=by rw [lead,xq hc]
   constructor
   ·rw [e];intro y hy;simp at hy
   ·simp only [e];intro _ _;simp;omega
theorem zEm (b:List UInt8):rd b=(0,0,4)\/(rd b=(0,0,3)/\b.length<=9)\/
  ∃x c y,b=x++c::y/\(∀z∈x,128<=z.toNat)/\c.toNat<128/\x.length<=9/\hor (x++[c])<18446744073709551616/\rd b=(((hor (x++[c]):Nat):Int),((x.length+1:Nat):Int),0):=by
 have hle:=zAK 10 b;have hs:=zCh (b.take 10) 0 0 (by simp;omega) (by omega);simp only [xK,qC,zvs,Nat.pow_zero,qE] at hs;unfold rd;rw [hs];by_cases h10:lead 10 b=10
 ·rw [xr h10];exact .inl rfl
 ·rw [xq h10];by_cases hl:lead 10 b=(b.take 10).length
  ·rw [xr hl];refine .inr (.inl ⟨rfl,?_⟩);rw [xM] at hl;omega
  ·rw [xq hl];rw [xM] at hl;have hlt:lead 10 b<b.length:=by omega
   have hg:(b.take 10).getD (lead 10 b) 0=b[lead 10 b]:=by
    rw [pc,yf,xr (by omega),xF hlt];rfl
   rw [hg,qX,yM (by omega)];have hc:=(b[lead 10 b]).toNat_lt;by_cases h9:lead 10 b=9/\1<(b[lead 10 b]).toNat
   ·rw [xr h9];exact .inl rfl
   ·rw [xq h9];obtain ⟨hf1,hf2⟩:=zvr 10 b;have hsp:b.take (lead 10 b+1)=b.take (lead 10 b)++[b[lead 10 b]]:=by
     rw [List.take_add_one,xF hlt];rfl
    have hlen:(b.take (lead 10 b)).length=lead 10 b:=by rw [xM];omega
    refine .inr (.inr ⟨b.take (lead 10 b),b[lead 10 b],b.drop (lead 10 b+1),?_,hf1,hf2 hlt (by omega),by omega,?_,?_⟩)
    ·rw [<-xT hlt,qm]
    ·rw [zzs];have h3:=zGt (b.take (lead 10 b));rw [hlen] at h3|-;simp only [hor,Nat.mul_zero,yG];exact zGZ (by omega) (by omega) h9 h3
    ·rw [hsp,hlen];simp [rdR]
def ziO (n w:Int):Bool:=decide (1<=n/\n<=536870911/\(w=0\/w=1\/w=2\/w=5))
def tgR (r:Int×Int×Int):Int×Int×Int×Int:=
 if r.2.2≠0 then (0,0,0,r.2.2) else if 4294967295<r.1\/ziO (r.1/8) (r.1%8)=false then (0,0,0,5) else (r.1/8,r.1%8,r.2.1,0)
def tg (l:List UInt8):Int×Int×Int×Int:=tgR (rd l)
theorem zzY {n w:Int}:ziO n w=true↔1<=n/\n<=536870911/\(w=0\/w=1\/w=2\/w=5):=by simp [ziO]
theorem zmj (l:List UInt8):0<=(rd l).1/\(rd l).1<18446744073709551616/\0<=(rd l).2.1/\(rd l).2.1<=10/\(rd l).2.1<=l.length/\((rd l).2.2=0\/(rd l).2.2=3\/(rd l).2.2=4)/\((rd l).2.2=0->1<=(rd l).2.1):=by
 rcases zEm l with h| ⟨h,_⟩| ⟨x,c,y,e,_,_,hl,hv,h⟩
 ·rw [h];simp
 ·rw [h];simp
 ·have:l.length=x.length+1+y.length:=by rw [e];simp;omega
  rw [h];refine ⟨?_,?_,?_,?_,?_,.inl rfl,fun _=>?_⟩<;>simp only<;>omega
theorem zBh (h:r.2.2≠0):tgR r=(0,0,0,r.2.2):=xr h
theorem zus (h:r.2.2=0) (h2:4294967295<r.1\/ziO (r.1/8) (r.1%8)=false):tgR r=(0,0,0,5):=by unfold tgR;rw [xq (by simp [h]),xr h2]
theorem zEF (h:r.2.2=0) (h2:¬(4294967295<r.1\/ziO (r.1/8) (r.1%8)=false)):tgR r=(r.1/8,r.1%8,r.2.1,0):=by unfold tgR;rw [xq (by simp [h]),xq h2]
theorem zyC (l:List UInt8):(∃c,tg l=(0,0,0,c)/\(c=3\/c=4\/c=5))\/∃n w k,tg l=(n,w,k,0)/\ziO n w=true/\1<=k/\k<=10/\k<=l.length/\rd l=(8*n+w,k,0):=by
 obtain ⟨h1,h2,h3,h4,h5,h6,h7⟩:=zmj l;unfold tg;by_cases h:(rd l).2.2=0
 ·by_cases hg:4294967295<(rd l).1\/ziO ((rd l).1/8) ((rd l).1%8)=false
  ·exact .inl ⟨5,zus h hg,by omega⟩
  ·refine .inr ⟨_,_,_,zEF h hg,?_,h7 h,h4,h5,?_⟩
   ·cases ht:ziO ((rd l).1/8) ((rd l).1%8)
    ·exact absurd (.inr ht) hg
    ·rfl
   ·refine Prod.ext ?_ (Prod.ext rfl h);simp only;omega
 ·exact .inl ⟨_,zBh h,by omega⟩
abbrev Rec:=zad
def znd (w:Int) (k:Nat) (m:List UInt8):Int⊕(Nat×Nat):=
 if w=0 then (if (rd m).2.2≠0 then .inl (rd m).2.2 else .inr (k,k+(rd m).2.1.toNat))
 else if w=2 then (if (rd m).2.2≠0 then .inl (rd m).2.2 else if (m.length:Int) - (rd m).2.1<(rd m).1 then .inl 3 else .inr (k+(rd m).2.1.toNat,k+(rd m).2.1.toNat+(rd m).1.toNat))
 else if m.length<(if w=5 then 4 else 8) then .inl 3 else .inr (k,k+(if w=5 then 4 else 8))
def rec5 (l:List UInt8):Int⊕(Int×Int×Nat×Nat):=
 if (tg l).2.2.2≠0 then .inl (tg l).2.2.2 else match znd (tg l).2.1 (tg l).2.2.1.toNat (l.drop (tg l).2.2.1.toNat) with
  | .inl c=> .inl c
  | .inr p=> .inr ((tg l).1,(tg l).2.1,p.1,p.2)
theorem zrO (w:Int) (k:Nat) (m:List UInt8):(∃c,znd w k m= .inl c/\(c=3\/c=4))\/
  ∃a t,znd w k m= .inr (a,t)/\k<=a/\a<=t/\t<=k+m.length/\
   (w=0/\a=k/\(rd m).2.2=0/\((t - k:Nat):Int)=(rd m).2.1/\k<t\/w=2/\(rd m).2.2=0/\((a - k:Nat):Int)=(rd m).2.1/\((t - a:Nat):Int)=(rd m).1\/w≠0/\w≠2/\a=k/\t=k+(if w=5 then 4 else 8)):=by
 obtain ⟨h1,h2,h3,h4,h5,h6,h7⟩:=zmj m;unfold znd;by_cases w0:w=0
 ·rw [xr w0];by_cases h:(rd m).2.2=0
  ·have:=h7 h;rw [xq (by simpa using h)];exact .inr ⟨_,_,rfl,xx _,by omega,by omega,.inl ⟨w0,rfl,h,by omega,by omega⟩⟩
  ·rw [xr h];exact .inl ⟨_,rfl,by omega⟩
 ·rw [xq w0];by_cases w2:w=2
  ·rw [xr w2];by_cases h:(rd m).2.2=0
   ·rw [xq (by simpa using h)];by_cases h8:(m.length:Int) - (rd m).2.1<(rd m).1
    ·rw [xr h8];exact .inl ⟨_,rfl,by omega⟩
    ·rw [xq h8];exact .inr ⟨_,_,rfl,by omega,by omega,by omega,.inr (.inl ⟨w2,h,by omega,by omega⟩)⟩
   ·rw [xr h];exact .inl ⟨_,rfl,by omega⟩
  ·rw [xq w2];by_cases h8:m.length<(if w=5 then 4 else 8)
   ·rw [xr h8];exact .inl ⟨_,rfl,by omega⟩
   ·rw [xq h8];exact .inr ⟨_,_,rfl,xx _,by omega,by omega,.inr (.inr ⟨w0,w2,rfl,rfl⟩)⟩
theorem zzR (l:List UInt8):(∃c,rec5 l= .inl c/\(c=3\/c=4\/c=5))\/
  ∃(n w:Int) (k a t:Nat),rec5 l= .inr (n,w,a,t)/\tg l=(n,w,(k:Int),0)/\ziO n w=true/\znd w k (l.drop k)= .inr (a,t)/\1<=k/\k<=l.length/\k<=a/\a<=t/\t<=l.length/\rd l=(8*n+w,(k:Int),0):=by
 rcases zyC l with ⟨c,h,hc⟩| ⟨n,w,k,h,hr,k1,k2,k3,hrd⟩
 ·refine .inl ⟨c,?_,hc⟩;unfold rec5;rw [h,xr (by simp only;omega)]
 ·obtain ⟨k,rfl⟩:∃j:Nat,k=j:=⟨k.toNat,by omega⟩
  have e:rec5 l=match znd w k (l.drop k) with
   | .inl c=> .inl c
   | .inr p=> .inr (n,w,p.1,p.2):=by unfold rec5;rw [h];simp
  rcases zrO w k (l.drop k) with ⟨c,h2,hc⟩| ⟨a,t,h2,g1,g2,g3,_⟩
  ·exact .inl ⟨c,by rw [e,h2],by omega⟩
  ·simp only [yl] at g3;exact .inr ⟨n,w,k,a,t,by rw [e,h2],h,hr,h2,by omega,by omega,g1,g2,by omega,hrd⟩
def zrec:Rec:=⟨0,0,0,0,0⟩
def zvz (b:List UInt8) (at5:Int):Rec×Int:=if at5<0\/at5>=b.length then (zrec,2) else match rec5 (b.drop at5.toNat) with
 | .inl c=>(zrec,c)
 | .inr (n,w,a,t)=>(⟨n,w,at5,at5+a,at5+t⟩,0)
def spl (base:Nat) (l:List UInt8):List Rec×Option (Nat×Int):=
 if hl:l=[] then ([],none) else match h:rec5 l with
  | .inl c=>([],some (base,c))
  | .inr (n,w,a,t)=>(⟨n,w,base,(base+a:Nat),(base+t:Nat)⟩::(spl (base+t) (l.drop t)).1,(spl (base+t) (l.drop t)).2)
termination_by l.length
decreasing_by
 all_goals
  rcases zzR l with ⟨c',h',_⟩| ⟨n',w',k',a',t',h',_,_,_,g1,g2,g3,g4,g5,_⟩
  ·rw [h'] at h;cases h
  ·rw [h'] at h;cases h;simp only [yl];omega
def zHh (w:Int) (v:List UInt8):Bool:=
 if w=0 then decide ((rd v).2.2=0/\(rd v).2.1=v.length) else decide (w=2\/w=1/\v.length=8\/w=5/\v.length=4)
theorem zDA :kNum k=true↔1<=k/\k<=14:=by simp [kNum]
def zBj (k:Int) (l:List UInt8):Int⊕Nat:=
 if k<9 then (if (rd l).2.2≠0 then .inl (rd l).2.2 else .inr (rd l).2.1.toNat) else if l.length<(if k<12 then 4 else 8) then .inl 3 else .inr (if k<12 then 4 else 8)
theorem zyH (k:Int) (l:List UInt8):(∃c,zBj k l= .inl c/\(c=3\/c=4))\/∃n,zBj k l= .inr n/\1<=n/\n<=l.length/\n<=10/\(k<9/\(rd l).2.2=0/\(rd l).2.1=(n:Int)\/¬k<9/\n=(if k<12 then 4 else 8)):=by
 obtain ⟨h1,h2,h3,h4,h5,h6,h7⟩:=zmj l;unfold zBj;by_cases h:k<9
 ·rw [xr h];by_cases h0:(rd l).2.2=0
  ·have:=h7 h0;rw [xq (by simpa using h0)];exact .inr ⟨_,rfl,by omega,by omega,by omega,.inl ⟨h,h0,by omega⟩⟩
  ·rw [xr h0];exact .inl ⟨_,rfl,by omega⟩
 ·rw [xq h];by_cases h8:l.length<(if k<12 then 4 else 8)
  ·rw [xr h8];exact .inl ⟨_,rfl,by omega⟩
  ·rw [xq h8];exact .inr ⟨_,rfl,by split<;>omega,by omega,by split<;>omega,.inr ⟨h,rfl⟩⟩
def pcs (k:Int) (l:List UInt8):List (List UInt8)×Int:=
 if hl:l=[] then ([],0) else match h:zBj k l with
  | .inl c=>([],c)
  | .inr n=>(l.take n::(pcs k (l.drop n)).1,(pcs k (l.drop n)).2)
termination_by l.length
decreasing_by
 all_goals
  rcases zyH k l with ⟨c',h',_⟩| ⟨n',h',g1,g2,_⟩
  ·rw [h'] at h;cases h
  ·rw [h'] at h;cases h;simp only [yl];omega
def ends (base:Nat):List (List UInt8)->List Int
 | []=>[]
 | p::ps=>((base+p.length:Nat):Int)::ends (base+p.length) ps
def zCU (k:Int) (b:List UInt8):List Int×Int:=if kNum k=false then ([],2) else if (pcs k b).2=0 then (ends 0 (pcs k b).1,0) else ([],(pcs k b).2)
def zaU (m:Mes) (i:Int):Fld:=m.Fields.getD i.toNat ⟨[],0,0,false,false,0⟩
def vw (m:Mes) (n w:Int):Int⊕(Int×Bool):=
 if fldI m n<0 then .inr (-1,false)
 else if (zaU m (fldI m n)).Repeated=true/\kNum (zaU m (fldI m n)).Kind=true/\w=2 then .inr (fldI m n,true)
 else if zfa (zaU m (fldI m n)).Kind=false\/zvo (zaU m (fldI m n)).Kind≠w then .inl 6 else .inr (fldI m n,false)
theorem ztj (m:Mes) (n:Int):fldI m n= -1/\(∀f∈m.Fields,f.Number≠n)\/∃(i:Nat) (h:i<m.Fields.length),fldI m n=i/\m.Fields[i].Number=n/\∀(j:Nat) (h:j<m.Fields.length),j<i->m.Fields[j].Number≠n:=by
 unfold fldI;cases h:m.Fields.findIdx? (fun f:Fld=>f.Number==n) with
 | none=>
  left;rw [pu] at h;exact ⟨zlj (pu.2 h),fun f hf=>by simpa using h f hf⟩
 | some i=>
  right;have h':=h;rw [pv] at h;obtain ⟨hi,hp,hj⟩:=h;exact ⟨i,hi,zlk h',by simpa using hp,fun j hjl hji=>by simpa using hj j hji⟩
theorem zDe {m:Mes} {i:Nat} (h:i<m.Fields.length):zaU m (i:Int)=m.Fields[i]:=by
 unfold zaU;rw [yp,pc,xF h];rfl
def zaE (s:List Mes) (i:Int):Mes:=s.getD i.toNat ⟨[],[]⟩
theorem zmf {s:List Mes} {i:Nat} (h:i<s.length):zaE s (i:Int)=s[i]:=by
 unfold zaE;rw [yp,pc,xF h];rfl
def valB (b:List UInt8) (r:Rec):List UInt8:=(b.drop r.At.toNat).take (r.To.toNat - r.At.toNat)
abbrev zCE:=Option (Int->List UInt8->Option (Int×Int))
def zGC (f:Fld) (run:Bool) (sub:zCE) (r:Rec) (v:List UInt8):Option (Int×Int):=
 if run=true then (if (zCU f.Kind v).2≠0 then some (r.From,(zCU f.Kind v).2) else none)
 else if f.Kind=15/\zlK v=false then some (r.From,7)
 else if f.Kind=17 then (match sub with
  | none=>some (r.From,8)
  | some g=>match g f.Of v with
   | some (p,c)=>some (r.At+p,c)
   | none=>none)
 else none
def zGV (m:Mes) (sub:zCE) (b:List UInt8) (r:Rec):Option (Int×Int):=match vw m r.Number r.Wire with
 | .inl c=>some (r.From,c)
 | .inr (i,run)=>if i<0 then none else zGC (zaU m i) run sub r (valB b r)
def zDg (m:Mes) (sub:zCE) (b:List UInt8) (x:List Rec×Option (Nat×Int)):Option (Int×Int):=match x.1.findSome? (zGV m sub b) with
 | some p=>some p
 | none=>x.2.map fun p=>((p.1:Int),p.2)
def zwm (s:List Mes):Nat->Int->List UInt8->Option (Int×Int)
 | 0,k,b=>zDg (zaE s k) none b (spl 0 b)
 | d+1,k,b=>zDg (zaE s k) (some (zwm s d)) b (spl 0 b)
def argS (s:List Mes) (root d:Int):Int:=if zfp s=false then 9 else if root<0\/root>=s.length\/d<0\/d>64 then 2 else 0
theorem zBt (h:argS s root d=0):zmA s/\0<=root/\root<s.length/\0<=d/\d<=64:=by
 unfold argS at h;split at h
 ·omega
 ·rename_i h1;split at h
  ·omega
  ·rename_i h2;exact ⟨zvK (by simpa using h1),by omega⟩
abbrev zE:=List Int
def begB (way w:zE):Bool:=w.isPrefixOf way
theorem zkD {way w:zE}:begB way w=true↔w<+:way:=List.isPrefixOf_iff_prefix
def zcH:zE->zE->Bool
 | [],b=> !b.isEmpty
 | _::_,[]=>false
 | x::a,y::b=>if x=y then zcH a b else decide (x<y)
theorem zhw:∀(a:zE),zcH a a=false
 | []=>rfl
 | x::a=>by rw [zcH,xr rfl,zhw a]
theorem zls:∀(a b c:zE),zcH a b=true->zcH b c=true->zcH a c=true
 | [],b,c,h1,h2=>by
  cases c with
  | nil=>cases b<;>simp [zcH] at h2
  | cons=>rfl
 | _::_,[],_,h1,_=>by simp [zcH] at h1
 | _::_,_::_,[],_,h2=>by simp [zcH] at h2
 | x::a,y::b,z::c,h1,h2=>by
  rw [zcH] at h1 h2|-;by_cases hxy:x=y
  ·rw [xr hxy] at h1;by_cases hyz:y=z
   ·rw [xr hyz] at h2;rw [xr (hxy.trans hyz)];exact zls a b c h1 h2
   ·rw [xq hyz] at h2;rw [xq (by rw [hxy];exact hyz),hxy];exact h2
  ·rw [xq hxy] at h1;have h1':x<y:=by simpa using h1
   by_cases hyz:y=z
   ·rw [xq (by rw [<-hyz];exact hxy),<-hyz];exact h1
   ·rw [xq hyz] at h2;have h2':y<z:=by simpa using h2
    rw [xq (by omega)];simp;omega
theorem zrT:∀(a b:zE),a≠b->zcH a b=true\/zcH b a=true
 | [],[],h=>absurd rfl h
 | [],_::_,_=> .inl rfl
 | _::_,[],_=> .inr rfl
 | x::a,y::b,h=>by
  rw [zcH,zcH];by_cases hxy:x=y
  ·rw [xr hxy,xr hxy.symm];exact zrT a b (fun e=>h (by rw [hxy,e]))
  ·rw [xq hxy,xq (fun e=>hxy e.symm)];rcases Int.lt_or_gt_of_ne hxy with h'| h'
   ·left;simpa using h'
   ·right;simpa using h'
theorem zxZ {a b:zE} (h:zcH a b=true):zcH b a=false:=by
 cases hb:zcH b a with
 | false=>rfl
 | true=>have:=zls a b a h hb;rw [zhw] at this;cases this
theorem zoo:∀(l k:List zE),l.Pairwise (fun a b=>zcH a b=true)->k.Pairwise (fun a b=>zcH a b=true)->(∀w,w∈l↔w∈k)->l=k
 | [],[],_,_,_=>rfl
 | [],y::k,_,_,h=>absurd ((h y).2 xt) (by simp)
 | x::l,[],_,_,h=>absurd ((h x).1 xt) (by simp)
 | x::l,y::k,hl,hk,h=>by
  have hl':=yj.1 hl;have hk':=yj.1 hk;have hxy:x=y:=by
   rcases xw.1 ((h x).1 xt) with h1| h1
   ·exact h1
   ·rcases xw.1 ((h y).2 xt) with h2| h2
    ·exact h2.symm
    ·have a1:=hk'.1 x h1;have a2:=hl'.1 y h2;rw [zxZ a1] at a2;cases a2
  subst hxy;congr 1;refine zoo l k hl'.2 hk'.2 fun w=>?_
  have nl:x∉l:=fun hm=>by have:=hl'.1 x hm;rw [zhw] at this;cases this
  have nk:x∉k:=fun hm=>by have:=hk'.1 x hm;rw [zhw] at this;cases this
  have:=h w;simp only [xw] at this;constructor
  ·intro hw;rcases this.1 (.inr hw) with rfl| h'
   ·exact absurd hw nl
   ·exact h'
  ·intro hw;rcases this.2 (.inr hw) with rfl| h'
   ·exact absurd hw nk
   ·exact h'
def zBa (ways:List zE) (i:Nat) (w:zE) (k:Nat) (v:zE):Bool:=decide (k≠i)&& !v.isEmpty&&begB w v&&(decide (v.length<w.length)|| decide (k<i))
def badW (ways:List zE) (i:Nat) (w:zE):Nat->List zE->Bool
 | _,[]=>false
 | k,v::l=>zBa ways i w k v|| badW ways i w (k+1) l
def insL (w:zE) (out:List zE):List zE:=out.takeWhile (fun x=>zcH x w)++w::out.dropWhile (fun x=>zcH x w)
def ofK (ways:List zE):Nat->List zE
 | 0=>[]
 | i+1=>match ways[i]? with
  | some w=>if !w.isEmpty&& !badW ways i w 0 ways then insL w (ofK ways i) else ofK ways i
  | none=>ofK ways i
def ofW (ways:List zE):List zE:=ofK ways ways.length
theorem zDn {w x:zE} {out:List zE}:x∈insL w out↔x=w\/x∈out:=by
 unfold insL;have hs:out.takeWhile (fun x=>zcH x w)++out.dropWhile (fun x=>zcH x w)=out:=pV;constructor
 ·intro h;rcases xz.1 h with h| h
  ·exact .inr (by rw [<-hs];exact xN _ h)
  ·rcases xw.1 h with h| h
   ·exact .inl h
   ·exact .inr (by rw [<-hs];exact xO _ h)
 ·intro h;rcases h with rfl| h
  ·exact xO _ xt
  ·rw [<-hs] at h;rcases xz.1 h with h| h
   ·exact xN _ h
   ·exact xO _ (xu _ h)
theorem zzZ {w:zE}:∀{l:List zE},∀x∈l.takeWhile (fun x=>zcH x w),zcH x w=true:=by
 intro l
 induction l with
 | nil=>intro x hx;simp at hx
 | cons y l ih=>
  intro x hx;rw [List.takeWhile_cons] at hx;by_cases hy:zcH y w=true
  ·rw [xr hy] at hx;rcases xw.1 hx with rfl| hx
   ·exact hy
   ·exact ih x hx
  ·rw [xq hy] at hx;cases hx
theorem zzn {w:zE}:∀{l:List zE},l.Pairwise (fun a b=>zcH a b=true)->(w∉l)->∀x∈l.dropWhile (fun x=>zcH x w),zcH w x=true:=by
 intro l
 induction l with
 | nil=>intro _ _ x hx;simp at hx
 | cons y l ih=>
  intro hp hn x hx;rw [List.dropWhile_cons] at hx;have hp':=yj.1 hp;by_cases hy:zcH y w=true
  ·rw [xr hy] at hx;exact ih hp'.2 (fun h=>hn (xu _ h)) x hx
  ·rw [xq hy] at hx;have hwy:zcH w y=true:=by
    rcases zrT w y (fun e=>hn (by rw [e];exact xt)) with h| h
    ·exact h
    ·exact absurd h hy
   rcases xw.1 hx with rfl| hx
   ·exact hwy
   ·exact zls _ _ _ hwy (hp'.1 x hx)
theorem zxM {w:zE} {out:List zE} (hs:out.Pairwise (fun a b=>zcH a b=true)) (hn:w∉out):(insL w out).Pairwise (fun a b=>zcH a b=true):=by
 unfold insL;have hsp:out.takeWhile (fun x=>zcH x w)++out.dropWhile (fun x=>zcH x w)=out:=pV;have hp:(out.takeWhile (fun x=>zcH x w)++out.dropWhile (fun x=>zcH x w)).Pairwise (fun a b=>zcH a b=true):=by rw [hsp];exact hs
 rw [List.pairwise_append] at hp|-;have ht:=zzZ (w:=w) (l:=out);have hd:=zzn hs hn;refine ⟨hp.1,yj.2 ⟨hd,hp.2.1⟩,fun a ha b hb=>?_⟩;rcases xw.1 hb with rfl| hb
 ·exact ht a ha
 ·exact hp.2.2 a ha b hb
theorem zxr {ways:List zE} {i:Nat} {w:zE}:∀(l:List zE) (k:Nat),badW ways i w k l=true↔∃j v,l[j]? =some v/\zBa ways i w (k+j) v=true
 | [],k=>by simp [badW]
 | v::l,k=>by
  rw [badW,qk,zxr l (k+1)];constructor
  ·rintro (h| ⟨j,u,h1,h2⟩)
   ·exact ⟨0,v,rfl,by simpa using h⟩
   ·exact ⟨j+1,u,by simpa using h1,by rw [show k+(j+1)=k+1+j by omega];exact h2⟩
  ·rintro ⟨j,u,h1,h2⟩;cases j with
   | zero=>left;simp at h1;subst h1;simpa using h2
   | succ j=>right;exact ⟨j,u,by simpa using h1,by rw [show k+1+j=k+(j+1) by omega];exact h2⟩
def zra (ways:List zE) (w:zE):Prop:=w∈ways/\w≠[]/\∀v∈ways,v≠[]->v<+:w->v=w
theorem ztn {ways:List zE} {i:Nat} {w:zE} (hi:ways[i]? =some w):(!w.isEmpty&& !badW ways i w 0 ways)=true↔zra ways w/\∀j<i,ways[j]? ≠some w:=by
 rw [xy,yg,yg,<-qF,<-qF,zxr];have hw:w∈ways:=yE hi;have hok:∀(k:Nat) (v:zE),zBa ways i w k v=true↔k≠i/\v≠[]/\v<+:w/\(v.length<w.length\/k<i):=by
  intro k v;unfold zBa;simp only [xy,qk,xU,zkD,yg,qo];constructor
  ·rintro ⟨⟨⟨h1,h2⟩,h3⟩,h4⟩;exact ⟨h1,h2,h3,h4⟩
  ·rintro ⟨h1,h2,h3,h4⟩;exact ⟨⟨⟨h1,h2⟩,h3⟩,h4⟩
 constructor
 ·rintro ⟨h1,h2⟩;refine ⟨⟨hw,by simpa using h1,fun v hv hv0 hp=>?_⟩,fun j hj hje=>?_⟩
  ·obtain ⟨k,hk,rfl⟩:=yU hv;rcases yK (ways[k]).length w.length with hl| hl
   ·exfalso;refine h2 ⟨k,ways[k],xF hk,(hok _ _).2 ⟨fun e=>?_,hv0,hp,.inl hl⟩⟩;rw [xK] at e;subst e;rw [xF hk] at hi;cases hi;omega
   ·exact hp.eq_of_length (by have:=hp.length_le;omega)
  ·refine h2 ⟨j,w,hje,(hok _ _).2 ⟨by omega,by simpa using h1,y9 w,.inr (by omega)⟩⟩
 ·rintro ⟨⟨_,h1,h2⟩,h3⟩;refine ⟨by simpa using h1,?_⟩;rintro ⟨k,v,hk,hv⟩;rw [xK] at hv;obtain ⟨g1,g2,g3,g4⟩:=(hok _ _).1 hv;have:=h2 v (yE hk) g2 g3;subst this;rcases g4 with g4| g4
  ·omega
  ·exact h3 k g4 hk
theorem zwG {ways:List zE}:∀(i:Nat),i<=ways.length->∀w,w∈ofK ways i↔zra ways w/\∃j<i,ways[j]? =some w
 | 0,_,w=>by simp [ofK]
 | i+1,hi,w=>by
  have hil:i<ways.length:=hi;have ih:=zwG (ways:=ways) i (Nat.le_of_lt hil) w;obtain ⟨u,hg⟩:∃u,ways[i]? =some u:=⟨ways[i],xF hil⟩;rw [ofK,hg];simp only;by_cases hu:(!u.isEmpty&& !badW ways i u 0 ways)=true
  ·rw [xr hu,zDn,ih];obtain ⟨h1,h2⟩:=(ztn hg).1 hu;constructor
   ·rintro (rfl| ⟨h3,j,hj,hje⟩)
    ·exact ⟨h1,i,by omega,hg⟩
    ·exact ⟨h3,j,by omega,hje⟩
   ·rintro ⟨h3,j,hj,hje⟩;by_cases hji:j=i
    ·subst hji;rw [hg] at hje;cases hje;exact .inl rfl
    ·exact .inr ⟨h3,j,by omega,hje⟩
  ·rw [xq hu,ih];constructor
   ·rintro ⟨h3,j,hj,hje⟩;exact ⟨h3,j,by omega,hje⟩
   ·rintro ⟨h3,j,hj,hje⟩;by_cases hji:j=i
    ·subst hji;rw [hg] at hje;cases hje
     -- it stood there zCI
     have hn:¬∀k<j,ways[k]? ≠some w:=fun hk=>hu ((ztn hg).2 ⟨h3,hk⟩)
     simp only [Classical.not_forall,Classical.not_not] at hn;obtain ⟨k,hk,hke⟩:=hn;exact ⟨h3,k,hk,hke⟩
    ·exact ⟨h3,j,by omega,hje⟩
theorem zid {ways:List zE} {w:zE}:w∈ofW ways↔zra ways w:=by
 unfold ofW;rw [zwG _ (xx _)];refine ⟨fun h=>h.1,fun h=>⟨h,?_⟩⟩;obtain ⟨j,hj,rfl⟩:=yU h.1;exact ⟨j,hj,xF hj⟩
theorem ztM {ways:List zE}:∀(i:Nat),i<=ways.length->(ofK ways i).Pairwise (fun a b=>zcH a b=true)
 | 0,_=> .nil
 | i+1,hi=>by
  have hil:i<ways.length:=hi;have ih:=ztM (ways:=ways) i (Nat.le_of_lt hil);obtain ⟨u,hg⟩:∃u,ways[i]? =some u:=⟨ways[i],xF hil⟩;rw [ofK,hg];simp only;by_cases hu:(!u.isEmpty&& !badW ways i u 0 ways)=true
  ·rw [xr hu];obtain ⟨h1,h2⟩:=(ztn hg).1 hu;refine zxM ih fun hm=>?_
   obtain ⟨_,j,hj,hje⟩:=(zwG i (by omega) u).1 hm;exact h2 j hj hje
  ·rw [xq hu];exact ih
theorem zmR (ways:List zE):(ofW ways).Pairwise (fun a b=>zcH a b=true):=ztM _ (xx _)
theorem zAX {ways:List zE}:∀(i:Nat),(ofK ways i).length<=i
 | 0=>xx _
 | i+1=>by
  have ih:=zAX (ways:=ways) i;rw [ofK];split
  ·split
   ·unfold insL;have hs:∀(p:zE->Bool),((ofK ways i).takeWhile p).length+((ofK ways i).dropWhile p).length=(ofK ways i).length:=fun p=>by rw [<-yc,pV]
    rename_i w _ _;have:=hs (fun x=>zcH x w);simp only [yc,yi];omega
   ·omega
  ·omega
theorem zwH (ways:List zE):(ofW ways).length<=ways.length:=zAX _
def hasB (ways:List zE) (way:zE):Bool:=ways.any fun v=> !v.isEmpty&&begB way v
theorem zef {ways:List zE} {way:zE}:hasB ways way=true↔∃v∈ways,v≠[]/\v<+:way:=by
 unfold hasB;rw [pq];constructor
 ·rintro ⟨v,hv,h⟩;simp only [xy,zkD,yg,qo] at h;exact ⟨v,hv,h.1,h.2⟩
 ·rintro ⟨v,hv,h1,h2⟩;exact ⟨v,hv,by simp only [xy,zkD,yg,qo];exact ⟨h1,h2⟩⟩
theorem zzI {ways:List zE}:∀(n:Nat) (v:zE),v.length<=n->v∈ways->v≠[]->∃w,zra ways w/\w<+:v:=by
 intro n
 induction n with
 | zero=>intro v hv _ h0;exact absurd (ym (by omega)) h0
 | succ n ih=>
  intro v hv hm h0;by_cases h:∀u∈ways,u≠[]->u<+:v->u=v
  ·exact ⟨v,⟨hm,h0,h⟩,y9 v⟩
  ·simp only [Classical.not_forall] at h;obtain ⟨u,hu,hu0,hp,hne⟩:=h;have hl:u.length<v.length:=by
    rcases yK u.length v.length with h'| h'
    ·exact h'
    ·exact absurd (hp.eq_of_length (by have:=hp.length_le;omega)) hne
   obtain ⟨w,hw,hwp⟩:=ih u (by omega) hu hu0;exact ⟨w,hw,hwp.trans hp⟩
theorem zFg {ways:List zE} {way:zE}:hasB (ofW ways) way=hasB ways way:=by
 rw [yy,zef,zef];constructor
 ·rintro ⟨v,hv,h0,hp⟩;exact ⟨v,(zid.1 hv).1,h0,hp⟩
 ·rintro ⟨v,hv,h0,hp⟩;obtain ⟨w,hw,hwp⟩:=zzI v.length v (xx _) hv h0;exact ⟨w,zid.2 hw,hw.2.1,hwp.trans hp⟩
theorem ztN {a b:List zE} (h:∀way,hasB a way=hasB b way):ofW a=ofW b:=by
 have half:∀{a b:List zE},(∀way,hasB a way=hasB b way)->∀w,zra a w->zra b w:=by
  intro a b h w hw;have h1:hasB b w=true:=by rw [<-h];exact zef.2 ⟨w,hw.1,hw.2.1,y9 w⟩
  obtain ⟨v,hv,hv0,hvp⟩:=zef.1 h1;have h2:hasB a v=true:=by rw [h];exact zef.2 ⟨v,hv,hv0,y9 v⟩
  obtain ⟨u,hu,hu0,hup⟩:=zef.1 h2;have huw:=hw.2.2 u hu hu0 (hup.trans hvp);have hvw:v=w:=by
   subst huw;exact hvp.eq_of_length (by have:=hvp.length_le;have:=hup.length_le;omega)
  subst hvw;refine ⟨hv,hv0,fun x hx hx0 hxp=>?_⟩;have h3:hasB a x=true:=by rw [h];exact zef.2 ⟨x,hx,hx0,y9 x⟩
  obtain ⟨y,hy,hy0,hyp⟩:=zef.1 h3;have:=hw.2.2 y hy hy0 (hyp.trans hxp);subst this;exact hxp.eq_of_length (by have:=hyp.length_le;have:=hxp.length_le;omega)
 exact zoo _ _ (zmR a) (zmR b) fun w=>by rw [zid,zid];exact ⟨half h w,half (fun way=>(h way).symm) w⟩
theorem zFz (ways:List zE):ofW (ofW ways)=ofW ways:=ztN fun way=>zFg
def WW (ways:List zE):Prop:=ways.length<=5864062014634/\∀w∈ways,w.length<=17592186043904
def zfW (m:List zE) (n:Int):Bool:=m.any fun v=>v==[n]
def zrC (n:Int):zE->Option zE
 | x::y::v=>if x=n then some (y::v) else none
 | _=>none
def zfd (m:List zE) (n:Int):List zE:=m.filterMap (zrC n)
def ziF (s:List Mes) (root:Int):Int:=if zfp s=false then 9 else if root<0\/root>=s.length then 2 else 0
theorem zxq {s:List Mes} {root:Int} (h:ziF s root=0):zmA s/\0<=root/\root<s.length:=by
 unfold ziF at h;split at h
 ·omega
 ·rename_i h1;split at h
  ·omega
  ·exact ⟨zvK (by simpa using h1),by omega⟩
theorem zBX {l:List zE} (hl:l.length<=140737488351232):∃b,zfD l=some b:=by
 have key:∀(d i:Nat) (n:Int),i+d=l.length->∃r,zdq l n i=some r:=by
  intro d
  induction d with
  | zero=>
   intro i n hi;refine ⟨n,zlA ?_⟩;unfold zby;rw [uw]
  | succ d ih=>
   intro i n hi;have hil:i<l.length:=by omega
   obtain ⟨r,hr⟩:=ih (i+1) (IntKind.i64.wrap ((IntKind.i64.wrap (n+1))+((l[i]).length:Int))) (by omega);refine ⟨r,(zlz (i':=((i+1:Nat):Int)) ?_).trans hr⟩;unfold zby;rw [uv,zah rfl hil,sb,zI (x:=(i:Int)+1) (by omega)];push_cast;rfl
 obtain ⟨r,hr⟩:=key l.length 0 0 (by omega);have hr':zdq l 0 0=some r:=hr;exact ⟨_,by unfold zfD;rw [hr',sb]⟩
abbrev Msg:=zb
abbrev Vlu:=za
mutual
def szM:Msg->Nat
 | ⟨vs,_⟩=>1+szVs vs
def szVs:List Vlu->Nat
 | []=>0
 | v::l=>szV v+szVs l
def szV:Vlu->Nat
 | ⟨_,_,_,s⟩=>1+szMs s
def szMs:List Msg->Nat
 | []=>0
 | x::l=>szM x+szMs l
end
theorem zca (x:Msg):szM x=1+szVs x.Values:=by cases x;rw [szM]
theorem zdz (v:Vlu):szV v=1+szMs v.Subs:=by cases v;rw [szV]
theorem zdi :∀{l:List Vlu},v∈l->szV v<=szVs l
 | [],h=>by cases h
 | u::l,h=>by
  rw [szVs];rcases xw.1 h with rfl| h
  ·omega
  ·have:=zdi h;omega
theorem zdJ :∀{l:List Msg},x∈l->szM x<=szMs l
 | [],h=>by cases h
 | u::l,h=>by
  rw [szMs];rcases xw.1 h with rfl| h
  ·omega
  ·have:=zdJ h;omega
mutual
/-- Within the reach of what a law is handed. -/
def bdM:Msg->Prop
 | ⟨vs,u⟩=>vs.length*80<=140737488351232/\(u.length*16<=140737488351232/\∀t∈u,t.length<=140737488351232)/\bdVs vs
def bdVs:List Vlu->Prop
 | []=>True
 | v::l=>bdV v/\bdVs l
def bdV:Vlu->Prop
 | ⟨n,w,t,s⟩=>(Lit.int .i64 n).wf=true/\(w.length*8<=140737488351232/\∀x∈w,0<=x/\x<=18446744073709551615)/\(t.length*16<=140737488351232/\∀x∈t,x.length<=140737488351232)/\s.length*48<=140737488351232/\bdMs s
def bdMs:List Msg->Prop
 | []=>True
 | x::l=>bdM x/\bdMs l
end
theorem zfR (x:Msg):bdM x↔x.Values.length*80<=140737488351232/\(x.Unknown.length*16<=140737488351232/\∀t∈x.Unknown,t.length<=140737488351232)/\bdVs x.Values:=by cases x;simp only [bdM]
theorem zfx (v:Vlu):bdV v↔(Lit.int .i64 v.Number).wf=true/\(v.Words.length*8<=140737488351232/\∀x∈v.Words,0<=x/\x<=18446744073709551615)/\(v.Texts.length*16<=140737488351232/\∀x∈v.Texts,x.length<=140737488351232)/\v.Subs.length*48<=140737488351232/\bdMs v.Subs:=by cases v;simp only [bdV]
theorem zcT:∀{l:List Vlu},bdVs l↔∀v∈l,bdV v
 | []=>by simp [bdVs]
 | v::l=>by rw [bdVs,zcT (l:=l)];simp
theorem zdC:∀{l:List Msg},bdMs l↔∀v∈l,bdM v
 | []=>by simp [bdMs]
 | v::l=>by rw [bdMs,zdC (l:=l)];simp
section
open Classical
noncomputable def zni {α:Type} (x y:α):Bool:=decide (x=y)
theorem zfj {α:Type} {x y:α}:zni x y=true↔x=y:=by unfold zni;simp
end
def zgJ (v:Vlu):Nat:=v.Words.length+v.Texts.length+v.Subs.length
mutual
def dM:Msg->Nat
 | ⟨vs,_⟩=>dVs vs
def dVs:List Vlu->Nat
 | []=>0
 | v::l=>max (dV v) (dVs l)
def dV:Vlu->Nat
 | ⟨_,_,_,s⟩=>dMs s
def dMs:List Msg->Nat
 | []=>0
 | x::l=>max (1+dM x) (dMs l)
end
theorem zCT (x:Msg):dM x=dVs x.Values:=by cases x;rw [dM]
theorem zAs (v:Vlu):dV v=dMs v.Subs:=by cases v;rw [dV]
theorem zwh :∀{l:List Vlu},v∈l->dV v<=dVs l
 | [],h=>by cases h
 | u::l,h=>by
  rw [dVs];rcases xw.1 h with rfl| h
  ·omega
  ·have:=zwh h;omega
theorem zAr :∀{l:List Msg},x∈l->1+dM x<=dMs l
 | [],h=>by cases h
 | u::l,h=>by
  rw [dMs];rcases xw.1 h with rfl| h
  ·omega
  ·have:=zAr h;omega
structure Th where
 fi:Int
 run:Bool
 val:List UInt8
 raw:List UInt8
abbrev zFR:=List UInt8×Bool×List Int×List Str×List Msg
mutual
/-- How much a meaning is, all together. -/
def wgM:Msg->Nat
 | ⟨vs,u⟩=>1+(u.map fun t=>1+t.length).sum+wgVs vs
def wgVs:List Vlu->Nat
 | []=>0
 | v::l=>wgV v+wgVs l
def wgV:Vlu->Nat
 | ⟨_,w,t,s⟩=>1+w.length+(t.map fun t=>1+t.length).sum+wgMs s
def wgMs:List Msg->Nat
 | []=>0
 | x::l=>wgM x+wgMs l
end
theorem zjq (x:Msg):wgM x=1+(x.Unknown.map fun t=>1+t.length).sum+wgVs x.Values:=by cases x;rw [wgM]
theorem ziR (v:Vlu):wgV v=1+v.Words.length+(v.Texts.map fun t=>1+t.length).sum+wgMs v.Subs:=by cases v;rw [wgV]
theorem zyO {v:Vlu}:∀{l:List Vlu},v∈l->wgV v<=wgVs l
 | [],h=>by cases h
 | u::l,h=>by
  rw [wgVs];rcases xw.1 h with rfl| h
  ·omega
  ·have:=zyO h;omega
theorem zox {x:Msg}:∀{l:List Msg},x∈l->wgM x<=wgMs l
 | [],h=>by cases h
 | u::l,h=>by
  rw [wgMs];rcases xw.1 h with rfl| h
  ·omega
  ·have:=zox h;omega
theorem zwW {t:Str}:∀{l:List Str},t∈l->1+t.length<=(l.map fun t=>1+t.length).sum
 | [],h=>by cases h
 | u::l,h=>by
  rw [xX,qG];rcases xw.1 h with rfl| h
  ·omega
  ·have:=zwW h;omega
theorem zwV:∀{l:List Str},l.length<=(l.map fun t=>1+t.length).sum
 | []=>by simp
 | u::l=>by
  rw [xX,qG,yi];have:=zwV (l:=l);omega
theorem zyN:∀(l:List Vlu),l.length<=wgVs l
 | []=>by simp [wgVs]
 | u::l=>by rw [wgVs,yi,ziR];have:=zyN l;omega
theorem zyM:∀(l:List Msg),l.length<=wgMs l
 | []=>by simp [wgMs]
 | u::l=>by rw [wgMs,yi,zjq];have:=zyM l;omega
def unkR (m:Mes) (u:Str):Bool:=(zvz u 0).2==0&&(zvz u 0).1.To==(u.length:Int)&&decide (fldI m (zvz u 0).1.Number<0)
def zsg (f:Fld) (w:Int):Bool:=kNum f.Kind&&ziG f.Kind w==w
def zoq (f:Fld) (t:Str):Bool:=f.Kind==16|| (f.Kind==15&&zlK t)
def zrW (f:Fld) (v:Vlu):Bool:=decide (0<zgJ v)&&(decide (zgJ v<=1)|| f.Repeated)&&zfa f.Kind
mutual
def zaw (s:List Mes):Msg->Int->Bool
 | ⟨vs,u⟩,k=>decide (0<=k/\k<s.length)&&zhb s vs (zaE s k) none&&u.all (unkR (zaE s k))
def zhb (s:List Mes):List Vlu->Mes->Option Int->Bool
 | [],_,_=>true
 | v::l,m,p=>decide (0<=fldI m v.Number)&&p.all (fun n=>decide (n<v.Number))&&zll s v (zaU m (fldI m v.Number))&&zhb s l m (some v.Number)
def zll (s:List Mes):Vlu->Fld->Bool
 | ⟨n,w,t,sub⟩,f=>zrW f ⟨n,w,t,sub⟩&&w.all (zsg f)&&t.all (zoq f)&&zoS s sub f
def zoS (s:List Mes):List Msg->Fld->Bool
 | [],_=>true
 | x::l,f=>(f.Kind==17&&zaw s x f.Of)&&zoS s l f
end
theorem zmm (s:List Mes) (x:Msg) (k:Int):zaw s x k=(decide (0<=k/\k<s.length)&&zhb s x.Values (zaE s k) none&&x.Unknown.all (unkR (zaE s k))):=by cases x;rw [zaw]
theorem zth (s:List Mes) (v:Vlu) (f:Fld):zll s v f=(zrW f v&&v.Words.all (zsg f)&&v.Texts.all (zoq f)&&zoS s v.Subs f):=by cases v;rw [zll]
theorem zmX (s:List Mes) (f:Fld):∀(l:List Msg),zoS s l f=l.all fun x=>f.Kind==17&&zaw s x f.Of
 | []=>by rw [zoS];rfl
 | x::l=>by rw [zoS,zmX s f l];rfl
mutual
/-- No list is long. -/
def smM:Msg->Prop
 | ⟨vs,u⟩=>vs.length<=1048576/\(u.length<=1048576/\∀t∈u,t.length<=1048576)/\smVs vs
def smVs:List Vlu->Prop
 | []=>True
 | v::l=>smV v/\smVs l
def smV:Vlu->Prop
 | ⟨n,w,t,s⟩=>w.length<=1048576/\(t.length<=1048576/\∀x∈t,x.length<=1048576)/\s.length<=1048576/\smMs s
def smMs:List Msg->Prop
 | []=>True
 | x::l=>smM x/\smMs l
end
theorem zkX (x:Msg):smM x↔x.Values.length<=1048576/\(x.Unknown.length<=1048576/\∀t∈x.Unknown,t.length<=1048576)/\smVs x.Values:=by cases x;simp only [smM]
theorem zmZ (v:Vlu):smV v↔v.Words.length<=1048576/\(v.Texts.length<=1048576/\∀x∈v.Texts,x.length<=1048576)/\v.Subs.length<=1048576/\smMs v.Subs:=by cases v;simp only [smV]
theorem zhp:∀{l:List Vlu},smVs l↔∀v∈l,smV v
 | []=>by simp [smVs]
 | v::l=>by rw [smVs,zhp (l:=l)];simp
theorem zho:∀{l:List Msg},smMs l↔∀v∈l,smM v
 | []=>by simp [smMs]
 | v::l=>by rw [smMs,zho (l:=l)];simp
theorem zrG (l:List Str) (F:Int->Int->Option Int) (h0:∀n,F n (l.length:Int)=some n)
  (hs:∀(i:Nat) (h:i<l.length) (n:Int),F n (i:Int)=F (IntKind.i64.wrap (IntKind.i64.wrap (n+1)+(l[i].length:Int))) ((i+1:Nat):Int)):∀(c i:Nat) (n:Int),i+c=l.length->
  ∃r,F n (i:Int)=some r/\((∀t∈l,t.length<=1048576)->0<=n->n+1048577*c<=4611686018427387904->r=n+(((l.drop i).map fun t=>1+t.length).sum:Nat)/\r<=n+1048577*c)
 | 0,i,n,h=>by
  have hi:i=l.length:=by omega
  refine ⟨n,by rw [hi,h0],fun _ _ _=>?_⟩;rw [hi,List.drop_length];simp
 | c+1,i,n,h=>by
  have hil:i<l.length:=by omega
  obtain ⟨r,hr,hw⟩:=zrG l F h0 hs c (i+1) (IntKind.i64.wrap (IntKind.i64.wrap (n+1)+(l[i].length:Int))) (by omega);refine ⟨r,by rw [hs i hil,hr],fun ht hn hc=>?_⟩;have:=ht _ (xE hil);have e:IntKind.i64.wrap (IntKind.i64.wrap (n+1)+(l[i].length:Int))=n+1+(l[i].length:Int):=by
   rw [zI (x:=n+1) (by omega),uy]
  rw [e] at hw;have hd:l.drop i=l[i]::l.drop (i+1):=xT hil;obtain ⟨w1,w2⟩:=hw ht (by omega) (by omega);rw [hd,xX,qG];push_cast at w1|-;omega
theorem zrk {α:Type} (l:List α) (g:α->Int) (F:Int->Int->Option (Int⊕Unit)) (h0:∀n,F n (l.length:Int)=some (.inl n))
  (hs:∀(i:Nat) (h:i<l.length) (n:Int),F n (i:Int)=if IntKind.i64.wrap (n+g l[i])>=5000 then some (.inr ()) else F (IntKind.i64.wrap (n+g l[i])) ((i+1:Nat):Int)):∀(c i:Nat) (n:Int),i+c=l.length->
  ∃q,F n (i:Int)=some q/\((∀a∈l,0<=g a/\g a<=4398046511104)->0<=n->n<=4398046511104->∀u,q= .inl u->u=n+((l.drop i).map g).sum/\0<=u/\(u<=n\/u<5000)/\∀a∈l.drop i,g a<5000)
 | 0,i,n,h=>by
  have hi:i=l.length:=by omega
  refine ⟨.inl n,by rw [hi,h0],fun _ _ _ u hu=>?_⟩;cases hu;rw [hi,List.drop_length];simp;omega
 | c+1,i,n,h=>by
  have hil:i<l.length:=by omega
  have hd:l.drop i=l[i]::l.drop (i+1):=xT hil;rw [hs i hil];by_cases h5:IntKind.i64.wrap (n+g l[i])>=5000
  ·exact ⟨.inr (),by rw [xr h5],fun _ _ _ u hu=>by cases hu⟩
  ·obtain ⟨q,hq,hw⟩:=zrk l g F h0 hs c (i+1) (IntKind.i64.wrap (n+g l[i])) (by omega);refine ⟨q,by rw [xq h5,hq],fun hg hn hnb u hu=>?_⟩;have hgi:=hg _ (xE hil);have e:IntKind.i64.wrap (n+g l[i])=n+g l[i]:=by rw [uy]
   rw [e] at hw h5;obtain ⟨w1,w2,w3,w4⟩:=hw hg (by omega) (by omega) u hu;rw [hd,xX,qG];refine ⟨by omega,w2,by omega,fun a ha=>?_⟩;rcases xw.1 ha with rfl| ha
   ·omega
   ·exact w4 a ha
theorem zEt:∀(fuel:Nat),(∀(x:Msg) (d:Int),szM x<fuel->bdM x-> -1<=d->d<=1048576->∃r,zbT fuel x d=some r/\(smM x->0<=r/\r<=4398046511104/\(r<5000->r=wgM x/\(dM x:Int)<=d)))/\
  ∀(v:Vlu) (d:Int),szV v<fuel->bdV v->0<=d->d<=1048576->∃r,zbv fuel v d=some r/\(smV v->0<=r/\r<=4398046511104/\(r<5000->r=wgV v/\(dV v:Int)<=d))
 | 0=>⟨fun x d h=>by omega,fun v d h=>by omega⟩
 | fuel+1=>by
  obtain ⟨ih1,ih2⟩:=zEt fuel;refine ⟨fun x d hsz hb hd hd2=>?_,fun v d hsz hb hd hd2=>?_⟩
  ·obtain ⟨b1,⟨b2,b3⟩,b4⟩:=(zfR x).1 hb;rw [zca] at hsz;show∃r,zeV (zbT fuel) (zbv fuel) x d=some r/\_;unfold zeV;by_cases hneg:d<0
   ·exact ⟨5000,by rw [itT (by simpa using hneg)],fun _=>⟨by omega,by omega,fun h=>by omega⟩⟩
   rw [itF (by simpa using hneg)];obtain ⟨n,hn,hnw⟩:=zrG x.Unknown (fun n i=>zdr x n i) (fun n=>by
     refine zlC ?_;unfold zbz;rw [itF (by simp)])
    (fun i hi n=>by
     refine zlB ?_;unfold zbz;have hw1:IntKind.i64.wrap ((i:Int)+1)=((i+1:Nat):Int):=by rw [uy];push_cast;rfl
     rw [uv,zah rfl hi,sb,hw1]) x.Unknown.length 0 1 (xK _)
   have hn':zdr x 1 0=some n:=hn;have hgg:∀v∈x.Values,∃r,zbv fuel v d=some r/\(smV v->0<=r/\r<=4398046511104/\(r<5000->r=wgV v/\(dV v:Int)<=d)):=fun v hv=>by
    have:=zdi hv;exact ih2 v d (by omega) (zcT.1 b4 _ hv) (by omega) hd2
   obtain ⟨q,hq,hqw⟩:=zrk x.Values (fun v=>(zbv fuel v d).getD 0) (fun n i=>zds d (zbv fuel) x n i) (fun n=>by
     refine zhX ?_;unfold zbi;rw [itF (by simp)])
    (fun i hi n=>by
     obtain ⟨r,hr,_⟩:=hgg _ (xE hi);have hw1:IntKind.i64.wrap ((i:Int)+1)=((i+1:Nat):Int):=by rw [uy];push_cast;rfl
     simp only [hr,yx];split
     ·rename_i h5;refine zhX ?_;unfold zbi;rw [uv,zah rfl hi,sb,hr,sb,itT (by simpa using h5)]
     ·rename_i h5;refine zlD ?_;unfold zbi;rw [uv,zah rfl hi,sb,hr,sb,itF (by simpa using h5),hw1]) x.Values.length 0 n (xK _)
   have hq':zds d (zbv fuel) x n 0=some q:=hq;rw [hn',sb,hq',sb];cases q with
   | inr u=>exact ⟨5000,rfl,fun _=>⟨by omega,by omega,fun h=>by omega⟩⟩
   | inl u=>
    refine ⟨u,rfl,fun hsm=>?_⟩;obtain ⟨s1,⟨s2,s3⟩,s4⟩:=(zkX x).1 hsm;obtain ⟨n1,n2⟩:=hnw s3 (by omega) (by omega);rw [yb] at n1;obtain ⟨u1,u2,u3,u4⟩:=hqw (fun v hv=>by
     obtain ⟨r,hr,hrw⟩:=hgg v hv;have:=hrw (zhp.1 s4 v hv);simp only [hr,yx];exact ⟨this.1,this.2.1⟩) (by omega) (by omega) u rfl
    rw [yb] at u1 u4;refine ⟨u2,by omega,fun _=>?_⟩;have hall:∀l:List Vlu,(∀v∈l,v∈x.Values)->(l.map fun v=>(zbv fuel v d).getD 0).sum=(wgVs l:Int)/\(dVs l:Int)<=d:=by
     intro l
     induction l with
     | nil=>intro _;simp [wgVs,dVs];omega
     | cons v l ih=>
      intro hl;have hv:=hl v xt;obtain ⟨r,hr,hrw⟩:=hgg v hv;obtain ⟨_,_,hr3⟩:=hrw (zhp.1 s4 v hv);have h5:=u4 v hv;simp only [hr,yx] at h5;obtain ⟨e1,e2⟩:=hr3 h5;obtain ⟨i1,i2⟩:=ih fun w hw=>hl w (xu _ hw)
      rw [xX,qG,i1,hr,yx,wgVs,dVs];push_cast;omega
    obtain ⟨a1,a2⟩:=hall x.Values fun v hv=>hv
    rw [zjq,zCT];push_cast;refine ⟨?_,a2⟩;push_cast at n1;omega
  ·obtain ⟨_,⟨b1,_⟩,⟨b2,b3⟩,b4,b5⟩:=(zfx v).1 hb;rw [zdz] at hsz;show∃r,zde (zbT fuel) (zbv fuel) v d=some r/\_;unfold zde;rw [zI (x:=1+(v.Words.length:Int)) (by omega)];obtain ⟨n,hn,hnw⟩:=zrG v.Texts (fun n i=>zct v n i) (fun n=>by
     refine zjy ?_;unfold zaN;rw [itF (by simp)])
    (fun i hi n=>by
     refine zjx ?_;unfold zaN;have hw1:IntKind.i64.wrap ((i:Int)+1)=((i+1:Nat):Int):=by rw [uy];push_cast;rfl
     rw [uv,zah rfl hi,sb,hw1]) v.Texts.length 0 (1+(v.Words.length:Int)) (xK _)
   have hn':zct v (1+(v.Words.length:Int)) 0=some n:=hn;have hgg:∀x∈v.Subs,∃r,zbT fuel x (d - 1)=some r/\(smM x->0<=r/\r<=4398046511104/\(r<5000->r=wgM x/\(dM x:Int)<=d - 1)):=fun x hx=>by
    have:=zdJ hx;exact ih1 x (d - 1) (by omega) (zdC.1 b5 _ hx) (by omega) (by omega)
   have hd1:IntKind.i64.wrap (d - 1)=d - 1:=by rw [uy]
   obtain ⟨q,hq,hqw⟩:=zrk v.Subs (fun x=>(zbT fuel x (d - 1)).getD 0) (fun n i=>zcu d (zbT fuel) v n i) (fun n=>by
     refine zgu ?_;unfold zaB;rw [itF (by simp)])
    (fun i hi n=>by
     obtain ⟨r,hr,_⟩:=hgg _ (xE hi);have hw1:IntKind.i64.wrap ((i:Int)+1)=((i+1:Nat):Int):=by rw [uy];push_cast;rfl
     simp only [hr,yx];split
     ·rename_i h5;refine zgu ?_;unfold zaB;rw [uv,zah rfl hi,sb,hd1,hr,sb,itT (by simpa using h5)]
     ·rename_i h5;refine zjz ?_;unfold zaB;rw [uv,zah rfl hi,sb,hd1,hr,sb,itF (by simpa using h5),hw1]) v.Subs.length 0 n (xK _)
   have hq':zcu d (zbT fuel) v n 0=some q:=hq;rw [hn',sb,hq',sb];cases q with
   | inr u=>exact ⟨5000,rfl,fun _=>⟨by omega,by omega,fun h=>by omega⟩⟩
   | inl u=>
    refine ⟨u,rfl,fun hsm=>?_⟩;obtain ⟨s1,⟨s2,s3⟩,s5,s4⟩:=(zmZ v).1 hsm;obtain ⟨n1,n2⟩:=hnw s3 (by omega) (by omega);rw [yb] at n1;obtain ⟨u1,u2,u3,u4⟩:=hqw (fun x hx=>by
     obtain ⟨r,hr,hrw⟩:=hgg x hx;have:=hrw (zho.1 s4 x hx);simp only [hr,yx];exact ⟨this.1,this.2.1⟩) (by omega) (by omega) u rfl
    rw [yb] at u1 u4;refine ⟨u2,by omega,fun _=>?_⟩;have hall:∀l:List Msg,(∀x∈l,x∈v.Subs)->(l.map fun x=>(zbT fuel x (d - 1)).getD 0).sum=(wgMs l:Int)/\(dMs l:Int)<=d:=by
     intro l
     induction l with
     | nil=>intro _;simp [wgMs,dMs];omega
     | cons x l ih=>
      intro hl;have hx:=hl x xt;obtain ⟨r,hr,hrw⟩:=hgg x hx;obtain ⟨_,_,hr3⟩:=hrw (zho.1 s4 x hx);have h5:=u4 x hx;simp only [hr,yx] at h5;obtain ⟨e1,e2⟩:=hr3 h5;obtain ⟨i1,i2⟩:=ih fun w hw=>hl w (xu _ hw)
      rw [xX,qG,i1,hr,yx,wgMs,dMs];push_cast;omega
    obtain ⟨a1,a2⟩:=hall v.Subs fun v hv=>hv
    rw [ziR,zAs];push_cast;refine ⟨?_,a2⟩;push_cast at n1;omega
structure OkT (s:List Mes) (d:Nat) (m:Mes) (t:Th):Prop where
 fi:t.fi= -1\/0<=t.fi/\t.fi<m.Fields.length
 unk:t.fi<0->unkR m t.raw=true
 run:0<=t.fi->t.run=true->kNum (zaU m t.fi).Kind=true/\(zaU m t.fi).Repeated=true/\(zCU (zaU m t.fi).Kind t.val).2=0
 one:0<=t.fi->t.run=false->zfa (zaU m t.fi).Kind=true/\zHh (zvo (zaU m t.fi).Kind) t.val=true/\((zaU m t.fi).Kind=15->zlK t.val=true)/\((zaU m t.fi).Kind=17->∃e,d=e+1/\zwm s e (zaU m t.fi).Of t.val=none)
structure zHL (s:List Mes) (d:Nat) (f:Fld) (a:zFR):Prop where
 words:∀w∈a.2.2.1,zsg f w=true
 texts:∀t∈a.2.2.2.1,zoq f t=true
 numT:kNum f.Kind=true->a.2.2.2.1=[]
 subs:∀x∈a.2.2.2.2,f.Kind=17/\zaw s x f.Of=true/\1+dM x<=d
 join:f.Kind=17->∀e,d=e+1->zwm s e f.Of a.1=none
 met:a.2.1=true->f.Kind=17->∃e,d=e+1
 one:f.Repeated=false->a.2.2.1.length<=1/\a.2.2.2.1.length<=1/\a.2.2.2.2=[]
theorem zGu (h: -9223372036854775808<=n/\n<=9223372036854775807):(Lit.int .i64 n).wf=true:=by
 simpa [Lit.wf,IntKind.min,IntKind.max,IntKind.bits,IntKind.signed] using h
structure zHK (a:zFR):Prop where
 words:∀w∈a.2.2.1,0<=w/\w<=18446744073709551615
 texts:∀t∈a.2.2.2.1,t.length<=1048576
 subs:∀x∈a.2.2.2.2,bdM x/\smM x
def zdm (l:List Vlu):Prop:=l.Pairwise fun a b=>a.Number<b.Number
def look (l:List Vlu) (n:Int):Option Vlu:=l.find? fun v=>v.Number==n
theorem zbQ (v:Vlu) (l:List Vlu) (n:Int):look (v::l) n=if v.Number=n then some v else look l n:=by
 unfold look;rw [List.find?_cons];by_cases h:v.Number=n
 ·rw [xr h];simp [h]
 ·rw [xq h];have:(v.Number==n)=false:=by simpa using h
  rw [this]
theorem zdQ {l:List Vlu} {n:Int} {v:Vlu} (h:look l n=some v):v.Number=n/\v∈l:=by
 unfold look at h;exact ⟨by simpa using List.find?_some h,List.mem_of_find?_eq_some h⟩
theorem zmO {l:List Vlu} {n:Int} (h:∀v∈l,n<v.Number):look l n=none:=by
 unfold look;rw [List.find?_eq_none];intro v hv;have:=h v hv;simp;omega
theorem zye {l:List Vlu} (hr:zdm l) {v:Vlu} (h:v∈l):look l v.Number=some v:=by
 induction l with
 | nil=>cases h
 | cons u l ih=>
  obtain ⟨h1,h2⟩:=yj.1 hr;rw [zbQ];rcases xw.1 h with rfl| h
  ·rw [xr rfl]
  ·have:=h1 v h;rw [xq (by omega),ih h2 h]
theorem znS:∀{l k:List Vlu},zdm l->zdm k->(∀n,look l n=look k n)->l=k
 | [],[],_,_,_=>rfl
 | [],u::k,_,_,h=>by
  have:=h u.Number;rw [zbQ,xr rfl] at this;cases this
 | v::l,[],_,_,h=>by
  have:=h v.Number;rw [zbQ,xr rfl] at this;cases this
 | v::l,u::k,hl,hk,h=>by
  obtain ⟨l1,l2⟩:=yj.1 hl;obtain ⟨k1,k2⟩:=yj.1 hk;have e:v=u:=by
   have hv:=h v.Number;have hu:=h u.Number;rw [zbQ,xr rfl] at hv;rw [zbQ (n:=u.Number) (v:=u),xr rfl] at hu;rcases Int.lt_trichotomy v.Number u.Number with hlt| heq| hlt
   ·rw [zmO (l:=u::k) (fun x hx=>by
     rcases xw.1 hx with rfl| hx
     ·exact hlt
     ·have:=k1 x hx;omega)] at hv
    cases hv
   ·rw [zbQ,xr heq.symm] at hv;exact yN hv
   ·rw [zmO (l:=v::l) (fun x hx=>by
     rcases xw.1 hx with rfl| hx
     ·exact hlt
     ·have:=l1 x hx;omega)] at hu
    cases hu
  subst e;rw [znS l2 k2 fun n=>by
   by_cases hn:v.Number<n
   ·have:=h n;rw [zbQ,zbQ,xq (by omega),xq (by omega)] at this;exact this
   ·rw [zmO fun x hx=>by have:=l1 x hx;omega,zmO fun x hx=>by have:=k1 x hx;omega]]
def putL (v:Vlu):Bool->List Vlu->List Vlu
 | done,[]=>if done=true then [] else [v]
 | done,u::l=>(if done=false/\v.Number<=u.Number then [v] else [])++((if u.Number=v.Number then [] else [u])++putL v (done|| decide (v.Number<=u.Number)) l)
theorem zyo (v:Vlu):∀(d:Bool) (l:List Vlu),(putL v d l).length<=l.length+(if d=true then 0 else 1)
 | d,[]=>by rw [putL];cases d<;>simp
 | d,u::l=>by
  have:=zyo v (d|| decide (v.Number<=u.Number)) l;rw [putL];simp only [yc,yi];cases d
  ·by_cases h:v.Number<=u.Number
   ·rw [xr ⟨rfl,h⟩];simp only [h,decide_true,qU,yL] at this|-;split<;>simp<;>omega
   ·rw [xq (fun hh=>h hh.2)];simp only [h,decide_false,qH,pz,if_false] at this|-;split<;>simp<;>omega
  ·rw [xq (by simp)];simp only [Bool.true_or,yL] at this|-;split<;>simp<;>omega
theorem zyp {v:Vlu}:∀{d:Bool} {l:List Vlu} {x:Vlu},x∈putL v d l->x=v/\d=false\/x∈l/\x.Number≠v.Number
 | d,[],x,h=>by
  rw [putL] at h;cases d
  ·rw [xq (by simp)] at h;exact .inl ⟨xR.1 h,rfl⟩
  ·rw [xr rfl] at h;cases h
 | d,u::l,x,h=>by
  rw [putL] at h;rcases xz.1 h with h| h
  ·split at h
   ·rename_i hc;exact .inl ⟨xR.1 h,hc.1⟩
   ·cases h
  ·rcases xz.1 h with h| h
   ·split at h
    ·cases h
    ·rename_i hc;rw [xR.1 h];exact .inr ⟨xt,hc⟩
   ·rcases zyp h with ⟨h1,h2⟩| ⟨h1,h2⟩
    ·refine .inl ⟨h1,?_⟩;cases d
     ·rfl
     ·simp at h2
    ·exact .inr ⟨xu _ h1,h2⟩
theorem zod {v:Vlu}:∀{d:Bool} {l:List Vlu},zdm l->zdm (putL v d l)
 | d,[],_=>by rw [putL];cases d<;>simp [zdm]
 | d,u::l,h=>by
  obtain ⟨h1,h2⟩:=yj.1 h;have ih:=zod (v:=v) (d:=d|| decide (v.Number<=u.Number)) h2;have hrest:∀x∈putL v (d|| decide (v.Number<=u.Number)) l,u.Number<x.Number:=fun x hx=>by
   rcases zyp hx with ⟨rfl,hd⟩| ⟨hx,_⟩
   ·simp at hd;omega
   ·exact h1 x hx
  rw [putL];have htail:zdm ((if u.Number=v.Number then [] else [u])++putL v (d|| decide (v.Number<=u.Number)) l):=by
   split
   ·exact ih
   ·exact yj.2 ⟨hrest,ih⟩
  split
  ·rename_i hc;rw [List.singleton_append];refine yj.2 ⟨fun x hx=>?_,htail⟩;rcases xz.1 hx with hx| hx
   ·split at hx
    ·cases hx
    ·rw [xR.1 hx];omega
   ·have:=hrest x hx;omega
  ·exact htail
theorem znR (l k:List Vlu) (n:Int):look (l++k) n=match look l n with| some v=>some v| none=>look k n:=by
 unfold look;rw [List.find?_append];cases l.find? (fun v=>v.Number==n)<;>rfl
theorem ztA {v:Vlu}:∀{d:Bool} {l:List Vlu},zdm l->∀n,look (putL v d l) n=if n=v.Number then (if d=true then none else some v) else look l n
 | d,[],_,n=>by
  rw [putL];cases d
  ·rw [xq (show ¬(false=true) by simp),xq (show ¬(false=true) by simp),zbQ];by_cases h:n=v.Number
   ·rw [xr h,xr h.symm]
   ·rw [xq h,xq (fun hh=>h hh.symm)]
  ·rw [xr rfl,xr rfl];split<;>rfl
 | d,u::l,h,n=>by
  obtain ⟨h1,h2⟩:=yj.1 h;have ih:=ztA (v:=v) (d:=d|| decide (v.Number<=u.Number)) h2 n;rw [putL,znR,znR,ih,zbQ u l n];by_cases hn:n=v.Number
  ·rw [xr hn,xr hn];have hu:look (if u.Number=v.Number then [] else [u]) n=none:=by
    split
    ·rfl
    ·rw [zbQ,xq (by omega)];rfl
   rw [hu];cases d
   ·by_cases hle:v.Number<=u.Number
    ·rw [xr ⟨rfl,hle⟩,zbQ,xr hn.symm];simp
    ·rw [xq (fun hh=>hle hh.2)];simp [look,hle]
   ·rw [xq (by simp)];simp [look]
  ·rw [xq hn,xq hn];have hv:look (if d=false/\v.Number<=u.Number then [v] else []) n=none:=by
    split
    ·rw [zbQ,xq (fun hh=>hn hh.symm)];rfl
    ·rfl
   rw [hv];by_cases hu:u.Number=v.Number
   ·rw [xr hu,xq (by omega)];rfl
   ·rw [xq hu,zbQ];by_cases hun:u.Number=n
    ·rw [xr hun,xr hun]
    ·rw [xq hun,xq hun];rfl
def putM (x:Msg) (v:Vlu):Msg:=⟨putL v (decide (zgJ v=0)) x.Values,x.Unknown⟩
theorem zlv {s:List Mes} {m:Mes}:∀{l:List Vlu} {p:Option Int},zhb s l m p=true->∀v∈l,0<=fldI m v.Number/\zll s v (zaU m (fldI m v.Number))=true/\p.all (fun n=>decide (n<v.Number))=true
 | [],p,_,v,hv=>by cases hv
 | u::l,p,h,v,hv=>by
  rw [zhb] at h;simp only [xy,xU] at h;obtain ⟨⟨⟨h1,h2⟩,h3⟩,h4⟩:=h;rcases xw.1 hv with rfl| hv
  ·exact ⟨h1,h3,h2⟩
  ·obtain ⟨g1,g2,g3⟩:=zlv h4 v hv;refine ⟨g1,g2,?_⟩;cases p with
   | none=>rfl
   | some n=>
    simp at h2 g3|-;omega
theorem zoi {s:List Mes} {m:Mes}:∀{l:List Vlu} {p:Option Int},zhb s l m p=true->zdm l
 | [],p,_=> .nil
 | u::l,p,h=>by
  rw [zhb] at h;simp only [xy,xU] at h;refine yj.2 ⟨fun v hv=>?_,zoi h.2⟩;have:=(zlv h.2 v hv).2.2;simpa using this
theorem zub {s:List Mes} {m:Mes}:∀{l:List Vlu} {p:Option Int},zdm l->(∀v∈l,0<=fldI m v.Number/\zll s v (zaU m (fldI m v.Number))=true/\p.all (fun n=>decide (n<v.Number))=true)->zhb s l m p=true
 | [],p,_,_=>by rw [zhb]
 | u::l,p,hr,h=>by
  obtain ⟨h1,h2⟩:=yj.1 hr;obtain ⟨a1,a2,a3⟩:=h u xt;rw [zhb,zub h2 fun v hv=>⟨(h v (xu _ hv)).1,(h v (xu _ hv)).2.1,by simpa using h1 v hv⟩,a2,a3,xS a1];rfl
theorem zaV {s:List Mes} {x:Msg} {k:Int} (h:zaw s x k=true):0<=k/\k<s.length/\zdm x.Values/\(∀v∈x.Values,0<=fldI (zaE s k) v.Number/\zll s v (zaU (zaE s k) (fldI (zaE s k) v.Number))=true)/\∀u∈x.Unknown,unkR (zaE s k) u=true:=by
 rw [zmm] at h;simp only [xy,xU] at h;exact ⟨h.1.1.1,h.1.1.2,zoi h.1.2,fun v hv=>⟨(zlv h.1.2 v hv).1,(zlv h.1.2 v hv).2.1⟩,xC.1 h.2⟩
theorem zrE {s:List Mes} {x:Msg} {k:Int} (h1:0<=k) (h2:k<s.length) (h3:zdm x.Values) (h4:∀v∈x.Values,0<=fldI (zaE s k) v.Number/\zll s v (zaU (zaE s k) (fldI (zaE s k) v.Number))=true) (h5:∀u∈x.Unknown,unkR (zaE s k) u=true):zaw s x k=true:=by
 rw [zmm,xS ⟨h1,h2⟩,zub h3 fun v hv=>⟨(h4 v hv).1,(h4 v hv).2,rfl⟩,xC.2 h5];rfl
structure zhc (s:List Mes) (v:Vlu) (f:Fld):Prop where
 many:0<zgJ v
 one:f.Repeated=false->zgJ v=1
 kind:zfa f.Kind=true
 words:∀w∈v.Words,zsg f w=true
 texts:∀t∈v.Texts,zoq f t=true
 subs:∀x∈v.Subs,f.Kind=17/\zaw s x f.Of=true
theorem zeE {s:List Mes} {v:Vlu} {f:Fld} (h:zll s v f=true):zhc s v f:=by
 rw [zth,zmX] at h;unfold zrW at h;simp only [xy,qk,xU,xC,pA] at h;obtain ⟨⟨⟨⟨⟨h1,h2⟩,h3⟩,h4⟩,h5⟩,h6⟩:=h;refine ⟨h1,fun hr=>?_,h3,h4,h5,fun x hx=>?_⟩
 ·rw [hr] at h2;simp at h2;omega
 ·exact h6 x hx
theorem zAx {s:List Mes} {v:Vlu} {f:Fld} (h:zhc s v f):zll s v f=true:=by
 obtain ⟨h1,h2,h3,h4,h5,h6⟩:=h;rw [zth,zmX];unfold zrW;simp only [xy,qk,xU,xC,pA];refine ⟨⟨⟨⟨⟨h1,?_⟩,h3⟩,h4⟩,h5⟩,fun x hx=>h6 x hx⟩;cases hr:f.Repeated with
 | true=>exact .inr rfl
 | false=>exact .inl (by have:=h2 hr;omega)
theorem zhc.noWords {s:List Mes} {v:Vlu} {f:Fld} (h:zhc s v f) (hk:kNum f.Kind=false):v.Words=[]:=by
 cases hw:v.Words with
 | nil=>rfl
 | cons w l=>
  have:=h.words w (by rw [hw];exact xt);unfold zsg at this;rw [hk] at this;simp at this
theorem zhc.noTexts {s:List Mes} {v:Vlu} {f:Fld} (h:zhc s v f) (hk:f.Kind≠15/\f.Kind≠16):v.Texts=[]:=by
 cases hw:v.Texts with
 | nil=>rfl
 | cons w l=>
  have:=h.texts w (by rw [hw];exact xt);unfold zoq at this;simp at this;omega
theorem zhc.msg {s:List Mes} {v:Vlu} {f:Fld} (h:zhc s v f) (hk:f.Kind=17) (hr:f.Repeated=false):∃x,v=⟨v.Number,[],[],[x]⟩/\zaw s x f.Of=true:=by
 have h1:=h.noWords (by rw [hk];rfl);have h2:=h.noTexts (by omega);have h3:=h.one hr;have h4:=h.subs;obtain ⟨n,w,t,sub⟩:=v;simp only at h1 h2 h4;subst h1 h2;unfold zgJ at h3;simp at h3;obtain ⟨x,rfl⟩:∃x,sub=[x]:=by
  cases sub with
  | nil=>simp at h3
  | cons x l=>cases l with
   | nil=>exact ⟨x,rfl⟩
   | cons _ _=>simp at h3
 exact ⟨x,rfl,(h4 x xt).2⟩
mutual
/-- b zhP a. -/
def zbX (s:List Mes):Msg->Msg->Int->Msg
 | ⟨vs,u⟩,a,k=>⟨zig s vs a (zaE s k) a.Values,a.Unknown++u⟩
def zig (s:List Mes):List Vlu->Msg->Mes->List Vlu->List Vlu
 | [],_,_,acc=>acc
 | v::l,a,m,acc=>zig s l a m (putM ⟨acc,[]⟩ (zgI s v (look a.Values v.Number) (zaU m (fldI m v.Number)))).Values
def zgI (s:List Mes):Vlu->Option Vlu->Fld->Vlu
 | ⟨n,w,t,sub⟩,none,f=>⟨n,w,t,sub⟩
 | ⟨n,w,t,sub⟩,some u,f=>if f.Repeated=true then ⟨n,u.Words++w,u.Texts++t,u.Subs++sub⟩ else if f.Kind=17 then ⟨n,[],[],zjh s sub u.Subs f.Of⟩ else ⟨n,w,t,sub⟩
def zjh (s:List Mes):List Msg->List Msg->Int->List Msg
 | [],_,_=>[]
 | x::_,ys,k=>match ys with
  | []=>[]
  | y::_=>[zbX s x y k]
end
theorem zhj (s:List Mes) (b a:Msg) (k:Int):zbX s b a k=⟨zig s b.Values a (zaE s k) a.Values,a.Unknown++b.Unknown⟩:=by cases b;rw [zbX]
theorem zeg (s:List Mes) (v:Vlu) (o:Option Vlu) (f:Fld):zgI s v o f=match o with
  | none=>v
  | some u=>if f.Repeated=true then ⟨v.Number,u.Words++v.Words,u.Texts++v.Texts,u.Subs++v.Subs⟩ else if f.Kind=17 then ⟨v.Number,[],[],zjh s v.Subs u.Subs f.Of⟩ else v:=by
 cases v;cases o<;>rw [zgI]
theorem zmc (s:List Mes) (v:Vlu) (o:Option Vlu) (f:Fld):(zgI s v o f).Number=v.Number:=by
 rw [zeg];cases o with
 | none=>rfl
 | some u=>simp only;split;rfl;split<;>rfl
theorem zEh (acc:List Vlu) (u:List Str) (v:Vlu):(putM ⟨acc,u⟩ v).Values.length<=acc.length+1:=by
 have:=zyo v (decide (zgJ v=0)) acc;unfold putM;simp only;split at this<;>omega
theorem zrV {s:List Mes} {a:Msg} {m:Mes}:∀{l acc:List Vlu},zdm acc->zdm l->(∀v∈l,0<zgJ (zgI s v (look a.Values v.Number) (zaU m (fldI m v.Number))))->
  zdm (zig s l a m acc)/\∀n,look (zig s l a m acc) n=match look l n with
   | some v=>some (zgI s v (look a.Values n) (zaU m (fldI m n)))
   | none=>look acc n
 | [],acc,h1,_,_=>by rw [zig];exact ⟨h1,fun n=>rfl⟩
 | v::l,acc,h1,h2,h3=>by
  obtain ⟨l1,l2⟩:=yj.1 h2;have hv:=h3 v xt;have hnum:=zmc s v (look a.Values v.Number) (zaU m (fldI m v.Number));rw [zig];have hacc:zdm (putM ⟨acc,[]⟩ (zgI s v (look a.Values v.Number) (zaU m (fldI m v.Number)))).Values:=zod h1;obtain ⟨r1,r2⟩:=zrV (s:=s) (a:=a) (m:=m) hacc l2 fun u hu=>h3 u (xu _ hu)
  refine ⟨r1,fun n=>?_⟩;rw [r2 n,zbQ];have hlk:look (putM ⟨acc,[]⟩ (zgI s v (look a.Values v.Number) (zaU m (fldI m v.Number)))).Values n=if n=v.Number then some (zgI s v (look a.Values v.Number) (zaU m (fldI m v.Number))) else look acc n:=by
   unfold putM;simp only;rw [ztA h1 n,hnum];by_cases hn:n=v.Number
   ·rw [xr hn,xr hn,xq fun hh=>by have:=yY hh;omega]
   ·rw [xq hn,xq hn]
  by_cases hn:v.Number=n
  ·rw [xr hn,zmO fun u hu=>by have:=l1 u hu;omega,hlk,xr hn.symm];simp only [hn]
  ·rw [xq hn,hlk,xq fun hh=>hn hh.symm]
theorem ztq {s:List Mes} {v:Vlu} {o:Option Vlu} {f:Fld} (hv:zhc s v f) (ho:∀u,o=some u->zhc s u f):0<zgJ (zgI s v o f):=by
 rw [zeg];cases o with
 | none=>exact hv.many
 | some u=>
  have:=hv.many;simp only;by_cases hr:f.Repeated=true
  ·rw [xr hr];unfold zgJ at this|-;simp only [yc];omega
  ·rw [xq hr];by_cases h17:f.Kind=17
   ·rw [xr h17];obtain ⟨x,hvx,_⟩:=hv.msg h17 (by simpa using hr);obtain ⟨y,huy,_⟩:=(ho u rfl).msg h17 (by simpa using hr);rw [hvx,huy,zjh];simp [zgJ]
   ·rw [xq h17];exact this
theorem zhy {s:List Mes} {a b:Msg} {k:Int} (ha:zaw s a k=true) (hb:zaw s b k=true):zdm (zbX s b a k).Values/\∀n,look (zbX s b a k).Values n=match look b.Values n with
   | some v=>some (zgI s v (look a.Values n) (zaU (zaE s k) (fldI (zaE s k) n)))
   | none=>look a.Values n:=by
 obtain ⟨_,_,ra,ha',_⟩:=zaV ha;obtain ⟨_,_,rb,hb',_⟩:=zaV hb;rw [zhj];exact zrV ra rb fun v hv=>ztq (zeE (hb' v hv).2) fun u hu=>by
  obtain ⟨e,hm⟩:=zdQ hu;have:=zeE (ha' u hm).2;rw [e] at this;exact this
def zfG (s:List Mes) (root:Int) (l:List Msg):Int:=if ziF s root≠0 then ziF s root else if l.all (fun x=>zaw s x root)=true then 0 else 12
mutual
/-- Without unknown records. -/
def zgi:Msg->Msg
 | ⟨vs,_⟩=>⟨zfH vs,[]⟩
def zfH:List Vlu->List Vlu
 | []=>[]
 | v::l=>zhm v::zfH l
def zhm:Vlu->Vlu
 | ⟨n,w,t,s⟩=>⟨n,w,t,zfX s⟩
def zfX:List Msg->List Msg
 | []=>[]
 | x::l=>zgi x::zfX l
end
theorem zkv (x:Msg):zgi x=⟨zfH x.Values,[]⟩:=by cases x;rw [zgi]
theorem zoP (v:Vlu):zhm v=⟨v.Number,v.Words,v.Texts,zfX v.Subs⟩:=by cases v;rw [zhm]
theorem zjN:∀(l:List Vlu),zfH l=l.map zhm
 | []=>by rw [zfH];rfl
 | v::l=>by rw [zfH,zjN l];rfl
theorem zoc:∀(l:List Msg),zfX l=l.map zgi
 | []=>by rw [zfX];rfl
 | v::l=>by rw [zfX,zoc l];rfl
mutual
/-- Kept or left by ways. -/
def zey (s:List Mes):Msg->Int->List zE->Bool->Msg
 | ⟨vs,u⟩,k,w,keep=>⟨zdl s vs (zaE s k) w keep,if keep=true then [] else u⟩
def zdl (s:List Mes):List Vlu->Mes->List zE->Bool->List Vlu
 | [],_,_,_=>[]
 | v::l,m,w,keep=>zsc s v (zaU m (fldI m v.Number)) w keep++zdl s l m w keep
def zsc (s:List Mes):Vlu->Fld->List zE->Bool->List Vlu
 | ⟨n,a,t,sub⟩,f,w,keep=>if zfW w n=false/\zfd w n≠[]/\f.Kind=17/\f.Repeated=false then [⟨n,[],[],zmS s sub f.Of (zfd w n) keep⟩]
  else if zfW w n=keep then [⟨n,a,t,sub⟩] else []
def zmS (s:List Mes):List Msg->Int->List zE->Bool->List Msg
 | [],_,_,_=>[]
 | x::_,k,w,keep=>[zey s x k w keep]
end
theorem ziJ (s:List Mes) (x:Msg) (k:Int) (w:List zE) (keep:Bool):zey s x k w keep=⟨zdl s x.Values (zaE s k) w keep,if keep=true then [] else x.Unknown⟩:=by cases x;rw [zey]
theorem zmi (s:List Mes) (v:Vlu) (f:Fld) (w:List zE) (keep:Bool):zsc s v f w keep=if zfW w v.Number=false/\zfd w v.Number≠[]/\f.Kind=17/\f.Repeated=false then [⟨v.Number,[],[],zmS s v.Subs f.Of (zfd w v.Number) keep⟩]
  else if zfW w v.Number=keep then [v] else []:=by cases v;rw [zsc]
theorem zvE (s:List Mes) (v:Vlu) (f:Fld) (w:List zE) (keep:Bool):(zsc s v f w keep).length<=1:=by
 rw [zmi];split;simp;split<;>simp
theorem zCy {m:List zE} (hw:WW m) (n:Int):WW (zfd m n):=by
 refine ⟨ye (ur _ _) hw.1,fun w hm=>?_⟩;unfold zfd at hm;obtain ⟨v,hv,he⟩:=qq.1 hm;have:=hw.2 v hv;unfold zrC at he;split at he
 ·split at he
  ·cases he;simp at this|-;omega
  ·cases he
 ·cases he
theorem zCS {α:Type} (n:α) (w:List α):cut (n::w) 1 ((n::w).length:Int)=some w:=by
 have h:=zpv (xs:=n::w) (i:=1) (j:=((n::w).length:Int)) (a:=1) (b:=(n::w).length) rfl rfl (by simp) (xx _);rw [h];simp
def zvlu:Vlu:=⟨0,[],[],[]⟩
theorem zzw {s:List Mes} {v:Vlu} {o:Option Vlu} {f:Fld} (hv:zhc s v f) (ho:∀u,o=some u->zhc s u f)
  (ih:∀x∈v.Subs,∀y:Msg,zaw s x f.Of=true->zaw s y f.Of=true->zaw s (zbX s x y f.Of) f.Of=true):zhc s (zgI s v o f) f:=by
 have hm:=ztq hv ho;rw [zeg] at hm|-;cases o with
 | none=>exact hv
 | some u=>
  have hu:=ho u rfl;simp only at hm|-;by_cases hr:f.Repeated=true
  ·rw [xr hr] at hm|-;refine ⟨hm,(fun h=>by rw [hr] at h;cases h),hv.kind,fun w hw=>?_,fun w hw=>?_,fun w hw=>?_⟩
   ·rcases xz.1 hw with hw| hw
    ·exact hu.words w hw
    ·exact hv.words w hw
   ·rcases xz.1 hw with hw| hw
    ·exact hu.texts w hw
    ·exact hv.texts w hw
   ·rcases xz.1 hw with hw| hw
    ·exact hu.subs w hw
    ·exact hv.subs w hw
  ·rw [xq hr] at hm|-;by_cases h17:f.Kind=17
   ·rw [xr h17] at hm|-;obtain ⟨x,hvx,hx⟩:=hv.msg h17 (by simpa using hr);obtain ⟨y,huy,hy⟩:=hu.msg h17 (by simpa using hr);have hvs:v.Subs=[x]:=by rw [hvx]
    have hus:u.Subs=[y]:=by rw [huy]
    rw [hvs,hus,zjh];refine ⟨by simp [zgJ],(fun _=>by simp [zgJ]),hv.kind,(fun w hw=>nomatch hw),(fun w hw=>nomatch hw),fun w hw=>?_⟩;rw [xR.1 hw];exact ⟨h17,ih x (by rw [hvs];exact xt) y hx hy⟩
   ·rw [xq h17] at hm|-;exact hv
theorem zlq {s:List Mes}:∀(N:Nat) (b a:Msg) (k:Int),szM b<=N->zaw s a k=true->zaw s b k=true->zaw s (zbX s b a k) k=true
 | 0,b,a,k,h,_,_=>by rw [zca] at h;omega
 | N+1,b,a,k,hsz,ha,hb=>by
  obtain ⟨k0,k1,ra,ha',ua⟩:=zaV ha;obtain ⟨_,_,rb,hb',ub⟩:=zaV hb;obtain ⟨j1,j2⟩:=zhy ha hb;rw [zca] at hsz;refine zrE k0 k1 j1 (fun v hv=>?_) fun u hu=>?_
  ·have hl:=zye j1 hv;rw [j2] at hl;cases hbl:look b.Values v.Number with
   | none=>
    rw [hbl] at hl;simp only at hl;exact ha' v (zdQ hl).2
   | some w=>
    rw [hbl] at hl;simp only at hl;obtain ⟨wn,wm⟩:=zdQ hbl;obtain ⟨w0,wf⟩:=hb' w wm;rw [wn] at w0 wf;have hfw:=zeE wf;have s1:=zdi wm;rw [zdz] at s1;refine ⟨w0,zAx ?_⟩;have hvj:zgI s w (look a.Values v.Number) (zaU (zaE s k) (fldI (zaE s k) v.Number))=v:=yN hl;have:=zzw (o:=look a.Values v.Number) hfw (fun u hu=>by
     obtain ⟨un,um⟩:=zdQ hu;have:=zeE (ha' u um).2;rw [un] at this;exact this) fun x hx y hxr hyr=>by
      have:=zdJ hx;exact zlq N x y _ (by omega) hyr hxr
    rw [hvj] at this;exact this
  ·rw [zhj] at hu;rcases xz.1 hu with hu| hu
   ·exact ua u hu
   ·exact ub u hu
theorem ztt (s:List Mes) (a:Msg) (k:Int):zbX s ⟨[],[]⟩ a k=a:=by
 rw [zhj,zig,yR];cases a;rfl
theorem zvL {s:List Mes} {k:Int} (h0:0<=k) (h1:k<s.length):zaw s ⟨[],[]⟩ k=true:=zrE h0 h1 .nil (fun v hv=>nomatch hv) (fun u hu=>nomatch hu)
theorem zuF {s:List Mes} {b:Msg} {k:Int} (hb:zaw s b k=true):zbX s b ⟨[],[]⟩ k=b:=by
 obtain ⟨k0,k1,rb,hb',ub⟩:=zaV hb;obtain ⟨j1,j2⟩:=zhy (zvL k0 k1) hb;have hv:(zbX s b ⟨[],[]⟩ k).Values=b.Values:=znS j1 rb fun n=>by
  rw [j2];cases look b.Values n with
  | none=>rfl
  | some v=>simp only;rw [zeg];rfl
 have hu:(zbX s b ⟨[],[]⟩ k).Unknown=b.Unknown:=by rw [zhj];rfl
 generalize zbX s b ⟨[],[]⟩ k=x at hv hu
 cases x;cases b;simp only at hv hu;rw [hv,hu]
theorem zxV {s:List Mes} {w v u:Vlu} {f:Fld} (hw:zhc s w f) (hv:zhc s v f) (hu:zhc s u f)
  (ih:∀z∈w.Subs,∀y x:Msg,zaw s z f.Of=true->zaw s y f.Of=true->zaw s x f.Of=true->zbX s (zbX s z y f.Of) x f.Of=zbX s z (zbX s y x f.Of) f.Of):
  zgI s (zgI s w (some v) f) (some u) f=zgI s w (some (zgI s v (some u) f)) f:=by
 rw [zeg s w,zeg s v,zeg,zeg];simp only;by_cases hr:f.Repeated=true
 ·simp only [xr hr,yH]
 ·simp only [xq hr];by_cases h17:f.Kind=17
  ·simp only [xr h17];obtain ⟨z,hwz,hz⟩:=hw.msg h17 (by simpa using hr);obtain ⟨y,hvy,hy⟩:=hv.msg h17 (by simpa using hr);obtain ⟨x,hux,hx⟩:=hu.msg h17 (by simpa using hr);have hws:w.Subs=[z]:=by rw [hwz]
   have hvs:v.Subs=[y]:=by rw [hvy]
   have hus:u.Subs=[x]:=by rw [hux]
   rw [hws,hvs,hus];simp only [zjh];rw [ih z (by rw [hws];exact xt) y x hz hy hx]
  ·simp only [xq h17]
theorem zts {s:List Mes}:∀(N:Nat) (c b a:Msg) (k:Int),szM c<=N->zaw s a k=true->zaw s b k=true->zaw s c k=true->zbX s (zbX s c b k) a k=zbX s c (zbX s b a k) k
 | 0,c,b,a,k,h,_,_,_=>by rw [zca] at h;omega
 | N+1,c,b,a,k,hsz,ha,hb,hc=>by
  obtain ⟨k0,k1,ra,ha',ua⟩:=zaV ha;obtain ⟨_,_,rb,hb',ub⟩:=zaV hb;obtain ⟨_,_,rc,hc',uc⟩:=zaV hc;have hcb:=zlq _ c b k (xx _) hb hc;have hba:=zlq _ b a k (xx _) ha hb;obtain ⟨p1,p2⟩:=zhy hb hc;obtain ⟨q1,q2⟩:=zhy ha hb;obtain ⟨l1,l2⟩:=zhy ha hcb;obtain ⟨r1,r2⟩:=zhy hba hc;rw [zca] at hsz;have hv:(zbX s (zbX s c b k) a k).Values=(zbX s c (zbX s b a k) k).Values:=znS l1 r1 fun n=>by
   rw [l2,r2,p2,q2];have fit:∀(x:Msg),(∀v∈x.Values,0<=fldI (zaE s k) v.Number/\zll s v (zaU (zaE s k) (fldI (zaE s k) v.Number))=true)->∀v,look x.Values n=some v->zhc s v (zaU (zaE s k) (fldI (zaE s k) n)):=fun x hx v hv=>by
    obtain ⟨e,hm⟩:=zdQ hv;have:=zeE (hx v hm).2;rw [e] at this;exact this
   cases hcl:look c.Values n with
   | none=>simp only
   | some w=>
    have fw:=fit c hc' w hcl;cases hbl:look b.Values n with
    | none=>simp only;rw [zeg s w none]
    | some v=>
     have fv:=fit b hb' v hbl;simp only;cases hal:look a.Values n with
     | none=>rw [zeg s _ none,zeg s v none]
     | some u=>
      have fu:=fit a ha' u hal;rw [zxV fw fv fu fun z hz y x hzr hyr hxr=>by
       have s1:=zdi (zdQ hcl).2;rw [zdz] at s1;have s2:=zdJ hz;exact zts N z y x _ (by omega) hxr hyr hzr]
  have hu:(zbX s (zbX s c b k) a k).Unknown=(zbX s c (zbX s b a k) k).Unknown:=by
   simp only [zhj,yH]
  generalize zbX s (zbX s c b k) a k=x at hv hu|-
  generalize zbX s c (zbX s b a k) k=y at hv hu|-
  cases x;cases y;simp only at hv hu;rw [hv,hu]
theorem zvM {g:Vlu->Option Vlu} (hg:∀v u,g v=some u->u.Number=v.Number):∀{l:List Vlu},zdm l->zdm (l.filterMap g)
 | [],_=> .nil
 | v::l,h=>by
  obtain ⟨h1,h2⟩:=yj.1 h;have ih:=zvM hg h2;cases e:g v with
  | none=>rw [List.filterMap_cons_none e];exact ih
  | some u=>
   rw [List.filterMap_cons_some e];refine yj.2 ⟨fun w hw=>?_,ih⟩;obtain ⟨w',hw',e'⟩:=qq.1 hw;rw [hg _ _ e,hg _ _ e'];exact h1 w' hw'
theorem zwD {g:Vlu->Option Vlu} (hg:∀v u,g v=some u->u.Number=v.Number):∀{l:List Vlu},zdm l->∀n,look (l.filterMap g) n=(look l n).bind g
 | [],_,n=>rfl
 | v::l,h,n=>by
  obtain ⟨h1,h2⟩:=yj.1 h;have ih:=zwD hg h2 n;rw [zbQ];by_cases hn:v.Number=n
  ·rw [xr hn];have hl:look l n=none:=zmO fun u hu=>by have:=h1 u hu;omega
   rw [hl] at ih;cases e:g v with
   | none=>rw [List.filterMap_cons_none e,ih];exact e.symm
   | some u=>rw [List.filterMap_cons_some e,zbQ,xr (by rw [hg _ _ e,hn])];exact e.symm
  ·rw [xq hn];cases e:g v with
   | none=>rw [List.filterMap_cons_none e,ih]
   | some u=>rw [List.filterMap_cons_some e,zbQ,xq (by rw [hg _ _ e];exact hn),ih]
theorem zzS {h:Vlu->Vlu} (hh:∀v,(h v).Number=v.Number) {l:List Vlu} (hr:zdm l):zdm (l.map h):=by
 unfold zdm at*
 rw [qZ];exact hr.imp fun e=>by rw [hh,hh];exact e
theorem zyd {h:Vlu->Vlu} (hh:∀v,(h v).Number=v.Number):∀(l:List Vlu) (n:Int),look (l.map h) n=(look l n).map h
 | [],n=>rfl
 | v::l,n=>by
  rw [xX,zbQ,zbQ,hh];by_cases hn:v.Number=n
  ·rw [xr hn,xr hn];rfl
  ·rw [xq hn,xq hn];exact zyd hh l n
def goB (m:Mes) (w:List zE) (v:Vlu):Bool:= !zfW w v.Number&&decide (zfd w v.Number≠[])&&decide ((zaU m (fldI m v.Number)).Kind=17)&& !(zaU m (fldI m v.Number)).Repeated
theorem zsv {m:Mes} {w:List zE} {v:Vlu}:goB m w v=true↔zfW w v.Number=false/\zfd w v.Number≠[]/\(zaU m (fldI m v.Number)).Kind=17/\(zaU m (fldI m v.Number)).Repeated=false:=by
 unfold goB;simp only [xy,yg,xU,and_assoc]
def inV (s:List Mes) (m:Mes) (w:List zE) (keep:Bool) (v:Vlu):Vlu:=⟨v.Number,[],[],zmS s v.Subs (zaU m (fldI m v.Number)).Of (zfd w v.Number) keep⟩
def zsb (s:List Mes) (m:Mes) (w:List zE) (keep:Bool) (v:Vlu):Option Vlu:=if goB m w v=true then some (inV s m w keep v) else if zfW w v.Number=keep then some v else none
theorem zoN {s:List Mes} {m:Mes} {w:List zE} {keep:Bool} (v u:Vlu) (h:zsb s m w keep v=some u):u.Number=v.Number:=by
 unfold zsb at h;split at h
 ·cases h;rfl
 ·split at h
  ·cases h;rfl
  ·cases h
theorem zoO (s:List Mes) (m:Mes) (w:List zE) (keep:Bool):∀l:List Vlu,zdl s l m w keep=l.filterMap (zsb s m w keep)
 | []=>by rw [zdl];rfl
 | v::l=>by
  rw [zdl,zoO s m w keep l,zmi];by_cases hg:goB m w v=true
  ·rw [xr (zsv.1 hg),List.filterMap_cons_some (b:=inV s m w keep v) (by unfold zsb;rw [xr hg])];rfl
  ·rw [xq (fun h=>hg (zsv.2 h))];by_cases hk:zfW w v.Number=keep
   ·rw [xr hk,List.filterMap_cons_some (b:=v) (by unfold zsb;rw [xq hg,xr hk])];rfl
   ·rw [xq hk,List.filterMap_cons_none (by unfold zsb;rw [xq hg,xq hk])];rfl
theorem zAA {s:List Mes} {m:Mes} {w:List zE} {v:Vlu} (hg:goB m w v=true) (hf:zhc s v (zaU m (fldI m v.Number))):∃y,v=⟨v.Number,[],[],[y]⟩/\zaw s y (zaU m (fldI m v.Number)).Of=true/\∀keep,inV s m w keep v=⟨v.Number,[],[],[zey s y (zaU m (fldI m v.Number)).Of (zfd w v.Number) keep]⟩:=by
 obtain ⟨_,_,h3,h4⟩:=zsv.1 hg;obtain ⟨y,e,hy⟩:=hf.msg h3 h4;have hs:v.Subs=[y]:=by rw [e]
 refine ⟨y,e,hy,fun keep=>?_⟩;unfold inV;rw [hs,zmS]
theorem zDc {s:List Mes} {f:Fld} {n k:Int} {y z:Msg} (hf:zhc s ⟨n,[],[],[y]⟩ f) (hz:zaw s z f.Of=true):zhc s ⟨k,[],[],[z]⟩ f:=
 ⟨by simp [zgJ],(fun _=>by simp [zgJ]),hf.kind,(fun w hw=>nomatch hw),(fun w hw=>nomatch hw),fun w hw=>by rw [xR.1 hw];exact ⟨(hf.subs y xt).1,hz⟩⟩
theorem zEE {x y:Msg} {v:Vlu} (hv:v∈x.Values) (e:v=⟨v.Number,[],[],[y]⟩):szM y<szM x:=by
 have s1:=zdi hv;rw [zdz] at s1;have hs:v.Subs=[y]:=by rw [e]
 have s2:szM y<=szMs v.Subs:=zdJ (by rw [hs];exact xt);rw [zca x];omega
theorem zjM {s:List Mes}:∀(N:Nat) (x:Msg) (k:Int) (w:List zE) (keep:Bool),szM x<=N->zaw s x k=true->zaw s (zey s x k w keep) k=true
 | 0,x,k,w,keep,h,_=>by rw [zca] at h;omega
 | N+1,x,k,w,keep,hsz,hx=>by
  obtain ⟨k0,k1,rx,hx',ux⟩:=zaV hx;rw [ziJ,zoO];refine zrE k0 k1 (zvM zoN rx) (fun v hv=>?_) fun u hu=>?_
  ·obtain ⟨v0,hv0,e⟩:=qq.1 hv;obtain ⟨w0,wf⟩:=hx' v0 hv0;have hn:=zoN _ _ e;unfold zsb at e;by_cases hg:goB (zaE s k) w v0=true
   ·rw [xr hg] at e;have hf:=zeE wf;obtain ⟨y,e1,hy,hin⟩:=zAA hg hf;rw [hin] at e;have hsy:=zEE hv0 e1;rw [hn];refine ⟨w0,zAx ?_⟩;rw [<-yN e];rw [e1] at hf;exact zDc hf (zjM N y _ _ _ (by omega) hy)
   ·rw [xq hg] at e;by_cases hk:zfW w v0.Number=keep
    ·rw [xr hk] at e;rw [<-yN e];exact ⟨w0,wf⟩
    ·rw [xq hk] at e;cases e
  ·cases keep with
   | true=>exact absurd hu (by simp)
   | false=>exact ux u hu
mutual
/-- How many unknown records there are. -/
def strM:Msg->Nat
 | ⟨vs,u⟩=>u.length+zpm vs
def zpm:List Vlu->Nat
 | []=>0
 | v::l=>strV v+zpm l
def strV:Vlu->Nat
 | ⟨_,_,_,sub⟩=>zum sub
def zum:List Msg->Nat
 | []=>0
 | x::l=>strM x+zum l
end
theorem zwR (x:Msg):strM x=x.Unknown.length+zpm x.Values:=by cases x;rw [strM]
theorem zwS (v:Vlu):strV v=zum v.Subs:=by cases v;rw [strV]
theorem zun {h:Vlu->Vlu}:∀{l:List Vlu},(∀v∈l,strV (h v)=strV v)->zpm (l.map h)=zpm l
 | [],_=>rfl
 | v::l,hh=>by rw [xX,zpm,zpm,hh v xt,zun fun u hu=>hh u (xu _ hu)]
theorem zwK {h:Vlu->Vlu} {l:List Vlu} (hh:∀v∈l,zhm (h v)=zhm v):zfH (l.map h)=zfH l:=by
 rw [zjN,zjN,q6];exact List.map_congr_left hh
def zkI (s:List Mes) (m:Mes) (w:List zE) (v:Vlu):Vlu:=if goB m w v=true then zgI s (inV s m w false v) (some (inV s m w true v)) (zaU m (fldI m v.Number)) else v
theorem zvi {s:List Mes} {m:Mes} {w:List zE} (v:Vlu):(zkI s m w v).Number=v.Number:=by
 unfold zkI;split
 ·rw [zmc];rfl
 ·rfl
theorem zDj {s:List Mes} {m:Mes} {w:List zE} {v:Vlu} (hg:goB m w v=true) (hf:zhc s v (zaU m (fldI m v.Number))):∃y,v=⟨v.Number,[],[],[y]⟩/\zaw s y (zaU m (fldI m v.Number)).Of=true/\
  zkI s m w v=⟨v.Number,[],[],[zbX s (zey s y (zaU m (fldI m v.Number)).Of (zfd w v.Number) false) (zey s y (zaU m (fldI m v.Number)).Of (zfd w v.Number) true) (zaU m (fldI m v.Number)).Of]⟩:=by
 obtain ⟨_,_,h3,h4⟩:=zsv.1 hg;obtain ⟨y,e,hy,hin⟩:=zAA (s:=s) hg hf;refine ⟨y,e,hy,?_⟩;unfold zkI;rw [xr hg,hin,hin,zeg];simp only;rw [xq (by rw [h4];simp),xr h3,zjh]
theorem zCa {s:List Mes} {x:Msg} {k:Int} {w:List zE} (hx:zaw s x k=true):zbX s (zey s x k w false) (zey s x k w true) k=⟨x.Values.map (zkI s (zaE s k) w),x.Unknown⟩:=by
 have hl:=zjM _ x k w false (xx _) hx;have hk:=zjM _ x k w true (xx _) hx;obtain ⟨j1,j2⟩:=zhy hk hl;obtain ⟨k0,k1,rx,hx',ux⟩:=zaV hx;have hv:(zbX s (zey s x k w false) (zey s x k w true) k).Values=x.Values.map (zkI s (zaE s k) w):=znS j1 (zzS zvi rx) fun n=>by
  rw [j2,zyd zvi,ziJ s x k w false,ziJ s x k w true];simp only;rw [zoO,zoO,zwD zoN rx,zwD zoN rx];cases e:look x.Values n with
  | none=>rfl
  | some v=>
   obtain ⟨hn,hm⟩:=zdQ e;simp only [Option.bind_some,qS];unfold zsb zkI;by_cases hg:goB (zaE s k) w v=true
   ·rw [xr hg,xr hg,xr hg];simp only;rw [hn]
   ·rw [xq hg,xq hg,xq hg];cases hwb:zfW w v.Number with
    | true=>rw [xq (by simp),xr rfl]
    | false=>rw [xr rfl,xq (by simp)];simp only;rw [zeg]
 have hu:(zbX s (zey s x k w false) (zey s x k w true) k).Unknown=x.Unknown:=by
  rw [zhj,ziJ,ziJ];rfl
 generalize zbX s (zey s x k w false) (zey s x k w true) k=z at hv hu
 cases z;simp only at hv hu;rw [hv,hu]
theorem zvF {s:List Mes}:∀(N:Nat) (x:Msg) (k:Int) (w:List zE),szM x<=N->zaw s x k=true->zgi (zbX s (zey s x k w false) (zey s x k w true) k)=zgi x/\strM (zbX s (zey s x k w false) (zey s x k w true) k)=strM x/\(bdM x->bdM (zbX s (zey s x k w false) (zey s x k w true) k))/\szM (zbX s (zey s x k w false) (zey s x k w true) k)=szM x
 | 0,x,k,w,h,_=>by rw [zca] at h;omega
 | N+1,x,k,w,hsz,hx=>by
  obtain ⟨k0,k1,rx,hx',ux⟩:=zaV hx;rw [zCa hx,zkv,zkv,zwR,zwR,zfR,zfR,zca,zca];simp only [yP];have key:∀v∈x.Values,zhm (zkI s (zaE s k) w v)=zhm v/\strV (zkI s (zaE s k) w v)=strV v/\(bdV v->bdV (zkI s (zaE s k) w v))/\szV (zkI s (zaE s k) w v)=szV v:=fun v hv=>by
   by_cases hg:goB (zaE s k) w v=true
   ·obtain ⟨w0,wf⟩:=hx' v hv;obtain ⟨y,e,hy,hgl⟩:=zDj hg (zeE wf);have hsy:=zEE hv e;obtain ⟨q1,q2,q3,q4⟩:=zvF N y _ (zfd w v.Number) (by omega) hy;rw [hgl];have p1:zhm v=zhm ⟨v.Number,[],[],[y]⟩:=congrArg zhm e;have p2:strV v=strV ⟨v.Number,[],[],[y]⟩:=congrArg strV e;have p3:bdV v=bdV ⟨v.Number,[],[],[y]⟩:=congrArg bdV e;have p4:szV v=szV ⟨v.Number,[],[],[y]⟩:=congrArg szV e;rw [p1,p2,p3,p4,zoP,zoP,zwS,zwS,zfx,zfx,zdz,zdz];simp only [zfX,zum,bdMs,szMs];rw [q1,q2,q4];refine ⟨rfl,rfl,fun h=>⟨h.1,h.2.1,h.2.2.1,h.2.2.2.1,q3 h.2.2.2.2.1,trivial⟩,rfl⟩
   ·have:zkI s (zaE s k) w v=v:=by unfold zkI;rw [xq hg]
    rw [this];exact ⟨rfl,rfl,id,rfl⟩
  refine ⟨?_,?_,fun h=>⟨h.1,h.2.1,?_⟩,?_⟩
  ·rw [zwK fun v hv=>(key v hv).1]
  ·rw [zun fun v hv=>(key v hv).2.1]
  ·rw [zcT];intro u hu;obtain ⟨v,hv,rfl⟩:=xI.1 hu;exact (key v hv).2.2.1 (zcT.1 h.2.2 v hv)
  ·have:∀l:List Vlu,(∀v∈l,szV (zkI s (zaE s k) w v)=szV v)->szVs (l.map (zkI s (zaE s k) w))=szVs l:=by
    intro l
    induction l with
    | nil=>intro _;rfl
    | cons v l ih=>intro hh;rw [xX,szVs,szVs,hh v xt,ih fun u hu=>hh u (xu _ hu)]
   rw [this _ fun v hv=>(key v hv).2.2.2]
theorem zCB (a b:Int):IntKind.i64.wrap (IntKind.i64.wrap a+IntKind.i64.wrap b)=IntKind.i64.wrap (a+b):=by
 rw [zoY,zoY a,zoY b,zoY (a+b)];split<;>split<;>split<;>split<;>omega
theorem zna:∀(fuel:Nat) (x:Msg),szM x<fuel->bdM x->zaI fuel x=some (IntKind.i64.wrap (strM x))
 | 0,x,h,_=>by omega
 | fuel+1,x,hsz,hb=>by
  obtain ⟨b1,⟨b2,b3⟩,b4⟩:=(zfR x).1 hb;rw [zca] at hsz;have l2:∀(i:Nat) (hi:i<x.Values.length) (d k:Nat) (n:Int),k+d=x.Values[i].Subs.length->zcw i (zaI fuel) x (IntKind.i64.wrap n) k=some (IntKind.i64.wrap (n+(zum (x.Values[i].Subs.drop k):Int))):=by
   intro i hi d;have hv:x.Values[i]∈x.Values:=xE hi;have hbv:=(zfx _).1 (zcT.1 b4 _ hv);have s1:=zdi hv;rw [zdz] at s1
   induction d with
   | zero=>
    intro k n hk;refine (zjD (oo_:=IntKind.i64.wrap n) ?_).trans ?_
    ·unfold zaD;rw [zah rfl hi,sb,uw]
    ·rw [yd (by omega),zum];simp
   | succ d ih=>
    intro k n hk;have hkl:k<x.Values[i].Subs.length:=by omega
    have hm:=xE hkl;have s2:=zdJ hm;have hr:=zna fuel (x.Values[i].Subs[k]) (by omega) (zdC.1 hbv.2.2.2.2 _ hm);have hst:zaD i (zaI fuel) x (IntKind.i64.wrap n) k=some (.inl (IntKind.i64.wrap (n+(strM x.Values[i].Subs[k]:Int)),((k+1:Nat):Int))):=by
     unfold zaD;have hbl:=hbv.2.2.2.1;rw [zah rfl hi,sb,uv,sb,zah rfl hkl,sb,hr,sb,zCB,zI (x:=(k:Int)+1) (by omega)];rfl
    rw [zjC hst,ih (k+1) _ (by omega),xT hkl,zum];congr 2;push_cast;omega
  have l1:∀(d i:Nat) (n:Int),i+d=x.Values.length->zcv (zaI fuel) x (IntKind.i64.wrap n) i=some (IntKind.i64.wrap (n+(zpm (x.Values.drop i):Int))):=by
   intro d
   induction d with
   | zero=>
    intro i n hi;refine (zjB (oo_:=IntKind.i64.wrap n) ?_).trans ?_
    ·unfold zaC;rw [uw]
    ·rw [yd (by omega),zpm];simp
   | succ d ih=>
    intro i n hi;have hil:i<x.Values.length:=by omega
    have h2:=l2 i hil _ 0 n (xK _);have h2':zcw i (zaI fuel) x (IntKind.i64.wrap n) 0=_:=h2;have hst:zaC (zaI fuel) x (IntKind.i64.wrap n) i=some (.inl (IntKind.i64.wrap (n+(strV x.Values[i]:Int)),((i+1:Nat):Int))):=by
     unfold zaC;rw [uv,h2',sb,zI (x:=(i:Int)+1) (by omega),yb,zwS];rfl
    rw [zjA hst,ih (i+1) _ (by omega),xT hil,zpm];congr 2;push_cast;omega
  show zdg (zaI fuel) x=_;unfold zdg;have h:=l1 x.Values.length 0 (x.Unknown.length:Int) (xK _);have h':zcv (zaI fuel) x (IntKind.i64.wrap (x.Unknown.length:Int)) 0=_:=h;rw [zI (x:=(x.Unknown.length:Int)) (by omega)] at h';rw [h',sb,yb,zwR];congr 2
theorem ztr (s:List Mes) (a:Msg) (m:Mes):∀(l acc:List Vlu),(zig s l a m acc).length<=acc.length+l.length
 | [],acc=>by rw [zig];simp
 | v::l,acc=>by
  rw [zig];have h1:=ztr s a m l (putM ⟨acc,[]⟩ (zgI s v (look a.Values v.Number) (zaU m (fldI m v.Number)))).Values;have h2:=zEh acc [] (zgI s v (look a.Values v.Number) (zaU m (fldI m v.Number)));simp only [yi];omega
theorem zws {s:List Mes}:∀(N:Nat) (b a:Msg) (k:Int),szM b<=N->zaw s a k=true->zaw s b k=true->bdM a->bdM b->smM a->smM b->bdM (zbX s b a k)
 | 0,b,a,k,h,_,_,_,_,_,_=>by rw [zca] at h;omega
 | N+1,b,a,k,hsz,ha,hb,ba,bb,sa,sb'=>by
  obtain ⟨_,_,ra,ha',_⟩:=zaV ha;obtain ⟨_,_,rb,hb',_⟩:=zaV hb;obtain ⟨j1,j2⟩:=zhy ha hb;obtain ⟨a1,⟨a2,a3⟩,a4⟩:=(zfR a).1 ba;obtain ⟨b1,⟨b2,b3⟩,b4⟩:=(zfR b).1 bb;obtain ⟨sa1,⟨sa2,sa3⟩,sa4⟩:=(zkX a).1 sa;obtain ⟨sb1,⟨sb2,sb3⟩,sb4⟩:=(zkX b).1 sb';rw [zca] at hsz;have hlen:(zbX s b a k).Values.length<=a.Values.length+b.Values.length:=by rw [zhj];exact ztr s a _ _ _
  have hun:(zbX s b a k).Unknown=a.Unknown++b.Unknown:=by rw [zhj]
  refine (zfR _).2 ⟨by omega,⟨by rw [hun];simp;omega,fun t ht=>by
   rw [hun] at ht;rcases xz.1 ht with h| h
   ·exact a3 t h
   ·exact b3 t h⟩,zcT.2 fun x hx=>?_⟩
  have hl:=zye j1 hx;rw [j2] at hl;cases hlb:look b.Values x.Number with
  | none=>rw [hlb] at hl;exact zcT.1 a4 x (zdQ hl).2
  | some v=>
   rw [hlb] at hl;have e:x=zgI s v (look a.Values x.Number) (zaU (zaE s k) (fldI (zaE s k) x.Number)):=(yN hl).symm;obtain ⟨hvn,hvm⟩:=zdQ hlb;have bv:=zcT.1 b4 v hvm;have sv:=zhp.1 sb4 v hvm;rw [e,zeg];cases hla:look a.Values x.Number with
   | none=>exact bv
   | some u=>
    obtain ⟨hun',hum⟩:=zdQ hla;have bu:=zcT.1 a4 u hum;have su:=zhp.1 sa4 u hum;obtain ⟨v1,⟨v2,v3⟩,⟨v4,v5⟩,v6,v7⟩:=(zfx v).1 bv;obtain ⟨u1,⟨u2,u3⟩,⟨u4,u5⟩,u6,u7⟩:=(zfx u).1 bu;obtain ⟨q1,⟨q2,q3⟩,q4,q5⟩:=(zmZ v).1 sv;obtain ⟨r1,⟨r2,r3⟩,r4,r5⟩:=(zmZ u).1 su;simp only;split
    ·refine (zfx _).2 ⟨v1,⟨by simp;omega,fun w hw=>?_⟩,⟨by simp;omega,fun w hw=>?_⟩,by simp;omega,zdC.2 fun w hw=>?_⟩
     ·rcases xz.1 hw with h| h
      ·exact u3 w h
      ·exact v3 w h
     ·rcases xz.1 hw with h| h
      ·exact u5 w h
      ·exact v5 w h
     ·rcases xz.1 hw with h| h
      ·exact zdC.1 u7 w h
      ·exact zdC.1 v7 w h
    ·split
     ·rename_i hrep h17;have fv:=hb' v hvm;have fu:=ha' u hum;rw [hvn] at fv;rw [hun'] at fu;have ov:=zeE fv.2;have ou:=zeE fu.2;refine (zfx _).2 ⟨v1,⟨by simp,by simp⟩,⟨by simp,by simp⟩,?_⟩;cases hvs:v.Subs with
      | nil=>rw [zjh];exact ⟨by simp,by rw [bdMs];trivial⟩
      | cons y ys=>
       cases hus:u.Subs with
       | nil=>rw [zjh];exact ⟨by simp,by rw [bdMs];trivial⟩
       | cons z zs=>
        rw [zjh];simp only;have hy:y∈v.Subs:=by rw [hvs];exact xt
        have hz:z∈u.Subs:=by rw [hus];exact xt
        have hsv:=zdi hvm;rw [zdz] at hsv;have hsy:=zdJ hy;have hj:=zws N y z _ (by omega) (ou.subs z hz).2 (ov.subs y hy).2 (zdC.1 u7 z hz) (zdC.1 v7 y hy) (zho.1 r5 z hz) (zho.1 q5 y hy);exact ⟨by simp,by rw [bdMs,bdMs];exact ⟨hj,trivial⟩⟩
     ·exact bv
theorem zym:∀(N:Nat) (x:Msg),szM x<=N->bdM x->bdM (zgi x)/\szM (zgi x)=szM x
 | 0,x,h,_=>by rw [zca] at h;omega
 | N+1,x,hsz,hb=>by
  obtain ⟨b1,_,b4⟩:=(zfR x).1 hb;rw [zca] at hsz;have key:∀v∈x.Values,bdV (zhm v)/\szV (zhm v)=szV v:=fun v hv=>by
   have bv:=zcT.1 b4 v hv;obtain ⟨v1,v2,v3,v6,v7⟩:=(zfx v).1 bv;have hsv:=zdi hv;rw [zdz] at hsv;have ks:∀y∈v.Subs,bdM (zgi y)/\szM (zgi y)=szM y:=fun y hy=>zym N y (by have:=zdJ hy;omega) (zdC.1 v7 y hy)
   rw [zoP];refine ⟨(zfx _).2 ⟨v1,v2,v3,by rw [zoc];simpa using v6,zdC.2 fun z hz=>?_⟩,?_⟩
   ·rw [zoc] at hz;obtain ⟨y,hy,rfl⟩:=xI.1 hz;exact (ks y hy).1
   ·rw [zdz,zdz];simp only;have:∀l:List Msg,(∀y∈l,szM (zgi y)=szM y)->szMs (zfX l)=szMs l:=by
     intro l
     induction l with
     | nil=>intro _;rw [zfX]
     | cons y l ih=>intro h;rw [zfX,szMs,szMs,h y xt,ih fun z hz=>h z (xu _ hz)]
    rw [this _ fun y hy=>(ks y hy).2]
  rw [zkv];refine ⟨(zfR _).2 ⟨by rw [zjN];simpa using b1,⟨by simp,by simp⟩,zcT.2 fun z hz=>?_⟩,?_⟩
  ·rw [zjN] at hz;obtain ⟨v,hv,rfl⟩:=xI.1 hz;exact (key v hv).1
  ·rw [zca,zca];simp only;have:∀l:List Vlu,(∀y∈l,szV (zhm y)=szV y)->szVs (zfH l)=szVs l:=by
    intro l
    induction l with
    | nil=>intro _;rw [zfH]
    | cons y l ih=>intro h;rw [zfH,szVs,szVs,h y xt,ih fun z hz=>h z (xu _ hz)]
   rw [this _ fun v hv=>(key v hv).2]
theorem zse:∀(l m:List Vlu),szVs (l++m)=szVs l+szVs m
 | [],m=>by rw [x8,szVs];omega
 | v::l,m=>by rw [yo,szVs,szVs,zse l m];omega
theorem zsF {s:List Mes}:∀(N:Nat) (x:Msg) (k:Int) (w:List zE) (keep:Bool),szM x<=N->bdM x->bdM (zey s x k w keep)/\szM (zey s x k w keep)<=szM x
 | 0,x,k,w,keep,h,_=>by rw [zca] at h;omega
 | N+1,x,k,w,keep,hsz,hb=>by
  obtain ⟨b1,⟨b2,b3⟩,b4⟩:=(zfR x).1 hb;rw [zca] at hsz;have key:∀v∈x.Values,∀f:Fld,(∀u∈zsc s v f w keep,bdV u)/\szVs (zsc s v f w keep)<=szV v:=fun v hv f=>by
   have bv:=zcT.1 b4 v hv;obtain ⟨v1,v2,v3,v6,v7⟩:=(zfx v).1 bv;have hsv:=zdi hv;have hve:=zdz v;rw [zmi];split
   ·cases hs:v.Subs with
    | nil=>
     rw [zmS];refine ⟨fun u hu=>?_,?_⟩
     ·rw [xR.1 hu];exact (zfx _).2 ⟨v1,⟨by simp,by simp⟩,⟨by simp,by simp⟩,by simp,by rw [bdMs];trivial⟩
     ·rw [szVs,szVs,zdz];simp only;rw [szMs];omega
    | cons y ys=>
     have hy:y∈v.Subs:=by rw [hs];exact xt
     have hsy:=zdJ hy;obtain ⟨p1,p2⟩:=zsF N y f.Of (zfd w v.Number) keep (by omega) (zdC.1 v7 y hy);rw [zmS];refine ⟨fun u hu=>?_,?_⟩
     ·rw [xR.1 hu];exact (zfx _).2 ⟨v1,⟨by simp,by simp⟩,⟨by simp,by simp⟩,by simp,by rw [bdMs,bdMs];exact ⟨p1,trivial⟩⟩
     ·rw [szVs,szVs,zdz];simp only;rw [szMs,szMs];omega
   ·split
    ·refine ⟨(fun u hu=>by rw [xR.1 hu];exact bv),?_⟩;rw [szVs,szVs];omega
    ·exact ⟨(fun u hu=>by cases hu),(by rw [szVs];omega)⟩
  have all:∀l:List Vlu,(∀v∈l,v∈x.Values)->(∀u∈zdl s l (zaE s k) w keep,bdV u)/\szVs (zdl s l (zaE s k) w keep)<=szVs l/\(zdl s l (zaE s k) w keep).length<=l.length:=by
   intro l
   induction l with
   | nil=>intro _;rw [zdl];exact ⟨(fun u hu=>by cases hu),xx _,xx _⟩
   | cons v l ih=>
    intro h;obtain ⟨i1,i2,i3⟩:=ih fun u hu=>h u (xu _ hu)
    obtain ⟨k1,k2⟩:=key v (h v xt) (zaU (zaE s k) (fldI (zaE s k) v.Number));have k3:=zvE s v (zaU (zaE s k) (fldI (zaE s k) v.Number)) w keep;rw [zdl];refine ⟨fun u hu=>?_,?_,?_⟩
    ·rcases xz.1 hu with hu| hu
     ·exact k1 u hu
     ·exact i1 u hu
    ·rw [zse,szVs];omega
    ·rw [yc,yi];omega
  obtain ⟨a1,a2,a3⟩:=all x.Values fun v hv=>hv
  rw [ziJ];refine ⟨(zfR _).2 ⟨by simp only;omega,⟨?_,?_⟩,zcT.2 a1⟩,by rw [zca,zca];simp only;omega⟩
  ·simp only;cases keep<;>simp<;>omega
  ·simp only;cases keep with
   | true=>intro t ht;cases ht
   | false=>exact b3
theorem zyP:∀(N:Nat) (x:Msg),szM x<=N->szM x<=wgM x
 | 0,x,h=>by rw [zca] at h;omega
 | N+1,x,h=>by
  rw [zca] at h;have hv:∀v∈x.Values,szV v<=wgV v:=fun v hv=>by
   have h1:=zdi hv;have he:=zdz v;have:∀l:List Msg,(∀y∈l,y∈v.Subs)->szMs l<=wgMs l:=by
    intro l
    induction l with
    | nil=>intro _;rw [szMs];omega
    | cons y l ih=>
     intro hl;have hy:=hl y xt;have h2:=zdJ hy;have:=zyP N y (by omega);have:=ih fun z hz=>hl z (xu _ hz)
     rw [szMs,wgMs];omega
   have:=this v.Subs fun y hy=>hy
   rw [he,ziR];omega
  have:∀l:List Vlu,(∀v∈l,v∈x.Values)->szVs l<=wgVs l:=by
   intro l
   induction l with
   | nil=>intro _;rw [szVs];omega
   | cons v l ih=>
    intro hl;have:=hv v (hl v xt);have:=ih fun z hz=>hl z (xu _ hz)
    rw [szVs,wgVs];omega
  have:=this x.Values fun v hv=>hv
  rw [zca,zjq];omega
theorem zBl:∀(N:Nat) (x:Msg),szM x<=N->wgM x<=1048576->smM x
 | 0,x,h,_=>by rw [zca] at h;omega
 | N+1,x,h,hw=>by
  rw [zca] at h;rw [zjq] at hw;have hl:=zyN x.Values;have hu:=zwV (l:=x.Unknown);refine (zkX _).2 ⟨by omega,⟨by omega,fun t ht=>by have:=zwW ht;omega⟩,zhp.2 fun v hv=>?_⟩;have h1:=zdi hv;have h2:=zyO hv;rw [zdz] at h1;rw [ziR] at h2;have ht:=zwV (l:=v.Texts);have hs:=zyM v.Subs;refine (zmZ _).2 ⟨by omega,⟨by omega,fun t ht=>by have:=zwW ht;omega⟩,by omega,zho.2 fun y hy=>?_⟩;have h3:=zdJ hy;have h4:=zox hy;exact zBl N y (by omega) (by omega)
theorem zqU:∀(l m:List Vlu),wgVs (l++m)=wgVs l+wgVs m
 | [],m=>by rw [x8,wgVs];omega
 | v::l,m=>by rw [yo,wgVs,wgVs,zqU l m];omega
theorem zyL:∀(l m:List Msg),wgMs (l++m)=wgMs l+wgMs m
 | [],m=>by rw [x8,wgMs];omega
 | v::l,m=>by rw [yo,wgMs,wgMs,zyL l m];omega
def wgO:Option Vlu->Nat
 | none=>0
 | some u=>wgV u
theorem zEj (v:Vlu):∀(d:Bool) (l:List Vlu),zdm l->wgVs (putL v d l)+wgO (look l v.Number)<=wgVs l+(if d=true then 0 else wgV v)
 | d,[],_=>by
  rw [putL];cases d
  ·show wgVs [v]+0<=_;simp [wgVs]
  ·show wgVs []+0<=_;simp
 | d,u::l,h=>by
  obtain ⟨h1,h2⟩:=yj.1 h;have ih:=zEj v (d|| decide (v.Number<=u.Number)) l h2;rw [putL,zqU,zqU,zbQ,wgVs];by_cases he:u.Number=v.Number
  ·rw [xr he,xr he];have hn:look l v.Number=none:=zmO fun x hx=>by have:=h1 x hx;omega
   rw [hn] at ih;have hle:decide (v.Number<=u.Number)=true:=by simp;omega
   rw [hle,qU,xr rfl] at ih;simp only [wgO,wgVs,hle,qU] at ih|-;cases d
   ·rw [xr ⟨rfl,by omega⟩,wgVs,wgVs];simp;omega
   ·rw [xq (by simp),wgVs];simp;omega
  ·rw [xq he,xq he,wgVs,wgVs];cases d
   ·by_cases hv:v.Number<=u.Number
    ·rw [xr ⟨rfl,hv⟩,wgVs,wgVs];simp only [hv,decide_true,qU,yL,pz,if_false] at ih|-;omega
    ·rw [xq (fun hh=>hv hh.2),wgVs];simp only [hv,decide_false,qH,pz,if_false] at ih|-;omega
   ·rw [xq (by simp),wgVs];simp only [Bool.true_or,yL] at ih|-;omega
theorem zvn {s:List Mes} {a:Msg} {m:Mes}:∀(l acc:List Vlu),zdm l->zdm acc->(∀v∈l,look acc v.Number=look a.Values v.Number)->(∀v∈l,wgV (zgI s v (look a.Values v.Number) (zaU m (fldI m v.Number)))<=wgV v+wgO (look a.Values v.Number))->wgVs (zig s l a m acc)<=wgVs acc+wgVs l
 | [],acc,_,_,_,_=>by rw [zig];omega
 | v::l,acc,hl,ha,he,hw=>by
  obtain ⟨l1,l2⟩:=yj.1 hl;have hv:=he v xt;have hwv:=hw v xt;have hn:=zmc s v (look a.Values v.Number) (zaU m (fldI m v.Number));rw [zig]
  generalize zgI s v (look a.Values v.Number) (zaU m (fldI m v.Number))=v' at hn hwv|-
  have hp:=zEj v' (decide (zgJ v'=0)) acc ha;have ih:=zvn (s:=s) (a:=a) (m:=m) l (putM ⟨acc,[]⟩ v').Values l2 (zod ha) (fun u hu=>by
   show look (putL v' _ acc) u.Number=_;have:=l1 u hu;rw [ztA ha,xq (by omega)];exact he u (xu _ hu)) (fun u hu=>hw u (xu _ hu))
  have hq:wgVs (putM ⟨acc,[]⟩ v').Values=wgVs (putL v' (decide (zgJ v'=0)) acc):=rfl;rw [hn,hv] at hp;rw [wgVs];split at hp<;>omega
theorem zwt {s:List Mes}:∀(N:Nat) (b a:Msg) (k:Int),szM b<=N->zaw s a k=true->zaw s b k=true->wgM (zbX s b a k)<=wgM a+wgM b
 | 0,b,a,k,h,_,_=>by rw [zca] at h;omega
 | N+1,b,a,k,hsz,ha,hb=>by
  obtain ⟨_,_,ra,ha',_⟩:=zaV ha;obtain ⟨_,_,rb,hb',_⟩:=zaV hb;rw [zca] at hsz;have:=zvn (s:=s) (a:=a) (m:=zaE s k) b.Values a.Values rb ra (fun _ _=>rfl) fun v hv=>by
   rw [zeg];cases hla:look a.Values v.Number with
   | none=>simp only [wgO];omega
   | some u=>
    obtain ⟨hun,hum⟩:=zdQ hla;have hve:=ziR v;have hue:=ziR u;simp only [wgO];split
    ·rw [ziR];simp only [yc,qW,List.sum_append,zyL];omega
    ·split
     ·rename_i hrep h17;have ov:=zeE (hb' v hv).2;have ou:=zeE (ha' u hum).2;rw [hun] at ou;have hsv:=zdi hv;rw [zdz] at hsv;rw [ziR];simp only [q8,qB,List.sum_nil];cases hvs:v.Subs with
      | nil=>rw [zjh,wgMs];omega
      | cons y ys=>
       cases hus:u.Subs with
       | nil=>rw [zjh,wgMs];omega
       | cons z zs=>
        rw [zjh];have hy:y∈v.Subs:=by rw [hvs];exact xt
        have hz:z∈u.Subs:=by rw [hus];exact xt
        have hsy:=zdJ hy;have hj:=zwt N y z _ (by omega) (ou.subs z hz).2 (ov.subs y hy).2;have w1:=zox hy;have w2:=zox hz;rw [wgMs,wgMs];omega
     ·omega
  rw [zhj,zjq,zjq,zjq];simp only [qW,List.sum_append];omega
theorem zwI {s:List Mes}:∀(N:Nat) (x:Msg) (k:Int) (w:List zE) (keep:Bool),szM x<=N->wgM (zey s x k w keep)<=wgM x
 | 0,x,k,w,keep,h=>by rw [zca] at h;omega
 | N+1,x,k,w,keep,hsz=>by
  rw [zca] at hsz;have key:∀v∈x.Values,∀f:Fld,wgVs (zsc s v f w keep)<=wgV v:=fun v hv f=>by
   have hsv:=zdi hv;rw [zdz] at hsv;have hve:=ziR v;rw [zmi];split
   ·cases hs:v.Subs with
    | nil=>
     rw [zmS,wgVs,wgVs,ziR];simp only [q8,qB,List.sum_nil];rw [wgMs];omega
    | cons y ys=>
     have hy:y∈v.Subs:=by rw [hs];exact xt
     have hsy:=zdJ hy;have hwy:=zox hy;have:=zwI (s:=s) N y f.Of (zfd w v.Number) keep (by omega);rw [zmS,wgVs,wgVs,ziR];simp only [q8,qB,List.sum_nil];rw [wgMs,wgMs];omega
   ·split
    ·rw [wgVs,wgVs];omega
    ·rw [wgVs];omega
  have all:∀l:List Vlu,(∀v∈l,v∈x.Values)->wgVs (zdl s l (zaE s k) w keep)<=wgVs l:=by
   intro l
   induction l with
   | nil=>intro _;rw [zdl];exact xx _
   | cons v l ih=>
    intro h;have i2:=ih fun u hu=>h u (xu _ hu)
    have k2:=key v (h v xt) (zaU (zaE s k) (fldI (zaE s k) v.Number));rw [zdl,zqU,wgVs];omega
  have:=all x.Values fun v hv=>hv
  rw [ziJ,zjq,zjq];simp only;cases keep<;>simp<;>omega
theorem zyn:∀(N:Nat) (x:Msg),szM x<=N->wgM (zgi x)<=wgM x
 | 0,x,h=>by rw [zca] at h;omega
 | N+1,x,hsz=>by
  rw [zca] at hsz;have key:∀v∈x.Values,wgV (zhm v)<=wgV v:=fun v hv=>by
   have hsv:=zdi hv;rw [zdz] at hsv;rw [zoP,ziR,ziR];simp only;have:∀l:List Msg,(∀y∈l,y∈v.Subs)->wgMs (zfX l)<=wgMs l:=by
    intro l
    induction l with
    | nil=>intro _;rw [zfX];exact xx _
    | cons y l ih=>
     intro h;have h3:=zdJ (h y xt);have:=zyn N y (by omega);have:=ih fun z hz=>h z (xu _ hz)
     rw [zfX,wgMs,wgMs];omega
   have:=this v.Subs fun y hy=>hy
   omega
  have:∀l:List Vlu,(∀v∈l,v∈x.Values)->wgVs (zfH l)<=wgVs l:=by
   intro l
   induction l with
   | nil=>intro _;rw [zfH];exact xx _
   | cons v l ih=>
    intro h;have:=key v (h v xt);have:=ih fun z hz=>h z (xu _ hz)
    rw [zfH,wgVs,wgVs];omega
  have:=this x.Values fun v hv=>hv
  rw [zkv,zjq,zjq];simp only [qB,List.sum_nil];omega
theorem zGq {s:List Mes} (hs:zmA s) {k n:Int} (k0:0<=k) (k1:k<s.length) (h:0<=fldI (zaE s k) n):(Lit.int .i64 n).wf=true:=by
 obtain ⟨q,rfl⟩:∃q:Nat,k=q:=⟨k.toNat,by omega⟩;have hmm:zaE s (q:Int)∈s:=by rw [zmf (by omega)];exact xE _
 rcases ztj (zaE s (q:Int)) n with ⟨hf,_⟩| ⟨i,hi,_,hn,_⟩
 ·omega
 ·have hfo:=hs.fld _ hmm _ (xE hi);exact zGu (by rw [<-hn];have:=hfo.lo;have:=hfo.hi;omega)
theorem ztG {s:List Mes} {root:Int} {l:List Msg} (h:zfG s root l=0):zmA s/\0<=root/\root<s.length/\∀x∈l,zaw s x root=true:=by
 unfold zfG at h;by_cases h0:ziF s root=0
 ·rw [xq (show ¬ziF s root≠0 from fun hh=>hh h0)] at h;obtain ⟨h1,h2,h3⟩:=zxq h0;by_cases ha:l.all (fun x=>zaw s x root)=true
  ·exact ⟨h1,h2,h3,xC.1 ha⟩
  ·rw [xq ha] at h;cases h
 ·rw [xr h0] at h;exact absurd h h0
def zpn:Msg:=⟨[],[]⟩
theorem zEN:bdM zpn:=(zfR _).2 ⟨by simp [zpn],⟨by simp [zpn],by simp [zpn]⟩,by show bdVs [];rw [bdVs];trivial⟩
theorem zGm {fuel:Nat} {l:List Msg} (hx:∀x∈l,szM x<fuel/\bdM x) (hl:l.length<=1048576):∃r,zgd fuel l=some r/\(r=false->∀x∈l,smM x->wgM x<=2000):=by
 have key:∀(d i:Nat),i+d=l.length->∃q,zdP fuel l i=some q/\(q= .inl ()->∀x∈l.drop i,smM x->wgM x<=2000):=by
  intro d
  induction d with
  | zero=>
   intro i hi;refine ⟨.inl (),ziq ?_,fun _ x hx=>?_⟩
   ·unfold zbs;rw [uw]
   ·rw [yd (by omega)] at hx;cases hx
  | succ d ih=>
   intro i hi;have hlt:i<l.length:=by omega
   obtain ⟨h1,h2⟩:=hx _ (xE hlt);obtain ⟨r,hr,hr2⟩:=(zEt fuel).1 l[i] 70 h1 h2 (by omega) (by omega);by_cases hb:r>2000
   ·refine ⟨.inr (),ziq ?_,fun h=>nomatch h⟩;unfold zbs;rw [uv,zah rfl hlt,sb,hr,sb,itT (by simpa using hb)]
   ·obtain ⟨q,hq,hq2⟩:=ih (i+1) (by omega);refine ⟨q,(zlZ (i':=((i+1:Nat):Int)) ?_).trans hq,fun h x hx hs=>?_⟩
    ·unfold zbs;rw [uv,zah rfl hlt,sb,hr,sb,itF (by simpa using hb),uy];rfl
    ·rw [xT hlt] at hx;rcases xw.1 hx with rfl| hx
     ·have:=(hr2 hs).2.2 (by omega);omega
     ·exact hq2 h x hx hs
 obtain ⟨q,hq,hq2⟩:=key l.length 0 (by omega);have hq':zdP fuel l 0=_:=hq;unfold zgd;rw [hq',sb];cases q with
 | inl u=>exact ⟨_,rfl,fun _=>by cases u;simpa using hq2 rfl⟩
 | inr u=>exact ⟨_,rfl,fun h=>nomatch h⟩
theorem ztF {s:List Mes} {root:Int} {l:List Msg} (h1:zfp s=true) (h2:0<=root/\root<s.length) (h:∀x∈l,zaw s x root=true):zfG s root l=0:=by
 have h0:ziF s root=0:=by unfold ziF;rw [h1,xq (by simp),xq (by omega)]
 unfold zfG;rw [xq (show ¬ziF s root≠0 from fun hh=>hh h0),xr (xC.2 h)]
structure Gd (s:List Mes) (root:Int) (n:Nat) (x:Msg):Prop where
 r:zaw s x root=true
 b:bdM x
 w:wgM x<=n
theorem Gd.s {s:List Mes} {root:Int} {n:Nat} {x:Msg} (h:Gd s root n x) (hn:n<=1048576):smM x:=zBl _ x (xx _) (ye h.w hn)
theorem Gd.z {s:List Mes} {root:Int} {n fuel:Nat} {x:Msg} (h:Gd s root n x) (hn:n<fuel):szM x<fuel:=Nat.lt_of_le_of_lt (ye (zyP _ x (xx _)) h.w) hn
theorem Gd.join {s:List Mes} {root:Int} {n m:Nat} {a b:Msg} (ha:Gd s root n a) (hb:Gd s root m b) (hn:n<=1048576) (hm:m<=1048576):Gd s root (n+m) (zbX s b a root):=
 ⟨zlq _ b a root (xx _) ha.r hb.r,zws _ b a root (xx _) ha.r hb.r ha.b hb.b (ha.s hn) (hb.s hm),ye (zwt _ b a root (xx _) ha.r hb.r) (Nat.add_le_add ha.w hb.w)⟩
theorem Gd.part {s:List Mes} {root:Int} {n:Nat} {a:Msg} (ha:Gd s root n a) (w:List zE) (keep:Bool):Gd s root n (zey s a root w keep):=
 ⟨zjM _ a root w keep (xx _) ha.r,(zsF _ a root w keep (xx _) ha.b).1,ye (zwI _ a root w keep (xx _)) ha.w⟩
theorem zFT:∀n:Nat,(∀x:Msg,szM x<=n->dM x<szM x)/\(∀l:List Msg,szMs l<=n->dMs l<=szMs l)/\(∀v:Vlu,szV v<=n->dV v<szV v)/\∀l:List Vlu,szVs l<=n->dVs l<=szVs l
 | 0=>⟨fun x h=>by rw [zca] at h;omega,fun l h=>by
   cases l with
   | nil=>simp [dMs]
   | cons x l=>rw [szMs,zca] at h;omega,fun v h=>by rw [zdz] at h;omega,fun l h=>by
   cases l with
   | nil=>simp [dVs]
   | cons x l=>rw [szVs,zdz] at h;omega⟩
 | n+1=>by
  obtain ⟨i1,i2,i3,i4⟩:=zFT n;have h2:∀l:List Msg,szMs l<=n->dMs l<=szMs l:=i2;have h4:∀l:List Vlu,szVs l<=n->dVs l<=szVs l:=i4;have k1:∀x:Msg,szM x<=n+1->dM x<szM x:=fun x h=>by rw [zca] at h|-;rw [zCT];have:=h4 x.Values (by omega);omega
  have k3:∀v:Vlu,szV v<=n+1->dV v<szV v:=fun v h=>by rw [zdz] at h|-;rw [zAs];have:=h2 v.Subs (by omega);omega
  refine ⟨k1,fun l=>?_,k3,fun l=>?_⟩
  ·induction l with
   | nil=>intro _;simp [dMs]
   | cons x l ih=>intro h;rw [szMs] at h|-;rw [dMs];have:=ih (by omega);have:=k1 x (by omega);omega
  ·induction l with
   | nil=>intro _;simp [dVs]
   | cons x l ih=>intro h;rw [szVs] at h|-;rw [dVs];have:=ih (by omega);have:=k3 x (by omega);omega
theorem zxA (x:Msg):dM x<szM x:=(zFT (szM x)).1 x (xx _)
theorem zBg:∀(fuel:Nat) (x:Msg) (most:Nat),szM x<fuel->bdM x->dM x<=most->most<=1048576->zfV fuel x most=some ((dM x:Nat):Int)
 | 0,x,_,h,_,_,_=>by omega
 | fuel+1,x,most,hs,hb,hd,hm=>by
  obtain ⟨b1,_,b4⟩:=(zfR x).1 hb;rw [zca] at hs;rw [zCT] at hd|-;show ziQ (zfV fuel) x most=_;unfold ziQ;have inner:∀(v:Vlu),v∈x.Values->∀(c i d:Nat),i+c=v.Subs.length->d<=most->zgW most (zfV fuel) v d i=some (.inl ((max d (dMs (v.Subs.drop i)):Nat):Int)):=by
   intro v hv c;have hsz:=zdi hv;have hdv:=zwh hv;obtain ⟨_,_,_,c1,c2⟩:=(zfx _).1 (zcT.1 b4 _ hv);rw [zdz] at hsz;rw [zAs] at hdv
   induction c with
   | zero=>
    intro i d hi hdm;have e:v.Subs.drop i=[]:=yd (by omega);rw [e,dMs];refine zqP ?_;unfold zdB;rw [uw,Nat.max_zero]
   | succ c ih=>
    intro i d hi hdm;have hil:i<v.Subs.length:=by omega
    have hm2:=xE hil;have s2:=zdJ hm2;have d2:=zAr hm2;rw [xT hil,dMs];have hr:=zBg fuel v.Subs[i] (most - 1) (by omega) (zdC.1 c2 _ hm2) (by omega) (by omega);have hmost:IntKind.i64.wrap ((most:Int) - 1)=((most - 1:Nat):Int):=by rw [uy];omega
    have hw:IntKind.i64.wrap (1+((dM v.Subs[i]:Nat):Int))=1+((dM v.Subs[i]:Nat):Int):=by rw [uy]
    have hmax:(if (d:Int)<1+((dM v.Subs[i]:Nat):Int) then 1+((dM v.Subs[i]:Nat):Int) else (d:Int))=((max d (1+dM v.Subs[i]):Nat):Int):=by
     split<;>omega
    refine (zqO (deep3':=((max d (1+dM v.Subs[i]):Nat):Int)) (v3':=((i+1:Nat):Int)) ?_).trans ?_
    ·unfold zdB;rw [uv,zah rfl hil,sb,uw,hmost,hr,sb,hw,hmax,uw,uy];push_cast;rfl
    ·rw [ih (i+1) (max d (1+dM v.Subs[i])) (by omega) (by omega)];congr 3;omega
  have outer:∀(c i d:Nat),i+c=x.Values.length->d<=most->zgV most (zfV fuel) x d i=some (.inl ((max d (dVs (x.Values.drop i)):Nat):Int)):=by
   intro c
   induction c with
   | zero=>
    intro i d hi hdm;have e:x.Values.drop i=[]:=yd (by omega);rw [e,dVs];refine zqN ?_;unfold zdA;rw [uw,Nat.max_zero]
   | succ c ih=>
    intro i d hi hdm;have hil:i<x.Values.length:=by omega
    have hmem:=xE hil;have hdv:=zwh hmem;rw [xT hil,dVs];have h2:=inner x.Values[i] hmem (x.Values[i]).Subs.length 0 d (xK _) hdm;rw [yb,<-zAs] at h2;have h2':zgW most (zfV fuel) x.Values[i] d 0=_:=h2;refine (zqM (deep':=((max d (dV x.Values[i]):Nat):Int)) (v':=((i+1:Nat):Int)) ?_).trans ?_
    ·unfold zdA;rw [uv,zah rfl hil,sb,h2',sb,uy];push_cast;rfl
    ·rw [ih (i+1) (max d (dV x.Values[i])) (by omega) (by omega)];congr 3;omega
  have h:=outer x.Values.length 0 0 (xK _) (xG _);have h':zgV most (zfV fuel) x 0 0=_:=h;rw [h',sb,yb,Nat.zero_max]
theorem zCr (hf:szM x<fuel) (hb:bdM x) (hd:dM x<=131072):zkY fuel x=some ((dM x:Nat):Int):=by
 unfold zkY;have h:=zBg fuel x 131072 hf hb hd (by omega);have h':zfV fuel x 131072=_:=h;rw [h',sb]
theorem zur (hf:szM x<fuel) (hb:bdM x) (hd:dM x<=131072):zjp fuel x=some true:=by
 unfold zjp;rw [zCr hf hb hd,sb];congr 1;simp;omega
theorem zBA (ha:a.length<=1152921504606846976):zcs a b=some (decide (a=b)):=by
 unfold zcs;by_cases hl:a.length=b.length
 ·rw [itF (by simp [hl])];have h:=zmY a b (fun i=>zbp a b i) hl (by
    refine zeZ ?_;unfold zak;rw [itF (by simp)])
   (fun i hi hi'=>by
    by_cases hp:a[i]=b[i]
    ·rw [xr hp];refine zhS ?_;unfold zak;rw [uv,zah rfl hi,sb,zah rfl hi',sb,itF (by simp [hp]),uy];push_cast;rfl
    ·rw [xq hp];refine zeZ ?_;unfold zak;rw [uv,zah rfl hi,sb,zah rfl hi',sb,itT (by simp [hp])])
   a.length 0 (by omega)
  have h':zbp a b 0=_:=h;rw [h',sb];simp only [yb];by_cases e:a=b
  ·rw [xr e];simp [e]
  ·rw [xq e];simp [e]
 ·rw [uv];have:a≠b:=fun e=>hl (by rw [e])
  simp [this]
theorem zvb (ha:a.length<=1152921504606846976):zbG a b=some (decide (a=b)):=by
 unfold zbG;by_cases hl:a.length=b.length
 ·rw [itF (by simp [hl])];have h:=zmY a b (fun i=>zbo a b i) hl (by
    refine zeY ?_;unfold zaj;rw [itF (by simp)])
   (fun i hi hi'=>by
    by_cases hp:a[i]=b[i]
    ·rw [xr hp];refine zhR ?_;unfold zaj;rw [uv,zah rfl hi,sb,zah rfl hi',sb,itF (by simp [hp]),uy];push_cast;rfl
    ·rw [xq hp];refine zeY ?_;unfold zaj;rw [uv,zah rfl hi,sb,zah rfl hi',sb,itT (by simp [hp])])
   a.length 0 (by omega)
  have h':zbo a b 0=_:=h;rw [h',sb];simp only [yb];by_cases e:a=b
  ·rw [xr e];simp [e]
  ·rw [xq e];simp [e]
 ·rw [uv];have:a≠b:=fun e=>hl (by rw [e])
  simp [this]
section
open Classical
theorem zeH {α:Type} {x y:α} (h:x≠y):zni x y=false:=by
 cases hq:zni x y with
 | false=>rfl
 | true=>exact absurd (zfj.1 hq) h
theorem zBi:∀(fuel:Nat),(∀x y:Msg,2*szM x<fuel->bdM x->zgr fuel x y=some (zni x y))/\(∀v u:Vlu,2*szV v<fuel->bdV v->zdL fuel v u=some (zni v u))/\
  (∀a b:List Vlu,2*szVs a+1<fuel->a.length<=1152921504606846976->bdVs a->zJ fuel a b=some (zni a b))/\
  ∀a b:List Msg,2*szMs a+1<fuel->a.length<=1152921504606846976->bdMs a->zS fuel a b=some (zni a b)
 | 0=>⟨fun x y h=>by omega,fun v u h=>by omega,fun a b h=>by omega,fun a b h=>by omega⟩
 | fuel+1=>by
  obtain ⟨ih1,ih2,ih3,ih4⟩:=zBi fuel;refine ⟨fun x y hs hb=>?_,fun v u hs hb=>?_,fun a b hs hl hb=>?_,fun a b hs hl hb=>?_⟩
  ·obtain ⟨b1,⟨b2,b3⟩,b4⟩:=(zfR x).1 hb;rw [zca] at hs;show zjW (zgr fuel) (zdL fuel) (zJ fuel) (zS fuel) x y=_;unfold zjW;rw [ih3 x.Values y.Values (by omega) (by omega) b4,sb];by_cases e1:x.Values=y.Values
   ·rw [zfj.2 e1,itT (by rfl),zvb (by omega),sb,sb];by_cases e2:x.Unknown=y.Unknown
    ·rw [xS e2,zfj.2 (by cases x;cases y;simp only at e1 e2;rw [e1,e2])]
    ·rw [xY e2,zeH fun e=>e2 (by rw [e])]
   ·rw [zeH e1,itF (by rfl),sb,zeH fun e=>e1 (by rw [e])]
  ·obtain ⟨b0,⟨b1,_⟩,⟨b2,b3⟩,b4,b5⟩:=(zfx v).1 hb;rw [zdz] at hs;show zgs (zgr fuel) (zdL fuel) (zJ fuel) (zS fuel) v u=_;unfold zgs;by_cases e0:v.Number=u.Number
   ·rw [itT (by simp [e0]),zBA (by omega),sb];by_cases e1:v.Words=u.Words
    ·rw [itT (by simp [e1]),zvb (by omega),sb];by_cases e2:v.Texts=u.Texts
     ·rw [itT (by simp [e2]),ih4 v.Subs u.Subs (by omega) (by omega) b5,sb,sb];by_cases e3:v.Subs=u.Subs
      ·rw [zfj.2 e3,zfj.2 (by cases v;cases u;simp only at e0 e1 e2 e3;rw [e0,e1,e2,e3])]
      ·rw [zeH e3,zeH fun e=>e3 (by rw [e])]
     ·rw [itF (by simp [e2]),sb,zeH fun e=>e2 (by rw [e])]
    ·rw [itF (by simp [e1]),sb,zeH fun e=>e1 (by rw [e])]
   ·rw [itF (by simp [e0]),sb,zeH fun e=>e0 (by rw [e])]
  ·show zN (zgr fuel) (zdL fuel) (zJ fuel) (zS fuel) a b=_;unfold zN;by_cases hll:a.length=b.length
   ·rw [itF (by simp [hll])];have hv:∀(i:Nat) (hi:i<a.length) (hi':i<b.length),zdL fuel a[i] b[i]=some (zni a[i] b[i]):=fun i hi hi'=>by
     have hm:=xE hi;have:=zdi hm;exact ih2 _ _ (by omega) (zcT.1 hb _ hm)
    have h:=zmY a b (fun i=>zH (zdL fuel) a b i) hll (by
      refine zaK ?_;unfold zt;rw [itF (by simp)])
     (fun i hi hi'=>by
      by_cases hp:a[i]=b[i]
      ·rw [xr hp];refine zce ?_;unfold zt;rw [uv,zah rfl hi,sb,zah rfl hi',sb,hv i hi hi',sb,itF (by rw [zfj.2 hp];rfl),uy];push_cast;rfl
      ·rw [xq hp];refine zaK ?_;unfold zt;rw [uv,zah rfl hi,sb,zah rfl hi',sb,hv i hi hi',sb,itT (by rw [zeH hp];rfl)])
     a.length 0 (by omega)
    have h':zH (zdL fuel) a b 0=_:=h;rw [h',sb];simp only [yb];by_cases e:a=b
    ·rw [xr e,zfj.2 e]
    ·rw [xq e,zeH e]
   ·rw [uv,zeH fun e=>hll (by rw [e])]
  ·show zac (zgr fuel) (zdL fuel) (zJ fuel) (zS fuel) a b=_;unfold zac;by_cases hll:a.length=b.length
   ·rw [itF (by simp [hll])];have hv:∀(i:Nat) (hi:i<a.length) (hi':i<b.length),zgr fuel a[i] b[i]=some (zni a[i] b[i]):=fun i hi hi'=>by
     have hm:=xE hi;have:=zdJ hm;exact ih1 _ _ (by omega) (zdC.1 hb _ hm)
    have h:=zmY a b (fun i=>zP (zgr fuel) a b i) hll (by
      refine zba ?_;unfold zw;rw [itF (by simp)])
     (fun i hi hi'=>by
      by_cases hp:a[i]=b[i]
      ·rw [xr hp];refine zcI ?_;unfold zw;rw [uv,zah rfl hi,sb,zah rfl hi',sb,hv i hi hi',sb,itF (by rw [zfj.2 hp];rfl),uy];push_cast;rfl
      ·rw [xq hp];refine zba ?_;unfold zw;rw [uv,zah rfl hi,sb,zah rfl hi',sb,hv i hi hi',sb,itT (by rw [zeH hp];rfl)])
     a.length 0 (by omega)
    have h':zP (zgr fuel) a b 0=_:=h;rw [h',sb];simp only [yb];by_cases e:a=b
    ·rw [xr e,zfj.2 e]
    ·rw [xq e,zeH e]
   ·rw [uv,zeH fun e=>hll (by rw [e])]
end
theorem zyG (y:Msg) (hf:2*szM x<fuel) (hb:bdM x) (hd:dM x<=131072):zhJ fuel x y=some (zni x y):=by
 unfold zhJ;rw [zur (by omega) hb hd,sb,itT (by rfl),(zBi fuel).1 x y hf hb,sb,sb]
theorem zzj (h:a.length*80<=140737488355328):zbl a=some a:=by
 unfold zbl;have h1:(app 80 ([]:List Vlu) a>>=fun v=>some v)=some a:=by rw [zhh (by simp;omega),sb,x8]
 cases a with
 | nil=>exact znC rfl h1
 | cons=>exact h1
theorem zzi (h:a.length*48<=140737488355328):zbL a=some a:=by
 unfold zbL;have h1:(app 48 ([]:List Msg) a>>=fun v=>some v)=some a:=by rw [zhh (by simp;omega),sb,x8]
 cases a with
 | nil=>exact znC rfl h1
 | cons=>exact h1
theorem zuY (h:a.length*16<=140737488355328):zbF a=some a:=by
 unfold zbF;have h1:(app 16 ([]:List Str) a>>=fun v=>some v)=some a:=by rw [zhh (by simp;omega),sb,x8]
 cases a with
 | nil=>exact znC rfl h1
 | cons=>exact h1
theorem zBx (h:a.length*8<=140737488355328):zcr a=some a:=by
 unfold zcr;have h1:(app 8 ([]:List Int) a>>=fun v=>some v)=some a:=by rw [zhh (by simp;omega),sb,x8]
 cases a with
 | nil=>exact znC rfl h1
 | cons=>exact h1
theorem zuh {α:Type}:∀(l:List α) (i:Nat) (h:i<l.length),l.set i l[i]=l
 | [],i,h=>by simp at h
 | x::l,0,h=>rfl
 | x::l,i+1,h=>by simp only [List.set_cons_succ,py];rw [zuh l i (by simpa using h)]
theorem zBf:∀(fuel:Nat),(∀x:Msg,szM x<fuel->bdM x->zff fuel x=some x)/\∀v:Vlu,szV v<fuel->bdV v->zer fuel v=some v
 | 0=>⟨fun x h=>by omega,fun v h=>by omega⟩
 | fuel+1=>by
  obtain ⟨ih1,ih2⟩:=zBf fuel;refine ⟨fun x hs hb=>?_,fun v hs hb=>?_⟩
  ·obtain ⟨b1,⟨b2,b3⟩,b4⟩:=(zfR x).1 hb;rw [zca] at hs;show zfU (zff fuel) (zer fuel) x=_;unfold zfU;have hloop:∀(c i:Nat),i+c=x.Values.length->zgp (zer fuel) x.Values x.Values i=some x.Values:=by
    intro c
    induction c with
    | zero=>
     intro i hi;refine zpY ?_;unfold zco;rw [uw]
    | succ c ih=>
     intro i hi;have hil:i<x.Values.length:=by omega
     have hm:=xE hil;have:=zdi hm;refine (zpX (v':=x.Values) (v2':=((i+1:Nat):Int)) ?_).trans (ih (i+1) (by omega));unfold zco;rw [uv,zah rfl hil,sb,ih2 _ (by omega) (zcT.1 b4 _ hm),sb,sb,uy,yp,zuh _ _ hil];push_cast;rfl
   have h:=hloop x.Values.length 0 (xK _);have h':zgp (zer fuel) x.Values x.Values 0=_:=h;rw [zzj (by omega),sb,zuY (by omega),sb,h',sb];cases x;rfl
  ·obtain ⟨b0,⟨b1,_⟩,⟨b2,b3⟩,b4,b5⟩:=(zfx v).1 hb;rw [zdz] at hs;show zdo (zff fuel) (zer fuel) v=_;unfold zdo;have hloop:∀(c i:Nat),i+c=v.Subs.length->zdT (zff fuel) v.Subs v.Subs i=some v.Subs:=by
    intro c
    induction c with
    | zero=>
     intro i hi;refine zmu ?_;unfold zaP;rw [uw]
    | succ c ih=>
     intro i hi;have hil:i<v.Subs.length:=by omega
     have hm:=xE hil;have:=zdJ hm;refine (zmt (v2':=v.Subs) (v3':=((i+1:Nat):Int)) ?_).trans (ih (i+1) (by omega));unfold zaP;rw [uv,zah rfl hil,sb,ih1 _ (by omega) (zdC.1 b5 _ hm),sb,sb,uy,yp,zuh _ _ hil];push_cast;rfl
   have h:=hloop v.Subs.length 0 (xK _);have h':zdT (zff fuel) v.Subs v.Subs 0=_:=h;rw [zBx (by omega),sb,zuY (by omega),sb,zzi (by omega),sb,h',sb];cases v;rfl
theorem zuq (hf:szM x<fuel) (hb:bdM x) (hd:dM x<=131072):zhI fuel x=some x:=by
 unfold zhI;rw [zur hf hb hd,sb,itF (by rfl),(zBf fuel).1 x hf hb,sb]
theorem zFA:∀a<256,zqS ((a:Nat):Int)=some (if a<128 then (1,(a:Int)) else if a/32=6 then (2,((a%32:Nat):Int)) else if a/16=14 then (3,((a%16:Nat):Int)) else if a/8=30 then (4,((a%8:Nat):Int)) else (0,0)):=by decide+kernel
theorem zwP (w k:Nat) (h:k<=32):shrI .u32 (w:Int) (k:Int)=((w/2^k:Nat):Int):=zyw (k:= .u32) (a:=w) (b:=k) (by simpa [IntKind.bits] using h)
theorem zsB (w:Nat):zmy (w:Int)=some (if w<128 then 1 else if w<2048 then 2 else if 55296<=w/\w<=57343 then 0 else if w<65536 then 3 else if w<=1114111 then 4 else 0):=by
 unfold zmy;have e7:shrI .u32 (w:Int) 7=((w/128:Nat):Int):=zwP w 7 (by omega);have e11:shrI .u32 (w:Int) 11=((w/2048:Nat):Int):=zwP w 11 (by omega);have e16:shrI .u32 (w:Int) 16=((w/65536:Nat):Int):=zwP w 16 (by omega);rw [e7,e11,e16];by_cases h1:w<128
 ·rw [uv,xr h1]
 ·rw [uw,xq h1];by_cases h2:w<2048
  ·rw [uv,xr h2]
  ·rw [uw,xq h2];by_cases h3:55296<=w/\w<=57343
   ·rw [uv,xr h3]
   ·rw [uw,xq h3];by_cases h4:w<65536
    ·rw [uv,xr h4]
    ·rw [uw,xq h4];by_cases h5:w<=1114111
     ·rw [uv,xr h5]
     ·rw [uw,xq h5]
theorem zBN:∀c<256,shrI .u8 ((c:Nat):Int) 6=((c/64:Nat):Int)/\IntKind.u32.wrap (andI .u8 ((c:Nat):Int) 63)=((c%64:Nat):Int):=by decide+kernel
theorem zks {v:List UInt8} {w i:Nat} (h:i<v.length) (hv:v.length<=1000) (hw:w<=1000000):
  zcY v w i=if cont v[i] then zcY v ((64*w+v[i].toNat%64:Nat):Int) ((i+1:Nat):Int) else some (.inr ()):=by
 have hc:=v[i].toNat_lt;obtain ⟨e1,e2⟩:=zBN v[i].toNat (by omega);have hb:zeD v w i=if cont v[i] then some (.inl (((64*w+v[i].toNat%64:Nat):Int),((i+1:Nat):Int))) else some (.inr (.inr ())):=by
  unfold zeD;rw [uv,zah rfl h,sb,e1,e2];by_cases hk:cont v[i]=true
  ·rw [xr hk];unfold cont at hk;simp only [xU] at hk;rw [uw,uy];have e3:shlI .u32 (w:Int) 6=((w*64:Nat):Int):=by
    have:shlI .u32 (w:Int) 6=((w*64%4294967296:Nat):Int):=by simp [shlI,IntKind.bits,zyR]
    rw [this,Nat.mod_eq_of_lt (by omega)]
   rw [e3,zAZ rfl (by simp [IntKind.bits];omega) (by simp [IntKind.bits];omega),Nat.or_comm,zyj _ w 6 (by omega)];have e4:v[i].toNat%64+w*2^6=64*w+v[i].toNat%64:=by omega
   rw [e4];rfl
  ·rw [xq hk];unfold cont at hk;simp only [xU] at hk;rw [uv]
 by_cases hk:cont v[i]=true
 ·rw [xr hk] at hb|-;exact zsp hb
 ·rw [xq hk] at hb|-;exact znl hb
theorem zqt (h:v.length<=i):zcY v w i=some (.inl (w:Int)):=by
 refine znl ?_;unfold zeD;rw [uw]
theorem zHp {w:Nat} {b:UInt8} (hw:w<=100):zcY [b] w 0=if cont b then some (.inl ((64*w+b.toNat%64:Nat):Int)) else some (.inr ()):=by
 have h:=zks (v:=[b]) (w:=w) (i:=0) (by simp) (by simp) (by omega);refine Eq.trans h ?_;simp only [pW];rw [zqt (by simp)]
theorem zHq {w:Nat} {b c:UInt8} (hw:w<=100):zcY [b,c] w 0=if cont b then (if cont c then some (.inl ((64*(64*w+b.toNat%64)+c.toNat%64:Nat):Int)) else some (.inr ())) else some (.inr ()):=by
 have h:=zks (v:=[b,c]) (w:=w) (i:=0) (by simp) (by simp) (by omega);refine Eq.trans h ?_;rw [zks (i:=0+1) (by simp) (by simp) (by omega)];simp only [pW,py,xK];rw [zqt (by simp)]
theorem zHr {w:Nat} {b c d:UInt8} (hw:w<=100):zcY [b,c,d] w 0=if cont b then (if cont c then (if cont d then some (.inl ((64*(64*(64*w+b.toNat%64)+c.toNat%64)+d.toNat%64:Nat):Int)) else some (.inr ())) else some (.inr ())) else some (.inr ()):=by
 have h:=zks (v:=[b,c,d]) (w:=w) (i:=0) (by simp) (by simp) (by omega);refine Eq.trans h ?_;rw [zks (i:=0+1) (by simp) (by simp) (by omega),zks (i:=0+1+1) (by simp) (by simp) (by omega)];simp only [pW,py,xK];rw [zqt (by simp)]
theorem zDZ (n:Nat) (h:∀m,m≠n->isN m l=false):nxt l=if isN n l then n else 0:=by
 by_cases hn:isN n l=true
 ·rw [xr hn,zGJ hn]
 ·rw [xq hn];by_cases h0:nxt l=0
  ·exact h0
  ·have h1:=zsD h0;by_cases h2:nxt l=n
   ·rw [h2] at h1;exact absurd h1 hn
   ·rw [h _ h2] at h1;cases h1
theorem zmh (n:Nat) (h:n=1/\a.toNat<128\/n=2/\192<=a.toNat/\a.toNat<224\/n=3/\224<=a.toNat/\a.toNat<240\/n=4/\240<=a.toNat):nxt (a::t)=if isN n (a::t) then n else 0:=by
 refine zDZ n fun m hm=>?_
 cases hh:isN m (a::t) with
 | false=>rfl
 | true=>
  obtain ⟨a',t',e,_,g⟩:=zkJ hh;cases e;omega
theorem zAJ (b:List UInt8):zmx b=some ((nxt b:Nat):Int):=by
 cases b with
 | nil=>rfl
 | cons a t=>
  have ha:=a.toNat_lt;unfold zmx;have e00:idx (a::t) (0:Int)=some a:=zah (n:=0) rfl (by simp);rw [uw,e00,sb];rw [zFA _ (by omega),sb];by_cases h1:a.toNat<128
  ·rw [zmh 1 (.inl ⟨rfl,h1⟩),xr h1];simp only;rw [uw,zpv (i:=1) (j:=1) (a:=1) (b:=1) rfl rfl (by omega) (by simp),sb];have e0:zcY (((a::t).drop 1).take (1 - 1)) (a.toNat:Int) 0=some (.inl (a.toNat:Int)):=zqt (i:=0) (by simp);rw [e0,sb];simp only;rw [zsB,sb,xr h1,itF (by rfl)];simp [isN,is1,h1]
  ·rw [xq h1];by_cases h2:a.toNat/32=6
   ·rw [zmh 2 (.inr (.inl ⟨rfl,by omega,by omega⟩)),xr h2];simp only
    match t with
    | []=>rw [itT (by simp)];rfl
    | b::t=>
     rw [uw,zpv (i:=1) (j:=2) (a:=1) (b:=2) rfl rfl (by omega) (by simp),sb];have e0:=zHp (w:=a.toNat%32) (b:=b) (by omega);have e0':zcY (((a::b::t).drop 1).take (2 - 1)) ((a.toNat%32:Nat):Int) 0=_:=e0;rw [e0'];have hb:=b.toNat_lt;by_cases c1:cont b=true
     ·rw [xr c1,sb];simp only;have hn:=zsB (64*(a.toNat%32)+b.toNat%64);simp only [isN,is2,c1,qu,xU];simp only [cont,xU] at c1;by_cases h:194<=a.toNat
      ·rw [xq (by omega),xr (by omega)] at hn;rw [hn,sb,itF (by rfl),xr (by omega)];rfl
      ·rw [xr (by omega)] at hn;rw [hn,sb,itT (by rfl),xq (by omega)];rfl
     ·rw [xq c1,sb];simp only;simp [isN,is2,c1]
   ·rw [xq h2];by_cases h3:a.toNat/16=14
    ·rw [zmh 3 (.inr (.inr (.inl ⟨rfl,by omega,by omega⟩))),xr h3];simp only
     match t with
     | []=>rw [itT (by simp)];rfl
     | [b]=>rw [itT (by simp)];rfl
     | b::c::t=>
      rw [uw,zpv (i:=1) (j:=3) (a:=1) (b:=3) rfl rfl (by omega) (by simp),sb];have e0:=zHq (w:=a.toNat%16) (b:=b) (c:=c) (by omega);have e0':zcY (((a::b::c::t).drop 1).take (3 - 1)) ((a.toNat%16:Nat):Int) 0=_:=e0;rw [e0'];have hb:=b.toNat_lt;have hc:=c.toNat_lt;by_cases c1:cont b=true
      ·rw [xr c1];by_cases c2:cont c=true
       ·rw [xr c2,sb];simp only;have hn:=zsB (64*(64*(a.toNat%16)+b.toNat%64)+c.toNat%64);simp only [isN,is3,c1,c2,qt,xU];simp only [cont,xU] at c1 c2;by_cases h:(a.toNat=224->160<=b.toNat)/\(a.toNat=237->b.toNat<160)
        ·rw [xq (by omega),xq (by omega),xq (by omega),xr (by omega)] at hn;rw [hn,sb,itF (by rfl),xr (by omega)];rfl
        ·by_cases g:64*(64*(a.toNat%16)+b.toNat%64)+c.toNat%64<2048
         ·by_cases g':64*(64*(a.toNat%16)+b.toNat%64)+c.toNat%64<128
          ·rw [xr g'] at hn;rw [hn,sb,itT (by rfl),xq (by omega)];rfl
          ·rw [xq g',xr g] at hn;rw [hn,sb,itT (by rfl),xq (by omega)];rfl
         ·rw [xq (by omega),xq g,xr (by omega)] at hn;rw [hn,sb,itT (by rfl),xq (by omega)];rfl
       ·rw [xq c2,sb];simp only;simp [isN,is3,c2]
      ·rw [xq c1,sb];simp only;simp [isN,is3,c1]
    ·rw [xq h3];by_cases h4:a.toNat/8=30
     ·rw [zmh 4 (.inr (.inr (.inr ⟨rfl,by omega⟩))),xr h4];simp only
      match t with
      | []=>rw [itT (by simp)];rfl
      | [b]=>rw [itT (by simp)];rfl
      | [b,c]=>rw [itT (by simp)];rfl
      | b::c::d::t=>
       rw [uw,zpv (i:=1) (j:=4) (a:=1) (b:=4) rfl rfl (by omega) (by simp),sb];have e0:=zHr (w:=a.toNat%8) (b:=b) (c:=c) (d:=d) (by omega);have e0':zcY (((a::b::c::d::t).drop 1).take (4 - 1)) ((a.toNat%8:Nat):Int) 0=_:=e0;rw [e0'];have hb:=b.toNat_lt;have hc:=c.toNat_lt;have hd:=d.toNat_lt;by_cases c1:cont b=true
       ·rw [xr c1];by_cases c2:cont c=true
        ·rw [xr c2];by_cases c3:cont d=true
         ·rw [xr c3,sb];simp only;have hn:=zsB (64*(64*(64*(a.toNat%8)+b.toNat%64)+c.toNat%64)+d.toNat%64);simp only [isN,is4,c1,c2,c3,qt,xU];simp only [cont,xU] at c1 c2 c3;by_cases h:a.toNat<245/\(a.toNat=240->144<=b.toNat)/\(a.toNat=244->b.toNat<144)
          ·rw [xq (by omega),xq (by omega),xq (by omega),xq (by omega),xr (by omega)] at hn;rw [hn,sb,itF (by rfl),xr (by omega)];rfl
          ·have hw:¬(65536<=64*(64*(64*(a.toNat%8)+b.toNat%64)+c.toNat%64)+d.toNat%64/\64*(64*(64*(a.toNat%8)+b.toNat%64)+c.toNat%64)+d.toNat%64<=1114111):=by omega
           generalize 64*(64*(64*(a.toNat%8)+b.toNat%64)+c.toNat%64)+d.toNat%64=w at hn hw
           have hx:∃x:Int,zmy w=some x/\x≠4:=⟨_,hn,by (repeat' split)<;>omega⟩;obtain ⟨x,hx,h4⟩:=hx;rw [hx,sb,uv,xq (by omega)];rfl
         ·rw [xq c3,sb];simp only;simp [isN,is4,c3]
        ·rw [xq c2,sb];simp only;simp [isN,is4,c2]
       ·rw [xq c1,sb];simp only;simp [isN,is4,c1]
     ·rw [xq h4,itT (by rfl)];by_cases h5:240<=a.toNat
      ·rw [zmh 4 (.inr (.inr (.inr ⟨rfl,h5⟩)))];cases hh:isN 4 (a::t) with
       | false=>rfl
       | true=>
        match t,hh with
        | b::c::d::t,hh=>simp only [isN,is4,xU] at hh;omega
      ·by_cases h0:nxt (a::t)=0
       ·rw [h0];rfl
       ·obtain ⟨a',t',e,_,g⟩:=zkJ (zsD h0);cases e;omega
theorem zCz (hb:b.length<=1152921504606846976) (l:List UInt8):∀(a c:Nat),c<=a->a<=b.length->l=b.drop a->
  zht b a c ((nxt l:Nat):Int)=some (((a+(pre4 l).1:Nat):Int),((c+(pre4 l).2:Nat):Int)):=by
 refine zEg (fun l=>∀(a c:Nat),c<=a->a<=b.length->l=b.drop a->zht b a c ((nxt l:Nat):Int)=some (((a+(pre4 l).1:Nat):Int),((c+(pre4 l).2:Nat):Int))) ?_ ?_ l
 ·intro l h a c hc ha hl;rw [h,zCc h];refine zsr ?_;unfold zfg;rw [itF (by rfl)];rfl
 ·intro l h ih a c hc ha hl;subst hl;have h4:=zFy (b.drop a);have hle:=ztL (b.drop a);simp only [yl] at hle;have e1:(b.drop a).drop (nxt (b.drop a))=b.drop (a+nxt (b.drop a)):=by rw [qD]
  refine (zsq (atv':=((a+nxt (b.drop a):Nat):Int)) (points':=((c+1:Nat):Int)) (size':=((nxt (b.drop (a+nxt (b.drop a))):Nat):Int)) ?_).trans ?_
  ·unfold zfg;rw [uv,uy,zta (a:=a+nxt (b.drop a)) (by push_cast;rfl) rfl (by omega),sb,zAJ,sb,uy];rfl
  ·rw [<-e1,ih (a+nxt (b.drop a)) (c+1) (by omega) (by omega) e1,zFB h];simp only [qN,Nat.add_comm 1]
theorem zEK (hb:b.length<=1152921504606846976):zow b=some (((pre4 b).1:Int),((pre4 b).2:Int)):=by
 unfold zow;rw [zAJ,sb];have h:=zCz hb b 0 0 (xx _) (xG _) rfl;simp only [xK] at h;have h':zht b 0 0 ((nxt b:Nat):Int)=some (((pre4 b).1:Int),((pre4 b).2:Int)):=h;rw [h',sb]
theorem zCx (hb:b.length<=1152921504606846976):zmv b=some ((pre4 b).1:Int):=by
 unfold zmv;rw [zEK hb,sb]
theorem zvS (hb:b.length<=1152921504606846976):zmw b=some (zlK b):=by
 unfold zmw zlK;rw [zCx hb,sb,zEV]
def zGG:List Str:=[[],[105,110,116,51,50],[105,110,116,54,52],[117,105,110,116,51,50],[117,105,110,116,54,52],[115,105,110,116,51,50],[115,105,110,116,54,52],[98,111,111,108],[101,110,117,109],[102,105,120,101,100,51,50],[115,102,105,120,101,100,51,50],[102,108,111,97,116],[102,105,120,101,100,54,52],[115,102,105,120,101,100,54,52],[100,111,117,98,108,101],[115,116,114,105,110,103],[98,121,116,101,115],[109,101,115,115,97,103,101]]
def zDz (k:Int):Str:=(zGG[k.toNat]?).getD []
def kT:List (Int×zu):=[(1,⟨[105,110,116,51,50],0⟩),(2,⟨[105,110,116,54,52],0⟩),(3,⟨[117,105,110,116,51,50],0⟩),(4,⟨[117,105,110,116,54,52],0⟩),(5,⟨[115,105,110,116,51,50],0⟩),(6,⟨[115,105,110,116,54,52],0⟩),(7,⟨[98,111,111,108],0⟩),(8,⟨[101,110,117,109],0⟩),(9,⟨[102,105,120,101,100,51,50],5⟩),(10,⟨[115,102,105,120,101,100,51,50],5⟩),(11,⟨[102,108,111,97,116],5⟩),(12,⟨[102,105,120,101,100,54,52],1⟩),(13,⟨[115,102,105,120,101,100,54,52],1⟩),(14,⟨[100,111,117,98,108,101],1⟩),(15,⟨[115,116,114,105,110,103],2⟩),(16,⟨[98,121,116,101,115],2⟩),(17,⟨[109,101,115,115,97,103,101],2⟩)]
theorem zxY:zkL=some kT:=rfl
theorem zsd (h:zfa k=true):k=1\/k=2\/k=3\/k=4\/k=5\/k=6\/k=7\/k=8\/k=9\/k=10\/k=11\/k=12\/k=13\/k=14\/k=15\/k=16\/k=17:=by
 have:=yY h;omega
theorem zGx (h:zfa k=true):mget kT k=some ⟨zDz k,zvo k⟩:=by
 rcases zsd h with rfl| rfl| rfl| rfl| rfl| rfl| rfl| rfl| rfl| rfl| rfl| rfl| rfl| rfl| rfl| rfl| rfl<;>rfl
theorem zFj (h:e∈kT):zfa e.1=true/\e.2=⟨zDz e.1,zvo e.1⟩:=by
 have:kT.all (fun e=>zfa e.1&&decide (e.2=⟨zDz e.1,zvo e.1⟩))=true:=by decide
 have h1:=xC.1 this e h;simp only [xy,xU] at h1;exact h1
theorem zFk (h:zfa k=false):mget kT k=none:=by
 cases hg:mget kT k with
 | none=>rfl
 | some x=>
  have mem:∀{m:List (Int×zu)} {x:zu},mget m k=some x->(k,x)∈m:=fun {m x} hg=>by
   induction m with
   | nil=>cases hg
   | cons p m ih=>
    rw [mget] at hg;split at hg
    ·rename_i e;cases hg;rw [e];exact xt
    ·exact xu _ (ih hg)
  have h1:=(zFj (mem hg)).1;simp only at h1;rw [h] at h1;cases h1
theorem zDM (k:Int):zmd k=some (if zfa k then (zvo k,0) else (0,2)):=by
 unfold zmd;rw [zxY,sb];cases h:zfa k with
 | true=>rw [zGx h];rfl
 | false=>rw [zFk h];rfl
theorem zzD (k:Int):zjJ k=some (kNum k):=by
 unfold zjJ;rw [zDM,sb];cases h:zfa k with
 | true=>
  rcases zsd h with rfl| rfl| rfl| rfl| rfl| rfl| rfl| rfl| rfl| rfl| rfl| rfl| rfl| rfl| rfl| rfl| rfl<;>rfl
 | false=>
  have h1:=of_decide_eq_false h;have:kNum k=false:=xY (by omega);rw [this];rfl
theorem zFm:kT.map Prod.fst=[1,2,3,4,5,6,7,8,9,10,11,12,13,14,15,16,17]:=rfl
theorem zFl:znO=some [1,2,3,4,5,6,7,8,9,10,11,12,13,14,15,16,17]:=by
 have e:ztv kT=some [1,2,3,4,5,6,7,8,9,10,11,12,13,14,15,16,17]:=by
  unfold ztv;rw [xr ⟨by decide,by decide⟩,zFm,List.mergeSort_of_pairwise (by decide)]
 unfold znO;rw [zxY,sb,e,sb]
theorem zrm (k:Int) (h:0<=w/\w<=18446744073709551615):zkK k w=some (if kNum k then (ziG k w,0) else (0,2)):=by
 have hs:=zEr w;have hc:=zCN k h;unfold zkK;by_cases h1:k=1\/k=8
 ·have e:(if (k==1)=true then some (k==1) else some (k==8))=some true:=by rcases h1 with rfl| rfl<;>rfl
  have hn:kNum k=true:=xS (by omega);rw [e,sb,itT rfl,zCi,sb,zCA (by omega),sb,hn];unfold ziG;rw [xr h1];rfl
 ·have e:(if (k==1)=true then some (k==1) else some (k==8))=some false:=by rw [uw];simp;omega
  rw [e,sb,itF rfl];by_cases h2:k=3\/k=5\/k=9\/k=10\/k=11
  ·have e2:(if (k==3)=true then some (k==3) else if (k==5)=true then some (k==5) else if (k==9)=true then some (k==9) else if (k==10)=true then some (k==10) else some (k==11))=some true:=by
    rcases h2 with rfl| rfl| rfl| rfl| rfl<;>rfl
   have hn:kNum k=true:=xS (by omega);have hw:IntKind.u64.wrap (w%4294967296)=w%4294967296:=by rw [zoA];omega
   rw [e2,sb,itT rfl,zyf,sb,hn,hw];unfold ziG;rw [xq h1,xr h2];rfl
  ·have e2:(if (k==3)=true then some (k==3) else if (k==5)=true then some (k==5) else if (k==9)=true then some (k==9) else if (k==10)=true then some (k==10) else some (k==11))=some false:=by
    rw [uw,uw,uw,uw];simp;omega
   rw [e2,sb,itF rfl];by_cases h7:k=7
   ·have hn:kNum k=true:=xS (by omega);rw [itT (by simpa using h7),hn];unfold zmL ziG;rw [sb,xq h1,xq h2,xr h7];by_cases h0:0<w
    ·rw [xr h0];by_cases h10:1<w
     ·rw [xr h10];rfl
     ·rw [xq h10,show w=1 by omega];rfl
    ·rw [xq h0,xq (by omega),show w=0 by omega];rfl
   ·rw [itF (by simpa using h7)];by_cases hn:kNum k=true
    ·have hk:=yY hn;have e3:(if (k==2)=true then some (k==2) else if (k==4)=true then some (k==4) else if (k==6)=true then some (k==6) else if (k==12)=true then some (k==12) else if (k==13)=true then some (k==13) else some (k==14))=some true:=by
      have:k=2\/k=4\/k=6\/k=12\/k=13\/k=14:=by omega
      rcases this with rfl| rfl| rfl| rfl| rfl| rfl<;>rfl
     rw [e3,sb,itT rfl,hn];unfold ziG;rw [xq h1,xq h2,xq h7];rfl
    ·have hn:kNum k=false:=by simpa using hn
     have hk:=of_decide_eq_false hn;have e3:(if (k==2)=true then some (k==2) else if (k==4)=true then some (k==4) else if (k==6)=true then some (k==6) else if (k==12)=true then some (k==12) else if (k==13)=true then some (k==13) else some (k==14))=some false:=by
      rw [uw,uw,uw,uw,uw];simp;omega
     rw [e3,sb,itF rfl,hn];rfl
def lt7 (c:UInt8):Bool:=decide (97<=c.toNat/\c.toNat<=122\/65<=c.toNat/\c.toNat<=90\/c.toNat=95)
def dg7 (c:UInt8):Bool:=decide (48<=c.toNat/\c.toNat<=57)
theorem zto (c:UInt8):zgk (c.toNat:Int)=some (dg7 c):=by
 unfold zgk dg7;congr 1;rw [yy];simp;omega
theorem zxO (c:UInt8):zgK (c.toNat:Int)=some (lt7 c):=by
 unfold zgK lt7;congr 1;by_cases h1:(c.toNat:Int)>=97<;>by_cases h2:(c.toNat:Int)>=65<;>simp only [h1,h2,decide_true,decide_false,yL,if_false,pz]<;>rw [yy]<;>simp<;>omega
theorem zxQ (s:List UInt8) (hs:s.length<=1152921504606846976):∀(l:List UInt8) (i:Nat),s.drop i=l->zfk s i=some (if (l.all fun c=>lt7 c|| dg7 c)=true then .inl () else .inr ()):=by
 intro l
 induction l with
 | nil=>
  intro i hd;have:=zfh hd;refine zjS ?_;unfold zci;rw [uw];rfl
 | cons c l ih=>
  intro i hd;obtain ⟨hi,hc,hd'⟩:=zem hd;have hb:zci s i=if (lt7 c|| dg7 c)=true then some (.inl ((i+1:Nat):Int)) else some (.inr (.inr ())):=by
   unfold zci;rw [uv,zah rfl hi,sb,hc,zxO,sb,sb,zto,uy];cases lt7 c<;>cases dg7 c<;>rfl
  rw [yw];cases hk:(lt7 c|| dg7 c) with
  | false=>
   rw [hk] at hb;rw [zjS hb];rfl
  | true=>
   rw [hk] at hb;rw [zon hb,ih _ hd',xZ]
theorem zAV:∀(l:List UInt8) (i:Nat),0<i->nmA i l=l.all fun c=>lt7 c|| dg7 c
 | [],_,_=>rfl
 | c::l,i,h=>by
  rw [nmA,zAV l (i+1) (by omega),yw];congr 1;unfold nmc lt7 dg7;rw [yy];simp;omega
theorem zvl (hs:s.length<=1152921504606846976):zgU s=some (zhQ s):=by
 unfold zgU zhQ;have hl:=zxQ s hs s 0 rfl;have hl':zfk s 0=_:=hl;cases s with
 | nil=>rfl
 | cons c l=>
  rw [itF (by simp)];by_cases h60:((c::l).length:Int)>60
  ·rw [itT (by simpa using h60),sb,itT rfl];have:decide (1<=(c::l).length/\(c::l).length<=60)=false:=by simp only [qI];omega
   rw [this,qJ]
  ·have hd:decide (1<=(c::l).length/\(c::l).length<=60)=true:=by simp only [xU];refine ⟨by simp,by omega⟩
   have hc:idx (c::l) 0=some c:=by simp [idx]
   rw [itF (by simpa using h60),hc,sb,zto,sb,sb,hd,pd,hl',sb];have e:nmA 0 (c::l)=(lt7 c&&l.all fun c=>lt7 c|| dg7 c):=by
    rw [nmA,zAV l 1 (by omega)];congr 1;unfold nmc lt7;rw [yy];simp;omega
   have hx:lt7 c=true->dg7 c=false:=by
    unfold lt7 dg7;simp only [xU,qI];omega
   rw [e,yw];cases h1:lt7 c<;>cases h2:dg7 c<;>first| (rw [hx h1] at h2;cases h2;done)| skip
   ·rfl
   ·rfl
   ·cases l.all fun c=>lt7 c|| dg7 c<;>rfl
theorem zDm (hl:l.length<=1152921504606846976) (v:Int):zdw l v=some (zka (fun x=>v==x) l):=by
 unfold zdw;have h:=zvd (fun x=>v==x) l (fun i=>zcl l v i) (zgm (by unfold zay;rw [itF (by simp)])) (fun i hi=>by
  by_cases hp:(v==l[i])=true
  ·rw [xr hp];exact zgm (by unfold zay;rw [uv,zah rfl hi,sb,itT hp])
  ·rw [xq hp];exact zjo (by unfold zay;rw [uv,zah rfl hi,sb,itF (by simpa using hp),uy];rfl)) l.length 0 (by omega) (fun j _ h=>by omega)
 have h':zcl l v 0=_:=h;rw [h',sb];unfold zka;cases l.findIdx? (fun x=>v==x)<;>rfl
theorem zuE {α:Type} (p:α->Bool) (l:List α):decide (zka p l>=0)=l.any p:=by
 cases h:l.findIdx? p with
 | none=>
  rw [zlj h];rw [pu] at h
  symm
  rw [pT.2 fun x hx=>by simpa using h x hx];rfl
 | some i=>
  rw [zlk h];rw [pv] at h;obtain ⟨hi,hp,_⟩:=h
  symm
  rw [pq.2 ⟨l[i],xE hi,hp⟩];simp
theorem zxy (hl:l.length<=1152921504606846976) (v:Int):zcM l v=some (l.any fun x=>v==x):=by
 unfold zcM;rw [zDm hl,sb,zuE]
def K17:List Int:=[1,2,3,4,5,6,7,8,9,10,11,12,13,14,15,16,17]
theorem zBL (k:Int):(K17.any fun x=>k==x)=zfa k:=by
 unfold zfa K17;rw [yy];simp;omega
def hasN (m:List (zm×Bool)) (i:Int) (n:Str):Bool:=(mget m (⟨i,n⟩:zm)).getD false
def hasU (m:List (zo×Bool)) (i:Int) (n:Int):Bool:=(mget m (⟨i,n⟩:zo)).getD false
theorem zmb (m:List (zm×Bool)) (i j:Int) (n k:Str):hasN (mput m ⟨i,n⟩ true) j k=(decide (j=i/\k=n)|| hasN m j k):=by
 unfold hasN;rw [zdR];by_cases h:j=i/\k=n
 ·obtain ⟨rfl,rfl⟩:=h;simp
 ·rw [xq (fun e=>h (by injection e with e1 e2;exact ⟨e1,e2⟩))];simp [h]
theorem zxJ (m:List (zo×Bool)) (i j:Int) (n k:Int):hasU (mput m ⟨i,n⟩ true) j k=(decide (j=i/\k=n)|| hasU m j k):=by
 unfold hasU;rw [zdR];by_cases h:j=i/\k=n
 ·obtain ⟨rfl,rfl⟩:=h;simp
 ·rw [xq (fun e=>h (by injection e with e1 e2;exact ⟨e1,e2⟩))];simp [h]
theorem zxR (n:Int):zgL n=some (decide ¬(n<1\/n>536870911\/(19000<=n/\n<20000))):=by
 unfold zgL;congr 1;rw [yy];simp;omega
theorem zzJ (f:Fld):zhn f=some (f.Repeated&&kNum f.Kind):=by
 unfold zhn;rw [zzD];cases f.Repeated<;>rfl
theorem zDN (n:Int) (K:List Int) (nm:List (zm×Bool)) (nu:List (zo×Bool)) (f:Fld):zfr ⟨n,K,nm,nu⟩ f=some (decide ¬(f.Kind=17/\(f.Of<0\/f.Of>=n)\/f.Kind≠17/\f.Of≠0)):=by
 unfold zfr;by_cases h:f.Kind=17
 ·rw [itT (by simpa using h)];congr 1;rw [yy];simp [h]
 ·rw [itF (by simpa using h)];congr 1;rw [yy];simp [h]
theorem zDa (hf:f.Name.length<=1152921504606846976) (hN:hasN nm i f.Name=prev.any fun g=>g.Name==f.Name) (hU:hasU nu i f.Number=prev.any fun g=>g.Number==f.Number):
  zfq ⟨n,K17,nm,nu⟩ i f=some (zdD n prev f,if zdD n prev f=0 then (mput nm ⟨i,f.Name⟩ true,mput nu ⟨i,f.Number⟩ true) else (nm,nu)):=by
 unfold zfq;rw [zvl hf,sb];have e1:(mget nm (⟨i,f.Name⟩:zm)).getD false=hasN nm i f.Name:=rfl;have e2:(mget nu (⟨i,f.Number⟩:zo)).getD false=hasU nu i f.Number:=rfl;simp only [e1,e2,hN,hU];have hz:∀(k:Int) (x y:List (zm×Bool)×List (zo×Bool)),k≠0->(if k=0 then x else y)=y:=fun k x y h=>xq h
 by_cases h1:zhQ f.Name=false
 ·have hF:zdD n prev f=5:=by unfold zdD;rw [xr h1]
  rw [hF,hz 5 _ _ (by decide),itT (by rw [h1];rfl)]
 rw [itF (show (!zhQ f.Name)=false by simpa using h1)];by_cases h2:(prev.any fun g=>g.Name==f.Name)=true
 ·have hF:zdD n prev f=6:=by unfold zdD;rw [xq h1,xr h2]
  rw [hF,hz 6 _ _ (by decide),itT h2]
 have h2':(prev.any fun g=>g.Name==f.Name)=false:=pB h2;rw [itF h2',zxR,sb];by_cases h3:f.Number<1\/f.Number>536870911\/(19000<=f.Number/\f.Number<20000)
 ·have hF:zdD n prev f=7:=by unfold zdD;rw [xq h1,xq h2,xr h3]
  rw [hF,hz 7 _ _ (by decide),itT (by rw [xY (fun h=>h h3)];rfl)]
 rw [itF (by rw [xS h3];rfl)];by_cases h4:(prev.any fun g=>g.Number==f.Number)=true
 ·have hF:zdD n prev f=8:=by unfold zdD;rw [xq h1,xq h2,xq h3,xr h4]
  rw [hF,hz 8 _ _ (by decide),itT h4]
 have h4':(prev.any fun g=>g.Number==f.Number)=false:=pB h4;rw [itF h4',zxy (by decide),sb,zBL];by_cases h5:zfa f.Kind=false
 ·have hF:zdD n prev f=9:=by unfold zdD;rw [xq h1,xq h2,xq h3,xq h4,xr h5]
  rw [hF,hz 9 _ _ (by decide),itT (by rw [h5];rfl)]
 rw [itF (show (!zfa f.Kind)=false by simpa using h5),zzJ];have hg:(if f.Packed=true then (some (f.Repeated&&kNum f.Kind)>>=fun rv4=>some (!rv4)) else some false)=some (decide (f.Packed=true/\¬(f.Repeated=true/\kNum f.Kind=true))):=by
  cases f.Packed<;>cases f.Repeated<;>cases kNum f.Kind<;>rfl
 rw [hg,sb];by_cases h6:f.Packed=true/\¬(f.Repeated=true/\kNum f.Kind=true)
 ·have hF:zdD n prev f=10:=by unfold zdD;rw [xq h1,xq h2,xq h3,xq h4,xq h5,xr h6]
  rw [hF,hz 10 _ _ (by decide),itT (xS h6)]
 rw [itF (xY h6),zDN,sb];by_cases h7:f.Kind=17/\(f.Of<0\/f.Of>=n)\/f.Kind≠17/\f.Of≠0
 ·have hF:zdD n prev f=11:=by unfold zdD;rw [xq h1,xq h2,xq h3,xq h4,xq h5,xq h6,xr h7]
  rw [hF,hz 11 _ _ (by decide),itT (by rw [xY (fun h=>h h7)];rfl)]
 have hF:zdD n prev f=0:=by unfold zdD;rw [xq h1,xq h2,xq h3,xq h4,xq h5,xq h6,xq h7]
 rw [hF,xr rfl,itF (by rw [xS h7];rfl)]
theorem zzK {n:Int} {nm:List (zm×Bool)} {nu:List (zo×Bool)} {prev:List Mes} {m:Mes} (hm:m.Name.length<=1152921504606846976) (hN:hasN nm (-1) m.Name=prev.any fun g=>g.Name==m.Name):
  zez ⟨n,K17,nm,nu⟩ m=some (if zhQ m.Name=false then (2,nm,nu) else if (prev.any fun g=>g.Name==m.Name)=true then (3,nm,nu) else if 200<m.Fields.length then (4,nm,nu) else (0,mput nm ⟨-1,m.Name⟩ true,nu)):=by
 unfold zez;rw [zvl hm,sb];have e1:(mget nm (⟨(-1),m.Name⟩:zm)).getD false=hasN nm (-1) m.Name:=rfl;simp only [e1,hN];by_cases h1:zhQ m.Name=false
 ·rw [xr h1,itT (show (!zhQ m.Name)=true by rw [h1];rfl)]
 rw [xq h1,itF (show (!zhQ m.Name)=false by simpa using h1)];by_cases h2:(prev.any fun g=>g.Name==m.Name)=true
 ·rw [xr h2,itT h2]
 have h2':(prev.any fun g=>g.Name==m.Name)=false:=pB h2;rw [xq h2,itF h2'];by_cases h3:200<m.Fields.length
 ·rw [xr h3,itT (show decide ((m.Fields.length:Int)>200)=true by simp;omega)]
 rw [xq h3,itF (show decide ((m.Fields.length:Int)>200)=false by simp;omega)]
structure Met (nm:List (zm×Bool)) (nu:List (zo×Bool)) (i:Nat) (prev:List Mes) (p:List Fld):Prop where
 mes:∀n,hasN nm (-1) n=prev.any fun g=>g.Name==n
 nam:∀n,hasN nm i n=p.any fun g=>g.Name==n
 num:∀n,hasU nu i n=p.any fun g=>g.Number==n
 later:∀(j:Nat) n,i<j->hasN nm j n=false
 laterU:∀(j:Nat) n,i<j->hasU nu j n=false
theorem Met.step (h:Met nm nu i prev p) (f:Fld):Met (mput nm ⟨i,f.Name⟩ true) (mput nu ⟨i,f.Number⟩ true) i prev (p++[f]):=by
 refine ⟨fun n=>?_,fun n=>?_,fun n=>?_,fun j n hj=>?_,fun j n hj=>?_⟩
 ·rw [zmb,h.mes,xY (by omega),Bool.false_or]
 ·rw [zmb,h.nam,pC,Bool.or_comm];congr 1;simp only [pX,List.any_nil,qH];rw [yy];simp;exact eq_comm
 ·rw [zxJ,h.num,pC,Bool.or_comm];congr 1;simp only [pX,List.any_nil,qH];rw [yy];simp;exact eq_comm
 ·rw [zmb,h.later j n hj,xY (by omega)];rfl
 ·rw [zxJ,h.laterU j n hj,xY (by omega)];rfl
theorem zCR (hb:m.Fields.length<=140737488351232) (hn:∀f∈m.Fields,f.Name.length<=140737488351232):
  ∀(l:List Fld) (k:Nat) (nm:List (zm×Bool)) (nu:List (zo×Bool)),m.Fields.drop k=l->k<=m.Fields.length->Met nm nu i prev (m.Fields.take k)->
   (∃j w,msgF s.length (m.Fields.take k) l=some (j,w)/\zdZ K17 s i m k nm nu=some (.inr ((j:Int),w)))\/
   (msgF s.length (m.Fields.take k) l=none/\∃nm' nu',zdZ K17 s i m k nm nu=some (.inl (nm',nu'))/\Met nm' nu' i prev m.Fields):=by
 intro l
 induction l with
 | nil=>
  intro k nm nu hd hk hM;have:=zfh hd;have hkl:k=m.Fields.length:=by omega
  subst hkl;refine .inr ⟨rfl,nm,nu,zki ?_,by simpa using hM⟩;unfold zcf;rw [itF (by simp)]
 | cons f l ih=>
  intro k nm nu hd hk hM;obtain ⟨hi,hc,hd'⟩:=zem hd;have hf:=hn f (by rw [<-hc];exact xE hi);have hfld:=zDa (n:=(s.length:Int)) (i:=(i:Int)) (nm:=nm) (nu:=nu) (prev:=m.Fields.take k) (f:=f) (by omega) (hM.nam _) (hM.num _);have htk:m.Fields.take (k+1)=m.Fields.take k++[f]:=by rw [yz hi,hc]
  have hlen:(m.Fields.take k).length=k:=by simp;omega
  obtain ⟨bd,_⟩:=zxE (s.length:Int) (m.Fields.take k) f;rw [msgF];by_cases h0:zdD s.length (m.Fields.take k) f=0
  ·rw [xq (by omega)];rw [h0,xr rfl] at hfld;have hstep:zcf K17 s i m k nm nu=some (.inl (((k+1:Nat):Int),mput nm ⟨i,f.Name⟩ true,mput nu ⟨i,f.Number⟩ true)):=by
    unfold zcf;rw [uv,zah rfl hi,sb,hc,hfld,sb];dsimp only;rw [itF (show ((0:Int) !=0)=false from rfl),uy];rfl
   rw [zpi hstep,<-htk];exact ih (k+1) _ _ hd' (by omega) (by rw [htk];exact hM.step f)
  ·rw [xr (by omega)];rw [xq h0] at hfld;refine .inl ⟨k,_,by rw [hlen],zki ?_⟩;unfold zcf;rw [uv,zah rfl hi,sb,hc,hfld,sb];dsimp only;rw [itT (show (zdD (s.length:Int) (m.Fields.take k) f !=0)=true by simpa using h0)]
theorem zCQ {s:List Mes} (hw:WS s):∀(l:List Mes) (i:Nat) (nm:List (zm×Bool)) (nu:List (zo×Bool)),s.drop i=l->i<=s.length->Met nm nu i (s.take i) []->
  zfC K17 s i nm nu=some (match chkF s.length (s.take i) l with| some (j,k,w)=> .inr ((j:Int),k,w)| none=> .inl ()):=by
 intro l
 induction l with
 | nil=>
  intro i nm nu hd hi hM;have:=zfh hd;refine zeW ?_;unfold zbr;rw [uw];rfl
 | cons m l ih=>
  intro i nm nu hd hi hM;obtain ⟨hil,hc,hd'⟩:=zem hd;obtain ⟨w1,w2⟩:=hw;obtain ⟨m1,m2,m3⟩:=w2 m (by rw [<-hc];exact xE hil);have hmes:=zzK (n:=(s.length:Int)) (nm:=nm) (nu:=nu) (prev:=s.take i) (m:=m) (by omega) (hM.mes _);have htk:s.take (i+1)=s.take i++[m]:=by rw [yz hil,hc]
  have hlen:(s.take i).length=i:=by simp;omega
  rw [chkF];by_cases h1:zhQ m.Name=false
  ·rw [xr h1] at hmes|-;refine zeW ?_;unfold zbr;rw [uv,zah rfl hil,sb,hc,hmes,sb];dsimp only;rw [itT (show ((2:Int) !=0)=true from rfl),hlen]
  rw [xq h1] at hmes|-;by_cases h2:((s.take i).any fun g=>g.Name==m.Name)=true
  ·rw [xr h2] at hmes|-;refine zeW ?_;unfold zbr;rw [uv,zah rfl hil,sb,hc,hmes,sb];dsimp only;rw [itT (show ((3:Int) !=0)=true from rfl),hlen]
  rw [xq h2] at hmes|-;by_cases h3:200<m.Fields.length
  ·rw [xr h3] at hmes|-;refine zeW ?_;unfold zbr;rw [uv,zah rfl hil,sb,hc,hmes,sb];dsimp only;rw [itT (show ((4:Int) !=0)=true from rfl),hlen]
  rw [xq h3] at hmes|-;have hM0:Met (mput nm ⟨-1,m.Name⟩ true) nu i (s.take i++[m]) (m.Fields.take 0):=by
   refine ⟨fun n=>?_,fun n=>?_,fun n=>?_,fun j n hj=>?_,fun j n hj=>hM.laterU j n hj⟩
   ·rw [zmb,hM.mes,pC,Bool.or_comm];congr 1;simp only [pX,List.any_nil,qH];rw [yy];simp;exact eq_comm
   ·rw [zmb,hM.nam,xY (by omega)];rfl
   ·rw [hM.num];rfl
   ·rw [zmb,hM.later j n hj,xY (by omega)];rfl
  have hl2:=zCR (s:=s) (i:=i) m2 m3 m.Fields 0 _ nu rfl (by omega) hM0;simp only [yZ] at hl2;rcases hl2 with ⟨j,w,g1,g2⟩| ⟨g1,nm',nu',g2,g3⟩
  ·rw [g1];refine zeW ?_;unfold zbr;have g2':zdZ K17 s i m 0 (mput nm ⟨-1,m.Name⟩ true) nu=_:=g2;rw [uv,zah rfl hil,sb,hc,hmes,sb];dsimp only;rw [itF (show ((0:Int) !=0)=false from rfl),g2',sb];simp only [hlen]
  ·rw [g1];have hstep:zbr K17 s i nm nu=some (.inl (((i+1:Nat):Int),nm',nu')):=by
    unfold zbr;have g2':zdZ K17 s i m 0 (mput nm ⟨-1,m.Name⟩ true) nu=_:=g2;rw [uv,zah rfl hil,sb,hc,hmes,sb];dsimp only;rw [itF (show ((0:Int) !=0)=false from rfl),g2',sb];dsimp only;rw [uy];rfl
   rw [zph hstep];simp only [];rw [<-htk];refine ih (i+1) nm' nu' hd' (by omega) ⟨fun n=>?_,fun n=>?_,fun n=>?_,fun j n hj=>g3.later j n (by omega),fun j n hj=>g3.laterU j n (by omega)⟩
   ·rw [htk];exact g3.mes n
   ·rw [g3.later (i+1) n (by omega)];rfl
   ·rw [g3.laterU (i+1) n (by omega)];rfl
theorem zCP (hw:WS s):ziL s=some (⟨(zkE s).1,(zkE s).2.1,(zkE s).2.2⟩,if (zkE s).2.2=0 then 0 else 9):=by
 unfold ziL zkE;by_cases h:s.length=0\/100<s.length
 ·rw [uv,xr h];rfl
 ·rw [uw,xq h,zFl,sb];have hl:=zCQ hw s 0 [] [] rfl (by omega) ⟨fun n=>rfl,fun n=>rfl,fun n=>rfl,fun j n _=>rfl,fun j n _=>rfl⟩;simp only [yZ] at hl;have hl':zfC [1,2,3,4,5,6,7,8,9,10,11,12,13,14,15,16,17] s 0 [] []=_:=hl;rw [hl',sb];cases hc:chkF s.length [] s with
  | none=>rfl
  | some q=>
   obtain ⟨i,k,w⟩:=q;have:=zAo _ _ _ _ _ _ hc;simp only;rw [xq (by omega)]
theorem zqG (hw:WS s):zhB s=some (zfp s):=by
 unfold zhB zfp;rw [zCP hw,sb];by_cases h:(zkE s).2.2=0<;>simp [h]
abbrev PVw:=zky
theorem zvR (t:zbx):zmq t=some (ziO t.Number t.Wire):=by
 have e:zia t.Wire=some (decide (t.Wire=0\/t.Wire=1\/t.Wire=2\/t.Wire=5)):=by
  unfold zia;by_cases h0:t.Wire=0
  ·simp [h0]
  by_cases h1:t.Wire=1
  ·simp [h1]
  by_cases h2:t.Wire=2
  ·simp [h2]
  by_cases h5:t.Wire=5
  ·simp [h5]
  simp [h0,h1,h2,h5]
 unfold zmq ziO;rw [e];by_cases h1:1<=t.Number
 ·by_cases h2:t.Number<=536870911
  ·rw [itT (by simpa using h1),itT (by simpa using h2),sb,sb];simp [h1,h2]
  ·rw [itT (by simpa using h1),itF (by simpa using h2),sb];simp [h2]
 ·rw [itF (by simpa using h1),sb];simp [h1]
theorem zHf (w:Nat) (h:w<18446744073709551616):andI .u64 (w:Int) 7=((w%8:Nat):Int):=by
 have e:=zxm (k:= .u64) rfl (a:=w) (b:=7) (by simpa [IntKind.bits] using h) (by simp [IntKind.bits]);have e2:w&&&7=w%8:=uq w 3;rw [e2] at e;exact e
theorem zHE (w:Nat):shrI .u64 (w:Int) 3=((w/8:Nat):Int):=zyw (k:= .u64) (a:=w) (b:=3) (by simp [IntKind.bits])
theorem zEG (b:List UInt8):zop b=some ((⟨(tg b).1,(tg b).2.1⟩:zbx),(tg b).2.2.1,(tg b).2.2.2):=by
 obtain ⟨h1,h2,h3,h4,h5,h6,h7⟩:=zmj b;unfold zop tg;rw [zwM,sb];by_cases h:(rd b).2.2=0
 ·rw [itF (by simpa using h)];obtain ⟨w,hw⟩:∃w:Nat,(rd b).1=w:=⟨(rd b).1.toNat,by omega⟩;rw [hw] at h2|-;rw [zHE,zHf w (by omega)];have e0:IntKind.i64.wrap ((w%8:Nat):Int)=(w:Int)%8:=by rw [uy];omega
  by_cases hg:4294967295<w
  ·have e1:IntKind.i64.wrap (if (536870912:Int)<((w/8:Nat):Int) then 536870912 else ((w/8:Nat):Int))=536870912:=by
    split
    ·rfl
    ·rw [uy];omega
   rw [e0,e1,zvR,sb];have e2:ziO 536870912 ((w:Int)%8)=false:=by simp [ziO]
   simp only [e2];rw [itT (by rfl),zus h (.inl (by rw [hw];omega))]
  ·have e1:IntKind.i64.wrap (if (536870912:Int)<((w/8:Nat):Int) then 536870912 else ((w/8:Nat):Int))=(w:Int)/8:=by
    rw [xq (by omega),uy];omega
   rw [e0,e1,zvR,sb];simp only;cases ht:ziO ((w:Int)/8) ((w:Int)%8)
   ·rw [itT (by rfl),zus h (.inr (by rw [hw];exact ht))]
   ·rw [itF (by rfl),zEF h (by rw [hw,ht];simp;omega),hw]
 ·rw [itT (by simpa using h),zBh h]
theorem zFJ (hw:w=0\/w=1\/w=2\/w=5) (hb:b.length<=1048576):
  zjP w b=some (match znd w 0 b with| .inl c=>(0,(if w=0 then (rd b).2.1 else 0),c)| .inr (a,t)=>((a:Int),(t:Int),0)):=by
 obtain ⟨h1,h2,h3,h4,h5,h6,h7⟩:=zmj b;unfold zjP znd;rcases hw with rfl| rfl| rfl| rfl
 ·rw [itT (by rfl),zFH,sb,xr rfl];by_cases h:(rd b).2.2=0
  ·rw [xq (by simpa using h)];simp only [h,xK];congr 3;simp;omega
  ·rw [xr h];rfl
 ·rw [itF (by rfl),itT (by rfl),sb,itF (by rfl),xq (show ¬((1:Int)=0) by omega),xq (show ¬((1:Int)=2) by omega)];simp only;have e:IntKind.u64.wrap (IntKind.i64.wrap ((b.length:Int) - 0))=(b.length:Int):=by rw [uy,zoA];omega
  rw [e];by_cases g:b.length<8
  ·rw [uv,xr (by simpa using g)];rfl
  ·rw [uw,xq (by simpa using g)];rfl
 ·rw [itF (by rfl),itF (by rfl),itF (by rfl),itT (by rfl),zwM,sb,sb,xq (show ¬((2:Int)=0) by omega),xr (show (2:Int)=2 from rfl)];by_cases h:(rd b).2.2=0
  ·have hk:=h7 h;rw [itF (by simpa using h),xq (show ¬((rd b).2.2≠0) from fun g=>g h)];simp only;have e:IntKind.u64.wrap (IntKind.i64.wrap ((b.length:Int) - (rd b).2.1))=(b.length:Int) - (rd b).2.1:=by rw [uy,zoA];omega
   rw [e];by_cases g:(b.length:Int) - (rd b).2.1<(rd b).1
   ·rw [itT (by simpa using g),xr g];rfl
   ·rw [itF (by simpa using g),xq g,zI (x:=(rd b).1) (by omega),uy];simp;omega
  ·rw [itT (by simpa using h),xr h];rfl
 ·rw [itF (by rfl),itF (by rfl),itT (by rfl),sb,itF (by rfl),xq (show ¬((5:Int)=0) by omega),xq (show ¬((5:Int)=2) by omega)];simp only;have e:IntKind.u64.wrap (IntKind.i64.wrap ((b.length:Int) - 0))=(b.length:Int):=by rw [uy,zoA];omega
  rw [e];by_cases g:b.length<4
  ·rw [uv,xr (by simpa using g)];rfl
  ·rw [uw,xq (by simpa using g)];rfl
theorem zxt (w:Int) (k:Nat) (m:List UInt8):znd w k m=match znd w 0 m with| .inl c=> .inl c| .inr (a,t)=> .inr (k+a,k+t):=by
 unfold znd
 repeat' split
 all_goals first
  | rfl
  | (rename_i h1 h2;injection h2 with h3;injection h3 with h4 h5;subst h4 h5;simp<;>omega)
  | simp_all<;>omega
theorem zFx (hb:b.length<=1048576) (at5:Int):zjO b at5=some (zvz b at5):=by
 unfold zjO zvz;by_cases h:at5<0\/at5>=b.length
 ·rw [itT (by simpa using h),xr h];rfl
 ·rw [itF (by simpa using h),xq h];obtain ⟨p,rfl⟩:∃p:Nat,at5=p:=⟨at5.toNat,by omega⟩;rw [zta rfl rfl (by omega),sb,zEG,sb,yp];have hdl:(b.drop p).length=b.length - p:=by simp
  rcases zyC (b.drop p) with ⟨c,ht,hc⟩| ⟨n,w,k,ht,hr,k1,k2,k3,hrd⟩
  ·have e:rec5 (b.drop p)= .inl c:=by unfold rec5;rw [ht,xr (by simp only;omega)]
   rw [e,ht,uv];rfl
  ·obtain ⟨k,rfl⟩:∃j:Nat,k=j:=⟨k.toNat,by omega⟩
   have e:rec5 (b.drop p)=match znd w k ((b.drop p).drop k) with
    | .inl c=> .inl c
    | .inr p=> .inr (n,w,p.1,p.2):=by unfold rec5;rw [ht];simp<;>rfl
   have hdd:(b.drop p).drop k=b.drop (p+k):=by rw [qD]
   have hml:(b.drop (p+k)).length=b.length - (p+k):=by simp
   have ew:IntKind.i64.wrap ((p:Int)+k)=((p+k:Nat):Int):=by rw [uy];push_cast;rfl
   rw [e,ht,itF (by simp),hdd];simp only [ew];rw [zta rfl rfl (by omega),sb,zFJ (zzY.1 hr).2.2 (by omega),sb,zxt w k];rcases zrO w 0 (b.drop (p+k)) with ⟨c,hc,hc2⟩| ⟨a,t,hc,_,_,hle,_⟩
   ·rw [hc];simp only;rw [uv];rfl
   ·rw [hc];simp only;rw [itF (by rfl),uy,uy];simp only [ya,yS,zad.mk.injEq,qt,qu];push_cast;omega
abbrev Head:=zuB
abbrev Role:=zuA
def rol (m:Mes) (h:Head):Role:=match vw m h.number h.wire with
 | .inl c=>⟨0,false,c⟩
 | .inr (i,run)=>⟨i,run,0⟩
def zxf (m:Mes) (met:List (Head×Role)):Prop:=∀h x,mget met h=some x->x=rol m h
theorem zxf.nil (m:Mes):zxf m []:=fun h x g=>by cases g
theorem zxf.put (g:zxf m met) (h:Head):zxf m (mput met h (rol m h)):=fun j x hx=>by
 rw [zdR] at hx;by_cases e:j=h
 ·rw [xr e] at hx;rw [e];exact (yN hx).symm
 ·rw [xq e] at hx;exact g j x hx
abbrev zyT:=ziW
def zxg (s:List Mes) (met:List (zyT×PVw)):Prop:=∀h x,mget met h=some x->vw (zaE s h.message) h.number h.wire= .inr (x.Field,x.Run)
theorem zxg.nil (s:List Mes):zxg s []:=fun h x g=>by cases g
theorem zxg.put (g:zxg s met) (hv:vw (zaE s h.message) h.number h.wire= .inr (v.Field,v.Run)):zxg s (mput met h v):=fun j x hx=>by
 rw [zdR] at hx;by_cases e:j=h
 ·rw [xr e] at hx;cases hx;rw [e];exact hv
 ·rw [xq e] at hx;exact g j x hx
theorem zEL (hw:WS s) (root d:Int):zkZ s root d=some (argS s root d):=by
 unfold zkZ argS;rw [zqG hw,sb];cases h:zfp s
 ·rw [itT (c:= !false) rfl,xr (show false=false from rfl)]
 ·rw [itF (c:= !true) rfl,xq (show ¬(true=false) by simp)];by_cases h2:root<0\/root>=s.length\/d<0\/d>64
  ·rw [itT (by simpa using h2),xr h2]
  ·rw [uw,xq h2]
theorem znD (hm:m.Fields.length<=140737488351232) (n:Int):zeU m n=some (match m.Fields.findIdx? (fun f=>f.Number==n) with| some i=>((i:Int),true)| none=>(0,false)):=by
 unfold zeU zcJ zaA;have h:=zvd (fun f:Fld=>f.Number==n) m.Fields (fun i=>zaa m.Fields n i) (zbH (by unfold zC;rw [itF (by simp)])) (fun i hi=>by
  by_cases hp:(m.Fields[i].Number==n)=true
  ·rw [xr hp];exact zbH (by unfold zC zfI;rw [uv,zah rfl hi,sb,sb,itT hp])
  ·rw [xq hp];exact zdv (by unfold zC zfI;rw [uv,zah rfl hi,sb,sb,itF (pB hp),uy];rfl)) m.Fields.length 0 (by omega) (fun j _ h=>by omega)
 have h':zaa m.Fields n 0=_:=h;rw [h',sb];cases m.Fields.findIdx? (fun f:Fld=>f.Number==n) with
 | none=>rfl
 | some i=>simp [sb];omega
theorem zkB {α:Type} (p:α->Bool) (l:List α) (F:Int->Option (Unit⊕Unit)) (h0:F (l.length:Int)=some (.inl ())) (hs:∀(i:Nat) (h:i<l.length),F (i:Int)=if p l[i]=true then F ((i+1:Nat):Int) else some (.inr ())):
  ∀(c i:Nat),i+c=l.length->F (i:Int)=some (if (l.drop i).all p=true then .inl () else .inr ())
 | 0,i,h=>by
  have e:l.drop i=[]:=yd (by omega);have hi:i=l.length:=by omega
  rw [e,hi,h0];simp
 | c+1,i,h=>by
  rw [hs i (by omega),xT (by omega),yw];cases hp:p l[i]
  ·rw [xq (by simp)];simp
  ·rw [xr rfl,xZ];exact zkB p l F h0 hs c (i+1) (by omega)
theorem zCs (hb:v.Words.length<=140737488351232/\v.Texts.length<=140737488351232/\v.Subs.length<=140737488351232):zfL v=some ((zgJ v:Nat):Int):=by
 unfold zfL zgJ;rw [zI (x:=(v.Words.length:Int)+(v.Texts.length:Int)) (by omega),uy];push_cast;rfl
theorem zxp (hl:l.length<=1152921504606846976) (h:∀t∈l,t.length<=140737488351232):zib l=some (l.all zlK):=by
 unfold zib;have h1:=zkB zlK l (fun i=>zfl l i) (by
   refine zjU ?_;unfold zcn;rw [itF (by simp)])
  (fun i hi=>by
   have hx:=h _ (xE hi);have e:lenO l[i]=some l[i]:=by unfold lenO;rw [xr (by omega)]
   cases hp:zlK l[i]
   ·rw [xq (by simp)];refine zjU ?_;unfold zcn;rw [uv,zah rfl hi,sb,e,sb,zvS (by omega),sb,hp,itT (by rfl)]
   ·rw [xr rfl];refine zou ?_;unfold zcn;rw [uv,zah rfl hi,sb,e,sb,zvS (by omega),sb,hp,itF (by rfl),uy];push_cast;rfl)
  l.length 0 (xK _)
 have h1':zfl l 0=_:=h1;rw [h1',sb,yb];cases l.all zlK<;>rfl
theorem zxo (hl:l.length<=1152921504606846976) (h:∀w∈l,0<=w/\w<=18446744073709551615):zfM k l=some (l.all fun w=>kNum k&&ziG k w==w):=by
 unfold zfM;have h1:=zkB (fun w=>kNum k&&ziG k w==w) l (fun i=>zdx k l i) (by
   refine zfT ?_;unfold zaQ;rw [itF (by simp)])
  (fun i hi=>by
   have hx:=h _ (xE hi);cases hk:kNum k
   ·rw [yO,xq (by simp)];refine zfT ?_;unfold zaQ;rw [uv,zah rfl hi,sb,zrm k hx,sb,hk,itT (by rfl)]
   ·rw [xZ];by_cases hp:ziG k l[i]=l[i]
    ·rw [xr (by simpa using hp)];refine zlM ?_;unfold zaQ;rw [uv,zah rfl hi,sb,zrm k hx,sb,hk,itF (by simp [hp]),uy];push_cast;rfl
    ·rw [xq (by simpa using hp)];refine zfT ?_;unfold zaQ;rw [uv,zah rfl hi,sb,zrm k hx,sb,hk,itT (by simp [hp])])
  l.length 0 (xK _)
 have h1':zdx k l 0=_:=h1;rw [h1',sb,yb];cases l.all (fun w=>kNum k&&ziG k w==w)<;>rfl
theorem zDq (hm:m.Fields.length<=140737488351232) (hu:u.length<=1048576):zhs m u=some (unkR m u):=by
 unfold zhs unkR;have e:lenO u=some u:=by unfold lenO;rw [xr (by omega)]
 rw [e,sb,zFx hu,sb]
 generalize zvz u 0=r
 by_cases c1:r.2=0
 ·by_cases c2:r.1.To=(u.length:Int)
  ·rw [itF (by simp [c1,c2]),znD hm,sb];have hf:fldI m r.1.Number=zka (fun f:Fld=>f.Number==r.1.Number) m.Fields:=rfl;rw [hf];cases h:m.Fields.findIdx? (fun f:Fld=>f.Number==r.1.Number) with
   | none=>rw [zlj h];simp [c1,c2]
   | some i=>rw [zlk h];simp [c1,c2]
  ·rw [itT (by simp [c2])];simp [c2]
 ·rw [itT (by simp [c1])];simp [c1]
theorem zwa {α:Type} {p:α->Bool} (h:∀x,p x=false) (l:List α):l.all p=l.isEmpty:=by
 cases l with
 | nil=>rfl
 | cons x l=>rw [yw,h];rfl
theorem znL {α:Type} (l:List α):l.isEmpty=decide (l.length=0):=by cases l<;>simp
theorem zyF {s:List Mes} (hs:zmA s):∀(fuel:Nat),(∀(x:Msg) (k:Nat),k<s.length->2*szM x<fuel->bdM x->smM x->zdK fuel s k x=some (zaw s x k))/\
  (∀(v:Vlu) (f:Fld),2*szV v<fuel->bdV v->smV v->ziA fuel f s v=some (zll s v f))/\
  ∀(l:List Msg) (k:Int),2*szMs l+1<fuel->l.length<=1152921504606846976->bdMs l->smMs l->zgo fuel s k l=some (decide (0<=k/\k<s.length)&&l.all fun x=>zaw s x k)
 | 0=>⟨fun x k _ h=>by omega,fun v f h=>by omega,fun l k h=>by omega⟩
 | fuel+1=>by
  obtain ⟨ih1,ih2,ih3⟩:=zyF hs fuel;have hlen:=hs.len;refine ⟨fun x k hk hsz hb hsm=>?_,fun v f hsz hb hsm=>?_,fun l k hsz hl hb hsm=>?_⟩
  ·obtain ⟨b1,⟨b2,b3⟩,b4⟩:=(zfR x).1 hb;obtain ⟨s1,⟨s2,s3⟩,s4⟩:=(zkX x).1 hsm;rw [zca] at hsz;show zgq (zgo fuel) (ziA fuel) (zdK fuel) s k x=_;unfold zgq;rw [zmm,xS (show (0:Int)<=(k:Int)/\(k:Int)<(s.length:Int) by omega),xZ];have hm:idx s (k:Int)=some (zaE s k):=by rw [zah rfl hk,zmf hk]
   have hmm:zaE s (k:Int)∈s:=by rw [zmf hk];exact xE hk
   have hfew:=hs.few _ hmm;have hfld:=hs.fld _ hmm
   generalize zaE s (k:Int)=m at hm hmm hfew hfld|-
   rw [hm,sb];have hv:∀(c i:Nat) (p:Option Int) (last:Int),i+c=x.Values.length->(p=none/\last=0\/p=some last)->zeN (ziA fuel) s x m last i=some (if zhb s (x.Values.drop i) m p=true then .inl () else .inr ()):=by
    intro c
    induction c with
    | zero=>
     intro i p last hi _;have e:x.Values.drop i=[]:=yd (by omega);rw [e,zhb,xr rfl];refine ziY ?_;unfold zbV;rw [uw]
    | succ c ih=>
     intro i p last hi hp;have hil:i<x.Values.length:=by omega
     have hx:idx x.Values (i:Int)=some x.Values[i]:=zah rfl hil;have hmem:=xE hil;have z1:=zdi hmem;have hbv:=zcT.1 b4 _ hmem;have hsv:=zhp.1 s4 _ hmem;rw [xT hil,zhb]
     generalize x.Values[i]=v at hx hmem z1 hbv hsv|-
     have hw1:IntKind.i64.wrap ((i:Int)+1)=((i+1:Nat):Int):=by rw [uy];push_cast;rfl
     have hbody:zbV (ziA fuel) s x m last i=if (decide (0<=fldI m v.Number)&&p.all (fun q=>decide (q<v.Number))&&zll s v (zaU m (fldI m v.Number)))=true then some (.inl (v.Number,((i+1:Nat):Int))) else some (.inr (.inr ())):=by
      unfold zbV;rw [uv,hx,sb,znD (by omega),sb];have hf:fldI m v.Number=zka (fun f:Fld=>f.Number==v.Number) m.Fields:=rfl;cases h:m.Fields.findIdx? (fun f:Fld=>f.Number==v.Number) with
      | none=>
       rw [hf,zlj h,itT (by rfl),sb,itT (by rfl),xq (by simp)]
      | some j=>
       rw [hf,zlk h];have hjs:=pv.1 h;obtain ⟨hj,hjn,_⟩:=hjs;have hjn':(m.Fields[j]).Number=v.Number:=by simpa using hjn
       have hlo:=(hfld _ (xE hj)).lo;have hfj:idx m.Fields (j:Int)=some (zaU m (j:Int)):=by rw [zah rfl hj,zDe hj]
       have hfit:=ih2 v (zaU m (j:Int)) (by omega) hbv hsv;have hpl:p.all (fun q=>decide (q<v.Number))=decide (last<v.Number):=by
        rcases hp with ⟨rfl,rfl⟩| rfl
        ·rw [xS (show (0:Int)<v.Number by omega)];rfl
        ·rfl
       rw [itF (by rfl),hpl,xS (show (0:Int)<=(j:Int) by omega),xZ];by_cases hlt:last<v.Number
       ·rw [itF (by simpa using hlt),xS hlt,xZ];simp only;rw [hfj,sb,hfit,sb,sb];cases hfv:zll s v (zaU m (j:Int))
        ·rw [itT (by rfl),xq (by simp)]
        ·rw [itF (by rfl),xr rfl,hw1]
       ·rw [uv,sb,itT (by rfl),xY hlt,xq (by simp)]
     generalize (decide (0<=fldI m v.Number)&&p.all (fun q=>decide (q<v.Number))&&zll s v (zaU m (fldI m v.Number)))=bb at hbody|-
     cases bb
     ·rw [xq (by simp)] at hbody;rw [ziY hbody,yO,xq (by simp)]
     ·rw [xr rfl] at hbody;rw [znt hbody,ih _ (some v.Number) v.Number (by omega) (.inr rfl),xZ]
   have h1:=hv x.Values.length 0 none 0 (xK _) (.inl ⟨rfl,rfl⟩);have h1':zeN (ziA fuel) s x m 0 0=_:=h1;rw [yb] at h1';rw [h1',sb];cases hrv:zhb s x.Values m none
   ·rw [xq (by simp)];rfl
   ·rw [xr rfl,xZ];simp only;have h2:=zkB (unkR m) x.Unknown (fun i=>zeO x m i) (by
      refine ziZ ?_;unfold zbW;rw [itF (by simp)])
     (fun i hi=>by
      have hu:=zDq (m:=m) (by omega) (s3 _ (xE hi));cases hun:unkR m x.Unknown[i]
      ·rw [xq (by simp)];refine ziZ ?_;unfold zbW;rw [uv,zah rfl hi,sb,hu,sb,hun,itT (by rfl)]
      ·rw [xr rfl];refine znu ?_;unfold zbW;rw [uv,zah rfl hi,sb,hu,sb,hun,itF (by rfl),uy];push_cast;rfl)
     x.Unknown.length 0 (xK _)
    have h2':zeO x m 0=_:=h2;rw [h2',sb,yb];cases x.Unknown.all (unkR m)<;>rfl
  ·obtain ⟨_,⟨b1,b1'⟩,⟨b2,b3⟩,b4,b5⟩:=(zfx v).1 hb;obtain ⟨s1,⟨s2,s3⟩,s4,s5⟩:=(zmZ v).1 hsm;rw [zdz] at hsz;show zjV (zgo fuel) (ziA fuel) (zdK fuel) f s v=_;unfold zjV;rw [zCs ⟨by omega,by omega,by omega⟩,sb,zth,zmX];have hmany:zgJ v=v.Words.length+v.Texts.length+v.Subs.length:=rfl;by_cases h0:zgJ v=0\/1<zgJ v/\f.Repeated=false
   ·have hmr:zrW f v=false:=by
     unfold zrW;rcases h0 with h0| ⟨h0,h1⟩
     ·simp [h0]
     ·rw [h1];simp;omega
    rw [hmr,itT (by
     rcases h0 with h0| ⟨h0,h1⟩
     ·simp [h0]
     ·rw [h1];simp;omega)]
    rfl
   ·have hmr:zrW f v=zfa f.Kind:=by
     unfold zrW;rw [xS (show 0<zgJ v by omega),xZ];cases hr:f.Repeated
     ·rw [hr] at h0;rw [xS (show zgJ v<=1 by simp at h0;omega)];rfl
     ·simp
    rw [hmr,itF (by
     cases hr:f.Repeated
     ·rw [hr] at h0;simp at h0|-;omega
     ·simp;omega)]
    have hW:kNum f.Kind=false->v.Words.all (zsg f)=decide (v.Words.length=0):=fun h=>by
     rw [zwa (fun w=>by unfold zsg;rw [h];rfl),znL]
    have hT:f.Kind≠15->f.Kind≠16->v.Texts.all (zoq f)=decide (v.Texts.length=0):=fun h1 h2=>by
     rw [zwa (fun t=>by unfold zoq;simp [h1,h2]),znL]
    have hS:f.Kind≠17->(v.Subs.all fun x=>f.Kind==17&&zaw s x f.Of)=decide (v.Subs.length=0):=fun h=>by
     rw [zwa (fun x=>by simp [h]),znL]
    by_cases k15:f.Kind=15
    ·rw [itT (by simp [k15]),hW (by rw [k15];rfl),hS (by omega)];have hkr:zfa f.Kind=true:=by rw [k15];rfl
     rw [hkr,xZ];by_cases hl:v.Words.length=0/\v.Subs.length=0
     ·rw [uv,zxp (by omega) b3,sb,sb,xS hl.1,xS hl.2,xZ,pd];have:v.Texts.all (zoq f)=v.Texts.all zlK:=by
       congr 1;funext t;unfold zoq;simp [k15]
      rw [this]
     ·rw [uw,sb];congr 1
      symm
      by_cases hw0:v.Words.length=0
      ·rw [xY (show ¬v.Subs.length=0 by omega),qJ]
      ·rw [xY hw0,yO,yO]
    ·rw [itF (by simp [k15])];by_cases k16:f.Kind=16
     ·rw [itT (by simp [k16]),hW (by rw [k16];rfl),hS (by omega)];have hkr:zfa f.Kind=true:=by rw [k16];rfl
      have hta:v.Texts.all (zoq f)=true:=by rw [xC];intro t _;unfold zoq;simp [k16]
      rw [hkr,hta,xZ,pd];congr 1;rw [<-Bool.decide_and];rw [yy];simp only [pA,xU];omega
     ·rw [itF (by simp [k16])];by_cases k17:f.Kind=17
      ·rw [itT (by simp [k17]),hW (by rw [k17];rfl),hT k15 k16];have hkr:zfa f.Kind=true:=by rw [k17];rfl
       rw [hkr,xZ];have hsub:(v.Subs.all fun x=>f.Kind==17&&zaw s x f.Of)=v.Subs.all fun x=>zaw s x f.Of:=by
        congr 1;funext x;simp [k17]
       rw [hsub];by_cases hl:v.Words.length=0/\v.Texts.length=0
       ·rw [uv,ih3 v.Subs f.Of (by omega) (by omega) b5 s5,sb,sb,xS hl.1,xS hl.2,xZ,xZ];by_cases hof:0<=f.Of/\f.Of<s.length
        ·rw [xS hof,xZ]
        ·rw [xY hof,yO];congr 1
         symm
         have hne:v.Subs≠[]:=fun e=>h0 (.inl (by rw [hmany,hl.1,hl.2,e];rfl))
         obtain ⟨x,l,hxl⟩:=pD hne;rw [hxl,yw,zmm,xY hof];rfl
       ·rw [uw,sb];congr 1
        symm
        by_cases hw0:v.Words.length=0
        ·rw [xY (show ¬v.Texts.length=0 by omega),qJ,yO]
        ·rw [xY hw0,yO,yO]
      ·rw [itF (by simp [k17]),hT k15 k16,hS k17];have hck:(v.Words.all fun w=>kNum f.Kind&&ziG f.Kind w==w)=v.Words.all (zsg f):=rfl;by_cases hl:v.Texts.length=0/\v.Subs.length=0
       ·rw [uv,zxo (by omega) b1',sb,sb,xS hl.1,xS hl.2,pd,pd,hck];congr 1;cases hkn:kNum f.Kind
        ·rw [hW hkn,xY (show ¬v.Words.length=0 by omega),qJ]
        ·have hkr:zfa f.Kind=true:=by
          rw [zDA] at hkn;unfold zfa;simp;omega
         rw [hkr,xZ]
       ·rw [uw,sb];congr 1
        symm
        by_cases hw0:v.Texts.length=0
        ·rw [xY (show ¬v.Subs.length=0 by omega),qJ]
        ·rw [xY hw0,qJ,yO]
  ·show zfs (zgo fuel) (ziA fuel) (zdK fuel) s k l=_;unfold zfs;by_cases hk:0<=k/\k<s.length
   ·rw [uw,xS hk,xZ];obtain ⟨n,rfl⟩:∃n:Nat,k=n:=⟨k.toNat,by omega⟩;have h1:=zkB (fun x=>zaw s x n) l (fun i=>zdS l n (zdK fuel) s i) (by
      refine ziz ?_;unfold zbu;rw [itF (by simp)])
     (fun i hi=>by
      have hm:=xE hi;have z1:=zdJ hm;have hr:=ih1 l[i] n (by omega) (by omega) (zdC.1 hb _ hm) (zho.1 hsm _ hm);cases hp:zaw s l[i] n
      ·rw [xq (by simp)];refine ziz ?_;unfold zbu;rw [uv,zah rfl hi,sb,hr,sb,hp,itT (by rfl)]
      ·rw [xr rfl];refine zms ?_;unfold zbu;rw [uv,zah rfl hi,sb,hr,sb,hp,itF (by rfl),uy];push_cast;rfl)
     l.length 0 (xK _)
    have h1':zdS l n (zdK fuel) s 0=_:=h1;rw [h1',sb,yb];cases l.all (fun x=>zaw s x n)<;>rfl
   ·rw [uv,xY hk];rfl
theorem zAc (root:Int) (hf:2*szM x<fuel) (hw:WS s) (hb:bdM x) (hsm:smM x) (hd:dM x<=131072):zeq fuel s root x=some (zfp s&&zaw s x root):=by
 unfold zeq;rw [zEL hw,sb];by_cases h0:argS s root 0=0
 ·obtain ⟨hr,g1,g2,_,_⟩:=zBt h0;have hrs:zfp s=true:=by
   unfold argS at h0;cases h:zfp s with
   | true=>rfl
   | false=>rw [h,xr rfl] at h0;cases h0
  obtain ⟨k,rfl⟩:∃k:Nat,root=k:=⟨root.toNat,by omega⟩;rw [itT (by simp [h0]),zur (by omega) hb hd,sb,itT (by rfl),(zyF hr fuel).1 x k (by omega) hf hb hsm,sb,sb,hrs,xZ]
 ·rw [itF (by simp [h0]),sb];congr 1
  symm
  cases hrs:zfp s
  ·rfl
  ·rw [xZ,zmm];unfold argS at h0;rw [xq (by rw [hrs];simp)] at h0;rw [xY (by split at h0<;>omega)];rfl
theorem zDX {κ ν:Type} [DecidableEq κ] (m:List (κ×ν)) (k:κ) (x:ν):(mput m k x).length<=m.length+1:=by
 have h:=congrArg List.length (zku m k x);rw [yP] at h;rw [h];split<;>simp
theorem znK (a b:List zE) (way:zE):hasB (a++b) way=(hasB a way|| hasB b way):=by unfold hasB;rw [pC]
theorem zEW {a b:Bool} (h:a=true↔b=true):a=b:=by
 cases a<;>cases b<;>simp at h|-
theorem zBH {a:List zE} {w:zE} (h:w∈a) (hn:w≠[]):hasB a w=true:=zef.2 ⟨w,h,hn,y9 _⟩
theorem zHe {a:List zE} (h:WW a):WW (ofW a):=⟨ye (zwH _) h.1,fun w hm=>h.2 w (zid.1 hm).1⟩
theorem zih:∀{a b:zE},zcH a b=true↔lexI a b<0
 | [],[]=>by simp [zcH,lexI]
 | [],_::_=>by simp [zcH,lexI]
 | _::_,[]=>by simp [zcH,lexI]
 | x::a,y::b=>by
  rw [zcH,lexI];by_cases h:x=y
  ·subst h;rw [xr rfl,xq (y7 x),xq (y7 x)];exact zih
  ·rw [xq h];by_cases h1:x<y
   ·simp [h1]
   ·simp [h1,show y<x by omega]
theorem zya:∀(v t:zE),lexI v (v++t)<=0
 | [],[]=>y8 _
 | [],_::_=>by rw [x8,lexI];decide
 | x::v,t=>by rw [yo,lexI,xq (y7 x),xq (y7 x)];exact zya v t
theorem zyc {v w:zE} (h:v<+:w):lexI v w<=0:=by
 obtain ⟨t,rfl⟩:=h;exact zya v t
theorem zyb:∀(v t u:zE),lexI v u<=0->lexI u (v++t)<=0->v<+:u
 | [],t,u,_,_=>List.nil_prefix
 | x::v,t,[],h,_=>by rw [lexI] at h;exact absurd h (by decide)
 | x::v,t,y::u,h,k=>by
  rw [lexI] at h;rw [yo,lexI] at k;by_cases h1:x<y
  ·rw [xq (show ¬y<x by omega),xr h1] at k;exact absurd k (by decide)
  ·by_cases h2:y<x
   ·rw [xq h1,xr h2] at h;exact absurd h (by decide)
   ·rw [xq h1,xq h2] at h;rw [xq h2,xq h1] at k;obtain rfl:x=y:=by omega
    exact List.cons_prefix_cons.2 ⟨rfl,zyb v t u h k⟩
theorem zFC {v w u:zE} (hp:v<+:w) (h:lexI v u<=0) (k:lexI u w<=0):v<+:u:=by
 obtain ⟨t,rfl⟩:=hp;exact zyb v t u h k
structure zkx (l:List zE):Prop where
 sorted:l.Pairwise (fun a b=>zcH a b=true)
 full:∀w∈l,w≠[]
 anti:∀v∈l,∀w∈l,v<+:w->v=w
theorem zkx.of {l:List zE} (h:zkx l):ofW l=l:=
 zoo _ _ (zmR l) h.sorted fun w=>by
  rw [zid];exact ⟨fun k=>k.1,fun hw=>⟨hw,h.full w hw,fun v hv _ hp=>h.anti v hv w hw hp⟩⟩
theorem zvx (ways:List zE):zkx (ofW ways):=
 ⟨zmR ways,fun w hw=>(zid.1 hw).2.1,fun v hv w hw hp=>(zid.1 hw).2.2 v (zid.1 hv).1 (zid.1 hv).2.1 hp⟩
theorem zBY {l:List zE}:zkx l↔ofW l=l:=⟨fun h=>h.of,fun h=>h▸zvx l⟩
theorem zvw:zkx []:=⟨List.Pairwise.nil,fun w hw=>(by cases hw),fun v hv=>(by cases hv)⟩
theorem zkx.filter {l:List zE} (h:zkx l) (p:zE->Bool):zkx (l.filter p):=
 ⟨h.sorted.filter p,fun w hw=>h.full w (yu.1 hw).1,fun v hv w hw=>h.anti v (yu.1 hv).1 w (yu.1 hw).1⟩
def zvN (last way:zE):Bool:=decide (0<=lexI last way)|| (!last.isEmpty&&begB way last)
def zjd:zE->List zE->Bool
 | _,[]=>true
 | last,w::l=> !zvN last w&&zjd w l
theorem zCn {last way:zE}:zvN last way=false↔lexI last way<0/\¬(last≠[]/\last<+:way):=by
 unfold zvN;rw [qj,qI,<-qF,xy,zkD,yg,qo];constructor
 ·rintro ⟨h,k⟩;exact ⟨by omega,k⟩
 ·rintro ⟨h,k⟩;exact ⟨by omega,k⟩
theorem zmG {last w:zE} {l:List zE}:zjd last (w::l)=true↔lexI last w<0/\¬(last≠[]/\last<+:w)/\zjd w l=true:=by
 rw [zjd,xy,yg,zCn,and_assoc]
theorem zmH:∀{l:List zE} {last:zE},zjd last l=true->∀w∈l,lexI last w<0
 | [],_,_,w,hw=>by cases hw
 | u::l,last,h,w,hw=>by
  obtain ⟨h1,_,h3⟩:=zmG.1 h;rcases xw.1 hw with rfl| hw
  ·exact h1
  ·exact zih.1 (zls last u w (zih.2 h1) (zih.2 (zmH h3 w hw)))
theorem zzh:∀{l:List zE} {last:zE},zjd last l=true->last≠[]->∀w∈l,¬last<+:w
 | [],_,_,_,w,hw=>by cases hw
 | u::l,last,h,hn,w,hw=>by
  obtain ⟨h1,h2,h3⟩:=zmG.1 h;rcases xw.1 hw with rfl| hw
  ·exact fun hp=>h2 ⟨hn,hp⟩
  ·exact fun hp=>h2 ⟨hn,zFC hp (by omega) (by have:=zmH h3 w hw;omega)⟩
theorem zrP:∀{l:List zE} {last:zE},zjd last l=true->zkx l
 | [],_,_=>zvw
 | u::l,last,h=>by
  obtain ⟨h1,h2,h3⟩:=zmG.1 h;have ih:=zrP h3;have hu:u≠[]:=fun e=>by
   subst e;cases last with
   | nil=>rw [lexI] at h1;exact absurd h1 (by decide)
   | cons=>rw [lexI] at h1;exact absurd h1 (by decide)
  refine ⟨yj.2 ⟨fun w hw=>zih.2 (zmH h3 w hw),ih.sorted⟩,fun w hw=>?_,fun v hv w hw hp=>?_⟩
  ·rcases xw.1 hw with rfl| hw
   ·exact hu
   ·exact ih.full w hw
  ·rcases xw.1 hv with rfl| hv1
   ·rcases xw.1 hw with rfl| hw1
    ·rfl
    ·exact absurd hp (zzh h3 hu w hw1)
   ·rcases xw.1 hw with rfl| hw1
    ·have:=zmH h3 v hv1;have:=zyc hp;have:=zhx v w;omega
    ·exact ih.anti v hv1 w hw1 hp
theorem zxw:∀{l:List zE} {last:zE},zkx l->(∀w∈l,lexI last w<0/\¬(last≠[]/\last<+:w))->zjd last l=true
 | [],_,_,_=>rfl
 | u::l,last,h,k=>by
  obtain ⟨h1,h2⟩:=yj.1 h.sorted;refine zmG.2 ⟨(k u xt).1,(k u xt).2,zxw ⟨h2,fun w hw=>h.full w (xu _ hw),fun v hv w hw=>h.anti v (xu _ hv) w (xu _ hw)⟩ fun w hw=>⟨zih.1 (h1 w hw),fun ⟨_,hp⟩=>?_⟩⟩;have e:=h.anti u xt w (xu _ hw) hp;have:=h1 w hw;rw [<-e,zhw] at this;cases this
theorem zuW {l:List zE}:zjd [] l=true↔ofW l=l:=by
 rw [<-zBY];refine ⟨zrP,fun h=>zxw h fun w hw=>⟨?_,fun k=>k.1 rfl⟩⟩;cases w with
 | nil=>exact absurd rfl (h.full [] hw)
 | cons=>rw [lexI];decide
def addL (acc:List zE) (x:zE):List zE:=if (!x.isEmpty&& !hasB acc x)=true then acc++[x] else acc
structure Fo (pre acc:List zE):Prop where
 mask:zkx acc
 has:∀v,hasB acc v=hasB pre v
 mem:∀a∈acc,a∈pre
theorem zAy {pre acc:List zE} {x:zE} (h:Fo pre acc) (hx:∀a∈pre,lexI a x<=0) (hn:hasB acc x=false):∀a∈acc,¬x<+:a:=fun a ha hp=>by
 have e:=zvt (hx a (h.mem a ha)) (zyc hp);subst e;rw [zBH ha (h.mask.full a ha)] at hn;cases hn
theorem zFf {pre acc:List zE} {x:zE} (h:Fo pre acc) (hx:∀a∈pre,lexI a x<=0):Fo (pre++[x]) (addL acc x):=by
 unfold addL;have one:∀v,hasB [x] v=(!x.isEmpty&&begB v x):=fun v=>by simp [hasB]
 by_cases hc:(!x.isEmpty&& !hasB acc x)=true
 ·rw [xr hc];simp only [xy,yg,qo] at hc;obtain ⟨h1,h2⟩:=hc;have hf:=zAy h hx h2;have hb:∀a∈acc,¬a<+:x:=fun a ha hp=>by
   rw [zef.2 ⟨a,ha,h.mask.full a ha,hp⟩] at h2;cases h2
  refine ⟨⟨List.pairwise_append.2 ⟨h.mask.sorted,List.pairwise_singleton _ _,fun a ha b hb'=>?_⟩,fun w hw=>?_,fun v hv w hw hp=>?_⟩,fun v=>by rw [znK,znK,h.has v],fun a ha=>?_⟩
  ·simp only [xR] at hb';subst hb';have h3:=hx a (h.mem a ha);rcases Int.lt_or_eq_of_le h3 with h4| h4
   ·exact zih.2 h4
   ·exact absurd (zoJ h4▸y9 _) (hb a ha)
  ·rcases xz.1 hw with hw| hw
   ·exact h.mask.full w hw
   ·simp only [xR] at hw;rw [hw];exact h1
  ·rcases xz.1 hv with hv1| hv1<;>rcases xz.1 hw with hw1| hw1
   ·exact h.mask.anti v hv1 w hw1 hp
   ·simp only [xR] at hw1;subst hw1;exact absurd hp (hb v hv1)
   ·simp only [xR] at hv1;subst hv1;exact absurd hp (hf w hw1)
   ·simp only [xR] at hv1 hw1;rw [hv1,hw1]
  ·rcases xz.1 ha with ha| ha
   ·exact xN _ (h.mem a ha)
   ·exact xO _ ha
 ·rw [xq hc];refine ⟨h.mask,fun v=>?_,fun a ha=>xN _ (h.mem a ha)⟩;rw [znK,one,<-h.has v];cases he:(!x.isEmpty&&begB v x) with
  | false=>rw [qH]
  | true=>
   simp only [xy,yg,qo,zkD] at he;have hh:hasB acc x=true:=by
    cases hb:hasB acc x with
    | true=>rfl
    | false=>exact absurd (by simp [hb,he.1]) hc
   obtain ⟨a,ha,hn,hp⟩:=zef.1 hh;rw [zef.2 ⟨a,ha,hn,hp.trans he.2⟩];rfl
theorem zGr:Fo [] []:=⟨zvw,fun v=>rfl,fun a ha=>(by cases ha)⟩
theorem zGs {l acc:List zE} (h:Fo l acc):acc=ofW l:=by rw [<-h.mask.of];exact ztN h.has
theorem zEa {l r:List zE} (h:r.Perm l):ofW r=ofW l:=ztN fun v=>by
 refine zEW ?_;rw [zef,zef];exact ⟨fun ⟨a,ha,k⟩=>⟨a,h.mem_iff.1 ha,k⟩,fun ⟨a,ha,k⟩=>⟨a,h.mem_iff.2 ha,k⟩⟩
abbrev zqd:=List (zao×Int)
structure Trie (t:zqd) (A:List zE) (P:List (zE×Int)):Prop where
 root:([],0)∈P
 same:∀p∈P,∀q∈P,(p.2=q.2↔p.1=q.1)
 ids:∀p∈P,0<=p.2/\p.2<=t.length
 keys:∀(i n:Int),(t.length:Int)<i->mget t ⟨i,n⟩=none
 leaf:∀p∈P,∀n,p.1++[n]∈A->mget t ⟨p.2,n⟩=some (-1)
 node:∀p∈P,∀n,∀q∈P,q.1=p.1++[n]->mget t ⟨p.2,n⟩=some q.2
 none:∀p∈P,∀n,p.1++[n]∉A->(∀q∈P,q.1≠p.1++[n])->mget t ⟨p.2,n⟩=none
 clo:∀q∈P,∀p n,q.1=p++[n]->∃i,(p,i)∈P
 comp:∀a∈A,∀p,p<+:a->p≠a->∃i,(p,i)∈P
 anti:∀v∈A,∀w∈A,v<+:w->v=w
 full:∀a∈A,a≠[]
def zrN (t:zqd) (A:List zE) (P:List (zE×Int)):Prop:=Trie t A P/\∀p∈P,p.1=[]\/∃a∈A,p.1<+:a/\p.1≠a
theorem zEJ:zrN [] [] [([],0)]:=by
 have h1:∀p∈[(([]:zE),(0:Int))],p=([],0):=fun p hp=>by simpa using hp
 refine ⟨⟨xt,fun p hp q hq=>?_,fun p hp=>?_,fun i n _=>rfl,fun p hp n h=>(by cases h),fun p hp n q hq h=>?_,fun p hp n _ _=>rfl,fun q hq p n h=>?_,fun a ha=>(by cases ha),fun v hv=>(by cases hv),fun a ha=>(by cases ha)⟩,fun p hp=>?_⟩
 ·rw [h1 p hp,h1 q hq];simp
 ·rw [h1 p hp];simp
 ·rw [h1 q hq,h1 p hp] at h;simp at h
 ·rw [h1 q hq] at h;simp at h
 ·rw [h1 p hp];exact .inl rfl
theorem zwL {a b:zE} (h:a<+:b) (hl:b.length<=a.length):a=b:=h.eq_of_length (Nat.le_antisymm h.length_le hl)
section
variable {t:zqd} {A:List zE} {P:List (zE×Int)}
theorem zEH (h:zrN t A P) {way:zE} {i:Int} (hw:(way,i)∈P):hasB A way=false:=by
 rw [<-qF,zef];rintro ⟨v,hv,hn,hp⟩;rcases h.2 _ hw with h0| ⟨a,ha,h1,h2⟩
 ·simp only at h0;subst h0;exact hn (List.prefix_nil.1 hp)
 ·have e:=h.1.anti v hv a ha (hp.trans h1);subst e;exact h2 (zwL h1 hp.length_le)
theorem zCu {p:zE} {way:zE} (hp:p<+:way) (hn:p≠[]) (ha:p∈A):hasB A way=true:=zef.2 ⟨p,ha,hn,hp⟩
theorem zCv (h:zrN t A P) {p way:zE} {i n:Int} (hp:(p,i)∈P) (hq:p++[n]<+:way) (hA:p++[n]∉A) (hP:∀q∈P,q.1≠p++[n]):hasB A way=false:=by
 rw [<-qF,zef];rintro ⟨v,hv,hn,hv2⟩;have hpw:p<+:way:=(pY p [n]).trans hq;rcases pO v.length (p++[n]).length with hl| hl| hl
 ·have hvp:v<+:p:=pZ hv2 hpw (by simp at hl;omega);rcases h.2 _ hp with h0| ⟨a,ha,h1,h2⟩
  ·simp only at h0;subst h0;exact hn (List.prefix_nil.1 hvp)
  ·have e:=h.1.anti v hv a ha (hvp.trans h1);subst e;exact h2 (zwL h1 hvp.length_le)
 ·have hvq:v<+:p++[n]:=pZ hv2 hq (by omega);rw [zwL hvq (by omega)] at hv;exact hA hv
 ·have hqv:p++[n]<+:v:=pZ hq hv2 (by omega);obtain ⟨j,hj⟩:=h.1.comp v hv _ hqv (fun e=>by rw [e] at hl;omega);exact hP _ hj rfl
theorem zyh {t:zqd} {k:zao} (h:mget t k=none) (x:Int):(mput t k x).length=t.length+1:=by
 have:=congrArg List.length (zku t k x);rw [h] at this;simpa using this
theorem zDY {t:zqd} {k:zao} {y:Int} (h:mget t k=some y) (x:Int):(mput t k x).length=t.length:=by
 have:=congrArg List.length (zku t k x);rw [h] at this;simpa using this
theorem zsQ {i n j m:Int} (h:¬(i=j/\n=m)):¬((⟨i,n⟩:zao)=⟨j,m⟩):=fun e=>h (by injection e with e1 e2;exact ⟨e1,e2⟩)
theorem zuk {a b:zE} {x y:Int} (h:a++[x]=b++[y]):a=b/\x=y:=by
 have:=List.append_inj' h rfl;exact ⟨this.1,by simpa using this.2⟩
theorem zEI (h:Trie t A P) {p:zE} {i n:Int} (hp:(p,i)∈P) (hA:p++[n]∉A) (hP:∀q∈P,q.1≠p++[n]):
  Trie (mput t ⟨i,n⟩ ((t.length+1:Nat):Int)) A (P++[(p++[n],((t.length+1:Nat):Int))]):=by
 have hg:=h.none _ hp n hA hP;have hl:=zyh hg ((t.length+1:Nat):Int);have hi:=h.ids _ hp;have new:∀r,r∈P++[(p++[n],((t.length+1:Nat):Int))]->r∈P\/r=(p++[n],((t.length+1:Nat):Int)):=fun r hr=>by
  rcases xz.1 hr with hr| hr
  ·exact .inl hr
  ·exact .inr (by simpa using hr)
 have key:∀r∈P,∀m,r.1++[m]≠p++[n]->mget (mput t ⟨i,n⟩ ((t.length+1:Nat):Int)) ⟨r.2,m⟩=mget t ⟨r.2,m⟩:=fun r hr m hne=>by
  rw [zdR,xq (zsQ fun ⟨e1,e2⟩=>hne (by rw [(h.same r hr _ hp).1 e1,e2]))]
 have fresh:∀m,mget (mput t ⟨i,n⟩ ((t.length+1:Nat):Int)) ⟨((t.length+1:Nat):Int),m⟩=none:=fun m=>by
  rw [zdR,xq (zsQ fun ⟨e1,_⟩=>by simp only at hi;omega)];exact h.keys _ _ (by omega)
 refine ⟨xN _ h.root,fun r hr s hs=>?_,fun r hr=>?_,fun j m hj=>?_,fun r hr m hm=>?_,fun r hr m s hs hsr=>?_,fun r hr m hm hns=>?_,fun s hs q m hq=>?_,fun a ha q hq hne=>?_,h.anti,h.full⟩
 ·rcases new r hr with hr| rfl<;>rcases new s hs with hs| rfl
  ·exact h.same r hr s hs
  ·have:=h.ids r hr;exact ⟨fun e=>by simp only at e;omega,fun e=>absurd e (hP r hr)⟩
  ·have:=h.ids s hs;exact ⟨fun e=>by simp only at e;omega,fun e=>absurd e.symm (hP s hs)⟩
  ·exact ⟨fun _=>rfl,fun _=>rfl⟩
 ·rw [hl];rcases new r hr with hr| rfl
  ·have:=h.ids r hr;exact ⟨this.1,by omega⟩
  ·exact ⟨by simp only;omega,y8 _⟩
 ·rw [hl] at hj;simp only at hi;rw [zdR,xq (zsQ fun ⟨e1,_⟩=>by omega)];exact h.keys _ _ (by omega)
 ·rcases new r hr with hr| rfl
  ·rw [key r hr m (fun e=>hA (e▸hm))];exact h.leaf r hr m hm
  ·obtain ⟨j,hj⟩:=h.comp _ hm (p++[n]) (pY _ _) (fun e=>by have:=congrArg List.length e;simp at this);exact absurd rfl (hP _ hj)
 ·rcases new s hs with hs| rfl
  ·rcases new r hr with hr| rfl
   ·rw [key r hr m (fun e=>hP s hs (hsr.trans e))];exact h.node r hr m s hs hsr
   ·obtain ⟨j,hj⟩:=h.clo s hs _ _ hsr;exact absurd rfl (hP _ hj)
  ·rcases new r hr with hr| rfl
   ·obtain ⟨e1,e2⟩:=zuk hsr;have e3:r.2=i:=(h.same r hr _ hp).2 e1.symm;rw [zdR,xr (by rw [e3,e2])]
   ·have:=congrArg List.length hsr;simp at this
 ·rcases new r hr with hr| rfl
  ·have hne:r.1++[m]≠p++[n]:=fun e=>hns _ (xO _ xt) e.symm
   rw [key r hr m hne];exact h.none r hr m hm fun q hq=>hns q (xN _ hq)
  ·exact fresh m
 ·rcases new s hs with hs| rfl
  ·obtain ⟨j,hj⟩:=h.clo s hs q m hq;exact ⟨j,xN _ hj⟩
  ·obtain ⟨e1,e2⟩:=zuk hq;exact ⟨i,xN _ (e1▸hp)⟩
 ·obtain ⟨j,hj⟩:=h.comp a ha q hq hne;exact ⟨j,xN _ hj⟩
theorem zAb (h:Trie t A P) {way:zE} {j:Int} (hw:(way,j)∈P):∀p,p<+:way->∃i,(p,i)∈P:=by
 have key:∀(d:Nat) (p:zE),p.length+d=way.length->p<+:way->∃i,(p,i)∈P:=by
  intro d
  induction d with
  | zero=>intro p hl hp;rw [zwL hp (by omega)];exact ⟨j,hw⟩
  | succ d ih=>
   intro p hl hp;have hlt:p.length<way.length:=by omega
   have hq:p++[way[p.length]]<+:way:=by
    have e:p=way.take p.length:=ut.1 hp;have:way.take (p.length+1)=p++[way[p.length]]:=by rw [yz hlt,<-e]
    rw [<-this];exact p7 _ _
   obtain ⟨i,hi⟩:=ih _ (by simp;omega) hq;exact h.clo _ hi p _ rfl
 intro p hp;exact key (way.length - p.length) p (by have:=hp.length_le;omega) hp
theorem zCt (h:Trie t A P) {p:zE} {i n j:Int} (hp:(p,i)∈P) (hw:(p++[n],j)∈P) (hf:∀a∈A,¬p++[n]<+:a) (hb:∀a∈A,¬a<+:p++[n])
  (hx:∀r∈P,r.1=[]\/(∃a∈A,r.1<+:a/\r.1≠a)\/r.1<+:p++[n]):(mput t ⟨i,n⟩ (-1)).length=t.length/\zrN (mput t ⟨i,n⟩ (-1)) (A++[p++[n]]) (P.filter fun r=>decide (r.1≠p++[n])):=by
 have hg:=h.node _ hp n _ hw rfl;have hl:=zDY hg (-1);have hA:p++[n]∉A:=fun ha=>hf _ ha (y9 _)
 have mem:∀r,r∈P.filter (fun r=>decide (r.1≠p++[n]))↔r∈P/\r.1≠p++[n]:=fun r=>by rw [yu];simp
 have key:∀r∈P,∀m,r.1++[m]≠p++[n]->mget (mput t ⟨i,n⟩ (-1)) ⟨r.2,m⟩=mget t ⟨r.2,m⟩:=fun r hr m hne=>by
  rw [zdR,xq (zsQ fun ⟨e1,e2⟩=>hne (by rw [(h.same r hr _ hp).1 e1,e2]))]
 have hself:∀r∈P,∀m,r.1++[m]=p++[n]->mget (mput t ⟨i,n⟩ (-1)) ⟨r.2,m⟩=some (-1):=fun r hr m e=>by
  obtain ⟨e1,e2⟩:=zuk e;rw [zdR,xr (by rw [(h.same r hr _ hp).2 e1,e2])]
 have inA:∀a,a∈A++[p++[n]]->a∈A\/a=p++[n]:=fun a ha=>by
  rcases xz.1 ha with ha| ha
  ·exact .inl ha
  ·exact .inr (by simpa using ha)
 refine ⟨hl,⟨(mem _).2 ⟨h.root,by simp⟩,fun r hr s hs=>h.same r ((mem r).1 hr).1 s ((mem s).1 hs).1,fun r hr=>?_,fun k m hk=>?_,fun r hr m hm=>?_,fun r hr m s hs hsr=>?_,fun r hr m hm hns=>?_,fun s hs q m hq=>?_,fun a ha q hq hne=>?_,fun v hv w hw' hvw=>?_,fun a ha=>?_⟩,fun r hr=>?_⟩
 ·rw [hl];exact h.ids r ((mem r).1 hr).1
 ·rw [hl] at hk;have:=h.ids _ hp;simp only at this;rw [zdR,xq (zsQ fun ⟨e1,_⟩=>by omega)];exact h.keys _ _ hk
 ·obtain ⟨hr,_⟩:=(mem r).1 hr;by_cases he:r.1++[m]=p++[n]
  ·exact hself r hr m he
  ·rw [key r hr m he];rcases inA _ hm with hm| hm
   ·exact h.leaf r hr m hm
   ·exact absurd hm he
 ·obtain ⟨hr,_⟩:=(mem r).1 hr;obtain ⟨hs,hs2⟩:=(mem s).1 hs;rw [key r hr m (fun e=>hs2 (hsr.trans e))];exact h.node r hr m s hs hsr
 ·obtain ⟨hr,_⟩:=(mem r).1 hr;have he:r.1++[m]≠p++[n]:=fun e=>hm (by rw [e];exact xO _ xt)
  rw [key r hr m he];exact h.none r hr m (fun ha=>hm (xN _ ha)) fun q hq e=>hns q ((mem q).2 ⟨hq,by rw [e];exact he⟩) e
 ·obtain ⟨hs,hs2⟩:=(mem s).1 hs;obtain ⟨k,hk⟩:=h.clo s hs q m hq;refine ⟨k,(mem _).2 ⟨hk,fun e=>?_⟩⟩;simp only at e;rcases hx s hs with h0| ⟨a,ha,h1,_⟩| h1
  ·rw [h0] at hq;simp at hq
  ·exact hf a ha ((by rw [<-e];exact (hq▸pY q [m]:q<+:s.1):p++[n]<+:s.1).trans h1)
  ·have:=h1.length_le;rw [hq,e] at this;simp at this
 ·have hne2:q≠p++[n]->∀k,(q,k)∈P->(q,k)∈P.filter (fun r=>decide (r.1≠p++[n])):=fun hq k hk=>(mem _).2 ⟨hk,hq⟩
  rcases inA a ha with ha| rfl
  ·obtain ⟨k,hk⟩:=h.comp a ha q hq hne;exact ⟨k,hne2 (fun e=>hf a ha (e▸hq)) k hk⟩
  ·obtain ⟨k,hk⟩:=zAb h hw q hq;exact ⟨k,hne2 hne k hk⟩
 ·rcases inA v hv with hv| rfl<;>rcases inA w hw' with hw'| rfl
  ·exact h.anti v hv w hw' hvw
  ·exact absurd hvw (hb v hv)
  ·exact absurd hvw (hf w hw')
  ·rfl
 ·rcases inA a ha with ha| rfl
  ·exact h.full a ha
  ·simp
 ·obtain ⟨hr,hr2⟩:=(mem r).1 hr;rcases hx r hr with h0| ⟨a,ha,h1,h2⟩| h1
  ·exact .inl h0
  ·exact .inr ⟨a,xN _ ha,h1,h2⟩
  ·exact .inr ⟨_,xO _ xt,h1,hr2⟩
end
def go12 {σ ρ χ:Type} (kb:σ->χ->Option (σ⊕ρ)):List χ->σ->Option (σ⊕ρ)
 | [],s=>some (.inl s)
 | p::ps,s=>match kb s p with
  | some (.inl s')=>go12 kb ps s'
  | some (.inr r)=>some (.inr r)
  | none=>none
theorem zGP {σ ρ χ:Type} {kb:σ->χ->Option (σ⊕ρ)} {s s':σ} {x:χ} (h:kb s x=some (.inl s')):rnd kb (.inl s) x=some (true,.inl s'):=by simp only [rnd,h]
theorem zGQ {σ ρ χ:Type} {kb:σ->χ->Option (σ⊕ρ)} {s:σ} {r:ρ} {x:χ} (h:kb s x=some (.inr r)):rnd kb (.inl s) x=some (false,.inr r):=by simp only [rnd,h]
end Go.Proofs.YtekgmimingolbaaGreat
