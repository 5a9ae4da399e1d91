/-
  What the plain functions are. No condition.
-/
import Derived.Test.Ytnckiilakdkklaax1S1
import Derived.Test.Ytnckiilakdkklaax1K2
set_option autoImplicit true
set_option relaxedAutoImplicit true
namespace Go.Proofs.Ytnckiilakdkklaa
open Go.IntKind (i64 u32 u64)
open Go
set_option linter.unusedVariables false
theorem zpW (w:Int):zdK w=some (w%4294967296):=by unfold zdK;rw [zqG]
theorem zto (w:Int):zef w=some (sgnS w):=by
 unfold zef;rw [zpW,sb,ztB];unfold sgnS;congr 1;split<;>split<;>omega
theorem ztz (h: -2147483648<=n/\n<=2147483647):zeg n=some (zoo n):=by
 unfold zeg;rw [pg,zhT];unfold zoo;congr 1;split<;>omega
def zbL (k:Int):Bool:=decide (1<=k/\k<=17)
def kNum (k:Int):Bool:=decide (1<=k/\k<=14)
def zdu (k:Int):Int:=if 15<=k then 2 else if 12<=k then 1 else if 9<=k then 5 else 0
def zds (k w:Int):Int:=
 if k=1\/k=8 then zoo (sgnS w) else if k=3\/k=5\/k=9\/k=10\/k=11 then w%4294967296 else if k=7 then (if 0<w then 1 else 0) else w
theorem zps (k:Int) (h:0<=w/\w<=18446744073709551615):0<=zds k w/\zds k w<=18446744073709551615:=by
 have hs:=zuV w;unfold zds;split
 ·exact zwD (by omega)
 ·split
  ·omega
  ·split
   ·split<;>omega
   ·exact h
abbrev Fld:=zd
abbrev Mes:=zh
def zgv {α:Type} (p:α->Bool) (l:List α):Int:=match l.findIdx? p with
 | some i=>(i:Int)
 | none=> -1
theorem zkD {α:Type} {p:α->Bool} {l:List α} (h:l.findIdx? p=none):zgv p l= -1:=by unfold zgv;rw [h]
theorem zkE {α:Type} {p:α->Bool} {l:List α} {i:Nat} (h:l.findIdx? p=some i):zgv p l=(i:Int):=by unfold zgv;rw [h]
theorem znw {α:Type} (p:α->Bool) (l:List α) (F:Int->Option (Unit⊕Int)) (h0:F (l.length:Int)=some (.inl ())) (hs:∀(i:Nat) (h:i<l.length),F (i:Int)=if p l[i] then some (.inr (i:Int)) else F ((i+1:Nat):Int)):
  ∀(d i:Nat),i+d=l.length->(∀j (h:j<l.length),j<i->p l[j]=false)->F (i:Int)=some (match l.findIdx? p with| some k=> .inr (k:Int)| none=> .inl ()):=by
 intro d
 induction d with
 | zero=>
  intro i hi hj;have:i=l.length:=by omega
  subst this;have hn:l.findIdx? p=none:=by
   rw [qj];intro x hx;obtain ⟨j,hj',rfl⟩:=y6 hx
   grind
  rw [h0,hn]
 | succ d ih=>
  intro i hi hj;have hil:i<l.length:=by omega
  rw [hs i hil];by_cases hp:p l[i]=true
  ·have hf:l.findIdx? p=some i:=by
    rw [qN]
    grind
   grind
  ·rw [xc hp];refine ih (i+1) (by omega) fun j h hji=>?_
   grind
def fldI (m:Mes) (number:Int):Int:=zgv (fun f:Fld=>f.Number==number) m.Fields
def nmc (i:Nat) (c:UInt8):Bool:=decide (65<=c.toNat/\c.toNat<=90\/97<=c.toNat/\c.toNat<=122\/c.toNat=95\/0<i/\48<=c.toNat/\c.toNat<=57)
def nmA:Nat->List UInt8->Bool
 | _,[]=>true
 | i,c::l=>nmc i c&&nmA (i+1) l
def zcP (s:List UInt8):Bool:=nmA 0 s&&decide (1<=s.length/\s.length<=60)
theorem ziF {α:Type} {l t:List α} {x:α} {k:Nat} (h:l.drop k=x::t):∃hk:k<l.length,l[k]=x/\l.drop (k+1)=t:=by
 have hk:k<l.length:=by
  rcases yb k l.length with h'| h'
  ·exact h'
  ·rw [qE h'] at h;cases h
 rw [yG hk] at h
 grind
theorem zjZ {α:Type} {l:List α} {k:Nat} (h:l.drop k=[]):l.length<=k:=by have:=congrArg List.length h;simp at this;omega
def zaI (n:Int) (prev:List Fld) (f:Fld):Int:=
 if zcP f.Name=false then 5 else if prev.any (fun g=>g.Name==f.Name)=true then 6
 else if f.Number<1\/f.Number>536870911\/(19000<=f.Number/\f.Number<20000) then 7
 else if prev.any (fun g=>g.Number==f.Number)=true then 8 else if zbL f.Kind=false then 9
 else if f.Packed=true/\¬(f.Repeated=true/\kNum f.Kind=true) then 10
 else if f.Kind=17/\(f.Of<0\/f.Of>=n)\/f.Kind≠17/\f.Of≠0 then 11 else 0
theorem zpy (n:Int) (prev:List Fld) (f:Fld):0<=zaI n prev f/\zaI n prev f<=11:=by
 unfold zaI;omega
def msgF (n:Int) (prev:List Fld):List Fld->Option (Nat×Int)
 | []=>none
 | f::l=>if 0<zaI n prev f then some (prev.length,zaI n prev f) else msgF n (prev++[f]) l
def chkF (n:Int) (prev:List Mes):List Mes->Option (Nat×Int×Int)
 | []=>none
 | m::l=>if zcP m.Name=false then some (prev.length, -1,2) else if prev.any (fun g=>g.Name==m.Name)=true then some (prev.length, -1,3)
  else if 200<m.Fields.length then some (prev.length, -1,4) else match msgF n [] m.Fields with
   | some (k,w)=>some (prev.length,(k:Int),w)
   | none=>chkF n (prev++[m]) l
def zeQ (s:List Mes):Int×Int×Int:=if s.length=0\/100<s.length then (-1, -1,1) else match chkF s.length [] s with
 | none=>(0,0,0)
 | some (i,k,w)=>((i:Int),k,w)
def zmD (s:List Mes):Bool:=decide ((zeQ s).2.2=0)
def WS (s:List Mes):Prop:=s.length<=140737488351232/\∀m∈s,m.Name.length<=140737488351232/\m.Fields.length<=140737488351232/\∀f∈m.Fields,f.Name.length<=140737488351232
theorem zkl :∀(l prev:List Fld),msgF n prev l=none↔∀(k:Nat) (f:Fld),l[k]? =some f->zaI n (prev++l.take k) f=0
 | [],prev=>by simp [msgF]
 | f::l,prev=>by
  have hb:=zpy n prev f;rw [msgF];by_cases h:0<zaI n prev f
  ·rw [xd h];refine ⟨(fun h'=>nomatch h'),fun h'=>?_⟩;have:=h' 0 f rfl;simp at this;omega
  ·rw [xc h,zkl l (prev++[f])];constructor
   ·intro h' k g hg;cases k with
    | zero=>simp at hg;subst hg;simp;omega
    | succ k=>have:=h' k g (by simpa using hg);simpa using this
   ·intro h' k g hg;have:=h' (k+1) g (by simpa using hg);simpa using this
theorem znr :∀(l prev:List Mes),chkF n prev l=none↔∀(i:Nat) (m:Mes),l[i]? =some m->zcP m.Name=true/\(prev++l.take i).any (fun g=>g.Name==m.Name)=false/\m.Fields.length<=200/\msgF n [] m.Fields=none
 | [],prev=>by simp [chkF]
 | m::l,prev=>by
  rw [chkF];by_cases h1:zcP m.Name=false
  ·rw [xd h1];refine ⟨(fun h'=>nomatch h'),fun h'=>?_⟩;have:=(h' 0 m rfl).1;rw [h1] at this;cases this
  ·rw [xc h1];by_cases h2:prev.any (fun g=>g.Name==m.Name)=true
   ·rw [xd h2];refine ⟨(fun h'=>nomatch h'),fun h'=>?_⟩;have:=(h' 0 m rfl).2.1;simp only [qk,yA] at this;rw [h2] at this;cases this
   ·rw [xc h2];by_cases h3:200<m.Fields.length
    ·rw [xd h3];refine ⟨(fun h'=>nomatch h'),fun h'=>?_⟩;have:=(h' 0 m rfl).2.2.1;omega
    ·rw [xc h3];cases h4:msgF n [] m.Fields with
     | some p=>
      refine ⟨(fun h'=>nomatch h'),fun h'=>?_⟩;have:=(h' 0 m rfl).2.2.2;rw [h4] at this;cases this
     | none=>
      simp only;rw [znr l (prev++[m])];constructor
      ·intro h' i g hg;cases i with
       | zero=>simp at hg;subst hg;exact ⟨by simpa using h1,by simpa using h2,by omega,h4⟩
       | succ i=>have:=h' i g (by simpa using hg);simpa using this
      ·intro h' i g hg;have:=h' (i+1) g (by simpa using hg);simpa using this
theorem zwh:∀(n:Int) (l prev:List Fld) (k:Nat) (w:Int),msgF n prev l=some (k,w)->0<w:=by
 intro n l
 induction l with
 | nil=>intro prev k w h;cases h
 | cons f l ih=>
  intro prev k w h;rw [msgF] at h
  grind
theorem zrK:∀(n:Int) (l prev:List Mes) (i:Nat) (k w:Int),chkF n prev l=some (i,k,w)->0<w:=by
 intro n l
 induction l with
 | nil=>intro prev i k w h;cases h
 | cons m l ih=>
  intro prev i k w h;rw [chkF] at h;split at h
  ·cases h;omega
  ·split at h
   ·cases h;omega
   ·split at h
    ·cases h;omega
    ·split at h
     ·rename_i k' w' h';cases h;exact zwh _ _ _ _ _ h'
     grind
structure zwJ (n:Int) (f:Fld):Prop where
 name:zcP f.Name=true
 lo:1<=f.Number
 hi:f.Number<=536870911
 kind:zbL f.Kind=true
 packed:f.Packed=true->f.Repeated=true/\kNum f.Kind=true
 sub:f.Kind=17->0<=f.Of/\f.Of<n
 noSub:f.Kind≠17->f.Of=0
theorem zlN (h:zaI n prev f=0):zwJ n f/\prev.any (fun g=>g.Name==f.Name)=false/\prev.any (fun g=>g.Number==f.Number)=false:=by
 unfold zaI at h;split at h
 ·omega
 ·rename_i h1;split at h
  ·omega
  ·rename_i h2;split at h
   ·omega
   ·rename_i h3;split at h
    ·omega
    ·rename_i h4;split at h
     ·omega
     ·rename_i h5;split at h
      ·omega
      ·rename_i h6;split at h
       ·omega
       ·rename_i h7;refine ⟨⟨by simpa using h1,by omega,by omega,by simpa using h5,fun hp=>?_,fun hk=>by omega,fun hk=>by omega⟩,by simpa using h2,by simpa using h4⟩
        grind
structure zot (s:List Mes):Prop where
 len:1<=s.length/\s.length<=100
 name:∀m∈s,zcP m.Name=true
 names:∀(i j:Nat) (a b:Mes),i<j->s[i]? =some a->s[j]? =some b->a.Name≠b.Name
 few:∀m∈s,m.Fields.length<=200
 fld:∀m∈s,∀f∈m.Fields,zwJ s.length f
 nums:∀m∈s,∀(i j:Nat) (f g:Fld),i<j->m.Fields[i]? =some f->m.Fields[j]? =some g->f.Number≠g.Number/\f.Name≠g.Name
theorem ztk {s:List Mes} (h:zmD s=true):zot s:=by
 have h0:(zeQ s).2.2=0:=by simpa [zmD] using h
 have h1:¬(s.length=0\/100<s.length):=fun hh=>by unfold zeQ at h0;rw [xd hh] at h0;simp at h0
 have h2:chkF s.length [] s=none:=by
  cases h4:chkF s.length [] s with
  | none=>rfl
  | some p=>
   exfalso;obtain ⟨i,k,w⟩:=p;have h5:(zeQ s).2.2=w:=by unfold zeQ;rw [xc h1,h4]
   have:=zrK _ _ _ _ _ _ h4;omega
 have h3:=(znr s []).1 h2;have at':∀m∈s,zcP m.Name=true/\m.Fields.length<=200/\msgF s.length [] m.Fields=none:=fun m hm=>by
  obtain ⟨i,hi,rfl⟩:=y6 hm;have:=h3 i _ (xr hi)
  grind
 refine ⟨by omega,fun m hm=>(at' m hm).1,fun i j a b hij ha hb=>?_,fun m hm=>(at' m hm).2.1,fun m hm f hf=>?_,fun m hm i j f g hij hf hg=>?_⟩
 ·have:=(h3 j b hb).2.1;have hai:a∈([]++s.take j:List Mes):=by
   rw [xQ];exact qa (i:=i) (by rw [x9,xd hij];exact ha)
  grind
 ·have h4:=(zkl m.Fields []).1 (at' m hm).2.2;obtain ⟨i,hi,rfl⟩:=y6 hf;exact (zlN (h4 i _ (xr hi))).1
 ·have h4:=(zkl m.Fields []).1 (at' m hm).2.2;obtain ⟨_,k1,k2⟩:=zlN (h4 j g hg);have hai:f∈([]++m.Fields.take j:List Fld):=by
   rw [xQ];exact qa (i:=i) (by rw [x9,xd hij];exact hf)
  grind
theorem zsJ {s:List Mes} {i:Nat} {m:Mes} (hi:∃h:i<s.length,s[i]=m) (hb:m.Fields.length<=140737488351232):∀(d k:Nat) (n:Int),k+d=m.Fields.length->∃r,zaQ i s n k=some r:=by
 obtain ⟨hil,hm⟩:=hi;have e1:idx s (i:Int)=some m:=by rw [zaF rfl hil,hm]
 intro d
 induction d with
 | zero=>
  intro k n hk;refine ⟨n,zfP ?_⟩;unfold zat
  grind
 | succ d ih=>
  intro k n hk;obtain ⟨r,hr⟩:=ih (k+1) (i64.wrap (n+(i64.wrap (Int.tdiv (((m.Fields[k]'(by omega)).Name.length:Int)) 100)))) (by omega);refine ⟨r,(zfO (k':=((k+1:Nat):Int)) ?_).trans hr⟩
  grind [zat,sb,zH,zaF]
theorem zxo {s:List Mes} (hw:WS s):∃b,zbM s=some b:=by
 obtain ⟨hs,hm⟩:=hw;have key:∀(d i:Nat) (n:Int),i+d=s.length->∃r,zaP s n i=some r:=by
  intro d
  induction d with
  | zero=>
   intro i n hi;refine ⟨n,zfN ?_⟩;unfold zas
   grind
  | succ d ih=>
   intro i n hi;have hil:i<s.length:=by omega
   obtain ⟨q,hq⟩:=zsJ (s:=s) (i:=i) (m:=s[i]) ⟨hil,rfl⟩ (hm _ (x8 hil)).2.1 (s[i]).Fields.length 0
    (i64.wrap ((i64.wrap ((i64.wrap (n+1))+(i64.wrap (Int.tdiv ((s[i]).Name.length:Int) 100))))+((s[i]).Fields.length:Int))) (by omega)
   have hq':zaQ i s (i64.wrap ((i64.wrap ((i64.wrap (n+1))+(i64.wrap (Int.tdiv ((s[i]).Name.length:Int) 100))))+((s[i]).Fields.length:Int))) 0=some q:=hq;obtain ⟨r,hr⟩:=ih (i+1) q (by omega);refine ⟨r,(zfM (i':=((i+1:Nat):Int)) ?_).trans hr⟩
   grind [zas,sb,zH,zaF]
 obtain ⟨r,hr⟩:=key s.length 0 0 (by omega);have hr':zaP s 0 0=some r:=hr;exact ⟨_,by unfold zbM;rw [hr',sb]⟩
def zwN (m:Mes) (p:Int):Int:=(m.Fields.getD p.toNat ⟨[],0,0,false,false,0⟩).Number
def zxk (κ:Int->Int) (a b:Int):Prop:=κ a<κ b\/κ a=κ b/\a<b
def cont (c:UInt8):Bool:=decide (128<=c.toNat/\c.toNat<192)
def is1:List UInt8->Bool
 | a::_=>decide (a.toNat<128)
 | _=>false
def is2:List UInt8->Bool
 | a::b::_=>decide (194<=a.toNat/\a.toNat<224/\cont b=true)
 | _=>false
def is3:List UInt8->Bool
 | a::b::c::_=>decide (224<=a.toNat/\a.toNat<240/\cont b=true/\cont c=true/\(a.toNat=224->160<=b.toNat)/\(a.toNat=237->b.toNat<160))
 | _=>false
def is4:List UInt8->Bool
 | a::b::c::d::_=>decide (240<=a.toNat/\a.toNat<245/\cont b=true/\cont c=true/\cont d=true/\(a.toNat=240->144<=b.toNat)/\(a.toNat=244->b.toNat<144))
 | _=>false
def nxt (l:List UInt8):Nat:=if is1 l then 1 else if is2 l then 2 else if is3 l then 3 else if is4 l then 4 else 0
def isN (n:Nat) (l:List UInt8):Bool:=match n with
 | 1=>is1 l
 | 2=>is2 l
 | 3=>is3 l
 | 4=>is4 l
 | _=>false
theorem zeT (h:isN n l=true):∃a t,l=a::t/\n<=l.length/\(n=1/\a.toNat<128\/n=2/\194<=a.toNat/\a.toNat<224\/n=3/\224<=a.toNat/\a.toNat<240\/n=4/\240<=a.toNat):=by
 match n,l with
 | 1,a::t=>simp only [isN,is1,xu] at h;exact ⟨a,t,rfl,by simp,.inl ⟨rfl,h⟩⟩
 | 2,a::b::t=>simp only [isN,is2,xu] at h;exact ⟨a,_,rfl,by simp,.inr (.inl ⟨rfl,h.1,h.2.1⟩)⟩
 | 3,a::b::c::t=>simp only [isN,is3,xu] at h;exact ⟨a,_,rfl,by simp,.inr (.inr (.inl ⟨rfl,h.1,h.2.1⟩))⟩
 | 4,a::b::c::d::t=>simp only [isN,is4,xu] at h;exact ⟨a,_,rfl,by simp,.inr (.inr (.inr ⟨rfl,h.1⟩))⟩
 | 0,_=>cases h
 | 1,[]=>cases h
 | 2,[]=>cases h
 | 2,[_]=>cases h
 | 3,[]=>cases h
 | 3,[_]=>cases h
 | 3,[_,_]=>cases h
 | 4,[]=>cases h
 | 4,[_]=>cases h
 | 4,[_,_]=>cases h
 | 4,[_,_,_]=>cases h
 | _+5,_=>cases h
theorem zvN (h:isN n l=true) (h':isN m l=true):n=m:=by
 obtain ⟨a,t,e,_,g⟩:=zeT h;obtain ⟨a',t',e',_,g'⟩:=zeT h';rw [e] at e';cases e';omega
theorem zxK (h:isN n l=true):nxt l=n:=by
 obtain ⟨_,_,_,_,g⟩:=zeT h;have k:∀m,m≠n->isN m l=false:=fun m hm=>by
  cases hh:isN m l with
  | false=>rfl
  | true=>exact absurd (zvN hh h) hm
 have hn:n=1\/n=2\/n=3\/n=4:=by omega
 rcases hn with rfl| rfl| rfl| rfl
 ·simp only [isN] at h;simp [nxt,h]
 ·have j1:=k 1 (by omega);simp only [isN] at h j1;simp [nxt,h,j1]
 ·have j1:=k 1 (by omega);have j2:=k 2 (by omega);simp only [isN] at h j1 j2;simp [nxt,h,j1,j2]
 ·have j1:=k 1 (by omega);have j2:=k 2 (by omega);have j3:=k 3 (by omega);simp only [isN] at h j1 j2 j3;simp [nxt,h,j1,j2,j3]
theorem zlp (h:nxt l≠0):isN (nxt l) l=true:=by
 unfold nxt at h|-;by_cases h1:is1 l=true
 ·simp [h1,isN]
 ·by_cases h2:is2 l=true
  ·simp [h1,h2,isN]
  ·by_cases h3:is3 l=true
   ·simp [h1,h2,h3,isN]
   ·by_cases h4:is4 l=true
    ·simp [h1,h2,h3,h4,isN]
    ·simp [h1,h2,h3,h4] at h
theorem zmn (l:List UInt8):nxt l<=l.length:=by
 by_cases h:nxt l=0
 ·omega
 ·obtain ⟨_,_,_,g,_⟩:=zeT (zlp h);exact g
theorem zwj (l:List UInt8):nxt l<=4:=by
 by_cases h:nxt l=0
 ·omega
 ·obtain ⟨_,_,_,_,g⟩:=zeT (zlp h);omega
def fst4 (m:Int) (l:List UInt8):Nat×Nat:=
 if h:nxt l=0\/(nxt l:Int)>m then (0,0) else (nxt l+(fst4 (m - nxt l) (l.drop (nxt l))).1,(fst4 (m - nxt l) (l.drop (nxt l))).2+1)
termination_by l.length
decreasing_by all_goals (have:=zmn l;simp only [xG];omega)
theorem zkd (h:nxt l=0\/(nxt l:Int)>m):fst4 m l=(0,0):=by rw [fst4,dif_pos h]
theorem zoK (h:¬(nxt l=0\/(nxt l:Int)>m)):fst4 m l=(nxt l+(fst4 (m - nxt l) (l.drop (nxt l))).1,(fst4 (m - nxt l) (l.drop (nxt l))).2+1):=by rw [fst4,dif_neg h]
def pre4 (l:List UInt8):Nat×Nat:=fst4 l.length l
theorem ztU (h:(l.length:Int)<=m):fst4 m l=pre4 l:=by
 have key:∀(n:Nat) (l:List UInt8) (m m':Int),l.length=n->(l.length:Int)<=m->(l.length:Int)<=m'->fst4 m l=fst4 m' l:=by
  intro n
  induction n using Nat.strongRecOn with
  | _ n ih=>
   intro l m m' hn hm hm';have hle:=zmn l;by_cases h:nxt l=0
   ·rw [zkd (.inl h),zkd (.inl h)]
   ·rw [zoK (m:=m) (l:=l) (by omega),zoK (m:=m') (l:=l) (by omega),ih _ (by simp only [xG];omega) (l.drop (nxt l)) (m - nxt l) (m' - nxt l) rfl (by simp only [xG];omega) (by simp only [xG];omega)]
 exact key _ l m l.length rfl h (Int.le_refl _)
theorem ztg (h:nxt l=0):pre4 l=(0,0):=zkd (.inl h)
theorem zwn (h:nxt l≠0):pre4 l=(nxt l+(pre4 (l.drop (nxt l))).1,(pre4 (l.drop (nxt l))).2+1):=by
 have hle:=zmn l;unfold pre4;rw [zoK (by omega),ztU (m:=(l.length:Int) - nxt l) (by simp only [xG];omega)];rfl
theorem zuK (P:List UInt8->Prop) (h0:∀l,nxt l=0->P l) (h1:∀l,nxt l≠0->P (l.drop (nxt l))->P l) (l:List UInt8):P l:=by
 generalize hn:l.length=n
 induction n using Nat.strongRecOn generalizing l with
 | _ n ih=>
  by_cases h:nxt l=0
  ·exact h0 l h
  ·have:=zmn l;exact h1 l h (ih _ (by simp only [xG];omega) _ rfl)
def zhG (l:List UInt8):Bool:=decide ((pre4 l).1=l.length)
def enc (v:Nat):List UInt8:=if v<128 then [UInt8.ofNat v] else UInt8.ofNat (128+v%128)::enc (v/128)
termination_by v
decreasing_by omega
def scan:Nat->Nat->List UInt8->Unit⊕(Int×Int×Int)
 | _,_,[]=> .inl ()
 | i,uy,c::t=>if i=9/\1<c.toNat then .inr (0,0,4) else if c.toNat<128 then .inr (((uy+c.toNat%128*128^i:Nat):Int),((i+1:Nat):Int),0) else scan (i+1) (uy+c.toNat%128*128^i) t
def rdR:Unit⊕(Int×Int×Int)->Int×Int×Int
 | .inl _=>(0,0,3)
 | .inr r=>r
def rd (b:List UInt8):Int×Int×Int:=rdR (scan 0 0 (b.take 10))
def hor:List UInt8->Nat
 | []=>0
 | c::t=>c.toNat%128+128*hor t
def lead:Nat->List UInt8->Nat
 | 0,_=>0
 | _+1,[]=>0
 | k+1,c::t=>if 128<=c.toNat then lead k t+1 else 0
theorem zxb (i:Nat):2^(7*i)=128^i:=by rw [Nat.pow_mul]
theorem zvC (c:Nat):c&&&127=c%128:=qX c 7
theorem ztj {uy i c:Nat} (hi:i<=9) (hacc:uy<128^i) (hc:c<256) (h9:i=9->c<=1):
  orI .u64 (uy:Int) (shlI .u64 (u64.wrap (andI .u8 (c:Int) 127)) ((7*i:Nat):Int))=((uy+c%128*128^i:Nat):Int):=by
 have e1:andI .u8 (c:Int) 127=((c%128:Nat):Int):=by
  have:=zpn (k:= .u8) rfl (a:=c) (b:=127) (by simpa [IntKind.bits] using hc) (by simp [IntKind.bits]);rw [zvC] at this;exact this
 have hp:128^i<=128^9:=qO (by omega) hi;have hlt:c%128*128^i<18446744073709551616:=by
  by_cases h:i=9
  ·subst h;have:=h9 rfl;have h2:c%128<=1:=by omega
   have:=ya (128^9) h2;omega
  ·have h3:128^i<=128^8:=qO (by omega) (by omega);have:=Nat.mul_le_mul (show c%128<=127 by omega) h3;omega
 have e2:shlI .u64 (u64.wrap ((c%128:Nat):Int)) ((7*i:Nat):Int)=((c%128*128^i:Nat):Int):=by
  unfold shlI;rw [zjW rfl (by simp [IntKind.bits];omega),xB,qL (by simp [IntKind.bits];omega)];have h4:((c%128:Nat):Int)*2^(7*i)=((c%128*128^i:Nat):Int):=by rw [<-zxb];push_cast;rfl
  rw [h4];exact zjW rfl (by simpa [IntKind.bits] using hlt)
 rw [e1,e2,zsq rfl (by simp [IntKind.bits];omega) (by simpa [IntKind.bits] using hlt)];congr 1;rw [<-zxb] at hacc|-;exact zpZ _ _ _ hacc
theorem zti:∀(t:List UInt8) (v:List UInt8) (i uy:Nat),v.drop i=t->i+t.length=v.length->v.length<=10->uy<128^i->zbT v uy i=some (scan i uy t):=by
 intro t
 induction t with
 | nil=>
  intro v i uy _ hl _ _;refine zda ?_;unfold zbj;rw [itF (by simp at hl|-;omega)];rfl
 | cons c t ih=>
  intro v i uy hd hl hv hacc;simp only [xw] at hl;have hget:v[i]'(by omega)=c:=by
   have h1:v.drop i=v[i]'(by omega)::v.drop (i+1):=yG (by omega);rw [hd] at h1;exact (List.cons.inj h1).1.symm
  have hd':v.drop (i+1)=t:=by rw [<-xZ,hd];rfl
  have hc:=c.toNat_lt;have hb:zbj v uy i=if i=9/\1<c.toNat then some (.inr (.inr (0,0,4))) else if c.toNat<128 then some (.inr (.inr (((uy+c.toNat%128*128^i:Nat):Int),((i+1:Nat):Int),0))) else some (.inl (((uy+c.toNat%128*128^i:Nat):Int),((i+1:Nat):Int))):=by
   unfold zbj;rw [pd,zaF rfl (show i<v.length by omega),sb,hget];by_cases h9:i=9/\1<c.toNat
   ·rw [xd h9,pd]
   ·rw [xc h9,pf,pg];have e:((7:Int)*(i:Int))=((7*i:Nat):Int):=by push_cast;rfl
    rw [e,zuW,sb,ztj (by omega) hacc (by omega) (by omega),pg];by_cases h8:c.toNat<128
    ·rw [xd h8,pd];push_cast;rfl
    ·rw [xc h8,pf];push_cast;rfl
  rw [scan];split at hb
  ·rename_i h9;rw [xd h9];exact zda hb
  ·rename_i h9;rw [xc h9];split at hb
   ·rename_i h8;rw [xd h8];exact zda hb
   ·rename_i h8;rw [xc h8,zja hb];refine ih v (i+1) _ hd' (by omega) hv ?_;rw [yE];have:=ya (128^i) (show c.toNat%128<=127 by omega);omega
theorem zoU (b:List UInt8):zcH b=some (rd b):=by
 unfold zcH rd;have e:(if (10:Int)<(b.length:Int) then (10:Int) else (b.length:Int))=((min 10 b.length:Nat):Int):=by split<;>omega
 have e2:b.take (min 10 b.length)=b.take 10:=by rw [List.take_eq_take_iff];omega
 rw [e,zpw rfl (by omega),sb,e2];have h:=zti (b.take 10) (b.take 10) 0 0 rfl (by simp) (by simp;omega) (by simp);have h':zbT (b.take 10) 0 0=some (scan 0 0 (b.take 10)):=h;rw [h',sb];cases scan 0 0 (b.take 10)<;>rfl
theorem zsv (b:List UInt8):zdl b=some ((rd b).2.1,(rd b).2.2):=by unfold zdl;rw [zoU,sb]
theorem zsd:∀(k:Nat) (l:List UInt8),lead k l<=k/\lead k l<=l.length
 | 0,_=>⟨xh _,xq _⟩
 | _+1,[]=>⟨xq _,xh _⟩
 | k+1,c::t=>by
  have:=zsd k t;rw [lead];split<;>simp<;>omega
theorem ztn:∀(l:List UInt8) (i uy:Nat),i+l.length<=10->i<=9->
  scan i uy l=if i+lead (10 - i) l=10 then .inr (0,0,4) else if lead (10 - i) l=l.length then .inl () else if i+lead (10 - i) l=9/\1<(l.getD (lead (10 - i) l) 0).toNat then .inr (0,0,4) else
   .inr (((uy+hor (l.take (lead (10 - i) l+1))*128^i:Nat):Int),((i+lead (10 - i) l+1:Nat):Int),0):=by
 intro l
 induction l with
 | nil=>
  intro i uy _ hi;obtain ⟨k,hk⟩:∃k,10 - i=k+1:=⟨9 - i,by omega⟩;rw [hk];simp only [lead,scan,yp];rw [xc (by omega),xd trivial]
 | cons c t ih=>
  intro i uy hl hi;obtain ⟨k,hk⟩:∃k,10 - i=k+1:=⟨9 - i,by omega⟩;simp only [xw] at hl;rw [scan];by_cases hc:128<=c.toNat
  ·have e:lead (10 - i) (c::t)=lead k t+1:=by rw [hk,lead,xd hc]
   rw [e];by_cases h9:i=9
   ·have:k=0:=by omega
    subst this;rw [xd ⟨h9,by omega⟩,lead,xd (by omega)]
   ·rw [xc (by omega),xc (by omega),ih (i+1) _ (by omega) (by omega),show 10 - (i+1)=k by omega];by_cases h1:i+1+lead k t=10
    ·rw [xd h1,xd (show i+(lead k t+1)=10 by omega)]
    ·rw [xc h1,xc (show ¬i+(lead k t+1)=10 by omega)];by_cases h2:lead k t=t.length
     ·rw [xd h2,xd (show lead k t+1=(c::t).length by simp;omega)]
     ·rw [xc h2,xc (show ¬lead k t+1=(c::t).length by simp;omega)];have eg:(c::t).getD (lead k t+1) 0=t.getD (lead k t) 0:=by simp [List.getD]
      rw [eg];by_cases h3:i+1+lead k t=9/\1<(t.getD (lead k t) 0).toNat
      ·rw [xd h3,xd (show i+(lead k t+1)=9/\1<(t.getD (lead k t) 0).toNat by omega)]
      ·rw [xc h3,xc (show ¬(i+(lead k t+1)=9/\1<(t.getD (lead k t) 0).toNat) by omega)];rw [yF,hor,yE];have e5:uy+c.toNat%128*128^i+hor (t.take (lead k t+1))*(128^i*128)=uy+(c.toNat%128+128*hor (t.take (lead k t+1)))*128^i:=by
        rw [Nat.add_mul,yV 128,yD (128^i) 128,<-yV,yD _ 128,yV];omega
       rw [e5];congr 3;omega
  ·have e:lead (10 - i) (c::t)=0:=by rw [hk,lead,xc hc]
   rw [e];simp only [yg,xw,List.getD_cons_zero];rw [xc (show ¬i=10 by omega),xc (show ¬0=t.length+1 by omega)];by_cases h9:i=9/\1<c.toNat
   ·rw [xd h9,xd h9]
   ·rw [xc h9,xc h9,xd (show c.toNat<128 by omega)];simp [hor]
theorem zqX (x y:List UInt8):hor (x++y)=hor x+128^x.length*hor y:=by
 induction x with
 | nil=>simp [hor]
 | cons c t ih=>simp only [xK,hor,ih,xw,yE,Nat.mul_add];rw [yD (128^t.length) 128,yV];omega
theorem zxp (l:List UInt8):hor l<128^l.length:=by
 induction l with
 | nil=>simp [hor]
 | cons c t ih=>simp only [hor,xw,yE];omega
theorem zxW (hn:n<=9) (hC:C<256) (h9:¬(n=9/\1<C)) (hX:X<128^n):X+128^n*(C%128)<18446744073709551616:=by
 by_cases h9':n=9
 ·subst h9';have:C%128<=1:=by omega
  have:=qr (128^9) this;omega
 ·have h5:128^n<=128^8:=qO (by omega) (by omega);have h6:C%128<=127:=by omega
  have:=Nat.mul_le_mul h5 h6;omega
theorem znK:∀(k:Nat) (l:List UInt8),lead k (l.take k)=lead k l
 | 0,_=>rfl
 | _+1,[]=>rfl
 | k+1,c::t=>by simp only [yF,lead,znK k t]
theorem znJ:∀(k:Nat) (l:List UInt8),(∀y∈l.take (lead k l),128<=y.toNat)/\∀(h:lead k l<l.length),lead k l<k->(l[lead k l]).toNat<128
 | 0,_=>⟨fun y hy=>by simp [lead] at hy,fun _ h=>by omega⟩
 | _+1,[]=>⟨fun y hy=>by simp at hy,fun h=>by simp at h⟩
 | k+1,c::t=>by
  obtain ⟨h1,h2⟩:=znJ k t;by_cases hc:128<=c.toNat
  ·have e:lead (k+1) (c::t)=lead k t+1:=by rw [lead,xd hc]
   constructor
   ·rw [e,yF];intro y hy;cases hy with
    | head=>exact hc
    | tail _ hy=>exact h1 y hy
   ·simp only [e,ql,xw];intro h hk;exact h2 (by omega) (by omega)
  ·have e:lead (k+1) (c::t)=0:=by rw [lead,xc hc]
   constructor
   ·rw [e];intro y hy;simp at hy
   ·simp only [e];intro _ _;simp;omega
theorem zjF (b:List UInt8):rd b=(0,0,4)\/(rd b=(0,0,3)/\b.length<=9)\/
  ∃x c y,b=x++c::y/\(∀z∈x,128<=z.toNat)/\c.toNat<128/\x.length<=9/\hor (x++[c])<18446744073709551616/\rd b=(((hor (x++[c]):Nat):Int),((x.length+1:Nat):Int),0):=by
 have hle:=zsd 10 b;have hs:=ztn (b.take 10) 0 0 (by simp;omega) (by omega);simp only [xJ,yT,znK,Nat.pow_zero,Nat.mul_one] at hs;unfold rd;rw [hs];by_cases h10:lead 10 b=10
 ·rw [xd h10];exact .inl rfl
 ·rw [xc h10];by_cases hl:lead 10 b=(b.take 10).length
  ·rw [xd hl];refine .inr (.inl ⟨rfl,?_⟩);rw [yy] at hl;omega
  ·rw [xc hl];rw [yy] at hl;have hlt:lead 10 b<b.length:=by omega
   have hg:(b.take 10).getD (lead 10 b) 0=b[lead 10 b]:=by
    rw [qP,x9,xd (by omega),xr hlt];rfl
   rw [hg,List.take_take,qL (by omega)];have hc:=(b[lead 10 b]).toNat_lt;by_cases h9:lead 10 b=9/\1<(b[lead 10 b]).toNat
   ·rw [xd h9];exact .inl rfl
   ·rw [xc h9];obtain ⟨hf1,hf2⟩:=znJ 10 b;have hsp:b.take (lead 10 b+1)=b.take (lead 10 b)++[b[lead 10 b]]:=by
     rw [List.take_add_one,xr hlt];rfl
    have uA:(b.take (lead 10 b)).length=lead 10 b:=by rw [yy];omega
    refine .inr (.inr ⟨b.take (lead 10 b),b[lead 10 b],b.drop (lead 10 b+1),?_,hf1,hf2 hlt (by omega),by omega,?_,?_⟩)
    ·rw [<-yG hlt,qF]
    ·rw [zqX];have h3:=zxp (b.take (lead 10 b));rw [uA] at h3|-;simp only [hor,Nat.mul_zero,yg];exact zxW (by omega) (by omega) h9 h3
    ·rw [hsp,uA];simp [rdR]
theorem zxn (h:v<128):enc v=[UInt8.ofNat v]:=by rw [enc,xd h]
theorem zxm (h:¬v<128):enc v=UInt8.ofNat (128+v%128)::enc (v/128):=by rw [enc,xc h]
theorem zrO:∀(v:Nat),(enc v).length=lenN v:=by
 intro v
 induction v using Nat.strongRecOn with
 | _ v ih=>
  by_cases h:v<128
  ·rw [zxn h,zlm h];rfl
  ·rw [zxm h,zll h,xw,ih _ (by omega)]
theorem zxd (v:Nat):shrI .u64 (v:Int) 7=((v/128:Nat):Int):=zmJ (k:= .u64) (a:=v) (b:=7) (by simp [IntKind.bits])
theorem zuq:∀(w n:Nat),n+w<9223372036854775808+w->n+lz w<=1152921504606846976->zdb w n=some ((n+lz w:Nat):Int):=by
 intro w
 induction w using Nat.strongRecOn with
 | _ w ih=>
  intro n hn hl;by_cases h:w=0
  ·subst h;refine zkW ?_;unfold zcA;rw [itF (by simp)];rfl
  ·have e:=zxH h;refine (zkV (wv2':=((w/128:Nat):Int)) (n':=((n+1:Nat):Int)) ?_).trans ?_
   ·unfold zcA;rw [pd,zxd,pg];rfl
   ·rw [ih (w/128) (by omega) (n+1) (by omega) (by omega)];congr 2;omega
theorem zxC {v:Nat} (h:v<18446744073709551616):zhf (v:Int)=some ((lenN v:Nat):Int):=by
 unfold zhf;have h1:=zxG v;have h2:=zup h;have h3:=zuq (v/128) 1 (by omega) (by omega);have h3':zdb ((v/128:Nat):Int) 1=some ((1+lz (v/128):Nat):Int):=h3;rw [zxd,h3',sb,h1]
theorem zfc (a b:List UInt8):zav a b=some (a==b):=rfl
def zcZ (n w:Int):Bool:=decide (1<=n/\n<=536870911/\(w=0\/w=1\/w=2\/w=5))
def tgR (r:Int×Int×Int):Int×Int×Int×Int:=
 if r.2.2≠0 then (0,0,0,r.2.2) else if 4294967295<r.1\/zcZ (r.1/8) (r.1%8)=false then (0,0,0,5) else (r.1/8,r.1%8,r.2.1,0)
def tg (l:List UInt8):Int×Int×Int×Int:=tgR (rd l)
theorem zrv :zcZ n w=true↔1<=n/\n<=536870911/\(w=0\/w=1\/w=2\/w=5):=by simp [zcZ]
theorem zfZ (l:List UInt8):0<=(rd l).1/\(rd l).1<18446744073709551616/\0<=(rd l).2.1/\(rd l).2.1<=10/\(rd l).2.1<=l.length/\((rd l).2.2=0\/(rd l).2.2=3\/(rd l).2.2=4)/\((rd l).2.2=0->1<=(rd l).2.1):=by
 rcases zjF l with h| ⟨h,_⟩| ⟨x,c,y,e,_,_,hl,hv,h⟩
 ·rw [h];simp
 ·rw [h];simp
 ·have:l.length=x.length+1+y.length:=by rw [e];simp;omega
  rw [h];refine ⟨?_,?_,?_,?_,?_,.inl rfl,fun _=>?_⟩<;>simp only<;>omega
theorem zxc (x:List UInt8) (c:UInt8) (y:List UInt8) (hx:∀z∈x,128<=z.toNat) (hc:c.toNat<128) (hl:x.length<=9) (hv:hor (x++[c])<18446744073709551616):
  rd (x++c::y)=(((hor (x++[c]):Nat):Int),((x.length+1:Nat):Int),0):=by
 have key:∀(x:List UInt8) (z:List UInt8) (i uy:Nat),(∀z∈x,128<=z.toNat)->i+x.length<=9->uy+hor (x++[c])*128^i<18446744073709551616->scan i uy (x++c::z)= .inr (((uy+hor (x++[c])*128^i:Nat):Int),((i+x.length+1:Nat):Int),0):=by
  intro x
  induction x with
  | nil=>
   intro z i uy _ hi hv;have e1:hor ([]++[c])=c.toNat:=by simp [hor];omega
   rw [e1] at hv|-;rw [xQ,scan,xc,xd hc,qt hc]
   ·rfl
   ·rintro ⟨rfl,h2⟩;have:=ya (128^9) (show 2<=c.toNat by omega);omega
  | cons d x ih=>
   intro z i uy hx hi hv;simp only [xw] at hi;have hd:=hx d xe;have e5:uy+hor ((d::x)++[c])*128^i=uy+d.toNat%128*128^i+hor (x++[c])*128^(i+1):=by
    rw [xK,hor,yE,Nat.add_mul,yD (128^i) 128,<-yV,yD (hor (x++[c])) 128];omega
   rw [e5] at hv|-;rw [xK,scan,xc (by omega),xc (by omega),ih z (i+1) _ (fun z hz=>hx z (xf _ hz)) (by omega) hv,xw];congr 3;omega
 unfold rd;have e2:(x++c::y).take 10=x++c::y.take (9 - x.length):=by
  rw [List.take_append,qb (by omega),show 10 - x.length=(9 - x.length)+1 by omega,yF]
 rw [e2,key x _ 0 0 hx (by omega) (by simpa using hv)];simp [rdR]
theorem zkq (l m:List UInt8) (h:(rd l).2.2=0):rd (l++m)=rd l:=by
 rcases zjF l with h'| ⟨h',_⟩| ⟨x,c,y,e,hx,hc,hl,hv,h'⟩
 ·rw [h'] at h;cases h
 ·rw [h'] at h;cases h
 ·rw [h',e,qc,xK,zxc x c _ hx hc hl hv]
theorem ztq (l m:List UInt8) (h:(rd l).2.2=0):tg (l++m)=tg l:=by unfold tg;rw [zkq l m h]
theorem zsz (h:r.2.2≠0):tgR r=(0,0,0,r.2.2):=xd h
theorem zmO (h:r.2.2=0) (h2:4294967295<r.1\/zcZ (r.1/8) (r.1%8)=false):tgR r=(0,0,0,5):=by unfold tgR;rw [xc (by simp [h]),xd h2]
theorem zvf (h:r.2.2=0) (h2:¬(4294967295<r.1\/zcZ (r.1/8) (r.1%8)=false)):tgR r=(r.1/8,r.1%8,r.2.1,0):=by unfold tgR;rw [xc (by simp [h]),xc h2]
theorem zqp (l:List UInt8):(∃c,tg l=(0,0,0,c)/\(c=3\/c=4\/c=5))\/∃n w k,tg l=(n,w,k,0)/\zcZ n w=true/\1<=k/\k<=10/\k<=l.length/\rd l=(8*n+w,k,0):=by
 obtain ⟨h1,h2,h3,h4,h5,h6,h7⟩:=zfZ l;unfold tg;by_cases h:(rd l).2.2=0
 ·by_cases hg:4294967295<(rd l).1\/zcZ ((rd l).1/8) ((rd l).1%8)=false
  ·exact .inl ⟨5,zmO h hg,by omega⟩
  ·refine .inr ⟨_,_,_,zvf h hg,?_,h7 h,h4,h5,?_⟩
   ·cases ht:zcZ ((rd l).1/8) ((rd l).1%8)
    ·exact absurd (.inr ht) hg
    ·rfl
   ·refine Prod.ext ?_ (Prod.ext rfl h);simp only;omega
 ·exact .inl ⟨_,zsz h,by omega⟩
abbrev Rec:=zi
def zeP (w:Int) (k:Nat) (m:List UInt8):Int⊕(Nat×Nat):=
 if w=0 then (if (rd m).2.2≠0 then .inl (rd m).2.2 else .inr (k,k+(rd m).2.1.toNat))
 else if w=2 then (if (rd m).2.2≠0 then .inl (rd m).2.2 else if (m.length:Int) - (rd m).2.1<(rd m).1 then .inl 3 else .inr (k+(rd m).2.1.toNat,k+(rd m).2.1.toNat+(rd m).1.toNat))
 else if m.length<(if w=5 then 4 else 8) then .inl 3 else .inr (k,k+(if w=5 then 4 else 8))
def rec5 (l:List UInt8):Int⊕(Int×Int×Nat×Nat):=
 if (tg l).2.2.2≠0 then .inl (tg l).2.2.2 else match zeP (tg l).2.1 (tg l).2.2.1.toNat (l.drop (tg l).2.2.1.toNat) with
  | .inl c=> .inl c
  | .inr p=> .inr ((tg l).1,(tg l).2.1,p.1,p.2)
theorem zkA (w:Int) (k:Nat) (m:List UInt8):(∃c,zeP w k m= .inl c/\(c=3\/c=4))\/
  ∃a t,zeP w k m= .inr (a,t)/\k<=a/\a<=t/\t<=k+m.length/\
   (w=0/\a=k/\(rd m).2.2=0/\((t - k:Nat):Int)=(rd m).2.1/\k<t\/w=2/\(rd m).2.2=0/\((a - k:Nat):Int)=(rd m).2.1/\((t - a:Nat):Int)=(rd m).1\/w≠0/\w≠2/\a=k/\t=k+(if w=5 then 4 else 8)):=by
 obtain ⟨h1,h2,h3,h4,h5,h6,h7⟩:=zfZ m;unfold zeP;by_cases w0:w=0
 ·rw [xd w0];by_cases h:(rd m).2.2=0
  ·have:=h7 h;rw [xc (by simpa using h)];exact .inr ⟨_,_,rfl,xh _,by omega,by omega,.inl ⟨w0,rfl,h,by omega,by omega⟩⟩
  ·rw [xd h];exact .inl ⟨_,rfl,by omega⟩
 ·rw [xc w0];by_cases w2:w=2
  ·rw [xd w2];by_cases h:(rd m).2.2=0
   ·rw [xc (by simpa using h)];by_cases h8:(m.length:Int) - (rd m).2.1<(rd m).1
    ·rw [xd h8];exact .inl ⟨_,rfl,by omega⟩
    ·rw [xc h8];exact .inr ⟨_,_,rfl,by omega,by omega,by omega,.inr (.inl ⟨w2,h,by omega,by omega⟩)⟩
   ·rw [xd h];exact .inl ⟨_,rfl,by omega⟩
  ·rw [xc w2];by_cases h8:m.length<(if w=5 then 4 else 8)
   ·rw [xd h8];exact .inl ⟨_,rfl,by omega⟩
   ·rw [xc h8];exact .inr ⟨_,_,rfl,xh _,by omega,by omega,.inr (.inr ⟨w0,w2,rfl,rfl⟩)⟩
theorem zoz (w:Int) (k:Nat) (m z:List UInt8) (h:zeP w k m= .inr p):zeP w k (m++z)= .inr p:=by
 unfold zeP at h|-;by_cases w0:w=0
 ·rw [xd w0] at h|-;by_cases h0:(rd m).2.2=0
  ·rw [zkq m z h0];exact h
  ·rw [xd h0] at h;cases h
 ·rw [xc w0] at h|-;by_cases w2:w=2
  ·rw [xd w2] at h|-;by_cases h0:(rd m).2.2=0
   ·rw [zkq m z h0];rw [xc (by simpa using h0)] at h|-;by_cases h8:(m.length:Int) - (rd m).2.1<(rd m).1
    ·rw [xd h8] at h;cases h
    ·rw [xc h8] at h;rw [xc (by simp only [xz];omega)];exact h
   ·rw [xd h0] at h;cases h
  ·rw [xc w2] at h|-;by_cases h8:m.length<(if w=5 then 4 else 8)
   ·rw [xd h8] at h;cases h
   ·rw [xc h8] at h;rw [xc (by simp only [xz];omega)];exact h
theorem ziR (l:List UInt8):(∃c,rec5 l= .inl c/\(c=3\/c=4\/c=5))\/
  ∃(n w:Int) (k a t:Nat),rec5 l= .inr (n,w,a,t)/\tg l=(n,w,(k:Int),0)/\zcZ n w=true/\zeP w k (l.drop k)= .inr (a,t)/\1<=k/\k<=l.length/\k<=a/\a<=t/\t<=l.length/\rd l=(8*n+w,(k:Int),0):=by
 rcases zqp l with ⟨c,h,hc⟩| ⟨n,w,k,h,hr,k1,k2,k3,hrd⟩
 ·refine .inl ⟨c,?_,hc⟩;unfold rec5;rw [h,xd (by simp only;omega)]
 ·obtain ⟨k,rfl⟩:∃j:Nat,k=j:=⟨k.toNat,by omega⟩
  have e:rec5 l=match zeP w k (l.drop k) with
   | .inl c=> .inl c
   | .inr p=> .inr (n,w,p.1,p.2):=by unfold rec5;rw [h];simp
  rcases zkA w k (l.drop k) with ⟨c,h2,hc⟩| ⟨a,t,h2,g1,g2,g3,_⟩
  ·exact .inl ⟨c,by rw [e,h2],by omega⟩
  ·simp only [xG] at g3;exact .inr ⟨n,w,k,a,t,by rw [e,h2],h,hr,h2,by omega,by omega,g1,g2,by omega,hrd⟩
theorem zqg (l z:List UInt8) (h:rec5 l= .inr r):rec5 (l++z)= .inr r:=by
 rcases ziR l with ⟨c,h',_⟩| ⟨n,w,k,a,t,h',htg,_,hb,_,hk,_,_,_,hrd⟩
 ·rw [h'] at h;cases h
 ·rw [h'] at h;have e:tg (l++z)=(n,w,(k:Int),0):=by rw [ztq l z (by rw [hrd]),htg]
  unfold rec5;rw [e];simp only [ne_eq,yd,xP,xB];rw [qY hk,zoz _ _ _ _ hb];exact h
def zrec:Rec:=⟨0,0,0,0,0⟩
def zci (b:List UInt8) (at5:Int):Rec×Int:=if at5<0\/at5>=b.length then (zrec,2) else match rec5 (b.drop at5.toNat) with
 | .inl c=>(zrec,c)
 | .inr (n,w,a,t)=>(⟨n,w,at5,at5+a,at5+t⟩,0)
def spl (base:Nat) (l:List UInt8):List Rec×Option (Nat×Int):=
 if hl:l=[] then ([],none) else match h:rec5 l with
  | .inl c=>([],some (base,c))
  | .inr (n,w,a,t)=>(⟨n,w,base,(base+a:Nat),(base+t:Nat)⟩::(spl (base+t) (l.drop t)).1,(spl (base+t) (l.drop t)).2)
termination_by l.length
decreasing_by
 all_goals
  rcases ziR l with ⟨c',h',_⟩| ⟨n',w',k',a',t',h',_,_,_,g1,g2,g3,g4,g5,_⟩
  ·rw [h'] at h;cases h
  ·rw [h'] at h;cases h;simp only [xG];omega
theorem zcM (base:Nat):spl base []=([],none):=by rw [spl,dif_pos rfl]
theorem zeE (hl:l≠[]) (h:rec5 l= .inl c):spl base l=([],some (base,c)):=by
 rw [spl,dif_neg hl];split
 ·rename_i c' h';rw [h] at h';cases h';rfl
 ·rename_i h';rw [h] at h';cases h'
theorem zbS (hl:l≠[]) (h:rec5 l= .inr (n,w,a,t)):
  spl base l=(⟨n,w,base,(base+a:Nat),(base+t:Nat)⟩::(spl (base+t) (l.drop t)).1,(spl (base+t) (l.drop t)).2):=by
 rw [spl,dif_neg hl];split
 ·rename_i c' h';rw [h] at h';cases h'
 ·rename_i n' w' a' t' h';rw [h] at h';cases h';rfl
theorem zfv (P:Nat->List UInt8->Prop) (h0:∀base,P base []) (he:∀base l c,l≠[]->rec5 l= .inl c->(c=3\/c=4\/c=5)->P base l)
  (hc:∀base l (n w:Int) (a t:Nat),l≠[]->rec5 l= .inr (n,w,a,t)->zcZ n w=true->1<=a->a<=t->t<=l.length->P (base+t) (l.drop t)->P base l) (base:Nat) (l:List UInt8):P base l:=by
 generalize hn:l.length=m
 induction m using Nat.strongRecOn generalizing base l with
 | _ m ih=>
  by_cases hl:l=[]
  ·subst hl;exact h0 base
  ·rcases ziR l with ⟨c,h,hc'⟩| ⟨n,w,k,a,t,h,_,hr,_,g1,g2,g3,g4,g5,_⟩
   ·exact he base l c hl h hc'
   ·exact hc base l n w a t hl h hr (by omega) g4 g5 (ih _ (by simp only [xG];omega) _ _ rfl)
theorem zwv (base:Nat) (l:List UInt8):(spl base l).1.length<=l.length:=by
 refine zfv (fun base l=>(spl base l).1.length<=l.length) ?_ ?_ ?_ base l
 ·intro base;rw [zcM];simp
 ·intro base l c hl h _;rw [zeE hl h];simp
 ·intro base l n w a t hl h _ g1 g2 g3 ih;rw [zbS hl h];simp only [xw,xG] at ih|-;omega
theorem zuX (base:Nat) (l:List UInt8):∀p c,(spl base l).2=some (p,c)->(c=3\/c=4\/c=5)/\base<=p/\p<base+l.length:=by
 refine zfv (fun base l=>∀p c,(spl base l).2=some (p,c)->(c=3\/c=4\/c=5)/\base<=p/\p<base+l.length) ?_ ?_ ?_ base l
 ·intro base p c h;rw [zcM] at h;cases h
 ·intro base l c' hl h hc p c h2;rw [zeE hl h] at h2;cases h2;have:0<l.length:=yq.2 hl;exact ⟨hc,by omega,by omega⟩
 ·intro base l n w a t hl h _ g1 g2 g3 ih p c h2;rw [zbS hl h] at h2;have:=ih p c h2;simp only [xG] at this;omega
def zfd (d:Nat) (r:Rec):Rec:=⟨r.Number,r.Wire,r.From+d,r.At+d,r.To+d⟩
theorem zif (d:Nat) (base:Nat) (l:List UInt8):spl (base+d) l=((spl base l).1.map (zfd d),(spl base l).2.map fun p=>(p.1+d,p.2)):=by
 refine zfv (fun base l=>spl (base+d) l=((spl base l).1.map (zfd d),(spl base l).2.map fun p=>(p.1+d,p.2))) ?_ ?_ ?_ base l
 ·intro base;rw [zcM,zcM];rfl
 ·intro base l c hl h _;rw [zeE hl h,zeE hl h];rfl
 ·intro base l n w a t hl h _ g1 g2 g3 ih;rw [zbS hl h,zbS hl h,show base+d+t=base+t+d by omega,ih];simp only [xF,zfd,xO,yC,zi.mk.injEq,true_and,and_true];push_cast;omega
theorem zff (m:List UInt8) (base:Nat) (l:List UInt8):(spl base l).2=none->spl base (l++m)=((spl base l).1++(spl (base+l.length) m).1,(spl (base+l.length) m).2):=by
 refine zfv (fun base l=>(spl base l).2=none->spl base (l++m)=((spl base l).1++(spl (base+l.length) m).1,(spl (base+l.length) m).2)) ?_ ?_ ?_ base l
 ·intro base _;rw [zcM];simp
 ·intro base l c hl h _ h2;rw [zeE hl h] at h2;cases h2
 ·intro base l n w a t hl h _ g1 g2 g3 ih h2;rw [zbS hl h] at h2|-;rw [zbS (by simp [hl]) (zqg l m h),qY g3,ih h2];simp only [xG,xK,show base+t+(l.length - t)=base+l.length by omega]
def znx (w:Int) (v:List UInt8):Bool:=
 if w=0 then decide ((rd v).2.2=0/\(rd v).2.1=v.length) else decide (w=2\/w=1/\v.length=8\/w=5/\v.length=4)
def rawW (k:Int) (b:List UInt8):Int:=if zdu k=0 then (rd b).1 else (word (b.take 8):Nat)
def zrr (k:Int) (c:Nat):List UInt8:=if 12<=k then zme 8 c else if 9<=k then zme 4 c else enc c
def sPut (k w:Int):List UInt8:=zrr k (zds k w).toNat
theorem zmb :kNum k=true↔1<=k/\k<=14:=by simp [kNum]
def zhL (k:Int) (l:List UInt8):Int⊕Nat:=
 if k<9 then (if (rd l).2.2≠0 then .inl (rd l).2.2 else .inr (rd l).2.1.toNat) else if l.length<(if k<12 then 4 else 8) then .inl 3 else .inr (if k<12 then 4 else 8)
theorem zhM (k:Int) (l:List UInt8):(∃c,zhL k l= .inl c/\(c=3\/c=4))\/∃n,zhL k l= .inr n/\1<=n/\n<=l.length/\n<=10/\(k<9/\(rd l).2.2=0/\(rd l).2.1=(n:Int)\/¬k<9/\n=(if k<12 then 4 else 8)):=by
 obtain ⟨h1,h2,h3,h4,h5,h6,h7⟩:=zfZ l;unfold zhL;by_cases h:k<9
 ·rw [xd h];by_cases h0:(rd l).2.2=0
  ·have:=h7 h0;rw [xc (by simpa using h0)];exact .inr ⟨_,rfl,by omega,by omega,by omega,.inl ⟨h,h0,by omega⟩⟩
  ·rw [xd h0];exact .inl ⟨_,rfl,by omega⟩
 ·rw [xc h];by_cases h8:l.length<(if k<12 then 4 else 8)
  ·rw [xd h8];exact .inl ⟨_,rfl,by omega⟩
  ·rw [xc h8];exact .inr ⟨_,rfl,by split<;>omega,by omega,by split<;>omega,.inr ⟨h,rfl⟩⟩
def pcs (k:Int) (l:List UInt8):List (List UInt8)×Int:=
 if hl:l=[] then ([],0) else match h:zhL k l with
  | .inl c=>([],c)
  | .inr n=>(l.take n::(pcs k (l.drop n)).1,(pcs k (l.drop n)).2)
termination_by l.length
decreasing_by
 all_goals
  rcases zhM k l with ⟨c',h',_⟩| ⟨n',h',g1,g2,_⟩
  ·rw [h'] at h;cases h
  ·rw [h'] at h;cases h;simp only [xG];omega
theorem zlt (k:Int):pcs k []=([],0):=by rw [pcs,dif_pos rfl]
theorem zlr (hl:l≠[]) (h:zhL k l= .inl c):pcs k l=([],c):=by
 rw [pcs,dif_neg hl];split
 ·rename_i c' h';rw [h] at h';cases h';rfl
 ·rename_i h';rw [h] at h';cases h'
theorem zjD (hl:l≠[]) (h:zhL k l= .inr n):pcs k l=(l.take n::(pcs k (l.drop n)).1,(pcs k (l.drop n)).2):=by
 rw [pcs,dif_neg hl];split
 ·rename_i c' h';rw [h] at h';cases h'
 ·rename_i n' h';rw [h] at h';cases h';rfl
theorem zls (k:Int) (P:List UInt8->Prop) (h0:P []) (he:∀l c,l≠[]->zhL k l= .inl c->(c=3\/c=4)->P l)
  (hc:∀l n,l≠[]->zhL k l= .inr n->1<=n->n<=l.length->n<=10->P (l.drop n)->P l) (l:List UInt8):P l:=by
 generalize hn:l.length=m
 induction m using Nat.strongRecOn generalizing l with
 | _ m ih=>
  by_cases hl:l=[]
  ·subst hl;exact h0
  ·rcases zhM k l with ⟨c,h,hc'⟩| ⟨n,h,g1,g2,g3,_⟩
   ·exact he l c hl h hc'
   ·exact hc l n hl h g1 g2 g3 (ih _ (by simp only [xG];omega) _ rfl)
theorem zqc (k:Int) (l:List UInt8):(pcs k l).2=0\/(pcs k l).2=3\/(pcs k l).2=4:=by
 refine zls k (fun l=>(pcs k l).2=0\/(pcs k l).2=3\/(pcs k l).2=4) ?_ ?_ ?_ l
 ·rw [zlt];exact .inl rfl
 ·intro l c hl h hc;rw [zlr hl h];exact .inr hc
 ·intro l n hl h _ _ _ ih;rw [zjD hl h];exact ih
theorem zwm (k:Int) (l:List UInt8):(pcs k l).1.length<=l.length:=by
 refine zls k (fun l=>(pcs k l).1.length<=l.length) ?_ ?_ ?_ l
 ·rw [zlt];simp
 ·intro l c hl h _;rw [zlr hl h];simp
 ·intro l n hl h _ _ _ ih;rw [zjD hl h];simp only [xw,xG] at ih|-;have:=yq.2 hl;omega
theorem zrz (hk:kNum k=true) (h:zhL k l= .inr n):znx (zdu k) (l.take n)=true:=by
 have hk':=zmb.1 hk;rcases zhM k l with ⟨c,h',_⟩| ⟨n',h',g1,g2,g3,hcase⟩
 ·rw [h'] at h;cases h
 ·rw [h'] at h;cases h;have uA:(l.take n).length=n:=by simp;omega
  unfold znx;rcases hcase with ⟨h9,f1,f2⟩| ⟨h9,f1⟩
  ·have e:zdu k=0:=by unfold zdu;rw [xc (by omega),xc (by omega),xc (by omega)]
   rw [xd e];rcases zjF l with h6| ⟨h6,_⟩| ⟨x,c,y,e,hx,hc,hl,hv,h6⟩
   ·rw [h6] at f1;cases f1
   ·rw [h6] at f1;cases f1
   ·rw [h6] at f2;have e7:n=(x++[c]).length:=by simp at f2|-;omega
    have e8:l.take n=x++c::[]:=by rw [e7,e,List.append_cons x c y,List.take_left]
    rw [e8,zxc x c [] hx hc hl hv];simp
  ·have h12:zdu k=1/\12<=k\/zdu k=5/\k<12:=by
    unfold zdu;rw [xc (by omega)];by_cases hh:12<=k
    ·rw [xd hh];exact .inl ⟨rfl,hh⟩
    ·rw [xc hh,xd (by omega)];exact .inr ⟨rfl,by omega⟩
   rw [xc (by omega),uA,f1];refine xR ?_;rcases h12 with ⟨e,hh⟩| ⟨e,hh⟩
   ·rw [e,xc (by omega)];right;left;exact ⟨rfl,rfl⟩
   ·rw [e,xd hh];right;right;exact ⟨rfl,rfl⟩
theorem zuI (hk:kNum k=true) (l:List UInt8):∀p∈(pcs k l).1,znx (zdu k) p=true/\1<=p.length/\p.length<=10:=by
 refine zls k (fun l=>∀p∈(pcs k l).1,znx (zdu k) p=true/\1<=p.length/\p.length<=10) ?_ ?_ ?_ l
 ·rw [zlt];intro p hp;cases hp
 ·intro l c hl h _;rw [zlr hl h];intro p hp;cases hp
 ·intro l n hl h g1 g2 g3 ih;rw [zjD hl h];intro p hp;cases hp with
  | head=>exact ⟨zrz hk h,by simp;omega,by simp;omega⟩
  | tail _ hp=>exact ih p hp
def zvr (k:Int) (p:List UInt8):Int:=zds k (rawW k p)
def ends (base:Nat):List (List UInt8)->List Int
 | []=>[]
 | p::ps=>((base+p.length:Nat):Int)::ends (base+p.length) ps
def ziq (k:Int) (b:List UInt8):List Int×Int:=if kNum k=false then ([],2) else if (pcs k b).2=0 then (ends 0 (pcs k b).1,0) else ([],(pcs k b).2)
def zcR (k:Int) (b:List UInt8):List Int×Int:=if kNum k=false then ([],2) else if (pcs k b).2=0 then ((pcs k b).1.map (zvr k),0) else ([],(pcs k b).2)
abbrev Vw:=zmZ
def zvw:Vw:=⟨zrec,0,false⟩
def zU (m:Mes) (i:Int):Fld:=m.Fields.getD i.toNat ⟨[],0,0,false,false,0⟩
def vw (m:Mes) (n w:Int):Int⊕(Int×Bool):=
 if fldI m n<0 then .inr (-1,false)
 else if (zU m (fldI m n)).Repeated=true/\kNum (zU m (fldI m n)).Kind=true/\w=2 then .inr (fldI m n,true)
 else if zbL (zU m (fldI m n)).Kind=false\/zdu (zU m (fldI m n)).Kind≠w then .inl 6 else .inr (fldI m n,false)
theorem ziH (m:Mes) (n:Int):fldI m n= -1/\(∀f∈m.Fields,f.Number≠n)\/∃(i:Nat) (h:i<m.Fields.length),fldI m n=i/\m.Fields[i].Number=n/\∀(j:Nat) (h:j<m.Fields.length),j<i->m.Fields[j].Number≠n:=by
 unfold fldI;cases h:m.Fields.findIdx? (fun f:Fld=>f.Number==n) with
 | none=>
  left;rw [qj] at h;exact ⟨zkD (qj.2 h),fun f hf=>by simpa using h f hf⟩
 | some i=>
  right;have h':=h;rw [qN] at h;obtain ⟨hi,hp,hj⟩:=h;exact ⟨i,hi,zkE h',by simpa using hp,fun j hjl hji=>by simpa using hj j hji⟩
theorem zjl {m:Mes} {i:Nat} (h:i<m.Fields.length):zU m (i:Int)=m.Fields[i]:=by
 unfold zU;rw [xB,qP,xr h];rfl
theorem zcV (m:Mes) (n w:Int):vw m n w= .inl 6\/vw m n w= .inr (-1,false)/\fldI m n= -1\/∃(i:Nat) (run:Bool),vw m n w= .inr ((i:Int),run)/\fldI m n=i/\i<m.Fields.length:=by
 unfold vw;rcases ziH m n with ⟨h,_⟩| ⟨i,hi,h,_⟩
 ·right;left;rw [h,xd (by omega)];exact ⟨rfl,rfl⟩
 ·rw [h,xc (by omega)];split
  ·right;right;exact ⟨i,true,rfl,rfl,hi⟩
  ·split
   ·left;rfl
   ·right;right;exact ⟨i,false,rfl,rfl,hi⟩
def zbD (m:Mes) (b:List UInt8) (at5:Int):Vw×Int:=
 if (zci b at5).2≠0 then (zvw,(zci b at5).2) else match vw m (zci b at5).1.Number (zci b at5).1.Wire with
  | .inl c=>(zvw,c)
  | .inr (i,run)=>(⟨(zci b at5).1,i,run⟩,0)
def vws (m:Mes) (e:Option (Nat×Int)):List Rec->List Vw×Option (Int×Int)
 | []=>([],e.map fun p=>((p.1:Int),p.2))
 | r::l=>match vw m r.Number r.Wire with
  | .inl c=>([],some (r.From,c))
  | .inr (i,run)=>(⟨r,i,run⟩::(vws m e l).1,(vws m e l).2)
def vwR (r:List Vw×Option (Int×Int)):List Vw×Int×Int:=match r.2 with
 | none=>(r.1,0,0)
 | some (p,c)=>([],p,c)
def zau (m:Mes) (b:List UInt8):List Vw×Int×Int:=vwR (vws m (spl 0 b).2 (spl 0 b).1)
def zw (s:List Mes) (i:Int):Mes:=s.getD i.toNat ⟨[],[]⟩
theorem zem {s:List Mes} {i:Nat} (h:i<s.length):zw s (i:Int)=s[i]:=by
 unfold zw;rw [xB,qP,xr h];rfl
def valB (b:List UInt8) (r:Rec):List UInt8:=(b.drop r.At.toNat).take (r.To.toNat - r.At.toNat)
abbrev zfK:=Option (Int->List UInt8->Option (Int×Int))
def zhs (f:Fld) (run:Bool) (sub:zfK) (r:Rec) (v:List UInt8):Option (Int×Int):=
 if run=true then (if (ziq f.Kind v).2≠0 then some (r.From,(ziq f.Kind v).2) else none)
 else if f.Kind=15/\zhG v=false then some (r.From,7)
 else if f.Kind=17 then (match sub with
  | none=>some (r.From,8)
  | some g=>match g f.Of v with
   | some (p,c)=>some (r.At+p,c)
   | none=>none)
 else none
def zaO (m:Mes) (sub:zfK) (b:List UInt8) (r:Rec):Option (Int×Int):=match vw m r.Number r.Wire with
 | .inl c=>some (r.From,c)
 | .inr (i,run)=>if i<0 then none else zhs (zU m i) run sub r (valB b r)
def zaE (m:Mes) (sub:zfK) (b:List UInt8) (x:List Rec×Option (Nat×Int)):Option (Int×Int):=match x.1.findSome? (zaO m sub b) with
 | some p=>some p
 | none=>x.2.map fun p=>((p.1:Int),p.2)
def zF (s:List Mes):Nat->Int->List UInt8->Option (Int×Int)
 | 0,k,b=>zaE (zw s k) none b (spl 0 b)
 | d+1,k,b=>zaE (zw s k) (some (zF s d)) b (spl 0 b)
def zlA (g:Int->List UInt8->Option (Int×Int)):Prop:=∀k v p c,g k v=some (p,c)->3<=c/\c<=8/\0<=p/\p<v.length
theorem zsI (k:Int) :(ziq k b).2=0\/(ziq k b).2=2/\kNum k=false\/(ziq k b).2=3\/(ziq k b).2=4:=by
 unfold ziq
 grind [zqc]
theorem zvm (h:vw m n w= .inr (i,true)):kNum (zU m i).Kind=true/\(zU m i).Repeated=true/\w=2:=by
 unfold vw at h
 grind
theorem zvj (hr:r.At=((base+a:Nat):Int)) (ht:r.To=((base+t:Nat):Int)) (h:base+t<=b.length) (hat:a<=t):(valB b r).length=t - a:=by
 unfold valB;rw [hr,ht];simp;omega
theorem zof {m:Mes} {sub:zfK} {b:List UInt8} (hg:∀g,sub=some g->zlA g) {n w:Int} {base a t:Nat} (h1:1<=a) (hat:a<=t) (ht:base+t<=b.length) {p c:Int}
  (h:zaO m sub b ⟨n,w,base,(base+a:Nat),(base+t:Nat)⟩=some (p,c)):3<=c/\c<=8/\0<=p/\p<b.length:=by
 unfold zaO at h;rcases zcV m n w with hv| ⟨hv,_⟩| ⟨i,run,hv,_,hi⟩
 ·grind
 ·grind
 ·simp only [hv] at h;rw [xc (by omega)] at h;unfold zhs at h;split at h
  ·grind [zvm,zsI]
  ·split at h
   ·grind
   ·split at h
    ·cases sub with
     | none=>simp only at h;cases h;(try dsimp only);omega
     | some g=>
      simp only at h;have hl:=zvj (b:=b) (r:=⟨n,w,base,(base+a:Nat),(base+t:Nat)⟩) rfl rfl ht hat;cases hgv:g (zU m i).Of (valB b ⟨n,w,base,(base+a:Nat),(base+t:Nat)⟩) with
      | none=>rw [hgv] at h;cases h
      | some q=>
       obtain ⟨q1,q2⟩:=q;rw [hgv] at h;have:=hg g rfl _ _ _ _ hgv
       grind
    ·cases h
theorem znC {m:Mes} {sub:zfK} {b:List UInt8} (hg:∀g,sub=some g->zlA g) (base:Nat) (l:List UInt8):l=b.drop base->base<=b.length->∀p c,zaE m sub b (spl base l)=some (p,c)->3<=c/\c<=8/\0<=p/\p<b.length:=by
 refine zfv (fun base l=>l=b.drop base->base<=b.length->∀p c,zaE m sub b (spl base l)=some (p,c)->3<=c/\c<=8/\0<=p/\p<b.length) ?_ ?_ ?_ base l
 ·grind [zaE,zcM]
 ·intro base l c' hl h hc hld hb p c h2;have hlt:base<b.length:=by subst hld;have:=yq.2 hl;simp at this;omega
  unfold zaE at h2;rw [zeE hl h] at h2
  grind
 ·intro base l n w a t hl h _ g1 g2 g3 ih hld hb p c h2;have hbl:base+t<=b.length:=by subst hld;simp at g3;omega
  unfold zaE at h2 ih;rw [zbS hl h] at h2;simp only [List.findSome?_cons] at h2;cases hs:zaO m sub b ⟨n,w,base,(base+a:Nat),(base+t:Nat)⟩ with
  | some q=>rw [hs] at h2;cases h2;exact zof hg g1 g2 hbl hs
  | none=>
   simp_all
theorem zcY (s:List Mes):∀(d:Nat),zlA (zF s d)
 | 0=>fun k v p c h=>znC (fun g hg=>by cases hg) 0 v rfl (xq _) p c h
 | d+1=>fun k v p c h=>znC (fun g hg=>by cases hg;exact zcY s d) 0 v rfl (xq _) p c h
def argS (s:List Mes) (root d:Int):Int:=if zmD s=false then 9 else if root<0\/root>=s.length\/d<0\/d>64 then 2 else 0
def zW (s:List Mes) (root:Int) (b:List UInt8) (d:Int):Int×Int:=if argS s root d≠0 then (0,argS s root d) else (zF s d.toNat root b).getD (0,0)
theorem zjX (h:argS s root d=0):zot s/\0<=root/\root<s.length/\0<=d/\d<=64:=by
 unfold argS at h
 grind [ztk]
def is11 (s:List Mes) (root:Int) (b:List UInt8) (d:Int):Bool:=(zW s root b d).2==0
theorem zaW :zaE m sub b x=none↔(∀r∈x.1,zaO m sub b r=none)/\x.2=none:=by
 unfold zaE;cases h:x.1.findSome? (zaO m sub b) with
 | some p=>
  grind
 | none=>
  rw [qQ] at h;cases hx:x.2 with
  | none=>exact ⟨fun _=>⟨h,rfl⟩,fun _=>rfl⟩
  | some p=>exact ⟨(fun h'=>nomatch h'),fun ⟨_,h2⟩=>nomatch h2⟩
theorem zfx (z:List UInt8) (h0:0<=r.To) (h:r.To<=b.length):valB (b++z) r=valB b r:=by
 unfold valB;by_cases ha:r.At.toNat<=b.length
 ·grind
 ·have e:r.To.toNat - r.At.toNat=0:=by omega
  grind
theorem ziY (a b:List UInt8) (h0:0<=r.At) (h1:r.At<=r.To):valB (a++b) (zfd a.length r)=valB b r:=by
 unfold valB zfd;simp only;have e1:(r.At+(a.length:Int)).toNat=a.length+r.At.toNat:=by omega
 have e2:(r.To+(a.length:Int)).toNat - (a.length+r.At.toNat)=r.To.toNat - r.At.toNat:=by omega
 simp_all
theorem zhJ (hn:r'.Number=r.Number) (hw:r'.Wire=r.Wire) (hv:valB b' r'=valB b r):zaO m sub b' r'=none↔zaO m sub b r=none:=by
 unfold zaO;rw [hn,hw,hv];cases vw m r.Number r.Wire with
 | inl c=>simp
 | inr p=>
  simp only;by_cases hi:p.1<0
  ·simp [hi]
  ·rw [xc hi,xc hi];unfold zhs
   grind
theorem zgI (base:Nat) (l:List UInt8):∀r∈(spl base l).1,(base:Int)<=r.From/\r.From<r.At/\r.At<=r.To/\r.To<=base+l.length:=by
 refine zfv (fun base l=>∀r∈(spl base l).1,(base:Int)<=r.From/\r.From<r.At/\r.At<=r.To/\r.To<=base+l.length) ?_ ?_ ?_ base l
 ·intro base r hr;rw [zcM] at hr;cases hr
 ·intro base l c hl h _ r hr;rw [zeE hl h] at hr;cases hr
 ·intro base l n w a t hl h _ g1 g2 g3 ih r hr;rw [zbS hl h] at hr
  grind
theorem zkG (z:List UInt8) (h:zaE m sub a (spl 0 a)=none):zaE m sub (a++z) (spl 0 (a++z))=none↔zaE m sub z (spl 0 z)=none:=by
 rw [zaW] at h;have hap:=zff z 0 a h.2;have hsh:=zif a.length 0 z;rw [xJ] at hap hsh;rw [hsh] at hap;rw [zaW,zaW,hap];simp only [xk,xp];constructor
 ·rintro ⟨h1,h2⟩;refine ⟨fun r hr=>?_,by cases hz:(spl 0 z).2 with| none=>rfl| some p=>rw [hz] at h2;cases h2⟩;have hb:=zgI 0 z r hr;have:=h1 (zfd a.length r) (.inr ⟨r,hr,rfl⟩);exact (zhJ (r:=r) (r':=zfd a.length r) rfl rfl (ziY a z (by omega) (by omega))).1 this
 ·rintro ⟨h1,h2⟩;refine ⟨fun r hr=>?_,by rw [h2];rfl⟩;rcases hr with hr| ⟨r,hr,rfl⟩
  ·have hb:=zgI 0 a r hr
   grind [zhJ,zfx]
  ·have hb:=zgI 0 z r hr;exact (zhJ (r:=r) (r':=zfd a.length r) rfl rfl (ziY a z (by omega) (by omega))).2 (h1 r hr)
theorem zbY (s:List Mes) (d:Nat) (k:Int) (z:List UInt8) (h:zF s d k a=none):zF s d k (a++z)=none↔zF s d k z=none:=by
 cases d with
 | zero=>exact zkG z h
 | succ d=>exact zkG z h
theorem zpI :is11 s root b d=true↔argS s root d=0/\zF s d.toNat root b=none:=by
 unfold is11 zW;by_cases h:argS s root d=0
 ·rw [xc (by simpa using h)];cases hf:zF s d.toNat root b with
  | none=>simp [h]
  | some p=>
   obtain ⟨p,c⟩:=p;have:=zcY s d.toNat root b p c hf
   grind
 grind
abbrev zcz:=List Int
def zgK (m:List zcz) (n:Int):Bool:=m.any fun v=>v==[n]
def zxM (n:Int):zcz->Option zcz
 | x::y::v=>if x=n then some (y::v) else none
 | _=>none
def zfI (m:List zcz) (n:Int):List zcz:=m.filterMap (zxM n)
abbrev Msg:=zfL
abbrev Vlu:=zcN
mutual
def szM:Msg->Nat
 | ⟨vs,_⟩=>1+szVs vs
def szVs:List Vlu->Nat
 | []=>0
 | v::l=>szV v+szVs l
def szV:Vlu->Nat
 | ⟨_,_,_,s⟩=>1+szMs s
def szMs:List Msg->Nat
 | []=>0
 | x::l=>szM x+szMs l
end
theorem zcg (x:Msg):szM x=1+szVs x.Values:=by cases x;rw [szM]
theorem zfH (v:Vlu):szV v=1+szMs v.Subs:=by cases v;rw [szV]
theorem zdA :∀{l:List Vlu},v∈l->szV v<=szVs l
 | [],h=>by cases h
 | u::l,h=>by
  rw [szVs];rcases xj.1 h with rfl| h
  ·omega
  ·have:=zdA h;omega
theorem zdz :∀{l:List Msg},x∈l->szM x<=szMs l
 | [],h=>by cases h
 | u::l,h=>by
  rw [szMs];rcases xj.1 h with rfl| h
  ·omega
  ·have:=zdz h;omega
mutual
/-- Within the reach of what a law is handed. -/
def bdM:Msg->Prop
 | ⟨vs,u⟩=>vs.length*80<=140737488351232/\(u.length*16<=140737488351232/\∀t∈u,t.length<=140737488351232)/\bdVs vs
def bdVs:List Vlu->Prop
 | []=>True
 | v::l=>bdV v/\bdVs l
def bdV:Vlu->Prop
 | ⟨n,w,t,s⟩=>(Lit.int .i64 n).wf=true/\(w.length*8<=140737488351232/\∀x∈w,0<=x/\x<=18446744073709551615)/\(t.length*16<=140737488351232/\∀x∈t,x.length<=140737488351232)/\s.length*48<=140737488351232/\bdMs s
def bdMs:List Msg->Prop
 | []=>True
 | x::l=>bdM x/\bdMs l
end
theorem zlC (x:Msg):bdM x↔x.Values.length*80<=140737488351232/\(x.Unknown.length*16<=140737488351232/\∀t∈x.Unknown,t.length<=140737488351232)/\bdVs x.Values:=by cases x;simp only [bdM]
theorem ziD (v:Vlu):bdV v↔(Lit.int .i64 v.Number).wf=true/\(v.Words.length*8<=140737488351232/\∀x∈v.Words,0<=x/\x<=18446744073709551615)/\(v.Texts.length*16<=140737488351232/\∀x∈v.Texts,x.length<=140737488351232)/\v.Subs.length*48<=140737488351232/\bdMs v.Subs:=by cases v;simp only [bdV]
theorem zeO:∀{l:List Vlu},bdVs l↔∀v∈l,bdV v
 | []=>by simp [bdVs]
 | v::l=>by rw [bdVs,zeO (l:=l)];simp
theorem zeN:∀{l:List Msg},bdMs l↔∀v∈l,bdM v
 | []=>by simp [bdMs]
 | v::l=>by rw [bdMs,zeN (l:=l)];simp
section
open Classical
end
def zek (v:Vlu):Nat:=v.Words.length+v.Texts.length+v.Subs.length
mutual
def dM:Msg->Nat
 | ⟨vs,_⟩=>dVs vs
def dVs:List Vlu->Nat
 | []=>0
 | v::l=>max (dV v) (dVs l)
def dV:Vlu->Nat
 | ⟨_,_,_,s⟩=>dMs s
def dMs:List Msg->Nat
 | []=>0
 | x::l=>max (1+dM x) (dMs l)
end
structure Th where
 fi:Int
 run:Bool
 val:List UInt8
 raw:List UInt8
def rawB (b:List UInt8) (r:Rec):List UInt8:=(b.drop r.From.toNat).take (r.To.toNat - r.From.toNat)
def thOf (b:List UInt8) (t:Vw):Th:=⟨t.Field,t.Run,valB b t.R,rawB b t.R⟩
def ths (m:Mes) (b:List UInt8):List Th:=(zau m b).1.map (thOf b)
abbrev ztC:=List UInt8×Bool×List Int×List Str×List Msg
mutual
/-- How much a meaning is, all together. -/
def wgM:Msg->Nat
 | ⟨vs,u⟩=>1+(u.map fun t=>1+t.length).sum+wgVs vs
def wgVs:List Vlu->Nat
 | []=>0
 | v::l=>wgV v+wgVs l
def wgV:Vlu->Nat
 | ⟨_,w,t,s⟩=>1+w.length+(t.map fun t=>1+t.length).sum+wgMs s
def wgMs:List Msg->Nat
 | []=>0
 | x::l=>wgM x+wgMs l
end
theorem zhR (x:Msg):wgM x=1+(x.Unknown.map fun t=>1+t.length).sum+wgVs x.Values:=by cases x;rw [wgM]
theorem zfJ (v:Vlu):wgV v=1+v.Words.length+(v.Texts.map fun t=>1+t.length).sum+wgMs v.Subs:=by cases v;rw [wgV]
theorem zqC :∀{l:List Vlu},v∈l->wgV v<=wgVs l
 | [],h=>by cases h
 | u::l,h=>by
  rw [wgVs];rcases xj.1 h with rfl| h
  ·omega
  ·have:=zqC h;omega
theorem zhS :∀{l:List Msg},x∈l->wgM x<=wgMs l
 | [],h=>by cases h
 | u::l,h=>by
  rw [wgMs];rcases xj.1 h with rfl| h
  ·omega
  ·have:=zhS h;omega
theorem zpb :∀{l:List Str},t∈l->1+t.length<=(l.map fun t=>1+t.length).sum
 | [],h=>by cases h
 | u::l,h=>by
  rw [xF,List.sum_cons];rcases xj.1 h with rfl| h
  ·omega
  ·have:=zpb h;omega
theorem zpa:∀{l:List Str},l.length<=(l.map fun t=>1+t.length).sum
 | []=>by simp
 | u::l=>by
  rw [xF,List.sum_cons,xw];have:=zpa (l:=l);omega
theorem zqB:∀(l:List Vlu),l.length<=wgVs l
 | []=>by simp [wgVs]
 | u::l=>by rw [wgVs,xw,zfJ];have:=zqB l;omega
theorem zqA:∀(l:List Msg),l.length<=wgMs l
 | []=>by simp [wgMs]
 | u::l=>by rw [wgMs,xw,zhR];have:=zqA l;omega
def unkR (m:Mes) (u:Str):Bool:=(zci u 0).2==0&&(zci u 0).1.To==(u.length:Int)&&decide (fldI m (zci u 0).1.Number<0)
def zqE (f:Fld) (w:Int):Bool:=kNum f.Kind&&zds f.Kind w==w
def zqo (f:Fld) (t:Str):Bool:=f.Kind==16|| (f.Kind==15&&zhG t)
def zsh (f:Fld) (v:Vlu):Bool:=decide (0<zek v)&&(decide (zek v<=1)|| f.Repeated)&&zbL f.Kind
mutual
def zbf (s:List Mes):Msg->Int->Bool
 | ⟨vs,u⟩,k=>decide (0<=k/\k<s.length)&&zed s vs (zw s k) none&&u.all (unkR (zw s k))
def zed (s:List Mes):List Vlu->Mes->Option Int->Bool
 | [],_,_=>true
 | v::l,m,p=>decide (0<=fldI m v.Number)&&p.all (fun n=>decide (n<v.Number))&&zjk s v (zU m (fldI m v.Number))&&zed s l m (some v.Number)
def zjk (s:List Mes):Vlu->Fld->Bool
 | ⟨n,w,t,sub⟩,f=>zsh f ⟨n,w,t,sub⟩&&w.all (zqE f)&&t.all (zqo f)&&zic s sub f
def zic (s:List Mes):List Msg->Fld->Bool
 | [],_=>true
 | x::l,f=>(f.Kind==17&&zbf s x f.Of)&&zic s l f
end
theorem zoa (s:List Mes) (x:Msg) (k:Int):zbf s x k=(decide (0<=k/\k<s.length)&&zed s x.Values (zw s k) none&&x.Unknown.all (unkR (zw s k))):=by cases x;rw [zbf]
theorem zpC (s:List Mes) (v:Vlu) (f:Fld):zjk s v f=(zsh f v&&v.Words.all (zqE f)&&v.Texts.all (zqo f)&&zic s v.Subs f):=by cases v;rw [zjk]
theorem ziS (s:List Mes) (f:Fld):∀(l:List Msg),zic s l f=l.all fun x=>f.Kind==17&&zbf s x f.Of
 | []=>by rw [zic];rfl
 | x::l=>by rw [zic,ziS s f l];rfl
mutual
/-- No list is long. -/
def smM:Msg->Prop
 | ⟨vs,u⟩=>vs.length<=1048576/\(u.length<=1048576/\∀t∈u,t.length<=1048576)/\smVs vs
def smVs:List Vlu->Prop
 | []=>True
 | v::l=>smV v/\smVs l
def smV:Vlu->Prop
 | ⟨n,w,t,s⟩=>w.length<=1048576/\(t.length<=1048576/\∀x∈t,x.length<=1048576)/\s.length<=1048576/\smMs s
def smMs:List Msg->Prop
 | []=>True
 | x::l=>smM x/\smMs l
end
theorem zrs (x:Msg):smM x↔x.Values.length<=1048576/\(x.Unknown.length<=1048576/\∀t∈x.Unknown,t.length<=1048576)/\smVs x.Values:=by cases x;simp only [smM]
theorem zrt (v:Vlu):smV v↔v.Words.length<=1048576/\(v.Texts.length<=1048576/\∀x∈v.Texts,x.length<=1048576)/\v.Subs.length<=1048576/\smMs v.Subs:=by cases v;simp only [smV]
theorem zjR:∀{l:List Vlu},smVs l↔∀v∈l,smV v
 | []=>by simp [smVs]
 | v::l=>by rw [smVs,zjR (l:=l)];simp
theorem zjQ:∀{l:List Msg},smMs l↔∀v∈l,smM v
 | []=>by simp [smMs]
 | v::l=>by rw [smMs,zjQ (l:=l)];simp
def zoh (s:List Mes):Nat->zfK
 | 0=>none
 | e+1=>some (zF s e)
theorem zdO (s:List Mes) (d:Nat) (k:Int) (b:List UInt8):zF s d k b=zaE (zw s k) (zoh s d) b (spl 0 b):=by cases d<;>rfl
theorem zkB (s:List Mes) (d:Nat) (k:Int):zF s d k []=none:=by rw [zdO,zcM];rfl
def vwG (m:Mes) (r:Rec):Int×Bool:=match vw m r.Number r.Wire with
 | .inl _=>(-1,false)
 | .inr p=>p
def thR (m:Mes) (b:List UInt8) (r:Rec):Th:=⟨(vwG m r).1,(vwG m r).2,valB b r,rawB b r⟩
theorem zrD :∀{l:List Rec},(∀r∈l,∃p,vw m r.Number r.Wire= .inr p)->vws m none l=(l.map fun r=>⟨r,(vwG m r).1,(vwG m r).2⟩,none)
 | [],_=>rfl
 | r::l,h=>by
  obtain ⟨p,hp⟩:=h r xe;rw [vws,hp,zrD fun x hx=>h x (xf _ hx)];simp only [xF,vwG,hp]
theorem zsw (h:zaO m sub b r=none):∃p,vw m r.Number r.Wire= .inr p:=by
 unfold zaO at h;cases hv:vw m r.Number r.Wire with
 | inl c=>rw [hv] at h;cases h
 | inr p=>exact ⟨p,rfl⟩
theorem zpe (h:zF s d k b=none):ths (zw s k) b=(spl 0 b).1.map (thR (zw s k) b):=by
 rw [zdO,zaW] at h;unfold ths zau;rw [h.2,zrD fun r hr=>zsw (h.1 r hr)];unfold vwR;simp only [qi];rfl
theorem zqf {b:List UInt8} (z:List UInt8) {r:Rec} (h0:0<=r.To) (h:r.To<=b.length):rawB (b++z) r=rawB b r:=by
 unfold rawB;by_cases ha:r.From.toNat<=b.length
 ·grind
 ·have e:r.To.toNat - r.From.toNat=0:=by omega
  grind
theorem zro (a b:List UInt8) {r:Rec} (h0:0<=r.From) (h1:r.From<=r.To):rawB (a++b) (zfd a.length r)=rawB b r:=by
 unfold rawB zfd;simp only;have e1:(r.From+(a.length:Int)).toNat=a.length+r.From.toNat:=by omega
 have e2:(r.To+(a.length:Int)).toNat - (a.length+r.From.toNat)=r.To.toNat - r.From.toNat:=by omega
 simp_all
theorem zrw {s:List Mes} {d:Nat} {k:Int} {a z:List UInt8} (ha:zF s d k a=none) (hz:zF s d k z=none):ths (zw s k) (a++z)=ths (zw s k) a++ths (zw s k) z:=by
 rw [zpe ((zbY s d k z ha).2 hz),zpe ha,zpe hz];rw [zdO,zaW] at ha;have hap:=zff z 0 a ha.2;have hsh:=zif a.length 0 z;rw [xJ] at hap hsh;rw [hap,hsh];simp only [yB,qi];congr 1
 ·refine qM fun r hr=>?_
  have:=zgI 0 a r hr;unfold thR;rw [zfx z (by omega) (by omega),zqf z (by omega) (by omega)]
 ·refine qM fun r hr=>?_
  have:=zgI 0 z r hr;show thR _ _ (zfd a.length r)=_;unfold thR;rw [ziY a z (by omega) (by omega),zro a z (by omega) (by omega)];rfl
structure OkT (s:List Mes) (d:Nat) (m:Mes) (t:Th):Prop where
 fi:t.fi= -1\/0<=t.fi/\t.fi<m.Fields.length
 unk:t.fi<0->unkR m t.raw=true
 run:0<=t.fi->t.run=true->kNum (zU m t.fi).Kind=true/\(zU m t.fi).Repeated=true/\(ziq (zU m t.fi).Kind t.val).2=0
 one:0<=t.fi->t.run=false->zbL (zU m t.fi).Kind=true/\znx (zdu (zU m t.fi).Kind) t.val=true/\((zU m t.fi).Kind=15->zhG t.val=true)/\((zU m t.fi).Kind=17->∃e,d=e+1/\zF s e (zU m t.fi).Of t.val=none)
structure zyG (s:List Mes) (d:Nat) (f:Fld) (a:ztC):Prop where
 words:∀w∈a.2.2.1,zqE f w=true
 texts:∀t∈a.2.2.2.1,zqo f t=true
 numT:kNum f.Kind=true->a.2.2.2.1=[]
 subs:∀x∈a.2.2.2.2,f.Kind=17/\zbf s x f.Of=true/\1+dM x<=d
 join:f.Kind=17->∀e,d=e+1->zF s e f.Of a.1=none
 met:a.2.1=true->f.Kind=17->∃e,d=e+1
 one:f.Repeated=false->a.2.2.1.length<=1/\a.2.2.2.1.length<=1/\a.2.2.2.2=[]
structure zyF (a:ztC):Prop where
 words:∀w∈a.2.2.1,0<=w/\w<=18446744073709551615
 texts:∀t∈a.2.2.2.1,t.length<=1048576
 subs:∀x∈a.2.2.2.2,bdM x/\smM x
def zbP (l:List Vlu):Prop:=l.Pairwise fun a b=>a.Number<b.Number
def look (l:List Vlu) (n:Int):Option Vlu:=l.find? fun v=>v.Number==n
theorem zcL (v:Vlu) (l:List Vlu) (n:Int):look (v::l) n=if v.Number=n then some v else look l n:=by
 unfold look;rw [List.find?_cons];by_cases h:v.Number=n
 ·rw [xd h];simp [h]
 ·rw [xc h];have:(v.Number==n)=false:=by simpa using h
  rw [this]
theorem zdf (h:look l n=some v):v.Number=n/\v∈l:=by
 unfold look at h;exact ⟨by simpa using List.find?_some h,List.mem_of_find?_eq_some h⟩
theorem zsg (h:∀v∈l,n<v.Number):look l n=none:=by
 unfold look;rw [List.find?_eq_none];intro v hv;have:=h v hv;simp;omega
theorem zpV (hr:zbP l) (h:v∈l):look l v.Number=some v:=by
 induction l with
 | nil=>cases h
 | cons u l ih=>
  obtain ⟨h1,h2⟩:=xS.1 hr;rw [zcL];rcases xj.1 h with rfl| h
  ·rw [xd rfl]
  ·have:=h1 v h;rw [xc (by omega),ih h2 h]
def putL (v:Vlu):Bool->List Vlu->List Vlu
 | done,[]=>if done=true then [] else [v]
 | done,u::l=>(if done=false/\v.Number<=u.Number then [v] else [])++((if u.Number=v.Number then [] else [u])++putL v (done|| decide (v.Number<=u.Number)) l)
theorem zqd (v:Vlu):∀(d:Bool) (l:List Vlu),(putL v d l).length<=l.length+(if d=true then 0 else 1)
 | d,[]=>by rw [putL];cases d<;>simp
 | d,u::l=>by
  have:=zqd v (d|| decide (v.Number<=u.Number)) l;rw [putL];simp only [xz,xw];cases d
  ·by_cases h:v.Number<=u.Number
   ·rw [xd ⟨rfl,h⟩];simp only [h,decide_true,yQ,xN] at this|-;split<;>simp<;>omega
   ·rw [xc (fun hh=>h hh.2)];simp only [h,decide_false,yW,qm,xP] at this|-;split<;>simp<;>omega
  ·rw [xc (by simp)];simp only [Bool.true_or,xN] at this|-;split<;>simp<;>omega
theorem zqe :∀{d:Bool} {l:List Vlu} {x:Vlu},x∈putL v d l->x=v/\d=false\/x∈l/\x.Number≠v.Number
 | d,[],x,h=>by
  rw [putL] at h;cases d
  ·rw [xc (by simp)] at h;exact .inl ⟨xL.1 h,rfl⟩
  ·rw [xd rfl] at h;cases h
 | d,u::l,x,h=>by
  rw [putL] at h;rcases xk.1 h with h| h
  ·split at h
   ·rename_i hc;exact .inl ⟨xL.1 h,hc.1⟩
   ·cases h
  ·rcases xk.1 h with h| h
   ·split at h
    ·cases h
    ·rename_i hc;rw [xL.1 h];exact .inr ⟨xe,hc⟩
   ·rcases zqe h with ⟨h1,h2⟩| ⟨h1,h2⟩
    ·refine .inl ⟨h1,?_⟩;cases d
     ·rfl
     ·simp at h2
    ·exact .inr ⟨xf _ h1,h2⟩
theorem zhE :∀{d:Bool} {l:List Vlu},zbP l->zbP (putL v d l)
 | d,[],_=>by rw [putL];cases d<;>simp [zbP]
 | d,u::l,h=>by
  obtain ⟨h1,h2⟩:=xS.1 h;have ih:=zhE (v:=v) (d:=d|| decide (v.Number<=u.Number)) h2;have hrest:∀x∈putL v (d|| decide (v.Number<=u.Number)) l,u.Number<x.Number:=fun x hx=>by
   rcases zqe hx with ⟨rfl,hd⟩| ⟨hx,_⟩
   ·simp at hd;omega
   ·exact h1 x hx
  rw [putL];have htail:zbP ((if u.Number=v.Number then [] else [u])++putL v (d|| decide (v.Number<=u.Number)) l):=by
   split
   ·exact ih
   ·exact xS.2 ⟨hrest,ih⟩
  split
  ·rename_i hc;rw [qR];refine xS.2 ⟨fun x hx=>?_,htail⟩;rcases xk.1 hx with hx| hx
   ·split at hx
    ·cases hx
    ·rw [xL.1 hx];omega
   ·have:=hrest x hx;omega
  ·exact htail
theorem zkI (l k:List Vlu) (n:Int):look (l++k) n=match look l n with| some v=>some v| none=>look k n:=by
 unfold look;rw [List.find?_append];cases l.find? (fun v=>v.Number==n)<;>rfl
theorem zmh :∀{d:Bool} {l:List Vlu},zbP l->∀n,look (putL v d l) n=if n=v.Number then (if d=true then none else some v) else look l n
 | d,[],_,n=>by
  rw [putL];cases d
  ·rw [xc (show ¬(false=true) by simp),xc (show ¬(false=true) by simp),zcL];by_cases h:n=v.Number
   ·rw [xd h,xd h.symm]
   ·rw [xc h,xc (fun hh=>h hh.symm)]
  ·rw [xd rfl,xd rfl];split<;>rfl
 | d,u::l,h,n=>by
  obtain ⟨h1,h2⟩:=xS.1 h;have ih:=zmh (v:=v) (d:=d|| decide (v.Number<=u.Number)) h2 n;rw [putL,zkI,zkI,ih,zcL u l n];by_cases hn:n=v.Number
  ·rw [xd hn,xd hn];have hu:look (if u.Number=v.Number then [] else [u]) n=none:=by
    split
    ·rfl
    ·rw [zcL,xc (by omega)];rfl
   rw [hu];cases d
   ·by_cases hle:v.Number<=u.Number
    ·rw [xd ⟨rfl,hle⟩,zcL,xd hn.symm];simp
    ·rw [xc (fun hh=>hle hh.2)];simp [look,hle]
   ·rw [xc (by simp)];simp [look]
  ·rw [xc hn,xc hn];have hv:look (if d=false/\v.Number<=u.Number then [v] else []) n=none:=by
    split
    ·rw [zcL,xc (fun hh=>hn hh.symm)];rfl
    ·rfl
   rw [hv];by_cases hu:u.Number=v.Number
   ·rw [xd hu,xc (by omega)];rfl
   ·rw [xc hu,zcL];by_cases hun:u.Number=n
    ·rw [xd hun,xd hun]
    ·rw [xc hun,xc hun];rfl
def putM (x:Msg) (v:Vlu):Msg:=⟨putL v (decide (zek v=0)) x.Values,x.Unknown⟩
theorem zfs :∀{l:List Vlu} {p:Option Int},zed s l m p=true->∀v∈l,0<=fldI m v.Number/\zjk s v (zU m (fldI m v.Number))=true/\p.all (fun n=>decide (n<v.Number))=true
 | [],p,_,v,hv=>by cases hv
 | u::l,p,h,v,hv=>by
  rw [zed] at h;simp only [xg,xu] at h;obtain ⟨⟨⟨h1,h2⟩,h3⟩,h4⟩:=h;rcases xj.1 hv with rfl| hv
  ·exact ⟨h1,h3,h2⟩
  ·obtain ⟨g1,g2,g3⟩:=zfs h4 v hv;refine ⟨g1,g2,?_⟩;cases p with
   | none=>rfl
   | some n=>
    simp at h2 g3|-;omega
theorem zhH :∀{l:List Vlu} {p:Option Int},zed s l m p=true->zbP l
 | [],p,_=> .nil
 | u::l,p,h=>by
  rw [zed] at h;simp only [xg,xu] at h;refine xS.2 ⟨fun v hv=>?_,zhH h.2⟩;have:=(zfs h.2 v hv).2.2;simpa using this
theorem zmE :∀{l:List Vlu} {p:Option Int},zbP l->(∀v∈l,0<=fldI m v.Number/\zjk s v (zU m (fldI m v.Number))=true/\p.all (fun n=>decide (n<v.Number))=true)->zed s l m p=true
 | [],p,_,_=>by rw [zed]
 | u::l,p,hr,h=>by
  obtain ⟨h1,h2⟩:=xS.1 hr;obtain ⟨a1,a2,a3⟩:=h u xe;rw [zed,zmE h2 fun v hv=>⟨(h v (xf _ hv)).1,(h v (xf _ hv)).2.1,by simpa using h1 v hv⟩,a2,a3,xR a1];rfl
theorem zbI (h:zbf s x k=true):0<=k/\k<s.length/\zbP x.Values/\(∀v∈x.Values,0<=fldI (zw s k) v.Number/\zjk s v (zU (zw s k) (fldI (zw s k) v.Number))=true)/\∀u∈x.Unknown,unkR (zw s k) u=true:=by
 rw [zoa] at h;simp only [xg,xu] at h;exact ⟨h.1.1.1,h.1.1.2,zhH h.1.2,fun v hv=>⟨(zfs h.1.2 v hv).1,(zfs h.1.2 v hv).2.1⟩,xl.1 h.2⟩
theorem zob (h1:0<=k) (h2:k<s.length) (h3:zbP x.Values) (h4:∀v∈x.Values,0<=fldI (zw s k) v.Number/\zjk s v (zU (zw s k) (fldI (zw s k) v.Number))=true) (h5:∀u∈x.Unknown,unkR (zw s k) u=true):zbf s x k=true:=by
 rw [zoa,xR ⟨h1,h2⟩,zmE h3 fun v hv=>⟨(h4 v hv).1,(h4 v hv).2,rfl⟩,xl.2 h5];rfl
structure zex (s:List Mes) (v:Vlu) (f:Fld):Prop where
 many:0<zek v
 one:f.Repeated=false->zek v=1
 kind:zbL f.Kind=true
 words:∀w∈v.Words,zqE f w=true
 texts:∀t∈v.Texts,zqo f t=true
 subs:∀x∈v.Subs,f.Kind=17/\zbf s x f.Of=true
theorem zcJ (h:zjk s v f=true):zex s v f:=by
 rw [zpC,ziS] at h;unfold zsh at h;simp only [xg,yP,xu,xl,beq_iff_eq] at h;obtain ⟨⟨⟨⟨⟨h1,h2⟩,h3⟩,h4⟩,h5⟩,h6⟩:=h;refine ⟨h1,fun hr=>?_,h3,h4,h5,fun x hx=>?_⟩
 ·rw [hr] at h2;simp at h2;omega
 ·exact h6 x hx
theorem zrQ (h:zex s v f):zjk s v f=true:=by
 obtain ⟨h1,h2,h3,h4,h5,h6⟩:=h;rw [zpC,ziS];unfold zsh;simp only [xg,yP,xu,xl,beq_iff_eq];refine ⟨⟨⟨⟨⟨h1,?_⟩,h3⟩,h4⟩,h5⟩,fun x hx=>h6 x hx⟩;cases hr:f.Repeated with
 | true=>exact .inr rfl
 | false=>exact .inl (by have:=h2 hr;omega)
theorem zex.noWords (h:zex s v f) (hk:kNum f.Kind=false):v.Words=[]:=by
 cases hw:v.Words with
 | nil=>rfl
 | cons w l=>
  have:=h.words w (by rw [hw];exact xe);unfold zqE at this;rw [hk] at this;simp at this
theorem zex.noTexts (h:zex s v f) (hk:f.Kind≠15/\f.Kind≠16):v.Texts=[]:=by
 cases hw:v.Texts with
 | nil=>rfl
 | cons w l=>
  have:=h.texts w (by rw [hw];exact xe);unfold zqo at this;simp at this;omega
theorem zex.msg (h:zex s v f) (hk:f.Kind=17) (hr:f.Repeated=false):∃x,v=⟨v.Number,[],[],[x]⟩/\zbf s x f.Of=true:=by
 have h1:=h.noWords (by rw [hk];rfl);have h2:=h.noTexts (by omega);have h3:=h.one hr;have h4:=h.subs;obtain ⟨n,w,t,sub⟩:=v;simp only at h1 h2 h4;subst h1 h2;unfold zek at h3;simp at h3;obtain ⟨x,rfl⟩:∃x,sub=[x]:=by
  cases sub with
  | nil=>simp at h3
  | cons x l=>cases l with
   | nil=>exact ⟨x,rfl⟩
   | cons _ _=>simp at h3
 exact ⟨x,rfl,(h4 x xe).2⟩
mutual
/-- b zct a. -/
def zgN (s:List Mes):Msg->Msg->Int->Msg
 | ⟨vs,u⟩,a,k=>⟨zdR s vs a (zw s k) a.Values,a.Unknown++u⟩
def zdR (s:List Mes):List Vlu->Msg->Mes->List Vlu->List Vlu
 | [],_,_,uy=>uy
 | v::l,a,m,uy=>zdR s l a m (putM ⟨uy,[]⟩ (zdF s v (look a.Values v.Number) (zU m (fldI m v.Number)))).Values
def zdF (s:List Mes):Vlu->Option Vlu->Fld->Vlu
 | ⟨n,w,t,sub⟩,none,f=>⟨n,w,t,sub⟩
 | ⟨n,w,t,sub⟩,some u,f=>if f.Repeated=true then ⟨n,u.Words++w,u.Texts++t,u.Subs++sub⟩ else if f.Kind=17 then ⟨n,[],[],zfC s sub u.Subs f.Of⟩ else ⟨n,w,t,sub⟩
def zfC (s:List Mes):List Msg->List Msg->Int->List Msg
 | [],_,_=>[]
 | x::_,ys,k=>match ys with
  | []=>[]
  | y::_=>[zgN s x y k]
end
theorem zhm (s:List Mes) (b a:Msg) (k:Int):zgN s b a k=⟨zdR s b.Values a (zw s k) a.Values,a.Unknown++b.Unknown⟩:=by cases b;rw [zgN]
theorem zhn (s:List Mes) (v:Vlu) (o:Option Vlu) (f:Fld):zdF s v o f=match o with
  | none=>v
  | some u=>if f.Repeated=true then ⟨v.Number,u.Words++v.Words,u.Texts++v.Texts,u.Subs++v.Subs⟩ else if f.Kind=17 then ⟨v.Number,[],[],zfC s v.Subs u.Subs f.Of⟩ else v:=by
 cases v;cases o<;>rw [zdF]
theorem znH (s:List Mes) (v:Vlu) (o:Option Vlu) (f:Fld):(zdF s v o f).Number=v.Number:=by
 rw [zhn];cases o with
 | none=>rfl
 | some u=>simp only;split;rfl;split<;>rfl
theorem zuL (uy:List Vlu) (u:List Str) (v:Vlu):(putM ⟨uy,u⟩ v).Values.length<=uy.length+1:=by
 have:=zqd v (decide (zek v=0)) uy;unfold putM;simp only;split at this<;>omega
theorem zkJ :∀{l uy:List Vlu},zbP uy->zbP l->(∀v∈l,0<zek (zdF s v (look a.Values v.Number) (zU m (fldI m v.Number))))->
  zbP (zdR s l a m uy)/\∀n,look (zdR s l a m uy) n=match look l n with
   | some v=>some (zdF s v (look a.Values n) (zU m (fldI m n)))
   | none=>look uy n
 | [],uy,h1,_,_=>by rw [zdR];exact ⟨h1,fun n=>rfl⟩
 | v::l,uy,h1,h2,h3=>by
  obtain ⟨l1,l2⟩:=xS.1 h2;have hv:=h3 v xe;have hnum:=znH s v (look a.Values v.Number) (zU m (fldI m v.Number));rw [zdR];have hacc:zbP (putM ⟨uy,[]⟩ (zdF s v (look a.Values v.Number) (zU m (fldI m v.Number)))).Values:=zhE h1;obtain ⟨r1,r2⟩:=zkJ (s:=s) (a:=a) (m:=m) hacc l2 fun u hu=>h3 u (xf _ hu)
  refine ⟨r1,fun n=>?_⟩;rw [r2 n,zcL];have hlk:look (putM ⟨uy,[]⟩ (zdF s v (look a.Values v.Number) (zU m (fldI m v.Number)))).Values n=if n=v.Number then some (zdF s v (look a.Values v.Number) (zU m (fldI m v.Number))) else look uy n:=by
   unfold putM;simp only;rw [zmh h1 n,hnum];by_cases hn:n=v.Number
   ·rw [xd hn,xd hn,xc fun hh=>by have:=yo hh;omega]
   ·rw [xc hn,xc hn]
  by_cases hn:v.Number=n
  ·rw [xd hn,zsg fun u hu=>by have:=l1 u hu;omega,hlk,xd hn.symm];simp only [hn]
  ·rw [xc hn,hlk,xc fun hh=>hn hh.symm]
theorem zlZ (hv:zex s v f) (ho:∀u,o=some u->zex s u f):0<zek (zdF s v o f):=by
 rw [zhn];cases o with
 | none=>exact hv.many
 | some u=>
  have:=hv.many;simp only;by_cases hr:f.Repeated=true
  ·rw [xd hr];unfold zek at this|-;simp only [xz];omega
  ·rw [xc hr];by_cases h17:f.Kind=17
   ·rw [xd h17];obtain ⟨x,hvx,_⟩:=hv.msg h17 (by simpa using hr);obtain ⟨y,huy,_⟩:=(ho u rfl).msg h17 (by simpa using hr);rw [hvx,huy,zfC];simp [zek]
   ·rw [xc h17];exact this
theorem znM (ha:zbf s a k=true) (hb:zbf s b k=true):zbP (zgN s b a k).Values/\∀n,look (zgN s b a k).Values n=match look b.Values n with
   | some v=>some (zdF s v (look a.Values n) (zU (zw s k) (fldI (zw s k) n)))
   | none=>look a.Values n:=by
 obtain ⟨_,_,ra,ha',_⟩:=zbI ha;obtain ⟨_,_,rb,hb',_⟩:=zbI hb;rw [zhm];exact zkJ ra rb fun v hv=>zlZ (zcJ (hb' v hv).2) fun u hu=>by
  obtain ⟨e,hm⟩:=zdf hu;have:=zcJ (ha' u hm).2;rw [e] at this;exact this
mutual
/-- Kept or left by ways. -/
def zjB (s:List Mes):Msg->Int->List zcz->Bool->Msg
 | ⟨vs,u⟩,k,w,keep=>⟨zdv s vs (zw s k) w keep,if keep=true then [] else u⟩
def zdv (s:List Mes):List Vlu->Mes->List zcz->Bool->List Vlu
 | [],_,_,_=>[]
 | v::l,m,w,keep=>zmx s v (zU m (fldI m v.Number)) w keep++zdv s l m w keep
def zmx (s:List Mes):Vlu->Fld->List zcz->Bool->List Vlu
 | ⟨n,a,t,sub⟩,f,w,keep=>if zgK w n=false/\zfI w n≠[]/\f.Kind=17/\f.Repeated=false then [⟨n,[],[],zhB s sub f.Of (zfI w n) keep⟩]
  else if zgK w n=keep then [⟨n,a,t,sub⟩] else []
def zhB (s:List Mes):List Msg->Int->List zcz->Bool->List Msg
 | [],_,_,_=>[]
 | x::_,k,w,keep=>[zjB s x k w keep]
end
theorem zmv (s:List Mes) (x:Msg) (k:Int) (w:List zcz) (keep:Bool):zjB s x k w keep=⟨zdv s x.Values (zw s k) w keep,if keep=true then [] else x.Unknown⟩:=by cases x;rw [zjB]
theorem zjC (s:List Mes) (v:Vlu) (f:Fld) (w:List zcz) (keep:Bool):zmx s v f w keep=if zgK w v.Number=false/\zfI w v.Number≠[]/\f.Kind=17/\f.Repeated=false then [⟨v.Number,[],[],zhB s v.Subs f.Of (zfI w v.Number) keep⟩]
  else if zgK w v.Number=keep then [v] else []:=by cases v;rw [zmx]
theorem zte (s:List Mes) (v:Vlu) (f:Fld) (w:List zcz) (keep:Bool):(zmx s v f w keep).length<=1:=by
 rw [zjC];split;simp;split<;>simp
theorem zqZ (hv:zex s v f) (ho:∀u,o=some u->zex s u f)
  (ih:∀x∈v.Subs,∀y:Msg,zbf s x f.Of=true->zbf s y f.Of=true->zbf s (zgN s x y f.Of) f.Of=true):zex s (zdF s v o f) f:=by
 have hm:=zlZ hv ho;rw [zhn] at hm|-;cases o with
 | none=>exact hv
 | some u=>
  have hu:=ho u rfl;simp only at hm|-;by_cases hr:f.Repeated=true
  ·rw [xd hr] at hm|-;refine ⟨hm,(fun h=>by rw [hr] at h;cases h),hv.kind,fun w hw=>?_,fun w hw=>?_,fun w hw=>?_⟩
   ·rcases xk.1 hw with hw| hw
    ·exact hu.words w hw
    ·exact hv.words w hw
   ·rcases xk.1 hw with hw| hw
    ·exact hu.texts w hw
    ·exact hv.texts w hw
   ·rcases xk.1 hw with hw| hw
    ·exact hu.subs w hw
    ·exact hv.subs w hw
  ·rw [xc hr] at hm|-;by_cases h17:f.Kind=17
   ·rw [xd h17] at hm|-;obtain ⟨x,hvx,hx⟩:=hv.msg h17 (by simpa using hr);obtain ⟨y,huy,hy⟩:=hu.msg h17 (by simpa using hr);have hvs:v.Subs=[x]:=by rw [hvx]
    have hus:u.Subs=[y]:=by rw [huy]
    rw [hvs,hus,zfC];refine ⟨by simp [zek],(fun _=>by simp [zek]),hv.kind,(fun w hw=>nomatch hw),(fun w hw=>nomatch hw),fun w hw=>?_⟩;rw [xL.1 hw];exact ⟨h17,ih x (by rw [hvs];exact xe) y hx hy⟩
   ·rw [xc h17] at hm|-;exact hv
theorem zkH :∀(N:Nat) (b a:Msg) (k:Int),szM b<=N->zbf s a k=true->zbf s b k=true->zbf s (zgN s b a k) k=true
 | 0,b,a,k,h,_,_=>by rw [zcg] at h;omega
 | N+1,b,a,k,hsz,ha,hb=>by
  obtain ⟨k0,k1,ra,ha',ua⟩:=zbI ha;obtain ⟨_,_,rb,hb',ub⟩:=zbI hb;obtain ⟨j1,j2⟩:=znM ha hb;rw [zcg] at hsz;refine zob k0 k1 j1 (fun v hv=>?_) fun u hu=>?_
  ·have hl:=zpV j1 hv;rw [j2] at hl;cases hbl:look b.Values v.Number with
   | none=>
    rw [hbl] at hl;simp only at hl;exact ha' v (zdf hl).2
   | some w=>
    rw [hbl] at hl;simp only at hl;obtain ⟨wn,wm⟩:=zdf hbl;obtain ⟨w0,wf⟩:=hb' w wm;rw [wn] at w0 wf;have hfw:=zcJ wf;have s1:=zdA wm;rw [zfH] at s1;refine ⟨w0,zrQ ?_⟩;have hvj:zdF s w (look a.Values v.Number) (zU (zw s k) (fldI (zw s k) v.Number))=v:=yc hl;have:=zqZ (o:=look a.Values v.Number) hfw (fun u hu=>by
     obtain ⟨un,um⟩:=zdf hu;have:=zcJ (ha' u um).2;rw [un] at this;exact this) fun x hx y hxr hyr=>by
      have:=zdz hx;exact zkH N x y _ (by omega) hyr hxr
    rw [hvj] at this;exact this
  ·rw [zhm] at hu;rcases xk.1 hu with hu| hu
   ·exact ua u hu
   ·exact ub u hu
structure zyb (s:List Mes) (d:Nat) (k:Int) (p:List UInt8) (t:Th):Prop where
 ok:zF s d k p=none
 th:ths (zw s k) p=[t]
theorem pieces {s:List Mes} {d:Nat} {k:Int}:∀{ps:List (List UInt8×Th)},(∀p∈ps,zyb s d k p.1 p.2)->zF s d k (ps.flatMap (·.1))=none/\ths (zw s k) (ps.flatMap (·.1))=ps.map (·.2)
 | [],_=>by
  have h:=zkB s d k;refine ⟨h,?_⟩;rw [List.flatMap_nil,zpe h,zcM];rfl
 | p::ps,h=>by
  obtain ⟨h1,h2⟩:=pieces fun q hq=>h q (xf _ hq)
  have hp:=h p xe;rw [xH];refine ⟨(zbY s d k _ hp.ok).2 h1,?_⟩;rw [zrw hp.ok h1,hp.th,h2];rfl
def wv (a:ztC):Nat:=a.2.2.1.length+(a.2.2.2.1.map fun t=>1+t.length).sum+wgMs a.2.2.2.2+2*a.1.length
def zaJ (s:List Mes) (root d:Int):Nat->List (List UInt8)->Option (Nat×Int)
 | _,[]=>none
 | i,x::l=>if (zW s root x d).2≠0 then some (i,(zW s root x d).2) else zaJ s root d (i+1) l
def zdD (s:List Mes) (root:Int) (l:List (List UInt8)) (d:Int):List UInt8×Int×Int:=
 if argS s root d≠0 then ([],0,argS s root d) else match zaJ s root d 0 l with
  | some (i,c)=>([],i,c)
  | none=>(l.flatten,0,0)
def zoS (m:Mes) (a b:List UInt8):Nat:=((zau m a).1.filter fun t=>decide (0<=t.Field)&&(zau m b).1.any (fun u=>u.R.Number==t.R.Number)&& !(zU m t.Field).Repeated&&(zU m t.Field).Kind !=17).length
theorem zpm {s:List Mes} {d:Nat} {k:Int} {b:List UInt8} (h:zF s d k b=none):zau (zw s k) b=((spl 0 b).1.map (fun r=>⟨r,(vwG (zw s k) r).1,(vwG (zw s k) r).2⟩),0,0):=by
 rw [zdO,zaW] at h;unfold zau;rw [h.2,zrD fun r hr=>zsw (h.1 r hr)];rfl
theorem zqL (s:List Mes) (root d:Int):argS s root d=0\/argS s root d=2\/argS s root d=9:=by
 unfold argS;split
 ·omega
 ·split<;>omega
theorem zoB (s:List Mes) (root:Int) (b:List UInt8) (d:Int):0<=(zW s root b d).2/\(zW s root b d).2<=9:=by
 unfold zW;by_cases h:argS s root d=0
 ·rw [xc (by simpa using h)];cases hf:zF s d.toNat root b with
  | none=>simp
  | some p=>
   have:=zcY s d.toNat root b p.1 p.2 hf;simp only [Option.getD_some];omega
 ·rw [xd h];rcases zqL s root d with h| h| h<;>rw [h]<;>simp
theorem zsK (s:List Mes) (d:Nat) (k:Int) {a:List UInt8} (h:zF s d k a=none):(spl 0 a).2=none:=by
 cases d with
 | zero=>exact (zaW.1 h).2
 | succ d=>exact (zaW.1 h).2
theorem zgt {s:List Mes} {root:Int} {b:List UInt8} {d:Int} (h:argS s root d≠0):(zW s root b d).2=argS s root d:=by
 unfold zW;rw [xd h]
theorem zdY {s:List Mes} {root:Int} {b:List UInt8} {d:Int} (h:(zW s root b d).2=0):argS s root d=0/\zF s d.toNat root b=none:=zpI.1 (by unfold is11;simpa using h)
theorem zdL {s:List Mes} {root:Int} {b:List UInt8} {d:Int} (h:argS s root d=0) (hf:zF s d.toNat root b=none):(zW s root b d).2=0:=by
 have:=(zpI (s:=s) (root:=root) (b:=b) (d:=d)).2 ⟨h,hf⟩;unfold is11 at this;simpa using this
theorem zsB (s:List Mes) (root:Int) (a b:List UInt8) (d:Int):zdD s root [a,b] d=if (zW s root a d).2≠0 then ([],0,(zW s root a d).2) else if (zW s root b d).2≠0 then ([],1,(zW s root b d).2) else (a++b,0,0):=by
 unfold zdD;by_cases h:argS s root d=0
 ·by_cases ha:(zW s root a d).2=0
  ·by_cases hb:(zW s root b d).2=0
   ·simp [h,zaJ,ha,hb]
   ·simp [h,zaJ,ha,hb]
  ·simp [h,zaJ,ha]
 ·rw [xd h,zgt h,xd h]
theorem zfz (s:List Mes) (root:Int) (b:List UInt8) (d:Int):0<=(zW s root b d).2/\(zW s root b d).2<=255:=by
 have:=zoB s root b d;omega
theorem zwy (s:List Mes) (root:Int) (a b c:List UInt8) (d:Int):zdD s root [a,b,c] d=(a++(b++c),0,0)/\(zW s root a d).2=0/\(zW s root b d).2=0/\(zW s root c d).2=0\/(zdD s root [a,b,c] d).2.2≠0/\(zdD s root [a,b,c] d).1=[]/\0<=(zdD s root [a,b,c] d).2.2/\(zdD s root [a,b,c] d).2.2<=255:=by
 have c1:=zfz s root a d;have c2:=zfz s root b d;have c3:=zfz s root c d;unfold zdD;by_cases h:argS s root d=0
 ·by_cases ha:(zW s root a d).2=0
  ·by_cases hb:(zW s root b d).2=0
   ·by_cases hc:(zW s root c d).2=0
    ·left;simp [h,zaJ,ha,hb,hc]
    ·right;simp only [h,zaJ,ha,hb,hc,ne_eq,yd,qg,xN,xP];exact ⟨trivial,trivial,c3⟩
   ·right;simp only [h,zaJ,ha,hb,ne_eq,yd,qg,xN,xP];exact ⟨trivial,trivial,c2⟩
  ·right;simp only [h,zaJ,ha,ne_eq,yd,qg,xN,xP];exact ⟨trivial,trivial,c1⟩
 ·right;rw [zgt h] at c1;rw [xd h];exact ⟨h,rfl,c1⟩
theorem zoc (hg:∀v u,g v=some u->u.Number=v.Number):∀{l:List Vlu},zbP l->zbP (l.filterMap g)
 | [],_=> .nil
 | v::l,h=>by
  obtain ⟨h1,h2⟩:=xS.1 h;have ih:=zoc hg h2;cases e:g v with
  | none=>rw [List.filterMap_cons_none e];exact ih
  | some u=>
   rw [List.filterMap_cons_some e];refine xS.2 ⟨fun w hw=>?_,ih⟩;obtain ⟨w',hw',e'⟩:=List.mem_filterMap.1 hw;rw [hg _ _ e,hg _ _ e'];exact h1 w' hw'
def goB (m:Mes) (w:List zcz) (v:Vlu):Bool:= !zgK w v.Number&&decide (zfI w v.Number≠[])&&decide ((zU m (fldI m v.Number)).Kind=17)&& !(zU m (fldI m v.Number)).Repeated
theorem zoL :goB m w v=true↔zgK w v.Number=false/\zfI w v.Number≠[]/\(zU m (fldI m v.Number)).Kind=17/\(zU m (fldI m v.Number)).Repeated=false:=by
 unfold goB;simp only [xg,xI,xu,and_assoc]
def inV (s:List Mes) (m:Mes) (w:List zcz) (keep:Bool) (v:Vlu):Vlu:=⟨v.Number,[],[],zhB s v.Subs (zU m (fldI m v.Number)).Of (zfI w v.Number) keep⟩
def zmw (s:List Mes) (m:Mes) (w:List zcz) (keep:Bool) (v:Vlu):Option Vlu:=if goB m w v=true then some (inV s m w keep v) else if zgK w v.Number=keep then some v else none
theorem znU (v u:Vlu) (h:zmw s m w keep v=some u):u.Number=v.Number:=by
 unfold zmw at h;split at h
 ·cases h;rfl
 ·split at h
  ·cases h;rfl
  ·cases h
theorem znV (s:List Mes) (m:Mes) (w:List zcz) (keep:Bool):∀l:List Vlu,zdv s l m w keep=l.filterMap (zmw s m w keep)
 | []=>by rw [zdv];rfl
 | v::l=>by
  rw [zdv,znV s m w keep l,zjC];by_cases hg:goB m w v=true
  ·rw [xd (zoL.1 hg),List.filterMap_cons_some (b:=inV s m w keep v) (by unfold zmw;rw [xd hg])];rfl
  ·rw [xc (fun h=>hg (zoL.2 h))];by_cases hk:zgK w v.Number=keep
   ·rw [xd hk,List.filterMap_cons_some (b:=v) (by unfold zmw;rw [xc hg,xd hk])];rfl
   ·rw [xc hk,List.filterMap_cons_none (by unfold zmw;rw [xc hg,xc hk])];rfl
theorem zvJ (hg:goB m w v=true) (hf:zex s v (zU m (fldI m v.Number))):∃y,v=⟨v.Number,[],[],[y]⟩/\zbf s y (zU m (fldI m v.Number)).Of=true/\∀keep,inV s m w keep v=⟨v.Number,[],[],[zjB s y (zU m (fldI m v.Number)).Of (zfI w v.Number) keep]⟩:=by
 obtain ⟨_,_,h3,h4⟩:=zoL.1 hg;obtain ⟨y,e,hy⟩:=hf.msg h3 h4;have hs:v.Subs=[y]:=by rw [e]
 refine ⟨y,e,hy,fun keep=>?_⟩;unfold inV;rw [hs,zhB]
theorem ztR (hf:zex s ⟨n,[],[],[y]⟩ f) (hz:zbf s z f.Of=true):zex s ⟨k,[],[],[z]⟩ f:=
 ⟨by simp [zek],(fun _=>by simp [zek]),hf.kind,(fun w hw=>nomatch hw),(fun w hw=>nomatch hw),fun w hw=>by rw [xL.1 hw];exact ⟨(hf.subs y xe).1,hz⟩⟩
theorem zxS (hv:v∈x.Values) (e:v=⟨v.Number,[],[],[y]⟩):szM y<szM x:=by
 have s1:=zdA hv;rw [zfH] at s1;have hs:v.Subs=[y]:=by rw [e]
 have s2:szM y<=szMs v.Subs:=zdz (by rw [hs];exact xe);rw [zcg x];omega
theorem zkM :∀(N:Nat) (x:Msg) (k:Int) (w:List zcz) (keep:Bool),szM x<=N->zbf s x k=true->zbf s (zjB s x k w keep) k=true
 | 0,x,k,w,keep,h,_=>by rw [zcg] at h;omega
 | N+1,x,k,w,keep,hsz,hx=>by
  obtain ⟨k0,k1,rx,hx',ux⟩:=zbI hx;rw [zmv,znV];refine zob k0 k1 (zoc znU rx) (fun v hv=>?_) fun u hu=>?_
  ·obtain ⟨v0,hv0,e⟩:=List.mem_filterMap.1 hv;obtain ⟨w0,wf⟩:=hx' v0 hv0;have hn:=znU _ _ e;unfold zmw at e;by_cases hg:goB (zw s k) w v0=true
   ·rw [xd hg] at e;have hf:=zcJ wf;obtain ⟨y,e1,hy,hin⟩:=zvJ hg hf;rw [hin] at e;have hsy:=zxS hv0 e1;rw [hn];refine ⟨w0,zrQ ?_⟩;rw [<-yc e];rw [e1] at hf;exact ztR hf (zkM N y _ _ _ (by omega) hy)
   ·rw [xc hg] at e;by_cases hk:zgK w v0.Number=keep
    ·rw [xd hk] at e;rw [<-yc e];exact ⟨w0,wf⟩
    ·rw [xc hk] at e;cases e
  ·cases keep with
   | true=>exact absurd hu (by simp)
   | false=>exact ux u hu
theorem zma (s:List Mes) (a:Msg) (m:Mes):∀(l uy:List Vlu),(zdR s l a m uy).length<=uy.length+l.length
 | [],uy=>by rw [zdR];simp
 | v::l,uy=>by
  rw [zdR];have h1:=zma s a m l (putM ⟨uy,[]⟩ (zdF s v (look a.Values v.Number) (zU m (fldI m v.Number)))).Values;have h2:=zuL uy [] (zdF s v (look a.Values v.Number) (zU m (fldI m v.Number)));simp only [xw];omega
theorem zrY :∀(N:Nat) (b a:Msg) (k:Int),szM b<=N->zbf s a k=true->zbf s b k=true->bdM a->bdM b->smM a->smM b->bdM (zgN s b a k)
 | 0,b,a,k,h,_,_,_,_,_,_=>by rw [zcg] at h;omega
 | N+1,b,a,k,hsz,ha,hb,ba,bb,sa,sb'=>by
  obtain ⟨_,_,ra,ha',_⟩:=zbI ha;obtain ⟨_,_,rb,hb',_⟩:=zbI hb;obtain ⟨j1,j2⟩:=znM ha hb;obtain ⟨a1,⟨a2,a3⟩,a4⟩:=(zlC a).1 ba;obtain ⟨b1,⟨b2,b3⟩,b4⟩:=(zlC b).1 bb;obtain ⟨sa1,⟨sa2,sa3⟩,sa4⟩:=(zrs a).1 sa;obtain ⟨sb1,⟨sb2,sb3⟩,sb4⟩:=(zrs b).1 sb';rw [zcg] at hsz;have uA:(zgN s b a k).Values.length<=a.Values.length+b.Values.length:=by rw [zhm];exact zma s a _ _ _
  have hun:(zgN s b a k).Unknown=a.Unknown++b.Unknown:=by rw [zhm]
  refine (zlC _).2 ⟨by omega,⟨by rw [hun];simp;omega,fun t ht=>by
   rw [hun] at ht;rcases xk.1 ht with h| h
   ·exact a3 t h
   ·exact b3 t h⟩,zeO.2 fun x hx=>?_⟩
  have hl:=zpV j1 hx;rw [j2] at hl;cases hlb:look b.Values x.Number with
  | none=>rw [hlb] at hl;exact zeO.1 a4 x (zdf hl).2
  | some v=>
   rw [hlb] at hl;have e:x=zdF s v (look a.Values x.Number) (zU (zw s k) (fldI (zw s k) x.Number)):=(yc hl).symm;obtain ⟨hvn,hvm⟩:=zdf hlb;have bv:=zeO.1 b4 v hvm;have sv:=zjR.1 sb4 v hvm;rw [e,zhn];cases hla:look a.Values x.Number with
   | none=>exact bv
   | some u=>
    obtain ⟨hun',hum⟩:=zdf hla;have bu:=zeO.1 a4 u hum;have su:=zjR.1 sa4 u hum;obtain ⟨v1,⟨v2,v3⟩,⟨v4,v5⟩,v6,v7⟩:=(ziD v).1 bv;obtain ⟨u1,⟨u2,u3⟩,⟨u4,u5⟩,u6,u7⟩:=(ziD u).1 bu;obtain ⟨q1,⟨q2,q3⟩,q4,q5⟩:=(zrt v).1 sv;obtain ⟨r1,⟨r2,r3⟩,r4,r5⟩:=(zrt u).1 su;simp only;split
    ·refine (ziD _).2 ⟨v1,⟨by simp;omega,fun w hw=>?_⟩,⟨by simp;omega,fun w hw=>?_⟩,by simp;omega,zeN.2 fun w hw=>?_⟩
     ·rcases xk.1 hw with h| h
      ·exact u3 w h
      ·exact v3 w h
     ·rcases xk.1 hw with h| h
      ·exact u5 w h
      ·exact v5 w h
     ·rcases xk.1 hw with h| h
      ·exact zeN.1 u7 w h
      ·exact zeN.1 v7 w h
    ·split
     ·rename_i hrep h17;have fv:=hb' v hvm;have fu:=ha' u hum;rw [hvn] at fv;rw [hun'] at fu;have ov:=zcJ fv.2;have ou:=zcJ fu.2;refine (ziD _).2 ⟨v1,⟨by simp,by simp⟩,⟨by simp,by simp⟩,?_⟩;cases hvs:v.Subs with
      | nil=>rw [zfC];exact ⟨by simp,by rw [bdMs];trivial⟩
      | cons y ys=>
       cases hus:u.Subs with
       | nil=>rw [zfC];exact ⟨by simp,by rw [bdMs];trivial⟩
       | cons z zs=>
        rw [zfC];simp only;have hy:y∈v.Subs:=by rw [hvs];exact xe
        have hz:z∈u.Subs:=by rw [hus];exact xe
        have hsv:=zdA hvm;rw [zfH] at hsv;have hsy:=zdz hy;have hj:=zrY N y z _ (by omega) (ou.subs z hz).2 (ov.subs y hy).2 (zeN.1 u7 z hz) (zeN.1 v7 y hy) (zjQ.1 r5 z hz) (zjQ.1 q5 y hy);exact ⟨by simp,by rw [bdMs,bdMs];exact ⟨hj,trivial⟩⟩
     ·exact bv
theorem zkP:∀(l m:List Vlu),szVs (l++m)=szVs l+szVs m
 | [],m=>by rw [xQ,szVs];omega
 | v::l,m=>by rw [xK,szVs,szVs,zkP l m];omega
theorem zsr :∀(N:Nat) (x:Msg) (k:Int) (w:List zcz) (keep:Bool),szM x<=N->bdM x->bdM (zjB s x k w keep)/\szM (zjB s x k w keep)<=szM x
 | 0,x,k,w,keep,h,_=>by rw [zcg] at h;omega
 | N+1,x,k,w,keep,hsz,hb=>by
  obtain ⟨b1,⟨b2,b3⟩,b4⟩:=(zlC x).1 hb;rw [zcg] at hsz;have key:∀v∈x.Values,∀f:Fld,(∀u∈zmx s v f w keep,bdV u)/\szVs (zmx s v f w keep)<=szV v:=fun v hv f=>by
   have bv:=zeO.1 b4 v hv;obtain ⟨v1,v2,v3,v6,v7⟩:=(ziD v).1 bv;have hsv:=zdA hv;have hve:=zfH v;rw [zjC];split
   ·cases hs:v.Subs with
    | nil=>
     rw [zhB];refine ⟨fun u hu=>?_,?_⟩
     ·rw [xL.1 hu];exact (ziD _).2 ⟨v1,⟨by simp,by simp⟩,⟨by simp,by simp⟩,by simp,by rw [bdMs];trivial⟩
     ·rw [szVs,szVs,zfH];simp only;rw [szMs];omega
    | cons y ys=>
     have hy:y∈v.Subs:=by rw [hs];exact xe
     have hsy:=zdz hy;obtain ⟨p1,p2⟩:=zsr N y f.Of (zfI w v.Number) keep (by omega) (zeN.1 v7 y hy);rw [zhB];refine ⟨fun u hu=>?_,?_⟩
     ·rw [xL.1 hu];exact (ziD _).2 ⟨v1,⟨by simp,by simp⟩,⟨by simp,by simp⟩,by simp,by rw [bdMs,bdMs];exact ⟨p1,trivial⟩⟩
     ·rw [szVs,szVs,zfH];simp only;rw [szMs,szMs];omega
   ·split
    ·refine ⟨(fun u hu=>by rw [xL.1 hu];exact bv),?_⟩;rw [szVs,szVs];omega
    ·exact ⟨(fun u hu=>by cases hu),(by rw [szVs];omega)⟩
  have all:∀l:List Vlu,(∀v∈l,v∈x.Values)->(∀u∈zdv s l (zw s k) w keep,bdV u)/\szVs (zdv s l (zw s k) w keep)<=szVs l/\(zdv s l (zw s k) w keep).length<=l.length:=by
   intro l
   induction l with
   | nil=>intro _;rw [zdv];exact ⟨(fun u hu=>by cases hu),xh _,xh _⟩
   | cons v l ih=>
    intro h;obtain ⟨i1,i2,i3⟩:=ih fun u hu=>h u (xf _ hu)
    obtain ⟨k1,k2⟩:=key v (h v xe) (zU (zw s k) (fldI (zw s k) v.Number));have k3:=zte s v (zU (zw s k) (fldI (zw s k) v.Number)) w keep;rw [zdv];refine ⟨fun u hu=>?_,?_,?_⟩
    ·rcases xk.1 hu with hu| hu
     ·exact k1 u hu
     ·exact i1 u hu
    ·rw [zkP,szVs];omega
    ·rw [xz,xw];omega
  obtain ⟨a1,a2,a3⟩:=all x.Values fun v hv=>hv
  rw [zmv];refine ⟨(zlC _).2 ⟨by simp only;omega,⟨?_,?_⟩,zeO.2 a1⟩,by rw [zcg,zcg];simp only;omega⟩
  ·simp only;cases keep<;>simp<;>omega
  ·simp only;cases keep with
   | true=>intro t ht;cases ht
   | false=>exact b3
theorem zxf:∀(N:Nat) (x:Msg),szM x<=N->szM x<=wgM x
 | 0,x,h=>by rw [zcg] at h;omega
 | N+1,x,h=>by
  rw [zcg] at h;have hv:∀v∈x.Values,szV v<=wgV v:=fun v hv=>by
   have h1:=zdA hv;have he:=zfH v;have:∀l:List Msg,(∀y∈l,y∈v.Subs)->szMs l<=wgMs l:=by
    intro l
    induction l with
    | nil=>intro _;rw [szMs];omega
    | cons y l ih=>
     intro hl;have hy:=hl y xe;have h2:=zdz hy;have:=zxf N y (by omega);have:=ih fun z hz=>hl z (xf _ hz)
     rw [szMs,wgMs];omega
   have:=this v.Subs fun y hy=>hy
   rw [he,zfJ];omega
  have:∀l:List Vlu,(∀v∈l,v∈x.Values)->szVs l<=wgVs l:=by
   intro l
   induction l with
   | nil=>intro _;rw [szVs];omega
   | cons v l ih=>
    intro hl;have:=hv v (hl v xe);have:=ih fun z hz=>hl z (xf _ hz)
    rw [szVs,wgVs];omega
  have:=this x.Values fun v hv=>hv
  rw [zcg,zhR];omega
theorem zxe:∀(N:Nat) (x:Msg),szM x<=N->wgM x<=1048576->smM x
 | 0,x,h,_=>by rw [zcg] at h;omega
 | N+1,x,h,hw=>by
  rw [zcg] at h;rw [zhR] at hw;have hl:=zqB x.Values;have hu:=zpa (l:=x.Unknown);refine (zrs _).2 ⟨by omega,⟨by omega,fun t ht=>by have:=zpb ht;omega⟩,zjR.2 fun v hv=>?_⟩;have h1:=zdA hv;have h2:=zqC hv;rw [zfH] at h1;rw [zfJ] at h2;have ht:=zpa (l:=v.Texts);have hs:=zqA v.Subs;refine (zrt _).2 ⟨by omega,⟨by omega,fun t ht=>by have:=zpb ht;omega⟩,by omega,zjQ.2 fun y hy=>?_⟩;have h3:=zdz hy;have h4:=zhS hy;exact zxe N y (by omega) (by omega)
theorem zjV:∀(l m:List Vlu),wgVs (l++m)=wgVs l+wgVs m
 | [],m=>by rw [xQ,wgVs];omega
 | v::l,m=>by rw [xK,wgVs,wgVs,zjV l m];omega
theorem zqz:∀(l m:List Msg),wgMs (l++m)=wgMs l+wgMs m
 | [],m=>by rw [xQ,wgMs];omega
 | v::l,m=>by rw [xK,wgMs,wgMs,zqz l m];omega
def wgO:Option Vlu->Nat
 | none=>0
 | some u=>wgV u
theorem zuM (v:Vlu):∀(d:Bool) (l:List Vlu),zbP l->wgVs (putL v d l)+wgO (look l v.Number)<=wgVs l+(if d=true then 0 else wgV v)
 | d,[],_=>by
  rw [putL];cases d
  ·show wgVs [v]+0<=_;simp [wgVs]
  ·show wgVs []+0<=_;simp
 | d,u::l,h=>by
  obtain ⟨h1,h2⟩:=xS.1 h;have ih:=zuM v (d|| decide (v.Number<=u.Number)) l h2;rw [putL,zjV,zjV,zcL,wgVs];by_cases he:u.Number=v.Number
  ·rw [xd he,xd he];have hn:look l v.Number=none:=zsg fun x hx=>by have:=h1 x hx;omega
   rw [hn] at ih;have hle:decide (v.Number<=u.Number)=true:=by simp;omega
   rw [hle,yQ,xd rfl] at ih;simp only [wgO,wgVs,hle,yQ] at ih|-;cases d
   ·rw [xd ⟨rfl,by omega⟩,wgVs,wgVs];simp;omega
   ·rw [xc (by simp),wgVs];simp;omega
  ·rw [xc he,xc he,wgVs,wgVs];cases d
   ·by_cases hv:v.Number<=u.Number
    ·rw [xd ⟨rfl,hv⟩,wgVs,wgVs];simp only [hv,decide_true,yQ,xN,qm,xP] at ih|-;omega
    ·rw [xc (fun hh=>hv hh.2),wgVs];simp only [hv,decide_false,yW,qm,xP] at ih|-;omega
   ·rw [xc (by simp),wgVs];simp only [Bool.true_or,xN] at ih|-;omega
theorem znI :∀(l uy:List Vlu),zbP l->zbP uy->(∀v∈l,look uy v.Number=look a.Values v.Number)->(∀v∈l,wgV (zdF s v (look a.Values v.Number) (zU m (fldI m v.Number)))<=wgV v+wgO (look a.Values v.Number))->wgVs (zdR s l a m uy)<=wgVs uy+wgVs l
 | [],uy,_,_,_,_=>by rw [zdR];omega
 | v::l,uy,hl,ha,he,hw=>by
  obtain ⟨l1,l2⟩:=xS.1 hl;have hv:=he v xe;have hwv:=hw v xe;have hn:=znH s v (look a.Values v.Number) (zU m (fldI m v.Number));rw [zdR]
  generalize zdF s v (look a.Values v.Number) (zU m (fldI m v.Number))=v' at hn hwv|-
  have hp:=zuM v' (decide (zek v'=0)) uy ha;have ih:=znI (s:=s) (a:=a) (m:=m) l (putM ⟨uy,[]⟩ v').Values l2 (zhE ha) (fun u hu=>by
   show look (putL v' _ uy) u.Number=_;have:=l1 u hu;rw [zmh ha,xc (by omega)];exact he u (xf _ hu)) (fun u hu=>hw u (xf _ hu))
  have hq:wgVs (putM ⟨uy,[]⟩ v').Values=wgVs (putL v' (decide (zek v'=0)) uy):=rfl;rw [hn,hv] at hp;rw [wgVs];split at hp<;>omega
theorem zrZ :∀(N:Nat) (b a:Msg) (k:Int),szM b<=N->zbf s a k=true->zbf s b k=true->wgM (zgN s b a k)<=wgM a+wgM b
 | 0,b,a,k,h,_,_=>by rw [zcg] at h;omega
 | N+1,b,a,k,hsz,ha,hb=>by
  obtain ⟨_,_,ra,ha',_⟩:=zbI ha;obtain ⟨_,_,rb,hb',_⟩:=zbI hb;rw [zcg] at hsz;have:=znI (s:=s) (a:=a) (m:=zw s k) b.Values a.Values rb ra (fun _ _=>rfl) fun v hv=>by
   rw [zhn];cases hla:look a.Values v.Number with
   | none=>simp only [wgO];omega
   | some u=>
    obtain ⟨hun,hum⟩:=zdf hla;have hve:=zfJ v;have hue:=zfJ u;simp only [wgO];split
    ·rw [zfJ];simp only [xz,yB,List.sum_append,zqz];omega
    ·split
     ·rename_i hrep h17;have ov:=zcJ (hb' v hv).2;have ou:=zcJ (ha' u hum).2;rw [hun] at ou;have hsv:=zdA hv;rw [zfH] at hsv;rw [zfJ];simp only [yp,yS,List.sum_nil];cases hvs:v.Subs with
      | nil=>rw [zfC,wgMs];omega
      | cons y ys=>
       cases hus:u.Subs with
       | nil=>rw [zfC,wgMs];omega
       | cons z zs=>
        rw [zfC];have hy:y∈v.Subs:=by rw [hvs];exact xe
        have hz:z∈u.Subs:=by rw [hus];exact xe
        have hsy:=zdz hy;have hj:=zrZ N y z _ (by omega) (ou.subs z hz).2 (ov.subs y hy).2;have w1:=zhS hy;have w2:=zhS hz;rw [wgMs,wgMs];omega
     ·omega
  rw [zhm,zhR,zhR,zhR];simp only [yB,List.sum_append];omega
theorem zss :∀(N:Nat) (x:Msg) (k:Int) (w:List zcz) (keep:Bool),szM x<=N->wgM (zjB s x k w keep)<=wgM x
 | 0,x,k,w,keep,h=>by rw [zcg] at h;omega
 | N+1,x,k,w,keep,hsz=>by
  rw [zcg] at hsz;have key:∀v∈x.Values,∀f:Fld,wgVs (zmx s v f w keep)<=wgV v:=fun v hv f=>by
   have hsv:=zdA hv;rw [zfH] at hsv;have hve:=zfJ v;rw [zjC];split
   ·cases hs:v.Subs with
    | nil=>
     rw [zhB,wgVs,wgVs,zfJ];simp only [yp,yS,List.sum_nil];rw [wgMs];omega
    | cons y ys=>
     have hy:y∈v.Subs:=by rw [hs];exact xe
     have hsy:=zdz hy;have hwy:=zhS hy;have:=zss (s:=s) N y f.Of (zfI w v.Number) keep (by omega);rw [zhB,wgVs,wgVs,zfJ];simp only [yp,yS,List.sum_nil];rw [wgMs,wgMs];omega
   ·split
    ·rw [wgVs,wgVs];omega
    ·rw [wgVs];omega
  have all:∀l:List Vlu,(∀v∈l,v∈x.Values)->wgVs (zdv s l (zw s k) w keep)<=wgVs l:=by
   intro l
   induction l with
   | nil=>intro _;rw [zdv];exact xh _
   | cons v l ih=>
    intro h;have i2:=ih fun u hu=>h u (xf _ hu)
    have k2:=key v (h v xe) (zU (zw s k) (fldI (zw s k) v.Number));rw [zdv,zjV,wgVs];omega
  have:=all x.Values fun v hv=>hv
  rw [zmv,zhR,zhR];simp only;cases keep<;>simp<;>omega
structure Gd (s:List Mes) (root:Int) (n:Nat) (x:Msg):Prop where
 r:zbf s x root=true
 b:bdM x
 w:wgM x<=n
theorem Gd.s {s:List Mes} {root:Int} {n:Nat} {x:Msg} (h:Gd s root n x) (hn:n<=1048576):smM x:=zxe _ x (xh _) (xW h.w hn)
theorem Gd.z {s:List Mes} {root:Int} {n uw:Nat} {x:Msg} (h:Gd s root n x) (hn:n<uw):szM x<uw:=Nat.lt_of_le_of_lt (xW (zxf _ x (xh _)) h.w) hn
theorem Gd.join {s:List Mes} {root:Int} {n m:Nat} {a b:Msg} (ha:Gd s root n a) (hb:Gd s root m b) (hn:n<=1048576) (hm:m<=1048576):Gd s root (n+m) (zgN s b a root):=
 ⟨zkH _ b a root (xh _) ha.r hb.r,zrY _ b a root (xh _) ha.r hb.r ha.b hb.b (ha.s hn) (hb.s hm),xW (zrZ _ b a root (xh _) ha.r hb.r) (Nat.add_le_add ha.w hb.w)⟩
theorem Gd.part {s:List Mes} {root:Int} {n:Nat} {a:Msg} (ha:Gd s root n a) (w:List zcz) (keep:Bool):Gd s root n (zjB s a root w keep):=
 ⟨zkM _ a root w keep (xh _) ha.r,(zsr _ a root w keep (xh _) ha.b).1,xW (zss _ a root w keep (xh _)) ha.w⟩
theorem zwk:∀a<256,zjS ((a:Nat):Int)=some (if a<128 then (1,(a:Int)) else if a/32=6 then (2,((a%32:Nat):Int)) else if a/16=14 then (3,((a%16:Nat):Int)) else if a/8=30 then (4,((a%8:Nat):Int)) else (0,0)):=by decide+kernel
theorem zoZ (w k:Nat) (h:k<=32):shrI .u32 (w:Int) (k:Int)=((w/2^k:Nat):Int):=zmJ (k:= .u32) (a:=w) (b:=k) (by simpa [IntKind.bits] using h)
theorem zln (w:Nat):zgm (w:Int)=some (if w<128 then 1 else if w<2048 then 2 else if 55296<=w/\w<=57343 then 0 else if w<65536 then 3 else if w<=1114111 then 4 else 0):=by
 unfold zgm;have e7:shrI .u32 (w:Int) 7=((w/128:Nat):Int):=zoZ w 7 (by omega);have e11:shrI .u32 (w:Int) 11=((w/2048:Nat):Int):=zoZ w 11 (by omega);have e16:shrI .u32 (w:Int) 16=((w/65536:Nat):Int):=zoZ w 16 (by omega);rw [e7,e11,e16];by_cases h1:w<128
 ·rw [pd,xd h1]
 ·rw [pf,xc h1];by_cases h2:w<2048
  ·rw [pd,xd h2]
  ·rw [pf,xc h2];by_cases h3:55296<=w/\w<=57343
   ·rw [pd,xd h3]
   ·rw [pf,xc h3];by_cases h4:w<65536
    ·rw [pd,xd h4]
    ·rw [pf,xc h4];by_cases h5:w<=1114111
     ·rw [pd,xd h5]
     ·rw [pf,xc h5]
theorem zsW:∀c<256,shrI .u8 ((c:Nat):Int) 6=((c/64:Nat):Int)/\u32.wrap (andI .u8 ((c:Nat):Int) 63)=((c%64:Nat):Int):=by decide+kernel
theorem zeJ {v:List UInt8} {w i:Nat} (h:i<v.length) (hv:v.length<=1000) (hw:w<=1000000):
  zax v w i=if cont v[i] then zax v ((64*w+v[i].toNat%64:Nat):Int) ((i+1:Nat):Int) else some (.inr ()):=by
 have hc:=v[i].toNat_lt;obtain ⟨e1,e2⟩:=zsW v[i].toNat (by omega);have hb:zbV v w i=if cont v[i] then some (.inl (((64*w+v[i].toNat%64:Nat):Int),((i+1:Nat):Int))) else some (.inr (.inr ())):=by
  unfold zbV;rw [pd,zaF rfl h,sb,e1,e2];by_cases hk:cont v[i]=true
  ·rw [xd hk];unfold cont at hk;simp only [xu] at hk;rw [pf,pg];have e3:shlI .u32 (w:Int) 6=((w*64:Nat):Int):=by
    have:shlI .u32 (w:Int) 6=((w*64%4294967296:Nat):Int):=by simp [shlI,IntKind.bits,zqG]
    rw [this,qt (by omega)]
   rw [e3,zsq rfl (by simp [IntKind.bits];omega) (by simp [IntKind.bits];omega),Nat.or_comm,zpZ _ w 6 (by omega)];have e4:v[i].toNat%64+w*2^6=64*w+v[i].toNat%64:=by omega
   rw [e4];rfl
  ·rw [xc hk];unfold cont at hk;simp only [xu] at hk;rw [pd]
 by_cases hk:cont v[i]=true
 ·rw [xd hk] at hb|-;exact zlc hb
 ·rw [xc hk] at hb|-;exact zgQ hb
theorem zjr (h:v.length<=i):zax v w i=some (.inl (w:Int)):=by
 refine zgQ ?_;unfold zbV;rw [pf]
theorem zyp {w:Nat} {b:UInt8} (hw:w<=100):zax [b] w 0=if cont b then some (.inl ((64*w+b.toNat%64:Nat):Int)) else some (.inr ()):=by
 have h:=zeJ (v:=[b]) (w:=w) (i:=0) (by simp) (by simp) (by omega);refine Eq.trans h ?_;simp only [qS];rw [zjr (by simp)]
theorem zyq {w:Nat} {b c:UInt8} (hw:w<=100):zax [b,c] w 0=if cont b then (if cont c then some (.inl ((64*(64*w+b.toNat%64)+c.toNat%64:Nat):Int)) else some (.inr ())) else some (.inr ()):=by
 have h:=zeJ (v:=[b,c]) (w:=w) (i:=0) (by simp) (by simp) (by omega);refine Eq.trans h ?_;rw [zeJ (i:=0+1) (by simp) (by simp) (by omega)];simp only [qS,ql,xJ];rw [zjr (by simp)]
theorem zyr {w:Nat} {b c d:UInt8} (hw:w<=100):zax [b,c,d] w 0=if cont b then (if cont c then (if cont d then some (.inl ((64*(64*(64*w+b.toNat%64)+c.toNat%64)+d.toNat%64:Nat):Int)) else some (.inr ())) else some (.inr ())) else some (.inr ()):=by
 have h:=zeJ (v:=[b,c,d]) (w:=w) (i:=0) (by simp) (by simp) (by omega);refine Eq.trans h ?_;rw [zeJ (i:=0+1) (by simp) (by simp) (by omega),zeJ (i:=0+1+1) (by simp) (by simp) (by omega)];simp only [qS,ql,xJ];rw [zjr (by simp)]
theorem zuF (n:Nat) (h:∀m,m≠n->isN m l=false):nxt l=if isN n l then n else 0:=by
 by_cases hn:isN n l=true
 ·rw [xd hn,zxK hn]
 ·rw [xc hn];by_cases h0:nxt l=0
  ·exact h0
  ·have h1:=zlp h0;by_cases h2:nxt l=n
   ·rw [h2] at h1;exact absurd h1 hn
   ·rw [h _ h2] at h1;cases h1
theorem zfY (n:Nat) (h:n=1/\a.toNat<128\/n=2/\192<=a.toNat/\a.toNat<224\/n=3/\224<=a.toNat/\a.toNat<240\/n=4/\240<=a.toNat):nxt (a::t)=if isN n (a::t) then n else 0:=by
 refine zuF n fun m hm=>?_
 cases hh:isN m (a::t) with
 | false=>rfl
 | true=>
  obtain ⟨a',t',e,_,g⟩:=zeT hh;cases e;omega
theorem zsc (b:List UInt8):zgl b=some ((nxt b:Nat):Int):=by
 cases b with
 | nil=>rfl
 | cons a t=>
  have ha:=a.toNat_lt;unfold zgl;have e00:idx (a::t) (0:Int)=some a:=zaF (n:=0) rfl (by simp);rw [pf,e00,sb];rw [zwk _ (by omega),sb];by_cases h1:a.toNat<128
  ·rw [zfY 1 (.inl ⟨rfl,h1⟩),xd h1];simp only;rw [pf,zfA (i:=1) (j:=1) (a:=1) (b:=1) rfl rfl (by omega) (by simp),sb];have e0:zax (((a::t).drop 1).take (1 - 1)) (a.toNat:Int) 0=some (.inl (a.toNat:Int)):=zjr (i:=0) (by simp);rw [e0,sb];simp only;rw [zln,sb,xd h1,q9];simp [isN,is1,h1]
  ·rw [xc h1];by_cases h2:a.toNat/32=6
   ·rw [zfY 2 (.inr (.inl ⟨rfl,by omega,by omega⟩)),xd h2];simp only
    match t with
    | []=>rw [itT (by simp)];rfl
    | b::t=>
     rw [pf,zfA (i:=1) (j:=2) (a:=1) (b:=2) rfl rfl (by omega) (by simp),sb];have e0:=zyp (w:=a.toNat%32) (b:=b) (by omega);have e0':zax (((a::b::t).drop 1).take (2 - 1)) ((a.toNat%32:Nat):Int) 0=_:=e0;rw [e0'];have hb:=b.toNat_lt;by_cases c1:cont b=true
     ·rw [xd c1,sb];simp only;have hn:=zln (64*(a.toNat%32)+b.toNat%64);simp only [isN,is2,c1,and_true,xu];simp only [cont,xu] at c1;by_cases h:194<=a.toNat
      ·rw [xc (by omega),xd (by omega)] at hn;rw [hn,sb,q9,xd (by omega)];rfl
      ·rw [xd (by omega)] at hn;rw [hn,sb,q8,xc (by omega)];rfl
     ·rw [xc c1,sb];simp only;simp [isN,is2,c1]
   ·rw [xc h2];by_cases h3:a.toNat/16=14
    ·rw [zfY 3 (.inr (.inr (.inl ⟨rfl,by omega,by omega⟩))),xd h3];simp only
     match t with
     | []=>rw [itT (by simp)];rfl
     | [b]=>rw [itT (by simp)];rfl
     | b::c::t=>
      rw [pf,zfA (i:=1) (j:=3) (a:=1) (b:=3) rfl rfl (by omega) (by simp),sb];have e0:=zyq (w:=a.toNat%16) (b:=b) (c:=c) (by omega);have e0':zax (((a::b::c::t).drop 1).take (3 - 1)) ((a.toNat%16:Nat):Int) 0=_:=e0;rw [e0'];have hb:=b.toNat_lt;have hc:=c.toNat_lt;by_cases c1:cont b=true
      ·rw [xd c1];by_cases c2:cont c=true
       ·rw [xd c2,sb];simp only;have hn:=zln (64*(64*(a.toNat%16)+b.toNat%64)+c.toNat%64);simp only [isN,is3,c1,c2,true_and,xu];simp only [cont,xu] at c1 c2;by_cases h:(a.toNat=224->160<=b.toNat)/\(a.toNat=237->b.toNat<160)
        ·rw [xc (by omega),xc (by omega),xc (by omega),xd (by omega)] at hn;rw [hn,sb,q9,xd (by omega)];rfl
        ·by_cases g:64*(64*(a.toNat%16)+b.toNat%64)+c.toNat%64<2048
         ·by_cases g':64*(64*(a.toNat%16)+b.toNat%64)+c.toNat%64<128
          ·rw [xd g'] at hn;rw [hn,sb,q8,xc (by omega)];rfl
          ·rw [xc g',xd g] at hn;rw [hn,sb,q8,xc (by omega)];rfl
         ·rw [xc (by omega),xc g,xd (by omega)] at hn;rw [hn,sb,q8,xc (by omega)];rfl
       ·rw [xc c2,sb];simp only;simp [isN,is3,c2]
      ·rw [xc c1,sb];simp only;simp [isN,is3,c1]
    ·rw [xc h3];by_cases h4:a.toNat/8=30
     ·rw [zfY 4 (.inr (.inr (.inr ⟨rfl,by omega⟩))),xd h4];simp only
      match t with
      | []=>rw [itT (by simp)];rfl
      | [b]=>rw [itT (by simp)];rfl
      | [b,c]=>rw [itT (by simp)];rfl
      | b::c::d::t=>
       rw [pf,zfA (i:=1) (j:=4) (a:=1) (b:=4) rfl rfl (by omega) (by simp),sb];have e0:=zyr (w:=a.toNat%8) (b:=b) (c:=c) (d:=d) (by omega);have e0':zax (((a::b::c::d::t).drop 1).take (4 - 1)) ((a.toNat%8:Nat):Int) 0=_:=e0;rw [e0'];have hb:=b.toNat_lt;have hc:=c.toNat_lt;have hd:=d.toNat_lt;by_cases c1:cont b=true
       ·rw [xd c1];by_cases c2:cont c=true
        ·rw [xd c2];by_cases c3:cont d=true
         ·rw [xd c3,sb];simp only;have hn:=zln (64*(64*(64*(a.toNat%8)+b.toNat%64)+c.toNat%64)+d.toNat%64);simp only [isN,is4,c1,c2,c3,true_and,xu];simp only [cont,xu] at c1 c2 c3;by_cases h:a.toNat<245/\(a.toNat=240->144<=b.toNat)/\(a.toNat=244->b.toNat<144)
          ·rw [xc (by omega),xc (by omega),xc (by omega),xc (by omega),xd (by omega)] at hn;rw [hn,sb,q9,xd (by omega)];rfl
          ·have hw:¬(65536<=64*(64*(64*(a.toNat%8)+b.toNat%64)+c.toNat%64)+d.toNat%64/\64*(64*(64*(a.toNat%8)+b.toNat%64)+c.toNat%64)+d.toNat%64<=1114111):=by omega
           generalize 64*(64*(64*(a.toNat%8)+b.toNat%64)+c.toNat%64)+d.toNat%64=w at hn hw
           have hx:∃x:Int,zgm w=some x/\x≠4:=⟨_,hn,by (repeat' split)<;>omega⟩;obtain ⟨x,hx,h4⟩:=hx;rw [hx,sb,pd,xc (by omega)];rfl
         ·rw [xc c3,sb];simp only;simp [isN,is4,c3]
        ·rw [xc c2,sb];simp only;simp [isN,is4,c2]
       ·rw [xc c1,sb];simp only;simp [isN,is4,c1]
     ·rw [xc h4,q8];by_cases h5:240<=a.toNat
      ·rw [zfY 4 (.inr (.inr (.inr ⟨rfl,h5⟩)))];cases hh:isN 4 (a::t) with
       | false=>rfl
       | true=>
        match t,hh with
        | b::c::d::t,hh=>simp only [isN,is4,xu] at hh;omega
      ·by_cases h0:nxt (a::t)=0
       ·rw [h0];rfl
       ·obtain ⟨a',t',e,_,g⟩:=zeT (zlp h0);cases e;omega
theorem zty (hb:b.length<=1152921504606846976) (l:List UInt8):∀(a c:Nat),c<=a->a<=b.length->l=b.drop a->
  zcG b a c ((nxt l:Nat):Int)=some (((a+(pre4 l).1:Nat):Int),((c+(pre4 l).2:Nat):Int)):=by
 refine zuK (fun l=>∀(a c:Nat),c<=a->a<=b.length->l=b.drop a->zcG b a c ((nxt l:Nat):Int)=some (((a+(pre4 l).1:Nat):Int),((c+(pre4 l).2:Nat):Int))) ?_ ?_ l
 ·intro l h a c hc ha hl;rw [h,ztg h];refine zle ?_;unfold zcF;rw [q9];rfl
 ·intro l h ih a c hc ha hl;subst hl;have h4:=zwj (b.drop a);have hle:=zmn (b.drop a);simp only [xG] at hle;have e1:(b.drop a).drop (nxt (b.drop a))=b.drop (a+nxt (b.drop a)):=by rw [xZ]
  refine (zld (atv':=((a+nxt (b.drop a):Nat):Int)) (points':=((c+1:Nat):Int)) (size':=((nxt (b.drop (a+nxt (b.drop a))):Nat):Int)) ?_).trans ?_
  ·unfold zcF;rw [pd,pg,zje (a:=a+nxt (b.drop a)) (by push_cast;rfl) rfl (by omega),sb,zsc,sb,pg];rfl
  ·rw [<-e1,ih (a+nxt (b.drop a)) (c+1) (by omega) (by omega) e1,zwn h];simp only [yI,Nat.add_comm 1]
theorem zvi (hb:b.length<=1152921504606846976):zhN b=some (((pre4 b).1:Int),((pre4 b).2:Int)):=by
 unfold zhN;rw [zsc,sb];have h:=zty hb b 0 0 (xh _) (xq _) rfl;simp only [xJ] at h;have h':zcG b 0 0 ((nxt b:Nat):Int)=some (((pre4 b).1:Int),((pre4 b).2:Int)):=h;rw [h',sb]
theorem zts (hb:b.length<=1152921504606846976):zgj b=some ((pre4 b).1:Int):=by
 unfold zgj;rw [zvi hb,sb]
theorem ztt (hb:b.length<=1152921504606846976):zgk b=some (zhG b):=by
 unfold zgk zhG;rw [zts hb,sb,zvE]
def zxJ:List Str:=[[],[105,110,116,51,50],[105,110,116,54,52],[117,105,110,116,51,50],[117,105,110,116,54,52],[115,105,110,116,51,50],[115,105,110,116,54,52],[98,111,111,108],[101,110,117,109],[102,105,120,101,100,51,50],[115,102,105,120,101,100,51,50],[102,108,111,97,116],[102,105,120,101,100,54,52],[115,102,105,120,101,100,54,52],[100,111,117,98,108,101],[115,116,114,105,110,103],[98,121,116,101,115],[109,101,115,115,97,103,101]]
def zug (k:Int):Str:=(zxJ[k.toNat]?).getD []
def kT:List (Int×zj):=[(1,⟨[105,110,116,51,50],0⟩),(2,⟨[105,110,116,54,52],0⟩),(3,⟨[117,105,110,116,51,50],0⟩),(4,⟨[117,105,110,116,54,52],0⟩),(5,⟨[115,105,110,116,51,50],0⟩),(6,⟨[115,105,110,116,54,52],0⟩),(7,⟨[98,111,111,108],0⟩),(8,⟨[101,110,117,109],0⟩),(9,⟨[102,105,120,101,100,51,50],5⟩),(10,⟨[115,102,105,120,101,100,51,50],5⟩),(11,⟨[102,108,111,97,116],5⟩),(12,⟨[102,105,120,101,100,54,52],1⟩),(13,⟨[115,102,105,120,101,100,54,52],1⟩),(14,⟨[100,111,117,98,108,101],1⟩),(15,⟨[115,116,114,105,110,103],2⟩),(16,⟨[98,121,116,101,115],2⟩),(17,⟨[109,101,115,115,97,103,101],2⟩)]
theorem zpT:zeV=some kT:=rfl
theorem zkN (h:zbL k=true):k=1\/k=2\/k=3\/k=4\/k=5\/k=6\/k=7\/k=8\/k=9\/k=10\/k=11\/k=12\/k=13\/k=14\/k=15\/k=16\/k=17:=by
 have:=yo h;omega
theorem zxt (h:zbL k=true):mget kT k=some ⟨zug k,zdu k⟩:=by
 rcases zkN h with rfl| rfl| rfl| rfl| rfl| rfl| rfl| rfl| rfl| rfl| rfl| rfl| rfl| rfl| rfl| rfl| rfl<;>rfl
theorem zvR (h:e∈kT):zbL e.1=true/\e.2=⟨zug e.1,zdu e.1⟩:=by
 have:kT.all (fun e=>zbL e.1&&decide (e.2=⟨zug e.1,zdu e.1⟩))=true:=by decide
 have h1:=xl.1 this e h;simp only [xg,xu] at h1;exact h1
theorem zvS (h:zbL k=false):mget kT k=none:=by
 cases hg:mget kT k with
 | none=>rfl
 | some x=>
  have mem:∀{m:List (Int×zj)} {x:zj},mget m k=some x->(k,x)∈m:=fun {m x} hg=>by
   induction m with
   | nil=>cases hg
   | cons p m ih=>
    rw [mget] at hg;split at hg
    ·rename_i e;cases hg;rw [e];exact xe
    ·exact xf _ (ih hg)
  have h1:=(zvR (mem hg)).1;simp only at h1;rw [h] at h1;cases h1
theorem zpU (k:Int):zeI k=some (if zbL k then (zdu k,0) else (0,2)):=by
 unfold zeI;rw [zpT,sb];cases h:zbL k with
 | true=>rw [zxt h];rfl
 | false=>rw [zvS h];rfl
theorem zmc (k:Int):zde k=some (kNum k):=by
 unfold zde;rw [zpU,sb];cases h:zbL k with
 | true=>
  rcases zkN h with rfl| rfl| rfl| rfl| rfl| rfl| rfl| rfl| rfl| rfl| rfl| rfl| rfl| rfl| rfl| rfl| rfl<;>rfl
 | false=>
  have h1:=qT h;have:kNum k=false:=xT (by omega);rw [this];rfl
theorem zvV:kT.map Prod.fst=[1,2,3,4,5,6,7,8,9,10,11,12,13,14,15,16,17]:=rfl
theorem zvT:zhq=some [1,2,3,4,5,6,7,8,9,10,11,12,13,14,15,16,17]:=by
 have e:zpR kT=some [1,2,3,4,5,6,7,8,9,10,11,12,13,14,15,16,17]:=by
  unfold zpR;rw [xd ⟨by decide,by decide⟩,zvV,List.mergeSort_of_pairwise (by decide)]
 unfold zhq;rw [zpT,sb,e,sb]
theorem zsS (k:Int) (h:0<=w/\w<=18446744073709551615):zeU k w=some (if kNum k then (zds k w,0) else (0,2)):=by
 have hs:=zuV w;have hc:=zps k h;unfold zeU;by_cases h1:k=1\/k=8
 ·have e:(if (k==1)=true then some (k==1) else some (k==8))=some true:=by rcases h1 with rfl| rfl<;>rfl
  have hn:kNum k=true:=xR (by omega);rw [e,sb,itT rfl,zto,sb,ztz (by omega),sb,hn];unfold zds;rw [xd h1];rfl
 ·have e:(if (k==1)=true then some (k==1) else some (k==8))=some false:=by rw [pf];simp;omega
  rw [e,sb,itF rfl];by_cases h2:k=3\/k=5\/k=9\/k=10\/k=11
  ·have e2:(if (k==3)=true then some (k==3) else if (k==5)=true then some (k==5) else if (k==9)=true then some (k==9) else if (k==10)=true then some (k==10) else some (k==11))=some true:=by
    rcases h2 with rfl| rfl| rfl| rfl| rfl<;>rfl
   have hn:kNum k=true:=xR (by omega);have hw:u64.wrap (w%4294967296)=w%4294967296:=by rw [zhT];omega
   rw [e2,sb,itT rfl,zpW,sb,hn,hw];unfold zds;rw [xc h1,xd h2];rfl
  ·have e2:(if (k==3)=true then some (k==3) else if (k==5)=true then some (k==5) else if (k==9)=true then some (k==9) else if (k==10)=true then some (k==10) else some (k==11))=some false:=by
    rw [pf,pf,pf,pf];simp;omega
   rw [e2,sb,itF rfl];by_cases h7:k=7
   ·have hn:kNum k=true:=xR (by omega);rw [itT (by simpa using h7),hn];unfold zgx zds;rw [sb,xc h1,xc h2,xd h7];by_cases h0:0<w
    ·rw [xd h0];by_cases h10:1<w
     ·rw [xd h10];rfl
     ·rw [xc h10,show w=1 by omega];rfl
    ·rw [xc h0,xc (by omega),show w=0 by omega];rfl
   ·rw [itF (by simpa using h7)];by_cases hn:kNum k=true
    ·have hk:=yo hn;have e3:(if (k==2)=true then some (k==2) else if (k==4)=true then some (k==4) else if (k==6)=true then some (k==6) else if (k==12)=true then some (k==12) else if (k==13)=true then some (k==13) else some (k==14))=some true:=by
      have:k=2\/k=4\/k=6\/k=12\/k=13\/k=14:=by omega
      rcases this with rfl| rfl| rfl| rfl| rfl| rfl<;>rfl
     rw [e3,sb,itT rfl,hn];unfold zds;rw [xc h1,xc h2,xc h7];rfl
    ·have hn:kNum k=false:=by simpa using hn
     have hk:=qT hn;have e3:(if (k==2)=true then some (k==2) else if (k==4)=true then some (k==4) else if (k==6)=true then some (k==6) else if (k==12)=true then some (k==12) else if (k==13)=true then some (k==13) else some (k==14))=some false:=by
      rw [pf,pf,pf,pf,pf];simp;omega
     rw [e3,sb,itF rfl,hn];rfl
def lt7 (c:UInt8):Bool:=decide (97<=c.toNat/\c.toNat<=122\/65<=c.toNat/\c.toNat<=90\/c.toNat=95)
def dg7 (c:UInt8):Bool:=decide (48<=c.toNat/\c.toNat<=57)
theorem zlV (c:UInt8):zbQ (c.toNat:Int)=some (dg7 c):=by
 unfold zbQ dg7;congr 1;rw [xU];simp;omega
theorem zpJ (c:UInt8):zcl (c.toNat:Int)=some (lt7 c):=by
 unfold zcl lt7;congr 1;by_cases h1:(c.toNat:Int)>=97<;>by_cases h2:(c.toNat:Int)>=65<;>simp only [h1,h2,decide_true,decide_false,xN,xP,qm]<;>rw [xU]<;>simp<;>omega
theorem zpK (s:List UInt8) (hs:s.length<=1152921504606846976):∀(l:List UInt8) (i:Nat),s.drop i=l->zbv s i=some (if (l.all fun c=>lt7 c|| dg7 c)=true then .inl () else .inr ()):=by
 intro l
 induction l with
 | nil=>
  intro i hd;have:=zjZ hd;refine zep ?_;unfold zaY;rw [pf];rfl
 | cons c l ih=>
  intro i hd;obtain ⟨hi,hc,hd'⟩:=ziF hd;have hb:zaY s i=if (lt7 c|| dg7 c)=true then some (.inl ((i+1:Nat):Int)) else some (.inr (.inr ())):=by
   unfold zaY;rw [pd,zaF rfl hi,sb,hc,zpJ,sb,sb,zlV,pg];cases lt7 c<;>cases dg7 c<;>rfl
  rw [yf];cases hk:(lt7 c|| dg7 c) with
  | false=>
   rw [hk] at hb;rw [zep hb];rfl
  | true=>
   rw [hk] at hb;rw [zhI hb,ih _ hd',qh]
theorem zsn:∀(l:List UInt8) (i:Nat),0<i->nmA i l=l.all fun c=>lt7 c|| dg7 c
 | [],_,_=>rfl
 | c::l,i,h=>by
  rw [nmA,zsn l (i+1) (by omega),yf];congr 1;unfold nmc lt7 dg7;rw [xU];simp;omega
theorem znD (hs:s.length<=1152921504606846976):zcs s=some (zcP s):=by
 unfold zcs zcP;have hl:=zpK s hs s 0 rfl;have hl':zbv s 0=_:=hl;cases s with
 | nil=>rfl
 | cons c l=>
  rw [itF (by simp)];by_cases h60:((c::l).length:Int)>60
  ·rw [itT (by simpa using h60),sb,itT rfl];have:decide (1<=(c::l).length/\(c::l).length<=60)=false:=by simp only [qZ];omega
   rw [this,Bool.and_false]
  ·have hd:decide (1<=(c::l).length/\(c::l).length<=60)=true:=by simp only [xu];refine ⟨by simp,by omega⟩
   have hc:idx (c::l) 0=some c:=by simp [idx]
   rw [itF (by simpa using h60),hc,sb,zlV,sb,sb,hd,Bool.and_true,hl',sb];have e:nmA 0 (c::l)=(lt7 c&&l.all fun c=>lt7 c|| dg7 c):=by
    rw [nmA,zsn l 1 (by omega)];congr 1;unfold nmc lt7;rw [xU];simp;omega
   have hx:lt7 c=true->dg7 c=false:=by
    unfold lt7 dg7;simp only [xu,qZ];omega
   rw [e,yf];cases h1:lt7 c<;>cases h2:dg7 c<;>first| (rw [hx h1] at h2;cases h2;done)| skip
   ·rfl
   ·rfl
   ·cases l.all fun c=>lt7 c|| dg7 c<;>rfl
theorem ztW (hl:l.length<=1152921504606846976) (v:Int):zaD l v=some (zgv (fun x=>v==x) l):=by
 unfold zaD;have h:=znw (fun x=>v==x) l (fun i=>zai l v i) (zbR (by unfold zZ;rw [itF (by simp)])) (fun i hi=>by
  by_cases hp:(v==l[i])=true
  ·rw [xd hp];exact zbR (by unfold zZ;rw [pd,zaF rfl hi,sb,itT hp])
  ·rw [xc hp];exact zdV (by unfold zZ;rw [pd,zaF rfl hi,sb,itF (by simpa using hp),pg];rfl)) l.length 0 (by omega) (fun j _ h=>by omega)
 have h':zai l v 0=_:=h;rw [h',sb];unfold zgv;cases l.findIdx? (fun x=>v==x)<;>rfl
theorem znc {α:Type} (p:α->Bool) (l:List α):decide (zgv p l>=0)=l.any p:=by
 cases h:l.findIdx? p with
 | none=>
  rw [zkD h];rw [qj] at h
  symm
  rw [List.any_eq_false.2 fun x hx=>by simpa using h x hx];rfl
 | some i=>
  rw [zkE h];rw [qN] at h;obtain ⟨hi,hp,_⟩:=h
  symm
  rw [qe.2 ⟨l[i],x8 hi,hp⟩];simp
theorem zpu (hl:l.length<=1152921504606846976) (v:Int):zap l v=some (l.any fun x=>v==x):=by
 unfold zap;rw [ztW hl,sb,znc]
def K17:List Int:=[1,2,3,4,5,6,7,8,9,10,11,12,13,14,15,16,17]
theorem zsT (k:Int):(K17.any fun x=>k==x)=zbL k:=by
 unfold zbL K17;rw [xU];simp;omega
def hasN (m:List (zk×Bool)) (i:Int) (n:Str):Bool:=(mget m (⟨i,n⟩:zk)).getD false
def hasU (m:List (zm×Bool)) (i:Int) (n:Int):Bool:=(mget m (⟨i,n⟩:zm)).getD false
theorem zfT (m:List (zk×Bool)) (i j:Int) (n k:Str):hasN (mput m ⟨i,n⟩ true) j k=(decide (j=i/\k=n)|| hasN m j k):=by
 unfold hasN;rw [zfW];by_cases h:j=i/\k=n
 ·obtain ⟨rfl,rfl⟩:=h;simp
 ·rw [xc (fun e=>h (by injection e with e1 e2;exact ⟨e1,e2⟩))];simp [h]
theorem zpF (m:List (zm×Bool)) (i j:Int) (n k:Int):hasU (mput m ⟨i,n⟩ true) j k=(decide (j=i/\k=n)|| hasU m j k):=by
 unfold hasU;rw [zfW];by_cases h:j=i/\k=n
 ·obtain ⟨rfl,rfl⟩:=h;simp
 ·rw [xc (fun e=>h (by injection e with e1 e2;exact ⟨e1,e2⟩))];simp [h]
theorem zpL (n:Int):zcm n=some (decide ¬(n<1\/n>536870911\/(19000<=n/\n<20000))):=by
 unfold zcm;congr 1;rw [xU];simp;omega
theorem zrh (f:Fld):zcD f=some (f.Repeated&&kNum f.Kind):=by
 unfold zcD;rw [zmc];cases f.Repeated<;>rfl
theorem zun (n:Int) (K:List Int) (nm:List (zk×Bool)) (nu:List (zm×Bool)) (f:Fld):zbA ⟨n,K,nm,nu⟩ f=some (decide ¬(f.Kind=17/\(f.Of<0\/f.Of>=n)\/f.Kind≠17/\f.Of≠0)):=by
 unfold zbA;by_cases h:f.Kind=17
 ·rw [itT (by simpa using h)];congr 1;rw [xU];simp [h]
 ·rw [itF (by simpa using h)];congr 1;rw [xU];simp [h]
theorem ztP (hf:f.Name.length<=1152921504606846976) (hN:hasN nm i f.Name=prev.any fun g=>g.Name==f.Name) (hU:hasU nu i f.Number=prev.any fun g=>g.Number==f.Number):
  zbz ⟨n,K17,nm,nu⟩ i f=some (zaI n prev f,if zaI n prev f=0 then (mput nm ⟨i,f.Name⟩ true,mput nu ⟨i,f.Number⟩ true) else (nm,nu)):=by
 unfold zbz;rw [znD hf,sb];have e1:(mget nm (⟨i,f.Name⟩:zk)).getD false=hasN nm i f.Name:=rfl;have e2:(mget nu (⟨i,f.Number⟩:zm)).getD false=hasU nu i f.Number:=rfl;simp only [e1,e2,hN,hU];have hz:∀(k:Int) (x y:List (zk×Bool)×List (zm×Bool)),k≠0->(if k=0 then x else y)=y:=fun k x y h=>xc h
 by_cases h1:zcP f.Name=false
 ·have hF:zaI n prev f=5:=by unfold zaI;rw [xd h1]
  rw [hF,hz 5 _ _ (by decide),itT (by rw [h1];rfl)]
 rw [itF (show (!zcP f.Name)=false by simpa using h1)];by_cases h2:(prev.any fun g=>g.Name==f.Name)=true
 ·have hF:zaI n prev f=6:=by unfold zaI;rw [xc h1,xd h2]
  rw [hF,hz 6 _ _ (by decide),itT h2]
 have h2':(prev.any fun g=>g.Name==f.Name)=false:=qn h2;rw [itF h2',zpL,sb];by_cases h3:f.Number<1\/f.Number>536870911\/(19000<=f.Number/\f.Number<20000)
 ·have hF:zaI n prev f=7:=by unfold zaI;rw [xc h1,xc h2,xd h3]
  rw [hF,hz 7 _ _ (by decide),itT (by rw [xT (fun h=>h h3)];rfl)]
 rw [itF (by rw [xR h3];rfl)];by_cases h4:(prev.any fun g=>g.Number==f.Number)=true
 ·have hF:zaI n prev f=8:=by unfold zaI;rw [xc h1,xc h2,xc h3,xd h4]
  rw [hF,hz 8 _ _ (by decide),itT h4]
 have h4':(prev.any fun g=>g.Number==f.Number)=false:=qn h4;rw [itF h4',zpu (by decide),sb,zsT];by_cases h5:zbL f.Kind=false
 ·have hF:zaI n prev f=9:=by unfold zaI;rw [xc h1,xc h2,xc h3,xc h4,xd h5]
  rw [hF,hz 9 _ _ (by decide),itT (by rw [h5];rfl)]
 rw [itF (show (!zbL f.Kind)=false by simpa using h5),zrh];have hg:(if f.Packed=true then (some (f.Repeated&&kNum f.Kind)>>=fun rv4=>some (!rv4)) else some false)=some (decide (f.Packed=true/\¬(f.Repeated=true/\kNum f.Kind=true))):=by
  cases f.Packed<;>cases f.Repeated<;>cases kNum f.Kind<;>rfl
 rw [hg,sb];by_cases h6:f.Packed=true/\¬(f.Repeated=true/\kNum f.Kind=true)
 ·have hF:zaI n prev f=10:=by unfold zaI;rw [xc h1,xc h2,xc h3,xc h4,xc h5,xd h6]
  rw [hF,hz 10 _ _ (by decide),itT (xR h6)]
 rw [itF (xT h6),zun,sb];by_cases h7:f.Kind=17/\(f.Of<0\/f.Of>=n)\/f.Kind≠17/\f.Of≠0
 ·have hF:zaI n prev f=11:=by unfold zaI;rw [xc h1,xc h2,xc h3,xc h4,xc h5,xc h6,xd h7]
  rw [hF,hz 11 _ _ (by decide),itT (by rw [xT (fun h=>h h7)];rfl)]
 have hF:zaI n prev f=0:=by unfold zaI;rw [xc h1,xc h2,xc h3,xc h4,xc h5,xc h6,xc h7]
 rw [hF,xd rfl,itF (by rw [xR h7];rfl)]
theorem zri {n:Int} {nm:List (zk×Bool)} {nu:List (zm×Bool)} {prev:List Mes} {m:Mes} (hm:m.Name.length<=1152921504606846976) (hN:hasN nm (-1) m.Name=prev.any fun g=>g.Name==m.Name):
  zbg ⟨n,K17,nm,nu⟩ m=some (if zcP m.Name=false then (2,nm,nu) else if (prev.any fun g=>g.Name==m.Name)=true then (3,nm,nu) else if 200<m.Fields.length then (4,nm,nu) else (0,mput nm ⟨-1,m.Name⟩ true,nu)):=by
 unfold zbg;rw [znD hm,sb];have e1:(mget nm (⟨(-1),m.Name⟩:zk)).getD false=hasN nm (-1) m.Name:=rfl;simp only [e1,hN];by_cases h1:zcP m.Name=false
 ·rw [xd h1,itT (show (!zcP m.Name)=true by rw [h1];rfl)]
 rw [xc h1,itF (show (!zcP m.Name)=false by simpa using h1)];by_cases h2:(prev.any fun g=>g.Name==m.Name)=true
 ·rw [xd h2,itT h2]
 have h2':(prev.any fun g=>g.Name==m.Name)=false:=qn h2;rw [xc h2,itF h2'];by_cases h3:200<m.Fields.length
 ·rw [xd h3,itT (show decide ((m.Fields.length:Int)>200)=true by simp;omega)]
 rw [xc h3,itF (show decide ((m.Fields.length:Int)>200)=false by simp;omega)]
structure Met (nm:List (zk×Bool)) (nu:List (zm×Bool)) (i:Nat) (prev:List Mes) (p:List Fld):Prop where
 mes:∀n,hasN nm (-1) n=prev.any fun g=>g.Name==n
 nam:∀n,hasN nm i n=p.any fun g=>g.Name==n
 num:∀n,hasU nu i n=p.any fun g=>g.Number==n
 later:∀(j:Nat) n,i<j->hasN nm j n=false
 laterU:∀(j:Nat) n,i<j->hasU nu j n=false
theorem Met.step (h:Met nm nu i prev p) (f:Fld):Met (mput nm ⟨i,f.Name⟩ true) (mput nu ⟨i,f.Number⟩ true) i prev (p++[f]):=by
 refine ⟨fun n=>?_,fun n=>?_,fun n=>?_,fun j n hj=>?_,fun j n hj=>?_⟩
 ·rw [zfT,h.mes,xT (by omega),Bool.false_or]
 ·rw [zfT,h.nam,yX,Bool.or_comm];congr 1;simp only [qU,List.any_nil,yW];rw [xU];simp;exact eq_comm
 ·rw [zpF,h.num,yX,Bool.or_comm];congr 1;simp only [qU,List.any_nil,yW];rw [xU];simp;exact eq_comm
 ·rw [zfT,h.later j n hj,xT (by omega)];rfl
 ·rw [zpF,h.laterU j n hj,xT (by omega)];rfl
theorem ztN (hb:m.Fields.length<=140737488351232) (hn:∀f∈m.Fields,f.Name.length<=140737488351232):
  ∀(l:List Fld) (k:Nat) (nm:List (zk×Bool)) (nu:List (zm×Bool)),m.Fields.drop k=l->k<=m.Fields.length->Met nm nu i prev (m.Fields.take k)->
   (∃j w,msgF s.length (m.Fields.take k) l=some (j,w)/\zaT K17 s i m k nm nu=some (.inr ((j:Int),w)))\/
   (msgF s.length (m.Fields.take k) l=none/\∃nm' nu',zaT K17 s i m k nm nu=some (.inl (nm',nu'))/\Met nm' nu' i prev m.Fields):=by
 intro l
 induction l with
 | nil=>
  intro k nm nu hd hk hM;have:=zjZ hd;have hkl:k=m.Fields.length:=by omega
  subst hkl;refine .inr ⟨rfl,nm,nu,zez ?_,by simpa using hM⟩;unfold zaz;rw [itF (by simp)]
 | cons f l ih=>
  intro k nm nu hd hk hM;obtain ⟨hi,hc,hd'⟩:=ziF hd;have hf:=hn f (by rw [<-hc];exact x8 hi);have hfld:=ztP (n:=(s.length:Int)) (i:=(i:Int)) (nm:=nm) (nu:=nu) (prev:=m.Fields.take k) (f:=f) (by omega) (hM.nam _) (hM.num _);have htk:m.Fields.take (k+1)=m.Fields.take k++[f]:=by rw [q6 hi,hc]
  have uA:(m.Fields.take k).length=k:=by simp;omega
  obtain ⟨bd,_⟩:=zpy (s.length:Int) (m.Fields.take k) f;rw [msgF];by_cases h0:zaI s.length (m.Fields.take k) f=0
  ·rw [xc (by omega)];rw [h0,xd rfl] at hfld;have hstep:zaz K17 s i m k nm nu=some (.inl (((k+1:Nat):Int),mput nm ⟨i,f.Name⟩ true,mput nu ⟨i,f.Number⟩ true)):=by
    unfold zaz;rw [pd,zaF rfl hi,sb,hc,hfld,sb];dsimp only;rw [itF (show ((0:Int) !=0)=false from rfl),pg];rfl
   rw [zim hstep,<-htk];exact ih (k+1) _ _ hd' (by omega) (by rw [htk];exact hM.step f)
  ·rw [xd (by omega)];rw [xc h0] at hfld;refine .inl ⟨k,_,by rw [uA],zez ?_⟩;unfold zaz;rw [pd,zaF rfl hi,sb,hc,hfld,sb];dsimp only;rw [itT (show (zaI (s.length:Int) (m.Fields.take k) f !=0)=true by simpa using h0)]
theorem ztM {s:List Mes} (hw:WS s):∀(l:List Mes) (i:Nat) (nm:List (zk×Bool)) (nu:List (zm×Bool)),s.drop i=l->i<=s.length->Met nm nu i (s.take i) []->
  zbG K17 s i nm nu=some (match chkF s.length (s.take i) l with| some (j,k,w)=> .inr ((j:Int),k,w)| none=> .inl ()):=by
 intro l
 induction l with
 | nil=>
  intro i nm nu hd hi hM;have:=zjZ hd;refine zbo ?_;unfold zag;rw [pf];rfl
 | cons m l ih=>
  intro i nm nu hd hi hM;obtain ⟨hil,hc,hd'⟩:=ziF hd;obtain ⟨w1,w2⟩:=hw;obtain ⟨m1,m2,m3⟩:=w2 m (by rw [<-hc];exact x8 hil);have hmes:=zri (n:=(s.length:Int)) (nm:=nm) (nu:=nu) (prev:=s.take i) (m:=m) (by omega) (hM.mes _);have htk:s.take (i+1)=s.take i++[m]:=by rw [q6 hil,hc]
  have uA:(s.take i).length=i:=by simp;omega
  rw [chkF];by_cases h1:zcP m.Name=false
  ·rw [xd h1] at hmes|-;refine zbo ?_;unfold zag;rw [pd,zaF rfl hil,sb,hc,hmes,sb];dsimp only;rw [itT (show ((2:Int) !=0)=true from rfl),uA]
  rw [xc h1] at hmes|-;by_cases h2:((s.take i).any fun g=>g.Name==m.Name)=true
  ·rw [xd h2] at hmes|-;refine zbo ?_;unfold zag;rw [pd,zaF rfl hil,sb,hc,hmes,sb];dsimp only;rw [itT (show ((3:Int) !=0)=true from rfl),uA]
  rw [xc h2] at hmes|-;by_cases h3:200<m.Fields.length
  ·rw [xd h3] at hmes|-;refine zbo ?_;unfold zag;rw [pd,zaF rfl hil,sb,hc,hmes,sb];dsimp only;rw [itT (show ((4:Int) !=0)=true from rfl),uA]
  rw [xc h3] at hmes|-;have hM0:Met (mput nm ⟨-1,m.Name⟩ true) nu i (s.take i++[m]) (m.Fields.take 0):=by
   refine ⟨fun n=>?_,fun n=>?_,fun n=>?_,fun j n hj=>?_,fun j n hj=>hM.laterU j n hj⟩
   ·rw [zfT,hM.mes,yX,Bool.or_comm];congr 1;simp only [qU,List.any_nil,yW];rw [xU];simp;exact eq_comm
   ·rw [zfT,hM.nam,xT (by omega)];rfl
   ·rw [hM.num];rfl
   ·rw [zfT,hM.later j n hj,xT (by omega)];rfl
  have hl2:=ztN (s:=s) (i:=i) m2 m3 m.Fields 0 _ nu rfl (by omega) hM0;simp only [qk] at hl2;rcases hl2 with ⟨j,w,g1,g2⟩| ⟨g1,nm',nu',g2,g3⟩
  ·rw [g1];refine zbo ?_;unfold zag;have g2':zaT K17 s i m 0 (mput nm ⟨-1,m.Name⟩ true) nu=_:=g2;rw [pd,zaF rfl hil,sb,hc,hmes,sb];dsimp only;rw [itF (show ((0:Int) !=0)=false from rfl),g2',sb];simp only [uA]
  ·rw [g1];have hstep:zag K17 s i nm nu=some (.inl (((i+1:Nat):Int),nm',nu')):=by
    unfold zag;have g2':zaT K17 s i m 0 (mput nm ⟨-1,m.Name⟩ true) nu=_:=g2;rw [pd,zaF rfl hil,sb,hc,hmes,sb];dsimp only;rw [itF (show ((0:Int) !=0)=false from rfl),g2',sb];dsimp only;rw [pg];rfl
   rw [zil hstep];simp only [];rw [<-htk];refine ih (i+1) nm' nu' hd' (by omega) ⟨fun n=>?_,fun n=>?_,fun n=>?_,fun j n hj=>g3.later j n (by omega),fun j n hj=>g3.laterU j n (by omega)⟩
   ·rw [htk];exact g3.mes n
   ·rw [g3.later (i+1) n (by omega)];rfl
   ·rw [g3.laterU (i+1) n (by omega)];rfl
theorem ztL (hw:WS s):zdx s=some (⟨(zeQ s).1,(zeQ s).2.1,(zeQ s).2.2⟩,if (zeQ s).2.2=0 then 0 else 9):=by
 unfold zdx zeQ;by_cases h:s.length=0\/100<s.length
 ·rw [pd,xd h];rfl
 ·rw [pf,xc h,zvT,sb];have hl:=ztM hw s 0 [] [] rfl (by omega) ⟨fun n=>rfl,fun n=>rfl,fun n=>rfl,fun j n _=>rfl,fun j n _=>rfl⟩;simp only [qk] at hl;have hl':zbG [1,2,3,4,5,6,7,8,9,10,11,12,13,14,15,16,17] s 0 [] []=_:=hl;rw [hl',sb];cases hc:chkF s.length [] s with
  | none=>rfl
  | some q=>
   obtain ⟨i,k,w⟩:=q;have:=zrK _ _ _ _ _ _ hc;simp only;rw [xc (by omega)]
theorem zuP (hw:WS s):zdy s=some (zmD s):=by
 unfold zdy zmD;rw [ztL hw,sb];by_cases h:(zeQ s).2.2=0<;>simp [h]
theorem zqF (h:(zcR k b).2=0):kNum k=true/\(pcs k b).2=0/\(zcR k b).1=(pcs k b).1.map (zvr k):=by
 unfold zcR at h|-;cases hn:kNum k with
 | false=>rw [hn,xd rfl] at h;simp at h
 | true=>
  rw [hn,xc (by simp)] at h;rw [xc (by simp)];by_cases h0:(pcs k b).2=0
  ·rw [xd h0];exact ⟨rfl,h0,rfl⟩
  ·rw [xc h0] at h;exact absurd h h0
theorem zrE (h:(zcR k b).2≠0):(zcR k b).1=[]/\((zcR k b).2=2\/(zcR k b).2=3\/(zcR k b).2=4):=by
 unfold zcR at h|-;by_cases hn:kNum k=false
 ·rw [xd hn];simp
 ·rw [xc hn] at h|-;by_cases h0:(pcs k b).2=0
  ·rw [xd h0] at h;exact absurd rfl h
  ·rw [xc h0];rcases zqc k b with h1| h1| h1
   ·exact absurd h1 h0
   ·rw [h1];simp
   ·rw [h1];simp
def wid (k:Int):Nat:=if 12<=k then 8 else if 9<=k then 4 else 0
theorem ztp (k:Int):zdw k=some (if kNum k then ((wid k:Int),0) else (0,2)):=by
 cases hn:kNum k with
 | true=>
  have h:=zmb.1 hn;have hk:k=1\/k=2\/k=3\/k=4\/k=5\/k=6\/k=7\/k=8\/k=9\/k=10\/k=11\/k=12\/k=13\/k=14:=by omega
  rcases hk with rfl| rfl| rfl| rfl| rfl| rfl| rfl| rfl| rfl| rfl| rfl| rfl| rfl| rfl<;>rfl
 | false=>
  have h:=qT hn;unfold zdw;have hne:∀c:Int,1<=c->c<=14->(k==c)=false:=fun c h1 h2=>by simp;omega
  simp only [hne 1 (by omega) (by omega),hne 2 (by omega) (by omega),hne 3 (by omega) (by omega),hne 4 (by omega) (by omega),hne 5 (by omega) (by omega),hne 6 (by omega) (by omega),hne 7 (by omega) (by omega),hne 8 (by omega) (by omega),hne 9 (by omega) (by omega),hne 10 (by omega) (by omega),hne 11 (by omega) (by omega),hne 12 (by omega) (by omega),hne 13 (by omega) (by omega),hne 14 (by omega) (by omega)];rfl
theorem zuY (h:0<=w/\w<=18446744073709551615):zeo k w=some (if kNum k then ((sPut k w).length:Int) else 0):=by
 have hc:=zps k h;obtain ⟨c,hcc⟩:∃c:Nat,zds k w=c:=⟨(zds k w).toNat,by omega⟩;unfold zeo;rw [ztp,sb];cases hn:kNum k with
 | false=>rfl
 | true=>
  simp only [xN];unfold sPut zrr;rw [hcc,xB];unfold wid;by_cases h1:12<=k
  ·rw [xd h1,xd h1,q8,zcS]
  ·rw [xc h1,xc h1];by_cases h2:9<=k
   ·rw [xd h2,xd h2,q8,zcS]
   ·rw [xc h2,xc h2,q9,zsS k h,sb,hn];simp only [xN];rw [hcc,zxC (by omega),sb,zrO]
theorem znt {α:Type} {l t:List α} {x:α} {k:Nat} (h:l.drop k=x::t):∃hk:k<l.length,l[k]=x/\l.drop (k+1)=t:=by
 have hk:k<l.length:=by
  rcases yb k l.length with h'| h'
  ·exact h'
  ·rw [qE h'] at h;cases h
 rw [yG hk] at h;injection h with h1 h2;exact ⟨hk,h1,h2⟩
theorem zoC (l:List (List UInt8)) (hl:l.length<=1099511627776):∀(t:List (List UInt8)) (k s:Nat),l.drop k=t->s+t.flatten.length<=1099511627776->
  zab l s k=some ((s+t.flatten.length:Nat):Int):=by
 intro t
 induction t with
 | nil=>
  intro k s hd _;have hk:l.length<=k:=by have:=congrArg List.length hd;simp at this;omega
  refine zdo ?_;unfold zR;rw [pf];simp
 | cons x t ih=>
  intro k s hd hs;obtain ⟨hk,hx,hd'⟩:=znt hd;simp only [yO,xz] at hs;refine (zdn (size':=((s+x.length:Nat):Int)) (v':=((k+1:Nat):Int)) ?_).trans ?_
  ·unfold zR;rw [pd,zaF rfl hk,sb,hx,pg,pf,pg];push_cast;rfl
  ·rw [ih _ _ hd' (by omega)];simp only [yO,xz];congr 2;omega
theorem zoD (l:List (List UInt8)) (hl:l.length<=1099511627776):∀(t:List (List UInt8)) (k:Nat) (uy:List UInt8),l.drop k=t->uy.length+t.flatten.length<=1099511627776->
  zac l uy k=some (uy++t.flatten):=by
 intro t
 induction t with
 | nil=>
  intro k uy hd _;have hk:l.length<=k:=by have:=congrArg List.length hd;simp at this;omega
  refine zdq ?_;unfold zS;rw [pf];simp
 | cons x t ih=>
  intro k uy hd hs;obtain ⟨hk,hx,hd'⟩:=znt hd;simp only [yO,xz] at hs;refine (zdp (newslice':=uy++x) (v2':=((k+1:Nat):Int)) ?_).trans ?_
  ·unfold zS;rw [pd,zaF rfl hk,sb,hx,zqK (by omega),sb,pg];push_cast;rfl
  ·rw [ih _ _ hd' (by rw [xz];omega)];simp
theorem zvK {n:Nat} (h:n<=1099511627776):zay (n:Int)=some []:=by
 unfold zay;have e:i64.wrap ((n:Int) - i64.wrap (0 - 0))=n:=by rw [zH (x:=0 - 0) (by omega),pg];omega
 rw [itF (by simp),e];by_cases h0:(n:Int)>0
 ·rw [itT (by simpa using h0),zxI (a:=n) rfl (Int.le_refl _) (by omega),sb];have e0:cut (List.replicate n (0:UInt8)) 0 0=some []:=zpw (b:=0) rfl (xq _);rw [e0,sb]
 ·rw [itF (by simpa using h0)]
theorem zns (hl:l.length<=1099511627776) (h:l.flatten.length<=1099511627776):zah l=some l.flatten:=by
 unfold zah;have h1:=zoC l hl l 0 0 rfl (by omega);have h1':zab l 0 0=_:=h1;have h2:=zoD l hl l 0 [] rfl (by simpa using h);have h2':zac l [] 0=_:=h2;rw [h1',sb,zvK (by omega),sb,h2',sb];simp
def wid9 (k:Int):Int:=if kNum k then (if 12<=k then 8 else if 9<=k then 4 else 1) else 0
theorem znh (hk:kNum k=true):(((sPut k 0).length:Nat):Int)=(if 12<=k then 8 else if 9<=k then 4 else 1):=by
 have hk':=zmb.1 hk;have hc:(zds k 0).toNat=0:=by
  have:k=1\/k=2\/k=3\/k=4\/k=5\/k=6\/k=7\/k=8\/k=9\/k=10\/k=11\/k=12\/k=13\/k=14:=by omega
  rcases this with h| h| h| h| h| h| h| h| h| h| h| h| h| h<;>subst h<;>decide
 unfold sPut;rw [hc];unfold zrr;by_cases h1:12<=k
 ·rw [xd h1,xd h1,zcS];rfl
 ·rw [xc h1,xc h1];by_cases h2:9<=k
  ·rw [xd h2,xd h2,zcS];rfl
  ·rw [xc h2,xc h2,zrO];simp [lenN]
theorem ztm (k:Int):zge k=some (wid9 k):=by
 unfold zge wid9;rw [zuY (by omega),sb];cases hk:kNum k with
 | false=>rfl
 | true=>simp only [xN];rw [znh hk]
theorem zsD (hk:kNum k=true):(k<9->wid9 k=1)/\(¬k<9->k<12->wid9 k=4)/\(¬k<12->wid9 k=8):=by
 unfold wid9;rw [hk,xd rfl];refine ⟨fun h=>?_,fun h1 h2=>?_,fun h=>?_⟩
 ·rw [xc (show ¬12<=k by omega),xc (show ¬9<=k by omega)]
 ·rw [xc (show ¬12<=k by omega),xd (show 9<=k by omega)]
 ·rw [xd (show 12<=k by omega)]
theorem zvn (hk:kNum k=false):wid9 k=0:=by unfold wid9;rw [hk];rfl
theorem zwC (hk:kNum k=true):(wid9 k==0)=false:=by
 obtain ⟨h1,h2,h3⟩:=zsD hk;by_cases h9:k<9
 ·rw [h1 h9];rfl
 ·by_cases h12:k<12
  ·rw [h2 h9 h12];rfl
  ·rw [h3 h12];rfl
theorem znZ (hk:kNum k=true) (b:List UInt8):zgd (wid9 k) b=some (match zhL k b with| .inl c=>(0,c)| .inr n=>((n:Int),0)):=by
 obtain ⟨w1,w2,w3⟩:=zsD hk;unfold zgd zhL;by_cases h9:k<9
 ·rw [w1 h9,q8,zsv,sb,xd h9];rcases zjF b with h| ⟨h,_⟩| ⟨x,c,y,e,hx,hc,hl,hv,h⟩
  ·rw [h];rfl
  ·rw [h];rfl
  ·rw [h,xc (by simp)];simp
 ·rw [xc h9];by_cases h12:k<12
  ·rw [w2 h9 h12,q9,xd h12];by_cases hl:b.length<4
   ·rw [pd,xd hl]
   ·rw [pf,xc hl];rfl
  ·rw [w3 h12,q9,xc h12];by_cases hl:b.length<8
   ·rw [pd,xd hl]
   ·rw [pf,xc hl];rfl
def zhP (k:Int) (b:List UInt8):List (List UInt8)×Int:=if kNum k=false then ([],2) else pcs k b
def go9 {σ ρ:Type} (kb:σ->(List UInt8×Int)->Option (σ⊕ρ)):List (List UInt8)->Int->σ->Option (σ⊕ρ)
 | [],c,s=>if c=0 then some (.inl s) else kb s ([],c)
 | p::ps,c,s=>match kb s (p,0) with
  | some (.inl s')=>go9 kb ps c s'
  | some (.inr r)=>some (.inr r)
  | none=>none
theorem zrp {σ ρ χ:Type} {kb:σ->χ->Option (σ⊕ρ)} {s:σ} {x:χ} {o:σ⊕ρ} (h:kb s x=some o):∃c,rnd kb (.inl s) x=some (c,o)/\(c=true/\(∃s',o= .inl s')\/c=false/\∃r,o= .inr r):=by
 cases o with
 | inl s'=>exact ⟨true,by simp only [rnd,h],.inl ⟨rfl,s',rfl⟩⟩
 | inr r=>exact ⟨false,by simp only [rnd,h],.inr ⟨rfl,r,rfl⟩⟩
theorem zyB {σ ρ:Type} (kb:σ->(List UInt8×Int)->Option (σ⊕ρ)) {k:Int} (hk:kNum k=true) (b:List UInt8):∀(s:σ) (o:σ⊕ρ),go9 kb (pcs k b).1 (pcs k b).2 s=some o->
  ∃q,zbF (rnd kb) (wid9 k) b (.inl s)=some q/\(q= .inl o\/q= .inr o):=by
 refine zls k (fun b=>∀(s:σ) (o:σ⊕ρ),go9 kb (pcs k b).1 (pcs k b).2 s=some o->
  ∃q,zbF (rnd kb) (wid9 k) b (.inl s)=some q/\(q= .inl o\/q= .inr o)) ?_ ?_ ?_ b
 ·intro s o h;rw [zlt] at h;have h':some (.inl s)=some o:=h;refine ⟨.inl o,zcQ ?_,.inl rfl⟩;unfold zaq;rw [q9,<-yc h']
 ·intro l c hl hu hc s o h;rw [zlr hl hu] at h;have h':kb s ([],c)=some o:=by
   have h2:(if c=0 then some (.inl s) else kb s ([],c))=some o:=h
   rwa [xc (by omega)] at h2
  obtain ⟨t,ht,_⟩:=zrp h';refine ⟨.inr o,zcQ ?_,.inr rfl⟩;have hp:=yq.2 hl;unfold zaq;rw [pd,znZ hk,sb,hu];simp only;rw [zfA (i:=0) (j:=0) (a:=0) (b:=0) rfl rfl (xh _) (xq _),sb];simp only [yU,Nat.sub_self,qk];rw [ht,sb,pd]
 ·intro l n hl hu g1 g2 g3 ih s o h;rw [zjD hl hu] at h;have hp:=yq.2 hl;have hbody:∀{t:Bool} {y:σ⊕ρ},rnd kb (.inl s) (l.take n,0)=some (t,y)->zaq (rnd kb) (wid9 k) l (.inl s)=(if t then some (.inl (l.drop n,y)) else some (.inr (.inr y))):=by
   intro t y ht;unfold zaq;rw [pd,znZ hk,sb,hu];simp only;rw [zfA (i:=0) (j:=(n:Int)) (a:=0) (b:=n) rfl rfl (xq _) g2,sb];simp only [yU,yT];rw [ht,sb];cases t with
   | false=>rw [q8];rfl
   | true=>rw [q9,zje (a:=n) rfl rfl g2,sb];rfl
  simp only [go9] at h;cases hb:kb s (l.take n,0) with
  | none=>rw [hb] at h;cases h
  | some z=>
   rw [hb] at h;obtain ⟨t,ht,hcase⟩:=zrp hb;have hB:=hbody ht;rcases hcase with ⟨rfl,s',rfl⟩| ⟨rfl,r,rfl⟩
   ·obtain ⟨q,hq,hq'⟩:=ih s' o h;exact ⟨q,by rw [zik hB];exact hq,hq'⟩
   ·have h':some (.inr r)=some o:=h;exact ⟨.inr (.inr r),zcQ hB,.inr (by rw [yc h'])⟩
theorem zwB {σ ρ:Type} (kb:σ->(List UInt8×Int)->Option (σ⊕ρ)) (k:Int) (b:List UInt8) {s:σ} {o:σ⊕ρ} (h:go9 kb (zhP k b).1 (zhP k b).2 s=some o):zcf k b (rnd kb) (.inl s)=some o:=by
 unfold zcf;rw [ztm,sb];unfold zhP at h;cases hk:kNum k with
 | false=>
  rw [hk,xd rfl] at h;have h':kb s ([],2)=some o:=h;obtain ⟨t,ht,_⟩:=zrp h';rw [zvn hk,q8,ht,sb]
 | true=>
  rw [hk,xc (by simp)] at h;have hw:=zwC hk;obtain ⟨q,hq,hq'⟩:=zyB kb hk b s o h;rw [itF hw,hq,sb];rcases hq' with rfl| rfl<;>rfl
theorem zrA (k:Int) (b:List UInt8):(zhP k b).2=(zcR k b).2/\((zcR k b).2=0->(zhP k b).1=(pcs k b).1)/\(∀p∈(zhP k b).1,znx (zdu k) p=true/\1<=p.length/\p.length<=10)/\(zhP k b).1.length<=b.length/\((zhP k b).1=[]\/kNum k=true):=by
 unfold zhP zcR;by_cases hn:kNum k=false
 ·rw [xd hn,xd hn];exact ⟨rfl,fun h=>by simp at h,(fun p hp=>by cases hp),xq _,.inl rfl⟩
 ·have hk:kNum k=true:=by simpa using hn
  rw [xc hn,xc hn];refine ⟨?_,fun _=>rfl,zuI hk b,zwm k b,.inr hk⟩;by_cases h0:(pcs k b).2=0
  ·rw [xd h0];exact h0
  ·rw [xc h0]
theorem zpv (c:Int):∀(ps:List (List UInt8)) (n:Nat),n+ps.length<=1048576->
  go9 (fun (s:Int) (x:List UInt8×Int)=>zbJ s x.1 x.2) ps c (n:Int)=some (if c=0 then .inl ((n+ps.length:Nat):Int) else .inr (c,((n+ps.length:Nat):Int)))
 | [],n,hl=>by
  simp only [go9,yp,yg];by_cases h0:c=0
  ·rw [xd h0,xd h0]
  ·rw [xc h0,xc h0];unfold zbJ;rw [itT (by simpa using h0)]
 | p::ps,n,hl=>by
  simp only [xw] at hl;have h1:zbJ (n:Int) p 0=some (.inl ((n+1:Nat):Int)):=by
   unfold zbJ;rw [q9,pg];rfl
  simp only [go9,h1];rw [zpv c ps (n+1) (by omega)];simp only [xw];rw [Nat.add_right_comm,yI]
theorem zth (k:Int) {b:List UInt8} (hb:b.length<=1048576):zgc k b=some (((zcR k b).1.length:Int),(zcR k b).2):=by
 obtain ⟨h1,h2,h3,h4,h5⟩:=zrA k b;unfold zgc zgH;rw [sb];simp only;have hgo:=zpv (zhP k b).2 (zhP k b).1 0 (by omega);rw [zwB (s:=(0:Int)) _ k b hgo,sb,h1];by_cases h0:(zcR k b).2=0
 ·rw [xd h0,h2 h0];simp only;rw [(zqF h0).2.2,h0];simp
 ·rw [xc h0];simp only;rw [(zrE h0).1];rfl
abbrev PVw:=za
def prV (v:Vw):PVw:=⟨v.R,v.Field,v.Run⟩
theorem zmT (m:Mes) (he:∀p c,e=some (p,c)->3<=c/\c<=5):∀(l:List Rec) (p c:Int),(vws m e l).2=some (p,c)->3<=c/\c<=6
 | [],p,c,h=>by
  cases e with
  | none=>cases h
  | some q=>
   simp only [vws,ym,xD,xO] at h;have:=he q.1 q.2 rfl;omega
 | r::l,p,c,h=>by
  rw [vws] at h;rcases zcV m r.Number r.Wire with hv| ⟨hv,_⟩| ⟨i,run,hv,_⟩
  ·simp only [hv,xD,xO] at h;omega
  ·simp only [hv] at h;exact zmT m he l p c h
  ·simp only [hv] at h;exact zmT m he l p c h
theorem zxQ (b:List UInt8):∀p c,(spl 0 b).2=some (p,c)->3<=c/\c<=5:=fun p c h=>by
 have:=(zuX 0 b p c h).1;omega
theorem zhe (m:Mes) (b:List UInt8):(zau m b).2.2=0/\(vws m (spl 0 b).2 (spl 0 b).1).2=none/\(zau m b).1=(vws m (spl 0 b).2 (spl 0 b).1).1/\(zau m b).2.1=0\/(3<=(zau m b).2.2/\(zau m b).2.2<=6)/\(zau m b).1=[]:=by
 unfold zau vwR;cases h:(vws m (spl 0 b).2 (spl 0 b).1).2 with
 | none=>exact .inl ⟨rfl,rfl,rfl,rfl⟩
 | some q=>exact .inr ⟨zmT m (zxQ b) _ q.1 q.2 h,rfl⟩
theorem zjU :∀{l:List Rec},(vws m e l).2=none->e=none/\(vws m e l).1.map (·.R)=l
 | [],h=>by
  cases e with
  | none=>exact ⟨rfl,rfl⟩
  | some q=>simp [vws] at h
 | r::l,h=>by
  rw [vws] at h|-;rcases zcV m r.Number r.Wire with hv| ⟨hv,_⟩| ⟨i,run,hv,_⟩
  ·simp only [hv] at h;cases h
  ·simp only [hv] at h|-;have:=zjU h;exact ⟨this.1,by simp [this.2]⟩
  ·simp only [hv] at h|-;have:=zjU h;exact ⟨this.1,by simp [this.2]⟩
theorem zqy :∀{l:List Rec},∀v∈(vws m e l).1,v.R∈l/\vw m v.R.Number v.R.Wire= .inr (v.Field,v.Run)
 | [],v,h=>by cases h
 | r::l,v,h=>by
  rw [vws] at h;rcases zcV m r.Number r.Wire with hv| ⟨hv,_⟩| ⟨i,run,hv,_⟩
  ·simp only [hv] at h;cases h
  all_goals
   simp only [hv] at h;rcases xj.1 h with rfl| h
   ·exact ⟨xe,hv⟩
   ·have:=zqy v h;exact ⟨xf _ this.1,this.2⟩
theorem zwz (h:v∈(zau m b).1):v.R∈(spl 0 b).1/\vw m v.R.Number v.R.Wire= .inr (v.Field,v.Run):=by
 rcases zhe m b with ⟨_,_,e,_⟩| ⟨_,e⟩
 ·rw [e] at h;exact zqy v h
 ·rw [e] at h;cases h
theorem zoi (t:zad):zgh t=some (zcZ t.Number t.Wire):=by
 have e:zcT t.Wire=some (decide (t.Wire=0\/t.Wire=1\/t.Wire=2\/t.Wire=5)):=by
  unfold zcT;by_cases h0:t.Wire=0
  ·simp [h0]
  by_cases h1:t.Wire=1
  ·simp [h1]
  by_cases h2:t.Wire=2
  ·simp [h2]
  by_cases h5:t.Wire=5
  ·simp [h5]
  simp [h0,h1,h2,h5]
 unfold zgh zcZ;rw [e];by_cases h1:1<=t.Number
 ·by_cases h2:t.Number<=536870911
  ·rw [itT (by simpa using h1),itT (by simpa using h2),sb,sb];simp [h1,h2]
  ·rw [itT (by simpa using h1),itF (by simpa using h2),sb];simp [h2]
 ·rw [itF (by simpa using h1),sb];simp [h1]
theorem zyf (w:Nat) (h:w<18446744073709551616):andI .u64 (w:Int) 7=((w%8:Nat):Int):=by
 have e:=zpn (k:= .u64) rfl (a:=w) (b:=7) (by simpa [IntKind.bits] using h) (by simp [IntKind.bits]);have e2:w&&&7=w%8:=qX w 3;rw [e2] at e;exact e
theorem zyu (w:Nat):shrI .u64 (w:Int) 3=((w/8:Nat):Int):=zmJ (k:= .u64) (a:=w) (b:=3) (by simp [IntKind.bits])
theorem zvg (b:List UInt8):zhK b=some ((⟨(tg b).1,(tg b).2.1⟩:zad),(tg b).2.2.1,(tg b).2.2.2):=by
 obtain ⟨h1,h2,h3,h4,h5,h6,h7⟩:=zfZ b;unfold zhK tg;rw [zoU,sb];by_cases h:(rd b).2.2=0
 ·rw [itF (by simpa using h)];obtain ⟨w,hw⟩:∃w:Nat,(rd b).1=w:=⟨(rd b).1.toNat,by omega⟩;rw [hw] at h2|-;rw [zyu,zyf w (by omega)];have e0:i64.wrap ((w%8:Nat):Int)=(w:Int)%8:=by rw [pg];omega
  by_cases hg:4294967295<w
  ·have e1:i64.wrap (if (536870912:Int)<((w/8:Nat):Int) then 536870912 else ((w/8:Nat):Int))=536870912:=by
    split
    ·rfl
    ·rw [pg];omega
   rw [e0,e1,zoi,sb];have e2:zcZ 536870912 ((w:Int)%8)=false:=by simp [zcZ]
   simp only [e2];rw [q8,zmO h (.inl (by rw [hw];omega))]
  ·have e1:i64.wrap (if (536870912:Int)<((w/8:Nat):Int) then 536870912 else ((w/8:Nat):Int))=(w:Int)/8:=by
    rw [xc (by omega),pg];omega
   rw [e0,e1,zoi,sb];simp only;cases ht:zcZ ((w:Int)/8) ((w:Int)%8)
   ·rw [q8,zmO h (.inr (by rw [hw];exact ht))]
   ·rw [q9,zvf h (by rw [hw,ht];simp;omega),hw]
 ·rw [itT (by simpa using h),zsz h]
theorem zwu (hw:w=0\/w=1\/w=2\/w=5) (hb:b.length<=1048576):
  zen w b=some (match zeP w 0 b with| .inl c=>(0,(if w=0 then (rd b).2.1 else 0),c)| .inr (a,t)=>((a:Int),(t:Int),0)):=by
 obtain ⟨h1,h2,h3,h4,h5,h6,h7⟩:=zfZ b;unfold zen zeP;rcases hw with rfl| rfl| rfl| rfl
 ·rw [q8,zsv,sb,xd rfl];by_cases h:(rd b).2.2=0
  ·rw [xc (by simpa using h)];simp only [h,xJ];congr 3;simp;omega
  ·rw [xd h];rfl
 ·rw [q9,q8,sb,q9,xc (show ¬((1:Int)=0) by omega),xc (show ¬((1:Int)=2) by omega)];simp only;have e:u64.wrap (i64.wrap ((b.length:Int) - 0))=(b.length:Int):=by rw [pg,zhT];omega
  rw [e];by_cases g:b.length<8
  ·rw [pd,xd (by simpa using g)];rfl
  ·rw [pf,xc (by simpa using g)];rfl
 ·rw [q9,q9,q9,q8,zoU,sb,sb,xc (show ¬((2:Int)=0) by omega),xd (show (2:Int)=2 from rfl)];by_cases h:(rd b).2.2=0
  ·have hk:=h7 h;rw [itF (by simpa using h),xc (show ¬((rd b).2.2≠0) from fun g=>g h)];simp only;have e:u64.wrap (i64.wrap ((b.length:Int) - (rd b).2.1))=(b.length:Int) - (rd b).2.1:=by rw [pg,zhT];omega
   rw [e];by_cases g:(b.length:Int) - (rd b).2.1<(rd b).1
   ·rw [itT (by simpa using g),xd g];rfl
   ·rw [itF (by simpa using g),xc g,zH (x:=(rd b).1) (by omega),pg];simp;omega
  ·rw [itT (by simpa using h),xd h];rfl
 ·rw [q9,q9,q8,sb,q9,xc (show ¬((5:Int)=0) by omega),xc (show ¬((5:Int)=2) by omega)];simp only;have e:u64.wrap (i64.wrap ((b.length:Int) - 0))=(b.length:Int):=by rw [pg,zhT];omega
  rw [e];by_cases g:b.length<4
  ·rw [pd,xd (by simpa using g)];rfl
  ·rw [pf,xc (by simpa using g)];rfl
theorem zpq (w:Int) (k:Nat) (m:List UInt8):zeP w k m=match zeP w 0 m with| .inl c=> .inl c| .inr (a,t)=> .inr (k+a,k+t):=by
 unfold zeP
 repeat' split
 all_goals first
  | rfl
  | (rename_i h1 h2;injection h2 with h3;injection h3 with h4 h5;subst h4 h5;simp<;>omega)
  | simp_all<;>omega
theorem zsk (hb:b.length<=1048576) (at5:Int):zdj b at5=some (zci b at5):=by
 unfold zdj zci;by_cases h:at5<0\/at5>=b.length
 ·rw [itT (by simpa using h),xd h];rfl
 ·rw [itF (by simpa using h),xc h];obtain ⟨p,rfl⟩:∃p:Nat,at5=p:=⟨at5.toNat,by omega⟩;rw [zje rfl rfl (by omega),sb,zvg,sb,xB];have hdl:(b.drop p).length=b.length - p:=by simp
  rcases zqp (b.drop p) with ⟨c,ht,hc⟩| ⟨n,w,k,ht,hr,k1,k2,k3,hrd⟩
  ·have e:rec5 (b.drop p)= .inl c:=by unfold rec5;rw [ht,xd (by simp only;omega)]
   rw [e,ht,pd];rfl
  ·obtain ⟨k,rfl⟩:∃j:Nat,k=j:=⟨k.toNat,by omega⟩
   have e:rec5 (b.drop p)=match zeP w k ((b.drop p).drop k) with
    | .inl c=> .inl c
    | .inr p=> .inr (n,w,p.1,p.2):=by unfold rec5;rw [ht];simp<;>rfl
   have hdd:(b.drop p).drop k=b.drop (p+k):=by rw [xZ]
   have hml:(b.drop (p+k)).length=b.length - (p+k):=by simp
   have ew:i64.wrap ((p:Int)+k)=((p+k:Nat):Int):=by rw [pg];push_cast;rfl
   rw [e,ht,itF (by simp),hdd];simp only [ew];rw [zje rfl rfl (by omega),sb,zwu (zrv.1 hr).2.2 (by omega),sb,zpq w k];rcases zkA w 0 (b.drop (p+k)) with ⟨c,hc,hc2⟩| ⟨a,t,hc,_,_,hle,_⟩
   ·rw [hc];simp only;rw [pd];rfl
   ·rw [hc];simp only;rw [q9,pg,pg];simp only [xD,xO,zi.mk.injEq,true_and,and_true];push_cast;omega
abbrev Head:=zt
abbrev Role:=zv
def rol (m:Mes) (h:Head):Role:=match vw m h.number h.wire with
 | .inl c=>⟨0,false,c⟩
 | .inr (i,run)=>⟨i,run,0⟩
theorem ztw (hm:m.Fields.length<=1152921504606846976) (n:Int):zfi m n=some (fldI m n):=by
 unfold zfi zK;have h:=znw (fun f:Fld=>f.Number==n) m.Fields (fun i=>zu m.Fields n i) (zaf (by unfold zr;rw [itF (by simp)])) (fun i hi=>by
  by_cases hp:(m.Fields[i].Number==n)=true
  ·rw [xd hp];exact zaf (by unfold zr zdC;rw [pd,zaF rfl hi,sb,sb,itT hp])
  ·rw [xc hp];exact zaU (by unfold zr zdC;rw [pd,zaF rfl hi,sb,sb,itF (qn hp),pg];rfl)) m.Fields.length 0 (by omega) (fun j _ h=>by omega)
 have h':zu m.Fields n 0=_:=h;rw [h',sb];unfold fldI zgv;cases m.Fields.findIdx? (fun f:Fld=>f.Number==n) with
 | none=>rfl
 | some i=>rfl
theorem ztx (f:Fld) (w:Int):zfj f w=some (decide (f.Repeated=true/\kNum f.Kind=true/\w=2)):=by
 unfold zfj;cases f.Repeated
 ·simp [sb]
 ·by_cases hw:w=2
  ·subst hw;rw [itT rfl,itT (c:=(2:Int)==2) rfl,zmc,sb,sb];cases kNum f.Kind<;>rfl
  ·rw [itT rfl,itF (by simpa using hw),sb];simp [hw]
theorem zvk (k w:Int):zgp k w=some (decide (¬(zbL k=false\/zdu k≠w))):=by
 unfold zgp;rw [zpU,sb];cases zbL k with
 | false=>rfl
 | true=>
  by_cases h:zdu k=w<;>simp [h]
theorem zrB (hm:m.Fields.length<=1152921504606846976) (h:Head):zdm m h=some (rol m h):=by
 unfold zdm rol;rw [ztw hm,sb];unfold vw;rcases ziH m h.number with ⟨hf,_⟩| ⟨i,hi,hf,_⟩
 ·rw [hf,q8,xd (by decide)]
 ·rw [hf,itF (by simp),xc (by omega),zaF rfl hi,sb,zjl hi,ztx,sb];by_cases h1:(m.Fields[i]).Repeated=true/\kNum (m.Fields[i]).Kind=true/\h.wire=2
  ·rw [xd h1,xR h1];rfl
  ·rw [xc h1,xT h1,q8,zvk,sb,sb];by_cases h2:zbL (m.Fields[i]).Kind=false\/zdu (m.Fields[i]).Kind≠h.wire
   ·rw [xd h2,itT (by rw [xT (fun g=>g h2)];rfl)]
   ·rw [xc h2,itF (by rw [xR h2];rfl)]
def zgL (m:Mes) (met:List (Head×Role)):Prop:=∀h x,mget met h=some x->x=rol m h
theorem zgL.nil (m:Mes):zgL m []:=fun h x g=>by cases g
theorem zgL.put (g:zgL m met) (h:Head):zgL m (mput met h (rol m h)):=fun j x hx=>by
 rw [zfW] at hx;by_cases e:j=h
 ·rw [xd e] at hx;rw [e];exact (yc hx).symm
 ·rw [xc e] at hx;exact g j x hx
theorem zmg (hm:m.Fields.length<=1152921504606846976) (hb:b.length<=1048576) (p:Int) (g:zgL m met):
  ∃uD,zeM m b p met=some (prV (zbD m b p).1,(zbD m b p).2,uD)/\zgL m uD:=by
 unfold zeM zbD;rw [zsk hb,sb];by_cases h:(zci b p).2=0
 ·rw [itF (by simpa using h),xc (show ¬((zci b p).2≠0) from fun q=>q h)]
  generalize (zci b p).1=r
  have key:∃uD,(if (!(mget met (⟨r.Number,r.Wire⟩:Head)).isSome) then (zdm m (⟨r.Number,r.Wire⟩:Head)>>=fun uv=>some ((mput met (⟨r.Number,r.Wire⟩:Head) uv),uv.field,uv.run,uv.e))
    else some (met,((mget met (⟨r.Number,r.Wire⟩:Head)).getD (⟨0,false,0⟩:Role)).field,((mget met (⟨r.Number,r.Wire⟩:Head)).getD (⟨0,false,0⟩:Role)).run,((mget met (⟨r.Number,r.Wire⟩:Head)).getD (⟨0,false,0⟩:Role)).e))=some (uD,(rol m ⟨r.Number,r.Wire⟩).field,(rol m ⟨r.Number,r.Wire⟩).run,(rol m ⟨r.Number,r.Wire⟩).e)/\zgL m uD:=by
   cases hg:mget met (⟨r.Number,r.Wire⟩:Head) with
   | none=>
    rw [q8,zrB hm,sb];exact ⟨_,rfl,g.put _⟩
   | some x=>
    rw [q9];refine ⟨met,?_,g⟩;rw [<-g _ x hg];rfl
  obtain ⟨uD,hk,hM⟩:=key;refine ⟨uD,?_,hM⟩;rw [hk,sb];unfold rol;rcases zcV m r.Number r.Wire with hv| ⟨hv,_⟩| ⟨i,run,hv,_⟩
  ·simp only [hv];rfl
  ·simp only [hv];rfl
  ·simp only [hv];rfl
 ·rw [itT (by simpa using h),xd h];exact ⟨met,rfl,g⟩
theorem zvl (hm:m.Fields.length<=1152921504606846976) (hb:b.length<=1048576) (p:Int):zgo m b p=some (prV (zbD m b p).1,(zbD m b p).2):=by
 obtain ⟨uD,h,_⟩:=zmg hm hb p (zgL.nil m);unfold zgo;rw [h,sb]
theorem ztu (hm:m.Fields.length<=1152921504606846976) (hb:b.length<=1048576) (base:Nat) (l:List UInt8):∀(out:List Vw) (met:List (Head×Role)),base<=b.length->l=b.drop base->out.length<=base->zgL m met->
  zcI b m (out.map prV) met base=some (match (vws m (spl base l).2 (spl base l).1).2 with| none=> .inl ((out++(vws m (spl base l).2 (spl base l).1).1).map prV)| some (p,c)=> .inr (p,c)):=by
 refine zfv (fun base l=>∀(out:List Vw) (met:List (Head×Role)),base<=b.length->l=b.drop base->out.length<=base->zgL m met->
  zcI b m (out.map prV) met base=some (match (vws m (spl base l).2 (spl base l).1).2 with| none=> .inl ((out++(vws m (spl base l).2 (spl base l).1).1).map prV)| some (p,c)=> .inr (p,c))) ?_ ?_ ?_ base l
 ·intro base out met hbase hl ho hM;have:b.length<=base:=by have:=congrArg List.length hl;simp at this;omega
  rw [zcM];simp only [vws,qI,yA];refine zew ?_;unfold zbt;rw [pf]
 ·intro base l c hl h hc out met hbase hld ho hM;subst hld;have hlt:base<b.length:=by have:=yq.2 hl;simp at this;omega
  rw [zeE hl h];simp only [vws,ym];refine zew ?_;unfold zbt;have e:zci b base=(zrec,c):=by unfold zci;rw [xc (by omega),xB,h]
  have e2:zbD m b base=(zvw,c):=by unfold zbD;rw [e,xd (by simp only;omega)]
  obtain ⟨uD,hk,_⟩:=zmg hm hb base hM;rw [pd,hk,sb,e2,pd]
 ·intro base l n w a t hl h _ g1 g2 g3 ih out met hbase hld ho hM;subst hld;simp only [xG] at g3;have hlt:base<b.length:=by omega
  rw [zbS hl h];have e:zci b base=(⟨n,w,base,(base+a:Nat),(base+t:Nat)⟩,0):=by
   unfold zci;rw [xc (by omega),xB,h];push_cast;rfl
  rw [vws];obtain ⟨uD,hk,hM'⟩:=zmg hm hb base hM;rcases zcV m n w with hv| ⟨hv,_⟩| ⟨i,run,hv,_,hi⟩
  ·have e2:zbD m b base=(zvw,6):=by unfold zbD;rw [e];simp only [ne_eq,yd,xP,hv]
   simp only [hv];refine zew ?_;unfold zbt;rw [pd,hk,sb,e2,q8]
  ·have e2:zbD m b base=(⟨⟨n,w,base,(base+a:Nat),(base+t:Nat)⟩, -1,false⟩,0):=by unfold zbD;rw [e];simp only [ne_eq,yd,xP,hv]
   simp only [hv];refine (zgR (l':=(out++([⟨⟨n,w,base,(base+a:Nat),(base+t:Nat)⟩, -1,false⟩]:List Vw)).map prV) (uD:=uD) (fromv':=((base+t:Nat):Int)) ?_).trans ?_
   ·unfold zbt;rw [pd,hk,sb,e2,q9,zqK (by simp;omega),sb,yB];rfl
   ·rw [ih _ uD (by omega) (by rw [xZ]) (by simp;omega) hM'];simp only [qc,qR]
  ·have e2:zbD m b base=(⟨⟨n,w,base,(base+a:Nat),(base+t:Nat)⟩,i,run⟩,0):=by unfold zbD;rw [e];simp only [ne_eq,yd,xP,hv]
   simp only [hv];refine (zgR (l':=(out++([⟨⟨n,w,base,(base+a:Nat),(base+t:Nat)⟩,i,run⟩]:List Vw)).map prV) (uD:=uD) (fromv':=((base+t:Nat):Int)) ?_).trans ?_
   ·unfold zbt;rw [pd,hk,sb,e2,q9,zqK (by simp;omega),sb,yB];rfl
   ·rw [ih _ uD (by omega) (by rw [xZ]) (by simp;omega) hM'];simp only [qc,qR]
theorem zly (hm:m.Fields.length<=1152921504606846976) (hb:b.length<=1048576):zgn m b=some ((zau m b).1.map prV,(zau m b).2.1,(zau m b).2.2):=by
 unfold zgn;have h:=ztu hm hb 0 b [] [] (xq _) rfl (xh _) (zgL.nil m);have h':zcI b m [] [] 0=_:=h;rw [h',sb];unfold zau vwR;cases (vws m (spl 0 b).2 (spl 0 b).1).2 with
 | none=>rfl
 | some p=>rfl
theorem zxa {α:Type} {xs uB post:List α} {v:α} (e:xs=uB++v::post):idx xs (uB.length:Nat)=some v:=by
 subst e;rw [zaF rfl (by simp)];simp
theorem zsC (m:Mes) (b:List UInt8):(zau m b).1.length<=b.length:=by
 rcases zhe m b with ⟨_,hn,e,_⟩| ⟨_,e⟩
 ·have h:=congrArg List.length (zjU hn).2;rw [List.length_map] at h;rw [e,h];exact zwv 0 b
 ·rw [e];simp
def zgP (m:Mes) (g:Int->List UInt8->Nat) (b:List UInt8) (r:Rec):Nat:=match vw m r.Number r.Wire with
 | .inl _=>0
 | .inr (i,run)=>if i<0\/run=true then 0 else if (zU m i).Kind=17 then g (zU m i).Of (valB b r)+1 else 0
def zfp (m:Mes) (g:Int->List UInt8->Nat) (b:List UInt8):List Rec->Nat
 | []=>0
 | r::l=>max (zgP m g b r) (zfp m g b l)
def zdN (s:List Mes):Nat->Int->List UInt8->Nat
 | 0,k,b=>zfp (zw s k) (fun _ _=>0) b (spl 0 b).1
 | d+1,k,b=>zfp (zw s k) (zdN s d) b (spl 0 b).1
theorem zjm :∀{l:List Rec},zfp m g b l<=e↔∀r∈l,zgP m g b r<=e
 | []=>by simp [zfp]
 | r::l=>by
  have ih:=zjm (m:=m) (g:=g) (b:=b) (e:=e) (l:=l);unfold zfp;rw [List.forall_mem_cons,<-ih];omega
theorem zig (h:zaO m a b r=none) (hc0:c=none↔e=0)
  (hc:∀q,a=some q->∀q',c=some q'->∀k v,q k v=none->(q' k v=none↔g k v+1<=e)):zaO m c b r=none↔zgP m g b r<=e:=by
 unfold zaO at h|-;unfold zgP;cases hv:vw m r.Number r.Wire with
 | inl x=>rw [hv] at h;cases h
 | inr p=>
  obtain ⟨i,run⟩:=p;rw [hv] at h;simp only at h|-;by_cases hi:i<0
  ·grind
  ·rw [xc hi] at h|-;unfold zhs at h|-;by_cases hr:run=true
   ·grind
   ·rw [xc hr] at h|-;rw [xc (show ¬(i<0\/run=true) from fun q=>q.elim hi hr)];by_cases h15:(zU m i).Kind=15/\zhG (valB b r)=false
    ·grind
    ·rw [xc h15] at h|-;by_cases h17:(zU m i).Kind=17
     ·rw [xd h17] at h|-;rw [xd h17];cases a with
      | none=>cases h
      | some q=>
       simp only at h;cases hq:q (zU m i).Of (valB b r) with
       | some z=>rw [hq] at h;cases h
       | none=>
        cases c with
        | none=>
         grind
        | some q'=>
         grind
     grind
theorem zpx (s:List Mes):∀(d e:Nat) (k:Int) (b:List UInt8),e<=d->zF s d k b=none->(zF s e k b=none↔zdN s d k b<=e)
 | 0,e,k,b,he,h=>by
  have:e=0:=by omega
  subst this;refine ⟨fun _=>zjm.2 (fun r hr=>?_),fun _=>h⟩;have h':=(zaW.1 h).1 r hr;exact (zig (a:=none) (c:=none) h' (by simp) (fun q hq q' hq'=>nomatch hq')).1 h'
 | d+1,0,k,b,he,h=>by
  have h':zaE (zw s k) (some (zF s d)) b (spl 0 b)=none:=h;rw [zaW] at h';show zaE (zw s k) none b (spl 0 b)=none↔zfp _ _ _ _<=0;rw [zaW,zjm];constructor
  ·intro hh r hr;exact (zig (a:=some (zF s d)) (c:=none) (h'.1 r hr) (by simp) (fun q hq q' hq'=>nomatch hq')).1 (hh.1 r hr)
  ·intro hh;exact ⟨fun r hr=>(zig (a:=some (zF s d)) (c:=none) (h'.1 r hr) (by simp) (fun q hq q' hq'=>nomatch hq')).2 (hh r hr),h'.2⟩
 | d+1,e+1,k,b,he,h=>by
  have h':zaE (zw s k) (some (zF s d)) b (spl 0 b)=none:=h;rw [zaW] at h';show zaE (zw s k) (some (zF s e)) b (spl 0 b)=none↔zfp _ _ _ _<=e+1;rw [zaW,zjm];have key:∀r∈(spl 0 b).1,zaO (zw s k) (some (zF s e)) b r=none↔zgP (zw s k) (zdN s d) b r<=e+1:=fun r hr=>
   zig (a:=some (zF s d)) (h'.1 r hr) (by simp) (fun q hq q' hq' k v hk=>by
    cases hq;cases hq';have:=zpx s d e k v (by omega) hk;rw [this];omega)
  exact ⟨fun hh r hr=>(key r hr).1 (hh.1 r hr),fun hh=>⟨fun r hr=>(key r hr).2 (hh r hr),h'.2⟩⟩
abbrev zdI:=ze
def zcw (s:List Mes) (met:List (zdI×PVw)):Prop:=∀h x,mget met h=some x->vw (zw s h.message) h.number h.wire= .inr (x.Field,x.Run)
theorem zcw.nil (s:List Mes):zcw s []:=fun h x g=>by cases g
theorem zcw.put (g:zcw s met) (hv:vw (zw s h.message) h.number h.wire= .inr (v.Field,v.Run)):zcw s (mput met h v):=fun j x hx=>by
 rw [zfW] at hx;by_cases e:j=h
 ·grind
 ·rw [xc e] at hx;exact g j x hx
theorem zqD {s:List Mes} {k:Nat} (hk:k<s.length) (hm:(zw s k).Fields.length<=1152921504606846976) {b:List UInt8} (hb:b.length<=1048576) (p:Int) {t:Nat} (ht:t<=b.length) {met:List (zdI×PVw)} (g:zcw s met):
  ∃uD,zco ⟨s,b,met⟩ k p t=some (prV (zbD (zw s k) (b.take t) p).1,(zbD (zw s k) (b.take t) p).2,uD)/\zcw s uD:=by
 have hbt:(b.take t).length<=1048576:=by rw [yy];omega
 have hcut:cut b 0 (t:Int)=some (b.take t):=by
  rw [zfA (i:=0) (j:=t) rfl rfl (xq _) ht];simp
 have hidx:idx s (k:Int)=some (zw s k):=by rw [zaF rfl hk,zem hk]
 have hvl:=zvl hm hbt p;unfold zco;simp only;rw [hcut,sb,zsk hbt,sb];unfold zbD at hvl|-;by_cases h:(zci (b.take t) p).2=0
 ·rw [itF (by simpa using h),xc (show ¬((zci (b.take t) p).2≠0) from fun q=>q h)];rw [xc (show ¬((zci (b.take t) p).2≠0) from fun q=>q h)] at hvl
  generalize (zci (b.take t) p).1=r at hvl|-
  cases hg:mget met (⟨(k:Int),r.Number,r.Wire⟩:zdI) with
  | none=>
   rw [q8,hidx,sb,hvl,sb];cases hv:vw (zw s k) r.Number r.Wire with
   | inl c=>
    have hc:c=6:=by
     grind [zcV]
    subst hc;exact ⟨met,by rw [q8];rfl,g⟩
   | inr q=>
    obtain ⟨i,run⟩:=q;refine ⟨_,?_,g.put (h:=⟨(k:Int),r.Number,r.Wire⟩) (v:=prV ⟨r,i,run⟩) hv⟩;rfl
  | some x=>
   have hv:=g _ _ hg;simp only at hv;rw [q9,hv];exact ⟨met,rfl,g⟩
 ·rw [itT (by simpa using h),xd h];exact ⟨met,rfl,g⟩
def zhi (f:Fld) (run:Bool) (v:List UInt8):Int:=if run=true then (ziq f.Kind v).2 else if f.Kind=15/\zhG v=false then 7 else if f.Kind=17 then 8 else 0
theorem ztv (f:Fld) (run:Bool) (hv:v.length<=1048576):zer f run v=some (zhi f run v):=by
 unfold zer zhi
 grind [zcR,ziq,ztt,sb,zth]
abbrev Find:=zn
def okR (o:Option (Int×Int)) (a dp:Nat) (r:Find):Prop:=match o with
 | none=>r=⟨(dp:Int),0,0⟩
 | some (p,c)=>r.place=(a:Int)+p/\r.e=c
def zmN (s:List Mes):Nat->zfK
 | 0=>none
 | d+1=>some (zF s d)
def zjY (s:List Mes):Nat->Int->List UInt8->Nat
 | 0=>fun _ _=>0
 | d+1=>zdN s d
theorem zsL (s:List Mes) (d:Nat) (k:Int) (b:List UInt8):zF s d k b=zaE (zw s k) (zmN s d) b (spl 0 b):=by cases d<;>rfl
theorem zvG (s:List Mes) (d:Nat) (k:Int) (b:List UInt8):zdN s d k b=zfp (zw s k) (zjY s d) b (spl 0 b).1:=by cases d<;>rfl
theorem zve (s:List Mes) (d:Nat):∀g,zmN s d=some g->zlA g:=fun g h=>by
 cases d with
 | zero=>cases h
 | succ d=>cases h;exact zcY s d
theorem zwl (b:List UInt8) (t a x y:Nat) (h:a+y<=t):(((b.take t).drop a).drop x).take (y - x)=(b.take (a+y)).drop (a+x):=by
 rw [xZ,qV,qV,List.take_take];congr 1;omega
theorem ztA {s:List Mes} {k:Nat} (hk:k<s.length) (hm:(zw s k).Fields.length<=1152921504606846976) {b:List UInt8} (hb:b.length<=1048576) {d:Int} {a t:Nat} (hat:a<=t) (ht:t<=b.length) {sub:zfK} {gd:Int->List UInt8->Nat}
  (hg:∀g,sub=some g->zlA g) {recv:zI->Int->za->Int->Option (zn×(List (ze×za)))} {met0:List (zdI×PVw)}
  (hval:∀met,zcw s met->∀(n w i:Int) (run:Bool) (base x y:Nat),vw (zw s k) n w= .inr (i,run)->1<=x->x<=y->a+base+y<=t->
   ∃R uD,recv ⟨s,b,met⟩ k ⟨⟨n,w,((a+base:Nat):Int),((a+(base+x):Nat):Int),((a+(base+y):Nat):Int)⟩,i,run⟩ d=some (R,uD)/\zcw s uD/\
    okR (zaO (zw s k) sub ((b.take t).drop a) ⟨n,w,base,(base+x:Nat),(base+y:Nat)⟩) a (zgP (zw s k) gd ((b.take t).drop a) ⟨n,w,base,(base+x:Nat),(base+y:Nat)⟩) R)
  (base:Nat) (l:List UInt8):∀(met:List (zdI×PVw)) (dp:Nat),zcw s met->l=((b.take t).drop a).drop base->base<=t - a->
  ∃uD D,zcw s uD/\zao d k recv t ⟨s,b,met0⟩ met ((a+base:Nat):Int) dp=some (match zaE (zw s k) sub ((b.take t).drop a) (spl base l) with
   | none=> .inl (uD,((max dp (zfp (zw s k) gd ((b.take t).drop a) (spl base l).1):Nat):Int))
   | some (p,c)=> .inr (uD,D,(a:Int)+p,c)):=by
 have hvl:((b.take t).drop a).length=t - a:=by simp;omega
 generalize hvv:(b.take t).drop a=v at hval hvl|-
 refine zfv (fun base l=>∀(met:List (zdI×PVw)) (dp:Nat),zcw s met->l=v.drop base->base<=t - a->
  ∃uD D,zcw s uD/\zao d k recv t ⟨s,b,met0⟩ met ((a+base:Nat):Int) dp=some (match zaE (zw s k) sub v (spl base l) with
   | none=> .inl (uD,((max dp (zfp (zw s k) gd v (spl base l).1):Nat):Int))
   | some (p,c)=> .inr (uD,D,(a:Int)+p,c))) ?_ ?_ ?_ base l
 ·intro base met dp g hl hbase;have:v.length<=base:=by have:=congrArg List.length hl;simp at this;omega
  refine ⟨met,0,g,?_⟩;rw [zcM];refine zaV ?_;unfold zV;rw [pf];simp [zaE,zfp]
 ·intro base l c hl h hc met dp g hld hbase;have hlt:a+base<t:=by have:=yq.2 hl;rw [hld] at this;simp at this;omega
  have hdr:(b.take t).drop (a+base)=l:=by rw [hld,<-hvv,xZ]
  have e:zci (b.take t) ((a+base:Nat):Int)=(zrec,c):=by unfold zci;rw [xc (by simp;omega),xB,hdr,h]
  have e2:zbD (zw s k) (b.take t) ((a+base:Nat):Int)=(zvw,c):=by unfold zbD;rw [e,xd (by simp only;omega)]
  obtain ⟨uD,hlk,g'⟩:=zqD hk hm hb ((a+base:Nat):Int) ht g;refine ⟨uD,0,g',?_⟩;rw [zeE hl h];refine zaV ?_;unfold zV;simp only;rw [pd,hlk,sb,e2,pd];simp [zaE]
 ·intro base l n w x y hl h _ g1 g2 g3 ih met dp g hld hbase;have hly:base+y<=t - a:=by rw [hld] at g3;simp at g3;omega
  have hdr:(b.take t).drop (a+base)=l:=by rw [hld,<-hvv,xZ]
  have e:zci (b.take t) ((a+base:Nat):Int)=(⟨n,w,((a+base:Nat):Int),((a+(base+x):Nat):Int),((a+(base+y):Nat):Int)⟩,0):=by
   unfold zci;rw [xc (by simp;omega),xB,hdr,h]
   grind
  obtain ⟨uD,hlk,g'⟩:=zqD hk hm hb ((a+base:Nat):Int) ht g
  have hfr:zaE (zw s k) sub v (spl base l)=match zaO (zw s k) sub v ⟨n,w,base,(base+x:Nat),(base+y:Nat)⟩ with
    | some p=>some p
    | none=>zaE (zw s k) sub v (spl (base+y) (l.drop y)):=by
   unfold zaE;rw [zbS hl h];simp only [List.findSome?_cons];cases zaO (zw s k) sub v ⟨n,w,base,(base+x:Nat),(base+y:Nat)⟩<;>rfl
  have hfd:zfp (zw s k) gd v (spl base l).1=max (zgP (zw s k) gd v ⟨n,w,base,(base+x:Nat),(base+y:Nat)⟩) (zfp (zw s k) gd v (spl (base+y) (l.drop y)).1):=by
   rw [zbS hl h];rfl
  cases hv:vw (zw s k) n w with
  | inl c=>
   have hc:c=6:=by
    grind [zcV]
   subst hc;have e2:zbD (zw s k) (b.take t) ((a+base:Nat):Int)=(zvw,6):=by unfold zbD;rw [e];simp only [ne_eq,yd,xP,hv]
   have hst:zaO (zw s k) sub v ⟨n,w,base,(base+x:Nat),(base+y:Nat)⟩=some ((base:Int),6):=by unfold zaO;simp only [hv]
   refine ⟨uD,0,g',?_⟩;rw [hfr,hst];refine zaV ?_;unfold zV
   grind
  | inr q=>
   obtain ⟨i,run⟩:=q;have e2:zbD (zw s k) (b.take t) ((a+base:Nat):Int)=(⟨⟨n,w,((a+base:Nat):Int),((a+(base+x):Nat):Int),((a+(base+y):Nat):Int)⟩,i,run⟩,0):=by unfold zbD;rw [e];simp only [ne_eq,yd,xP,hv]
   obtain ⟨R,met2,hrv,g2',hok⟩:=hval uD g' n w i run base x y hv g1 g2 (by omega);have hpr:prV (⟨⟨n,w,((a+base:Nat):Int),((a+(base+x):Nat):Int),((a+(base+y):Nat):Int)⟩,i,run⟩:Vw)=⟨⟨n,w,((a+base:Nat):Int),((a+(base+x):Nat):Int),((a+(base+y):Nat):Int)⟩,i,run⟩:=rfl;cases hst:zaO (zw s k) sub v ⟨n,w,base,(base+x:Nat),(base+y:Nat)⟩ with
   | some pc=>
    obtain ⟨p,c⟩:=pc;have hgd:=zof hg g1 g2 (b:=v) (base:=base) (by omega) hst;rw [hst] at hok;obtain ⟨o1,o2⟩:=hok;refine ⟨met2,R.depth,g2',?_⟩;rw [hfr,hst];refine zaV ?_;unfold zV
    grind
   | none=>
    rw [hst] at hok;have hok':R=⟨((zgP (zw s k) gd v ⟨n,w,base,(base+x:Nat),(base+y:Nat)⟩:Nat):Int),0,0⟩:=hok;obtain ⟨met3,D,g3',h3⟩:=ih met2 (max dp (zgP (zw s k) gd v ⟨n,w,base,(base+x:Nat),(base+y:Nat)⟩)) g2' (by rw [hld,xZ]) hly;refine ⟨met3,D,g3',?_⟩;rw [hfr,hst,hfd,<-Nat.max_assoc,<-h3];refine zfl ?_;unfold zV
    grind
theorem zwI {s:List Mes} (hr:zot s) {k:Nat} (hk:k<s.length) {b:List UInt8} (hb:b.length<=1048576) {d uw:Nat} (hd:d<=64) {a t:Nat} (ht:t<=b.length)
  (ih:∀e,d=e+1->∀(q A T:Nat) (met:List (zdI×PVw)),q<s.length->A<=T->T<=b.length->zcw s met->
   ∃R uD,zaa uw ⟨s,b,met⟩ q A T e=some (R,uD)/\zcw s uD/\okR (zF s e q ((b.take T).drop A)) A (zdN s e q ((b.take T).drop A)) R)
  (met:List (zdI×PVw)) (g:zcw s met) (n w i:Int) (run:Bool) (base x y:Nat) (hv:vw (zw s k) n w= .inr (i,run)) (h1:1<=x) (h2:x<=y) (hy:a+base+y<=t):
  ∃R uD,zaZ (uw+1) ⟨s,b,met⟩ k ⟨⟨n,w,((a+base:Nat):Int),((a+(base+x):Nat):Int),((a+(base+y):Nat):Int)⟩,i,run⟩ d=some (R,uD)/\zcw s uD/\
    okR (zaO (zw s k) (zmN s d) ((b.take t).drop a) ⟨n,w,base,(base+x:Nat),(base+y:Nat)⟩) a (zgP (zw s k) (zjY s d) ((b.take t).drop a) ⟨n,w,base,(base+x:Nat),(base+y:Nat)⟩) R:=by
 have hidx:idx s (k:Int)=some (zw s k):=by rw [zaF rfl hk,zem hk]
 have hun:∀w' v',zaZ (uw+1) w' k v' d=zbB (zaa uw) (zaZ uw) w' k v' d:=fun _ _=>rfl
 have hvb:valB ((b.take t).drop a) ⟨n,w,base,(base+x:Nat),(base+y:Nat)⟩=(b.take (a+(base+y))).drop (a+(base+x)):=by
  unfold valB
  grind [zwl]
 rcases zcV (zw s k) n w with h'| ⟨h',_⟩| ⟨j,run',h',_,hi⟩
 ·grind
 ·rw [hv] at h';obtain ⟨rfl,rfl⟩:i= -1/\run=false:=by simpa using h'
  refine ⟨⟨0,0,0⟩,met,?_,g,?_⟩
  ·rfl
  ·unfold zaO zgP;simp only [hv];rfl
 ·rw [hv] at h';obtain ⟨rfl,rfl⟩:i=j/\run=run':=by simpa using h'
  have hfm:zU (zw s k) (j:Int)∈(zw s k).Fields:=by rw [zjl hi];exact x8 hi
  have hmem:zw s k∈s:=by rw [zem hk];exact x8 hk
  have hrun:run=true->(zU (zw s k) (j:Int)).Kind≠17:=fun hh h17=>by
   subst hh;have:=(zvm hv).1;rw [h17] at this;cases this
  have hcut:cut b ((a+(base+x):Nat):Int) ((a+(base+y):Nat):Int)=some ((b.take (a+(base+y))).drop (a+(base+x))):=by
   rw [zfA rfl rfl (by omega) (by omega),qV]
  have uA:((b.take (a+(base+y))).drop (a+(base+x))).length<=1048576:=by simp;omega
  unfold zaO zgP;simp only [hv];rw [xc (show ¬((j:Int)<0) by omega),hvb];have hif:(if ((j:Int)<0\/run=true) then 0 else if (zU (zw s k) (j:Int)).Kind=17 then zjY s d (zU (zw s k) (j:Int)).Of ((b.take (a+(base+y))).drop (a+(base+x)))+1 else 0)=(if (zU (zw s k) (j:Int)).Kind=17 then zjY s d (zU (zw s k) (j:Int)).Of ((b.take (a+(base+y))).drop (a+(base+x)))+1 else 0):=by
   cases run with
   | false=>rw [xc (by simp)]
   | true=>rw [xd (.inr rfl),xc (hrun rfl)]
  rw [hif];simp only [hun];unfold zbB;simp only;rw [itF (show ((j:Int)== -1)=false by simp),hidx,sb,zaF (i:=j) rfl hi,sb,<-zjl hi]
  generalize hvv:(b.take (a+(base+y))).drop (a+(base+x))=v at uA hcut|-
  have hof:=(hr.fld _ hmem _ hfm).sub
  generalize zU (zw s k) (j:Int)=f at hfm hrun hof|-
  by_cases hs:f.Kind=17/\0<d
  ·obtain ⟨e,rfl⟩:∃e,d=e+1:=⟨d - 1,by omega⟩;have hrf:run=false:=by
    cases run with
    | false=>rfl
    | true=>exact absurd hs.1 (hrun rfl)
   subst hrf;have hof':=hof hs.1;obtain ⟨q,hq⟩:∃q:Nat,f.Of=q:=⟨f.Of.toNat,by omega⟩;obtain ⟨R,uD,hR,g',hok⟩:=ih e rfl q (a+(base+x)) (a+(base+y)) met (by omega) (by omega) (by omega) g;rw [hvv] at hok;have hw1:i64.wrap (((e+1:Nat):Int) - 1)=(e:Int):=by rw [pg];omega
   refine ⟨⟨i64.wrap (R.depth+1),R.place,R.e⟩,uD,?_,g',?_⟩
   ·grind
   ·rw [xd hs.1];unfold zhs;rw [xc (by simp),xc (by rw [hs.1];simp),xd hs.1];simp only [zmN,zjY,hq];cases hf:zF s e q v with
    | none=>
     rw [hf] at hok;have hok':R=⟨((zdN s e q v:Nat):Int),0,0⟩:=hok;have hdl:=(zpx s e e q v (xh _) hf).1 hf;subst hok';show (⟨i64.wrap (((zdN s e q v:Nat):Int)+1),0,0⟩:Find)=_;rw [pg];rfl
    | some pc=>
     obtain ⟨p,c⟩:=pc;rw [hf] at hok;obtain ⟨o1,o2⟩:=hok;refine ⟨?_,o2⟩
     grind
  ·have hno:((f.Kind==17)&&decide (((d:Nat):Int)>0))=false:=by
    grind
   have hlf:zhs f run (zmN s d) ⟨n,w,base,(base+x:Nat),(base+y:Nat)⟩ v=if zhi f run v≠0 then some ((base:Int),zhi f run v) else none:=by
    unfold zhs zhi;by_cases hrt:run=true
    ·grind
    ·rw [xc hrt,xc hrt];by_cases h15:f.Kind=15/\zhG v=false
     ·grind
     ·rw [xc h15,xc h15];by_cases h17:f.Kind=17
      ·have:d=0:=by have:=fun h=>hs ⟨h17,h⟩;omega
       subst this;rw [xd h17,xd h17,xd (by omega)];rfl
      grind
   rw [itF hno,hcut,sb,ztv f run uA,sb,hlf];by_cases h0:zhi f run v=0
   ·refine ⟨⟨0,0,0⟩,met,by rw [itF (by simpa using h0)],g,?_⟩;rw [xc (by simpa using h0)];have:f.Kind≠17:=fun h17=>by
     grind [zhi]
    rw [xc this];rfl
   ·refine ⟨⟨0,((a+base:Nat):Int),zhi f run v⟩,met,by rw [itT (by simpa using h0)],g,?_⟩;rw [xd h0];exact ⟨by simp,rfl⟩
theorem zwE (hr:zot s) (hb:b.length<=1048576):∀(d uw:Nat),d<=64->2*d+2<=uw->∀(q A T:Nat) (met:List (zdI×PVw)),q<s.length->A<=T->T<=b.length->zcw s met->
   ∃R uD,zaa uw ⟨s,b,met⟩ q A T d=some (R,uD)/\zcw s uD/\okR (zF s d q ((b.take T).drop A)) A (zdN s d q ((b.take T).drop A)) R:=by
 have step:∀(d uw:Nat),d<=64->(∀e,d=e+1->∀(q A T:Nat) (met:List (zdI×PVw)),q<s.length->A<=T->T<=b.length->zcw s met->
   ∃R uD,zaa uw ⟨s,b,met⟩ q A T e=some (R,uD)/\zcw s uD/\okR (zF s e q ((b.take T).drop A)) A (zdN s e q ((b.take T).drop A)) R)->
   ∀(q A T:Nat) (met:List (zdI×PVw)),q<s.length->A<=T->T<=b.length->zcw s met->
   ∃R uD,zaa (uw+2) ⟨s,b,met⟩ q A T d=some (R,uD)/\zcw s uD/\okR (zF s d q ((b.take T).drop A)) A (zdN s d q ((b.take T).drop A)) R:=by
  intro d uw hd ih q A T met hq hAT hT g;have hun:∀w' k' p' t' d',zaa (uw+2) w' k' p' t' d'=zbi (zaa (uw+1)) (zaZ (uw+1)) w' k' p' t' d':=fun _ _ _ _ _=>rfl
  have hm:(zw s q).Fields.length<=1152921504606846976:=by
   rw [zem hq];have:=hr.few _ (x8 hq);omega
  obtain ⟨uD,D,g',hl⟩:=ztA (s:=s) hq hm hb (d:=(d:Int)) hAT hT (sub:=zmN s d) (gd:=zjY s d) (zve s d) (recv:=zaZ (uw+1)) (met0:=met)
   (fun met1 g1 n w i run base x y hv h1 h2 hy=>zwI hr hq hb hd hT ih met1 g1 n w i run base x y hv h1 h2 hy) 0 _ met 0 g rfl (xq _)
  have hl':zao d q (zaZ (uw+1)) T ⟨s,b,met⟩ met (A:Int) 0=_:=hl;rw [hun,zsL,zvG];unfold zbi;simp only;rw [yU,Nat.zero_max] at hl';rw [hl',sb];cases hf:zaE (zw s q) (zmN s d) ((b.take T).drop A) (spl 0 ((b.take T).drop A)) with
  | none=>exact ⟨_,_,rfl,g',rfl⟩
  | some pc=>exact ⟨_,_,rfl,g',rfl,rfl⟩
 intro d
 induction d with
 | zero=>
  intro uw hd hf;obtain ⟨uw,rfl⟩:∃z,uw=z+2:=⟨uw - 2,by omega⟩;exact step 0 uw hd (fun e he=>by omega)
 | succ d ih=>
  intro uw hd hf;obtain ⟨uw,rfl⟩:∃z,uw=z+2:=⟨uw - 2,by omega⟩;refine step (d+1) uw hd (fun e he=>?_)
  grind
theorem zqx (hw:WS s) (root d:Int):zdW s root d=some (argS s root d):=by
 unfold zdW argS
 grind [zuP,sb]
theorem zvI (hw:WS s) (root:Int) (hb:b.length<=1048576) (d:Int) (hf:130<=uw):
  ∃R,zfg uw s root b d=some R/\R.place=(zW s root b d).1/\R.e=(zW s root b d).2/\((zW s root b d).2=0->R.depth=((zdN s d.toNat root b:Nat):Int)):=by
 unfold zfg zW;rw [zqx hw,sb];by_cases h:argS s root d=0
 ·obtain ⟨hr,h1,h2,h3,h4⟩:=zjX h;obtain ⟨k,rfl⟩:∃k:Nat,root=k:=⟨root.toNat,by omega⟩;obtain ⟨e,rfl⟩:∃k:Nat,d=k:=⟨d.toNat,by omega⟩;obtain ⟨R,uD,hR,_,hok⟩:=zwE hr hb e uw (by omega) (by omega) k 0 b.length [] (by omega) (xq _) (xh _) (zcw.nil s);have hR':zaa uw ⟨s,b,[]⟩ k 0 (b.length:Int) e=some (R,uD):=hR;rw [List.take_length,yU] at hok;rw [itF (by simpa using h),xc (by simpa using h),hR',sb,xB];refine ⟨R,rfl,?_⟩;cases hfi:zF s e k b with
  | none=>
   rw [hfi] at hok;have hok':R=⟨((zdN s e k b:Nat):Int),0,0⟩:=hok
   grind
  | some pc=>
   obtain ⟨p,c⟩:=pc;rw [hfi] at hok;obtain ⟨o1,o2⟩:=hok;have:=zcY s e k b p c hfi
   grind
 ·simp_all
theorem zih (hw:WS s) (root:Int) (hb:b.length<=1048576) (d:Int) (hf:130<=uw):zbW uw s root b d=some (zW s root b d):=by
 obtain ⟨R,hR,h1,h2,_⟩:=zvI hw root hb d hf;unfold zbW
 grind
theorem zmM {s:List Mes} {m:Mes} {d:Nat} {b:List UInt8} {r:Rec} (h1:r.From<r.At) (h2:r.At<=r.To) (h0:0<=r.From) {p c:Int} (h:zaO m (zoh s d) b r=some (p,c)):r.From<=p/\p<r.To:=by
 unfold zaO at h;cases hv:vw m r.Number r.Wire with
 | inl e=>rw [hv] at h;cases h;omega
 | inr q=>
  simp only [hv] at h;split at h
  ·cases h
  ·unfold zhs at h;split at h
   ·split at h<;>cases h;omega
   ·split at h
    ·cases h;omega
    ·split at h
     ·cases d with
      | zero=>cases h;omega
      | succ d=>
       simp only [zoh] at h;cases hg:zF s d (zU m q.1).Of (valB b r) with
       | none=>rw [hg] at h;cases h
       | some w=>
        obtain ⟨x,y⟩:=w;rw [hg] at h;have:=zcY s d _ _ _ _ hg;have hl:(valB b r).length<=r.To.toNat - r.At.toNat:=by unfold valB;simp;omega
        cases h;omega
     ·cases h
theorem zoH {s:List Mes} {d:Nat} {k:Int} {a:List UInt8} (z:List UInt8) (h:zF s d k a=none) {p c:Int} (hz:zF s d k (a++z)=some (p,c)):(a.length:Int)<=p:=by
 rw [zdO] at h hz;have hn:=zaW.1 h;have hap:=zff z 0 a hn.2;rw [xJ] at hap;rw [hap] at hz;unfold zaE at hz;have hf:(spl 0 a).1.findSome? (zaO (zw s k) (zoh s d) (a++z))=none:=qQ.2 fun r hr=>by
  have hb:=zgI 0 a r hr;exact (zhJ (r:=r) (r':=r) rfl rfl (zfx z (by omega) (by omega))).2 (hn.1 r hr)
 simp only [List.findSome?_append,hf,Option.none_or] at hz;have hat:=zgI a.length z;cases hs:(spl a.length z).1.findSome? (zaO (zw s k) (zoh s d) (a++z)) with
 | some q=>
  rw [hs] at hz;cases hz;obtain ⟨r,hr,hq⟩:=q7 hs;have:=hat r hr;have:=zmM (by omega) (by omega) (by omega) hq;omega
 | none=>
  rw [hs] at hz;have hsh:=zif a.length 0 z;rw [xJ] at hsh;rw [hsh] at hz;cases hz2:(spl 0 z).2 with
  | none=>rw [hz2] at hz;cases hz
  | some q=>
   rw [hz2] at hz;simp only [ym] at hz;cases hz;omega
theorem zoI {s:List Mes} {d:Nat} {k:Int} {a:List UInt8} (z:List UInt8) (hs:(spl 0 a).2=none) (h:zF s d k a≠none):∃p c,zF s d k (a++z)=some (p,c)/\p<(a.length:Int):=by
 rw [zdO] at h|-;have hap:=zff z 0 a hs;rw [hap];unfold zaE;cases hf:(spl 0 a).1.findSome? (zaO (zw s k) (zoh s d) (a++z)) with
 | none=>
  refine absurd (zaW.2 ⟨fun r hr=>?_,hs⟩) h;have hb:=zgI 0 a r hr;exact (zhJ (r:=r) (r':=r) rfl rfl (zfx z (by omega) (by omega))).1 (qQ.1 hf r hr)
 | some q=>
  obtain ⟨p,c⟩:=q;simp only [List.findSome?_append,hf,Option.some_or];obtain ⟨r,hr,hq⟩:=q7 hf;have hb:=zgI 0 a r hr;have:=zmM (by omega) (by omega) (by omega) hq;exact ⟨p,c,rfl,by omega⟩
theorem znN {uw:Nat} {s:List Mes} (root:Int) {a b:List UInt8} (d:Int) (hf:130<=uw) (hw:WS s) (ha:a.length<=1048576) (hb:b.length<=1048576):zdg uw s root a b d=some (zdD s root [a,b] d).2.2:=by
 unfold zdg;rw [zih hw root ha d hf,sb,zih hw root hb d hf,zsB]
 grind [sb]
theorem zsj {uw:Nat} {s:List Mes} (root:Int) {a b:List UInt8} (d:Int) (hf:130<=uw) (hw:WS s) (ha:a.length<=1048576) (hb:b.length<=1048576):zbE uw s root a b d=some ((zdD s root [a,b] d).1,(zdD s root [a,b] d).2.2):=by
 unfold zbE;rw [znN root d hf hw ha hb,sb,zns (by simp) (by simp;omega),zsB]
 grind [sb]
def upTo (s:List Mes) (d:Nat) (k:Int) (b:List UInt8):Int:=match zF s d k b with
 | none=>b.length
 | some p=>p.1
theorem zhj {s:List Mes} {root d:Int}:∀{l:List (List UInt8)} {i j:Nat} {c:Int},zaJ s root d i l=some (j,c)->i<=j/\j<i+l.length
 | [],_,_,_,h=>by cases h
 | x::l,i,j,c,h=>by
  rw [zaJ] at h;split at h
  ·cases h;simp
  ·have:=zhj h;simp;omega
theorem zkC {s:List Mes} {root d:Int}:∀{l:List (List UInt8)} {i j:Nat} {c:Int},zaJ s root d i l=some (j,c)->∃h:j - i<l.length,(zW s root l[j - i] d).2=c
 | [],_,_,_,h=>by cases h
 | x::l,i,j,c,h=>by
  rw [zaJ] at h;split at h
  ·cases h;exact ⟨by simp,by simp⟩
  ·obtain ⟨g,e⟩:=zkC h;have:=zhj h;have ej:j - i=(j - (i+1))+1:=by omega
   exact ⟨by simp;omega,by simp only [ej,ql];exact e⟩
theorem zvv {s:List Mes} {k:Nat} (hm:(zw s k).Fields.length<=1152921504606846976) {d:Nat} (ha:argS s k d=0) {l:List (List UInt8)} (hl:l.length<=1048576) (hb:l.flatten.length<=1048576):
  zel (zw s k) l (upTo s d k l.flatten)=some (match zaJ s k d 0 l with
   | some p=>((p.1:Nat):Int)
   | none=>(l.length:Int)):=by
 unfold zel
 have key:∀(post uB:List (List UInt8)),l=uB++post->zF s d k uB.flatten=none->zbN l (zw s k) (upTo s d k l.flatten) (uB.flatten.length:Nat) (uB.length:Nat)=some (match zaJ s k d uB.length post with
   | some p=> .inr ((p.1:Nat):Int)
   | none=> .inl ()):=by
  intro post
  induction post with
  | nil=>
   intro uB he hp;refine zeY ?_;unfold zbd;rw [itF (by rw [he];simp)];rfl
  | cons x post ih=>
   intro uB he hp;have hil:uB.length<l.length:=by rw [he];simp
   have hx:idx l (uB.length:Nat)=some x:=by rw [zaF rfl hil];simp [he]
   have hfl:l.flatten=uB.flatten++x++post.flatten:=by rw [he];simp
   have hxl:uB.flatten.length+x.length<=1048576:=by rw [hfl] at hb;simp only [xz] at hb;omega
   have hck:(zW s k x d).2=0↔zF s d k x=none:=⟨fun h=>by simpa using (zdY h).2,fun h=>zdL ha (by simpa using h)⟩;have hcut:(uB.flatten++x).length=uB.flatten.length+x.length:=by simp
   by_cases h:zF s d k x=none
   ·have hv:=zpm h;have hpx:zF s d k (uB.flatten++x)=none:=(zbY s d k x hp).2 h;have hup:((uB.flatten++x).length:Int)<=upTo s d k l.flatten:=by
     unfold upTo;rw [hfl];cases hz:zF s d k (uB.flatten++x++post.flatten) with
     | none=>simp only [xz];omega
     | some q=>exact zoH post.flatten hpx (p:=q.1) (c:=q.2) hz
    refine (ziL (endv':=((uB.flatten.length+x.length:Nat):Int)) (v':=((uB.length+1:Nat):Int)) ?_).trans ?_
    ·unfold zbd;rw [pd,hx,sb,zly hm (by omega),sb,hv];rw [pg,itF (yn.2 ⟨by rfl,xT (by omega)⟩),pg];push_cast;rfl
    ·have e:=ih (uB++[x]) (by rw [he];simp) (by simpa using hpx);simp only [List.flatten_append,yO,List.flatten_nil,yA,xz,xw,yp] at e;rw [zaJ,xc (fun hc=>hc (hck.2 h))];exact e
   ·rw [zaJ,xd (fun hc=>h (hck.1 hc))];refine zeY ?_;unfold zbd;rw [pd,hx,sb,zly hm (by omega),sb,itT];rcases zhe (zw s k) x with ⟨h0,h1,_⟩| ⟨h0,_⟩
    ·have hsx:=(zjU h1).1;have hsp:(spl 0 (uB.flatten++x)).2=none:=by
      rw [zff x 0 _ (zsK s d k hp),xJ];have hsh:=zif uB.flatten.length 0 x;rw [xJ] at hsh;rw [hsh,hsx];rfl
     obtain ⟨p,c,hz,hlt⟩:=zoI post.flatten hsp (fun hc=>h ((zbY s d k x hp).1 hc));have hu:upTo s d k l.flatten=p:=by unfold upTo;rw [hfl,hz]
     rw [hu,pg];exact (yP _ _).mpr (.inr (xR (by omega)))
    ·have:((zau (zw s k) x).2.2 !=0)=true:=by simp;omega
     simp [this]
 have h:=key l [] rfl (zkB s d k);have h':zbN l (zw s k) (upTo s d k l.flatten) 0 0=_:=h;rw [h',sb];simp only [yp];cases zaJ s k d 0 l<;>rfl
theorem zwg {uw:Nat} {s:List Mes} (root:Int) {l:List (List UInt8)} (d:Int) (hf:130<=uw) (hw:WS s) (hl:l.length<=1048576) (hb:l.flatten.length<=1048576):zfV uw s root l d=some (zdD s root l d):=by
 unfold zfV zdD;rw [zns (by omega) (by omega),sb,zih hw root hb d hf,sb,zqx hw,sb];by_cases h:argS s root d=0
 ·obtain ⟨hr,h1,h2,h3,h4⟩:=zjX h;obtain ⟨k,rfl⟩:∃k:Nat,root=k:=⟨root.toNat,by omega⟩;obtain ⟨e,rfl⟩:∃k:Nat,d=k:=⟨d.toNat,by omega⟩;have hk:k<s.length:=by omega
  have hm:idx s (k:Int)=some (zw s k):=by rw [zaF rfl hk,zem hk]
  have hmf:(zw s k).Fields.length<=200:=by rw [zem hk];exact hr.few _ (x8 hk)
  have hu:(if (zW s k l.flatten e).2==0 then some (.inl (l.flatten.length:Int)) else (if argS s k e !=0 then some (.inr (argS s k e)) else some (.inl (zW s k l.flatten e).1)):Option (Int⊕Int))=some (.inl (upTo s e k l.flatten)):=by
   have hck:zW s k l.flatten e=(zF s e k l.flatten).getD (0,0):=by unfold zW;rw [xc (by simpa using h),xB]
   unfold upTo;rw [hck];cases hfi:zF s e k l.flatten with
   | none=>rfl
   | some p=>
    have:=zcY s e k _ _ _ hfi;rw [pf,itF (by simpa using h)];rfl
  rw [hu,sb,xc (by simpa using h)];simp only;rw [hm,sb,zvv (by omega) h hl hb,sb];cases hfb:zaJ s k e 0 l with
  | none=>simp only;rw [itF (by simp)]
  | some p=>
   obtain ⟨j,c⟩:=p;have hj:=zhj hfb;obtain ⟨g,hc⟩:=zkC hfb;have hxl:(l[j - 0]).length<=l.flatten.length:=(List.sublist_flatten_of_mem (x8 g)).length_le;simp only [yT] at hc hxl;simp only;rw [pd,zaF rfl (by omega),sb,zih hw k (by omega) e hf,sb,hc]
 ·have hc:=zgt (b:=l.flatten) h;rw [hc,itF (by simpa using h),itT (by simpa using h),xd h];rfl
theorem zlx {m:Mes} {b:List UInt8} {v:Vw} (h:v∈(zau m b).1):v.Field= -1/\fldI m v.R.Number= -1\/∃(i:Nat) (g:i<m.Fields.length),v.Field=i/\fldI m v.R.Number=i/\m.Fields[i].Number=v.R.Number:=by
 have hv:=(zwz h).2;rcases zcV m v.R.Number v.R.Wire with h1| ⟨h1,h2⟩| ⟨i,run,h1,h2,h3⟩
 ·rw [h1] at hv;cases hv
 ·rw [h1] at hv;simp only [Sum.inr.injEq,xO] at hv;exact .inl ⟨hv.1.symm,h2⟩
 ·rw [h1] at hv;simp only [Sum.inr.injEq,xO] at hv;rcases ziH m v.R.Number with ⟨g,_⟩| ⟨j,hj,g,gn,_⟩
  ·rw [g] at h2;omega
  ·rw [g] at h2;have:j=i:=by omega
   subst this;exact .inr ⟨j,hj,hv.1.symm,g,gn⟩
def zgA (m:Mes) (i:Int):Bool:=i != -1&& !(zU m i).Repeated&&(zU m i).Kind !=17
theorem zwp {m:Mes} (hm:m.Fields.length<=1152921504606846976) {b:List UInt8} (hb:b.length<=1048576):∃F,zcB m b=some F/\∀i,(mget F i).getD false=(((zau m b).1.any fun v=>v.Field==i)&&zgA m i):=by
 unfold zcB zdh;rw [zly hm hb,sb,sb];have uA:=zsC m b;have key:∀(post uB:List Vw) (F:List (Int×Bool)),(zau m b).1=uB++post->(∀i,(mget F i).getD false=((uB.any fun v=>v.Field==i)&&zgA m i))->∃G,zaN m ((zau m b).1.map prV) F (uB.length:Nat)=some G/\∀i,(mget G i).getD false=(((zau m b).1.any fun v=>v.Field==i)&&zgA m i):=by
  intro post
  induction post with
  | nil=>
   intro uB F he hF;refine ⟨F,zgV ?_,by rw [he,yA];exact hF⟩;unfold zaw;rw [itF (by rw [he];simp)]
  | cons v post ih=>
   intro uB F he hF;have hpl:uB.length<(zau m b).1.length:=by rw [he];simp
   have hidx:idx ((zau m b).1.map prV) (uB.length:Nat)=some (prV v):=by
    have:=zxa (xs:=(zau m b).1.map prV) (v:=prV v) (uB:=uB.map prV) (post:=post.map prV) (by rw [he];simp);simpa using this
   have hg:(if ((prV v).Field !=(-1))=true then (idx m.Fields (prV v).Field>>=fun x2=>if (!x2.Repeated)=true then (idx m.Fields (prV v).Field>>=fun x3=>some (x3.Kind !=17)) else some false) else some false)=some (zgA m v.Field):=by
    unfold zgA;show (if (v.Field !=(-1))=true then (idx m.Fields v.Field>>=fun x2=>if (!x2.Repeated)=true then (idx m.Fields v.Field>>=fun x3=>some (x3.Kind !=17)) else some false) else some false)=_;rcases zlx (show v∈(zau m b).1 by rw [he];simp) with ⟨h1,_⟩| ⟨i,hi,h1,_⟩
    ·rw [h1];rfl
    ·have:(v.Field !=(-1))=true:=by simp;omega
     rw [itT this,this,h1,zaF rfl hi,sb,sb,zjl hi];cases (m.Fields[i]).Repeated<;>rfl
   have e:∀F',(∀i,(mget F' i).getD false=(((uB++[v]).any fun v=>v.Field==i)&&zgA m i))->∃G,zaN m ((zau m b).1.map prV) F' ((uB.length+1:Nat):Int)=some G/\∀i,(mget G i).getD false=(((zau m b).1.any fun v=>v.Field==i)&&zgA m i):=fun F' h=>by
    have:=ih (uB++[v]) F' (by rw [he];simp) h;simpa using this
   cases hlo:zgA m v.Field with
   | true=>
    obtain ⟨G,g1,g2⟩:=e (mput F v.Field true) fun i=>by
     rw [zfW,yX];by_cases hi:i=v.Field
     ·rw [xd hi,hi,hlo];simp
     ·rw [xc hi,hF];have:(v.Field==i)=false:=by simpa using fun h=>hi h.symm
      simp [this]
    refine ⟨G,(zdG (fields':=mput F v.Field true) (v':=((uB.length+1:Nat):Int)) ?_).trans g1,g2⟩;unfold zaw;rw [pd,hidx,sb,hg,sb,itT hlo,pg];rfl
   | false=>
    obtain ⟨G,g1,g2⟩:=e F fun i=>by
     rw [hF,yX];by_cases hi:v.Field=i
     ·rw [<-hi,hlo];simp
     ·have:(v.Field==i)=false:=by simpa using hi
      simp [this]
    refine ⟨G,(zdG (fields':=F) (v':=((uB.length+1:Nat):Int)) ?_).trans g1,g2⟩;unfold zaw;rw [pd,hidx,sb,hg,sb,itF hlo,pg];rfl
 obtain ⟨G,g1,g2⟩:=key _ [] [] rfl (fun i=>by simp [mget]);have g1':zaN m ((zau m b).1.map prV) [] 0=some G:=g1;exact ⟨G,by rw [g1',sb],g2⟩
theorem zuE {uw:Nat} {s:List Mes} (root:Int) {a b:List UInt8} (d:Int) (hf:130<=uw) (hw:WS s) (ha:a.length<=1048576) (hb:b.length<=1048576):zdS uw s root a b d=some (if (zdD s root [a,b] d).2.2≠0 then (0,(zdD s root [a,b] d).2.2) else (((zoS (zw s root) a b:Nat):Int),0)):=by
 unfold zdS;rw [znN root d hf hw ha hb,sb];by_cases h:(zdD s root [a,b] d).2.2=0
 ·have harg:argS s root d=0:=by
   by_cases g:argS s root d=0
   ·exact g
   ·unfold zdD at h;rw [xd g] at h;exact absurd h g
  obtain ⟨hr,h1,h2,h3,h4⟩:=zjX harg;obtain ⟨k,rfl⟩:∃k:Nat,root=k:=⟨root.toNat,by omega⟩;have hk:k<s.length:=by omega
  have hm:idx s (k:Int)=some (zw s k):=by rw [zaF rfl hk,zem hk]
  have hmf:(zw s k).Fields.length<=200:=by rw [zem hk];exact hr.few _ (x8 hk)
  rw [itF (by simpa using h),xc (fun hc=>hc h),hm,sb]
  generalize zw s (k:Int)=m at hmf|-
  obtain ⟨F,hF,hFi⟩:=zwp (m:=m) (by omega) hb;rw [hF,sb];unfold zdh;rw [zly (by omega) ha,sb,sb];have uA:=zsC m a;have hp:∀v∈(zau m a).1,(mget F v.Field).getD false=(decide (0<=v.Field)&&(zau m b).1.any (fun u=>u.R.Number==v.R.Number)&& !(zU m v.Field).Repeated&&(zU m v.Field).Kind !=17):=fun v hv=>by
   rw [hFi];unfold zgA;rcases zlx hv with ⟨e1,e2⟩| ⟨i,hi,e1,e2,e3⟩
   ·rw [e1];simp
   ·have hany:((zau m b).1.any fun u=>u.Field==v.Field)=(zau m b).1.any (fun u=>u.R.Number==v.R.Number):=by
     rw [xU,qe,qe];constructor
     ·rintro ⟨u,hu,he⟩;refine ⟨u,hu,?_⟩;have he':u.Field=v.Field:=by simpa using he
      rcases zlx hu with ⟨f1,f2⟩| ⟨j,hj,f1,f2,f3⟩
      ·omega
      ·have:j=i:=by omega
       subst this;simp [<-f3,e3]
     ·rintro ⟨u,hu,he⟩;refine ⟨u,hu,?_⟩;have he':u.R.Number=v.R.Number:=by simpa using he
      rw [<-he'] at e2;rcases zlx hu with ⟨f1,f2⟩| ⟨j,hj,f1,f2,f3⟩
      ·omega
      ·simp;omega
    have e4:(v.Field != -1)=true:=by simp;omega
    have e5:decide (0<=v.Field)=true:=by simp;omega
    rw [hany,e4,e5,qh,qh,Bool.and_assoc]
  have key:∀(post uB:List Vw),(zau m a).1=uB++post->zcq F ((zau m a).1.map prV) ((uB.filter fun v=>(mget F v.Field).getD false).length:Nat) (uB.length:Nat)=some ((((zau m a).1.filter fun v=>(mget F v.Field).getD false).length:Nat):Int):=by
   intro post
   induction post with
   | nil=>
    intro uB he;refine zjv ?_;unfold zbs;rw [itF (by rw [he];simp),he,yA]
   | cons v post ih=>
    intro uB he;have hpl:uB.length<(zau m a).1.length:=by rw [he];simp
    have hfl:=List.length_filter_le (fun v=>(mget F v.Field).getD false) uB;have hidx:idx ((zau m a).1.map prV) (uB.length:Nat)=some (prV v):=by
     have:=zxa (xs:=(zau m a).1.map prV) (v:=prV v) (uB:=uB.map prV) (post:=post.map prV) (by rw [he];simp);simpa using this
    have e:=ih (uB++[v]) (by rw [he];simp);rw [List.filter_append,xz,xz] at e;cases hv:(mget F v.Field).getD false with
    | true=>
     refine (zfq (gone':=(((uB.filter fun v=>(mget F v.Field).getD false).length+1:Nat):Int)) (v':=((uB.length+1:Nat):Int)) ?_).trans (by simpa [hv] using e);unfold zbs;rw [pd,hidx,sb,itT (show (mget F (prV v).Field).getD false=true from hv),pg,pg];rfl
    | false=>
     refine (zfq (gone':=(((uB.filter fun v=>(mget F v.Field).getD false).length:Nat):Int)) (v':=((uB.length+1:Nat):Int)) ?_).trans (by simpa [hv] using e);unfold zbs;rw [pd,hidx,sb,itF (show (mget F (prV v).Field).getD false=false from hv),pg];rfl
  have h0:=key _ [] rfl;have h0':zcq F ((zau m a).1.map prV) 0 0=_:=h0;rw [h0',sb];unfold zoS;rw [List.filter_congr hp]
 ·rw [itT (by simpa using h),xd h]
end Go.Proofs.Ytnckiilakdkklaa
