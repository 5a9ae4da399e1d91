/-
  What the plain functions are. No condition.
-/
import Derived.Test.YtnckiilakdkklaaGreatx2S1
import Derived.Test.YtnckiilakdkklaaGreatx2K2
set_option autoImplicit true
set_option relaxedAutoImplicit true
namespace Go.Proofs.YtnckiilakdkklaaGreat
open Go.IntKind (i64 u32 u64)
open Go
set_option linter.unusedVariables false
theorem ztz (w:Int):zfz w=some (w%4294967296):=by unfold zfz;rw [zur]
theorem zxd (w:Int):zfY w=some (sgnS w):=by
 unfold zfY;rw [ztz,sb,zxq];unfold sgnS;congr 1;split<;>split<;>omega
theorem zxo (h: -2147483648<=n/\n<=2147483647):zfZ n=some (zrH n):=by
 unfold zfZ;rw [pz,zgp];unfold zrH;congr 1;split<;>omega
def zbV (k:Int):Bool:=decide (1<=k/\k<=17)
def kNum (k:Int):Bool:=decide (1<=k/\k<=14)
def zdK (k:Int):Int:=if 15<=k then 2 else if 12<=k then 1 else if 9<=k then 5 else 0
def zfg (k w:Int):Int:=
 if k=1\/k=8 then zrH (sgnS w) else if k=3\/k=5\/k=9\/k=10\/k=11 then w%4294967296 else if k=7 then (if 0<w then 1 else 0) else w
theorem zmA (k:Int):zbT k=some (zbV k):=by unfold zbT zbV;simp [Bool.decide_and]
theorem zlE (k:Int):zbf k=some (kNum k):=by unfold zbf kNum;simp [Bool.decide_and]
theorem ztO (k:Int):zcW k=some (zdK k):=by
 unfold zcW zdK;by_cases h1:15<=k
 ·rw [itT (by simpa using h1),xe h1]
 ·rw [itF (by simpa using h1),xd h1];by_cases h2:12<=k
  ·rw [itT (by simpa using h2),xe h2]
  ·rw [itF (by simpa using h2),xd h2];by_cases h3:9<=k
   ·rw [itT (by simpa using h3),xe h3]
   ·rw [itF (by simpa using h3),xd h3]
theorem zsT (k:Int) (h:0<=w/\w<=18446744073709551615):0<=zfg k w/\zfg k w<=18446744073709551615:=by
 have hs:=zyI w;unfold zfg;split
 ·exact zAm (by omega)
 ·split
  ·omega
  ·split
   ·split<;>omega
   ·exact h
abbrev Fld:=zd
abbrev Mes:=zc
def zhY {α:Type} (p:α->Bool) (l:List α):Int:=match l.findIdx? p with
 | some i=>(i:Int)
 | none=> -1
theorem znB {α:Type} {p:α->Bool} {l:List α} (h:l.findIdx? p=none):zhY p l= -1:=by unfold zhY;rw [h]
theorem znC {α:Type} {p:α->Bool} {l:List α} {i:Nat} (h:l.findIdx? p=some i):zhY p l=(i:Int):=by unfold zhY;rw [h]
theorem zmY {α:Type} (p:α->Bool) (l:List α) (F:Int->Option (Unit⊕Int)) (h0:F (l.length:Int)=some (.inl ())) (hs:∀(i:Nat) (h:i<l.length),F (i:Int)=if p l[i] then some (.inr (i:Int)) else F ((i+1:Nat):Int)):
  ∀(d i:Nat),i+d=l.length->(∀j (h:j<l.length),j<i->p l[j]=false)->F (i:Int)=some (match l.findIdx? p with| some k=> .inr (k:Int)| none=> .inl ()):=by
 intro d
 induction d with
 | zero=>
  intro i hi hj;have:i=l.length:=by omega
  subst this;have hn:l.findIdx? p=none:=by
   rw [qE];intro x hx;obtain ⟨j,hj',rfl⟩:=qq hx
   grind
  rw [h0,hn]
 | succ d ih=>
  intro i hi hj;have hil:i<l.length:=by omega
  rw [hs i hil];by_cases hp:p l[i]=true
  ·have hf:l.findIdx? p=some i:=by
    rw [pg]
    grind
   grind
  ·rw [xd hp];refine ih (i+1) (by omega) fun j h hji=>?_
   grind
def fldI (m:Mes) (number:Int):Int:=zhY (fun f:Fld=>f.Number==number) m.Fields
theorem ztN (hm:m.Fields.length<=1152921504606846976) (number:Int):zcE m number=some (fldI m number):=by
 unfold zcE fldI;have h:=zmY (fun f:Fld=>f.Number==number) m.Fields (fun i=>zbR m number i) (by
   refine zex ?_;unfold zaM;rw [itF (by simp)])
  (fun i hi=>by
   have hb:zaM m number i=if ((m.Fields[i]).Number==number)=true then some (.inr (.inr (i:Int))) else some (.inl ((i+1:Nat):Int)):=by
    grind [zaM,sb,zm,zX]
   by_cases hp:((m.Fields[i]).Number==number)=true
   ·rw [xe hp] at hb|-;exact zex hb
   ·rw [xd hp] at hb|-;exact zhs hb)
  m.Fields.length 0 (by omega) (fun j _ hj=>by omega)
 grind [zhY,sb]
def nmc (i:Nat) (c:UInt8):Bool:=decide (65<=c.toNat/\c.toNat<=90\/97<=c.toNat/\c.toNat<=122\/c.toNat=95\/0<i/\48<=c.toNat/\c.toNat<=57)
def nmA:Nat->List UInt8->Bool
 | _,[]=>true
 | i,c::l=>nmc i c&&nmA (i+1) l
def zcP (s:List UInt8):Bool:=nmA 0 s&&decide (1<=s.length/\s.length<=60)
theorem zeh {α:Type} {l t:List α} {x:α} {k:Nat} (h:l.drop k=x::t):∃hk:k<l.length,l[k]=x/\l.drop (k+1)=t:=by
 have hk:k<l.length:=by
  rcases yn k l.length with h'| h'
  ·exact h'
  ·rw [yo h'] at h;cases h
 rw [xZ hk] at h
 grind
theorem zeR {α:Type} {l:List α} {k:Nat} (h:l.drop k=[]):l.length<=k:=by have:=congrArg List.length h;simp at this;omega
theorem zwQ (s:List UInt8) (hs:s.length<=1152921504606846976):∀(l:List UInt8) (i:Nat),s.drop i=l->zbw s i=some (if nmA i l=true then .inl () else .inr ()):=by
 intro l
 induction l with
 | nil=>
  intro i hd;have:=zeR hd;refine zeC ?_;unfold zaU;rw [py];rfl
 | cons c l ih=>
  intro i hd;obtain ⟨hk,hx,hd'⟩:=zeh hd;have hb:zaU s i=if nmc i c=true then some (.inl ((i+1:Nat):Int)) else some (.inr (.inr ())):=by
   unfold zaU;rw [px,zX rfl hk,sb,hx,pz];have e:(if (decide ((c.toNat:Int)>=65)) then ((decide ((c.toNat:Int)<=90))|| (if (decide ((c.toNat:Int)>=97)) then ((decide ((c.toNat:Int)<=122))|| (((c.toNat:Int)==95)|| ((decide ((i:Int)>0))&&((decide ((c.toNat:Int)>=48))&&(decide ((c.toNat:Int)<=57)))))) else (((c.toNat:Int)==95)|| ((decide ((i:Int)>0))&&((decide ((c.toNat:Int)>=48))&&(decide ((c.toNat:Int)<=57))))))) else (if (decide ((c.toNat:Int)>=97)) then ((decide ((c.toNat:Int)<=122))|| (((c.toNat:Int)==95)|| ((decide ((i:Int)>0))&&((decide ((c.toNat:Int)>=48))&&(decide ((c.toNat:Int)<=57)))))) else (((c.toNat:Int)==95)|| ((decide ((i:Int)>0))&&((decide ((c.toNat:Int)>=48))&&(decide ((c.toNat:Int)<=57)))))))=nmc i c:=by
    have e95:((c.toNat:Int)==95)=decide (c.toNat=95):=zrO _ 95;have a1:decide ((c.toNat:Int)>=65)=decide (65<=c.toNat):=yz.2 (by omega);have a2:decide ((c.toNat:Int)<=90)=decide (c.toNat<=90):=yz.2 (by omega);have a3:decide ((c.toNat:Int)>=97)=decide (97<=c.toNat):=yz.2 (by omega);have a4:decide ((c.toNat:Int)<=122)=decide (c.toNat<=122):=yz.2 (by omega);have a5:decide ((i:Int)>0)=decide (0<i):=yz.2 (by omega);have a6:decide ((c.toNat:Int)>=48)=decide (48<=c.toNat):=yz.2 (by omega);have a7:decide ((c.toNat:Int)<=57)=decide (c.toNat<=57):=yz.2 (by omega);rw [e95,a1,a2,a3,a4,a5,a6,a7];simp only [nmc,Bool.decide_or,Bool.decide_and]
    grind
   grind
  rw [nmA];cases hc:nmc i c
  ·rw [hc,xd (by simp)] at hb;rw [zeC hb];rfl
  ·rw [hc,xe rfl] at hb;rw [zhT hb,ih _ hd',qh]
theorem zpJ (hs:s.length<=1152921504606846976):zci s=some (zcP s):=by
 unfold zci zcP;have h:=zwQ s hs s 0 rfl;have h':zbw s 0=_:=h;rw [h',sb];cases nmA 0 s
 ·rfl
 ·simp [Bool.decide_and]
  grind
def zbn (n:Int) (prev:List Fld) (f:Fld):Int:=
 if zcP f.Name=false then 5 else if prev.any (fun g=>g.Name==f.Name)=true then 6
 else if f.Number<1\/f.Number>536870911\/(19000<=f.Number/\f.Number<20000) then 7
 else if prev.any (fun g=>g.Number==f.Number)=true then 8 else if zbV f.Kind=false then 9
 else if f.Packed=true/\¬(f.Repeated=true/\kNum f.Kind=true) then 10
 else if f.Kind=17/\(f.Of<0\/f.Of>=n)\/f.Kind≠17/\f.Of≠0 then 11 else 0
theorem zoR (n:Int) (prev:List Fld) (f:Fld):0<=zbn n prev f/\zbn n prev f<=11:=by
 unfold zbn;omega
theorem zuH {s:List Mes} {i k:Nat} {m:Mes} (hi:∃h:i<s.length,s[i]=m) (hk:k<=m.Fields.length) (hb:m.Fields.length<=1152921504606846976) (f:Fld):
  ∀(l:List Fld) (j:Nat) (a b:Bool),(m.Fields.take k).drop j=l->j<=k->zbm i k s f a b j=some (a|| l.any (fun g=>g.Name==f.Name),b|| l.any (fun g=>g.Number==f.Number)):=by
 obtain ⟨hi,hm⟩:=hi;intro l
 induction l with
 | nil=>
  intro j a b hd hj;have:=zeR hd;rw [xS] at this;refine zhr ?_;unfold zaL
  grind
 | cons g l ih=>
  intro j a b hd hj;obtain ⟨hjk,hx,hd'⟩:=zeh hd;rw [xS] at hjk;rw [List.getElem_take] at hx;refine (zhq (name':=a|| (g.Name==f.Name)) (number':=b|| (g.Number==f.Number)) (j':=((j+1:Nat):Int)) ?_).trans ?_
  ·unfold zaL;have e1:idx s (i:Int)=some m:=by rw [zX rfl hi,hm]
   grind [zX,sb,zm]
  ·rw [ih _ _ _ hd' (by omega),yK,yK,qF,qF]
theorem ztM {s:List Mes} {i k:Nat} {m:Mes} {f:Fld} (hi:∃h:i<s.length,s[i]=m) (hk:∃h:k<m.Fields.length,m.Fields[k]=f) (hb:m.Fields.length<=1152921504606846976) (hf:f.Name.length<=1152921504606846976):
  zcD s i k=some (zbn s.length (m.Fields.take k) f):=by
 obtain ⟨hil,hm⟩:=hi;obtain ⟨hkl,hfe⟩:=hk;have e1:idx s (i:Int)=some m:=by rw [zX rfl hil,hm]
 have e2:idx m.Fields (k:Int)=some f:=by rw [zX rfl hkl,hfe]
 have h:=zuH ⟨hil,hm⟩ (Nat.le_of_lt hkl) hb f (m.Fields.take k) 0 false false rfl (xm _);have h':zbm i k s f false false 0=_:=h;unfold zcD zbn;rw [e1,sb,e2,sb,h',sb,zpJ hf,sb];simp only [qG];cases h1:zcP f.Name
 ·rfl
 ·rw [pw,xd (show ¬(true=false) by simp)];cases h2:(m.Fields.take k).any (fun g=>g.Name==f.Name)
  ·rw [pw,xd (show ¬(false=true) by simp)];by_cases h3:f.Number<1\/f.Number>536870911\/(19000<=f.Number/\f.Number<20000)
   ·grind
   ·rw [py,xd h3];cases h4:(m.Fields.take k).any (fun g=>g.Number==f.Number)
    ·grind [zmA,sb,zlE]
    rfl
  rfl
def msgF (n:Int) (prev:List Fld):List Fld->Option (Nat×Int)
 | []=>none
 | f::l=>if 0<zbn n prev f then some (prev.length,zbn n prev f) else msgF n (prev++[f]) l
def chkF (n:Int) (prev:List Mes):List Mes->Option (Nat×Int×Int)
 | []=>none
 | m::l=>if zcP m.Name=false then some (prev.length, -1,2) else if prev.any (fun g=>g.Name==m.Name)=true then some (prev.length, -1,3)
  else if 200<m.Fields.length then some (prev.length, -1,4) else match msgF n [] m.Fields with
   | some (k,w)=>some (prev.length,(k:Int),w)
   | none=>chkF n (prev++[m]) l
def zfA (s:List Mes):Int×Int×Int:=if s.length=0\/100<s.length then (-1, -1,1) else match chkF s.length [] s with
 | none=>(0,0,0)
 | some (i,k,w)=>((i:Int),k,w)
def zlG (s:List Mes):Bool:=decide ((zfA s).2.2=0)
def WS (s:List Mes):Prop:=s.length<=140737488351232/\∀m∈s,m.Name.length<=140737488351232/\m.Fields.length<=140737488351232/\∀f∈m.Fields,f.Name.length<=140737488351232
theorem zsX {s:List Mes} {i:Nat} {m:Mes} (hi:∃h:i<s.length,s[i]=m) (hb:m.Fields.length<=140737488351232) (hn:∀f∈m.Fields,f.Name.length<=140737488351232):
  ∀(l:List Fld) (k:Nat),m.Fields.drop k=l->k<=m.Fields.length->zbl i s k=some (match msgF s.length (m.Fields.take k) l with| some (j,w)=> .inr ((j:Int),w)| none=> .inl ()):=by
 obtain ⟨hil,hm⟩:=hi;have e1:idx s (i:Int)=some m:=by rw [zX rfl hil,hm]
 intro l
 induction l with
 | nil=>
  intro k hd hk;have:=zeR hd;refine zew ?_;unfold zaK;rw [e1,sb,py];rfl
 | cons f l ih=>
  intro k hd hk;obtain ⟨hkl,hx,hd'⟩:=zeh hd;have hf:=ztM (s:=s) (i:=i) (k:=k) (m:=m) (f:=f) ⟨hil,hm⟩ ⟨hkl,hx⟩ (by omega) (by have:=hn f (by rw [<-hx];exact xF hkl);omega);have hbd:=zoR s.length (m.Fields.take k) f;have htl:(m.Fields.take k).length=k:=by rw [xS];omega
  rw [msgF];by_cases h0:0<zbn s.length (m.Fields.take k) f
  ·rw [xe h0];refine zew ?_;unfold zaK
   grind
  ·rw [xd h0];refine (zhp (k2':=((k+1:Nat):Int)) ?_).trans ?_
   ·unfold zaK;rw [e1,sb,px,hf,sb,py,pz];push_cast;rfl
   grind
theorem zsW (hi:∃h:i<s.length,s[i]=m) (hs:s.length<=140737488351232):
  ∀(l:List Mes) (k:Nat) (a:Bool),(s.take i).drop k=l->k<=i->zbk i s a k=some (a|| l.any (fun g=>g.Name==m.Name)):=by
 obtain ⟨hil,hm⟩:=hi;intro l
 induction l with
 | nil=>
  intro k a hd hk;have:=zeR hd;rw [xS] at this;refine zho ?_;unfold zaJ
  grind
 | cons g l ih=>
  intro k a hd hk;obtain ⟨hkl,hx,hd'⟩:=zeh hd;rw [xS] at hkl;rw [List.getElem_take] at hx;refine (zhn (twice':=a|| (g.Name==m.Name)) (k':=((k+1:Nat):Int)) ?_).trans ?_
  ·grind [zaJ,sb,zm,zX]
  ·rw [ih _ _ hd' (by omega),yK,qF]
theorem zsV (hw:WS s):∀(l:List Mes) (i:Nat),s.drop i=l->i<=s.length->zbQ s i=some (match chkF s.length (s.take i) l with| some (j,k,w)=> .inr ((j:Int),k,w)| none=> .inl ()):=by
 intro l
 induction l with
 | nil=>
  intro i hd hi;have:=zeR hd;refine zbb ?_;unfold zaI;rw [py];rfl
 | cons m l ih=>
  intro i hd hi;obtain ⟨hil,hx,hd'⟩:=zeh hd;obtain ⟨hsl,hwm⟩:=hw;obtain ⟨w1,w2,w3⟩:=hwm m (by rw [<-hx];exact xF hil);have htl:(s.take i).length=i:=by rw [xS];omega
  have e1:idx s (i:Int)=some m:=by rw [zX rfl hil,hx]
  have h2:=zsW ⟨hil,hx⟩ hsl (s.take i) 0 false rfl (xm _);have h2':zbk i s false 0=_:=h2;have h3:=zsX ⟨hil,hx⟩ w2 w3 m.Fields 0 rfl (xm _);have h3':zbl i s 0=_:=h3
  have hb:zaI s i=(if zcP m.Name=false then some (.inr (.inr ((i:Int), -1,2))) else if (s.take i).any (fun g=>g.Name==m.Name)=true then some (.inr (.inr ((i:Int), -1,3)))
    else if 200<m.Fields.length then some (.inr (.inr ((i:Int), -1,4))) else match msgF s.length [] m.Fields with
     | some (k,w)=>some (.inr (.inr ((i:Int),(k:Int),w)))
     | none=>some (.inl ((i+1:Nat):Int))):=by
   unfold zaI;rw [px,h2',sb,e1,sb,zpJ (by omega),sb,sb,h3',sb,qG];cases h4:zcP m.Name
   ·rfl
   ·rw [pw,xd (show ¬(true=false) by simp)];cases h5:(s.take i).any (fun g=>g.Name==m.Name)
    ·rw [pw,xd (show ¬(false=true) by simp)];by_cases h6:200<m.Fields.length
     ·grind
     ·rw [py,xd h6,yq];cases msgF s.length [] m.Fields with
      | none=>simp only;rw [pz];push_cast;rfl
      | some p=>rfl
    rfl
  rw [chkF];by_cases h4:zcP m.Name=false
  ·rw [xe h4] at hb|-;rw [zbb hb];simp only [htl]
  ·rw [xd h4] at hb|-;by_cases h5:(s.take i).any (fun g=>g.Name==m.Name)=true
   ·rw [xe h5] at hb|-;rw [zbb hb];simp only [htl]
   ·rw [xd h5] at hb|-;by_cases h6:200<m.Fields.length
    ·rw [xe h6] at hb|-;rw [zbb hb];simp only [htl]
    ·rw [xd h6] at hb|-;cases h7:msgF s.length [] m.Fields with
     | some p=>
      rw [h7] at hb;rw [zbb hb];simp only [htl]
     | none=>
      rw [h7] at hb;rw [zhm hb,ih _ hd' (by omega),ph hil,hx]
theorem zqw (hw:WS s):zcC s=some (zfA s):=by
 unfold zcC zfA;by_cases h:s.length=0\/100<s.length
 ·grind
 ·have e0:((s.length:Int)==0)=decide (s.length=0):=zrO _ 0;rw [e0,itF (by simp only [yy,pi];omega),xd h];have h1:=zsV hw s 0 rfl (xm _)
  grind
theorem zqy (hw:WS s):zcF s=some (zlG s):=by
 unfold zcF zlG;rw [zqw hw,sb];rfl
theorem znh :∀(l prev:List Fld),msgF n prev l=none↔∀(k:Nat) (f:Fld),l[k]? =some f->zbn n (prev++l.take k) f=0
 | [],prev=>by simp [msgF]
 | f::l,prev=>by
  have hb:=zoR n prev f;rw [msgF];by_cases h:0<zbn n prev f
  ·rw [xe h];refine ⟨(fun h'=>nomatch h'),fun h'=>?_⟩;have:=h' 0 f rfl;simp at this;omega
  ·rw [xd h,znh l (prev++[f])];constructor
   ·intro h' k g hg;cases k with
    | zero=>simp at hg;subst hg;simp;omega
    | succ k=>have:=h' k g (by simpa using hg);simpa using this
   ·intro h' k g hg;have:=h' (k+1) g (by simpa using hg);simpa using this
theorem zqM :∀(l prev:List Mes),chkF n prev l=none↔∀(i:Nat) (m:Mes),l[i]? =some m->zcP m.Name=true/\(prev++l.take i).any (fun g=>g.Name==m.Name)=false/\m.Fields.length<=200/\msgF n [] m.Fields=none
 | [],prev=>by simp [chkF]
 | m::l,prev=>by
  rw [chkF];by_cases h1:zcP m.Name=false
  ·rw [xe h1];refine ⟨(fun h'=>nomatch h'),fun h'=>?_⟩;have:=(h' 0 m rfl).1;rw [h1] at this;cases this
  ·rw [xd h1];by_cases h2:prev.any (fun g=>g.Name==m.Name)=true
   ·rw [xe h2];refine ⟨(fun h'=>nomatch h'),fun h'=>?_⟩;have:=(h' 0 m rfl).2.1;simp only [yq,yJ] at this;rw [h2] at this;cases this
   ·rw [xd h2];by_cases h3:200<m.Fields.length
    ·rw [xe h3];refine ⟨(fun h'=>nomatch h'),fun h'=>?_⟩;have:=(h' 0 m rfl).2.2.1;omega
    ·rw [xd h3];cases h4:msgF n [] m.Fields with
     | some p=>
      refine ⟨(fun h'=>nomatch h'),fun h'=>?_⟩;have:=(h' 0 m rfl).2.2.2;rw [h4] at this;cases this
     | none=>
      simp only;rw [zqM l (prev++[m])];constructor
      ·intro h' i g hg;cases i with
       | zero=>simp at hg;subst hg;exact ⟨by simpa using h1,by simpa using h2,by omega,h4⟩
       | succ i=>have:=h' i g (by simpa using hg);simpa using this
      ·intro h' i g hg;have:=h' (i+1) g (by simpa using hg);simpa using this
theorem zzS:∀(n:Int) (l prev:List Fld) (k:Nat) (w:Int),msgF n prev l=some (k,w)->0<w:=by
 intro n l
 induction l with
 | nil=>intro prev k w h;cases h
 | cons f l ih=>
  intro prev k w h;rw [msgF] at h
  grind
theorem zvu:∀(n:Int) (l prev:List Mes) (i:Nat) (k w:Int),chkF n prev l=some (i,k,w)->0<w:=by
 intro n l
 induction l with
 | nil=>intro prev i k w h;cases h
 | cons m l ih=>
  intro prev i k w h;rw [chkF] at h;split at h
  ·cases h;omega
  ·split at h
   ·cases h;omega
   ·split at h
    ·cases h;omega
    ·split at h
     ·rename_i k' w' h';cases h;exact zzS _ _ _ _ _ h'
     grind
structure zAs (n:Int) (f:Fld):Prop where
 name:zcP f.Name=true
 lo:1<=f.Number
 hi:f.Number<=536870911
 kind:zbV f.Kind=true
 packed:f.Packed=true->f.Repeated=true/\kNum f.Kind=true
 sub:f.Kind=17->0<=f.Of/\f.Of<n
 noSub:f.Kind≠17->f.Of=0
theorem zoS (h:zbn n prev f=0):zAs n f/\prev.any (fun g=>g.Name==f.Name)=false/\prev.any (fun g=>g.Number==f.Number)=false:=by
 unfold zbn at h;split at h
 ·omega
 ·rename_i h1;split at h
  ·omega
  ·rename_i h2;split at h
   ·omega
   ·rename_i h3;split at h
    ·omega
    ·rename_i h4;split at h
     ·omega
     ·rename_i h5;split at h
      ·omega
      ·rename_i h6;split at h
       ·omega
       ·rename_i h7;refine ⟨⟨by simpa using h1,by omega,by omega,by simpa using h5,fun hp=>?_,fun hk=>by omega,fun hk=>by omega⟩,by simpa using h2,by simpa using h4⟩
        grind
structure zoA (s:List Mes):Prop where
 len:1<=s.length/\s.length<=100
 name:∀m∈s,zcP m.Name=true
 names:∀(i j:Nat) (a b:Mes),i<j->s[i]? =some a->s[j]? =some b->a.Name≠b.Name
 few:∀m∈s,m.Fields.length<=200
 fld:∀m∈s,∀f∈m.Fields,zAs s.length f
 nums:∀m∈s,∀(i j:Nat) (f g:Fld),i<j->m.Fields[i]? =some f->m.Fields[j]? =some g->f.Number≠g.Number/\f.Name≠g.Name
theorem zxa {s:List Mes} (h:zlG s=true):zoA s:=by
 have h0:(zfA s).2.2=0:=by simpa [zlG] using h
 have h1:¬(s.length=0\/100<s.length):=fun hh=>by unfold zfA at h0;rw [xe hh] at h0;simp at h0
 have h2:chkF s.length [] s=none:=by
  cases h4:chkF s.length [] s with
  | none=>rfl
  | some p=>
   exfalso;obtain ⟨i,k,w⟩:=p;have h5:(zfA s).2.2=w:=by unfold zfA;rw [xd h1,h4]
   have:=zvu _ _ _ _ _ _ h4;omega
 have h3:=(zqM s []).1 h2;have at':∀m∈s,zcP m.Name=true/\m.Fields.length<=200/\msgF s.length [] m.Fields=none:=fun m hm=>by
  obtain ⟨i,hi,rfl⟩:=qq hm;have:=h3 i _ (xw hi)
  grind
 refine ⟨by omega,fun m hm=>(at' m hm).1,fun i j a b hij ha hb=>?_,fun m hm=>(at' m hm).2.1,fun m hm f hf=>?_,fun m hm i j f g hij hf hg=>?_⟩
 ·have:=(h3 j b hb).2.1;have hai:a∈([]++s.take j:List Mes):=by
   rw [xV];exact qu (i:=i) (by rw [yc,xe hij];exact ha)
  grind
 ·have h4:=(znh m.Fields []).1 (at' m hm).2.2;obtain ⟨i,hi,rfl⟩:=qq hf;exact (zoS (h4 i _ (xw hi))).1
 ·have h4:=(znh m.Fields []).1 (at' m hm).2.2;obtain ⟨_,k1,k2⟩:=zoS (h4 j g hg);have hai:f∈([]++m.Fields.take j:List Fld):=by
   rw [xV];exact qu (i:=i) (by rw [yc,xe hij];exact hf)
  grind
theorem zwu {s:List Mes} {i:Nat} {m:Mes} (hi:∃h:i<s.length,s[i]=m) (hb:m.Fields.length<=140737488351232):∀(d k:Nat) (n:Int),k+d=m.Fields.length->∃r,zbH i s n k=some r:=by
 obtain ⟨hil,hm⟩:=hi;have e1:idx s (i:Int)=some m:=by rw [zX rfl hil,hm]
 intro d
 induction d with
 | zero=>
  intro k n hk;refine ⟨n,zim ?_⟩;unfold zbe
  grind
 | succ d ih=>
  intro k n hk;obtain ⟨r,hr⟩:=ih (k+1) (i64.wrap (n+(i64.wrap (Int.tdiv (((m.Fields[k]'(by omega)).Name.length:Int)) 100)))) (by omega);refine ⟨r,(zil (k':=((k+1:Nat):Int)) ?_).trans hr⟩
  grind [zbe,sb,zm,zX]
theorem zBb {s:List Mes} (hw:WS s):∃b,zdk s=some b:=by
 obtain ⟨hs,hm⟩:=hw;have key:∀(d i:Nat) (n:Int),i+d=s.length->∃r,zbG s n i=some r:=by
  intro d
  induction d with
  | zero=>
   intro i n hi;refine ⟨n,zik ?_⟩;unfold zbd
   grind
  | succ d ih=>
   intro i n hi;have hil:i<s.length:=by omega
   obtain ⟨q,hq⟩:=zwu (s:=s) (i:=i) (m:=s[i]) ⟨hil,rfl⟩ (hm _ (xF hil)).2.1 (s[i]).Fields.length 0
    (i64.wrap ((i64.wrap ((i64.wrap (n+1))+(i64.wrap (Int.tdiv ((s[i]).Name.length:Int) 100))))+((s[i]).Fields.length:Int))) (by omega)
   have hq':zbH i s (i64.wrap ((i64.wrap ((i64.wrap (n+1))+(i64.wrap (Int.tdiv ((s[i]).Name.length:Int) 100))))+((s[i]).Fields.length:Int))) 0=some q:=hq;obtain ⟨r,hr⟩:=ih (i+1) q (by omega);refine ⟨r,(zij (i':=((i+1:Nat):Int)) ?_).trans hr⟩
   grind [zbd,sb,zm,zX]
 obtain ⟨r,hr⟩:=key s.length 0 0 (by omega);have hr':zbG s 0 0=some r:=hr;exact ⟨_,by unfold zdk;rw [hr',sb]⟩
def zAx (m:Mes) (p:Int):Int:=(m.Fields.getD p.toNat ⟨[],0,0,false,false,0⟩).Number
def zAX (κ:Int->Int) (a b:Int):Prop:=κ a<κ b\/κ a=κ b/\a<b
def cpN (r:Nat):List Nat:=
 if r<128 then [r] else if r<2048 then [192+r/64,128+r%64]
 else if r<65536 then (if 55296<=r/\r<=57343 then [] else [224+r/4096,128+r/64%64,128+r%64])
 else if r<=1114111 then [240+r/262144,128+r/4096%64,128+r/64%64,128+r%64] else []
def cpB (r:Nat):List UInt8:=(cpN r).map UInt8.ofNat
def cont (c:UInt8):Bool:=decide (128<=c.toNat/\c.toNat<192)
def is1:List UInt8->Bool
 | a::_=>decide (a.toNat<128)
 | _=>false
def is2:List UInt8->Bool
 | a::b::_=>decide (194<=a.toNat/\a.toNat<224/\cont b=true)
 | _=>false
def is3:List UInt8->Bool
 | a::b::c::_=>decide (224<=a.toNat/\a.toNat<240/\cont b=true/\cont c=true/\(a.toNat=224->160<=b.toNat)/\(a.toNat=237->b.toNat<160))
 | _=>false
def is4:List UInt8->Bool
 | a::b::c::d::_=>decide (240<=a.toNat/\a.toNat<245/\cont b=true/\cont c=true/\cont d=true/\(a.toNat=240->144<=b.toNat)/\(a.toNat=244->b.toNat<144))
 | _=>false
def nxt (l:List UInt8):Nat:=if is1 l then 1 else if is2 l then 2 else if is3 l then 3 else if is4 l then 4 else 0
theorem zmn (h:n<256):(UInt8.ofNat n=c)↔n=c.toNat:=by
 constructor
 ·intro e;rw [<-e,UInt8.toNat_ofNat'];omega
 ·intro e;rw [e,UInt8.ofNat_toNat]
theorem zyz (r:Int):zdl r=some (if r<0 then [] else cpB r.toNat):=by
 unfold zdl;by_cases h0:r<0
 ·rw [px,xe h0]
 ·rw [xd h0];obtain ⟨n,rfl⟩:∃n:Nat,r=n:=⟨r.toNat,by omega⟩;rw [xt];unfold cpB cpN;by_cases h1:n<128
  ·rw [py,px,xe h1,zox,zdT (n:=n) (by omega) (by omega)];rfl
  ·rw [xd h1];by_cases h2:n<2048
   ·rw [py,py,px,xe h2];simp only [qH (show (0:Int)<=n by omega),yr (show (0:Int)<=n by omega),zox];rw [zm (x:=(n:Int)/64) (by omega),pz,pz,zdT (n:=192+n/64) (by omega) (by omega),sb,zdT (n:=128+n%64) (by omega) (by omega)];rfl
   ·rw [xd h2];by_cases h3:n<65536
    ·rw [xe h3];by_cases h4:55296<=n/\n<=57343
     ·rw [px,xe h4];rfl
     ·rw [py,py,py,px,xd h4];simp only [qH (show (0:Int)<=n by omega),yr (show (0:Int)<=n by omega),zox]
      rw [zm (x:=(n:Int)/4096) (by omega),zm (x:=(n:Int)/64) (by omega),yr (by omega),pz,pz,pz,
       zdT (n:=224+n/4096) (by omega) (by omega),sb,zdT (n:=128+n/64%64) (by omega) (by omega),sb,zdT (n:=128+n%64) (by omega) (by omega)];rfl
    ·rw [xd h3];by_cases h4:n<=1114111
     ·rw [py,py,py,py,xe h4];simp only [qH (show (0:Int)<=n by omega),yr (show (0:Int)<=n by omega),zox]
      rw [zm (x:=(n:Int)/262144) (by omega),zm (x:=(n:Int)/4096) (by omega),zm (x:=(n:Int)/64) (by omega),yr (by omega),yr (by omega),pz,pz,pz,pz,
       zdT (n:=240+n/262144) (by omega) (by omega),sb,zdT (n:=128+n/4096%64) (by omega) (by omega),sb,zdT (n:=128+n/64%64) (by omega) (by omega),sb,zdT (n:=128+n%64) (by omega) (by omega)];rfl
     ·rw [px,xd h4];rfl
def zoM:Nat->List UInt8->Nat
 | 1,a::_=>a.toNat
 | 2,a::b::_=>64*(a.toNat%32)+b.toNat%64
 | 3,a::b::c::_=>64*(64*(a.toNat%16)+b.toNat%64)+c.toNat%64
 | 4,a::b::c::d::_=>64*(64*(64*(a.toNat%8)+b.toNat%64)+c.toNat%64)+d.toNat%64
 | _,_=>0
theorem map1 (h:∀x∈l,x<256):l.map UInt8.ofNat=[a]↔l=[a.toNat]:=by
 cases l with
 | nil=>simp
 | cons x l=>cases l with
  | nil=>simp only [xC,yT,yj,qi];exact zmn (h x (by simp))
  | cons y l=>simp
theorem map2 (h:∀x∈l,x<256):l.map UInt8.ofNat=[a,b]↔l=[a.toNat,b.toNat]:=by
 cases l with
 | nil=>simp
 | cons x l=>simp only [xC,yj,zmn (h x (by simp)),map1 (l:=l) fun y hy=>h y (by simp [hy])]
theorem map3 (h:∀x∈l,x<256):l.map UInt8.ofNat=[a,b,c]↔l=[a.toNat,b.toNat,c.toNat]:=by
 cases l with
 | nil=>simp
 | cons x l=>simp only [xC,yj,zmn (h x (by simp)),map2 (l:=l) fun y hy=>h y (by simp [hy])]
theorem map4 (h:∀x∈l,x<256):l.map UInt8.ofNat=[a,b,c,d]↔l=[a.toNat,b.toNat,c.toNat,d.toNat]:=by
 cases l with
 | nil=>simp
 | cons x l=>simp only [xC,yj,zmn (h x (by simp)),map3 (l:=l) fun y hy=>h y (by simp [hy])]
theorem zrW (r:Nat):∀x∈cpN r,x<256:=by
 intro x hx;unfold cpN at hx;split at hx
 ·simp at hx;omega
 ·split at hx
  ·simp at hx;omega
  ·split at hx
   ·split at hx
    ·cases hx
    ·simp at hx;omega
   ·split at hx
    ·simp at hx;omega
    ·cases hx
theorem cpB1 (a:UInt8):cpB a.toNat=[a]↔a.toNat<128:=by
 have ha:=a.toNat_lt;unfold cpB;rw [map1 (zrW _)];unfold cpN;by_cases h:a.toNat<128
 ·simp [h]
 ·rw [xd h,xe (by omega)];simp;omega
theorem cpB2 (a b:UInt8):cpB (64*(a.toNat%32)+b.toNat%64)=[a,b]↔194<=a.toNat/\a.toNat<224/\cont b=true:=by
 have ha:=a.toNat_lt;have hb:=b.toNat_lt;unfold cpB cont;rw [map2 (zrW _)];unfold cpN;by_cases h:64*(a.toNat%32)+b.toNat%64<128
 ·rw [xe h];simp;omega
 ·rw [xd h,xe (by omega)];simp;omega
theorem cpB3 (a b c:UInt8):cpB (64*(64*(a.toNat%16)+b.toNat%64)+c.toNat%64)=[a,b,c]↔224<=a.toNat/\a.toNat<240/\cont b=true/\cont c=true/\(a.toNat=224->160<=b.toNat)/\(a.toNat=237->b.toNat<160):=by
 have ha:=a.toNat_lt;have hb:=b.toNat_lt;have hc:=c.toNat_lt;unfold cpB cont;rw [map3 (zrW _)];unfold cpN;by_cases h:64*(64*(a.toNat%16)+b.toNat%64)+c.toNat%64<128
 ·rw [xe h];simp;omega
 ·rw [xd h];by_cases h2:64*(64*(a.toNat%16)+b.toNat%64)+c.toNat%64<2048
  ·rw [xe h2];simp;omega
  ·rw [xd h2,xe (by omega)];by_cases h3:55296<=64*(64*(a.toNat%16)+b.toNat%64)+c.toNat%64/\64*(64*(a.toNat%16)+b.toNat%64)+c.toNat%64<=57343
   ·rw [xe h3];simp;omega
   ·rw [xd h3];simp;omega
theorem cpB4 (a b c d:UInt8):cpB (64*(64*(64*(a.toNat%8)+b.toNat%64)+c.toNat%64)+d.toNat%64)=[a,b,c,d]↔
  240<=a.toNat/\a.toNat<245/\cont b=true/\cont c=true/\cont d=true/\(a.toNat=240->144<=b.toNat)/\(a.toNat=244->b.toNat<144):=by
 have ha:=a.toNat_lt;have hb:=b.toNat_lt;have hc:=c.toNat_lt;have hd:=d.toNat_lt;unfold cpB cont;rw [map4 (zrW _)];unfold cpN;by_cases h:64*(64*(64*(a.toNat%8)+b.toNat%64)+c.toNat%64)+d.toNat%64<65536
 ·have:∀l:List Nat,l.length<=3->(l=[a.toNat,b.toNat,c.toNat,d.toNat])=False:=fun l hl=>by simp only [eq_iff_iff,iff_false];intro e;rw [e] at hl;simp at hl
  rw [xe h];split
  ·rw [this _ (by simp)];simp;omega
  ·split
   ·rw [this _ (by simp)];simp;omega
   ·split
    ·rw [this _ (by simp)];simp;omega
    ·rw [this _ (by simp)];simp;omega
 ·rw [xd (by omega),xd (by omega),xd h];by_cases h2:64*(64*(64*(a.toNat%8)+b.toNat%64)+c.toNat%64)+d.toNat%64<=1114111
  ·rw [xe h2];simp;omega
  ·rw [xd h2];simp;omega
def isN (n:Nat) (l:List UInt8):Bool:=match n with
 | 1=>is1 l
 | 2=>is2 l
 | 3=>is3 l
 | 4=>is4 l
 | _=>false
theorem zvI (n:Nat) (l:List UInt8) (h1:1<=n) (h4:n<=4) (hl:n<=l.length):cpB (zoM n l)=l.take n↔isN n l=true:=by
 match n,l,h1,h4,hl with
 | 1,a::t,_,_,_=>simp only [zoM,yd,yq,cpB1,isN,is1,xr]
 | 2,a::b::t,_,_,_=>simp only [zoM,yd,yq,cpB2,isN,is2,xr]
 | 3,a::b::c::t,_,_,_=>simp only [zoM,yd,yq,cpB3,isN,is3,xr]
 | 4,a::b::c::d::t,_,_,_=>simp only [zoM,yd,yq,cpB4,isN,is4,xr]
theorem zvJ (n:Nat) (l:List UInt8) (h:l.length<n):isN n l=false:=by
 match n,l with
 | 0,_=>rfl
 | 1,[]=>rfl
 | 2,[]=>rfl
 | 2,[_]=>rfl
 | 3,[]=>rfl
 | 3,[_]=>rfl
 | 3,[_,_]=>rfl
 | 4,[]=>rfl
 | 4,[_]=>rfl
 | 4,[_,_]=>rfl
 | 4,[_,_,_]=>rfl
 | n+5,_=>rfl
 | 1,_::_=>simp at h
 | 2,_::_::_=>simp at h;omega
 | 3,_::_::_::_=>simp at h;omega
 | 4,_::_::_::_::_=>simp at h;omega
theorem zkI {b:List UInt8} {a n i r:Nat} (hb:b.length<=1152921504606846976) (hn:n<=4) (h:i<n) (ha:a+i<b.length) (hr:r<=1000000000):
  zap a b n r i=zap a b n ((64*r+(b[a+i]).toNat%64:Nat):Int) ((i+1:Nat):Int):=by
 refine zhR ?_;unfold zaT;have hc:=(b[a+i]).toNat_lt;rw [px,pz,zX (show (a:Int)+i=((a+i:Nat):Int) by push_cast;rfl) ha,sb];simp (disch:=omega) only [zm,yr];push_cast;rfl
theorem zsd (h:n<=i):zap a b n r i=some (r:Int):=by
 refine zhS ?_;unfold zaT;rw [py]
theorem zgR {b:List UInt8} {a i:Nat} {c:UInt8} (h:(b.drop a)[i]? =some c):∃h:a+i<b.length,b[a+i]=c:=by
 rw [yF] at h;exact xY.1 h
theorem zCb {b:List UInt8} {a n:Nat} {c:UInt8} {t:List UInt8} (hb:b.length<=1152921504606846976) (hl:b.drop a=c::t) (h1:1<=n) (h4:n<=4) (hn:n<=(b.drop a).length):
  zap a b n ((if 1<n then c.toNat%([0,0,32,16,8].getD n 0) else c.toNat:Nat):Int) (1:Nat)=some ((zoM n (b.drop a):Nat):Int):=by
 have hc:=c.toNat_lt;rw [hl] at hn
 match n,t,h1,h4,hn with
 | 1,t,_,_,_=>rw [zsd (by omega),hl];rfl
 | 2,x::t,_,_,_=>
  obtain ⟨g1,e1⟩:=zgR (b:=b) (a:=a) (i:=1) (c:=x) (by rw [hl];rfl);rw [xe (by omega),zkI hb (by omega) (by omega) g1 (by simp;omega),zsd (by omega),hl,e1];rfl
 | 3,x::y::t,_,_,_=>
  obtain ⟨g1,e1⟩:=zgR (b:=b) (a:=a) (i:=1) (c:=x) (by rw [hl];rfl);obtain ⟨g2,e2⟩:=zgR (b:=b) (a:=a) (i:=2) (c:=y) (by rw [hl];rfl);have hx:=x.toNat_lt;rw [xe (by omega),zkI hb (by omega) (by omega) g1 (by simp;omega),zkI hb (by omega) (by omega) g2 (by simp;omega),zsd (by omega),hl,e1,e2];rfl
 | 4,x::y::z::t,_,_,_=>
  obtain ⟨g1,e1⟩:=zgR (b:=b) (a:=a) (i:=1) (c:=x) (by rw [hl];rfl);obtain ⟨g2,e2⟩:=zgR (b:=b) (a:=a) (i:=2) (c:=y) (by rw [hl];rfl);obtain ⟨g3,e3⟩:=zgR (b:=b) (a:=a) (i:=3) (c:=z) (by rw [hl];rfl);have hx:=x.toNat_lt;have hy:=y.toNat_lt;rw [xe (by omega),zkI hb (by omega) (by omega) g1 (by simp;omega),zkI hb (by omega) (by omega) g2 (by simp;omega),zkI hb (by omega) (by omega) g3 (by simp;omega),zsd (by omega),hl,e1,e2,e3];rfl
theorem zAt {b:List UInt8} {a n:Nat} (hb:b.length<=1152921504606846976) (ha:a<=b.length) (h1:1<=n) (h5:n<=5):
  zbu a b n=if isN n (b.drop a) then some (.inr (.inr (n:Int))) else if n<=4/\n<=(b.drop a).length then some (.inl ((n+1:Nat):Int)) else some (.inr (.inl ())):=by
 have hdl:(b.drop a).length=b.length - a:=by simp
 unfold zbu;by_cases h:n<=4/\n<=(b.drop a).length
 ·rw [xe h,pz,px];obtain ⟨c,t,hl⟩:∃c t,b.drop a=c::t:=by
   cases hh:b.drop a with
   | nil=>rw [hh] at h;simp at h;omega
   | cons c t=>exact ⟨c,t,rfl⟩
  obtain ⟨g0,e0⟩:=zgR (b:=b) (a:=a) (i:=0) (c:=c) (by rw [hl];rfl);have hc:=c.toNat_lt;rw [zX rfl (show a<b.length by omega),sb];have e0':b[a]'(by omega)=c:=by simpa using e0
  rw [e0',pz];have hp:(if (decide ((n:Int)>1))=true then (idx ([0,0,32,16,8]:(List Int)) (n:Int)>>=fun x2=>remI (c.toNat:Int) x2>>=fun v3=>some v3) else some (c.toNat:Int))=some (((if 1<n then c.toNat%([0,0,32,16,8].getD n 0) else c.toNat:Nat)):Int):=by
   match n,h1,h.1 with
   | 1,_,_=>rfl
   | 2,_,_=>rfl
   | 3,_,_=>rfl
   | 4,_,_=>rfl
  rw [hp,sb];have h2:=zCb hb hl h1 h.1 h.2;have h2':zap a b n ((if 1<n then c.toNat%([0,0,32,16,8].getD n 0) else c.toNat:Nat):Int) 1=some ((zoM n (b.drop a):Nat):Int):=h2;rw [h2',sb,zyz,sb,xd (by omega),xt,zgr rfl (show (a:Int)+n=((a+n:Nat):Int) by push_cast;rfl) (by omega) (by omega),sb,Nat.add_sub_cancel_left];by_cases hi:isN n (b.drop a)=true
  ·rw [xe hi,itT (by simpa using (zvI n _ h1 h.1 h.2).2 hi)]
  ·rw [xd hi,itF (by simpa using fun e=>hi ((zvI n _ h1 h.1 h.2).1 e)),pz];rfl
 ·have hn:isN n (b.drop a)=false:=by
   by_cases h4:n<=4
   ·exact zvJ _ _ (by omega)
   ·have:n=5:=by omega
    subst this;rfl
  rw [xd h,hn,pz,py];rfl
theorem zpL {b:List UInt8} {a:Nat} (hb:b.length<=1152921504606846976) (ha:a<=b.length):zcV b a=some ((nxt (b.drop a):Nat):Int):=by
 have key:∀(k n:Nat),n+k=5->1<=n->(∀j,1<=j->j<n->isN j (b.drop a)=false)->∃q,zbv a b n=some q/\(match q with| .inl _=>(0:Int)| .inr u=>u)=((nxt (b.drop a):Nat):Int):=by
  intro k
  induction k with
  | zero=>
   intro n hn h1 hj;have:n=5:=by omega
   subst this;refine ⟨.inl (),zdg ?_,?_⟩
   ·rw [zAt hb ha h1 (by omega),xd (by simp [isN]),xd (by omega)]
   ·have j1:=hj 1 (by omega) (by omega);have j2:=hj 2 (by omega) (by omega);have j3:=hj 3 (by omega) (by omega);have j4:=hj 4 (by omega) (by omega);simp only [isN] at j1 j2 j3 j4;simp [nxt,j1,j2,j3,j4]
  | succ k ih=>
   intro n hn h1 hj;have hb1:=zAt hb ha h1 (show n<=5 by omega);by_cases hi:isN n (b.drop a)=true
   ·rw [xe hi] at hb1;refine ⟨.inr n,zdg hb1,?_⟩;have e:nxt (b.drop a)=n:=by
     match n,h1,(show n<=4 by omega),hi,hj with
     | 1,_,_,hi,_=>simp only [isN] at hi;simp [nxt,hi]
     | 2,_,_,hi,hj=>have j1:=hj 1 (by omega) (by omega);simp only [isN] at hi j1;simp [nxt,hi,j1]
     | 3,_,_,hi,hj=>have j1:=hj 1 (by omega) (by omega);have j2:=hj 2 (by omega) (by omega);simp only [isN] at hi j1 j2;simp [nxt,hi,j1,j2]
     | 4,_,_,hi,hj=>have j1:=hj 1 (by omega) (by omega);have j2:=hj 2 (by omega) (by omega);have j3:=hj 3 (by omega) (by omega);simp only [isN] at hi j1 j2 j3;simp [nxt,hi,j1,j2,j3]
    simp only [e]
   ·rw [xd hi] at hb1;by_cases hl:n<=4/\n<=(b.drop a).length
    ·rw [xe hl] at hb1;obtain ⟨q,h2,h3⟩:=ih (n+1) (by omega) (by omega) fun j g1 g2=>by
      by_cases he:j=n
      ·subst he;simpa using hi
      ·exact hj j g1 (by omega)
     exact ⟨q,(zhQ hb1).trans h2,h3⟩
    ·rw [xd hl] at hb1;refine ⟨.inl (),zdg hb1,?_⟩;have hall:∀j,1<=j->isN j (b.drop a)=false:=fun j g1=>by
      by_cases g2:j<n
      ·exact hj j g1 g2
      ·by_cases g3:j<=4
       ·exact zvJ _ _ (by omega)
       ·match j,g3 with
        | j+5,_=>rfl
     have j1:=hall 1 (by omega);have j2:=hall 2 (by omega);have j3:=hall 3 (by omega);have j4:=hall 4 (by omega);simp only [isN] at j1 j2 j3 j4;simp [nxt,j1,j2,j3,j4]
 obtain ⟨q,h1,h2⟩:=key 4 1 rfl (by omega) fun j g1 g2=>by omega
 unfold zcV;have h1':zbv a b 1=some q:=h1;rw [h1',sb,<-h2];cases q<;>rfl
theorem zgT (h:isN n l=true):∃a t,l=a::t/\n<=l.length/\(n=1/\a.toNat<128\/n=2/\194<=a.toNat/\a.toNat<224\/n=3/\224<=a.toNat/\a.toNat<240\/n=4/\240<=a.toNat):=by
 match n,l with
 | 1,a::t=>simp only [isN,is1,xr] at h;exact ⟨a,t,rfl,by simp,.inl ⟨rfl,h⟩⟩
 | 2,a::b::t=>simp only [isN,is2,xr] at h;exact ⟨a,_,rfl,by simp,.inr (.inl ⟨rfl,h.1,h.2.1⟩)⟩
 | 3,a::b::c::t=>simp only [isN,is3,xr] at h;exact ⟨a,_,rfl,by simp,.inr (.inr (.inl ⟨rfl,h.1,h.2.1⟩))⟩
 | 4,a::b::c::d::t=>simp only [isN,is4,xr] at h;exact ⟨a,_,rfl,by simp,.inr (.inr (.inr ⟨rfl,h.1⟩))⟩
 | 0,_=>cases h
 | 1,[]=>cases h
 | 2,[]=>cases h
 | 2,[_]=>cases h
 | 3,[]=>cases h
 | 3,[_]=>cases h
 | 3,[_,_]=>cases h
 | 4,[]=>cases h
 | 4,[_]=>cases h
 | 4,[_,_]=>cases h
 | 4,[_,_,_]=>cases h
 | _+5,_=>cases h
theorem zzz (h:isN n l=true) (h':isN m l=true):n=m:=by
 obtain ⟨a,t,e,_,g⟩:=zgT h;obtain ⟨a',t',e',_,g'⟩:=zgT h';rw [e] at e';cases e';omega
theorem zBy (h:isN n l=true):nxt l=n:=by
 obtain ⟨_,_,_,_,g⟩:=zgT h;have k:∀m,m≠n->isN m l=false:=fun m hm=>by
  cases hh:isN m l with
  | false=>rfl
  | true=>exact absurd (zzz hh h) hm
 have hn:n=1\/n=2\/n=3\/n=4:=by omega
 rcases hn with rfl| rfl| rfl| rfl
 ·simp only [isN] at h;simp [nxt,h]
 ·have j1:=k 1 (by omega);simp only [isN] at h j1;simp [nxt,h,j1]
 ·have j1:=k 1 (by omega);have j2:=k 2 (by omega);simp only [isN] at h j1 j2;simp [nxt,h,j1,j2]
 ·have j1:=k 1 (by omega);have j2:=k 2 (by omega);have j3:=k 3 (by omega);simp only [isN] at h j1 j2 j3;simp [nxt,h,j1,j2,j3]
theorem zoq (h:nxt l≠0):isN (nxt l) l=true:=by
 unfold nxt at h|-;by_cases h1:is1 l=true
 ·simp [h1,isN]
 ·by_cases h2:is2 l=true
  ·simp [h1,h2,isN]
  ·by_cases h3:is3 l=true
   ·simp [h1,h2,h3,isN]
   ·by_cases h4:is4 l=true
    ·simp [h1,h2,h3,h4,isN]
    ·simp [h1,h2,h3,h4] at h
theorem zlx (l:List UInt8):nxt l<=l.length:=by
 by_cases h:nxt l=0
 ·omega
 ·obtain ⟨_,_,_,g,_⟩:=zgT (zoq h);exact g
theorem zsm (l:List UInt8):nxt l<=4:=by
 by_cases h:nxt l=0
 ·omega
 ·obtain ⟨_,_,_,_,g⟩:=zgT (zoq h);omega
def fst4 (m:Int) (l:List UInt8):Nat×Nat:=
 if h:nxt l=0\/(nxt l:Int)>m then (0,0) else (nxt l+(fst4 (m - nxt l) (l.drop (nxt l))).1,(fst4 (m - nxt l) (l.drop (nxt l))).2+1)
termination_by l.length
decreasing_by all_goals (have:=zlx l;simp only [xD];omega)
theorem zkE (h:nxt l=0\/(nxt l:Int)>m):fst4 m l=(0,0):=by rw [fst4,dif_pos h]
theorem zoi (h:¬(nxt l=0\/(nxt l:Int)>m)):fst4 m l=(nxt l+(fst4 (m - nxt l) (l.drop (nxt l))).1,(fst4 (m - nxt l) (l.drop (nxt l))).2+1):=by rw [fst4,dif_neg h]
theorem zxM (P:Int->List UInt8->Prop) (h0:∀m l,(nxt l=0\/(nxt l:Int)>m)->P m l) (h1:∀m l,¬(nxt l=0\/(nxt l:Int)>m)->P (m - nxt l) (l.drop (nxt l))->P m l) (m:Int) (l:List UInt8):P m l:=by
 generalize hn:l.length=n
 induction n using Nat.strongRecOn generalizing m l with
 | _ n ih=>
  by_cases h:nxt l=0\/(nxt l:Int)>m
  ·exact h0 m l h
  ·have:=zlx l;exact h1 m l h (ih _ (by simp only [xD];omega) _ _ rfl)
theorem zqz {b:List UInt8} (hb:b.length<=140737488355328) (most:Int) (m:Int) (l:List UInt8):∀(a c:Nat),c<=a->a<=b.length->l=b.drop a->m=most - a->
  zaH b most a c=some (((a+(fst4 m l).1:Nat):Int),((c+(fst4 m l).2:Nat):Int)):=by
 refine zxM (fun m l=>∀(a c:Nat),c<=a->a<=b.length->l=b.drop a->m=most - a->zaH b most a c=some (((a+(fst4 m l).1:Nat):Int),((c+(fst4 m l).2:Nat):Int))) ?_ ?_ m l
 ·intro m l h a c hc ha hl hm;subst hl hm;have h4:=zsm (b.drop a);refine zhl ?_;unfold zaG;rw [zpL (by omega) ha,sb,pz,px,zkE h];rfl
 ·intro m l h ih a c hc ha hl hm;subst hl hm;have h4:=zsm (b.drop a);have hle:=zlx (b.drop a);simp only [xD] at hle;refine (zhk (atv':=((a+nxt (b.drop a):Nat):Int)) (count':=((c+1:Nat):Int)) ?_).trans ?_
  ·unfold zaG;rw [zpL (by omega) ha,sb,pz,py,pz];rfl
  ·rw [ih (a+nxt (b.drop a)) (c+1) (by omega) (by omega) (by rw [xK]) (by omega),zoi h];simp only [yN,qC 1]
theorem ztR (hb:b.length<=140737488355328) (most:Int):zcB b most=some (((fst4 most b).1:Int),((fst4 most b).2:Int)):=by
 unfold zcB;have h:=zqz hb most most b 0 0 (xi _) (xm _) rfl (by omega);simp only [xy] at h;have h':zaH b most 0 0=some (((fst4 most b).1:Int),((fst4 most b).2:Int)):=h;rw [h',sb]
def pre4 (l:List UInt8):Nat×Nat:=fst4 l.length l
theorem zxL (h:(l.length:Int)<=m):fst4 m l=pre4 l:=by
 have key:∀(n:Nat) (l:List UInt8) (m m':Int),l.length=n->(l.length:Int)<=m->(l.length:Int)<=m'->fst4 m l=fst4 m' l:=by
  intro n
  induction n using Nat.strongRecOn with
  | _ n ih=>
   intro l m m' hn hm hm';have hle:=zlx l;by_cases h:nxt l=0
   ·rw [zkE (.inl h),zkE (.inl h)]
   ·rw [zoi (m:=m) (l:=l) (by omega),zoi (m:=m') (l:=l) (by omega),ih _ (by simp only [xD];omega) (l.drop (nxt l)) (m - nxt l) (m' - nxt l) rfl (by simp only [xD];omega) (by simp only [xD];omega)]
 exact key _ l m l.length rfl h (Int.le_refl _)
theorem zwU (h:nxt l=0):pre4 l=(0,0):=zkE (.inl h)
theorem zzY (h:nxt l≠0):pre4 l=(nxt l+(pre4 (l.drop (nxt l))).1,(pre4 (l.drop (nxt l))).2+1):=by
 have hle:=zlx l;unfold pre4;rw [zoi (by omega),zxL (m:=(l.length:Int) - nxt l) (by simp only [xD];omega)];rfl
theorem zyw (P:List UInt8->Prop) (h0:∀l,nxt l=0->P l) (h1:∀l,nxt l≠0->P (l.drop (nxt l))->P l) (l:List UInt8):P l:=by
 generalize hn:l.length=n
 induction n using Nat.strongRecOn generalizing l with
 | _ n ih=>
  by_cases h:nxt l=0
  ·exact h0 l h
  ·have:=zlx l;exact h1 l h (ih _ (by simp only [xD];omega) _ rfl)
def zfN (l:List UInt8):Bool:=decide ((pre4 l).1=l.length)
theorem zst (hb:b.length<=140737488355328):zbq b=some (zfN b):=by
 unfold zbq;rw [ztR hb,sb];unfold zfN pre4;by_cases h:(fst4 (b.length:Int) b).1=b.length
 ·simp [h]
 ·have h2:¬(((fst4 (b.length:Int) b).1:Int)=b.length):=by omega
  simp [h,h2]
theorem ztS {b:List UInt8} (hb:b.length<=1048576):zbq b=some (zfN b):=zst (by omega)
def enc (v:Nat):List UInt8:=if v<128 then [UInt8.ofNat v] else UInt8.ofNat (128+v%128)::enc (v/128)
termination_by v
decreasing_by omega
def scan:Nat->Nat->List UInt8->Unit⊕(Int×Int×Int)
 | _,_,[]=> .inl ()
 | i,vg,c::t=>if i=9/\1<c.toNat then .inr (0,0,4) else if c.toNat<128 then .inr (((vg+c.toNat%128*128^i:Nat):Int),((i+1:Nat):Int),0) else scan (i+1) (vg+c.toNat%128*128^i) t
def rdR:Unit⊕(Int×Int×Int)->Int×Int×Int
 | .inl _=>(0,0,3)
 | .inr r=>r
def rd (b:List UInt8):Int×Int×Int:=rdR (scan 0 0 (b.take 10))
def hor:List UInt8->Nat
 | []=>0
 | c::t=>c.toNat%128+128*hor t
def lead:Nat->List UInt8->Nat
 | 0,_=>0
 | _+1,[]=>0
 | k+1,c::t=>if 128<=c.toNat then lead k t+1 else 0
theorem zAL (i:Nat):2^(7*i)=128^i:=by rw [Nat.pow_mul]
theorem zzp (c:Nat):c&&&127=c%128:=pr c 7
theorem zwX {vg i c:Nat} (hi:i<=9) (hacc:vg<128^i) (hc:c<256) (h9:i=9->c<=1):
  orI .u64 (vg:Int) (shlI .u64 (u64.wrap (andI .u8 (c:Int) 127)) ((7*i:Nat):Int))=((vg+c%128*128^i:Nat):Int):=by
 have e1:andI .u8 (c:Int) 127=((c%128:Nat):Int):=by
  have:=zsO (k:= .u8) rfl (a:=c) (b:=127) (by simpa [IntKind.bits] using hc) (by simp [IntKind.bits]);rw [zzp] at this;exact this
 have hp:128^i<=128^9:=pj (by omega) hi;have hlt:c%128*128^i<18446744073709551616:=by
  by_cases h:i=9
  ·subst h;have:=h9 rfl;have h2:c%128<=1:=by omega
   have:=ym (128^9) h2;omega
  ·have h3:128^i<=128^8:=pj (by omega) (by omega);have:=Nat.mul_le_mul (show c%128<=127 by omega) h3;omega
 have e2:shlI .u64 (u64.wrap ((c%128:Nat):Int)) ((7*i:Nat):Int)=((c%128*128^i:Nat):Int):=by
  unfold shlI;rw [zmR rfl (by simp [IntKind.bits];omega),xt,qB (by simp [IntKind.bits];omega)];have h4:((c%128:Nat):Int)*2^(7*i)=((c%128*128^i:Nat):Int):=by rw [<-zAL];push_cast;rfl
  rw [h4];exact zmR rfl (by simpa [IntKind.bits] using hlt)
 rw [e1,e2,zwf rfl (by simp [IntKind.bits];omega) (by simpa [IntKind.bits] using hlt)];congr 1;rw [<-zAL] at hacc|-;exact ztD _ _ _ hacc
theorem zwW:∀(t:List UInt8) (v:List UInt8) (i vg:Nat),v.drop i=t->i+t.length=v.length->v.length<=10->vg<128^i->zdu v vg i=some (scan i vg t):=by
 intro t
 induction t with
 | nil=>
  intro v i vg _ hl _ _;refine zeL ?_;unfold zcg;rw [itF (by simp at hl|-;omega)];rfl
 | cons c t ih=>
  intro v i vg hd hl hv hacc;simp only [xx] at hl;have hget:v[i]'(by omega)=c:=by
   have h1:v.drop i=v[i]'(by omega)::v.drop (i+1):=xZ (by omega);rw [hd] at h1;exact (List.cons.inj h1).1.symm
  have hd':v.drop (i+1)=t:=by rw [<-xK,hd];rfl
  have hc:=c.toNat_lt;have hb:zcg v vg i=if i=9/\1<c.toNat then some (.inr (.inr (0,0,4))) else if c.toNat<128 then some (.inr (.inr (((vg+c.toNat%128*128^i:Nat):Int),((i+1:Nat):Int),0))) else some (.inl (((vg+c.toNat%128*128^i:Nat):Int),((i+1:Nat):Int))):=by
   unfold zcg;rw [px,zX rfl (show i<v.length by omega),sb,hget];by_cases h9:i=9/\1<c.toNat
   ·rw [xe h9,px]
   ·rw [xd h9,py,pz];have e:((7:Int)*(i:Int))=((7*i:Nat):Int):=by push_cast;rfl
    rw [e,zyJ,sb,zwX (by omega) hacc (by omega) (by omega),pz];by_cases h8:c.toNat<128
    ·rw [xe h8,px];push_cast;rfl
    ·rw [xd h8,py];push_cast;rfl
  rw [scan];split at hb
  ·rename_i h9;rw [xe h9];exact zeL hb
  ·rename_i h9;rw [xd h9];split at hb
   ·rename_i h8;rw [xe h8];exact zeL hb
   ·rename_i h8;rw [xd h8,zlO hb];refine ih v (i+1) _ hd' (by omega) hv ?_;rw [yW];have:=ym (128^i) (show c.toNat%128<=127 by omega);omega
theorem zsp (b:List UInt8):zep b=some (rd b):=by
 unfold zep rd;have e:(if (10:Int)<(b.length:Int) then (10:Int) else (b.length:Int))=((min 10 b.length:Nat):Int):=by split<;>omega
 have e2:b.take (min 10 b.length)=b.take 10:=by rw [List.take_eq_take_iff];omega
 rw [e,zta rfl (by omega),sb,e2];have h:=zwW (b.take 10) (b.take 10) 0 0 rfl (by simp) (by simp;omega) (by simp);have h':zdu (b.take 10) 0 0=some (scan 0 0 (b.take 10)):=h;rw [h',sb];cases scan 0 0 (b.take 10)<;>rfl
theorem zwk (b:List UInt8):zeZ b=some ((rd b).2.1,(rd b).2.2):=by unfold zeZ;rw [zsp,sb]
theorem zsf:∀(k:Nat) (l:List UInt8),lead k l<=k/\lead k l<=l.length
 | 0,_=>⟨xi _,xm _⟩
 | _+1,[]=>⟨xm _,xi _⟩
 | k+1,c::t=>by
  have:=zsf k t;rw [lead];split<;>simp<;>omega
theorem zrx:∀(l:List UInt8) (i vg:Nat),i+l.length<=10->i<=9->
  scan i vg l=if i+lead (10 - i) l=10 then .inr (0,0,4) else if lead (10 - i) l=l.length then .inl () else if i+lead (10 - i) l=9/\1<(l.getD (lead (10 - i) l) 0).toNat then .inr (0,0,4) else
   .inr (((vg+hor (l.take (lead (10 - i) l+1))*128^i:Nat):Int),((i+lead (10 - i) l+1:Nat):Int),0):=by
 intro l
 induction l with
 | nil=>
  intro i vg _ hi;obtain ⟨k,hk⟩:∃k,10 - i=k+1:=⟨9 - i,by omega⟩;rw [hk];simp only [lead,scan,yL];rw [xd (by omega),xe trivial]
 | cons c t ih=>
  intro i vg hl hi;obtain ⟨k,hk⟩:∃k,10 - i=k+1:=⟨9 - i,by omega⟩;simp only [xx] at hl;rw [scan];by_cases hc:128<=c.toNat
  ·have e:lead (10 - i) (c::t)=lead k t+1:=by rw [hk,lead,xe hc]
   rw [e];by_cases h9:i=9
   ·have:k=0:=by omega
    subst this;rw [xe ⟨h9,by omega⟩,lead,xe (by omega)]
   ·rw [xd (by omega),xd (by omega),ih (i+1) _ (by omega) (by omega),show 10 - (i+1)=k by omega];by_cases h1:i+1+lead k t=10
    ·rw [xe h1,xe (show i+(lead k t+1)=10 by omega)]
    ·rw [xd h1,xd (show ¬i+(lead k t+1)=10 by omega)];by_cases h2:lead k t=t.length
     ·rw [xe h2,xe (show lead k t+1=(c::t).length by simp;omega)]
     ·rw [xd h2,xd (show ¬lead k t+1=(c::t).length by simp;omega)];have eg:(c::t).getD (lead k t+1) 0=t.getD (lead k t) 0:=by simp [List.getD]
      rw [eg];by_cases h3:i+1+lead k t=9/\1<(t.getD (lead k t) 0).toNat
      ·rw [xe h3,xe (show i+(lead k t+1)=9/\1<(t.getD (lead k t) 0).toNat by omega)]
      ·rw [xd h3,xd (show ¬(i+(lead k t+1)=9/\1<(t.getD (lead k t) 0).toNat) by omega)];rw [yd,hor,yW];have e5:vg+c.toNat%128*128^i+hor (t.take (lead k t+1))*(128^i*128)=vg+(c.toNat%128+128*hor (t.take (lead k t+1)))*128^i:=by
        rw [Nat.add_mul,qj 128,yV (128^i) 128,<-qj,yV _ 128,qj];omega
       rw [e5];congr 3;omega
  ·have e:lead (10 - i) (c::t)=0:=by rw [hk,lead,xd hc]
   rw [e];simp only [yg,xx,List.getD_cons_zero];rw [xd (show ¬i=10 by omega),xd (show ¬0=t.length+1 by omega)];by_cases h9:i=9/\1<c.toNat
   ·rw [xe h9,xe h9]
   ·rw [xd h9,xd h9,xe (show c.toNat<128 by omega)];simp [hor]
theorem zpa (x y:List UInt8):hor (x++y)=hor x+128^x.length*hor y:=by
 induction x with
 | nil=>simp [hor]
 | cons c t ih=>simp only [xP,hor,ih,xx,yW,Nat.mul_add];rw [yV (128^t.length) 128,qj];omega
theorem zxP (l:List UInt8):hor l<128^l.length:=by
 induction l with
 | nil=>simp [hor]
 | cons c t ih=>simp only [hor,xx,yW];omega
theorem zxO (l:List UInt8) (j:Nat):hor (l.drop j)<=hor l:=by
 induction l generalizing j with
 | nil=>simp
 | cons c t ih=>
  cases j with
  | zero=>exact xi _
  | succ j=>have:=ih j;simp only [List.drop_succ_cons,hor];omega
theorem zwY (b:List UInt8) (a:Nat) (hb:b.length<=1152921504606846976):∀(k n:Nat),n+k=10->a+n<=b.length->zbs a b n=some ((n+lead k (b.drop (a+n)):Nat):Int):=by
 intro k
 induction k with
 | zero=>
  intro n hn ha;refine zdf ?_;unfold zaA;rw [pz];by_cases h1:a+n<b.length
  ·rw [px,py,sb,pw];rfl
  ·rw [py,sb,pw];rfl
 | succ k ih=>
  intro n hn ha;by_cases h1:a+n<b.length
  ·have hd:b.drop (a+n)=b[a+n]::b.drop (a+(n+1)):=xZ h1;have hbody:zaA a b n=if 128<=b[a+n].toNat then some (.inl ((n+1:Nat):Int)) else some (.inr (n:Int)):=by
    unfold zaA;rw [pz,pz,px,px,zX (show (a:Int)+n=((a+n:Nat):Int) by push_cast;rfl) h1,sb,sb];by_cases h2:128<=b[a+n].toNat
    ·rw [xe h2,px];push_cast;rfl
    ·rw [xd h2,py]
   rw [hd,lead];by_cases h2:128<=b[a+n].toNat
   ·rw [xe h2] at hbody|-;rw [zhN hbody,ih (n+1) (by omega) (by omega)];congr 2;omega
   ·rw [xd h2] at hbody|-;exact zdf hbody
  ·have hd:b.drop (a+n)=[]:=yo (by omega);rw [hd];refine zdf ?_;unfold zaA;rw [pz,py,sb,pw];rfl
theorem zwZ (b:List UInt8) (a m:Nat) (hb:b.length<=1152921504606846976) (hm:a+m<=b.length) (hh:hor ((b.drop a).take m)<18446744073709551616):
  ∀(j:Nat),j<=m->zbt a b (hor (((b.drop a).take m).drop j)) ((j:Int) - 1)=some ((hor ((b.drop a).take m):Nat):Int):=by
 intro j
 induction j with
 | zero=>
  intro _;refine zhP ?_;unfold zaS;rw [itF (by simp)];rfl
 | succ j ih=>
  intro hj;have hL:((b.drop a).take m).length=m:=by simp;omega
  have hd:((b.drop a).take m).drop j=((b.drop a).take m)[j]'(by omega)::((b.drop a).take m).drop (j+1):=xZ (by omega);have hc:((b.drop a).take m)[j]'(by omega)=b[a+j]'(by omega):=by simp
  have h1:=zxO ((b.drop a).take m) j;rw [hd,hor,hc] at h1;have h2:=(b[a+j]'(by omega)).toNat_lt;refine (zhO (wv':=(hor (((b.drop a).take m).drop j):Nat)) (i':=(j:Int) - 1) ?_).trans (ih (by omega));unfold zaS;rw [itT (by simp),pz,zX (show (a:Int)+(((j+1:Nat):Int) - 1)=((a+j:Nat):Int) by push_cast;omega) (by omega),sb,pz,hd,hor,hc];simp only [zgp];rw [yr (by omega)];congr 3
  ·omega
  ·push_cast;omega
theorem zyX (hn:n<=9) (hC:C<256) (h9:¬(n=9/\1<C)) (hX:X<128^n):X+128^n*(C%128)<18446744073709551616:=by
 by_cases h9':n=9
 ·subst h9';have:C%128<=1:=by omega
  have:=qO (128^9) this;omega
 ·have h5:128^n<=128^8:=pj (by omega) (by omega);have h6:C%128<=127:=by omega
  have:=Nat.mul_le_mul h5 h6;omega
theorem zpK (b:List UInt8) (a:Nat) (hb:b.length<=1152921504606846976) (ha:a<=b.length):zbh b a=some (rd (b.drop a)):=by
 unfold zbh;have h1:=zwY b a hb 10 0 rfl (by omega);simp only [xy,yg] at h1;have h1':zbs a b 0=some ((lead 10 (b.drop a):Nat):Int):=h1;rw [h1',sb];have hle:=zsf 10 (b.drop a);have vk:(b.drop a).length=b.length - a:=by simp
 -- the ten bytes that count
 have htake:∀(k:Nat) (l:List UInt8),lead k (l.take k)=lead k l:=by
  intro k
  induction k with
  | zero=>intro l;rfl
  | succ k ih=>intro l;cases l with
   | nil=>rfl
   | cons c t=>simp only [yd,lead,ih]
 have hs:=zrx ((b.drop a).take 10) 0 0 (by simp;omega) (by omega);simp only [xy,yU,htake,Nat.pow_zero,Nat.mul_one] at hs;unfold rd;rw [hs];by_cases h10:lead 10 (b.drop a)=10
 ·rw [xe h10,px];rfl
 ·rw [xd h10,py,pz];by_cases hl:lead 10 (b.drop a)=(b.drop a).length
  ·rw [xe (show lead 10 (b.drop a)=((b.drop a).take 10).length by rw [xS];omega),px];rfl
  ·rw [xd (show ¬lead 10 (b.drop a)=((b.drop a).take 10).length by rw [xS];omega),py];have hlt:a+lead 10 (b.drop a)<b.length:=by omega
   have hg:((b.drop a).take 10).getD (lead 10 (b.drop a)) 0=b[a+lead 10 (b.drop a)]:=by
    rw [qI,yc,xe (by omega),yF,xw hlt];rfl
   rw [hg,pk,qB (by omega)];have hc:=(b[a+lead 10 (b.drop a)]).toNat_lt;have hg2:(if (((lead 10 (b.drop a):Nat):Int)==9)=true then (idx b ((a:Int)+((lead 10 (b.drop a):Nat):Int))>>=fun x2=>some (decide ((x2.toNat:Int)>1))) else some false)=some (decide (lead 10 (b.drop a)=9/\1<(b[a+lead 10 (b.drop a)]).toNat)):=by
    by_cases h9:lead 10 (b.drop a)=9
    ·rw [px,zX (show (a:Int)+((lead 10 (b.drop a):Nat):Int)=((a+lead 10 (b.drop a):Nat):Int) by push_cast;rfl) hlt,sb];congr 1;simp only [h9,qk,yz];omega
    ·rw [py];simp [h9]
   rw [hg2,sb];by_cases h9:lead 10 (b.drop a)=9/\1<(b[a+lead 10 (b.drop a)]).toNat
   ·rw [xe h9,itT (by simpa using h9)];rfl
   ·rw [xd h9,itF (xO h9)];have hbd:hor ((b.drop a).take (lead 10 (b.drop a)+1))<18446744073709551616:=by
     have hsp:(b.drop a).take (lead 10 (b.drop a)+1)=(b.drop a).take (lead 10 (b.drop a))++[b[a+lead 10 (b.drop a)]]:=by
      rw [List.take_add_one,yF,xw hlt];rfl
     rw [hsp,zpa];have h3:=zxP ((b.drop a).take (lead 10 (b.drop a)));have h4:((b.drop a).take (lead 10 (b.drop a))).length=lead 10 (b.drop a):=by simp;omega
     rw [h4] at h3|-;simp only [hor,Nat.mul_zero,yg];exact zyX (by omega) (by omega) h9 h3
    have h2:=zwZ b a (lead 10 (b.drop a)+1) hb (by omega) hbd (lead 10 (b.drop a)+1) (xi _);have hz:((b.drop a).take (lead 10 (b.drop a)+1)).drop (lead 10 (b.drop a)+1)=[]:=yo (by simp;omega);rw [hz] at h2;have e3:(((lead 10 (b.drop a)+1:Nat):Int) - 1)=((lead 10 (b.drop a):Nat):Int):=by push_cast;omega
    rw [e3] at h2;have h2':zbt a b 0 ((lead 10 (b.drop a):Nat):Int)=some ((hor ((b.drop a).take (lead 10 (b.drop a)+1)):Nat):Int):=h2;rw [h2',sb,pz];simp [rdR]
theorem zre:∀(k:Nat) (l:List UInt8),lead k (l.take k)=lead k l
 | 0,_=>rfl
 | _+1,[]=>rfl
 | k+1,c::t=>by simp only [yd,lead,zre k t]
theorem zrd:∀(k:Nat) (l:List UInt8),(∀y∈l.take (lead k l),128<=y.toNat)/\∀(h:lead k l<l.length),lead k l<k->(l[lead k l]).toNat<128
 | 0,_=>⟨fun y hy=>by simp [lead] at hy,fun _ h=>by omega⟩
 | _+1,[]=>⟨fun y hy=>by simp at hy,fun h=>by simp at h⟩
 | k+1,c::t=>by
  obtain ⟨h1,h2⟩:=zrd k t;by_cases hc:128<=c.toNat
  ·have e:lead (k+1) (c::t)=lead k t+1:=by rw [lead,xe hc]
   constructor
   ·rw [e,yd];intro y hy;cases hy with
    | head=>exact hc
    | tail _ hy=>exact h1 y hy
   ·simp only [e,qJ,xx];intro h hk;exact h2 (by omega) (by omega)
  ·have e:lead (k+1) (c::t)=0:=by rw [lead,xd hc]
   constructor
   ·rw [e];intro y hy;simp at hy
   ·simp only [e];intro _ _;simp;omega
theorem zmz (b:List UInt8):rd b=(0,0,4)\/(rd b=(0,0,3)/\b.length<=9)\/
  ∃x c y,b=x++c::y/\(∀z∈x,128<=z.toNat)/\c.toNat<128/\x.length<=9/\hor (x++[c])<18446744073709551616/\rd b=(((hor (x++[c]):Nat):Int),((x.length+1:Nat):Int),0):=by
 have hle:=zsf 10 b;have hs:=zrx (b.take 10) 0 0 (by simp;omega) (by omega);simp only [xy,yU,zre,Nat.pow_zero,Nat.mul_one] at hs;unfold rd;rw [hs];by_cases h10:lead 10 b=10
 ·rw [xe h10];exact .inl rfl
 ·rw [xd h10];by_cases hl:lead 10 b=(b.take 10).length
  ·rw [xe hl];refine .inr (.inl ⟨rfl,?_⟩);rw [xS] at hl;omega
  ·rw [xd hl];rw [xS] at hl;have hlt:lead 10 b<b.length:=by omega
   have hg:(b.take 10).getD (lead 10 b) 0=b[lead 10 b]:=by
    rw [qI,yc,xe (by omega),xw hlt];rfl
   rw [hg,pk,qB (by omega)];have hc:=(b[lead 10 b]).toNat_lt;by_cases h9:lead 10 b=9/\1<(b[lead 10 b]).toNat
   ·rw [xe h9];exact .inl rfl
   ·rw [xd h9];obtain ⟨hf1,hf2⟩:=zrd 10 b;have hsp:b.take (lead 10 b+1)=b.take (lead 10 b)++[b[lead 10 b]]:=by
     rw [List.take_add_one,xw hlt];rfl
    have vk:(b.take (lead 10 b)).length=lead 10 b:=by rw [xS];omega
    refine .inr (.inr ⟨b.take (lead 10 b),b[lead 10 b],b.drop (lead 10 b+1),?_,hf1,hf2 hlt (by omega),by omega,?_,?_⟩)
    ·rw [<-xZ hlt,q6]
    ·rw [zpa];have h3:=zxP (b.take (lead 10 b));rw [vk] at h3|-;simp only [hor,Nat.mul_zero,yg];exact zyX (by omega) (by omega) h9 h3
    ·rw [hsp,vk];simp [rdR]
theorem zBa (h:v<128):enc v=[UInt8.ofNat v]:=by rw [enc,xe h]
theorem zAZ (h:¬v<128):enc v=UInt8.ofNat (128+v%128)::enc (v/128):=by rw [enc,xd h]
theorem zvz:∀(v:Nat),(enc v).length=lenN v:=by
 intro v
 induction v using Nat.strongRecOn with
 | _ v ih=>
  by_cases h:v<128
  ·rw [zBa h,zom h];rfl
  ·rw [zAZ h,zol h,xx,ih _ (by omega)]
theorem zAN (v:Nat):shrI .u64 (v:Int) 7=((v/128:Nat):Int):=zpT (k:= .u64) (a:=v) (b:=7) (by simp [IntKind.bits])
theorem zyj:∀(w n:Nat),n+w<9223372036854775808+w->n+lz w<=1152921504606846976->zeM w n=some ((n+lz w:Nat):Int):=by
 intro w
 induction w using Nat.strongRecOn with
 | _ w ih=>
  intro n hn hl;by_cases h:w=0
  ·subst h;refine znT ?_;unfold zeg;rw [itF (by simp)];rfl
  ·have e:=zBv h;refine (znS (wv2':=((w/128:Nat):Int)) (n':=((n+1:Nat):Int)) ?_).trans ?_
   ·unfold zeg;rw [px,zAN,pz];rfl
   ·rw [ih (w/128) (by omega) (n+1) (by omega) (by omega)];congr 2;omega
theorem zBo {v:Nat} (h:v<18446744073709551616):zjO (v:Int)=some ((lenN v:Nat):Int):=by
 unfold zjO;have h1:=zBu v;have h2:=zyi h;have h3:=zyj (v/128) 1 (by omega) (by omega);have h3':zeM ((v/128:Nat):Int) 1=some ((1+lz (v/128):Nat):Int):=h3;rw [zAN,h3',sb,h1]
theorem zpR (a b:List UInt8):zcS a b=some (a==b):=rfl
def zeb (n w:Int):Bool:=decide (1<=n/\n<=536870911/\(w=0\/w=1\/w=2\/w=5))
def tgR (r:Int×Int×Int):Int×Int×Int×Int:=
 if r.2.2≠0 then (0,0,0,r.2.2) else if 4294967295<r.1\/zeb (r.1/8) (r.1%8)=false then (0,0,0,5) else (r.1/8,r.1%8,r.2.1,0)
def tg (l:List UInt8):Int×Int×Int×Int:=tgR (rd l)
theorem zqa :zeb n w=true↔1<=n/\n<=536870911/\(w=0\/w=1\/w=2\/w=5):=by simp [zeb]
theorem ztQ (n w:Int):zcA n w=some (zeb n w):=by
 unfold zcA zeb;simp [Bool.decide_and,Bool.decide_or,Bool.beq_eq_decide_eq]
theorem zfK (l:List UInt8):0<=(rd l).1/\(rd l).1<18446744073709551616/\0<=(rd l).2.1/\(rd l).2.1<=10/\(rd l).2.1<=l.length/\((rd l).2.2=0\/(rd l).2.2=3\/(rd l).2.2=4)/\((rd l).2.2=0->1<=(rd l).2.1):=by
 rcases zmz l with h| ⟨h,_⟩| ⟨x,c,y,e,_,_,hl,hv,h⟩
 ·rw [h];simp
 ·rw [h];simp
 ·have:l.length=x.length+1+y.length:=by rw [e];simp;omega
  rw [h];refine ⟨?_,?_,?_,?_,?_,.inl rfl,fun _=>?_⟩<;>simp only<;>omega
theorem zAM (x:List UInt8) (c:UInt8) (y:List UInt8) (hx:∀z∈x,128<=z.toNat) (hc:c.toNat<128) (hl:x.length<=9) (hv:hor (x++[c])<18446744073709551616):
  rd (x++c::y)=(((hor (x++[c]):Nat):Int),((x.length+1:Nat):Int),0):=by
 have key:∀(x:List UInt8) (z:List UInt8) (i vg:Nat),(∀z∈x,128<=z.toNat)->i+x.length<=9->vg+hor (x++[c])*128^i<18446744073709551616->scan i vg (x++c::z)= .inr (((vg+hor (x++[c])*128^i:Nat):Int),((i+x.length+1:Nat):Int),0):=by
  intro x
  induction x with
  | nil=>
   intro z i vg _ hi hv;have e1:hor ([]++[c])=c.toNat:=by simp [hor];omega
   rw [e1] at hv|-;rw [xV,scan,xd,xe hc,qP hc]
   ·rfl
   ·rintro ⟨rfl,h2⟩;have:=ym (128^9) (show 2<=c.toNat by omega);omega
  | cons d x ih=>
   intro z i vg hx hi hv;simp only [xx] at hi;have hd:=hx d xf;have e5:vg+hor ((d::x)++[c])*128^i=vg+d.toNat%128*128^i+hor (x++[c])*128^(i+1):=by
    rw [xP,hor,yW,Nat.add_mul,yV (128^i) 128,<-qj,yV (hor (x++[c])) 128];omega
   rw [e5] at hv|-;rw [xP,scan,xd (by omega),xd (by omega),ih z (i+1) _ (fun z hz=>hx z (xg _ hz)) (by omega) hv,xx];congr 3;omega
 unfold rd;have e2:(x++c::y).take 10=x++c::y.take (9 - x.length):=by
  rw [List.take_append,qv (by omega),show 10 - x.length=(9 - x.length)+1 by omega,yd]
 rw [e2,key x _ 0 0 hx (by omega) (by simpa using hv)];simp [rdR]
theorem znm (l m:List UInt8) (h:(rd l).2.2=0):rd (l++m)=rd l:=by
 rcases zmz l with h'| ⟨h',_⟩| ⟨x,c,y,e,hx,hc,hl,hv,h'⟩
 ·rw [h'] at h;cases h
 ·rw [h'] at h;cases h
 ·rw [h',e,yx,xP,zAM x c _ hx hc hl hv]
theorem zxf (l m:List UInt8) (h:(rd l).2.2=0):tg (l++m)=tg l:=by unfold tg;rw [znm l m h]
theorem zsF (h:r.2.2≠0):tgR r=(0,0,0,r.2.2):=xe h
theorem zkv (h:r.2.2=0) (h2:4294967295<r.1\/zeb (r.1/8) (r.1%8)=false):tgR r=(0,0,0,5):=by unfold tgR;rw [xd (by simp [h]),xe h2]
theorem zvh (h:r.2.2=0) (h2:¬(4294967295<r.1\/zeb (r.1/8) (r.1%8)=false)):tgR r=(r.1/8,r.1%8,r.2.1,0):=by unfold tgR;rw [xd (by simp [h]),xd h2]
theorem zqb (l:List UInt8):(∃c,tg l=(0,0,0,c)/\(c=3\/c=4\/c=5))\/∃n w k,tg l=(n,w,k,0)/\zeb n w=true/\1<=k/\k<=10/\k<=l.length/\rd l=(8*n+w,k,0):=by
 obtain ⟨h1,h2,h3,h4,h5,h6,h7⟩:=zfK l;unfold tg;by_cases h:(rd l).2.2=0
 ·by_cases hg:4294967295<(rd l).1\/zeb ((rd l).1/8) ((rd l).1%8)=false
  ·exact .inl ⟨5,zkv h hg,by omega⟩
  ·refine .inr ⟨_,_,_,zvh h hg,?_,h7 h,h4,h5,?_⟩
   ·cases ht:zeb ((rd l).1/8) ((rd l).1%8)
    ·exact absurd (.inr ht) hg
    ·rfl
   ·refine Prod.ext ?_ (Prod.ext rfl h);simp only;omega
 ·exact .inl ⟨_,zsF h,by omega⟩
theorem zsq (b:List UInt8) (a:Nat) (hb:b.length<=1152921504606846976) (ha:a<=b.length):zcU b a=some (tg (b.drop a)):=by
 unfold zcU tg;obtain ⟨h1,h2,h3,h4,h5,h6,h7⟩:=zfK (b.drop a);rw [zpK b a hb ha,sb];by_cases h:(rd (b.drop a)).2.2=0
 ·rw [itF (by simpa using h)];have e1:i64.wrap (u64.wrap (Int.tdiv (rd (b.drop a)).1 8))=(rd (b.drop a)).1/8:=by
   rw [qH h1,zgp,qA (by omega) (by omega),pz]
  have e2:i64.wrap (Int.tmod (rd (b.drop a)).1 8)=(rd (b.drop a)).1%8:=by
   rw [yr h1,pz]
  simp only [e1,e2,ztQ,sb];by_cases hg:4294967295<(rd (b.drop a)).1
  ·rw [itT (by simpa using hg),sb,pv,zkv h (.inl hg)]
  ·rw [itF (by simpa using hg),sb];cases ht:zeb ((rd (b.drop a)).1/8) ((rd (b.drop a)).1%8)
   ·rw [pv,zkv h (.inr ht)]
   ·rw [pw,zvh h (by simp [ht];omega)]
 ·rw [itT (by simpa using h),zsF h]
abbrev Rec:=zg
def zdi (w:Int) (k:Nat) (m:List UInt8):Int⊕(Nat×Nat):=
 if w=0 then (if (rd m).2.2≠0 then .inl (rd m).2.2 else .inr (k,k+(rd m).2.1.toNat))
 else if w=2 then (if (rd m).2.2≠0 then .inl (rd m).2.2 else if (m.length:Int) - (rd m).2.1<(rd m).1 then .inl 3 else .inr (k+(rd m).2.1.toNat,k+(rd m).2.1.toNat+(rd m).1.toNat))
 else if m.length<(if w=5 then 4 else 8) then .inl 3 else .inr (k,k+(if w=5 then 4 else 8))
def rec5 (l:List UInt8):Int⊕(Int×Int×Nat×Nat):=
 if (tg l).2.2.2≠0 then .inl (tg l).2.2.2 else match zdi (tg l).2.1 (tg l).2.2.1.toNat (l.drop (tg l).2.2.1.toNat) with
  | .inl c=> .inl c
  | .inr p=> .inr ((tg l).1,(tg l).2.1,p.1,p.2)
theorem zny (w:Int) (k:Nat) (m:List UInt8):(∃c,zdi w k m= .inl c/\(c=3\/c=4))\/
  ∃a t,zdi w k m= .inr (a,t)/\k<=a/\a<=t/\t<=k+m.length/\
   (w=0/\a=k/\(rd m).2.2=0/\((t - k:Nat):Int)=(rd m).2.1/\k<t\/w=2/\(rd m).2.2=0/\((a - k:Nat):Int)=(rd m).2.1/\((t - a:Nat):Int)=(rd m).1\/w≠0/\w≠2/\a=k/\t=k+(if w=5 then 4 else 8)):=by
 obtain ⟨h1,h2,h3,h4,h5,h6,h7⟩:=zfK m;unfold zdi;by_cases w0:w=0
 ·rw [xe w0];by_cases h:(rd m).2.2=0
  ·have:=h7 h;rw [xd (by simpa using h)];exact .inr ⟨_,_,rfl,xi _,by omega,by omega,.inl ⟨w0,rfl,h,by omega,by omega⟩⟩
  ·rw [xe h];exact .inl ⟨_,rfl,by omega⟩
 ·rw [xd w0];by_cases w2:w=2
  ·rw [xe w2];by_cases h:(rd m).2.2=0
   ·rw [xd (by simpa using h)];by_cases h8:(m.length:Int) - (rd m).2.1<(rd m).1
    ·rw [xe h8];exact .inl ⟨_,rfl,by omega⟩
    ·rw [xd h8];exact .inr ⟨_,_,rfl,by omega,by omega,by omega,.inr (.inl ⟨w2,h,by omega,by omega⟩)⟩
   ·rw [xe h];exact .inl ⟨_,rfl,by omega⟩
  ·rw [xd w2];by_cases h8:m.length<(if w=5 then 4 else 8)
   ·rw [xe h8];exact .inl ⟨_,rfl,by omega⟩
   ·rw [xd h8];exact .inr ⟨_,_,rfl,xi _,by omega,by omega,.inr (.inr ⟨w0,w2,rfl,rfl⟩)⟩
theorem zrR (w:Int) (k:Nat) (m z:List UInt8) (h:zdi w k m= .inr p):zdi w k (m++z)= .inr p:=by
 unfold zdi at h|-;by_cases w0:w=0
 ·rw [xe w0] at h|-;by_cases h0:(rd m).2.2=0
  ·rw [znm m z h0];exact h
  ·rw [xe h0] at h;cases h
 ·rw [xd w0] at h|-;by_cases w2:w=2
  ·rw [xe w2] at h|-;by_cases h0:(rd m).2.2=0
   ·rw [znm m z h0];rw [xd (by simpa using h0)] at h|-;by_cases h8:(m.length:Int) - (rd m).2.1<(rd m).1
    ·rw [xe h8] at h;cases h
    ·rw [xd h8] at h;rw [xd (by simp only [xE];omega)];exact h
   ·rw [xe h0] at h;cases h
  ·rw [xd w2] at h|-;by_cases h8:m.length<(if w=5 then 4 else 8)
   ·rw [xe h8] at h;cases h
   ·rw [xd h8] at h;rw [xd (by simp only [xE];omega)];exact h
theorem zlD (l:List UInt8):(∃c,rec5 l= .inl c/\(c=3\/c=4\/c=5))\/
  ∃(n w:Int) (k a t:Nat),rec5 l= .inr (n,w,a,t)/\tg l=(n,w,(k:Int),0)/\zeb n w=true/\zdi w k (l.drop k)= .inr (a,t)/\1<=k/\k<=l.length/\k<=a/\a<=t/\t<=l.length/\rd l=(8*n+w,(k:Int),0):=by
 rcases zqb l with ⟨c,h,hc⟩| ⟨n,w,k,h,hr,k1,k2,k3,hrd⟩
 ·refine .inl ⟨c,?_,hc⟩;unfold rec5;rw [h,xe (by simp only;omega)]
 ·obtain ⟨k,rfl⟩:∃j:Nat,k=j:=⟨k.toNat,by omega⟩
  have e:rec5 l=match zdi w k (l.drop k) with
   | .inl c=> .inl c
   | .inr p=> .inr (n,w,p.1,p.2):=by unfold rec5;rw [h];simp
  rcases zny w k (l.drop k) with ⟨c,h2,hc⟩| ⟨a,t,h2,g1,g2,g3,_⟩
  ·exact .inl ⟨c,by rw [e,h2],by omega⟩
  ·simp only [xD] at g3;exact .inr ⟨n,w,k,a,t,by rw [e,h2],h,hr,h2,by omega,by omega,g1,g2,by omega,hrd⟩
theorem ztK (l z:List UInt8) (h:rec5 l= .inr r):rec5 (l++z)= .inr r:=by
 rcases zlD l with ⟨c,h',_⟩| ⟨n,w,k,a,t,h',htg,_,hb,_,hk,_,_,_,hrd⟩
 ·rw [h'] at h;cases h
 ·rw [h'] at h;have e:tg (l++z)=(n,w,(k:Int),0):=by rw [zxf l z (by rw [hrd]),htg]
  unfold rec5;rw [e];simp only [ya,yk,xU,xt];rw [pt hk,zrR _ _ _ _ hb];exact h
def zrec:Rec:=⟨0,0,0,0,0⟩
def zbL (b:List UInt8) (at5:Int):Rec×Int:=if at5<0\/at5>=b.length then (zrec,2) else match rec5 (b.drop at5.toNat) with
 | .inl c=>(zrec,c)
 | .inr (n,w,a,t)=>(⟨n,w,at5,at5+a,at5+t⟩,0)
theorem ztP (hb:b.length<=140737488355328) (at5:Int):zch b at5=some (zbL b at5):=by
 unfold zch zbL;by_cases h:at5<0\/at5>=b.length
 ·rw [itT (by simpa using h),xe h];rfl
 ·rw [itF (by simpa using h),xd h];obtain ⟨p,rfl⟩:∃p:Nat,at5=p:=⟨at5.toNat,by omega⟩;rw [zsq b p (by omega) (by omega),sb,xt];have hdl:(b.drop p).length=b.length - p:=by simp
  rcases zqb (b.drop p) with ⟨c,ht,hc⟩| ⟨n,w,k,ht,hr,k1,k2,k3,hrd⟩
  ·have e:rec5 (b.drop p)= .inl c:=by unfold rec5;rw [ht,xe (by simp only;omega)]
   rw [e,ht,px];rfl
  ·obtain ⟨k,rfl⟩:∃j:Nat,k=j:=⟨k.toNat,by omega⟩
   have e:rec5 (b.drop p)=match zdi w k ((b.drop p).drop k) with
    | .inl c=> .inl c
    | .inr p=> .inr (n,w,p.1,p.2):=by unfold rec5;rw [ht];simp
   have hdd:(b.drop p).drop k=b.drop (p+k):=by rw [xK]
   have hml:(b.drop (p+k)).length=b.length - (p+k):=by simp
   obtain ⟨h1,h2,h3,h4,h5,h6,h7⟩:=zfK (b.drop (p+k));rw [e,ht,itF (by simp),hdd];have ew:i64.wrap ((p:Int)+k)=((p+k:Nat):Int):=by rw [pz];push_cast;rfl
   have er:i64.wrap ((b.length:Int) - ((p+k:Nat):Int))=((b.length - (p+k):Nat):Int):=by rw [pz];omega
   simp only [ew,er];have hw:=(zqa.1 hr).2.2;rcases hw with rfl| rfl| rfl| rfl
   ·-- a varint
    rw [pw,sb,pv,zpK b (p+k) (by omega) (by omega),sb];by_cases g:(rd (b.drop (p+k))).2.2=0
    ·have:=h7 g;have hb5:zdi 0 k (b.drop (p+k))= .inr (k,k+(rd (b.drop (p+k))).2.1.toNat):=by unfold zdi;rw [xe rfl,xd (by simpa using g)]
     rw [itF (by simpa using g),sb,hb5];simp only;rw [pw,sb];simp only;rw [py,pz];simp;omega
    ·have hb5:zdi 0 k (b.drop (p+k))= .inl (rd (b.drop (p+k))).2.2:=by unfold zdi;rw [xe rfl,xe g]
     rw [itT (by simpa using g),sb,hb5];rfl
   ·rw [pw,sb,pw,sb];simp only;rw [pw,sb];unfold zdi;rw [xd (by omega),xd (by omega)];simp only;by_cases g:b.length - (p+k)<8
    ·rw [px,xe (by simpa [hml] using g)];rfl
    ·rw [py,xd (by simpa [hml] using g),pz];simp;omega
   ·rw [pw,sb,pw,sb];simp only;rw [pv,zpK b (p+k) (by omega) (by omega),sb];by_cases g:(rd (b.drop (p+k))).2.2=0
    ·have:=h7 g;have e1:i64.wrap (((b.length - (p+k):Nat):Int) - (rd (b.drop (p+k))).2.1)=((b.drop (p+k)).length:Int) - (rd (b.drop (p+k))).2.1:=by rw [pz,hml]
     have e2:u64.wrap (((b.drop (p+k)).length:Int) - (rd (b.drop (p+k))).2.1)=((b.drop (p+k)).length:Int) - (rd (b.drop (p+k))).2.1:=by rw [zgp,qA (by omega) (by omega)]
     rw [itF (by simpa using g)];simp only [e1,e2];by_cases g2:((b.drop (p+k)).length:Int) - (rd (b.drop (p+k))).2.1<(rd (b.drop (p+k))).1
     ·have hb5:zdi 2 k (b.drop (p+k))= .inl 3:=by unfold zdi;rw [xd (by omega),xe rfl,xd (by simpa using g),xe g2]
      rw [itT (by simpa using g2),sb,hb5];rfl
     ·have hb5:zdi 2 k (b.drop (p+k))= .inr (k+(rd (b.drop (p+k))).2.1.toNat,k+(rd (b.drop (p+k))).2.1.toNat+(rd (b.drop (p+k))).1.toNat):=by
       unfold zdi;rw [xd (by omega),xe rfl,xd (by simpa using g),xd g2]
      rw [itF (by simpa using g2),sb,hb5];simp only;rw [zm (x:=(rd (b.drop (p+k))).1) (by omega),itF (by simpa using g2),zm (x:=((p+k:Nat):Int)+(rd (b.drop (p+k))).2.1) (by omega),pz];simp;omega
    ·have hb5:zdi 2 k (b.drop (p+k))= .inl (rd (b.drop (p+k))).2.2:=by unfold zdi;rw [xd (by omega),xe rfl,xe g]
     rw [itT (by simpa using g),sb,hb5];rfl
   ·rw [pv,sb,pw,sb];simp only;rw [pw,sb];unfold zdi;rw [xd (by omega),xd (by omega)];simp only;by_cases g:b.length - (p+k)<4
    ·rw [px,xe (by simpa [hml] using g)];rfl
    ·rw [py,xd (by simpa [hml] using g),pz];simp;omega
theorem zuZ {b:List UInt8} (hb:b.length<=1048576) (at5:Int):zch b at5=some (zbL b at5):=ztP (by omega) at5
def spl (base:Nat) (l:List UInt8):List Rec×Option (Nat×Int):=
 if hl:l=[] then ([],none) else match h:rec5 l with
  | .inl c=>([],some (base,c))
  | .inr (n,w,a,t)=>(⟨n,w,base,(base+a:Nat),(base+t:Nat)⟩::(spl (base+t) (l.drop t)).1,(spl (base+t) (l.drop t)).2)
termination_by l.length
decreasing_by
 all_goals
  rcases zlD l with ⟨c',h',_⟩| ⟨n',w',k',a',t',h',_,_,_,g1,g2,g3,g4,g5,_⟩
  ·rw [h'] at h;cases h
  ·rw [h'] at h;cases h;simp only [xD];omega
theorem zdj (base:Nat):spl base []=([],none):=by rw [spl,dif_pos rfl]
theorem zeJ (hl:l≠[]) (h:rec5 l= .inl c):spl base l=([],some (base,c)):=by
 rw [spl,dif_neg hl];split
 ·rename_i c' h';rw [h] at h';cases h';rfl
 ·rename_i h';rw [h] at h';cases h'
theorem zcp (hl:l≠[]) (h:rec5 l= .inr (n,w,a,t)):
  spl base l=(⟨n,w,base,(base+a:Nat),(base+t:Nat)⟩::(spl (base+t) (l.drop t)).1,(spl (base+t) (l.drop t)).2):=by
 rw [spl,dif_neg hl];split
 ·rename_i c' h';rw [h] at h';cases h'
 ·rename_i n' w' a' t' h';rw [h] at h';cases h';rfl
theorem zfo (P:Nat->List UInt8->Prop) (h0:∀base,P base []) (he:∀base l c,l≠[]->rec5 l= .inl c->(c=3\/c=4\/c=5)->P base l)
  (hc:∀base l (n w:Int) (a t:Nat),l≠[]->rec5 l= .inr (n,w,a,t)->zeb n w=true->1<=a->a<=t->t<=l.length->P (base+t) (l.drop t)->P base l) (base:Nat) (l:List UInt8):P base l:=by
 generalize hn:l.length=m
 induction m using Nat.strongRecOn generalizing base l with
 | _ m ih=>
  by_cases hl:l=[]
  ·subst hl;exact h0 base
  ·rcases zlD l with ⟨c,h,hc'⟩| ⟨n,w,k,a,t,h,_,hr,_,g1,g2,g3,g4,g5,_⟩
   ·exact he base l c hl h hc'
   ·exact hc base l n w a t hl h hr (by omega) g4 g5 (ih _ (by simp only [xD];omega) _ _ rfl)
theorem zAf (base:Nat) (l:List UInt8):(spl base l).1.length<=l.length:=by
 refine zfo (fun base l=>(spl base l).1.length<=l.length) ?_ ?_ ?_ base l
 ·intro base;rw [zdj];simp
 ·intro base l c hl h _;rw [zeJ hl h];simp
 ·intro base l n w a t hl h _ g1 g2 g3 ih;rw [zcp hl h];simp only [xx,xD] at ih|-;omega
theorem zyL (base:Nat) (l:List UInt8):∀p c,(spl base l).2=some (p,c)->(c=3\/c=4\/c=5)/\base<=p/\p<base+l.length:=by
 refine zfo (fun base l=>∀p c,(spl base l).2=some (p,c)->(c=3\/c=4\/c=5)/\base<=p/\p<base+l.length) ?_ ?_ ?_ base l
 ·intro base p c h;rw [zdj] at h;cases h
 ·intro base l c' hl h hc p c h2;rw [zeJ hl h] at h2;cases h2;have:0<l.length:=yl.2 hl;exact ⟨hc,by omega,by omega⟩
 ·intro base l n w a t hl h _ g1 g2 g3 ih p c h2;rw [zcp hl h] at h2;have:=ih p c h2;simp only [xD] at this;omega
def zhd (d:Nat) (r:Rec):Rec:=⟨r.Number,r.Wire,r.From+d,r.At+d,r.To+d⟩
theorem zkQ (d:Nat) (base:Nat) (l:List UInt8):spl (base+d) l=((spl base l).1.map (zhd d),(spl base l).2.map fun p=>(p.1+d,p.2)):=by
 refine zfo (fun base l=>spl (base+d) l=((spl base l).1.map (zhd d),(spl base l).2.map fun p=>(p.1+d,p.2))) ?_ ?_ ?_ base l
 ·intro base;rw [zdj,zdj];rfl
 ·intro base l c hl h _;rw [zeJ hl h,zeJ hl h];rfl
 ·intro base l n w a t hl h _ g1 g2 g3 ih;rw [zcp hl h,zcp hl h,show base+d+t=base+t+d by omega,ih];simp only [xC,zhd,xT,yj,zg.mk.injEq,qk,qi];push_cast;omega
theorem zhf (m:List UInt8) (base:Nat) (l:List UInt8):(spl base l).2=none->spl base (l++m)=((spl base l).1++(spl (base+l.length) m).1,(spl (base+l.length) m).2):=by
 refine zfo (fun base l=>(spl base l).2=none->spl base (l++m)=((spl base l).1++(spl (base+l.length) m).1,(spl (base+l.length) m).2)) ?_ ?_ ?_ base l
 ·intro base _;rw [zdj];simp
 ·intro base l c hl h _ h2;rw [zeJ hl h] at h2;cases h2
 ·intro base l n w a t hl h _ g1 g2 g3 ih h2;rw [zcp hl h] at h2|-;rw [zcp (by simp [hl]) (ztK l m h),pt g3,ih h2];simp only [xD,xP,show base+t+(l.length - t)=base+l.length by omega]
def zqR (w:Int) (v:List UInt8):Bool:=
 if w=0 then decide ((rd v).2.2=0/\(rd v).2.1=v.length) else decide (w=2\/w=1/\v.length=8\/w=5/\v.length=4)
def rawW (k:Int) (b:List UInt8):Int:=if zdK k=0 then (rd b).1 else (word (b.take 8):Nat)
def zvc (k:Int) (c:Nat):List UInt8:=if 12<=k then zpl 8 c else if 9<=k then zpl 4 c else enc c
def sPut (k w:Int):List UInt8:=zvc k (zfg k w).toNat
theorem zpi :kNum k=true↔1<=k/\k<=14:=by simp [kNum]
def zjp (k:Int) (l:List UInt8):Int⊕Nat:=
 if k<9 then (if (rd l).2.2≠0 then .inl (rd l).2.2 else .inr (rd l).2.1.toNat) else if l.length<(if k<12 then 4 else 8) then .inl 3 else .inr (if k<12 then 4 else 8)
theorem zhI (k:Int) (l:List UInt8):(∃c,zjp k l= .inl c/\(c=3\/c=4))\/∃n,zjp k l= .inr n/\1<=n/\n<=l.length/\n<=10/\(k<9/\(rd l).2.2=0/\(rd l).2.1=(n:Int)\/¬k<9/\n=(if k<12 then 4 else 8)):=by
 obtain ⟨h1,h2,h3,h4,h5,h6,h7⟩:=zfK l;unfold zjp;by_cases h:k<9
 ·rw [xe h];by_cases h0:(rd l).2.2=0
  ·have:=h7 h0;rw [xd (by simpa using h0)];exact .inr ⟨_,rfl,by omega,by omega,by omega,.inl ⟨h,h0,by omega⟩⟩
  ·rw [xe h0];exact .inl ⟨_,rfl,by omega⟩
 ·rw [xd h];by_cases h8:l.length<(if k<12 then 4 else 8)
  ·rw [xe h8];exact .inl ⟨_,rfl,by omega⟩
  ·rw [xd h8];exact .inr ⟨_,rfl,by split<;>omega,by omega,by split<;>omega,.inr ⟨h,rfl⟩⟩
def pcs (k:Int) (l:List UInt8):List (List UInt8)×Int:=
 if hl:l=[] then ([],0) else match h:zjp k l with
  | .inl c=>([],c)
  | .inr n=>(l.take n::(pcs k (l.drop n)).1,(pcs k (l.drop n)).2)
termination_by l.length
decreasing_by
 all_goals
  rcases zhI k l with ⟨c',h',_⟩| ⟨n',h',g1,g2,_⟩
  ·rw [h'] at h;cases h
  ·rw [h'] at h;cases h;simp only [xD];omega
theorem zmw (k:Int):pcs k []=([],0):=by rw [pcs,dif_pos rfl]
theorem zmu (hl:l≠[]) (h:zjp k l= .inl c):pcs k l=([],c):=by
 rw [pcs,dif_neg hl];split
 ·rename_i c' h';rw [h] at h';cases h';rfl
 ·rename_i h';rw [h] at h';cases h'
theorem zkn (hl:l≠[]) (h:zjp k l= .inr n):pcs k l=(l.take n::(pcs k (l.drop n)).1,(pcs k (l.drop n)).2):=by
 rw [pcs,dif_neg hl];split
 ·rename_i c' h';rw [h] at h';cases h'
 ·rename_i n' h';rw [h] at h';cases h';rfl
theorem zmv (k:Int) (P:List UInt8->Prop) (h0:P []) (he:∀l c,l≠[]->zjp k l= .inl c->(c=3\/c=4)->P l)
  (hc:∀l n,l≠[]->zjp k l= .inr n->1<=n->n<=l.length->n<=10->P (l.drop n)->P l) (l:List UInt8):P l:=by
 generalize hn:l.length=m
 induction m using Nat.strongRecOn generalizing l with
 | _ m ih=>
  by_cases hl:l=[]
  ·subst hl;exact h0
  ·rcases zhI k l with ⟨c,h,hc'⟩| ⟨n,h,g1,g2,g3,_⟩
   ·exact he l c hl h hc'
   ·exact hc l n hl h g1 g2 g3 (ih _ (by simp only [xD];omega) _ rfl)
theorem ztG (k:Int) (l:List UInt8):(pcs k l).2=0\/(pcs k l).2=3\/(pcs k l).2=4:=by
 refine zmv k (fun l=>(pcs k l).2=0\/(pcs k l).2=3\/(pcs k l).2=4) ?_ ?_ ?_ l
 ·rw [zmw];exact .inl rfl
 ·intro l c hl h hc;rw [zmu hl h];exact .inr hc
 ·intro l n hl h _ _ _ ih;rw [zkn hl h];exact ih
theorem zzX (k:Int) (l:List UInt8):(pcs k l).1.length<=l.length:=by
 refine zmv k (fun l=>(pcs k l).1.length<=l.length) ?_ ?_ ?_ l
 ·rw [zmw];simp
 ·intro l c hl h _;rw [zmu hl h];simp
 ·intro l n hl h _ _ _ ih;rw [zkn hl h];simp only [xx,xD] at ih|-;have:=yl.2 hl;omega
theorem zvl (hk:kNum k=true) (h:zjp k l= .inr n):zqR (zdK k) (l.take n)=true:=by
 have hk':=zpi.1 hk;rcases zhI k l with ⟨c,h',_⟩| ⟨n',h',g1,g2,g3,hcase⟩
 ·rw [h'] at h;cases h
 ·rw [h'] at h;cases h;have vk:(l.take n).length=n:=by simp;omega
  unfold zqR;rcases hcase with ⟨h9,f1,f2⟩| ⟨h9,f1⟩
  ·have e:zdK k=0:=by unfold zdK;rw [xd (by omega),xd (by omega),xd (by omega)]
   rw [xe e];rcases zmz l with h6| ⟨h6,_⟩| ⟨x,c,y,e,hx,hc,hl,hv,h6⟩
   ·rw [h6] at f1;cases f1
   ·rw [h6] at f1;cases f1
   ·rw [h6] at f2;have e7:n=(x++[c]).length:=by simp at f2|-;omega
    have e8:l.take n=x++c::[]:=by rw [e7,e,List.append_cons x c y,List.take_left]
    rw [e8,zAM x c [] hx hc hl hv];simp
  ·have h12:zdK k=1/\12<=k\/zdK k=5/\k<12:=by
    unfold zdK;rw [xd (by omega)];by_cases hh:12<=k
    ·rw [xe hh];exact .inl ⟨rfl,hh⟩
    ·rw [xd hh,xe (by omega)];exact .inr ⟨rfl,by omega⟩
   rw [xd (by omega),vk,f1];refine xN ?_;rcases h12 with ⟨e,hh⟩| ⟨e,hh⟩
   ·rw [e,xd (by omega)];right;left;exact ⟨rfl,rfl⟩
   ·rw [e,xe hh];right;right;exact ⟨rfl,rfl⟩
theorem zyu (hk:kNum k=true) (l:List UInt8):∀p∈(pcs k l).1,zqR (zdK k) p=true/\1<=p.length/\p.length<=10:=by
 refine zmv k (fun l=>∀p∈(pcs k l).1,zqR (zdK k) p=true/\1<=p.length/\p.length<=10) ?_ ?_ ?_ l
 ·rw [zmw];intro p hp;cases hp
 ·intro l c hl h _;rw [zmu hl h];intro p hp;cases hp
 ·intro l n hl h g1 g2 g3 ih;rw [zkn hl h];intro p hp;cases hp with
  | head=>exact ⟨zvl hk h,by simp;omega,by simp;omega⟩
  | tail _ hp=>exact ih p hp
def zzf (k:Int) (p:List UInt8):Int:=zfg k (rawW k p)
def ends (base:Nat):List (List UInt8)->List Int
 | []=>[]
 | p::ps=>((base+p.length:Nat):Int)::ends (base+p.length) ps
theorem zsr {b:List UInt8} (hb:b.length<=1048576) (k:Int) (l:List UInt8):∀(a:Nat) (out:List Int),a<=b.length->l=b.drop a->out.length<=a->
  zaV b k out a=some (if (pcs k l).2=0 then .inl (out++ends a (pcs k l).1) else .inr (pcs k l).2):=by
 refine zmv k (fun l=>∀(a:Nat) (out:List Int),a<=b.length->l=b.drop a->out.length<=a->
  zaV b k out a=some (if (pcs k l).2=0 then .inl (out++ends a (pcs k l).1) else .inr (pcs k l).2)) ?_ ?_ ?_ l
 ·intro a out ha hl ho;have:b.length<=a:=by have:=congrArg List.length hl;simp at this;omega
  rw [zmw,xe rfl];refine zeD ?_;unfold zaq;rw [py];simp [ends]
 ·intro l c hl h hc a out ha hld ho;subst hld;have hlt:a<b.length:=by have:=yl.2 hl;simp at this;omega
  have hdl:(b.drop a).length=b.length - a:=by simp
  rw [zmu hl h,xd (by simp only;omega)];refine zeD ?_;unfold zaq;rw [px];unfold zjp at h;by_cases h9:k<9
  ·rw [xe h9] at h;by_cases h0:(rd (b.drop a)).2.2=0
   ·rw [xd (by simpa using h0)] at h;cases h
   ·rw [xe h0] at h;cases h;rw [px,sb,itT (by simpa using h9),zpK b a (by omega) ha,sb,itT (by simpa using h0),sb]
  ·rw [xd h9] at h;by_cases h12:k<12
   ·simp only [xe h12] at h;by_cases h8:(b.drop a).length<4
    ·rw [xe h8] at h;cases h;rw [itT (by simpa using h12),sb,itF (by simpa using h9),sb];simp only;rw [pz,px]
    ·rw [xd h8] at h;cases h
   ·simp only [xd h12] at h;by_cases h8:(b.drop a).length<8
    ·rw [xe h8] at h;cases h;rw [itF (by simpa using h12),sb,itF (by simpa using h9),sb];simp only;rw [pz,px]
    ·rw [xd h8] at h;cases h
 ·intro l n hl h g1 g2 g3 ih a out ha hld ho;subst hld;have hdl:(b.drop a).length=b.length - a:=by simp
  have hbody:zaq b k out a=some (.inl (out++[((a+n:Nat):Int)],((a+n:Nat):Int))):=by
   unfold zaq;rw [px];rcases zhI k (b.drop a) with ⟨c,h',_⟩| ⟨n',h',_,_,_,hcase⟩
   ·rw [h'] at h;cases h
   ·rw [h'] at h;cases h;rcases hcase with ⟨h9,f1,f2⟩| ⟨h9,f1⟩
    ·rw [px,sb,itT (by simpa using h9),zpK b a (by omega) ha,sb,itF (by simpa using f1),sb];simp only;rw [f2,pz,py,ziQ (by simp;omega),sb];push_cast;rfl
    ·by_cases h12:k<12
     ·rw [xe h12] at f1;subst f1;rw [itT (by simpa using h12),sb,itF (by simpa using h9),sb];simp only;rw [pz,py,ziQ (by simp;omega),sb];push_cast;rfl
     ·rw [xd h12] at f1;subst f1;rw [itF (by simpa using h12),sb,itF (by simpa using h9),sb];simp only;rw [pz,py,ziQ (by simp;omega),sb];push_cast;rfl
  rw [zhU hbody,ih (a+n) _ (by omega) (by rw [xK]) (by simp;omega),zkn hl h];have e:((b.drop a).take n).length=n:=by simp;omega
  simp only [ends,e,yx,yX]
def zjk (k:Int) (b:List UInt8):List Int×Int:=if kNum k=false then ([],2) else if (pcs k b).2=0 then (ends 0 (pcs k b).1,0) else ([],(pcs k b).2)
theorem zuY (k:Int) {b:List UInt8} (hb:b.length<=1048576):zcX k b=some (zjk k b):=by
 unfold zcX zjk;rw [zlE,sb];cases hn:kNum k
 ·rw [pv,xe rfl]
 ·have h:=zsr hb k b 0 [] (xm _) rfl (xi _);have h':zaV b k [] 0=_:=h;rw [pw,xd (by simp),h',sb];by_cases h0:(pcs k b).2=0
  ·rw [xe h0,xe h0];rfl
  ·rw [xd h0,xd h0]
def zeA (k:Int) (b:List UInt8):List Int×Int:=if kNum k=false then ([],2) else if (pcs k b).2=0 then ((pcs k b).1.map (zzf k),0) else ([],(pcs k b).2)
abbrev Vw:=zt
def zvw:Vw:=⟨zrec,0,false⟩
def zT (m:Mes) (i:Int):Fld:=m.Fields.getD i.toNat ⟨[],0,0,false,false,0⟩
def vw (m:Mes) (n w:Int):Int⊕(Int×Bool):=
 if fldI m n<0 then .inr (-1,false)
 else if (zT m (fldI m n)).Repeated=true/\kNum (zT m (fldI m n)).Kind=true/\w=2 then .inr (fldI m n,true)
 else if zbV (zT m (fldI m n)).Kind=false\/zdK (zT m (fldI m n)).Kind≠w then .inl 6 else .inr (fldI m n,false)
theorem ziT (m:Mes) (n:Int):fldI m n= -1/\(∀f∈m.Fields,f.Number≠n)\/∃(i:Nat) (h:i<m.Fields.length),fldI m n=i/\m.Fields[i].Number=n/\∀(j:Nat) (h:j<m.Fields.length),j<i->m.Fields[j].Number≠n:=by
 unfold fldI;cases h:m.Fields.findIdx? (fun f:Fld=>f.Number==n) with
 | none=>
  left;rw [qE] at h;exact ⟨znB (qE.2 h),fun f hf=>by simpa using h f hf⟩
 | some i=>
  right;have h':=h;rw [pg] at h;obtain ⟨hi,hp,hj⟩:=h;exact ⟨i,hi,znC h',by simpa using hp,fun j hjl hji=>by simpa using hj j hji⟩
theorem zge {m:Mes} {i:Nat} (h:i<m.Fields.length):zT m (i:Int)=m.Fields[i]:=by
 unfold zT;rw [xt,qI,xw h];rfl
theorem zdv (m:Mes) (n w:Int):vw m n w= .inl 6\/vw m n w= .inr (-1,false)/\fldI m n= -1\/∃(i:Nat) (run:Bool),vw m n w= .inr ((i:Int),run)/\fldI m n=i/\i<m.Fields.length:=by
 unfold vw;rcases ziT m n with ⟨h,_⟩| ⟨i,hi,h,_⟩
 ·right;left;rw [h,xe (by omega)];exact ⟨rfl,rfl⟩
 ·rw [h,xd (by omega)];split
  ·right;right;exact ⟨i,true,rfl,rfl,hi⟩
  ·split
   ·left;rfl
   ·right;right;exact ⟨i,false,rfl,rfl,hi⟩
def zaO (m:Mes) (b:List UInt8) (at5:Int):Vw×Int:=
 if (zbL b at5).2≠0 then (zvw,(zbL b at5).2) else match vw m (zbL b at5).1.Number (zbL b at5).1.Wire with
  | .inl c=>(zvw,c)
  | .inr (i,run)=>(⟨(zbL b at5).1,i,run⟩,0)
theorem zfL {m:Mes} (hm:m.Fields.length<=1152921504606846976) {b:List UInt8} (hb:b.length<=1048576) (at5:Int):zcj m b at5=some (zaO m b at5):=by
 unfold zcj zaO;rw [zuZ hb,sb];by_cases h:(zbL b at5).2=0
 ·rw [itF (by simpa using h),xd (by simpa using h),ztN hm,sb]
  generalize (zbL b at5).1=r
  unfold vw;rcases ziT m r.Number with ⟨hf,_⟩| ⟨i,hi,hf,_⟩
  ·rw [hf,pv,xe (by decide)]
  ·rw [hf,itF (by simp),xd (by omega),zX rfl hi,sb,zge hi,zlE,sb,zmA,sb,ztO,sb];have e:(if (m.Fields[i]).Repeated=true then (if kNum (m.Fields[i]).Kind=true then some (r.Wire==2) else some false) else some false)=some (decide ((m.Fields[i]).Repeated=true/\kNum (m.Fields[i]).Kind=true/\r.Wire=2)):=by
    cases (m.Fields[i]).Repeated
    ·rfl
    ·cases kNum (m.Fields[i]).Kind
     ·rfl
     ·by_cases hw:r.Wire=2<;>simp [hw]
   rw [e,sb];by_cases h1:(m.Fields[i]).Repeated=true/\kNum (m.Fields[i]).Kind=true/\r.Wire=2
   ·rw [itT (xN h1),xe h1]
   ·rw [itF (xO h1),xd h1];have e2:(if (!zbV (m.Fields[i]).Kind)=true then some true else some (zdK (m.Fields[i]).Kind !=r.Wire))=some (decide (zbV (m.Fields[i]).Kind=false\/zdK (m.Fields[i]).Kind≠r.Wire)):=by
     cases zbV (m.Fields[i]).Kind
     ·rfl
     ·by_cases hw:zdK (m.Fields[i]).Kind=r.Wire<;>simp [hw]
    rw [e2,sb];by_cases h2:zbV (m.Fields[i]).Kind=false\/zdK (m.Fields[i]).Kind≠r.Wire
    ·rw [itT (xN h2),xe h2];rfl
    ·rw [itF (xO h2),xd h2]
 ·rw [itT (by simpa using h),xe h];rfl
def vws (m:Mes) (e:Option (Nat×Int)):List Rec->List Vw×Option (Int×Int)
 | []=>([],e.map fun p=>((p.1:Int),p.2))
 | r::l=>match vw m r.Number r.Wire with
  | .inl c=>([],some (r.From,c))
  | .inr (i,run)=>(⟨r,i,run⟩::(vws m e l).1,(vws m e l).2)
def vwR (r:List Vw×Option (Int×Int)):List Vw×Int×Int:=match r.2 with
 | none=>(r.1,0,0)
 | some (p,c)=>([],p,c)
def zaC (m:Mes) (b:List UInt8):List Vw×Int×Int:=vwR (vws m (spl 0 b).2 (spl 0 b).1)
theorem ztL {m:Mes} (hm:m.Fields.length<=1152921504606846976) {b:List UInt8} (hb:b.length<=1048576) (base:Nat) (l:List UInt8):∀(out:List Vw),base<=b.length->l=b.drop base->out.length<=base->
  zbg b m out base=some (match (vws m (spl base l).2 (spl base l).1).2 with| none=> .inl (out++(vws m (spl base l).2 (spl base l).1).1)| some (p,c)=> .inr (p,c)):=by
 refine zfo (fun base l=>∀(out:List Vw),base<=b.length->l=b.drop base->out.length<=base->
  zbg b m out base=some (match (vws m (spl base l).2 (spl base l).1).2 with| none=> .inl (out++(vws m (spl base l).2 (spl base l).1).1)| some (p,c)=> .inr (p,c))) ?_ ?_ ?_ base l
 ·intro base out hbase hl ho;have:b.length<=base:=by have:=congrArg List.length hl;simp at this;omega
  rw [zdj];simp only [vws,qz,yJ];refine zdm ?_;unfold zam;rw [py]
 ·intro base l c hl h hc out hbase hld ho;subst hld;have hlt:base<b.length:=by have:=yl.2 hl;simp at this;omega
  rw [zeJ hl h];simp only [vws,yw];refine zdm ?_;unfold zam;have e:zbL b base=(zrec,c):=by unfold zbL;rw [xd (by omega),xt,h]
  have e2:zaO m b base=(zvw,c):=by unfold zaO;rw [e,xe (by simp only;omega)]
  rw [px,zfL hm hb,sb,e2,px]
 ·intro base l n w a t hl h _ g1 g2 g3 ih out hbase hld ho;subst hld;simp only [xD] at g3;have hlt:base<b.length:=by omega
  rw [zcp hl h];have e:zbL b base=(⟨n,w,base,(base+a:Nat),(base+t:Nat)⟩,0):=by
   unfold zbL;rw [xd (by omega),xt,h];push_cast;rfl
  rw [vws];rcases zdv m n w with hv| ⟨hv,_⟩| ⟨i,run,hv,_,hi⟩
  ·have e2:zaO m b base=(zvw,6):=by unfold zaO;rw [e];simp only [ya,yk,xU,hv]
   simp only [hv];refine zdm ?_;unfold zam;rw [px,zfL hm hb,sb,e2,pv]
  ·have e2:zaO m b base=(⟨⟨n,w,base,(base+a:Nat),(base+t:Nat)⟩, -1,false⟩,0):=by unfold zaO;rw [e];simp only [ya,yk,xU,hv]
   simp only [hv];refine (zeO (out':=out++[⟨⟨n,w,base,(base+a:Nat),(base+t:Nat)⟩, -1,false⟩]) (atv':=((base+t:Nat):Int)) ?_).trans ?_
   ·unfold zam;rw [px,zfL hm hb,sb,e2,pw,ziQ (by simp;omega),sb]
   ·rw [ih _ (by omega) (by rw [xK]) (by simp;omega)];simp only [yx,yX]
  ·have e2:zaO m b base=(⟨⟨n,w,base,(base+a:Nat),(base+t:Nat)⟩,i,run⟩,0):=by unfold zaO;rw [e];simp only [ya,yk,xU,hv]
   simp only [hv];refine (zeO (out':=out++[⟨⟨n,w,base,(base+a:Nat),(base+t:Nat)⟩,i,run⟩]) (atv':=((base+t:Nat):Int)) ?_).trans ?_
   ·unfold zam;rw [px,zfL hm hb,sb,e2,pw,ziQ (by simp;omega),sb]
   ·rw [ih _ (by omega) (by rw [xK]) (by simp;omega)];simp only [yx,yX]
theorem znL {m:Mes} (hm:m.Fields.length<=1152921504606846976) {b:List UInt8} (hb:b.length<=1048576):zcv m b=some (zaC m b):=by
 unfold zcv;have h:=ztL hm hb 0 b [] (xm _) rfl (xi _);have h':zbg b m [] 0=_:=h;rw [h',sb];unfold zaC vwR;cases (vws m (spl 0 b).2 (spl 0 b).1).2 with
 | none=>rfl
 | some p=>rfl
def zx (s:List Mes) (i:Int):Mes:=s.getD i.toNat ⟨[],[]⟩
theorem zdL {s:List Mes} {i:Nat} (h:i<s.length):zx s (i:Int)=s[i]:=by
 unfold zx;rw [xt,qI,xw h];rfl
def valB (b:List UInt8) (r:Rec):List UInt8:=(b.drop r.At.toNat).take (r.To.toNat - r.At.toNat)
abbrev zhx:=Option (Int->List UInt8->Option (Int×Int))
def ziV (f:Fld) (run:Bool) (sub:zhx) (r:Rec) (v:List UInt8):Option (Int×Int):=
 if run=true then (if (zjk f.Kind v).2≠0 then some (r.From,(zjk f.Kind v).2) else none)
 else if f.Kind=15/\zfN v=false then some (r.From,7)
 else if f.Kind=17 then (match sub with
  | none=>some (r.From,8)
  | some g=>match g f.Of v with
   | some (p,c)=>some (r.At+p,c)
   | none=>none)
 else none
def zba (m:Mes) (sub:zhx) (b:List UInt8) (r:Rec):Option (Int×Int):=match vw m r.Number r.Wire with
 | .inl c=>some (r.From,c)
 | .inr (i,run)=>if i<0 then none else ziV (zT m i) run sub r (valB b r)
def zaN (m:Mes) (sub:zhx) (b:List UInt8) (x:List Rec×Option (Nat×Int)):Option (Int×Int):=match x.1.findSome? (zba m sub b) with
 | some p=>some p
 | none=>x.2.map fun p=>((p.1:Int),p.2)
def zJ (s:List Mes):Nat->Int->List UInt8->Option (Int×Int)
 | 0,k,b=>zaN (zx s k) none b (spl 0 b)
 | d+1,k,b=>zaN (zx s k) (some (zJ s d)) b (spl 0 b)
def zmT (g:Int->List UInt8->Option (Int×Int)):Prop:=∀k v p c,g k v=some (p,c)->3<=c/\c<=8/\0<=p/\p<v.length
theorem zwt (k:Int) :(zjk k b).2=0\/(zjk k b).2=2/\kNum k=false\/(zjk k b).2=3\/(zjk k b).2=4:=by
 unfold zjk
 grind [ztG]
theorem zza (h:vw m n w= .inr (i,true)):kNum (zT m i).Kind=true/\(zT m i).Repeated=true/\w=2:=by
 unfold vw at h
 grind
theorem zqc (hr:r.At=((base+a:Nat):Int)) (ht:r.To=((base+t:Nat):Int)) (h:base+t<=b.length) (hat:a<=t):(valB b r).length=t - a:=by
 unfold valB;rw [hr,ht];simp;omega
theorem zrA {m:Mes} {sub:zhx} {b:List UInt8} (hg:∀g,sub=some g->zmT g) {n w:Int} {base a t:Nat} (h1:1<=a) (hat:a<=t) (ht:base+t<=b.length) {p c:Int}
  (h:zba m sub b ⟨n,w,base,(base+a:Nat),(base+t:Nat)⟩=some (p,c)):3<=c/\c<=8/\0<=p/\p<b.length:=by
 unfold zba at h;rcases zdv m n w with hv| ⟨hv,_⟩| ⟨i,run,hv,_,hi⟩
 ·grind
 ·grind
 ·simp only [hv] at h;rw [xd (by omega)] at h;unfold ziV at h;split at h
  ·grind [zza,zwt]
  ·split at h
   ·grind
   ·split at h
    ·cases sub with
     | none=>simp only at h;cases h;(try dsimp only);omega
     | some g=>
      simp only at h;have hl:=zqc (b:=b) (r:=⟨n,w,base,(base+a:Nat),(base+t:Nat)⟩) rfl rfl ht hat;cases hgv:g (zT m i).Of (valB b ⟨n,w,base,(base+a:Nat),(base+t:Nat)⟩) with
      | none=>rw [hgv] at h;cases h
      | some q=>
       obtain ⟨q1,q2⟩:=q;rw [hgv] at h;have:=hg g rfl _ _ _ _ hgv
       grind
    ·cases h
theorem zqW {m:Mes} {sub:zhx} {b:List UInt8} (hg:∀g,sub=some g->zmT g) (base:Nat) (l:List UInt8):l=b.drop base->base<=b.length->∀p c,zaN m sub b (spl base l)=some (p,c)->3<=c/\c<=8/\0<=p/\p<b.length:=by
 refine zfo (fun base l=>l=b.drop base->base<=b.length->∀p c,zaN m sub b (spl base l)=some (p,c)->3<=c/\c<=8/\0<=p/\p<b.length) ?_ ?_ ?_ base l
 ·grind [zaN,zdj]
 ·intro base l c' hl h hc hld hb p c h2;have hlt:base<b.length:=by subst hld;have:=yl.2 hl;simp at this;omega
  unfold zaN at h2;rw [zeJ hl h] at h2
  grind
 ·intro base l n w a t hl h _ g1 g2 g3 ih hld hb p c h2;have hbl:base+t<=b.length:=by subst hld;simp at g3;omega
  unfold zaN at h2 ih;rw [zcp hl h] at h2;simp only [pl] at h2;cases hs:zba m sub b ⟨n,w,base,(base+a:Nat),(base+t:Nat)⟩ with
  | some q=>rw [hs] at h2;cases h2;exact zrA hg g1 g2 hbl hs
  | none=>
   simp_all
theorem zei (s:List Mes):∀(d:Nat),zmT (zJ s d)
 | 0=>fun k v p c h=>zqW (fun g hg=>by cases hg) 0 v rfl (xm _) p c h
 | d+1=>fun k v p c h=>zqW (fun g hg=>by cases hg;exact zei s d) 0 v rfl (xm _) p c h
theorem zoV {s:List Mes} {k:Nat} {m:Mes} (hk:∃h:k<s.length,s[k]=m) (hm:m.Fields.length<=1152921504606846976) {b:List UInt8} (hb:b.length<=1048576) {d:Int} (hd:0<=d/\d<=64) {sub:zhx}
  {rec:List zc->Int->List UInt8->Int->Option (Int×Int)} (hg:∀g,sub=some g->zmT g) (h0:sub=none↔d=0)
  (hs:∀g,sub=some g->∀f∈m.Fields,f.Kind=17->∀v:List UInt8,v.length<=b.length->rec s f.Of v (d - 1)=some ((g f.Of v).getD (0,0))) (base:Nat) (l:List UInt8):
  l=b.drop base->base<=b.length->zav b d k rec s base=some (match zaN m sub b (spl base l) with| none=> .inl ()| some p=> .inr p):=by
 obtain ⟨hkl,hke⟩:=hk;have e1:idx s (k:Int)=some m:=by rw [zX rfl hkl,hke]
 refine zfo (fun base l=>l=b.drop base->base<=b.length->zav b d k rec s base=some (match zaN m sub b (spl base l) with| none=> .inl ()| some p=> .inr p)) ?_ ?_ ?_ base l
 ·intro base hl hbase;have:b.length<=base:=by have:=congrArg List.length hl;simp at this;omega
  unfold zaN;rw [zdj];refine zcO ?_;unfold zau
  grind
 ·intro base l c hl h hc hld hbase;subst hld;have hlt:base<b.length:=by have:=yl.2 hl;simp at this;omega
  unfold zaN;rw [zeJ hl h];refine zcO ?_;unfold zau;have e:zbL b base=(zrec,c):=by unfold zbL;rw [xd (by omega),xt,h]
  grind [zaO,sb,zfL]
 ·intro base l n w a t hl h _ g1 g2 g3 ih hld hbase;subst hld;simp only [xD] at g3;have hlt:base<b.length:=by omega
  have e:zbL b base=(⟨n,w,base,(base+a:Nat),(base+t:Nat)⟩,0):=by
   unfold zbL;rw [xd (by omega),xt,h];push_cast;rfl
  have ih':=ih (by rw [xK]) (by omega)
  have hfr:zaN m sub b (spl base (b.drop base))=match zba m sub b ⟨n,w,base,(base+a:Nat),(base+t:Nat)⟩ with
    | some p=>some p
    | none=>zaN m sub b (spl (base+t) ((b.drop base).drop t)):=by
   unfold zaN;rw [zcp hl h];simp only [pl];cases zba m sub b ⟨n,w,base,(base+a:Nat),(base+t:Nat)⟩<;>rfl
  have hcut:cut b ((base+a:Nat):Int) ((base+t:Nat):Int)=some (valB b ⟨n,w,base,(base+a:Nat),(base+t:Nat)⟩):=by
   grind [valB,zgr]
  have hvl:=zqc (b:=b) (r:=⟨n,w,base,(base+a:Nat),(base+t:Nat)⟩) rfl rfl (by omega) g2
  -- the body, by what the record's fault is
  have hbody:zau b d k rec s base=match zba m sub b ⟨n,w,base,(base+a:Nat),(base+t:Nat)⟩ with
    | some p=>some (.inr (.inr p))
    | none=>some (.inl ((base+t:Nat):Int)):=by
   unfold zau zba;rw [px,e1,sb,zfL hm hb,sb];rcases zdv m n w with hv| ⟨hv,_⟩| ⟨i,run,hv,_,hi⟩
   ·grind [zaO]
   ·grind [zaO,sb]
   ·have e2:zaO m b base=(⟨⟨n,w,base,(base+a:Nat),(base+t:Nat)⟩,i,run⟩,0):=by unfold zaO;rw [e];simp only [ya,yk,xU,hv]
    have hfm:zT m (i:Int)∈m.Fields:=by rw [zge hi];exact xF hi
    rw [e2,pw];simp only [hv];rw [hcut,sb,itT (by simp),sb,zX rfl hi,sb,xd (show ¬((i:Int)<0) by omega),<-zge hi]
    generalize hvv:valB b ⟨n,w,base,(base+a:Nat),(base+t:Nat)⟩=v at hvl|-
    generalize zT m (i:Int)=f at hfm|-
    unfold ziV;cases run
    ·rw [itF (c:=false) rfl,xd (show ¬(false=true) by simp)];have e15:(if (f.Kind==15)=true then (zbq v>>=fun vh=>some (!vh)) else some false)=some (decide (f.Kind=15/\zfN v=false)):=by
      rw [ztS (by omega),sb];by_cases h15:f.Kind=15
      ·simp_all
      grind
     rw [e15,sb];by_cases h15:f.Kind=15/\zfN v=false
     ·grind
     ·rw [itF (xO h15),xd h15];by_cases h17:f.Kind=17
      ·rw [itT (by simpa using h17),xe h17];cases hsub:sub with
       | none=>
        grind
       | some g=>
        have hd0:d≠0:=fun hh=>by rw [h0.2 hh] at hsub;cases hsub
        rw [itF (by simpa using hd0),zm (x:=d - 1) (by omega),hs g hsub f hfm h17 v (by omega),sb];cases hgv:g f.Of v with
        | none=>simp only [Option.getD_none,hgv];rw [pw]
        | some q=>
         obtain ⟨q1,q2⟩:=q;have:=hg g hsub _ _ _ _ hgv
         grind [zm]
      grind
    grind [zuY,sb]
  rw [hfr];cases hst:zba m sub b ⟨n,w,base,(base+a:Nat),(base+t:Nat)⟩ with
  | some p=>rw [hst] at hbody;rw [zcO hbody]
  | none=>rw [hst] at hbody;rw [zht hbody,ih']
theorem zqx {s:List Mes} (hr:zoA s):∀(d ve:Nat),d<=64->d<ve->∀(k:Nat) (b:List UInt8),k<s.length->b.length<=1048576->
  zas ve s k b d=some ((zJ s d k b).getD (0,0)):=by
 intro d
 induction d with
 | zero=>
  intro ve hd hf k b hk hb;obtain ⟨ve,rfl⟩:∃q,ve=q+1:=⟨ve - 1,by omega⟩;have h:=zoV (s:=s) (k:=k) (m:=s[k]) ⟨hk,rfl⟩ (by have:=hr.few _ (xF hk);omega) hb (d:=0) (by omega) (sub:=none) (rec:=zas ve) (fun g hg=>by cases hg) (by simp) (fun g hg=>by cases hg) 0 b rfl (xm _);have h':zav b 0 k (zas ve) s 0=_:=h;show zaW (zas ve) s k b 0=_;unfold zaW;rw [h',sb,zJ,zdL hk]
  grind
 | succ d ih=>
  intro ve hd hf k b hk hb;obtain ⟨ve,rfl⟩:∃q,ve=q+1:=⟨ve - 1,by omega⟩
  have h:=zoV (s:=s) (k:=k) (m:=s[k]) ⟨hk,rfl⟩ (by have:=hr.few _ (xF hk);omega) hb (d:=((d+1:Nat):Int)) (by omega) (sub:=some (zJ s d)) (rec:=zas ve)
   (fun g hg=>by cases hg;exact zei s d) (by constructor<;>intro h<;>first| cases h| omega)
   (fun g hg f hf17 h17 v hv=>by
    cases hg;have hof:=(hr.fld _ (xF hk) f hf17).sub h17;obtain ⟨q,hq⟩:∃q:Nat,f.Of=q:=⟨f.Of.toNat,by omega⟩;have e:((d+1:Nat):Int) - 1=(d:Int):=by omega
    rw [e,hq];exact ih ve (by omega) (by omega) q v (by omega) (by omega)) 0 b rfl (xm _)
  have h':zav b ((d+1:Nat):Int) k (zas ve) s 0=_:=h;show zaW (zas ve) s k b ((d+1:Nat):Int)=_;unfold zaW;rw [h',sb,zJ,zdL hk]
  grind
def argS (s:List Mes) (root d:Int):Int:=if zlG s=false then 9 else if root<0\/root>=s.length\/d<0\/d>64 then 2 else 0
theorem zpI {s:List Mes} (hw:WS s) (root d:Int):zck s root d=some (argS s root d):=by
 unfold zck argS
 grind [zqy,sb]
def zaw (s:List Mes) (root:Int) (b:List UInt8) (d:Int):Int×Int:=if argS s root d≠0 then (0,argS s root d) else (zJ s d.toNat root b).getD (0,0)
theorem zii (h:argS s root d=0):zoA s/\0<=root/\root<s.length/\0<=d/\d<=64:=by
 unfold argS at h
 grind [zxa]
theorem zlh {s:List Mes} (hw:WS s) (root:Int) {b:List UInt8} (hb:b.length<=1048576) (d:Int) {ve:Nat} (hf:64<ve):zcG ve s root b d=some (zaw s root b d):=by
 unfold zcG zaw;rw [zpI hw,sb];by_cases h:argS s root d=0
 ·obtain ⟨hr,h1,h2,h3,h4⟩:=zii h;obtain ⟨k,rfl⟩:∃k:Nat,root=k:=⟨root.toNat,by omega⟩
  grind [zqx,sb]
 grind
def is11 (s:List Mes) (root:Int) (b:List UInt8) (d:Int):Bool:=(zaw s root b d).2==0
theorem zbU :zaN m sub b x=none↔(∀r∈x.1,zba m sub b r=none)/\x.2=none:=by
 unfold zaN;cases h:x.1.findSome? (zba m sub b) with
 | some p=>
  grind
 | none=>
  rw [pm] at h;cases hx:x.2 with
  | none=>exact ⟨fun _=>⟨h,rfl⟩,fun _=>rfl⟩
  | some p=>exact ⟨(fun h'=>nomatch h'),fun ⟨_,h2⟩=>nomatch h2⟩
theorem zhJ (z:List UInt8) (h0:0<=r.To) (h:r.To<=b.length):valB (b++z) r=valB b r:=by
 unfold valB;by_cases ha:r.At.toNat<=b.length
 ·grind
 ·have e:r.To.toNat - r.At.toNat=0:=by omega
  grind
theorem zlM (a b:List UInt8) (h0:0<=r.At) (h1:r.At<=r.To):valB (a++b) (zhd a.length r)=valB b r:=by
 unfold valB zhd;simp only;have e1:(r.At+(a.length:Int)).toNat=a.length+r.At.toNat:=by omega
 have e2:(r.To+(a.length:Int)).toNat - (a.length+r.At.toNat)=r.To.toNat - r.At.toNat:=by omega
 simp_all
theorem zkt (hn:r'.Number=r.Number) (hw:r'.Wire=r.Wire) (hv:valB b' r'=valB b r):zba m sub b' r'=none↔zba m sub b r=none:=by
 unfold zba;rw [hn,hw,hv];cases vw m r.Number r.Wire with
 | inl c=>simp
 | inr p=>
  simp only;by_cases hi:p.1<0
  ·simp [hi]
  ·rw [xd hi,xd hi];unfold ziV
   grind
theorem zjg (base:Nat) (l:List UInt8):∀r∈(spl base l).1,(base:Int)<=r.From/\r.From<r.At/\r.At<=r.To/\r.To<=base+l.length:=by
 refine zfo (fun base l=>∀r∈(spl base l).1,(base:Int)<=r.From/\r.From<r.At/\r.At<=r.To/\r.To<=base+l.length) ?_ ?_ ?_ base l
 ·intro base r hr;rw [zdj] at hr;cases hr
 ·intro base l c hl h _ r hr;rw [zeJ hl h] at hr;cases hr
 ·intro base l n w a t hl h _ g1 g2 g3 ih r hr;rw [zcp hl h] at hr
  grind
theorem znE (z:List UInt8) (h:zaN m sub a (spl 0 a)=none):zaN m sub (a++z) (spl 0 (a++z))=none↔zaN m sub z (spl 0 z)=none:=by
 rw [zbU] at h;have hap:=zhf z 0 a h.2;have hsh:=zkQ a.length 0 z;rw [xy] at hap hsh;rw [hsh] at hap;rw [zbU,zbU,hap];simp only [xl,xu];constructor
 ·rintro ⟨h1,h2⟩;refine ⟨fun r hr=>?_,by cases hz:(spl 0 z).2 with| none=>rfl| some p=>rw [hz] at h2;cases h2⟩;have hb:=zjg 0 z r hr;have:=h1 (zhd a.length r) (.inr ⟨r,hr,rfl⟩);exact (zkt (r:=r) (r':=zhd a.length r) rfl rfl (zlM a z (by omega) (by omega))).1 this
 ·rintro ⟨h1,h2⟩;refine ⟨fun r hr=>?_,by rw [h2];rfl⟩;rcases hr with hr| ⟨r,hr,rfl⟩
  ·have hb:=zjg 0 a r hr
   grind [zkt,zhJ]
  ·have hb:=zjg 0 z r hr;exact (zkt (r:=r) (r':=zhd a.length r) rfl rfl (zlM a z (by omega) (by omega))).2 (h1 r hr)
theorem zgC (s:List Mes) (d:Nat) (k:Int) (z:List UInt8) (h:zJ s d k a=none):zJ s d k (a++z)=none↔zJ s d k z=none:=by
 cases d with
 | zero=>exact znE z h
 | succ d=>exact znE z h
theorem ztl :is11 s root b d=true↔argS s root d=0/\zJ s d.toNat root b=none:=by
 unfold is11 zaw;by_cases h:argS s root d=0
 ·rw [xd (by simpa using h)];cases hf:zJ s d.toNat root b with
  | none=>simp [h]
  | some p=>
   obtain ⟨p,c⟩:=p;have:=zei s d.toNat root b p c hf
   grind
 grind
abbrev zef:=List Int
def zji (m:List zef) (n:Int):Bool:=m.any fun v=>v==[n]
def zBA (n:Int):zef->Option zef
 | x::y::v=>if x=n then some (y::v) else none
 | _=>none
def zif (m:List zef) (n:Int):List zef:=m.filterMap (zBA n)
abbrev Msg:=zih
abbrev Vlu:=zeu
mutual
def szM:Msg->Nat
 | ⟨vs,_⟩=>1+szVs vs
def szVs:List Vlu->Nat
 | []=>0
 | v::l=>szV v+szVs l
def szV:Vlu->Nat
 | ⟨_,_,_,s⟩=>1+szMs s
def szMs:List Msg->Nat
 | []=>0
 | x::l=>szM x+szMs l
end
theorem zdG (x:Msg):szM x=1+szVs x.Values:=by cases x;rw [szM]
theorem zie (v:Vlu):szV v=1+szMs v.Subs:=by cases v;rw [szV]
theorem zfq :∀{l:List Vlu},v∈l->szV v<=szVs l
 | [],h=>by cases h
 | u::l,h=>by
  rw [szVs];rcases xj.1 h with rfl| h
  ·omega
  ·have:=zfq h;omega
theorem zfp :∀{l:List Msg},x∈l->szM x<=szMs l
 | [],h=>by cases h
 | u::l,h=>by
  rw [szMs];rcases xj.1 h with rfl| h
  ·omega
  ·have:=zfp h;omega
mutual
/-- Within the reach of what a law is handed. -/
def bdM:Msg->Prop
 | ⟨vs,u⟩=>vs.length*80<=140737488351232/\(u.length*16<=140737488351232/\∀t∈u,t.length<=140737488351232)/\bdVs vs
def bdVs:List Vlu->Prop
 | []=>True
 | v::l=>bdV v/\bdVs l
def bdV:Vlu->Prop
 | ⟨n,w,t,s⟩=>(Lit.int .i64 n).wf=true/\(w.length*8<=140737488351232/\∀x∈w,0<=x/\x<=18446744073709551615)/\(t.length*16<=140737488351232/\∀x∈t,x.length<=140737488351232)/\s.length*48<=140737488351232/\bdMs s
def bdMs:List Msg->Prop
 | []=>True
 | x::l=>bdM x/\bdMs l
end
theorem zoF (x:Msg):bdM x↔x.Values.length*80<=140737488351232/\(x.Unknown.length*16<=140737488351232/\∀t∈x.Unknown,t.length<=140737488351232)/\bdVs x.Values:=by cases x;simp only [bdM]
theorem zln (v:Vlu):bdV v↔(Lit.int .i64 v.Number).wf=true/\(v.Words.length*8<=140737488351232/\∀x∈v.Words,0<=x/\x<=18446744073709551615)/\(v.Texts.length*16<=140737488351232/\∀x∈v.Texts,x.length<=140737488351232)/\v.Subs.length*48<=140737488351232/\bdMs v.Subs:=by cases v;simp only [bdV]
theorem zgP:∀{l:List Vlu},bdVs l↔∀v∈l,bdV v
 | []=>by simp [bdVs]
 | v::l=>by rw [bdVs,zgP (l:=l)];simp
theorem zgO:∀{l:List Msg},bdMs l↔∀v∈l,bdM v
 | []=>by simp [bdMs]
 | v::l=>by rw [bdMs,zgO (l:=l)];simp
section
open Classical
end
def zgi (v:Vlu):Nat:=v.Words.length+v.Texts.length+v.Subs.length
mutual
def dM:Msg->Nat
 | ⟨vs,_⟩=>dVs vs
def dVs:List Vlu->Nat
 | []=>0
 | v::l=>max (dV v) (dVs l)
def dV:Vlu->Nat
 | ⟨_,_,_,s⟩=>dMs s
def dMs:List Msg->Nat
 | []=>0
 | x::l=>max (1+dM x) (dMs l)
end
structure Th where
 fi:Int
 run:Bool
 val:List UInt8
 raw:List UInt8
def rawB (b:List UInt8) (r:Rec):List UInt8:=(b.drop r.From.toNat).take (r.To.toNat - r.From.toNat)
def thOf (b:List UInt8) (t:Vw):Th:=⟨t.Field,t.Run,valB b t.R,rawB b t.R⟩
def ths (m:Mes) (b:List UInt8):List Th:=(zaC m b).1.map (thOf b)
def wt:List Th->Nat
 | []=>0
 | t::l=>t.val.length+1+wt l
theorem zzk:∀(l:List Th),l.length<=wt l
 | []=>by simp [wt]
 | t::l=>by have:=zzk l;simp only [xx,wt];omega
theorem zBR (b:List UInt8):∀(base:Nat) (l:List UInt8),l=b.drop base->base<=b.length->wt ((vws m e (spl base l).1).1.map (thOf b))<=l.length:=by
 intro base l;refine zfo (fun base l=>l=b.drop base->base<=b.length->wt ((vws m e (spl base l).1).1.map (thOf b))<=l.length) ?_ ?_ ?_ base l
 ·intro base _ _;rw [zdj];simp [vws,wt]
 ·intro base l c hl h _ _ _;rw [zeJ hl h];simp [vws,wt]
 ·intro base l n w a t hl h _ g1 g2 g3 ih hld hbase;have vk:l.length=b.length - base:=by rw [hld];simp
  have ih':=ih (by rw [hld,xK]) (by omega);rw [zcp hl h,vws];cases hv:vw m n w with
  | inl c=>simp [wt]
  | inr p=>
   simp only [xC,wt,thOf,xD] at ih'|-;rw [zqc (b:=b) (base:=base) (a:=a) (t:=t) rfl rfl (by omega) g2];omega
theorem zBL (m:Mes) (b:List UInt8):wt (ths m b)<=b.length:=by
 unfold ths zaC vwR;split
 ·exact zBR b 0 b rfl (xm _)
 ·simp [wt]
abbrev zxr:=List UInt8×Bool×List Int×List Str×List Msg
mutual
/-- How much a meaning is, all together. -/
def wgM:Msg->Nat
 | ⟨vs,u⟩=>1+(u.map fun t=>1+t.length).sum+wgVs vs
def wgVs:List Vlu->Nat
 | []=>0
 | v::l=>wgV v+wgVs l
def wgV:Vlu->Nat
 | ⟨_,w,t,s⟩=>1+w.length+(t.map fun t=>1+t.length).sum+wgMs s
def wgMs:List Msg->Nat
 | []=>0
 | x::l=>wgM x+wgMs l
end
theorem zkA (x:Msg):wgM x=1+(x.Unknown.map fun t=>1+t.length).sum+wgVs x.Values:=by cases x;rw [wgM]
theorem zig (v:Vlu):wgV v=1+v.Words.length+(v.Texts.map fun t=>1+t.length).sum+wgMs v.Subs:=by cases v;rw [wgV]
theorem zun :∀{l:List Vlu},v∈l->wgV v<=wgVs l
 | [],h=>by cases h
 | u::l,h=>by
  rw [wgVs];rcases xj.1 h with rfl| h
  ·omega
  ·have:=zun h;omega
theorem zkB :∀{l:List Msg},x∈l->wgM x<=wgMs l
 | [],h=>by cases h
 | u::l,h=>by
  rw [wgMs];rcases xj.1 h with rfl| h
  ·omega
  ·have:=zkB h;omega
theorem zsC :∀{l:List Str},t∈l->1+t.length<=(l.map fun t=>1+t.length).sum
 | [],h=>by cases h
 | u::l,h=>by
  rw [xC,List.sum_cons];rcases xj.1 h with rfl| h
  ·omega
  ·have:=zsC h;omega
theorem zsB:∀{l:List Str},l.length<=(l.map fun t=>1+t.length).sum
 | []=>by simp
 | u::l=>by
  rw [xC,List.sum_cons,xx];have:=zsB (l:=l);omega
theorem zum:∀(l:List Vlu),l.length<=wgVs l
 | []=>by simp [wgVs]
 | u::l=>by rw [wgVs,xx,zig];have:=zum l;omega
theorem zul:∀(l:List Msg),l.length<=wgMs l
 | []=>by simp [wgMs]
 | u::l=>by rw [wgMs,xx,zkA];have:=zul l;omega
def unkR (m:Mes) (u:Str):Bool:=(zbL u 0).2==0&&(zbL u 0).1.To==(u.length:Int)&&decide (fldI m (zbL u 0).1.Number<0)
def zup (f:Fld) (w:Int):Bool:=kNum f.Kind&&zfg f.Kind w==w
def zua (f:Fld) (t:Str):Bool:=f.Kind==16|| (f.Kind==15&&zfN t)
def zvT (f:Fld) (v:Vlu):Bool:=decide (0<zgi v)&&(decide (zgi v<=1)|| f.Repeated)&&zbV f.Kind
mutual
def zcc (s:List Mes):Msg->Int->Bool
 | ⟨vs,u⟩,k=>decide (0<=k/\k<s.length)&&zfW s vs (zx s k) none&&u.all (unkR (zx s k))
def zfW (s:List Mes):List Vlu->Mes->Option Int->Bool
 | [],_,_=>true
 | v::l,m,p=>decide (0<=fldI m v.Number)&&p.all (fun n=>decide (n<v.Number))&&zma s v (zT m (fldI m v.Number))&&zfW s l m (some v.Number)
def zma (s:List Mes):Vlu->Fld->Bool
 | ⟨n,w,t,sub⟩,f=>zvT f ⟨n,w,t,sub⟩&&w.all (zup f)&&t.all (zua f)&&zkN s sub f
def zkN (s:List Mes):List Msg->Fld->Bool
 | [],_=>true
 | x::l,f=>(f.Kind==17&&zcc s x f.Of)&&zkN s l f
end
theorem zru (s:List Mes) (x:Msg) (k:Int):zcc s x k=(decide (0<=k/\k<s.length)&&zfW s x.Values (zx s k) none&&x.Unknown.all (unkR (zx s k))):=by cases x;rw [zcc]
theorem ztf (s:List Mes) (v:Vlu) (f:Fld):zma s v f=(zvT f v&&v.Words.all (zup f)&&v.Texts.all (zua f)&&zkN s v.Subs f):=by cases v;rw [zma]
theorem zlF (s:List Mes) (f:Fld):∀(l:List Msg),zkN s l f=l.all fun x=>f.Kind==17&&zcc s x f.Of
 | []=>by rw [zkN];rfl
 | x::l=>by rw [zkN,zlF s f l];rfl
mutual
/-- No list is long. -/
def smM:Msg->Prop
 | ⟨vs,u⟩=>vs.length<=1048576/\(u.length<=1048576/\∀t∈u,t.length<=1048576)/\smVs vs
def smVs:List Vlu->Prop
 | []=>True
 | v::l=>smV v/\smVs l
def smV:Vlu->Prop
 | ⟨n,w,t,s⟩=>w.length<=1048576/\(t.length<=1048576/\∀x∈t,x.length<=1048576)/\s.length<=1048576/\smMs s
def smMs:List Msg->Prop
 | []=>True
 | x::l=>smM x/\smMs l
end
theorem zvd (x:Msg):smM x↔x.Values.length<=1048576/\(x.Unknown.length<=1048576/\∀t∈x.Unknown,t.length<=1048576)/\smVs x.Values:=by cases x;simp only [smM]
theorem zve (v:Vlu):smV v↔v.Words.length<=1048576/\(v.Texts.length<=1048576/\∀x∈v.Texts,x.length<=1048576)/\v.Subs.length<=1048576/\smMs v.Subs:=by cases v;simp only [smV]
theorem zmM:∀{l:List Vlu},smVs l↔∀v∈l,smV v
 | []=>by simp [smVs]
 | v::l=>by rw [smVs,zmM (l:=l)];simp
theorem zmL:∀{l:List Msg},smMs l↔∀v∈l,smM v
 | []=>by simp [smMs]
 | v::l=>by rw [smMs,zmL (l:=l)];simp
def zrB (s:List Mes):Nat->zhx
 | 0=>none
 | e+1=>some (zJ s e)
theorem zfD (s:List Mes) (d:Nat) (k:Int) (b:List UInt8):zJ s d k b=zaN (zx s k) (zrB s d) b (spl 0 b):=by cases d<;>rfl
theorem znz (s:List Mes) (d:Nat) (k:Int):zJ s d k []=none:=by rw [zfD,zdj];rfl
def vwG (m:Mes) (r:Rec):Int×Bool:=match vw m r.Number r.Wire with
 | .inl _=>(-1,false)
 | .inr p=>p
def thR (m:Mes) (b:List UInt8) (r:Rec):Th:=⟨(vwG m r).1,(vwG m r).2,valB b r,rawB b r⟩
theorem zvp :∀{l:List Rec},(∀r∈l,∃p,vw m r.Number r.Wire= .inr p)->vws m none l=(l.map fun r=>⟨r,(vwG m r).1,(vwG m r).2⟩,none)
 | [],_=>rfl
 | r::l,h=>by
  obtain ⟨p,hp⟩:=h r xf;rw [vws,hp,zvp fun x hx=>h x (xg _ hx)];simp only [xC,vwG,hp]
theorem zwl (h:zba m sub b r=none):∃p,vw m r.Number r.Wire= .inr p:=by
 unfold zba at h;cases hv:vw m r.Number r.Wire with
 | inl c=>rw [hv] at h;cases h
 | inr p=>exact ⟨p,rfl⟩
theorem zsG (h:zJ s d k b=none):ths (zx s k) b=(spl 0 b).1.map (thR (zx s k) b):=by
 rw [zfD,zbU] at h;unfold ths zaC;rw [h.2,zvp fun r hr=>zwl (h.1 r hr)];unfold vwR;simp only [qD];rfl
theorem ztJ {b:List UInt8} (z:List UInt8) {r:Rec} (h0:0<=r.To) (h:r.To<=b.length):rawB (b++z) r=rawB b r:=by
 unfold rawB;by_cases ha:r.From.toNat<=b.length
 ·grind
 ·have e:r.To.toNat - r.From.toNat=0:=by omega
  grind
theorem zuX (a b:List UInt8) {r:Rec} (h0:0<=r.From) (h1:r.From<=r.To):rawB (a++b) (zhd a.length r)=rawB b r:=by
 unfold rawB zhd;simp only;have e1:(r.From+(a.length:Int)).toNat=a.length+r.From.toNat:=by omega
 have e2:(r.To+(a.length:Int)).toNat - (a.length+r.From.toNat)=r.To.toNat - r.From.toNat:=by omega
 simp_all
theorem zvi {s:List Mes} {d:Nat} {k:Int} {a z:List UInt8} (ha:zJ s d k a=none) (hz:zJ s d k z=none):ths (zx s k) (a++z)=ths (zx s k) a++ths (zx s k) z:=by
 rw [zsG ((zgC s d k z ha).2 hz),zsG ha,zsG hz];rw [zfD,zbU] at ha;have hap:=zhf z 0 a ha.2;have hsh:=zkQ a.length 0 z;rw [xy] at hap hsh;rw [hap,hsh];simp only [yS,qD];congr 1
 ·refine pf fun r hr=>?_
  have:=zjg 0 a r hr;unfold thR;rw [zhJ z (by omega) (by omega),ztJ z (by omega) (by omega)]
 ·refine pf fun r hr=>?_
  have:=zjg 0 z r hr;show thR _ _ (zhd a.length r)=_;unfold thR;rw [zlM a z (by omega) (by omega),zuX a z (by omega) (by omega)];rfl
structure OkT (s:List Mes) (d:Nat) (m:Mes) (t:Th):Prop where
 fi:t.fi= -1\/0<=t.fi/\t.fi<m.Fields.length
 unk:t.fi<0->unkR m t.raw=true
 run:0<=t.fi->t.run=true->kNum (zT m t.fi).Kind=true/\(zT m t.fi).Repeated=true/\(zjk (zT m t.fi).Kind t.val).2=0
 one:0<=t.fi->t.run=false->zbV (zT m t.fi).Kind=true/\zqR (zdK (zT m t.fi).Kind) t.val=true/\((zT m t.fi).Kind=15->zfN t.val=true)/\((zT m t.fi).Kind=17->∃e,d=e+1/\zJ s e (zT m t.fi).Of t.val=none)
structure zCv (s:List Mes) (d:Nat) (f:Fld) (a:zxr):Prop where
 words:∀w∈a.2.2.1,zup f w=true
 texts:∀t∈a.2.2.2.1,zua f t=true
 numT:kNum f.Kind=true->a.2.2.2.1=[]
 subs:∀x∈a.2.2.2.2,f.Kind=17/\zcc s x f.Of=true/\1+dM x<=d
 join:f.Kind=17->∀e,d=e+1->zJ s e f.Of a.1=none
 met:a.2.1=true->f.Kind=17->∃e,d=e+1
 one:f.Repeated=false->a.2.2.1.length<=1/\a.2.2.2.1.length<=1/\a.2.2.2.2=[]
structure zCu (a:zxr):Prop where
 words:∀w∈a.2.2.1,0<=w/\w<=18446744073709551615
 texts:∀t∈a.2.2.2.1,t.length<=1048576
 subs:∀x∈a.2.2.2.2,bdM x/\smM x
def zdr (l:List Vlu):Prop:=l.Pairwise fun a b=>a.Number<b.Number
def look (l:List Vlu) (n:Int):Option Vlu:=l.find? fun v=>v.Number==n
theorem zet (v:Vlu) (l:List Vlu) (n:Int):look (v::l) n=if v.Number=n then some v else look l n:=by
 unfold look;rw [List.find?_cons];by_cases h:v.Number=n
 ·rw [xe h];simp [h]
 ·rw [xd h];have:(v.Number==n)=false:=by simpa using h
  rw [this]
theorem zeT (h:look l n=some v):v.Number=n/\v∈l:=by
 unfold look at h;exact ⟨by simpa using List.find?_some h,List.mem_of_find?_eq_some h⟩
theorem zvS (h:∀v∈l,n<v.Number):look l n=none:=by
 unfold look;rw [List.find?_eq_none];intro v hv;have:=h v hv;simp;omega
theorem zty (hr:zdr l) (h:v∈l):look l v.Number=some v:=by
 induction l with
 | nil=>cases h
 | cons u l ih=>
  obtain ⟨h1,h2⟩:=xW.1 hr;rw [zet];rcases xj.1 h with rfl| h
  ·rw [xe rfl]
  ·have:=h1 v h;rw [xd (by omega),ih h2 h]
def putL (v:Vlu):Bool->List Vlu->List Vlu
 | done,[]=>if done=true then [] else [v]
 | done,u::l=>(if done=false/\v.Number<=u.Number then [v] else [])++((if u.Number=v.Number then [] else [u])++putL v (done|| decide (v.Number<=u.Number)) l)
theorem ztH (v:Vlu):∀(d:Bool) (l:List Vlu),(putL v d l).length<=l.length+(if d=true then 0 else 1)
 | d,[]=>by rw [putL];cases d<;>simp
 | d,u::l=>by
  have:=ztH v (d|| decide (v.Number<=u.Number)) l;rw [putL];simp only [xE,xx];cases d
  ·by_cases h:v.Number<=u.Number
   ·rw [xe ⟨rfl,h⟩];simp only [h,decide_true,qf,yb] at this|-;split<;>simp<;>omega
   ·rw [xd (fun hh=>h hh.2)];simp only [h,decide_false,ql,qK,xU] at this|-;split<;>simp<;>omega
  ·rw [xd (by simp)];simp only [Bool.true_or,yb] at this|-;split<;>simp<;>omega
theorem ztI :∀{d:Bool} {l:List Vlu} {x:Vlu},x∈putL v d l->x=v/\d=false\/x∈l/\x.Number≠v.Number
 | d,[],x,h=>by
  rw [putL] at h;cases d
  ·rw [xd (by simp)] at h;exact .inl ⟨xQ.1 h,rfl⟩
  ·rw [xe rfl] at h;cases h
 | d,u::l,x,h=>by
  rw [putL] at h;rcases xl.1 h with h| h
  ·split at h
   ·rename_i hc;exact .inl ⟨xQ.1 h,hc.1⟩
   ·cases h
  ·rcases xl.1 h with h| h
   ·split at h
    ·cases h
    ·rename_i hc;rw [xQ.1 h];exact .inr ⟨xf,hc⟩
   ·rcases ztI h with ⟨h1,h2⟩| ⟨h1,h2⟩
    ·refine .inl ⟨h1,?_⟩;cases d
     ·rfl
     ·simp at h2
    ·exact .inr ⟨xg _ h1,h2⟩
theorem zkp :∀{d:Bool} {l:List Vlu},zdr l->zdr (putL v d l)
 | d,[],_=>by rw [putL];cases d<;>simp [zdr]
 | d,u::l,h=>by
  obtain ⟨h1,h2⟩:=xW.1 h;have ih:=zkp (v:=v) (d:=d|| decide (v.Number<=u.Number)) h2;have hrest:∀x∈putL v (d|| decide (v.Number<=u.Number)) l,u.Number<x.Number:=fun x hx=>by
   rcases ztI hx with ⟨rfl,hd⟩| ⟨hx,_⟩
   ·simp at hd;omega
   ·exact h1 x hx
  rw [putL];have htail:zdr ((if u.Number=v.Number then [] else [u])++putL v (d|| decide (v.Number<=u.Number)) l):=by
   split
   ·exact ih
   ·exact xW.2 ⟨hrest,ih⟩
  split
  ·rename_i hc;rw [yX];refine xW.2 ⟨fun x hx=>?_,htail⟩;rcases xl.1 hx with hx| hx
   ·split at hx
    ·cases hx
    ·rw [xQ.1 hx];omega
   ·have:=hrest x hx;omega
  ·exact htail
theorem znG (l k:List Vlu) (n:Int):look (l++k) n=match look l n with| some v=>some v| none=>look k n:=by
 unfold look;rw [List.find?_append];cases l.find? (fun v=>v.Number==n)<;>rfl
theorem zpn :∀{d:Bool} {l:List Vlu},zdr l->∀n,look (putL v d l) n=if n=v.Number then (if d=true then none else some v) else look l n
 | d,[],_,n=>by
  rw [putL];cases d
  ·rw [xd (show ¬(false=true) by simp),xd (show ¬(false=true) by simp),zet];by_cases h:n=v.Number
   ·rw [xe h,xe h.symm]
   ·rw [xd h,xd (fun hh=>h hh.symm)]
  ·rw [xe rfl,xe rfl];split<;>rfl
 | d,u::l,h,n=>by
  obtain ⟨h1,h2⟩:=xW.1 h;have ih:=zpn (v:=v) (d:=d|| decide (v.Number<=u.Number)) h2 n;rw [putL,znG,znG,ih,zet u l n];by_cases hn:n=v.Number
  ·rw [xe hn,xe hn];have hu:look (if u.Number=v.Number then [] else [u]) n=none:=by
    split
    ·rfl
    ·rw [zet,xd (by omega)];rfl
   rw [hu];cases d
   ·by_cases hle:v.Number<=u.Number
    ·rw [xe ⟨rfl,hle⟩,zet,xe hn.symm];simp
    ·rw [xd (fun hh=>hle hh.2)];simp [look,hle]
   ·rw [xd (by simp)];simp [look]
  ·rw [xd hn,xd hn];have hv:look (if d=false/\v.Number<=u.Number then [v] else []) n=none:=by
    split
    ·rw [zet,xd (fun hh=>hn hh.symm)];rfl
    ·rfl
   rw [hv];by_cases hu:u.Number=v.Number
   ·rw [xe hu,xd (by omega)];rfl
   ·rw [xd hu,zet];by_cases hun:u.Number=n
    ·rw [xe hun,xe hun]
    ·rw [xd hun,xd hun];rfl
def putM (x:Msg) (v:Vlu):Msg:=⟨putL v (decide (zgi v=0)) x.Values,x.Unknown⟩
theorem zhE :∀{l:List Vlu} {p:Option Int},zfW s l m p=true->∀v∈l,0<=fldI m v.Number/\zma s v (zT m (fldI m v.Number))=true/\p.all (fun n=>decide (n<v.Number))=true
 | [],p,_,v,hv=>by cases hv
 | u::l,p,h,v,hv=>by
  rw [zfW] at h;simp only [xh,xr] at h;obtain ⟨⟨⟨h1,h2⟩,h3⟩,h4⟩:=h;rcases xj.1 hv with rfl| hv
  ·exact ⟨h1,h3,h2⟩
  ·obtain ⟨g1,g2,g3⟩:=zhE h4 v hv;refine ⟨g1,g2,?_⟩;cases p with
   | none=>rfl
   | some n=>
    simp at h2 g3|-;omega
theorem zkr :∀{l:List Vlu} {p:Option Int},zfW s l m p=true->zdr l
 | [],p,_=> .nil
 | u::l,p,h=>by
  rw [zfW] at h;simp only [xh,xr] at h;refine xW.2 ⟨fun v hv=>?_,zkr h.2⟩;have:=(zhE h.2 v hv).2.2;simpa using this
theorem zpN :∀{l:List Vlu} {p:Option Int},zdr l->(∀v∈l,0<=fldI m v.Number/\zma s v (zT m (fldI m v.Number))=true/\p.all (fun n=>decide (n<v.Number))=true)->zfW s l m p=true
 | [],p,_,_=>by rw [zfW]
 | u::l,p,hr,h=>by
  obtain ⟨h1,h2⟩:=xW.1 hr;obtain ⟨a1,a2,a3⟩:=h u xf;rw [zfW,zpN h2 fun v hv=>⟨(h v (xg _ hv)).1,(h v (xg _ hv)).2.1,by simpa using h1 v hv⟩,a2,a3,xN a1];rfl
theorem zdc (h:zcc s x k=true):0<=k/\k<s.length/\zdr x.Values/\(∀v∈x.Values,0<=fldI (zx s k) v.Number/\zma s v (zT (zx s k) (fldI (zx s k) v.Number))=true)/\∀u∈x.Unknown,unkR (zx s k) u=true:=by
 rw [zru] at h;simp only [xh,xr] at h;exact ⟨h.1.1.1,h.1.1.2,zkr h.1.2,fun v hv=>⟨(zhE h.1.2 v hv).1,(zhE h.1.2 v hv).2.1⟩,xn.1 h.2⟩
theorem zrv (h1:0<=k) (h2:k<s.length) (h3:zdr x.Values) (h4:∀v∈x.Values,0<=fldI (zx s k) v.Number/\zma s v (zT (zx s k) (fldI (zx s k) v.Number))=true) (h5:∀u∈x.Unknown,unkR (zx s k) u=true):zcc s x k=true:=by
 rw [zru,xN ⟨h1,h2⟩,zpN h3 fun v hv=>⟨(h4 v hv).1,(h4 v hv).2,rfl⟩,xn.2 h5];rfl
structure zgw (s:List Mes) (v:Vlu) (f:Fld):Prop where
 many:0<zgi v
 one:f.Repeated=false->zgi v=1
 kind:zbV f.Kind=true
 words:∀w∈v.Words,zup f w=true
 texts:∀t∈v.Texts,zua f t=true
 subs:∀x∈v.Subs,f.Kind=17/\zcc s x f.Of=true
theorem zer (h:zma s v f=true):zgw s v f:=by
 rw [ztf,zlF] at h;unfold zvT at h;simp only [xh,qe,xr,xn,beq_iff_eq] at h;obtain ⟨⟨⟨⟨⟨h1,h2⟩,h3⟩,h4⟩,h5⟩,h6⟩:=h;refine ⟨h1,fun hr=>?_,h3,h4,h5,fun x hx=>?_⟩
 ·rw [hr] at h2;simp at h2;omega
 ·exact h6 x hx
theorem zvC (h:zgw s v f):zma s v f=true:=by
 obtain ⟨h1,h2,h3,h4,h5,h6⟩:=h;rw [ztf,zlF];unfold zvT;simp only [xh,qe,xr,xn,beq_iff_eq];refine ⟨⟨⟨⟨⟨h1,?_⟩,h3⟩,h4⟩,h5⟩,fun x hx=>h6 x hx⟩;cases hr:f.Repeated with
 | true=>exact .inr rfl
 | false=>exact .inl (by have:=h2 hr;omega)
theorem zgw.noWords (h:zgw s v f) (hk:kNum f.Kind=false):v.Words=[]:=by
 cases hw:v.Words with
 | nil=>rfl
 | cons w l=>
  have:=h.words w (by rw [hw];exact xf);unfold zup at this;rw [hk] at this;simp at this
theorem zgw.noTexts (h:zgw s v f) (hk:f.Kind≠15/\f.Kind≠16):v.Texts=[]:=by
 cases hw:v.Texts with
 | nil=>rfl
 | cons w l=>
  have:=h.texts w (by rw [hw];exact xf);unfold zua at this;simp at this;omega
theorem zgw.msg (h:zgw s v f) (hk:f.Kind=17) (hr:f.Repeated=false):∃x,v=⟨v.Number,[],[],[x]⟩/\zcc s x f.Of=true:=by
 have h1:=h.noWords (by rw [hk];rfl);have h2:=h.noTexts (by omega);have h3:=h.one hr;have h4:=h.subs;obtain ⟨n,w,t,sub⟩:=v;simp only at h1 h2 h4;subst h1 h2;unfold zgi at h3;simp at h3;obtain ⟨x,rfl⟩:∃x,sub=[x]:=by
  cases sub with
  | nil=>simp at h3
  | cons x l=>cases l with
   | nil=>exact ⟨x,rfl⟩
   | cons _ _=>simp at h3
 exact ⟨x,rfl,(h4 x xf).2⟩
mutual
/-- b zdY a. -/
def zjm (s:List Mes):Msg->Msg->Int->Msg
 | ⟨vs,u⟩,a,k=>⟨zfG s vs a (zx s k) a.Values,a.Unknown++u⟩
def zfG (s:List Mes):List Vlu->Msg->Mes->List Vlu->List Vlu
 | [],_,_,vg=>vg
 | v::l,a,m,vg=>zfG s l a m (putM ⟨vg,[]⟩ (zfu s v (look a.Values v.Number) (zT m (fldI m v.Number)))).Values
def zfu (s:List Mes):Vlu->Option Vlu->Fld->Vlu
 | ⟨n,w,t,sub⟩,none,f=>⟨n,w,t,sub⟩
 | ⟨n,w,t,sub⟩,some u,f=>if f.Repeated=true then ⟨n,u.Words++w,u.Texts++t,u.Subs++sub⟩ else if f.Kind=17 then ⟨n,[],[],zia s sub u.Subs f.Of⟩ else ⟨n,w,t,sub⟩
def zia (s:List Mes):List Msg->List Msg->Int->List Msg
 | [],_,_=>[]
 | x::_,ys,k=>match ys with
  | []=>[]
  | y::_=>[zjm s x y k]
end
theorem zka (s:List Mes) (b a:Msg) (k:Int):zjm s b a k=⟨zfG s b.Values a (zx s k) a.Values,a.Unknown++b.Unknown⟩:=by cases b;rw [zjm]
theorem zkb (s:List Mes) (v:Vlu) (o:Option Vlu) (f:Fld):zfu s v o f=match o with
  | none=>v
  | some u=>if f.Repeated=true then ⟨v.Number,u.Words++v.Words,u.Texts++v.Texts,u.Subs++v.Subs⟩ else if f.Kind=17 then ⟨v.Number,[],[],zia s v.Subs u.Subs f.Of⟩ else v:=by
 cases v;cases o<;>rw [zfu]
theorem zrb (s:List Mes) (v:Vlu) (o:Option Vlu) (f:Fld):(zfu s v o f).Number=v.Number:=by
 rw [zkb];cases o with
 | none=>rfl
 | some u=>simp only;split;rfl;split<;>rfl
theorem zyx (vg:List Vlu) (u:List Str) (v:Vlu):(putM ⟨vg,u⟩ v).Values.length<=vg.length+1:=by
 have:=ztH v (decide (zgi v=0)) vg;unfold putM;simp only;split at this<;>omega
theorem znH :∀{l vg:List Vlu},zdr vg->zdr l->(∀v∈l,0<zgi (zfu s v (look a.Values v.Number) (zT m (fldI m v.Number))))->
  zdr (zfG s l a m vg)/\∀n,look (zfG s l a m vg) n=match look l n with
   | some v=>some (zfu s v (look a.Values n) (zT m (fldI m n)))
   | none=>look vg n
 | [],vg,h1,_,_=>by rw [zfG];exact ⟨h1,fun n=>rfl⟩
 | v::l,vg,h1,h2,h3=>by
  obtain ⟨l1,l2⟩:=xW.1 h2;have hv:=h3 v xf;have hnum:=zrb s v (look a.Values v.Number) (zT m (fldI m v.Number));rw [zfG];have hacc:zdr (putM ⟨vg,[]⟩ (zfu s v (look a.Values v.Number) (zT m (fldI m v.Number)))).Values:=zkp h1;obtain ⟨r1,r2⟩:=znH (s:=s) (a:=a) (m:=m) hacc l2 fun u hu=>h3 u (xg _ hu)
  refine ⟨r1,fun n=>?_⟩;rw [r2 n,zet];have hlk:look (putM ⟨vg,[]⟩ (zfu s v (look a.Values v.Number) (zT m (fldI m v.Number)))).Values n=if n=v.Number then some (zfu s v (look a.Values v.Number) (zT m (fldI m v.Number))) else look vg n:=by
   unfold putM;simp only;rw [zpn h1 n,hnum];by_cases hn:n=v.Number
   ·rw [xe hn,xe hn,xd fun hh=>by have:=yI hh;omega]
   ·rw [xd hn,xd hn]
  by_cases hn:v.Number=n
  ·rw [xe hn,zvS fun u hu=>by have:=l1 u hu;omega,hlk,xe hn.symm];simp only [hn]
  ·rw [xd hn,hlk,xd fun hh=>hn hh.symm]
theorem zpg (hv:zgw s v f) (ho:∀u,o=some u->zgw s u f):0<zgi (zfu s v o f):=by
 rw [zkb];cases o with
 | none=>exact hv.many
 | some u=>
  have:=hv.many;simp only;by_cases hr:f.Repeated=true
  ·rw [xe hr];unfold zgi at this|-;simp only [xE];omega
  ·rw [xd hr];by_cases h17:f.Kind=17
   ·rw [xe h17];obtain ⟨x,hvx,_⟩:=hv.msg h17 (by simpa using hr);obtain ⟨y,huy,_⟩:=(ho u rfl).msg h17 (by simpa using hr);rw [hvx,huy,zia];simp [zgi]
   ·rw [xd h17];exact this
theorem zrg (ha:zcc s a k=true) (hb:zcc s b k=true):zdr (zjm s b a k).Values/\∀n,look (zjm s b a k).Values n=match look b.Values n with
   | some v=>some (zfu s v (look a.Values n) (zT (zx s k) (fldI (zx s k) n)))
   | none=>look a.Values n:=by
 obtain ⟨_,_,ra,ha',_⟩:=zdc ha;obtain ⟨_,_,rb,hb',_⟩:=zdc hb;rw [zka];exact znH ra rb fun v hv=>zpg (zer (hb' v hv).2) fun u hu=>by
  obtain ⟨e,hm⟩:=zeT hu;have:=zer (ha' u hm).2;rw [e] at this;exact this
mutual
/-- Kept or left by ways. -/
def zms (s:List Mes):Msg->Int->List zef->Bool->Msg
 | ⟨vs,u⟩,k,w,keep=>⟨zfk s vs (zx s k) w keep,if keep=true then [] else u⟩
def zfk (s:List Mes):List Vlu->Mes->List zef->Bool->List Vlu
 | [],_,_,_=>[]
 | v::l,m,w,keep=>zpC s v (zT m (fldI m v.Number)) w keep++zfk s l m w keep
def zpC (s:List Mes):Vlu->Fld->List zef->Bool->List Vlu
 | ⟨n,a,t,sub⟩,f,w,keep=>if zji w n=false/\zif w n≠[]/\f.Kind=17/\f.Repeated=false then [⟨n,[],[],zkl s sub f.Of (zif w n) keep⟩]
  else if zji w n=keep then [⟨n,a,t,sub⟩] else []
def zkl (s:List Mes):List Msg->Int->List zef->Bool->List Msg
 | [],_,_,_=>[]
 | x::_,k,w,keep=>[zms s x k w keep]
end
theorem zpA (s:List Mes) (x:Msg) (k:Int) (w:List zef) (keep:Bool):zms s x k w keep=⟨zfk s x.Values (zx s k) w keep,if keep=true then [] else x.Unknown⟩:=by cases x;rw [zms]
theorem zmt (s:List Mes) (v:Vlu) (f:Fld) (w:List zef) (keep:Bool):zpC s v f w keep=if zji w v.Number=false/\zif w v.Number≠[]/\f.Kind=17/\f.Repeated=false then [⟨v.Number,[],[],zkl s v.Subs f.Of (zif w v.Number) keep⟩]
  else if zji w v.Number=keep then [v] else []:=by cases v;rw [zpC]
theorem zwR (s:List Mes) (v:Vlu) (f:Fld) (w:List zef) (keep:Bool):(zpC s v f w keep).length<=1:=by
 rw [zmt];split;simp;split<;>simp
theorem zuK (hv:zgw s v f) (ho:∀u,o=some u->zgw s u f)
  (ih:∀x∈v.Subs,∀y:Msg,zcc s x f.Of=true->zcc s y f.Of=true->zcc s (zjm s x y f.Of) f.Of=true):zgw s (zfu s v o f) f:=by
 have hm:=zpg hv ho;rw [zkb] at hm|-;cases o with
 | none=>exact hv
 | some u=>
  have hu:=ho u rfl;simp only at hm|-;by_cases hr:f.Repeated=true
  ·rw [xe hr] at hm|-;refine ⟨hm,(fun h=>by rw [hr] at h;cases h),hv.kind,fun w hw=>?_,fun w hw=>?_,fun w hw=>?_⟩
   ·rcases xl.1 hw with hw| hw
    ·exact hu.words w hw
    ·exact hv.words w hw
   ·rcases xl.1 hw with hw| hw
    ·exact hu.texts w hw
    ·exact hv.texts w hw
   ·rcases xl.1 hw with hw| hw
    ·exact hu.subs w hw
    ·exact hv.subs w hw
  ·rw [xd hr] at hm|-;by_cases h17:f.Kind=17
   ·rw [xe h17] at hm|-;obtain ⟨x,hvx,hx⟩:=hv.msg h17 (by simpa using hr);obtain ⟨y,huy,hy⟩:=hu.msg h17 (by simpa using hr);have hvs:v.Subs=[x]:=by rw [hvx]
    have hus:u.Subs=[y]:=by rw [huy]
    rw [hvs,hus,zia];refine ⟨by simp [zgi],(fun _=>by simp [zgi]),hv.kind,(fun w hw=>nomatch hw),(fun w hw=>nomatch hw),fun w hw=>?_⟩;rw [xQ.1 hw];exact ⟨h17,ih x (by rw [hvs];exact xf) y hx hy⟩
   ·rw [xd h17] at hm|-;exact hv
theorem znF :∀(N:Nat) (b a:Msg) (k:Int),szM b<=N->zcc s a k=true->zcc s b k=true->zcc s (zjm s b a k) k=true
 | 0,b,a,k,h,_,_=>by rw [zdG] at h;omega
 | N+1,b,a,k,hsz,ha,hb=>by
  obtain ⟨k0,k1,ra,ha',ua⟩:=zdc ha;obtain ⟨_,_,rb,hb',ub⟩:=zdc hb;obtain ⟨j1,j2⟩:=zrg ha hb;rw [zdG] at hsz;refine zrv k0 k1 j1 (fun v hv=>?_) fun u hu=>?_
  ·have hl:=zty j1 hv;rw [j2] at hl;cases hbl:look b.Values v.Number with
   | none=>
    rw [hbl] at hl;simp only at hl;exact ha' v (zeT hl).2
   | some w=>
    rw [hbl] at hl;simp only at hl;obtain ⟨wn,wm⟩:=zeT hbl;obtain ⟨w0,wf⟩:=hb' w wm;rw [wn] at w0 wf;have hfw:=zer wf;have s1:=zfq wm;rw [zie] at s1;refine ⟨w0,zvC ?_⟩;have hvj:zfu s w (look a.Values v.Number) (zT (zx s k) (fldI (zx s k) v.Number))=v:=yi hl;have:=zuK (o:=look a.Values v.Number) hfw (fun u hu=>by
     obtain ⟨un,um⟩:=zeT hu;have:=zer (ha' u um).2;rw [un] at this;exact this) fun x hx y hxr hyr=>by
      have:=zfp hx;exact znF N x y _ (by omega) hyr hxr
    rw [hvj] at this;exact this
  ·rw [zka] at hu;rcases xl.1 hu with hu| hu
   ·exact ua u hu
   ·exact ub u hu
structure zBU (s:List Mes) (d:Nat) (k:Int) (p:List UInt8) (t:Th):Prop where
 ok:zJ s d k p=none
 th:ths (zx s k) p=[t]
theorem pieces {s:List Mes} {d:Nat} {k:Int}:∀{ps:List (List UInt8×Th)},(∀p∈ps,zBU s d k p.1 p.2)->zJ s d k (ps.flatMap (·.1))=none/\ths (zx s k) (ps.flatMap (·.1))=ps.map (·.2)
 | [],_=>by
  have h:=znz s d k;refine ⟨h,?_⟩;rw [List.flatMap_nil,zsG h,zdj];rfl
 | p::ps,h=>by
  obtain ⟨h1,h2⟩:=pieces fun q hq=>h q (xg _ hq)
  have hp:=h p xf;rw [xL];refine ⟨(zgC s d k _ hp.ok).2 h1,?_⟩;rw [zvi hp.ok h1,hp.th,h2];rfl
def wv (a:zxr):Nat:=a.2.2.1.length+(a.2.2.2.1.map fun t=>1+t.length).sum+wgMs a.2.2.2.2+2*a.1.length
def zbc (s:List Mes) (root d:Int):Nat->List (List UInt8)->Option (Nat×Int)
 | _,[]=>none
 | i,x::l=>if (zaw s root x d).2≠0 then some (i,(zaw s root x d).2) else zbc s root d (i+1) l
def zed (s:List Mes) (root:Int) (l:List (List UInt8)) (d:Int):List UInt8×Int×Int:=
 if argS s root d≠0 then ([],0,argS s root d) else match zbc s root d 0 l with
  | some (i,c)=>([],i,c)
  | none=>(l.flatten,0,0)
theorem znM {s:List Mes} (hw:WS s) (root:Int) {l:List (List UInt8)} (hl:l.length<=1048576) (hx:∀x∈l,x.length<=1048576) (d:Int) {ve:Nat} (hf:64<ve):zcw ve s root l d=some (zed s root l d):=by
 unfold zcw zed;rw [zpI hw,sb];by_cases h:argS s root d=0
 ·rw [itF (by simpa using h),xd (by simpa using h)]
  have key:∀(c i:Nat) (out:List UInt8),i+c=l.length->out.length<=1048576*i->zbI ve d l root s out i=some (match zbc s root d i (l.drop i) with
    | some (j,w)=> .inr ((j:Int),w)
    | none=> .inl (out++(l.drop i).flatten)):=by
   intro c
   induction c with
   | zero=>
    intro i out hi ho;have e:l.drop i=[]:=yo (by omega);rw [e,zbc];refine zeP ?_;unfold zaE;rw [py];simp
   | succ c ih=>
    intro i out hi ho;have hil:i<l.length:=by omega
    have hd:l.drop i=l[i]::l.drop (i+1):=xZ hil;have hxi:idx l (i:Int)=some l[i]:=zX rfl hil;have vk:=hx _ (xF hil);rw [hd,zbc]
    generalize l[i]=x at hxi vk|-
    by_cases hc:(zaw s root x d).2=0
    ·rw [xd (by simpa using hc)];refine (zin (out':=out++x) (i':=((i+1:Nat):Int)) ?_).trans ?_
     ·unfold zaE;rw [px,hxi,sb,zlh hw root vk d hf,sb,itF (by simpa using hc),sb,ziQ (by omega),sb,pz];push_cast;rfl
     ·rw [ih (i+1) _ (by omega) (by simp;omega),yG,yx]
    ·rw [xe hc];refine zeP ?_;unfold zaE;rw [px,hxi,sb,zlh hw root vk d hf,sb,itT (by simpa using hc)]
  have h1:=key l.length 0 [] (xy _) (xm _);have h1':zbI ve d l root s [] 0=_:=h1;rw [h1',sb,yp];cases hfb:zbc s root d 0 l with
  | none=>rfl
  | some p=>obtain ⟨i,c⟩:=p;rfl
 ·rw [itT (by simpa using h),xe h]
def ziZ (m:Mes) (a b:List UInt8):Nat:=((zaC m a).1.filter fun t=>decide (0<=t.Field)&&(zaC m b).1.any (fun u=>u.R.Number==t.R.Number)&& !(zT m t.Field).Repeated&&(zT m t.Field).Kind !=17).length
theorem zxt {m:Mes} {b:List UInt8}:∀t∈(zaC m b).1,t.Field= -1\/0<=t.Field/\t.Field<m.Fields.length:=by
 have key:∀(e:Option (Nat×Int)) (l:List Rec),∀t∈(vws m e l).1,t.Field= -1\/0<=t.Field/\t.Field<m.Fields.length:=by
  intro e l
  induction l with
  | nil=>intro t ht;simp [vws] at ht
  | cons r l ih=>
   intro t ht;rw [vws] at ht;rcases zdv m r.Number r.Wire with hv| ⟨hv,_⟩| ⟨i,run,hv,_,hi⟩
   ·rw [hv] at ht;simp at ht
   ·rw [hv] at ht;rcases xj.1 ht with rfl| ht
    ·exact .inl rfl
    ·exact ih t ht
   ·rw [hv] at ht;rcases xj.1 ht with rfl| ht
    ·exact .inr ⟨by simp only;omega,by simp only;omega⟩
    ·exact ih t ht
 intro t ht;unfold zaC vwR at ht;split at ht
 ·exact key _ _ t ht
 ·simp at ht
theorem zqK (m:Mes) (b:List UInt8):(zaC m b).1.length<=b.length:=by
 have h1:=zzk (ths m b);have h2:=zBL m b;unfold ths at h1 h2;rw [List.length_map] at h1;omega
theorem zss {s:List Mes} {k:Nat} (hk:k<s.length) (hfew:(zx s k).Fields.length<=1048576) {a b:List UInt8} (ha:a.length<=1048576) (hb:b.length<=1048576):zcY s k a b=some ((ziZ (zx s k) a b:Nat):Int):=by
 have hm:idx s (k:Int)=some (zx s k):=by rw [zX rfl hk,zdL hk]
 unfold zcY ziZ;rw [hm,sb,znL (by omega) ha,sb,sb,znL (by omega) hb,sb];have hfi:=zxt (m:=zx s (k:Int)) (b:=a);have hla:=zqK (zx s (k:Int)) a;have hlb:=zqK (zx s (k:Int)) b
 generalize zaC (zx s (k:Int)) a=x at hfi hla|-
 generalize zaC (zx s (k:Int)) b=y at hlb|-
 generalize zx s (k:Int)=m at hm hfi|-
 have inner:∀(i:Nat) (t:Vw),idx x.1 (i:Int)=some t->∀(c j:Nat) (met:Bool),j+c=y.1.length->zby i x y met j=some (met|| (y.1.drop j).any (fun u=>u.R.Number==t.R.Number)):=by
  intro i t ht c
  induction c with
  | zero=>
   intro j met hj;have e:y.1.drop j=[]:=yo (by omega);rw [e];refine zhX ?_;unfold zaX;rw [py];simp
  | succ c ih=>
   intro j met hj;have hjl:j<y.1.length:=by omega
   have hd:y.1.drop j=y.1[j]::y.1.drop (j+1):=xZ hjl;have hg:(if met=true then some true else (idx y.1 (j:Int)>>=fun x3=>idx x.1 (i:Int)>>=fun x4=>some (x3.R.Number==x4.R.Number)))=some (met|| (y.1[j].R.Number==t.R.Number)):=by
    cases met
    ·rw [pw,zX rfl hjl,sb,ht,sb];rfl
    ·rw [pv];rfl
   refine (zhW (vm:=met|| (y.1[j].R.Number==t.R.Number)) (k':=((j+1:Nat):Int)) ?_).trans ?_
   ·unfold zaX;rw [px,hg,sb,pz];push_cast;rfl
   ·rw [ih (j+1) _ (by omega),hd,yK,qF]
 have key:∀(c i:Nat) (n:Nat),i+c=x.1.length->n<=i->zbx k x y s n i=some (((n+((x.1.drop i).filter fun t=>decide (0<=t.Field)&&y.1.any (fun u=>u.R.Number==t.R.Number)&& !(zT m t.Field).Repeated&&(zT m t.Field).Kind !=17).length:Nat):Int)):=by
  intro c
  induction c with
  | zero=>
   intro i n hi hn;have e:x.1.drop i=[]:=yo (by omega);rw [e];refine zhV ?_;unfold zaB;rw [py];simp
  | succ c ih=>
   intro i n hi hn;have hil:i<x.1.length:=by omega
   have hd:x.1.drop i=x.1[i]::x.1.drop (i+1):=xZ hil;have hxi:idx x.1 (i:Int)=some x.1[i]:=zX rfl hil;have hfit:=hfi _ (xF hil);rw [hd,List.filter_cons]
   generalize x.1[i]=t at hxi hfit|-
   have hq:=inner i t hxi y.1.length 0 false (xy _);have hq':zby i x y false 0=_:=hq;rw [yp,qG] at hq';have hg:(idx x.1 (i:Int)>>=fun x5=>if decide (x5.Field>=0)=true then (if (y.1.any fun u=>u.R.Number==t.R.Number)=true then (idx s (k:Int)>>=fun x6=>idx x.1 (i:Int)>>=fun x7=>idx x6.Fields x7.Field>>=fun x8=>if (!x8.Repeated)=true then (idx s (k:Int)>>=fun x9=>idx x.1 (i:Int)>>=fun x10=>idx x9.Fields x10.Field>>=fun x11=>some (x11.Kind !=17)) else some false) else some false) else some false)=some (decide (0<=t.Field)&&y.1.any (fun u=>u.R.Number==t.R.Number)&& !(zT m t.Field).Repeated&&(zT m t.Field).Kind !=17):=by
    rw [hxi,sb];rcases hfit with hneg| ⟨h0,h1⟩
    ·rw [py];have:decide (0<=t.Field)=false:=by simp;omega
     rw [this];rfl
    ·rw [itT (by simpa using h0)];have h0':decide (0<=t.Field)=true:=by simpa using h0
     rw [h0'];cases hany:y.1.any (fun u=>u.R.Number==t.R.Number)
     ·rw [pw];rfl
     ·obtain ⟨q,hq⟩:∃q:Nat,t.Field=q:=⟨t.Field.toNat,by omega⟩;have hql:q<m.Fields.length:=by omega
      have hfq:idx m.Fields t.Field=some (zT m t.Field):=by rw [hq,zX rfl hql,zge hql]
      rw [pv,hm,sb,sb,hfq,sb];cases (zT m t.Field).Repeated
      ·rw [pv,sb,sb,hfq,sb];rfl
      ·rw [pw];rfl
   have hw1:i64.wrap ((i:Int)+1)=((i+1:Nat):Int):=by rw [pz];push_cast;rfl
   cases hb:(decide (0<=t.Field)&&y.1.any (fun u=>u.R.Number==t.R.Number)&& !(zT m t.Field).Repeated&&(zT m t.Field).Kind !=17)
   ·refine (zeE (n':=(n:Int)) (i':=((i+1:Nat):Int)) ?_).trans ?_
    ·unfold zaB;rw [px,hq',sb,hg,hb,sb,pw,hw1]
    ·rw [ih (i+1) n (by omega) (by omega),xd (by simp)]
   ·refine (zeE (n':=((n+1:Nat):Int)) (i':=((i+1:Nat):Int)) ?_).trans ?_
    ·unfold zaB;rw [px,hq',sb,hg,hb,sb,pv,hw1,pz];push_cast;rfl
    ·rw [ih (i+1) (n+1) (by omega) (by omega),xe rfl,xx];congr 2;omega
 have h:=key x.1.length 0 0 (xy _) (xi _);have h':zbx k x y s 0 0=_:=h;rw [h',sb,yp,xy]
theorem zsN {s:List Mes} {d:Nat} {k:Int} {b:List UInt8} (h:zJ s d k b=none):zaC (zx s k) b=((spl 0 b).1.map (fun r=>⟨r,(vwG (zx s k) r).1,(vwG (zx s k) r).2⟩),0,0):=by
 rw [zfD,zbU] at h;unfold zaC;rw [h.2,zvp fun r hr=>zwl (h.1 r hr)];rfl
theorem zoE (s:List Mes) (root d:Int):argS s root d=0\/argS s root d=2\/argS s root d=9:=by
 unfold argS;split
 ·omega
 ·split<;>omega
theorem zrT (s:List Mes) (root:Int) (b:List UInt8) (d:Int):0<=(zaw s root b d).2/\(zaw s root b d).2<=9:=by
 unfold zaw;by_cases h:argS s root d=0
 ·rw [xd (by simpa using h)];cases hf:zJ s d.toNat root b with
  | none=>simp
  | some p=>
   have:=zei s d.toNat root b p.1 p.2 hf;simp only [Option.getD_some];omega
 ·rw [xe h];rcases zoE s root d with h| h| h<;>rw [h]<;>simp
theorem zwv (s:List Mes) (d:Nat) (k:Int) {a:List UInt8} (h:zJ s d k a=none):(spl 0 a).2=none:=by
 cases d with
 | zero=>exact (zbU.1 h).2
 | succ d=>exact (zbU.1 h).2
theorem zlR {s:List Mes} {root:Int} {b:List UInt8} {d:Int} (h:argS s root d≠0):(zaw s root b d).2=argS s root d:=by
 unfold zaw;rw [xe h]
theorem zqr {s:List Mes} {root:Int} {b:List UInt8} {d:Int} (h:(zaw s root b d).2=0):argS s root d=0/\zJ s d.toNat root b=none:=ztl.1 (by unfold is11;simpa using h)
theorem zlp {s:List Mes} {root:Int} {b:List UInt8} {d:Int} (h:argS s root d=0) (hf:zJ s d.toNat root b=none):(zaw s root b d).2=0:=by
 have:=(ztl (s:=s) (root:=root) (b:=b) (d:=d)).2 ⟨h,hf⟩;unfold is11 at this;simpa using this
theorem zyV (s:List Mes) (root:Int) (a b:List UInt8) (d:Int):zed s root [a,b] d=if (zaw s root a d).2≠0 then ([],0,(zaw s root a d).2) else if (zaw s root b d).2≠0 then ([],1,(zaw s root b d).2) else (a++b,0,0):=by
 unfold zed;by_cases h:argS s root d=0
 ·by_cases ha:(zaw s root a d).2=0
  ·by_cases hb:(zaw s root b d).2=0
   ·simp [h,zbc,ha,hb]
   ·simp [h,zbc,ha,hb]
  ·simp [h,zbc,ha]
 ·rw [xe h,zlR h,xe h]
theorem zqq (s:List Mes) (root:Int) (b:List UInt8) (d:Int):0<=(zaw s root b d).2/\(zaw s root b d).2<=255:=by
 have:=zrT s root b d;omega
theorem zoD (s:List Mes) (root:Int) (l:List (List UInt8)) (d:Int):0<=(zed s root l d).2.2/\(zed s root l d).2.2<=255:=by
 unfold zed;by_cases h:argS s root d=0
 ·rw [xd (by simpa using h)];have key:∀(l:List (List UInt8)) (i:Nat) (j:Nat) (c:Int),zbc s root d i l=some (j,c)->0<=c/\c<=255:=by
   intro l
   induction l with
   | nil=>intro i j c hh;cases hh
   | cons x l ih=>
    intro i j c hh;rw [zbc] at hh;split at hh
    ·cases hh;exact zqq s root x d
    ·exact ih _ _ _ hh
  cases hb:zbc s root d 0 l with
  | none=>simp
  | some p=>exact key l 0 p.1 p.2 hb
 ·rw [xe h];rcases zoE s root d with h| h| h<;>simp [h]
theorem zrw (hg:∀v u,g v=some u->u.Number=v.Number):∀{l:List Vlu},zdr l->zdr (l.filterMap g)
 | [],_=> .nil
 | v::l,h=>by
  obtain ⟨h1,h2⟩:=xW.1 h;have ih:=zrw hg h2;cases e:g v with
  | none=>rw [List.filterMap_cons_none e];exact ih
  | some u=>
   rw [List.filterMap_cons_some e];refine xW.2 ⟨fun w hw=>?_,ih⟩;obtain ⟨w',hw',e'⟩:=List.mem_filterMap.1 hw;rw [hg _ _ e,hg _ _ e'];exact h1 w' hw'
def goB (m:Mes) (w:List zef) (v:Vlu):Bool:= !zji w v.Number&&decide (zif w v.Number≠[])&&decide ((zT m (fldI m v.Number)).Kind=17)&& !(zT m (fldI m v.Number)).Repeated
theorem zsb :goB m w v=true↔zji w v.Number=false/\zif w v.Number≠[]/\(zT m (fldI m v.Number)).Kind=17/\(zT m (fldI m v.Number)).Repeated=false:=by
 unfold goB;simp only [xh,xM,xr,and_assoc]
def inV (s:List Mes) (m:Mes) (w:List zef) (keep:Bool) (v:Vlu):Vlu:=⟨v.Number,[],[],zkl s v.Subs (zT m (fldI m v.Number)).Of (zif w v.Number) keep⟩
def zpB (s:List Mes) (m:Mes) (w:List zef) (keep:Bool) (v:Vlu):Option Vlu:=if goB m w v=true then some (inV s m w keep v) else if zji w v.Number=keep then some v else none
theorem zro (v u:Vlu) (h:zpB s m w keep v=some u):u.Number=v.Number:=by
 unfold zpB at h;split at h
 ·cases h;rfl
 ·split at h
  ·cases h;rfl
  ·cases h
theorem zrp (s:List Mes) (m:Mes) (w:List zef) (keep:Bool):∀l:List Vlu,zfk s l m w keep=l.filterMap (zpB s m w keep)
 | []=>by rw [zfk];rfl
 | v::l=>by
  rw [zfk,zrp s m w keep l,zmt];by_cases hg:goB m w v=true
  ·rw [xe (zsb.1 hg),List.filterMap_cons_some (b:=inV s m w keep v) (by unfold zpB;rw [xe hg])];rfl
  ·rw [xd (fun h=>hg (zsb.2 h))];by_cases hk:zji w v.Number=keep
   ·rw [xe hk,List.filterMap_cons_some (b:=v) (by unfold zpB;rw [xd hg,xe hk])];rfl
   ·rw [xd hk,List.filterMap_cons_none (by unfold zpB;rw [xd hg,xd hk])];rfl
theorem zzv (hg:goB m w v=true) (hf:zgw s v (zT m (fldI m v.Number))):∃y,v=⟨v.Number,[],[],[y]⟩/\zcc s y (zT m (fldI m v.Number)).Of=true/\∀keep,inV s m w keep v=⟨v.Number,[],[],[zms s y (zT m (fldI m v.Number)).Of (zif w v.Number) keep]⟩:=by
 obtain ⟨_,_,h3,h4⟩:=zsb.1 hg;obtain ⟨y,e,hy⟩:=hf.msg h3 h4;have hs:v.Subs=[y]:=by rw [e]
 refine ⟨y,e,hy,fun keep=>?_⟩;unfold inV;rw [hs,zkl]
theorem zxI (hf:zgw s ⟨n,[],[],[y]⟩ f) (hz:zcc s z f.Of=true):zgw s ⟨k,[],[],[z]⟩ f:=
 ⟨by simp [zgi],(fun _=>by simp [zgi]),hf.kind,(fun w hw=>nomatch hw),(fun w hw=>nomatch hw),fun w hw=>by rw [xQ.1 hw];exact ⟨(hf.subs y xf).1,hz⟩⟩
theorem zBK (hv:v∈x.Values) (e:v=⟨v.Number,[],[],[y]⟩):szM y<szM x:=by
 have s1:=zfq hv;rw [zie] at s1;have hs:v.Subs=[y]:=by rw [e]
 have s2:szM y<=szMs v.Subs:=zfp (by rw [hs];exact xf);rw [zdG x];omega
theorem znK :∀(N:Nat) (x:Msg) (k:Int) (w:List zef) (keep:Bool),szM x<=N->zcc s x k=true->zcc s (zms s x k w keep) k=true
 | 0,x,k,w,keep,h,_=>by rw [zdG] at h;omega
 | N+1,x,k,w,keep,hsz,hx=>by
  obtain ⟨k0,k1,rx,hx',ux⟩:=zdc hx;rw [zpA,zrp];refine zrv k0 k1 (zrw zro rx) (fun v hv=>?_) fun u hu=>?_
  ·obtain ⟨v0,hv0,e⟩:=List.mem_filterMap.1 hv;obtain ⟨w0,wf⟩:=hx' v0 hv0;have hn:=zro _ _ e;unfold zpB at e;by_cases hg:goB (zx s k) w v0=true
   ·rw [xe hg] at e;have hf:=zer wf;obtain ⟨y,e1,hy,hin⟩:=zzv hg hf;rw [hin] at e;have hsy:=zBK hv0 e1;rw [hn];refine ⟨w0,zvC ?_⟩;rw [<-yi e];rw [e1] at hf;exact zxI hf (znK N y _ _ _ (by omega) hy)
   ·rw [xd hg] at e;by_cases hk:zji w v0.Number=keep
    ·rw [xe hk] at e;rw [<-yi e];exact ⟨w0,wf⟩
    ·rw [xd hk] at e;cases e
  ·cases keep with
   | true=>exact absurd hu (by simp)
   | false=>exact ux u hu
theorem zph (s:List Mes) (a:Msg) (m:Mes):∀(l vg:List Vlu),(zfG s l a m vg).length<=vg.length+l.length
 | [],vg=>by rw [zfG];simp
 | v::l,vg=>by
  rw [zfG];have h1:=zph s a m l (putM ⟨vg,[]⟩ (zfu s v (look a.Values v.Number) (zT m (fldI m v.Number)))).Values;have h2:=zyx vg [] (zfu s v (look a.Values v.Number) (zT m (fldI m v.Number)));simp only [xx];omega
theorem zvM :∀(N:Nat) (b a:Msg) (k:Int),szM b<=N->zcc s a k=true->zcc s b k=true->bdM a->bdM b->smM a->smM b->bdM (zjm s b a k)
 | 0,b,a,k,h,_,_,_,_,_,_=>by rw [zdG] at h;omega
 | N+1,b,a,k,hsz,ha,hb,ba,bb,sa,sb'=>by
  obtain ⟨_,_,ra,ha',_⟩:=zdc ha;obtain ⟨_,_,rb,hb',_⟩:=zdc hb;obtain ⟨j1,j2⟩:=zrg ha hb;obtain ⟨a1,⟨a2,a3⟩,a4⟩:=(zoF a).1 ba;obtain ⟨b1,⟨b2,b3⟩,b4⟩:=(zoF b).1 bb;obtain ⟨sa1,⟨sa2,sa3⟩,sa4⟩:=(zvd a).1 sa;obtain ⟨sb1,⟨sb2,sb3⟩,sb4⟩:=(zvd b).1 sb';rw [zdG] at hsz;have vk:(zjm s b a k).Values.length<=a.Values.length+b.Values.length:=by rw [zka];exact zph s a _ _ _
  have hun:(zjm s b a k).Unknown=a.Unknown++b.Unknown:=by rw [zka]
  refine (zoF _).2 ⟨by omega,⟨by rw [hun];simp;omega,fun t ht=>by
   rw [hun] at ht;rcases xl.1 ht with h| h
   ·exact a3 t h
   ·exact b3 t h⟩,zgP.2 fun x hx=>?_⟩
  have hl:=zty j1 hx;rw [j2] at hl;cases hlb:look b.Values x.Number with
  | none=>rw [hlb] at hl;exact zgP.1 a4 x (zeT hl).2
  | some v=>
   rw [hlb] at hl;have e:x=zfu s v (look a.Values x.Number) (zT (zx s k) (fldI (zx s k) x.Number)):=(yi hl).symm;obtain ⟨hvn,hvm⟩:=zeT hlb;have bv:=zgP.1 b4 v hvm;have sv:=zmM.1 sb4 v hvm;rw [e,zkb];cases hla:look a.Values x.Number with
   | none=>exact bv
   | some u=>
    obtain ⟨hun',hum⟩:=zeT hla;have bu:=zgP.1 a4 u hum;have su:=zmM.1 sa4 u hum;obtain ⟨v1,⟨v2,v3⟩,⟨v4,v5⟩,v6,v7⟩:=(zln v).1 bv;obtain ⟨u1,⟨u2,u3⟩,⟨u4,u5⟩,u6,u7⟩:=(zln u).1 bu;obtain ⟨q1,⟨q2,q3⟩,q4,q5⟩:=(zve v).1 sv;obtain ⟨r1,⟨r2,r3⟩,r4,r5⟩:=(zve u).1 su;simp only;split
    ·refine (zln _).2 ⟨v1,⟨by simp;omega,fun w hw=>?_⟩,⟨by simp;omega,fun w hw=>?_⟩,by simp;omega,zgO.2 fun w hw=>?_⟩
     ·rcases xl.1 hw with h| h
      ·exact u3 w h
      ·exact v3 w h
     ·rcases xl.1 hw with h| h
      ·exact u5 w h
      ·exact v5 w h
     ·rcases xl.1 hw with h| h
      ·exact zgO.1 u7 w h
      ·exact zgO.1 v7 w h
    ·split
     ·rename_i hrep h17;have fv:=hb' v hvm;have fu:=ha' u hum;rw [hvn] at fv;rw [hun'] at fu;have ov:=zer fv.2;have ou:=zer fu.2;refine (zln _).2 ⟨v1,⟨by simp,by simp⟩,⟨by simp,by simp⟩,?_⟩;cases hvs:v.Subs with
      | nil=>rw [zia];exact ⟨by simp,by rw [bdMs];trivial⟩
      | cons y ys=>
       cases hus:u.Subs with
       | nil=>rw [zia];exact ⟨by simp,by rw [bdMs];trivial⟩
       | cons z zs=>
        rw [zia];simp only;have hy:y∈v.Subs:=by rw [hvs];exact xf
        have hz:z∈u.Subs:=by rw [hus];exact xf
        have hsv:=zfq hvm;rw [zie] at hsv;have hsy:=zfp hy;have hj:=zvM N y z _ (by omega) (ou.subs z hz).2 (ov.subs y hy).2 (zgO.1 u7 z hz) (zgO.1 v7 y hy) (zmL.1 r5 z hz) (zmL.1 q5 y hy);exact ⟨by simp,by rw [bdMs,bdMs];exact ⟨hj,trivial⟩⟩
     ·exact bv
theorem znP:∀(l m:List Vlu),szVs (l++m)=szVs l+szVs m
 | [],m=>by rw [xV,szVs];omega
 | v::l,m=>by rw [xP,szVs,szVs,znP l m];omega
theorem zwg :∀(N:Nat) (x:Msg) (k:Int) (w:List zef) (keep:Bool),szM x<=N->bdM x->bdM (zms s x k w keep)/\szM (zms s x k w keep)<=szM x
 | 0,x,k,w,keep,h,_=>by rw [zdG] at h;omega
 | N+1,x,k,w,keep,hsz,hb=>by
  obtain ⟨b1,⟨b2,b3⟩,b4⟩:=(zoF x).1 hb;rw [zdG] at hsz;have key:∀v∈x.Values,∀f:Fld,(∀u∈zpC s v f w keep,bdV u)/\szVs (zpC s v f w keep)<=szV v:=fun v hv f=>by
   have bv:=zgP.1 b4 v hv;obtain ⟨v1,v2,v3,v6,v7⟩:=(zln v).1 bv;have hsv:=zfq hv;have hve:=zie v;rw [zmt];split
   ·cases hs:v.Subs with
    | nil=>
     rw [zkl];refine ⟨fun u hu=>?_,?_⟩
     ·rw [xQ.1 hu];exact (zln _).2 ⟨v1,⟨by simp,by simp⟩,⟨by simp,by simp⟩,by simp,by rw [bdMs];trivial⟩
     ·rw [szVs,szVs,zie];simp only;rw [szMs];omega
    | cons y ys=>
     have hy:y∈v.Subs:=by rw [hs];exact xf
     have hsy:=zfp hy;obtain ⟨p1,p2⟩:=zwg N y f.Of (zif w v.Number) keep (by omega) (zgO.1 v7 y hy);rw [zkl];refine ⟨fun u hu=>?_,?_⟩
     ·rw [xQ.1 hu];exact (zln _).2 ⟨v1,⟨by simp,by simp⟩,⟨by simp,by simp⟩,by simp,by rw [bdMs,bdMs];exact ⟨p1,trivial⟩⟩
     ·rw [szVs,szVs,zie];simp only;rw [szMs,szMs];omega
   ·split
    ·refine ⟨(fun u hu=>by rw [xQ.1 hu];exact bv),?_⟩;rw [szVs,szVs];omega
    ·exact ⟨(fun u hu=>by cases hu),(by rw [szVs];omega)⟩
  have all:∀l:List Vlu,(∀v∈l,v∈x.Values)->(∀u∈zfk s l (zx s k) w keep,bdV u)/\szVs (zfk s l (zx s k) w keep)<=szVs l/\(zfk s l (zx s k) w keep).length<=l.length:=by
   intro l
   induction l with
   | nil=>intro _;rw [zfk];exact ⟨(fun u hu=>by cases hu),xi _,xi _⟩
   | cons v l ih=>
    intro h;obtain ⟨i1,i2,i3⟩:=ih fun u hu=>h u (xg _ hu)
    obtain ⟨k1,k2⟩:=key v (h v xf) (zT (zx s k) (fldI (zx s k) v.Number));have k3:=zwR s v (zT (zx s k) (fldI (zx s k) v.Number)) w keep;rw [zfk];refine ⟨fun u hu=>?_,?_,?_⟩
    ·rcases xl.1 hu with hu| hu
     ·exact k1 u hu
     ·exact i1 u hu
    ·rw [znP,szVs];omega
    ·rw [xE,xx];omega
  obtain ⟨a1,a2,a3⟩:=all x.Values fun v hv=>hv
  rw [zpA];refine ⟨(zoF _).2 ⟨by simp only;omega,⟨?_,?_⟩,zgP.2 a1⟩,by rw [zdG,zdG];simp only;omega⟩
  ·simp only;cases keep<;>simp<;>omega
  ·simp only;cases keep with
   | true=>intro t ht;cases ht
   | false=>exact b3
theorem zAP:∀(N:Nat) (x:Msg),szM x<=N->szM x<=wgM x
 | 0,x,h=>by rw [zdG] at h;omega
 | N+1,x,h=>by
  rw [zdG] at h;have hv:∀v∈x.Values,szV v<=wgV v:=fun v hv=>by
   have h1:=zfq hv;have he:=zie v;have:∀l:List Msg,(∀y∈l,y∈v.Subs)->szMs l<=wgMs l:=by
    intro l
    induction l with
    | nil=>intro _;rw [szMs];omega
    | cons y l ih=>
     intro hl;have hy:=hl y xf;have h2:=zfp hy;have:=zAP N y (by omega);have:=ih fun z hz=>hl z (xg _ hz)
     rw [szMs,wgMs];omega
   have:=this v.Subs fun y hy=>hy
   rw [he,zig];omega
  have:∀l:List Vlu,(∀v∈l,v∈x.Values)->szVs l<=wgVs l:=by
   intro l
   induction l with
   | nil=>intro _;rw [szVs];omega
   | cons v l ih=>
    intro hl;have:=hv v (hl v xf);have:=ih fun z hz=>hl z (xg _ hz)
    rw [szVs,wgVs];omega
  have:=this x.Values fun v hv=>hv
  rw [zdG,zkA];omega
theorem zAO:∀(N:Nat) (x:Msg),szM x<=N->wgM x<=1048576->smM x
 | 0,x,h,_=>by rw [zdG] at h;omega
 | N+1,x,h,hw=>by
  rw [zdG] at h;rw [zkA] at hw;have hl:=zum x.Values;have hu:=zsB (l:=x.Unknown);refine (zvd _).2 ⟨by omega,⟨by omega,fun t ht=>by have:=zsC ht;omega⟩,zmM.2 fun v hv=>?_⟩;have h1:=zfq hv;have h2:=zun hv;rw [zie] at h1;rw [zig] at h2;have ht:=zsB (l:=v.Texts);have hs:=zul v.Subs;refine (zve _).2 ⟨by omega,⟨by omega,fun t ht=>by have:=zsC ht;omega⟩,by omega,zmL.2 fun y hy=>?_⟩;have h3:=zfp hy;have h4:=zkB hy;exact zAO N y (by omega) (by omega)
theorem zmQ:∀(l m:List Vlu),wgVs (l++m)=wgVs l+wgVs m
 | [],m=>by rw [xV,wgVs];omega
 | v::l,m=>by rw [xP,wgVs,wgVs,zmQ l m];omega
theorem zuk:∀(l m:List Msg),wgMs (l++m)=wgMs l+wgMs m
 | [],m=>by rw [xV,wgMs];omega
 | v::l,m=>by rw [xP,wgMs,wgMs,zuk l m];omega
def wgO:Option Vlu->Nat
 | none=>0
 | some u=>wgV u
theorem zyy (v:Vlu):∀(d:Bool) (l:List Vlu),zdr l->wgVs (putL v d l)+wgO (look l v.Number)<=wgVs l+(if d=true then 0 else wgV v)
 | d,[],_=>by
  rw [putL];cases d
  ·show wgVs [v]+0<=_;simp [wgVs]
  ·show wgVs []+0<=_;simp
 | d,u::l,h=>by
  obtain ⟨h1,h2⟩:=xW.1 h;have ih:=zyy v (d|| decide (v.Number<=u.Number)) l h2;rw [putL,zmQ,zmQ,zet,wgVs];by_cases he:u.Number=v.Number
  ·rw [xe he,xe he];have hn:look l v.Number=none:=zvS fun x hx=>by have:=h1 x hx;omega
   rw [hn] at ih;have hle:decide (v.Number<=u.Number)=true:=by simp;omega
   rw [hle,qf,xe rfl] at ih;simp only [wgO,wgVs,hle,qf] at ih|-;cases d
   ·rw [xe ⟨rfl,by omega⟩,wgVs,wgVs];simp;omega
   ·rw [xd (by simp),wgVs];simp;omega
  ·rw [xd he,xd he,wgVs,wgVs];cases d
   ·by_cases hv:v.Number<=u.Number
    ·rw [xe ⟨rfl,hv⟩,wgVs,wgVs];simp only [hv,decide_true,qf,yb,qK,xU] at ih|-;omega
    ·rw [xd (fun hh=>hv hh.2),wgVs];simp only [hv,decide_false,ql,qK,xU] at ih|-;omega
   ·rw [xd (by simp),wgVs];simp only [Bool.true_or,yb] at ih|-;omega
theorem zrc :∀(l vg:List Vlu),zdr l->zdr vg->(∀v∈l,look vg v.Number=look a.Values v.Number)->(∀v∈l,wgV (zfu s v (look a.Values v.Number) (zT m (fldI m v.Number)))<=wgV v+wgO (look a.Values v.Number))->wgVs (zfG s l a m vg)<=wgVs vg+wgVs l
 | [],vg,_,_,_,_=>by rw [zfG];omega
 | v::l,vg,hl,ha,he,hw=>by
  obtain ⟨l1,l2⟩:=xW.1 hl;have hv:=he v xf;have hwv:=hw v xf;have hn:=zrb s v (look a.Values v.Number) (zT m (fldI m v.Number));rw [zfG]
  generalize zfu s v (look a.Values v.Number) (zT m (fldI m v.Number))=v' at hn hwv|-
  have hp:=zyy v' (decide (zgi v'=0)) vg ha;have ih:=zrc (s:=s) (a:=a) (m:=m) l (putM ⟨vg,[]⟩ v').Values l2 (zkp ha) (fun u hu=>by
   show look (putL v' _ vg) u.Number=_;have:=l1 u hu;rw [zpn ha,xd (by omega)];exact he u (xg _ hu)) (fun u hu=>hw u (xg _ hu))
  have hq:wgVs (putM ⟨vg,[]⟩ v').Values=wgVs (putL v' (decide (zgi v'=0)) vg):=rfl;rw [hn,hv] at hp;rw [wgVs];split at hp<;>omega
theorem zvN :∀(N:Nat) (b a:Msg) (k:Int),szM b<=N->zcc s a k=true->zcc s b k=true->wgM (zjm s b a k)<=wgM a+wgM b
 | 0,b,a,k,h,_,_=>by rw [zdG] at h;omega
 | N+1,b,a,k,hsz,ha,hb=>by
  obtain ⟨_,_,ra,ha',_⟩:=zdc ha;obtain ⟨_,_,rb,hb',_⟩:=zdc hb;rw [zdG] at hsz;have:=zrc (s:=s) (a:=a) (m:=zx s k) b.Values a.Values rb ra (fun _ _=>rfl) fun v hv=>by
   rw [zkb];cases hla:look a.Values v.Number with
   | none=>simp only [wgO];omega
   | some u=>
    obtain ⟨hun,hum⟩:=zeT hla;have hve:=zig v;have hue:=zig u;simp only [wgO];split
    ·rw [zig];simp only [xE,yS,List.sum_append,zuk];omega
    ·split
     ·rename_i hrep h17;have ov:=zer (hb' v hv).2;have ou:=zer (ha' u hum).2;rw [hun] at ou;have hsv:=zfq hv;rw [zie] at hsv;rw [zig];simp only [yL,yT,List.sum_nil];cases hvs:v.Subs with
      | nil=>rw [zia,wgMs];omega
      | cons y ys=>
       cases hus:u.Subs with
       | nil=>rw [zia,wgMs];omega
       | cons z zs=>
        rw [zia];have hy:y∈v.Subs:=by rw [hvs];exact xf
        have hz:z∈u.Subs:=by rw [hus];exact xf
        have hsy:=zfp hy;have hj:=zvN N y z _ (by omega) (ou.subs z hz).2 (ov.subs y hy).2;have w1:=zkB hy;have w2:=zkB hz;rw [wgMs,wgMs];omega
     ·omega
  rw [zka,zkA,zkA,zkA];simp only [yS,List.sum_append];omega
theorem zwh :∀(N:Nat) (x:Msg) (k:Int) (w:List zef) (keep:Bool),szM x<=N->wgM (zms s x k w keep)<=wgM x
 | 0,x,k,w,keep,h=>by rw [zdG] at h;omega
 | N+1,x,k,w,keep,hsz=>by
  rw [zdG] at hsz;have key:∀v∈x.Values,∀f:Fld,wgVs (zpC s v f w keep)<=wgV v:=fun v hv f=>by
   have hsv:=zfq hv;rw [zie] at hsv;have hve:=zig v;rw [zmt];split
   ·cases hs:v.Subs with
    | nil=>
     rw [zkl,wgVs,wgVs,zig];simp only [yL,yT,List.sum_nil];rw [wgMs];omega
    | cons y ys=>
     have hy:y∈v.Subs:=by rw [hs];exact xf
     have hsy:=zfp hy;have hwy:=zkB hy;have:=zwh (s:=s) N y f.Of (zif w v.Number) keep (by omega);rw [zkl,wgVs,wgVs,zig];simp only [yL,yT,List.sum_nil];rw [wgMs,wgMs];omega
   ·split
    ·rw [wgVs,wgVs];omega
    ·rw [wgVs];omega
  have all:∀l:List Vlu,(∀v∈l,v∈x.Values)->wgVs (zfk s l (zx s k) w keep)<=wgVs l:=by
   intro l
   induction l with
   | nil=>intro _;rw [zfk];exact xi _
   | cons v l ih=>
    intro h;have i2:=ih fun u hu=>h u (xg _ hu)
    have k2:=key v (h v xf) (zT (zx s k) (fldI (zx s k) v.Number));rw [zfk,zmQ,wgVs];omega
  have:=all x.Values fun v hv=>hv
  rw [zpA,zkA,zkA];simp only;cases keep<;>simp<;>omega
structure Gd (s:List Mes) (root:Int) (n:Nat) (x:Msg):Prop where
 r:zcc s x root=true
 b:bdM x
 w:wgM x<=n
theorem Gd.s {s:List Mes} {root:Int} {n:Nat} {x:Msg} (h:Gd s root n x) (hn:n<=1048576):smM x:=zAO _ x (xi _) (ye h.w hn)
theorem Gd.z {s:List Mes} {root:Int} {n ve:Nat} {x:Msg} (h:Gd s root n x) (hn:n<ve):szM x<ve:=Nat.lt_of_le_of_lt (ye (zAP _ x (xi _)) h.w) hn
theorem Gd.join {s:List Mes} {root:Int} {n m:Nat} {a b:Msg} (ha:Gd s root n a) (hb:Gd s root m b) (hn:n<=1048576) (hm:m<=1048576):Gd s root (n+m) (zjm s b a root):=
 ⟨znF _ b a root (xi _) ha.r hb.r,zvM _ b a root (xi _) ha.r hb.r ha.b hb.b (ha.s hn) (hb.s hm),ye (zvN _ b a root (xi _) ha.r hb.r) (Nat.add_le_add ha.w hb.w)⟩
theorem Gd.part {s:List Mes} {root:Int} {n:Nat} {a:Msg} (ha:Gd s root n a) (w:List zef) (keep:Bool):Gd s root n (zms s a root w keep):=
 ⟨znK _ a root w keep (xi _) ha.r,(zwg _ a root w keep (xi _) ha.b).1,ye (zwh _ a root w keep (xi _)) ha.w⟩
theorem zzV:∀a<256,zmN ((a:Nat):Int)=some (if a<128 then (1,(a:Int)) else if a/32=6 then (2,((a%32:Nat):Int)) else if a/16=14 then (3,((a%16:Nat):Int)) else if a/8=30 then (4,((a%8:Nat):Int)) else (0,0)):=by decide+kernel
theorem zsy (w k:Nat) (h:k<=32):shrI .u32 (w:Int) (k:Int)=((w/2^k:Nat):Int):=zpT (k:= .u32) (a:=w) (b:=k) (by simpa [IntKind.bits] using h)
theorem zoo (w:Nat):ziK (w:Int)=some (if w<128 then 1 else if w<2048 then 2 else if 55296<=w/\w<=57343 then 0 else if w<65536 then 3 else if w<=1114111 then 4 else 0):=by
 unfold ziK;have e7:shrI .u32 (w:Int) 7=((w/128:Nat):Int):=zsy w 7 (by omega);have e11:shrI .u32 (w:Int) 11=((w/2048:Nat):Int):=zsy w 11 (by omega);have e16:shrI .u32 (w:Int) 16=((w/65536:Nat):Int):=zsy w 16 (by omega);rw [e7,e11,e16];by_cases h1:w<128
 ·rw [px,xe h1]
 ·rw [py,xd h1];by_cases h2:w<2048
  ·rw [px,xe h2]
  ·rw [py,xd h2];by_cases h3:55296<=w/\w<=57343
   ·rw [px,xe h3]
   ·rw [py,xd h3];by_cases h4:w<65536
    ·rw [px,xe h4]
    ·rw [py,xd h4];by_cases h5:w<=1114111
     ·rw [px,xe h5]
     ·rw [py,xd h5]
theorem zwH:∀c<256,shrI .u8 ((c:Nat):Int) 6=((c/64:Nat):Int)/\u32.wrap (andI .u8 ((c:Nat):Int) 63)=((c%64:Nat):Int):=by decide+kernel
theorem zgK {v:List UInt8} {w i:Nat} (h:i<v.length) (hv:v.length<=1000) (hw:w<=1000000):
  zbj v w i=if cont v[i] then zbj v ((64*w+v[i].toNat%64:Nat):Int) ((i+1:Nat):Int) else some (.inr ()):=by
 have hc:=v[i].toNat_lt;obtain ⟨e1,e2⟩:=zwH v[i].toNat (by omega);have hb:zdy v w i=if cont v[i] then some (.inl (((64*w+v[i].toNat%64:Nat):Int),((i+1:Nat):Int))) else some (.inr (.inr ())):=by
  unfold zdy;rw [px,zX rfl h,sb,e1,e2];by_cases hk:cont v[i]=true
  ·rw [xe hk];unfold cont at hk;simp only [xr] at hk;rw [py,pz];have e3:shlI .u32 (w:Int) 6=((w*64:Nat):Int):=by
    have:shlI .u32 (w:Int) 6=((w*64%4294967296:Nat):Int):=by simp [shlI,IntKind.bits,zur]
    rw [this,qP (by omega)]
   rw [e3,zwf rfl (by simp [IntKind.bits];omega) (by simp [IntKind.bits];omega),Nat.or_comm,ztD _ w 6 (by omega)];have e4:v[i].toNat%64+w*2^6=64*w+v[i].toNat%64:=by omega
   rw [e4];rfl
  ·rw [xd hk];unfold cont at hk;simp only [xr] at hk;rw [px]
 by_cases hk:cont v[i]=true
 ·rw [xe hk] at hb|-;exact znZ hb
 ·rw [xd hk] at hb|-;exact zjq hb
theorem zmg (h:v.length<=i):zbj v w i=some (.inl (w:Int)):=by
 refine zjq ?_;unfold zdy;rw [py]
theorem zCi {w:Nat} {b:UInt8} (hw:w<=100):zbj [b] w 0=if cont b then some (.inl ((64*w+b.toNat%64:Nat):Int)) else some (.inr ()):=by
 have h:=zgK (v:=[b]) (w:=w) (i:=0) (by simp) (by simp) (by omega);refine Eq.trans h ?_;simp only [pn];rw [zmg (by simp)]
theorem zCj {w:Nat} {b c:UInt8} (hw:w<=100):zbj [b,c] w 0=if cont b then (if cont c then some (.inl ((64*(64*w+b.toNat%64)+c.toNat%64:Nat):Int)) else some (.inr ())) else some (.inr ()):=by
 have h:=zgK (v:=[b,c]) (w:=w) (i:=0) (by simp) (by simp) (by omega);refine Eq.trans h ?_;rw [zgK (i:=0+1) (by simp) (by simp) (by omega)];simp only [pn,qJ,xy];rw [zmg (by simp)]
theorem zCk {w:Nat} {b c d:UInt8} (hw:w<=100):zbj [b,c,d] w 0=if cont b then (if cont c then (if cont d then some (.inl ((64*(64*(64*w+b.toNat%64)+c.toNat%64)+d.toNat%64:Nat):Int)) else some (.inr ())) else some (.inr ())) else some (.inr ()):=by
 have h:=zgK (v:=[b,c,d]) (w:=w) (i:=0) (by simp) (by simp) (by omega);refine Eq.trans h ?_;rw [zgK (i:=0+1) (by simp) (by simp) (by omega),zgK (i:=0+1+1) (by simp) (by simp) (by omega)];simp only [pn,qJ,xy];rw [zmg (by simp)]
theorem zyr (n:Nat) (h:∀m,m≠n->isN m l=false):nxt l=if isN n l then n else 0:=by
 by_cases hn:isN n l=true
 ·rw [xe hn,zBy hn]
 ·rw [xd hn];by_cases h0:nxt l=0
  ·exact h0
  ·have h1:=zoq h0;by_cases h2:nxt l=n
   ·rw [h2] at h1;exact absurd h1 hn
   ·rw [h _ h2] at h1;cases h1
theorem zix (n:Nat) (h:n=1/\a.toNat<128\/n=2/\192<=a.toNat/\a.toNat<224\/n=3/\224<=a.toNat/\a.toNat<240\/n=4/\240<=a.toNat):nxt (a::t)=if isN n (a::t) then n else 0:=by
 refine zyr n fun m hm=>?_
 cases hh:isN m (a::t) with
 | false=>rfl
 | true=>
  obtain ⟨a',t',e,_,g⟩:=zgT hh;cases e;omega
theorem zvQ (b:List UInt8):ziJ b=some ((nxt b:Nat):Int):=by
 cases b with
 | nil=>rfl
 | cons a t=>
  have ha:=a.toNat_lt;unfold ziJ;have e00:idx (a::t) (0:Int)=some a:=zX (n:=0) rfl (by simp);rw [py,e00,sb];rw [zzV _ (by omega),sb];by_cases h1:a.toNat<128
  ·rw [zix 1 (.inl ⟨rfl,h1⟩),xe h1];simp only;rw [py,zgr (i:=1) (j:=1) (a:=1) (b:=1) rfl rfl (by omega) (by simp),sb];have e0:zbj (((a::t).drop 1).take (1 - 1)) (a.toNat:Int) 0=some (.inl (a.toNat:Int)):=zmg (i:=0) (by simp);rw [e0,sb];simp only;rw [zoo,sb,xe h1,pw];simp [isN,is1,h1]
  ·rw [xd h1];by_cases h2:a.toNat/32=6
   ·rw [zix 2 (.inr (.inl ⟨rfl,by omega,by omega⟩)),xe h2];simp only
    match t with
    | []=>rw [itT (by simp)];rfl
    | b::t=>
     rw [py,zgr (i:=1) (j:=2) (a:=1) (b:=2) rfl rfl (by omega) (by simp),sb];have e0:=zCi (w:=a.toNat%32) (b:=b) (by omega);have e0':zbj (((a::b::t).drop 1).take (2 - 1)) ((a.toNat%32:Nat):Int) 0=_:=e0;rw [e0'];have hb:=b.toNat_lt;by_cases c1:cont b=true
     ·rw [xe c1,sb];simp only;have hn:=zoo (64*(a.toNat%32)+b.toNat%64);simp only [isN,is2,c1,qi,xr];simp only [cont,xr] at c1;by_cases h:194<=a.toNat
      ·rw [xd (by omega),xe (by omega)] at hn;rw [hn,sb,pw,xe (by omega)];rfl
      ·rw [xe (by omega)] at hn;rw [hn,sb,pv,xd (by omega)];rfl
     ·rw [xd c1,sb];simp only;simp [isN,is2,c1]
   ·rw [xd h2];by_cases h3:a.toNat/16=14
    ·rw [zix 3 (.inr (.inr (.inl ⟨rfl,by omega,by omega⟩))),xe h3];simp only
     match t with
     | []=>rw [itT (by simp)];rfl
     | [b]=>rw [itT (by simp)];rfl
     | b::c::t=>
      rw [py,zgr (i:=1) (j:=3) (a:=1) (b:=3) rfl rfl (by omega) (by simp),sb];have e0:=zCj (w:=a.toNat%16) (b:=b) (c:=c) (by omega);have e0':zbj (((a::b::c::t).drop 1).take (3 - 1)) ((a.toNat%16:Nat):Int) 0=_:=e0;rw [e0'];have hb:=b.toNat_lt;have hc:=c.toNat_lt;by_cases c1:cont b=true
      ·rw [xe c1];by_cases c2:cont c=true
       ·rw [xe c2,sb];simp only;have hn:=zoo (64*(64*(a.toNat%16)+b.toNat%64)+c.toNat%64);simp only [isN,is3,c1,c2,qk,xr];simp only [cont,xr] at c1 c2;by_cases h:(a.toNat=224->160<=b.toNat)/\(a.toNat=237->b.toNat<160)
        ·rw [xd (by omega),xd (by omega),xd (by omega),xe (by omega)] at hn;rw [hn,sb,pw,xe (by omega)];rfl
        ·by_cases g:64*(64*(a.toNat%16)+b.toNat%64)+c.toNat%64<2048
         ·by_cases g':64*(64*(a.toNat%16)+b.toNat%64)+c.toNat%64<128
          ·rw [xe g'] at hn;rw [hn,sb,pv,xd (by omega)];rfl
          ·rw [xd g',xe g] at hn;rw [hn,sb,pv,xd (by omega)];rfl
         ·rw [xd (by omega),xd g,xe (by omega)] at hn;rw [hn,sb,pv,xd (by omega)];rfl
       ·rw [xd c2,sb];simp only;simp [isN,is3,c2]
      ·rw [xd c1,sb];simp only;simp [isN,is3,c1]
    ·rw [xd h3];by_cases h4:a.toNat/8=30
     ·rw [zix 4 (.inr (.inr (.inr ⟨rfl,by omega⟩))),xe h4];simp only
      match t with
      | []=>rw [itT (by simp)];rfl
      | [b]=>rw [itT (by simp)];rfl
      | [b,c]=>rw [itT (by simp)];rfl
      | b::c::d::t=>
       rw [py,zgr (i:=1) (j:=4) (a:=1) (b:=4) rfl rfl (by omega) (by simp),sb];have e0:=zCk (w:=a.toNat%8) (b:=b) (c:=c) (d:=d) (by omega);have e0':zbj (((a::b::c::d::t).drop 1).take (4 - 1)) ((a.toNat%8:Nat):Int) 0=_:=e0;rw [e0'];have hb:=b.toNat_lt;have hc:=c.toNat_lt;have hd:=d.toNat_lt;by_cases c1:cont b=true
       ·rw [xe c1];by_cases c2:cont c=true
        ·rw [xe c2];by_cases c3:cont d=true
         ·rw [xe c3,sb];simp only;have hn:=zoo (64*(64*(64*(a.toNat%8)+b.toNat%64)+c.toNat%64)+d.toNat%64);simp only [isN,is4,c1,c2,c3,qk,xr];simp only [cont,xr] at c1 c2 c3;by_cases h:a.toNat<245/\(a.toNat=240->144<=b.toNat)/\(a.toNat=244->b.toNat<144)
          ·rw [xd (by omega),xd (by omega),xd (by omega),xd (by omega),xe (by omega)] at hn;rw [hn,sb,pw,xe (by omega)];rfl
          ·have hw:¬(65536<=64*(64*(64*(a.toNat%8)+b.toNat%64)+c.toNat%64)+d.toNat%64/\64*(64*(64*(a.toNat%8)+b.toNat%64)+c.toNat%64)+d.toNat%64<=1114111):=by omega
           generalize 64*(64*(64*(a.toNat%8)+b.toNat%64)+c.toNat%64)+d.toNat%64=w at hn hw
           have hx:∃x:Int,ziK w=some x/\x≠4:=⟨_,hn,by (repeat' split)<;>omega⟩;obtain ⟨x,hx,h4⟩:=hx;rw [hx,sb,px,xd (by omega)];rfl
         ·rw [xd c3,sb];simp only;simp [isN,is4,c3]
        ·rw [xd c2,sb];simp only;simp [isN,is4,c2]
       ·rw [xd c1,sb];simp only;simp [isN,is4,c1]
     ·rw [xd h4,pv];by_cases h5:240<=a.toNat
      ·rw [zix 4 (.inr (.inr (.inr ⟨rfl,h5⟩)))];cases hh:isN 4 (a::t) with
       | false=>rfl
       | true=>
        match t,hh with
        | b::c::d::t,hh=>simp only [isN,is4,xr] at hh;omega
      ·by_cases h0:nxt (a::t)=0
       ·rw [h0];rfl
       ·obtain ⟨a',t',e,_,g⟩:=zgT (zoq h0);cases e;omega
theorem zxn (hb:b.length<=1152921504606846976) (l:List UInt8):∀(a c:Nat),c<=a->a<=b.length->l=b.drop a->
  zeo b a c ((nxt l:Nat):Int)=some (((a+(pre4 l).1:Nat):Int),((c+(pre4 l).2:Nat):Int)):=by
 refine zyw (fun l=>∀(a c:Nat),c<=a->a<=b.length->l=b.drop a->zeo b a c ((nxt l:Nat):Int)=some (((a+(pre4 l).1:Nat):Int),((c+(pre4 l).2:Nat):Int))) ?_ ?_ l
 ·intro l h a c hc ha hl;rw [h,zwU h];refine zob ?_;unfold zen;rw [pw];rfl
 ·intro l h ih a c hc ha hl;subst hl;have h4:=zsm (b.drop a);have hle:=zlx (b.drop a);simp only [xD] at hle;have e1:(b.drop a).drop (nxt (b.drop a))=b.drop (a+nxt (b.drop a)):=by rw [xK]
  refine (zoa (atv':=((a+nxt (b.drop a):Nat):Int)) (points':=((c+1:Nat):Int)) (size':=((nxt (b.drop (a+nxt (b.drop a))):Nat):Int)) ?_).trans ?_
  ·unfold zen;rw [px,pz,zlU (a:=a+nxt (b.drop a)) (by push_cast;rfl) rfl (by omega),sb,zvQ,sb,pz];rfl
  ·rw [<-e1,ih (a+nxt (b.drop a)) (c+1) (by omega) (by omega) e1,zzY h];simp only [yN,qC 1]
theorem zyW (hb:b.length<=1152921504606846976):zkw b=some (((pre4 b).1:Int),((pre4 b).2:Int)):=by
 unfold zkw;rw [zvQ,sb];have h:=zxn hb b 0 0 (xi _) (xm _) rfl;simp only [xy] at h;have h':zeo b 0 0 ((nxt b:Nat):Int)=some (((pre4 b).1:Int),((pre4 b).2:Int)):=h;rw [h',sb]
theorem zxh (hb:b.length<=1152921504606846976):ziH b=some ((pre4 b).1:Int):=by
 unfold ziH;rw [zyW hb,sb]
theorem zxi (hb:b.length<=1152921504606846976):ziI b=some (zfN b):=by
 unfold ziI zfN;rw [zxh hb,sb,zrO]
def zBx:List Str:=[[],[105,110,116,51,50],[105,110,116,54,52],[117,105,110,116,51,50],[117,105,110,116,54,52],[115,105,110,116,51,50],[115,105,110,116,54,52],[98,111,111,108],[101,110,117,109],[102,105,120,101,100,51,50],[115,102,105,120,101,100,51,50],[102,108,111,97,116],[102,105,120,101,100,54,52],[115,102,105,120,101,100,54,52],[100,111,117,98,108,101],[115,116,114,105,110,103],[98,121,116,101,115],[109,101,115,115,97,103,101]]
def zxZ (k:Int):Str:=(zBx[k.toNat]?).getD []
def kT:List (Int×zj):=[(1,⟨[105,110,116,51,50],0⟩),(2,⟨[105,110,116,54,52],0⟩),(3,⟨[117,105,110,116,51,50],0⟩),(4,⟨[117,105,110,116,54,52],0⟩),(5,⟨[115,105,110,116,51,50],0⟩),(6,⟨[115,105,110,116,54,52],0⟩),(7,⟨[98,111,111,108],0⟩),(8,⟨[101,110,117,109],0⟩),(9,⟨[102,105,120,101,100,51,50],5⟩),(10,⟨[115,102,105,120,101,100,51,50],5⟩),(11,⟨[102,108,111,97,116],5⟩),(12,⟨[102,105,120,101,100,54,52],1⟩),(13,⟨[115,102,105,120,101,100,54,52],1⟩),(14,⟨[100,111,117,98,108,101],1⟩),(15,⟨[115,116,114,105,110,103],2⟩),(16,⟨[98,121,116,101,115],2⟩),(17,⟨[109,101,115,115,97,103,101],2⟩)]
theorem ztw:zgV=some kT:=rfl
theorem znN (h:zbV k=true):k=1\/k=2\/k=3\/k=4\/k=5\/k=6\/k=7\/k=8\/k=9\/k=10\/k=11\/k=12\/k=13\/k=14\/k=15\/k=16\/k=17:=by
 have:=yI h;omega
theorem zBf (h:zbV k=true):mget kT k=some ⟨zxZ k,zdK k⟩:=by
 rcases znN h with rfl| rfl| rfl| rfl| rfl| rfl| rfl| rfl| rfl| rfl| rfl| rfl| rfl| rfl| rfl| rfl| rfl<;>rfl
theorem zzD (h:e∈kT):zbV e.1=true/\e.2=⟨zxZ e.1,zdK e.1⟩:=by
 have:kT.all (fun e=>zbV e.1&&decide (e.2=⟨zxZ e.1,zdK e.1⟩))=true:=by decide
 have h1:=xn.1 this e h;simp only [xh,xr] at h1;exact h1
theorem zzE (h:zbV k=false):mget kT k=none:=by
 cases hg:mget kT k with
 | none=>rfl
 | some x=>
  have mem:∀{m:List (Int×zj)} {x:zj},mget m k=some x->(k,x)∈m:=fun {m x} hg=>by
   induction m with
   | nil=>cases hg
   | cons p m ih=>
    rw [mget] at hg;split at hg
    ·rename_i e;cases hg;rw [e];exact xf
    ·exact xg _ (ih hg)
  have h1:=(zzD (mem hg)).1;simp only at h1;rw [h] at h1;cases h1
theorem ztx (k:Int):zgJ k=some (if zbV k then (zdK k,0) else (0,2)):=by
 unfold zgJ;rw [ztw,sb];cases h:zbV k with
 | true=>rw [zBf h];rfl
 | false=>rw [zzE h];rfl
theorem zpj (k:Int):zeS k=some (kNum k):=by
 unfold zeS;rw [ztx,sb];cases h:zbV k with
 | true=>
  rcases znN h with rfl| rfl| rfl| rfl| rfl| rfl| rfl| rfl| rfl| rfl| rfl| rfl| rfl| rfl| rfl| rfl| rfl<;>rfl
 | false=>
  have h1:=po h;have:kNum k=false:=xO (by omega);rw [this];rfl
theorem zzG:kT.map Prod.fst=[1,2,3,4,5,6,7,8,9,10,11,12,13,14,15,16,17]:=rfl
theorem zzF:zkd=some [1,2,3,4,5,6,7,8,9,10,11,12,13,14,15,16,17]:=by
 have e:ztu kT=some [1,2,3,4,5,6,7,8,9,10,11,12,13,14,15,16,17]:=by
  unfold ztu;rw [xe ⟨by decide,by decide⟩,zzG,List.mergeSort_of_pairwise (by decide)]
 unfold zkd;rw [ztw,sb,e,sb]
theorem zwD (k:Int) (h:0<=w/\w<=18446744073709551615):zgU k w=some (if kNum k then (zfg k w,0) else (0,2)):=by
 have hs:=zyI w;have hc:=zsT k h;unfold zgU;by_cases h1:k=1\/k=8
 ·have e:(if (k==1)=true then some (k==1) else some (k==8))=some true:=by rcases h1 with rfl| rfl<;>rfl
  have hn:kNum k=true:=xN (by omega);rw [e,sb,itT rfl,zxd,sb,zxo (by omega),sb,hn];unfold zfg;rw [xe h1];rfl
 ·have e:(if (k==1)=true then some (k==1) else some (k==8))=some false:=by rw [py];simp;omega
  rw [e,sb,itF rfl];by_cases h2:k=3\/k=5\/k=9\/k=10\/k=11
  ·have e2:(if (k==3)=true then some (k==3) else if (k==5)=true then some (k==5) else if (k==9)=true then some (k==9) else if (k==10)=true then some (k==10) else some (k==11))=some true:=by
    rcases h2 with rfl| rfl| rfl| rfl| rfl<;>rfl
   have hn:kNum k=true:=xN (by omega);have hw:u64.wrap (w%4294967296)=w%4294967296:=by rw [zgp];omega
   rw [e2,sb,itT rfl,ztz,sb,hn,hw];unfold zfg;rw [xd h1,xe h2];rfl
  ·have e2:(if (k==3)=true then some (k==3) else if (k==5)=true then some (k==5) else if (k==9)=true then some (k==9) else if (k==10)=true then some (k==10) else some (k==11))=some false:=by
    rw [py,py,py,py];simp;omega
   rw [e2,sb,itF rfl];by_cases h7:k=7
   ·have hn:kNum k=true:=xN (by omega);rw [itT (by simpa using h7),hn];unfold ziU zfg;rw [sb,xd h1,xd h2,xe h7];by_cases h0:0<w
    ·rw [xe h0];by_cases h10:1<w
     ·rw [xe h10];rfl
     ·rw [xd h10,show w=1 by omega];rfl
    ·rw [xd h0,xd (by omega),show w=0 by omega];rfl
   ·rw [itF (by simpa using h7)];by_cases hn:kNum k=true
    ·have hk:=yI hn;have e3:(if (k==2)=true then some (k==2) else if (k==4)=true then some (k==4) else if (k==6)=true then some (k==6) else if (k==12)=true then some (k==12) else if (k==13)=true then some (k==13) else some (k==14))=some true:=by
      have:k=2\/k=4\/k=6\/k=12\/k=13\/k=14:=by omega
      rcases this with rfl| rfl| rfl| rfl| rfl| rfl<;>rfl
     rw [e3,sb,itT rfl,hn];unfold zfg;rw [xd h1,xd h2,xd h7];rfl
    ·have hn:kNum k=false:=by simpa using hn
     have hk:=po hn;have e3:(if (k==2)=true then some (k==2) else if (k==4)=true then some (k==4) else if (k==6)=true then some (k==6) else if (k==12)=true then some (k==12) else if (k==13)=true then some (k==13) else some (k==14))=some false:=by
      rw [py,py,py,py,py];simp;omega
     rw [e3,sb,itF rfl,hn];rfl
def lt7 (c:UInt8):Bool:=decide (97<=c.toNat/\c.toNat<=122\/65<=c.toNat/\c.toNat<=90\/c.toNat=95)
def dg7 (c:UInt8):Bool:=decide (48<=c.toNat/\c.toNat<=57)
theorem zpd (c:UInt8):zds (c.toNat:Int)=some (dg7 c):=by
 unfold zds dg7;congr 1;rw [xX];simp;omega
theorem ztm (c:UInt8):zdO (c.toNat:Int)=some (lt7 c):=by
 unfold zdO lt7;congr 1;by_cases h1:(c.toNat:Int)>=97<;>by_cases h2:(c.toNat:Int)>=65<;>simp only [h1,h2,decide_true,decide_false,yb,xU,qK]<;>rw [xX]<;>simp<;>omega
theorem ztn (s:List UInt8) (hs:s.length<=1152921504606846976):∀(l:List UInt8) (i:Nat),s.drop i=l->zcy s i=some (if (l.all fun c=>lt7 c|| dg7 c)=true then .inl () else .inr ()):=by
 intro l
 induction l with
 | nil=>
  intro i hd;have:=zeR hd;refine zgm ?_;unfold zbX;rw [py];rfl
 | cons c l ih=>
  intro i hd;obtain ⟨hi,hc,hd'⟩:=zeh hd;have hb:zbX s i=if (lt7 c|| dg7 c)=true then some (.inl ((i+1:Nat):Int)) else some (.inr (.inr ())):=by
   unfold zbX;rw [px,zX rfl hi,sb,hc,ztm,sb,sb,zpd,pz];cases lt7 c<;>cases dg7 c<;>rfl
  rw [yv];cases hk:(lt7 c|| dg7 c) with
  | false=>
   rw [hk] at hb;rw [zgm hb];rfl
  | true=>
   rw [hk] at hb;rw [zks hb,ih _ hd',qh]
theorem zwc:∀(l:List UInt8) (i:Nat),0<i->nmA i l=l.all fun c=>lt7 c|| dg7 c
 | [],_,_=>rfl
 | c::l,i,h=>by
  rw [nmA,zwc l (i+1) (by omega),yv];congr 1;unfold nmc lt7 dg7;rw [xX];simp;omega
theorem zqX (hs:s.length<=1152921504606846976):zdX s=some (zcP s):=by
 unfold zdX zcP;have hl:=ztn s hs s 0 rfl;have hl':zcy s 0=_:=hl;cases s with
 | nil=>rfl
 | cons c l=>
  rw [itF (by simp)];by_cases h60:((c::l).length:Int)>60
  ·rw [itT (by simpa using h60),sb,itT rfl];have:decide (1<=(c::l).length/\(c::l).length<=60)=false:=by simp only [pi];omega
   rw [this,Bool.and_false]
  ·have hd:decide (1<=(c::l).length/\(c::l).length<=60)=true:=by simp only [xr];refine ⟨by simp,by omega⟩
   have hc:idx (c::l) 0=some c:=by simp [idx]
   rw [itF (by simpa using h60),hc,sb,zpd,sb,sb,hd,Bool.and_true,hl',sb];have e:nmA 0 (c::l)=(lt7 c&&l.all fun c=>lt7 c|| dg7 c):=by
    rw [nmA,zwc l 1 (by omega)];congr 1;unfold nmc lt7;rw [xX];simp;omega
   have hx:lt7 c=true->dg7 c=false:=by
    unfold lt7 dg7;simp only [xr,pi];omega
   rw [e,yv];cases h1:lt7 c<;>cases h2:dg7 c<;>first| (rw [hx h1] at h2;cases h2;done)| skip
   ·rfl
   ·rfl
   ·cases l.all fun c=>lt7 c|| dg7 c<;>rfl
theorem zxQ (hl:l.length<=1152921504606846976) (v:Int):zbz l v=some (zhY (fun x=>v==x) l):=by
 unfold zbz;have h:=zmY (fun x=>v==x) l (fun i=>zaz l v i) (zdt (by unfold zah;rw [itF (by simp)])) (fun i hi=>by
  by_cases hp:(v==l[i])=true
  ·rw [xe hp];exact zdt (by unfold zah;rw [px,zX rfl hi,sb,itT hp])
  ·rw [xd hp];exact zfO (by unfold zah;rw [px,zX rfl hi,sb,itF (by simpa using hp),pz];rfl)) l.length 0 (by omega) (fun j _ h=>by omega)
 have h':zaz l v 0=_:=h;rw [h',sb];unfold zhY;cases l.findIdx? (fun x=>v==x)<;>rfl
theorem zqt {α:Type} (p:α->Bool) (l:List α):decide (zhY p l>=0)=l.any p:=by
 cases h:l.findIdx? p with
 | none=>
  rw [znB h];rw [qE] at h
  symm
  rw [List.any_eq_false.2 fun x hx=>by simpa using h x hx];rfl
 | some i=>
  rw [znC h];rw [pg] at h;obtain ⟨hi,hp,_⟩:=h
  symm
  rw [qx.2 ⟨l[i],xF hi,hp⟩];simp
theorem zsY (hl:l.length<=1152921504606846976) (v:Int):zaY l v=some (l.any fun x=>v==x):=by
 unfold zaY;rw [zxQ hl,sb,zqt]
def K17:List Int:=[1,2,3,4,5,6,7,8,9,10,11,12,13,14,15,16,17]
theorem zwE (k:Int):(K17.any fun x=>k==x)=zbV k:=by
 unfold zbV K17;rw [xX];simp;omega
def hasN (m:List (zk×Bool)) (i:Int) (n:Str):Bool:=(mget m (⟨i,n⟩:zk)).getD false
def hasU (m:List (zn×Bool)) (i:Int) (n:Int):Bool:=(mget m (⟨i,n⟩:zn)).getD false
theorem zis (m:List (zk×Bool)) (i j:Int) (n k:Str):hasN (mput m ⟨i,n⟩ true) j k=(decide (j=i/\k=n)|| hasN m j k):=by
 unfold hasN;rw [ziv];by_cases h:j=i/\k=n
 ·obtain ⟨rfl,rfl⟩:=h;simp
 ·rw [xd (fun e=>h (by injection e with e1 e2;exact ⟨e1,e2⟩))];simp [h]
theorem zti (m:List (zn×Bool)) (i j:Int) (n k:Int):hasU (mput m ⟨i,n⟩ true) j k=(decide (j=i/\k=n)|| hasU m j k):=by
 unfold hasU;rw [ziv];by_cases h:j=i/\k=n
 ·obtain ⟨rfl,rfl⟩:=h;simp
 ·rw [xd (fun e=>h (by injection e with e1 e2;exact ⟨e1,e2⟩))];simp [h]
theorem zto (n:Int):zdP n=some (decide ¬(n<1\/n>536870911\/(19000<=n/\n<20000))):=by
 unfold zdP;congr 1;rw [xX];simp;omega
theorem zuR (f:Fld):zel f=some (f.Repeated&&kNum f.Kind):=by
 unfold zel;rw [zpj];cases f.Repeated<;>rfl
theorem zyg (n:Int) (K:List Int) (nm:List (zk×Bool)) (nu:List (zn×Bool)) (f:Fld):zcK ⟨n,K,nm,nu⟩ f=some (decide ¬(f.Kind=17/\(f.Of<0\/f.Of>=n)\/f.Kind≠17/\f.Of≠0)):=by
 unfold zcK;by_cases h:f.Kind=17
 ·rw [itT (by simpa using h)];congr 1;rw [xX];simp [h]
 ·rw [itF (by simpa using h)];congr 1;rw [xX];simp [h]
theorem zxG (hf:f.Name.length<=1152921504606846976) (hN:hasN nm i f.Name=prev.any fun g=>g.Name==f.Name) (hU:hasU nu i f.Number=prev.any fun g=>g.Number==f.Number):
  zcJ ⟨n,K17,nm,nu⟩ i f=some (zbn n prev f,if zbn n prev f=0 then (mput nm ⟨i,f.Name⟩ true,mput nu ⟨i,f.Number⟩ true) else (nm,nu)):=by
 unfold zcJ;rw [zqX hf,sb];have e1:(mget nm (⟨i,f.Name⟩:zk)).getD false=hasN nm i f.Name:=rfl;have e2:(mget nu (⟨i,f.Number⟩:zn)).getD false=hasU nu i f.Number:=rfl;simp only [e1,e2,hN,hU];have hz:∀(k:Int) (x y:List (zk×Bool)×List (zn×Bool)),k≠0->(if k=0 then x else y)=y:=fun k x y h=>xd h
 by_cases h1:zcP f.Name=false
 ·have hF:zbn n prev f=5:=by unfold zbn;rw [xe h1]
  rw [hF,hz 5 _ _ (by decide),itT (by rw [h1];rfl)]
 rw [itF (show (!zcP f.Name)=false by simpa using h1)];by_cases h2:(prev.any fun g=>g.Name==f.Name)=true
 ·have hF:zbn n prev f=6:=by unfold zbn;rw [xd h1,xe h2]
  rw [hF,hz 6 _ _ (by decide),itT h2]
 have h2':(prev.any fun g=>g.Name==f.Name)=false:=qL h2;rw [itF h2',zto,sb];by_cases h3:f.Number<1\/f.Number>536870911\/(19000<=f.Number/\f.Number<20000)
 ·have hF:zbn n prev f=7:=by unfold zbn;rw [xd h1,xd h2,xe h3]
  rw [hF,hz 7 _ _ (by decide),itT (by rw [xO (fun h=>h h3)];rfl)]
 rw [itF (by rw [xN h3];rfl)];by_cases h4:(prev.any fun g=>g.Number==f.Number)=true
 ·have hF:zbn n prev f=8:=by unfold zbn;rw [xd h1,xd h2,xd h3,xe h4]
  rw [hF,hz 8 _ _ (by decide),itT h4]
 have h4':(prev.any fun g=>g.Number==f.Number)=false:=qL h4;rw [itF h4',zsY (by decide),sb,zwE];by_cases h5:zbV f.Kind=false
 ·have hF:zbn n prev f=9:=by unfold zbn;rw [xd h1,xd h2,xd h3,xd h4,xe h5]
  rw [hF,hz 9 _ _ (by decide),itT (by rw [h5];rfl)]
 rw [itF (show (!zbV f.Kind)=false by simpa using h5),zuR];have hg:(if f.Packed=true then (some (f.Repeated&&kNum f.Kind)>>=fun rv4=>some (!rv4)) else some false)=some (decide (f.Packed=true/\¬(f.Repeated=true/\kNum f.Kind=true))):=by
  cases f.Packed<;>cases f.Repeated<;>cases kNum f.Kind<;>rfl
 rw [hg,sb];by_cases h6:f.Packed=true/\¬(f.Repeated=true/\kNum f.Kind=true)
 ·have hF:zbn n prev f=10:=by unfold zbn;rw [xd h1,xd h2,xd h3,xd h4,xd h5,xe h6]
  rw [hF,hz 10 _ _ (by decide),itT (xN h6)]
 rw [itF (xO h6),zyg,sb];by_cases h7:f.Kind=17/\(f.Of<0\/f.Of>=n)\/f.Kind≠17/\f.Of≠0
 ·have hF:zbn n prev f=11:=by unfold zbn;rw [xd h1,xd h2,xd h3,xd h4,xd h5,xd h6,xe h7]
  rw [hF,hz 11 _ _ (by decide),itT (by rw [xO (fun h=>h h7)];rfl)]
 have hF:zbn n prev f=0:=by unfold zbn;rw [xd h1,xd h2,xd h3,xd h4,xd h5,xd h6,xd h7]
 rw [hF,xe rfl,itF (by rw [xN h7];rfl)]
theorem zuS {n:Int} {nm:List (zk×Bool)} {nu:List (zn×Bool)} {prev:List Mes} {m:Mes} (hm:m.Name.length<=1152921504606846976) (hN:hasN nm (-1) m.Name=prev.any fun g=>g.Name==m.Name):
  zcd ⟨n,K17,nm,nu⟩ m=some (if zcP m.Name=false then (2,nm,nu) else if (prev.any fun g=>g.Name==m.Name)=true then (3,nm,nu) else if 200<m.Fields.length then (4,nm,nu) else (0,mput nm ⟨-1,m.Name⟩ true,nu)):=by
 unfold zcd;rw [zqX hm,sb];have e1:(mget nm (⟨(-1),m.Name⟩:zk)).getD false=hasN nm (-1) m.Name:=rfl;simp only [e1,hN];by_cases h1:zcP m.Name=false
 ·rw [xe h1,itT (show (!zcP m.Name)=true by rw [h1];rfl)]
 rw [xd h1,itF (show (!zcP m.Name)=false by simpa using h1)];by_cases h2:(prev.any fun g=>g.Name==m.Name)=true
 ·rw [xe h2,itT h2]
 have h2':(prev.any fun g=>g.Name==m.Name)=false:=qL h2;rw [xd h2,itF h2'];by_cases h3:200<m.Fields.length
 ·rw [xe h3,itT (show decide ((m.Fields.length:Int)>200)=true by simp;omega)]
 rw [xd h3,itF (show decide ((m.Fields.length:Int)>200)=false by simp;omega)]
structure Met (nm:List (zk×Bool)) (nu:List (zn×Bool)) (i:Nat) (prev:List Mes) (p:List Fld):Prop where
 mes:∀n,hasN nm (-1) n=prev.any fun g=>g.Name==n
 nam:∀n,hasN nm i n=p.any fun g=>g.Name==n
 num:∀n,hasU nu i n=p.any fun g=>g.Number==n
 later:∀(j:Nat) n,i<j->hasN nm j n=false
 laterU:∀(j:Nat) n,i<j->hasU nu j n=false
theorem Met.step (h:Met nm nu i prev p) (f:Fld):Met (mput nm ⟨i,f.Name⟩ true) (mput nu ⟨i,f.Number⟩ true) i prev (p++[f]):=by
 refine ⟨fun n=>?_,fun n=>?_,fun n=>?_,fun j n hj=>?_,fun j n hj=>?_⟩
 ·rw [zis,h.mes,xO (by omega),qG]
 ·rw [zis,h.nam,qm,Bool.or_comm];congr 1;simp only [yK,List.any_nil,ql];rw [xX];simp;exact eq_comm
 ·rw [zti,h.num,qm,Bool.or_comm];congr 1;simp only [yK,List.any_nil,ql];rw [xX];simp;exact eq_comm
 ·rw [zis,h.later j n hj,xO (by omega)];rfl
 ·rw [zti,h.laterU j n hj,xO (by omega)];rfl
theorem zxE (hb:m.Fields.length<=140737488351232) (hn:∀f∈m.Fields,f.Name.length<=140737488351232):
  ∀(l:List Fld) (k:Nat) (nm:List (zk×Bool)) (nu:List (zn×Bool)),m.Fields.drop k=l->k<=m.Fields.length->Met nm nu i prev (m.Fields.take k)->
   (∃j w,msgF s.length (m.Fields.take k) l=some (j,w)/\zbM K17 s i m k nm nu=some (.inr ((j:Int),w)))\/
   (msgF s.length (m.Fields.take k) l=none/\∃nm' nu',zbM K17 s i m k nm nu=some (.inl (nm',nu'))/\Met nm' nu' i prev m.Fields):=by
 intro l
 induction l with
 | nil=>
  intro k nm nu hd hk hM;have:=zeR hd;have hkl:k=m.Fields.length:=by omega
  subst hkl;refine .inr ⟨rfl,nm,nu,zgB ?_,by simpa using hM⟩;unfold zbp;rw [itF (by simp)]
 | cons f l ih=>
  intro k nm nu hd hk hM;obtain ⟨hi,hc,hd'⟩:=zeh hd;have hf:=hn f (by rw [<-hc];exact xF hi);have hfld:=zxG (n:=(s.length:Int)) (i:=(i:Int)) (nm:=nm) (nu:=nu) (prev:=m.Fields.take k) (f:=f) (by omega) (hM.nam _) (hM.num _);have htk:m.Fields.take (k+1)=m.Fields.take k++[f]:=by rw [ph hi,hc]
  have vk:(m.Fields.take k).length=k:=by simp;omega
  obtain ⟨bd,_⟩:=zoR (s.length:Int) (m.Fields.take k) f;rw [msgF];by_cases h0:zbn s.length (m.Fields.take k) f=0
  ·rw [xd (by omega)];rw [h0,xe rfl] at hfld;have hstep:zbp K17 s i m k nm nu=some (.inl (((k+1:Nat):Int),mput nm ⟨i,f.Name⟩ true,mput nu ⟨i,f.Number⟩ true)):=by
    unfold zbp;rw [px,zX rfl hi,sb,hc,hfld,sb];dsimp only;rw [itF (show ((0:Int) !=0)=false from rfl),pz];rfl
   rw [zkY hstep,<-htk];exact ih (k+1) _ _ hd' (by omega) (by rw [htk];exact hM.step f)
  ·rw [xe (by omega)];rw [xd h0] at hfld;refine .inl ⟨k,_,by rw [vk],zgB ?_⟩;unfold zbp;rw [px,zX rfl hi,sb,hc,hfld,sb];dsimp only;rw [itT (show (zbn (s.length:Int) (m.Fields.take k) f !=0)=true by simpa using h0)]
theorem zxD {s:List Mes} (hw:WS s):∀(l:List Mes) (i:Nat) (nm:List (zk×Bool)) (nu:List (zn×Bool)),s.drop i=l->i<=s.length->Met nm nu i (s.take i) []->
  zcR K17 s i nm nu=some (match chkF s.length (s.take i) l with| some (j,k,w)=> .inr ((j:Int),k,w)| none=> .inl ()):=by
 intro l
 induction l with
 | nil=>
  intro i nm nu hd hi hM;have:=zeR hd;refine zco ?_;unfold zax;rw [py];rfl
 | cons m l ih=>
  intro i nm nu hd hi hM;obtain ⟨hil,hc,hd'⟩:=zeh hd;obtain ⟨w1,w2⟩:=hw;obtain ⟨m1,m2,m3⟩:=w2 m (by rw [<-hc];exact xF hil);have hmes:=zuS (n:=(s.length:Int)) (nm:=nm) (nu:=nu) (prev:=s.take i) (m:=m) (by omega) (hM.mes _);have htk:s.take (i+1)=s.take i++[m]:=by rw [ph hil,hc]
  have vk:(s.take i).length=i:=by simp;omega
  rw [chkF];by_cases h1:zcP m.Name=false
  ·rw [xe h1] at hmes|-;refine zco ?_;unfold zax;rw [px,zX rfl hil,sb,hc,hmes,sb];dsimp only;rw [itT (show ((2:Int) !=0)=true from rfl),vk]
  rw [xd h1] at hmes|-;by_cases h2:((s.take i).any fun g=>g.Name==m.Name)=true
  ·rw [xe h2] at hmes|-;refine zco ?_;unfold zax;rw [px,zX rfl hil,sb,hc,hmes,sb];dsimp only;rw [itT (show ((3:Int) !=0)=true from rfl),vk]
  rw [xd h2] at hmes|-;by_cases h3:200<m.Fields.length
  ·rw [xe h3] at hmes|-;refine zco ?_;unfold zax;rw [px,zX rfl hil,sb,hc,hmes,sb];dsimp only;rw [itT (show ((4:Int) !=0)=true from rfl),vk]
  rw [xd h3] at hmes|-;have hM0:Met (mput nm ⟨-1,m.Name⟩ true) nu i (s.take i++[m]) (m.Fields.take 0):=by
   refine ⟨fun n=>?_,fun n=>?_,fun n=>?_,fun j n hj=>?_,fun j n hj=>hM.laterU j n hj⟩
   ·rw [zis,hM.mes,qm,Bool.or_comm];congr 1;simp only [yK,List.any_nil,ql];rw [xX];simp;exact eq_comm
   ·rw [zis,hM.nam,xO (by omega)];rfl
   ·rw [hM.num];rfl
   ·rw [zis,hM.later j n hj,xO (by omega)];rfl
  have hl2:=zxE (s:=s) (i:=i) m2 m3 m.Fields 0 _ nu rfl (by omega) hM0;simp only [yq] at hl2;rcases hl2 with ⟨j,w,g1,g2⟩| ⟨g1,nm',nu',g2,g3⟩
  ·rw [g1];refine zco ?_;unfold zax;have g2':zbM K17 s i m 0 (mput nm ⟨-1,m.Name⟩ true) nu=_:=g2;rw [px,zX rfl hil,sb,hc,hmes,sb];dsimp only;rw [itF (show ((0:Int) !=0)=false from rfl),g2',sb];simp only [vk]
  ·rw [g1];have hstep:zax K17 s i nm nu=some (.inl (((i+1:Nat):Int),nm',nu')):=by
    unfold zax;have g2':zbM K17 s i m 0 (mput nm ⟨-1,m.Name⟩ true) nu=_:=g2;rw [px,zX rfl hil,sb,hc,hmes,sb];dsimp only;rw [itF (show ((0:Int) !=0)=false from rfl),g2',sb];dsimp only;rw [pz];rfl
   rw [zkX hstep];simp only [];rw [<-htk];refine ih (i+1) nm' nu' hd' (by omega) ⟨fun n=>?_,fun n=>?_,fun n=>?_,fun j n hj=>g3.later j n (by omega),fun j n hj=>g3.laterU j n (by omega)⟩
   ·rw [htk];exact g3.mes n
   ·rw [g3.later (i+1) n (by omega)];rfl
   ·rw [g3.laterU (i+1) n (by omega)];rfl
theorem zxC (hw:WS s):zfm s=some (⟨(zfA s).1,(zfA s).2.1,(zfA s).2.2⟩,if (zfA s).2.2=0 then 0 else 9):=by
 unfold zfm zfA;by_cases h:s.length=0\/100<s.length
 ·rw [px,xe h];rfl
 ·rw [py,xd h,zzF,sb];have hl:=zxD hw s 0 [] [] rfl (by omega) ⟨fun n=>rfl,fun n=>rfl,fun n=>rfl,fun j n _=>rfl,fun j n _=>rfl⟩;simp only [yq] at hl;have hl':zcR [1,2,3,4,5,6,7,8,9,10,11,12,13,14,15,16,17] s 0 [] []=_:=hl;rw [hl',sb];cases hc:chkF s.length [] s with
  | none=>rfl
  | some q=>
   obtain ⟨i,k,w⟩:=q;have:=zvu _ _ _ _ _ _ hc;simp only;rw [xd (by omega)]
theorem zyC (hw:WS s):zfn s=some (zlG s):=by
 unfold zfn zlG;rw [zxC hw,sb];by_cases h:(zfA s).2.2=0<;>simp [h]
theorem zuq (h:(zeA k b).2=0):kNum k=true/\(pcs k b).2=0/\(zeA k b).1=(pcs k b).1.map (zzf k):=by
 unfold zeA at h|-;cases hn:kNum k with
 | false=>rw [hn,xe rfl] at h;simp at h
 | true=>
  rw [hn,xd (by simp)] at h;rw [xd (by simp)];by_cases h0:(pcs k b).2=0
  ·rw [xe h0];exact ⟨rfl,h0,rfl⟩
  ·rw [xd h0] at h;exact absurd h h0
theorem zvq (h:(zeA k b).2≠0):(zeA k b).1=[]/\((zeA k b).2=2\/(zeA k b).2=3\/(zeA k b).2=4):=by
 unfold zeA at h|-;by_cases hn:kNum k=false
 ·rw [xe hn];simp
 ·rw [xd hn] at h|-;by_cases h0:(pcs k b).2=0
  ·rw [xe h0] at h;exact absurd rfl h
  ·rw [xd h0];rcases ztG k b with h1| h1| h1
   ·exact absurd h1 h0
   ·rw [h1];simp
   ·rw [h1];simp
def wid (k:Int):Nat:=if 12<=k then 8 else if 9<=k then 4 else 0
theorem zxe (k:Int):zfl k=some (if kNum k then ((wid k:Int),0) else (0,2)):=by
 cases hn:kNum k with
 | true=>
  have h:=zpi.1 hn;have hk:k=1\/k=2\/k=3\/k=4\/k=5\/k=6\/k=7\/k=8\/k=9\/k=10\/k=11\/k=12\/k=13\/k=14:=by omega
  rcases hk with rfl| rfl| rfl| rfl| rfl| rfl| rfl| rfl| rfl| rfl| rfl| rfl| rfl| rfl<;>rfl
 | false=>
  have h:=po hn;unfold zfl;have hne:∀c:Int,1<=c->c<=14->(k==c)=false:=fun c h1 h2=>by simp;omega
  simp only [hne 1 (by omega) (by omega),hne 2 (by omega) (by omega),hne 3 (by omega) (by omega),hne 4 (by omega) (by omega),hne 5 (by omega) (by omega),hne 6 (by omega) (by omega),hne 7 (by omega) (by omega),hne 8 (by omega) (by omega),hne 9 (by omega) (by omega),hne 10 (by omega) (by omega),hne 11 (by omega) (by omega),hne 12 (by omega) (by omega),hne 13 (by omega) (by omega),hne 14 (by omega) (by omega)];rfl
theorem zyM (h:0<=w/\w<=18446744073709551615):zgl k w=some (if kNum k then ((sPut k w).length:Int) else 0):=by
 have hc:=zsT k h;obtain ⟨c,hcc⟩:∃c:Nat,zfg k w=c:=⟨(zfg k w).toNat,by omega⟩;unfold zgl;rw [zxe,sb];cases hn:kNum k with
 | false=>rfl
 | true=>
  simp only [yb];unfold sPut zvc;rw [hcc,xt];unfold wid;by_cases h1:12<=k
  ·rw [xe h1,xe h1,pv,zeF]
  ·rw [xd h1,xd h1];by_cases h2:9<=k
   ·rw [xe h2,xe h2,pv,zeF]
   ·rw [xd h2,xd h2,pw,zwD k h,sb,hn];simp only [yb];rw [hcc,zBo (by omega),sb,zvz]
theorem zqO {α:Type} {l t:List α} {x:α} {k:Nat} (h:l.drop k=x::t):∃hk:k<l.length,l[k]=x/\l.drop (k+1)=t:=by
 have hk:k<l.length:=by
  rcases yn k l.length with h'| h'
  ·exact h'
  ·rw [yo h'] at h;cases h
 rw [xZ hk] at h;injection h with h1 h2;exact ⟨hk,h1,h2⟩
theorem zrU (l:List (List UInt8)) (hl:l.length<=1099511627776):∀(t:List (List UInt8)) (k s:Nat),l.drop k=t->s+t.flatten.length<=1099511627776->
  zaj l s k=some ((s+t.flatten.length:Nat):Int):=by
 intro t
 induction t with
 | nil=>
  intro k s hd _;have hk:l.length<=k:=by have:=congrArg List.length hd;simp at this;omega
  refine zfc ?_;unfold zaa;rw [py];simp
 | cons x t ih=>
  intro k s hd hs;obtain ⟨hk,hx,hd'⟩:=zqO hd;simp only [yG,xE] at hs;refine (zfb (size':=((s+x.length:Nat):Int)) (v':=((k+1:Nat):Int)) ?_).trans ?_
  ·unfold zaa;rw [px,zX rfl hk,sb,hx,pz,py,pz];push_cast;rfl
  ·rw [ih _ _ hd' (by omega)];simp only [yG,xE];congr 2;omega
theorem zrV (l:List (List UInt8)) (hl:l.length<=1099511627776):∀(t:List (List UInt8)) (k:Nat) (vg:List UInt8),l.drop k=t->vg.length+t.flatten.length<=1099511627776->
  zak l vg k=some (vg++t.flatten):=by
 intro t
 induction t with
 | nil=>
  intro k vg hd _;have hk:l.length<=k:=by have:=congrArg List.length hd;simp at this;omega
  refine zfe ?_;unfold zab;rw [py];simp
 | cons x t ih=>
  intro k vg hd hs;obtain ⟨hk,hx,hd'⟩:=zqO hd;simp only [yG,xE] at hs;refine (zfd (newslice':=vg++x) (v2':=((k+1:Nat):Int)) ?_).trans ?_
  ·unfold zab;rw [px,zX rfl hk,sb,hx,ziQ (by omega),sb,pz];push_cast;rfl
  ·rw [ih _ _ hd' (by rw [xE];omega)];simp
theorem zzw {n:Nat} (h:n<=1099511627776):zbo (n:Int)=some []:=by
 unfold zbo;have e:i64.wrap ((n:Int) - i64.wrap (0 - 0))=n:=by rw [zm (x:=0 - 0) (by omega),pz];omega
 rw [itF (by simp),e];by_cases h0:(n:Int)>0
 ·rw [itT (by simpa using h0),zBw (a:=n) rfl (Int.le_refl _) (by omega),sb];have e0:cut (List.replicate n (0:UInt8)) 0 0=some []:=zta (b:=0) rfl (xm _);rw [e0,sb]
 ·rw [itF (by simpa using h0)]
theorem zqN (hl:l.length<=1099511627776) (h:l.flatten.length<=1099511627776):zay l=some l.flatten:=by
 unfold zay;have h1:=zrU l hl l 0 0 rfl (by omega);have h1':zaj l 0 0=_:=h1;have h2:=zrV l hl l 0 [] rfl (by simpa using h);have h2':zak l [] 0=_:=h2;rw [h1',sb,zzw (by omega),sb,h2',sb];simp
def wid9 (k:Int):Int:=if kNum k then (if 12<=k then 8 else if 9<=k then 4 else 1) else 0
theorem zqB (hk:kNum k=true):(((sPut k 0).length:Nat):Int)=(if 12<=k then 8 else if 9<=k then 4 else 1):=by
 have hk':=zpi.1 hk;have hc:(zfg k 0).toNat=0:=by
  have:k=1\/k=2\/k=3\/k=4\/k=5\/k=6\/k=7\/k=8\/k=9\/k=10\/k=11\/k=12\/k=13\/k=14:=by omega
  rcases this with h| h| h| h| h| h| h| h| h| h| h| h| h| h<;>subst h<;>decide
 unfold sPut;rw [hc];unfold zvc;by_cases h1:12<=k
 ·rw [xe h1,xe h1,zeF];rfl
 ·rw [xd h1,xd h1];by_cases h2:9<=k
  ·rw [xe h2,xe h2,zeF];rfl
  ·rw [xd h2,xd h2,zvz];simp [lenN]
theorem zxc (k:Int):ziC k=some (wid9 k):=by
 unfold ziC wid9;rw [zyM (by omega),sb];cases hk:kNum k with
 | false=>rfl
 | true=>simp only [yb];rw [zqB hk]
theorem zwp (hk:kNum k=true):(k<9->wid9 k=1)/\(¬k<9->k<12->wid9 k=4)/\(¬k<12->wid9 k=8):=by
 unfold wid9;rw [hk,xe rfl];refine ⟨fun h=>?_,fun h1 h2=>?_,fun h=>?_⟩
 ·rw [xd (show ¬12<=k by omega),xd (show ¬9<=k by omega)]
 ·rw [xd (show ¬12<=k by omega),xe (show 9<=k by omega)]
 ·rw [xe (show 12<=k by omega)]
theorem zzb (hk:kNum k=false):wid9 k=0:=by unfold wid9;rw [hk];rfl
theorem zAl (hk:kNum k=true):(wid9 k==0)=false:=by
 obtain ⟨h1,h2,h3⟩:=zwp hk;by_cases h9:k<9
 ·rw [h1 h9];rfl
 ·by_cases h12:k<12
  ·rw [h2 h9 h12];rfl
  ·rw [h3 h12];rfl
theorem zrt (hk:kNum k=true) (b:List UInt8):ziB (wid9 k) b=some (match zjp k b with| .inl c=>(0,c)| .inr n=>((n:Int),0)):=by
 obtain ⟨w1,w2,w3⟩:=zwp hk;unfold ziB zjp;by_cases h9:k<9
 ·rw [w1 h9,pv,zwk,sb,xe h9];rcases zmz b with h| ⟨h,_⟩| ⟨x,c,y,e,hx,hc,hl,hv,h⟩
  ·rw [h];rfl
  ·rw [h];rfl
  ·rw [h,xd (by simp)];simp
 ·rw [xd h9];by_cases h12:k<12
  ·rw [w2 h9 h12,pw,xe h12];by_cases hl:b.length<4
   ·rw [px,xe hl]
   ·rw [py,xd hl];rfl
  ·rw [w3 h12,pw,xd h12];by_cases hl:b.length<8
   ·rw [px,xe hl]
   ·rw [py,xd hl];rfl
def zky (k:Int) (b:List UInt8):List (List UInt8)×Int:=if kNum k=false then ([],2) else pcs k b
def go9 {σ ρ:Type} (kb:σ->(List UInt8×Int)->Option (σ⊕ρ)):List (List UInt8)->Int->σ->Option (σ⊕ρ)
 | [],c,s=>if c=0 then some (.inl s) else kb s ([],c)
 | p::ps,c,s=>match kb s (p,0) with
  | some (.inl s')=>go9 kb ps c s'
  | some (.inr r)=>some (.inr r)
  | none=>none
theorem zva {σ ρ χ:Type} {kb:σ->χ->Option (σ⊕ρ)} {s:σ} {x:χ} {o:σ⊕ρ} (h:kb s x=some o):∃c,rnd kb (.inl s) x=some (c,o)/\(c=true/\(∃s',o= .inl s')\/c=false/\∃r,o= .inr r):=by
 cases o with
 | inl s'=>exact ⟨true,by simp only [rnd,h],.inl ⟨rfl,s',rfl⟩⟩
 | inr r=>exact ⟨false,by simp only [rnd,h],.inr ⟨rfl,r,rfl⟩⟩
theorem zCr {σ ρ:Type} (kb:σ->(List UInt8×Int)->Option (σ⊕ρ)) {k:Int} (hk:kNum k=true) (b:List UInt8):∀(s:σ) (o:σ⊕ρ),go9 kb (pcs k b).1 (pcs k b).2 s=some o->
  ∃q,zcQ (rnd kb) (wid9 k) b (.inl s)=some q/\(q= .inl o\/q= .inr o):=by
 refine zmv k (fun b=>∀(s:σ) (o:σ⊕ρ),go9 kb (pcs k b).1 (pcs k b).2 s=some o->
  ∃q,zcQ (rnd kb) (wid9 k) b (.inl s)=some q/\(q= .inl o\/q= .inr o)) ?_ ?_ ?_ b
 ·intro s o h;rw [zmw] at h;have h':some (.inl s)=some o:=h;refine ⟨.inl o,zez ?_,.inl rfl⟩;unfold zaZ;rw [pw,<-yi h']
 ·intro l c hl hu hc s o h;rw [zmu hl hu] at h;have h':kb s ([],c)=some o:=by
   have h2:(if c=0 then some (.inl s) else kb s ([],c))=some o:=h
   rwa [xd (by omega)] at h2
  obtain ⟨t,ht,_⟩:=zva h';refine ⟨.inr o,zez ?_,.inr rfl⟩;have hp:=yl.2 hl;unfold zaZ;rw [px,zrt hk,sb,hu];simp only;rw [zgr (i:=0) (j:=0) (a:=0) (b:=0) rfl rfl (xi _) (xm _),sb];simp only [yp,Nat.sub_self,yq];rw [ht,sb,px]
 ·intro l n hl hu g1 g2 g3 ih s o h;rw [zkn hl hu] at h;have hp:=yl.2 hl;have hbody:∀{t:Bool} {y:σ⊕ρ},rnd kb (.inl s) (l.take n,0)=some (t,y)->zaZ (rnd kb) (wid9 k) l (.inl s)=(if t then some (.inl (l.drop n,y)) else some (.inr (.inr y))):=by
   intro t y ht;unfold zaZ;rw [px,zrt hk,sb,hu];simp only;rw [zgr (i:=0) (j:=(n:Int)) (a:=0) (b:=n) rfl rfl (xm _) g2,sb];simp only [yp,yU];rw [ht,sb];cases t with
   | false=>rw [pv];rfl
   | true=>rw [pw,zlU (a:=n) rfl rfl g2,sb];rfl
  simp only [go9] at h;cases hb:kb s (l.take n,0) with
  | none=>rw [hb] at h;cases h
  | some z=>
   rw [hb] at h;obtain ⟨t,ht,hcase⟩:=zva hb;have hB:=hbody ht;rcases hcase with ⟨rfl,s',rfl⟩| ⟨rfl,r,rfl⟩
   ·obtain ⟨q,hq,hq'⟩:=ih s' o h;exact ⟨q,by rw [zkW hB];exact hq,hq'⟩
   ·have h':some (.inr r)=some o:=h;exact ⟨.inr (.inr r),zez hB,.inr (by rw [yi h'])⟩
theorem zAk {σ ρ:Type} (kb:σ->(List UInt8×Int)->Option (σ⊕ρ)) (k:Int) (b:List UInt8) {s:σ} {o:σ⊕ρ} (h:go9 kb (zky k b).1 (zky k b).2 s=some o):zdF k b (rnd kb) (.inl s)=some o:=by
 unfold zdF;rw [zxc,sb];unfold zky at h;cases hk:kNum k with
 | false=>
  rw [hk,xe rfl] at h;have h':kb s ([],2)=some o:=h;obtain ⟨t,ht,_⟩:=zva h';rw [zzb hk,pv,ht,sb]
 | true=>
  rw [hk,xd (by simp)] at h;have hw:=zAl hk;obtain ⟨q,hq,hq'⟩:=zCr kb hk b s o h;rw [itF hw,hq,sb];rcases hq' with rfl| rfl<;>rfl
theorem zvm (k:Int) (b:List UInt8):(zky k b).2=(zeA k b).2/\((zeA k b).2=0->(zky k b).1=(pcs k b).1)/\(∀p∈(zky k b).1,zqR (zdK k) p=true/\1<=p.length/\p.length<=10)/\(zky k b).1.length<=b.length/\((zky k b).1=[]\/kNum k=true):=by
 unfold zky zeA;by_cases hn:kNum k=false
 ·rw [xe hn,xe hn];exact ⟨rfl,fun h=>by simp at h,(fun p hp=>by cases hp),xm _,.inl rfl⟩
 ·have hk:kNum k=true:=by simpa using hn
  rw [xd hn,xd hn];refine ⟨?_,fun _=>rfl,zyu hk b,zzX k b,.inr hk⟩;by_cases h0:(pcs k b).2=0
  ·rw [xe h0];exact h0
  ·rw [xd h0]
theorem zsZ (c:Int):∀(ps:List (List UInt8)) (n:Nat),n+ps.length<=1048576->
  go9 (fun (s:Int) (x:List UInt8×Int)=>zdd s x.1 x.2) ps c (n:Int)=some (if c=0 then .inl ((n+ps.length:Nat):Int) else .inr (c,((n+ps.length:Nat):Int)))
 | [],n,hl=>by
  simp only [go9,yL,yg];by_cases h0:c=0
  ·rw [xe h0,xe h0]
  ·rw [xd h0,xd h0];unfold zdd;rw [itT (by simpa using h0)]
 | p::ps,n,hl=>by
  simp only [xx] at hl;have h1:zdd (n:Int) p 0=some (.inl ((n+1:Nat):Int)):=by
   unfold zdd;rw [pw,pz];rfl
  simp only [go9,h1];rw [zsZ c ps (n+1) (by omega)];simp only [xx];rw [Nat.add_right_comm,yN]
theorem zwV (k:Int) {b:List UInt8} (hb:b.length<=1048576):ziA k b=some (((zeA k b).1.length:Int),(zeA k b).2):=by
 obtain ⟨h1,h2,h3,h4,h5⟩:=zvm k b;unfold ziA zjf;rw [sb];simp only;have hgo:=zsZ (zky k b).2 (zky k b).1 0 (by omega);rw [zAk (s:=(0:Int)) _ k b hgo,sb,h1];by_cases h0:(zeA k b).2=0
 ·rw [xe h0,h2 h0];simp only;rw [(zuq h0).2.2,h0];simp
 ·rw [xd h0];simp only;rw [(zvq h0).1];rfl
abbrev PVw:=zb
def prV (v:Vw):PVw:=⟨v.R,v.Field,v.Run⟩
theorem zqh (m:Mes) (he:∀p c,e=some (p,c)->3<=c/\c<=5):∀(l:List Rec) (p c:Int),(vws m e l).2=some (p,c)->3<=c/\c<=6
 | [],p,c,h=>by
  cases e with
  | none=>cases h
  | some q=>
   simp only [vws,yw,xI,xT] at h;have:=he q.1 q.2 rfl;omega
 | r::l,p,c,h=>by
  rw [vws] at h;rcases zdv m r.Number r.Wire with hv| ⟨hv,_⟩| ⟨i,run,hv,_⟩
  ·simp only [hv,xI,xT] at h;omega
  ·simp only [hv] at h;exact zqh m he l p c h
  ·simp only [hv] at h;exact zqh m he l p c h
theorem zBE (b:List UInt8):∀p c,(spl 0 b).2=some (p,c)->3<=c/\c<=5:=fun p c h=>by
 have:=(zyL 0 b p c h).1;omega
theorem zjN (m:Mes) (b:List UInt8):(zaC m b).2.2=0/\(vws m (spl 0 b).2 (spl 0 b).1).2=none/\(zaC m b).1=(vws m (spl 0 b).2 (spl 0 b).1).1/\(zaC m b).2.1=0\/(3<=(zaC m b).2.2/\(zaC m b).2.2<=6)/\(zaC m b).1=[]:=by
 unfold zaC vwR;cases h:(vws m (spl 0 b).2 (spl 0 b).1).2 with
 | none=>exact .inl ⟨rfl,rfl,rfl,rfl⟩
 | some q=>exact .inr ⟨zqh m (zBE b) _ q.1 q.2 h,rfl⟩
theorem zmP :∀{l:List Rec},(vws m e l).2=none->e=none/\(vws m e l).1.map (·.R)=l
 | [],h=>by
  cases e with
  | none=>exact ⟨rfl,rfl⟩
  | some q=>simp [vws] at h
 | r::l,h=>by
  rw [vws] at h|-;rcases zdv m r.Number r.Wire with hv| ⟨hv,_⟩| ⟨i,run,hv,_⟩
  ·simp only [hv] at h;cases h
  ·simp only [hv] at h|-;have:=zmP h;exact ⟨this.1,by simp [this.2]⟩
  ·simp only [hv] at h|-;have:=zmP h;exact ⟨this.1,by simp [this.2]⟩
theorem zuj :∀{l:List Rec},∀v∈(vws m e l).1,v.R∈l/\vw m v.R.Number v.R.Wire= .inr (v.Field,v.Run)
 | [],v,h=>by cases h
 | r::l,v,h=>by
  rw [vws] at h;rcases zdv m r.Number r.Wire with hv| ⟨hv,_⟩| ⟨i,run,hv,_⟩
  ·simp only [hv] at h;cases h
  all_goals
   simp only [hv] at h;rcases xj.1 h with rfl| h
   ·exact ⟨xf,hv⟩
   ·have:=zuj v h;exact ⟨xg _ this.1,this.2⟩
theorem zAi (h:v∈(zaC m b).1):v.R∈(spl 0 b).1/\vw m v.R.Number v.R.Wire= .inr (v.Field,v.Run):=by
 rcases zjN m b with ⟨_,_,e,_⟩| ⟨_,e⟩
 ·rw [e] at h;exact zuj v h
 ·rw [e] at h;cases h
theorem zrC (t:zal):ziF t=some (zeb t.Number t.Wire):=by
 have e:zeG t.Wire=some (decide (t.Wire=0\/t.Wire=1\/t.Wire=2\/t.Wire=5)):=by
  unfold zeG;by_cases h0:t.Wire=0
  ·simp [h0]
  by_cases h1:t.Wire=1
  ·simp [h1]
  by_cases h2:t.Wire=2
  ·simp [h2]
  by_cases h5:t.Wire=5
  ·simp [h5]
  simp [h0,h1,h2,h5]
 unfold ziF zeb;rw [e];by_cases h1:1<=t.Number
 ·by_cases h2:t.Number<=536870911
  ·rw [itT (by simpa using h1),itT (by simpa using h2),sb,sb];simp [h1,h2]
  ·rw [itT (by simpa using h1),itF (by simpa using h2),sb];simp [h2]
 ·rw [itF (by simpa using h1),sb];simp [h1]
theorem zBX (w:Nat) (h:w<18446744073709551616):andI .u64 (w:Int) 7=((w%8:Nat):Int):=by
 have e:=zsO (k:= .u64) rfl (a:=w) (b:=7) (by simpa [IntKind.bits] using h) (by simp [IntKind.bits]);have e2:w&&&7=w%8:=pr w 3;rw [e2] at e;exact e
theorem zCo (w:Nat):shrI .u64 (w:Int) 3=((w/8:Nat):Int):=zpT (k:= .u64) (a:=w) (b:=3) (by simp [IntKind.bits])
theorem zyT (b:List UInt8):zku b=some ((⟨(tg b).1,(tg b).2.1⟩:zal),(tg b).2.2.1,(tg b).2.2.2):=by
 obtain ⟨h1,h2,h3,h4,h5,h6,h7⟩:=zfK b;unfold zku tg;rw [zsp,sb];by_cases h:(rd b).2.2=0
 ·rw [itF (by simpa using h)];obtain ⟨w,hw⟩:∃w:Nat,(rd b).1=w:=⟨(rd b).1.toNat,by omega⟩;rw [hw] at h2|-;rw [zCo,zBX w (by omega)];have e0:i64.wrap ((w%8:Nat):Int)=(w:Int)%8:=by rw [pz];omega
  by_cases hg:4294967295<w
  ·have e1:i64.wrap (if (536870912:Int)<((w/8:Nat):Int) then 536870912 else ((w/8:Nat):Int))=536870912:=by
    split
    ·rfl
    ·rw [pz];omega
   rw [e0,e1,zrC,sb];have e2:zeb 536870912 ((w:Int)%8)=false:=by simp [zeb]
   simp only [e2];rw [pv,zkv h (.inl (by rw [hw];omega))]
  ·have e1:i64.wrap (if (536870912:Int)<((w/8:Nat):Int) then 536870912 else ((w/8:Nat):Int))=(w:Int)/8:=by
    rw [xd (by omega),pz];omega
   rw [e0,e1,zrC,sb];simp only;cases ht:zeb ((w:Int)/8) ((w:Int)%8)
   ·rw [pv,zkv h (.inr (by rw [hw];exact ht))]
   ·rw [pw,zvh h (by rw [hw,ht];simp;omega),hw]
 ·rw [itT (by simpa using h),zsF h]
theorem zAe (hw:w=0\/w=1\/w=2\/w=5) (hb:b.length<=1048576):
  zgk w b=some (match zdi w 0 b with| .inl c=>(0,(if w=0 then (rd b).2.1 else 0),c)| .inr (a,t)=>((a:Int),(t:Int),0)):=by
 obtain ⟨h1,h2,h3,h4,h5,h6,h7⟩:=zfK b;unfold zgk zdi;rcases hw with rfl| rfl| rfl| rfl
 ·rw [pv,zwk,sb,xe rfl];by_cases h:(rd b).2.2=0
  ·rw [xd (by simpa using h)];simp only [h,xy];congr 3;simp;omega
  ·rw [xe h];rfl
 ·rw [pw,pv,sb,pw,xd (show ¬((1:Int)=0) by omega),xd (show ¬((1:Int)=2) by omega)];simp only;have e:u64.wrap (i64.wrap ((b.length:Int) - 0))=(b.length:Int):=by rw [pz,zgp];omega
  rw [e];by_cases g:b.length<8
  ·rw [px,xe (by simpa using g)];rfl
  ·rw [py,xd (by simpa using g)];rfl
 ·rw [pw,pw,pw,pv,zsp,sb,sb,xd (show ¬((2:Int)=0) by omega),xe (show (2:Int)=2 from rfl)];by_cases h:(rd b).2.2=0
  ·have hk:=h7 h;rw [itF (by simpa using h),xd (show ¬((rd b).2.2≠0) from fun g=>g h)];simp only;have e:u64.wrap (i64.wrap ((b.length:Int) - (rd b).2.1))=(b.length:Int) - (rd b).2.1:=by rw [pz,zgp];omega
   rw [e];by_cases g:(b.length:Int) - (rd b).2.1<(rd b).1
   ·rw [itT (by simpa using g),xe g];rfl
   ·rw [itF (by simpa using g),xd g,zm (x:=(rd b).1) (by omega),pz];simp;omega
  ·rw [itT (by simpa using h),xe h];rfl
 ·rw [pw,pw,pv,sb,pw,xd (show ¬((5:Int)=0) by omega),xd (show ¬((5:Int)=2) by omega)];simp only;have e:u64.wrap (i64.wrap ((b.length:Int) - 0))=(b.length:Int):=by rw [pz,zgp];omega
  rw [e];by_cases g:b.length<4
  ·rw [px,xe (by simpa using g)];rfl
  ·rw [py,xd (by simpa using g)];rfl
theorem zsR (w:Int) (k:Nat) (m:List UInt8):zdi w k m=match zdi w 0 m with| .inl c=> .inl c| .inr (a,t)=> .inr (k+a,k+t):=by
 unfold zdi
 repeat' split
 all_goals first
  | rfl
  | (rename_i h1 h2;injection h2 with h3;injection h3 with h4 h5;subst h4 h5;simp<;>omega)
  | simp_all<;>omega
theorem zvZ (hb:b.length<=1048576) (at5:Int):zeX b at5=some (zbL b at5):=by
 unfold zeX zbL;by_cases h:at5<0\/at5>=b.length
 ·rw [itT (by simpa using h),xe h];rfl
 ·rw [itF (by simpa using h),xd h];obtain ⟨p,rfl⟩:∃p:Nat,at5=p:=⟨at5.toNat,by omega⟩;rw [zlU rfl rfl (by omega),sb,zyT,sb,xt];have hdl:(b.drop p).length=b.length - p:=by simp
  rcases zqb (b.drop p) with ⟨c,ht,hc⟩| ⟨n,w,k,ht,hr,k1,k2,k3,hrd⟩
  ·have e:rec5 (b.drop p)= .inl c:=by unfold rec5;rw [ht,xe (by simp only;omega)]
   rw [e,ht,px];rfl
  ·obtain ⟨k,rfl⟩:∃j:Nat,k=j:=⟨k.toNat,by omega⟩
   have e:rec5 (b.drop p)=match zdi w k ((b.drop p).drop k) with
    | .inl c=> .inl c
    | .inr p=> .inr (n,w,p.1,p.2):=by unfold rec5;rw [ht];simp<;>rfl
   have hdd:(b.drop p).drop k=b.drop (p+k):=by rw [xK]
   have hml:(b.drop (p+k)).length=b.length - (p+k):=by simp
   have ew:i64.wrap ((p:Int)+k)=((p+k:Nat):Int):=by rw [pz];push_cast;rfl
   rw [e,ht,itF (by simp),hdd];simp only [ew];rw [zlU rfl rfl (by omega),sb,zAe (zqa.1 hr).2.2 (by omega),sb,zsR w k];rcases zny w 0 (b.drop (p+k)) with ⟨c,hc,hc2⟩| ⟨a,t,hc,_,_,hle,_⟩
   ·rw [hc];simp only;rw [px];rfl
   ·rw [hc];simp only;rw [pw,pz,pz];simp only [xI,xT,zg.mk.injEq,qk,qi];push_cast;omega
end Go.Proofs.YtnckiilakdkklaaGreat
