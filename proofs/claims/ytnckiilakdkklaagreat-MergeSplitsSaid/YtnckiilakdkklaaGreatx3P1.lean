/-
  What the plain functions are. No condition.
-/
import Derived.Test.YtnckiilakdkklaaGreatx3S1
import Derived.Test.YtnckiilakdkklaaGreatx3K2
set_option autoImplicit true
set_option relaxedAutoImplicit true
namespace Go.Proofs.YtnckiilakdkklaaGreat
open Go.IntKind (i64 u32 u64)
open Go
set_option linter.unusedVariables false
theorem ztk (w:Int):zfv w=some (w%4294967296):=by unfold zfv;rw [zub]
theorem zwT (w:Int):zfU w=some (sgnS w):=by
 unfold zfU;rw [ztk,sb,zxf];unfold sgnS;congr 1;split<;>split<;>omega
theorem zxd (h: -2147483648<=n/\n<=2147483647):zfV n=some (zrs n):=by
 unfold zfV;rw [px,zgj];unfold zrs;congr 1;split<;>omega
def zbS (k:Int):Bool:=decide (1<=k/\k<=17)
def kNum (k:Int):Bool:=decide (1<=k/\k<=14)
def zdz (k:Int):Int:=if 15<=k then 2 else if 12<=k then 1 else if 9<=k then 5 else 0
def zeW (k w:Int):Int:=
 if k=1\/k=8 then zrs (sgnS w) else if k=3\/k=5\/k=9\/k=10\/k=11 then w%4294967296 else if k=7 then (if 0<w then 1 else 0) else w
theorem zmo (k:Int):zbQ k=some (zbS k):=by unfold zbQ zbS;simp [Bool.decide_and]
theorem zls (k:Int):zbc k=some (kNum k):=by unfold zbc kNum;simp [Bool.decide_and]
theorem ztw (k:Int):zcT k=some (zdz k):=by
 unfold zcT zdz;by_cases h1:15<=k
 ·rw [itT (by simpa using h1),xe h1]
 ·rw [itF (by simpa using h1),xd h1];by_cases h2:12<=k
  ·rw [itT (by simpa using h2),xe h2]
  ·rw [itF (by simpa using h2),xd h2];by_cases h3:9<=k
   ·rw [itT (by simpa using h3),xe h3]
   ·rw [itF (by simpa using h3),xd h3]
theorem zsE (k:Int) (h:0<=w/\w<=18446744073709551615):0<=zeW k w/\zeW k w<=18446744073709551615:=by
 have hs:=zyA w;unfold zeW;split
 ·exact zAa (by omega)
 ·split
  ·omega
  ·split
   ·split<;>omega
   ·exact h
abbrev Fld:=zd
abbrev Mes:=zc
def zhN {α:Type} (p:α->Bool) (l:List α):Int:=match l.findIdx? p with
 | some i=>(i:Int)
 | none=> -1
theorem zns {α:Type} {p:α->Bool} {l:List α} (h:l.findIdx? p=none):zhN p l= -1:=by unfold zhN;rw [h]
theorem znt {α:Type} {p:α->Bool} {l:List α} {i:Nat} (h:l.findIdx? p=some i):zhN p l=(i:Int):=by unfold zhN;rw [h]
theorem zmO {α:Type} (p:α->Bool) (l:List α) (F:Int->Option (Unit⊕Int)) (h0:F (l.length:Int)=some (.inl ())) (hs:∀(i:Nat) (h:i<l.length),F (i:Int)=if p l[i] then some (.inr (i:Int)) else F ((i+1:Nat):Int)):
  ∀(d i:Nat),i+d=l.length->(∀j (h:j<l.length),j<i->p l[j]=false)->F (i:Int)=some (match l.findIdx? p with| some k=> .inr (k:Int)| none=> .inl ()):=by
 intro d
 induction d with
 | zero=>
  intro i hi hj;have:i=l.length:=by omega
  subst this;have hn:l.findIdx? p=none:=by
   rw [qB];intro x hx;obtain ⟨j,hj',rfl⟩:=qo hx
   grind
  rw [h0,hn]
 | succ d ih=>
  intro i hi hj;have hil:i<l.length:=by omega
  rw [hs i hil];by_cases hp:p l[i]=true
  ·have hf:l.findIdx? p=some i:=by
    rw [pd]
    grind
   grind
  ·rw [xd hp];refine ih (i+1) (by omega) fun j h hji=>?_
   grind
def fldI (m:Mes) (number:Int):Int:=zhN (fun f:Fld=>f.Number==number) m.Fields
theorem ztv (hm:m.Fields.length<=1152921504606846976) (number:Int):zcA m number=some (fldI m number):=by
 unfold zcA fldI;have h:=zmO (fun f:Fld=>f.Number==number) m.Fields (fun i=>zbO m number i) (by
   refine zep ?_;unfold zaM;rw [itF (by simp)])
  (fun i hi=>by
   have hb:zaM m number i=if ((m.Fields[i]).Number==number)=true then some (.inr (.inr (i:Int))) else some (.inl ((i+1:Nat):Int)):=by
    grind [zaM,sb,zp,zad]
   by_cases hp:((m.Fields[i]).Number==number)=true
   ·rw [xe hp] at hb|-;exact zep hb
   ·rw [xd hp] at hb|-;exact zho hb)
  m.Fields.length 0 (by omega) (fun j _ hj=>by omega)
 grind [zhN,sb]
def nmc (i:Nat) (c:UInt8):Bool:=decide (65<=c.toNat/\c.toNat<=90\/97<=c.toNat/\c.toNat<=122\/c.toNat=95\/0<i/\48<=c.toNat/\c.toNat<=57)
def nmA:Nat->List UInt8->Bool
 | _,[]=>true
 | i,c::l=>nmc i c&&nmA (i+1) l
def zcL (s:List UInt8):Bool:=nmA 0 s&&decide (1<=s.length/\s.length<=60)
theorem zdV {α:Type} {l t:List α} {x:α} {k:Nat} (h:l.drop k=x::t):∃hk:k<l.length,l[k]=x/\l.drop (k+1)=t:=by
 have hk:k<l.length:=by
  rcases yj k l.length with h'| h'
  ·exact h'
  ·rw [yp h'] at h;cases h
 rw [yh hk] at h
 grind
theorem zeH {α:Type} {l:List α} {k:Nat} (h:l.drop k=[]):l.length<=k:=by have:=congrArg List.length h;simp at this;omega
theorem zwH (s:List UInt8) (hs:s.length<=1152921504606846976):∀(l:List UInt8) (i:Nat),s.drop i=l->zbv s i=some (if nmA i l=true then .inl () else .inr ()):=by
 intro l
 induction l with
 | nil=>
  intro i hd;have:=zeH hd;refine zev ?_;unfold zaS;rw [pw];rfl
 | cons c l ih=>
  intro i hd;obtain ⟨hk,hx,hd'⟩:=zdV hd;have hb:zaS s i=if nmc i c=true then some (.inl ((i+1:Nat):Int)) else some (.inr (.inr ())):=by
   unfold zaS;rw [pv,zad rfl hk,sb,hx,px];have e:(if (decide ((c.toNat:Int)>=65)) then ((decide ((c.toNat:Int)<=90))|| (if (decide ((c.toNat:Int)>=97)) then ((decide ((c.toNat:Int)<=122))|| (((c.toNat:Int)==95)|| ((decide ((i:Int)>0))&&((decide ((c.toNat:Int)>=48))&&(decide ((c.toNat:Int)<=57)))))) else (((c.toNat:Int)==95)|| ((decide ((i:Int)>0))&&((decide ((c.toNat:Int)>=48))&&(decide ((c.toNat:Int)<=57))))))) else (if (decide ((c.toNat:Int)>=97)) then ((decide ((c.toNat:Int)<=122))|| (((c.toNat:Int)==95)|| ((decide ((i:Int)>0))&&((decide ((c.toNat:Int)>=48))&&(decide ((c.toNat:Int)<=57)))))) else (((c.toNat:Int)==95)|| ((decide ((i:Int)>0))&&((decide ((c.toNat:Int)>=48))&&(decide ((c.toNat:Int)<=57)))))))=nmc i c:=by
    have e95:((c.toNat:Int)==95)=decide (c.toNat=95):=zry _ 95;have a1:decide ((c.toNat:Int)>=65)=decide (65<=c.toNat):=yq.2 (by omega);have a2:decide ((c.toNat:Int)<=90)=decide (c.toNat<=90):=yq.2 (by omega);have a3:decide ((c.toNat:Int)>=97)=decide (97<=c.toNat):=yq.2 (by omega);have a4:decide ((c.toNat:Int)<=122)=decide (c.toNat<=122):=yq.2 (by omega);have a5:decide ((i:Int)>0)=decide (0<i):=yq.2 (by omega);have a6:decide ((c.toNat:Int)>=48)=decide (48<=c.toNat):=yq.2 (by omega);have a7:decide ((c.toNat:Int)<=57)=decide (c.toNat<=57):=yq.2 (by omega);rw [e95,a1,a2,a3,a4,a5,a6,a7];simp only [nmc,Bool.decide_or,Bool.decide_and]
    grind
   grind
  rw [nmA];cases hc:nmc i c
  ·rw [hc,xd (by simp)] at hb;rw [zev hb];rfl
  ·rw [hc,xe rfl] at hb;rw [zhK hb,ih _ hd',qd]
theorem zpt (hs:s.length<=1152921504606846976):zcf s=some (zcL s):=by
 unfold zcf zcL;have h:=zwH s hs s 0 rfl;have h':zbv s 0=_:=h;rw [h',sb];cases nmA 0 s
 ·rfl
 ·simp [Bool.decide_and]
  grind
def zbm (n:Int) (prev:List Fld) (f:Fld):Int:=
 if zcL f.Name=false then 5 else if prev.any (fun g=>g.Name==f.Name)=true then 6
 else if f.Number<1\/f.Number>536870911\/(19000<=f.Number/\f.Number<20000) then 7
 else if prev.any (fun g=>g.Number==f.Number)=true then 8 else if zbS f.Kind=false then 9
 else if f.Packed=true/\¬(f.Repeated=true/\kNum f.Kind=true) then 10
 else if f.Kind=17/\(f.Of<0\/f.Of>=n)\/f.Kind≠17/\f.Of≠0 then 11 else 0
theorem zoC (n:Int) (prev:List Fld) (f:Fld):0<=zbm n prev f/\zbm n prev f<=11:=by
 unfold zbm;omega
theorem zus {s:List Mes} {i k:Nat} {m:Mes} (hi:∃h:i<s.length,s[i]=m) (hk:k<=m.Fields.length) (hb:m.Fields.length<=1152921504606846976) (f:Fld):
  ∀(l:List Fld) (j:Nat) (a b:Bool),(m.Fields.take k).drop j=l->j<=k->zbi i k s f a b j=some (a|| l.any (fun g=>g.Name==f.Name),b|| l.any (fun g=>g.Number==f.Number)):=by
 obtain ⟨hi,hm⟩:=hi;intro l
 induction l with
 | nil=>
  intro j a b hd hj;have:=zeH hd;rw [xK] at this;refine zhn ?_;unfold zaL
  grind
 | cons g l ih=>
  intro j a b hd hj;obtain ⟨hjk,hx,hd'⟩:=zdV hd;rw [xK] at hjk;rw [List.getElem_take] at hx;refine (zhm (name':=a|| (g.Name==f.Name)) (number':=b|| (g.Number==f.Number)) (j':=((j+1:Nat):Int)) ?_).trans ?_
  ·unfold zaL;have e1:idx s (i:Int)=some m:=by rw [zad rfl hi,hm]
   grind [zad,sb,zp]
  ·rw [ih _ _ _ hd' (by omega),yQ,yQ,pf,pf]
theorem ztu {s:List Mes} {i k:Nat} {m:Mes} {f:Fld} (hi:∃h:i<s.length,s[i]=m) (hk:∃h:k<m.Fields.length,m.Fields[k]=f) (hb:m.Fields.length<=1152921504606846976) (hf:f.Name.length<=1152921504606846976):
  zcz s i k=some (zbm s.length (m.Fields.take k) f):=by
 obtain ⟨hil,hm⟩:=hi;obtain ⟨hkl,hfe⟩:=hk;have e1:idx s (i:Int)=some m:=by rw [zad rfl hil,hm]
 have e2:idx m.Fields (k:Int)=some f:=by rw [zad rfl hkl,hfe]
 have h:=zus ⟨hil,hm⟩ (Nat.le_of_lt hkl) hb f (m.Fields.take k) 0 false false rfl (xm _);have h':zbi i k s f false false 0=_:=h;unfold zcz zbm;rw [e1,sb,e2,sb,h',sb,zpt hf,sb];simp only [pg];cases h1:zcL f.Name
 ·rfl
 ·rw [pu,xd (show ¬(true=false) by simp)];cases h2:(m.Fields.take k).any (fun g=>g.Name==f.Name)
  ·rw [pu,xd (show ¬(false=true) by simp)];by_cases h3:f.Number<1\/f.Number>536870911\/(19000<=f.Number/\f.Number<20000)
   ·grind
   ·rw [pw,xd h3];cases h4:(m.Fields.take k).any (fun g=>g.Number==f.Number)
    ·grind [zmo,sb,zls]
    rfl
  rfl
def msgF (n:Int) (prev:List Fld):List Fld->Option (Nat×Int)
 | []=>none
 | f::l=>if 0<zbm n prev f then some (prev.length,zbm n prev f) else msgF n (prev++[f]) l
def chkF (n:Int) (prev:List Mes):List Mes->Option (Nat×Int×Int)
 | []=>none
 | m::l=>if zcL m.Name=false then some (prev.length, -1,2) else if prev.any (fun g=>g.Name==m.Name)=true then some (prev.length, -1,3)
  else if 200<m.Fields.length then some (prev.length, -1,4) else match msgF n [] m.Fields with
   | some (k,w)=>some (prev.length,(k:Int),w)
   | none=>chkF n (prev++[m]) l
def zfw (s:List Mes):Int×Int×Int:=if s.length=0\/100<s.length then (-1, -1,1) else match chkF s.length [] s with
 | none=>(0,0,0)
 | some (i,k,w)=>((i:Int),k,w)
def zlu (s:List Mes):Bool:=decide ((zfw s).2.2=0)
def WS (s:List Mes):Prop:=s.length<=140737488351232/\∀m∈s,m.Name.length<=140737488351232/\m.Fields.length<=140737488351232/\∀f∈m.Fields,f.Name.length<=140737488351232
theorem zsI {s:List Mes} {i:Nat} {m:Mes} (hi:∃h:i<s.length,s[i]=m) (hb:m.Fields.length<=140737488351232) (hn:∀f∈m.Fields,f.Name.length<=140737488351232):
  ∀(l:List Fld) (k:Nat),m.Fields.drop k=l->k<=m.Fields.length->zbh i s k=some (match msgF s.length (m.Fields.take k) l with| some (j,w)=> .inr ((j:Int),w)| none=> .inl ()):=by
 obtain ⟨hil,hm⟩:=hi;have e1:idx s (i:Int)=some m:=by rw [zad rfl hil,hm]
 intro l
 induction l with
 | nil=>
  intro k hd hk;have:=zeH hd;refine zeo ?_;unfold zaK;rw [e1,sb,pw];rfl
 | cons f l ih=>
  intro k hd hk;obtain ⟨hkl,hx,hd'⟩:=zdV hd;have hf:=ztu (s:=s) (i:=i) (k:=k) (m:=m) (f:=f) ⟨hil,hm⟩ ⟨hkl,hx⟩ (by omega) (by have:=hn f (by rw [<-hx];exact xM hkl);omega);have hbd:=zoC s.length (m.Fields.take k) f;have htl:(m.Fields.take k).length=k:=by rw [xK];omega
  rw [msgF];by_cases h0:0<zbm s.length (m.Fields.take k) f
  ·rw [xe h0];refine zeo ?_;unfold zaK
   grind
  ·rw [xd h0];refine (zhl (k2':=((k+1:Nat):Int)) ?_).trans ?_
   ·unfold zaK;rw [e1,sb,pv,hf,sb,pw,px];push_cast;rfl
   grind
theorem zsH (hi:∃h:i<s.length,s[i]=m) (hs:s.length<=140737488351232):
  ∀(l:List Mes) (k:Nat) (a:Bool),(s.take i).drop k=l->k<=i->zbg i s a k=some (a|| l.any (fun g=>g.Name==m.Name)):=by
 obtain ⟨hil,hm⟩:=hi;intro l
 induction l with
 | nil=>
  intro k a hd hk;have:=zeH hd;rw [xK] at this;refine zhk ?_;unfold zaJ
  grind
 | cons g l ih=>
  intro k a hd hk;obtain ⟨hkl,hx,hd'⟩:=zdV hd;rw [xK] at hkl;rw [List.getElem_take] at hx;refine (zhj (twice':=a|| (g.Name==m.Name)) (k':=((k+1:Nat):Int)) ?_).trans ?_
  ·grind [zaJ,sb,zp,zad]
  ·rw [ih _ _ hd' (by omega),yQ,pf]
theorem zsG (hw:WS s):∀(l:List Mes) (i:Nat),s.drop i=l->i<=s.length->zbN s i=some (match chkF s.length (s.take i) l with| some (j,k,w)=> .inr ((j:Int),k,w)| none=> .inl ()):=by
 intro l
 induction l with
 | nil=>
  intro i hd hi;have:=zeH hd;refine zaZ ?_;unfold zaI;rw [pw];rfl
 | cons m l ih=>
  intro i hd hi;obtain ⟨hil,hx,hd'⟩:=zdV hd;obtain ⟨hsl,hwm⟩:=hw;obtain ⟨w1,w2,w3⟩:=hwm m (by rw [<-hx];exact xM hil);have htl:(s.take i).length=i:=by rw [xK];omega
  have e1:idx s (i:Int)=some m:=by rw [zad rfl hil,hx]
  have h2:=zsH ⟨hil,hx⟩ hsl (s.take i) 0 false rfl (xm _);have h2':zbg i s false 0=_:=h2;have h3:=zsI ⟨hil,hx⟩ w2 w3 m.Fields 0 rfl (xm _);have h3':zbh i s 0=_:=h3
  have hb:zaI s i=(if zcL m.Name=false then some (.inr (.inr ((i:Int), -1,2))) else if (s.take i).any (fun g=>g.Name==m.Name)=true then some (.inr (.inr ((i:Int), -1,3)))
    else if 200<m.Fields.length then some (.inr (.inr ((i:Int), -1,4))) else match msgF s.length [] m.Fields with
     | some (k,w)=>some (.inr (.inr ((i:Int),(k:Int),w)))
     | none=>some (.inl ((i+1:Nat):Int))):=by
   unfold zaI;rw [pv,h2',sb,e1,sb,zpt (by omega),sb,sb,h3',sb,pg];cases h4:zcL m.Name
   ·rfl
   ·rw [pu,xd (show ¬(true=false) by simp)];cases h5:(s.take i).any (fun g=>g.Name==m.Name)
    ·rw [pu,xd (show ¬(false=true) by simp)];by_cases h6:200<m.Fields.length
     ·grind
     ·rw [pw,xd h6,yl];cases msgF s.length [] m.Fields with
      | none=>simp only;rw [px];push_cast;rfl
      | some p=>rfl
    rfl
  rw [chkF];by_cases h4:zcL m.Name=false
  ·rw [xe h4] at hb|-;rw [zaZ hb];simp only [htl]
  ·rw [xd h4] at hb|-;by_cases h5:(s.take i).any (fun g=>g.Name==m.Name)=true
   ·rw [xe h5] at hb|-;rw [zaZ hb];simp only [htl]
   ·rw [xd h5] at hb|-;by_cases h6:200<m.Fields.length
    ·rw [xe h6] at hb|-;rw [zaZ hb];simp only [htl]
    ·rw [xd h6] at hb|-;cases h7:msgF s.length [] m.Fields with
     | some p=>
      rw [h7] at hb;rw [zaZ hb];simp only [htl]
     | none=>
      rw [h7] at hb;rw [zhi hb,ih _ hd' (by omega),ph hil,hx]
theorem zqe (hw:WS s):zcy s=some (zfw s):=by
 unfold zcy zfw;by_cases h:s.length=0\/100<s.length
 ·grind
 ·have e0:((s.length:Int)==0)=decide (s.length=0):=zry _ 0;rw [e0,itF (by simp only [yA,pi];omega),xd h];have h1:=zsG hw s 0 rfl (xm _)
  grind
theorem zqg (hw:WS s):zcB s=some (zlu s):=by
 unfold zcB zlu;rw [zqe hw,sb];rfl
theorem zmX :∀(l prev:List Fld),msgF n prev l=none↔∀(k:Nat) (f:Fld),l[k]? =some f->zbm n (prev++l.take k) f=0
 | [],prev=>by simp [msgF]
 | f::l,prev=>by
  have hb:=zoC n prev f;rw [msgF];by_cases h:0<zbm n prev f
  ·rw [xe h];refine ⟨(fun h'=>nomatch h'),fun h'=>?_⟩;have:=h' 0 f rfl;simp at this;omega
  ·rw [xd h,zmX l (prev++[f])];constructor
   ·intro h' k g hg;cases k with
    | zero=>simp at hg;subst hg;simp;omega
    | succ k=>have:=h' k g (by simpa using hg);simpa using this
   ·intro h' k g hg;have:=h' (k+1) g (by simpa using hg);simpa using this
theorem zqu :∀(l prev:List Mes),chkF n prev l=none↔∀(i:Nat) (m:Mes),l[i]? =some m->zcL m.Name=true/\(prev++l.take i).any (fun g=>g.Name==m.Name)=false/\m.Fields.length<=200/\msgF n [] m.Fields=none
 | [],prev=>by simp [chkF]
 | m::l,prev=>by
  rw [chkF];by_cases h1:zcL m.Name=false
  ·rw [xe h1];refine ⟨(fun h'=>nomatch h'),fun h'=>?_⟩;have:=(h' 0 m rfl).1;rw [h1] at this;cases this
  ·rw [xd h1];by_cases h2:prev.any (fun g=>g.Name==m.Name)=true
   ·rw [xe h2];refine ⟨(fun h'=>nomatch h'),fun h'=>?_⟩;have:=(h' 0 m rfl).2.1;simp only [yl,qc] at this;rw [h2] at this;cases this
   ·rw [xd h2];by_cases h3:200<m.Fields.length
    ·rw [xe h3];refine ⟨(fun h'=>nomatch h'),fun h'=>?_⟩;have:=(h' 0 m rfl).2.2.1;omega
    ·rw [xd h3];cases h4:msgF n [] m.Fields with
     | some p=>
      refine ⟨(fun h'=>nomatch h'),fun h'=>?_⟩;have:=(h' 0 m rfl).2.2.2;rw [h4] at this;cases this
     | none=>
      simp only;rw [zqu l (prev++[m])];constructor
      ·intro h' i g hg;cases i with
       | zero=>simp at hg;subst hg;exact ⟨by simpa using h1,by simpa using h2,by omega,h4⟩
       | succ i=>have:=h' i g (by simpa using hg);simpa using this
      ·intro h' i g hg;have:=h' (i+1) g (by simpa using hg);simpa using this
theorem zzH:∀(n:Int) (l prev:List Fld) (k:Nat) (w:Int),msgF n prev l=some (k,w)->0<w:=by
 intro n l
 induction l with
 | nil=>intro prev k w h;cases h
 | cons f l ih=>
  intro prev k w h;rw [msgF] at h
  grind
theorem zvk:∀(n:Int) (l prev:List Mes) (i:Nat) (k w:Int),chkF n prev l=some (i,k,w)->0<w:=by
 intro n l
 induction l with
 | nil=>intro prev i k w h;cases h
 | cons m l ih=>
  intro prev i k w h;rw [chkF] at h;split at h
  ·cases h;omega
  ·split at h
   ·cases h;omega
   ·split at h
    ·cases h;omega
    ·split at h
     ·rename_i k' w' h';cases h;exact zzH _ _ _ _ _ h'
     grind
structure zAg (n:Int) (f:Fld):Prop where
 name:zcL f.Name=true
 lo:1<=f.Number
 hi:f.Number<=536870911
 kind:zbS f.Kind=true
 packed:f.Packed=true->f.Repeated=true/\kNum f.Kind=true
 sub:f.Kind=17->0<=f.Of/\f.Of<n
 noSub:f.Kind≠17->f.Of=0
theorem zoD (h:zbm n prev f=0):zAg n f/\prev.any (fun g=>g.Name==f.Name)=false/\prev.any (fun g=>g.Number==f.Number)=false:=by
 unfold zbm at h;split at h
 ·omega
 ·rename_i h1;split at h
  ·omega
  ·rename_i h2;split at h
   ·omega
   ·rename_i h3;split at h
    ·omega
    ·rename_i h4;split at h
     ·omega
     ·rename_i h5;split at h
      ·omega
      ·rename_i h6;split at h
       ·omega
       ·rename_i h7;refine ⟨⟨by simpa using h1,by omega,by omega,by simpa using h5,fun hp=>?_,fun hk=>by omega,fun hk=>by omega⟩,by simpa using h2,by simpa using h4⟩
        grind
structure zop (s:List Mes):Prop where
 len:1<=s.length/\s.length<=100
 name:∀m∈s,zcL m.Name=true
 names:∀(i j:Nat) (a b:Mes),i<j->s[i]? =some a->s[j]? =some b->a.Name≠b.Name
 few:∀m∈s,m.Fields.length<=200
 fld:∀m∈s,∀f∈m.Fields,zAg s.length f
 nums:∀m∈s,∀(i j:Nat) (f g:Fld),i<j->m.Fields[i]? =some f->m.Fields[j]? =some g->f.Number≠g.Number/\f.Name≠g.Name
theorem zwQ {s:List Mes} (h:zlu s=true):zop s:=by
 have h0:(zfw s).2.2=0:=by simpa [zlu] using h
 have h1:¬(s.length=0\/100<s.length):=fun hh=>by unfold zfw at h0;rw [xe hh] at h0;simp at h0
 have h2:chkF s.length [] s=none:=by
  cases h4:chkF s.length [] s with
  | none=>rfl
  | some p=>
   exfalso;obtain ⟨i,k,w⟩:=p;have h5:(zfw s).2.2=w:=by unfold zfw;rw [xd h1,h4]
   have:=zvk _ _ _ _ _ _ h4;omega
 have h3:=(zqu s []).1 h2;have at':∀m∈s,zcL m.Name=true/\m.Fields.length<=200/\msgF s.length [] m.Fields=none:=fun m hm=>by
  obtain ⟨i,hi,rfl⟩:=qo hm;have:=h3 i _ (xu hi)
  grind
 refine ⟨by omega,fun m hm=>(at' m hm).1,fun i j a b hij ha hb=>?_,fun m hm=>(at' m hm).2.1,fun m hm f hf=>?_,fun m hm i j f g hij hf hg=>?_⟩
 ·have:=(h3 j b hb).2.1;have hai:a∈([]++s.take j:List Mes):=by
   rw [xU];exact qt (i:=i) (by rw [x9,xe hij];exact ha)
  grind
 ·have h4:=(zmX m.Fields []).1 (at' m hm).2.2;obtain ⟨i,hi,rfl⟩:=qo hf;exact (zoD (h4 i _ (xu hi))).1
 ·have h4:=(zmX m.Fields []).1 (at' m hm).2.2;obtain ⟨_,k1,k2⟩:=zoD (h4 j g hg);have hai:f∈([]++m.Fields.take j:List Fld):=by
   rw [xU];exact qt (i:=i) (by rw [x9,xe hij];exact hf)
  grind
theorem zuS {α:Type} [DecidableEq α] (a b:List α) (F:Int->Option (Unit⊕Unit)) (hl:a.length=b.length) (h0:F (a.length:Int)=some (.inl ()))
  (hs:∀(i:Nat) (h:i<a.length) (h':i<b.length),F (i:Int)=if a[i]=b[i] then F ((i+1:Nat):Int) else some (.inr ())):
  ∀(d i:Nat),i+d=a.length->F (i:Int)=some (if a.drop i=b.drop i then .inl () else .inr ()):=by
 intro d
 induction d with
 | zero=>
  grind
 | succ d ih=>
  intro i hi;rw [hs i (by omega) (by omega),yh (l:=a) (by omega),yh (l:=b) (by omega)]
  grind
theorem zuN {a b:List Int} (ha:a.length<=1152921504606846976):zbj a b=some (decide (a=b)):=by
 unfold zbj;by_cases hl:a.length=b.length
 ·rw [pw];have h:=zuS a b (fun i=>zbl a b i) hl (by
    refine zdx ?_;unfold zar;rw [itF (by simp)])
   (fun i hi hi'=>by
    by_cases hp:a[i]=b[i]
    ·rw [xe hp];refine zgk ?_
     grind [zar,sb,zp,zad]
    ·rw [xd hp];refine zdx ?_;unfold zar;rw [pv,zad rfl hi,sb,zad rfl hi',sb,itT (by simp [hp])])
   a.length 0 (by omega)
  grind
 ·rw [pv];have:a≠b:=fun e=>hl (by rw [e])
  simp [this]
theorem zwm {s:List Mes} {i:Nat} {m:Mes} (hi:∃h:i<s.length,s[i]=m) (hb:m.Fields.length<=140737488351232):∀(d k:Nat) (n:Int),k+d=m.Fields.length->∃r,zbH i s n k=some r:=by
 obtain ⟨hil,hm⟩:=hi;have e1:idx s (i:Int)=some m:=by rw [zad rfl hil,hm]
 intro d
 induction d with
 | zero=>
  intro k n hk;refine ⟨n,zia ?_⟩;unfold zbb
  grind
 | succ d ih=>
  intro k n hk;obtain ⟨r,hr⟩:=ih (k+1) (i64.wrap (n+(i64.wrap (Int.tdiv (((m.Fields[k]'(by omega)).Name.length:Int)) 100)))) (by omega);refine ⟨r,(zhZ (k':=((k+1:Nat):Int)) ?_).trans hr⟩
  grind [zbb,sb,zp,zad]
theorem zAN {s:List Mes} (hw:WS s):∃b,zdf s=some b:=by
 obtain ⟨hs,hm⟩:=hw;have key:∀(d i:Nat) (n:Int),i+d=s.length->∃r,zbG s n i=some r:=by
  intro d
  induction d with
  | zero=>
   intro i n hi;refine ⟨n,zhY ?_⟩;unfold zba
   grind
  | succ d ih=>
   intro i n hi;have hil:i<s.length:=by omega
   obtain ⟨q,hq⟩:=zwm (s:=s) (i:=i) (m:=s[i]) ⟨hil,rfl⟩ (hm _ (xM hil)).2.1 (s[i]).Fields.length 0
    (i64.wrap ((i64.wrap ((i64.wrap (n+1))+(i64.wrap (Int.tdiv ((s[i]).Name.length:Int) 100))))+((s[i]).Fields.length:Int))) (by omega)
   have hq':zbH i s (i64.wrap ((i64.wrap ((i64.wrap (n+1))+(i64.wrap (Int.tdiv ((s[i]).Name.length:Int) 100))))+((s[i]).Fields.length:Int))) 0=some q:=hq;obtain ⟨r,hr⟩:=ih (i+1) q (by omega);refine ⟨r,(zhX (i':=((i+1:Nat):Int)) ?_).trans hr⟩
   grind [zba,sb,zp,zad]
 obtain ⟨r,hr⟩:=key s.length 0 0 (by omega);have hr':zbG s 0 0=some r:=hr;exact ⟨_,by unfold zdf;rw [hr',sb]⟩
def zAl (m:Mes) (p:Int):Int:=(m.Fields.getD p.toNat ⟨[],0,0,false,false,0⟩).Number
def zAJ (κ:Int->Int) (a b:Int):Prop:=κ a<κ b\/κ a=κ b/\a<b
def cpN (r:Nat):List Nat:=
 if r<128 then [r] else if r<2048 then [192+r/64,128+r%64]
 else if r<65536 then (if 55296<=r/\r<=57343 then [] else [224+r/4096,128+r/64%64,128+r%64])
 else if r<=1114111 then [240+r/262144,128+r/4096%64,128+r/64%64,128+r%64] else []
def cpB (r:Nat):List UInt8:=(cpN r).map UInt8.ofNat
def cont (c:UInt8):Bool:=decide (128<=c.toNat/\c.toNat<192)
def is1:List UInt8->Bool
 | a::_=>decide (a.toNat<128)
 | _=>false
def is2:List UInt8->Bool
 | a::b::_=>decide (194<=a.toNat/\a.toNat<224/\cont b=true)
 | _=>false
def is3:List UInt8->Bool
 | a::b::c::_=>decide (224<=a.toNat/\a.toNat<240/\cont b=true/\cont c=true/\(a.toNat=224->160<=b.toNat)/\(a.toNat=237->b.toNat<160))
 | _=>false
def is4:List UInt8->Bool
 | a::b::c::d::_=>decide (240<=a.toNat/\a.toNat<245/\cont b=true/\cont c=true/\cont d=true/\(a.toNat=240->144<=b.toNat)/\(a.toNat=244->b.toNat<144))
 | _=>false
def nxt (l:List UInt8):Nat:=if is1 l then 1 else if is2 l then 2 else if is3 l then 3 else if is4 l then 4 else 0
theorem zmd (h:n<256):(UInt8.ofNat n=c)↔n=c.toNat:=by
 constructor
 ·intro e;rw [<-e,UInt8.toNat_ofNat'];omega
 ·intro e;rw [e,UInt8.ofNat_toNat]
theorem zyr (r:Int):zdh r=some (if r<0 then [] else cpB r.toNat):=by
 unfold zdh;by_cases h0:r<0
 ·rw [pv,xe h0]
 ·rw [xd h0];obtain ⟨n,rfl⟩:∃n:Nat,r=n:=⟨r.toNat,by omega⟩;rw [xw];unfold cpB cpN;by_cases h1:n<128
  ·rw [pw,pv,xe h1,zom,zdH (n:=n) (by omega) (by omega)];rfl
  ·rw [xd h1];by_cases h2:n<2048
   ·rw [pw,pw,pv,xe h2];simp only [qC (show (0:Int)<=n by omega),ym (show (0:Int)<=n by omega),zom];rw [zp (x:=(n:Int)/64) (by omega),px,px,zdH (n:=192+n/64) (by omega) (by omega),sb,zdH (n:=128+n%64) (by omega) (by omega)];rfl
   ·rw [xd h2];by_cases h3:n<65536
    ·rw [xe h3];by_cases h4:55296<=n/\n<=57343
     ·rw [pv,xe h4];rfl
     ·rw [pw,pw,pw,pv,xd h4];simp only [qC (show (0:Int)<=n by omega),ym (show (0:Int)<=n by omega),zom]
      rw [zp (x:=(n:Int)/4096) (by omega),zp (x:=(n:Int)/64) (by omega),ym (by omega),px,px,px,
       zdH (n:=224+n/4096) (by omega) (by omega),sb,zdH (n:=128+n/64%64) (by omega) (by omega),sb,zdH (n:=128+n%64) (by omega) (by omega)];rfl
    ·rw [xd h3];by_cases h4:n<=1114111
     ·rw [pw,pw,pw,pw,xe h4];simp only [qC (show (0:Int)<=n by omega),ym (show (0:Int)<=n by omega),zom]
      rw [zp (x:=(n:Int)/262144) (by omega),zp (x:=(n:Int)/4096) (by omega),zp (x:=(n:Int)/64) (by omega),ym (by omega),ym (by omega),px,px,px,px,
       zdH (n:=240+n/262144) (by omega) (by omega),sb,zdH (n:=128+n/4096%64) (by omega) (by omega),sb,zdH (n:=128+n/64%64) (by omega) (by omega),sb,zdH (n:=128+n%64) (by omega) (by omega)];rfl
     ·rw [pv,xd h4];rfl
def zox:Nat->List UInt8->Nat
 | 1,a::_=>a.toNat
 | 2,a::b::_=>64*(a.toNat%32)+b.toNat%64
 | 3,a::b::c::_=>64*(64*(a.toNat%16)+b.toNat%64)+c.toNat%64
 | 4,a::b::c::d::_=>64*(64*(64*(a.toNat%8)+b.toNat%64)+c.toNat%64)+d.toNat%64
 | _,_=>0
theorem map1 (h:∀x∈l,x<256):l.map UInt8.ofNat=[a]↔l=[a.toNat]:=by
 cases l with
 | nil=>simp
 | cons x l=>cases l with
  | nil=>simp only [xC,yL,yf,qe];exact zmd (h x (by simp))
  | cons y l=>simp
theorem map2 (h:∀x∈l,x<256):l.map UInt8.ofNat=[a,b]↔l=[a.toNat,b.toNat]:=by
 cases l with
 | nil=>simp
 | cons x l=>simp only [xC,yf,zmd (h x (by simp)),map1 (l:=l) fun y hy=>h y (by simp [hy])]
theorem map3 (h:∀x∈l,x<256):l.map UInt8.ofNat=[a,b,c]↔l=[a.toNat,b.toNat,c.toNat]:=by
 cases l with
 | nil=>simp
 | cons x l=>simp only [xC,yf,zmd (h x (by simp)),map2 (l:=l) fun y hy=>h y (by simp [hy])]
theorem map4 (h:∀x∈l,x<256):l.map UInt8.ofNat=[a,b,c,d]↔l=[a.toNat,b.toNat,c.toNat,d.toNat]:=by
 cases l with
 | nil=>simp
 | cons x l=>simp only [xC,yf,zmd (h x (by simp)),map3 (l:=l) fun y hy=>h y (by simp [hy])]
theorem zrH (r:Nat):∀x∈cpN r,x<256:=by
 intro x hx;unfold cpN at hx;split at hx
 ·simp at hx;omega
 ·split at hx
  ·simp at hx;omega
  ·split at hx
   ·split at hx
    ·cases hx
    ·simp at hx;omega
   ·split at hx
    ·simp at hx;omega
    ·cases hx
theorem cpB1 (a:UInt8):cpB a.toNat=[a]↔a.toNat<128:=by
 have ha:=a.toNat_lt;unfold cpB;rw [map1 (zrH _)];unfold cpN;by_cases h:a.toNat<128
 ·simp [h]
 ·rw [xd h,xe (by omega)];simp;omega
theorem cpB2 (a b:UInt8):cpB (64*(a.toNat%32)+b.toNat%64)=[a,b]↔194<=a.toNat/\a.toNat<224/\cont b=true:=by
 have ha:=a.toNat_lt;have hb:=b.toNat_lt;unfold cpB cont;rw [map2 (zrH _)];unfold cpN;by_cases h:64*(a.toNat%32)+b.toNat%64<128
 ·rw [xe h];simp;omega
 ·rw [xd h,xe (by omega)];simp;omega
theorem cpB3 (a b c:UInt8):cpB (64*(64*(a.toNat%16)+b.toNat%64)+c.toNat%64)=[a,b,c]↔224<=a.toNat/\a.toNat<240/\cont b=true/\cont c=true/\(a.toNat=224->160<=b.toNat)/\(a.toNat=237->b.toNat<160):=by
 have ha:=a.toNat_lt;have hb:=b.toNat_lt;have hc:=c.toNat_lt;unfold cpB cont;rw [map3 (zrH _)];unfold cpN;by_cases h:64*(64*(a.toNat%16)+b.toNat%64)+c.toNat%64<128
 ·rw [xe h];simp;omega
 ·rw [xd h];by_cases h2:64*(64*(a.toNat%16)+b.toNat%64)+c.toNat%64<2048
  ·rw [xe h2];simp;omega
  ·rw [xd h2,xe (by omega)];by_cases h3:55296<=64*(64*(a.toNat%16)+b.toNat%64)+c.toNat%64/\64*(64*(a.toNat%16)+b.toNat%64)+c.toNat%64<=57343
   ·rw [xe h3];simp;omega
   ·rw [xd h3];simp;omega
theorem cpB4 (a b c d:UInt8):cpB (64*(64*(64*(a.toNat%8)+b.toNat%64)+c.toNat%64)+d.toNat%64)=[a,b,c,d]↔
  240<=a.toNat/\a.toNat<245/\cont b=true/\cont c=true/\cont d=true/\(a.toNat=240->144<=b.toNat)/\(a.toNat=244->b.toNat<144):=by
 have ha:=a.toNat_lt;have hb:=b.toNat_lt;have hc:=c.toNat_lt;have hd:=d.toNat_lt;unfold cpB cont;rw [map4 (zrH _)];unfold cpN;by_cases h:64*(64*(64*(a.toNat%8)+b.toNat%64)+c.toNat%64)+d.toNat%64<65536
 ·have:∀l:List Nat,l.length<=3->(l=[a.toNat,b.toNat,c.toNat,d.toNat])=False:=fun l hl=>by simp only [eq_iff_iff,iff_false];intro e;rw [e] at hl;simp at hl
  rw [xe h];split
  ·rw [this _ (by simp)];simp;omega
  ·split
   ·rw [this _ (by simp)];simp;omega
   ·split
    ·rw [this _ (by simp)];simp;omega
    ·rw [this _ (by simp)];simp;omega
 ·rw [xd (by omega),xd (by omega),xd h];by_cases h2:64*(64*(64*(a.toNat%8)+b.toNat%64)+c.toNat%64)+d.toNat%64<=1114111
  ·rw [xe h2];simp;omega
  ·rw [xd h2];simp;omega
def isN (n:Nat) (l:List UInt8):Bool:=match n with
 | 1=>is1 l
 | 2=>is2 l
 | 3=>is3 l
 | 4=>is4 l
 | _=>false
theorem zvx (n:Nat) (l:List UInt8) (h1:1<=n) (h4:n<=4) (hl:n<=l.length):cpB (zox n l)=l.take n↔isN n l=true:=by
 match n,l,h1,h4,hl with
 | 1,a::t,_,_,_=>simp only [zox,ya,yl,cpB1,isN,is1,xt]
 | 2,a::b::t,_,_,_=>simp only [zox,ya,yl,cpB2,isN,is2,xt]
 | 3,a::b::c::t,_,_,_=>simp only [zox,ya,yl,cpB3,isN,is3,xt]
 | 4,a::b::c::d::t,_,_,_=>simp only [zox,ya,yl,cpB4,isN,is4,xt]
theorem zvy (n:Nat) (l:List UInt8) (h:l.length<n):isN n l=false:=by
 match n,l with
 | 0,_=>rfl
 | 1,[]=>rfl
 | 2,[]=>rfl
 | 2,[_]=>rfl
 | 3,[]=>rfl
 | 3,[_]=>rfl
 | 3,[_,_]=>rfl
 | 4,[]=>rfl
 | 4,[_]=>rfl
 | 4,[_,_]=>rfl
 | 4,[_,_,_]=>rfl
 | n+5,_=>rfl
 | 1,_::_=>simp at h
 | 2,_::_::_=>simp at h;omega
 | 3,_::_::_::_=>simp at h;omega
 | 4,_::_::_::_::_=>simp at h;omega
theorem zkx {b:List UInt8} {a n i r:Nat} (hb:b.length<=1152921504606846976) (hn:n<=4) (h:i<n) (ha:a+i<b.length) (hr:r<=1000000000):
  zan a b n r i=zan a b n ((64*r+(b[a+i]).toNat%64:Nat):Int) ((i+1:Nat):Int):=by
 refine zhI ?_;unfold zaR;have hc:=(b[a+i]).toNat_lt;rw [pv,px,zad (show (a:Int)+i=((a+i:Nat):Int) by push_cast;rfl) ha,sb];simp (disch:=omega) only [zp,ym];push_cast;rfl
theorem zrM (h:n<=i):zan a b n r i=some (r:Int):=by
 refine zhJ ?_;unfold zaR;rw [pw]
theorem zgK {b:List UInt8} {a i:Nat} {c:UInt8} (h:(b.drop a)[i]? =some c):∃h:a+i<b.length,b[a+i]=c:=by
 rw [yy] at h;exact xY.1 h
theorem zBL {b:List UInt8} {a n:Nat} {c:UInt8} {t:List UInt8} (hb:b.length<=1152921504606846976) (hl:b.drop a=c::t) (h1:1<=n) (h4:n<=4) (hn:n<=(b.drop a).length):
  zan a b n ((if 1<n then c.toNat%([0,0,32,16,8].getD n 0) else c.toNat:Nat):Int) (1:Nat)=some ((zox n (b.drop a):Nat):Int):=by
 have hc:=c.toNat_lt;rw [hl] at hn
 match n,t,h1,h4,hn with
 | 1,t,_,_,_=>rw [zrM (by omega),hl];rfl
 | 2,x::t,_,_,_=>
  obtain ⟨g1,e1⟩:=zgK (b:=b) (a:=a) (i:=1) (c:=x) (by rw [hl];rfl);rw [xe (by omega),zkx hb (by omega) (by omega) g1 (by simp;omega),zrM (by omega),hl,e1];rfl
 | 3,x::y::t,_,_,_=>
  obtain ⟨g1,e1⟩:=zgK (b:=b) (a:=a) (i:=1) (c:=x) (by rw [hl];rfl);obtain ⟨g2,e2⟩:=zgK (b:=b) (a:=a) (i:=2) (c:=y) (by rw [hl];rfl);have hx:=x.toNat_lt;rw [xe (by omega),zkx hb (by omega) (by omega) g1 (by simp;omega),zkx hb (by omega) (by omega) g2 (by simp;omega),zrM (by omega),hl,e1,e2];rfl
 | 4,x::y::z::t,_,_,_=>
  obtain ⟨g1,e1⟩:=zgK (b:=b) (a:=a) (i:=1) (c:=x) (by rw [hl];rfl);obtain ⟨g2,e2⟩:=zgK (b:=b) (a:=a) (i:=2) (c:=y) (by rw [hl];rfl);obtain ⟨g3,e3⟩:=zgK (b:=b) (a:=a) (i:=3) (c:=z) (by rw [hl];rfl);have hx:=x.toNat_lt;have hy:=y.toNat_lt;rw [xe (by omega),zkx hb (by omega) (by omega) g1 (by simp;omega),zkx hb (by omega) (by omega) g2 (by simp;omega),zkx hb (by omega) (by omega) g3 (by simp;omega),zrM (by omega),hl,e1,e2,e3];rfl
theorem zAh {b:List UInt8} {a n:Nat} (hb:b.length<=1152921504606846976) (ha:a<=b.length) (h1:1<=n) (h5:n<=5):
  zbt a b n=if isN n (b.drop a) then some (.inr (.inr (n:Int))) else if n<=4/\n<=(b.drop a).length then some (.inl ((n+1:Nat):Int)) else some (.inr (.inl ())):=by
 have hdl:(b.drop a).length=b.length - a:=by simp
 unfold zbt;by_cases h:n<=4/\n<=(b.drop a).length
 ·rw [xe h,px,pv];obtain ⟨c,t,hl⟩:∃c t,b.drop a=c::t:=by
   cases hh:b.drop a with
   | nil=>rw [hh] at h;simp at h;omega
   | cons c t=>exact ⟨c,t,rfl⟩
  obtain ⟨g0,e0⟩:=zgK (b:=b) (a:=a) (i:=0) (c:=c) (by rw [hl];rfl);have hc:=c.toNat_lt;rw [zad rfl (show a<b.length by omega),sb];have e0':b[a]'(by omega)=c:=by simpa using e0
  rw [e0',px];have hp:(if (decide ((n:Int)>1))=true then (idx ([0,0,32,16,8]:(List Int)) (n:Int)>>=fun x2=>remI (c.toNat:Int) x2>>=fun v3=>some v3) else some (c.toNat:Int))=some (((if 1<n then c.toNat%([0,0,32,16,8].getD n 0) else c.toNat:Nat)):Int):=by
   match n,h1,h.1 with
   | 1,_,_=>rfl
   | 2,_,_=>rfl
   | 3,_,_=>rfl
   | 4,_,_=>rfl
  rw [hp,sb];have h2:=zBL hb hl h1 h.1 h.2;have h2':zan a b n ((if 1<n then c.toNat%([0,0,32,16,8].getD n 0) else c.toNat:Nat):Int) 1=some ((zox n (b.drop a):Nat):Int):=h2;rw [h2',sb,zyr,sb,xd (by omega),xw,zes rfl (show (a:Int)+n=((a+n:Nat):Int) by push_cast;rfl) (by omega) (by omega),sb,q9];by_cases hi:isN n (b.drop a)=true
  ·rw [xe hi,itT (by simpa using (zvx n _ h1 h.1 h.2).2 hi)]
  ·rw [xd hi,itF (by simpa using fun e=>hi ((zvx n _ h1 h.1 h.2).1 e)),px];rfl
 ·have hn:isN n (b.drop a)=false:=by
   by_cases h4:n<=4
   ·exact zvy _ _ (by omega)
   ·have:n=5:=by omega
    subst this;rfl
  rw [xd h,hn,px,pw];rfl
theorem zpv {b:List UInt8} {a:Nat} (hb:b.length<=1152921504606846976) (ha:a<=b.length):zcS b a=some ((nxt (b.drop a):Nat):Int):=by
 have key:∀(k n:Nat),n+k=5->1<=n->(∀j,1<=j->j<n->isN j (b.drop a)=false)->∃q,zbu a b n=some q/\(match q with| .inl _=>(0:Int)| .inr u=>u)=((nxt (b.drop a):Nat):Int):=by
  intro k
  induction k with
  | zero=>
   intro n hn h1 hj;have:n=5:=by omega
   subst this;refine ⟨.inl (),zdd ?_,?_⟩
   ·rw [zAh hb ha h1 (by omega),xd (by simp [isN]),xd (by omega)]
   ·have j1:=hj 1 (by omega) (by omega);have j2:=hj 2 (by omega) (by omega);have j3:=hj 3 (by omega) (by omega);have j4:=hj 4 (by omega) (by omega);simp only [isN] at j1 j2 j3 j4;simp [nxt,j1,j2,j3,j4]
  | succ k ih=>
   intro n hn h1 hj;have hb1:=zAh hb ha h1 (show n<=5 by omega);by_cases hi:isN n (b.drop a)=true
   ·rw [xe hi] at hb1;refine ⟨.inr n,zdd hb1,?_⟩;have e:nxt (b.drop a)=n:=by
     match n,h1,(show n<=4 by omega),hi,hj with
     | 1,_,_,hi,_=>simp only [isN] at hi;simp [nxt,hi]
     | 2,_,_,hi,hj=>have j1:=hj 1 (by omega) (by omega);simp only [isN] at hi j1;simp [nxt,hi,j1]
     | 3,_,_,hi,hj=>have j1:=hj 1 (by omega) (by omega);have j2:=hj 2 (by omega) (by omega);simp only [isN] at hi j1 j2;simp [nxt,hi,j1,j2]
     | 4,_,_,hi,hj=>have j1:=hj 1 (by omega) (by omega);have j2:=hj 2 (by omega) (by omega);have j3:=hj 3 (by omega) (by omega);simp only [isN] at hi j1 j2 j3;simp [nxt,hi,j1,j2,j3]
    simp only [e]
   ·rw [xd hi] at hb1;by_cases hl:n<=4/\n<=(b.drop a).length
    ·rw [xe hl] at hb1;obtain ⟨q,h2,h3⟩:=ih (n+1) (by omega) (by omega) fun j g1 g2=>by
      by_cases he:j=n
      ·subst he;simpa using hi
      ·exact hj j g1 (by omega)
     exact ⟨q,(zhH hb1).trans h2,h3⟩
    ·rw [xd hl] at hb1;refine ⟨.inl (),zdd hb1,?_⟩;have hall:∀j,1<=j->isN j (b.drop a)=false:=fun j g1=>by
      by_cases g2:j<n
      ·exact hj j g1 g2
      ·by_cases g3:j<=4
       ·exact zvy _ _ (by omega)
       ·match j,g3 with
        | j+5,_=>rfl
     have j1:=hall 1 (by omega);have j2:=hall 2 (by omega);have j3:=hall 3 (by omega);have j4:=hall 4 (by omega);simp only [isN] at j1 j2 j3 j4;simp [nxt,j1,j2,j3,j4]
 obtain ⟨q,h1,h2⟩:=key 4 1 rfl (by omega) fun j g1 g2=>by omega
 unfold zcS;have h1':zbu a b 1=some q:=h1;rw [h1',sb,<-h2];cases q<;>rfl
theorem zgN (h:isN n l=true):∃a t,l=a::t/\n<=l.length/\(n=1/\a.toNat<128\/n=2/\194<=a.toNat/\a.toNat<224\/n=3/\224<=a.toNat/\a.toNat<240\/n=4/\240<=a.toNat):=by
 match n,l with
 | 1,a::t=>simp only [isN,is1,xt] at h;exact ⟨a,t,rfl,by simp,.inl ⟨rfl,h⟩⟩
 | 2,a::b::t=>simp only [isN,is2,xt] at h;exact ⟨a,_,rfl,by simp,.inr (.inl ⟨rfl,h.1,h.2.1⟩)⟩
 | 3,a::b::c::t=>simp only [isN,is3,xt] at h;exact ⟨a,_,rfl,by simp,.inr (.inr (.inl ⟨rfl,h.1,h.2.1⟩))⟩
 | 4,a::b::c::d::t=>simp only [isN,is4,xt] at h;exact ⟨a,_,rfl,by simp,.inr (.inr (.inr ⟨rfl,h.1⟩))⟩
 | 0,_=>cases h
 | 1,[]=>cases h
 | 2,[]=>cases h
 | 2,[_]=>cases h
 | 3,[]=>cases h
 | 3,[_]=>cases h
 | 3,[_,_]=>cases h
 | 4,[]=>cases h
 | 4,[_]=>cases h
 | 4,[_,_]=>cases h
 | 4,[_,_,_]=>cases h
 | _+5,_=>cases h
theorem zzp (h:isN n l=true) (h':isN m l=true):n=m:=by
 obtain ⟨a,t,e,_,g⟩:=zgN h;obtain ⟨a',t',e',_,g'⟩:=zgN h';rw [e] at e';cases e';omega
theorem zBk (h:isN n l=true):nxt l=n:=by
 obtain ⟨_,_,_,_,g⟩:=zgN h;have k:∀m,m≠n->isN m l=false:=fun m hm=>by
  cases hh:isN m l with
  | false=>rfl
  | true=>exact absurd (zzp hh h) hm
 have hn:n=1\/n=2\/n=3\/n=4:=by omega
 rcases hn with rfl| rfl| rfl| rfl
 ·simp only [isN] at h;simp [nxt,h]
 ·have j1:=k 1 (by omega);simp only [isN] at h j1;simp [nxt,h,j1]
 ·have j1:=k 1 (by omega);have j2:=k 2 (by omega);simp only [isN] at h j1 j2;simp [nxt,h,j1,j2]
 ·have j1:=k 1 (by omega);have j2:=k 2 (by omega);have j3:=k 3 (by omega);simp only [isN] at h j1 j2 j3;simp [nxt,h,j1,j2,j3]
theorem zof (h:nxt l≠0):isN (nxt l) l=true:=by
 unfold nxt at h|-;by_cases h1:is1 l=true
 ·simp [h1,isN]
 ·by_cases h2:is2 l=true
  ·simp [h1,h2,isN]
  ·by_cases h3:is3 l=true
   ·simp [h1,h2,h3,isN]
   ·by_cases h4:is4 l=true
    ·simp [h1,h2,h3,h4,isN]
    ·simp [h1,h2,h3,h4] at h
theorem zlm (l:List UInt8):nxt l<=l.length:=by
 by_cases h:nxt l=0
 ·omega
 ·obtain ⟨_,_,_,g,_⟩:=zgN (zof h);exact g
theorem zrT (l:List UInt8):nxt l<=4:=by
 by_cases h:nxt l=0
 ·omega
 ·obtain ⟨_,_,_,_,g⟩:=zgN (zof h);omega
def fst4 (m:Int) (l:List UInt8):Nat×Nat:=
 if h:nxt l=0\/(nxt l:Int)>m then (0,0) else (nxt l+(fst4 (m - nxt l) (l.drop (nxt l))).1,(fst4 (m - nxt l) (l.drop (nxt l))).2+1)
termination_by l.length
decreasing_by all_goals (have:=zlm l;simp only [xx];omega)
theorem zkt (h:nxt l=0\/(nxt l:Int)>m):fst4 m l=(0,0):=by rw [fst4,dif_pos h]
theorem znY (h:¬(nxt l=0\/(nxt l:Int)>m)):fst4 m l=(nxt l+(fst4 (m - nxt l) (l.drop (nxt l))).1,(fst4 (m - nxt l) (l.drop (nxt l))).2+1):=by rw [fst4,dif_neg h]
theorem zxB (P:Int->List UInt8->Prop) (h0:∀m l,(nxt l=0\/(nxt l:Int)>m)->P m l) (h1:∀m l,¬(nxt l=0\/(nxt l:Int)>m)->P (m - nxt l) (l.drop (nxt l))->P m l) (m:Int) (l:List UInt8):P m l:=by
 generalize hn:l.length=n
 induction n using Nat.strongRecOn generalizing m l with
 | _ n ih=>
  by_cases h:nxt l=0\/(nxt l:Int)>m
  ·exact h0 m l h
  ·have:=zlm l;exact h1 m l h (ih _ (by simp only [xx];omega) _ _ rfl)
theorem zqh {b:List UInt8} (hb:b.length<=140737488355328) (most:Int) (m:Int) (l:List UInt8):∀(a c:Nat),c<=a->a<=b.length->l=b.drop a->m=most - a->
  zaH b most a c=some (((a+(fst4 m l).1:Nat):Int),((c+(fst4 m l).2:Nat):Int)):=by
 refine zxB (fun m l=>∀(a c:Nat),c<=a->a<=b.length->l=b.drop a->m=most - a->zaH b most a c=some (((a+(fst4 m l).1:Nat):Int),((c+(fst4 m l).2:Nat):Int))) ?_ ?_ m l
 ·intro m l h a c hc ha hl hm;subst hl hm;have h4:=zrT (b.drop a);refine zhh ?_;unfold zaG;rw [zpv (by omega) ha,sb,px,pv,zkt h];rfl
 ·intro m l h ih a c hc ha hl hm;subst hl hm;have h4:=zrT (b.drop a);have hle:=zlm (b.drop a);simp only [xx] at hle;refine (zhg (atv':=((a+nxt (b.drop a):Nat):Int)) (count':=((c+1:Nat):Int)) ?_).trans ?_
  ·unfold zaG;rw [zpv (by omega) ha,sb,px,pw,px];rfl
  ·rw [ih (a+nxt (b.drop a)) (c+1) (by omega) (by omega) (by rw [xP]) (by omega),znY h];simp only [yE,qA 1]
theorem ztz (hb:b.length<=140737488355328) (most:Int):zcx b most=some (((fst4 most b).1:Int),((fst4 most b).2:Int)):=by
 unfold zcx;have h:=zqh hb most most b 0 0 (xi _) (xm _) rfl (by omega);simp only [xL] at h;have h':zaH b most 0 0=some (((fst4 most b).1:Int),((fst4 most b).2:Int)):=h;rw [h',sb]
def pre4 (l:List UInt8):Nat×Nat:=fst4 l.length l
theorem zxA (h:(l.length:Int)<=m):fst4 m l=pre4 l:=by
 have key:∀(n:Nat) (l:List UInt8) (m m':Int),l.length=n->(l.length:Int)<=m->(l.length:Int)<=m'->fst4 m l=fst4 m' l:=by
  intro n
  induction n using Nat.strongRecOn with
  | _ n ih=>
   intro l m m' hn hm hm';have hle:=zlm l;by_cases h:nxt l=0
   ·rw [zkt (.inl h),zkt (.inl h)]
   ·rw [znY (m:=m) (l:=l) (by omega),znY (m:=m') (l:=l) (by omega),ih _ (by simp only [xx];omega) (l.drop (nxt l)) (m - nxt l) (m' - nxt l) rfl (by simp only [xx];omega) (by simp only [xx];omega)]
 exact key _ l m l.length rfl h (Int.le_refl _)
theorem zwK (h:nxt l=0):pre4 l=(0,0):=zkt (.inl h)
theorem zzM (h:nxt l≠0):pre4 l=(nxt l+(pre4 (l.drop (nxt l))).1,(pre4 (l.drop (nxt l))).2+1):=by
 have hle:=zlm l;unfold pre4;rw [znY (by omega),zxA (m:=(l.length:Int) - nxt l) (by simp only [xx];omega)];rfl
theorem zyn (P:List UInt8->Prop) (h0:∀l,nxt l=0->P l) (h1:∀l,nxt l≠0->P (l.drop (nxt l))->P l) (l:List UInt8):P l:=by
 generalize hn:l.length=n
 induction n using Nat.strongRecOn generalizing l with
 | _ n ih=>
  by_cases h:nxt l=0
  ·exact h0 l h
  ·have:=zlm l;exact h1 l h (ih _ (by simp only [xx];omega) _ rfl)
def zfJ (l:List UInt8):Bool:=decide ((pre4 l).1=l.length)
theorem zsb (hb:b.length<=140737488355328):zbp b=some (zfJ b):=by
 unfold zbp;rw [ztz hb,sb];unfold zfJ pre4;by_cases h:(fst4 (b.length:Int) b).1=b.length
 ·simp [h]
 ·have h2:¬(((fst4 (b.length:Int) b).1:Int)=b.length):=by omega
  simp [h,h2]
theorem ztA {b:List UInt8} (hb:b.length<=1048576):zbp b=some (zfJ b):=zsb (by omega)
def enc (v:Nat):List UInt8:=if v<128 then [UInt8.ofNat v] else UInt8.ofNat (128+v%128)::enc (v/128)
termination_by v
decreasing_by omega
def scan:Nat->Nat->List UInt8->Unit⊕(Int×Int×Int)
 | _,_,[]=> .inl ()
 | i,va,c::t=>if i=9/\1<c.toNat then .inr (0,0,4) else if c.toNat<128 then .inr (((va+c.toNat%128*128^i:Nat):Int),((i+1:Nat):Int),0) else scan (i+1) (va+c.toNat%128*128^i) t
def rdR:Unit⊕(Int×Int×Int)->Int×Int×Int
 | .inl _=>(0,0,3)
 | .inr r=>r
def rd (b:List UInt8):Int×Int×Int:=rdR (scan 0 0 (b.take 10))
def hor:List UInt8->Nat
 | []=>0
 | c::t=>c.toNat%128+128*hor t
def lead:Nat->List UInt8->Nat
 | 0,_=>0
 | _+1,[]=>0
 | k+1,c::t=>if 128<=c.toNat then lead k t+1 else 0
theorem zAy (i:Nat):2^(7*i)=128^i:=by rw [Nat.pow_mul]
theorem zzf (c:Nat):c&&&127=c%128:=pq c 7
theorem zwN {va i c:Nat} (hi:i<=9) (hacc:va<128^i) (hc:c<256) (h9:i=9->c<=1):
  orI .u64 (va:Int) (shlI .u64 (u64.wrap (andI .u8 (c:Int) 127)) ((7*i:Nat):Int))=((va+c%128*128^i:Nat):Int):=by
 have e1:andI .u8 (c:Int) 127=((c%128:Nat):Int):=by
  have:=zsz (k:= .u8) rfl (a:=c) (b:=127) (by simpa [IntKind.bits] using hc) (by simp [IntKind.bits]);rw [zzf] at this;exact this
 have hp:128^i<=128^9:=pj (by omega) hi;have hlt:c%128*128^i<18446744073709551616:=by
  by_cases h:i=9
  ·subst h;have:=h9 rfl;have h2:c%128<=1:=by omega
   have:=yi (128^9) h2;omega
  ·have h3:128^i<=128^8:=pj (by omega) (by omega);have:=Nat.mul_le_mul (show c%128<=127 by omega) h3;omega
 have e2:shlI .u64 (u64.wrap ((c%128:Nat):Int)) ((7*i:Nat):Int)=((c%128*128^i:Nat):Int):=by
  unfold shlI;rw [zmF rfl (by simp [IntKind.bits];omega),xw,qf (by simp [IntKind.bits];omega)];have h4:((c%128:Nat):Int)*2^(7*i)=((c%128*128^i:Nat):Int):=by rw [<-zAy];push_cast;rfl
  rw [h4];exact zmF rfl (by simpa [IntKind.bits] using hlt)
 rw [e1,e2,zvW rfl (by simp [IntKind.bits];omega) (by simpa [IntKind.bits] using hlt)];congr 1;rw [<-zAy] at hacc|-;exact ztn _ _ _ hacc
theorem zwM:∀(t:List UInt8) (v:List UInt8) (i va:Nat),v.drop i=t->i+t.length=v.length->v.length<=10->va<128^i->zdm v va i=some (scan i va t):=by
 intro t
 induction t with
 | nil=>
  intro v i va _ hl _ _;refine zeD ?_;unfold zcc;rw [itF (by simp at hl|-;omega)];rfl
 | cons c t ih=>
  intro v i va hd hl hv hacc;simp only [xz] at hl;have hget:v[i]'(by omega)=c:=by
   have h1:v.drop i=v[i]'(by omega)::v.drop (i+1):=yh (by omega);rw [hd] at h1;exact (List.cons.inj h1).1.symm
  have hd':v.drop (i+1)=t:=by rw [<-xP,hd];rfl
  have hc:=c.toNat_lt;have hb:zcc v va i=if i=9/\1<c.toNat then some (.inr (.inr (0,0,4))) else if c.toNat<128 then some (.inr (.inr (((va+c.toNat%128*128^i:Nat):Int),((i+1:Nat):Int),0))) else some (.inl (((va+c.toNat%128*128^i:Nat):Int),((i+1:Nat):Int))):=by
   unfold zcc;rw [pv,zad rfl (show i<v.length by omega),sb,hget];by_cases h9:i=9/\1<c.toNat
   ·rw [xe h9,pv]
   ·rw [xd h9,pw,px];have e:((7:Int)*(i:Int))=((7*i:Nat):Int):=by push_cast;rfl
    rw [e,zyB,sb,zwN (by omega) hacc (by omega) (by omega),px];by_cases h8:c.toNat<128
    ·rw [xe h8,pv];push_cast;rfl
    ·rw [xd h8,pw];push_cast;rfl
  rw [scan];split at hb
  ·rename_i h9;rw [xe h9];exact zeD hb
  ·rename_i h9;rw [xd h9];split at hb
   ·rename_i h8;rw [xe h8];exact zeD hb
   ·rename_i h8;rw [xd h8,zlD hb];refine ih v (i+1) _ hd' (by omega) hv ?_;rw [yP];have:=yi (128^i) (show c.toNat%128<=127 by omega);omega
theorem zrY (b:List UInt8):zef b=some (rd b):=by
 unfold zef rd;have e:(if (10:Int)<(b.length:Int) then (10:Int) else (b.length:Int))=((min 10 b.length:Nat):Int):=by split<;>omega
 have e2:b.take (min 10 b.length)=b.take 10:=by rw [List.take_eq_take_iff];omega
 rw [e,zsL rfl (by omega),sb,e2];have h:=zwM (b.take 10) (b.take 10) 0 0 rfl (by simp) (by simp;omega) (by simp);have h':zdm (b.take 10) 0 0=some (scan 0 0 (b.take 10)):=h;rw [h',sb];cases scan 0 0 (b.take 10)<;>rfl
theorem zwb (b:List UInt8):zeO b=some ((rd b).2.1,(rd b).2.2):=by unfold zeO;rw [zrY,sb]
theorem zrO:∀(k:Nat) (l:List UInt8),lead k l<=k/\lead k l<=l.length
 | 0,_=>⟨xi _,xm _⟩
 | _+1,[]=>⟨xm _,xi _⟩
 | k+1,c::t=>by
  have:=zrO k t;rw [lead];split<;>simp<;>omega
theorem zrh:∀(l:List UInt8) (i va:Nat),i+l.length<=10->i<=9->
  scan i va l=if i+lead (10 - i) l=10 then .inr (0,0,4) else if lead (10 - i) l=l.length then .inl () else if i+lead (10 - i) l=9/\1<(l.getD (lead (10 - i) l) 0).toNat then .inr (0,0,4) else
   .inr (((va+hor (l.take (lead (10 - i) l+1))*128^i:Nat):Int),((i+lead (10 - i) l+1:Nat):Int),0):=by
 intro l
 induction l with
 | nil=>
  intro i va _ hi;obtain ⟨k,hk⟩:∃k,10 - i=k+1:=⟨9 - i,by omega⟩;rw [hk];simp only [lead,scan,yR];rw [xd (by omega),xe trivial]
 | cons c t ih=>
  intro i va hl hi;obtain ⟨k,hk⟩:∃k,10 - i=k+1:=⟨9 - i,by omega⟩;simp only [xz] at hl;rw [scan];by_cases hc:128<=c.toNat
  ·have e:lead (10 - i) (c::t)=lead k t+1:=by rw [hk,lead,xe hc]
   rw [e];by_cases h9:i=9
   ·have:k=0:=by omega
    subst this;rw [xe ⟨h9,by omega⟩,lead,xe (by omega)]
   ·rw [xd (by omega),xd (by omega),ih (i+1) _ (by omega) (by omega),show 10 - (i+1)=k by omega];by_cases h1:i+1+lead k t=10
    ·rw [xe h1,xe (show i+(lead k t+1)=10 by omega)]
    ·rw [xd h1,xd (show ¬i+(lead k t+1)=10 by omega)];by_cases h2:lead k t=t.length
     ·rw [xe h2,xe (show lead k t+1=(c::t).length by simp;omega)]
     ·rw [xd h2,xd (show ¬lead k t+1=(c::t).length by simp;omega)];have eg:(c::t).getD (lead k t+1) 0=t.getD (lead k t) 0:=by simp [List.getD]
      rw [eg];by_cases h3:i+1+lead k t=9/\1<(t.getD (lead k t) 0).toNat
      ·rw [xe h3,xe (show i+(lead k t+1)=9/\1<(t.getD (lead k t) 0).toNat by omega)]
      ·rw [xd h3,xd (show ¬(i+(lead k t+1)=9/\1<(t.getD (lead k t) 0).toNat) by omega)];rw [ya,hor,yP];have e5:va+c.toNat%128*128^i+hor (t.take (lead k t+1))*(128^i*128)=va+(c.toNat%128+128*hor (t.take (lead k t+1)))*128^i:=by
        rw [Nat.add_mul,qh 128,yO (128^i) 128,<-qh,yO _ 128,qh];omega
       rw [e5];congr 3;omega
  ·have e:lead (10 - i) (c::t)=0:=by rw [hk,lead,xd hc]
   rw [e];simp only [yd,xz,List.getD_cons_zero];rw [xd (show ¬i=10 by omega),xd (show ¬0=t.length+1 by omega)];by_cases h9:i=9/\1<c.toNat
   ·rw [xe h9,xe h9]
   ·rw [xd h9,xd h9,xe (show c.toNat<128 by omega)];simp [hor]
theorem zoL (x y:List UInt8):hor (x++y)=hor x+128^x.length*hor y:=by
 induction x with
 | nil=>simp [hor]
 | cons c t ih=>simp only [xO,hor,ih,xz,yP,Nat.mul_add];rw [yO (128^t.length) 128,qh];omega
theorem zxE (l:List UInt8):hor l<128^l.length:=by
 induction l with
 | nil=>simp [hor]
 | cons c t ih=>simp only [hor,xz,yP];omega
theorem zxD (l:List UInt8) (j:Nat):hor (l.drop j)<=hor l:=by
 induction l generalizing j with
 | nil=>simp
 | cons c t ih=>
  cases j with
  | zero=>exact xi _
  | succ j=>have:=ih j;simp only [List.drop_succ_cons,hor];omega
theorem zwO (b:List UInt8) (a:Nat) (hb:b.length<=1152921504606846976):∀(k n:Nat),n+k=10->a+n<=b.length->zbr a b n=some ((n+lead k (b.drop (a+n)):Nat):Int):=by
 intro k
 induction k with
 | zero=>
  intro n hn ha;refine zdc ?_;unfold zaC;rw [px];by_cases h1:a+n<b.length
  ·rw [pv,pw,sb,pu];rfl
  ·rw [pw,sb,pu];rfl
 | succ k ih=>
  intro n hn ha;by_cases h1:a+n<b.length
  ·have hd:b.drop (a+n)=b[a+n]::b.drop (a+(n+1)):=yh h1;have hbody:zaC a b n=if 128<=b[a+n].toNat then some (.inl ((n+1:Nat):Int)) else some (.inr (n:Int)):=by
    unfold zaC;rw [px,px,pv,pv,zad (show (a:Int)+n=((a+n:Nat):Int) by push_cast;rfl) h1,sb,sb];by_cases h2:128<=b[a+n].toNat
    ·rw [xe h2,pv];push_cast;rfl
    ·rw [xd h2,pw]
   rw [hd,lead];by_cases h2:128<=b[a+n].toNat
   ·rw [xe h2] at hbody|-;rw [zhE hbody,ih (n+1) (by omega) (by omega)];congr 2;omega
   ·rw [xd h2] at hbody|-;exact zdc hbody
  ·have hd:b.drop (a+n)=[]:=yp (by omega);rw [hd];refine zdc ?_;unfold zaC;rw [px,pw,sb,pu];rfl
theorem zwP (b:List UInt8) (a m:Nat) (hb:b.length<=1152921504606846976) (hm:a+m<=b.length) (hh:hor ((b.drop a).take m)<18446744073709551616):
  ∀(j:Nat),j<=m->zbs a b (hor (((b.drop a).take m).drop j)) ((j:Int) - 1)=some ((hor ((b.drop a).take m):Nat):Int):=by
 intro j
 induction j with
 | zero=>
  intro _;refine zhG ?_;unfold zaQ;rw [itF (by simp)];rfl
 | succ j ih=>
  intro hj;have hL:((b.drop a).take m).length=m:=by simp;omega
  have hd:((b.drop a).take m).drop j=((b.drop a).take m)[j]'(by omega)::((b.drop a).take m).drop (j+1):=yh (by omega);have hc:((b.drop a).take m)[j]'(by omega)=b[a+j]'(by omega):=by simp
  have h1:=zxD ((b.drop a).take m) j;rw [hd,hor,hc] at h1;have h2:=(b[a+j]'(by omega)).toNat_lt;refine (zhF (wv':=(hor (((b.drop a).take m).drop j):Nat)) (i':=(j:Int) - 1) ?_).trans (ih (by omega));unfold zaQ;rw [itT (by simp),px,zad (show (a:Int)+(((j+1:Nat):Int) - 1)=((a+j:Nat):Int) by push_cast;omega) (by omega),sb,px,hd,hor,hc];simp only [zgj];rw [ym (by omega)];congr 3
  ·omega
  ·push_cast;omega
theorem zyN (hn:n<=9) (hC:C<256) (h9:¬(n=9/\1<C)) (hX:X<128^n):X+128^n*(C%128)<18446744073709551616:=by
 by_cases h9':n=9
 ·subst h9';have:C%128<=1:=by omega
  have:=qL (128^9) this;omega
 ·have h5:128^n<=128^8:=pj (by omega) (by omega);have h6:C%128<=127:=by omega
  have:=Nat.mul_le_mul h5 h6;omega
theorem zpu (b:List UInt8) (a:Nat) (hb:b.length<=1152921504606846976) (ha:a<=b.length):zbd b a=some (rd (b.drop a)):=by
 unfold zbd;have h1:=zwO b a hb 10 0 rfl (by omega);simp only [xL,yd] at h1;have h1':zbr a b 0=some ((lead 10 (b.drop a):Nat):Int):=h1;rw [h1',sb];have hle:=zrO 10 (b.drop a);have vd:(b.drop a).length=b.length - a:=by simp
 -- the ten bytes that count
 have htake:∀(k:Nat) (l:List UInt8),lead k (l.take k)=lead k l:=by
  intro k
  induction k with
  | zero=>intro l;rfl
  | succ k ih=>intro l;cases l with
   | nil=>rfl
   | cons c t=>simp only [ya,lead,ih]
 have hs:=zrh ((b.drop a).take 10) 0 0 (by simp;omega) (by omega);simp only [xL,yM,htake,Nat.pow_zero,Nat.mul_one] at hs;unfold rd;rw [hs];by_cases h10:lead 10 (b.drop a)=10
 ·rw [xe h10,pv];rfl
 ·rw [xd h10,pw,px];by_cases hl:lead 10 (b.drop a)=(b.drop a).length
  ·rw [xe (show lead 10 (b.drop a)=((b.drop a).take 10).length by rw [xK];omega),pv];rfl
  ·rw [xd (show ¬lead 10 (b.drop a)=((b.drop a).take 10).length by rw [xK];omega),pw];have hlt:a+lead 10 (b.drop a)<b.length:=by omega
   have hg:((b.drop a).take 10).getD (lead 10 (b.drop a)) 0=b[a+lead 10 (b.drop a)]:=by
    rw [qD,x9,xe (by omega),yy,xu hlt];rfl
   rw [hg,qE,qf (by omega)];have hc:=(b[a+lead 10 (b.drop a)]).toNat_lt;have hg2:(if (((lead 10 (b.drop a):Nat):Int)==9)=true then (idx b ((a:Int)+((lead 10 (b.drop a):Nat):Int))>>=fun x2=>some (decide ((x2.toNat:Int)>1))) else some false)=some (decide (lead 10 (b.drop a)=9/\1<(b[a+lead 10 (b.drop a)]).toNat)):=by
    by_cases h9:lead 10 (b.drop a)=9
    ·rw [pv,zad (show (a:Int)+((lead 10 (b.drop a):Nat):Int)=((a+lead 10 (b.drop a):Nat):Int) by push_cast;rfl) hlt,sb];congr 1;simp only [h9,qi,yq];omega
    ·rw [pw];simp [h9]
   rw [hg2,sb];by_cases h9:lead 10 (b.drop a)=9/\1<(b[a+lead 10 (b.drop a)]).toNat
   ·rw [xe h9,itT (by simpa using h9)];rfl
   ·rw [xd h9,itF (xR h9)];have hbd:hor ((b.drop a).take (lead 10 (b.drop a)+1))<18446744073709551616:=by
     have hsp:(b.drop a).take (lead 10 (b.drop a)+1)=(b.drop a).take (lead 10 (b.drop a))++[b[a+lead 10 (b.drop a)]]:=by
      rw [List.take_add_one,yy,xu hlt];rfl
     rw [hsp,zoL];have h3:=zxE ((b.drop a).take (lead 10 (b.drop a)));have h4:((b.drop a).take (lead 10 (b.drop a))).length=lead 10 (b.drop a):=by simp;omega
     rw [h4] at h3|-;simp only [hor,Nat.mul_zero,yd];exact zyN (by omega) (by omega) h9 h3
    have h2:=zwP b a (lead 10 (b.drop a)+1) hb (by omega) hbd (lead 10 (b.drop a)+1) (xi _);have hz:((b.drop a).take (lead 10 (b.drop a)+1)).drop (lead 10 (b.drop a)+1)=[]:=yp (by simp;omega);rw [hz] at h2;have e3:(((lead 10 (b.drop a)+1:Nat):Int) - 1)=((lead 10 (b.drop a):Nat):Int):=by push_cast;omega
    rw [e3] at h2;have h2':zbs a b 0 ((lead 10 (b.drop a):Nat):Int)=some ((hor ((b.drop a).take (lead 10 (b.drop a)+1)):Nat):Int):=h2;rw [h2',sb,px];simp [rdR]
theorem zqN:∀(k:Nat) (l:List UInt8),lead k (l.take k)=lead k l
 | 0,_=>rfl
 | _+1,[]=>rfl
 | k+1,c::t=>by simp only [ya,lead,zqN k t]
theorem zqM:∀(k:Nat) (l:List UInt8),(∀y∈l.take (lead k l),128<=y.toNat)/\∀(h:lead k l<l.length),lead k l<k->(l[lead k l]).toNat<128
 | 0,_=>⟨fun y hy=>by simp [lead] at hy,fun _ h=>by omega⟩
 | _+1,[]=>⟨fun y hy=>by simp at hy,fun h=>by simp at h⟩
 | k+1,c::t=>by
  obtain ⟨h1,h2⟩:=zqM k t;by_cases hc:128<=c.toNat
  ·have e:lead (k+1) (c::t)=lead k t+1:=by rw [lead,xe hc]
   constructor
   ·rw [e,ya];intro y hy;cases hy with
    | head=>exact hc
    | tail _ hy=>exact h1 y hy
   ·simp only [e,pk,xz];intro h hk;exact h2 (by omega) (by omega)
  ·have e:lead (k+1) (c::t)=0:=by rw [lead,xd hc]
   constructor
   ·rw [e];intro y hy;simp at hy
   ·simp only [e];intro _ _;simp;omega
theorem zkc (b:List UInt8):rd b=(0,0,4)\/(rd b=(0,0,3)/\b.length<=9)\/
  ∃x c y,b=x++c::y/\(∀z∈x,128<=z.toNat)/\c.toNat<128/\x.length<=9/\hor (x++[c])<18446744073709551616/\rd b=(((hor (x++[c]):Nat):Int),((x.length+1:Nat):Int),0):=by
 have hle:=zrO 10 b;have hs:=zrh (b.take 10) 0 0 (by simp;omega) (by omega);simp only [xL,yM,zqN,Nat.pow_zero,Nat.mul_one] at hs;unfold rd;rw [hs];by_cases h10:lead 10 b=10
 ·rw [xe h10];exact .inl rfl
 ·rw [xd h10];by_cases hl:lead 10 b=(b.take 10).length
  ·rw [xe hl];refine .inr (.inl ⟨rfl,?_⟩);rw [xK] at hl;omega
  ·rw [xd hl];rw [xK] at hl;have hlt:lead 10 b<b.length:=by omega
   have hg:(b.take 10).getD (lead 10 b) 0=b[lead 10 b]:=by
    rw [qD,x9,xe (by omega),xu hlt];rfl
   rw [hg,qE,qf (by omega)];have hc:=(b[lead 10 b]).toNat_lt;by_cases h9:lead 10 b=9/\1<(b[lead 10 b]).toNat
   ·rw [xe h9];exact .inl rfl
   ·rw [xd h9];obtain ⟨hf1,hf2⟩:=zqM 10 b;have hsp:b.take (lead 10 b+1)=b.take (lead 10 b)++[b[lead 10 b]]:=by
     rw [List.take_add_one,xu hlt];rfl
    have vd:(b.take (lead 10 b)).length=lead 10 b:=by rw [xK];omega
    refine .inr (.inr ⟨b.take (lead 10 b),b[lead 10 b],b.drop (lead 10 b+1),?_,hf1,hf2 hlt (by omega),by omega,?_,?_⟩)
    ·rw [<-yh hlt,xZ]
    ·rw [zoL];have h3:=zxE (b.take (lead 10 b));rw [vd] at h3|-;simp only [hor,Nat.mul_zero,yd];exact zyN (by omega) (by omega) h9 h3
    ·rw [hsp,vd];simp [rdR]
theorem zAM (h:v<128):enc v=[UInt8.ofNat v]:=by rw [enc,xe h]
theorem zAL (h:¬v<128):enc v=UInt8.ofNat (128+v%128)::enc (v/128):=by rw [enc,xd h]
theorem zvo:∀(v:Nat),(enc v).length=lenN v:=by
 intro v
 induction v using Nat.strongRecOn with
 | _ v ih=>
  by_cases h:v<128
  ·rw [zAM h,zob h];rfl
  ·rw [zAL h,zoa h,xz,ih _ (by omega)]
theorem zAz (v:Nat):shrI .u64 (v:Int) 7=((v/128:Nat):Int):=zpD (k:= .u64) (a:=v) (b:=7) (by simp [IntKind.bits])
theorem zxY:∀(w n:Nat),n+w<9223372036854775808+w->n+lz w<=1152921504606846976->zeE w n=some ((n+lz w:Nat):Int):=by
 intro w
 induction w using Nat.strongRecOn with
 | _ w ih=>
  intro n hn hl;by_cases h:w=0
  ·subst h;refine znI ?_;unfold zdU;rw [itF (by simp)];rfl
  ·have e:=zBh h;refine (znH (wv2':=((w/128:Nat):Int)) (n':=((n+1:Nat):Int)) ?_).trans ?_
   ·unfold zdU;rw [pv,zAz,px];rfl
   ·rw [ih (w/128) (by omega) (n+1) (by omega) (by omega)];congr 2;omega
theorem zBa {v:Nat} (h:v<18446744073709551616):zjw (v:Int)=some ((lenN v:Nat):Int):=by
 unfold zjw;have h1:=zBg v;have h2:=zxX h;have h3:=zxY (v/128) 1 (by omega) (by omega);have h3':zeE ((v/128:Nat):Int) 1=some ((1+lz (v/128):Nat):Int):=h3;rw [zAz,h3',sb,h1]
theorem zpB (a b:List UInt8):zcP a b=some (a==b):=rfl
def zdQ (n w:Int):Bool:=decide (1<=n/\n<=536870911/\(w=0\/w=1\/w=2\/w=5))
def tgR (r:Int×Int×Int):Int×Int×Int×Int:=
 if r.2.2≠0 then (0,0,0,r.2.2) else if 4294967295<r.1\/zdQ (r.1/8) (r.1%8)=false then (0,0,0,5) else (r.1/8,r.1%8,r.2.1,0)
def tg (l:List UInt8):Int×Int×Int×Int:=tgR (rd l)
theorem zpJ :zdQ n w=true↔1<=n/\n<=536870911/\(w=0\/w=1\/w=2\/w=5):=by simp [zdQ]
theorem zty (n w:Int):zcw n w=some (zdQ n w):=by
 unfold zcw zdQ;simp [Bool.decide_and,Bool.decide_or,Bool.beq_eq_decide_eq]
theorem zfG (l:List UInt8):0<=(rd l).1/\(rd l).1<18446744073709551616/\0<=(rd l).2.1/\(rd l).2.1<=10/\(rd l).2.1<=l.length/\((rd l).2.2=0\/(rd l).2.2=3\/(rd l).2.2=4)/\((rd l).2.2=0->1<=(rd l).2.1):=by
 rcases zkc l with h| ⟨h,_⟩| ⟨x,c,y,e,_,_,hl,hv,h⟩
 ·rw [h];simp
 ·rw [h];simp
 ·have:l.length=x.length+1+y.length:=by rw [e];simp;omega
  rw [h];refine ⟨?_,?_,?_,?_,?_,.inl rfl,fun _=>?_⟩<;>simp only<;>omega
theorem zyq (x:List UInt8) (c:UInt8) (y:List UInt8) (hx:∀z∈x,128<=z.toNat) (hc:c.toNat<128) (hl:x.length<=9) (hv:hor (x++[c])<18446744073709551616):
  rd (x++c::y)=(((hor (x++[c]):Nat):Int),((x.length+1:Nat):Int),0):=by
 have key:∀(x:List UInt8) (z:List UInt8) (i va:Nat),(∀z∈x,128<=z.toNat)->i+x.length<=9->va+hor (x++[c])*128^i<18446744073709551616->scan i va (x++c::z)= .inr (((va+hor (x++[c])*128^i:Nat):Int),((i+x.length+1:Nat):Int),0):=by
  intro x
  induction x with
  | nil=>
   intro z i va _ hi hv;have e1:hor ([]++[c])=c.toNat:=by simp [hor];omega
   rw [e1] at hv|-;rw [xU,scan,xd,xe hc,qM hc]
   ·rfl
   ·rintro ⟨rfl,h2⟩;have:=yi (128^9) (show 2<=c.toNat by omega);omega
  | cons d x ih=>
   intro z i va hx hi hv;simp only [xz] at hi;have hd:=hx d xf;have e5:va+hor ((d::x)++[c])*128^i=va+d.toNat%128*128^i+hor (x++[c])*128^(i+1):=by
    rw [xO,hor,yP,Nat.add_mul,yO (128^i) 128,<-qh,yO (hor (x++[c])) 128];omega
   rw [e5] at hv|-;rw [xO,scan,xd (by omega),xd (by omega),ih z (i+1) _ (fun z hz=>hx z (xg _ hz)) (by omega) hv,xz];congr 3;omega
 unfold rd;have e2:(x++c::y).take 10=x++c::y.take (9 - x.length):=by
  rw [qI,yY (by omega),show 10 - x.length=(9 - x.length)+1 by omega,ya]
 rw [e2,key x _ 0 0 hx (by omega) (by simpa using hv)];simp [rdR]
theorem znd (l m:List UInt8) (h:(rd l).2.2=0):rd (l++m)=rd l:=by
 rcases zkc l with h'| ⟨h',_⟩| ⟨x,c,y,e,hx,hc,hl,hv,h'⟩
 ·rw [h'] at h;cases h
 ·rw [h'] at h;cases h
 ·rw [h',e,yZ,xO,zyq x c _ hx hc hl hv]
theorem zrm (l m:List UInt8) (h:(rd l).2.2=0):tg (l++m)=tg l:=by unfold tg;rw [znd l m h]
theorem zso (h:r.2.2≠0):tgR r=(0,0,0,r.2.2):=xe h
theorem zki (h:r.2.2=0) (h2:4294967295<r.1\/zdQ (r.1/8) (r.1%8)=false):tgR r=(0,0,0,5):=by unfold tgR;rw [xd (by simp [h]),xe h2]
theorem zuX (h:r.2.2=0) (h2:¬(4294967295<r.1\/zdQ (r.1/8) (r.1%8)=false)):tgR r=(r.1/8,r.1%8,r.2.1,0):=by unfold tgR;rw [xd (by simp [h]),xd h2]
theorem zpK (l:List UInt8):(∃c,tg l=(0,0,0,c)/\(c=3\/c=4\/c=5))\/∃n w k,tg l=(n,w,k,0)/\zdQ n w=true/\1<=k/\k<=10/\k<=l.length/\rd l=(8*n+w,k,0):=by
 obtain ⟨h1,h2,h3,h4,h5,h6,h7⟩:=zfG l;unfold tg;by_cases h:(rd l).2.2=0
 ·by_cases hg:4294967295<(rd l).1\/zdQ ((rd l).1/8) ((rd l).1%8)=false
  ·exact .inl ⟨5,zki h hg,by omega⟩
  ·refine .inr ⟨_,_,_,zuX h hg,?_,h7 h,h4,h5,?_⟩
   ·cases ht:zdQ ((rd l).1/8) ((rd l).1%8)
    ·exact absurd (.inr ht) hg
    ·rfl
   ·refine Prod.ext ?_ (Prod.ext rfl h);simp only;omega
 ·exact .inl ⟨_,zso h,by omega⟩
theorem zrZ (b:List UInt8) (a:Nat) (hb:b.length<=1152921504606846976) (ha:a<=b.length):zcR b a=some (tg (b.drop a)):=by
 unfold zcR tg;obtain ⟨h1,h2,h3,h4,h5,h6,h7⟩:=zfG (b.drop a);rw [zpu b a hb ha,sb];by_cases h:(rd (b.drop a)).2.2=0
 ·rw [itF (by simpa using h)];have e1:i64.wrap (u64.wrap (Int.tdiv (rd (b.drop a)).1 8))=(rd (b.drop a)).1/8:=by
   rw [qC h1,zgj,qz (by omega) (by omega),px]
  have e2:i64.wrap (Int.tmod (rd (b.drop a)).1 8)=(rd (b.drop a)).1%8:=by
   rw [ym h1,px]
  simp only [e1,e2,zty,sb];by_cases hg:4294967295<(rd (b.drop a)).1
  ·rw [itT (by simpa using hg),sb,pt,zki h (.inl hg)]
  ·rw [itF (by simpa using hg),sb];cases ht:zdQ ((rd (b.drop a)).1/8) ((rd (b.drop a)).1%8)
   ·rw [pt,zki h (.inr ht)]
   ·rw [pu,zuX h (by simp [ht];omega)]
 ·rw [itT (by simpa using h),zso h]
abbrev Rec:=zh
def zcl (w:Int) (k:Nat) (m:List UInt8):Int⊕(Nat×Nat):=
 if w=0 then (if (rd m).2.2≠0 then .inl (rd m).2.2 else .inr (k,k+(rd m).2.1.toNat))
 else if w=2 then (if (rd m).2.2≠0 then .inl (rd m).2.2 else if (m.length:Int) - (rd m).2.1<(rd m).1 then .inl 3 else .inr (k+(rd m).2.1.toNat,k+(rd m).2.1.toNat+(rd m).1.toNat))
 else if m.length<(if w=5 then 4 else 8) then .inl 3 else .inr (k,k+(if w=5 then 4 else 8))
def rec5 (l:List UInt8):Int⊕(Int×Int×Nat×Nat):=
 if (tg l).2.2.2≠0 then .inl (tg l).2.2.2 else match zcl (tg l).2.1 (tg l).2.2.1.toNat (l.drop (tg l).2.2.1.toNat) with
  | .inl c=> .inl c
  | .inr p=> .inr ((tg l).1,(tg l).2.1,p.1,p.2)
theorem zjx (w:Int) (k:Nat) (m:List UInt8):(∃c,zcl w k m= .inl c/\(c=3\/c=4))\/
  ∃a t,zcl w k m= .inr (a,t)/\k<=a/\a<=t/\t<=k+m.length/\
   (w=0/\a=k/\(rd m).2.2=0/\((t - k:Nat):Int)=(rd m).2.1/\k<t\/w=2/\(rd m).2.2=0/\((a - k:Nat):Int)=(rd m).2.1/\((t - a:Nat):Int)=(rd m).1\/w≠0/\w≠2/\a=k/\t=k+(if w=5 then 4 else 8)):=by
 obtain ⟨h1,h2,h3,h4,h5,h6,h7⟩:=zfG m;unfold zcl;by_cases w0:w=0
 ·rw [xe w0];by_cases h:(rd m).2.2=0
  ·have:=h7 h;rw [xd (by simpa using h)];exact .inr ⟨_,_,rfl,xi _,by omega,by omega,.inl ⟨w0,rfl,h,by omega,by omega⟩⟩
  ·rw [xe h];exact .inl ⟨_,rfl,by omega⟩
 ·rw [xd w0];by_cases w2:w=2
  ·rw [xe w2];by_cases h:(rd m).2.2=0
   ·rw [xd (by simpa using h)];by_cases h8:(m.length:Int) - (rd m).2.1<(rd m).1
    ·rw [xe h8];exact .inl ⟨_,rfl,by omega⟩
    ·rw [xd h8];exact .inr ⟨_,_,rfl,by omega,by omega,by omega,.inr (.inl ⟨w2,h,by omega,by omega⟩)⟩
   ·rw [xe h];exact .inl ⟨_,rfl,by omega⟩
  ·rw [xd w2];by_cases h8:m.length<(if w=5 then 4 else 8)
   ·rw [xe h8];exact .inl ⟨_,rfl,by omega⟩
   ·rw [xd h8];exact .inr ⟨_,_,rfl,xi _,by omega,by omega,.inr (.inr ⟨w0,w2,rfl,rfl⟩)⟩
theorem zrB (w:Int) (k:Nat) (m z:List UInt8) (h:zcl w k m= .inr p):zcl w k (m++z)= .inr p:=by
 unfold zcl at h|-;by_cases w0:w=0
 ·rw [xe w0] at h|-;by_cases h0:(rd m).2.2=0
  ·rw [znd m z h0];exact h
  ·rw [xe h0] at h;cases h
 ·rw [xd w0] at h|-;by_cases w2:w=2
  ·rw [xe w2] at h|-;by_cases h0:(rd m).2.2=0
   ·rw [znd m z h0];rw [xd (by simpa using h0)] at h|-;by_cases h8:(m.length:Int) - (rd m).2.1<(rd m).1
    ·rw [xe h8] at h;cases h
    ·rw [xd h8] at h;rw [xd (by simp only [xH];omega)];exact h
   ·rw [xe h0] at h;cases h
  ·rw [xd w2] at h|-;by_cases h8:m.length<(if w=5 then 4 else 8)
   ·rw [xe h8] at h;cases h
   ·rw [xd h8] at h;rw [xd (by simp only [xH];omega)];exact h
theorem zfH (l:List UInt8):(∃c,rec5 l= .inl c/\(c=3\/c=4\/c=5))\/
  ∃(n w:Int) (k a t:Nat),rec5 l= .inr (n,w,a,t)/\tg l=(n,w,(k:Int),0)/\zdQ n w=true/\zcl w k (l.drop k)= .inr (a,t)/\1<=k/\k<=l.length/\k<=a/\a<=t/\t<=l.length/\rd l=(8*n+w,(k:Int),0):=by
 rcases zpK l with ⟨c,h,hc⟩| ⟨n,w,k,h,hr,k1,k2,k3,hrd⟩
 ·refine .inl ⟨c,?_,hc⟩;unfold rec5;rw [h,xe (by simp only;omega)]
 ·obtain ⟨k,rfl⟩:∃j:Nat,k=j:=⟨k.toNat,by omega⟩
  have e:rec5 l=match zcl w k (l.drop k) with
   | .inl c=> .inl c
   | .inr p=> .inr (n,w,p.1,p.2):=by unfold rec5;rw [h];simp
  rcases zjx w k (l.drop k) with ⟨c,h2,hc⟩| ⟨a,t,h2,g1,g2,g3,_⟩
  ·exact .inl ⟨c,by rw [e,h2],by omega⟩
  ·simp only [xx] at g3;exact .inr ⟨n,w,k,a,t,by rw [e,h2],h,hr,h2,by omega,by omega,g1,g2,by omega,hrd⟩
theorem zkd (l z:List UInt8) (h:rec5 l= .inr r):rec5 (l++z)= .inr r:=by
 rcases zfH l with ⟨c,h',_⟩| ⟨n,w,k,a,t,h',htg,_,hb,_,hk,_,_,_,hrd⟩
 ·rw [h'] at h;cases h
 ·rw [h'] at h;have e:tg (l++z)=(n,w,(k:Int),0):=by rw [zrm l z (by rw [hrd]),htg]
  unfold rec5;rw [e];simp only [ne_eq,yr,xV,xw];rw [pr hk,zrB _ _ _ _ hb];exact h
def zrec:Rec:=⟨0,0,0,0,0⟩
def zcj (b:List UInt8) (at5:Int):Rec×Int:=if at5<0\/at5>=b.length then (zrec,2) else match rec5 (b.drop at5.toNat) with
 | .inl c=>(zrec,c)
 | .inr (n,w,a,t)=>(⟨n,w,at5,at5+a,at5+t⟩,0)
theorem ztx (hb:b.length<=140737488355328) (at5:Int):zce b at5=some (zcj b at5):=by
 unfold zce zcj;by_cases h:at5<0\/at5>=b.length
 ·rw [itT (by simpa using h),xe h];rfl
 ·rw [itF (by simpa using h),xd h];obtain ⟨p,rfl⟩:∃p:Nat,at5=p:=⟨at5.toNat,by omega⟩;rw [zrZ b p (by omega) (by omega),sb,xw];have hdl:(b.drop p).length=b.length - p:=by simp
  rcases zpK (b.drop p) with ⟨c,ht,hc⟩| ⟨n,w,k,ht,hr,k1,k2,k3,hrd⟩
  ·have e:rec5 (b.drop p)= .inl c:=by unfold rec5;rw [ht,xe (by simp only;omega)]
   rw [e,ht,pv];rfl
  ·obtain ⟨k,rfl⟩:∃j:Nat,k=j:=⟨k.toNat,by omega⟩
   have e:rec5 (b.drop p)=match zcl w k ((b.drop p).drop k) with
    | .inl c=> .inl c
    | .inr p=> .inr (n,w,p.1,p.2):=by unfold rec5;rw [ht];simp
   have hdd:(b.drop p).drop k=b.drop (p+k):=by rw [xP]
   have hml:(b.drop (p+k)).length=b.length - (p+k):=by simp
   obtain ⟨h1,h2,h3,h4,h5,h6,h7⟩:=zfG (b.drop (p+k));rw [e,ht,itF (by simp),hdd];have ew:i64.wrap ((p:Int)+k)=((p+k:Nat):Int):=by rw [px];push_cast;rfl
   have er:i64.wrap ((b.length:Int) - ((p+k:Nat):Int))=((b.length - (p+k):Nat):Int):=by rw [px];omega
   simp only [ew,er];have hw:=(zpJ.1 hr).2.2;rcases hw with rfl| rfl| rfl| rfl
   ·-- a varint
    rw [pu,sb,pt,zpu b (p+k) (by omega) (by omega),sb];by_cases g:(rd (b.drop (p+k))).2.2=0
    ·have:=h7 g;have hb5:zcl 0 k (b.drop (p+k))= .inr (k,k+(rd (b.drop (p+k))).2.1.toNat):=by unfold zcl;rw [xe rfl,xd (by simpa using g)]
     rw [itF (by simpa using g),sb,hb5];simp only;rw [pu,sb];simp only;rw [pw,px];simp;omega
    ·have hb5:zcl 0 k (b.drop (p+k))= .inl (rd (b.drop (p+k))).2.2:=by unfold zcl;rw [xe rfl,xe g]
     rw [itT (by simpa using g),sb,hb5];rfl
   ·rw [pu,sb,pu,sb];simp only;rw [pu,sb];unfold zcl;rw [xd (by omega),xd (by omega)];simp only;by_cases g:b.length - (p+k)<8
    ·rw [pv,xe (by simpa [hml] using g)];rfl
    ·rw [pw,xd (by simpa [hml] using g),px];simp;omega
   ·rw [pu,sb,pu,sb];simp only;rw [pt,zpu b (p+k) (by omega) (by omega),sb];by_cases g:(rd (b.drop (p+k))).2.2=0
    ·have:=h7 g;have e1:i64.wrap (((b.length - (p+k):Nat):Int) - (rd (b.drop (p+k))).2.1)=((b.drop (p+k)).length:Int) - (rd (b.drop (p+k))).2.1:=by rw [px,hml]
     have e2:u64.wrap (((b.drop (p+k)).length:Int) - (rd (b.drop (p+k))).2.1)=((b.drop (p+k)).length:Int) - (rd (b.drop (p+k))).2.1:=by rw [zgj,qz (by omega) (by omega)]
     rw [itF (by simpa using g)];simp only [e1,e2];by_cases g2:((b.drop (p+k)).length:Int) - (rd (b.drop (p+k))).2.1<(rd (b.drop (p+k))).1
     ·have hb5:zcl 2 k (b.drop (p+k))= .inl 3:=by unfold zcl;rw [xd (by omega),xe rfl,xd (by simpa using g),xe g2]
      rw [itT (by simpa using g2),sb,hb5];rfl
     ·have hb5:zcl 2 k (b.drop (p+k))= .inr (k+(rd (b.drop (p+k))).2.1.toNat,k+(rd (b.drop (p+k))).2.1.toNat+(rd (b.drop (p+k))).1.toNat):=by
       unfold zcl;rw [xd (by omega),xe rfl,xd (by simpa using g),xd g2]
      rw [itF (by simpa using g2),sb,hb5];simp only;rw [zp (x:=(rd (b.drop (p+k))).1) (by omega),itF (by simpa using g2),zp (x:=((p+k:Nat):Int)+(rd (b.drop (p+k))).2.1) (by omega),px];simp;omega
    ·have hb5:zcl 2 k (b.drop (p+k))= .inl (rd (b.drop (p+k))).2.2:=by unfold zcl;rw [xd (by omega),xe rfl,xe g]
     rw [itT (by simpa using g),sb,hb5];rfl
   ·rw [pt,sb,pu,sb];simp only;rw [pu,sb];unfold zcl;rw [xd (by omega),xd (by omega)];simp only;by_cases g:b.length - (p+k)<4
    ·rw [pv,xe (by simpa [hml] using g)];rfl
    ·rw [pw,xd (by simpa [hml] using g),px];simp;omega
theorem zuO {b:List UInt8} (hb:b.length<=1048576) (at5:Int):zce b at5=some (zcj b at5):=ztx (by omega) at5
def spl (base:Nat) (l:List UInt8):List Rec×Option (Nat×Int):=
 if hl:l=[] then ([],none) else match h:rec5 l with
  | .inl c=>([],some (base,c))
  | .inr (n,w,a,t)=>(⟨n,w,base,(base+a:Nat),(base+t:Nat)⟩::(spl (base+t) (l.drop t)).1,(spl (base+t) (l.drop t)).2)
termination_by l.length
decreasing_by
 all_goals
  rcases zfH l with ⟨c',h',_⟩| ⟨n',w',k',a',t',h',_,_,_,g1,g2,g3,g4,g5,_⟩
  ·rw [h'] at h;cases h
  ·rw [h'] at h;cases h;simp only [xx];omega
theorem zcI (base:Nat):spl base []=([],none):=by rw [spl,dif_pos rfl]
theorem zel (hl:l≠[]) (h:rec5 l= .inl c):spl base l=([],some (base,c)):=by
 rw [spl,dif_neg hl];split
 ·rename_i c' h';rw [h] at h';cases h';rfl
 ·rename_i h';rw [h] at h';cases h'
theorem zbE (hl:l≠[]) (h:rec5 l= .inr (n,w,a,t)):
  spl base l=(⟨n,w,base,(base+a:Nat),(base+t:Nat)⟩::(spl (base+t) (l.drop t)).1,(spl (base+t) (l.drop t)).2):=by
 rw [spl,dif_neg hl];split
 ·rename_i c' h';rw [h] at h';cases h'
 ·rename_i n' w' a' t' h';rw [h] at h';cases h';rfl
theorem zfS (P:Nat->List UInt8->Prop) (h0:∀base,P base []) (he:∀base l c,l≠[]->rec5 l= .inl c->(c=3\/c=4\/c=5)->P base l)
  (hc:∀base l (n w:Int) (a t:Nat),l≠[]->rec5 l= .inr (n,w,a,t)->zdQ n w=true->1<=a->a<=t->t<=l.length->P (base+t) (l.drop t)->P base l) (base:Nat) (l:List UInt8):P base l:=by
 generalize hn:l.length=m
 induction m using Nat.strongRecOn generalizing base l with
 | _ m ih=>
  by_cases hl:l=[]
  ·subst hl;exact h0 base
  ·rcases zfH l with ⟨c,h,hc'⟩| ⟨n,w,k,a,t,h,_,hr,_,g1,g2,g3,g4,g5,_⟩
   ·exact he base l c hl h hc'
   ·exact hc base l n w a t hl h hr (by omega) g4 g5 (ih _ (by simp only [xx];omega) _ _ rfl)
theorem zwc (base:Nat) (l:List UInt8):(spl base l).1.length<=l.length:=by
 refine zfS (fun base l=>(spl base l).1.length<=l.length) ?_ ?_ ?_ base l
 ·intro base;rw [zcI];simp
 ·intro base l c hl h _;rw [zel hl h];simp
 ·intro base l n w a t hl h _ g1 g2 g3 ih;rw [zbE hl h];simp only [xz,xx] at ih|-;omega
theorem zyD (base:Nat) (l:List UInt8):∀p c,(spl base l).2=some (p,c)->(c=3\/c=4\/c=5)/\base<=p/\p<base+l.length:=by
 refine zfS (fun base l=>∀p c,(spl base l).2=some (p,c)->(c=3\/c=4\/c=5)/\base<=p/\p<base+l.length) ?_ ?_ ?_ base l
 ·intro base p c h;rw [zcI] at h;cases h
 ·intro base l c' hl h hc p c h2;rw [zel hl h] at h2;cases h2;have:0<l.length:=yg.2 hl;exact ⟨hc,by omega,by omega⟩
 ·intro base l n w a t hl h _ g1 g2 g3 ih p c h2;rw [zbE hl h] at h2;have:=ih p c h2;simp only [xx] at this;omega
def zgX (d:Nat) (r:Rec):Rec:=⟨r.Number,r.Wire,r.From+d,r.At+d,r.To+d⟩
theorem zri (d:Nat) (base:Nat) (l:List UInt8):spl (base+d) l=((spl base l).1.map (zgX d),(spl base l).2.map fun p=>(p.1+d,p.2)):=by
 refine zfS (fun base l=>spl (base+d) l=((spl base l).1.map (zgX d),(spl base l).2.map fun p=>(p.1+d,p.2))) ?_ ?_ ?_ base l
 ·intro base;rw [zcI,zcI];rfl
 ·intro base l c hl h _;rw [zel hl h,zel hl h];rfl
 ·intro base l n w a t hl h _ g1 g2 g3 ih;rw [zbE hl h,zbE hl h,show base+d+t=base+t+d by omega,ih];simp only [xC,zgX,xS,yf,zh.mk.injEq,qi,qe];push_cast;omega
theorem zlz (m:List UInt8) (base:Nat) (l:List UInt8):(spl base l).2=none->spl base (l++m)=((spl base l).1++(spl (base+l.length) m).1,(spl (base+l.length) m).2):=by
 refine zfS (fun base l=>(spl base l).2=none->spl base (l++m)=((spl base l).1++(spl (base+l.length) m).1,(spl (base+l.length) m).2)) ?_ ?_ ?_ base l
 ·intro base _;rw [zcI];simp
 ·intro base l c hl h _ h2;rw [zel hl h] at h2;cases h2
 ·intro base l n w a t hl h _ g1 g2 g3 ih h2;rw [zbE hl h] at h2|-;rw [zbE (by simp [hl]) (zkd l m h),pr g3,ih h2];simp only [xx,xO,show base+t+(l.length - t)=base+l.length by omega]
def zqz (w:Int) (v:List UInt8):Bool:=
 if w=0 then decide ((rd v).2.2=0/\(rd v).2.1=v.length) else decide (w=2\/w=1/\v.length=8\/w=5/\v.length=4)
theorem zrX (l:List UInt8) {j:Nat} (h:(rd l).2.2=0) (hj:(rd l).2.1<=j):rd (l.take j)=rd l:=by
 rcases zkc l with h6| ⟨h6,_⟩| ⟨x,c,y,e,hx,hc,hl,hv,h6⟩
 ·rw [h6] at h;cases h
 ·rw [h6] at h;cases h
 ·rw [h6] at hj;have hj':(x++[c]).length<=j:=by simp at hj|-;omega
  have:l.take j=x++c::y.take (j - (x++[c]).length):=by
   rw [e,pl x c y,qI,yY hj',<-pl]
  rw [this,zyq x c _ hx hc hl hv,h6]
theorem zuk (h:zcl w k m= .inr (a,t)):zcl w k (m.take (t - k))= .inr (a,t):=by
 rcases zjx w k m with ⟨c,hc,_⟩| ⟨a2,t2,h2,k1,k2,k3,hcase⟩
 ·rw [hc] at h;cases h
 ·rw [h2] at h;cases h;have hl:(m.take (t - k)).length=t - k:=by simp;omega
  rcases hcase with ⟨rfl,rfl,f1,f2,f3⟩| ⟨rfl,f1,f2,f3⟩| ⟨w0,w2,rfl,f1⟩
  ·have hr:=zrX m (j:=t - a) f1 (by omega);unfold zcl at h2|-;rw [xe rfl] at h2|-;rw [hr];exact h2
  ·have hr:=zrX m (j:=t - k) f1 (by omega);unfold zcl at h2|-;rw [xd (by omega),xe rfl] at h2|-;rw [hr];rw [xd (by simpa using f1)] at h2|-;split at h2
   ·cases h2
   ·rw [xd (by rw [hl];omega)];exact h2
  ·unfold zcl;rw [xd w0,xd w2,xd (by rw [hl];omega),<-f1]
theorem zqZ (h:rec5 l= .inr (n,w,a,t)):rec5 (l.take t)= .inr (n,w,a,t):=by
 rcases zfH l with ⟨c,h',_⟩| ⟨n',w',k,a',t',h',htg,hr,hb,g1,g2,g3,g4,g5,hrd⟩
 ·rw [h'] at h;cases h
 ·rw [h'] at h;cases h;have hr1:=zrX l (j:=t) (by rw [hrd]) (by rw [hrd];simp only;omega);have e:tg (l.take t)=(n,w,(k:Int),0):=by
   have:=zrm (l.take t) (l.drop t) (by rw [hr1,hrd]);rw [xZ,htg] at this;exact this.symm
  unfold rec5;rw [e];simp only [ne_eq,yr,xV,xw];rw [qj,zuk hb]
def rawW (k:Int) (b:List UInt8):Int:=if zdz k=0 then (rd b).1 else (word (b.take 8):Nat)
def zuR (k:Int) (c:Nat):List UInt8:=if 12<=k then zoW 8 c else if 9<=k then zoW 4 c else enc c
def sPut (k w:Int):List UInt8:=zuR k (zeW k w).toNat
theorem zoT :kNum k=true↔1<=k/\k<=14:=by simp [kNum]
def ziY (k:Int) (l:List UInt8):Int⊕Nat:=
 if k<9 then (if (rd l).2.2≠0 then .inl (rd l).2.2 else .inr (rd l).2.1.toNat) else if l.length<(if k<12 then 4 else 8) then .inl 3 else .inr (if k<12 then 4 else 8)
theorem zhB (k:Int) (l:List UInt8):(∃c,ziY k l= .inl c/\(c=3\/c=4))\/∃n,ziY k l= .inr n/\1<=n/\n<=l.length/\n<=10/\(k<9/\(rd l).2.2=0/\(rd l).2.1=(n:Int)\/¬k<9/\n=(if k<12 then 4 else 8)):=by
 obtain ⟨h1,h2,h3,h4,h5,h6,h7⟩:=zfG l;unfold ziY;by_cases h:k<9
 ·rw [xe h];by_cases h0:(rd l).2.2=0
  ·have:=h7 h0;rw [xd (by simpa using h0)];exact .inr ⟨_,rfl,by omega,by omega,by omega,.inl ⟨h,h0,by omega⟩⟩
  ·rw [xe h0];exact .inl ⟨_,rfl,by omega⟩
 ·rw [xd h];by_cases h8:l.length<(if k<12 then 4 else 8)
  ·rw [xe h8];exact .inl ⟨_,rfl,by omega⟩
  ·rw [xd h8];exact .inr ⟨_,rfl,by split<;>omega,by omega,by split<;>omega,.inr ⟨h,rfl⟩⟩
def pcs (k:Int) (l:List UInt8):List (List UInt8)×Int:=
 if hl:l=[] then ([],0) else match h:ziY k l with
  | .inl c=>([],c)
  | .inr n=>(l.take n::(pcs k (l.drop n)).1,(pcs k (l.drop n)).2)
termination_by l.length
decreasing_by
 all_goals
  rcases zhB k l with ⟨c',h',_⟩| ⟨n',h',g1,g2,_⟩
  ·rw [h'] at h;cases h
  ·rw [h'] at h;cases h;simp only [xx];omega
theorem zmm (k:Int):pcs k []=([],0):=by rw [pcs,dif_pos rfl]
theorem zmk (hl:l≠[]) (h:ziY k l= .inl c):pcs k l=([],c):=by
 rw [pcs,dif_neg hl];split
 ·rename_i c' h';rw [h] at h';cases h';rfl
 ·rename_i h';rw [h] at h';cases h'
theorem zjZ (hl:l≠[]) (h:ziY k l= .inr n):pcs k l=(l.take n::(pcs k (l.drop n)).1,(pcs k (l.drop n)).2):=by
 rw [pcs,dif_neg hl];split
 ·rename_i c' h';rw [h] at h';cases h'
 ·rename_i n' h';rw [h] at h';cases h';rfl
theorem zml (k:Int) (P:List UInt8->Prop) (h0:P []) (he:∀l c,l≠[]->ziY k l= .inl c->(c=3\/c=4)->P l)
  (hc:∀l n,l≠[]->ziY k l= .inr n->1<=n->n<=l.length->n<=10->P (l.drop n)->P l) (l:List UInt8):P l:=by
 generalize hn:l.length=m
 induction m using Nat.strongRecOn generalizing l with
 | _ m ih=>
  by_cases hl:l=[]
  ·subst hl;exact h0
  ·rcases zhB k l with ⟨c,h,hc'⟩| ⟨n,h,g1,g2,g3,_⟩
   ·exact he l c hl h hc'
   ·exact hc l n hl h g1 g2 g3 (ih _ (by simp only [xx];omega) _ rfl)
theorem ztq (k:Int) (l:List UInt8):(pcs k l).2=0\/(pcs k l).2=3\/(pcs k l).2=4:=by
 refine zml k (fun l=>(pcs k l).2=0\/(pcs k l).2=3\/(pcs k l).2=4) ?_ ?_ ?_ l
 ·rw [zmm];exact .inl rfl
 ·intro l c hl h hc;rw [zmk hl h];exact .inr hc
 ·intro l n hl h _ _ _ ih;rw [zjZ hl h];exact ih
theorem zzL (k:Int) (l:List UInt8):(pcs k l).1.length<=l.length:=by
 refine zml k (fun l=>(pcs k l).1.length<=l.length) ?_ ?_ ?_ l
 ·rw [zmm];simp
 ·intro l c hl h _;rw [zmk hl h];simp
 ·intro l n hl h _ _ _ ih;rw [zjZ hl h];simp only [xz,xx] at ih|-;have:=yg.2 hl;omega
theorem zvb (hk:kNum k=true) (h:ziY k l= .inr n):zqz (zdz k) (l.take n)=true:=by
 have hk':=zoT.1 hk;rcases zhB k l with ⟨c,h',_⟩| ⟨n',h',g1,g2,g3,hcase⟩
 ·rw [h'] at h;cases h
 ·rw [h'] at h;cases h;have vd:(l.take n).length=n:=by simp;omega
  unfold zqz;rcases hcase with ⟨h9,f1,f2⟩| ⟨h9,f1⟩
  ·have e:zdz k=0:=by unfold zdz;rw [xd (by omega),xd (by omega),xd (by omega)]
   rw [xe e];rcases zkc l with h6| ⟨h6,_⟩| ⟨x,c,y,e,hx,hc,hl,hv,h6⟩
   ·rw [h6] at f1;cases f1
   ·rw [h6] at f1;cases f1
   ·rw [h6] at f2;have e7:n=(x++[c]).length:=by simp at f2|-;omega
    have e8:l.take n=x++c::[]:=by rw [e7,e,pl x c y,List.take_left]
    rw [e8,zyq x c [] hx hc hl hv];simp
  ·have h12:zdz k=1/\12<=k\/zdz k=5/\k<12:=by
    unfold zdz;rw [xd (by omega)];by_cases hh:12<=k
    ·rw [xe hh];exact .inl ⟨rfl,hh⟩
    ·rw [xd hh,xe (by omega)];exact .inr ⟨rfl,by omega⟩
   rw [xd (by omega),vd,f1];refine xT ?_;rcases h12 with ⟨e,hh⟩| ⟨e,hh⟩
   ·rw [e,xd (by omega)];right;left;exact ⟨rfl,rfl⟩
   ·rw [e,xe hh];right;right;exact ⟨rfl,rfl⟩
theorem zyl (hk:kNum k=true) (l:List UInt8):∀p∈(pcs k l).1,zqz (zdz k) p=true/\1<=p.length/\p.length<=10:=by
 refine zml k (fun l=>∀p∈(pcs k l).1,zqz (zdz k) p=true/\1<=p.length/\p.length<=10) ?_ ?_ ?_ l
 ·rw [zmm];intro p hp;cases hp
 ·intro l c hl h _;rw [zmk hl h];intro p hp;cases hp
 ·intro l n hl h g1 g2 g3 ih;rw [zjZ hl h];intro p hp;cases hp with
  | head=>exact ⟨zvb hk h,by simp;omega,by simp;omega⟩
  | tail _ hp=>exact ih p hp
def zyW (k:Int) (p:List UInt8):Int:=zeW k (rawW k p)
def ends (base:Nat):List (List UInt8)->List Int
 | []=>[]
 | p::ps=>((base+p.length:Nat):Int)::ends (base+p.length) ps
theorem zsa {b:List UInt8} (hb:b.length<=1048576) (k:Int) (l:List UInt8):∀(a:Nat) (out:List Int),a<=b.length->l=b.drop a->out.length<=a->
  zaT b k out a=some (if (pcs k l).2=0 then .inl (out++ends a (pcs k l).1) else .inr (pcs k l).2):=by
 refine zml k (fun l=>∀(a:Nat) (out:List Int),a<=b.length->l=b.drop a->out.length<=a->
  zaT b k out a=some (if (pcs k l).2=0 then .inl (out++ends a (pcs k l).1) else .inr (pcs k l).2)) ?_ ?_ ?_ l
 ·intro a out ha hl ho;have:b.length<=a:=by have:=congrArg List.length hl;simp at this;omega
  rw [zmm,xe rfl];refine zew ?_;unfold zao;rw [pw];simp [ends]
 ·intro l c hl h hc a out ha hld ho;subst hld;have hlt:a<b.length:=by have:=yg.2 hl;simp at this;omega
  have hdl:(b.drop a).length=b.length - a:=by simp
  rw [zmk hl h,xd (by simp only;omega)];refine zew ?_;unfold zao;rw [pv];unfold ziY at h;by_cases h9:k<9
  ·rw [xe h9] at h;by_cases h0:(rd (b.drop a)).2.2=0
   ·rw [xd (by simpa using h0)] at h;cases h
   ·rw [xe h0] at h;cases h;rw [pv,sb,itT (by simpa using h9),zpu b a (by omega) ha,sb,itT (by simpa using h0),sb]
  ·rw [xd h9] at h;by_cases h12:k<12
   ·simp only [xe h12] at h;by_cases h8:(b.drop a).length<4
    ·rw [xe h8] at h;cases h;rw [itT (by simpa using h12),sb,itF (by simpa using h9),sb];simp only;rw [px,pv]
    ·rw [xd h8] at h;cases h
   ·simp only [xd h12] at h;by_cases h8:(b.drop a).length<8
    ·rw [xe h8] at h;cases h;rw [itF (by simpa using h12),sb,itF (by simpa using h9),sb];simp only;rw [px,pv]
    ·rw [xd h8] at h;cases h
 ·intro l n hl h g1 g2 g3 ih a out ha hld ho;subst hld;have hdl:(b.drop a).length=b.length - a:=by simp
  have hbody:zao b k out a=some (.inl (out++[((a+n:Nat):Int)],((a+n:Nat):Int))):=by
   unfold zao;rw [pv];rcases zhB k (b.drop a) with ⟨c,h',_⟩| ⟨n',h',_,_,_,hcase⟩
   ·rw [h'] at h;cases h
   ·rw [h'] at h;cases h;rcases hcase with ⟨h9,f1,f2⟩| ⟨h9,f1⟩
    ·rw [pv,sb,itT (by simpa using h9),zpu b a (by omega) ha,sb,itF (by simpa using f1),sb];simp only;rw [f2,px,pw,zjv (by simp;omega),sb];push_cast;rfl
    ·by_cases h12:k<12
     ·rw [xe h12] at f1;subst f1;rw [itT (by simpa using h12),sb,itF (by simpa using h9),sb];simp only;rw [px,pw,zjv (by simp;omega),sb];push_cast;rfl
     ·rw [xd h12] at f1;subst f1;rw [itF (by simpa using h12),sb,itF (by simpa using h9),sb];simp only;rw [px,pw,zjv (by simp;omega),sb];push_cast;rfl
  rw [zhM hbody,ih (a+n) _ (by omega) (by rw [xP]) (by simp;omega),zjZ hl h];have e:((b.drop a).take n).length=n:=by simp;omega
  simp only [ends,e,yZ,qF]
def ziT (k:Int) (b:List UInt8):List Int×Int:=if kNum k=false then ([],2) else if (pcs k b).2=0 then (ends 0 (pcs k b).1,0) else ([],(pcs k b).2)
theorem zuM (k:Int) {b:List UInt8} (hb:b.length<=1048576):zcU k b=some (ziT k b):=by
 unfold zcU ziT;rw [zls,sb];cases hn:kNum k
 ·rw [pt,xe rfl]
 ·have h:=zsa hb k b 0 [] (xm _) rfl (xi _);have h':zaT b k [] 0=_:=h;rw [pu,xd (by simp),h',sb];by_cases h0:(pcs k b).2=0
  ·rw [xe h0,xe h0];rfl
  ·rw [xd h0,xd h0]
def zeu (k:Int) (b:List UInt8):List Int×Int:=if kNum k=false then ([],2) else if (pcs k b).2=0 then ((pcs k b).1.map (zyW k),0) else ([],(pcs k b).2)
abbrev Vw:=zaq
def zvw:Vw:=⟨zrec,0,false⟩
def zX (m:Mes) (i:Int):Fld:=m.Fields.getD i.toNat ⟨[],0,0,false,false,0⟩
def vw (m:Mes) (n w:Int):Int⊕(Int×Bool):=
 if fldI m n<0 then .inr (-1,false)
 else if (zX m (fldI m n)).Repeated=true/\kNum (zX m (fldI m n)).Kind=true/\w=2 then .inr (fldI m n,true)
 else if zbS (zX m (fldI m n)).Kind=false\/zdz (zX m (fldI m n)).Kind≠w then .inl 6 else .inr (fldI m n,false)
theorem ziF (m:Mes) (n:Int):fldI m n= -1/\(∀f∈m.Fields,f.Number≠n)\/∃(i:Nat) (h:i<m.Fields.length),fldI m n=i/\m.Fields[i].Number=n/\∀(j:Nat) (h:j<m.Fields.length),j<i->m.Fields[j].Number≠n:=by
 unfold fldI;cases h:m.Fields.findIdx? (fun f:Fld=>f.Number==n) with
 | none=>
  left;rw [qB] at h;exact ⟨zns (qB.2 h),fun f hf=>by simpa using h f hf⟩
 | some i=>
  right;have h':=h;rw [pd] at h;obtain ⟨hi,hp,hj⟩:=h;exact ⟨i,hi,znt h',by simpa using hp,fun j hjl hji=>by simpa using hj j hji⟩
theorem zgL {m:Mes} {i:Nat} (h:i<m.Fields.length):zX m (i:Int)=m.Fields[i]:=by
 unfold zX;rw [xw,qD,xu h];rfl
theorem zeh (m:Mes) (n w:Int):vw m n w= .inl 6\/vw m n w= .inr (-1,false)/\fldI m n= -1\/∃(i:Nat) (run:Bool),vw m n w= .inr ((i:Int),run)/\fldI m n=i/\i<m.Fields.length:=by
 unfold vw;rcases ziF m n with ⟨h,_⟩| ⟨i,hi,h,_⟩
 ·right;left;rw [h,xe (by omega)];exact ⟨rfl,rfl⟩
 ·rw [h,xd (by omega)];split
  ·right;right;exact ⟨i,true,rfl,rfl,hi⟩
  ·split
   ·left;rfl
   ·right;right;exact ⟨i,false,rfl,rfl,hi⟩
def zbB (m:Mes) (b:List UInt8) (at5:Int):Vw×Int:=
 if (zcj b at5).2≠0 then (zvw,(zcj b at5).2) else match vw m (zcj b at5).1.Number (zcj b at5).1.Wire with
  | .inl c=>(zvw,c)
  | .inr (i,run)=>(⟨(zcj b at5).1,i,run⟩,0)
theorem zps {m:Mes} (hm:m.Fields.length<=1152921504606846976) {b:List UInt8} (hb:b.length<=1048576) (at5:Int):zcV m b at5=some (zbB m b at5):=by
 unfold zcV zbB;rw [zuO hb,sb];by_cases h:(zcj b at5).2=0
 ·rw [itF (by simpa using h),xd (by simpa using h),ztv hm,sb]
  generalize (zcj b at5).1=r
  unfold vw;rcases ziF m r.Number with ⟨hf,_⟩| ⟨i,hi,hf,_⟩
  ·rw [hf,pt,xe (by decide)]
  ·rw [hf,itF (by simp),xd (by omega),zad rfl hi,sb,zgL hi,zls,sb,zmo,sb,ztw,sb];have e:(if (m.Fields[i]).Repeated=true then (if kNum (m.Fields[i]).Kind=true then some (r.Wire==2) else some false) else some false)=some (decide ((m.Fields[i]).Repeated=true/\kNum (m.Fields[i]).Kind=true/\r.Wire=2)):=by
    cases (m.Fields[i]).Repeated
    ·rfl
    ·cases kNum (m.Fields[i]).Kind
     ·rfl
     ·by_cases hw:r.Wire=2<;>simp [hw]
   rw [e,sb];by_cases h1:(m.Fields[i]).Repeated=true/\kNum (m.Fields[i]).Kind=true/\r.Wire=2
   ·rw [itT (xT h1),xe h1]
   ·rw [itF (xR h1),xd h1];have e2:(if (!zbS (m.Fields[i]).Kind)=true then some true else some (zdz (m.Fields[i]).Kind !=r.Wire))=some (decide (zbS (m.Fields[i]).Kind=false\/zdz (m.Fields[i]).Kind≠r.Wire)):=by
     cases zbS (m.Fields[i]).Kind
     ·rfl
     ·by_cases hw:zdz (m.Fields[i]).Kind=r.Wire<;>simp [hw]
    rw [e2,sb];by_cases h2:zbS (m.Fields[i]).Kind=false\/zdz (m.Fields[i]).Kind≠r.Wire
    ·rw [itT (xT h2),xe h2];rfl
    ·rw [itF (xR h2),xd h2]
 ·rw [itT (by simpa using h),xe h];rfl
def vws (m:Mes) (e:Option (Nat×Int)):List Rec->List Vw×Option (Int×Int)
 | []=>([],e.map fun p=>((p.1:Int),p.2))
 | r::l=>match vw m r.Number r.Wire with
  | .inl c=>([],some (r.From,c))
  | .inr (i,run)=>(⟨r,i,run⟩::(vws m e l).1,(vws m e l).2)
def vwR (r:List Vw×Option (Int×Int)):List Vw×Int×Int:=match r.2 with
 | none=>(r.1,0,0)
 | some (p,c)=>([],p,c)
def zaD (m:Mes) (b:List UInt8):List Vw×Int×Int:=vwR (vws m (spl 0 b).2 (spl 0 b).1)
def zB (s:List Mes) (i:Int):Mes:=s.getD i.toNat ⟨[],[]⟩
theorem zey {s:List Mes} {i:Nat} (h:i<s.length):zB s (i:Int)=s[i]:=by
 unfold zB;rw [xw,qD,xu h];rfl
def valB (b:List UInt8) (r:Rec):List UInt8:=(b.drop r.At.toNat).take (r.To.toNat - r.At.toNat)
abbrev zgG:=Option (Int->List UInt8->Option (Int×Int))
def zjQ (f:Fld) (run:Bool) (sub:zgG) (r:Rec) (v:List UInt8):Option (Int×Int):=
 if run=true then (if (ziT f.Kind v).2≠0 then some (r.From,(ziT f.Kind v).2) else none)
 else if f.Kind=15/\zfJ v=false then some (r.From,7)
 else if f.Kind=17 then (match sub with
  | none=>some (r.From,8)
  | some g=>match g f.Of v with
   | some (p,c)=>some (r.At+p,c)
   | none=>none)
 else none
def zbF (m:Mes) (sub:zgG) (b:List UInt8) (r:Rec):Option (Int×Int):=match vw m r.Number r.Wire with
 | .inl c=>some (r.From,c)
 | .inr (i,run)=>if i<0 then none else zjQ (zX m i) run sub r (valB b r)
def zaN (m:Mes) (sub:zgG) (b:List UInt8) (x:List Rec×Option (Nat×Int)):Option (Int×Int):=match x.1.findSome? (zbF m sub b) with
 | some p=>some p
 | none=>x.2.map fun p=>((p.1:Int),p.2)
def zK (s:List Mes):Nat->Int->List UInt8->Option (Int×Int)
 | 0,k,b=>zaN (zB s k) none b (spl 0 b)
 | d+1,k,b=>zaN (zB s k) (some (zK s d)) b (spl 0 b)
def zmG (g:Int->List UInt8->Option (Int×Int)):Prop:=∀k v p c,g k v=some (p,c)->3<=c/\c<=8/\0<=p/\p<v.length
theorem zwl (k:Int) :(ziT k b).2=0\/(ziT k b).2=2/\kNum k=false\/(ziT k b).2=3\/(ziT k b).2=4:=by
 unfold ziT
 grind [ztq]
theorem zyR (h:vw m n w= .inr (i,true)):kNum (zX m i).Kind=true/\(zX m i).Repeated=true/\w=2:=by
 unfold vw at h
 grind
theorem ztR (hr:r.At=((base+a:Nat):Int)) (ht:r.To=((base+t:Nat):Int)) (h:base+t<=b.length) (hat:a<=t):(valB b r).length=t - a:=by
 unfold valB;rw [hr,ht];simp;omega
theorem zrl {m:Mes} {sub:zgG} {b:List UInt8} (hg:∀g,sub=some g->zmG g) {n w:Int} {base a t:Nat} (h1:1<=a) (hat:a<=t) (ht:base+t<=b.length) {p c:Int}
  (h:zbF m sub b ⟨n,w,base,(base+a:Nat),(base+t:Nat)⟩=some (p,c)):3<=c/\c<=8/\0<=p/\p<b.length:=by
 unfold zbF at h;rcases zeh m n w with hv| ⟨hv,_⟩| ⟨i,run,hv,_,hi⟩
 ·grind
 ·grind
 ·simp only [hv] at h;rw [xd (by omega)] at h;unfold zjQ at h;split at h
  ·grind [zyR,zwl]
  ·split at h
   ·grind
   ·split at h
    ·cases sub with
     | none=>simp only at h;cases h;(try dsimp only);omega
     | some g=>
      simp only at h;have hl:=ztR (b:=b) (r:=⟨n,w,base,(base+a:Nat),(base+t:Nat)⟩) rfl rfl ht hat;cases hgv:g (zX m i).Of (valB b ⟨n,w,base,(base+a:Nat),(base+t:Nat)⟩) with
      | none=>rw [hgv] at h;cases h
      | some q=>
       obtain ⟨q1,q2⟩:=q;rw [hgv] at h;have:=hg g rfl _ _ _ _ hgv
       grind
    ·cases h
theorem zqE {m:Mes} {sub:zgG} {b:List UInt8} (hg:∀g,sub=some g->zmG g) (base:Nat) (l:List UInt8):l=b.drop base->base<=b.length->∀p c,zaN m sub b (spl base l)=some (p,c)->3<=c/\c<=8/\0<=p/\p<b.length:=by
 refine zfS (fun base l=>l=b.drop base->base<=b.length->∀p c,zaN m sub b (spl base l)=some (p,c)->3<=c/\c<=8/\0<=p/\p<b.length) ?_ ?_ ?_ base l
 ·grind [zaN,zcI]
 ·intro base l c' hl h hc hld hb p c h2;have hlt:base<b.length:=by subst hld;have:=yg.2 hl;simp at this;omega
  unfold zaN at h2;rw [zel hl h] at h2
  grind
 ·intro base l n w a t hl h _ g1 g2 g3 ih hld hb p c h2;have hbl:base+t<=b.length:=by subst hld;simp at g3;omega
  unfold zaN at h2 ih;rw [zbE hl h] at h2;simp only [pm] at h2;cases hs:zbF m sub b ⟨n,w,base,(base+a:Nat),(base+t:Nat)⟩ with
  | some q=>rw [hs] at h2;cases h2;exact zrl hg g1 g2 hbl hs
  | none=>
   simp_all
theorem zfz (s:List Mes):∀(d:Nat),zmG (zK s d)
 | 0=>fun k v p c h=>zqE (fun g hg=>by cases hg) 0 v rfl (xm _) p c h
 | d+1=>fun k v p c h=>zqE (fun g hg=>by cases hg;exact zfz s d) 0 v rfl (xm _) p c h
theorem zoH {s:List Mes} {k:Nat} {m:Mes} (hk:∃h:k<s.length,s[k]=m) (hm:m.Fields.length<=1152921504606846976) {b:List UInt8} (hb:b.length<=1048576) {d:Int} (hd:0<=d/\d<=64) {sub:zgG}
  {rec:List zc->Int->List UInt8->Int->Option (Int×Int)} (hg:∀g,sub=some g->zmG g) (h0:sub=none↔d=0)
  (hs:∀g,sub=some g->∀f∈m.Fields,f.Kind=17->∀v:List UInt8,v.length<=b.length->rec s f.Of v (d - 1)=some ((g f.Of v).getD (0,0))) (base:Nat) (l:List UInt8):
  l=b.drop base->base<=b.length->zaz b d k rec s base=some (match zaN m sub b (spl base l) with| none=> .inl ()| some p=> .inr p):=by
 obtain ⟨hkl,hke⟩:=hk;have e1:idx s (k:Int)=some m:=by rw [zad rfl hkl,hke]
 refine zfS (fun base l=>l=b.drop base->base<=b.length->zaz b d k rec s base=some (match zaN m sub b (spl base l) with| none=> .inl ()| some p=> .inr p)) ?_ ?_ ?_ base l
 ·intro base hl hbase;have:b.length<=base:=by have:=congrArg List.length hl;simp at this;omega
  unfold zaN;rw [zcI];refine zcK ?_;unfold zay
  grind
 ·intro base l c hl h hc hld hbase;subst hld;have hlt:base<b.length:=by have:=yg.2 hl;simp at this;omega
  unfold zaN;rw [zel hl h];refine zcK ?_;unfold zay;have e:zcj b base=(zrec,c):=by unfold zcj;rw [xd (by omega),xw,h]
  grind [zbB,sb,zps]
 ·intro base l n w a t hl h _ g1 g2 g3 ih hld hbase;subst hld;simp only [xx] at g3;have hlt:base<b.length:=by omega
  have e:zcj b base=(⟨n,w,base,(base+a:Nat),(base+t:Nat)⟩,0):=by
   unfold zcj;rw [xd (by omega),xw,h];push_cast;rfl
  have ih':=ih (by rw [xP]) (by omega)
  have hfr:zaN m sub b (spl base (b.drop base))=match zbF m sub b ⟨n,w,base,(base+a:Nat),(base+t:Nat)⟩ with
    | some p=>some p
    | none=>zaN m sub b (spl (base+t) ((b.drop base).drop t)):=by
   unfold zaN;rw [zbE hl h];simp only [pm];cases zbF m sub b ⟨n,w,base,(base+a:Nat),(base+t:Nat)⟩<;>rfl
  have hcut:cut b ((base+a:Nat):Int) ((base+t:Nat):Int)=some (valB b ⟨n,w,base,(base+a:Nat),(base+t:Nat)⟩):=by
   grind [valB,zes]
  have hvl:=ztR (b:=b) (r:=⟨n,w,base,(base+a:Nat),(base+t:Nat)⟩) rfl rfl (by omega) g2
  -- the body, by what the record's fault is
  have hbody:zay b d k rec s base=match zbF m sub b ⟨n,w,base,(base+a:Nat),(base+t:Nat)⟩ with
    | some p=>some (.inr (.inr p))
    | none=>some (.inl ((base+t:Nat):Int)):=by
   unfold zay zbF;rw [pv,e1,sb,zps hm hb,sb];rcases zeh m n w with hv| ⟨hv,_⟩| ⟨i,run,hv,_,hi⟩
   ·grind [zbB]
   ·grind [zbB,sb]
   ·have e2:zbB m b base=(⟨⟨n,w,base,(base+a:Nat),(base+t:Nat)⟩,i,run⟩,0):=by unfold zbB;rw [e];simp only [ne_eq,yr,xV,hv]
    have hfm:zX m (i:Int)∈m.Fields:=by rw [zgL hi];exact xM hi
    rw [e2,pu];simp only [hv];rw [hcut,sb,itT (by simp),sb,zad rfl hi,sb,xd (show ¬((i:Int)<0) by omega),<-zgL hi]
    generalize hvv:valB b ⟨n,w,base,(base+a:Nat),(base+t:Nat)⟩=v at hvl|-
    generalize zX m (i:Int)=f at hfm|-
    unfold zjQ;cases run
    ·rw [itF (c:=false) rfl,xd (show ¬(false=true) by simp)];have e15:(if (f.Kind==15)=true then (zbp v>>=fun u9=>some (!u9)) else some false)=some (decide (f.Kind=15/\zfJ v=false)):=by
      rw [ztA (by omega),sb];by_cases h15:f.Kind=15
      ·simp_all
      grind
     rw [e15,sb];by_cases h15:f.Kind=15/\zfJ v=false
     ·grind
     ·rw [itF (xR h15),xd h15];by_cases h17:f.Kind=17
      ·rw [itT (by simpa using h17),xe h17];cases hsub:sub with
       | none=>
        grind
       | some g=>
        have hd0:d≠0:=fun hh=>by rw [h0.2 hh] at hsub;cases hsub
        rw [itF (by simpa using hd0),zp (x:=d - 1) (by omega),hs g hsub f hfm h17 v (by omega),sb];cases hgv:g f.Of v with
        | none=>simp only [Option.getD_none,hgv];rw [pu]
        | some q=>
         obtain ⟨q1,q2⟩:=q;have:=hg g hsub _ _ _ _ hgv
         grind [zp]
      grind
    grind [zuM,sb]
  rw [hfr];cases hst:zbF m sub b ⟨n,w,base,(base+a:Nat),(base+t:Nat)⟩ with
  | some p=>rw [hst] at hbody;rw [zcK hbody]
  | none=>rw [hst] at hbody;rw [zhp hbody,ih']
theorem zqf {s:List Mes} (hr:zop s):∀(d uZ:Nat),d<=64->d<uZ->∀(k:Nat) (b:List UInt8),k<s.length->b.length<=1048576->
  zas uZ s k b d=some ((zK s d k b).getD (0,0)):=by
 intro d
 induction d with
 | zero=>
  intro uZ hd hf k b hk hb;obtain ⟨uZ,rfl⟩:∃q,uZ=q+1:=⟨uZ - 1,by omega⟩;have h:=zoH (s:=s) (k:=k) (m:=s[k]) ⟨hk,rfl⟩ (by have:=hr.few _ (xM hk);omega) hb (d:=0) (by omega) (sub:=none) (rec:=zas uZ) (fun g hg=>by cases hg) (by simp) (fun g hg=>by cases hg) 0 b rfl (xm _);have h':zaz b 0 k (zas uZ) s 0=_:=h;show zaU (zas uZ) s k b 0=_;unfold zaU;rw [h',sb,zK,zey hk]
  grind
 | succ d ih=>
  intro uZ hd hf k b hk hb;obtain ⟨uZ,rfl⟩:∃q,uZ=q+1:=⟨uZ - 1,by omega⟩
  have h:=zoH (s:=s) (k:=k) (m:=s[k]) ⟨hk,rfl⟩ (by have:=hr.few _ (xM hk);omega) hb (d:=((d+1:Nat):Int)) (by omega) (sub:=some (zK s d)) (rec:=zas uZ)
   (fun g hg=>by cases hg;exact zfz s d) (by constructor<;>intro h<;>first| cases h| omega)
   (fun g hg f hf17 h17 v hv=>by
    cases hg;have hof:=(hr.fld _ (xM hk) f hf17).sub h17;obtain ⟨q,hq⟩:∃q:Nat,f.Of=q:=⟨f.Of.toNat,by omega⟩;have e:((d+1:Nat):Int) - 1=(d:Int):=by omega
    rw [e,hq];exact ih uZ (by omega) (by omega) q v (by omega) (by omega)) 0 b rfl (xm _)
  have h':zaz b ((d+1:Nat):Int) k (zas uZ) s 0=_:=h;show zaU (zas uZ) s k b ((d+1:Nat):Int)=_;unfold zaU;rw [h',sb,zK,zey hk]
  grind
def argS (s:List Mes) (root d:Int):Int:=if zlu s=false then 9 else if root<0\/root>=s.length\/d<0\/d>64 then 2 else 0
theorem zuL {s:List Mes} (hw:WS s) (root d:Int):zcW s root d=some (argS s root d):=by
 unfold zcW argS
 grind [zqg,sb]
def zam (s:List Mes) (root:Int) (b:List UInt8) (d:Int):Int×Int:=if argS s root d≠0 then (0,argS s root d) else (zK s d.toNat root b).getD (0,0)
theorem zkr (h:argS s root d=0):zop s/\0<=root/\root<s.length/\0<=d/\d<=64:=by
 unfold argS at h
 grind [zwQ]
theorem zkY {s:List Mes} (hw:WS s) (root:Int) {b:List UInt8} (hb:b.length<=1048576) (d:Int) {uZ:Nat} (hf:64<uZ):zbR uZ s root b d=some (zam s root b d):=by
 unfold zbR zam;rw [zuL hw,sb];by_cases h:argS s root d=0
 ·obtain ⟨hr,h1,h2,h3,h4⟩:=zkr h;obtain ⟨k,rfl⟩:∃k:Nat,root=k:=⟨root.toNat,by omega⟩
  grind [zqf,sb]
 grind
def is11 (s:List Mes) (root:Int) (b:List UInt8) (d:Int):Bool:=(zam s root b d).2==0
theorem zpr {s:List Mes} (hw:WS s) (root:Int) {b:List UInt8} (hb:b.length<=1048576) (d:Int) {uZ:Nat} (hf:64<uZ):zdy uZ s root b d=some (is11 s root b d):=by
 unfold zdy;rw [zkY hw root hb d hf,sb];rfl
theorem zcg :zaN m sub b x=none↔(∀r∈x.1,zbF m sub b r=none)/\x.2=none:=by
 unfold zaN;cases h:x.1.findSome? (zbF m sub b) with
 | some p=>
  grind
 | none=>
  rw [List.findSome?_eq_none_iff] at h;cases hx:x.2 with
  | none=>exact ⟨fun _=>⟨h,rfl⟩,fun _=>rfl⟩
  | some p=>exact ⟨(fun h'=>nomatch h'),fun ⟨_,h2⟩=>nomatch h2⟩
theorem zkk (z:List UInt8) (h0:0<=r.To) (h:r.To<=b.length):valB (b++z) r=valB b r:=by
 unfold valB;by_cases ha:r.At.toNat<=b.length
 ·grind
 ·have e:r.To.toNat - r.At.toNat=0:=by omega
  grind
theorem zlB (a b:List UInt8) (h0:0<=r.At) (h1:r.At<=r.To):valB (a++b) (zgX a.length r)=valB b r:=by
 unfold valB zgX;simp only;have e1:(r.At+(a.length:Int)).toNat=a.length+r.At.toNat:=by omega
 have e2:(r.To+(a.length:Int)).toNat - (a.length+r.At.toNat)=r.To.toNat - r.At.toNat:=by omega
 simp_all
theorem zmB (hn:r'.Number=r.Number) (hw:r'.Wire=r.Wire) (hv:valB b' r'=valB b r):zbF m sub b' r'=none↔zbF m sub b r=none:=by
 unfold zbF;rw [hn,hw,hv];cases vw m r.Number r.Wire with
 | inl c=>simp
 | inr p=>
  simp only;by_cases hi:p.1<0
  ·simp [hi]
  ·rw [xd hi,xd hi];unfold zjQ
   grind
theorem znj (base:Nat) (l:List UInt8):∀r∈(spl base l).1,(base:Int)<=r.From/\r.From<r.At/\r.At<=r.To/\r.To<=base+l.length:=by
 refine zfS (fun base l=>∀r∈(spl base l).1,(base:Int)<=r.From/\r.From<r.At/\r.At<=r.To/\r.To<=base+l.length) ?_ ?_ ?_ base l
 ·intro base r hr;rw [zcI] at hr;cases hr
 ·intro base l c hl h _ r hr;rw [zel hl h] at hr;cases hr
 ·intro base l n w a t hl h _ g1 g2 g3 ih r hr;rw [zbE hl h] at hr
  grind
theorem znv (z:List UInt8) (h:zaN m sub a (spl 0 a)=none):zaN m sub (a++z) (spl 0 (a++z))=none↔zaN m sub z (spl 0 z)=none:=by
 rw [zcg] at h;have hap:=zlz z 0 a h.2;have hsh:=zri a.length 0 z;rw [xL] at hap hsh;rw [hsh] at hap;rw [zcg,zcg,hap];simp only [xl,xr];constructor
 ·rintro ⟨h1,h2⟩;refine ⟨fun r hr=>?_,by cases hz:(spl 0 z).2 with| none=>rfl| some p=>rw [hz] at h2;cases h2⟩;have hb:=znj 0 z r hr;have:=h1 (zgX a.length r) (.inr ⟨r,hr,rfl⟩);exact (zmB (r:=r) (r':=zgX a.length r) rfl rfl (zlB a z (by omega) (by omega))).1 this
 ·rintro ⟨h1,h2⟩;refine ⟨fun r hr=>?_,by rw [h2];rfl⟩;rcases hr with hr| ⟨r,hr,rfl⟩
  ·have hb:=znj 0 a r hr
   grind [zmB,zkk]
  ·have hb:=znj 0 z r hr;exact (zmB (r:=r) (r':=zgX a.length r) rfl rfl (zlB a z (by omega) (by omega))).2 (h1 r hr)
theorem zeX (s:List Mes) (d:Nat) (k:Int) (z:List UInt8) (h:zK s d k a=none):zK s d k (a++z)=none↔zK s d k z=none:=by
 cases d with
 | zero=>exact znv z h
 | succ d=>exact znv z h
theorem zlQ :is11 s root b d=true↔argS s root d=0/\zK s d.toNat root b=none:=by
 unfold is11 zam;by_cases h:argS s root d=0
 ·rw [xd (by simpa using h)];cases hf:zK s d.toNat root b with
  | none=>simp [h]
  | some p=>
   obtain ⟨p,c⟩:=p;have:=zfz s d.toNat root b p c hf
   grind
 grind
abbrev zdT:=List Int
def ziR (m:List zdT) (n:Int):Bool:=m.any fun v=>v==[n]
def zBm (n:Int):zdT->Option zdT
 | x::y::v=>if x=n then some (y::v) else none
 | _=>none
def zhU (m:List zdT) (n:Int):List zdT:=m.filterMap (zBm n)
abbrev Msg:=zhW
abbrev Vlu:=zem
mutual
def szM:Msg->Nat
 | ⟨vs,_⟩=>1+szVs vs
def szVs:List Vlu->Nat
 | []=>0
 | v::l=>szV v+szVs l
def szV:Vlu->Nat
 | ⟨_,_,_,s⟩=>1+szMs s
def szMs:List Msg->Nat
 | []=>0
 | x::l=>szM x+szMs l
end
theorem zdv (x:Msg):szM x=1+szVs x.Values:=by cases x;rw [szM]
theorem zhT (v:Vlu):szV v=1+szMs v.Subs:=by cases v;rw [szV]
theorem zfg :∀{l:List Vlu},v∈l->szV v<=szVs l
 | [],h=>by cases h
 | u::l,h=>by
  rw [szVs];rcases xj.1 h with rfl| h
  ·omega
  ·have:=zfg h;omega
theorem zff :∀{l:List Msg},x∈l->szM x<=szMs l
 | [],h=>by cases h
 | u::l,h=>by
  rw [szMs];rcases xj.1 h with rfl| h
  ·omega
  ·have:=zff h;omega
mutual
/-- Within the reach of what a law is handed. -/
def bdM:Msg->Prop
 | ⟨vs,u⟩=>vs.length*80<=140737488351232/\(u.length*16<=140737488351232/\∀t∈u,t.length<=140737488351232)/\bdVs vs
def bdVs:List Vlu->Prop
 | []=>True
 | v::l=>bdV v/\bdVs l
def bdV:Vlu->Prop
 | ⟨n,w,t,s⟩=>(Lit.int .i64 n).wf=true/\(w.length*8<=140737488351232/\∀x∈w,0<=x/\x<=18446744073709551615)/\(t.length*16<=140737488351232/\∀x∈t,x.length<=140737488351232)/\s.length*48<=140737488351232/\bdMs s
def bdMs:List Msg->Prop
 | []=>True
 | x::l=>bdM x/\bdMs l
end
theorem zoq (x:Msg):bdM x↔x.Values.length*80<=140737488351232/\(x.Unknown.length*16<=140737488351232/\∀t∈x.Unknown,t.length<=140737488351232)/\bdVs x.Values:=by cases x;simp only [bdM]
theorem zld (v:Vlu):bdV v↔(Lit.int .i64 v.Number).wf=true/\(v.Words.length*8<=140737488351232/\∀x∈v.Words,0<=x/\x<=18446744073709551615)/\(v.Texts.length*16<=140737488351232/\∀x∈v.Texts,x.length<=140737488351232)/\v.Subs.length*48<=140737488351232/\bdMs v.Subs:=by cases v;simp only [bdV]
theorem zgI:∀{l:List Vlu},bdVs l↔∀v∈l,bdV v
 | []=>by simp [bdVs]
 | v::l=>by rw [bdVs,zgI (l:=l)];simp
theorem zgH:∀{l:List Msg},bdMs l↔∀v∈l,bdM v
 | []=>by simp [bdMs]
 | v::l=>by rw [bdMs,zgH (l:=l)];simp
section
open Classical
end
def zgc (v:Vlu):Nat:=v.Words.length+v.Texts.length+v.Subs.length
mutual
def dM:Msg->Nat
 | ⟨vs,_⟩=>dVs vs
def dVs:List Vlu->Nat
 | []=>0
 | v::l=>max (dV v) (dVs l)
def dV:Vlu->Nat
 | ⟨_,_,_,s⟩=>dMs s
def dMs:List Msg->Nat
 | []=>0
 | x::l=>max (1+dM x) (dMs l)
end
structure Th where
 fi:Int
 run:Bool
 val:List UInt8
 raw:List UInt8
def rawB (b:List UInt8) (r:Rec):List UInt8:=(b.drop r.From.toNat).take (r.To.toNat - r.From.toNat)
def thOf (b:List UInt8) (t:Vw):Th:=⟨t.Field,t.Run,valB b t.R,rawB b t.R⟩
def ths (m:Mes) (b:List UInt8):List Th:=(zaD m b).1.map (thOf b)
abbrev zxg:=List UInt8×Bool×List Int×List Str×List Msg
mutual
/-- How much a meaning is, all together. -/
def wgM:Msg->Nat
 | ⟨vs,u⟩=>1+(u.map fun t=>1+t.length).sum+wgVs vs
def wgVs:List Vlu->Nat
 | []=>0
 | v::l=>wgV v+wgVs l
def wgV:Vlu->Nat
 | ⟨_,w,t,s⟩=>1+w.length+(t.map fun t=>1+t.length).sum+wgMs s
def wgMs:List Msg->Nat
 | []=>0
 | x::l=>wgM x+wgMs l
end
theorem zkp (x:Msg):wgM x=1+(x.Unknown.map fun t=>1+t.length).sum+wgVs x.Values:=by cases x;rw [wgM]
theorem zhV (v:Vlu):wgV v=1+v.Words.length+(v.Texts.map fun t=>1+t.length).sum+wgMs v.Subs:=by cases v;rw [wgV]
theorem ztX :∀{l:List Vlu},v∈l->wgV v<=wgVs l
 | [],h=>by cases h
 | u::l,h=>by
  rw [wgVs];rcases xj.1 h with rfl| h
  ·omega
  ·have:=ztX h;omega
theorem zkq :∀{l:List Msg},x∈l->wgM x<=wgMs l
 | [],h=>by cases h
 | u::l,h=>by
  rw [wgMs];rcases xj.1 h with rfl| h
  ·omega
  ·have:=zkq h;omega
theorem zsl :∀{l:List Str},t∈l->1+t.length<=(l.map fun t=>1+t.length).sum
 | [],h=>by cases h
 | u::l,h=>by
  rw [xC,List.sum_cons];rcases xj.1 h with rfl| h
  ·omega
  ·have:=zsl h;omega
theorem zsk:∀{l:List Str},l.length<=(l.map fun t=>1+t.length).sum
 | []=>by simp
 | u::l=>by
  rw [xC,List.sum_cons,xz];have:=zsk (l:=l);omega
theorem ztW:∀(l:List Vlu),l.length<=wgVs l
 | []=>by simp [wgVs]
 | u::l=>by rw [wgVs,xz,zhV];have:=ztW l;omega
theorem ztV:∀(l:List Msg),l.length<=wgMs l
 | []=>by simp [wgMs]
 | u::l=>by rw [wgMs,xz,zkp];have:=ztV l;omega
def unkR (m:Mes) (u:Str):Bool:=(zcj u 0).2==0&&(zcj u 0).1.To==(u.length:Int)&&decide (fldI m (zcj u 0).1.Number<0)
def ztZ (f:Fld) (w:Int):Bool:=kNum f.Kind&&zeW f.Kind w==w
def ztJ (f:Fld) (t:Str):Bool:=f.Kind==16|| (f.Kind==15&&zfJ t)
def zvJ (f:Fld) (v:Vlu):Bool:=decide (0<zgc v)&&(decide (zgc v<=1)|| f.Repeated)&&zbS f.Kind
mutual
def zbY (s:List Mes):Msg->Int->Bool
 | ⟨vs,u⟩,k=>decide (0<=k/\k<s.length)&&zfR s vs (zB s k) none&&u.all (unkR (zB s k))
def zfR (s:List Mes):List Vlu->Mes->Option Int->Bool
 | [],_,_=>true
 | v::l,m,p=>decide (0<=fldI m v.Number)&&p.all (fun n=>decide (n<v.Number))&&zlO s v (zX m (fldI m v.Number))&&zfR s l m (some v.Number)
def zlO (s:List Mes):Vlu->Fld->Bool
 | ⟨n,w,t,sub⟩,f=>zvJ f ⟨n,w,t,sub⟩&&w.all (ztZ f)&&t.all (ztJ f)&&zkC s sub f
def zkC (s:List Mes):List Msg->Fld->Bool
 | [],_=>true
 | x::l,f=>(f.Kind==17&&zbY s x f.Of)&&zkC s l f
end
theorem zre (s:List Mes) (x:Msg) (k:Int):zbY s x k=(decide (0<=k/\k<s.length)&&zfR s x.Values (zB s k) none&&x.Unknown.all (unkR (zB s k))):=by cases x;rw [zbY]
theorem zsR (s:List Mes) (v:Vlu) (f:Fld):zlO s v f=(zvJ f v&&v.Words.all (ztZ f)&&v.Texts.all (ztJ f)&&zkC s v.Subs f):=by cases v;rw [zlO]
theorem zlt (s:List Mes) (f:Fld):∀(l:List Msg),zkC s l f=l.all fun x=>f.Kind==17&&zbY s x f.Of
 | []=>by rw [zkC];rfl
 | x::l=>by rw [zkC,zlt s f l];rfl
mutual
/-- No list is long. -/
def smM:Msg->Prop
 | ⟨vs,u⟩=>vs.length<=1048576/\(u.length<=1048576/\∀t∈u,t.length<=1048576)/\smVs vs
def smVs:List Vlu->Prop
 | []=>True
 | v::l=>smV v/\smVs l
def smV:Vlu->Prop
 | ⟨n,w,t,s⟩=>w.length<=1048576/\(t.length<=1048576/\∀x∈t,x.length<=1048576)/\s.length<=1048576/\smMs s
def smMs:List Msg->Prop
 | []=>True
 | x::l=>smM x/\smMs l
end
theorem zuT (x:Msg):smM x↔x.Values.length<=1048576/\(x.Unknown.length<=1048576/\∀t∈x.Unknown,t.length<=1048576)/\smVs x.Values:=by cases x;simp only [smM]
theorem zuU (v:Vlu):smV v↔v.Words.length<=1048576/\(v.Texts.length<=1048576/\∀x∈v.Texts,x.length<=1048576)/\v.Subs.length<=1048576/\smMs v.Subs:=by cases v;simp only [smV]
theorem zmA:∀{l:List Vlu},smVs l↔∀v∈l,smV v
 | []=>by simp [smVs]
 | v::l=>by rw [smVs,zmA (l:=l)];simp
theorem zmz:∀{l:List Msg},smMs l↔∀v∈l,smM v
 | []=>by simp [smMs]
 | v::l=>by rw [smMs,zmz (l:=l)];simp
def zCb (s:List Mes):Nat->zgG
 | 0=>none
 | e+1=>some (zK s e)
theorem ziE (s:List Mes) (d:Nat) (k:Int) (b:List UInt8):zK s d k b=zaN (zB s k) (zCb s d) b (spl 0 b):=by cases d<;>rfl
theorem zsQ (s:List Mes) (d:Nat) (k:Int):zK s d k []=none:=by rw [ziE,zcI];rfl
def vwG (m:Mes) (r:Rec):Int×Bool:=match vw m r.Number r.Wire with
 | .inl _=>(-1,false)
 | .inr p=>p
def thR (m:Mes) (b:List UInt8) (r:Rec):Th:=⟨(vwG m r).1,(vwG m r).2,valB b r,rawB b r⟩
theorem zvf :∀{l:List Rec},(∀r∈l,∃p,vw m r.Number r.Wire= .inr p)->vws m none l=(l.map fun r=>⟨r,(vwG m r).1,(vwG m r).2⟩,none)
 | [],_=>rfl
 | r::l,h=>by
  obtain ⟨p,hp⟩:=h r xf;rw [vws,hp,zvf fun x hx=>h x (xg _ hx)];simp only [xC,vwG,hp]
theorem zwd (h:zbF m sub b r=none):∃p,vw m r.Number r.Wire= .inr p:=by
 unfold zbF at h;cases hv:vw m r.Number r.Wire with
 | inl c=>rw [hv] at h;cases h
 | inr p=>exact ⟨p,rfl⟩
theorem zsp (h:zK s d k b=none):ths (zB s k) b=(spl 0 b).1.map (thR (zB s k) b):=by
 rw [ziE,zcg] at h;unfold ths zaD;rw [h.2,zvf fun r hr=>zwd (h.1 r hr)];unfold vwR;simp only [qg];rfl
theorem ztt {b:List UInt8} (z:List UInt8) {r:Rec} (h0:0<=r.To) (h:r.To<=b.length):rawB (b++z) r=rawB b r:=by
 unfold rawB;by_cases ha:r.From.toNat<=b.length
 ·grind
 ·have e:r.To.toNat - r.From.toNat=0:=by omega
  grind
theorem zuK (a b:List UInt8) {r:Rec} (h0:0<=r.From) (h1:r.From<=r.To):rawB (a++b) (zgX a.length r)=rawB b r:=by
 unfold rawB zgX;simp only;have e1:(r.From+(a.length:Int)).toNat=a.length+r.From.toNat:=by omega
 have e2:(r.To+(a.length:Int)).toNat - (a.length+r.From.toNat)=r.To.toNat - r.From.toNat:=by omega
 simp_all
theorem zuY {s:List Mes} {d:Nat} {k:Int} {a z:List UInt8} (ha:zK s d k a=none) (hz:zK s d k z=none):ths (zB s k) (a++z)=ths (zB s k) a++ths (zB s k) z:=by
 rw [zsp ((zeX s d k z ha).2 hz),zsp ha,zsp hz];rw [ziE,zcg] at ha;have hap:=zlz z 0 a ha.2;have hsh:=zri a.length 0 z;rw [xL] at hap hsh;rw [hap,hsh];simp only [yK,qg];congr 1
 ·refine q8 fun r hr=>?_
  have:=znj 0 a r hr;unfold thR;rw [zkk z (by omega) (by omega),ztt z (by omega) (by omega)]
 ·refine q8 fun r hr=>?_
  have:=znj 0 z r hr;show thR _ _ (zgX a.length r)=_;unfold thR;rw [zlB a z (by omega) (by omega),zuK a z (by omega) (by omega)];rfl
structure OkT (s:List Mes) (d:Nat) (m:Mes) (t:Th):Prop where
 fi:t.fi= -1\/0<=t.fi/\t.fi<m.Fields.length
 unk:t.fi<0->unkR m t.raw=true
 run:0<=t.fi->t.run=true->kNum (zX m t.fi).Kind=true/\(zX m t.fi).Repeated=true/\(ziT (zX m t.fi).Kind t.val).2=0
 one:0<=t.fi->t.run=false->zbS (zX m t.fi).Kind=true/\zqz (zdz (zX m t.fi).Kind) t.val=true/\((zX m t.fi).Kind=15->zfJ t.val=true)/\((zX m t.fi).Kind=17->∃e,d=e+1/\zK s e (zX m t.fi).Of t.val=none)
structure zCg (s:List Mes) (d:Nat) (f:Fld) (a:zxg):Prop where
 words:∀w∈a.2.2.1,ztZ f w=true
 texts:∀t∈a.2.2.2.1,ztJ f t=true
 numT:kNum f.Kind=true->a.2.2.2.1=[]
 subs:∀x∈a.2.2.2.2,f.Kind=17/\zbY s x f.Of=true/\1+dM x<=d
 join:f.Kind=17->∀e,d=e+1->zK s e f.Of a.1=none
 met:a.2.1=true->f.Kind=17->∃e,d=e+1
 one:f.Repeated=false->a.2.2.1.length<=1/\a.2.2.2.1.length<=1/\a.2.2.2.2=[]
structure zCf (a:zxg):Prop where
 words:∀w∈a.2.2.1,0<=w/\w<=18446744073709551615
 texts:∀t∈a.2.2.2.1,t.length<=1048576
 subs:∀x∈a.2.2.2.2,bdM x/\smM x
def zdj (l:List Vlu):Prop:=l.Pairwise fun a b=>a.Number<b.Number
def look (l:List Vlu) (n:Int):Option Vlu:=l.find? fun v=>v.Number==n
theorem zek (v:Vlu) (l:List Vlu) (n:Int):look (v::l) n=if v.Number=n then some v else look l n:=by
 unfold look;rw [List.find?_cons];by_cases h:v.Number=n
 ·rw [xe h];simp [h]
 ·rw [xd h];have:(v.Number==n)=false:=by simpa using h
  rw [this]
theorem zeJ (h:look l n=some v):v.Number=n/\v∈l:=by
 unfold look at h;exact ⟨by simpa using List.find?_some h,List.mem_of_find?_eq_some h⟩
theorem zvI (h:∀v∈l,n<v.Number):look l n=none:=by
 unfold look;rw [List.find?_eq_none];intro v hv;have:=h v hv;simp;omega
theorem ztj (hr:zdj l) (h:v∈l):look l v.Number=some v:=by
 induction l with
 | nil=>cases h
 | cons u l ih=>
  obtain ⟨h1,h2⟩:=xW.1 hr;rw [zek];rcases xj.1 h with rfl| h
  ·rw [xe rfl]
  ·have:=h1 v h;rw [xd (by omega),ih h2 h]
def putL (v:Vlu):Bool->List Vlu->List Vlu
 | done,[]=>if done=true then [] else [v]
 | done,u::l=>(if done=false/\v.Number<=u.Number then [v] else [])++((if u.Number=v.Number then [] else [u])++putL v (done|| decide (v.Number<=u.Number)) l)
theorem ztr (v:Vlu):∀(d:Bool) (l:List Vlu),(putL v d l).length<=l.length+(if d=true then 0 else 1)
 | d,[]=>by rw [putL];cases d<;>simp
 | d,u::l=>by
  have:=ztr v (d|| decide (v.Number<=u.Number)) l;rw [putL];simp only [xH,xz];cases d
  ·by_cases h:v.Number<=u.Number
   ·rw [xe ⟨rfl,h⟩];simp only [h,decide_true,qa,x8] at this|-;split<;>simp<;>omega
   ·rw [xd (fun hh=>h hh.2)];simp only [h,decide_false,qk,qG,xV] at this|-;split<;>simp<;>omega
  ·rw [xd (by simp)];simp only [Bool.true_or,x8] at this|-;split<;>simp<;>omega
theorem zts :∀{d:Bool} {l:List Vlu} {x:Vlu},x∈putL v d l->x=v/\d=false\/x∈l/\x.Number≠v.Number
 | d,[],x,h=>by
  rw [putL] at h;cases d
  ·rw [xd (by simp)] at h;exact .inl ⟨xQ.1 h,rfl⟩
  ·rw [xe rfl] at h;cases h
 | d,u::l,x,h=>by
  rw [putL] at h;rcases xl.1 h with h| h
  ·split at h
   ·rename_i hc;exact .inl ⟨xQ.1 h,hc.1⟩
   ·cases h
  ·rcases xl.1 h with h| h
   ·split at h
    ·cases h
    ·rename_i hc;rw [xQ.1 h];exact .inr ⟨xf,hc⟩
   ·rcases zts h with ⟨h1,h2⟩| ⟨h1,h2⟩
    ·refine .inl ⟨h1,?_⟩;cases d
     ·rfl
     ·simp at h2
    ·exact .inr ⟨xg _ h1,h2⟩
theorem zkb :∀{d:Bool} {l:List Vlu},zdj l->zdj (putL v d l)
 | d,[],_=>by rw [putL];cases d<;>simp [zdj]
 | d,u::l,h=>by
  obtain ⟨h1,h2⟩:=xW.1 h;have ih:=zkb (v:=v) (d:=d|| decide (v.Number<=u.Number)) h2;have hrest:∀x∈putL v (d|| decide (v.Number<=u.Number)) l,u.Number<x.Number:=fun x hx=>by
   rcases zts hx with ⟨rfl,hd⟩| ⟨hx,_⟩
   ·simp at hd;omega
   ·exact h1 x hx
  rw [putL];have htail:zdj ((if u.Number=v.Number then [] else [u])++putL v (d|| decide (v.Number<=u.Number)) l):=by
   split
   ·exact ih
   ·exact xW.2 ⟨hrest,ih⟩
  split
  ·rename_i hc;rw [qF];refine xW.2 ⟨fun x hx=>?_,htail⟩;rcases xl.1 hx with hx| hx
   ·split at hx
    ·cases hx
    ·rw [xQ.1 hx];omega
   ·have:=hrest x hx;omega
  ·exact htail
theorem zny (l k:List Vlu) (n:Int):look (l++k) n=match look l n with| some v=>some v| none=>look k n:=by
 unfold look;rw [List.find?_append];cases l.find? (fun v=>v.Number==n)<;>rfl
theorem zoY :∀{d:Bool} {l:List Vlu},zdj l->∀n,look (putL v d l) n=if n=v.Number then (if d=true then none else some v) else look l n
 | d,[],_,n=>by
  rw [putL];cases d
  ·rw [xd (show ¬(false=true) by simp),xd (show ¬(false=true) by simp),zek];by_cases h:n=v.Number
   ·rw [xe h,xe h.symm]
   ·rw [xd h,xd (fun hh=>h hh.symm)]
  ·rw [xe rfl,xe rfl];split<;>rfl
 | d,u::l,h,n=>by
  obtain ⟨h1,h2⟩:=xW.1 h;have ih:=zoY (v:=v) (d:=d|| decide (v.Number<=u.Number)) h2 n;rw [putL,zny,zny,ih,zek u l n];by_cases hn:n=v.Number
  ·rw [xe hn,xe hn];have hu:look (if u.Number=v.Number then [] else [u]) n=none:=by
    split
    ·rfl
    ·rw [zek,xd (by omega)];rfl
   rw [hu];cases d
   ·by_cases hle:v.Number<=u.Number
    ·rw [xe ⟨rfl,hle⟩,zek,xe hn.symm];simp
    ·rw [xd (fun hh=>hle hh.2)];simp [look,hle]
   ·rw [xd (by simp)];simp [look]
  ·rw [xd hn,xd hn];have hv:look (if d=false/\v.Number<=u.Number then [v] else []) n=none:=by
    split
    ·rw [zek,xd (fun hh=>hn hh.symm)];rfl
    ·rfl
   rw [hv];by_cases hu:u.Number=v.Number
   ·rw [xe hu,xd (by omega)];rfl
   ·rw [xd hu,zek];by_cases hun:u.Number=n
    ·rw [xe hun,xe hun]
    ·rw [xd hun,xd hun];rfl
def putM (x:Msg) (v:Vlu):Msg:=⟨putL v (decide (zgc v=0)) x.Values,x.Unknown⟩
theorem zhx :∀{l:List Vlu} {p:Option Int},zfR s l m p=true->∀v∈l,0<=fldI m v.Number/\zlO s v (zX m (fldI m v.Number))=true/\p.all (fun n=>decide (n<v.Number))=true
 | [],p,_,v,hv=>by cases hv
 | u::l,p,h,v,hv=>by
  rw [zfR] at h;simp only [xh,xt] at h;obtain ⟨⟨⟨h1,h2⟩,h3⟩,h4⟩:=h;rcases xj.1 hv with rfl| hv
  ·exact ⟨h1,h3,h2⟩
  ·obtain ⟨g1,g2,g3⟩:=zhx h4 v hv;refine ⟨g1,g2,?_⟩;cases p with
   | none=>rfl
   | some n=>
    simp at h2 g3|-;omega
theorem zkf :∀{l:List Vlu} {p:Option Int},zfR s l m p=true->zdj l
 | [],p,_=> .nil
 | u::l,p,h=>by
  rw [zfR] at h;simp only [xh,xt] at h;refine xW.2 ⟨fun v hv=>?_,zkf h.2⟩;have:=(zhx h.2 v hv).2.2;simpa using this
theorem zpx :∀{l:List Vlu} {p:Option Int},zdj l->(∀v∈l,0<=fldI m v.Number/\zlO s v (zX m (fldI m v.Number))=true/\p.all (fun n=>decide (n<v.Number))=true)->zfR s l m p=true
 | [],p,_,_=>by rw [zfR]
 | u::l,p,hr,h=>by
  obtain ⟨h1,h2⟩:=xW.1 hr;obtain ⟨a1,a2,a3⟩:=h u xf;rw [zfR,zpx h2 fun v hv=>⟨(h v (xg _ hv)).1,(h v (xg _ hv)).2.1,by simpa using h1 v hv⟩,a2,a3,xT a1];rfl
theorem zcY (h:zbY s x k=true):0<=k/\k<s.length/\zdj x.Values/\(∀v∈x.Values,0<=fldI (zB s k) v.Number/\zlO s v (zX (zB s k) (fldI (zB s k) v.Number))=true)/\∀u∈x.Unknown,unkR (zB s k) u=true:=by
 rw [zre] at h;simp only [xh,xt] at h;exact ⟨h.1.1.1,h.1.1.2,zkf h.1.2,fun v hv=>⟨(zhx h.1.2 v hv).1,(zhx h.1.2 v hv).2.1⟩,xn.1 h.2⟩
theorem zrf (h1:0<=k) (h2:k<s.length) (h3:zdj x.Values) (h4:∀v∈x.Values,0<=fldI (zB s k) v.Number/\zlO s v (zX (zB s k) (fldI (zB s k) v.Number))=true) (h5:∀u∈x.Unknown,unkR (zB s k) u=true):zbY s x k=true:=by
 rw [zre,xT ⟨h1,h2⟩,zpx h3 fun v hv=>⟨(h4 v hv).1,(h4 v hv).2,rfl⟩,xn.2 h5];rfl
structure zgp (s:List Mes) (v:Vlu) (f:Fld):Prop where
 many:0<zgc v
 one:f.Repeated=false->zgc v=1
 kind:zbS f.Kind=true
 words:∀w∈v.Words,ztZ f w=true
 texts:∀t∈v.Texts,ztJ f t=true
 subs:∀x∈v.Subs,f.Kind=17/\zbY s x f.Of=true
theorem zei (h:zlO s v f=true):zgp s v f:=by
 rw [zsR,zlt] at h;unfold zvJ at h;simp only [xh,qw,xt,xn,beq_iff_eq] at h;obtain ⟨⟨⟨⟨⟨h1,h2⟩,h3⟩,h4⟩,h5⟩,h6⟩:=h;refine ⟨h1,fun hr=>?_,h3,h4,h5,fun x hx=>?_⟩
 ·rw [hr] at h2;simp at h2;omega
 ·exact h6 x hx
theorem zvq (h:zgp s v f):zlO s v f=true:=by
 obtain ⟨h1,h2,h3,h4,h5,h6⟩:=h;rw [zsR,zlt];unfold zvJ;simp only [xh,qw,xt,xn,beq_iff_eq];refine ⟨⟨⟨⟨⟨h1,?_⟩,h3⟩,h4⟩,h5⟩,fun x hx=>h6 x hx⟩;cases hr:f.Repeated with
 | true=>exact .inr rfl
 | false=>exact .inl (by have:=h2 hr;omega)
theorem zgp.noWords (h:zgp s v f) (hk:kNum f.Kind=false):v.Words=[]:=by
 cases hw:v.Words with
 | nil=>rfl
 | cons w l=>
  have:=h.words w (by rw [hw];exact xf);unfold ztZ at this;rw [hk] at this;simp at this
theorem zgp.noTexts (h:zgp s v f) (hk:f.Kind≠15/\f.Kind≠16):v.Texts=[]:=by
 cases hw:v.Texts with
 | nil=>rfl
 | cons w l=>
  have:=h.texts w (by rw [hw];exact xf);unfold ztJ at this;simp at this;omega
theorem zgp.msg (h:zgp s v f) (hk:f.Kind=17) (hr:f.Repeated=false):∃x,v=⟨v.Number,[],[],[x]⟩/\zbY s x f.Of=true:=by
 have h1:=h.noWords (by rw [hk];rfl);have h2:=h.noTexts (by omega);have h3:=h.one hr;have h4:=h.subs;obtain ⟨n,w,t,sub⟩:=v;simp only at h1 h2 h4;subst h1 h2;unfold zgc at h3;simp at h3;obtain ⟨x,rfl⟩:∃x,sub=[x]:=by
  cases sub with
  | nil=>simp at h3
  | cons x l=>cases l with
   | nil=>exact ⟨x,rfl⟩
   | cons _ _=>simp at h3
 exact ⟨x,rfl,(h4 x xf).2⟩
mutual
/-- b zdM a. -/
def ziV (s:List Mes):Msg->Msg->Int->Msg
 | ⟨vs,u⟩,a,k=>⟨zfC s vs a (zB s k) a.Values,a.Unknown++u⟩
def zfC (s:List Mes):List Vlu->Msg->Mes->List Vlu->List Vlu
 | [],_,_,va=>va
 | v::l,a,m,va=>zfC s l a m (putM ⟨va,[]⟩ (zfq s v (look a.Values v.Number) (zX m (fldI m v.Number)))).Values
def zfq (s:List Mes):Vlu->Option Vlu->Fld->Vlu
 | ⟨n,w,t,sub⟩,none,f=>⟨n,w,t,sub⟩
 | ⟨n,w,t,sub⟩,some u,f=>if f.Repeated=true then ⟨n,u.Words++w,u.Texts++t,u.Subs++sub⟩ else if f.Kind=17 then ⟨n,[],[],zhP s sub u.Subs f.Of⟩ else ⟨n,w,t,sub⟩
def zhP (s:List Mes):List Msg->List Msg->Int->List Msg
 | [],_,_=>[]
 | x::_,ys,k=>match ys with
  | []=>[]
  | y::_=>[ziV s x y k]
end
theorem zjL (s:List Mes) (b a:Msg) (k:Int):ziV s b a k=⟨zfC s b.Values a (zB s k) a.Values,a.Unknown++b.Unknown⟩:=by cases b;rw [ziV]
theorem zjM (s:List Mes) (v:Vlu) (o:Option Vlu) (f:Fld):zfq s v o f=match o with
  | none=>v
  | some u=>if f.Repeated=true then ⟨v.Number,u.Words++v.Words,u.Texts++v.Texts,u.Subs++v.Subs⟩ else if f.Kind=17 then ⟨v.Number,[],[],zhP s v.Subs u.Subs f.Of⟩ else v:=by
 cases v;cases o<;>rw [zfq]
theorem zqK (s:List Mes) (v:Vlu) (o:Option Vlu) (f:Fld):(zfq s v o f).Number=v.Number:=by
 rw [zjM];cases o with
 | none=>rfl
 | some u=>simp only;split;rfl;split<;>rfl
theorem zyo (va:List Vlu) (u:List Str) (v:Vlu):(putM ⟨va,u⟩ v).Values.length<=va.length+1:=by
 have:=ztr v (decide (zgc v=0)) va;unfold putM;simp only;split at this<;>omega
theorem znz :∀{l va:List Vlu},zdj va->zdj l->(∀v∈l,0<zgc (zfq s v (look a.Values v.Number) (zX m (fldI m v.Number))))->
  zdj (zfC s l a m va)/\∀n,look (zfC s l a m va) n=match look l n with
   | some v=>some (zfq s v (look a.Values n) (zX m (fldI m n)))
   | none=>look va n
 | [],va,h1,_,_=>by rw [zfC];exact ⟨h1,fun n=>rfl⟩
 | v::l,va,h1,h2,h3=>by
  obtain ⟨l1,l2⟩:=xW.1 h2;have hv:=h3 v xf;have hnum:=zqK s v (look a.Values v.Number) (zX m (fldI m v.Number));rw [zfC];have hacc:zdj (putM ⟨va,[]⟩ (zfq s v (look a.Values v.Number) (zX m (fldI m v.Number)))).Values:=zkb h1;obtain ⟨r1,r2⟩:=znz (s:=s) (a:=a) (m:=m) hacc l2 fun u hu=>h3 u (xg _ hu)
  refine ⟨r1,fun n=>?_⟩;rw [r2 n,zek];have hlk:look (putM ⟨va,[]⟩ (zfq s v (look a.Values v.Number) (zX m (fldI m v.Number)))).Values n=if n=v.Number then some (zfq s v (look a.Values v.Number) (zX m (fldI m v.Number))) else look va n:=by
   unfold putM;simp only;rw [zoY h1 n,hnum];by_cases hn:n=v.Number
   ·rw [xe hn,xe hn,xd fun hh=>by have:=yB hh;omega]
   ·rw [xd hn,xd hn]
  by_cases hn:v.Number=n
  ·rw [xe hn,zvI fun u hu=>by have:=l1 u hu;omega,hlk,xe hn.symm];simp only [hn]
  ·rw [xd hn,hlk,xd fun hh=>hn hh.symm]
theorem zoR (hv:zgp s v f) (ho:∀u,o=some u->zgp s u f):0<zgc (zfq s v o f):=by
 rw [zjM];cases o with
 | none=>exact hv.many
 | some u=>
  have:=hv.many;simp only;by_cases hr:f.Repeated=true
  ·rw [xe hr];unfold zgc at this|-;simp only [xH];omega
  ·rw [xd hr];by_cases h17:f.Kind=17
   ·rw [xe h17];obtain ⟨x,hvx,_⟩:=hv.msg h17 (by simpa using hr);obtain ⟨y,huy,_⟩:=(ho u rfl).msg h17 (by simpa using hr);rw [hvx,huy,zhP];simp [zgc]
   ·rw [xd h17];exact this
theorem zqP (ha:zbY s a k=true) (hb:zbY s b k=true):zdj (ziV s b a k).Values/\∀n,look (ziV s b a k).Values n=match look b.Values n with
   | some v=>some (zfq s v (look a.Values n) (zX (zB s k) (fldI (zB s k) n)))
   | none=>look a.Values n:=by
 obtain ⟨_,_,ra,ha',_⟩:=zcY ha;obtain ⟨_,_,rb,hb',_⟩:=zcY hb;rw [zjL];exact znz ra rb fun v hv=>zoR (zei (hb' v hv).2) fun u hu=>by
  obtain ⟨e,hm⟩:=zeJ hu;have:=zei (ha' u hm).2;rw [e] at this;exact this
mutual
/-- Kept or left by ways. -/
def zmi (s:List Mes):Msg->Int->List zdT->Bool->Msg
 | ⟨vs,u⟩,k,w,keep=>⟨zfb s vs (zB s k) w keep,if keep=true then [] else u⟩
def zfb (s:List Mes):List Vlu->Mes->List zdT->Bool->List Vlu
 | [],_,_,_=>[]
 | v::l,m,w,keep=>zpm s v (zX m (fldI m v.Number)) w keep++zfb s l m w keep
def zpm (s:List Mes):Vlu->Fld->List zdT->Bool->List Vlu
 | ⟨n,a,t,sub⟩,f,w,keep=>if ziR w n=false/\zhU w n≠[]/\f.Kind=17/\f.Repeated=false then [⟨n,[],[],zjX s sub f.Of (zhU w n) keep⟩]
  else if ziR w n=keep then [⟨n,a,t,sub⟩] else []
def zjX (s:List Mes):List Msg->Int->List zdT->Bool->List Msg
 | [],_,_,_=>[]
 | x::_,k,w,keep=>[zmi s x k w keep]
end
theorem zpk (s:List Mes) (x:Msg) (k:Int) (w:List zdT) (keep:Bool):zmi s x k w keep=⟨zfb s x.Values (zB s k) w keep,if keep=true then [] else x.Unknown⟩:=by cases x;rw [zmi]
theorem zmj (s:List Mes) (v:Vlu) (f:Fld) (w:List zdT) (keep:Bool):zpm s v f w keep=if ziR w v.Number=false/\zhU w v.Number≠[]/\f.Kind=17/\f.Repeated=false then [⟨v.Number,[],[],zjX s v.Subs f.Of (zhU w v.Number) keep⟩]
  else if ziR w v.Number=keep then [v] else []:=by cases v;rw [zpm]
theorem zwI (s:List Mes) (v:Vlu) (f:Fld) (w:List zdT) (keep:Bool):(zpm s v f w keep).length<=1:=by
 rw [zmj];split;simp;split<;>simp
theorem zuv (hv:zgp s v f) (ho:∀u,o=some u->zgp s u f)
  (ih:∀x∈v.Subs,∀y:Msg,zbY s x f.Of=true->zbY s y f.Of=true->zbY s (ziV s x y f.Of) f.Of=true):zgp s (zfq s v o f) f:=by
 have hm:=zoR hv ho;rw [zjM] at hm|-;cases o with
 | none=>exact hv
 | some u=>
  have hu:=ho u rfl;simp only at hm|-;by_cases hr:f.Repeated=true
  ·rw [xe hr] at hm|-;refine ⟨hm,(fun h=>by rw [hr] at h;cases h),hv.kind,fun w hw=>?_,fun w hw=>?_,fun w hw=>?_⟩
   ·rcases xl.1 hw with hw| hw
    ·exact hu.words w hw
    ·exact hv.words w hw
   ·rcases xl.1 hw with hw| hw
    ·exact hu.texts w hw
    ·exact hv.texts w hw
   ·rcases xl.1 hw with hw| hw
    ·exact hu.subs w hw
    ·exact hv.subs w hw
  ·rw [xd hr] at hm|-;by_cases h17:f.Kind=17
   ·rw [xe h17] at hm|-;obtain ⟨x,hvx,hx⟩:=hv.msg h17 (by simpa using hr);obtain ⟨y,huy,hy⟩:=hu.msg h17 (by simpa using hr);have hvs:v.Subs=[x]:=by rw [hvx]
    have hus:u.Subs=[y]:=by rw [huy]
    rw [hvs,hus,zhP];refine ⟨by simp [zgc],(fun _=>by simp [zgc]),hv.kind,(fun w hw=>nomatch hw),(fun w hw=>nomatch hw),fun w hw=>?_⟩;rw [xQ.1 hw];exact ⟨h17,ih x (by rw [hvs];exact xf) y hx hy⟩
   ·rw [xd h17] at hm|-;exact hv
theorem znw :∀(N:Nat) (b a:Msg) (k:Int),szM b<=N->zbY s a k=true->zbY s b k=true->zbY s (ziV s b a k) k=true
 | 0,b,a,k,h,_,_=>by rw [zdv] at h;omega
 | N+1,b,a,k,hsz,ha,hb=>by
  obtain ⟨k0,k1,ra,ha',ua⟩:=zcY ha;obtain ⟨_,_,rb,hb',ub⟩:=zcY hb;obtain ⟨j1,j2⟩:=zqP ha hb;rw [zdv] at hsz;refine zrf k0 k1 j1 (fun v hv=>?_) fun u hu=>?_
  ·have hl:=ztj j1 hv;rw [j2] at hl;cases hbl:look b.Values v.Number with
   | none=>
    rw [hbl] at hl;simp only at hl;exact ha' v (zeJ hl).2
   | some w=>
    rw [hbl] at hl;simp only at hl;obtain ⟨wn,wm⟩:=zeJ hbl;obtain ⟨w0,wf⟩:=hb' w wm;rw [wn] at w0 wf;have hfw:=zei wf;have s1:=zfg wm;rw [zhT] at s1;refine ⟨w0,zvq ?_⟩;have hvj:zfq s w (look a.Values v.Number) (zX (zB s k) (fldI (zB s k) v.Number))=v:=yk hl;have:=zuv (o:=look a.Values v.Number) hfw (fun u hu=>by
     obtain ⟨un,um⟩:=zeJ hu;have:=zei (ha' u um).2;rw [un] at this;exact this) fun x hx y hxr hyr=>by
      have:=zff hx;exact znw N x y _ (by omega) hyr hxr
    rw [hvj] at this;exact this
  ·rw [zjL] at hu;rcases xl.1 hu with hu| hu
   ·exact ua u hu
   ·exact ub u hu
structure zBE (s:List Mes) (d:Nat) (k:Int) (p:List UInt8) (t:Th):Prop where
 ok:zK s d k p=none
 th:ths (zB s k) p=[t]
theorem pieces {s:List Mes} {d:Nat} {k:Int}:∀{ps:List (List UInt8×Th)},(∀p∈ps,zBE s d k p.1 p.2)->zK s d k (ps.flatMap (·.1))=none/\ths (zB s k) (ps.flatMap (·.1))=ps.map (·.2)
 | [],_=>by
  have h:=zsQ s d k;refine ⟨h,?_⟩;rw [List.flatMap_nil,zsp h,zcI];rfl
 | p::ps,h=>by
  obtain ⟨h1,h2⟩:=pieces fun q hq=>h q (xg _ hq)
  have hp:=h p xf;rw [xI];refine ⟨(zeX s d k _ hp.ok).2 h1,?_⟩;rw [zuY hp.ok h1,hp.th,h2];rfl
def wv (a:zxg):Nat:=a.2.2.1.length+(a.2.2.2.1.map fun t=>1+t.length).sum+wgMs a.2.2.2.2+2*a.1.length
def zjI (s:List Mes) (root d:Int):Nat->List (List UInt8)->Option (Nat×Int)
 | _,[]=>none
 | i,x::l=>if (zam s root x d).2≠0 then some (i,(zam s root x d).2) else zjI s root d (i+1) l
def zkQ (s:List Mes) (root:Int) (l:List (List UInt8)) (d:Int):List UInt8×Int×Int:=
 if argS s root d≠0 then ([],0,argS s root d) else match zjI s root d 0 l with
  | some (i,c)=>([],i,c)
  | none=>(l.flatten,0,0)
def zrV (m:Mes) (a b:List UInt8):Nat:=((zaD m a).1.filter fun t=>decide (0<=t.Field)&&(zaD m b).1.any (fun u=>u.R.Number==t.R.Number)&& !(zX m t.Field).Repeated&&(zX m t.Field).Kind !=17).length
theorem zsy {s:List Mes} {d:Nat} {k:Int} {b:List UInt8} (h:zK s d k b=none):zaD (zB s k) b=((spl 0 b).1.map (fun r=>⟨r,(vwG (zB s k) r).1,(vwG (zB s k) r).2⟩),0,0):=by
 rw [ziE,zcg] at h;unfold zaD;rw [h.2,zvf fun r hr=>zwd (h.1 r hr)];rfl
theorem zug (s:List Mes) (root d:Int):argS s root d=0\/argS s root d=2\/argS s root d=9:=by
 unfold argS;split
 ·omega
 ·split<;>omega
theorem zrE (s:List Mes) (root:Int) (b:List UInt8) (d:Int):0<=(zam s root b d).2/\(zam s root b d).2<=9:=by
 unfold zam;by_cases h:argS s root d=0
 ·rw [xd (by simpa using h)];cases hf:zK s d.toNat root b with
  | none=>simp
  | some p=>
   have:=zfz s d.toNat root b p.1 p.2 hf;simp only [Option.getD_some];omega
 ·rw [xe h];rcases zug s root d with h| h| h<;>rw [h]<;>simp
theorem zqF {m:Mes} {sub:zgG} {a z:List UInt8} (ha:(spl 0 a).2=none) (h:zaN m sub (a++z) (spl 0 (a++z))=none):zaN m sub a (spl 0 a)=none:=by
 rw [zcg] at h|-;have hap:=zlz z 0 a ha;rw [hap] at h;refine ⟨fun r hr=>?_,ha⟩;have hb:=znj 0 a r hr;exact (zmB (r:=r) (r':=r) rfl rfl (zkk z (by omega) (by omega))).1 (h.1 r (xN _ hr))
theorem zoG (s:List Mes) (d:Nat) (k:Int) {a z:List UInt8} (ha:(spl 0 a).2=none) (h:zK s d k (a++z)=none):zK s d k a=none:=by
 cases d with
 | zero=>exact zqF ha h
 | succ d=>exact zqF ha h
theorem zqy (s:List Mes) (d:Nat) (k:Int) {a:List UInt8} (h:zK s d k a=none):(spl 0 a).2=none:=by
 cases d with
 | zero=>exact (zcg.1 h).2
 | succ d=>exact (zcg.1 h).2
theorem zrD {s:List Mes} {root:Int} {b:List UInt8} {d:Int} (h:argS s root d≠0):(zam s root b d).2=argS s root d:=by
 unfold zam;rw [xe h]
theorem zkS {s:List Mes} {root:Int} {b:List UInt8} {d:Int} (h:(zam s root b d).2=0):argS s root d=0/\zK s d.toNat root b=none:=zlQ.1 (by unfold is11;simpa using h)
theorem ziB {s:List Mes} {root:Int} {b:List UInt8} {d:Int} (h:argS s root d=0) (hf:zK s d.toNat root b=none):(zam s root b d).2=0:=by
 have:=(zlQ (s:=s) (root:=root) (b:=b) (d:=d)).2 ⟨h,hf⟩;unfold is11 at this;simpa using this
theorem zwf (s:List Mes) (root:Int) (a b:List UInt8) (d:Int):zkQ s root [a,b] d=if (zam s root a d).2≠0 then ([],0,(zam s root a d).2) else if (zam s root b d).2≠0 then ([],1,(zam s root b d).2) else (a++b,0,0):=by
 unfold zkQ;by_cases h:argS s root d=0
 ·by_cases ha:(zam s root a d).2=0
  ·by_cases hb:(zam s root b d).2=0
   ·simp [h,zjI,ha,hb]
   ·simp [h,zjI,ha,hb]
  ·simp [h,zjI,ha]
 ·rw [xe h,zrD h,xe h]
theorem zpY (s:List Mes) (root:Int) (b:List UInt8) (d:Int):0<=(zam s root b d).2/\(zam s root b d).2<=255:=by
 have:=zrE s root b d;omega
def zda (b:List UInt8):List Int:=0::(spl 0 b).1.map (·.To)
theorem zzT (base:Nat) (l:List UInt8):∀r∈(spl base l).1,(base:Int)<=r.To/\r.To<=base+l.length/\(spl base (l.take (r.To.toNat - base))).2=none:=by
 refine zfS (fun base l=>∀r∈(spl base l).1,(base:Int)<=r.To/\r.To<=base+l.length/\(spl base (l.take (r.To.toNat - base))).2=none) ?_ ?_ ?_ base l
 ·intro base r hr;rw [zcI] at hr;cases hr
 ·intro base l c hl h _ r hr;rw [zel hl h] at hr;cases hr
 ·intro base l n w a t hl h _ g1 g2 g3 ih r hr;rw [zbE hl h] at hr;have ht0:1<=t:=by omega
  have hne:∀m,t<=m->l.take m≠[]:=fun m hm e=>by
   have h1:=congrArg List.length e;rw [xK] at h1;have h2:0<l.length:=yg.2 hl;simp only [yR] at h1;omega
  have hrec:∀m,t<=m->rec5 (l.take m)= .inr (n,w,a,t):=fun m hm=>by
   have:=zkd (l.take t) ((l.take m).drop t) (zqZ h);have e:l.take t=(l.take m).take t:=by rw [qE,qf hm]
   rw [e,xZ] at this;exact this
  rcases xj.1 hr with rfl| hr
  ·simp only;refine ⟨by omega,by omega,?_⟩;have e:((base:Int)+(t:Int)).toNat - base=t:=by omega
   try rw [e]
   try rw [show ((base+t:Nat):Int).toNat - base=t by omega]
   rw [zbE (hne t (xi _)) (hrec t (xi _))];have:(l.take t).drop t=[]:=yp (by simp;omega);simp [this,zcI]
  ·obtain ⟨k1,k2,k3⟩:=ih r hr;simp only [xx] at k2;refine ⟨by omega,by omega,?_⟩;rw [zbE (hne _ (by omega)) (hrec _ (by omega))];have:(l.take (r.To.toNat - base)).drop t=(l.drop t).take (r.To.toNat - (base+t)):=by
    rw [qj];congr 1;omega
   simp only [this];exact k3
theorem zsh {s:List Mes} {d:Nat} {root:Int} {b:List UInt8} (h:zK s d root b=none):∀x∈zda b,∃n:Nat,x=n/\n<=b.length/\zK s d root (b.take n)=none/\zK s d root (b.drop n)=none:=by
 intro x hx;have h0:zK s d root []=none:=(zeX s d root [] h).1 (by simpa using h);rcases xj.1 hx with rfl| hx
 ·exact ⟨0,rfl,xm _,by simpa using h0,by simpa using h⟩
 ·obtain ⟨r,hr,rfl⟩:=xr.1 hx;obtain ⟨k1,k2,k3⟩:=zzT 0 b r hr;have e:r.To.toNat - 0=r.To.toNat:=yM _;rw [e] at k3;have hv:zK s d root (b.take r.To.toNat)=none:=zoG s d root (z:=b.drop r.To.toNat) k3 (by rw [xZ];exact h);refine ⟨r.To.toNat,by omega,by omega,hv,?_⟩;refine (zeX s d root (b.drop r.To.toNat) hv).1 ?_;rw [xZ];exact h
theorem zrg (hg:∀v u,g v=some u->u.Number=v.Number):∀{l:List Vlu},zdj l->zdj (l.filterMap g)
 | [],_=> .nil
 | v::l,h=>by
  obtain ⟨h1,h2⟩:=xW.1 h;have ih:=zrg hg h2;cases e:g v with
  | none=>rw [List.filterMap_cons_none e];exact ih
  | some u=>
   rw [List.filterMap_cons_some e];refine xW.2 ⟨fun w hw=>?_,ih⟩;obtain ⟨w',hw',e'⟩:=List.mem_filterMap.1 hw;rw [hg _ _ e,hg _ _ e'];exact h1 w' hw'
def goB (m:Mes) (w:List zdT) (v:Vlu):Bool:= !ziR w v.Number&&decide (zhU w v.Number≠[])&&decide ((zX m (fldI m v.Number)).Kind=17)&& !(zX m (fldI m v.Number)).Repeated
theorem zrK :goB m w v=true↔ziR w v.Number=false/\zhU w v.Number≠[]/\(zX m (fldI m v.Number)).Kind=17/\(zX m (fldI m v.Number)).Repeated=false:=by
 unfold goB;simp only [xh,xJ,xt,and_assoc]
def inV (s:List Mes) (m:Mes) (w:List zdT) (keep:Bool) (v:Vlu):Vlu:=⟨v.Number,[],[],zjX s v.Subs (zX m (fldI m v.Number)).Of (zhU w v.Number) keep⟩
def zpl (s:List Mes) (m:Mes) (w:List zdT) (keep:Bool) (v:Vlu):Option Vlu:=if goB m w v=true then some (inV s m w keep v) else if ziR w v.Number=keep then some v else none
theorem zqX (v u:Vlu) (h:zpl s m w keep v=some u):u.Number=v.Number:=by
 unfold zpl at h;split at h
 ·cases h;rfl
 ·split at h
  ·cases h;rfl
  ·cases h
theorem zqY (s:List Mes) (m:Mes) (w:List zdT) (keep:Bool):∀l:List Vlu,zfb s l m w keep=l.filterMap (zpl s m w keep)
 | []=>by rw [zfb];rfl
 | v::l=>by
  rw [zfb,zqY s m w keep l,zmj];by_cases hg:goB m w v=true
  ·rw [xe (zrK.1 hg),List.filterMap_cons_some (b:=inV s m w keep v) (by unfold zpl;rw [xe hg])];rfl
  ·rw [xd (fun h=>hg (zrK.2 h))];by_cases hk:ziR w v.Number=keep
   ·rw [xe hk,List.filterMap_cons_some (b:=v) (by unfold zpl;rw [xd hg,xe hk])];rfl
   ·rw [xd hk,List.filterMap_cons_none (by unfold zpl;rw [xd hg,xd hk])];rfl
theorem zzl (hg:goB m w v=true) (hf:zgp s v (zX m (fldI m v.Number))):∃y,v=⟨v.Number,[],[],[y]⟩/\zbY s y (zX m (fldI m v.Number)).Of=true/\∀keep,inV s m w keep v=⟨v.Number,[],[],[zmi s y (zX m (fldI m v.Number)).Of (zhU w v.Number) keep]⟩:=by
 obtain ⟨_,_,h3,h4⟩:=zrK.1 hg;obtain ⟨y,e,hy⟩:=hf.msg h3 h4;have hs:v.Subs=[y]:=by rw [e]
 refine ⟨y,e,hy,fun keep=>?_⟩;unfold inV;rw [hs,zjX]
theorem zxx (hf:zgp s ⟨n,[],[],[y]⟩ f) (hz:zbY s z f.Of=true):zgp s ⟨k,[],[],[z]⟩ f:=
 ⟨by simp [zgc],(fun _=>by simp [zgc]),hf.kind,(fun w hw=>nomatch hw),(fun w hw=>nomatch hw),fun w hw=>by rw [xQ.1 hw];exact ⟨(hf.subs y xf).1,hz⟩⟩
theorem zBw (hv:v∈x.Values) (e:v=⟨v.Number,[],[],[y]⟩):szM y<szM x:=by
 have s1:=zfg hv;rw [zhT] at s1;have hs:v.Subs=[y]:=by rw [e]
 have s2:szM y<=szMs v.Subs:=zff (by rw [hs];exact xf);rw [zdv x];omega
theorem znC :∀(N:Nat) (x:Msg) (k:Int) (w:List zdT) (keep:Bool),szM x<=N->zbY s x k=true->zbY s (zmi s x k w keep) k=true
 | 0,x,k,w,keep,h,_=>by rw [zdv] at h;omega
 | N+1,x,k,w,keep,hsz,hx=>by
  obtain ⟨k0,k1,rx,hx',ux⟩:=zcY hx;rw [zpk,zqY];refine zrf k0 k1 (zrg zqX rx) (fun v hv=>?_) fun u hu=>?_
  ·obtain ⟨v0,hv0,e⟩:=List.mem_filterMap.1 hv;obtain ⟨w0,wf⟩:=hx' v0 hv0;have hn:=zqX _ _ e;unfold zpl at e;by_cases hg:goB (zB s k) w v0=true
   ·rw [xe hg] at e;have hf:=zei wf;obtain ⟨y,e1,hy,hin⟩:=zzl hg hf;rw [hin] at e;have hsy:=zBw hv0 e1;rw [hn];refine ⟨w0,zvq ?_⟩;rw [<-yk e];rw [e1] at hf;exact zxx hf (znC N y _ _ _ (by omega) hy)
   ·rw [xd hg] at e;by_cases hk:ziR w v0.Number=keep
    ·rw [xe hk] at e;rw [<-yk e];exact ⟨w0,wf⟩
    ·rw [xd hk] at e;cases e
  ·cases keep with
   | true=>exact absurd hu (by simp)
   | false=>exact ux u hu
theorem zoS (s:List Mes) (a:Msg) (m:Mes):∀(l va:List Vlu),(zfC s l a m va).length<=va.length+l.length
 | [],va=>by rw [zfC];simp
 | v::l,va=>by
  rw [zfC];have h1:=zoS s a m l (putM ⟨va,[]⟩ (zfq s v (look a.Values v.Number) (zX m (fldI m v.Number)))).Values;have h2:=zyo va [] (zfq s v (look a.Values v.Number) (zX m (fldI m v.Number)));simp only [xz];omega
theorem zvC :∀(N:Nat) (b a:Msg) (k:Int),szM b<=N->zbY s a k=true->zbY s b k=true->bdM a->bdM b->smM a->smM b->bdM (ziV s b a k)
 | 0,b,a,k,h,_,_,_,_,_,_=>by rw [zdv] at h;omega
 | N+1,b,a,k,hsz,ha,hb,ba,bb,sa,sb'=>by
  obtain ⟨_,_,ra,ha',_⟩:=zcY ha;obtain ⟨_,_,rb,hb',_⟩:=zcY hb;obtain ⟨j1,j2⟩:=zqP ha hb;obtain ⟨a1,⟨a2,a3⟩,a4⟩:=(zoq a).1 ba;obtain ⟨b1,⟨b2,b3⟩,b4⟩:=(zoq b).1 bb;obtain ⟨sa1,⟨sa2,sa3⟩,sa4⟩:=(zuT a).1 sa;obtain ⟨sb1,⟨sb2,sb3⟩,sb4⟩:=(zuT b).1 sb';rw [zdv] at hsz;have vd:(ziV s b a k).Values.length<=a.Values.length+b.Values.length:=by rw [zjL];exact zoS s a _ _ _
  have hun:(ziV s b a k).Unknown=a.Unknown++b.Unknown:=by rw [zjL]
  refine (zoq _).2 ⟨by omega,⟨by rw [hun];simp;omega,fun t ht=>by
   rw [hun] at ht;rcases xl.1 ht with h| h
   ·exact a3 t h
   ·exact b3 t h⟩,zgI.2 fun x hx=>?_⟩
  have hl:=ztj j1 hx;rw [j2] at hl;cases hlb:look b.Values x.Number with
  | none=>rw [hlb] at hl;exact zgI.1 a4 x (zeJ hl).2
  | some v=>
   rw [hlb] at hl;have e:x=zfq s v (look a.Values x.Number) (zX (zB s k) (fldI (zB s k) x.Number)):=(yk hl).symm;obtain ⟨hvn,hvm⟩:=zeJ hlb;have bv:=zgI.1 b4 v hvm;have sv:=zmA.1 sb4 v hvm;rw [e,zjM];cases hla:look a.Values x.Number with
   | none=>exact bv
   | some u=>
    obtain ⟨hun',hum⟩:=zeJ hla;have bu:=zgI.1 a4 u hum;have su:=zmA.1 sa4 u hum;obtain ⟨v1,⟨v2,v3⟩,⟨v4,v5⟩,v6,v7⟩:=(zld v).1 bv;obtain ⟨u1,⟨u2,u3⟩,⟨u4,u5⟩,u6,u7⟩:=(zld u).1 bu;obtain ⟨q1,⟨q2,q3⟩,q4,q5⟩:=(zuU v).1 sv;obtain ⟨r1,⟨r2,r3⟩,r4,r5⟩:=(zuU u).1 su;simp only;split
    ·refine (zld _).2 ⟨v1,⟨by simp;omega,fun w hw=>?_⟩,⟨by simp;omega,fun w hw=>?_⟩,by simp;omega,zgH.2 fun w hw=>?_⟩
     ·rcases xl.1 hw with h| h
      ·exact u3 w h
      ·exact v3 w h
     ·rcases xl.1 hw with h| h
      ·exact u5 w h
      ·exact v5 w h
     ·rcases xl.1 hw with h| h
      ·exact zgH.1 u7 w h
      ·exact zgH.1 v7 w h
    ·split
     ·rename_i hrep h17;have fv:=hb' v hvm;have fu:=ha' u hum;rw [hvn] at fv;rw [hun'] at fu;have ov:=zei fv.2;have ou:=zei fu.2;refine (zld _).2 ⟨v1,⟨by simp,by simp⟩,⟨by simp,by simp⟩,?_⟩;cases hvs:v.Subs with
      | nil=>rw [zhP];exact ⟨by simp,by rw [bdMs];trivial⟩
      | cons y ys=>
       cases hus:u.Subs with
       | nil=>rw [zhP];exact ⟨by simp,by rw [bdMs];trivial⟩
       | cons z zs=>
        rw [zhP];simp only;have hy:y∈v.Subs:=by rw [hvs];exact xf
        have hz:z∈u.Subs:=by rw [hus];exact xf
        have hsv:=zfg hvm;rw [zhT] at hsv;have hsy:=zff hy;have hj:=zvC N y z _ (by omega) (ou.subs z hz).2 (ov.subs y hy).2 (zgH.1 u7 z hz) (zgH.1 v7 y hy) (zmz.1 r5 z hz) (zmz.1 q5 y hy);exact ⟨by simp,by rw [bdMs,bdMs];exact ⟨hj,trivial⟩⟩
     ·exact bv
theorem znF:∀(l m:List Vlu),szVs (l++m)=szVs l+szVs m
 | [],m=>by rw [xU,szVs];omega
 | v::l,m=>by rw [xO,szVs,szVs,znF l m];omega
theorem zvX :∀(N:Nat) (x:Msg) (k:Int) (w:List zdT) (keep:Bool),szM x<=N->bdM x->bdM (zmi s x k w keep)/\szM (zmi s x k w keep)<=szM x
 | 0,x,k,w,keep,h,_=>by rw [zdv] at h;omega
 | N+1,x,k,w,keep,hsz,hb=>by
  obtain ⟨b1,⟨b2,b3⟩,b4⟩:=(zoq x).1 hb;rw [zdv] at hsz;have key:∀v∈x.Values,∀f:Fld,(∀u∈zpm s v f w keep,bdV u)/\szVs (zpm s v f w keep)<=szV v:=fun v hv f=>by
   have bv:=zgI.1 b4 v hv;obtain ⟨v1,v2,v3,v6,v7⟩:=(zld v).1 bv;have hsv:=zfg hv;have hve:=zhT v;rw [zmj];split
   ·cases hs:v.Subs with
    | nil=>
     rw [zjX];refine ⟨fun u hu=>?_,?_⟩
     ·rw [xQ.1 hu];exact (zld _).2 ⟨v1,⟨by simp,by simp⟩,⟨by simp,by simp⟩,by simp,by rw [bdMs];trivial⟩
     ·rw [szVs,szVs,zhT];simp only;rw [szMs];omega
    | cons y ys=>
     have hy:y∈v.Subs:=by rw [hs];exact xf
     have hsy:=zff hy;obtain ⟨p1,p2⟩:=zvX N y f.Of (zhU w v.Number) keep (by omega) (zgH.1 v7 y hy);rw [zjX];refine ⟨fun u hu=>?_,?_⟩
     ·rw [xQ.1 hu];exact (zld _).2 ⟨v1,⟨by simp,by simp⟩,⟨by simp,by simp⟩,by simp,by rw [bdMs,bdMs];exact ⟨p1,trivial⟩⟩
     ·rw [szVs,szVs,zhT];simp only;rw [szMs,szMs];omega
   ·split
    ·refine ⟨(fun u hu=>by rw [xQ.1 hu];exact bv),?_⟩;rw [szVs,szVs];omega
    ·exact ⟨(fun u hu=>by cases hu),(by rw [szVs];omega)⟩
  have all:∀l:List Vlu,(∀v∈l,v∈x.Values)->(∀u∈zfb s l (zB s k) w keep,bdV u)/\szVs (zfb s l (zB s k) w keep)<=szVs l/\(zfb s l (zB s k) w keep).length<=l.length:=by
   intro l
   induction l with
   | nil=>intro _;rw [zfb];exact ⟨(fun u hu=>by cases hu),xi _,xi _⟩
   | cons v l ih=>
    intro h;obtain ⟨i1,i2,i3⟩:=ih fun u hu=>h u (xg _ hu)
    obtain ⟨k1,k2⟩:=key v (h v xf) (zX (zB s k) (fldI (zB s k) v.Number));have k3:=zwI s v (zX (zB s k) (fldI (zB s k) v.Number)) w keep;rw [zfb];refine ⟨fun u hu=>?_,?_,?_⟩
    ·rcases xl.1 hu with hu| hu
     ·exact k1 u hu
     ·exact i1 u hu
    ·rw [znF,szVs];omega
    ·rw [xH,xz];omega
  obtain ⟨a1,a2,a3⟩:=all x.Values fun v hv=>hv
  rw [zpk];refine ⟨(zoq _).2 ⟨by simp only;omega,⟨?_,?_⟩,zgI.2 a1⟩,by rw [zdv,zdv];simp only;omega⟩
  ·simp only;cases keep<;>simp<;>omega
  ·simp only;cases keep with
   | true=>intro t ht;cases ht
   | false=>exact b3
theorem zAB:∀(N:Nat) (x:Msg),szM x<=N->szM x<=wgM x
 | 0,x,h=>by rw [zdv] at h;omega
 | N+1,x,h=>by
  rw [zdv] at h;have hv:∀v∈x.Values,szV v<=wgV v:=fun v hv=>by
   have h1:=zfg hv;have he:=zhT v;have:∀l:List Msg,(∀y∈l,y∈v.Subs)->szMs l<=wgMs l:=by
    intro l
    induction l with
    | nil=>intro _;rw [szMs];omega
    | cons y l ih=>
     intro hl;have hy:=hl y xf;have h2:=zff hy;have:=zAB N y (by omega);have:=ih fun z hz=>hl z (xg _ hz)
     rw [szMs,wgMs];omega
   have:=this v.Subs fun y hy=>hy
   rw [he,zhV];omega
  have:∀l:List Vlu,(∀v∈l,v∈x.Values)->szVs l<=wgVs l:=by
   intro l
   induction l with
   | nil=>intro _;rw [szVs];omega
   | cons v l ih=>
    intro hl;have:=hv v (hl v xf);have:=ih fun z hz=>hl z (xg _ hz)
    rw [szVs,wgVs];omega
  have:=this x.Values fun v hv=>hv
  rw [zdv,zkp];omega
theorem zAA:∀(N:Nat) (x:Msg),szM x<=N->wgM x<=1048576->smM x
 | 0,x,h,_=>by rw [zdv] at h;omega
 | N+1,x,h,hw=>by
  rw [zdv] at h;rw [zkp] at hw;have hl:=ztW x.Values;have hu:=zsk (l:=x.Unknown);refine (zuT _).2 ⟨by omega,⟨by omega,fun t ht=>by have:=zsl ht;omega⟩,zmA.2 fun v hv=>?_⟩;have h1:=zfg hv;have h2:=ztX hv;rw [zhT] at h1;rw [zhV] at h2;have ht:=zsk (l:=v.Texts);have hs:=ztV v.Subs;refine (zuU _).2 ⟨by omega,⟨by omega,fun t ht=>by have:=zsl ht;omega⟩,by omega,zmz.2 fun y hy=>?_⟩;have h3:=zff hy;have h4:=zkq hy;exact zAA N y (by omega) (by omega)
theorem zmE:∀(l m:List Vlu),wgVs (l++m)=wgVs l+wgVs m
 | [],m=>by rw [xU,wgVs];omega
 | v::l,m=>by rw [xO,wgVs,wgVs,zmE l m];omega
theorem ztU:∀(l m:List Msg),wgMs (l++m)=wgMs l+wgMs m
 | [],m=>by rw [xU,wgMs];omega
 | v::l,m=>by rw [xO,wgMs,wgMs,ztU l m];omega
def wgO:Option Vlu->Nat
 | none=>0
 | some u=>wgV u
theorem zyp (v:Vlu):∀(d:Bool) (l:List Vlu),zdj l->wgVs (putL v d l)+wgO (look l v.Number)<=wgVs l+(if d=true then 0 else wgV v)
 | d,[],_=>by
  rw [putL];cases d
  ·show wgVs [v]+0<=_;simp [wgVs]
  ·show wgVs []+0<=_;simp
 | d,u::l,h=>by
  obtain ⟨h1,h2⟩:=xW.1 h;have ih:=zyp v (d|| decide (v.Number<=u.Number)) l h2;rw [putL,zmE,zmE,zek,wgVs];by_cases he:u.Number=v.Number
  ·rw [xe he,xe he];have hn:look l v.Number=none:=zvI fun x hx=>by have:=h1 x hx;omega
   rw [hn] at ih;have hle:decide (v.Number<=u.Number)=true:=by simp;omega
   rw [hle,qa,xe rfl] at ih;simp only [wgO,wgVs,hle,qa] at ih|-;cases d
   ·rw [xe ⟨rfl,by omega⟩,wgVs,wgVs];simp;omega
   ·rw [xd (by simp),wgVs];simp;omega
  ·rw [xd he,xd he,wgVs,wgVs];cases d
   ·by_cases hv:v.Number<=u.Number
    ·rw [xe ⟨rfl,hv⟩,wgVs,wgVs];simp only [hv,decide_true,qa,x8,qG,xV] at ih|-;omega
    ·rw [xd (fun hh=>hv hh.2),wgVs];simp only [hv,decide_false,qk,qG,xV] at ih|-;omega
   ·rw [xd (by simp),wgVs];simp only [Bool.true_or,x8] at ih|-;omega
theorem zqL :∀(l va:List Vlu),zdj l->zdj va->(∀v∈l,look va v.Number=look a.Values v.Number)->(∀v∈l,wgV (zfq s v (look a.Values v.Number) (zX m (fldI m v.Number)))<=wgV v+wgO (look a.Values v.Number))->wgVs (zfC s l a m va)<=wgVs va+wgVs l
 | [],va,_,_,_,_=>by rw [zfC];omega
 | v::l,va,hl,ha,he,hw=>by
  obtain ⟨l1,l2⟩:=xW.1 hl;have hv:=he v xf;have hwv:=hw v xf;have hn:=zqK s v (look a.Values v.Number) (zX m (fldI m v.Number));rw [zfC]
  generalize zfq s v (look a.Values v.Number) (zX m (fldI m v.Number))=v' at hn hwv|-
  have hp:=zyp v' (decide (zgc v'=0)) va ha;have ih:=zqL (s:=s) (a:=a) (m:=m) l (putM ⟨va,[]⟩ v').Values l2 (zkb ha) (fun u hu=>by
   show look (putL v' _ va) u.Number=_;have:=l1 u hu;rw [zoY ha,xd (by omega)];exact he u (xg _ hu)) (fun u hu=>hw u (xg _ hu))
  have hq:wgVs (putM ⟨va,[]⟩ v').Values=wgVs (putL v' (decide (zgc v'=0)) va):=rfl;rw [hn,hv] at hp;rw [wgVs];split at hp<;>omega
theorem zvD :∀(N:Nat) (b a:Msg) (k:Int),szM b<=N->zbY s a k=true->zbY s b k=true->wgM (ziV s b a k)<=wgM a+wgM b
 | 0,b,a,k,h,_,_=>by rw [zdv] at h;omega
 | N+1,b,a,k,hsz,ha,hb=>by
  obtain ⟨_,_,ra,ha',_⟩:=zcY ha;obtain ⟨_,_,rb,hb',_⟩:=zcY hb;rw [zdv] at hsz;have:=zqL (s:=s) (a:=a) (m:=zB s k) b.Values a.Values rb ra (fun _ _=>rfl) fun v hv=>by
   rw [zjM];cases hla:look a.Values v.Number with
   | none=>simp only [wgO];omega
   | some u=>
    obtain ⟨hun,hum⟩:=zeJ hla;have hve:=zhV v;have hue:=zhV u;simp only [wgO];split
    ·rw [zhV];simp only [xH,yK,List.sum_append,ztU];omega
    ·split
     ·rename_i hrep h17;have ov:=zei (hb' v hv).2;have ou:=zei (ha' u hum).2;rw [hun] at ou;have hsv:=zfg hv;rw [zhT] at hsv;rw [zhV];simp only [yR,yL,List.sum_nil];cases hvs:v.Subs with
      | nil=>rw [zhP,wgMs];omega
      | cons y ys=>
       cases hus:u.Subs with
       | nil=>rw [zhP,wgMs];omega
       | cons z zs=>
        rw [zhP];have hy:y∈v.Subs:=by rw [hvs];exact xf
        have hz:z∈u.Subs:=by rw [hus];exact xf
        have hsy:=zff hy;have hj:=zvD N y z _ (by omega) (ou.subs z hz).2 (ov.subs y hy).2;have w1:=zkq hy;have w2:=zkq hz;rw [wgMs,wgMs];omega
     ·omega
  rw [zjL,zkp,zkp,zkp];simp only [yK,List.sum_append];omega
theorem zvY :∀(N:Nat) (x:Msg) (k:Int) (w:List zdT) (keep:Bool),szM x<=N->wgM (zmi s x k w keep)<=wgM x
 | 0,x,k,w,keep,h=>by rw [zdv] at h;omega
 | N+1,x,k,w,keep,hsz=>by
  rw [zdv] at hsz;have key:∀v∈x.Values,∀f:Fld,wgVs (zpm s v f w keep)<=wgV v:=fun v hv f=>by
   have hsv:=zfg hv;rw [zhT] at hsv;have hve:=zhV v;rw [zmj];split
   ·cases hs:v.Subs with
    | nil=>
     rw [zjX,wgVs,wgVs,zhV];simp only [yR,yL,List.sum_nil];rw [wgMs];omega
    | cons y ys=>
     have hy:y∈v.Subs:=by rw [hs];exact xf
     have hsy:=zff hy;have hwy:=zkq hy;have:=zvY (s:=s) N y f.Of (zhU w v.Number) keep (by omega);rw [zjX,wgVs,wgVs,zhV];simp only [yR,yL,List.sum_nil];rw [wgMs,wgMs];omega
   ·split
    ·rw [wgVs,wgVs];omega
    ·rw [wgVs];omega
  have all:∀l:List Vlu,(∀v∈l,v∈x.Values)->wgVs (zfb s l (zB s k) w keep)<=wgVs l:=by
   intro l
   induction l with
   | nil=>intro _;rw [zfb];exact xi _
   | cons v l ih=>
    intro h;have i2:=ih fun u hu=>h u (xg _ hu)
    have k2:=key v (h v xf) (zX (zB s k) (fldI (zB s k) v.Number));rw [zfb,zmE,wgVs];omega
  have:=all x.Values fun v hv=>hv
  rw [zpk,zkp,zkp];simp only;cases keep<;>simp<;>omega
structure Gd (s:List Mes) (root:Int) (n:Nat) (x:Msg):Prop where
 r:zbY s x root=true
 b:bdM x
 w:wgM x<=n
theorem Gd.s {s:List Mes} {root:Int} {n:Nat} {x:Msg} (h:Gd s root n x) (hn:n<=1048576):smM x:=zAA _ x (xi _) (yb h.w hn)
theorem Gd.z {s:List Mes} {root:Int} {n uZ:Nat} {x:Msg} (h:Gd s root n x) (hn:n<uZ):szM x<uZ:=Nat.lt_of_le_of_lt (yb (zAB _ x (xi _)) h.w) hn
theorem Gd.join {s:List Mes} {root:Int} {n m:Nat} {a b:Msg} (ha:Gd s root n a) (hb:Gd s root m b) (hn:n<=1048576) (hm:m<=1048576):Gd s root (n+m) (ziV s b a root):=
 ⟨znw _ b a root (xi _) ha.r hb.r,zvC _ b a root (xi _) ha.r hb.r ha.b hb.b (ha.s hn) (hb.s hm),yb (zvD _ b a root (xi _) ha.r hb.r) (Nat.add_le_add ha.w hb.w)⟩
theorem Gd.part {s:List Mes} {root:Int} {n:Nat} {a:Msg} (ha:Gd s root n a) (w:List zdT) (keep:Bool):Gd s root n (zmi s a root w keep):=
 ⟨znC _ a root w keep (xi _) ha.r,(zvX _ a root w keep (xi _) ha.b).1,yb (zvY _ a root w keep (xi _)) ha.w⟩
theorem zzJ:∀a<256,zmC ((a:Nat):Int)=some (if a<128 then (1,(a:Int)) else if a/32=6 then (2,((a%32:Nat):Int)) else if a/16=14 then (3,((a%16:Nat):Int)) else if a/8=30 then (4,((a%8:Nat):Int)) else (0,0)):=by decide+kernel
theorem zsg (w k:Nat) (h:k<=32):shrI .u32 (w:Int) (k:Int)=((w/2^k:Nat):Int):=zpD (k:= .u32) (a:=w) (b:=k) (by simpa [IntKind.bits] using h)
theorem zod (w:Nat):ziv (w:Int)=some (if w<128 then 1 else if w<2048 then 2 else if 55296<=w/\w<=57343 then 0 else if w<65536 then 3 else if w<=1114111 then 4 else 0):=by
 unfold ziv;have e7:shrI .u32 (w:Int) 7=((w/128:Nat):Int):=zsg w 7 (by omega);have e11:shrI .u32 (w:Int) 11=((w/2048:Nat):Int):=zsg w 11 (by omega);have e16:shrI .u32 (w:Int) 16=((w/65536:Nat):Int):=zsg w 16 (by omega);rw [e7,e11,e16];by_cases h1:w<128
 ·rw [pv,xe h1]
 ·rw [pw,xd h1];by_cases h2:w<2048
  ·rw [pv,xe h2]
  ·rw [pw,xd h2];by_cases h3:55296<=w/\w<=57343
   ·rw [pv,xe h3]
   ·rw [pw,xd h3];by_cases h4:w<65536
    ·rw [pv,xe h4]
    ·rw [pw,xd h4];by_cases h5:w<=1114111
     ·rw [pv,xe h5]
     ·rw [pw,xd h5]
theorem zwy:∀c<256,shrI .u8 ((c:Nat):Int) 6=((c/64:Nat):Int)/\u32.wrap (andI .u8 ((c:Nat):Int) 63)=((c%64:Nat):Int):=by decide+kernel
theorem zgB {v:List UInt8} {w i:Nat} (h:i<v.length) (hv:v.length<=1000) (hw:w<=1000000):
  zbf v w i=if cont v[i] then zbf v ((64*w+v[i].toNat%64:Nat):Int) ((i+1:Nat):Int) else some (.inr ()):=by
 have hc:=v[i].toNat_lt;obtain ⟨e1,e2⟩:=zwy v[i].toNat (by omega);have hb:zdo v w i=if cont v[i] then some (.inl (((64*w+v[i].toNat%64:Nat):Int),((i+1:Nat):Int))) else some (.inr (.inr ())):=by
  unfold zdo;rw [pv,zad rfl h,sb,e1,e2];by_cases hk:cont v[i]=true
  ·rw [xe hk];unfold cont at hk;simp only [xt] at hk;rw [pw,px];have e3:shlI .u32 (w:Int) 6=((w*64:Nat):Int):=by
    have:shlI .u32 (w:Int) 6=((w*64%4294967296:Nat):Int):=by simp [shlI,IntKind.bits,zub]
    rw [this,qM (by omega)]
   rw [e3,zvW rfl (by simp [IntKind.bits];omega) (by simp [IntKind.bits];omega),Nat.or_comm,ztn _ w 6 (by omega)];have e4:v[i].toNat%64+w*2^6=64*w+v[i].toNat%64:=by omega
   rw [e4];rfl
  ·rw [xd hk];unfold cont at hk;simp only [xt] at hk;rw [pv]
 by_cases hk:cont v[i]=true
 ·rw [xe hk] at hb|-;exact znP hb
 ·rw [xd hk] at hb|-;exact ziZ hb
theorem zlV (h:v.length<=i):zbf v w i=some (.inl (w:Int)):=by
 refine ziZ ?_;unfold zdo;rw [pw]
theorem zBS {w:Nat} {b:UInt8} (hw:w<=100):zbf [b] w 0=if cont b then some (.inl ((64*w+b.toNat%64:Nat):Int)) else some (.inr ()):=by
 have h:=zgB (v:=[b]) (w:=w) (i:=0) (by simp) (by simp) (by omega);refine Eq.trans h ?_;simp only [pn];rw [zlV (by simp)]
theorem zBT {w:Nat} {b c:UInt8} (hw:w<=100):zbf [b,c] w 0=if cont b then (if cont c then some (.inl ((64*(64*w+b.toNat%64)+c.toNat%64:Nat):Int)) else some (.inr ())) else some (.inr ()):=by
 have h:=zgB (v:=[b,c]) (w:=w) (i:=0) (by simp) (by simp) (by omega);refine Eq.trans h ?_;rw [zgB (i:=0+1) (by simp) (by simp) (by omega)];simp only [pn,pk,xL];rw [zlV (by simp)]
theorem zBU {w:Nat} {b c d:UInt8} (hw:w<=100):zbf [b,c,d] w 0=if cont b then (if cont c then (if cont d then some (.inl ((64*(64*(64*w+b.toNat%64)+c.toNat%64)+d.toNat%64:Nat):Int)) else some (.inr ())) else some (.inr ())) else some (.inr ()):=by
 have h:=zgB (v:=[b,c,d]) (w:=w) (i:=0) (by simp) (by simp) (by omega);refine Eq.trans h ?_;rw [zgB (i:=0+1) (by simp) (by simp) (by omega),zgB (i:=0+1+1) (by simp) (by simp) (by omega)];simp only [pn,pk,xL];rw [zlV (by simp)]
theorem zyi (n:Nat) (h:∀m,m≠n->isN m l=false):nxt l=if isN n l then n else 0:=by
 by_cases hn:isN n l=true
 ·rw [xe hn,zBk hn]
 ·rw [xd hn];by_cases h0:nxt l=0
  ·exact h0
  ·have h1:=zof h0;by_cases h2:nxt l=n
   ·rw [h2] at h1;exact absurd h1 hn
   ·rw [h _ h2] at h1;cases h1
theorem zih (n:Nat) (h:n=1/\a.toNat<128\/n=2/\192<=a.toNat/\a.toNat<224\/n=3/\224<=a.toNat/\a.toNat<240\/n=4/\240<=a.toNat):nxt (a::t)=if isN n (a::t) then n else 0:=by
 refine zyi n fun m hm=>?_
 cases hh:isN m (a::t) with
 | false=>rfl
 | true=>
  obtain ⟨a',t',e,_,g⟩:=zgN hh;cases e;omega
theorem zvG (b:List UInt8):ziu b=some ((nxt b:Nat):Int):=by
 cases b with
 | nil=>rfl
 | cons a t=>
  have ha:=a.toNat_lt;unfold ziu;have e00:idx (a::t) (0:Int)=some a:=zad (n:=0) rfl (by simp);rw [pw,e00,sb];rw [zzJ _ (by omega),sb];by_cases h1:a.toNat<128
  ·rw [zih 1 (.inl ⟨rfl,h1⟩),xe h1];simp only;rw [pw,zes (i:=1) (j:=1) (a:=1) (b:=1) rfl rfl (by omega) (by simp),sb];have e0:zbf (((a::t).drop 1).take (1 - 1)) (a.toNat:Int) 0=some (.inl (a.toNat:Int)):=zlV (i:=0) (by simp);rw [e0,sb];simp only;rw [zod,sb,xe h1,pu];simp [isN,is1,h1]
  ·rw [xd h1];by_cases h2:a.toNat/32=6
   ·rw [zih 2 (.inr (.inl ⟨rfl,by omega,by omega⟩)),xe h2];simp only
    match t with
    | []=>rw [itT (by simp)];rfl
    | b::t=>
     rw [pw,zes (i:=1) (j:=2) (a:=1) (b:=2) rfl rfl (by omega) (by simp),sb];have e0:=zBS (w:=a.toNat%32) (b:=b) (by omega);have e0':zbf (((a::b::t).drop 1).take (2 - 1)) ((a.toNat%32:Nat):Int) 0=_:=e0;rw [e0'];have hb:=b.toNat_lt;by_cases c1:cont b=true
     ·rw [xe c1,sb];simp only;have hn:=zod (64*(a.toNat%32)+b.toNat%64);simp only [isN,is2,c1,qe,xt];simp only [cont,xt] at c1;by_cases h:194<=a.toNat
      ·rw [xd (by omega),xe (by omega)] at hn;rw [hn,sb,pu,xe (by omega)];rfl
      ·rw [xe (by omega)] at hn;rw [hn,sb,pt,xd (by omega)];rfl
     ·rw [xd c1,sb];simp only;simp [isN,is2,c1]
   ·rw [xd h2];by_cases h3:a.toNat/16=14
    ·rw [zih 3 (.inr (.inr (.inl ⟨rfl,by omega,by omega⟩))),xe h3];simp only
     match t with
     | []=>rw [itT (by simp)];rfl
     | [b]=>rw [itT (by simp)];rfl
     | b::c::t=>
      rw [pw,zes (i:=1) (j:=3) (a:=1) (b:=3) rfl rfl (by omega) (by simp),sb];have e0:=zBT (w:=a.toNat%16) (b:=b) (c:=c) (by omega);have e0':zbf (((a::b::c::t).drop 1).take (3 - 1)) ((a.toNat%16:Nat):Int) 0=_:=e0;rw [e0'];have hb:=b.toNat_lt;have hc:=c.toNat_lt;by_cases c1:cont b=true
      ·rw [xe c1];by_cases c2:cont c=true
       ·rw [xe c2,sb];simp only;have hn:=zod (64*(64*(a.toNat%16)+b.toNat%64)+c.toNat%64);simp only [isN,is3,c1,c2,qi,xt];simp only [cont,xt] at c1 c2;by_cases h:(a.toNat=224->160<=b.toNat)/\(a.toNat=237->b.toNat<160)
        ·rw [xd (by omega),xd (by omega),xd (by omega),xe (by omega)] at hn;rw [hn,sb,pu,xe (by omega)];rfl
        ·by_cases g:64*(64*(a.toNat%16)+b.toNat%64)+c.toNat%64<2048
         ·by_cases g':64*(64*(a.toNat%16)+b.toNat%64)+c.toNat%64<128
          ·rw [xe g'] at hn;rw [hn,sb,pt,xd (by omega)];rfl
          ·rw [xd g',xe g] at hn;rw [hn,sb,pt,xd (by omega)];rfl
         ·rw [xd (by omega),xd g,xe (by omega)] at hn;rw [hn,sb,pt,xd (by omega)];rfl
       ·rw [xd c2,sb];simp only;simp [isN,is3,c2]
      ·rw [xd c1,sb];simp only;simp [isN,is3,c1]
    ·rw [xd h3];by_cases h4:a.toNat/8=30
     ·rw [zih 4 (.inr (.inr (.inr ⟨rfl,by omega⟩))),xe h4];simp only
      match t with
      | []=>rw [itT (by simp)];rfl
      | [b]=>rw [itT (by simp)];rfl
      | [b,c]=>rw [itT (by simp)];rfl
      | b::c::d::t=>
       rw [pw,zes (i:=1) (j:=4) (a:=1) (b:=4) rfl rfl (by omega) (by simp),sb];have e0:=zBU (w:=a.toNat%8) (b:=b) (c:=c) (d:=d) (by omega);have e0':zbf (((a::b::c::d::t).drop 1).take (4 - 1)) ((a.toNat%8:Nat):Int) 0=_:=e0;rw [e0'];have hb:=b.toNat_lt;have hc:=c.toNat_lt;have hd:=d.toNat_lt;by_cases c1:cont b=true
       ·rw [xe c1];by_cases c2:cont c=true
        ·rw [xe c2];by_cases c3:cont d=true
         ·rw [xe c3,sb];simp only;have hn:=zod (64*(64*(64*(a.toNat%8)+b.toNat%64)+c.toNat%64)+d.toNat%64);simp only [isN,is4,c1,c2,c3,qi,xt];simp only [cont,xt] at c1 c2 c3;by_cases h:a.toNat<245/\(a.toNat=240->144<=b.toNat)/\(a.toNat=244->b.toNat<144)
          ·rw [xd (by omega),xd (by omega),xd (by omega),xd (by omega),xe (by omega)] at hn;rw [hn,sb,pu,xe (by omega)];rfl
          ·have hw:¬(65536<=64*(64*(64*(a.toNat%8)+b.toNat%64)+c.toNat%64)+d.toNat%64/\64*(64*(64*(a.toNat%8)+b.toNat%64)+c.toNat%64)+d.toNat%64<=1114111):=by omega
           generalize 64*(64*(64*(a.toNat%8)+b.toNat%64)+c.toNat%64)+d.toNat%64=w at hn hw
           have hx:∃x:Int,ziv w=some x/\x≠4:=⟨_,hn,by (repeat' split)<;>omega⟩;obtain ⟨x,hx,h4⟩:=hx;rw [hx,sb,pv,xd (by omega)];rfl
         ·rw [xd c3,sb];simp only;simp [isN,is4,c3]
        ·rw [xd c2,sb];simp only;simp [isN,is4,c2]
       ·rw [xd c1,sb];simp only;simp [isN,is4,c1]
     ·rw [xd h4,pt];by_cases h5:240<=a.toNat
      ·rw [zih 4 (.inr (.inr (.inr ⟨rfl,h5⟩)))];cases hh:isN 4 (a::t) with
       | false=>rfl
       | true=>
        match t,hh with
        | b::c::d::t,hh=>simp only [isN,is4,xt] at hh;omega
      ·by_cases h0:nxt (a::t)=0
       ·rw [h0];rfl
       ·obtain ⟨a',t',e,_,g⟩:=zgN (zof h0);cases e;omega
theorem zxc (hb:b.length<=1152921504606846976) (l:List UInt8):∀(a c:Nat),c<=a->a<=b.length->l=b.drop a->
  zed b a c ((nxt l:Nat):Int)=some (((a+(pre4 l).1:Nat):Int),((c+(pre4 l).2:Nat):Int)):=by
 refine zyn (fun l=>∀(a c:Nat),c<=a->a<=b.length->l=b.drop a->zed b a c ((nxt l:Nat):Int)=some (((a+(pre4 l).1:Nat):Int),((c+(pre4 l).2:Nat):Int))) ?_ ?_ l
 ·intro l h a c hc ha hl;rw [h,zwK h];refine znR ?_;unfold zec;rw [pu];rfl
 ·intro l h ih a c hc ha hl;subst hl;have h4:=zrT (b.drop a);have hle:=zlm (b.drop a);simp only [xx] at hle;have e1:(b.drop a).drop (nxt (b.drop a))=b.drop (a+nxt (b.drop a)):=by rw [xP]
  refine (znQ (atv':=((a+nxt (b.drop a):Nat):Int)) (points':=((c+1:Nat):Int)) (size':=((nxt (b.drop (a+nxt (b.drop a))):Nat):Int)) ?_).trans ?_
  ·unfold zec;rw [pv,px,zlI (a:=a+nxt (b.drop a)) (by push_cast;rfl) rfl (by omega),sb,zvG,sb,px];rfl
  ·rw [<-e1,ih (a+nxt (b.drop a)) (c+1) (by omega) (by omega) e1,zzM h];simp only [yE,qA 1]
theorem zyM (hb:b.length<=1152921504606846976):zkj b=some (((pre4 b).1:Int),((pre4 b).2:Int)):=by
 unfold zkj;rw [zvG,sb];have h:=zxc hb b 0 0 (xi _) (xm _) rfl;simp only [xL] at h;have h':zed b 0 0 ((nxt b:Nat):Int)=some (((pre4 b).1:Int),((pre4 b).2:Int)):=h;rw [h',sb]
theorem zwW (hb:b.length<=1152921504606846976):zis b=some ((pre4 b).1:Int):=by
 unfold zis;rw [zyM hb,sb]
theorem zwX (hb:b.length<=1152921504606846976):zit b=some (zfJ b):=by
 unfold zit zfJ;rw [zwW hb,sb,zry]
def zBj:List Str:=[[],[105,110,116,51,50],[105,110,116,54,52],[117,105,110,116,51,50],[117,105,110,116,54,52],[115,105,110,116,51,50],[115,105,110,116,54,52],[98,111,111,108],[101,110,117,109],[102,105,120,101,100,51,50],[115,102,105,120,101,100,51,50],[102,108,111,97,116],[102,105,120,101,100,54,52],[115,102,105,120,101,100,54,52],[100,111,117,98,108,101],[115,116,114,105,110,103],[98,121,116,101,115],[109,101,115,115,97,103,101]]
def zxO (k:Int):Str:=(zBj[k.toNat]?).getD []
def kT:List (Int×zj):=[(1,⟨[105,110,116,51,50],0⟩),(2,⟨[105,110,116,54,52],0⟩),(3,⟨[117,105,110,116,51,50],0⟩),(4,⟨[117,105,110,116,54,52],0⟩),(5,⟨[115,105,110,116,51,50],0⟩),(6,⟨[115,105,110,116,54,52],0⟩),(7,⟨[98,111,111,108],0⟩),(8,⟨[101,110,117,109],0⟩),(9,⟨[102,105,120,101,100,51,50],5⟩),(10,⟨[115,102,105,120,101,100,51,50],5⟩),(11,⟨[102,108,111,97,116],5⟩),(12,⟨[102,105,120,101,100,54,52],1⟩),(13,⟨[115,102,105,120,101,100,54,52],1⟩),(14,⟨[100,111,117,98,108,101],1⟩),(15,⟨[115,116,114,105,110,103],2⟩),(16,⟨[98,121,116,101,115],2⟩),(17,⟨[109,101,115,115,97,103,101],2⟩)]
theorem zth:zgP=some kT:=rfl
theorem znD (h:zbS k=true):k=1\/k=2\/k=3\/k=4\/k=5\/k=6\/k=7\/k=8\/k=9\/k=10\/k=11\/k=12\/k=13\/k=14\/k=15\/k=16\/k=17:=by
 have:=yB h;omega
theorem zAR (h:zbS k=true):mget kT k=some ⟨zxO k,zdz k⟩:=by
 rcases znD h with rfl| rfl| rfl| rfl| rfl| rfl| rfl| rfl| rfl| rfl| rfl| rfl| rfl| rfl| rfl| rfl| rfl<;>rfl
theorem zzt (h:e∈kT):zbS e.1=true/\e.2=⟨zxO e.1,zdz e.1⟩:=by
 have:kT.all (fun e=>zbS e.1&&decide (e.2=⟨zxO e.1,zdz e.1⟩))=true:=by decide
 have h1:=xn.1 this e h;simp only [xh,xt] at h1;exact h1
theorem zzu (h:zbS k=false):mget kT k=none:=by
 cases hg:mget kT k with
 | none=>rfl
 | some x=>
  have mem:∀{m:List (Int×zj)} {x:zj},mget m k=some x->(k,x)∈m:=fun {m x} hg=>by
   induction m with
   | nil=>cases hg
   | cons p m ih=>
    rw [mget] at hg;split at hg
    ·rename_i e;cases hg;rw [e];exact xf
    ·exact xg _ (ih hg)
  have h1:=(zzt (mem hg)).1;simp only at h1;rw [h] at h1;cases h1
theorem zti (k:Int):zgA k=some (if zbS k then (zdz k,0) else (0,2)):=by
 unfold zgA;rw [zth,sb];cases h:zbS k with
 | true=>rw [zAR h];rfl
 | false=>rw [zzu h];rfl
theorem zoU (k:Int):zeI k=some (kNum k):=by
 unfold zeI;rw [zti,sb];cases h:zbS k with
 | true=>
  rcases znD h with rfl| rfl| rfl| rfl| rfl| rfl| rfl| rfl| rfl| rfl| rfl| rfl| rfl| rfl| rfl| rfl| rfl<;>rfl
 | false=>
  have h1:=po h;have:kNum k=false:=xR (by omega);rw [this];rfl
theorem zzw:kT.map Prod.fst=[1,2,3,4,5,6,7,8,9,10,11,12,13,14,15,16,17]:=rfl
theorem zzv:zjO=some [1,2,3,4,5,6,7,8,9,10,11,12,13,14,15,16,17]:=by
 have e:ztf kT=some [1,2,3,4,5,6,7,8,9,10,11,12,13,14,15,16,17]:=by
  unfold ztf;rw [xe ⟨by decide,by decide⟩,zzw,List.mergeSort_of_pairwise (by decide)]
 unfold zjO;rw [zth,sb,e,sb]
theorem zwu (k:Int) (h:0<=w/\w<=18446744073709551615):zgO k w=some (if kNum k then (zeW k w,0) else (0,2)):=by
 have hs:=zyA w;have hc:=zsE k h;unfold zgO;by_cases h1:k=1\/k=8
 ·have e:(if (k==1)=true then some (k==1) else some (k==8))=some true:=by rcases h1 with rfl| rfl<;>rfl
  have hn:kNum k=true:=xT (by omega);rw [e,sb,itT rfl,zwT,sb,zxd (by omega),sb,hn];unfold zeW;rw [xe h1];rfl
 ·have e:(if (k==1)=true then some (k==1) else some (k==8))=some false:=by rw [pw];simp;omega
  rw [e,sb,itF rfl];by_cases h2:k=3\/k=5\/k=9\/k=10\/k=11
  ·have e2:(if (k==3)=true then some (k==3) else if (k==5)=true then some (k==5) else if (k==9)=true then some (k==9) else if (k==10)=true then some (k==10) else some (k==11))=some true:=by
    rcases h2 with rfl| rfl| rfl| rfl| rfl<;>rfl
   have hn:kNum k=true:=xT (by omega);have hw:u64.wrap (w%4294967296)=w%4294967296:=by rw [zgj];omega
   rw [e2,sb,itT rfl,ztk,sb,hn,hw];unfold zeW;rw [xd h1,xe h2];rfl
  ·have e2:(if (k==3)=true then some (k==3) else if (k==5)=true then some (k==5) else if (k==9)=true then some (k==9) else if (k==10)=true then some (k==10) else some (k==11))=some false:=by
    rw [pw,pw,pw,pw];simp;omega
   rw [e2,sb,itF rfl];by_cases h7:k=7
   ·have hn:kNum k=true:=xT (by omega);rw [itT (by simpa using h7),hn];unfold ziG zeW;rw [sb,xd h1,xd h2,xe h7];by_cases h0:0<w
    ·rw [xe h0];by_cases h10:1<w
     ·rw [xe h10];rfl
     ·rw [xd h10,show w=1 by omega];rfl
    ·rw [xd h0,xd (by omega),show w=0 by omega];rfl
   ·rw [itF (by simpa using h7)];by_cases hn:kNum k=true
    ·have hk:=yB hn;have e3:(if (k==2)=true then some (k==2) else if (k==4)=true then some (k==4) else if (k==6)=true then some (k==6) else if (k==12)=true then some (k==12) else if (k==13)=true then some (k==13) else some (k==14))=some true:=by
      have:k=2\/k=4\/k=6\/k=12\/k=13\/k=14:=by omega
      rcases this with rfl| rfl| rfl| rfl| rfl| rfl<;>rfl
     rw [e3,sb,itT rfl,hn];unfold zeW;rw [xd h1,xd h2,xd h7];rfl
    ·have hn:kNum k=false:=by simpa using hn
     have hk:=po hn;have e3:(if (k==2)=true then some (k==2) else if (k==4)=true then some (k==4) else if (k==6)=true then some (k==6) else if (k==12)=true then some (k==12) else if (k==13)=true then some (k==13) else some (k==14))=some false:=by
      rw [pw,pw,pw,pw,pw];simp;omega
     rw [e3,sb,itF rfl,hn];rfl
def lt7 (c:UInt8):Bool:=decide (97<=c.toNat/\c.toNat<=122\/65<=c.toNat/\c.toNat<=90\/c.toNat=95)
def dg7 (c:UInt8):Bool:=decide (48<=c.toNat/\c.toNat<=57)
theorem zoO (c:UInt8):zdk (c.toNat:Int)=some (dg7 c):=by
 unfold zdk dg7;congr 1;rw [xX];simp;omega
theorem zsX (c:UInt8):zdC (c.toNat:Int)=some (lt7 c):=by
 unfold zdC lt7;congr 1;by_cases h1:(c.toNat:Int)>=97<;>by_cases h2:(c.toNat:Int)>=65<;>simp only [h1,h2,decide_true,decide_false,x8,xV,qG]<;>rw [xX]<;>simp<;>omega
theorem zsY (s:List UInt8) (hs:s.length<=1152921504606846976):∀(l:List UInt8) (i:Nat),s.drop i=l->zcu s i=some (if (l.all fun c=>lt7 c|| dg7 c)=true then .inl () else .inr ()):=by
 intro l
 induction l with
 | nil=>
  intro i hd;have:=zeH hd;refine zgf ?_;unfold zbU;rw [pw];rfl
 | cons c l ih=>
  intro i hd;obtain ⟨hi,hc,hd'⟩:=zdV hd;have hb:zbU s i=if (lt7 c|| dg7 c)=true then some (.inl ((i+1:Nat):Int)) else some (.inr (.inr ())):=by
   unfold zbU;rw [pv,zad rfl hi,sb,hc,zsX,sb,sb,zoO,px];cases lt7 c<;>cases dg7 c<;>rfl
  rw [yo];cases hk:(lt7 c|| dg7 c) with
  | false=>
   rw [hk] at hb;rw [zgf hb];rfl
  | true=>
   rw [hk] at hb;rw [zkg hb,ih _ hd',qd]
theorem zvT:∀(l:List UInt8) (i:Nat),0<i->nmA i l=l.all fun c=>lt7 c|| dg7 c
 | [],_,_=>rfl
 | c::l,i,h=>by
  rw [nmA,zvT l (i+1) (by omega),yo];congr 1;unfold nmc lt7 dg7;rw [xX];simp;omega
theorem zqG (hs:s.length<=1152921504606846976):zdL s=some (zcL s):=by
 unfold zdL zcL;have hl:=zsY s hs s 0 rfl;have hl':zcu s 0=_:=hl;cases s with
 | nil=>rfl
 | cons c l=>
  rw [itF (by simp)];by_cases h60:((c::l).length:Int)>60
  ·rw [itT (by simpa using h60),sb,itT rfl];have:decide (1<=(c::l).length/\(c::l).length<=60)=false:=by simp only [pi];omega
   rw [this,Bool.and_false]
  ·have hd:decide (1<=(c::l).length/\(c::l).length<=60)=true:=by simp only [xt];refine ⟨by simp,by omega⟩
   have hc:idx (c::l) 0=some c:=by simp [idx]
   rw [itF (by simpa using h60),hc,sb,zoO,sb,sb,hd,Bool.and_true,hl',sb];have e:nmA 0 (c::l)=(lt7 c&&l.all fun c=>lt7 c|| dg7 c):=by
    rw [nmA,zvT l 1 (by omega)];congr 1;unfold nmc lt7;rw [xX];simp;omega
   have hx:lt7 c=true->dg7 c=false:=by
    unfold lt7 dg7;simp only [xt,pi];omega
   rw [e,yo];cases h1:lt7 c<;>cases h2:dg7 c<;>first| (rw [hx h1] at h2;cases h2;done)| skip
   ·rfl
   ·rfl
   ·cases l.all fun c=>lt7 c|| dg7 c<;>rfl
theorem zxF (hl:l.length<=1152921504606846976) (v:Int):zbw l v=some (zhN (fun x=>v==x) l):=by
 unfold zbw;have h:=zmO (fun x=>v==x) l (fun i=>zaB l v i) (zdl (by unfold zag;rw [itF (by simp)])) (fun i hi=>by
  by_cases hp:(v==l[i])=true
  ·rw [xe hp];exact zdl (by unfold zag;rw [pv,zad rfl hi,sb,itT hp])
  ·rw [xd hp];exact zfK (by unfold zag;rw [pv,zad rfl hi,sb,itF (by simpa using hp),px];rfl)) l.length 0 (by omega) (fun j _ h=>by omega)
 have h':zaB l v 0=_:=h;rw [h',sb];unfold zhN;cases l.findIdx? (fun x=>v==x)<;>rfl
theorem zqa {α:Type} (p:α->Bool) (l:List α):decide (zhN p l>=0)=l.any p:=by
 cases h:l.findIdx? p with
 | none=>
  rw [zns h];rw [qB] at h
  symm
  rw [List.any_eq_false.2 fun x hx=>by simpa using h x hx];rfl
 | some i=>
  rw [znt h];rw [pd] at h;obtain ⟨hi,hp,_⟩:=h
  symm
  rw [qx.2 ⟨l[i],xM hi,hp⟩];simp
theorem zsJ (hl:l.length<=1152921504606846976) (v:Int):zaX l v=some (l.any fun x=>v==x):=by
 unfold zaX;rw [zxF hl,sb,zqa]
def K17:List Int:=[1,2,3,4,5,6,7,8,9,10,11,12,13,14,15,16,17]
theorem zwv (k:Int):(K17.any fun x=>k==x)=zbS k:=by
 unfold zbS K17;rw [xX];simp;omega
def hasN (m:List (zk×Bool)) (i:Int) (n:Str):Bool:=(mget m (⟨i,n⟩:zk)).getD false
def hasU (m:List (zm×Bool)) (i:Int) (n:Int):Bool:=(mget m (⟨i,n⟩:zm)).getD false
theorem zie (m:List (zk×Bool)) (i j:Int) (n k:Str):hasN (mput m ⟨i,n⟩ true) j k=(decide (j=i/\k=n)|| hasN m j k):=by
 unfold hasN;rw [zif];by_cases h:j=i/\k=n
 ·obtain ⟨rfl,rfl⟩:=h;simp
 ·rw [xd (fun e=>h (by injection e with e1 e2;exact ⟨e1,e2⟩))];simp [h]
theorem zsU (m:List (zm×Bool)) (i j:Int) (n k:Int):hasU (mput m ⟨i,n⟩ true) j k=(decide (j=i/\k=n)|| hasU m j k):=by
 unfold hasU;rw [zif];by_cases h:j=i/\k=n
 ·obtain ⟨rfl,rfl⟩:=h;simp
 ·rw [xd (fun e=>h (by injection e with e1 e2;exact ⟨e1,e2⟩))];simp [h]
theorem zsZ (n:Int):zdD n=some (decide ¬(n<1\/n>536870911\/(19000<=n/\n<20000))):=by
 unfold zdD;congr 1;rw [xX];simp;omega
theorem zuC (f:Fld):zea f=some (f.Repeated&&kNum f.Kind):=by
 unfold zea;rw [zoU];cases f.Repeated<;>rfl
theorem zxV (n:Int) (K:List Int) (nm:List (zk×Bool)) (nu:List (zm×Bool)) (f:Fld):zcF ⟨n,K,nm,nu⟩ f=some (decide ¬(f.Kind=17/\(f.Of<0\/f.Of>=n)\/f.Kind≠17/\f.Of≠0)):=by
 unfold zcF;by_cases h:f.Kind=17
 ·rw [itT (by simpa using h)];congr 1;rw [xX];simp [h]
 ·rw [itF (by simpa using h)];congr 1;rw [xX];simp [h]
theorem zxv (hf:f.Name.length<=1152921504606846976) (hN:hasN nm i f.Name=prev.any fun g=>g.Name==f.Name) (hU:hasU nu i f.Number=prev.any fun g=>g.Number==f.Number):
  zcE ⟨n,K17,nm,nu⟩ i f=some (zbm n prev f,if zbm n prev f=0 then (mput nm ⟨i,f.Name⟩ true,mput nu ⟨i,f.Number⟩ true) else (nm,nu)):=by
 unfold zcE;rw [zqG hf,sb];have e1:(mget nm (⟨i,f.Name⟩:zk)).getD false=hasN nm i f.Name:=rfl;have e2:(mget nu (⟨i,f.Number⟩:zm)).getD false=hasU nu i f.Number:=rfl;simp only [e1,e2,hN,hU];have hz:∀(k:Int) (x y:List (zk×Bool)×List (zm×Bool)),k≠0->(if k=0 then x else y)=y:=fun k x y h=>xd h
 by_cases h1:zcL f.Name=false
 ·have hF:zbm n prev f=5:=by unfold zbm;rw [xe h1]
  rw [hF,hz 5 _ _ (by decide),itT (by rw [h1];rfl)]
 rw [itF (show (!zcL f.Name)=false by simpa using h1)];by_cases h2:(prev.any fun g=>g.Name==f.Name)=true
 ·have hF:zbm n prev f=6:=by unfold zbm;rw [xd h1,xe h2]
  rw [hF,hz 6 _ _ (by decide),itT h2]
 have h2':(prev.any fun g=>g.Name==f.Name)=false:=qH h2;rw [itF h2',zsZ,sb];by_cases h3:f.Number<1\/f.Number>536870911\/(19000<=f.Number/\f.Number<20000)
 ·have hF:zbm n prev f=7:=by unfold zbm;rw [xd h1,xd h2,xe h3]
  rw [hF,hz 7 _ _ (by decide),itT (by rw [xR (fun h=>h h3)];rfl)]
 rw [itF (by rw [xT h3];rfl)];by_cases h4:(prev.any fun g=>g.Number==f.Number)=true
 ·have hF:zbm n prev f=8:=by unfold zbm;rw [xd h1,xd h2,xd h3,xe h4]
  rw [hF,hz 8 _ _ (by decide),itT h4]
 have h4':(prev.any fun g=>g.Number==f.Number)=false:=qH h4;rw [itF h4',zsJ (by decide),sb,zwv];by_cases h5:zbS f.Kind=false
 ·have hF:zbm n prev f=9:=by unfold zbm;rw [xd h1,xd h2,xd h3,xd h4,xe h5]
  rw [hF,hz 9 _ _ (by decide),itT (by rw [h5];rfl)]
 rw [itF (show (!zbS f.Kind)=false by simpa using h5),zuC];have hg:(if f.Packed=true then (some (f.Repeated&&kNum f.Kind)>>=fun rv4=>some (!rv4)) else some false)=some (decide (f.Packed=true/\¬(f.Repeated=true/\kNum f.Kind=true))):=by
  cases f.Packed<;>cases f.Repeated<;>cases kNum f.Kind<;>rfl
 rw [hg,sb];by_cases h6:f.Packed=true/\¬(f.Repeated=true/\kNum f.Kind=true)
 ·have hF:zbm n prev f=10:=by unfold zbm;rw [xd h1,xd h2,xd h3,xd h4,xd h5,xe h6]
  rw [hF,hz 10 _ _ (by decide),itT (xT h6)]
 rw [itF (xR h6),zxV,sb];by_cases h7:f.Kind=17/\(f.Of<0\/f.Of>=n)\/f.Kind≠17/\f.Of≠0
 ·have hF:zbm n prev f=11:=by unfold zbm;rw [xd h1,xd h2,xd h3,xd h4,xd h5,xd h6,xe h7]
  rw [hF,hz 11 _ _ (by decide),itT (by rw [xR (fun h=>h h7)];rfl)]
 have hF:zbm n prev f=0:=by unfold zbm;rw [xd h1,xd h2,xd h3,xd h4,xd h5,xd h6,xd h7]
 rw [hF,xe rfl,itF (by rw [xT h7];rfl)]
theorem zuD {n:Int} {nm:List (zk×Bool)} {nu:List (zm×Bool)} {prev:List Mes} {m:Mes} (hm:m.Name.length<=1152921504606846976) (hN:hasN nm (-1) m.Name=prev.any fun g=>g.Name==m.Name):
  zbZ ⟨n,K17,nm,nu⟩ m=some (if zcL m.Name=false then (2,nm,nu) else if (prev.any fun g=>g.Name==m.Name)=true then (3,nm,nu) else if 200<m.Fields.length then (4,nm,nu) else (0,mput nm ⟨-1,m.Name⟩ true,nu)):=by
 unfold zbZ;rw [zqG hm,sb];have e1:(mget nm (⟨(-1),m.Name⟩:zk)).getD false=hasN nm (-1) m.Name:=rfl;simp only [e1,hN];by_cases h1:zcL m.Name=false
 ·rw [xe h1,itT (show (!zcL m.Name)=true by rw [h1];rfl)]
 rw [xd h1,itF (show (!zcL m.Name)=false by simpa using h1)];by_cases h2:(prev.any fun g=>g.Name==m.Name)=true
 ·rw [xe h2,itT h2]
 have h2':(prev.any fun g=>g.Name==m.Name)=false:=qH h2;rw [xd h2,itF h2'];by_cases h3:200<m.Fields.length
 ·rw [xe h3,itT (show decide ((m.Fields.length:Int)>200)=true by simp;omega)]
 rw [xd h3,itF (show decide ((m.Fields.length:Int)>200)=false by simp;omega)]
structure Met (nm:List (zk×Bool)) (nu:List (zm×Bool)) (i:Nat) (prev:List Mes) (p:List Fld):Prop where
 mes:∀n,hasN nm (-1) n=prev.any fun g=>g.Name==n
 nam:∀n,hasN nm i n=p.any fun g=>g.Name==n
 num:∀n,hasU nu i n=p.any fun g=>g.Number==n
 later:∀(j:Nat) n,i<j->hasN nm j n=false
 laterU:∀(j:Nat) n,i<j->hasU nu j n=false
theorem Met.step (h:Met nm nu i prev p) (f:Fld):Met (mput nm ⟨i,f.Name⟩ true) (mput nu ⟨i,f.Number⟩ true) i prev (p++[f]):=by
 refine ⟨fun n=>?_,fun n=>?_,fun n=>?_,fun j n hj=>?_,fun j n hj=>?_⟩
 ·rw [zie,h.mes,xR (by omega),pg]
 ·rw [zie,h.nam,ql,Bool.or_comm];congr 1;simp only [yQ,List.any_nil,qk];rw [xX];simp;exact eq_comm
 ·rw [zsU,h.num,ql,Bool.or_comm];congr 1;simp only [yQ,List.any_nil,qk];rw [xX];simp;exact eq_comm
 ·rw [zie,h.later j n hj,xR (by omega)];rfl
 ·rw [zsU,h.laterU j n hj,xR (by omega)];rfl
theorem zxt (hb:m.Fields.length<=140737488351232) (hn:∀f∈m.Fields,f.Name.length<=140737488351232):
  ∀(l:List Fld) (k:Nat) (nm:List (zk×Bool)) (nu:List (zm×Bool)),m.Fields.drop k=l->k<=m.Fields.length->Met nm nu i prev (m.Fields.take k)->
   (∃j w,msgF s.length (m.Fields.take k) l=some (j,w)/\zbK K17 s i m k nm nu=some (.inr ((j:Int),w)))\/
   (msgF s.length (m.Fields.take k) l=none/\∃nm' nu',zbK K17 s i m k nm nu=some (.inl (nm',nu'))/\Met nm' nu' i prev m.Fields):=by
 intro l
 induction l with
 | nil=>
  intro k nm nu hd hk hM;have:=zeH hd;have hkl:k=m.Fields.length:=by omega
  subst hkl;refine .inr ⟨rfl,nm,nu,zgs ?_,by simpa using hM⟩;unfold zbo;rw [itF (by simp)]
 | cons f l ih=>
  intro k nm nu hd hk hM;obtain ⟨hi,hc,hd'⟩:=zdV hd;have hf:=hn f (by rw [<-hc];exact xM hi);have hfld:=zxv (n:=(s.length:Int)) (i:=(i:Int)) (nm:=nm) (nu:=nu) (prev:=m.Fields.take k) (f:=f) (by omega) (hM.nam _) (hM.num _);have htk:m.Fields.take (k+1)=m.Fields.take k++[f]:=by rw [ph hi,hc]
  have vd:(m.Fields.take k).length=k:=by simp;omega
  obtain ⟨bd,_⟩:=zoC (s.length:Int) (m.Fields.take k) f;rw [msgF];by_cases h0:zbm s.length (m.Fields.take k) f=0
  ·rw [xd (by omega)];rw [h0,xe rfl] at hfld;have hstep:zbo K17 s i m k nm nu=some (.inl (((k+1:Nat):Int),mput nm ⟨i,f.Name⟩ true,mput nu ⟨i,f.Number⟩ true)):=by
    unfold zbo;rw [pv,zad rfl hi,sb,hc,hfld,sb];dsimp only;rw [itF (show ((0:Int) !=0)=false from rfl),px];rfl
   rw [zkO hstep,<-htk];exact ih (k+1) _ _ hd' (by omega) (by rw [htk];exact hM.step f)
  ·rw [xe (by omega)];rw [xd h0] at hfld;refine .inl ⟨k,_,by rw [vd],zgs ?_⟩;unfold zbo;rw [pv,zad rfl hi,sb,hc,hfld,sb];dsimp only;rw [itT (show (zbm (s.length:Int) (m.Fields.take k) f !=0)=true by simpa using h0)]
theorem zxs {s:List Mes} (hw:WS s):∀(l:List Mes) (i:Nat) (nm:List (zk×Bool)) (nu:List (zm×Bool)),s.drop i=l->i<=s.length->Met nm nu i (s.take i) []->
  zcO K17 s i nm nu=some (match chkF s.length (s.take i) l with| some (j,k,w)=> .inr ((j:Int),k,w)| none=> .inl ()):=by
 intro l
 induction l with
 | nil=>
  intro i nm nu hd hi hM;have:=zeH hd;refine zco ?_;unfold zaA;rw [pw];rfl
 | cons m l ih=>
  intro i nm nu hd hi hM;obtain ⟨hil,hc,hd'⟩:=zdV hd;obtain ⟨w1,w2⟩:=hw;obtain ⟨m1,m2,m3⟩:=w2 m (by rw [<-hc];exact xM hil);have hmes:=zuD (n:=(s.length:Int)) (nm:=nm) (nu:=nu) (prev:=s.take i) (m:=m) (by omega) (hM.mes _);have htk:s.take (i+1)=s.take i++[m]:=by rw [ph hil,hc]
  have vd:(s.take i).length=i:=by simp;omega
  rw [chkF];by_cases h1:zcL m.Name=false
  ·rw [xe h1] at hmes|-;refine zco ?_;unfold zaA;rw [pv,zad rfl hil,sb,hc,hmes,sb];dsimp only;rw [itT (show ((2:Int) !=0)=true from rfl),vd]
  rw [xd h1] at hmes|-;by_cases h2:((s.take i).any fun g=>g.Name==m.Name)=true
  ·rw [xe h2] at hmes|-;refine zco ?_;unfold zaA;rw [pv,zad rfl hil,sb,hc,hmes,sb];dsimp only;rw [itT (show ((3:Int) !=0)=true from rfl),vd]
  rw [xd h2] at hmes|-;by_cases h3:200<m.Fields.length
  ·rw [xe h3] at hmes|-;refine zco ?_;unfold zaA;rw [pv,zad rfl hil,sb,hc,hmes,sb];dsimp only;rw [itT (show ((4:Int) !=0)=true from rfl),vd]
  rw [xd h3] at hmes|-;have hM0:Met (mput nm ⟨-1,m.Name⟩ true) nu i (s.take i++[m]) (m.Fields.take 0):=by
   refine ⟨fun n=>?_,fun n=>?_,fun n=>?_,fun j n hj=>?_,fun j n hj=>hM.laterU j n hj⟩
   ·rw [zie,hM.mes,ql,Bool.or_comm];congr 1;simp only [yQ,List.any_nil,qk];rw [xX];simp;exact eq_comm
   ·rw [zie,hM.nam,xR (by omega)];rfl
   ·rw [hM.num];rfl
   ·rw [zie,hM.later j n hj,xR (by omega)];rfl
  have hl2:=zxt (s:=s) (i:=i) m2 m3 m.Fields 0 _ nu rfl (by omega) hM0;simp only [yl] at hl2;rcases hl2 with ⟨j,w,g1,g2⟩| ⟨g1,nm',nu',g2,g3⟩
  ·rw [g1];refine zco ?_;unfold zaA;have g2':zbK K17 s i m 0 (mput nm ⟨-1,m.Name⟩ true) nu=_:=g2;rw [pv,zad rfl hil,sb,hc,hmes,sb];dsimp only;rw [itF (show ((0:Int) !=0)=false from rfl),g2',sb];simp only [vd]
  ·rw [g1];have hstep:zaA K17 s i nm nu=some (.inl (((i+1:Nat):Int),nm',nu')):=by
    unfold zaA;have g2':zbK K17 s i m 0 (mput nm ⟨-1,m.Name⟩ true) nu=_:=g2;rw [pv,zad rfl hil,sb,hc,hmes,sb];dsimp only;rw [itF (show ((0:Int) !=0)=false from rfl),g2',sb];dsimp only;rw [px];rfl
   rw [zkN hstep];simp only [];rw [<-htk];refine ih (i+1) nm' nu' hd' (by omega) ⟨fun n=>?_,fun n=>?_,fun n=>?_,fun j n hj=>g3.later j n (by omega),fun j n hj=>g3.laterU j n (by omega)⟩
   ·rw [htk];exact g3.mes n
   ·rw [g3.later (i+1) n (by omega)];rfl
   ·rw [g3.laterU (i+1) n (by omega)];rfl
theorem zxr (hw:WS s):zfd s=some (⟨(zfw s).1,(zfw s).2.1,(zfw s).2.2⟩,if (zfw s).2.2=0 then 0 else 9):=by
 unfold zfd zfw;by_cases h:s.length=0\/100<s.length
 ·rw [pv,xe h];rfl
 ·rw [pw,xd h,zzv,sb];have hl:=zxs hw s 0 [] [] rfl (by omega) ⟨fun n=>rfl,fun n=>rfl,fun n=>rfl,fun j n _=>rfl,fun j n _=>rfl⟩;simp only [yl] at hl;have hl':zcO [1,2,3,4,5,6,7,8,9,10,11,12,13,14,15,16,17] s 0 [] []=_:=hl;rw [hl',sb];cases hc:chkF s.length [] s with
  | none=>rfl
  | some q=>
   obtain ⟨i,k,w⟩:=q;have:=zvk _ _ _ _ _ _ hc;simp only;rw [xd (by omega)]
theorem zyu (hw:WS s):zfe s=some (zlu s):=by
 unfold zfe zlu;rw [zxr hw,sb];by_cases h:(zfw s).2.2=0<;>simp [h]
theorem zua (h:(zeu k b).2=0):kNum k=true/\(pcs k b).2=0/\(zeu k b).1=(pcs k b).1.map (zyW k):=by
 unfold zeu at h|-;cases hn:kNum k with
 | false=>rw [hn,xe rfl] at h;simp at h
 | true=>
  rw [hn,xd (by simp)] at h;rw [xd (by simp)];by_cases h0:(pcs k b).2=0
  ·rw [xe h0];exact ⟨rfl,h0,rfl⟩
  ·rw [xd h0] at h;exact absurd h h0
theorem zvg (h:(zeu k b).2≠0):(zeu k b).1=[]/\((zeu k b).2=2\/(zeu k b).2=3\/(zeu k b).2=4):=by
 unfold zeu at h|-;by_cases hn:kNum k=false
 ·rw [xe hn];simp
 ·rw [xd hn] at h|-;by_cases h0:(pcs k b).2=0
  ·rw [xe h0] at h;exact absurd rfl h
  ·rw [xd h0];rcases ztq k b with h1| h1| h1
   ·exact absurd h1 h0
   ·rw [h1];simp
   ·rw [h1];simp
def wid (k:Int):Nat:=if 12<=k then 8 else if 9<=k then 4 else 0
theorem zwU (k:Int):zfc k=some (if kNum k then ((wid k:Int),0) else (0,2)):=by
 cases hn:kNum k with
 | true=>
  have h:=zoT.1 hn;have hk:k=1\/k=2\/k=3\/k=4\/k=5\/k=6\/k=7\/k=8\/k=9\/k=10\/k=11\/k=12\/k=13\/k=14:=by omega
  rcases hk with rfl| rfl| rfl| rfl| rfl| rfl| rfl| rfl| rfl| rfl| rfl| rfl| rfl| rfl<;>rfl
 | false=>
  have h:=po hn;unfold zfc;have hne:∀c:Int,1<=c->c<=14->(k==c)=false:=fun c h1 h2=>by simp;omega
  simp only [hne 1 (by omega) (by omega),hne 2 (by omega) (by omega),hne 3 (by omega) (by omega),hne 4 (by omega) (by omega),hne 5 (by omega) (by omega),hne 6 (by omega) (by omega),hne 7 (by omega) (by omega),hne 8 (by omega) (by omega),hne 9 (by omega) (by omega),hne 10 (by omega) (by omega),hne 11 (by omega) (by omega),hne 12 (by omega) (by omega),hne 13 (by omega) (by omega),hne 14 (by omega) (by omega)];rfl
theorem zyE (h:0<=w/\w<=18446744073709551615):zge k w=some (if kNum k then ((sPut k w).length:Int) else 0):=by
 have hc:=zsE k h;obtain ⟨c,hcc⟩:∃c:Nat,zeW k w=c:=⟨(zeW k w).toNat,by omega⟩;unfold zge;rw [zwU,sb];cases hn:kNum k with
 | false=>rfl
 | true=>
  simp only [x8];unfold sPut zuR;rw [hcc,xw];unfold wid;by_cases h1:12<=k
  ·rw [xe h1,xe h1,pt,zex]
  ·rw [xd h1,xd h1];by_cases h2:9<=k
   ·rw [xe h2,xe h2,pt,zex]
   ·rw [xd h2,xd h2,pu,zwu k h,sb,hn];simp only [x8];rw [hcc,zBa (by omega),sb,zvo]
theorem zqv {α:Type} {l t:List α} {x:α} {k:Nat} (h:l.drop k=x::t):∃hk:k<l.length,l[k]=x/\l.drop (k+1)=t:=by
 have hk:k<l.length:=by
  rcases yj k l.length with h'| h'
  ·exact h'
  ·rw [yp h'] at h;cases h
 rw [yh hk] at h;injection h with h1 h2;exact ⟨hk,h1,h2⟩
theorem zrF (l:List (List UInt8)) (hl:l.length<=1099511627776):∀(t:List (List UInt8)) (k s:Nat),l.drop k=t->s+t.flatten.length<=1099511627776->
  zai l s k=some ((s+t.flatten.length:Nat):Int):=by
 intro t
 induction t with
 | nil=>
  intro k s hd _;have hk:l.length<=k:=by have:=congrArg List.length hd;simp at this;omega
  refine zeS ?_;unfold zV;rw [pw];simp
 | cons x t ih=>
  intro k s hd hs;obtain ⟨hk,hx,hd'⟩:=zqv hd;simp only [qu,xH] at hs;refine (zeR (size':=((s+x.length:Nat):Int)) (v':=((k+1:Nat):Int)) ?_).trans ?_
  ·unfold zV;rw [pv,zad rfl hk,sb,hx,px,pw,px];push_cast;rfl
  ·rw [ih _ _ hd' (by omega)];simp only [qu,xH];congr 2;omega
theorem zrG (l:List (List UInt8)) (hl:l.length<=1099511627776):∀(t:List (List UInt8)) (k:Nat) (va:List UInt8),l.drop k=t->va.length+t.flatten.length<=1099511627776->
  zaj l va k=some (va++t.flatten):=by
 intro t
 induction t with
 | nil=>
  intro k va hd _;have hk:l.length<=k:=by have:=congrArg List.length hd;simp at this;omega
  refine zeU ?_;unfold zW;rw [pw];simp
 | cons x t ih=>
  intro k va hd hs;obtain ⟨hk,hx,hd'⟩:=zqv hd;simp only [qu,xH] at hs;refine (zeT (newslice':=va++x) (v2':=((k+1:Nat):Int)) ?_).trans ?_
  ·unfold zW;rw [pv,zad rfl hk,sb,hx,zjv (by omega),sb,px];push_cast;rfl
  ·rw [ih _ _ hd' (by rw [xH];omega)];simp
theorem zzm {n:Nat} (h:n<=1099511627776):zbn (n:Int)=some []:=by
 unfold zbn;have e:i64.wrap ((n:Int) - i64.wrap (0 - 0))=n:=by rw [zp (x:=0 - 0) (by omega),px];omega
 rw [itF (by simp),e];by_cases h0:(n:Int)>0
 ·rw [itT (by simpa using h0),zBi (a:=n) rfl (Int.le_refl _) (by omega),sb];have e0:cut (List.replicate n (0:UInt8)) 0 0=some []:=zsL (b:=0) rfl (xm _);rw [e0,sb]
 ·rw [itF (by simpa using h0)]
theorem zwk (hl:l.length<=1099511627776) (h:l.flatten.length<=1099511627776):zaW l=some l.flatten:=by
 unfold zaW;have h1:=zrF l hl l 0 0 rfl (by omega);have h1':zai l 0 0=_:=h1;have h2:=zrG l hl l 0 [] rfl (by simpa using h);have h2':zaj l [] 0=_:=h2;rw [h1',sb,zzm (by omega),sb,h2',sb];simp
def wid9 (k:Int):Int:=if kNum k then (if 12<=k then 8 else if 9<=k then 4 else 1) else 0
theorem zqj (hk:kNum k=true):(((sPut k 0).length:Nat):Int)=(if 12<=k then 8 else if 9<=k then 4 else 1):=by
 have hk':=zoT.1 hk;have hc:(zeW k 0).toNat=0:=by
  have:k=1\/k=2\/k=3\/k=4\/k=5\/k=6\/k=7\/k=8\/k=9\/k=10\/k=11\/k=12\/k=13\/k=14:=by omega
  rcases this with h| h| h| h| h| h| h| h| h| h| h| h| h| h<;>subst h<;>decide
 unfold sPut;rw [hc];unfold zuR;by_cases h1:12<=k
 ·rw [xe h1,xe h1,zex];rfl
 ·rw [xd h1,xd h1];by_cases h2:9<=k
  ·rw [xe h2,xe h2,zex];rfl
  ·rw [xd h2,xd h2,zvo];simp [lenN]
theorem zwS (k:Int):zim k=some (wid9 k):=by
 unfold zim wid9;rw [zyE (by omega),sb];cases hk:kNum k with
 | false=>rfl
 | true=>simp only [x8];rw [zqj hk]
theorem zwg (hk:kNum k=true):(k<9->wid9 k=1)/\(¬k<9->k<12->wid9 k=4)/\(¬k<12->wid9 k=8):=by
 unfold wid9;rw [hk,xe rfl];refine ⟨fun h=>?_,fun h1 h2=>?_,fun h=>?_⟩
 ·rw [xd (show ¬12<=k by omega),xd (show ¬9<=k by omega)]
 ·rw [xd (show ¬12<=k by omega),xe (show 9<=k by omega)]
 ·rw [xe (show 12<=k by omega)]
theorem zyS (hk:kNum k=false):wid9 k=0:=by unfold wid9;rw [hk];rfl
theorem zzZ (hk:kNum k=true):(wid9 k==0)=false:=by
 obtain ⟨h1,h2,h3⟩:=zwg hk;by_cases h9:k<9
 ·rw [h1 h9];rfl
 ·by_cases h12:k<12
  ·rw [h2 h9 h12];rfl
  ·rw [h3 h12];rfl
theorem zrd (hk:kNum k=true) (b:List UInt8):zil (wid9 k) b=some (match ziY k b with| .inl c=>(0,c)| .inr n=>((n:Int),0)):=by
 obtain ⟨w1,w2,w3⟩:=zwg hk;unfold zil ziY;by_cases h9:k<9
 ·rw [w1 h9,pt,zwb,sb,xe h9];rcases zkc b with h| ⟨h,_⟩| ⟨x,c,y,e,hx,hc,hl,hv,h⟩
  ·rw [h];rfl
  ·rw [h];rfl
  ·rw [h,xd (by simp)];simp
 ·rw [xd h9];by_cases h12:k<12
  ·rw [w2 h9 h12,pu,xe h12];by_cases hl:b.length<4
   ·rw [pv,xe hl]
   ·rw [pw,xd hl];rfl
  ·rw [w3 h12,pu,xd h12];by_cases hl:b.length<8
   ·rw [pv,xe hl]
   ·rw [pw,xd hl];rfl
def zkm (k:Int) (b:List UInt8):List (List UInt8)×Int:=if kNum k=false then ([],2) else pcs k b
def go9 {σ ρ:Type} (kb:σ->(List UInt8×Int)->Option (σ⊕ρ)):List (List UInt8)->Int->σ->Option (σ⊕ρ)
 | [],c,s=>if c=0 then some (.inl s) else kb s ([],c)
 | p::ps,c,s=>match kb s (p,0) with
  | some (.inl s')=>go9 kb ps c s'
  | some (.inr r)=>some (.inr r)
  | none=>none
theorem zuP {σ ρ χ:Type} {kb:σ->χ->Option (σ⊕ρ)} {s:σ} {x:χ} {o:σ⊕ρ} (h:kb s x=some o):∃c,rnd kb (.inl s) x=some (c,o)/\(c=true/\(∃s',o= .inl s')\/c=false/\∃r,o= .inr r):=by
 cases o with
 | inl s'=>exact ⟨true,by simp only [rnd,h],.inl ⟨rfl,s',rfl⟩⟩
 | inr r=>exact ⟨false,by simp only [rnd,h],.inr ⟨rfl,r,rfl⟩⟩
theorem zCc {σ ρ:Type} (kb:σ->(List UInt8×Int)->Option (σ⊕ρ)) {k:Int} (hk:kNum k=true) (b:List UInt8):∀(s:σ) (o:σ⊕ρ),go9 kb (pcs k b).1 (pcs k b).2 s=some o->
  ∃q,zcN (rnd kb) (wid9 k) b (.inl s)=some q/\(q= .inl o\/q= .inr o):=by
 refine zml k (fun b=>∀(s:σ) (o:σ⊕ρ),go9 kb (pcs k b).1 (pcs k b).2 s=some o->
  ∃q,zcN (rnd kb) (wid9 k) b (.inl s)=some q/\(q= .inl o\/q= .inr o)) ?_ ?_ ?_ b
 ·intro s o h;rw [zmm] at h;have h':some (.inl s)=some o:=h;refine ⟨.inl o,zet ?_,.inl rfl⟩;unfold zaY;rw [pu,<-yk h']
 ·intro l c hl hu hc s o h;rw [zmk hl hu] at h;have h':kb s ([],c)=some o:=by
   have h2:(if c=0 then some (.inl s) else kb s ([],c))=some o:=h
   rwa [xd (by omega)] at h2
  obtain ⟨t,ht,_⟩:=zuP h';refine ⟨.inr o,zet ?_,.inr rfl⟩;have hp:=yg.2 hl;unfold zaY;rw [pv,zrd hk,sb,hu];simp only;rw [zes (i:=0) (j:=0) (a:=0) (b:=0) rfl rfl (xi _) (xm _),sb];simp only [yN,Nat.sub_self,yl];rw [ht,sb,pv]
 ·intro l n hl hu g1 g2 g3 ih s o h;rw [zjZ hl hu] at h;have hp:=yg.2 hl;have hbody:∀{t:Bool} {y:σ⊕ρ},rnd kb (.inl s) (l.take n,0)=some (t,y)->zaY (rnd kb) (wid9 k) l (.inl s)=(if t then some (.inl (l.drop n,y)) else some (.inr (.inr y))):=by
   intro t y ht;unfold zaY;rw [pv,zrd hk,sb,hu];simp only;rw [zes (i:=0) (j:=(n:Int)) (a:=0) (b:=n) rfl rfl (xm _) g2,sb];simp only [yN,yM];rw [ht,sb];cases t with
   | false=>rw [pt];rfl
   | true=>rw [pu,zlI (a:=n) rfl rfl g2,sb];rfl
  simp only [go9] at h;cases hb:kb s (l.take n,0) with
  | none=>rw [hb] at h;cases h
  | some z=>
   rw [hb] at h;obtain ⟨t,ht,hcase⟩:=zuP hb;have hB:=hbody ht;rcases hcase with ⟨rfl,s',rfl⟩| ⟨rfl,r,rfl⟩
   ·obtain ⟨q,hq,hq'⟩:=ih s' o h;exact ⟨q,by rw [zkM hB];exact hq,hq'⟩
   ·have h':some (.inr r)=some o:=h;exact ⟨.inr (.inr r),zet hB,.inr (by rw [yk h'])⟩
theorem zzY {σ ρ:Type} (kb:σ->(List UInt8×Int)->Option (σ⊕ρ)) (k:Int) (b:List UInt8) {s:σ} {o:σ⊕ρ} (h:go9 kb (zkm k b).1 (zkm k b).2 s=some o):zdu k b (rnd kb) (.inl s)=some o:=by
 unfold zdu;rw [zwS,sb];unfold zkm at h;cases hk:kNum k with
 | false=>
  rw [hk,xe rfl] at h;have h':kb s ([],2)=some o:=h;obtain ⟨t,ht,_⟩:=zuP h';rw [zyS hk,pt,ht,sb]
 | true=>
  rw [hk,xd (by simp)] at h;have hw:=zzZ hk;obtain ⟨q,hq,hq'⟩:=zCc kb hk b s o h;rw [itF hw,hq,sb];rcases hq' with rfl| rfl<;>rfl
theorem zvc (k:Int) (b:List UInt8):(zkm k b).2=(zeu k b).2/\((zeu k b).2=0->(zkm k b).1=(pcs k b).1)/\(∀p∈(zkm k b).1,zqz (zdz k) p=true/\1<=p.length/\p.length<=10)/\(zkm k b).1.length<=b.length/\((zkm k b).1=[]\/kNum k=true):=by
 unfold zkm zeu;by_cases hn:kNum k=false
 ·rw [xe hn,xe hn];exact ⟨rfl,fun h=>by simp at h,(fun p hp=>by cases hp),xm _,.inl rfl⟩
 ·have hk:kNum k=true:=by simpa using hn
  rw [xd hn,xd hn];refine ⟨?_,fun _=>rfl,zyl hk b,zzL k b,.inr hk⟩;by_cases h0:(pcs k b).2=0
  ·rw [xe h0];exact h0
  ·rw [xd h0]
theorem zsK (c:Int):∀(ps:List (List UInt8)) (n:Nat),n+ps.length<=1048576->
  go9 (fun (s:Int) (x:List UInt8×Int)=>zcZ s x.1 x.2) ps c (n:Int)=some (if c=0 then .inl ((n+ps.length:Nat):Int) else .inr (c,((n+ps.length:Nat):Int)))
 | [],n,hl=>by
  simp only [go9,yR,yd];by_cases h0:c=0
  ·rw [xe h0,xe h0]
  ·rw [xd h0,xd h0];unfold zcZ;rw [itT (by simpa using h0)]
 | p::ps,n,hl=>by
  simp only [xz] at hl;have h1:zcZ (n:Int) p 0=some (.inl ((n+1:Nat):Int)):=by
   unfold zcZ;rw [pu,px];rfl
  simp only [go9,h1];rw [zsK c ps (n+1) (by omega)];simp only [xz];rw [Nat.add_right_comm,yE]
theorem zwL (k:Int) {b:List UInt8} (hb:b.length<=1048576):zik k b=some (((zeu k b).1.length:Int),(zeu k b).2):=by
 obtain ⟨h1,h2,h3,h4,h5⟩:=zvc k b;unfold zik ziP;rw [sb];simp only;have hgo:=zsK (zkm k b).2 (zkm k b).1 0 (by omega);rw [zzY (s:=(0:Int)) _ k b hgo,sb,h1];by_cases h0:(zeu k b).2=0
 ·rw [xe h0,h2 h0];simp only;rw [(zua h0).2.2,h0];simp
 ·rw [xd h0];simp only;rw [(zvg h0).1];rfl
abbrev PVw:=za
def prV (v:Vw):PVw:=⟨v.R,v.Field,v.Run⟩
theorem zpP (m:Mes) (he:∀p c,e=some (p,c)->3<=c/\c<=5):∀(l:List Rec) (p c:Int),(vws m e l).2=some (p,c)->3<=c/\c<=6
 | [],p,c,h=>by
  cases e with
  | none=>cases h
  | some q=>
   simp only [vws,yI,xF,xS] at h;have:=he q.1 q.2 rfl;omega
 | r::l,p,c,h=>by
  rw [vws] at h;rcases zeh m r.Number r.Wire with hv| ⟨hv,_⟩| ⟨i,run,hv,_⟩
  ·simp only [hv,xF,xS] at h;omega
  ·simp only [hv] at h;exact zpP m he l p c h
  ·simp only [hv] at h;exact zpP m he l p c h
theorem zBq (b:List UInt8):∀p c,(spl 0 b).2=some (p,c)->3<=c/\c<=5:=fun p c h=>by
 have:=(zyD 0 b p c h).1;omega
theorem znr (m:Mes) (b:List UInt8):(zaD m b).2.2=0/\(vws m (spl 0 b).2 (spl 0 b).1).2=none/\(zaD m b).1=(vws m (spl 0 b).2 (spl 0 b).1).1/\(zaD m b).2.1=0\/(3<=(zaD m b).2.2/\(zaD m b).2.2<=6)/\(zaD m b).1=[]:=by
 unfold zaD vwR;cases h:(vws m (spl 0 b).2 (spl 0 b).1).2 with
 | none=>exact .inl ⟨rfl,rfl,rfl,rfl⟩
 | some q=>exact .inr ⟨zpP m (zBq b) _ q.1 q.2 h,rfl⟩
theorem zpQ :∀{l:List Rec},(vws m e l).2=none->e=none/\(vws m e l).1.map (·.R)=l
 | [],h=>by
  cases e with
  | none=>exact ⟨rfl,rfl⟩
  | some q=>simp [vws] at h
 | r::l,h=>by
  rw [vws] at h|-;rcases zeh m r.Number r.Wire with hv| ⟨hv,_⟩| ⟨i,run,hv,_⟩
  ·simp only [hv] at h;cases h
  ·simp only [hv] at h|-;have:=zpQ h;exact ⟨this.1,by simp [this.2]⟩
  ·simp only [hv] at h|-;have:=zpQ h;exact ⟨this.1,by simp [this.2]⟩
theorem ztT :∀{l:List Rec},∀v∈(vws m e l).1,v.R∈l/\vw m v.R.Number v.R.Wire= .inr (v.Field,v.Run)
 | [],v,h=>by cases h
 | r::l,v,h=>by
  rw [vws] at h;rcases zeh m r.Number r.Wire with hv| ⟨hv,_⟩| ⟨i,run,hv,_⟩
  ·simp only [hv] at h;cases h
  all_goals
   simp only [hv] at h;rcases xj.1 h with rfl| h
   ·exact ⟨xf,hv⟩
   ·have:=ztT v h;exact ⟨xg _ this.1,this.2⟩
theorem zzW (h:v∈(zaD m b).1):v.R∈(spl 0 b).1/\vw m v.R.Number v.R.Wire= .inr (v.Field,v.Run):=by
 rcases znr m b with ⟨_,_,e,_⟩| ⟨_,e⟩
 ·rw [e] at h;exact ztT v h
 ·rw [e] at h;cases h
theorem zrn (t:zak):ziq t=some (zdQ t.Number t.Wire):=by
 have e:zez t.Wire=some (decide (t.Wire=0\/t.Wire=1\/t.Wire=2\/t.Wire=5)):=by
  unfold zez;by_cases h0:t.Wire=0
  ·simp [h0]
  by_cases h1:t.Wire=1
  ·simp [h1]
  by_cases h2:t.Wire=2
  ·simp [h2]
  by_cases h5:t.Wire=5
  ·simp [h5]
  simp [h0,h1,h2,h5]
 unfold ziq zdQ;rw [e];by_cases h1:1<=t.Number
 ·by_cases h2:t.Number<=536870911
  ·rw [itT (by simpa using h1),itT (by simpa using h2),sb,sb];simp [h1,h2]
  ·rw [itT (by simpa using h1),itF (by simpa using h2),sb];simp [h2]
 ·rw [itF (by simpa using h1),sb];simp [h1]
theorem zBH (w:Nat) (h:w<18446744073709551616):andI .u64 (w:Int) 7=((w%8:Nat):Int):=by
 have e:=zsz (k:= .u64) rfl (a:=w) (b:=7) (by simpa [IntKind.bits] using h) (by simp [IntKind.bits]);have e2:w&&&7=w%8:=pq w 3;rw [e2] at e;exact e
theorem zBY (w:Nat):shrI .u64 (w:Int) 3=((w/8:Nat):Int):=zpD (k:= .u64) (a:=w) (b:=3) (by simp [IntKind.bits])
theorem zyK (b:List UInt8):zkh b=some ((⟨(tg b).1,(tg b).2.1⟩:zak),(tg b).2.2.1,(tg b).2.2.2):=by
 obtain ⟨h1,h2,h3,h4,h5,h6,h7⟩:=zfG b;unfold zkh tg;rw [zrY,sb];by_cases h:(rd b).2.2=0
 ·rw [itF (by simpa using h)];obtain ⟨w,hw⟩:∃w:Nat,(rd b).1=w:=⟨(rd b).1.toNat,by omega⟩;rw [hw] at h2|-;rw [zBY,zBH w (by omega)];have e0:i64.wrap ((w%8:Nat):Int)=(w:Int)%8:=by rw [px];omega
  by_cases hg:4294967295<w
  ·have e1:i64.wrap (if (536870912:Int)<((w/8:Nat):Int) then 536870912 else ((w/8:Nat):Int))=536870912:=by
    split
    ·rfl
    ·rw [px];omega
   rw [e0,e1,zrn,sb];have e2:zdQ 536870912 ((w:Int)%8)=false:=by simp [zdQ]
   simp only [e2];rw [pt,zki h (.inl (by rw [hw];omega))]
  ·have e1:i64.wrap (if (536870912:Int)<((w/8:Nat):Int) then 536870912 else ((w/8:Nat):Int))=(w:Int)/8:=by
    rw [xd (by omega),px];omega
   rw [e0,e1,zrn,sb];simp only;cases ht:zdQ ((w:Int)/8) ((w:Int)%8)
   ·rw [pt,zki h (.inr (by rw [hw];exact ht))]
   ·rw [pu,zuX h (by rw [hw,ht];simp;omega),hw]
 ·rw [itT (by simpa using h),zso h]
theorem zzS (hw:w=0\/w=1\/w=2\/w=5) (hb:b.length<=1048576):
  zgd w b=some (match zcl w 0 b with| .inl c=>(0,(if w=0 then (rd b).2.1 else 0),c)| .inr (a,t)=>((a:Int),(t:Int),0)):=by
 obtain ⟨h1,h2,h3,h4,h5,h6,h7⟩:=zfG b;unfold zgd zcl;rcases hw with rfl| rfl| rfl| rfl
 ·rw [pt,zwb,sb,xe rfl];by_cases h:(rd b).2.2=0
  ·rw [xd (by simpa using h)];simp only [h,xL];congr 3;simp;omega
  ·rw [xe h];rfl
 ·rw [pu,pt,sb,pu,xd (show ¬((1:Int)=0) by omega),xd (show ¬((1:Int)=2) by omega)];simp only;have e:u64.wrap (i64.wrap ((b.length:Int) - 0))=(b.length:Int):=by rw [px,zgj];omega
  rw [e];by_cases g:b.length<8
  ·rw [pv,xe (by simpa using g)];rfl
  ·rw [pw,xd (by simpa using g)];rfl
 ·rw [pu,pu,pu,pt,zrY,sb,sb,xd (show ¬((2:Int)=0) by omega),xe (show (2:Int)=2 from rfl)];by_cases h:(rd b).2.2=0
  ·have hk:=h7 h;rw [itF (by simpa using h),xd (show ¬((rd b).2.2≠0) from fun g=>g h)];simp only;have e:u64.wrap (i64.wrap ((b.length:Int) - (rd b).2.1))=(b.length:Int) - (rd b).2.1:=by rw [px,zgj];omega
   rw [e];by_cases g:(b.length:Int) - (rd b).2.1<(rd b).1
   ·rw [itT (by simpa using g),xe g];rfl
   ·rw [itF (by simpa using g),xd g,zp (x:=(rd b).1) (by omega),px];simp;omega
  ·rw [itT (by simpa using h),xe h];rfl
 ·rw [pu,pu,pt,sb,pu,xd (show ¬((5:Int)=0) by omega),xd (show ¬((5:Int)=2) by omega)];simp only;have e:u64.wrap (i64.wrap ((b.length:Int) - 0))=(b.length:Int):=by rw [px,zgj];omega
  rw [e];by_cases g:b.length<4
  ·rw [pv,xe (by simpa using g)];rfl
  ·rw [pw,xd (by simpa using g)];rfl
theorem zsC (w:Int) (k:Nat) (m:List UInt8):zcl w k m=match zcl w 0 m with| .inl c=> .inl c| .inr (a,t)=> .inr (k+a,k+t):=by
 unfold zcl
 repeat' split
 all_goals first
  | rfl
  | (rename_i h1 h2;injection h2 with h3;injection h3 with h4 h5;subst h4 h5;simp<;>omega)
  | simp_all<;>omega
theorem zvQ (hb:b.length<=1048576) (at5:Int):zeM b at5=some (zcj b at5):=by
 unfold zeM zcj;by_cases h:at5<0\/at5>=b.length
 ·rw [itT (by simpa using h),xe h];rfl
 ·rw [itF (by simpa using h),xd h];obtain ⟨p,rfl⟩:∃p:Nat,at5=p:=⟨at5.toNat,by omega⟩;rw [zlI rfl rfl (by omega),sb,zyK,sb,xw];have hdl:(b.drop p).length=b.length - p:=by simp
  rcases zpK (b.drop p) with ⟨c,ht,hc⟩| ⟨n,w,k,ht,hr,k1,k2,k3,hrd⟩
  ·have e:rec5 (b.drop p)= .inl c:=by unfold rec5;rw [ht,xe (by simp only;omega)]
   rw [e,ht,pv];rfl
  ·obtain ⟨k,rfl⟩:∃j:Nat,k=j:=⟨k.toNat,by omega⟩
   have e:rec5 (b.drop p)=match zcl w k ((b.drop p).drop k) with
    | .inl c=> .inl c
    | .inr p=> .inr (n,w,p.1,p.2):=by unfold rec5;rw [ht];simp<;>rfl
   have hdd:(b.drop p).drop k=b.drop (p+k):=by rw [xP]
   have hml:(b.drop (p+k)).length=b.length - (p+k):=by simp
   have ew:i64.wrap ((p:Int)+k)=((p+k:Nat):Int):=by rw [px];push_cast;rfl
   rw [e,ht,itF (by simp),hdd];simp only [ew];rw [zlI rfl rfl (by omega),sb,zzS (zpJ.1 hr).2.2 (by omega),sb,zsC w k];rcases zjx w 0 (b.drop (p+k)) with ⟨c,hc,hc2⟩| ⟨a,t,hc,_,_,hle,_⟩
   ·rw [hc];simp only;rw [pv];rfl
   ·rw [hc];simp only;rw [pu,px,px];simp only [xF,xS,zh.mk.injEq,qi,qe];push_cast;omega
end Go.Proofs.YtnckiilakdkklaaGreat
