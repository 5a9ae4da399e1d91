/-
  What the plain functions are. No condition.
-/
import Derived.Test.YtekgmimingolbaaGreatx1S1
import Derived.Test.YtekgmimingolbaaGreatx1K2
import Derived.Test.YtekgmimingolbaaGreatx1K3
set_option autoImplicit true
set_option relaxedAutoImplicit true
namespace Go.Proofs.YtekgmimingolbaaGreat
open Go
set_option linter.unusedVariables false
theorem zBz (w:Int):zkU w=some (w%4294967296):=by unfold zkU;rw [zCt]
theorem zFJ (w:Int):zlp w=some (sgnS w):=by
 unfold zlp;rw [zBz,sb,zGc];unfold sgnS;congr 1;split<;>split<;>omega
theorem zGb (h: -2147483648<=n/\n<=2147483647):zlq n=some (zvy n):=by
 unfold zlq;rw [uV,zjX];unfold zvy;congr 1;split<;>omega
theorem zDx (h:0<=w/\w<=18446744073709551615):zgi w=some (sgnS w):=by
 unfold zgi;rw [yT h.1,zx (x:=w%4294967296) (by omega)];unfold sgnS;by_cases h2:w%4294967296<2147483648
 ·rw [uU,xw h2]
 ·rw [uT,xu h2,uV]
theorem zHX (h: -9223372036854775808<=n/\n<=9223372036854775807):zhd n=some (zvy n):=by
 unfold zhd zvy;by_cases h0:0<=n
 ·rw [uT,xw h0,zjX,pq (by omega) (by omega)]
 ·rw [uU,xu h0];simp (disch:=omega) only [zx,zjX];congr 1;omega
def zfz (k:Int):Bool:=decide (1<=k/\k<=17)
def kNum (k:Int):Bool:=decide (1<=k/\k<=14)
def zyL (k:Int):Int:=if 15<=k then 2 else if 12<=k then 1 else if 9<=k then 5 else 0
def zjD (k w:Int):Int:=
 if k=1\/k=8 then zvy (sgnS w) else if k=3\/k=5\/k=9\/k=10\/k=11 then w%4294967296 else if k=7 then (if 0<w then 1 else 0) else w
theorem ztU (k:Int):zcV k=some (zfz k):=by unfold zcV zfz;simp [Bool.decide_and]
theorem zxw (k:Int):zdJ k=some (kNum k):=by unfold zdJ kNum;simp [Bool.decide_and]
theorem zBM (k:Int) (h:0<=w/\w<=18446744073709551615):zgD k w=some (zjD k w):=by
 have hs:=zDy w;unfold zgD zjD;by_cases h1:k=1\/k=8
 ·rw [xw h1];have e:(if (k==1)=true then some (k==1) else some (k==8))=some true:=by rcases h1 with rfl| rfl<;>rfl
  rw [e,sb,itT rfl,zDx h,sb,zHX (by omega),sb]
 ·rw [xu h1];have e:(if (k==1)=true then some (k==1) else some (k==8))=some false:=by rw [uU];simp;omega
  rw [e,sb,itF rfl];by_cases h2:k=3\/k=5\/k=9\/k=10\/k=11
  ·rw [xw h2];have e2:(if (k==3)=true then some (k==3) else if (k==5)=true then some (k==5) else if (k==9)=true then some (k==9) else if (k==10)=true then some (k==10) else some (k==11))=some true:=by
    rcases h2 with rfl| rfl| rfl| rfl| rfl<;>rfl
   rw [e2,sb,itT rfl,yT h.1]
  ·rw [xu h2];have e2:(if (k==3)=true then some (k==3) else if (k==5)=true then some (k==5) else if (k==9)=true then some (k==9) else if (k==10)=true then some (k==10) else some (k==11))=some false:=by
    rw [uU,uU,uU,uU];simp;omega
   rw [e2,sb,itF rfl];by_cases h7:k=7
   ·rw [itT (by simpa using h7),xw h7];by_cases h0:0<w
    ·rw [itT (by simpa using h0),xw h0]
    ·rw [itF (by simpa using h0),xu h0]
   ·rw [itF (by simpa using h7),xu h7]
theorem zGq (k:Int) (h:0<=w/\w<=18446744073709551615):0<=zjD k w/\zjD k w<=18446744073709551615:=by
 have hs:=zDy w;unfold zjD;split
 ·exact zJt (by omega)
 ·split
  ·omega
  ·split
   ·split<;>omega
   ·exact h
abbrev Fld:=ze
abbrev Mes:=zf
def zkD {α:Type} (p:α->Bool) (l:List α):Int:=match l.findIdx? p with
 | some i=>(i:Int)
 | none=> -1
theorem zkp {α:Type} {p:α->Bool} {l:List α} (h:l.findIdx? p=none):zkD p l= -1:=by unfold zkD;rw [h]
theorem zkq {α:Type} {p:α->Bool} {l:List α} {i:Nat} (h:l.findIdx? p=some i):zkD p l=(i:Int):=by unfold zkD;rw [h]
theorem zrN {α:Type} (p:α->Bool) (l:List α) (F:Int->Option (Unit⊕Int)) (h0:F (l.length:Int)=some (.inl ())) (hs:∀(i:Nat) (h:i<l.length),F (i:Int)=if p l[i] then some (.inr (i:Int)) else F ((i+1:Nat):Int)):
  ∀(d i:Nat),i+d=l.length->(∀j (h:j<l.length),j<i->p l[j]=false)->F (i:Int)=some (match l.findIdx? p with| some k=> .inr (k:Int)| none=> .inl ()):=by
 intro d
 induction d with
 | zero=>
  intro i hi hj;have:i=l.length:=by omega
  subst this;have hn:l.findIdx? p=none:=by
   rw [pt];intro x hx;obtain ⟨j,hj',rfl⟩:=qg hx;exact hj j hj' hj'
  rw [h0,hn]
 | succ d ih=>
  intro i hi hj;have hil:i<l.length:=by omega
  rw [hs i hil];by_cases hp:p l[i]=true
  ·have hf:l.findIdx? p=some i:=by
    rw [pu];exact ⟨hil,hp,fun j hji=>by simpa using hj j (by omega) hji⟩
   rw [xw hp,hf]
  ·rw [xu hp];refine ih (i+1) (by omega) fun j h hji=>?_
   by_cases e:j=i
   ·subst e;simpa using hp
   ·exact hj j h (by omega)
def fldI (m:Mes) (number:Int):Int:=zkD (fun f:Fld=>f.Number==number) m.Fields
theorem zrm (hm:m.Fields.length<=1152921504606846976) (number:Int):zej m number=some (fldI m number):=by
 unfold zej fldI;have h:=zrN (fun f:Fld=>f.Number==number) m.Fields (fun i=>zdR m number i) (by
   refine zjv ?_;unfold zaZ;rw [itF (by simp)])
  (fun i hi=>by
   have hb:zaZ m number i=if ((m.Fields[i]).Number==number)=true then some (.inr (.inr (i:Int))) else some (.inl ((i+1:Nat):Int)):=by
    unfold zaZ;rw [uT,zP rfl hi,sb,uV];rfl
   by_cases hp:((m.Fields[i]).Number==number)=true
   ·rw [xw hp] at hb|-;exact zjv hb
   ·rw [xu hp] at hb|-;exact zno hb)
  m.Fields.length 0 (by omega) (fun j _ hj=>by omega)
 have h':zdR m number 0=_:=h;rw [h',sb];unfold zkD;cases m.Fields.findIdx? (fun f:Fld=>f.Number==number)<;>rfl
def nmc (i:Nat) (c:UInt8):Bool:=decide (65<=c.toNat/\c.toNat<=90\/97<=c.toNat/\c.toNat<=122\/c.toNat=95\/0<i/\48<=c.toNat/\c.toNat<=57)
def nmA:Nat->List UInt8->Bool
 | _,[]=>true
 | i,c::l=>nmc i c&&nmA (i+1) l
def zgV (s:List UInt8):Bool:=nmA 0 s&&decide (1<=s.length/\s.length<=60)
theorem zde {α:Type} {l t:List α} {x:α} {k:Nat} (h:l.drop k=x::t):∃hk:k<l.length,l[k]=x/\l.drop (k+1)=t:=by
 have hk:k<l.length:=by
  rcases qd k l.length with h'| h'
  ·exact h'
  ·rw [yb h'] at h;cases h
 rw [xQ hk] at h;injection h with h1 h2;exact ⟨hk,h1,h2⟩
theorem zdW {α:Type} {l:List α} {k:Nat} (h:l.drop k=[]):l.length<=k:=by have:=congrArg List.length h;simp at this;omega
theorem zFy (s:List UInt8) (hs:s.length<=1152921504606846976):∀(l:List UInt8) (i:Nat),s.drop i=l->zeu s i=some (if nmA i l=true then .inl () else .inr ()):=by
 intro l
 induction l with
 | nil=>
  intro i hd;have:=zdW hd;refine zjN ?_;unfold zbq;rw [uU];rfl
 | cons c l ih=>
  intro i hd;obtain ⟨hk,hx,hd'⟩:=zde hd;have hb:zbq s i=if nmc i c=true then some (.inl ((i+1:Nat):Int)) else some (.inr (.inr ())):=by
   unfold zbq;rw [uT,zP rfl hk,sb,hx,uV];have e:(if (decide ((c.toNat:Int)>=65)) then ((decide ((c.toNat:Int)<=90))|| (if (decide ((c.toNat:Int)>=97)) then ((decide ((c.toNat:Int)<=122))|| (((c.toNat:Int)==95)|| ((decide ((i:Int)>0))&&((decide ((c.toNat:Int)>=48))&&(decide ((c.toNat:Int)<=57)))))) else (((c.toNat:Int)==95)|| ((decide ((i:Int)>0))&&((decide ((c.toNat:Int)>=48))&&(decide ((c.toNat:Int)<=57))))))) else (if (decide ((c.toNat:Int)>=97)) then ((decide ((c.toNat:Int)<=122))|| (((c.toNat:Int)==95)|| ((decide ((i:Int)>0))&&((decide ((c.toNat:Int)>=48))&&(decide ((c.toNat:Int)<=57)))))) else (((c.toNat:Int)==95)|| ((decide ((i:Int)>0))&&((decide ((c.toNat:Int)>=48))&&(decide ((c.toNat:Int)<=57)))))))=nmc i c:=by
    have e95:((c.toNat:Int)==95)=decide (c.toNat=95):=zvK _ 95;have a1:decide ((c.toNat:Int)>=65)=decide (65<=c.toNat):=qt.2 (by omega);have a2:decide ((c.toNat:Int)<=90)=decide (c.toNat<=90):=qt.2 (by omega);have a3:decide ((c.toNat:Int)>=97)=decide (97<=c.toNat):=qt.2 (by omega);have a4:decide ((c.toNat:Int)<=122)=decide (c.toNat<=122):=qt.2 (by omega);have a5:decide ((i:Int)>0)=decide (0<i):=qt.2 (by omega);have a6:decide ((c.toNat:Int)>=48)=decide (48<=c.toNat):=qt.2 (by omega);have a7:decide ((c.toNat:Int)<=57)=decide (c.toNat<=57):=qt.2 (by omega);rw [e95,a1,a2,a3,a4,a5,a6,a7];simp only [nmc,Bool.decide_or,Bool.decide_and]
    generalize decide (65<=c.toNat)=p1
    generalize decide (c.toNat<=90)=p2
    generalize decide (97<=c.toNat)=p3
    generalize decide (c.toNat<=122)=p4
    generalize decide (c.toNat=95)=p5
    generalize decide (0<i)=p6
    generalize decide (48<=c.toNat)=p7
    generalize decide (c.toNat<=57)=p8
    cases p1<;>cases p2<;>cases p3<;>cases p4<;>cases p5<;>cases p6<;>cases p7<;>cases p8<;>rfl
   rw [e];cases nmc i c
   ·rw [itT (by rfl)];rfl
   ·rw [itF (by rfl)];push_cast;rfl
  rw [nmA];cases hc:nmc i c
  ·rw [hc,xu (by simp)] at hb;rw [zjN hb];rfl
  ·rw [hc,xw rfl] at hb;rw [zoa hb,ih _ hd',xR]
theorem zxy (hs:s.length<=1152921504606846976):zfR s=some (zgV s):=by
 unfold zfR zgV;have h:=zFy s hs s 0 rfl;have h':zeu s 0=_:=h;rw [h',sb];cases nmA 0 s
 ·rfl
 ·simp [Bool.decide_and];rw [yK];simp;omega
def zee (n:Int) (prev:List Fld) (f:Fld):Int:=
 if zgV f.Name=false then 5 else if prev.any (fun g=>g.Name==f.Name)=true then 6
 else if f.Number<1\/f.Number>536870911\/(19000<=f.Number/\f.Number<20000) then 7
 else if prev.any (fun g=>g.Number==f.Number)=true then 8 else if zfz f.Kind=false then 9
 else if f.Packed=true/\¬(f.Repeated=true/\kNum f.Kind=true) then 10
 else if f.Kind=17/\(f.Of<0\/f.Of>=n)\/f.Kind≠17/\f.Of≠0 then 11 else 0
theorem zwD (n:Int) (prev:List Fld) (f:Fld):0<=zee n prev f/\zee n prev f<=11:=by
 unfold zee
 repeat' split
 all_goals omega
theorem zCT {s:List Mes} {i k:Nat} {m:Mes} (hi:∃h:i<s.length,s[i]=m) (hk:k<=m.Fields.length) (hb:m.Fields.length<=1152921504606846976) (f:Fld):
  ∀(l:List Fld) (j:Nat) (a b:Bool),(m.Fields.take k).drop j=l->j<=k->zdQ i k s f a b j=some (a|| l.any (fun g=>g.Name==f.Name),b|| l.any (fun g=>g.Number==f.Number)):=by
 obtain ⟨hi,hm⟩:=hi;intro l
 induction l with
 | nil=>
  intro j a b hd hj;have:=zdW hd;rw [xK] at this;refine znn ?_;unfold zbB;rw [uU];simp
 | cons g l ih=>
  intro j a b hd hj;obtain ⟨hjk,hx,hd'⟩:=zde hd;rw [xK] at hjk;rw [pP] at hx;refine (znm (name':=a|| (g.Name==f.Name)) (number':=b|| (g.Number==f.Number)) (j':=((j+1:Nat):Int)) ?_).trans ?_
  ·unfold zbB;have e1:idx s (i:Int)=some m:=by rw [zP rfl hi,hm]
   have e2:idx m.Fields (j:Int)=some g:=by rw [zP rfl (by omega),hx]
   rw [uT,e1,sb,e2,sb,uV];cases a<;>cases b<;>(simp only [qH,qI,yI,e2,sb,q6,pv];push_cast;rfl)
  ·rw [ih _ _ _ hd' (by omega),q8,q8,uu,uu]
theorem zBN {s:List Mes} {i k:Nat} {m:Mes} {f:Fld} (hi:∃h:i<s.length,s[i]=m) (hk:∃h:k<m.Fields.length,m.Fields[k]=f) (hb:m.Fields.length<=1152921504606846976) (hf:f.Name.length<=1152921504606846976):
  zgF s i k=some (zee s.length (m.Fields.take k) f):=by
 obtain ⟨hil,hm⟩:=hi;obtain ⟨hkl,hfe⟩:=hk;have e1:idx s (i:Int)=some m:=by rw [zP rfl hil,hm]
 have e2:idx m.Fields (k:Int)=some f:=by rw [zP rfl hkl,hfe]
 have h:=zCT ⟨hil,hm⟩ (Nat.le_of_lt hkl) hb f (m.Fields.take k) 0 false false rfl (xI _);have h':zdQ i k s f false false 0=_:=h;unfold zgF zee;rw [e1,sb,e2,sb,h',sb,zxy hf,sb];simp only [q6];cases h1:zgV f.Name
 ·rw [itT (by rfl),xw (show false=false from rfl)]
 ·rw [itF (by rfl),xu (show ¬(true=false) by simp)];cases h2:(m.Fields.take k).any (fun g=>g.Name==f.Name)
  ·rw [itF (by rfl),xu (show ¬(false=true) by simp)];by_cases h3:f.Number<1\/f.Number>536870911\/(19000<=f.Number/\f.Number<20000)
   ·rw [itT (by simpa using h3),xw h3]
   ·rw [uU,xu h3];cases h4:(m.Fields.take k).any (fun g=>g.Number==f.Number)
    ·rw [itF (by rfl),xu (show ¬(false=true) by simp),ztU,sb];cases h5:zfz f.Kind
     ·rw [itT (by rfl),xw (show false=false from rfl)]
     ·rw [itF (by rfl),xu (show ¬(true=false) by simp)];have e10:(if f.Packed=true then (if f.Repeated=true then (zdJ f.Kind>>=fun rv3=>some (!rv3)) else some (!false)) else some false)=some (decide (f.Packed=true/\¬(f.Repeated=true/\kNum f.Kind=true))):=by
       rw [zxw,sb];cases f.Packed<;>cases f.Repeated<;>cases kNum f.Kind<;>rfl
      rw [e10,sb];by_cases h6:f.Packed=true/\¬(f.Repeated=true/\kNum f.Kind=true)
      ·rw [itT (ya h6),xw h6]
      ·rw [itF (yd h6),xu h6];by_cases h7:f.Kind=17
       ·by_cases h8:f.Of<0\/f.Of>=(s.length:Int)
        ·rw [itT (by simp [h7];simpa using h8),xw (.inl ⟨h7,h8⟩)]
        ·rw [itF (by simp [h7];omega),xu (by simp [h7];omega)]
       ·by_cases h8:f.Of=0
        ·rw [itF (by simp [h7,h8]),xu (by simp [h7,h8])]
        ·rw [itT (by simp [h7,h8]),xw (.inr ⟨h7,h8⟩)]
    ·rw [itT (by rfl),xw (show true=true from rfl)]
  ·rw [itT (by rfl),xw (show true=true from rfl)]
def msgF (n:Int) (prev:List Fld):List Fld->Option (Nat×Int)
 | []=>none
 | f::l=>if 0<zee n prev f then some (prev.length,zee n prev f) else msgF n (prev++[f]) l
def chkF (n:Int) (prev:List Mes):List Mes->Option (Nat×Int×Int)
 | []=>none
 | m::l=>if zgV m.Name=false then some (prev.length, -1,2) else if prev.any (fun g=>g.Name==m.Name)=true then some (prev.length, -1,3)
  else if 200<m.Fields.length then some (prev.length, -1,4) else match msgF n [] m.Fields with
   | some (k,w)=>some (prev.length,(k:Int),w)
   | none=>chkF n (prev++[m]) l
def zkW (s:List Mes):Int×Int×Int:=if s.length=0\/100<s.length then (-1, -1,1) else match chkF s.length [] s with
 | none=>(0,0,0)
 | some (i,k,w)=>((i:Int),k,w)
def zgI (s:List Mes):Bool:=decide ((zkW s).2.2=0)
def WS (s:List Mes):Prop:=s.length<=140737488351232/\∀m∈s,m.Name.length<=140737488351232/\m.Fields.length<=140737488351232/\∀f∈m.Fields,f.Name.length<=140737488351232
theorem zAT {s:List Mes} {i:Nat} {m:Mes} (hi:∃h:i<s.length,s[i]=m) (hb:m.Fields.length<=140737488351232) (hn:∀f∈m.Fields,f.Name.length<=140737488351232):
  ∀(l:List Fld) (k:Nat),m.Fields.drop k=l->k<=m.Fields.length->zdP i s k=some (match msgF s.length (m.Fields.take k) l with| some (j,w)=> .inr ((j:Int),w)| none=> .inl ()):=by
 obtain ⟨hil,hm⟩:=hi;have e1:idx s (i:Int)=some m:=by rw [zP rfl hil,hm]
 intro l
 induction l with
 | nil=>
  intro k hd hk;have:=zdW hd;refine zju ?_;unfold zaY;rw [e1,sb,uU];rfl
 | cons f l ih=>
  intro k hd hk;obtain ⟨hkl,hx,hd'⟩:=zde hd;have hf:=zBN (s:=s) (i:=i) (k:=k) (m:=m) (f:=f) ⟨hil,hm⟩ ⟨hkl,hx⟩ (by omega) (by have:=hn f (by rw [<-hx];exact xC hkl);omega);have hbd:=zwD s.length (m.Fields.take k) f;have htl:(m.Fields.take k).length=k:=by rw [xK];omega
  rw [msgF];by_cases h0:0<zee s.length (m.Fields.take k) f
  ·rw [xw h0];refine zju ?_;unfold zaY;rw [e1,sb,uT,hf,sb,itT (by simpa using h0)];simp only [htl]
  ·rw [xu h0];refine (znl (k2':=((k+1:Nat):Int)) ?_).trans ?_
   ·unfold zaY;rw [e1,sb,uT,hf,sb,uU,uV];push_cast;rfl
   ·rw [ih (k+1) hd' (by omega),yA hkl,hx]
theorem zAS (hi:∃h:i<s.length,s[i]=m) (hs:s.length<=140737488351232):
  ∀(l:List Mes) (k:Nat) (a:Bool),(s.take i).drop k=l->k<=i->zdO i s a k=some (a|| l.any (fun g=>g.Name==m.Name)):=by
 obtain ⟨hil,hm⟩:=hi;intro l
 induction l with
 | nil=>
  intro k a hd hk;have:=zdW hd;rw [xK] at this;refine znk ?_;unfold zbA;rw [uU];simp
 | cons g l ih=>
  intro k a hd hk;obtain ⟨hkl,hx,hd'⟩:=zde hd;rw [xK] at hkl;rw [pP] at hx;refine (znj (twice':=a|| (g.Name==m.Name)) (k':=((k+1:Nat):Int)) ?_).trans ?_
  ·unfold zbA;have e1:idx s (i:Int)=some m:=by rw [zP rfl hil,hm]
   have e2:idx s (k:Int)=some g:=by rw [zP rfl (by omega),hx]
   rw [uT,e1,e2,sb,sb,uV];cases a<;>(simp only [qH,qI,yI,sb,q6,pv];push_cast;rfl)
  ·rw [ih _ _ hd' (by omega),q8,uu]
theorem zAR (hw:WS s):∀(l:List Mes) (i:Nat),s.drop i=l->i<=s.length->zdN s i=some (match chkF s.length (s.take i) l with| some (j,k,w)=> .inr ((j:Int),k,w)| none=> .inl ()):=by
 intro l
 induction l with
 | nil=>
  intro i hd hi;have:=zdW hd;refine zdD ?_;unfold zaX;rw [uU];rfl
 | cons m l ih=>
  intro i hd hi;obtain ⟨hil,hx,hd'⟩:=zde hd;obtain ⟨hsl,hwm⟩:=hw;obtain ⟨w1,w2,w3⟩:=hwm m (by rw [<-hx];exact xC hil);have htl:(s.take i).length=i:=by rw [xK];omega
  have e1:idx s (i:Int)=some m:=by rw [zP rfl hil,hx]
  have h2:=zAS ⟨hil,hx⟩ hsl (s.take i) 0 false rfl (xI _);have h2':zdO i s false 0=_:=h2;have h3:=zAT ⟨hil,hx⟩ w2 w3 m.Fields 0 rfl (xI _);have h3':zdP i s 0=_:=h3
  have hb:zaX s i=(if zgV m.Name=false then some (.inr (.inr ((i:Int), -1,2))) else if (s.take i).any (fun g=>g.Name==m.Name)=true then some (.inr (.inr ((i:Int), -1,3)))
    else if 200<m.Fields.length then some (.inr (.inr ((i:Int), -1,4))) else match msgF s.length [] m.Fields with
     | some (k,w)=>some (.inr (.inr ((i:Int),(k:Int),w)))
     | none=>some (.inl ((i+1:Nat):Int))):=by
   unfold zaX;rw [uT,h2',sb,e1,sb,zxy (by omega),sb,sb,h3',sb,q6];cases h4:zgV m.Name
   ·rw [itT (by rfl),xw (show false=false from rfl)]
   ·rw [itF (by rfl),xu (show ¬(true=false) by simp)];cases h5:(s.take i).any (fun g=>g.Name==m.Name)
    ·rw [itF (by rfl),xu (show ¬(false=true) by simp)];by_cases h6:200<m.Fields.length
     ·rw [uT,xw h6]
     ·rw [uU,xu h6,yJ];cases msgF s.length [] m.Fields with
      | none=>simp only;rw [uV];push_cast;rfl
      | some p=>rfl
    ·rw [itT (by rfl),xw (show true=true from rfl)]
  rw [chkF];by_cases h4:zgV m.Name=false
  ·rw [xw h4] at hb|-;rw [zdD hb];simp only [htl]
  ·rw [xu h4] at hb|-;by_cases h5:(s.take i).any (fun g=>g.Name==m.Name)=true
   ·rw [xw h5] at hb|-;rw [zdD hb];simp only [htl]
   ·rw [xu h5] at hb|-;by_cases h6:200<m.Fields.length
    ·rw [xw h6] at hb|-;rw [zdD hb];simp only [htl]
    ·rw [xu h6] at hb|-;cases h7:msgF s.length [] m.Fields with
     | some p=>
      rw [h7] at hb;rw [zdD hb];simp only [htl]
     | none=>
      rw [h7] at hb;rw [zni hb,ih _ hd' (by omega),yA hil,hx]
theorem zye (hw:WS s):zgE s=some (zkW s):=by
 unfold zgE zkW;by_cases h:s.length=0\/100<s.length
 ·have e0:((s.length:Int)==0)=decide (s.length=0):=zvK _ 0;rw [e0,itT (by simp only [qk,xS];omega),xw h]
 ·have e0:((s.length:Int)==0)=decide (s.length=0):=zvK _ 0;rw [e0,itF (by simp only [qj,qJ];omega),xu h];have h1:=zAR hw s 0 rfl (xI _);have h1':zdN s 0=_:=h1;rw [h1',sb,yJ];cases chkF s.length [] s with
  | none=>rfl
  | some p=>rfl
theorem zyf (hw:WS s):zgG s=some (zgI s):=by
 unfold zgG zgI;rw [zye hw,sb];rfl
theorem zuM :∀(l prev:List Fld),msgF n prev l=none↔∀(k:Nat) (f:Fld),l[k]? =some f->zee n (prev++l.take k) f=0
 | [],prev=>by simp [msgF]
 | f::l,prev=>by
  have hb:=zwD n prev f;rw [msgF];by_cases h:0<zee n prev f
  ·rw [xw h];refine ⟨(fun h'=>nomatch h'),fun h'=>?_⟩;have:=h' 0 f rfl;simp at this;omega
  ·rw [xu h,zuM l (prev++[f])];constructor
   ·intro h' k g hg;cases k with
    | zero=>simp at hg;subst hg;simp;omega
    | succ k=>have:=h' k g (by simpa using hg);simpa using this
   ·intro h' k g hg;have:=h' (k+1) g (by simpa using hg);simpa using this
theorem zyx :∀(l prev:List Mes),chkF n prev l=none↔∀(i:Nat) (m:Mes),l[i]? =some m->zgV m.Name=true/\(prev++l.take i).any (fun g=>g.Name==m.Name)=false/\m.Fields.length<=200/\msgF n [] m.Fields=none
 | [],prev=>by simp [chkF]
 | m::l,prev=>by
  rw [chkF];by_cases h1:zgV m.Name=false
  ·rw [xw h1];refine ⟨(fun h'=>nomatch h'),fun h'=>?_⟩;have:=(h' 0 m rfl).1;rw [h1] at this;cases this
  ·rw [xu h1];by_cases h2:prev.any (fun g=>g.Name==m.Name)=true
   ·rw [xw h2];refine ⟨(fun h'=>nomatch h'),fun h'=>?_⟩;have:=(h' 0 m rfl).2.1;simp only [yJ,yX] at this;rw [h2] at this;cases this
   ·rw [xu h2];by_cases h3:200<m.Fields.length
    ·rw [xw h3];refine ⟨(fun h'=>nomatch h'),fun h'=>?_⟩;have:=(h' 0 m rfl).2.2.1;omega
    ·rw [xu h3];cases h4:msgF n [] m.Fields with
     | some p=>
      refine ⟨(fun h'=>nomatch h'),fun h'=>?_⟩;have:=(h' 0 m rfl).2.2.2;rw [h4] at this;cases this
     | none=>
      simp only;rw [zyx l (prev++[m])];constructor
      ·intro h' i g hg;cases i with
       | zero=>simp at hg;subst hg;exact ⟨by simpa using h1,by simpa using h2,by omega,h4⟩
       | succ i=>have:=h' i g (by simpa using hg);simpa using this
      ·intro h' i g hg;have:=h' (i+1) g (by simpa using hg);simpa using this
theorem zJd:∀(n:Int) (l prev:List Fld) (k:Nat) (w:Int),msgF n prev l=some (k,w)->0<w:=by
 intro n l
 induction l with
 | nil=>intro prev k w h;cases h
 | cons f l ih=>
  intro prev k w h;rw [msgF] at h;split at h
  ·cases h;assumption
  ·exact ih _ _ _ h
theorem zDQ:∀(n:Int) (l prev:List Mes) (i:Nat) (k w:Int),chkF n prev l=some (i,k,w)->0<w:=by
 intro n l
 induction l with
 | nil=>intro prev i k w h;cases h
 | cons m l ih=>
  intro prev i k w h;rw [chkF] at h;split at h
  ·cases h;omega
  ·split at h
   ·cases h;omega
   ·split at h
    ·cases h;omega
    ·split at h
     ·rename_i k' w' h';cases h;exact zJd _ _ _ _ _ h'
     ·exact ih _ _ _ _ h
structure zJx (n:Int) (f:Fld):Prop where
 name:zgV f.Name=true
 lo:1<=f.Number
 hi:f.Number<=536870911
 kind:zfz f.Kind=true
 packed:f.Packed=true->f.Repeated=true/\kNum f.Kind=true
 sub:f.Kind=17->0<=f.Of/\f.Of<n
 noSub:f.Kind≠17->f.Of=0
theorem zwE (h:zee n prev f=0):zJx n f/\prev.any (fun g=>g.Name==f.Name)=false/\prev.any (fun g=>g.Number==f.Number)=false:=by
 unfold zee at h;split at h
 ·omega
 ·rename_i h1;split at h
  ·omega
  ·rename_i h2;split at h
   ·omega
   ·rename_i h3;split at h
    ·omega
    ·rename_i h4;split at h
     ·omega
     ·rename_i h5;split at h
      ·omega
      ·rename_i h6;split at h
       ·omega
       ·rename_i h7;refine ⟨⟨by simpa using h1,by omega,by omega,by simpa using h5,fun hp=>?_,fun hk=>by omega,fun hk=>by omega⟩,by simpa using h2,by simpa using h4⟩;by_cases hq:f.Repeated=true/\kNum f.Kind=true
        ·exact hq
        ·exact absurd ⟨hp,hq⟩ h6
structure zlQ (s:List Mes):Prop where
 len:1<=s.length/\s.length<=100
 name:∀m∈s,zgV m.Name=true
 names:∀(i j:Nat) (a b:Mes),i<j->s[i]? =some a->s[j]? =some b->a.Name≠b.Name
 few:∀m∈s,m.Fields.length<=200
 fld:∀m∈s,∀f∈m.Fields,zJx s.length f
 nums:∀m∈s,∀(i j:Nat) (f g:Fld),i<j->m.Fields[i]? =some f->m.Fields[j]? =some g->f.Number≠g.Number/\f.Name≠g.Name
theorem zuw {α:Type} {l:List α} {p:α->Bool} (h:l.any p=false) {x:α} (hx:x∈l):p x=false:=by
 rw [uv] at h;simpa using h x hx
theorem zzg {s:List Mes} (h:zgI s=true):zlQ s:=by
 have h0:(zkW s).2.2=0:=by simpa [zgI] using h
 have h1:¬(s.length=0\/100<s.length):=fun hh=>by unfold zkW at h0;rw [xw hh] at h0;simp at h0
 have h2:chkF s.length [] s=none:=by
  cases h4:chkF s.length [] s with
  | none=>rfl
  | some p=>
   exfalso;obtain ⟨i,k,w⟩:=p;have h5:(zkW s).2.2=w:=by unfold zkW;rw [xu h1,h4]
   have:=zDQ _ _ _ _ _ _ h4;omega
 have h3:=(zyx s []).1 h2;have at':∀m∈s,zgV m.Name=true/\m.Fields.length<=200/\msgF s.length [] m.Fields=none:=fun m hm=>by
  obtain ⟨i,hi,rfl⟩:=qg hm;have:=h3 i _ (xH hi);exact ⟨this.1,this.2.2.1,this.2.2.2⟩
 refine ⟨by omega,fun m hm=>(at' m hm).1,fun i j a b hij ha hb=>?_,fun m hm=>(at' m hm).2.1,fun m hm f hf=>?_,fun m hm i j f g hij hf hg=>?_⟩
 ·have:=(h3 j b hb).2.1;have hai:a∈([]++s.take j:List Mes):=by
   rw [yc];exact yR (i:=i) (by rw [yk,xw hij];exact ha)
  simpa using zuw this hai
 ·have h4:=(zuM m.Fields []).1 (at' m hm).2.2;obtain ⟨i,hi,rfl⟩:=qg hf;exact (zwE (h4 i _ (xH hi))).1
 ·have h4:=(zuM m.Fields []).1 (at' m hm).2.2;obtain ⟨_,k1,k2⟩:=zwE (h4 j g hg);have hai:f∈([]++m.Fields.take j:List Fld):=by
   rw [yc];exact yR (i:=i) (by rw [yk,xw hij];exact hf)
  exact ⟨by simpa using zuw k2 hai,by simpa using zuw k1 hai⟩
theorem zmW {α:Type} [DecidableEq α] (a b:List α) (F:Int->Option (Unit⊕Unit)) (hl:a.length=b.length) (h0:F (a.length:Int)=some (.inl ()))
  (hs:∀(i:Nat) (h:i<a.length) (h':i<b.length),F (i:Int)=if a[i]=b[i] then F ((i+1:Nat):Int) else some (.inr ())):
  ∀(d i:Nat),i+d=a.length->F (i:Int)=some (if a.drop i=b.drop i then .inl () else .inr ()):=by
 intro d
 induction d with
 | zero=>
  intro i hi;have e1:a.drop i=[]:=yb (by omega);have e2:b.drop i=[]:=yb (by omega);have:i=a.length:=by omega
  rw [e1,e2,xw rfl,this,h0]
 | succ d ih=>
  intro i hi;rw [hs i (by omega) (by omega),xQ (l:=a) (by omega),xQ (l:=b) (by omega)];by_cases h:a[i]'(by omega)=b[i]'(by omega)
  ·rw [xw h,ih (i+1) (by omega),h];simp only [yC,qu]
  ·rw [xu h,xu (fun e=>h (List.cons.inj e).1)]
theorem zFc {s:List Mes} {i:Nat} {m:Mes} (hi:∃h:i<s.length,s[i]=m) (hb:m.Fields.length<=140737488351232):∀(d k:Nat) (n:Int),k+d=m.Fields.length->∃r,zeZ i s n k=some r:=by
 obtain ⟨hil,hm⟩:=hi;have e1:idx s (i:Int)=some m:=by rw [zP rfl hil,hm]
 intro d
 induction d with
 | zero=>
  intro k n hk;refine ⟨n,zoF ?_⟩;unfold zce;rw [e1,sb,uU]
 | succ d ih=>
  intro k n hk;obtain ⟨r,hr⟩:=ih (k+1) (IntKind.i64.wrap (n+(IntKind.i64.wrap (Int.tdiv (((m.Fields[k]'(by omega)).Name.length:Int)) 100)))) (by omega);refine ⟨r,(zoE (k':=((k+1:Nat):Int)) ?_).trans hr⟩;unfold zce;rw [e1,sb,uT,sb,zP rfl (by omega),sb,zx (x:=(k:Int)+1) (by omega)];push_cast;rfl
theorem zJW {s:List Mes} (hw:WS s):∃b,zhF s=some b:=by
 obtain ⟨hs,hm⟩:=hw;have key:∀(d i:Nat) (n:Int),i+d=s.length->∃r,zeY s n i=some r:=by
  intro d
  induction d with
  | zero=>
   intro i n hi;refine ⟨n,zoD ?_⟩;unfold zcd;rw [uU]
  | succ d ih=>
   intro i n hi;have hil:i<s.length:=by omega
   obtain ⟨q,hq⟩:=zFc (s:=s) (i:=i) (m:=s[i]) ⟨hil,rfl⟩ (hm _ (xC hil)).2.1 (s[i]).Fields.length 0
    (IntKind.i64.wrap ((IntKind.i64.wrap ((IntKind.i64.wrap (n+1))+(IntKind.i64.wrap (Int.tdiv ((s[i]).Name.length:Int) 100))))+((s[i]).Fields.length:Int))) (by omega)
   have hq':zeZ i s (IntKind.i64.wrap ((IntKind.i64.wrap ((IntKind.i64.wrap (n+1))+(IntKind.i64.wrap (Int.tdiv ((s[i]).Name.length:Int) 100))))+((s[i]).Fields.length:Int))) 0=some q:=hq;obtain ⟨r,hr⟩:=ih (i+1) q (by omega);refine ⟨r,(zoC (i':=((i+1:Nat):Int)) ?_).trans hr⟩;unfold zcd;rw [uT,zP rfl hil,sb,sb,hq',sb,zx (x:=(i:Int)+1) (by omega)];push_cast;rfl
 obtain ⟨r,hr⟩:=key s.length 0 0 (by omega);have hr':zeY s 0 0=some r:=hr;exact ⟨_,by unfold zhF;rw [hr',sb]⟩
def zJG (m:Mes) (p:Int):Int:=(m.Fields.getD p.toNat ⟨[],0,0,false,false,0⟩).Number
def zGj (κ:Int->Int) (a b:Int):Prop:=κ a<κ b\/κ a=κ b/\a<b
def cpN (r:Nat):List Nat:=
 if r<128 then [r] else if r<2048 then [192+r/64,128+r%64]
 else if r<65536 then (if 55296<=r/\r<=57343 then [] else [224+r/4096,128+r/64%64,128+r%64])
 else if r<=1114111 then [240+r/262144,128+r/4096%64,128+r/64%64,128+r%64] else []
def cpB (r:Nat):List UInt8:=(cpN r).map UInt8.ofNat
def cont (c:UInt8):Bool:=decide (128<=c.toNat/\c.toNat<192)
def is1:List UInt8->Bool
 | a::_=>decide (a.toNat<128)
 | _=>false
def is2:List UInt8->Bool
 | a::b::_=>decide (194<=a.toNat/\a.toNat<224/\cont b=true)
 | _=>false
def is3:List UInt8->Bool
 | a::b::c::_=>decide (224<=a.toNat/\a.toNat<240/\cont b=true/\cont c=true/\(a.toNat=224->160<=b.toNat)/\(a.toNat=237->b.toNat<160))
 | _=>false
def is4:List UInt8->Bool
 | a::b::c::d::_=>decide (240<=a.toNat/\a.toNat<245/\cont b=true/\cont c=true/\cont d=true/\(a.toNat=240->144<=b.toNat)/\(a.toNat=244->b.toNat<144))
 | _=>false
def nxt (l:List UInt8):Nat:=if is1 l then 1 else if is2 l then 2 else if is3 l then 3 else if is4 l then 4 else 0
theorem ztO (h:n<256):(UInt8.ofNat n=c)↔n=c.toNat:=by
 constructor
 ·intro e;rw [<-e,UInt8.toNat_ofNat'];omega
 ·intro e;rw [e,UInt8.ofNat_toNat]
theorem zHS (r:Int):zhH r=some (if r<0 then [] else cpB r.toNat):=by
 unfold zhH;by_cases h0:r<0
 ·rw [uT,xw h0]
 ·rw [xu h0];obtain ⟨n,rfl⟩:∃n:Nat,r=n:=⟨r.toNat,by omega⟩;rw [yp];unfold cpB cpN;by_cases h1:n<128
  ·rw [uU,uT,xw h1,zwg,ziB (n:=n) (by omega) (by omega)];rfl
  ·rw [xu h1];by_cases h2:n<2048
   ·rw [uU,uU,uT,xw h2];simp only [pQ (show (0:Int)<=n by omega),yT (show (0:Int)<=n by omega),zwg];rw [zx (x:=(n:Int)/64) (by omega),uV,uV,ziB (n:=192+n/64) (by omega) (by omega),sb,ziB (n:=128+n%64) (by omega) (by omega)];rfl
   ·rw [xu h2];by_cases h3:n<65536
    ·rw [xw h3];by_cases h4:55296<=n/\n<=57343
     ·rw [uT,xw h4];rfl
     ·rw [uU,uU,uU,uT,xu h4];simp only [pQ (show (0:Int)<=n by omega),yT (show (0:Int)<=n by omega),zwg]
      rw [zx (x:=(n:Int)/4096) (by omega),zx (x:=(n:Int)/64) (by omega),yT (by omega),uV,uV,uV,
       ziB (n:=224+n/4096) (by omega) (by omega),sb,ziB (n:=128+n/64%64) (by omega) (by omega),sb,ziB (n:=128+n%64) (by omega) (by omega)];rfl
    ·rw [xu h3];by_cases h4:n<=1114111
     ·rw [uU,uU,uU,uU,xw h4];simp only [pQ (show (0:Int)<=n by omega),yT (show (0:Int)<=n by omega),zwg]
      rw [zx (x:=(n:Int)/262144) (by omega),zx (x:=(n:Int)/4096) (by omega),zx (x:=(n:Int)/64) (by omega),yT (by omega),yT (by omega),uV,uV,uV,uV,
       ziB (n:=240+n/262144) (by omega) (by omega),sb,ziB (n:=128+n/4096%64) (by omega) (by omega),sb,ziB (n:=128+n/64%64) (by omega) (by omega),sb,ziB (n:=128+n%64) (by omega) (by omega)];rfl
     ·rw [uT,xu h4];rfl
def zww:Nat->List UInt8->Nat
 | 1,a::_=>a.toNat
 | 2,a::b::_=>64*(a.toNat%32)+b.toNat%64
 | 3,a::b::c::_=>64*(64*(a.toNat%16)+b.toNat%64)+c.toNat%64
 | 4,a::b::c::d::_=>64*(64*(64*(a.toNat%8)+b.toNat%64)+c.toNat%64)+d.toNat%64
 | _,_=>0
theorem map1 (h:∀x∈l,x<256):l.map UInt8.ofNat=[a]↔l=[a.toNat]:=by
 cases l with
 | nil=>simp
 | cons x l=>cases l with
  | nil=>simp only [ye,qY,yC,qv];exact ztO (h x (by simp))
  | cons y l=>simp
theorem map2 (h:∀x∈l,x<256):l.map UInt8.ofNat=[a,b]↔l=[a.toNat,b.toNat]:=by
 cases l with
 | nil=>simp
 | cons x l=>simp only [ye,yC,ztO (h x (by simp)),map1 (l:=l) fun y hy=>h y (by simp [hy])]
theorem map3 (h:∀x∈l,x<256):l.map UInt8.ofNat=[a,b,c]↔l=[a.toNat,b.toNat,c.toNat]:=by
 cases l with
 | nil=>simp
 | cons x l=>simp only [ye,yC,ztO (h x (by simp)),map2 (l:=l) fun y hy=>h y (by simp [hy])]
theorem map4 (h:∀x∈l,x<256):l.map UInt8.ofNat=[a,b,c,d]↔l=[a.toNat,b.toNat,c.toNat,d.toNat]:=by
 cases l with
 | nil=>simp
 | cons x l=>simp only [ye,yC,ztO (h x (by simp)),map3 (l:=l) fun y hy=>h y (by simp [hy])]
theorem zzB (r:Nat):∀x∈cpN r,x<256:=by
 intro x hx;unfold cpN at hx;split at hx
 ·simp at hx;omega
 ·split at hx
  ·simp at hx;omega
  ·split at hx
   ·split at hx
    ·cases hx
    ·simp at hx;omega
   ·split at hx
    ·simp at hx;omega
    ·cases hx
theorem cpB1 (a:UInt8):cpB a.toNat=[a]↔a.toNat<128:=by
 have ha:=a.toNat_lt;unfold cpB;rw [map1 (zzB _)];unfold cpN;by_cases h:a.toNat<128
 ·simp [h]
 ·rw [xu h,xw (by omega)];simp;omega
theorem cpB2 (a b:UInt8):cpB (64*(a.toNat%32)+b.toNat%64)=[a,b]↔194<=a.toNat/\a.toNat<224/\cont b=true:=by
 have ha:=a.toNat_lt;have hb:=b.toNat_lt;unfold cpB cont;rw [map2 (zzB _)];unfold cpN;by_cases h:64*(a.toNat%32)+b.toNat%64<128
 ·rw [xw h];simp;omega
 ·rw [xu h,xw (by omega)];simp;omega
theorem cpB3 (a b c:UInt8):cpB (64*(64*(a.toNat%16)+b.toNat%64)+c.toNat%64)=[a,b,c]↔224<=a.toNat/\a.toNat<240/\cont b=true/\cont c=true/\(a.toNat=224->160<=b.toNat)/\(a.toNat=237->b.toNat<160):=by
 have ha:=a.toNat_lt;have hb:=b.toNat_lt;have hc:=c.toNat_lt;unfold cpB cont;rw [map3 (zzB _)];unfold cpN;by_cases h:64*(64*(a.toNat%16)+b.toNat%64)+c.toNat%64<128
 ·rw [xw h];simp;omega
 ·rw [xu h];by_cases h2:64*(64*(a.toNat%16)+b.toNat%64)+c.toNat%64<2048
  ·rw [xw h2];simp;omega
  ·rw [xu h2,xw (by omega)];by_cases h3:55296<=64*(64*(a.toNat%16)+b.toNat%64)+c.toNat%64/\64*(64*(a.toNat%16)+b.toNat%64)+c.toNat%64<=57343
   ·rw [xw h3];simp;omega
   ·rw [xu h3];simp;omega
theorem cpB4 (a b c d:UInt8):cpB (64*(64*(64*(a.toNat%8)+b.toNat%64)+c.toNat%64)+d.toNat%64)=[a,b,c,d]↔
  240<=a.toNat/\a.toNat<245/\cont b=true/\cont c=true/\cont d=true/\(a.toNat=240->144<=b.toNat)/\(a.toNat=244->b.toNat<144):=by
 have ha:=a.toNat_lt;have hb:=b.toNat_lt;have hc:=c.toNat_lt;have hd:=d.toNat_lt;unfold cpB cont;rw [map4 (zzB _)];unfold cpN;by_cases h:64*(64*(64*(a.toNat%8)+b.toNat%64)+c.toNat%64)+d.toNat%64<65536
 ·have:∀l:List Nat,l.length<=3->(l=[a.toNat,b.toNat,c.toNat,d.toNat])=False:=fun l hl=>by simp only [eq_iff_iff,iff_false];intro e;rw [e] at hl;simp at hl
  rw [xw h];split
  ·rw [this _ (by simp)];simp;omega
  ·split
   ·rw [this _ (by simp)];simp;omega
   ·split
    ·rw [this _ (by simp)];simp;omega
    ·rw [this _ (by simp)];simp;omega
 ·rw [xu (by omega),xu (by omega),xu h];by_cases h2:64*(64*(64*(a.toNat%8)+b.toNat%64)+c.toNat%64)+d.toNat%64<=1114111
  ·rw [xw h2];simp;omega
  ·rw [xu h2];simp;omega
def isN (n:Nat) (l:List UInt8):Bool:=match n with
 | 1=>is1 l
 | 2=>is2 l
 | 3=>is3 l
 | 4=>is4 l
 | _=>false
theorem zEg (n:Nat) (l:List UInt8) (h1:1<=n) (h4:n<=4) (hl:n<=l.length):cpB (zww n l)=l.take n↔isN n l=true:=by
 match n,l,h1,h4,hl with
 | 1,a::t,_,_,_=>simp only [zww,yU,yJ,cpB1,isN,is1,xS]
 | 2,a::b::t,_,_,_=>simp only [zww,yU,yJ,cpB2,isN,is2,xS]
 | 3,a::b::c::t,_,_,_=>simp only [zww,yU,yJ,cpB3,isN,is3,xS]
 | 4,a::b::c::d::t,_,_,_=>simp only [zww,yU,yJ,cpB4,isN,is4,xS]
theorem zEh (n:Nat) (l:List UInt8) (h:l.length<n):isN n l=false:=by
 match n,l with
 | 0,_=>rfl
 | 1,[]=>rfl
 | 2,[]=>rfl
 | 2,[_]=>rfl
 | 3,[]=>rfl
 | 3,[_]=>rfl
 | 3,[_,_]=>rfl
 | 4,[]=>rfl
 | 4,[_]=>rfl
 | 4,[_,_]=>rfl
 | 4,[_,_,_]=>rfl
 | n+5,_=>rfl
 | 1,_::_=>simp at h
 | 2,_::_::_=>simp at h;omega
 | 3,_::_::_::_=>simp at h;omega
 | 4,_::_::_::_::_=>simp at h;omega
theorem zrS {b:List UInt8} {a n i r:Nat} (hb:b.length<=1152921504606846976) (hn:n<=4) (h:i<n) (ha:a+i<b.length) (hr:r<=1000000000):
  zcq a b n r i=zcq a b n ((64*r+(b[a+i]).toNat%64:Nat):Int) ((i+1:Nat):Int):=by
 refine znY ?_;unfold zbQ;have hc:=(b[a+i]).toNat_lt;rw [uT,uV,zP (show (a:Int)+i=((a+i:Nat):Int) by push_cast;rfl) ha,sb];simp (disch:=omega) only [zx,yT];push_cast;rfl
theorem zzR (h:n<=i):zcq a b n r i=some (r:Int):=by
 refine znZ ?_;unfold zbQ;rw [uU]
theorem zmH {b:List UInt8} {a i:Nat} {c:UInt8} (h:(b.drop a)[i]? =some c):∃h:a+i<b.length,b[a+i]=c:=by
 rw [yG] at h;exact xZ.1 h
theorem zKR {b:List UInt8} {a n:Nat} {c:UInt8} {t:List UInt8} (hb:b.length<=1152921504606846976) (hl:b.drop a=c::t) (h1:1<=n) (h4:n<=4) (hn:n<=(b.drop a).length):
  zcq a b n ((if 1<n then c.toNat%([0,0,32,16,8].getD n 0) else c.toNat:Nat):Int) (1:Nat)=some ((zww n (b.drop a):Nat):Int):=by
 have hc:=c.toNat_lt;rw [hl] at hn
 match n,t,h1,h4,hn with
 | 1,t,_,_,_=>rw [zzR (by omega),hl];rfl
 | 2,x::t,_,_,_=>
  obtain ⟨g1,e1⟩:=zmH (b:=b) (a:=a) (i:=1) (c:=x) (by rw [hl];rfl);rw [xw (by omega),zrS hb (by omega) (by omega) g1 (by simp;omega),zzR (by omega),hl,e1];rfl
 | 3,x::y::t,_,_,_=>
  obtain ⟨g1,e1⟩:=zmH (b:=b) (a:=a) (i:=1) (c:=x) (by rw [hl];rfl);obtain ⟨g2,e2⟩:=zmH (b:=b) (a:=a) (i:=2) (c:=y) (by rw [hl];rfl);have hx:=x.toNat_lt;rw [xw (by omega),zrS hb (by omega) (by omega) g1 (by simp;omega),zrS hb (by omega) (by omega) g2 (by simp;omega),zzR (by omega),hl,e1,e2];rfl
 | 4,x::y::z::t,_,_,_=>
  obtain ⟨g1,e1⟩:=zmH (b:=b) (a:=a) (i:=1) (c:=x) (by rw [hl];rfl);obtain ⟨g2,e2⟩:=zmH (b:=b) (a:=a) (i:=2) (c:=y) (by rw [hl];rfl);obtain ⟨g3,e3⟩:=zmH (b:=b) (a:=a) (i:=3) (c:=z) (by rw [hl];rfl);have hx:=x.toNat_lt;have hy:=y.toNat_lt;rw [xw (by omega),zrS hb (by omega) (by omega) g1 (by simp;omega),zrS hb (by omega) (by omega) g2 (by simp;omega),zrS hb (by omega) (by omega) g3 (by simp;omega),zzR (by omega),hl,e1,e2,e3];rfl
theorem zJy {b:List UInt8} {a n:Nat} (hb:b.length<=1152921504606846976) (ha:a<=b.length) (h1:1<=n) (h5:n<=5):
  zbP a b n=if isN n (b.drop a) then some (.inr (.inr (n:Int))) else if n<=4/\n<=(b.drop a).length then some (.inl ((n+1:Nat):Int)) else some (.inr (.inl ())):=by
 have hdl:(b.drop a).length=b.length - a:=by simp
 unfold zbP;by_cases h:n<=4/\n<=(b.drop a).length
 ·rw [xw h,uV,uT];obtain ⟨c,t,hl⟩:∃c t,b.drop a=c::t:=by
   cases hh:b.drop a with
   | nil=>rw [hh] at h;simp at h;omega
   | cons c t=>exact ⟨c,t,rfl⟩
  obtain ⟨g0,e0⟩:=zmH (b:=b) (a:=a) (i:=0) (c:=c) (by rw [hl];rfl);have hc:=c.toNat_lt;rw [zP rfl (show a<b.length by omega),sb];have e0':b[a]'(by omega)=c:=by simpa using e0
  rw [e0',uV];have hp:(if (decide ((n:Int)>1))=true then (idx ([0,0,32,16,8]:(List Int)) (n:Int)>>=fun x2=>remI (c.toNat:Int) x2>>=fun v3=>some v3) else some (c.toNat:Int))=some (((if 1<n then c.toNat%([0,0,32,16,8].getD n 0) else c.toNat:Nat)):Int):=by
   match n,h1,h.1 with
   | 1,_,_=>rfl
   | 2,_,_=>rfl
   | 3,_,_=>rfl
   | 4,_,_=>rfl
  rw [hp,sb];have h2:=zKR hb hl h1 h.1 h.2;have h2':zcq a b n ((if 1<n then c.toNat%([0,0,32,16,8].getD n 0) else c.toNat:Nat):Int) 1=some ((zww n (b.drop a):Nat):Int):=h2;rw [h2',sb,zHS,sb,xu (by omega),yp,zqE rfl (show (a:Int)+n=((a+n:Nat):Int) by push_cast;rfl) (by omega) (by omega),sb,uH];by_cases hi:isN n (b.drop a)=true
  ·rw [xw hi,itT (by simpa using (zEg n _ h1 h.1 h.2).2 hi)]
  ·rw [xu hi,itF (by simpa using fun e=>hi ((zEg n _ h1 h.1 h.2).1 e)),uV];rfl
 ·have hn:isN n (b.drop a)=false:=by
   by_cases h4:n<=4
   ·exact zEh _ _ (by omega)
   ·have:n=5:=by omega
    subst this;rfl
  rw [xu h,hn,uV,uU];rfl
theorem zxz {b:List UInt8} {a:Nat} (hb:b.length<=1152921504606846976) (ha:a<=b.length):zhf b a=some ((nxt (b.drop a):Nat):Int):=by
 have key:∀(k n:Nat),n+k=5->1<=n->(∀j,1<=j->j<n->isN j (b.drop a)=false)->∃q,zet a b n=some q/\(match q with| .inl _=>(0:Int)| .inr u=>u)=((nxt (b.drop a):Nat):Int):=by
  intro k
  induction k with
  | zero=>
   intro n hn h1 hj;have:n=5:=by omega
   subst this;refine ⟨.inl (),zht ?_,?_⟩
   ·rw [zJy hb ha h1 (by omega),xu (by simp [isN]),xu (by omega)]
   ·have j1:=hj 1 (by omega) (by omega);have j2:=hj 2 (by omega) (by omega);have j3:=hj 3 (by omega) (by omega);have j4:=hj 4 (by omega) (by omega);simp only [isN] at j1 j2 j3 j4;simp [nxt,j1,j2,j3,j4]
  | succ k ih=>
   intro n hn h1 hj;have hb1:=zJy hb ha h1 (show n<=5 by omega);by_cases hi:isN n (b.drop a)=true
   ·rw [xw hi] at hb1;refine ⟨.inr n,zht hb1,?_⟩;have e:nxt (b.drop a)=n:=by
     match n,h1,(show n<=4 by omega),hi,hj with
     | 1,_,_,hi,_=>simp only [isN] at hi;simp [nxt,hi]
     | 2,_,_,hi,hj=>have j1:=hj 1 (by omega) (by omega);simp only [isN] at hi j1;simp [nxt,hi,j1]
     | 3,_,_,hi,hj=>have j1:=hj 1 (by omega) (by omega);have j2:=hj 2 (by omega) (by omega);simp only [isN] at hi j1 j2;simp [nxt,hi,j1,j2]
     | 4,_,_,hi,hj=>have j1:=hj 1 (by omega) (by omega);have j2:=hj 2 (by omega) (by omega);have j3:=hj 3 (by omega) (by omega);simp only [isN] at hi j1 j2 j3;simp [nxt,hi,j1,j2,j3]
    simp only [e]
   ·rw [xu hi] at hb1;by_cases hl:n<=4/\n<=(b.drop a).length
    ·rw [xw hl] at hb1;obtain ⟨q,h2,h3⟩:=ih (n+1) (by omega) (by omega) fun j g1 g2=>by
      by_cases he:j=n
      ·subst he;simpa using hi
      ·exact hj j g1 (by omega)
     exact ⟨q,(znX hb1).trans h2,h3⟩
    ·rw [xu hl] at hb1;refine ⟨.inl (),zht hb1,?_⟩;have hall:∀j,1<=j->isN j (b.drop a)=false:=fun j g1=>by
      by_cases g2:j<n
      ·exact hj j g1 g2
      ·by_cases g3:j<=4
       ·exact zEh _ _ (by omega)
       ·match j,g3 with
        | j+5,_=>rfl
     have j1:=hall 1 (by omega);have j2:=hall 2 (by omega);have j3:=hall 3 (by omega);have j4:=hall 4 (by omega);simp only [isN] at j1 j2 j3 j4;simp [nxt,j1,j2,j3,j4]
 obtain ⟨q,h1,h2⟩:=key 4 1 rfl (by omega) fun j g1 g2=>by omega
 unfold zhf;have h1':zet a b 1=some q:=h1;rw [h1',sb,<-h2];cases q<;>rfl
theorem zmI (h:isN n l=true):∃a t,l=a::t/\n<=l.length/\(n=1/\a.toNat<128\/n=2/\194<=a.toNat/\a.toNat<224\/n=3/\224<=a.toNat/\a.toNat<240\/n=4/\240<=a.toNat):=by
 match n,l with
 | 1,a::t=>simp only [isN,is1,xS] at h;exact ⟨a,t,rfl,by simp,.inl ⟨rfl,h⟩⟩
 | 2,a::b::t=>simp only [isN,is2,xS] at h;exact ⟨a,_,rfl,by simp,.inr (.inl ⟨rfl,h.1,h.2.1⟩)⟩
 | 3,a::b::c::t=>simp only [isN,is3,xS] at h;exact ⟨a,_,rfl,by simp,.inr (.inr (.inl ⟨rfl,h.1,h.2.1⟩))⟩
 | 4,a::b::c::d::t=>simp only [isN,is4,xS] at h;exact ⟨a,_,rfl,by simp,.inr (.inr (.inr ⟨rfl,h.1⟩))⟩
 | 0,_=>cases h
 | 1,[]=>cases h
 | 2,[]=>cases h
 | 2,[_]=>cases h
 | 3,[]=>cases h
 | 3,[_]=>cases h
 | 3,[_,_]=>cases h
 | 4,[]=>cases h
 | 4,[_]=>cases h
 | 4,[_,_]=>cases h
 | 4,[_,_,_]=>cases h
 | _+5,_=>cases h
theorem zIP (h:isN n l=true) (h':isN m l=true):n=m:=by
 obtain ⟨a,t,e,_,g⟩:=zmI h;obtain ⟨a',t',e',_,g'⟩:=zmI h';rw [e] at e';cases e';omega
theorem zKp (h:isN n l=true):nxt l=n:=by
 obtain ⟨_,_,_,_,g⟩:=zmI h;have k:∀m,m≠n->isN m l=false:=fun m hm=>by
  cases hh:isN m l with
  | false=>rfl
  | true=>exact absurd (zIP hh h) hm
 have hn:n=1\/n=2\/n=3\/n=4:=by omega
 rcases hn with rfl| rfl| rfl| rfl
 ·simp only [isN] at h;simp [nxt,h]
 ·have j1:=k 1 (by omega);simp only [isN] at h j1;simp [nxt,h,j1]
 ·have j1:=k 1 (by omega);have j2:=k 2 (by omega);simp only [isN] at h j1 j2;simp [nxt,h,j1,j2]
 ·have j1:=k 1 (by omega);have j2:=k 2 (by omega);have j3:=k 3 (by omega);simp only [isN] at h j1 j2 j3;simp [nxt,h,j1,j2,j3]
theorem zvY (h:nxt l≠0):isN (nxt l) l=true:=by
 unfold nxt at h|-;by_cases h1:is1 l=true
 ·simp [h1,isN]
 ·by_cases h2:is2 l=true
  ·simp [h1,h2,isN]
  ·by_cases h3:is3 l=true
   ·simp [h1,h2,h3,isN]
   ·by_cases h4:is4 l=true
    ·simp [h1,h2,h3,h4,isN]
    ·simp [h1,h2,h3,h4] at h
theorem zsW (l:List UInt8):nxt l<=l.length:=by
 by_cases h:nxt l=0
 ·omega
 ·obtain ⟨_,_,_,g,_⟩:=zmI (zvY h);exact g
theorem zAc (l:List UInt8):nxt l<=4:=by
 by_cases h:nxt l=0
 ·omega
 ·obtain ⟨_,_,_,_,g⟩:=zmI (zvY h);omega
def fst4 (m:Int) (l:List UInt8):Nat×Nat:=
 if h:nxt l=0\/(nxt l:Int)>m then (0,0) else (nxt l+(fst4 (m - nxt l) (l.drop (nxt l))).1,(fst4 (m - nxt l) (l.drop (nxt l))).2+1)
termination_by l.length
decreasing_by all_goals (have:=zsW l;simp only [yq];omega)
theorem zrO (h:nxt l=0\/(nxt l:Int)>m):fst4 m l=(0,0):=by rw [fst4,dif_pos h]
theorem zvO (h:¬(nxt l=0\/(nxt l:Int)>m)):fst4 m l=(nxt l+(fst4 (m - nxt l) (l.drop (nxt l))).1,(fst4 (m - nxt l) (l.drop (nxt l))).2+1):=by rw [fst4,dif_neg h]
theorem zGL (P:Int->List UInt8->Prop) (h0:∀m l,(nxt l=0\/(nxt l:Int)>m)->P m l) (h1:∀m l,¬(nxt l=0\/(nxt l:Int)>m)->P (m - nxt l) (l.drop (nxt l))->P m l) (m:Int) (l:List UInt8):P m l:=by
 generalize hn:l.length=n
 induction n using Nat.strongRecOn generalizing m l with
 | _ n ih=>
  by_cases h:nxt l=0\/(nxt l:Int)>m
  ·exact h0 m l h
  ·have:=zsW l;exact h1 m l h (ih _ (by simp only [yq];omega) _ _ rfl)
theorem zyh {b:List UInt8} (hb:b.length<=140737488355328) (most:Int) (m:Int) (l:List UInt8):∀(a c:Nat),c<=a->a<=b.length->l=b.drop a->m=most - a->
  zdd b most a c=some (((a+(fst4 m l).1:Nat):Int),((c+(fst4 m l).2:Nat):Int)):=by
 refine zGL (fun m l=>∀(a c:Nat),c<=a->a<=b.length->l=b.drop a->m=most - a->zdd b most a c=some (((a+(fst4 m l).1:Nat):Int),((c+(fst4 m l).2:Nat):Int))) ?_ ?_ m l
 ·intro m l h a c hc ha hl hm;subst hl hm;have h4:=zAc (b.drop a);refine znh ?_;unfold zbz;rw [zxz (by omega) ha,sb,uV,uT,zrO h];rfl
 ·intro m l h ih a c hc ha hl hm;subst hl hm;have h4:=zAc (b.drop a);have hle:=zsW (b.drop a);simp only [yq] at hle;refine (zng (atv':=((a+nxt (b.drop a):Nat):Int)) (count':=((c+1:Nat):Int)) ?_).trans ?_
  ·unfold zbz;rw [zxz (by omega) ha,sb,uV,uU,uV];rfl
  ·rw [ih (a+nxt (b.drop a)) (c+1) (by omega) (by omega) (by rw [qo]) (by omega),zvO h];simp only [qS,Nat.add_comm 1]
theorem zBR (hb:b.length<=140737488355328) (most:Int):zgB b most=some (((fst4 most b).1:Int),((fst4 most b).2:Int)):=by
 unfold zgB;have h:=zyh hb most most b 0 0 (xB _) (xI _) rfl (by omega);simp only [xE] at h;have h':zdd b most 0 0=some (((fst4 most b).1:Int),((fst4 most b).2:Int)):=h;rw [h',sb]
def pre4 (l:List UInt8):Nat×Nat:=fst4 l.length l
theorem zGK (h:(l.length:Int)<=m):fst4 m l=pre4 l:=by
 have key:∀(n:Nat) (l:List UInt8) (m m':Int),l.length=n->(l.length:Int)<=m->(l.length:Int)<=m'->fst4 m l=fst4 m' l:=by
  intro n
  induction n using Nat.strongRecOn with
  | _ n ih=>
   intro l m m' hn hm hm';have hle:=zsW l;by_cases h:nxt l=0
   ·rw [zrO (.inl h),zrO (.inl h)]
   ·rw [zvO (m:=m) (l:=l) (by omega),zvO (m:=m') (l:=l) (by omega),ih _ (by simp only [yq];omega) (l.drop (nxt l)) (m - nxt l) (m' - nxt l) rfl (by simp only [yq];omega) (by simp only [yq];omega)]
 exact key _ l m l.length rfl h (qr _)
theorem zFB (h:nxt l=0):pre4 l=(0,0):=zrO (.inl h)
theorem zJg (h:nxt l≠0):pre4 l=(nxt l+(pre4 (l.drop (nxt l))).1,(pre4 (l.drop (nxt l))).2+1):=by
 have hle:=zsW l;unfold pre4;rw [zvO (by omega),zGK (m:=(l.length:Int) - nxt l) (by simp only [yq];omega)];rfl
theorem zHM (P:List UInt8->Prop) (h0:∀l,nxt l=0->P l) (h1:∀l,nxt l≠0->P (l.drop (nxt l))->P l) (l:List UInt8):P l:=by
 generalize hn:l.length=n
 induction n using Nat.strongRecOn generalizing l with
 | _ n ih=>
  by_cases h:nxt l=0
  ·exact h0 l h
  ·have:=zsW l;exact h1 l h (ih _ (by simp only [yq];omega) _ rfl)
def zlW (l:List UInt8):Bool:=decide ((pre4 l).1=l.length)
theorem zAk (hb:b.length<=140737488355328):zgC b=some (zlW b):=by
 unfold zgC;rw [zBR hb,sb];unfold zlW pre4;by_cases h:(fst4 (b.length:Int) b).1=b.length
 ·simp [h]
 ·have h2:¬(((fst4 (b.length:Int) b).1:Int)=b.length):=by omega
  simp [h,h2]
def enc (v:Nat):List UInt8:=if v<128 then [UInt8.ofNat v] else UInt8.ofNat (128+v%128)::enc (v/128)
termination_by v
decreasing_by omega
def scan:Nat->Nat->List UInt8->Unit⊕(Int×Int×Int)
 | _,_,[]=> .inl ()
 | i,acc,c::t=>if i=9/\1<c.toNat then .inr (0,0,4) else if c.toNat<128 then .inr (((acc+c.toNat%128*128^i:Nat):Int),((i+1:Nat):Int),0) else scan (i+1) (acc+c.toNat%128*128^i) t
def rdR:Unit⊕(Int×Int×Int)->Int×Int×Int
 | .inl _=>(0,0,3)
 | .inr r=>r
def rd (b:List UInt8):Int×Int×Int:=rdR (scan 0 0 (b.take 10))
def hor:List UInt8->Nat
 | []=>0
 | c::t=>c.toNat%128+128*hor t
def lead:Nat->List UInt8->Nat
 | 0,_=>0
 | _+1,[]=>0
 | k+1,c::t=>if 128<=c.toNat then lead k t+1 else 0
theorem zJM (i:Nat):2^(7*i)=128^i:=by rw [Nat.pow_mul]
theorem zIz (c:Nat):c&&&127=c%128:=uO c 7
theorem zFD {acc i c:Nat} (hi:i<=9) (hacc:acc<128^i) (hc:c<256) (h9:i=9->c<=1):
  orI .u64 (acc:Int) (shlI .u64 (IntKind.u64.wrap (andI .u8 (c:Int) 127)) ((7*i:Nat):Int))=((acc+c%128*128^i:Nat):Int):=by
 have e1:andI .u8 (c:Int) 127=((c%128:Nat):Int):=by
  have:=zAH (k:= .u8) rfl (a:=c) (b:=127) (by simpa [IntKind.bits] using hc) (by simp [IntKind.bits]);rw [zIz] at this;exact this
 have hp:128^i<=128^9:=uw (by omega) hi;have hlt:c%128*128^i<18446744073709551616:=by
  by_cases h:i=9
  ·subst h;have:=h9 rfl;have h2:c%128<=1:=by omega
   have:=yg (128^9) h2;omega
  ·have h3:128^i<=128^8:=uw (by omega) (by omega);have:=Nat.mul_le_mul (show c%128<=127 by omega) h3;omega
 have e2:shlI .u64 (IntKind.u64.wrap ((c%128:Nat):Int)) ((7*i:Nat):Int)=((c%128*128^i:Nat):Int):=by
  unfold shlI;rw [zup rfl (by simp [IntKind.bits];omega),yp,yN (by simp [IntKind.bits];omega)];have h4:((c%128:Nat):Int)*2^(7*i)=((c%128*128^i:Nat):Int):=by rw [<-zJM];push_cast;rfl
  rw [h4];exact zup rfl (by simpa [IntKind.bits] using hlt)
 rw [e1,e2,zEB rfl (by simp [IntKind.bits];omega) (by simpa [IntKind.bits] using hlt)];congr 1;rw [<-zJM] at hacc|-;exact zBF _ _ _ hacc
theorem zFC:∀(t:List UInt8) (v:List UInt8) (i acc:Nat),v.drop i=t->i+t.length=v.length->v.length<=10->acc<128^i->zhV v acc i=some (scan i acc t):=by
 intro t
 induction t with
 | nil=>
  intro v i acc _ hl _ _;refine zkj ?_;unfold zdu;rw [itF (by simp at hl|-;omega)];rfl
 | cons c t ih=>
  intro v i acc hd hl hv hacc;simp only [yn] at hl;have hget:v[i]'(by omega)=c:=by
   have h1:v.drop i=v[i]'(by omega)::v.drop (i+1):=xQ (by omega);rw [hd] at h1;exact (List.cons.inj h1).1.symm
  have hd':v.drop (i+1)=t:=by rw [<-qo,hd];rfl
  have hc:=c.toNat_lt;have hb:zdu v acc i=if i=9/\1<c.toNat then some (.inr (.inr (0,0,4))) else if c.toNat<128 then some (.inr (.inr (((acc+c.toNat%128*128^i:Nat):Int),((i+1:Nat):Int),0))) else some (.inl (((acc+c.toNat%128*128^i:Nat):Int),((i+1:Nat):Int))):=by
   unfold zdu;rw [uT,zP rfl (show i<v.length by omega),sb,hget];by_cases h9:i=9/\1<c.toNat
   ·rw [xw h9,uT]
   ·rw [xu h9,uU,uV];have e:((7:Int)*(i:Int))=((7*i:Nat):Int):=by push_cast;rfl
    rw [e,zHZ,sb,zFD (by omega) hacc (by omega) (by omega),uV];by_cases h8:c.toNat<128
    ·rw [xw h8,uT];push_cast;rfl
    ·rw [xu h8,uU];push_cast;rfl
  rw [scan];split at hb
  ·rename_i h9;rw [xw h9];exact zkj hb
  ·rename_i h9;rw [xu h9];split at hb
   ·rename_i h8;rw [xw h8];exact zkj hb
   ·rename_i h8;rw [xu h8,ztm hb];refine ih v (i+1) _ hd' (by omega) hv ?_;rw [pR];have:=yg (128^i) (show c.toNat%128<=127 by omega);omega
theorem zAh (b:List UInt8):zig b=some (rd b):=by
 unfold zig rd;have e:(if (10:Int)<(b.length:Int) then (10:Int) else (b.length:Int))=((min 10 b.length:Nat):Int):=by split<;>omega
 have e2:b.take (min 10 b.length)=b.take 10:=by rw [List.take_eq_take_iff];omega
 rw [e,zqF rfl (by omega),sb,e2];have h:=zFC (b.take 10) (b.take 10) 0 0 rfl (by simp) (by simp;omega) (by simp);have h':zhV (b.take 10) 0 0=some (scan 0 0 (b.take 10)):=h;rw [h',sb];cases scan 0 0 (b.take 10)<;>rfl
theorem zJm (b:List UInt8):zlN b=some ((rd b).2.1,(rd b).2.2):=by unfold zlN;rw [zAh,sb]
theorem zzU:∀(k:Nat) (l:List UInt8),lead k l<=k/\lead k l<=l.length
 | 0,_=>⟨xB _,xI _⟩
 | _+1,[]=>⟨xI _,xB _⟩
 | k+1,c::t=>by
  have:=zzU k t;rw [lead];split<;>simp<;>omega
theorem zzj:∀(l:List UInt8) (i acc:Nat),i+l.length<=10->i<=9->
  scan i acc l=if i+lead (10 - i) l=10 then .inr (0,0,4) else if lead (10 - i) l=l.length then .inl () else if i+lead (10 - i) l=9/\1<(l.getD (lead (10 - i) l) 0).toNat then .inr (0,0,4) else
   .inr (((acc+hor (l.take (lead (10 - i) l+1))*128^i:Nat):Int),((i+lead (10 - i) l+1:Nat):Int),0):=by
 intro l
 induction l with
 | nil=>
  intro i acc _ hi;obtain ⟨k,hk⟩:∃k,10 - i=k+1:=⟨9 - i,by omega⟩;rw [hk];simp only [lead,scan,pw];rw [xu (by omega),xw trivial]
 | cons c t ih=>
  intro i acc hl hi;obtain ⟨k,hk⟩:∃k,10 - i=k+1:=⟨9 - i,by omega⟩;simp only [yn] at hl;rw [scan];by_cases hc:128<=c.toNat
  ·have e:lead (10 - i) (c::t)=lead k t+1:=by rw [hk,lead,xw hc]
   rw [e];by_cases h9:i=9
   ·have:k=0:=by omega
    subst this;rw [xw ⟨h9,by omega⟩,lead,xw (by omega)]
   ·rw [xu (by omega),xu (by omega),ih (i+1) _ (by omega) (by omega),show 10 - (i+1)=k by omega];by_cases h1:i+1+lead k t=10
    ·rw [xw h1,xw (show i+(lead k t+1)=10 by omega)]
    ·rw [xu h1,xu (show ¬i+(lead k t+1)=10 by omega)];by_cases h2:lead k t=t.length
     ·rw [xw h2,xw (show lead k t+1=(c::t).length by simp;omega)]
     ·rw [xu h2,xu (show ¬lead k t+1=(c::t).length by simp;omega)];have eg:(c::t).getD (lead k t+1) 0=t.getD (lead k t) 0:=by simp [List.getD]
      rw [eg];by_cases h3:i+1+lead k t=9/\1<(t.getD (lead k t) 0).toNat
      ·rw [xw h3,xw (show i+(lead k t+1)=9/\1<(t.getD (lead k t) 0).toNat by omega)]
      ·rw [xu h3,xu (show ¬(i+(lead k t+1)=9/\1<(t.getD (lead k t) 0).toNat) by omega)];rw [yU,hor,pR];have e5:acc+c.toNat%128*128^i+hor (t.take (lead k t+1))*(128^i*128)=acc+(c.toNat%128+128*hor (t.take (lead k t+1)))*128^i:=by
        rw [Nat.add_mul,pS 128,pM (128^i) 128,<-pS,pM _ 128,pS];omega
       rw [e5];congr 3;omega
  ·have e:lead (10 - i) (c::t)=0:=by rw [hk,lead,xu hc]
   rw [e];simp only [yL,yn,List.getD_cons_zero];rw [xu (show ¬i=10 by omega),xu (show ¬0=t.length+1 by omega)];by_cases h9:i=9/\1<c.toNat
   ·rw [xw h9,xw h9]
   ·rw [xu h9,xu h9,xw (show c.toNat<128 by omega)];simp [hor]
theorem zwL (x y:List UInt8):hor (x++y)=hor x+128^x.length*hor y:=by
 induction x with
 | nil=>simp [hor]
 | cons c t ih=>simp only [yz,hor,ih,yn,pR,Nat.mul_add];rw [pM (128^t.length) 128,pS];omega
theorem zGQ (l:List UInt8):hor l<128^l.length:=by
 induction l with
 | nil=>simp [hor]
 | cons c t ih=>simp only [hor,yn,pR];omega
theorem zGP (l:List UInt8) (j:Nat):hor (l.drop j)<=hor l:=by
 induction l generalizing j with
 | nil=>simp
 | cons c t ih=>
  cases j with
  | zero=>exact xB _
  | succ j=>have:=ih j;simp only [pD,hor];omega
theorem zFF (b:List UInt8) (a:Nat) (hb:b.length<=1152921504606846976):∀(k n:Nat),n+k=10->a+n<=b.length->zer a b n=some ((n+lead k (b.drop (a+n)):Nat):Int):=by
 intro k
 induction k with
 | zero=>
  intro n hn ha;refine zhs ?_;unfold zaR;rw [uV];by_cases h1:a+n<b.length
  ·rw [uT,uU,sb,itF (by rfl)];rfl
  ·rw [uU,sb,itF (by rfl)];rfl
 | succ k ih=>
  intro n hn ha;by_cases h1:a+n<b.length
  ·have hd:b.drop (a+n)=b[a+n]::b.drop (a+(n+1)):=xQ h1;have hbody:zaR a b n=if 128<=b[a+n].toNat then some (.inl ((n+1:Nat):Int)) else some (.inr (n:Int)):=by
    unfold zaR;rw [uV,uV,uT,uT,zP (show (a:Int)+n=((a+n:Nat):Int) by push_cast;rfl) h1,sb,sb];by_cases h2:128<=b[a+n].toNat
    ·rw [xw h2,uT];push_cast;rfl
    ·rw [xu h2,uU]
   rw [hd,lead];by_cases h2:128<=b[a+n].toNat
   ·rw [xw h2] at hbody|-;rw [znU hbody,ih (n+1) (by omega) (by omega)];congr 2;omega
   ·rw [xu h2] at hbody|-;exact zhs hbody
  ·have hd:b.drop (a+n)=[]:=yb (by omega);rw [hd];refine zhs ?_;unfold zaR;rw [uV,uU,sb,itF (by rfl)];rfl
theorem zFG (b:List UInt8) (a m:Nat) (hb:b.length<=1152921504606846976) (hm:a+m<=b.length) (hh:hor ((b.drop a).take m)<18446744073709551616):
  ∀(j:Nat),j<=m->zes a b (hor (((b.drop a).take m).drop j)) ((j:Int) - 1)=some ((hor ((b.drop a).take m):Nat):Int):=by
 intro j
 induction j with
 | zero=>
  intro _;refine znW ?_;unfold zbO;rw [itF (by simp)];rfl
 | succ j ih=>
  intro hj;have hL:((b.drop a).take m).length=m:=by simp;omega
  have hd:((b.drop a).take m).drop j=((b.drop a).take m)[j]'(by omega)::((b.drop a).take m).drop (j+1):=xQ (by omega);have hc:((b.drop a).take m)[j]'(by omega)=b[a+j]'(by omega):=by simp
  have h1:=zGP ((b.drop a).take m) j;rw [hd,hor,hc] at h1;have h2:=(b[a+j]'(by omega)).toNat_lt;refine (znV (wv':=(hor (((b.drop a).take m).drop j):Nat)) (i':=(j:Int) - 1) ?_).trans (ih (by omega));unfold zbO;rw [itT (by simp),uV,zP (show (a:Int)+(((j+1:Nat):Int) - 1)=((a+j:Nat):Int) by push_cast;omega) (by omega),sb,uV,hd,hor,hc];simp only [zjX];rw [yT (by omega)];congr 3
  ·omega
  ·push_cast;omega
theorem zIq (hn:n<=9) (hC:C<256) (h9:¬(n=9/\1<C)) (hX:X<128^n):X+128^n*(C%128)<18446744073709551616:=by
 by_cases h9':n=9
 ·subst h9';have:C%128<=1:=by omega
  have:=uf (128^9) this;omega
 ·have h5:128^n<=128^8:=uw (by omega) (by omega);have h6:C%128<=127:=by omega
  have:=Nat.mul_le_mul h5 h6;omega
theorem zDt (b:List UInt8) (a:Nat) (hb:b.length<=1152921504606846976) (ha:a<=b.length):zeN b a=some (rd (b.drop a)):=by
 unfold zeN;have h1:=zFF b a hb 10 0 rfl (by omega);simp only [xE,yL] at h1;have h1':zer a b 0=some ((lead 10 (b.drop a):Nat):Int):=h1;rw [h1',sb];have hle:=zzU 10 (b.drop a);have hlen:(b.drop a).length=b.length - a:=by simp
 -- the ten bytes that count
 have htake:∀(k:Nat) (l:List UInt8),lead k (l.take k)=lead k l:=by
  intro k
  induction k with
  | zero=>intro l;rfl
  | succ k ih=>intro l;cases l with
   | nil=>rfl
   | cons c t=>simp only [yU,lead,ih]
 have hs:=zzj ((b.drop a).take 10) 0 0 (by simp;omega) (by omega);simp only [xE,qE,htake,Nat.pow_zero,qK] at hs;unfold rd;rw [hs];by_cases h10:lead 10 (b.drop a)=10
 ·rw [xw h10,uT];rfl
 ·rw [xu h10,uU,uV];by_cases hl:lead 10 (b.drop a)=(b.drop a).length
  ·rw [xw (show lead 10 (b.drop a)=((b.drop a).take 10).length by rw [xK];omega),uT];rfl
  ·rw [xu (show ¬lead 10 (b.drop a)=((b.drop a).take 10).length by rw [xK];omega),uU];have hlt:a+lead 10 (b.drop a)<b.length:=by omega
   have hg:((b.drop a).take 10).getD (lead 10 (b.drop a)) 0=b[a+lead 10 (b.drop a)]:=by
    rw [pc,yk,xw (by omega),yG,xH hlt];rfl
   rw [hg,qZ,yN (by omega)];have hc:=(b[a+lead 10 (b.drop a)]).toNat_lt;have hg2:(if (((lead 10 (b.drop a):Nat):Int)==9)=true then (idx b ((a:Int)+((lead 10 (b.drop a):Nat):Int))>>=fun x2=>some (decide ((x2.toNat:Int)>1))) else some false)=some (decide (lead 10 (b.drop a)=9/\1<(b[a+lead 10 (b.drop a)]).toNat)):=by
    by_cases h9:lead 10 (b.drop a)=9
    ·rw [uT,zP (show (a:Int)+((lead 10 (b.drop a):Nat):Int)=((a+lead 10 (b.drop a):Nat):Int) by push_cast;rfl) hlt,sb];congr 1;simp only [h9,qu,qt];omega
    ·rw [uU];simp [h9]
   rw [hg2,sb];by_cases h9:lead 10 (b.drop a)=9/\1<(b[a+lead 10 (b.drop a)]).toNat
   ·rw [xw h9,itT (by simpa using h9)];rfl
   ·rw [xu h9,itF (yd h9)];have hbd:hor ((b.drop a).take (lead 10 (b.drop a)+1))<18446744073709551616:=by
     have hsp:(b.drop a).take (lead 10 (b.drop a)+1)=(b.drop a).take (lead 10 (b.drop a))++[b[a+lead 10 (b.drop a)]]:=by
      rw [List.take_add_one,yG,xH hlt];rfl
     rw [hsp,zwL];have h3:=zGQ ((b.drop a).take (lead 10 (b.drop a)));have h4:((b.drop a).take (lead 10 (b.drop a))).length=lead 10 (b.drop a):=by simp;omega
     rw [h4] at h3|-;simp only [hor,Nat.mul_zero,yL];exact zIq (by omega) (by omega) h9 h3
    have h2:=zFG b a (lead 10 (b.drop a)+1) hb (by omega) hbd (lead 10 (b.drop a)+1) (xB _);have hz:((b.drop a).take (lead 10 (b.drop a)+1)).drop (lead 10 (b.drop a)+1)=[]:=yb (by simp;omega);rw [hz] at h2;have e3:(((lead 10 (b.drop a)+1:Nat):Int) - 1)=((lead 10 (b.drop a):Nat):Int):=by push_cast;omega
    rw [e3] at h2;have h2':zes a b 0 ((lead 10 (b.drop a):Nat):Int)=some ((hor ((b.drop a).take (lead 10 (b.drop a)+1)):Nat):Int):=h2;rw [h2',sb,uV];simp [rdR]
theorem zyP:∀(k:Nat) (l:List UInt8),lead k (l.take k)=lead k l
 | 0,_=>rfl
 | _+1,[]=>rfl
 | k+1,c::t=>by simp only [yU,lead,zyP k t]
theorem zyO:∀(k:Nat) (l:List UInt8),(∀y∈l.take (lead k l),128<=y.toNat)/\∀(h:lead k l<l.length),lead k l<k->(l[lead k l]).toNat<128
 | 0,_=>⟨fun y hy=>by simp [lead] at hy,fun _ h=>by omega⟩
 | _+1,[]=>⟨fun y hy=>by simp at hy,fun h=>by simp at h⟩
 | k+1,c::t=>by
  obtain ⟨h1,h2⟩:=zyO k t;by_cases hc:128<=c.toNat
  ·have e:lead (k+1) (c::t)=lead k t+1:=by rw [lead,xw hc]
   constructor
   ·rw [e,yU];intro y hy;cases hy with
    | head=>exact hc
    | tail _ hy=>exact h1 y hy
   ·simp only [e,pT,yn];intro h hk;exact h2 (by omega) (by omega)
  ·have e:lead (k+1) (c::t)=0:=by rw [lead,xu hc]
   constructor
   ·rw [e];intro y hy;simp at hy
   ·simp only [e];intro _ _;simp;omega
theorem zHR (b:List UInt8):rd b=(0,0,4)\/(rd b=(0,0,3)/\b.length<=9)\/
  ∃x c y,b=x++c::y/\(∀z∈x,128<=z.toNat)/\c.toNat<128/\x.length<=9/\hor (x++[c])<18446744073709551616/\rd b=(((hor (x++[c]):Nat):Int),((x.length+1:Nat):Int),0):=by
 have hle:=zzU 10 b;have hs:=zzj (b.take 10) 0 0 (by simp;omega) (by omega);simp only [xE,qE,zyP,Nat.pow_zero,qK] at hs;unfold rd;rw [hs];by_cases h10:lead 10 b=10
 ·rw [xw h10];exact .inl rfl
 ·rw [xu h10];by_cases hl:lead 10 b=(b.take 10).length
  ·rw [xw hl];refine .inr (.inl ⟨rfl,?_⟩);rw [xK] at hl;omega
  ·rw [xu hl];rw [xK] at hl;have hlt:lead 10 b<b.length:=by omega
   have hg:(b.take 10).getD (lead 10 b) 0=b[lead 10 b]:=by
    rw [pc,yk,xw (by omega),xH hlt];rfl
   rw [hg,qZ,yN (by omega)];have hc:=(b[lead 10 b]).toNat_lt;by_cases h9:lead 10 b=9/\1<(b[lead 10 b]).toNat
   ·rw [xw h9];exact .inl rfl
   ·rw [xu h9];obtain ⟨hf1,hf2⟩:=zyO 10 b;have hsp:b.take (lead 10 b+1)=b.take (lead 10 b)++[b[lead 10 b]]:=by
     rw [List.take_add_one,xH hlt];rfl
    have hlen:(b.take (lead 10 b)).length=lead 10 b:=by rw [xK];omega
    refine .inr (.inr ⟨b.take (lead 10 b),b[lead 10 b],b.drop (lead 10 b+1),?_,hf1,hf2 hlt (by omega),by omega,?_,?_⟩)
    ·rw [<-xQ hlt,qF]
    ·rw [zwL];have h3:=zGQ (b.take (lead 10 b));rw [hlen] at h3|-;simp only [hor,Nat.mul_zero,yL];exact zIq (by omega) (by omega) h9 h3
    ·rw [hsp,hlen];simp [rdR]
theorem all_nil (acc:List Int):zsA [] acc=some (.inl acc):=by
 refine zul ?_;unfold zlm;rw [itF (by simp)]
def zjb (n w:Int):Bool:=decide (1<=n/\n<=536870911/\(w=0\/w=1\/w=2\/w=5))
def tgR (r:Int×Int×Int):Int×Int×Int×Int:=
 if r.2.2≠0 then (0,0,0,r.2.2) else if 4294967295<r.1\/zjb (r.1/8) (r.1%8)=false then (0,0,0,5) else (r.1/8,r.1%8,r.2.1,0)
def tg (l:List UInt8):Int×Int×Int×Int:=tgR (rd l)
theorem zxN {n w:Int}:zjb n w=true↔1<=n/\n<=536870911/\(w=0\/w=1\/w=2\/w=5):=by simp [zjb]
theorem zBQ (n w:Int):zgA n w=some (zjb n w):=by
 unfold zgA zjb;simp [Bool.decide_and,Bool.decide_or,Bool.beq_eq_decide_eq]
theorem zlc (l:List UInt8):0<=(rd l).1/\(rd l).1<18446744073709551616/\0<=(rd l).2.1/\(rd l).2.1<=10/\(rd l).2.1<=l.length/\((rd l).2.2=0\/(rd l).2.2=3\/(rd l).2.2=4)/\((rd l).2.2=0->1<=(rd l).2.1):=by
 rcases zHR l with h| ⟨h,_⟩| ⟨x,c,y,e,_,_,hl,hv,h⟩
 ·rw [h];simp
 ·rw [h];simp
 ·have:l.length=x.length+1+y.length:=by rw [e];simp;omega
  rw [h];refine ⟨?_,?_,?_,?_,?_,.inl rfl,fun _=>?_⟩<;>simp only<;>omega
theorem zAv (h:r.2.2≠0):tgR r=(0,0,0,r.2.2):=xw h
theorem zry (h:r.2.2=0) (h2:4294967295<r.1\/zjb (r.1/8) (r.1%8)=false):tgR r=(0,0,0,5):=by unfold tgR;rw [xu (by simp [h]),xw h2]
theorem zDC (h:r.2.2=0) (h2:¬(4294967295<r.1\/zjb (r.1/8) (r.1%8)=false)):tgR r=(r.1/8,r.1%8,r.2.1,0):=by unfold tgR;rw [xu (by simp [h]),xu h2]
theorem zxP (l:List UInt8):(∃c,tg l=(0,0,0,c)/\(c=3\/c=4\/c=5))\/∃n w k,tg l=(n,w,k,0)/\zjb n w=true/\1<=k/\k<=10/\k<=l.length/\rd l=(8*n+w,k,0):=by
 obtain ⟨h1,h2,h3,h4,h5,h6,h7⟩:=zlc l;unfold tg;by_cases h:(rd l).2.2=0
 ·by_cases hg:4294967295<(rd l).1\/zjb ((rd l).1/8) ((rd l).1%8)=false
  ·exact .inl ⟨5,zry h hg,by omega⟩
  ·refine .inr ⟨_,_,_,zDC h hg,?_,h7 h,h4,h5,?_⟩
   ·cases ht:zjb ((rd l).1/8) ((rd l).1%8)
    ·exact absurd (.inr ht) hg
    ·rfl
   ·refine Prod.ext ?_ (Prod.ext rfl h);simp only;omega
 ·exact .inl ⟨_,zAv h,by omega⟩
theorem zAi (b:List UInt8) (a:Nat) (hb:b.length<=1152921504606846976) (ha:a<=b.length):zhe b a=some (tg (b.drop a)):=by
 unfold zhe tg;obtain ⟨h1,h2,h3,h4,h5,h6,h7⟩:=zlc (b.drop a);rw [zDt b a hb ha,sb];by_cases h:(rd (b.drop a)).2.2=0
 ·rw [itF (by simpa using h)];have e1:IntKind.i64.wrap (IntKind.u64.wrap (Int.tdiv (rd (b.drop a)).1 8))=(rd (b.drop a)).1/8:=by
   rw [pQ h1,zjX,pq (by omega) (by omega),uV]
  have e2:IntKind.i64.wrap (Int.tmod (rd (b.drop a)).1 8)=(rd (b.drop a)).1%8:=by
   rw [yT h1,uV]
  simp only [e1,e2,zBQ,sb];by_cases hg:4294967295<(rd (b.drop a)).1
  ·rw [itT (by simpa using hg),sb,itT (by rfl),zry h (.inl hg)]
  ·rw [itF (by simpa using hg),sb];cases ht:zjb ((rd (b.drop a)).1/8) ((rd (b.drop a)).1%8)
   ·rw [itT (by rfl),zry h (.inr ht)]
   ·rw [itF (by rfl),zDC h (by simp [ht];omega)]
 ·rw [itT (by simpa using h),zAv h]
abbrev Rec:=zD
def ziv (w:Int) (k:Nat) (m:List UInt8):Int⊕(Nat×Nat):=
 if w=0 then (if (rd m).2.2≠0 then .inl (rd m).2.2 else .inr (k,k+(rd m).2.1.toNat))
 else if w=2 then (if (rd m).2.2≠0 then .inl (rd m).2.2 else if (m.length:Int) - (rd m).2.1<(rd m).1 then .inl 3 else .inr (k+(rd m).2.1.toNat,k+(rd m).2.1.toNat+(rd m).1.toNat))
 else if m.length<(if w=5 then 4 else 8) then .inl 3 else .inr (k,k+(if w=5 then 4 else 8))
def rec5 (l:List UInt8):Int⊕(Int×Int×Nat×Nat):=
 if (tg l).2.2.2≠0 then .inl (tg l).2.2.2 else match ziv (tg l).2.1 (tg l).2.2.1.toNat (l.drop (tg l).2.2.1.toNat) with
  | .inl c=> .inl c
  | .inr p=> .inr ((tg l).1,(tg l).2.1,p.1,p.2)
theorem zvg (w:Int) (k:Nat) (m:List UInt8):(∃c,ziv w k m= .inl c/\(c=3\/c=4))\/
  ∃a t,ziv w k m= .inr (a,t)/\k<=a/\a<=t/\t<=k+m.length/\
   (w=0/\a=k/\(rd m).2.2=0/\((t - k:Nat):Int)=(rd m).2.1/\k<t\/w=2/\(rd m).2.2=0/\((a - k:Nat):Int)=(rd m).2.1/\((t - a:Nat):Int)=(rd m).1\/w≠0/\w≠2/\a=k/\t=k+(if w=5 then 4 else 8)):=by
 obtain ⟨h1,h2,h3,h4,h5,h6,h7⟩:=zlc m;unfold ziv;by_cases w0:w=0
 ·rw [xw w0];by_cases h:(rd m).2.2=0
  ·have:=h7 h;rw [xu (by simpa using h)];exact .inr ⟨_,_,rfl,xB _,by omega,by omega,.inl ⟨w0,rfl,h,by omega,by omega⟩⟩
  ·rw [xw h];exact .inl ⟨_,rfl,by omega⟩
 ·rw [xu w0];by_cases w2:w=2
  ·rw [xw w2];by_cases h:(rd m).2.2=0
   ·rw [xu (by simpa using h)];by_cases h8:(m.length:Int) - (rd m).2.1<(rd m).1
    ·rw [xw h8];exact .inl ⟨_,rfl,by omega⟩
    ·rw [xu h8];exact .inr ⟨_,_,rfl,by omega,by omega,by omega,.inr (.inl ⟨w2,h,by omega,by omega⟩)⟩
   ·rw [xw h];exact .inl ⟨_,rfl,by omega⟩
  ·rw [xu w2];by_cases h8:m.length<(if w=5 then 4 else 8)
   ·rw [xw h8];exact .inl ⟨_,rfl,by omega⟩
   ·rw [xu h8];exact .inr ⟨_,_,rfl,xB _,by omega,by omega,.inr (.inr ⟨w0,w2,rfl,rfl⟩)⟩
theorem zDs (l:List UInt8):(∃c,rec5 l= .inl c/\(c=3\/c=4\/c=5))\/
  ∃(n w:Int) (k a t:Nat),rec5 l= .inr (n,w,a,t)/\tg l=(n,w,(k:Int),0)/\zjb n w=true/\ziv w k (l.drop k)= .inr (a,t)/\1<=k/\k<=l.length/\k<=a/\a<=t/\t<=l.length/\rd l=(8*n+w,(k:Int),0):=by
 rcases zxP l with ⟨c,h,hc⟩| ⟨n,w,k,h,hr,k1,k2,k3,hrd⟩
 ·refine .inl ⟨c,?_,hc⟩;unfold rec5;rw [h,xw (by simp only;omega)]
 ·obtain ⟨k,rfl⟩:∃j:Nat,k=j:=⟨k.toNat,by omega⟩
  have e:rec5 l=match ziv w k (l.drop k) with
   | .inl c=> .inl c
   | .inr p=> .inr (n,w,p.1,p.2):=by unfold rec5;rw [h];simp
  rcases zvg w k (l.drop k) with ⟨c,h2,hc⟩| ⟨a,t,h2,g1,g2,g3,_⟩
  ·exact .inl ⟨c,by rw [e,h2],by omega⟩
  ·simp only [yq] at g3;exact .inr ⟨n,w,k,a,t,by rw [e,h2],h,hr,h2,by omega,by omega,g1,g2,by omega,hrd⟩
def zrec:Rec:=⟨0,0,0,0,0⟩
def ztN (b:List UInt8) (at5:Int):Rec×Int:=if at5<0\/at5>=b.length then (zrec,2) else match rec5 (b.drop at5.toNat) with
 | .inl c=>(zrec,c)
 | .inr (n,w,a,t)=>(⟨n,w,at5,at5+a,at5+t⟩,0)
theorem zBO (hb:b.length<=140737488355328) (at5:Int):zhg b at5=some (ztN b at5):=by
 unfold zhg ztN;by_cases h:at5<0\/at5>=b.length
 ·rw [itT (by simpa using h),xw h];rfl
 ·rw [itF (by simpa using h),xu h];obtain ⟨p,rfl⟩:∃p:Nat,at5=p:=⟨at5.toNat,by omega⟩;rw [zAi b p (by omega) (by omega),sb,yp];have hdl:(b.drop p).length=b.length - p:=by simp
  rcases zxP (b.drop p) with ⟨c,ht,hc⟩| ⟨n,w,k,ht,hr,k1,k2,k3,hrd⟩
  ·have e:rec5 (b.drop p)= .inl c:=by unfold rec5;rw [ht,xw (by simp only;omega)]
   rw [e,ht,uT];rfl
  ·obtain ⟨k,rfl⟩:∃j:Nat,k=j:=⟨k.toNat,by omega⟩
   have e:rec5 (b.drop p)=match ziv w k ((b.drop p).drop k) with
    | .inl c=> .inl c
    | .inr p=> .inr (n,w,p.1,p.2):=by unfold rec5;rw [ht];simp
   have hdd:(b.drop p).drop k=b.drop (p+k):=by rw [qo]
   have hml:(b.drop (p+k)).length=b.length - (p+k):=by simp
   obtain ⟨h1,h2,h3,h4,h5,h6,h7⟩:=zlc (b.drop (p+k));rw [e,ht,itF (by simp),hdd];have ew:IntKind.i64.wrap ((p:Int)+k)=((p+k:Nat):Int):=by rw [uV];push_cast;rfl
   have er:IntKind.i64.wrap ((b.length:Int) - ((p+k:Nat):Int))=((b.length - (p+k):Nat):Int):=by rw [uV];omega
   simp only [ew,er];have hw:=(zxN.1 hr).2.2;rcases hw with rfl| rfl| rfl| rfl
   ·-- a varint
    rw [itF (by rfl),sb,itT (by rfl),zDt b (p+k) (by omega) (by omega),sb];by_cases g:(rd (b.drop (p+k))).2.2=0
    ·have:=h7 g;have hb5:ziv 0 k (b.drop (p+k))= .inr (k,k+(rd (b.drop (p+k))).2.1.toNat):=by unfold ziv;rw [xw rfl,xu (by simpa using g)]
     rw [itF (by simpa using g),sb,hb5];simp only;rw [itF (by rfl),sb];simp only;rw [uU,uV];simp;omega
    ·have hb5:ziv 0 k (b.drop (p+k))= .inl (rd (b.drop (p+k))).2.2:=by unfold ziv;rw [xw rfl,xw g]
     rw [itT (by simpa using g),sb,hb5];rfl
   ·rw [itF (by rfl),sb,itF (by rfl),sb];simp only;rw [itF (by rfl),sb];unfold ziv;rw [xu (by omega),xu (by omega)];simp only;by_cases g:b.length - (p+k)<8
    ·rw [uT,xw (by simpa [hml] using g)];rfl
    ·rw [uU,xu (by simpa [hml] using g),uV];simp;omega
   ·rw [itF (by rfl),sb,itF (by rfl),sb];simp only;rw [itT (by rfl),zDt b (p+k) (by omega) (by omega),sb];by_cases g:(rd (b.drop (p+k))).2.2=0
    ·have:=h7 g;have e1:IntKind.i64.wrap (((b.length - (p+k):Nat):Int) - (rd (b.drop (p+k))).2.1)=((b.drop (p+k)).length:Int) - (rd (b.drop (p+k))).2.1:=by rw [uV,hml]
     have e2:IntKind.u64.wrap (((b.drop (p+k)).length:Int) - (rd (b.drop (p+k))).2.1)=((b.drop (p+k)).length:Int) - (rd (b.drop (p+k))).2.1:=by rw [zjX,pq (by omega) (by omega)]
     rw [itF (by simpa using g)];simp only [e1,e2];by_cases g2:((b.drop (p+k)).length:Int) - (rd (b.drop (p+k))).2.1<(rd (b.drop (p+k))).1
     ·have hb5:ziv 2 k (b.drop (p+k))= .inl 3:=by unfold ziv;rw [xu (by omega),xw rfl,xu (by simpa using g),xw g2]
      rw [itT (by simpa using g2),sb,hb5];rfl
     ·have hb5:ziv 2 k (b.drop (p+k))= .inr (k+(rd (b.drop (p+k))).2.1.toNat,k+(rd (b.drop (p+k))).2.1.toNat+(rd (b.drop (p+k))).1.toNat):=by
       unfold ziv;rw [xu (by omega),xw rfl,xu (by simpa using g),xu g2]
      rw [itF (by simpa using g2),sb,hb5];simp only;rw [zx (x:=(rd (b.drop (p+k))).1) (by omega),itF (by simpa using g2),zx (x:=((p+k:Nat):Int)+(rd (b.drop (p+k))).2.1) (by omega),uV];simp;omega
    ·have hb5:ziv 2 k (b.drop (p+k))= .inl (rd (b.drop (p+k))).2.2:=by unfold ziv;rw [xu (by omega),xw rfl,xw g]
     rw [itT (by simpa using g),sb,hb5];rfl
   ·rw [itT (by rfl),sb,itF (by rfl),sb];simp only;rw [itF (by rfl),sb];unfold ziv;rw [xu (by omega),xu (by omega)];simp only;by_cases g:b.length - (p+k)<4
    ·rw [uT,xw (by simpa [hml] using g)];rfl
    ·rw [uU,xu (by simpa [hml] using g),uV];simp;omega
def spl (base:Nat) (l:List UInt8):List Rec×Option (Nat×Int):=
 if hl:l=[] then ([],none) else match h:rec5 l with
  | .inl c=>([],some (base,c))
  | .inr (n,w,a,t)=>(⟨n,w,base,(base+a:Nat),(base+t:Nat)⟩::(spl (base+t) (l.drop t)).1,(spl (base+t) (l.drop t)).2)
termination_by l.length
decreasing_by
 all_goals
  rcases zDs l with ⟨c',h',_⟩| ⟨n',w',k',a',t',h',_,_,_,g1,g2,g3,g4,g5,_⟩
  ·rw [h'] at h;cases h
  ·rw [h'] at h;cases h;simp only [yq];omega
def zKN (w:Int) (v:List UInt8):Bool:=
 if w=0 then decide ((rd v).2.2=0/\(rd v).2.1=v.length) else decide (w=2\/w=1/\v.length=8\/w=5/\v.length=4)
theorem zHf :kNum k=true↔1<=k/\k<=14:=by simp [kNum]
def zEL (k:Int) (l:List UInt8):Int⊕Nat:=
 if k<9 then (if (rd l).2.2≠0 then .inl (rd l).2.2 else .inr (rd l).2.1.toNat) else if l.length<(if k<12 then 4 else 8) then .inl 3 else .inr (if k<12 then 4 else 8)
theorem zCj (k:Int) (l:List UInt8):(∃c,zEL k l= .inl c/\(c=3\/c=4))\/∃n,zEL k l= .inr n/\1<=n/\n<=l.length/\n<=10/\(k<9/\(rd l).2.2=0/\(rd l).2.1=(n:Int)\/¬k<9/\n=(if k<12 then 4 else 8)):=by
 obtain ⟨h1,h2,h3,h4,h5,h6,h7⟩:=zlc l;unfold zEL;by_cases h:k<9
 ·rw [xw h];by_cases h0:(rd l).2.2=0
  ·have:=h7 h0;rw [xu (by simpa using h0)];exact .inr ⟨_,rfl,by omega,by omega,by omega,.inl ⟨h,h0,by omega⟩⟩
  ·rw [xw h0];exact .inl ⟨_,rfl,by omega⟩
 ·rw [xu h];by_cases h8:l.length<(if k<12 then 4 else 8)
  ·rw [xw h8];exact .inl ⟨_,rfl,by omega⟩
  ·rw [xu h8];exact .inr ⟨_,rfl,by split<;>omega,by omega,by split<;>omega,.inr ⟨h,rfl⟩⟩
def pcs (k:Int) (l:List UInt8):List (List UInt8)×Int:=
 if hl:l=[] then ([],0) else match h:zEL k l with
  | .inl c=>([],c)
  | .inr n=>(l.take n::(pcs k (l.drop n)).1,(pcs k (l.drop n)).2)
termination_by l.length
decreasing_by
 all_goals
  rcases zCj k l with ⟨c',h',_⟩| ⟨n',h',g1,g2,_⟩
  ·rw [h'] at h;cases h
  ·rw [h'] at h;cases h;simp only [yq];omega
def ends (base:Nat):List (List UInt8)->List Int
 | []=>[]
 | p::ps=>((base+p.length:Nat):Int)::ends (base+p.length) ps
def zGy (k:Int) (b:List UInt8):List Int×Int:=if kNum k=false then ([],2) else if (pcs k b).2=0 then (ends 0 (pcs k b).1,0) else ([],(pcs k b).2)
def zaM (m:Mes) (i:Int):Fld:=m.Fields.getD i.toNat ⟨[],0,0,false,false,0⟩
def vw (m:Mes) (n w:Int):Int⊕(Int×Bool):=
 if fldI m n<0 then .inr (-1,false)
 else if (zaM m (fldI m n)).Repeated=true/\kNum (zaM m (fldI m n)).Kind=true/\w=2 then .inr (fldI m n,true)
 else if zfz (zaM m (fldI m n)).Kind=false\/zyL (zaM m (fldI m n)).Kind≠w then .inl 6 else .inr (fldI m n,false)
theorem zpx (m:Mes) (n:Int):fldI m n= -1/\(∀f∈m.Fields,f.Number≠n)\/∃(i:Nat) (h:i<m.Fields.length),fldI m n=i/\m.Fields[i].Number=n/\∀(j:Nat) (h:j<m.Fields.length),j<i->m.Fields[j].Number≠n:=by
 unfold fldI;cases h:m.Fields.findIdx? (fun f:Fld=>f.Number==n) with
 | none=>
  left;rw [pt] at h;exact ⟨zkp (pt.2 h),fun f hf=>by simpa using h f hf⟩
 | some i=>
  right;have h':=h;rw [pu] at h;obtain ⟨hi,hp,hj⟩:=h;exact ⟨i,hi,zkq h',by simpa using hp,fun j hjl hji=>by simpa using hj j hji⟩
theorem ztB {m:Mes} {i:Nat} (h:i<m.Fields.length):zaM m (i:Int)=m.Fields[i]:=by
 unfold zaM;rw [yp,pc,xH h];rfl
def zaP (s:List Mes) (i:Int):Mes:=s.getD i.toNat ⟨[],[]⟩
theorem zjR {s:List Mes} {i:Nat} (h:i<s.length):zaP s (i:Int)=s[i]:=by
 unfold zaP;rw [yp,pc,xH h];rfl
def valB (b:List UInt8) (r:Rec):List UInt8:=(b.drop r.At.toNat).take (r.To.toNat - r.At.toNat)
abbrev zGe:=Option (Int->List UInt8->Option (Int×Int))
def zKi (f:Fld) (run:Bool) (sub:zGe) (r:Rec) (v:List UInt8):Option (Int×Int):=
 if run=true then (if (zGy f.Kind v).2≠0 then some (r.From,(zGy f.Kind v).2) else none)
 else if f.Kind=15/\zlW v=false then some (r.From,7)
 else if f.Kind=17 then (match sub with
  | none=>some (r.From,8)
  | some g=>match g f.Of v with
   | some (p,c)=>some (r.At+p,c)
   | none=>none)
 else none
def zKB (m:Mes) (sub:zGe) (b:List UInt8) (r:Rec):Option (Int×Int):=match vw m r.Number r.Wire with
 | .inl c=>some (r.From,c)
 | .inr (i,run)=>if i<0 then none else zKi (zaM m i) run sub r (valB b r)
def zGJ (m:Mes) (sub:zGe) (b:List UInt8) (x:List Rec×Option (Nat×Int)):Option (Int×Int):=match x.1.findSome? (zKB m sub b) with
 | some p=>some p
 | none=>x.2.map fun p=>((p.1:Int),p.2)
def zzH (s:List Mes):Nat->Int->List UInt8->Option (Int×Int)
 | 0,k,b=>zGJ (zaP s k) none b (spl 0 b)
 | d+1,k,b=>zGJ (zaP s k) (some (zzH s d)) b (spl 0 b)
def argS (s:List Mes) (root d:Int):Int:=if zgI s=false then 9 else if root<0\/root>=s.length\/d<0\/d>64 then 2 else 0
theorem zEV (h:argS s root d=0):zlQ s/\0<=root/\root<s.length/\0<=d/\d<=64:=by
 unfold argS at h;split at h
 ·omega
 ·rename_i h1;split at h
  ·omega
  ·rename_i h2;exact ⟨zzg (by simpa using h1),by omega⟩
abbrev zI:=List Int
def begB (way w:zI):Bool:=w.isPrefixOf way
theorem zmD {way w:zI}:begB way w=true↔w<+:way:=List.isPrefixOf_iff_prefix
def zdn:zI->zI->Bool
 | [],b=> !b.isEmpty
 | _::_,[]=>false
 | x::a,y::b=>if x=y then zdn a b else decide (x<y)
theorem zjj:∀(a:zI),zdn a a=false
 | []=>rfl
 | x::a=>by rw [zdn,xw rfl,zjj a]
theorem znE:∀(a b c:zI),zdn a b=true->zdn b c=true->zdn a c=true
 | [],b,c,h1,h2=>by
  cases c with
  | nil=>cases b<;>simp [zdn] at h2
  | cons=>rfl
 | _::_,[],_,h1,_=>by simp [zdn] at h1
 | _::_,_::_,[],_,h2=>by simp [zdn] at h2
 | x::a,y::b,z::c,h1,h2=>by
  rw [zdn] at h1 h2|-;by_cases hxy:x=y
  ·rw [xw hxy] at h1;by_cases hyz:y=z
   ·rw [xw hyz] at h2;rw [xw (hxy.trans hyz)];exact znE a b c h1 h2
   ·rw [xu hyz] at h2;rw [xu (by rw [hxy];exact hyz),hxy];exact h2
  ·rw [xu hxy] at h1;have h1':x<y:=by simpa using h1
   by_cases hyz:y=z
   ·rw [xu (by rw [<-hyz];exact hxy),<-hyz];exact h1
   ·rw [xu hyz] at h2;have h2':y<z:=by simpa using h2
    rw [xu (by omega)];simp;omega
theorem zvm:∀(a b:zI),a≠b->zdn a b=true\/zdn b a=true
 | [],[],h=>absurd rfl h
 | [],_::_,_=> .inl rfl
 | _::_,[],_=> .inr rfl
 | x::a,y::b,h=>by
  rw [zdn,zdn];by_cases hxy:x=y
  ·rw [xw hxy,xw hxy.symm];exact zvm a b (fun e=>h (by rw [hxy,e]))
  ·rw [xu hxy,xu (fun e=>hxy e.symm)];rcases Int.lt_or_gt_of_ne hxy with h'| h'
   ·left;simpa using h'
   ·right;simpa using h'
theorem zBs {a b:zI} (h:zdn a b=true):zdn b a=false:=by
 cases hb:zdn b a with
 | false=>rfl
 | true=>have:=znE a b a h hb;rw [zjj] at this;cases this
theorem zrw:∀(l k:List zI),l.Pairwise (fun a b=>zdn a b=true)->k.Pairwise (fun a b=>zdn a b=true)->(∀w,w∈l↔w∈k)->l=k
 | [],[],_,_,_=>rfl
 | [],y::k,_,_,h=>absurd ((h y).2 xx) (by simp)
 | x::l,[],_,_,h=>absurd ((h x).1 xx) (by simp)
 | x::l,y::k,hl,hk,h=>by
  have hl':=yr.1 hl;have hk':=yr.1 hk;have hxy:x=y:=by
   rcases xz.1 ((h x).1 xx) with h1| h1
   ·exact h1
   ·rcases xz.1 ((h y).2 xx) with h2| h2
    ·exact h2.symm
    ·have a1:=hk'.1 x h1;have a2:=hl'.1 y h2;rw [zBs a1] at a2;cases a2
  subst hxy;congr 1;refine zrw l k hl'.2 hk'.2 fun w=>?_
  have nl:x∉l:=fun hm=>by have:=hl'.1 x hm;rw [zjj] at this;cases this
  have nk:x∉k:=fun hm=>by have:=hk'.1 x hm;rw [zjj] at this;cases this
  have:=h w;simp only [xz] at this;constructor
  ·intro hw;rcases this.1 (.inr hw) with rfl| h'
   ·exact absurd hw nl
   ·exact h'
  ·intro hw;rcases this.2 (.inr hw) with rfl| h'
   ·exact absurd hw nk
   ·exact h'
def zEC (ways:List zI) (i:Nat) (w:zI) (k:Nat) (v:zI):Bool:=decide (k≠i)&& !v.isEmpty&&begB w v&&(decide (v.length<w.length)|| decide (k<i))
def badW (ways:List zI) (i:Nat) (w:zI):Nat->List zI->Bool
 | _,[]=>false
 | k,v::l=>zEC ways i w k v|| badW ways i w (k+1) l
def insL (w:zI) (out:List zI):List zI:=out.takeWhile (fun x=>zdn x w)++w::out.dropWhile (fun x=>zdn x w)
def ofK (ways:List zI):Nat->List zI
 | 0=>[]
 | i+1=>match ways[i]? with
  | some w=>if !w.isEmpty&& !badW ways i w 0 ways then insL w (ofK ways i) else ofK ways i
  | none=>ofK ways i
def ofW (ways:List zI):List zI:=ofK ways ways.length
theorem zGS {w x:zI} {out:List zI}:x∈insL w out↔x=w\/x∈out:=by
 unfold insL;have hs:out.takeWhile (fun x=>zdn x w)++out.dropWhile (fun x=>zdn x w)=out:=uy;constructor
 ·intro h;rcases xD.1 h with h| h
  ·exact .inr (by rw [<-hs];exact xU _ h)
  ·rcases xz.1 h with h| h
   ·exact .inl h
   ·exact .inr (by rw [<-hs];exact xV _ h)
 ·intro h;rcases h with rfl| h
  ·exact xV _ xx
  ·rw [<-hs] at h;rcases xD.1 h with h| h
   ·exact xU _ h
   ·exact xV _ (xy _ h)
theorem zDB {w:zI}:∀{l:List zI},∀x∈l.takeWhile (fun x=>zdn x w),zdn x w=true:=by
 intro l
 induction l with
 | nil=>intro x hx;simp at hx
 | cons y l ih=>
  intro x hx;rw [List.takeWhile_cons] at hx;by_cases hy:zdn y w=true
  ·rw [xw hy] at hx;rcases xz.1 hx with rfl| hx
   ·exact hy
   ·exact ih x hx
  ·rw [xu hy] at hx;cases hx
theorem zCQ {w:zI}:∀{l:List zI},l.Pairwise (fun a b=>zdn a b=true)->(w∉l)->∀x∈l.dropWhile (fun x=>zdn x w),zdn w x=true:=by
 intro l
 induction l with
 | nil=>intro _ _ x hx;simp at hx
 | cons y l ih=>
  intro hp hn x hx;rw [List.dropWhile_cons] at hx;have hp':=yr.1 hp;by_cases hy:zdn y w=true
  ·rw [xw hy] at hx;exact ih hp'.2 (fun h=>hn (xy _ h)) x hx
  ·rw [xu hy] at hx;have hwy:zdn w y=true:=by
    rcases zvm w y (fun e=>hn (by rw [e];exact xx)) with h| h
    ·exact h
    ·exact absurd h hy
   rcases xz.1 hx with rfl| hx
   ·exact hwy
   ·exact znE _ _ _ hwy (hp'.1 x hx)
theorem zBh {w:zI} {out:List zI} (hs:out.Pairwise (fun a b=>zdn a b=true)) (hn:w∉out):(insL w out).Pairwise (fun a b=>zdn a b=true):=by
 unfold insL;have hsp:out.takeWhile (fun x=>zdn x w)++out.dropWhile (fun x=>zdn x w)=out:=uy;have hp:(out.takeWhile (fun x=>zdn x w)++out.dropWhile (fun x=>zdn x w)).Pairwise (fun a b=>zdn a b=true):=by rw [hsp];exact hs
 rw [List.pairwise_append] at hp|-;have ht:=zDB (w:=w) (l:=out);have hd:=zCQ hs hn;refine ⟨hp.1,yr.2 ⟨hd,hp.2.1⟩,fun a ha b hb=>?_⟩;rcases xz.1 hb with rfl| hb
 ·exact ht a ha
 ·exact hp.2.2 a ha b hb
theorem zAL {ways:List zI} {i:Nat} {w:zI}:∀(l:List zI) (k:Nat),badW ways i w k l=true↔∃j v,l[j]? =some v/\zEC ways i w (k+j) v=true
 | [],k=>by simp [badW]
 | v::l,k=>by
  rw [badW,qk,zAL l (k+1)];constructor
  ·rintro (h| ⟨j,u,h1,h2⟩)
   ·exact ⟨0,v,rfl,by simpa using h⟩
   ·exact ⟨j+1,u,by simpa using h1,by rw [show k+(j+1)=k+1+j by omega];exact h2⟩
  ·rintro ⟨j,u,h1,h2⟩;cases j with
   | zero=>left;simp at h1;subst h1;simpa using h2
   | succ j=>right;exact ⟨j,u,by simpa using h1,by rw [show k+1+j=k+(j+1) by omega];exact h2⟩
def zwj (ways:List zI) (w:zI):Prop:=w∈ways/\w≠[]/\∀v∈ways,v≠[]->v<+:w->v=w
theorem zwK {ways:List zI} {i:Nat} {w:zI} (hi:ways[i]? =some w):(!w.isEmpty&& !badW ways i w 0 ways)=true↔zwj ways w/\∀j<i,ways[j]? ≠some w:=by
 rw [xA,ym,ym,<-pd,<-pd,zAL];have hw:w∈ways:=yR hi;have hok:∀(k:Nat) (v:zI),zEC ways i w k v=true↔k≠i/\v≠[]/\v<+:w/\(v.length<w.length\/k<i):=by
  intro k v;unfold zEC;simp only [xA,qk,xS,zmD,ym,qL];constructor
  ·rintro ⟨⟨⟨h1,h2⟩,h3⟩,h4⟩;exact ⟨h1,h2,h3,h4⟩
  ·rintro ⟨h1,h2,h3,h4⟩;exact ⟨⟨⟨h1,h2⟩,h3⟩,h4⟩
 constructor
 ·rintro ⟨h1,h2⟩;refine ⟨⟨hw,by simpa using h1,fun v hv hv0 hp=>?_⟩,fun j hj hje=>?_⟩
  ·obtain ⟨k,hk,rfl⟩:=qg hv;rcases qd (ways[k]).length w.length with hl| hl
   ·exfalso;refine h2 ⟨k,ways[k],xH hk,(hok _ _).2 ⟨fun e=>?_,hv0,hp,.inl hl⟩⟩;rw [xE] at e;subst e;rw [xH hk] at hi;cases hi;omega
   ·exact hp.eq_of_length (by have:=hp.length_le;omega)
  ·refine h2 ⟨j,w,hje,(hok _ _).2 ⟨by omega,by simpa using h1,qM w,.inr (by omega)⟩⟩
 ·rintro ⟨⟨_,h1,h2⟩,h3⟩;refine ⟨by simpa using h1,?_⟩;rintro ⟨k,v,hk,hv⟩;rw [xE] at hv;obtain ⟨g1,g2,g3,g4⟩:=(hok _ _).1 hv;have:=h2 v (yR hk) g2 g3;subst this;rcases g4 with g4| g4
  ·omega
  ·exact h3 k g4 hk
theorem zAd {ways:List zI}:∀(i:Nat),i<=ways.length->∀w,w∈ofK ways i↔zwj ways w/\∃j<i,ways[j]? =some w
 | 0,_,w=>by simp [ofK]
 | i+1,hi,w=>by
  have hil:i<ways.length:=hi;have ih:=zAd (ways:=ways) i (Nat.le_of_lt hil) w;obtain ⟨u,hg⟩:∃u,ways[i]? =some u:=⟨ways[i],xH hil⟩;rw [ofK,hg];simp only;by_cases hu:(!u.isEmpty&& !badW ways i u 0 ways)=true
  ·rw [xw hu,zGS,ih];obtain ⟨h1,h2⟩:=(zwK hg).1 hu;constructor
   ·rintro (rfl| ⟨h3,j,hj,hje⟩)
    ·exact ⟨h1,i,by omega,hg⟩
    ·exact ⟨h3,j,by omega,hje⟩
   ·rintro ⟨h3,j,hj,hje⟩;by_cases hji:j=i
    ·subst hji;rw [hg] at hje;cases hje;exact .inl rfl
    ·exact .inr ⟨h3,j,by omega,hje⟩
  ·rw [xu hu,ih];constructor
   ·rintro ⟨h3,j,hj,hje⟩;exact ⟨h3,j,by omega,hje⟩
   ·rintro ⟨h3,j,hj,hje⟩;by_cases hji:j=i
    ·subst hji;rw [hg] at hje;cases hje
     -- it stood there zGj
     have hn:¬∀k<j,ways[k]? ≠some w:=fun hk=>hu ((zwK hg).2 ⟨h3,hk⟩)
     simp only [Classical.not_forall,Classical.not_not] at hn;obtain ⟨k,hk,hke⟩:=hn;exact ⟨h3,k,hk,hke⟩
    ·exact ⟨h3,j,by omega,hje⟩
theorem zmn {ways:List zI} {w:zI}:w∈ofW ways↔zwj ways w:=by
 unfold ofW;rw [zAd _ (xB _)];refine ⟨fun h=>h.1,fun h=>⟨h,?_⟩⟩;obtain ⟨j,hj,rfl⟩:=qg h.1;exact ⟨j,hj,xH hj⟩
theorem zxh {ways:List zI}:∀(i:Nat),i<=ways.length->(ofK ways i).Pairwise (fun a b=>zdn a b=true)
 | 0,_=> .nil
 | i+1,hi=>by
  have hil:i<ways.length:=hi;have ih:=zxh (ways:=ways) i (Nat.le_of_lt hil);obtain ⟨u,hg⟩:∃u,ways[i]? =some u:=⟨ways[i],xH hil⟩;rw [ofK,hg];simp only;by_cases hu:(!u.isEmpty&& !badW ways i u 0 ways)=true
  ·rw [xw hu];obtain ⟨h1,h2⟩:=(zwK hg).1 hu;refine zBh ih fun hm=>?_
   obtain ⟨_,j,hj,hje⟩:=(zAd i (by omega) u).1 hm;exact h2 j hj hje
  ·rw [xu hu];exact ih
theorem zpF (ways:List zI):(ofW ways).Pairwise (fun a b=>zdn a b=true):=zxh _ (xB _)
theorem zEy {ways:List zI}:∀(i:Nat),(ofK ways i).length<=i
 | 0=>xB _
 | i+1=>by
  have ih:=zEy (ways:=ways) i;rw [ofK];split
  ·split
   ·unfold insL;have hs:∀(p:zI->Bool),((ofK ways i).takeWhile p).length+((ofK ways i).dropWhile p).length=(ofK ways i).length:=fun p=>by rw [<-yh,uy]
    rename_i w _ _;have:=hs (fun x=>zdn x w);simp only [yh,yn];omega
   ·omega
  ·omega
theorem zEz (ways:List zI):(ofW ways).length<=ways.length:=zEy _
def hasB (ways:List zI) (way:zI):Bool:=ways.any fun v=> !v.isEmpty&&begB way v
theorem zgm {ways:List zI} {way:zI}:hasB ways way=true↔∃v∈ways,v≠[]/\v<+:way:=by
 unfold hasB;rw [pK];constructor
 ·rintro ⟨v,hv,h⟩;simp only [xA,zmD,ym,qL] at h;exact ⟨v,hv,h.1,h.2⟩
 ·rintro ⟨v,hv,h1,h2⟩;exact ⟨v,hv,by simp only [xA,zmD,ym,qL];exact ⟨h1,h2⟩⟩
theorem zBE {a b:List zI} (h:∀way,hasB a way=hasB b way):ofW a=ofW b:=by
 have half:∀{a b:List zI},(∀way,hasB a way=hasB b way)->∀w,zwj a w->zwj b w:=by
  intro a b h w hw;have h1:hasB b w=true:=by rw [<-h];exact zgm.2 ⟨w,hw.1,hw.2.1,qM w⟩
  obtain ⟨v,hv,hv0,hvp⟩:=zgm.1 h1;have h2:hasB a v=true:=by rw [h];exact zgm.2 ⟨v,hv,hv0,qM v⟩
  obtain ⟨u,hu,hu0,hup⟩:=zgm.1 h2;have huw:=hw.2.2 u hu hu0 (hup.trans hvp);have hvw:v=w:=by
   subst huw;exact hvp.eq_of_length (by have:=hvp.length_le;have:=hup.length_le;omega)
  subst hvw;refine ⟨hv,hv0,fun x hx hx0 hxp=>?_⟩;have h3:hasB a x=true:=by rw [h];exact zgm.2 ⟨x,hx,hx0,qM x⟩
  obtain ⟨y,hy,hy0,hyp⟩:=zgm.1 h3;have:=hw.2.2 y hy hy0 (hyp.trans hxp);subst this;exact hxp.eq_of_length (by have:=hyp.length_le;have:=hxp.length_le;omega)
 exact zrw _ _ (zpF a) (zpF b) fun w=>by rw [zmn,zmn];exact ⟨half h w,half (fun way=>(h way).symm) w⟩
def WW (ways:List zI):Prop:=ways.length<=5864062014634/\∀w∈ways,w.length<=17592186043904
def zhW (m:List zI) (n:Int):Bool:=m.any fun v=>v==[n]
def zuU (n:Int):zI->Option zI
 | x::y::v=>if x=n then some (y::v) else none
 | _=>none
def zhy (m:List zI) (n:Int):List zI:=m.filterMap (zuU n)
def zhD (s:List Mes) (root:Int):Int:=if zgI s=false then 9 else if root<0\/root>=s.length then 2 else 0
theorem zAj {s:List Mes} (hw:WS s) (root:Int):zhh s root=some (zhD s root):=by
 unfold zhh zhD;rw [zyf hw,sb];cases h:zgI s
 ·rw [itT (c:= !false) rfl,xw (show false=false from rfl)]
 ·rw [itF (c:= !true) rfl,xu (show ¬(true=false) by simp)];by_cases h2:root<0\/root>=s.length
  ·rw [itT (by simpa using h2),xw h2]
  ·rw [uU,xu h2]
theorem zvf {s:List Mes} {root:Int} (h:zhD s root=0):zlQ s/\0<=root/\root<s.length:=by
 unfold zhD at h;split at h
 ·omega
 ·rename_i h1;split at h
  ·omega
  ·exact ⟨zzg (by simpa using h1),by omega⟩
abbrev Msg:=zc
abbrev Vlu:=za
mutual
def szM:Msg->Nat
 | ⟨vs,_⟩=>1+szVs vs
def szVs:List Vlu->Nat
 | []=>0
 | v::l=>szV v+szVs l
def szV:Vlu->Nat
 | ⟨_,_,_,s⟩=>1+szMs s
def szMs:List Msg->Nat
 | []=>0
 | x::l=>szM x+szMs l
end
theorem zcN (x:Msg):szM x=1+szVs x.Values:=by cases x;rw [szM]
theorem zeV (v:Vlu):szV v=1+szMs v.Subs:=by cases v;rw [szV]
theorem zdH :∀{l:List Vlu},v∈l->szV v<=szVs l
 | [],h=>by cases h
 | u::l,h=>by
  rw [szVs];rcases xz.1 h with rfl| h
  ·omega
  ·have:=zdH h;omega
theorem zeG :∀{l:List Msg},x∈l->szM x<=szMs l
 | [],h=>by cases h
 | u::l,h=>by
  rw [szMs];rcases xz.1 h with rfl| h
  ·omega
  ·have:=zeG h;omega
mutual
/-- Within the reach of what a law is handed. -/
def bdM:Msg->Prop
 | ⟨vs,u⟩=>vs.length*80<=140737488351232/\(u.length*16<=140737488351232/\∀t∈u,t.length<=140737488351232)/\bdVs vs
def bdVs:List Vlu->Prop
 | []=>True
 | v::l=>bdV v/\bdVs l
def bdV:Vlu->Prop
 | ⟨n,w,t,s⟩=>(Lit.int .i64 n).wf=true/\(w.length*8<=140737488351232/\∀x∈w,0<=x/\x<=18446744073709551615)/\(t.length*16<=140737488351232/\∀x∈t,x.length<=140737488351232)/\s.length*48<=140737488351232/\bdMs s
def bdMs:List Msg->Prop
 | []=>True
 | x::l=>bdM x/\bdMs l
end
theorem zhr (x:Msg):bdM x↔x.Values.length*80<=140737488351232/\(x.Unknown.length*16<=140737488351232/\∀t∈x.Unknown,t.length<=140737488351232)/\bdVs x.Values:=by cases x;simp only [bdM]
theorem zgS (v:Vlu):bdV v↔(Lit.int .i64 v.Number).wf=true/\(v.Words.length*8<=140737488351232/\∀x∈v.Words,0<=x/\x<=18446744073709551615)/\(v.Texts.length*16<=140737488351232/\∀x∈v.Texts,x.length<=140737488351232)/\v.Subs.length*48<=140737488351232/\bdMs v.Subs:=by cases v;simp only [bdV]
theorem zdB:∀{l:List Vlu},bdVs l↔∀v∈l,bdV v
 | []=>by simp [bdVs]
 | v::l=>by rw [bdVs,zdB (l:=l)];simp
theorem zeb:∀{l:List Msg},bdMs l↔∀v∈l,bdM v
 | []=>by simp [bdMs]
 | v::l=>by rw [bdMs,zeb (l:=l)];simp
section
open Classical
noncomputable def zmg {α:Type} (x y:α):Bool:=decide (x=y)
theorem zgv {α:Type} {x y:α}:zmg x y=true↔x=y:=by unfold zmg;simp
theorem zHY:∀(fuel:Nat),(∀x y:Msg,szM x<fuel->bdM x->zbW fuel x y=some (zmg x y))/\∀v u:Vlu,szV v<fuel->bdV v->zcX fuel v u=some (zmg v u)
 | 0=>⟨fun x y h=>by omega,fun v u h=>by omega⟩
 | fuel+1=>by
  obtain ⟨ih1,ih2⟩:=zHY fuel;refine ⟨fun x y hs hb=>?_,fun v u hs hb=>?_⟩
  ·obtain ⟨b1,⟨b2,b3⟩,b4⟩:=(zhr x).1 hb;rw [zcN] at hs;show zgk (zbW fuel) (zcX fuel) x y=_;unfold zgk;by_cases hl:x.Values.length=y.Values.length/\x.Unknown.length=y.Unknown.length
   ·rw [itF (by simp [hl.1,hl.2])];have hv:∀(i:Nat) (hi:i<x.Values.length) (hi':i<y.Values.length),zcX fuel x.Values[i] y.Values[i]=some (zmg x.Values[i] y.Values[i]):=fun i hi hi'=>by
     have hm:=xC hi;have:=zdH hm;exact ih2 _ _ (by omega) (zdB.1 b4 _ hm)
    have h1:=zmW x.Values y.Values (fun i=>zey x y (zcX fuel) i) hl.1 (by
      refine zjO ?_;unfold zbr;rw [itF (by simp)])
     (fun i hi hi'=>by
      by_cases hp:x.Values[i]=y.Values[i]
      ·rw [xw hp];refine zoh ?_;unfold zbr;rw [uT,zP rfl hi,sb,zP rfl hi',sb,hv i hi hi',sb,itF (by rw [zgv.2 hp];rfl),uV];push_cast;rfl
      ·rw [xu hp];refine zjO ?_;unfold zbr
       have:zmg x.Values[i] y.Values[i]=false:=by cases hq:zmg x.Values[i] y.Values[i] with
        | false=>rfl
        | true=>exact absurd (zgv.1 hq) hp
       rw [uT,zP rfl hi,sb,zP rfl hi',sb,hv i hi hi',sb,itT (by rw [this];rfl)])
     x.Values.length 0 (by omega)
    have h1':zey x y (zcX fuel) 0=_:=h1;have h2:=zmW x.Unknown y.Unknown (fun i=>zez x y i) hl.2 (by
      refine zjP ?_;unfold zbs;rw [itF (by simp)])
     (fun i hi hi'=>by
      by_cases hp:x.Unknown[i]=y.Unknown[i]
      ·rw [xw hp];refine zoi ?_;unfold zbs;rw [uT,zP rfl hi,sb,zP rfl hi',sb,itF (by simp [hp]),uV];push_cast;rfl
      ·rw [xu hp];refine zjP ?_;unfold zbs;rw [uT,zP rfl hi,sb,zP rfl hi',sb,itT (by simp [hp])])
     x.Unknown.length 0 (by omega)
    have h2':zez x y 0=_:=h2;rw [h1',sb];simp only [xX];by_cases e1:x.Values=y.Values
    ·rw [xw e1];simp only;rw [h2',sb];simp only [xX];by_cases e2:x.Unknown=y.Unknown
     ·rw [xw e2,zgv.2 (by cases x;cases y;simp only at e1 e2;rw [e1,e2])]
     ·rw [xu e2];cases hq:zmg x y with
      | false=>rfl
      | true=>exact absurd (by rw [zgv.1 hq]) e2
    ·rw [xu e1];cases hq:zmg x y with
     | false=>rfl
     | true=>exact absurd (by rw [zgv.1 hq]) e1
   ·rw [uT];cases hq:zmg x y with
    | false=>rfl
    | true=>exact absurd (by rw [zgv.1 hq];exact ⟨rfl,rfl⟩) hl
  ·obtain ⟨b0,⟨b1,_⟩,⟨b2,b3⟩,b4,b5⟩:=(zgS v).1 hb;rw [zeV] at hs;show zed (zbW fuel) (zcX fuel) v u=_;unfold zed;have no:(v.Number≠u.Number\/v.Words≠u.Words\/v.Texts≠u.Texts\/v.Subs≠u.Subs)->zmg v u=false:=fun h=>by
    cases hq:zmg v u with
    | false=>rfl
    | true=>
     have:=zgv.1 hq;subst this;rcases h with h| h| h| h<;>exact absurd rfl h
   by_cases hl:v.Number=u.Number/\v.Words.length=u.Words.length/\v.Texts.length=u.Texts.length/\v.Subs.length=u.Subs.length
   ·rw [itF (by simp [hl.1,hl.2.1,hl.2.2.1,hl.2.2.2])];have hv:∀(i:Nat) (hi:i<v.Subs.length) (hi':i<u.Subs.length),zbW fuel v.Subs[i] u.Subs[i]=some (zmg v.Subs[i] u.Subs[i]):=fun i hi hi'=>by
     have hm:=xC hi;have:=zeG hm;exact ih1 _ _ (by omega) (zeb.1 b5 _ hm)
    have h1:=zmW v.Words u.Words (fun i=>zcR v u i) hl.2.1 (by
      refine zib ?_;unfold zaB;rw [itF (by simp)])
     (fun i hi hi'=>by
      by_cases hp:v.Words[i]=u.Words[i]
      ·rw [xw hp];refine zlv ?_;unfold zaB;rw [uT,zP rfl hi,sb,zP rfl hi',sb,itF (by simp [hp]),uV];push_cast;rfl
      ·rw [xu hp];refine zib ?_;unfold zaB;rw [uT,zP rfl hi,sb,zP rfl hi',sb,itT (by simp [hp])])
     v.Words.length 0 (by omega)
    have h1':zcR v u 0=_:=h1;have h2:=zmW v.Texts u.Texts (fun i=>zcS v u i) hl.2.2.1 (by
      refine zic ?_;unfold zaC;rw [itF (by simp)])
     (fun i hi hi'=>by
      by_cases hp:v.Texts[i]=u.Texts[i]
      ·rw [xw hp];refine zlw ?_;unfold zaC;rw [uT,zP rfl hi,sb,zP rfl hi',sb,itF (by simp [hp]),uV];push_cast;rfl
      ·rw [xu hp];refine zic ?_;unfold zaC;rw [uT,zP rfl hi,sb,zP rfl hi',sb,itT (by simp [hp])])
     v.Texts.length 0 (by omega)
    have h2':zcS v u 0=_:=h2;have h3:=zmW v.Subs u.Subs (fun i=>zcT v u (zbW fuel) i) hl.2.2.2 (by
      refine zid ?_;unfold zaD;rw [itF (by simp)])
     (fun i hi hi'=>by
      by_cases hp:v.Subs[i]=u.Subs[i]
      ·rw [xw hp];refine zlx ?_;unfold zaD;rw [uT,zP rfl hi,sb,zP rfl hi',sb,hv i hi hi',sb,itF (by rw [zgv.2 hp];rfl),uV];push_cast;rfl
      ·rw [xu hp];refine zid ?_;unfold zaD
       have:zmg v.Subs[i] u.Subs[i]=false:=by cases hq:zmg v.Subs[i] u.Subs[i] with
        | false=>rfl
        | true=>exact absurd (zgv.1 hq) hp
       rw [uT,zP rfl hi,sb,zP rfl hi',sb,hv i hi hi',sb,itT (by rw [this];rfl)])
     v.Subs.length 0 (by omega)
    have h3':zcT v u (zbW fuel) 0=_:=h3;rw [h1',sb];simp only [xX];by_cases e1:v.Words=u.Words
    ·rw [xw e1];simp only;rw [h2',sb];simp only [xX];by_cases e2:v.Texts=u.Texts
     ·rw [xw e2];simp only;rw [h3',sb];simp only [xX];by_cases e3:v.Subs=u.Subs
      ·rw [xw e3,zgv.2 (by cases v;cases u;simp only at e1 e2 e3 hl;rw [hl.1,e1,e2,e3])]
      ·rw [xu e3,no (.inr (.inr (.inr e3)))]
     ·rw [xu e2,no (.inr (.inr (.inl e2)))]
    ·rw [xu e1,no (.inr (.inl e1))]
   ·rw [uT,no (by
     by_cases h0:v.Number=u.Number
     ·by_cases h1:v.Words=u.Words
      ·by_cases h2:v.Texts=u.Texts
       ·exact .inr (.inr (.inr fun h3=>hl ⟨h0,by rw [h1],by rw [h2],by rw [h3]⟩))
       ·exact .inr (.inr (.inl h2))
      ·exact .inr (.inl h1)
     ·exact .inl h0)]
end
theorem zpK (y:Msg) (hf:szM x<fuel) (hb:bdM x):zbW fuel x y=some (zmg x y):=(zHY fuel).1 x y hf hb
def zfM (v:Vlu):Nat:=v.Words.length+v.Texts.length+v.Subs.length
theorem zxx (hb:v.Words.length<=140737488351232/\v.Texts.length<=140737488351232/\v.Subs.length<=140737488351232):zdf v=some ((zfM v:Nat):Int):=by
 unfold zdf zfM;rw [zx (x:=(v.Words.length:Int)+(v.Texts.length:Int)) (by omega),uV];push_cast;rfl
def getM (x:Msg) (number:Int):Int:=zkD (fun v:Vlu=>v.Number==number) x.Values
theorem zFE {x:Msg} (hb:x.Values.length<=140737488351232) (number:Int):zhI x number=some (getM x number):=by
 have h:=zrN (fun v:Vlu=>v.Number==number) x.Values (fun i=>zfb number x i) (by
   refine zkm ?_;unfold zbH;rw [itF (by simp)])
  (fun i hi=>by
   by_cases hp:(x.Values[i]).Number=number
   ·rw [xw (by simpa using hp)];refine zkm ?_;unfold zbH;rw [uT,zP rfl hi,sb,itT (by simpa using hp)]
   ·rw [xu (by simpa using hp)];refine zoH ?_;unfold zbH;rw [uT,zP rfl hi,sb,itF (by simpa using hp),uV];push_cast;rfl)
  x.Values.length 0 (by omega) (fun j _ hj=>by omega)
 have h':zfb number x 0=_:=h;unfold zhI getM;rw [h',sb];cases hf:x.Values.findIdx? (fun v:Vlu=>v.Number==number) with
 | none=>rw [zkp hf]
 | some k=>rw [zkq hf]
mutual
def dM:Msg->Nat
 | ⟨vs,_⟩=>dVs vs
def dVs:List Vlu->Nat
 | []=>0
 | v::l=>max (dV v) (dVs l)
def dV:Vlu->Nat
 | ⟨_,_,_,s⟩=>dMs s
def dMs:List Msg->Nat
 | []=>0
 | x::l=>max (1+dM x) (dMs l)
end
theorem zGx (x:Msg):dM x=dVs x.Values:=by cases x;rw [dM]
theorem zDV (v:Vlu):dV v=dMs v.Subs:=by cases v;rw [dV]
theorem zzC :∀{l:List Vlu},v∈l->dV v<=dVs l
 | [],h=>by cases h
 | u::l,h=>by
  rw [dVs];rcases xz.1 h with rfl| h
  ·omega
  ·have:=zzC h;omega
theorem zDU :∀{l:List Msg},x∈l->1+dM x<=dMs l
 | [],h=>by cases h
 | u::l,h=>by
  rw [dMs];rcases xz.1 h with rfl| h
  ·omega
  ·have:=zDU h;omega
structure Th where
 fi:Int
 run:Bool
 val:List UInt8
 raw:List UInt8
abbrev zJw:=List UInt8×Bool×List Int×List Str×List Msg
mutual
/-- How much a meaning is, all together. -/
def wgM:Msg->Nat
 | ⟨vs,u⟩=>1+(u.map fun t=>1+t.length).sum+wgVs vs
def wgVs:List Vlu->Nat
 | []=>0
 | v::l=>wgV v+wgVs l
def wgV:Vlu->Nat
 | ⟨_,w,t,s⟩=>1+w.length+(t.map fun t=>1+t.length).sum+wgMs s
def wgMs:List Msg->Nat
 | []=>0
 | x::l=>wgM x+wgMs l
end
theorem zov (x:Msg):wgM x=1+(x.Unknown.map fun t=>1+t.length).sum+wgVs x.Values:=by cases x;rw [wgM]
theorem zlY (v:Vlu):wgV v=1+v.Words.length+(v.Texts.map fun t=>1+t.length).sum+wgMs v.Subs:=by cases v;rw [wgV]
theorem zCq {v:Vlu}:∀{l:List Vlu},v∈l->wgV v<=wgVs l
 | [],h=>by cases h
 | u::l,h=>by
  rw [wgVs];rcases xz.1 h with rfl| h
  ·omega
  ·have:=zCq h;omega
theorem zrF {x:Msg}:∀{l:List Msg},x∈l->wgM x<=wgMs l
 | [],h=>by cases h
 | u::l,h=>by
  rw [wgMs];rcases xz.1 h with rfl| h
  ·omega
  ·have:=zrF h;omega
theorem zAs {t:Str}:∀{l:List Str},t∈l->1+t.length<=(l.map fun t=>1+t.length).sum
 | [],h=>by cases h
 | u::l,h=>by
  rw [ye,pf];rcases xz.1 h with rfl| h
  ·omega
  ·have:=zAs h;omega
theorem zAr:∀{l:List Str},l.length<=(l.map fun t=>1+t.length).sum
 | []=>by simp
 | u::l=>by
  rw [ye,pf,yn];have:=zAr (l:=l);omega
theorem zCp:∀(l:List Vlu),l.length<=wgVs l
 | []=>by simp [wgVs]
 | u::l=>by rw [wgVs,yn,zlY];have:=zCp l;omega
theorem zCo:∀(l:List Msg),l.length<=wgMs l
 | []=>by simp [wgMs]
 | u::l=>by rw [wgMs,yn,zov];have:=zCo l;omega
def unkR (m:Mes) (u:Str):Bool:=(ztN u 0).2==0&&(ztN u 0).1.To==(u.length:Int)&&decide (fldI m (ztN u 0).1.Number<0)
def znO (f:Fld) (w:Int):Bool:=kNum f.Kind&&zjD f.Kind w==w
def zna (f:Fld) (t:Str):Bool:=f.Kind==16|| (f.Kind==15&&zlW t)
def zpU (f:Fld) (v:Vlu):Bool:=decide (0<zfM v)&&(decide (zfM v<=1)|| f.Repeated)&&zfz f.Kind
mutual
def zaw (s:List Mes):Msg->Int->Bool
 | ⟨vs,u⟩,k=>decide (0<=k/\k<s.length)&&zgP s vs (zaP s k) none&&u.all (unkR (zaP s k))
def zgP (s:List Mes):List Vlu->Mes->Option Int->Bool
 | [],_,_=>true
 | v::l,m,p=>decide (0<=fldI m v.Number)&&p.all (fun n=>decide (n<v.Number))&&zkN s v (zaM m (fldI m v.Number))&&zgP s l m (some v.Number)
def zkN (s:List Mes):Vlu->Fld->Bool
 | ⟨n,w,t,sub⟩,f=>zpU f ⟨n,w,t,sub⟩&&w.all (znO f)&&t.all (zna f)&&zsc s sub f
def zsc (s:List Mes):List Msg->Fld->Bool
 | [],_=>true
 | x::l,f=>(f.Kind==17&&zaw s x f.Of)&&zsc s l f
end
theorem zmv (s:List Mes) (x:Msg) (k:Int):zaw s x k=(decide (0<=k/\k<s.length)&&zgP s x.Values (zaP s k) none&&x.Unknown.all (unkR (zaP s k))):=by cases x;rw [zaw]
theorem ztA (s:List Mes) (v:Vlu) (f:Fld):zkN s v f=(zpU f v&&v.Words.all (znO f)&&v.Texts.all (zna f)&&zsc s v.Subs f):=by cases v;rw [zkN]
theorem zmT (s:List Mes) (f:Fld):∀(l:List Msg),zsc s l f=l.all fun x=>f.Kind==17&&zaw s x f.Of
 | []=>by rw [zsc];rfl
 | x::l=>by rw [zsc,zmT s f l];rfl
theorem ztt {α:Type} (p:α->Bool) (l:List α) (F:Bool->Int->Option Bool) (h0:∀a,F a (l.length:Int)=some a)
  (hs:∀(a:Bool) (i:Nat) (h:i<l.length),F a (i:Int)=F (a&&p l[i]) ((i+1:Nat):Int)):∀(c i:Nat) (a:Bool),i+c=l.length->F a (i:Int)=some (a&&(l.drop i).all p)
 | 0,i,a,h=>by
  have e:l.drop i=[]:=yb (by omega);have hi:i=l.length:=by omega
  rw [e,hi,h0];simp
 | c+1,i,a,h=>by
  have hd:l.drop i=l[i]::l.drop (i+1):=xQ (by omega);rw [hs a i (by omega),ztt p l F h0 hs c (i+1) _ (by omega),hd,yx,Bool.and_assoc]
def prv (vs:List Vlu) (i:Nat):Option Int:=if i=0 then none else (vs[i - 1]?).map (·.Number)
theorem zEF {s:List Mes} (hs:zlQ s):∀(fuel:Nat),(∀(v:Vlu) (f:Fld),szV v<fuel->bdV v->zeO fuel s f v=some (zkN s v f))/\
  ∀(x:Msg) (k:Int),szM x<fuel->bdM x->zcW fuel s k x=some (zaw s x k)
 | 0=>⟨fun v f h=>by omega,fun x k h=>by omega⟩
 | fuel+1=>by
  obtain ⟨ih1,ih2⟩:=zEF hs fuel;refine ⟨fun v f hsz hb=>?_,fun x k hsz hb=>?_⟩
  ·obtain ⟨_,⟨b1,b1'⟩,⟨b2,b3⟩,b4,b5⟩:=(zgS v).1 hb;rw [zeV] at hsz;show zgj (zeO fuel) (zcW fuel) s f v=_;unfold zgj;rw [ztA];have hg:(zdf v>>=fun rv=>if (rv==0)=true then some true else (zdf v>>=fun rv2=>if (decide (rv2>1))=true then (if (!f.Repeated)=true then some true else (zcV f.Kind>>=fun rv3=>some (!rv3))) else (zcV f.Kind>>=fun rv4=>some (!rv4))))=some (!zpU f v):=by
    rw [zxx ⟨by omega,by omega,by omega⟩,sb,sb,ztU,sb];unfold zpU;by_cases h0:zfM v=0
    ·rw [itT (by simp [h0])];simp [h0]
    ·rw [uU];by_cases h1:zfM v>1
     ·rw [uT];cases hr:f.Repeated
      ·rw [itT (by rfl)];simp;omega
      ·rw [itF (by rfl)];simp;omega
     ·rw [uU];simp;omega
   rw [hg,sb];by_cases hm:zpU f v=true
   ·rw [itF (by rw [hm];rfl),hm,xR];have h1:=ztt (znO f) v.Words (fun a i=>zev f v a i) (fun a=>by
      refine zoc ?_;unfold zbR;rw [itF (by simp)])
     (fun a i hi=>by
      refine zob ?_;unfold zbR;have hx:idx v.Words (i:Int)=some v.Words[i]:=zP rfl hi;rw [uT,hx,sb,zxw,sb,zBM _ (b1' _ (xC hi)),sb,sb,uV];unfold znO;cases a
      ·rw [itF (by rfl),sb];push_cast;rfl
      ·rw [itT (by rfl)];cases kNum f.Kind
       ·rw [itF (by rfl),sb];push_cast;rfl
       ·rw [itT (by rfl),sb];push_cast;rfl) v.Words.length 0 true (xE _)
    have h1':zev f v true 0=_:=h1;rw [h1',sb,xX,xR];have h2:=ztt (zna f) v.Texts (fun a i=>zew f v a i) (fun a=>by
      refine zoe ?_;unfold zbS;rw [itF (by simp)])
     (fun a i hi=>by
      refine zod ?_;unfold zbS;have hx:idx v.Texts (i:Int)=some v.Texts[i]:=zP rfl hi;have hl:=b3 _ (xC hi);rw [uT,hx,sb,uV];have e:lenO v.Texts[i]=some v.Texts[i]:=by unfold lenO;rw [xw (by omega)]
      rw [e,sb,zAk (by omega),sb];unfold zna;cases a
      ·rw [itF (by rfl),sb];push_cast;rfl
      ·rw [itT (by rfl)];by_cases h16:f.Kind=16
       ·rw [itT (by simpa using h16),sb];simp [h16]
       ·rw [itF (by simpa using h16)];by_cases h15:f.Kind=15
        ·rw [itT (by simpa using h15),sb];simp [h15]
        ·rw [itF (by simpa using h15),sb];simp [h15,h16]) v.Texts.length 0 (v.Words.all (znO f)) (xE _)
    have h2':zew f v (v.Words.all (znO f)) 0=_:=h2;rw [h2',sb,xX];have h3:=ztt (fun x=>f.Kind==17&&zaw s x f.Of) v.Subs (fun a i=>zex f (zcW fuel) s v a i) (fun a=>by
      refine zog ?_;unfold zbT;rw [itF (by simp)])
     (fun a i hi=>by
      refine zof ?_;unfold zbT;have hx:idx v.Subs (i:Int)=some v.Subs[i]:=zP rfl hi;have hmem:=xC hi;have s1:=zeG hmem;rw [uT,hx,sb,uV,ih2 _ f.Of (by omega) (zeb.1 b5 _ hmem),sb];cases a
      ·rw [itF (by rfl),sb];push_cast;rfl
      ·rw [itT (by rfl)];by_cases h17:f.Kind=17
       ·rw [itT (by simpa using h17),sb];simp [h17]
       ·rw [itF (by simpa using h17),sb];simp [h17]) v.Subs.length 0 (v.Words.all (znO f)&&v.Texts.all (zna f)) (xE _)
    have h3':zex f (zcW fuel) s v (v.Words.all (znO f)&&v.Texts.all (zna f)) 0=_:=h3;rw [h3',sb,xX,zmT]
   ·have hm':zpU f v=false:=by simpa using hm
    rw [itT (by rw [hm'];rfl),hm'];rfl
  ·obtain ⟨b1,⟨b2,b3⟩,b4⟩:=(zhr x).1 hb;rw [zcN] at hsz;show zfJ (zeO fuel) (zcW fuel) s k x=_;unfold zfJ;rw [zmv];by_cases hk:0<=k/\k<s.length
   ·rw [uU,ya hk,xR];obtain ⟨n,rfl⟩:∃n:Nat,k=n:=⟨k.toNat,by omega⟩;have hn:n<s.length:=by omega
    have hm:idx s (n:Int)=some (zaP s n):=by rw [zP rfl hn,zjR hn]
    have hmm:zaP s (n:Int)∈s:=by rw [zjR hn];exact xC hn
    have hfew:=hs.few _ hmm
    generalize zaP s (n:Int)=m at hm hmm hfew|-
    have hv:∀(c i:Nat),i+c=x.Values.length->zdS (zeO fuel) n s x i=some (if zgP s (x.Values.drop i) m (prv x.Values i)=true then .inl () else .inr ()):=by
     intro c
     induction c with
     | zero=>
      intro i hi;have e:x.Values.drop i=[]:=yb (by omega);rw [e,zgP,xw rfl];refine zjw ?_;unfold zba;rw [uU]
     | succ c ih=>
      intro i hi;have hil:i<x.Values.length:=by omega
      have hd:x.Values.drop i=x.Values[i]::x.Values.drop (i+1):=xQ hil;have hx:idx x.Values (i:Int)=some x.Values[i]:=zP rfl hil;have hmem:=xC hil;have s1:=zdH hmem;have hp1:prv x.Values (i+1)=some (x.Values[i]).Number:=by unfold prv;rw [xu (by omega)];simp [hil]
      rw [hd,zgP];have hbody:zba (zeO fuel) n s x i=if (decide (0<=fldI m (x.Values[i]).Number)&&(prv x.Values i).all (fun q=>decide (q<(x.Values[i]).Number))&&zkN s x.Values[i] (zaM m (fldI m (x.Values[i]).Number)))=true then some (.inl ((i+1:Nat):Int)) else some (.inr (.inr ())):=by
       unfold zba;have hw1:IntKind.i64.wrap ((i:Int)+1)=((i+1:Nat):Int):=by rw [uV];push_cast;rfl
       rw [uT,hm,sb,hx,sb,zrm (by omega),sb,hw1];rcases zpx m (x.Values[i]).Number with ⟨hf,_⟩| ⟨j,hj,hf,_⟩
       ·rw [hf,itT (by rfl),sb,itT (by rfl),xu (by simp)]
       ·have hfj:idx m.Fields (j:Int)=some (zaM m (j:Int)):=by rw [zP rfl hj,ztB hj]
        have hfit:=ih1 x.Values[i] (zaM m (j:Int)) (by omega) (zdB.1 b4 _ hmem);rw [hf,itF (by simp)];by_cases hi0:i=0
        ·subst hi0;rw [itF (by simp),sb,hfj,sb,sb,hfit,sb,sb];unfold prv;cases hfv:zkN s x.Values[0] (zaM m (j:Int))
         ·rw [itT (by rfl),xu (by simp)]
         ·rw [itF (by rfl),xw (by simp)]
        ·have hi1:i - 1<x.Values.length:=by omega
         have hxp:idx x.Values (IntKind.i64.wrap ((i:Int) - 1))=some x.Values[i - 1]:=by
          rw [uV];exact zP (by omega) hi1
         have hpv:prv x.Values i=some (x.Values[i - 1]).Number:=by unfold prv;rw [xu hi0];simp [hi1]
         rw [uT,hxp,sb,sb,hpv];by_cases hlt:(x.Values[i - 1]).Number<(x.Values[i]).Number
         ·rw [itF (by simpa using hlt),sb,hfj,sb,sb,hfit,sb,sb];cases hfv:zkN s x.Values[i] (zaM m (j:Int))
          ·rw [itT (by rfl),xu (by simp)]
          ·rw [itF (by rfl),xw (by simp [hlt])]
         ·rw [itT (by simpa using hlt),sb,itT (by rfl),xu (by simp;omega)]
      generalize (decide (0<=fldI m (x.Values[i]).Number)&&(prv x.Values i).all (fun q=>decide (q<(x.Values[i]).Number))&&zkN s x.Values[i] (zaM m (fldI m (x.Values[i]).Number)))=bb at hbody|-
      cases bb
      ·rw [xu (by simp)] at hbody;rw [zjw hbody,yQ,xu (by simp)]
      ·rw [xw rfl] at hbody;rw [znp hbody,ih _ (by omega),xR,hp1]
    have h1:=hv x.Values.length 0 (xE _);have h1':zdS (zeO fuel) n s x 0=_:=h1;have hp0:prv x.Values 0=none:=rfl;rw [xX,hp0] at h1';rw [h1',sb];cases hrv:zgP s x.Values m none
    ·rw [xu (by simp)];rfl
    ·rw [xw rfl,xR];simp only;have hu:∀(c i:Nat),i+c=x.Unknown.length->zdT n s x i=some (if (x.Unknown.drop i).all (unkR m)=true then .inl () else .inr ()):=by
      intro c
      induction c with
      | zero=>
       intro i hi;have e:x.Unknown.drop i=[]:=yb (by omega);rw [e,List.all_nil,xw rfl];refine zjx ?_;unfold zbb;rw [uU]
      | succ c ih=>
       intro i hi;have hil:i<x.Unknown.length:=by omega
       have hd:x.Unknown.drop i=x.Unknown[i]::x.Unknown.drop (i+1):=xQ hil;have hx:idx x.Unknown (i:Int)=some x.Unknown[i]:=zP rfl hil;have hl:=b3 _ (xC hil);have e:lenO x.Unknown[i]=some x.Unknown[i]:=by unfold lenO;rw [xw (by omega)]
       have hw1:IntKind.i64.wrap ((i:Int)+1)=((i+1:Nat):Int):=by rw [uV];push_cast;rfl
       rw [hd,yx];have hbody:zbb n s x i=if unkR m x.Unknown[i]=true then some (.inl ((i+1:Nat):Int)) else some (.inr (.inr ())):=by
        unfold zbb unkR;rw [uT,hx,sb,e,sb,zBO (by omega),sb,hw1]
        generalize ztN x.Unknown[i] 0=r
        by_cases c1:r.2=0
        ·rw [itF (by simpa using c1),sb];by_cases c2:r.1.To=(x.Unknown[i]).length
         ·rw [itF (by simpa using c2),hm,sb,zrm (by omega),sb,sb];by_cases c3:fldI m r.1.Number<0
          ·rw [itF (by simpa using c3),xw (by simp [c1,c2,c3])]
          ·rw [itT (by simpa using c3),xu (by simp [c1,c2];omega)]
         ·rw [itT (by simpa using c2),sb,itT (by rfl),xu (by simp [c1,c2])]
        ·rw [itT (by simpa using c1),sb,itT (by rfl),xu (by simp [c1])]
       cases hun:unkR m x.Unknown[i]
       ·rw [hun,xu (by simp)] at hbody;rw [zjx hbody,yQ,xu (by simp)]
       ·rw [hun,xw rfl] at hbody;rw [znq hbody,ih _ (by omega),xR]
     have h2:=hu x.Unknown.length 0 (xE _);have h2':zdT n s x 0=_:=h2;rw [h2',sb,xX];cases x.Unknown.all (unkR m)<;>rfl
   ·rw [uT,yd hk];rfl
theorem zyg (hs:zlQ s) (k:Int) (hf:szM x<fuel) (hb:bdM x):zcW fuel s k x=some (zaw s x k):=(zEF hs fuel).2 x k hf hb
theorem zux {α:Type} (bytes:Nat) (l:List α) (hl:l.length*bytes<=140737488355328) (F:Int->List α->Option (List α)) (h0:∀a,F (l.length:Int) a=some a)
  (hs:∀(i:Nat) (h:i<l.length) (a:List α),(a.length+1)*bytes<=140737488355328->F (i:Int) a=F ((i+1:Nat):Int) (a++[l[i]])):∀(c i:Nat),i+c=l.length->F (i:Int) (l.take i)=some l
 | 0,i,h=>by
  have hi:i=l.length:=by omega
  rw [hi,h0,yY]
 | c+1,i,h=>by
  have hil:i<l.length:=by omega
  have hb:(i+1)*bytes<=140737488355328:=yi (yg _ hil) hl;rw [hs i hil _ (by rw [xK,yN (by omega)];exact hb),uP hil];exact zux bytes l hl F h0 hs c (i+1) (by omega)
theorem zGv:∀(fuel:Nat),(∀x:Msg,szM x<fuel->bdM x->zcl fuel x=some x)/\∀v:Vlu,szV v<fuel->bdV v->zeo fuel v=some v
 | 0=>⟨fun x h=>by omega,fun v h=>by omega⟩
 | fuel+1=>by
  obtain ⟨ih1,ih2⟩:=zGv fuel;refine ⟨fun x hsz hb=>?_,fun v hsz hb=>?_⟩
  ·obtain ⟨b1,⟨b2,b3⟩,b4⟩:=(zhr x).1 hb;rw [zcN] at hsz;show zhb (zcl fuel) (zeo fuel) x=_;unfold zhb;have h:=zux 80 x.Values (by omega) (fun i a=>zfx (zeo fuel) x i a) (fun a=>by
     refine zpr ?_;unfold zcy;rw [itF (by simp)])
    (fun i hi a ha=>by
     have hm:=xC hi;have s1:=zdH hm;refine zpq ?_;unfold zcy;rw [uT,zP rfl hi,sb,ih2 _ (by omega) (zdB.1 b4 _ hm),sb,zdI (by rw [qc];exact ha),sb,uV];push_cast;rfl)
    x.Values.length 0 (xE _)
   have h':zfx (zeo fuel) x 0 []=_:=h;rw [zdI (by simp;omega),sb,h',sb,yc];cases x;rfl
  ·obtain ⟨_,_,_,b4,b5⟩:=(zgS v).1 hb;rw [zeV] at hsz;show zeM (zcl fuel) (zeo fuel) v=_;unfold zeM;have h:=zux 48 v.Subs (by omega) (fun i a=>zdm (zcl fuel) v i a) (fun a=>by
     refine zmj ?_;unfold zaV;rw [itF (by simp)])
    (fun i hi a ha=>by
     have hm:=xC hi;have s1:=zeG hm;refine zmi ?_;unfold zaV;rw [uT,zP rfl hi,sb,ih1 _ (by omega) (zeb.1 b5 _ hm),sb,zdI (by rw [qc];exact ha),sb,uV];push_cast;rfl)
    v.Subs.length 0 (xE _)
   have h':zdm (zcl fuel) v 0 []=_:=h;rw [h',sb];cases v;rfl
theorem zpA (hf:szM x<fuel) (hb:bdM x):zcl fuel x=some x:=(zGv fuel).1 x hf hb
mutual
/-- No list is long. -/
def smM:Msg->Prop
 | ⟨vs,u⟩=>vs.length<=1048576/\(u.length<=1048576/\∀t∈u,t.length<=1048576)/\smVs vs
def smVs:List Vlu->Prop
 | []=>True
 | v::l=>smV v/\smVs l
def smV:Vlu->Prop
 | ⟨n,w,t,s⟩=>w.length<=1048576/\(t.length<=1048576/\∀x∈t,x.length<=1048576)/\s.length<=1048576/\smMs s
def smMs:List Msg->Prop
 | []=>True
 | x::l=>smM x/\smMs l
end
theorem zki (x:Msg):smM x↔x.Values.length<=1048576/\(x.Unknown.length<=1048576/\∀t∈x.Unknown,t.length<=1048576)/\smVs x.Values:=by cases x;simp only [smM]
theorem zlg (v:Vlu):smV v↔v.Words.length<=1048576/\(v.Texts.length<=1048576/\∀x∈v.Texts,x.length<=1048576)/\v.Subs.length<=1048576/\smMs v.Subs:=by cases v;simp only [smV]
theorem zgL:∀{l:List Vlu},smVs l↔∀v∈l,smV v
 | []=>by simp [smVs]
 | v::l=>by rw [smVs,zgL (l:=l)];simp
theorem zhQ:∀{l:List Msg},smMs l↔∀v∈l,smM v
 | []=>by simp [smMs]
 | v::l=>by rw [smMs,zhQ (l:=l)];simp
theorem zuX (l:List Str) (F:Int->Int->Option Int) (h0:∀n,F n (l.length:Int)=some n)
  (hs:∀(i:Nat) (h:i<l.length) (n:Int),F n (i:Int)=F (IntKind.i64.wrap (IntKind.i64.wrap (n+1)+(l[i].length:Int))) ((i+1:Nat):Int)):∀(c i:Nat) (n:Int),i+c=l.length->
  ∃r,F n (i:Int)=some r/\((∀t∈l,t.length<=1048576)->0<=n->n+1048577*c<=4611686018427387904->r=n+(((l.drop i).map fun t=>1+t.length).sum:Nat)/\r<=n+1048577*c)
 | 0,i,n,h=>by
  have hi:i=l.length:=by omega
  refine ⟨n,by rw [hi,h0],fun _ _ _=>?_⟩;rw [hi,List.drop_length];simp
 | c+1,i,n,h=>by
  have hil:i<l.length:=by omega
  obtain ⟨r,hr,hw⟩:=zuX l F h0 hs c (i+1) (IntKind.i64.wrap (IntKind.i64.wrap (n+1)+(l[i].length:Int))) (by omega);refine ⟨r,by rw [hs i hil,hr],fun ht hn hc=>?_⟩;have:=ht _ (xC hil);have e:IntKind.i64.wrap (IntKind.i64.wrap (n+1)+(l[i].length:Int))=n+1+(l[i].length:Int):=by
   rw [zx (x:=n+1) (by omega),uV]
  rw [e] at hw;have hd:l.drop i=l[i]::l.drop (i+1):=xQ hil;obtain ⟨w1,w2⟩:=hw ht (by omega) (by omega);rw [hd,ye,pf];push_cast at w1|-;omega
theorem zuC {α:Type} (l:List α) (g:α->Int) (F:Int->Int->Option (Int⊕Unit)) (h0:∀n,F n (l.length:Int)=some (.inl n))
  (hs:∀(i:Nat) (h:i<l.length) (n:Int),F n (i:Int)=if IntKind.i64.wrap (n+g l[i])>=5000 then some (.inr ()) else F (IntKind.i64.wrap (n+g l[i])) ((i+1:Nat):Int)):∀(c i:Nat) (n:Int),i+c=l.length->
  ∃q,F n (i:Int)=some q/\((∀a∈l,0<=g a/\g a<=4398046511104)->0<=n->n<=4398046511104->∀u,q= .inl u->u=n+((l.drop i).map g).sum/\0<=u/\(u<=n\/u<5000)/\∀a∈l.drop i,g a<5000)
 | 0,i,n,h=>by
  have hi:i=l.length:=by omega
  refine ⟨.inl n,by rw [hi,h0],fun _ _ _ u hu=>?_⟩;cases hu;rw [hi,List.drop_length];simp;omega
 | c+1,i,n,h=>by
  have hil:i<l.length:=by omega
  have hd:l.drop i=l[i]::l.drop (i+1):=xQ hil;rw [hs i hil];by_cases h5:IntKind.i64.wrap (n+g l[i])>=5000
  ·exact ⟨.inr (),by rw [xw h5],fun _ _ _ u hu=>by cases hu⟩
  ·obtain ⟨q,hq,hw⟩:=zuC l g F h0 hs c (i+1) (IntKind.i64.wrap (n+g l[i])) (by omega);refine ⟨q,by rw [xu h5,hq],fun hg hn hnb u hu=>?_⟩;have hgi:=hg _ (xC hil);have e:IntKind.i64.wrap (n+g l[i])=n+g l[i]:=by rw [uV]
   rw [e] at hw h5;obtain ⟨w1,w2,w3,w4⟩:=hw hg (by omega) (by omega) u hu;rw [hd,ye,pf];refine ⟨by omega,w2,by omega,fun a ha=>?_⟩;rcases xz.1 ha with rfl| ha
   ·omega
   ·exact w4 a ha
theorem zIa:∀(fuel:Nat),(∀(x:Msg) (d:Int),szM x<fuel->bdM x-> -1<=d->d<=1048576->∃r,zcp fuel x d=some r/\(smM x->0<=r/\r<=4398046511104/\(r<5000->r=wgM x/\(dM x:Int)<=d)))/\
  ∀(v:Vlu) (d:Int),szV v<fuel->bdV v->0<=d->d<=1048576->∃r,zbL fuel v d=some r/\(smV v->0<=r/\r<=4398046511104/\(r<5000->r=wgV v/\(dV v:Int)<=d))
 | 0=>⟨fun x d h=>by omega,fun v d h=>by omega⟩
 | fuel+1=>by
  obtain ⟨ih1,ih2⟩:=zIa fuel;refine ⟨fun x d hsz hb hd hd2=>?_,fun v d hsz hb hd hd2=>?_⟩
  ·obtain ⟨b1,⟨b2,b3⟩,b4⟩:=(zhr x).1 hb;rw [zcN] at hsz;show∃r,zgh (zcp fuel) (zbL fuel) x d=some r/\_;unfold zgh;by_cases hneg:d<0
   ·exact ⟨5000,by rw [itT (by simpa using hneg)],fun _=>⟨by omega,by omega,fun h=>by omega⟩⟩
   rw [itF (by simpa using hneg)];obtain ⟨n,hn,hnw⟩:=zuX x.Unknown (fun n i=>zep x n i) (fun n=>by
     refine znS ?_;unfold zbN;rw [itF (by simp)])
    (fun i hi n=>by
     refine znR ?_;unfold zbN;have hw1:IntKind.i64.wrap ((i:Int)+1)=((i+1:Nat):Int):=by rw [uV];push_cast;rfl
     rw [uT,zP rfl hi,sb,hw1]) x.Unknown.length 0 1 (xE _)
   have hn':zep x 1 0=some n:=hn;have hgg:∀v∈x.Values,∃r,zbL fuel v d=some r/\(smV v->0<=r/\r<=4398046511104/\(r<5000->r=wgV v/\(dV v:Int)<=d)):=fun v hv=>by
    have:=zdH hv;exact ih2 v d (by omega) (zdB.1 b4 _ hv) (by omega) hd2
   obtain ⟨q,hq,hqw⟩:=zuC x.Values (fun v=>(zbL fuel v d).getD 0) (fun n i=>zeq d (zbL fuel) x n i) (fun n=>by
     refine zjM ?_;unfold zbp;rw [itF (by simp)])
    (fun i hi n=>by
     obtain ⟨r,hr,_⟩:=hgg _ (xC hi);have hw1:IntKind.i64.wrap ((i:Int)+1)=((i+1:Nat):Int):=by rw [uV];push_cast;rfl
     simp only [hr,yH];split
     ·rename_i h5;refine zjM ?_;unfold zbp;rw [uT,zP rfl hi,sb,hr,sb,itT (by simpa using h5)]
     ·rename_i h5;refine znT ?_;unfold zbp;rw [uT,zP rfl hi,sb,hr,sb,itF (by simpa using h5),hw1]) x.Values.length 0 n (xE _)
   have hq':zeq d (zbL fuel) x n 0=some q:=hq;rw [hn',sb,hq',sb];cases q with
   | inr u=>exact ⟨5000,rfl,fun _=>⟨by omega,by omega,fun h=>by omega⟩⟩
   | inl u=>
    refine ⟨u,rfl,fun hsm=>?_⟩;obtain ⟨s1,⟨s2,s3⟩,s4⟩:=(zki x).1 hsm;obtain ⟨n1,n2⟩:=hnw s3 (by omega) (by omega);rw [xX] at n1;obtain ⟨u1,u2,u3,u4⟩:=hqw (fun v hv=>by
     obtain ⟨r,hr,hrw⟩:=hgg v hv;have:=hrw (zgL.1 s4 v hv);simp only [hr,yH];exact ⟨this.1,this.2.1⟩) (by omega) (by omega) u rfl
    rw [xX] at u1 u4;refine ⟨u2,by omega,fun _=>?_⟩;have hall:∀l:List Vlu,(∀v∈l,v∈x.Values)->(l.map fun v=>(zbL fuel v d).getD 0).sum=(wgVs l:Int)/\(dVs l:Int)<=d:=by
     intro l
     induction l with
     | nil=>intro _;simp [wgVs,dVs];omega
     | cons v l ih=>
      intro hl;have hv:=hl v xx;obtain ⟨r,hr,hrw⟩:=hgg v hv;obtain ⟨_,_,hr3⟩:=hrw (zgL.1 s4 v hv);have h5:=u4 v hv;simp only [hr,yH] at h5;obtain ⟨e1,e2⟩:=hr3 h5;obtain ⟨i1,i2⟩:=ih fun w hw=>hl w (xy _ hw)
      rw [ye,pf,i1,hr,yH,wgVs,dVs];push_cast;omega
    obtain ⟨a1,a2⟩:=hall x.Values fun v hv=>hv
    rw [zov,zGx];push_cast;refine ⟨?_,a2⟩;push_cast at n1;omega
  ·obtain ⟨_,⟨b1,_⟩,⟨b2,b3⟩,b4,b5⟩:=(zgS v).1 hb;rw [zeV] at hsz;show∃r,zec (zcp fuel) (zbL fuel) v d=some r/\_;unfold zec;rw [zx (x:=1+(v.Words.length:Int)) (by omega)];obtain ⟨n,hn,hnw⟩:=zuX v.Texts (fun n i=>zcP v n i) (fun n=>by
     refine zls ?_;unfold zaJ;rw [itF (by simp)])
    (fun i hi n=>by
     refine zlr ?_;unfold zaJ;have hw1:IntKind.i64.wrap ((i:Int)+1)=((i+1:Nat):Int):=by rw [uV];push_cast;rfl
     rw [uT,zP rfl hi,sb,hw1]) v.Texts.length 0 (1+(v.Words.length:Int)) (xE _)
   have hn':zcP v (1+(v.Words.length:Int)) 0=some n:=hn;have hgg:∀x∈v.Subs,∃r,zcp fuel x (d - 1)=some r/\(smM x->0<=r/\r<=4398046511104/\(r<5000->r=wgM x/\(dM x:Int)<=d - 1)):=fun x hx=>by
    have:=zeG hx;exact ih1 x (d - 1) (by omega) (zeb.1 b5 _ hx) (by omega) (by omega)
   have hd1:IntKind.i64.wrap (d - 1)=d - 1:=by rw [uV]
   obtain ⟨q,hq,hqw⟩:=zuC v.Subs (fun x=>(zcp fuel x (d - 1)).getD 0) (fun n i=>zcQ d (zcp fuel) v n i) (fun n=>by
     refine zia ?_;unfold zaA;rw [itF (by simp)])
    (fun i hi n=>by
     obtain ⟨r,hr,_⟩:=hgg _ (xC hi);have hw1:IntKind.i64.wrap ((i:Int)+1)=((i+1:Nat):Int):=by rw [uV];push_cast;rfl
     simp only [hr,yH];split
     ·rename_i h5;refine zia ?_;unfold zaA;rw [uT,zP rfl hi,sb,hd1,hr,sb,itT (by simpa using h5)]
     ·rename_i h5;refine zlt ?_;unfold zaA;rw [uT,zP rfl hi,sb,hd1,hr,sb,itF (by simpa using h5),hw1]) v.Subs.length 0 n (xE _)
   have hq':zcQ d (zcp fuel) v n 0=some q:=hq;rw [hn',sb,hq',sb];cases q with
   | inr u=>exact ⟨5000,rfl,fun _=>⟨by omega,by omega,fun h=>by omega⟩⟩
   | inl u=>
    refine ⟨u,rfl,fun hsm=>?_⟩;obtain ⟨s1,⟨s2,s3⟩,s5,s4⟩:=(zlg v).1 hsm;obtain ⟨n1,n2⟩:=hnw s3 (by omega) (by omega);rw [xX] at n1;obtain ⟨u1,u2,u3,u4⟩:=hqw (fun x hx=>by
     obtain ⟨r,hr,hrw⟩:=hgg x hx;have:=hrw (zhQ.1 s4 x hx);simp only [hr,yH];exact ⟨this.1,this.2.1⟩) (by omega) (by omega) u rfl
    rw [xX] at u1 u4;refine ⟨u2,by omega,fun _=>?_⟩;have hall:∀l:List Msg,(∀x∈l,x∈v.Subs)->(l.map fun x=>(zcp fuel x (d - 1)).getD 0).sum=(wgMs l:Int)/\(dMs l:Int)<=d:=by
     intro l
     induction l with
     | nil=>intro _;simp [wgMs,dMs];omega
     | cons x l ih=>
      intro hl;have hx:=hl x xx;obtain ⟨r,hr,hrw⟩:=hgg x hx;obtain ⟨_,_,hr3⟩:=hrw (zhQ.1 s4 x hx);have h5:=u4 x hx;simp only [hr,yH] at h5;obtain ⟨e1,e2⟩:=hr3 h5;obtain ⟨i1,i2⟩:=ih fun w hw=>hl w (xy _ hw)
      rw [ye,pf,i1,hr,yH,wgMs,dMs];push_cast;omega
    obtain ⟨a1,a2⟩:=hall v.Subs fun v hv=>hv
    rw [zlY,zDV];push_cast;refine ⟨?_,a2⟩;push_cast at n1;omega
structure OkT (s:List Mes) (d:Nat) (m:Mes) (t:Th):Prop where
 fi:t.fi= -1\/0<=t.fi/\t.fi<m.Fields.length
 unk:t.fi<0->unkR m t.raw=true
 run:0<=t.fi->t.run=true->kNum (zaM m t.fi).Kind=true/\(zaM m t.fi).Repeated=true/\(zGy (zaM m t.fi).Kind t.val).2=0
 one:0<=t.fi->t.run=false->zfz (zaM m t.fi).Kind=true/\zKN (zyL (zaM m t.fi).Kind) t.val=true/\((zaM m t.fi).Kind=15->zlW t.val=true)/\((zaM m t.fi).Kind=17->∃e,d=e+1/\zzH s e (zaM m t.fi).Of t.val=none)
structure zLq (s:List Mes) (d:Nat) (f:Fld) (a:zJw):Prop where
 words:∀w∈a.2.2.1,znO f w=true
 texts:∀t∈a.2.2.2.1,zna f t=true
 numT:kNum f.Kind=true->a.2.2.2.1=[]
 subs:∀x∈a.2.2.2.2,f.Kind=17/\zaw s x f.Of=true/\1+dM x<=d
 join:f.Kind=17->∀e,d=e+1->zzH s e f.Of a.1=none
 met:a.2.1=true->f.Kind=17->∃e,d=e+1
 one:f.Repeated=false->a.2.2.1.length<=1/\a.2.2.2.1.length<=1/\a.2.2.2.2=[]
theorem zKa (h: -9223372036854775808<=n/\n<=9223372036854775807):(Lit.int .i64 n).wf=true:=by
 simpa [Lit.wf,IntKind.min,IntKind.max,IntKind.bits,IntKind.signed] using h
structure zLp (a:zJw):Prop where
 words:∀w∈a.2.2.1,0<=w/\w<=18446744073709551615
 texts:∀t∈a.2.2.2.1,t.length<=1048576
 subs:∀x∈a.2.2.2.2,bdM x/\smM x
def zfD (l:List Vlu):Prop:=l.Pairwise fun a b=>a.Number<b.Number
def look (l:List Vlu) (n:Int):Option Vlu:=l.find? fun v=>v.Number==n
theorem zdo (v:Vlu) (l:List Vlu) (n:Int):look (v::l) n=if v.Number=n then some v else look l n:=by
 unfold look;rw [List.find?_cons];by_cases h:v.Number=n
 ·rw [xw h];simp [h]
 ·rw [xu h];have:(v.Number==n)=false:=by simpa using h
  rw [this]
theorem zfU {l:List Vlu} {n:Int} {v:Vlu} (h:look l n=some v):v.Number=n/\v∈l:=by
 unfold look at h;exact ⟨by simpa using List.find?_some h,List.mem_of_find?_eq_some h⟩
theorem zrV {l:List Vlu} {n:Int} (h:∀v∈l,n<v.Number):look l n=none:=by
 unfold look;rw [List.find?_eq_none];intro v hv;have:=h v hv;simp;omega
theorem zBy {l:List Vlu} (hr:zfD l) {v:Vlu} (h:v∈l):look l v.Number=some v:=by
 induction l with
 | nil=>cases h
 | cons u l ih=>
  obtain ⟨h1,h2⟩:=yr.1 hr;rw [zdo];rcases xz.1 h with rfl| h
  ·rw [xw rfl]
  ·have:=h1 v h;rw [xu (by omega),ih h2 h]
theorem zBx:∀{l k:List Vlu},zfD l->zfD k->(∀n,look l n=look k n)->l=k
 | [],[],_,_,_=>rfl
 | [],u::k,_,_,h=>by
  have:=h u.Number;rw [zdo,xw rfl] at this;cases this
 | v::l,[],_,_,h=>by
  have:=h v.Number;rw [zdo,xw rfl] at this;cases this
 | v::l,u::k,hl,hk,h=>by
  obtain ⟨l1,l2⟩:=yr.1 hl;obtain ⟨k1,k2⟩:=yr.1 hk;have e:v=u:=by
   have hv:=h v.Number;have hu:=h u.Number;rw [zdo,xw rfl] at hv;rw [zdo (n:=u.Number) (v:=u),xw rfl] at hu;rcases Int.lt_trichotomy v.Number u.Number with hlt| heq| hlt
   ·rw [zrV (l:=u::k) (fun x hx=>by
     rcases xz.1 hx with rfl| hx
     ·exact hlt
     ·have:=k1 x hx;omega)] at hv
    cases hv
   ·rw [zdo,xw heq.symm] at hv;exact yW hv
   ·rw [zrV (l:=v::l) (fun x hx=>by
     rcases xz.1 hx with rfl| hx
     ·exact hlt
     ·have:=l1 x hx;omega)] at hu
    cases hu
  subst e;rw [zBx l2 k2 fun n=>by
   by_cases hn:v.Number<n
   ·have:=h n;rw [zdo,zdo,xu (by omega),xu (by omega)] at this;exact this
   ·rw [zrV fun x hx=>by have:=l1 x hx;omega,zrV fun x hx=>by have:=k1 x hx;omega]]
def putL (v:Vlu):Bool->List Vlu->List Vlu
 | done,[]=>if done=true then [] else [v]
 | done,u::l=>(if done=false/\v.Number<=u.Number then [v] else [])++((if u.Number=v.Number then [] else [u])++putL v (done|| decide (v.Number<=u.Number)) l)
theorem zBJ (v:Vlu):∀(d:Bool) (l:List Vlu),(putL v d l).length<=l.length+(if d=true then 0 else 1)
 | d,[]=>by rw [putL];cases d<;>simp
 | d,u::l=>by
  have:=zBJ v (d|| decide (v.Number<=u.Number)) l;rw [putL];simp only [yh,yn];cases d
  ·by_cases h:v.Number<=u.Number
   ·rw [xw ⟨rfl,h⟩];simp only [h,pU,qV,yI] at this|-;split<;>simp<;>omega
   ·rw [xu (fun hh=>h hh.2)];simp only [h,pV,qN,qH,qI] at this|-;split<;>simp<;>omega
  ·rw [xu (by simp)];simp only [pv,yI] at this|-;split<;>simp<;>omega
theorem zBK {v:Vlu}:∀{d:Bool} {l:List Vlu} {x:Vlu},x∈putL v d l->x=v/\d=false\/x∈l/\x.Number≠v.Number
 | d,[],x,h=>by
  rw [putL] at h;cases d
  ·rw [xu (by simp)] at h;exact .inl ⟨yf.1 h,rfl⟩
  ·rw [xw rfl] at h;cases h
 | d,u::l,x,h=>by
  rw [putL] at h;rcases xD.1 h with h| h
  ·split at h
   ·rename_i hc;exact .inl ⟨yf.1 h,hc.1⟩
   ·cases h
  ·rcases xD.1 h with h| h
   ·split at h
    ·cases h
    ·rename_i hc;rw [yf.1 h];exact .inr ⟨xx,hc⟩
   ·rcases zBK h with ⟨h1,h2⟩| ⟨h1,h2⟩
    ·refine .inl ⟨h1,?_⟩;cases d
     ·rfl
     ·simp at h2
    ·exact .inr ⟨xy _ h1,h2⟩
theorem zrk {v:Vlu}:∀{d:Bool} {l:List Vlu},zfD l->zfD (putL v d l)
 | d,[],_=>by rw [putL];cases d<;>simp [zfD]
 | d,u::l,h=>by
  obtain ⟨h1,h2⟩:=yr.1 h;have ih:=zrk (v:=v) (d:=d|| decide (v.Number<=u.Number)) h2;have hrest:∀x∈putL v (d|| decide (v.Number<=u.Number)) l,u.Number<x.Number:=fun x hx=>by
   rcases zBK hx with ⟨rfl,hd⟩| ⟨hx,_⟩
   ·simp at hd;omega
   ·exact h1 x hx
  rw [putL];have htail:zfD ((if u.Number=v.Number then [] else [u])++putL v (d|| decide (v.Number<=u.Number)) l):=by
   split
   ·exact ih
   ·exact yr.2 ⟨hrest,ih⟩
  split
  ·rename_i hc;rw [List.singleton_append];refine yr.2 ⟨fun x hx=>?_,htail⟩;rcases xD.1 hx with hx| hx
   ·split at hx
    ·cases hx
    ·rw [yf.1 hx];omega
   ·have:=hrest x hx;omega
  ·exact htail
theorem zqY (l k:List Vlu) (n:Int):look (l++k) n=match look l n with| some v=>some v| none=>look k n:=by
 unfold look;rw [List.find?_append];cases l.find? (fun v=>v.Number==n)<;>rfl
theorem zwV {v:Vlu}:∀{d:Bool} {l:List Vlu},zfD l->∀n,look (putL v d l) n=if n=v.Number then (if d=true then none else some v) else look l n
 | d,[],_,n=>by
  rw [putL];cases d
  ·rw [xu (show ¬(false=true) by simp),xu (show ¬(false=true) by simp),zdo];by_cases h:n=v.Number
   ·rw [xw h,xw h.symm]
   ·rw [xu h,xu (fun hh=>h hh.symm)]
  ·rw [xw rfl,xw rfl];split<;>rfl
 | d,u::l,h,n=>by
  obtain ⟨h1,h2⟩:=yr.1 h;have ih:=zwV (v:=v) (d:=d|| decide (v.Number<=u.Number)) h2 n;rw [putL,zqY,zqY,ih,zdo u l n];by_cases hn:n=v.Number
  ·rw [xw hn,xw hn];have hu:look (if u.Number=v.Number then [] else [u]) n=none:=by
    split
    ·rfl
    ·rw [zdo,xu (by omega)];rfl
   rw [hu];cases d
   ·by_cases hle:v.Number<=u.Number
    ·rw [xw ⟨rfl,hle⟩,zdo,xw hn.symm];simp
    ·rw [xu (fun hh=>hle hh.2)];simp [look,hle]
   ·rw [xu (by simp)];simp [look]
  ·rw [xu hn,xu hn];have hv:look (if d=false/\v.Number<=u.Number then [v] else []) n=none:=by
    split
    ·rw [zdo,xu (fun hh=>hn hh.symm)];rfl
    ·rfl
   rw [hv];by_cases hu:u.Number=v.Number
   ·rw [xw hu,xu (by omega)];rfl
   ·rw [xu hu,zdo];by_cases hun:u.Number=n
    ·rw [xw hun,xw hun]
    ·rw [xu hun,xu hun];rfl
def putM (x:Msg) (v:Vlu):Msg:=⟨putL v (decide (zfM v=0)) x.Values,x.Unknown⟩
theorem znK {s:List Mes} {m:Mes}:∀{l:List Vlu} {p:Option Int},zgP s l m p=true->∀v∈l,0<=fldI m v.Number/\zkN s v (zaM m (fldI m v.Number))=true/\p.all (fun n=>decide (n<v.Number))=true
 | [],p,_,v,hv=>by cases hv
 | u::l,p,h,v,hv=>by
  rw [zgP] at h;simp only [xA,xS] at h;obtain ⟨⟨⟨h1,h2⟩,h3⟩,h4⟩:=h;rcases xz.1 hv with rfl| hv
  ·exact ⟨h1,h3,h2⟩
  ·obtain ⟨g1,g2,g3⟩:=znK h4 v hv;refine ⟨g1,g2,?_⟩;cases p with
   | none=>rfl
   | some n=>
    simp at h2 g3|-;omega
theorem zrr {s:List Mes} {m:Mes}:∀{l:List Vlu} {p:Option Int},zgP s l m p=true->zfD l
 | [],p,_=> .nil
 | u::l,p,h=>by
  rw [zgP] at h;simp only [xA,xS] at h;refine yr.2 ⟨fun v hv=>?_,zrr h.2⟩;have:=(znK h.2 v hv).2.2;simpa using this
theorem zxA {s:List Mes} {m:Mes}:∀{l:List Vlu} {p:Option Int},zfD l->(∀v∈l,0<=fldI m v.Number/\zkN s v (zaM m (fldI m v.Number))=true/\p.all (fun n=>decide (n<v.Number))=true)->zgP s l m p=true
 | [],p,_,_=>by rw [zgP]
 | u::l,p,hr,h=>by
  obtain ⟨h1,h2⟩:=yr.1 hr;obtain ⟨a1,a2,a3⟩:=h u xx;rw [zgP,zxA h2 fun v hv=>⟨(h v (xy _ hv)).1,(h v (xy _ hv)).2.1,by simpa using h1 v hv⟩,a2,a3,ya a1];rfl
theorem zcs {s:List Mes} {x:Msg} {k:Int} (h:zaw s x k=true):0<=k/\k<s.length/\zfD x.Values/\(∀v∈x.Values,0<=fldI (zaP s k) v.Number/\zkN s v (zaM (zaP s k) (fldI (zaP s k) v.Number))=true)/\∀u∈x.Unknown,unkR (zaP s k) u=true:=by
 rw [zmv] at h;simp only [xA,xS] at h;exact ⟨h.1.1.1,h.1.1.2,zrr h.1.2,fun v hv=>⟨(znK h.1.2 v hv).1,(znK h.1.2 v hv).2.1⟩,xJ.1 h.2⟩
theorem zzh {s:List Mes} {x:Msg} {k:Int} (h1:0<=k) (h2:k<s.length) (h3:zfD x.Values) (h4:∀v∈x.Values,0<=fldI (zaP s k) v.Number/\zkN s v (zaM (zaP s k) (fldI (zaP s k) v.Number))=true) (h5:∀u∈x.Unknown,unkR (zaP s k) u=true):zaw s x k=true:=by
 rw [zmv,ya ⟨h1,h2⟩,zxA h3 fun v hv=>⟨(h4 v hv).1,(h4 v hv).2,rfl⟩,xJ.2 h5];rfl
structure zjH (s:List Mes) (v:Vlu) (f:Fld):Prop where
 many:0<zfM v
 one:f.Repeated=false->zfM v=1
 kind:zfz f.Kind=true
 words:∀w∈v.Words,znO f w=true
 texts:∀t∈v.Texts,zna f t=true
 subs:∀x∈v.Subs,f.Kind=17/\zaw s x f.Of=true
theorem zfS {s:List Mes} {v:Vlu} {f:Fld} (h:zkN s v f=true):zjH s v f:=by
 rw [ztA,zmT] at h;unfold zpU at h;simp only [xA,qk,xS,xJ,pW] at h;obtain ⟨⟨⟨⟨⟨h1,h2⟩,h3⟩,h4⟩,h5⟩,h6⟩:=h;refine ⟨h1,fun hr=>?_,h3,h4,h5,fun x hx=>?_⟩
 ·rw [hr] at h2;simp at h2;omega
 ·exact h6 x hx
theorem zEa {s:List Mes} {v:Vlu} {f:Fld} (h:zjH s v f):zkN s v f=true:=by
 obtain ⟨h1,h2,h3,h4,h5,h6⟩:=h;rw [ztA,zmT];unfold zpU;simp only [xA,qk,xS,xJ,pW];refine ⟨⟨⟨⟨⟨h1,?_⟩,h3⟩,h4⟩,h5⟩,fun x hx=>h6 x hx⟩;cases hr:f.Repeated with
 | true=>exact .inr rfl
 | false=>exact .inl (by have:=h2 hr;omega)
theorem zjH.noWords {s:List Mes} {v:Vlu} {f:Fld} (h:zjH s v f) (hk:kNum f.Kind=false):v.Words=[]:=by
 cases hw:v.Words with
 | nil=>rfl
 | cons w l=>
  have:=h.words w (by rw [hw];exact xx);unfold znO at this;rw [hk] at this;simp at this
theorem zjH.noTexts {s:List Mes} {v:Vlu} {f:Fld} (h:zjH s v f) (hk:f.Kind≠15/\f.Kind≠16):v.Texts=[]:=by
 cases hw:v.Texts with
 | nil=>rfl
 | cons w l=>
  have:=h.texts w (by rw [hw];exact xx);unfold zna at this;simp at this;omega
theorem zjH.msg {s:List Mes} {v:Vlu} {f:Fld} (h:zjH s v f) (hk:f.Kind=17) (hr:f.Repeated=false):∃x,v=⟨v.Number,[],[],[x]⟩/\zaw s x f.Of=true:=by
 have h1:=h.noWords (by rw [hk];rfl);have h2:=h.noTexts (by omega);have h3:=h.one hr;have h4:=h.subs;obtain ⟨n,w,t,sub⟩:=v;simp only at h1 h2 h4;subst h1 h2;unfold zfM at h3;simp at h3;obtain ⟨x,rfl⟩:∃x,sub=[x]:=by
  cases sub with
  | nil=>simp at h3
  | cons x l=>cases l with
   | nil=>exact ⟨x,rfl⟩
   | cons _ _=>simp at h3
 exact ⟨x,rfl,(h4 x xx).2⟩
theorem zCV (x:Msg) (n:Int):getM x n= -1/\look x.Values n=none\/∃(j:Nat) (h:j<x.Values.length),getM x n=j/\look x.Values n=some x.Values[j]:=by
 unfold getM look;cases h:x.Values.findIdx? (fun v:Vlu=>v.Number==n) with
 | none=>
  refine .inl ⟨zkp h,?_⟩;rw [pt] at h;rw [List.find?_eq_none];intro v hv;simpa using h v hv
 | some i=>
  right;have h':=h;rw [pu] at h;obtain ⟨hi,hp,hj⟩:=h;refine ⟨i,hi,zkq h',?_⟩;rw [List.find?_eq_some_iff_getElem];exact ⟨hp,i,hi,rfl,fun j hj'=>by simpa using hj j hj'⟩
mutual
/-- b zjC a. -/
def zhz (s:List Mes):Msg->Msg->Int->Msg
 | ⟨vs,u⟩,a,k=>⟨ziV s vs a (zaP s k) a.Values,a.Unknown++u⟩
def ziV (s:List Mes):List Vlu->Msg->Mes->List Vlu->List Vlu
 | [],_,_,acc=>acc
 | v::l,a,m,acc=>ziV s l a m (putM ⟨acc,[]⟩ (zjy s v (look a.Values v.Number) (zaM m (fldI m v.Number)))).Values
def zjy (s:List Mes):Vlu->Option Vlu->Fld->Vlu
 | ⟨n,w,t,sub⟩,none,f=>⟨n,w,t,sub⟩
 | ⟨n,w,t,sub⟩,some u,f=>if f.Repeated=true then ⟨n,u.Words++w,u.Texts++t,u.Subs++sub⟩ else if f.Kind=17 then ⟨n,[],[],zlU s sub u.Subs f.Of⟩ else ⟨n,w,t,sub⟩
def zlU (s:List Mes):List Msg->List Msg->Int->List Msg
 | [],_,_=>[]
 | x::_,ys,k=>match ys with
  | []=>[]
  | y::_=>[zhz s x y k]
end
theorem zlC (s:List Mes) (b a:Msg) (k:Int):zhz s b a k=⟨ziV s b.Values a (zaP s k) a.Values,a.Unknown++b.Unknown⟩:=by cases b;rw [zhz]
theorem zjQ (s:List Mes) (v:Vlu) (o:Option Vlu) (f:Fld):zjy s v o f=match o with
  | none=>v
  | some u=>if f.Repeated=true then ⟨v.Number,u.Words++v.Words,u.Texts++v.Texts,u.Subs++v.Subs⟩ else if f.Kind=17 then ⟨v.Number,[],[],zlU s v.Subs u.Subs f.Of⟩ else v:=by
 cases v;cases o<;>rw [zjy]
theorem zrR (s:List Mes) (v:Vlu) (o:Option Vlu) (f:Fld):(zjy s v o f).Number=v.Number:=by
 rw [zjQ];cases o with
 | none=>rfl
 | some u=>simp only;split;rfl;split<;>rfl
theorem zBL (acc:List Vlu) (u:List Str) (v:Vlu):(putM ⟨acc,u⟩ v).Values.length<=acc.length+1:=by
 have:=zBJ v (decide (zfM v=0)) acc;unfold putM;simp only;split at this<;>omega
theorem zvo {s:List Mes} {a:Msg} {m:Mes}:∀{l acc:List Vlu},zfD acc->zfD l->(∀v∈l,0<zfM (zjy s v (look a.Values v.Number) (zaM m (fldI m v.Number))))->
  zfD (ziV s l a m acc)/\∀n,look (ziV s l a m acc) n=match look l n with
   | some v=>some (zjy s v (look a.Values n) (zaM m (fldI m n)))
   | none=>look acc n
 | [],acc,h1,_,_=>by rw [ziV];exact ⟨h1,fun n=>rfl⟩
 | v::l,acc,h1,h2,h3=>by
  obtain ⟨l1,l2⟩:=yr.1 h2;have hv:=h3 v xx;have hnum:=zrR s v (look a.Values v.Number) (zaM m (fldI m v.Number));rw [ziV];have hacc:zfD (putM ⟨acc,[]⟩ (zjy s v (look a.Values v.Number) (zaM m (fldI m v.Number)))).Values:=zrk h1;obtain ⟨r1,r2⟩:=zvo (s:=s) (a:=a) (m:=m) hacc l2 fun u hu=>h3 u (xy _ hu)
  refine ⟨r1,fun n=>?_⟩;rw [r2 n,zdo];have hlk:look (putM ⟨acc,[]⟩ (zjy s v (look a.Values v.Number) (zaM m (fldI m v.Number)))).Values n=if n=v.Number then some (zjy s v (look a.Values v.Number) (zaM m (fldI m v.Number))) else look acc n:=by
   unfold putM;simp only;rw [zwV h1 n,hnum];by_cases hn:n=v.Number
   ·rw [xw hn,xw hn,xu fun hh=>by have:=qm hh;omega]
   ·rw [xu hn,xu hn]
  by_cases hn:v.Number=n
  ·rw [xw hn,zrV fun u hu=>by have:=l1 u hu;omega,hlk,xw hn.symm];simp only [hn]
  ·rw [xu hn,hlk,xu fun hh=>hn hh.symm]
theorem zwO {s:List Mes} {v:Vlu} {o:Option Vlu} {f:Fld} (hv:zjH s v f) (ho:∀u,o=some u->zjH s u f):0<zfM (zjy s v o f):=by
 rw [zjQ];cases o with
 | none=>exact hv.many
 | some u=>
  have:=hv.many;simp only;by_cases hr:f.Repeated=true
  ·rw [xw hr];unfold zfM at this|-;simp only [yh];omega
  ·rw [xu hr];by_cases h17:f.Kind=17
   ·rw [xw h17];obtain ⟨x,hvx,_⟩:=hv.msg h17 (by simpa using hr);obtain ⟨y,huy,_⟩:=(ho u rfl).msg h17 (by simpa using hr);rw [hvx,huy,zlU];simp [zfM]
   ·rw [xu h17];exact this
theorem zuI {s:List Mes} {a b:Msg} {k:Int} (ha:zaw s a k=true) (hb:zaw s b k=true):zfD (zhz s b a k).Values/\∀n,look (zhz s b a k).Values n=match look b.Values n with
   | some v=>some (zjy s v (look a.Values n) (zaM (zaP s k) (fldI (zaP s k) n)))
   | none=>look a.Values n:=by
 obtain ⟨_,_,ra,ha',_⟩:=zcs ha;obtain ⟨_,_,rb,hb',_⟩:=zcs hb;rw [zlC];exact zvo ra rb fun v hv=>zwO (zfS (hb' v hv).2) fun u hu=>by
  obtain ⟨e,hm⟩:=zfU hu;have:=zfS (ha' u hm).2;rw [e] at this;exact this
theorem zsy {v:Vlu} {x:Msg} (hx:x.Values.length*80<=140737488351232):∀(c i:Nat) (done:Bool) (out:List Vlu),i+c=x.Values.length->out.length<=i+(if done=true then 1 else 0)->
  ∃q,zfd v x done i out=some q/\(if q.1=true then q.2 else q.2++[v])=out++putL v done (x.Values.drop i)/\q.2.length<=x.Values.length+1/\(q.1=false->q.2.length<=x.Values.length)
 | 0,i,done,out,hi,ho=>by
  have e:x.Values.drop i=[]:=yb (by omega);refine ⟨(done,out),?_,?_,?_,?_⟩
  ·refine zoK ?_;unfold zcf;rw [uU]
  ·rw [e,putL];cases done<;>simp
  ·simp only;split at ho<;>omega
  ·intro h;simp only at h|-;subst h;simp at ho;omega
 | c+1,i,done,out,hi,ho=>by
  have hil:i<x.Values.length:=by omega
  have hd:x.Values.drop i=x.Values[i]::x.Values.drop (i+1):=xQ hil;have hxi:idx x.Values (i:Int)=some x.Values[i]:=zP rfl hil;rw [hd,putL]
  generalize x.Values[i]=u at hxi|-
  have hob:out.length<=i+1:=by split at ho<;>omega
  have hw:IntKind.i64.wrap ((i:Int)+1)=((i+1:Nat):Int):=by rw [uV];push_cast;rfl
  obtain ⟨q,hq,hqe,hql,hqf⟩:=zsy hx c (i+1) (done|| decide (v.Number<=u.Number)) (out++((if done=false/\v.Number<=u.Number then [v] else [])++(if u.Number=v.Number then [] else [u]))) (by omega) (by
   simp only [yh];cases done
   ·by_cases h:v.Number<=u.Number
    ·rw [xw ⟨rfl,h⟩];simp only [h,pU,qV,yI] at ho|-;simp at ho;split<;>simp<;>omega
    ·rw [xu (fun hh=>h hh.2)];simp only [h,pV,qN,qH,qI] at ho|-;split<;>simp<;>omega
   ·rw [xu (by simp)];simp only [pv,yI] at ho|-;split<;>simp<;>omega)
  refine ⟨q,?_,?_,hql,hqf⟩
  ·rw [<-hq];refine zoJ ?_;unfold zcf;have hg:(if (!done)=true then (idx x.Values (i:Int)>>=fun x2=>some (decide (x2.Number>=v.Number))) else some false)=some (decide (done=false/\v.Number<=u.Number)):=by
    cases done
    ·rw [itT (by rfl),hxi,sb];simp
    ·rw [itF (by rfl)];simp
   rw [uT,hg,sb,hw,hxi];have hp:((if decide (done=false/\v.Number<=u.Number)=true then (app 80 out ([v]:List za)>>=fun v3=>some (true,v3)) else some (done,out)):Option (Bool×List za))=some (done|| decide (v.Number<=u.Number),out++(if done=false/\v.Number<=u.Number then [v] else [])):=by
    by_cases hc:done=false/\v.Number<=u.Number
    ·rw [itT (by simpa using hc),xw hc,zdI (by simp only [qc];omega),sb,hc.1];simp [hc.2]
    ·rw [itF (by simpa using hc),xu hc,yX];cases done
     ·have:¬v.Number<=u.Number:=fun hh=>hc ⟨rfl,hh⟩
      simp [this]
     ·rfl
   rw [hp,sb,sb];by_cases hu:u.Number=v.Number
   ·rw [itF (by simpa using hu),xw hu,yX]
   ·rw [itT (by simpa using hu),xu hu,sb,zdI (by
     simp only [yh,qc];have:(if done=false/\v.Number<=u.Number then [v] else ([]:List Vlu)).length<=1:=by split<;>simp
     omega),sb,yS]
  ·rw [hqe];simp only [yS]
theorem zBP {x:Msg} {v:Vlu} (hx:x.Values.length*80<=140737488351232) (hv:v.Words.length<=140737488351232/\v.Texts.length<=140737488351232/\v.Subs.length<=140737488351232):zdy x v=some (putM x v):=by
 unfold zdy putM;rw [zxx hv,sb];have e:(((zfM v:Nat):Int)==0)=decide (zfM v=0):=by
  by_cases h:zfM v=0
  ·simp [h]
  ·have:((zfM v:Nat):Int)≠0:=by omega
   simp [h]
 rw [e];obtain ⟨q,hq,hqe,hql,hqf⟩:=zsy (v:=v) hx x.Values.length 0 (decide (zfM v=0)) [] (xE _) (xI _);have hq':zfd v x (decide (zfM v=0)) 0 []=some q:=hq;rw [xX,yc] at hqe;rw [hq',sb,<-hqe];cases hd:q.1
 ·rw [itT (by rfl),zdI (by have:=hqf hd;simp only [qc];omega),sb];rfl
 ·rw [itF (by rfl)];rfl
theorem zrn {s:List Mes} {k:Int} {m:Mes} (hm:idx s k=some m) (hfew:m.Fields.length<=200) {rec:List zf->Int->Msg->Msg->Option Msg} {a b:Msg} (hsa:smM a) (hsb:smM b)
  (ha:∀v∈a.Values,0<=fldI m v.Number/\zjH s v (zaM m (fldI m v.Number))) (hb:∀v∈b.Values,0<=fldI m v.Number/\zjH s v (zaM m (fldI m v.Number)))
  (hrec:∀f∈m.Fields,f.Kind=17->∀v∈b.Values,∀x∈v.Subs,∀u∈a.Values,∀y∈u.Subs,zaw s x f.Of=true->zaw s y f.Of=true->rec s f.Of y x=some (zhz s x y f.Of)):
  ∀(c i:Nat) (acc:List Vlu) (u:List Str),i+c=b.Values.length->acc.length<=a.Values.length+i->zeA a b rec k s i acc u=some (ziV s (b.Values.drop i) a m acc,u)
 | 0,i,acc,u,hi,hacc=>by
  have e:b.Values.drop i=[]:=yb (by omega);rw [e,ziV];refine zol ?_;unfold zbU;rw [uU]
 | c+1,i,acc,u,hi,hacc=>by
  obtain ⟨sa1,⟨sa2,sa3⟩,sa4⟩:=(zki a).1 hsa;obtain ⟨sb1,⟨sb2,sb3⟩,sb4⟩:=(zki b).1 hsb;have hil:i<b.Values.length:=by omega
  have hd:b.Values.drop i=b.Values[i]::b.Values.drop (i+1):=xQ hil;have hx:idx b.Values (i:Int)=some b.Values[i]:=zP rfl hil;have hvm:=xC hil;rw [hd,ziV]
  generalize b.Values[i]=v at hx hvm|-
  obtain ⟨hf0,hfit⟩:=hb v hvm;obtain ⟨sv1,⟨sv2,sv3⟩,sv4,sv5⟩:=(zlg v).1 (zgL.1 sb4 v hvm);have hw:IntKind.i64.wrap ((i:Int)+1)=((i+1:Nat):Int):=by rw [uV];push_cast;rfl
  rcases zpx m v.Number with ⟨hf,_⟩| ⟨j,hj,hf,_⟩
  ·omega
  have hfj:idx m.Fields (j:Int)=some (zaM m (j:Int)):=by rw [zP rfl hj,ztB hj]
  have hfm:zaM m (j:Int)∈m.Fields:=by rw [ztB hj];exact xC hj
  rw [hf] at hfit|-;have ih:=zrn hm hfew hsa hsb ha hb hrec c (i+1) (putM ⟨acc,[]⟩ (zjy s v (look a.Values v.Number) (zaM m (j:Int)))).Values u (by omega) (by have:=zBL acc [] (zjy s v (look a.Values v.Number) (zaM m (j:Int)));omega);rw [<-ih];refine zoj ?_;unfold zbU;rw [uT,hx,sb,hm,sb,sb,zrm (by omega),sb,hf,hfj,sb,zFE (by omega),sb,hw];have haw:∀w∈a.Values,w.Number=v.Number->zjH s w (zaM m (j:Int)):=fun w hw hn=>by
   have:=(ha w hw).2;rw [hn,hf] at this;exact this
  generalize zaM m (j:Int)=f at hfit hfm haw|-
  have hput:∀w:Vlu,w.Words.length<=4194304->w.Texts.length<=4194304->w.Subs.length<=4194304->zdy ⟨acc,u⟩ w=some ⟨(putM ⟨acc,[]⟩ w).Values,u⟩:=fun w h1 h2 h3=>by
   rw [zBP (by simp only;omega) ⟨by omega,by omega,by omega⟩];rfl
  rcases zCV a v.Number with ⟨hg,hl⟩| ⟨p,hp,hg,hl⟩
  ·rw [hg,itF (by simp),hl,zjQ,hput v (by omega) (by omega) (by omega),sb]
  ·have hxa:idx a.Values (p:Int)=some a.Values[p]:=zP rfl hp;have hum:=xC hp;rw [hg,itT (by simp),hxa,sb,hl,zjQ];have hun:=(zfU hl).1
   generalize a.Values[p]=w at hum hun|-
   obtain ⟨sw1,⟨sw2,sw3⟩,sw4,sw5⟩:=(zlg w).1 (zgL.1 sa4 w hum);simp only;by_cases hr:f.Repeated=true
   ·rw [itT hr,xw hr,zdI (by simp;omega),sb,zdI (by simp;omega),sb,zdI (by simp;omega),sb,zdI (by simp;omega),sb,zdI (by simp;omega),sb,zdI (by simp;omega),sb];simp only [yc];rw [hput _ (by simp;omega) (by simp;omega) (by simp;omega),sb]
   ·rw [itF (by simpa using hr),xu hr];by_cases h17:f.Kind=17
    ·rw [itT (by simpa using h17),xw h17];obtain ⟨x,hvx,hxr⟩:=hfit.msg h17 (by simpa using hr);obtain ⟨y,hwy,hyr⟩:=(haw w hum hun).msg h17 (by simpa using hr);have hws:w.Subs=[y]:=by rw [hwy]
     have hvs:v.Subs=[x]:=by rw [hvx]
     have hj:=hrec f hfm h17 v hvm x (by rw [hvs];exact xx) w hum y (by rw [hws];exact xx) hxr hyr;have i1:idx [y] 0=some y:=rfl;have i2:idx [x] 0=some x:=rfl;rw [hws,hvs,i1,sb,i2,sb,hj,sb,zlU];rw [hput _ (by simp) (by simp) (by simp),sb]
    ·rw [itF (by simpa using h17),xu h17,hput v (by omega) (by omega) (by omega),sb]
theorem ztT {s:List Mes} (hs:zlQ s):∀(fuel:Nat) (b a:Msg) (k:Int),szM b<fuel->smM a->smM b->zaw s a k=true->zaw s b k=true->zdK fuel s k a b=some (zhz s b a k)
 | 0,b,a,k,h,_,_,_,_=>by omega
 | fuel+1,b,a,k,hf,hsa,hsb,hra,hrb=>by
  obtain ⟨k0,k1,_,ra,_⟩:=zcs hra;obtain ⟨_,_,_,rb,_⟩:=zcs hrb;obtain ⟨n,rfl⟩:∃n:Nat,k=n:=⟨k.toNat,by omega⟩;have hn:n<s.length:=by omega
  have hm:idx s (n:Int)=some (zaP s n):=by rw [zP rfl hn,zjR hn]
  have hmm:zaP s (n:Int)∈s:=by rw [zjR hn];exact xC hn
  obtain ⟨sa1,⟨sa2,sa3⟩,sa4⟩:=(zki a).1 hsa;obtain ⟨sb1,⟨sb2,sb3⟩,sb4⟩:=(zki b).1 hsb;rw [zcN] at hf
  have hl:=zrn hm (hs.few _ hmm) hsa hsb (fun v hv=>⟨(ra v hv).1,zfS (ra v hv).2⟩) (fun v hv=>⟨(rb v hv).1,zfS (rb v hv).2⟩) (rec:=zdK fuel)
   (fun f hfm h17 v hv x hx u hu y hy hxr hyr=>by
    have s1:=zdH hv;have s2:=zeG hx;rw [zeV] at s1;exact ztT hs fuel x y f.Of (by omega) (zhQ.1 ((zlg u).1 (zgL.1 sa4 u hu)).2.2.2 y hy) (zhQ.1 ((zlg v).1 (zgL.1 sb4 v hv)).2.2.2 x hx) hyr hxr) b.Values.length 0 a.Values a.Unknown (xE _) (xB _)
  have hl':zeA a b (zdK fuel) n s 0 a.Values a.Unknown=_:=hl;show zgl (zdK fuel) s n a b=_;unfold zgl;rw [hl',sb,zdI (by simp;omega),sb,zdI (by simp;omega),sb,zlC,xX,yc]
def zdF (s:List Mes) (root:Int) (l:List Msg):Int:=if zhD s root≠0 then zhD s root else if l.all (fun x=>zaw s x root)=true then 0 else 12
theorem zvu {s:List Mes} (hw:WS s) (root:Int) {l:List Msg} (hl:l.length<=1048576) {fuel:Nat} (hx:∀x∈l,szM x<fuel/\bdM x):zgu fuel s root l=some (zdF s root l):=by
 unfold zgu zdF;rw [zAj hw,sb];by_cases h:zhD s root=0
 ·rw [itF (by simpa using h),xu (by simpa using h)];obtain ⟨hr,r0,r1⟩:=zvf h;have key:∀(c i:Nat),i+c=l.length->zfc fuel l root s i=some (if (l.drop i).all (fun x=>zaw s x root)=true then .inl () else .inr ()):=by
   intro c
   induction c with
   | zero=>
    intro i hi;have e:l.drop i=[]:=yb (by omega);rw [e,List.all_nil,xw rfl];refine zkn ?_;unfold zbI;rw [uU]
   | succ c ih=>
    intro i hi;have hil:i<l.length:=by omega
    have hd:l.drop i=l[i]::l.drop (i+1):=xQ hil;obtain ⟨h1,h2⟩:=hx _ (xC hil);have hbody:zbI fuel l root s i=if zaw s l[i] root=true then some (.inl ((i+1:Nat):Int)) else some (.inr (.inr ())):=by
     unfold zbI;rw [uT,zP rfl hil,sb,zyg hr root h1 h2,sb];cases zaw s l[i] root
     ·rw [itT (by rfl),xu (by simp)]
     ·rw [itF (by rfl),xw rfl,uV];push_cast;rfl
    rw [hd,yx];cases hrx:zaw s l[i] root
    ·rw [hrx,xu (by simp)] at hbody;rw [zkn hbody];simp
    ·rw [hrx,xw rfl] at hbody;rw [zoI hbody,ih (i+1) (by omega),xR]
  have h1:=key l.length 0 (xE _);have h1':zfc fuel l root s 0=_:=h1;rw [h1',sb,xX];cases l.all (fun x=>zaw s x root)<;>rfl
 ·rw [itT (by simpa using h),xw h]
mutual
/-- Without unknown records. -/
def zjE:Msg->Msg
 | ⟨vs,_⟩=>⟨zka vs,[]⟩
def zka:List Vlu->List Vlu
 | []=>[]
 | v::l=>zos v::zka l
def zos:Vlu->Vlu
 | ⟨n,w,t,s⟩=>⟨n,w,t,zjZ s⟩
def zjZ:List Msg->List Msg
 | []=>[]
 | x::l=>zjE x::zjZ l
end
theorem zoS (x:Msg):zjE x=⟨zka x.Values,[]⟩:=by cases x;rw [zjE]
theorem zzc (v:Vlu):zos v=⟨v.Number,v.Words,v.Texts,zjZ v.Subs⟩:=by cases v;rw [zos]
theorem znI:∀(l:List Vlu),zka l=l.map zos
 | []=>by rw [zka];rfl
 | v::l=>by rw [zka,znI l];rfl
theorem znH:∀(l:List Msg),zjZ l=l.map zjE
 | []=>by rw [zjZ];rfl
 | v::l=>by rw [zjZ,znH l];rfl
theorem zwX {α β:Type} (bytes:Nat) (l:List α) (g:α->β) (hl:l.length*bytes<=140737488355328) (F:Int->List β->Option (List β)) (h0:∀a,F (l.length:Int) a=some a)
  (hs:∀(i:Nat) (h:i<l.length) (a:List β),(a.length+1)*bytes<=140737488355328->F (i:Int) a=F ((i+1:Nat):Int) (a++[g l[i]])):∀(c i:Nat),i+c=l.length->F (i:Int) ((l.take i).map g)=some (l.map g)
 | 0,i,h=>by
  have hi:i=l.length:=by omega
  rw [hi,h0,yY]
 | c+1,i,h=>by
  have hil:i<l.length:=by omega
  have hb:(i+1)*bytes<=140737488355328:=yi (yg _ hil) hl;have e:(l.take i).map g++[g l[i]]=(l.take (i+1)).map g:=by rw [<-uP hil,qX];rfl
  rw [hs i hil _ (by rw [yZ,xK,yN (by omega)];exact hb),e];exact zwX bytes l g hl F h0 hs c (i+1) (by omega)
theorem zsx:∀(fuel:Nat) (x:Msg),szM x<fuel->bdM x->zcz fuel x=some (zjE x)
 | 0,x,h,_=>by omega
 | fuel+1,x,hsz,hb=>by
  obtain ⟨b1,⟨b2,b3⟩,b4⟩:=(zhr x).1 hb;rw [zcN] at hsz;show zfK (zcz fuel) x=_;unfold zfK;have h:=zwX 80 x.Values zos (by omega) (fun i a=>zdU (zcz fuel) x i a) (fun a=>by
    refine zns ?_;unfold zbC;rw [itF (by simp)])
   (fun i hi a ha=>by
    have hm:=xC hi;have s1:=zdH hm;have hx:idx x.Values (i:Int)=some x.Values[i]:=zP rfl hi
    generalize x.Values[i]=v at hm s1 hx|-
    obtain ⟨_,_,_,c1,c2⟩:=(zgS v).1 (zdB.1 b4 v hm);rw [zeV] at s1;have h2:=zwX 48 v.Subs zjE (by omega) (fun k a=>zdV (zcz fuel) v k a) (fun a=>by
      refine znu ?_;unfold zbD;rw [itF (by simp)])
     (fun k hk a ha=>by
      have hm2:=xC hk;have s2:=zeG hm2;refine znt ?_;unfold zbD;rw [uT,zP rfl hk,sb,zsx fuel _ (by omega) (zeb.1 c2 _ hm2),sb,zdI (by rw [qc];exact ha),sb,uV,zoS];push_cast;rfl)
     v.Subs.length 0 (xE _)
    have h2':zdV (zcz fuel) v 0 []=_:=h2;refine znr ?_;unfold zbC;rw [uT,hx,sb,h2',sb,zdI (by rw [qc];exact ha),sb,uV,zzc,znH];push_cast;rfl)
   x.Values.length 0 (xE _)
  have h':zdU (zcz fuel) x 0 []=_:=h;rw [h',sb,zoS,znI]
mutual
/-- Kept or left by ways. -/
def znF (s:List Mes):Msg->Int->List zI->Bool->Msg
 | ⟨vs,u⟩,k,w,keep=>⟨zek s vs (zaP s k) w keep,if keep=true then [] else u⟩
def zek (s:List Mes):List Vlu->Mes->List zI->Bool->List Vlu
 | [],_,_,_=>[]
 | v::l,m,w,keep=>zvt s v (zaM m (fldI m v.Number)) w keep++zek s l m w keep
def zvt (s:List Mes):Vlu->Fld->List zI->Bool->List Vlu
 | ⟨n,a,t,sub⟩,f,w,keep=>if zhW w n=false/\zhy w n≠[]/\f.Kind=17/\f.Repeated=false then [⟨n,[],[],zpG s sub f.Of (zhy w n) keep⟩]
  else if zhW w n=keep then [⟨n,a,t,sub⟩] else []
def zpG (s:List Mes):List Msg->Int->List zI->Bool->List Msg
 | [],_,_,_=>[]
 | x::_,k,w,keep=>[znF s x k w keep]
end
theorem zrh (s:List Mes) (x:Msg) (k:Int) (w:List zI) (keep:Bool):znF s x k w keep=⟨zek s x.Values (zaP s k) w keep,if keep=true then [] else x.Unknown⟩:=by cases x;rw [znF]
theorem zoR (s:List Mes) (v:Vlu) (f:Fld) (w:List zI) (keep:Bool):zvt s v f w keep=if zhW w v.Number=false/\zhy w v.Number≠[]/\f.Kind=17/\f.Repeated=false then [⟨v.Number,[],[],zpG s v.Subs f.Of (zhy w v.Number) keep⟩]
  else if zhW w v.Number=keep then [v] else []:=by cases v;rw [zvt]
theorem zza (s:List Mes) (v:Vlu) (f:Fld) (w:List zI) (keep:Bool):(zvt s v f w keep).length<=1:=by
 rw [zoR];split;simp;split<;>simp
theorem zFZ {m:List zI} (hw:WW m) (n:Int):WW (zhy m n):=by
 refine ⟨yi (uQ _ _) hw.1,fun w hm=>?_⟩;unfold zhy at hm;obtain ⟨v,hv,he⟩:=qO.1 hm;have:=hw.2 v hv;unfold zuU at he;split at he
 ·split at he
  ·cases he;simp at this|-;omega
  ·cases he
 ·cases he
theorem zGw {α:Type} (n:α) (w:List α):cut (n::w) 1 ((n::w).length:Int)=some w:=by
 have h:=zqE (xs:=n::w) (i:=1) (j:=((n::w).length:Int)) (a:=1) (b:=(n::w).length) rfl rfl (by simp) (xB _);rw [h];simp
def zvlu:Vlu:=⟨0,[],[],[]⟩
theorem zDa {s:List Mes} {v:Vlu} {o:Option Vlu} {f:Fld} (hv:zjH s v f) (ho:∀u,o=some u->zjH s u f)
  (ih:∀x∈v.Subs,∀y:Msg,zaw s x f.Of=true->zaw s y f.Of=true->zaw s (zhz s x y f.Of) f.Of=true):zjH s (zjy s v o f) f:=by
 have hm:=zwO hv ho;rw [zjQ] at hm|-;cases o with
 | none=>exact hv
 | some u=>
  have hu:=ho u rfl;simp only at hm|-;by_cases hr:f.Repeated=true
  ·rw [xw hr] at hm|-;refine ⟨hm,(fun h=>by rw [hr] at h;cases h),hv.kind,fun w hw=>?_,fun w hw=>?_,fun w hw=>?_⟩
   ·rcases xD.1 hw with hw| hw
    ·exact hu.words w hw
    ·exact hv.words w hw
   ·rcases xD.1 hw with hw| hw
    ·exact hu.texts w hw
    ·exact hv.texts w hw
   ·rcases xD.1 hw with hw| hw
    ·exact hu.subs w hw
    ·exact hv.subs w hw
  ·rw [xu hr] at hm|-;by_cases h17:f.Kind=17
   ·rw [xw h17] at hm|-;obtain ⟨x,hvx,hx⟩:=hv.msg h17 (by simpa using hr);obtain ⟨y,huy,hy⟩:=hu.msg h17 (by simpa using hr);have hvs:v.Subs=[x]:=by rw [hvx]
    have hus:u.Subs=[y]:=by rw [huy]
    rw [hvs,hus,zlU];refine ⟨by simp [zfM],(fun _=>by simp [zfM]),hv.kind,(fun w hw=>nomatch hw),(fun w hw=>nomatch hw),fun w hw=>?_⟩;rw [yf.1 hw];exact ⟨h17,ih x (by rw [hvs];exact xx) y hx hy⟩
   ·rw [xu h17] at hm|-;exact hv
theorem zvl {s:List Mes}:∀(N:Nat) (b a:Msg) (k:Int),szM b<=N->zaw s a k=true->zaw s b k=true->zaw s (zhz s b a k) k=true
 | 0,b,a,k,h,_,_=>by rw [zcN] at h;omega
 | N+1,b,a,k,hsz,ha,hb=>by
  obtain ⟨k0,k1,ra,ha',ua⟩:=zcs ha;obtain ⟨_,_,rb,hb',ub⟩:=zcs hb;obtain ⟨j1,j2⟩:=zuI ha hb;rw [zcN] at hsz;refine zzh k0 k1 j1 (fun v hv=>?_) fun u hu=>?_
  ·have hl:=zBy j1 hv;rw [j2] at hl;cases hbl:look b.Values v.Number with
   | none=>
    rw [hbl] at hl;simp only at hl;exact ha' v (zfU hl).2
   | some w=>
    rw [hbl] at hl;simp only at hl;obtain ⟨wn,wm⟩:=zfU hbl;obtain ⟨w0,wf⟩:=hb' w wm;rw [wn] at w0 wf;have hfw:=zfS wf;have s1:=zdH wm;rw [zeV] at s1;refine ⟨w0,zEa ?_⟩;have hvj:zjy s w (look a.Values v.Number) (zaM (zaP s k) (fldI (zaP s k) v.Number))=v:=yW hl;have:=zDa (o:=look a.Values v.Number) hfw (fun u hu=>by
     obtain ⟨un,um⟩:=zfU hu;have:=zfS (ha' u um).2;rw [un] at this;exact this) fun x hx y hxr hyr=>by
      have:=zeG hx;exact zvl N x y _ (by omega) hyr hxr
    rw [hvj] at this;exact this
  ·rw [zlC] at hu;rcases xD.1 hu with hu| hu
   ·exact ua u hu
   ·exact ub u hu
theorem zzi {g:Vlu->Option Vlu} (hg:∀v u,g v=some u->u.Number=v.Number):∀{l:List Vlu},zfD l->zfD (l.filterMap g)
 | [],_=> .nil
 | v::l,h=>by
  obtain ⟨h1,h2⟩:=yr.1 h;have ih:=zzi hg h2;cases e:g v with
  | none=>rw [List.filterMap_cons_none e];exact ih
  | some u=>
   rw [List.filterMap_cons_some e];refine yr.2 ⟨fun w hw=>?_,ih⟩;obtain ⟨w',hw',e'⟩:=qO.1 hw;rw [hg _ _ e,hg _ _ e'];exact h1 w' hw'
def goB (m:Mes) (w:List zI) (v:Vlu):Bool:= !zhW w v.Number&&decide (zhy w v.Number≠[])&&decide ((zaM m (fldI m v.Number)).Kind=17)&& !(zaM m (fldI m v.Number)).Repeated
theorem zzL {m:Mes} {w:List zI} {v:Vlu}:goB m w v=true↔zhW w v.Number=false/\zhy w v.Number≠[]/\(zaM m (fldI m v.Number)).Kind=17/\(zaM m (fldI m v.Number)).Repeated=false:=by
 unfold goB;simp only [xA,ym,xS,and_assoc]
def inV (s:List Mes) (m:Mes) (w:List zI) (keep:Bool) (v:Vlu):Vlu:=⟨v.Number,[],[],zpG s v.Subs (zaM m (fldI m v.Number)).Of (zhy w v.Number) keep⟩
def zxn (s:List Mes) (m:Mes) (w:List zI) (keep:Bool) (v:Vlu):Option Vlu:=if goB m w v=true then some (inV s m w keep v) else if zhW w v.Number=keep then some v else none
theorem zyZ {s:List Mes} {m:Mes} {w:List zI} {keep:Bool} (v u:Vlu) (h:zxn s m w keep v=some u):u.Number=v.Number:=by
 unfold zxn at h;split at h
 ·cases h;rfl
 ·split at h
  ·cases h;rfl
  ·cases h
theorem zzb (s:List Mes) (m:Mes) (w:List zI) (keep:Bool):∀l:List Vlu,zek s l m w keep=l.filterMap (zxn s m w keep)
 | []=>by rw [zek];rfl
 | v::l=>by
  rw [zek,zzb s m w keep l,zoR];by_cases hg:goB m w v=true
  ·rw [xw (zzL.1 hg),List.filterMap_cons_some (b:=inV s m w keep v) (by unfold zxn;rw [xw hg])];rfl
  ·rw [xu (fun h=>hg (zzL.2 h))];by_cases hk:zhW w v.Number=keep
   ·rw [xw hk,List.filterMap_cons_some (b:=v) (by unfold zxn;rw [xu hg,xw hk])];rfl
   ·rw [xu hk,List.filterMap_cons_none (by unfold zxn;rw [xu hg,xu hk])];rfl
theorem zIN {s:List Mes} {m:Mes} {w:List zI} {v:Vlu} (hg:goB m w v=true) (hf:zjH s v (zaM m (fldI m v.Number))):∃y,v=⟨v.Number,[],[],[y]⟩/\zaw s y (zaM m (fldI m v.Number)).Of=true/\∀keep,inV s m w keep v=⟨v.Number,[],[],[znF s y (zaM m (fldI m v.Number)).Of (zhy w v.Number) keep]⟩:=by
 obtain ⟨_,_,h3,h4⟩:=zzL.1 hg;obtain ⟨y,e,hy⟩:=hf.msg h3 h4;have hs:v.Subs=[y]:=by rw [e]
 refine ⟨y,e,hy,fun keep=>?_⟩;unfold inV;rw [hs,zpG]
theorem zGG {s:List Mes} {f:Fld} {n k:Int} {y z:Msg} (hf:zjH s ⟨n,[],[],[y]⟩ f) (hz:zaw s z f.Of=true):zjH s ⟨k,[],[],[z]⟩ f:=
 ⟨by simp [zfM],(fun _=>by simp [zfM]),hf.kind,(fun w hw=>nomatch hw),(fun w hw=>nomatch hw),fun w hw=>by rw [yf.1 hw];exact ⟨(hf.subs y xx).1,hz⟩⟩
theorem zKD {x y:Msg} {v:Vlu} (hv:v∈x.Values) (e:v=⟨v.Number,[],[],[y]⟩):szM y<szM x:=by
 have s1:=zdH hv;rw [zeV] at s1;have hs:v.Subs=[y]:=by rw [e]
 have s2:szM y<=szMs v.Subs:=zeG (by rw [hs];exact xx);rw [zcN x];omega
theorem zri {s:List Mes}:∀(N:Nat) (x:Msg) (k:Int) (w:List zI) (keep:Bool),szM x<=N->zaw s x k=true->zaw s (znF s x k w keep) k=true
 | 0,x,k,w,keep,h,_=>by rw [zcN] at h;omega
 | N+1,x,k,w,keep,hsz,hx=>by
  obtain ⟨k0,k1,rx,hx',ux⟩:=zcs hx;rw [zrh,zzb];refine zzh k0 k1 (zzi zyZ rx) (fun v hv=>?_) fun u hu=>?_
  ·obtain ⟨v0,hv0,e⟩:=qO.1 hv;obtain ⟨w0,wf⟩:=hx' v0 hv0;have hn:=zyZ _ _ e;unfold zxn at e;by_cases hg:goB (zaP s k) w v0=true
   ·rw [xw hg] at e;have hf:=zfS wf;obtain ⟨y,e1,hy,hin⟩:=zIN hg hf;rw [hin] at e;have hsy:=zKD hv0 e1;rw [hn];refine ⟨w0,zEa ?_⟩;rw [<-yW e];rw [e1] at hf;exact zGG hf (zri N y _ _ _ (by omega) hy)
   ·rw [xu hg] at e;by_cases hk:zhW w v0.Number=keep
    ·rw [xw hk] at e;rw [<-yW e];exact ⟨w0,wf⟩
    ·rw [xu hk] at e;cases e
  ·cases keep with
   | true=>exact absurd hu (by simp)
   | false=>exact ux u hu
theorem zwP (s:List Mes) (a:Msg) (m:Mes):∀(l acc:List Vlu),(ziV s l a m acc).length<=acc.length+l.length
 | [],acc=>by rw [ziV];simp
 | v::l,acc=>by
  rw [ziV];have h1:=zwP s a m l (putM ⟨acc,[]⟩ (zjy s v (look a.Values v.Number) (zaM m (fldI m v.Number)))).Values;have h2:=zBL acc [] (zjy s v (look a.Values v.Number) (zaM m (fldI m v.Number)));simp only [yn];omega
theorem zvP {s:List Mes}:∀(N:Nat) (b a:Msg) (k:Int),szM b<=N->zaw s a k=true->zaw s b k=true->bdM a->bdM b->smM a->smM b->bdM (zhz s b a k)
 | 0,b,a,k,h,_,_,_,_,_,_=>by rw [zcN] at h;omega
 | N+1,b,a,k,hsz,ha,hb,ba,bb,sa,sb'=>by
  obtain ⟨_,_,ra,ha',_⟩:=zcs ha;obtain ⟨_,_,rb,hb',_⟩:=zcs hb;obtain ⟨j1,j2⟩:=zuI ha hb;obtain ⟨a1,⟨a2,a3⟩,a4⟩:=(zhr a).1 ba;obtain ⟨b1,⟨b2,b3⟩,b4⟩:=(zhr b).1 bb;obtain ⟨sa1,⟨sa2,sa3⟩,sa4⟩:=(zki a).1 sa;obtain ⟨sb1,⟨sb2,sb3⟩,sb4⟩:=(zki b).1 sb';rw [zcN] at hsz;have hlen:(zhz s b a k).Values.length<=a.Values.length+b.Values.length:=by rw [zlC];exact zwP s a _ _ _
  have hun:(zhz s b a k).Unknown=a.Unknown++b.Unknown:=by rw [zlC]
  refine (zhr _).2 ⟨by omega,⟨by rw [hun];simp;omega,fun t ht=>by
   rw [hun] at ht;rcases xD.1 ht with h| h
   ·exact a3 t h
   ·exact b3 t h⟩,zdB.2 fun x hx=>?_⟩
  have hl:=zBy j1 hx;rw [j2] at hl;cases hlb:look b.Values x.Number with
  | none=>rw [hlb] at hl;exact zdB.1 a4 x (zfU hl).2
  | some v=>
   rw [hlb] at hl;have e:x=zjy s v (look a.Values x.Number) (zaM (zaP s k) (fldI (zaP s k) x.Number)):=(yW hl).symm;obtain ⟨hvn,hvm⟩:=zfU hlb;have bv:=zdB.1 b4 v hvm;have sv:=zgL.1 sb4 v hvm;rw [e,zjQ];cases hla:look a.Values x.Number with
   | none=>exact bv
   | some u=>
    obtain ⟨hun',hum⟩:=zfU hla;have bu:=zdB.1 a4 u hum;have su:=zgL.1 sa4 u hum;obtain ⟨v1,⟨v2,v3⟩,⟨v4,v5⟩,v6,v7⟩:=(zgS v).1 bv;obtain ⟨u1,⟨u2,u3⟩,⟨u4,u5⟩,u6,u7⟩:=(zgS u).1 bu;obtain ⟨q1,⟨q2,q3⟩,q4,q5⟩:=(zlg v).1 sv;obtain ⟨r1,⟨r2,r3⟩,r4,r5⟩:=(zlg u).1 su;simp only;split
    ·refine (zgS _).2 ⟨v1,⟨by simp;omega,fun w hw=>?_⟩,⟨by simp;omega,fun w hw=>?_⟩,by simp;omega,zeb.2 fun w hw=>?_⟩
     ·rcases xD.1 hw with h| h
      ·exact u3 w h
      ·exact v3 w h
     ·rcases xD.1 hw with h| h
      ·exact u5 w h
      ·exact v5 w h
     ·rcases xD.1 hw with h| h
      ·exact zeb.1 u7 w h
      ·exact zeb.1 v7 w h
    ·split
     ·rename_i hrep h17;have fv:=hb' v hvm;have fu:=ha' u hum;rw [hvn] at fv;rw [hun'] at fu;have ov:=zfS fv.2;have ou:=zfS fu.2;refine (zgS _).2 ⟨v1,⟨by simp,by simp⟩,⟨by simp,by simp⟩,?_⟩;cases hvs:v.Subs with
      | nil=>rw [zlU];exact ⟨by simp,by rw [bdMs];trivial⟩
      | cons y ys=>
       cases hus:u.Subs with
       | nil=>rw [zlU];exact ⟨by simp,by rw [bdMs];trivial⟩
       | cons z zs=>
        rw [zlU];simp only;have hy:y∈v.Subs:=by rw [hvs];exact xx
        have hz:z∈u.Subs:=by rw [hus];exact xx
        have hsv:=zdH hvm;rw [zeV] at hsv;have hsy:=zeG hy;have hj:=zvP N y z _ (by omega) (ou.subs z hz).2 (ov.subs y hy).2 (zeb.1 u7 z hz) (zeb.1 v7 y hy) (zhQ.1 r5 z hz) (zhQ.1 q5 y hy);exact ⟨by simp,by rw [bdMs,bdMs];exact ⟨hj,trivial⟩⟩
     ·exact bv
theorem zBI:∀(N:Nat) (x:Msg),szM x<=N->bdM x->bdM (zjE x)/\szM (zjE x)=szM x
 | 0,x,h,_=>by rw [zcN] at h;omega
 | N+1,x,hsz,hb=>by
  obtain ⟨b1,_,b4⟩:=(zhr x).1 hb;rw [zcN] at hsz;have key:∀v∈x.Values,bdV (zos v)/\szV (zos v)=szV v:=fun v hv=>by
   have bv:=zdB.1 b4 v hv;obtain ⟨v1,v2,v3,v6,v7⟩:=(zgS v).1 bv;have hsv:=zdH hv;rw [zeV] at hsv;have ks:∀y∈v.Subs,bdM (zjE y)/\szM (zjE y)=szM y:=fun y hy=>zBI N y (by have:=zeG hy;omega) (zeb.1 v7 y hy)
   rw [zzc];refine ⟨(zgS _).2 ⟨v1,v2,v3,by rw [znH];simpa using v6,zeb.2 fun z hz=>?_⟩,?_⟩
   ·rw [znH] at hz;obtain ⟨y,hy,rfl⟩:=xP.1 hz;exact (ks y hy).1
   ·rw [zeV,zeV];simp only;have:∀l:List Msg,(∀y∈l,szM (zjE y)=szM y)->szMs (zjZ l)=szMs l:=by
     intro l
     induction l with
     | nil=>intro _;rw [zjZ]
     | cons y l ih=>intro h;rw [zjZ,szMs,szMs,h y xx,ih fun z hz=>h z (xy _ hz)]
    rw [this _ fun y hy=>(ks y hy).2]
  rw [zoS];refine ⟨(zhr _).2 ⟨by rw [znI];simpa using b1,⟨by simp,by simp⟩,zdB.2 fun z hz=>?_⟩,?_⟩
  ·rw [znI] at hz;obtain ⟨v,hv,rfl⟩:=xP.1 hz;exact (key v hv).1
  ·rw [zcN,zcN];simp only;have:∀l:List Vlu,(∀y∈l,szV (zos y)=szV y)->szVs (zka l)=szVs l:=by
    intro l
    induction l with
    | nil=>intro _;rw [zka]
    | cons y l ih=>intro h;rw [zka,szVs,szVs,h y xx,ih fun z hz=>h z (xy _ hz)]
   rw [this _ fun v hv=>(key v hv).2]
theorem zvw:∀(l m:List Vlu),szVs (l++m)=szVs l+szVs m
 | [],m=>by rw [yc,szVs];omega
 | v::l,m=>by rw [yz,szVs,szVs,zvw l m];omega
theorem zwa {s:List Mes}:∀(N:Nat) (x:Msg) (k:Int) (w:List zI) (keep:Bool),szM x<=N->bdM x->bdM (znF s x k w keep)/\szM (znF s x k w keep)<=szM x
 | 0,x,k,w,keep,h,_=>by rw [zcN] at h;omega
 | N+1,x,k,w,keep,hsz,hb=>by
  obtain ⟨b1,⟨b2,b3⟩,b4⟩:=(zhr x).1 hb;rw [zcN] at hsz;have key:∀v∈x.Values,∀f:Fld,(∀u∈zvt s v f w keep,bdV u)/\szVs (zvt s v f w keep)<=szV v:=fun v hv f=>by
   have bv:=zdB.1 b4 v hv;obtain ⟨v1,v2,v3,v6,v7⟩:=(zgS v).1 bv;have hsv:=zdH hv;have hve:=zeV v;rw [zoR];split
   ·cases hs:v.Subs with
    | nil=>
     rw [zpG];refine ⟨fun u hu=>?_,?_⟩
     ·rw [yf.1 hu];exact (zgS _).2 ⟨v1,⟨by simp,by simp⟩,⟨by simp,by simp⟩,by simp,by rw [bdMs];trivial⟩
     ·rw [szVs,szVs,zeV];simp only;rw [szMs];omega
    | cons y ys=>
     have hy:y∈v.Subs:=by rw [hs];exact xx
     have hsy:=zeG hy;obtain ⟨p1,p2⟩:=zwa N y f.Of (zhy w v.Number) keep (by omega) (zeb.1 v7 y hy);rw [zpG];refine ⟨fun u hu=>?_,?_⟩
     ·rw [yf.1 hu];exact (zgS _).2 ⟨v1,⟨by simp,by simp⟩,⟨by simp,by simp⟩,by simp,by rw [bdMs,bdMs];exact ⟨p1,trivial⟩⟩
     ·rw [szVs,szVs,zeV];simp only;rw [szMs,szMs];omega
   ·split
    ·refine ⟨(fun u hu=>by rw [yf.1 hu];exact bv),?_⟩;rw [szVs,szVs];omega
    ·exact ⟨(fun u hu=>by cases hu),(by rw [szVs];omega)⟩
  have all:∀l:List Vlu,(∀v∈l,v∈x.Values)->(∀u∈zek s l (zaP s k) w keep,bdV u)/\szVs (zek s l (zaP s k) w keep)<=szVs l/\(zek s l (zaP s k) w keep).length<=l.length:=by
   intro l
   induction l with
   | nil=>intro _;rw [zek];exact ⟨(fun u hu=>by cases hu),xB _,xB _⟩
   | cons v l ih=>
    intro h;obtain ⟨i1,i2,i3⟩:=ih fun u hu=>h u (xy _ hu)
    obtain ⟨k1,k2⟩:=key v (h v xx) (zaM (zaP s k) (fldI (zaP s k) v.Number));have k3:=zza s v (zaM (zaP s k) (fldI (zaP s k) v.Number)) w keep;rw [zek];refine ⟨fun u hu=>?_,?_,?_⟩
    ·rcases xD.1 hu with hu| hu
     ·exact k1 u hu
     ·exact i1 u hu
    ·rw [zvw,szVs];omega
    ·rw [yh,yn];omega
  obtain ⟨a1,a2,a3⟩:=all x.Values fun v hv=>hv
  rw [zrh];refine ⟨(zhr _).2 ⟨by simp only;omega,⟨?_,?_⟩,zdB.2 a1⟩,by rw [zcN,zcN];simp only;omega⟩
  ·simp only;cases keep<;>simp<;>omega
  ·simp only;cases keep with
   | true=>intro t ht;cases ht
   | false=>exact b3
theorem zCr:∀(N:Nat) (x:Msg),szM x<=N->szM x<=wgM x
 | 0,x,h=>by rw [zcN] at h;omega
 | N+1,x,h=>by
  rw [zcN] at h;have hv:∀v∈x.Values,szV v<=wgV v:=fun v hv=>by
   have h1:=zdH hv;have he:=zeV v;have:∀l:List Msg,(∀y∈l,y∈v.Subs)->szMs l<=wgMs l:=by
    intro l
    induction l with
    | nil=>intro _;rw [szMs];omega
    | cons y l ih=>
     intro hl;have hy:=hl y xx;have h2:=zeG hy;have:=zCr N y (by omega);have:=ih fun z hz=>hl z (xy _ hz)
     rw [szMs,wgMs];omega
   have:=this v.Subs fun y hy=>hy
   rw [he,zlY];omega
  have:∀l:List Vlu,(∀v∈l,v∈x.Values)->szVs l<=wgVs l:=by
   intro l
   induction l with
   | nil=>intro _;rw [szVs];omega
   | cons v l ih=>
    intro hl;have:=hv v (hl v xx);have:=ih fun z hz=>hl z (xy _ hz)
    rw [szVs,wgVs];omega
  have:=this x.Values fun v hv=>hv
  rw [zcN,zov];omega
theorem zIs:∀(N:Nat) (x:Msg),szM x<=N->wgM x<=1048576->smM x
 | 0,x,h,_=>by rw [zcN] at h;omega
 | N+1,x,h,hw=>by
  rw [zcN] at h;rw [zov] at hw;have hl:=zCp x.Values;have hu:=zAr (l:=x.Unknown);refine (zki _).2 ⟨by omega,⟨by omega,fun t ht=>by have:=zAs ht;omega⟩,zgL.2 fun v hv=>?_⟩;have h1:=zdH hv;have h2:=zCq hv;rw [zeV] at h1;rw [zlY] at h2;have ht:=zAr (l:=v.Texts);have hs:=zCo v.Subs;refine (zlg _).2 ⟨by omega,⟨by omega,fun t ht=>by have:=zAs ht;omega⟩,by omega,zhQ.2 fun y hy=>?_⟩;have h3:=zeG hy;have h4:=zrF hy;exact zIs N y (by omega) (by omega)
theorem zun:∀(l m:List Vlu),wgVs (l++m)=wgVs l+wgVs m
 | [],m=>by rw [yc,wgVs];omega
 | v::l,m=>by rw [yz,wgVs,wgVs,zun l m];omega
theorem zCn:∀(l m:List Msg),wgMs (l++m)=wgMs l+wgMs m
 | [],m=>by rw [yc,wgMs];omega
 | v::l,m=>by rw [yz,wgMs,wgMs,zCn l m];omega
def wgO:Option Vlu->Nat
 | none=>0
 | some u=>wgV u
theorem zHO (v:Vlu):∀(d:Bool) (l:List Vlu),zfD l->wgVs (putL v d l)+wgO (look l v.Number)<=wgVs l+(if d=true then 0 else wgV v)
 | d,[],_=>by
  rw [putL];cases d
  ·show wgVs [v]+0<=_;simp [wgVs]
  ·show wgVs []+0<=_;simp
 | d,u::l,h=>by
  obtain ⟨h1,h2⟩:=yr.1 h;have ih:=zHO v (d|| decide (v.Number<=u.Number)) l h2;rw [putL,zun,zun,zdo,wgVs];by_cases he:u.Number=v.Number
  ·rw [xw he,xw he];have hn:look l v.Number=none:=zrV fun x hx=>by have:=h1 x hx;omega
   rw [hn] at ih;have hle:decide (v.Number<=u.Number)=true:=by simp;omega
   rw [hle,qV,xw rfl] at ih;simp only [wgO,wgVs,hle,qV] at ih|-;cases d
   ·rw [xw ⟨rfl,by omega⟩,wgVs,wgVs];simp;omega
   ·rw [xu (by simp),wgVs];simp;omega
  ·rw [xu he,xu he,wgVs,wgVs];cases d
   ·by_cases hv:v.Number<=u.Number
    ·rw [xw ⟨rfl,hv⟩,wgVs,wgVs];simp only [hv,pU,qV,yI,qH,qI] at ih|-;omega
    ·rw [xu (fun hh=>hv hh.2),wgVs];simp only [hv,pV,qN,qH,qI] at ih|-;omega
   ·rw [xu (by simp),wgVs];simp only [pv,yI] at ih|-;omega
theorem zyK {s:List Mes} {a:Msg} {m:Mes}:∀(l acc:List Vlu),zfD l->zfD acc->(∀v∈l,look acc v.Number=look a.Values v.Number)->(∀v∈l,wgV (zjy s v (look a.Values v.Number) (zaM m (fldI m v.Number)))<=wgV v+wgO (look a.Values v.Number))->wgVs (ziV s l a m acc)<=wgVs acc+wgVs l
 | [],acc,_,_,_,_=>by rw [ziV];omega
 | v::l,acc,hl,ha,he,hw=>by
  obtain ⟨l1,l2⟩:=yr.1 hl;have hv:=he v xx;have hwv:=hw v xx;have hn:=zrR s v (look a.Values v.Number) (zaM m (fldI m v.Number));rw [ziV]
  generalize zjy s v (look a.Values v.Number) (zaM m (fldI m v.Number))=v' at hn hwv|-
  have hp:=zHO v' (decide (zfM v'=0)) acc ha;have ih:=zyK (s:=s) (a:=a) (m:=m) l (putM ⟨acc,[]⟩ v').Values l2 (zrk ha) (fun u hu=>by
   show look (putL v' _ acc) u.Number=_;have:=l1 u hu;rw [zwV ha,xu (by omega)];exact he u (xy _ hu)) (fun u hu=>hw u (xy _ hu))
  have hq:wgVs (putM ⟨acc,[]⟩ v').Values=wgVs (putL v' (decide (zfM v'=0)) acc):=rfl;rw [hn,hv] at hp;rw [wgVs];split at hp<;>omega
theorem zzN {s:List Mes}:∀(N:Nat) (b a:Msg) (k:Int),szM b<=N->zaw s a k=true->zaw s b k=true->wgM (zhz s b a k)<=wgM a+wgM b
 | 0,b,a,k,h,_,_=>by rw [zcN] at h;omega
 | N+1,b,a,k,hsz,ha,hb=>by
  obtain ⟨_,_,ra,ha',_⟩:=zcs ha;obtain ⟨_,_,rb,hb',_⟩:=zcs hb;rw [zcN] at hsz;have:=zyK (s:=s) (a:=a) (m:=zaP s k) b.Values a.Values rb ra (fun _ _=>rfl) fun v hv=>by
   rw [zjQ];cases hla:look a.Values v.Number with
   | none=>simp only [wgO];omega
   | some u=>
    obtain ⟨hun,hum⟩:=zfU hla;have hve:=zlY v;have hue:=zlY u;simp only [wgO];split
    ·rw [zlY];simp only [yh,qX,List.sum_append,zCn];omega
    ·split
     ·rename_i hrep h17;have ov:=zfS (hb' v hv).2;have ou:=zfS (ha' u hum).2;rw [hun] at ou;have hsv:=zdH hv;rw [zeV] at hsv;rw [zlY];simp only [pw,qY,List.sum_nil];cases hvs:v.Subs with
      | nil=>rw [zlU,wgMs];omega
      | cons y ys=>
       cases hus:u.Subs with
       | nil=>rw [zlU,wgMs];omega
       | cons z zs=>
        rw [zlU];have hy:y∈v.Subs:=by rw [hvs];exact xx
        have hz:z∈u.Subs:=by rw [hus];exact xx
        have hsy:=zeG hy;have hj:=zzN N y z _ (by omega) (ou.subs z hz).2 (ov.subs y hy).2;have w1:=zrF hy;have w2:=zrF hz;rw [wgMs,wgMs];omega
     ·omega
  rw [zlC,zov,zov,zov];simp only [qX,List.sum_append];omega
theorem zAe {s:List Mes}:∀(N:Nat) (x:Msg) (k:Int) (w:List zI) (keep:Bool),szM x<=N->wgM (znF s x k w keep)<=wgM x
 | 0,x,k,w,keep,h=>by rw [zcN] at h;omega
 | N+1,x,k,w,keep,hsz=>by
  rw [zcN] at hsz;have key:∀v∈x.Values,∀f:Fld,wgVs (zvt s v f w keep)<=wgV v:=fun v hv f=>by
   have hsv:=zdH hv;rw [zeV] at hsv;have hve:=zlY v;rw [zoR];split
   ·cases hs:v.Subs with
    | nil=>
     rw [zpG,wgVs,wgVs,zlY];simp only [pw,qY,List.sum_nil];rw [wgMs];omega
    | cons y ys=>
     have hy:y∈v.Subs:=by rw [hs];exact xx
     have hsy:=zeG hy;have hwy:=zrF hy;have:=zAe (s:=s) N y f.Of (zhy w v.Number) keep (by omega);rw [zpG,wgVs,wgVs,zlY];simp only [pw,qY,List.sum_nil];rw [wgMs,wgMs];omega
   ·split
    ·rw [wgVs,wgVs];omega
    ·rw [wgVs];omega
  have all:∀l:List Vlu,(∀v∈l,v∈x.Values)->wgVs (zek s l (zaP s k) w keep)<=wgVs l:=by
   intro l
   induction l with
   | nil=>intro _;rw [zek];exact xB _
   | cons v l ih=>
    intro h;have i2:=ih fun u hu=>h u (xy _ hu)
    have k2:=key v (h v xx) (zaM (zaP s k) (fldI (zaP s k) v.Number));rw [zek,zun,wgVs];omega
  have:=all x.Values fun v hv=>hv
  rw [zrh,zov,zov];simp only;cases keep<;>simp<;>omega
theorem zJX {s:List Mes} (hs:zlQ s) {k n:Int} (k0:0<=k) (k1:k<s.length) (h:0<=fldI (zaP s k) n):(Lit.int .i64 n).wf=true:=by
 obtain ⟨q,rfl⟩:∃q:Nat,k=q:=⟨k.toNat,by omega⟩;have hmm:zaP s (q:Int)∈s:=by rw [zjR (by omega)];exact xC _
 rcases zpx (zaP s (q:Int)) n with ⟨hf,_⟩| ⟨i,hi,_,hn,_⟩
 ·omega
 ·have hfo:=hs.fld _ hmm _ (xC hi);exact zKa (by rw [<-hn];have:=hfo.lo;have:=hfo.hi;omega)
theorem zxc (s:List Mes) (root:Int) (l:List Msg):zdF s root l=0\/zdF s root l=2\/zdF s root l=9\/zdF s root l=12:=by
 unfold zdF;by_cases h0:zhD s root=0
 ·rw [xu (show ¬zhD s root≠0 from fun hh=>hh h0)];by_cases ha:l.all (fun x=>zaw s x root)=true
  ·rw [xw ha];simp
  ·rw [xu ha];simp
 ·rw [xw h0];unfold zhD;split
  ·simp
  ·split<;>simp
theorem zpE {s:List Mes} {root:Int} {l:List Msg} (h:zdF s root l=0):zlQ s/\0<=root/\root<s.length/\∀x∈l,zaw s x root=true:=by
 unfold zdF at h;by_cases h0:zhD s root=0
 ·rw [xu (show ¬zhD s root≠0 from fun hh=>hh h0)] at h;obtain ⟨h1,h2,h3⟩:=zvf h0;by_cases ha:l.all (fun x=>zaw s x root)=true
  ·exact ⟨h1,h2,h3,xJ.1 ha⟩
  ·rw [xu ha] at h;cases h
 ·rw [xw h0] at h;exact absurd h h0
def znP:Msg:=⟨[],[]⟩
theorem zCu:bdM znP:=(zhr _).2 ⟨by simp [znP],⟨by simp [znP],by simp [znP]⟩,by show bdVs [];rw [bdVs];trivial⟩
theorem zIu:szM znP=1:=by rw [zcN];show 1+szVs []=1;rw [szVs]
theorem zJT {fuel:Nat} {l:List Msg} (hx:∀x∈l,szM x<fuel/\bdM x) (hl:l.length<=1048576):∃r,zhG fuel l=some r/\(r=false->∀x∈l,smM x->wgM x<=2000):=by
 have key:∀(d i:Nat),i+d=l.length->∃q,zfa fuel l i=some q/\(q= .inl ()->∀x∈l.drop i,smM x->wgM x<=2000):=by
  intro d
  induction d with
  | zero=>
   intro i hi;refine ⟨.inl (),zkl ?_,fun _ x hx=>?_⟩
   ·unfold zbG;rw [uU]
   ·rw [yb (by omega)] at hx;cases hx
  | succ d ih=>
   intro i hi;have hlt:i<l.length:=by omega
   obtain ⟨h1,h2⟩:=hx _ (xC hlt);obtain ⟨r,hr,hr2⟩:=(zIa fuel).1 l[i] 70 h1 h2 (by omega) (by omega);by_cases hb:r>2000
   ·refine ⟨.inr (),zkl ?_,fun h=>nomatch h⟩;unfold zbG;rw [uT,zP rfl hlt,sb,hr,sb,itT (by simpa using hb)]
   ·obtain ⟨q,hq,hq2⟩:=ih (i+1) (by omega);refine ⟨q,(zoG (i':=((i+1:Nat):Int)) ?_).trans hq,fun h x hx hs=>?_⟩
    ·unfold zbG;rw [uT,zP rfl hlt,sb,hr,sb,itF (by simpa using hb),uV];rfl
    ·rw [xQ hlt] at hx;rcases xz.1 hx with rfl| hx
     ·have:=(hr2 hs).2.2 (by omega);omega
     ·exact hq2 h x hx hs
 obtain ⟨q,hq,hq2⟩:=key l.length 0 (by omega);have hq':zfa fuel l 0=_:=hq;unfold zhG;rw [hq',sb];cases q with
 | inl u=>exact ⟨_,rfl,fun _=>by cases u;simpa using hq2 rfl⟩
 | inr u=>exact ⟨_,rfl,fun h=>nomatch h⟩
theorem zBB {s:List Mes} {root:Int} {l:List Msg} (h1:zgI s=true) (h2:0<=root/\root<s.length) (h:∀x∈l,zaw s x root=true):zdF s root l=0:=by
 have h0:zhD s root=0:=by unfold zhD;rw [h1,xu (by simp),xu (by omega)]
 unfold zdF;rw [xu (show ¬zhD s root≠0 from fun hh=>hh h0),xw (xJ.2 h)]
structure Gd (s:List Mes) (root:Int) (n:Nat) (x:Msg):Prop where
 r:zaw s x root=true
 b:bdM x
 w:wgM x<=n
theorem Gd.s {s:List Mes} {root:Int} {n:Nat} {x:Msg} (h:Gd s root n x) (hn:n<=1048576):smM x:=zIs _ x (xB _) (yi h.w hn)
theorem Gd.z {s:List Mes} {root:Int} {n fuel:Nat} {x:Msg} (h:Gd s root n x) (hn:n<fuel):szM x<fuel:=Nat.lt_of_le_of_lt (yi (zCr _ x (xB _)) h.w) hn
theorem Gd.join {s:List Mes} {root:Int} {n m:Nat} {a b:Msg} (ha:Gd s root n a) (hb:Gd s root m b) (hn:n<=1048576) (hm:m<=1048576):Gd s root (n+m) (zhz s b a root):=
 ⟨zvl _ b a root (xB _) ha.r hb.r,zvP _ b a root (xB _) ha.r hb.r ha.b hb.b (ha.s hn) (hb.s hm),yi (zzN _ b a root (xB _) ha.r hb.r) (Nat.add_le_add ha.w hb.w)⟩
theorem Gd.part {s:List Mes} {root:Int} {n:Nat} {a:Msg} (ha:Gd s root n a) (w:List zI) (keep:Bool):Gd s root n (znF s a root w keep):=
 ⟨zri _ a root w keep (xB _) ha.r,(zwa _ a root w keep (xB _) ha.b).1,yi (zAe _ a root w keep (xB _)) ha.w⟩
theorem zJz:∀n:Nat,(∀x:Msg,szM x<=n->dM x<szM x)/\(∀l:List Msg,szMs l<=n->dMs l<=szMs l)/\(∀v:Vlu,szV v<=n->dV v<szV v)/\∀l:List Vlu,szVs l<=n->dVs l<=szVs l
 | 0=>⟨fun x h=>by rw [zcN] at h;omega,fun l h=>by
   cases l with
   | nil=>simp [dMs]
   | cons x l=>rw [szMs,zcN] at h;omega,fun v h=>by rw [zeV] at h;omega,fun l h=>by
   cases l with
   | nil=>simp [dVs]
   | cons x l=>rw [szVs,zeV] at h;omega⟩
 | n+1=>by
  obtain ⟨i1,i2,i3,i4⟩:=zJz n;have h2:∀l:List Msg,szMs l<=n->dMs l<=szMs l:=i2;have h4:∀l:List Vlu,szVs l<=n->dVs l<=szVs l:=i4;have k1:∀x:Msg,szM x<=n+1->dM x<szM x:=fun x h=>by rw [zcN] at h|-;rw [zGx];have:=h4 x.Values (by omega);omega
  have k3:∀v:Vlu,szV v<=n+1->dV v<szV v:=fun v h=>by rw [zeV] at h|-;rw [zDV];have:=h2 v.Subs (by omega);omega
  refine ⟨k1,fun l=>?_,k3,fun l=>?_⟩
  ·induction l with
   | nil=>intro _;simp [dMs]
   | cons x l ih=>intro h;rw [szMs] at h|-;rw [dMs];have:=ih (by omega);have:=k1 x (by omega);omega
  ·induction l with
   | nil=>intro _;simp [dVs]
   | cons x l ih=>intro h;rw [szVs] at h|-;rw [dVs];have:=ih (by omega);have:=k3 x (by omega);omega
theorem zDT (x:Msg):dM x<szM x:=(zJz (szM x)).1 x (xB _)
theorem zEK:∀(fuel:Nat) (x:Msg) (most:Nat),szM x<fuel->bdM x->dM x<=most->most<=1048576->zhx fuel x most=some ((dM x:Nat):Int)
 | 0,x,_,h,_,_,_=>by omega
 | fuel+1,x,most,hs,hb,hd,hm=>by
  obtain ⟨b1,_,b4⟩:=(zhr x).1 hb;rw [zcN] at hs;rw [zGx] at hd|-;show zkI (zhx fuel) x most=_;unfold zkI;have inner:∀(v:Vlu),v∈x.Values->∀(c i d:Nat),i+c=v.Subs.length->d<=most->ziG most (zhx fuel) v d i=some (.inl ((max d (dMs (v.Subs.drop i)):Nat):Int)):=by
   intro v hv c;have hsz:=zdH hv;have hdv:=zzC hv;obtain ⟨_,_,_,c1,c2⟩:=(zgS _).1 (zdB.1 b4 _ hv);rw [zeV] at hsz;rw [zDV] at hdv
   induction c with
   | zero=>
    intro i d hi hdm;have e:v.Subs.drop i=[]:=yb (by omega);rw [e,dMs];refine zuh ?_;unfold zeL;rw [uU,Nat.max_zero]
   | succ c ih=>
    intro i d hi hdm;have hil:i<v.Subs.length:=by omega
    have hm2:=xC hil;have s2:=zeG hm2;have d2:=zDU hm2;rw [xQ hil,dMs];have hr:=zEK fuel v.Subs[i] (most - 1) (by omega) (zeb.1 c2 _ hm2) (by omega) (by omega);have hmost:IntKind.i64.wrap ((most:Int) - 1)=((most - 1:Nat):Int):=by rw [uV];omega
    have hw:IntKind.i64.wrap (1+((dM v.Subs[i]:Nat):Int))=1+((dM v.Subs[i]:Nat):Int):=by rw [uV]
    have hmax:(if (d:Int)<1+((dM v.Subs[i]:Nat):Int) then 1+((dM v.Subs[i]:Nat):Int) else (d:Int))=((max d (1+dM v.Subs[i]):Nat):Int):=by
     split<;>omega
    refine (zug (deep3':=((max d (1+dM v.Subs[i]):Nat):Int)) (v3':=((i+1:Nat):Int)) ?_).trans ?_
    ·unfold zeL;rw [uT,zP rfl hil,sb,uU,hmost,hr,sb,hw,hmax,uU,uV];push_cast;rfl
    ·rw [ih (i+1) (max d (1+dM v.Subs[i])) (by omega) (by omega)];congr 3;omega
  have outer:∀(c i d:Nat),i+c=x.Values.length->d<=most->ziF most (zhx fuel) x d i=some (.inl ((max d (dVs (x.Values.drop i)):Nat):Int)):=by
   intro c
   induction c with
   | zero=>
    intro i d hi hdm;have e:x.Values.drop i=[]:=yb (by omega);rw [e,dVs];refine zuf ?_;unfold zeK;rw [uU,Nat.max_zero]
   | succ c ih=>
    intro i d hi hdm;have hil:i<x.Values.length:=by omega
    have hmem:=xC hil;have hdv:=zzC hmem;rw [xQ hil,dVs];have h2:=inner x.Values[i] hmem (x.Values[i]).Subs.length 0 d (xE _) hdm;rw [xX,<-zDV] at h2;have h2':ziG most (zhx fuel) x.Values[i] d 0=_:=h2;refine (zue (deep':=((max d (dV x.Values[i]):Nat):Int)) (v':=((i+1:Nat):Int)) ?_).trans ?_
    ·unfold zeK;rw [uT,zP rfl hil,sb,h2',sb,uV];push_cast;rfl
    ·rw [ih (i+1) (max d (dV x.Values[i])) (by omega) (by omega)];congr 3;omega
  have h:=outer x.Values.length 0 0 (xE _) (xI _);have h':ziF most (zhx fuel) x 0 0=_:=h;rw [h',sb,xX,Nat.zero_max]
theorem zFS (hf:szM x<fuel) (hb:bdM x) (hd:dM x<=131072):znb fuel x=some ((dM x:Nat):Int):=by
 unfold znb;have h:=zEK fuel x 131072 hf hb hd (by omega);have h':zhx fuel x 131072=_:=h;rw [h',sb]
theorem zCf (hf:szM x<fuel) (hb:bdM x) (hd:dM x<=131072):zmw fuel x=some true:=by
 unfold zmw;rw [zFS hf hb hd,sb];congr 1;simp;omega
section
open Classical
end
theorem zCM (h:a.length*80<=140737488355328):zbv a=some a:=by
 unfold zbv;have h1:(app 80 ([]:List Vlu) a>>=fun v=>some v)=some a:=by rw [zdI (by simp;omega),sb,yc]
 cases a with
 | nil=>exact zqB rfl h1
 | cons=>exact h1
theorem zCL (h:a.length*48<=140737488355328):zcg a=some a:=by
 unfold zcg;have h1:(app 48 ([]:List Msg) a>>=fun v=>some v)=some a:=by rw [zdI (by simp;omega),sb,yc]
 cases a with
 | nil=>exact zqB rfl h1
 | cons=>exact h1
theorem zyy (h:a.length*16<=140737488355328):zca a=some a:=by
 unfold zca;have h1:(app 16 ([]:List Str) a>>=fun v=>some v)=some a:=by rw [zdI (by simp;omega),sb,yc]
 cases a with
 | nil=>exact zqB rfl h1
 | cons=>exact h1
theorem zEY (h:a.length*8<=140737488355328):zcO a=some a:=by
 unfold zcO;have h1:(app 8 ([]:List Int) a>>=fun v=>some v)=some a:=by rw [zdI (by simp;omega),sb,yc]
 cases a with
 | nil=>exact zqB rfl h1
 | cons=>exact h1
theorem zxG {α:Type}:∀(l:List α) (i:Nat) (h:i<l.length),l.set i l[i]=l
 | [],i,h=>by simp at h
 | x::l,0,h=>rfl
 | x::l,i+1,h=>by simp only [List.set_cons_succ,pT];rw [zxG l i (by simpa using h)]
theorem zEJ:∀(fuel:Nat),(∀x:Msg,szM x<fuel->bdM x->zgs fuel x=some x)/\∀v:Vlu,szV v<fuel->bdV v->zfE fuel v=some v
 | 0=>⟨fun x h=>by omega,fun v h=>by omega⟩
 | fuel+1=>by
  obtain ⟨ih1,ih2⟩:=zEJ fuel;refine ⟨fun x hs hb=>?_,fun v hs hb=>?_⟩
  ·obtain ⟨b1,⟨b2,b3⟩,b4⟩:=(zhr x).1 hb;rw [zcN] at hs;show zhw (zgs fuel) (zfE fuel) x=_;unfold zhw;have hloop:∀(c i:Nat),i+c=x.Values.length->zhT (zfE fuel) x.Values x.Values i=some x.Values:=by
    intro c
    induction c with
    | zero=>
     intro i hi;refine ztk ?_;unfold zcL;rw [uU]
    | succ c ih=>
     intro i hi;have hil:i<x.Values.length:=by omega
     have hm:=xC hil;have:=zdH hm;refine (ztj (v':=x.Values) (v2':=((i+1:Nat):Int)) ?_).trans (ih (i+1) (by omega));unfold zcL;rw [uT,zP rfl hil,sb,ih2 _ (by omega) (zdB.1 b4 _ hm),sb,sb,uV,yp,zxG _ _ hil];push_cast;rfl
   have h:=hloop x.Values.length 0 (xE _);have h':zhT (zfE fuel) x.Values x.Values 0=_:=h;rw [zCM (by omega),sb,zyy (by omega),sb,h',sb];cases x;rfl
  ·obtain ⟨b0,⟨b1,_⟩,⟨b2,b3⟩,b4,b5⟩:=(zgS v).1 hb;rw [zeV] at hs;show zem (zgs fuel) (zfE fuel) v=_;unfold zem;have hloop:∀(c i:Nat),i+c=v.Subs.length->zfg (zgs fuel) v.Subs v.Subs i=some v.Subs:=by
    intro c
    induction c with
    | zero=>
     intro i hi;refine zpd ?_;unfold zaQ;rw [uU]
    | succ c ih=>
     intro i hi;have hil:i<v.Subs.length:=by omega
     have hm:=xC hil;have:=zeG hm;refine (zpc (v2':=v.Subs) (v3':=((i+1:Nat):Int)) ?_).trans (ih (i+1) (by omega));unfold zaQ;rw [uT,zP rfl hil,sb,ih1 _ (by omega) (zeb.1 b5 _ hm),sb,sb,uV,yp,zxG _ _ hil];push_cast;rfl
   have h:=hloop v.Subs.length 0 (xE _);have h':zfg (zgs fuel) v.Subs v.Subs 0=_:=h;rw [zEY (by omega),sb,zyy (by omega),sb,zCL (by omega),sb,h',sb];cases v;rfl
theorem zxO (hf:szM x<fuel) (hb:bdM x) (hd:dM x<=131072):zjt fuel x=some x:=by
 unfold zjt;rw [zCf hf hb hd,sb,itF (by rfl),(zEJ fuel).1 x hf hb,sb]
theorem zJf:∀a<256,zuk ((a:Nat):Int)=some (if a<128 then (1,(a:Int)) else if a/32=6 then (2,((a%32:Nat):Int)) else if a/16=14 then (3,((a%16:Nat):Int)) else if a/8=30 then (4,((a%8:Nat):Int)) else (0,0)):=by decide+kernel
theorem zAn (w k:Nat) (h:k<=32):shrI .u32 (w:Int) (k:Int)=((w/2^k:Nat):Int):=zBY (k:= .u32) (a:=w) (b:=k) (by simpa [IntKind.bits] using h)
theorem zvW (w:Nat):zph (w:Int)=some (if w<128 then 1 else if w<2048 then 2 else if 55296<=w/\w<=57343 then 0 else if w<65536 then 3 else if w<=1114111 then 4 else 0):=by
 unfold zph;have e7:shrI .u32 (w:Int) 7=((w/128:Nat):Int):=zAn w 7 (by omega);have e11:shrI .u32 (w:Int) 11=((w/2048:Nat):Int):=zAn w 11 (by omega);have e16:shrI .u32 (w:Int) 16=((w/65536:Nat):Int):=zAn w 16 (by omega);rw [e7,e11,e16];by_cases h1:w<128
 ·rw [uT,xw h1]
 ·rw [uU,xu h1];by_cases h2:w<2048
  ·rw [uT,xw h2]
  ·rw [uU,xu h2];by_cases h3:55296<=w/\w<=57343
   ·rw [uT,xw h3]
   ·rw [uU,xu h3];by_cases h4:w<65536
    ·rw [uT,xw h4]
    ·rw [uU,xu h4];by_cases h5:w<=1114111
     ·rw [uT,xw h5]
     ·rw [uU,xu h5]
theorem zFn:∀c<256,shrI .u8 ((c:Nat):Int) 6=((c/64:Nat):Int)/\IntKind.u32.wrap (andI .u8 ((c:Nat):Int) 63)=((c%64:Nat):Int):=by decide+kernel
theorem zms {v:List UInt8} {w i:Nat} (h:i<v.length) (hv:v.length<=1000) (hw:w<=1000000):
  zdM v w i=if cont v[i] then zdM v ((64*w+v[i].toNat%64:Nat):Int) ((i+1:Nat):Int) else some (.inr ()):=by
 have hc:=v[i].toNat_lt;obtain ⟨e1,e2⟩:=zFn v[i].toNat (by omega);have hb:zfQ v w i=if cont v[i] then some (.inl (((64*w+v[i].toNat%64:Nat):Int),((i+1:Nat):Int))) else some (.inr (.inr ())):=by
  unfold zfQ;rw [uT,zP rfl h,sb,e1,e2];by_cases hk:cont v[i]=true
  ·rw [xw hk];unfold cont at hk;simp only [xS] at hk;rw [uU,uV];have e3:shlI .u32 (w:Int) 6=((w*64:Nat):Int):=by
    have:shlI .u32 (w:Int) 6=((w*64%4294967296:Nat):Int):=by simp [shlI,IntKind.bits,zCt]
    rw [this,Nat.mod_eq_of_lt (by omega)]
   rw [e3,zEB rfl (by simp [IntKind.bits];omega) (by simp [IntKind.bits];omega),Nat.or_comm,zBF _ w 6 (by omega)];have e4:v[i].toNat%64+w*2^6=64*w+v[i].toNat%64:=by omega
   rw [e4];rfl
  ·rw [xu hk];unfold cont at hk;simp only [xS] at hk;rw [uT]
 by_cases hk:cont v[i]=true
 ·rw [xw hk] at hb|-;exact zvH hb
 ·rw [xu hk] at hb|-;exact zpX hb
theorem ztI (h:v.length<=i):zdM v w i=some (.inl (w:Int)):=by
 refine zpX ?_;unfold zfQ;rw [uU]
theorem zKW {w:Nat} {b:UInt8} (hw:w<=100):zdM [b] w 0=if cont b then some (.inl ((64*w+b.toNat%64:Nat):Int)) else some (.inr ()):=by
 have h:=zms (v:=[b]) (w:=w) (i:=0) (by simp) (by simp) (by omega);refine Eq.trans h ?_;simp only [uz];rw [ztI (by simp)]
theorem zKX {w:Nat} {b c:UInt8} (hw:w<=100):zdM [b,c] w 0=if cont b then (if cont c then some (.inl ((64*(64*w+b.toNat%64)+c.toNat%64:Nat):Int)) else some (.inr ())) else some (.inr ()):=by
 have h:=zms (v:=[b,c]) (w:=w) (i:=0) (by simp) (by simp) (by omega);refine Eq.trans h ?_;rw [zms (i:=0+1) (by simp) (by simp) (by omega)];simp only [uz,pT,xE];rw [ztI (by simp)]
theorem zKY {w:Nat} {b c d:UInt8} (hw:w<=100):zdM [b,c,d] w 0=if cont b then (if cont c then (if cont d then some (.inl ((64*(64*(64*w+b.toNat%64)+c.toNat%64)+d.toNat%64:Nat):Int)) else some (.inr ())) else some (.inr ())) else some (.inr ()):=by
 have h:=zms (v:=[b,c,d]) (w:=w) (i:=0) (by simp) (by simp) (by omega);refine Eq.trans h ?_;rw [zms (i:=0+1) (by simp) (by simp) (by omega),zms (i:=0+1+1) (by simp) (by simp) (by omega)];simp only [uz,pT,xE];rw [ztI (by simp)]
theorem zHG (n:Nat) (h:∀m,m≠n->isN m l=false):nxt l=if isN n l then n else 0:=by
 by_cases hn:isN n l=true
 ·rw [xw hn,zKp hn]
 ·rw [xu hn];by_cases h0:nxt l=0
  ·exact h0
  ·have h1:=zvY h0;by_cases h2:nxt l=n
   ·rw [h2] at h1;exact absurd h1 hn
   ·rw [h _ h2] at h1;cases h1
theorem zoQ (n:Nat) (h:n=1/\a.toNat<128\/n=2/\192<=a.toNat/\a.toNat<224\/n=3/\224<=a.toNat/\a.toNat<240\/n=4/\240<=a.toNat):nxt (a::t)=if isN n (a::t) then n else 0:=by
 refine zHG n fun m hm=>?_
 cases hh:isN m (a::t) with
 | false=>rfl
 | true=>
  obtain ⟨a',t',e,_,g⟩:=zmI hh;cases e;omega
theorem zEm (b:List UInt8):zpg b=some ((nxt b:Nat):Int):=by
 cases b with
 | nil=>rfl
 | cons a t=>
  have ha:=a.toNat_lt;unfold zpg;have e00:idx (a::t) (0:Int)=some a:=zP (n:=0) rfl (by simp);rw [uU,e00,sb];rw [zJf _ (by omega),sb];by_cases h1:a.toNat<128
  ·rw [zoQ 1 (.inl ⟨rfl,h1⟩),xw h1];simp only;rw [uU,zqE (i:=1) (j:=1) (a:=1) (b:=1) rfl rfl (by omega) (by simp),sb];have e0:zdM (((a::t).drop 1).take (1 - 1)) (a.toNat:Int) 0=some (.inl (a.toNat:Int)):=ztI (i:=0) (by simp);rw [e0,sb];simp only;rw [zvW,sb,xw h1,itF (by rfl)];simp [isN,is1,h1]
  ·rw [xu h1];by_cases h2:a.toNat/32=6
   ·rw [zoQ 2 (.inr (.inl ⟨rfl,by omega,by omega⟩)),xw h2];simp only
    match t with
    | []=>rw [itT (by simp)];rfl
    | b::t=>
     rw [uU,zqE (i:=1) (j:=2) (a:=1) (b:=2) rfl rfl (by omega) (by simp),sb];have e0:=zKW (w:=a.toNat%32) (b:=b) (by omega);have e0':zdM (((a::b::t).drop 1).take (2 - 1)) ((a.toNat%32:Nat):Int) 0=_:=e0;rw [e0'];have hb:=b.toNat_lt;by_cases c1:cont b=true
     ·rw [xw c1,sb];simp only;have hn:=zvW (64*(a.toNat%32)+b.toNat%64);simp only [isN,is2,c1,qv,xS];simp only [cont,xS] at c1;by_cases h:194<=a.toNat
      ·rw [xu (by omega),xw (by omega)] at hn;rw [hn,sb,itF (by rfl),xw (by omega)];rfl
      ·rw [xw (by omega)] at hn;rw [hn,sb,itT (by rfl),xu (by omega)];rfl
     ·rw [xu c1,sb];simp only;simp [isN,is2,c1]
   ·rw [xu h2];by_cases h3:a.toNat/16=14
    ·rw [zoQ 3 (.inr (.inr (.inl ⟨rfl,by omega,by omega⟩))),xw h3];simp only
     match t with
     | []=>rw [itT (by simp)];rfl
     | [b]=>rw [itT (by simp)];rfl
     | b::c::t=>
      rw [uU,zqE (i:=1) (j:=3) (a:=1) (b:=3) rfl rfl (by omega) (by simp),sb];have e0:=zKX (w:=a.toNat%16) (b:=b) (c:=c) (by omega);have e0':zdM (((a::b::c::t).drop 1).take (3 - 1)) ((a.toNat%16:Nat):Int) 0=_:=e0;rw [e0'];have hb:=b.toNat_lt;have hc:=c.toNat_lt;by_cases c1:cont b=true
      ·rw [xw c1];by_cases c2:cont c=true
       ·rw [xw c2,sb];simp only;have hn:=zvW (64*(64*(a.toNat%16)+b.toNat%64)+c.toNat%64);simp only [isN,is3,c1,c2,qu,xS];simp only [cont,xS] at c1 c2;by_cases h:(a.toNat=224->160<=b.toNat)/\(a.toNat=237->b.toNat<160)
        ·rw [xu (by omega),xu (by omega),xu (by omega),xw (by omega)] at hn;rw [hn,sb,itF (by rfl),xw (by omega)];rfl
        ·by_cases g:64*(64*(a.toNat%16)+b.toNat%64)+c.toNat%64<2048
         ·by_cases g':64*(64*(a.toNat%16)+b.toNat%64)+c.toNat%64<128
          ·rw [xw g'] at hn;rw [hn,sb,itT (by rfl),xu (by omega)];rfl
          ·rw [xu g',xw g] at hn;rw [hn,sb,itT (by rfl),xu (by omega)];rfl
         ·rw [xu (by omega),xu g,xw (by omega)] at hn;rw [hn,sb,itT (by rfl),xu (by omega)];rfl
       ·rw [xu c2,sb];simp only;simp [isN,is3,c2]
      ·rw [xu c1,sb];simp only;simp [isN,is3,c1]
    ·rw [xu h3];by_cases h4:a.toNat/8=30
     ·rw [zoQ 4 (.inr (.inr (.inr ⟨rfl,by omega⟩))),xw h4];simp only
      match t with
      | []=>rw [itT (by simp)];rfl
      | [b]=>rw [itT (by simp)];rfl
      | [b,c]=>rw [itT (by simp)];rfl
      | b::c::d::t=>
       rw [uU,zqE (i:=1) (j:=4) (a:=1) (b:=4) rfl rfl (by omega) (by simp),sb];have e0:=zKY (w:=a.toNat%8) (b:=b) (c:=c) (d:=d) (by omega);have e0':zdM (((a::b::c::d::t).drop 1).take (4 - 1)) ((a.toNat%8:Nat):Int) 0=_:=e0;rw [e0'];have hb:=b.toNat_lt;have hc:=c.toNat_lt;have hd:=d.toNat_lt;by_cases c1:cont b=true
       ·rw [xw c1];by_cases c2:cont c=true
        ·rw [xw c2];by_cases c3:cont d=true
         ·rw [xw c3,sb];simp only;have hn:=zvW (64*(64*(64*(a.toNat%8)+b.toNat%64)+c.toNat%64)+d.toNat%64);simp only [isN,is4,c1,c2,c3,qu,xS];simp only [cont,xS] at c1 c2 c3;by_cases h:a.toNat<245/\(a.toNat=240->144<=b.toNat)/\(a.toNat=244->b.toNat<144)
          ·rw [xu (by omega),xu (by omega),xu (by omega),xu (by omega),xw (by omega)] at hn;rw [hn,sb,itF (by rfl),xw (by omega)];rfl
          ·have hw:¬(65536<=64*(64*(64*(a.toNat%8)+b.toNat%64)+c.toNat%64)+d.toNat%64/\64*(64*(64*(a.toNat%8)+b.toNat%64)+c.toNat%64)+d.toNat%64<=1114111):=by omega
           generalize 64*(64*(64*(a.toNat%8)+b.toNat%64)+c.toNat%64)+d.toNat%64=w at hn hw
           have hx:∃x:Int,zph w=some x/\x≠4:=⟨_,hn,by (repeat' split)<;>omega⟩;obtain ⟨x,hx,h4⟩:=hx;rw [hx,sb,uT,xu (by omega)];rfl
         ·rw [xu c3,sb];simp only;simp [isN,is4,c3]
        ·rw [xu c2,sb];simp only;simp [isN,is4,c2]
       ·rw [xu c1,sb];simp only;simp [isN,is4,c1]
     ·rw [xu h4,itT (by rfl)];by_cases h5:240<=a.toNat
      ·rw [zoQ 4 (.inr (.inr (.inr ⟨rfl,h5⟩)))];cases hh:isN 4 (a::t) with
       | false=>rfl
       | true=>
        match t,hh with
        | b::c::d::t,hh=>simp only [isN,is4,xS] at hh;omega
      ·by_cases h0:nxt (a::t)=0
       ·rw [h0];rfl
       ·obtain ⟨a',t',e,_,g⟩:=zmI (zvY h0);cases e;omega
theorem zGa (hb:b.length<=1152921504606846976) (l:List UInt8):∀(a c:Nat),c<=a->a<=b.length->l=b.drop a->
  zje b a c ((nxt l:Nat):Int)=some (((a+(pre4 l).1:Nat):Int),((c+(pre4 l).2:Nat):Int)):=by
 refine zHM (fun l=>∀(a c:Nat),c<=a->a<=b.length->l=b.drop a->zje b a c ((nxt l:Nat):Int)=some (((a+(pre4 l).1:Nat):Int),((c+(pre4 l).2:Nat):Int))) ?_ ?_ l
 ·intro l h a c hc ha hl;rw [h,zFB h];refine zvJ ?_;unfold zgt;rw [itF (by rfl)];rfl
 ·intro l h ih a c hc ha hl;subst hl;have h4:=zAc (b.drop a);have hle:=zsW (b.drop a);simp only [yq] at hle;have e1:(b.drop a).drop (nxt (b.drop a))=b.drop (a+nxt (b.drop a)):=by rw [qo]
  refine (zvI (atv':=((a+nxt (b.drop a):Nat):Int)) (points':=((c+1:Nat):Int)) (size':=((nxt (b.drop (a+nxt (b.drop a))):Nat):Int)) ?_).trans ?_
  ·unfold zgt;rw [uT,uV,zwy (a:=a+nxt (b.drop a)) (by push_cast;rfl) rfl (by omega),sb,zEm,sb,uV];rfl
  ·rw [<-e1,ih (a+nxt (b.drop a)) (c+1) (by omega) (by omega) e1,zJg h];simp only [qS,Nat.add_comm 1]
theorem zIp (hb:b.length<=1152921504606846976):zrE b=some (((pre4 b).1:Int),((pre4 b).2:Int)):=by
 unfold zrE;rw [zEm,sb];have h:=zGa hb b 0 0 (xB _) (xI _) rfl;simp only [xE] at h;have h':zje b 0 0 ((nxt b:Nat):Int)=some (((pre4 b).1:Int),((pre4 b).2:Int)):=h;rw [h',sb]
theorem zFY (hb:b.length<=1152921504606846976):zpe b=some ((pre4 b).1:Int):=by
 unfold zpe;rw [zIp hb,sb]
theorem zzp (hb:b.length<=1152921504606846976):zpf b=some (zlW b):=by
 unfold zpf zlW;rw [zFY hb,sb,zvK]
def zKm:List Str:=[[],[105,110,116,51,50],[105,110,116,54,52],[117,105,110,116,51,50],[117,105,110,116,54,52],[115,105,110,116,51,50],[115,105,110,116,54,52],[98,111,111,108],[101,110,117,109],[102,105,120,101,100,51,50],[115,102,105,120,101,100,51,50],[102,108,111,97,116],[102,105,120,101,100,54,52],[115,102,105,120,101,100,54,52],[100,111,117,98,108,101],[115,116,114,105,110,103],[98,121,116,101,115],[109,101,115,115,97,103,101]]
def zHe (k:Int):Str:=(zKm[k.toNat]?).getD []
def kT:List (Int×zz):=[(1,⟨[105,110,116,51,50],0⟩),(2,⟨[105,110,116,54,52],0⟩),(3,⟨[117,105,110,116,51,50],0⟩),(4,⟨[117,105,110,116,54,52],0⟩),(5,⟨[115,105,110,116,51,50],0⟩),(6,⟨[115,105,110,116,54,52],0⟩),(7,⟨[98,111,111,108],0⟩),(8,⟨[101,110,117,109],0⟩),(9,⟨[102,105,120,101,100,51,50],5⟩),(10,⟨[115,102,105,120,101,100,51,50],5⟩),(11,⟨[102,108,111,97,116],5⟩),(12,⟨[102,105,120,101,100,54,52],1⟩),(13,⟨[115,102,105,120,101,100,54,52],1⟩),(14,⟨[100,111,117,98,108,101],1⟩),(15,⟨[115,116,114,105,110,103],2⟩),(16,⟨[98,121,116,101,115],2⟩),(17,⟨[109,101,115,115,97,103,101],2⟩)]
theorem zBr:zmK=some kT:=rfl
theorem zvv (h:zfz k=true):k=1\/k=2\/k=3\/k=4\/k=5\/k=6\/k=7\/k=8\/k=9\/k=10\/k=11\/k=12\/k=13\/k=14\/k=15\/k=16\/k=17:=by
 have:=qm h;omega
theorem zKd (h:zfz k=true):mget kT k=some ⟨zHe k,zyL k⟩:=by
 rcases zvv h with rfl| rfl| rfl| rfl| rfl| rfl| rfl| rfl| rfl| rfl| rfl| rfl| rfl| rfl| rfl| rfl| rfl<;>rfl
theorem zIQ (h:e∈kT):zfz e.1=true/\e.2=⟨zHe e.1,zyL e.1⟩:=by
 have:kT.all (fun e=>zfz e.1&&decide (e.2=⟨zHe e.1,zyL e.1⟩))=true:=by decide
 have h1:=xJ.1 this e h;simp only [xA,xS] at h1;exact h1
theorem zIR (h:zfz k=false):mget kT k=none:=by
 cases hg:mget kT k with
 | none=>rfl
 | some x=>
  have mem:∀{m:List (Int×zz)} {x:zz},mget m k=some x->(k,x)∈m:=fun {m x} hg=>by
   induction m with
   | nil=>cases hg
   | cons p m ih=>
    rw [mget] at hg;split at hg
    ·rename_i e;cases hg;rw [e];exact xx
    ·exact xy _ (ih hg)
  have h1:=(zIQ (mem hg)).1;simp only at h1;rw [h] at h1;cases h1
theorem zHr (k:Int):zoN k=some (if zfz k then (zyL k,0) else (0,2)):=by
 unfold zoN;rw [zBr,sb];cases h:zfz k with
 | true=>rw [zKd h];rfl
 | false=>rw [zIR h];rfl
theorem zDh (k:Int):zlD k=some (kNum k):=by
 unfold zlD;rw [zHr,sb];cases h:zfz k with
 | true=>
  rcases zvv h with rfl| rfl| rfl| rfl| rfl| rfl| rfl| rfl| rfl| rfl| rfl| rfl| rfl| rfl| rfl| rfl| rfl<;>rfl
 | false=>
  have h1:=of_decide_eq_false h;have:kNum k=false:=yd (by omega);rw [this];rfl
theorem zIT:kT.map Prod.fst=[1,2,3,4,5,6,7,8,9,10,11,12,13,14,15,16,17]:=rfl
theorem zIS:zqT=some [1,2,3,4,5,6,7,8,9,10,11,12,13,14,15,16,17]:=by
 have e:zwR kT=some [1,2,3,4,5,6,7,8,9,10,11,12,13,14,15,16,17]:=by
  unfold zwR;rw [xw ⟨by decide,by decide⟩,zIT,List.mergeSort_of_pairwise (by decide)]
 unfold zqT;rw [zBr,sb,e,sb]
theorem zuE (k:Int) (h:0<=w/\w<=18446744073709551615):zmJ k w=some (if kNum k then (zjD k w,0) else (0,2)):=by
 have hs:=zDy w;have hc:=zGq k h;unfold zmJ;by_cases h1:k=1\/k=8
 ·have e:(if (k==1)=true then some (k==1) else some (k==8))=some true:=by rcases h1 with rfl| rfl<;>rfl
  have hn:kNum k=true:=ya (by omega);rw [e,sb,itT rfl,zFJ,sb,zGb (by omega),sb,hn];unfold zjD;rw [xw h1];rfl
 ·have e:(if (k==1)=true then some (k==1) else some (k==8))=some false:=by rw [uU];simp;omega
  rw [e,sb,itF rfl];by_cases h2:k=3\/k=5\/k=9\/k=10\/k=11
  ·have e2:(if (k==3)=true then some (k==3) else if (k==5)=true then some (k==5) else if (k==9)=true then some (k==9) else if (k==10)=true then some (k==10) else some (k==11))=some true:=by
    rcases h2 with rfl| rfl| rfl| rfl| rfl<;>rfl
   have hn:kNum k=true:=ya (by omega);have hw:IntKind.u64.wrap (w%4294967296)=w%4294967296:=by rw [zjX];omega
   rw [e2,sb,itT rfl,zBz,sb,hn,hw];unfold zjD;rw [xu h1,xw h2];rfl
  ·have e2:(if (k==3)=true then some (k==3) else if (k==5)=true then some (k==5) else if (k==9)=true then some (k==9) else if (k==10)=true then some (k==10) else some (k==11))=some false:=by
    rw [uU,uU,uU,uU];simp;omega
   rw [e2,sb,itF rfl];by_cases h7:k=7
   ·have hn:kNum k=true:=ya (by omega);rw [itT (by simpa using h7),hn];unfold zpz zjD;rw [sb,xu h1,xu h2,xw h7];by_cases h0:0<w
    ·rw [xw h0];by_cases h10:1<w
     ·rw [xw h10];rfl
     ·rw [xu h10,show w=1 by omega];rfl
    ·rw [xu h0,xu (by omega),show w=0 by omega];rfl
   ·rw [itF (by simpa using h7)];by_cases hn:kNum k=true
    ·have hk:=qm hn;have e3:(if (k==2)=true then some (k==2) else if (k==4)=true then some (k==4) else if (k==6)=true then some (k==6) else if (k==12)=true then some (k==12) else if (k==13)=true then some (k==13) else some (k==14))=some true:=by
      have:k=2\/k=4\/k=6\/k=12\/k=13\/k=14:=by omega
      rcases this with rfl| rfl| rfl| rfl| rfl| rfl<;>rfl
     rw [e3,sb,itT rfl,hn];unfold zjD;rw [xu h1,xu h2,xu h7];rfl
    ·have hn:kNum k=false:=by simpa using hn
     have hk:=of_decide_eq_false hn;have e3:(if (k==2)=true then some (k==2) else if (k==4)=true then some (k==4) else if (k==6)=true then some (k==6) else if (k==12)=true then some (k==12) else if (k==13)=true then some (k==13) else some (k==14))=some false:=by
      rw [uU,uU,uU,uU,uU];simp;omega
     rw [e3,sb,itF rfl,hn];rfl
end Go.Proofs.YtekgmimingolbaaGreat
