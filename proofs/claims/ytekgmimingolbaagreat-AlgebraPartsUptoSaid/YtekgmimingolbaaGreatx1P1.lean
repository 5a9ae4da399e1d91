/-
  What the plain functions are. No condition.
-/
import Derived.Test.YtekgmimingolbaaGreatx1S1
import Derived.Test.YtekgmimingolbaaGreatx1K2
set_option autoImplicit true
set_option relaxedAutoImplicit true
namespace Go.Proofs.YtekgmimingolbaaGreat
open Go
set_option linter.unusedVariables false
theorem zAD (w:Int):zkx w=some (w%4294967296):=by unfold zkx;rw [zBv]
theorem zEB (w:Int):zkT w=some (sgnS w):=by
 unfold zkT;rw [zAD,sb,zER];unfold sgnS;congr 1;split<;>split<;>omega
theorem zEQ (h: -2147483648<=n/\n<=2147483647):zkU n=some (zuJ n):=by
 unfold zkU;rw [uA,zjz];unfold zuJ;congr 1;split<;>omega
theorem zCy (h:0<=w/\w<=18446744073709551615):zfK w=some (sgnS w):=by
 unfold zfK;rw [yK h.1,zr (x:=w%4294967296) (by omega)];unfold sgnS;by_cases h2:w%4294967296<2147483648
 ·rw [uz,xu h2]
 ·rw [uy,xt h2,uA]
theorem zGF (h: -9223372036854775808<=n/\n<=9223372036854775807):zgI n=some (zuJ n):=by
 unfold zgI zuJ;by_cases h0:0<=n
 ·rw [uy,xu h0,zjz,ph (by omega) (by omega)]
 ·rw [uz,xt h0];simp (disch:=omega) only [zr,zjz];congr 1;omega
def zfd (k:Int):Bool:=decide (1<=k/\k<=17)
def kNum (k:Int):Bool:=decide (1<=k/\k<=14)
def zxS (k:Int):Int:=if 15<=k then 2 else if 12<=k then 1 else if 9<=k then 5 else 0
def zjj (k w:Int):Int:=
 if k=1\/k=8 then zuJ (sgnS w) else if k=3\/k=5\/k=9\/k=10\/k=11 then w%4294967296 else if k=7 then (if 0<w then 1 else 0) else w
theorem zte (k:Int):zcJ k=some (zfd k):=by unfold zcJ zfd;simp [Bool.decide_and]
theorem zwD (k:Int):zdn k=some (kNum k):=by unfold zdn kNum;simp [Bool.decide_and]
theorem zAO (k:Int) (h:0<=w/\w<=18446744073709551615):zgg k w=some (zjj k w):=by
 have hs:=zCz w;unfold zgg zjj;by_cases h1:k=1\/k=8
 ·rw [xu h1];have e:(if (k==1)=true then some (k==1) else some (k==8))=some true:=by rcases h1 with rfl| rfl<;>rfl
  rw [e,sb,itT rfl,zCy h,sb,zGF (by omega),sb]
 ·rw [xt h1];have e:(if (k==1)=true then some (k==1) else some (k==8))=some false:=by rw [uz];simp;omega
  rw [e,sb,itF rfl];by_cases h2:k=3\/k=5\/k=9\/k=10\/k=11
  ·rw [xu h2];have e2:(if (k==3)=true then some (k==3) else if (k==5)=true then some (k==5) else if (k==9)=true then some (k==9) else if (k==10)=true then some (k==10) else some (k==11))=some true:=by
    rcases h2 with rfl| rfl| rfl| rfl| rfl<;>rfl
   rw [e2,sb,itT rfl,yK h.1]
  ·rw [xt h2];have e2:(if (k==3)=true then some (k==3) else if (k==5)=true then some (k==5) else if (k==9)=true then some (k==9) else if (k==10)=true then some (k==10) else some (k==11))=some false:=by
    rw [uz,uz,uz,uz];simp;omega
   rw [e2,sb,itF rfl];by_cases h7:k=7
   ·rw [itT (by simpa using h7),xu h7];by_cases h0:0<w
    ·rw [itT (by simpa using h0),xu h0]
    ·rw [itF (by simpa using h0),xt h0]
   ·rw [itF (by simpa using h7),xt h7]
theorem zFe (k:Int) (h:0<=w/\w<=18446744073709551615):0<=zjj k w/\zjj k w<=18446744073709551615:=by
 have hs:=zCz w;unfold zjj;split
 ·exact zIa (by omega)
 ·split
  ·omega
  ·split
   ·split<;>omega
   ·exact h
abbrev Fld:=ze
abbrev Mes:=zg
def zkA {α:Type} (p:α->Bool) (l:List α):Int:=match l.findIdx? p with
 | some i=>(i:Int)
 | none=> -1
theorem znb {α:Type} {p:α->Bool} {l:List α} (h:l.findIdx? p=none):zkA p l= -1:=by unfold zkA;rw [h]
theorem znc {α:Type} {p:α->Bool} {l:List α} {i:Nat} (h:l.findIdx? p=some i):zkA p l=(i:Int):=by unfold zkA;rw [h]
theorem ztJ {α:Type} (p:α->Bool) (l:List α) (F:Int->Option (Unit⊕Int)) (h0:F (l.length:Int)=some (.inl ())) (hs:∀(i:Nat) (h:i<l.length),F (i:Int)=if p l[i] then some (.inr (i:Int)) else F ((i+1:Nat):Int)):
  ∀(d i:Nat),i+d=l.length->(∀j (h:j<l.length),j<i->p l[j]=false)->F (i:Int)=some (match l.findIdx? p with| some k=> .inr (k:Int)| none=> .inl ()):=by
 intro d
 induction d with
 | zero=>
  intro i hi hj;have:i=l.length:=by omega
  subst this;have hn:l.findIdx? p=none:=by
   rw [pz];intro x hx;obtain ⟨j,hj',rfl⟩:=yX hx;exact hj j hj' hj'
  rw [h0,hn]
 | succ d ih=>
  intro i hi hj;have hil:i<l.length:=by omega
  rw [hs i hil];by_cases hp:p l[i]=true
  ·have hf:l.findIdx? p=some i:=by
    rw [pA];exact ⟨hil,hp,fun j hji=>by simpa using hj j (by omega) hji⟩
   rw [xu hp,hf]
  ·rw [xt hp];refine ih (i+1) (by omega) fun j h hji=>?_
   by_cases e:j=i
   ·subst e;simpa using hp
   ·exact hj j h (by omega)
def fldI (m:Mes) (number:Int):Int:=zkA (fun f:Fld=>f.Number==number) m.Fields
theorem zqG (hm:m.Fields.length<=1152921504606846976) (number:Int):zdL m number=some (fldI m number):=by
 unfold zdL fldI;have h:=ztJ (fun f:Fld=>f.Number==number) m.Fields (fun i=>zdw m number i) (by
   refine zja ?_;unfold zaO;rw [itF (by simp)])
  (fun i hi=>by
   have hb:zaO m number i=if ((m.Fields[i]).Number==number)=true then some (.inr (.inr (i:Int))) else some (.inl ((i+1:Nat):Int)):=by
    unfold zaO;rw [uy,zH rfl hi,sb,uA];rfl
   by_cases hp:((m.Fields[i]).Number==number)=true
   ·rw [xu hp] at hb|-;exact zja hb
   ·rw [xt hp] at hb|-;exact zmQ hb)
  m.Fields.length 0 (by omega) (fun j _ hj=>by omega)
 have h':zdw m number 0=_:=h;rw [h',sb];unfold zkA;cases m.Fields.findIdx? (fun f:Fld=>f.Number==number)<;>rfl
def nmc (i:Nat) (c:UInt8):Bool:=decide (65<=c.toNat/\c.toNat<=90\/97<=c.toNat/\c.toNat<=122\/c.toNat=95\/0<i/\48<=c.toNat/\c.toNat<=57)
def nmA:Nat->List UInt8->Bool
 | _,[]=>true
 | i,c::l=>nmc i c&&nmA (i+1) l
def zgy (s:List UInt8):Bool:=nmA 0 s&&decide (1<=s.length/\s.length<=60)
theorem zbZ {α:Type} {l t:List α} {x:α} {k:Nat} (h:l.drop k=x::t):∃hk:k<l.length,l[k]=x/\l.drop (k+1)=t:=by
 have hk:k<l.length:=by
  rcases yT k l.length with h'| h'
  ·exact h'
  ·rw [xR h'] at h;cases h
 rw [xL hk] at h;injection h with h1 h2;exact ⟨hk,h1,h2⟩
theorem zcH {α:Type} {l:List α} {k:Nat} (h:l.drop k=[]):l.length<=k:=by have:=congrArg List.length h;simp at this;omega
theorem zEr (s:List UInt8) (hs:s.length<=1152921504606846976):∀(l:List UInt8) (i:Nat),s.drop i=l->zdW s i=some (if nmA i l=true then .inl () else .inr ()):=by
 intro l
 induction l with
 | nil=>
  intro i hd;have:=zcH hd;refine zjo ?_;unfold zbc;rw [uz];rfl
 | cons c l ih=>
  intro i hd;obtain ⟨hk,hx,hd'⟩:=zbZ hd;have hb:zbc s i=if nmc i c=true then some (.inl ((i+1:Nat):Int)) else some (.inr (.inr ())):=by
   unfold zbc;rw [uy,zH rfl hk,sb,hx,uA];have e:(if (decide ((c.toNat:Int)>=65)) then ((decide ((c.toNat:Int)<=90))|| (if (decide ((c.toNat:Int)>=97)) then ((decide ((c.toNat:Int)<=122))|| (((c.toNat:Int)==95)|| ((decide ((i:Int)>0))&&((decide ((c.toNat:Int)>=48))&&(decide ((c.toNat:Int)<=57)))))) else (((c.toNat:Int)==95)|| ((decide ((i:Int)>0))&&((decide ((c.toNat:Int)>=48))&&(decide ((c.toNat:Int)<=57))))))) else (if (decide ((c.toNat:Int)>=97)) then ((decide ((c.toNat:Int)<=122))|| (((c.toNat:Int)==95)|| ((decide ((i:Int)>0))&&((decide ((c.toNat:Int)>=48))&&(decide ((c.toNat:Int)<=57)))))) else (((c.toNat:Int)==95)|| ((decide ((i:Int)>0))&&((decide ((c.toNat:Int)>=48))&&(decide ((c.toNat:Int)<=57)))))))=nmc i c:=by
    have e95:((c.toNat:Int)==95)=decide (c.toNat=95):=zuV _ 95;have a1:decide ((c.toNat:Int)>=65)=decide (65<=c.toNat):=qh.2 (by omega);have a2:decide ((c.toNat:Int)<=90)=decide (c.toNat<=90):=qh.2 (by omega);have a3:decide ((c.toNat:Int)>=97)=decide (97<=c.toNat):=qh.2 (by omega);have a4:decide ((c.toNat:Int)<=122)=decide (c.toNat<=122):=qh.2 (by omega);have a5:decide ((i:Int)>0)=decide (0<i):=qh.2 (by omega);have a6:decide ((c.toNat:Int)>=48)=decide (48<=c.toNat):=qh.2 (by omega);have a7:decide ((c.toNat:Int)<=57)=decide (c.toNat<=57):=qh.2 (by omega);rw [e95,a1,a2,a3,a4,a5,a6,a7];simp only [nmc,Bool.decide_or,Bool.decide_and]
    generalize decide (65<=c.toNat)=p1
    generalize decide (c.toNat<=90)=p2
    generalize decide (97<=c.toNat)=p3
    generalize decide (c.toNat<=122)=p4
    generalize decide (c.toNat=95)=p5
    generalize decide (0<i)=p6
    generalize decide (48<=c.toNat)=p7
    generalize decide (c.toNat<=57)=p8
    cases p1<;>cases p2<;>cases p3<;>cases p4<;>cases p5<;>cases p6<;>cases p7<;>cases p8<;>rfl
   rw [e];cases nmc i c
   ·rw [itT (by rfl)];rfl
   ·rw [itF (by rfl)];push_cast;rfl
  rw [nmA];cases hc:nmc i c
  ·rw [hc,xt (by simp)] at hb;rw [zjo hb];rfl
  ·rw [hc,xu rfl] at hb;rw [znB hb,ih _ hd',xO]
theorem zwE (hs:s.length<=1152921504606846976):zfu s=some (zgy s):=by
 unfold zfu zgy;have h:=zEr s hs s 0 rfl;have h':zdW s 0=_:=h;rw [h',sb];cases nmA 0 s
 ·rfl
 ·simp [Bool.decide_and];rw [yy];simp;omega
def zdG (n:Int) (prev:List Fld) (f:Fld):Int:=
 if zgy f.Name=false then 5 else if prev.any (fun g=>g.Name==f.Name)=true then 6
 else if f.Number<1\/f.Number>536870911\/(19000<=f.Number/\f.Number<20000) then 7
 else if prev.any (fun g=>g.Number==f.Number)=true then 8 else if zfd f.Kind=false then 9
 else if f.Packed=true/\¬(f.Repeated=true/\kNum f.Kind=true) then 10
 else if f.Kind=17/\(f.Of<0\/f.Of>=n)\/f.Kind≠17/\f.Of≠0 then 11 else 0
theorem zvJ (n:Int) (prev:List Fld) (f:Fld):0<=zdG n prev f/\zdG n prev f<=11:=by
 unfold zdG
 repeat' split
 all_goals omega
theorem zBU {s:List Mes} {i k:Nat} {m:Mes} (hi:∃h:i<s.length,s[i]=m) (hk:k<=m.Fields.length) (hb:m.Fields.length<=1152921504606846976) (f:Fld):
  ∀(l:List Fld) (j:Nat) (a b:Bool),(m.Fields.take k).drop j=l->j<=k->zdv i k s f a b j=some (a|| l.any (fun g=>g.Name==f.Name),b|| l.any (fun g=>g.Number==f.Number)):=by
 obtain ⟨hi,hm⟩:=hi;intro l
 induction l with
 | nil=>
  intro j a b hd hj;have:=zcH hd;rw [yb] at this;refine zmP ?_;unfold zbn;rw [uz];simp
 | cons g l ih=>
  intro j a b hd hj;obtain ⟨hjk,hx,hd'⟩:=zbZ hd;rw [yb] at hjk;rw [pB] at hx;refine (zmO (name':=a|| (g.Name==f.Name)) (number':=b|| (g.Number==f.Number)) (j':=((j+1:Nat):Int)) ?_).trans ?_
  ·unfold zbn;have e1:idx s (i:Int)=some m:=by rw [zH rfl hi,hm]
   have e2:idx m.Fields (j:Int)=some g:=by rw [zH rfl (by omega),hx]
   rw [uy,e1,sb,e2,sb,uA];cases a<;>cases b<;>(simp only [qJ,qK,yF,e2,sb,qi,pC];push_cast;rfl)
  ·rw [ih _ _ _ hd' (by omega),qr,qr,uc,uc]
theorem zAP {s:List Mes} {i k:Nat} {m:Mes} {f:Fld} (hi:∃h:i<s.length,s[i]=m) (hk:∃h:k<m.Fields.length,m.Fields[k]=f) (hb:m.Fields.length<=1152921504606846976) (hf:f.Name.length<=1152921504606846976):
  zgi s i k=some (zdG s.length (m.Fields.take k) f):=by
 obtain ⟨hil,hm⟩:=hi;obtain ⟨hkl,hfe⟩:=hk;have e1:idx s (i:Int)=some m:=by rw [zH rfl hil,hm]
 have e2:idx m.Fields (k:Int)=some f:=by rw [zH rfl hkl,hfe]
 have h:=zBU ⟨hil,hm⟩ (Nat.le_of_lt hkl) hb f (m.Fields.take k) 0 false false rfl (xH _);have h':zdv i k s f false false 0=_:=h;unfold zgi zdG;rw [e1,sb,e2,sb,h',sb,zwE hf,sb];simp only [qi];cases h1:zgy f.Name
 ·rw [itT (by rfl),xu (show false=false from rfl)]
 ·rw [itF (by rfl),xt (show ¬(true=false) by simp)];cases h2:(m.Fields.take k).any (fun g=>g.Name==f.Name)
  ·rw [itF (by rfl),xt (show ¬(false=true) by simp)];by_cases h3:f.Number<1\/f.Number>536870911\/(19000<=f.Number/\f.Number<20000)
   ·rw [itT (by simpa using h3),xu h3]
   ·rw [uz,xt h3];cases h4:(m.Fields.take k).any (fun g=>g.Number==f.Number)
    ·rw [itF (by rfl),xt (show ¬(false=true) by simp),zte,sb];cases h5:zfd f.Kind
     ·rw [itT (by rfl),xu (show false=false from rfl)]
     ·rw [itF (by rfl),xt (show ¬(true=false) by simp)];have e10:(if f.Packed=true then (if f.Repeated=true then (zdn f.Kind>>=fun rv3=>some (!rv3)) else some (!false)) else some false)=some (decide (f.Packed=true/\¬(f.Repeated=true/\kNum f.Kind=true))):=by
       rw [zwD,sb];cases f.Packed<;>cases f.Repeated<;>cases kNum f.Kind<;>rfl
      rw [e10,sb];by_cases h6:f.Packed=true/\¬(f.Repeated=true/\kNum f.Kind=true)
      ·rw [itT (xU h6),xu h6]
      ·rw [itF (ya h6),xt h6];by_cases h7:f.Kind=17
       ·by_cases h8:f.Of<0\/f.Of>=(s.length:Int)
        ·rw [itT (by simp [h7];simpa using h8),xu (.inl ⟨h7,h8⟩)]
        ·rw [itF (by simp [h7];omega),xt (by simp [h7];omega)]
       ·by_cases h8:f.Of=0
        ·rw [itF (by simp [h7,h8]),xt (by simp [h7,h8])]
        ·rw [itT (by simp [h7,h8]),xu (.inr ⟨h7,h8⟩)]
    ·rw [itT (by rfl),xu (show true=true from rfl)]
  ·rw [itT (by rfl),xu (show true=true from rfl)]
def msgF (n:Int) (prev:List Fld):List Fld->Option (Nat×Int)
 | []=>none
 | f::l=>if 0<zdG n prev f then some (prev.length,zdG n prev f) else msgF n (prev++[f]) l
def chkF (n:Int) (prev:List Mes):List Mes->Option (Nat×Int×Int)
 | []=>none
 | m::l=>if zgy m.Name=false then some (prev.length, -1,2) else if prev.any (fun g=>g.Name==m.Name)=true then some (prev.length, -1,3)
  else if 200<m.Fields.length then some (prev.length, -1,4) else match msgF n [] m.Fields with
   | some (k,w)=>some (prev.length,(k:Int),w)
   | none=>chkF n (prev++[m]) l
def zkz (s:List Mes):Int×Int×Int:=if s.length=0\/100<s.length then (-1, -1,1) else match chkF s.length [] s with
 | none=>(0,0,0)
 | some (i,k,w)=>((i:Int),k,w)
def zgo (s:List Mes):Bool:=decide ((zkz s).2.2=0)
def WS (s:List Mes):Prop:=s.length<=140737488351232/\∀m∈s,m.Name.length<=140737488351232/\m.Fields.length<=140737488351232/\∀f∈m.Fields,f.Name.length<=140737488351232
theorem zzX {s:List Mes} {i:Nat} {m:Mes} (hi:∃h:i<s.length,s[i]=m) (hb:m.Fields.length<=140737488351232) (hn:∀f∈m.Fields,f.Name.length<=140737488351232):
  ∀(l:List Fld) (k:Nat),m.Fields.drop k=l->k<=m.Fields.length->zdu i s k=some (match msgF s.length (m.Fields.take k) l with| some (j,w)=> .inr ((j:Int),w)| none=> .inl ()):=by
 obtain ⟨hil,hm⟩:=hi;have e1:idx s (i:Int)=some m:=by rw [zH rfl hil,hm]
 intro l
 induction l with
 | nil=>
  intro k hd hk;have:=zcH hd;refine ziZ ?_;unfold zaN;rw [e1,sb,uz];rfl
 | cons f l ih=>
  intro k hd hk;obtain ⟨hkl,hx,hd'⟩:=zbZ hd;have hf:=zAP (s:=s) (i:=i) (k:=k) (m:=m) (f:=f) ⟨hil,hm⟩ ⟨hkl,hx⟩ (by omega) (by have:=hn f (by rw [<-hx];exact xB hkl);omega);have hbd:=zvJ s.length (m.Fields.take k) f;have htl:(m.Fields.take k).length=k:=by rw [yb];omega
  rw [msgF];by_cases h0:0<zdG s.length (m.Fields.take k) f
  ·rw [xu h0];refine ziZ ?_;unfold zaN;rw [e1,sb,uy,hf,sb,itT (by simpa using h0)];simp only [htl]
  ·rw [xt h0];refine (zmN (k2':=((k+1:Nat):Int)) ?_).trans ?_
   ·unfold zaN;rw [e1,sb,uy,hf,sb,uz,uA];push_cast;rfl
   ·rw [ih (k+1) hd' (by omega),yv hkl,hx]
theorem zzW (hi:∃h:i<s.length,s[i]=m) (hs:s.length<=140737488351232):
  ∀(l:List Mes) (k:Nat) (a:Bool),(s.take i).drop k=l->k<=i->zdt i s a k=some (a|| l.any (fun g=>g.Name==m.Name)):=by
 obtain ⟨hil,hm⟩:=hi;intro l
 induction l with
 | nil=>
  intro k a hd hk;have:=zcH hd;rw [yb] at this;refine zmM ?_;unfold zbm;rw [uz];simp
 | cons g l ih=>
  intro k a hd hk;obtain ⟨hkl,hx,hd'⟩:=zbZ hd;rw [yb] at hkl;rw [pB] at hx;refine (zmL (twice':=a|| (g.Name==m.Name)) (k':=((k+1:Nat):Int)) ?_).trans ?_
  ·unfold zbm;have e1:idx s (i:Int)=some m:=by rw [zH rfl hil,hm]
   have e2:idx s (k:Int)=some g:=by rw [zH rfl (by omega),hx]
   rw [uy,e1,e2,sb,sb,uA];cases a<;>(simp only [qJ,qK,yF,sb,qi,pC];push_cast;rfl)
  ·rw [ih _ _ hd' (by omega),qr,uc]
theorem zzV (hw:WS s):∀(l:List Mes) (i:Nat),s.drop i=l->i<=s.length->zds s i=some (match chkF s.length (s.take i) l with| some (j,k,w)=> .inr ((j:Int),k,w)| none=> .inl ()):=by
 intro l
 induction l with
 | nil=>
  intro i hd hi;have:=zcH hd;refine zdj ?_;unfold zaM;rw [uz];rfl
 | cons m l ih=>
  intro i hd hi;obtain ⟨hil,hx,hd'⟩:=zbZ hd;obtain ⟨hsl,hwm⟩:=hw;obtain ⟨w1,w2,w3⟩:=hwm m (by rw [<-hx];exact xB hil);have htl:(s.take i).length=i:=by rw [yb];omega
  have e1:idx s (i:Int)=some m:=by rw [zH rfl hil,hx]
  have h2:=zzW ⟨hil,hx⟩ hsl (s.take i) 0 false rfl (xH _);have h2':zdt i s false 0=_:=h2;have h3:=zzX ⟨hil,hx⟩ w2 w3 m.Fields 0 rfl (xH _);have h3':zdu i s 0=_:=h3
  have hb:zaM s i=(if zgy m.Name=false then some (.inr (.inr ((i:Int), -1,2))) else if (s.take i).any (fun g=>g.Name==m.Name)=true then some (.inr (.inr ((i:Int), -1,3)))
    else if 200<m.Fields.length then some (.inr (.inr ((i:Int), -1,4))) else match msgF s.length [] m.Fields with
     | some (k,w)=>some (.inr (.inr ((i:Int),(k:Int),w)))
     | none=>some (.inl ((i+1:Nat):Int))):=by
   unfold zaM;rw [uy,h2',sb,e1,sb,zwE (by omega),sb,sb,h3',sb,qi];cases h4:zgy m.Name
   ·rw [itT (by rfl),xu (show false=false from rfl)]
   ·rw [itF (by rfl),xt (show ¬(true=false) by simp)];cases h5:(s.take i).any (fun g=>g.Name==m.Name)
    ·rw [itF (by rfl),xt (show ¬(false=true) by simp)];by_cases h6:200<m.Fields.length
     ·rw [uy,xu h6]
     ·rw [uz,xt h6,yB];cases msgF s.length [] m.Fields with
      | none=>simp only;rw [uA];push_cast;rfl
      | some p=>rfl
    ·rw [itT (by rfl),xu (show true=true from rfl)]
  rw [chkF];by_cases h4:zgy m.Name=false
  ·rw [xu h4] at hb|-;rw [zdj hb];simp only [htl]
  ·rw [xt h4] at hb|-;by_cases h5:(s.take i).any (fun g=>g.Name==m.Name)=true
   ·rw [xu h5] at hb|-;rw [zdj hb];simp only [htl]
   ·rw [xt h5] at hb|-;by_cases h6:200<m.Fields.length
    ·rw [xu h6] at hb|-;rw [zdj hb];simp only [htl]
    ·rw [xt h6] at hb|-;cases h7:msgF s.length [] m.Fields with
     | some p=>
      rw [h7] at hb;rw [zdj hb];simp only [htl]
     | none=>
      rw [h7] at hb;rw [zmK hb,ih _ hd' (by omega),yv hil,hx]
theorem zxk (hw:WS s):zgh s=some (zkz s):=by
 unfold zgh zkz;by_cases h:s.length=0\/100<s.length
 ·have e0:((s.length:Int)==0)=decide (s.length=0):=zuV _ 0;rw [e0,itT (by simp only [qc,xK];omega),xu h]
 ·have e0:((s.length:Int)==0)=decide (s.length=0):=zuV _ 0;rw [e0,itF (by simp only [qb,qt];omega),xt h];have h1:=zzV hw s 0 rfl (xH _);have h1':zds s 0=_:=h1;rw [h1',sb,yB];cases chkF s.length [] s with
  | none=>rfl
  | some p=>rfl
theorem zxl (hw:WS s):zgj s=some (zgo s):=by
 unfold zgj zgo;rw [zxk hw,sb];rfl
theorem ztW :∀(l prev:List Fld),msgF n prev l=none↔∀(k:Nat) (f:Fld),l[k]? =some f->zdG n (prev++l.take k) f=0
 | [],prev=>by simp [msgF]
 | f::l,prev=>by
  have hb:=zvJ n prev f;rw [msgF];by_cases h:0<zdG n prev f
  ·rw [xu h];refine ⟨(fun h'=>nomatch h'),fun h'=>?_⟩;have:=h' 0 f rfl;simp at this;omega
  ·rw [xt h,ztW l (prev++[f])];constructor
   ·intro h' k g hg;cases k with
    | zero=>simp at hg;subst hg;simp;omega
    | succ k=>have:=h' k g (by simpa using hg);simpa using this
   ·intro h' k g hg;have:=h' (k+1) g (by simpa using hg);simpa using this
theorem zxE :∀(l prev:List Mes),chkF n prev l=none↔∀(i:Nat) (m:Mes),l[i]? =some m->zgy m.Name=true/\(prev++l.take i).any (fun g=>g.Name==m.Name)=false/\m.Fields.length<=200/\msgF n [] m.Fields=none
 | [],prev=>by simp [chkF]
 | m::l,prev=>by
  rw [chkF];by_cases h1:zgy m.Name=false
  ·rw [xu h1];refine ⟨(fun h'=>nomatch h'),fun h'=>?_⟩;have:=(h' 0 m rfl).1;rw [h1] at this;cases this
  ·rw [xt h1];by_cases h2:prev.any (fun g=>g.Name==m.Name)=true
   ·rw [xu h2];refine ⟨(fun h'=>nomatch h'),fun h'=>?_⟩;have:=(h' 0 m rfl).2.1;simp only [yB,yQ] at this;rw [h2] at this;cases this
   ·rw [xt h2];by_cases h3:200<m.Fields.length
    ·rw [xu h3];refine ⟨(fun h'=>nomatch h'),fun h'=>?_⟩;have:=(h' 0 m rfl).2.2.1;omega
    ·rw [xt h3];cases h4:msgF n [] m.Fields with
     | some p=>
      refine ⟨(fun h'=>nomatch h'),fun h'=>?_⟩;have:=(h' 0 m rfl).2.2.2;rw [h4] at this;cases this
     | none=>
      simp only;rw [zxE l (prev++[m])];constructor
      ·intro h' i g hg;cases i with
       | zero=>simp at hg;subst hg;exact ⟨by simpa using h1,by simpa using h2,by omega,h4⟩
       | succ i=>have:=h' i g (by simpa using hg);simpa using this
      ·intro h' i g hg;have:=h' (i+1) g (by simpa using hg);simpa using this
theorem zHK:∀(n:Int) (l prev:List Fld) (k:Nat) (w:Int),msgF n prev l=some (k,w)->0<w:=by
 intro n l
 induction l with
 | nil=>intro prev k w h;cases h
 | cons f l ih=>
  intro prev k w h;rw [msgF] at h;split at h
  ·cases h;assumption
  ·exact ih _ _ _ h
theorem zCR:∀(n:Int) (l prev:List Mes) (i:Nat) (k w:Int),chkF n prev l=some (i,k,w)->0<w:=by
 intro n l
 induction l with
 | nil=>intro prev i k w h;cases h
 | cons m l ih=>
  intro prev i k w h;rw [chkF] at h;split at h
  ·cases h;omega
  ·split at h
   ·cases h;omega
   ·split at h
    ·cases h;omega
    ·split at h
     ·rename_i k' w' h';cases h;exact zHK _ _ _ _ _ h'
     ·exact ih _ _ _ _ h
structure zIe (n:Int) (f:Fld):Prop where
 name:zgy f.Name=true
 lo:1<=f.Number
 hi:f.Number<=536870911
 kind:zfd f.Kind=true
 packed:f.Packed=true->f.Repeated=true/\kNum f.Kind=true
 sub:f.Kind=17->0<=f.Of/\f.Of<n
 noSub:f.Kind≠17->f.Of=0
theorem zvK (h:zdG n prev f=0):zIe n f/\prev.any (fun g=>g.Name==f.Name)=false/\prev.any (fun g=>g.Number==f.Number)=false:=by
 unfold zdG at h;split at h
 ·omega
 ·rename_i h1;split at h
  ·omega
  ·rename_i h2;split at h
   ·omega
   ·rename_i h3;split at h
    ·omega
    ·rename_i h4;split at h
     ·omega
     ·rename_i h5;split at h
      ·omega
      ·rename_i h6;split at h
       ·omega
       ·rename_i h7;refine ⟨⟨by simpa using h1,by omega,by omega,by simpa using h5,fun hp=>?_,fun hk=>by omega,fun hk=>by omega⟩,by simpa using h2,by simpa using h4⟩;by_cases hq:f.Repeated=true/\kNum f.Kind=true
        ·exact hq
        ·exact absurd ⟨hp,hq⟩ h6
structure zls (s:List Mes):Prop where
 len:1<=s.length/\s.length<=100
 name:∀m∈s,zgy m.Name=true
 names:∀(i j:Nat) (a b:Mes),i<j->s[i]? =some a->s[j]? =some b->a.Name≠b.Name
 few:∀m∈s,m.Fields.length<=200
 fld:∀m∈s,∀f∈m.Fields,zIe s.length f
 nums:∀m∈s,∀(i j:Nat) (f g:Fld),i<j->m.Fields[i]? =some f->m.Fields[j]? =some g->f.Number≠g.Number/\f.Name≠g.Name
theorem ztF {α:Type} {l:List α} {p:α->Bool} (h:l.any p=false) {x:α} (hx:x∈l):p x=false:=by
 rw [ud] at h;simpa using h x hx
theorem zym {s:List Mes} (h:zgo s=true):zls s:=by
 have h0:(zkz s).2.2=0:=by simpa [zgo] using h
 have h1:¬(s.length=0\/100<s.length):=fun hh=>by unfold zkz at h0;rw [xu hh] at h0;simp at h0
 have h2:chkF s.length [] s=none:=by
  cases h4:chkF s.length [] s with
  | none=>rfl
  | some p=>
   exfalso;obtain ⟨i,k,w⟩:=p;have h5:(zkz s).2.2=w:=by unfold zkz;rw [xt h1,h4]
   have:=zCR _ _ _ _ _ _ h4;omega
 have h3:=(zxE s []).1 h2;have at':∀m∈s,zgy m.Name=true/\m.Fields.length<=200/\msgF s.length [] m.Fields=none:=fun m hm=>by
  obtain ⟨i,hi,rfl⟩:=yX hm;have:=h3 i _ (xF hi);exact ⟨this.1,this.2.2.1,this.2.2.2⟩
 refine ⟨by omega,fun m hm=>(at' m hm).1,fun i j a b hij ha hb=>?_,fun m hm=>(at' m hm).2.1,fun m hm f hf=>?_,fun m hm i j f g hij hf hg=>?_⟩
 ·have:=(h3 j b hb).2.1;have hai:a∈([]++s.take j:List Mes):=by
   rw [xW];exact qn (i:=i) (by rw [yC,xu hij];exact ha)
  simpa using ztF this hai
 ·have h4:=(ztW m.Fields []).1 (at' m hm).2.2;obtain ⟨i,hi,rfl⟩:=yX hf;exact (zvK (h4 i _ (xF hi))).1
 ·have h4:=(ztW m.Fields []).1 (at' m hm).2.2;obtain ⟨_,k1,k2⟩:=zvK (h4 j g hg);have hai:f∈([]++m.Fields.take j:List Fld):=by
   rw [xW];exact qn (i:=i) (by rw [yC,xu hij];exact hf)
  exact ⟨by simpa using ztF k2 hai,by simpa using ztF k1 hai⟩
theorem zkJ {α:Type} [DecidableEq α] (a b:List α) (F:Int->Option (Unit⊕Unit)) (hl:a.length=b.length) (h0:F (a.length:Int)=some (.inl ()))
  (hs:∀(i:Nat) (h:i<a.length) (h':i<b.length),F (i:Int)=if a[i]=b[i] then F ((i+1:Nat):Int) else some (.inr ())):
  ∀(d i:Nat),i+d=a.length->F (i:Int)=some (if a.drop i=b.drop i then .inl () else .inr ()):=by
 intro d
 induction d with
 | zero=>
  intro i hi;have e1:a.drop i=[]:=xR (by omega);have e2:b.drop i=[]:=xR (by omega);have:i=a.length:=by omega
  rw [e1,e2,xu rfl,this,h0]
 | succ d ih=>
  intro i hi;rw [hs i (by omega) (by omega),xL (l:=a) (by omega),xL (l:=b) (by omega)];by_cases h:a[i]'(by omega)=b[i]'(by omega)
  ·rw [xu h,ih (i+1) (by omega),h];simp only [yG,pi]
  ·rw [xt h,xt (fun e=>h (List.cons.inj e).1)]
theorem zCs {a b:List Int} (ha:a.length<=1152921504606846976):zeR a b=some (decide (a=b)):=by
 unfold zeR;by_cases hl:a.length=b.length
 ·rw [uz];have h:=zkJ a b (fun i=>zcR a b i) hl (by
    refine zhW ?_;unfold zax;rw [itF (by simp)])
   (fun i hi hi'=>by
    by_cases hp:a[i]=b[i]
    ·rw [xu hp];refine zlu ?_;unfold zax;rw [uy,zH rfl hi,sb,zH rfl hi',sb,itF (by simp [hp]),uA];push_cast;rfl
    ·rw [xt hp];refine zhW ?_;unfold zax;rw [uy,zH rfl hi,sb,zH rfl hi',sb,itT (by simp [hp])])
   a.length 0 (by omega)
  have h':zcR a b 0=_:=h;rw [h',sb,xQ,xQ];by_cases he:a=b
  ·rw [xu he];simp [he]
  ·rw [xt he];simp [he]
 ·rw [uy];have:a≠b:=fun e=>hl (by rw [e])
  simp [this]
theorem zDU {s:List Mes} {i:Nat} {m:Mes} (hi:∃h:i<s.length,s[i]=m) (hb:m.Fields.length<=140737488351232):∀(d k:Nat) (n:Int),k+d=m.Fields.length->∃r,zeC i s n k=some r:=by
 obtain ⟨hil,hm⟩:=hi;have e1:idx s (i:Int)=some m:=by rw [zH rfl hil,hm]
 intro d
 induction d with
 | zero=>
  intro k n hk;refine ⟨n,zog ?_⟩;unfold zbS;rw [e1,sb,uz]
 | succ d ih=>
  intro k n hk;obtain ⟨r,hr⟩:=ih (k+1) (IntKind.i64.wrap (n+(IntKind.i64.wrap (Int.tdiv (((m.Fields[k]'(by omega)).Name.length:Int)) 100)))) (by omega);refine ⟨r,(zof (k':=((k+1:Nat):Int)) ?_).trans hr⟩;unfold zbS;rw [e1,sb,uy,sb,zH rfl (by omega),sb,zr (x:=(k:Int)+1) (by omega)];push_cast;rfl
theorem zIz {s:List Mes} (hw:WS s):∃b,zhm s=some b:=by
 obtain ⟨hs,hm⟩:=hw;have key:∀(d i:Nat) (n:Int),i+d=s.length->∃r,zeA s n i=some r:=by
  intro d
  induction d with
  | zero=>
   intro i n hi;refine ⟨n,zoe ?_⟩;unfold zbR;rw [uz]
  | succ d ih=>
   intro i n hi;have hil:i<s.length:=by omega
   obtain ⟨q,hq⟩:=zDU (s:=s) (i:=i) (m:=s[i]) ⟨hil,rfl⟩ (hm _ (xB hil)).2.1 (s[i]).Fields.length 0
    (IntKind.i64.wrap ((IntKind.i64.wrap ((IntKind.i64.wrap (n+1))+(IntKind.i64.wrap (Int.tdiv ((s[i]).Name.length:Int) 100))))+((s[i]).Fields.length:Int))) (by omega)
   have hq':zeC i s (IntKind.i64.wrap ((IntKind.i64.wrap ((IntKind.i64.wrap (n+1))+(IntKind.i64.wrap (Int.tdiv ((s[i]).Name.length:Int) 100))))+((s[i]).Fields.length:Int))) 0=some q:=hq;obtain ⟨r,hr⟩:=ih (i+1) q (by omega);refine ⟨r,(zod (i':=((i+1:Nat):Int)) ?_).trans hr⟩;unfold zbR;rw [uy,zH rfl hil,sb,sb,hq',sb,zr (x:=(i:Int)+1) (by omega)];push_cast;rfl
 obtain ⟨r,hr⟩:=key s.length 0 0 (by omega);have hr':zeA s 0 0=some r:=hr;exact ⟨_,by unfold zhm;rw [hr',sb]⟩
def zIl (m:Mes) (p:Int):Int:=(m.Fields.getD p.toNat ⟨[],0,0,false,false,0⟩).Number
def zBD (κ:Int->Int) (a b:Int):Prop:=κ a<κ b\/κ a=κ b/\a<b
def cpN (r:Nat):List Nat:=
 if r<128 then [r] else if r<2048 then [192+r/64,128+r%64]
 else if r<65536 then (if 55296<=r/\r<=57343 then [] else [224+r/4096,128+r/64%64,128+r%64])
 else if r<=1114111 then [240+r/262144,128+r/4096%64,128+r/64%64,128+r%64] else []
def cpB (r:Nat):List UInt8:=(cpN r).map UInt8.ofNat
def cont (c:UInt8):Bool:=decide (128<=c.toNat/\c.toNat<192)
def is1:List UInt8->Bool
 | a::_=>decide (a.toNat<128)
 | _=>false
def is2:List UInt8->Bool
 | a::b::_=>decide (194<=a.toNat/\a.toNat<224/\cont b=true)
 | _=>false
def is3:List UInt8->Bool
 | a::b::c::_=>decide (224<=a.toNat/\a.toNat<240/\cont b=true/\cont c=true/\(a.toNat=224->160<=b.toNat)/\(a.toNat=237->b.toNat<160))
 | _=>false
def is4:List UInt8->Bool
 | a::b::c::d::_=>decide (240<=a.toNat/\a.toNat<245/\cont b=true/\cont c=true/\cont d=true/\(a.toNat=240->144<=b.toNat)/\(a.toNat=244->b.toNat<144))
 | _=>false
def nxt (l:List UInt8):Nat:=if is1 l then 1 else if is2 l then 2 else if is3 l then 3 else if is4 l then 4 else 0
theorem zsX (h:n<256):(UInt8.ofNat n=c)↔n=c.toNat:=by
 constructor
 ·intro e;rw [<-e,UInt8.toNat_ofNat'];omega
 ·intro e;rw [e,UInt8.ofNat_toNat]
theorem zGA (r:Int):zho r=some (if r<0 then [] else cpB r.toNat):=by
 unfold zho;by_cases h0:r<0
 ·rw [uy,xu h0]
 ·rw [xt h0];obtain ⟨n,rfl⟩:∃n:Nat,r=n:=⟨r.toNat,by omega⟩;rw [ym];unfold cpB cpN;by_cases h1:n<128
  ·rw [uz,uy,xu h1,zvr,zif (n:=n) (by omega) (by omega)];rfl
  ·rw [xt h1];by_cases h2:n<2048
   ·rw [uz,uz,uy,xu h2];simp only [pD (show (0:Int)<=n by omega),yK (show (0:Int)<=n by omega),zvr];rw [zr (x:=(n:Int)/64) (by omega),uA,uA,zif (n:=192+n/64) (by omega) (by omega),sb,zif (n:=128+n%64) (by omega) (by omega)];rfl
   ·rw [xt h2];by_cases h3:n<65536
    ·rw [xu h3];by_cases h4:55296<=n/\n<=57343
     ·rw [uy,xu h4];rfl
     ·rw [uz,uz,uz,uy,xt h4];simp only [pD (show (0:Int)<=n by omega),yK (show (0:Int)<=n by omega),zvr]
      rw [zr (x:=(n:Int)/4096) (by omega),zr (x:=(n:Int)/64) (by omega),yK (by omega),uA,uA,uA,
       zif (n:=224+n/4096) (by omega) (by omega),sb,zif (n:=128+n/64%64) (by omega) (by omega),sb,zif (n:=128+n%64) (by omega) (by omega)];rfl
    ·rw [xt h3];by_cases h4:n<=1114111
     ·rw [uz,uz,uz,uz,xu h4];simp only [pD (show (0:Int)<=n by omega),yK (show (0:Int)<=n by omega),zvr]
      rw [zr (x:=(n:Int)/262144) (by omega),zr (x:=(n:Int)/4096) (by omega),zr (x:=(n:Int)/64) (by omega),yK (by omega),yK (by omega),uA,uA,uA,uA,
       zif (n:=240+n/262144) (by omega) (by omega),sb,zif (n:=128+n/4096%64) (by omega) (by omega),sb,zif (n:=128+n/64%64) (by omega) (by omega),sb,zif (n:=128+n%64) (by omega) (by omega)];rfl
     ·rw [uy,xt h4];rfl
def zvH:Nat->List UInt8->Nat
 | 1,a::_=>a.toNat
 | 2,a::b::_=>64*(a.toNat%32)+b.toNat%64
 | 3,a::b::c::_=>64*(64*(a.toNat%16)+b.toNat%64)+c.toNat%64
 | 4,a::b::c::d::_=>64*(64*(64*(a.toNat%8)+b.toNat%64)+c.toNat%64)+d.toNat%64
 | _,_=>0
theorem map1 (h:∀x∈l,x<256):l.map UInt8.ofNat=[a]↔l=[a.toNat]:=by
 cases l with
 | nil=>simp
 | cons x l=>cases l with
  | nil=>simp only [xZ,qG,yG,and_true];exact zsX (h x (by simp))
  | cons y l=>simp
theorem map2 (h:∀x∈l,x<256):l.map UInt8.ofNat=[a,b]↔l=[a.toNat,b.toNat]:=by
 cases l with
 | nil=>simp
 | cons x l=>simp only [xZ,yG,zsX (h x (by simp)),map1 (l:=l) fun y hy=>h y (by simp [hy])]
theorem map3 (h:∀x∈l,x<256):l.map UInt8.ofNat=[a,b,c]↔l=[a.toNat,b.toNat,c.toNat]:=by
 cases l with
 | nil=>simp
 | cons x l=>simp only [xZ,yG,zsX (h x (by simp)),map2 (l:=l) fun y hy=>h y (by simp [hy])]
theorem map4 (h:∀x∈l,x<256):l.map UInt8.ofNat=[a,b,c,d]↔l=[a.toNat,b.toNat,c.toNat,d.toNat]:=by
 cases l with
 | nil=>simp
 | cons x l=>simp only [xZ,yG,zsX (h x (by simp)),map3 (l:=l) fun y hy=>h y (by simp [hy])]
theorem zyG (r:Nat):∀x∈cpN r,x<256:=by
 intro x hx;unfold cpN at hx;split at hx
 ·simp at hx;omega
 ·split at hx
  ·simp at hx;omega
  ·split at hx
   ·split at hx
    ·cases hx
    ·simp at hx;omega
   ·split at hx
    ·simp at hx;omega
    ·cases hx
theorem cpB1 (a:UInt8):cpB a.toNat=[a]↔a.toNat<128:=by
 have ha:=a.toNat_lt;unfold cpB;rw [map1 (zyG _)];unfold cpN;by_cases h:a.toNat<128
 ·simp [h]
 ·rw [xt h,xu (by omega)];simp;omega
theorem cpB2 (a b:UInt8):cpB (64*(a.toNat%32)+b.toNat%64)=[a,b]↔194<=a.toNat/\a.toNat<224/\cont b=true:=by
 have ha:=a.toNat_lt;have hb:=b.toNat_lt;unfold cpB cont;rw [map2 (zyG _)];unfold cpN;by_cases h:64*(a.toNat%32)+b.toNat%64<128
 ·rw [xu h];simp;omega
 ·rw [xt h,xu (by omega)];simp;omega
theorem cpB3 (a b c:UInt8):cpB (64*(64*(a.toNat%16)+b.toNat%64)+c.toNat%64)=[a,b,c]↔224<=a.toNat/\a.toNat<240/\cont b=true/\cont c=true/\(a.toNat=224->160<=b.toNat)/\(a.toNat=237->b.toNat<160):=by
 have ha:=a.toNat_lt;have hb:=b.toNat_lt;have hc:=c.toNat_lt;unfold cpB cont;rw [map3 (zyG _)];unfold cpN;by_cases h:64*(64*(a.toNat%16)+b.toNat%64)+c.toNat%64<128
 ·rw [xu h];simp;omega
 ·rw [xt h];by_cases h2:64*(64*(a.toNat%16)+b.toNat%64)+c.toNat%64<2048
  ·rw [xu h2];simp;omega
  ·rw [xt h2,xu (by omega)];by_cases h3:55296<=64*(64*(a.toNat%16)+b.toNat%64)+c.toNat%64/\64*(64*(a.toNat%16)+b.toNat%64)+c.toNat%64<=57343
   ·rw [xu h3];simp;omega
   ·rw [xt h3];simp;omega
theorem cpB4 (a b c d:UInt8):cpB (64*(64*(64*(a.toNat%8)+b.toNat%64)+c.toNat%64)+d.toNat%64)=[a,b,c,d]↔
  240<=a.toNat/\a.toNat<245/\cont b=true/\cont c=true/\cont d=true/\(a.toNat=240->144<=b.toNat)/\(a.toNat=244->b.toNat<144):=by
 have ha:=a.toNat_lt;have hb:=b.toNat_lt;have hc:=c.toNat_lt;have hd:=d.toNat_lt;unfold cpB cont;rw [map4 (zyG _)];unfold cpN;by_cases h:64*(64*(64*(a.toNat%8)+b.toNat%64)+c.toNat%64)+d.toNat%64<65536
 ·have:∀l:List Nat,l.length<=3->(l=[a.toNat,b.toNat,c.toNat,d.toNat])=False:=fun l hl=>by simp only [eq_iff_iff,iff_false];intro e;rw [e] at hl;simp at hl
  rw [xu h];split
  ·rw [this _ (by simp)];simp;omega
  ·split
   ·rw [this _ (by simp)];simp;omega
   ·split
    ·rw [this _ (by simp)];simp;omega
    ·rw [this _ (by simp)];simp;omega
 ·rw [xt (by omega),xt (by omega),xt h];by_cases h2:64*(64*(64*(a.toNat%8)+b.toNat%64)+c.toNat%64)+d.toNat%64<=1114111
  ·rw [xu h2];simp;omega
  ·rw [xt h2];simp;omega
def isN (n:Nat) (l:List UInt8):Bool:=match n with
 | 1=>is1 l
 | 2=>is2 l
 | 3=>is3 l
 | 4=>is4 l
 | _=>false
theorem zDg (n:Nat) (l:List UInt8) (h1:1<=n) (h4:n<=4) (hl:n<=l.length):cpB (zvH n l)=l.take n↔isN n l=true:=by
 match n,l,h1,h4,hl with
 | 1,a::t,_,_,_=>simp only [zvH,yM,yB,cpB1,isN,is1,xK]
 | 2,a::b::t,_,_,_=>simp only [zvH,yM,yB,cpB2,isN,is2,xK]
 | 3,a::b::c::t,_,_,_=>simp only [zvH,yM,yB,cpB3,isN,is3,xK]
 | 4,a::b::c::d::t,_,_,_=>simp only [zvH,yM,yB,cpB4,isN,is4,xK]
theorem zDh (n:Nat) (l:List UInt8) (h:l.length<n):isN n l=false:=by
 match n,l with
 | 0,_=>rfl
 | 1,[]=>rfl
 | 2,[]=>rfl
 | 2,[_]=>rfl
 | 3,[]=>rfl
 | 3,[_]=>rfl
 | 3,[_,_]=>rfl
 | 4,[]=>rfl
 | 4,[_]=>rfl
 | 4,[_,_]=>rfl
 | 4,[_,_,_]=>rfl
 | n+5,_=>rfl
 | 1,_::_=>simp at h
 | 2,_::_::_=>simp at h;omega
 | 3,_::_::_::_=>simp at h;omega
 | 4,_::_::_::_::_=>simp at h;omega
theorem zrg {b:List UInt8} {a n i r:Nat} (hb:b.length<=1152921504606846976) (hn:n<=4) (h:i<n) (ha:a+i<b.length) (hr:r<=1000000000):
  zce a b n r i=zce a b n ((64*r+(b[a+i]).toNat%64:Nat):Int) ((i+1:Nat):Int):=by
 refine znz ?_;unfold zbB;have hc:=(b[a+i]).toNat_lt;rw [uy,uA,zH (show (a:Int)+i=((a+i:Nat):Int) by push_cast;rfl) ha,sb];simp (disch:=omega) only [zr,yK];push_cast;rfl
theorem zyW (h:n<=i):zce a b n r i=some (r:Int):=by
 refine znA ?_;unfold zbB;rw [uz]
theorem zmi {b:List UInt8} {a i:Nat} {c:UInt8} (h:(b.drop a)[i]? =some c):∃h:a+i<b.length,b[a+i]=c:=by
 rw [yZ] at h;exact yk.1 h
theorem zJt {b:List UInt8} {a n:Nat} {c:UInt8} {t:List UInt8} (hb:b.length<=1152921504606846976) (hl:b.drop a=c::t) (h1:1<=n) (h4:n<=4) (hn:n<=(b.drop a).length):
  zce a b n ((if 1<n then c.toNat%([0,0,32,16,8].getD n 0) else c.toNat:Nat):Int) (1:Nat)=some ((zvH n (b.drop a):Nat):Int):=by
 have hc:=c.toNat_lt;rw [hl] at hn
 match n,t,h1,h4,hn with
 | 1,t,_,_,_=>rw [zyW (by omega),hl];rfl
 | 2,x::t,_,_,_=>
  obtain ⟨g1,e1⟩:=zmi (b:=b) (a:=a) (i:=1) (c:=x) (by rw [hl];rfl);rw [xu (by omega),zrg hb (by omega) (by omega) g1 (by simp;omega),zyW (by omega),hl,e1];rfl
 | 3,x::y::t,_,_,_=>
  obtain ⟨g1,e1⟩:=zmi (b:=b) (a:=a) (i:=1) (c:=x) (by rw [hl];rfl);obtain ⟨g2,e2⟩:=zmi (b:=b) (a:=a) (i:=2) (c:=y) (by rw [hl];rfl);have hx:=x.toNat_lt;rw [xu (by omega),zrg hb (by omega) (by omega) g1 (by simp;omega),zrg hb (by omega) (by omega) g2 (by simp;omega),zyW (by omega),hl,e1,e2];rfl
 | 4,x::y::z::t,_,_,_=>
  obtain ⟨g1,e1⟩:=zmi (b:=b) (a:=a) (i:=1) (c:=x) (by rw [hl];rfl);obtain ⟨g2,e2⟩:=zmi (b:=b) (a:=a) (i:=2) (c:=y) (by rw [hl];rfl);obtain ⟨g3,e3⟩:=zmi (b:=b) (a:=a) (i:=3) (c:=z) (by rw [hl];rfl);have hx:=x.toNat_lt;have hy:=y.toNat_lt;rw [xu (by omega),zrg hb (by omega) (by omega) g1 (by simp;omega),zrg hb (by omega) (by omega) g2 (by simp;omega),zrg hb (by omega) (by omega) g3 (by simp;omega),zyW (by omega),hl,e1,e2,e3];rfl
theorem zIf {b:List UInt8} {a n:Nat} (hb:b.length<=1152921504606846976) (ha:a<=b.length) (h1:1<=n) (h5:n<=5):
  zbA a b n=if isN n (b.drop a) then some (.inr (.inr (n:Int))) else if n<=4/\n<=(b.drop a).length then some (.inl ((n+1:Nat):Int)) else some (.inr (.inl ())):=by
 have hdl:(b.drop a).length=b.length - a:=by simp
 unfold zbA;by_cases h:n<=4/\n<=(b.drop a).length
 ·rw [xu h,uA,uy];obtain ⟨c,t,hl⟩:∃c t,b.drop a=c::t:=by
   cases hh:b.drop a with
   | nil=>rw [hh] at h;simp at h;omega
   | cons c t=>exact ⟨c,t,rfl⟩
  obtain ⟨g0,e0⟩:=zmi (b:=b) (a:=a) (i:=0) (c:=c) (by rw [hl];rfl);have hc:=c.toNat_lt;rw [zH rfl (show a<b.length by omega),sb];have e0':b[a]'(by omega)=c:=by simpa using e0
  rw [e0',uA];have hp:(if (decide ((n:Int)>1))=true then (idx ([0,0,32,16,8]:(List Int)) (n:Int)>>=fun x2=>remI (c.toNat:Int) x2>>=fun v3=>some v3) else some (c.toNat:Int))=some (((if 1<n then c.toNat%([0,0,32,16,8].getD n 0) else c.toNat:Nat)):Int):=by
   match n,h1,h.1 with
   | 1,_,_=>rfl
   | 2,_,_=>rfl
   | 3,_,_=>rfl
   | 4,_,_=>rfl
  rw [hp,sb];have h2:=zJt hb hl h1 h.1 h.2;have h2':zce a b n ((if 1<n then c.toNat%([0,0,32,16,8].getD n 0) else c.toNat:Nat):Int) 1=some ((zvH n (b.drop a):Nat):Int):=h2;rw [h2',sb,zGA,sb,xt (by omega),ym,zqd rfl (show (a:Int)+n=((a+n:Nat):Int) by push_cast;rfl) (by omega) (by omega),sb,uq];by_cases hi:isN n (b.drop a)=true
  ·rw [xu hi,itT (by simpa using (zDg n _ h1 h.1 h.2).2 hi)]
  ·rw [xt hi,itF (by simpa using fun e=>hi ((zDg n _ h1 h.1 h.2).1 e)),uA];rfl
 ·have hn:isN n (b.drop a)=false:=by
   by_cases h4:n<=4
   ·exact zDh _ _ (by omega)
   ·have:n=5:=by omega
    subst this;rfl
  rw [xt h,hn,uA,uz];rfl
theorem zwF {b:List UInt8} {a:Nat} (hb:b.length<=1152921504606846976) (ha:a<=b.length):zgK b a=some ((nxt (b.drop a):Nat):Int):=by
 have key:∀(k n:Nat),n+k=5->1<=n->(∀j,1<=j->j<n->isN j (b.drop a)=false)->∃q,zdV a b n=some q/\(match q with| .inl _=>(0:Int)| .inr u=>u)=((nxt (b.drop a):Nat):Int):=by
  intro k
  induction k with
  | zero=>
   intro n hn h1 hj;have:n=5:=by omega
   subst this;refine ⟨.inl (),zhb ?_,?_⟩
   ·rw [zIf hb ha h1 (by omega),xt (by simp [isN]),xt (by omega)]
   ·have j1:=hj 1 (by omega) (by omega);have j2:=hj 2 (by omega) (by omega);have j3:=hj 3 (by omega) (by omega);have j4:=hj 4 (by omega) (by omega);simp only [isN] at j1 j2 j3 j4;simp [nxt,j1,j2,j3,j4]
  | succ k ih=>
   intro n hn h1 hj;have hb1:=zIf hb ha h1 (show n<=5 by omega);by_cases hi:isN n (b.drop a)=true
   ·rw [xu hi] at hb1;refine ⟨.inr n,zhb hb1,?_⟩;have e:nxt (b.drop a)=n:=by
     match n,h1,(show n<=4 by omega),hi,hj with
     | 1,_,_,hi,_=>simp only [isN] at hi;simp [nxt,hi]
     | 2,_,_,hi,hj=>have j1:=hj 1 (by omega) (by omega);simp only [isN] at hi j1;simp [nxt,hi,j1]
     | 3,_,_,hi,hj=>have j1:=hj 1 (by omega) (by omega);have j2:=hj 2 (by omega) (by omega);simp only [isN] at hi j1 j2;simp [nxt,hi,j1,j2]
     | 4,_,_,hi,hj=>have j1:=hj 1 (by omega) (by omega);have j2:=hj 2 (by omega) (by omega);have j3:=hj 3 (by omega) (by omega);simp only [isN] at hi j1 j2 j3;simp [nxt,hi,j1,j2,j3]
    simp only [e]
   ·rw [xt hi] at hb1;by_cases hl:n<=4/\n<=(b.drop a).length
    ·rw [xu hl] at hb1;obtain ⟨q,h2,h3⟩:=ih (n+1) (by omega) (by omega) fun j g1 g2=>by
      by_cases he:j=n
      ·subst he;simpa using hi
      ·exact hj j g1 (by omega)
     exact ⟨q,(zny hb1).trans h2,h3⟩
    ·rw [xt hl] at hb1;refine ⟨.inl (),zhb hb1,?_⟩;have hall:∀j,1<=j->isN j (b.drop a)=false:=fun j g1=>by
      by_cases g2:j<n
      ·exact hj j g1 g2
      ·by_cases g3:j<=4
       ·exact zDh _ _ (by omega)
       ·match j,g3 with
        | j+5,_=>rfl
     have j1:=hall 1 (by omega);have j2:=hall 2 (by omega);have j3:=hall 3 (by omega);have j4:=hall 4 (by omega);simp only [isN] at j1 j2 j3 j4;simp [nxt,j1,j2,j3,j4]
 obtain ⟨q,h1,h2⟩:=key 4 1 rfl (by omega) fun j g1 g2=>by omega
 unfold zgK;have h1':zdV a b 1=some q:=h1;rw [h1',sb,<-h2];cases q<;>rfl
theorem zmk (h:isN n l=true):∃a t,l=a::t/\n<=l.length/\(n=1/\a.toNat<128\/n=2/\194<=a.toNat/\a.toNat<224\/n=3/\224<=a.toNat/\a.toNat<240\/n=4/\240<=a.toNat):=by
 match n,l with
 | 1,a::t=>simp only [isN,is1,xK] at h;exact ⟨a,t,rfl,by simp,.inl ⟨rfl,h⟩⟩
 | 2,a::b::t=>simp only [isN,is2,xK] at h;exact ⟨a,_,rfl,by simp,.inr (.inl ⟨rfl,h.1,h.2.1⟩)⟩
 | 3,a::b::c::t=>simp only [isN,is3,xK] at h;exact ⟨a,_,rfl,by simp,.inr (.inr (.inl ⟨rfl,h.1,h.2.1⟩))⟩
 | 4,a::b::c::d::t=>simp only [isN,is4,xK] at h;exact ⟨a,_,rfl,by simp,.inr (.inr (.inr ⟨rfl,h.1⟩))⟩
 | 0,_=>cases h
 | 1,[]=>cases h
 | 2,[]=>cases h
 | 2,[_]=>cases h
 | 3,[]=>cases h
 | 3,[_]=>cases h
 | 3,[_,_]=>cases h
 | 4,[]=>cases h
 | 4,[_]=>cases h
 | 4,[_,_]=>cases h
 | 4,[_,_,_]=>cases h
 | _+5,_=>cases h
theorem zHv (h:isN n l=true) (h':isN m l=true):n=m:=by
 obtain ⟨a,t,e,_,g⟩:=zmk h;obtain ⟨a',t',e',_,g'⟩:=zmk h';rw [e] at e';cases e';omega
theorem zIQ (h:isN n l=true):nxt l=n:=by
 obtain ⟨_,_,_,_,g⟩:=zmk h;have k:∀m,m≠n->isN m l=false:=fun m hm=>by
  cases hh:isN m l with
  | false=>rfl
  | true=>exact absurd (zHv hh h) hm
 have hn:n=1\/n=2\/n=3\/n=4:=by omega
 rcases hn with rfl| rfl| rfl| rfl
 ·simp only [isN] at h;simp [nxt,h]
 ·have j1:=k 1 (by omega);simp only [isN] at h j1;simp [nxt,h,j1]
 ·have j1:=k 1 (by omega);have j2:=k 2 (by omega);simp only [isN] at h j1 j2;simp [nxt,h,j1,j2]
 ·have j1:=k 1 (by omega);have j2:=k 2 (by omega);have j3:=k 3 (by omega);simp only [isN] at h j1 j2 j3;simp [nxt,h,j1,j2,j3]
theorem zvi (h:nxt l≠0):isN (nxt l) l=true:=by
 unfold nxt at h|-;by_cases h1:is1 l=true
 ·simp [h1,isN]
 ·by_cases h2:is2 l=true
  ·simp [h1,h2,isN]
  ·by_cases h3:is3 l=true
   ·simp [h1,h2,h3,isN]
   ·by_cases h4:is4 l=true
    ·simp [h1,h2,h3,h4,isN]
    ·simp [h1,h2,h3,h4] at h
theorem zsi (l:List UInt8):nxt l<=l.length:=by
 by_cases h:nxt l=0
 ·omega
 ·obtain ⟨_,_,_,g,_⟩:=zmk (zvi h);exact g
theorem zzg (l:List UInt8):nxt l<=4:=by
 by_cases h:nxt l=0
 ·omega
 ·obtain ⟨_,_,_,_,g⟩:=zmk (zvi h);omega
def fst4 (m:Int) (l:List UInt8):Nat×Nat:=
 if h:nxt l=0\/(nxt l:Int)>m then (0,0) else (nxt l+(fst4 (m - nxt l) (l.drop (nxt l))).1,(fst4 (m - nxt l) (l.drop (nxt l))).2+1)
termination_by l.length
decreasing_by all_goals (have:=zsi l;simp only [yu];omega)
theorem zrd (h:nxt l=0\/(nxt l:Int)>m):fst4 m l=(0,0):=by rw [fst4,dif_pos h]
theorem zva (h:¬(nxt l=0\/(nxt l:Int)>m)):fst4 m l=(nxt l+(fst4 (m - nxt l) (l.drop (nxt l))).1,(fst4 (m - nxt l) (l.drop (nxt l))).2+1):=by rw [fst4,dif_neg h]
theorem zFw (P:Int->List UInt8->Prop) (h0:∀m l,(nxt l=0\/(nxt l:Int)>m)->P m l) (h1:∀m l,¬(nxt l=0\/(nxt l:Int)>m)->P (m - nxt l) (l.drop (nxt l))->P m l) (m:Int) (l:List UInt8):P m l:=by
 generalize hn:l.length=n
 induction n using Nat.strongRecOn generalizing m l with
 | _ n ih=>
  by_cases h:nxt l=0\/(nxt l:Int)>m
  ·exact h0 m l h
  ·have:=zsi l;exact h1 m l h (ih _ (by simp only [yu];omega) _ _ rfl)
theorem zxn {b:List UInt8} (hb:b.length<=140737488355328) (most:Int) (m:Int) (l:List UInt8):∀(a c:Nat),c<=a->a<=b.length->l=b.drop a->m=most - a->
  zcT b most a c=some (((a+(fst4 m l).1:Nat):Int),((c+(fst4 m l).2:Nat):Int)):=by
 refine zFw (fun m l=>∀(a c:Nat),c<=a->a<=b.length->l=b.drop a->m=most - a->zcT b most a c=some (((a+(fst4 m l).1:Nat):Int),((c+(fst4 m l).2:Nat):Int))) ?_ ?_ m l
 ·intro m l h a c hc ha hl hm;subst hl hm;have h4:=zzg (b.drop a);refine zmJ ?_;unfold zbl;rw [zwF (by omega) ha,sb,uA,uy,zrd h];rfl
 ·intro m l h ih a c hc ha hl hm;subst hl hm;have h4:=zzg (b.drop a);have hle:=zsi (b.drop a);simp only [yu] at hle;refine (zmI (atv':=((a+nxt (b.drop a):Nat):Int)) (count':=((c+1:Nat):Int)) ?_).trans ?_
  ·unfold zbl;rw [zwF (by omega) ha,sb,uA,uz,uA];rfl
  ·rw [ih (a+nxt (b.drop a)) (c+1) (by omega) (by omega) (by rw [qI]) (by omega),zva h];simp only [qA,Nat.add_comm 1]
theorem zAV (hb:b.length<=140737488355328) (most:Int):zge b most=some (((fst4 most b).1:Int),((fst4 most b).2:Int)):=by
 unfold zge;have h:=zxn hb most most b 0 0 (xA _) (xH _) rfl (by omega);simp only [xD] at h;have h':zcT b most 0 0=some (((fst4 most b).1:Int),((fst4 most b).2:Int)):=h;rw [h',sb]
def pre4 (l:List UInt8):Nat×Nat:=fst4 l.length l
theorem zFv (h:(l.length:Int)<=m):fst4 m l=pre4 l:=by
 have key:∀(n:Nat) (l:List UInt8) (m m':Int),l.length=n->(l.length:Int)<=m->(l.length:Int)<=m'->fst4 m l=fst4 m' l:=by
  intro n
  induction n using Nat.strongRecOn with
  | _ n ih=>
   intro l m m' hn hm hm';have hle:=zsi l;by_cases h:nxt l=0
   ·rw [zrd (.inl h),zrd (.inl h)]
   ·rw [zva (m:=m) (l:=l) (by omega),zva (m:=m') (l:=l) (by omega),ih _ (by simp only [yu];omega) (l.drop (nxt l)) (m - nxt l) (m' - nxt l) rfl (by simp only [yu];omega) (by simp only [yu];omega)]
 exact key _ l m l.length rfl h (qg _)
theorem zEu (h:nxt l=0):pre4 l=(0,0):=zrd (.inl h)
theorem zHN (h:nxt l≠0):pre4 l=(nxt l+(pre4 (l.drop (nxt l))).1,(pre4 (l.drop (nxt l))).2+1):=by
 have hle:=zsi l;unfold pre4;rw [zva (by omega),zFv (m:=(l.length:Int) - nxt l) (by simp only [yu];omega)];rfl
theorem zGu (P:List UInt8->Prop) (h0:∀l,nxt l=0->P l) (h1:∀l,nxt l≠0->P (l.drop (nxt l))->P l) (l:List UInt8):P l:=by
 generalize hn:l.length=n
 induction n using Nat.strongRecOn generalizing l with
 | _ n ih=>
  by_cases h:nxt l=0
  ·exact h0 l h
  ·have:=zsi l;exact h1 l h (ih _ (by simp only [yu];omega) _ rfl)
def zlx (l:List UInt8):Bool:=decide ((pre4 l).1=l.length)
theorem zzp (hb:b.length<=140737488355328):zgf b=some (zlx b):=by
 unfold zgf;rw [zAV hb,sb];unfold zlx pre4;by_cases h:(fst4 (b.length:Int) b).1=b.length
 ·simp [h]
 ·have h2:¬(((fst4 (b.length:Int) b).1:Int)=b.length):=by omega
  simp [h,h2]
def enc (v:Nat):List UInt8:=if v<128 then [UInt8.ofNat v] else UInt8.ofNat (128+v%128)::enc (v/128)
termination_by v
decreasing_by omega
def scan:Nat->Nat->List UInt8->Unit⊕(Int×Int×Int)
 | _,_,[]=> .inl ()
 | i,acc,c::t=>if i=9/\1<c.toNat then .inr (0,0,4) else if c.toNat<128 then .inr (((acc+c.toNat%128*128^i:Nat):Int),((i+1:Nat):Int),0) else scan (i+1) (acc+c.toNat%128*128^i) t
def rdR:Unit⊕(Int×Int×Int)->Int×Int×Int
 | .inl _=>(0,0,3)
 | .inr r=>r
def rd (b:List UInt8):Int×Int×Int:=rdR (scan 0 0 (b.take 10))
def hor:List UInt8->Nat
 | []=>0
 | c::t=>c.toNat%128+128*hor t
def lead:Nat->List UInt8->Nat
 | 0,_=>0
 | _+1,[]=>0
 | k+1,c::t=>if 128<=c.toNat then lead k t+1 else 0
theorem zIq (i:Nat):2^(7*i)=128^i:=by rw [Nat.pow_mul]
theorem zHf (c:Nat):c&&&127=c%128:=uu c 7
theorem zEw {acc i c:Nat} (hi:i<=9) (hacc:acc<128^i) (hc:c<256) (h9:i=9->c<=1):
  orI .u64 (acc:Int) (shlI .u64 (IntKind.u64.wrap (andI .u8 (c:Int) 127)) ((7*i:Nat):Int))=((acc+c%128*128^i:Nat):Int):=by
 have e1:andI .u8 (c:Int) 127=((c%128:Nat):Int):=by
  have:=zzL (k:= .u8) rfl (a:=c) (b:=127) (by simpa [IntKind.bits] using hc) (by simp [IntKind.bits]);rw [zHf] at this;exact this
 have hp:128^i<=128^9:=ue (by omega) hi;have hlt:c%128*128^i<18446744073709551616:=by
  by_cases h:i=9
  ·subst h;have:=h9 rfl;have h2:c%128<=1:=by omega
   have:=yo (128^9) h2;omega
  ·have h3:128^i<=128^8:=ue (by omega) (by omega);have:=Nat.mul_le_mul (show c%128<=127 by omega) h3;omega
 have e2:shlI .u64 (IntKind.u64.wrap ((c%128:Nat):Int)) ((7*i:Nat):Int)=((c%128*128^i:Nat):Int):=by
  unfold shlI;rw [ztA rfl (by simp [IntKind.bits];omega),ym,yU (by simp [IntKind.bits];omega)];have h4:((c%128:Nat):Int)*2^(7*i)=((c%128*128^i:Nat):Int):=by rw [<-zIq];push_cast;rfl
  rw [h4];exact ztA rfl (by simpa [IntKind.bits] using hlt)
 rw [e1,e2,zDx rfl (by simp [IntKind.bits];omega) (by simpa [IntKind.bits] using hlt)];congr 1;rw [<-zIq] at hacc|-;exact zAJ _ _ _ hacc
theorem zEv:∀(t:List UInt8) (v:List UInt8) (i acc:Nat),v.drop i=t->i+t.length=v.length->v.length<=10->acc<128^i->zhy v acc i=some (scan i acc t):=by
 intro t
 induction t with
 | nil=>
  intro v i acc _ hl _ _;refine zjH ?_;unfold zde;rw [itF (by simp at hl|-;omega)];rfl
 | cons c t ih=>
  intro v i acc hd hl hv hacc;simp only [yj] at hl;have hget:v[i]'(by omega)=c:=by
   have h1:v.drop i=v[i]'(by omega)::v.drop (i+1):=xL (by omega);rw [hd] at h1;exact (List.cons.inj h1).1.symm
  have hd':v.drop (i+1)=t:=by rw [<-qI,hd];rfl
  have hc:=c.toNat_lt;have hb:zde v acc i=if i=9/\1<c.toNat then some (.inr (.inr (0,0,4))) else if c.toNat<128 then some (.inr (.inr (((acc+c.toNat%128*128^i:Nat):Int),((i+1:Nat):Int),0))) else some (.inl (((acc+c.toNat%128*128^i:Nat):Int),((i+1:Nat):Int))):=by
   unfold zde;rw [uy,zH rfl (show i<v.length by omega),sb,hget];by_cases h9:i=9/\1<c.toNat
   ·rw [xu h9,uy]
   ·rw [xt h9,uz,uA];have e:((7:Int)*(i:Int))=((7*i:Nat):Int):=by push_cast;rfl
    rw [e,zGH,sb,zEw (by omega) hacc (by omega) (by omega),uA];by_cases h8:c.toNat<128
    ·rw [xu h8,uy];push_cast;rfl
    ·rw [xt h8,uz];push_cast;rfl
  rw [scan];split at hb
  ·rename_i h9;rw [xu h9];exact zjH hb
  ·rename_i h9;rw [xt h9];split at hb
   ·rename_i h8;rw [xu h8];exact zjH hb
   ·rename_i h8;rw [xt h8,zsy hb];refine ih v (i+1) _ hd' (by omega) hv ?_;rw [pE];have:=yo (128^i) (show c.toNat%128<=127 by omega);omega
theorem zzl (b:List UInt8):zhJ b=some (rd b):=by
 unfold zhJ rd;have e:(if (10:Int)<(b.length:Int) then (10:Int) else (b.length:Int))=((min 10 b.length:Nat):Int):=by split<;>omega
 have e2:b.take (min 10 b.length)=b.take 10:=by rw [List.take_eq_take_iff];omega
 rw [e,zme rfl (by omega),sb,e2];have h:=zEv (b.take 10) (b.take 10) 0 0 rfl (by simp) (by simp;omega) (by simp);have h':zhy (b.take 10) 0 0=some (scan 0 0 (b.take 10)):=h;rw [h',sb];cases scan 0 0 (b.take 10)<;>rfl
theorem zHT (b:List UInt8):zlr b=some ((rd b).2.1,(rd b).2.2):=by unfold zlr;rw [zzl,sb]
theorem zyZ:∀(k:Nat) (l:List UInt8),lead k l<=k/\lead k l<=l.length
 | 0,_=>⟨xA _,xH _⟩
 | _+1,[]=>⟨xH _,xA _⟩
 | k+1,c::t=>by
  have:=zyZ k t;rw [lead];split<;>simp<;>omega
theorem zyp:∀(l:List UInt8) (i acc:Nat),i+l.length<=10->i<=9->
  scan i acc l=if i+lead (10 - i) l=10 then .inr (0,0,4) else if lead (10 - i) l=l.length then .inl () else if i+lead (10 - i) l=9/\1<(l.getD (lead (10 - i) l) 0).toNat then .inr (0,0,4) else
   .inr (((acc+hor (l.take (lead (10 - i) l+1))*128^i:Nat):Int),((i+lead (10 - i) l+1:Nat):Int),0):=by
 intro l
 induction l with
 | nil=>
  intro i acc _ hi;obtain ⟨k,hk⟩:∃k,10 - i=k+1:=⟨9 - i,by omega⟩;rw [hk];simp only [lead,scan,pF];rw [xt (by omega),xu trivial]
 | cons c t ih=>
  intro i acc hl hi;obtain ⟨k,hk⟩:∃k,10 - i=k+1:=⟨9 - i,by omega⟩;simp only [yj] at hl;rw [scan];by_cases hc:128<=c.toNat
  ·have e:lead (10 - i) (c::t)=lead k t+1:=by rw [hk,lead,xu hc]
   rw [e];by_cases h9:i=9
   ·have:k=0:=by omega
    subst this;rw [xu ⟨h9,by omega⟩,lead,xu (by omega)]
   ·rw [xt (by omega),xt (by omega),ih (i+1) _ (by omega) (by omega),show 10 - (i+1)=k by omega];by_cases h1:i+1+lead k t=10
    ·rw [xu h1,xu (show i+(lead k t+1)=10 by omega)]
    ·rw [xt h1,xt (show ¬i+(lead k t+1)=10 by omega)];by_cases h2:lead k t=t.length
     ·rw [xu h2,xu (show lead k t+1=(c::t).length by simp;omega)]
     ·rw [xt h2,xt (show ¬lead k t+1=(c::t).length by simp;omega)];have eg:(c::t).getD (lead k t+1) 0=t.getD (lead k t) 0:=by simp [List.getD]
      rw [eg];by_cases h3:i+1+lead k t=9/\1<(t.getD (lead k t) 0).toNat
      ·rw [xu h3,xu (show i+(lead k t+1)=9/\1<(t.getD (lead k t) 0).toNat by omega)]
      ·rw [xt h3,xt (show ¬(i+(lead k t+1)=9/\1<(t.getD (lead k t) 0).toNat) by omega)];rw [yM,hor,pE];have e5:acc+c.toNat%128*128^i+hor (t.take (lead k t+1))*(128^i*128)=acc+(c.toNat%128+128*hor (t.take (lead k t+1)))*128^i:=by
        rw [Nat.add_mul,pG 128,pv (128^i) 128,<-pG,pv _ 128,pG];omega
       rw [e5];congr 3;omega
  ·have e:lead (10 - i) (c::t)=0:=by rw [hk,lead,xt hc]
   rw [e];simp only [yJ,yj,List.getD_cons_zero];rw [xt (show ¬i=10 by omega),xt (show ¬0=t.length+1 by omega)];by_cases h9:i=9/\1<c.toNat
   ·rw [xu h9,xu h9]
   ·rw [xt h9,xt h9,xu (show c.toNat<128 by omega)];simp [hor]
theorem zvS (x y:List UInt8):hor (x++y)=hor x+128^x.length*hor y:=by
 induction x with
 | nil=>simp [hor]
 | cons c t ih=>simp only [yr,hor,ih,yj,pE,Nat.mul_add];rw [pv (128^t.length) 128,pG];omega
theorem zFB (l:List UInt8):hor l<128^l.length:=by
 induction l with
 | nil=>simp [hor]
 | cons c t ih=>simp only [hor,yj,pE];omega
theorem zFA (l:List UInt8) (j:Nat):hor (l.drop j)<=hor l:=by
 induction l generalizing j with
 | nil=>simp
 | cons c t ih=>
  cases j with
  | zero=>exact xA _
  | succ j=>have:=ih j;simp only [pm,hor];omega
theorem zEx (b:List UInt8) (a:Nat) (hb:b.length<=1152921504606846976):∀(k n:Nat),n+k=10->a+n<=b.length->zdT a b n=some ((n+lead k (b.drop (a+n)):Nat):Int):=by
 intro k
 induction k with
 | zero=>
  intro n hn ha;refine zha ?_;unfold zaE;rw [uA];by_cases h1:a+n<b.length
  ·rw [uy,uz,sb,itF (by rfl)];rfl
  ·rw [uz,sb,itF (by rfl)];rfl
 | succ k ih=>
  intro n hn ha;by_cases h1:a+n<b.length
  ·have hd:b.drop (a+n)=b[a+n]::b.drop (a+(n+1)):=xL h1;have hbody:zaE a b n=if 128<=b[a+n].toNat then some (.inl ((n+1:Nat):Int)) else some (.inr (n:Int)):=by
    unfold zaE;rw [uA,uA,uy,uy,zH (show (a:Int)+n=((a+n:Nat):Int) by push_cast;rfl) h1,sb,sb];by_cases h2:128<=b[a+n].toNat
    ·rw [xu h2,uy];push_cast;rfl
    ·rw [xt h2,uz]
   rw [hd,lead];by_cases h2:128<=b[a+n].toNat
   ·rw [xu h2] at hbody|-;rw [znv hbody,ih (n+1) (by omega) (by omega)];congr 2;omega
   ·rw [xt h2] at hbody|-;exact zha hbody
  ·have hd:b.drop (a+n)=[]:=xR (by omega);rw [hd];refine zha ?_;unfold zaE;rw [uA,uz,sb,itF (by rfl)];rfl
theorem zEy (b:List UInt8) (a m:Nat) (hb:b.length<=1152921504606846976) (hm:a+m<=b.length) (hh:hor ((b.drop a).take m)<18446744073709551616):
  ∀(j:Nat),j<=m->zdU a b (hor (((b.drop a).take m).drop j)) ((j:Int) - 1)=some ((hor ((b.drop a).take m):Nat):Int):=by
 intro j
 induction j with
 | zero=>
  intro _;refine znx ?_;unfold zbz;rw [itF (by simp)];rfl
 | succ j ih=>
  intro hj;have hL:((b.drop a).take m).length=m:=by simp;omega
  have hd:((b.drop a).take m).drop j=((b.drop a).take m)[j]'(by omega)::((b.drop a).take m).drop (j+1):=xL (by omega);have hc:((b.drop a).take m)[j]'(by omega)=b[a+j]'(by omega):=by simp
  have h1:=zFA ((b.drop a).take m) j;rw [hd,hor,hc] at h1;have h2:=(b[a+j]'(by omega)).toNat_lt;refine (znw (wv':=(hor (((b.drop a).take m).drop j):Nat)) (i':=(j:Int) - 1) ?_).trans (ih (by omega));unfold zbz;rw [itT (by simp),uA,zH (show (a:Int)+(((j+1:Nat):Int) - 1)=((a+j:Nat):Int) by push_cast;omega) (by omega),sb,uA,hd,hor,hc];simp only [zjz];rw [yK (by omega)];congr 3
  ·omega
  ·push_cast;omega
theorem zGU (hn:n<=9) (hC:C<256) (h9:¬(n=9/\1<C)) (hX:X<128^n):X+128^n*(C%128)<18446744073709551616:=by
 by_cases h9':n=9
 ·subst h9';have:C%128<=1:=by omega
  have:=pR (128^9) this;omega
 ·have h5:128^n<=128^8:=ue (by omega) (by omega);have h6:C%128<=127:=by omega
  have:=Nat.mul_le_mul h5 h6;omega
theorem zCv (b:List UInt8) (a:Nat) (hb:b.length<=1152921504606846976) (ha:a<=b.length):zer b a=some (rd (b.drop a)):=by
 unfold zer;have h1:=zEx b a hb 10 0 rfl (by omega);simp only [xD,yJ] at h1;have h1':zdT a b 0=some ((lead 10 (b.drop a):Nat):Int):=h1;rw [h1',sb];have hle:=zyZ 10 (b.drop a);have hlen:(b.drop a).length=b.length - a:=by simp
 -- the ten bytes that count
 have htake:∀(k:Nat) (l:List UInt8),lead k (l.take k)=lead k l:=by
  intro k
  induction k with
  | zero=>intro l;rfl
  | succ k ih=>intro l;cases l with
   | nil=>rfl
   | cons c t=>simp only [yM,lead,ih]
 have hs:=zyp ((b.drop a).take 10) 0 0 (by simp;omega) (by omega);simp only [xD,qo,htake,Nat.pow_zero,qu] at hs;unfold rd;rw [hs];by_cases h10:lead 10 (b.drop a)=10
 ·rw [xu h10,uy];rfl
 ·rw [xt h10,uz,uA];by_cases hl:lead 10 (b.drop a)=(b.drop a).length
  ·rw [xu (show lead 10 (b.drop a)=((b.drop a).take 10).length by rw [yb];omega),uy];rfl
  ·rw [xt (show ¬lead 10 (b.drop a)=((b.drop a).take 10).length by rw [yb];omega),uz];have hlt:a+lead 10 (b.drop a)<b.length:=by omega
   have hg:((b.drop a).take 10).getD (lead 10 (b.drop a)) 0=b[a+lead 10 (b.drop a)]:=by
    rw [qL,yC,xu (by omega),yZ,xF hlt];rfl
   rw [hg,pg,yU (by omega)];have hc:=(b[a+lead 10 (b.drop a)]).toNat_lt;have hg2:(if (((lead 10 (b.drop a):Nat):Int)==9)=true then (idx b ((a:Int)+((lead 10 (b.drop a):Nat):Int))>>=fun x2=>some (decide ((x2.toNat:Int)>1))) else some false)=some (decide (lead 10 (b.drop a)=9/\1<(b[a+lead 10 (b.drop a)]).toNat)):=by
    by_cases h9:lead 10 (b.drop a)=9
    ·rw [uy,zH (show (a:Int)+((lead 10 (b.drop a):Nat):Int)=((a+lead 10 (b.drop a):Nat):Int) by push_cast;rfl) hlt,sb];congr 1;simp only [h9,pi,qh];omega
    ·rw [uz];simp [h9]
   rw [hg2,sb];by_cases h9:lead 10 (b.drop a)=9/\1<(b[a+lead 10 (b.drop a)]).toNat
   ·rw [xu h9,itT (by simpa using h9)];rfl
   ·rw [xt h9,itF (ya h9)];have hbd:hor ((b.drop a).take (lead 10 (b.drop a)+1))<18446744073709551616:=by
     have hsp:(b.drop a).take (lead 10 (b.drop a)+1)=(b.drop a).take (lead 10 (b.drop a))++[b[a+lead 10 (b.drop a)]]:=by
      rw [List.take_add_one,yZ,xF hlt];rfl
     rw [hsp,zvS];have h3:=zFB ((b.drop a).take (lead 10 (b.drop a)));have h4:((b.drop a).take (lead 10 (b.drop a))).length=lead 10 (b.drop a):=by simp;omega
     rw [h4] at h3|-;simp only [hor,Nat.mul_zero,yJ];exact zGU (by omega) (by omega) h9 h3
    have h2:=zEy b a (lead 10 (b.drop a)+1) hb (by omega) hbd (lead 10 (b.drop a)+1) (xA _);have hz:((b.drop a).take (lead 10 (b.drop a)+1)).drop (lead 10 (b.drop a)+1)=[]:=xR (by simp;omega);rw [hz] at h2;have e3:(((lead 10 (b.drop a)+1:Nat):Int) - 1)=((lead 10 (b.drop a):Nat):Int):=by push_cast;omega
    rw [e3] at h2;have h2':zdU a b 0 ((lead 10 (b.drop a):Nat):Int)=some ((hor ((b.drop a).take (lead 10 (b.drop a)+1)):Nat):Int):=h2;rw [h2',sb,uA];simp [rdR]
theorem zxW:∀(k:Nat) (l:List UInt8),lead k (l.take k)=lead k l
 | 0,_=>rfl
 | _+1,[]=>rfl
 | k+1,c::t=>by simp only [yM,lead,zxW k t]
theorem zxV:∀(k:Nat) (l:List UInt8),(∀y∈l.take (lead k l),128<=y.toNat)/\∀(h:lead k l<l.length),lead k l<k->(l[lead k l]).toNat<128
 | 0,_=>⟨fun y hy=>by simp [lead] at hy,fun _ h=>by omega⟩
 | _+1,[]=>⟨fun y hy=>by simp at hy,fun h=>by simp at h⟩
 | k+1,c::t=>by
  obtain ⟨h1,h2⟩:=zxV k t;by_cases hc:128<=c.toNat
  ·have e:lead (k+1) (c::t)=lead k t+1:=by rw [lead,xu hc]
   constructor
   ·rw [e,yM];intro y hy;cases hy with
    | head=>exact hc
    | tail _ hy=>exact h1 y hy
   ·simp only [e,pH,yj];intro h hk;exact h2 (by omega) (by omega)
  ·have e:lead (k+1) (c::t)=0:=by rw [lead,xt hc]
   constructor
   ·rw [e];intro y hy;simp at hy
   ·simp only [e];intro _ _;simp;omega
theorem zGz (b:List UInt8):rd b=(0,0,4)\/(rd b=(0,0,3)/\b.length<=9)\/
  ∃x c y,b=x++c::y/\(∀z∈x,128<=z.toNat)/\c.toNat<128/\x.length<=9/\hor (x++[c])<18446744073709551616/\rd b=(((hor (x++[c]):Nat):Int),((x.length+1:Nat):Int),0):=by
 have hle:=zyZ 10 b;have hs:=zyp (b.take 10) 0 0 (by simp;omega) (by omega);simp only [xD,qo,zxW,Nat.pow_zero,qu] at hs;unfold rd;rw [hs];by_cases h10:lead 10 b=10
 ·rw [xu h10];exact .inl rfl
 ·rw [xt h10];by_cases hl:lead 10 b=(b.take 10).length
  ·rw [xu hl];refine .inr (.inl ⟨rfl,?_⟩);rw [yb] at hl;omega
  ·rw [xt hl];rw [yb] at hl;have hlt:lead 10 b<b.length:=by omega
   have hg:(b.take 10).getD (lead 10 b) 0=b[lead 10 b]:=by
    rw [qL,yC,xu (by omega),xF hlt];rfl
   rw [hg,pg,yU (by omega)];have hc:=(b[lead 10 b]).toNat_lt;by_cases h9:lead 10 b=9/\1<(b[lead 10 b]).toNat
   ·rw [xu h9];exact .inl rfl
   ·rw [xt h9];obtain ⟨hf1,hf2⟩:=zxV 10 b;have hsp:b.take (lead 10 b+1)=b.take (lead 10 b)++[b[lead 10 b]]:=by
     rw [List.take_add_one,xF hlt];rfl
    have hlen:(b.take (lead 10 b)).length=lead 10 b:=by rw [yb];omega
    refine .inr (.inr ⟨b.take (lead 10 b),b[lead 10 b],b.drop (lead 10 b+1),?_,hf1,hf2 hlt (by omega),by omega,?_,?_⟩)
    ·rw [<-xL hlt,qH]
    ·rw [zvS];have h3:=zFB (b.take (lead 10 b));rw [hlen] at h3|-;simp only [hor,Nat.mul_zero,yJ];exact zGU (by omega) (by omega) h9 h3
    ·rw [hsp,hlen];simp [rdR]
theorem all_nil (acc:List Int):zrM [] acc=some (.inl acc):=by
 refine ztw ?_;unfold zkR;rw [itF (by simp)]
def ziI (n w:Int):Bool:=decide (1<=n/\n<=536870911/\(w=0\/w=1\/w=2\/w=5))
def tgR (r:Int×Int×Int):Int×Int×Int×Int:=
 if r.2.2≠0 then (0,0,0,r.2.2) else if 4294967295<r.1\/ziI (r.1/8) (r.1%8)=false then (0,0,0,5) else (r.1/8,r.1%8,r.2.1,0)
def tg (l:List UInt8):Int×Int×Int×Int:=tgR (rd l)
theorem zwS {n w:Int}:ziI n w=true↔1<=n/\n<=536870911/\(w=0\/w=1\/w=2\/w=5):=by simp [ziI]
theorem zAS (n w:Int):zgd n w=some (ziI n w):=by
 unfold zgd ziI;simp [Bool.decide_and,Bool.decide_or,Bool.beq_eq_decide_eq]
theorem zkH (l:List UInt8):0<=(rd l).1/\(rd l).1<18446744073709551616/\0<=(rd l).2.1/\(rd l).2.1<=10/\(rd l).2.1<=l.length/\((rd l).2.2=0\/(rd l).2.2=3\/(rd l).2.2=4)/\((rd l).2.2=0->1<=(rd l).2.1):=by
 rcases zGz l with h| ⟨h,_⟩| ⟨x,c,y,e,_,_,hl,hv,h⟩
 ·rw [h];simp
 ·rw [h];simp
 ·have:l.length=x.length+1+y.length:=by rw [e];simp;omega
  rw [h];refine ⟨?_,?_,?_,?_,?_,.inl rfl,fun _=>?_⟩<;>simp only<;>omega
theorem zzA (h:r.2.2≠0):tgR r=(0,0,0,r.2.2):=xu h
theorem zqQ (h:r.2.2=0) (h2:4294967295<r.1\/ziI (r.1/8) (r.1%8)=false):tgR r=(0,0,0,5):=by unfold tgR;rw [xt (by simp [h]),xu h2]
theorem zCD (h:r.2.2=0) (h2:¬(4294967295<r.1\/ziI (r.1/8) (r.1%8)=false)):tgR r=(r.1/8,r.1%8,r.2.1,0):=by unfold tgR;rw [xt (by simp [h]),xt h2]
theorem zwT (l:List UInt8):(∃c,tg l=(0,0,0,c)/\(c=3\/c=4\/c=5))\/∃n w k,tg l=(n,w,k,0)/\ziI n w=true/\1<=k/\k<=10/\k<=l.length/\rd l=(8*n+w,k,0):=by
 obtain ⟨h1,h2,h3,h4,h5,h6,h7⟩:=zkH l;unfold tg;by_cases h:(rd l).2.2=0
 ·by_cases hg:4294967295<(rd l).1\/ziI ((rd l).1/8) ((rd l).1%8)=false
  ·exact .inl ⟨5,zqQ h hg,by omega⟩
  ·refine .inr ⟨_,_,_,zCD h hg,?_,h7 h,h4,h5,?_⟩
   ·cases ht:ziI ((rd l).1/8) ((rd l).1%8)
    ·exact absurd (.inr ht) hg
    ·rfl
   ·refine Prod.ext ?_ (Prod.ext rfl h);simp only;omega
 ·exact .inl ⟨_,zzA h,by omega⟩
theorem zzm (b:List UInt8) (a:Nat) (hb:b.length<=1152921504606846976) (ha:a<=b.length):zgJ b a=some (tg (b.drop a)):=by
 unfold zgJ tg;obtain ⟨h1,h2,h3,h4,h5,h6,h7⟩:=zkH (b.drop a);rw [zCv b a hb ha,sb];by_cases h:(rd (b.drop a)).2.2=0
 ·rw [itF (by simpa using h)];have e1:IntKind.i64.wrap (IntKind.u64.wrap (Int.tdiv (rd (b.drop a)).1 8))=(rd (b.drop a)).1/8:=by
   rw [pD h1,zjz,ph (by omega) (by omega),uA]
  have e2:IntKind.i64.wrap (Int.tmod (rd (b.drop a)).1 8)=(rd (b.drop a)).1%8:=by
   rw [yK h1,uA]
  simp only [e1,e2,zAS,sb];by_cases hg:4294967295<(rd (b.drop a)).1
  ·rw [itT (by simpa using hg),sb,itT (by rfl),zqQ h (.inl hg)]
  ·rw [itF (by simpa using hg),sb];cases ht:ziI ((rd (b.drop a)).1/8) ((rd (b.drop a)).1%8)
   ·rw [itT (by rfl),zqQ h (.inr ht)]
   ·rw [itF (by rfl),zCD h (by simp [ht];omega)]
 ·rw [itT (by simpa using h),zzA h]
abbrev Rec:=zz
def zhV (w:Int) (k:Nat) (m:List UInt8):Int⊕(Nat×Nat):=
 if w=0 then (if (rd m).2.2≠0 then .inl (rd m).2.2 else .inr (k,k+(rd m).2.1.toNat))
 else if w=2 then (if (rd m).2.2≠0 then .inl (rd m).2.2 else if (m.length:Int) - (rd m).2.1<(rd m).1 then .inl 3 else .inr (k+(rd m).2.1.toNat,k+(rd m).2.1.toNat+(rd m).1.toNat))
 else if m.length<(if w=5 then 4 else 8) then .inl 3 else .inr (k,k+(if w=5 then 4 else 8))
def rec5 (l:List UInt8):Int⊕(Int×Int×Nat×Nat):=
 if (tg l).2.2.2≠0 then .inl (tg l).2.2.2 else match zhV (tg l).2.1 (tg l).2.2.1.toNat (l.drop (tg l).2.2.1.toNat) with
  | .inl c=> .inl c
  | .inr p=> .inr ((tg l).1,(tg l).2.1,p.1,p.2)
theorem zuq (w:Int) (k:Nat) (m:List UInt8):(∃c,zhV w k m= .inl c/\(c=3\/c=4))\/
  ∃a t,zhV w k m= .inr (a,t)/\k<=a/\a<=t/\t<=k+m.length/\
   (w=0/\a=k/\(rd m).2.2=0/\((t - k:Nat):Int)=(rd m).2.1/\k<t\/w=2/\(rd m).2.2=0/\((a - k:Nat):Int)=(rd m).2.1/\((t - a:Nat):Int)=(rd m).1\/w≠0/\w≠2/\a=k/\t=k+(if w=5 then 4 else 8)):=by
 obtain ⟨h1,h2,h3,h4,h5,h6,h7⟩:=zkH m;unfold zhV;by_cases w0:w=0
 ·rw [xu w0];by_cases h:(rd m).2.2=0
  ·have:=h7 h;rw [xt (by simpa using h)];exact .inr ⟨_,_,rfl,xA _,by omega,by omega,.inl ⟨w0,rfl,h,by omega,by omega⟩⟩
  ·rw [xu h];exact .inl ⟨_,rfl,by omega⟩
 ·rw [xt w0];by_cases w2:w=2
  ·rw [xu w2];by_cases h:(rd m).2.2=0
   ·rw [xt (by simpa using h)];by_cases h8:(m.length:Int) - (rd m).2.1<(rd m).1
    ·rw [xu h8];exact .inl ⟨_,rfl,by omega⟩
    ·rw [xt h8];exact .inr ⟨_,_,rfl,by omega,by omega,by omega,.inr (.inl ⟨w2,h,by omega,by omega⟩)⟩
   ·rw [xu h];exact .inl ⟨_,rfl,by omega⟩
  ·rw [xt w2];by_cases h8:m.length<(if w=5 then 4 else 8)
   ·rw [xu h8];exact .inl ⟨_,rfl,by omega⟩
   ·rw [xt h8];exact .inr ⟨_,_,rfl,xA _,by omega,by omega,.inr (.inr ⟨w0,w2,rfl,rfl⟩)⟩
theorem zCr (l:List UInt8):(∃c,rec5 l= .inl c/\(c=3\/c=4\/c=5))\/
  ∃(n w:Int) (k a t:Nat),rec5 l= .inr (n,w,a,t)/\tg l=(n,w,(k:Int),0)/\ziI n w=true/\zhV w k (l.drop k)= .inr (a,t)/\1<=k/\k<=l.length/\k<=a/\a<=t/\t<=l.length/\rd l=(8*n+w,(k:Int),0):=by
 rcases zwT l with ⟨c,h,hc⟩| ⟨n,w,k,h,hr,k1,k2,k3,hrd⟩
 ·refine .inl ⟨c,?_,hc⟩;unfold rec5;rw [h,xu (by simp only;omega)]
 ·obtain ⟨k,rfl⟩:∃j:Nat,k=j:=⟨k.toNat,by omega⟩
  have e:rec5 l=match zhV w k (l.drop k) with
   | .inl c=> .inl c
   | .inr p=> .inr (n,w,p.1,p.2):=by unfold rec5;rw [h];simp
  rcases zuq w k (l.drop k) with ⟨c,h2,hc⟩| ⟨a,t,h2,g1,g2,g3,_⟩
  ·exact .inl ⟨c,by rw [e,h2],by omega⟩
  ·simp only [yu] at g3;exact .inr ⟨n,w,k,a,t,by rw [e,h2],h,hr,h2,by omega,by omega,g1,g2,by omega,hrd⟩
def zrec:Rec:=⟨0,0,0,0,0⟩
def zsW (b:List UInt8) (at5:Int):Rec×Int:=if at5<0\/at5>=b.length then (zrec,2) else match rec5 (b.drop at5.toNat) with
 | .inl c=>(zrec,c)
 | .inr (n,w,a,t)=>(⟨n,w,at5,at5+a,at5+t⟩,0)
theorem zAR (hb:b.length<=140737488355328) (at5:Int):zgL b at5=some (zsW b at5):=by
 unfold zgL zsW;by_cases h:at5<0\/at5>=b.length
 ·rw [itT (by simpa using h),xu h];rfl
 ·rw [itF (by simpa using h),xt h];obtain ⟨p,rfl⟩:∃p:Nat,at5=p:=⟨at5.toNat,by omega⟩;rw [zzm b p (by omega) (by omega),sb,ym];have hdl:(b.drop p).length=b.length - p:=by simp
  rcases zwT (b.drop p) with ⟨c,ht,hc⟩| ⟨n,w,k,ht,hr,k1,k2,k3,hrd⟩
  ·have e:rec5 (b.drop p)= .inl c:=by unfold rec5;rw [ht,xu (by simp only;omega)]
   rw [e,ht,uy];rfl
  ·obtain ⟨k,rfl⟩:∃j:Nat,k=j:=⟨k.toNat,by omega⟩
   have e:rec5 (b.drop p)=match zhV w k ((b.drop p).drop k) with
    | .inl c=> .inl c
    | .inr p=> .inr (n,w,p.1,p.2):=by unfold rec5;rw [ht];simp
   have hdd:(b.drop p).drop k=b.drop (p+k):=by rw [qI]
   have hml:(b.drop (p+k)).length=b.length - (p+k):=by simp
   obtain ⟨h1,h2,h3,h4,h5,h6,h7⟩:=zkH (b.drop (p+k));rw [e,ht,itF (by simp),hdd];have ew:IntKind.i64.wrap ((p:Int)+k)=((p+k:Nat):Int):=by rw [uA];push_cast;rfl
   have er:IntKind.i64.wrap ((b.length:Int) - ((p+k:Nat):Int))=((b.length - (p+k):Nat):Int):=by rw [uA];omega
   simp only [ew,er];have hw:=(zwS.1 hr).2.2;rcases hw with rfl| rfl| rfl| rfl
   ·-- a varint
    rw [itF (by rfl),sb,itT (by rfl),zCv b (p+k) (by omega) (by omega),sb];by_cases g:(rd (b.drop (p+k))).2.2=0
    ·have:=h7 g;have hb5:zhV 0 k (b.drop (p+k))= .inr (k,k+(rd (b.drop (p+k))).2.1.toNat):=by unfold zhV;rw [xu rfl,xt (by simpa using g)]
     rw [itF (by simpa using g),sb,hb5];simp only;rw [itF (by rfl),sb];simp only;rw [uz,uA];simp;omega
    ·have hb5:zhV 0 k (b.drop (p+k))= .inl (rd (b.drop (p+k))).2.2:=by unfold zhV;rw [xu rfl,xu g]
     rw [itT (by simpa using g),sb,hb5];rfl
   ·rw [itF (by rfl),sb,itF (by rfl),sb];simp only;rw [itF (by rfl),sb];unfold zhV;rw [xt (by omega),xt (by omega)];simp only;by_cases g:b.length - (p+k)<8
    ·rw [uy,xu (by simpa [hml] using g)];rfl
    ·rw [uz,xt (by simpa [hml] using g),uA];simp;omega
   ·rw [itF (by rfl),sb,itF (by rfl),sb];simp only;rw [itT (by rfl),zCv b (p+k) (by omega) (by omega),sb];by_cases g:(rd (b.drop (p+k))).2.2=0
    ·have:=h7 g;have e1:IntKind.i64.wrap (((b.length - (p+k):Nat):Int) - (rd (b.drop (p+k))).2.1)=((b.drop (p+k)).length:Int) - (rd (b.drop (p+k))).2.1:=by rw [uA,hml]
     have e2:IntKind.u64.wrap (((b.drop (p+k)).length:Int) - (rd (b.drop (p+k))).2.1)=((b.drop (p+k)).length:Int) - (rd (b.drop (p+k))).2.1:=by rw [zjz,ph (by omega) (by omega)]
     rw [itF (by simpa using g)];simp only [e1,e2];by_cases g2:((b.drop (p+k)).length:Int) - (rd (b.drop (p+k))).2.1<(rd (b.drop (p+k))).1
     ·have hb5:zhV 2 k (b.drop (p+k))= .inl 3:=by unfold zhV;rw [xt (by omega),xu rfl,xt (by simpa using g),xu g2]
      rw [itT (by simpa using g2),sb,hb5];rfl
     ·have hb5:zhV 2 k (b.drop (p+k))= .inr (k+(rd (b.drop (p+k))).2.1.toNat,k+(rd (b.drop (p+k))).2.1.toNat+(rd (b.drop (p+k))).1.toNat):=by
       unfold zhV;rw [xt (by omega),xu rfl,xt (by simpa using g),xt g2]
      rw [itF (by simpa using g2),sb,hb5];simp only;rw [zr (x:=(rd (b.drop (p+k))).1) (by omega),itF (by simpa using g2),zr (x:=((p+k:Nat):Int)+(rd (b.drop (p+k))).2.1) (by omega),uA];simp;omega
    ·have hb5:zhV 2 k (b.drop (p+k))= .inl (rd (b.drop (p+k))).2.2:=by unfold zhV;rw [xt (by omega),xu rfl,xu g]
     rw [itT (by simpa using g),sb,hb5];rfl
   ·rw [itT (by rfl),sb,itF (by rfl),sb];simp only;rw [itF (by rfl),sb];unfold zhV;rw [xt (by omega),xt (by omega)];simp only;by_cases g:b.length - (p+k)<4
    ·rw [uy,xu (by simpa [hml] using g)];rfl
    ·rw [uz,xt (by simpa [hml] using g),uA];simp;omega
def spl (base:Nat) (l:List UInt8):List Rec×Option (Nat×Int):=
 if hl:l=[] then ([],none) else match h:rec5 l with
  | .inl c=>([],some (base,c))
  | .inr (n,w,a,t)=>(⟨n,w,base,(base+a:Nat),(base+t:Nat)⟩::(spl (base+t) (l.drop t)).1,(spl (base+t) (l.drop t)).2)
termination_by l.length
decreasing_by
 all_goals
  rcases zCr l with ⟨c',h',_⟩| ⟨n',w',k',a',t',h',_,_,_,g1,g2,g3,g4,g5,_⟩
  ·rw [h'] at h;cases h
  ·rw [h'] at h;cases h;simp only [yu];omega
def zJp (w:Int) (v:List UInt8):Bool:=
 if w=0 then decide ((rd v).2.2=0/\(rd v).2.1=v.length) else decide (w=2\/w=1/\v.length=8\/w=5/\v.length=4)
theorem zFP :kNum k=true↔1<=k/\k<=14:=by simp [kNum]
def zDI (k:Int) (l:List UInt8):Int⊕Nat:=
 if k<9 then (if (rd l).2.2≠0 then .inl (rd l).2.2 else .inr (rd l).2.1.toNat) else if l.length<(if k<12 then 4 else 8) then .inl 3 else .inr (if k<12 then 4 else 8)
theorem zBm (k:Int) (l:List UInt8):(∃c,zDI k l= .inl c/\(c=3\/c=4))\/∃n,zDI k l= .inr n/\1<=n/\n<=l.length/\n<=10/\(k<9/\(rd l).2.2=0/\(rd l).2.1=(n:Int)\/¬k<9/\n=(if k<12 then 4 else 8)):=by
 obtain ⟨h1,h2,h3,h4,h5,h6,h7⟩:=zkH l;unfold zDI;by_cases h:k<9
 ·rw [xu h];by_cases h0:(rd l).2.2=0
  ·have:=h7 h0;rw [xt (by simpa using h0)];exact .inr ⟨_,rfl,by omega,by omega,by omega,.inl ⟨h,h0,by omega⟩⟩
  ·rw [xu h0];exact .inl ⟨_,rfl,by omega⟩
 ·rw [xt h];by_cases h8:l.length<(if k<12 then 4 else 8)
  ·rw [xu h8];exact .inl ⟨_,rfl,by omega⟩
  ·rw [xt h8];exact .inr ⟨_,rfl,by split<;>omega,by omega,by split<;>omega,.inr ⟨h,rfl⟩⟩
def pcs (k:Int) (l:List UInt8):List (List UInt8)×Int:=
 if hl:l=[] then ([],0) else match h:zDI k l with
  | .inl c=>([],c)
  | .inr n=>(l.take n::(pcs k (l.drop n)).1,(pcs k (l.drop n)).2)
termination_by l.length
decreasing_by
 all_goals
  rcases zBm k l with ⟨c',h',_⟩| ⟨n',h',g1,g2,_⟩
  ·rw [h'] at h;cases h
  ·rw [h'] at h;cases h;simp only [yu];omega
def ends (base:Nat):List (List UInt8)->List Int
 | []=>[]
 | p::ps=>((base+p.length:Nat):Int)::ends (base+p.length) ps
def zFn (k:Int) (b:List UInt8):List Int×Int:=if kNum k=false then ([],2) else if (pcs k b).2=0 then (ends 0 (pcs k b).1,0) else ([],(pcs k b).2)
def zaI (m:Mes) (i:Int):Fld:=m.Fields.getD i.toNat ⟨[],0,0,false,false,0⟩
def vw (m:Mes) (n w:Int):Int⊕(Int×Bool):=
 if fldI m n<0 then .inr (-1,false)
 else if (zaI m (fldI m n)).Repeated=true/\kNum (zaI m (fldI m n)).Kind=true/\w=2 then .inr (fldI m n,true)
 else if zfd (zaI m (fldI m n)).Kind=false\/zxS (zaI m (fldI m n)).Kind≠w then .inl 6 else .inr (fldI m n,false)
theorem zoX (m:Mes) (n:Int):fldI m n= -1/\(∀f∈m.Fields,f.Number≠n)\/∃(i:Nat) (h:i<m.Fields.length),fldI m n=i/\m.Fields[i].Number=n/\∀(j:Nat) (h:j<m.Fields.length),j<i->m.Fields[j].Number≠n:=by
 unfold fldI;cases h:m.Fields.findIdx? (fun f:Fld=>f.Number==n) with
 | none=>
  left;rw [pz] at h;exact ⟨znb (pz.2 h),fun f hf=>by simpa using h f hf⟩
 | some i=>
  right;have h':=h;rw [pA] at h;obtain ⟨hi,hp,hj⟩:=h;exact ⟨i,hi,znc h',by simpa using hp,fun j hjl hji=>by simpa using hj j hji⟩
theorem zvN {m:Mes} {i:Nat} (h:i<m.Fields.length):zaI m (i:Int)=m.Fields[i]:=by
 unfold zaI;rw [ym,qL,xF h];rfl
def zaC (s:List Mes) (i:Int):Mes:=s.getD i.toNat ⟨[],[]⟩
theorem zjs {s:List Mes} {i:Nat} (h:i<s.length):zaC s (i:Int)=s[i]:=by
 unfold zaC;rw [ym,qL,xF h];rfl
def valB (b:List UInt8) (r:Rec):List UInt8:=(b.drop r.At.toNat).take (r.To.toNat - r.At.toNat)
abbrev zET:=Option (Int->List UInt8->Option (Int×Int))
def zIL (f:Fld) (run:Bool) (sub:zET) (r:Rec) (v:List UInt8):Option (Int×Int):=
 if run=true then (if (zFn f.Kind v).2≠0 then some (r.From,(zFn f.Kind v).2) else none)
 else if f.Kind=15/\zlx v=false then some (r.From,7)
 else if f.Kind=17 then (match sub with
  | none=>some (r.From,8)
  | some g=>match g f.Of v with
   | some (p,c)=>some (r.At+p,c)
   | none=>none)
 else none
def zJc (m:Mes) (sub:zET) (b:List UInt8) (r:Rec):Option (Int×Int):=match vw m r.Number r.Wire with
 | .inl c=>some (r.From,c)
 | .inr (i,run)=>if i<0 then none else zIL (zaI m i) run sub r (valB b r)
def zFu (m:Mes) (sub:zET) (b:List UInt8) (x:List Rec×Option (Nat×Int)):Option (Int×Int):=match x.1.findSome? (zJc m sub b) with
 | some p=>some p
 | none=>x.2.map fun p=>((p.1:Int),p.2)
def zyK (s:List Mes):Nat->Int->List UInt8->Option (Int×Int)
 | 0,k,b=>zFu (zaC s k) none b (spl 0 b)
 | d+1,k,b=>zFu (zaC s k) (some (zyK s d)) b (spl 0 b)
def argS (s:List Mes) (root d:Int):Int:=if zgo s=false then 9 else if root<0\/root>=s.length\/d<0\/d>64 then 2 else 0
theorem zDO (h:argS s root d=0):zls s/\0<=root/\root<s.length/\0<=d/\d<=64:=by
 unfold argS at h;split at h
 ·omega
 ·rename_i h1;split at h
  ·omega
  ·rename_i h2;exact ⟨zym (by simpa using h1),by omega⟩
abbrev zB:=List Int
def begB (way w:zB):Bool:=w.isPrefixOf way
theorem zjW {way w:zB}:begB way w=true↔w<+:way:=List.isPrefixOf_iff_prefix
theorem zzo {way w:zB} (hb:way.length<=1152921504606846976):zeE way w=some (begB way w):=by
 unfold zeE;by_cases hl:w.length<=way.length
 ·rw [itT (by simpa using hl),zme rfl hl,sb,zCs (by simp;omega),sb,sb];congr 1;rw [yy,zjW,xK,uf];exact ⟨fun h=>h.symm,fun h=>h.symm⟩
 ·rw [itF (by simpa using hl),sb];congr 1
  symm
  rw [<-qv,zjW];exact fun h=>hl h.length_le
def zbK:zB->zB->Bool
 | [],b=> !b.isEmpty
 | _::_,[]=>false
 | x::a,y::b=>if x=y then zbK a b else decide (x<y)
theorem zCw {a b:zB} (ha:a.length<=1152921504606846976):zgN a b=some (zbK a b):=by
 have key:∀(d i:Nat),i+d=a.length->∃r,zda a b i=some r/\(match r with| .inl _=>decide ((a.length:Int)<(b.length:Int))| .inr x=>x)=zbK (a.drop i) (b.drop i):=by
  have stop:∀i:Nat,¬(i<a.length/\i<b.length)->i<=a.length->(i=0\/i<=b.length)->zda a b i=some (.inl ())/\decide ((a.length:Int)<(b.length:Int))=zbK (a.drop i) (b.drop i):=by
   intro i h ha' hb';refine ⟨zfh ?_,?_⟩
   ·unfold zaB;rw [uz]
   ·by_cases hi:i<a.length
    ·have hd:b.drop i=[]:=xR (by omega);rw [hd,xL hi,zbK];have:¬((a.length:Int)<(b.length:Int)):=by omega
     simp [this]
    ·have hd:a.drop i=[]:=xR (by omega);rw [hd,zbK];by_cases hlt:a.length<b.length
     ·have h1:((a.length:Int)<(b.length:Int)):=by omega
      have h2:b.drop i≠[]:=by intro h;have:=congrArg List.length h;simp at this;omega
      cases hbd:b.drop i with
      | nil=>exact absurd hbd h2
      | cons=>simp [h1]
     ·have h1:¬((a.length:Int)<(b.length:Int)):=by omega
      have h2:b.drop i=[]:=xR (by omega);simp [h1,h2]
  intro d
  induction d with
  | zero=>
   intro i hi;by_cases hb:i<=b.length
   ·obtain ⟨h1,h2⟩:=stop i (by omega) (by omega) (.inr hb);exact ⟨_,h1,h2⟩
   ·-- b is shorter: the loop ended zBD
    refine ⟨.inl (),zfh ?_,?_⟩
    ·unfold zaB;rw [uz]
    ·have h1:¬((a.length:Int)<(b.length:Int)):=by omega
     have h2:b.drop i=[]:=xR (by omega);have h3:a.drop i=[]:=xR (by omega);simp [h1,h2,h3,zbK]
  | succ d ih=>
   intro i hi;have hia:i<a.length:=by omega
   by_cases hib:i<b.length
   ·have hb:zaB a b i=if a[i]=b[i] then some (.inl ((i+1:Nat):Int)) else some (.inr (.inr (decide (a[i]<b[i])))):=by
     unfold zaB;rw [uy,zH rfl hia,sb,zH rfl hib,sb,sb,sb,uA];by_cases h:a[i]=b[i]
     ·rw [itF (by simp [h]),xu h];push_cast;rfl
     ·rw [itT (by simp [h]),xt h]
    rw [xL hia,xL hib,zbK];by_cases h:a[i]=b[i]
    ·rw [xu h] at hb;obtain ⟨r,h1,h2⟩:=ih (i+1) (by omega);exact ⟨r,by rw [znD hb];exact h1,by rw [xu h];exact h2⟩
    ·rw [xt h] at hb;exact ⟨_,zfh hb,by rw [xt h]⟩
   ·refine ⟨.inl (),zfh ?_,?_⟩
    ·unfold zaB;rw [uz]
    ·have h1:¬((a.length:Int)<(b.length:Int)):=by omega
     have h2:b.drop i=[]:=xR (by omega);rw [h2,xL hia,zbK];simp [h1]
 obtain ⟨r,h1,h2⟩:=key a.length 0 (by omega);have h1':zda a b 0=some r:=h1;unfold zgN;rw [h1',sb];rw [xQ,xQ] at h2;cases r with
 | inl _=>simp only at h2|-;rw [h2]
 | inr x=>simp only at h2|-;rw [h2]
theorem ziP:∀(a:zB),zbK a a=false
 | []=>rfl
 | x::a=>by rw [zbK,xu rfl,ziP a]
theorem zng:∀(a b c:zB),zbK a b=true->zbK b c=true->zbK a c=true
 | [],b,c,h1,h2=>by
  cases c with
  | nil=>cases b<;>simp [zbK] at h2
  | cons=>rfl
 | _::_,[],_,h1,_=>by simp [zbK] at h1
 | _::_,_::_,[],_,h2=>by simp [zbK] at h2
 | x::a,y::b,z::c,h1,h2=>by
  rw [zbK] at h1 h2|-;by_cases hxy:x=y
  ·rw [xu hxy] at h1;by_cases hyz:y=z
   ·rw [xu hyz] at h2;rw [xu (hxy.trans hyz)];exact zng a b c h1 h2
   ·rw [xt hyz] at h2;rw [xt (by rw [hxy];exact hyz),hxy];exact h2
  ·rw [xt hxy] at h1;have h1':x<y:=by simpa using h1
   by_cases hyz:y=z
   ·rw [xt (by rw [<-hyz];exact hxy),<-hyz];exact h1
   ·rw [xt hyz] at h2;have h2':y<z:=by simpa using h2
    rw [xt (by omega)];simp;omega
theorem zuw:∀(a b:zB),a≠b->zbK a b=true\/zbK b a=true
 | [],[],h=>absurd rfl h
 | [],_::_,_=> .inl rfl
 | _::_,[],_=> .inr rfl
 | x::a,y::b,h=>by
  rw [zbK,zbK];by_cases hxy:x=y
  ·rw [xu hxy,xu hxy.symm];exact zuw a b (fun e=>h (by rw [hxy,e]))
  ·rw [xt hxy,xt (fun e=>hxy e.symm)];rcases Int.lt_or_gt_of_ne hxy with h'| h'
   ·left;simpa using h'
   ·right;simpa using h'
theorem zAw {a b:zB} (h:zbK a b=true):zbK b a=false:=by
 cases hb:zbK b a with
 | false=>rfl
 | true=>have:=zng a b a h hb;rw [ziP] at this;cases this
theorem zqO:∀(l k:List zB),l.Pairwise (fun a b=>zbK a b=true)->k.Pairwise (fun a b=>zbK a b=true)->(∀w,w∈l↔w∈k)->l=k
 | [],[],_,_,_=>rfl
 | [],y::k,_,_,h=>absurd ((h y).2 xw) (by simp)
 | x::l,[],_,_,h=>absurd ((h x).1 xw) (by simp)
 | x::l,y::k,hl,hk,h=>by
  have hl':=yn.1 hl;have hk':=yn.1 hk;have hxy:x=y:=by
   rcases xz.1 ((h x).1 xw) with h1| h1
   ·exact h1
   ·rcases xz.1 ((h y).2 xw) with h2| h2
    ·exact h2.symm
    ·have a1:=hk'.1 x h1;have a2:=hl'.1 y h2;rw [zAw a1] at a2;cases a2
  subst hxy;congr 1;refine zqO l k hl'.2 hk'.2 fun w=>?_
  have nl:x∉l:=fun hm=>by have:=hl'.1 x hm;rw [ziP] at this;cases this
  have nk:x∉k:=fun hm=>by have:=hk'.1 x hm;rw [ziP] at this;cases this
  have:=h w;simp only [xz] at this;constructor
  ·intro hw;rcases this.1 (.inr hw) with rfl| h'
   ·exact absurd hw nl
   ·exact h'
  ·intro hw;rcases this.2 (.inr hw) with rfl| h'
   ·exact absurd hw nk
   ·exact h'
def zuD (ways:List zB) (i:Nat) (w:zB) (k:Nat) (v:zB):Bool:=decide (k≠i)&& !v.isEmpty&&begB w v&&(decide (v.length<w.length)|| decide (k<i))
def badW (ways:List zB) (i:Nat) (w:zB):Nat->List zB->Bool
 | _,[]=>false
 | k,v::l=>zuD ways i w k v|| badW ways i w (k+1) l
def insL (w:zB) (out:List zB):List zB:=out.takeWhile (fun x=>zbK x w)++w::out.dropWhile (fun x=>zbK x w)
def ofK (ways:List zB):Nat->List zB
 | 0=>[]
 | i+1=>match ways[i]? with
  | some w=>if !w.isEmpty&& !badW ways i w 0 ways then insL w (ofK ways i) else ofK ways i
  | none=>ofK ways i
def ofW (ways:List zB):List zB:=ofK ways ways.length
theorem zFD {w x:zB} {out:List zB}:x∈insL w out↔x=w\/x∈out:=by
 unfold insL;have hs:out.takeWhile (fun x=>zbK x w)++out.dropWhile (fun x=>zbK x w)=out:=pI;constructor
 ·intro h;rcases xC.1 h with h| h
  ·exact .inr (by rw [<-hs];exact xX _ h)
  ·rcases xz.1 h with h| h
   ·exact .inl h
   ·exact .inr (by rw [<-hs];exact xY _ h)
 ·intro h;rcases h with rfl| h
  ·exact xY _ xw
  ·rw [<-hs] at h;rcases xC.1 h with h| h
   ·exact xX _ h
   ·exact xY _ (xx _ h)
theorem zCC {w:zB}:∀{l:List zB},∀x∈l.takeWhile (fun x=>zbK x w),zbK x w=true:=by
 intro l
 induction l with
 | nil=>intro x hx;simp at hx
 | cons y l ih=>
  intro x hx;rw [List.takeWhile_cons] at hx;by_cases hy:zbK y w=true
  ·rw [xu hy] at hx;rcases xz.1 hx with rfl| hx
   ·exact hy
   ·exact ih x hx
  ·rw [xt hy] at hx;cases hx
theorem zBS {w:zB}:∀{l:List zB},l.Pairwise (fun a b=>zbK a b=true)->(w∉l)->∀x∈l.dropWhile (fun x=>zbK x w),zbK w x=true:=by
 intro l
 induction l with
 | nil=>intro _ _ x hx;simp at hx
 | cons y l ih=>
  intro hp hn x hx;rw [List.dropWhile_cons] at hx;have hp':=yn.1 hp;by_cases hy:zbK y w=true
  ·rw [xu hy] at hx;exact ih hp'.2 (fun h=>hn (xx _ h)) x hx
  ·rw [xt hy] at hx;have hwy:zbK w y=true:=by
    rcases zuw w y (fun e=>hn (by rw [e];exact xw)) with h| h
    ·exact h
    ·exact absurd h hy
   rcases xz.1 hx with rfl| hx
   ·exact hwy
   ·exact zng _ _ _ hwy (hp'.1 x hx)
theorem zAk {w:zB} {out:List zB} (hs:out.Pairwise (fun a b=>zbK a b=true)) (hn:w∉out):(insL w out).Pairwise (fun a b=>zbK a b=true):=by
 unfold insL;have hsp:out.takeWhile (fun x=>zbK x w)++out.dropWhile (fun x=>zbK x w)=out:=pI;have hp:(out.takeWhile (fun x=>zbK x w)++out.dropWhile (fun x=>zbK x w)).Pairwise (fun a b=>zbK a b=true):=by rw [hsp];exact hs
 rw [List.pairwise_append] at hp|-;have ht:=zCC (w:=w) (l:=out);have hd:=zBS hs hn;refine ⟨hp.1,yn.2 ⟨hd,hp.2.1⟩,fun a ha b hb=>?_⟩;rcases xz.1 hb with rfl| hb
 ·exact ht a ha
 ·exact hp.2.2 a ha b hb
theorem zzP {ways:List zB} {i:Nat} {w:zB}:∀(l:List zB) (k:Nat),badW ways i w k l=true↔∃j v,l[j]? =some v/\zuD ways i w (k+j) v=true
 | [],k=>by simp [badW]
 | v::l,k=>by
  rw [badW,qc,zzP l (k+1)];constructor
  ·rintro (h| ⟨j,u,h1,h2⟩)
   ·exact ⟨0,v,rfl,by simpa using h⟩
   ·exact ⟨j+1,u,by simpa using h1,by rw [show k+(j+1)=k+1+j by omega];exact h2⟩
  ·rintro ⟨j,u,h1,h2⟩;cases j with
   | zero=>left;simp at h1;subst h1;simpa using h2
   | succ j=>right;exact ⟨j,u,by simpa using h1,by rw [show k+1+j=k+(j+1) by omega];exact h2⟩
def zvu (ways:List zB) (w:zB):Prop:=w∈ways/\w≠[]/\∀v∈ways,v≠[]->v<+:w->v=w
theorem zvR {ways:List zB} {i:Nat} {w:zB} (hi:ways[i]? =some w):(!w.isEmpty&& !badW ways i w 0 ways)=true↔zvu ways w/\∀j<i,ways[j]? ≠some w:=by
 rw [xy,yh,yh,<-qv,<-qv,zzP];have hw:w∈ways:=qn hi;have hok:∀(k:Nat) (v:zB),zuD ways i w k v=true↔k≠i/\v≠[]/\v<+:w/\(v.length<w.length\/k<i):=by
  intro k v;unfold zuD;simp only [xy,qc,xK,zjW,yh,qw];constructor
  ·rintro ⟨⟨⟨h1,h2⟩,h3⟩,h4⟩;exact ⟨h1,h2,h3,h4⟩
  ·rintro ⟨h1,h2,h3,h4⟩;exact ⟨⟨⟨h1,h2⟩,h3⟩,h4⟩
 constructor
 ·rintro ⟨h1,h2⟩;refine ⟨⟨hw,by simpa using h1,fun v hv hv0 hp=>?_⟩,fun j hj hje=>?_⟩
  ·obtain ⟨k,hk,rfl⟩:=yX hv;rcases yT (ways[k]).length w.length with hl| hl
   ·exfalso;refine h2 ⟨k,ways[k],xF hk,(hok _ _).2 ⟨fun e=>?_,hv0,hp,.inl hl⟩⟩;rw [xD] at e;subst e;rw [xF hk] at hi;cases hi;omega
   ·exact hp.eq_of_length (by have:=hp.length_le;omega)
  ·refine h2 ⟨j,w,hje,(hok _ _).2 ⟨by omega,by simpa using h1,qx w,.inr (by omega)⟩⟩
 ·rintro ⟨⟨_,h1,h2⟩,h3⟩;refine ⟨by simpa using h1,?_⟩;rintro ⟨k,v,hk,hv⟩;rw [xD] at hv;obtain ⟨g1,g2,g3,g4⟩:=(hok _ _).1 hv;have:=h2 v (qn hk) g2 g3;subst this;rcases g4 with g4| g4
  ·omega
  ·exact h3 k g4 hk
theorem zvk {ways:List zB}:∀(i:Nat),i<=ways.length->∀w,w∈ofK ways i↔zvu ways w/\∃j<i,ways[j]? =some w
 | 0,_,w=>by simp [ofK]
 | i+1,hi,w=>by
  have hil:i<ways.length:=hi;have ih:=zvk (ways:=ways) i (Nat.le_of_lt hil) w;obtain ⟨u,hg⟩:∃u,ways[i]? =some u:=⟨ways[i],xF hil⟩;rw [ofK,hg];simp only;by_cases hu:(!u.isEmpty&& !badW ways i u 0 ways)=true
  ·rw [xu hu,zFD,ih];obtain ⟨h1,h2⟩:=(zvR hg).1 hu;constructor
   ·rintro (rfl| ⟨h3,j,hj,hje⟩)
    ·exact ⟨h1,i,by omega,hg⟩
    ·exact ⟨h3,j,by omega,hje⟩
   ·rintro ⟨h3,j,hj,hje⟩;by_cases hji:j=i
    ·subst hji;rw [hg] at hje;cases hje;exact .inl rfl
    ·exact .inr ⟨h3,j,by omega,hje⟩
  ·rw [xt hu,ih];constructor
   ·rintro ⟨h3,j,hj,hje⟩;exact ⟨h3,j,by omega,hje⟩
   ·rintro ⟨h3,j,hj,hje⟩;by_cases hji:j=i
    ·subst hji;rw [hg] at hje;cases hje
     -- it stood there zBD
     have hn:¬∀k<j,ways[k]? ≠some w:=fun hk=>hu ((zvR hg).2 ⟨h3,hk⟩)
     simp only [Classical.not_forall,Classical.not_not] at hn;obtain ⟨k,hk,hke⟩:=hn;exact ⟨h3,k,hk,hke⟩
    ·exact ⟨h3,j,by omega,hje⟩
theorem zkP {ways:List zB} {w:zB}:w∈ofW ways↔zvu ways w:=by
 unfold ofW;rw [zvk _ (xA _)];refine ⟨fun h=>h.1,fun h=>⟨h,?_⟩⟩;obtain ⟨j,hj,rfl⟩:=yX h.1;exact ⟨j,hj,xF hj⟩
theorem zwp {ways:List zB}:∀(i:Nat),i<=ways.length->(ofK ways i).Pairwise (fun a b=>zbK a b=true)
 | 0,_=> .nil
 | i+1,hi=>by
  have hil:i<ways.length:=hi;have ih:=zwp (ways:=ways) i (Nat.le_of_lt hil);obtain ⟨u,hg⟩:∃u,ways[i]? =some u:=⟨ways[i],xF hil⟩;rw [ofK,hg];simp only;by_cases hu:(!u.isEmpty&& !badW ways i u 0 ways)=true
  ·rw [xu hu];obtain ⟨h1,h2⟩:=(zvR hg).1 hu;refine zAk ih fun hm=>?_
   obtain ⟨_,j,hj,hje⟩:=(zvk i (by omega) u).1 hm;exact h2 j hj hje
  ·rw [xt hu];exact ih
theorem zpe (ways:List zB):(ofW ways).Pairwise (fun a b=>zbK a b=true):=zwp _ (xA _)
theorem zvj {ways:List zB}:∀(i:Nat),(ofK ways i).length<=i
 | 0=>xA _
 | i+1=>by
  have ih:=zvj (ways:=ways) i;rw [ofK];split
  ·split
   ·unfold insL;have hs:∀(p:zB->Bool),((ofK ways i).takeWhile p).length+((ofK ways i).dropWhile p).length=(ofK ways i).length:=fun p=>by rw [<-ye,pI]
    rename_i w _ _;have:=hs (fun x=>zbK x w);simp only [ye,yj];omega
   ·omega
  ·omega
theorem zzh (ways:List zB):(ofW ways).length<=ways.length:=zvj _
def hasB (ways:List zB) (way:zB):Bool:=ways.any fun v=> !v.isEmpty&&begB way v
theorem zfO {ways:List zB} {way:zB}:hasB ways way=true↔∃v∈ways,v≠[]/\v<+:way:=by
 unfold hasB;rw [pt];constructor
 ·rintro ⟨v,hv,h⟩;simp only [xy,zjW,yh,qw] at h;exact ⟨v,hv,h.1,h.2⟩
 ·rintro ⟨v,hv,h1,h2⟩;exact ⟨v,hv,by simp only [xy,zjW,yh,qw];exact ⟨h1,h2⟩⟩
theorem zAI {a b:List zB} (h:∀way,hasB a way=hasB b way):ofW a=ofW b:=by
 have half:∀{a b:List zB},(∀way,hasB a way=hasB b way)->∀w,zvu a w->zvu b w:=by
  intro a b h w hw;have h1:hasB b w=true:=by rw [<-h];exact zfO.2 ⟨w,hw.1,hw.2.1,qx w⟩
  obtain ⟨v,hv,hv0,hvp⟩:=zfO.1 h1;have h2:hasB a v=true:=by rw [h];exact zfO.2 ⟨v,hv,hv0,qx v⟩
  obtain ⟨u,hu,hu0,hup⟩:=zfO.1 h2;have huw:=hw.2.2 u hu hu0 (hup.trans hvp);have hvw:v=w:=by
   subst huw;exact hvp.eq_of_length (by have:=hvp.length_le;have:=hup.length_le;omega)
  subst hvw;refine ⟨hv,hv0,fun x hx hx0 hxp=>?_⟩;have h3:hasB a x=true:=by rw [h];exact zfO.2 ⟨x,hx,hx0,qx x⟩
  obtain ⟨y,hy,hy0,hyp⟩:=zfO.1 h3;have:=hw.2.2 y hy hy0 (hyp.trans hxp);subst this;exact hxp.eq_of_length (by have:=hyp.length_le;have:=hxp.length_le;omega)
 exact zqO _ _ (zpe a) (zpe b) fun w=>by rw [zkP,zkP];exact ⟨half h w,half (fun way=>(h way).symm) w⟩
def WW (ways:List zB):Prop:=ways.length<=5864062014634/\∀w∈ways,w.length<=17592186043904
theorem zGo {ways:List zB} (hw:WW ways) {i:Nat} {w:zB} (hi:∃h:i<ways.length,ways[i]=w):∀(t:List zB) (k:Nat) (ok:Bool),ways.drop k=t->zfa i ways ok k=some (ok&& !badW ways i w k t):=by
 obtain ⟨hil,hie⟩:=hi;have e1:idx ways (i:Int)=some w:=by rw [zH rfl hil,hie]
 have hwl:=hw.2 w (by rw [<-hie];exact xB hil);have hwc:=hw.1;intro t
 induction t with
 | nil=>
  intro k ok hd;have:=zcH hd;refine (zoS (oo_:=ok) ?_).trans ?_
  ·unfold zbH;rw [uz]
  ·simp [badW]
 | cons v t ih=>
  intro k ok hd;obtain ⟨hk,hv,hd'⟩:=zbZ hd;have e2:idx ways (k:Int)=some v:=by rw [zH rfl hk,hv]
  have hb:zbH i ways ok k=if zuD ways i w k v=true then some (.inl (false,((k+1:Nat):Int))) else some (.inl (ok,((k+1:Nat):Int))):=by
   have hg:(if ((k:Int) !=(i:Int))=true then (idx ways (k:Int)>>=fun x2=>if (decide ((x2.length:Int)>0))=true then (idx ways (i:Int)>>=fun x3=>idx ways (k:Int)>>=fun x4=>zeE x3 x4>>=fun rv=>
     if rv=true then (idx ways (k:Int)>>=fun x5=>idx ways (i:Int)>>=fun x6=>if (decide ((x5.length:Int)<(x6.length:Int)))=true then some true else some (decide ((k:Int)<(i:Int)))) else some false) else some false) else some false)=some (zuD ways i w k v):=by
    unfold zuD;by_cases h1:k=i
    ·rw [itF (by simp [h1])];simp [h1]
    ·rw [uy,e2,sb];cases v with
     | nil=>rw [itF (by simp)];simp
     | cons y v=>
      rw [itT (by simp),e1,sb,sb,zzo (by omega),sb];cases hbg:begB w (y::v)
      ·rw [itF rfl];simp
      ·rw [itT rfl,sb,sb];by_cases h2:(y::v).length<w.length
       ·rw [itT (xU (by omega))];have:decide ((y::v).length<w.length)=true:=xU h2;rw [this];simp [h1]
       ·rw [itF (ya (by omega))];have:decide ((y::v).length<w.length)=false:=ya h2;rw [this];simp [h1]
   unfold zbH;rw [uy,hg,sb,uA];push_cast;rfl
  rw [badW];cases ho:zuD ways i w k v
  ·rw [ho,xt (by simp)] at hb;rw [zjX hb,ih _ _ hd',qi]
  ·rw [ho,xu rfl] at hb;rw [zjX hb,ih _ _ hd'];simp
theorem zGp {ways out:List zB} (hw:WW ways) (ho:WW out) {i:Nat} {w:zB} (hi:∃h:i<ways.length,ways[i]=w):∀(t:List zB) (k:Nat),out.drop k=t->k<=out.length->
  zfb i out ways k=some ((k+(t.takeWhile (fun x=>zbK x w)).length:Nat):Int):=by
 obtain ⟨hil,hie⟩:=hi;have e1:idx ways (i:Int)=some w:=by rw [zH rfl hil,hie]
 have hoc:=ho.1;intro t
 induction t with
 | nil=>
  intro k hd hk;have:=zcH hd;refine zjY ?_;unfold zbI;rw [uz,sb,itF rfl];simp
 | cons v t ih=>
  intro k hd hk;obtain ⟨hkl,hv,hd'⟩:=zbZ hd;have e2:idx out (k:Int)=some v:=by rw [zH rfl hkl,hv]
  have hvl:=ho.2 v (by rw [<-hv];exact xB hkl);have hb:zbI i out ways k=if zbK v w=true then some (.inl ((k+1:Nat):Int)) else some (.inr (k:Int)):=by
   unfold zbI;rw [uy,e2,sb,e1,sb,zCw (by omega),sb,sb,uA];push_cast;rfl
  rw [List.takeWhile_cons];by_cases h:zbK v w=true
  ·rw [xu h] at hb;rw [zoT hb,ih _ hd' (by omega),xu h,yj];congr 2;omega
  ·rw [xt h] at hb;rw [zjY hb,xt h];simp
theorem zCu {ways:List zB} (hw:WW ways):zhX ways=some (ofW ways):=by
 have hwc:=hw.1;have wwk:∀i,i<=ways.length->WW (ofK ways i):=fun i hi=>⟨by have:=zvj (ways:=ways) i;omega,fun w hm=>hw.2 w ((zvk i hi w).1 hm).1.1⟩
 have key:∀(d i:Nat),i+d=ways.length->zeZ ways (ofK ways i) i=some (ofW ways):=by
  intro d
  induction d with
  | zero=>
   intro i hi;have:i=ways.length:=by omega
   subst this;refine zoR ?_;unfold zcl;rw [itF (by simp)];rfl
  | succ d ih=>
   intro i hi;have hil:i<ways.length:=by omega
   obtain ⟨w,hwe⟩:∃w,ways[i]=w:=⟨_,rfl⟩;have e1:idx ways (i:Int)=some w:=by rw [zH rfl hil,hwe]
   have h2:=zGo hw (i:=i) (w:=w) ⟨hil,hwe⟩ ways 0 (!w.isEmpty) rfl;have h2':zfa i ways (!w.isEmpty) 0=_:=h2;have hke:=hw.2 w (by rw [<-hwe];exact xB hil);have hpos:decide ((w.length:Int)>0)= !w.isEmpty:=by cases w<;>simp
   have hol:=zvj (ways:=ways) i;have hk1:ofK ways (i+1)=if (!w.isEmpty&& !badW ways i w 0 ways)=true then insL w (ofK ways i) else ofK ways i:=by
    rw [ofK,xF hil,hwe]
   refine (zoQ (out':=ofK ways (i+1)) (i':=((i+1:Nat):Int)) ?_).trans (ih _ (by omega));unfold zcl;rw [uy,e1,sb,hpos,h2',sb,hk1];cases hg:(!w.isEmpty&& !badW ways i w 0 ways)
   ·rw [itT (c:= !false) rfl,xt (by simp),uA];push_cast;rfl
   ·rw [itF (c:= !true) rfl,xu rfl];have h3:=zGp hw (wwk i (by omega)) (i:=i) (w:=w) ⟨hil,hwe⟩ (ofK ways i) 0 rfl (xH _);have h3':zfb i (ofK ways i) ways 0=_:=h3;rw [xD] at h3';have hsp:(ofK ways i).takeWhile (fun x=>zbK x w)++(ofK ways i).dropWhile (fun x=>zbK x w)=ofK ways i:=pI;unfold insL
    generalize (ofK ways i).takeWhile (fun x=>zbK x w)=tk at h3' hsp|-
    generalize (ofK ways i).dropWhile (fun x=>zbK x w)=dk at hsp|-
    have hlen:tk.length+dk.length=(ofK ways i).length:=by rw [<-hsp,ye]
    have c1:cut (ofK ways i) 0 ((tk.length:Nat):Int)=some tk:=by rw [zme rfl (by omega),<-hsp,List.take_left]
    have c2:cut (ofK ways i) ((tk.length:Nat):Int) ((ofK ways i).length:Int)=some dk:=by rw [zqc rfl rfl (by omega),<-hsp,List.drop_left]
    rw [h3',sb,c1,sb,zfm (by simp;omega),sb,xW,sb,zfm (by simp;omega),sb,c2,sb,zfm (by simp;omega),sb,uA];simp
 unfold zhX;have h:=key ways.length 0 (by omega);have h':zeZ ways [] 0=_:=h;rw [h',sb]
def zey (m:List zB) (n:Int):Bool:=m.any fun v=>v==[n]
theorem zAU {m:List zB} (hw:WW m) (n:Int):zgl m n=some (zey m n):=by
 have hwc:=hw.1;have key:∀(t:List zB) (i:Nat),m.drop i=t->zdy m n i=some (if zey t n=true then .inr () else .inl ()):=by
  intro t
  induction t with
  | nil=>
   intro i hd;have:=zcH hd;refine zjb ?_;unfold zaQ;rw [uz];rfl
  | cons v t ih=>
   intro i hd;obtain ⟨hk,hv,hd'⟩:=zbZ hd;have e1:idx m (i:Int)=some v:=by rw [zH rfl hk,hv]
   have hb:zaQ m n i=if (v==[n])=true then some (.inr (.inr ())) else some (.inl ((i+1:Nat):Int)):=by
    unfold zaQ;rw [uy,e1,sb]
    match v with
    | []=>rw [itF (by rfl),sb,itF rfl,xt (by simp),uA];push_cast;rfl
    | [x]=>
     have e0:idx [x] 0=some x:=rfl;rw [itT (by rfl),sb,e0,sb,sb,uA];by_cases hx:x=n
     ·rw [itT (by simpa using hx),xu (by simp [hx])]
     ·rw [itF (by simpa using hx),xt (by simp [hx])];push_cast;rfl
    | x::y::v=>rw [uz,sb,itF rfl,xt (by simp),uA];push_cast;rfl
   have hh:zey (v::t) n=((v==[n])|| zey t n):=by unfold zey;rw [qr]
   rw [hh];cases hg:(v==[n])
   ·rw [hg,xt (by simp)] at hb;rw [zmT hb,ih _ hd',qi]
   ·rw [hg,xu rfl] at hb;rw [zjb hb];simp
 have h:=key m 0 rfl;have h':zdy m n 0=_:=h;unfold zgl;rw [h',sb];cases zey m n<;>rfl
def zkd (n:Int):zB->Option zB
 | x::y::v=>if x=n then some (y::v) else none
 | _=>none
def zem (m:List zB) (n:Int):List zB:=m.filterMap (zkd n)
theorem zAT {m:List zB} (hw:WW m) (n:Int):zgk m n=some (zem m n):=by
 have hwc:=hw.1;have key:∀(t:List zB) (i:Nat) (out:List zB),m.drop i=t->out.length<=i->zdx m n out i=some (out++zem t n):=by
  intro t
  induction t with
  | nil=>
   intro i out hd ho;have:=zcH hd;refine (zmS (oo_:=out) ?_).trans ?_
   ·unfold zaP;rw [uz]
   ·simp [zem]
  | cons v t ih=>
   intro i out hd ho;obtain ⟨hk,hv,hd'⟩:=zbZ hd;have e1:idx m (i:Int)=some v:=by rw [zH rfl hk,hv]
   have hb:zaP m n out i=some (.inl (out++(zkd n v).toList,((i+1:Nat):Int))):=by
    unfold zaP;rw [uy,e1,sb]
    match v with
    | []=>rw [itF (by rfl),sb,itF rfl,uA];simp [zkd]
    | [x]=>rw [itF (by rfl),sb,itF rfl,uA];simp [zkd]
    | x::y::v=>
     have e0:idx (x::y::v) 0=some x:=rfl;rw [uy,sb,e0,sb,sb];by_cases hx:x=n
     ·have ec:cut (x::y::v) 1 ((x::y::v).length:Int)=some (y::v):=zqc (a:=1) rfl rfl (by simp);rw [itT (by simpa using hx),sb,ec,sb,zfm (by simp;omega),sb,uA];simp [zkd,hx]
     ·rw [itF (by simpa using hx),uA];simp [zkd,hx]
   have hrl:(zkd n v).toList.length<=1:=by cases zkd n v<;>simp
   rw [zmR hb,ih _ _ hd' (by rw [ye];omega)];unfold zem;rw [ug];cases zkd n v<;>simp
 have h:=key m 0 [] rfl (xA _);have h':zdx m n [] 0=_:=h;unfold zgk;rw [h',sb,xW]
def zhj (s:List Mes) (root:Int):Int:=if zgo s=false then 9 else if root<0\/root>=s.length then 2 else 0
theorem zzn {s:List Mes} (hw:WS s) (root:Int):zgM s root=some (zhj s root):=by
 unfold zgM zhj;rw [zxl hw,sb];cases h:zgo s
 ·rw [itT (c:= !false) rfl,xu (show false=false from rfl)]
 ·rw [itF (c:= !true) rfl,xt (show ¬(true=false) by simp)];by_cases h2:root<0\/root>=s.length
  ·rw [itT (by simpa using h2),xu h2]
  ·rw [uz,xt h2]
theorem zup {s:List Mes} {root:Int} (h:zhj s root=0):zls s/\0<=root/\root<s.length:=by
 unfold zhj at h;split at h
 ·omega
 ·rename_i h1;split at h
  ·omega
  ·exact ⟨zym (by simpa using h1),by omega⟩
theorem zEp {l:List zB} (hl:l.length<=140737488351232):∃b,zgF l=some b:=by
 have key:∀(d i:Nat) (n:Int),i+d=l.length->∃r,zdP l n i=some r:=by
  intro d
  induction d with
  | zero=>
   intro i n hi;refine ⟨n,znq ?_⟩;unfold zbx;rw [uz]
  | succ d ih=>
   intro i n hi;have hil:i<l.length:=by omega
   obtain ⟨r,hr⟩:=ih (i+1) (IntKind.i64.wrap ((IntKind.i64.wrap (n+1))+((l[i]).length:Int))) (by omega);refine ⟨r,(znp (i':=((i+1:Nat):Int)) ?_).trans hr⟩;unfold zbx;rw [uy,zH rfl hil,sb,zr (x:=(i:Int)+1) (by omega)];push_cast;rfl
 obtain ⟨r,hr⟩:=key l.length 0 0 (by omega);have hr':zdP l 0 0=some r:=hr;exact ⟨_,by unfold zgF;rw [hr',sb]⟩
abbrev Msg:=zc
abbrev Vlu:=zb
mutual
def szM:Msg->Nat
 | ⟨vs,_⟩=>1+szVs vs
def szVs:List Vlu->Nat
 | []=>0
 | v::l=>szV v+szVs l
def szV:Vlu->Nat
 | ⟨_,_,_,s⟩=>1+szMs s
def szMs:List Msg->Nat
 | []=>0
 | x::l=>szM x+szMs l
end
theorem zdd (x:Msg):szM x=1+szVs x.Values:=by cases x;rw [szM]
theorem zfI (v:Vlu):szV v=1+szMs v.Subs:=by cases v;rw [szV]
theorem zei :∀{l:List Vlu},v∈l->szV v<=szVs l
 | [],h=>by cases h
 | u::l,h=>by
  rw [szVs];rcases xz.1 h with rfl| h
  ·omega
  ·have:=zei h;omega
theorem zeT :∀{l:List Msg},x∈l->szM x<=szMs l
 | [],h=>by cases h
 | u::l,h=>by
  rw [szMs];rcases xz.1 h with rfl| h
  ·omega
  ·have:=zeT h;omega
mutual
/-- Within the reach of what a law is handed. -/
def bdM:Msg->Prop
 | ⟨vs,u⟩=>vs.length*80<=140737488351232/\(u.length*16<=140737488351232/\∀t∈u,t.length<=140737488351232)/\bdVs vs
def bdVs:List Vlu->Prop
 | []=>True
 | v::l=>bdV v/\bdVs l
def bdV:Vlu->Prop
 | ⟨n,w,t,s⟩=>(Lit.int .i64 n).wf=true/\(w.length*8<=140737488351232/\∀x∈w,0<=x/\x<=18446744073709551615)/\(t.length*16<=140737488351232/\∀x∈t,x.length<=140737488351232)/\s.length*48<=140737488351232/\bdMs s
def bdMs:List Msg->Prop
 | []=>True
 | x::l=>bdM x/\bdMs l
end
theorem zhK (x:Msg):bdM x↔x.Values.length*80<=140737488351232/\(x.Unknown.length*16<=140737488351232/\∀t∈x.Unknown,t.length<=140737488351232)/\bdVs x.Values:=by cases x;simp only [bdM]
theorem zhk (v:Vlu):bdV v↔(Lit.int .i64 v.Number).wf=true/\(v.Words.length*8<=140737488351232/\∀x∈v.Words,0<=x/\x<=18446744073709551615)/\(v.Texts.length*16<=140737488351232/\∀x∈v.Texts,x.length<=140737488351232)/\v.Subs.length*48<=140737488351232/\bdMs v.Subs:=by cases v;simp only [bdV]
theorem zdO:∀{l:List Vlu},bdVs l↔∀v∈l,bdV v
 | []=>by simp [bdVs]
 | v::l=>by rw [bdVs,zdO (l:=l)];simp
theorem zep:∀{l:List Msg},bdMs l↔∀v∈l,bdM v
 | []=>by simp [bdMs]
 | v::l=>by rw [bdMs,zep (l:=l)];simp
section
open Classical
noncomputable def zlm {α:Type} (x y:α):Bool:=decide (x=y)
theorem zfx {α:Type} {x y:α}:zlm x y=true↔x=y:=by unfold zlm;simp
theorem zGG:∀(fuel:Nat),(∀x y:Msg,szM x<fuel->bdM x->zbf fuel x y=some (zlm x y))/\∀v u:Vlu,szV v<fuel->bdV v->zcL fuel v u=some (zlm v u)
 | 0=>⟨fun x y h=>by omega,fun v u h=>by omega⟩
 | fuel+1=>by
  obtain ⟨ih1,ih2⟩:=zGG fuel;refine ⟨fun x y hs hb=>?_,fun v u hs hb=>?_⟩
  ·obtain ⟨b1,⟨b2,b3⟩,b4⟩:=(zhK x).1 hb;rw [zdd] at hs;show zfM (zbf fuel) (zcL fuel) x y=_;unfold zfM;by_cases hl:x.Values.length=y.Values.length/\x.Unknown.length=y.Unknown.length
   ·rw [itF (by simp [hl.1,hl.2])];have hv:∀(i:Nat) (hi:i<x.Values.length) (hi':i<y.Values.length),zcL fuel x.Values[i] y.Values[i]=some (zlm x.Values[i] y.Values[i]):=fun i hi hi'=>by
     have hm:=xB hi;have:=zei hm;exact ih2 _ _ (by omega) (zdO.1 b4 _ hm)
    have h1:=zkJ x.Values y.Values (fun i=>zea x y (zcL fuel) i) hl.1 (by
      refine zjp ?_;unfold zbd;rw [itF (by simp)])
     (fun i hi hi'=>by
      by_cases hp:x.Values[i]=y.Values[i]
      ·rw [xu hp];refine znK ?_;unfold zbd;rw [uy,zH rfl hi,sb,zH rfl hi',sb,hv i hi hi',sb,itF (by rw [zfx.2 hp];rfl),uA];push_cast;rfl
      ·rw [xt hp];refine zjp ?_;unfold zbd
       have:zlm x.Values[i] y.Values[i]=false:=by cases hq:zlm x.Values[i] y.Values[i] with
        | false=>rfl
        | true=>exact absurd (zfx.1 hq) hp
       rw [uy,zH rfl hi,sb,zH rfl hi',sb,hv i hi hi',sb,itT (by rw [this];rfl)])
     x.Values.length 0 (by omega)
    have h1':zea x y (zcL fuel) 0=_:=h1;have h2:=zkJ x.Unknown y.Unknown (fun i=>zeb x y i) hl.2 (by
      refine zjq ?_;unfold zbe;rw [itF (by simp)])
     (fun i hi hi'=>by
      by_cases hp:x.Unknown[i]=y.Unknown[i]
      ·rw [xu hp];refine znL ?_;unfold zbe;rw [uy,zH rfl hi,sb,zH rfl hi',sb,itF (by simp [hp]),uA];push_cast;rfl
      ·rw [xt hp];refine zjq ?_;unfold zbe;rw [uy,zH rfl hi,sb,zH rfl hi',sb,itT (by simp [hp])])
     x.Unknown.length 0 (by omega)
    have h2':zeb x y 0=_:=h2;rw [h1',sb];simp only [xQ];by_cases e1:x.Values=y.Values
    ·rw [xu e1];simp only;rw [h2',sb];simp only [xQ];by_cases e2:x.Unknown=y.Unknown
     ·rw [xu e2,zfx.2 (by cases x;cases y;simp only at e1 e2;rw [e1,e2])]
     ·rw [xt e2];cases hq:zlm x y with
      | false=>rfl
      | true=>exact absurd (by rw [zfx.1 hq]) e2
    ·rw [xt e1];cases hq:zlm x y with
     | false=>rfl
     | true=>exact absurd (by rw [zfx.1 hq]) e1
   ·rw [uy];cases hq:zlm x y with
    | false=>rfl
    | true=>exact absurd (by rw [zfx.1 hq];exact ⟨rfl,rfl⟩) hl
  ·obtain ⟨b0,⟨b1,_⟩,⟨b2,b3⟩,b4,b5⟩:=(zhk v).1 hb;rw [zfI] at hs;show zdF (zbf fuel) (zcL fuel) v u=_;unfold zdF;have no:(v.Number≠u.Number\/v.Words≠u.Words\/v.Texts≠u.Texts\/v.Subs≠u.Subs)->zlm v u=false:=fun h=>by
    cases hq:zlm v u with
    | false=>rfl
    | true=>
     have:=zfx.1 hq;subst this;rcases h with h| h| h| h<;>exact absurd rfl h
   by_cases hl:v.Number=u.Number/\v.Words.length=u.Words.length/\v.Texts.length=u.Texts.length/\v.Subs.length=u.Subs.length
   ·rw [itF (by simp [hl.1,hl.2.1,hl.2.2.1,hl.2.2.2])];have hv:∀(i:Nat) (hi:i<v.Subs.length) (hi':i<u.Subs.length),zbf fuel v.Subs[i] u.Subs[i]=some (zlm v.Subs[i] u.Subs[i]):=fun i hi hi'=>by
     have hm:=xB hi;have:=zeT hm;exact ih1 _ _ (by omega) (zep.1 b5 _ hm)
    have h1:=zkJ v.Words u.Words (fun i=>zcE v u i) hl.2.1 (by
      refine zhD ?_;unfold zaq;rw [itF (by simp)])
     (fun i hi hi'=>by
      by_cases hp:v.Words[i]=u.Words[i]
      ·rw [xu hp];refine zla ?_;unfold zaq;rw [uy,zH rfl hi,sb,zH rfl hi',sb,itF (by simp [hp]),uA];push_cast;rfl
      ·rw [xt hp];refine zhD ?_;unfold zaq;rw [uy,zH rfl hi,sb,zH rfl hi',sb,itT (by simp [hp])])
     v.Words.length 0 (by omega)
    have h1':zcE v u 0=_:=h1;have h2:=zkJ v.Texts u.Texts (fun i=>zcF v u i) hl.2.2.1 (by
      refine zhE ?_;unfold zar;rw [itF (by simp)])
     (fun i hi hi'=>by
      by_cases hp:v.Texts[i]=u.Texts[i]
      ·rw [xu hp];refine zlb ?_;unfold zar;rw [uy,zH rfl hi,sb,zH rfl hi',sb,itF (by simp [hp]),uA];push_cast;rfl
      ·rw [xt hp];refine zhE ?_;unfold zar;rw [uy,zH rfl hi,sb,zH rfl hi',sb,itT (by simp [hp])])
     v.Texts.length 0 (by omega)
    have h2':zcF v u 0=_:=h2;have h3:=zkJ v.Subs u.Subs (fun i=>zcG v u (zbf fuel) i) hl.2.2.2 (by
      refine zhF ?_;unfold zas;rw [itF (by simp)])
     (fun i hi hi'=>by
      by_cases hp:v.Subs[i]=u.Subs[i]
      ·rw [xu hp];refine zlc ?_;unfold zas;rw [uy,zH rfl hi,sb,zH rfl hi',sb,hv i hi hi',sb,itF (by rw [zfx.2 hp];rfl),uA];push_cast;rfl
      ·rw [xt hp];refine zhF ?_;unfold zas
       have:zlm v.Subs[i] u.Subs[i]=false:=by cases hq:zlm v.Subs[i] u.Subs[i] with
        | false=>rfl
        | true=>exact absurd (zfx.1 hq) hp
       rw [uy,zH rfl hi,sb,zH rfl hi',sb,hv i hi hi',sb,itT (by rw [this];rfl)])
     v.Subs.length 0 (by omega)
    have h3':zcG v u (zbf fuel) 0=_:=h3;rw [h1',sb];simp only [xQ];by_cases e1:v.Words=u.Words
    ·rw [xu e1];simp only;rw [h2',sb];simp only [xQ];by_cases e2:v.Texts=u.Texts
     ·rw [xu e2];simp only;rw [h3',sb];simp only [xQ];by_cases e3:v.Subs=u.Subs
      ·rw [xu e3,zfx.2 (by cases v;cases u;simp only at e1 e2 e3 hl;rw [hl.1,e1,e2,e3])]
      ·rw [xt e3,no (.inr (.inr (.inr e3)))]
     ·rw [xt e2,no (.inr (.inr (.inl e2)))]
    ·rw [xt e1,no (.inr (.inl e1))]
   ·rw [uy,no (by
     by_cases h0:v.Number=u.Number
     ·by_cases h1:v.Words=u.Words
      ·by_cases h2:v.Texts=u.Texts
       ·exact .inr (.inr (.inr fun h3=>hl ⟨h0,by rw [h1],by rw [h2],by rw [h3]⟩))
       ·exact .inr (.inr (.inl h2))
      ·exact .inr (.inl h1)
     ·exact .inl h0)]
end
theorem zlO (y:Msg) (hf:szM x<fuel) (hb:bdM x):zbf fuel x y=some (zlm x y):=(zGG fuel).1 x y hf hb
def zgS (v:Vlu):Nat:=v.Words.length+v.Texts.length+v.Subs.length
theorem zCt (hb:v.Words.length<=140737488351232/\v.Texts.length<=140737488351232/\v.Subs.length<=140737488351232):zdo v=some ((zgS v:Nat):Int):=by
 unfold zdo zgS;rw [zr (x:=(v.Words.length:Int)+(v.Texts.length:Int)) (by omega),uA];push_cast;rfl
mutual
def dM:Msg->Nat
 | ⟨vs,_⟩=>dVs vs
def dVs:List Vlu->Nat
 | []=>0
 | v::l=>max (dV v) (dVs l)
def dV:Vlu->Nat
 | ⟨_,_,_,s⟩=>dMs s
def dMs:List Msg->Nat
 | []=>0
 | x::l=>max (1+dM x) (dMs l)
end
theorem zFl (x:Msg):dM x=dVs x.Values:=by cases x;rw [dM]
theorem zCV (v:Vlu):dV v=dMs v.Subs:=by cases v;rw [dV]
theorem zyH :∀{l:List Vlu},v∈l->dV v<=dVs l
 | [],h=>by cases h
 | u::l,h=>by
  rw [dVs];rcases xz.1 h with rfl| h
  ·omega
  ·have:=zyH h;omega
theorem zCU :∀{l:List Msg},x∈l->1+dM x<=dMs l
 | [],h=>by cases h
 | u::l,h=>by
  rw [dMs];rcases xz.1 h with rfl| h
  ·omega
  ·have:=zCU h;omega
structure Th where
 fi:Int
 run:Bool
 val:List UInt8
 raw:List UInt8
abbrev zId:=List UInt8×Bool×List Int×List Str×List Msg
mutual
/-- How much a meaning is, all together. -/
def wgM:Msg->Nat
 | ⟨vs,u⟩=>1+(u.map fun t=>1+t.length).sum+wgVs vs
def wgVs:List Vlu->Nat
 | []=>0
 | v::l=>wgV v+wgVs l
def wgV:Vlu->Nat
 | ⟨_,w,t,s⟩=>1+w.length+(t.map fun t=>1+t.length).sum+wgMs s
def wgMs:List Msg->Nat
 | []=>0
 | x::l=>wgM x+wgMs l
end
theorem znW (x:Msg):wgM x=1+(x.Unknown.map fun t=>1+t.length).sum+wgVs x.Values:=by cases x;rw [wgM]
theorem zlz (v:Vlu):wgV v=1+v.Words.length+(v.Texts.map fun t=>1+t.length).sum+wgMs v.Subs:=by cases v;rw [wgV]
theorem zBt {v:Vlu}:∀{l:List Vlu},v∈l->wgV v<=wgVs l
 | [],h=>by cases h
 | u::l,h=>by
  rw [wgVs];rcases xz.1 h with rfl| h
  ·omega
  ·have:=zBt h;omega
theorem zqX {x:Msg}:∀{l:List Msg},x∈l->wgM x<=wgMs l
 | [],h=>by cases h
 | u::l,h=>by
  rw [wgMs];rcases xz.1 h with rfl| h
  ·omega
  ·have:=zqX h;omega
theorem zzx {t:Str}:∀{l:List Str},t∈l->1+t.length<=(l.map fun t=>1+t.length).sum
 | [],h=>by cases h
 | u::l,h=>by
  rw [xZ,qM];rcases xz.1 h with rfl| h
  ·omega
  ·have:=zzx h;omega
theorem zzw:∀{l:List Str},l.length<=(l.map fun t=>1+t.length).sum
 | []=>by simp
 | u::l=>by
  rw [xZ,qM,yj];have:=zzw (l:=l);omega
theorem zBs:∀(l:List Vlu),l.length<=wgVs l
 | []=>by simp [wgVs]
 | u::l=>by rw [wgVs,yj,zlz];have:=zBs l;omega
theorem zBr:∀(l:List Msg),l.length<=wgMs l
 | []=>by simp [wgMs]
 | u::l=>by rw [wgMs,yj,znW];have:=zBr l;omega
def unkR (m:Mes) (u:Str):Bool:=(zsW u 0).2==0&&(zsW u 0).1.To==(u.length:Int)&&decide (fldI m (zsW u 0).1.Number<0)
def znn (f:Fld) (w:Int):Bool:=kNum f.Kind&&zjj f.Kind w==w
def zmE (f:Fld) (t:Str):Bool:=f.Kind==16|| (f.Kind==15&&zlx t)
def zpt (f:Fld) (v:Vlu):Bool:=decide (0<zgS v)&&(decide (zgS v<=1)|| f.Repeated)&&zfd f.Kind
mutual
def zat (s:List Mes):Msg->Int->Bool
 | ⟨vs,u⟩,k=>decide (0<=k/\k<s.length)&&zgv s vs (zaC s k) none&&u.all (unkR (zaC s k))
def zgv (s:List Mes):List Vlu->Mes->Option Int->Bool
 | [],_,_=>true
 | v::l,m,p=>decide (0<=fldI m v.Number)&&p.all (fun n=>decide (n<v.Number))&&zkr s v (zaI m (fldI m v.Number))&&zgv s l m (some v.Number)
def zkr (s:List Mes):Vlu->Fld->Bool
 | ⟨n,w,t,sub⟩,f=>zpt f ⟨n,w,t,sub⟩&&w.all (znn f)&&t.all (zmE f)&&zrq s sub f
def zrq (s:List Mes):List Msg->Fld->Bool
 | [],_=>true
 | x::l,f=>(f.Kind==17&&zat s x f.Of)&&zrq s l f
end
theorem zlU (s:List Mes) (x:Msg) (k:Int):zat s x k=(decide (0<=k/\k<s.length)&&zgv s x.Values (zaC s k) none&&x.Unknown.all (unkR (zaC s k))):=by cases x;rw [zat]
theorem zsL (s:List Mes) (v:Vlu) (f:Fld):zkr s v f=(zpt f v&&v.Words.all (znn f)&&v.Texts.all (zmE f)&&zrq s v.Subs f):=by cases v;rw [zkr]
theorem zmx (s:List Mes) (f:Fld):∀(l:List Msg),zrq s l f=l.all fun x=>f.Kind==17&&zat s x f.Of
 | []=>by rw [zrq];rfl
 | x::l=>by rw [zrq,zmx s f l];rfl
theorem zsE {α:Type} (p:α->Bool) (l:List α) (F:Bool->Int->Option Bool) (h0:∀a,F a (l.length:Int)=some a)
  (hs:∀(a:Bool) (i:Nat) (h:i<l.length),F a (i:Int)=F (a&&p l[i]) ((i+1:Nat):Int)):∀(c i:Nat) (a:Bool),i+c=l.length->F a (i:Int)=some (a&&(l.drop i).all p)
 | 0,i,a,h=>by
  have e:l.drop i=[]:=xR (by omega);have hi:i=l.length:=by omega
  rw [e,hi,h0];simp
 | c+1,i,a,h=>by
  have hd:l.drop i=l[i]::l.drop (i+1):=xL (by omega);rw [hs a i (by omega),zsE p l F h0 hs c (i+1) _ (by omega),hd,yp,Bool.and_assoc]
def prv (vs:List Vlu) (i:Nat):Option Int:=if i=0 then none else (vs[i - 1]?).map (·.Number)
theorem zDA {s:List Mes} (hs:zls s):∀(fuel:Nat),(∀(v:Vlu) (f:Fld),szV v<fuel->bdV v->zes fuel s f v=some (zkr s v f))/\
  ∀(x:Msg) (k:Int),szM x<fuel->bdM x->zcK fuel s k x=some (zat s x k)
 | 0=>⟨fun v f h=>by omega,fun x k h=>by omega⟩
 | fuel+1=>by
  obtain ⟨ih1,ih2⟩:=zDA hs fuel;refine ⟨fun v f hsz hb=>?_,fun x k hsz hb=>?_⟩
  ·obtain ⟨_,⟨b1,b1'⟩,⟨b2,b3⟩,b4,b5⟩:=(zhk v).1 hb;rw [zfI] at hsz;show zfL (zes fuel) (zcK fuel) s f v=_;unfold zfL;rw [zsL];have hg:(zdo v>>=fun rv=>if (rv==0)=true then some true else (zdo v>>=fun rv2=>if (decide (rv2>1))=true then (if (!f.Repeated)=true then some true else (zcJ f.Kind>>=fun rv3=>some (!rv3))) else (zcJ f.Kind>>=fun rv4=>some (!rv4))))=some (!zpt f v):=by
    rw [zCt ⟨by omega,by omega,by omega⟩,sb,sb,zte,sb];unfold zpt;by_cases h0:zgS v=0
    ·rw [itT (by simp [h0])];simp [h0]
    ·rw [uz];by_cases h1:zgS v>1
     ·rw [uy];cases hr:f.Repeated
      ·rw [itT (by rfl)];simp;omega
      ·rw [itF (by rfl)];simp;omega
     ·rw [uz];simp;omega
   rw [hg,sb];by_cases hm:zpt f v=true
   ·rw [itF (by rw [hm];rfl),hm,xO];have h1:=zsE (znn f) v.Words (fun a i=>zdX f v a i) (fun a=>by
      refine znF ?_;unfold zbC;rw [itF (by simp)])
     (fun a i hi=>by
      refine znE ?_;unfold zbC;have hx:idx v.Words (i:Int)=some v.Words[i]:=zH rfl hi;rw [uy,hx,sb,zwD,sb,zAO _ (b1' _ (xB hi)),sb,sb,uA];unfold znn;cases a
      ·rw [itF (by rfl),sb];push_cast;rfl
      ·rw [itT (by rfl)];cases kNum f.Kind
       ·rw [itF (by rfl),sb];push_cast;rfl
       ·rw [itT (by rfl),sb];push_cast;rfl) v.Words.length 0 true (xD _)
    have h1':zdX f v true 0=_:=h1;rw [h1',sb,xQ,xO];have h2:=zsE (zmE f) v.Texts (fun a i=>zdY f v a i) (fun a=>by
      refine znH ?_;unfold zbD;rw [itF (by simp)])
     (fun a i hi=>by
      refine znG ?_;unfold zbD;have hx:idx v.Texts (i:Int)=some v.Texts[i]:=zH rfl hi;have hl:=b3 _ (xB hi);rw [uy,hx,sb,uA];have e:lenO v.Texts[i]=some v.Texts[i]:=by unfold lenO;rw [xu (by omega)]
      rw [e,sb,zzp (by omega),sb];unfold zmE;cases a
      ·rw [itF (by rfl),sb];push_cast;rfl
      ·rw [itT (by rfl)];by_cases h16:f.Kind=16
       ·rw [itT (by simpa using h16),sb];simp [h16]
       ·rw [itF (by simpa using h16)];by_cases h15:f.Kind=15
        ·rw [itT (by simpa using h15),sb];simp [h15]
        ·rw [itF (by simpa using h15),sb];simp [h15,h16]) v.Texts.length 0 (v.Words.all (znn f)) (xD _)
    have h2':zdY f v (v.Words.all (znn f)) 0=_:=h2;rw [h2',sb,xQ];have h3:=zsE (fun x=>f.Kind==17&&zat s x f.Of) v.Subs (fun a i=>zdZ f (zcK fuel) s v a i) (fun a=>by
      refine znJ ?_;unfold zbE;rw [itF (by simp)])
     (fun a i hi=>by
      refine znI ?_;unfold zbE;have hx:idx v.Subs (i:Int)=some v.Subs[i]:=zH rfl hi;have hmem:=xB hi;have s1:=zeT hmem;rw [uy,hx,sb,uA,ih2 _ f.Of (by omega) (zep.1 b5 _ hmem),sb];cases a
      ·rw [itF (by rfl),sb];push_cast;rfl
      ·rw [itT (by rfl)];by_cases h17:f.Kind=17
       ·rw [itT (by simpa using h17),sb];simp [h17]
       ·rw [itF (by simpa using h17),sb];simp [h17]) v.Subs.length 0 (v.Words.all (znn f)&&v.Texts.all (zmE f)) (xD _)
    have h3':zdZ f (zcK fuel) s v (v.Words.all (znn f)&&v.Texts.all (zmE f)) 0=_:=h3;rw [h3',sb,xQ,zmx]
   ·have hm':zpt f v=false:=by simpa using hm
    rw [itT (by rw [hm'];rfl),hm'];rfl
  ·obtain ⟨b1,⟨b2,b3⟩,b4⟩:=(zhK x).1 hb;rw [zdd] at hsz;show zfn (zes fuel) (zcK fuel) s k x=_;unfold zfn;rw [zlU];by_cases hk:0<=k/\k<s.length
   ·rw [uz,xU hk,xO];obtain ⟨n,rfl⟩:∃n:Nat,k=n:=⟨k.toNat,by omega⟩;have hn:n<s.length:=by omega
    have hm:idx s (n:Int)=some (zaC s n):=by rw [zH rfl hn,zjs hn]
    have hmm:zaC s (n:Int)∈s:=by rw [zjs hn];exact xB hn
    have hfew:=hs.few _ hmm
    generalize zaC s (n:Int)=m at hm hmm hfew|-
    have hv:∀(c i:Nat),i+c=x.Values.length->zdz (zes fuel) n s x i=some (if zgv s (x.Values.drop i) m (prv x.Values i)=true then .inl () else .inr ()):=by
     intro c
     induction c with
     | zero=>
      intro i hi;have e:x.Values.drop i=[]:=xR (by omega);rw [e,zgv,xu rfl];refine zjc ?_;unfold zaR;rw [uz]
     | succ c ih=>
      intro i hi;have hil:i<x.Values.length:=by omega
      have hd:x.Values.drop i=x.Values[i]::x.Values.drop (i+1):=xL hil;have hx:idx x.Values (i:Int)=some x.Values[i]:=zH rfl hil;have hmem:=xB hil;have s1:=zei hmem;have hp1:prv x.Values (i+1)=some (x.Values[i]).Number:=by unfold prv;rw [xt (by omega)];simp [hil]
      rw [hd,zgv];have hbody:zaR (zes fuel) n s x i=if (decide (0<=fldI m (x.Values[i]).Number)&&(prv x.Values i).all (fun q=>decide (q<(x.Values[i]).Number))&&zkr s x.Values[i] (zaI m (fldI m (x.Values[i]).Number)))=true then some (.inl ((i+1:Nat):Int)) else some (.inr (.inr ())):=by
       unfold zaR;have hw1:IntKind.i64.wrap ((i:Int)+1)=((i+1:Nat):Int):=by rw [uA];push_cast;rfl
       rw [uy,hm,sb,hx,sb,zqG (by omega),sb,hw1];rcases zoX m (x.Values[i]).Number with ⟨hf,_⟩| ⟨j,hj,hf,_⟩
       ·rw [hf,itT (by rfl),sb,itT (by rfl),xt (by simp)]
       ·have hfj:idx m.Fields (j:Int)=some (zaI m (j:Int)):=by rw [zH rfl hj,zvN hj]
        have hfit:=ih1 x.Values[i] (zaI m (j:Int)) (by omega) (zdO.1 b4 _ hmem);rw [hf,itF (by simp)];by_cases hi0:i=0
        ·subst hi0;rw [itF (by simp),sb,hfj,sb,sb,hfit,sb,sb];unfold prv;cases hfv:zkr s x.Values[0] (zaI m (j:Int))
         ·rw [itT (by rfl),xt (by simp)]
         ·rw [itF (by rfl),xu (by simp)]
        ·have hi1:i - 1<x.Values.length:=by omega
         have hxp:idx x.Values (IntKind.i64.wrap ((i:Int) - 1))=some x.Values[i - 1]:=by
          rw [uA];exact zH (by omega) hi1
         have hpv:prv x.Values i=some (x.Values[i - 1]).Number:=by unfold prv;rw [xt hi0];simp [hi1]
         rw [uy,hxp,sb,sb,hpv];by_cases hlt:(x.Values[i - 1]).Number<(x.Values[i]).Number
         ·rw [itF (by simpa using hlt),sb,hfj,sb,sb,hfit,sb,sb];cases hfv:zkr s x.Values[i] (zaI m (j:Int))
          ·rw [itT (by rfl),xt (by simp)]
          ·rw [itF (by rfl),xu (by simp [hlt])]
         ·rw [itT (by simpa using hlt),sb,itT (by rfl),xt (by simp;omega)]
      generalize (decide (0<=fldI m (x.Values[i]).Number)&&(prv x.Values i).all (fun q=>decide (q<(x.Values[i]).Number))&&zkr s x.Values[i] (zaI m (fldI m (x.Values[i]).Number)))=bb at hbody|-
      cases bb
      ·rw [xt (by simp)] at hbody;rw [zjc hbody,yH,xt (by simp)]
      ·rw [xu rfl] at hbody;rw [zmU hbody,ih _ (by omega),xO,hp1]
    have h1:=hv x.Values.length 0 (xD _);have h1':zdz (zes fuel) n s x 0=_:=h1;have hp0:prv x.Values 0=none:=rfl;rw [xQ,hp0] at h1';rw [h1',sb];cases hrv:zgv s x.Values m none
    ·rw [xt (by simp)];rfl
    ·rw [xu rfl,xO];simp only;have hu:∀(c i:Nat),i+c=x.Unknown.length->zdA n s x i=some (if (x.Unknown.drop i).all (unkR m)=true then .inl () else .inr ()):=by
      intro c
      induction c with
      | zero=>
       intro i hi;have e:x.Unknown.drop i=[]:=xR (by omega);rw [e,List.all_nil,xu rfl];refine zjd ?_;unfold zaS;rw [uz]
      | succ c ih=>
       intro i hi;have hil:i<x.Unknown.length:=by omega
       have hd:x.Unknown.drop i=x.Unknown[i]::x.Unknown.drop (i+1):=xL hil;have hx:idx x.Unknown (i:Int)=some x.Unknown[i]:=zH rfl hil;have hl:=b3 _ (xB hil);have e:lenO x.Unknown[i]=some x.Unknown[i]:=by unfold lenO;rw [xu (by omega)]
       have hw1:IntKind.i64.wrap ((i:Int)+1)=((i+1:Nat):Int):=by rw [uA];push_cast;rfl
       rw [hd,yp];have hbody:zaS n s x i=if unkR m x.Unknown[i]=true then some (.inl ((i+1:Nat):Int)) else some (.inr (.inr ())):=by
        unfold zaS unkR;rw [uy,hx,sb,e,sb,zAR (by omega),sb,hw1]
        generalize zsW x.Unknown[i] 0=r
        by_cases c1:r.2=0
        ·rw [itF (by simpa using c1),sb];by_cases c2:r.1.To=(x.Unknown[i]).length
         ·rw [itF (by simpa using c2),hm,sb,zqG (by omega),sb,sb];by_cases c3:fldI m r.1.Number<0
          ·rw [itF (by simpa using c3),xu (by simp [c1,c2,c3])]
          ·rw [itT (by simpa using c3),xt (by simp [c1,c2];omega)]
         ·rw [itT (by simpa using c2),sb,itT (by rfl),xt (by simp [c1,c2])]
        ·rw [itT (by simpa using c1),sb,itT (by rfl),xt (by simp [c1])]
       cases hun:unkR m x.Unknown[i]
       ·rw [hun,xt (by simp)] at hbody;rw [zjd hbody,yH,xt (by simp)]
       ·rw [hun,xu rfl] at hbody;rw [zmV hbody,ih _ (by omega),xO]
     have h2:=hu x.Unknown.length 0 (xD _);have h2':zdA n s x 0=_:=h2;rw [h2',sb,xQ];cases x.Unknown.all (unkR m)<;>rfl
   ·rw [uy,ya hk];rfl
theorem zxm (hs:zls s) (k:Int) (hf:szM x<fuel) (hb:bdM x):zcK fuel s k x=some (zat s x k):=(zDA hs fuel).2 x k hf hb
theorem ztG {α:Type} (bytes:Nat) (l:List α) (hl:l.length*bytes<=140737488355328) (F:Int->List α->Option (List α)) (h0:∀a,F (l.length:Int) a=some a)
  (hs:∀(i:Nat) (h:i<l.length) (a:List α),(a.length+1)*bytes<=140737488355328->F (i:Int) a=F ((i+1:Nat):Int) (a++[l[i]])):∀(c i:Nat),i+c=l.length->F (i:Int) (l.take i)=some l
 | 0,i,h=>by
  have hi:i=l.length:=by omega
  rw [hi,h0,yW]
 | c+1,i,h=>by
  have hil:i<l.length:=by omega
  have hb:(i+1)*bytes<=140737488355328:=yg (yo _ hil) hl;rw [hs i hil _ (by rw [yb,yU (by omega)];exact hb),List.take_append_getElem hil];exact ztG bytes l hl F h0 hs c (i+1) (by omega)
theorem zFj:∀(fuel:Nat),(∀x:Msg,szM x<fuel->bdM x->zca fuel x=some x)/\∀v:Vlu,szV v<fuel->bdV v->zdQ fuel v=some v
 | 0=>⟨fun x h=>by omega,fun v h=>by omega⟩
 | fuel+1=>by
  obtain ⟨ih1,ih2⟩:=zFj fuel;refine ⟨fun x hsz hb=>?_,fun v hsz hb=>?_⟩
  ·obtain ⟨b1,⟨b2,b3⟩,b4⟩:=(zhK x).1 hb;rw [zdd] at hsz;show zgG (zca fuel) (zdQ fuel) x=_;unfold zgG;have h:=ztG 80 x.Values (by omega) (fun i a=>zeX (zdQ fuel) x i a) (fun a=>by
     refine zoO ?_;unfold zck;rw [itF (by simp)])
    (fun i hi a ha=>by
     have hm:=xB hi;have s1:=zei hm;refine zoN ?_;unfold zck;rw [uy,zH rfl hi,sb,ih2 _ (by omega) (zdO.1 b4 _ hm),sb,zfm (by rw [qD];exact ha),sb,uA];push_cast;rfl)
    x.Values.length 0 (xD _)
   have h':zeX (zdQ fuel) x 0 []=_:=h;rw [zfm (by simp;omega),sb,h',sb,xW];cases x;rfl
  ·obtain ⟨_,_,_,b4,b5⟩:=(zhk v).1 hb;rw [zfI] at hsz;show zeq (zca fuel) (zdQ fuel) v=_;unfold zeq;have h:=ztG 48 v.Subs (by omega) (fun i a=>zcW (zca fuel) v i a) (fun a=>by
     refine zlH ?_;unfold zaH;rw [itF (by simp)])
    (fun i hi a ha=>by
     have hm:=xB hi;have s1:=zeT hm;refine zlG ?_;unfold zaH;rw [uy,zH rfl hi,sb,ih1 _ (by omega) (zep.1 b5 _ hm),sb,zfm (by rw [qD];exact ha),sb,uA];push_cast;rfl)
    v.Subs.length 0 (xD _)
   have h':zcW (zca fuel) v 0 []=_:=h;rw [h',sb];cases v;rfl
theorem zpa (hf:szM x<fuel) (hb:bdM x):zca fuel x=some x:=(zFj fuel).1 x hf hb
mutual
/-- No list is long. -/
def smM:Msg->Prop
 | ⟨vs,u⟩=>vs.length<=1048576/\(u.length<=1048576/\∀t∈u,t.length<=1048576)/\smVs vs
def smVs:List Vlu->Prop
 | []=>True
 | v::l=>smV v/\smVs l
def smV:Vlu->Prop
 | ⟨n,w,t,s⟩=>w.length<=1048576/\(t.length<=1048576/\∀x∈t,x.length<=1048576)/\s.length<=1048576/\smMs s
def smMs:List Msg->Prop
 | []=>True
 | x::l=>smM x/\smMs l
end
theorem zmD (x:Msg):smM x↔x.Values.length<=1048576/\(x.Unknown.length<=1048576/\∀t∈x.Unknown,t.length<=1048576)/\smVs x.Values:=by cases x;simp only [smM]
theorem zpm (v:Vlu):smV v↔v.Words.length<=1048576/\(v.Texts.length<=1048576/\∀x∈v.Texts,x.length<=1048576)/\v.Subs.length<=1048576/\smMs v.Subs:=by cases v;simp only [smV]
theorem ziG:∀{l:List Vlu},smVs l↔∀v∈l,smV v
 | []=>by simp [smVs]
 | v::l=>by rw [smVs,ziG (l:=l)];simp
theorem ziF:∀{l:List Msg},smMs l↔∀v∈l,smM v
 | []=>by simp [smMs]
 | v::l=>by rw [smMs,ziF (l:=l)];simp
theorem zuj (l:List Str) (F:Int->Int->Option Int) (h0:∀n,F n (l.length:Int)=some n)
  (hs:∀(i:Nat) (h:i<l.length) (n:Int),F n (i:Int)=F (IntKind.i64.wrap (IntKind.i64.wrap (n+1)+(l[i].length:Int))) ((i+1:Nat):Int)):∀(c i:Nat) (n:Int),i+c=l.length->
  ∃r,F n (i:Int)=some r/\((∀t∈l,t.length<=1048576)->0<=n->n+1048577*c<=4611686018427387904->r=n+(((l.drop i).map fun t=>1+t.length).sum:Nat)/\r<=n+1048577*c)
 | 0,i,n,h=>by
  have hi:i=l.length:=by omega
  refine ⟨n,by rw [hi,h0],fun _ _ _=>?_⟩;rw [hi,List.drop_length];simp
 | c+1,i,n,h=>by
  have hil:i<l.length:=by omega
  obtain ⟨r,hr,hw⟩:=zuj l F h0 hs c (i+1) (IntKind.i64.wrap (IntKind.i64.wrap (n+1)+(l[i].length:Int))) (by omega);refine ⟨r,by rw [hs i hil,hr],fun ht hn hc=>?_⟩;have:=ht _ (xB hil);have e:IntKind.i64.wrap (IntKind.i64.wrap (n+1)+(l[i].length:Int))=n+1+(l[i].length:Int):=by
   rw [zr (x:=n+1) (by omega),uA]
  rw [e] at hw;have hd:l.drop i=l[i]::l.drop (i+1):=xL hil;obtain ⟨w1,w2⟩:=hw ht (by omega) (by omega);rw [hd,xZ,qM];push_cast at w1|-;omega
theorem ztM {α:Type} (l:List α) (g:α->Int) (F:Int->Int->Option (Int⊕Unit)) (h0:∀n,F n (l.length:Int)=some (.inl n))
  (hs:∀(i:Nat) (h:i<l.length) (n:Int),F n (i:Int)=if IntKind.i64.wrap (n+g l[i])>=5000 then some (.inr ()) else F (IntKind.i64.wrap (n+g l[i])) ((i+1:Nat):Int)):∀(c i:Nat) (n:Int),i+c=l.length->
  ∃q,F n (i:Int)=some q/\((∀a∈l,0<=g a/\g a<=4398046511104)->0<=n->n<=4398046511104->∀u,q= .inl u->u=n+((l.drop i).map g).sum/\0<=u/\(u<=n\/u<5000)/\∀a∈l.drop i,g a<5000)
 | 0,i,n,h=>by
  have hi:i=l.length:=by omega
  refine ⟨.inl n,by rw [hi,h0],fun _ _ _ u hu=>?_⟩;cases hu;rw [hi,List.drop_length];simp;omega
 | c+1,i,n,h=>by
  have hil:i<l.length:=by omega
  have hd:l.drop i=l[i]::l.drop (i+1):=xL hil;rw [hs i hil];by_cases h5:IntKind.i64.wrap (n+g l[i])>=5000
  ·exact ⟨.inr (),by rw [xu h5],fun _ _ _ u hu=>by cases hu⟩
  ·obtain ⟨q,hq,hw⟩:=ztM l g F h0 hs c (i+1) (IntKind.i64.wrap (n+g l[i])) (by omega);refine ⟨q,by rw [xt h5,hq],fun hg hn hnb u hu=>?_⟩;have hgi:=hg _ (xB hil);have e:IntKind.i64.wrap (n+g l[i])=n+g l[i]:=by rw [uA]
   rw [e] at hw h5;obtain ⟨w1,w2,w3,w4⟩:=hw hg (by omega) (by omega) u hu;rw [hd,xZ,qM];refine ⟨by omega,w2,by omega,fun a ha=>?_⟩;rcases xz.1 ha with rfl| ha
   ·omega
   ·exact w4 a ha
theorem zGI:∀(fuel:Nat),(∀(x:Msg) (d:Int),szM x<fuel->bdM x-> -1<=d->d<=1048576->∃r,zcd fuel x d=some r/\(smM x->0<=r/\r<=4398046511104/\(r<5000->r=wgM x/\(dM x:Int)<=d)))/\
  ∀(v:Vlu) (d:Int),szV v<fuel->bdV v->0<=d->d<=1048576->∃r,zbu fuel v d=some r/\(smV v->0<=r/\r<=4398046511104/\(r<5000->r=wgV v/\(dV v:Int)<=d))
 | 0=>⟨fun x d h=>by omega,fun v d h=>by omega⟩
 | fuel+1=>by
  obtain ⟨ih1,ih2⟩:=zGI fuel;refine ⟨fun x d hsz hb hd hd2=>?_,fun v d hsz hb hd hd2=>?_⟩
  ·obtain ⟨b1,⟨b2,b3⟩,b4⟩:=(zhK x).1 hb;rw [zdd] at hsz;show∃r,zfJ (zcd fuel) (zbu fuel) x d=some r/\_;unfold zfJ;by_cases hneg:d<0
   ·exact ⟨5000,by rw [itT (by simpa using hneg)],fun _=>⟨by omega,by omega,fun h=>by omega⟩⟩
   rw [itF (by simpa using hneg)];obtain ⟨n,hn,hnw⟩:=zuj x.Unknown (fun n i=>zdR x n i) (fun n=>by
     refine znt ?_;unfold zby;rw [itF (by simp)])
    (fun i hi n=>by
     refine zns ?_;unfold zby;have hw1:IntKind.i64.wrap ((i:Int)+1)=((i+1:Nat):Int):=by rw [uA];push_cast;rfl
     rw [uy,zH rfl hi,sb,hw1]) x.Unknown.length 0 1 (xD _)
   have hn':zdR x 1 0=some n:=hn;have hgg:∀v∈x.Values,∃r,zbu fuel v d=some r/\(smV v->0<=r/\r<=4398046511104/\(r<5000->r=wgV v/\(dV v:Int)<=d)):=fun v hv=>by
    have:=zei hv;exact ih2 v d (by omega) (zdO.1 b4 _ hv) (by omega) hd2
   obtain ⟨q,hq,hqw⟩:=ztM x.Values (fun v=>(zbu fuel v d).getD 0) (fun n i=>zdS d (zbu fuel) x n i) (fun n=>by
     refine zjn ?_;unfold zbb;rw [itF (by simp)])
    (fun i hi n=>by
     obtain ⟨r,hr,_⟩:=hgg _ (xB hi);have hw1:IntKind.i64.wrap ((i:Int)+1)=((i+1:Nat):Int):=by rw [uA];push_cast;rfl
     simp only [hr,yA];split
     ·rename_i h5;refine zjn ?_;unfold zbb;rw [uy,zH rfl hi,sb,hr,sb,itT (by simpa using h5)]
     ·rename_i h5;refine znu ?_;unfold zbb;rw [uy,zH rfl hi,sb,hr,sb,itF (by simpa using h5),hw1]) x.Values.length 0 n (xD _)
   have hq':zdS d (zbu fuel) x n 0=some q:=hq;rw [hn',sb,hq',sb];cases q with
   | inr u=>exact ⟨5000,rfl,fun _=>⟨by omega,by omega,fun h=>by omega⟩⟩
   | inl u=>
    refine ⟨u,rfl,fun hsm=>?_⟩;obtain ⟨s1,⟨s2,s3⟩,s4⟩:=(zmD x).1 hsm;obtain ⟨n1,n2⟩:=hnw s3 (by omega) (by omega);rw [xQ] at n1;obtain ⟨u1,u2,u3,u4⟩:=hqw (fun v hv=>by
     obtain ⟨r,hr,hrw⟩:=hgg v hv;have:=hrw (ziG.1 s4 v hv);simp only [hr,yA];exact ⟨this.1,this.2.1⟩) (by omega) (by omega) u rfl
    rw [xQ] at u1 u4;refine ⟨u2,by omega,fun _=>?_⟩;have hall:∀l:List Vlu,(∀v∈l,v∈x.Values)->(l.map fun v=>(zbu fuel v d).getD 0).sum=(wgVs l:Int)/\(dVs l:Int)<=d:=by
     intro l
     induction l with
     | nil=>intro _;simp [wgVs,dVs];omega
     | cons v l ih=>
      intro hl;have hv:=hl v xw;obtain ⟨r,hr,hrw⟩:=hgg v hv;obtain ⟨_,_,hr3⟩:=hrw (ziG.1 s4 v hv);have h5:=u4 v hv;simp only [hr,yA] at h5;obtain ⟨e1,e2⟩:=hr3 h5;obtain ⟨i1,i2⟩:=ih fun w hw=>hl w (xx _ hw)
      rw [xZ,qM,i1,hr,yA,wgVs,dVs];push_cast;omega
    obtain ⟨a1,a2⟩:=hall x.Values fun v hv=>hv
    rw [znW,zFl];push_cast;refine ⟨?_,a2⟩;push_cast at n1;omega
  ·obtain ⟨_,⟨b1,_⟩,⟨b2,b3⟩,b4,b5⟩:=(zhk v).1 hb;rw [zfI] at hsz;show∃r,zdE (zcd fuel) (zbu fuel) v d=some r/\_;unfold zdE;rw [zr (x:=1+(v.Words.length:Int)) (by omega)];obtain ⟨n,hn,hnw⟩:=zuj v.Texts (fun n i=>zcC v n i) (fun n=>by
     refine zkW ?_;unfold zaA;rw [itF (by simp)])
    (fun i hi n=>by
     refine zkV ?_;unfold zaA;have hw1:IntKind.i64.wrap ((i:Int)+1)=((i+1:Nat):Int):=by rw [uA];push_cast;rfl
     rw [uy,zH rfl hi,sb,hw1]) v.Texts.length 0 (1+(v.Words.length:Int)) (xD _)
   have hn':zcC v (1+(v.Words.length:Int)) 0=some n:=hn;have hgg:∀x∈v.Subs,∃r,zcd fuel x (d - 1)=some r/\(smM x->0<=r/\r<=4398046511104/\(r<5000->r=wgM x/\(dM x:Int)<=d - 1)):=fun x hx=>by
    have:=zeT hx;exact ih1 x (d - 1) (by omega) (zep.1 b5 _ hx) (by omega) (by omega)
   have hd1:IntKind.i64.wrap (d - 1)=d - 1:=by rw [uA]
   obtain ⟨q,hq,hqw⟩:=ztM v.Subs (fun x=>(zcd fuel x (d - 1)).getD 0) (fun n i=>zcD d (zcd fuel) v n i) (fun n=>by
     refine zhC ?_;unfold zap;rw [itF (by simp)])
    (fun i hi n=>by
     obtain ⟨r,hr,_⟩:=hgg _ (xB hi);have hw1:IntKind.i64.wrap ((i:Int)+1)=((i+1:Nat):Int):=by rw [uA];push_cast;rfl
     simp only [hr,yA];split
     ·rename_i h5;refine zhC ?_;unfold zap;rw [uy,zH rfl hi,sb,hd1,hr,sb,itT (by simpa using h5)]
     ·rename_i h5;refine zkX ?_;unfold zap;rw [uy,zH rfl hi,sb,hd1,hr,sb,itF (by simpa using h5),hw1]) v.Subs.length 0 n (xD _)
   have hq':zcD d (zcd fuel) v n 0=some q:=hq;rw [hn',sb,hq',sb];cases q with
   | inr u=>exact ⟨5000,rfl,fun _=>⟨by omega,by omega,fun h=>by omega⟩⟩
   | inl u=>
    refine ⟨u,rfl,fun hsm=>?_⟩;obtain ⟨s1,⟨s2,s3⟩,s5,s4⟩:=(zpm v).1 hsm;obtain ⟨n1,n2⟩:=hnw s3 (by omega) (by omega);rw [xQ] at n1;obtain ⟨u1,u2,u3,u4⟩:=hqw (fun x hx=>by
     obtain ⟨r,hr,hrw⟩:=hgg x hx;have:=hrw (ziF.1 s4 x hx);simp only [hr,yA];exact ⟨this.1,this.2.1⟩) (by omega) (by omega) u rfl
    rw [xQ] at u1 u4;refine ⟨u2,by omega,fun _=>?_⟩;have hall:∀l:List Msg,(∀x∈l,x∈v.Subs)->(l.map fun x=>(zcd fuel x (d - 1)).getD 0).sum=(wgMs l:Int)/\(dMs l:Int)<=d:=by
     intro l
     induction l with
     | nil=>intro _;simp [wgMs,dMs];omega
     | cons x l ih=>
      intro hl;have hx:=hl x xw;obtain ⟨r,hr,hrw⟩:=hgg x hx;obtain ⟨_,_,hr3⟩:=hrw (ziF.1 s4 x hx);have h5:=u4 x hx;simp only [hr,yA] at h5;obtain ⟨e1,e2⟩:=hr3 h5;obtain ⟨i1,i2⟩:=ih fun w hw=>hl w (xx _ hw)
      rw [xZ,qM,i1,hr,yA,wgMs,dMs];push_cast;omega
    obtain ⟨a1,a2⟩:=hall v.Subs fun v hv=>hv
    rw [zlz,zCV];push_cast;refine ⟨?_,a2⟩;push_cast at n1;omega
structure OkT (s:List Mes) (d:Nat) (m:Mes) (t:Th):Prop where
 fi:t.fi= -1\/0<=t.fi/\t.fi<m.Fields.length
 unk:t.fi<0->unkR m t.raw=true
 run:0<=t.fi->t.run=true->kNum (zaI m t.fi).Kind=true/\(zaI m t.fi).Repeated=true/\(zFn (zaI m t.fi).Kind t.val).2=0
 one:0<=t.fi->t.run=false->zfd (zaI m t.fi).Kind=true/\zJp (zxS (zaI m t.fi).Kind) t.val=true/\((zaI m t.fi).Kind=15->zlx t.val=true)/\((zaI m t.fi).Kind=17->∃e,d=e+1/\zyK s e (zaI m t.fi).Of t.val=none)
structure zJU (s:List Mes) (d:Nat) (f:Fld) (a:zId):Prop where
 words:∀w∈a.2.2.1,znn f w=true
 texts:∀t∈a.2.2.2.1,zmE f t=true
 numT:kNum f.Kind=true->a.2.2.2.1=[]
 subs:∀x∈a.2.2.2.2,f.Kind=17/\zat s x f.Of=true/\1+dM x<=d
 join:f.Kind=17->∀e,d=e+1->zyK s e f.Of a.1=none
 met:a.2.1=true->f.Kind=17->∃e,d=e+1
 one:f.Repeated=false->a.2.2.1.length<=1/\a.2.2.2.1.length<=1/\a.2.2.2.2=[]
theorem zID (h: -9223372036854775808<=n/\n<=9223372036854775807):(Lit.int .i64 n).wf=true:=by
 simpa [Lit.wf,IntKind.min,IntKind.max,IntKind.bits,IntKind.signed] using h
structure zJT (a:zId):Prop where
 words:∀w∈a.2.2.1,0<=w/\w<=18446744073709551615
 texts:∀t∈a.2.2.2.1,t.length<=1048576
 subs:∀x∈a.2.2.2.2,bdM x/\smM x
def zff (l:List Vlu):Prop:=l.Pairwise fun a b=>a.Number<b.Number
def look (l:List Vlu) (n:Int):Option Vlu:=l.find? fun v=>v.Number==n
theorem zcX (v:Vlu) (l:List Vlu) (n:Int):look (v::l) n=if v.Number=n then some v else look l n:=by
 unfold look;rw [List.find?_cons];by_cases h:v.Number=n
 ·rw [xu h];simp [h]
 ·rw [xt h];have:(v.Number==n)=false:=by simpa using h
  rw [this]
theorem zfX {l:List Vlu} {n:Int} {v:Vlu} (h:look l n=some v):v.Number=n/\v∈l:=by
 unfold look at h;exact ⟨by simpa using List.find?_some h,List.mem_of_find?_eq_some h⟩
theorem zrj {l:List Vlu} {n:Int} (h:∀v∈l,n<v.Number):look l n=none:=by
 unfold look;rw [List.find?_eq_none];intro v hv;have:=h v hv;simp;omega
theorem zAC {l:List Vlu} (hr:zff l) {v:Vlu} (h:v∈l):look l v.Number=some v:=by
 induction l with
 | nil=>cases h
 | cons u l ih=>
  obtain ⟨h1,h2⟩:=yn.1 hr;rw [zcX];rcases xz.1 h with rfl| h
  ·rw [xu rfl]
  ·have:=h1 v h;rw [xt (by omega),ih h2 h]
theorem zAB:∀{l k:List Vlu},zff l->zff k->(∀n,look l n=look k n)->l=k
 | [],[],_,_,_=>rfl
 | [],u::k,_,_,h=>by
  have:=h u.Number;rw [zcX,xu rfl] at this;cases this
 | v::l,[],_,_,h=>by
  have:=h v.Number;rw [zcX,xu rfl] at this;cases this
 | v::l,u::k,hl,hk,h=>by
  obtain ⟨l1,l2⟩:=yn.1 hl;obtain ⟨k1,k2⟩:=yn.1 hk;have e:v=u:=by
   have hv:=h v.Number;have hu:=h u.Number;rw [zcX,xu rfl] at hv;rw [zcX (n:=u.Number) (v:=u),xu rfl] at hu;rcases Int.lt_trichotomy v.Number u.Number with hlt| heq| hlt
   ·rw [zrj (l:=u::k) (fun x hx=>by
     rcases xz.1 hx with rfl| hx
     ·exact hlt
     ·have:=k1 x hx;omega)] at hv
    cases hv
   ·rw [zcX,xu heq.symm] at hv;exact qq hv
   ·rw [zrj (l:=v::l) (fun x hx=>by
     rcases xz.1 hx with rfl| hx
     ·exact hlt
     ·have:=l1 x hx;omega)] at hu
    cases hu
  subst e;rw [zAB l2 k2 fun n=>by
   by_cases hn:v.Number<n
   ·have:=h n;rw [zcX,zcX,xt (by omega),xt (by omega)] at this;exact this
   ·rw [zrj fun x hx=>by have:=l1 x hx;omega,zrj fun x hx=>by have:=k1 x hx;omega]]
def putL (v:Vlu):Bool->List Vlu->List Vlu
 | done,[]=>if done=true then [] else [v]
 | done,u::l=>(if done=false/\v.Number<=u.Number then [v] else [])++((if u.Number=v.Number then [] else [u])++putL v (done|| decide (v.Number<=u.Number)) l)
theorem zAM (v:Vlu):∀(d:Bool) (l:List Vlu),(putL v d l).length<=l.length+(if d=true then 0 else 1)
 | d,[]=>by rw [putL];cases d<;>simp
 | d,u::l=>by
  have:=zAM v (d|| decide (v.Number<=u.Number)) l;rw [putL];simp only [ye,yj];cases d
  ·by_cases h:v.Number<=u.Number
   ·rw [xu ⟨rfl,h⟩];simp only [h,decide_true,q9,yF] at this|-;split<;>simp<;>omega
   ·rw [xt (fun hh=>h hh.2)];simp only [h,decide_false,qN,qJ,qK] at this|-;split<;>simp<;>omega
  ·rw [xt (by simp)];simp only [pC,yF] at this|-;split<;>simp<;>omega
theorem zAN {v:Vlu}:∀{d:Bool} {l:List Vlu} {x:Vlu},x∈putL v d l->x=v/\d=false\/x∈l/\x.Number≠v.Number
 | d,[],x,h=>by
  rw [putL] at h;cases d
  ·rw [xt (by simp)] at h;exact .inl ⟨yc.1 h,rfl⟩
  ·rw [xu rfl] at h;cases h
 | d,u::l,x,h=>by
  rw [putL] at h;rcases xC.1 h with h| h
  ·split at h
   ·rename_i hc;exact .inl ⟨yc.1 h,hc.1⟩
   ·cases h
  ·rcases xC.1 h with h| h
   ·split at h
    ·cases h
    ·rename_i hc;rw [yc.1 h];exact .inr ⟨xw,hc⟩
   ·rcases zAN h with ⟨h1,h2⟩| ⟨h1,h2⟩
    ·refine .inl ⟨h1,?_⟩;cases d
     ·rfl
     ·simp at h2
    ·exact .inr ⟨xx _ h1,h2⟩
theorem zqF {v:Vlu}:∀{d:Bool} {l:List Vlu},zff l->zff (putL v d l)
 | d,[],_=>by rw [putL];cases d<;>simp [zff]
 | d,u::l,h=>by
  obtain ⟨h1,h2⟩:=yn.1 h;have ih:=zqF (v:=v) (d:=d|| decide (v.Number<=u.Number)) h2;have hrest:∀x∈putL v (d|| decide (v.Number<=u.Number)) l,u.Number<x.Number:=fun x hx=>by
   rcases zAN hx with ⟨rfl,hd⟩| ⟨hx,_⟩
   ·simp at hd;omega
   ·exact h1 x hx
  rw [putL];have htail:zff ((if u.Number=v.Number then [] else [u])++putL v (d|| decide (v.Number<=u.Number)) l):=by
   split
   ·exact ih
   ·exact yn.2 ⟨hrest,ih⟩
  split
  ·rename_i hc;rw [List.singleton_append];refine yn.2 ⟨fun x hx=>?_,htail⟩;rcases xC.1 hx with hx| hx
   ·split at hx
    ·cases hx
    ·rw [yc.1 hx];omega
   ·have:=hrest x hx;omega
  ·exact htail
theorem zqu (l k:List Vlu) (n:Int):look (l++k) n=match look l n with| some v=>some v| none=>look k n:=by
 unfold look;rw [List.find?_append];cases l.find? (fun v=>v.Number==n)<;>rfl
theorem zwf {v:Vlu}:∀{d:Bool} {l:List Vlu},zff l->∀n,look (putL v d l) n=if n=v.Number then (if d=true then none else some v) else look l n
 | d,[],_,n=>by
  rw [putL];cases d
  ·rw [xt (show ¬(false=true) by simp),xt (show ¬(false=true) by simp),zcX];by_cases h:n=v.Number
   ·rw [xu h,xu h.symm]
   ·rw [xt h,xt (fun hh=>h hh.symm)]
  ·rw [xu rfl,xu rfl];split<;>rfl
 | d,u::l,h,n=>by
  obtain ⟨h1,h2⟩:=yn.1 h;have ih:=zwf (v:=v) (d:=d|| decide (v.Number<=u.Number)) h2 n;rw [putL,zqu,zqu,ih,zcX u l n];by_cases hn:n=v.Number
  ·rw [xu hn,xu hn];have hu:look (if u.Number=v.Number then [] else [u]) n=none:=by
    split
    ·rfl
    ·rw [zcX,xt (by omega)];rfl
   rw [hu];cases d
   ·by_cases hle:v.Number<=u.Number
    ·rw [xu ⟨rfl,hle⟩,zcX,xu hn.symm];simp
    ·rw [xt (fun hh=>hle hh.2)];simp [look,hle]
   ·rw [xt (by simp)];simp [look]
  ·rw [xt hn,xt hn];have hv:look (if d=false/\v.Number<=u.Number then [v] else []) n=none:=by
    split
    ·rw [zcX,xt (fun hh=>hn hh.symm)];rfl
    ·rfl
   rw [hv];by_cases hu:u.Number=v.Number
   ·rw [xu hu,xt (by omega)];rfl
   ·rw [xt hu,zcX];by_cases hun:u.Number=n
    ·rw [xu hun,xu hun]
    ·rw [xt hun,xt hun];rfl
def putM (x:Msg) (v:Vlu):Msg:=⟨putL v (decide (zgS v=0)) x.Values,x.Unknown⟩
theorem znk {s:List Mes} {m:Mes}:∀{l:List Vlu} {p:Option Int},zgv s l m p=true->∀v∈l,0<=fldI m v.Number/\zkr s v (zaI m (fldI m v.Number))=true/\p.all (fun n=>decide (n<v.Number))=true
 | [],p,_,v,hv=>by cases hv
 | u::l,p,h,v,hv=>by
  rw [zgv] at h;simp only [xy,xK] at h;obtain ⟨⟨⟨h1,h2⟩,h3⟩,h4⟩:=h;rcases xz.1 hv with rfl| hv
  ·exact ⟨h1,h3,h2⟩
  ·obtain ⟨g1,g2,g3⟩:=znk h4 v hv;refine ⟨g1,g2,?_⟩;cases p with
   | none=>rfl
   | some n=>
    simp at h2 g3|-;omega
theorem zqK {s:List Mes} {m:Mes}:∀{l:List Vlu} {p:Option Int},zgv s l m p=true->zff l
 | [],p,_=> .nil
 | u::l,p,h=>by
  rw [zgv] at h;simp only [xy,xK] at h;refine yn.2 ⟨fun v hv=>?_,zqK h.2⟩;have:=(znk h.2 v hv).2.2;simpa using this
theorem zwG {s:List Mes} {m:Mes}:∀{l:List Vlu} {p:Option Int},zff l->(∀v∈l,0<=fldI m v.Number/\zkr s v (zaI m (fldI m v.Number))=true/\p.all (fun n=>decide (n<v.Number))=true)->zgv s l m p=true
 | [],p,_,_=>by rw [zgv]
 | u::l,p,hr,h=>by
  obtain ⟨h1,h2⟩:=yn.1 hr;obtain ⟨a1,a2,a3⟩:=h u xw;rw [zgv,zwG h2 fun v hv=>⟨(h v (xx _ hv)).1,(h v (xx _ hv)).2.1,by simpa using h1 v hv⟩,a2,a3,xU a1];rfl
theorem zco {s:List Mes} {x:Msg} {k:Int} (h:zat s x k=true):0<=k/\k<s.length/\zff x.Values/\(∀v∈x.Values,0<=fldI (zaC s k) v.Number/\zkr s v (zaI (zaC s k) (fldI (zaC s k) v.Number))=true)/\∀u∈x.Unknown,unkR (zaC s k) u=true:=by
 rw [zlU] at h;simp only [xy,xK] at h;exact ⟨h.1.1.1,h.1.1.2,zqK h.1.2,fun v hv=>⟨(znk h.1.2 v hv).1,(znk h.1.2 v hv).2.1⟩,xE.1 h.2⟩
theorem zyn {s:List Mes} {x:Msg} {k:Int} (h1:0<=k) (h2:k<s.length) (h3:zff x.Values) (h4:∀v∈x.Values,0<=fldI (zaC s k) v.Number/\zkr s v (zaI (zaC s k) (fldI (zaC s k) v.Number))=true) (h5:∀u∈x.Unknown,unkR (zaC s k) u=true):zat s x k=true:=by
 rw [zlU,xU ⟨h1,h2⟩,zwG h3 fun v hv=>⟨(h4 v hv).1,(h4 v hv).2,rfl⟩,xE.2 h5];rfl
structure zko (s:List Mes) (v:Vlu) (f:Fld):Prop where
 many:0<zgS v
 one:f.Repeated=false->zgS v=1
 kind:zfd f.Kind=true
 words:∀w∈v.Words,znn f w=true
 texts:∀t∈v.Texts,zmE f t=true
 subs:∀x∈v.Subs,f.Kind=17/\zat s x f.Of=true
theorem zfW {s:List Mes} {v:Vlu} {f:Fld} (h:zkr s v f=true):zko s v f:=by
 rw [zsL,zmx] at h;unfold zpt at h;simp only [xy,qc,xK,xE,pJ] at h;obtain ⟨⟨⟨⟨⟨h1,h2⟩,h3⟩,h4⟩,h5⟩,h6⟩:=h;refine ⟨h1,fun hr=>?_,h3,h4,h5,fun x hx=>?_⟩
 ·rw [hr] at h2;simp at h2;omega
 ·exact h6 x hx
theorem zDa {s:List Mes} {v:Vlu} {f:Fld} (h:zko s v f):zkr s v f=true:=by
 obtain ⟨h1,h2,h3,h4,h5,h6⟩:=h;rw [zsL,zmx];unfold zpt;simp only [xy,qc,xK,xE,pJ];refine ⟨⟨⟨⟨⟨h1,?_⟩,h3⟩,h4⟩,h5⟩,fun x hx=>h6 x hx⟩;cases hr:f.Repeated with
 | true=>exact .inr rfl
 | false=>exact .inl (by have:=h2 hr;omega)
theorem zko.noWords {s:List Mes} {v:Vlu} {f:Fld} (h:zko s v f) (hk:kNum f.Kind=false):v.Words=[]:=by
 cases hw:v.Words with
 | nil=>rfl
 | cons w l=>
  have:=h.words w (by rw [hw];exact xw);unfold znn at this;rw [hk] at this;simp at this
theorem zko.noTexts {s:List Mes} {v:Vlu} {f:Fld} (h:zko s v f) (hk:f.Kind≠15/\f.Kind≠16):v.Texts=[]:=by
 cases hw:v.Texts with
 | nil=>rfl
 | cons w l=>
  have:=h.texts w (by rw [hw];exact xw);unfold zmE at this;simp at this;omega
theorem zko.msg {s:List Mes} {v:Vlu} {f:Fld} (h:zko s v f) (hk:f.Kind=17) (hr:f.Repeated=false):∃x,v=⟨v.Number,[],[],[x]⟩/\zat s x f.Of=true:=by
 have h1:=h.noWords (by rw [hk];rfl);have h2:=h.noTexts (by omega);have h3:=h.one hr;have h4:=h.subs;obtain ⟨n,w,t,sub⟩:=v;simp only at h1 h2 h4;subst h1 h2;unfold zgS at h3;simp at h3;obtain ⟨x,rfl⟩:∃x,sub=[x]:=by
  cases sub with
  | nil=>simp at h3
  | cons x l=>cases l with
   | nil=>exact ⟨x,rfl⟩
   | cons _ _=>simp at h3
 exact ⟨x,rfl,(h4 x xw).2⟩
mutual
/-- b zji a. -/
def zje (s:List Mes):Msg->Msg->Int->Msg
 | ⟨vs,u⟩,a,k=>⟨zka s vs a (zaC s k) a.Values,a.Unknown++u⟩
def zka (s:List Mes):List Vlu->Msg->Mes->List Vlu->List Vlu
 | [],_,_,acc=>acc
 | v::l,a,m,acc=>zka s l a m (putM ⟨acc,[]⟩ (zjM s v (look a.Values v.Number) (zaI m (fldI m v.Number)))).Values
def zjM (s:List Mes):Vlu->Option Vlu->Fld->Vlu
 | ⟨n,w,t,sub⟩,none,f=>⟨n,w,t,sub⟩
 | ⟨n,w,t,sub⟩,some u,f=>if f.Repeated=true then ⟨n,u.Words++w,u.Texts++t,u.Subs++sub⟩ else if f.Kind=17 then ⟨n,[],[],zml s sub u.Subs f.Of⟩ else ⟨n,w,t,sub⟩
def zml (s:List Mes):List Msg->List Msg->Int->List Msg
 | [],_,_=>[]
 | x::_,ys,k=>match ys with
  | []=>[]
  | y::_=>[zje s x y k]
end
theorem zmm (s:List Mes) (b a:Msg) (k:Int):zje s b a k=⟨zka s b.Values a (zaC s k) a.Values,a.Unknown++b.Unknown⟩:=by cases b;rw [zje]
theorem zlf (s:List Mes) (v:Vlu) (o:Option Vlu) (f:Fld):zjM s v o f=match o with
  | none=>v
  | some u=>if f.Repeated=true then ⟨v.Number,u.Words++v.Words,u.Texts++v.Texts,u.Subs++v.Subs⟩ else if f.Kind=17 then ⟨v.Number,[],[],zml s v.Subs u.Subs f.Of⟩ else v:=by
 cases v;cases o<;>rw [zjM]
theorem zrf (s:List Mes) (v:Vlu) (o:Option Vlu) (f:Fld):(zjM s v o f).Number=v.Number:=by
 rw [zlf];cases o with
 | none=>rfl
 | some u=>simp only;split;rfl;split<;>rfl
theorem zGv (acc:List Vlu) (u:List Str) (v:Vlu):(putM ⟨acc,u⟩ v).Values.length<=acc.length+1:=by
 have:=zAM v (decide (zgS v=0)) acc;unfold putM;simp only;split at this<;>omega
theorem zuy {s:List Mes} {a:Msg} {m:Mes}:∀{l acc:List Vlu},zff acc->zff l->(∀v∈l,0<zgS (zjM s v (look a.Values v.Number) (zaI m (fldI m v.Number))))->
  zff (zka s l a m acc)/\∀n,look (zka s l a m acc) n=match look l n with
   | some v=>some (zjM s v (look a.Values n) (zaI m (fldI m n)))
   | none=>look acc n
 | [],acc,h1,_,_=>by rw [zka];exact ⟨h1,fun n=>rfl⟩
 | v::l,acc,h1,h2,h3=>by
  obtain ⟨l1,l2⟩:=yn.1 h2;have hv:=h3 v xw;have hnum:=zrf s v (look a.Values v.Number) (zaI m (fldI m v.Number));rw [zka];have hacc:zff (putM ⟨acc,[]⟩ (zjM s v (look a.Values v.Number) (zaI m (fldI m v.Number)))).Values:=zqF h1;obtain ⟨r1,r2⟩:=zuy (s:=s) (a:=a) (m:=m) hacc l2 fun u hu=>h3 u (xx _ hu)
  refine ⟨r1,fun n=>?_⟩;rw [r2 n,zcX];have hlk:look (putM ⟨acc,[]⟩ (zjM s v (look a.Values v.Number) (zaI m (fldI m v.Number)))).Values n=if n=v.Number then some (zjM s v (look a.Values v.Number) (zaI m (fldI m v.Number))) else look acc n:=by
   unfold putM;simp only;rw [zwf h1 n,hnum];by_cases hn:n=v.Number
   ·rw [xu hn,xu hn,xt fun hh=>by have:=qe hh;omega]
   ·rw [xt hn,xt hn]
  by_cases hn:v.Number=n
  ·rw [xu hn,zrj fun u hu=>by have:=l1 u hu;omega,hlk,xu hn.symm];simp only [hn]
  ·rw [xt hn,hlk,xt fun hh=>hn hh.symm]
theorem zvV {s:List Mes} {v:Vlu} {o:Option Vlu} {f:Fld} (hv:zko s v f) (ho:∀u,o=some u->zko s u f):0<zgS (zjM s v o f):=by
 rw [zlf];cases o with
 | none=>exact hv.many
 | some u=>
  have:=hv.many;simp only;by_cases hr:f.Repeated=true
  ·rw [xu hr];unfold zgS at this|-;simp only [ye];omega
  ·rw [xt hr];by_cases h17:f.Kind=17
   ·rw [xu h17];obtain ⟨x,hvx,_⟩:=hv.msg h17 (by simpa using hr);obtain ⟨y,huy,_⟩:=(ho u rfl).msg h17 (by simpa using hr);rw [hvx,huy,zml];simp [zgS]
   ·rw [xt h17];exact this
theorem ztS {s:List Mes} {a b:Msg} {k:Int} (ha:zat s a k=true) (hb:zat s b k=true):zff (zje s b a k).Values/\∀n,look (zje s b a k).Values n=match look b.Values n with
   | some v=>some (zjM s v (look a.Values n) (zaI (zaC s k) (fldI (zaC s k) n)))
   | none=>look a.Values n:=by
 obtain ⟨_,_,ra,ha',_⟩:=zco ha;obtain ⟨_,_,rb,hb',_⟩:=zco hb;rw [zmm];exact zuy ra rb fun v hv=>zvV (zfW (hb' v hv).2) fun u hu=>by
  obtain ⟨e,hm⟩:=zfX hu;have:=zfW (ha' u hm).2;rw [e] at this;exact this
def zfP (s:List Mes) (root:Int) (l:List Msg):Int:=if zhj s root≠0 then zhj s root else if l.all (fun x=>zat s x root)=true then 0 else 12
theorem zAQ {s:List Mes} (hw:WS s) (root:Int) {l:List Msg} (hl:l.length<=1048576) {fuel:Nat} (hx:∀x∈l,szM x<fuel/\bdM x):zhp fuel s root l=some (zfP s root l):=by
 unfold zhp zfP;rw [zzn hw,sb];by_cases h:zhj s root=0
 ·rw [itF (by simpa using h),xt (by simpa using h)];obtain ⟨hr,r0,r1⟩:=zup h;have key:∀(c i:Nat),i+c=l.length->zeF fuel l root s i=some (if (l.drop i).all (fun x=>zat s x root)=true then .inl () else .inr ()):=by
   intro c
   induction c with
   | zero=>
    intro i hi;have e:l.drop i=[]:=xR (by omega);rw [e,List.all_nil,xu rfl];refine zjK ?_;unfold zbs;rw [uz]
   | succ c ih=>
    intro i hi;have hil:i<l.length:=by omega
    have hd:l.drop i=l[i]::l.drop (i+1):=xL hil;obtain ⟨h1,h2⟩:=hx _ (xB hil);have hbody:zbs fuel l root s i=if zat s l[i] root=true then some (.inl ((i+1:Nat):Int)) else some (.inr (.inr ())):=by
     unfold zbs;rw [uy,zH rfl hil,sb,zxm hr root h1 h2,sb];cases zat s l[i] root
     ·rw [itT (by rfl),xt (by simp)]
     ·rw [itF (by rfl),xu rfl,uA];push_cast;rfl
    rw [hd,yp];cases hrx:zat s l[i] root
    ·rw [hrx,xt (by simp)] at hbody;rw [zjK hbody];simp
    ·rw [hrx,xu rfl] at hbody;rw [zoi hbody,ih (i+1) (by omega),xO]
  have h1:=key l.length 0 (xD _);have h1':zeF fuel l root s 0=_:=h1;rw [h1',sb,xQ];cases l.all (fun x=>zat s x root)<;>rfl
 ·rw [itT (by simpa using h),xu h]
mutual
/-- Kept or left by ways. -/
def zlD (s:List Mes):Msg->Int->List zB->Bool->Msg
 | ⟨vs,u⟩,k,w,keep=>⟨zdg s vs (zaC s k) w keep,if keep=true then [] else u⟩
def zdg (s:List Mes):List Vlu->Mes->List zB->Bool->List Vlu
 | [],_,_,_=>[]
 | v::l,m,w,keep=>ztc s v (zaI m (fldI m v.Number)) w keep++zdg s l m w keep
def ztc (s:List Mes):Vlu->Fld->List zB->Bool->List Vlu
 | ⟨n,a,t,sub⟩,f,w,keep=>if zey w n=false/\zem w n≠[]/\f.Kind=17/\f.Repeated=false then [⟨n,[],[],znT s sub f.Of (zem w n) keep⟩]
  else if zey w n=keep then [⟨n,a,t,sub⟩] else []
def znT (s:List Mes):List Msg->Int->List zB->Bool->List Msg
 | [],_,_,_=>[]
 | x::_,k,w,keep=>[zlD s x k w keep]
end
theorem zoq (s:List Mes) (x:Msg) (k:Int) (w:List zB) (keep:Bool):zlD s x k w keep=⟨zdg s x.Values (zaC s k) w keep,if keep=true then [] else x.Unknown⟩:=by cases x;rw [zlD]
theorem zmt (s:List Mes) (v:Vlu) (f:Fld) (w:List zB) (keep:Bool):ztc s v f w keep=if zey w v.Number=false/\zem w v.Number≠[]/\f.Kind=17/\f.Repeated=false then [⟨v.Number,[],[],znT s v.Subs f.Of (zem w v.Number) keep⟩]
  else if zey w v.Number=keep then [v] else []:=by cases v;rw [ztc]
theorem ztZ (s:List Mes) (v:Vlu) (f:Fld) (w:List zB) (keep:Bool):(ztc s v f w keep).length<=1:=by
 rw [zmt];split;simp;split<;>simp
theorem zyu {m:List zB} (hw:WW m) (n:Int):WW (zem m n):=by
 refine ⟨yg (uv _ _) hw.1,fun w hm=>?_⟩;unfold zem at hm;obtain ⟨v,hv,he⟩:=qy.1 hm;have:=hw.2 v hv;unfold zkd at he;split at he
 ·split at he
  ·cases he;simp at this|-;omega
  ·cases he
 ·cases he
theorem zpj {s:List Mes} (hs:zls s):∀(fuel:Nat) (x:Msg) (k:Int) (w:List zB) (keep:Bool),szM x<fuel->bdM x->zat s x k=true->WW w->zdp fuel s k x w keep=some (zlD s x k w keep)
 | 0,x,k,w,keep,h,_,_,_=>by omega
 | fuel+1,x,k,w,keep,hsz,hb,hr,hww=>by
  obtain ⟨b1,⟨b2,b3⟩,b4⟩:=(zhK x).1 hb;rw [zdd] at hsz;obtain ⟨k0,k1,_,hv,_⟩:=zco hr;obtain ⟨n,rfl⟩:∃n:Nat,k=n:=⟨k.toNat,by omega⟩;have hn:n<s.length:=by omega
  have hm:idx s (n:Int)=some (zaC s n):=by rw [zH rfl hn,zjs hn]
  have hmm:zaC s (n:Int)∈s:=by rw [zjs hn];exact xB hn
  have hfew:=hs.few _ hmm;rw [zoq]
  generalize zaC s (n:Int)=m at hm hmm hfew hv|-
  show zfN (zdp fuel) s n x w keep=_;unfold zfN;have key:∀(c i:Nat) (out:List Vlu),i+c=x.Values.length->out.length<=i->zec keep w (zdp fuel) n s x i out=some (out++zdg s (x.Values.drop i) m w keep):=by
   intro c
   induction c with
   | zero=>
    intro i out hi ho;have e:x.Values.drop i=[]:=xR (by omega);rw [e,zdg,yQ];refine znN ?_;unfold zbF;rw [uz]
   | succ c ih=>
    intro i out hi ho;have hil:i<x.Values.length:=by omega
    have hd:x.Values.drop i=x.Values[i]::x.Values.drop (i+1):=xL hil;have hx:idx x.Values (i:Int)=some x.Values[i]:=zH rfl hil;have hvm:=xB hil;rw [hd,zdg]
    generalize x.Values[i]=v at hx hvm|-
    have s1:=zei hvm;rw [zfI] at s1;obtain ⟨f0,hfit⟩:=hv v hvm;have hfs:=zfW hfit;rcases zoX m v.Number with ⟨hf,_⟩| ⟨j,hj,hf,_⟩
    ·omega
    have hfj:idx m.Fields (j:Int)=some (zaI m (j:Int)):=by rw [zH rfl hj,zvN hj]
    rw [hf] at hfs|-;have hpl:=ztZ s v (zaI m (j:Int)) w keep;rw [<-qE,<-ih (i+1) (out++ztc s v (zaI m (j:Int)) w keep) (by omega) (by rw [ye];omega)];refine znM ?_;unfold zbF;have hw1:IntKind.i64.wrap ((i:Int)+1)=((i+1:Nat):Int):=by rw [uA];push_cast;rfl
    rw [uy,hx,sb,hm,sb,sb,zqG (by omega),sb,hf,hfj,sb,zAT hww,sb,zAU hww,sb,hw1,zmt]
    generalize zaI m (j:Int)=f at hfs|-
    have hlen:((zem w v.Number).length:Int)>0↔zem w v.Number≠[]:=by
     cases zem w v.Number<;>simp
    by_cases hc:zey w v.Number=false/\zem w v.Number≠[]/\f.Kind=17/\f.Repeated=false
    ·rw [itT (by simp only [xy,xK];exact ⟨by rw [hc.1];rfl,hlen.2 hc.2.1,by simp [hc.2.2.1],by simp [hc.2.2.2]⟩),xu hc];obtain ⟨y,hvy,hyr⟩:=hfs.msg hc.2.2.1 hc.2.2.2;have hsub:v.Subs=[y]:=by rw [hvy]
     obtain ⟨_,_,_,_,c2⟩:=(zhk v).1 (zdO.1 b4 v hvm);rw [hsub] at c2 s1|-;have s2:=zeT (l:=[y]) xw;have i1:idx [y] 0=some y:=rfl;rw [i1,sb,zpj hs fuel y f.Of _ keep (by omega) (zep.1 c2 y xw) hyr (zyu hww _),sb,zfm (by rw [qD];omega),sb,znT]
    ·rw [itF (by
      cases hh:((!zey w v.Number)&&(decide (((zem w v.Number).length:Int)>0)&&((f.Kind==17)&&(!f.Repeated)))) with
      | false=>rfl
      | true=>
       simp only [xy,xK] at hh;exact absurd ⟨by simpa using hh.1,hlen.1 hh.2.1,by simpa using hh.2.2.1,by simpa using hh.2.2.2⟩ hc),xt hc]
     by_cases hk:zey w v.Number=keep
     ·rw [itT (by simpa using hk),xu hk,zfm (by rw [qD];omega),sb]
     ·rw [itF (by simpa using hk),xt hk,yQ]
  have h:=key x.Values.length 0 [] (xD _) (xA _);have h':zec keep w (zdp fuel) n s x 0 []=_:=h;have hp:(if (!keep)=true then some x.Unknown else some [])=some (if keep=true then [] else x.Unknown):=by cases keep<;>rfl
  rw [hp,sb,h',sb,xQ,xW]
theorem zFk {α:Type} (n:α) (w:List α):cut (n::w) 1 ((n::w).length:Int)=some w:=by
 have h:=zqd (xs:=n::w) (i:=1) (j:=((n::w).length:Int)) (a:=1) (b:=(n::w).length) rfl rfl (by simp) (xA _);rw [h];simp
def zvlu:Vlu:=⟨0,[],[],[]⟩
theorem zCa {s:List Mes} {v:Vlu} {o:Option Vlu} {f:Fld} (hv:zko s v f) (ho:∀u,o=some u->zko s u f)
  (ih:∀x∈v.Subs,∀y:Msg,zat s x f.Of=true->zat s y f.Of=true->zat s (zje s x y f.Of) f.Of=true):zko s (zjM s v o f) f:=by
 have hm:=zvV hv ho;rw [zlf] at hm|-;cases o with
 | none=>exact hv
 | some u=>
  have hu:=ho u rfl;simp only at hm|-;by_cases hr:f.Repeated=true
  ·rw [xu hr] at hm|-;refine ⟨hm,(fun h=>by rw [hr] at h;cases h),hv.kind,fun w hw=>?_,fun w hw=>?_,fun w hw=>?_⟩
   ·rcases xC.1 hw with hw| hw
    ·exact hu.words w hw
    ·exact hv.words w hw
   ·rcases xC.1 hw with hw| hw
    ·exact hu.texts w hw
    ·exact hv.texts w hw
   ·rcases xC.1 hw with hw| hw
    ·exact hu.subs w hw
    ·exact hv.subs w hw
  ·rw [xt hr] at hm|-;by_cases h17:f.Kind=17
   ·rw [xu h17] at hm|-;obtain ⟨x,hvx,hx⟩:=hv.msg h17 (by simpa using hr);obtain ⟨y,huy,hy⟩:=hu.msg h17 (by simpa using hr);have hvs:v.Subs=[x]:=by rw [hvx]
    have hus:u.Subs=[y]:=by rw [huy]
    rw [hvs,hus,zml];refine ⟨by simp [zgS],(fun _=>by simp [zgS]),hv.kind,(fun w hw=>nomatch hw),(fun w hw=>nomatch hw),fun w hw=>?_⟩;rw [yc.1 hw];exact ⟨h17,ih x (by rw [hvs];exact xw) y hx hy⟩
   ·rw [xt h17] at hm|-;exact hv
theorem zuv {s:List Mes}:∀(N:Nat) (b a:Msg) (k:Int),szM b<=N->zat s a k=true->zat s b k=true->zat s (zje s b a k) k=true
 | 0,b,a,k,h,_,_=>by rw [zdd] at h;omega
 | N+1,b,a,k,hsz,ha,hb=>by
  obtain ⟨k0,k1,ra,ha',ua⟩:=zco ha;obtain ⟨_,_,rb,hb',ub⟩:=zco hb;obtain ⟨j1,j2⟩:=ztS ha hb;rw [zdd] at hsz;refine zyn k0 k1 j1 (fun v hv=>?_) fun u hu=>?_
  ·have hl:=zAC j1 hv;rw [j2] at hl;cases hbl:look b.Values v.Number with
   | none=>
    rw [hbl] at hl;simp only at hl;exact ha' v (zfX hl).2
   | some w=>
    rw [hbl] at hl;simp only at hl;obtain ⟨wn,wm⟩:=zfX hbl;obtain ⟨w0,wf⟩:=hb' w wm;rw [wn] at w0 wf;have hfw:=zfW wf;have s1:=zei wm;rw [zfI] at s1;refine ⟨w0,zDa ?_⟩;have hvj:zjM s w (look a.Values v.Number) (zaI (zaC s k) (fldI (zaC s k) v.Number))=v:=qq hl;have:=zCa (o:=look a.Values v.Number) hfw (fun u hu=>by
     obtain ⟨un,um⟩:=zfX hu;have:=zfW (ha' u um).2;rw [un] at this;exact this) fun x hx y hxr hyr=>by
      have:=zeT hx;exact zuv N x y _ (by omega) hyr hxr
    rw [hvj] at this;exact this
  ·rw [zmm] at hu;rcases xC.1 hu with hu| hu
   ·exact ua u hu
   ·exact ub u hu
theorem zyo {g:Vlu->Option Vlu} (hg:∀v u,g v=some u->u.Number=v.Number):∀{l:List Vlu},zff l->zff (l.filterMap g)
 | [],_=> .nil
 | v::l,h=>by
  obtain ⟨h1,h2⟩:=yn.1 h;have ih:=zyo hg h2;cases e:g v with
  | none=>rw [List.filterMap_cons_none e];exact ih
  | some u=>
   rw [List.filterMap_cons_some e];refine yn.2 ⟨fun w hw=>?_,ih⟩;obtain ⟨w',hw',e'⟩:=qy.1 hw;rw [hg _ _ e,hg _ _ e'];exact h1 w' hw'
def goB (m:Mes) (w:List zB) (v:Vlu):Bool:= !zey w v.Number&&decide (zem w v.Number≠[])&&decide ((zaI m (fldI m v.Number)).Kind=17)&& !(zaI m (fldI m v.Number)).Repeated
theorem zyO {m:Mes} {w:List zB} {v:Vlu}:goB m w v=true↔zey w v.Number=false/\zem w v.Number≠[]/\(zaI m (fldI m v.Number)).Kind=17/\(zaI m (fldI m v.Number)).Repeated=false:=by
 unfold goB;simp only [xy,yh,xK,and_assoc]
def inV (s:List Mes) (m:Mes) (w:List zB) (keep:Bool) (v:Vlu):Vlu:=⟨v.Number,[],[],znT s v.Subs (zaI m (fldI m v.Number)).Of (zem w v.Number) keep⟩
def zwv (s:List Mes) (m:Mes) (w:List zB) (keep:Bool) (v:Vlu):Option Vlu:=if goB m w v=true then some (inV s m w keep v) else if zey w v.Number=keep then some v else none
theorem zyg {s:List Mes} {m:Mes} {w:List zB} {keep:Bool} (v u:Vlu) (h:zwv s m w keep v=some u):u.Number=v.Number:=by
 unfold zwv at h;split at h
 ·cases h;rfl
 ·split at h
  ·cases h;rfl
  ·cases h
theorem zyh (s:List Mes) (m:Mes) (w:List zB) (keep:Bool):∀l:List Vlu,zdg s l m w keep=l.filterMap (zwv s m w keep)
 | []=>by rw [zdg];rfl
 | v::l=>by
  rw [zdg,zyh s m w keep l,zmt];by_cases hg:goB m w v=true
  ·rw [xu (zyO.1 hg),List.filterMap_cons_some (b:=inV s m w keep v) (by unfold zwv;rw [xu hg])];rfl
  ·rw [xt (fun h=>hg (zyO.2 h))];by_cases hk:zey w v.Number=keep
   ·rw [xu hk,List.filterMap_cons_some (b:=v) (by unfold zwv;rw [xt hg,xu hk])];rfl
   ·rw [xt hk,List.filterMap_cons_none (by unfold zwv;rw [xt hg,xt hk])];rfl
theorem zHt {s:List Mes} {m:Mes} {w:List zB} {v:Vlu} (hg:goB m w v=true) (hf:zko s v (zaI m (fldI m v.Number))):∃y,v=⟨v.Number,[],[],[y]⟩/\zat s y (zaI m (fldI m v.Number)).Of=true/\∀keep,inV s m w keep v=⟨v.Number,[],[],[zlD s y (zaI m (fldI m v.Number)).Of (zem w v.Number) keep]⟩:=by
 obtain ⟨_,_,h3,h4⟩:=zyO.1 hg;obtain ⟨y,e,hy⟩:=hf.msg h3 h4;have hs:v.Subs=[y]:=by rw [e]
 refine ⟨y,e,hy,fun keep=>?_⟩;unfold inV;rw [hs,znT]
theorem zFr {s:List Mes} {f:Fld} {n k:Int} {y z:Msg} (hf:zko s ⟨n,[],[],[y]⟩ f) (hz:zat s z f.Of=true):zko s ⟨k,[],[],[z]⟩ f:=
 ⟨by simp [zgS],(fun _=>by simp [zgS]),hf.kind,(fun w hw=>nomatch hw),(fun w hw=>nomatch hw),fun w hw=>by rw [yc.1 hw];exact ⟨(hf.subs y xw).1,hz⟩⟩
theorem zJe {x y:Msg} {v:Vlu} (hv:v∈x.Values) (e:v=⟨v.Number,[],[],[y]⟩):szM y<szM x:=by
 have s1:=zei hv;rw [zfI] at s1;have hs:v.Subs=[y]:=by rw [e]
 have s2:szM y<=szMs v.Subs:=zeT (by rw [hs];exact xw);rw [zdd x];omega
theorem zqD {s:List Mes}:∀(N:Nat) (x:Msg) (k:Int) (w:List zB) (keep:Bool),szM x<=N->zat s x k=true->zat s (zlD s x k w keep) k=true
 | 0,x,k,w,keep,h,_=>by rw [zdd] at h;omega
 | N+1,x,k,w,keep,hsz,hx=>by
  obtain ⟨k0,k1,rx,hx',ux⟩:=zco hx;rw [zoq,zyh];refine zyn k0 k1 (zyo zyg rx) (fun v hv=>?_) fun u hu=>?_
  ·obtain ⟨v0,hv0,e⟩:=qy.1 hv;obtain ⟨w0,wf⟩:=hx' v0 hv0;have hn:=zyg _ _ e;unfold zwv at e;by_cases hg:goB (zaC s k) w v0=true
   ·rw [xu hg] at e;have hf:=zfW wf;obtain ⟨y,e1,hy,hin⟩:=zHt hg hf;rw [hin] at e;have hsy:=zJe hv0 e1;rw [hn];refine ⟨w0,zDa ?_⟩;rw [<-qq e];rw [e1] at hf;exact zFr hf (zqD N y _ _ _ (by omega) hy)
   ·rw [xt hg] at e;by_cases hk:zey w v0.Number=keep
    ·rw [xu hk] at e;rw [<-qq e];exact ⟨w0,wf⟩
    ·rw [xt hk] at e;cases e
  ·cases keep with
   | true=>exact absurd hu (by simp)
   | false=>exact ux u hu
theorem zvW (s:List Mes) (a:Msg) (m:Mes):∀(l acc:List Vlu),(zka s l a m acc).length<=acc.length+l.length
 | [],acc=>by rw [zka];simp
 | v::l,acc=>by
  rw [zka];have h1:=zvW s a m l (putM ⟨acc,[]⟩ (zjM s v (look a.Values v.Number) (zaI m (fldI m v.Number)))).Values;have h2:=zGv acc [] (zjM s v (look a.Values v.Number) (zaI m (fldI m v.Number)));simp only [yj];omega
theorem zyR {s:List Mes}:∀(N:Nat) (b a:Msg) (k:Int),szM b<=N->zat s a k=true->zat s b k=true->bdM a->bdM b->smM a->smM b->bdM (zje s b a k)
 | 0,b,a,k,h,_,_,_,_,_,_=>by rw [zdd] at h;omega
 | N+1,b,a,k,hsz,ha,hb,ba,bb,sa,sb'=>by
  obtain ⟨_,_,ra,ha',_⟩:=zco ha;obtain ⟨_,_,rb,hb',_⟩:=zco hb;obtain ⟨j1,j2⟩:=ztS ha hb;obtain ⟨a1,⟨a2,a3⟩,a4⟩:=(zhK a).1 ba;obtain ⟨b1,⟨b2,b3⟩,b4⟩:=(zhK b).1 bb;obtain ⟨sa1,⟨sa2,sa3⟩,sa4⟩:=(zmD a).1 sa;obtain ⟨sb1,⟨sb2,sb3⟩,sb4⟩:=(zmD b).1 sb';rw [zdd] at hsz;have hlen:(zje s b a k).Values.length<=a.Values.length+b.Values.length:=by rw [zmm];exact zvW s a _ _ _
  have hun:(zje s b a k).Unknown=a.Unknown++b.Unknown:=by rw [zmm]
  refine (zhK _).2 ⟨by omega,⟨by rw [hun];simp;omega,fun t ht=>by
   rw [hun] at ht;rcases xC.1 ht with h| h
   ·exact a3 t h
   ·exact b3 t h⟩,zdO.2 fun x hx=>?_⟩
  have hl:=zAC j1 hx;rw [j2] at hl;cases hlb:look b.Values x.Number with
  | none=>rw [hlb] at hl;exact zdO.1 a4 x (zfX hl).2
  | some v=>
   rw [hlb] at hl;have e:x=zjM s v (look a.Values x.Number) (zaI (zaC s k) (fldI (zaC s k) x.Number)):=(qq hl).symm;obtain ⟨hvn,hvm⟩:=zfX hlb;have bv:=zdO.1 b4 v hvm;have sv:=ziG.1 sb4 v hvm;rw [e,zlf];cases hla:look a.Values x.Number with
   | none=>exact bv
   | some u=>
    obtain ⟨hun',hum⟩:=zfX hla;have bu:=zdO.1 a4 u hum;have su:=ziG.1 sa4 u hum;obtain ⟨v1,⟨v2,v3⟩,⟨v4,v5⟩,v6,v7⟩:=(zhk v).1 bv;obtain ⟨u1,⟨u2,u3⟩,⟨u4,u5⟩,u6,u7⟩:=(zhk u).1 bu;obtain ⟨q1,⟨q2,q3⟩,q4,q5⟩:=(zpm v).1 sv;obtain ⟨r1,⟨r2,r3⟩,r4,r5⟩:=(zpm u).1 su;simp only;split
    ·refine (zhk _).2 ⟨v1,⟨by simp;omega,fun w hw=>?_⟩,⟨by simp;omega,fun w hw=>?_⟩,by simp;omega,zep.2 fun w hw=>?_⟩
     ·rcases xC.1 hw with h| h
      ·exact u3 w h
      ·exact v3 w h
     ·rcases xC.1 hw with h| h
      ·exact u5 w h
      ·exact v5 w h
     ·rcases xC.1 hw with h| h
      ·exact zep.1 u7 w h
      ·exact zep.1 v7 w h
    ·split
     ·rename_i hrep h17;have fv:=hb' v hvm;have fu:=ha' u hum;rw [hvn] at fv;rw [hun'] at fu;have ov:=zfW fv.2;have ou:=zfW fu.2;refine (zhk _).2 ⟨v1,⟨by simp,by simp⟩,⟨by simp,by simp⟩,?_⟩;cases hvs:v.Subs with
      | nil=>rw [zml];exact ⟨by simp,by rw [bdMs];trivial⟩
      | cons y ys=>
       cases hus:u.Subs with
       | nil=>rw [zml];exact ⟨by simp,by rw [bdMs];trivial⟩
       | cons z zs=>
        rw [zml];simp only;have hy:y∈v.Subs:=by rw [hvs];exact xw
        have hz:z∈u.Subs:=by rw [hus];exact xw
        have hsv:=zei hvm;rw [zfI] at hsv;have hsy:=zeT hy;have hj:=zyR N y z _ (by omega) (ou.subs z hz).2 (ov.subs y hy).2 (zep.1 u7 z hz) (zep.1 v7 y hy) (ziF.1 r5 z hz) (ziF.1 q5 y hy);exact ⟨by simp,by rw [bdMs,bdMs];exact ⟨hj,trivial⟩⟩
     ·exact bv
theorem zuH:∀(l m:List Vlu),szVs (l++m)=szVs l+szVs m
 | [],m=>by rw [xW,szVs];omega
 | v::l,m=>by rw [yr,szVs,szVs,zuH l m];omega
theorem zro {s:List Mes}:∀(N:Nat) (x:Msg) (k:Int) (w:List zB) (keep:Bool),szM x<=N->bdM x->bdM (zlD s x k w keep)/\szM (zlD s x k w keep)<=szM x
 | 0,x,k,w,keep,h,_=>by rw [zdd] at h;omega
 | N+1,x,k,w,keep,hsz,hb=>by
  obtain ⟨b1,⟨b2,b3⟩,b4⟩:=(zhK x).1 hb;rw [zdd] at hsz;have key:∀v∈x.Values,∀f:Fld,(∀u∈ztc s v f w keep,bdV u)/\szVs (ztc s v f w keep)<=szV v:=fun v hv f=>by
   have bv:=zdO.1 b4 v hv;obtain ⟨v1,v2,v3,v6,v7⟩:=(zhk v).1 bv;have hsv:=zei hv;have hve:=zfI v;rw [zmt];split
   ·cases hs:v.Subs with
    | nil=>
     rw [znT];refine ⟨fun u hu=>?_,?_⟩
     ·rw [yc.1 hu];exact (zhk _).2 ⟨v1,⟨by simp,by simp⟩,⟨by simp,by simp⟩,by simp,by rw [bdMs];trivial⟩
     ·rw [szVs,szVs,zfI];simp only;rw [szMs];omega
    | cons y ys=>
     have hy:y∈v.Subs:=by rw [hs];exact xw
     have hsy:=zeT hy;obtain ⟨p1,p2⟩:=zro N y f.Of (zem w v.Number) keep (by omega) (zep.1 v7 y hy);rw [znT];refine ⟨fun u hu=>?_,?_⟩
     ·rw [yc.1 hu];exact (zhk _).2 ⟨v1,⟨by simp,by simp⟩,⟨by simp,by simp⟩,by simp,by rw [bdMs,bdMs];exact ⟨p1,trivial⟩⟩
     ·rw [szVs,szVs,zfI];simp only;rw [szMs,szMs];omega
   ·split
    ·refine ⟨(fun u hu=>by rw [yc.1 hu];exact bv),?_⟩;rw [szVs,szVs];omega
    ·exact ⟨(fun u hu=>by cases hu),(by rw [szVs];omega)⟩
  have all:∀l:List Vlu,(∀v∈l,v∈x.Values)->(∀u∈zdg s l (zaC s k) w keep,bdV u)/\szVs (zdg s l (zaC s k) w keep)<=szVs l/\(zdg s l (zaC s k) w keep).length<=l.length:=by
   intro l
   induction l with
   | nil=>intro _;rw [zdg];exact ⟨(fun u hu=>by cases hu),xA _,xA _⟩
   | cons v l ih=>
    intro h;obtain ⟨i1,i2,i3⟩:=ih fun u hu=>h u (xx _ hu)
    obtain ⟨k1,k2⟩:=key v (h v xw) (zaI (zaC s k) (fldI (zaC s k) v.Number));have k3:=ztZ s v (zaI (zaC s k) (fldI (zaC s k) v.Number)) w keep;rw [zdg];refine ⟨fun u hu=>?_,?_,?_⟩
    ·rcases xC.1 hu with hu| hu
     ·exact k1 u hu
     ·exact i1 u hu
    ·rw [zuH,szVs];omega
    ·rw [ye,yj];omega
  obtain ⟨a1,a2,a3⟩:=all x.Values fun v hv=>hv
  rw [zoq];refine ⟨(zhK _).2 ⟨by simp only;omega,⟨?_,?_⟩,zdO.2 a1⟩,by rw [zdd,zdd];simp only;omega⟩
  ·simp only;cases keep<;>simp<;>omega
  ·simp only;cases keep with
   | true=>intro t ht;cases ht
   | false=>exact b3
theorem zBu:∀(N:Nat) (x:Msg),szM x<=N->szM x<=wgM x
 | 0,x,h=>by rw [zdd] at h;omega
 | N+1,x,h=>by
  rw [zdd] at h;have hv:∀v∈x.Values,szV v<=wgV v:=fun v hv=>by
   have h1:=zei hv;have he:=zfI v;have:∀l:List Msg,(∀y∈l,y∈v.Subs)->szMs l<=wgMs l:=by
    intro l
    induction l with
    | nil=>intro _;rw [szMs];omega
    | cons y l ih=>
     intro hl;have hy:=hl y xw;have h2:=zeT hy;have:=zBu N y (by omega);have:=ih fun z hz=>hl z (xx _ hz)
     rw [szMs,wgMs];omega
   have:=this v.Subs fun y hy=>hy
   rw [he,zlz];omega
  have:∀l:List Vlu,(∀v∈l,v∈x.Values)->szVs l<=wgVs l:=by
   intro l
   induction l with
   | nil=>intro _;rw [szVs];omega
   | cons v l ih=>
    intro hl;have:=hv v (hl v xw);have:=ih fun z hz=>hl z (xx _ hz)
    rw [szVs,wgVs];omega
  have:=this x.Values fun v hv=>hv
  rw [zdd,znW];omega
theorem zGW:∀(N:Nat) (x:Msg),szM x<=N->wgM x<=1048576->smM x
 | 0,x,h,_=>by rw [zdd] at h;omega
 | N+1,x,h,hw=>by
  rw [zdd] at h;rw [znW] at hw;have hl:=zBs x.Values;have hu:=zzw (l:=x.Unknown);refine (zmD _).2 ⟨by omega,⟨by omega,fun t ht=>by have:=zzx ht;omega⟩,ziG.2 fun v hv=>?_⟩;have h1:=zei hv;have h2:=zBt hv;rw [zfI] at h1;rw [zlz] at h2;have ht:=zzw (l:=v.Texts);have hs:=zBr v.Subs;refine (zpm _).2 ⟨by omega,⟨by omega,fun t ht=>by have:=zzx ht;omega⟩,by omega,ziF.2 fun y hy=>?_⟩;have h3:=zeT hy;have h4:=zqX hy;exact zGW N y (by omega) (by omega)
theorem zty:∀(l m:List Vlu),wgVs (l++m)=wgVs l+wgVs m
 | [],m=>by rw [xW,wgVs];omega
 | v::l,m=>by rw [yr,wgVs,wgVs,zty l m];omega
theorem zBq:∀(l m:List Msg),wgMs (l++m)=wgMs l+wgMs m
 | [],m=>by rw [xW,wgMs];omega
 | v::l,m=>by rw [yr,wgMs,wgMs,zBq l m];omega
def wgO:Option Vlu->Nat
 | none=>0
 | some u=>wgV u
theorem zGx (v:Vlu):∀(d:Bool) (l:List Vlu),zff l->wgVs (putL v d l)+wgO (look l v.Number)<=wgVs l+(if d=true then 0 else wgV v)
 | d,[],_=>by
  rw [putL];cases d
  ·show wgVs [v]+0<=_;simp [wgVs]
  ·show wgVs []+0<=_;simp
 | d,u::l,h=>by
  obtain ⟨h1,h2⟩:=yn.1 h;have ih:=zGx v (d|| decide (v.Number<=u.Number)) l h2;rw [putL,zty,zty,zcX,wgVs];by_cases he:u.Number=v.Number
  ·rw [xu he,xu he];have hn:look l v.Number=none:=zrj fun x hx=>by have:=h1 x hx;omega
   rw [hn] at ih;have hle:decide (v.Number<=u.Number)=true:=by simp;omega
   rw [hle,q9,xu rfl] at ih;simp only [wgO,wgVs,hle,q9] at ih|-;cases d
   ·rw [xu ⟨rfl,by omega⟩,wgVs,wgVs];simp;omega
   ·rw [xt (by simp),wgVs];simp;omega
  ·rw [xt he,xt he,wgVs,wgVs];cases d
   ·by_cases hv:v.Number<=u.Number
    ·rw [xu ⟨rfl,hv⟩,wgVs,wgVs];simp only [hv,decide_true,q9,yF,qJ,qK] at ih|-;omega
    ·rw [xt (fun hh=>hv hh.2),wgVs];simp only [hv,decide_false,qN,qJ,qK] at ih|-;omega
   ·rw [xt (by simp),wgVs];simp only [pC,yF] at ih|-;omega
theorem zxR {s:List Mes} {a:Msg} {m:Mes}:∀(l acc:List Vlu),zff l->zff acc->(∀v∈l,look acc v.Number=look a.Values v.Number)->(∀v∈l,wgV (zjM s v (look a.Values v.Number) (zaI m (fldI m v.Number)))<=wgV v+wgO (look a.Values v.Number))->wgVs (zka s l a m acc)<=wgVs acc+wgVs l
 | [],acc,_,_,_,_=>by rw [zka];omega
 | v::l,acc,hl,ha,he,hw=>by
  obtain ⟨l1,l2⟩:=yn.1 hl;have hv:=he v xw;have hwv:=hw v xw;have hn:=zrf s v (look a.Values v.Number) (zaI m (fldI m v.Number));rw [zka]
  generalize zjM s v (look a.Values v.Number) (zaI m (fldI m v.Number))=v' at hn hwv|-
  have hp:=zGx v' (decide (zgS v'=0)) acc ha;have ih:=zxR (s:=s) (a:=a) (m:=m) l (putM ⟨acc,[]⟩ v').Values l2 (zqF ha) (fun u hu=>by
   show look (putL v' _ acc) u.Number=_;have:=l1 u hu;rw [zwf ha,xt (by omega)];exact he u (xx _ hu)) (fun u hu=>hw u (xx _ hu))
  have hq:wgVs (putM ⟨acc,[]⟩ v').Values=wgVs (putL v' (decide (zgS v'=0)) acc):=rfl;rw [hn,hv] at hp;rw [wgVs];split at hp<;>omega
theorem zyS {s:List Mes}:∀(N:Nat) (b a:Msg) (k:Int),szM b<=N->zat s a k=true->zat s b k=true->wgM (zje s b a k)<=wgM a+wgM b
 | 0,b,a,k,h,_,_=>by rw [zdd] at h;omega
 | N+1,b,a,k,hsz,ha,hb=>by
  obtain ⟨_,_,ra,ha',_⟩:=zco ha;obtain ⟨_,_,rb,hb',_⟩:=zco hb;rw [zdd] at hsz;have:=zxR (s:=s) (a:=a) (m:=zaC s k) b.Values a.Values rb ra (fun _ _=>rfl) fun v hv=>by
   rw [zlf];cases hla:look a.Values v.Number with
   | none=>simp only [wgO];omega
   | some u=>
    obtain ⟨hun,hum⟩:=zfX hla;have hve:=zlz v;have hue:=zlz u;simp only [wgO];split
    ·rw [zlz];simp only [ye,pf,List.sum_append,zBq];omega
    ·split
     ·rename_i hrep h17;have ov:=zfW (hb' v hv).2;have ou:=zfW (ha' u hum).2;rw [hun] at ou;have hsv:=zei hv;rw [zfI] at hsv;rw [zlz];simp only [pF,qG,List.sum_nil];cases hvs:v.Subs with
      | nil=>rw [zml,wgMs];omega
      | cons y ys=>
       cases hus:u.Subs with
       | nil=>rw [zml,wgMs];omega
       | cons z zs=>
        rw [zml];have hy:y∈v.Subs:=by rw [hvs];exact xw
        have hz:z∈u.Subs:=by rw [hus];exact xw
        have hsy:=zeT hy;have hj:=zyS N y z _ (by omega) (ou.subs z hz).2 (ov.subs y hy).2;have w1:=zqX hy;have w2:=zqX hz;rw [wgMs,wgMs];omega
     ·omega
  rw [zmm,znW,znW,znW];simp only [pf,List.sum_append];omega
theorem zzi {s:List Mes}:∀(N:Nat) (x:Msg) (k:Int) (w:List zB) (keep:Bool),szM x<=N->wgM (zlD s x k w keep)<=wgM x
 | 0,x,k,w,keep,h=>by rw [zdd] at h;omega
 | N+1,x,k,w,keep,hsz=>by
  rw [zdd] at hsz;have key:∀v∈x.Values,∀f:Fld,wgVs (ztc s v f w keep)<=wgV v:=fun v hv f=>by
   have hsv:=zei hv;rw [zfI] at hsv;have hve:=zlz v;rw [zmt];split
   ·cases hs:v.Subs with
    | nil=>
     rw [znT,wgVs,wgVs,zlz];simp only [pF,qG,List.sum_nil];rw [wgMs];omega
    | cons y ys=>
     have hy:y∈v.Subs:=by rw [hs];exact xw
     have hsy:=zeT hy;have hwy:=zqX hy;have:=zzi (s:=s) N y f.Of (zem w v.Number) keep (by omega);rw [znT,wgVs,wgVs,zlz];simp only [pF,qG,List.sum_nil];rw [wgMs,wgMs];omega
   ·split
    ·rw [wgVs,wgVs];omega
    ·rw [wgVs];omega
  have all:∀l:List Vlu,(∀v∈l,v∈x.Values)->wgVs (zdg s l (zaC s k) w keep)<=wgVs l:=by
   intro l
   induction l with
   | nil=>intro _;rw [zdg];exact xA _
   | cons v l ih=>
    intro h;have i2:=ih fun u hu=>h u (xx _ hu)
    have k2:=key v (h v xw) (zaI (zaC s k) (fldI (zaC s k) v.Number));rw [zdg,zty,wgVs];omega
  have:=all x.Values fun v hv=>hv
  rw [zoq,znW,znW];simp only;cases keep<;>simp<;>omega
theorem zIA {s:List Mes} (hs:zls s) {k n:Int} (k0:0<=k) (k1:k<s.length) (h:0<=fldI (zaC s k) n):(Lit.int .i64 n).wf=true:=by
 obtain ⟨q,rfl⟩:∃q:Nat,k=q:=⟨k.toNat,by omega⟩;have hmm:zaC s (q:Int)∈s:=by rw [zjs (by omega)];exact xB _
 rcases zoX (zaC s (q:Int)) n with ⟨hf,_⟩| ⟨i,hi,_,hn,_⟩
 ·omega
 ·have hfo:=hs.fld _ hmm _ (xB hi);exact zID (by rw [<-hn];have:=hfo.lo;have:=hfo.hi;omega)
theorem zCk (s:List Mes) (root:Int) (l:List Msg):zfP s root l=0\/zfP s root l=2\/zfP s root l=9\/zfP s root l=12:=by
 unfold zfP;by_cases h0:zhj s root=0
 ·rw [xt (show ¬zhj s root≠0 from fun hh=>hh h0)];by_cases ha:l.all (fun x=>zat s x root)=true
  ·rw [xu ha];simp
  ·rw [xt ha];simp
 ·rw [xu h0];unfold zhj;split
  ·simp
  ·split<;>simp
theorem zsg {s:List Mes} {root:Int} {l:List Msg} (h:zfP s root l=0):zls s/\0<=root/\root<s.length/\∀x∈l,zat s x root=true:=by
 unfold zfP at h;by_cases h0:zhj s root=0
 ·rw [xt (show ¬zhj s root≠0 from fun hh=>hh h0)] at h;obtain ⟨h1,h2,h3⟩:=zup h0;by_cases ha:l.all (fun x=>zat s x root)=true
  ·exact ⟨h1,h2,h3,xE.1 ha⟩
  ·rw [xt ha] at h;cases h
 ·rw [xu h0] at h;exact absurd h h0
def zqY:Msg:=⟨[],[]⟩
theorem zxc:bdM zqY:=(zhK _).2 ⟨by simp [zqY],⟨by simp [zqY],by simp [zqY]⟩,by show bdVs [];rw [bdVs];trivial⟩
theorem zHa:szM zqY=1:=by rw [zdd];show 1+szVs []=1;rw [szVs]
theorem zIx {fuel:Nat} {l:List Msg} (hx:∀x∈l,szM x<fuel/\bdM x) (hl:l.length<=1048576):∃r,zhn fuel l=some r/\(r=false->∀x∈l,smM x->wgM x<=2000):=by
 have key:∀(d i:Nat),i+d=l.length->∃q,zeD fuel l i=some q/\(q= .inl ()->∀x∈l.drop i,smM x->wgM x<=2000):=by
  intro d
  induction d with
  | zero=>
   intro i hi;refine ⟨.inl (),zjJ ?_,fun _ x hx=>?_⟩
   ·unfold zbr;rw [uz]
   ·rw [xR (by omega)] at hx;cases hx
  | succ d ih=>
   intro i hi;have hlt:i<l.length:=by omega
   obtain ⟨h1,h2⟩:=hx _ (xB hlt);obtain ⟨r,hr,hr2⟩:=(zGI fuel).1 l[i] 70 h1 h2 (by omega) (by omega);by_cases hb:r>2000
   ·refine ⟨.inr (),zjJ ?_,fun h=>nomatch h⟩;unfold zbr;rw [uy,zH rfl hlt,sb,hr,sb,itT (by simpa using hb)]
   ·obtain ⟨q,hq,hq2⟩:=ih (i+1) (by omega);refine ⟨q,(zoh (i':=((i+1:Nat):Int)) ?_).trans hq,fun h x hx hs=>?_⟩
    ·unfold zbr;rw [uy,zH rfl hlt,sb,hr,sb,itF (by simpa using hb),uA];rfl
    ·rw [xL hlt] at hx;rcases xz.1 hx with rfl| hx
     ·have:=(hr2 hs).2.2 (by omega);omega
     ·exact hq2 h x hx hs
 obtain ⟨q,hq,hq2⟩:=key l.length 0 (by omega);have hq':zeD fuel l 0=_:=hq;unfold zhn;rw [hq',sb];cases q with
 | inl u=>exact ⟨_,rfl,fun _=>by cases u;simpa using hq2 rfl⟩
 | inr u=>exact ⟨_,rfl,fun h=>nomatch h⟩
theorem zAF {s:List Mes} {root:Int} {l:List Msg} (h1:zgo s=true) (h2:0<=root/\root<s.length) (h:∀x∈l,zat s x root=true):zfP s root l=0:=by
 have h0:zhj s root=0:=by unfold zhj;rw [h1,xt (by simp),xt (by omega)]
 unfold zfP;rw [xt (show ¬zhj s root≠0 from fun hh=>hh h0),xu (xE.2 h)]
structure Gd (s:List Mes) (root:Int) (n:Nat) (x:Msg):Prop where
 r:zat s x root=true
 b:bdM x
 w:wgM x<=n
theorem Gd.s {s:List Mes} {root:Int} {n:Nat} {x:Msg} (h:Gd s root n x) (hn:n<=1048576):smM x:=zGW _ x (xA _) (yg h.w hn)
theorem Gd.z {s:List Mes} {root:Int} {n fuel:Nat} {x:Msg} (h:Gd s root n x) (hn:n<fuel):szM x<fuel:=Nat.lt_of_le_of_lt (yg (zBu _ x (xA _)) h.w) hn
theorem Gd.join {s:List Mes} {root:Int} {n m:Nat} {a b:Msg} (ha:Gd s root n a) (hb:Gd s root m b) (hn:n<=1048576) (hm:m<=1048576):Gd s root (n+m) (zje s b a root):=
 ⟨zuv _ b a root (xA _) ha.r hb.r,zyR _ b a root (xA _) ha.r hb.r ha.b hb.b (ha.s hn) (hb.s hm),yg (zyS _ b a root (xA _) ha.r hb.r) (Nat.add_le_add ha.w hb.w)⟩
theorem Gd.part {s:List Mes} {root:Int} {n:Nat} {a:Msg} (ha:Gd s root n a) (w:List zB) (keep:Bool):Gd s root n (zlD s a root w keep):=
 ⟨zqD _ a root w keep (xA _) ha.r,(zro _ a root w keep (xA _) ha.b).1,yg (zzi _ a root w keep (xA _)) ha.w⟩
theorem zIh:∀n:Nat,(∀x:Msg,szM x<=n->dM x<szM x)/\(∀l:List Msg,szMs l<=n->dMs l<=szMs l)/\(∀v:Vlu,szV v<=n->dV v<szV v)/\∀l:List Vlu,szVs l<=n->dVs l<=szVs l
 | 0=>⟨fun x h=>by rw [zdd] at h;omega,fun l h=>by
   cases l with
   | nil=>simp [dMs]
   | cons x l=>rw [szMs,zdd] at h;omega,fun v h=>by rw [zfI] at h;omega,fun l h=>by
   cases l with
   | nil=>simp [dVs]
   | cons x l=>rw [szVs,zfI] at h;omega⟩
 | n+1=>by
  obtain ⟨i1,i2,i3,i4⟩:=zIh n;have h2:∀l:List Msg,szMs l<=n->dMs l<=szMs l:=i2;have h4:∀l:List Vlu,szVs l<=n->dVs l<=szVs l:=i4;have k1:∀x:Msg,szM x<=n+1->dM x<szM x:=fun x h=>by rw [zdd] at h|-;rw [zFl];have:=h4 x.Values (by omega);omega
  have k3:∀v:Vlu,szV v<=n+1->dV v<szV v:=fun v h=>by rw [zfI] at h|-;rw [zCV];have:=h2 v.Subs (by omega);omega
  refine ⟨k1,fun l=>?_,k3,fun l=>?_⟩
  ·induction l with
   | nil=>intro _;simp [dMs]
   | cons x l ih=>intro h;rw [szMs] at h|-;rw [dMs];have:=ih (by omega);have:=k1 x (by omega);omega
  ·induction l with
   | nil=>intro _;simp [dVs]
   | cons x l ih=>intro h;rw [szVs] at h|-;rw [dVs];have:=ih (by omega);have:=k3 x (by omega);omega
theorem zFm (x:Msg):dM x<szM x:=(zIh (szM x)).1 x (xA _)
theorem zDH:∀(fuel:Nat) (x:Msg) (most:Nat),szM x<fuel->bdM x->dM x<=most->most<=1048576->zhe fuel x most=some ((dM x:Nat):Int)
 | 0,x,_,h,_,_,_=>by omega
 | fuel+1,x,most,hs,hb,hd,hm=>by
  obtain ⟨b1,_,b4⟩:=(zhK x).1 hb;rw [zdd] at hs;rw [zFl] at hd|-;show zki (zhe fuel) x most=_;unfold zki;have inner:∀(v:Vlu),v∈x.Values->∀(c i d:Nat),i+c=v.Subs.length->d<=most->zil most (zhe fuel) v d i=some (.inl ((max d (dMs (v.Subs.drop i)):Nat):Int)):=by
   intro v hv c;have hsz:=zei hv;have hdv:=zyH hv;obtain ⟨_,_,_,c1,c2⟩:=(zhk _).1 (zdO.1 b4 _ hv);rw [zfI] at hsz;rw [zCV] at hdv
   induction c with
   | zero=>
    intro i d hi hdm;have e:v.Subs.drop i=[]:=xR (by omega);rw [e,dMs];refine ztr ?_;unfold zeo;rw [uz,Nat.max_zero]
   | succ c ih=>
    intro i d hi hdm;have hil:i<v.Subs.length:=by omega
    have hm2:=xB hil;have s2:=zeT hm2;have d2:=zCU hm2;rw [xL hil,dMs];have hr:=zDH fuel v.Subs[i] (most - 1) (by omega) (zep.1 c2 _ hm2) (by omega) (by omega);have hmost:IntKind.i64.wrap ((most:Int) - 1)=((most - 1:Nat):Int):=by rw [uA];omega
    have hw:IntKind.i64.wrap (1+((dM v.Subs[i]:Nat):Int))=1+((dM v.Subs[i]:Nat):Int):=by rw [uA]
    have hmax:(if (d:Int)<1+((dM v.Subs[i]:Nat):Int) then 1+((dM v.Subs[i]:Nat):Int) else (d:Int))=((max d (1+dM v.Subs[i]):Nat):Int):=by
     split<;>omega
    refine (ztq (deep3':=((max d (1+dM v.Subs[i]):Nat):Int)) (v3':=((i+1:Nat):Int)) ?_).trans ?_
    ·unfold zeo;rw [uy,zH rfl hil,sb,uz,hmost,hr,sb,hw,hmax,uz,uA];push_cast;rfl
    ·rw [ih (i+1) (max d (1+dM v.Subs[i])) (by omega) (by omega)];congr 3;omega
  have outer:∀(c i d:Nat),i+c=x.Values.length->d<=most->zik most (zhe fuel) x d i=some (.inl ((max d (dVs (x.Values.drop i)):Nat):Int)):=by
   intro c
   induction c with
   | zero=>
    intro i d hi hdm;have e:x.Values.drop i=[]:=xR (by omega);rw [e,dVs];refine ztp ?_;unfold zen;rw [uz,Nat.max_zero]
   | succ c ih=>
    intro i d hi hdm;have hil:i<x.Values.length:=by omega
    have hmem:=xB hil;have hdv:=zyH hmem;rw [xL hil,dVs];have h2:=inner x.Values[i] hmem (x.Values[i]).Subs.length 0 d (xD _) hdm;rw [xQ,<-zCV] at h2;have h2':zil most (zhe fuel) x.Values[i] d 0=_:=h2;refine (zto (deep':=((max d (dV x.Values[i]):Nat):Int)) (v':=((i+1:Nat):Int)) ?_).trans ?_
    ·unfold zen;rw [uy,zH rfl hil,sb,h2',sb,uA];push_cast;rfl
    ·rw [ih (i+1) (max d (dV x.Values[i])) (by omega) (by omega)];congr 3;omega
  have h:=outer x.Values.length 0 0 (xD _) (xH _);have h':zik most (zhe fuel) x 0 0=_:=h;rw [h',sb,xQ,Nat.zero_max]
theorem zEI (hf:szM x<fuel) (hb:bdM x) (hd:dM x<=131072):zmF fuel x=some ((dM x:Nat):Int):=by
 unfold zmF;have h:=zDH fuel x 131072 hf hb hd (by omega);have h':zhe fuel x 131072=_:=h;rw [h',sb]
theorem zBi (hf:szM x<fuel) (hb:bdM x) (hd:dM x<=131072):zlX fuel x=some true:=by
 unfold zlX;rw [zEI hf hb hd,sb];congr 1;simp;omega
section
open Classical
end
theorem zBO (h:a.length*80<=140737488355328):zbh a=some a:=by
 unfold zbh;have h1:(app 80 ([]:List Vlu) a>>=fun v=>some v)=some a:=by rw [zfm (by simp;omega),sb,xW]
 cases a with
 | nil=>exact zpZ rfl h1
 | cons=>exact h1
theorem zBN (h:a.length*48<=140737488355328):zbU a=some a:=by
 unfold zbU;have h1:(app 48 ([]:List Msg) a>>=fun v=>some v)=some a:=by rw [zfm (by simp;omega),sb,xW]
 cases a with
 | nil=>exact zpZ rfl h1
 | cons=>exact h1
theorem zxF (h:a.length*16<=140737488355328):zbN a=some a:=by
 unfold zbN;have h1:(app 16 ([]:List Str) a>>=fun v=>some v)=some a:=by rw [zfm (by simp;omega),sb,xW]
 cases a with
 | nil=>exact zpZ rfl h1
 | cons=>exact h1
theorem zDR (h:a.length*8<=140737488355328):zcB a=some a:=by
 unfold zcB;have h1:(app 8 ([]:List Int) a>>=fun v=>some v)=some a:=by rw [zfm (by simp;omega),sb,xW]
 cases a with
 | nil=>exact zpZ rfl h1
 | cons=>exact h1
theorem zwL {α:Type}:∀(l:List α) (i:Nat) (h:i<l.length),l.set i l[i]=l
 | [],i,h=>by simp at h
 | x::l,0,h=>rfl
 | x::l,i+1,h=>by simp only [List.set_cons_succ,pH];rw [zwL l i (by simpa using h)]
theorem zDG:∀(fuel:Nat),(∀x:Msg,szM x<fuel->bdM x->zhI fuel x=some x)/\∀v:Vlu,szV v<fuel->bdV v->zga fuel v=some v
 | 0=>⟨fun x h=>by omega,fun v h=>by omega⟩
 | fuel+1=>by
  obtain ⟨ih1,ih2⟩:=zDG fuel;refine ⟨fun x hs hb=>?_,fun v hs hb=>?_⟩
  ·obtain ⟨b1,⟨b2,b3⟩,b4⟩:=(zhK x).1 hb;rw [zdd] at hs;show zjx (zhI fuel) (zga fuel) x=_;unfold zjx;have hloop:∀(c i:Nat),i+c=x.Values.length->zhw (zga fuel) x.Values x.Values i=some x.Values:=by
    intro c
    induction c with
    | zero=>
     intro i hi;refine zsw ?_;unfold zdI;rw [uz]
    | succ c ih=>
     intro i hi;have hil:i<x.Values.length:=by omega
     have hm:=xB hil;have:=zei hm;refine (zsv (v':=x.Values) (v2':=((i+1:Nat):Int)) ?_).trans (ih (i+1) (by omega));unfold zdI;rw [uy,zH rfl hil,sb,ih2 _ (by omega) (zdO.1 b4 _ hm),sb,sb,uA,ym,zwL _ _ hil];push_cast;rfl
   have h:=hloop x.Values.length 0 (xD _);have h':zhw (zga fuel) x.Values x.Values 0=_:=h;rw [zBO (by omega),sb,zxF (by omega),sb,h',sb];cases x;rfl
  ·obtain ⟨b0,⟨b1,_⟩,⟨b2,b3⟩,b4,b5⟩:=(zhk v).1 hb;rw [zfI] at hs;show zgs (zhI fuel) (zga fuel) v=_;unfold zgs;have hloop:∀(c i:Nat),i+c=v.Subs.length->zeI (zhI fuel) v.Subs v.Subs i=some v.Subs:=by
    intro c
    induction c with
    | zero=>
     intro i hi;refine zoA ?_;unfold zbT;rw [uz]
    | succ c ih=>
     intro i hi;have hil:i<v.Subs.length:=by omega
     have hm:=xB hil;have:=zeT hm;refine (zoz (v2':=v.Subs) (v3':=((i+1:Nat):Int)) ?_).trans (ih (i+1) (by omega));unfold zbT;rw [uy,zH rfl hil,sb,ih1 _ (by omega) (zep.1 b5 _ hm),sb,sb,uA,ym,zwL _ _ hil];push_cast;rfl
   have h:=hloop v.Subs.length 0 (xD _);have h':zeI (zhI fuel) v.Subs v.Subs 0=_:=h;rw [zDR (by omega),sb,zxF (by omega),sb,zBN (by omega),sb,h',sb];cases v;rfl
theorem zBh (hf:szM x<fuel) (hb:bdM x) (hd:dM x<=131072):zlW fuel x=some x:=by
 unfold zlW;rw [zBi hf hb hd,sb,itF (by rfl),(zDG fuel).1 x hf hb,sb]
theorem zHM:∀a<256,ztv ((a:Nat):Int)=some (if a<128 then (1,(a:Int)) else if a/32=6 then (2,((a%32:Nat):Int)) else if a/16=14 then (3,((a%16:Nat):Int)) else if a/8=30 then (4,((a%8:Nat):Int)) else (0,0)):=by decide+kernel
theorem zzs (w k:Nat) (h:k<=32):shrI .u32 (w:Int) (k:Int)=((w/2^k:Nat):Int):=zBc (k:= .u32) (a:=w) (b:=k) (by simpa [IntKind.bits] using h)
theorem zvg (w:Nat):zoE (w:Int)=some (if w<128 then 1 else if w<2048 then 2 else if 55296<=w/\w<=57343 then 0 else if w<65536 then 3 else if w<=1114111 then 4 else 0):=by
 unfold zoE;have e7:shrI .u32 (w:Int) 7=((w/128:Nat):Int):=zzs w 7 (by omega);have e11:shrI .u32 (w:Int) 11=((w/2048:Nat):Int):=zzs w 11 (by omega);have e16:shrI .u32 (w:Int) 16=((w/65536:Nat):Int):=zzs w 16 (by omega);rw [e7,e11,e16];by_cases h1:w<128
 ·rw [uy,xu h1]
 ·rw [uz,xt h1];by_cases h2:w<2048
  ·rw [uy,xu h2]
  ·rw [uz,xt h2];by_cases h3:55296<=w/\w<=57343
   ·rw [uy,xu h3]
   ·rw [uz,xt h3];by_cases h4:w<65536
    ·rw [uy,xu h4]
    ·rw [uz,xt h4];by_cases h5:w<=1114111
     ·rw [uy,xu h5]
     ·rw [uz,xt h5]
theorem zEf:∀c<256,shrI .u8 ((c:Nat):Int) 6=((c/64:Nat):Int)/\IntKind.u32.wrap (andI .u8 ((c:Nat):Int) 63)=((c%64:Nat):Int):=by decide+kernel
theorem zlR {v:List UInt8} {w i:Nat} (h:i<v.length) (hv:v.length<=1000) (hw:w<=1000000):
  zdr v w i=if cont v[i] then zdr v ((64*w+v[i].toNat%64:Nat):Int) ((i+1:Nat):Int) else some (.inr ()):=by
 have hc:=v[i].toNat_lt;obtain ⟨e1,e2⟩:=zEf v[i].toNat (by omega);have hb:zft v w i=if cont v[i] then some (.inl (((64*w+v[i].toNat%64:Nat):Int),((i+1:Nat):Int))) else some (.inr (.inr ())):=by
  unfold zft;rw [uy,zH rfl h,sb,e1,e2];by_cases hk:cont v[i]=true
  ·rw [xu hk];unfold cont at hk;simp only [xK] at hk;rw [uz,uA];have e3:shlI .u32 (w:Int) 6=((w*64:Nat):Int):=by
    have:shlI .u32 (w:Int) 6=((w*64%4294967296:Nat):Int):=by simp [shlI,IntKind.bits,zBv]
    rw [this,Nat.mod_eq_of_lt (by omega)]
   rw [e3,zDx rfl (by simp [IntKind.bits];omega) (by simp [IntKind.bits];omega),Nat.or_comm,zAJ _ w 6 (by omega)];have e4:v[i].toNat%64+w*2^6=64*w+v[i].toNat%64:=by omega
   rw [e4];rfl
  ·rw [xt hk];unfold cont at hk;simp only [xK] at hk;rw [uy]
 by_cases hk:cont v[i]=true
 ·rw [xu hk] at hb|-;exact zuS hb
 ·rw [xt hk] at hb|-;exact zpw hb
theorem zsR (h:v.length<=i):zdr v w i=some (.inl (w:Int)):=by
 refine zpw ?_;unfold zft;rw [uz]
theorem zJx {w:Nat} {b:UInt8} (hw:w<=100):zdr [b] w 0=if cont b then some (.inl ((64*w+b.toNat%64:Nat):Int)) else some (.inr ()):=by
 have h:=zlR (v:=[b]) (w:=w) (i:=0) (by simp) (by simp) (by omega);refine Eq.trans h ?_;simp only [uh];rw [zsR (by simp)]
theorem zJy {w:Nat} {b c:UInt8} (hw:w<=100):zdr [b,c] w 0=if cont b then (if cont c then some (.inl ((64*(64*w+b.toNat%64)+c.toNat%64:Nat):Int)) else some (.inr ())) else some (.inr ()):=by
 have h:=zlR (v:=[b,c]) (w:=w) (i:=0) (by simp) (by simp) (by omega);refine Eq.trans h ?_;rw [zlR (i:=0+1) (by simp) (by simp) (by omega)];simp only [uh,pH,xD];rw [zsR (by simp)]
theorem zJz {w:Nat} {b c d:UInt8} (hw:w<=100):zdr [b,c,d] w 0=if cont b then (if cont c then (if cont d then some (.inl ((64*(64*(64*w+b.toNat%64)+c.toNat%64)+d.toNat%64:Nat):Int)) else some (.inr ())) else some (.inr ())) else some (.inr ()):=by
 have h:=zlR (v:=[b,c,d]) (w:=w) (i:=0) (by simp) (by simp) (by omega);refine Eq.trans h ?_;rw [zlR (i:=0+1) (by simp) (by simp) (by omega),zlR (i:=0+1+1) (by simp) (by simp) (by omega)];simp only [uh,pH,xD];rw [zsR (by simp)]
theorem zGm (n:Nat) (h:∀m,m≠n->isN m l=false):nxt l=if isN n l then n else 0:=by
 by_cases hn:isN n l=true
 ·rw [xu hn,zIQ hn]
 ·rw [xt hn];by_cases h0:nxt l=0
  ·exact h0
  ·have h1:=zvi h0;by_cases h2:nxt l=n
   ·rw [h2] at h1;exact absurd h1 hn
   ·rw [h _ h2] at h1;cases h1
theorem zop (n:Nat) (h:n=1/\a.toNat<128\/n=2/\192<=a.toNat/\a.toNat<224\/n=3/\224<=a.toNat/\a.toNat<240\/n=4/\240<=a.toNat):nxt (a::t)=if isN n (a::t) then n else 0:=by
 refine zGm n fun m hm=>?_
 cases hh:isN m (a::t) with
 | false=>rfl
 | true=>
  obtain ⟨a',t',e,_,g⟩:=zmk hh;cases e;omega
theorem zDk (b:List UInt8):zoD b=some ((nxt b:Nat):Int):=by
 cases b with
 | nil=>rfl
 | cons a t=>
  have ha:=a.toNat_lt;unfold zoD;have e00:idx (a::t) (0:Int)=some a:=zH (n:=0) rfl (by simp);rw [uz,e00,sb];rw [zHM _ (by omega),sb];by_cases h1:a.toNat<128
  ·rw [zop 1 (.inl ⟨rfl,h1⟩),xu h1];simp only;rw [uz,zqd (i:=1) (j:=1) (a:=1) (b:=1) rfl rfl (by omega) (by simp),sb];have e0:zdr (((a::t).drop 1).take (1 - 1)) (a.toNat:Int) 0=some (.inl (a.toNat:Int)):=zsR (i:=0) (by simp);rw [e0,sb];simp only;rw [zvg,sb,xu h1,itF (by rfl)];simp [isN,is1,h1]
  ·rw [xt h1];by_cases h2:a.toNat/32=6
   ·rw [zop 2 (.inr (.inl ⟨rfl,by omega,by omega⟩)),xu h2];simp only
    match t with
    | []=>rw [itT (by simp)];rfl
    | b::t=>
     rw [uz,zqd (i:=1) (j:=2) (a:=1) (b:=2) rfl rfl (by omega) (by simp),sb];have e0:=zJx (w:=a.toNat%32) (b:=b) (by omega);have e0':zdr (((a::b::t).drop 1).take (2 - 1)) ((a.toNat%32:Nat):Int) 0=_:=e0;rw [e0'];have hb:=b.toNat_lt;by_cases c1:cont b=true
     ·rw [xu c1,sb];simp only;have hn:=zvg (64*(a.toNat%32)+b.toNat%64);simp only [isN,is2,c1,and_true,xK];simp only [cont,xK] at c1;by_cases h:194<=a.toNat
      ·rw [xt (by omega),xu (by omega)] at hn;rw [hn,sb,itF (by rfl),xu (by omega)];rfl
      ·rw [xu (by omega)] at hn;rw [hn,sb,itT (by rfl),xt (by omega)];rfl
     ·rw [xt c1,sb];simp only;simp [isN,is2,c1]
   ·rw [xt h2];by_cases h3:a.toNat/16=14
    ·rw [zop 3 (.inr (.inr (.inl ⟨rfl,by omega,by omega⟩))),xu h3];simp only
     match t with
     | []=>rw [itT (by simp)];rfl
     | [b]=>rw [itT (by simp)];rfl
     | b::c::t=>
      rw [uz,zqd (i:=1) (j:=3) (a:=1) (b:=3) rfl rfl (by omega) (by simp),sb];have e0:=zJy (w:=a.toNat%16) (b:=b) (c:=c) (by omega);have e0':zdr (((a::b::c::t).drop 1).take (3 - 1)) ((a.toNat%16:Nat):Int) 0=_:=e0;rw [e0'];have hb:=b.toNat_lt;have hc:=c.toNat_lt;by_cases c1:cont b=true
      ·rw [xu c1];by_cases c2:cont c=true
       ·rw [xu c2,sb];simp only;have hn:=zvg (64*(64*(a.toNat%16)+b.toNat%64)+c.toNat%64);simp only [isN,is3,c1,c2,pi,xK];simp only [cont,xK] at c1 c2;by_cases h:(a.toNat=224->160<=b.toNat)/\(a.toNat=237->b.toNat<160)
        ·rw [xt (by omega),xt (by omega),xt (by omega),xu (by omega)] at hn;rw [hn,sb,itF (by rfl),xu (by omega)];rfl
        ·by_cases g:64*(64*(a.toNat%16)+b.toNat%64)+c.toNat%64<2048
         ·by_cases g':64*(64*(a.toNat%16)+b.toNat%64)+c.toNat%64<128
          ·rw [xu g'] at hn;rw [hn,sb,itT (by rfl),xt (by omega)];rfl
          ·rw [xt g',xu g] at hn;rw [hn,sb,itT (by rfl),xt (by omega)];rfl
         ·rw [xt (by omega),xt g,xu (by omega)] at hn;rw [hn,sb,itT (by rfl),xt (by omega)];rfl
       ·rw [xt c2,sb];simp only;simp [isN,is3,c2]
      ·rw [xt c1,sb];simp only;simp [isN,is3,c1]
    ·rw [xt h3];by_cases h4:a.toNat/8=30
     ·rw [zop 4 (.inr (.inr (.inr ⟨rfl,by omega⟩))),xu h4];simp only
      match t with
      | []=>rw [itT (by simp)];rfl
      | [b]=>rw [itT (by simp)];rfl
      | [b,c]=>rw [itT (by simp)];rfl
      | b::c::d::t=>
       rw [uz,zqd (i:=1) (j:=4) (a:=1) (b:=4) rfl rfl (by omega) (by simp),sb];have e0:=zJz (w:=a.toNat%8) (b:=b) (c:=c) (d:=d) (by omega);have e0':zdr (((a::b::c::d::t).drop 1).take (4 - 1)) ((a.toNat%8:Nat):Int) 0=_:=e0;rw [e0'];have hb:=b.toNat_lt;have hc:=c.toNat_lt;have hd:=d.toNat_lt;by_cases c1:cont b=true
       ·rw [xu c1];by_cases c2:cont c=true
        ·rw [xu c2];by_cases c3:cont d=true
         ·rw [xu c3,sb];simp only;have hn:=zvg (64*(64*(64*(a.toNat%8)+b.toNat%64)+c.toNat%64)+d.toNat%64);simp only [isN,is4,c1,c2,c3,pi,xK];simp only [cont,xK] at c1 c2 c3;by_cases h:a.toNat<245/\(a.toNat=240->144<=b.toNat)/\(a.toNat=244->b.toNat<144)
          ·rw [xt (by omega),xt (by omega),xt (by omega),xt (by omega),xu (by omega)] at hn;rw [hn,sb,itF (by rfl),xu (by omega)];rfl
          ·have hw:¬(65536<=64*(64*(64*(a.toNat%8)+b.toNat%64)+c.toNat%64)+d.toNat%64/\64*(64*(64*(a.toNat%8)+b.toNat%64)+c.toNat%64)+d.toNat%64<=1114111):=by omega
           generalize 64*(64*(64*(a.toNat%8)+b.toNat%64)+c.toNat%64)+d.toNat%64=w at hn hw
           have hx:∃x:Int,zoE w=some x/\x≠4:=⟨_,hn,by (repeat' split)<;>omega⟩;obtain ⟨x,hx,h4⟩:=hx;rw [hx,sb,uy,xt (by omega)];rfl
         ·rw [xt c3,sb];simp only;simp [isN,is4,c3]
        ·rw [xt c2,sb];simp only;simp [isN,is4,c2]
       ·rw [xt c1,sb];simp only;simp [isN,is4,c1]
     ·rw [xt h4,itT (by rfl)];by_cases h5:240<=a.toNat
      ·rw [zop 4 (.inr (.inr (.inr ⟨rfl,h5⟩)))];cases hh:isN 4 (a::t) with
       | false=>rfl
       | true=>
        match t,hh with
        | b::c::d::t,hh=>simp only [isN,is4,xK] at hh;omega
      ·by_cases h0:nxt (a::t)=0
       ·rw [h0];rfl
       ·obtain ⟨a',t',e,_,g⟩:=zmk (zvi h0);cases e;omega
theorem zEP (hb:b.length<=1152921504606846976) (l:List UInt8):∀(a c:Nat),c<=a->a<=b.length->l=b.drop a->
  ziL b a c ((nxt l:Nat):Int)=some (((a+(pre4 l).1:Nat):Int),((c+(pre4 l).2:Nat):Int)):=by
 refine zGu (fun l=>∀(a c:Nat),c<=a->a<=b.length->l=b.drop a->ziL b a c ((nxt l:Nat):Int)=some (((a+(pre4 l).1:Nat):Int),((c+(pre4 l).2:Nat):Int))) ?_ ?_ l
 ·intro l h a c hc ha hl;rw [h,zEu h];refine zuU ?_;unfold zfV;rw [itF (by rfl)];rfl
 ·intro l h ih a c hc ha hl;subst hl;have h4:=zzg (b.drop a);have hle:=zsi (b.drop a);simp only [yu] at hle;have e1:(b.drop a).drop (nxt (b.drop a))=b.drop (a+nxt (b.drop a)):=by rw [qI]
  refine (zuT (atv':=((a+nxt (b.drop a):Nat):Int)) (points':=((c+1:Nat):Int)) (size':=((nxt (b.drop (a+nxt (b.drop a))):Nat):Int)) ?_).trans ?_
  ·unfold zfV;rw [uy,uA,zqc (a:=a+nxt (b.drop a)) (by push_cast;rfl) rfl (by omega),sb,zDk,sb,uA];rfl
  ·rw [<-e1,ih (a+nxt (b.drop a)) (c+1) (by omega) (by omega) e1,zHN h];simp only [qA,Nat.add_comm 1]
theorem zGT (hb:b.length<=1152921504606846976):zqW b=some (((pre4 b).1:Int),((pre4 b).2:Int)):=by
 unfold zqW;rw [zDk,sb];have h:=zEP hb b 0 0 (xA _) (xH _) rfl;simp only [xD] at h;have h':ziL b 0 0 ((nxt b:Nat):Int)=some (((pre4 b).1:Int),((pre4 b).2:Int)):=h;rw [h',sb]
theorem zEO (hb:b.length<=1152921504606846976):zoB b=some ((pre4 b).1:Int):=by
 unfold zoB;rw [zGT hb,sb]
theorem zyv (hb:b.length<=1152921504606846976):zoC b=some (zlx b):=by
 unfold zoC zlx;rw [zEO hb,sb,zuV]
def zIP:List Str:=[[],[105,110,116,51,50],[105,110,116,54,52],[117,105,110,116,51,50],[117,105,110,116,54,52],[115,105,110,116,51,50],[115,105,110,116,54,52],[98,111,111,108],[101,110,117,109],[102,105,120,101,100,51,50],[115,102,105,120,101,100,51,50],[102,108,111,97,116],[102,105,120,101,100,54,52],[115,102,105,120,101,100,54,52],[100,111,117,98,108,101],[115,116,114,105,110,103],[98,121,116,101,115],[109,101,115,115,97,103,101]]
def zFO (k:Int):Str:=(zIP[k.toNat]?).getD []
def kT:List (Int×zv):=[(1,⟨[105,110,116,51,50],0⟩),(2,⟨[105,110,116,54,52],0⟩),(3,⟨[117,105,110,116,51,50],0⟩),(4,⟨[117,105,110,116,54,52],0⟩),(5,⟨[115,105,110,116,51,50],0⟩),(6,⟨[115,105,110,116,54,52],0⟩),(7,⟨[98,111,111,108],0⟩),(8,⟨[101,110,117,109],0⟩),(9,⟨[102,105,120,101,100,51,50],5⟩),(10,⟨[115,102,105,120,101,100,51,50],5⟩),(11,⟨[102,108,111,97,116],5⟩),(12,⟨[102,105,120,101,100,54,52],1⟩),(13,⟨[115,102,105,120,101,100,54,52],1⟩),(14,⟨[100,111,117,98,108,101],1⟩),(15,⟨[115,116,114,105,110,103],2⟩),(16,⟨[98,121,116,101,115],2⟩),(17,⟨[109,101,115,115,97,103,101],2⟩)]
theorem zAu:zmo=some kT:=rfl
theorem zuE (h:zfd k=true):k=1\/k=2\/k=3\/k=4\/k=5\/k=6\/k=7\/k=8\/k=9\/k=10\/k=11\/k=12\/k=13\/k=14\/k=15\/k=16\/k=17:=by
 have:=qe h;omega
theorem zIG (h:zfd k=true):mget kT k=some ⟨zFO k,zxS k⟩:=by
 rcases zuE h with rfl| rfl| rfl| rfl| rfl| rfl| rfl| rfl| rfl| rfl| rfl| rfl| rfl| rfl| rfl| rfl| rfl<;>rfl
theorem zHy (h:e∈kT):zfd e.1=true/\e.2=⟨zFO e.1,zxS e.1⟩:=by
 have:kT.all (fun e=>zfd e.1&&decide (e.2=⟨zFO e.1,zxS e.1⟩))=true:=by decide
 have h1:=xE.1 this e h;simp only [xy,xK] at h1;exact h1
theorem zHz (h:zfd k=false):mget kT k=none:=by
 cases hg:mget kT k with
 | none=>rfl
 | some x=>
  have mem:∀{m:List (Int×zv)} {x:zv},mget m k=some x->(k,x)∈m:=fun {m x} hg=>by
   induction m with
   | nil=>cases hg
   | cons p m ih=>
    rw [mget] at hg;split at hg
    ·rename_i e;cases hg;rw [e];exact xw
    ·exact xx _ (ih hg)
  have h1:=(zHy (mem hg)).1;simp only at h1;rw [h] at h1;cases h1
theorem zGb (k:Int):zol k=some (if zfd k then (zxS k,0) else (0,2)):=by
 unfold zol;rw [zAu,sb];cases h:zfd k with
 | true=>rw [zIG h];rfl
 | false=>rw [zHz h];rfl
theorem zCh (k:Int):zlg k=some (kNum k):=by
 unfold zlg;rw [zGb,sb];cases h:zfd k with
 | true=>
  rcases zuE h with rfl| rfl| rfl| rfl| rfl| rfl| rfl| rfl| rfl| rfl| rfl| rfl| rfl| rfl| rfl| rfl| rfl<;>rfl
 | false=>
  have h1:=of_decide_eq_false h;have:kNum k=false:=ya (by omega);rw [this];rfl
theorem zHB:kT.map Prod.fst=[1,2,3,4,5,6,7,8,9,10,11,12,13,14,15,16,17]:=rfl
theorem zHA:zqs=some [1,2,3,4,5,6,7,8,9,10,11,12,13,14,15,16,17]:=by
 have e:zvY kT=some [1,2,3,4,5,6,7,8,9,10,11,12,13,14,15,16,17]:=by
  unfold zvY;rw [xu ⟨by decide,by decide⟩,zHB,List.mergeSort_of_pairwise (by decide)]
 unfold zqs;rw [zAu,sb,e,sb]
theorem ztO (k:Int) (h:0<=w/\w<=18446744073709551615):zmn k w=some (if kNum k then (zjj k w,0) else (0,2)):=by
 have hs:=zCz w;have hc:=zFe k h;unfold zmn;by_cases h1:k=1\/k=8
 ·have e:(if (k==1)=true then some (k==1) else some (k==8))=some true:=by rcases h1 with rfl| rfl<;>rfl
  have hn:kNum k=true:=xU (by omega);rw [e,sb,itT rfl,zEB,sb,zEQ (by omega),sb,hn];unfold zjj;rw [xu h1];rfl
 ·have e:(if (k==1)=true then some (k==1) else some (k==8))=some false:=by rw [uz];simp;omega
  rw [e,sb,itF rfl];by_cases h2:k=3\/k=5\/k=9\/k=10\/k=11
  ·have e2:(if (k==3)=true then some (k==3) else if (k==5)=true then some (k==5) else if (k==9)=true then some (k==9) else if (k==10)=true then some (k==10) else some (k==11))=some true:=by
    rcases h2 with rfl| rfl| rfl| rfl| rfl<;>rfl
   have hn:kNum k=true:=xU (by omega);have hw:IntKind.u64.wrap (w%4294967296)=w%4294967296:=by rw [zjz];omega
   rw [e2,sb,itT rfl,zAD,sb,hn,hw];unfold zjj;rw [xt h1,xu h2];rfl
  ·have e2:(if (k==3)=true then some (k==3) else if (k==5)=true then some (k==5) else if (k==9)=true then some (k==9) else if (k==10)=true then some (k==10) else some (k==11))=some false:=by
    rw [uz,uz,uz,uz];simp;omega
   rw [e2,sb,itF rfl];by_cases h7:k=7
   ·have hn:kNum k=true:=xU (by omega);rw [itT (by simpa using h7),hn];unfold zoZ zjj;rw [sb,xt h1,xt h2,xu h7];by_cases h0:0<w
    ·rw [xu h0];by_cases h10:1<w
     ·rw [xu h10];rfl
     ·rw [xt h10,show w=1 by omega];rfl
    ·rw [xt h0,xt (by omega),show w=0 by omega];rfl
   ·rw [itF (by simpa using h7)];by_cases hn:kNum k=true
    ·have hk:=qe hn;have e3:(if (k==2)=true then some (k==2) else if (k==4)=true then some (k==4) else if (k==6)=true then some (k==6) else if (k==12)=true then some (k==12) else if (k==13)=true then some (k==13) else some (k==14))=some true:=by
      have:k=2\/k=4\/k=6\/k=12\/k=13\/k=14:=by omega
      rcases this with rfl| rfl| rfl| rfl| rfl| rfl<;>rfl
     rw [e3,sb,itT rfl,hn];unfold zjj;rw [xt h1,xt h2,xt h7];rfl
    ·have hn:kNum k=false:=by simpa using hn
     have hk:=of_decide_eq_false hn;have e3:(if (k==2)=true then some (k==2) else if (k==4)=true then some (k==4) else if (k==6)=true then some (k==6) else if (k==12)=true then some (k==12) else if (k==13)=true then some (k==13) else some (k==14))=some false:=by
      rw [uz,uz,uz,uz,uz];simp;omega
     rw [e3,sb,itF rfl,hn];rfl
end Go.Proofs.YtekgmimingolbaaGreat
