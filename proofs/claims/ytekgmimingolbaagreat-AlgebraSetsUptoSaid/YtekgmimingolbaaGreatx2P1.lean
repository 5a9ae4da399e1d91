/-
  What the plain functions are. No condition.
-/
import Derived.Test.YtekgmimingolbaaGreatx2S1
import Derived.Test.YtekgmimingolbaaGreatx2K2
set_option autoImplicit true
set_option relaxedAutoImplicit true
namespace Go.Proofs.YtekgmimingolbaaGreat
open Go
set_option linter.unusedVariables false
theorem zDE (w:Int):zlT w=some (w%4294967296):=by unfold zlT;rw [zEv]
theorem zHZ (w:Int):zmr w=some (sgnS w):=by
 unfold zmr;rw [zDE,sb,zIq];unfold sgnS;congr 1;split<;>split<;>omega
theorem zIp (h: -2147483648<=n/\n<=2147483647):zms n=some (zwX n):=by
 unfold zms;rw [uO,zkI];unfold zwX;congr 1;split<;>omega
theorem zFH (h:0<=w/\w<=18446744073709551615):zgw w=some (sgnS w):=by
 unfold zgw;rw [yP h.1,zt (x:=w%4294967296) (by omega)];unfold sgnS;by_cases h2:w%4294967296<2147483648
 ·rw [uN,xx h2]
 ·rw [uM,xw h2,uO]
theorem zKk (h: -9223372036854775808<=n/\n<=9223372036854775807):zhA n=some (zwX n):=by
 unfold zhA zwX;by_cases h0:0<=n
 ·rw [uM,xx h0,zkI,pr (by omega) (by omega)]
 ·rw [uN,xw h0];simp (disch:=omega) only [zt,zkI];congr 1;omega
def zfM (k:Int):Bool:=decide (1<=k/\k<=17)
def kNum (k:Int):Bool:=decide (1<=k/\k<=14)
def zAw (k:Int):Int:=if 15<=k then 2 else if 12<=k then 1 else if 9<=k then 5 else 0
def zkl (k w:Int):Int:=
 if k=1\/k=8 then zwX (sgnS w) else if k=3\/k=5\/k=9\/k=10\/k=11 then w%4294967296 else if k=7 then (if 0<w then 1 else 0) else w
theorem zvh (k:Int):zcZ k=some (zfM k):=by unfold zcZ zfM;simp [Bool.decide_and]
theorem zyY (k:Int):zdQ k=some (kNum k):=by unfold zdQ kNum;simp [Bool.decide_and]
theorem zDT (k:Int) (h:0<=w/\w<=18446744073709551615):zgW k w=some (zkl k w):=by
 have hs:=zFJ w;unfold zgW zkl;by_cases h1:k=1\/k=8
 ·rw [xx h1];have e:(if (k==1)=true then some (k==1) else some (k==8))=some true:=by rcases h1 with rfl| rfl<;>rfl
  rw [e,sb,itT rfl,zFH h,sb,zKk (by omega),sb]
 ·rw [xw h1];have e:(if (k==1)=true then some (k==1) else some (k==8))=some false:=by rw [uN];simp;omega
  rw [e,sb,itF rfl];by_cases h2:k=3\/k=5\/k=9\/k=10\/k=11
  ·rw [xx h2];have e2:(if (k==3)=true then some (k==3) else if (k==5)=true then some (k==5) else if (k==9)=true then some (k==9) else if (k==10)=true then some (k==10) else some (k==11))=some true:=by
    rcases h2 with rfl| rfl| rfl| rfl| rfl<;>rfl
   rw [e2,sb,itT rfl,yP h.1]
  ·rw [xw h2];have e2:(if (k==3)=true then some (k==3) else if (k==5)=true then some (k==5) else if (k==9)=true then some (k==9) else if (k==10)=true then some (k==10) else some (k==11))=some false:=by
    rw [uN,uN,uN,uN];simp;omega
   rw [e2,sb,itF rfl];by_cases h7:k=7
   ·rw [itT (by simpa using h7),xx h7];by_cases h0:0<w
    ·rw [itT (by simpa using h0),xx h0]
    ·rw [itF (by simpa using h0),xw h0]
   ·rw [itF (by simpa using h7),xw h7]
theorem zIH (k:Int) (h:0<=w/\w<=18446744073709551615):0<=zkl k w/\zkl k w<=18446744073709551615:=by
 have hs:=zFJ w;unfold zkl;split
 ·exact zLG (by omega)
 ·split
  ·omega
  ·split
   ·split<;>omega
   ·exact h
abbrev Fld:=ze
abbrev Mes:=zg
def zlq {α:Type} (p:α->Bool) (l:List α):Int:=match l.findIdx? p with
 | some i=>(i:Int)
 | none=> -1
theorem ziF {α:Type} {p:α->Bool} {l:List α} (h:l.findIdx? p=none):zlq p l= -1:=by unfold zlq;rw [h]
theorem ziG {α:Type} {p:α->Bool} {l:List α} {i:Nat} (h:l.findIdx? p=some i):zlq p l=(i:Int):=by unfold zlq;rw [h]
theorem zsR {α:Type} (p:α->Bool) (l:List α) (F:Int->Option (Unit⊕Int)) (h0:F (l.length:Int)=some (.inl ())) (hs:∀(i:Nat) (h:i<l.length),F (i:Int)=if p l[i] then some (.inr (i:Int)) else F ((i+1:Nat):Int)):
  ∀(d i:Nat),i+d=l.length->(∀j (h:j<l.length),j<i->p l[j]=false)->F (i:Int)=some (match l.findIdx? p with| some k=> .inr (k:Int)| none=> .inl ()):=by
 intro d
 induction d with
 | zero=>
  intro i hi hj;have:i=l.length:=by omega
  subst this;have hn:l.findIdx? p=none:=by
   rw [q6];intro x hx;obtain ⟨j,hj',rfl⟩:=qh hx;exact hj j hj' hj'
  rw [h0,hn]
 | succ d ih=>
  intro i hi hj;have hil:i<l.length:=by omega
  rw [hs i hil];by_cases hp:p l[i]=true
  ·have hf:l.findIdx? p=some i:=by
    rw [qH];exact ⟨hil,hp,fun j hji=>by simpa using hj j (by omega) hji⟩
   rw [xx hp,hf]
  ·rw [xw hp];refine ih (i+1) (by omega) fun j h hji=>?_
   by_cases e:j=i
   ·subst e;simpa using hp
   ·exact hj j h (by omega)
def fldI (m:Mes) (number:Int):Int:=zlq (fun f:Fld=>f.Number==number) m.Fields
theorem zle (hm:m.Fields.length<=1152921504606846976) (number:Int):zdA m number=some (fldI m number):=by
 unfold zdA fldI;have h:=zsR (fun f:Fld=>f.Number==number) m.Fields (fun i=>zea m number i) (by
   refine zkb ?_;unfold zbh;rw [itF (by simp)])
  (fun i hi=>by
   have hb:zbh m number i=if ((m.Fields[i]).Number==number)=true then some (.inr (.inr (i:Int))) else some (.inl ((i+1:Nat):Int)):=by
    unfold zbh;rw [uM,zI rfl hi,sb,uO];rfl
   by_cases hp:((m.Fields[i]).Number==number)=true
   ·rw [xx hp] at hb|-;exact zkb hb
   ·rw [xw hp] at hb|-;exact zor hb)
  m.Fields.length 0 (by omega) (fun j _ hj=>by omega)
 have h':zea m number 0=_:=h;rw [h',sb];unfold zlq;cases m.Fields.findIdx? (fun f:Fld=>f.Number==number)<;>rfl
def nmc (i:Nat) (c:UInt8):Bool:=decide (65<=c.toNat/\c.toNat<=90\/97<=c.toNat/\c.toNat<=122\/c.toNat=95\/0<i/\48<=c.toNat/\c.toNat<=57)
def nmA:Nat->List UInt8->Bool
 | _,[]=>true
 | i,c::l=>nmc i c&&nmA (i+1) l
def zdc (s:List UInt8):Bool:=nmA 0 s&&decide (1<=s.length/\s.length<=60)
theorem zba {α:Type} {l t:List α} {x:α} {k:Nat} (h:l.drop k=x::t):∃hk:k<l.length,l[k]=x/\l.drop (k+1)=t:=by
 have hk:k<l.length:=by
  rcases qe k l.length with h'| h'
  ·exact h'
  ·rw [yg h'] at h;cases h
 rw [xS hk] at h;injection h with h1 h2;exact ⟨hk,h1,h2⟩
theorem zbx {α:Type} {l:List α} {k:Nat} (h:l.drop k=[]):l.length<=k:=by have:=congrArg List.length h;simp at this;omega
theorem zHM (s:List UInt8) (hs:s.length<=1152921504606846976):∀(l:List UInt8) (i:Nat),s.drop i=l->zew s i=some (if nmA i l=true then .inl () else .inr ()):=by
 intro l
 induction l with
 | nil=>
  intro i hd;have:=zbx hd;refine zkt ?_;unfold zbr;rw [uN];rfl
 | cons c l ih=>
  intro i hd;obtain ⟨hk,hx,hd'⟩:=zba hd;have hb:zbr s i=if nmc i c=true then some (.inl ((i+1:Nat):Int)) else some (.inr (.inr ())):=by
   unfold zbr;rw [uM,zI rfl hk,sb,hx,uO];have e:(if (decide ((c.toNat:Int)>=65)) then ((decide ((c.toNat:Int)<=90))|| (if (decide ((c.toNat:Int)>=97)) then ((decide ((c.toNat:Int)<=122))|| (((c.toNat:Int)==95)|| ((decide ((i:Int)>0))&&((decide ((c.toNat:Int)>=48))&&(decide ((c.toNat:Int)<=57)))))) else (((c.toNat:Int)==95)|| ((decide ((i:Int)>0))&&((decide ((c.toNat:Int)>=48))&&(decide ((c.toNat:Int)<=57))))))) else (if (decide ((c.toNat:Int)>=97)) then ((decide ((c.toNat:Int)<=122))|| (((c.toNat:Int)==95)|| ((decide ((i:Int)>0))&&((decide ((c.toNat:Int)>=48))&&(decide ((c.toNat:Int)<=57)))))) else (((c.toNat:Int)==95)|| ((decide ((i:Int)>0))&&((decide ((c.toNat:Int)>=48))&&(decide ((c.toNat:Int)<=57)))))))=nmc i c:=by
    have e95:((c.toNat:Int)==95)=decide (c.toNat=95):=zxm _ 95;have a1:decide ((c.toNat:Int)>=65)=decide (65<=c.toNat):=yZ.2 (by omega);have a2:decide ((c.toNat:Int)<=90)=decide (c.toNat<=90):=yZ.2 (by omega);have a3:decide ((c.toNat:Int)>=97)=decide (97<=c.toNat):=yZ.2 (by omega);have a4:decide ((c.toNat:Int)<=122)=decide (c.toNat<=122):=yZ.2 (by omega);have a5:decide ((i:Int)>0)=decide (0<i):=yZ.2 (by omega);have a6:decide ((c.toNat:Int)>=48)=decide (48<=c.toNat):=yZ.2 (by omega);have a7:decide ((c.toNat:Int)<=57)=decide (c.toNat<=57):=yZ.2 (by omega);rw [e95,a1,a2,a3,a4,a5,a6,a7];simp only [nmc,Bool.decide_or,Bool.decide_and]
    generalize decide (65<=c.toNat)=p1
    generalize decide (c.toNat<=90)=p2
    generalize decide (97<=c.toNat)=p3
    generalize decide (c.toNat<=122)=p4
    generalize decide (c.toNat=95)=p5
    generalize decide (0<i)=p6
    generalize decide (48<=c.toNat)=p7
    generalize decide (c.toNat<=57)=p8
    cases p1<;>cases p2<;>cases p3<;>cases p4<;>cases p5<;>cases p6<;>cases p7<;>cases p8<;>rfl
   rw [e];cases nmc i c
   ·rw [itT (by rfl)];rfl
   ·rw [itF (by rfl)];push_cast;rfl
  rw [nmA];cases hc:nmc i c
  ·rw [hc,xw (by simp)] at hb;rw [zkt hb];rfl
  ·rw [hc,xx rfl] at hb;rw [zpc hb,ih _ hd',xQ]
theorem zyZ (hs:s.length<=1152921504606846976):zgj s=some (zdc s):=by
 unfold zgj zdc;have h:=zHM s hs s 0 rfl;have h':zew s 0=_:=h;rw [h',sb];cases nmA 0 s
 ·rfl
 ·simp [Bool.decide_and];rw [yB];simp;omega
def zei (n:Int) (prev:List Fld) (f:Fld):Int:=
 if zdc f.Name=false then 5 else if prev.any (fun g=>g.Name==f.Name)=true then 6
 else if f.Number<1\/f.Number>536870911\/(19000<=f.Number/\f.Number<20000) then 7
 else if prev.any (fun g=>g.Number==f.Number)=true then 8 else if zfM f.Kind=false then 9
 else if f.Packed=true/\¬(f.Repeated=true/\kNum f.Kind=true) then 10
 else if f.Kind=17/\(f.Of<0\/f.Of>=n)\/f.Kind≠17/\f.Of≠0 then 11 else 0
theorem zye (n:Int) (prev:List Fld) (f:Fld):0<=zei n prev f/\zei n prev f<=11:=by
 unfold zei
 repeat' split
 all_goals omega
theorem zEW {s:List Mes} {i k:Nat} {m:Mes} (hi:∃h:i<s.length,s[i]=m) (hk:k<=m.Fields.length) (hb:m.Fields.length<=1152921504606846976) (f:Fld):
  ∀(l:List Fld) (j:Nat) (a b:Bool),(m.Fields.take k).drop j=l->j<=k->zdZ i k s f a b j=some (a|| l.any (fun g=>g.Name==f.Name),b|| l.any (fun g=>g.Number==f.Number)):=by
 obtain ⟨hi,hm⟩:=hi;intro l
 induction l with
 | nil=>
  intro j a b hd hj;have:=zbx hd;rw [yf] at this;refine zoq ?_;unfold zbE;rw [uN];simp
 | cons g l ih=>
  intro j a b hd hj;obtain ⟨hjk,hx,hd'⟩:=zba hd;rw [yf] at hjk;rw [pM] at hx;refine (zop (name':=a|| (g.Name==f.Name)) (number':=b|| (g.Number==f.Number)) (j':=((j+1:Nat):Int)) ?_).trans ?_
  ·unfold zbE;have e1:idx s (i:Int)=some m:=by rw [zI rfl hi,hm]
   have e2:idx m.Fields (j:Int)=some g:=by rw [zI rfl (by omega),hx]
   rw [uM,e1,sb,e2,sb,uO];cases a<;>cases b<;>(simp only [qq,qr,yD,e2,sb,q7,pu];push_cast;rfl)
  ·rw [ih _ _ _ hd' (by omega),q8,q8,uo,uo]
theorem zDU {s:List Mes} {i k:Nat} {m:Mes} {f:Fld} (hi:∃h:i<s.length,s[i]=m) (hk:∃h:k<m.Fields.length,m.Fields[k]=f) (hb:m.Fields.length<=1152921504606846976) (hf:f.Name.length<=1152921504606846976):
  zgY s i k=some (zei s.length (m.Fields.take k) f):=by
 obtain ⟨hil,hm⟩:=hi;obtain ⟨hkl,hfe⟩:=hk;have e1:idx s (i:Int)=some m:=by rw [zI rfl hil,hm]
 have e2:idx m.Fields (k:Int)=some f:=by rw [zI rfl hkl,hfe]
 have h:=zEW ⟨hil,hm⟩ (Nat.le_of_lt hkl) hb f (m.Fields.take k) 0 false false rfl (xF _);have h':zdZ i k s f false false 0=_:=h;unfold zgY zei;rw [e1,sb,e2,sb,h',sb,zyZ hf,sb];simp only [q7];cases h1:zdc f.Name
 ·rw [itT (by rfl),xx (show false=false from rfl)]
 ·rw [itF (by rfl),xw (show ¬(true=false) by simp)];cases h2:(m.Fields.take k).any (fun g=>g.Name==f.Name)
  ·rw [itF (by rfl),xw (show ¬(false=true) by simp)];by_cases h3:f.Number<1\/f.Number>536870911\/(19000<=f.Number/\f.Number<20000)
   ·rw [itT (by simpa using h3),xx h3]
   ·rw [uN,xw h3];cases h4:(m.Fields.take k).any (fun g=>g.Number==f.Number)
    ·rw [itF (by rfl),xw (show ¬(false=true) by simp),zvh,sb];cases h5:zfM f.Kind
     ·rw [itT (by rfl),xx (show false=false from rfl)]
     ·rw [itF (by rfl),xw (show ¬(true=false) by simp)];have e10:(if f.Packed=true then (if f.Repeated=true then (zdQ f.Kind>>=fun rv3=>some (!rv3)) else some (!false)) else some false)=some (decide (f.Packed=true/\¬(f.Repeated=true/\kNum f.Kind=true))):=by
       rw [zyY,sb];cases f.Packed<;>cases f.Repeated<;>cases kNum f.Kind<;>rfl
      rw [e10,sb];by_cases h6:f.Packed=true/\¬(f.Repeated=true/\kNum f.Kind=true)
      ·rw [itT (ya h6),xx h6]
      ·rw [itF (yb h6),xw h6];by_cases h7:f.Kind=17
       ·by_cases h8:f.Of<0\/f.Of>=(s.length:Int)
        ·rw [itT (by simp [h7];simpa using h8),xx (.inl ⟨h7,h8⟩)]
        ·rw [itF (by simp [h7];omega),xw (by simp [h7];omega)]
       ·by_cases h8:f.Of=0
        ·rw [itF (by simp [h7,h8]),xw (by simp [h7,h8])]
        ·rw [itT (by simp [h7,h8]),xx (.inr ⟨h7,h8⟩)]
    ·rw [itT (by rfl),xx (show true=true from rfl)]
  ·rw [itT (by rfl),xx (show true=true from rfl)]
def msgF (n:Int) (prev:List Fld):List Fld->Option (Nat×Int)
 | []=>none
 | f::l=>if 0<zei n prev f then some (prev.length,zei n prev f) else msgF n (prev++[f]) l
def chkF (n:Int) (prev:List Mes):List Mes->Option (Nat×Int×Int)
 | []=>none
 | m::l=>if zdc m.Name=false then some (prev.length, -1,2) else if prev.any (fun g=>g.Name==m.Name)=true then some (prev.length, -1,3)
  else if 200<m.Fields.length then some (prev.length, -1,4) else match msgF n [] m.Fields with
   | some (k,w)=>some (prev.length,(k:Int),w)
   | none=>chkF n (prev++[m]) l
def zlo (s:List Mes):Int×Int×Int:=if s.length=0\/100<s.length then (-1, -1,1) else match chkF s.length [] s with
 | none=>(0,0,0)
 | some (i,k,w)=>((i:Int),k,w)
def zeS (s:List Mes):Bool:=decide ((zlo s).2.2=0)
def WS (s:List Mes):Prop:=s.length<=140737488351232/\∀m∈s,m.Name.length<=140737488351232/\m.Fields.length<=140737488351232/\∀f∈m.Fields,f.Name.length<=140737488351232
theorem zCT {s:List Mes} {i:Nat} {m:Mes} (hi:∃h:i<s.length,s[i]=m) (hb:m.Fields.length<=140737488351232) (hn:∀f∈m.Fields,f.Name.length<=140737488351232):
  ∀(l:List Fld) (k:Nat),m.Fields.drop k=l->k<=m.Fields.length->zdY i s k=some (match msgF s.length (m.Fields.take k) l with| some (j,w)=> .inr ((j:Int),w)| none=> .inl ()):=by
 obtain ⟨hil,hm⟩:=hi;have e1:idx s (i:Int)=some m:=by rw [zI rfl hil,hm]
 intro l
 induction l with
 | nil=>
  intro k hd hk;have:=zbx hd;refine zka ?_;unfold zbg;rw [e1,sb,uN];rfl
 | cons f l ih=>
  intro k hd hk;obtain ⟨hkl,hx,hd'⟩:=zba hd;have hf:=zDU (s:=s) (i:=i) (k:=k) (m:=m) (f:=f) ⟨hil,hm⟩ ⟨hkl,hx⟩ (by omega) (by have:=hn f (by rw [<-hx];exact xD hkl);omega);have hbd:=zye s.length (m.Fields.take k) f;have htl:(m.Fields.take k).length=k:=by rw [yf];omega
  rw [msgF];by_cases h0:0<zei s.length (m.Fields.take k) f
  ·rw [xx h0];refine zka ?_;unfold zbg;rw [e1,sb,uM,hf,sb,itT (by simpa using h0)];simp only [htl]
  ·rw [xw h0];refine (zoo (k2':=((k+1:Nat):Int)) ?_).trans ?_
   ·unfold zbg;rw [e1,sb,uM,hf,sb,uN,uO];push_cast;rfl
   ·rw [ih (k+1) hd' (by omega),yx hkl,hx]
theorem zCS (hi:∃h:i<s.length,s[i]=m) (hs:s.length<=140737488351232):
  ∀(l:List Mes) (k:Nat) (a:Bool),(s.take i).drop k=l->k<=i->zdX i s a k=some (a|| l.any (fun g=>g.Name==m.Name)):=by
 obtain ⟨hil,hm⟩:=hi;intro l
 induction l with
 | nil=>
  intro k a hd hk;have:=zbx hd;rw [yf] at this;refine zon ?_;unfold zbD;rw [uN];simp
 | cons g l ih=>
  intro k a hd hk;obtain ⟨hkl,hx,hd'⟩:=zba hd;rw [yf] at hkl;rw [pM] at hx;refine (zom (twice':=a|| (g.Name==m.Name)) (k':=((k+1:Nat):Int)) ?_).trans ?_
  ·unfold zbD;have e1:idx s (i:Int)=some m:=by rw [zI rfl hil,hm]
   have e2:idx s (k:Int)=some g:=by rw [zI rfl (by omega),hx]
   rw [uM,e1,e2,sb,sb,uO];cases a<;>(simp only [qq,qr,yD,sb,q7,pu];push_cast;rfl)
  ·rw [ih _ _ hd' (by omega),q8,uo]
theorem zCR (hw:WS s):∀(l:List Mes) (i:Nat),s.drop i=l->i<=s.length->zdW s i=some (match chkF s.length (s.take i) l with| some (j,k,w)=> .inr ((j:Int),k,w)| none=> .inl ()):=by
 intro l
 induction l with
 | nil=>
  intro i hd hi;have:=zbx hd;refine zdN ?_;unfold zbf;rw [uN];rfl
 | cons m l ih=>
  intro i hd hi;obtain ⟨hil,hx,hd'⟩:=zba hd;obtain ⟨hsl,hwm⟩:=hw;obtain ⟨w1,w2,w3⟩:=hwm m (by rw [<-hx];exact xD hil);have htl:(s.take i).length=i:=by rw [yf];omega
  have e1:idx s (i:Int)=some m:=by rw [zI rfl hil,hx]
  have h2:=zCS ⟨hil,hx⟩ hsl (s.take i) 0 false rfl (xF _);have h2':zdX i s false 0=_:=h2;have h3:=zCT ⟨hil,hx⟩ w2 w3 m.Fields 0 rfl (xF _);have h3':zdY i s 0=_:=h3
  have hb:zbf s i=(if zdc m.Name=false then some (.inr (.inr ((i:Int), -1,2))) else if (s.take i).any (fun g=>g.Name==m.Name)=true then some (.inr (.inr ((i:Int), -1,3)))
    else if 200<m.Fields.length then some (.inr (.inr ((i:Int), -1,4))) else match msgF s.length [] m.Fields with
     | some (k,w)=>some (.inr (.inr ((i:Int),(k:Int),w)))
     | none=>some (.inl ((i+1:Nat):Int))):=by
   unfold zbf;rw [uM,h2',sb,e1,sb,zyZ (by omega),sb,sb,h3',sb,q7];cases h4:zdc m.Name
   ·rw [itT (by rfl),xx (show false=false from rfl)]
   ·rw [itF (by rfl),xw (show ¬(true=false) by simp)];cases h5:(s.take i).any (fun g=>g.Name==m.Name)
    ·rw [itF (by rfl),xw (show ¬(false=true) by simp)];by_cases h6:200<m.Fields.length
     ·rw [uM,xx h6]
     ·rw [uN,xw h6,yE];cases msgF s.length [] m.Fields with
      | none=>simp only;rw [uO];push_cast;rfl
      | some p=>rfl
    ·rw [itT (by rfl),xx (show true=true from rfl)]
  rw [chkF];by_cases h4:zdc m.Name=false
  ·rw [xx h4] at hb|-;rw [zdN hb];simp only [htl]
  ·rw [xw h4] at hb|-;by_cases h5:(s.take i).any (fun g=>g.Name==m.Name)=true
   ·rw [xx h5] at hb|-;rw [zdN hb];simp only [htl]
   ·rw [xw h5] at hb|-;by_cases h6:200<m.Fields.length
    ·rw [xx h6] at hb|-;rw [zdN hb];simp only [htl]
    ·rw [xw h6] at hb|-;cases h7:msgF s.length [] m.Fields with
     | some p=>
      rw [h7] at hb;rw [zdN hb];simp only [htl]
     | none=>
      rw [h7] at hb;rw [zol hb,ih _ hd' (by omega),yx hil,hx]
theorem zzK (hw:WS s):zgX s=some (zlo s):=by
 unfold zgX zlo;by_cases h:s.length=0\/100<s.length
 ·have e0:((s.length:Int)==0)=decide (s.length=0):=zxm _ 0;rw [e0,itT (by simp only [qd,xN];omega),xx h]
 ·have e0:((s.length:Int)==0)=decide (s.length=0):=zxm _ 0;rw [e0,itF (by simp only [ql,qI];omega),xw h];have h1:=zCR hw s 0 rfl (xF _);have h1':zdW s 0=_:=h1;rw [h1',sb,yE];cases chkF s.length [] s with
  | none=>rfl
  | some p=>rfl
theorem zzL (hw:WS s):zgZ s=some (zeS s):=by
 unfold zgZ zeS;rw [zzK hw,sb];rfl
theorem zvX :∀(l prev:List Fld),msgF n prev l=none↔∀(k:Nat) (f:Fld),l[k]? =some f->zei n (prev++l.take k) f=0
 | [],prev=>by simp [msgF]
 | f::l,prev=>by
  have hb:=zye n prev f;rw [msgF];by_cases h:0<zei n prev f
  ·rw [xx h];refine ⟨(fun h'=>nomatch h'),fun h'=>?_⟩;have:=h' 0 f rfl;simp at this;omega
  ·rw [xw h,zvX l (prev++[f])];constructor
   ·intro h' k g hg;cases k with
    | zero=>simp at hg;subst hg;simp;omega
    | succ k=>have:=h' k g (by simpa using hg);simpa using this
   ·intro h' k g hg;have:=h' (k+1) g (by simpa using hg);simpa using this
theorem zAc :∀(l prev:List Mes),chkF n prev l=none↔∀(i:Nat) (m:Mes),l[i]? =some m->zdc m.Name=true/\(prev++l.take i).any (fun g=>g.Name==m.Name)=false/\m.Fields.length<=200/\msgF n [] m.Fields=none
 | [],prev=>by simp [chkF]
 | m::l,prev=>by
  rw [chkF];by_cases h1:zdc m.Name=false
  ·rw [xx h1];refine ⟨(fun h'=>nomatch h'),fun h'=>?_⟩;have:=(h' 0 m rfl).1;rw [h1] at this;cases this
  ·rw [xw h1];by_cases h2:prev.any (fun g=>g.Name==m.Name)=true
   ·rw [xx h2];refine ⟨(fun h'=>nomatch h'),fun h'=>?_⟩;have:=(h' 0 m rfl).2.1;simp only [yE,yG] at this;rw [h2] at this;cases this
   ·rw [xw h2];by_cases h3:200<m.Fields.length
    ·rw [xx h3];refine ⟨(fun h'=>nomatch h'),fun h'=>?_⟩;have:=(h' 0 m rfl).2.2.1;omega
    ·rw [xw h3];cases h4:msgF n [] m.Fields with
     | some p=>
      refine ⟨(fun h'=>nomatch h'),fun h'=>?_⟩;have:=(h' 0 m rfl).2.2.2;rw [h4] at this;cases this
     | none=>
      simp only;rw [zAc l (prev++[m])];constructor
      ·intro h' i g hg;cases i with
       | zero=>simp at hg;subst hg;exact ⟨by simpa using h1,by simpa using h2,by omega,h4⟩
       | succ i=>have:=h' i g (by simpa using hg);simpa using this
      ·intro h' i g hg;have:=h' (i+1) g (by simpa using hg);simpa using this
theorem zLo:∀(n:Int) (l prev:List Fld) (k:Nat) (w:Int),msgF n prev l=some (k,w)->0<w:=by
 intro n l
 induction l with
 | nil=>intro prev k w h;cases h
 | cons f l ih=>
  intro prev k w h;rw [msgF] at h;split at h
  ·cases h;assumption
  ·exact ih _ _ _ h
theorem zGc:∀(n:Int) (l prev:List Mes) (i:Nat) (k w:Int),chkF n prev l=some (i,k,w)->0<w:=by
 intro n l
 induction l with
 | nil=>intro prev i k w h;cases h
 | cons m l ih=>
  intro prev i k w h;rw [chkF] at h;split at h
  ·cases h;omega
  ·split at h
   ·cases h;omega
   ·split at h
    ·cases h;omega
    ·split at h
     ·rename_i k' w' h';cases h;exact zLo _ _ _ _ _ h'
     ·exact ih _ _ _ _ h
structure zLL (n:Int) (f:Fld):Prop where
 name:zdc f.Name=true
 lo:1<=f.Number
 hi:f.Number<=536870911
 kind:zfM f.Kind=true
 packed:f.Packed=true->f.Repeated=true/\kNum f.Kind=true
 sub:f.Kind=17->0<=f.Of/\f.Of<n
 noSub:f.Kind≠17->f.Of=0
theorem zyf (h:zei n prev f=0):zLL n f/\prev.any (fun g=>g.Name==f.Name)=false/\prev.any (fun g=>g.Number==f.Number)=false:=by
 unfold zei at h;split at h
 ·omega
 ·rename_i h1;split at h
  ·omega
  ·rename_i h2;split at h
   ·omega
   ·rename_i h3;split at h
    ·omega
    ·rename_i h4;split at h
     ·omega
     ·rename_i h5;split at h
      ·omega
      ·rename_i h6;split at h
       ·omega
       ·rename_i h7;refine ⟨⟨by simpa using h1,by omega,by omega,by simpa using h5,fun hp=>?_,fun hk=>by omega,fun hk=>by omega⟩,by simpa using h2,by simpa using h4⟩;by_cases hq:f.Repeated=true/\kNum f.Kind=true
        ·exact hq
        ·exact absurd ⟨hp,hq⟩ h6
structure zeZ (s:List Mes):Prop where
 len:1<=s.length/\s.length<=100
 name:∀m∈s,zdc m.Name=true
 names:∀(i j:Nat) (a b:Mes),i<j->s[i]? =some a->s[j]? =some b->a.Name≠b.Name
 few:∀m∈s,m.Fields.length<=200
 fld:∀m∈s,∀f∈m.Fields,zLL s.length f
 nums:∀m∈s,∀(i j:Nat) (f g:Fld),i<j->m.Fields[i]? =some f->m.Fields[j]? =some g->f.Number≠g.Number/\f.Name≠g.Name
theorem zvK {α:Type} {l:List α} {p:α->Bool} (h:l.any p=false) {x:α} (hx:x∈l):p x=false:=by
 rw [up] at h;simpa using h x hx
theorem zwm {s:List Mes} (h:zeS s=true):zeZ s:=by
 have h0:(zlo s).2.2=0:=by simpa [zeS] using h
 have h1:¬(s.length=0\/100<s.length):=fun hh=>by unfold zlo at h0;rw [xx hh] at h0;simp at h0
 have h2:chkF s.length [] s=none:=by
  cases h4:chkF s.length [] s with
  | none=>rfl
  | some p=>
   exfalso;obtain ⟨i,k,w⟩:=p;have h5:(zlo s).2.2=w:=by unfold zlo;rw [xw h1,h4]
   have:=zGc _ _ _ _ _ _ h4;omega
 have h3:=(zAc s []).1 h2;have at':∀m∈s,zdc m.Name=true/\m.Fields.length<=200/\msgF s.length [] m.Fields=none:=fun m hm=>by
  obtain ⟨i,hi,rfl⟩:=qh hm;have:=h3 i _ (xI hi);exact ⟨this.1,this.2.2.1,this.2.2.2⟩
 refine ⟨by omega,fun m hm=>(at' m hm).1,fun i j a b hij ha hb=>?_,fun m hm=>(at' m hm).2.1,fun m hm f hf=>?_,fun m hm i j f g hij hf hg=>?_⟩
 ·have:=(h3 j b hb).2.1;have hai:a∈([]++s.take j:List Mes):=by
   rw [xV];exact qA (i:=i) (by rw [yH,xx hij];exact ha)
  simpa using zvK this hai
 ·have h4:=(zvX m.Fields []).1 (at' m hm).2.2;obtain ⟨i,hi,rfl⟩:=qh hf;exact (zyf (h4 i _ (xI hi))).1
 ·have h4:=(zvX m.Fields []).1 (at' m hm).2.2;obtain ⟨_,k1,k2⟩:=zyf (h4 j g hg);have hai:f∈([]++m.Fields.take j:List Fld):=by
   rw [xV];exact qA (i:=i) (by rw [yH,xx hij];exact hf)
  exact ⟨by simpa using zvK k2 hai,by simpa using zvK k1 hai⟩
theorem znZ {α:Type} [DecidableEq α] (a b:List α) (F:Int->Option (Unit⊕Unit)) (hl:a.length=b.length) (h0:F (a.length:Int)=some (.inl ()))
  (hs:∀(i:Nat) (h:i<a.length) (h':i<b.length),F (i:Int)=if a[i]=b[i] then F ((i+1:Nat):Int) else some (.inr ())):
  ∀(d i:Nat),i+d=a.length->F (i:Int)=some (if a.drop i=b.drop i then .inl () else .inr ()):=by
 intro d
 induction d with
 | zero=>
  intro i hi;have e1:a.drop i=[]:=yg (by omega);have e2:b.drop i=[]:=yg (by omega);have:i=a.length:=by omega
  rw [e1,e2,xx rfl,this,h0]
 | succ d ih=>
  intro i hi;rw [hs i (by omega) (by omega),xS (l:=a) (by omega),xS (l:=b) (by omega)];by_cases h:a[i]'(by omega)=b[i]'(by omega)
  ·rw [xx h,ih (i+1) (by omega),h];simp only [yL,q9]
  ·rw [xw h,xw (fun e=>h (List.cons.inj e).1)]
theorem zHo {s:List Mes} {i:Nat} {m:Mes} (hi:∃h:i<s.length,s[i]=m) (hb:m.Fields.length<=140737488351232):∀(d k:Nat) (n:Int),k+d=m.Fields.length->∃r,zfl i s n k=some r:=by
 obtain ⟨hil,hm⟩:=hi;have e1:idx s (i:Int)=some m:=by rw [zI rfl hil,hm]
 intro d
 induction d with
 | zero=>
  intro k n hk;refine ⟨n,zpF ?_⟩;unfold zch;rw [e1,sb,uN]
 | succ d ih=>
  intro k n hk;obtain ⟨r,hr⟩:=ih (k+1) (IntKind.i64.wrap (n+(IntKind.i64.wrap (Int.tdiv (((m.Fields[k]'(by omega)).Name.length:Int)) 100)))) (by omega);refine ⟨r,(zpE (k':=((k+1:Nat):Int)) ?_).trans hr⟩;unfold zch;rw [e1,sb,uM,sb,zI rfl (by omega),sb,zt (x:=(k:Int)+1) (by omega)];push_cast;rfl
theorem zMh {s:List Mes} (hw:WS s):∃b,zil s=some b:=by
 obtain ⟨hs,hm⟩:=hw;have key:∀(d i:Nat) (n:Int),i+d=s.length->∃r,zfk s n i=some r:=by
  intro d
  induction d with
  | zero=>
   intro i n hi;refine ⟨n,zpD ?_⟩;unfold zcg;rw [uN]
  | succ d ih=>
   intro i n hi;have hil:i<s.length:=by omega
   obtain ⟨q,hq⟩:=zHo (s:=s) (i:=i) (m:=s[i]) ⟨hil,rfl⟩ (hm _ (xD hil)).2.1 (s[i]).Fields.length 0
    (IntKind.i64.wrap ((IntKind.i64.wrap ((IntKind.i64.wrap (n+1))+(IntKind.i64.wrap (Int.tdiv ((s[i]).Name.length:Int) 100))))+((s[i]).Fields.length:Int))) (by omega)
   have hq':zfl i s (IntKind.i64.wrap ((IntKind.i64.wrap ((IntKind.i64.wrap (n+1))+(IntKind.i64.wrap (Int.tdiv ((s[i]).Name.length:Int) 100))))+((s[i]).Fields.length:Int))) 0=some q:=hq;obtain ⟨r,hr⟩:=ih (i+1) q (by omega);refine ⟨r,(zpC (i':=((i+1:Nat):Int)) ?_).trans hr⟩;unfold zcg;rw [uM,zI rfl hil,sb,sb,hq',sb,zt (x:=(i:Int)+1) (by omega)];push_cast;rfl
 obtain ⟨r,hr⟩:=key s.length 0 0 (by omega);have hr':zfk s 0 0=some r:=hr;exact ⟨_,by unfold zil;rw [hr',sb]⟩
def zLR (m:Mes) (p:Int):Int:=(m.Fields.getD p.toNat ⟨[],0,0,false,false,0⟩).Number
def zIA (κ:Int->Int) (a b:Int):Prop:=κ a<κ b\/κ a=κ b/\a<b
def zkf:List (List UInt8)->List UInt8
 | []=>[]
 | [x]=>x
 | x::y::l=>x++46::zkf (y::l)
def zrX (out:List UInt8) (first:Bool):List (List UInt8)->List UInt8
 | []=>out
 | x::l=>zrX ((if first then out else out++[46])++x) false l
theorem zwA:∀(l:List (List UInt8)) (out:List UInt8),l≠[]->zrX out false l=out++46::zkf l
 | [],_,h=>absurd rfl h
 | [x],out,_=>by simp [zrX,zkf]
 | x::y::l,out,_=>by
  rw [zrX,zwA (y::l) _ (by simp),zkf];simp
theorem zJo (l:List (List UInt8)):zrX [] true l=zkf l:=by
 match l with
 | []=>rfl
 | [x]=>simp [zrX,zkf]
 | x::y::l=>rw [zrX,zwA (y::l) _ (by simp),zkf];simp
theorem zAt:∀(l:List (List UInt8)) (out:List UInt8) (f:Bool),out.length<=(zrX out f l).length
 | [],_,_=>xC _
 | x::l,out,f=>by
  refine yi ?_ (zAt l _ false);cases f<;>simp<;>omega
theorem zDv {l:List (List UInt8)} (hl:l.length<=1099511627776):∀(t:List (List UInt8)) (i:Nat) (out:List UInt8),l.drop i=t->(zrX out (decide (i=0)) t).length<=1152921504606846976->
  zex l out i=some (zrX out (decide (i=0)) t):=by
 intro t
 induction t with
 | nil=>
  intro i out hd _;have:=zbx hd;refine zpe ?_;unfold zbT;rw [uN];rfl
 | cons x t ih=>
  intro i out hd hb;obtain ⟨hk,hx,hd'⟩:=zba hd;rw [zrX] at hb|-;have h1:=yi (zAt t ((if decide (i=0)=true then out else out++[46])++x) false) hb;have hi0:decide (i+1=0)=false:=by simp
  refine (zpd (out':=(if decide (i=0)=true then out else out++[46])++x) (i':=((i+1:Nat):Int)) ?_).trans ?_
  ·unfold zbT;rw [uM];by_cases h0:i=0
   ·subst h0;simp only [pv,yD] at h1|-;rw [itF (by rfl),sb,zI rfl hk,sb,hx,zEL (by rw [yd] at h1;omega),sb];rw [uO];push_cast;rfl
   ·simp only [h0,pw,qq,qr] at h1|-;simp only [yd,ye,px] at h1;rw [uM,zEL (by simp;omega),sb,sb,zI rfl hk,sb,hx,zEL (by simp;omega),sb,uO];push_cast;rfl
  ·have:=ih (i+1) ((if decide (i=0)=true then out else out++[46])++x) hd' (by rw [hi0];exact hb);rw [hi0] at this;exact this
theorem zCa {l:List (List UInt8)} (hl:l.length<=1099511627776) (hb:(zkf l).length<=1152921504606846976):zhE l=some (zkf l):=by
 unfold zhE;rw [<-zJo] at hb|-;have h:=zDv hl l 0 [] rfl hb;have h':zex l [] 0=_:=h;rw [h',sb];rfl
def znk (l:List (List UInt8)):Bool:=l.all zdc&&decide (1<=l.length/\l.length<=65)
def cpN (r:Nat):List Nat:=
 if r<128 then [r] else if r<2048 then [192+r/64,128+r%64]
 else if r<65536 then (if 55296<=r/\r<=57343 then [] else [224+r/4096,128+r/64%64,128+r%64])
 else if r<=1114111 then [240+r/262144,128+r/4096%64,128+r/64%64,128+r%64] else []
def cpB (r:Nat):List UInt8:=(cpN r).map UInt8.ofNat
def cont (c:UInt8):Bool:=decide (128<=c.toNat/\c.toNat<192)
def is1:List UInt8->Bool
 | a::_=>decide (a.toNat<128)
 | _=>false
def is2:List UInt8->Bool
 | a::b::_=>decide (194<=a.toNat/\a.toNat<224/\cont b=true)
 | _=>false
def is3:List UInt8->Bool
 | a::b::c::_=>decide (224<=a.toNat/\a.toNat<240/\cont b=true/\cont c=true/\(a.toNat=224->160<=b.toNat)/\(a.toNat=237->b.toNat<160))
 | _=>false
def is4:List UInt8->Bool
 | a::b::c::d::_=>decide (240<=a.toNat/\a.toNat<245/\cont b=true/\cont c=true/\cont d=true/\(a.toNat=240->144<=b.toNat)/\(a.toNat=244->b.toNat<144))
 | _=>false
def nxt (l:List UInt8):Nat:=if is1 l then 1 else if is2 l then 2 else if is3 l then 3 else if is4 l then 4 else 0
theorem zva (h:n<256):(UInt8.ofNat n=c)↔n=c.toNat:=by
 constructor
 ·intro e;rw [<-e,UInt8.toNat_ofNat'];omega
 ·intro e;rw [e,UInt8.ofNat_toNat]
theorem zKd (r:Int):zin r=some (if r<0 then [] else cpB r.toNat):=by
 unfold zin;by_cases h0:r<0
 ·rw [uM,xx h0]
 ·rw [xw h0];obtain ⟨n,rfl⟩:∃n:Nat,r=n:=⟨r.toNat,by omega⟩;rw [yk];unfold cpB cpN;by_cases h1:n<128
  ·rw [uN,uM,xx h1,zxH,zjf (n:=n) (by omega) (by omega)];rfl
  ·rw [xw h1];by_cases h2:n<2048
   ·rw [uN,uN,uM,xx h2];simp only [pN (show (0:Int)<=n by omega),yP (show (0:Int)<=n by omega),zxH];rw [zt (x:=(n:Int)/64) (by omega),uO,uO,zjf (n:=192+n/64) (by omega) (by omega),sb,zjf (n:=128+n%64) (by omega) (by omega)];rfl
   ·rw [xw h2];by_cases h3:n<65536
    ·rw [xx h3];by_cases h4:55296<=n/\n<=57343
     ·rw [uM,xx h4];rfl
     ·rw [uN,uN,uN,uM,xw h4];simp only [pN (show (0:Int)<=n by omega),yP (show (0:Int)<=n by omega),zxH]
      rw [zt (x:=(n:Int)/4096) (by omega),zt (x:=(n:Int)/64) (by omega),yP (by omega),uO,uO,uO,
       zjf (n:=224+n/4096) (by omega) (by omega),sb,zjf (n:=128+n/64%64) (by omega) (by omega),sb,zjf (n:=128+n%64) (by omega) (by omega)];rfl
    ·rw [xw h3];by_cases h4:n<=1114111
     ·rw [uN,uN,uN,uN,xx h4];simp only [pN (show (0:Int)<=n by omega),yP (show (0:Int)<=n by omega),zxH]
      rw [zt (x:=(n:Int)/262144) (by omega),zt (x:=(n:Int)/4096) (by omega),zt (x:=(n:Int)/64) (by omega),yP (by omega),yP (by omega),uO,uO,uO,uO,
       zjf (n:=240+n/262144) (by omega) (by omega),sb,zjf (n:=128+n/4096%64) (by omega) (by omega),sb,zjf (n:=128+n/64%64) (by omega) (by omega),sb,zjf (n:=128+n%64) (by omega) (by omega)];rfl
     ·rw [uM,xw h4];rfl
def zyb:Nat->List UInt8->Nat
 | 1,a::_=>a.toNat
 | 2,a::b::_=>64*(a.toNat%32)+b.toNat%64
 | 3,a::b::c::_=>64*(64*(a.toNat%16)+b.toNat%64)+c.toNat%64
 | 4,a::b::c::d::_=>64*(64*(64*(a.toNat%8)+b.toNat%64)+c.toNat%64)+d.toNat%64
 | _,_=>0
theorem map1 (h:∀x∈l,x<256):l.map UInt8.ofNat=[a]↔l=[a.toNat]:=by
 cases l with
 | nil=>simp
 | cons x l=>cases l with
  | nil=>simp only [xU,yX,yL,and_true];exact zva (h x (by simp))
  | cons y l=>simp
theorem map2 (h:∀x∈l,x<256):l.map UInt8.ofNat=[a,b]↔l=[a.toNat,b.toNat]:=by
 cases l with
 | nil=>simp
 | cons x l=>simp only [xU,yL,zva (h x (by simp)),map1 (l:=l) fun y hy=>h y (by simp [hy])]
theorem map3 (h:∀x∈l,x<256):l.map UInt8.ofNat=[a,b,c]↔l=[a.toNat,b.toNat,c.toNat]:=by
 cases l with
 | nil=>simp
 | cons x l=>simp only [xU,yL,zva (h x (by simp)),map2 (l:=l) fun y hy=>h y (by simp [hy])]
theorem map4 (h:∀x∈l,x<256):l.map UInt8.ofNat=[a,b,c,d]↔l=[a.toNat,b.toNat,c.toNat,d.toNat]:=by
 cases l with
 | nil=>simp
 | cons x l=>simp only [xU,yL,zva (h x (by simp)),map3 (l:=l) fun y hy=>h y (by simp [hy])]
theorem zBo (r:Nat):∀x∈cpN r,x<256:=by
 intro x hx;unfold cpN at hx;split at hx
 ·simp at hx;omega
 ·split at hx
  ·simp at hx;omega
  ·split at hx
   ·split at hx
    ·cases hx
    ·simp at hx;omega
   ·split at hx
    ·simp at hx;omega
    ·cases hx
theorem cpB1 (a:UInt8):cpB a.toNat=[a]↔a.toNat<128:=by
 have ha:=a.toNat_lt;unfold cpB;rw [map1 (zBo _)];unfold cpN;by_cases h:a.toNat<128
 ·simp [h]
 ·rw [xw h,xx (by omega)];simp;omega
theorem cpB2 (a b:UInt8):cpB (64*(a.toNat%32)+b.toNat%64)=[a,b]↔194<=a.toNat/\a.toNat<224/\cont b=true:=by
 have ha:=a.toNat_lt;have hb:=b.toNat_lt;unfold cpB cont;rw [map2 (zBo _)];unfold cpN;by_cases h:64*(a.toNat%32)+b.toNat%64<128
 ·rw [xx h];simp;omega
 ·rw [xw h,xx (by omega)];simp;omega
theorem cpB3 (a b c:UInt8):cpB (64*(64*(a.toNat%16)+b.toNat%64)+c.toNat%64)=[a,b,c]↔224<=a.toNat/\a.toNat<240/\cont b=true/\cont c=true/\(a.toNat=224->160<=b.toNat)/\(a.toNat=237->b.toNat<160):=by
 have ha:=a.toNat_lt;have hb:=b.toNat_lt;have hc:=c.toNat_lt;unfold cpB cont;rw [map3 (zBo _)];unfold cpN;by_cases h:64*(64*(a.toNat%16)+b.toNat%64)+c.toNat%64<128
 ·rw [xx h];simp;omega
 ·rw [xw h];by_cases h2:64*(64*(a.toNat%16)+b.toNat%64)+c.toNat%64<2048
  ·rw [xx h2];simp;omega
  ·rw [xw h2,xx (by omega)];by_cases h3:55296<=64*(64*(a.toNat%16)+b.toNat%64)+c.toNat%64/\64*(64*(a.toNat%16)+b.toNat%64)+c.toNat%64<=57343
   ·rw [xx h3];simp;omega
   ·rw [xw h3];simp;omega
theorem cpB4 (a b c d:UInt8):cpB (64*(64*(64*(a.toNat%8)+b.toNat%64)+c.toNat%64)+d.toNat%64)=[a,b,c,d]↔
  240<=a.toNat/\a.toNat<245/\cont b=true/\cont c=true/\cont d=true/\(a.toNat=240->144<=b.toNat)/\(a.toNat=244->b.toNat<144):=by
 have ha:=a.toNat_lt;have hb:=b.toNat_lt;have hc:=c.toNat_lt;have hd:=d.toNat_lt;unfold cpB cont;rw [map4 (zBo _)];unfold cpN;by_cases h:64*(64*(64*(a.toNat%8)+b.toNat%64)+c.toNat%64)+d.toNat%64<65536
 ·have:∀l:List Nat,l.length<=3->(l=[a.toNat,b.toNat,c.toNat,d.toNat])=False:=fun l hl=>by simp only [eq_iff_iff,iff_false];intro e;rw [e] at hl;simp at hl
  rw [xx h];split
  ·rw [this _ (by simp)];simp;omega
  ·split
   ·rw [this _ (by simp)];simp;omega
   ·split
    ·rw [this _ (by simp)];simp;omega
    ·rw [this _ (by simp)];simp;omega
 ·rw [xw (by omega),xw (by omega),xw h];by_cases h2:64*(64*(64*(a.toNat%8)+b.toNat%64)+c.toNat%64)+d.toNat%64<=1114111
  ·rw [xx h2];simp;omega
  ·rw [xw h2];simp;omega
def isN (n:Nat) (l:List UInt8):Bool:=match n with
 | 1=>is1 l
 | 2=>is2 l
 | 3=>is3 l
 | 4=>is4 l
 | _=>false
theorem zGt (n:Nat) (l:List UInt8) (h1:1<=n) (h4:n<=4) (hl:n<=l.length):cpB (zyb n l)=l.take n↔isN n l=true:=by
 match n,l,h1,h4,hl with
 | 1,a::t,_,_,_=>simp only [zyb,yS,yE,cpB1,isN,is1,xN]
 | 2,a::b::t,_,_,_=>simp only [zyb,yS,yE,cpB2,isN,is2,xN]
 | 3,a::b::c::t,_,_,_=>simp only [zyb,yS,yE,cpB3,isN,is3,xN]
 | 4,a::b::c::d::t,_,_,_=>simp only [zyb,yS,yE,cpB4,isN,is4,xN]
theorem zGu (n:Nat) (l:List UInt8) (h:l.length<n):isN n l=false:=by
 match n,l with
 | 0,_=>rfl
 | 1,[]=>rfl
 | 2,[]=>rfl
 | 2,[_]=>rfl
 | 3,[]=>rfl
 | 3,[_]=>rfl
 | 3,[_,_]=>rfl
 | 4,[]=>rfl
 | 4,[_]=>rfl
 | 4,[_,_]=>rfl
 | 4,[_,_,_]=>rfl
 | n+5,_=>rfl
 | 1,_::_=>simp at h
 | 2,_::_::_=>simp at h;omega
 | 3,_::_::_::_=>simp at h;omega
 | 4,_::_::_::_::_=>simp at h;omega
theorem zsW {b:List UInt8} {a n i r:Nat} (hb:b.length<=1152921504606846976) (hn:n<=4) (h:i<n) (ha:a+i<b.length) (hr:r<=1000000000):
  zcs a b n r i=zcs a b n ((64*r+(b[a+i]).toNat%64:Nat):Int) ((i+1:Nat):Int):=by
 refine zpa ?_;unfold zbS;have hc:=(b[a+i]).toNat_lt;rw [uM,uO,zI (show (a:Int)+i=((a+i:Nat):Int) by push_cast;rfl) ha,sb];simp (disch:=omega) only [zt,yP];push_cast;rfl
theorem zBD (h:n<=i):zcs a b n r i=some (r:Int):=by
 refine zpb ?_;unfold zbS;rw [uN]
theorem znI {b:List UInt8} {a i:Nat} {c:UInt8} (h:(b.drop a)[i]? =some c):∃h:a+i<b.length,b[a+i]=c:=by
 rw [qc] at h;exact yl.1 h
theorem zMW {b:List UInt8} {a n:Nat} {c:UInt8} {t:List UInt8} (hb:b.length<=1152921504606846976) (hl:b.drop a=c::t) (h1:1<=n) (h4:n<=4) (hn:n<=(b.drop a).length):
  zcs a b n ((if 1<n then c.toNat%([0,0,32,16,8].getD n 0) else c.toNat:Nat):Int) (1:Nat)=some ((zyb n (b.drop a):Nat):Int):=by
 have hc:=c.toNat_lt;rw [hl] at hn
 match n,t,h1,h4,hn with
 | 1,t,_,_,_=>rw [zBD (by omega),hl];rfl
 | 2,x::t,_,_,_=>
  obtain ⟨g1,e1⟩:=znI (b:=b) (a:=a) (i:=1) (c:=x) (by rw [hl];rfl);rw [xx (by omega),zsW hb (by omega) (by omega) g1 (by simp;omega),zBD (by omega),hl,e1];rfl
 | 3,x::y::t,_,_,_=>
  obtain ⟨g1,e1⟩:=znI (b:=b) (a:=a) (i:=1) (c:=x) (by rw [hl];rfl);obtain ⟨g2,e2⟩:=znI (b:=b) (a:=a) (i:=2) (c:=y) (by rw [hl];rfl);have hx:=x.toNat_lt;rw [xx (by omega),zsW hb (by omega) (by omega) g1 (by simp;omega),zsW hb (by omega) (by omega) g2 (by simp;omega),zBD (by omega),hl,e1,e2];rfl
 | 4,x::y::z::t,_,_,_=>
  obtain ⟨g1,e1⟩:=znI (b:=b) (a:=a) (i:=1) (c:=x) (by rw [hl];rfl);obtain ⟨g2,e2⟩:=znI (b:=b) (a:=a) (i:=2) (c:=y) (by rw [hl];rfl);obtain ⟨g3,e3⟩:=znI (b:=b) (a:=a) (i:=3) (c:=z) (by rw [hl];rfl);have hx:=x.toNat_lt;have hy:=y.toNat_lt;rw [xx (by omega),zsW hb (by omega) (by omega) g1 (by simp;omega),zsW hb (by omega) (by omega) g2 (by simp;omega),zsW hb (by omega) (by omega) g3 (by simp;omega),zBD (by omega),hl,e1,e2,e3];rfl
theorem zLM {b:List UInt8} {a n:Nat} (hb:b.length<=1152921504606846976) (ha:a<=b.length) (h1:1<=n) (h5:n<=5):
  zbR a b n=if isN n (b.drop a) then some (.inr (.inr (n:Int))) else if n<=4/\n<=(b.drop a).length then some (.inl ((n+1:Nat):Int)) else some (.inr (.inl ())):=by
 have hdl:(b.drop a).length=b.length - a:=by simp
 unfold zbR;by_cases h:n<=4/\n<=(b.drop a).length
 ·rw [xx h,uO,uM];obtain ⟨c,t,hl⟩:∃c t,b.drop a=c::t:=by
   cases hh:b.drop a with
   | nil=>rw [hh] at h;simp at h;omega
   | cons c t=>exact ⟨c,t,rfl⟩
  obtain ⟨g0,e0⟩:=znI (b:=b) (a:=a) (i:=0) (c:=c) (by rw [hl];rfl);have hc:=c.toNat_lt;rw [zI rfl (show a<b.length by omega),sb];have e0':b[a]'(by omega)=c:=by simpa using e0
  rw [e0',uO];have hp:(if (decide ((n:Int)>1))=true then (idx ([0,0,32,16,8]:(List Int)) (n:Int)>>=fun x2=>remI (c.toNat:Int) x2>>=fun v3=>some v3) else some (c.toNat:Int))=some (((if 1<n then c.toNat%([0,0,32,16,8].getD n 0) else c.toNat:Nat)):Int):=by
   match n,h1,h.1 with
   | 1,_,_=>rfl
   | 2,_,_=>rfl
   | 3,_,_=>rfl
   | 4,_,_=>rfl
  rw [hp,sb];have h2:=zMW hb hl h1 h.1 h.2;have h2':zcs a b n ((if 1<n then c.toNat%([0,0,32,16,8].getD n 0) else c.toNat:Nat):Int) 1=some ((zyb n (b.drop a):Nat):Int):=h2;rw [h2',sb,zKd,sb,xw (by omega),yk,zrF rfl (show (a:Int)+n=((a+n:Nat):Int) by push_cast;rfl) (by omega) (by omega),sb,uE];by_cases hi:isN n (b.drop a)=true
  ·rw [xx hi,itT (by simpa using (zGt n _ h1 h.1 h.2).2 hi)]
  ·rw [xw hi,itF (by simpa using fun e=>hi ((zGt n _ h1 h.1 h.2).1 e)),uO];rfl
 ·have hn:isN n (b.drop a)=false:=by
   by_cases h4:n<=4
   ·exact zGu _ _ (by omega)
   ·have:n=5:=by omega
    subst this;rfl
  rw [xw h,hn,uO,uN];rfl
theorem zza {b:List UInt8} {a:Nat} (hb:b.length<=1152921504606846976) (ha:a<=b.length):zhC b a=some ((nxt (b.drop a):Nat):Int):=by
 have key:∀(k n:Nat),n+k=5->1<=n->(∀j,1<=j->j<n->isN j (b.drop a)=false)->∃q,zev a b n=some q/\(match q with| .inl _=>(0:Int)| .inr u=>u)=((nxt (b.drop a):Nat):Int):=by
  intro k
  induction k with
  | zero=>
   intro n hn h1 hj;have:n=5:=by omega
   subst this;refine ⟨.inl (),zhY ?_,?_⟩
   ·rw [zLM hb ha h1 (by omega),xw (by simp [isN]),xw (by omega)]
   ·have j1:=hj 1 (by omega) (by omega);have j2:=hj 2 (by omega) (by omega);have j3:=hj 3 (by omega) (by omega);have j4:=hj 4 (by omega) (by omega);simp only [isN] at j1 j2 j3 j4;simp [nxt,j1,j2,j3,j4]
  | succ k ih=>
   intro n hn h1 hj;have hb1:=zLM hb ha h1 (show n<=5 by omega);by_cases hi:isN n (b.drop a)=true
   ·rw [xx hi] at hb1;refine ⟨.inr n,zhY hb1,?_⟩;have e:nxt (b.drop a)=n:=by
     match n,h1,(show n<=4 by omega),hi,hj with
     | 1,_,_,hi,_=>simp only [isN] at hi;simp [nxt,hi]
     | 2,_,_,hi,hj=>have j1:=hj 1 (by omega) (by omega);simp only [isN] at hi j1;simp [nxt,hi,j1]
     | 3,_,_,hi,hj=>have j1:=hj 1 (by omega) (by omega);have j2:=hj 2 (by omega) (by omega);simp only [isN] at hi j1 j2;simp [nxt,hi,j1,j2]
     | 4,_,_,hi,hj=>have j1:=hj 1 (by omega) (by omega);have j2:=hj 2 (by omega) (by omega);have j3:=hj 3 (by omega) (by omega);simp only [isN] at hi j1 j2 j3;simp [nxt,hi,j1,j2,j3]
    simp only [e]
   ·rw [xw hi] at hb1;by_cases hl:n<=4/\n<=(b.drop a).length
    ·rw [xx hl] at hb1;obtain ⟨q,h2,h3⟩:=ih (n+1) (by omega) (by omega) fun j g1 g2=>by
      by_cases he:j=n
      ·subst he;simpa using hi
      ·exact hj j g1 (by omega)
     exact ⟨q,(zoZ hb1).trans h2,h3⟩
    ·rw [xw hl] at hb1;refine ⟨.inl (),zhY hb1,?_⟩;have hall:∀j,1<=j->isN j (b.drop a)=false:=fun j g1=>by
      by_cases g2:j<n
      ·exact hj j g1 g2
      ·by_cases g3:j<=4
       ·exact zGu _ _ (by omega)
       ·match j,g3 with
        | j+5,_=>rfl
     have j1:=hall 1 (by omega);have j2:=hall 2 (by omega);have j3:=hall 3 (by omega);have j4:=hall 4 (by omega);simp only [isN] at j1 j2 j3 j4;simp [nxt,j1,j2,j3,j4]
 obtain ⟨q,h1,h2⟩:=key 4 1 rfl (by omega) fun j g1 g2=>by omega
 unfold zhC;have h1':zev a b 1=some q:=h1;rw [h1',sb,<-h2];cases q<;>rfl
theorem znJ (h:isN n l=true):∃a t,l=a::t/\n<=l.length/\(n=1/\a.toNat<128\/n=2/\194<=a.toNat/\a.toNat<224\/n=3/\224<=a.toNat/\a.toNat<240\/n=4/\240<=a.toNat):=by
 match n,l with
 | 1,a::t=>simp only [isN,is1,xN] at h;exact ⟨a,t,rfl,by simp,.inl ⟨rfl,h⟩⟩
 | 2,a::b::t=>simp only [isN,is2,xN] at h;exact ⟨a,_,rfl,by simp,.inr (.inl ⟨rfl,h.1,h.2.1⟩)⟩
 | 3,a::b::c::t=>simp only [isN,is3,xN] at h;exact ⟨a,_,rfl,by simp,.inr (.inr (.inl ⟨rfl,h.1,h.2.1⟩))⟩
 | 4,a::b::c::d::t=>simp only [isN,is4,xN] at h;exact ⟨a,_,rfl,by simp,.inr (.inr (.inr ⟨rfl,h.1⟩))⟩
 | 0,_=>cases h
 | 1,[]=>cases h
 | 2,[]=>cases h
 | 2,[_]=>cases h
 | 3,[]=>cases h
 | 3,[_]=>cases h
 | 3,[_,_]=>cases h
 | 4,[]=>cases h
 | 4,[_]=>cases h
 | 4,[_,_]=>cases h
 | 4,[_,_,_]=>cases h
 | _+5,_=>cases h
theorem zLc (h:isN n l=true) (h':isN m l=true):n=m:=by
 obtain ⟨a,t,e,_,g⟩:=znJ h;obtain ⟨a',t',e',_,g'⟩:=znJ h';rw [e] at e';cases e';omega
theorem zMw (h:isN n l=true):nxt l=n:=by
 obtain ⟨_,_,_,_,g⟩:=znJ h;have k:∀m,m≠n->isN m l=false:=fun m hm=>by
  cases hh:isN m l with
  | false=>rfl
  | true=>exact absurd (zLc hh h) hm
 have hn:n=1\/n=2\/n=3\/n=4:=by omega
 rcases hn with rfl| rfl| rfl| rfl
 ·simp only [isN] at h;simp [nxt,h]
 ·have j1:=k 1 (by omega);simp only [isN] at h j1;simp [nxt,h,j1]
 ·have j1:=k 1 (by omega);have j2:=k 2 (by omega);simp only [isN] at h j1 j2;simp [nxt,h,j1,j2]
 ·have j1:=k 1 (by omega);have j2:=k 2 (by omega);have j3:=k 3 (by omega);simp only [isN] at h j1 j2 j3;simp [nxt,h,j1,j2,j3]
theorem zxz (h:nxt l≠0):isN (nxt l) l=true:=by
 unfold nxt at h|-;by_cases h1:is1 l=true
 ·simp [h1,isN]
 ·by_cases h2:is2 l=true
  ·simp [h1,h2,isN]
  ·by_cases h3:is3 l=true
   ·simp [h1,h2,h3,isN]
   ·by_cases h4:is4 l=true
    ·simp [h1,h2,h3,h4,isN]
    ·simp [h1,h2,h3,h4] at h
theorem zub (l:List UInt8):nxt l<=l.length:=by
 by_cases h:nxt l=0
 ·omega
 ·obtain ⟨_,_,_,g,_⟩:=znJ (zxz h);exact g
theorem zBO (l:List UInt8):nxt l<=4:=by
 by_cases h:nxt l=0
 ·omega
 ·obtain ⟨_,_,_,_,g⟩:=znJ (zxz h);omega
def fst4 (m:Int) (l:List UInt8):Nat×Nat:=
 if h:nxt l=0\/(nxt l:Int)>m then (0,0) else (nxt l+(fst4 (m - nxt l) (l.drop (nxt l))).1,(fst4 (m - nxt l) (l.drop (nxt l))).2+1)
termination_by l.length
decreasing_by all_goals (have:=zub l;simp only [yA];omega)
theorem zsS (h:nxt l=0\/(nxt l:Int)>m):fst4 m l=(0,0):=by rw [fst4,dif_pos h]
theorem zxs (h:¬(nxt l=0\/(nxt l:Int)>m)):fst4 m l=(nxt l+(fst4 (m - nxt l) (l.drop (nxt l))).1,(fst4 (m - nxt l) (l.drop (nxt l))).2+1):=by rw [fst4,dif_neg h]
theorem zIY (P:Int->List UInt8->Prop) (h0:∀m l,(nxt l=0\/(nxt l:Int)>m)->P m l) (h1:∀m l,¬(nxt l=0\/(nxt l:Int)>m)->P (m - nxt l) (l.drop (nxt l))->P m l) (m:Int) (l:List UInt8):P m l:=by
 generalize hn:l.length=n
 induction n using Nat.strongRecOn generalizing m l with
 | _ n ih=>
  by_cases h:nxt l=0\/(nxt l:Int)>m
  ·exact h0 m l h
  ·have:=zub l;exact h1 m l h (ih _ (by simp only [yA];omega) _ _ rfl)
theorem zzN {b:List UInt8} (hb:b.length<=140737488355328) (most:Int) (m:Int) (l:List UInt8):∀(a c:Nat),c<=a->a<=b.length->l=b.drop a->m=most - a->
  zdq b most a c=some (((a+(fst4 m l).1:Nat):Int),((c+(fst4 m l).2:Nat):Int)):=by
 refine zIY (fun m l=>∀(a c:Nat),c<=a->a<=b.length->l=b.drop a->m=most - a->zdq b most a c=some (((a+(fst4 m l).1:Nat):Int),((c+(fst4 m l).2:Nat):Int))) ?_ ?_ m l
 ·intro m l h a c hc ha hl hm;subst hl hm;have h4:=zBO (b.drop a);refine zoj ?_;unfold zbC;rw [zza (by omega) ha,sb,uO,uM,zsS h];rfl
 ·intro m l h ih a c hc ha hl hm;subst hl hm;have h4:=zBO (b.drop a);have hle:=zub (b.drop a);simp only [yA] at hle;refine (zoi (atv':=((a+nxt (b.drop a):Nat):Int)) (count':=((c+1:Nat):Int)) ?_).trans ?_
  ·unfold zbC;rw [zza (by omega) ha,sb,uO,uN,uO];rfl
  ·rw [ih (a+nxt (b.drop a)) (c+1) (by omega) (by omega) (by rw [qG]) (by omega),zxs h];simp only [qT,Nat.add_comm 1]
theorem zDY (hb:b.length<=140737488355328) (most:Int):zgU b most=some (((fst4 most b).1:Int),((fst4 most b).2:Int)):=by
 unfold zgU;have h:=zzN hb most most b 0 0 (xC _) (xF _) rfl (by omega);simp only [xH] at h;have h':zdq b most 0 0=some (((fst4 most b).1:Int),((fst4 most b).2:Int)):=h;rw [h',sb]
def pre4 (l:List UInt8):Nat×Nat:=fst4 l.length l
theorem zIX (h:(l.length:Int)<=m):fst4 m l=pre4 l:=by
 have key:∀(n:Nat) (l:List UInt8) (m m':Int),l.length=n->(l.length:Int)<=m->(l.length:Int)<=m'->fst4 m l=fst4 m' l:=by
  intro n
  induction n using Nat.strongRecOn with
  | _ n ih=>
   intro l m m' hn hm hm';have hle:=zub l;by_cases h:nxt l=0
   ·rw [zsS (.inl h),zsS (.inl h)]
   ·rw [zxs (m:=m) (l:=l) (by omega),zxs (m:=m') (l:=l) (by omega),ih _ (by simp only [yA];omega) (l.drop (nxt l)) (m - nxt l) (m' - nxt l) rfl (by simp only [yA];omega) (by simp only [yA];omega)]
 exact key _ l m l.length rfl h (yO _)
theorem zHS (h:nxt l=0):pre4 l=(0,0):=zsS (.inl h)
theorem zLr (h:nxt l≠0):pre4 l=(nxt l+(pre4 (l.drop (nxt l))).1,(pre4 (l.drop (nxt l))).2+1):=by
 have hle:=zub l;unfold pre4;rw [zxs (by omega),zIX (m:=(l.length:Int) - nxt l) (by simp only [yA];omega)];rfl
theorem zJX (P:List UInt8->Prop) (h0:∀l,nxt l=0->P l) (h1:∀l,nxt l≠0->P (l.drop (nxt l))->P l) (l:List UInt8):P l:=by
 generalize hn:l.length=n
 induction n using Nat.strongRecOn generalizing l with
 | _ n ih=>
  by_cases h:nxt l=0
  ·exact h0 l h
  ·have:=zub l;exact h1 l h (ih _ (by simp only [yA];omega) _ rfl)
def zmU (l:List UInt8):Bool:=decide ((pre4 l).1=l.length)
theorem zCd (hb:b.length<=140737488355328):zgV b=some (zmU b):=by
 unfold zgV;rw [zDY hb,sb];unfold zmU pre4;by_cases h:(fst4 (b.length:Int) b).1=b.length
 ·simp [h]
 ·have h2:¬(((fst4 (b.length:Int) b).1:Int)=b.length):=by omega
  simp [h,h2]
def enc (v:Nat):List UInt8:=if v<128 then [UInt8.ofNat v] else UInt8.ofNat (128+v%128)::enc (v/128)
termination_by v
decreasing_by omega
def scan:Nat->Nat->List UInt8->Unit⊕(Int×Int×Int)
 | _,_,[]=> .inl ()
 | i,acc,c::t=>if i=9/\1<c.toNat then .inr (0,0,4) else if c.toNat<128 then .inr (((acc+c.toNat%128*128^i:Nat):Int),((i+1:Nat):Int),0) else scan (i+1) (acc+c.toNat%128*128^i) t
def rdR:Unit⊕(Int×Int×Int)->Int×Int×Int
 | .inl _=>(0,0,3)
 | .inr r=>r
def rd (b:List UInt8):Int×Int×Int:=rdR (scan 0 0 (b.take 10))
def hor:List UInt8->Nat
 | []=>0
 | c::t=>c.toNat%128+128*hor t
def lead:Nat->List UInt8->Nat
 | 0,_=>0
 | _+1,[]=>0
 | k+1,c::t=>if 128<=c.toNat then lead k t+1 else 0
theorem zLX (i:Nat):2^(7*i)=128^i:=by rw [Nat.pow_mul]
theorem zKM (c:Nat):c&&&127=c%128:=uG c 7
theorem zHU {acc i c:Nat} (hi:i<=9) (hacc:acc<128^i) (hc:c<256) (h9:i=9->c<=1):
  orI .u64 (acc:Int) (shlI .u64 (IntKind.u64.wrap (andI .u8 (c:Int) 127)) ((7*i:Nat):Int))=((acc+c%128*128^i:Nat):Int):=by
 have e1:andI .u8 (c:Int) 127=((c%128:Nat):Int):=by
  have:=zCC (k:= .u8) rfl (a:=c) (b:=127) (by simpa [IntKind.bits] using hc) (by simp [IntKind.bits]);rw [zKM] at this;exact this
 have hp:128^i<=128^9:=uq (by omega) hi;have hlt:c%128*128^i<18446744073709551616:=by
  by_cases h:i=9
  ·subst h;have:=h9 rfl;have h2:c%128<=1:=by omega
   have:=yu (128^9) h2;omega
  ·have h3:128^i<=128^8:=uq (by omega) (by omega);have:=Nat.mul_le_mul (show c%128<=127 by omega) h3;omega
 have e2:shlI .u64 (IntKind.u64.wrap ((c%128:Nat):Int)) ((7*i:Nat):Int)=((c%128*128^i:Nat):Int):=by
  unfold shlI;rw [zvE rfl (by simp [IntKind.bits];omega),yk,yY (by simp [IntKind.bits];omega)];have h4:((c%128:Nat):Int)*2^(7*i)=((c%128*128^i:Nat):Int):=by rw [<-zLX];push_cast;rfl
  rw [h4];exact zvE rfl (by simpa [IntKind.bits] using hlt)
 rw [e1,e2,zGO rfl (by simp [IntKind.bits];omega) (by simpa [IntKind.bits] using hlt)];congr 1;rw [<-zLX] at hacc|-;exact zDN _ _ _ hacc
theorem zHT:∀(t:List UInt8) (v:List UInt8) (i acc:Nat),v.drop i=t->i+t.length=v.length->v.length<=10->acc<128^i->ziz v acc i=some (scan i acc t):=by
 intro t
 induction t with
 | nil=>
  intro v i acc _ hl _ _;refine zkP ?_;unfold zdF;rw [itF (by simp at hl|-;omega)];rfl
 | cons c t ih=>
  intro v i acc hd hl hv hacc;simp only [ye] at hl;have hget:v[i]'(by omega)=c:=by
   have h1:v.drop i=v[i]'(by omega)::v.drop (i+1):=xS (by omega);rw [hd] at h1;exact (List.cons.inj h1).1.symm
  have hd':v.drop (i+1)=t:=by rw [<-qG,hd];rfl
  have hc:=c.toNat_lt;have hb:zdF v acc i=if i=9/\1<c.toNat then some (.inr (.inr (0,0,4))) else if c.toNat<128 then some (.inr (.inr (((acc+c.toNat%128*128^i:Nat):Int),((i+1:Nat):Int),0))) else some (.inl (((acc+c.toNat%128*128^i:Nat):Int),((i+1:Nat):Int))):=by
   unfold zdF;rw [uM,zI rfl (show i<v.length by omega),sb,hget];by_cases h9:i=9/\1<c.toNat
   ·rw [xx h9,uM]
   ·rw [xw h9,uN,uO];have e:((7:Int)*(i:Int))=((7*i:Nat):Int):=by push_cast;rfl
    rw [e,zKl,sb,zHU (by omega) hacc (by omega) (by omega),uO];by_cases h8:c.toNat<128
    ·rw [xx h8,uM];push_cast;rfl
    ·rw [xw h8,uN];push_cast;rfl
  rw [scan];split at hb
  ·rename_i h9;rw [xx h9];exact zkP hb
  ·rename_i h9;rw [xw h9];split at hb
   ·rename_i h8;rw [xx h8];exact zkP hb
   ·rename_i h8;rw [xw h8,zuu hb];refine ih v (i+1) _ hd' (by omega) hv ?_;rw [pO];have:=yu (128^i) (show c.toNat%128<=127 by omega);omega
theorem zBW (b:List UInt8):ziK b=some (rd b):=by
 unfold ziK rd;have e:(if (10:Int)<(b.length:Int) then (10:Int) else (b.length:Int))=((min 10 b.length:Nat):Int):=by split<;>omega
 have e2:b.take (min 10 b.length)=b.take 10:=by rw [List.take_eq_take_iff];omega
 rw [e,zpB rfl (by omega),sb,e2];have h:=zHT (b.take 10) (b.take 10) 0 0 rfl (by simp) (by simp;omega) (by simp);have h':ziz (b.take 10) 0 0=some (scan 0 0 (b.take 10)):=h;rw [h',sb];cases scan 0 0 (b.take 10)<;>rfl
theorem zLx (b:List UInt8):zmN b=some ((rd b).2.1,(rd b).2.2):=by unfold zmN;rw [zBW,sb]
theorem zBF:∀(k:Nat) (l:List UInt8),lead k l<=k/\lead k l<=l.length
 | 0,_=>⟨xC _,xF _⟩
 | _+1,[]=>⟨xF _,xC _⟩
 | k+1,c::t=>by
  have:=zBF k t;rw [lead];split<;>simp<;>omega
theorem zAV:∀(l:List UInt8) (i acc:Nat),i+l.length<=10->i<=9->
  scan i acc l=if i+lead (10 - i) l=10 then .inr (0,0,4) else if lead (10 - i) l=l.length then .inl () else if i+lead (10 - i) l=9/\1<(l.getD (lead (10 - i) l) 0).toNat then .inr (0,0,4) else
   .inr (((acc+hor (l.take (lead (10 - i) l+1))*128^i:Nat):Int),((i+lead (10 - i) l+1:Nat):Int),0):=by
 intro l
 induction l with
 | nil=>
  intro i acc _ hi;obtain ⟨k,hk⟩:∃k,10 - i=k+1:=⟨9 - i,by omega⟩;rw [hk];simp only [lead,scan,px];rw [xw (by omega),xx trivial]
 | cons c t ih=>
  intro i acc hl hi;obtain ⟨k,hk⟩:∃k,10 - i=k+1:=⟨9 - i,by omega⟩;simp only [ye] at hl;rw [scan];by_cases hc:128<=c.toNat
  ·have e:lead (10 - i) (c::t)=lead k t+1:=by rw [hk,lead,xx hc]
   rw [e];by_cases h9:i=9
   ·have:k=0:=by omega
    subst this;rw [xx ⟨h9,by omega⟩,lead,xx (by omega)]
   ·rw [xw (by omega),xw (by omega),ih (i+1) _ (by omega) (by omega),show 10 - (i+1)=k by omega];by_cases h1:i+1+lead k t=10
    ·rw [xx h1,xx (show i+(lead k t+1)=10 by omega)]
    ·rw [xw h1,xw (show ¬i+(lead k t+1)=10 by omega)];by_cases h2:lead k t=t.length
     ·rw [xx h2,xx (show lead k t+1=(c::t).length by simp;omega)]
     ·rw [xw h2,xw (show ¬lead k t+1=(c::t).length by simp;omega)];have eg:(c::t).getD (lead k t+1) 0=t.getD (lead k t) 0:=by simp [List.getD]
      rw [eg];by_cases h3:i+1+lead k t=9/\1<(t.getD (lead k t) 0).toNat
      ·rw [xx h3,xx (show i+(lead k t+1)=9/\1<(t.getD (lead k t) 0).toNat by omega)]
      ·rw [xw h3,xw (show ¬(i+(lead k t+1)=9/\1<(t.getD (lead k t) 0).toNat) by omega)];rw [yS,hor,pO];have e5:acc+c.toNat%128*128^i+hor (t.take (lead k t+1))*(128^i*128)=acc+(c.toNat%128+128*hor (t.take (lead k t+1)))*128^i:=by
        rw [Nat.add_mul,pP 128,pL (128^i) 128,<-pP,pL _ 128,pP];omega
       rw [e5];congr 3;omega
  ·have e:lead (10 - i) (c::t)=0:=by rw [hk,lead,xw hc]
   rw [e];simp only [yK,ye,List.getD_cons_zero];rw [xw (show ¬i=10 by omega),xw (show ¬0=t.length+1 by omega)];by_cases h9:i=9/\1<c.toNat
   ·rw [xx h9,xx h9]
   ·rw [xw h9,xw h9,xx (show c.toNat<128 by omega)];simp [hor]
theorem zyo (x y:List UInt8):hor (x++y)=hor x+128^x.length*hor y:=by
 induction x with
 | nil=>simp [hor]
 | cons c t ih=>simp only [yw,hor,ih,ye,pO,Nat.mul_add];rw [pL (128^t.length) 128,pP];omega
theorem zJd (l:List UInt8):hor l<128^l.length:=by
 induction l with
 | nil=>simp [hor]
 | cons c t ih=>simp only [hor,ye,pO];omega
theorem zJc (l:List UInt8) (j:Nat):hor (l.drop j)<=hor l:=by
 induction l generalizing j with
 | nil=>simp
 | cons c t ih=>
  cases j with
  | zero=>exact xC _
  | succ j=>have:=ih j;simp only [pD,hor];omega
theorem zHV (b:List UInt8) (a:Nat) (hb:b.length<=1152921504606846976):∀(k n:Nat),n+k=10->a+n<=b.length->zet a b n=some ((n+lead k (b.drop (a+n)):Nat):Int):=by
 intro k
 induction k with
 | zero=>
  intro n hn ha;refine zhX ?_;unfold zaX;rw [uO];by_cases h1:a+n<b.length
  ·rw [uM,uN,sb,itF (by rfl)];rfl
  ·rw [uN,sb,itF (by rfl)];rfl
 | succ k ih=>
  intro n hn ha;by_cases h1:a+n<b.length
  ·have hd:b.drop (a+n)=b[a+n]::b.drop (a+(n+1)):=xS h1;have hbody:zaX a b n=if 128<=b[a+n].toNat then some (.inl ((n+1:Nat):Int)) else some (.inr (n:Int)):=by
    unfold zaX;rw [uO,uO,uM,uM,zI (show (a:Int)+n=((a+n:Nat):Int) by push_cast;rfl) h1,sb,sb];by_cases h2:128<=b[a+n].toNat
    ·rw [xx h2,uM];push_cast;rfl
    ·rw [xw h2,uN]
   rw [hd,lead];by_cases h2:128<=b[a+n].toNat
   ·rw [xx h2] at hbody|-;rw [zoW hbody,ih (n+1) (by omega) (by omega)];congr 2;omega
   ·rw [xw h2] at hbody|-;exact zhX hbody
  ·have hd:b.drop (a+n)=[]:=yg (by omega);rw [hd];refine zhX ?_;unfold zaX;rw [uO,uN,sb,itF (by rfl)];rfl
theorem zHW (b:List UInt8) (a m:Nat) (hb:b.length<=1152921504606846976) (hm:a+m<=b.length) (hh:hor ((b.drop a).take m)<18446744073709551616):
  ∀(j:Nat),j<=m->zeu a b (hor (((b.drop a).take m).drop j)) ((j:Int) - 1)=some ((hor ((b.drop a).take m):Nat):Int):=by
 intro j
 induction j with
 | zero=>
  intro _;refine zoY ?_;unfold zbQ;rw [itF (by simp)];rfl
 | succ j ih=>
  intro hj;have hL:((b.drop a).take m).length=m:=by simp;omega
  have hd:((b.drop a).take m).drop j=((b.drop a).take m)[j]'(by omega)::((b.drop a).take m).drop (j+1):=xS (by omega);have hc:((b.drop a).take m)[j]'(by omega)=b[a+j]'(by omega):=by simp
  have h1:=zJc ((b.drop a).take m) j;rw [hd,hor,hc] at h1;have h2:=(b[a+j]'(by omega)).toNat_lt;refine (zoX (wv':=(hor (((b.drop a).take m).drop j):Nat)) (i':=(j:Int) - 1) ?_).trans (ih (by omega));unfold zbQ;rw [itT (by simp),uO,zI (show (a:Int)+(((j+1:Nat):Int) - 1)=((a+j:Nat):Int) by push_cast;omega) (by omega),sb,uO,hd,hor,hc];simp only [zkI];rw [yP (by omega)];congr 3
  ·omega
  ·push_cast;omega
theorem zKC (hn:n<=9) (hC:C<256) (h9:¬(n=9/\1<C)) (hX:X<128^n):X+128^n*(C%128)<18446744073709551616:=by
 by_cases h9':n=9
 ·subst h9';have:C%128<=1:=by omega
  have:=pX (128^9) this;omega
 ·have h5:128^n<=128^8:=uq (by omega) (by omega);have h6:C%128<=127:=by omega
  have:=Nat.mul_le_mul h5 h6;omega
theorem zFF (b:List UInt8) (a:Nat) (hb:b.length<=1152921504606846976) (ha:a<=b.length):zfc b a=some (rd (b.drop a)):=by
 unfold zfc;have h1:=zHV b a hb 10 0 rfl (by omega);simp only [xH,yK] at h1;have h1':zet a b 0=some ((lead 10 (b.drop a):Nat):Int):=h1;rw [h1',sb];have hle:=zBF 10 (b.drop a);have hlen:(b.drop a).length=b.length - a:=by simp
 -- the ten bytes that count
 have htake:∀(k:Nat) (l:List UInt8),lead k (l.take k)=lead k l:=by
  intro k
  induction k with
  | zero=>intro l;rfl
  | succ k ih=>intro l;cases l with
   | nil=>rfl
   | cons c t=>simp only [yS,lead,ih]
 have hs:=zAV ((b.drop a).take 10) 0 0 (by simp;omega) (by omega);simp only [xH,qf,htake,Nat.pow_zero,qt] at hs;unfold rd;rw [hs];by_cases h10:lead 10 (b.drop a)=10
 ·rw [xx h10,uM];rfl
 ·rw [xw h10,uN,uO];by_cases hl:lead 10 (b.drop a)=(b.drop a).length
  ·rw [xx (show lead 10 (b.drop a)=((b.drop a).take 10).length by rw [yf];omega),uM];rfl
  ·rw [xw (show ¬lead 10 (b.drop a)=((b.drop a).take 10).length by rw [yf];omega),uN];have hlt:a+lead 10 (b.drop a)<b.length:=by omega
   have hg:((b.drop a).take 10).getD (lead 10 (b.drop a)) 0=b[a+lead 10 (b.drop a)]:=by
    rw [qJ,yH,xx (by omega),qc,xI hlt];rfl
   rw [hg,qY,yY (by omega)];have hc:=(b[a+lead 10 (b.drop a)]).toNat_lt;have hg2:(if (((lead 10 (b.drop a):Nat):Int)==9)=true then (idx b ((a:Int)+((lead 10 (b.drop a):Nat):Int))>>=fun x2=>some (decide ((x2.toNat:Int)>1))) else some false)=some (decide (lead 10 (b.drop a)=9/\1<(b[a+lead 10 (b.drop a)]).toNat)):=by
    by_cases h9:lead 10 (b.drop a)=9
    ·rw [uM,zI (show (a:Int)+((lead 10 (b.drop a):Nat):Int)=((a+lead 10 (b.drop a):Nat):Int) by push_cast;rfl) hlt,sb];congr 1;simp only [h9,q9,yZ];omega
    ·rw [uN];simp [h9]
   rw [hg2,sb];by_cases h9:lead 10 (b.drop a)=9/\1<(b[a+lead 10 (b.drop a)]).toNat
   ·rw [xx h9,itT (by simpa using h9)];rfl
   ·rw [xw h9,itF (yb h9)];have hbd:hor ((b.drop a).take (lead 10 (b.drop a)+1))<18446744073709551616:=by
     have hsp:(b.drop a).take (lead 10 (b.drop a)+1)=(b.drop a).take (lead 10 (b.drop a))++[b[a+lead 10 (b.drop a)]]:=by
      rw [List.take_add_one,qc,xI hlt];rfl
     rw [hsp,zyo];have h3:=zJd ((b.drop a).take (lead 10 (b.drop a)));have h4:((b.drop a).take (lead 10 (b.drop a))).length=lead 10 (b.drop a):=by simp;omega
     rw [h4] at h3|-;simp only [hor,Nat.mul_zero,yK];exact zKC (by omega) (by omega) h9 h3
    have h2:=zHW b a (lead 10 (b.drop a)+1) hb (by omega) hbd (lead 10 (b.drop a)+1) (xC _);have hz:((b.drop a).take (lead 10 (b.drop a)+1)).drop (lead 10 (b.drop a)+1)=[]:=yg (by simp;omega);rw [hz] at h2;have e3:(((lead 10 (b.drop a)+1:Nat):Int) - 1)=((lead 10 (b.drop a):Nat):Int):=by push_cast;omega
    rw [e3] at h2;have h2':zeu a b 0 ((lead 10 (b.drop a):Nat):Int)=some ((hor ((b.drop a).take (lead 10 (b.drop a)+1)):Nat):Int):=h2;rw [h2',sb,uO];simp [rdR]
theorem zAA:∀(k:Nat) (l:List UInt8),lead k (l.take k)=lead k l
 | 0,_=>rfl
 | _+1,[]=>rfl
 | k+1,c::t=>by simp only [yS,lead,zAA k t]
theorem zAz:∀(k:Nat) (l:List UInt8),(∀y∈l.take (lead k l),128<=y.toNat)/\∀(h:lead k l<l.length),lead k l<k->(l[lead k l]).toNat<128
 | 0,_=>⟨fun y hy=>by simp [lead] at hy,fun _ h=>by omega⟩
 | _+1,[]=>⟨fun y hy=>by simp at hy,fun h=>by simp at h⟩
 | k+1,c::t=>by
  obtain ⟨h1,h2⟩:=zAz k t;by_cases hc:128<=c.toNat
  ·have e:lead (k+1) (c::t)=lead k t+1:=by rw [lead,xx hc]
   constructor
   ·rw [e,yS];intro y hy;cases hy with
    | head=>exact hc
    | tail _ hy=>exact h1 y hy
   ·simp only [e,pQ,ye];intro h hk;exact h2 (by omega) (by omega)
  ·have e:lead (k+1) (c::t)=0:=by rw [lead,xw hc]
   constructor
   ·rw [e];intro y hy;simp at hy
   ·simp only [e];intro _ _;simp;omega
theorem zKc (b:List UInt8):rd b=(0,0,4)\/(rd b=(0,0,3)/\b.length<=9)\/
  ∃x c y,b=x++c::y/\(∀z∈x,128<=z.toNat)/\c.toNat<128/\x.length<=9/\hor (x++[c])<18446744073709551616/\rd b=(((hor (x++[c]):Nat):Int),((x.length+1:Nat):Int),0):=by
 have hle:=zBF 10 b;have hs:=zAV (b.take 10) 0 0 (by simp;omega) (by omega);simp only [xH,qf,zAA,Nat.pow_zero,qt] at hs;unfold rd;rw [hs];by_cases h10:lead 10 b=10
 ·rw [xx h10];exact .inl rfl
 ·rw [xw h10];by_cases hl:lead 10 b=(b.take 10).length
  ·rw [xx hl];refine .inr (.inl ⟨rfl,?_⟩);rw [yf] at hl;omega
  ·rw [xw hl];rw [yf] at hl;have hlt:lead 10 b<b.length:=by omega
   have hg:(b.take 10).getD (lead 10 b) 0=b[lead 10 b]:=by
    rw [qJ,yH,xx (by omega),xI hlt];rfl
   rw [hg,qY,yY (by omega)];have hc:=(b[lead 10 b]).toNat_lt;by_cases h9:lead 10 b=9/\1<(b[lead 10 b]).toNat
   ·rw [xx h9];exact .inl rfl
   ·rw [xw h9];obtain ⟨hf1,hf2⟩:=zAz 10 b;have hsp:b.take (lead 10 b+1)=b.take (lead 10 b)++[b[lead 10 b]]:=by
     rw [List.take_add_one,xI hlt];rfl
    have hlen:(b.take (lead 10 b)).length=lead 10 b:=by rw [yf];omega
    refine .inr (.inr ⟨b.take (lead 10 b),b[lead 10 b],b.drop (lead 10 b+1),?_,hf1,hf2 hlt (by omega),by omega,?_,?_⟩)
    ·rw [<-xS hlt,qZ]
    ·rw [zyo];have h3:=zJd (b.take (lead 10 b));rw [hlen] at h3|-;simp only [hor,Nat.mul_zero,yK];exact zKC (by omega) (by omega) h9 h3
    ·rw [hsp,hlen];simp [rdR]
theorem all_nil (acc:List Int):ztF [] acc=some (.inl acc):=by
 refine zvz ?_;unfold zmo;rw [itF (by simp)]
def zjM (n w:Int):Bool:=decide (1<=n/\n<=536870911/\(w=0\/w=1\/w=2\/w=5))
def tgR (r:Int×Int×Int):Int×Int×Int×Int:=
 if r.2.2≠0 then (0,0,0,r.2.2) else if 4294967295<r.1\/zjM (r.1/8) (r.1%8)=false then (0,0,0,5) else (r.1/8,r.1%8,r.2.1,0)
def tg (l:List UInt8):Int×Int×Int×Int:=tgR (rd l)
theorem zzo {n w:Int}:zjM n w=true↔1<=n/\n<=536870911/\(w=0\/w=1\/w=2\/w=5):=by simp [zjM]
theorem zDX (n w:Int):zgT n w=some (zjM n w):=by
 unfold zgT zjM;simp [Bool.decide_and,Bool.decide_or,Bool.beq_eq_decide_eq]
theorem zmc (l:List UInt8):0<=(rd l).1/\(rd l).1<18446744073709551616/\0<=(rd l).2.1/\(rd l).2.1<=10/\(rd l).2.1<=l.length/\((rd l).2.2=0\/(rd l).2.2=3\/(rd l).2.2=4)/\((rd l).2.2=0->1<=(rd l).2.1):=by
 rcases zKc l with h| ⟨h,_⟩| ⟨x,c,y,e,_,_,hl,hv,h⟩
 ·rw [h];simp
 ·rw [h];simp
 ·have:l.length=x.length+1+y.length:=by rw [e];simp;omega
  rw [h];refine ⟨?_,?_,?_,?_,?_,.inl rfl,fun _=>?_⟩<;>simp only<;>omega
theorem zCq (h:r.2.2≠0):tgR r=(0,0,0,r.2.2):=xx h
theorem zsD (h:r.2.2=0) (h2:4294967295<r.1\/zjM (r.1/8) (r.1%8)=false):tgR r=(0,0,0,5):=by unfold tgR;rw [xw (by simp [h]),xx h2]
theorem zFN (h:r.2.2=0) (h2:¬(4294967295<r.1\/zjM (r.1/8) (r.1%8)=false)):tgR r=(r.1/8,r.1%8,r.2.1,0):=by unfold tgR;rw [xw (by simp [h]),xw h2]
theorem zzq (l:List UInt8):(∃c,tg l=(0,0,0,c)/\(c=3\/c=4\/c=5))\/∃n w k,tg l=(n,w,k,0)/\zjM n w=true/\1<=k/\k<=10/\k<=l.length/\rd l=(8*n+w,k,0):=by
 obtain ⟨h1,h2,h3,h4,h5,h6,h7⟩:=zmc l;unfold tg;by_cases h:(rd l).2.2=0
 ·by_cases hg:4294967295<(rd l).1\/zjM ((rd l).1/8) ((rd l).1%8)=false
  ·exact .inl ⟨5,zsD h hg,by omega⟩
  ·refine .inr ⟨_,_,_,zFN h hg,?_,h7 h,h4,h5,?_⟩
   ·cases ht:zjM ((rd l).1/8) ((rd l).1%8)
    ·exact absurd (.inr ht) hg
    ·rfl
   ·refine Prod.ext ?_ (Prod.ext rfl h);simp only;omega
 ·exact .inl ⟨_,zCq h,by omega⟩
theorem zBX (b:List UInt8) (a:Nat) (hb:b.length<=1152921504606846976) (ha:a<=b.length):zhB b a=some (tg (b.drop a)):=by
 unfold zhB tg;obtain ⟨h1,h2,h3,h4,h5,h6,h7⟩:=zmc (b.drop a);rw [zFF b a hb ha,sb];by_cases h:(rd (b.drop a)).2.2=0
 ·rw [itF (by simpa using h)];have e1:IntKind.i64.wrap (IntKind.u64.wrap (Int.tdiv (rd (b.drop a)).1 8))=(rd (b.drop a)).1/8:=by
   rw [pN h1,zkI,pr (by omega) (by omega),uO]
  have e2:IntKind.i64.wrap (Int.tmod (rd (b.drop a)).1 8)=(rd (b.drop a)).1%8:=by
   rw [yP h1,uO]
  simp only [e1,e2,zDX,sb];by_cases hg:4294967295<(rd (b.drop a)).1
  ·rw [itT (by simpa using hg),sb,itT (by rfl),zsD h (.inl hg)]
  ·rw [itF (by simpa using hg),sb];cases ht:zjM ((rd (b.drop a)).1/8) ((rd (b.drop a)).1%8)
   ·rw [itT (by rfl),zsD h (.inr ht)]
   ·rw [itF (by rfl),zFN h (by simp [ht];omega)]
 ·rw [itT (by simpa using h),zCq h]
abbrev Rec:=zB
def ziW (w:Int) (k:Nat) (m:List UInt8):Int⊕(Nat×Nat):=
 if w=0 then (if (rd m).2.2≠0 then .inl (rd m).2.2 else .inr (k,k+(rd m).2.1.toNat))
 else if w=2 then (if (rd m).2.2≠0 then .inl (rd m).2.2 else if (m.length:Int) - (rd m).2.1<(rd m).1 then .inl 3 else .inr (k+(rd m).2.1.toNat,k+(rd m).2.1.toNat+(rd m).1.toNat))
 else if m.length<(if w=5 then 4 else 8) then .inl 3 else .inr (k,k+(if w=5 then 4 else 8))
def rec5 (l:List UInt8):Int⊕(Int×Int×Nat×Nat):=
 if (tg l).2.2.2≠0 then .inl (tg l).2.2.2 else match ziW (tg l).2.1 (tg l).2.2.1.toNat (l.drop (tg l).2.2.1.toNat) with
  | .inl c=> .inl c
  | .inr p=> .inr ((tg l).1,(tg l).2.1,p.1,p.2)
theorem zwv (w:Int) (k:Nat) (m:List UInt8):(∃c,ziW w k m= .inl c/\(c=3\/c=4))\/
  ∃a t,ziW w k m= .inr (a,t)/\k<=a/\a<=t/\t<=k+m.length/\
   (w=0/\a=k/\(rd m).2.2=0/\((t - k:Nat):Int)=(rd m).2.1/\k<t\/w=2/\(rd m).2.2=0/\((a - k:Nat):Int)=(rd m).2.1/\((t - a:Nat):Int)=(rd m).1\/w≠0/\w≠2/\a=k/\t=k+(if w=5 then 4 else 8)):=by
 obtain ⟨h1,h2,h3,h4,h5,h6,h7⟩:=zmc m;unfold ziW;by_cases w0:w=0
 ·rw [xx w0];by_cases h:(rd m).2.2=0
  ·have:=h7 h;rw [xw (by simpa using h)];exact .inr ⟨_,_,rfl,xC _,by omega,by omega,.inl ⟨w0,rfl,h,by omega,by omega⟩⟩
  ·rw [xx h];exact .inl ⟨_,rfl,by omega⟩
 ·rw [xw w0];by_cases w2:w=2
  ·rw [xx w2];by_cases h:(rd m).2.2=0
   ·rw [xw (by simpa using h)];by_cases h8:(m.length:Int) - (rd m).2.1<(rd m).1
    ·rw [xx h8];exact .inl ⟨_,rfl,by omega⟩
    ·rw [xw h8];exact .inr ⟨_,_,rfl,by omega,by omega,by omega,.inr (.inl ⟨w2,h,by omega,by omega⟩)⟩
   ·rw [xx h];exact .inl ⟨_,rfl,by omega⟩
  ·rw [xw w2];by_cases h8:m.length<(if w=5 then 4 else 8)
   ·rw [xx h8];exact .inl ⟨_,rfl,by omega⟩
   ·rw [xw h8];exact .inr ⟨_,_,rfl,xC _,by omega,by omega,.inr (.inr ⟨w0,w2,rfl,rfl⟩)⟩
theorem zFE (l:List UInt8):(∃c,rec5 l= .inl c/\(c=3\/c=4\/c=5))\/
  ∃(n w:Int) (k a t:Nat),rec5 l= .inr (n,w,a,t)/\tg l=(n,w,(k:Int),0)/\zjM n w=true/\ziW w k (l.drop k)= .inr (a,t)/\1<=k/\k<=l.length/\k<=a/\a<=t/\t<=l.length/\rd l=(8*n+w,(k:Int),0):=by
 rcases zzq l with ⟨c,h,hc⟩| ⟨n,w,k,h,hr,k1,k2,k3,hrd⟩
 ·refine .inl ⟨c,?_,hc⟩;unfold rec5;rw [h,xx (by simp only;omega)]
 ·obtain ⟨k,rfl⟩:∃j:Nat,k=j:=⟨k.toNat,by omega⟩
  have e:rec5 l=match ziW w k (l.drop k) with
   | .inl c=> .inl c
   | .inr p=> .inr (n,w,p.1,p.2):=by unfold rec5;rw [h];simp
  rcases zwv w k (l.drop k) with ⟨c,h2,hc⟩| ⟨a,t,h2,g1,g2,g3,_⟩
  ·exact .inl ⟨c,by rw [e,h2],by omega⟩
  ·simp only [yA] at g3;exact .inr ⟨n,w,k,a,t,by rw [e,h2],h,hr,h2,by omega,by omega,g1,g2,by omega,hrd⟩
def zrec:Rec:=⟨0,0,0,0,0⟩
def zuZ (b:List UInt8) (at5:Int):Rec×Int:=if at5<0\/at5>=b.length then (zrec,2) else match rec5 (b.drop at5.toNat) with
 | .inl c=>(zrec,c)
 | .inr (n,w,a,t)=>(⟨n,w,at5,at5+a,at5+t⟩,0)
theorem zDW (hb:b.length<=140737488355328) (at5:Int):zhD b at5=some (zuZ b at5):=by
 unfold zhD zuZ;by_cases h:at5<0\/at5>=b.length
 ·rw [itT (by simpa using h),xx h];rfl
 ·rw [itF (by simpa using h),xw h];obtain ⟨p,rfl⟩:∃p:Nat,at5=p:=⟨at5.toNat,by omega⟩;rw [zBX b p (by omega) (by omega),sb,yk];have hdl:(b.drop p).length=b.length - p:=by simp
  rcases zzq (b.drop p) with ⟨c,ht,hc⟩| ⟨n,w,k,ht,hr,k1,k2,k3,hrd⟩
  ·have e:rec5 (b.drop p)= .inl c:=by unfold rec5;rw [ht,xx (by simp only;omega)]
   rw [e,ht,uM];rfl
  ·obtain ⟨k,rfl⟩:∃j:Nat,k=j:=⟨k.toNat,by omega⟩
   have e:rec5 (b.drop p)=match ziW w k ((b.drop p).drop k) with
    | .inl c=> .inl c
    | .inr p=> .inr (n,w,p.1,p.2):=by unfold rec5;rw [ht];simp
   have hdd:(b.drop p).drop k=b.drop (p+k):=by rw [qG]
   have hml:(b.drop (p+k)).length=b.length - (p+k):=by simp
   obtain ⟨h1,h2,h3,h4,h5,h6,h7⟩:=zmc (b.drop (p+k));rw [e,ht,itF (by simp),hdd];have ew:IntKind.i64.wrap ((p:Int)+k)=((p+k:Nat):Int):=by rw [uO];push_cast;rfl
   have er:IntKind.i64.wrap ((b.length:Int) - ((p+k:Nat):Int))=((b.length - (p+k):Nat):Int):=by rw [uO];omega
   simp only [ew,er];have hw:=(zzo.1 hr).2.2;rcases hw with rfl| rfl| rfl| rfl
   ·-- a varint
    rw [itF (by rfl),sb,itT (by rfl),zFF b (p+k) (by omega) (by omega),sb];by_cases g:(rd (b.drop (p+k))).2.2=0
    ·have:=h7 g;have hb5:ziW 0 k (b.drop (p+k))= .inr (k,k+(rd (b.drop (p+k))).2.1.toNat):=by unfold ziW;rw [xx rfl,xw (by simpa using g)]
     rw [itF (by simpa using g),sb,hb5];simp only;rw [itF (by rfl),sb];simp only;rw [uN,uO];simp;omega
    ·have hb5:ziW 0 k (b.drop (p+k))= .inl (rd (b.drop (p+k))).2.2:=by unfold ziW;rw [xx rfl,xx g]
     rw [itT (by simpa using g),sb,hb5];rfl
   ·rw [itF (by rfl),sb,itF (by rfl),sb];simp only;rw [itF (by rfl),sb];unfold ziW;rw [xw (by omega),xw (by omega)];simp only;by_cases g:b.length - (p+k)<8
    ·rw [uM,xx (by simpa [hml] using g)];rfl
    ·rw [uN,xw (by simpa [hml] using g),uO];simp;omega
   ·rw [itF (by rfl),sb,itF (by rfl),sb];simp only;rw [itT (by rfl),zFF b (p+k) (by omega) (by omega),sb];by_cases g:(rd (b.drop (p+k))).2.2=0
    ·have:=h7 g;have e1:IntKind.i64.wrap (((b.length - (p+k):Nat):Int) - (rd (b.drop (p+k))).2.1)=((b.drop (p+k)).length:Int) - (rd (b.drop (p+k))).2.1:=by rw [uO,hml]
     have e2:IntKind.u64.wrap (((b.drop (p+k)).length:Int) - (rd (b.drop (p+k))).2.1)=((b.drop (p+k)).length:Int) - (rd (b.drop (p+k))).2.1:=by rw [zkI,pr (by omega) (by omega)]
     rw [itF (by simpa using g)];simp only [e1,e2];by_cases g2:((b.drop (p+k)).length:Int) - (rd (b.drop (p+k))).2.1<(rd (b.drop (p+k))).1
     ·have hb5:ziW 2 k (b.drop (p+k))= .inl 3:=by unfold ziW;rw [xw (by omega),xx rfl,xw (by simpa using g),xx g2]
      rw [itT (by simpa using g2),sb,hb5];rfl
     ·have hb5:ziW 2 k (b.drop (p+k))= .inr (k+(rd (b.drop (p+k))).2.1.toNat,k+(rd (b.drop (p+k))).2.1.toNat+(rd (b.drop (p+k))).1.toNat):=by
       unfold ziW;rw [xw (by omega),xx rfl,xw (by simpa using g),xw g2]
      rw [itF (by simpa using g2),sb,hb5];simp only;rw [zt (x:=(rd (b.drop (p+k))).1) (by omega),itF (by simpa using g2),zt (x:=((p+k:Nat):Int)+(rd (b.drop (p+k))).2.1) (by omega),uO];simp;omega
    ·have hb5:ziW 2 k (b.drop (p+k))= .inl (rd (b.drop (p+k))).2.2:=by unfold ziW;rw [xw (by omega),xx rfl,xx g]
     rw [itT (by simpa using g),sb,hb5];rfl
   ·rw [itT (by rfl),sb,itF (by rfl),sb];simp only;rw [itF (by rfl),sb];unfold ziW;rw [xw (by omega),xw (by omega)];simp only;by_cases g:b.length - (p+k)<4
    ·rw [uM,xx (by simpa [hml] using g)];rfl
    ·rw [uN,xw (by simpa [hml] using g),uO];simp;omega
def spl (base:Nat) (l:List UInt8):List Rec×Option (Nat×Int):=
 if hl:l=[] then ([],none) else match h:rec5 l with
  | .inl c=>([],some (base,c))
  | .inr (n,w,a,t)=>(⟨n,w,base,(base+a:Nat),(base+t:Nat)⟩::(spl (base+t) (l.drop t)).1,(spl (base+t) (l.drop t)).2)
termination_by l.length
decreasing_by
 all_goals
  rcases zFE l with ⟨c',h',_⟩| ⟨n',w',k',a',t',h',_,_,_,g1,g2,g3,g4,g5,_⟩
  ·rw [h'] at h;cases h
  ·rw [h'] at h;cases h;simp only [yA];omega
def zMS (w:Int) (v:List UInt8):Bool:=
 if w=0 then decide ((rd v).2.2=0/\(rd v).2.1=v.length) else decide (w=2\/w=1/\v.length=8\/w=5/\v.length=4)
theorem zJr :kNum k=true↔1<=k/\k<=14:=by simp [kNum]
def zGZ (k:Int) (l:List UInt8):Int⊕Nat:=
 if k<9 then (if (rd l).2.2≠0 then .inl (rd l).2.2 else .inr (rd l).2.1.toNat) else if l.length<(if k<12 then 4 else 8) then .inl 3 else .inr (if k<12 then 4 else 8)
theorem zEn (k:Int) (l:List UInt8):(∃c,zGZ k l= .inl c/\(c=3\/c=4))\/∃n,zGZ k l= .inr n/\1<=n/\n<=l.length/\n<=10/\(k<9/\(rd l).2.2=0/\(rd l).2.1=(n:Int)\/¬k<9/\n=(if k<12 then 4 else 8)):=by
 obtain ⟨h1,h2,h3,h4,h5,h6,h7⟩:=zmc l;unfold zGZ;by_cases h:k<9
 ·rw [xx h];by_cases h0:(rd l).2.2=0
  ·have:=h7 h0;rw [xw (by simpa using h0)];exact .inr ⟨_,rfl,by omega,by omega,by omega,.inl ⟨h,h0,by omega⟩⟩
  ·rw [xx h0];exact .inl ⟨_,rfl,by omega⟩
 ·rw [xw h];by_cases h8:l.length<(if k<12 then 4 else 8)
  ·rw [xx h8];exact .inl ⟨_,rfl,by omega⟩
  ·rw [xw h8];exact .inr ⟨_,rfl,by split<;>omega,by omega,by split<;>omega,.inr ⟨h,rfl⟩⟩
def pcs (k:Int) (l:List UInt8):List (List UInt8)×Int:=
 if hl:l=[] then ([],0) else match h:zGZ k l with
  | .inl c=>([],c)
  | .inr n=>(l.take n::(pcs k (l.drop n)).1,(pcs k (l.drop n)).2)
termination_by l.length
decreasing_by
 all_goals
  rcases zEn k l with ⟨c',h',_⟩| ⟨n',h',g1,g2,_⟩
  ·rw [h'] at h;cases h
  ·rw [h'] at h;cases h;simp only [yA];omega
def ends (base:Nat):List (List UInt8)->List Int
 | []=>[]
 | p::ps=>((base+p.length:Nat):Int)::ends (base+p.length) ps
def zIP (k:Int) (b:List UInt8):List Int×Int:=if kNum k=false then ([],2) else if (pcs k b).2=0 then (ends 0 (pcs k b).1,0) else ([],(pcs k b).2)
def zae (m:Mes) (i:Int):Fld:=m.Fields.getD i.toNat ⟨[],0,0,false,false,0⟩
def vw (m:Mes) (n w:Int):Int⊕(Int×Bool):=
 if fldI m n<0 then .inr (-1,false)
 else if (zae m (fldI m n)).Repeated=true/\kNum (zae m (fldI m n)).Kind=true/\w=2 then .inr (fldI m n,true)
 else if zfM (zae m (fldI m n)).Kind=false\/zAw (zae m (fldI m n)).Kind≠w then .inl 6 else .inr (fldI m n,false)
theorem zia (m:Mes) (n:Int):fldI m n= -1/\(∀f∈m.Fields,f.Number≠n)\/∃(i:Nat) (h:i<m.Fields.length),fldI m n=i/\m.Fields[i].Number=n/\∀(j:Nat) (h:j<m.Fields.length),j<i->m.Fields[j].Number≠n:=by
 unfold fldI;cases h:m.Fields.findIdx? (fun f:Fld=>f.Number==n) with
 | none=>
  left;rw [q6] at h;exact ⟨ziF (q6.2 h),fun f hf=>by simpa using h f hf⟩
 | some i=>
  right;have h':=h;rw [qH] at h;obtain ⟨hi,hp,hj⟩:=h;exact ⟨i,hi,ziG h',by simpa using hp,fun j hjl hji=>by simpa using hj j hji⟩
theorem zjI {m:Mes} {i:Nat} (h:i<m.Fields.length):zae m (i:Int)=m.Fields[i]:=by
 unfold zae;rw [yk,qJ,xI h];rfl
def zH (s:List Mes) (i:Int):Mes:=s.getD i.toNat ⟨[],[]⟩
theorem zeH {s:List Mes} {i:Nat} (h:i<s.length):zH s (i:Int)=s[i]:=by
 unfold zH;rw [yk,qJ,xI h];rfl
def valB (b:List UInt8) (r:Rec):List UInt8:=(b.drop r.At.toNat).take (r.To.toNat - r.At.toNat)
abbrev zIt:=Option (Int->List UInt8->Option (Int×Int))
def zMq (f:Fld) (run:Bool) (sub:zIt) (r:Rec) (v:List UInt8):Option (Int×Int):=
 if run=true then (if (zIP f.Kind v).2≠0 then some (r.From,(zIP f.Kind v).2) else none)
 else if f.Kind=15/\zmU v=false then some (r.From,7)
 else if f.Kind=17 then (match sub with
  | none=>some (r.From,8)
  | some g=>match g f.Of v with
   | some (p,c)=>some (r.At+p,c)
   | none=>none)
 else none
def zMD (m:Mes) (sub:zIt) (b:List UInt8) (r:Rec):Option (Int×Int):=match vw m r.Number r.Wire with
 | .inl c=>some (r.From,c)
 | .inr (i,run)=>if i<0 then none else zMq (zae m i) run sub r (valB b r)
def zIW (m:Mes) (sub:zIt) (b:List UInt8) (x:List Rec×Option (Nat×Int)):Option (Int×Int):=match x.1.findSome? (zMD m sub b) with
 | some p=>some p
 | none=>x.2.map fun p=>((p.1:Int),p.2)
def zBs (s:List Mes):Nat->Int->List UInt8->Option (Int×Int)
 | 0,k,b=>zIW (zH s k) none b (spl 0 b)
 | d+1,k,b=>zIW (zH s k) (some (zBs s d)) b (spl 0 b)
def argS (s:List Mes) (root d:Int):Int:=if zeS s=false then 9 else if root<0\/root>=s.length\/d<0\/d>64 then 2 else 0
theorem zHg (h:argS s root d=0):zeZ s/\0<=root/\root<s.length/\0<=d/\d<=64:=by
 unfold argS at h;split at h
 ·omega
 ·rename_i h1;split at h
  ·omega
  ·rename_i h2;exact ⟨zwm (by simpa using h1),by omega⟩
abbrev zz:=List Int
def begB (way w:zz):Bool:=w.isPrefixOf way
theorem znE {way w:zz}:begB way w=true↔w<+:way:=List.isPrefixOf_iff_prefix
def zdw:zz->zz->Bool
 | [],b=> !b.isEmpty
 | _::_,[]=>false
 | x::a,y::b=>if x=y then zdw a b else decide (x<y)
theorem zjR:∀(a:zz),zdw a a=false
 | []=>rfl
 | x::a=>by rw [zdw,xx rfl,zjR a]
theorem zoE:∀(a b c:zz),zdw a b=true->zdw b c=true->zdw a c=true
 | [],b,c,h1,h2=>by
  cases c with
  | nil=>cases b<;>simp [zdw] at h2
  | cons=>rfl
 | _::_,[],_,h1,_=>by simp [zdw] at h1
 | _::_,_::_,[],_,h2=>by simp [zdw] at h2
 | x::a,y::b,z::c,h1,h2=>by
  rw [zdw] at h1 h2|-;by_cases hxy:x=y
  ·rw [xx hxy] at h1;by_cases hyz:y=z
   ·rw [xx hyz] at h2;rw [xx (hxy.trans hyz)];exact zoE a b c h1 h2
   ·rw [xw hyz] at h2;rw [xw (by rw [hxy];exact hyz),hxy];exact h2
  ·rw [xw hxy] at h1;have h1':x<y:=by simpa using h1
   by_cases hyz:y=z
   ·rw [xw (by rw [<-hyz];exact hxy),<-hyz];exact h1
   ·rw [xw hyz] at h2;have h2':y<z:=by simpa using h2
    rw [xw (by omega)];simp;omega
theorem zwE:∀(a b:zz),a≠b->zdw a b=true\/zdw b a=true
 | [],[],h=>absurd rfl h
 | [],_::_,_=> .inl rfl
 | _::_,[],_=> .inr rfl
 | x::a,y::b,h=>by
  rw [zdw,zdw];by_cases hxy:x=y
  ·rw [xx hxy,xx hxy.symm];exact zwE a b (fun e=>h (by rw [hxy,e]))
  ·rw [xw hxy,xw (fun e=>hxy e.symm)];rcases Int.lt_or_gt_of_ne hxy with h'| h'
   ·left;simpa using h'
   ·right;simpa using h'
theorem zDz {a b:zz} (h:zdw a b=true):zdw b a=false:=by
 cases hb:zdw b a with
 | false=>rfl
 | true=>have:=zoE a b a h hb;rw [zjR] at this;cases this
theorem zoN:∀(l k:List zz),l.Pairwise (fun a b=>zdw a b=true)->k.Pairwise (fun a b=>zdw a b=true)->(∀w,w∈l↔w∈k)->l=k
 | [],[],_,_,_=>rfl
 | [],y::k,_,_,h=>absurd ((h y).2 xy) (by simp)
 | x::l,[],_,_,h=>absurd ((h x).1 xy) (by simp)
 | x::l,y::k,hl,hk,h=>by
  have hl':=ym.1 hl;have hk':=ym.1 hk;have hxy:x=y:=by
   rcases xA.1 ((h x).1 xy) with h1| h1
   ·exact h1
   ·rcases xA.1 ((h y).2 xy) with h2| h2
    ·exact h2.symm
    ·have a1:=hk'.1 x h1;have a2:=hl'.1 y h2;rw [zDz a1] at a2;cases a2
  subst hxy;congr 1;refine zoN l k hl'.2 hk'.2 fun w=>?_
  have nl:x∉l:=fun hm=>by have:=hl'.1 x hm;rw [zjR] at this;cases this
  have nk:x∉k:=fun hm=>by have:=hk'.1 x hm;rw [zjR] at this;cases this
  have:=h w;simp only [xA] at this;constructor
  ·intro hw;rcases this.1 (.inr hw) with rfl| h'
   ·exact absurd hw nl
   ·exact h'
  ·intro hw;rcases this.2 (.inr hw) with rfl| h'
   ·exact absurd hw nk
   ·exact h'
def zGP (ways:List zz) (i:Nat) (w:zz) (k:Nat) (v:zz):Bool:=decide (k≠i)&& !v.isEmpty&&begB w v&&(decide (v.length<w.length)|| decide (k<i))
def badW (ways:List zz) (i:Nat) (w:zz):Nat->List zz->Bool
 | _,[]=>false
 | k,v::l=>zGP ways i w k v|| badW ways i w (k+1) l
def insL (w:zz) (out:List zz):List zz:=out.takeWhile (fun x=>zdw x w)++w::out.dropWhile (fun x=>zdw x w)
def ofK (ways:List zz):Nat->List zz
 | 0=>[]
 | i+1=>match ways[i]? with
  | some w=>if !w.isEmpty&& !badW ways i w 0 ways then insL w (ofK ways i) else ofK ways i
  | none=>ofK ways i
def ofW (ways:List zz):List zz:=ofK ways ways.length
theorem zJf {w x:zz} {out:List zz}:x∈insL w out↔x=w\/x∈out:=by
 unfold insL;have hs:out.takeWhile (fun x=>zdw x w)++out.dropWhile (fun x=>zdw x w)=out:=ur;constructor
 ·intro h;rcases xE.1 h with h| h
  ·exact .inr (by rw [<-hs];exact xX _ h)
  ·rcases xA.1 h with h| h
   ·exact .inl h
   ·exact .inr (by rw [<-hs];exact xY _ h)
 ·intro h;rcases h with rfl| h
  ·exact xY _ xy
  ·rw [<-hs] at h;rcases xE.1 h with h| h
   ·exact xX _ h
   ·exact xY _ (xz _ h)
theorem zFM {w:zz}:∀{l:List zz},∀x∈l.takeWhile (fun x=>zdw x w),zdw x w=true:=by
 intro l
 induction l with
 | nil=>intro x hx;simp at hx
 | cons y l ih=>
  intro x hx;rw [List.takeWhile_cons] at hx;by_cases hy:zdw y w=true
  ·rw [xx hy] at hx;rcases xA.1 hx with rfl| hx
   ·exact hy
   ·exact ih x hx
  ·rw [xw hy] at hx;cases hx
theorem zEU {w:zz}:∀{l:List zz},l.Pairwise (fun a b=>zdw a b=true)->(w∉l)->∀x∈l.dropWhile (fun x=>zdw x w),zdw w x=true:=by
 intro l
 induction l with
 | nil=>intro _ _ x hx;simp at hx
 | cons y l ih=>
  intro hp hn x hx;rw [List.dropWhile_cons] at hx;have hp':=ym.1 hp;by_cases hy:zdw y w=true
  ·rw [xx hy] at hx;exact ih hp'.2 (fun h=>hn (xz _ h)) x hx
  ·rw [xw hy] at hx;have hwy:zdw w y=true:=by
    rcases zwE w y (fun e=>hn (by rw [e];exact xy)) with h| h
    ·exact h
    ·exact absurd h hy
   rcases xA.1 hx with rfl| hx
   ·exact hwy
   ·exact zoE _ _ _ hwy (hp'.1 x hx)
theorem zDk {w:zz} {out:List zz} (hs:out.Pairwise (fun a b=>zdw a b=true)) (hn:w∉out):(insL w out).Pairwise (fun a b=>zdw a b=true):=by
 unfold insL;have hsp:out.takeWhile (fun x=>zdw x w)++out.dropWhile (fun x=>zdw x w)=out:=ur;have hp:(out.takeWhile (fun x=>zdw x w)++out.dropWhile (fun x=>zdw x w)).Pairwise (fun a b=>zdw a b=true):=by rw [hsp];exact hs
 rw [List.pairwise_append] at hp|-;have ht:=zFM (w:=w) (l:=out);have hd:=zEU hs hn;refine ⟨hp.1,ym.2 ⟨hd,hp.2.1⟩,fun a ha b hb=>?_⟩;rcases xA.1 hb with rfl| hb
 ·exact ht a ha
 ·exact hp.2.2 a ha b hb
theorem zCL {ways:List zz} {i:Nat} {w:zz}:∀(l:List zz) (k:Nat),badW ways i w k l=true↔∃j v,l[j]? =some v/\zGP ways i w (k+j) v=true
 | [],k=>by simp [badW]
 | v::l,k=>by
  rw [badW,qd,zCL l (k+1)];constructor
  ·rintro (h| ⟨j,u,h1,h2⟩)
   ·exact ⟨0,v,rfl,by simpa using h⟩
   ·exact ⟨j+1,u,by simpa using h1,by rw [show k+(j+1)=k+1+j by omega];exact h2⟩
  ·rintro ⟨j,u,h1,h2⟩;cases j with
   | zero=>left;simp at h1;subst h1;simpa using h2
   | succ j=>right;exact ⟨j,u,by simpa using h1,by rw [show k+1+j=k+(j+1) by omega];exact h2⟩
def zxL (ways:List zz) (w:zz):Prop:=w∈ways/\w≠[]/\∀v∈ways,v≠[]->v<+:w->v=w
theorem zyn {ways:List zz} {i:Nat} {w:zz} (hi:ways[i]? =some w):(!w.isEmpty&& !badW ways i w 0 ways)=true↔zxL ways w/\∀j<i,ways[j]? ≠some w:=by
 rw [xB,yn,yn,<-qu,<-qu,zCL];have hw:w∈ways:=qA hi;have hok:∀(k:Nat) (v:zz),zGP ways i w k v=true↔k≠i/\v≠[]/\v<+:w/\(v.length<w.length\/k<i):=by
  intro k v;unfold zGP;simp only [xB,qd,xN,znE,yn,qK];constructor
  ·rintro ⟨⟨⟨h1,h2⟩,h3⟩,h4⟩;exact ⟨h1,h2,h3,h4⟩
  ·rintro ⟨h1,h2,h3,h4⟩;exact ⟨⟨⟨h1,h2⟩,h3⟩,h4⟩
 constructor
 ·rintro ⟨h1,h2⟩;refine ⟨⟨hw,by simpa using h1,fun v hv hv0 hp=>?_⟩,fun j hj hje=>?_⟩
  ·obtain ⟨k,hk,rfl⟩:=qh hv;rcases qe (ways[k]).length w.length with hl| hl
   ·exfalso;refine h2 ⟨k,ways[k],xI hk,(hok _ _).2 ⟨fun e=>?_,hv0,hp,.inl hl⟩⟩;rw [xH] at e;subst e;rw [xI hk] at hi;cases hi;omega
   ·exact hp.eq_of_length (by have:=hp.length_le;omega)
  ·refine h2 ⟨j,w,hje,(hok _ _).2 ⟨by omega,by simpa using h1,qL w,.inr (by omega)⟩⟩
 ·rintro ⟨⟨_,h1,h2⟩,h3⟩;refine ⟨by simpa using h1,?_⟩;rintro ⟨k,v,hk,hv⟩;rw [xH] at hv;obtain ⟨g1,g2,g3,g4⟩:=(hok _ _).1 hv;have:=h2 v (qA hk) g2 g3;subst this;rcases g4 with g4| g4
  ·omega
  ·exact h3 k g4 hk
theorem zBP {ways:List zz}:∀(i:Nat),i<=ways.length->∀w,w∈ofK ways i↔zxL ways w/\∃j<i,ways[j]? =some w
 | 0,_,w=>by simp [ofK]
 | i+1,hi,w=>by
  have hil:i<ways.length:=hi;have ih:=zBP (ways:=ways) i (Nat.le_of_lt hil) w;obtain ⟨u,hg⟩:∃u,ways[i]? =some u:=⟨ways[i],xI hil⟩;rw [ofK,hg];simp only;by_cases hu:(!u.isEmpty&& !badW ways i u 0 ways)=true
  ·rw [xx hu,zJf,ih];obtain ⟨h1,h2⟩:=(zyn hg).1 hu;constructor
   ·rintro (rfl| ⟨h3,j,hj,hje⟩)
    ·exact ⟨h1,i,by omega,hg⟩
    ·exact ⟨h3,j,by omega,hje⟩
   ·rintro ⟨h3,j,hj,hje⟩;by_cases hji:j=i
    ·subst hji;rw [hg] at hje;cases hje;exact .inl rfl
    ·exact .inr ⟨h3,j,by omega,hje⟩
  ·rw [xw hu,ih];constructor
   ·rintro ⟨h3,j,hj,hje⟩;exact ⟨h3,j,by omega,hje⟩
   ·rintro ⟨h3,j,hj,hje⟩;by_cases hji:j=i
    ·subst hji;rw [hg] at hje;cases hje
     -- it stood there zIA
     have hn:¬∀k<j,ways[k]? ≠some w:=fun hk=>hu ((zyn hg).2 ⟨h3,hk⟩)
     simp only [Classical.not_forall,Classical.not_not] at hn;obtain ⟨k,hk,hke⟩:=hn;exact ⟨h3,k,hk,hke⟩
    ·exact ⟨h3,j,by omega,hje⟩
theorem zml {ways:List zz} {w:zz}:w∈ofW ways↔zxL ways w:=by
 unfold ofW;rw [zBP _ (xC _)];refine ⟨fun h=>h.1,fun h=>⟨h,?_⟩⟩;obtain ⟨j,hj,rfl⟩:=qh h.1;exact ⟨j,hj,xI hj⟩
theorem zyI {ways:List zz}:∀(i:Nat),i<=ways.length->(ofK ways i).Pairwise (fun a b=>zdw a b=true)
 | 0,_=> .nil
 | i+1,hi=>by
  have hil:i<ways.length:=hi;have ih:=zyI (ways:=ways) i (Nat.le_of_lt hil);obtain ⟨u,hg⟩:∃u,ways[i]? =some u:=⟨ways[i],xI hil⟩;rw [ofK,hg];simp only;by_cases hu:(!u.isEmpty&& !badW ways i u 0 ways)=true
  ·rw [xx hu];obtain ⟨h1,h2⟩:=(zyn hg).1 hu;refine zDk ih fun hm=>?_
   obtain ⟨_,j,hj,hje⟩:=(zBP i (by omega) u).1 hm;exact h2 j hj hje
  ·rw [xw hu];exact ih
theorem znR (ways:List zz):(ofW ways).Pairwise (fun a b=>zdw a b=true):=zyI _ (xC _)
theorem zGL {ways:List zz}:∀(i:Nat),(ofK ways i).length<=i
 | 0=>xC _
 | i+1=>by
  have ih:=zGL (ways:=ways) i;rw [ofK];split
  ·split
   ·unfold insL;have hs:∀(p:zz->Bool),((ofK ways i).takeWhile p).length+((ofK ways i).dropWhile p).length=(ofK ways i).length:=fun p=>by rw [<-yd,ur]
    rename_i w _ _;have:=hs (fun x=>zdw x w);simp only [yd,ye];omega
   ·omega
  ·omega
theorem zGM (ways:List zz):(ofW ways).length<=ways.length:=zGL _
def hasB (ways:List zz) (way:zz):Bool:=ways.any fun v=> !v.isEmpty&&begB way v
theorem zgz {ways:List zz} {way:zz}:hasB ways way=true↔∃v∈ways,v≠[]/\v<+:way:=by
 unfold hasB;rw [pI];constructor
 ·rintro ⟨v,hv,h⟩;simp only [xB,znE,yn,qK] at h;exact ⟨v,hv,h.1,h.2⟩
 ·rintro ⟨v,hv,h1,h2⟩;exact ⟨v,hv,by simp only [xB,znE,yn,qK];exact ⟨h1,h2⟩⟩
theorem zDL {a b:List zz} (h:∀way,hasB a way=hasB b way):ofW a=ofW b:=by
 have half:∀{a b:List zz},(∀way,hasB a way=hasB b way)->∀w,zxL a w->zxL b w:=by
  intro a b h w hw;have h1:hasB b w=true:=by rw [<-h];exact zgz.2 ⟨w,hw.1,hw.2.1,qL w⟩
  obtain ⟨v,hv,hv0,hvp⟩:=zgz.1 h1;have h2:hasB a v=true:=by rw [h];exact zgz.2 ⟨v,hv,hv0,qL v⟩
  obtain ⟨u,hu,hu0,hup⟩:=zgz.1 h2;have huw:=hw.2.2 u hu hu0 (hup.trans hvp);have hvw:v=w:=by
   subst huw;exact hvp.eq_of_length (by have:=hvp.length_le;have:=hup.length_le;omega)
  subst hvw;refine ⟨hv,hv0,fun x hx hx0 hxp=>?_⟩;have h3:hasB a x=true:=by rw [h];exact zgz.2 ⟨x,hx,hx0,qL x⟩
  obtain ⟨y,hy,hy0,hyp⟩:=zgz.1 h3;have:=hw.2.2 y hy hy0 (hyp.trans hxp);subst this;exact hxp.eq_of_length (by have:=hyp.length_le;have:=hxp.length_le;omega)
 exact zoN _ _ (znR a) (znR b) fun w=>by rw [zml,zml];exact ⟨half h w,half (fun way=>(h way).symm) w⟩
def WW (ways:List zz):Prop:=ways.length<=5864062014634/\∀w∈ways,w.length<=17592186043904
def ziA (m:List zz) (n:Int):Bool:=m.any fun v=>v==[n]
def zwk (n:Int):zz->Option zz
 | x::y::v=>if x=n then some (y::v) else none
 | _=>none
def zie (m:List zz) (n:Int):List zz:=m.filterMap (zwk n)
def zfa (s:List Mes) (root:Int):Int:=if zeS s=false then 9 else if root<0\/root>=s.length then 2 else 0
theorem zBY {s:List Mes} (hw:WS s) (root:Int):zhF s root=some (zfa s root):=by
 unfold zhF zfa;rw [zzL hw,sb];cases h:zeS s
 ·rw [itT (c:= !false) rfl,xx (show false=false from rfl)]
 ·rw [itF (c:= !true) rfl,xw (show ¬(true=false) by simp)];by_cases h2:root<0\/root>=s.length
  ·rw [itT (by simpa using h2),xx h2]
  ·rw [uN,xw h2]
theorem zrC {s:List Mes} {root:Int} (h:zfa s root=0):zeZ s/\0<=root/\root<s.length:=by
 unfold zfa at h;split at h
 ·omega
 ·rename_i h1;split at h
  ·omega
  ·exact ⟨zwm (by simpa using h1),by omega⟩
def zcw (s:List Mes):zz->Int->Option (List (List UInt8))
 | [],_=>some []
 | [n],r=>if fldI (zH s r) n<0 then none else some [(zae (zH s r) (fldI (zH s r) n)).Name]
 | n::y::l,r=>if fldI (zH s r) n<0 then none
  else if (zae (zH s r) (fldI (zH s r) n)).Repeated=true\/(zae (zH s r) (fldI (zH s r) n)).Kind≠17 then none
  else (zcw s (y::l) (zae (zH s r) (fldI (zH s r) n)).Of).map ((zae (zH s r) (fldI (zH s r) n)).Name::·)
def zfB (s:List Mes) (root:Int) (way:zz):List UInt8×Bool:=match zcw s way root with
 | some l=>(zkf l,decide (1<=l.length/\l.length<=65))
 | none=>([],false)
theorem zvY {s:List Mes} (hr:zeZ s):∀(w:zz) (k:Nat) (l:List (List UInt8)),k<s.length->zcw s w k=some l->l.length=w.length/\∀x∈l,zdc x=true
 | [],_,l,_,h=>by cases h;simp
 | [n],k,l,hk,h=>by
  rw [zcw,zeH hk] at h;rcases zia s[k] n with ⟨hn,_⟩| ⟨i,hi,hn,_⟩
  ·rw [hn,xx (show (-1:Int)<0 by decide)] at h;cases h
  ·rw [hn,xw (show ¬((i:Int)<0) by omega),zjI hi] at h;cases h;exact ⟨rfl,fun x hx=>by simp at hx;subst hx;exact (hr.fld _ (xD hk) _ (xD hi)).name⟩
 | n::y::w,k,l,hk,h=>by
  rw [zcw,zeH hk] at h;rcases zia s[k] n with ⟨hn,_⟩| ⟨i,hi,hn,_⟩
  ·rw [hn,xx (show (-1:Int)<0 by decide)] at h;cases h
  ·have hfo:=hr.fld _ (xD hk) _ (xD hi);rw [hn,xw (show ¬((i:Int)<0) by omega),zjI hi] at h;split at h
   ·cases h
   ·rename_i h17;have hk17:(s[k].Fields[i]).Kind=17:=by
     by_cases h:(s[k].Fields[i]).Kind=17
     ·exact h
     ·exact absurd (.inr h) h17
    have hof:=hfo.sub hk17;obtain ⟨q,hq⟩:∃q:Nat,(s[k].Fields[i]).Of=q:=⟨(s[k].Fields[i]).Of.toNat,by omega⟩;rw [hq,ue] at h;obtain ⟨l',h1,rfl⟩:=h;obtain ⟨g1,g2⟩:=zvY hr (y::w) q l' (by omega) h1;refine ⟨by simp [g1],fun x hx=>?_⟩;rcases xA.1 hx with rfl| hx
    ·exact hfo.name
    ·exact g2 x hx
theorem zAu:∀(l:List (List UInt8)),(∀x∈l,x.length<=60)->(zkf l).length<=61*l.length
 | [],_=>by simp [zkf]
 | [x],h=>by have:=h x xy;simp [zkf];omega
 | x::y::l,h=>by
  have h1:=h x xy;have h2:=zAu (y::l) fun z hz=>h z (xz _ hz)
  rw [zkf];simp only [yd,ye] at h2|-;omega
theorem zyF {x:List UInt8} (h:zdc x=true):1<=x.length/\x.length<=60:=by
 unfold zdc at h;simp only [xB,xN] at h;exact h.2
theorem zHR {s:List Mes} (hr:zeZ s) {way:zz} (hwl:way.length<=1048576):∀(t:zz) (i k:Nat) (names:List (List UInt8)),way.drop i=t->(t≠[]->k<s.length)->names.length<=i->∀r:Int,(t≠[]->r=k)->
  zey s way r names i=some (match zcw s t k with| some l=> .inl (names++l)| none=> .inr ()):=by
 intro t
 induction t with
 | nil=>
  intro i k names hd hk ho r hrk;have:=zbx hd;refine (zhZ (oo_:= .inl names) ?_).trans ?_
  ·unfold zaY;rw [uN]
  ·simp [zcw]
 | cons n t ih=>
  intro i k names hd hk ho r hrk;have hkl:=hk (by simp);have hrk:=hrk (by simp);subst hrk;obtain ⟨hil,hv,hd'⟩:=zba hd;have hm:s[k]∈s:=xD hkl;have hfew:=hr.few _ hm;have e1:idx s (k:Int)=some s[k]:=zI rfl hkl;have e2:idx way (i:Int)=some n:=by rw [zI rfl hil,hv]
  have hlast:decide ((i:Int)<IntKind.i64.wrap ((way.length:Int) - 1))= !t.isEmpty:=by
   rw [uO];cases t with
   | nil=>have:=zbx hd';simp;omega
   | cons y t=>obtain ⟨h,_⟩:=zba hd';simp;omega
  rcases zia s[k] n with ⟨hn,_⟩| ⟨j,hj,hn,_⟩
  ·have hns:zcw s (n::t) k=none:=by
    cases t<;>rw [zcw,zeH hkl,hn,xx (show (-1:Int)<0 by decide)]
   rw [hns];refine zhZ ?_;unfold zaY;rw [uM,e1,sb,e2,sb,zle (by omega),sb,hn,itT (by rfl)]
  ·have hfo:=hr.fld _ hm _ (xD hj);have hb:zaY s way k names i=if t.isEmpty=false/\((s[k].Fields[j]).Repeated=true\/(s[k].Fields[j]).Kind≠17) then some (.inr (.inr ())) else some (.inl ((s[k].Fields[j]).Of,names++[(s[k].Fields[j]).Name],((i+1:Nat):Int))):=by
    unfold zaY;rw [uM,e1,sb,e2,sb,zle (by omega),sb,hn,itF (by simp),sb,zI rfl hj,sb,zga (by simp;omega),sb,hlast];by_cases hc:t.isEmpty=false/\((s[k].Fields[j]).Repeated=true\/(s[k].Fields[j]).Kind≠17)
    ·rw [xx hc,itT (by simpa using hc)]
    ·rw [xw hc,itF (by rw [<-qu];simpa using hc),uO];push_cast;rfl
   cases t with
   | nil=>
    rw [xw (by simp)] at hb;rw [zku hb,ih (i+1) 0 _ hd' (fun h=>absurd rfl h) (by simp;omega) _ (fun h=>absurd rfl h),zcw,zcw,zeH hkl,hn,xw (show ¬((j:Int)<0) by omega),zjI hj];simp
   | cons y t=>
    rw [zcw,zeH hkl,hn,xw (show ¬((j:Int)<0) by omega),zjI hj];by_cases h17:(s[k].Fields[j]).Repeated=true\/(s[k].Fields[j]).Kind≠17
    ·rw [xx ⟨rfl,h17⟩] at hb;rw [zhZ hb,xx h17]
    ·rw [xw (fun h=>h17 h.2)] at hb;rw [xw h17];have hk17:(s[k].Fields[j]).Kind=17:=by
      by_cases h:(s[k].Fields[j]).Kind=17
      ·exact h
      ·exact absurd (.inr h) h17
     have hof:=hfo.sub hk17;obtain ⟨q,hq⟩:∃q:Nat,(s[k].Fields[j]).Of=q:=⟨(s[k].Fields[j]).Of.toNat,by omega⟩;rw [zku hb,ih (i+1) q _ hd' (fun _=>by omega) (by simp;omega) _ (fun _=>hq),hq];cases zcw s (y::t) q<;>simp
theorem zCc {s:List Mes} (hr:zeZ s) {k:Nat} (hk:k<s.length) {way:zz} (hwl:way.length<=1048576):zhG s k way=some (zfB s k way):=by
 have h:=zHR hr hwl way 0 k [] rfl (fun _=>hk) (xC _) k (fun _=>rfl);have h':zey s way k [] 0=_:=h;unfold zhG zfB;rw [h',sb];cases hn:zcw s way k with
 | none=>rfl
 | some l=>
  obtain ⟨g1,g2⟩:=zvY hr way k l hk hn;have hj:=zAu l fun x hx=>(zyF (g2 x hx)).2
  simp only [xV];rw [zCa (by omega) (by omega),sb];by_cases h1:1<=l.length
  ·rw [uM,sb];simp only [h1,q9];congr 2;exact yZ.2 (by omega)
  ·rw [uN,sb];simp [h1]
abbrev Msg:=zd
abbrev Vlu:=zb
mutual
def szM:Msg->Nat
 | ⟨vs,_⟩=>1+szVs vs
def szVs:List Vlu->Nat
 | []=>0
 | v::l=>szV v+szVs l
def szV:Vlu->Nat
 | ⟨_,_,_,s⟩=>1+szMs s
def szMs:List Msg->Nat
 | []=>0
 | x::l=>szM x+szMs l
end
theorem zcy (x:Msg):szM x=1+szVs x.Values:=by cases x;rw [szM]
theorem zfR (v:Vlu):szV v=1+szMs v.Subs:=by cases v;rw [szV]
theorem zdE :∀{l:List Vlu},v∈l->szV v<=szVs l
 | [],h=>by cases h
 | u::l,h=>by
  rw [szVs];rcases xA.1 h with rfl| h
  ·omega
  ·have:=zdE h;omega
theorem zfh :∀{l:List Msg},x∈l->szM x<=szMs l
 | [],h=>by cases h
 | u::l,h=>by
  rw [szMs];rcases xA.1 h with rfl| h
  ·omega
  ·have:=zfh h;omega
mutual
/-- Within the reach of what a law is handed. -/
def bdM:Msg->Prop
 | ⟨vs,u⟩=>vs.length*80<=140737488351232/\(u.length*16<=140737488351232/\∀t∈u,t.length<=140737488351232)/\bdVs vs
def bdVs:List Vlu->Prop
 | []=>True
 | v::l=>bdV v/\bdVs l
def bdV:Vlu->Prop
 | ⟨n,w,t,s⟩=>(Lit.int .i64 n).wf=true/\(w.length*8<=140737488351232/\∀x∈w,0<=x/\x<=18446744073709551615)/\(t.length*16<=140737488351232/\∀x∈t,x.length<=140737488351232)/\s.length*48<=140737488351232/\bdMs s
def bdMs:List Msg->Prop
 | []=>True
 | x::l=>bdM x/\bdMs l
end
theorem zdK (x:Msg):bdM x↔x.Values.length*80<=140737488351232/\(x.Unknown.length*16<=140737488351232/\∀t∈x.Unknown,t.length<=140737488351232)/\bdVs x.Values:=by cases x;simp only [bdM]
theorem zeP (v:Vlu):bdV v↔(Lit.int .i64 v.Number).wf=true/\(v.Words.length*8<=140737488351232/\∀x∈v.Words,0<=x/\x<=18446744073709551615)/\(v.Texts.length*16<=140737488351232/\∀x∈v.Texts,x.length<=140737488351232)/\v.Subs.length*48<=140737488351232/\bdMs v.Subs:=by cases v;simp only [bdV]
theorem zcF:∀{l:List Vlu},bdVs l↔∀v∈l,bdV v
 | []=>by simp [bdVs]
 | v::l=>by rw [bdVs,zcF (l:=l)];simp
theorem zdz:∀{l:List Msg},bdMs l↔∀v∈l,bdM v
 | []=>by simp [bdMs]
 | v::l=>by rw [bdMs,zdz (l:=l)];simp
section
open Classical
noncomputable def zlz {α:Type} (x y:α):Bool:=decide (x=y)
theorem zdL {α:Type} {x y:α}:zlz x y=true↔x=y:=by unfold zlz;simp
theorem zFI:∀(fuel:Nat),(∀x y:Msg,szM x<fuel->bdM x->zbY fuel x y=some (zlz x y))/\∀v u:Vlu,szV v<fuel->bdV v->zaT fuel v u=some (zlz v u)
 | 0=>⟨fun x y h=>by omega,fun v u h=>by omega⟩
 | fuel+1=>by
  obtain ⟨ih1,ih2⟩:=zFI fuel;refine ⟨fun x y hs hb=>?_,fun v u hs hb=>?_⟩
  ·obtain ⟨b1,⟨b2,b3⟩,b4⟩:=(zdK x).1 hb;rw [zcy] at hs;show zgy (zbY fuel) (zaT fuel) x y=_;unfold zgy;by_cases hl:x.Values.length=y.Values.length/\x.Unknown.length=y.Unknown.length
   ·rw [itF (by simp [hl.1,hl.2])];have hv:∀(i:Nat) (hi:i<x.Values.length) (hi':i<y.Values.length),zaT fuel x.Values[i] y.Values[i]=some (zlz x.Values[i] y.Values[i]):=fun i hi hi'=>by
     have hm:=xD hi;have:=zdE hm;exact ih2 _ _ (by omega) (zcF.1 b4 _ hm)
    have h1:=znZ x.Values y.Values (fun i=>zeD x y (zaT fuel) i) hl.1 (by
      refine zkv ?_;unfold zbs;rw [itF (by simp)])
     (fun i hi hi'=>by
      by_cases hp:x.Values[i]=y.Values[i]
      ·rw [xx hp];refine zpl ?_;unfold zbs;rw [uM,zI rfl hi,sb,zI rfl hi',sb,hv i hi hi',sb,itF (by rw [zdL.2 hp];rfl),uO];push_cast;rfl
      ·rw [xw hp];refine zkv ?_;unfold zbs
       have:zlz x.Values[i] y.Values[i]=false:=by cases hq:zlz x.Values[i] y.Values[i] with
        | false=>rfl
        | true=>exact absurd (zdL.1 hq) hp
       rw [uM,zI rfl hi,sb,zI rfl hi',sb,hv i hi hi',sb,itT (by rw [this];rfl)])
     x.Values.length 0 (by omega)
    have h1':zeD x y (zaT fuel) 0=_:=h1;have h2:=znZ x.Unknown y.Unknown (fun i=>zeE x y i) hl.2 (by
      refine zkw ?_;unfold zbt;rw [itF (by simp)])
     (fun i hi hi'=>by
      by_cases hp:x.Unknown[i]=y.Unknown[i]
      ·rw [xx hp];refine zpm ?_;unfold zbt;rw [uM,zI rfl hi,sb,zI rfl hi',sb,itF (by simp [hp]),uO];push_cast;rfl
      ·rw [xw hp];refine zkw ?_;unfold zbt;rw [uM,zI rfl hi,sb,zI rfl hi',sb,itT (by simp [hp])])
     x.Unknown.length 0 (by omega)
    have h2':zeE x y 0=_:=h2;rw [h1',sb];simp only [xW];by_cases e1:x.Values=y.Values
    ·rw [xx e1];simp only;rw [h2',sb];simp only [xW];by_cases e2:x.Unknown=y.Unknown
     ·rw [xx e2,zdL.2 (by cases x;cases y;simp only at e1 e2;rw [e1,e2])]
     ·rw [xw e2];cases hq:zlz x y with
      | false=>rfl
      | true=>exact absurd (by rw [zdL.1 hq]) e2
    ·rw [xw e1];cases hq:zlz x y with
     | false=>rfl
     | true=>exact absurd (by rw [zdL.1 hq]) e1
   ·rw [uM];cases hq:zlz x y with
    | false=>rfl
    | true=>exact absurd (by rw [zdL.1 hq];exact ⟨rfl,rfl⟩) hl
  ·obtain ⟨b0,⟨b1,_⟩,⟨b2,b3⟩,b4,b5⟩:=(zeP v).1 hb;rw [zfR] at hs;show zeh (zbY fuel) (zaT fuel) v u=_;unfold zeh;have no:(v.Number≠u.Number\/v.Words≠u.Words\/v.Texts≠u.Texts\/v.Subs≠u.Subs)->zlz v u=false:=fun h=>by
    cases hq:zlz v u with
    | false=>rfl
    | true=>
     have:=zdL.1 hq;subst this;rcases h with h| h| h| h<;>exact absurd rfl h
   by_cases hl:v.Number=u.Number/\v.Words.length=u.Words.length/\v.Texts.length=u.Texts.length/\v.Subs.length=u.Subs.length
   ·rw [itF (by simp [hl.1,hl.2.1,hl.2.2.1,hl.2.2.2])];have hv:∀(i:Nat) (hi:i<v.Subs.length) (hi':i<u.Subs.length),zbY fuel v.Subs[i] u.Subs[i]=some (zlz v.Subs[i] u.Subs[i]):=fun i hi hi'=>by
     have hm:=xD hi;have:=zfh hm;exact ih1 _ _ (by omega) (zdz.1 b5 _ hm)
    have h1:=znZ v.Words u.Words (fun i=>zcV v u i) hl.2.1 (by
      refine ziC ?_;unfold zaC;rw [itF (by simp)])
     (fun i hi hi'=>by
      by_cases hp:v.Words[i]=u.Words[i]
      ·rw [xx hp];refine zmx ?_;unfold zaC;rw [uM,zI rfl hi,sb,zI rfl hi',sb,itF (by simp [hp]),uO];push_cast;rfl
      ·rw [xw hp];refine ziC ?_;unfold zaC;rw [uM,zI rfl hi,sb,zI rfl hi',sb,itT (by simp [hp])])
     v.Words.length 0 (by omega)
    have h1':zcV v u 0=_:=h1;have h2:=znZ v.Texts u.Texts (fun i=>zcW v u i) hl.2.2.1 (by
      refine ziD ?_;unfold zaD;rw [itF (by simp)])
     (fun i hi hi'=>by
      by_cases hp:v.Texts[i]=u.Texts[i]
      ·rw [xx hp];refine zmy ?_;unfold zaD;rw [uM,zI rfl hi,sb,zI rfl hi',sb,itF (by simp [hp]),uO];push_cast;rfl
      ·rw [xw hp];refine ziD ?_;unfold zaD;rw [uM,zI rfl hi,sb,zI rfl hi',sb,itT (by simp [hp])])
     v.Texts.length 0 (by omega)
    have h2':zcW v u 0=_:=h2;have h3:=znZ v.Subs u.Subs (fun i=>zcX v u (zbY fuel) i) hl.2.2.2 (by
      refine ziE ?_;unfold zaE;rw [itF (by simp)])
     (fun i hi hi'=>by
      by_cases hp:v.Subs[i]=u.Subs[i]
      ·rw [xx hp];refine zmz ?_;unfold zaE;rw [uM,zI rfl hi,sb,zI rfl hi',sb,hv i hi hi',sb,itF (by rw [zdL.2 hp];rfl),uO];push_cast;rfl
      ·rw [xw hp];refine ziE ?_;unfold zaE
       have:zlz v.Subs[i] u.Subs[i]=false:=by cases hq:zlz v.Subs[i] u.Subs[i] with
        | false=>rfl
        | true=>exact absurd (zdL.1 hq) hp
       rw [uM,zI rfl hi,sb,zI rfl hi',sb,hv i hi hi',sb,itT (by rw [this];rfl)])
     v.Subs.length 0 (by omega)
    have h3':zcX v u (zbY fuel) 0=_:=h3;rw [h1',sb];simp only [xW];by_cases e1:v.Words=u.Words
    ·rw [xx e1];simp only;rw [h2',sb];simp only [xW];by_cases e2:v.Texts=u.Texts
     ·rw [xx e2];simp only;rw [h3',sb];simp only [xW];by_cases e3:v.Subs=u.Subs
      ·rw [xx e3,zdL.2 (by cases v;cases u;simp only at e1 e2 e3 hl;rw [hl.1,e1,e2,e3])]
      ·rw [xw e3,no (.inr (.inr (.inr e3)))]
     ·rw [xw e2,no (.inr (.inr (.inl e2)))]
    ·rw [xw e1,no (.inr (.inl e1))]
   ·rw [uM,no (by
     by_cases h0:v.Number=u.Number
     ·by_cases h1:v.Words=u.Words
      ·by_cases h2:v.Texts=u.Texts
       ·exact .inr (.inr (.inr fun h3=>hl ⟨h0,by rw [h1],by rw [h2],by rw [h3]⟩))
       ·exact .inr (.inr (.inl h2))
      ·exact .inr (.inl h1)
     ·exact .inl h0)]
end
theorem zlw (y:Msg) (hf:szM x<fuel) (hb:bdM x):zbY fuel x y=some (zlz x y):=(zFI fuel).1 x y hf hb
theorem zmm (u:Vlu) (hf:szV v<fuel) (hb:bdV v):zaT fuel v u=some (zlz v u):=(zFI fuel).2 v u hf hb
def zcb (v:Vlu):Nat:=v.Words.length+v.Texts.length+v.Subs.length
theorem zqQ (hb:v.Words.length<=140737488351232/\v.Texts.length<=140737488351232/\v.Subs.length<=140737488351232):zcu v=some ((zcb v:Nat):Int):=by
 unfold zcu zcb;rw [zt (x:=(v.Words.length:Int)+(v.Texts.length:Int)) (by omega),uO];push_cast;rfl
def getM (x:Msg) (number:Int):Int:=zlq (fun v:Vlu=>v.Number==number) x.Values
theorem zwf {x:Msg} (hb:x.Values.length<=140737488351232) (number:Int):zgK x number=some (getM x number):=by
 have h:=zsR (fun v:Vlu=>v.Number==number) x.Values (fun i=>zfn number x i) (by
   refine zkV ?_;unfold zbI;rw [itF (by simp)])
  (fun i hi=>by
   by_cases hp:(x.Values[i]).Number=number
   ·rw [xx (by simpa using hp)];refine zkV ?_;unfold zbI;rw [uM,zI rfl hi,sb,itT (by simpa using hp)]
   ·rw [xw (by simpa using hp)];refine zpH ?_;unfold zbI;rw [uM,zI rfl hi,sb,itF (by simpa using hp),uO];push_cast;rfl)
  x.Values.length 0 (by omega) (fun j _ hj=>by omega)
 have h':zfn number x 0=_:=h;unfold zgK getM;rw [h',sb];cases hf:x.Values.findIdx? (fun v:Vlu=>v.Number==number) with
 | none=>rw [ziF hf]
 | some k=>rw [ziG hf]
mutual
def dM:Msg->Nat
 | ⟨vs,_⟩=>dVs vs
def dVs:List Vlu->Nat
 | []=>0
 | v::l=>max (dV v) (dVs l)
def dV:Vlu->Nat
 | ⟨_,_,_,s⟩=>dMs s
def dMs:List Msg->Nat
 | []=>0
 | x::l=>max (1+dM x) (dMs l)
end
theorem zAg (x:Msg):dM x=dVs x.Values:=by cases x;rw [dM]
theorem zGg (v:Vlu):dV v=dMs v.Subs:=by cases v;rw [dV]
theorem zxo :∀{l:List Vlu},v∈l->dV v<=dVs l
 | [],h=>by cases h
 | u::l,h=>by
  rw [dVs];rcases xA.1 h with rfl| h
  ·omega
  ·have:=zxo h;omega
theorem zGf :∀{l:List Msg},x∈l->1+dM x<=dMs l
 | [],h=>by cases h
 | u::l,h=>by
  rw [dMs];rcases xA.1 h with rfl| h
  ·omega
  ·have:=zGf h;omega
structure Th where
 fi:Int
 run:Bool
 val:List UInt8
 raw:List UInt8
abbrev zLK:=List UInt8×Bool×List Int×List Str×List Msg
mutual
/-- How much a meaning is, all together. -/
def wgM:Msg->Nat
 | ⟨vs,u⟩=>1+(u.map fun t=>1+t.length).sum+wgVs vs
def wgVs:List Vlu->Nat
 | []=>0
 | v::l=>wgV v+wgVs l
def wgV:Vlu->Nat
 | ⟨_,w,t,s⟩=>1+w.length+(t.map fun t=>1+t.length).sum+wgMs s
def wgMs:List Msg->Nat
 | []=>0
 | x::l=>wgM x+wgMs l
end
theorem zkQ (x:Msg):wgM x=1+(x.Unknown.map fun t=>1+t.length).sum+wgVs x.Values:=by cases x;rw [wgM]
theorem zkp (v:Vlu):wgV v=1+v.Words.length+(v.Texts.map fun t=>1+t.length).sum+wgMs v.Subs:=by cases v;rw [wgV]
theorem zEu {v:Vlu}:∀{l:List Vlu},v∈l->wgV v<=wgVs l
 | [],h=>by cases h
 | u::l,h=>by
  rw [wgVs];rcases xA.1 h with rfl| h
  ·omega
  ·have:=zEu h;omega
theorem zqn {x:Msg}:∀{l:List Msg},x∈l->wgM x<=wgMs l
 | [],h=>by cases h
 | u::l,h=>by
  rw [wgMs];rcases xA.1 h with rfl| h
  ·omega
  ·have:=zqn h;omega
theorem zCn {t:Str}:∀{l:List Str},t∈l->1+t.length<=(l.map fun t=>1+t.length).sum
 | [],h=>by cases h
 | u::l,h=>by
  rw [xU,pc];rcases xA.1 h with rfl| h
  ·omega
  ·have:=zCn h;omega
theorem zCm:∀{l:List Str},l.length<=(l.map fun t=>1+t.length).sum
 | []=>by simp
 | u::l=>by
  rw [xU,pc,ye];have:=zCm (l:=l);omega
theorem zEt:∀(l:List Vlu),l.length<=wgVs l
 | []=>by simp [wgVs]
 | u::l=>by rw [wgVs,ye,zkp];have:=zEt l;omega
theorem zEs:∀(l:List Msg),l.length<=wgMs l
 | []=>by simp [wgMs]
 | u::l=>by rw [wgMs,ye,zkQ];have:=zEs l;omega
def unkR (m:Mes) (u:Str):Bool:=(zuZ u 0).2==0&&(zuZ u 0).1.To==(u.length:Int)&&decide (fldI m (zuZ u 0).1.Number<0)
def zoP (f:Fld) (w:Int):Bool:=kNum f.Kind&&zkl f.Kind w==w
def zoe (f:Fld) (t:Str):Bool:=f.Kind==16|| (f.Kind==15&&zmU t)
def zra (f:Fld) (v:Vlu):Bool:=decide (0<zcb v)&&(decide (zcb v<=1)|| f.Repeated)&&zfM f.Kind
mutual
def zao (s:List Mes):Msg->Int->Bool
 | ⟨vs,u⟩,k=>decide (0<=k/\k<s.length)&&zhk s vs (zH s k) none&&u.all (unkR (zH s k))
def zhk (s:List Mes):List Vlu->Mes->Option Int->Bool
 | [],_,_=>true
 | v::l,m,p=>decide (0<=fldI m v.Number)&&p.all (fun n=>decide (n<v.Number))&&zhl s v (zae m (fldI m v.Number))&&zhk s l m (some v.Number)
def zhl (s:List Mes):Vlu->Fld->Bool
 | ⟨n,w,t,sub⟩,f=>zra f ⟨n,w,t,sub⟩&&w.all (zoP f)&&t.all (zoe f)&&zth s sub f
def zth (s:List Mes):List Msg->Fld->Bool
 | [],_=>true
 | x::l,f=>(f.Kind==17&&zao s x f.Of)&&zth s l f
end
theorem znu (s:List Mes) (x:Msg) (k:Int):zao s x k=(decide (0<=k/\k<s.length)&&zhk s x.Values (zH s k) none&&x.Unknown.all (unkR (zH s k))):=by cases x;rw [zao]
theorem zuM (s:List Mes) (v:Vlu) (f:Fld):zhl s v f=(zra f v&&v.Words.all (zoP f)&&v.Texts.all (zoe f)&&zth s v.Subs f):=by cases v;rw [zhl]
theorem znV (s:List Mes) (f:Fld):∀(l:List Msg),zth s l f=l.all fun x=>f.Kind==17&&zao s x f.Of
 | []=>by rw [zth];rfl
 | x::l=>by rw [zth,znV s f l];rfl
theorem zuC {α:Type} (p:α->Bool) (l:List α) (F:Bool->Int->Option Bool) (h0:∀a,F a (l.length:Int)=some a)
  (hs:∀(a:Bool) (i:Nat) (h:i<l.length),F a (i:Int)=F (a&&p l[i]) ((i+1:Nat):Int)):∀(c i:Nat) (a:Bool),i+c=l.length->F a (i:Int)=some (a&&(l.drop i).all p)
 | 0,i,a,h=>by
  have e:l.drop i=[]:=yg (by omega);have hi:i=l.length:=by omega
  rw [e,hi,h0];simp
 | c+1,i,a,h=>by
  have hd:l.drop i=l[i]::l.drop (i+1):=xS (by omega);rw [hs a i (by omega),zuC p l F h0 hs c (i+1) _ (by omega),hd,yr,Bool.and_assoc]
def prv (vs:List Vlu) (i:Nat):Option Int:=if i=0 then none else (vs[i - 1]?).map (·.Number)
theorem zCe {s:List Mes} (hs:zeZ s):∀(fuel:Nat),(∀(v:Vlu) (f:Fld),szV v<fuel->bdV v->zct fuel s f v=some (zhl s v f))/\
  ∀(x:Msg) (k:Int),szM x<fuel->bdM x->zda fuel s k x=some (zao s x k)
 | 0=>⟨fun v f h=>by omega,fun x k h=>by omega⟩
 | fuel+1=>by
  obtain ⟨ih1,ih2⟩:=zCe hs fuel;refine ⟨fun v f hsz hb=>?_,fun x k hsz hb=>?_⟩
  ·obtain ⟨_,⟨b1,b1'⟩,⟨b2,b3⟩,b4,b5⟩:=(zeP v).1 hb;rw [zfR] at hsz;show zgx (zct fuel) (zda fuel) s f v=_;unfold zgx;rw [zuM];have hg:(zcu v>>=fun rv=>if (rv==0)=true then some true else (zcu v>>=fun rv2=>if (decide (rv2>1))=true then (if (!f.Repeated)=true then some true else (zcZ f.Kind>>=fun rv3=>some (!rv3))) else (zcZ f.Kind>>=fun rv4=>some (!rv4))))=some (!zra f v):=by
    rw [zqQ ⟨by omega,by omega,by omega⟩,sb,sb,zvh,sb];unfold zra;by_cases h0:zcb v=0
    ·rw [itT (by simp [h0])];simp [h0]
    ·rw [uN];by_cases h1:zcb v>1
     ·rw [uM];cases hr:f.Repeated
      ·rw [itT (by rfl)];simp;omega
      ·rw [itF (by rfl)];simp;omega
     ·rw [uN];simp;omega
   rw [hg,sb];by_cases hm:zra f v=true
   ·rw [itF (by rw [hm];rfl),hm,xQ];have h1:=zuC (zoP f) v.Words (fun a i=>zez f v a i) (fun a=>by
      refine zpg ?_;unfold zbU;rw [itF (by simp)])
     (fun a i hi=>by
      refine zpf ?_;unfold zbU;have hx:idx v.Words (i:Int)=some v.Words[i]:=zI rfl hi;rw [uM,hx,sb,zyY,sb,zDT _ (b1' _ (xD hi)),sb,sb,uO];unfold zoP;cases a
      ·rw [itF (by rfl),sb];push_cast;rfl
      ·rw [itT (by rfl)];cases kNum f.Kind
       ·rw [itF (by rfl),sb];push_cast;rfl
       ·rw [itT (by rfl),sb];push_cast;rfl) v.Words.length 0 true (xH _)
    have h1':zez f v true 0=_:=h1;rw [h1',sb,xW,xQ];have h2:=zuC (zoe f) v.Texts (fun a i=>zeA f v a i) (fun a=>by
      refine zpi ?_;unfold zbV;rw [itF (by simp)])
     (fun a i hi=>by
      refine zph ?_;unfold zbV;have hx:idx v.Texts (i:Int)=some v.Texts[i]:=zI rfl hi;have hl:=b3 _ (xD hi);rw [uM,hx,sb,uO];have e:lenO v.Texts[i]=some v.Texts[i]:=by unfold lenO;rw [xx (by omega)]
      rw [e,sb,zCd (by omega),sb];unfold zoe;cases a
      ·rw [itF (by rfl),sb];push_cast;rfl
      ·rw [itT (by rfl)];by_cases h16:f.Kind=16
       ·rw [itT (by simpa using h16),sb];simp [h16]
       ·rw [itF (by simpa using h16)];by_cases h15:f.Kind=15
        ·rw [itT (by simpa using h15),sb];simp [h15]
        ·rw [itF (by simpa using h15),sb];simp [h15,h16]) v.Texts.length 0 (v.Words.all (zoP f)) (xH _)
    have h2':zeA f v (v.Words.all (zoP f)) 0=_:=h2;rw [h2',sb,xW];have h3:=zuC (fun x=>f.Kind==17&&zao s x f.Of) v.Subs (fun a i=>zeC f (zda fuel) s v a i) (fun a=>by
      refine zpk ?_;unfold zbW;rw [itF (by simp)])
     (fun a i hi=>by
      refine zpj ?_;unfold zbW;have hx:idx v.Subs (i:Int)=some v.Subs[i]:=zI rfl hi;have hmem:=xD hi;have s1:=zfh hmem;rw [uM,hx,sb,uO,ih2 _ f.Of (by omega) (zdz.1 b5 _ hmem),sb];cases a
      ·rw [itF (by rfl),sb];push_cast;rfl
      ·rw [itT (by rfl)];by_cases h17:f.Kind=17
       ·rw [itT (by simpa using h17),sb];simp [h17]
       ·rw [itF (by simpa using h17),sb];simp [h17]) v.Subs.length 0 (v.Words.all (zoP f)&&v.Texts.all (zoe f)) (xH _)
    have h3':zeC f (zda fuel) s v (v.Words.all (zoP f)&&v.Texts.all (zoe f)) 0=_:=h3;rw [h3',sb,xW,znV]
   ·have hm':zra f v=false:=by simpa using hm
    rw [itT (by rw [hm'];rfl),hm'];rfl
  ·obtain ⟨b1,⟨b2,b3⟩,b4⟩:=(zdK x).1 hb;rw [zcy] at hsz;show zgc (zct fuel) (zda fuel) s k x=_;unfold zgc;rw [znu];by_cases hk:0<=k/\k<s.length
   ·rw [uN,ya hk,xQ];obtain ⟨n,rfl⟩:∃n:Nat,k=n:=⟨k.toNat,by omega⟩;have hn:n<s.length:=by omega
    have hm:idx s (n:Int)=some (zH s n):=by rw [zI rfl hn,zeH hn]
    have hmm:zH s (n:Int)∈s:=by rw [zeH hn];exact xD hn
    have hfew:=hs.few _ hmm
    generalize zH s (n:Int)=m at hm hmm hfew|-
    have hv:∀(c i:Nat),i+c=x.Values.length->zeb (zct fuel) n s x i=some (if zhk s (x.Values.drop i) m (prv x.Values i)=true then .inl () else .inr ()):=by
     intro c
     induction c with
     | zero=>
      intro i hi;have e:x.Values.drop i=[]:=yg (by omega);rw [e,zhk,xx rfl];refine zkc ?_;unfold zbi;rw [uN]
     | succ c ih=>
      intro i hi;have hil:i<x.Values.length:=by omega
      have hd:x.Values.drop i=x.Values[i]::x.Values.drop (i+1):=xS hil;have hx:idx x.Values (i:Int)=some x.Values[i]:=zI rfl hil;have hmem:=xD hil;have s1:=zdE hmem;have hp1:prv x.Values (i+1)=some (x.Values[i]).Number:=by unfold prv;rw [xw (by omega)];simp [hil]
      rw [hd,zhk];have hbody:zbi (zct fuel) n s x i=if (decide (0<=fldI m (x.Values[i]).Number)&&(prv x.Values i).all (fun q=>decide (q<(x.Values[i]).Number))&&zhl s x.Values[i] (zae m (fldI m (x.Values[i]).Number)))=true then some (.inl ((i+1:Nat):Int)) else some (.inr (.inr ())):=by
       unfold zbi;have hw1:IntKind.i64.wrap ((i:Int)+1)=((i+1:Nat):Int):=by rw [uO];push_cast;rfl
       rw [uM,hm,sb,hx,sb,zle (by omega),sb,hw1];rcases zia m (x.Values[i]).Number with ⟨hf,_⟩| ⟨j,hj,hf,_⟩
       ·rw [hf,itT (by rfl),sb,itT (by rfl),xw (by simp)]
       ·have hfj:idx m.Fields (j:Int)=some (zae m (j:Int)):=by rw [zI rfl hj,zjI hj]
        have hfit:=ih1 x.Values[i] (zae m (j:Int)) (by omega) (zcF.1 b4 _ hmem);rw [hf,itF (by simp)];by_cases hi0:i=0
        ·subst hi0;rw [itF (by simp),sb,hfj,sb,sb,hfit,sb,sb];unfold prv;cases hfv:zhl s x.Values[0] (zae m (j:Int))
         ·rw [itT (by rfl),xw (by simp)]
         ·rw [itF (by rfl),xx (by simp)]
        ·have hi1:i - 1<x.Values.length:=by omega
         have hxp:idx x.Values (IntKind.i64.wrap ((i:Int) - 1))=some x.Values[i - 1]:=by
          rw [uO];exact zI (by omega) hi1
         have hpv:prv x.Values i=some (x.Values[i - 1]).Number:=by unfold prv;rw [xw hi0];simp [hi1]
         rw [uM,hxp,sb,sb,hpv];by_cases hlt:(x.Values[i - 1]).Number<(x.Values[i]).Number
         ·rw [itF (by simpa using hlt),sb,hfj,sb,sb,hfit,sb,sb];cases hfv:zhl s x.Values[i] (zae m (j:Int))
          ·rw [itT (by rfl),xw (by simp)]
          ·rw [itF (by rfl),xx (by simp [hlt])]
         ·rw [itT (by simpa using hlt),sb,itT (by rfl),xw (by simp;omega)]
      generalize (decide (0<=fldI m (x.Values[i]).Number)&&(prv x.Values i).all (fun q=>decide (q<(x.Values[i]).Number))&&zhl s x.Values[i] (zae m (fldI m (x.Values[i]).Number)))=bb at hbody|-
      cases bb
      ·rw [xw (by simp)] at hbody;rw [zkc hbody,yJ,xw (by simp)]
      ·rw [xx rfl] at hbody;rw [zos hbody,ih _ (by omega),xQ,hp1]
    have h1:=hv x.Values.length 0 (xH _);have h1':zeb (zct fuel) n s x 0=_:=h1;have hp0:prv x.Values 0=none:=rfl;rw [xW,hp0] at h1';rw [h1',sb];cases hrv:zhk s x.Values m none
    ·rw [xw (by simp)];rfl
    ·rw [xx rfl,xQ];simp only;have hu:∀(c i:Nat),i+c=x.Unknown.length->zec n s x i=some (if (x.Unknown.drop i).all (unkR m)=true then .inl () else .inr ()):=by
      intro c
      induction c with
      | zero=>
       intro i hi;have e:x.Unknown.drop i=[]:=yg (by omega);rw [e,List.all_nil,xx rfl];refine zkd ?_;unfold zbj;rw [uN]
      | succ c ih=>
       intro i hi;have hil:i<x.Unknown.length:=by omega
       have hd:x.Unknown.drop i=x.Unknown[i]::x.Unknown.drop (i+1):=xS hil;have hx:idx x.Unknown (i:Int)=some x.Unknown[i]:=zI rfl hil;have hl:=b3 _ (xD hil);have e:lenO x.Unknown[i]=some x.Unknown[i]:=by unfold lenO;rw [xx (by omega)]
       have hw1:IntKind.i64.wrap ((i:Int)+1)=((i+1:Nat):Int):=by rw [uO];push_cast;rfl
       rw [hd,yr];have hbody:zbj n s x i=if unkR m x.Unknown[i]=true then some (.inl ((i+1:Nat):Int)) else some (.inr (.inr ())):=by
        unfold zbj unkR;rw [uM,hx,sb,e,sb,zDW (by omega),sb,hw1]
        generalize zuZ x.Unknown[i] 0=r
        by_cases c1:r.2=0
        ·rw [itF (by simpa using c1),sb];by_cases c2:r.1.To=(x.Unknown[i]).length
         ·rw [itF (by simpa using c2),hm,sb,zle (by omega),sb,sb];by_cases c3:fldI m r.1.Number<0
          ·rw [itF (by simpa using c3),xx (by simp [c1,c2,c3])]
          ·rw [itT (by simpa using c3),xw (by simp [c1,c2];omega)]
         ·rw [itT (by simpa using c2),sb,itT (by rfl),xw (by simp [c1,c2])]
        ·rw [itT (by simpa using c1),sb,itT (by rfl),xw (by simp [c1])]
       cases hun:unkR m x.Unknown[i]
       ·rw [hun,xw (by simp)] at hbody;rw [zkd hbody,yJ,xw (by simp)]
       ·rw [hun,xx rfl] at hbody;rw [zot hbody,ih _ (by omega),xQ]
     have h2:=hu x.Unknown.length 0 (xH _);have h2':zec n s x 0=_:=h2;rw [h2',sb,xW];cases x.Unknown.all (unkR m)<;>rfl
   ·rw [uM,yb hk];rfl
theorem zBZ {s:List Mes} (hs:zeZ s) {v:Vlu} (f:Fld) {fuel:Nat} (hf:szV v<fuel) (hb:bdV v):zct fuel s f v=some (zhl s v f):=(zCe hs fuel).1 v f hf hb
theorem zzM (hs:zeZ s) (k:Int) (hf:szM x<fuel) (hb:bdM x):zda fuel s k x=some (zao s x k):=(zCe hs fuel).2 x k hf hb
theorem zvL {α:Type} (bytes:Nat) (l:List α) (hl:l.length*bytes<=140737488355328) (F:Int->List α->Option (List α)) (h0:∀a,F (l.length:Int) a=some a)
  (hs:∀(i:Nat) (h:i<l.length) (a:List α),(a.length+1)*bytes<=140737488355328->F (i:Int) a=F ((i+1:Nat):Int) (a++[l[i]])):∀(c i:Nat),i+c=l.length->F (i:Int) (l.take i)=some l
 | 0,i,h=>by
  have hi:i=l.length:=by omega
  rw [hi,h0,qa]
 | c+1,i,h=>by
  have hil:i<l.length:=by omega
  have hb:(i+1)*bytes<=140737488355328:=yi (yu _ hil) hl;rw [hs i hil _ (by rw [yf,yY (by omega)];exact hb),List.take_append_getElem hil];exact zvL bytes l hl F h0 hs c (i+1) (by omega)
theorem zES:∀(fuel:Nat),(∀x:Msg,szM x<fuel->bdM x->zde fuel x=some x)/\∀v:Vlu,szV v<fuel->bdV v->zbO fuel v=some v
 | 0=>⟨fun x h=>by omega,fun v h=>by omega⟩
 | fuel+1=>by
  obtain ⟨ih1,ih2⟩:=zES fuel;refine ⟨fun x hsz hb=>?_,fun v hsz hb=>?_⟩
  ·obtain ⟨b1,⟨b2,b3⟩,b4⟩:=(zdK x).1 hb;rw [zcy] at hsz;show zhy (zde fuel) (zbO fuel) x=_;unfold zhy;have h:=zvL 80 x.Values (by omega) (fun i a=>zfJ (zbO fuel) x i a) (fun a=>by
     refine zqx ?_;unfold zcD;rw [itF (by simp)])
    (fun i hi a ha=>by
     have hm:=xD hi;have s1:=zdE hm;refine zqw ?_;unfold zcD;rw [uM,zI rfl hi,sb,ih2 _ (by omega) (zcF.1 b4 _ hm),sb,zga (by rw [qk];exact ha),sb,uO];push_cast;rfl)
    x.Values.length 0 (xH _)
   have h':zfJ (zbO fuel) x 0 []=_:=h;rw [zga (by simp;omega),sb,h',sb,xV];cases x;rfl
  ·obtain ⟨_,_,_,b4,b5⟩:=(zeP v).1 hb;rw [zfR] at hsz;show zfb (zde fuel) (zbO fuel) v=_;unfold zfb;have h:=zvL 48 v.Subs (by omega) (fun i a=>zdv (zde fuel) v i a) (fun a=>by
     refine znf ?_;unfold zbc;rw [itF (by simp)])
    (fun i hi a ha=>by
     have hm:=xD hi;have s1:=zfh hm;refine zne ?_;unfold zbc;rw [uM,zI rfl hi,sb,ih1 _ (by omega) (zdz.1 b5 _ hm),sb,zga (by rw [qk];exact ha),sb,uO];push_cast;rfl)
    v.Subs.length 0 (xH _)
   have h':zdv (zde fuel) v 0 []=_:=h;rw [h',sb];cases v;rfl
theorem znO (hf:szM x<fuel) (hb:bdM x):zde fuel x=some x:=(zES fuel).1 x hf hb
theorem zoD (hf:szV v<fuel) (hb:bdV v):zbO fuel v=some v:=(zES fuel).2 v hf hb
mutual
/-- No list is long. -/
def smM:Msg->Prop
 | ⟨vs,u⟩=>vs.length<=1048576/\(u.length<=1048576/\∀t∈u,t.length<=1048576)/\smVs vs
def smVs:List Vlu->Prop
 | []=>True
 | v::l=>smV v/\smVs l
def smV:Vlu->Prop
 | ⟨n,w,t,s⟩=>w.length<=1048576/\(t.length<=1048576/\∀x∈t,x.length<=1048576)/\s.length<=1048576/\smMs s
def smMs:List Msg->Prop
 | []=>True
 | x::l=>smM x/\smMs l
end
theorem zgF (x:Msg):smM x↔x.Values.length<=1048576/\(x.Unknown.length<=1048576/\∀t∈x.Unknown,t.length<=1048576)/\smVs x.Values:=by cases x;simp only [smM]
theorem zmW (v:Vlu):smV v↔v.Words.length<=1048576/\(v.Texts.length<=1048576/\∀x∈v.Texts,x.length<=1048576)/\v.Subs.length<=1048576/\smMs v.Subs:=by cases v;simp only [smV]
theorem zhP:∀{l:List Vlu},smVs l↔∀v∈l,smV v
 | []=>by simp [smVs]
 | v::l=>by rw [smVs,zhP (l:=l)];simp
theorem zhO:∀{l:List Msg},smMs l↔∀v∈l,smM v
 | []=>by simp [smMs]
 | v::l=>by rw [smMs,zhO (l:=l)];simp
theorem zwq (l:List Str) (F:Int->Int->Option Int) (h0:∀n,F n (l.length:Int)=some n)
  (hs:∀(i:Nat) (h:i<l.length) (n:Int),F n (i:Int)=F (IntKind.i64.wrap (IntKind.i64.wrap (n+1)+(l[i].length:Int))) ((i+1:Nat):Int)):∀(c i:Nat) (n:Int),i+c=l.length->
  ∃r,F n (i:Int)=some r/\((∀t∈l,t.length<=1048576)->0<=n->n+1048577*c<=4611686018427387904->r=n+(((l.drop i).map fun t=>1+t.length).sum:Nat)/\r<=n+1048577*c)
 | 0,i,n,h=>by
  have hi:i=l.length:=by omega
  refine ⟨n,by rw [hi,h0],fun _ _ _=>?_⟩;rw [hi,List.drop_length];simp
 | c+1,i,n,h=>by
  have hil:i<l.length:=by omega
  obtain ⟨r,hr,hw⟩:=zwq l F h0 hs c (i+1) (IntKind.i64.wrap (IntKind.i64.wrap (n+1)+(l[i].length:Int))) (by omega);refine ⟨r,by rw [hs i hil,hr],fun ht hn hc=>?_⟩;have:=ht _ (xD hil);have e:IntKind.i64.wrap (IntKind.i64.wrap (n+1)+(l[i].length:Int))=n+1+(l[i].length:Int):=by
   rw [zt (x:=n+1) (by omega),uO]
  rw [e] at hw;have hd:l.drop i=l[i]::l.drop (i+1):=xS hil;obtain ⟨w1,w2⟩:=hw ht (by omega) (by omega);rw [hd,xU,pc];push_cast at w1|-;omega
theorem zvQ {α:Type} (l:List α) (g:α->Int) (F:Int->Int->Option (Int⊕Unit)) (h0:∀n,F n (l.length:Int)=some (.inl n))
  (hs:∀(i:Nat) (h:i<l.length) (n:Int),F n (i:Int)=if IntKind.i64.wrap (n+g l[i])>=5000 then some (.inr ()) else F (IntKind.i64.wrap (n+g l[i])) ((i+1:Nat):Int)):∀(c i:Nat) (n:Int),i+c=l.length->
  ∃q,F n (i:Int)=some q/\((∀a∈l,0<=g a/\g a<=4398046511104)->0<=n->n<=4398046511104->∀u,q= .inl u->u=n+((l.drop i).map g).sum/\0<=u/\(u<=n\/u<5000)/\∀a∈l.drop i,g a<5000)
 | 0,i,n,h=>by
  have hi:i=l.length:=by omega
  refine ⟨.inl n,by rw [hi,h0],fun _ _ _ u hu=>?_⟩;cases hu;rw [hi,List.drop_length];simp;omega
 | c+1,i,n,h=>by
  have hil:i<l.length:=by omega
  have hd:l.drop i=l[i]::l.drop (i+1):=xS hil;rw [hs i hil];by_cases h5:IntKind.i64.wrap (n+g l[i])>=5000
  ·exact ⟨.inr (),by rw [xx h5],fun _ _ _ u hu=>by cases hu⟩
  ·obtain ⟨q,hq,hw⟩:=zvQ l g F h0 hs c (i+1) (IntKind.i64.wrap (n+g l[i])) (by omega);refine ⟨q,by rw [xw h5,hq],fun hg hn hnb u hu=>?_⟩;have hgi:=hg _ (xD hil);have e:IntKind.i64.wrap (n+g l[i])=n+g l[i]:=by rw [uO]
   rw [e] at hw h5;obtain ⟨w1,w2,w3,w4⟩:=hw hg (by omega) (by omega) u hu;rw [hd,xU,pc];refine ⟨by omega,w2,by omega,fun a ha=>?_⟩;rcases xA.1 ha with rfl| ha
   ·omega
   ·exact w4 a ha
theorem zKm:∀(fuel:Nat),(∀(x:Msg) (d:Int),szM x<fuel->bdM x-> -1<=d->d<=1048576->∃r,zcr fuel x d=some r/\(smM x->0<=r/\r<=4398046511104/\(r<5000->r=wgM x/\(dM x:Int)<=d)))/\
  ∀(v:Vlu) (d:Int),szV v<fuel->bdV v->0<=d->d<=1048576->∃r,zbL fuel v d=some r/\(smV v->0<=r/\r<=4398046511104/\(r<5000->r=wgV v/\(dV v:Int)<=d))
 | 0=>⟨fun x d h=>by omega,fun v d h=>by omega⟩
 | fuel+1=>by
  obtain ⟨ih1,ih2⟩:=zKm fuel;refine ⟨fun x d hsz hb hd hd2=>?_,fun v d hsz hb hd hd2=>?_⟩
  ·obtain ⟨b1,⟨b2,b3⟩,b4⟩:=(zdK x).1 hb;rw [zcy] at hsz;show∃r,zgv (zcr fuel) (zbL fuel) x d=some r/\_;unfold zgv;by_cases hneg:d<0
   ·exact ⟨5000,by rw [itT (by simpa using hneg)],fun _=>⟨by omega,by omega,fun h=>by omega⟩⟩
   rw [itF (by simpa using hneg)];obtain ⟨n,hn,hnw⟩:=zwq x.Unknown (fun n i=>zer x n i) (fun n=>by
     refine zoU ?_;unfold zbP;rw [itF (by simp)])
    (fun i hi n=>by
     refine zoT ?_;unfold zbP;have hw1:IntKind.i64.wrap ((i:Int)+1)=((i+1:Nat):Int):=by rw [uO];push_cast;rfl
     rw [uM,zI rfl hi,sb,hw1]) x.Unknown.length 0 1 (xH _)
   have hn':zer x 1 0=some n:=hn;have hgg:∀v∈x.Values,∃r,zbL fuel v d=some r/\(smV v->0<=r/\r<=4398046511104/\(r<5000->r=wgV v/\(dV v:Int)<=d)):=fun v hv=>by
    have:=zdE hv;exact ih2 v d (by omega) (zcF.1 b4 _ hv) (by omega) hd2
   obtain ⟨q,hq,hqw⟩:=zvQ x.Values (fun v=>(zbL fuel v d).getD 0) (fun n i=>zes d (zbL fuel) x n i) (fun n=>by
     refine zks ?_;unfold zbq;rw [itF (by simp)])
    (fun i hi n=>by
     obtain ⟨r,hr,_⟩:=hgg _ (xD hi);have hw1:IntKind.i64.wrap ((i:Int)+1)=((i+1:Nat):Int):=by rw [uO];push_cast;rfl
     simp only [hr,yz];split
     ·rename_i h5;refine zks ?_;unfold zbq;rw [uM,zI rfl hi,sb,hr,sb,itT (by simpa using h5)]
     ·rename_i h5;refine zoV ?_;unfold zbq;rw [uM,zI rfl hi,sb,hr,sb,itF (by simpa using h5),hw1]) x.Values.length 0 n (xH _)
   have hq':zes d (zbL fuel) x n 0=some q:=hq;rw [hn',sb,hq',sb];cases q with
   | inr u=>exact ⟨5000,rfl,fun _=>⟨by omega,by omega,fun h=>by omega⟩⟩
   | inl u=>
    refine ⟨u,rfl,fun hsm=>?_⟩;obtain ⟨s1,⟨s2,s3⟩,s4⟩:=(zgF x).1 hsm;obtain ⟨n1,n2⟩:=hnw s3 (by omega) (by omega);rw [xW] at n1;obtain ⟨u1,u2,u3,u4⟩:=hqw (fun v hv=>by
     obtain ⟨r,hr,hrw⟩:=hgg v hv;have:=hrw (zhP.1 s4 v hv);simp only [hr,yz];exact ⟨this.1,this.2.1⟩) (by omega) (by omega) u rfl
    rw [xW] at u1 u4;refine ⟨u2,by omega,fun _=>?_⟩;have hall:∀l:List Vlu,(∀v∈l,v∈x.Values)->(l.map fun v=>(zbL fuel v d).getD 0).sum=(wgVs l:Int)/\(dVs l:Int)<=d:=by
     intro l
     induction l with
     | nil=>intro _;simp [wgVs,dVs];omega
     | cons v l ih=>
      intro hl;have hv:=hl v xy;obtain ⟨r,hr,hrw⟩:=hgg v hv;obtain ⟨_,_,hr3⟩:=hrw (zhP.1 s4 v hv);have h5:=u4 v hv;simp only [hr,yz] at h5;obtain ⟨e1,e2⟩:=hr3 h5;obtain ⟨i1,i2⟩:=ih fun w hw=>hl w (xz _ hw)
      rw [xU,pc,i1,hr,yz,wgVs,dVs];push_cast;omega
    obtain ⟨a1,a2⟩:=hall x.Values fun v hv=>hv
    rw [zkQ,zAg];push_cast;refine ⟨?_,a2⟩;push_cast at n1;omega
  ·obtain ⟨_,⟨b1,_⟩,⟨b2,b3⟩,b4,b5⟩:=(zeP v).1 hb;rw [zfR] at hsz;show∃r,zef (zcr fuel) (zbL fuel) v d=some r/\_;unfold zef;rw [zt (x:=1+(v.Words.length:Int)) (by omega)];obtain ⟨n,hn,hnw⟩:=zwq v.Texts (fun n i=>zcT v n i) (fun n=>by
     refine zmu ?_;unfold zaQ;rw [itF (by simp)])
    (fun i hi n=>by
     refine zmt ?_;unfold zaQ;have hw1:IntKind.i64.wrap ((i:Int)+1)=((i+1:Nat):Int):=by rw [uO];push_cast;rfl
     rw [uM,zI rfl hi,sb,hw1]) v.Texts.length 0 (1+(v.Words.length:Int)) (xH _)
   have hn':zcT v (1+(v.Words.length:Int)) 0=some n:=hn;have hgg:∀x∈v.Subs,∃r,zcr fuel x (d - 1)=some r/\(smM x->0<=r/\r<=4398046511104/\(r<5000->r=wgM x/\(dM x:Int)<=d - 1)):=fun x hx=>by
    have:=zfh hx;exact ih1 x (d - 1) (by omega) (zdz.1 b5 _ hx) (by omega) (by omega)
   have hd1:IntKind.i64.wrap (d - 1)=d - 1:=by rw [uO]
   obtain ⟨q,hq,hqw⟩:=zvQ v.Subs (fun x=>(zcr fuel x (d - 1)).getD 0) (fun n i=>zcU d (zcr fuel) v n i) (fun n=>by
     refine ziB ?_;unfold zaB;rw [itF (by simp)])
    (fun i hi n=>by
     obtain ⟨r,hr,_⟩:=hgg _ (xD hi);have hw1:IntKind.i64.wrap ((i:Int)+1)=((i+1:Nat):Int):=by rw [uO];push_cast;rfl
     simp only [hr,yz];split
     ·rename_i h5;refine ziB ?_;unfold zaB;rw [uM,zI rfl hi,sb,hd1,hr,sb,itT (by simpa using h5)]
     ·rename_i h5;refine zmv ?_;unfold zaB;rw [uM,zI rfl hi,sb,hd1,hr,sb,itF (by simpa using h5),hw1]) v.Subs.length 0 n (xH _)
   have hq':zcU d (zcr fuel) v n 0=some q:=hq;rw [hn',sb,hq',sb];cases q with
   | inr u=>exact ⟨5000,rfl,fun _=>⟨by omega,by omega,fun h=>by omega⟩⟩
   | inl u=>
    refine ⟨u,rfl,fun hsm=>?_⟩;obtain ⟨s1,⟨s2,s3⟩,s5,s4⟩:=(zmW v).1 hsm;obtain ⟨n1,n2⟩:=hnw s3 (by omega) (by omega);rw [xW] at n1;obtain ⟨u1,u2,u3,u4⟩:=hqw (fun x hx=>by
     obtain ⟨r,hr,hrw⟩:=hgg x hx;have:=hrw (zhO.1 s4 x hx);simp only [hr,yz];exact ⟨this.1,this.2.1⟩) (by omega) (by omega) u rfl
    rw [xW] at u1 u4;refine ⟨u2,by omega,fun _=>?_⟩;have hall:∀l:List Msg,(∀x∈l,x∈v.Subs)->(l.map fun x=>(zcr fuel x (d - 1)).getD 0).sum=(wgMs l:Int)/\(dMs l:Int)<=d:=by
     intro l
     induction l with
     | nil=>intro _;simp [wgMs,dMs];omega
     | cons x l ih=>
      intro hl;have hx:=hl x xy;obtain ⟨r,hr,hrw⟩:=hgg x hx;obtain ⟨_,_,hr3⟩:=hrw (zhO.1 s4 x hx);have h5:=u4 x hx;simp only [hr,yz] at h5;obtain ⟨e1,e2⟩:=hr3 h5;obtain ⟨i1,i2⟩:=ih fun w hw=>hl w (xz _ hw)
      rw [xU,pc,i1,hr,yz,wgMs,dMs];push_cast;omega
    obtain ⟨a1,a2⟩:=hall v.Subs fun v hv=>hv
    rw [zkp,zGg];push_cast;refine ⟨?_,a2⟩;push_cast at n1;omega
structure OkT (s:List Mes) (d:Nat) (m:Mes) (t:Th):Prop where
 fi:t.fi= -1\/0<=t.fi/\t.fi<m.Fields.length
 unk:t.fi<0->unkR m t.raw=true
 run:0<=t.fi->t.run=true->kNum (zae m t.fi).Kind=true/\(zae m t.fi).Repeated=true/\(zIP (zae m t.fi).Kind t.val).2=0
 one:0<=t.fi->t.run=false->zfM (zae m t.fi).Kind=true/\zMS (zAw (zae m t.fi).Kind) t.val=true/\((zae m t.fi).Kind=15->zmU t.val=true)/\((zae m t.fi).Kind=17->∃e,d=e+1/\zBs s e (zae m t.fi).Of t.val=none)
structure zNz (s:List Mes) (d:Nat) (f:Fld) (a:zLK):Prop where
 words:∀w∈a.2.2.1,zoP f w=true
 texts:∀t∈a.2.2.2.1,zoe f t=true
 numT:kNum f.Kind=true->a.2.2.2.1=[]
 subs:∀x∈a.2.2.2.2,f.Kind=17/\zao s x f.Of=true/\1+dM x<=d
 join:f.Kind=17->∀e,d=e+1->zBs s e f.Of a.1=none
 met:a.2.1=true->f.Kind=17->∃e,d=e+1
 one:f.Repeated=false->a.2.2.1.length<=1/\a.2.2.2.1.length<=1/\a.2.2.2.2=[]
theorem zMk (h: -9223372036854775808<=n/\n<=9223372036854775807):(Lit.int .i64 n).wf=true:=by
 simpa [Lit.wf,IntKind.min,IntKind.max,IntKind.bits,IntKind.signed] using h
structure zNy (a:zLK):Prop where
 words:∀w∈a.2.2.1,0<=w/\w<=18446744073709551615
 texts:∀t∈a.2.2.2.1,t.length<=1048576
 subs:∀x∈a.2.2.2.2,bdM x/\smM x
def zeT (l:List Vlu):Prop:=l.Pairwise fun a b=>a.Number<b.Number
def look (l:List Vlu) (n:Int):Option Vlu:=l.find? fun v=>v.Number==n
theorem zdx (v:Vlu) (l:List Vlu) (n:Int):look (v::l) n=if v.Number=n then some v else look l n:=by
 unfold look;rw [List.find?_cons];by_cases h:v.Number=n
 ·rw [xx h];simp [h]
 ·rw [xw h];have:(v.Number==n)=false:=by simpa using h
  rw [this]
theorem zdk {l:List Vlu} {n:Int} {v:Vlu} (h:look l n=some v):v.Number=n/\v∈l:=by
 unfold look at h;exact ⟨by simpa using List.find?_some h,List.mem_of_find?_eq_some h⟩
theorem zta {l:List Vlu} {n:Int} (h:∀v∈l,n<v.Number):look l n=none:=by
 unfold look;rw [ut];intro v hv;have:=h v hv;simp;omega
theorem zDD {l:List Vlu} (hr:zeT l) {v:Vlu} (h:v∈l):look l v.Number=some v:=by
 induction l with
 | nil=>cases h
 | cons u l ih=>
  obtain ⟨h1,h2⟩:=ym.1 hr;rw [zdx];rcases xA.1 h with rfl| h
  ·rw [xx rfl]
  ·have:=h1 v h;rw [xw (by omega),ih h2 h]
theorem zse:∀{l k:List Vlu},zeT l->zeT k->(∀n,look l n=look k n)->l=k
 | [],[],_,_,_=>rfl
 | [],u::k,_,_,h=>by
  have:=h u.Number;rw [zdx,xx rfl] at this;cases this
 | v::l,[],_,_,h=>by
  have:=h v.Number;rw [zdx,xx rfl] at this;cases this
 | v::l,u::k,hl,hk,h=>by
  obtain ⟨l1,l2⟩:=ym.1 hl;obtain ⟨k1,k2⟩:=ym.1 hk;have e:v=u:=by
   have hv:=h v.Number;have hu:=h u.Number;rw [zdx,xx rfl] at hv;rw [zdx (n:=u.Number) (v:=u),xx rfl] at hu;rcases Int.lt_trichotomy v.Number u.Number with hlt| heq| hlt
   ·rw [zta (l:=u::k) (fun x hx=>by
     rcases xA.1 hx with rfl| hx
     ·exact hlt
     ·have:=k1 x hx;omega)] at hv
    cases hv
   ·rw [zdx,xx heq.symm] at hv;exact qF hv
   ·rw [zta (l:=v::l) (fun x hx=>by
     rcases xA.1 hx with rfl| hx
     ·exact hlt
     ·have:=l1 x hx;omega)] at hu
    cases hu
  subst e;rw [zse l2 k2 fun n=>by
   by_cases hn:v.Number<n
   ·have:=h n;rw [zdx,zdx,xw (by omega),xw (by omega)] at this;exact this
   ·rw [zta fun x hx=>by have:=l1 x hx;omega,zta fun x hx=>by have:=k1 x hx;omega]]
def putL (v:Vlu):Bool->List Vlu->List Vlu
 | done,[]=>if done=true then [] else [v]
 | done,u::l=>(if done=false/\v.Number<=u.Number then [v] else [])++((if u.Number=v.Number then [] else [u])++putL v (done|| decide (v.Number<=u.Number)) l)
theorem zDR (v:Vlu):∀(d:Bool) (l:List Vlu),(putL v d l).length<=l.length+(if d=true then 0 else 1)
 | d,[]=>by rw [putL];cases d<;>simp
 | d,u::l=>by
  have:=zDR v (d|| decide (v.Number<=u.Number)) l;rw [putL];simp only [yd,ye];cases d
  ·by_cases h:v.Number<=u.Number
   ·rw [xx ⟨rfl,h⟩];simp only [h,pv,qW,yD] at this|-;split<;>simp<;>omega
   ·rw [xw (fun hh=>h hh.2)];simp only [h,pw,qM,qq,qr] at this|-;split<;>simp<;>omega
  ·rw [xw (by simp)];simp only [pu,yD] at this|-;split<;>simp<;>omega
theorem zyU {v:Vlu}:∀{d:Bool} {l:List Vlu} {x:Vlu},x∈putL v d l->x=v/\d=false\/x∈l/\x.Number≠v.Number
 | d,[],x,h=>by
  rw [putL] at h;cases d
  ·rw [xw (by simp)] at h;exact .inl ⟨xT.1 h,rfl⟩
  ·rw [xx rfl] at h;cases h
 | d,u::l,x,h=>by
  rw [putL] at h;rcases xE.1 h with h| h
  ·split at h
   ·rename_i hc;exact .inl ⟨xT.1 h,hc.1⟩
   ·cases h
  ·rcases xE.1 h with h| h
   ·split at h
    ·cases h
    ·rename_i hc;rw [xT.1 h];exact .inr ⟨xy,hc⟩
   ·rcases zyU h with ⟨h1,h2⟩| ⟨h1,h2⟩
    ·refine .inl ⟨h1,?_⟩;cases d
     ·rfl
     ·simp at h2
    ·exact .inr ⟨xz _ h1,h2⟩
theorem zld {v:Vlu}:∀{d:Bool} {l:List Vlu},zeT l->zeT (putL v d l)
 | d,[],_=>by rw [putL];cases d<;>simp [zeT]
 | d,u::l,h=>by
  obtain ⟨h1,h2⟩:=ym.1 h;have ih:=zld (v:=v) (d:=d|| decide (v.Number<=u.Number)) h2;have hrest:∀x∈putL v (d|| decide (v.Number<=u.Number)) l,u.Number<x.Number:=fun x hx=>by
   rcases zyU hx with ⟨rfl,hd⟩| ⟨hx,_⟩
   ·simp at hd;omega
   ·exact h1 x hx
  rw [putL];have htail:zeT ((if u.Number=v.Number then [] else [u])++putL v (d|| decide (v.Number<=u.Number)) l):=by
   split
   ·exact ih
   ·exact ym.2 ⟨hrest,ih⟩
  split
  ·rename_i hc;rw [List.singleton_append];refine ym.2 ⟨fun x hx=>?_,htail⟩;rcases xE.1 hx with hx| hx
   ·split at hx
    ·cases hx
    ·rw [xT.1 hx];omega
   ·have:=hrest x hx;omega
  ·exact htail
theorem zsd (l k:List Vlu) (n:Int):look (l++k) n=match look l n with| some v=>some v| none=>look k n:=by
 unfold look;rw [List.find?_append];cases l.find? (fun v=>v.Number==n)<;>rfl
theorem zpP {v:Vlu}:∀{d:Bool} {l:List Vlu},zeT l->∀n,look (putL v d l) n=if n=v.Number then (if d=true then none else some v) else look l n
 | d,[],_,n=>by
  rw [putL];cases d
  ·rw [xw (show ¬(false=true) by simp),xw (show ¬(false=true) by simp),zdx];by_cases h:n=v.Number
   ·rw [xx h,xx h.symm]
   ·rw [xw h,xw (fun hh=>h hh.symm)]
  ·rw [xx rfl,xx rfl];split<;>rfl
 | d,u::l,h,n=>by
  obtain ⟨h1,h2⟩:=ym.1 h;have ih:=zpP (v:=v) (d:=d|| decide (v.Number<=u.Number)) h2 n;rw [putL,zsd,zsd,ih,zdx u l n];by_cases hn:n=v.Number
  ·rw [xx hn,xx hn];have hu:look (if u.Number=v.Number then [] else [u]) n=none:=by
    split
    ·rfl
    ·rw [zdx,xw (by omega)];rfl
   rw [hu];cases d
   ·by_cases hle:v.Number<=u.Number
    ·rw [xx ⟨rfl,hle⟩,zdx,xx hn.symm];simp
    ·rw [xw (fun hh=>hle hh.2)];simp [look,hle]
   ·rw [xw (by simp)];simp [look]
  ·rw [xw hn,xw hn];have hv:look (if d=false/\v.Number<=u.Number then [v] else []) n=none:=by
    split
    ·rw [zdx,xw (fun hh=>hn hh.symm)];rfl
    ·rfl
   rw [hv];by_cases hu:u.Number=v.Number
   ·rw [xx hu,xw (by omega)];rfl
   ·rw [xw hu,zdx];by_cases hun:u.Number=n
    ·rw [xx hun,xx hun]
    ·rw [xw hun,xw hun];rfl
def putM (x:Msg) (v:Vlu):Msg:=⟨putL v (decide (zcb v=0)) x.Values,x.Unknown⟩
theorem zoK {s:List Mes} {m:Mes}:∀{l:List Vlu} {p:Option Int},zhk s l m p=true->∀v∈l,0<=fldI m v.Number/\zhl s v (zae m (fldI m v.Number))=true/\p.all (fun n=>decide (n<v.Number))=true
 | [],p,_,v,hv=>by cases hv
 | u::l,p,h,v,hv=>by
  rw [zhk] at h;simp only [xB,xN] at h;obtain ⟨⟨⟨h1,h2⟩,h3⟩,h4⟩:=h;rcases xA.1 hv with rfl| hv
  ·exact ⟨h1,h3,h2⟩
  ·obtain ⟨g1,g2,g3⟩:=zoK h4 v hv;refine ⟨g1,g2,?_⟩;cases p with
   | none=>rfl
   | some n=>
    simp at h2 g3|-;omega
theorem zsx {s:List Mes} {m:Mes}:∀{l:List Vlu} {p:Option Int},zhk s l m p=true->zeT l
 | [],p,_=> .nil
 | u::l,p,h=>by
  rw [zhk] at h;simp only [xB,xN] at h;refine ym.2 ⟨fun v hv=>?_,zsx h.2⟩;have:=(zoK h.2 v hv).2.2;simpa using this
theorem zzb {s:List Mes} {m:Mes}:∀{l:List Vlu} {p:Option Int},zeT l->(∀v∈l,0<=fldI m v.Number/\zhl s v (zae m (fldI m v.Number))=true/\p.all (fun n=>decide (n<v.Number))=true)->zhk s l m p=true
 | [],p,_,_=>by rw [zhk]
 | u::l,p,hr,h=>by
  obtain ⟨h1,h2⟩:=ym.1 hr;obtain ⟨a1,a2,a3⟩:=h u xy;rw [zhk,zzb h2 fun v hv=>⟨(h v (xz _ hv)).1,(h v (xz _ hv)).2.1,by simpa using h1 v hv⟩,a2,a3,ya a1];rfl
theorem zaS {s:List Mes} {x:Msg} {k:Int} (h:zao s x k=true):0<=k/\k<s.length/\zeT x.Values/\(∀v∈x.Values,0<=fldI (zH s k) v.Number/\zhl s v (zae (zH s k) (fldI (zH s k) v.Number))=true)/\∀u∈x.Unknown,unkR (zH s k) u=true:=by
 rw [znu] at h;simp only [xB,xN] at h;exact ⟨h.1.1.1,h.1.1.2,zsx h.1.2,fun v hv=>⟨(zoK h.1.2 v hv).1,(zoK h.1.2 v hv).2.1⟩,xG.1 h.2⟩
theorem ztg {s:List Mes} {x:Msg} {k:Int} (h1:0<=k) (h2:k<s.length) (h3:zeT x.Values) (h4:∀v∈x.Values,0<=fldI (zH s k) v.Number/\zhl s v (zae (zH s k) (fldI (zH s k) v.Number))=true) (h5:∀u∈x.Unknown,unkR (zH s k) u=true):zao s x k=true:=by
 rw [znu,ya ⟨h1,h2⟩,zzb h3 fun v hv=>⟨(h4 v hv).1,(h4 v hv).2,rfl⟩,xG.2 h5];rfl
structure zlI (s:List Mes) (v:Vlu) (f:Fld):Prop where
 many:0<zcb v
 one:f.Repeated=false->zcb v=1
 kind:zfM f.Kind=true
 words:∀w∈v.Words,zoP f w=true
 texts:∀t∈v.Texts,zoe f t=true
 subs:∀x∈v.Subs,f.Kind=17/\zao s x f.Of=true
theorem zgM {s:List Mes} {v:Vlu} {f:Fld} (h:zhl s v f=true):zlI s v f:=by
 rw [zuM,znV] at h;unfold zra at h;simp only [xB,qd,xN,xG,pR] at h;obtain ⟨⟨⟨⟨⟨h1,h2⟩,h3⟩,h4⟩,h5⟩,h6⟩:=h;refine ⟨h1,fun hr=>?_,h3,h4,h5,fun x hx=>?_⟩
 ·rw [hr] at h2;simp at h2;omega
 ·exact h6 x hx
theorem zGm {s:List Mes} {v:Vlu} {f:Fld} (h:zlI s v f):zhl s v f=true:=by
 obtain ⟨h1,h2,h3,h4,h5,h6⟩:=h;rw [zuM,znV];unfold zra;simp only [xB,qd,xN,xG,pR];refine ⟨⟨⟨⟨⟨h1,?_⟩,h3⟩,h4⟩,h5⟩,fun x hx=>h6 x hx⟩;cases hr:f.Repeated with
 | true=>exact .inr rfl
 | false=>exact .inl (by have:=h2 hr;omega)
theorem zlI.noWords {s:List Mes} {v:Vlu} {f:Fld} (h:zlI s v f) (hk:kNum f.Kind=false):v.Words=[]:=by
 cases hw:v.Words with
 | nil=>rfl
 | cons w l=>
  have:=h.words w (by rw [hw];exact xy);unfold zoP at this;rw [hk] at this;simp at this
theorem zlI.noTexts {s:List Mes} {v:Vlu} {f:Fld} (h:zlI s v f) (hk:f.Kind≠15/\f.Kind≠16):v.Texts=[]:=by
 cases hw:v.Texts with
 | nil=>rfl
 | cons w l=>
  have:=h.texts w (by rw [hw];exact xy);unfold zoe at this;simp at this;omega
theorem zlI.msg {s:List Mes} {v:Vlu} {f:Fld} (h:zlI s v f) (hk:f.Kind=17) (hr:f.Repeated=false):∃x,v=⟨v.Number,[],[],[x]⟩/\zao s x f.Of=true:=by
 have h1:=h.noWords (by rw [hk];rfl);have h2:=h.noTexts (by omega);have h3:=h.one hr;have h4:=h.subs;obtain ⟨n,w,t,sub⟩:=v;simp only at h1 h2 h4;subst h1 h2;unfold zcb at h3;simp at h3;obtain ⟨x,rfl⟩:∃x,sub=[x]:=by
  cases sub with
  | nil=>simp at h3
  | cons x l=>cases l with
   | nil=>exact ⟨x,rfl⟩
   | cons _ _=>simp at h3
 exact ⟨x,rfl,(h4 x xy).2⟩
theorem zqC (x:Msg) (n:Int):getM x n= -1/\look x.Values n=none\/∃(j:Nat) (h:j<x.Values.length),getM x n=j/\look x.Values n=some x.Values[j]:=by
 unfold getM look;cases h:x.Values.findIdx? (fun v:Vlu=>v.Number==n) with
 | none=>
  refine .inl ⟨ziF h,?_⟩;rw [q6] at h;rw [ut];intro v hv;simpa using h v hv
 | some i=>
  right;have h':=h;rw [qH] at h;obtain ⟨hi,hp,hj⟩:=h;refine ⟨i,hi,ziG h',?_⟩;rw [uH];exact ⟨hp,i,hi,rfl,fun j hj'=>by simpa using hj j hj'⟩
mutual
/-- b zkk a. -/
def zke (s:List Mes):Msg->Msg->Int->Msg
 | ⟨vs,u⟩,a,k=>⟨zlr s vs a (zH s k) a.Values,a.Unknown++u⟩
def zlr (s:List Mes):List Vlu->Msg->Mes->List Vlu->List Vlu
 | [],_,_,acc=>acc
 | v::l,a,m,acc=>zlr s l a m (putM ⟨acc,[]⟩ (zkY s v (look a.Values v.Number) (zae m (fldI m v.Number)))).Values
def zkY (s:List Mes):Vlu->Option Vlu->Fld->Vlu
 | ⟨n,w,t,sub⟩,none,f=>⟨n,w,t,sub⟩
 | ⟨n,w,t,sub⟩,some u,f=>if f.Repeated=true then ⟨n,u.Words++w,u.Texts++t,u.Subs++sub⟩ else if f.Kind=17 then ⟨n,[],[],znK s sub u.Subs f.Of⟩ else ⟨n,w,t,sub⟩
def znK (s:List Mes):List Msg->List Msg->Int->List Msg
 | [],_,_=>[]
 | x::_,ys,k=>match ys with
  | []=>[]
  | y::_=>[zke s x y k]
end
theorem znL (s:List Mes) (b a:Msg) (k:Int):zke s b a k=⟨zlr s b.Values a (zH s k) a.Values,a.Unknown++b.Unknown⟩:=by cases b;rw [zke]
theorem zmE (s:List Mes) (v:Vlu) (o:Option Vlu) (f:Fld):zkY s v o f=match o with
  | none=>v
  | some u=>if f.Repeated=true then ⟨v.Number,u.Words++v.Words,u.Texts++v.Texts,u.Subs++v.Subs⟩ else if f.Kind=17 then ⟨v.Number,[],[],znK s v.Subs u.Subs f.Of⟩ else v:=by
 cases v;cases o<;>rw [zkY]
theorem zsV (s:List Mes) (v:Vlu) (o:Option Vlu) (f:Fld):(zkY s v o f).Number=v.Number:=by
 rw [zmE];cases o with
 | none=>rfl
 | some u=>simp only;split;rfl;split<;>rfl
theorem zDS (acc:List Vlu) (u:List Str) (v:Vlu):(putM ⟨acc,u⟩ v).Values.length<=acc.length+1:=by
 have:=zDR v (decide (zcb v=0)) acc;unfold putM;simp only;split at this<;>omega
theorem zwG {s:List Mes} {a:Msg} {m:Mes}:∀{l acc:List Vlu},zeT acc->zeT l->(∀v∈l,0<zcb (zkY s v (look a.Values v.Number) (zae m (fldI m v.Number))))->
  zeT (zlr s l a m acc)/\∀n,look (zlr s l a m acc) n=match look l n with
   | some v=>some (zkY s v (look a.Values n) (zae m (fldI m n)))
   | none=>look acc n
 | [],acc,h1,_,_=>by rw [zlr];exact ⟨h1,fun n=>rfl⟩
 | v::l,acc,h1,h2,h3=>by
  obtain ⟨l1,l2⟩:=ym.1 h2;have hv:=h3 v xy;have hnum:=zsV s v (look a.Values v.Number) (zae m (fldI m v.Number));rw [zlr];have hacc:zeT (putM ⟨acc,[]⟩ (zkY s v (look a.Values v.Number) (zae m (fldI m v.Number)))).Values:=zld h1;obtain ⟨r1,r2⟩:=zwG (s:=s) (a:=a) (m:=m) hacc l2 fun u hu=>h3 u (xz _ hu)
  refine ⟨r1,fun n=>?_⟩;rw [r2 n,zdx];have hlk:look (putM ⟨acc,[]⟩ (zkY s v (look a.Values v.Number) (zae m (fldI m v.Number)))).Values n=if n=v.Number then some (zkY s v (look a.Values v.Number) (zae m (fldI m v.Number))) else look acc n:=by
   unfold putM;simp only;rw [zpP h1 n,hnum];by_cases hn:n=v.Number
   ·rw [xx hn,xx hn,xw fun hh=>by have:=qn hh;omega]
   ·rw [xw hn,xw hn]
  by_cases hn:v.Number=n
  ·rw [xx hn,zta fun u hu=>by have:=l1 u hu;omega,hlk,xx hn.symm];simp only [hn]
  ·rw [xw hn,hlk,xw fun hh=>hn hh.symm]
theorem zyr {s:List Mes} {v:Vlu} {o:Option Vlu} {f:Fld} (hv:zlI s v f) (ho:∀u,o=some u->zlI s u f):0<zcb (zkY s v o f):=by
 rw [zmE];cases o with
 | none=>exact hv.many
 | some u=>
  have:=hv.many;simp only;by_cases hr:f.Repeated=true
  ·rw [xx hr];unfold zcb at this|-;simp only [yd];omega
  ·rw [xw hr];by_cases h17:f.Kind=17
   ·rw [xx h17];obtain ⟨x,hvx,_⟩:=hv.msg h17 (by simpa using hr);obtain ⟨y,huy,_⟩:=(ho u rfl).msg h17 (by simpa using hr);rw [hvx,huy,znK];simp [zcb]
   ·rw [xw h17];exact this
theorem zvU {s:List Mes} {a b:Msg} {k:Int} (ha:zao s a k=true) (hb:zao s b k=true):zeT (zke s b a k).Values/\∀n,look (zke s b a k).Values n=match look b.Values n with
   | some v=>some (zkY s v (look a.Values n) (zae (zH s k) (fldI (zH s k) n)))
   | none=>look a.Values n:=by
 obtain ⟨_,_,ra,ha',_⟩:=zaS ha;obtain ⟨_,_,rb,hb',_⟩:=zaS hb;rw [znL];exact zwG ra rb fun v hv=>zyr (zgM (hb' v hv).2) fun u hu=>by
  obtain ⟨e,hm⟩:=zdk hu;have:=zgM (ha' u hm).2;rw [e] at this;exact this
theorem ztE {v:Vlu} {x:Msg} (hx:x.Values.length*80<=140737488351232):∀(c i:Nat) (done:Bool) (out:List Vlu),i+c=x.Values.length->out.length<=i+(if done=true then 1 else 0)->
  ∃q,zfp v x done i out=some q/\(if q.1=true then q.2 else q.2++[v])=out++putL v done (x.Values.drop i)/\q.2.length<=x.Values.length+1/\(q.1=false->q.2.length<=x.Values.length)
 | 0,i,done,out,hi,ho=>by
  have e:x.Values.drop i=[]:=yg (by omega);refine ⟨(done,out),?_,?_,?_,?_⟩
  ·refine zpK ?_;unfold zci;rw [uN]
  ·rw [e,putL];cases done<;>simp
  ·simp only;split at ho<;>omega
  ·intro h;simp only at h|-;subst h;simp at ho;omega
 | c+1,i,done,out,hi,ho=>by
  have hil:i<x.Values.length:=by omega
  have hd:x.Values.drop i=x.Values[i]::x.Values.drop (i+1):=xS hil;have hxi:idx x.Values (i:Int)=some x.Values[i]:=zI rfl hil;rw [hd,putL]
  generalize x.Values[i]=u at hxi|-
  have hob:out.length<=i+1:=by split at ho<;>omega
  have hw:IntKind.i64.wrap ((i:Int)+1)=((i+1:Nat):Int):=by rw [uO];push_cast;rfl
  obtain ⟨q,hq,hqe,hql,hqf⟩:=ztE hx c (i+1) (done|| decide (v.Number<=u.Number)) (out++((if done=false/\v.Number<=u.Number then [v] else [])++(if u.Number=v.Number then [] else [u]))) (by omega) (by
   simp only [yd];cases done
   ·by_cases h:v.Number<=u.Number
    ·rw [xx ⟨rfl,h⟩];simp only [h,pv,qW,yD] at ho|-;simp at ho;split<;>simp<;>omega
    ·rw [xw (fun hh=>h hh.2)];simp only [h,pw,qM,qq,qr] at ho|-;split<;>simp<;>omega
   ·rw [xw (by simp)];simp only [pu,yD] at ho|-;split<;>simp<;>omega)
  refine ⟨q,?_,?_,hql,hqf⟩
  ·rw [<-hq];refine zpJ ?_;unfold zci;have hg:(if (!done)=true then (idx x.Values (i:Int)>>=fun x2=>some (decide (x2.Number>=v.Number))) else some false)=some (decide (done=false/\v.Number<=u.Number)):=by
    cases done
    ·rw [itT (by rfl),hxi,sb];simp
    ·rw [itF (by rfl)];simp
   rw [uM,hg,sb,hw,hxi];have hp:((if decide (done=false/\v.Number<=u.Number)=true then (app 80 out ([v]:List zb)>>=fun v3=>some (true,v3)) else some (done,out)):Option (Bool×List zb))=some (done|| decide (v.Number<=u.Number),out++(if done=false/\v.Number<=u.Number then [v] else [])):=by
    by_cases hc:done=false/\v.Number<=u.Number
    ·rw [itT (by simpa using hc),xx hc,zga (by simp only [qk];omega),sb,hc.1];simp [hc.2]
    ·rw [itF (by simpa using hc),xw hc,yG];cases done
     ·have:¬v.Number<=u.Number:=fun hh=>hc ⟨rfl,hh⟩
      simp [this]
     ·rfl
   rw [hp,sb,sb];by_cases hu:u.Number=v.Number
   ·rw [itF (by simpa using hu),xx hu,yG]
   ·rw [itT (by simpa using hu),xw hu,sb,zga (by
     simp only [yd,qk];have:(if done=false/\v.Number<=u.Number then [v] else ([]:List Vlu)).length<=1:=by split<;>simp
     omega),sb,yN]
  ·rw [hqe];simp only [yN]
theorem zwN {x:Msg} {v:Vlu} (hx:x.Values.length*80<=140737488351232) (hv:v.Words.length<=140737488351232/\v.Texts.length<=140737488351232/\v.Subs.length<=140737488351232):zfK x v=some (putM x v):=by
 unfold zfK putM;rw [zqQ hv,sb];have e:(((zcb v:Nat):Int)==0)=decide (zcb v=0):=by
  by_cases h:zcb v=0
  ·simp [h]
  ·have:((zcb v:Nat):Int)≠0:=by omega
   simp [h]
 rw [e];obtain ⟨q,hq,hqe,hql,hqf⟩:=ztE (v:=v) hx x.Values.length 0 (decide (zcb v=0)) [] (xH _) (xF _);have hq':zfp v x (decide (zcb v=0)) 0 []=some q:=hq;rw [xW,xV] at hqe;rw [hq',sb,<-hqe];cases hd:q.1
 ·rw [itT (by rfl),zga (by have:=hqf hd;simp only [qk];omega),sb];rfl
 ·rw [itF (by rfl)];rfl
def zdo (s:List Mes) (root:Int) (l:List Msg):Int:=if zfa s root≠0 then zfa s root else if l.all (fun x=>zao s x root)=true then 0 else 12
theorem zDV {s:List Mes} (hw:WS s) (root:Int) {l:List Msg} (hl:l.length<=1048576) {fuel:Nat} (hx:∀x∈l,szM x<fuel/\bdM x):zio fuel s root l=some (zdo s root l):=by
 unfold zio zdo;rw [zBY hw,sb];by_cases h:zfa s root=0
 ·rw [itF (by simpa using h),xw (by simpa using h)];obtain ⟨hr,r0,r1⟩:=zrC h;have key:∀(c i:Nat),i+c=l.length->zfo fuel l root s i=some (if (l.drop i).all (fun x=>zao s x root)=true then .inl () else .inr ()):=by
   intro c
   induction c with
   | zero=>
    intro i hi;have e:l.drop i=[]:=yg (by omega);rw [e,List.all_nil,xx rfl];refine zkW ?_;unfold zbJ;rw [uN]
   | succ c ih=>
    intro i hi;have hil:i<l.length:=by omega
    have hd:l.drop i=l[i]::l.drop (i+1):=xS hil;obtain ⟨h1,h2⟩:=hx _ (xD hil);have hbody:zbJ fuel l root s i=if zao s l[i] root=true then some (.inl ((i+1:Nat):Int)) else some (.inr (.inr ())):=by
     unfold zbJ;rw [uM,zI rfl hil,sb,zzM hr root h1 h2,sb];cases zao s l[i] root
     ·rw [itT (by rfl),xw (by simp)]
     ·rw [itF (by rfl),xx rfl,uO];push_cast;rfl
    rw [hd,yr];cases hrx:zao s l[i] root
    ·rw [hrx,xw (by simp)] at hbody;rw [zkW hbody];simp
    ·rw [hrx,xx rfl] at hbody;rw [zpI hbody,ih (i+1) (by omega),xQ]
  have h1:=key l.length 0 (xH _);have h1':zfo fuel l root s 0=_:=h1;rw [h1',sb,xW];cases l.all (fun x=>zao s x root)<;>rfl
 ·rw [itT (by simpa using h),xx h]
mutual
/-- Kept or left by ways. -/
def zoG (s:List Mes):Msg->Int->List zz->Bool->Msg
 | ⟨vs,u⟩,k,w,keep=>⟨zep s vs (zH s k) w keep,if keep=true then [] else u⟩
def zep (s:List Mes):List Vlu->Mes->List zz->Bool->List Vlu
 | [],_,_,_=>[]
 | v::l,m,w,keep=>zwM s v (zae m (fldI m v.Number)) w keep++zep s l m w keep
def zwM (s:List Mes):Vlu->Fld->List zz->Bool->List Vlu
 | ⟨n,a,t,sub⟩,f,w,keep=>if ziA w n=false/\zie w n≠[]/\f.Kind=17/\f.Repeated=false then [⟨n,[],[],zqM s sub f.Of (zie w n) keep⟩]
  else if ziA w n=keep then [⟨n,a,t,sub⟩] else []
def zqM (s:List Mes):List Msg->Int->List zz->Bool->List Msg
 | [],_,_,_=>[]
 | x::_,k,w,keep=>[zoG s x k w keep]
end
theorem zsp (s:List Mes) (x:Msg) (k:Int) (w:List zz) (keep:Bool):zoG s x k w keep=⟨zep s x.Values (zH s k) w keep,if keep=true then [] else x.Unknown⟩:=by cases x;rw [zoG]
theorem zpV (s:List Mes) (v:Vlu) (f:Fld) (w:List zz) (keep:Bool):zwM s v f w keep=if ziA w v.Number=false/\zie w v.Number≠[]/\f.Kind=17/\f.Repeated=false then [⟨v.Number,[],[],zqM s v.Subs f.Of (zie w v.Number) keep⟩]
  else if ziA w v.Number=keep then [v] else []:=by cases v;rw [zwM]
theorem zAO (s:List Mes) (v:Vlu) (f:Fld) (w:List zz) (keep:Bool):(zwM s v f w keep).length<=1:=by
 rw [zpV];split;simp;split<;>simp
theorem zIm {m:List zz} (hw:WW m) (n:Int):WW (zie m n):=by
 refine ⟨yi (uI _ _) hw.1,fun w hm=>?_⟩;unfold zie at hm;obtain ⟨v,hv,he⟩:=qN.1 hm;have:=hw.2 v hv;unfold zwk at he;split at he
 ·split at he
  ·cases he;simp at this|-;omega
  ·cases he
 ·cases he
theorem zrG {α:Type} (n:α) (w:List α):cut (n::w) 1 ((n::w).length:Int)=some w:=by
 have h:=zrF (xs:=n::w) (i:=1) (j:=((n::w).length:Int)) (a:=1) (b:=(n::w).length) rfl rfl (by simp) (xC _);rw [h];simp
def zvlu:Vlu:=⟨0,[],[],[]⟩
def atM:zz->Msg->Vlu×Bool
 | [],_=>(zvlu,false)
 | [n],x=>match look x.Values n with
  | some v=>(v,true)
  | none=>(zvlu,false)
 | n::y::l,x=>match look x.Values n with
  | some v=>(match v.Subs with
   | z::_=>atM (y::l) z
   | []=>(zvlu,false))
  | none=>(zvlu,false)
theorem zsB {s:List Mes} {x:Msg} {k n:Int} {y:Int} {l:zz} (hr:zao s x k=true) (hp:zcw s (n::y::l) k≠none):
  0<=fldI (zH s k) n/\(zae (zH s k) (fldI (zH s k) n)).Kind=17/\(zae (zH s k) (fldI (zH s k) n)).Repeated=false/\zcw s (y::l) (zae (zH s k) (fldI (zH s k) n)).Of≠none/\
  ∀v,look x.Values n=some v->∃z,v.Subs=[z]/\zao s z (zae (zH s k) (fldI (zH s k) n)).Of=true:=by
 rw [zcw] at hp;by_cases h1:fldI (zH s k) n<0
 ·rw [xx h1] at hp;exact absurd rfl hp
 ·rw [xw h1] at hp;by_cases h2:(zae (zH s k) (fldI (zH s k) n)).Repeated=true\/(zae (zH s k) (fldI (zH s k) n)).Kind≠17
  ·rw [xx h2] at hp;exact absurd rfl hp
  ·rw [xw h2] at hp;have hk:(zae (zH s k) (fldI (zH s k) n)).Kind=17:=by
    by_cases hh:(zae (zH s k) (fldI (zH s k) n)).Kind=17
    ·exact hh
    ·exact absurd (.inr hh) h2
   have hrep:(zae (zH s k) (fldI (zH s k) n)).Repeated=false:=by
    cases hh:(zae (zH s k) (fldI (zH s k) n)).Repeated with
    | false=>rfl
    | true=>exact absurd (.inl hh) h2
   refine ⟨by omega,hk,hrep,fun hh=>by rw [hh] at hp;exact hp rfl,fun v hv=>?_⟩;obtain ⟨_,_,_,hvs,_⟩:=zaS hr;obtain ⟨hn,hm⟩:=zdk hv;have hfit:=zgM (hvs v hm).2;rw [hn] at hfit;obtain ⟨z,hz,hzr⟩:=hfit.msg hk hrep;exact ⟨z,by rw [hz],hzr⟩
theorem zyX {s:List Mes}:∀(way:zz) (fuel:Nat) (x:Msg) (k:Int),way≠[]->way.length<=fuel->way.length<=1048576->bdM x->zao s x k=true->zcw s way k≠none->zhs fuel x way=some (atM way x)
 | [],fuel,x,k,h,_,_,_,_,_=>absurd rfl h
 | [n],fuel,x,k,_,hf,_,hb,hr,hp=>by
  obtain ⟨fuel,rfl⟩:∃q,fuel=q+1:=⟨fuel - 1,by simp at hf;omega⟩;obtain ⟨b1,_,_⟩:=(zdK x).1 hb;have i0:idx [n] 0=some n:=rfl;show zfd (zhs fuel) x [n]=_;unfold zfd;rw [i0,sb,zwf (by omega),sb,atM];rcases zqC x n with ⟨hg,hl⟩| ⟨j,hj,hg,hl⟩
  ·rw [hg,itT (by rfl),hl];rfl
  ·rw [hg,itF (by simp),itT (by rfl),zI rfl hj,sb,hl]
 | n::y::l,fuel,x,k,_,hf,hl2,hb,hr,hp=>by
  obtain ⟨fuel,rfl⟩:∃q,fuel=q+1:=⟨fuel - 1,by simp at hf;omega⟩;obtain ⟨b1,_,b4⟩:=(zdK x).1 hb;obtain ⟨p1,p2,p3,p4,p5⟩:=zsB hr hp;have i0:idx (n::y::l) 0=some n:=rfl;show zfd (zhs fuel) x (n::y::l)=_;unfold zfd;rw [i0,sb,zwf (by omega),sb,atM];rcases zqC x n with ⟨hg,hl⟩| ⟨j,hj,hg,hl⟩
  ·rw [hg,itT (by rfl),hl];rfl
  ·obtain ⟨z,hz,hzr⟩:=p5 _ hl;have hvm:=xD hj;obtain ⟨_,_,_,_,c2⟩:=(zeP _).1 (zcF.1 b4 _ hvm);have hxj:idx x.Values (j:Int)=some x.Values[j]:=zI rfl hj
   generalize x.Values[j]=v at hl hz hxj c2
   have i1:idx [z] 0=some z:=rfl;rw [hz] at c2;have hlen:(n::y::l).length<=1048576:=hl2;rw [hg,itF (by simp),uN,hxj,sb,hz,i1,sb,zrG,sb];rw [zyX (y::l) fuel z _ (by simp) (by simp at hf|-;omega) (by simp at hl2|-;omega) (zdz.1 c2 z xy) hzr p4,sb,hl];simp only [hz]
def setM:zz->Msg->Vlu->Msg
 | [],x,_=>x
 | [n],x,v=>putM x ⟨n,v.Words,v.Texts,v.Subs⟩
 | n::y::l,x,v=>match look x.Values n with
  | some u=>(match u.Subs with
   | z::_=>putM x ⟨n,[],[],[setM (y::l) z v]⟩
   | []=>x)
  | none=>if zcb v=0 then x else putM x ⟨n,[],[],[setM (y::l) ⟨[],[]⟩ v]⟩
theorem zsu {s:List Mes} (hs:zeZ s) {v:Vlu} (hv:v.Words.length<=140737488351232/\v.Texts.length<=140737488351232/\v.Subs.length<=140737488351232):∀(way:zz) (fuel:Nat) (x:Msg) (k:Int),way≠[]->way.length<=fuel->way.length<=1048576->bdM x->zao s x k=true->zcw s way k≠none->
  zgL fuel x way v=some (setM way x v)
 | [],fuel,x,k,h,_,_,_,_,_=>absurd rfl h
 | [n],fuel,x,k,_,hf,_,hb,hr,hp=>by
  obtain ⟨fuel,rfl⟩:∃q,fuel=q+1:=⟨fuel - 1,by simp at hf;omega⟩;obtain ⟨b1,_,_⟩:=(zdK x).1 hb;have i0:idx [n] 0=some n:=rfl;show zeo (zgL fuel) x [n] v=_;unfold zeo;rw [itT (by rfl),i0,sb,zwN (v:=⟨n,v.Words,v.Texts,v.Subs⟩) b1 hv,sb,setM]
 | n::y::l,fuel,x,k,_,hf,hl2,hb,hr,hp=>by
  obtain ⟨fuel,rfl⟩:∃q,fuel=q+1:=⟨fuel - 1,by simp at hf;omega⟩;obtain ⟨b1,_,b4⟩:=(zdK x).1 hb;obtain ⟨p1,p2,p3,p4,p5⟩:=zsB hr hp;obtain ⟨k0,k1,_,_,_⟩:=zaS hr;have i0:idx (n::y::l) 0=some n:=rfl;have hcut:cut (n::y::l) 1 ((n::y::l).length:Int)=some (y::l):=zrG n (y::l);have hput:∀w:Msg,zfK x (⟨n,[],[],[w]⟩:Vlu)=some (putM x ⟨n,[],[],[w]⟩):=fun w=>zwN b1 (by simp)
  show zeo (zgL fuel) x (n::y::l) v=_;unfold zeo;rw [uN,i0,sb,zwf (by omega),sb,setM];rcases zqC x n with ⟨hg,hl⟩| ⟨j,hj,hg,hl⟩
  ·rw [hg,itF (by rfl),zqQ hv,sb,hl];by_cases hm:zcb v=0
   ·rw [itT (by simp [hm]),sb];simp only;rw [xx hm]
   ·rw [uN,sb];simp only;have hof:0<=(zae (zH s k) (fldI (zH s k) n)).Of/\(zae (zH s k) (fldI (zH s k) n)).Of<s.length:=by
     obtain ⟨q,rfl⟩:∃q:Nat,k=q:=⟨k.toNat,by omega⟩;have hmm:zH s (q:Int)∈s:=by rw [zeH (by omega)];exact xD _
     rcases zia (zH s (q:Int)) n with ⟨hf,_⟩| ⟨i,hi,hf,_⟩
     ·omega
     ·rw [hf] at p2|-;exact (hs.fld _ hmm _ (by rw [zjI hi];exact xD hi)).sub p2
    have hr0:zao s ⟨[],[]⟩ (zae (zH s k) (fldI (zH s k) n)).Of=true:=ztg hof.1 hof.2 .nil (fun v hv=>nomatch hv) (fun u hu=>nomatch hu);have hb0:bdM ⟨[],[]⟩:=(zdK _).2 ⟨by simp,⟨by simp,fun t ht=>nomatch ht⟩,by simp [bdVs]⟩;rw [sb,hcut,sb,zsu hs hv (y::l) fuel ⟨[],[]⟩ _ (by simp) (by simp at hf|-;omega) (by simp at hl2|-;omega) hb0 hr0 p4,sb,hput,sb,xw hm]
  ·obtain ⟨z,hz,hzr⟩:=p5 _ hl;have hvm:=xD hj;obtain ⟨_,_,_,_,c2⟩:=(zeP _).1 (zcF.1 b4 _ hvm);have hxj:idx x.Values (j:Int)=some x.Values[j]:=zI rfl hj
   generalize x.Values[j]=u at hl hz hxj c2
   have i1:idx [z] 0=some z:=rfl;rw [hz] at c2;rw [hg,itT (by simp),hxj,sb,hz,i1,sb,sb];simp only;have e:(⟨z.Values,z.Unknown⟩:Msg)=z:=by cases z;rfl
   rw [sb,e,hcut,sb,zsu hs hv (y::l) fuel z _ (by simp) (by simp at hf|-;omega) (by simp at hl2|-;omega) (zdz.1 c2 z xy) hzr p4,sb,hput,sb,hl];simp only [hz]
def zfld:Fld:=⟨[],0,0,false,false,0⟩
def zha (s:List Mes):zz->Int->Fld->Fld
 | [],_,f=>f
 | n::l,k,f=>zha s l (zae (zH s k) (fldI (zH s k) n)).Of (zae (zH s k) (fldI (zH s k) n))
theorem zlZ {s:List Mes} (hs:zeZ s) {k:Nat} (hk:k<s.length) {n:Int} {l:zz} (hp:zcw s (n::l) k≠none):0<=fldI (zH s k) n/\(l≠[]->zcw s l (zae (zH s k) (fldI (zH s k) n)).Of≠none/\∃q:Nat,(zae (zH s k) (fldI (zH s k) n)).Of=q/\q<s.length):=by
 have hmm:zH s (k:Int)∈s:=by rw [zeH hk];exact xD _
 cases l with
 | nil=>
  rw [zcw] at hp;refine ⟨?_,fun h=>absurd rfl h⟩;by_cases h1:fldI (zH s k) n<0
  ·rw [xx h1] at hp;exact absurd rfl hp
  ·omega
 | cons y l=>
  rw [zcw] at hp;by_cases h1:fldI (zH s k) n<0
  ·rw [xx h1] at hp;exact absurd rfl hp
  ·rw [xw h1] at hp;refine ⟨by omega,fun _=>?_⟩;by_cases h2:(zae (zH s k) (fldI (zH s k) n)).Repeated=true\/(zae (zH s k) (fldI (zH s k) n)).Kind≠17
   ·rw [xx h2] at hp;exact absurd rfl hp
   ·rw [xw h2] at hp;refine ⟨fun hh=>by rw [hh] at hp;exact hp rfl,?_⟩;rcases zia (zH s (k:Int)) n with ⟨hf,_⟩| ⟨i,hi,hf,_⟩
    ·omega
    ·have hk17:(zae (zH s k) (fldI (zH s k) n)).Kind=17:=by
      by_cases hh:(zae (zH s k) (fldI (zH s k) n)).Kind=17
      ·exact hh
      ·exact absurd (.inr hh) h2
     have:=(hs.fld _ hmm (zae (zH s k) (fldI (zH s k) n)) (by rw [hf,zjI hi];exact xD hi)).sub hk17;exact ⟨(zae (zH s k) (fldI (zH s k) n)).Of.toNat,by omega,by omega⟩
theorem zCb {s:List Mes} (hs:zeZ s) {k:Nat} (hk:k<s.length) {way:zz} (hwl:way.length<=1048576):zhH s k way=some (if (zfB s k way).2=true then (zha s way k zfld,true) else (zfld,false)):=by
 unfold zhH;rw [zCc hs hk hwl,sb];by_cases hp:(zfB s k way).2=true
 ·rw [itF (by rw [hp];rfl),xx hp];have hn:zcw s way k≠none:=fun hh=>by unfold zfB at hp;rw [hh] at hp;simp at hp
  have key:∀(w:zz) (i:Nat) (r:Nat) (r':Int) (f:Fld),way.drop i=w->i<=way.length->(w≠[]->r'=r/\r<s.length/\zcw s w r≠none)->
    zeF s way r' i f.Name f.Number f.Kind f.Repeated f.Packed f.Of=some ((zha s w r' f).Name,(zha s w r' f).Number,(zha s w r' f).Kind,(zha s w r' f).Repeated,(zha s w r' f).Packed,(zha s w r' f).Of):=by
   intro w
   induction w with
   | nil=>
    intro i r r' f hd hi _;have:way.length<=i:=by have:=congrArg List.length hd;simp at this;omega
    refine zpn ?_;unfold zbu;rw [uN,zha]
   | cons n w ih=>
    intro i r r' f hd hi hc;obtain ⟨rfl,hr,hnm⟩:=hc (by simp);have hil:i<way.length:=by have:=congrArg List.length hd;simp at this;omega
    have hx:idx way (i:Int)=some n:=by
     rw [zI rfl hil];have hdd:way.drop i=way[i]::way.drop (i+1):=xS hil;rw [hdd] at hd;cases hd;rfl
    have hdn:way.drop (i+1)=w:=by
     have hdd:way.drop i=way[i]::way.drop (i+1):=xS hil;rw [hdd] at hd;cases hd;rfl
    obtain ⟨g1,g2⟩:=zlZ hs hr hnm;have hm:idx s (r:Int)=some (zH s r):=by rw [zI rfl hr,zeH hr]
    have hmm:zH s (r:Int)∈s:=by rw [zeH hr];exact xD _
    have hfew:=hs.few _ hmm;have hfj:idx (zH s (r:Int)).Fields (fldI (zH s (r:Int)) n)=some (zae (zH s (r:Int)) (fldI (zH s (r:Int)) n)):=by
     rcases zia (zH s (r:Int)) n with ⟨hf,_⟩| ⟨j,hj,hf,_⟩
     ·omega
     ·rw [hf,zI rfl hj,zjI hj]
    rw [zha];by_cases hw:w=[]
    ·have:=ih (i+1) 0 (zae (zH s r) (fldI (zH s r) n)).Of (zae (zH s r) (fldI (zH s r) n)) hdn (by omega) (fun h=>absurd hw h);rw [<-this];refine zkx ?_;unfold zbu;rw [uM,hm,sb,sb,hx,sb,zle (by omega),sb,hfj,sb,uO];push_cast;rfl
    ·obtain ⟨q1,q,q2,q3⟩:=g2 hw;have:=ih (i+1) q (zae (zH s r) (fldI (zH s r) n)).Of (zae (zH s r) (fldI (zH s r) n)) hdn (by omega) (fun _=>⟨q2,q3,by rw [<-q2];exact q1⟩);rw [<-this];refine zkx ?_;unfold zbu;rw [uM,hm,sb,sb,hx,sb,zle (by omega),sb,hfj,sb,uO];push_cast;rfl
  have h:=key way 0 k k zfld rfl (xF _) (fun _=>⟨rfl,hk,hn⟩);have e:(((0:Nat):Int))=0:=rfl;rw [e] at h;show (zeF s way k 0 zfld.Name zfld.Number zfld.Kind zfld.Repeated zfld.Packed zfld.Of>>=_)=_;rw [h,sb]
 ·rw [itT (by simpa using hp),xw hp];rfl
theorem zFe {s:List Mes} {v:Vlu} {o:Option Vlu} {f:Fld} (hv:zlI s v f) (ho:∀u,o=some u->zlI s u f)
  (ih:∀x∈v.Subs,∀y:Msg,zao s x f.Of=true->zao s y f.Of=true->zao s (zke s x y f.Of) f.Of=true):zlI s (zkY s v o f) f:=by
 have hm:=zyr hv ho;rw [zmE] at hm|-;cases o with
 | none=>exact hv
 | some u=>
  have hu:=ho u rfl;simp only at hm|-;by_cases hr:f.Repeated=true
  ·rw [xx hr] at hm|-;refine ⟨hm,(fun h=>by rw [hr] at h;cases h),hv.kind,fun w hw=>?_,fun w hw=>?_,fun w hw=>?_⟩
   ·rcases xE.1 hw with hw| hw
    ·exact hu.words w hw
    ·exact hv.words w hw
   ·rcases xE.1 hw with hw| hw
    ·exact hu.texts w hw
    ·exact hv.texts w hw
   ·rcases xE.1 hw with hw| hw
    ·exact hu.subs w hw
    ·exact hv.subs w hw
  ·rw [xw hr] at hm|-;by_cases h17:f.Kind=17
   ·rw [xx h17] at hm|-;obtain ⟨x,hvx,hx⟩:=hv.msg h17 (by simpa using hr);obtain ⟨y,huy,hy⟩:=hu.msg h17 (by simpa using hr);have hvs:v.Subs=[x]:=by rw [hvx]
    have hus:u.Subs=[y]:=by rw [huy]
    rw [hvs,hus,znK];refine ⟨by simp [zcb],(fun _=>by simp [zcb]),hv.kind,(fun w hw=>nomatch hw),(fun w hw=>nomatch hw),fun w hw=>?_⟩;rw [xT.1 hw];exact ⟨h17,ih x (by rw [hvs];exact xy) y hx hy⟩
   ·rw [xw h17] at hm|-;exact hv
theorem zwB {s:List Mes}:∀(N:Nat) (b a:Msg) (k:Int),szM b<=N->zao s a k=true->zao s b k=true->zao s (zke s b a k) k=true
 | 0,b,a,k,h,_,_=>by rw [zcy] at h;omega
 | N+1,b,a,k,hsz,ha,hb=>by
  obtain ⟨k0,k1,ra,ha',ua⟩:=zaS ha;obtain ⟨_,_,rb,hb',ub⟩:=zaS hb;obtain ⟨j1,j2⟩:=zvU ha hb;rw [zcy] at hsz;refine ztg k0 k1 j1 (fun v hv=>?_) fun u hu=>?_
  ·have hl:=zDD j1 hv;rw [j2] at hl;cases hbl:look b.Values v.Number with
   | none=>
    rw [hbl] at hl;simp only at hl;exact ha' v (zdk hl).2
   | some w=>
    rw [hbl] at hl;simp only at hl;obtain ⟨wn,wm⟩:=zdk hbl;obtain ⟨w0,wf⟩:=hb' w wm;rw [wn] at w0 wf;have hfw:=zgM wf;have s1:=zdE wm;rw [zfR] at s1;refine ⟨w0,zGm ?_⟩;have hvj:zkY s w (look a.Values v.Number) (zae (zH s k) (fldI (zH s k) v.Number))=v:=qF hl;have:=zFe (o:=look a.Values v.Number) hfw (fun u hu=>by
     obtain ⟨un,um⟩:=zdk hu;have:=zgM (ha' u um).2;rw [un] at this;exact this) fun x hx y hxr hyr=>by
      have:=zfh hx;exact zwB N x y _ (by omega) hyr hxr
    rw [hvj] at this;exact this
  ·rw [znL] at hu;rcases xE.1 hu with hu| hu
   ·exact ua u hu
   ·exact ub u hu
theorem zwn {s:List Mes} {k:Int} (h0:0<=k) (h1:k<s.length):zao s ⟨[],[]⟩ k=true:=ztg h0 h1 .nil (fun v hv=>nomatch hv) (fun u hu=>nomatch hu)
theorem zAU {g:Vlu->Option Vlu} (hg:∀v u,g v=some u->u.Number=v.Number):∀{l:List Vlu},zeT l->zeT (l.filterMap g)
 | [],_=> .nil
 | v::l,h=>by
  obtain ⟨h1,h2⟩:=ym.1 h;have ih:=zAU hg h2;cases e:g v with
  | none=>rw [List.filterMap_cons_none e];exact ih
  | some u=>
   rw [List.filterMap_cons_some e];refine ym.2 ⟨fun w hw=>?_,ih⟩;obtain ⟨w',hw',e'⟩:=qN.1 hw;rw [hg _ _ e,hg _ _ e'];exact h1 w' hw'
def goB (m:Mes) (w:List zz) (v:Vlu):Bool:= !ziA w v.Number&&decide (zie w v.Number≠[])&&decide ((zae m (fldI m v.Number)).Kind=17)&& !(zae m (fldI m v.Number)).Repeated
theorem zBw {m:Mes} {w:List zz} {v:Vlu}:goB m w v=true↔ziA w v.Number=false/\zie w v.Number≠[]/\(zae m (fldI m v.Number)).Kind=17/\(zae m (fldI m v.Number)).Repeated=false:=by
 unfold goB;simp only [xB,yn,xN,and_assoc]
def inV (s:List Mes) (m:Mes) (w:List zz) (keep:Bool) (v:Vlu):Vlu:=⟨v.Number,[],[],zqM s v.Subs (zae m (fldI m v.Number)).Of (zie w v.Number) keep⟩
def zyO (s:List Mes) (m:Mes) (w:List zz) (keep:Bool) (v:Vlu):Option Vlu:=if goB m w v=true then some (inV s m w keep v) else if ziA w v.Number=keep then some v else none
theorem zAN {s:List Mes} {m:Mes} {w:List zz} {keep:Bool} (v u:Vlu) (h:zyO s m w keep v=some u):u.Number=v.Number:=by
 unfold zyO at h;split at h
 ·cases h;rfl
 ·split at h
  ·cases h;rfl
  ·cases h
theorem zAP (s:List Mes) (m:Mes) (w:List zz) (keep:Bool):∀l:List Vlu,zep s l m w keep=l.filterMap (zyO s m w keep)
 | []=>by rw [zep];rfl
 | v::l=>by
  rw [zep,zAP s m w keep l,zpV];by_cases hg:goB m w v=true
  ·rw [xx (zBw.1 hg),List.filterMap_cons_some (b:=inV s m w keep v) (by unfold zyO;rw [xx hg])];rfl
  ·rw [xw (fun h=>hg (zBw.2 h))];by_cases hk:ziA w v.Number=keep
   ·rw [xx hk,List.filterMap_cons_some (b:=v) (by unfold zyO;rw [xw hg,xx hk])];rfl
   ·rw [xw hk,List.filterMap_cons_none (by unfold zyO;rw [xw hg,xw hk])];rfl
theorem zLa {s:List Mes} {m:Mes} {w:List zz} {v:Vlu} (hg:goB m w v=true) (hf:zlI s v (zae m (fldI m v.Number))):∃y,v=⟨v.Number,[],[],[y]⟩/\zao s y (zae m (fldI m v.Number)).Of=true/\∀keep,inV s m w keep v=⟨v.Number,[],[],[zoG s y (zae m (fldI m v.Number)).Of (zie w v.Number) keep]⟩:=by
 obtain ⟨_,_,h3,h4⟩:=zBw.1 hg;obtain ⟨y,e,hy⟩:=hf.msg h3 h4;have hs:v.Subs=[y]:=by rw [e]
 refine ⟨y,e,hy,fun keep=>?_⟩;unfold inV;rw [hs,zqM]
theorem zIT {s:List Mes} {f:Fld} {n k:Int} {y z:Msg} (hf:zlI s ⟨n,[],[],[y]⟩ f) (hz:zao s z f.Of=true):zlI s ⟨k,[],[],[z]⟩ f:=
 ⟨by simp [zcb],(fun _=>by simp [zcb]),hf.kind,(fun w hw=>nomatch hw),(fun w hw=>nomatch hw),fun w hw=>by rw [xT.1 hw];exact ⟨(hf.subs y xy).1,hz⟩⟩
theorem zMF {x y:Msg} {v:Vlu} (hv:v∈x.Values) (e:v=⟨v.Number,[],[],[y]⟩):szM y<szM x:=by
 have s1:=zdE hv;rw [zfR] at s1;have hs:v.Subs=[y]:=by rw [e]
 have s2:szM y<=szMs v.Subs:=zfh (by rw [hs];exact xy);rw [zcy x];omega
theorem zsq {s:List Mes}:∀(N:Nat) (x:Msg) (k:Int) (w:List zz) (keep:Bool),szM x<=N->zao s x k=true->zao s (zoG s x k w keep) k=true
 | 0,x,k,w,keep,h,_=>by rw [zcy] at h;omega
 | N+1,x,k,w,keep,hsz,hx=>by
  obtain ⟨k0,k1,rx,hx',ux⟩:=zaS hx;rw [zsp,zAP];refine ztg k0 k1 (zAU zAN rx) (fun v hv=>?_) fun u hu=>?_
  ·obtain ⟨v0,hv0,e⟩:=qN.1 hv;obtain ⟨w0,wf⟩:=hx' v0 hv0;have hn:=zAN _ _ e;unfold zyO at e;by_cases hg:goB (zH s k) w v0=true
   ·rw [xx hg] at e;have hf:=zgM wf;obtain ⟨y,e1,hy,hin⟩:=zLa hg hf;rw [hin] at e;have hsy:=zMF hv0 e1;rw [hn];refine ⟨w0,zGm ?_⟩;rw [<-qF e];rw [e1] at hf;exact zIT hf (zsq N y _ _ _ (by omega) hy)
   ·rw [xw hg] at e;by_cases hk:ziA w v0.Number=keep
    ·rw [xx hk] at e;rw [<-qF e];exact ⟨w0,wf⟩
    ·rw [xw hk] at e;cases e
  ·cases keep with
   | true=>exact absurd hu (by simp)
   | false=>exact ux u hu
theorem zys (s:List Mes) (a:Msg) (m:Mes):∀(l acc:List Vlu),(zlr s l a m acc).length<=acc.length+l.length
 | [],acc=>by rw [zlr];simp
 | v::l,acc=>by
  rw [zlr];have h1:=zys s a m l (putM ⟨acc,[]⟩ (zkY s v (look a.Values v.Number) (zae m (fldI m v.Number)))).Values;have h2:=zDS acc [] (zkY s v (look a.Values v.Number) (zae m (fldI m v.Number)));simp only [ye];omega
theorem zBy {s:List Mes}:∀(N:Nat) (b a:Msg) (k:Int),szM b<=N->zao s a k=true->zao s b k=true->bdM a->bdM b->smM a->smM b->bdM (zke s b a k)
 | 0,b,a,k,h,_,_,_,_,_,_=>by rw [zcy] at h;omega
 | N+1,b,a,k,hsz,ha,hb,ba,bb,sa,sb'=>by
  obtain ⟨_,_,ra,ha',_⟩:=zaS ha;obtain ⟨_,_,rb,hb',_⟩:=zaS hb;obtain ⟨j1,j2⟩:=zvU ha hb;obtain ⟨a1,⟨a2,a3⟩,a4⟩:=(zdK a).1 ba;obtain ⟨b1,⟨b2,b3⟩,b4⟩:=(zdK b).1 bb;obtain ⟨sa1,⟨sa2,sa3⟩,sa4⟩:=(zgF a).1 sa;obtain ⟨sb1,⟨sb2,sb3⟩,sb4⟩:=(zgF b).1 sb';rw [zcy] at hsz;have hlen:(zke s b a k).Values.length<=a.Values.length+b.Values.length:=by rw [znL];exact zys s a _ _ _
  have hun:(zke s b a k).Unknown=a.Unknown++b.Unknown:=by rw [znL]
  refine (zdK _).2 ⟨by omega,⟨by rw [hun];simp;omega,fun t ht=>by
   rw [hun] at ht;rcases xE.1 ht with h| h
   ·exact a3 t h
   ·exact b3 t h⟩,zcF.2 fun x hx=>?_⟩
  have hl:=zDD j1 hx;rw [j2] at hl;cases hlb:look b.Values x.Number with
  | none=>rw [hlb] at hl;exact zcF.1 a4 x (zdk hl).2
  | some v=>
   rw [hlb] at hl;have e:x=zkY s v (look a.Values x.Number) (zae (zH s k) (fldI (zH s k) x.Number)):=(qF hl).symm;obtain ⟨hvn,hvm⟩:=zdk hlb;have bv:=zcF.1 b4 v hvm;have sv:=zhP.1 sb4 v hvm;rw [e,zmE];cases hla:look a.Values x.Number with
   | none=>exact bv
   | some u=>
    obtain ⟨hun',hum⟩:=zdk hla;have bu:=zcF.1 a4 u hum;have su:=zhP.1 sa4 u hum;obtain ⟨v1,⟨v2,v3⟩,⟨v4,v5⟩,v6,v7⟩:=(zeP v).1 bv;obtain ⟨u1,⟨u2,u3⟩,⟨u4,u5⟩,u6,u7⟩:=(zeP u).1 bu;obtain ⟨q1,⟨q2,q3⟩,q4,q5⟩:=(zmW v).1 sv;obtain ⟨r1,⟨r2,r3⟩,r4,r5⟩:=(zmW u).1 su;simp only;split
    ·refine (zeP _).2 ⟨v1,⟨by simp;omega,fun w hw=>?_⟩,⟨by simp;omega,fun w hw=>?_⟩,by simp;omega,zdz.2 fun w hw=>?_⟩
     ·rcases xE.1 hw with h| h
      ·exact u3 w h
      ·exact v3 w h
     ·rcases xE.1 hw with h| h
      ·exact u5 w h
      ·exact v5 w h
     ·rcases xE.1 hw with h| h
      ·exact zdz.1 u7 w h
      ·exact zdz.1 v7 w h
    ·split
     ·rename_i hrep h17;have fv:=hb' v hvm;have fu:=ha' u hum;rw [hvn] at fv;rw [hun'] at fu;have ov:=zgM fv.2;have ou:=zgM fu.2;refine (zeP _).2 ⟨v1,⟨by simp,by simp⟩,⟨by simp,by simp⟩,?_⟩;cases hvs:v.Subs with
      | nil=>rw [znK];exact ⟨by simp,by rw [bdMs];trivial⟩
      | cons y ys=>
       cases hus:u.Subs with
       | nil=>rw [znK];exact ⟨by simp,by rw [bdMs];trivial⟩
       | cons z zs=>
        rw [znK];simp only;have hy:y∈v.Subs:=by rw [hvs];exact xy
        have hz:z∈u.Subs:=by rw [hus];exact xy
        have hsv:=zdE hvm;rw [zfR] at hsv;have hsy:=zfh hy;have hj:=zBy N y z _ (by omega) (ou.subs z hz).2 (ov.subs y hy).2 (zdz.1 u7 z hz) (zdz.1 v7 y hy) (zhO.1 r5 z hz) (zhO.1 q5 y hy);exact ⟨by simp,by rw [bdMs,bdMs];exact ⟨hj,trivial⟩⟩
     ·exact bv
theorem zwS:∀(l m:List Vlu),szVs (l++m)=szVs l+szVs m
 | [],m=>by rw [xV,szVs];omega
 | v::l,m=>by rw [yw,szVs,szVs,zwS l m];omega
theorem zxB {s:List Mes}:∀(N:Nat) (x:Msg) (k:Int) (w:List zz) (keep:Bool),szM x<=N->bdM x->bdM (zoG s x k w keep)/\szM (zoG s x k w keep)<=szM x
 | 0,x,k,w,keep,h,_=>by rw [zcy] at h;omega
 | N+1,x,k,w,keep,hsz,hb=>by
  obtain ⟨b1,⟨b2,b3⟩,b4⟩:=(zdK x).1 hb;rw [zcy] at hsz;have key:∀v∈x.Values,∀f:Fld,(∀u∈zwM s v f w keep,bdV u)/\szVs (zwM s v f w keep)<=szV v:=fun v hv f=>by
   have bv:=zcF.1 b4 v hv;obtain ⟨v1,v2,v3,v6,v7⟩:=(zeP v).1 bv;have hsv:=zdE hv;have hve:=zfR v;rw [zpV];split
   ·cases hs:v.Subs with
    | nil=>
     rw [zqM];refine ⟨fun u hu=>?_,?_⟩
     ·rw [xT.1 hu];exact (zeP _).2 ⟨v1,⟨by simp,by simp⟩,⟨by simp,by simp⟩,by simp,by rw [bdMs];trivial⟩
     ·rw [szVs,szVs,zfR];simp only;rw [szMs];omega
    | cons y ys=>
     have hy:y∈v.Subs:=by rw [hs];exact xy
     have hsy:=zfh hy;obtain ⟨p1,p2⟩:=zxB N y f.Of (zie w v.Number) keep (by omega) (zdz.1 v7 y hy);rw [zqM];refine ⟨fun u hu=>?_,?_⟩
     ·rw [xT.1 hu];exact (zeP _).2 ⟨v1,⟨by simp,by simp⟩,⟨by simp,by simp⟩,by simp,by rw [bdMs,bdMs];exact ⟨p1,trivial⟩⟩
     ·rw [szVs,szVs,zfR];simp only;rw [szMs,szMs];omega
   ·split
    ·refine ⟨(fun u hu=>by rw [xT.1 hu];exact bv),?_⟩;rw [szVs,szVs];omega
    ·exact ⟨(fun u hu=>by cases hu),(by rw [szVs];omega)⟩
  have all:∀l:List Vlu,(∀v∈l,v∈x.Values)->(∀u∈zep s l (zH s k) w keep,bdV u)/\szVs (zep s l (zH s k) w keep)<=szVs l/\(zep s l (zH s k) w keep).length<=l.length:=by
   intro l
   induction l with
   | nil=>intro _;rw [zep];exact ⟨(fun u hu=>by cases hu),xC _,xC _⟩
   | cons v l ih=>
    intro h;obtain ⟨i1,i2,i3⟩:=ih fun u hu=>h u (xz _ hu)
    obtain ⟨k1,k2⟩:=key v (h v xy) (zae (zH s k) (fldI (zH s k) v.Number));have k3:=zAO s v (zae (zH s k) (fldI (zH s k) v.Number)) w keep;rw [zep];refine ⟨fun u hu=>?_,?_,?_⟩
    ·rcases xE.1 hu with hu| hu
     ·exact k1 u hu
     ·exact i1 u hu
    ·rw [zwS,szVs];omega
    ·rw [yd,ye];omega
  obtain ⟨a1,a2,a3⟩:=all x.Values fun v hv=>hv
  rw [zsp];refine ⟨(zdK _).2 ⟨by simp only;omega,⟨?_,?_⟩,zcF.2 a1⟩,by rw [zcy,zcy];simp only;omega⟩
  ·simp only;cases keep<;>simp<;>omega
  ·simp only;cases keep with
   | true=>intro t ht;cases ht
   | false=>exact b3
theorem zwW:∀(N:Nat) (x:Msg),szM x<=N->szM x<=wgM x
 | 0,x,h=>by rw [zcy] at h;omega
 | N+1,x,h=>by
  rw [zcy] at h;have hv:∀v∈x.Values,szV v<=wgV v:=fun v hv=>by
   have h1:=zdE hv;have he:=zfR v;have:∀l:List Msg,(∀y∈l,y∈v.Subs)->szMs l<=wgMs l:=by
    intro l
    induction l with
    | nil=>intro _;rw [szMs];omega
    | cons y l ih=>
     intro hl;have hy:=hl y xy;have h2:=zfh hy;have:=zwW N y (by omega);have:=ih fun z hz=>hl z (xz _ hz)
     rw [szMs,wgMs];omega
   have:=this v.Subs fun y hy=>hy
   rw [he,zkp];omega
  have:∀l:List Vlu,(∀v∈l,v∈x.Values)->szVs l<=wgVs l:=by
   intro l
   induction l with
   | nil=>intro _;rw [szVs];omega
   | cons v l ih=>
    intro hl;have:=hv v (hl v xy);have:=ih fun z hz=>hl z (xz _ hz)
    rw [szVs,wgVs];omega
  have:=this x.Values fun v hv=>hv
  rw [zcy,zkQ];omega
theorem zKE:∀(N:Nat) (x:Msg),szM x<=N->wgM x<=1048576->smM x
 | 0,x,h,_=>by rw [zcy] at h;omega
 | N+1,x,h,hw=>by
  rw [zcy] at h;rw [zkQ] at hw;have hl:=zEt x.Values;have hu:=zCm (l:=x.Unknown);refine (zgF _).2 ⟨by omega,⟨by omega,fun t ht=>by have:=zCn ht;omega⟩,zhP.2 fun v hv=>?_⟩;have h1:=zdE hv;have h2:=zEu hv;rw [zfR] at h1;rw [zkp] at h2;have ht:=zCm (l:=v.Texts);have hs:=zEs v.Subs;refine (zmW _).2 ⟨by omega,⟨by omega,fun t ht=>by have:=zCn ht;omega⟩,by omega,zhO.2 fun y hy=>?_⟩;have h3:=zfh hy;have h4:=zqn hy;exact zKE N y (by omega) (by omega)
theorem zvD:∀(l m:List Vlu),wgVs (l++m)=wgVs l+wgVs m
 | [],m=>by rw [xV,wgVs];omega
 | v::l,m=>by rw [yw,wgVs,wgVs,zvD l m];omega
theorem zEr:∀(l m:List Msg),wgMs (l++m)=wgMs l+wgMs m
 | [],m=>by rw [xV,wgMs];omega
 | v::l,m=>by rw [yw,wgMs,wgMs,zEr l m];omega
def wgO:Option Vlu->Nat
 | none=>0
 | some u=>wgV u
theorem zFD (v:Vlu):∀(d:Bool) (l:List Vlu),zeT l->wgVs (putL v d l)+wgO (look l v.Number)<=wgVs l+(if d=true then 0 else wgV v)
 | d,[],_=>by
  rw [putL];cases d
  ·show wgVs [v]+0<=_;simp [wgVs]
  ·show wgVs []+0<=_;simp
 | d,u::l,h=>by
  obtain ⟨h1,h2⟩:=ym.1 h;have ih:=zFD v (d|| decide (v.Number<=u.Number)) l h2;rw [putL,zvD,zvD,zdx,wgVs];by_cases he:u.Number=v.Number
  ·rw [xx he,xx he];have hn:look l v.Number=none:=zta fun x hx=>by have:=h1 x hx;omega
   rw [hn] at ih;have hle:decide (v.Number<=u.Number)=true:=by simp;omega
   rw [hle,qW,xx rfl] at ih;simp only [wgO,wgVs,hle,qW] at ih|-;cases d
   ·rw [xx ⟨rfl,by omega⟩,wgVs,wgVs];simp;omega
   ·rw [xw (by simp),wgVs];simp;omega
  ·rw [xw he,xw he,wgVs,wgVs];cases d
   ·by_cases hv:v.Number<=u.Number
    ·rw [xx ⟨rfl,hv⟩,wgVs,wgVs];simp only [hv,pv,qW,yD,qq,qr] at ih|-;omega
    ·rw [xw (fun hh=>hv hh.2),wgVs];simp only [hv,pw,qM,qq,qr] at ih|-;omega
   ·rw [xw (by simp),wgVs];simp only [pu,yD] at ih|-;omega
theorem zAv {s:List Mes} {a:Msg} {m:Mes}:∀(l acc:List Vlu),zeT l->zeT acc->(∀v∈l,look acc v.Number=look a.Values v.Number)->(∀v∈l,wgV (zkY s v (look a.Values v.Number) (zae m (fldI m v.Number)))<=wgV v+wgO (look a.Values v.Number))->wgVs (zlr s l a m acc)<=wgVs acc+wgVs l
 | [],acc,_,_,_,_=>by rw [zlr];omega
 | v::l,acc,hl,ha,he,hw=>by
  obtain ⟨l1,l2⟩:=ym.1 hl;have hv:=he v xy;have hwv:=hw v xy;have hn:=zsV s v (look a.Values v.Number) (zae m (fldI m v.Number));rw [zlr]
  generalize zkY s v (look a.Values v.Number) (zae m (fldI m v.Number))=v' at hn hwv|-
  have hp:=zFD v' (decide (zcb v'=0)) acc ha;have ih:=zAv (s:=s) (a:=a) (m:=m) l (putM ⟨acc,[]⟩ v').Values l2 (zld ha) (fun u hu=>by
   show look (putL v' _ acc) u.Number=_;have:=l1 u hu;rw [zpP ha,xw (by omega)];exact he u (xz _ hu)) (fun u hu=>hw u (xz _ hu))
  have hq:wgVs (putM ⟨acc,[]⟩ v').Values=wgVs (putL v' (decide (zcb v'=0)) acc):=rfl;rw [hn,hv] at hp;rw [wgVs];split at hp<;>omega
theorem zBz {s:List Mes}:∀(N:Nat) (b a:Msg) (k:Int),szM b<=N->zao s a k=true->zao s b k=true->wgM (zke s b a k)<=wgM a+wgM b
 | 0,b,a,k,h,_,_=>by rw [zcy] at h;omega
 | N+1,b,a,k,hsz,ha,hb=>by
  obtain ⟨_,_,ra,ha',_⟩:=zaS ha;obtain ⟨_,_,rb,hb',_⟩:=zaS hb;rw [zcy] at hsz;have:=zAv (s:=s) (a:=a) (m:=zH s k) b.Values a.Values rb ra (fun _ _=>rfl) fun v hv=>by
   rw [zmE];cases hla:look a.Values v.Number with
   | none=>simp only [wgO];omega
   | some u=>
    obtain ⟨hun,hum⟩:=zdk hla;have hve:=zkp v;have hue:=zkp u;simp only [wgO];split
    ·rw [zkp];simp only [yd,qE,List.sum_append,zEr];omega
    ·split
     ·rename_i hrep h17;have ov:=zgM (hb' v hv).2;have ou:=zgM (ha' u hum).2;rw [hun] at ou;have hsv:=zdE hv;rw [zfR] at hsv;rw [zkp];simp only [px,yX,List.sum_nil];cases hvs:v.Subs with
      | nil=>rw [znK,wgMs];omega
      | cons y ys=>
       cases hus:u.Subs with
       | nil=>rw [znK,wgMs];omega
       | cons z zs=>
        rw [znK];have hy:y∈v.Subs:=by rw [hvs];exact xy
        have hz:z∈u.Subs:=by rw [hus];exact xy
        have hsy:=zfh hy;have hj:=zBz N y z _ (by omega) (ou.subs z hz).2 (ov.subs y hy).2;have w1:=zqn hy;have w2:=zqn hz;rw [wgMs,wgMs];omega
     ·omega
  rw [znL,zkQ,zkQ,zkQ];simp only [qE,List.sum_append];omega
theorem zBQ {s:List Mes}:∀(N:Nat) (x:Msg) (k:Int) (w:List zz) (keep:Bool),szM x<=N->wgM (zoG s x k w keep)<=wgM x
 | 0,x,k,w,keep,h=>by rw [zcy] at h;omega
 | N+1,x,k,w,keep,hsz=>by
  rw [zcy] at hsz;have key:∀v∈x.Values,∀f:Fld,wgVs (zwM s v f w keep)<=wgV v:=fun v hv f=>by
   have hsv:=zdE hv;rw [zfR] at hsv;have hve:=zkp v;rw [zpV];split
   ·cases hs:v.Subs with
    | nil=>
     rw [zqM,wgVs,wgVs,zkp];simp only [px,yX,List.sum_nil];rw [wgMs];omega
    | cons y ys=>
     have hy:y∈v.Subs:=by rw [hs];exact xy
     have hsy:=zfh hy;have hwy:=zqn hy;have:=zBQ (s:=s) N y f.Of (zie w v.Number) keep (by omega);rw [zqM,wgVs,wgVs,zkp];simp only [px,yX,List.sum_nil];rw [wgMs,wgMs];omega
   ·split
    ·rw [wgVs,wgVs];omega
    ·rw [wgVs];omega
  have all:∀l:List Vlu,(∀v∈l,v∈x.Values)->wgVs (zep s l (zH s k) w keep)<=wgVs l:=by
   intro l
   induction l with
   | nil=>intro _;rw [zep];exact xC _
   | cons v l ih=>
    intro h;have i2:=ih fun u hu=>h u (xz _ hu)
    have k2:=key v (h v xy) (zae (zH s k) (fldI (zH s k) v.Number));rw [zep,zvD,wgVs];omega
  have:=all x.Values fun v hv=>hv
  rw [zsp,zkQ,zkQ];simp only;cases keep<;>simp<;>omega
theorem zyi {s:List Mes} (hs:zeZ s) {k n:Int} (k0:0<=k) (k1:k<s.length) (h:0<=fldI (zH s k) n):(Lit.int .i64 n).wf=true:=by
 obtain ⟨q,rfl⟩:∃q:Nat,k=q:=⟨k.toNat,by omega⟩;have hmm:zH s (q:Int)∈s:=by rw [zeH (by omega)];exact xD _
 rcases zia (zH s (q:Int)) n with ⟨hf,_⟩| ⟨i,hi,_,hn,_⟩
 ·omega
 ·have hfo:=hs.fld _ hmm _ (xD hi);exact zMk (by rw [<-hn];have:=hfo.lo;have:=hfo.hi;omega)
theorem zBU {x:Msg} {v:Vlu} (hb:bdM x) (hl:x.Values.length<=1048576) (hv:bdV v):bdM (putM x v):=by
 obtain ⟨b1,b2,b4⟩:=(zdK x).1 hb;have hlen:=zDS x.Values x.Unknown v;refine (zdK _).2 ⟨by have e:(putM x v).Values=(putM ⟨x.Values,x.Unknown⟩ v).Values:=rfl;rw [e];omega,b2,zcF.2 fun u hu=>?_⟩;rcases zyU (show u∈putL v (decide (zcb v=0)) x.Values from hu) with ⟨rfl,_⟩| ⟨h,_⟩
 ·exact hv
 ·exact zcF.1 b4 u h
theorem zBV {x:Msg} {v:Vlu} (hr:zeT x.Values):wgM (putM x v)+wgO (look x.Values v.Number)<=wgM x+wgV v:=by
 have h:=zFD v (decide (zcb v=0)) x.Values hr;have e:(putM x v).Values=putL v (decide (zcb v=0)) x.Values:=rfl;have e2:(putM x v).Unknown=x.Unknown:=rfl;rw [zkQ,zkQ,e,e2];split at h<;>omega
theorem zGa {n:Int} {y:Msg} (hn:(Lit.int .i64 n).wf=true) (hy:bdM y):bdV ⟨n,[],[],[y]⟩:=(zeP _).2 ⟨hn,⟨by simp,by simp⟩,⟨by simp,by simp⟩,by simp,by rw [bdMs,bdMs];exact ⟨hy,trivial⟩⟩
theorem zHb (n:Int) (y:Msg):wgV ⟨n,[],[],[y]⟩=1+wgM y:=by rw [zkp];simp [wgMs]
theorem zxF {s:List Mes} (hs:zeZ s) {v:Vlu} (hv:bdV v):∀(way:zz) (x:Msg) (k:Int),way≠[]->bdM x->smM x->zao s x k=true->zcw s way k≠none->
  bdM (setM way x v)/\wgM (setM way x v)<=wgM x+wgV v+2*way.length
 | [],x,k,h,_,_,_,_=>absurd rfl h
 | [n],x,k,_,hb,hsm,hr,hp=>by
  obtain ⟨k0,k1,rx,_,_⟩:=zaS hr;obtain ⟨q,rfl⟩:∃q:Nat,k=q:=⟨k.toNat,by omega⟩;have hw:=zyi hs k0 k1 (zlZ hs (by omega) hp).1;obtain ⟨v1,v2,v3,v4,v5⟩:=(zeP v).1 hv;have h:=zBV (v:=⟨n,v.Words,v.Texts,v.Subs⟩) rx;have e:wgV ⟨n,v.Words,v.Texts,v.Subs⟩=wgV v:=by rw [zkp,zkp]
  rw [setM];exact ⟨zBU hb ((zgF x).1 hsm).1 ((zeP _).2 ⟨hw,v2,v3,v4,v5⟩),by simp only [qk];omega⟩
 | n::y::l,x,k,_,hb,hsm,hr,hp=>by
  obtain ⟨b1,_,b4⟩:=(zdK x).1 hb;obtain ⟨m1,_,m4⟩:=(zgF x).1 hsm;obtain ⟨p1,p2,p3,p4,p5⟩:=zsB hr hp;obtain ⟨k0,k1,rx,_,_⟩:=zaS hr;have hw:=zyi hs k0 k1 p1;rw [setM];cases hl:look x.Values n with
  | none=>
   simp only;by_cases hm:zcb v=0
   ·rw [xx hm];exact ⟨hb,by omega⟩
   ·rw [xw hm];have hof:0<=(zae (zH s k) (fldI (zH s k) n)).Of/\(zae (zH s k) (fldI (zH s k) n)).Of<s.length:=by
     obtain ⟨q,rfl⟩:∃q:Nat,k=q:=⟨k.toNat,by omega⟩;have hmm:zH s (q:Int)∈s:=by rw [zeH (by omega)];exact xD _
     rcases zia (zH s (q:Int)) n with ⟨hf,_⟩| ⟨i,hi,hf,_⟩
     ·omega
     ·rw [hf] at p2|-;exact (hs.fld _ hmm _ (by rw [zjI hi];exact xD hi)).sub p2
    have hb0:bdM ⟨[],[]⟩:=(zdK _).2 ⟨by simp,⟨by simp,fun t ht=>nomatch ht⟩,by simp [bdVs]⟩;have hs0:smM ⟨[],[]⟩:=(zgF _).2 ⟨by simp,⟨by simp,fun t ht=>nomatch ht⟩,by simp [smVs]⟩;have hw0:wgM ⟨[],[]⟩=1:=by rw [zkQ];simp [wgVs]
    obtain ⟨q1,q2⟩:=zxF hs hv (y::l) ⟨[],[]⟩ _ (by simp) hb0 hs0 (zwn hof.1 hof.2) p4;have h:=zBV (v:=⟨n,[],[],[setM (y::l) ⟨[],[]⟩ v]⟩) rx;rw [zHb] at h;refine ⟨zBU hb m1 (zGa hw q1),?_⟩;simp only [ye] at q2|-;omega
  | some u=>
   obtain ⟨z,hz,hzr⟩:=p5 _ hl;obtain ⟨hun,hum⟩:=zdk hl;obtain ⟨_,_,_,_,c2⟩:=(zeP _).1 (zcF.1 b4 _ hum);obtain ⟨_,_,_,d2⟩:=(zmW _).1 (zhP.1 m4 _ hum);have hzm:z∈u.Subs:=by rw [hz];exact xy
   obtain ⟨q1,q2⟩:=zxF hs hv (y::l) z _ (by simp) (zdz.1 c2 z hzm) (zhO.1 d2 z hzm) hzr p4;have h:=zBV (v:=⟨n,[],[],[setM (y::l) z v]⟩) rx;rw [zHb,hl] at h;have hu:=zkp u;have h4:=zqn hzm;simp only [wgO] at h;simp only [hz];refine ⟨zBU hb m1 (zGa hw q1),?_⟩;simp only [ye] at q2|-;omega
theorem zno:bdV zvlu:=(zeP _).2 ⟨by decide,⟨by simp [zvlu],by simp [zvlu]⟩,⟨by simp [zvlu],by simp [zvlu]⟩,by simp [zvlu],by simp [zvlu,bdMs]⟩
theorem zxI:szV zvlu=1:=by rw [zfR];simp [zvlu,szMs]
theorem zIy:∀(way:zz) (x:Msg),bdM x->bdV (atM way x).1/\szV (atM way x).1<=szM x
 | [],x,_=>by
  have h1:=zcy x;have h2:=zxI;rw [atM];exact ⟨zno,by simp only;omega⟩
 | [n],x,hb=>by
  obtain ⟨_,_,b4⟩:=(zdK x).1 hb;have h1:=zcy x;have h2:=zxI;rw [atM];cases hl:look x.Values n with
  | none=>exact ⟨zno,by simp only;omega⟩
  | some v=>
   obtain ⟨_,hm⟩:=zdk hl;have:=zdE hm;exact ⟨zcF.1 b4 _ hm,by simp only;omega⟩
 | n::y::l,x,hb=>by
  obtain ⟨_,_,b4⟩:=(zdK x).1 hb;have h1:=zcy x;have h2:=zxI;rw [atM];cases hl:look x.Values n with
  | none=>exact ⟨zno,by simp only;omega⟩
  | some v=>
   obtain ⟨_,hm⟩:=zdk hl;have h3:=zdE hm;rw [zfR] at h3;obtain ⟨_,_,_,_,c2⟩:=(zeP _).1 (zcF.1 b4 _ hm);cases hsub:v.Subs with
   | nil=>simp only [hsub];exact ⟨zno,by omega⟩
   | cons z zs=>
    have hzm:z∈v.Subs:=by rw [hsub];exact xy
    have h4:=zfh hzm;obtain ⟨g1,g2⟩:=zIy (y::l) z (zdz.1 c2 z hzm);simp only [hsub];exact ⟨g1,by omega⟩
theorem zCJ:∀(way:zz) (x:Msg),(atM way x).2=false->(atM way x).1=zvlu
 | [],x,_=>by rw [atM]
 | [n],x,h=>by
  rw [atM] at h|-;cases hl:look x.Values n with
  | none=>rfl
  | some v=>rw [hl] at h;cases h
 | n::y::l,x,h=>by
  rw [atM] at h|-;cases hl:look x.Values n with
  | none=>rfl
  | some v=>
   rw [hl] at h;cases hsub:v.Subs with
   | nil=>simp only [hsub]
   | cons z zs=>
    simp only [hsub] at h|-;exact zCJ (y::l) z h
theorem zFq (s:List Mes) (root:Int) (l:List Msg):zdo s root l=0\/zdo s root l=2\/zdo s root l=9\/zdo s root l=12:=by
 unfold zdo;by_cases h0:zfa s root=0
 ·rw [xw (show ¬zfa s root≠0 from fun hh=>hh h0)];by_cases ha:l.all (fun x=>zao s x root)=true
  ·rw [xx ha];simp
  ·rw [xw ha];simp
 ·rw [xx h0];unfold zfa;split
  ·simp
  ·split<;>simp
theorem zlY {s:List Mes} {root:Int} {l:List Msg} (h:zdo s root l=0):zeZ s/\0<=root/\root<s.length/\∀x∈l,zao s x root=true:=by
 unfold zdo at h;by_cases h0:zfa s root=0
 ·rw [xw (show ¬zfa s root≠0 from fun hh=>hh h0)] at h;obtain ⟨h1,h2,h3⟩:=zrC h0;by_cases ha:l.all (fun x=>zao s x root)=true
  ·exact ⟨h1,h2,h3,xG.1 ha⟩
  ·rw [xw ha] at h;cases h
 ·rw [xx h0] at h;exact absurd h h0
def zkg:Msg:=⟨[],[]⟩
theorem zmO:bdM zkg:=(zdK _).2 ⟨by simp [zkg],⟨by simp [zkg],by simp [zkg]⟩,by show bdVs [];rw [bdVs];trivial⟩
theorem zEw:szM zkg=1:=by rw [zcy];show 1+szVs []=1;rw [szVs]
theorem zMf {fuel:Nat} {l:List Msg} (hx:∀x∈l,szM x<fuel/\bdM x) (hl:l.length<=1048576):∃r,zim fuel l=some r/\(r=false->∀x∈l,smM x->wgM x<=2000):=by
 have key:∀(d i:Nat),i+d=l.length->∃q,zfm fuel l i=some q/\(q= .inl ()->∀x∈l.drop i,smM x->wgM x<=2000):=by
  intro d
  induction d with
  | zero=>
   intro i hi;refine ⟨.inl (),zkU ?_,fun _ x hx=>?_⟩
   ·unfold zbH;rw [uN]
   ·rw [yg (by omega)] at hx;cases hx
  | succ d ih=>
   intro i hi;have hlt:i<l.length:=by omega
   obtain ⟨h1,h2⟩:=hx _ (xD hlt);obtain ⟨r,hr,hr2⟩:=(zKm fuel).1 l[i] 70 h1 h2 (by omega) (by omega);by_cases hb:r>2000
   ·refine ⟨.inr (),zkU ?_,fun h=>nomatch h⟩;unfold zbH;rw [uM,zI rfl hlt,sb,hr,sb,itT (by simpa using hb)]
   ·obtain ⟨q,hq,hq2⟩:=ih (i+1) (by omega);refine ⟨q,(zpG (i':=((i+1:Nat):Int)) ?_).trans hq,fun h x hx hs=>?_⟩
    ·unfold zbH;rw [uM,zI rfl hlt,sb,hr,sb,itF (by simpa using hb),uO];rfl
    ·rw [xS hlt] at hx;rcases xA.1 hx with rfl| hx
     ·have:=(hr2 hs).2.2 (by omega);omega
     ·exact hq2 h x hx hs
 obtain ⟨q,hq,hq2⟩:=key l.length 0 (by omega);have hq':zfm fuel l 0=_:=hq;unfold zim;rw [hq',sb];cases q with
 | inl u=>exact ⟨_,rfl,fun _=>by cases u;simpa using hq2 rfl⟩
 | inr u=>exact ⟨_,rfl,fun h=>nomatch h⟩
theorem zDG {s:List Mes} {root:Int} {l:List Msg} (h1:zeS s=true) (h2:0<=root/\root<s.length) (h:∀x∈l,zao s x root=true):zdo s root l=0:=by
 have h0:zfa s root=0:=by unfold zfa;rw [h1,xw (by simp),xw (by omega)]
 unfold zdo;rw [xw (show ¬zfa s root≠0 from fun hh=>hh h0),xx (xG.2 h)]
structure Gd (s:List Mes) (root:Int) (n:Nat) (x:Msg):Prop where
 r:zao s x root=true
 b:bdM x
 w:wgM x<=n
theorem Gd.s {s:List Mes} {root:Int} {n:Nat} {x:Msg} (h:Gd s root n x) (hn:n<=1048576):smM x:=zKE _ x (xC _) (yi h.w hn)
theorem Gd.z {s:List Mes} {root:Int} {n fuel:Nat} {x:Msg} (h:Gd s root n x) (hn:n<fuel):szM x<fuel:=Nat.lt_of_le_of_lt (yi (zwW _ x (xC _)) h.w) hn
theorem Gd.join {s:List Mes} {root:Int} {n m:Nat} {a b:Msg} (ha:Gd s root n a) (hb:Gd s root m b) (hn:n<=1048576) (hm:m<=1048576):Gd s root (n+m) (zke s b a root):=
 ⟨zwB _ b a root (xC _) ha.r hb.r,zBy _ b a root (xC _) ha.r hb.r ha.b hb.b (ha.s hn) (hb.s hm),yi (zBz _ b a root (xC _) ha.r hb.r) (Nat.add_le_add ha.w hb.w)⟩
theorem Gd.part {s:List Mes} {root:Int} {n:Nat} {a:Msg} (ha:Gd s root n a) (w:List zz) (keep:Bool):Gd s root n (zoG s a root w keep):=
 ⟨zsq _ a root w keep (xC _) ha.r,(zxB _ a root w keep (xC _) ha.b).1,yi (zBQ _ a root w keep (xC _)) ha.w⟩
def zds (s:List Mes) (root:Int) (x:Msg) (way:zz) (v:Vlu):Int:=if zdo s root [x]≠0 then zdo s root [x] else if (zfB s root way).2=false then 10 else if 0<zcb v/\zhl s v (zha s way root zfld)=false then 12 else 0
def zgB (s:List Mes) (root:Int) (x:Msg) (way:zz):Int:=if zdo s root [x]≠0 then zdo s root [x] else if (zfB s root way).2=false then 10 else if (atM way x).2=false then 11 else 0
def zym (x:Msg) (n:Int):Vlu×Bool:=if getM x n<0 then (⟨0,[],[],[]⟩,false) else (x.Values.getD (getM x n).toNat ⟨0,[],[],[]⟩,true)
theorem zIO:∀n:Nat,(∀x:Msg,szM x<=n->dM x<szM x)/\(∀l:List Msg,szMs l<=n->dMs l<=szMs l)/\(∀v:Vlu,szV v<=n->dV v<szV v)/\∀l:List Vlu,szVs l<=n->dVs l<=szVs l
 | 0=>⟨fun x h=>by rw [zcy] at h;omega,fun l h=>by
   cases l with
   | nil=>simp [dMs]
   | cons x l=>rw [szMs,zcy] at h;omega,fun v h=>by rw [zfR] at h;omega,fun l h=>by
   cases l with
   | nil=>simp [dVs]
   | cons x l=>rw [szVs,zfR] at h;omega⟩
 | n+1=>by
  obtain ⟨i1,i2,i3,i4⟩:=zIO n;have h2:∀l:List Msg,szMs l<=n->dMs l<=szMs l:=i2;have h4:∀l:List Vlu,szVs l<=n->dVs l<=szVs l:=i4;have k1:∀x:Msg,szM x<=n+1->dM x<szM x:=fun x h=>by rw [zcy] at h|-;rw [zAg];have:=h4 x.Values (by omega);omega
  have k3:∀v:Vlu,szV v<=n+1->dV v<szV v:=fun v h=>by rw [zfR] at h|-;rw [zGg];have:=h2 v.Subs (by omega);omega
  refine ⟨k1,fun l=>?_,k3,fun l=>?_⟩
  ·induction l with
   | nil=>intro _;simp [dMs]
   | cons x l ih=>intro h;rw [szMs] at h|-;rw [dMs];have:=ih (by omega);have:=k1 x (by omega);omega
  ·induction l with
   | nil=>intro _;simp [dVs]
   | cons x l ih=>intro h;rw [szVs] at h|-;rw [dVs];have:=ih (by omega);have:=k3 x (by omega);omega
theorem zCZ (x:Msg):dM x<szM x:=(zIO (szM x)).1 x (xC _)
theorem zGY:∀(fuel:Nat) (x:Msg) (most:Nat),szM x<fuel->bdM x->dM x<=most->most<=1048576->zid fuel x most=some ((dM x:Nat):Int)
 | 0,x,_,h,_,_,_=>by omega
 | fuel+1,x,most,hs,hb,hd,hm=>by
  obtain ⟨b1,_,b4⟩:=(zdK x).1 hb;rw [zcy] at hs;rw [zAg] at hd|-;show zlD (zid fuel) x most=_;unfold zlD;have inner:∀(v:Vlu),v∈x.Values->∀(c i d:Nat),i+c=v.Subs.length->d<=most->zjm most (zid fuel) v d i=some (.inl ((max d (dMs (v.Subs.drop i)):Nat):Int)):=by
   intro v hv c;have hsz:=zdE hv;have hdv:=zxo hv;obtain ⟨_,_,_,c1,c2⟩:=(zeP _).1 (zcF.1 b4 _ hv);rw [zfR] at hsz;rw [zGg] at hdv
   induction c with
   | zero=>
    intro i d hi hdm;have e:v.Subs.drop i=[]:=yg (by omega);rw [e,dMs];refine zvv ?_;unfold zeY;rw [uN,Nat.max_zero]
   | succ c ih=>
    intro i d hi hdm;have hil:i<v.Subs.length:=by omega
    have hm2:=xD hil;have s2:=zfh hm2;have d2:=zGf hm2;rw [xS hil,dMs];have hr:=zGY fuel v.Subs[i] (most - 1) (by omega) (zdz.1 c2 _ hm2) (by omega) (by omega);have hmost:IntKind.i64.wrap ((most:Int) - 1)=((most - 1:Nat):Int):=by rw [uO];omega
    have hw:IntKind.i64.wrap (1+((dM v.Subs[i]:Nat):Int))=1+((dM v.Subs[i]:Nat):Int):=by rw [uO]
    have hmax:(if (d:Int)<1+((dM v.Subs[i]:Nat):Int) then 1+((dM v.Subs[i]:Nat):Int) else (d:Int))=((max d (1+dM v.Subs[i]):Nat):Int):=by
     split<;>omega
    refine (zvu (deep3':=((max d (1+dM v.Subs[i]):Nat):Int)) (v3':=((i+1:Nat):Int)) ?_).trans ?_
    ·unfold zeY;rw [uM,zI rfl hil,sb,uN,hmost,hr,sb,hw,hmax,uN,uO];push_cast;rfl
    ·rw [ih (i+1) (max d (1+dM v.Subs[i])) (by omega) (by omega)];congr 3;omega
  have outer:∀(c i d:Nat),i+c=x.Values.length->d<=most->zjl most (zid fuel) x d i=some (.inl ((max d (dVs (x.Values.drop i)):Nat):Int)):=by
   intro c
   induction c with
   | zero=>
    intro i d hi hdm;have e:x.Values.drop i=[]:=yg (by omega);rw [e,dVs];refine zvt ?_;unfold zeX;rw [uN,Nat.max_zero]
   | succ c ih=>
    intro i d hi hdm;have hil:i<x.Values.length:=by omega
    have hmem:=xD hil;have hdv:=zxo hmem;rw [xS hil,dVs];have h2:=inner x.Values[i] hmem (x.Values[i]).Subs.length 0 d (xH _) hdm;rw [xW,<-zGg] at h2;have h2':zjm most (zid fuel) x.Values[i] d 0=_:=h2;refine (zvs (deep':=((max d (dV x.Values[i]):Nat):Int)) (v':=((i+1:Nat):Int)) ?_).trans ?_
    ·unfold zeX;rw [uM,zI rfl hil,sb,h2',sb,uO];push_cast;rfl
    ·rw [ih (i+1) (max d (dV x.Values[i])) (by omega) (by omega)];congr 3;omega
  have h:=outer x.Values.length 0 0 (xH _) (xF _);have h':zjl most (zid fuel) x 0 0=_:=h;rw [h',sb,xW,Nat.zero_max]
theorem zIf (hf:szM x<fuel) (hb:bdM x) (hd:dM x<=131072):zof fuel x=some ((dM x:Nat):Int):=by
 unfold zof;have h:=zGY fuel x 131072 hf hb hd (by omega);have h':zid fuel x 131072=_:=h;rw [h',sb]
theorem zzp (hf:szM x<fuel) (hb:bdM x) (hd:dM x<=131072):zmh fuel x=some true:=by
 unfold zmh;rw [zIf hf hb hd,sb];congr 1;simp;omega
section
open Classical
end
theorem zEP (h:a.length*80<=140737488355328):zby a=some a:=by
 unfold zby;have h1:(app 80 ([]:List Vlu) a>>=fun v=>some v)=some a:=by rw [zga (by simp;omega),sb,xV]
 cases a with
 | nil=>exact zrB rfl h1
 | cons=>exact h1
theorem zEO (h:a.length*48<=140737488355328):zck a=some a:=by
 unfold zck;have h1:(app 48 ([]:List Msg) a>>=fun v=>some v)=some a:=by rw [zga (by simp;omega),sb,xV]
 cases a with
 | nil=>exact zrB rfl h1
 | cons=>exact h1
theorem zAd (h:a.length*16<=140737488355328):zcc a=some a:=by
 unfold zcc;have h1:(app 16 ([]:List Str) a>>=fun v=>some v)=some a:=by rw [zga (by simp;omega),sb,xV]
 cases a with
 | nil=>exact zrB rfl h1
 | cons=>exact h1
theorem zHk (h:a.length*8<=140737488355328):zcS a=some a:=by
 unfold zcS;have h1:(app 8 ([]:List Int) a>>=fun v=>some v)=some a:=by rw [zga (by simp;omega),sb,xV]
 cases a with
 | nil=>exact zrB rfl h1
 | cons=>exact h1
theorem zzg {α:Type}:∀(l:List α) (i:Nat) (h:i<l.length),l.set i l[i]=l
 | [],i,h=>by simp at h
 | x::l,0,h=>rfl
 | x::l,i+1,h=>by simp only [List.set_cons_succ,pQ];rw [zzg l i (by simpa using h)]
theorem zGX:∀(fuel:Nat),(∀x:Msg,szM x<fuel->bdM x->ziJ fuel x=some x)/\∀v:Vlu,szV v<fuel->bdV v->zgQ fuel v=some v
 | 0=>⟨fun x h=>by omega,fun v h=>by omega⟩
 | fuel+1=>by
  obtain ⟨ih1,ih2⟩:=zGX fuel;refine ⟨fun x hs hb=>?_,fun v hs hb=>?_⟩
  ·obtain ⟨b1,⟨b2,b3⟩,b4⟩:=(zdK x).1 hb;rw [zcy] at hs;show zkG (ziJ fuel) (zgQ fuel) x=_;unfold zkG;have hloop:∀(c i:Nat),i+c=x.Values.length->zix (zgQ fuel) x.Values x.Values i=some x.Values:=by
    intro c
    induction c with
    | zero=>
     intro i hi;refine zur ?_;unfold zem;rw [uN]
    | succ c ih=>
     intro i hi;have hil:i<x.Values.length:=by omega
     have hm:=xD hil;have:=zdE hm;refine (zuq (v':=x.Values) (v2':=((i+1:Nat):Int)) ?_).trans (ih (i+1) (by omega));unfold zem;rw [uM,zI rfl hil,sb,ih2 _ (by omega) (zcF.1 b4 _ hm),sb,sb,uO,yk,zzg _ _ hil];push_cast;rfl
   have h:=hloop x.Values.length 0 (xH _);have h':zix (zgQ fuel) x.Values x.Values 0=_:=h;rw [zEP (by omega),sb,zAd (by omega),sb,h',sb];cases x;rfl
  ·obtain ⟨b0,⟨b1,_⟩,⟨b2,b3⟩,b4,b5⟩:=(zeP v).1 hb;rw [zfR] at hs;show zhg (ziJ fuel) (zgQ fuel) v=_;unfold zhg;have hloop:∀(c i:Nat),i+c=v.Subs.length->zfr (ziJ fuel) v.Subs v.Subs i=some v.Subs:=by
    intro c
    induction c with
    | zero=>
     intro i hi;refine zqi ?_;unfold zcj;rw [uN]
    | succ c ih=>
     intro i hi;have hil:i<v.Subs.length:=by omega
     have hm:=xD hil;have:=zfh hm;refine (zqh (v2':=v.Subs) (v3':=((i+1:Nat):Int)) ?_).trans (ih (i+1) (by omega));unfold zcj;rw [uM,zI rfl hil,sb,ih1 _ (by omega) (zdz.1 b5 _ hm),sb,sb,uO,yk,zzg _ _ hil];push_cast;rfl
   have h:=hloop v.Subs.length 0 (xH _);have h':zfr (ziJ fuel) v.Subs v.Subs 0=_:=h;rw [zHk (by omega),sb,zAd (by omega),sb,zEO (by omega),sb,h',sb];cases v;rfl
theorem zvr (hf:szM x<fuel) (hb:bdM x) (hd:dM x<=131072):zjZ fuel x=some x:=by
 unfold zjZ;rw [zzp hf hb hd,sb,itF (by rfl),(zGX fuel).1 x hf hb,sb]
theorem zLD {fuel:Nat} {x:Msg} (n:Int) (hf:szM x<fuel) (hb:bdM x) (hd:dM x<=131072):zsE fuel x n=some (zym x n):=by
 obtain ⟨b1,⟨b2,b3⟩,b4⟩:=(zdK x).1 hb;rw [zcy] at hf;rw [zAg] at hd;unfold zsE
 have key:∀(c i:Nat),i+c=x.Values.length->zlg fuel n x i=some (match (x.Values.drop i).find? (fun v=>v.Number==n) with
   | none=> .inl ()
   | some v=> .inr (true,v.Number,v.Words,v.Texts,v.Subs)):=by
  intro c
  induction c with
  | zero=>
   intro i hi;have e:x.Values.drop i=[]:=yg (by omega);rw [e];refine zrc ?_;unfold zgh;rw [uN];rfl
  | succ c ih=>
   intro i hi;have hil:i<x.Values.length:=by omega
   have hm:=xD hil;have s1:=zdE hm;have d1:=zxo hm;have hbv:=zcF.1 b4 _ hm;rw [xS hil,List.find?_cons]
   generalize hv:x.Values[i]=v at hm s1 d1 hbv|-
   have hx:idx x.Values (i:Int)=some v:=by rw [zI rfl hil,hv]
   by_cases hp:v.Number=n
   ·have hc:zjZ fuel (⟨[v],[]⟩:Msg)=some ⟨[v],[]⟩:=zvr (by rw [zcy];simp only [szVs];omega) ((zdK _).2 ⟨by simp,⟨by simp,by simp⟩,by rw [bdVs,bdVs];exact ⟨hbv,trivial⟩⟩) (by rw [zAg];simp only [dVs];omega);have hp':(v.Number==n)=true:=by simpa using hp
    rw [hp'];refine zrc ?_;unfold zgh;rw [uM,hx,sb,itT hp',hc,sb];rfl
   ·have hp':(v.Number==n)=false:=by simpa using hp
    rw [hp'];refine (zxg (v':=((i+1:Nat):Int)) ?_).trans (ih (i+1) (by omega));unfold zgh;rw [uM,hx,sb,itF hp',uO];push_cast;rfl
 have h:=key x.Values.length 0 (xH _);have h':zlg fuel n x 0=_:=h;rw [h',sb,xW];unfold zym getM;cases hf':x.Values.findIdx? (fun v:Vlu=>v.Number==n) with
 | none=>
  have:x.Values.find? (fun v:Vlu=>v.Number==n)=none:=by
   rw [q6] at hf';rw [ut];intro v hv;simp [hf' v hv]
  rw [ziF hf',this,xx (by decide)]
 | some k=>
  rw [ziG hf',xw (by omega)];rw [qH] at hf';obtain ⟨hk,hp,hlt⟩:=hf';have:x.Values.find? (fun v:Vlu=>v.Number==n)=some x.Values[k]:=by
   rw [uH];exact ⟨hp,k,hk,rfl,fun j hj=>by simpa using hlt j hj⟩
  rw [this];have e:x.Values.getD ((k:Int)).toNat ⟨0,[],[],[]⟩=x.Values[k]:=by simp [List.getD_eq_getElem?_getD,hk]
  rw [e]
  generalize x.Values[k]=v
  cases v;rfl
end Go.Proofs.YtekgmimingolbaaGreat
