/-
  What the plain functions are. No condition.
-/
import Derived.Test.YtnckiilakdkklaaGreatx1S1
import Derived.Test.YtnckiilakdkklaaGreatx1K2
import Derived.Test.YtnckiilakdkklaaGreatx1K3
set_option autoImplicit true
set_option relaxedAutoImplicit true
namespace Go.Proofs.YtnckiilakdkklaaGreat
open Go.IntKind (i64 u64)
open Go
set_option linter.unusedVariables false
theorem zFw (k:IntKind) (a b:Int):orI k a b=bits .or k a b:=rfl
theorem zzD (w:Int):zir w=some (w%4294967296):=by unfold zir;rw [zAA]
theorem zDY (w:Int):ziQ w=some (sgnS w):=by
 unfold ziQ;rw [zzD,sb,zEq];unfold sgnS;congr 1;split<;>split<;>omega
theorem zEn (h: -2147483648<=n/\n<=2147483647):ziR n=some (zpO n):=by
 unfold ziR;rw [ue,wrap_u64];unfold zpO;congr 1;split<;>omega
theorem zBF (h:0<=w/\w<=18446744073709551615):zdX w=some (sgnS w):=by
 unfold zdX;rw [yD h.1,zo (x:=w%4294967296) (by omega)];unfold sgnS;by_cases h2:w%4294967296<2147483648
 ·rw [ud,xn h2]
 ·rw [uc,xm h2,ue]
theorem zFM (h: -9223372036854775808<=n/\n<=9223372036854775807):zeM n=some (zpO n):=by
 unfold zeM zpO;by_cases h0:0<=n
 ·rw [uc,xn h0,wrap_u64,qo (by omega) (by omega)]
 ·rw [ud,xm h0];simp (disch:=omega) only [zo,wrap_u64];congr 1;omega
theorem zxh {l:List UInt8} {j:Nat} (h:j<l.length):l.take (j+1)=l.take j++[l[j]]:=by rw [pi,xE h];rfl
theorem zEp {v:List UInt8} (hv:v.length<=8):∀(d j:Nat),j+d=v.length->zgJ v ((word (v.take j):Nat):Int) (j:Int)=some ((word v:Nat):Int):=by
 intro d
 induction d with
 | zero=>
  intro j hj;refine zrH ?_;unfold zfG;rw [ud,yI (by omega)]
 | succ d ih=>
  intro j hj;have hl:(v.take j).length=j:=by simp;omega
  have hw:=ztL (v.take j);rw [hl] at hw;refine (zrG (wv':=((word (v.take (j+1)):Nat):Int)) (v2':=((j+1:Nat):Int)) ?_).trans (ih (j+1) (by omega));unfold zfG;have hc:=(v[j]'(by omega)).toNat_lt;have e1:i64.wrap (8*(j:Int))=((8*j:Nat):Int):=by rw [ue];push_cast;rfl
  have e2:shlI .u64 (u64.wrap ((v[j]'(by omega)).toNat:Int)) ((8*j:Nat):Int)=u64.wrap (((v[j]'(by omega)).toNat:Int)*2^(8*j)):=by
   unfold shlI;rw [xB,yW (by simp [IntKind.bits];omega),wrap_u64 ((v[j]'(by omega)).toNat:Int),qo (by omega) (by omega)]
  rw [uc,zS rfl (show j<v.length by omega),sb,e1,zAg,sb,e2,zFw,zHK _ _ _ (by omega) (by omega) hw,zxh (show j<v.length by omega),zsy,hl,ue];rfl
theorem zHJ (b:List UInt8):zlI b=some ((word (b.take 8):Nat):Int):=by
 unfold zlI;have e:(if (8:Int)<(b.length:Int) then (8:Int) else (b.length:Int))=((min 8 b.length:Nat):Int):=by split<;>omega
 have e2:b.take (min 8 b.length)=b.take 8:=by rw [pL];omega
 rw [e,zqy rfl (by omega),sb,e2];have h:=zEp (v:=b.take 8) (by simp;omega) (b.take 8).length 0 (by omega);have h':zgJ (b.take 8) 0 0=some ((word (b.take 8):Nat):Int):=h;rw [h',sb]
theorem zBG {b:List UInt8} (hb:b.length<=1152921504606846976):∀(d j:Nat),j+d=min 8 b.length->zcC b ((word (b.take j):Nat):Int) ((256^j%18446744073709551616:Nat):Int) (j:Int)=some ((word (b.take 8):Nat):Int):=by
 intro d
 induction d with
 | zero=>
  intro j hj;refine zlm ?_;unfold zbF;have e:b.take j=b.take 8:=by rw [pL];omega
  rw [ud,e]
 | succ d ih=>
  intro j hj;have hl:(b.take j).length=j:=by simp;omega
  have hw:=ztL (b.take j);rw [hl] at hw;refine (zll (wv':=((word (b.take (j+1)):Nat):Int)) (place':=((256^(j+1)%18446744073709551616:Nat):Int)) (i':=((j+1:Nat):Int)) ?_).trans (ih (j+1) (by omega));unfold zbF;have hc:=(b[j]'(by omega)).toNat_lt;rw [uc,zS rfl (show j<b.length by omega),sb,wrap_u64 ((b[j]'(by omega)).toNat:Int),qo (by omega) (by omega),zGv _ _ _ (by omega) (by omega) hw,zxh (show j<b.length by omega),zsy,hl,ue,<-zBv];rfl
theorem zFN {b:List UInt8} (hb:b.length<=1152921504606846976):zeN b=some ((word (b.take 8):Nat):Int):=by
 unfold zeN;have h:=zBG hb (min 8 b.length) 0 (by omega);have h':zcC b 0 1 0=some ((word (b.take 8):Nat):Int):=h;rw [h',sb]
def zbY (k:Int):Bool:=decide (1<=k/\k<=17)
def kNum (k:Int):Bool:=decide (1<=k/\k<=14)
def zcv (k:Int):Int:=if 15<=k then 2 else if 12<=k then 1 else if 9<=k then 5 else 0
def zeZ (k w:Int):Int:=
 if k=1\/k=8 then zpO (sgnS w) else if k=3\/k=5\/k=9\/k=10\/k=11 then w%4294967296 else if k=7 then (if 0<w then 1 else 0) else w
theorem zre (k:Int):zdz k=some (zbY k):=by unfold zdz zbY;simp [Bool.decide_and]
theorem zkn (k:Int):zba k=some (kNum k):=by unfold zba kNum;simp [Bool.decide_and]
theorem zsR (k:Int):zcY k=some (zcv k):=by
 unfold zcY zcv;by_cases h1:15<=k
 ·rw [itT (by simpa using h1),xn h1]
 ·rw [itF (by simpa using h1),xm h1];by_cases h2:12<=k
  ·rw [itT (by simpa using h2),xn h2]
  ·rw [itF (by simpa using h2),xm h2];by_cases h3:9<=k
   ·rw [itT (by simpa using h3),xn h3]
   ·rw [itF (by simpa using h3),xm h3]
theorem zsP (k:Int) (h:0<=w/\w<=18446744073709551615):zdy k w=some (zeZ k w):=by
 have hs:=zyv w;unfold zdy zeZ;by_cases h1:k=1\/k=8
 ·rw [xn h1];have e:(if (k==1)=true then some (k==1) else some (k==8))=some true:=by rcases h1 with rfl| rfl<;>rfl
  rw [e,sb,itT rfl,zBF h,sb,zFM (by omega),sb]
 ·rw [xm h1];have e:(if (k==1)=true then some (k==1) else some (k==8))=some false:=by rw [ud];simp;omega
  rw [e,sb,itF rfl];by_cases h2:k=3\/k=5\/k=9\/k=10\/k=11
  ·rw [xn h2];have e2:(if (k==3)=true then some (k==3) else if (k==5)=true then some (k==5) else if (k==9)=true then some (k==9) else if (k==10)=true then some (k==10) else some (k==11))=some true:=by
    rcases h2 with rfl| rfl| rfl| rfl| rfl<;>rfl
   rw [e2,sb,itT rfl,yD h.1]
  ·rw [xm h2];have e2:(if (k==3)=true then some (k==3) else if (k==5)=true then some (k==5) else if (k==9)=true then some (k==9) else if (k==10)=true then some (k==10) else some (k==11))=some false:=by
    rw [ud,ud,ud,ud];simp;omega
   rw [e2,sb,itF rfl];by_cases h7:k=7
   ·rw [itT (by simpa using h7),xn h7];by_cases h0:0<w
    ·rw [itT (by simpa using h0),xn h0]
    ·rw [itF (by simpa using h0),xm h0]
   ·rw [itF (by simpa using h7),xm h7]
theorem zqv (k:Int) (h:0<=w/\w<=18446744073709551615):0<=zeZ k w/\zeZ k w<=18446744073709551615:=by
 have hs:=zyv w;unfold zeZ;split
 ·exact zHH (by omega)
 ·split
  ·omega
  ·split
   ·split<;>omega
   ·exact h
theorem zsE (k:Int) {w:Int} (h:0<=w/\w<=18446744073709551615):zeZ k (zeZ k w)=zeZ k w:=by
 have hs:=zyv w;unfold zeZ;by_cases h1:k=1\/k=8
 ·simp only [xn h1];rw [zFQ hs]
 ·simp only [xm h1];by_cases h2:k=3\/k=5\/k=9\/k=10\/k=11
  ·simp only [xn h2];omega
  ·simp only [xm h2];by_cases h7:k=7
   ·simp only [xn h7];split<;>simp
   ·simp only [xm h7]
abbrev Fld:=zd
abbrev Mes:=ze
def zjZ {α:Type} (p:α->Bool) (l:List α):Int:=match l.findIdx? p with
 | some i=>(i:Int)
 | none=> -1
theorem zkS {α:Type} {p:α->Bool} {l:List α} (h:l.findIdx? p=none):zjZ p l= -1:=by unfold zjZ;rw [h]
theorem zkT {α:Type} {p:α->Bool} {l:List α} {i:Nat} (h:l.findIdx? p=some i):zjZ p l=(i:Int):=by unfold zjZ;rw [h]
theorem zoP {α:Type} (p:α->Bool) (l:List α) (F:Int->Option (Unit⊕Int)) (h0:F (l.length:Int)=some (.inl ())) (hs:∀(i:Nat) (h:i<l.length),F (i:Int)=if p l[i] then some (.inr (i:Int)) else F ((i+1:Nat):Int)):
  ∀(d i:Nat),i+d=l.length->(∀j (h:j<l.length),j<i->p l[j]=false)->F (i:Int)=some (match l.findIdx? p with| some k=> .inr (k:Int)| none=> .inl ()):=by
 intro d
 induction d with
 | zero=>
  intro i hi hj;have:i=l.length:=by omega
  subst this;have hn:l.findIdx? p=none:=by
   rw [qP];intro x hx;obtain ⟨j,hj',rfl⟩:=qV hx
   grind
  rw [h0,hn]
 | succ d ih=>
  intro i hi hj;have hil:i<l.length:=by omega
  rw [hs i hil];by_cases hp:p l[i]=true
  ·have hf:l.findIdx? p=some i:=by
    rw [pj]
    grind
   grind
  ·rw [xm hp];refine ih (i+1) (by omega) fun j h hji=>?_
   grind
def fldI (m:Mes) (number:Int):Int:=zjZ (fun f:Fld=>f.Number==number) m.Fields
theorem zsQ (hm:m.Fields.length<=1152921504606846976) (number:Int):zdA m number=some (fldI m number):=by
 unfold zdA fldI;have h:=zoP (fun f:Fld=>f.Number==number) m.Fields (fun i=>zds m number i) (by
   refine zgW ?_;unfold zby;rw [p9])
  (fun i hi=>by
   have hb:zby m number i=if ((m.Fields[i]).Number==number)=true then some (.inr (.inr (i:Int))) else some (.inl ((i+1:Nat):Int)):=by
    grind [zby,sb,zo,zS]
   by_cases hp:((m.Fields[i]).Number==number)=true
   ·rw [xn hp] at hb|-;exact zgW hb
   ·rw [xm hp] at hb|-;exact zkK hb)
  m.Fields.length 0 (by omega) (fun j _ hj=>by omega)
 grind [zjZ,sb]
def nmc (i:Nat) (c:UInt8):Bool:=decide (65<=c.toNat/\c.toNat<=90\/97<=c.toNat/\c.toNat<=122\/c.toNat=95\/0<i/\48<=c.toNat/\c.toNat<=57)
def nmA:Nat->List UInt8->Bool
 | _,[]=>true
 | i,c::l=>nmc i c&&nmA (i+1) l
def zeE (s:List UInt8):Bool:=nmA 0 s&&decide (1<=s.length/\s.length<=60)
theorem zfI {α:Type} {l t:List α} {x:α} {k:Nat} (h:l.drop k=x::t):∃hk:k<l.length,l[k]=x/\l.drop (k+1)=t:=by
 have hk:k<l.length:=by
  rcases yN k l.length with h'| h'
  ·exact h'
  ·rw [yu h'] at h;cases h
 rw [yd hk] at h
 grind
theorem zgK {α:Type} {l:List α} {k:Nat} (h:l.drop k=[]):l.length<=k:=by have:=congrArg List.length h;simp at this;omega
theorem zDG (s:List UInt8) (hs:s.length<=1152921504606846976):∀(l:List UInt8) (i:Nat),s.drop i=l->zcI s i=some (if nmA i l=true then .inl () else .inr ()):=by
 intro l
 induction l with
 | nil=>
  intro i hd;have:=zgK hd;refine zhc ?_;unfold zbI;rw [ud];rfl
 | cons c l ih=>
  intro i hd;obtain ⟨hk,hx,hd'⟩:=zfI hd;have hb:zbI s i=if nmc i c=true then some (.inl ((i+1:Nat):Int)) else some (.inr (.inr ())):=by
   unfold zbI;rw [uc,zS rfl hk,sb,hx,ue];have e:(if (decide ((c.toNat:Int)>=65)) then ((decide ((c.toNat:Int)<=90))|| (if (decide ((c.toNat:Int)>=97)) then ((decide ((c.toNat:Int)<=122))|| (((c.toNat:Int)==95)|| ((decide ((i:Int)>0))&&((decide ((c.toNat:Int)>=48))&&(decide ((c.toNat:Int)<=57)))))) else (((c.toNat:Int)==95)|| ((decide ((i:Int)>0))&&((decide ((c.toNat:Int)>=48))&&(decide ((c.toNat:Int)<=57))))))) else (if (decide ((c.toNat:Int)>=97)) then ((decide ((c.toNat:Int)<=122))|| (((c.toNat:Int)==95)|| ((decide ((i:Int)>0))&&((decide ((c.toNat:Int)>=48))&&(decide ((c.toNat:Int)<=57)))))) else (((c.toNat:Int)==95)|| ((decide ((i:Int)>0))&&((decide ((c.toNat:Int)>=48))&&(decide ((c.toNat:Int)<=57)))))))=nmc i c:=by
    have e95:((c.toNat:Int)==95)=decide (c.toNat=95):=zqt _ 95;have a1:decide ((c.toNat:Int)>=65)=decide (65<=c.toNat):=yY.2 (by omega);have a2:decide ((c.toNat:Int)<=90)=decide (c.toNat<=90):=yY.2 (by omega);have a3:decide ((c.toNat:Int)>=97)=decide (97<=c.toNat):=yY.2 (by omega);have a4:decide ((c.toNat:Int)<=122)=decide (c.toNat<=122):=yY.2 (by omega);have a5:decide ((i:Int)>0)=decide (0<i):=yY.2 (by omega);have a6:decide ((c.toNat:Int)>=48)=decide (48<=c.toNat):=yY.2 (by omega);have a7:decide ((c.toNat:Int)<=57)=decide (c.toNat<=57):=yY.2 (by omega);rw [e95,a1,a2,a3,a4,a5,a6,a7];simp only [nmc,Bool.decide_or,Bool.decide_and]
    grind
   grind
  rw [nmA];cases hc:nmc i c
  ·rw [hc,xm (by simp)] at hb;rw [zhc hb];rfl
  ·rw [hc,xn rfl] at hb;rw [zlt hb,ih _ hd',yV]
theorem zuZ (hs:s.length<=1152921504606846976):zdP s=some (zeE s):=by
 unfold zdP zeE;have h:=zDG s hs s 0 rfl;have h':zcI s 0=_:=h;rw [h',sb];cases nmA 0 s
 ·rfl
 ·simp [Bool.decide_and]
  grind
def zco (n:Int) (prev:List Fld) (f:Fld):Int:=
 if zeE f.Name=false then 5 else if prev.any (fun g=>g.Name==f.Name)=true then 6
 else if f.Number<1\/f.Number>536870911\/(19000<=f.Number/\f.Number<20000) then 7
 else if prev.any (fun g=>g.Number==f.Number)=true then 8 else if zbY f.Kind=false then 9
 else if f.Packed=true/\¬(f.Repeated=true/\kNum f.Kind=true) then 10
 else if f.Kind=17/\(f.Of<0\/f.Of>=n)\/f.Kind≠17/\f.Of≠0 then 11 else 0
theorem zue (n:Int) (prev:List Fld) (f:Fld):0<=zco n prev f/\zco n prev f<=11:=by
 unfold zco;omega
theorem zAT {s:List Mes} {i k:Nat} {m:Mes} (hi:∃h:i<s.length,s[i]=m) (hk:k<=m.Fields.length) (hb:m.Fields.length<=1152921504606846976) (f:Fld):
  ∀(l:List Fld) (j:Nat) (a b:Bool),(m.Fields.take k).drop j=l->j<=k->zcm i k s f a b j=some (a|| l.any (fun g=>g.Name==f.Name),b|| l.any (fun g=>g.Number==f.Number)):=by
 obtain ⟨hi,hm⟩:=hi;intro l
 induction l with
 | nil=>
  intro j a b hd hj;have:=zgK hd;rw [xO] at this;refine zkJ ?_;unfold zbx
  grind
 | cons g l ih=>
  intro j a b hd hj;obtain ⟨hjk,hx,hd'⟩:=zfI hd;rw [xO] at hjk;rw [List.getElem_take] at hx;refine (zkI (name':=a|| (g.Name==f.Name)) (number':=b|| (g.Number==f.Number)) (j':=((j+1:Nat):Int)) ?_).trans ?_
  ·unfold zbx;have e1:idx s (i:Int)=some m:=by rw [zS rfl hi,hm]
   grind [zS,sb,zo]
  ·rw [ih _ _ _ hd' (by omega),qD,qD,pM,pM]
theorem zzS {s:List Mes} {i k:Nat} {m:Mes} {f:Fld} (hi:∃h:i<s.length,s[i]=m) (hk:∃h:k<m.Fields.length,m.Fields[k]=f) (hb:m.Fields.length<=1152921504606846976) (hf:f.Name.length<=1152921504606846976):
  zeo s i k=some (zco s.length (m.Fields.take k) f):=by
 obtain ⟨hil,hm⟩:=hi;obtain ⟨hkl,hfe⟩:=hk;have e1:idx s (i:Int)=some m:=by rw [zS rfl hil,hm]
 have e2:idx m.Fields (k:Int)=some f:=by rw [zS rfl hkl,hfe]
 have h:=zAT ⟨hil,hm⟩ (Nat.le_of_lt hkl) hb f (m.Fields.take k) 0 false false rfl (xx _);have h':zcm i k s f false false 0=_:=h;unfold zeo zco;rw [e1,sb,e2,sb,h',sb,zuZ hf,sb];simp only [pN];cases h1:zeE f.Name
 ·rfl
 ·rw [p8,xm (show ¬(true=false) by simp)];cases h2:(m.Fields.take k).any (fun g=>g.Name==f.Name)
  ·rw [p8,xm (show ¬(false=true) by simp)];by_cases h3:f.Number<1\/f.Number>536870911\/(19000<=f.Number/\f.Number<20000)
   ·grind
   ·rw [ud,xm h3];cases h4:(m.Fields.take k).any (fun g=>g.Number==f.Number)
    ·grind [zre,sb,zkn]
    rfl
  rfl
def msgF (n:Int) (prev:List Fld):List Fld->Option (Nat×Int)
 | []=>none
 | f::l=>if 0<zco n prev f then some (prev.length,zco n prev f) else msgF n (prev++[f]) l
def chkF (n:Int) (prev:List Mes):List Mes->Option (Nat×Int×Int)
 | []=>none
 | m::l=>if zeE m.Name=false then some (prev.length, -1,2) else if prev.any (fun g=>g.Name==m.Name)=true then some (prev.length, -1,3)
  else if 200<m.Fields.length then some (prev.length, -1,4) else match msgF n [] m.Fields with
   | some (k,w)=>some (prev.length,(k:Int),w)
   | none=>chkF n (prev++[m]) l
def zis (s:List Mes):Int×Int×Int:=if s.length=0\/100<s.length then (-1, -1,1) else match chkF s.length [] s with
 | none=>(0,0,0)
 | some (i,k,w)=>((i:Int),k,w)
def zqj (s:List Mes):Bool:=decide ((zis s).2.2=0)
def WS (s:List Mes):Prop:=s.length<=140737488351232/\∀m∈s,m.Name.length<=140737488351232/\m.Fields.length<=140737488351232/\∀f∈m.Fields,f.Name.length<=140737488351232
theorem zza {s:List Mes} {i:Nat} {m:Mes} (hi:∃h:i<s.length,s[i]=m) (hb:m.Fields.length<=140737488351232) (hn:∀f∈m.Fields,f.Name.length<=140737488351232):
  ∀(l:List Fld) (k:Nat),m.Fields.drop k=l->k<=m.Fields.length->zcl i s k=some (match msgF s.length (m.Fields.take k) l with| some (j,w)=> .inr ((j:Int),w)| none=> .inl ()):=by
 obtain ⟨hil,hm⟩:=hi;have e1:idx s (i:Int)=some m:=by rw [zS rfl hil,hm]
 intro l
 induction l with
 | nil=>
  intro k hd hk;have:=zgK hd;refine zgV ?_;unfold zbw;rw [e1,sb,ud];rfl
 | cons f l ih=>
  intro k hd hk;obtain ⟨hkl,hx,hd'⟩:=zfI hd;have hf:=zzS (s:=s) (i:=i) (k:=k) (m:=m) (f:=f) ⟨hil,hm⟩ ⟨hkl,hx⟩ (by omega) (by have:=hn f (by rw [<-hx];exact xy hkl);omega);have hbd:=zue s.length (m.Fields.take k) f;have htl:(m.Fields.take k).length=k:=by rw [xO];omega
  rw [msgF];by_cases h0:0<zco s.length (m.Fields.take k) f
  ·rw [xn h0];refine zgV ?_;unfold zbw
   grind
  ·rw [xm h0];refine (zkH (k2':=((k+1:Nat):Int)) ?_).trans ?_
   ·unfold zbw;rw [e1,sb,uc,hf,sb,ud,ue];push_cast;rfl
   grind
theorem zyZ (hi:∃h:i<s.length,s[i]=m) (hs:s.length<=140737488351232):
  ∀(l:List Mes) (k:Nat) (a:Bool),(s.take i).drop k=l->k<=i->zck i s a k=some (a|| l.any (fun g=>g.Name==m.Name)):=by
 obtain ⟨hil,hm⟩:=hi;intro l
 induction l with
 | nil=>
  intro k a hd hk;have:=zgK hd;rw [xO] at this;refine zkG ?_;unfold zbv
  grind
 | cons g l ih=>
  intro k a hd hk;obtain ⟨hkl,hx,hd'⟩:=zfI hd;rw [xO] at hkl;rw [List.getElem_take] at hx;refine (zkF (twice':=a|| (g.Name==m.Name)) (k':=((k+1:Nat):Int)) ?_).trans ?_
  ·grind [zbv,sb,zo,zS]
  ·rw [ih _ _ hd' (by omega),qD,pM]
theorem zyY (hw:WS s):∀(l:List Mes) (i:Nat),s.drop i=l->i<=s.length->zdr s i=some (match chkF s.length (s.take i) l with| some (j,k,w)=> .inr ((j:Int),k,w)| none=> .inl ()):=by
 intro l
 induction l with
 | nil=>
  intro i hd hi;have:=zgK hd;refine zca ?_;unfold zbu;rw [ud];rfl
 | cons m l ih=>
  intro i hd hi;obtain ⟨hil,hx,hd'⟩:=zfI hd;obtain ⟨hsl,hwm⟩:=hw;obtain ⟨w1,w2,w3⟩:=hwm m (by rw [<-hx];exact xy hil);have htl:(s.take i).length=i:=by rw [xO];omega
  have e1:idx s (i:Int)=some m:=by rw [zS rfl hil,hx]
  have h2:=zyZ ⟨hil,hx⟩ hsl (s.take i) 0 false rfl (xx _);have h2':zck i s false 0=_:=h2;have h3:=zza ⟨hil,hx⟩ w2 w3 m.Fields 0 rfl (xx _);have h3':zcl i s 0=_:=h3
  have hb:zbu s i=(if zeE m.Name=false then some (.inr (.inr ((i:Int), -1,2))) else if (s.take i).any (fun g=>g.Name==m.Name)=true then some (.inr (.inr ((i:Int), -1,3)))
    else if 200<m.Fields.length then some (.inr (.inr ((i:Int), -1,4))) else match msgF s.length [] m.Fields with
     | some (k,w)=>some (.inr (.inr ((i:Int),(k:Int),w)))
     | none=>some (.inl ((i+1:Nat):Int))):=by
   unfold zbu;rw [uc,h2',sb,e1,sb,zuZ (by omega),sb,sb,h3',sb,pN];cases h4:zeE m.Name
   ·rfl
   ·rw [p8,xm (show ¬(true=false) by simp)];cases h5:(s.take i).any (fun g=>g.Name==m.Name)
    ·rw [p8,xm (show ¬(false=true) by simp)];by_cases h6:200<m.Fields.length
     ·grind
     ·rw [ud,xm h6,yC];cases msgF s.length [] m.Fields with
      | none=>simp only;rw [ue];push_cast;rfl
      | some p=>rfl
    rfl
  rw [chkF];by_cases h4:zeE m.Name=false
  ·rw [xn h4] at hb|-;rw [zca hb];simp only [htl]
  ·rw [xm h4] at hb|-;by_cases h5:(s.take i).any (fun g=>g.Name==m.Name)=true
   ·rw [xn h5] at hb|-;rw [zca hb];simp only [htl]
   ·rw [xm h5] at hb|-;by_cases h6:200<m.Fields.length
    ·rw [xn h6] at hb|-;rw [zca hb];simp only [htl]
    ·rw [xm h6] at hb|-;cases h7:msgF s.length [] m.Fields with
     | some p=>
      rw [h7] at hb;rw [zca hb];simp only [htl]
     | none=>
      rw [h7] at hb;rw [zkE hb,ih _ hd' (by omega),pO hil,hx]
theorem zvS (hw:WS s):zen s=some (zis s):=by
 unfold zen zis;by_cases h:s.length=0\/100<s.length
 ·grind
 ·have e0:((s.length:Int)==0)=decide (s.length=0):=zqt _ 0;rw [e0,itF (by simp only [qm,pP];omega),xm h];have h1:=zyY hw s 0 rfl (xx _)
  grind
theorem zvU (hw:WS s):zep s=some (zqj s):=by
 unfold zep zqj;rw [zvS hw,sb];rfl
theorem zrZ :∀(l prev:List Fld),msgF n prev l=none↔∀(k:Nat) (f:Fld),l[k]? =some f->zco n (prev++l.take k) f=0
 | [],prev=>by simp [msgF]
 | f::l,prev=>by
  have hb:=zue n prev f;rw [msgF];by_cases h:0<zco n prev f
  ·rw [xn h];refine ⟨(fun h'=>nomatch h'),fun h'=>?_⟩;have:=h' 0 f rfl;simp at this;omega
  ·rw [xm h,zrZ l (prev++[f])];constructor
   ·intro h' k g hg;cases k with
    | zero=>simp at hg;subst hg;simp;omega
    | succ k=>have:=h' k g (by simpa using hg);simpa using this
   ·intro h' k g hg;have:=h' (k+1) g (by simpa using hg);simpa using this
theorem zwo :∀(l prev:List Mes),chkF n prev l=none↔∀(i:Nat) (m:Mes),l[i]? =some m->zeE m.Name=true/\(prev++l.take i).any (fun g=>g.Name==m.Name)=false/\m.Fields.length<=200/\msgF n [] m.Fields=none
 | [],prev=>by simp [chkF]
 | m::l,prev=>by
  rw [chkF];by_cases h1:zeE m.Name=false
  ·rw [xn h1];refine ⟨(fun h'=>nomatch h'),fun h'=>?_⟩;have:=(h' 0 m rfl).1;rw [h1] at this;cases this
  ·rw [xm h1];by_cases h2:prev.any (fun g=>g.Name==m.Name)=true
   ·rw [xn h2];refine ⟨(fun h'=>nomatch h'),fun h'=>?_⟩;have:=(h' 0 m rfl).2.1;simp only [yC,yl] at this;rw [h2] at this;cases this
   ·rw [xm h2];by_cases h3:200<m.Fields.length
    ·rw [xn h3];refine ⟨(fun h'=>nomatch h'),fun h'=>?_⟩;have:=(h' 0 m rfl).2.2.1;omega
    ·rw [xm h3];cases h4:msgF n [] m.Fields with
     | some p=>
      refine ⟨(fun h'=>nomatch h'),fun h'=>?_⟩;have:=(h' 0 m rfl).2.2.2;rw [h4] at this;cases this
     | none=>
      simp only;rw [zwo l (prev++[m])];constructor
      ·intro h' i g hg;cases i with
       | zero=>simp at hg;subst hg;exact ⟨by simpa using h1,by simpa using h2,by omega,h4⟩
       | succ i=>have:=h' i g (by simpa using hg);simpa using this
      ·intro h' i g hg;have:=h' (i+1) g (by simpa using hg);simpa using this
theorem zHi:∀(n:Int) (l prev:List Fld) (k:Nat) (w:Int),msgF n prev l=some (k,w)->0<w:=by
 intro n l
 induction l with
 | nil=>intro prev k w h;cases h
 | cons f l ih=>
  intro prev k w h;rw [msgF] at h
  grind
theorem zBY:∀(n:Int) (l prev:List Mes) (i:Nat) (k w:Int),chkF n prev l=some (i,k,w)->0<w:=by
 intro n l
 induction l with
 | nil=>intro prev i k w h;cases h
 | cons m l ih=>
  intro prev i k w h;rw [chkF] at h;split at h
  ·cases h;omega
  ·split at h
   ·cases h;omega
   ·split at h
    ·cases h;omega
    ·split at h
     ·rename_i k' w' h';cases h;exact zHi _ _ _ _ _ h'
     grind
structure zHO (n:Int) (f:Fld):Prop where
 name:zeE f.Name=true
 lo:1<=f.Number
 hi:f.Number<=536870911
 kind:zbY f.Kind=true
 packed:f.Packed=true->f.Repeated=true/\kNum f.Kind=true
 sub:f.Kind=17->0<=f.Of/\f.Of<n
 noSub:f.Kind≠17->f.Of=0
theorem zuf (h:zco n prev f=0):zHO n f/\prev.any (fun g=>g.Name==f.Name)=false/\prev.any (fun g=>g.Number==f.Number)=false:=by
 unfold zco at h;split at h
 ·omega
 ·rename_i h1;split at h
  ·omega
  ·rename_i h2;split at h
   ·omega
   ·rename_i h3;split at h
    ·omega
    ·rename_i h4;split at h
     ·omega
     ·rename_i h5;split at h
      ·omega
      ·rename_i h6;split at h
       ·omega
       ·rename_i h7;refine ⟨⟨by simpa using h1,by omega,by omega,by simpa using h5,fun hp=>?_,fun hk=>by omega,fun hk=>by omega⟩,by simpa using h2,by simpa using h4⟩
        grind
structure zgh (s:List Mes):Prop where
 len:1<=s.length/\s.length<=100
 name:∀m∈s,zeE m.Name=true
 names:∀(i j:Nat) (a b:Mes),i<j->s[i]? =some a->s[j]? =some b->a.Name≠b.Name
 few:∀m∈s,m.Fields.length<=200
 fld:∀m∈s,∀f∈m.Fields,zHO s.length f
 nums:∀m∈s,∀(i j:Nat) (f g:Fld),i<j->m.Fields[i]? =some f->m.Fields[j]? =some g->f.Number≠g.Number/\f.Name≠g.Name
theorem zDT {s:List Mes} (h:zqj s=true):zgh s:=by
 have h0:(zis s).2.2=0:=by simpa [zqj] using h
 have h1:¬(s.length=0\/100<s.length):=fun hh=>by unfold zis at h0;rw [xn hh] at h0;simp at h0
 have h2:chkF s.length [] s=none:=by
  cases h4:chkF s.length [] s with
  | none=>rfl
  | some p=>
   exfalso;obtain ⟨i,k,w⟩:=p;have h5:(zis s).2.2=w:=by unfold zis;rw [xm h1,h4]
   have:=zBY _ _ _ _ _ _ h4;omega
 have h3:=(zwo s []).1 h2;have at':∀m∈s,zeE m.Name=true/\m.Fields.length<=200/\msgF s.length [] m.Fields=none:=fun m hm=>by
  obtain ⟨i,hi,rfl⟩:=qV hm;have:=h3 i _ (xE hi)
  grind
 refine ⟨by omega,fun m hm=>(at' m hm).1,fun i j a b hij ha hb=>?_,fun m hm=>(at' m hm).2.1,fun m hm f hf=>?_,fun m hm i j f g hij hf hg=>?_⟩
 ·have:=(h3 j b hb).2.1;have hai:a∈([]++s.take j:List Mes):=by
   rw [xR];exact qY (i:=i) (by rw [yF,xn hij];exact ha)
  grind
 ·have h4:=(zrZ m.Fields []).1 (at' m hm).2.2;obtain ⟨i,hi,rfl⟩:=qV hf;exact (zuf (h4 i _ (xE hi))).1
 ·have h4:=(zrZ m.Fields []).1 (at' m hm).2.2;obtain ⟨_,k1,k2⟩:=zuf (h4 j g hg);have hai:f∈([]++m.Fields.take j:List Fld):=by
   rw [xR];exact qY (i:=i) (by rw [yF,xn hij];exact hf)
  grind
theorem zkq {α:Type} [DecidableEq α] (a b:List α) (F:Int->Option (Unit⊕Unit)) (hl:a.length=b.length) (h0:F (a.length:Int)=some (.inl ()))
  (hs:∀(i:Nat) (h:i<a.length) (h':i<b.length),F (i:Int)=if a[i]=b[i] then F ((i+1:Nat):Int) else some (.inr ())):
  ∀(d i:Nat),i+d=a.length->F (i:Int)=some (if a.drop i=b.drop i then .inl () else .inr ()):=by
 intro d
 induction d with
 | zero=>
  grind
 | succ d ih=>
  intro i hi;rw [hs i (by omega) (by omega),yd (l:=a) (by omega),yd (l:=b) (by omega)]
  grind
theorem zDo {s:List Mes} {i:Nat} {m:Mes} (hi:∃h:i<s.length,s[i]=m) (hb:m.Fields.length<=140737488351232):∀(d k:Nat) (n:Int),k+d=m.Fields.length->∃r,zdh i s n k=some r:=by
 obtain ⟨hil,hm⟩:=hi;have e1:idx s (i:Int)=some m:=by rw [zS rfl hil,hm]
 intro d
 induction d with
 | zero=>
  intro k n hk;refine ⟨n,zlM ?_⟩;unfold zcd
  grind
 | succ d ih=>
  intro k n hk;obtain ⟨r,hr⟩:=ih (k+1) (i64.wrap (n+(i64.wrap (Int.tdiv (((m.Fields[k]'(by omega)).Name.length:Int)) 100)))) (by omega);refine ⟨r,(zlL (k':=((k+1:Nat):Int)) ?_).trans hr⟩
  grind [zcd,sb,zo,zS]
theorem zIx {s:List Mes} (hw:WS s):∃b,zfm s=some b:=by
 obtain ⟨hs,hm⟩:=hw;have key:∀(d i:Nat) (n:Int),i+d=s.length->∃r,zdg s n i=some r:=by
  intro d
  induction d with
  | zero=>
   intro i n hi;refine ⟨n,zlK ?_⟩;unfold zcc
   grind
  | succ d ih=>
   intro i n hi;have hil:i<s.length:=by omega
   obtain ⟨q,hq⟩:=zDo (s:=s) (i:=i) (m:=s[i]) ⟨hil,rfl⟩ (hm _ (xy hil)).2.1 (s[i]).Fields.length 0
    (i64.wrap ((i64.wrap ((i64.wrap (n+1))+(i64.wrap (Int.tdiv ((s[i]).Name.length:Int) 100))))+((s[i]).Fields.length:Int))) (by omega)
   have hq':zdh i s (i64.wrap ((i64.wrap ((i64.wrap (n+1))+(i64.wrap (Int.tdiv ((s[i]).Name.length:Int) 100))))+((s[i]).Fields.length:Int))) 0=some q:=hq;obtain ⟨r,hr⟩:=ih (i+1) q (by omega);refine ⟨r,(zlJ (i':=((i+1:Nat):Int)) ?_).trans hr⟩
   grind [zcc,sb,zo,zS]
 obtain ⟨r,hr⟩:=key s.length 0 0 (by omega);have hr':zdg s 0 0=some r:=hr;exact ⟨_,by unfold zfm;rw [hr',sb]⟩
def zaK (m:Mes) (p:Int):Int:=(m.Fields.getD p.toNat ⟨[],0,0,false,false,0⟩).Number
def insS (κ:Int->Int) (i:Int) (out:List Int):List Int:=out.takeWhile (fun x=>decide (κ x<=κ i))++i::out.dropWhile (fun x=>decide (κ x<=κ i))
def zbU (κ:Int->Int):Nat->List Int
 | 0=>[]
 | n+1=>insS κ n (zbU κ n)
theorem zwC (κ:Int->Int) (i:Int) (out:List Int):(insS κ i out).Perm (i::out):=by
 unfold insS;refine List.perm_middle.trans ?_;simp_all
theorem zdV :∀{n:Nat} {x:Int},x∈zbU κ n↔0<=x/\x<n
 | 0,x=>by
  simp only [zbU,xH,false_iff];omega
 | n+1,x=>by
  rw [zbU,(zwC κ n _).mem_iff,xr,zdV];omega
theorem zph (κ:Int->Int):∀(n:Nat),(zbU κ n).length=n
 | 0=>rfl
 | n+1=>by rw [zbU,(zwC κ n _).length_eq,xL,zph κ n]
def zmw (κ:Int->Int) (a b:Int):Prop:=κ a<κ b\/κ a=κ b/\a<b
theorem zyF {κ:Int->Int} {c:Int}:∀{l:List Int},∀x∈l.takeWhile (fun x=>decide (κ x<=c)),κ x<=c/\x∈l:=by
 intro l
 induction l with
 | nil=>intro x hx;simp at hx
 | cons y l ih=>
  intro x hx;rw [List.takeWhile_cons] at hx
  grind
theorem zxL :∀{l:List Int},l.Pairwise (zmw κ)->∀x∈l.dropWhile (fun x=>decide (κ x<=c)),c<κ x:=by
 intro l
 induction l with
 | nil=>intro _ x hx;simp at hx
 | cons y l ih=>
  intro hp x hx;rw [List.dropWhile_cons] at hx;have hp':=xZ.1 hp
  grind [zmw]
theorem zmT (κ:Int->Int):∀(n:Nat),(zbU κ n).Pairwise (zmw κ)
 | 0=> .nil
 | n+1=>by
  have ih:=zmT κ n;have hm:∀x∈zbU κ n,x<n:=fun x hx=>(zdV.1 hx).2
  rw [zbU,insS];have hsplit:(zbU κ n).takeWhile (fun x=>decide (κ x<=κ n))++(zbU κ n).dropWhile (fun x=>decide (κ x<=κ n))=zbU κ n:=pZ;have hp:((zbU κ n).takeWhile (fun x=>decide (κ x<=κ n))++(zbU κ n).dropWhile (fun x=>decide (κ x<=κ n))).Pairwise (zmw κ):=by rw [hsplit];exact ih
  have ht:=zyF (κ:=κ) (c:=κ n) (l:=zbU κ n);have hd:=zxL (c:=κ n) ih;have htm:∀x∈(zbU κ n).takeWhile (fun x=>decide (κ x<=κ n)),x<n:=fun x hx=>hm x (ht x hx).2
  rw [List.pairwise_append] at hp|-;refine ⟨hp.1,xZ.2 ⟨fun x hx=> .inl (hd x hx),hp.2.1⟩,fun a ha b hb=>?_⟩
  grind [zmw]
theorem zxx {κ:Int->Int} {a b:Int} (h:zmw κ a b) (k:zmw κ b a):False:=by unfold zmw at h k;omega
theorem zyx {m:Mes} {i:Nat} {out:List Int} (hi:i<m.Fields.length) (hb:m.Fields.length<=1099511627776) (hol:out.length<=1099511627776) (ho:∀x∈out,0<=x/\x<m.Fields.length):
  ∀(t:List Int) (k:Nat),out.drop k=t->k<=out.length->zbW i m out k=some ((k+(t.takeWhile (fun x=>decide (zaK m x<=zaK m i))).length:Nat):Int):=by
 have ki:zaK m i=(m.Fields[i]).Number:=by unfold zaK;rw [xB,qE,xE hi];rfl
 intro t
 induction t with
 | nil=>
  intro k hd hk;have:=zgK hd;refine zgv ?_;unfold zbl;rw [ud,sb,p8];simp
 | cons x t ih=>
  intro k hd hk;obtain ⟨hkl,hx,hd'⟩:=zfI hd;have hxo:=ho x (by rw [<-hx];exact xy hkl);have kx:zaK m x=(m.Fields[x.toNat]'(by omega)).Number:=by unfold zaK;rw [qE,xE (by omega)];rfl
  have hb2:zbl i m out k=if zaK m x<=zaK m i then some (.inl ((k+1:Nat):Int)) else some (.inr (k:Int)):=by
   grind [zbl,sb,zo,zS]
  rw [List.takeWhile_cons];by_cases h:zaK m x<=zaK m i
  ·rw [xn h] at hb2;rw [zjV hb2,ih _ hd' (by omega),xn (by simpa using h),xL];congr 2;omega
  ·rw [xm h] at hb2;rw [zgv hb2,xm (by simpa using h)];simp
theorem zyn {m:Mes} (hb:m.Fields.length<=1099511627776):zdY m=some (zbU (zaK m) m.Fields.length):=by
 have key:∀(d i:Nat),i+d=m.Fields.length->zbV m (zbU (zaK m) i) i=some (zbU (zaK m) m.Fields.length):=by
  intro d
  induction d with
  | zero=>
   intro i hi;have:i=m.Fields.length:=by omega
   subst this;refine zjU ?_;unfold zbk
   grind
  | succ d ih=>
   intro i hi;refine (zjT (out':=zbU (zaK m) (i+1)) (i':=((i+1:Nat):Int)) ?_).trans (ih _ (by omega));have hl:=zph (zaK m) i;have h2:=zyx (m:=m) (i:=i) (out:=zbU (zaK m) i) (by omega) hb (by omega) (fun x hx=>by have:=zdV.1 hx;omega) (zbU (zaK m) i) 0 rfl (xx _);have h2':zbW i m (zbU (zaK m) i) 0=_:=h2;rw [xP] at h2';have hsp:(zbU (zaK m) i).takeWhile (fun x=>decide (zaK m x<=zaK m i))++(zbU (zaK m) i).dropWhile (fun x=>decide (zaK m x<=zaK m i))=zbU (zaK m) i:=pZ
   generalize htk:(zbU (zaK m) i).takeWhile (fun x=>decide (zaK m x<=zaK m i))=tk at h2' hsp
   generalize hdk:(zbU (zaK m) i).dropWhile (fun x=>decide (zaK m x<=zaK m i))=dk at hsp
   have hins:zbU (zaK m) (i+1)=tk++(i:Int)::dk:=by rw [zbU,insS,htk,hdk]
   have wz:tk.length+dk.length=i:=by rw [<-hl,<-hsp,xz]
   have c1:cut (zbU (zaK m) i) 0 ((tk.length:Nat):Int)=some tk:=by rw [zqy rfl (by omega),<-hsp,pQ]
   have c2:cut (zbU (zaK m) i) ((tk.length:Nat):Int) ((zbU (zaK m) i).length:Int)=some dk:=by rw [znM rfl rfl (by omega),<-hsp,List.drop_left]
   unfold zbk;rw [uc,h2',sb,c1,sb,zbn (by simp;omega),sb,xR,zbn (by simp;omega),sb,c2,sb,zbn (by simp;omega),sb,ue,hins];simp
 unfold zdY;have h:=key m.Fields.length 0 (by omega);have h':zbV m [] 0=_:=h;rw [h',sb]
def cpN (r:Nat):List Nat:=
 if r<128 then [r] else if r<2048 then [192+r/64,128+r%64]
 else if r<65536 then (if 55296<=r/\r<=57343 then [] else [224+r/4096,128+r/64%64,128+r%64])
 else if r<=1114111 then [240+r/262144,128+r/4096%64,128+r/64%64,128+r%64] else []
def cpB (r:Nat):List UInt8:=(cpN r).map UInt8.ofNat
def cont (c:UInt8):Bool:=decide (128<=c.toNat/\c.toNat<192)
def is1:List UInt8->Bool
 | a::_=>decide (a.toNat<128)
 | _=>false
def is2:List UInt8->Bool
 | a::b::_=>decide (194<=a.toNat/\a.toNat<224/\cont b=true)
 | _=>false
def is3:List UInt8->Bool
 | a::b::c::_=>decide (224<=a.toNat/\a.toNat<240/\cont b=true/\cont c=true/\(a.toNat=224->160<=b.toNat)/\(a.toNat=237->b.toNat<160))
 | _=>false
def is4:List UInt8->Bool
 | a::b::c::d::_=>decide (240<=a.toNat/\a.toNat<245/\cont b=true/\cont c=true/\cont d=true/\(a.toNat=240->144<=b.toNat)/\(a.toNat=244->b.toNat<144))
 | _=>false
def nxt (l:List UInt8):Nat:=if is1 l then 1 else if is2 l then 2 else if is3 l then 3 else if is4 l then 4 else 0
theorem zqV (h:n<256):(UInt8.ofNat n=c)↔n=c.toNat:=by
 constructor
 ·intro e;rw [<-e,UInt8.toNat_ofNat'];omega
 ·intro e;rw [e,UInt8.ofNat_toNat]
theorem zFE (r:Int):zfn r=some (if r<0 then [] else cpB r.toNat):=by
 unfold zfn;by_cases h0:r<0
 ·rw [uc,xn h0]
 ·rw [xm h0];obtain ⟨n,rfl⟩:∃n:Nat,r=n:=⟨r.toNat,by omega⟩;rw [xB];unfold cpB cpN;by_cases h1:n<128
  ·rw [ud,uc,xn h1,ztM,zga (n:=n) (by omega) (by omega)];rfl
  ·rw [xm h1];by_cases h2:n<2048
   ·rw [ud,ud,uc,xn h2];simp only [pk (show (0:Int)<=n by omega),yD (show (0:Int)<=n by omega),ztM];rw [zo (x:=(n:Int)/64) (by omega),ue,ue,zga (n:=192+n/64) (by omega) (by omega),sb,zga (n:=128+n%64) (by omega) (by omega)];rfl
   ·rw [xm h2];by_cases h3:n<65536
    ·rw [xn h3];by_cases h4:55296<=n/\n<=57343
     ·rw [uc,xn h4];rfl
     ·rw [ud,ud,ud,uc,xm h4];simp only [pk (show (0:Int)<=n by omega),yD (show (0:Int)<=n by omega),ztM]
      rw [zo (x:=(n:Int)/4096) (by omega),zo (x:=(n:Int)/64) (by omega),yD (by omega),ue,ue,ue,
       zga (n:=224+n/4096) (by omega) (by omega),sb,zga (n:=128+n/64%64) (by omega) (by omega),sb,zga (n:=128+n%64) (by omega) (by omega)];rfl
    ·rw [xm h3];by_cases h4:n<=1114111
     ·rw [ud,ud,ud,ud,xn h4];simp only [pk (show (0:Int)<=n by omega),yD (show (0:Int)<=n by omega),ztM]
      rw [zo (x:=(n:Int)/262144) (by omega),zo (x:=(n:Int)/4096) (by omega),zo (x:=(n:Int)/64) (by omega),yD (by omega),yD (by omega),ue,ue,ue,ue,
       zga (n:=240+n/262144) (by omega) (by omega),sb,zga (n:=128+n/4096%64) (by omega) (by omega),sb,zga (n:=128+n/64%64) (by omega) (by omega),sb,zga (n:=128+n%64) (by omega) (by omega)];rfl
     ·rw [uc,xm h4];rfl
def ztY:Nat->List UInt8->Nat
 | 1,a::_=>a.toNat
 | 2,a::b::_=>64*(a.toNat%32)+b.toNat%64
 | 3,a::b::c::_=>64*(64*(a.toNat%16)+b.toNat%64)+c.toNat%64
 | 4,a::b::c::d::_=>64*(64*(64*(a.toNat%8)+b.toNat%64)+c.toNat%64)+d.toNat%64
 | _,_=>0
theorem map1 (h:∀x∈l,x<256):l.map UInt8.ofNat=[a]↔l=[a.toNat]:=by
 cases l with
 | nil=>simp
 | cons x l=>cases l with
  | nil=>simp only [xC,yO,yB,qO];exact zqV (h x (by simp))
  | cons y l=>simp
theorem map2 (h:∀x∈l,x<256):l.map UInt8.ofNat=[a,b]↔l=[a.toNat,b.toNat]:=by
 cases l with
 | nil=>simp
 | cons x l=>simp only [xC,yB,zqV (h x (by simp)),map1 (l:=l) fun y hy=>h y (by simp [hy])]
theorem map3 (h:∀x∈l,x<256):l.map UInt8.ofNat=[a,b,c]↔l=[a.toNat,b.toNat,c.toNat]:=by
 cases l with
 | nil=>simp
 | cons x l=>simp only [xC,yB,zqV (h x (by simp)),map2 (l:=l) fun y hy=>h y (by simp [hy])]
theorem map4 (h:∀x∈l,x<256):l.map UInt8.ofNat=[a,b,c,d]↔l=[a.toNat,b.toNat,c.toNat,d.toNat]:=by
 cases l with
 | nil=>simp
 | cons x l=>simp only [xC,yB,zqV (h x (by simp)),map3 (l:=l) fun y hy=>h y (by simp [hy])]
theorem zxJ (r:Nat):∀x∈cpN r,x<256:=by
 intro x hx;unfold cpN at hx;split at hx
 ·simp at hx;omega
 ·split at hx
  ·simp at hx;omega
  ·split at hx
   ·split at hx
    ·cases hx
    ·simp at hx;omega
   ·split at hx
    ·simp at hx;omega
    ·cases hx
theorem cpB1 (a:UInt8):cpB a.toNat=[a]↔a.toNat<128:=by
 have ha:=a.toNat_lt;unfold cpB;rw [map1 (zxJ _)];unfold cpN;by_cases h:a.toNat<128
 ·simp [h]
 ·rw [xm h,xn (by omega)];simp;omega
theorem cpB2 (a b:UInt8):cpB (64*(a.toNat%32)+b.toNat%64)=[a,b]↔194<=a.toNat/\a.toNat<224/\cont b=true:=by
 have ha:=a.toNat_lt;have hb:=b.toNat_lt;unfold cpB cont;rw [map2 (zxJ _)];unfold cpN;by_cases h:64*(a.toNat%32)+b.toNat%64<128
 ·rw [xn h];simp;omega
 ·rw [xm h,xn (by omega)];simp;omega
theorem cpB3 (a b c:UInt8):cpB (64*(64*(a.toNat%16)+b.toNat%64)+c.toNat%64)=[a,b,c]↔224<=a.toNat/\a.toNat<240/\cont b=true/\cont c=true/\(a.toNat=224->160<=b.toNat)/\(a.toNat=237->b.toNat<160):=by
 have ha:=a.toNat_lt;have hb:=b.toNat_lt;have hc:=c.toNat_lt;unfold cpB cont;rw [map3 (zxJ _)];unfold cpN;by_cases h:64*(64*(a.toNat%16)+b.toNat%64)+c.toNat%64<128
 ·rw [xn h];simp;omega
 ·rw [xm h];by_cases h2:64*(64*(a.toNat%16)+b.toNat%64)+c.toNat%64<2048
  ·rw [xn h2];simp;omega
  ·rw [xm h2,xn (by omega)];by_cases h3:55296<=64*(64*(a.toNat%16)+b.toNat%64)+c.toNat%64/\64*(64*(a.toNat%16)+b.toNat%64)+c.toNat%64<=57343
   ·rw [xn h3];simp;omega
   ·rw [xm h3];simp;omega
theorem cpB4 (a b c d:UInt8):cpB (64*(64*(64*(a.toNat%8)+b.toNat%64)+c.toNat%64)+d.toNat%64)=[a,b,c,d]↔
  240<=a.toNat/\a.toNat<245/\cont b=true/\cont c=true/\cont d=true/\(a.toNat=240->144<=b.toNat)/\(a.toNat=244->b.toNat<144):=by
 have ha:=a.toNat_lt;have hb:=b.toNat_lt;have hc:=c.toNat_lt;have hd:=d.toNat_lt;unfold cpB cont;rw [map4 (zxJ _)];unfold cpN;by_cases h:64*(64*(64*(a.toNat%8)+b.toNat%64)+c.toNat%64)+d.toNat%64<65536
 ·have:∀l:List Nat,l.length<=3->(l=[a.toNat,b.toNat,c.toNat,d.toNat])=False:=fun l hl=>by simp only [eq_iff_iff,iff_false];intro e;rw [e] at hl;simp at hl
  rw [xn h];split
  ·rw [this _ (by simp)];simp;omega
  ·split
   ·rw [this _ (by simp)];simp;omega
   ·split
    ·rw [this _ (by simp)];simp;omega
    ·rw [this _ (by simp)];simp;omega
 ·rw [xm (by omega),xm (by omega),xm h];by_cases h2:64*(64*(64*(a.toNat%8)+b.toNat%64)+c.toNat%64)+d.toNat%64<=1114111
  ·rw [xn h2];simp;omega
  ·rw [xm h2];simp;omega
def isN (n:Nat) (l:List UInt8):Bool:=match n with
 | 1=>is1 l
 | 2=>is2 l
 | 3=>is3 l
 | 4=>is4 l
 | _=>false
theorem zCk (n:Nat) (l:List UInt8) (h1:1<=n) (h4:n<=4) (hl:n<=l.length):cpB (ztY n l)=l.take n↔isN n l=true:=by
 match n,l,h1,h4,hl with
 | 1,a::t,_,_,_=>simp only [ztY,yz,yC,cpB1,isN,is1,xK]
 | 2,a::b::t,_,_,_=>simp only [ztY,yz,yC,cpB2,isN,is2,xK]
 | 3,a::b::c::t,_,_,_=>simp only [ztY,yz,yC,cpB3,isN,is3,xK]
 | 4,a::b::c::d::t,_,_,_=>simp only [ztY,yz,yC,cpB4,isN,is4,xK]
theorem zCl (n:Nat) (l:List UInt8) (h:l.length<n):isN n l=false:=by
 match n,l with
 | 0,_=>rfl
 | 1,[]=>rfl
 | 2,[]=>rfl
 | 2,[_]=>rfl
 | 3,[]=>rfl
 | 3,[_]=>rfl
 | 3,[_,_]=>rfl
 | 4,[]=>rfl
 | 4,[_]=>rfl
 | 4,[_,_]=>rfl
 | 4,[_,_,_]=>rfl
 | n+5,_=>rfl
 | 1,_::_=>simp at h
 | 2,_::_::_=>simp at h;omega
 | 3,_::_::_::_=>simp at h;omega
 | 4,_::_::_::_::_=>simp at h;omega
theorem zoU {b:List UInt8} {a n i r:Nat} (hb:b.length<=1152921504606846976) (hn:n<=4) (h:i<n) (ha:a+i<b.length) (hr:r<=1000000000):
  zaP a b n r i=zaP a b n ((64*r+(b[a+i]).toNat%64:Nat):Int) ((i+1:Nat):Int):=by
 refine zlr ?_;unfold zbH;have hc:=(b[a+i]).toNat_lt;rw [uc,ue,zS (show (a:Int)+i=((a+i:Nat):Int) by push_cast;rfl) ha,sb];simp (disch:=omega) only [zo,yD];push_cast;rfl
theorem zxV (h:n<=i):zaP a b n r i=some (r:Int):=by
 refine zls ?_;unfold zbH;rw [ud]
theorem zjY {b:List UInt8} {a i:Nat} {c:UInt8} (h:(b.drop a)[i]? =some c):∃h:a+i<b.length,b[a+i]=c:=by
 rw [qh] at h;exact yj.1 h
theorem zJE {b:List UInt8} {a n:Nat} {c:UInt8} {t:List UInt8} (hb:b.length<=1152921504606846976) (hl:b.drop a=c::t) (h1:1<=n) (h4:n<=4) (hn:n<=(b.drop a).length):
  zaP a b n ((if 1<n then c.toNat%([0,0,32,16,8].getD n 0) else c.toNat:Nat):Int) (1:Nat)=some ((ztY n (b.drop a):Nat):Int):=by
 have hc:=c.toNat_lt;rw [hl] at hn
 match n,t,h1,h4,hn with
 | 1,t,_,_,_=>rw [zxV (by omega),hl];rfl
 | 2,x::t,_,_,_=>
  obtain ⟨g1,e1⟩:=zjY (b:=b) (a:=a) (i:=1) (c:=x) (by rw [hl];rfl);rw [xn (by omega),zoU hb (by omega) (by omega) g1 (by simp;omega),zxV (by omega),hl,e1];rfl
 | 3,x::y::t,_,_,_=>
  obtain ⟨g1,e1⟩:=zjY (b:=b) (a:=a) (i:=1) (c:=x) (by rw [hl];rfl);obtain ⟨g2,e2⟩:=zjY (b:=b) (a:=a) (i:=2) (c:=y) (by rw [hl];rfl);have hx:=x.toNat_lt;rw [xn (by omega),zoU hb (by omega) (by omega) g1 (by simp;omega),zoU hb (by omega) (by omega) g2 (by simp;omega),zxV (by omega),hl,e1,e2];rfl
 | 4,x::y::z::t,_,_,_=>
  obtain ⟨g1,e1⟩:=zjY (b:=b) (a:=a) (i:=1) (c:=x) (by rw [hl];rfl);obtain ⟨g2,e2⟩:=zjY (b:=b) (a:=a) (i:=2) (c:=y) (by rw [hl];rfl);obtain ⟨g3,e3⟩:=zjY (b:=b) (a:=a) (i:=3) (c:=z) (by rw [hl];rfl);have hx:=x.toNat_lt;have hy:=y.toNat_lt;rw [xn (by omega),zoU hb (by omega) (by omega) g1 (by simp;omega),zoU hb (by omega) (by omega) g2 (by simp;omega),zoU hb (by omega) (by omega) g3 (by simp;omega),zxV (by omega),hl,e1,e2,e3];rfl
theorem zHQ {b:List UInt8} {a n:Nat} (hb:b.length<=1152921504606846976) (ha:a<=b.length) (h1:1<=n) (h5:n<=5):
  zcG a b n=if isN n (b.drop a) then some (.inr (.inr (n:Int))) else if n<=4/\n<=(b.drop a).length then some (.inl ((n+1:Nat):Int)) else some (.inr (.inl ())):=by
 have hdl:(b.drop a).length=b.length - a:=by simp
 unfold zcG;by_cases h:n<=4/\n<=(b.drop a).length
 ·rw [xn h,ue,uc];obtain ⟨c,t,hl⟩:∃c t,b.drop a=c::t:=by
   cases hh:b.drop a with
   | nil=>rw [hh] at h;simp at h;omega
   | cons c t=>exact ⟨c,t,rfl⟩
  obtain ⟨g0,e0⟩:=zjY (b:=b) (a:=a) (i:=0) (c:=c) (by rw [hl];rfl);have hc:=c.toNat_lt;rw [zS rfl (show a<b.length by omega),sb];have e0':b[a]'(by omega)=c:=by simpa using e0
  rw [e0',ue];have hp:(if (decide ((n:Int)>1))=true then (idx ([0,0,32,16,8]:(List Int)) (n:Int)>>=fun x2=>remI (c.toNat:Int) x2>>=fun v3=>some v3) else some (c.toNat:Int))=some (((if 1<n then c.toNat%([0,0,32,16,8].getD n 0) else c.toNat:Nat)):Int):=by
   match n,h1,h.1 with
   | 1,_,_=>rfl
   | 2,_,_=>rfl
   | 3,_,_=>rfl
   | 4,_,_=>rfl
  rw [hp,sb];have h2:=zJE hb hl h1 h.1 h.2;have h2':zaP a b n ((if 1<n then c.toNat%([0,0,32,16,8].getD n 0) else c.toNat:Nat):Int) 1=some ((ztY n (b.drop a):Nat):Int):=h2;rw [h2',sb,zFE,sb,xm (by omega),xB,zgj rfl (show (a:Int)+n=((a+n:Nat):Int) by push_cast;rfl) (by omega) (by omega),sb,pJ];by_cases hi:isN n (b.drop a)=true
  ·rw [xn hi,itT (by simpa using (zCk n _ h1 h.1 h.2).2 hi)]
  ·rw [xm hi,itF (by simpa using fun e=>hi ((zCk n _ h1 h.1 h.2).1 e)),ue];rfl
 ·have hn:isN n (b.drop a)=false:=by
   by_cases h4:n<=4
   ·exact zCl _ _ (by omega)
   ·have:n=5:=by omega
    subst this;rfl
  rw [xm h,hn,ue,ud];rfl
theorem zvb {b:List UInt8} {a:Nat} (hb:b.length<=1152921504606846976) (ha:a<=b.length):zeP b a=some ((nxt (b.drop a):Nat):Int):=by
 have key:∀(k n:Nat),n+k=5->1<=n->(∀j,1<=j->j<n->isN j (b.drop a)=false)->∃q,zcH a b n=some q/\(match q with| .inl _=>(0:Int)| .inr u=>u)=((nxt (b.drop a):Nat):Int):=by
  intro k
  induction k with
  | zero=>
   intro n hn h1 hj;have:n=5:=by omega
   subst this;refine ⟨.inl (),zfb ?_,?_⟩
   ·rw [zHQ hb ha h1 (by omega),xm (by simp [isN]),xm (by omega)]
   ·have j1:=hj 1 (by omega) (by omega);have j2:=hj 2 (by omega) (by omega);have j3:=hj 3 (by omega) (by omega);have j4:=hj 4 (by omega) (by omega);simp only [isN] at j1 j2 j3 j4;simp [nxt,j1,j2,j3,j4]
  | succ k ih=>
   intro n hn h1 hj;have hb1:=zHQ hb ha h1 (show n<=5 by omega);by_cases hi:isN n (b.drop a)=true
   ·rw [xn hi] at hb1;refine ⟨.inr n,zfb hb1,?_⟩;have e:nxt (b.drop a)=n:=by
     match n,h1,(show n<=4 by omega),hi,hj with
     | 1,_,_,hi,_=>simp only [isN] at hi;simp [nxt,hi]
     | 2,_,_,hi,hj=>have j1:=hj 1 (by omega) (by omega);simp only [isN] at hi j1;simp [nxt,hi,j1]
     | 3,_,_,hi,hj=>have j1:=hj 1 (by omega) (by omega);have j2:=hj 2 (by omega) (by omega);simp only [isN] at hi j1 j2;simp [nxt,hi,j1,j2]
     | 4,_,_,hi,hj=>have j1:=hj 1 (by omega) (by omega);have j2:=hj 2 (by omega) (by omega);have j3:=hj 3 (by omega) (by omega);simp only [isN] at hi j1 j2 j3;simp [nxt,hi,j1,j2,j3]
    simp only [e]
   ·rw [xm hi] at hb1;by_cases hl:n<=4/\n<=(b.drop a).length
    ·rw [xn hl] at hb1;obtain ⟨q,h2,h3⟩:=ih (n+1) (by omega) (by omega) fun j g1 g2=>by
      by_cases he:j=n
      ·subst he;simpa using hi
      ·exact hj j g1 (by omega)
     exact ⟨q,(zlq hb1).trans h2,h3⟩
    ·rw [xm hl] at hb1;refine ⟨.inl (),zfb hb1,?_⟩;have hall:∀j,1<=j->isN j (b.drop a)=false:=fun j g1=>by
      by_cases g2:j<n
      ·exact hj j g1 g2
      ·by_cases g3:j<=4
       ·exact zCl _ _ (by omega)
       ·match j,g3 with
        | j+5,_=>rfl
     have j1:=hall 1 (by omega);have j2:=hall 2 (by omega);have j3:=hall 3 (by omega);have j4:=hall 4 (by omega);simp only [isN] at j1 j2 j3 j4;simp [nxt,j1,j2,j3,j4]
 obtain ⟨q,h1,h2⟩:=key 4 1 rfl (by omega) fun j g1 g2=>by omega
 unfold zeP;have h1':zcH a b 1=some q:=h1;rw [h1',sb,<-h2];cases q<;>rfl
theorem zkb (h:isN n l=true):∃a t,l=a::t/\n<=l.length/\(n=1/\a.toNat<128\/n=2/\194<=a.toNat/\a.toNat<224\/n=3/\224<=a.toNat/\a.toNat<240\/n=4/\240<=a.toNat):=by
 match n,l with
 | 1,a::t=>simp only [isN,is1,xK] at h;exact ⟨a,t,rfl,by simp,.inl ⟨rfl,h⟩⟩
 | 2,a::b::t=>simp only [isN,is2,xK] at h;exact ⟨a,_,rfl,by simp,.inr (.inl ⟨rfl,h.1,h.2.1⟩)⟩
 | 3,a::b::c::t=>simp only [isN,is3,xK] at h;exact ⟨a,_,rfl,by simp,.inr (.inr (.inl ⟨rfl,h.1,h.2.1⟩))⟩
 | 4,a::b::c::d::t=>simp only [isN,is4,xK] at h;exact ⟨a,_,rfl,by simp,.inr (.inr (.inr ⟨rfl,h.1⟩))⟩
 | 0,_=>cases h
 | 1,[]=>cases h
 | 2,[]=>cases h
 | 2,[_]=>cases h
 | 3,[]=>cases h
 | 3,[_]=>cases h
 | 3,[_,_]=>cases h
 | 4,[]=>cases h
 | 4,[_]=>cases h
 | 4,[_,_]=>cases h
 | 4,[_,_,_]=>cases h
 | _+5,_=>cases h
theorem zGS (h:isN n l=true) (h':isN m l=true):n=m:=by
 obtain ⟨a,t,e,_,g⟩:=zkb h;obtain ⟨a',t',e',_,g'⟩:=zkb h';rw [e] at e';cases e';omega
theorem zIS (h:isN n l=true):nxt l=n:=by
 obtain ⟨_,_,_,_,g⟩:=zkb h;have k:∀m,m≠n->isN m l=false:=fun m hm=>by
  cases hh:isN m l with
  | false=>rfl
  | true=>exact absurd (zGS hh h) hm
 have hn:n=1\/n=2\/n=3\/n=4:=by omega
 rcases hn with rfl| rfl| rfl| rfl
 ·simp only [isN] at h;simp [nxt,h]
 ·have j1:=k 1 (by omega);simp only [isN] at h j1;simp [nxt,h,j1]
 ·have j1:=k 1 (by omega);have j2:=k 2 (by omega);simp only [isN] at h j1 j2;simp [nxt,h,j1,j2]
 ·have j1:=k 1 (by omega);have j2:=k 2 (by omega);have j3:=k 3 (by omega);simp only [isN] at h j1 j2 j3;simp [nxt,h,j1,j2,j3]
theorem ztE (h:nxt l≠0):isN (nxt l) l=true:=by
 unfold nxt at h|-;by_cases h1:is1 l=true
 ·simp [h1,isN]
 ·by_cases h2:is2 l=true
  ·simp [h1,h2,isN]
  ·by_cases h3:is3 l=true
   ·simp [h1,h2,h3,isN]
   ·by_cases h4:is4 l=true
    ·simp [h1,h2,h3,h4,isN]
    ·simp [h1,h2,h3,h4] at h
theorem zqa (l:List UInt8):nxt l<=l.length:=by
 by_cases h:nxt l=0
 ·omega
 ·obtain ⟨_,_,_,g,_⟩:=zkb (ztE h);exact g
theorem zye (l:List UInt8):nxt l<=4:=by
 by_cases h:nxt l=0
 ·omega
 ·obtain ⟨_,_,_,_,g⟩:=zkb (ztE h);omega
def fst4 (m:Int) (l:List UInt8):Nat×Nat:=
 if h:nxt l=0\/(nxt l:Int)>m then (0,0) else (nxt l+(fst4 (m - nxt l) (l.drop (nxt l))).1,(fst4 (m - nxt l) (l.drop (nxt l))).2+1)
termination_by l.length
decreasing_by all_goals (have:=zqa l;simp only [xN];omega)
theorem zoQ (h:nxt l=0\/(nxt l:Int)>m):fst4 m l=(0,0):=by rw [fst4,dif_pos h]
theorem zty (h:¬(nxt l=0\/(nxt l:Int)>m)):fst4 m l=(nxt l+(fst4 (m - nxt l) (l.drop (nxt l))).1,(fst4 (m - nxt l) (l.drop (nxt l))).2+1):=by rw [fst4,dif_neg h]
theorem zEM (P:Int->List UInt8->Prop) (h0:∀m l,(nxt l=0\/(nxt l:Int)>m)->P m l) (h1:∀m l,¬(nxt l=0\/(nxt l:Int)>m)->P (m - nxt l) (l.drop (nxt l))->P m l) (m:Int) (l:List UInt8):P m l:=by
 generalize hn:l.length=n
 induction n using Nat.strongRecOn generalizing m l with
 | _ n ih=>
  by_cases h:nxt l=0\/(nxt l:Int)>m
  ·exact h0 m l h
  ·have:=zqa l;exact h1 m l h (ih _ (by simp only [xN];omega) _ _ rfl)
theorem zvW {b:List UInt8} (hb:b.length<=140737488355328) (most:Int) (m:Int) (l:List UInt8):∀(a c:Nat),c<=a->a<=b.length->l=b.drop a->m=most - a->
  zbt b most a c=some (((a+(fst4 m l).1:Nat):Int),((c+(fst4 m l).2:Nat):Int)):=by
 refine zEM (fun m l=>∀(a c:Nat),c<=a->a<=b.length->l=b.drop a->m=most - a->zbt b most a c=some (((a+(fst4 m l).1:Nat):Int),((c+(fst4 m l).2:Nat):Int))) ?_ ?_ m l
 ·intro m l h a c hc ha hl hm;subst hl hm;have h4:=zye (b.drop a);refine zkD ?_;unfold zbs;rw [zvb (by omega) ha,sb,ue,uc,zoQ h];rfl
 ·intro m l h ih a c hc ha hl hm;subst hl hm;have h4:=zye (b.drop a);have hle:=zqa (b.drop a);simp only [xN] at hle;refine (zkC (atv':=((a+nxt (b.drop a):Nat):Int)) (count':=((c+1:Nat):Int)) ?_).trans ?_
  ·unfold zbs;rw [zvb (by omega) ha,sb,ue,ud,ue];rfl
  ·rw [ih (a+nxt (b.drop a)) (c+1) (by omega) (by omega) (by rw [xU]) (by omega),zty h];simp only [qc,Nat.add_comm 1]
theorem zzX (hb:b.length<=140737488355328) (most:Int):zem b most=some (((fst4 most b).1:Int),((fst4 most b).2:Int)):=by
 unfold zem;have h:=zvW hb most most b 0 0 (xt _) (xx _) rfl (by omega);simp only [xP] at h;have h':zbt b most 0 0=some (((fst4 most b).1:Int),((fst4 most b).2:Int)):=h;rw [h',sb]
def pre4 (l:List UInt8):Nat×Nat:=fst4 l.length l
theorem zEL (h:(l.length:Int)<=m):fst4 m l=pre4 l:=by
 have key:∀(n:Nat) (l:List UInt8) (m m':Int),l.length=n->(l.length:Int)<=m->(l.length:Int)<=m'->fst4 m l=fst4 m' l:=by
  intro n
  induction n using Nat.strongRecOn with
  | _ n ih=>
   intro l m m' hn hm hm';have hle:=zqa l;by_cases h:nxt l=0
   ·rw [zoQ (.inl h),zoQ (.inl h)]
   ·rw [zty (m:=m) (l:=l) (by omega),zty (m:=m') (l:=l) (by omega),ih _ (by simp only [xN];omega) (l.drop (nxt l)) (m - nxt l) (m' - nxt l) rfl (by simp only [xN];omega) (by simp only [xN];omega)]
 exact key _ l m l.length rfl h (qq _)
theorem zDL (h:nxt l=0):pre4 l=(0,0):=zoQ (.inl h)
theorem zHp (h:nxt l≠0):pre4 l=(nxt l+(pre4 (l.drop (nxt l))).1,(pre4 (l.drop (nxt l))).2+1):=by
 have hle:=zqa l;unfold pre4;rw [zty (by omega),zEL (m:=(l.length:Int) - nxt l) (by simp only [xN];omega)];rfl
theorem zFA (P:List UInt8->Prop) (h0:∀l,nxt l=0->P l) (h1:∀l,nxt l≠0->P (l.drop (nxt l))->P l) (l:List UInt8):P l:=by
 generalize hn:l.length=n
 induction n using Nat.strongRecOn generalizing l with
 | _ n ih=>
  by_cases h:nxt l=0
  ·exact h0 l h
  ·have:=zqa l;exact h1 l h (ih _ (by simp only [xN];omega) _ rfl)
def ziF (l:List UInt8):Bool:=decide ((pre4 l).1=l.length)
theorem zyo (hb:b.length<=140737488355328):zcx b=some (ziF b):=by
 unfold zcx;rw [zzX hb,sb];unfold ziF pre4;by_cases h:(fst4 (b.length:Int) b).1=b.length
 ·simp [h]
 ·have h2:¬(((fst4 (b.length:Int) b).1:Int)=b.length):=by omega
  simp [h,h2]
theorem zzY {b:List UInt8} (hb:b.length<=1048576):zcx b=some (ziF b):=zyo (by omega)
def enc (v:Nat):List UInt8:=if v<128 then [UInt8.ofNat v] else UInt8.ofNat (128+v%128)::enc (v/128)
termination_by v
decreasing_by omega
def scan:Nat->Nat->List UInt8->Unit⊕(Int×Int×Int)
 | _,_,[]=> .inl ()
 | i,ws,c::t=>if i=9/\1<c.toNat then .inr (0,0,4) else if c.toNat<128 then .inr (((ws+c.toNat%128*128^i:Nat):Int),((i+1:Nat):Int),0) else scan (i+1) (ws+c.toNat%128*128^i) t
def rdR:Unit⊕(Int×Int×Int)->Int×Int×Int
 | .inl _=>(0,0,3)
 | .inr r=>r
def rd (b:List UInt8):Int×Int×Int:=rdR (scan 0 0 (b.take 10))
def hor:List UInt8->Nat
 | []=>0
 | c::t=>c.toNat%128+128*hor t
def lead:Nat->List UInt8->Nat
 | 0,_=>0
 | _+1,[]=>0
 | k+1,c::t=>if 128<=c.toNat then lead k t+1 else 0
theorem zIj (i:Nat):2^(7*i)=128^i:=by rw [Nat.pow_mul]
theorem zGH (c:Nat):c&&&127=c%128:=p5 c 7
theorem zDO {ws i c:Nat} (hi:i<=9) (hacc:ws<128^i) (hc:c<256) (h9:i=9->c<=1):
  orI .u64 (ws:Int) (shlI .u64 (u64.wrap (andI .u8 (c:Int) 127)) ((7*i:Nat):Int))=((ws+c%128*128^i:Nat):Int):=by
 have e1:andI .u8 (c:Int) 127=((c%128:Nat):Int):=by
  have:=zyR (k:= .u8) rfl (a:=c) (b:=127) (by simpa [IntKind.bits] using hc) (by simp [IntKind.bits]);rw [zGH] at this;exact this
 have hp:128^i<=128^9:=pl (by omega) hi;have hlt:c%128*128^i<18446744073709551616:=by
  by_cases h:i=9
  ·subst h;have:=h9 rfl;have h2:c%128<=1:=by omega
   have:=yp (128^9) h2;omega
  ·have h3:128^i<=128^8:=pl (by omega) (by omega);have:=Nat.mul_le_mul (show c%128<=127 by omega) h3;omega
 have e2:shlI .u64 (u64.wrap ((c%128:Nat):Int)) ((7*i:Nat):Int)=((c%128*128^i:Nat):Int):=by
  unfold shlI;rw [zrC rfl (by simp [IntKind.bits];omega),xB,yW (by simp [IntKind.bits];omega)];have h4:((c%128:Nat):Int)*2^(7*i)=((c%128*128^i:Nat):Int):=by rw [<-zIj];push_cast;rfl
  rw [h4];exact zrC rfl (by simpa [IntKind.bits] using hlt)
 rw [e1,e2,zCN rfl (by simp [IntKind.bits];omega) (by simpa [IntKind.bits] using hlt)];congr 1;rw [<-zIj] at hacc|-;exact zzF _ _ _ hacc
theorem zDN:∀(t:List UInt8) (v:List UInt8) (i ws:Nat),v.drop i=t->i+t.length=v.length->v.length<=10->ws<128^i->zfy v ws i=some (scan i ws t):=by
 intro t
 induction t with
 | nil=>
  intro v i ws _ hl _ _;refine zhm ?_;unfold zdN;rw [itF (by simp at hl|-;omega)];rfl
 | cons c t ih=>
  intro v i ws hd hl hv hacc;simp only [xL] at hl;have hget:v[i]'(by omega)=c:=by
   have h1:v.drop i=v[i]'(by omega)::v.drop (i+1):=yd (by omega);rw [hd] at h1;exact (List.cons.inj h1).1.symm
  have hd':v.drop (i+1)=t:=by rw [<-xU,hd];rfl
  have hc:=c.toNat_lt;have hb:zdN v ws i=if i=9/\1<c.toNat then some (.inr (.inr (0,0,4))) else if c.toNat<128 then some (.inr (.inr (((ws+c.toNat%128*128^i:Nat):Int),((i+1:Nat):Int),0))) else some (.inl (((ws+c.toNat%128*128^i:Nat):Int),((i+1:Nat):Int))):=by
   unfold zdN;rw [uc,zS rfl (show i<v.length by omega),sb,hget];by_cases h9:i=9/\1<c.toNat
   ·rw [xn h9,uc]
   ·rw [xm h9,ud,ue];have e:((7:Int)*(i:Int))=((7*i:Nat):Int):=by push_cast;rfl
    rw [e,zAg,sb,zDO (by omega) hacc (by omega) (by omega),ue];by_cases h8:c.toNat<128
    ·rw [xn h8,uc];push_cast;rfl
    ·rw [xm h8,ud];push_cast;rfl
  rw [scan];split at hb
  ·rename_i h9;rw [xn h9];exact zhm hb
  ·rename_i h9;rw [xm h9];split at hb
   ·rename_i h8;rw [xn h8];exact zhm hb
   ·rename_i h8;rw [xm h8,zqr hb];refine ih v (i+1) _ hd' (by omega) hv ?_;rw [qF];have:=yp (128^i) (show c.toNat%128<=127 by omega);omega
theorem ztI (b:List UInt8):zfF b=some (rd b):=by
 unfold zfF rd;have e:(if (10:Int)<(b.length:Int) then (10:Int) else (b.length:Int))=((min 10 b.length:Nat):Int):=by split<;>omega
 have e2:b.take (min 10 b.length)=b.take 10:=by rw [pL];omega
 rw [e,zqy rfl (by omega),sb,e2];have h:=zDN (b.take 10) (b.take 10) 0 0 rfl (by simp) (by simp;omega) (by simp);have h':zfy (b.take 10) 0 0=some (scan 0 0 (b.take 10)):=h;rw [h',sb];cases scan 0 0 (b.take 10)<;>rfl
theorem zCU (b:List UInt8):zhG b=some ((rd b).2.1,(rd b).2.2):=by unfold zhG;rw [ztI,sb]
theorem zxX:∀(k:Nat) (l:List UInt8),lead k l<=k/\lead k l<=l.length
 | 0,_=>⟨xt _,xx _⟩
 | _+1,[]=>⟨xx _,xt _⟩
 | k+1,c::t=>by
  have:=zxX k t;rw [lead];split<;>simp<;>omega
theorem zxb:∀(l:List UInt8) (i ws:Nat),i+l.length<=10->i<=9->
  scan i ws l=if i+lead (10 - i) l=10 then .inr (0,0,4) else if lead (10 - i) l=l.length then .inl () else if i+lead (10 - i) l=9/\1<(l.getD (lead (10 - i) l) 0).toNat then .inr (0,0,4) else
   .inr (((ws+hor (l.take (lead (10 - i) l+1))*128^i:Nat):Int),((i+lead (10 - i) l+1:Nat):Int),0):=by
 intro l
 induction l with
 | nil=>
  intro i ws _ hi;obtain ⟨k,hk⟩:∃k,10 - i=k+1:=⟨9 - i,by omega⟩;rw [hk];simp only [lead,scan,yZ];rw [xm (by omega),xn trivial]
 | cons c t ih=>
  intro i ws hl hi;obtain ⟨k,hk⟩:∃k,10 - i=k+1:=⟨9 - i,by omega⟩;simp only [xL] at hl;rw [scan];by_cases hc:128<=c.toNat
  ·have e:lead (10 - i) (c::t)=lead k t+1:=by rw [hk,lead,xn hc]
   rw [e];by_cases h9:i=9
   ·have:k=0:=by omega
    subst this;rw [xn ⟨h9,by omega⟩,lead,xn (by omega)]
   ·rw [xm (by omega),xm (by omega),ih (i+1) _ (by omega) (by omega),show 10 - (i+1)=k by omega];by_cases h1:i+1+lead k t=10
    ·rw [xn h1,xn (show i+(lead k t+1)=10 by omega)]
    ·rw [xm h1,xm (show ¬i+(lead k t+1)=10 by omega)];by_cases h2:lead k t=t.length
     ·rw [xn h2,xn (show lead k t+1=(c::t).length by simp;omega)]
     ·rw [xm h2,xm (show ¬lead k t+1=(c::t).length by simp;omega)];have eg:(c::t).getD (lead k t+1) 0=t.getD (lead k t) 0:=by simp [List.getD]
      rw [eg];by_cases h3:i+1+lead k t=9/\1<(t.getD (lead k t) 0).toNat
      ·rw [xn h3,xn (show i+(lead k t+1)=9/\1<(t.getD (lead k t) 0).toNat by omega)]
      ·rw [xm h3,xm (show ¬(i+(lead k t+1)=9/\1<(t.getD (lead k t) 0).toNat) by omega)];rw [yz,hor,qF];have e5:ws+c.toNat%128*128^i+hor (t.take (lead k t+1))*(128^i*128)=ws+(c.toNat%128+128*hor (t.take (lead k t+1)))*128^i:=by
        rw [Nat.add_mul,qQ 128,qB (128^i) 128,<-qQ,qB _ 128,qQ];omega
       rw [e5];congr 3;omega
  ·have e:lead (10 - i) (c::t)=0:=by rw [hk,lead,xm hc]
   rw [e];simp only [yw,xL,List.getD_cons_zero];rw [xm (show ¬i=10 by omega),xm (show ¬0=t.length+1 by omega)];by_cases h9:i=9/\1<c.toNat
   ·rw [xn h9,xn h9]
   ·rw [xm h9,xm h9,xn (show c.toNat<128 by omega)];simp [hor]
theorem zup (x y:List UInt8):hor (x++y)=hor x+128^x.length*hor y:=by
 induction x with
 | nil=>simp [hor]
 | cons c t ih=>simp only [yg,hor,ih,xL,qF,Nat.mul_add];rw [qB (128^t.length) 128,qQ];omega
theorem zAW (l:List UInt8):hor l<128^l.length:=by
 induction l with
 | nil=>simp [hor]
 | cons c t ih=>simp only [hor,xL,qF];omega
theorem zEO (l:List UInt8) (j:Nat):hor (l.drop j)<=hor l:=by
 induction l generalizing j with
 | nil=>simp
 | cons c t ih=>
  cases j with
  | zero=>exact xt _
  | succ j=>have:=ih j;simp only [pu,hor];omega
theorem zDR (b:List UInt8) (a:Nat) (hb:b.length<=1152921504606846976):∀(k n:Nat),n+k=10->a+n<=b.length->zcD a b n=some ((n+lead k (b.drop (a+n)):Nat):Int):=by
 intro k
 induction k with
 | zero=>
  intro n hn ha;refine zfa ?_;unfold zbg;rw [ue];by_cases h1:a+n<b.length
  ·rw [uc,ud,sb,p8];rfl
  ·rw [ud,sb,p8];rfl
 | succ k ih=>
  intro n hn ha;by_cases h1:a+n<b.length
  ·have hd:b.drop (a+n)=b[a+n]::b.drop (a+(n+1)):=yd h1;have wL:zbg a b n=if 128<=b[a+n].toNat then some (.inl ((n+1:Nat):Int)) else some (.inr (n:Int)):=by
    unfold zbg;rw [ue,ue,uc,uc,zS (show (a:Int)+n=((a+n:Nat):Int) by push_cast;rfl) h1,sb,sb];by_cases h2:128<=b[a+n].toNat
    ·rw [xn h2,uc];push_cast;rfl
    ·rw [xm h2,ud]
   rw [hd,lead];by_cases h2:128<=b[a+n].toNat
   ·rw [xn h2] at wL|-;rw [zln wL,ih (n+1) (by omega) (by omega)];congr 2;omega
   ·rw [xm h2] at wL|-;exact zfa wL
  ·have hd:b.drop (a+n)=[]:=yu (by omega);rw [hd];refine zfa ?_;unfold zbg;rw [ue,ud,sb,p8];rfl
theorem zDS (b:List UInt8) (a m:Nat) (hb:b.length<=1152921504606846976) (hm:a+m<=b.length) (hh:hor ((b.drop a).take m)<18446744073709551616):
  ∀(j:Nat),j<=m->zcE a b (hor (((b.drop a).take m).drop j)) ((j:Int) - 1)=some ((hor ((b.drop a).take m):Nat):Int):=by
 intro j
 induction j with
 | zero=>
  intro _;refine zlp ?_;unfold zbG;rw [p9];rfl
 | succ j ih=>
  intro hj;have hL:((b.drop a).take m).length=m:=by simp;omega
  have hd:((b.drop a).take m).drop j=((b.drop a).take m)[j]'(by omega)::((b.drop a).take m).drop (j+1):=yd (by omega);have hc:((b.drop a).take m)[j]'(by omega)=b[a+j]'(by omega):=by simp
  have h1:=zEO ((b.drop a).take m) j;rw [hd,hor,hc] at h1;have h2:=(b[a+j]'(by omega)).toNat_lt;refine (zlo (wv':=(hor (((b.drop a).take m).drop j):Nat)) (i':=(j:Int) - 1) ?_).trans (ih (by omega));unfold zbG;rw [itT (by simp),ue,zS (show (a:Int)+(((j+1:Nat):Int) - 1)=((a+j:Nat):Int) by push_cast;omega) (by omega),sb,ue,hd,hor,hc];simp only [wrap_u64];rw [yD (by omega)];congr 3
  ·omega
  ·push_cast;omega
theorem zGm (hn:n<=9) (hC:C<256) (h9:¬(n=9/\1<C)) (hX:X<128^n):X+128^n*(C%128)<18446744073709551616:=by
 by_cases h9':n=9
 ·subst h9';have:C%128<=1:=by omega
  have:=py (128^9) this;omega
 ·have h5:128^n<=128^8:=pl (by omega) (by omega);have h6:C%128<=127:=by omega
  have:=Nat.mul_le_mul h5 h6;omega
theorem zqi (b:List UInt8) (a:Nat) (hb:b.length<=1152921504606846976) (ha:a<=b.length):zax b a=some (rd (b.drop a)):=by
 unfold zax;have h1:=zDR b a hb 10 0 rfl (by omega);simp only [xP,yw] at h1;have h1':zcD a b 0=some ((lead 10 (b.drop a):Nat):Int):=h1;rw [h1',sb];have hle:=zxX 10 (b.drop a);have wz:(b.drop a).length=b.length - a:=by simp
 -- the ten bytes that count
 have htake:∀(k:Nat) (l:List UInt8),lead k (l.take k)=lead k l:=by
  intro k
  induction k with
  | zero=>intro l;rfl
  | succ k ih=>intro l;cases l with
   | nil=>rfl
   | cons c t=>simp only [yz,lead,ih]
 have hs:=zxb ((b.drop a).take 10) 0 0 (by simp;omega) (by omega);simp only [xP,qA,htake,Nat.pow_zero,Nat.mul_one] at hs;unfold rd;rw [hs];by_cases h10:lead 10 (b.drop a)=10
 ·rw [xn h10,uc];rfl
 ·rw [xm h10,ud,ue];by_cases hl:lead 10 (b.drop a)=(b.drop a).length
  ·rw [xn (show lead 10 (b.drop a)=((b.drop a).take 10).length by rw [xO];omega),uc];rfl
  ·rw [xm (show ¬lead 10 (b.drop a)=((b.drop a).take 10).length by rw [xO];omega),ud];have hlt:a+lead 10 (b.drop a)<b.length:=by omega
   have hg:((b.drop a).take 10).getD (lead 10 (b.drop a)) 0=b[a+lead 10 (b.drop a)]:=by
    rw [qE,yF,xn (by omega),qh,xE hlt];rfl
   rw [hg,ph,yW (by omega)];have hc:=(b[a+lead 10 (b.drop a)]).toNat_lt;have hg2:(if (((lead 10 (b.drop a):Nat):Int)==9)=true then (idx b ((a:Int)+((lead 10 (b.drop a):Nat):Int))>>=fun x2=>some (decide ((x2.toNat:Int)>1))) else some false)=some (decide (lead 10 (b.drop a)=9/\1<(b[a+lead 10 (b.drop a)]).toNat)):=by
    by_cases h9:lead 10 (b.drop a)=9
    ·rw [uc,zS (show (a:Int)+((lead 10 (b.drop a):Nat):Int)=((a+lead 10 (b.drop a):Nat):Int) by push_cast;rfl) hlt,sb];congr 1;simp only [h9,qr,yY];omega
    ·rw [ud];simp [h9]
   rw [hg2,sb];by_cases h9:lead 10 (b.drop a)=9/\1<(b[a+lead 10 (b.drop a)]).toNat
   ·rw [xn h9,itT (by simpa using h9)];rfl
   ·rw [xm h9,itF (yn h9)];have hbd:hor ((b.drop a).take (lead 10 (b.drop a)+1))<18446744073709551616:=by
     have hsp:(b.drop a).take (lead 10 (b.drop a)+1)=(b.drop a).take (lead 10 (b.drop a))++[b[a+lead 10 (b.drop a)]]:=by
      rw [pi,qh,xE hlt];rfl
     rw [hsp,zup];have h3:=zAW ((b.drop a).take (lead 10 (b.drop a)));have h4:((b.drop a).take (lead 10 (b.drop a))).length=lead 10 (b.drop a):=by simp;omega
     rw [h4] at h3|-;simp only [hor,Nat.mul_zero,yw];exact zGm (by omega) (by omega) h9 h3
    have h2:=zDS b a (lead 10 (b.drop a)+1) hb (by omega) hbd (lead 10 (b.drop a)+1) (xt _);have hz:((b.drop a).take (lead 10 (b.drop a)+1)).drop (lead 10 (b.drop a)+1)=[]:=yu (by simp;omega);rw [hz] at h2;have e3:(((lead 10 (b.drop a)+1:Nat):Int) - 1)=((lead 10 (b.drop a):Nat):Int):=by push_cast;omega
    rw [e3] at h2;have h2':zcE a b 0 ((lead 10 (b.drop a):Nat):Int)=some ((hor ((b.drop a).take (lead 10 (b.drop a)+1)):Nat):Int):=h2;rw [h2',sb,ue];simp [rdR]
theorem zwJ:∀(k:Nat) (l:List UInt8),lead k (l.take k)=lead k l
 | 0,_=>rfl
 | _+1,[]=>rfl
 | k+1,c::t=>by simp only [yz,lead,zwJ k t]
theorem zwI:∀(k:Nat) (l:List UInt8),(∀y∈l.take (lead k l),128<=y.toNat)/\∀(h:lead k l<l.length),lead k l<k->(l[lead k l]).toNat<128
 | 0,_=>⟨fun y hy=>by simp [lead] at hy,fun _ h=>by omega⟩
 | _+1,[]=>⟨fun y hy=>by simp at hy,fun h=>by simp at h⟩
 | k+1,c::t=>by
  obtain ⟨h1,h2⟩:=zwI k t;by_cases hc:128<=c.toNat
  ·have e:lead (k+1) (c::t)=lead k t+1:=by rw [lead,xn hc]
   constructor
   ·rw [e,yz];intro y hy;cases hy with
    | head=>exact hc
    | tail _ hy=>exact h1 y hy
   ·simp only [e,pR,xL];intro h hk;exact h2 (by omega) (by omega)
  ·have e:lead (k+1) (c::t)=0:=by rw [lead,xm hc]
   constructor
   ·rw [e];intro y hy;simp at hy
   ·simp only [e];intro _ _;simp;omega
theorem zkl (b:List UInt8):rd b=(0,0,4)\/(rd b=(0,0,3)/\b.length<=9)\/
  ∃x c y,b=x++c::y/\(∀z∈x,128<=z.toNat)/\c.toNat<128/\x.length<=9/\hor (x++[c])<18446744073709551616/\rd b=(((hor (x++[c]):Nat):Int),((x.length+1:Nat):Int),0):=by
 have hle:=zxX 10 b;have hs:=zxb (b.take 10) 0 0 (by simp;omega) (by omega);simp only [xP,qA,zwJ,Nat.pow_zero,Nat.mul_one] at hs;unfold rd;rw [hs];by_cases h10:lead 10 b=10
 ·rw [xn h10];exact .inl rfl
 ·rw [xm h10];by_cases hl:lead 10 b=(b.take 10).length
  ·rw [xn hl];refine .inr (.inl ⟨rfl,?_⟩);rw [xO] at hl;omega
  ·rw [xm hl];rw [xO] at hl;have hlt:lead 10 b<b.length:=by omega
   have hg:(b.take 10).getD (lead 10 b) 0=b[lead 10 b]:=by
    rw [qE,yF,xn (by omega),xE hlt];rfl
   rw [hg,ph,yW (by omega)];have hc:=(b[lead 10 b]).toNat_lt;by_cases h9:lead 10 b=9/\1<(b[lead 10 b]).toNat
   ·rw [xn h9];exact .inl rfl
   ·rw [xm h9];obtain ⟨hf1,hf2⟩:=zwI 10 b;have hsp:b.take (lead 10 b+1)=b.take (lead 10 b)++[b[lead 10 b]]:=by
     rw [pi,xE hlt];rfl
    have wz:(b.take (lead 10 b)).length=lead 10 b:=by rw [xO];omega
    refine .inr (.inr ⟨b.take (lead 10 b),b[lead 10 b],b.drop (lead 10 b+1),?_,hf1,hf2 hlt (by omega),by omega,?_,?_⟩)
    ·rw [<-yd hlt,qn]
    ·rw [zup];have h3:=zAW (b.take (lead 10 b));rw [wz] at h3|-;simp only [hor,Nat.mul_zero,yw];exact zGm (by omega) (by omega) h9 h3
    ·rw [hsp,wz];simp [rdR]
theorem zIw (h:v<128):enc v=[UInt8.ofNat v]:=by rw [enc,xn h]
theorem zIv (h:¬v<128):enc v=UInt8.ofNat (128+v%128)::enc (v/128):=by rw [enc,xm h]
theorem zxN:∀(v:Nat),(enc v).length=lenN v:=by
 intro v
 induction v using Nat.strongRecOn with
 | _ v ih=>
  by_cases h:v<128
  ·rw [zIw h,zoV h];rfl
  ·rw [zIv h,zqQ h,xL,ih _ (by omega)]
theorem zIk (v:Nat):shrI .u64 (v:Int) 7=((v/128:Nat):Int):=zvj (k:= .u64) (a:=v) (b:=7) (by simp [IntKind.bits])
theorem zFk:∀(w n:Nat),n+w<9223372036854775808+w->n+lz w<=1152921504606846976->zhn w n=some ((n+lz w:Nat):Int):=by
 intro w
 induction w using Nat.strongRecOn with
 | _ w ih=>
  intro n hn hl;by_cases h:w=0
  ·subst h;refine zth ?_;unfold zgt;rw [p9];rfl
  ·have e:=zIQ h;refine (ztg (wv2':=((w/128:Nat):Int)) (n':=((n+1:Nat):Int)) ?_).trans ?_
   ·unfold zgt;rw [uc,zIk,ue];rfl
   ·rw [ih (w/128) (by omega) (n+1) (by omega) (by omega)];congr 2;omega
theorem zIK {v:Nat} (h:v<18446744073709551616):znK (v:Int)=some ((lenN v:Nat):Int):=by
 unfold znK;have h1:=zIP v;have h2:=zFj h;have h3:=zFk (v/128) 1 (by omega) (by omega);have h3':zhn ((v/128:Nat):Int) 1=some ((1+lz (v/128):Nat):Int):=h3;rw [zIk,h3',sb,h1]
theorem zBI (a b:List UInt8):zgo a b=some (a==b):=rfl
def zgm (n w:Int):Bool:=decide (1<=n/\n<=536870911/\(w=0\/w=1\/w=2\/w=5))
def tgR (r:Int×Int×Int):Int×Int×Int×Int:=
 if r.2.2≠0 then (0,0,0,r.2.2) else if 4294967295<r.1\/zgm (r.1/8) (r.1%8)=false then (0,0,0,5) else (r.1/8,r.1%8,r.2.1,0)
def tg (l:List UInt8):Int×Int×Int×Int:=tgR (rd l)
def tW (n w:Int):Nat:=(8*n+w).toNat
theorem zqo :zgm n w=true↔1<=n/\n<=536870911/\(w=0\/w=1\/w=2\/w=5):=by simp [zgm]
theorem zzV (n w:Int):zel n w=some (zgm n w):=by
 unfold zel zgm;simp [Bool.decide_and,Bool.decide_or,Bool.beq_eq_decide_eq]
theorem zgN (l:List UInt8):0<=(rd l).1/\(rd l).1<18446744073709551616/\0<=(rd l).2.1/\(rd l).2.1<=10/\(rd l).2.1<=l.length/\((rd l).2.2=0\/(rd l).2.2=3\/(rd l).2.2=4)/\((rd l).2.2=0->1<=(rd l).2.1):=by
 rcases zkl l with h| ⟨h,_⟩| ⟨x,c,y,e,_,_,hl,hv,h⟩
 ·rw [h];simp
 ·rw [h];simp
 ·have:l.length=x.length+1+y.length:=by rw [e];simp;omega
  rw [h];refine ⟨?_,?_,?_,?_,?_,.inl rfl,fun _=>?_⟩<;>simp only<;>omega
theorem zCR (x:List UInt8) (c:UInt8) (y:List UInt8) (hx:∀z∈x,128<=z.toNat) (hc:c.toNat<128) (hl:x.length<=9) (hv:hor (x++[c])<18446744073709551616):
  rd (x++c::y)=(((hor (x++[c]):Nat):Int),((x.length+1:Nat):Int),0):=by
 have key:∀(x:List UInt8) (z:List UInt8) (i ws:Nat),(∀z∈x,128<=z.toNat)->i+x.length<=9->ws+hor (x++[c])*128^i<18446744073709551616->scan i ws (x++c::z)= .inr (((ws+hor (x++[c])*128^i:Nat):Int),((i+x.length+1:Nat):Int),0):=by
  intro x
  induction x with
  | nil=>
   intro z i ws _ hi hv;have e1:hor ([]++[c])=c.toNat:=by simp [hor];omega
   rw [e1] at hv|-;rw [xR,scan,xm,xn hc,pz hc]
   ·rfl
   ·rintro ⟨rfl,h2⟩;have:=yp (128^9) (show 2<=c.toNat by omega);omega
  | cons d x ih=>
   intro z i ws hx hi hv;simp only [xL] at hi;have hd:=hx d xo;have e5:ws+hor ((d::x)++[c])*128^i=ws+d.toNat%128*128^i+hor (x++[c])*128^(i+1):=by
    rw [yg,hor,qF,Nat.add_mul,qB (128^i) 128,<-qQ,qB (hor (x++[c])) 128];omega
   rw [e5] at hv|-;rw [yg,scan,xm (by omega),xm (by omega),ih z (i+1) _ (fun z hz=>hx z (xp _ hz)) (by omega) hv,xL];congr 3;omega
 unfold rd;have e2:(x++c::y).take 10=x++c::y.take (9 - x.length):=by
  rw [qH,yI (by omega),show 10 - x.length=(9 - x.length)+1 by omega,yz]
 rw [e2,key x _ 0 0 hx (by omega) (by simpa using hv)];simp [rdR]
theorem zsf (l m:List UInt8) (h:(rd l).2.2=0):rd (l++m)=rd l:=by
 rcases zkl l with h'| ⟨h',_⟩| ⟨x,c,y,e,hx,hc,hl,hv,h'⟩
 ·rw [h'] at h;cases h
 ·rw [h'] at h;cases h
 ·rw [h',e,yr,yg,zCR x c _ hx hc hl hv]
theorem zxi (l m:List UInt8) (h:(rd l).2.2=0):tg (l++m)=tg l:=by unfold tg;rw [zsf l m h]
theorem zyG (h:r.2.2≠0):tgR r=(0,0,0,r.2.2):=xn h
theorem zoD (h:r.2.2=0) (h2:4294967295<r.1\/zgm (r.1/8) (r.1%8)=false):tgR r=(0,0,0,5):=by unfold tgR;rw [xm (by simp [h]),xn h2]
theorem zBL (h:r.2.2=0) (h2:¬(4294967295<r.1\/zgm (r.1/8) (r.1%8)=false)):tgR r=(r.1/8,r.1%8,r.2.1,0):=by unfold tgR;rw [xm (by simp [h]),xm h2]
theorem zvr (l:List UInt8):(∃c,tg l=(0,0,0,c)/\(c=3\/c=4\/c=5))\/∃n w k,tg l=(n,w,k,0)/\zgm n w=true/\1<=k/\k<=10/\k<=l.length/\rd l=(8*n+w,k,0):=by
 obtain ⟨h1,h2,h3,h4,h5,h6,h7⟩:=zgN l;unfold tg;by_cases h:(rd l).2.2=0
 ·by_cases hg:4294967295<(rd l).1\/zgm ((rd l).1/8) ((rd l).1%8)=false
  ·exact .inl ⟨5,zoD h hg,by omega⟩
  ·refine .inr ⟨_,_,_,zBL h hg,?_,h7 h,h4,h5,?_⟩
   ·cases ht:zgm ((rd l).1/8) ((rd l).1%8)
    ·exact absurd (.inr ht) hg
    ·rfl
   ·refine Prod.ext ?_ (Prod.ext rfl h);simp only;omega
 ·exact .inl ⟨_,zyG h,by omega⟩
theorem zyl (b:List UInt8) (a:Nat) (hb:b.length<=1152921504606846976) (ha:a<=b.length):zeO b a=some (tg (b.drop a)):=by
 unfold zeO tg;obtain ⟨h1,h2,h3,h4,h5,h6,h7⟩:=zgN (b.drop a);rw [zqi b a hb ha,sb];by_cases h:(rd (b.drop a)).2.2=0
 ·rw [itF (by simpa using h)];have e1:i64.wrap (u64.wrap (Int.tdiv (rd (b.drop a)).1 8))=(rd (b.drop a)).1/8:=by
   rw [pk h1,wrap_u64,qo (by omega) (by omega),ue]
  have e2:i64.wrap (Int.tmod (rd (b.drop a)).1 8)=(rd (b.drop a)).1%8:=by
   rw [yD h1,ue]
  simp only [e1,e2,zzV,sb];by_cases hg:4294967295<(rd (b.drop a)).1
  ·rw [itT (by simpa using hg),sb,p7,zoD h (.inl hg)]
  ·rw [itF (by simpa using hg),sb];cases ht:zgm ((rd (b.drop a)).1/8) ((rd (b.drop a)).1%8)
   ·rw [p7,zoD h (.inr ht)]
   ·rw [p8,zBL h (by simp [ht];omega)]
 ·rw [itT (by simpa using h),zyG h]
abbrev Rec:=zj
def zdW (w:Int) (k:Nat) (m:List UInt8):Int⊕(Nat×Nat):=
 if w=0 then (if (rd m).2.2≠0 then .inl (rd m).2.2 else .inr (k,k+(rd m).2.1.toNat))
 else if w=2 then (if (rd m).2.2≠0 then .inl (rd m).2.2 else if (m.length:Int) - (rd m).2.1<(rd m).1 then .inl 3 else .inr (k+(rd m).2.1.toNat,k+(rd m).2.1.toNat+(rd m).1.toNat))
 else if m.length<(if w=5 then 4 else 8) then .inl 3 else .inr (k,k+(if w=5 then 4 else 8))
def rec5 (l:List UInt8):Int⊕(Int×Int×Nat×Nat):=
 if (tg l).2.2.2≠0 then .inl (tg l).2.2.2 else match zdW (tg l).2.1 (tg l).2.2.1.toNat (l.drop (tg l).2.2.1.toNat) with
  | .inl c=> .inl c
  | .inr p=> .inr ((tg l).1,(tg l).2.1,p.1,p.2)
theorem ziS (w:Int) (k:Nat) (m:List UInt8):(∃c,zdW w k m= .inl c/\(c=3\/c=4))\/
  ∃a t,zdW w k m= .inr (a,t)/\k<=a/\a<=t/\t<=k+m.length/\
   (w=0/\a=k/\(rd m).2.2=0/\((t - k:Nat):Int)=(rd m).2.1/\k<t\/w=2/\(rd m).2.2=0/\((a - k:Nat):Int)=(rd m).2.1/\((t - a:Nat):Int)=(rd m).1\/w≠0/\w≠2/\a=k/\t=k+(if w=5 then 4 else 8)):=by
 obtain ⟨h1,h2,h3,h4,h5,h6,h7⟩:=zgN m;unfold zdW;by_cases w0:w=0
 ·rw [xn w0];by_cases h:(rd m).2.2=0
  ·have:=h7 h;rw [xm (by simpa using h)];exact .inr ⟨_,_,rfl,xt _,by omega,by omega,.inl ⟨w0,rfl,h,by omega,by omega⟩⟩
  ·rw [xn h];exact .inl ⟨_,rfl,by omega⟩
 ·rw [xm w0];by_cases w2:w=2
  ·rw [xn w2];by_cases h:(rd m).2.2=0
   ·rw [xm (by simpa using h)];by_cases h8:(m.length:Int) - (rd m).2.1<(rd m).1
    ·rw [xn h8];exact .inl ⟨_,rfl,by omega⟩
    ·rw [xm h8];exact .inr ⟨_,_,rfl,by omega,by omega,by omega,.inr (.inl ⟨w2,h,by omega,by omega⟩)⟩
   ·rw [xn h];exact .inl ⟨_,rfl,by omega⟩
  ·rw [xm w2];by_cases h8:m.length<(if w=5 then 4 else 8)
   ·rw [xn h8];exact .inl ⟨_,rfl,by omega⟩
   ·rw [xm h8];exact .inr ⟨_,_,rfl,xt _,by omega,by omega,.inr (.inr ⟨w0,w2,rfl,rfl⟩)⟩
theorem zxB (w:Int) (k:Nat) (m z:List UInt8) (h:zdW w k m= .inr p):zdW w k (m++z)= .inr p:=by
 unfold zdW at h|-;by_cases w0:w=0
 ·rw [xn w0] at h|-;by_cases h0:(rd m).2.2=0
  ·rw [zsf m z h0];exact h
  ·rw [xn h0] at h;cases h
 ·rw [xm w0] at h|-;by_cases w2:w=2
  ·rw [xn w2] at h|-;by_cases h0:(rd m).2.2=0
   ·rw [zsf m z h0];rw [xm (by simpa using h0)] at h|-;by_cases h8:(m.length:Int) - (rd m).2.1<(rd m).1
    ·rw [xn h8] at h;cases h
    ·rw [xm h8] at h;rw [xm (by simp only [xz];omega)];exact h
   ·rw [xn h0] at h;cases h
  ·rw [xm w2] at h|-;by_cases h8:m.length<(if w=5 then 4 else 8)
   ·rw [xn h8] at h;cases h
   ·rw [xm h8] at h;rw [xm (by simp only [xz];omega)];exact h
theorem zkm (l:List UInt8):(∃c,rec5 l= .inl c/\(c=3\/c=4\/c=5))\/
  ∃(n w:Int) (k a t:Nat),rec5 l= .inr (n,w,a,t)/\tg l=(n,w,(k:Int),0)/\zgm n w=true/\zdW w k (l.drop k)= .inr (a,t)/\1<=k/\k<=l.length/\k<=a/\a<=t/\t<=l.length/\rd l=(8*n+w,(k:Int),0):=by
 rcases zvr l with ⟨c,h,hc⟩| ⟨n,w,k,h,hr,k1,k2,k3,hrd⟩
 ·refine .inl ⟨c,?_,hc⟩;unfold rec5;rw [h,xn (by simp only;omega)]
 ·obtain ⟨k,rfl⟩:∃j:Nat,k=j:=⟨k.toNat,by omega⟩
  have e:rec5 l=match zdW w k (l.drop k) with
   | .inl c=> .inl c
   | .inr p=> .inr (n,w,p.1,p.2):=by unfold rec5;rw [h];simp
  rcases ziS w k (l.drop k) with ⟨c,h2,hc⟩| ⟨a,t,h2,g1,g2,g3,_⟩
  ·exact .inl ⟨c,by rw [e,h2],by omega⟩
  ·simp only [xN] at g3;exact .inr ⟨n,w,k,a,t,by rw [e,h2],h,hr,h2,by omega,by omega,g1,g2,by omega,hrd⟩
theorem zzP (l z:List UInt8) (h:rec5 l= .inr r):rec5 (l++z)= .inr r:=by
 rcases zkm l with ⟨c,h',_⟩| ⟨n,w,k,a,t,h',htg,_,hb,_,hk,_,_,_,hrd⟩
 ·rw [h'] at h;cases h
 ·rw [h'] at h;have e:tg (l++z)=(n,w,(k:Int),0):=by rw [zxi l z (by rw [hrd]),htg]
  unfold rec5;rw [e];simp only [yx,yE,yc,xB];rw [pK hk,zxB _ _ _ _ hb];exact h
def zrec:Rec:=⟨0,0,0,0,0⟩
def zcS (b:List UInt8) (at5:Int):Rec×Int:=if at5<0\/at5>=b.length then (zrec,2) else match rec5 (b.drop at5.toNat) with
 | .inl c=>(zrec,c)
 | .inr (n,w,a,t)=>(⟨n,w,at5,at5+a,at5+t⟩,0)
theorem zzT (hb:b.length<=140737488355328) (at5:Int):zdO b at5=some (zcS b at5):=by
 unfold zdO zcS;by_cases h:at5<0\/at5>=b.length
 ·rw [itT (by simpa using h),xn h];rfl
 ·rw [itF (by simpa using h),xm h];obtain ⟨p,rfl⟩:∃p:Nat,at5=p:=⟨at5.toNat,by omega⟩;rw [zyl b p (by omega) (by omega),sb,xB];have hdl:(b.drop p).length=b.length - p:=by simp
  rcases zvr (b.drop p) with ⟨c,ht,hc⟩| ⟨n,w,k,ht,hr,k1,k2,k3,hrd⟩
  ·have e:rec5 (b.drop p)= .inl c:=by unfold rec5;rw [ht,xn (by simp only;omega)]
   rw [e,ht,uc];rfl
  ·obtain ⟨k,rfl⟩:∃j:Nat,k=j:=⟨k.toNat,by omega⟩
   have e:rec5 (b.drop p)=match zdW w k ((b.drop p).drop k) with
    | .inl c=> .inl c
    | .inr p=> .inr (n,w,p.1,p.2):=by unfold rec5;rw [ht];simp
   have hdd:(b.drop p).drop k=b.drop (p+k):=by rw [xU]
   have hml:(b.drop (p+k)).length=b.length - (p+k):=by simp
   obtain ⟨h1,h2,h3,h4,h5,h6,h7⟩:=zgN (b.drop (p+k));rw [e,ht,p9,hdd];have ew:i64.wrap ((p:Int)+k)=((p+k:Nat):Int):=by rw [ue];push_cast;rfl
   have er:i64.wrap ((b.length:Int) - ((p+k:Nat):Int))=((b.length - (p+k):Nat):Int):=by rw [ue];omega
   simp only [ew,er];have hw:=(zqo.1 hr).2.2;rcases hw with rfl| rfl| rfl| rfl
   ·-- a varint
    rw [p8,sb,p7,zqi b (p+k) (by omega) (by omega),sb];by_cases g:(rd (b.drop (p+k))).2.2=0
    ·have:=h7 g;have hb5:zdW 0 k (b.drop (p+k))= .inr (k,k+(rd (b.drop (p+k))).2.1.toNat):=by unfold zdW;rw [xn rfl,xm (by simpa using g)]
     rw [itF (by simpa using g),sb,hb5];simp only;rw [p8,sb];simp only;rw [ud,ue];simp;omega
    ·have hb5:zdW 0 k (b.drop (p+k))= .inl (rd (b.drop (p+k))).2.2:=by unfold zdW;rw [xn rfl,xn g]
     rw [itT (by simpa using g),sb,hb5];rfl
   ·rw [p8,sb,p8,sb];simp only;rw [p8,sb];unfold zdW;rw [xm (by omega),xm (by omega)];simp only;by_cases g:b.length - (p+k)<8
    ·rw [uc,xn (by simpa [hml] using g)];rfl
    ·rw [ud,xm (by simpa [hml] using g),ue];simp;omega
   ·rw [p8,sb,p8,sb];simp only;rw [p7,zqi b (p+k) (by omega) (by omega),sb];by_cases g:(rd (b.drop (p+k))).2.2=0
    ·have:=h7 g;have e1:i64.wrap (((b.length - (p+k):Nat):Int) - (rd (b.drop (p+k))).2.1)=((b.drop (p+k)).length:Int) - (rd (b.drop (p+k))).2.1:=by rw [ue,hml]
     have e2:u64.wrap (((b.drop (p+k)).length:Int) - (rd (b.drop (p+k))).2.1)=((b.drop (p+k)).length:Int) - (rd (b.drop (p+k))).2.1:=by rw [wrap_u64,qo (by omega) (by omega)]
     rw [itF (by simpa using g)];simp only [e1,e2];by_cases g2:((b.drop (p+k)).length:Int) - (rd (b.drop (p+k))).2.1<(rd (b.drop (p+k))).1
     ·have hb5:zdW 2 k (b.drop (p+k))= .inl 3:=by unfold zdW;rw [xm (by omega),xn rfl,xm (by simpa using g),xn g2]
      rw [itT (by simpa using g2),sb,hb5];rfl
     ·have hb5:zdW 2 k (b.drop (p+k))= .inr (k+(rd (b.drop (p+k))).2.1.toNat,k+(rd (b.drop (p+k))).2.1.toNat+(rd (b.drop (p+k))).1.toNat):=by
       unfold zdW;rw [xm (by omega),xn rfl,xm (by simpa using g),xm g2]
      rw [itF (by simpa using g2),sb,hb5];simp only;rw [zo (x:=(rd (b.drop (p+k))).1) (by omega),itF (by simpa using g2),zo (x:=((p+k:Nat):Int)+(rd (b.drop (p+k))).2.1) (by omega),ue];simp;omega
    ·have hb5:zdW 2 k (b.drop (p+k))= .inl (rd (b.drop (p+k))).2.2:=by unfold zdW;rw [xm (by omega),xn rfl,xn g]
     rw [itT (by simpa using g),sb,hb5];rfl
   ·rw [p7,sb,p8,sb];simp only;rw [p8,sb];unfold zdW;rw [xm (by omega),xm (by omega)];simp only;by_cases g:b.length - (p+k)<4
    ·rw [uc,xn (by simpa [hml] using g)];rfl
    ·rw [ud,xm (by simpa [hml] using g),ue];simp;omega
theorem zBB {b:List UInt8} (hb:b.length<=1048576) (at5:Int):zdO b at5=some (zcS b at5):=zzT (by omega) at5
def spl (base:Nat) (l:List UInt8):List Rec×Option (Nat×Int):=
 if hl:l=[] then ([],none) else match h:rec5 l with
  | .inl c=>([],some (base,c))
  | .inr (n,w,a,t)=>(⟨n,w,base,(base+a:Nat),(base+t:Nat)⟩::(spl (base+t) (l.drop t)).1,(spl (base+t) (l.drop t)).2)
termination_by l.length
decreasing_by
 all_goals
  rcases zkm l with ⟨c',h',_⟩| ⟨n',w',k',a',t',h',_,_,_,g1,g2,g3,g4,g5,_⟩
  ·rw [h'] at h;cases h
  ·rw [h'] at h;cases h;simp only [xN];omega
theorem zey (base:Nat):spl base []=([],none):=by rw [spl,dif_pos rfl]
theorem zgr (hl:l≠[]) (h:rec5 l= .inl c):spl base l=([],some (base,c)):=by
 rw [spl,dif_neg hl];split
 ·rename_i c' h';rw [h] at h';cases h';rfl
 ·rename_i h';rw [h] at h';cases h'
theorem zdv (hl:l≠[]) (h:rec5 l= .inr (n,w,a,t)):
  spl base l=(⟨n,w,base,(base+a:Nat),(base+t:Nat)⟩::(spl (base+t) (l.drop t)).1,(spl (base+t) (l.drop t)).2):=by
 rw [spl,dif_neg hl];split
 ·rename_i c' h';rw [h] at h';cases h'
 ·rename_i n' w' a' t' h';rw [h] at h';cases h';rfl
theorem zgQ (P:Nat->List UInt8->Prop) (h0:∀base,P base []) (he:∀base l c,l≠[]->rec5 l= .inl c->(c=3\/c=4\/c=5)->P base l)
  (hc:∀base l (n w:Int) (a t:Nat),l≠[]->rec5 l= .inr (n,w,a,t)->zgm n w=true->1<=a->a<=t->t<=l.length->P (base+t) (l.drop t)->P base l) (base:Nat) (l:List UInt8):P base l:=by
 generalize hn:l.length=m
 induction m using Nat.strongRecOn generalizing base l with
 | _ m ih=>
  by_cases hl:l=[]
  ·subst hl;exact h0 base
  ·rcases zkm l with ⟨c,h,hc'⟩| ⟨n,w,k,a,t,h,_,hr,_,g1,g2,g3,g4,g5,_⟩
   ·exact he base l c hl h hc'
   ·exact hc base l n w a t hl h hr (by omega) g4 g5 (ih _ (by simp only [xN];omega) _ _ rfl)
theorem zHx (base:Nat) (l:List UInt8):(spl base l).1.length<=l.length:=by
 refine zgQ (fun base l=>(spl base l).1.length<=l.length) ?_ ?_ ?_ base l
 ·intro base;rw [zey];simp
 ·intro base l c hl h _;rw [zgr hl h];simp
 ·intro base l n w a t hl h _ g1 g2 g3 ih;rw [zdv hl h];simp only [xL,xN] at ih|-;omega
theorem zFT (base:Nat) (l:List UInt8):∀p c,(spl base l).2=some (p,c)->(c=3\/c=4\/c=5)/\base<=p/\p<base+l.length:=by
 refine zgQ (fun base l=>∀p c,(spl base l).2=some (p,c)->(c=3\/c=4\/c=5)/\base<=p/\p<base+l.length) ?_ ?_ ?_ base l
 ·intro base p c h;rw [zey] at h;cases h
 ·intro base l c' hl h hc p c h2;rw [zgr hl h] at h2;cases h2;have:0<l.length:=yK.2 hl;exact ⟨hc,by omega,by omega⟩
 ·intro base l n w a t hl h _ g1 g2 g3 ih p c h2;rw [zdv hl h] at h2;have:=ih p c h2;simp only [xN] at this;omega
def zkr (d:Nat) (r:Rec):Rec:=⟨r.Number,r.Wire,r.From+d,r.At+d,r.To+d⟩
theorem zxc (d:Nat) (base:Nat) (l:List UInt8):spl (base+d) l=((spl base l).1.map (zkr d),(spl base l).2.map fun p=>(p.1+d,p.2)):=by
 refine zgQ (fun base l=>spl (base+d) l=((spl base l).1.map (zkr d),(spl base l).2.map fun p=>(p.1+d,p.2))) ?_ ?_ ?_ base l
 ·intro base;rw [zey,zey];rfl
 ·intro base l c hl h _;rw [zgr hl h,zgr hl h];rfl
 ·intro base l n w a t hl h _ g1 g2 g3 ih;rw [zdv hl h,zdv hl h,show base+d+t=base+t+d by omega,ih];simp only [xC,zkr,ym,yB,zj.mk.injEq,qr,qO];push_cast;omega
theorem zvm (m:List UInt8) (base:Nat) (l:List UInt8):(spl base l).2=none->spl base (l++m)=((spl base l).1++(spl (base+l.length) m).1,(spl (base+l.length) m).2):=by
 refine zgQ (fun base l=>(spl base l).2=none->spl base (l++m)=((spl base l).1++(spl (base+l.length) m).1,(spl (base+l.length) m).2)) ?_ ?_ ?_ base l
 ·intro base _;rw [zey];simp
 ·intro base l c hl h _ h2;rw [zgr hl h] at h2;cases h2
 ·intro base l n w a t hl h _ g1 g2 g3 ih h2;rw [zdv hl h] at h2|-;rw [zdv (by simp [hl]) (zzP l m h),pK g3,ih h2];simp only [xN,yg,show base+t+(l.length - t)=base+l.length by omega]
def zfr (w:Int) (v:List UInt8):Bool:=
 if w=0 then decide ((rd v).2.2=0/\(rd v).2.1=v.length) else decide (w=2\/w=1/\v.length=8\/w=5/\v.length=4)
def put5 (n w:Int) (v:List UInt8):List UInt8:=enc (tW n w)++(if w=2 then enc v.length else [])++v
theorem zBz (w:Int) {v:List UInt8} (hv:v.length<=1048576):zeQ w v=some (zfr w v):=by
 unfold zeQ zfr;by_cases h:w=0
 ·have:=zqi v 0 (by omega) (xx _);rw [yb] at this;have h':zax v 0=some (rd v):=this;rw [itT (by simpa using h),xn h,h',sb];simp [Bool.decide_and,Bool.beq_eq_decide_eq]
 ·rw [itF (by simpa using h),xm h];congr 1;have e8:((v.length:Int)==8)=decide (v.length=8):=zqt _ 8;have e4:((v.length:Int)==4)=decide (v.length=4):=zqt _ 4;rw [e8,e4];by_cases h1:w=1
  ·subst h1;simp
  ·by_cases h2:w=2
   ·subst h2;simp
   ·by_cases h5:w=5
    ·subst h5;simp
    ·simp [h1,h2,h5]
theorem zFB (n w:Int) (v:List UInt8):(put5 n w v).length=(enc (tW n w)).length+(if w=2 then (enc v.length).length else 0)+v.length:=by
 unfold put5;split
 ·simp;omega
 ·simp
theorem zCc {l:List UInt8} {k:Nat} (h:rd l=((rd l).1,(k:Int),0)):(enc (rd l).1.toNat).length<=k:=by
 rcases zkl l with h'| ⟨h',_⟩| ⟨x,c,y,e,hx,hc,hl,hv,h'⟩
 ·rw [h'] at h;cases h
 ·rw [h'] at h;cases h
 ·rw [h'] at h|-;have hk:(x.length:Int)+1=k:=by have:=congrArg (fun p=>p.2.1) h;simpa using this
  simp only [xB];have h1:=zAW (x++[c]);rw [zxN];have key:∀(j v:Nat),v<128^(j+1)->lenN v<=j+1:=by
   intro j
   induction j with
   | zero=>intro v hv;rw [zoV (by omega)];omega
   | succ j ih=>
    intro v hv;by_cases h2:v<128
    ·rw [zoV h2];omega
    ·rw [zqQ h2];have:=ih (v/128) (by rw [qF] at hv;exact Nat.div_lt_of_lt_mul (by omega));omega
  have:=key x.length (hor (x++[c])) (by simpa using h1);omega
theorem zBx {l:List UInt8} {n w:Int} {a t:Nat} (h:rec5 l= .inr (n,w,a,t)):
  zfr w ((l.drop a).take (t - a))=true/\((l.drop a).take (t - a)).length=t - a/\(put5 n w ((l.drop a).take (t - a))).length<=t:=by
 rcases zkm l with ⟨c,h',_⟩| ⟨n',w',k,a',t',h',_,hr,hb,g1,g2,g3,g4,g5,hrd⟩
 ·rw [h'] at h;cases h
 ·rw [h'] at h;cases h;have wz:((l.drop a).take (t - a)).length=t - a:=by simp;omega
  have hm:=zCc (l:=l) (k:=k) (by rw [hrd]);have e1:(rd l).1.toNat=tW n w:=by rw [hrd];rfl
  rw [e1] at hm;refine ⟨?_,wz,?_⟩
  ·rcases ziS w k (l.drop k) with ⟨c,hc,_⟩| ⟨a2,t2,h2,k1,k2,k3,hcase⟩
   ·rw [hc] at hb;cases hb
   ·rw [h2] at hb;cases hb;unfold zfr;rcases hcase with ⟨rfl,rfl,f1,f2,f3⟩| ⟨rfl,f1,f2,f3⟩| ⟨w0,w2,rfl,f1⟩
    ·rw [xn rfl]
     -- what is read is the value alone
     have hv:rd ((l.drop a).take (t - a))=rd (l.drop a):=by
      rcases zkl (l.drop a) with h6| ⟨h6,_⟩| ⟨x,c,y,e,hx,hc,hl,hv,h6⟩
      ·rw [h6] at f1;cases f1
      ·rw [h6] at f1;cases f1
      ·rw [h6] at f2;have e7:t - a=(x++[c]).length:=by simp at f2|-;omega
       have e8:(l.drop a).take (t - a)=x++c::[]:=by rw [e7,e,pm x c y,pQ]
       rw [e8,zCR x c [] hx hc hl hv,h6]
     rw [hv];exact xV ⟨f1,by rw [<-f2,wz]⟩
    ·rw [xm (by omega)];exact xV (.inl rfl)
    ·have hw:=(zqo.1 hr).2.2;rw [xm w0];rw [wz,f1];refine xV ?_;rcases hw with rfl| rfl| rfl| rfl
     ·exact absurd rfl w0
     ·right;left;simp
     ·exact absurd rfl w2
     ·right;right;simp
  ·rw [zFB,wz];rcases ziS w k (l.drop k) with ⟨c,hc,_⟩| ⟨a2,t2,h2,k1,k2,k3,hcase⟩
   ·rw [hc] at hb;cases hb
   ·rw [h2] at hb;cases hb;by_cases hw2:w=2
    ·rw [xn hw2];rcases hcase with ⟨rfl,_⟩| ⟨_,f1,f2,f3⟩| ⟨_,w2,_⟩
     ·omega
     ·have hm2:=zCc (l:=l.drop k) (k:=a - k) (by rw [f2];exact Prod.ext rfl (Prod.ext rfl f1));have e3:(rd (l.drop k)).1.toNat=t - a:=by omega
      rw [e3] at hm2;omega
     ·exact absurd hw2 w2
    ·rw [xm hw2];omega
theorem zyk (l:List UInt8) {j:Nat} (h:(rd l).2.2=0) (hj:(rd l).2.1<=j):rd (l.take j)=rd l:=by
 rcases zkl l with h6| ⟨h6,_⟩| ⟨x,c,y,e,hx,hc,hl,hv,h6⟩
 ·rw [h6] at h;cases h
 ·rw [h6] at h;cases h
 ·rw [h6] at hj;have hj':(x++[c]).length<=j:=by simp at hj|-;omega
  have:l.take j=x++c::y.take (j - (x++[c]).length):=by
   rw [e,pm x c y,qH,yI hj',<-pm]
  rw [this,zCR x c _ hx hc hl hv,h6]
theorem zAL (h:zdW w k m= .inr (a,t)):zdW w k (m.take (t - k))= .inr (a,t):=by
 rcases ziS w k m with ⟨c,hc,_⟩| ⟨a2,t2,h2,k1,k2,k3,hcase⟩
 ·rw [hc] at h;cases h
 ·rw [h2] at h;cases h;have hl:(m.take (t - k)).length=t - k:=by simp;omega
  rcases hcase with ⟨rfl,rfl,f1,f2,f3⟩| ⟨rfl,f1,f2,f3⟩| ⟨w0,w2,rfl,f1⟩
  ·have hr:=zyk m (j:=t - a) f1 (by omega);unfold zdW at h2|-;rw [xn rfl] at h2|-;rw [hr];exact h2
  ·have hr:=zyk m (j:=t - k) f1 (by omega);unfold zdW at h2|-;rw [xm (by omega),xn rfl] at h2|-;rw [hr];rw [xm (by simpa using f1)] at h2|-;split at h2
   ·cases h2
   ·rw [xm (by rw [hl];omega)];exact h2
  ·unfold zdW;rw [xm w0,xm w2,xm (by rw [hl];omega),<-f1]
theorem zDP (h:rec5 l= .inr (n,w,a,t)):rec5 (l.take t)= .inr (n,w,a,t):=by
 rcases zkm l with ⟨c,h',_⟩| ⟨n',w',k,a',t',h',htg,hr,hb,g1,g2,g3,g4,g5,hrd⟩
 ·rw [h'] at h;cases h
 ·rw [h'] at h;cases h;have hr1:=zyk l (j:=t) (by rw [hrd]) (by rw [hrd];simp only;omega);have e:tg (l.take t)=(n,w,(k:Int),0):=by
   have:=zxi (l.take t) (l.drop t) (by rw [hr1,hrd]);rw [qn,htg] at this;exact this.symm
  unfold rec5;rw [e];simp only [yx,yE,yc,xB];rw [qN,zAL hb]
theorem zHy (b:List UInt8) (base:Nat) (l:List UInt8):l=b.drop base->base<=b.length->∀r∈(spl base l).1,∃(n w:Int) (f a t:Nat),r=⟨n,w,(f:Int),((f+a:Nat):Int),((f+t:Nat):Int)⟩/\rec5 (b.drop f)= .inr (n,w,a,t)/\1<=a/\a<=t/\f+t<=b.length:=by
 refine zgQ (fun base l=>l=b.drop base->base<=b.length->∀r∈(spl base l).1,∃(n w:Int) (f a t:Nat),r=⟨n,w,(f:Int),((f+a:Nat):Int),((f+t:Nat):Int)⟩/\rec5 (b.drop f)= .inr (n,w,a,t)/\1<=a/\a<=t/\f+t<=b.length) ?_ ?_ ?_ base l
 ·intro base _ _ r hr;rw [zey] at hr;cases hr
 ·intro base l c hl h _ _ _ r hr;rw [zgr hl h] at hr;cases hr
 ·intro base l n w a t hl h _ g1 g2 g3 ih hld hbase r hr;have wz:l.length=b.length - base:=by rw [hld];simp
  rw [zdv hl h] at hr;rcases xr.1 hr with rfl| hr
  ·exact ⟨n,w,base,a,t,rfl,by rw [<-hld];exact h,g1,g2,by omega⟩
  ·exact ih (by rw [hld,xU]) (by omega) r hr
def rawW (k:Int) (b:List UInt8):Int:=if zcv k=0 then (rd b).1 else (word (b.take 8):Nat)
def znf (k:Int) (b:List UInt8):Int×Int:=if kNum k=false then (0,2) else if zfr (zcv k) b=false then (0,12) else (zeZ k (rawW k b),0)
def zBH (k:Int) (c:Nat):List UInt8:=if 12<=k then zuA 8 c else if 9<=k then zuA 4 c else enc c
def sPut (k w:Int):List UInt8:=zBH k (zeZ k w).toNat
theorem zpb (k:Int) :0<=rawW k b/\rawW k b<=18446744073709551615:=by
 unfold rawW;split
 ·have:=zgN b;omega
 ·have h:=ztL (b.take 8);have h2:(256:Nat)^(b.take 8).length<=256^8:=pl (by omega) (by simp;omega);omega
theorem zsT (k:Int) {b:List UInt8} (hb:b.length<=1048576):zdQ k b=some (znf k b):=by
 unfold zdQ znf;rw [zkn,sb];cases hn:kNum k
 ·rw [p7,xn rfl]
 ·rw [p8,xm (by simp),zsR,sb,zBz _ hb,sb];cases hf:zfr (zcv k) b
  ·rw [p7,xn rfl]
  ·rw [p8,xm (by simp),zFN (by omega),sb,sb];have hbd:=zpb k (b:=b);have e0:zax b 0=some (rd b):=by
    have:=zqi b 0 (by omega) (xx _);rw [yb] at this;exact this
   by_cases h0:zcv k=0
   ·have e:rawW k b=(rd b).1:=by unfold rawW;rw [xn h0]
    rw [itT (by simpa using h0),e0,sb,<-e,zsP k hbd,sb]
   ·have e:rawW k b=((word (b.take 8):Nat):Int):=by unfold rawW;rw [xm h0]
    rw [itF (by simpa using h0),<-e,zsP k hbd,sb]
theorem zkd :kNum k=true↔1<=k/\k<=14:=by simp [kNum]
def zle (k:Int) (l:List UInt8):Int⊕Nat:=
 if k<9 then (if (rd l).2.2≠0 then .inl (rd l).2.2 else .inr (rd l).2.1.toNat) else if l.length<(if k<12 then 4 else 8) then .inl 3 else .inr (if k<12 then 4 else 8)
theorem zlf (k:Int) (l:List UInt8):(∃c,zle k l= .inl c/\(c=3\/c=4))\/∃n,zle k l= .inr n/\1<=n/\n<=l.length/\n<=10/\(k<9/\(rd l).2.2=0/\(rd l).2.1=(n:Int)\/¬k<9/\n=(if k<12 then 4 else 8)):=by
 obtain ⟨h1,h2,h3,h4,h5,h6,h7⟩:=zgN l;unfold zle;by_cases h:k<9
 ·rw [xn h];by_cases h0:(rd l).2.2=0
  ·have:=h7 h0;rw [xm (by simpa using h0)];exact .inr ⟨_,rfl,by omega,by omega,by omega,.inl ⟨h,h0,by omega⟩⟩
  ·rw [xn h0];exact .inl ⟨_,rfl,by omega⟩
 ·rw [xm h];by_cases h8:l.length<(if k<12 then 4 else 8)
  ·rw [xn h8];exact .inl ⟨_,rfl,by omega⟩
  ·rw [xm h8];exact .inr ⟨_,rfl,by split<;>omega,by omega,by split<;>omega,.inr ⟨h,rfl⟩⟩
def pcs (k:Int) (l:List UInt8):List (List UInt8)×Int:=
 if hl:l=[] then ([],0) else match h:zle k l with
  | .inl c=>([],c)
  | .inr n=>(l.take n::(pcs k (l.drop n)).1,(pcs k (l.drop n)).2)
termination_by l.length
decreasing_by
 all_goals
  rcases zlf k l with ⟨c',h',_⟩| ⟨n',h',g1,g2,_⟩
  ·rw [h'] at h;cases h
  ·rw [h'] at h;cases h;simp only [xN];omega
theorem zmM (k:Int):pcs k []=([],0):=by rw [pcs,dif_pos rfl]
theorem zoZ (hl:l≠[]) (h:zle k l= .inl c):pcs k l=([],c):=by
 rw [pcs,dif_neg hl];split
 ·rename_i c' h';rw [h] at h';cases h';rfl
 ·rename_i h';rw [h] at h';cases h'
theorem zkk (hl:l≠[]) (h:zle k l= .inr n):pcs k l=(l.take n::(pcs k (l.drop n)).1,(pcs k (l.drop n)).2):=by
 rw [pcs,dif_neg hl];split
 ·rename_i c' h';rw [h] at h';cases h'
 ·rename_i n' h';rw [h] at h';cases h';rfl
theorem zpa (k:Int) (P:List UInt8->Prop) (h0:P []) (he:∀l c,l≠[]->zle k l= .inl c->(c=3\/c=4)->P l)
  (hc:∀l n,l≠[]->zle k l= .inr n->1<=n->n<=l.length->n<=10->P (l.drop n)->P l) (l:List UInt8):P l:=by
 generalize hn:l.length=m
 induction m using Nat.strongRecOn generalizing l with
 | _ m ih=>
  by_cases hl:l=[]
  ·subst hl;exact h0
  ·rcases zlf k l with ⟨c,h,hc'⟩| ⟨n,h,g1,g2,g3,_⟩
   ·exact he l c hl h hc'
   ·exact hc l n hl h g1 g2 g3 (ih _ (by simp only [xN];omega) _ rfl)
theorem zzI (k:Int) (l:List UInt8):(pcs k l).2=0\/(pcs k l).2=3\/(pcs k l).2=4:=by
 refine zpa k (fun l=>(pcs k l).2=0\/(pcs k l).2=3\/(pcs k l).2=4) ?_ ?_ ?_ l
 ·rw [zmM];exact .inl rfl
 ·intro l c hl h hc;rw [zoZ hl h];exact .inr hc
 ·intro l n hl h _ _ _ ih;rw [zkk hl h];exact ih
theorem zyh (k:Int) (l:List UInt8):(pcs k l).1.length<=l.length:=by
 refine zpa k (fun l=>(pcs k l).1.length<=l.length) ?_ ?_ ?_ l
 ·rw [zmM];simp
 ·intro l c hl h _;rw [zoZ hl h];simp
 ·intro l n hl h _ _ _ ih;rw [zkk hl h];simp only [xL,xN] at ih|-;have:=yK.2 hl;omega
theorem zFy (k:Int) (l:List UInt8):(pcs k l).2=0->(pcs k l).1.flatten=l:=by
 refine zpa k (fun l=>(pcs k l).2=0->(pcs k l).1.flatten=l) ?_ ?_ ?_ l
 ·rw [zmM];intro _;rfl
 ·intro l c hl h hc h2;rw [zoZ hl h] at h2;simp only at h2;omega
 ·intro l n hl h _ _ _ ih h2;rw [zkk hl h] at h2|-;simp only [yM];rw [ih h2,qn]
theorem zBO (hk:kNum k=true) (h:zle k l= .inr n):zfr (zcv k) (l.take n)=true:=by
 have hk':=zkd.1 hk;rcases zlf k l with ⟨c,h',_⟩| ⟨n',h',g1,g2,g3,hcase⟩
 ·rw [h'] at h;cases h
 ·rw [h'] at h;cases h;have wz:(l.take n).length=n:=by simp;omega
  unfold zfr;rcases hcase with ⟨h9,f1,f2⟩| ⟨h9,f1⟩
  ·have e:zcv k=0:=by unfold zcv;rw [xm (by omega),xm (by omega),xm (by omega)]
   rw [xn e];rcases zkl l with h6| ⟨h6,_⟩| ⟨x,c,y,e,hx,hc,hl,hv,h6⟩
   ·rw [h6] at f1;cases f1
   ·rw [h6] at f1;cases f1
   ·rw [h6] at f2;have e7:n=(x++[c]).length:=by simp at f2|-;omega
    have e8:l.take n=x++c::[]:=by rw [e7,e,pm x c y,pQ]
    rw [e8,zCR x c [] hx hc hl hv];simp
  ·have h12:zcv k=1/\12<=k\/zcv k=5/\k<12:=by
    unfold zcv;rw [xm (by omega)];by_cases hh:12<=k
    ·rw [xn hh];exact .inl ⟨rfl,hh⟩
    ·rw [xm hh,xn (by omega)];exact .inr ⟨rfl,by omega⟩
   rw [xm (by omega),wz,f1];refine xV ?_;rcases h12 with ⟨e,hh⟩| ⟨e,hh⟩
   ·rw [e,xm (by omega)];right;left;exact ⟨rfl,rfl⟩
   ·rw [e,xn hh];right;right;exact ⟨rfl,rfl⟩
theorem zzJ (hk:kNum k=true) (l:List UInt8):∀p∈(pcs k l).1,zfr (zcv k) p=true/\1<=p.length/\p.length<=10:=by
 refine zpa k (fun l=>∀p∈(pcs k l).1,zfr (zcv k) p=true/\1<=p.length/\p.length<=10) ?_ ?_ ?_ l
 ·rw [zmM];intro p hp;cases hp
 ·intro l c hl h _;rw [zoZ hl h];intro p hp;cases hp
 ·intro l n hl h g1 g2 g3 ih;rw [zkk hl h];intro p hp;cases hp with
  | head=>exact ⟨zBO hk h,by simp;omega,by simp;omega⟩
  | tail _ hp=>exact ih p hp
def zie (k:Int) (p:List UInt8):Int:=zeZ k (rawW k p)
theorem zlb (hk:kNum k=true) (hf:zfr (zcv k) p=true):znf k p=(zie k p,0):=by
 unfold znf zie;rw [hk,xm (by simp),hf,xm (by simp)]
def ends (base:Nat):List (List UInt8)->List Int
 | []=>[]
 | p::ps=>((base+p.length:Nat):Int)::ends (base+p.length) ps
theorem zsF (base:Nat) (ps:List (List UInt8)):(ends base ps).length=ps.length:=by
 induction ps generalizing base with
 | nil=>rfl
 | cons p ps ih=>simp [ends,ih]
theorem zud:∀(ps:List (List UInt8)) (base i:Nat),i<ps.length->(ends base ps)[i]? =some ((base+(ps.take (i+1)).flatten.length:Nat):Int)
 | [],_,_,h=>by simp at h
 | p::ps,base,0,_=>by simp [ends]
 | p::ps,base,i+1,h=>by
  have:=zud ps (base+p.length) i (by simpa using h);simp only [ends,pY,this,yz,yM,xz,qc]
theorem zym {b:List UInt8} (hb:b.length<=1048576) (k:Int) (l:List UInt8):∀(a:Nat) (out:List Int),a<=b.length->l=b.drop a->out.length<=a->
  zbJ b k out a=some (if (pcs k l).2=0 then .inl (out++ends a (pcs k l).1) else .inr (pcs k l).2):=by
 refine zpa k (fun l=>∀(a:Nat) (out:List Int),a<=b.length->l=b.drop a->out.length<=a->
  zbJ b k out a=some (if (pcs k l).2=0 then .inl (out++ends a (pcs k l).1) else .inr (pcs k l).2)) ?_ ?_ ?_ l
 ·intro a out ha hl ho;have:b.length<=a:=by have:=congrArg List.length hl;simp at this;omega
  rw [zmM,xn rfl];refine zhd ?_;unfold zaQ;rw [ud];simp [ends]
 ·intro l c hl h hc a out ha hld ho;subst hld;have hlt:a<b.length:=by have:=yK.2 hl;simp at this;omega
  have hdl:(b.drop a).length=b.length - a:=by simp
  rw [zoZ hl h,xm (by simp only;omega)];refine zhd ?_;unfold zaQ;rw [uc];unfold zle at h;by_cases h9:k<9
  ·rw [xn h9] at h;by_cases h0:(rd (b.drop a)).2.2=0
   ·rw [xm (by simpa using h0)] at h;cases h
   ·rw [xn h0] at h;cases h;rw [uc,sb,itT (by simpa using h9),zqi b a (by omega) ha,sb,itT (by simpa using h0),sb]
  ·rw [xm h9] at h;by_cases h12:k<12
   ·simp only [xn h12] at h;by_cases h8:(b.drop a).length<4
    ·rw [xn h8] at h;cases h;rw [itT (by simpa using h12),sb,itF (by simpa using h9),sb];simp only;rw [ue,uc]
    ·rw [xm h8] at h;cases h
   ·simp only [xm h12] at h;by_cases h8:(b.drop a).length<8
    ·rw [xn h8] at h;cases h;rw [itF (by simpa using h12),sb,itF (by simpa using h9),sb];simp only;rw [ue,uc]
    ·rw [xm h8] at h;cases h
 ·intro l n hl h g1 g2 g3 ih a out ha hld ho;subst hld;have hdl:(b.drop a).length=b.length - a:=by simp
  have wL:zaQ b k out a=some (.inl (out++[((a+n:Nat):Int)],((a+n:Nat):Int))):=by
   unfold zaQ;rw [uc];rcases zlf k (b.drop a) with ⟨c,h',_⟩| ⟨n',h',_,_,_,hcase⟩
   ·rw [h'] at h;cases h
   ·rw [h'] at h;cases h;rcases hcase with ⟨h9,f1,f2⟩| ⟨h9,f1⟩
    ·rw [uc,sb,itT (by simpa using h9),zqi b a (by omega) ha,sb,itF (by simpa using f1),sb];simp only;rw [f2,ue,ud,zbn (by simp;omega),sb];push_cast;rfl
    ·by_cases h12:k<12
     ·rw [xn h12] at f1;subst f1;rw [itT (by simpa using h12),sb,itF (by simpa using h9),sb];simp only;rw [ue,ud,zbn (by simp;omega),sb];push_cast;rfl
     ·rw [xm h12] at f1;subst f1;rw [itF (by simpa using h12),sb,itF (by simpa using h9),sb];simp only;rw [ue,ud,zbn (by simp;omega),sb];push_cast;rfl
  rw [zlu wL,ih (a+n) _ (by omega) (by rw [xU]) (by simp;omega),zkk hl h];have e:((b.drop a).take n).length=n:=by simp;omega
  simp only [ends,e,yr,qG]
def zlQ (k:Int) (b:List UInt8):List Int×Int:=if kNum k=false then ([],2) else if (pcs k b).2=0 then (ends 0 (pcs k b).1,0) else ([],(pcs k b).2)
theorem zuX (k:Int) {b:List UInt8} (hb:b.length<=1048576):zdR k b=some (zlQ k b):=by
 unfold zdR zlQ;rw [zkn,sb];cases hn:kNum k
 ·rw [p7,xn rfl]
 ·have h:=zym hb k b 0 [] (xx _) rfl (xt _);have h':zbJ b k [] 0=_:=h;rw [p8,xm (by simp),h',sb];by_cases h0:(pcs k b).2=0
  ·rw [xn h0,xn h0];rfl
  ·rw [xm h0,xm h0]
def zaG (k:Int) (b:List UInt8):List Int×Int:=if kNum k=false then ([],2) else if (pcs k b).2=0 then ((pcs k b).1.map (zie k),0) else ([],(pcs k b).2)
theorem zvV {b:List UInt8} (hb:b.length<=1048576) {k:Int} (hk:kNum k=true) {ps:List (List UInt8)} (hps:∀p∈ps,zfr (zcv k) p=true) (hfl:ps.flatten=b) (hl:ps.length<=b.length) (c:Int):∀(d i:Nat),i+d=ps.length->
  zaX b k (ends 0 ps,c) ((ps.take i).map (zie k)) i=some (ps.map (zie k)):=by
 intro d
 induction d with
 | zero=>
  intro i hi;refine zeA ?_;unfold zaC;rw [itF (by simp [zsF];omega),yI (by omega)]
 | succ d ih=>
  intro i hi;have hil:i<ps.length:=by omega
  have hps1:ps.take (i+1)=ps.take i++[ps[i]]:=by rw [pi,xE hil];rfl
  have hsplit:ps=ps.take i++ps[i]::ps.drop (i+1):=by rw [<-yd hil,qn]
  have hb2:b=(ps.take i).flatten++(ps[i]++(ps.drop (i+1)).flatten):=by
   have h1:b=(ps.take i++ps[i]::ps.drop (i+1)).flatten:=by rw [<-hsplit];exact hfl.symm
   rw [pn,yM] at h1;exact h1
  have hcut:(b.drop (ps.take i).flatten.length).take ((ps.take (i+1)).flatten.length - (ps.take i).flatten.length)=ps[i]:=by
   rw [hps1,pn,xz,pJ]
   conv=>lhs;arg 2;rw [hb2]
   rw [List.drop_left];simp
  have hle:(ps.take (i+1)).flatten.length<=b.length:=by
   have:=congrArg List.length hb2;rw [hps1];simp only [pn,xz,yM,List.flatten_nil,yl] at this|-;omega
  refine (zkL (out':=(ps.take (i+1)).map (zie k)) (i':=((i+1:Nat):Int)) ?_).trans (ih (i+1) (by omega));unfold zaC;rw [itT (by simp [zsF];omega)];have efrom:(if (decide ((i:Int)>0))=true then (idx (ends 0 ps) (i64.wrap ((i:Int) - 1))>>=fun x=>some x) else some 0)=some (((ps.take i).flatten.length:Nat):Int):=by
   cases i with
   | zero=>rw [p9];simp
   | succ j=>
    have hg:=zud ps 0 j (by omega);rw [itT (by first| (simp;done)| (simp;omega)),ue];unfold idx;rw [xn (by omega),show (((j+1:Nat):Int) - 1).toNat=j by omega,hg,sb];simp
  have hg:=zud ps 0 i hil;have eto:idx (ends 0 ps) (i:Int)=some (((ps.take (i+1)).flatten.length:Nat):Int):=by
   unfold idx;rw [xn (by omega),xB,hg];simp
  have hmono:(ps.take i).flatten.length<=(ps.take (i+1)).flatten.length:=by rw [hps1,pn,xz];omega
  have hpl:(ps[i]).length<=b.length:=by have:=congrArg List.length hb2;simp at this;omega
  simp only;rw [efrom,sb,eto,sb,zgj rfl rfl hmono hle,sb,hcut,zsT k (by omega),sb,zlb hk (hps _ (xy hil)),zbn (by simp;omega),sb,ue];rw [hps1,yv];rfl
theorem zzW (k:Int) {b:List UInt8} (hb:b.length<=1048576):zeq k b=some (zaG k b):=by
 unfold zeq zaG;rw [zuX k hb,sb];unfold zlQ;cases hn:kNum k
 ·rw [xn rfl,xn rfl];have h':zaX b k (([]:List Int),2) [] 0=some []:=by
   refine zeA ?_;unfold zaC;rw [p9]
  rw [h',sb]
 ·simp only [xm (show ¬(true=false) by simp)];by_cases h0:(pcs k b).2=0
  ·simp only [xn h0];have h:=zvV hb hn (ps:=(pcs k b).1) (fun p hp=>(zzJ hn b p hp).1) (zFy k b h0) (zyh k b) 0 (pcs k b).1.length 0 (by omega);have h':zaX b k (ends 0 (pcs k b).1,0) [] 0=_:=h;rw [h',sb]
  ·simp only [xm h0];have h':zaX b k (([]:List Int),(pcs k b).2) [] 0=some []:=by
    refine zeA ?_;unfold zaC;rw [p9]
   rw [h',sb]
abbrev Vw:=zD
def zvw:Vw:=⟨zrec,0,false⟩
def zy (m:Mes) (i:Int):Fld:=m.Fields.getD i.toNat ⟨[],0,0,false,false,0⟩
def vw (m:Mes) (n w:Int):Int⊕(Int×Bool):=
 if fldI m n<0 then .inr (-1,false)
 else if (zy m (fldI m n)).Repeated=true/\kNum (zy m (fldI m n)).Kind=true/\w=2 then .inr (fldI m n,true)
 else if zbY (zy m (fldI m n)).Kind=false\/zcv (zy m (fldI m n)).Kind≠w then .inl 6 else .inr (fldI m n,false)
theorem zfJ (m:Mes) (n:Int):fldI m n= -1/\(∀f∈m.Fields,f.Number≠n)\/∃(i:Nat) (h:i<m.Fields.length),fldI m n=i/\m.Fields[i].Number=n/\∀(j:Nat) (h:j<m.Fields.length),j<i->m.Fields[j].Number≠n:=by
 unfold fldI;cases h:m.Fields.findIdx? (fun f:Fld=>f.Number==n) with
 | none=>
  left;rw [qP] at h;exact ⟨zkS (qP.2 h),fun f hf=>by simpa using h f hf⟩
 | some i=>
  right;have h':=h;rw [pj] at h;obtain ⟨hi,hp,hj⟩:=h;exact ⟨i,hi,zkT h',by simpa using hp,fun j hjl hji=>by simpa using hj j hji⟩
theorem zcp {m:Mes} {i:Nat} (h:i<m.Fields.length):zy m (i:Int)=m.Fields[i]:=by
 unfold zy;rw [xB,qE,xE h];rfl
theorem zeX (m:Mes) (n w:Int):vw m n w= .inl 6\/vw m n w= .inr (-1,false)/\fldI m n= -1\/∃(i:Nat) (run:Bool),vw m n w= .inr ((i:Int),run)/\fldI m n=i/\i<m.Fields.length:=by
 unfold vw;rcases zfJ m n with ⟨h,_⟩| ⟨i,hi,h,_⟩
 ·right;left;rw [h,xn (by omega)];exact ⟨rfl,rfl⟩
 ·rw [h,xm (by omega)];split
  ·right;right;exact ⟨i,true,rfl,rfl,hi⟩
  ·split
   ·left;rfl
   ·right;right;exact ⟨i,false,rfl,rfl,hi⟩
def zbz (m:Mes) (b:List UInt8) (at5:Int):Vw×Int:=
 if (zcS b at5).2≠0 then (zvw,(zcS b at5).2) else match vw m (zcS b at5).1.Number (zcS b at5).1.Wire with
  | .inl c=>(zvw,c)
  | .inr (i,run)=>(⟨(zcS b at5).1,i,run⟩,0)
theorem ziD {m:Mes} (hm:m.Fields.length<=1152921504606846976) {b:List UInt8} (hb:b.length<=1048576) (at5:Int):zdS m b at5=some (zbz m b at5):=by
 unfold zdS zbz;rw [zBB hb,sb];by_cases h:(zcS b at5).2=0
 ·rw [itF (by simpa using h),xm (by simpa using h),zsQ hm,sb]
  generalize (zcS b at5).1=r
  unfold vw;rcases zfJ m r.Number with ⟨hf,_⟩| ⟨i,hi,hf,_⟩
  ·rw [hf,p7,xn (by decide)]
  ·rw [hf,p9,xm (by omega),zS rfl hi,sb,zcp hi,zkn,sb,zre,sb,zsR,sb];have e:(if (m.Fields[i]).Repeated=true then (if kNum (m.Fields[i]).Kind=true then some (r.Wire==2) else some false) else some false)=some (decide ((m.Fields[i]).Repeated=true/\kNum (m.Fields[i]).Kind=true/\r.Wire=2)):=by
    cases (m.Fields[i]).Repeated
    ·rfl
    ·cases kNum (m.Fields[i]).Kind
     ·rfl
     ·by_cases hw:r.Wire=2<;>simp [hw]
   rw [e,sb];by_cases h1:(m.Fields[i]).Repeated=true/\kNum (m.Fields[i]).Kind=true/\r.Wire=2
   ·rw [itT (xV h1),xn h1]
   ·rw [itF (yn h1),xm h1];have e2:(if (!zbY (m.Fields[i]).Kind)=true then some true else some (zcv (m.Fields[i]).Kind !=r.Wire))=some (decide (zbY (m.Fields[i]).Kind=false\/zcv (m.Fields[i]).Kind≠r.Wire)):=by
     cases zbY (m.Fields[i]).Kind
     ·rfl
     ·by_cases hw:zcv (m.Fields[i]).Kind=r.Wire<;>simp [hw]
    rw [e2,sb];by_cases h2:zbY (m.Fields[i]).Kind=false\/zcv (m.Fields[i]).Kind≠r.Wire
    ·rw [itT (xV h2),xn h2];rfl
    ·rw [itF (yn h2),xm h2]
 ·rw [itT (by simpa using h),xn h];rfl
def vws (m:Mes) (e:Option (Nat×Int)):List Rec->List Vw×Option (Int×Int)
 | []=>([],e.map fun p=>((p.1:Int),p.2))
 | r::l=>match vw m r.Number r.Wire with
  | .inl c=>([],some (r.From,c))
  | .inr (i,run)=>(⟨r,i,run⟩::(vws m e l).1,(vws m e l).2)
def vwR (r:List Vw×Option (Int×Int)):List Vw×Int×Int:=match r.2 with
 | none=>(r.1,0,0)
 | some (p,c)=>([],p,c)
def zaJ (m:Mes) (b:List UInt8):List Vw×Int×Int:=vwR (vws m (spl 0 b).2 (spl 0 b).1)
theorem zzR {m:Mes} (hm:m.Fields.length<=1152921504606846976) {b:List UInt8} (hb:b.length<=1048576) (base:Nat) (l:List UInt8):∀(out:List Vw),base<=b.length->l=b.drop base->out.length<=base->
  zce b m out base=some (match (vws m (spl base l).2 (spl base l).1).2 with| none=> .inl (out++(vws m (spl base l).2 (spl base l).1).1)| some (p,c)=> .inr (p,c)):=by
 refine zgQ (fun base l=>∀(out:List Vw),base<=b.length->l=b.drop base->out.length<=base->
  zce b m out base=some (match (vws m (spl base l).2 (spl base l).1).2 with| none=> .inl (out++(vws m (spl base l).2 (spl base l).1).1)| some (p,c)=> .inr (p,c))) ?_ ?_ ?_ base l
 ·intro base out hbase hl ho;have:b.length<=base:=by have:=congrArg List.length hl;simp at this;omega
  rw [zey];simp only [vws,pf,yl];refine zfp ?_;unfold zaI;rw [ud]
 ·intro base l c hl h hc out hbase hld ho;subst hld;have hlt:base<b.length:=by have:=yK.2 hl;simp at this;omega
  rw [zgr hl h];simp only [vws,ql];refine zfp ?_;unfold zaI;have e:zcS b base=(zrec,c):=by unfold zcS;rw [xm (by omega),xB,h]
  have e2:zbz m b base=(zvw,c):=by unfold zbz;rw [e,xn (by simp only;omega)]
  rw [uc,ziD hm hb,sb,e2,uc]
 ·intro base l n w a t hl h _ g1 g2 g3 ih out hbase hld ho;subst hld;simp only [xN] at g3;have hlt:base<b.length:=by omega
  rw [zdv hl h];have e:zcS b base=(⟨n,w,base,(base+a:Nat),(base+t:Nat)⟩,0):=by
   unfold zcS;rw [xm (by omega),xB,h];push_cast;rfl
  rw [vws];rcases zeX m n w with hv| ⟨hv,_⟩| ⟨i,run,hv,_,hi⟩
  ·have e2:zbz m b base=(zvw,6):=by unfold zbz;rw [e];simp only [yx,yE,yc,hv]
   simp only [hv];refine zfp ?_;unfold zaI;rw [uc,ziD hm hb,sb,e2,p7]
  ·have e2:zbz m b base=(⟨⟨n,w,base,(base+a:Nat),(base+t:Nat)⟩, -1,false⟩,0):=by unfold zbz;rw [e];simp only [yx,yE,yc,hv]
   simp only [hv];refine (zhp (out':=out++[⟨⟨n,w,base,(base+a:Nat),(base+t:Nat)⟩, -1,false⟩]) (atv':=((base+t:Nat):Int)) ?_).trans ?_
   ·unfold zaI;rw [uc,ziD hm hb,sb,e2,p8,zbn (by simp;omega),sb]
   ·rw [ih _ (by omega) (by rw [xU]) (by simp;omega)];simp only [yr,qG]
  ·have e2:zbz m b base=(⟨⟨n,w,base,(base+a:Nat),(base+t:Nat)⟩,i,run⟩,0):=by unfold zbz;rw [e];simp only [yx,yE,yc,hv]
   simp only [hv];refine (zhp (out':=out++[⟨⟨n,w,base,(base+a:Nat),(base+t:Nat)⟩,i,run⟩]) (atv':=((base+t:Nat):Int)) ?_).trans ?_
   ·unfold zaI;rw [uc,ziD hm hb,sb,e2,p8,zbn (by simp;omega),sb]
   ·rw [ih _ (by omega) (by rw [xU]) (by simp;omega)];simp only [yr,qG]
theorem zzQ {m:Mes} (hm:m.Fields.length<=1152921504606846976) {b:List UInt8} (hb:b.length<=1048576):zfo m b=some (zaJ m b):=by
 unfold zfo;have h:=zzR hm hb 0 b [] (xx _) rfl (xt _);have h':zce b m [] 0=_:=h;rw [h',sb];unfold zaJ vwR;cases (vws m (spl 0 b).2 (spl 0 b).1).2 with
 | none=>rfl
 | some p=>rfl
def zA (s:List Mes) (i:Int):Mes:=s.getD i.toNat ⟨[],[]⟩
theorem zdJ {s:List Mes} {i:Nat} (h:i<s.length):zA s (i:Int)=s[i]:=by
 unfold zA;rw [xB,qE,xE h];rfl
def valB (b:List UInt8) (r:Rec):List UInt8:=(b.drop r.At.toNat).take (r.To.toNat - r.At.toNat)
abbrev zkQ:=Option (Int->List UInt8->Option (Int×Int))
def zkf (f:Fld) (run:Bool) (sub:zkQ) (r:Rec) (v:List UInt8):Option (Int×Int):=
 if run=true then (if (zlQ f.Kind v).2≠0 then some (r.From,(zlQ f.Kind v).2) else none)
 else if f.Kind=15/\ziF v=false then some (r.From,7)
 else if f.Kind=17 then (match sub with
  | none=>some (r.From,8)
  | some g=>match g f.Of v with
   | some (p,c)=>some (r.At+p,c)
   | none=>none)
 else none
def zcR (m:Mes) (sub:zkQ) (b:List UInt8) (r:Rec):Option (Int×Int):=match vw m r.Number r.Wire with
 | .inl c=>some (r.From,c)
 | .inr (i,run)=>if i<0 then none else zkf (zy m i) run sub r (valB b r)
def zbQ (m:Mes) (sub:zkQ) (b:List UInt8) (x:List Rec×Option (Nat×Int)):Option (Int×Int):=match x.1.findSome? (zcR m sub b) with
 | some p=>some p
 | none=>x.2.map fun p=>((p.1:Int),p.2)
def zU (s:List Mes):Nat->Int->List UInt8->Option (Int×Int)
 | 0,k,b=>zbQ (zA s k) none b (spl 0 b)
 | d+1,k,b=>zbQ (zA s k) (some (zU s d)) b (spl 0 b)
def zrE (g:Int->List UInt8->Option (Int×Int)):Prop:=∀k v p c,g k v=some (p,c)->3<=c/\c<=8/\0<=p/\p<v.length
theorem zDn (k:Int) :(zlQ k b).2=0\/(zlQ k b).2=2/\kNum k=false\/(zlQ k b).2=3\/(zlQ k b).2=4:=by
 unfold zlQ
 grind [zzI]
theorem zBS (h:vw m n w= .inr (i,true)):kNum (zy m i).Kind=true/\(zy m i).Repeated=true/\w=2:=by
 unfold vw at h
 grind
theorem zvy (hr:r.At=((base+a:Nat):Int)) (ht:r.To=((base+t:Nat):Int)) (h:base+t<=b.length) (hat:a<=t):(valB b r).length=t - a:=by
 unfold valB;rw [hr,ht];simp;omega
theorem zxf {m:Mes} {sub:zkQ} {b:List UInt8} (hg:∀g,sub=some g->zrE g) {n w:Int} {base a t:Nat} (h1:1<=a) (hat:a<=t) (ht:base+t<=b.length) {p c:Int}
  (h:zcR m sub b ⟨n,w,base,(base+a:Nat),(base+t:Nat)⟩=some (p,c)):3<=c/\c<=8/\0<=p/\p<b.length:=by
 unfold zcR at h;rcases zeX m n w with hv| ⟨hv,_⟩| ⟨i,run,hv,_,hi⟩
 ·grind
 ·grind
 ·simp only [hv] at h;rw [xm (by omega)] at h;unfold zkf at h;split at h
  ·grind [zBS,zDn]
  ·split at h
   ·grind
   ·split at h
    ·cases sub with
     | none=>simp only at h;cases h;(try dsimp only);omega
     | some g=>
      simp only at h;have hl:=zvy (b:=b) (r:=⟨n,w,base,(base+a:Nat),(base+t:Nat)⟩) rfl rfl ht hat;cases hgv:g (zy m i).Of (valB b ⟨n,w,base,(base+a:Nat),(base+t:Nat)⟩) with
      | none=>rw [hgv] at h;cases h
      | some q=>
       obtain ⟨q1,q2⟩:=q;rw [hgv] at h;have:=hg g rfl _ _ _ _ hgv
       grind
    ·cases h
theorem zwB {m:Mes} {sub:zkQ} {b:List UInt8} (hg:∀g,sub=some g->zrE g) (base:Nat) (l:List UInt8):l=b.drop base->base<=b.length->∀p c,zbQ m sub b (spl base l)=some (p,c)->3<=c/\c<=8/\0<=p/\p<b.length:=by
 refine zgQ (fun base l=>l=b.drop base->base<=b.length->∀p c,zbQ m sub b (spl base l)=some (p,c)->3<=c/\c<=8/\0<=p/\p<b.length) ?_ ?_ ?_ base l
 ·grind [zbQ,zey]
 ·intro base l c' hl h hc hld hb p c h2;have hlt:base<b.length:=by subst hld;have:=yK.2 hl;simp at this;omega
  unfold zbQ at h2;rw [zgr hl h] at h2
  grind
 ·intro base l n w a t hl h _ g1 g2 g3 ih hld hb p c h2;have hbl:base+t<=b.length:=by subst hld;simp at g3;omega
  unfold zbQ at h2 ih;rw [zdv hl h] at h2;simp only [pS] at h2;cases hs:zcR m sub b ⟨n,w,base,(base+a:Nat),(base+t:Nat)⟩ with
  | some q=>rw [hs] at h2;cases h2;exact zxf hg g1 g2 hbl hs
  | none=>
   simp_all
theorem ziw (s:List Mes):∀(d:Nat),zrE (zU s d)
 | 0=>fun k v p c h=>zwB (fun g hg=>by cases hg) 0 v rfl (xx _) p c h
 | d+1=>fun k v p c h=>zwB (fun g hg=>by cases hg;exact ziw s d) 0 v rfl (xx _) p c h
theorem zuk {s:List Mes} {k:Nat} {m:Mes} (hk:∃h:k<s.length,s[k]=m) (hm:m.Fields.length<=1152921504606846976) {b:List UInt8} (hb:b.length<=1048576) {d:Int} (hd:0<=d/\d<=64) {sub:zkQ}
  {rec:List ze->Int->List UInt8->Int->Option (Int×Int)} (hg:∀g,sub=some g->zrE g) (h0:sub=none↔d=0)
  (hs:∀g,sub=some g->∀f∈m.Fields,f.Kind=17->∀v:List UInt8,v.length<=b.length->rec s f.Of v (d - 1)=some ((g f.Of v).getD (0,0))) (base:Nat) (l:List UInt8):
  l=b.drop base->base<=b.length->zaZ b d k rec s base=some (match zbQ m sub b (spl base l) with| none=> .inl ()| some p=> .inr p):=by
 obtain ⟨hkl,hke⟩:=hk;have e1:idx s (k:Int)=some m:=by rw [zS rfl hkl,hke]
 refine zgQ (fun base l=>l=b.drop base->base<=b.length->zaZ b d k rec s base=some (match zbQ m sub b (spl base l) with| none=> .inl ()| some p=> .inr p)) ?_ ?_ ?_ base l
 ·intro base hl hbase;have:b.length<=base:=by have:=congrArg List.length hl;simp at this;omega
  unfold zbQ;rw [zey];refine zeC ?_;unfold zaY
  grind
 ·intro base l c hl h hc hld hbase;subst hld;have hlt:base<b.length:=by have:=yK.2 hl;simp at this;omega
  unfold zbQ;rw [zgr hl h];refine zeC ?_;unfold zaY;have e:zcS b base=(zrec,c):=by unfold zcS;rw [xm (by omega),xB,h]
  grind [zbz,sb,ziD]
 ·intro base l n w a t hl h _ g1 g2 g3 ih hld hbase;subst hld;simp only [xN] at g3;have hlt:base<b.length:=by omega
  have e:zcS b base=(⟨n,w,base,(base+a:Nat),(base+t:Nat)⟩,0):=by
   unfold zcS;rw [xm (by omega),xB,h];push_cast;rfl
  have ih':=ih (by rw [xU]) (by omega)
  have hfr:zbQ m sub b (spl base (b.drop base))=match zcR m sub b ⟨n,w,base,(base+a:Nat),(base+t:Nat)⟩ with
    | some p=>some p
    | none=>zbQ m sub b (spl (base+t) ((b.drop base).drop t)):=by
   unfold zbQ;rw [zdv hl h];simp only [pS];cases zcR m sub b ⟨n,w,base,(base+a:Nat),(base+t:Nat)⟩<;>rfl
  have hcut:cut b ((base+a:Nat):Int) ((base+t:Nat):Int)=some (valB b ⟨n,w,base,(base+a:Nat),(base+t:Nat)⟩):=by
   grind [valB,zgj]
  have hvl:=zvy (b:=b) (r:=⟨n,w,base,(base+a:Nat),(base+t:Nat)⟩) rfl rfl (by omega) g2
  -- the body, by what the record's fault is
  have wL:zaY b d k rec s base=match zcR m sub b ⟨n,w,base,(base+a:Nat),(base+t:Nat)⟩ with
    | some p=>some (.inr (.inr p))
    | none=>some (.inl ((base+t:Nat):Int)):=by
   unfold zaY zcR;rw [uc,e1,sb,ziD hm hb,sb];rcases zeX m n w with hv| ⟨hv,_⟩| ⟨i,run,hv,_,hi⟩
   ·grind [zbz]
   ·grind [zbz,sb]
   ·have e2:zbz m b base=(⟨⟨n,w,base,(base+a:Nat),(base+t:Nat)⟩,i,run⟩,0):=by unfold zbz;rw [e];simp only [yx,yE,yc,hv]
    have hfm:zy m (i:Int)∈m.Fields:=by rw [zcp hi];exact xy hi
    rw [e2,p8];simp only [hv];rw [hcut,sb,itT (by simp),sb,zS rfl hi,sb,xm (show ¬((i:Int)<0) by omega),<-zcp hi]
    generalize hvv:valB b ⟨n,w,base,(base+a:Nat),(base+t:Nat)⟩=v at hvl|-
    generalize zy m (i:Int)=f at hfm|-
    unfold zkf;cases run
    ·rw [itF (c:=false) rfl,xm (show ¬(false=true) by simp)];have e15:(if (f.Kind==15)=true then (zcx v>>=fun wy=>some (!wy)) else some false)=some (decide (f.Kind=15/\ziF v=false)):=by
      rw [zzY (by omega),sb];by_cases h15:f.Kind=15
      ·simp_all
      grind
     rw [e15,sb];by_cases h15:f.Kind=15/\ziF v=false
     ·grind
     ·rw [itF (yn h15),xm h15];by_cases ww:f.Kind=17
      ·rw [itT (by simpa using ww),xn ww];cases hsub:sub with
       | none=>
        grind
       | some g=>
        have hd0:d≠0:=fun hh=>by rw [h0.2 hh] at hsub;cases hsub
        rw [itF (by simpa using hd0),zo (x:=d - 1) (by omega),hs g hsub f hfm ww v (by omega),sb];cases hgv:g f.Of v with
        | none=>simp only [Option.getD_none,hgv];rw [p8]
        | some q=>
         obtain ⟨q1,q2⟩:=q;have:=hg g hsub _ _ _ _ hgv
         grind [zo]
      grind
    grind [zuX,sb]
  rw [hfr];cases hst:zcR m sub b ⟨n,w,base,(base+a:Nat),(base+t:Nat)⟩ with
  | some p=>rw [hst] at wL;rw [zeC wL]
  | none=>rw [hst] at wL;rw [zkM wL,ih']
theorem zvT {s:List Mes} (hr:zgh s):∀(d fuel:Nat),d<=64->d<fuel->∀(k:Nat) (b:List UInt8),k<s.length->b.length<=1048576->
  zaT fuel s k b d=some ((zU s d k b).getD (0,0)):=by
 intro d
 induction d with
 | zero=>
  intro fuel hd hf k b hk hb;obtain ⟨fuel,rfl⟩:∃q,fuel=q+1:=⟨fuel - 1,by omega⟩;have h:=zuk (s:=s) (k:=k) (m:=s[k]) ⟨hk,rfl⟩ (by have:=hr.few _ (xy hk);omega) hb (d:=0) (by omega) (sub:=none) (rec:=zaT fuel) (fun g hg=>by cases hg) (by simp) (fun g hg=>by cases hg) 0 b rfl (xx _);have h':zaZ b 0 k (zaT fuel) s 0=_:=h;show zbK (zaT fuel) s k b 0=_;unfold zbK;rw [h',sb,zU,zdJ hk]
  grind
 | succ d ih=>
  intro fuel hd hf k b hk hb;obtain ⟨fuel,rfl⟩:∃q,fuel=q+1:=⟨fuel - 1,by omega⟩
  have h:=zuk (s:=s) (k:=k) (m:=s[k]) ⟨hk,rfl⟩ (by have:=hr.few _ (xy hk);omega) hb (d:=((d+1:Nat):Int)) (by omega) (sub:=some (zU s d)) (rec:=zaT fuel)
   (fun g hg=>by cases hg;exact ziw s d) (by constructor<;>intro h<;>first| cases h| omega)
   (fun g hg f hf17 ww v hv=>by
    cases hg;have hof:=(hr.fld _ (xy hk) f hf17).sub ww;obtain ⟨q,hq⟩:∃q:Nat,f.Of=q:=⟨f.Of.toNat,by omega⟩;have e:((d+1:Nat):Int) - 1=(d:Int):=by omega
    rw [e,hq];exact ih fuel (by omega) (by omega) q v (by omega) (by omega)) 0 b rfl (xx _)
  have h':zaZ b ((d+1:Nat):Int) k (zaT fuel) s 0=_:=h;show zbK (zaT fuel) s k b ((d+1:Nat):Int)=_;unfold zbK;rw [h',sb,zU,zdJ hk]
  grind
def argS (s:List Mes) (root d:Int):Int:=if zqj s=false then 9 else if root<0\/root>=s.length\/d<0\/d>64 then 2 else 0
theorem zBy {s:List Mes} (hw:WS s) (root d:Int):zeR s root d=some (argS s root d):=by
 unfold zeR argS
 grind [zvU,sb]
def zaV (s:List Mes) (root:Int) (b:List UInt8) (d:Int):Int×Int:=if argS s root d≠0 then (0,argS s root d) else (zU s d.toNat root b).getD (0,0)
theorem zlH (h:argS s root d=0):zgh s/\0<=root/\root<s.length/\0<=d/\d<=64:=by
 unfold argS at h
 grind [zDT]
theorem zlC {s:List Mes} (hw:WS s) (root:Int) {b:List UInt8} (hb:b.length<=1048576) (d:Int) {fuel:Nat} (hf:64<fuel):zcy fuel s root b d=some (zaV s root b d):=by
 unfold zcy zaV;rw [zBy hw,sb];by_cases h:argS s root d=0
 ·obtain ⟨hr,h1,h2,h3,h4⟩:=zlH h;obtain ⟨k,rfl⟩:∃k:Nat,root=k:=⟨root.toNat,by omega⟩
  grind [zvT,sb]
 grind
def is11 (s:List Mes) (root:Int) (b:List UInt8) (d:Int):Bool:=(zaV s root b d).2==0
theorem zBA {s:List Mes} (hw:WS s) (root:Int) {b:List UInt8} (hb:b.length<=1048576) (d:Int) {fuel:Nat} (hf:64<fuel):zfR fuel s root b d=some (is11 s root b d):=by
 unfold zfR;rw [zlC hw root hb d hf,sb];rfl
theorem zft :zbQ m sub b x=none↔(∀r∈x.1,zcR m sub b r=none)/\x.2=none:=by
 unfold zbQ;cases h:x.1.findSome? (zcR m sub b) with
 | some p=>
  grind
 | none=>
  rw [List.findSome?_eq_none_iff] at h;cases hx:x.2 with
  | none=>exact ⟨fun _=>⟨h,rfl⟩,fun _=>rfl⟩
  | some p=>exact ⟨(fun h'=>nomatch h'),fun ⟨_,h2⟩=>nomatch h2⟩
theorem zta (z:List UInt8) (h0:0<=r.To) (h:r.To<=b.length):valB (b++z) r=valB b r:=by
 unfold valB;by_cases ha:r.At.toNat<=b.length
 ·grind
 ·have e:r.To.toNat - r.At.toNat=0:=by omega
  grind
theorem zqp (a b:List UInt8) (h0:0<=r.At) (h1:r.At<=r.To):valB (a++b) (zkr a.length r)=valB b r:=by
 unfold valB zkr;simp only;have e1:(r.At+(a.length:Int)).toNat=a.length+r.At.toNat:=by omega
 have e2:(r.To+(a.length:Int)).toNat - (a.length+r.At.toNat)=r.To.toNat - r.At.toNat:=by omega
 simp_all
theorem zvn (hn:r'.Number=r.Number) (hw:r'.Wire=r.Wire) (hv:valB b' r'=valB b r):zcR m sub b' r'=none↔zcR m sub b r=none:=by
 unfold zcR;rw [hn,hw,hv];cases vw m r.Number r.Wire with
 | inl c=>simp
 | inr p=>
  simp only;by_cases hi:p.1<0
  ·simp [hi]
  ·rw [xm hi,xm hi];unfold zkf
   grind
theorem zsm (base:Nat) (l:List UInt8):∀r∈(spl base l).1,(base:Int)<=r.From/\r.From<r.At/\r.At<=r.To/\r.To<=base+l.length:=by
 refine zgQ (fun base l=>∀r∈(spl base l).1,(base:Int)<=r.From/\r.From<r.At/\r.At<=r.To/\r.To<=base+l.length) ?_ ?_ ?_ base l
 ·intro base r hr;rw [zey] at hr;cases hr
 ·intro base l c hl h _ r hr;rw [zgr hl h] at hr;cases hr
 ·intro base l n w a t hl h _ g1 g2 g3 ih r hr;rw [zdv hl h] at hr
  grind
theorem zsH (z:List UInt8) (h:zbQ m sub a (spl 0 a)=none):zbQ m sub (a++z) (spl 0 (a++z))=none↔zbQ m sub z (spl 0 z)=none:=by
 rw [zft] at h;have hap:=zvm z 0 a h.2;have hsh:=zxc a.length 0 z;rw [xP] at hap hsh;rw [hsh] at hap;rw [zft,zft,hap];simp only [xu,xA];constructor
 ·rintro ⟨h1,h2⟩;refine ⟨fun r hr=>?_,by cases hz:(spl 0 z).2 with| none=>rfl| some p=>rw [hz] at h2;cases h2⟩;have hb:=zsm 0 z r hr;have:=h1 (zkr a.length r) (.inr ⟨r,hr,rfl⟩);exact (zvn (r:=r) (r':=zkr a.length r) rfl rfl (zqp a z (by omega) (by omega))).1 this
 ·rintro ⟨h1,h2⟩;refine ⟨fun r hr=>?_,by rw [h2];rfl⟩;rcases hr with hr| ⟨r,hr,rfl⟩
  ·have hb:=zsm 0 a r hr
   grind [zvn,zta]
  ·have hb:=zsm 0 z r hr;exact (zvn (r:=r) (r':=zkr a.length r) rfl rfl (zqp a z (by omega) (by omega))).2 (h1 r hr)
theorem zgL (s:List Mes) (d:Nat) (k:Int) (z:List UInt8) (h:zU s d k a=none):zU s d k (a++z)=none↔zU s d k z=none:=by
 cases d with
 | zero=>exact zsH z h
 | succ d=>exact zsH z h
theorem zqH :is11 s root b d=true↔argS s root d=0/\zU s d.toNat root b=none:=by
 unfold is11 zaV;by_cases h:argS s root d=0
 ·rw [xm (by simpa using h)];cases hf:zU s d.toNat root b with
  | none=>simp [h]
  | some p=>
   obtain ⟨p,c⟩:=p;have:=ziw s d.toNat root b p c hf
   grind
 grind
abbrev zgs:=List Int
def zmX (m:List zgs) (n:Int):Bool:=m.any fun v=>v==[n]
def zIW (n:Int):zgs->Option zgs
 | x::y::v=>if x=n then some (y::v) else none
 | _=>none
def zlG (m:List zgs) (n:Int):List zgs:=m.filterMap (zIW n)
abbrev Msg:=zb
abbrev Vlu:=za
mutual
def szM:Msg->Nat
 | ⟨vs,_⟩=>1+szVs vs
def szVs:List Vlu->Nat
 | []=>0
 | v::l=>szV v+szVs l
def szV:Vlu->Nat
 | ⟨_,_,_,s⟩=>1+szMs s
def szMs:List Msg->Nat
 | []=>0
 | x::l=>szM x+szMs l
end
theorem zeF (x:Msg):szM x=1+szVs x.Values:=by cases x;rw [szM]
theorem ziI (v:Vlu):szV v=1+szMs v.Subs:=by cases v;rw [szV]
theorem zfX :∀{l:List Vlu},v∈l->szV v<=szVs l
 | [],h=>by cases h
 | u::l,h=>by
  rw [szVs];rcases xr.1 h with rfl| h
  ·omega
  ·have:=zfX h;omega
theorem zfW :∀{l:List Msg},x∈l->szM x<=szMs l
 | [],h=>by cases h
 | u::l,h=>by
  rw [szMs];rcases xr.1 h with rfl| h
  ·omega
  ·have:=zfW h;omega
mutual
/-- Within the reach of what a law is handed. -/
def bdM:Msg->Prop
 | ⟨vs,u⟩=>vs.length*80<=140737488351232/\(u.length*16<=140737488351232/\∀t∈u,t.length<=140737488351232)/\bdVs vs
def bdVs:List Vlu->Prop
 | []=>True
 | v::l=>bdV v/\bdVs l
def bdV:Vlu->Prop
 | ⟨n,w,t,s⟩=>(Lit.int .i64 n).wf=true/\(w.length*8<=140737488351232/\∀x∈w,0<=x/\x<=18446744073709551615)/\(t.length*16<=140737488351232/\∀x∈t,x.length<=140737488351232)/\s.length*48<=140737488351232/\bdMs s
def bdMs:List Msg->Prop
 | []=>True
 | x::l=>bdM x/\bdMs l
end
theorem znJ (x:Msg):bdM x↔x.Values.length*80<=140737488351232/\(x.Unknown.length*16<=140737488351232/\∀t∈x.Unknown,t.length<=140737488351232)/\bdVs x.Values:=by cases x;simp only [bdM]
theorem zlj (v:Vlu):bdV v↔(Lit.int .i64 v.Number).wf=true/\(v.Words.length*8<=140737488351232/\∀x∈v.Words,0<=x/\x<=18446744073709551615)/\(v.Texts.length*16<=140737488351232/\∀x∈v.Texts,x.length<=140737488351232)/\v.Subs.length*48<=140737488351232/\bdMs v.Subs:=by cases v;simp only [bdV]
theorem zhb:∀{l:List Vlu},bdVs l↔∀v∈l,bdV v
 | []=>by simp [bdVs]
 | v::l=>by rw [bdVs,zhb (l:=l)];simp
theorem zha:∀{l:List Msg},bdMs l↔∀v∈l,bdM v
 | []=>by simp [bdMs]
 | v::l=>by rw [bdMs,zha (l:=l)];simp
section
open Classical
noncomputable def zjx {α:Type} (x y:α):Bool:=decide (x=y)
theorem zeH {α:Type} {x y:α}:zjx x y=true↔x=y:=by unfold zjx;simp
theorem zFP:∀(fuel:Nat),(∀x y:Msg,szM x<fuel->bdM x->zaR fuel x y=some (zjx x y))/\∀v u:Vlu,szV v<fuel->bdV v->zbm fuel v u=some (zjx v u)
 | 0=>⟨fun x y h=>by omega,fun v u h=>by omega⟩
 | fuel+1=>by
  obtain ⟨ih1,ih2⟩:=zFP fuel;refine ⟨fun x y hs hb=>?_,fun v u hs hb=>?_⟩
  ·obtain ⟨b1,⟨b2,b3⟩,b4⟩:=(znJ x).1 hb;rw [zeF] at hs;show zdZ (zaR fuel) (zbm fuel) x y=_;unfold zdZ;by_cases hl:x.Values.length=y.Values.length/\x.Unknown.length=y.Unknown.length
   ·rw [itF (by simp [hl.1,hl.2])];have hv:∀(i:Nat) (hi:i<x.Values.length) (hi':i<y.Values.length),zbm fuel x.Values[i] y.Values[i]=some (zjx x.Values[i] y.Values[i]):=fun i hi hi'=>by
     have hm:=xy hi;have:=zfX hm;exact ih2 _ _ (by omega) (zhb.1 b4 _ hm)
    have h1:=zkq x.Values y.Values (fun i=>zcJ x y (zbm fuel) i) hl.1 (by
      refine zhe ?_;unfold zbN;rw [p9])
     (fun i hi hi'=>by
      by_cases hp:x.Values[i]=y.Values[i]
      ·rw [xn hp];refine zlv ?_;unfold zbN;rw [uc,zS rfl hi,sb,zS rfl hi',sb,hv i hi hi',sb,itF (by rw [zeH.2 hp];rfl),ue];push_cast;rfl
      ·rw [xm hp];refine zhe ?_;unfold zbN
       have:zjx x.Values[i] y.Values[i]=false:=by cases hq:zjx x.Values[i] y.Values[i] with
        | false=>rfl
        | true=>exact absurd (zeH.1 hq) hp
       rw [uc,zS rfl hi,sb,zS rfl hi',sb,hv i hi hi',sb,itT (by rw [this];rfl)])
     x.Values.length 0 (by omega)
    have h1':zcJ x y (zbm fuel) 0=_:=h1;have h2:=zkq x.Unknown y.Unknown (fun i=>zcK x y i) hl.2 (by
      refine zhf ?_;unfold zbO;rw [p9])
     (fun i hi hi'=>by
      by_cases hp:x.Unknown[i]=y.Unknown[i]
      ·rw [xn hp];refine zlw ?_;unfold zbO;rw [uc,zS rfl hi,sb,zS rfl hi',sb,itF (by simp [hp]),ue];push_cast;rfl
      ·rw [xm hp];refine zhf ?_;unfold zbO;rw [uc,zS rfl hi,sb,zS rfl hi',sb,itT (by simp [hp])])
     x.Unknown.length 0 (by omega)
    have h2':zcK x y 0=_:=h2;rw [h1',sb];simp only [yb];by_cases e1:x.Values=y.Values
    ·rw [xn e1];simp only;rw [h2',sb];simp only [yb];by_cases e2:x.Unknown=y.Unknown
     ·rw [xn e2,zeH.2 (by cases x;cases y;simp only at e1 e2;rw [e1,e2])]
     ·rw [xm e2];cases hq:zjx x y with
      | false=>rfl
      | true=>exact absurd (by rw [zeH.1 hq]) e2
    ·rw [xm e1];cases hq:zjx x y with
     | false=>rfl
     | true=>exact absurd (by rw [zeH.1 hq]) e1
   ·rw [uc];cases hq:zjx x y with
    | false=>rfl
    | true=>exact absurd (by rw [zeH.1 hq];exact ⟨rfl,rfl⟩) hl
  ·obtain ⟨b0,⟨b1,_⟩,⟨b2,b3⟩,b4,b5⟩:=(zlj v).1 hb;rw [ziI] at hs;show zcn (zaR fuel) (zbm fuel) v u=_;unfold zcn;have no:(v.Number≠u.Number\/v.Words≠u.Words\/v.Texts≠u.Texts\/v.Subs≠u.Subs)->zjx v u=false:=fun h=>by
    cases hq:zjx v u with
    | false=>rfl
    | true=>
     have:=zeH.1 hq
     grind
   by_cases hl:v.Number=u.Number/\v.Words.length=u.Words.length/\v.Texts.length=u.Texts.length/\v.Subs.length=u.Subs.length
   ·rw [itF (by simp [hl.1,hl.2.1,hl.2.2.1,hl.2.2.2])];have hv:∀(i:Nat) (hi:i<v.Subs.length) (hi':i<u.Subs.length),zaR fuel v.Subs[i] u.Subs[i]=some (zjx v.Subs[i] u.Subs[i]):=fun i hi hi'=>by
     have hm:=xy hi;have:=zfW hm;exact ih1 _ _ (by omega) (zha.1 b5 _ hm)
    have h1:=zkq v.Words u.Words (fun i=>zbh v u i) hl.2.1 (by
      refine zfA ?_;unfold zaL;rw [p9])
     (fun i hi hi'=>by
      by_cases hp:v.Words[i]=u.Words[i]
      ·rw [xn hp];refine ziY ?_;unfold zaL;rw [uc,zS rfl hi,sb,zS rfl hi',sb,itF (by simp [hp]),ue];push_cast;rfl
      ·rw [xm hp];refine zfA ?_;unfold zaL;rw [uc,zS rfl hi,sb,zS rfl hi',sb,itT (by simp [hp])])
     v.Words.length 0 (by omega)
    have h1':zbh v u 0=_:=h1;have h2:=zkq v.Texts u.Texts (fun i=>zbi v u i) hl.2.2.1 (by
      refine zfB ?_;unfold zaM;rw [p9])
     (fun i hi hi'=>by
      by_cases hp:v.Texts[i]=u.Texts[i]
      ·rw [xn hp];refine ziZ ?_;unfold zaM;rw [uc,zS rfl hi,sb,zS rfl hi',sb,itF (by simp [hp]),ue];push_cast;rfl
      ·rw [xm hp];refine zfB ?_;unfold zaM;rw [uc,zS rfl hi,sb,zS rfl hi',sb,itT (by simp [hp])])
     v.Texts.length 0 (by omega)
    have h2':zbi v u 0=_:=h2;have h3:=zkq v.Subs u.Subs (fun i=>zbj v u (zaR fuel) i) hl.2.2.2 (by
      refine zfC ?_;unfold zaN;rw [p9])
     (fun i hi hi'=>by
      by_cases hp:v.Subs[i]=u.Subs[i]
      ·rw [xn hp];refine zja ?_;unfold zaN;rw [uc,zS rfl hi,sb,zS rfl hi',sb,hv i hi hi',sb,itF (by rw [zeH.2 hp];rfl),ue];push_cast;rfl
      ·rw [xm hp];refine zfC ?_;unfold zaN
       have:zjx v.Subs[i] u.Subs[i]=false:=by cases hq:zjx v.Subs[i] u.Subs[i] with
        | false=>rfl
        | true=>exact absurd (zeH.1 hq) hp
       rw [uc,zS rfl hi,sb,zS rfl hi',sb,hv i hi hi',sb,itT (by rw [this];rfl)])
     v.Subs.length 0 (by omega)
    have h3':zbj v u (zaR fuel) 0=_:=h3;rw [h1',sb];simp only [yb];by_cases e1:v.Words=u.Words
    ·rw [xn e1];simp only;rw [h2',sb];simp only [yb];by_cases e2:v.Texts=u.Texts
     ·rw [xn e2];simp only;rw [h3',sb];simp only [yb];by_cases e3:v.Subs=u.Subs
      ·rw [xn e3,zeH.2 (by cases v;cases u;simp only at e1 e2 e3 hl;rw [hl.1,e1,e2,e3])]
      grind
     grind
    grind
   grind
end
theorem zrg (y:Msg) (hf:szM x<fuel) (hb:bdM x):zaR fuel x y=some (zjx x y):=(zFP fuel).1 x y hf hb
def zay (v:Vlu):Nat:=v.Words.length+v.Texts.length+v.Subs.length
theorem zuY (hb:v.Words.length<=140737488351232/\v.Texts.length<=140737488351232/\v.Subs.length<=140737488351232):zdT v=some ((zay v:Nat):Int):=by
 unfold zdT zay;rw [zo (x:=(v.Words.length:Int)+(v.Texts.length:Int)) (by omega),ue];push_cast;rfl
def getM (x:Msg) (number:Int):Int:=zjZ (fun v:Vlu=>v.Number==number) x.Values
theorem zDQ {x:Msg} (hb:x.Values.length<=140737488351232) (number:Int):zfq x number=some (getM x number):=by
 have h:=zoP (fun v:Vlu=>v.Number==number) x.Values (fun i=>zdi number x i) (by
   refine zhq ?_;unfold zcf;rw [p9])
  (fun i hi=>by
   by_cases hp:(x.Values[i]).Number=number
   ·rw [xn (by simpa using hp)];refine zhq ?_;unfold zcf;rw [uc,zS rfl hi,sb,itT (by simpa using hp)]
   ·rw [xm (by simpa using hp)];refine zlN ?_;unfold zcf;rw [uc,zS rfl hi,sb,itF (by simpa using hp),ue];push_cast;rfl)
  x.Values.length 0 (by omega) (fun j _ hj=>by omega)
 have h':zdi number x 0=_:=h;unfold zfq getM;rw [h',sb];cases hf:x.Values.findIdx? (fun v:Vlu=>v.Number==number) with
 | none=>rw [zkS hf]
 | some k=>rw [zkT hf]
mutual
def dM:Msg->Nat
 | ⟨vs,_⟩=>dVs vs
def dVs:List Vlu->Nat
 | []=>0
 | v::l=>max (dV v) (dVs l)
def dV:Vlu->Nat
 | ⟨_,_,_,s⟩=>dMs s
def dMs:List Msg->Nat
 | []=>0
 | x::l=>max (1+dM x) (dMs l)
end
theorem zJz (x:Msg):dM x=dVs x.Values:=by cases x;rw [dM]
theorem zJA (v:Vlu):dV v=dMs v.Subs:=by cases v;rw [dV]
structure Th where
 fi:Int
 run:Bool
 val:List UInt8
 raw:List UInt8
def rawB (b:List UInt8) (r:Rec):List UInt8:=(b.drop r.From.toNat).take (r.To.toNat - r.From.toNat)
def thOf (b:List UInt8) (t:Vw):Th:=⟨t.Field,t.Run,valB b t.R,rawB b t.R⟩
def ths (m:Mes) (b:List UInt8):List Th:=(zaJ m b).1.map (thOf b)
def wt:List Th->Nat
 | []=>0
 | t::l=>t.val.length+1+wt l
theorem zoL:∀(l:List Th),l.length<=wt l
 | []=>by simp [wt]
 | t::l=>by have:=zoL l;simp only [xL,wt];omega
theorem zoM :∀{l:List Th},t∈l->t.val.length+1<=wt l
 | [],h=>by cases h
 | u::l,h=>by
  rw [wt];rcases xr.1 h with rfl| h
  ·omega
  ·have:=zoM h;omega
theorem zDe :∀{l:List Rec} {t:Vw},t∈(vws m e l).1->t.R∈l
 | [],t,h=>by simp [vws] at h
 | r::l,t,h=>by
  rw [vws] at h;cases hv:vw m r.Number r.Wire with
  | inl c=>rw [hv] at h;simp at h
  | inr p=>
   rw [hv] at h;rcases xr.1 h with rfl| h
   ·grind
   ·exact xp _ (zDe h)
theorem zDk (h:t∈(zaJ m b).1):t.R∈(spl 0 b).1:=by
 unfold zaJ vwR at h;split at h
 ·exact zDe h
 ·simp at h
theorem ztR (h:t∈(zaJ m b).1):0<=t.R.From/\t.R.From<t.R.At/\t.R.At<=t.R.To/\t.R.To<=b.length:=by
 have:=zsm 0 b _ (zDk h);simpa using this
theorem zJr (b:List UInt8):∀(base:Nat) (l:List UInt8),l=b.drop base->base<=b.length->wt ((vws m e (spl base l).1).1.map (thOf b))<=l.length:=by
 intro base l;refine zgQ (fun base l=>l=b.drop base->base<=b.length->wt ((vws m e (spl base l).1).1.map (thOf b))<=l.length) ?_ ?_ ?_ base l
 ·intro base _ _;rw [zey];simp [vws,wt]
 ·intro base l c hl h _ _ _;rw [zgr hl h];simp [vws,wt]
 ·intro base l n w a t hl h _ g1 g2 g3 ih hld hbase;have wz:l.length=b.length - base:=by rw [hld];simp
  have ih':=ih (by rw [hld,xU]) (by omega);rw [zdv hl h,vws];cases hv:vw m n w with
  | inl c=>simp [wt]
  | inr p=>
   simp only [xC,wt,thOf,xN] at ih'|-;rw [zvy (b:=b) (base:=base) (a:=a) (t:=t) rfl rfl (by omega) g2];omega
theorem zmU (m:Mes) (b:List UInt8):wt (ths m b)<=b.length:=by
 unfold ths zaJ vwR;split
 ·exact zJr b 0 b rfl (xx _)
 ·simp [wt]
abbrev zcu:=List UInt8×Bool×List Int×List Str×List Msg
def stp (g:Int->List UInt8->Msg) (f:Fld) (a:zcu) (t:Th):zcu:=
 if t.run=true then (a.1,true,(if f.Repeated=true then a.2.2.1 else [])++(zaG f.Kind t.val).1,(if f.Repeated=true then a.2.2.2.1 else []),a.2.2.2.2)
 else if kNum f.Kind=true then (a.1,true,(if f.Repeated=true then a.2.2.1 else [])++[(znf f.Kind t.val).1],(if f.Repeated=true then a.2.2.2.1 else []),a.2.2.2.2)
 else if f.Kind=17/\f.Repeated=true then (a.1,true,(if f.Repeated=true then a.2.2.1 else []),(if f.Repeated=true then a.2.2.2.1 else []),a.2.2.2.2++[g f.Of t.val])
 else if f.Kind=17 then (a.1++t.val,true,(if f.Repeated=true then a.2.2.1 else []),(if f.Repeated=true then a.2.2.2.1 else []),a.2.2.2.2)
 else (a.1,true,(if f.Repeated=true then a.2.2.1 else []),(if f.Repeated=true then a.2.2.2.1 else [])++[t.val],a.2.2.2.2)
def accF (g:Int->List UInt8->Msg) (f:Fld) (i:Int):zcu->List Th->zcu
 | a,[]=>a
 | a,t::l=>accF g f i (if t.fi=i then stp g f a t else a) l
theorem zsB (g:Int->List UInt8->Msg) (f:Fld) (i:Int):∀(a:zcu) (l m:List Th),accF g f i a (l++m)=accF g f i (accF g f i a l) m
 | a,[],m=>rfl
 | a,t::l,m=>by simp only [yg,accF];exact zsB g f i _ l m
def wA (a:zcu):Nat:=a.1.length+a.2.2.1.length+a.2.2.2.1.length+a.2.2.2.2.length
def wJ (a:zcu):Nat:=a.1.length+(if a.2.1=true then 1 else 0)
theorem zpl (k:Int) (v:List UInt8):(zaG k v).1.length<=v.length:=by
 unfold zaG;have:=zyh k v
 grind
theorem zGa (g:Int->List UInt8->Msg) (f:Fld) (a:zcu) (t:Th):wA (stp g f a t)<=wA a+t.val.length+1/\wJ (stp g f a t)<=wJ a+t.val.length+1:=by
 have h1:(if f.Repeated=true then a.2.2.1 else []).length<=a.2.2.1.length:=by split<;>simp
 have h2:(if f.Repeated=true then a.2.2.2.1 else []).length<=a.2.2.2.1.length:=by split<;>simp
 have h3:=zpl f.Kind t.val;unfold stp wA wJ
 grind
theorem znG (g:Int->List UInt8->Msg) (f:Fld) (i:Int):∀(a:zcu) (l:List Th),wA (accF g f i a l)<=wA a+wt l/\wJ (accF g f i a l)<=wJ a+wt l
 | a,[]=>by simp [accF,wt]
 | a,t::l=>by
  have h:=znG g f i (if t.fi=i then stp g f a t else a) l;have h2:=zGa g f a t;rw [accF,wt];split at h
  ·rename_i ht;rw [xn ht];omega
  ·rename_i ht;rw [xm ht];omega
def acc0:zcu:=([],false,[],[],[])
def valO (g:Int->List UInt8->Msg) (f:Fld) (q:zcu):Vlu:=⟨f.Number,q.2.2.1,q.2.2.2.1,if q.2.1=true/\f.Kind=17/\f.Repeated=false then [g f.Of q.1] else q.2.2.2.2⟩
def zlg (g:Int->List UInt8->Msg) (m:Mes) (l:List Th) (o:List Int):List Vlu:=(o.map fun i=>valO g (zy m i) (accF g (zy m i) i acc0 l)).filter fun v=>decide (0<zay v)
def unkO (l:List Th):List Str:=(l.filter fun t=>decide (t.fi<0)).map (·.raw)
def zgz (g:Int->List UInt8->Msg) (m:Mes) (l:List Th):Msg:=⟨zlg g m l (zbU (zaK m) m.Fields.length),unkO l⟩
def ofN (s:List Mes):Nat->Int->List UInt8->Msg
 | 0,_,_=>⟨[],[]⟩
 | n+1,k,b=>zgz (ofN s n) (zA s k) (ths (zA s k) b)
theorem zEa (a:zcu) (h:f.Kind=17->g f.Of t.val=g' f.Of t.val):stp g f a t=stp g' f a t:=by
 unfold stp
 grind
theorem ztQ (i:Int):∀(a:zcu) {l:List Th},(f.Kind=17->∀v:List UInt8,v.length+1<=wt l->g f.Of v=g' f.Of v)->accF g f i a l=accF g' f i a l
 | a,[],h=>rfl
 | a,t::l,h=>by
  rw [accF,accF,zEa a (fun ww=>h ww t.val (by rw [wt];omega))];exact ztQ i _ (fun ww v hv=>h ww v (by rw [wt];omega))
theorem zBP (i:Int) (h:f.Kind=17->∀v:List UInt8,v.length+1<=wt l->g f.Of v=g' f.Of v):valO g f (accF g f i acc0 l)=valO g' f (accF g' f i acc0 l):=by
 rw [ztQ i acc0 h];have hw:=(znG g' f i acc0 l).2;unfold valO;by_cases hc:(accF g' f i acc0 l).2.1=true/\f.Kind=17/\f.Repeated=false
 ·rw [xn hc,xn hc,h hc.2.1 _ (by
   have h0:wJ acc0=0:=rfl;rw [h0,wJ,xn hc.1] at hw;omega)]
 grind
theorem zsL (h:∀k:Int,∀v:List UInt8,v.length+1<=wt l->g k v=g' k v):zgz g m l=zgz g' m l:=by
 unfold zgz zlg;congr 2;exact qC fun i _=>zBP i (fun _ v hv=>h _ v hv)
theorem zqb (s:List Mes):∀(n n':Nat) (k:Int) (b:List UInt8),b.length<n->b.length<n'->ofN s n k b=ofN s n' k b
 | 0,n',k,b,h,_=>by omega
 | n+1,0,k,b,_,h=>by omega
 | n+1,n'+1,k,b,h,h'=>by
  rw [ofN,ofN];have hw:=zmU (zA s k) b;exact zsL fun k v hv=>zqb s n n' k v (by omega) (by omega)
def ofM (s:List Mes) (k:Int) (b:List UInt8):Msg:=ofN s (b.length+1) k b
theorem zHk {s:List Mes} {n:Nat} {k:Int} {b:List UInt8} (h:b.length<n):ofN s n k b=ofM s k b:=zqb s _ _ _ _ h (Nat.lt_succ_self _)
theorem zki (s:List Mes) (k:Int) (b:List UInt8):ofM s k b=zgz (ofM s) (zA s k) (ths (zA s k) b):=by
 have hw:=zmU (zA s k) b;unfold ofM;rw [ofN];exact zsL fun k v hv=>zqb s _ _ _ _ (by omega) (Nat.lt_succ_self _)
theorem zDc (b:List UInt8) (r:Rec) (h:r.At<=r.To) (h0:0<=r.From) (h1:r.From<r.At) (h2:r.To<=b.length):(valB b r).length+1<=b.length:=by
 unfold valB;simp;omega
theorem zva {g:Int->List UInt8->Msg} {rec:List ze->Int->List UInt8->Option zb} {sv:List Mes} {b:List UInt8} (hb:b.length<=1048576) {f:Fld}
  (hg:f.Kind=17->∀v:List UInt8,v.length+1<=b.length->rec sv f.Of v=some (g f.Of v)) {rv:List Vw×Int×Int} (hr:∀t∈rv.1,0<=t.R.From/\t.R.From<t.R.At/\t.R.At<=t.R.To/\t.R.To<=b.length)
  (hL:rv.1.length<=1048576) {wo:List Int} {i:Nat} {ix:Int} (hi:idx wo (i:Int)=some ix):∀(c k:Nat) (a:zcu),k+c=rv.1.length->wA a+wt ((rv.1.drop k).map (thOf b))<=1048576->
  zdC b i rec rv wo sv f a.1 a.2.1 k a.2.2.1 a.2.2.2.1 a.2.2.2.2=some (accF g f ix a ((rv.1.drop k).map (thOf b)))
 | 0,k,a,hk,hw=>by
  have e:rv.1.drop k=[]:=yu (by omega);rw [e];refine zmE ?_;unfold zbM;rw [ud];rfl
 | c+1,k,a,hk,hw=>by
  have hkl:k<rv.1.length:=by omega
  rw [yd hkl,xC] at hw|-;rw [wt] at hw
  generalize ht:rv.1[k]=t at hw|-
  have hx:idx rv.1 (k:Int)=some t:=by rw [zS rfl hkl,ht]
  have htr:=hr t (by rw [<-ht];exact xy hkl);obtain ⟨r1,r2,r3,r4⟩:=htr;have hcut:cut b t.R.At t.R.To=some (valB b t.R):=by
   obtain ⟨x,hx1⟩:∃x:Nat,t.R.At=x:=⟨t.R.At.toNat,by omega⟩;obtain ⟨y,hy1⟩:∃x:Nat,t.R.To=x:=⟨t.R.To.toNat,by omega⟩;rw [zgj hx1 hy1 (by omega) (by omega)];unfold valB;rw [hx1,hy1];simp only [xB]
  have hvl:=zDc b t.R r3 r1 r2 r4;have hst:=(zGa g f a (thOf b t)).1
  have ih:=zva hb hg hr hL hi c (k+1) (if t.Field=ix then stp g f a (thOf b t) else a) (by omega)
   (by split<;>omega)
  have hwk:i64.wrap ((k:Int)+1)=((k+1:Nat):Int):=by rw [ue];push_cast;rfl
  rw [accF];have hfi:(thOf b t).fi=t.Field:=rfl;rw [hfi,<-ih];by_cases hf:t.Field=ix
  ·rw [xn hf];refine zhP ?_;unfold zbM;have hp:(if (!f.Repeated)=true then some (([]:List Int),([]:List Str)) else some (a.2.2.1,a.2.2.2.1))=some ((if f.Repeated=true then a.2.2.1 else []),(if f.Repeated=true then a.2.2.2.1 else [])):=by
    grind
   rw [uc,hx,sb,hi,sb,itF (by simpa using hf),sb,sb,hcut,sb,hp,sb,sb,hwk];have l1:(if f.Repeated=true then a.2.2.1 else []).length<=a.2.2.1.length:=by split<;>simp
   have l2:(if f.Repeated=true then a.2.2.2.1 else []).length<=a.2.2.2.1.length:=by split<;>simp
   have hval:(thOf b t).val=valB b t.R:=rfl;have wE:(thOf b t).run=t.Run:=rfl;rw [hval] at hw;unfold wA at hw;unfold stp;rw [hval,wE];by_cases hrn:t.Run=true
   ·have hl:=zpl f.Kind (valB b t.R);rw [itT hrn,xn hrn,zzW _ (by omega),sb,zbn (by simp only;omega),sb]
   ·rw [itF (by simpa using hrn),xm hrn,zkn,sb];by_cases hn:kNum f.Kind=true
    ·rw [itT hn,xn hn,zsT _ (by omega),sb,zbn (by simp only [yh];omega),sb]
    ·rw [itF (by simpa using hn),xm hn];by_cases h1:f.Kind=17/\f.Repeated=true
     ·rw [itT (by simpa using h1),xn h1,hg h1.1 _ hvl,sb,zbn (by simp only [yh];omega),sb]
     ·rw [itF (by simpa using h1),xm h1];by_cases h2:f.Kind=17
      ·rw [itT (by simpa using h2),xn h2,zbn (by omega),sb]
      ·rw [itF (by simpa using h2),xm h2,zbn (by simp only [yh];omega),sb]
  ·rw [xm hf];refine zhP ?_;unfold zbM
   grind
theorem zEh {g:Int->List UInt8->Msg} {f:Fld} {q:zcu} (h:wA q<=1048576):(valO g f q).Words.length<=1048576/\(valO g f q).Texts.length<=1048576/\(valO g f q).Subs.length<=1048577:=by
 unfold wA at h;unfold valO
 grind
theorem zrf {g:Int->List UInt8->Msg} {rec:List ze->Int->List UInt8->Option zb} {sv:List Mes} {root:Int} {m:Mes} (hm:idx sv root=some m) {b:List UInt8} (hb:b.length<=1048576)
  (hg:∀f∈m.Fields,f.Kind=17->∀v:List UInt8,v.length+1<=b.length->rec sv f.Of v=some (g f.Of v)) {rv:List Vw×Int×Int} (hr:∀t∈rv.1,0<=t.R.From/\t.R.From<t.R.At/\t.R.At<=t.R.To/\t.R.To<=b.length)
  (hw:wt (rv.1.map (thOf b))<=b.length) {o:List Int} (ho:∀x∈o,0<=x/\x<m.Fields.length) (hol:o.length<=1048576):∀(c i:Nat) (out:List Vlu),i+c=o.length->out.length<=i->
  zdB b rec root rv o sv i out=some (out++zlg g m (rv.1.map (thOf b)) (o.drop i))
 | 0,i,out,hi,hout=>by
  have e:o.drop i=[]:=yu (by omega);rw [e];refine zmD ?_;unfold zbL;rw [ud];simp [zlg]
 | c+1,i,out,hi,hout=>by
  have hil:i<o.length:=by omega
  rw [yd hil];have hxm:=ho _ (xy hil)
  generalize hx:o[i]=ix at hxm|-
  have hix:idx o (i:Int)=some ix:=by rw [zS rfl hil,hx]
  obtain ⟨n,hn⟩:∃n:Nat,ix=n:=⟨ix.toNat,by omega⟩;have hnl:n<m.Fields.length:=by omega
  have hfx:idx m.Fields ix=some (zy m ix):=by subst hn;rw [zS rfl hnl,zcp hnl]
  have hfm:zy m ix∈m.Fields:=by rw [hn,zcp hnl];exact xy _
  have hL:rv.1.length<=1048576:=by have:=zoL (rv.1.map (thOf b));simp only [yP] at this;omega
  have w0:wA acc0=0:=rfl;have j0:wJ acc0=0:=rfl;have hl2:=zva hb (hg _ hfm) hr hL hix rv.1.length 0 acc0 (by omega) (by rw [w0,yb];omega);have hl2':zdC b i rec rv o sv (zy m ix) [] false 0 [] [] []=_:=hl2;rw [yb] at hl2';have haw:=znG g (zy m ix) ix acc0 (rv.1.map (thOf b))
  generalize hq:accF g (zy m ix) ix acc0 (rv.1.map (thOf b))=q at hl2' haw
  have hmany:=zEh (g:=g) (f:=zy m ix) (q:=q) (by omega);have hv:zlg g m (rv.1.map (thOf b)) (ix::o.drop (i+1))=(if 0<zay (valO g (zy m ix) q) then [valO g (zy m ix) q] else [])++zlg g m (rv.1.map (thOf b)) (o.drop (i+1)):=by
   unfold zlg
   grind
  have wL:zbL b rec root rv o sv i out=some (.inl (((i+1:Nat):Int),out++(if 0<zay (valO g (zy m ix) q) then [valO g (zy m ix) q] else []))):=by
   unfold zbL;rw [uc,hm,sb,hix,sb,hfx,sb,hl2',sb];have hp:(if (q.2.1&&((zy m ix).Kind==17&& !(zy m ix).Repeated))=true then (rec sv (zy m ix).Of q.1>>=fun rv7=>some ([rv7]:List zb)) else some q.2.2.2.2)=some (valO g (zy m ix) q).Subs:=by
    unfold valO;by_cases hc:q.2.1=true/\(zy m ix).Kind=17/\(zy m ix).Repeated=false
    ·rw [itT (by simp [hc.1,hc.2.1,hc.2.2]),hg _ hfm hc.2.1 _ (by
      have:=haw.2;rw [j0,wJ,xn hc.1] at this;omega),sb]
     grind
    grind
   rw [hp,sb];have he:(⟨(zy m ix).Number,q.2.2.1,q.2.2.2.1,(valO g (zy m ix) q).Subs⟩:Vlu)=valO g (zy m ix) q:=rfl;rw [he,zuY ⟨by omega,by omega,by omega⟩,sb,ue];by_cases h:0<zay (valO g (zy m ix) q)
   ·rw [itT (by simpa using h),xn h,zbn (by simp only [yh];omega),sb];push_cast;rfl
   grind
  rw [zmC wL,zrf hm hb hg hr hw ho hol c (i+1) _ (by omega) (by
   rw [xz];split<;>simp<;>omega),hv,yr]
theorem zlD {b:List UInt8} (hb:b.length<=1048576) {rv:List Vw×Int×Int} (hr:∀t∈rv.1,0<=t.R.From/\t.R.From<t.R.At/\t.R.At<=t.R.To/\t.R.To<=b.length) (hL:rv.1.length<=1048576):
  ∀(c k:Nat) (out:List Str),k+c=rv.1.length->out.length<=k->zdD b rv k out=some (out++unkO ((rv.1.drop k).map (thOf b)))
 | 0,k,out,hk,hout=>by
  have e:rv.1.drop k=[]:=yu (by omega);rw [e];refine zmF ?_;unfold zaU;rw [ud];simp [unkO]
 | c+1,k,out,hk,hout=>by
  have hkl:k<rv.1.length:=by omega
  rw [yd hkl,xC]
  generalize ht:rv.1[k]=t
  have hx:idx rv.1 (k:Int)=some t:=by rw [zS rfl hkl,ht]
  obtain ⟨r1,r2,r3,r4⟩:=hr t (by rw [<-ht];exact xy hkl);have hcut:cut b t.R.From t.R.To=some (rawB b t.R):=by
   obtain ⟨x,hx1⟩:∃x:Nat,t.R.From=x:=⟨t.R.From.toNat,by omega⟩;obtain ⟨y,hy1⟩:∃x:Nat,t.R.To=x:=⟨t.R.To.toNat,by omega⟩;rw [zgj hx1 hy1 (by omega) (by omega)];unfold rawB;rw [hx1,hy1];simp only [xB]
  have hwk:i64.wrap ((k:Int)+1)=((k+1:Nat):Int):=by rw [ue];push_cast;rfl
  have hfi:(thOf b t).fi=t.Field:=rfl;have hraw:(thOf b t).raw=rawB b t.R:=rfl;by_cases hf:t.Field<0
  ·have wL:zaU b rv k out=some (.inl (((k+1:Nat):Int),out++[rawB b t.R])):=by
    unfold zaU;rw [uc,hx,sb,itT (by simpa using hf),sb,sb,hcut,sb,zbn (by simp only [yh];omega),sb,hwk]
   rw [zhQ wL,zlD hb hr hL c (k+1) _ (by omega) (by simp;omega)];unfold unkO;rw [yL,xn (by rw [hfi];simpa using hf),xC,hraw,yr];rfl
  ·have wL:zaU b rv k out=some (.inl (((k+1:Nat):Int),out)):=by
    unfold zaU;rw [uc,hx,sb,itF (by simpa using hf),hwk]
   rw [zhQ wL,zlD hb hr hL c (k+1) _ (by omega) (by omega)];unfold unkO;rw [yL,xm (by rw [hfi];simpa using hf)]
theorem zsS {s:List Mes} (hs:zgh s):∀(fuel k:Nat) (b:List UInt8),k<s.length->b.length<=1048576->b.length<fuel->zbS fuel s k b=some (ofN s fuel k b)
 | 0,k,b,_,_,h=>by omega
 | fuel+1,k,b,hk,hb,hf=>by
  have hm:idx s (k:Int)=some (zA s k):=by rw [zS rfl hk,zdJ hk]
  have hmm:zA s (k:Int)∈s:=by rw [zdJ hk];exact xy hk
  have hfew:=hs.few _ hmm;have hg:∀f∈(zA s (k:Int)).Fields,f.Kind=17->∀v:List UInt8,v.length+1<=b.length->zbS fuel s f.Of v=some (ofN s fuel f.Of v):=fun f hfm ww v hv=>by
   have hof:=(hs.fld _ hmm f hfm).sub ww;obtain ⟨q,hq⟩:∃q:Nat,f.Of=q:=⟨f.Of.toNat,by omega⟩;rw [hq];exact zsS hs fuel q v (by omega) (by omega) (by omega)
  have hr:∀t∈(zaJ (zA s (k:Int)) b).1,0<=t.R.From/\t.R.From<t.R.At/\t.R.At<=t.R.To/\t.R.To<=b.length:=fun t ht=>ztR ht
  have hw:wt ((zaJ (zA s (k:Int)) b).1.map (thOf b))<=b.length:=zmU _ _;have hL:(zaJ (zA s (k:Int)) b).1.length<=1048576:=by have:=zoL ((zaJ (zA s (k:Int)) b).1.map (thOf b));simp only [yP] at this;omega
  have h1:=zrf (root:=(k:Int)) hm hb hg hr hw (o:=zbU (zaK (zA s (k:Int))) (zA s (k:Int)).Fields.length) (fun x hx=>zdV.1 hx) (by rw [zph];omega) _ 0 [] (xP _) (xt _);have h1':zdB b (zbS fuel) k (zaJ (zA s (k:Int)) b) (zbU (zaK (zA s (k:Int))) (zA s (k:Int)).Fields.length) s 0 []=_:=h1;have h3:=zlD hb hr hL _ 0 [] (xP _) (xt _);have h3':zdD b (zaJ (zA s (k:Int)) b) 0 []=_:=h3;show zeS (zbS fuel) s k b=_;unfold zeS;rw [hm,sb,zzQ (by omega) hb,sb,sb,zyn (by omega),sb,h1',sb,h3',sb,ofN];rfl
theorem zqh {s:List Mes} (hs:zgh s) {k:Nat} (hk:k<s.length) {b:List UInt8} (hb:b.length<=1048576) {fuel:Nat} (hf:b.length<fuel):zbS fuel s k b=some (ofM s k b):=by
 rw [zsS hs fuel k b hk hb hf,zHk hf]
mutual
/-- How much a meaning is, all together. -/
def wgM:Msg->Nat
 | ⟨vs,u⟩=>1+(u.map fun t=>1+t.length).sum+wgVs vs
def wgVs:List Vlu->Nat
 | []=>0
 | v::l=>wgV v+wgVs l
def wgV:Vlu->Nat
 | ⟨_,w,t,s⟩=>1+w.length+(t.map fun t=>1+t.length).sum+wgMs s
def wgMs:List Msg->Nat
 | []=>0
 | x::l=>wgM x+wgMs l
end
theorem zmW (x:Msg):wgM x=1+(x.Unknown.map fun t=>1+t.length).sum+wgVs x.Values:=by cases x;rw [wgM]
theorem zkB (v:Vlu):wgV v=1+v.Words.length+(v.Texts.map fun t=>1+t.length).sum+wgMs v.Subs:=by cases v;rw [wgV]
theorem zAw :∀{l:List Vlu},v∈l->wgV v<=wgVs l
 | [],h=>by cases h
 | u::l,h=>by
  rw [wgVs];rcases xr.1 h with rfl| h
  ·omega
  ·have:=zAw h;omega
theorem zoJ :∀{l:List Msg},x∈l->wgM x<=wgMs l
 | [],h=>by cases h
 | u::l,h=>by
  rw [wgMs];rcases xr.1 h with rfl| h
  ·omega
  ·have:=zoJ h;omega
theorem zyC :∀{l:List Str},t∈l->1+t.length<=(l.map fun t=>1+t.length).sum
 | [],h=>by cases h
 | u::l,h=>by
  rw [xC,yQ];rcases xr.1 h with rfl| h
  ·omega
  ·have:=zyC h;omega
theorem zyB:∀{l:List Str},l.length<=(l.map fun t=>1+t.length).sum
 | []=>by simp
 | u::l=>by
  rw [xC,yQ,xL];have:=zyB (l:=l);omega
theorem zAv:∀(l:List Vlu),l.length<=wgVs l
 | []=>by simp [wgVs]
 | u::l=>by rw [wgVs,xL,zkB];have:=zAv l;omega
theorem zAu:∀(l:List Msg),l.length<=wgMs l
 | []=>by simp [wgMs]
 | u::l=>by rw [wgMs,xL,zmW];have:=zAu l;omega
def unkR (m:Mes) (u:Str):Bool:=(zcS u 0).2==0&&(zcS u 0).1.To==(u.length:Int)&&decide (fldI m (zcS u 0).1.Number<0)
def zmp (f:Fld) (w:Int):Bool:=kNum f.Kind&&zeZ f.Kind w==w
def zrr (f:Fld) (t:Str):Bool:=f.Kind==16|| (f.Kind==15&&ziF t)
def zwL (f:Fld) (v:Vlu):Bool:=decide (0<zay v)&&(decide (zay v<=1)|| f.Repeated)&&zbY f.Kind
mutual
def zbA (s:List Mes):Msg->Int->Bool
 | ⟨vs,u⟩,k=>decide (0<=k/\k<s.length)&&zgO s vs (zA s k) none&&u.all (unkR (zA s k))
def zgO (s:List Mes):List Vlu->Mes->Option Int->Bool
 | [],_,_=>true
 | v::l,m,p=>decide (0<=fldI m v.Number)&&p.all (fun n=>decide (n<v.Number))&&zmZ s v (zy m (fldI m v.Number))&&zgO s l m (some v.Number)
def zmZ (s:List Mes):Vlu->Fld->Bool
 | ⟨n,w,t,sub⟩,f=>zwL f ⟨n,w,t,sub⟩&&w.all (zmp f)&&t.all (zrr f)&&zpd s sub f
def zpd (s:List Mes):List Msg->Fld->Bool
 | [],_=>true
 | x::l,f=>(f.Kind==17&&zbA s x f.Of)&&zpd s l f
end
theorem zsl (s:List Mes) (x:Msg) (k:Int):zbA s x k=(decide (0<=k/\k<s.length)&&zgO s x.Values (zA s k) none&&x.Unknown.all (unkR (zA s k))):=by cases x;rw [zbA]
theorem zul (s:List Mes) (v:Vlu) (f:Fld):zmZ s v f=(zwL f v&&v.Words.all (zmp f)&&v.Texts.all (zrr f)&&zpd s v.Subs f):=by cases v;rw [zmZ]
theorem zmQ (s:List Mes) (f:Fld):∀(l:List Msg),zpd s l f=l.all fun x=>f.Kind==17&&zbA s x f.Of
 | []=>by rw [zpd];rfl
 | x::l=>by rw [zpd,zmQ s f l];rfl
theorem zrI {α:Type} (bytes:Nat) (l:List α) (hl:l.length*bytes<=140737488355328) (F:Int->List α->Option (List α)) (h0:∀a,F (l.length:Int) a=some a)
  (hs:∀(i:Nat) (h:i<l.length) (a:List α),(a.length+1)*bytes<=140737488355328->F (i:Int) a=F ((i+1:Nat):Int) (a++[l[i]])):∀(c i:Nat),i+c=l.length->F (i:Int) (l.take i)=some l
 | 0,i,h=>by
  grind
 | c+1,i,h=>by
  have hil:i<l.length:=by omega
  have hb:(i+1)*bytes<=140737488355328:=yo (yp _ hil) hl;rw [hs i hil _ (by rw [xO,yW (by omega)];exact hb),List.take_append_getElem hil];exact zrI bytes l hl F h0 hs c (i+1) (by omega)
theorem zEB:∀(fuel:Nat),(∀x:Msg,szM x<fuel->bdM x->zcs fuel x=some x)/\∀v:Vlu,szV v<fuel->bdV v->zcA fuel v=some v
 | 0=>⟨fun x h=>by omega,fun v h=>by omega⟩
 | fuel+1=>by
  obtain ⟨ih1,ih2⟩:=zEB fuel;refine ⟨fun x hsz hb=>?_,fun v hsz hb=>?_⟩
  ·obtain ⟨b1,⟨b2,b3⟩,b4⟩:=(znJ x).1 hb;rw [zeF] at hsz;show zeL (zcs fuel) (zcA fuel) x=_;unfold zeL;have h:=zrI 80 x.Values (by omega) (fun i a=>zdx (zcA fuel) x i a) (fun a=>by
     refine zmy ?_;unfold zcw;rw [p9])
    (fun i hi a ha=>by
     have hm:=xy hi;have s1:=zfX hm;refine zmx ?_;unfold zcw;rw [uc,zS rfl hi,sb,ih2 _ (by omega) (zhb.1 b4 _ hm),sb,zbn (by rw [yh];exact ha),sb,ue];push_cast;rfl)
    x.Values.length 0 (xP _)
   have h':zdx (zcA fuel) x 0 []=_:=h;rw [zbn (by simp;omega),sb,h',sb,xR];cases x;rfl
  ·obtain ⟨_,_,_,b4,b5⟩:=(zlj v).1 hb;rw [ziI] at hsz;show zcW (zcs fuel) (zcA fuel) v=_;unfold zcW;have h:=zrI 48 v.Subs (by omega) (fun i a=>zbD (zcs fuel) v i a) (fun a=>by
     refine zjC ?_;unfold zbd;rw [p9])
    (fun i hi a ha=>by
     have hm:=xy hi;have s1:=zfW hm;refine zjB ?_;unfold zbd;rw [uc,zS rfl hi,sb,ih1 _ (by omega) (zha.1 b5 _ hm),sb,zbn (by rw [yh];exact ha),sb,ue];push_cast;rfl)
    v.Subs.length 0 (xP _)
   have h':zbD (zcs fuel) v 0 []=_:=h;rw [h',sb];cases v;rfl
theorem zBd (hf:szM x<fuel) (hb:bdM x):zcs fuel x=some x:=(zEB fuel).1 x hf hb
mutual
/-- No list is long. -/
def smM:Msg->Prop
 | ⟨vs,u⟩=>vs.length<=1048576/\(u.length<=1048576/\∀t∈u,t.length<=1048576)/\smVs vs
def smVs:List Vlu->Prop
 | []=>True
 | v::l=>smV v/\smVs l
def smV:Vlu->Prop
 | ⟨n,w,t,s⟩=>w.length<=1048576/\(t.length<=1048576/\∀x∈t,x.length<=1048576)/\s.length<=1048576/\smMs s
def smMs:List Msg->Prop
 | []=>True
 | x::l=>smM x/\smMs l
end
theorem zoA (x:Msg):smM x↔x.Values.length<=1048576/\(x.Unknown.length<=1048576/\∀t∈x.Unknown,t.length<=1048576)/\smVs x.Values:=by cases x;simp only [smM]
theorem zoB (v:Vlu):smV v↔v.Words.length<=1048576/\(v.Texts.length<=1048576/\∀x∈v.Texts,x.length<=1048576)/\v.Subs.length<=1048576/\smMs v.Subs:=by cases v;simp only [smV]
theorem zib:∀{l:List Vlu},smVs l↔∀v∈l,smV v
 | []=>by simp [smVs]
 | v::l=>by rw [smVs,zib (l:=l)];simp
theorem zkt:∀{l:List Msg},smMs l↔∀v∈l,smM v
 | []=>by simp [smMs]
 | v::l=>by rw [smMs,zkt (l:=l)];simp
def zGc (s:List Mes):Nat->zkQ
 | 0=>none
 | e+1=>some (zU s e)
theorem zmH (s:List Mes) (d:Nat) (k:Int) (b:List UInt8):zU s d k b=zbQ (zA s k) (zGc s d) b (spl 0 b):=by cases d<;>rfl
theorem znX (s:List Mes) (d:Nat) (k:Int):zU s d k []=none:=by rw [zmH,zey];rfl
def vwG (m:Mes) (r:Rec):Int×Bool:=match vw m r.Number r.Wire with
 | .inl _=>(-1,false)
 | .inr p=>p
def thR (m:Mes) (b:List UInt8) (r:Rec):Th:=⟨(vwG m r).1,(vwG m r).2,valB b r,rawB b r⟩
theorem zGq :∀{l:List Rec},(∀r∈l,∃p,vw m r.Number r.Wire= .inr p)->vws m none l=(l.map fun r=>⟨r,(vwG m r).1,(vwG m r).2⟩,none)
 | [],_=>rfl
 | r::l,h=>by
  obtain ⟨p,hp⟩:=h r xo;rw [vws,hp,zGq fun x hx=>h x (xp _ hx)];simp only [xC,vwG,hp]
theorem zHA (h:zcR m sub b r=none):∃p,vw m r.Number r.Wire= .inr p:=by
 unfold zcR at h;cases hv:vw m r.Number r.Wire with
 | inl c=>rw [hv] at h;cases h
 | inr p=>exact ⟨p,rfl⟩
theorem zvt (h:zU s d k b=none):ths (zA s k) b=(spl 0 b).1.map (thR (zA s k) b):=by
 rw [zmH,zft] at h;unfold ths zaJ;rw [h.2,zGq fun r hr=>zHA (h.1 r hr)];unfold vwR;simp only [yX];rfl
theorem zzO {b:List UInt8} (z:List UInt8) {r:Rec} (h0:0<=r.To) (h:r.To<=b.length):rawB (b++z) r=rawB b r:=by
 unfold rawB;by_cases ha:r.From.toNat<=b.length
 ·grind
 ·have e:r.To.toNat - r.From.toNat=0:=by omega
  grind
theorem zBw (a b:List UInt8) {r:Rec} (h0:0<=r.From) (h1:r.From<=r.To):rawB (a++b) (zkr a.length r)=rawB b r:=by
 unfold rawB zkr;simp only;have e1:(r.From+(a.length:Int)).toNat=a.length+r.From.toNat:=by omega
 have e2:(r.To+(a.length:Int)).toNat - (a.length+r.From.toNat)=r.To.toNat - r.From.toNat:=by omega
 simp_all
theorem zvs {s:List Mes} {d:Nat} {k:Int} {a z:List UInt8} (ha:zU s d k a=none) (hz:zU s d k z=none):ths (zA s k) (a++z)=ths (zA s k) a++ths (zA s k) z:=by
 rw [zvt ((zgL s d k z ha).2 hz),zvt ha,zvt hz];rw [zmH,zft] at ha;have hap:=zvm z 0 a ha.2;have hsh:=zxc a.length 0 z;rw [xP] at hap hsh;rw [hap,hsh];simp only [yv,yX];congr 1
 ·refine qC fun r hr=>?_
  have:=zsm 0 a r hr;unfold thR;rw [zta z (by omega) (by omega),zzO z (by omega) (by omega)]
 ·refine qC fun r hr=>?_
  have:=zsm 0 z r hr;show thR _ _ (zkr a.length r)=_;unfold thR;rw [zqp a z (by omega) (by omega),zBw a z (by omega) (by omega)];rfl
structure OkT (s:List Mes) (d:Nat) (m:Mes) (t:Th):Prop where
 fi:t.fi= -1\/0<=t.fi/\t.fi<m.Fields.length
 unk:t.fi<0->unkR m t.raw=true
 run:0<=t.fi->t.run=true->kNum (zy m t.fi).Kind=true/\(zy m t.fi).Repeated=true/\(zlQ (zy m t.fi).Kind t.val).2=0
 one:0<=t.fi->t.run=false->zbY (zy m t.fi).Kind=true/\zfr (zcv (zy m t.fi).Kind) t.val=true/\((zy m t.fi).Kind=15->ziF t.val=true)/\((zy m t.fi).Kind=17->∃e,d=e+1/\zU s e (zy m t.fi).Of t.val=none)
theorem zCY (h:zU s d k b=none):∀t∈ths (zA s k) b,OkT s d (zA s k) t:=by
 intro t ht;rw [zvt h] at ht;obtain ⟨r,hr,rfl⟩:=xA.1 ht;obtain ⟨n,w,f,a,u,hre,hrec,h1,h2,h3⟩:=zHy b 0 b rfl (xx _) r hr;rw [zmH,zft] at h;have hs:=h.1 r hr
 generalize zA s k=m at hs|-
 have hraw:rawB b r=(b.drop f).take u:=by
  unfold rawB;rw [hre];simp only [xB]
  grind
 have hval:valB b r=((b.drop f).drop a).take (u - a):=by
  unfold valB;rw [hre];simp only [xB];rw [xU,show f+u - (f+a)=u - a by omega]
 have hfit:=(zBx hrec).1;have hn:r.Number=n:=by rw [hre]
 have hw:r.Wire=w:=by rw [hre]
 have hrl:((b.drop f).take u).length=u:=by simp;omega
 have hnx:zcS ((b.drop f).take u) 0=(⟨n,w,0,0+(a:Int),0+(u:Int)⟩,0):=by
  unfold zcS;rw [xm (by rw [hrl];omega)];simp only [Int.toNat_zero,yb,zDP hrec]
 unfold zcR at hs;rcases zeX m r.Number r.Wire with hv| ⟨hv,hf⟩| ⟨i,run,hv,hfi,hi⟩
 ·grind
 ·have e:vwG m r=(-1,false):=by unfold vwG;rw [hv]
  refine ⟨.inl (by simp only [thR,e]),fun _=>?_,fun hh=>by simp only [thR,e] at hh;omega,fun hh=>by simp only [thR,e] at hh;omega⟩;simp only [thR,hraw];unfold unkR
  grind
 ·have e:vwG m r=((i:Int),run):=by unfold vwG;rw [hv]
  rw [hv] at hs;simp only at hs;rw [xm (by omega)] at hs;refine ⟨.inr (by simp only [thR,e];omega),fun hh=>by simp only [thR,e] at hh;omega,fun _ hrn=>?_,fun _ hrn=>?_⟩
  ·simp only [thR,e] at hrn|-;subst hrn;obtain ⟨v1,v2,_⟩:=zBS hv;refine ⟨v1,v2,?_⟩;unfold zkf at hs
   grind
  ·simp only [thR,e] at hrn|-;subst hrn;have hk:zbY (zy m i).Kind=true/\zcv (zy m i).Kind=r.Wire:=by
    unfold vw at hv
    grind
   refine ⟨hk.1,by rw [hk.2,hw,hval];exact hfit,fun h15=>?_,fun ww=>?_⟩
   ·unfold zkf at hs
    grind
   ·unfold zkf at hs;rw [xm (by simp),xm (by omega),xn ww] at hs;cases d with
    | zero=>simp only [zGc] at hs;cases hs
    | succ e=>
     simp only [zGc] at hs;refine ⟨e,rfl,?_⟩;cases hg:zU s e (zy m i).Of (valB b r) with
     | none=>rfl
     | some q=>rw [hg] at hs;cases hs
structure ztN (s:List Mes) (d:Nat) (f:Fld) (a:zcu):Prop where
 words:∀w∈a.2.2.1,zmp f w=true
 texts:∀t∈a.2.2.2.1,zrr f t=true
 numT:kNum f.Kind=true->a.2.2.2.1=[]
 subs:∀x∈a.2.2.2.2,f.Kind=17/\zbA s x f.Of=true/\1+dM x<=d
 join:f.Kind=17->∀e,d=e+1->zU s e f.Of a.1=none
 met:a.2.1=true->f.Kind=17->∃e,d=e+1
 one:f.Repeated=false->a.2.2.1.length<=1/\a.2.2.2.1.length<=1/\a.2.2.2.2=[]
theorem ztD {k:Int} (h:kNum k=true):k≠17/\k≠15/\k≠16:=by rw [zkd] at h;omega
theorem zAz {f:Fld} (hk:kNum f.Kind=true) (v:List UInt8):∀w∈(zaG f.Kind v).1,zmp f w=true:=by
 intro w hw;unfold zaG at hw;rw [xm (by rw [hk];simp)] at hw;split at hw
 ·obtain ⟨p,_,rfl⟩:=xA.1 hw;unfold zmp zie;rw [hk,zsE _ (zpb _)];simp
 ·cases hw
theorem zAf {f:Fld} (hk:kNum f.Kind=true) {v:List UInt8} (hf:zfr (zcv f.Kind) v=true):zmp f (znf f.Kind v).1=true:=by
 rw [zlb hk hf];unfold zmp zie;rw [hk,zsE _ (zpb _)];simp
theorem zxt (s:List Mes) (d:Nat) (f:Fld):ztN s d f acc0 where
 words:=fun w hw=>nomatch hw
 texts:=fun w hw=>nomatch hw
 numT:=fun _=>rfl
 subs:=fun w hw=>nomatch hw
 join:=fun _ e _=>znX s e _
 met:=fun h=>nomatch h
 one:=fun _=>⟨xx _,xx _,rfl⟩
theorem zJd {s:List Mes} {d:Nat} {m:Mes} {f:Fld} {g:Int->List UInt8->Msg} {a:zcu} {t:Th} (ha:ztN s d f a) (ht:OkT s d m t) (hi:0<=t.fi) (hf:zy m t.fi=f)
  (hg:f.Kind=17->∀e,d=e+1->zU s e f.Of t.val=none->zbA s (g f.Of t.val) f.Of=true/\dM (g f.Of t.val)<=e):ztN s d f (stp g f a t):=by
 obtain ⟨h1,h2,hnt,h3,h4,h5,h6⟩:=ha;have wE:=ht.run hi;have hone:=ht.one hi;rw [hf] at wE hone;have w0:∀w∈(if f.Repeated=true then a.2.2.1 else []),zmp f w=true:=fun w hw=>by
  grind
 have t0:∀w∈(if f.Repeated=true then a.2.2.2.1 else []),zrr f w=true:=fun w hw=>by
  grind
 have tn:kNum f.Kind=true->(if f.Repeated=true then a.2.2.2.1 else [])=[]:=fun hk=>by
  grind
 have wl:f.Repeated=false->(if f.Repeated=true then a.2.2.1 else [])=[]:=fun h=>by rw [h];rfl
 have tl:f.Repeated=false->(if f.Repeated=true then a.2.2.2.1 else [])=[]:=fun h=>by rw [h];rfl
 unfold stp;by_cases hr:t.run=true
 ·obtain ⟨r1,r2,r3⟩:=wE hr;rw [xn hr];refine ⟨fun w hw=>?_,t0,tn,h3,h4,fun _ hk=>absurd hk (ztD r1).1,fun hh=>by rw [r2] at hh;cases hh⟩;rcases xu.1 hw with hw| hw
  ·exact w0 w hw
  ·exact zAz r1 _ w hw
 ·have hr':t.run=false:=by simpa using hr
  obtain ⟨o1,o2,o3,o4⟩:=hone hr';rw [xm hr];by_cases hn:kNum f.Kind=true
  ·rw [xn hn];refine ⟨fun w hw=>?_,t0,tn,h3,h4,fun _ hk=>absurd hk (ztD hn).1,fun hh=>?_⟩
   ·rcases xu.1 hw with hw| hw
    ·exact w0 w hw
    ·rw [xY.1 hw];exact zAf hn o2
   grind
  ·rw [xm hn];by_cases hk:f.Kind=17/\f.Repeated=true
   ·rw [xn hk];obtain ⟨e,he,hv⟩:=o4 hk.1;obtain ⟨g1,g2⟩:=hg hk.1 e he hv;refine ⟨w0,t0,tn,fun x hx=>?_,h4,fun _ _=>⟨e,he⟩,fun hh=>by rw [hk.2] at hh;cases hh⟩
    grind
   ·rw [xm hk];by_cases hk2:f.Kind=17
    ·rw [xn hk2];obtain ⟨e,he,hv⟩:=o4 hk2;refine ⟨w0,t0,tn,h3,fun _ e' he'=>?_,fun _ _=>⟨e,he⟩,fun hh=>?_⟩
     ·have:e'=e:=by omega
      subst this;exact (zgL s e' f.Of t.val (h4 hk2 e' he')).2 hv
     grind
    ·rw [xm hk2];have hk15:f.Kind=15\/f.Kind=16:=by
      have:¬(1<=f.Kind/\f.Kind<=14):=fun hh=>hn (zkd.2 hh)
      have ww:1<=f.Kind/\f.Kind<=17:=by simpa [zbY] using o1
      omega
     refine ⟨w0,fun x hx=>?_,fun hh=>absurd hh hn,h3,h4,fun _ hh=>absurd hh hk2,fun hh=>?_⟩
     ·rcases xu.1 hx with hx| hx
      ·exact t0 x hx
      ·rw [xY.1 hx];unfold zrr
       grind
     grind
theorem zts {s:List Mes} {d:Nat} {m:Mes} {f:Fld} {g:Int->List UInt8->Msg} {i:Int} (hi:0<=i) (hf:zy m i=f):∀(a:zcu) (l:List Th),ztN s d f a->(∀t∈l,OkT s d m t)->
  (∀t∈l,f.Kind=17->∀e,d=e+1->zU s e f.Of t.val=none->zbA s (g f.Of t.val) f.Of=true/\dM (g f.Of t.val)<=e)->ztN s d f (accF g f i a l)
 | a,[],ha,_,_=>ha
 | a,t::l,ha,ht,hg=>by
  rw [accF];refine zts hi hf _ l ?_ (fun x hx=>ht x (xp _ hx)) (fun x hx=>hg x (xp _ hx));split
  ·rename_i h;exact zJd ha (ht t xo) (by omega) (by rw [h];exact hf) (hg t xo)
  ·exact ha
theorem zEC {d:Nat}:∀{l:List Msg},(∀x∈l,1+dM x<=d)->dMs l<=d
 | [],_=>by simp [dMs]
 | x::l,h=>by
  rw [dMs];have:=h x xo;have:=zEC fun y hy=>h y (xp _ hy)
  omega
theorem zED {d:Nat}:∀{l:List Vlu},(∀x∈l,dV x<=d)->dVs l<=d
 | [],_=>by simp [dVs]
 | x::l,h=>by
  rw [dVs];have:=h x xo;have:=zED fun y hy=>h y (xp _ hy)
  omega
theorem zHD {s:List Mes} {d:Nat} {f:Fld} {g:Int->List UInt8->Msg} {q:zcu} (hq:ztN s d f q) (hkr:zbY f.Kind=true)
  (hg:f.Kind=17->q.2.1=true->∀e,d=e+1->zU s e f.Of q.1=none->zbA s (g f.Of q.1) f.Of=true/\dM (g f.Of q.1)<=e) (hm:0<zay (valO g f q)):
  zmZ s (valO g f q) f=true/\dV (valO g f q)<=d:=by
 obtain ⟨h1,h2,hnt,h3,h4,h5,h6⟩:=hq;have hsubs:∀x∈(valO g f q).Subs,f.Kind=17/\zbA s x f.Of=true/\1+dM x<=d:=by
  unfold valO;simp only;intro x hx;split at hx
  ·rename_i hc;obtain ⟨e,he⟩:=h5 hc.1 hc.2.1;obtain ⟨g1,g2⟩:=hg hc.2.1 hc.1 e he (h4 hc.2.1 e he)
   grind
  ·exact h3 x hx
 constructor
 ·rw [zul,zmQ];have hmany:zwL f (valO g f q)=true:=by
   unfold zwL;rw [xV hm,hkr,yV,Bool.and_true];cases hr:f.Repeated with
   | true=>simp
   | false=>
    rw [qt];refine xV ?_;obtain ⟨o1,o2,o3⟩:=h6 hr;unfold zay valO;simp only;by_cases hk:f.Kind=17
    ·have e1:q.2.2.1=[]:=by
      cases hw:q.2.2.1 with
      | nil=>rfl
      | cons w l=>
       have:=h1 w (by rw [hw];exact xo);unfold zmp at this;simp only [xq] at this;exact absurd hk (ztD this.1).1
     have e2:q.2.2.2.1=[]:=by
      cases hw:q.2.2.2.1 with
      | nil=>rfl
      | cons w l=>
       have:=h2 w (by rw [hw];exact xo);unfold zrr at this
       grind
     grind
    ·rw [xm (fun hh=>hk hh.2.1),o3];by_cases hn:kNum f.Kind=true
     ·grind
     ·have e1:q.2.2.1=[]:=by
       cases hw:q.2.2.1 with
       | nil=>rfl
       | cons w l=>
        have:=h1 w (by rw [hw];exact xo);unfold zmp at this
        grind
      grind
  rw [hmany,yV,xq,xq];refine ⟨⟨xD.2 h1,xD.2 h2⟩,xD.2 fun x hx=>?_⟩
  grind
 ·rw [zJA];exact zEC fun x hx=>(hsubs x hx).2.2
theorem zoc (m:Mes) (i:Int):zaK m i=(zy m i).Number:=rfl
theorem zFt (hs:zgh s) (hm:m∈s) (hi:i<m.Fields.length) (hj:j<m.Fields.length) (h:m.Fields[i].Number=m.Fields[j].Number):i=j:=by
 rcases Nat.lt_trichotomy i j with hlt| h'| hlt
 ·exact absurd h (hs.nums m hm i j _ _ hlt (xE hi) (xE hj)).1
 ·exact h'
 ·exact absurd h.symm (hs.nums m hm j i _ _ hlt (xE hj) (xE hi)).1
theorem zqE {s:List Mes} (hs:zgh s) {m:Mes} (hm:m∈s) {i:Int} (h0:0<=i) (hi:i<m.Fields.length):fldI m (zy m i).Number=i:=by
 obtain ⟨n,rfl⟩:∃n:Nat,i=n:=⟨i.toNat,by omega⟩;have hn:n<m.Fields.length:=by omega
 rw [zcp hn];rcases zfJ m m.Fields[n].Number with ⟨_,h⟩| ⟨j,hj,h,hjn,_⟩
 ·grind
 ·rw [h,zFt hs hm hj hn hjn]
theorem zrq {s:List Mes} (hs:zgh s) {m:Mes} (hm:m∈s):(zbU (zaK m) m.Fields.length).Pairwise fun a b=>zaK m a<zaK m b:=by
 refine (zmT (zaK m) m.Fields.length).imp_of_mem fun {a b} ha hb h=>?_
 rcases h with h| ⟨h,hlt⟩
 ·exact h
 ·exfalso;obtain ⟨a0,a1⟩:=zdV.1 ha;obtain ⟨b0,b1⟩:=zdV.1 hb;rw [zoc,zoc] at h;have:=zqE hs hm a0 a1;rw [h,zqE hs hm b0 b1] at this;omega
theorem zrl {s:List Mes} (hs:zgh s) {m:Mes} (hm:m∈s) (v:Int->Vlu) (hn:∀i,(v i).Number=zaK m i):∀(o:List Int) (p:Option Int),(∀i∈o,0<=i/\i<m.Fields.length)->(o.Pairwise fun a b=>zaK m a<zaK m b)->
  (∀i∈o,p.all (fun n=>decide (n<zaK m i))=true)->(∀i∈o,0<zay (v i)->zmZ s (v i) (zy m i)=true)->zgO s ((o.map v).filter fun x=>decide (0<zay x)) m p=true
 | [],p,_,_,_,_=>by rw [yO,List.filter_nil,zgO]
 | i::o,p,h1,h2,h3,h4=>by
  obtain ⟨h2a,h2b⟩:=xZ.1 h2;have ih:=fun p hp=>zrl hs hm v hn o p (fun j hj=>h1 j (xp _ hj)) h2b hp (fun j hj=>h4 j (xp _ hj))
  rw [xC,yL];by_cases hp:0<zay (v i)
  ·rw [xn (by simpa using hp),zgO,ih _ (fun j hj=>by rw [hn];simpa using h2a j hj)];obtain ⟨i0,i1⟩:=h1 i xo;have hfi:=zqE hs hm i0 i1;rw [hn,zoc,hfi,h4 i xo hp,<-zoc,h3 i xo,xV i0];rfl
  ·rw [xm (by simpa using hp)];exact ih p fun j hj=>h3 j (xp _ hj)
theorem zjP {s:List Mes} (hs:zgh s):∀(N:Nat) (b:List UInt8) (d k:Nat),b.length=N->k<s.length->zU s d k b=none->zbA s (ofM s k b) k=true/\dM (ofM s k b)<=d:=by
 intro N
 induction N using Nat.strongRecOn with
 | _ N IH=>
  intro b d k hN hk hv;have hmm:zA s (k:Int)∈s:=by rw [zdJ hk];exact xy hk
  have hth:=zCY hv;have hwt:=zmU (zA s (k:Int)) b;rw [zki]
  generalize hl:ths (zA s (k:Int)) b=l at hth hwt
  generalize hm:zA s (k:Int)=m at hmm hth hwt
  have hsub:∀f∈m.Fields,f.Kind=17->∀v:List UInt8,v.length+1<=b.length->∀e,zU s e f.Of v=none->zbA s (ofM s f.Of v) f.Of=true/\dM (ofM s f.Of v)<=e:=fun f hf ww v hvl e he=>by
   have hof:=(hs.fld _ hmm f hf).sub ww;obtain ⟨q,hq⟩:∃q:Nat,f.Of=q:=⟨f.Of.toNat,by omega⟩
   grind
  have hval:∀i∈zbU (zaK m) m.Fields.length,0<zay (valO (ofM s) (zy m i) (accF (ofM s) (zy m i) i acc0 l))->
    zmZ s (valO (ofM s) (zy m i) (accF (ofM s) (zy m i) i acc0 l)) (zy m i)=true/\dV (valO (ofM s) (zy m i) (accF (ofM s) (zy m i) i acc0 l))<=d:=fun i hi hp=>by
   obtain ⟨i0,i1⟩:=zdV.1 hi;obtain ⟨n,hn⟩:∃n:Nat,i=n:=⟨i.toNat,by omega⟩;have hnl:n<m.Fields.length:=by omega
   have hfm:zy m i∈m.Fields:=by rw [hn,zcp hnl];exact xy _
   have hacc:=zts (g:=ofM s) i0 rfl acc0 l (zxt s d (zy m i)) hth (fun t ht ww e he hv=>hsub _ hfm ww _ (by have:=zoM ht;omega) e hv);have hw:=(znG (ofM s) (zy m i) i acc0 l).2;refine zHD hacc (hs.fld _ hmm _ hfm).kind (fun ww hmet e he hv=>hsub _ hfm ww _ ?_ e hv) hp;have h0:wJ acc0=0:=rfl;rw [h0,wJ,xn hmet] at hw;omega
  constructor
  ·rw [zsl,hm,xV (by omega),yV,xq];constructor
   ·unfold zgz zlg;exact zrl hs hmm (fun i=>valO (ofM s) (zy m i) (accF (ofM s) (zy m i) i acc0 l)) (fun i=>rfl) _ none (fun i hi=>zdV.1 hi) (zrq hs hmm) (fun _ _=>rfl) (fun i hi hp=>(hval i hi hp).1)
   ·unfold zgz unkO;refine xD.2 fun u hu=>?_
    obtain ⟨t,ht,rfl⟩:=xA.1 hu;obtain ⟨ht1,ht2⟩:=xW.1 ht;exact (hth t ht1).unk (by simpa using ht2)
  ·rw [zJz];unfold zgz zlg;refine zED fun x hx=>?_
   grind
theorem zEP (h: -9223372036854775808<=n/\n<=9223372036854775807):(Lit.int .i64 n).wf=true:=by
 simpa [Lit.wf,IntKind.min,IntKind.max,IntKind.bits,IntKind.signed] using h
structure zyQ (a:zcu):Prop where
 words:∀w∈a.2.2.1,0<=w/\w<=18446744073709551615
 texts:∀t∈a.2.2.2.1,t.length<=1048576
 subs:∀x∈a.2.2.2.2,bdM x/\smM x
theorem zGE:zyQ acc0:=⟨fun w h=>(nomatch h),fun w h=>(nomatch h),fun w h=>(nomatch h)⟩
theorem zGw (k:Int) (v:List UInt8):∀w∈(zaG k v).1,0<=w/\w<=18446744073709551615:=by
 intro w hw;unfold zaG at hw;split at hw
 ·cases hw
 ·split at hw
  ·obtain ⟨p,_,rfl⟩:=xA.1 hw;exact zqv k (zpb k)
  ·cases hw
theorem zFO (k:Int) (v:List UInt8):0<=(znf k v).1/\(znf k v).1<=18446744073709551615:=by
 unfold znf;split
 ·simp
 ·split
  ·simp
  ·exact zqv k (zpb k)
theorem zJc {g:Int->List UInt8->Msg} {f:Fld} {a:zcu} {t:Th} (ha:zyQ a) (ht:t.val.length<=1048576) (hg:f.Kind=17->bdM (g f.Of t.val)/\smM (g f.Of t.val)):zyQ (stp g f a t):=by
 obtain ⟨h1,h2,h3⟩:=ha;have w0:∀w∈(if f.Repeated=true then a.2.2.1 else []),0<=w/\w<=18446744073709551615:=fun w hw=>by
  grind
 have t0:∀w∈(if f.Repeated=true then a.2.2.2.1 else []),w.length<=1048576:=fun w hw=>by
  grind
 unfold stp;split
 ·refine ⟨fun w hw=>?_,t0,h3⟩;rcases xu.1 hw with hw| hw
  ·exact w0 w hw
  ·exact zGw _ _ w hw
 ·split
  ·refine ⟨fun w hw=>?_,t0,h3⟩;rcases xu.1 hw with hw| hw
   ·exact w0 w hw
   ·rw [xY.1 hw];exact zFO _ _
  ·split
   ·rename_i hk;refine ⟨w0,t0,fun x hx=>?_⟩
    grind
   ·split
    ·exact ⟨w0,t0,h3⟩
    ·refine ⟨w0,fun x hx=>?_,h3⟩
     grind
theorem zBU {g:Int->List UInt8->Msg} {f:Fld} {i:Int}:∀{l:List Th} {a:zcu},zyQ a->(∀t∈l,t.val.length<=1048576)->(f.Kind=17->∀t∈l,bdM (g f.Of t.val)/\smM (g f.Of t.val))->zyQ (accF g f i a l)
 | [],a,ha,_,_=>ha
 | t::l,a,ha,ht,hg=>by
  rw [accF];refine zBU ?_ (fun x hx=>ht x (xp _ hx)) fun ww x hx=>hg ww x (xp _ hx)
  split
  ·exact zJc ha (ht t xo) fun ww=>hg ww t xo
  ·exact ha
theorem zBr {s:List Mes} (hs:zgh s):∀(N:Nat) (b:List UInt8) (k:Nat),b.length=N->N<=1048576->k<s.length->bdM (ofM s k b)/\smM (ofM s k b):=by
 intro N
 induction N using Nat.strongRecOn with
 | _ N IH=>
  intro b k hN hb hk;have hmm:zA s (k:Int)∈s:=by rw [zdJ hk];exact xy hk
  have hwt:=zmU (zA s (k:Int)) b;have hraw:∀t∈ths (zA s (k:Int)) b,t.raw.length<=b.length:=fun t ht=>by
   unfold ths at ht;obtain ⟨r,_,rfl⟩:=xA.1 ht;show (rawB b r.R).length<=_;unfold rawB;simp;omega
  have hfew:=hs.few _ hmm;rw [zki]
  generalize ths (zA s (k:Int)) b=l at hwt hraw
  generalize zA s (k:Int)=m at hmm hfew|-
  have hsub:∀f∈m.Fields,f.Kind=17->∀v:List UInt8,v.length+1<=b.length->bdM (ofM s f.Of v)/\smM (ofM s f.Of v):=fun f hf ww v hvl=>by
   have hof:=(hs.fld _ hmm f hf).sub ww;obtain ⟨q,hq⟩:∃q:Nat,f.Of=q:=⟨f.Of.toNat,by omega⟩
   grind
  have hval:∀i∈zbU (zaK m) m.Fields.length,bdV (valO (ofM s) (zy m i) (accF (ofM s) (zy m i) i acc0 l))/\smV (valO (ofM s) (zy m i) (accF (ofM s) (zy m i) i acc0 l)):=fun i hi=>by
   obtain ⟨i0,i1⟩:=zdV.1 hi;obtain ⟨n,hn⟩:∃n:Nat,i=n:=⟨i.toNat,by omega⟩;have hnl:n<m.Fields.length:=by omega
   have hfm:zy m i∈m.Fields:=by rw [hn,zcp hnl];exact xy _
   have hfo:=hs.fld _ hmm _ hfm;have hacc:=zBU (g:=ofM s) (f:=zy m i) (i:=i) (l:=l) zGE (fun t ht=>by have:=zoM ht;omega) (fun ww t ht=>hsub _ hfm ww _ (by have:=zoM ht;omega));have hw:=znG (ofM s) (zy m i) i acc0 l;have w0:wA acc0=0:=rfl;have j0:wJ acc0=0:=rfl;rw [w0,j0] at hw
   generalize zy m i=f at hfm hfo hacc hw|-
   generalize accF (ofM s) f i acc0 l=q at hacc hw|-
   obtain ⟨a1,a2,a3⟩:=hacc;have hsubs:(valO (ofM s) f q).Subs.length<=1048576/\∀x∈(valO (ofM s) f q).Subs,bdM x/\smM x:=by
    unfold valO;simp only;split
    ·rename_i hc;refine ⟨by simp,fun x hx=>?_⟩;rw [xY.1 hx];have h2:=hw.2;rw [wJ,xn hc.1] at h2
     grind
    ·exact ⟨by have:=hw.1;unfold wA at this;omega,a3⟩
   have h1:=hw.1;unfold wA at h1;have e1:(valO (ofM s) f q).Words=q.2.2.1:=rfl;have e2:(valO (ofM s) f q).Texts=q.2.2.2.1:=rfl;have e3:(valO (ofM s) f q).Number=f.Number:=rfl
   refine ⟨(zlj _).2 ⟨by rw [e3];exact zEP (by have:=hfo.lo;have:=hfo.hi;omega),⟨by rw [e1];omega,by rw [e1];exact a1⟩,⟨by rw [e2];omega,fun x hx=>by rw [e2] at hx;have:=a2 x hx;omega⟩,by have:=hsubs.1;omega,zha.2 fun x hx=>(hsubs.2 x hx).1⟩,
    (zoB _).2 ⟨by rw [e1];omega,⟨by rw [e2];omega,by rw [e2];exact a2⟩,hsubs.1,zkt.2 fun x hx=>(hsubs.2 x hx).2⟩⟩
  have hvl:(zgz (ofM s) m l).Values.length<=200:=by
   unfold zgz zlg;simp only;refine yo (po _ _) ?_;rw [yP,zph];exact hfew
  have hul:(zgz (ofM s) m l).Unknown.length<=1048576:=by
   unfold zgz unkO;simp only;rw [yP];refine yo (po _ _) ?_;have:=zoL l;omega
  have hum:∀t∈(zgz (ofM s) m l).Unknown,t.length<=1048576:=fun u hu=>by
   unfold zgz unkO at hu
   grind
  have hvm:∀v∈(zgz (ofM s) m l).Values,bdV v/\smV v:=fun v hv=>by
   unfold zgz zlg at hv
   grind
  refine ⟨(znJ _).2 ⟨by omega,⟨by omega,fun t ht=>by have:=hum t ht;omega⟩,zhb.2 fun v hv=>(hvm v hv).1⟩,(zoA _).2 ⟨by omega,⟨hul,hum⟩,zib.2 fun v hv=>(hvm v hv).2⟩⟩
def zet (l:List Vlu):Prop:=l.Pairwise fun a b=>a.Number<b.Number
def look (l:List Vlu) (n:Int):Option Vlu:=l.find? fun v=>v.Number==n
theorem zdk (v:Vlu) (l:List Vlu) (n:Int):look (v::l) n=if v.Number=n then some v else look l n:=by
 unfold look;rw [List.find?_cons];by_cases h:v.Number=n
 ·rw [xn h];simp [h]
 ·rw [xm h];have:(v.Number==n)=false:=by simpa using h
  rw [this]
theorem zgc (h:look l n=some v):v.Number=n/\v∈l:=by
 unfold look at h;exact ⟨by simpa using List.find?_some h,List.mem_of_find?_eq_some h⟩
theorem zoW (h:∀v∈l,n<v.Number):look l n=none:=by
 unfold look;rw [List.find?_eq_none];intro v hv;have:=h v hv;simp;omega
theorem zuB (hr:zet l) (h:v∈l):look l v.Number=some v:=by
 induction l with
 | nil=>cases h
 | cons u l ih=>
  obtain ⟨h1,h2⟩:=xZ.1 hr;rw [zdk];rcases xr.1 h with rfl| h
  ·rw [xn rfl]
  ·have:=h1 v h;rw [xm (by omega),ih h2 h]
theorem zzC:∀{l k:List Vlu},zet l->zet k->(∀n,look l n=look k n)->l=k
 | [],[],_,_,_=>rfl
 | [],u::k,_,_,h=>by
  have:=h u.Number;rw [zdk,xn rfl] at this;cases this
 | v::l,[],_,_,h=>by
  have:=h v.Number;rw [zdk,xn rfl] at this;cases this
 | v::l,u::k,hl,hk,h=>by
  obtain ⟨l1,l2⟩:=xZ.1 hl;obtain ⟨k1,k2⟩:=xZ.1 hk;have e:v=u:=by
   have hv:=h v.Number;have hu:=h u.Number;rw [zdk,xn rfl] at hv;rw [zdk (n:=u.Number) (v:=u),xn rfl] at hu;rcases Int.lt_trichotomy v.Number u.Number with hlt| heq| hlt
   ·rw [zoW (l:=u::k) (fun x hx=>by
     rcases xr.1 hx with rfl| hx
     ·exact hlt
     ·have:=k1 x hx;omega)] at hv
    cases hv
   ·rw [zdk,xn heq.symm] at hv;exact yJ hv
   ·rw [zoW (l:=v::l) (fun x hx=>by
     rcases xr.1 hx with rfl| hx
     ·exact hlt
     ·have:=l1 x hx;omega)] at hu
    cases hu
  subst e;rw [zzC l2 k2 fun n=>by
   by_cases hn:v.Number<n
   ·have:=h n;rw [zdk,zdk,xm (by omega),xm (by omega)] at this;exact this
   ·rw [zoW fun x hx=>by have:=l1 x hx;omega,zoW fun x hx=>by have:=k1 x hx;omega]]
def putL (v:Vlu):Bool->List Vlu->List Vlu
 | done,[]=>if done=true then [] else [v]
 | done,u::l=>(if done=false/\v.Number<=u.Number then [v] else [])++((if u.Number=v.Number then [] else [u])++putL v (done|| decide (v.Number<=u.Number)) l)
theorem zzL (v:Vlu):∀(d:Bool) (l:List Vlu),(putL v d l).length<=l.length+(if d=true then 0 else 1)
 | d,[]=>by rw [putL];cases d<;>simp
 | d,u::l=>by
  have:=zzL v (d|| decide (v.Number<=u.Number)) l;rw [putL];simp only [xz,xL];cases d
  ·by_cases h:v.Number<=u.Number
   ·rw [xn ⟨rfl,h⟩];simp only [h,pp,qz,yi] at this|-;split<;>simp<;>omega
   ·rw [xm (fun hh=>h hh.2)];simp only [h,pq,qt,qu,yc] at this|-;split<;>simp<;>omega
  ·rw [xm (by simp)];simp only [Bool.true_or,yi] at this|-;split<;>simp<;>omega
theorem zzM :∀{d:Bool} {l:List Vlu} {x:Vlu},x∈putL v d l->x=v/\d=false\/x∈l/\x.Number≠v.Number
 | d,[],x,h=>by
  rw [putL] at h;cases d
  ·rw [xm (by simp)] at h;exact .inl ⟨xY.1 h,rfl⟩
  ·rw [xn rfl] at h;cases h
 | d,u::l,x,h=>by
  rw [putL] at h;rcases xu.1 h with h| h
  ·split at h
   ·rename_i hc;exact .inl ⟨xY.1 h,hc.1⟩
   ·cases h
  ·rcases xu.1 h with h| h
   ·split at h
    ·cases h
    ·rename_i hc;rw [xY.1 h];exact .inr ⟨xo,hc⟩
   ·rcases zzM h with ⟨h1,h2⟩| ⟨h1,h2⟩
    ·refine .inl ⟨h1,?_⟩;cases d
     ·rfl
     ·simp at h2
    ·exact .inr ⟨xp _ h1,h2⟩
theorem zov :∀{d:Bool} {l:List Vlu},zet l->zet (putL v d l)
 | d,[],_=>by rw [putL];cases d<;>simp [zet]
 | d,u::l,h=>by
  obtain ⟨h1,h2⟩:=xZ.1 h;have ih:=zov (v:=v) (d:=d|| decide (v.Number<=u.Number)) h2;have hrest:∀x∈putL v (d|| decide (v.Number<=u.Number)) l,u.Number<x.Number:=fun x hx=>by
   rcases zzM hx with ⟨rfl,hd⟩| ⟨hx,_⟩
   ·simp at hd;omega
   ·exact h1 x hx
  rw [putL];have htail:zet ((if u.Number=v.Number then [] else [u])++putL v (d|| decide (v.Number<=u.Number)) l):=by
   split
   ·exact ih
   ·exact xZ.2 ⟨hrest,ih⟩
  split
  ·rename_i hc;rw [qG];refine xZ.2 ⟨fun x hx=>?_,htail⟩;rcases xu.1 hx with hx| hx
   ·split at hx
    ·cases hx
    ·rw [xY.1 hx];omega
   ·have:=hrest x hx;omega
  ·exact htail
theorem zsJ (l k:List Vlu) (n:Int):look (l++k) n=match look l n with| some v=>some v| none=>look k n:=by
 unfold look;rw [List.find?_append];cases l.find? (fun v=>v.Number==n)<;>rfl
theorem zuD :∀{d:Bool} {l:List Vlu},zet l->∀n,look (putL v d l) n=if n=v.Number then (if d=true then none else some v) else look l n
 | d,[],_,n=>by
  rw [putL];cases d
  ·rw [xm (show ¬(false=true) by simp),xm (show ¬(false=true) by simp),zdk];by_cases h:n=v.Number
   ·rw [xn h,xn h.symm]
   ·rw [xm h,xm (fun hh=>h hh.symm)]
  ·rw [xn rfl,xn rfl];split<;>rfl
 | d,u::l,h,n=>by
  obtain ⟨h1,h2⟩:=xZ.1 h;have ih:=zuD (v:=v) (d:=d|| decide (v.Number<=u.Number)) h2 n;rw [putL,zsJ,zsJ,ih,zdk u l n];by_cases hn:n=v.Number
  ·rw [xn hn,xn hn];have hu:look (if u.Number=v.Number then [] else [u]) n=none:=by
    split
    ·rfl
    ·rw [zdk,xm (by omega)];rfl
   rw [hu];cases d
   ·by_cases hle:v.Number<=u.Number
    ·rw [xn ⟨rfl,hle⟩,zdk,xn hn.symm];simp
    ·rw [xm (fun hh=>hle hh.2)];simp [look,hle]
   ·rw [xm (by simp)];simp [look]
  ·rw [xm hn,xm hn];have hv:look (if d=false/\v.Number<=u.Number then [v] else []) n=none:=by
    split
    ·rw [zdk,xm (fun hh=>hn hh.symm)];rfl
    ·rfl
   rw [hv];by_cases hu:u.Number=v.Number
   ·rw [xn hu,xm (by omega)];rfl
   ·rw [xm hu,zdk];by_cases hun:u.Number=n
    ·rw [xn hun,xn hun]
    ·rw [xm hun,xm hun];rfl
def putM (x:Msg) (v:Vlu):Msg:=⟨putL v (decide (zay v=0)) x.Values,x.Unknown⟩
theorem zkZ :∀{l:List Vlu} {p:Option Int},zgO s l m p=true->∀v∈l,0<=fldI m v.Number/\zmZ s v (zy m (fldI m v.Number))=true/\p.all (fun n=>decide (n<v.Number))=true
 | [],p,_,v,hv=>by cases hv
 | u::l,p,h,v,hv=>by
  rw [zgO] at h;simp only [xq,xK] at h;obtain ⟨⟨⟨h1,h2⟩,h3⟩,h4⟩:=h;rcases xr.1 hv with rfl| hv
  ·exact ⟨h1,h3,h2⟩
  ·obtain ⟨g1,g2,g3⟩:=zkZ h4 v hv;refine ⟨g1,g2,?_⟩;cases p with
   | none=>rfl
   | some n=>
    simp at h2 g3|-;omega
theorem zoy :∀{l:List Vlu} {p:Option Int},zgO s l m p=true->zet l
 | [],p,_=> .nil
 | u::l,p,h=>by
  rw [zgO] at h;simp only [xq,xK] at h;refine xZ.2 ⟨fun v hv=>?_,zoy h.2⟩;have:=(zkZ h.2 v hv).2.2;simpa using this
theorem zve :∀{l:List Vlu} {p:Option Int},zet l->(∀v∈l,0<=fldI m v.Number/\zmZ s v (zy m (fldI m v.Number))=true/\p.all (fun n=>decide (n<v.Number))=true)->zgO s l m p=true
 | [],p,_,_=>by rw [zgO]
 | u::l,p,hr,h=>by
  obtain ⟨h1,h2⟩:=xZ.1 hr;obtain ⟨a1,a2,a3⟩:=h u xo;rw [zgO,zve h2 fun v hv=>⟨(h v (xp _ hv)).1,(h v (xp _ hv)).2.1,by simpa using h1 v hv⟩,a2,a3,xV a1];rfl
theorem zci (h:zbA s x k=true):0<=k/\k<s.length/\zet x.Values/\(∀v∈x.Values,0<=fldI (zA s k) v.Number/\zmZ s v (zy (zA s k) (fldI (zA s k) v.Number))=true)/\∀u∈x.Unknown,unkR (zA s k) u=true:=by
 rw [zsl] at h;simp only [xq,xK] at h;exact ⟨h.1.1.1,h.1.1.2,zoy h.1.2,fun v hv=>⟨(zkZ h.1.2 v hv).1,(zkZ h.1.2 v hv).2.1⟩,xD.1 h.2⟩
theorem zwZ (h1:0<=k) (h2:k<s.length) (h3:zet x.Values) (h4:∀v∈x.Values,0<=fldI (zA s k) v.Number/\zmZ s v (zy (zA s k) (fldI (zA s k) v.Number))=true) (h5:∀u∈x.Unknown,unkR (zA s k) u=true):zbA s x k=true:=by
 rw [zsl,xV ⟨h1,h2⟩,zve h3 fun v hv=>⟨(h4 v hv).1,(h4 v hv).2,rfl⟩,xD.2 h5];rfl
structure zhN (s:List Mes) (v:Vlu) (f:Fld):Prop where
 many:0<zay v
 one:f.Repeated=false->zay v=1
 kind:zbY f.Kind=true
 words:∀w∈v.Words,zmp f w=true
 texts:∀t∈v.Texts,zrr f t=true
 subs:∀x∈v.Subs,f.Kind=17/\zbA s x f.Of=true
theorem zfs (h:zmZ s v f=true):zhN s v f:=by
 rw [zul,zmQ] at h;unfold zwL at h;simp only [xq,q8,xK,xD,beq_iff_eq] at h;obtain ⟨⟨⟨⟨⟨h1,h2⟩,h3⟩,h4⟩,h5⟩,h6⟩:=h;refine ⟨h1,fun hr=>?_,h3,h4,h5,fun x hx=>?_⟩
 ·rw [hr] at h2;simp at h2;omega
 ·exact h6 x hx
theorem zCe (h:zhN s v f):zmZ s v f=true:=by
 obtain ⟨h1,h2,h3,h4,h5,h6⟩:=h;rw [zul,zmQ];unfold zwL;simp only [xq,q8,xK,xD,beq_iff_eq];refine ⟨⟨⟨⟨⟨h1,?_⟩,h3⟩,h4⟩,h5⟩,fun x hx=>h6 x hx⟩;cases hr:f.Repeated with
 | true=>exact .inr rfl
 | false=>exact .inl (by have:=h2 hr;omega)
theorem zhN.noWords (h:zhN s v f) (hk:kNum f.Kind=false):v.Words=[]:=by
 cases hw:v.Words with
 | nil=>rfl
 | cons w l=>
  have:=h.words w (by rw [hw];exact xo);unfold zmp at this;rw [hk] at this;simp at this
theorem zhN.noTexts (h:zhN s v f) (hk:f.Kind≠15/\f.Kind≠16):v.Texts=[]:=by
 cases hw:v.Texts with
 | nil=>rfl
 | cons w l=>
  have:=h.texts w (by rw [hw];exact xo);unfold zrr at this;simp at this;omega
theorem zhN.msg (h:zhN s v f) (hk:f.Kind=17) (hr:f.Repeated=false):∃x,v=⟨v.Number,[],[],[x]⟩/\zbA s x f.Of=true:=by
 have h1:=h.noWords (by rw [hk];rfl);have h2:=h.noTexts (by omega);have h3:=h.one hr;have h4:=h.subs;obtain ⟨n,w,t,sub⟩:=v;simp only at h1 h2 h4;subst h1 h2;unfold zay at h3;simp at h3;obtain ⟨x,rfl⟩:∃x,sub=[x]:=by
  cases sub with
  | nil=>simp at h3
  | cons x l=>cases l with
   | nil=>exact ⟨x,rfl⟩
   | cons _ _=>simp at h3
 exact ⟨x,rfl,(h4 x xo).2⟩
theorem zAU (x:Msg) (n:Int):getM x n= -1/\look x.Values n=none\/∃(j:Nat) (h:j<x.Values.length),getM x n=j/\look x.Values n=some x.Values[j]:=by
 unfold getM look;cases h:x.Values.findIdx? (fun v:Vlu=>v.Number==n) with
 | none=>
  refine .inl ⟨zkS h,?_⟩;rw [qP] at h;rw [List.find?_eq_none];intro v hv;simpa using h v hv
 | some i=>
  right;have h':=h;rw [pj] at h;obtain ⟨hi,hp,hj⟩:=h;refine ⟨i,hi,zkT h',?_⟩;rw [List.find?_eq_some_iff_getElem];exact ⟨hp,i,hi,rfl,fun j hj'=>by simpa using hj j hj'⟩
mutual
/-- b zgi a. -/
def zhS (s:List Mes):Msg->Msg->Int->Msg
 | ⟨vs,u⟩,a,k=>⟨zgY s vs a (zA s k) a.Values,a.Unknown++u⟩
def zgY (s:List Mes):List Vlu->Msg->Mes->List Vlu->List Vlu
 | [],_,_,ws=>ws
 | v::l,a,m,ws=>zgY s l a m (putM ⟨ws,[]⟩ (zht s v (look a.Values v.Number) (zy m (fldI m v.Number)))).Values
def zht (s:List Mes):Vlu->Option Vlu->Fld->Vlu
 | ⟨n,w,t,sub⟩,none,f=>⟨n,w,t,sub⟩
 | ⟨n,w,t,sub⟩,some u,f=>if f.Repeated=true then ⟨n,u.Words++w,u.Texts++t,u.Subs++sub⟩ else if f.Kind=17 then ⟨n,[],[],zjn s sub u.Subs f.Of⟩ else ⟨n,w,t,sub⟩
def zjn (s:List Mes):List Msg->List Msg->Int->List Msg
 | [],_,_=>[]
 | x::_,ys,k=>match ys with
  | []=>[]
  | y::_=>[zhS s x y k]
end
theorem zkc (s:List Mes) (b a:Msg) (k:Int):zhS s b a k=⟨zgY s b.Values a (zA s k) a.Values,a.Unknown++b.Unknown⟩:=by cases b;rw [zhS]
theorem zgy (s:List Mes) (v:Vlu) (o:Option Vlu) (f:Fld):zht s v o f=match o with
  | none=>v
  | some u=>if f.Repeated=true then ⟨v.Number,u.Words++v.Words,u.Texts++v.Texts,u.Subs++v.Subs⟩ else if f.Kind=17 then ⟨v.Number,[],[],zjn s v.Subs u.Subs f.Of⟩ else v:=by
 cases v;cases o<;>rw [zht]
theorem zwF (s:List Mes) (v:Vlu) (o:Option Vlu) (f:Fld):(zht s v o f).Number=v.Number:=by
 rw [zgy];cases o with
 | none=>rfl
 | some u=>simp only;split;rfl;split<;>rfl
theorem zzN (ws:List Vlu) (u:List Str) (v:Vlu):(putM ⟨ws,u⟩ v).Values.length<=ws.length+1:=by
 have:=zzL v (decide (zay v=0)) ws;unfold putM;simp only;split at this<;>omega
theorem zsK :∀{l ws:List Vlu},zet ws->zet l->(∀v∈l,0<zay (zht s v (look a.Values v.Number) (zy m (fldI m v.Number))))->
  zet (zgY s l a m ws)/\∀n,look (zgY s l a m ws) n=match look l n with
   | some v=>some (zht s v (look a.Values n) (zy m (fldI m n)))
   | none=>look ws n
 | [],ws,h1,_,_=>by rw [zgY];exact ⟨h1,fun n=>rfl⟩
 | v::l,ws,h1,h2,h3=>by
  obtain ⟨l1,l2⟩:=xZ.1 h2;have hv:=h3 v xo;have hnum:=zwF s v (look a.Values v.Number) (zy m (fldI m v.Number));rw [zgY];have hacc:zet (putM ⟨ws,[]⟩ (zht s v (look a.Values v.Number) (zy m (fldI m v.Number)))).Values:=zov h1;obtain ⟨r1,r2⟩:=zsK (s:=s) (a:=a) (m:=m) hacc l2 fun u hu=>h3 u (xp _ hu)
  refine ⟨r1,fun n=>?_⟩;rw [r2 n,zdk];have hlk:look (putM ⟨ws,[]⟩ (zht s v (look a.Values v.Number) (zy m (fldI m v.Number)))).Values n=if n=v.Number then some (zht s v (look a.Values v.Number) (zy m (fldI m v.Number))) else look ws n:=by
   unfold putM;simp only;rw [zuD h1 n,hnum];by_cases hn:n=v.Number
   ·rw [xn hn,xn hn,xm fun hh=>by have:=yA hh;omega]
   ·rw [xm hn,xm hn]
  by_cases hn:v.Number=n
  ·rw [xn hn,zoW fun u hu=>by have:=l1 u hu;omega,hlk,xn hn.symm];simp only [hn]
  ·rw [xm hn,hlk,xm fun hh=>hn hh.symm]
theorem zuu (hv:zhN s v f) (ho:∀u,o=some u->zhN s u f):0<zay (zht s v o f):=by
 rw [zgy];cases o with
 | none=>exact hv.many
 | some u=>
  have:=hv.many;simp only;by_cases hr:f.Repeated=true
  ·rw [xn hr];unfold zay at this|-;simp only [xz];omega
  ·rw [xm hr];by_cases ww:f.Kind=17
   ·rw [xn ww];obtain ⟨x,hvx,_⟩:=hv.msg ww (by simpa using hr);obtain ⟨y,huy,_⟩:=(ho u rfl).msg ww (by simpa using hr);rw [hvx,huy,zjn];simp [zay]
   ·rw [xm ww];exact this
theorem zrU (ha:zbA s a k=true) (hb:zbA s b k=true):zet (zhS s b a k).Values/\∀n,look (zhS s b a k).Values n=match look b.Values n with
   | some v=>some (zht s v (look a.Values n) (zy (zA s k) (fldI (zA s k) n)))
   | none=>look a.Values n:=by
 obtain ⟨_,_,ra,ha',_⟩:=zci ha;obtain ⟨_,_,rb,hb',_⟩:=zci hb;rw [zkc];exact zsK ra rb fun v hv=>zuu (zfs (hb' v hv).2) fun u hu=>by
  obtain ⟨e,hm⟩:=zgc hu;have:=zfs (ha' u hm).2;rw [e] at this;exact this
def zvx (g:Int->List UInt8->Msg) (m:Mes) (l:List Th) (i:Int):Vlu:=valO g (zy m i) (accF g (zy m i) i acc0 l)
theorem zrV {s:List Mes} (hs:zgh s) {m:Mes} (hm:m∈s) {g:Int->List UInt8->Msg} {l:List Th} (hr:zet (zgz g m l).Values) (n:Int):
  look (zgz g m l).Values n=if 0<=fldI m n/\0<zay (zvx g m l (fldI m n)) then some (zvx g m l (fldI m n)) else none:=by
 have hmem:∀v,v∈(zgz g m l).Values↔∃i:Int,(0<=i/\i<m.Fields.length)/\zvx g m l i=v/\0<zay v:=fun v=>by
  unfold zgz zlg;simp only [xW,xA,zdV,xK];constructor
  ·rintro ⟨⟨i,hi,rfl⟩,h2⟩;exact ⟨i,hi,rfl,h2⟩
  ·rintro ⟨i,hi,rfl,h2⟩;exact ⟨⟨i,hi,rfl⟩,h2⟩
 have hnum:∀i,(zvx g m l i).Number=(zy m i).Number:=fun i=>rfl
 by_cases hc:0<=fldI m n/\0<zay (zvx g m l (fldI m n))
 ·rw [xn hc];rcases zfJ m n with ⟨hf,_⟩| ⟨j,hj,hf,hjn,_⟩
  ·omega
  ·have h:=zuB hr ((hmem (zvx g m l (fldI m n))).2 ⟨fldI m n,by omega,rfl,hc.2⟩);rw [hnum,hf,zcp hj,hjn] at h;rw [hf];exact h
 ·rw [xm hc];cases hlk:look (zgz g m l).Values n with
  | none=>rfl
  | some v=>
   exfalso;obtain ⟨hn,hv⟩:=zgc hlk;obtain ⟨i,hi,rfl,hp⟩:=(hmem v).1 hv;rw [hnum] at hn;have:=zqE hs hm hi.1 hi.2;rw [hn] at this;rw [this] at hc;exact hc ⟨hi.1,hp⟩
def comb (f:Fld) (a q:zcu):zcu:=(a.1++q.1,a.2.1|| q.2.1,(if f.Repeated=true then a.2.2.1++q.2.2.1 else if q.2.1=true then q.2.2.1 else a.2.2.1),(if f.Repeated=true then a.2.2.2.1++q.2.2.2.1 else if q.2.1=true then q.2.2.2.1 else a.2.2.2.1),a.2.2.2.2++q.2.2.2.2)
theorem zHR (f:Fld) (a:zcu):comb f a acc0=a:=by
 unfold comb acc0;cases f.Repeated<;>simp
theorem zFY (g:Int->List UInt8->Msg) (f:Fld) (a q:zcu) (t:Th):stp g f (comb f a q) t=comb f a (stp g f q t):=by
 unfold stp comb;cases hr:f.Repeated
 ·by_cases h1:t.run=true
  ·simp [h1]
  ·by_cases h2:kNum f.Kind=true
   ·simp [h1,h2]
   ·by_cases h3:f.Kind=17
    ·have e:kNum 17=false:=rfl;simp [h1,h3,e]
    ·simp [h1,h2,h3]
 ·by_cases h1:t.run=true
  ·simp [h1]
  ·by_cases h2:kNum f.Kind=true
   ·simp [h1,h2]
   ·by_cases h3:f.Kind=17
    ·have e:kNum 17=false:=rfl;simp [h1,h3,e]
    ·simp [h1,h2,h3]
theorem zrF (g:Int->List UInt8->Msg) (f:Fld) (i:Int) (a:zcu):∀(l:List Th) (q:zcu),accF g f i (comb f a q) l=comb f a (accF g f i q l)
 | [],q=>rfl
 | t::l,q=>by
  rw [accF,accF];split
  ·rw [zFY,zrF g f i a l]
  ·rw [zrF g f i a l]
theorem zyy (g:Int->List UInt8->Msg) (f:Fld) (a:zcu) (t:Th):(stp g f a t).2.1=true:=by
 unfold stp;split;rfl;split;rfl;split;rfl;split<;>rfl
theorem zwl (g:Int->List UInt8->Msg) (f:Fld) (i:Int):∀(l:List Th) (a:zcu),a.2.1=true->(accF g f i a l).2.1=true
 | [],a,h=>h
 | t::l,a,h=>by
  rw [accF];refine zwl g f i l _ ?_;split
  ·exact zyy g f a t
  ·exact h
theorem znF (g:Int->List UInt8->Msg) (f:Fld) (i:Int):∀(l:List Th) (a:zcu),(accF g f i a l).2.1=false->accF g f i a l=a
 | [],a,h=>rfl
 | t::l,a,h=>by
  rw [accF] at h|-;split at h
  ·rw [zwl g f i l _ (zyy g f a t)] at h;cases h
  ·rename_i ht;rw [xm ht];exact znF g f i l a h
theorem zFZ {s:List Mes} {d:Nat} {m:Mes} {f:Fld} {g:Int->List UInt8->Msg} {a:zcu} {t:Th} (ht:OkT s d m t) (hi:0<=t.fi) (hf:zy m t.fi=f) (hr:f.Repeated=false) (ww:f.Kind≠17):
  0<(stp g f a t).2.2.1.length+(stp g f a t).2.2.2.1.length:=by
 have wE:=ht.run hi;rw [hf] at wE;unfold stp;by_cases h1:t.run=true
 ·have:=(wE h1).2.1;rw [hr] at this;cases this
 ·rw [xm h1];by_cases h2:kNum f.Kind=true
  ·rw [xn h2];simp;omega
  ·rw [xm h2,xm (fun hh=>ww hh.1),xm ww];simp;omega
theorem zwk {s:List Mes} {d:Nat} {m:Mes} {f:Fld} {g:Int->List UInt8->Msg} {i:Int} (hi:0<=i) (hf:zy m i=f) (hr:f.Repeated=false) (ww:f.Kind≠17):∀(l:List Th) (a:zcu),(∀t∈l,OkT s d m t)->
  (a.2.1=true->0<a.2.2.1.length+a.2.2.2.1.length)->(accF g f i a l).2.1=true->0<(accF g f i a l).2.2.1.length+(accF g f i a l).2.2.2.1.length
 | [],a,_,h,hm=>h hm
 | t::l,a,ht,h,hm=>by
  rw [accF] at hm|-;refine zwk hi hf hr ww l _ (fun x hx=>ht x (xp _ hx)) ?_ hm;split
  ·rename_i hti;exact fun _=>zFZ (ht t xo) (by omega) (by rw [hti];exact hf) hr ww
  ·exact h
theorem zBq {s:List Mes} (hs:zgh s):∀(N:Nat) (a z:List UInt8) (d k:Nat),a.length+z.length=N->k<s.length->zU s d k a=none->zU s d k z=none->ofM s k (a++z)=zhS s (ofM s k z) (ofM s k a) k:=by
 intro N
 induction N using Nat.strongRecOn with
 | _ N IH=>
  intro a z d k hN hk hva hvz;have hmm:zA s (k:Int)∈s:=by rw [zdJ hk];exact xy hk
  have hvaz:=(zgL s d k z hva).2 hvz;have hra:=(zjP hs _ a d k rfl hk hva).1;have hrz:=(zjP hs _ z d k rfl hk hvz).1;have hraz:=(zjP hs _ (a++z) d k rfl hk hvaz).1;obtain ⟨j1,j2⟩:=zrU hra hrz;obtain ⟨_,_,ra,_,_⟩:=zci hra;obtain ⟨_,_,rz,_,_⟩:=zci hrz;obtain ⟨_,_,raz,_,_⟩:=zci hraz;have hta:=zCY hva;have htz:=zCY hvz;have hwa:=zmU (zA s (k:Int)) a;have hwz:=zmU (zA s (k:Int)) z;have haz:=zvs hva hvz;have hvals:(ofM s k (a++z)).Values=(zhS s (ofM s k z) (ofM s k a) k).Values:=by
   refine zzC raz j1 fun n=>?_
   rw [j2 n];rw [zki] at raz ra rz;rw [zki s k (a++z),zki s k z,zki s k a,zrV hs hmm raz,zrV hs hmm rz,zrV hs hmm ra,haz]
   generalize zA s (k:Int)=m at hmm hta htz hwa hwz
   rcases zfJ m n with ⟨hf,_⟩| ⟨j,hj,hf,hjn,_⟩
   ·rw [hf];rw [xm (fun hh=>absurd hh.1 (by omega)),xm (fun hh=>absurd hh.1 (by omega)),xm (fun hh=>absurd hh.1 (by omega))]
   ·rw [hf];have hj0:(0:Int)<=(j:Int):=by omega
    simp only [hj0,qr];have hfm:zy m (j:Int)∈m.Fields:=by rw [zcp hj];exact xy hj
    unfold zvx
    generalize hff:zy m (j:Int)=f at hfm
    have hsub:f.Kind=17->∀v:List UInt8,v.length+1<=N->∀e,zU s e f.Of v=none->zbA s (ofM s f.Of v) f.Of=true/\dM (ofM s f.Of v)<=e:=fun ww v _ e he=>by
     have hof:=(hs.fld _ hmm f hfm).sub ww;obtain ⟨q,hq⟩:∃q:Nat,f.Of=q:=⟨f.Of.toNat,by omega⟩;rw [hq] at he|-;exact zjP hs v.length v e q rfl (by omega) he
    have ha1:=zts (g:=ofM s) hj0 hff acc0 (ths m a) (zxt s d f) hta (fun t ht ww e he hv=>hsub ww _ (by have:=zoM ht;omega) e hv);have hz1:=zts (g:=ofM s) hj0 hff acc0 (ths m z) (zxt s d f) htz (fun t ht ww e he hv=>hsub ww _ (by have:=zoM ht;omega) e hv);have hca:=zrF (ofM s) f j (accF (ofM s) f j acc0 (ths m a)) (ths m z) acc0;rw [zHR] at hca;rw [zsB,hca];have hma:=znF (ofM s) f j (ths m a) acc0;have hmz:=znF (ofM s) f j (ths m z) acc0;have hnz:=fun hr ww=>zwk (g:=ofM s) hj0 hff hr ww (ths m z) acc0 htz (fun hh=>nomatch hh)
    have hja:=(znG (ofM s) f j acc0 (ths m a)).2;have hjz:=(znG (ofM s) f j acc0 (ths m z)).2;have j0:wJ acc0=0:=rfl;rw [j0] at hja hjz
    generalize accF (ofM s) f j acc0 (ths m a)=q1 at ha1 hma hja
    generalize accF (ofM s) f j acc0 (ths m z)=q2 at hz1 hmz hnz hjz
    have e0:zay (valO (ofM s) f acc0)=0:=by unfold zay valO acc0;simp
    cases hm2:q2.2.1 with
    | false=>
     rw [hmz hm2,zHR,e0,xm (show ¬(0<0) by omega)]
    | true=>
     cases hr:f.Repeated with
     | true=>
      have v1:valO (ofM s) f q1=⟨f.Number,q1.2.2.1,q1.2.2.2.1,q1.2.2.2.2⟩:=by unfold valO;rw [xm (fun hh=>by rw [hr] at hh;cases hh.2.2)]
      have v2:valO (ofM s) f q2=⟨f.Number,q2.2.2.1,q2.2.2.2.1,q2.2.2.2.2⟩:=by unfold valO;rw [xm (fun hh=>by rw [hr] at hh;cases hh.2.2)]
      have v12:valO (ofM s) f (comb f q1 q2)=⟨f.Number,q1.2.2.1++q2.2.2.1,q1.2.2.2.1++q2.2.2.2.1,q1.2.2.2.2++q2.2.2.2.2⟩:=by
       unfold valO;rw [xm (fun hh=>by rw [hr] at hh;cases hh.2.2)];unfold comb;simp [hr]
      rw [v1,v2,v12];have nil2:∀(x y w:Nat),x+y+w=0->x=0/\y=0/\w=0:=by omega
      by_cases h2:0<zay (⟨f.Number,q2.2.2.1,q2.2.2.2.1,q2.2.2.2.2⟩:Vlu)
      ·rw [xn h2];simp only;rw [xn (by unfold zay at h2|-;simp only [xz] at h2|-;omega),zgy];by_cases h1:0<zay (⟨f.Number,q1.2.2.1,q1.2.2.2.1,q1.2.2.2.2⟩:Vlu)
       ·rw [xn h1];simp only;rw [xn hr]
       ·rw [xm h1];simp only;unfold zay at h1;simp only at h1;obtain ⟨n1,n2,n3⟩:=nil2 _ _ _ (show q1.2.2.1.length+q1.2.2.2.1.length+q1.2.2.2.2.length=0 by omega);rw [yq n1,yq n2,yq n3];rfl
      ·rw [xm h2];simp only;unfold zay at h2;simp only at h2;obtain ⟨n1,n2,n3⟩:=nil2 _ _ _ (show q2.2.2.1.length+q2.2.2.2.1.length+q2.2.2.2.2.length=0 by omega);rw [yq n1,yq n2,yq n3];simp only [yl]
     | false=>
      have s1:=(ha1.one hr).2.2;have s2:=(hz1.one hr).2.2;by_cases ww:f.Kind=17
      ·have nw:∀q:zcu,ztN s d f q->q.2.2.1=[]/\q.2.2.2.1=[]:=fun q hq=>by
        constructor
        ·cases hw:q.2.2.1 with
         | nil=>rfl
         | cons w l=>
          have:=hq.words w (by rw [hw];exact xo);unfold zmp at this;rw [ww] at this;simp [kNum] at this
        ·cases hw:q.2.2.2.1 with
         | nil=>rfl
         | cons w l=>
          have:=hq.texts w (by rw [hw];exact xo);unfold zrr at this;rw [ww] at this;simp at this
       obtain ⟨a1,a2⟩:=nw q1 ha1;obtain ⟨z1,z2⟩:=nw q2 hz1;have v2:valO (ofM s) f q2=⟨f.Number,[],[],[ofM s f.Of q2.1]⟩:=by unfold valO;rw [xn ⟨hm2,ww,hr⟩,z1,z2]
       have m2:0<zay (⟨f.Number,[],[],[ofM s f.Of q2.1]⟩:Vlu):=by simp [zay]
       rw [v2,xn m2];simp only;cases hm1:q1.2.1 with
       | false=>
        have hq1:=hma hm1;rw [hq1,e0,xm (show ¬(0<0) by omega),zgy];simp only;have v12:valO (ofM s) f (comb f acc0 q2)=⟨f.Number,[],[],[ofM s f.Of q2.1]⟩:=by
         unfold valO comb acc0;simp [hm2,ww,hr,z1,z2]
        rw [v12,xn m2]
       | true=>
        have v1:valO (ofM s) f q1=⟨f.Number,[],[],[ofM s f.Of q1.1]⟩:=by unfold valO;rw [xn ⟨hm1,ww,hr⟩,a1,a2]
        have v12:valO (ofM s) f (comb f q1 q2)=⟨f.Number,[],[],[ofM s f.Of (q1.1++q2.1)]⟩:=by
         unfold valO comb;simp [hm1,hm2,ww,hr,z1,z2]
        obtain ⟨e,he⟩:=hz1.met hm2 ww;have jv1:=ha1.join ww e he;have jv2:=hz1.join ww e he;rw [wJ,xn hm1] at hja;rw [wJ,xn hm2] at hjz;have hof:=(hs.fld _ hmm f hfm).sub ww;obtain ⟨q,hq⟩:∃q:Nat,f.Of=q:=⟨f.Of.toNat,by omega⟩;have hih:ofM s f.Of (q1.1++q2.1)=zhS s (ofM s f.Of q2.1) (ofM s f.Of q1.1) f.Of:=by
         rw [hq] at jv1 jv2|-;exact IH (q1.1.length+q2.1.length) (by omega) _ _ e q rfl (by omega) jv1 jv2
        rw [v1,v12,xn (by simp [zay]),xn (by simp [zay]),zgy];simp only;rw [xm (by rw [hr];simp),xn ww,zjn,hih]
      ·have v1:valO (ofM s) f q1=⟨f.Number,q1.2.2.1,q1.2.2.2.1,[]⟩:=by unfold valO;rw [xm (fun hh=>ww hh.2.1),s1]
       have v2:valO (ofM s) f q2=⟨f.Number,q2.2.2.1,q2.2.2.2.1,[]⟩:=by unfold valO;rw [xm (fun hh=>ww hh.2.1),s2]
       have v12:valO (ofM s) f (comb f q1 q2)=⟨f.Number,q2.2.2.1,q2.2.2.2.1,[]⟩:=by
        unfold valO;rw [xm (fun hh=>ww hh.2.1)];unfold comb;simp [hr,hm2,s1,s2]
       have m2:0<zay (⟨f.Number,q2.2.2.1,q2.2.2.2.1,[]⟩:Vlu):=by
        have:=hnz hr ww hm2;unfold zay;simp only [yZ];omega
       rw [v12,v2,xn m2];simp only;rw [zgy];split
       ·rfl
       ·rw [xm (by rw [hr];simp),xm ww]
  have hunk:(ofM s k (a++z)).Unknown=(zhS s (ofM s k z) (ofM s k a) k).Unknown:=by
   rw [zkc,zki s k (a++z),zki s k z,zki s k a,haz];unfold zgz unkO;simp only [pr,yv]
  generalize ofM s k (a++z)=x at hvals hunk|-
  generalize zhS s (ofM s k z) (ofM s k a) k=y at hvals hunk|-
  cases x;cases y;simp only at hvals hunk;rw [hvals,hunk]
end Go.Proofs.YtnckiilakdkklaaGreat
