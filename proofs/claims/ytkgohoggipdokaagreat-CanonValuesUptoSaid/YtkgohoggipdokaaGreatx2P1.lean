/-
  What the plain functions are. No condition.
-/
import Derived.Test.YtkgohoggipdokaaGreatx2S1
import Derived.Test.YtkgohoggipdokaaGreatx2K2
set_option autoImplicit true
set_option relaxedAutoImplicit true
namespace Go.Proofs.YtkgohoggipdokaaGreat
open Go.IntKind (i64 u32 u64)
open Go
set_option linter.unusedVariables false
theorem zyc (w:Int):zii w=some (w%4294967296):=by unfold zii;rw [zyQ]
theorem zBG (w:Int):ziH w=some (sgnS w):=by
 unfold ziH;rw [zyc,sb,zBQ];unfold sgnS;congr 1;split<;>split<;>omega
theorem zBO (h: -2147483648<=n/\n<=2147483647):ziI n=some (zph n):=by
 unfold ziI;rw [pU,zdh];unfold zph;congr 1;split<;>omega
theorem zzF (h:0<=w/\w<=18446744073709551615):zen w=some (sgnS w):=by
 unfold zen;rw [yx h.1,zk (x:=w%4294967296) (by omega)];unfold sgnS;by_cases h2:w%4294967296<2147483648
 ·rw [pT,xx h2]
 ·rw [pS,xw h2,pU]
theorem zDs (h: -9223372036854775808<=n/\n<=9223372036854775807):zfj n=some (zph n):=by
 unfold zfj zph;by_cases h0:0<=n
 ·rw [pS,xx h0,zdh,yB (by omega) (by omega)]
 ·rw [pT,xw h0];simp (disch:=omega) only [zk,zdh];congr 1;omega
theorem zxZ {v:List UInt8} {m k j:Nat} (hk:k<=8) (hv:v.length=k) (hj:j<k):zcF v (m:Int) (zgK k m j) (j:Int)=some (.inl (zgK k m (j+1),((j+1:Nat):Int))):=by
 have wa:=ztp (n:=k) (m:=m) (j:=j) (by omega);unfold zcF;have e1:i64.wrap (8*(j:Int))=((8*j:Nat):Int):=by rw [pU];push_cast;rfl
 rw [pS,e1,zDx,sb,zJ rfl (show j<(zgK k m j).length by omega),sb,zqA (by simp [IntKind.bits];omega),zEK,zhY,zrJ,zsN rfl,sb,xX,zxX hj,pU];rfl
theorem zxY {v:List UInt8} {m k:Nat} (hk:k<=8) (hv:v.length=k):∀(d j:Nat),j+d=k->zfJ v (m:Int) (zgK k m j) (j:Int)=some (zet k m):=by
 intro d
 induction d with
 | zero=>
  intro j hj;refine zpl ?_;unfold zcF;have:j=k:=by omega
  subst this;rw [pT,zxW]
 | succ d ih=>
  intro j hj;rw [zpk (zxZ hk hv (by omega))];exact ih (j+1) (by omega)
theorem zvp {m:Nat} (n:Int):ziG (m:Int) n=some (zet (min n.toNat 8) m):=by
 unfold ziG;have e:(if (8:Int)<(if n<0 then 0 else n) then (8:Int) else (if n<0 then 0 else n))=((min n.toNat 8:Nat):Int):=by split<;>split<;>omega
 rw [e,zzx rfl (Int.le_refl _) (by omega),sb];have h:=zxY (v:=List.replicate (min n.toNat 8) (0:UInt8)) (m:=m) (k:=min n.toNat 8) (by omega) (by simp) (min n.toNat 8) 0 (by omega);rw [zww] at h;have h':zfJ (List.replicate (min n.toNat 8) (0:UInt8)) (m:Int) (List.replicate (min n.toNat 8) (0:UInt8)) 0=some (zet (min n.toNat 8) m):=h;rw [h',sb]
theorem zwJ {m k:Nat} {n:Int} (hm:m<18446744073709551616) (hk:k=min n.toNat 8):∀(d j:Nat),j+d=k->zce n ((m/256^j:Nat):Int) (zet j m) (j:Int)=some (zet k m):=by
 intro d
 induction d with
 | zero=>
  intro j hj;refine zjX ?_;unfold zaE;have:j=k:=by omega
  subst this;rw [pT]
 | succ d ih=>
  intro j hj;have wa:=zbt j m;refine (zjW (wv2':=((m/256^(j+1):Nat):Int)) (out':=zet (j+1) m) (i':=((j+1:Nat):Int)) ?_).trans (ih (j+1) (by omega));unfold zaE;have h1:(0:Int)<=((m/256^j:Nat):Int):=Int.natCast_nonneg _;rw [pS,yx h1,zhY,Int.emod_emod_of_dvd _ (Int.dvd_refl _),zrJ,zsN rfl,sb,zfI (by simp;omega),sb,<-znM,qx h1,pU];have e:u64.wrap (((m/256^j:Nat):Int)/256)=((m/256^(j+1):Nat):Int):=by
   have hq:m/256^j<=m:=Nat.div_le_self _ _;rw [yC,<-Nat.div_div_eq_div_mul]
   generalize m/256^j=q at hq
   rw [zdh,yB (by omega) (by omega)];omega
  rw [e];rfl
theorem ztQ {m:Nat} (hm:m<18446744073709551616) (n:Int):zdy (m:Int) n=some (zet (min n.toNat 8) m):=by
 unfold zdy;have h:=zwJ (n:=n) hm rfl (min n.toNat 8) 0 (by omega);rw [Nat.pow_zero,Nat.div_one] at h;have h':zce n (m:Int) [] 0=some (zet (min n.toNat 8) m):=h;rw [h',sb]
def zdr (k:Int):Bool:=decide (1<=k/\k<=17)
def kNum (k:Int):Bool:=decide (1<=k/\k<=14)
def zcL (k:Int):Int:=if 15<=k then 2 else if 12<=k then 1 else if 9<=k then 5 else 0
def zbe (k w:Int):Int:=
 if k=1\/k=8 then zph (sgnS w) else if k=3\/k=5\/k=9\/k=10\/k=11 then w%4294967296 else if k=7 then (if 0<w then 1 else 0) else w
theorem zqt (k:Int):zbM k=some (zdr k):=by unfold zbM zdr;simp [Bool.decide_and]
theorem zpG (k:Int):zbz k=some (kNum k):=by unfold zbz kNum;simp [Bool.decide_and]
theorem zyq (k:Int):zfn k=some (zcL k):=by
 unfold zfn zcL;by_cases h1:15<=k
 ·rw [itT (by simpa using h1),xx h1]
 ·rw [itF (by simpa using h1),xw h1];by_cases h2:12<=k
  ·rw [itT (by simpa using h2),xx h2]
  ·rw [itF (by simpa using h2),xw h2];by_cases h3:9<=k
   ·rw [itT (by simpa using h3),xx h3]
   ·rw [itF (by simpa using h3),xw h3]
theorem zrQ (k:Int) (h:0<=w/\w<=18446744073709551615):zdS k w=some (zbe k w):=by
 have hs:=zwM w;unfold zdS zbe;by_cases h1:k=1\/k=8
 ·rw [xx h1];have e:(if (k==1)=true then some (k==1) else some (k==8))=some true:=by rcases h1 with rfl| rfl<;>rfl
  rw [e,sb,itT rfl,zzF h,sb,zDs (by omega),sb]
 ·rw [xw h1];have e:(if (k==1)=true then some (k==1) else some (k==8))=some false:=by rw [pT];simp;omega
  rw [e,sb,itF rfl];by_cases h2:k=3\/k=5\/k=9\/k=10\/k=11
  ·rw [xx h2];have e2:(if (k==3)=true then some (k==3) else if (k==5)=true then some (k==5) else if (k==9)=true then some (k==9) else if (k==10)=true then some (k==10) else some (k==11))=some true:=by
    rcases h2 with rfl| rfl| rfl| rfl| rfl<;>rfl
   rw [e2,sb,itT rfl,yx h.1]
  ·rw [xw h2];have e2:(if (k==3)=true then some (k==3) else if (k==5)=true then some (k==5) else if (k==9)=true then some (k==9) else if (k==10)=true then some (k==10) else some (k==11))=some false:=by
    rw [pT,pT,pT,pT];simp;omega
   rw [e2,sb,itF rfl];by_cases h7:k=7
   ·rw [itT (by simpa using h7),xx h7];by_cases h0:0<w
    ·rw [itT (by simpa using h0),xx h0]
    ·rw [itF (by simpa using h0),xw h0]
   ·rw [itF (by simpa using h7),xw h7]
theorem ziK (k:Int) (h:0<=w/\w<=18446744073709551615):0<=zbe k w/\zbe k w<=18446744073709551615:=by
 have hs:=zwM w;unfold zbe;split
 ·exact zFd (by omega)
 ·split
  ·omega
  ·split
   ·split<;>omega
   ·exact h
theorem zCa {k:Int} {w:Int} (h9:9<=k) (h12:k<12):zbe k w<4294967296:=by
 unfold zbe;rw [xw (by omega),xx (by omega)];omega
theorem zxs (k:Int) {w:Int} (h:0<=w/\w<=18446744073709551615):zbe k (zbe k w)=zbe k w:=by
 have hs:=zwM w;unfold zbe;by_cases h1:k=1\/k=8
 ·simp only [xx h1];rw [zDv hs]
 ·simp only [xw h1];by_cases h2:k=3\/k=5\/k=9\/k=10\/k=11
  ·simp only [xx h2];omega
  ·simp only [xw h2];by_cases h7:k=7
   ·simp only [xx h7];split<;>simp
   ·simp only [xw h7]
abbrev Fld:=zb
abbrev Mes:=ze
def zil {α:Type} (p:α->Bool) (l:List α):Int:=match l.findIdx? p with
 | some i=>(i:Int)
 | none=> -1
theorem zkX {α:Type} {p:α->Bool} {l:List α} (h:l.findIdx? p=none):zil p l= -1:=by unfold zil;rw [h]
theorem zkY {α:Type} {p:α->Bool} {l:List α} {i:Nat} (h:l.findIdx? p=some i):zil p l=(i:Int):=by unfold zil;rw [h]
theorem zqZ {α:Type} (p:α->Bool) (l:List α) (F:Int->Option (Unit⊕Int)) (h0:F (l.length:Int)=some (.inl ())) (hs:∀(i:Nat) (h:i<l.length),F (i:Int)=if p l[i] then some (.inr (i:Int)) else F ((i+1:Nat):Int)):
  ∀(d i:Nat),i+d=l.length->(∀j (h:j<l.length),j<i->p l[j]=false)->F (i:Int)=some (match l.findIdx? p with| some k=> .inr (k:Int)| none=> .inl ()):=by
 intro d
 induction d with
 | zero=>
  intro i hi hj;have:i=l.length:=by omega
  subst this;have hn:l.findIdx? p=none:=by
   rw [pf];intro x hx;obtain ⟨j,hj',rfl⟩:=qS hx;exact hj j hj' hj'
  rw [h0,hn]
 | succ d ih=>
  intro i hi hj;have hil:i<l.length:=by omega
  rw [hs i hil];by_cases hp:p l[i]=true
  ·have hf:l.findIdx? p=some i:=by
    rw [pg];exact ⟨hil,hp,fun j hji=>by simpa using hj j (by omega) hji⟩
   rw [xx hp,hf]
  ·rw [xw hp];refine ih (i+1) (by omega) fun j h hji=>?_
   by_cases e:j=i
   ·subst e;simpa using hp
   ·exact hj j h (by omega)
def fldI (m:Mes) (number:Int):Int:=zil (fun f:Fld=>f.Number==number) m.Fields
theorem znZ (hm:m.Fields.length<=1152921504606846976) (number:Int):zcN m number=some (fldI m number):=by
 unfold zcN fldI;have h:=zqZ (fun f:Fld=>f.Number==number) m.Fields (fun i=>zcA m number i) (by
   refine zgR ?_;unfold zaW;rw [pR])
  (fun i hi=>by
   have hb:zaW m number i=if ((m.Fields[i]).Number==number)=true then some (.inr (.inr (i:Int))) else some (.inl ((i+1:Nat):Int)):=by
    unfold zaW;rw [pS,zJ rfl hi,sb,pU];rfl
   by_cases hp:((m.Fields[i]).Number==number)=true
   ·rw [xx hp] at hb|-;exact zgR hb
   ·rw [xw hp] at hb|-;exact zkO hb)
  m.Fields.length 0 (by omega) (fun j _ hj=>by omega)
 have h':zcA m number 0=_:=h;rw [h',sb];unfold zil;cases m.Fields.findIdx? (fun f:Fld=>f.Number==number)<;>rfl
def nmc (i:Nat) (c:UInt8):Bool:=decide (65<=c.toNat/\c.toNat<=90\/97<=c.toNat/\c.toNat<=122\/c.toNat=95\/0<i/\48<=c.toNat/\c.toNat<=57)
def nmA:Nat->List UInt8->Bool
 | _,[]=>true
 | i,c::l=>nmc i c&&nmA (i+1) l
def zfa (s:List UInt8):Bool:=nmA 0 s&&decide (1<=s.length/\s.length<=60)
theorem zgD {α:Type} {l t:List α} {x:α} {k:Nat} (h:l.drop k=x::t):∃hk:k<l.length,l[k]=x/\l.drop (k+1)=t:=by
 have hk:k<l.length:=by
  rcases yN k l.length with h'| h'
  ·exact h'
  ·rw [yh h'] at h;cases h
 rw [yb hk] at h;injection h with h1 h2;exact ⟨hk,h1,h2⟩
theorem zhu {α:Type} {l:List α} {k:Nat} (h:l.drop k=[]):l.length<=k:=by have:=congrArg List.length h;simp at this;omega
theorem zBr (s:List UInt8) (hs:s.length<=1152921504606846976):∀(l:List UInt8) (i:Nat),s.drop i=l->zcX s i=some (if nmA i l=true then .inl () else .inr ()):=by
 intro l
 induction l with
 | nil=>
  intro i hd;have:=zhu hd;refine zhb ?_;unfold zbn;rw [pT];rfl
 | cons c l ih=>
  intro i hd;obtain ⟨hk,hx,hd'⟩:=zgD hd;have hb:zbn s i=if nmc i c=true then some (.inl ((i+1:Nat):Int)) else some (.inr (.inr ())):=by
   unfold zbn;rw [pS,zJ rfl hk,sb,hx,pU];have e:(if (decide ((c.toNat:Int)>=65)) then ((decide ((c.toNat:Int)<=90))|| (if (decide ((c.toNat:Int)>=97)) then ((decide ((c.toNat:Int)<=122))|| (((c.toNat:Int)==95)|| ((decide ((i:Int)>0))&&((decide ((c.toNat:Int)>=48))&&(decide ((c.toNat:Int)<=57)))))) else (((c.toNat:Int)==95)|| ((decide ((i:Int)>0))&&((decide ((c.toNat:Int)>=48))&&(decide ((c.toNat:Int)<=57))))))) else (if (decide ((c.toNat:Int)>=97)) then ((decide ((c.toNat:Int)<=122))|| (((c.toNat:Int)==95)|| ((decide ((i:Int)>0))&&((decide ((c.toNat:Int)>=48))&&(decide ((c.toNat:Int)<=57)))))) else (((c.toNat:Int)==95)|| ((decide ((i:Int)>0))&&((decide ((c.toNat:Int)>=48))&&(decide ((c.toNat:Int)<=57)))))))=nmc i c:=by
    have e95:((c.toNat:Int)==95)=decide (c.toNat=95):=zpT _ 95;have a1:decide ((c.toNat:Int)>=65)=decide (65<=c.toNat):=yT.2 (by omega);have a2:decide ((c.toNat:Int)<=90)=decide (c.toNat<=90):=yT.2 (by omega);have a3:decide ((c.toNat:Int)>=97)=decide (97<=c.toNat):=yT.2 (by omega);have a4:decide ((c.toNat:Int)<=122)=decide (c.toNat<=122):=yT.2 (by omega);have a5:decide ((i:Int)>0)=decide (0<i):=yT.2 (by omega);have a6:decide ((c.toNat:Int)>=48)=decide (48<=c.toNat):=yT.2 (by omega);have a7:decide ((c.toNat:Int)<=57)=decide (c.toNat<=57):=yT.2 (by omega);rw [e95,a1,a2,a3,a4,a5,a6,a7];simp only [nmc,Bool.decide_or,Bool.decide_and]
    generalize decide (65<=c.toNat)=p1
    generalize decide (c.toNat<=90)=p2
    generalize decide (97<=c.toNat)=p3
    generalize decide (c.toNat<=122)=p4
    generalize decide (c.toNat=95)=p5
    generalize decide (0<i)=p6
    generalize decide (48<=c.toNat)=p7
    generalize decide (c.toNat<=57)=p8
    cases p1<;>cases p2<;>cases p3<;>cases p4<;>cases p5<;>cases p6<;>cases p7<;>cases p8<;>rfl
   rw [e];cases nmc i c
   ·rw [pP];rfl
   ·rw [pQ];push_cast;rfl
  rw [nmA];cases hc:nmc i c
  ·rw [hc,xw (by simp)] at hb;rw [zhb hb];rfl
  ·rw [hc,xx rfl] at hb;rw [zlt hb,ih _ hd',xL]
theorem ztK (hs:s.length<=1152921504606846976):zeg s=some (zfa s):=by
 unfold zeg zfa;have h:=zBr s hs s 0 rfl;have h':zcX s 0=_:=h;rw [h',sb];cases nmA 0 s
 ·rfl
 ·simp [Bool.decide_and];rw [yy];simp;omega
def zcI (n:Int) (prev:List Fld) (f:Fld):Int:=
 if zfa f.Name=false then 5 else if prev.any (fun g=>g.Name==f.Name)=true then 6
 else if f.Number<1\/f.Number>536870911\/(19000<=f.Number/\f.Number<20000) then 7
 else if prev.any (fun g=>g.Number==f.Number)=true then 8 else if zdr f.Kind=false then 9
 else if f.Packed=true/\¬(f.Repeated=true/\kNum f.Kind=true) then 10
 else if f.Kind=17/\(f.Of<0\/f.Of>=n)\/f.Kind≠17/\f.Of≠0 then 11 else 0
theorem zsY (n:Int) (prev:List Fld) (f:Fld):0<=zcI n prev f/\zcI n prev f<=11:=by
 unfold zcI
 repeat' split
 all_goals omega
theorem zzh {s:List Mes} {i k:Nat} {m:Mes} (hi:∃h:i<s.length,s[i]=m) (hk:k<=m.Fields.length) (hb:m.Fields.length<=1152921504606846976) (f:Fld):
  ∀(l:List Fld) (j:Nat) (a b:Bool),(m.Fields.take k).drop j=l->j<=k->zcz i k s f a b j=some (a|| l.any (fun g=>g.Name==f.Name),b|| l.any (fun g=>g.Number==f.Number)):=by
 obtain ⟨hi,hm⟩:=hi;intro l
 induction l with
 | nil=>
  intro j a b hd hj;have:=zhu hd;rw [ye] at this;refine zkN ?_;unfold zaV;rw [pT];simp
 | cons g l ih=>
  intro j a b hd hj;obtain ⟨hjk,hx,hd'⟩:=zgD hd;rw [ye] at hjk;rw [List.getElem_take] at hx;refine (zkM (name':=a|| (g.Name==f.Name)) (number':=b|| (g.Number==f.Number)) (j':=((j+1:Nat):Int)) ?_).trans ?_
  ·unfold zaV;have e1:idx s (i:Int)=some m:=by rw [zJ rfl hi,hm]
   have e2:idx m.Fields (j:Int)=some g:=by rw [zJ rfl (by omega),hx]
   rw [pS,e1,sb,e2,sb,pU];cases a<;>cases b<;>(simp only [qj,ql,yp,e2,sb,qL,ph];push_cast;rfl)
  ·rw [ih _ _ _ hd' (by omega),qy,qy,pD,pD]
theorem zyp {s:List Mes} {i k:Nat} {m:Mes} {f:Fld} (hi:∃h:i<s.length,s[i]=m) (hk:∃h:k<m.Fields.length,m.Fields[k]=f) (hb:m.Fields.length<=1152921504606846976) (hf:f.Name.length<=1152921504606846976):
  zeN s i k=some (zcI s.length (m.Fields.take k) f):=by
 obtain ⟨hil,hm⟩:=hi;obtain ⟨hkl,hfe⟩:=hk;have e1:idx s (i:Int)=some m:=by rw [zJ rfl hil,hm]
 have e2:idx m.Fields (k:Int)=some f:=by rw [zJ rfl hkl,hfe]
 have h:=zzh ⟨hil,hm⟩ (Nat.le_of_lt hkl) hb f (m.Fields.take k) 0 false false rfl (ya _);have h':zcz i k s f false false 0=_:=h;unfold zeN zcI;rw [e1,sb,e2,sb,h',sb,ztK hf,sb];simp only [qL];cases h1:zfa f.Name
 ·rw [pP,xx (show false=false from rfl)]
 ·rw [pQ,xw (show ¬(true=false) by simp)];cases h2:(m.Fields.take k).any (fun g=>g.Name==f.Name)
  ·rw [pQ,xw (show ¬(false=true) by simp)];by_cases h3:f.Number<1\/f.Number>536870911\/(19000<=f.Number/\f.Number<20000)
   ·rw [itT (by simpa using h3),xx h3]
   ·rw [pT,xw h3];cases h4:(m.Fields.take k).any (fun g=>g.Number==f.Number)
    ·rw [pQ,xw (show ¬(false=true) by simp),zqt,sb];cases h5:zdr f.Kind
     ·rw [pP,xx (show false=false from rfl)]
     ·rw [pQ,xw (show ¬(true=false) by simp)];have e10:(if f.Packed=true then (if f.Repeated=true then (zbz f.Kind>>=fun v8=>some (!v8)) else some (!false)) else some false)=some (decide (f.Packed=true/\¬(f.Repeated=true/\kNum f.Kind=true))):=by
       rw [zpG,sb];cases f.Packed<;>cases f.Repeated<;>cases kNum f.Kind<;>rfl
      rw [e10,sb];by_cases h6:f.Packed=true/\¬(f.Repeated=true/\kNum f.Kind=true)
      ·rw [itT (xW h6),xx h6]
      ·rw [itF (xV h6),xw h6];by_cases h7:f.Kind=17
       ·by_cases h8:f.Of<0\/f.Of>=(s.length:Int)
        ·rw [itT (by simp [h7];simpa using h8),xx (.inl ⟨h7,h8⟩)]
        ·rw [itF (by simp [h7];omega),xw (by simp [h7];omega)]
       ·by_cases h8:f.Of=0
        ·rw [itF (by simp [h7,h8]),xw (by simp [h7,h8])]
        ·rw [itT (by simp [h7,h8]),xx (.inr ⟨h7,h8⟩)]
    ·rw [pP,xx (show true=true from rfl)]
  ·rw [pP,xx (show true=true from rfl)]
def msgF (n:Int) (prev:List Fld):List Fld->Option (Nat×Int)
 | []=>none
 | f::l=>if 0<zcI n prev f then some (prev.length,zcI n prev f) else msgF n (prev++[f]) l
def chkF (n:Int) (prev:List Mes):List Mes->Option (Nat×Int×Int)
 | []=>none
 | m::l=>if zfa m.Name=false then some (prev.length, -1,2) else if prev.any (fun g=>g.Name==m.Name)=true then some (prev.length, -1,3)
  else if 200<m.Fields.length then some (prev.length, -1,4) else match msgF n [] m.Fields with
   | some (k,w)=>some (prev.length,(k:Int),w)
   | none=>chkF n (prev++[m]) l
def zij (s:List Mes):Int×Int×Int:=if s.length=0\/100<s.length then (-1, -1,1) else match chkF s.length [] s with
 | none=>(0,0,0)
 | some (i,k,w)=>((i:Int),k,w)
def zeu (s:List Mes):Bool:=decide ((zij s).2.2=0)
def WS (s:List Mes):Prop:=s.length<=140737488351232/\∀m∈s,m.Name.length<=140737488351232/\m.Fields.length<=140737488351232/\∀f∈m.Fields,f.Name.length<=140737488351232
theorem zxw {s:List Mes} {i:Nat} {m:Mes} (hi:∃h:i<s.length,s[i]=m) (hb:m.Fields.length<=140737488351232) (hn:∀f∈m.Fields,f.Name.length<=140737488351232):
  ∀(l:List Fld) (k:Nat),m.Fields.drop k=l->k<=m.Fields.length->zcy i s k=some (match msgF s.length (m.Fields.take k) l with| some (j,w)=> .inr ((j:Int),w)| none=> .inl ()):=by
 obtain ⟨hil,hm⟩:=hi;have e1:idx s (i:Int)=some m:=by rw [zJ rfl hil,hm]
 intro l
 induction l with
 | nil=>
  intro k hd hk;have:=zhu hd;refine zgQ ?_;unfold zaU;rw [e1,sb,pT];rfl
 | cons f l ih=>
  intro k hd hk;obtain ⟨hkl,hx,hd'⟩:=zgD hd;have hf:=zyp (s:=s) (i:=i) (k:=k) (m:=m) (f:=f) ⟨hil,hm⟩ ⟨hkl,hx⟩ (by omega) (by have:=hn f (by rw [<-hx];exact xF hkl);omega);have hbd:=zsY s.length (m.Fields.take k) f;have htl:(m.Fields.take k).length=k:=by rw [ye];omega
  rw [msgF];by_cases h0:0<zcI s.length (m.Fields.take k) f
  ·rw [xx h0];refine zgQ ?_;unfold zaU;rw [e1,sb,pS,hf,sb,itT (by simpa using h0)];simp only [htl]
  ·rw [xw h0];refine (zkL (k2':=((k+1:Nat):Int)) ?_).trans ?_
   ·unfold zaU;rw [e1,sb,pS,hf,sb,pT,pU];push_cast;rfl
   ·rw [ih (k+1) hd' (by omega),qM hkl,hx]
theorem zxv (hi:∃h:i<s.length,s[i]=m) (hs:s.length<=140737488351232):
  ∀(l:List Mes) (k:Nat) (a:Bool),(s.take i).drop k=l->k<=i->zcx i s a k=some (a|| l.any (fun g=>g.Name==m.Name)):=by
 obtain ⟨hil,hm⟩:=hi;intro l
 induction l with
 | nil=>
  intro k a hd hk;have:=zhu hd;rw [ye] at this;refine zkK ?_;unfold zaT;rw [pT];simp
 | cons g l ih=>
  intro k a hd hk;obtain ⟨hkl,hx,hd'⟩:=zgD hd;rw [ye] at hkl;rw [List.getElem_take] at hx;refine (zkJ (twice':=a|| (g.Name==m.Name)) (k':=((k+1:Nat):Int)) ?_).trans ?_
  ·unfold zaT;have e1:idx s (i:Int)=some m:=by rw [zJ rfl hil,hm]
   have e2:idx s (k:Int)=some g:=by rw [zJ rfl (by omega),hx]
   rw [pS,e1,e2,sb,sb,pU];cases a<;>(simp only [qj,ql,yp,sb,qL,ph];push_cast;rfl)
  ·rw [ih _ _ hd' (by omega),qy,pD]
theorem zxu (hw:WS s):∀(l:List Mes) (i:Nat),s.drop i=l->i<=s.length->zcw s i=some (match chkF s.length (s.take i) l with| some (j,k,w)=> .inr ((j:Int),k,w)| none=> .inl ()):=by
 intro l
 induction l with
 | nil=>
  intro i hd hi;have:=zhu hd;refine zcl ?_;unfold zaS;rw [pT];rfl
 | cons m l ih=>
  intro i hd hi;obtain ⟨hil,hx,hd'⟩:=zgD hd;obtain ⟨hsl,hwm⟩:=hw;obtain ⟨w1,w2,w3⟩:=hwm m (by rw [<-hx];exact xF hil);have htl:(s.take i).length=i:=by rw [ye];omega
  have e1:idx s (i:Int)=some m:=by rw [zJ rfl hil,hx]
  have h2:=zxv ⟨hil,hx⟩ hsl (s.take i) 0 false rfl (ya _);have h2':zcx i s false 0=_:=h2;have h3:=zxw ⟨hil,hx⟩ w2 w3 m.Fields 0 rfl (ya _);have h3':zcy i s 0=_:=h3
  have hb:zaS s i=(if zfa m.Name=false then some (.inr (.inr ((i:Int), -1,2))) else if (s.take i).any (fun g=>g.Name==m.Name)=true then some (.inr (.inr ((i:Int), -1,3)))
    else if 200<m.Fields.length then some (.inr (.inr ((i:Int), -1,4))) else match msgF s.length [] m.Fields with
     | some (k,w)=>some (.inr (.inr ((i:Int),(k:Int),w)))
     | none=>some (.inl ((i+1:Nat):Int))):=by
   unfold zaS;rw [pS,h2',sb,e1,sb,ztK (by omega),sb,sb,h3',sb,qL];cases h4:zfa m.Name
   ·rw [pP,xx (show false=false from rfl)]
   ·rw [pQ,xw (show ¬(true=false) by simp)];cases h5:(s.take i).any (fun g=>g.Name==m.Name)
    ·rw [pQ,xw (show ¬(false=true) by simp)];by_cases h6:200<m.Fields.length
     ·rw [pS,xx h6]
     ·rw [pT,xw h6,yu];cases msgF s.length [] m.Fields with
      | none=>simp only;rw [pU];push_cast;rfl
      | some p=>rfl
    ·rw [pP,xx (show true=true from rfl)]
  rw [chkF];by_cases h4:zfa m.Name=false
  ·rw [xx h4] at hb|-;rw [zcl hb];simp only [htl]
  ·rw [xw h4] at hb|-;by_cases h5:(s.take i).any (fun g=>g.Name==m.Name)=true
   ·rw [xx h5] at hb|-;rw [zcl hb];simp only [htl]
   ·rw [xw h5] at hb|-;by_cases h6:200<m.Fields.length
    ·rw [xx h6] at hb|-;rw [zcl hb];simp only [htl]
    ·rw [xw h6] at hb|-;cases h7:msgF s.length [] m.Fields with
     | some p=>
      rw [h7] at hb;rw [zcl hb];simp only [htl]
     | none=>
      rw [h7] at hb;rw [zkI hb,ih _ hd' (by omega),qM hil,hx]
theorem zuE (hw:WS s):zeM s=some (zij s):=by
 unfold zeM zij;by_cases h:s.length=0\/100<s.length
 ·have e0:((s.length:Int)==0)=decide (s.length=0):=zpT _ 0;rw [e0,itT (by simp only [qv,xP];omega),xx h]
 ·have e0:((s.length:Int)==0)=decide (s.length=0):=zpT _ 0;rw [e0,itF (by simp only [qg,pE];omega),xw h];have h1:=zxu hw s 0 rfl (ya _);have h1':zcw s 0=_:=h1;rw [h1',sb,yu];cases chkF s.length [] s with
  | none=>rfl
  | some p=>rfl
theorem zuF (hw:WS s):zeO s=some (zeu s):=by
 unfold zeO zeu;rw [zuE hw,sb];rfl
theorem zri :∀(l prev:List Fld),msgF n prev l=none↔∀(k:Nat) (f:Fld),l[k]? =some f->zcI n (prev++l.take k) f=0
 | [],prev=>by simp [msgF]
 | f::l,prev=>by
  have hb:=zsY n prev f;rw [msgF];by_cases h:0<zcI n prev f
  ·rw [xx h];refine ⟨(fun h'=>nomatch h'),fun h'=>?_⟩;have:=h' 0 f rfl;simp at this;omega
  ·rw [xw h,zri l (prev++[f])];constructor
   ·intro h' k g hg;cases k with
    | zero=>simp at hg;subst hg;simp;omega
    | succ k=>have:=h' k g (by simpa using hg);simpa using this
   ·intro h' k g hg;have:=h' (k+1) g (by simpa using hg);simpa using this
theorem zuW :∀(l prev:List Mes),chkF n prev l=none↔∀(i:Nat) (m:Mes),l[i]? =some m->zfa m.Name=true/\(prev++l.take i).any (fun g=>g.Name==m.Name)=false/\m.Fields.length<=200/\msgF n [] m.Fields=none
 | [],prev=>by simp [chkF]
 | m::l,prev=>by
  rw [chkF];by_cases h1:zfa m.Name=false
  ·rw [xx h1];refine ⟨(fun h'=>nomatch h'),fun h'=>?_⟩;have:=(h' 0 m rfl).1;rw [h1] at this;cases this
  ·rw [xw h1];by_cases h2:prev.any (fun g=>g.Name==m.Name)=true
   ·rw [xx h2];refine ⟨(fun h'=>nomatch h'),fun h'=>?_⟩;have:=(h' 0 m rfl).2.1;simp only [yu,yY] at this;rw [h2] at this;cases this
   ·rw [xw h2];by_cases h3:200<m.Fields.length
    ·rw [xx h3];refine ⟨(fun h'=>nomatch h'),fun h'=>?_⟩;have:=(h' 0 m rfl).2.2.1;omega
    ·rw [xw h3];cases h4:msgF n [] m.Fields with
     | some p=>
      refine ⟨(fun h'=>nomatch h'),fun h'=>?_⟩;have:=(h' 0 m rfl).2.2.2;rw [h4] at this;cases this
     | none=>
      simp only;rw [zuW l (prev++[m])];constructor
      ·intro h' i g hg;cases i with
       | zero=>simp at hg;subst hg;exact ⟨by simpa using h1,by simpa using h2,by omega,h4⟩
       | succ i=>have:=h' i g (by simpa using hg);simpa using this
      ·intro h' i g hg;have:=h' (i+1) g (by simpa using hg);simpa using this
theorem zEG:∀(n:Int) (l prev:List Fld) (k:Nat) (w:Int),msgF n prev l=some (k,w)->0<w:=by
 intro n l
 induction l with
 | nil=>intro prev k w h;cases h
 | cons f l ih=>
  intro prev k w h;rw [msgF] at h;split at h
  ·cases h;assumption
  ·exact ih _ _ _ h
theorem zzS:∀(n:Int) (l prev:List Mes) (i:Nat) (k w:Int),chkF n prev l=some (i,k,w)->0<w:=by
 intro n l
 induction l with
 | nil=>intro prev i k w h;cases h
 | cons m l ih=>
  intro prev i k w h;rw [chkF] at h;split at h
  ·cases h;omega
  ·split at h
   ·cases h;omega
   ·split at h
    ·cases h;omega
    ·split at h
     ·rename_i k' w' h';cases h;exact zEG _ _ _ _ _ h'
     ·exact ih _ _ _ _ h
structure zFh (n:Int) (f:Fld):Prop where
 name:zfa f.Name=true
 lo:1<=f.Number
 hi:f.Number<=536870911
 kind:zdr f.Kind=true
 packed:f.Packed=true->f.Repeated=true/\kNum f.Kind=true
 sub:f.Kind=17->0<=f.Of/\f.Of<n
 noSub:f.Kind≠17->f.Of=0
theorem zsZ (h:zcI n prev f=0):zFh n f/\prev.any (fun g=>g.Name==f.Name)=false/\prev.any (fun g=>g.Number==f.Number)=false:=by
 unfold zcI at h;split at h
 ·omega
 ·rename_i h1;split at h
  ·omega
  ·rename_i h2;split at h
   ·omega
   ·rename_i h3;split at h
    ·omega
    ·rename_i h4;split at h
     ·omega
     ·rename_i h5;split at h
      ·omega
      ·rename_i h6;split at h
       ·omega
       ·rename_i h7;refine ⟨⟨by simpa using h1,by omega,by omega,by simpa using h5,fun hp=>?_,fun hk=>by omega,fun hk=>by omega⟩,by simpa using h2,by simpa using h4⟩;by_cases hq:f.Repeated=true/\kNum f.Kind=true
        ·exact hq
        ·exact absurd ⟨hp,hq⟩ h6
structure zjh (s:List Mes):Prop where
 len:1<=s.length/\s.length<=100
 name:∀m∈s,zfa m.Name=true
 names:∀(i j:Nat) (a b:Mes),i<j->s[i]? =some a->s[j]? =some b->a.Name≠b.Name
 few:∀m∈s,m.Fields.length<=200
 fld:∀m∈s,∀f∈m.Fields,zFh s.length f
 nums:∀m∈s,∀(i j:Nat) (f g:Fld),i<j->m.Fields[i]? =some f->m.Fields[j]? =some g->f.Number≠g.Number/\f.Name≠g.Name
theorem zqS {α:Type} {l:List α} {p:α->Bool} (h:l.any p=false) {x:α} (hx:x∈l):p x=false:=by
 rw [List.any_eq_false] at h;simpa using h x hx
theorem zjK {s:List Mes} (h:zeu s=true):zjh s:=by
 have h0:(zij s).2.2=0:=by simpa [zeu] using h
 have h1:¬(s.length=0\/100<s.length):=fun hh=>by unfold zij at h0;rw [xx hh] at h0;simp at h0
 have h2:chkF s.length [] s=none:=by
  cases h4:chkF s.length [] s with
  | none=>rfl
  | some p=>
   exfalso;obtain ⟨i,k,w⟩:=p;have h5:(zij s).2.2=w:=by unfold zij;rw [xw h1,h4]
   have:=zzS _ _ _ _ _ _ h4;omega
 have h3:=(zuW s []).1 h2;have at':∀m∈s,zfa m.Name=true/\m.Fields.length<=200/\msgF s.length [] m.Fields=none:=fun m hm=>by
  obtain ⟨i,hi,rfl⟩:=qS hm;have:=h3 i _ (xQ hi);exact ⟨this.1,this.2.2.1,this.2.2.2⟩
 refine ⟨by omega,fun m hm=>(at' m hm).1,fun i j a b hij ha hb=>?_,fun m hm=>(at' m hm).2.1,fun m hm f hf=>?_,fun m hm i j f g hij hf hg=>?_⟩
 ·have:=(h3 j b hb).2.1;have hai:a∈([]++s.take j:List Mes):=by
   rw [xZ];exact qD (i:=i) (by rw [yI,xx hij];exact ha)
  simpa using zqS this hai
 ·have h4:=(zri m.Fields []).1 (at' m hm).2.2;obtain ⟨i,hi,rfl⟩:=qS hf;exact (zsZ (h4 i _ (xQ hi))).1
 ·have h4:=(zri m.Fields []).1 (at' m hm).2.2;obtain ⟨_,k1,k2⟩:=zsZ (h4 j g hg);have hai:f∈([]++m.Fields.take j:List Fld):=by
   rw [xZ];exact qD (i:=i) (by rw [yI,xx hij];exact hf)
  exact ⟨by simpa using zqS k2 hai,by simpa using zqS k1 hai⟩
theorem zmM {α:Type} [DecidableEq α] (a b:List α) (F:Int->Option (Unit⊕Unit)) (hl:a.length=b.length) (h0:F (a.length:Int)=some (.inl ()))
  (hs:∀(i:Nat) (h:i<a.length) (h':i<b.length),F (i:Int)=if a[i]=b[i] then F ((i+1:Nat):Int) else some (.inr ())):
  ∀(d i:Nat),i+d=a.length->F (i:Int)=some (if a.drop i=b.drop i then .inl () else .inr ()):=by
 intro d
 induction d with
 | zero=>
  intro i hi;have e1:a.drop i=[]:=yh (by omega);have e2:b.drop i=[]:=yh (by omega);have:i=a.length:=by omega
  rw [e1,e2,xx rfl,this,h0]
 | succ d ih=>
  intro i hi;rw [hs i (by omega) (by omega),yb (l:=a) (by omega),yb (l:=b) (by omega)];by_cases h:a[i]'(by omega)=b[i]'(by omega)
  ·rw [xx h,ih (i+1) (by omega),h];simp only [yA,yZ]
  ·rw [xw h,xw (fun e=>h (List.cons.inj e).1)]
theorem zAY {s:List Mes} {i:Nat} {m:Mes} (hi:∃h:i<s.length,s[i]=m) (hb:m.Fields.length<=140737488351232):∀(d k:Nat) (n:Int),k+d=m.Fields.length->∃r,zdx i s n k=some r:=by
 obtain ⟨hil,hm⟩:=hi;have e1:idx s (i:Int)=some m:=by rw [zJ rfl hil,hm]
 intro d
 induction d with
 | zero=>
  intro k n hk;refine ⟨n,zlR ?_⟩;unfold zby;rw [e1,sb,pT]
 | succ d ih=>
  intro k n hk;obtain ⟨r,hr⟩:=ih (k+1) (i64.wrap (n+(i64.wrap (Int.tdiv (((m.Fields[k]'(by omega)).Name.length:Int)) 100)))) (by omega);refine ⟨r,(zlQ (k':=((k+1:Nat):Int)) ?_).trans hr⟩;unfold zby;rw [e1,sb,pS,sb,zJ rfl (by omega),sb,zk (x:=(k:Int)+1) (by omega)];push_cast;rfl
theorem zFW {s:List Mes} (hw:WS s):∃b,zfK s=some b:=by
 obtain ⟨hs,hm⟩:=hw;have key:∀(d i:Nat) (n:Int),i+d=s.length->∃r,zdw s n i=some r:=by
  intro d
  induction d with
  | zero=>
   intro i n hi;refine ⟨n,zlP ?_⟩;unfold zbx;rw [pT]
  | succ d ih=>
   intro i n hi;have hil:i<s.length:=by omega
   obtain ⟨q,hq⟩:=zAY (s:=s) (i:=i) (m:=s[i]) ⟨hil,rfl⟩ (hm _ (xF hil)).2.1 (s[i]).Fields.length 0
    (i64.wrap ((i64.wrap ((i64.wrap (n+1))+(i64.wrap (Int.tdiv ((s[i]).Name.length:Int) 100))))+((s[i]).Fields.length:Int))) (by omega)
   have hq':zdx i s (i64.wrap ((i64.wrap ((i64.wrap (n+1))+(i64.wrap (Int.tdiv ((s[i]).Name.length:Int) 100))))+((s[i]).Fields.length:Int))) 0=some q:=hq;obtain ⟨r,hr⟩:=ih (i+1) q (by omega);refine ⟨r,(zlO (i':=((i+1:Nat):Int)) ?_).trans hr⟩;unfold zbx;rw [pS,zJ rfl hil,sb,sb,hq',sb,zk (x:=(i:Int)+1) (by omega)];push_cast;rfl
 obtain ⟨r,hr⟩:=key s.length 0 0 (by omega);have hr':zdw s 0 0=some r:=hr;exact ⟨_,by unfold zfK;rw [hr',sb]⟩
def zFr (m:Mes) (p:Int):Int:=(m.Fields.getD p.toNat ⟨[],0,0,false,false,0⟩).Number
def zFT (κ:Int->Int) (a b:Int):Prop:=κ a<κ b\/κ a=κ b/\a<b
def cpN (r:Nat):List Nat:=
 if r<128 then [r] else if r<2048 then [192+r/64,128+r%64]
 else if r<65536 then (if 55296<=r/\r<=57343 then [] else [224+r/4096,128+r/64%64,128+r%64])
 else if r<=1114111 then [240+r/262144,128+r/4096%64,128+r/64%64,128+r%64] else []
def cpB (r:Nat):List UInt8:=(cpN r).map UInt8.ofNat
def cont (c:UInt8):Bool:=decide (128<=c.toNat/\c.toNat<192)
def is1:List UInt8->Bool
 | a::_=>decide (a.toNat<128)
 | _=>false
def is2:List UInt8->Bool
 | a::b::_=>decide (194<=a.toNat/\a.toNat<224/\cont b=true)
 | _=>false
def is3:List UInt8->Bool
 | a::b::c::_=>decide (224<=a.toNat/\a.toNat<240/\cont b=true/\cont c=true/\(a.toNat=224->160<=b.toNat)/\(a.toNat=237->b.toNat<160))
 | _=>false
def is4:List UInt8->Bool
 | a::b::c::d::_=>decide (240<=a.toNat/\a.toNat<245/\cont b=true/\cont c=true/\cont d=true/\(a.toNat=240->144<=b.toNat)/\(a.toNat=244->b.toNat<144))
 | _=>false
def nxt (l:List UInt8):Nat:=if is1 l then 1 else if is2 l then 2 else if is3 l then 3 else if is4 l then 4 else 0
theorem zqm (h:n<256):(UInt8.ofNat n=c)↔n=c.toNat:=by
 constructor
 ·intro e;rw [<-e,UInt8.toNat_ofNat'];omega
 ·intro e;rw [e,UInt8.ofNat_toNat]
theorem zDj (r:Int):zfM r=some (if r<0 then [] else cpB r.toNat):=by
 unfold zfM;by_cases h0:r<0
 ·rw [pS,xx h0]
 ·rw [xw h0];obtain ⟨n,rfl⟩:∃n:Nat,r=n:=⟨r.toNat,by omega⟩;rw [xX];unfold cpB cpN;by_cases h1:n<128
  ·rw [pT,pS,xx h1,zhY,zdO (n:=n) (by omega) (by omega)];rfl
  ·rw [xw h1];by_cases h2:n<2048
   ·rw [pT,pT,pS,xx h2];simp only [qx (show (0:Int)<=n by omega),yx (show (0:Int)<=n by omega),zhY];rw [zk (x:=(n:Int)/64) (by omega),pU,pU,zdO (n:=192+n/64) (by omega) (by omega),sb,zdO (n:=128+n%64) (by omega) (by omega)];rfl
   ·rw [xw h2];by_cases h3:n<65536
    ·rw [xx h3];by_cases h4:55296<=n/\n<=57343
     ·rw [pS,xx h4];rfl
     ·rw [pT,pT,pT,pS,xw h4];simp only [qx (show (0:Int)<=n by omega),yx (show (0:Int)<=n by omega),zhY]
      rw [zk (x:=(n:Int)/4096) (by omega),zk (x:=(n:Int)/64) (by omega),yx (by omega),pU,pU,pU,
       zdO (n:=224+n/4096) (by omega) (by omega),sb,zdO (n:=128+n/64%64) (by omega) (by omega),sb,zdO (n:=128+n%64) (by omega) (by omega)];rfl
    ·rw [xw h3];by_cases h4:n<=1114111
     ·rw [pT,pT,pT,pT,xx h4];simp only [qx (show (0:Int)<=n by omega),yx (show (0:Int)<=n by omega),zhY]
      rw [zk (x:=(n:Int)/262144) (by omega),zk (x:=(n:Int)/4096) (by omega),zk (x:=(n:Int)/64) (by omega),yx (by omega),yx (by omega),pU,pU,pU,pU,
       zdO (n:=240+n/262144) (by omega) (by omega),sb,zdO (n:=128+n/4096%64) (by omega) (by omega),sb,zdO (n:=128+n/64%64) (by omega) (by omega),sb,zdO (n:=128+n%64) (by omega) (by omega)];rfl
     ·rw [pS,xw h4];rfl
def zsT:Nat->List UInt8->Nat
 | 1,a::_=>a.toNat
 | 2,a::b::_=>64*(a.toNat%32)+b.toNat%64
 | 3,a::b::c::_=>64*(64*(a.toNat%16)+b.toNat%64)+c.toNat%64
 | 4,a::b::c::d::_=>64*(64*(64*(a.toNat%8)+b.toNat%64)+c.toNat%64)+d.toNat%64
 | _,_=>0
theorem map1 (h:∀x∈l,x<256):l.map UInt8.ofNat=[a]↔l=[a.toNat]:=by
 cases l with
 | nil=>simp
 | cons x l=>cases l with
  | nil=>simp only [xM,qw,yA,qk];exact zqm (h x (by simp))
  | cons y l=>simp
theorem map2 (h:∀x∈l,x<256):l.map UInt8.ofNat=[a,b]↔l=[a.toNat,b.toNat]:=by
 cases l with
 | nil=>simp
 | cons x l=>simp only [xM,yA,zqm (h x (by simp)),map1 (l:=l) fun y hy=>h y (by simp [hy])]
theorem map3 (h:∀x∈l,x<256):l.map UInt8.ofNat=[a,b,c]↔l=[a.toNat,b.toNat,c.toNat]:=by
 cases l with
 | nil=>simp
 | cons x l=>simp only [xM,yA,zqm (h x (by simp)),map2 (l:=l) fun y hy=>h y (by simp [hy])]
theorem map4 (h:∀x∈l,x<256):l.map UInt8.ofNat=[a,b,c,d]↔l=[a.toNat,b.toNat,c.toNat,d.toNat]:=by
 cases l with
 | nil=>simp
 | cons x l=>simp only [xM,yA,zqm (h x (by simp)),map3 (l:=l) fun y hy=>h y (by simp [hy])]
theorem zwh (r:Nat):∀x∈cpN r,x<256:=by
 intro x hx;unfold cpN at hx;split at hx
 ·simp at hx;omega
 ·split at hx
  ·simp at hx;omega
  ·split at hx
   ·split at hx
    ·cases hx
    ·simp at hx;omega
   ·split at hx
    ·simp at hx;omega
    ·cases hx
theorem cpB1 (a:UInt8):cpB a.toNat=[a]↔a.toNat<128:=by
 have ha:=a.toNat_lt;unfold cpB;rw [map1 (zwh _)];unfold cpN;by_cases h:a.toNat<128
 ·simp [h]
 ·rw [xw h,xx (by omega)];simp;omega
theorem cpB2 (a b:UInt8):cpB (64*(a.toNat%32)+b.toNat%64)=[a,b]↔194<=a.toNat/\a.toNat<224/\cont b=true:=by
 have ha:=a.toNat_lt;have hb:=b.toNat_lt;unfold cpB cont;rw [map2 (zwh _)];unfold cpN;by_cases h:64*(a.toNat%32)+b.toNat%64<128
 ·rw [xx h];simp;omega
 ·rw [xw h,xx (by omega)];simp;omega
theorem cpB3 (a b c:UInt8):cpB (64*(64*(a.toNat%16)+b.toNat%64)+c.toNat%64)=[a,b,c]↔224<=a.toNat/\a.toNat<240/\cont b=true/\cont c=true/\(a.toNat=224->160<=b.toNat)/\(a.toNat=237->b.toNat<160):=by
 have ha:=a.toNat_lt;have hb:=b.toNat_lt;have hc:=c.toNat_lt;unfold cpB cont;rw [map3 (zwh _)];unfold cpN;by_cases h:64*(64*(a.toNat%16)+b.toNat%64)+c.toNat%64<128
 ·rw [xx h];simp;omega
 ·rw [xw h];by_cases h2:64*(64*(a.toNat%16)+b.toNat%64)+c.toNat%64<2048
  ·rw [xx h2];simp;omega
  ·rw [xw h2,xx (by omega)];by_cases h3:55296<=64*(64*(a.toNat%16)+b.toNat%64)+c.toNat%64/\64*(64*(a.toNat%16)+b.toNat%64)+c.toNat%64<=57343
   ·rw [xx h3];simp;omega
   ·rw [xw h3];simp;omega
theorem cpB4 (a b c d:UInt8):cpB (64*(64*(64*(a.toNat%8)+b.toNat%64)+c.toNat%64)+d.toNat%64)=[a,b,c,d]↔
  240<=a.toNat/\a.toNat<245/\cont b=true/\cont c=true/\cont d=true/\(a.toNat=240->144<=b.toNat)/\(a.toNat=244->b.toNat<144):=by
 have ha:=a.toNat_lt;have hb:=b.toNat_lt;have hc:=c.toNat_lt;have hd:=d.toNat_lt;unfold cpB cont;rw [map4 (zwh _)];unfold cpN;by_cases h:64*(64*(64*(a.toNat%8)+b.toNat%64)+c.toNat%64)+d.toNat%64<65536
 ·have:∀l:List Nat,l.length<=3->(l=[a.toNat,b.toNat,c.toNat,d.toNat])=False:=fun l hl=>by simp only [eq_iff_iff,iff_false];intro e;rw [e] at hl;simp at hl
  rw [xx h];split
  ·rw [this _ (by simp)];simp;omega
  ·split
   ·rw [this _ (by simp)];simp;omega
   ·split
    ·rw [this _ (by simp)];simp;omega
    ·rw [this _ (by simp)];simp;omega
 ·rw [xw (by omega),xw (by omega),xw h];by_cases h2:64*(64*(64*(a.toNat%8)+b.toNat%64)+c.toNat%64)+d.toNat%64<=1114111
  ·rw [xx h2];simp;omega
  ·rw [xw h2];simp;omega
def isN (n:Nat) (l:List UInt8):Bool:=match n with
 | 1=>is1 l
 | 2=>is2 l
 | 3=>is3 l
 | 4=>is4 l
 | _=>false
theorem zAg (n:Nat) (l:List UInt8) (h1:1<=n) (h4:n<=4) (hl:n<=l.length):cpB (zsT n l)=l.take n↔isN n l=true:=by
 match n,l,h1,h4,hl with
 | 1,a::t,_,_,_=>simp only [zsT,yJ,yu,cpB1,isN,is1,xP]
 | 2,a::b::t,_,_,_=>simp only [zsT,yJ,yu,cpB2,isN,is2,xP]
 | 3,a::b::c::t,_,_,_=>simp only [zsT,yJ,yu,cpB3,isN,is3,xP]
 | 4,a::b::c::d::t,_,_,_=>simp only [zsT,yJ,yu,cpB4,isN,is4,xP]
theorem zAh (n:Nat) (l:List UInt8) (h:l.length<n):isN n l=false:=by
 match n,l with
 | 0,_=>rfl
 | 1,[]=>rfl
 | 2,[]=>rfl
 | 2,[_]=>rfl
 | 3,[]=>rfl
 | 3,[_]=>rfl
 | 3,[_,_]=>rfl
 | 4,[]=>rfl
 | 4,[_]=>rfl
 | 4,[_,_]=>rfl
 | 4,[_,_,_]=>rfl
 | n+5,_=>rfl
 | 1,_::_=>simp at h
 | 2,_::_::_=>simp at h;omega
 | 3,_::_::_::_=>simp at h;omega
 | 4,_::_::_::_::_=>simp at h;omega
theorem zoF {b:List UInt8} {a n i r:Nat} (hb:b.length<=1152921504606846976) (hn:n<=4) (h:i<n) (ha:a+i<b.length) (hr:r<=1000000000):
  zbm a b n r i=zbm a b n ((64*r+(b[a+i]).toNat%64:Nat):Int) ((i+1:Nat):Int):=by
 refine zlr ?_;unfold zbl;have hc:=(b[a+i]).toNat_lt;rw [pS,pU,zJ (show (a:Int)+i=((a+i:Nat):Int) by push_cast;rfl) ha,sb];simp (disch:=omega) only [zk,yx];push_cast;rfl
theorem zwt (h:n<=i):zbm a b n r i=some (r:Int):=by
 refine zls ?_;unfold zbl;rw [pT]
theorem zkd {b:List UInt8} {a i:Nat} {c:UInt8} (h:(b.drop a)[i]? =some c):∃h:a+i<b.length,b[a+i]=c:=by
 rw [qe] at h;exact yk.1 h
theorem zGQ {b:List UInt8} {a n:Nat} {c:UInt8} {t:List UInt8} (hb:b.length<=1152921504606846976) (hl:b.drop a=c::t) (h1:1<=n) (h4:n<=4) (hn:n<=(b.drop a).length):
  zbm a b n ((if 1<n then c.toNat%([0,0,32,16,8].getD n 0) else c.toNat:Nat):Int) (1:Nat)=some ((zsT n (b.drop a):Nat):Int):=by
 have hc:=c.toNat_lt;rw [hl] at hn
 match n,t,h1,h4,hn with
 | 1,t,_,_,_=>rw [zwt (by omega),hl];rfl
 | 2,x::t,_,_,_=>
  obtain ⟨g1,e1⟩:=zkd (b:=b) (a:=a) (i:=1) (c:=x) (by rw [hl];rfl);rw [xx (by omega),zoF hb (by omega) (by omega) g1 (by simp;omega),zwt (by omega),hl,e1];rfl
 | 3,x::y::t,_,_,_=>
  obtain ⟨g1,e1⟩:=zkd (b:=b) (a:=a) (i:=1) (c:=x) (by rw [hl];rfl);obtain ⟨g2,e2⟩:=zkd (b:=b) (a:=a) (i:=2) (c:=y) (by rw [hl];rfl);have hx:=x.toNat_lt;rw [xx (by omega),zoF hb (by omega) (by omega) g1 (by simp;omega),zoF hb (by omega) (by omega) g2 (by simp;omega),zwt (by omega),hl,e1,e2];rfl
 | 4,x::y::z::t,_,_,_=>
  obtain ⟨g1,e1⟩:=zkd (b:=b) (a:=a) (i:=1) (c:=x) (by rw [hl];rfl);obtain ⟨g2,e2⟩:=zkd (b:=b) (a:=a) (i:=2) (c:=y) (by rw [hl];rfl);obtain ⟨g3,e3⟩:=zkd (b:=b) (a:=a) (i:=3) (c:=z) (by rw [hl];rfl);have hx:=x.toNat_lt;have hy:=y.toNat_lt;rw [xx (by omega),zoF hb (by omega) (by omega) g1 (by simp;omega),zoF hb (by omega) (by omega) g2 (by simp;omega),zoF hb (by omega) (by omega) g3 (by simp;omega),zwt (by omega),hl,e1,e2,e3];rfl
theorem zFj {b:List UInt8} {a n:Nat} (hb:b.length<=1152921504606846976) (ha:a<=b.length) (h1:1<=n) (h5:n<=5):
  zbF a b n=if isN n (b.drop a) then some (.inr (.inr (n:Int))) else if n<=4/\n<=(b.drop a).length then some (.inl ((n+1:Nat):Int)) else some (.inr (.inl ())):=by
 have hdl:(b.drop a).length=b.length - a:=by simp
 unfold zbF;by_cases h:n<=4/\n<=(b.drop a).length
 ·rw [xx h,pU,pS];obtain ⟨c,t,hl⟩:∃c t,b.drop a=c::t:=by
   cases hh:b.drop a with
   | nil=>rw [hh] at h;simp at h;omega
   | cons c t=>exact ⟨c,t,rfl⟩
  obtain ⟨g0,e0⟩:=zkd (b:=b) (a:=a) (i:=0) (c:=c) (by rw [hl];rfl);have hc:=c.toNat_lt;rw [zJ rfl (show a<b.length by omega),sb];have e0':b[a]'(by omega)=c:=by simpa using e0
  rw [e0',pU];have hp:(if (decide ((n:Int)>1))=true then (idx ([0,0,32,16,8]:(List Int)) (n:Int)>>=fun x2=>remI (c.toNat:Int) x2>>=fun v3=>some v3) else some (c.toNat:Int))=some (((if 1<n then c.toNat%([0,0,32,16,8].getD n 0) else c.toNat:Nat)):Int):=by
   match n,h1,h.1 with
   | 1,_,_=>rfl
   | 2,_,_=>rfl
   | 3,_,_=>rfl
   | 4,_,_=>rfl
  rw [hp,sb];have h2:=zGQ hb hl h1 h.1 h.2;have h2':zbm a b n ((if 1<n then c.toNat%([0,0,32,16,8].getD n 0) else c.toNat:Nat):Int) 1=some ((zsT n (b.drop a):Nat):Int):=h2;rw [h2',sb,zDj,sb,xw (by omega),xX,znx rfl (show (a:Int)+n=((a+n:Nat):Int) by push_cast;rfl) (by omega) (by omega),sb,pK];by_cases hi:isN n (b.drop a)=true
  ·rw [xx hi,itT (by simpa using (zAg n _ h1 h.1 h.2).2 hi)]
  ·rw [xw hi,itF (by simpa using fun e=>hi ((zAg n _ h1 h.1 h.2).1 e)),pU];rfl
 ·have hn:isN n (b.drop a)=false:=by
   by_cases h4:n<=4
   ·exact zAh _ _ (by omega)
   ·have:n=5:=by omega
    subst this;rfl
  rw [xw h,hn,pU,pT];rfl
theorem ztM {b:List UInt8} {a:Nat} (hb:b.length<=1152921504606846976) (ha:a<=b.length):zfl b a=some ((nxt (b.drop a):Nat):Int):=by
 have key:∀(k n:Nat),n+k=5->1<=n->(∀j,1<=j->j<n->isN j (b.drop a)=false)->∃q,zcV a b n=some q/\(match q with| .inl _=>(0:Int)| .inr u=>u)=((nxt (b.drop a):Nat):Int):=by
  intro k
  induction k with
  | zero=>
   intro n hn h1 hj;have:n=5:=by omega
   subst this;refine ⟨.inl (),zfy ?_,?_⟩
   ·rw [zFj hb ha h1 (by omega),xw (by simp [isN]),xw (by omega)]
   ·have j1:=hj 1 (by omega) (by omega);have j2:=hj 2 (by omega) (by omega);have j3:=hj 3 (by omega) (by omega);have j4:=hj 4 (by omega) (by omega);simp only [isN] at j1 j2 j3 j4;simp [nxt,j1,j2,j3,j4]
  | succ k ih=>
   intro n hn h1 hj;have hb1:=zFj hb ha h1 (show n<=5 by omega);by_cases hi:isN n (b.drop a)=true
   ·rw [xx hi] at hb1;refine ⟨.inr n,zfy hb1,?_⟩;have e:nxt (b.drop a)=n:=by
     match n,h1,(show n<=4 by omega),hi,hj with
     | 1,_,_,hi,_=>simp only [isN] at hi;simp [nxt,hi]
     | 2,_,_,hi,hj=>have j1:=hj 1 (by omega) (by omega);simp only [isN] at hi j1;simp [nxt,hi,j1]
     | 3,_,_,hi,hj=>have j1:=hj 1 (by omega) (by omega);have j2:=hj 2 (by omega) (by omega);simp only [isN] at hi j1 j2;simp [nxt,hi,j1,j2]
     | 4,_,_,hi,hj=>have j1:=hj 1 (by omega) (by omega);have j2:=hj 2 (by omega) (by omega);have j3:=hj 3 (by omega) (by omega);simp only [isN] at hi j1 j2 j3;simp [nxt,hi,j1,j2,j3]
    simp only [e]
   ·rw [xw hi] at hb1;by_cases hl:n<=4/\n<=(b.drop a).length
    ·rw [xx hl] at hb1;obtain ⟨q,h2,h3⟩:=ih (n+1) (by omega) (by omega) fun j g1 g2=>by
      by_cases he:j=n
      ·subst he;simpa using hi
      ·exact hj j g1 (by omega)
     exact ⟨q,(zlq hb1).trans h2,h3⟩
    ·rw [xw hl] at hb1;refine ⟨.inl (),zfy hb1,?_⟩;have hall:∀j,1<=j->isN j (b.drop a)=false:=fun j g1=>by
      by_cases g2:j<n
      ·exact hj j g1 g2
      ·by_cases g3:j<=4
       ·exact zAh _ _ (by omega)
       ·match j,g3 with
        | j+5,_=>rfl
     have j1:=hall 1 (by omega);have j2:=hall 2 (by omega);have j3:=hall 3 (by omega);have j4:=hall 4 (by omega);simp only [isN] at j1 j2 j3 j4;simp [nxt,j1,j2,j3,j4]
 obtain ⟨q,h1,h2⟩:=key 4 1 rfl (by omega) fun j g1 g2=>by omega
 unfold zfl;have h1':zcV a b 1=some q:=h1;rw [h1',sb,<-h2];cases q<;>rfl
theorem zkl (h:isN n l=true):∃a t,l=a::t/\n<=l.length/\(n=1/\a.toNat<128\/n=2/\194<=a.toNat/\a.toNat<224\/n=3/\224<=a.toNat/\a.toNat<240\/n=4/\240<=a.toNat):=by
 match n,l with
 | 1,a::t=>simp only [isN,is1,xP] at h;exact ⟨a,t,rfl,by simp,.inl ⟨rfl,h⟩⟩
 | 2,a::b::t=>simp only [isN,is2,xP] at h;exact ⟨a,_,rfl,by simp,.inr (.inl ⟨rfl,h.1,h.2.1⟩)⟩
 | 3,a::b::c::t=>simp only [isN,is3,xP] at h;exact ⟨a,_,rfl,by simp,.inr (.inr (.inl ⟨rfl,h.1,h.2.1⟩))⟩
 | 4,a::b::c::d::t=>simp only [isN,is4,xP] at h;exact ⟨a,_,rfl,by simp,.inr (.inr (.inr ⟨rfl,h.1⟩))⟩
 | 0,_=>cases h
 | 1,[]=>cases h
 | 2,[]=>cases h
 | 2,[_]=>cases h
 | 3,[]=>cases h
 | 3,[_]=>cases h
 | 3,[_,_]=>cases h
 | 4,[]=>cases h
 | 4,[_]=>cases h
 | 4,[_,_]=>cases h
 | 4,[_,_,_]=>cases h
 | _+5,_=>cases h
theorem zEo (h:isN n l=true) (h':isN m l=true):n=m:=by
 obtain ⟨a,t,e,_,g⟩:=zkl h;obtain ⟨a',t',e',_,g'⟩:=zkl h';rw [e] at e';cases e';omega
theorem zGp (h:isN n l=true):nxt l=n:=by
 obtain ⟨_,_,_,_,g⟩:=zkl h;have k:∀m,m≠n->isN m l=false:=fun m hm=>by
  cases hh:isN m l with
  | false=>rfl
  | true=>exact absurd (zEo hh h) hm
 have hn:n=1\/n=2\/n=3\/n=4:=by omega
 rcases hn with rfl| rfl| rfl| rfl
 ·simp only [isN] at h;simp [nxt,h]
 ·have j1:=k 1 (by omega);simp only [isN] at h j1;simp [nxt,h,j1]
 ·have j1:=k 1 (by omega);have j2:=k 2 (by omega);simp only [isN] at h j1 j2;simp [nxt,h,j1,j2]
 ·have j1:=k 1 (by omega);have j2:=k 2 (by omega);have j3:=k 3 (by omega);simp only [isN] at h j1 j2 j3;simp [nxt,h,j1,j2,j3]
theorem zsy (h:nxt l≠0):isN (nxt l) l=true:=by
 unfold nxt at h|-;by_cases h1:is1 l=true
 ·simp [h1,isN]
 ·by_cases h2:is2 l=true
  ·simp [h1,h2,isN]
  ·by_cases h3:is3 l=true
   ·simp [h1,h2,h3,isN]
   ·by_cases h4:is4 l=true
    ·simp [h1,h2,h3,h4,isN]
    ·simp [h1,h2,h3,h4] at h
theorem zpw (l:List UInt8):nxt l<=l.length:=by
 by_cases h:nxt l=0
 ·omega
 ·obtain ⟨_,_,_,g,_⟩:=zkl (zsy h);exact g
theorem zwC (l:List UInt8):nxt l<=4:=by
 by_cases h:nxt l=0
 ·omega
 ·obtain ⟨_,_,_,_,g⟩:=zkl (zsy h);omega
def fst4 (m:Int) (l:List UInt8):Nat×Nat:=
 if h:nxt l=0\/(nxt l:Int)>m then (0,0) else (nxt l+(fst4 (m - nxt l) (l.drop (nxt l))).1,(fst4 (m - nxt l) (l.drop (nxt l))).2+1)
termination_by l.length
decreasing_by all_goals (have:=zpw l;simp only [yn];omega)
theorem zoB (h:nxt l=0\/(nxt l:Int)>m):fst4 m l=(0,0):=by rw [fst4,dif_pos h]
theorem zsp (h:¬(nxt l=0\/(nxt l:Int)>m)):fst4 m l=(nxt l+(fst4 (m - nxt l) (l.drop (nxt l))).1,(fst4 (m - nxt l) (l.drop (nxt l))).2+1):=by rw [fst4,dif_neg h]
theorem zCr (P:Int->List UInt8->Prop) (h0:∀m l,(nxt l=0\/(nxt l:Int)>m)->P m l) (h1:∀m l,¬(nxt l=0\/(nxt l:Int)>m)->P (m - nxt l) (l.drop (nxt l))->P m l) (m:Int) (l:List UInt8):P m l:=by
 generalize hn:l.length=n
 induction n using Nat.strongRecOn generalizing m l with
 | _ n ih=>
  by_cases h:nxt l=0\/(nxt l:Int)>m
  ·exact h0 m l h
  ·have:=zpw l;exact h1 m l h (ih _ (by simp only [yn];omega) _ _ rfl)
theorem zuH {b:List UInt8} (hb:b.length<=140737488355328) (wd:Int) (m:Int) (l:List UInt8):∀(a c:Nat),c<=a->a<=b.length->l=b.drop a->m=wd - a->
  zbR b wd a c=some (((a+(fst4 m l).1:Nat):Int),((c+(fst4 m l).2:Nat):Int)):=by
 refine zCr (fun m l=>∀(a c:Nat),c<=a->a<=b.length->l=b.drop a->m=wd - a->zbR b wd a c=some (((a+(fst4 m l).1:Nat):Int),((c+(fst4 m l).2:Nat):Int))) ?_ ?_ m l
 ·intro m l h a c hc ha hl hm;subst hl hm;have h4:=zwC (b.drop a);refine zkH ?_;unfold zaR;rw [ztM (by omega) ha,sb,pU,pS,zoB h];rfl
 ·intro m l h ih a c hc ha hl hm;subst hl hm;have h4:=zwC (b.drop a);have hle:=zpw (b.drop a);simp only [yn] at hle;refine (zkG (atv':=((a+nxt (b.drop a):Nat):Int)) (count':=((c+1:Nat):Int)) ?_).trans ?_
  ·unfold zaR;rw [ztM (by omega) ha,sb,pU,pT,pU];rfl
  ·rw [ih (a+nxt (b.drop a)) (c+1) (by omega) (by omega) (by rw [qa]) (by omega),zsp h];simp only [qq,pd 1]
theorem zyt (hb:b.length<=140737488355328) (wd:Int):zeK b wd=some (((fst4 wd b).1:Int),((fst4 wd b).2:Int)):=by
 unfold zeK;have h:=zuH hb wd wd b 0 0 (xB _) (ya _) rfl (by omega);simp only [xH] at h;have h':zbR b wd 0 0=some (((fst4 wd b).1:Int),((fst4 wd b).2:Int)):=h;rw [h',sb]
def pre4 (l:List UInt8):Nat×Nat:=fst4 l.length l
theorem zCq (h:(l.length:Int)<=m):fst4 m l=pre4 l:=by
 have key:∀(n:Nat) (l:List UInt8) (m m':Int),l.length=n->(l.length:Int)<=m->(l.length:Int)<=m'->fst4 m l=fst4 m' l:=by
  intro n
  induction n using Nat.strongRecOn with
  | _ n ih=>
   intro l m m' hn hm hm';have hle:=zpw l;by_cases h:nxt l=0
   ·rw [zoB (.inl h),zoB (.inl h)]
   ·rw [zsp (m:=m) (l:=l) (by omega),zsp (m:=m') (l:=l) (by omega),ih _ (by simp only [yn];omega) (l.drop (nxt l)) (m - nxt l) (m' - nxt l) rfl (by simp only [yn];omega) (by simp only [yn];omega)]
 exact key _ l m l.length rfl h (Int.le_refl _)
theorem zBw (h:nxt l=0):pre4 l=(0,0):=zoB (.inl h)
theorem zEL (h:nxt l≠0):pre4 l=(nxt l+(pre4 (l.drop (nxt l))).1,(pre4 (l.drop (nxt l))).2+1):=by
 have hle:=zpw l;unfold pre4;rw [zsp (by omega),zCq (m:=(l.length:Int) - nxt l) (by simp only [yn];omega)];rfl
theorem zDd (P:List UInt8->Prop) (h0:∀l,nxt l=0->P l) (h1:∀l,nxt l≠0->P (l.drop (nxt l))->P l) (l:List UInt8):P l:=by
 generalize hn:l.length=n
 induction n using Nat.strongRecOn generalizing l with
 | _ n ih=>
  by_cases h:nxt l=0
  ·exact h0 l h
  ·have:=zpw l;exact h1 l h (ih _ (by simp only [yn];omega) _ rfl)
def zit (l:List UInt8):Bool:=decide ((pre4 l).1=l.length)
theorem zwI (hb:b.length<=140737488355328):zeL b=some (zit b):=by
 unfold zeL;rw [zyt hb,sb];unfold zit pre4;by_cases h:(fst4 (b.length:Int) b).1=b.length
 ·simp [h]
 ·have h2:¬(((fst4 (b.length:Int) b).1:Int)=b.length):=by omega
  simp [h,h2]
def enc (v:Nat):List UInt8:=if v<128 then [UInt8.ofNat v] else UInt8.ofNat (128+v%128)::enc (v/128)
termination_by v
decreasing_by omega
def scan:Nat->Nat->List UInt8->Unit⊕(Int×Int×Int)
 | _,_,[]=> .inl ()
 | i,acc,c::t=>if i=9/\1<c.toNat then .inr (0,0,4) else if c.toNat<128 then .inr (((acc+c.toNat%128*128^i:Nat):Int),((i+1:Nat):Int),0) else scan (i+1) (acc+c.toNat%128*128^i) t
def rdR:Unit⊕(Int×Int×Int)->Int×Int×Int
 | .inl _=>(0,0,3)
 | .inr r=>r
def rd (b:List UInt8):Int×Int×Int:=rdR (scan 0 0 (b.take 10))
def hor:List UInt8->Nat
 | []=>0
 | c::t=>c.toNat%128+128*hor t
def lead:Nat->List UInt8->Nat
 | 0,_=>0
 | _+1,[]=>0
 | k+1,c::t=>if 128<=c.toNat then lead k t+1 else 0
theorem zFJ (i:Nat):2^(7*i)=128^i:=by rw [Nat.pow_mul]
theorem zEc (c:Nat):c&&&127=c%128:=pN c 7
theorem zBA {acc i c:Nat} (hi:i<=9) (hacc:acc<128^i) (hc:c<256) (h9:i=9->c<=1):
  orI .u64 (acc:Int) (shlI .u64 (u64.wrap (andI .u8 (c:Int) 127)) ((7*i:Nat):Int))=((acc+c%128*128^i:Nat):Int):=by
 have e1:andI .u8 (c:Int) 127=((c%128:Nat):Int):=by
  have:=zxi (k:= .u8) rfl (a:=c) (b:=127) (by simpa [IntKind.bits] using hc) (by simp [IntKind.bits]);rw [zEc] at this;exact this
 have hp:128^i<=128^9:=pi (by omega) hi;have vY:c%128*128^i<18446744073709551616:=by
  by_cases h:i=9
  ·subst h;have:=h9 rfl;have h2:c%128<=1:=by omega
   have:=yg (128^9) h2;omega
  ·have h3:128^i<=128^8:=pi (by omega) (by omega);have:=Nat.mul_le_mul (show c%128<=127 by omega) h3;omega
 have e2:shlI .u64 (u64.wrap ((c%128:Nat):Int)) ((7*i:Nat):Int)=((c%128*128^i:Nat):Int):=by
  unfold shlI;rw [zqP rfl (by simp [IntKind.bits];omega),xX,yX (by simp [IntKind.bits];omega)];have h4:((c%128:Nat):Int)*2^(7*i)=((c%128*128^i:Nat):Int):=by rw [<-zFJ];push_cast;rfl
  rw [h4];exact zqP rfl (by simpa [IntKind.bits] using vY)
 rw [e1,e2,zsz rfl (by simp [IntKind.bits];omega) (by simpa [IntKind.bits] using vY)];congr 1;rw [<-zFJ] at hacc|-;exact ztB _ _ _ hacc
theorem zBz:∀(t:List UInt8) (v:List UInt8) (i acc:Nat),v.drop i=t->i+t.length=v.length->v.length<=10->acc<128^i->zfU v acc i=some (scan i acc t):=by
 intro t
 induction t with
 | nil=>
  intro v i acc _ hl _ _;refine zhq ?_;unfold zcK;rw [itF (by simp at hl|-;omega)];rfl
 | cons c t ih=>
  intro v i acc hd hl hv hacc;simp only [xY] at hl;have hget:v[i]'(by omega)=c:=by
   have h1:v.drop i=v[i]'(by omega)::v.drop (i+1):=yb (by omega);rw [hd] at h1;exact (List.cons.inj h1).1.symm
  have hd':v.drop (i+1)=t:=by rw [<-qa,hd];rfl
  have hc:=c.toNat_lt;have hb:zcK v acc i=if i=9/\1<c.toNat then some (.inr (.inr (0,0,4))) else if c.toNat<128 then some (.inr (.inr (((acc+c.toNat%128*128^i:Nat):Int),((i+1:Nat):Int),0))) else some (.inl (((acc+c.toNat%128*128^i:Nat):Int),((i+1:Nat):Int))):=by
   unfold zcK;rw [pS,zJ rfl (show i<v.length by omega),sb,hget];by_cases h9:i=9/\1<c.toNat
   ·rw [xx h9,pS]
   ·rw [xw h9,pT,pU];have e:((7:Int)*(i:Int))=((7*i:Nat):Int):=by push_cast;rfl
    rw [e,zDw,sb,zBA (by omega) hacc (by omega) (by omega),pU];by_cases h8:c.toNat<128
    ·rw [xx h8,pS];push_cast;rfl
    ·rw [xw h8,pT];push_cast;rfl
  rw [scan];split at hb
  ·rename_i h9;rw [xx h9];exact zhq hb
  ·rename_i h9;rw [xw h9];split at hb
   ·rename_i h8;rw [xx h8];exact zhq hb
   ·rename_i h8;rw [xw h8,zpP hb];refine ih v (i+1) _ hd' (by omega) hv ?_;rw [yC];have:=yg (128^i) (show c.toNat%128<=127 by omega);omega
theorem zwE (b:List UInt8):zfY b=some (rd b):=by
 unfold zfY rd;have e:(if (10:Int)<(b.length:Int) then (10:Int) else (b.length:Int))=((min 10 b.length:Nat):Int):=by split<;>omega
 have e2:b.take (min 10 b.length)=b.take 10:=by rw [List.take_eq_take_iff];omega
 rw [e,zxy rfl (by omega),sb,e2];have h:=zBz (b.take 10) (b.take 10) 0 0 rfl (by simp) (by simp;omega) (by simp);have h':zfU (b.take 10) 0 0=some (scan 0 0 (b.take 10)):=h;rw [h',sb];cases scan 0 0 (b.take 10)<;>rfl
theorem zES (b:List UInt8):zjf b=some ((rd b).2.1,(rd b).2.2):=by unfold zjf;rw [zwE,sb]
theorem zwv:∀(k:Nat) (l:List UInt8),lead k l<=k/\lead k l<=l.length
 | 0,_=>⟨xB _,ya _⟩
 | _+1,[]=>⟨ya _,xB _⟩
 | k+1,c::t=>by
  have:=zwv k t;rw [lead];split<;>simp<;>omega
theorem zvI:∀(l:List UInt8) (i acc:Nat),i+l.length<=10->i<=9->
  scan i acc l=if i+lead (10 - i) l=10 then .inr (0,0,4) else if lead (10 - i) l=l.length then .inl () else if i+lead (10 - i) l=9/\1<(l.getD (lead (10 - i) l) 0).toNat then .inr (0,0,4) else
   .inr (((acc+hor (l.take (lead (10 - i) l+1))*128^i:Nat):Int),((i+lead (10 - i) l+1:Nat):Int),0):=by
 intro l
 induction l with
 | nil=>
  intro i acc _ hi;obtain ⟨k,hk⟩:∃k,10 - i=k+1:=⟨9 - i,by omega⟩;rw [hk];simp only [lead,scan,yU];rw [xw (by omega),xx trivial]
 | cons c t ih=>
  intro i acc hl hi;obtain ⟨k,hk⟩:∃k,10 - i=k+1:=⟨9 - i,by omega⟩;simp only [xY] at hl;rw [scan];by_cases hc:128<=c.toNat
  ·have e:lead (10 - i) (c::t)=lead k t+1:=by rw [hk,lead,xx hc]
   rw [e];by_cases h9:i=9
   ·have:k=0:=by omega
    subst this;rw [xx ⟨h9,by omega⟩,lead,xx (by omega)]
   ·rw [xw (by omega),xw (by omega),ih (i+1) _ (by omega) (by omega),show 10 - (i+1)=k by omega];by_cases h1:i+1+lead k t=10
    ·rw [xx h1,xx (show i+(lead k t+1)=10 by omega)]
    ·rw [xw h1,xw (show ¬i+(lead k t+1)=10 by omega)];by_cases h2:lead k t=t.length
     ·rw [xx h2,xx (show lead k t+1=(c::t).length by simp;omega)]
     ·rw [xw h2,xw (show ¬lead k t+1=(c::t).length by simp;omega)];have eg:(c::t).getD (lead k t+1) 0=t.getD (lead k t) 0:=by simp [List.getD]
      rw [eg];by_cases h3:i+1+lead k t=9/\1<(t.getD (lead k t) 0).toNat
      ·rw [xx h3,xx (show i+(lead k t+1)=9/\1<(t.getD (lead k t) 0).toNat by omega)]
      ·rw [xw h3,xw (show ¬(i+(lead k t+1)=9/\1<(t.getD (lead k t) 0).toNat) by omega)];rw [yJ,hor,yC];have e5:acc+c.toNat%128*128^i+hor (t.take (lead k t+1))*(128^i*128)=acc+(c.toNat%128+128*hor (t.take (lead k t+1)))*128^i:=by
        rw [q9,qm 128,yP (128^i) 128,<-qm,yP _ 128,qm];omega
       rw [e5];congr 3;omega
  ·have e:lead (10 - i) (c::t)=0:=by rw [hk,lead,xw hc]
   rw [e];simp only [yw,xY,List.getD_cons_zero];rw [xw (show ¬i=10 by omega),xw (show ¬0=t.length+1 by omega)];by_cases h9:i=9/\1<c.toNat
   ·rw [xx h9,xx h9]
   ·rw [xw h9,xw h9,xx (show c.toNat<128 by omega)];simp [hor]
theorem ztg (x y:List UInt8):hor (x++y)=hor x+128^x.length*hor y:=by
 induction x with
 | nil=>simp [hor]
 | cons c t ih=>simp only [yo,hor,ih,xY,yC,Nat.mul_add];rw [yP (128^t.length) 128,qm];omega
theorem zCt (l:List UInt8):hor l<128^l.length:=by
 induction l with
 | nil=>simp [hor]
 | cons c t ih=>simp only [hor,xY,yC];omega
theorem zCs (l:List UInt8) (j:Nat):hor (l.drop j)<=hor l:=by
 induction l generalizing j with
 | nil=>simp
 | cons c t ih=>
  cases j with
  | zero=>exact xB _
  | succ j=>have:=ih j;simp only [List.drop_succ_cons,hor];omega
theorem zBB (b:List UInt8) (a:Nat) (hb:b.length<=1152921504606846976):∀(k n:Nat),n+k=10->a+n<=b.length->zcT a b n=some ((n+lead k (b.drop (a+n)):Nat):Int):=by
 intro k
 induction k with
 | zero=>
  intro n hn ha;refine zfx ?_;unfold zaK;rw [pU];by_cases h1:a+n<b.length
  ·rw [pS,pT,sb,pQ];rfl
  ·rw [pT,sb,pQ];rfl
 | succ k ih=>
  intro n hn ha;by_cases h1:a+n<b.length
  ·have hd:b.drop (a+n)=b[a+n]::b.drop (a+(n+1)):=yb h1;have hbody:zaK a b n=if 128<=b[a+n].toNat then some (.inl ((n+1:Nat):Int)) else some (.inr (n:Int)):=by
    unfold zaK;rw [pU,pU,pS,pS,zJ (show (a:Int)+n=((a+n:Nat):Int) by push_cast;rfl) h1,sb,sb];by_cases h2:128<=b[a+n].toNat
    ·rw [xx h2,pS];push_cast;rfl
    ·rw [xw h2,pT]
   rw [hd,lead];by_cases h2:128<=b[a+n].toNat
   ·rw [xx h2] at hbody|-;rw [zln hbody,ih (n+1) (by omega) (by omega)];congr 2;omega
   ·rw [xw h2] at hbody|-;exact zfx hbody
  ·have hd:b.drop (a+n)=[]:=yh (by omega);rw [hd];refine zfx ?_;unfold zaK;rw [pU,pT,sb,pQ];rfl
theorem zBC (b:List UInt8) (a m:Nat) (hb:b.length<=1152921504606846976) (hm:a+m<=b.length) (hh:hor ((b.drop a).take m)<18446744073709551616):
  ∀(j:Nat),j<=m->zcU a b (hor (((b.drop a).take m).drop j)) ((j:Int) - 1)=some ((hor ((b.drop a).take m):Nat):Int):=by
 intro j
 induction j with
 | zero=>
  intro _;refine zlp ?_;unfold zbk;rw [pR];rfl
 | succ j ih=>
  intro hj;have hL:((b.drop a).take m).length=m:=by simp;omega
  have hd:((b.drop a).take m).drop j=((b.drop a).take m)[j]'(by omega)::((b.drop a).take m).drop (j+1):=yb (by omega);have hc:((b.drop a).take m)[j]'(by omega)=b[a+j]'(by omega):=by simp
  have h1:=zCs ((b.drop a).take m) j;rw [hd,hor,hc] at h1;have h2:=(b[a+j]'(by omega)).toNat_lt;refine (zlo (wv':=(hor (((b.drop a).take m).drop j):Nat)) (i':=(j:Int) - 1) ?_).trans (ih (by omega));unfold zbk;rw [itT (by simp),pU,zJ (show (a:Int)+(((j+1:Nat):Int) - 1)=((a+j:Nat):Int) by push_cast;omega) (by omega),sb,pU,hd,hor,hc];simp only [zdh];rw [yx (by omega)];congr 3
  ·omega
  ·push_cast;omega
theorem zDN (hn:n<=9) (hC:C<256) (h9:¬(n=9/\1<C)) (hX:X<128^n):X+128^n*(C%128)<18446744073709551616:=by
 by_cases h9':n=9
 ·subst h9';have:C%128<=1:=by omega
  have:=pn (128^9) this;omega
 ·have h5:128^n<=128^8:=pi (by omega) (by omega);have h6:C%128<=127:=by omega
  have:=Nat.mul_le_mul h5 h6;omega
theorem zzE (b:List UInt8) (a:Nat) (hb:b.length<=1152921504606846976) (ha:a<=b.length):zdn b a=some (rd (b.drop a)):=by
 unfold zdn;have h1:=zBB b a hb 10 0 rfl (by omega);simp only [xH,yw] at h1;have h1':zcT a b 0=some ((lead 10 (b.drop a):Nat):Int):=h1;rw [h1',sb];have hle:=zwv 10 (b.drop a);have wa:(b.drop a).length=b.length - a:=by simp
 -- the ten bytes that count
 have htake:∀(k:Nat) (l:List UInt8),lead k (l.take k)=lead k l:=by
  intro k
  induction k with
  | zero=>intro l;rfl
  | succ k ih=>intro l;cases l with
   | nil=>rfl
   | cons c t=>simp only [yJ,lead,ih]
 have hs:=zvI ((b.drop a).take 10) 0 0 (by simp;omega) (by omega);simp only [xH,q8,htake,Nat.pow_zero,Nat.mul_one] at hs;unfold rd;rw [hs];by_cases h10:lead 10 (b.drop a)=10
 ·rw [xx h10,pS];rfl
 ·rw [xw h10,pT,pU];by_cases hl:lead 10 (b.drop a)=(b.drop a).length
  ·rw [xx (show lead 10 (b.drop a)=((b.drop a).take 10).length by rw [ye];omega),pS];rfl
  ·rw [xw (show ¬lead 10 (b.drop a)=((b.drop a).take 10).length by rw [ye];omega),pT];have vY:a+lead 10 (b.drop a)<b.length:=by omega
   have hg:((b.drop a).take 10).getD (lead 10 (b.drop a)) 0=b[a+lead 10 (b.drop a)]:=by
    rw [qN,yI,xx (by omega),qe,xQ vY];rfl
   rw [hg,pc,yX (by omega)];have hc:=(b[a+lead 10 (b.drop a)]).toNat_lt;have hg2:(if (((lead 10 (b.drop a):Nat):Int)==9)=true then (idx b ((a:Int)+((lead 10 (b.drop a):Nat):Int))>>=fun x2=>some (decide ((x2.toNat:Int)>1))) else some false)=some (decide (lead 10 (b.drop a)=9/\1<(b[a+lead 10 (b.drop a)]).toNat)):=by
    by_cases h9:lead 10 (b.drop a)=9
    ·rw [pS,zJ (show (a:Int)+((lead 10 (b.drop a):Nat):Int)=((a+lead 10 (b.drop a):Nat):Int) by push_cast;rfl) vY,sb];congr 1;simp only [h9,yZ,yT];omega
    ·rw [pT];simp [h9]
   rw [hg2,sb];by_cases h9:lead 10 (b.drop a)=9/\1<(b[a+lead 10 (b.drop a)]).toNat
   ·rw [xx h9,itT (by simpa using h9)];rfl
   ·rw [xw h9,itF (xV h9)];have hbd:hor ((b.drop a).take (lead 10 (b.drop a)+1))<18446744073709551616:=by
     have hsp:(b.drop a).take (lead 10 (b.drop a)+1)=(b.drop a).take (lead 10 (b.drop a))++[b[a+lead 10 (b.drop a)]]:=by
      rw [List.take_add_one,qe,xQ vY];rfl
     rw [hsp,ztg];have h3:=zCt ((b.drop a).take (lead 10 (b.drop a)));have h4:((b.drop a).take (lead 10 (b.drop a))).length=lead 10 (b.drop a):=by simp;omega
     rw [h4] at h3|-;simp only [hor,Nat.mul_zero,yw];exact zDN (by omega) (by omega) h9 h3
    have h2:=zBC b a (lead 10 (b.drop a)+1) hb (by omega) hbd (lead 10 (b.drop a)+1) (xB _);have hz:((b.drop a).take (lead 10 (b.drop a)+1)).drop (lead 10 (b.drop a)+1)=[]:=yh (by simp;omega);rw [hz] at h2;have e3:(((lead 10 (b.drop a)+1:Nat):Int) - 1)=((lead 10 (b.drop a):Nat):Int):=by push_cast;omega
    rw [e3] at h2;have h2':zcU a b 0 ((lead 10 (b.drop a):Nat):Int)=some ((hor ((b.drop a).take (lead 10 (b.drop a)+1)):Nat):Int):=h2;rw [h2',sb,pU];simp [rdR]
theorem zvn:∀(k:Nat) (l:List UInt8),lead k (l.take k)=lead k l
 | 0,_=>rfl
 | _+1,[]=>rfl
 | k+1,c::t=>by simp only [yJ,lead,zvn k t]
theorem zvm:∀(k:Nat) (l:List UInt8),(∀y∈l.take (lead k l),128<=y.toNat)/\∀(h:lead k l<l.length),lead k l<k->(l[lead k l]).toNat<128
 | 0,_=>⟨fun y hy=>by simp [lead] at hy,fun _ h=>by omega⟩
 | _+1,[]=>⟨fun y hy=>by simp at hy,fun h=>by simp at h⟩
 | k+1,c::t=>by
  obtain ⟨h1,h2⟩:=zvm k t;by_cases hc:128<=c.toNat
  ·have e:lead (k+1) (c::t)=lead k t+1:=by rw [lead,xx hc]
   constructor
   ·rw [e,yJ];intro y hy;cases hy with
    | head=>exact hc
    | tail _ hy=>exact h1 y hy
   ·simp only [e,pF,xY];intro h hk;exact h2 (by omega) (by omega)
  ·have e:lead (k+1) (c::t)=0:=by rw [lead,xw hc]
   constructor
   ·rw [e];intro y hy;simp at hy
   ·simp only [e];intro _ _;simp;omega
theorem zym (b:List UInt8):rd b=(0,0,4)\/(rd b=(0,0,3)/\b.length<=9)\/
  ∃x c y,b=x++c::y/\(∀z∈x,128<=z.toNat)/\c.toNat<128/\x.length<=9/\hor (x++[c])<18446744073709551616/\rd b=(((hor (x++[c]):Nat):Int),((x.length+1:Nat):Int),0):=by
 have hle:=zwv 10 b;have hs:=zvI (b.take 10) 0 0 (by simp;omega) (by omega);simp only [xH,q8,zvn,Nat.pow_zero,Nat.mul_one] at hs;unfold rd;rw [hs];by_cases h10:lead 10 b=10
 ·rw [xx h10];exact .inl rfl
 ·rw [xw h10];by_cases hl:lead 10 b=(b.take 10).length
  ·rw [xx hl];refine .inr (.inl ⟨rfl,?_⟩);rw [ye] at hl;omega
  ·rw [xw hl];rw [ye] at hl;have vY:lead 10 b<b.length:=by omega
   have hg:(b.take 10).getD (lead 10 b) 0=b[lead 10 b]:=by
    rw [qN,yI,xx (by omega),xQ vY];rfl
   rw [hg,pc,yX (by omega)];have hc:=(b[lead 10 b]).toNat_lt;by_cases h9:lead 10 b=9/\1<(b[lead 10 b]).toNat
   ·rw [xx h9];exact .inl rfl
   ·rw [xw h9];obtain ⟨hf1,hf2⟩:=zvm 10 b;have hsp:b.take (lead 10 b+1)=b.take (lead 10 b)++[b[lead 10 b]]:=by
     rw [List.take_add_one,xQ vY];rfl
    have wa:(b.take (lead 10 b)).length=lead 10 b:=by rw [ye];omega
    refine .inr (.inr ⟨b.take (lead 10 b),b[lead 10 b],b.drop (lead 10 b+1),?_,hf1,hf2 vY (by omega),by omega,?_,?_⟩)
    ·rw [<-yb vY,px]
    ·rw [ztg];have h3:=zCt (b.take (lead 10 b));rw [wa] at h3|-;simp only [hor,Nat.mul_zero,yw];exact zDN (by omega) (by omega) h9 h3
    ·rw [hsp,wa];simp [rdR]
theorem zkg (h:v<128):enc v=[UInt8.ofNat v]:=by rw [enc,xx h]
theorem zqV (h:¬v<128):enc v=UInt8.ofNat (128+v%128)::enc (v/128):=by rw [enc,xw h]
theorem zsn:∀(v:Nat),(enc v).length=lenN v:=by
 intro v
 induction v using Nat.strongRecOn with
 | _ v ih=>
  by_cases h:v<128
  ·rw [zkg h,zjz h];rfl
  ·rw [zqV h,zkZ h,xY,ih _ (by omega)]
theorem zji {v:Nat} (h:v<18446744073709551616):1<=(enc v).length/\(enc v).length<=10:=by
 rw [zsn];exact ⟨zCP v,zto h⟩
theorem zDt:∀(v i acc:Nat) (more:List UInt8),v*128^i<18446744073709551616->scan i acc (enc v++more)= .inr (((acc+v*128^i:Nat):Int),((i+(enc v).length:Nat):Int),0):=by
 intro v
 induction v using Nat.strongRecOn with
 | _ v ih=>
  intro i acc more hv;have h9:i=9->v<=1:=fun h=>by
   subst h;by_cases h1:v<=1
   ·exact h1
   ·have:=yg (128^9) (show 2<=v by omega);omega
  by_cases h:v<128
  ·have e:(UInt8.ofNat v).toNat=v:=by simp;omega
   rw [zkg h,List.singleton_append,scan,e,xw (by omega),xx h,qf h];rfl
  ·have e:(UInt8.ofNat (128+v%128)).toNat=128+v%128:=by simp;omega
   rw [zqV h,yo,scan,e,xw (by omega),xw (by omega)];have h2:v/128*128^(i+1)<=v*128^i:=by
    rw [yC,yP (128^i) 128,<-qm];exact yg _ (by omega)
   rw [ih (v/128) (by omega) (i+1) _ _ (by omega)];have e3:acc+(128+v%128)%128*128^i+v/128*128^(i+1)=acc+v*128^i:=by
    have e5:v/128*128^(i+1)=v/128*128*128^i:=by rw [yC,yP (128^i) 128,<-qm]
    rw [e5,show (128+v%128)%128=v%128 by omega,qq,<-q9,show v%128+v/128*128=v by omega]
   rw [e3,xY];congr 3;omega
theorem zDi {v:Nat} (more:List UInt8) (h:v<18446744073709551616):rd (enc v++more)=((v:Int),(((enc v).length:Nat):Int),0):=by
 unfold rd;rw [qo,yH (zji h).2,zDt v 0 0 _ (by simpa using h)];simp [rdR]
theorem zBD:∀(k v:Nat),v<128^(k+1)->v<18446744073709551616->zcf (k+1) (v:Int)=some (enc v):=by
 intro k
 induction k with
 | zero=>
  intro v hv _;rw [zcf];unfold zeI;rw [pS,zhY,zdO (n:=v) (by omega) (by omega),sb,zkg (by omega)]
 | succ k ih=>
  intro v hv h64;rw [zcf];unfold zeI;by_cases h:v<128
  ·rw [pS,zhY,zdO (n:=v) (by omega) (by omega),sb,zkg h]
  ·rw [pT,zhY,zdh,zdh,yx (by omega),qx (by omega)];rw [zdO (n:=128+v%128) (by omega) (by omega),sb];have e:((v:Int)/128%18446744073709551616)=((v/128:Nat):Int):=by omega
   have h2:v/128<128^(k+1):=by rw [yC] at hv;exact Nat.div_lt_of_lt_mul (by omega)
   rw [e,ih _ h2 (by omega),sb];have:=(zji (v:=v/128) (by omega)).2;rw [zfI (by simp;omega),sb,zqV h];rfl
theorem zrm {fuel:Nat} (hf:10<=fuel) {v:Nat} (h:v<18446744073709551616):zcf fuel (v:Int)=some (enc v):=by
 obtain ⟨k,rfl⟩:∃k,fuel=k+1:=⟨fuel - 1,by omega⟩;have h1:128^10<=128^(k+1):=pi (by omega) hf;exact zBD k v (by omega) h
theorem zDy (v:Nat):shrI .u64 (v:Int) 7=((v/128:Nat):Int):=zqA (k:= .u64) (a:=v) (b:=7) (by simp [IntKind.bits])
theorem zCR:∀(w n:Nat),n+w<9223372036854775808+w->n+lz w<=1152921504606846976->zhs w n=some ((n+lz w:Nat):Int):=by
 intro w
 induction w using Nat.strongRecOn with
 | _ w ih=>
  intro n hn hl;by_cases h:w=0
  ·subst h;refine zrZ ?_;unfold zfe;rw [pR];rfl
  ·have e:=zGn h;refine (zrY (wv2':=((w/128:Nat):Int)) (n':=((n+1:Nat):Int)) ?_).trans ?_
   ·unfold zfe;rw [pS,zDy,pU];rfl
   ·rw [ih (w/128) (by omega) (n+1) (by omega) (by omega)];congr 2;omega
theorem zCQ {v:Nat} (h:v<18446744073709551616):zlL (v:Int)=some ((lenN v:Nat):Int):=by
 unfold zlL;have h1:=zGm v;have h2:=zto h;have h3:=zCR (v/128) 1 (by omega) (by omega);have h3':zhs ((v/128:Nat):Int) 1=some ((1+lz (v/128):Nat):Int):=h3;rw [zDy,h3',sb,h1]
theorem zGr:∀n<256,n||| 128=n%128+128:=by decide+kernel
theorem zDg:∀(v:Nat) (l:List UInt8),v<18446744073709551616->l.length+(enc v).length<=1152921504606->∃(v':Nat) (l':List UInt8),zhf (v:Int) l=some ((v':Int),l')/\v'<128/\l'++[UInt8.ofNat v']=l++enc v:=by
 intro v
 induction v using Nat.strongRecOn with
 | _ v ih=>
  intro l hv hl;by_cases h:v<128
  ·refine ⟨v,l,zqN ?_,h,by rw [zkg h]⟩;unfold zdX;rw [pT]
  ·rw [zqV h,xY] at hl;obtain ⟨v',l',h1,h2,h3⟩:=ih (v/128) (by omega) (l++[UInt8.ofNat (128+v%128)]) (by omega) (by simp;omega);refine ⟨v',l',?_,h2,by rw [h3,zqV h];simp⟩;refine (zqM (wv2':=((v/128:Nat):Int)) (l':=l++[UInt8.ofNat (128+v%128)]) ?_).trans h1;unfold zdX;have e1:(v:Int)%256=((v%256:Nat):Int):=by omega
   have e2:orI .u8 ((v%256:Nat):Int) 128=((v%128+128:Nat):Int):=by
    have:=zsz (k:= .u8) rfl (a:=v%256) (b:=128) (by simp [IntKind.bits];omega) (by simp [IntKind.bits]);rw [zGr _ (by omega)] at this;have e3:((128:Nat):Int)=128:=rfl;rw [e3] at this;rw [this];congr 1;omega
   rw [pS,zhY,e1,e2,zdO (n:=128+v%128) (by omega) (by omega),sb,zfI (by simp;omega),sb,zDy]
theorem zzz {v:Nat} (b:List UInt8) (h:v<18446744073709551616) (hb:b.length<=1099511627776):zhp b (v:Int)=some (b++enc v):=by
 unfold zhp;have h1:=zto h;have h2:=(zji h).2;rw [zCQ h,sb,pU,zEF (by omega) (by omega),sb,zfI (by simp;omega),sb];obtain ⟨v',l',h3,h4,h5⟩:=zDg v b h (by omega);have wa:l'.length+1=b.length+(enc v).length:=by have:=congrArg List.length h5;simpa using this
 simp only [xZ];rw [h3,sb,zhY];simp only;rw [zdO (n:=v') (by omega) (by omega),sb,zfI (by simp;omega),sb,h5]
theorem ztV (a b:List UInt8):zfi a b=some (a==b):=rfl
theorem all_nil (acc:List Int):zpg [] acc=some (.inl acc):=by
 refine zqL ?_;unfold ziE;rw [pR]
def zcj (n w:Int):Bool:=decide (1<=n/\n<=536870911/\(w=0\/w=1\/w=2\/w=5))
def tgR (r:Int×Int×Int):Int×Int×Int×Int:=
 if r.2.2≠0 then (0,0,0,r.2.2) else if 4294967295<r.1\/zcj (r.1/8) (r.1%8)=false then (0,0,0,5) else (r.1/8,r.1%8,r.2.1,0)
def tg (l:List UInt8):Int×Int×Int×Int:=tgR (rd l)
def tW (n w:Int):Nat:=(8*n+w).toNat
theorem zeT :zcj n w=true↔1<=n/\n<=536870911/\(w=0\/w=1\/w=2\/w=5):=by simp [zcj]
theorem zys (n w:Int):zeJ n w=some (zcj n w):=by
 unfold zeJ zcj;simp [Bool.decide_and,Bool.decide_or,Bool.beq_eq_decide_eq]
theorem zhx (l:List UInt8):0<=(rd l).1/\(rd l).1<18446744073709551616/\0<=(rd l).2.1/\(rd l).2.1<=10/\(rd l).2.1<=l.length/\((rd l).2.2=0\/(rd l).2.2=3\/(rd l).2.2=4)/\((rd l).2.2=0->1<=(rd l).2.1):=by
 rcases zym l with h| ⟨h,_⟩| ⟨x,c,y,e,_,_,hl,hv,h⟩
 ·rw [h];simp
 ·rw [h];simp
 ·have:l.length=x.length+1+y.length:=by rw [e];simp;omega
  rw [h];refine ⟨?_,?_,?_,?_,?_,.inl rfl,fun _=>?_⟩<;>simp only<;>omega
theorem zHf (x:List UInt8) (c:UInt8) (y:List UInt8) (hx:∀z∈x,128<=z.toNat) (hc:c.toNat<128) (hl:x.length<=9) (hv:hor (x++[c])<18446744073709551616):
  rd (x++c::y)=(((hor (x++[c]):Nat):Int),((x.length+1:Nat):Int),0):=by
 have key:∀(x:List UInt8) (z:List UInt8) (i acc:Nat),(∀z∈x,128<=z.toNat)->i+x.length<=9->acc+hor (x++[c])*128^i<18446744073709551616->scan i acc (x++c::z)= .inr (((acc+hor (x++[c])*128^i:Nat):Int),((i+x.length+1:Nat):Int),0):=by
  intro x
  induction x with
  | nil=>
   intro z i acc _ hi hv;have e1:hor ([]++[c])=c.toNat:=by simp [hor];omega
   rw [e1] at hv|-;rw [xZ,scan,xw,xx hc,qf hc]
   ·rfl
   ·rintro ⟨rfl,h2⟩;have:=yg (128^9) (show 2<=c.toNat by omega);omega
  | cons d x ih=>
   intro z i acc hx hi hv;simp only [xY] at hi;have hd:=hx d xy;have e5:acc+hor ((d::x)++[c])*128^i=acc+d.toNat%128*128^i+hor (x++[c])*128^(i+1):=by
    rw [yo,hor,yC,q9,yP (128^i) 128,<-qm,yP (hor (x++[c])) 128];omega
   rw [e5] at hv|-;rw [yo,scan,xw (by omega),xw (by omega),ih z (i+1) _ (fun z hz=>hx z (xz _ hz)) (by omega) hv,xY];congr 3;omega
 unfold rd;have e2:(x++c::y).take 10=x++c::y.take (9 - x.length):=by
  rw [qo,yH (by omega),show 10 - x.length=(9 - x.length)+1 by omega,yJ]
 rw [e2,key x _ 0 0 hx (by omega) (by simpa using hv)];simp [rdR]
theorem zrl (l m:List UInt8) (h:(rd l).2.2=0):rd (l++m)=rd l:=by
 rcases zym l with h'| ⟨h',_⟩| ⟨x,c,y,e,hx,hc,hl,hv,h'⟩
 ·rw [h'] at h;cases h
 ·rw [h'] at h;cases h
 ·rw [h',e,yM,yo,zHf x c _ hx hc hl hv]
theorem zBI (l m:List UInt8) (h:(rd l).2.2=0):tg (l++m)=tg l:=by unfold tg;rw [zrl l m h]
theorem zwT (h:r.2.2≠0):tgR r=(0,0,0,r.2.2):=xx h
theorem zoo (h:r.2.2=0) (h2:4294967295<r.1\/zcj (r.1/8) (r.1%8)=false):tgR r=(0,0,0,5):=by unfold tgR;rw [xw (by simp [h]),xx h2]
theorem zzI (h:r.2.2=0) (h2:¬(4294967295<r.1\/zcj (r.1/8) (r.1%8)=false)):tgR r=(r.1/8,r.1%8,r.2.1,0):=by unfold tgR;rw [xw (by simp [h]),xw h2]
theorem zud (l:List UInt8):(∃c,tg l=(0,0,0,c)/\(c=3\/c=4\/c=5))\/∃n w k,tg l=(n,w,k,0)/\zcj n w=true/\1<=k/\k<=10/\k<=l.length/\rd l=(8*n+w,k,0):=by
 obtain ⟨h1,h2,h3,h4,h5,h6,h7⟩:=zhx l;unfold tg;by_cases h:(rd l).2.2=0
 ·by_cases hg:4294967295<(rd l).1\/zcj ((rd l).1/8) ((rd l).1%8)=false
  ·exact .inl ⟨5,zoo h hg,by omega⟩
  ·refine .inr ⟨_,_,_,zzI h hg,?_,h7 h,h4,h5,?_⟩
   ·cases ht:zcj ((rd l).1/8) ((rd l).1%8)
    ·exact absurd (.inr ht) hg
    ·rfl
   ·refine Prod.ext ?_ (Prod.ext rfl h);simp only;omega
 ·exact .inl ⟨_,zwT h,by omega⟩
theorem zwF (b:List UInt8) (a:Nat) (hb:b.length<=1152921504606846976) (ha:a<=b.length):zfk b a=some (tg (b.drop a)):=by
 unfold zfk tg;obtain ⟨h1,h2,h3,h4,h5,h6,h7⟩:=zhx (b.drop a);rw [zzE b a hb ha,sb];by_cases h:(rd (b.drop a)).2.2=0
 ·rw [itF (by simpa using h)];have e1:i64.wrap (u64.wrap (Int.tdiv (rd (b.drop a)).1 8))=(rd (b.drop a)).1/8:=by
   rw [qx h1,zdh,yB (by omega) (by omega),pU]
  have e2:i64.wrap (Int.tmod (rd (b.drop a)).1 8)=(rd (b.drop a)).1%8:=by
   rw [yx h1,pU]
  simp only [e1,e2,zys,sb];by_cases hg:4294967295<(rd (b.drop a)).1
  ·rw [itT (by simpa using hg),sb,pP,zoo h (.inl hg)]
  ·rw [itF (by simpa using hg),sb];cases ht:zcj ((rd (b.drop a)).1/8) ((rd (b.drop a)).1%8)
   ·rw [pP,zoo h (.inr ht)]
   ·rw [pQ,zzI h (by simp [ht];omega)]
 ·rw [itT (by simpa using h),zwT h]
theorem zub {n w:Int} (h:zcj n w=true):((tW n w:Nat):Int)=8*n+w/\tW n w<4294967296:=by
 have:=zeT.1 h;unfold tW;omega
theorem zyo {fuel:Nat} (hf:10<=fuel) {n w:Int} (h:zcj n w=true):zfL fuel n w=some (enc (tW n w)):=by
 have hr:=zeT.1 h;obtain ⟨e,vY⟩:=zub h;unfold zfL;have e2:u64.wrap (i64.wrap ((i64.wrap (8*n))+w))=((tW n w:Nat):Int):=by
  rw [zk (x:=8*n) (by omega),pU,zdh,yB (by omega) (by omega),e]
 rw [e2,zrm hf (by omega),sb]
theorem zEw {v:Nat} (h:v<34359738368):lenN v<=5:=by
 by_cases h1:v<128
 ·rw [zjz h1];omega
 ·rw [zkZ h1];by_cases h2:v/128<128
  ·rw [zjz h2];omega
  ·rw [zkZ h2];by_cases h3:v/128/128<128
   ·rw [zjz h3];omega
   ·rw [zkZ h3];by_cases h4:v/128/128/128<128
    ·rw [zjz h4];omega
    ·rw [zkZ h4,zjz (by omega)];omega
abbrev Rec:=zn
def zff (w:Int) (k:Nat) (m:List UInt8):Int⊕(Nat×Nat):=
 if w=0 then (if (rd m).2.2≠0 then .inl (rd m).2.2 else .inr (k,k+(rd m).2.1.toNat))
 else if w=2 then (if (rd m).2.2≠0 then .inl (rd m).2.2 else if (m.length:Int) - (rd m).2.1<(rd m).1 then .inl 3 else .inr (k+(rd m).2.1.toNat,k+(rd m).2.1.toNat+(rd m).1.toNat))
 else if m.length<(if w=5 then 4 else 8) then .inl 3 else .inr (k,k+(if w=5 then 4 else 8))
def rec5 (l:List UInt8):Int⊕(Int×Int×Nat×Nat):=
 if (tg l).2.2.2≠0 then .inl (tg l).2.2.2 else match zff (tg l).2.1 (tg l).2.2.1.toNat (l.drop (tg l).2.2.1.toNat) with
  | .inl c=> .inl c
  | .inr p=> .inr ((tg l).1,(tg l).2.1,p.1,p.2)
theorem zrD (w:Int) (k:Nat) (m:List UInt8):(∃c,zff w k m= .inl c/\(c=3\/c=4))\/
  ∃a t,zff w k m= .inr (a,t)/\k<=a/\a<=t/\t<=k+m.length/\
   (w=0/\a=k/\(rd m).2.2=0/\((t - k:Nat):Int)=(rd m).2.1/\k<t\/w=2/\(rd m).2.2=0/\((a - k:Nat):Int)=(rd m).2.1/\((t - a:Nat):Int)=(rd m).1\/w≠0/\w≠2/\a=k/\t=k+(if w=5 then 4 else 8)):=by
 obtain ⟨h1,h2,h3,h4,h5,h6,h7⟩:=zhx m;unfold zff;by_cases w0:w=0
 ·rw [xx w0];by_cases h:(rd m).2.2=0
  ·have:=h7 h;rw [xw (by simpa using h)];exact .inr ⟨_,_,rfl,xB _,by omega,by omega,.inl ⟨w0,rfl,h,by omega,by omega⟩⟩
  ·rw [xx h];exact .inl ⟨_,rfl,by omega⟩
 ·rw [xw w0];by_cases w2:w=2
  ·rw [xx w2];by_cases h:(rd m).2.2=0
   ·rw [xw (by simpa using h)];by_cases h8:(m.length:Int) - (rd m).2.1<(rd m).1
    ·rw [xx h8];exact .inl ⟨_,rfl,by omega⟩
    ·rw [xw h8];exact .inr ⟨_,_,rfl,by omega,by omega,by omega,.inr (.inl ⟨w2,h,by omega,by omega⟩)⟩
   ·rw [xx h];exact .inl ⟨_,rfl,by omega⟩
  ·rw [xw w2];by_cases h8:m.length<(if w=5 then 4 else 8)
   ·rw [xx h8];exact .inl ⟨_,rfl,by omega⟩
   ·rw [xw h8];exact .inr ⟨_,_,rfl,xB _,by omega,by omega,.inr (.inr ⟨w0,w2,rfl,rfl⟩)⟩
theorem zwc (w:Int) (k:Nat) (m z:List UInt8) (h:zff w k m= .inr p):zff w k (m++z)= .inr p:=by
 unfold zff at h|-;by_cases w0:w=0
 ·rw [xx w0] at h|-;by_cases h0:(rd m).2.2=0
  ·rw [zrl m z h0];exact h
  ·rw [xx h0] at h;cases h
 ·rw [xw w0] at h|-;by_cases w2:w=2
  ·rw [xx w2] at h|-;by_cases h0:(rd m).2.2=0
   ·rw [zrl m z h0];rw [xw (by simpa using h0)] at h|-;by_cases h8:(m.length:Int) - (rd m).2.1<(rd m).1
    ·rw [xx h8] at h;cases h
    ·rw [xw h8] at h;rw [xw (by simp only [xG];omega)];exact h
   ·rw [xx h0] at h;cases h
  ·rw [xw w2] at h|-;by_cases h8:m.length<(if w=5 then 4 else 8)
   ·rw [xx h8] at h;cases h
   ·rw [xw h8] at h;rw [xw (by simp only [xG];omega)];exact h
theorem zpF (l:List UInt8):(∃c,rec5 l= .inl c/\(c=3\/c=4\/c=5))\/
  ∃(n w:Int) (k a t:Nat),rec5 l= .inr (n,w,a,t)/\tg l=(n,w,(k:Int),0)/\zcj n w=true/\zff w k (l.drop k)= .inr (a,t)/\1<=k/\k<=l.length/\k<=a/\a<=t/\t<=l.length/\rd l=(8*n+w,(k:Int),0):=by
 rcases zud l with ⟨c,h,hc⟩| ⟨n,w,k,h,hr,k1,k2,k3,hrd⟩
 ·refine .inl ⟨c,?_,hc⟩;unfold rec5;rw [h,xx (by simp only;omega)]
 ·obtain ⟨k,rfl⟩:∃j:Nat,k=j:=⟨k.toNat,by omega⟩
  have e:rec5 l=match zff w k (l.drop k) with
   | .inl c=> .inl c
   | .inr p=> .inr (n,w,p.1,p.2):=by unfold rec5;rw [h];simp
  rcases zrD w k (l.drop k) with ⟨c,h2,hc⟩| ⟨a,t,h2,g1,g2,g3,_⟩
  ·exact .inl ⟨c,by rw [e,h2],by omega⟩
  ·simp only [yn] at g3;exact .inr ⟨n,w,k,a,t,by rw [e,h2],h,hr,h2,by omega,by omega,g1,g2,by omega,hrd⟩
theorem zyn (l z:List UInt8) (h:rec5 l= .inr r):rec5 (l++z)= .inr r:=by
 rcases zpF l with ⟨c,h',_⟩| ⟨n,w,k,a,t,h',htg,_,hb,_,hk,_,_,_,hrd⟩
 ·rw [h'] at h;cases h
 ·rw [h'] at h;have e:tg (l++z)=(n,w,(k:Int),0):=by rw [zBI l z (by rw [hrd]),htg]
  unfold rec5;rw [e];simp only [ne_eq,not_true_eq_false,ql,xX];rw [qK hk,zwc _ _ _ _ hb];exact h
def zrec:Rec:=⟨0,0,0,0,0⟩
def zql (b:List UInt8) (at5:Int):Rec×Int:=if at5<0\/at5>=b.length then (zrec,2) else match rec5 (b.drop at5.toNat) with
 | .inl c=>(zrec,c)
 | .inr (n,w,a,t)=>(⟨n,w,at5,at5+a,at5+t⟩,0)
theorem zyr (hb:b.length<=140737488355328) (at5:Int):zfm b at5=some (zql b at5):=by
 unfold zfm zql;by_cases h:at5<0\/at5>=b.length
 ·rw [itT (by simpa using h),xx h];rfl
 ·rw [itF (by simpa using h),xw h];obtain ⟨p,rfl⟩:∃p:Nat,at5=p:=⟨at5.toNat,by omega⟩;rw [zwF b p (by omega) (by omega),sb,xX];have hdl:(b.drop p).length=b.length - p:=by simp
  rcases zud (b.drop p) with ⟨c,ht,hc⟩| ⟨n,w,k,ht,hr,k1,k2,k3,hrd⟩
  ·have e:rec5 (b.drop p)= .inl c:=by unfold rec5;rw [ht,xx (by simp only;omega)]
   rw [e,ht,pS];rfl
  ·obtain ⟨k,rfl⟩:∃j:Nat,k=j:=⟨k.toNat,by omega⟩
   have e:rec5 (b.drop p)=match zff w k ((b.drop p).drop k) with
    | .inl c=> .inl c
    | .inr p=> .inr (n,w,p.1,p.2):=by unfold rec5;rw [ht];simp
   have hdd:(b.drop p).drop k=b.drop (p+k):=by rw [qa]
   have hml:(b.drop (p+k)).length=b.length - (p+k):=by simp
   obtain ⟨h1,h2,h3,h4,h5,h6,h7⟩:=zhx (b.drop (p+k));rw [e,ht,pR,hdd];have ew:i64.wrap ((p:Int)+k)=((p+k:Nat):Int):=by rw [pU];push_cast;rfl
   have er:i64.wrap ((b.length:Int) - ((p+k:Nat):Int))=((b.length - (p+k):Nat):Int):=by rw [pU];omega
   simp only [ew,er];have hw:=(zeT.1 hr).2.2;rcases hw with rfl| rfl| rfl| rfl
   ·-- a varint
    rw [pQ,sb,pP,zzE b (p+k) (by omega) (by omega),sb];by_cases g:(rd (b.drop (p+k))).2.2=0
    ·have:=h7 g;have hb5:zff 0 k (b.drop (p+k))= .inr (k,k+(rd (b.drop (p+k))).2.1.toNat):=by unfold zff;rw [xx rfl,xw (by simpa using g)]
     rw [itF (by simpa using g),sb,hb5];simp only;rw [pQ,sb];simp only;rw [pT,pU];simp;omega
    ·have hb5:zff 0 k (b.drop (p+k))= .inl (rd (b.drop (p+k))).2.2:=by unfold zff;rw [xx rfl,xx g]
     rw [itT (by simpa using g),sb,hb5];rfl
   ·rw [pQ,sb,pQ,sb];simp only;rw [pQ,sb];unfold zff;rw [xw (by omega),xw (by omega)];simp only;by_cases g:b.length - (p+k)<8
    ·rw [pS,xx (by simpa [hml] using g)];rfl
    ·rw [pT,xw (by simpa [hml] using g),pU];simp;omega
   ·rw [pQ,sb,pQ,sb];simp only;rw [pP,zzE b (p+k) (by omega) (by omega),sb];by_cases g:(rd (b.drop (p+k))).2.2=0
    ·have:=h7 g;have e1:i64.wrap (((b.length - (p+k):Nat):Int) - (rd (b.drop (p+k))).2.1)=((b.drop (p+k)).length:Int) - (rd (b.drop (p+k))).2.1:=by rw [pU,hml]
     have e2:u64.wrap (((b.drop (p+k)).length:Int) - (rd (b.drop (p+k))).2.1)=((b.drop (p+k)).length:Int) - (rd (b.drop (p+k))).2.1:=by rw [zdh,yB (by omega) (by omega)]
     rw [itF (by simpa using g)];simp only [e1,e2];by_cases g2:((b.drop (p+k)).length:Int) - (rd (b.drop (p+k))).2.1<(rd (b.drop (p+k))).1
     ·have hb5:zff 2 k (b.drop (p+k))= .inl 3:=by unfold zff;rw [xw (by omega),xx rfl,xw (by simpa using g),xx g2]
      rw [itT (by simpa using g2),sb,hb5];rfl
     ·have hb5:zff 2 k (b.drop (p+k))= .inr (k+(rd (b.drop (p+k))).2.1.toNat,k+(rd (b.drop (p+k))).2.1.toNat+(rd (b.drop (p+k))).1.toNat):=by
       unfold zff;rw [xw (by omega),xx rfl,xw (by simpa using g),xw g2]
      rw [itF (by simpa using g2),sb,hb5];simp only;rw [zk (x:=(rd (b.drop (p+k))).1) (by omega),itF (by simpa using g2),zk (x:=((p+k:Nat):Int)+(rd (b.drop (p+k))).2.1) (by omega),pU];simp;omega
    ·have hb5:zff 2 k (b.drop (p+k))= .inl (rd (b.drop (p+k))).2.2:=by unfold zff;rw [xw (by omega),xx rfl,xx g]
     rw [itT (by simpa using g),sb,hb5];rfl
   ·rw [pP,sb,pQ,sb];simp only;rw [pQ,sb];unfold zff;rw [xw (by omega),xw (by omega)];simp only;by_cases g:b.length - (p+k)<4
    ·rw [pS,xx (by simpa [hml] using g)];rfl
    ·rw [pT,xw (by simpa [hml] using g),pU];simp;omega
def spl (base:Nat) (l:List UInt8):List Rec×Option (Nat×Int):=
 if hl:l=[] then ([],none) else match h:rec5 l with
  | .inl c=>([],some (base,c))
  | .inr (n,w,a,t)=>(⟨n,w,base,(base+a:Nat),(base+t:Nat)⟩::(spl (base+t) (l.drop t)).1,(spl (base+t) (l.drop t)).2)
termination_by l.length
decreasing_by
 all_goals
  rcases zpF l with ⟨c',h',_⟩| ⟨n',w',k',a',t',h',_,_,_,g1,g2,g3,g4,g5,_⟩
  ·rw [h'] at h;cases h
  ·rw [h'] at h;cases h;simp only [yn];omega
theorem zoO (base:Nat):spl base []=([],none):=by rw [spl,dif_pos rfl]
theorem zsF (hl:l≠[]) (h:rec5 l= .inl c):spl base l=([],some (base,c)):=by
 rw [spl,dif_neg hl];split
 ·rename_i c' h';rw [h] at h';cases h';rfl
 ·rename_i h';rw [h] at h';cases h'
theorem zoj (hl:l≠[]) (h:rec5 l= .inr (n,w,a,t)):
  spl base l=(⟨n,w,base,(base+a:Nat),(base+t:Nat)⟩::(spl (base+t) (l.drop t)).1,(spl (base+t) (l.drop t)).2):=by
 rw [spl,dif_neg hl];split
 ·rename_i c' h';rw [h] at h';cases h'
 ·rename_i n' w' a' t' h';rw [h] at h';cases h';rfl
theorem zwO (P:Nat->List UInt8->Prop) (h0:∀base,P base []) (he:∀base l c,l≠[]->rec5 l= .inl c->(c=3\/c=4\/c=5)->P base l)
  (hc:∀base l (n w:Int) (a t:Nat),l≠[]->rec5 l= .inr (n,w,a,t)->zcj n w=true->1<=a->a<=t->t<=l.length->P (base+t) (l.drop t)->P base l) (base:Nat) (l:List UInt8):P base l:=by
 generalize hn:l.length=m
 induction m using Nat.strongRecOn generalizing base l with
 | _ m ih=>
  by_cases hl:l=[]
  ·subst hl;exact h0 base
  ·rcases zpF l with ⟨c,h,hc'⟩| ⟨n,w,k,a,t,h,_,hr,_,g1,g2,g3,g4,g5,_⟩
   ·exact he base l c hl h hc'
   ·exact hc base l n w a t hl h hr (by omega) g4 g5 (ih _ (by simp only [yn];omega) _ _ rfl)
def zkw (d:Nat) (r:Rec):Rec:=⟨r.Number,r.Wire,r.From+d,r.At+d,r.To+d⟩
theorem zvJ (d:Nat) (base:Nat) (l:List UInt8):spl (base+d) l=((spl base l).1.map (zkw d),(spl base l).2.map fun p=>(p.1+d,p.2)):=by
 refine zwO (fun base l=>spl (base+d) l=((spl base l).1.map (zkw d),(spl base l).2.map fun p=>(p.1+d,p.2))) ?_ ?_ ?_ base l
 ·intro base;rw [zoO,zoO];rfl
 ·intro base l c hl h _;rw [zsF hl h,zsF hl h];rfl
 ·intro base l n w a t hl h _ g1 g2 g3 ih;rw [zoj hl h,zoj hl h,show base+d+t=base+t+d by omega,ih];simp only [xM,zkw,yO,yA,zn.mk.injEq,yZ,qk];push_cast;omega
theorem ztY (m:List UInt8) (base:Nat) (l:List UInt8):(spl base l).2=none->spl base (l++m)=((spl base l).1++(spl (base+l.length) m).1,(spl (base+l.length) m).2):=by
 refine zwO (fun base l=>(spl base l).2=none->spl base (l++m)=((spl base l).1++(spl (base+l.length) m).1,(spl (base+l.length) m).2)) ?_ ?_ ?_ base l
 ·intro base _;rw [zoO];simp
 ·intro base l c hl h _ h2;rw [zsF hl h] at h2;cases h2
 ·intro base l n w a t hl h _ g1 g2 g3 ih h2;rw [zoj hl h] at h2|-;rw [zoj (by simp [hl]) (zyn l m h),qK g3,ih h2];simp only [yn,yo,show base+t+(l.length - t)=base+l.length by omega]
def ziR (w:Int) (v:List UInt8):Bool:=
 if w=0 then decide ((rd v).2.2=0/\(rd v).2.1=v.length) else decide (w=2\/w=1/\v.length=8\/w=5/\v.length=4)
def put5 (n w:Int) (v:List UInt8):List UInt8:=enc (tW n w)++(if w=2 then enc v.length else [])++v
theorem zlb {fuel:Nat} (hf:10<=fuel) {n w:Int} {v:List UInt8} (h:zcj n w=true) (hv:v.length<=1048576):zcW fuel n w v=some (put5 n w v):=by
 obtain ⟨_,vY⟩:=zub h;have h1:=zji (v:=tW n w) (by omega);have h2:=zji (v:=v.length) (by omega);unfold zcW put5;rw [zyo hf h,sb];by_cases hw:w=2
 ·rw [itT (by simpa using hw),xx hw];have e:u64.wrap (v.length:Int)=(v.length:Int):=by rw [zdh,yB (by omega) (by omega)]
  rw [e,zrm hf (by omega),sb,zfI (by omega),sb,zfI (by simp;omega),sb]
 ·rw [itF (by simpa using hw),xw hw,zfI (by omega),sb,yY]
theorem znW (n w:Int) (v:List UInt8):(put5 n w v).length=(enc (tW n w)).length+(if w=2 then (enc v.length).length else 0)+v.length:=by
 unfold put5;split
 ·simp;omega
 ·simp
def rawW (k:Int) (b:List UInt8):Int:=if zcL k=0 then (rd b).1 else (word (b.take 8):Nat)
def zyz (k:Int) (b:List UInt8):Int×Int:=if kNum k=false then (0,2) else if ziR (zcL k) b=false then (0,12) else (zbe k (rawW k b),0)
def ziu (k:Int) (c:Nat):List UInt8:=if 12<=k then zet 8 c else if 9<=k then zet 4 c else enc c
def sPut (k w:Int):List UInt8:=ziu k (zbe k w).toNat
theorem ztL {fuel:Nat} (hf:10<=fuel) {k w:Int} (h:0<=w/\w<=18446744073709551615):zez fuel k w=some (sPut k w):=by
 have hc:=ziK k h;obtain ⟨c,hcc⟩:∃c:Nat,zbe k w=c:=⟨(zbe k w).toNat,by omega⟩;unfold zez sPut ziu;rw [zrQ k h,sb,hcc,xX];by_cases h1:12<=k
 ·rw [itT (by simpa using h1),xx h1,ztQ (by omega),sb];rfl
 ·rw [itF (by simpa using h1),xw h1];by_cases h2:9<=k
  ·rw [itT (by simpa using h2),xx h2,ztQ (by omega),sb];rfl
  ·rw [itF (by simpa using h2),xw h2,zrm hf (by omega),sb]
theorem ziT :kNum k=true↔1<=k/\k<=14:=by simp [kNum]
theorem zof {k:Int} (hk:kNum k=true) {c:Nat} (hc:c<18446744073709551616):ziR (zcL k) (ziu k c)=true:=by
 have:=ziT.1 hk;unfold ziu;by_cases h1:12<=k
 ·have e:zcL k=1:=by unfold zcL;rw [xw (by omega),xx h1]
  rw [xx h1,e];simp [ziR,zbt]
 ·rw [xw h1];by_cases h2:9<=k
  ·have e:zcL k=5:=by unfold zcL;rw [xw (by omega),xw h1,xx h2]
   rw [xx h2,e];simp [ziR,zbt]
  ·have e:zcL k=0:=by unfold zcL;rw [xw (by omega),xw h1,xw h2]
   have hr:=zDi [] hc;rw [yY] at hr;rw [xw h2,e];unfold ziR;rw [xx rfl,hr];simp
theorem zzB {k:Int} (hk:kNum k=true) {c:Nat} (hc:c<18446744073709551616) (h32:9<=k->k<12->c<4294967296):rawW k (ziu k c)=(c:Int):=by
 have:=ziT.1 hk;unfold ziu rawW;by_cases h1:12<=k
 ·have e:zcL k=1:=by unfold zcL;rw [xw (by omega),xx h1]
  rw [xx h1,e,xw (by omega),yH (by rw [zbt];omega),zow,qf (by omega)]
 ·rw [xw h1];by_cases h2:9<=k
  ·have e:zcL k=5:=by unfold zcL;rw [xw (by omega),xw h1,xx h2]
   have:=h32 h2 (by omega);rw [xx h2,e,xw (by omega),yH (by rw [zbt];omega),zow,qf (by omega)]
  ·have e:zcL k=0:=by unfold zcL;rw [xw (by omega),xw h1,xw h2]
   have hr:=zDi [] hc;rw [yY] at hr;rw [xw h2,e,xx rfl,hr]
theorem zzG {k w:Int} (hk:kNum k=true) (h:0<=w/\w<=18446744073709551615):zyz k (sPut k w)=(zbe k w,0):=by
 have hc:=ziK k h;obtain ⟨c,hcc⟩:∃c:Nat,zbe k w=c:=⟨(zbe k w).toNat,by omega⟩;unfold zyz sPut;rw [hcc,xX,hk,xw (by simp),zof hk (by omega),xw (by simp),zzB hk (by omega) (fun h9 h12=>by have:=zCa (w:=w) h9 h12;omega),<-hcc,zxs k h]
theorem zkv {k w:Int} (h:0<=w/\w<=18446744073709551615):1<=(sPut k w).length/\(sPut k w).length<=10:=by
 have hc:=ziK k h;unfold sPut ziu;split
 ·rw [zbt];omega
 ·split
  ·rw [zbt];omega
  ·exact zji (by omega)
def zAQ (k:Int) (l:List UInt8):Int⊕Nat:=
 if k<9 then (if (rd l).2.2≠0 then .inl (rd l).2.2 else .inr (rd l).2.1.toNat) else if l.length<(if k<12 then 4 else 8) then .inl 3 else .inr (if k<12 then 4 else 8)
theorem zyI (k:Int) (l:List UInt8):(∃c,zAQ k l= .inl c/\(c=3\/c=4))\/∃n,zAQ k l= .inr n/\1<=n/\n<=l.length/\n<=10/\(k<9/\(rd l).2.2=0/\(rd l).2.1=(n:Int)\/¬k<9/\n=(if k<12 then 4 else 8)):=by
 obtain ⟨h1,h2,h3,h4,h5,h6,h7⟩:=zhx l;unfold zAQ;by_cases h:k<9
 ·rw [xx h];by_cases h0:(rd l).2.2=0
  ·have:=h7 h0;rw [xw (by simpa using h0)];exact .inr ⟨_,rfl,by omega,by omega,by omega,.inl ⟨h,h0,by omega⟩⟩
  ·rw [xx h0];exact .inl ⟨_,rfl,by omega⟩
 ·rw [xw h];by_cases h8:l.length<(if k<12 then 4 else 8)
  ·rw [xx h8];exact .inl ⟨_,rfl,by omega⟩
  ·rw [xw h8];exact .inr ⟨_,rfl,by split<;>omega,by omega,by split<;>omega,.inr ⟨h,rfl⟩⟩
def pcs (k:Int) (l:List UInt8):List (List UInt8)×Int:=
 if hl:l=[] then ([],0) else match h:zAQ k l with
  | .inl c=>([],c)
  | .inr n=>(l.take n::(pcs k (l.drop n)).1,(pcs k (l.drop n)).2)
termination_by l.length
decreasing_by
 all_goals
  rcases zyI k l with ⟨c',h',_⟩| ⟨n',h',g1,g2,_⟩
  ·rw [h'] at h;cases h
  ·rw [h'] at h;cases h;simp only [yn];omega
def zxb (k:Int) (p:List UInt8):Int:=zbe k (rawW k p)
theorem zyA (hk:kNum k=true) (hf:ziR (zcL k) p=true):zyz k p=(zxb k p,0):=by
 unfold zyz zxb;rw [hk,xw (by simp),hf,xw (by simp)]
def ends (base:Nat):List (List UInt8)->List Int
 | []=>[]
 | p::ps=>((base+p.length:Nat):Int)::ends (base+p.length) ps
def zzZ (k:Int) (b:List UInt8):List Int×Int:=if kNum k=false then ([],2) else if (pcs k b).2=0 then (ends 0 (pcs k b).1,0) else ([],(pcs k b).2)
theorem zwH {fuel:Nat} (hf:10<=fuel) {k:Int} {l:List Int} (h:∀w∈l,0<=w/\w<=18446744073709551615) (hl:l.length<=1048576):∀(d i:Nat) (out:List UInt8),i+d=l.length->out.length<=10*i->
  zcY fuel k l out i=some (out++(l.drop i).flatMap (sPut k)):=by
 intro d
 induction d with
 | zero=>
  intro i out hi ho;refine zlv ?_;unfold zbo;rw [pT,yh (by omega)];simp
 | succ d ih=>
  intro i out hi ho;have hil:i<l.length:=by omega
  have hw:=h _ (xF hil);have wa:=zkv (k:=k) hw;refine (zlu (out':=out++sPut k l[i]) (i':=((i+1:Nat):Int)) ?_).trans ?_
  ·unfold zbo;rw [pS,zJ rfl hil,sb,ztL hf hw,sb,zfI (by omega),sb,pU];rfl
  ·rw [ih (i+1) _ (by omega) (by simp;omega),yb hil,xN,yM]
theorem zzD {fuel:Nat} (hf:10<=fuel) {k:Int} {l:List Int} (h:∀w∈l,0<=w/\w<=18446744073709551615) (hl:l.length<=1048576):zfo fuel k l=some (l.flatMap (sPut k)):=by
 unfold zfo;have h1:=zwH hf (k:=k) h hl l.length 0 [] (by omega) (by simp);have h':zcY fuel k l [] 0=some ([]++(l.drop 0).flatMap (sPut k)):=h1;rw [h',sb];simp
abbrev Vw:=zut
def zaq (m:Mes) (i:Int):Fld:=m.Fields.getD i.toNat ⟨[],0,0,false,false,0⟩
def vw (m:Mes) (n w:Int):Int⊕(Int×Bool):=
 if fldI m n<0 then .inr (-1,false)
 else if (zaq m (fldI m n)).Repeated=true/\kNum (zaq m (fldI m n)).Kind=true/\w=2 then .inr (fldI m n,true)
 else if zdr (zaq m (fldI m n)).Kind=false\/zcL (zaq m (fldI m n)).Kind≠w then .inl 6 else .inr (fldI m n,false)
theorem zki (m:Mes) (n:Int):fldI m n= -1/\(∀f∈m.Fields,f.Number≠n)\/∃(i:Nat) (h:i<m.Fields.length),fldI m n=i/\m.Fields[i].Number=n/\∀(j:Nat) (h:j<m.Fields.length),j<i->m.Fields[j].Number≠n:=by
 unfold fldI;cases h:m.Fields.findIdx? (fun f:Fld=>f.Number==n) with
 | none=>
  left;rw [pf] at h;exact ⟨zkX (pf.2 h),fun f hf=>by simpa using h f hf⟩
 | some i=>
  right;have h':=h;rw [pg] at h;obtain ⟨hi,hp,hj⟩:=h;exact ⟨i,hi,zkY h',by simpa using hp,fun j hjl hji=>by simpa using hj j hji⟩
theorem zkh {m:Mes} {i:Nat} (h:i<m.Fields.length):zaq m (i:Int)=m.Fields[i]:=by
 unfold zaq;rw [xX,qN,xQ h];rfl
def vws (m:Mes) (e:Option (Nat×Int)):List Rec->List Vw×Option (Int×Int)
 | []=>([],e.map fun p=>((p.1:Int),p.2))
 | r::l=>match vw m r.Number r.Wire with
  | .inl c=>([],some (r.From,c))
  | .inr (i,run)=>(⟨r,i,run⟩::(vws m e l).1,(vws m e l).2)
def vwR (r:List Vw×Option (Int×Int)):List Vw×Int×Int:=match r.2 with
 | none=>(r.1,0,0)
 | some (p,c)=>([],p,c)
def zFi (m:Mes) (b:List UInt8):List Vw×Int×Int:=vwR (vws m (spl 0 b).2 (spl 0 b).1)
def zaD (s:List Mes) (i:Int):Mes:=s.getD i.toNat ⟨[],[]⟩
theorem zhR {s:List Mes} {i:Nat} (h:i<s.length):zaD s (i:Int)=s[i]:=by
 unfold zaD;rw [xX,qN,xQ h];rfl
def valB (b:List UInt8) (r:Rec):List UInt8:=(b.drop r.At.toNat).take (r.To.toNat - r.At.toNat)
abbrev zrz:=Option (Int->List UInt8->Option (Int×Int))
def zCN (f:Fld) (run:Bool) (sub:zrz) (r:Rec) (v:List UInt8):Option (Int×Int):=
 if run=true then (if (zzZ f.Kind v).2≠0 then some (r.From,(zzZ f.Kind v).2) else none)
 else if f.Kind=15/\zit v=false then some (r.From,7)
 else if f.Kind=17 then (match sub with
  | none=>some (r.From,8)
  | some g=>match g f.Of v with
   | some (p,c)=>some (r.At+p,c)
   | none=>none)
 else none
def zol (m:Mes) (sub:zrz) (b:List UInt8) (r:Rec):Option (Int×Int):=match vw m r.Number r.Wire with
 | .inl c=>some (r.From,c)
 | .inr (i,run)=>if i<0 then none else zCN (zaq m i) run sub r (valB b r)
def znH (m:Mes) (sub:zrz) (b:List UInt8) (x:List Rec×Option (Nat×Int)):Option (Int×Int):=match x.1.findSome? (zol m sub b) with
 | some p=>some p
 | none=>x.2.map fun p=>((p.1:Int),p.2)
def zgx (s:List Mes):Nat->Int->List UInt8->Option (Int×Int)
 | 0,k,b=>znH (zaD s k) none b (spl 0 b)
 | d+1,k,b=>znH (zaD s k) (some (zgx s d)) b (spl 0 b)
def argS (s:List Mes) (root d:Int):Int:=if zeu s=false then 9 else if root<0\/root>=s.length\/d<0\/d>64 then 2 else 0
theorem zAT (h:argS s root d=0):zjh s/\0<=root/\root<s.length/\0<=d/\d<=64:=by
 unfold argS at h;split at h
 ·omega
 ·rename_i h1;split at h
  ·omega
  ·rename_i h2;exact ⟨zjK (by simpa using h1),by omega⟩
theorem zlV :znH m sub b x=none↔(∀r∈x.1,zol m sub b r=none)/\x.2=none:=by
 unfold znH;cases h:x.1.findSome? (zol m sub b) with
 | some p=>
  refine ⟨(fun h'=>nomatch h'),fun ⟨h1,_⟩=>?_⟩;obtain ⟨r,hr,hs⟩:=List.exists_of_findSome?_eq_some h;rw [h1 r hr] at hs;cases hs
 | none=>
  rw [List.findSome?_eq_none_iff] at h;cases hx:x.2 with
  | none=>exact ⟨fun _=>⟨h,rfl⟩,fun _=>rfl⟩
  | some p=>exact ⟨(fun h'=>nomatch h'),fun ⟨_,h2⟩=>nomatch h2⟩
theorem zrW (z:List UInt8) (h0:0<=r.To) (h:r.To<=b.length):valB (b++z) r=valB b r:=by
 unfold valB;by_cases ha:r.At.toNat<=b.length
 ·rw [qK ha,py (by simp;omega)]
 ·have e:r.To.toNat - r.At.toNat=0:=by omega
  rw [e,yu,yu]
theorem zpO (a b:List UInt8) (h0:0<=r.At) (h1:r.At<=r.To):valB (a++b) (zkw a.length r)=valB b r:=by
 unfold valB zkw;simp only;have e1:(r.At+(a.length:Int)).toNat=a.length+r.At.toNat:=by omega
 have e2:(r.To+(a.length:Int)).toNat - (a.length+r.At.toNat)=r.To.toNat - r.At.toNat:=by omega
 rw [e1,e2,<-qa,List.drop_left]
theorem zua (hn:r'.Number=r.Number) (hw:r'.Wire=r.Wire) (hv:valB b' r'=valB b r):zol m sub b' r'=none↔zol m sub b r=none:=by
 unfold zol;rw [hn,hw,hv];cases vw m r.Number r.Wire with
 | inl c=>simp
 | inr p=>
  simp only;by_cases hi:p.1<0
  ·simp [hi]
  ·rw [xw hi,xw hi];unfold zCN;by_cases hr:p.2=true
   ·rw [xx hr,xx hr];by_cases he:(zzZ (zaq m p.1).Kind (valB b r)).2≠0
    ·rw [xx he,xx he];simp
    ·rw [xw he,xw he]
   ·rw [xw hr,xw hr];by_cases h15:(zaq m p.1).Kind=15/\zit (valB b r)=false
    ·rw [xx h15,xx h15];simp
    ·rw [xw h15,xw h15];by_cases h17:(zaq m p.1).Kind=17
     ·rw [xx h17,xx h17];cases sub with
      | none=>simp
      | some g=>simp only;cases g (zaq m p.1).Of (valB b r)<;>simp
     ·rw [xw h17,xw h17]
theorem ztZ (base:Nat) (l:List UInt8):∀r∈(spl base l).1,(base:Int)<=r.From/\r.From<r.At/\r.At<=r.To/\r.To<=base+l.length:=by
 refine zwO (fun base l=>∀r∈(spl base l).1,(base:Int)<=r.From/\r.From<r.At/\r.At<=r.To/\r.To<=base+l.length) ?_ ?_ ?_ base l
 ·intro base r hr;rw [zoO] at hr;cases hr
 ·intro base l c hl h _ r hr;rw [zsF hl h] at hr;cases hr
 ·intro base l n w a t hl h _ g1 g2 g3 ih r hr;rw [zoj hl h] at hr;rcases xC.1 hr with rfl| hr
  ·simp only;omega
  ·have:=ih r hr;simp only [yn] at this;omega
theorem zrG (z:List UInt8) (h:znH m sub a (spl 0 a)=none):znH m sub (a++z) (spl 0 (a++z))=none↔znH m sub z (spl 0 z)=none:=by
 rw [zlV] at h;have hap:=ztY z 0 a h.2;have hsh:=zvJ a.length 0 z;rw [xH] at hap hsh;rw [hsh] at hap;rw [zlV,zlV,hap];simp only [xE,xK];constructor
 ·rintro ⟨h1,h2⟩;refine ⟨fun r hr=>?_,by cases hz:(spl 0 z).2 with| none=>rfl| some p=>rw [hz] at h2;cases h2⟩;have hb:=ztZ 0 z r hr;have:=h1 (zkw a.length r) (.inr ⟨r,hr,rfl⟩);exact (zua (r:=r) (r':=zkw a.length r) rfl rfl (zpO a z (by omega) (by omega))).1 this
 ·rintro ⟨h1,h2⟩;refine ⟨fun r hr=>?_,by rw [h2];rfl⟩;rcases hr with hr| ⟨r,hr,rfl⟩
  ·have hb:=ztZ 0 a r hr;exact (zua (r:=r) (r':=r) rfl rfl (zrW z (by omega) (by omega))).2 (h.1 r hr)
  ·have hb:=ztZ 0 z r hr;exact (zua (r:=r) (r':=zkw a.length r) rfl rfl (zpO a z (by omega) (by omega))).2 (h1 r hr)
theorem zqb (s:List Mes) (d:Nat) (k:Int) (z:List UInt8) (h:zgx s d k a=none):zgx s d k (a++z)=none↔zgx s d k z=none:=by
 cases d with
 | zero=>exact zrG z h
 | succ d=>exact zrG z h
abbrev zdH:=List Int
def begB (way w:zdH):Bool:=w.isPrefixOf way
def zFD:zdH->zdH->Bool
 | [],b=> !b.isEmpty
 | _::_,[]=>false
 | x::a,y::b=>if x=y then zFD a b else decide (x<y)
def hasB (ways:List zdH) (way:zdH):Bool:=ways.any fun v=> !v.isEmpty&&begB way v
def zmP (m:List zdH) (n:Int):Bool:=m.any fun v=>v==[n]
def zGs (n:Int):zdH->Option zdH
 | x::y::v=>if x=n then some (y::v) else none
 | _=>none
def zlJ (m:List zdH) (n:Int):List zdH:=m.filterMap (zGs n)
def zlh (s:List Mes) (root:Int):Int:=if zeu s=false then 9 else if root<0\/root>=s.length then 2 else 0
theorem zxm (h:zlh s root=0):zjh s/\0<=root/\root<s.length:=by
 unfold zlh at h;split at h
 ·omega
 ·rename_i h1;split at h
  ·omega
  ·exact ⟨zjK (by simpa using h1),by omega⟩
abbrev Msg:=zc
abbrev Vlu:=za
mutual
def szM:Msg->Nat
 | ⟨vs,_⟩=>1+szVs vs
def szVs:List Vlu->Nat
 | []=>0
 | v::l=>szV v+szVs l
def szV:Vlu->Nat
 | ⟨_,_,_,s⟩=>1+szMs s
def szMs:List Msg->Nat
 | []=>0
 | x::l=>szM x+szMs l
end
theorem zbU (x:Msg):szM x=1+szVs x.Values:=by cases x;rw [szM]
theorem zee (v:Vlu):szV v=1+szMs v.Subs:=by cases v;rw [szV]
theorem zdu :∀{l:List Vlu},v∈l->szV v<=szVs l
 | [],h=>by cases h
 | u::l,h=>by
  rw [szVs];rcases xC.1 h with rfl| h
  ·omega
  ·have:=zdu h;omega
theorem zdt :∀{l:List Msg},x∈l->szM x<=szMs l
 | [],h=>by cases h
 | u::l,h=>by
  rw [szMs];rcases xC.1 h with rfl| h
  ·omega
  ·have:=zdt h;omega
mutual
/-- Within the reach of what a law is handed. -/
def bdM:Msg->Prop
 | ⟨vs,u⟩=>vs.length*80<=140737488351232/\(u.length*16<=140737488351232/\∀t∈u,t.length<=140737488351232)/\bdVs vs
def bdVs:List Vlu->Prop
 | []=>True
 | v::l=>bdV v/\bdVs l
def bdV:Vlu->Prop
 | ⟨n,w,t,s⟩=>(Lit.int .i64 n).wf=true/\(w.length*8<=140737488351232/\∀x∈w,0<=x/\x<=18446744073709551615)/\(t.length*16<=140737488351232/\∀x∈t,x.length<=140737488351232)/\s.length*48<=140737488351232/\bdMs s
def bdMs:List Msg->Prop
 | []=>True
 | x::l=>bdM x/\bdMs l
end
theorem zgz (x:Msg):bdM x↔x.Values.length*80<=140737488351232/\(x.Unknown.length*16<=140737488351232/\∀t∈x.Unknown,t.length<=140737488351232)/\bdVs x.Values:=by cases x;simp only [bdM]
theorem zgr (v:Vlu):bdV v↔(Lit.int .i64 v.Number).wf=true/\(v.Words.length*8<=140737488351232/\∀x∈v.Words,0<=x/\x<=18446744073709551615)/\(v.Texts.length*16<=140737488351232/\∀x∈v.Texts,x.length<=140737488351232)/\v.Subs.length*48<=140737488351232/\bdMs v.Subs:=by cases v;simp only [bdV]
theorem zdJ:∀{l:List Vlu},bdVs l↔∀v∈l,bdV v
 | []=>by simp [bdVs]
 | v::l=>by rw [bdVs,zdJ (l:=l)];simp
theorem zdI:∀{l:List Msg},bdMs l↔∀v∈l,bdM v
 | []=>by simp [bdMs]
 | v::l=>by rw [bdMs,zdI (l:=l)];simp
section
open Classical
noncomputable def zmU {α:Type} (x y:α):Bool:=decide (x=y)
theorem zgL {α:Type} {x y:α}:zmU x y=true↔x=y:=by unfold zmU;simp
end
def zeY (v:Vlu):Nat:=v.Words.length+v.Texts.length+v.Subs.length
theorem zzC (hb:v.Words.length<=140737488351232/\v.Texts.length<=140737488351232/\v.Subs.length<=140737488351232):zco v=some ((zeY v:Nat):Int):=by
 unfold zco zeY;rw [zk (x:=(v.Words.length:Int)+(v.Texts.length:Int)) (by omega),pU];push_cast;rfl
mutual
def dM:Msg->Nat
 | ⟨vs,_⟩=>dVs vs
def dVs:List Vlu->Nat
 | []=>0
 | v::l=>max (dV v) (dVs l)
def dV:Vlu->Nat
 | ⟨_,_,_,s⟩=>dMs s
def dMs:List Msg->Nat
 | []=>0
 | x::l=>max (1+dM x) (dMs l)
end
theorem zzU (x:Msg):dM x=dVs x.Values:=by cases x;rw [dM]
theorem zzX (v:Vlu):dV v=dMs v.Subs:=by cases v;rw [dV]
theorem zwi :∀{l:List Vlu},v∈l->dV v<=dVs l
 | [],h=>by cases h
 | u::l,h=>by
  rw [dVs];rcases xC.1 h with rfl| h
  ·omega
  ·have:=zwi h;omega
theorem zzW :∀{l:List Msg},x∈l->1+dM x<=dMs l
 | [],h=>by cases h
 | u::l,h=>by
  rw [dMs];rcases xC.1 h with rfl| h
  ·omega
  ·have:=zzW h;omega
structure Th where
 fi:Int
 run:Bool
 val:List UInt8
 raw:List UInt8
def rawB (b:List UInt8) (r:Rec):List UInt8:=(b.drop r.From.toNat).take (r.To.toNat - r.From.toNat)
def thOf (b:List UInt8) (t:Vw):Th:=⟨t.Field,t.Run,valB b t.R,rawB b t.R⟩
def ths (m:Mes) (b:List UInt8):List Th:=(zFi m b).1.map (thOf b)
abbrev zBT:=List UInt8×Bool×List Int×List Str×List Msg
mutual
/-- How much a meaning is, all together. -/
def wgM:Msg->Nat
 | ⟨vs,u⟩=>1+(u.map fun t=>1+t.length).sum+wgVs vs
def wgVs:List Vlu->Nat
 | []=>0
 | v::l=>wgV v+wgVs l
def wgV:Vlu->Nat
 | ⟨_,w,t,s⟩=>1+w.length+(t.map fun t=>1+t.length).sum+wgMs s
def wgMs:List Msg->Nat
 | []=>0
 | x::l=>wgM x+wgMs l
end
theorem zhX (x:Msg):wgM x=1+(x.Unknown.map fun t=>1+t.length).sum+wgVs x.Values:=by cases x;rw [wgM]
theorem zhr (v:Vlu):wgV v=1+v.Words.length+(v.Texts.map fun t=>1+t.length).sum+wgMs v.Subs:=by cases v;rw [wgV]
theorem zov :∀{l:List Vlu},v∈l->wgV v<=wgVs l
 | [],h=>by cases h
 | u::l,h=>by
  rw [wgVs];rcases xC.1 h with rfl| h
  ·omega
  ·have:=zov h;omega
theorem zjg :∀{l:List Msg},x∈l->wgM x<=wgMs l
 | [],h=>by cases h
 | u::l,h=>by
  rw [wgMs];rcases xC.1 h with rfl| h
  ·omega
  ·have:=zjg h;omega
theorem zmN :∀{l:List Str},t∈l->1+t.length<=(l.map fun t=>1+t.length).sum
 | [],h=>by cases h
 | u::l,h=>by
  rw [xM,yz];rcases xC.1 h with rfl| h
  ·omega
  ·have:=zmN h;omega
theorem zsG:∀{l:List Str},l.length<=(l.map fun t=>1+t.length).sum
 | []=>by simp
 | u::l=>by
  rw [xM,yz,xY];have:=zsG (l:=l);omega
theorem zyO:∀(l:List Vlu),l.length<=wgVs l
 | []=>by simp [wgVs]
 | u::l=>by rw [wgVs,xY,zhr];have:=zyO l;omega
theorem zul:∀(l:List Msg),l.length<=wgMs l
 | []=>by simp [wgMs]
 | u::l=>by rw [wgMs,xY,zhX];have:=zul l;omega
def unkR (m:Mes) (u:Str):Bool:=(zql u 0).2==0&&(zql u 0).1.To==(u.length:Int)&&decide (fldI m (zql u 0).1.Number<0)
def zjq (f:Fld) (w:Int):Bool:=kNum f.Kind&&zbe f.Kind w==w
def zky (f:Fld) (t:Str):Bool:=f.Kind==16|| (f.Kind==15&&zit t)
def zmS (f:Fld) (v:Vlu):Bool:=decide (0<zeY v)&&(decide (zeY v<=1)|| f.Repeated)&&zdr f.Kind
mutual
def zaH (s:List Mes):Msg->Int->Bool
 | ⟨vs,u⟩,k=>decide (0<=k/\k<s.length)&&zeW s vs (zaD s k) none&&u.all (unkR (zaD s k))
def zeW (s:List Mes):List Vlu->Mes->Option Int->Bool
 | [],_,_=>true
 | v::l,m,p=>decide (0<=fldI m v.Number)&&p.all (fun n=>decide (n<v.Number))&&zdL s v (zaq m (fldI m v.Number))&&zeW s l m (some v.Number)
def zdL (s:List Mes):Vlu->Fld->Bool
 | ⟨n,w,t,sub⟩,f=>zmS f ⟨n,w,t,sub⟩&&w.all (zjq f)&&t.all (zky f)&&zoL s sub f
def zoL (s:List Mes):List Msg->Fld->Bool
 | [],_=>true
 | x::l,f=>(f.Kind==17&&zaH s x f.Of)&&zoL s l f
end
theorem zjL (s:List Mes) (x:Msg) (k:Int):zaH s x k=(decide (0<=k/\k<s.length)&&zeW s x.Values (zaD s k) none&&x.Unknown.all (unkR (zaD s k))):=by cases x;rw [zaH]
theorem zqc (s:List Mes) (v:Vlu) (f:Fld):zdL s v f=(zmS f v&&v.Words.all (zjq f)&&v.Texts.all (zky f)&&zoL s v.Subs f):=by cases v;rw [zdL]
theorem zkt (s:List Mes) (f:Fld):∀(l:List Msg),zoL s l f=l.all fun x=>f.Kind==17&&zaH s x f.Of
 | []=>by rw [zoL];rfl
 | x::l=>by rw [zoL,zkt s f l];rfl
theorem zpS {α:Type} (p:α->Bool) (l:List α) (F:Bool->Int->Option Bool) (h0:∀a,F a (l.length:Int)=some a)
  (hs:∀(a:Bool) (i:Nat) (h:i<l.length),F a (i:Int)=F (a&&p l[i]) ((i+1:Nat):Int)):∀(c i:Nat) (a:Bool),i+c=l.length->F a (i:Int)=some (a&&(l.drop i).all p)
 | 0,i,a,h=>by
  have e:l.drop i=[]:=yh (by omega);have hi:i=l.length:=by omega
  rw [e,hi,h0];simp
 | c+1,i,a,h=>by
  have hd:l.drop i=l[i]::l.drop (i+1):=yb (by omega);rw [hs a i (by omega),zpS p l F h0 hs c (i+1) _ (by omega),hd,yr,Bool.and_assoc]
def prv (vs:List Vlu) (i:Nat):Option Int:=if i=0 then none else (vs[i - 1]?).map (·.Number)
theorem zAH {s:List Mes} (hs:zjh s):∀(fuel:Nat),(∀(v:Vlu) (f:Fld),szV v<fuel->bdV v->zbp fuel s f v=some (zdL s v f))/\
  ∀(x:Msg) (k:Int),szM x<fuel->bdM x->zdT fuel s k x=some (zaH s x k)
 | 0=>⟨fun v f h=>by omega,fun x k h=>by omega⟩
 | fuel+1=>by
  obtain ⟨ih1,ih2⟩:=zAH hs fuel;refine ⟨fun v f we hb=>?_,fun x k we hb=>?_⟩
  ·obtain ⟨_,⟨b1,b1'⟩,⟨b2,b3⟩,b4,b5⟩:=(zgr v).1 hb;rw [zee] at we;show zeo (zbp fuel) (zdT fuel) s f v=_;unfold zeo;rw [zqc];have hg:(zco v>>=fun rv=>if (rv==0)=true then some true else (zco v>>=fun vV=>if (decide (vV>1))=true then (if (!f.Repeated)=true then some true else (zbM f.Kind>>=fun v8=>some (!v8))) else (zbM f.Kind>>=fun rv4=>some (!rv4))))=some (!zmS f v):=by
    rw [zzC ⟨by omega,by omega,by omega⟩,sb,sb,zqt,sb];unfold zmS;by_cases h0:zeY v=0
    ·rw [itT (by simp [h0])];simp [h0]
    ·rw [pT];by_cases h1:zeY v>1
     ·rw [pS];cases hr:f.Repeated
      ·rw [pP];simp;omega
      ·rw [pQ];simp;omega
     ·rw [pT];simp;omega
   rw [hg,sb];by_cases hm:zmS f v=true
   ·rw [itF (by rw [hm];rfl),hm,xL];have h1:=zpS (zjq f) v.Words (fun a i=>zcZ f v a i) (fun a=>by
      refine zlx ?_;unfold zbq;rw [pR])
     (fun a i hi=>by
      refine zlw ?_;unfold zbq;have hx:idx v.Words (i:Int)=some v.Words[i]:=zJ rfl hi;rw [pS,hx,sb,zpG,sb,zrQ _ (b1' _ (xF hi)),sb,sb,pU];unfold zjq;cases a
      ·rw [pQ,sb];push_cast;rfl
      ·rw [pP];cases kNum f.Kind
       ·rw [pQ,sb];push_cast;rfl
       ·rw [pP,sb];push_cast;rfl) v.Words.length 0 true (xH _)
    have h1':zcZ f v true 0=_:=h1;rw [h1',sb,xI,xL];have h2:=zpS (zky f) v.Texts (fun a i=>zda f v a i) (fun a=>by
      refine zlz ?_;unfold zbr;rw [pR])
     (fun a i hi=>by
      refine zly ?_;unfold zbr;have hx:idx v.Texts (i:Int)=some v.Texts[i]:=zJ rfl hi;have hl:=b3 _ (xF hi);rw [pS,hx,sb,pU];have e:lenO v.Texts[i]=some v.Texts[i]:=by unfold lenO;rw [xx (by omega)]
      rw [e,sb,zwI (by omega),sb];unfold zky;cases a
      ·rw [pQ,sb];push_cast;rfl
      ·rw [pP];by_cases h16:f.Kind=16
       ·rw [itT (by simpa using h16),sb];simp [h16]
       ·rw [itF (by simpa using h16)];by_cases h15:f.Kind=15
        ·rw [itT (by simpa using h15),sb];simp [h15]
        ·rw [itF (by simpa using h15),sb];simp [h15,h16]) v.Texts.length 0 (v.Words.all (zjq f)) (xH _)
    have h2':zda f v (v.Words.all (zjq f)) 0=_:=h2;rw [h2',sb,xI];have h3:=zpS (fun x=>f.Kind==17&&zaH s x f.Of) v.Subs (fun a i=>zdb f (zdT fuel) s v a i) (fun a=>by
      refine zlB ?_;unfold zbs;rw [pR])
     (fun a i hi=>by
      refine zlA ?_;unfold zbs;have hx:idx v.Subs (i:Int)=some v.Subs[i]:=zJ rfl hi;have hmem:=xF hi;have s1:=zdt hmem;rw [pS,hx,sb,pU,ih2 _ f.Of (by omega) (zdI.1 b5 _ hmem),sb];cases a
      ·rw [pQ,sb];push_cast;rfl
      ·rw [pP];by_cases h17:f.Kind=17
       ·rw [itT (by simpa using h17),sb];simp [h17]
       ·rw [itF (by simpa using h17),sb];simp [h17]) v.Subs.length 0 (v.Words.all (zjq f)&&v.Texts.all (zky f)) (xH _)
    have h3':zdb f (zdT fuel) s v (v.Words.all (zjq f)&&v.Texts.all (zky f)) 0=_:=h3;rw [h3',sb,xI,zkt]
   ·have hm':zmS f v=false:=by simpa using hm
    rw [itT (by rw [hm'];rfl),hm'];rfl
  ·obtain ⟨b1,⟨b2,b3⟩,b4⟩:=(zgz x).1 hb;rw [zbU] at we;show zea (zbp fuel) (zdT fuel) s k x=_;unfold zea;rw [zjL];by_cases hk:0<=k/\k<s.length
   ·rw [pT,xW hk,xL];obtain ⟨n,rfl⟩:∃n:Nat,k=n:=⟨k.toNat,by omega⟩;have hn:n<s.length:=by omega
    have hm:idx s (n:Int)=some (zaD s n):=by rw [zJ rfl hn,zhR hn]
    have hmm:zaD s (n:Int)∈s:=by rw [zhR hn];exact xF hn
    have hfew:=hs.few _ hmm
    generalize zaD s (n:Int)=m at hm hmm hfew|-
    have hv:∀(c i:Nat),i+c=x.Values.length->zcB (zbp fuel) n s x i=some (if zeW s (x.Values.drop i) m (prv x.Values i)=true then .inl () else .inr ()):=by
     intro c
     induction c with
     | zero=>
      intro i hi;have e:x.Values.drop i=[]:=yh (by omega);rw [e,zeW,xx rfl];refine zgS ?_;unfold zaX;rw [pT]
     | succ c ih=>
      intro i hi;have hil:i<x.Values.length:=by omega
      have hd:x.Values.drop i=x.Values[i]::x.Values.drop (i+1):=yb hil;have hx:idx x.Values (i:Int)=some x.Values[i]:=zJ rfl hil;have hmem:=xF hil;have s1:=zdu hmem;have hp1:prv x.Values (i+1)=some (x.Values[i]).Number:=by unfold prv;rw [xw (by omega)];simp [hil]
      rw [hd,zeW];have hbody:zaX (zbp fuel) n s x i=if (decide (0<=fldI m (x.Values[i]).Number)&&(prv x.Values i).all (fun q=>decide (q<(x.Values[i]).Number))&&zdL s x.Values[i] (zaq m (fldI m (x.Values[i]).Number)))=true then some (.inl ((i+1:Nat):Int)) else some (.inr (.inr ())):=by
       unfold zaX;have hw1:i64.wrap ((i:Int)+1)=((i+1:Nat):Int):=by rw [pU];push_cast;rfl
       rw [pS,hm,sb,hx,sb,znZ (by omega),sb,hw1];rcases zki m (x.Values[i]).Number with ⟨hf,_⟩| ⟨j,hj,hf,_⟩
       ·rw [hf,pP,sb,pP,xw (by simp)]
       ·have hfj:idx m.Fields (j:Int)=some (zaq m (j:Int)):=by rw [zJ rfl hj,zkh hj]
        have hfit:=ih1 x.Values[i] (zaq m (j:Int)) (by omega) (zdJ.1 b4 _ hmem);rw [hf,pR];by_cases hi0:i=0
        ·subst hi0;rw [pR,sb,hfj,sb,sb,hfit,sb,sb];unfold prv;cases hfv:zdL s x.Values[0] (zaq m (j:Int))
         ·rw [pP,xw (by simp)]
         ·rw [pQ,xx (by simp)]
        ·have hi1:i - 1<x.Values.length:=by omega
         have hxp:idx x.Values (i64.wrap ((i:Int) - 1))=some x.Values[i - 1]:=by
          rw [pU];exact zJ (by omega) hi1
         have hpv:prv x.Values i=some (x.Values[i - 1]).Number:=by unfold prv;rw [xw hi0];simp [hi1]
         rw [pS,hxp,sb,sb,hpv];by_cases vY:(x.Values[i - 1]).Number<(x.Values[i]).Number
         ·rw [itF (by simpa using vY),sb,hfj,sb,sb,hfit,sb,sb];cases hfv:zdL s x.Values[i] (zaq m (j:Int))
          ·rw [pP,xw (by simp)]
          ·rw [pQ,xx (by simp [vY])]
         ·rw [itT (by simpa using vY),sb,pP,xw (by simp;omega)]
      generalize (decide (0<=fldI m (x.Values[i]).Number)&&(prv x.Values i).all (fun q=>decide (q<(x.Values[i]).Number))&&zdL s x.Values[i] (zaq m (fldI m (x.Values[i]).Number)))=bb at hbody|-
      cases bb
      ·rw [xw (by simp)] at hbody;rw [zgS hbody,yq,xw (by simp)]
      ·rw [xx rfl] at hbody;rw [zkP hbody,ih _ (by omega),xL,hp1]
    have h1:=hv x.Values.length 0 (xH _);have h1':zcB (zbp fuel) n s x 0=_:=h1;have hp0:prv x.Values 0=none:=rfl;rw [xI,hp0] at h1';rw [h1',sb];cases hrv:zeW s x.Values m none
    ·rw [xw (by simp)];rfl
    ·rw [xx rfl,xL];simp only;have hu:∀(c i:Nat),i+c=x.Unknown.length->zcC n s x i=some (if (x.Unknown.drop i).all (unkR m)=true then .inl () else .inr ()):=by
      intro c
      induction c with
      | zero=>
       intro i hi;have e:x.Unknown.drop i=[]:=yh (by omega);rw [e,List.all_nil,xx rfl];refine zgT ?_;unfold zaY;rw [pT]
      | succ c ih=>
       intro i hi;have hil:i<x.Unknown.length:=by omega
       have hd:x.Unknown.drop i=x.Unknown[i]::x.Unknown.drop (i+1):=yb hil;have hx:idx x.Unknown (i:Int)=some x.Unknown[i]:=zJ rfl hil;have hl:=b3 _ (xF hil);have e:lenO x.Unknown[i]=some x.Unknown[i]:=by unfold lenO;rw [xx (by omega)]
       have hw1:i64.wrap ((i:Int)+1)=((i+1:Nat):Int):=by rw [pU];push_cast;rfl
       rw [hd,yr];have hbody:zaY n s x i=if unkR m x.Unknown[i]=true then some (.inl ((i+1:Nat):Int)) else some (.inr (.inr ())):=by
        unfold zaY unkR;rw [pS,hx,sb,e,sb,zyr (by omega),sb,hw1]
        generalize zql x.Unknown[i] 0=r
        by_cases c1:r.2=0
        ·rw [itF (by simpa using c1),sb];by_cases c2:r.1.To=(x.Unknown[i]).length
         ·rw [itF (by simpa using c2),hm,sb,znZ (by omega),sb,sb];by_cases c3:fldI m r.1.Number<0
          ·rw [itF (by simpa using c3),xx (by simp [c1,c2,c3])]
          ·rw [itT (by simpa using c3),xw (by simp [c1,c2];omega)]
         ·rw [itT (by simpa using c2),sb,pP,xw (by simp [c1,c2])]
        ·rw [itT (by simpa using c1),sb,pP,xw (by simp [c1])]
       cases hun:unkR m x.Unknown[i]
       ·rw [hun,xw (by simp)] at hbody;rw [zgT hbody,yq,xw (by simp)]
       ·rw [hun,xx rfl] at hbody;rw [zkQ hbody,ih _ (by omega),xL]
     have h2:=hu x.Unknown.length 0 (xH _);have h2':zcC n s x 0=_:=h2;rw [h2',sb,xI];cases x.Unknown.all (unkR m)<;>rfl
   ·rw [pS,xV hk];rfl
theorem zwG {s:List Mes} (hs:zjh s) {v:Vlu} (f:Fld) {fuel:Nat} (hf:szV v<fuel) (hb:bdV v):zbp fuel s f v=some (zdL s v f):=(zAH hs fuel).1 v f hf hb
theorem zqU {α:Type} (bytes:Nat) (l:List α) (hl:l.length*bytes<=140737488355328) (F:Int->List α->Option (List α)) (h0:∀a,F (l.length:Int) a=some a)
  (hs:∀(i:Nat) (h:i<l.length) (a:List α),(a.length+1)*bytes<=140737488355328->F (i:Int) a=F ((i+1:Nat):Int) (a++[l[i]])):∀(c i:Nat),i+c=l.length->F (i:Int) (l.take i)=some l
 | 0,i,h=>by
  have hi:i=l.length:=by omega
  rw [hi,h0,List.take_length]
 | c+1,i,h=>by
  have hil:i<l.length:=by omega
  have hb:(i+1)*bytes<=140737488355328:=yE (yg _ hil) hl;rw [hs i hil _ (by rw [ye,yX (by omega)];exact hb),List.take_append_getElem hil];exact zqU bytes l hl F h0 hs c (i+1) (by omega)
theorem zCi:∀(fuel:Nat),(∀x:Msg,szM x<fuel->bdM x->zfb fuel x=some x)/\∀v:Vlu,szV v<fuel->bdV v->zbi fuel v=some v
 | 0=>⟨fun x h=>by omega,fun v h=>by omega⟩
 | fuel+1=>by
  obtain ⟨ih1,ih2⟩:=zCi fuel;refine ⟨fun x we hb=>?_,fun v we hb=>?_⟩
  ·obtain ⟨b1,⟨b2,b3⟩,b4⟩:=(zgz x).1 hb;rw [zbU] at we;show zfg (zfb fuel) (zbi fuel) x=_;unfold zfg;have h:=zqU 80 x.Values (by omega) (fun i a=>zdR (zbi fuel) x i a) (fun a=>by
     refine zmw ?_;unfold zbL;rw [pR])
    (fun i hi a ha=>by
     have hm:=xF hi;have s1:=zdu hm;refine zmv ?_;unfold zbL;rw [pS,zJ rfl hi,sb,ih2 _ (by omega) (zdJ.1 b4 _ hm),sb,zfI (by rw [qY];exact ha),sb,pU];push_cast;rfl)
    x.Values.length 0 (xH _)
   have h':zdR (zbi fuel) x 0 []=_:=h;rw [zfI (by simp;omega),sb,h',sb,xZ];cases x;rfl
  ·obtain ⟨_,_,_,b4,b5⟩:=(zgr v).1 hb;rw [zee] at we;show zdm (zfb fuel) (zbi fuel) v=_;unfold zdm;have h:=zqU 48 v.Subs (by omega) (fun i a=>zbX (zfb fuel) v i a) (fun a=>by
     refine zjw ?_;unfold zaA;rw [pR])
    (fun i hi a ha=>by
     have hm:=xF hi;have s1:=zdt hm;refine zjv ?_;unfold zaA;rw [pS,zJ rfl hi,sb,ih1 _ (by omega) (zdI.1 b5 _ hm),sb,zfI (by rw [qY];exact ha),sb,pU];push_cast;rfl)
    v.Subs.length 0 (xH _)
   have h':zbX (zfb fuel) v 0 []=_:=h;rw [h',sb];cases v;rfl
theorem zxU (hf:szV v<fuel) (hb:bdV v):zbi fuel v=some v:=(zCi fuel).2 v hf hb
mutual
/-- No list is long. -/
def smM:Msg->Prop
 | ⟨vs,u⟩=>vs.length<=1048576/\(u.length<=1048576/\∀t∈u,t.length<=1048576)/\smVs vs
def smVs:List Vlu->Prop
 | []=>True
 | v::l=>smV v/\smVs l
def smV:Vlu->Prop
 | ⟨n,w,t,s⟩=>w.length<=1048576/\(t.length<=1048576/\∀x∈t,x.length<=1048576)/\s.length<=1048576/\smMs s
def smMs:List Msg->Prop
 | []=>True
 | x::l=>smM x/\smMs l
end
theorem zrq (x:Msg):smM x↔x.Values.length<=1048576/\(x.Unknown.length<=1048576/\∀t∈x.Unknown,t.length<=1048576)/\smVs x.Values:=by cases x;simp only [smM]
theorem zrr (v:Vlu):smV v↔v.Words.length<=1048576/\(v.Texts.length<=1048576/\∀x∈v.Texts,x.length<=1048576)/\v.Subs.length<=1048576/\smMs v.Subs:=by cases v;simp only [smV]
theorem zjc:∀{l:List Vlu},smVs l↔∀v∈l,smV v
 | []=>by simp [smVs]
 | v::l=>by rw [smVs,zjc (l:=l)];simp
theorem zjb:∀{l:List Msg},smMs l↔∀v∈l,smM v
 | []=>by simp [smMs]
 | v::l=>by rw [smMs,zjb (l:=l)];simp
theorem zrt (l:List Str) (F:Int->Int->Option Int) (h0:∀n,F n (l.length:Int)=some n)
  (hs:∀(i:Nat) (h:i<l.length) (n:Int),F n (i:Int)=F (i64.wrap (i64.wrap (n+1)+(l[i].length:Int))) ((i+1:Nat):Int)):∀(c i:Nat) (n:Int),i+c=l.length->
  ∃r,F n (i:Int)=some r/\((∀t∈l,t.length<=1048576)->0<=n->n+1048577*c<=4611686018427387904->r=n+(((l.drop i).map fun t=>1+t.length).sum:Nat)/\r<=n+1048577*c)
 | 0,i,n,h=>by
  have hi:i=l.length:=by omega
  refine ⟨n,by rw [hi,h0],fun _ _ _=>?_⟩;rw [hi,List.drop_length];simp
 | c+1,i,n,h=>by
  have hil:i<l.length:=by omega
  obtain ⟨r,hr,hw⟩:=zrt l F h0 hs c (i+1) (i64.wrap (i64.wrap (n+1)+(l[i].length:Int))) (by omega);refine ⟨r,by rw [hs i hil,hr],fun ht hn hc=>?_⟩;have:=ht _ (xF hil);have e:i64.wrap (i64.wrap (n+1)+(l[i].length:Int))=n+1+(l[i].length:Int):=by
   rw [zk (x:=n+1) (by omega),pU]
  rw [e] at hw;have hd:l.drop i=l[i]::l.drop (i+1):=yb hil;obtain ⟨w1,w2⟩:=hw ht (by omega) (by omega);rw [hd,xM,yz];push_cast at w1|-;omega
theorem zrb {α:Type} (l:List α) (g:α->Int) (F:Int->Int->Option (Int⊕Unit)) (h0:∀n,F n (l.length:Int)=some (.inl n))
  (hs:∀(i:Nat) (h:i<l.length) (n:Int),F n (i:Int)=if i64.wrap (n+g l[i])>=5000 then some (.inr ()) else F (i64.wrap (n+g l[i])) ((i+1:Nat):Int)):∀(c i:Nat) (n:Int),i+c=l.length->
  ∃q,F n (i:Int)=some q/\((∀a∈l,0<=g a/\g a<=4398046511104)->0<=n->n<=4398046511104->∀u,q= .inl u->u=n+((l.drop i).map g).sum/\0<=u/\(u<=n\/u<5000)/\∀a∈l.drop i,g a<5000)
 | 0,i,n,h=>by
  have hi:i=l.length:=by omega
  refine ⟨.inl n,by rw [hi,h0],fun _ _ _ u hu=>?_⟩;cases hu;rw [hi,List.drop_length];simp;omega
 | c+1,i,n,h=>by
  have hil:i<l.length:=by omega
  have hd:l.drop i=l[i]::l.drop (i+1):=yb hil;rw [hs i hil];by_cases h5:i64.wrap (n+g l[i])>=5000
  ·exact ⟨.inr (),by rw [xx h5],fun _ _ _ u hu=>by cases hu⟩
  ·obtain ⟨q,hq,hw⟩:=zrb l g F h0 hs c (i+1) (i64.wrap (n+g l[i])) (by omega);refine ⟨q,by rw [xw h5,hq],fun hg hn hnb u hu=>?_⟩;have hgi:=hg _ (xF hil);have e:i64.wrap (n+g l[i])=n+g l[i]:=by rw [pU]
   rw [e] at hw h5;obtain ⟨w1,w2,w3,w4⟩:=hw hg (by omega) (by omega) u hu;rw [hd,xM,yz];refine ⟨by omega,w2,by omega,fun a ha=>?_⟩;rcases xC.1 ha with rfl| ha
   ·omega
   ·exact w4 a ha
theorem zDz:∀(fuel:Nat),(∀(x:Msg) (d:Int),szM x<fuel->bdM x-> -1<=d->d<=1048576->∃r,zbS fuel x d=some r/\(smM x->0<=r/\r<=4398046511104/\(r<5000->r=wgM x/\(dM x:Int)<=d)))/\
  ∀(v:Vlu) (d:Int),szV v<fuel->bdV v->0<=d->d<=1048576->∃r,zan fuel v d=some r/\(smV v->0<=r/\r<=4398046511104/\(r<5000->r=wgV v/\(dV v:Int)<=d))
 | 0=>⟨fun x d h=>by omega,fun v d h=>by omega⟩
 | fuel+1=>by
  obtain ⟨ih1,ih2⟩:=zDz fuel;refine ⟨fun x d we hb hd hd2=>?_,fun v d we hb hd hd2=>?_⟩
  ·obtain ⟨b1,⟨b2,b3⟩,b4⟩:=(zgz x).1 hb;rw [zbU] at we;show∃r,zem (zbS fuel) (zan fuel) x d=some r/\_;unfold zem;by_cases hneg:d<0
   ·exact ⟨5000,by rw [itT (by simpa using hneg)],fun _=>⟨by omega,by omega,fun h=>by omega⟩⟩
   rw [itF (by simpa using hneg)];obtain ⟨n,hn,hnw⟩:=zrt x.Unknown (fun n i=>zcR x n i) (fun n=>by
     refine zll ?_;unfold zbj;rw [pR])
    (fun i hi n=>by
     refine zlk ?_;unfold zbj;have hw1:i64.wrap ((i:Int)+1)=((i+1:Nat):Int):=by rw [pU];push_cast;rfl
     rw [pS,zJ rfl hi,sb,hw1]) x.Unknown.length 0 1 (xH _)
   have hn':zcR x 1 0=some n:=hn;have hgg:∀v∈x.Values,∃r,zan fuel v d=some r/\(smV v->0<=r/\r<=4398046511104/\(r<5000->r=wgV v/\(dV v:Int)<=d)):=fun v hv=>by
    have:=zdu hv;exact ih2 v d (by omega) (zdJ.1 b4 _ hv) (by omega) hd2
   obtain ⟨q,hq,hqw⟩:=zrb x.Values (fun v=>(zan fuel v d).getD 0) (fun n i=>zcS d (zan fuel) x n i) (fun n=>by
     refine zha ?_;unfold zaJ;rw [pR])
    (fun i hi n=>by
     obtain ⟨r,hr,_⟩:=hgg _ (xF hi);have hw1:i64.wrap ((i:Int)+1)=((i+1:Nat):Int):=by rw [pU];push_cast;rfl
     simp only [hr,yS];split
     ·rename_i h5;refine zha ?_;unfold zaJ;rw [pS,zJ rfl hi,sb,hr,sb,itT (by simpa using h5)]
     ·rename_i h5;refine zlm ?_;unfold zaJ;rw [pS,zJ rfl hi,sb,hr,sb,itF (by simpa using h5),hw1]) x.Values.length 0 n (xH _)
   have hq':zcS d (zan fuel) x n 0=some q:=hq;rw [hn',sb,hq',sb];cases q with
   | inr u=>exact ⟨5000,rfl,fun _=>⟨by omega,by omega,fun h=>by omega⟩⟩
   | inl u=>
    refine ⟨u,rfl,fun hsm=>?_⟩;obtain ⟨s1,⟨s2,s3⟩,s4⟩:=(zrq x).1 hsm;obtain ⟨n1,n2⟩:=hnw s3 (by omega) (by omega);rw [xI] at n1;obtain ⟨u1,u2,u3,u4⟩:=hqw (fun v hv=>by
     obtain ⟨r,hr,hrw⟩:=hgg v hv;have:=hrw (zjc.1 s4 v hv);simp only [hr,yS];exact ⟨this.1,this.2.1⟩) (by omega) (by omega) u rfl
    rw [xI] at u1 u4;refine ⟨u2,by omega,fun _=>?_⟩;have hall:∀l:List Vlu,(∀v∈l,v∈x.Values)->(l.map fun v=>(zan fuel v d).getD 0).sum=(wgVs l:Int)/\(dVs l:Int)<=d:=by
     intro l
     induction l with
     | nil=>intro _;simp [wgVs,dVs];omega
     | cons v l ih=>
      intro hl;have hv:=hl v xy;obtain ⟨r,hr,hrw⟩:=hgg v hv;obtain ⟨_,_,hr3⟩:=hrw (zjc.1 s4 v hv);have h5:=u4 v hv;simp only [hr,yS] at h5;obtain ⟨e1,e2⟩:=hr3 h5;obtain ⟨i1,i2⟩:=ih fun w hw=>hl w (xz _ hw)
      rw [xM,yz,i1,hr,yS,wgVs,dVs];push_cast;omega
    obtain ⟨a1,a2⟩:=hall x.Values fun v hv=>hv
    rw [zhX,zzU];push_cast;refine ⟨?_,a2⟩;push_cast at n1;omega
  ·obtain ⟨_,⟨b1,_⟩,⟨b2,b3⟩,b4,b5⟩:=(zgr v).1 hb;rw [zee] at we;show∃r,zcG (zbS fuel) (zan fuel) v d=some r/\_;unfold zcG;rw [zk (x:=1+(v.Words.length:Int)) (by omega)];obtain ⟨n,hn,hnw⟩:=zrt v.Texts (fun n i=>zbH v n i) (fun n=>by
     refine ziM ?_;unfold zat;rw [pR])
    (fun i hi n=>by
     refine ziL ?_;unfold zat;have hw1:i64.wrap ((i:Int)+1)=((i+1:Nat):Int):=by rw [pU];push_cast;rfl
     rw [pS,zJ rfl hi,sb,hw1]) v.Texts.length 0 (1+(v.Words.length:Int)) (xH _)
   have hn':zbH v (1+(v.Words.length:Int)) 0=some n:=hn;have hgg:∀x∈v.Subs,∃r,zbS fuel x (d - 1)=some r/\(smM x->0<=r/\r<=4398046511104/\(r<5000->r=wgM x/\(dM x:Int)<=d - 1)):=fun x hx=>by
    have:=zdt hx;exact ih1 x (d - 1) (by omega) (zdI.1 b5 _ hx) (by omega) (by omega)
   have hd1:i64.wrap (d - 1)=d - 1:=by rw [pU]
   obtain ⟨q,hq,hqw⟩:=zrb v.Subs (fun x=>(zbS fuel x (d - 1)).getD 0) (fun n i=>zbI d (zbS fuel) v n i) (fun n=>by
     refine zfX ?_;unfold zai;rw [pR])
    (fun i hi n=>by
     obtain ⟨r,hr,_⟩:=hgg _ (xF hi);have hw1:i64.wrap ((i:Int)+1)=((i+1:Nat):Int):=by rw [pU];push_cast;rfl
     simp only [hr,yS];split
     ·rename_i h5;refine zfX ?_;unfold zai;rw [pS,zJ rfl hi,sb,hd1,hr,sb,itT (by simpa using h5)]
     ·rename_i h5;refine ziN ?_;unfold zai;rw [pS,zJ rfl hi,sb,hd1,hr,sb,itF (by simpa using h5),hw1]) v.Subs.length 0 n (xH _)
   have hq':zbI d (zbS fuel) v n 0=some q:=hq;rw [hn',sb,hq',sb];cases q with
   | inr u=>exact ⟨5000,rfl,fun _=>⟨by omega,by omega,fun h=>by omega⟩⟩
   | inl u=>
    refine ⟨u,rfl,fun hsm=>?_⟩;obtain ⟨s1,⟨s2,s3⟩,s5,s4⟩:=(zrr v).1 hsm;obtain ⟨n1,n2⟩:=hnw s3 (by omega) (by omega);rw [xI] at n1;obtain ⟨u1,u2,u3,u4⟩:=hqw (fun x hx=>by
     obtain ⟨r,hr,hrw⟩:=hgg x hx;have:=hrw (zjb.1 s4 x hx);simp only [hr,yS];exact ⟨this.1,this.2.1⟩) (by omega) (by omega) u rfl
    rw [xI] at u1 u4;refine ⟨u2,by omega,fun _=>?_⟩;have hall:∀l:List Msg,(∀x∈l,x∈v.Subs)->(l.map fun x=>(zbS fuel x (d - 1)).getD 0).sum=(wgMs l:Int)/\(dMs l:Int)<=d:=by
     intro l
     induction l with
     | nil=>intro _;simp [wgMs,dMs];omega
     | cons x l ih=>
      intro hl;have hx:=hl x xy;obtain ⟨r,hr,hrw⟩:=hgg x hx;obtain ⟨_,_,hr3⟩:=hrw (zjb.1 s4 x hx);have h5:=u4 x hx;simp only [hr,yS] at h5;obtain ⟨e1,e2⟩:=hr3 h5;obtain ⟨i1,i2⟩:=ih fun w hw=>hl w (xz _ hw)
      rw [xM,yz,i1,hr,yS,wgMs,dMs];push_cast;omega
    obtain ⟨a1,a2⟩:=hall v.Subs fun v hv=>hv
    rw [zhr,zzX];push_cast;refine ⟨?_,a2⟩;push_cast at n1;omega
def zHo (s:List Mes):Nat->zrz
 | 0=>none
 | e+1=>some (zgx s e)
theorem zpo (s:List Mes) (d:Nat) (k:Int) (b:List UInt8):zgx s d k b=znH (zaD s k) (zHo s d) b (spl 0 b):=by cases d<;>rfl
theorem zxD (s:List Mes) (d:Nat) (k:Int):zgx s d k []=none:=by rw [zpo,zoO];rfl
def vwG (m:Mes) (r:Rec):Int×Bool:=match vw m r.Number r.Wire with
 | .inl _=>(-1,false)
 | .inr p=>p
def thR (m:Mes) (b:List UInt8) (r:Rec):Th:=⟨(vwG m r).1,(vwG m r).2,valB b r,rawB b r⟩
theorem zDP :∀{l:List Rec},(∀r∈l,∃p,vw m r.Number r.Wire= .inr p)->vws m none l=(l.map fun r=>⟨r,(vwG m r).1,(vwG m r).2⟩,none)
 | [],_=>rfl
 | r::l,h=>by
  obtain ⟨p,hp⟩:=h r xy;rw [vws,hp,zDP fun x hx=>h x (xz _ hx)];simp only [xM,vwG,hp]
theorem zEW (h:zol m sub b r=none):∃p,vw m r.Number r.Wire= .inr p:=by
 unfold zol at h;cases hv:vw m r.Number r.Wire with
 | inl c=>rw [hv] at h;cases h
 | inr p=>exact ⟨p,rfl⟩
theorem zwU (h:zgx s d k b=none):ths (zaD s k) b=(spl 0 b).1.map (thR (zaD s k) b):=by
 rw [zpo,zlV] at h;unfold ths zFi;rw [h.2,zDP fun r hr=>zEW (h.1 r hr)];unfold vwR;simp only [pe];rfl
theorem zyl {b:List UInt8} (z:List UInt8) {r:Rec} (h0:0<=r.To) (h:r.To<=b.length):rawB (b++z) r=rawB b r:=by
 unfold rawB;by_cases ha:r.From.toNat<=b.length
 ·rw [qK ha,py (by simp;omega)]
 ·have e:r.To.toNat - r.From.toNat=0:=by omega
  rw [e,yu,yu]
theorem zzA (a b:List UInt8) {r:Rec} (h0:0<=r.From) (h1:r.From<=r.To):rawB (a++b) (zkw a.length r)=rawB b r:=by
 unfold rawB zkw;simp only;have e1:(r.From+(a.length:Int)).toNat=a.length+r.From.toNat:=by omega
 have e2:(r.To+(a.length:Int)).toNat - (a.length+r.From.toNat)=r.To.toNat - r.From.toNat:=by omega
 rw [e1,e2,<-qa,List.drop_left]
theorem zzJ {s:List Mes} {d:Nat} {k:Int} {a z:List UInt8} (ha:zgx s d k a=none) (hz:zgx s d k z=none):ths (zaD s k) (a++z)=ths (zaD s k) a++ths (zaD s k) z:=by
 rw [zwU ((zqb s d k z ha).2 hz),zwU ha,zwU hz];rw [zpo,zlV] at ha;have hap:=ztY z 0 a ha.2;have hsh:=zvJ a.length 0 z;rw [xH] at hap hsh;rw [hap,hsh];simp only [q7,pe];congr 1
 ·refine pB fun r hr=>?_
  have:=ztZ 0 a r hr;unfold thR;rw [zrW z (by omega) (by omega),zyl z (by omega) (by omega)]
 ·refine pB fun r hr=>?_
  have:=ztZ 0 z r hr;show thR _ _ (zkw a.length r)=_;unfold thR;rw [zpO a z (by omega) (by omega),zzA a z (by omega) (by omega)];rfl
structure OkT (s:List Mes) (d:Nat) (m:Mes) (t:Th):Prop where
 fi:t.fi= -1\/0<=t.fi/\t.fi<m.Fields.length
 unk:t.fi<0->unkR m t.raw=true
 run:0<=t.fi->t.run=true->kNum (zaq m t.fi).Kind=true/\(zaq m t.fi).Repeated=true/\(zzZ (zaq m t.fi).Kind t.val).2=0
 one:0<=t.fi->t.run=false->zdr (zaq m t.fi).Kind=true/\ziR (zcL (zaq m t.fi).Kind) t.val=true/\((zaq m t.fi).Kind=15->zit t.val=true)/\((zaq m t.fi).Kind=17->∃e,d=e+1/\zgx s e (zaq m t.fi).Of t.val=none)
structure zHt (s:List Mes) (d:Nat) (f:Fld) (a:zBT):Prop where
 words:∀w∈a.2.2.1,zjq f w=true
 texts:∀t∈a.2.2.2.1,zky f t=true
 numT:kNum f.Kind=true->a.2.2.2.1=[]
 subs:∀x∈a.2.2.2.2,f.Kind=17/\zaH s x f.Of=true/\1+dM x<=d
 join:f.Kind=17->∀e,d=e+1->zgx s e f.Of a.1=none
 met:a.2.1=true->f.Kind=17->∃e,d=e+1
 one:f.Repeated=false->a.2.2.1.length<=1/\a.2.2.2.1.length<=1/\a.2.2.2.2=[]
theorem zsx {k:Int} (h:kNum k=true):k≠17/\k≠15/\k≠16:=by rw [ziT] at h;omega
structure zHs (a:zBT):Prop where
 words:∀w∈a.2.2.1,0<=w/\w<=18446744073709551615
 texts:∀t∈a.2.2.2.1,t.length<=1048576
 subs:∀x∈a.2.2.2.2,bdM x/\smM x
def zfP (l:List Vlu):Prop:=l.Pairwise fun a b=>a.Number<b.Number
def look (l:List Vlu) (n:Int):Option Vlu:=l.find? fun v=>v.Number==n
theorem zfN (v:Vlu) (l:List Vlu) (n:Int):look (v::l) n=if v.Number=n then some v else look l n:=by
 unfold look;rw [List.find?_cons];by_cases h:v.Number=n
 ·rw [xx h];simp [h]
 ·rw [xw h];have:(v.Number==n)=false:=by simpa using h
  rw [this]
theorem zhw (h:look l n=some v):v.Number=n/\v∈l:=by
 unfold look at h;exact ⟨by simpa using List.find?_some h,List.mem_of_find?_eq_some h⟩
theorem zAv (h:∀v∈l,n<v.Number):look l n=none:=by
 unfold look;rw [List.find?_eq_none];intro v hv;have:=h v hv;simp;omega
theorem zyb (hr:zfP l) (h:v∈l):look l v.Number=some v:=by
 induction l with
 | nil=>cases h
 | cons u l ih=>
  obtain ⟨h1,h2⟩:=yD.1 hr;rw [zfN];rcases xC.1 h with rfl| h
  ·rw [xx rfl]
  ·have:=h1 v h;rw [xw (by omega),ih h2 h]
def putL (v:Vlu):Bool->List Vlu->List Vlu
 | done,[]=>if done=true then [] else [v]
 | done,u::l=>(if done=false/\v.Number<=u.Number then [v] else [])++((if u.Number=v.Number then [] else [u])++putL v (done|| decide (v.Number<=u.Number)) l)
theorem zyi (v:Vlu):∀(d:Bool) (l:List Vlu),(putL v d l).length<=l.length+(if d=true then 0 else 1)
 | d,[]=>by rw [putL];cases d<;>simp
 | d,u::l=>by
  have:=zyi v (d|| decide (v.Number<=u.Number)) l;rw [putL];simp only [xG,xY];cases d
  ·by_cases h:v.Number<=u.Number
   ·rw [xx ⟨rfl,h⟩];simp only [h,decide_true,qI,yp] at this|-;split<;>simp<;>omega
   ·rw [xw (fun hh=>h hh.2)];simp only [h,decide_false,qO,qj,ql] at this|-;split<;>simp<;>omega
  ·rw [xw (by simp)];simp only [ph,yp] at this|-;split<;>simp<;>omega
theorem zyj :∀{d:Bool} {l:List Vlu} {x:Vlu},x∈putL v d l->x=v/\d=false\/x∈l/\x.Number≠v.Number
 | d,[],x,h=>by
  rw [putL] at h;cases d
  ·rw [xw (by simp)] at h;exact .inl ⟨ym.1 h,rfl⟩
  ·rw [xx rfl] at h;cases h
 | d,u::l,x,h=>by
  rw [putL] at h;rcases xE.1 h with h| h
  ·split at h
   ·rename_i hc;exact .inl ⟨ym.1 h,hc.1⟩
   ·cases h
  ·rcases xE.1 h with h| h
   ·split at h
    ·cases h
    ·rename_i hc;rw [ym.1 h];exact .inr ⟨xy,hc⟩
   ·rcases zyj h with ⟨h1,h2⟩| ⟨h1,h2⟩
    ·refine .inl ⟨h1,?_⟩;cases d
     ·rfl
     ·simp at h2
    ·exact .inr ⟨xz _ h1,h2⟩
theorem znX :∀{d:Bool} {l:List Vlu},zfP l->zfP (putL v d l)
 | d,[],_=>by rw [putL];cases d<;>simp [zfP]
 | d,u::l,h=>by
  obtain ⟨h1,h2⟩:=yD.1 h;have ih:=znX (v:=v) (d:=d|| decide (v.Number<=u.Number)) h2;have hrest:∀x∈putL v (d|| decide (v.Number<=u.Number)) l,u.Number<x.Number:=fun x hx=>by
   rcases zyj hx with ⟨rfl,hd⟩| ⟨hx,_⟩
   ·simp at hd;omega
   ·exact h1 x hx
  rw [putL];have htail:zfP ((if u.Number=v.Number then [] else [u])++putL v (d|| decide (v.Number<=u.Number)) l):=by
   split
   ·exact ih
   ·exact yD.2 ⟨hrest,ih⟩
  split
  ·rename_i hc;rw [List.singleton_append];refine yD.2 ⟨fun x hx=>?_,htail⟩;rcases xE.1 hx with hx| hx
   ·split at hx
    ·cases hx
    ·rw [ym.1 hx];omega
   ·have:=hrest x hx;omega
  ·exact htail
theorem znN (l k:List Vlu) (n:Int):look (l++k) n=match look l n with| some v=>some v| none=>look k n:=by
 unfold look;rw [List.find?_append];cases l.find? (fun v=>v.Number==n)<;>rfl
theorem zts :∀{d:Bool} {l:List Vlu},zfP l->∀n,look (putL v d l) n=if n=v.Number then (if d=true then none else some v) else look l n
 | d,[],_,n=>by
  rw [putL];cases d
  ·rw [xw (show ¬(false=true) by simp),xw (show ¬(false=true) by simp),zfN];by_cases h:n=v.Number
   ·rw [xx h,xx h.symm]
   ·rw [xw h,xw (fun hh=>h hh.symm)]
  ·rw [xx rfl,xx rfl];split<;>rfl
 | d,u::l,h,n=>by
  obtain ⟨h1,h2⟩:=yD.1 h;have ih:=zts (v:=v) (d:=d|| decide (v.Number<=u.Number)) h2 n;rw [putL,znN,znN,ih,zfN u l n];by_cases hn:n=v.Number
  ·rw [xx hn,xx hn];have hu:look (if u.Number=v.Number then [] else [u]) n=none:=by
    split
    ·rfl
    ·rw [zfN,xw (by omega)];rfl
   rw [hu];cases d
   ·by_cases hle:v.Number<=u.Number
    ·rw [xx ⟨rfl,hle⟩,zfN,xx hn.symm];simp
    ·rw [xw (fun hh=>hle hh.2)];simp [look,hle]
   ·rw [xw (by simp)];simp [look]
  ·rw [xw hn,xw hn];have hv:look (if d=false/\v.Number<=u.Number then [v] else []) n=none:=by
    split
    ·rw [zfN,xw (fun hh=>hn hh.symm)];rfl
    ·rfl
   rw [hv];by_cases hu:u.Number=v.Number
   ·rw [xx hu,xw (by omega)];rfl
   ·rw [xw hu,zfN];by_cases hun:u.Number=n
    ·rw [xx hun,xx hun]
    ·rw [xw hun,xw hun];rfl
def putM (x:Msg) (v:Vlu):Msg:=⟨putL v (decide (zeY v=0)) x.Values,x.Unknown⟩
theorem zld :∀{l:List Vlu} {p:Option Int},zeW s l m p=true->∀v∈l,0<=fldI m v.Number/\zdL s v (zaq m (fldI m v.Number))=true/\p.all (fun n=>decide (n<v.Number))=true
 | [],p,_,v,hv=>by cases hv
 | u::l,p,h,v,hv=>by
  rw [zeW] at h;simp only [xA,xP] at h;obtain ⟨⟨⟨h1,h2⟩,h3⟩,h4⟩:=h;rcases xC.1 hv with rfl| hv
  ·exact ⟨h1,h3,h2⟩
  ·obtain ⟨g1,g2,g3⟩:=zld h4 v hv;refine ⟨g1,g2,?_⟩;cases p with
   | none=>rfl
   | some n=>
    simp at h2 g3|-;omega
theorem zoc :∀{l:List Vlu} {p:Option Int},zeW s l m p=true->zfP l
 | [],p,_=> .nil
 | u::l,p,h=>by
  rw [zeW] at h;simp only [xA,xP] at h;refine yD.2 ⟨fun v hv=>?_,zoc h.2⟩;have:=(zld h.2 v hv).2.2;simpa using this
theorem ztP :∀{l:List Vlu} {p:Option Int},zfP l->(∀v∈l,0<=fldI m v.Number/\zdL s v (zaq m (fldI m v.Number))=true/\p.all (fun n=>decide (n<v.Number))=true)->zeW s l m p=true
 | [],p,_,_=>by rw [zeW]
 | u::l,p,hr,h=>by
  obtain ⟨h1,h2⟩:=yD.1 hr;obtain ⟨a1,a2,a3⟩:=h u xy;rw [zeW,ztP h2 fun v hv=>⟨(h v (xz _ hv)).1,(h v (xz _ hv)).2.1,by simpa using h1 v hv⟩,a2,a3,xW a1];rfl
theorem zdc (h:zaH s x k=true):0<=k/\k<s.length/\zfP x.Values/\(∀v∈x.Values,0<=fldI (zaD s k) v.Number/\zdL s v (zaq (zaD s k) (fldI (zaD s k) v.Number))=true)/\∀u∈x.Unknown,unkR (zaD s k) u=true:=by
 rw [zjL] at h;simp only [xA,xP] at h;exact ⟨h.1.1.1,h.1.1.2,zoc h.1.2,fun v hv=>⟨(zld h.1.2 v hv).1,(zld h.1.2 v hv).2.1⟩,xJ.1 h.2⟩
theorem zvG (h1:0<=k) (h2:k<s.length) (h3:zfP x.Values) (h4:∀v∈x.Values,0<=fldI (zaD s k) v.Number/\zdL s v (zaq (zaD s k) (fldI (zaD s k) v.Number))=true) (h5:∀u∈x.Unknown,unkR (zaD s k) u=true):zaH s x k=true:=by
 rw [zjL,xW ⟨h1,h2⟩,ztP h3 fun v hv=>⟨(h4 v hv).1,(h4 v hv).2,rfl⟩,xJ.2 h5];rfl
structure zhZ (s:List Mes) (v:Vlu) (f:Fld):Prop where
 many:0<zeY v
 one:f.Repeated=false->zeY v=1
 kind:zdr f.Kind=true
 words:∀w∈v.Words,zjq f w=true
 texts:∀t∈v.Texts,zky f t=true
 subs:∀x∈v.Subs,f.Kind=17/\zaH s x f.Of=true
theorem zfc (h:zdL s v f=true):zhZ s v f:=by
 rw [zqc,zkt] at h;unfold zmS at h;simp only [xA,qv,xP,xJ,pj] at h;obtain ⟨⟨⟨⟨⟨h1,h2⟩,h3⟩,h4⟩,h5⟩,h6⟩:=h;refine ⟨h1,fun hr=>?_,h3,h4,h5,fun x hx=>?_⟩
 ·rw [hr] at h2;simp at h2;omega
 ·exact h6 x hx
theorem zAb (h:zhZ s v f):zdL s v f=true:=by
 obtain ⟨h1,h2,h3,h4,h5,h6⟩:=h;rw [zqc,zkt];unfold zmS;simp only [xA,qv,xP,xJ,pj];refine ⟨⟨⟨⟨⟨h1,?_⟩,h3⟩,h4⟩,h5⟩,fun x hx=>h6 x hx⟩;cases hr:f.Repeated with
 | true=>exact .inr rfl
 | false=>exact .inl (by have:=h2 hr;omega)
theorem zhZ.noWords (h:zhZ s v f) (hk:kNum f.Kind=false):v.Words=[]:=by
 cases hw:v.Words with
 | nil=>rfl
 | cons w l=>
  have:=h.words w (by rw [hw];exact xy);unfold zjq at this;rw [hk] at this;simp at this
theorem zhZ.noTexts (h:zhZ s v f) (hk:f.Kind≠15/\f.Kind≠16):v.Texts=[]:=by
 cases hw:v.Texts with
 | nil=>rfl
 | cons w l=>
  have:=h.texts w (by rw [hw];exact xy);unfold zky at this;simp at this;omega
theorem zhZ.noSubs {s:List Mes} {v:Vlu} {f:Fld} (h:zhZ s v f) (hk:f.Kind≠17):v.Subs=[]:=by
 cases hw:v.Subs with
 | nil=>rfl
 | cons w l=>exact absurd (h.subs w (by rw [hw];exact xy)).1 hk
theorem zhZ.msg (h:zhZ s v f) (hk:f.Kind=17) (hr:f.Repeated=false):∃x,v=⟨v.Number,[],[],[x]⟩/\zaH s x f.Of=true:=by
 have h1:=h.noWords (by rw [hk];rfl);have h2:=h.noTexts (by omega);have h3:=h.one hr;have h4:=h.subs;obtain ⟨n,w,t,sub⟩:=v;simp only at h1 h2 h4;subst h1 h2;unfold zeY at h3;simp at h3;obtain ⟨x,rfl⟩:∃x,sub=[x]:=by
  cases sub with
  | nil=>simp at h3
  | cons x l=>cases l with
   | nil=>exact ⟨x,rfl⟩
   | cons _ _=>simp at h3
 exact ⟨x,rfl,(h4 x xy).2⟩
mutual
/-- b zhK a. -/
def zmR (s:List Mes):Msg->Msg->Int->Msg
 | ⟨vs,u⟩,a,k=>⟨zio s vs a (zaD s k) a.Values,a.Unknown++u⟩
def zio (s:List Mes):List Vlu->Msg->Mes->List Vlu->List Vlu
 | [],_,_,acc=>acc
 | v::l,a,m,acc=>zio s l a m (putM ⟨acc,[]⟩ (zhP s v (look a.Values v.Number) (zaq m (fldI m v.Number)))).Values
def zhP (s:List Mes):Vlu->Option Vlu->Fld->Vlu
 | ⟨n,w,t,sub⟩,none,f=>⟨n,w,t,sub⟩
 | ⟨n,w,t,sub⟩,some u,f=>if f.Repeated=true then ⟨n,u.Words++w,u.Texts++t,u.Subs++sub⟩ else if f.Kind=17 then ⟨n,[],[],zlD s sub u.Subs f.Of⟩ else ⟨n,w,t,sub⟩
def zlD (s:List Mes):List Msg->List Msg->Int->List Msg
 | [],_,_=>[]
 | x::_,ys,k=>match ys with
  | []=>[]
  | y::_=>[zmR s x y k]
end
theorem znJ (s:List Mes) (b a:Msg) (k:Int):zmR s b a k=⟨zio s b.Values a (zaD s k) a.Values,a.Unknown++b.Unknown⟩:=by cases b;rw [zmR]
theorem znK (s:List Mes) (v:Vlu) (o:Option Vlu) (f:Fld):zhP s v o f=match o with
  | none=>v
  | some u=>if f.Repeated=true then ⟨v.Number,u.Words++v.Words,u.Texts++v.Texts,u.Subs++v.Subs⟩ else if f.Kind=17 then ⟨v.Number,[],[],zlD s v.Subs u.Subs f.Of⟩ else v:=by
 cases v;cases o<;>rw [zhP]
theorem zvj (s:List Mes) (v:Vlu) (o:Option Vlu) (f:Fld):(zhP s v o f).Number=v.Number:=by
 rw [znK];cases o with
 | none=>rfl
 | some u=>simp only;split;rfl;split<;>rfl
theorem zDf (acc:List Vlu) (u:List Str) (v:Vlu):(putM ⟨acc,u⟩ v).Values.length<=acc.length+1:=by
 have:=zyi v (decide (zeY v=0)) acc;unfold putM;simp only;split at this<;>omega
theorem zrK :∀{l acc:List Vlu},zfP acc->zfP l->(∀v∈l,0<zeY (zhP s v (look a.Values v.Number) (zaq m (fldI m v.Number))))->
  zfP (zio s l a m acc)/\∀n,look (zio s l a m acc) n=match look l n with
   | some v=>some (zhP s v (look a.Values n) (zaq m (fldI m n)))
   | none=>look acc n
 | [],acc,h1,_,_=>by rw [zio];exact ⟨h1,fun n=>rfl⟩
 | v::l,acc,h1,h2,h3=>by
  obtain ⟨l1,l2⟩:=yD.1 h2;have hv:=h3 v xy;have hnum:=zvj s v (look a.Values v.Number) (zaq m (fldI m v.Number));rw [zio];have hacc:zfP (putM ⟨acc,[]⟩ (zhP s v (look a.Values v.Number) (zaq m (fldI m v.Number)))).Values:=znX h1;obtain ⟨r1,r2⟩:=zrK (s:=s) (a:=a) (m:=m) hacc l2 fun u hu=>h3 u (xz _ hu)
  refine ⟨r1,fun n=>?_⟩;rw [r2 n,zfN];have hlk:look (putM ⟨acc,[]⟩ (zhP s v (look a.Values v.Number) (zaq m (fldI m v.Number)))).Values n=if n=v.Number then some (zhP s v (look a.Values v.Number) (zaq m (fldI m v.Number))) else look acc n:=by
   unfold putM;simp only;rw [zts h1 n,hnum];by_cases hn:n=v.Number
   ·rw [xx hn,xx hn,xw fun hh=>by have:=yW hh;omega]
   ·rw [xw hn,xw hn]
  by_cases hn:v.Number=n
  ·rw [xx hn,zAv fun u hu=>by have:=l1 u hu;omega,hlk,xx hn.symm];simp only [hn]
  ·rw [xw hn,hlk,xw fun hh=>hn hh.symm]
theorem ztk (hv:zhZ s v f) (ho:∀u,o=some u->zhZ s u f):0<zeY (zhP s v o f):=by
 rw [znK];cases o with
 | none=>exact hv.many
 | some u=>
  have:=hv.many;simp only;by_cases hr:f.Repeated=true
  ·rw [xx hr];unfold zeY at this|-;simp only [xG];omega
  ·rw [xw hr];by_cases h17:f.Kind=17
   ·rw [xx h17];obtain ⟨x,hvx,_⟩:=hv.msg h17 (by simpa using hr);obtain ⟨y,huy,_⟩:=(ho u rfl).msg h17 (by simpa using hr);rw [hvx,huy,zlD];simp [zeY]
   ·rw [xw h17];exact this
theorem zvr (ha:zaH s a k=true) (hb:zaH s b k=true):zfP (zmR s b a k).Values/\∀n,look (zmR s b a k).Values n=match look b.Values n with
   | some v=>some (zhP s v (look a.Values n) (zaq (zaD s k) (fldI (zaD s k) n)))
   | none=>look a.Values n:=by
 obtain ⟨_,_,ra,ha',_⟩:=zdc ha;obtain ⟨_,_,rb,hb',_⟩:=zdc hb;rw [znJ];exact zrK ra rb fun v hv=>ztk (zfc (hb' v hv).2) fun u hu=>by
  obtain ⟨e,hm⟩:=zhw hu;have:=zfc (ha' u hm).2;rw [e] at this;exact this
def zpb (s:List Mes) (root:Int) (l:List Msg):Int:=if zlh s root≠0 then zlh s root else if l.all (fun x=>zaH s x root)=true then 0 else 12
mutual
/-- Kept or left by ways. -/
def zqr (s:List Mes):Msg->Int->List zdH->Bool->Msg
 | ⟨vs,u⟩,k,w,keep=>⟨zhS s vs (zaD s k) w keep,if keep=true then [] else u⟩
def zhS (s:List Mes):List Vlu->Mes->List zdH->Bool->List Vlu
 | [],_,_,_=>[]
 | v::l,m,w,keep=>ztG s v (zaq m (fldI m v.Number)) w keep++zhS s l m w keep
def ztG (s:List Mes):Vlu->Fld->List zdH->Bool->List Vlu
 | ⟨n,a,t,sub⟩,f,w,keep=>if zmP w n=false/\zlJ w n≠[]/\f.Kind=17/\f.Repeated=false then [⟨n,[],[],znS s sub f.Of (zlJ w n) keep⟩]
  else if zmP w n=keep then [⟨n,a,t,sub⟩] else []
def znS (s:List Mes):List Msg->Int->List zdH->Bool->List Msg
 | [],_,_,_=>[]
 | x::_,k,w,keep=>[zqr s x k w keep]
end
theorem ztE (s:List Mes) (x:Msg) (k:Int) (w:List zdH) (keep:Bool):zqr s x k w keep=⟨zhS s x.Values (zaD s k) w keep,if keep=true then [] else x.Unknown⟩:=by cases x;rw [zqr]
theorem zqs (s:List Mes) (v:Vlu) (f:Fld) (w:List zdH) (keep:Bool):ztG s v f w keep=if zmP w v.Number=false/\zlJ w v.Number≠[]/\f.Kind=17/\f.Repeated=false then [⟨v.Number,[],[],znS s v.Subs f.Of (zlJ w v.Number) keep⟩]
  else if zmP w v.Number=keep then [v] else []:=by cases v;rw [ztG]
theorem zBt (s:List Mes) (v:Vlu) (f:Fld) (w:List zdH) (keep:Bool):(ztG s v f w keep).length<=1:=by
 rw [zqs];split;simp;split<;>simp
theorem zzm (hv:zhZ s v f) (ho:∀u,o=some u->zhZ s u f)
  (ih:∀x∈v.Subs,∀y:Msg,zaH s x f.Of=true->zaH s y f.Of=true->zaH s (zmR s x y f.Of) f.Of=true):zhZ s (zhP s v o f) f:=by
 have hm:=ztk hv ho;rw [znK] at hm|-;cases o with
 | none=>exact hv
 | some u=>
  have hu:=ho u rfl;simp only at hm|-;by_cases hr:f.Repeated=true
  ·rw [xx hr] at hm|-;refine ⟨hm,(fun h=>by rw [hr] at h;cases h),hv.kind,fun w hw=>?_,fun w hw=>?_,fun w hw=>?_⟩
   ·rcases xE.1 hw with hw| hw
    ·exact hu.words w hw
    ·exact hv.words w hw
   ·rcases xE.1 hw with hw| hw
    ·exact hu.texts w hw
    ·exact hv.texts w hw
   ·rcases xE.1 hw with hw| hw
    ·exact hu.subs w hw
    ·exact hv.subs w hw
  ·rw [xw hr] at hm|-;by_cases h17:f.Kind=17
   ·rw [xx h17] at hm|-;obtain ⟨x,hvx,hx⟩:=hv.msg h17 (by simpa using hr);obtain ⟨y,huy,hy⟩:=hu.msg h17 (by simpa using hr);have hvs:v.Subs=[x]:=by rw [hvx]
    have hus:u.Subs=[y]:=by rw [huy]
    rw [hvs,hus,zlD];refine ⟨by simp [zeY],(fun _=>by simp [zeY]),hv.kind,(fun w hw=>nomatch hw),(fun w hw=>nomatch hw),fun w hw=>?_⟩;rw [ym.1 hw];exact ⟨h17,ih x (by rw [hvs];exact xy) y hx hy⟩
   ·rw [xw h17] at hm|-;exact hv
theorem zrH :∀(N:Nat) (b a:Msg) (k:Int),szM b<=N->zaH s a k=true->zaH s b k=true->zaH s (zmR s b a k) k=true
 | 0,b,a,k,h,_,_=>by rw [zbU] at h;omega
 | N+1,b,a,k,we,ha,hb=>by
  obtain ⟨k0,k1,ra,ha',ua⟩:=zdc ha;obtain ⟨_,_,rb,hb',ub⟩:=zdc hb;obtain ⟨j1,j2⟩:=zvr ha hb;rw [zbU] at we;refine zvG k0 k1 j1 (fun v hv=>?_) fun u hu=>?_
  ·have hl:=zyb j1 hv;rw [j2] at hl;cases hbl:look b.Values v.Number with
   | none=>
    rw [hbl] at hl;simp only at hl;exact ha' v (zhw hl).2
   | some w=>
    rw [hbl] at hl;simp only at hl;obtain ⟨wn,wm⟩:=zhw hbl;obtain ⟨w0,wf⟩:=hb' w wm;rw [wn] at w0 wf;have hfw:=zfc wf;have s1:=zdu wm;rw [zee] at s1;refine ⟨w0,zAb ?_⟩;have hvj:zhP s w (look a.Values v.Number) (zaq (zaD s k) (fldI (zaD s k) v.Number))=v:=qi hl;have:=zzm (o:=look a.Values v.Number) hfw (fun u hu=>by
     obtain ⟨un,um⟩:=zhw hu;have:=zfc (ha' u um).2;rw [un] at this;exact this) fun x hx y hxr hyr=>by
      have:=zdt hx;exact zrH N x y _ (by omega) hyr hxr
    rw [hvj] at this;exact this
  ·rw [znJ] at hu;rcases xE.1 hu with hu| hu
   ·exact ua u hu
   ·exact ub u hu
theorem zvH (hg:∀v u,g v=some u->u.Number=v.Number):∀{l:List Vlu},zfP l->zfP (l.filterMap g)
 | [],_=> .nil
 | v::l,h=>by
  obtain ⟨h1,h2⟩:=yD.1 h;have ih:=zvH hg h2;cases e:g v with
  | none=>rw [List.filterMap_cons_none e];exact ih
  | some u=>
   rw [List.filterMap_cons_some e];refine yD.2 ⟨fun w hw=>?_,ih⟩;obtain ⟨w',hw',e'⟩:=List.mem_filterMap.1 hw;rw [hg _ _ e,hg _ _ e'];exact h1 w' hw'
def goB (m:Mes) (w:List zdH) (v:Vlu):Bool:= !zmP w v.Number&&decide (zlJ w v.Number≠[])&&decide ((zaq m (fldI m v.Number)).Kind=17)&& !(zaq m (fldI m v.Number)).Repeated
theorem zwm :goB m w v=true↔zmP w v.Number=false/\zlJ w v.Number≠[]/\(zaq m (fldI m v.Number)).Kind=17/\(zaq m (fldI m v.Number)).Repeated=false:=by
 unfold goB;simp only [xA,yd,xP,and_assoc]
def inV (s:List Mes) (m:Mes) (w:List zdH) (keep:Bool) (v:Vlu):Vlu:=⟨v.Number,[],[],znS s v.Subs (zaq m (fldI m v.Number)).Of (zlJ w v.Number) keep⟩
def ztF (s:List Mes) (m:Mes) (w:List zdH) (keep:Bool) (v:Vlu):Option Vlu:=if goB m w v=true then some (inV s m w keep v) else if zmP w v.Number=keep then some v else none
theorem zvz (v u:Vlu) (h:ztF s m w keep v=some u):u.Number=v.Number:=by
 unfold ztF at h;split at h
 ·cases h;rfl
 ·split at h
  ·cases h;rfl
  ·cases h
theorem zvA (s:List Mes) (m:Mes) (w:List zdH) (keep:Bool):∀l:List Vlu,zhS s l m w keep=l.filterMap (ztF s m w keep)
 | []=>by rw [zhS];rfl
 | v::l=>by
  rw [zhS,zvA s m w keep l,zqs];by_cases hg:goB m w v=true
  ·rw [xx (zwm.1 hg),List.filterMap_cons_some (b:=inV s m w keep v) (by unfold ztF;rw [xx hg])];rfl
  ·rw [xw (fun h=>hg (zwm.2 h))];by_cases hk:zmP w v.Number=keep
   ·rw [xx hk,List.filterMap_cons_some (b:=v) (by unfold ztF;rw [xw hg,xx hk])];rfl
   ·rw [xw hk,List.filterMap_cons_none (by unfold ztF;rw [xw hg,xw hk])];rfl
theorem zEj (hg:goB m w v=true) (hf:zhZ s v (zaq m (fldI m v.Number))):∃y,v=⟨v.Number,[],[],[y]⟩/\zaH s y (zaq m (fldI m v.Number)).Of=true/\∀keep,inV s m w keep v=⟨v.Number,[],[],[zqr s y (zaq m (fldI m v.Number)).Of (zlJ w v.Number) keep]⟩:=by
 obtain ⟨_,_,h3,h4⟩:=zwm.1 hg;obtain ⟨y,e,hy⟩:=hf.msg h3 h4;have hs:v.Subs=[y]:=by rw [e]
 refine ⟨y,e,hy,fun keep=>?_⟩;unfold inV;rw [hs,znS]
theorem zCn (hf:zhZ s ⟨n,[],[],[y]⟩ f) (hz:zaH s z f.Of=true):zhZ s ⟨k,[],[],[z]⟩ f:=
 ⟨by simp [zeY],(fun _=>by simp [zeY]),hf.kind,(fun w hw=>nomatch hw),(fun w hw=>nomatch hw),fun w hw=>by rw [ym.1 hw];exact ⟨(hf.subs y xy).1,hz⟩⟩
theorem zGA (hv:v∈x.Values) (e:v=⟨v.Number,[],[],[y]⟩):szM y<szM x:=by
 have s1:=zdu hv;rw [zee] at s1;have hs:v.Subs=[y]:=by rw [e]
 have s2:szM y<=szMs v.Subs:=zdt (by rw [hs];exact xy);rw [zbU x];omega
theorem zrP :∀(N:Nat) (x:Msg) (k:Int) (w:List zdH) (keep:Bool),szM x<=N->zaH s x k=true->zaH s (zqr s x k w keep) k=true
 | 0,x,k,w,keep,h,_=>by rw [zbU] at h;omega
 | N+1,x,k,w,keep,we,hx=>by
  obtain ⟨k0,k1,rx,hx',ux⟩:=zdc hx;rw [ztE,zvA];refine zvG k0 k1 (zvH zvz rx) (fun v hv=>?_) fun u hu=>?_
  ·obtain ⟨v0,hv0,e⟩:=List.mem_filterMap.1 hv;obtain ⟨w0,wf⟩:=hx' v0 hv0;have hn:=zvz _ _ e;unfold ztF at e;by_cases hg:goB (zaD s k) w v0=true
   ·rw [xx hg] at e;have hf:=zfc wf;obtain ⟨y,e1,hy,hin⟩:=zEj hg hf;rw [hin] at e;have hsy:=zGA hv0 e1;rw [hn];refine ⟨w0,zAb ?_⟩;rw [<-qi e];rw [e1] at hf;exact zCn hf (zrP N y _ _ _ (by omega) hy)
   ·rw [xw hg] at e;by_cases hk:zmP w v0.Number=keep
    ·rw [xx hk] at e;rw [<-qi e];exact ⟨w0,wf⟩
    ·rw [xw hk] at e;cases e
  ·cases keep with
   | true=>exact absurd hu (by simp)
   | false=>exact ux u hu
theorem ztl (s:List Mes) (a:Msg) (m:Mes):∀(l acc:List Vlu),(zio s l a m acc).length<=acc.length+l.length
 | [],acc=>by rw [zio];simp
 | v::l,acc=>by
  rw [zio];have h1:=ztl s a m l (putM ⟨acc,[]⟩ (zhP s v (look a.Values v.Number) (zaq m (fldI m v.Number)))).Values;have h2:=zDf acc [] (zhP s v (look a.Values v.Number) (zaq m (fldI m v.Number)));simp only [xY];omega
theorem zAl :∀(N:Nat) (b a:Msg) (k:Int),szM b<=N->zaH s a k=true->zaH s b k=true->bdM a->bdM b->smM a->smM b->bdM (zmR s b a k)
 | 0,b,a,k,h,_,_,_,_,_,_=>by rw [zbU] at h;omega
 | N+1,b,a,k,we,ha,hb,ba,bb,sa,sb'=>by
  obtain ⟨_,_,ra,ha',_⟩:=zdc ha;obtain ⟨_,_,rb,hb',_⟩:=zdc hb;obtain ⟨j1,j2⟩:=zvr ha hb;obtain ⟨a1,⟨a2,a3⟩,a4⟩:=(zgz a).1 ba;obtain ⟨b1,⟨b2,b3⟩,b4⟩:=(zgz b).1 bb;obtain ⟨sa1,⟨sa2,sa3⟩,sa4⟩:=(zrq a).1 sa;obtain ⟨sb1,⟨sb2,sb3⟩,sb4⟩:=(zrq b).1 sb';rw [zbU] at we;have wa:(zmR s b a k).Values.length<=a.Values.length+b.Values.length:=by rw [znJ];exact ztl s a _ _ _
  have hun:(zmR s b a k).Unknown=a.Unknown++b.Unknown:=by rw [znJ]
  refine (zgz _).2 ⟨by omega,⟨by rw [hun];simp;omega,fun t ht=>by
   rw [hun] at ht;rcases xE.1 ht with h| h
   ·exact a3 t h
   ·exact b3 t h⟩,zdJ.2 fun x hx=>?_⟩
  have hl:=zyb j1 hx;rw [j2] at hl;cases hlb:look b.Values x.Number with
  | none=>rw [hlb] at hl;exact zdJ.1 a4 x (zhw hl).2
  | some v=>
   rw [hlb] at hl;have e:x=zhP s v (look a.Values x.Number) (zaq (zaD s k) (fldI (zaD s k) x.Number)):=(qi hl).symm;obtain ⟨hvn,hvm⟩:=zhw hlb;have bv:=zdJ.1 b4 v hvm;have sv:=zjc.1 sb4 v hvm;rw [e,znK];cases hla:look a.Values x.Number with
   | none=>exact bv
   | some u=>
    obtain ⟨hun',hum⟩:=zhw hla;have bu:=zdJ.1 a4 u hum;have su:=zjc.1 sa4 u hum;obtain ⟨v1,⟨v2,v3⟩,⟨v4,v5⟩,v6,v7⟩:=(zgr v).1 bv;obtain ⟨u1,⟨u2,u3⟩,⟨u4,u5⟩,u6,u7⟩:=(zgr u).1 bu;obtain ⟨q1,⟨q2,q3⟩,q4,q5⟩:=(zrr v).1 sv;obtain ⟨r1,⟨r2,r3⟩,r4,r5⟩:=(zrr u).1 su;simp only;split
    ·refine (zgr _).2 ⟨v1,⟨by simp;omega,fun w hw=>?_⟩,⟨by simp;omega,fun w hw=>?_⟩,by simp;omega,zdI.2 fun w hw=>?_⟩
     ·rcases xE.1 hw with h| h
      ·exact u3 w h
      ·exact v3 w h
     ·rcases xE.1 hw with h| h
      ·exact u5 w h
      ·exact v5 w h
     ·rcases xE.1 hw with h| h
      ·exact zdI.1 u7 w h
      ·exact zdI.1 v7 w h
    ·split
     ·rename_i hrep h17;have fv:=hb' v hvm;have fu:=ha' u hum;rw [hvn] at fv;rw [hun'] at fu;have ov:=zfc fv.2;have ou:=zfc fu.2;refine (zgr _).2 ⟨v1,⟨by simp,by simp⟩,⟨by simp,by simp⟩,?_⟩;cases hvs:v.Subs with
      | nil=>rw [zlD];exact ⟨by simp,by rw [bdMs];trivial⟩
      | cons y ys=>
       cases hus:u.Subs with
       | nil=>rw [zlD];exact ⟨by simp,by rw [bdMs];trivial⟩
       | cons z zs=>
        rw [zlD];simp only;have hy:y∈v.Subs:=by rw [hvs];exact xy
        have hz:z∈u.Subs:=by rw [hus];exact xy
        have hsv:=zdu hvm;rw [zee] at hsv;have hsy:=zdt hy;have hj:=zAl N y z _ (by omega) (ou.subs z hz).2 (ov.subs y hy).2 (zdI.1 u7 z hz) (zdI.1 v7 y hy) (zjb.1 r5 z hz) (zjb.1 q5 y hy);exact ⟨by simp,by rw [bdMs,bdMs];exact ⟨hj,trivial⟩⟩
     ·exact bv
theorem zrU:∀(l m:List Vlu),szVs (l++m)=szVs l+szVs m
 | [],m=>by rw [xZ,szVs];omega
 | v::l,m=>by rw [yo,szVs,szVs,zrU l m];omega
theorem zAE :∀(N:Nat) (x:Msg) (k:Int) (w:List zdH) (keep:Bool),szM x<=N->bdM x->bdM (zqr s x k w keep)/\szM (zqr s x k w keep)<=szM x
 | 0,x,k,w,keep,h,_=>by rw [zbU] at h;omega
 | N+1,x,k,w,keep,we,hb=>by
  obtain ⟨b1,⟨b2,b3⟩,b4⟩:=(zgz x).1 hb;rw [zbU] at we;have key:∀v∈x.Values,∀f:Fld,(∀u∈ztG s v f w keep,bdV u)/\szVs (ztG s v f w keep)<=szV v:=fun v hv f=>by
   have bv:=zdJ.1 b4 v hv;obtain ⟨v1,v2,v3,v6,v7⟩:=(zgr v).1 bv;have hsv:=zdu hv;have hve:=zee v;rw [zqs];split
   ·cases hs:v.Subs with
    | nil=>
     rw [znS];refine ⟨fun u hu=>?_,?_⟩
     ·rw [ym.1 hu];exact (zgr _).2 ⟨v1,⟨by simp,by simp⟩,⟨by simp,by simp⟩,by simp,by rw [bdMs];trivial⟩
     ·rw [szVs,szVs,zee];simp only;rw [szMs];omega
    | cons y ys=>
     have hy:y∈v.Subs:=by rw [hs];exact xy
     have hsy:=zdt hy;obtain ⟨p1,p2⟩:=zAE N y f.Of (zlJ w v.Number) keep (by omega) (zdI.1 v7 y hy);rw [znS];refine ⟨fun u hu=>?_,?_⟩
     ·rw [ym.1 hu];exact (zgr _).2 ⟨v1,⟨by simp,by simp⟩,⟨by simp,by simp⟩,by simp,by rw [bdMs,bdMs];exact ⟨p1,trivial⟩⟩
     ·rw [szVs,szVs,zee];simp only;rw [szMs,szMs];omega
   ·split
    ·refine ⟨(fun u hu=>by rw [ym.1 hu];exact bv),?_⟩;rw [szVs,szVs];omega
    ·exact ⟨(fun u hu=>by cases hu),(by rw [szVs];omega)⟩
  have all:∀l:List Vlu,(∀v∈l,v∈x.Values)->(∀u∈zhS s l (zaD s k) w keep,bdV u)/\szVs (zhS s l (zaD s k) w keep)<=szVs l/\(zhS s l (zaD s k) w keep).length<=l.length:=by
   intro l
   induction l with
   | nil=>intro _;rw [zhS];exact ⟨(fun u hu=>by cases hu),xB _,xB _⟩
   | cons v l ih=>
    intro h;obtain ⟨i1,i2,i3⟩:=ih fun u hu=>h u (xz _ hu)
    obtain ⟨k1,k2⟩:=key v (h v xy) (zaq (zaD s k) (fldI (zaD s k) v.Number));have k3:=zBt s v (zaq (zaD s k) (fldI (zaD s k) v.Number)) w keep;rw [zhS];refine ⟨fun u hu=>?_,?_,?_⟩
    ·rcases xE.1 hu with hu| hu
     ·exact k1 u hu
     ·exact i1 u hu
    ·rw [zrU,szVs];omega
    ·rw [xG,xY];omega
  obtain ⟨a1,a2,a3⟩:=all x.Values fun v hv=>hv
  rw [ztE];refine ⟨(zgz _).2 ⟨by simp only;omega,⟨?_,?_⟩,zdJ.2 a1⟩,by rw [zbU,zbU];simp only;omega⟩
  ·simp only;cases keep<;>simp<;>omega
  ·simp only;cases keep with
   | true=>intro t ht;cases ht
   | false=>exact b3
theorem zvT:∀(N:Nat) (x:Msg),szM x<=N->szM x<=wgM x
 | 0,x,h=>by rw [zbU] at h;omega
 | N+1,x,h=>by
  rw [zbU] at h;have hv:∀v∈x.Values,szV v<=wgV v:=fun v hv=>by
   have h1:=zdu hv;have he:=zee v;have:∀l:List Msg,(∀y∈l,y∈v.Subs)->szMs l<=wgMs l:=by
    intro l
    induction l with
    | nil=>intro _;rw [szMs];omega
    | cons y l ih=>
     intro hl;have hy:=hl y xy;have h2:=zdt hy;have:=zvT N y (by omega);have:=ih fun z hz=>hl z (xz _ hz)
     rw [szMs,wgMs];omega
   have:=this v.Subs fun y hy=>hy
   rw [he,zhr];omega
  have:∀l:List Vlu,(∀v∈l,v∈x.Values)->szVs l<=wgVs l:=by
   intro l
   induction l with
   | nil=>intro _;rw [szVs];omega
   | cons v l ih=>
    intro hl;have:=hv v (hl v xy);have:=ih fun z hz=>hl z (xz _ hz)
    rw [szVs,wgVs];omega
  have:=this x.Values fun v hv=>hv
  rw [zbU,zhX];omega
theorem zDQ:∀(N:Nat) (x:Msg),szM x<=N->wgM x<=1048576->smM x
 | 0,x,h,_=>by rw [zbU] at h;omega
 | N+1,x,h,hw=>by
  rw [zbU] at h;rw [zhX] at hw;have hl:=zyO x.Values;have hu:=zsG (l:=x.Unknown);refine (zrq _).2 ⟨by omega,⟨by omega,fun t ht=>by have:=zmN ht;omega⟩,zjc.2 fun v hv=>?_⟩;have h1:=zdu hv;have h2:=zov hv;rw [zee] at h1;rw [zhr] at h2;have ht:=zsG (l:=v.Texts);have hs:=zul v.Subs;refine (zrr _).2 ⟨by omega,⟨by omega,fun t ht=>by have:=zmN ht;omega⟩,by omega,zjb.2 fun y hy=>?_⟩;have h3:=zdt hy;have h4:=zjg hy;exact zDQ N y (by omega) (by omega)
theorem zqO:∀(l m:List Vlu),wgVs (l++m)=wgVs l+wgVs m
 | [],m=>by rw [xZ,wgVs];omega
 | v::l,m=>by rw [yo,wgVs,wgVs,zqO l m];omega
theorem zyM:∀(l m:List Msg),wgMs (l++m)=wgMs l+wgMs m
 | [],m=>by rw [xZ,wgMs];omega
 | v::l,m=>by rw [yo,wgMs,wgMs,zyM l m];omega
def wgO:Option Vlu->Nat
 | none=>0
 | some u=>wgV u
theorem zDh (v:Vlu):∀(d:Bool) (l:List Vlu),zfP l->wgVs (putL v d l)+wgO (look l v.Number)<=wgVs l+(if d=true then 0 else wgV v)
 | d,[],_=>by
  rw [putL];cases d
  ·show wgVs [v]+0<=_;simp [wgVs]
  ·show wgVs []+0<=_;simp
 | d,u::l,h=>by
  obtain ⟨h1,h2⟩:=yD.1 h;have ih:=zDh v (d|| decide (v.Number<=u.Number)) l h2;rw [putL,zqO,zqO,zfN,wgVs];by_cases he:u.Number=v.Number
  ·rw [xx he,xx he];have hn:look l v.Number=none:=zAv fun x hx=>by have:=h1 x hx;omega
   rw [hn] at ih;have hle:decide (v.Number<=u.Number)=true:=by simp;omega
   rw [hle,qI,xx rfl] at ih;simp only [wgO,wgVs,hle,qI] at ih|-;cases d
   ·rw [xx ⟨rfl,by omega⟩,wgVs,wgVs];simp;omega
   ·rw [xw (by simp),wgVs];simp;omega
  ·rw [xw he,xw he,wgVs,wgVs];cases d
   ·by_cases hv:v.Number<=u.Number
    ·rw [xx ⟨rfl,hv⟩,wgVs,wgVs];simp only [hv,decide_true,qI,yp,qj,ql] at ih|-;omega
    ·rw [xw (fun hh=>hv hh.2),wgVs];simp only [hv,decide_false,qO,qj,ql] at ih|-;omega
   ·rw [xw (by simp),wgVs];simp only [ph,yp] at ih|-;omega
theorem zvk :∀(l acc:List Vlu),zfP l->zfP acc->(∀v∈l,look acc v.Number=look a.Values v.Number)->(∀v∈l,wgV (zhP s v (look a.Values v.Number) (zaq m (fldI m v.Number)))<=wgV v+wgO (look a.Values v.Number))->wgVs (zio s l a m acc)<=wgVs acc+wgVs l
 | [],acc,_,_,_,_=>by rw [zio];omega
 | v::l,acc,hl,ha,he,hw=>by
  obtain ⟨l1,l2⟩:=yD.1 hl;have hv:=he v xy;have hwv:=hw v xy;have hn:=zvj s v (look a.Values v.Number) (zaq m (fldI m v.Number));rw [zio]
  generalize zhP s v (look a.Values v.Number) (zaq m (fldI m v.Number))=v' at hn hwv|-
  have hp:=zDh v' (decide (zeY v'=0)) acc ha;have ih:=zvk (s:=s) (a:=a) (m:=m) l (putM ⟨acc,[]⟩ v').Values l2 (znX ha) (fun u hu=>by
   show look (putL v' _ acc) u.Number=_;have:=l1 u hu;rw [zts ha,xw (by omega)];exact he u (xz _ hu)) (fun u hu=>hw u (xz _ hu))
  have hq:wgVs (putM ⟨acc,[]⟩ v').Values=wgVs (putL v' (decide (zeY v'=0)) acc):=rfl;rw [hn,hv] at hp;rw [wgVs];split at hp<;>omega
theorem zAm :∀(N:Nat) (b a:Msg) (k:Int),szM b<=N->zaH s a k=true->zaH s b k=true->wgM (zmR s b a k)<=wgM a+wgM b
 | 0,b,a,k,h,_,_=>by rw [zbU] at h;omega
 | N+1,b,a,k,we,ha,hb=>by
  obtain ⟨_,_,ra,ha',_⟩:=zdc ha;obtain ⟨_,_,rb,hb',_⟩:=zdc hb;rw [zbU] at we;have:=zvk (s:=s) (a:=a) (m:=zaD s k) b.Values a.Values rb ra (fun _ _=>rfl) fun v hv=>by
   rw [znK];cases hla:look a.Values v.Number with
   | none=>simp only [wgO];omega
   | some u=>
    obtain ⟨hun,hum⟩:=zhw hla;have hve:=zhr v;have hue:=zhr u;simp only [wgO];split
    ·rw [zhr];simp only [xG,q7,List.sum_append,zyM];omega
    ·split
     ·rename_i hrep h17;have ov:=zfc (hb' v hv).2;have ou:=zfc (ha' u hum).2;rw [hun] at ou;have hsv:=zdu hv;rw [zee] at hsv;rw [zhr];simp only [yU,qw,List.sum_nil];cases hvs:v.Subs with
      | nil=>rw [zlD,wgMs];omega
      | cons y ys=>
       cases hus:u.Subs with
       | nil=>rw [zlD,wgMs];omega
       | cons z zs=>
        rw [zlD];have hy:y∈v.Subs:=by rw [hvs];exact xy
        have hz:z∈u.Subs:=by rw [hus];exact xy
        have hsy:=zdt hy;have hj:=zAm N y z _ (by omega) (ou.subs z hz).2 (ov.subs y hy).2;have w1:=zjg hy;have w2:=zjg hz;rw [wgMs,wgMs];omega
     ·omega
  rw [znJ,zhX,zhX,zhX];simp only [q7,List.sum_append];omega
theorem zAF :∀(N:Nat) (x:Msg) (k:Int) (w:List zdH) (keep:Bool),szM x<=N->wgM (zqr s x k w keep)<=wgM x
 | 0,x,k,w,keep,h=>by rw [zbU] at h;omega
 | N+1,x,k,w,keep,we=>by
  rw [zbU] at we;have key:∀v∈x.Values,∀f:Fld,wgVs (ztG s v f w keep)<=wgV v:=fun v hv f=>by
   have hsv:=zdu hv;rw [zee] at hsv;have hve:=zhr v;rw [zqs];split
   ·cases hs:v.Subs with
    | nil=>
     rw [znS,wgVs,wgVs,zhr];simp only [yU,qw,List.sum_nil];rw [wgMs];omega
    | cons y ys=>
     have hy:y∈v.Subs:=by rw [hs];exact xy
     have hsy:=zdt hy;have hwy:=zjg hy;have:=zAF (s:=s) N y f.Of (zlJ w v.Number) keep (by omega);rw [znS,wgVs,wgVs,zhr];simp only [yU,qw,List.sum_nil];rw [wgMs,wgMs];omega
   ·split
    ·rw [wgVs,wgVs];omega
    ·rw [wgVs];omega
  have all:∀l:List Vlu,(∀v∈l,v∈x.Values)->wgVs (zhS s l (zaD s k) w keep)<=wgVs l:=by
   intro l
   induction l with
   | nil=>intro _;rw [zhS];exact xB _
   | cons v l ih=>
    intro h;have i2:=ih fun u hu=>h u (xz _ hu)
    have k2:=key v (h v xy) (zaq (zaD s k) (fldI (zaD s k) v.Number));rw [zhS,zqO,wgVs];omega
  have:=all x.Values fun v hv=>hv
  rw [ztE,zhX,zhX];simp only;cases keep<;>simp<;>omega
theorem zzu (h:zpb s root l=0):zjh s/\0<=root/\root<s.length/\∀x∈l,zaH s x root=true:=by
 unfold zpb at h;by_cases h0:zlh s root=0
 ·rw [xw (show ¬zlh s root≠0 from fun hh=>hh h0)] at h;obtain ⟨h1,h2,h3⟩:=zxm h0;by_cases ha:l.all (fun x=>zaH s x root)=true
  ·exact ⟨h1,h2,h3,xJ.1 ha⟩
  ·rw [xw ha] at h;cases h
 ·rw [xx h0] at h;exact absurd h h0
theorem zCV {s:List Mes} {root:Int} {l:List Msg} (h1:zeu s=true) (h2:0<=root/\root<s.length) (h:∀x∈l,zaH s x root=true):zpb s root l=0:=by
 have h0:zlh s root=0:=by unfold zlh;rw [h1,xw (by simp),xw (by omega)]
 unfold zpb;rw [xw (show ¬zlh s root≠0 from fun hh=>hh h0),xx (xJ.2 h)]
structure Gd (s:List Mes) (root:Int) (n:Nat) (x:Msg):Prop where
 r:zaH s x root=true
 b:bdM x
 w:wgM x<=n
theorem Gd.s {s:List Mes} {root:Int} {n:Nat} {x:Msg} (h:Gd s root n x) (hn:n<=1048576):smM x:=zDQ _ x (xB _) (yE h.w hn)
theorem Gd.z {s:List Mes} {root:Int} {n fuel:Nat} {x:Msg} (h:Gd s root n x) (hn:n<fuel):szM x<fuel:=Nat.lt_of_le_of_lt (yE (zvT _ x (xB _)) h.w) hn
theorem Gd.join {s:List Mes} {root:Int} {n m:Nat} {a b:Msg} (ha:Gd s root n a) (hb:Gd s root m b) (hn:n<=1048576) (hm:m<=1048576):Gd s root (n+m) (zmR s b a root):=
 ⟨zrH _ b a root (xB _) ha.r hb.r,zAl _ b a root (xB _) ha.r hb.r ha.b hb.b (ha.s hn) (hb.s hm),yE (zAm _ b a root (xB _) ha.r hb.r) (Nat.add_le_add ha.w hb.w)⟩
theorem Gd.part {s:List Mes} {root:Int} {n:Nat} {a:Msg} (ha:Gd s root n a) (w:List zdH) (keep:Bool):Gd s root n (zqr s a root w keep):=
 ⟨zrP _ a root w keep (xB _) ha.r,(zAE _ a root w keep (xB _) ha.b).1,yE (zAF _ a root w keep (xB _)) ha.w⟩
theorem zFn:∀n:Nat,(∀x:Msg,szM x<=n->dM x<szM x)/\(∀l:List Msg,szMs l<=n->dMs l<=szMs l)/\(∀v:Vlu,szV v<=n->dV v<szV v)/\∀l:List Vlu,szVs l<=n->dVs l<=szVs l
 | 0=>⟨fun x h=>by rw [zbU] at h;omega,fun l h=>by
   cases l with
   | nil=>simp [dMs]
   | cons x l=>rw [szMs,zbU] at h;omega,fun v h=>by rw [zee] at h;omega,fun l h=>by
   cases l with
   | nil=>simp [dVs]
   | cons x l=>rw [szVs,zee] at h;omega⟩
 | n+1=>by
  obtain ⟨i1,i2,i3,i4⟩:=zFn n;have h2:∀l:List Msg,szMs l<=n->dMs l<=szMs l:=i2;have h4:∀l:List Vlu,szVs l<=n->dVs l<=szVs l:=i4;have k1:∀x:Msg,szM x<=n+1->dM x<szM x:=fun x h=>by rw [zbU] at h|-;rw [zzU];have:=h4 x.Values (by omega);omega
  have k3:∀v:Vlu,szV v<=n+1->dV v<szV v:=fun v h=>by rw [zee] at h|-;rw [zzX];have:=h2 v.Subs (by omega);omega
  refine ⟨k1,fun l=>?_,k3,fun l=>?_⟩
  ·induction l with
   | nil=>intro _;simp [dMs]
   | cons x l ih=>intro h;rw [szMs] at h|-;rw [dMs];have:=ih (by omega);have:=k1 x (by omega);omega
  ·induction l with
   | nil=>intro _;simp [dVs]
   | cons x l ih=>intro h;rw [szVs] at h|-;rw [dVs];have:=ih (by omega);have:=k3 x (by omega);omega
theorem zzV (x:Msg):dM x<szM x:=(zFn (szM x)).1 x (xB _)
theorem zAN:∀(fuel:Nat) (x:Msg) (wd:Nat),szM x<fuel->bdM x->dM x<=wd->wd<=1048576->zfD fuel x wd=some ((dM x:Nat):Int)
 | 0,x,_,h,_,_,_=>by omega
 | fuel+1,x,wd,hs,hb,hd,hm=>by
  obtain ⟨b1,_,b4⟩:=(zgz x).1 hb;rw [zbU] at hs;rw [zzU] at hd|-;show zhW (zfD fuel) x wd=_;unfold zhW;have inner:∀(v:Vlu),v∈x.Values->∀(c i d:Nat),i+c=v.Subs.length->d<=wd->zgp wd (zfD fuel) v d i=some (.inl ((max d (dMs (v.Subs.drop i)):Nat):Int)):=by
   intro v hv c;have we:=zdu hv;have hdv:=zwi hv;obtain ⟨_,_,_,c1,c2⟩:=(zgr _).1 (zdJ.1 b4 _ hv);rw [zee] at we;rw [zzX] at hdv
   induction c with
   | zero=>
    intro i d hi hdm;have e:v.Subs.drop i=[]:=yh (by omega);rw [e,dMs];refine zqG ?_;unfold zdW;rw [pT,Nat.max_zero]
   | succ c ih=>
    intro i d hi hdm;have hil:i<v.Subs.length:=by omega
    have hm2:=xF hil;have s2:=zdt hm2;have d2:=zzW hm2;rw [yb hil,dMs];have hr:=zAN fuel v.Subs[i] (wd - 1) (by omega) (zdI.1 c2 _ hm2) (by omega) (by omega);have hmost:i64.wrap ((wd:Int) - 1)=((wd - 1:Nat):Int):=by rw [pU];omega
    have hw:i64.wrap (1+((dM v.Subs[i]:Nat):Int))=1+((dM v.Subs[i]:Nat):Int):=by rw [pU]
    have hmax:(if (d:Int)<1+((dM v.Subs[i]:Nat):Int) then 1+((dM v.Subs[i]:Nat):Int) else (d:Int))=((max d (1+dM v.Subs[i]):Nat):Int):=by
     split<;>omega
    refine (zqF (deep3':=((max d (1+dM v.Subs[i]):Nat):Int)) (v3':=((i+1:Nat):Int)) ?_).trans ?_
    ·unfold zdW;rw [pS,zJ rfl hil,sb,pT,hmost,hr,sb,hw,hmax,pT,pU];push_cast;rfl
    ·rw [ih (i+1) (max d (1+dM v.Subs[i])) (by omega) (by omega)];congr 3;omega
  have outer:∀(c i d:Nat),i+c=x.Values.length->d<=wd->zgo wd (zfD fuel) x d i=some (.inl ((max d (dVs (x.Values.drop i)):Nat):Int)):=by
   intro c
   induction c with
   | zero=>
    intro i d hi hdm;have e:x.Values.drop i=[]:=yh (by omega);rw [e,dVs];refine zqE ?_;unfold zdV;rw [pT,Nat.max_zero]
   | succ c ih=>
    intro i d hi hdm;have hil:i<x.Values.length:=by omega
    have hmem:=xF hil;have hdv:=zwi hmem;rw [yb hil,dVs];have h2:=inner x.Values[i] hmem (x.Values[i]).Subs.length 0 d (xH _) hdm;rw [xI,<-zzX] at h2;have h2':zgp wd (zfD fuel) x.Values[i] d 0=_:=h2;refine (zqD (deep':=((max d (dV x.Values[i]):Nat):Int)) (v':=((i+1:Nat):Int)) ?_).trans ?_
    ·unfold zdV;rw [pS,zJ rfl hil,sb,h2',sb,pU];push_cast;rfl
    ·rw [ih (i+1) (max d (dV x.Values[i])) (by omega) (by omega)];congr 3;omega
  have h:=outer x.Values.length 0 0 (xH _) (ya _);have h':zgo wd (zfD fuel) x 0 0=_:=h;rw [h',sb,xI,Nat.zero_max]
theorem zvN (hf:szM x<fuel) (hb:bdM x) (hd:dM x<=131072):zix fuel x=some ((dM x:Nat):Int):=by
 unfold zix;have h:=zAN fuel x 131072 hf hb hd (by omega);have h':zfD fuel x 131072=_:=h;rw [h',sb]
theorem zuc (hf:szM x<fuel) (hb:bdM x) (hd:dM x<=131072):ziz fuel x=some true:=by
 unfold ziz;rw [zvN hf hb hd,sb];congr 1;simp;omega
theorem zAX (ha:a.length<=1152921504606846976):zed a b=some (decide (a=b)):=by
 unfold zed;by_cases hl:a.length=b.length
 ·rw [itF (by simp [hl])];have h:=zmM a b (fun i=>zaC a b i) hl (by
    refine zer ?_;unfold zad;rw [pR])
   (fun i hi hi'=>by
    by_cases hp:a[i]=b[i]
    ·rw [xx hp];refine zgZ ?_;unfold zad;rw [pS,zJ rfl hi,sb,zJ rfl hi',sb,itF (by simp [hp]),pU];push_cast;rfl
    ·rw [xw hp];refine zer ?_;unfold zad;rw [pS,zJ rfl hi,sb,zJ rfl hi',sb,itT (by simp [hp])])
   a.length 0 (by omega)
  have h':zaC a b 0=_:=h;rw [h',sb];simp only [xI];by_cases e:a=b
  ·rw [xx e];simp [e]
  ·rw [xw e];simp [e]
 ·rw [pS];have:a≠b:=fun e=>hl (by rw [e])
  simp [this]
theorem zuZ (ha:a.length<=1152921504606846976):zcs a b=some (decide (a=b)):=by
 unfold zcs;by_cases hl:a.length=b.length
 ·rw [itF (by simp [hl])];have h:=zmM a b (fun i=>zaB a b i) hl (by
    refine zeq ?_;unfold zac;rw [pR])
   (fun i hi hi'=>by
    by_cases hp:a[i]=b[i]
    ·rw [xx hp];refine zgY ?_;unfold zac;rw [pS,zJ rfl hi,sb,zJ rfl hi',sb,itF (by simp [hp]),pU];push_cast;rfl
    ·rw [xw hp];refine zeq ?_;unfold zac;rw [pS,zJ rfl hi,sb,zJ rfl hi',sb,itT (by simp [hp])])
   a.length 0 (by omega)
  have h':zaB a b 0=_:=h;rw [h',sb];simp only [xI];by_cases e:a=b
  ·rw [xx e];simp [e]
  ·rw [xw e];simp [e]
 ·rw [pS];have:a≠b:=fun e=>hl (by rw [e])
  simp [this]
section
open Classical
theorem zei {α:Type} {x y:α} (h:x≠y):zmU x y=false:=by
 cases hq:zmU x y with
 | false=>rfl
 | true=>exact absurd (zgL.1 hq) h
theorem zAO:∀(fuel:Nat),(∀x y:Msg,2*szM x<fuel->bdM x->zgN fuel x y=some (zmU x y))/\(∀v u:Vlu,2*szV v<fuel->bdV v->zef fuel v u=some (zmU v u))/\
  (∀a b:List Vlu,2*szVs a+1<fuel->a.length<=1152921504606846976->bdVs a->zH fuel a b=some (zmU a b))/\
  ∀a b:List Msg,2*szMs a+1<fuel->a.length<=1152921504606846976->bdMs a->zK fuel a b=some (zmU a b)
 | 0=>⟨fun x y h=>by omega,fun v u h=>by omega,fun a b h=>by omega,fun a b h=>by omega⟩
 | fuel+1=>by
  obtain ⟨ih1,ih2,ih3,ih4⟩:=zAO fuel;refine ⟨fun x y hs hb=>?_,fun v u hs hb=>?_,fun a b hs hl hb=>?_,fun a b hs hl hb=>?_⟩
  ·obtain ⟨b1,⟨b2,b3⟩,b4⟩:=(zgz x).1 hb;rw [zbU] at hs;show zot (zgN fuel) (zef fuel) (zH fuel) (zK fuel) x y=_;unfold zot;rw [ih3 x.Values y.Values (by omega) (by omega) b4,sb];by_cases e1:x.Values=y.Values
   ·rw [zgL.2 e1,pP,zuZ (by omega),sb,sb];by_cases e2:x.Unknown=y.Unknown
    ·rw [xW e2,zgL.2 (by cases x;cases y;simp only at e1 e2;rw [e1,e2])]
    ·rw [xV e2,zei fun e=>e2 (by rw [e])]
   ·rw [zei e1,pQ,sb,zei fun e=>e1 (by rw [e])]
  ·obtain ⟨b0,⟨b1,_⟩,⟨b2,b3⟩,b4,b5⟩:=(zgr v).1 hb;rw [zee] at hs;show ziA (zgN fuel) (zef fuel) (zH fuel) (zK fuel) v u=_;unfold ziA;by_cases e0:v.Number=u.Number
   ·rw [itT (by simp [e0]),zAX (by omega),sb];by_cases e1:v.Words=u.Words
    ·rw [itT (by simp [e1]),zuZ (by omega),sb];by_cases e2:v.Texts=u.Texts
     ·rw [itT (by simp [e2]),ih4 v.Subs u.Subs (by omega) (by omega) b5,sb,sb];by_cases e3:v.Subs=u.Subs
      ·rw [zgL.2 e3,zgL.2 (by cases v;cases u;simp only at e0 e1 e2 e3;rw [e0,e1,e2,e3])]
      ·rw [zei e3,zei fun e=>e3 (by rw [e])]
     ·rw [itF (by simp [e2]),sb,zei fun e=>e2 (by rw [e])]
    ·rw [itF (by simp [e1]),sb,zei fun e=>e1 (by rw [e])]
   ·rw [itF (by simp [e0]),sb,zei fun e=>e0 (by rw [e])]
  ·show zO (zgN fuel) (zef fuel) (zH fuel) (zK fuel) a b=_;unfold zO;by_cases hll:a.length=b.length
   ·rw [itF (by simp [hll])];have hv:∀(i:Nat) (hi:i<a.length) (hi':i<b.length),zef fuel a[i] b[i]=some (zmU a[i] b[i]):=fun i hi hi'=>by
     have hm:=xF hi;have:=zdu hm;exact ih2 _ _ (by omega) (zdJ.1 hb _ hm)
    have h:=zmM a b (fun i=>zx (zef fuel) a b i) hll (by
      refine zah ?_;unfold zq;rw [pR])
     (fun i hi hi'=>by
      by_cases hp:a[i]=b[i]
      ·rw [xx hp];refine zbw ?_;unfold zq;rw [pS,zJ rfl hi,sb,zJ rfl hi',sb,hv i hi hi',sb,itF (by rw [zgL.2 hp];rfl),pU];push_cast;rfl
      ·rw [xw hp];refine zah ?_;unfold zq;rw [pS,zJ rfl hi,sb,zJ rfl hi',sb,hv i hi hi',sb,itT (by rw [zei hp];rfl)])
     a.length 0 (by omega)
    have h':zx (zef fuel) a b 0=_:=h;rw [h',sb];simp only [xI];by_cases e:a=b
    ·rw [xx e,zgL.2 e]
    ·rw [xw e,zei e]
   ·rw [pS,zei fun e=>hll (by rw [e])]
  ·show zZ (zgN fuel) (zef fuel) (zH fuel) (zK fuel) a b=_;unfold zZ;by_cases hll:a.length=b.length
   ·rw [itF (by simp [hll])];have hv:∀(i:Nat) (hi:i<a.length) (hi':i<b.length),zgN fuel a[i] b[i]=some (zmU a[i] b[i]):=fun i hi hi'=>by
     have hm:=xF hi;have:=zdt hm;exact ih1 _ _ (by omega) (zdI.1 hb _ hm)
    have h:=zmM a b (fun i=>zD (zgN fuel) a b i) hll (by
      refine zav ?_;unfold zu;rw [pR])
     (fun i hi hi'=>by
      by_cases hp:a[i]=b[i]
      ·rw [xx hp];refine zbZ ?_;unfold zu;rw [pS,zJ rfl hi,sb,zJ rfl hi',sb,hv i hi hi',sb,itF (by rw [zgL.2 hp];rfl),pU];push_cast;rfl
      ·rw [xw hp];refine zav ?_;unfold zu;rw [pS,zJ rfl hi,sb,zJ rfl hi',sb,hv i hi hi',sb,itT (by rw [zei hp];rfl)])
     a.length 0 (by omega)
    have h':zD (zgN fuel) a b 0=_:=h;rw [h',sb];simp only [xI];by_cases e:a=b
    ·rw [xx e,zgL.2 e]
    ·rw [xw e,zei e]
   ·rw [pS,zei fun e=>hll (by rw [e])]
end
theorem zDK (y:Msg) (hf:2*szM x<fuel) (hb:bdM x) (hd:dM x<=131072):zru fuel x y=some (zmU x y):=by
 unfold zru;rw [zuc (by omega) hb hd,sb,pP,(zAO fuel).1 x y hf hb,sb,sb]
theorem zEJ:∀a<256,zqK ((a:Nat):Int)=some (if a<128 then (1,(a:Int)) else if a/32=6 then (2,((a%32:Nat):Int)) else if a/16=14 then (3,((a%16:Nat):Int)) else if a/8=30 then (4,((a%8:Nat):Int)) else (0,0)):=by decide+kernel
theorem zwN (w k:Nat) (h:k<=32):shrI .u32 (w:Int) (k:Int)=((w/2^k:Nat):Int):=zqA (k:= .u32) (a:=w) (b:=k) (by simpa [IntKind.bits] using h)
theorem zsv (w:Nat):zmp (w:Int)=some (if w<128 then 1 else if w<2048 then 2 else if 55296<=w/\w<=57343 then 0 else if w<65536 then 3 else if w<=1114111 then 4 else 0):=by
 unfold zmp;have e7:shrI .u32 (w:Int) 7=((w/128:Nat):Int):=zwN w 7 (by omega);have e11:shrI .u32 (w:Int) 11=((w/2048:Nat):Int):=zwN w 11 (by omega);have e16:shrI .u32 (w:Int) 16=((w/65536:Nat):Int):=zwN w 16 (by omega);rw [e7,e11,e16];by_cases h1:w<128
 ·rw [pS,xx h1]
 ·rw [pT,xw h1];by_cases h2:w<2048
  ·rw [pS,xx h2]
  ·rw [pT,xw h2];by_cases h3:55296<=w/\w<=57343
   ·rw [pS,xx h3]
   ·rw [pT,xw h3];by_cases h4:w<65536
    ·rw [pS,xx h4]
    ·rw [pT,xw h4];by_cases h5:w<=1114111
     ·rw [pS,xx h5]
     ·rw [pT,xw h5]
theorem zBi:∀c<256,shrI .u8 ((c:Nat):Int) 6=((c/64:Nat):Int)/\u32.wrap (andI .u8 ((c:Nat):Int) 63)=((c%64:Nat):Int):=by decide+kernel
theorem zjI {v:List UInt8} {w i:Nat} (h:i<v.length) (hv:v.length<=1000) (hw:w<=1000000):
  zct v w i=if cont v[i] then zct v ((64*w+v[i].toNat%64:Nat):Int) ((i+1:Nat):Int) else some (.inr ()):=by
 have hc:=v[i].toNat_lt;obtain ⟨e1,e2⟩:=zBi v[i].toNat (by omega);have hb:zey v w i=if cont v[i] then some (.inl (((64*w+v[i].toNat%64:Nat):Int),((i+1:Nat):Int))) else some (.inr (.inr ())):=by
  unfold zey;rw [pS,zJ rfl h,sb,e1,e2];by_cases hk:cont v[i]=true
  ·rw [xx hk];unfold cont at hk;simp only [xP] at hk;rw [pT,pU];have e3:shlI .u32 (w:Int) 6=((w*64:Nat):Int):=by
    have:shlI .u32 (w:Int) 6=((w*64%4294967296:Nat):Int):=by simp [shlI,IntKind.bits,zyQ]
    rw [this,qf (by omega)]
   rw [e3,zsz rfl (by simp [IntKind.bits];omega) (by simp [IntKind.bits];omega),Nat.or_comm,ztB _ w 6 (by omega)];have e4:v[i].toNat%64+w*2^6=64*w+v[i].toNat%64:=by omega
   rw [e4];rfl
  ·rw [xw hk];unfold cont at hk;simp only [xP] at hk;rw [pS]
 by_cases hk:cont v[i]=true
 ·rw [xx hk] at hb|-;exact zsf hb
 ·rw [xw hk] at hb|-;exact zmW hb
theorem zqj (h:v.length<=i):zct v w i=some (.inl (w:Int)):=by
 refine zmW ?_;unfold zey;rw [pT]
theorem zGW {w:Nat} {b:UInt8} (hw:w<=100):zct [b] w 0=if cont b then some (.inl ((64*w+b.toNat%64:Nat):Int)) else some (.inr ()):=by
 have h:=zjI (v:=[b]) (w:=w) (i:=0) (by simp) (by simp) (by omega);refine Eq.trans h ?_;simp only [pG];rw [zqj (by simp)]
theorem zGX {w:Nat} {b c:UInt8} (hw:w<=100):zct [b,c] w 0=if cont b then (if cont c then some (.inl ((64*(64*w+b.toNat%64)+c.toNat%64:Nat):Int)) else some (.inr ())) else some (.inr ()):=by
 have h:=zjI (v:=[b,c]) (w:=w) (i:=0) (by simp) (by simp) (by omega);refine Eq.trans h ?_;rw [zjI (i:=0+1) (by simp) (by simp) (by omega)];simp only [pG,pF,xH];rw [zqj (by simp)]
theorem zGY {w:Nat} {b c d:UInt8} (hw:w<=100):zct [b,c,d] w 0=if cont b then (if cont c then (if cont d then some (.inl ((64*(64*(64*w+b.toNat%64)+c.toNat%64)+d.toNat%64:Nat):Int)) else some (.inr ())) else some (.inr ())) else some (.inr ()):=by
 have h:=zjI (v:=[b,c,d]) (w:=w) (i:=0) (by simp) (by simp) (by omega);refine Eq.trans h ?_;rw [zjI (i:=0+1) (by simp) (by simp) (by omega),zjI (i:=0+1+1) (by simp) (by simp) (by omega)];simp only [pG,pF,xH];rw [zqj (by simp)]
theorem zCY (n:Nat) (h:∀m,m≠n->isN m l=false):nxt l=if isN n l then n else 0:=by
 by_cases hn:isN n l=true
 ·rw [xx hn,zGp hn]
 ·rw [xw hn];by_cases h0:nxt l=0
  ·exact h0
  ·have h1:=zsy h0;by_cases h2:nxt l=n
   ·rw [h2] at h1;exact absurd h1 hn
   ·rw [h _ h2] at h1;cases h1
theorem zme (n:Nat) (h:n=1/\a.toNat<128\/n=2/\192<=a.toNat/\a.toNat<224\/n=3/\224<=a.toNat/\a.toNat<240\/n=4/\240<=a.toNat):nxt (a::t)=if isN n (a::t) then n else 0:=by
 refine zCY n fun m hm=>?_
 cases hh:isN m (a::t) with
 | false=>rfl
 | true=>
  obtain ⟨a',t',e,_,g⟩:=zkl hh;cases e;omega
theorem zAo (b:List UInt8):zmo b=some ((nxt b:Nat):Int):=by
 cases b with
 | nil=>rfl
 | cons a t=>
  have ha:=a.toNat_lt;unfold zmo;have e00:idx (a::t) (0:Int)=some a:=zJ (n:=0) rfl (by simp);rw [pT,e00,sb];rw [zEJ _ (by omega),sb];by_cases h1:a.toNat<128
  ·rw [zme 1 (.inl ⟨rfl,h1⟩),xx h1];simp only;rw [pT,znx (i:=1) (j:=1) (a:=1) (b:=1) rfl rfl (by omega) (by simp),sb];have e0:zct (((a::t).drop 1).take (1 - 1)) (a.toNat:Int) 0=some (.inl (a.toNat:Int)):=zqj (i:=0) (by simp);rw [e0,sb];simp only;rw [zsv,sb,xx h1,pQ];simp [isN,is1,h1]
  ·rw [xw h1];by_cases h2:a.toNat/32=6
   ·rw [zme 2 (.inr (.inl ⟨rfl,by omega,by omega⟩)),xx h2];simp only
    match t with
    | []=>rw [itT (by simp)];rfl
    | b::t=>
     rw [pT,znx (i:=1) (j:=2) (a:=1) (b:=2) rfl rfl (by omega) (by simp),sb];have e0:=zGW (w:=a.toNat%32) (b:=b) (by omega);have e0':zct (((a::b::t).drop 1).take (2 - 1)) ((a.toNat%32:Nat):Int) 0=_:=e0;rw [e0'];have hb:=b.toNat_lt;by_cases c1:cont b=true
     ·rw [xx c1,sb];simp only;have hn:=zsv (64*(a.toNat%32)+b.toNat%64);simp only [isN,is2,c1,qk,xP];simp only [cont,xP] at c1;by_cases h:194<=a.toNat
      ·rw [xw (by omega),xx (by omega)] at hn;rw [hn,sb,pQ,xx (by omega)];rfl
      ·rw [xx (by omega)] at hn;rw [hn,sb,pP,xw (by omega)];rfl
     ·rw [xw c1,sb];simp only;simp [isN,is2,c1]
   ·rw [xw h2];by_cases h3:a.toNat/16=14
    ·rw [zme 3 (.inr (.inr (.inl ⟨rfl,by omega,by omega⟩))),xx h3];simp only
     match t with
     | []=>rw [itT (by simp)];rfl
     | [b]=>rw [itT (by simp)];rfl
     | b::c::t=>
      rw [pT,znx (i:=1) (j:=3) (a:=1) (b:=3) rfl rfl (by omega) (by simp),sb];have e0:=zGX (w:=a.toNat%16) (b:=b) (c:=c) (by omega);have e0':zct (((a::b::c::t).drop 1).take (3 - 1)) ((a.toNat%16:Nat):Int) 0=_:=e0;rw [e0'];have hb:=b.toNat_lt;have hc:=c.toNat_lt;by_cases c1:cont b=true
      ·rw [xx c1];by_cases c2:cont c=true
       ·rw [xx c2,sb];simp only;have hn:=zsv (64*(64*(a.toNat%16)+b.toNat%64)+c.toNat%64);simp only [isN,is3,c1,c2,yZ,xP];simp only [cont,xP] at c1 c2;by_cases h:(a.toNat=224->160<=b.toNat)/\(a.toNat=237->b.toNat<160)
        ·rw [xw (by omega),xw (by omega),xw (by omega),xx (by omega)] at hn;rw [hn,sb,pQ,xx (by omega)];rfl
        ·by_cases g:64*(64*(a.toNat%16)+b.toNat%64)+c.toNat%64<2048
         ·by_cases g':64*(64*(a.toNat%16)+b.toNat%64)+c.toNat%64<128
          ·rw [xx g'] at hn;rw [hn,sb,pP,xw (by omega)];rfl
          ·rw [xw g',xx g] at hn;rw [hn,sb,pP,xw (by omega)];rfl
         ·rw [xw (by omega),xw g,xx (by omega)] at hn;rw [hn,sb,pP,xw (by omega)];rfl
       ·rw [xw c2,sb];simp only;simp [isN,is3,c2]
      ·rw [xw c1,sb];simp only;simp [isN,is3,c1]
    ·rw [xw h3];by_cases h4:a.toNat/8=30
     ·rw [zme 4 (.inr (.inr (.inr ⟨rfl,by omega⟩))),xx h4];simp only
      match t with
      | []=>rw [itT (by simp)];rfl
      | [b]=>rw [itT (by simp)];rfl
      | [b,c]=>rw [itT (by simp)];rfl
      | b::c::d::t=>
       rw [pT,znx (i:=1) (j:=4) (a:=1) (b:=4) rfl rfl (by omega) (by simp),sb];have e0:=zGY (w:=a.toNat%8) (b:=b) (c:=c) (d:=d) (by omega);have e0':zct (((a::b::c::d::t).drop 1).take (4 - 1)) ((a.toNat%8:Nat):Int) 0=_:=e0;rw [e0'];have hb:=b.toNat_lt;have hc:=c.toNat_lt;have hd:=d.toNat_lt;by_cases c1:cont b=true
       ·rw [xx c1];by_cases c2:cont c=true
        ·rw [xx c2];by_cases c3:cont d=true
         ·rw [xx c3,sb];simp only;have hn:=zsv (64*(64*(64*(a.toNat%8)+b.toNat%64)+c.toNat%64)+d.toNat%64);simp only [isN,is4,c1,c2,c3,yZ,xP];simp only [cont,xP] at c1 c2 c3;by_cases h:a.toNat<245/\(a.toNat=240->144<=b.toNat)/\(a.toNat=244->b.toNat<144)
          ·rw [xw (by omega),xw (by omega),xw (by omega),xw (by omega),xx (by omega)] at hn;rw [hn,sb,pQ,xx (by omega)];rfl
          ·have hw:¬(65536<=64*(64*(64*(a.toNat%8)+b.toNat%64)+c.toNat%64)+d.toNat%64/\64*(64*(64*(a.toNat%8)+b.toNat%64)+c.toNat%64)+d.toNat%64<=1114111):=by omega
           generalize 64*(64*(64*(a.toNat%8)+b.toNat%64)+c.toNat%64)+d.toNat%64=w at hn hw
           have hx:∃x:Int,zmp w=some x/\x≠4:=⟨_,hn,by (repeat' split)<;>omega⟩;obtain ⟨x,hx,h4⟩:=hx;rw [hx,sb,pS,xw (by omega)];rfl
         ·rw [xw c3,sb];simp only;simp [isN,is4,c3]
        ·rw [xw c2,sb];simp only;simp [isN,is4,c2]
       ·rw [xw c1,sb];simp only;simp [isN,is4,c1]
     ·rw [xw h4,pP];by_cases h5:240<=a.toNat
      ·rw [zme 4 (.inr (.inr (.inr ⟨rfl,h5⟩)))];cases hh:isN 4 (a::t) with
       | false=>rfl
       | true=>
        match t,hh with
        | b::c::d::t,hh=>simp only [isN,is4,xP] at hh;omega
      ·by_cases h0:nxt (a::t)=0
       ·rw [h0];rfl
       ·obtain ⟨a',t',e,_,g⟩:=zkl (zsy h0);cases e;omega
theorem zBM (hb:b.length<=1152921504606846976) (l:List UInt8):∀(a c:Nat),c<=a->a<=b.length->l=b.drop a->
  zgJ b a c ((nxt l:Nat):Int)=some (((a+(pre4 l).1:Nat):Int),((c+(pre4 l).2:Nat):Int)):=by
 refine zDd (fun l=>∀(a c:Nat),c<=a->a<=b.length->l=b.drop a->zgJ b a c ((nxt l:Nat):Int)=some (((a+(pre4 l).1:Nat):Int),((c+(pre4 l).2:Nat):Int))) ?_ ?_ l
 ·intro l h a c hc ha hl;rw [h,zBw h];refine zsh ?_;unfold zfu;rw [pQ];rfl
 ·intro l h ih a c hc ha hl;subst hl;have h4:=zwC (b.drop a);have hle:=zpw (b.drop a);simp only [yn] at hle;have e1:(b.drop a).drop (nxt (b.drop a))=b.drop (a+nxt (b.drop a)):=by rw [qa]
  refine (zsg (atv':=((a+nxt (b.drop a):Nat):Int)) (points':=((c+1:Nat):Int)) (size':=((nxt (b.drop (a+nxt (b.drop a))):Nat):Int)) ?_).trans ?_
  ·unfold zfu;rw [pS,pU,zsV (a:=a+nxt (b.drop a)) (by push_cast;rfl) rfl (by omega),sb,zAo,sb,pU];rfl
  ·rw [<-e1,ih (a+nxt (b.drop a)) (c+1) (by omega) (by omega) e1,zEL h];simp only [qq,pd 1]
theorem zDM (hb:b.length<=1152921504606846976):zou b=some (((pre4 b).1:Int),((pre4 b).2:Int)):=by
 unfold zou;rw [zAo,sb];have h:=zBM hb b 0 0 (xB _) (ya _) rfl;simp only [xH] at h;have h':zgJ b 0 0 ((nxt b:Nat):Int)=some (((pre4 b).1:Int),((pre4 b).2:Int)):=h;rw [h',sb]
theorem zBL (hb:b.length<=1152921504606846976):zmm b=some ((pre4 b).1:Int):=by
 unfold zmm;rw [zDM hb,sb]
theorem zvR (hb:b.length<=1152921504606846976):zmn b=some (zit b):=by
 unfold zmn zit;rw [zBL hb,sb,zpT]
def zGo:List Str:=[[],[105,110,116,51,50],[105,110,116,54,52],[117,105,110,116,51,50],[117,105,110,116,54,52],[115,105,110,116,51,50],[115,105,110,116,54,52],[98,111,111,108],[101,110,117,109],[102,105,120,101,100,51,50],[115,102,105,120,101,100,51,50],[102,108,111,97,116],[102,105,120,101,100,54,52],[115,102,105,120,101,100,54,52],[100,111,117,98,108,101],[115,116,114,105,110,103],[98,121,116,101,115],[109,101,115,115,97,103,101]]
def zCA (k:Int):Str:=(zGo[k.toNat]?).getD []
def kT:List (Int×zo):=[(1,⟨[105,110,116,51,50],0⟩),(2,⟨[105,110,116,54,52],0⟩),(3,⟨[117,105,110,116,51,50],0⟩),(4,⟨[117,105,110,116,54,52],0⟩),(5,⟨[115,105,110,116,51,50],0⟩),(6,⟨[115,105,110,116,54,52],0⟩),(7,⟨[98,111,111,108],0⟩),(8,⟨[101,110,117,109],0⟩),(9,⟨[102,105,120,101,100,51,50],5⟩),(10,⟨[115,102,105,120,101,100,51,50],5⟩),(11,⟨[102,108,111,97,116],5⟩),(12,⟨[102,105,120,101,100,54,52],1⟩),(13,⟨[115,102,105,120,101,100,54,52],1⟩),(14,⟨[100,111,117,98,108,101],1⟩),(15,⟨[115,116,114,105,110,103],2⟩),(16,⟨[98,121,116,101,115],2⟩),(17,⟨[109,101,115,115,97,103,101],2⟩)]
theorem zxT:zkm=some kT:=rfl
theorem zrR (h:zdr k=true):k=1\/k=2\/k=3\/k=4\/k=5\/k=6\/k=7\/k=8\/k=9\/k=10\/k=11\/k=12\/k=13\/k=14\/k=15\/k=16\/k=17:=by
 have:=yW h;omega
theorem zFY (h:zdr k=true):mget kT k=some ⟨zCA k,zcL k⟩:=by
 rcases zrR h with rfl| rfl| rfl| rfl| rfl| rfl| rfl| rfl| rfl| rfl| rfl| rfl| rfl| rfl| rfl| rfl| rfl<;>rfl
theorem zEr (h:e∈kT):zdr e.1=true/\e.2=⟨zCA e.1,zcL e.1⟩:=by
 have:kT.all (fun e=>zdr e.1&&decide (e.2=⟨zCA e.1,zcL e.1⟩))=true:=by decide
 have h1:=xJ.1 this e h;simp only [xA,xP] at h1;exact h1
theorem zEs (h:zdr k=false):mget kT k=none:=by
 cases hg:mget kT k with
 | none=>rfl
 | some x=>
  have mem:∀{m:List (Int×zo)} {x:zo},mget m k=some x->(k,x)∈m:=fun {m x} hg=>by
   induction m with
   | nil=>cases hg
   | cons p m ih=>
    rw [mget] at hg;split at hg
    ·rename_i e;cases hg;rw [e];exact xy
    ·exact xz _ (ih hg)
  have h1:=(zEr (mem hg)).1;simp only at h1;rw [h] at h1;cases h1
theorem zCH (k:Int):zmb k=some (if zdr k then (zcL k,0) else (0,2)):=by
 unfold zmb;rw [zxT,sb];cases h:zdr k with
 | true=>rw [zFY h];rfl
 | false=>rw [zEs h];rfl
theorem zzp (k:Int):ziU k=some (kNum k):=by
 unfold ziU;rw [zCH,sb];cases h:zdr k with
 | true=>
  rcases zrR h with rfl| rfl| rfl| rfl| rfl| rfl| rfl| rfl| rfl| rfl| rfl| rfl| rfl| rfl| rfl| rfl| rfl<;>rfl
 | false=>
  have h1:=pH h;have:kNum k=false:=xV (by omega);rw [this];rfl
theorem zEu:kT.map Prod.fst=[1,2,3,4,5,6,7,8,9,10,11,12,13,14,15,16,17]:=rfl
theorem zEt:znL=some [1,2,3,4,5,6,7,8,9,10,11,12,13,14,15,16,17]:=by
 have e:zxR kT=some [1,2,3,4,5,6,7,8,9,10,11,12,13,14,15,16,17]:=by
  unfold zxR;rw [xx ⟨by decide,by decide⟩,zEu,List.mergeSort_of_pairwise (by decide)]
 unfold znL;rw [zxT,sb,e,sb]
theorem zma (k:Int) (h:0<=w/\w<=18446744073709551615):zhk k w=some (if kNum k then (zbe k w,0) else (0,2)):=by
 have hs:=zwM w;have hc:=ziK k h;unfold zhk;by_cases h1:k=1\/k=8
 ·have e:(if (k==1)=true then some (k==1) else some (k==8))=some true:=by rcases h1 with rfl| rfl<;>rfl
  have hn:kNum k=true:=xW (by omega);rw [e,sb,itT rfl,zBG,sb,zBO (by omega),sb,hn];unfold zbe;rw [xx h1];rfl
 ·have e:(if (k==1)=true then some (k==1) else some (k==8))=some false:=by rw [pT];simp;omega
  rw [e,sb,itF rfl];by_cases h2:k=3\/k=5\/k=9\/k=10\/k=11
  ·have e2:(if (k==3)=true then some (k==3) else if (k==5)=true then some (k==5) else if (k==9)=true then some (k==9) else if (k==10)=true then some (k==10) else some (k==11))=some true:=by
    rcases h2 with rfl| rfl| rfl| rfl| rfl<;>rfl
   have hn:kNum k=true:=xW (by omega);have hw:u64.wrap (w%4294967296)=w%4294967296:=by rw [zdh];omega
   rw [e2,sb,itT rfl,zyc,sb,hn,hw];unfold zbe;rw [xw h1,xx h2];rfl
  ·have e2:(if (k==3)=true then some (k==3) else if (k==5)=true then some (k==5) else if (k==9)=true then some (k==9) else if (k==10)=true then some (k==10) else some (k==11))=some false:=by
    rw [pT,pT,pT,pT];simp;omega
   rw [e2,sb,itF rfl];by_cases h7:k=7
   ·have hn:kNum k=true:=xW (by omega);rw [itT (by simpa using h7),hn];unfold zmC zbe;rw [sb,xw h1,xw h2,xx h7];by_cases h0:0<w
    ·rw [xx h0];by_cases h10:1<w
     ·rw [xx h10];rfl
     ·rw [xw h10,show w=1 by omega];rfl
    ·rw [xw h0,xw (by omega),show w=0 by omega];rfl
   ·rw [itF (by simpa using h7)];by_cases hn:kNum k=true
    ·have hk:=yW hn;have e3:(if (k==2)=true then some (k==2) else if (k==4)=true then some (k==4) else if (k==6)=true then some (k==6) else if (k==12)=true then some (k==12) else if (k==13)=true then some (k==13) else some (k==14))=some true:=by
      have:k=2\/k=4\/k=6\/k=12\/k=13\/k=14:=by omega
      rcases this with rfl| rfl| rfl| rfl| rfl| rfl<;>rfl
     rw [e3,sb,itT rfl,hn];unfold zbe;rw [xw h1,xw h2,xw h7];rfl
    ·have hn:kNum k=false:=by simpa using hn
     have hk:=pH hn;have e3:(if (k==2)=true then some (k==2) else if (k==4)=true then some (k==4) else if (k==6)=true then some (k==6) else if (k==12)=true then some (k==12) else if (k==13)=true then some (k==13) else some (k==14))=some false:=by
      rw [pT,pT,pT,pT,pT];simp;omega
     rw [e3,sb,itF rfl,hn];rfl
end Go.Proofs.YtkgohoggipdokaaGreat
