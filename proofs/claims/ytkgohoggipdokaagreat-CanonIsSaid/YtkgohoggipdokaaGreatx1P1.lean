/-
  What the plain functions are. No condition.
-/
import Derived.Test.YtkgohoggipdokaaGreatx1S1
import Derived.Test.YtkgohoggipdokaaGreatx1K3
set_option autoImplicit true
set_option relaxedAutoImplicit true
namespace Go.Proofs.YtkgohoggipdokaaGreat
open Go.IntKind (i64 u64)
open Go
set_option linter.unusedVariables false
theorem zJS (k:IntKind) (a b:Int):orI k a b=bits .or k a b:=rfl
theorem zDz (w:Int):zkf w=some (w%4294967296):=by unfold zkf;rw [zED]
theorem zIr (w:Int):zkL w=some (sgnS w):=by
 unfold zkL;rw [zDz,sb,zIL];unfold sgnS;congr 1;split<;>split<;>omega
theorem zIH (h: -2147483648<=n/\n<=2147483647):zkM n=some (zsG n):=by
 unfold zkM;rw [uR,wrap_u64];unfold zsG;congr 1;split<;>omega
theorem zFH (h:0<=w/\w<=18446744073709551615):zff w=some (sgnS w):=by
 unfold zff;rw [yQ h.1,zr (x:=w%4294967296) (by omega)];unfold sgnS;by_cases h2:w%4294967296<2147483648
 ·rw [uQ,xy h2]
 ·rw [uP,xx h2,uR]
theorem zKo (h: -9223372036854775808<=n/\n<=9223372036854775807):zgn n=some (zsG n):=by
 unfold zgn zsG;by_cases h0:0<=n
 ·rw [uP,xy h0,wrap_u64,yJ (by omega) (by omega)]
 ·rw [uQ,xx h0];simp (disch:=omega) only [zr,wrap_u64];congr 1;omega
theorem zDw {v:List UInt8} {m k j:Nat} (hk:k<=8) (hv:v.length=k) (hj:j<k):zdo v (m:Int) (zin k m j) (j:Int)=some (.inl (zin k m (j+1),((j+1:Nat):Int))):=by
 have ke:=zxO (n:=k) (m:=m) (j:=j) (by omega);unfold zdo;have e1:i64.wrap (8*(j:Int))=((8*j:Nat):Int):=by rw [uR];push_cast;rfl
 rw [uP,e1,zKu,sb,zR rfl (show j<(zin k m j).length by omega),sb,zuf (by simp [IntKind.bits];omega),zwN,zjS,zvM,zxf rfl,sb,xJ,zDu hj,uR];rfl
theorem zDv {v:List UInt8} {m k:Nat} (hk:k<=8) (hv:v.length=k):∀(d j:Nat),j+d=k->zgS v (m:Int) (zin k m j) (j:Int)=some (zfp k m):=by
 intro d
 induction d with
 | zero=>
  intro j hj;refine zsJ ?_;unfold zdo;have:j=k:=by omega
  subst this;rw [uQ,zDt]
 | succ d ih=>
  intro j hj;rw [zsI (zDw hk hv (by omega))];exact ih (j+1) (by omega)
theorem zAn {m:Nat} (n:Int):zkK (m:Int) n=some (zfp (min n.toNat 8) m):=by
 unfold zkK;have e:(if (8:Int)<(if n<0 then 0 else n) then (8:Int) else (if n<0 then 0 else n))=((min n.toNat 8:Nat):Int):=by split<;>split<;>omega
 rw [e,zqU rfl (qz _) (by omega),sb];have h:=zDv (v:=List.replicate (min n.toNat 8) (0:UInt8)) (m:=m) (k:=min n.toNat 8) (by omega) (by simp) (min n.toNat 8) 0 (by omega);rw [zBK] at h;have h':zgS (List.replicate (min n.toNat 8) (0:UInt8)) (m:Int) (List.replicate (min n.toNat 8) (0:UInt8)) 0=some (zfp (min n.toNat 8) m):=h;rw [h',sb]
theorem zCc {m k:Nat} {n:Int} (hm:m<18446744073709551616) (hk:k=min n.toNat 8):∀(d j:Nat),j+d=k->zcM n ((m/256^j:Nat):Int) (zfp j m) (j:Int)=some (zfp k m):=by
 intro d
 induction d with
 | zero=>
  intro j hj;refine zmi ?_;unfold zbc;have:j=k:=by omega
  subst this;rw [uQ]
 | succ d ih=>
  intro j hj;have ke:=zbS j m;refine (zmh (wv2':=((m/256^(j+1):Nat):Int)) (out':=zfp (j+1) m) (i':=((j+1:Nat):Int)) ?_).trans (ih (j+1) (by omega));unfold zbc;have h1:(0:Int)<=((m/256^j:Nat):Int):=Int.natCast_nonneg _;rw [uP,yQ h1,zjS,Int.emod_emod_of_dvd _ (Int.dvd_refl _),zvM,zxf rfl,sb,zcg (by simp;omega),sb,<-zqQ,qY h1,uR];have e:u64.wrap (((m/256^j:Nat):Int)/256)=((m/256^(j+1):Nat):Int):=by
   have hq:m/256^j<=m:=Nat.div_le_self _ _;rw [yD,<-Nat.div_div_eq_div_mul]
   generalize m/256^j=q at hq
   rw [wrap_u64,yJ (by omega) (by omega)];omega
  rw [e];rfl
theorem zyw {m:Nat} (hm:m<18446744073709551616) (n:Int):zea (m:Int) n=some (zfp (min n.toNat 8) m):=by
 unfold zea;have h:=zCc (n:=n) hm rfl (min n.toNat 8) 0 (by omega);rw [Nat.pow_zero,Nat.div_one] at h;have h':zcM n (m:Int) [] 0=some (zfp (min n.toNat 8) m):=h;rw [h',sb]
theorem zAO {l:List UInt8} {j:Nat} (h:j<l.length):l.take (j+1)=l.take j++[l[j]]:=by rw [pL,xP h];rfl
theorem zIJ {v:List UInt8} (hv:v.length<=8):∀(d j:Nat),j+d=v.length->zil v ((word (v.take j):Nat):Int) (j:Int)=some ((word v:Nat):Int):=by
 intro d
 induction d with
 | zero=>
  intro j hj;refine zuH ?_;unfold zfm;rw [uQ,yG (by omega)]
 | succ d ih=>
  intro j hj;have hl:(v.take j).length=j:=by simp;omega
  have hw:=zwU (v.take j);rw [hl] at hw;refine (zuG (wv':=((word (v.take (j+1)):Nat):Int)) (v2':=((j+1:Nat):Int)) ?_).trans (ih (j+1) (by omega));unfold zfm;have hc:=(v[j]'(by omega)).toNat_lt;have e1:i64.wrap (8*(j:Int))=((8*j:Nat):Int):=by rw [uR];push_cast;rfl
  have e2:shlI .u64 (u64.wrap ((v[j]'(by omega)).toNat:Int)) ((8*j:Nat):Int)=u64.wrap (((v[j]'(by omega)).toNat:Int)*2^(8*j)):=by
   unfold shlI;rw [xJ,qx (by simp [IntKind.bits];omega),wrap_u64 ((v[j]'(by omega)).toNat:Int),yJ (by omega) (by omega)]
  rw [uP,zR rfl (show j<v.length by omega),sb,e1,zEd,sb,e2,zJS,zMu _ _ _ (by omega) (by omega) hw,zAO (show j<v.length by omega),zvz,hl,uR];rfl
theorem zMt (b:List UInt8):zoj b=some ((word (b.take 8):Nat):Int):=by
 unfold zoj;have e:(if (8:Int)<(b.length:Int) then (8:Int) else (b.length:Int))=((min 8 b.length:Nat):Int):=by split<;>omega
 have e2:b.take (min 8 b.length)=b.take 8:=by rw [uq];omega
 rw [e,ztt rfl (by omega),sb,e2];have h:=zIJ (v:=b.take 8) (by simp;omega) (b.take 8).length 0 (by omega);have h':zil (b.take 8) 0 0=some ((word (b.take 8):Nat):Int):=h;rw [h',sb]
theorem zFI {b:List UInt8} (hb:b.length<=1152921504606846976):∀(d j:Nat),j+d=min 8 b.length->zdx b ((word (b.take j):Nat):Int) ((256^j%18446744073709551616:Nat):Int) (j:Int)=some ((word (b.take 8):Nat):Int):=by
 intro d
 induction d with
 | zero=>
  intro j hj;refine znK ?_;unfold zbI;have e:b.take j=b.take 8:=by rw [uq];omega
  rw [uQ,e]
 | succ d ih=>
  intro j hj;have hl:(b.take j).length=j:=by simp;omega
  have hw:=zwU (b.take j);rw [hl] at hw;refine (znJ (wv':=((word (b.take (j+1)):Nat):Int)) (place':=((256^(j+1)%18446744073709551616:Nat):Int)) (i':=((j+1:Nat):Int)) ?_).trans (ih (j+1) (by omega));unfold zbI;have hc:=(b[j]'(by omega)).toNat_lt;rw [uP,zR rfl (show j<b.length by omega),sb,wrap_u64 ((b[j]'(by omega)).toNat:Int),yJ (by omega) (by omega),zKZ _ _ _ (by omega) (by omega) hw,zAO (show j<b.length by omega),zvz,hl,uR,<-zFt];rfl
theorem zKp {b:List UInt8} (hb:b.length<=1152921504606846976):zgo b=some ((word (b.take 8):Nat):Int):=by
 unfold zgo;have h:=zFI hb (min 8 b.length) 0 (by omega);have h':zdx b 0 1 0=some ((word (b.take 8):Nat):Int):=h;rw [h',sb]
def zbO (k:Int):Bool:=decide (1<=k/\k<=17)
def kNum (k:Int):Bool:=decide (1<=k/\k<=14)
def zaM (k:Int):Int:=if 15<=k then 2 else if 12<=k then 1 else if 9<=k then 5 else 0
def zbE (k w:Int):Int:=
 if k=1\/k=8 then zsG (sgnS w) else if k=3\/k=5\/k=9\/k=10\/k=11 then w%4294967296 else if k=7 then (if 0<w then 1 else 0) else w
theorem ztV (k:Int):zes k=some (zbO k):=by unfold zes zbO;simp [Bool.decide_and]
theorem zkr (k:Int):zaN k=some (kNum k):=by unfold zaN kNum;simp [Bool.decide_and]
theorem zrf (k:Int):zda k=some (zaM k):=by
 unfold zda zaM;by_cases h1:15<=k
 ·rw [itT (by simpa using h1),xy h1]
 ·rw [itF (by simpa using h1),xx h1];by_cases h2:12<=k
  ·rw [itT (by simpa using h2),xy h2]
  ·rw [itF (by simpa using h2),xx h2];by_cases h3:9<=k
   ·rw [itT (by simpa using h3),xy h3]
   ·rw [itF (by simpa using h3),xx h3]
theorem zre (k:Int) (h:0<=w/\w<=18446744073709551615):zdu k w=some (zbE k w):=by
 have hs:=zCi w;unfold zdu zbE;by_cases h1:k=1\/k=8
 ·rw [xy h1];have e:(if (k==1)=true then some (k==1) else some (k==8))=some true:=by rcases h1 with rfl| rfl<;>rfl
  rw [e,sb,itT rfl,zFH h,sb,zKo (by omega),sb]
 ·rw [xx h1];have e:(if (k==1)=true then some (k==1) else some (k==8))=some false:=by rw [uQ];simp;omega
  rw [e,sb,itF rfl];by_cases h2:k=3\/k=5\/k=9\/k=10\/k=11
  ·rw [xy h2];have e2:(if (k==3)=true then some (k==3) else if (k==5)=true then some (k==5) else if (k==9)=true then some (k==9) else if (k==10)=true then some (k==10) else some (k==11))=some true:=by
    rcases h2 with rfl| rfl| rfl| rfl| rfl<;>rfl
   rw [e2,sb,itT rfl,yQ h.1]
  ·rw [xx h2];have e2:(if (k==3)=true then some (k==3) else if (k==5)=true then some (k==5) else if (k==9)=true then some (k==9) else if (k==10)=true then some (k==10) else some (k==11))=some false:=by
    rw [uQ,uQ,uQ,uQ];simp;omega
   rw [e2,sb,itF rfl];by_cases h7:k=7
   ·rw [itT (by simpa using h7),xy h7];by_cases h0:0<w
    ·rw [itT (by simpa using h0),xy h0]
    ·rw [itF (by simpa using h0),xx h0]
   ·rw [itF (by simpa using h7),xx h7]
theorem ziJ (k:Int) (h:0<=w/\w<=18446744073709551615):0<=zbE k w/\zbE k w<=18446744073709551615:=by
 have hs:=zCi w;unfold zbE;split
 ·exact zMr (by omega)
 ·split
  ·omega
  ·split
   ·split<;>omega
   ·exact h
theorem zIR {k:Int} {w:Int} (h9:9<=k) (h12:k<12):zbE k w<4294967296:=by
 unfold zbE;rw [xx (by omega),xy (by omega)];omega
theorem zqq (k:Int) {w:Int} (h:0<=w/\w<=18446744073709551615):zbE k (zbE k w)=zbE k w:=by
 have hs:=zCi w;unfold zbE;by_cases h1:k=1\/k=8
 ·simp only [xy h1];rw [zKt hs]
 ·simp only [xx h1];by_cases h2:k=3\/k=5\/k=9\/k=10\/k=11
  ·simp only [xy h2];omega
  ·simp only [xx h2];by_cases h7:k=7
   ·simp only [xy h7];split<;>simp
   ·simp only [xx h7]
abbrev Fld:=za
abbrev Mes:=zc
def zjA {α:Type} (p:α->Bool) (l:List α):Int:=match l.findIdx? p with
 | some i=>(i:Int)
 | none=> -1
theorem zns {α:Type} {p:α->Bool} {l:List α} (h:l.findIdx? p=none):zjA p l= -1:=by unfold zjA;rw [h]
theorem znt {α:Type} {p:α->Bool} {l:List α} {i:Nat} (h:l.findIdx? p=some i):zjA p l=(i:Int):=by unfold zjA;rw [h]
theorem zrG {α:Type} (p:α->Bool) (l:List α) (F:Int->Option (Unit⊕Int)) (h0:F (l.length:Int)=some (.inl ())) (hs:∀(i:Nat) (h:i<l.length),F (i:Int)=if p l[i] then some (.inr (i:Int)) else F ((i+1:Nat):Int)):
  ∀(d i:Nat),i+d=l.length->(∀j (h:j<l.length),j<i->p l[j]=false)->F (i:Int)=some (match l.findIdx? p with| some k=> .inr (k:Int)| none=> .inl ()):=by
 intro d
 induction d with
 | zero=>
  intro i hi hj;have:i=l.length:=by omega
  subst this;have hn:l.findIdx? p=none:=by
   rw [pM];intro x hx;obtain ⟨j,hj',rfl⟩:=py hx;exact hj j hj' hj'
  rw [h0,hn]
 | succ d ih=>
  intro i hi hj;have hil:i<l.length:=by omega
  rw [hs i hil];by_cases hp:p l[i]=true
  ·have hf:l.findIdx? p=some i:=by
    rw [pN];exact ⟨hil,hp,fun j hji=>by simpa using hj j (by omega) hji⟩
   rw [xy hp,hf]
  ·rw [xx hp];refine ih (i+1) (by omega) fun j h hji=>?_
   by_cases e:j=i
   ·subst e;simpa using hp
   ·exact hj j h (by omega)
def fldI (m:Mes) (number:Int):Int:=zjA (fun f:Fld=>f.Number==number) m.Fields
theorem zvS (hm:m.Fields.length<=1152921504606846976) (number:Int):zet m number=some (fldI m number):=by
 unfold zet fldI;have h:=zrG (fun f:Fld=>f.Number==number) m.Fields (fun i=>zdl m number i) (by
   refine ziz ?_;unfold zbu;rw [uO])
  (fun i hi=>by
   have hb:zbu m number i=if ((m.Fields[i]).Number==number)=true then some (.inr (.inr (i:Int))) else some (.inl ((i+1:Nat):Int)):=by
    unfold zbu;rw [uP,zR rfl hi,sb,uR];rfl
   by_cases hp:((m.Fields[i]).Number==number)=true
   ·rw [xy hp] at hb|-;exact ziz hb
   ·rw [xx hp] at hb|-;exact znf hb)
  m.Fields.length 0 (by omega) (fun j _ hj=>by omega)
 have h':zdl m number 0=_:=h;rw [h',sb];unfold zjA;cases m.Fields.findIdx? (fun f:Fld=>f.Number==number)<;>rfl
def nmc (i:Nat) (c:UInt8):Bool:=decide (65<=c.toNat/\c.toNat<=90\/97<=c.toNat/\c.toNat<=122\/c.toNat=95\/0<i/\48<=c.toNat/\c.toNat<=57)
def nmA:Nat->List UInt8->Bool
 | _,[]=>true
 | i,c::l=>nmc i c&&nmA (i+1) l
def zgf (s:List UInt8):Bool:=nmA 0 s&&decide (1<=s.length/\s.length<=60)
theorem zho {α:Type} {l t:List α} {x:α} {k:Nat} (h:l.drop k=x::t):∃hk:k<l.length,l[k]=x/\l.drop (k+1)=t:=by
 have hk:k<l.length:=by
  rcases yU k l.length with h'| h'
  ·exact h'
  ·rw [yq h'] at h;cases h
 rw [yk hk] at h;injection h with h1 h2;exact ⟨hk,h1,h2⟩
theorem zim {α:Type} {l:List α} {k:Nat} (h:l.drop k=[]):l.length<=k:=by have:=congrArg List.length h;simp at this;omega
theorem zHY (s:List UInt8) (hs:s.length<=1152921504606846976):∀(l:List UInt8) (i:Nat),s.drop i=l->zdD s i=some (if nmA i l=true then .inl () else .inr ()):=by
 intro l
 induction l with
 | nil=>
  intro i hd;have:=zim hd;refine ziK ?_;unfold zbM;rw [uQ];rfl
 | cons c l ih=>
  intro i hd;obtain ⟨hk,hx,hd'⟩:=zho hd;have hb:zbM s i=if nmc i c=true then some (.inl ((i+1:Nat):Int)) else some (.inr (.inr ())):=by
   unfold zbM;rw [uP,zR rfl hk,sb,hx,uR];have e:(if (decide ((c.toNat:Int)>=65)) then ((decide ((c.toNat:Int)<=90))|| (if (decide ((c.toNat:Int)>=97)) then ((decide ((c.toNat:Int)<=122))|| (((c.toNat:Int)==95)|| ((decide ((i:Int)>0))&&((decide ((c.toNat:Int)>=48))&&(decide ((c.toNat:Int)<=57)))))) else (((c.toNat:Int)==95)|| ((decide ((i:Int)>0))&&((decide ((c.toNat:Int)>=48))&&(decide ((c.toNat:Int)<=57))))))) else (if (decide ((c.toNat:Int)>=97)) then ((decide ((c.toNat:Int)<=122))|| (((c.toNat:Int)==95)|| ((decide ((i:Int)>0))&&((decide ((c.toNat:Int)>=48))&&(decide ((c.toNat:Int)<=57)))))) else (((c.toNat:Int)==95)|| ((decide ((i:Int)>0))&&((decide ((c.toNat:Int)>=48))&&(decide ((c.toNat:Int)<=57)))))))=nmc i c:=by
    have e95:((c.toNat:Int)==95)=decide (c.toNat=95):=zpb _ 95;have a1:decide ((c.toNat:Int)>=65)=decide (65<=c.toNat):=qn.2 (by omega);have a2:decide ((c.toNat:Int)<=90)=decide (c.toNat<=90):=qn.2 (by omega);have a3:decide ((c.toNat:Int)>=97)=decide (97<=c.toNat):=qn.2 (by omega);have a4:decide ((c.toNat:Int)<=122)=decide (c.toNat<=122):=qn.2 (by omega);have a5:decide ((i:Int)>0)=decide (0<i):=qn.2 (by omega);have a6:decide ((c.toNat:Int)>=48)=decide (48<=c.toNat):=qn.2 (by omega);have a7:decide ((c.toNat:Int)<=57)=decide (c.toNat<=57):=qn.2 (by omega);rw [e95,a1,a2,a3,a4,a5,a6,a7];simp only [nmc,Bool.decide_or,Bool.decide_and]
    generalize decide (65<=c.toNat)=p1
    generalize decide (c.toNat<=90)=p2
    generalize decide (97<=c.toNat)=p3
    generalize decide (c.toNat<=122)=p4
    generalize decide (c.toNat=95)=p5
    generalize decide (0<i)=p6
    generalize decide (48<=c.toNat)=p7
    generalize decide (c.toNat<=57)=p8
    cases p1<;>cases p2<;>cases p3<;>cases p4<;>cases p5<;>cases p6<;>cases p7<;>cases p8<;>rfl
   rw [e];cases nmc i c
   ·rw [uM];rfl
   ·rw [uN];push_cast;rfl
  rw [nmA];cases hc:nmc i c
  ·rw [hc,xx (by simp)] at hb;rw [ziK hb];rfl
  ·rw [hc,xy rfl] at hb;rw [znR hb,ih _ hd',yc]
theorem zyp (hs:s.length<=1152921504606846976):zeV s=some (zgf s):=by
 unfold zeV zgf;have h:=zHY s hs s 0 rfl;have h':zdD s 0=_:=h;rw [h',sb];cases nmA 0 s
 ·rfl
 ·simp [Bool.decide_and];rw [yM];simp;omega
def zdp (n:Int) (prev:List Fld) (f:Fld):Int:=
 if zgf f.Name=false then 5 else if prev.any (fun g=>g.Name==f.Name)=true then 6
 else if f.Number<1\/f.Number>536870911\/(19000<=f.Number/\f.Number<20000) then 7
 else if prev.any (fun g=>g.Number==f.Number)=true then 8 else if zbO f.Kind=false then 9
 else if f.Packed=true/\¬(f.Repeated=true/\kNum f.Kind=true) then 10
 else if f.Kind=17/\(f.Of<0\/f.Of>=n)\/f.Kind≠17/\f.Of≠0 then 11 else 0
theorem zxs (n:Int) (prev:List Fld) (f:Fld):0<=zdp n prev f/\zdp n prev f<=11:=by
 unfold zdp
 repeat' split
 all_goals omega
theorem zEX {s:List Mes} {i k:Nat} {m:Mes} (hi:∃h:i<s.length,s[i]=m) (hk:k<=m.Fields.length) (hb:m.Fields.length<=1152921504606846976) (f:Fld):
  ∀(l:List Fld) (j:Nat) (a b:Bool),(m.Fields.take k).drop j=l->j<=k->zdk i k s f a b j=some (a|| l.any (fun g=>g.Name==f.Name),b|| l.any (fun g=>g.Number==f.Number)):=by
 obtain ⟨hi,hm⟩:=hi;intro l
 induction l with
 | nil=>
  intro j a b hd hj;have:=zim hd;rw [ye] at this;refine zne ?_;unfold zbt;rw [uQ];simp
 | cons g l ih=>
  intro j a b hd hj;obtain ⟨hjk,hx,hd'⟩:=zho hd;rw [ye] at hjk;rw [List.getElem_take] at hx;refine (znd (name':=a|| (g.Name==f.Name)) (number':=b|| (g.Number==f.Number)) (j':=((j+1:Nat):Int)) ?_).trans ?_
  ·unfold zbt;have e1:idx s (i:Int)=some m:=by rw [zR rfl hi,hm]
   have e2:idx m.Fields (j:Int)=some g:=by rw [zR rfl (by omega),hx]
   rw [uP,e1,sb,e2,sb,uR];cases a<;>cases b<;>(simp only [ql,yo,yj,e2,sb,pp,pO];push_cast;rfl)
  ·rw [ih _ _ _ hd' (by omega),qZ,qZ,ur,ur]
theorem zDP {s:List Mes} {i k:Nat} {m:Mes} {f:Fld} (hi:∃h:i<s.length,s[i]=m) (hk:∃h:k<m.Fields.length,m.Fields[k]=f) (hb:m.Fields.length<=1152921504606846976) (hf:f.Name.length<=1152921504606846976):
  zfP s i k=some (zdp s.length (m.Fields.take k) f):=by
 obtain ⟨hil,hm⟩:=hi;obtain ⟨hkl,hfe⟩:=hk;have e1:idx s (i:Int)=some m:=by rw [zR rfl hil,hm]
 have e2:idx m.Fields (k:Int)=some f:=by rw [zR rfl hkl,hfe]
 have h:=zEX ⟨hil,hm⟩ (Nat.le_of_lt hkl) hb f (m.Fields.take k) 0 false false rfl (xI _);have h':zdk i k s f false false 0=_:=h;unfold zfP zdp;rw [e1,sb,e2,sb,h',sb,zyp hf,sb];simp only [pp];cases h1:zgf f.Name
 ·rw [uM,xy (show false=false from rfl)]
 ·rw [uN,xx (show ¬(true=false) by simp)];cases h2:(m.Fields.take k).any (fun g=>g.Name==f.Name)
  ·rw [uN,xx (show ¬(false=true) by simp)];by_cases h3:f.Number<1\/f.Number>536870911\/(19000<=f.Number/\f.Number<20000)
   ·rw [itT (by simpa using h3),xy h3]
   ·rw [uQ,xx h3];cases h4:(m.Fields.take k).any (fun g=>g.Number==f.Number)
    ·rw [uN,xx (show ¬(false=true) by simp),ztV,sb];cases h5:zbO f.Kind
     ·rw [uM,xy (show false=false from rfl)]
     ·rw [uN,xx (show ¬(true=false) by simp)];have e10:(if f.Packed=true then (if f.Repeated=true then (zaN f.Kind>>=fun kg=>some (!kg)) else some (!false)) else some false)=some (decide (f.Packed=true/\¬(f.Repeated=true/\kNum f.Kind=true))):=by
       rw [zkr,sb];cases f.Packed<;>cases f.Repeated<;>cases kNum f.Kind<;>rfl
      rw [e10,sb];by_cases h6:f.Packed=true/\¬(f.Repeated=true/\kNum f.Kind=true)
      ·rw [itT (xO h6),xy h6]
      ·rw [itF (xV h6),xx h6];by_cases h7:f.Kind=17
       ·by_cases h8:f.Of<0\/f.Of>=(s.length:Int)
        ·rw [itT (by simp [h7];simpa using h8),xy (.inl ⟨h7,h8⟩)]
        ·rw [itF (by simp [h7];omega),xx (by simp [h7];omega)]
       ·by_cases h8:f.Of=0
        ·rw [itF (by simp [h7,h8]),xx (by simp [h7,h8])]
        ·rw [itT (by simp [h7,h8]),xy (.inr ⟨h7,h8⟩)]
    ·rw [uM,xy (show true=true from rfl)]
  ·rw [uM,xy (show true=true from rfl)]
def msgF (n:Int) (prev:List Fld):List Fld->Option (Nat×Int)
 | []=>none
 | f::l=>if 0<zdp n prev f then some (prev.length,zdp n prev f) else msgF n (prev++[f]) l
def chkF (n:Int) (prev:List Mes):List Mes->Option (Nat×Int×Int)
 | []=>none
 | m::l=>if zgf m.Name=false then some (prev.length, -1,2) else if prev.any (fun g=>g.Name==m.Name)=true then some (prev.length, -1,3)
  else if 200<m.Fields.length then some (prev.length, -1,4) else match msgF n [] m.Fields with
   | some (k,w)=>some (prev.length,(k:Int),w)
   | none=>chkF n (prev++[m]) l
def zkg (s:List Mes):Int×Int×Int:=if s.length=0\/100<s.length then (-1, -1,1) else match chkF s.length [] s with
 | none=>(0,0,0)
 | some (i,k,w)=>((i:Int),k,w)
def zhT (s:List Mes):Bool:=decide ((zkg s).2.2=0)
def WS (s:List Mes):Prop:=s.length<=140737488351232/\∀m∈s,m.Name.length<=140737488351232/\m.Fields.length<=140737488351232/\∀f∈m.Fields,f.Name.length<=140737488351232
theorem zCM {s:List Mes} {i:Nat} {m:Mes} (hi:∃h:i<s.length,s[i]=m) (hb:m.Fields.length<=140737488351232) (hn:∀f∈m.Fields,f.Name.length<=140737488351232):
  ∀(l:List Fld) (k:Nat),m.Fields.drop k=l->k<=m.Fields.length->zdj i s k=some (match msgF s.length (m.Fields.take k) l with| some (j,w)=> .inr ((j:Int),w)| none=> .inl ()):=by
 obtain ⟨hil,hm⟩:=hi;have e1:idx s (i:Int)=some m:=by rw [zR rfl hil,hm]
 intro l
 induction l with
 | nil=>
  intro k hd hk;have:=zim hd;refine ziy ?_;unfold zbs;rw [e1,sb,uQ];rfl
 | cons f l ih=>
  intro k hd hk;obtain ⟨hkl,hx,hd'⟩:=zho hd;have hf:=zDP (s:=s) (i:=i) (k:=k) (m:=m) (f:=f) ⟨hil,hm⟩ ⟨hkl,hx⟩ (by omega) (by have:=hn f (by rw [<-hx];exact xF hkl);omega);have hbd:=zxs s.length (m.Fields.take k) f;have htl:(m.Fields.take k).length=k:=by rw [ye];omega
  rw [msgF];by_cases h0:0<zdp s.length (m.Fields.take k) f
  ·rw [xy h0];refine ziy ?_;unfold zbs;rw [e1,sb,uP,hf,sb,itT (by simpa using h0)];simp only [htl]
  ·rw [xx h0];refine (znc (k2':=((k+1:Nat):Int)) ?_).trans ?_
   ·unfold zbs;rw [e1,sb,uP,hf,sb,uQ,uR];push_cast;rfl
   ·rw [ih (k+1) hd' (by omega),q6 hkl,hx]
theorem zCL (hi:∃h:i<s.length,s[i]=m) (hs:s.length<=140737488351232):
  ∀(l:List Mes) (k:Nat) (a:Bool),(s.take i).drop k=l->k<=i->zdi i s a k=some (a|| l.any (fun g=>g.Name==m.Name)):=by
 obtain ⟨hil,hm⟩:=hi;intro l
 induction l with
 | nil=>
  intro k a hd hk;have:=zim hd;rw [ye] at this;refine znb ?_;unfold zbr;rw [uQ];simp
 | cons g l ih=>
  intro k a hd hk;obtain ⟨hkl,hx,hd'⟩:=zho hd;rw [ye] at hkl;rw [List.getElem_take] at hx;refine (zna (twice':=a|| (g.Name==m.Name)) (k':=((k+1:Nat):Int)) ?_).trans ?_
  ·unfold zbr;have e1:idx s (i:Int)=some m:=by rw [zR rfl hil,hm]
   have e2:idx s (k:Int)=some g:=by rw [zR rfl (by omega),hx]
   rw [uP,e1,e2,sb,sb,uR];cases a<;>(simp only [ql,yo,yj,sb,pp,pO];push_cast;rfl)
  ·rw [ih _ _ hd' (by omega),qZ,ur]
theorem zCK (hw:WS s):∀(l:List Mes) (i:Nat),s.drop i=l->i<=s.length->zdh s i=some (match chkF s.length (s.take i) l with| some (j,k,w)=> .inr ((j:Int),k,w)| none=> .inl ()):=by
 intro l
 induction l with
 | nil=>
  intro i hd hi;have:=zim hd;refine zcW ?_;unfold zbq;rw [uQ];rfl
 | cons m l ih=>
  intro i hd hi;obtain ⟨hil,hx,hd'⟩:=zho hd;obtain ⟨hsl,hwm⟩:=hw;obtain ⟨w1,w2,w3⟩:=hwm m (by rw [<-hx];exact xF hil);have htl:(s.take i).length=i:=by rw [ye];omega
  have e1:idx s (i:Int)=some m:=by rw [zR rfl hil,hx]
  have h2:=zCL ⟨hil,hx⟩ hsl (s.take i) 0 false rfl (xI _);have h2':zdi i s false 0=_:=h2;have h3:=zCM ⟨hil,hx⟩ w2 w3 m.Fields 0 rfl (xI _);have h3':zdj i s 0=_:=h3
  have hb:zbq s i=(if zgf m.Name=false then some (.inr (.inr ((i:Int), -1,2))) else if (s.take i).any (fun g=>g.Name==m.Name)=true then some (.inr (.inr ((i:Int), -1,3)))
    else if 200<m.Fields.length then some (.inr (.inr ((i:Int), -1,4))) else match msgF s.length [] m.Fields with
     | some (k,w)=>some (.inr (.inr ((i:Int),(k:Int),w)))
     | none=>some (.inl ((i+1:Nat):Int))):=by
   unfold zbq;rw [uP,h2',sb,e1,sb,zyp (by omega),sb,sb,h3',sb,pp];cases h4:zgf m.Name
   ·rw [uM,xy (show false=false from rfl)]
   ·rw [uN,xx (show ¬(true=false) by simp)];cases h5:(s.take i).any (fun g=>g.Name==m.Name)
    ·rw [uN,xx (show ¬(false=true) by simp)];by_cases h6:200<m.Fields.length
     ·rw [uP,xy h6]
     ·rw [uQ,xx h6,yx];cases msgF s.length [] m.Fields with
      | none=>simp only;rw [uR];push_cast;rfl
      | some p=>rfl
    ·rw [uM,xy (show true=true from rfl)]
  rw [chkF];by_cases h4:zgf m.Name=false
  ·rw [xy h4] at hb|-;rw [zcW hb];simp only [htl]
  ·rw [xx h4] at hb|-;by_cases h5:(s.take i).any (fun g=>g.Name==m.Name)=true
   ·rw [xy h5] at hb|-;rw [zcW hb];simp only [htl]
   ·rw [xx h5] at hb|-;by_cases h6:200<m.Fields.length
    ·rw [xy h6] at hb|-;rw [zcW hb];simp only [htl]
    ·rw [xx h6] at hb|-;cases h7:msgF s.length [] m.Fields with
     | some p=>
      rw [h7] at hb;rw [zcW hb];simp only [htl]
     | none=>
      rw [h7] at hb;rw [zmZ hb,ih _ hd' (by omega),q6 hil,hx]
theorem zzr (hw:WS s):zfO s=some (zkg s):=by
 unfold zfO zkg;by_cases h:s.length=0\/100<s.length
 ·have e0:((s.length:Int)==0)=decide (s.length=0):=zpb _ 0;rw [e0,itT (by simp only [qT,xZ];omega),xy h]
 ·have e0:((s.length:Int)==0)=decide (s.length=0):=zpb _ 0;rw [e0,itF (by simp only [qK,ut];omega),xx h];have h1:=zCK hw s 0 rfl (xI _);have h1':zdh s 0=_:=h1;rw [h1',sb,yx];cases chkF s.length [] s with
  | none=>rfl
  | some p=>rfl
theorem zzu (hw:WS s):zfQ s=some (zhT s):=by
 unfold zfQ zhT;rw [zzr hw,sb];rfl
theorem zuV :∀(l prev:List Fld),msgF n prev l=none↔∀(k:Nat) (f:Fld),l[k]? =some f->zdp n (prev++l.take k) f=0
 | [],prev=>by simp [msgF]
 | f::l,prev=>by
  have hb:=zxs n prev f;rw [msgF];by_cases h:0<zdp n prev f
  ·rw [xy h];refine ⟨(fun h'=>nomatch h'),fun h'=>?_⟩;have:=h' 0 f rfl;simp at this;omega
  ·rw [xx h,zuV l (prev++[f])];constructor
   ·intro h' k g hg;cases k with
    | zero=>simp at hg;subst hg;simp;omega
    | succ k=>have:=h' k g (by simpa using hg);simpa using this
   ·intro h' k g hg;have:=h' (k+1) g (by simpa using hg);simpa using this
theorem zzR :∀(l prev:List Mes),chkF n prev l=none↔∀(i:Nat) (m:Mes),l[i]? =some m->zgf m.Name=true/\(prev++l.take i).any (fun g=>g.Name==m.Name)=false/\m.Fields.length<=200/\msgF n [] m.Fields=none
 | [],prev=>by simp [chkF]
 | m::l,prev=>by
  rw [chkF];by_cases h1:zgf m.Name=false
  ·rw [xy h1];refine ⟨(fun h'=>nomatch h'),fun h'=>?_⟩;have:=(h' 0 m rfl).1;rw [h1] at this;cases this
  ·rw [xx h1];by_cases h2:prev.any (fun g=>g.Name==m.Name)=true
   ·rw [xy h2];refine ⟨(fun h'=>nomatch h'),fun h'=>?_⟩;have:=(h' 0 m rfl).2.1;simp only [yx,yA] at this;rw [h2] at this;cases this
   ·rw [xx h2];by_cases h3:200<m.Fields.length
    ·rw [xy h3];refine ⟨(fun h'=>nomatch h'),fun h'=>?_⟩;have:=(h' 0 m rfl).2.2.1;omega
    ·rw [xx h3];cases h4:msgF n [] m.Fields with
     | some p=>
      refine ⟨(fun h'=>nomatch h'),fun h'=>?_⟩;have:=(h' 0 m rfl).2.2.2;rw [h4] at this;cases this
     | none=>
      simp only;rw [zzR l (prev++[m])];constructor
      ·intro h' i g hg;cases i with
       | zero=>simp at hg;subst hg;exact ⟨by simpa using h1,by simpa using h2,by omega,h4⟩
       | succ i=>have:=h' i g (by simpa using hg);simpa using this
      ·intro h' i g hg;have:=h' (i+1) g (by simpa using hg);simpa using this
theorem zLN:∀(n:Int) (l prev:List Fld) (k:Nat) (w:Int),msgF n prev l=some (k,w)->0<w:=by
 intro n l
 induction l with
 | nil=>intro prev k w h;cases h
 | cons f l ih=>
  intro prev k w h;rw [msgF] at h;split at h
  ·cases h;assumption
  ·exact ih _ _ _ h
theorem zGc:∀(n:Int) (l prev:List Mes) (i:Nat) (k w:Int),chkF n prev l=some (i,k,w)->0<w:=by
 intro n l
 induction l with
 | nil=>intro prev i k w h;cases h
 | cons m l ih=>
  intro prev i k w h;rw [chkF] at h;split at h
  ·cases h;omega
  ·split at h
   ·cases h;omega
   ·split at h
    ·cases h;omega
    ·split at h
     ·rename_i k' w' h';cases h;exact zLN _ _ _ _ _ h'
     ·exact ih _ _ _ _ h
structure zMy (n:Int) (f:Fld):Prop where
 name:zgf f.Name=true
 lo:1<=f.Number
 hi:f.Number<=536870911
 kind:zbO f.Kind=true
 packed:f.Packed=true->f.Repeated=true/\kNum f.Kind=true
 sub:f.Kind=17->0<=f.Of/\f.Of<n
 noSub:f.Kind≠17->f.Of=0
theorem zxt (h:zdp n prev f=0):zMy n f/\prev.any (fun g=>g.Name==f.Name)=false/\prev.any (fun g=>g.Number==f.Number)=false:=by
 unfold zdp at h;split at h
 ·omega
 ·rename_i h1;split at h
  ·omega
  ·rename_i h2;split at h
   ·omega
   ·rename_i h3;split at h
    ·omega
    ·rename_i h4;split at h
     ·omega
     ·rename_i h5;split at h
      ·omega
      ·rename_i h6;split at h
       ·omega
       ·rename_i h7;refine ⟨⟨by simpa using h1,by omega,by omega,by simpa using h5,fun hp=>?_,fun hk=>by omega,fun hk=>by omega⟩,by simpa using h2,by simpa using h4⟩;by_cases hq:f.Repeated=true/\kNum f.Kind=true
        ·exact hq
        ·exact absurd ⟨hp,hq⟩ h6
structure zfE (s:List Mes):Prop where
 len:1<=s.length/\s.length<=100
 name:∀m∈s,zgf m.Name=true
 names:∀(i j:Nat) (a b:Mes),i<j->s[i]? =some a->s[j]? =some b->a.Name≠b.Name
 few:∀m∈s,m.Fields.length<=200
 fld:∀m∈s,∀f∈m.Fields,zMy s.length f
 nums:∀m∈s,∀(i j:Nat) (f g:Fld),i<j->m.Fields[i]? =some f->m.Fields[j]? =some g->f.Number≠g.Number/\f.Name≠g.Name
theorem zuF {α:Type} {l:List α} {p:α->Bool} (h:l.any p=false) {x:α} (hx:x∈l):p x=false:=by
 rw [List.any_eq_false] at h;simpa using h x hx
theorem zAF {s:List Mes} (h:zhT s=true):zfE s:=by
 have h0:(zkg s).2.2=0:=by simpa [zhT] using h
 have h1:¬(s.length=0\/100<s.length):=fun hh=>by unfold zkg at h0;rw [xy hh] at h0;simp at h0
 have h2:chkF s.length [] s=none:=by
  cases h4:chkF s.length [] s with
  | none=>rfl
  | some p=>
   exfalso;obtain ⟨i,k,w⟩:=p;have h5:(zkg s).2.2=w:=by unfold zkg;rw [xx h1,h4]
   have:=zGc _ _ _ _ _ _ h4;omega
 have h3:=(zzR s []).1 h2;have at':∀m∈s,zgf m.Name=true/\m.Fields.length<=200/\msgF s.length [] m.Fields=none:=fun m hm=>by
  obtain ⟨i,hi,rfl⟩:=py hm;have:=h3 i _ (xP hi);exact ⟨this.1,this.2.2.1,this.2.2.2⟩
 refine ⟨by omega,fun m hm=>(at' m hm).1,fun i j a b hij ha hb=>?_,fun m hm=>(at' m hm).2.1,fun m hm f hf=>?_,fun m hm i j f g hij hf hg=>?_⟩
 ·have:=(h3 j b hb).2.1;have hai:a∈([]++s.take j:List Mes):=by
   rw [yb];exact pf (i:=i) (by rw [qc,xy hij];exact ha)
  simpa using zuF this hai
 ·have h4:=(zuV m.Fields []).1 (at' m hm).2.2;obtain ⟨i,hi,rfl⟩:=py hf;exact (zxt (h4 i _ (xP hi))).1
 ·have h4:=(zuV m.Fields []).1 (at' m hm).2.2;obtain ⟨_,k1,k2⟩:=zxt (h4 j g hg);have hai:f∈([]++m.Fields.take j:List Fld):=by
   rw [yb];exact pf (i:=i) (by rw [qc,xy hij];exact hf)
  exact ⟨by simpa using zuF k2 hai,by simpa using zuF k1 hai⟩
theorem zpB {α:Type} [DecidableEq α] (a b:List α) (F:Int->Option (Unit⊕Unit)) (hl:a.length=b.length) (h0:F (a.length:Int)=some (.inl ()))
  (hs:∀(i:Nat) (h:i<a.length) (h':i<b.length),F (i:Int)=if a[i]=b[i] then F ((i+1:Nat):Int) else some (.inr ())):
  ∀(d i:Nat),i+d=a.length->F (i:Int)=some (if a.drop i=b.drop i then .inl () else .inr ()):=by
 intro d
 induction d with
 | zero=>
  intro i hi;have e1:a.drop i=[]:=yq (by omega);have e2:b.drop i=[]:=yq (by omega);have:i=a.length:=by omega
  rw [e1,e2,xy rfl,this,h0]
 | succ d ih=>
  intro i hi;rw [hs i (by omega) (by omega),yk (l:=a) (by omega),yk (l:=b) (by omega)];by_cases h:a[i]'(by omega)=b[i]'(by omega)
  ·rw [xy h,ih (i+1) (by omega),h];simp only [yP,qb]
  ·rw [xx h,xx (fun e=>h (List.cons.inj e).1)]
theorem zHE {s:List Mes} {i:Nat} {m:Mes} (hi:∃h:i<s.length,s[i]=m) (hb:m.Fields.length<=140737488351232):∀(d k:Nat) (n:Int),k+d=m.Fields.length->∃r,zdZ i s n k=some r:=by
 obtain ⟨hil,hm⟩:=hi;have e1:idx s (i:Int)=some m:=by rw [zR rfl hil,hm]
 intro d
 induction d with
 | zero=>
  intro k n hk;refine ⟨n,zop ?_⟩;unfold zbY;rw [e1,sb,uQ]
 | succ d ih=>
  intro k n hk;obtain ⟨r,hr⟩:=ih (k+1) (i64.wrap (n+(i64.wrap (Int.tdiv (((m.Fields[k]'(by omega)).Name.length:Int)) 100)))) (by omega);refine ⟨r,(zoo (k':=((k+1:Nat):Int)) ?_).trans hr⟩;unfold zbY;rw [e1,sb,uP,sb,zR rfl (by omega),sb,zr (x:=(k:Int)+1) (by omega)];push_cast;rfl
theorem zNj {s:List Mes} (hw:WS s):∃b,zgU s=some b:=by
 obtain ⟨hs,hm⟩:=hw;have key:∀(d i:Nat) (n:Int),i+d=s.length->∃r,zdY s n i=some r:=by
  intro d
  induction d with
  | zero=>
   intro i n hi;refine ⟨n,zon ?_⟩;unfold zbX;rw [uQ]
  | succ d ih=>
   intro i n hi;have hil:i<s.length:=by omega
   obtain ⟨q,hq⟩:=zHE (s:=s) (i:=i) (m:=s[i]) ⟨hil,rfl⟩ (hm _ (xF hil)).2.1 (s[i]).Fields.length 0
    (i64.wrap ((i64.wrap ((i64.wrap (n+1))+(i64.wrap (Int.tdiv ((s[i]).Name.length:Int) 100))))+((s[i]).Fields.length:Int))) (by omega)
   have hq':zdZ i s (i64.wrap ((i64.wrap ((i64.wrap (n+1))+(i64.wrap (Int.tdiv ((s[i]).Name.length:Int) 100))))+((s[i]).Fields.length:Int))) 0=some q:=hq;obtain ⟨r,hr⟩:=ih (i+1) q (by omega);refine ⟨r,(zom (i':=((i+1:Nat):Int)) ?_).trans hr⟩;unfold zbX;rw [uP,zR rfl hil,sb,sb,hq',sb,zr (x:=(i:Int)+1) (by omega)];push_cast;rfl
 obtain ⟨r,hr⟩:=key s.length 0 0 (by omega);have hr':zdY s 0 0=some r:=hr;exact ⟨_,by unfold zgU;rw [hr',sb]⟩
def zbD (m:Mes) (p:Int):Int:=(m.Fields.getD p.toNat ⟨[],0,0,false,false,0⟩).Number
def insS (κ:Int->Int) (i:Int) (out:List Int):List Int:=out.takeWhile (fun x=>decide (κ x<=κ i))++i::out.dropWhile (fun x=>decide (κ x<=κ i))
def zcL (κ:Int->Int):Nat->List Int
 | 0=>[]
 | n+1=>insS κ n (zcL κ n)
theorem zAf (κ:Int->Int) (i:Int) (out:List Int):(insS κ i out).Perm (i::out):=by
 unfold insS;refine List.perm_middle.trans ?_;rw [uu]
theorem zfC :∀{n:Nat} {x:Int},x∈zcL κ n↔0<=x/\x<n
 | 0,x=>by
  simp only [zcL,xS,false_iff];omega
 | n+1,x=>by
  rw [zcL,(zAf κ n _).mem_iff,xD,zfC];omega
theorem zsa (κ:Int->Int):∀(n:Nat),(zcL κ n).length=n
 | 0=>rfl
 | n+1=>by rw [zcL,(zAf κ n _).length_eq,xR,zsa κ n]
def zpa (κ:Int->Int) (a b:Int):Prop:=κ a<κ b\/κ a=κ b/\a<b
theorem zCq {κ:Int->Int} {c:Int}:∀{l:List Int},∀x∈l.takeWhile (fun x=>decide (κ x<=c)),κ x<=c/\x∈l:=by
 intro l
 induction l with
 | nil=>intro x hx;simp at hx
 | cons y l ih=>
  intro x hx;rw [List.takeWhile_cons] at hx;by_cases hy:κ y<=c
  ·rw [xy (by simpa using hy)] at hx;rcases xD.1 hx with rfl| hx
   ·exact ⟨hy,xz⟩
   ·exact ⟨(ih x hx).1,xA _ (ih x hx).2⟩
  ·rw [xx (by simpa using hy)] at hx;cases hx
theorem zBv :∀{l:List Int},l.Pairwise (zpa κ)->∀x∈l.dropWhile (fun x=>decide (κ x<=c)),c<κ x:=by
 intro l
 induction l with
 | nil=>intro _ x hx;simp at hx
 | cons y l ih=>
  intro hp x hx;rw [List.dropWhile_cons] at hx;have hp':=yB.1 hp;by_cases hy:κ y<=c
  ·rw [xy (by simpa using hy)] at hx;exact ih hp'.2 x hx
  ·rw [xx (by simpa using hy)] at hx;rcases xD.1 hx with rfl| hx
   ·omega
   ·have:=hp'.1 x hx;unfold zpa at this;omega
theorem zpC (κ:Int->Int):∀(n:Nat),(zcL κ n).Pairwise (zpa κ)
 | 0=> .nil
 | n+1=>by
  have ih:=zpC κ n;have hm:∀x∈zcL κ n,x<n:=fun x hx=>(zfC.1 hx).2
  rw [zcL,insS];have hsplit:(zcL κ n).takeWhile (fun x=>decide (κ x<=κ n))++(zcL κ n).dropWhile (fun x=>decide (κ x<=κ n))=zcL κ n:=uu;have hp:((zcL κ n).takeWhile (fun x=>decide (κ x<=κ n))++(zcL κ n).dropWhile (fun x=>decide (κ x<=κ n))).Pairwise (zpa κ):=by rw [hsplit];exact ih
  have ht:=zCq (κ:=κ) (c:=κ n) (l:=zcL κ n);have hd:=zBv (c:=κ n) ih;have htm:∀x∈(zcL κ n).takeWhile (fun x=>decide (κ x<=κ n)),x<n:=fun x hx=>hm x (ht x hx).2
  rw [List.pairwise_append] at hp|-;refine ⟨hp.1,yB.2 ⟨fun x hx=> .inl (hd x hx),hp.2.1⟩,fun a ha b hb=>?_⟩;rcases xD.1 hb with rfl| hb
  ·have h1:=(ht a ha).1;have h2:=htm a ha;unfold zpa;omega
  ·exact hp.2.2 a ha b hb
theorem zBh {κ:Int->Int} {a b:Int} (h:zpa κ a b) (k:zpa κ b a):False:=by unfold zpa at h k;omega
theorem zCk {m:Mes} {i:Nat} {out:List Int} (hi:i<m.Fields.length) (hb:m.Fields.length<=1099511627776) (hol:out.length<=1099511627776) (ho:∀x∈out,0<=x/\x<m.Fields.length):
  ∀(t:List Int) (k:Nat),out.drop k=t->k<=out.length->zcP i m out k=some ((k+(t.takeWhile (fun x=>decide (zbD m x<=zbD m i))).length:Nat):Int):=by
 have ki:zbD m i=(m.Fields[i]).Number:=by unfold zbD;rw [xJ,qN,xP hi];rfl
 intro t
 induction t with
 | nil=>
  intro k hd hk;have:=zim hd;refine zhZ ?_;unfold zbe;rw [uQ,sb,uN];simp
 | cons x t ih=>
  intro k hd hk;obtain ⟨hkl,hx,hd'⟩:=zho hd;have hxo:=ho x (by rw [<-hx];exact xF hkl);have kx:zbD m x=(m.Fields[x.toNat]'(by omega)).Number:=by unfold zbD;rw [qN,xP (by omega)];rfl
  have hb2:zbe i m out k=if zbD m x<=zbD m i then some (.inl ((k+1:Nat):Int)) else some (.inr (k:Int)):=by
   unfold zbe;rw [uP,zR rfl hkl,sb,hx,zR (n:=x.toNat) (by omega) (by omega),sb,zR rfl hi,sb,sb,kx,ki,uR];by_cases h:(m.Fields[x.toNat]'(by omega)).Number<=(m.Fields[i]).Number
   ·rw [itT (by simpa using h),xy h];push_cast;rfl
   ·rw [itF (by simpa using h),xx h]
  rw [List.takeWhile_cons];by_cases h:zbD m x<=zbD m i
  ·rw [xy h] at hb2;rw [zml hb2,ih _ hd' (by omega),xy (by simpa using h),xR];congr 2;omega
  ·rw [xx h] at hb2;rw [zhZ hb2,xx (by simpa using h)];simp
theorem zCa {m:Mes} (hb:m.Fields.length<=1099511627776):zfg m=some (zcL (zbD m) m.Fields.length):=by
 have key:∀(d i:Nat),i+d=m.Fields.length->zcO m (zcL (zbD m) i) i=some (zcL (zbD m) m.Fields.length):=by
  intro d
  induction d with
  | zero=>
   intro i hi;have:i=m.Fields.length:=by omega
   subst this;refine zmk ?_;unfold zbd;rw [uO]
  | succ d ih=>
   intro i hi;refine (zmj (out':=zcL (zbD m) (i+1)) (i':=((i+1:Nat):Int)) ?_).trans (ih _ (by omega));have hl:=zsa (zbD m) i;have h2:=zCk (m:=m) (i:=i) (out:=zcL (zbD m) i) (by omega) hb (by omega) (fun x hx=>by have:=zfC.1 hx;omega) (zcL (zbD m) i) 0 rfl (xI _);have h2':zcP i m (zcL (zbD m) i) 0=_:=h2;rw [xQ] at h2';have hsp:(zcL (zbD m) i).takeWhile (fun x=>decide (zbD m x<=zbD m i))++(zcL (zbD m) i).dropWhile (fun x=>decide (zbD m x<=zbD m i))=zcL (zbD m) i:=uu
   generalize htk:(zcL (zbD m) i).takeWhile (fun x=>decide (zbD m x<=zbD m i))=tk at h2' hsp
   generalize hdk:(zcL (zbD m) i).dropWhile (fun x=>decide (zbD m x<=zbD m i))=dk at hsp
   have hins:zcL (zbD m) (i+1)=tk++(i:Int)::dk:=by rw [zcL,insS,htk,hdk]
   have ke:tk.length+dk.length=i:=by rw [<-hl,<-hsp,xE]
   have c1:cut (zcL (zbD m) i) 0 ((tk.length:Nat):Int)=some tk:=by rw [ztt rfl (by omega),<-hsp,uv]
   have c2:cut (zcL (zbD m) i) ((tk.length:Nat):Int) ((zcL (zbD m) i).length:Int)=some dk:=by rw [zqu rfl rfl (by omega),<-hsp,pP]
   unfold zbd;rw [uP,h2',sb,c1,sb,zcg (by simp;omega),sb,yb,zcg (by simp;omega),sb,c2,sb,zcg (by simp;omega),sb,uR,hins];simp
 unfold zfg;have h:=key m.Fields.length 0 (by omega);have h':zcO m [] 0=_:=h;rw [h',sb]
def cpN (r:Nat):List Nat:=
 if r<128 then [r] else if r<2048 then [192+r/64,128+r%64]
 else if r<65536 then (if 55296<=r/\r<=57343 then [] else [224+r/4096,128+r/64%64,128+r%64])
 else if r<=1114111 then [240+r/262144,128+r/4096%64,128+r/64%64,128+r%64] else []
def cpB (r:Nat):List UInt8:=(cpN r).map UInt8.ofNat
def cont (c:UInt8):Bool:=decide (128<=c.toNat/\c.toNat<192)
def is1:List UInt8->Bool
 | a::_=>decide (a.toNat<128)
 | _=>false
def is2:List UInt8->Bool
 | a::b::_=>decide (194<=a.toNat/\a.toNat<224/\cont b=true)
 | _=>false
def is3:List UInt8->Bool
 | a::b::c::_=>decide (224<=a.toNat/\a.toNat<240/\cont b=true/\cont c=true/\(a.toNat=224->160<=b.toNat)/\(a.toNat=237->b.toNat<160))
 | _=>false
def is4:List UInt8->Bool
 | a::b::c::d::_=>decide (240<=a.toNat/\a.toNat<245/\cont b=true/\cont c=true/\cont d=true/\(a.toNat=240->144<=b.toNat)/\(a.toNat=244->b.toNat<144))
 | _=>false
def nxt (l:List UInt8):Nat:=if is1 l then 1 else if is2 l then 2 else if is3 l then 3 else if is4 l then 4 else 0
theorem ztM (h:n<256):(UInt8.ofNat n=c)↔n=c.toNat:=by
 constructor
 ·intro e;rw [<-e,UInt8.toNat_ofNat'];omega
 ·intro e;rw [e,UInt8.ofNat_toNat]
theorem zKf (r:Int):zgW r=some (if r<0 then [] else cpB r.toNat):=by
 unfold zgW;by_cases h0:r<0
 ·rw [uP,xy h0]
 ·rw [xx h0];obtain ⟨n,rfl⟩:∃n:Nat,r=n:=⟨r.toNat,by omega⟩;rw [xJ];unfold cpB cpN;by_cases h1:n<128
  ·rw [uQ,uP,xy h1,zjS,zep (n:=n) (by omega) (by omega)];rfl
  ·rw [xx h1];by_cases h2:n<2048
   ·rw [uQ,uQ,uP,xy h2];simp only [qY (show (0:Int)<=n by omega),yQ (show (0:Int)<=n by omega),zjS];rw [zr (x:=(n:Int)/64) (by omega),uR,uR,zep (n:=192+n/64) (by omega) (by omega),sb,zep (n:=128+n%64) (by omega) (by omega)];rfl
   ·rw [xx h2];by_cases h3:n<65536
    ·rw [xy h3];by_cases h4:55296<=n/\n<=57343
     ·rw [uP,xy h4];rfl
     ·rw [uQ,uQ,uQ,uP,xx h4];simp only [qY (show (0:Int)<=n by omega),yQ (show (0:Int)<=n by omega),zjS]
      rw [zr (x:=(n:Int)/4096) (by omega),zr (x:=(n:Int)/64) (by omega),yQ (by omega),uR,uR,uR,
       zep (n:=224+n/4096) (by omega) (by omega),sb,zep (n:=128+n/64%64) (by omega) (by omega),sb,zep (n:=128+n%64) (by omega) (by omega)];rfl
    ·rw [xx h3];by_cases h4:n<=1114111
     ·rw [uQ,uQ,uQ,uQ,xy h4];simp only [qY (show (0:Int)<=n by omega),yQ (show (0:Int)<=n by omega),zjS]
      rw [zr (x:=(n:Int)/262144) (by omega),zr (x:=(n:Int)/4096) (by omega),zr (x:=(n:Int)/64) (by omega),yQ (by omega),yQ (by omega),uR,uR,uR,uR,
       zep (n:=240+n/262144) (by omega) (by omega),sb,zep (n:=128+n/4096%64) (by omega) (by omega),sb,zep (n:=128+n/64%64) (by omega) (by omega),sb,zep (n:=128+n%64) (by omega) (by omega)];rfl
     ·rw [uP,xx h4];rfl
def zxm:Nat->List UInt8->Nat
 | 1,a::_=>a.toNat
 | 2,a::b::_=>64*(a.toNat%32)+b.toNat%64
 | 3,a::b::c::_=>64*(64*(a.toNat%16)+b.toNat%64)+c.toNat%64
 | 4,a::b::c::d::_=>64*(64*(64*(a.toNat%8)+b.toNat%64)+c.toNat%64)+d.toNat%64
 | _,_=>0
theorem map1 (h:∀x∈l,x<256):l.map UInt8.ofNat=[a]↔l=[a.toNat]:=by
 cases l with
 | nil=>simp
 | cons x l=>cases l with
  | nil=>simp only [xL,qj,yP,qM];exact ztM (h x (by simp))
  | cons y l=>simp
theorem map2 (h:∀x∈l,x<256):l.map UInt8.ofNat=[a,b]↔l=[a.toNat,b.toNat]:=by
 cases l with
 | nil=>simp
 | cons x l=>simp only [xL,yP,ztM (h x (by simp)),map1 (l:=l) fun y hy=>h y (by simp [hy])]
theorem map3 (h:∀x∈l,x<256):l.map UInt8.ofNat=[a,b,c]↔l=[a.toNat,b.toNat,c.toNat]:=by
 cases l with
 | nil=>simp
 | cons x l=>simp only [xL,yP,ztM (h x (by simp)),map2 (l:=l) fun y hy=>h y (by simp [hy])]
theorem map4 (h:∀x∈l,x<256):l.map UInt8.ofNat=[a,b,c,d]↔l=[a.toNat,b.toNat,c.toNat,d.toNat]:=by
 cases l with
 | nil=>simp
 | cons x l=>simp only [xL,yP,ztM (h x (by simp)),map3 (l:=l) fun y hy=>h y (by simp [hy])]
theorem zBs (r:Nat):∀x∈cpN r,x<256:=by
 intro x hx;unfold cpN at hx;split at hx
 ·simp at hx;omega
 ·split at hx
  ·simp at hx;omega
  ·split at hx
   ·split at hx
    ·cases hx
    ·simp at hx;omega
   ·split at hx
    ·simp at hx;omega
    ·cases hx
theorem cpB1 (a:UInt8):cpB a.toNat=[a]↔a.toNat<128:=by
 have ha:=a.toNat_lt;unfold cpB;rw [map1 (zBs _)];unfold cpN;by_cases h:a.toNat<128
 ·simp [h]
 ·rw [xx h,xy (by omega)];simp;omega
theorem cpB2 (a b:UInt8):cpB (64*(a.toNat%32)+b.toNat%64)=[a,b]↔194<=a.toNat/\a.toNat<224/\cont b=true:=by
 have ha:=a.toNat_lt;have hb:=b.toNat_lt;unfold cpB cont;rw [map2 (zBs _)];unfold cpN;by_cases h:64*(a.toNat%32)+b.toNat%64<128
 ·rw [xy h];simp;omega
 ·rw [xx h,xy (by omega)];simp;omega
theorem cpB3 (a b c:UInt8):cpB (64*(64*(a.toNat%16)+b.toNat%64)+c.toNat%64)=[a,b,c]↔224<=a.toNat/\a.toNat<240/\cont b=true/\cont c=true/\(a.toNat=224->160<=b.toNat)/\(a.toNat=237->b.toNat<160):=by
 have ha:=a.toNat_lt;have hb:=b.toNat_lt;have hc:=c.toNat_lt;unfold cpB cont;rw [map3 (zBs _)];unfold cpN;by_cases h:64*(64*(a.toNat%16)+b.toNat%64)+c.toNat%64<128
 ·rw [xy h];simp;omega
 ·rw [xx h];by_cases h2:64*(64*(a.toNat%16)+b.toNat%64)+c.toNat%64<2048
  ·rw [xy h2];simp;omega
  ·rw [xx h2,xy (by omega)];by_cases h3:55296<=64*(64*(a.toNat%16)+b.toNat%64)+c.toNat%64/\64*(64*(a.toNat%16)+b.toNat%64)+c.toNat%64<=57343
   ·rw [xy h3];simp;omega
   ·rw [xx h3];simp;omega
theorem cpB4 (a b c d:UInt8):cpB (64*(64*(64*(a.toNat%8)+b.toNat%64)+c.toNat%64)+d.toNat%64)=[a,b,c,d]↔
  240<=a.toNat/\a.toNat<245/\cont b=true/\cont c=true/\cont d=true/\(a.toNat=240->144<=b.toNat)/\(a.toNat=244->b.toNat<144):=by
 have ha:=a.toNat_lt;have hb:=b.toNat_lt;have hc:=c.toNat_lt;have hd:=d.toNat_lt;unfold cpB cont;rw [map4 (zBs _)];unfold cpN;by_cases h:64*(64*(64*(a.toNat%8)+b.toNat%64)+c.toNat%64)+d.toNat%64<65536
 ·have:∀l:List Nat,l.length<=3->(l=[a.toNat,b.toNat,c.toNat,d.toNat])=False:=fun l hl=>by simp only [eq_iff_iff,iff_false];intro e;rw [e] at hl;simp at hl
  rw [xy h];split
  ·rw [this _ (by simp)];simp;omega
  ·split
   ·rw [this _ (by simp)];simp;omega
   ·split
    ·rw [this _ (by simp)];simp;omega
    ·rw [this _ (by simp)];simp;omega
 ·rw [xx (by omega),xx (by omega),xx h];by_cases h2:64*(64*(64*(a.toNat%8)+b.toNat%64)+c.toNat%64)+d.toNat%64<=1114111
  ·rw [xy h2];simp;omega
  ·rw [xx h2];simp;omega
def isN (n:Nat) (l:List UInt8):Bool:=match n with
 | 1=>is1 l
 | 2=>is2 l
 | 3=>is3 l
 | 4=>is4 l
 | _=>false
theorem zGs (n:Nat) (l:List UInt8) (h1:1<=n) (h4:n<=4) (hl:n<=l.length):cpB (zxm n l)=l.take n↔isN n l=true:=by
 match n,l,h1,h4,hl with
 | 1,a::t,_,_,_=>simp only [zxm,yY,yx,cpB1,isN,is1,xZ]
 | 2,a::b::t,_,_,_=>simp only [zxm,yY,yx,cpB2,isN,is2,xZ]
 | 3,a::b::c::t,_,_,_=>simp only [zxm,yY,yx,cpB3,isN,is3,xZ]
 | 4,a::b::c::d::t,_,_,_=>simp only [zxm,yY,yx,cpB4,isN,is4,xZ]
theorem zGt (n:Nat) (l:List UInt8) (h:l.length<n):isN n l=false:=by
 match n,l with
 | 0,_=>rfl
 | 1,[]=>rfl
 | 2,[]=>rfl
 | 2,[_]=>rfl
 | 3,[]=>rfl
 | 3,[_]=>rfl
 | 3,[_,_]=>rfl
 | 4,[]=>rfl
 | 4,[_]=>rfl
 | 4,[_,_]=>rfl
 | 4,[_,_,_]=>rfl
 | n+5,_=>rfl
 | 1,_::_=>simp at h
 | 2,_::_::_=>simp at h;omega
 | 3,_::_::_::_=>simp at h;omega
 | 4,_::_::_::_::_=>simp at h;omega
theorem zrM {b:List UInt8} {a n i r:Nat} (hb:b.length<=1152921504606846976) (hn:n<=4) (h:i<n) (ha:a+i<b.length) (hr:r<=1000000000):
  zbL a b n r i=zbL a b n ((64*r+(b[a+i]).toNat%64:Nat):Int) ((i+1:Nat):Int):=by
 refine znP ?_;unfold zbK;have hc:=(b[a+i]).toNat_lt;rw [uP,uR,zR (show (a:Int)+i=((a+i:Nat):Int) by push_cast;rfl) ha,sb];simp (disch:=omega) only [zr,yQ];push_cast;rfl
theorem zBG (h:n<=i):zbL a b n r i=some (r:Int):=by
 refine znQ ?_;unfold zbK;rw [uQ]
theorem zmr {b:List UInt8} {a i:Nat} {c:UInt8} (h:(b.drop a)[i]? =some c):∃h:a+i<b.length,b[a+i]=c:=by
 rw [qH] at h;exact yy.1 h
theorem zOt {b:List UInt8} {a n:Nat} {c:UInt8} {t:List UInt8} (hb:b.length<=1152921504606846976) (hl:b.drop a=c::t) (h1:1<=n) (h4:n<=4) (hn:n<=(b.drop a).length):
  zbL a b n ((if 1<n then c.toNat%([0,0,32,16,8].getD n 0) else c.toNat:Nat):Int) (1:Nat)=some ((zxm n (b.drop a):Nat):Int):=by
 have hc:=c.toNat_lt;rw [hl] at hn
 match n,t,h1,h4,hn with
 | 1,t,_,_,_=>rw [zBG (by omega),hl];rfl
 | 2,x::t,_,_,_=>
  obtain ⟨g1,e1⟩:=zmr (b:=b) (a:=a) (i:=1) (c:=x) (by rw [hl];rfl);rw [xy (by omega),zrM hb (by omega) (by omega) g1 (by simp;omega),zBG (by omega),hl,e1];rfl
 | 3,x::y::t,_,_,_=>
  obtain ⟨g1,e1⟩:=zmr (b:=b) (a:=a) (i:=1) (c:=x) (by rw [hl];rfl);obtain ⟨g2,e2⟩:=zmr (b:=b) (a:=a) (i:=2) (c:=y) (by rw [hl];rfl);have hx:=x.toNat_lt;rw [xy (by omega),zrM hb (by omega) (by omega) g1 (by simp;omega),zrM hb (by omega) (by omega) g2 (by simp;omega),zBG (by omega),hl,e1,e2];rfl
 | 4,x::y::z::t,_,_,_=>
  obtain ⟨g1,e1⟩:=zmr (b:=b) (a:=a) (i:=1) (c:=x) (by rw [hl];rfl);obtain ⟨g2,e2⟩:=zmr (b:=b) (a:=a) (i:=2) (c:=y) (by rw [hl];rfl);obtain ⟨g3,e3⟩:=zmr (b:=b) (a:=a) (i:=3) (c:=z) (by rw [hl];rfl);have hx:=x.toNat_lt;have hy:=y.toNat_lt;rw [xy (by omega),zrM hb (by omega) (by omega) g1 (by simp;omega),zrM hb (by omega) (by omega) g2 (by simp;omega),zrM hb (by omega) (by omega) g3 (by simp;omega),zBG (by omega),hl,e1,e2,e3];rfl
theorem zMA {b:List UInt8} {a n:Nat} (hb:b.length<=1152921504606846976) (ha:a<=b.length) (h1:1<=n) (h5:n<=5):
  zci a b n=if isN n (b.drop a) then some (.inr (.inr (n:Int))) else if n<=4/\n<=(b.drop a).length then some (.inl ((n+1:Nat):Int)) else some (.inr (.inl ())):=by
 have hdl:(b.drop a).length=b.length - a:=by simp
 unfold zci;by_cases h:n<=4/\n<=(b.drop a).length
 ·rw [xy h,uR,uP];obtain ⟨c,t,hl⟩:∃c t,b.drop a=c::t:=by
   cases hh:b.drop a with
   | nil=>rw [hh] at h;simp at h;omega
   | cons c t=>exact ⟨c,t,rfl⟩
  obtain ⟨g0,e0⟩:=zmr (b:=b) (a:=a) (i:=0) (c:=c) (by rw [hl];rfl);have hc:=c.toNat_lt;rw [zR rfl (show a<b.length by omega),sb];have e0':b[a]'(by omega)=c:=by simpa using e0
  rw [e0',uR];have hp:(if (decide ((n:Int)>1))=true then (idx ([0,0,32,16,8]:(List Int)) (n:Int)>>=fun x2=>remI (c.toNat:Int) x2>>=fun v3=>some v3) else some (c.toNat:Int))=some (((if 1<n then c.toNat%([0,0,32,16,8].getD n 0) else c.toNat:Nat)):Int):=by
   match n,h1,h.1 with
   | 1,_,_=>rfl
   | 2,_,_=>rfl
   | 3,_,_=>rfl
   | 4,_,_=>rfl
  rw [hp,sb];have h2:=zOt hb hl h1 h.1 h.2;have h2':zbL a b n ((if 1<n then c.toNat%([0,0,32,16,8].getD n 0) else c.toNat:Nat):Int) 1=some ((zxm n (b.drop a):Nat):Int):=h2;rw [h2',sb,zKf,sb,xx (by omega),xJ,zhn rfl (show (a:Int)+n=((a+n:Nat):Int) by push_cast;rfl) (by omega) (by omega),sb,uj];by_cases hi:isN n (b.drop a)=true
  ·rw [xy hi,itT (by simpa using (zGs n _ h1 h.1 h.2).2 hi)]
  ·rw [xx hi,itF (by simpa using fun e=>hi ((zGs n _ h1 h.1 h.2).1 e)),uR];rfl
 ·have hn:isN n (b.drop a)=false:=by
   by_cases h4:n<=4
   ·exact zGt _ _ (by omega)
   ·have:n=5:=by omega
    subst this;rfl
  rw [xx h,hn,uR,uQ];rfl
theorem zys {b:List UInt8} {a:Nat} (hb:b.length<=1152921504606846976) (ha:a<=b.length):zgq b a=some ((nxt (b.drop a):Nat):Int):=by
 have key:∀(k n:Nat),n+k=5->1<=n->(∀j,1<=j->j<n->isN j (b.drop a)=false)->∃q,zdB a b n=some q/\(match q with| .inl _=>(0:Int)| .inr u=>u)=((nxt (b.drop a):Nat):Int):=by
  intro k
  induction k with
  | zero=>
   intro n hn h1 hj;have:n=5:=by omega
   subst this;refine ⟨.inl (),zgH ?_,?_⟩
   ·rw [zMA hb ha h1 (by omega),xx (by simp [isN]),xx (by omega)]
   ·have j1:=hj 1 (by omega) (by omega);have j2:=hj 2 (by omega) (by omega);have j3:=hj 3 (by omega) (by omega);have j4:=hj 4 (by omega) (by omega);simp only [isN] at j1 j2 j3 j4;simp [nxt,j1,j2,j3,j4]
  | succ k ih=>
   intro n hn h1 hj;have hb1:=zMA hb ha h1 (show n<=5 by omega);by_cases hi:isN n (b.drop a)=true
   ·rw [xy hi] at hb1;refine ⟨.inr n,zgH hb1,?_⟩;have e:nxt (b.drop a)=n:=by
     match n,h1,(show n<=4 by omega),hi,hj with
     | 1,_,_,hi,_=>simp only [isN] at hi;simp [nxt,hi]
     | 2,_,_,hi,hj=>have j1:=hj 1 (by omega) (by omega);simp only [isN] at hi j1;simp [nxt,hi,j1]
     | 3,_,_,hi,hj=>have j1:=hj 1 (by omega) (by omega);have j2:=hj 2 (by omega) (by omega);simp only [isN] at hi j1 j2;simp [nxt,hi,j1,j2]
     | 4,_,_,hi,hj=>have j1:=hj 1 (by omega) (by omega);have j2:=hj 2 (by omega) (by omega);have j3:=hj 3 (by omega) (by omega);simp only [isN] at hi j1 j2 j3;simp [nxt,hi,j1,j2,j3]
    simp only [e]
   ·rw [xx hi] at hb1;by_cases hl:n<=4/\n<=(b.drop a).length
    ·rw [xy hl] at hb1;obtain ⟨q,h2,h3⟩:=ih (n+1) (by omega) (by omega) fun j g1 g2=>by
      by_cases he:j=n
      ·subst he;simpa using hi
      ·exact hj j g1 (by omega)
     exact ⟨q,(znO hb1).trans h2,h3⟩
    ·rw [xx hl] at hb1;refine ⟨.inl (),zgH hb1,?_⟩;have hall:∀j,1<=j->isN j (b.drop a)=false:=fun j g1=>by
      by_cases g2:j<n
      ·exact hj j g1 g2
      ·by_cases g3:j<=4
       ·exact zGt _ _ (by omega)
       ·match j,g3 with
        | j+5,_=>rfl
     have j1:=hall 1 (by omega);have j2:=hall 2 (by omega);have j3:=hall 3 (by omega);have j4:=hall 4 (by omega);simp only [isN] at j1 j2 j3 j4;simp [nxt,j1,j2,j3,j4]
 obtain ⟨q,h1,h2⟩:=key 4 1 rfl (by omega) fun j g1 g2=>by omega
 unfold zgq;have h1':zdB a b 1=some q:=h1;rw [h1',sb,<-h2];cases q<;>rfl
theorem zmy (h:isN n l=true):∃a t,l=a::t/\n<=l.length/\(n=1/\a.toNat<128\/n=2/\194<=a.toNat/\a.toNat<224\/n=3/\224<=a.toNat/\a.toNat<240\/n=4/\240<=a.toNat):=by
 match n,l with
 | 1,a::t=>simp only [isN,is1,xZ] at h;exact ⟨a,t,rfl,by simp,.inl ⟨rfl,h⟩⟩
 | 2,a::b::t=>simp only [isN,is2,xZ] at h;exact ⟨a,_,rfl,by simp,.inr (.inl ⟨rfl,h.1,h.2.1⟩)⟩
 | 3,a::b::c::t=>simp only [isN,is3,xZ] at h;exact ⟨a,_,rfl,by simp,.inr (.inr (.inl ⟨rfl,h.1,h.2.1⟩))⟩
 | 4,a::b::c::d::t=>simp only [isN,is4,xZ] at h;exact ⟨a,_,rfl,by simp,.inr (.inr (.inr ⟨rfl,h.1⟩))⟩
 | 0,_=>cases h
 | 1,[]=>cases h
 | 2,[]=>cases h
 | 2,[_]=>cases h
 | 3,[]=>cases h
 | 3,[_]=>cases h
 | 3,[_,_]=>cases h
 | 4,[]=>cases h
 | 4,[_]=>cases h
 | 4,[_,_]=>cases h
 | 4,[_,_,_]=>cases h
 | _+5,_=>cases h
theorem zLv (h:isN n l=true) (h':isN m l=true):n=m:=by
 obtain ⟨a,t,e,_,g⟩:=zmy h;obtain ⟨a',t',e',_,g'⟩:=zmy h';rw [e] at e';cases e';omega
theorem zNF (h:isN n l=true):nxt l=n:=by
 obtain ⟨_,_,_,_,g⟩:=zmy h;have k:∀m,m≠n->isN m l=false:=fun m hm=>by
  cases hh:isN m l with
  | false=>rfl
  | true=>exact absurd (zLv hh h) hm
 have hn:n=1\/n=2\/n=3\/n=4:=by omega
 rcases hn with rfl| rfl| rfl| rfl
 ·simp only [isN] at h;simp [nxt,h]
 ·have j1:=k 1 (by omega);simp only [isN] at h j1;simp [nxt,h,j1]
 ·have j1:=k 1 (by omega);have j2:=k 2 (by omega);simp only [isN] at h j1 j2;simp [nxt,h,j1,j2]
 ·have j1:=k 1 (by omega);have j2:=k 2 (by omega);have j3:=k 3 (by omega);simp only [isN] at h j1 j2 j3;simp [nxt,h,j1,j2,j3]
theorem zwJ (h:nxt l≠0):isN (nxt l) l=true:=by
 unfold nxt at h|-;by_cases h1:is1 l=true
 ·simp [h1,isN]
 ·by_cases h2:is2 l=true
  ·simp [h1,h2,isN]
  ·by_cases h3:is3 l=true
   ·simp [h1,h2,h3,isN]
   ·by_cases h4:is4 l=true
    ·simp [h1,h2,h3,h4,isN]
    ·simp [h1,h2,h3,h4] at h
theorem zsU (l:List UInt8):nxt l<=l.length:=by
 by_cases h:nxt l=0
 ·omega
 ·obtain ⟨_,_,_,g,_⟩:=zmy (zwJ h);exact g
theorem zBR (l:List UInt8):nxt l<=4:=by
 by_cases h:nxt l=0
 ·omega
 ·obtain ⟨_,_,_,_,g⟩:=zmy (zwJ h);omega
def fst4 (m:Int) (l:List UInt8):Nat×Nat:=
 if h:nxt l=0\/(nxt l:Int)>m then (0,0) else (nxt l+(fst4 (m - nxt l) (l.drop (nxt l))).1,(fst4 (m - nxt l) (l.drop (nxt l))).2+1)
termination_by l.length
decreasing_by all_goals (have:=zsU l;simp only [yd];omega)
theorem zrH (h:nxt l=0\/(nxt l:Int)>m):fst4 m l=(0,0):=by rw [fst4,dif_pos h]
theorem zwz (h:¬(nxt l=0\/(nxt l:Int)>m)):fst4 m l=(nxt l+(fst4 (m - nxt l) (l.drop (nxt l))).1,(fst4 (m - nxt l) (l.drop (nxt l))).2+1):=by rw [fst4,dif_neg h]
theorem zJk (P:Int->List UInt8->Prop) (h0:∀m l,(nxt l=0\/(nxt l:Int)>m)->P m l) (h1:∀m l,¬(nxt l=0\/(nxt l:Int)>m)->P (m - nxt l) (l.drop (nxt l))->P m l) (m:Int) (l:List UInt8):P m l:=by
 generalize hn:l.length=n
 induction n using Nat.strongRecOn generalizing m l with
 | _ n ih=>
  by_cases h:nxt l=0\/(nxt l:Int)>m
  ·exact h0 m l h
  ·have:=zsU l;exact h1 m l h (ih _ (by simp only [yd];omega) _ _ rfl)
theorem zzw {b:List UInt8} (hb:b.length<=140737488355328) (km:Int) (m:Int) (l:List UInt8):∀(a c:Nat),c<=a->a<=b.length->l=b.drop a->m=km - a->
  zct b km a c=some (((a+(fst4 m l).1:Nat):Int),((c+(fst4 m l).2:Nat):Int)):=by
 refine zJk (fun m l=>∀(a c:Nat),c<=a->a<=b.length->l=b.drop a->m=km - a->zct b km a c=some (((a+(fst4 m l).1:Nat):Int),((c+(fst4 m l).2:Nat):Int))) ?_ ?_ m l
 ·intro m l h a c hc ha hl hm;subst hl hm;have h4:=zBR (b.drop a);refine zmY ?_;unfold zbp;rw [zys (by omega) ha,sb,uR,uP,zrH h];rfl
 ·intro m l h ih a c hc ha hl hm;subst hl hm;have h4:=zBR (b.drop a);have hle:=zsU (b.drop a);simp only [yd] at hle;refine (zmX (atv':=((a+nxt (b.drop a):Nat):Int)) (count':=((c+1:Nat):Int)) ?_).trans ?_
  ·unfold zbp;rw [zys (by omega) ha,sb,uR,uQ,uR];rfl
  ·rw [ih (a+nxt (b.drop a)) (c+1) (by omega) (by omega) (by rw [yi]) (by omega),zwz h];simp only [qo,pn 1]
theorem zDT (hb:b.length<=140737488355328) (km:Int):zfN b km=some (((fst4 km b).1:Int),((fst4 km b).2:Int)):=by
 unfold zfN;have h:=zzw hb km km b 0 0 (xC _) (xI _) rfl (by omega);simp only [xQ] at h;have h':zct b km 0 0=some (((fst4 km b).1:Int),((fst4 km b).2:Int)):=h;rw [h',sb]
def pre4 (l:List UInt8):Nat×Nat:=fst4 l.length l
theorem zJj (h:(l.length:Int)<=m):fst4 m l=pre4 l:=by
 have key:∀(n:Nat) (l:List UInt8) (m m':Int),l.length=n->(l.length:Int)<=m->(l.length:Int)<=m'->fst4 m l=fst4 m' l:=by
  intro n
  induction n using Nat.strongRecOn with
  | _ n ih=>
   intro l m m' hn hm hm';have hle:=zsU l;by_cases h:nxt l=0
   ·rw [zrH (.inl h),zrH (.inl h)]
   ·rw [zwz (m:=m) (l:=l) (by omega),zwz (m:=m') (l:=l) (by omega),ih _ (by simp only [yd];omega) (l.drop (nxt l)) (m - nxt l) (m' - nxt l) rfl (by simp only [yd];omega) (by simp only [yd];omega)]
 exact key _ l m l.length rfl h (qz _)
theorem zIe (h:nxt l=0):pre4 l=(0,0):=zrH (.inl h)
theorem zLU (h:nxt l≠0):pre4 l=(nxt l+(pre4 (l.drop (nxt l))).1,(pre4 (l.drop (nxt l))).2+1):=by
 have hle:=zsU l;unfold pre4;rw [zwz (by omega),zJj (m:=(l.length:Int) - nxt l) (by simp only [yd];omega)];rfl
theorem zJY (P:List UInt8->Prop) (h0:∀l,nxt l=0->P l) (h1:∀l,nxt l≠0->P (l.drop (nxt l))->P l) (l:List UInt8):P l:=by
 generalize hn:l.length=n
 induction n using Nat.strongRecOn generalizing l with
 | _ n ih=>
  by_cases h:nxt l=0
  ·exact h0 l h
  ·have:=zsU l;exact h1 l h (ih _ (by simp only [yd];omega) _ rfl)
def zfq (l:List UInt8):Bool:=decide ((pre4 l).1=l.length)
theorem zCb (hb:b.length<=140737488355328):zdt b=some (zfq b):=by
 unfold zdt;rw [zDT hb,sb];unfold zfq pre4;by_cases h:(fst4 (b.length:Int) b).1=b.length
 ·simp [h]
 ·have h2:¬(((fst4 (b.length:Int) b).1:Int)=b.length):=by omega
  simp [h,h2]
theorem zDU {b:List UInt8} (hb:b.length<=1048576):zdt b=some (zfq b):=zCb (by omega)
def enc (v:Nat):List UInt8:=if v<128 then [UInt8.ofNat v] else UInt8.ofNat (128+v%128)::enc (v/128)
termination_by v
decreasing_by omega
def scan:Nat->Nat->List UInt8->Unit⊕(Int×Int×Int)
 | _,_,[]=> .inl ()
 | i,acc,c::t=>if i=9/\1<c.toNat then .inr (0,0,4) else if c.toNat<128 then .inr (((acc+c.toNat%128*128^i:Nat):Int),((i+1:Nat):Int),0) else scan (i+1) (acc+c.toNat%128*128^i) t
def rdR:Unit⊕(Int×Int×Int)->Int×Int×Int
 | .inl _=>(0,0,3)
 | .inr r=>r
def rd (b:List UInt8):Int×Int×Int:=rdR (scan 0 0 (b.take 10))
def hor:List UInt8->Nat
 | []=>0
 | c::t=>c.toNat%128+128*hor t
def lead:Nat->List UInt8->Nat
 | 0,_=>0
 | _+1,[]=>0
 | k+1,c::t=>if 128<=c.toNat then lead k t+1 else 0
theorem zMT (i:Nat):2^(7*i)=128^i:=by rw [Nat.pow_mul]
theorem zLi (c:Nat):c&&&127=c%128:=uK c 7
theorem zIj {acc i c:Nat} (hi:i<=9) (hacc:acc<128^i) (hc:c<256) (h9:i=9->c<=1):
  orI .u64 (acc:Int) (shlI .u64 (u64.wrap (andI .u8 (c:Int) 127)) ((7*i:Nat):Int))=((acc+c%128*128^i:Nat):Int):=by
 have e1:andI .u8 (c:Int) 127=((c%128:Nat):Int):=by
  have:=zCA (k:= .u8) rfl (a:=c) (b:=127) (by simpa [IntKind.bits] using hc) (by simp [IntKind.bits]);rw [zLi] at this;exact this
 have hp:128^i<=128^9:=qW (by omega) hi;have ka:c%128*128^i<18446744073709551616:=by
  by_cases h:i=9
  ·subst h;have:=h9 rfl;have h2:c%128<=1:=by omega
   have:=yr (128^9) h2;omega
  ·have h3:128^i<=128^8:=qW (by omega) (by omega);have:=pJ (show c%128<=127 by omega) h3;omega
 have e2:shlI .u64 (u64.wrap ((c%128:Nat):Int)) ((7*i:Nat):Int)=((c%128*128^i:Nat):Int):=by
  unfold shlI;rw [zuB rfl (by simp [IntKind.bits];omega),xJ,qx (by simp [IntKind.bits];omega)];have h4:((c%128:Nat):Int)*2^(7*i)=((c%128*128^i:Nat):Int):=by rw [<-zMT];push_cast;rfl
  rw [h4];exact zuB rfl (by simpa [IntKind.bits] using ka)
 rw [e1,e2,zwK rfl (by simp [IntKind.bits];omega) (by simpa [IntKind.bits] using ka)];congr 1;rw [<-zMT] at hacc|-;exact zyd _ _ _ hacc
theorem zIi:∀(t:List UInt8) (v:List UInt8) (i acc:Nat),v.drop i=t->i+t.length=v.length->v.length<=10->acc<128^i->zhi v acc i=some (scan i acc t):=by
 intro t
 induction t with
 | nil=>
  intro v i acc _ hl _ _;refine ziW ?_;unfold zdr;rw [itF (by simp at hl|-;omega)];rfl
 | cons c t ih=>
  intro v i acc hd hl hv hacc;simp only [xR] at hl;have hget:v[i]'(by omega)=c:=by
   have h1:v.drop i=v[i]'(by omega)::v.drop (i+1):=yk (by omega);rw [hd] at h1;exact (List.cons.inj h1).1.symm
  have hd':v.drop (i+1)=t:=by rw [<-yi,hd];rfl
  have hc:=c.toNat_lt;have hb:zdr v acc i=if i=9/\1<c.toNat then some (.inr (.inr (0,0,4))) else if c.toNat<128 then some (.inr (.inr (((acc+c.toNat%128*128^i:Nat):Int),((i+1:Nat):Int),0))) else some (.inl (((acc+c.toNat%128*128^i:Nat):Int),((i+1:Nat):Int))):=by
   unfold zdr;rw [uP,zR rfl (show i<v.length by omega),sb,hget];by_cases h9:i=9/\1<c.toNat
   ·rw [xy h9,uP]
   ·rw [xx h9,uQ,uR];have e:((7:Int)*(i:Int))=((7*i:Nat):Int):=by push_cast;rfl
    rw [e,zEd,sb,zIj (by omega) hacc (by omega) (by omega),uR];by_cases h8:c.toNat<128
    ·rw [xy h8,uP];push_cast;rfl
    ·rw [xx h8,uQ];push_cast;rfl
  rw [scan];split at hb
  ·rename_i h9;rw [xy h9];exact ziW hb
  ·rename_i h9;rw [xx h9];split at hb
   ·rename_i h8;rw [xy h8];exact ziW hb
   ·rename_i h8;rw [xx h8,ztl hb];refine ih v (i+1) _ hd' (by omega) hv ?_;rw [yD];have:=yr (128^i) (show c.toNat%128<=127 by omega);omega
theorem zwQ (b:List UInt8):zhk b=some (rd b):=by
 unfold zhk rd;have e:(if (10:Int)<(b.length:Int) then (10:Int) else (b.length:Int))=((min 10 b.length:Nat):Int):=by split<;>omega
 have e2:b.take (min 10 b.length)=b.take 10:=by rw [uq];omega
 rw [e,ztt rfl (by omega),sb,e2];have h:=zIi (b.take 10) (b.take 10) 0 0 rfl (by simp) (by simp;omega) (by simp);have h':zhi (b.take 10) 0 0=some (scan 0 0 (b.take 10)):=h;rw [h',sb];cases scan 0 0 (b.take 10)<;>rfl
theorem zHf (b:List UInt8):zjn b=some ((rd b).2.1,(rd b).2.2):=by unfold zjn;rw [zwQ,sb]
theorem zBI:∀(k:Nat) (l:List UInt8),lead k l<=k/\lead k l<=l.length
 | 0,_=>⟨xC _,xI _⟩
 | _+1,[]=>⟨xI _,xC _⟩
 | k+1,c::t=>by
  have:=zBI k t;rw [lead];split<;>simp<;>omega
theorem zAJ:∀(l:List UInt8) (i acc:Nat),i+l.length<=10->i<=9->
  scan i acc l=if i+lead (10 - i) l=10 then .inr (0,0,4) else if lead (10 - i) l=l.length then .inl () else if i+lead (10 - i) l=9/\1<(l.getD (lead (10 - i) l) 0).toNat then .inr (0,0,4) else
   .inr (((acc+hor (l.take (lead (10 - i) l+1))*128^i:Nat):Int),((i+lead (10 - i) l+1:Nat):Int),0):=by
 intro l
 induction l with
 | nil=>
  intro i acc _ hi;obtain ⟨k,hk⟩:∃k,10 - i=k+1:=⟨9 - i,by omega⟩;rw [hk];simp only [lead,scan,yR];rw [xx (by omega),xy trivial]
 | cons c t ih=>
  intro i acc hl hi;obtain ⟨k,hk⟩:∃k,10 - i=k+1:=⟨9 - i,by omega⟩;simp only [xR] at hl;rw [scan];by_cases hc:128<=c.toNat
  ·have e:lead (10 - i) (c::t)=lead k t+1:=by rw [hk,lead,xy hc]
   rw [e];by_cases h9:i=9
   ·have:k=0:=by omega
    subst this;rw [xy ⟨h9,by omega⟩,lead,xy (by omega)]
   ·rw [xx (by omega),xx (by omega),ih (i+1) _ (by omega) (by omega),show 10 - (i+1)=k by omega];by_cases h1:i+1+lead k t=10
    ·rw [xy h1,xy (show i+(lead k t+1)=10 by omega)]
    ·rw [xx h1,xx (show ¬i+(lead k t+1)=10 by omega)];by_cases h2:lead k t=t.length
     ·rw [xy h2,xy (show lead k t+1=(c::t).length by simp;omega)]
     ·rw [xx h2,xx (show ¬lead k t+1=(c::t).length by simp;omega)];have eg:(c::t).getD (lead k t+1) 0=t.getD (lead k t) 0:=by simp [List.getD]
      rw [eg];by_cases h3:i+1+lead k t=9/\1<(t.getD (lead k t) 0).toNat
      ·rw [xy h3,xy (show i+(lead k t+1)=9/\1<(t.getD (lead k t) 0).toNat by omega)]
      ·rw [xx h3,xx (show ¬(i+(lead k t+1)=9/\1<(t.getD (lead k t) 0).toNat) by omega)];rw [yY,hor,yD];have e5:acc+c.toNat%128*128^i+hor (t.take (lead k t+1))*(128^i*128)=acc+(c.toNat%128+128*hor (t.take (lead k t+1)))*128^i:=by
        rw [pG,qm 128,yX (128^i) 128,<-qm,yX _ 128,qm];omega
       rw [e5];congr 3;omega
  ·have e:lead (10 - i) (c::t)=0:=by rw [hk,lead,xx hc]
   rw [e];simp only [yF,xR,List.getD_cons_zero];rw [xx (show ¬i=10 by omega),xx (show ¬0=t.length+1 by omega)];by_cases h9:i=9/\1<c.toNat
   ·rw [xy h9,xy h9]
   ·rw [xx h9,xx h9,xy (show c.toNat<128 by omega)];simp [hor]
theorem zxD (x y:List UInt8):hor (x++y)=hor x+128^x.length*hor y:=by
 induction x with
 | nil=>simp [hor]
 | cons c t ih=>simp only [yv,hor,ih,xR,yD,Nat.mul_add];rw [yX (128^t.length) 128,qm];omega
theorem zFa (l:List UInt8):hor l<128^l.length:=by
 induction l with
 | nil=>simp [hor]
 | cons c t ih=>simp only [hor,xR,yD];omega
theorem zJl (l:List UInt8) (j:Nat):hor (l.drop j)<=hor l:=by
 induction l generalizing j with
 | nil=>simp
 | cons c t ih=>
  cases j with
  | zero=>exact xC _
  | succ j=>have:=ih j;simp only [pR,hor];omega
theorem zIl (b:List UInt8) (a:Nat) (hb:b.length<=1152921504606846976):∀(k n:Nat),n+k=10->a+n<=b.length->zdy a b n=some ((n+lead k (b.drop (a+n)):Nat):Int):=by
 intro k
 induction k with
 | zero=>
  intro n hn ha;refine zgG ?_;unfold zbi;rw [uR];by_cases h1:a+n<b.length
  ·rw [uP,uQ,sb,uN];rfl
  ·rw [uQ,sb,uN];rfl
 | succ k ih=>
  intro n hn ha;by_cases h1:a+n<b.length
  ·have hd:b.drop (a+n)=b[a+n]::b.drop (a+(n+1)):=yk h1;have kF:zbi a b n=if 128<=b[a+n].toNat then some (.inl ((n+1:Nat):Int)) else some (.inr (n:Int)):=by
    unfold zbi;rw [uR,uR,uP,uP,zR (show (a:Int)+n=((a+n:Nat):Int) by push_cast;rfl) h1,sb,sb];by_cases h2:128<=b[a+n].toNat
    ·rw [xy h2,uP];push_cast;rfl
    ·rw [xx h2,uQ]
   rw [hd,lead];by_cases h2:128<=b[a+n].toNat
   ·rw [xy h2] at kF|-;rw [znL kF,ih (n+1) (by omega) (by omega)];congr 2;omega
   ·rw [xx h2] at kF|-;exact zgG kF
  ·have hd:b.drop (a+n)=[]:=yq (by omega);rw [hd];refine zgG ?_;unfold zbi;rw [uR,uQ,sb,uN];rfl
theorem zIm (b:List UInt8) (a m:Nat) (hb:b.length<=1152921504606846976) (hm:a+m<=b.length) (hh:hor ((b.drop a).take m)<18446744073709551616):
  ∀(j:Nat),j<=m->zdz a b (hor (((b.drop a).take m).drop j)) ((j:Int) - 1)=some ((hor ((b.drop a).take m):Nat):Int):=by
 intro j
 induction j with
 | zero=>
  intro _;refine znN ?_;unfold zbJ;rw [uO];rfl
 | succ j ih=>
  intro hj;have hL:((b.drop a).take m).length=m:=by simp;omega
  have hd:((b.drop a).take m).drop j=((b.drop a).take m)[j]'(by omega)::((b.drop a).take m).drop (j+1):=yk (by omega);have hc:((b.drop a).take m)[j]'(by omega)=b[a+j]'(by omega):=by simp
  have h1:=zJl ((b.drop a).take m) j;rw [hd,hor,hc] at h1;have h2:=(b[a+j]'(by omega)).toNat_lt;refine (znM (wv':=(hor (((b.drop a).take m).drop j):Nat)) (i':=(j:Int) - 1) ?_).trans (ih (by omega));unfold zbJ;rw [itT (by simp),uR,zR (show (a:Int)+(((j+1:Nat):Int) - 1)=((a+j:Nat):Int) by push_cast;omega) (by omega),sb,uR,hd,hor,hc];simp only [wrap_u64];rw [yQ (by omega)];congr 3
  ·omega
  ·push_cast;omega
theorem zKR (hn:n<=9) (hC:C<256) (h9:¬(n=9/\1<C)) (hX:X<128^n):X+128^n*(C%128)<18446744073709551616:=by
 by_cases h9':n=9
 ·subst h9';have:C%128<=1:=by omega
  have:=pV (128^9) this;omega
 ·have h5:128^n<=128^8:=qW (by omega) (by omega);have h6:C%128<=127:=by omega
  have:=pJ h5 h6;omega
theorem ztb (b:List UInt8) (a:Nat) (hb:b.length<=1152921504606846976) (ha:a<=b.length):zbk b a=some (rd (b.drop a)):=by
 unfold zbk;have h1:=zIl b a hb 10 0 rfl (by omega);simp only [xQ,yF] at h1;have h1':zdy a b 0=some ((lead 10 (b.drop a):Nat):Int):=h1;rw [h1',sb];have hle:=zBI 10 (b.drop a);have ke:(b.drop a).length=b.length - a:=by simp
 -- the ten bytes that count
 have htake:∀(k:Nat) (l:List UInt8),lead k (l.take k)=lead k l:=by
  intro k
  induction k with
  | zero=>intro l;rfl
  | succ k ih=>intro l;cases l with
   | nil=>rfl
   | cons c t=>simp only [yY,lead,ih]
 have hs:=zAJ ((b.drop a).take 10) 0 0 (by simp;omega) (by omega);simp only [xQ,qw,htake,Nat.pow_zero,Nat.mul_one] at hs;unfold rd;rw [hs];by_cases h10:lead 10 (b.drop a)=10
 ·rw [xy h10,uP];rfl
 ·rw [xx h10,uQ,uR];by_cases hl:lead 10 (b.drop a)=(b.drop a).length
  ·rw [xy (show lead 10 (b.drop a)=((b.drop a).take 10).length by rw [ye];omega),uP];rfl
  ·rw [xx (show ¬lead 10 (b.drop a)=((b.drop a).take 10).length by rw [ye];omega),uQ];have ka:a+lead 10 (b.drop a)<b.length:=by omega
   have hg:((b.drop a).take 10).getD (lead 10 (b.drop a)) 0=b[a+lead 10 (b.drop a)]:=by
    rw [qN,qc,xy (by omega),qH,xP ka];rfl
   rw [hg,pm,qx (by omega)];have hc:=(b[a+lead 10 (b.drop a)]).toNat_lt;have hg2:(if (((lead 10 (b.drop a):Nat):Int)==9)=true then (idx b ((a:Int)+((lead 10 (b.drop a):Nat):Int))>>=fun x2=>some (decide ((x2.toNat:Int)>1))) else some false)=some (decide (lead 10 (b.drop a)=9/\1<(b[a+lead 10 (b.drop a)]).toNat)):=by
    by_cases h9:lead 10 (b.drop a)=9
    ·rw [uP,zR (show (a:Int)+((lead 10 (b.drop a):Nat):Int)=((a+lead 10 (b.drop a):Nat):Int) by push_cast;rfl) ka,sb];congr 1;simp only [h9,qb,qn];omega
    ·rw [uQ];simp [h9]
   rw [hg2,sb];by_cases h9:lead 10 (b.drop a)=9/\1<(b[a+lead 10 (b.drop a)]).toNat
   ·rw [xy h9,itT (by simpa using h9)];rfl
   ·rw [xx h9,itF (xV h9)];have hbd:hor ((b.drop a).take (lead 10 (b.drop a)+1))<18446744073709551616:=by
     have hsp:(b.drop a).take (lead 10 (b.drop a)+1)=(b.drop a).take (lead 10 (b.drop a))++[b[a+lead 10 (b.drop a)]]:=by
      rw [pL,qH,xP ka];rfl
     rw [hsp,zxD];have h3:=zFa ((b.drop a).take (lead 10 (b.drop a)));have h4:((b.drop a).take (lead 10 (b.drop a))).length=lead 10 (b.drop a):=by simp;omega
     rw [h4] at h3|-;simp only [hor,Nat.mul_zero,yF];exact zKR (by omega) (by omega) h9 h3
    have h2:=zIm b a (lead 10 (b.drop a)+1) hb (by omega) hbd (lead 10 (b.drop a)+1) (xC _);have hz:((b.drop a).take (lead 10 (b.drop a)+1)).drop (lead 10 (b.drop a)+1)=[]:=yq (by simp;omega);rw [hz] at h2;have e3:(((lead 10 (b.drop a)+1:Nat):Int) - 1)=((lead 10 (b.drop a):Nat):Int):=by push_cast;omega
    rw [e3] at h2;have h2':zdz a b 0 ((lead 10 (b.drop a):Nat):Int)=some ((hor ((b.drop a).take (lead 10 (b.drop a)+1)):Nat):Int):=h2;rw [h2',sb,uR];simp [rdR]
theorem zAm:∀(k:Nat) (l:List UInt8),lead k (l.take k)=lead k l
 | 0,_=>rfl
 | _+1,[]=>rfl
 | k+1,c::t=>by simp only [yY,lead,zAm k t]
theorem zAl:∀(k:Nat) (l:List UInt8),(∀y∈l.take (lead k l),128<=y.toNat)/\∀(h:lead k l<l.length),lead k l<k->(l[lead k l]).toNat<128
 | 0,_=>⟨fun y hy=>by simp [lead] at hy,fun _ h=>by omega⟩
 | _+1,[]=>⟨fun y hy=>by simp at hy,fun h=>by simp at h⟩
 | k+1,c::t=>by
  obtain ⟨h1,h2⟩:=zAl k t;by_cases hc:128<=c.toNat
  ·have e:lead (k+1) (c::t)=lead k t+1:=by rw [lead,xy hc]
   constructor
   ·rw [e,yY];intro y hy;cases hy with
    | head=>exact hc
    | tail _ hy=>exact h1 y hy
   ·simp only [e,uw,xR];intro h hk;exact h2 (by omega) (by omega)
  ·have e:lead (k+1) (c::t)=0:=by rw [lead,xx hc]
   constructor
   ·rw [e];intro y hy;simp at hy
   ·simp only [e];intro _ _;simp;omega
theorem zmD (b:List UInt8):rd b=(0,0,4)\/(rd b=(0,0,3)/\b.length<=9)\/
  ∃x c y,b=x++c::y/\(∀z∈x,128<=z.toNat)/\c.toNat<128/\x.length<=9/\hor (x++[c])<18446744073709551616/\rd b=(((hor (x++[c]):Nat):Int),((x.length+1:Nat):Int),0):=by
 have hle:=zBI 10 b;have hs:=zAJ (b.take 10) 0 0 (by simp;omega) (by omega);simp only [xQ,qw,zAm,Nat.pow_zero,Nat.mul_one] at hs;unfold rd;rw [hs];by_cases h10:lead 10 b=10
 ·rw [xy h10];exact .inl rfl
 ·rw [xx h10];by_cases hl:lead 10 b=(b.take 10).length
  ·rw [xy hl];refine .inr (.inl ⟨rfl,?_⟩);rw [ye] at hl;omega
  ·rw [xx hl];rw [ye] at hl;have ka:lead 10 b<b.length:=by omega
   have hg:(b.take 10).getD (lead 10 b) 0=b[lead 10 b]:=by
    rw [qN,qc,xy (by omega),xP ka];rfl
   rw [hg,pm,qx (by omega)];have hc:=(b[lead 10 b]).toNat_lt;by_cases h9:lead 10 b=9/\1<(b[lead 10 b]).toNat
   ·rw [xy h9];exact .inl rfl
   ·rw [xx h9];obtain ⟨hf1,hf2⟩:=zAl 10 b;have hsp:b.take (lead 10 b+1)=b.take (lead 10 b)++[b[lead 10 b]]:=by
     rw [pL,xP ka];rfl
    have ke:(b.take (lead 10 b)).length=lead 10 b:=by rw [ye];omega
    refine .inr (.inr ⟨b.take (lead 10 b),b[lead 10 b],b.drop (lead 10 b+1),?_,hf1,hf2 ka (by omega),by omega,?_,?_⟩)
    ·rw [<-yk ka,qL]
    ·rw [zxD];have h3:=zFa (b.take (lead 10 b));rw [ke] at h3|-;simp only [hor,Nat.mul_zero,yF];exact zKR (by omega) (by omega) h9 h3
    ·rw [hsp,ke];simp [rdR]
theorem zmu (h:v<128):enc v=[UInt8.ofNat v]:=by rw [enc,xy h]
theorem zuK (h:¬v<128):enc v=UInt8.ofNat (128+v%128)::enc (v/128):=by rw [enc,xx h]
theorem ztv:∀(v:Nat),(enc v).length=lenN v:=by
 intro v
 induction v using Nat.strongRecOn with
 | _ v ih=>
  by_cases h:v<128
  ·rw [zmu h,zjF h];rfl
  ·rw [zuK h,zlH h,xR,ih _ (by omega)]
theorem zlp {v:Nat} (h:v<18446744073709551616):1<=(enc v).length/\(enc v).length<=10:=by
 rw [ztv];exact ⟨zJH v,zxN h⟩
theorem zKr:∀(v i acc:Nat) (more:List UInt8),v*128^i<18446744073709551616->scan i acc (enc v++more)= .inr (((acc+v*128^i:Nat):Int),((i+(enc v).length:Nat):Int),0):=by
 intro v
 induction v using Nat.strongRecOn with
 | _ v ih=>
  intro i acc more hv;have h9:i=9->v<=1:=fun h=>by
   subst h;by_cases h1:v<=1
   ·exact h1
   ·have:=yr (128^9) (show 2<=v by omega);omega
  by_cases h:v<128
  ·have e:(UInt8.ofNat v).toNat=v:=by simp;omega
   rw [zmu h,qO,scan,e,xx (by omega),xy h,qt h];rfl
  ·have e:(UInt8.ofNat (128+v%128)).toNat=128+v%128:=by simp;omega
   rw [zuK h,yv,scan,e,xx (by omega),xx (by omega)];have h2:v/128*128^(i+1)<=v*128^i:=by
    rw [yD,yX (128^i) 128,<-qm];exact yr _ (by omega)
   rw [ih (v/128) (by omega) (i+1) _ _ (by omega)];have e3:acc+(128+v%128)%128*128^i+v/128*128^(i+1)=acc+v*128^i:=by
    have e5:v/128*128^(i+1)=v/128*128*128^i:=by rw [yD,yX (128^i) 128,<-qm]
    rw [e5,show (128+v%128)%128=v%128 by omega,qo,<-pG,show v%128+v/128*128=v by omega]
   rw [e3,xR];congr 3;omega
theorem zKe {v:Nat} (more:List UInt8) (h:v<18446744073709551616):rd (enc v++more)=((v:Int),(((enc v).length:Nat):Int),0):=by
 unfold rd;rw [qB,yG (zlp h).2,zKr v 0 0 _ (by simpa using h)];simp [rdR]
theorem zIn:∀(k v:Nat),v<128^(k+1)->v<18446744073709551616->zcN (k+1) (v:Int)=some (enc v):=by
 intro k
 induction k with
 | zero=>
  intro v hv _;rw [zcN];unfold zfL;rw [uP,zjS,zep (n:=v) (by omega) (by omega),sb,zmu (by omega)]
 | succ k ih=>
  intro v hv h64;rw [zcN];unfold zfL;by_cases h:v<128
  ·rw [uP,zjS,zep (n:=v) (by omega) (by omega),sb,zmu h]
  ·rw [uQ,zjS,wrap_u64,wrap_u64,yQ (by omega),qY (by omega)];rw [zep (n:=128+v%128) (by omega) (by omega),sb];have e:((v:Int)/128%18446744073709551616)=((v/128:Nat):Int):=by omega
   have h2:v/128<128^(k+1):=by rw [yD] at hv;exact up (by omega)
   rw [e,ih _ h2 (by omega),sb];have:=(zlp (v:=v/128) (by omega)).2;rw [zcg (by simp;omega),sb,zuK h];rfl
theorem zvd {fuel:Nat} (hf:10<=fuel) {v:Nat} (h:v<18446744073709551616):zcN fuel (v:Int)=some (enc v):=by
 obtain ⟨k,rfl⟩:∃k,fuel=k+1:=⟨fuel - 1,by omega⟩;have h1:128^10<=128^(k+1):=qW (by omega) hf;exact zIn k v (by omega) h
theorem zKv (v:Nat):shrI .u64 (v:Int) 7=((v/128:Nat):Int):=zuf (k:= .u64) (a:=v) (b:=7) (by simp [IntKind.bits])
theorem zJJ:∀(w n:Nat),n+w<9223372036854775808+w->n+lz w<=1152921504606846976->ziY w n=some ((n+lz w:Nat):Int):=by
 intro w
 induction w using Nat.strongRecOn with
 | _ w ih=>
  intro n hn hl;by_cases h:w=0
  ·subst h;refine zwf ?_;unfold zgl;rw [uO];rfl
  ·have e:=zND h;refine (zwe (wv2':=((w/128:Nat):Int)) (n':=((n+1:Nat):Int)) ?_).trans ?_
   ·unfold zgl;rw [uP,zKv,uR];rfl
   ·rw [ih (w/128) (by omega) (n+1) (by omega) (by omega)];congr 2;omega
theorem zJI {v:Nat} (h:v<18446744073709551616):zoi (v:Int)=some ((lenN v:Nat):Int):=by
 unfold zoi;have h1:=zNC v;have h2:=zxN h;have h3:=zJJ (v/128) 1 (by omega) (by omega);have h3':ziY ((v/128:Nat):Int) 1=some ((1+lz (v/128):Nat):Int):=h3;rw [zKv,h3',sb,h1]
theorem zNI:∀n<256,n||| 128=n%128+128:=by decide+kernel
theorem zKb:∀(v:Nat) (l:List UInt8),v<18446744073709551616->l.length+(enc v).length<=1152921504606->∃(v':Nat) (l':List UInt8),ziO (v:Int) l=some ((v':Int),l')/\v'<128/\l'++[UInt8.ofNat v']=l++enc v:=by
 intro v
 induction v using Nat.strongRecOn with
 | _ v ih=>
  intro l hv hl;by_cases h:v<128
  ·refine ⟨v,l,zuw ?_,h,by rw [zmu h]⟩;unfold zeI;rw [uQ]
  ·rw [zuK h,xR] at hl;obtain ⟨v',l',h1,h2,h3⟩:=ih (v/128) (by omega) (l++[UInt8.ofNat (128+v%128)]) (by omega) (by simp;omega);refine ⟨v',l',?_,h2,by rw [h3,zuK h];simp⟩;refine (zuv (wv2':=((v/128:Nat):Int)) (l':=l++[UInt8.ofNat (128+v%128)]) ?_).trans h1;unfold zeI;have e1:(v:Int)%256=((v%256:Nat):Int):=by omega
   have e2:orI .u8 ((v%256:Nat):Int) 128=((v%128+128:Nat):Int):=by
    have:=zwK (k:= .u8) rfl (a:=v%256) (b:=128) (by simp [IntKind.bits];omega) (by simp [IntKind.bits]);rw [zNI _ (by omega)] at this;have e3:((128:Nat):Int)=128:=rfl;rw [e3] at this;rw [this];congr 1;omega
   rw [uP,zjS,e1,e2,zep (n:=128+v%128) (by omega) (by omega),sb,zcg (by simp;omega),sb,zKv]
theorem zFu {v:Nat} (b:List UInt8) (h:v<18446744073709551616) (hb:b.length<=1099511627776):ziV b (v:Int)=some (b++enc v):=by
 unfold ziV;have h1:=zxN h;have h2:=(zlp h).2;rw [zJI h,sb,uR,zLM (by omega) (by omega),sb,zcg (by simp;omega),sb];obtain ⟨v',l',h3,h4,h5⟩:=zKb v b h (by omega);have ke:l'.length+1=b.length+(enc v).length:=by have:=congrArg List.length h5;simpa using this
 simp only [yb];rw [h3,sb,zjS];simp only;rw [zep (n:=v') (by omega) (by omega),sb,zcg (by simp;omega),sb,h5]
theorem zyA (a b:List UInt8):zgm a b=some (a==b):=rfl
def zcU (n w:Int):Bool:=decide (1<=n/\n<=536870911/\(w=0\/w=1\/w=2\/w=5))
def tgR (r:Int×Int×Int):Int×Int×Int×Int:=
 if r.2.2≠0 then (0,0,0,r.2.2) else if 4294967295<r.1\/zcU (r.1/8) (r.1%8)=false then (0,0,0,5) else (r.1/8,r.1%8,r.2.1,0)
def tg (l:List UInt8):Int×Int×Int×Int:=tgR (rd l)
def tW (n w:Int):Nat:=(8*n+w).toNat
theorem zfe :zcU n w=true↔1<=n/\n<=536870911/\(w=0\/w=1\/w=2\/w=5):=by simp [zcU]
theorem zDR (n w:Int):zfM n w=some (zcU n w):=by
 unfold zfM zcU;simp [Bool.decide_and,Bool.decide_or,Bool.beq_eq_decide_eq]
theorem zhJ (l:List UInt8):0<=(rd l).1/\(rd l).1<18446744073709551616/\0<=(rd l).2.1/\(rd l).2.1<=10/\(rd l).2.1<=l.length/\((rd l).2.2=0\/(rd l).2.2=3\/(rd l).2.2=4)/\((rd l).2.2=0->1<=(rd l).2.1):=by
 rcases zmD l with h| ⟨h,_⟩| ⟨x,c,y,e,_,_,hl,hv,h⟩
 ·rw [h];simp
 ·rw [h];simp
 ·have:l.length=x.length+1+y.length:=by rw [e];simp;omega
  rw [h];refine ⟨?_,?_,?_,?_,?_,.inl rfl,fun _=>?_⟩<;>simp only<;>omega
theorem zHb (x:List UInt8) (c:UInt8) (y:List UInt8) (hx:∀z∈x,128<=z.toNat) (hc:c.toNat<128) (hl:x.length<=9) (hv:hor (x++[c])<18446744073709551616):
  rd (x++c::y)=(((hor (x++[c]):Nat):Int),((x.length+1:Nat):Int),0):=by
 have key:∀(x:List UInt8) (z:List UInt8) (i acc:Nat),(∀z∈x,128<=z.toNat)->i+x.length<=9->acc+hor (x++[c])*128^i<18446744073709551616->scan i acc (x++c::z)= .inr (((acc+hor (x++[c])*128^i:Nat):Int),((i+x.length+1:Nat):Int),0):=by
  intro x
  induction x with
  | nil=>
   intro z i acc _ hi hv;have e1:hor ([]++[c])=c.toNat:=by simp [hor];omega
   rw [e1] at hv|-;rw [yb,scan,xx,xy hc,qt hc]
   ·rfl
   ·rintro ⟨rfl,h2⟩;have:=yr (128^9) (show 2<=c.toNat by omega);omega
  | cons d x ih=>
   intro z i acc hx hi hv;simp only [xR] at hi;have hd:=hx d xz;have e5:acc+hor ((d::x)++[c])*128^i=acc+d.toNat%128*128^i+hor (x++[c])*128^(i+1):=by
    rw [yv,hor,yD,pG,yX (128^i) 128,<-qm,yX (hor (x++[c])) 128];omega
   rw [e5] at hv|-;rw [yv,scan,xx (by omega),xx (by omega),ih z (i+1) _ (fun z hz=>hx z (xA _ hz)) (by omega) hv,xR];congr 3;omega
 unfold rd;have e2:(x++c::y).take 10=x++c::y.take (9 - x.length):=by
  rw [qB,yG (by omega),show 10 - x.length=(9 - x.length)+1 by omega,yY]
 rw [e2,key x _ 0 0 hx (by omega) (by simpa using hv)];simp [rdR]
theorem zvc (l m:List UInt8) (h:(rd l).2.2=0):rd (l++m)=rd l:=by
 rcases zmD l with h'| ⟨h',_⟩| ⟨x,c,y,e,hx,hc,hl,hv,h'⟩
 ·rw [h'] at h;cases h
 ·rw [h'] at h;cases h
 ·rw [h',e,yu,yv,zHb x c _ hx hc hl hv]
theorem zAQ (l m:List UInt8) (h:(rd l).2.2=0):tg (l++m)=tg l:=by unfold tg;rw [zvc l m h]
theorem zCr (h:r.2.2≠0):tgR r=(0,0,0,r.2.2):=xy h
theorem zrq (h:r.2.2=0) (h2:4294967295<r.1\/zcU (r.1/8) (r.1%8)=false):tgR r=(0,0,0,5):=by unfold tgR;rw [xx (by simp [h]),xy h2]
theorem zFM (h:r.2.2=0) (h2:¬(4294967295<r.1\/zcU (r.1/8) (r.1%8)=false)):tgR r=(r.1/8,r.1%8,r.2.1,0):=by unfold tgR;rw [xx (by simp [h]),xx h2]
theorem zyM (l:List UInt8):(∃c,tg l=(0,0,0,c)/\(c=3\/c=4\/c=5))\/∃n w k,tg l=(n,w,k,0)/\zcU n w=true/\1<=k/\k<=10/\k<=l.length/\rd l=(8*n+w,k,0):=by
 obtain ⟨h1,h2,h3,h4,h5,h6,h7⟩:=zhJ l;unfold tg;by_cases h:(rd l).2.2=0
 ·by_cases hg:4294967295<(rd l).1\/zcU ((rd l).1/8) ((rd l).1%8)=false
  ·exact .inl ⟨5,zrq h hg,by omega⟩
  ·refine .inr ⟨_,_,_,zFM h hg,?_,h7 h,h4,h5,?_⟩
   ·cases ht:zcU ((rd l).1/8) ((rd l).1%8)
    ·exact absurd (.inr ht) hg
    ·rfl
   ·refine Prod.ext ?_ (Prod.ext rfl h);simp only;omega
 ·exact .inl ⟨_,zCr h,by omega⟩
theorem zBX (b:List UInt8) (a:Nat) (hb:b.length<=1152921504606846976) (ha:a<=b.length):zgp b a=some (tg (b.drop a)):=by
 unfold zgp tg;obtain ⟨h1,h2,h3,h4,h5,h6,h7⟩:=zhJ (b.drop a);rw [ztb b a hb ha,sb];by_cases h:(rd (b.drop a)).2.2=0
 ·rw [itF (by simpa using h)];have e1:i64.wrap (u64.wrap (Int.tdiv (rd (b.drop a)).1 8))=(rd (b.drop a)).1/8:=by
   rw [qY h1,wrap_u64,yJ (by omega) (by omega),uR]
  have e2:i64.wrap (Int.tmod (rd (b.drop a)).1 8)=(rd (b.drop a)).1%8:=by
   rw [yQ h1,uR]
  simp only [e1,e2,zDR,sb];by_cases hg:4294967295<(rd (b.drop a)).1
  ·rw [itT (by simpa using hg),sb,uM,zrq h (.inl hg)]
  ·rw [itF (by simpa using hg),sb];cases ht:zcU ((rd (b.drop a)).1/8) ((rd (b.drop a)).1%8)
   ·rw [uM,zrq h (.inr ht)]
   ·rw [uN,zFM h (by simp [ht];omega)]
 ·rw [itT (by simpa using h),zCr h]
theorem zyL {n w:Int} (h:zcU n w=true):((tW n w:Nat):Int)=8*n+w/\tW n w<4294967296:=by
 have:=zfe.1 h;unfold tW;omega
theorem zDM {fuel:Nat} (hf:10<=fuel) {n w:Int} (h:zcU n w=true):zgV fuel n w=some (enc (tW n w)):=by
 have hr:=zfe.1 h;obtain ⟨e,ka⟩:=zyL h;unfold zgV;have e2:u64.wrap (i64.wrap ((i64.wrap (8*n))+w))=((tW n w:Nat):Int):=by
  rw [zr (x:=8*n) (by omega),uR,wrap_u64,yJ (by omega) (by omega),e]
 rw [e2,zvd hf (by omega),sb]
theorem zLC {v:Nat} (h:v<34359738368):lenN v<=5:=by
 by_cases h1:v<128
 ·rw [zjF h1];omega
 ·rw [zlH h1];by_cases h2:v/128<128
  ·rw [zjF h2];omega
  ·rw [zlH h2];by_cases h3:v/128/128<128
   ·rw [zjF h3];omega
   ·rw [zlH h3];by_cases h4:v/128/128/128<128
    ·rw [zjF h4];omega
    ·rw [zlH h4,zjF (by omega)];omega
abbrev Rec:=zn
def zeT (w:Int) (k:Nat) (m:List UInt8):Int⊕(Nat×Nat):=
 if w=0 then (if (rd m).2.2≠0 then .inl (rd m).2.2 else .inr (k,k+(rd m).2.1.toNat))
 else if w=2 then (if (rd m).2.2≠0 then .inl (rd m).2.2 else if (m.length:Int) - (rd m).2.1<(rd m).1 then .inl 3 else .inr (k+(rd m).2.1.toNat,k+(rd m).2.1.toNat+(rd m).1.toNat))
 else if m.length<(if w=5 then 4 else 8) then .inl 3 else .inr (k,k+(if w=5 then 4 else 8))
def rec5 (l:List UInt8):Int⊕(Int×Int×Nat×Nat):=
 if (tg l).2.2.2≠0 then .inl (tg l).2.2.2 else match zeT (tg l).2.1 (tg l).2.2.1.toNat (l.drop (tg l).2.2.1.toNat) with
  | .inl c=> .inl c
  | .inr p=> .inr ((tg l).1,(tg l).2.1,p.1,p.2)
theorem zkN (w:Int) (k:Nat) (m:List UInt8):(∃c,zeT w k m= .inl c/\(c=3\/c=4))\/
  ∃a t,zeT w k m= .inr (a,t)/\k<=a/\a<=t/\t<=k+m.length/\
   (w=0/\a=k/\(rd m).2.2=0/\((t - k:Nat):Int)=(rd m).2.1/\k<t\/w=2/\(rd m).2.2=0/\((a - k:Nat):Int)=(rd m).2.1/\((t - a:Nat):Int)=(rd m).1\/w≠0/\w≠2/\a=k/\t=k+(if w=5 then 4 else 8)):=by
 obtain ⟨h1,h2,h3,h4,h5,h6,h7⟩:=zhJ m;unfold zeT;by_cases w0:w=0
 ·rw [xy w0];by_cases h:(rd m).2.2=0
  ·have:=h7 h;rw [xx (by simpa using h)];exact .inr ⟨_,_,rfl,xC _,by omega,by omega,.inl ⟨w0,rfl,h,by omega,by omega⟩⟩
  ·rw [xy h];exact .inl ⟨_,rfl,by omega⟩
 ·rw [xx w0];by_cases w2:w=2
  ·rw [xy w2];by_cases h:(rd m).2.2=0
   ·rw [xx (by simpa using h)];by_cases h8:(m.length:Int) - (rd m).2.1<(rd m).1
    ·rw [xy h8];exact .inl ⟨_,rfl,by omega⟩
    ·rw [xx h8];exact .inr ⟨_,_,rfl,by omega,by omega,by omega,.inr (.inl ⟨w2,h,by omega,by omega⟩)⟩
   ·rw [xy h];exact .inl ⟨_,rfl,by omega⟩
  ·rw [xx w2];by_cases h8:m.length<(if w=5 then 4 else 8)
   ·rw [xy h8];exact .inl ⟨_,rfl,by omega⟩
   ·rw [xx h8];exact .inr ⟨_,_,rfl,xC _,by omega,by omega,.inr (.inr ⟨w0,w2,rfl,rfl⟩)⟩
theorem zBl (w:Int) (k:Nat) (m z:List UInt8) (h:zeT w k m= .inr p):zeT w k (m++z)= .inr p:=by
 unfold zeT at h|-;by_cases w0:w=0
 ·rw [xy w0] at h|-;by_cases h0:(rd m).2.2=0
  ·rw [zvc m z h0];exact h
  ·rw [xy h0] at h;cases h
 ·rw [xx w0] at h|-;by_cases w2:w=2
  ·rw [xy w2] at h|-;by_cases h0:(rd m).2.2=0
   ·rw [zvc m z h0];rw [xx (by simpa using h0)] at h|-;by_cases h8:(m.length:Int) - (rd m).2.1<(rd m).1
    ·rw [xy h8] at h;cases h
    ·rw [xx h8] at h;rw [xx (by simp only [xE];omega)];exact h
   ·rw [xy h0] at h;cases h
  ·rw [xx w2] at h|-;by_cases h8:m.length<(if w=5 then 4 else 8)
   ·rw [xy h8] at h;cases h
   ·rw [xx h8] at h;rw [xx (by simp only [xE];omega)];exact h
theorem zmE (l:List UInt8):(∃c,rec5 l= .inl c/\(c=3\/c=4\/c=5))\/
  ∃(n w:Int) (k a t:Nat),rec5 l= .inr (n,w,a,t)/\tg l=(n,w,(k:Int),0)/\zcU n w=true/\zeT w k (l.drop k)= .inr (a,t)/\1<=k/\k<=l.length/\k<=a/\a<=t/\t<=l.length/\rd l=(8*n+w,(k:Int),0):=by
 rcases zyM l with ⟨c,h,hc⟩| ⟨n,w,k,h,hr,k1,k2,k3,hrd⟩
 ·refine .inl ⟨c,?_,hc⟩;unfold rec5;rw [h,xy (by simp only;omega)]
 ·obtain ⟨k,rfl⟩:∃j:Nat,k=j:=⟨k.toNat,by omega⟩
  have e:rec5 l=match zeT w k (l.drop k) with
   | .inl c=> .inl c
   | .inr p=> .inr (n,w,p.1,p.2):=by unfold rec5;rw [h];simp
  rcases zkN w k (l.drop k) with ⟨c,h2,hc⟩| ⟨a,t,h2,g1,g2,g3,_⟩
  ·exact .inl ⟨c,by rw [e,h2],by omega⟩
  ·simp only [yd] at g3;exact .inr ⟨n,w,k,a,t,by rw [e,h2],h,hr,h2,by omega,by omega,g1,g2,by omega,hrd⟩
theorem zDL (l z:List UInt8) (h:rec5 l= .inr r):rec5 (l++z)= .inr r:=by
 rcases zmE l with ⟨c,h',_⟩| ⟨n,w,k,a,t,h',htg,_,hb,_,hk,_,_,_,hrd⟩
 ·rw [h'] at h;cases h
 ·rw [h'] at h;have e:tg (l++z)=(n,w,(k:Int),0):=by rw [zAQ l z (by rw [hrd]),htg]
  unfold rec5;rw [e];simp only [yL,yS,yo,xJ];rw [pl hk,zBl _ _ _ _ hb];exact h
def zrec:Rec:=⟨0,0,0,0,0⟩
def zdG (b:List UInt8) (at5:Int):Rec×Int:=if at5<0\/at5>=b.length then (zrec,2) else match rec5 (b.drop at5.toNat) with
 | .inl c=>(zrec,c)
 | .inr (n,w,a,t)=>(⟨n,w,at5,at5+a,at5+t⟩,0)
theorem zDQ (hb:b.length<=140737488355328) (at5:Int):zeU b at5=some (zdG b at5):=by
 unfold zeU zdG;by_cases h:at5<0\/at5>=b.length
 ·rw [itT (by simpa using h),xy h];rfl
 ·rw [itF (by simpa using h),xx h];obtain ⟨p,rfl⟩:∃p:Nat,at5=p:=⟨at5.toNat,by omega⟩;rw [zBX b p (by omega) (by omega),sb,xJ];have hdl:(b.drop p).length=b.length - p:=by simp
  rcases zyM (b.drop p) with ⟨c,ht,hc⟩| ⟨n,w,k,ht,hr,k1,k2,k3,hrd⟩
  ·have e:rec5 (b.drop p)= .inl c:=by unfold rec5;rw [ht,xy (by simp only;omega)]
   rw [e,ht,uP];rfl
  ·obtain ⟨k,rfl⟩:∃j:Nat,k=j:=⟨k.toNat,by omega⟩
   have e:rec5 (b.drop p)=match zeT w k ((b.drop p).drop k) with
    | .inl c=> .inl c
    | .inr p=> .inr (n,w,p.1,p.2):=by unfold rec5;rw [ht];simp
   have hdd:(b.drop p).drop k=b.drop (p+k):=by rw [yi]
   have hml:(b.drop (p+k)).length=b.length - (p+k):=by simp
   obtain ⟨h1,h2,h3,h4,h5,h6,h7⟩:=zhJ (b.drop (p+k));rw [e,ht,uO,hdd];have ew:i64.wrap ((p:Int)+k)=((p+k:Nat):Int):=by rw [uR];push_cast;rfl
   have er:i64.wrap ((b.length:Int) - ((p+k:Nat):Int))=((b.length - (p+k):Nat):Int):=by rw [uR];omega
   simp only [ew,er];have hw:=(zfe.1 hr).2.2;rcases hw with rfl| rfl| rfl| rfl
   ·-- a varint
    rw [uN,sb,uM,ztb b (p+k) (by omega) (by omega),sb];by_cases g:(rd (b.drop (p+k))).2.2=0
    ·have:=h7 g;have hb5:zeT 0 k (b.drop (p+k))= .inr (k,k+(rd (b.drop (p+k))).2.1.toNat):=by unfold zeT;rw [xy rfl,xx (by simpa using g)]
     rw [itF (by simpa using g),sb,hb5];simp only;rw [uN,sb];simp only;rw [uQ,uR];simp;omega
    ·have hb5:zeT 0 k (b.drop (p+k))= .inl (rd (b.drop (p+k))).2.2:=by unfold zeT;rw [xy rfl,xy g]
     rw [itT (by simpa using g),sb,hb5];rfl
   ·rw [uN,sb,uN,sb];simp only;rw [uN,sb];unfold zeT;rw [xx (by omega),xx (by omega)];simp only;by_cases g:b.length - (p+k)<8
    ·rw [uP,xy (by simpa [hml] using g)];rfl
    ·rw [uQ,xx (by simpa [hml] using g),uR];simp;omega
   ·rw [uN,sb,uN,sb];simp only;rw [uM,ztb b (p+k) (by omega) (by omega),sb];by_cases g:(rd (b.drop (p+k))).2.2=0
    ·have:=h7 g;have e1:i64.wrap (((b.length - (p+k):Nat):Int) - (rd (b.drop (p+k))).2.1)=((b.drop (p+k)).length:Int) - (rd (b.drop (p+k))).2.1:=by rw [uR,hml]
     have e2:u64.wrap (((b.drop (p+k)).length:Int) - (rd (b.drop (p+k))).2.1)=((b.drop (p+k)).length:Int) - (rd (b.drop (p+k))).2.1:=by rw [wrap_u64,yJ (by omega) (by omega)]
     rw [itF (by simpa using g)];simp only [e1,e2];by_cases g2:((b.drop (p+k)).length:Int) - (rd (b.drop (p+k))).2.1<(rd (b.drop (p+k))).1
     ·have hb5:zeT 2 k (b.drop (p+k))= .inl 3:=by unfold zeT;rw [xx (by omega),xy rfl,xx (by simpa using g),xy g2]
      rw [itT (by simpa using g2),sb,hb5];rfl
     ·have hb5:zeT 2 k (b.drop (p+k))= .inr (k+(rd (b.drop (p+k))).2.1.toNat,k+(rd (b.drop (p+k))).2.1.toNat+(rd (b.drop (p+k))).1.toNat):=by
       unfold zeT;rw [xx (by omega),xy rfl,xx (by simpa using g),xx g2]
      rw [itF (by simpa using g2),sb,hb5];simp only;rw [zr (x:=(rd (b.drop (p+k))).1) (by omega),itF (by simpa using g2),zr (x:=((p+k:Nat):Int)+(rd (b.drop (p+k))).2.1) (by omega),uR];simp;omega
    ·have hb5:zeT 2 k (b.drop (p+k))= .inl (rd (b.drop (p+k))).2.2:=by unfold zeT;rw [xx (by omega),xy rfl,xy g]
     rw [itT (by simpa using g),sb,hb5];rfl
   ·rw [uM,sb,uN,sb];simp only;rw [uN,sb];unfold zeT;rw [xx (by omega),xx (by omega)];simp only;by_cases g:b.length - (p+k)<4
    ·rw [uP,xy (by simpa [hml] using g)];rfl
    ·rw [uQ,xx (by simpa [hml] using g),uR];simp;omega
theorem zFC {b:List UInt8} (hb:b.length<=1048576) (at5:Int):zeU b at5=some (zdG b at5):=zDQ (by omega) at5
def spl (base:Nat) (l:List UInt8):List Rec×Option (Nat×Int):=
 if hl:l=[] then ([],none) else match h:rec5 l with
  | .inl c=>([],some (base,c))
  | .inr (n,w,a,t)=>(⟨n,w,base,(base+a:Nat),(base+t:Nat)⟩::(spl (base+t) (l.drop t)).1,(spl (base+t) (l.drop t)).2)
termination_by l.length
decreasing_by
 all_goals
  rcases zmE l with ⟨c',h',_⟩| ⟨n',w',k',a',t',h',_,_,_,g1,g2,g3,g4,g5,_⟩
  ·rw [h'] at h;cases h
  ·rw [h'] at h;cases h;simp only [yd];omega
theorem zgR (base:Nat):spl base []=([],none):=by rw [spl,dif_pos rfl]
theorem zhW (hl:l≠[]) (h:rec5 l= .inl c):spl base l=([],some (base,c)):=by
 rw [spl,dif_neg hl];split
 ·rename_i c' h';rw [h] at h';cases h';rfl
 ·rename_i h';rw [h] at h';cases h'
theorem zfk (hl:l≠[]) (h:rec5 l= .inr (n,w,a,t)):
  spl base l=(⟨n,w,base,(base+a:Nat),(base+t:Nat)⟩::(spl (base+t) (l.drop t)).1,(spl (base+t) (l.drop t)).2):=by
 rw [spl,dif_neg hl];split
 ·rename_i c' h';rw [h] at h';cases h'
 ·rename_i n' w' a' t' h';rw [h] at h';cases h';rfl
theorem zis (P:Nat->List UInt8->Prop) (h0:∀base,P base []) (he:∀base l c,l≠[]->rec5 l= .inl c->(c=3\/c=4\/c=5)->P base l)
  (hc:∀base l (n w:Int) (a t:Nat),l≠[]->rec5 l= .inr (n,w,a,t)->zcU n w=true->1<=a->a<=t->t<=l.length->P (base+t) (l.drop t)->P base l) (base:Nat) (l:List UInt8):P base l:=by
 generalize hn:l.length=m
 induction m using Nat.strongRecOn generalizing base l with
 | _ m ih=>
  by_cases hl:l=[]
  ·subst hl;exact h0 base
  ·rcases zmE l with ⟨c,h,hc'⟩| ⟨n,w,k,a,t,h,_,hr,_,g1,g2,g3,g4,g5,_⟩
   ·exact he base l c hl h hc'
   ·exact hc base l n w a t hl h hr (by omega) g4 g5 (ih _ (by simp only [yd];omega) _ _ rfl)
theorem zMd (base:Nat) (l:List UInt8):(spl base l).1.length<=l.length:=by
 refine zis (fun base l=>(spl base l).1.length<=l.length) ?_ ?_ ?_ base l
 ·intro base;rw [zgR];simp
 ·intro base l c hl h _;rw [zhW hl h];simp
 ·intro base l n w a t hl h _ g1 g2 g3 ih;rw [zfk hl h];simp only [xR,yd] at ih|-;omega
theorem zKy (base:Nat) (l:List UInt8):∀p c,(spl base l).2=some (p,c)->(c=3\/c=4\/c=5)/\base<=p/\p<base+l.length:=by
 refine zis (fun base l=>∀p c,(spl base l).2=some (p,c)->(c=3\/c=4\/c=5)/\base<=p/\p<base+l.length) ?_ ?_ ?_ base l
 ·intro base p c h;rw [zgR] at h;cases h
 ·intro base l c' hl h hc p c h2;rw [zhW hl h] at h2;cases h2;have:0<l.length:=qf.2 hl;exact ⟨hc,by omega,by omega⟩
 ·intro base l n w a t hl h _ g1 g2 g3 ih p c h2;rw [zfk hl h] at h2;have:=ih p c h2;simp only [yd] at this;omega
def zmM (d:Nat) (r:Rec):Rec:=⟨r.Number,r.Wire,r.From+d,r.At+d,r.To+d⟩
theorem zAK (d:Nat) (base:Nat) (l:List UInt8):spl (base+d) l=((spl base l).1.map (zmM d),(spl base l).2.map fun p=>(p.1+d,p.2)):=by
 refine zis (fun base l=>spl (base+d) l=((spl base l).1.map (zmM d),(spl base l).2.map fun p=>(p.1+d,p.2))) ?_ ?_ ?_ base l
 ·intro base;rw [zgR,zgR];rfl
 ·intro base l c hl h _;rw [zhW hl h,zhW hl h];rfl
 ·intro base l n w a t hl h _ g1 g2 g3 ih;rw [zfk hl h,zfk hl h,show base+d+t=base+t+d by omega,ih];simp only [xL,zmM,yI,yP,zn.mk.injEq,qb,qM];push_cast;omega
theorem zyG (m:List UInt8) (base:Nat) (l:List UInt8):(spl base l).2=none->spl base (l++m)=((spl base l).1++(spl (base+l.length) m).1,(spl (base+l.length) m).2):=by
 refine zis (fun base l=>(spl base l).2=none->spl base (l++m)=((spl base l).1++(spl (base+l.length) m).1,(spl (base+l.length) m).2)) ?_ ?_ ?_ base l
 ·intro base _;rw [zgR];simp
 ·intro base l c hl h _ h2;rw [zhW hl h] at h2;cases h2
 ·intro base l n w a t hl h _ g1 g2 g3 ih h2;rw [zfk hl h] at h2|-;rw [zfk (by simp [hl]) (zDL l m h),pl g3,ih h2];simp only [yd,yv,show base+t+(l.length - t)=base+l.length by omega]
def zdF (w:Int) (v:List UInt8):Bool:=
 if w=0 then decide ((rd v).2.2=0/\(rd v).2.1=v.length) else decide (w=2\/w=1/\v.length=8\/w=5/\v.length=4)
def put5 (n w:Int) (v:List UInt8):List UInt8:=enc (tW n w)++(if w=2 then enc v.length else [])++v
theorem zFz (w:Int) {v:List UInt8} (hv:v.length<=1048576):zgr w v=some (zdF w v):=by
 unfold zgr zdF;by_cases h:w=0
 ·have:=ztb v 0 (by omega) (xI _);rw [xN] at this;have h':zbk v 0=some (rd v):=this;rw [itT (by simpa using h),xy h,h',sb];simp [Bool.decide_and,Bool.beq_eq_decide_eq]
 ·rw [itF (by simpa using h),xx h];congr 1;have e8:((v.length:Int)==8)=decide (v.length=8):=zpb _ 8;have e4:((v.length:Int)==4)=decide (v.length=4):=zpb _ 4;rw [e8,e4];by_cases h1:w=1
  ·subst h1;simp
  ·by_cases h2:w=2
   ·subst h2;simp
   ·by_cases h5:w=5
    ·subst h5;simp
    ·simp [h1,h2,h5]
theorem znx {fuel:Nat} (hf:10<=fuel) {n w:Int} {v:List UInt8} (h:zcU n w=true) (hv:v.length<=1048576):zdC fuel n w v=some (put5 n w v):=by
 obtain ⟨_,ka⟩:=zyL h;have h1:=zlp (v:=tW n w) (by omega);have h2:=zlp (v:=v.length) (by omega);unfold zdC put5;rw [zDM hf h,sb];by_cases hw:w=2
 ·rw [itT (by simpa using hw),xy hw];have e:u64.wrap (v.length:Int)=(v.length:Int):=by rw [wrap_u64,yJ (by omega) (by omega)]
  rw [e,zvd hf (by omega),sb,zcg (by omega),sb,zcg (by simp;omega),sb]
 ·rw [itF (by simpa using hw),xx hw,zcg (by omega),sb,yA]
theorem zoA (n w:Int) (v:List UInt8):(put5 n w v).length=(enc (tW n w)).length+(if w=2 then (enc v.length).length else 0)+v.length:=by
 unfold put5;split
 ·simp;omega
 ·simp
theorem zGj {l:List UInt8} {k:Nat} (h:rd l=((rd l).1,(k:Int),0)):(enc (rd l).1.toNat).length<=k:=by
 rcases zmD l with h'| ⟨h',_⟩| ⟨x,c,y,e,hx,hc,hl,hv,h'⟩
 ·rw [h'] at h;cases h
 ·rw [h'] at h;cases h
 ·rw [h'] at h|-;have hk:(x.length:Int)+1=k:=by have:=congrArg (fun p=>p.2.1) h;simpa using this
  simp only [xJ];have h1:=zFa (x++[c]);rw [ztv];have key:∀(j v:Nat),v<128^(j+1)->lenN v<=j+1:=by
   intro j
   induction j with
   | zero=>intro v hv;rw [zjF (by omega)];omega
   | succ j ih=>
    intro v hv;by_cases h2:v<128
    ·rw [zjF h2];omega
    ·rw [zlH h2];have:=ih (v/128) (by rw [yD] at hv;exact up (by omega));omega
  have:=key x.length (hor (x++[c])) (by simpa using h1);omega
theorem zFx {l:List UInt8} {n w:Int} {a t:Nat} (h:rec5 l= .inr (n,w,a,t)):
  zdF w ((l.drop a).take (t - a))=true/\((l.drop a).take (t - a)).length=t - a/\(put5 n w ((l.drop a).take (t - a))).length<=t:=by
 rcases zmE l with ⟨c,h',_⟩| ⟨n',w',k,a',t',h',_,hr,hb,g1,g2,g3,g4,g5,hrd⟩
 ·rw [h'] at h;cases h
 ·rw [h'] at h;cases h;have ke:((l.drop a).take (t - a)).length=t - a:=by simp;omega
  have hm:=zGj (l:=l) (k:=k) (by rw [hrd]);have e1:(rd l).1.toNat=tW n w:=by rw [hrd];rfl
  rw [e1] at hm;refine ⟨?_,ke,?_⟩
  ·rcases zkN w k (l.drop k) with ⟨c,hc,_⟩| ⟨a2,t2,h2,k1,k2,k3,hcase⟩
   ·rw [hc] at hb;cases hb
   ·rw [h2] at hb;cases hb;unfold zdF;rcases hcase with ⟨rfl,rfl,f1,f2,f3⟩| ⟨rfl,f1,f2,f3⟩| ⟨w0,w2,rfl,f1⟩
    ·rw [xy rfl]
     -- what is read is the value alone
     have hv:rd ((l.drop a).take (t - a))=rd (l.drop a):=by
      rcases zmD (l.drop a) with h6| ⟨h6,_⟩| ⟨x,c,y,e,hx,hc,hl,hv,h6⟩
      ·rw [h6] at f1;cases f1
      ·rw [h6] at f1;cases f1
      ·rw [h6] at f2;have e7:t - a=(x++[c]).length:=by simp at f2|-;omega
       have e8:(l.drop a).take (t - a)=x++c::[]:=by rw [e7,e,pQ x c y,uv]
       rw [e8,zHb x c [] hx hc hl hv,h6]
     rw [hv];exact xO ⟨f1,by rw [<-f2,ke]⟩
    ·rw [xx (by omega)];exact xO (.inl rfl)
    ·have hw:=(zfe.1 hr).2.2;rw [xx w0];rw [ke,f1];refine xO ?_;rcases hw with rfl| rfl| rfl| rfl
     ·exact absurd rfl w0
     ·right;left;simp
     ·exact absurd rfl w2
     ·right;right;simp
  ·rw [zoA,ke];rcases zkN w k (l.drop k) with ⟨c,hc,_⟩| ⟨a2,t2,h2,k1,k2,k3,hcase⟩
   ·rw [hc] at hb;cases hb
   ·rw [h2] at hb;cases hb;by_cases hw2:w=2
    ·rw [xy hw2];rcases hcase with ⟨rfl,_⟩| ⟨_,f1,f2,f3⟩| ⟨_,w2,_⟩
     ·omega
     ·have hm2:=zGj (l:=l.drop k) (k:=a - k) (by rw [f2];exact Prod.ext rfl (Prod.ext rfl f1));have e3:(rd (l.drop k)).1.toNat=t - a:=by omega
      rw [e3] at hm2;omega
     ·exact absurd hw2 w2
    ·rw [xx hw2];omega
theorem zBW (l:List UInt8) {j:Nat} (h:(rd l).2.2=0) (hj:(rd l).2.1<=j):rd (l.take j)=rd l:=by
 rcases zmD l with h6| ⟨h6,_⟩| ⟨x,c,y,e,hx,hc,hl,hv,h6⟩
 ·rw [h6] at h;cases h
 ·rw [h6] at h;cases h
 ·rw [h6] at hj;have hj':(x++[c]).length<=j:=by simp at hj|-;omega
  have:l.take j=x++c::y.take (j - (x++[c]).length):=by
   rw [e,pQ x c y,qB,yG hj',<-pQ]
  rw [this,zHb x c _ hx hc hl hv,h6]
theorem zEN (h:zeT w k m= .inr (a,t)):zeT w k (m.take (t - k))= .inr (a,t):=by
 rcases zkN w k m with ⟨c,hc,_⟩| ⟨a2,t2,h2,k1,k2,k3,hcase⟩
 ·rw [hc] at h;cases h
 ·rw [h2] at h;cases h;have hl:(m.take (t - k)).length=t - k:=by simp;omega
  rcases hcase with ⟨rfl,rfl,f1,f2,f3⟩| ⟨rfl,f1,f2,f3⟩| ⟨w0,w2,rfl,f1⟩
  ·have hr:=zBW m (j:=t - a) f1 (by omega);unfold zeT at h2|-;rw [xy rfl] at h2|-;rw [hr];exact h2
  ·have hr:=zBW m (j:=t - k) f1 (by omega);unfold zeT at h2|-;rw [xx (by omega),xy rfl] at h2|-;rw [hr];rw [xx (by simpa using f1)] at h2|-;split at h2
   ·cases h2
   ·rw [xx (by rw [hl];omega)];exact h2
  ·unfold zeT;rw [xx w0,xx w2,xx (by rw [hl];omega),<-f1]
theorem zIk (h:rec5 l= .inr (n,w,a,t)):rec5 (l.take t)= .inr (n,w,a,t):=by
 rcases zmE l with ⟨c,h',_⟩| ⟨n',w',k,a',t',h',htg,hr,hb,g1,g2,g3,g4,g5,hrd⟩
 ·rw [h'] at h;cases h
 ·rw [h'] at h;cases h;have hr1:=zBW l (j:=t) (by rw [hrd]) (by rw [hrd];simp only;omega);have e:tg (l.take t)=(n,w,(k:Int),0):=by
   have:=zAQ (l.take t) (l.drop t) (by rw [hr1,hrd]);rw [qL,htg] at this;exact this.symm
  unfold rec5;rw [e];simp only [yL,yS,yo,xJ];rw [qV,zEN hb]
theorem zMe (b:List UInt8) (base:Nat) (l:List UInt8):l=b.drop base->base<=b.length->∀r∈(spl base l).1,∃(n w:Int) (f a t:Nat),r=⟨n,w,(f:Int),((f+a:Nat):Int),((f+t:Nat):Int)⟩/\rec5 (b.drop f)= .inr (n,w,a,t)/\1<=a/\a<=t/\f+t<=b.length:=by
 refine zis (fun base l=>l=b.drop base->base<=b.length->∀r∈(spl base l).1,∃(n w:Int) (f a t:Nat),r=⟨n,w,(f:Int),((f+a:Nat):Int),((f+t:Nat):Int)⟩/\rec5 (b.drop f)= .inr (n,w,a,t)/\1<=a/\a<=t/\f+t<=b.length) ?_ ?_ ?_ base l
 ·intro base _ _ r hr;rw [zgR] at hr;cases hr
 ·intro base l c hl h _ _ _ r hr;rw [zhW hl h] at hr;cases hr
 ·intro base l n w a t hl h _ g1 g2 g3 ih hld hbase r hr;have ke:l.length=b.length - base:=by rw [hld];simp
  rw [zfk hl h] at hr;rcases xD.1 hr with rfl| hr
  ·exact ⟨n,w,base,a,t,rfl,by rw [<-hld];exact h,g1,g2,by omega⟩
  ·exact ih (by rw [hld,yi]) (by omega) r hr
def rawW (k:Int) (b:List UInt8):Int:=if zaM k=0 then (rd b).1 else (word (b.take 8):Nat)
def zmL (k:Int) (b:List UInt8):Int×Int:=if kNum k=false then (0,2) else if zdF (zaM k) b=false then (0,12) else (zbE k (rawW k b),0)
def zkv (k:Int) (c:Nat):List UInt8:=if 12<=k then zfp 8 c else if 9<=k then zfp 4 c else enc c
def sPut (k w:Int):List UInt8:=zkv k (zbE k w).toNat
theorem zrS (k:Int) :0<=rawW k b/\rawW k b<=18446744073709551615:=by
 unfold rawW;split
 ·have:=zhJ b;omega
 ·have h:=zwU (b.take 8);have h2:(256:Nat)^(b.take 8).length<=256^8:=qW (by omega) (by simp;omega);omega
theorem zvU (k:Int) {b:List UInt8} (hb:b.length<=1048576):zeW k b=some (zmL k b):=by
 unfold zeW zmL;rw [zkr,sb];cases hn:kNum k
 ·rw [uM,xy rfl]
 ·rw [uN,xx (by simp),zrf,sb,zFz _ hb,sb];cases hf:zdF (zaM k) b
  ·rw [uM,xy rfl]
  ·rw [uN,xx (by simp),zKp (by omega),sb,sb];have hbd:=zrS k (b:=b);have e0:zbk b 0=some (rd b):=by
    have:=ztb b 0 (by omega) (xI _);rw [xN] at this;exact this
   by_cases h0:zaM k=0
   ·have e:rawW k b=(rd b).1:=by unfold rawW;rw [xy h0]
    rw [itT (by simpa using h0),e0,sb,<-e,zre k hbd,sb]
   ·have e:rawW k b=((word (b.take 8):Nat):Int):=by unfold rawW;rw [xx h0]
    rw [itF (by simpa using h0),<-e,zre k hbd,sb]
theorem zyr {fuel:Nat} (hf:10<=fuel) {k w:Int} (h:0<=w/\w<=18446744073709551615):zfA fuel k w=some (sPut k w):=by
 have hc:=ziJ k h;obtain ⟨c,hcc⟩:∃c:Nat,zbE k w=c:=⟨(zbE k w).toNat,by omega⟩;unfold zfA sPut zkv;rw [zre k h,sb,hcc,xJ];by_cases h1:12<=k
 ·rw [itT (by simpa using h1),xy h1,zyw (by omega),sb];rfl
 ·rw [itF (by simpa using h1),xx h1];by_cases h2:9<=k
  ·rw [itT (by simpa using h2),xy h2,zyw (by omega),sb];rfl
  ·rw [itF (by simpa using h2),xx h2,zvd hf (by omega),sb]
theorem zhC :kNum k=true↔1<=k/\k<=14:=by simp [kNum]
theorem zrk {k:Int} (hk:kNum k=true) {c:Nat} (hc:c<18446744073709551616):zdF (zaM k) (zkv k c)=true:=by
 have:=zhC.1 hk;unfold zkv;by_cases h1:12<=k
 ·have e:zaM k=1:=by unfold zaM;rw [xx (by omega),xy h1]
  rw [xy h1,e];simp [zdF,zbS]
 ·rw [xx h1];by_cases h2:9<=k
  ·have e:zaM k=5:=by unfold zaM;rw [xx (by omega),xx h1,xy h2]
   rw [xy h2,e];simp [zdF,zbS]
  ·have e:zaM k=0:=by unfold zaM;rw [xx (by omega),xx h1,xx h2]
   have hr:=zKe [] hc;rw [yA] at hr;rw [xx h2,e];unfold zdF;rw [xy rfl,hr];simp
theorem zFw {k:Int} (hk:kNum k=true) {c:Nat} (hc:c<18446744073709551616) (h32:9<=k->k<12->c<4294967296):rawW k (zkv k c)=(c:Int):=by
 have:=zhC.1 hk;unfold zkv rawW;by_cases h1:12<=k
 ·have e:zaM k=1:=by unfold zaM;rw [xx (by omega),xy h1]
  rw [xy h1,e,xx (by omega),yG (by rw [zbS];omega),zrB,qt (by omega)]
 ·rw [xx h1];by_cases h2:9<=k
  ·have e:zaM k=5:=by unfold zaM;rw [xx (by omega),xx h1,xy h2]
   have:=h32 h2 (by omega);rw [xy h2,e,xx (by omega),yG (by rw [zbS];omega),zrB,qt (by omega)]
  ·have e:zaM k=0:=by unfold zaM;rw [xx (by omega),xx h1,xx h2]
   have hr:=zKe [] hc;rw [yA] at hr;rw [xx h2,e,xy rfl,hr]
theorem zFJ {k w:Int} (hk:kNum k=true) (h:0<=w/\w<=18446744073709551615):zmL k (sPut k w)=(zbE k w,0):=by
 have hc:=ziJ k h;obtain ⟨c,hcc⟩:∃c:Nat,zbE k w=c:=⟨(zbE k w).toNat,by omega⟩;unfold zmL sPut;rw [hcc,xJ,hk,xx (by simp),zrk hk (by omega),xx (by simp),zFw hk (by omega) (fun h9 h12=>by have:=zIR (w:=w) h9 h12;omega),<-hcc,zqq k h]
theorem zmK {k w:Int} (h:0<=w/\w<=18446744073709551615):1<=(sPut k w).length/\(sPut k w).length<=10:=by
 have hc:=ziJ k h;unfold sPut zkv;split
 ·rw [zbS];omega
 ·split
  ·rw [zbS];omega
  ·exact zlp (by omega)
def znD (k:Int) (l:List UInt8):Int⊕Nat:=
 if k<9 then (if (rd l).2.2≠0 then .inl (rd l).2.2 else .inr (rd l).2.1.toNat) else if l.length<(if k<12 then 4 else 8) then .inl 3 else .inr (if k<12 then 4 else 8)
theorem znE (k:Int) (l:List UInt8):(∃c,znD k l= .inl c/\(c=3\/c=4))\/∃n,znD k l= .inr n/\1<=n/\n<=l.length/\n<=10/\(k<9/\(rd l).2.2=0/\(rd l).2.1=(n:Int)\/¬k<9/\n=(if k<12 then 4 else 8)):=by
 obtain ⟨h1,h2,h3,h4,h5,h6,h7⟩:=zhJ l;unfold znD;by_cases h:k<9
 ·rw [xy h];by_cases h0:(rd l).2.2=0
  ·have:=h7 h0;rw [xx (by simpa using h0)];exact .inr ⟨_,rfl,by omega,by omega,by omega,.inl ⟨h,h0,by omega⟩⟩
  ·rw [xy h0];exact .inl ⟨_,rfl,by omega⟩
 ·rw [xx h];by_cases h8:l.length<(if k<12 then 4 else 8)
  ·rw [xy h8];exact .inl ⟨_,rfl,by omega⟩
  ·rw [xx h8];exact .inr ⟨_,rfl,by split<;>omega,by omega,by split<;>omega,.inr ⟨h,rfl⟩⟩
def pcs (k:Int) (l:List UInt8):List (List UInt8)×Int:=
 if hl:l=[] then ([],0) else match h:znD k l with
  | .inl c=>([],c)
  | .inr n=>(l.take n::(pcs k (l.drop n)).1,(pcs k (l.drop n)).2)
termination_by l.length
decreasing_by
 all_goals
  rcases znE k l with ⟨c',h',_⟩| ⟨n',h',g1,g2,_⟩
  ·rw [h'] at h;cases h
  ·rw [h'] at h;cases h;simp only [yd];omega
theorem zpv (k:Int):pcs k []=([],0):=by rw [pcs,dif_pos rfl]
theorem zrQ (hl:l≠[]) (h:znD k l= .inl c):pcs k l=([],c):=by
 rw [pcs,dif_neg hl];split
 ·rename_i c' h';rw [h] at h';cases h';rfl
 ·rename_i h';rw [h] at h';cases h'
theorem zmC (hl:l≠[]) (h:znD k l= .inr n):pcs k l=(l.take n::(pcs k (l.drop n)).1,(pcs k (l.drop n)).2):=by
 rw [pcs,dif_neg hl];split
 ·rename_i c' h';rw [h] at h';cases h'
 ·rename_i n' h';rw [h] at h';cases h';rfl
theorem zrR (k:Int) (P:List UInt8->Prop) (h0:P []) (he:∀l c,l≠[]->znD k l= .inl c->(c=3\/c=4)->P l)
  (hc:∀l n,l≠[]->znD k l= .inr n->1<=n->n<=l.length->n<=10->P (l.drop n)->P l) (l:List UInt8):P l:=by
 generalize hn:l.length=m
 induction m using Nat.strongRecOn generalizing l with
 | _ m ih=>
  by_cases hl:l=[]
  ·subst hl;exact h0
  ·rcases znE k l with ⟨c,h,hc'⟩| ⟨n,h,g1,g2,g3,_⟩
   ·exact he l c hl h hc'
   ·exact hc l n hl h g1 g2 g3 (ih _ (by simp only [yd];omega) _ rfl)
theorem zDF (k:Int) (l:List UInt8):(pcs k l).2=0\/(pcs k l).2=3\/(pcs k l).2=4:=by
 refine zrR k (fun l=>(pcs k l).2=0\/(pcs k l).2=3\/(pcs k l).2=4) ?_ ?_ ?_ l
 ·rw [zpv];exact .inl rfl
 ·intro l c hl h hc;rw [zrQ hl h];exact .inr hc
 ·intro l n hl h _ _ _ ih;rw [zmC hl h];exact ih
theorem zBU (k:Int) (l:List UInt8):(pcs k l).1.length<=l.length:=by
 refine zrR k (fun l=>(pcs k l).1.length<=l.length) ?_ ?_ ?_ l
 ·rw [zpv];simp
 ·intro l c hl h _;rw [zrQ hl h];simp
 ·intro l n hl h _ _ _ ih;rw [zmC hl h];simp only [xR,yd] at ih|-;have:=qf.2 hl;omega
theorem zJW (k:Int) (l:List UInt8):(pcs k l).2=0->(pcs k l).1.flatten=l:=by
 refine zrR k (fun l=>(pcs k l).2=0->(pcs k l).1.flatten=l) ?_ ?_ ?_ l
 ·rw [zpv];intro _;rfl
 ·intro l c hl h hc h2;rw [zrQ hl h] at h2;simp only at h2;omega
 ·intro l n hl h _ _ _ ih h2;rw [zmC hl h] at h2|-;simp only [qa];rw [ih h2,qL]
theorem zFQ (hk:kNum k=true) (h:znD k l= .inr n):zdF (zaM k) (l.take n)=true:=by
 have hk':=zhC.1 hk;rcases znE k l with ⟨c,h',_⟩| ⟨n',h',g1,g2,g3,hcase⟩
 ·rw [h'] at h;cases h
 ·rw [h'] at h;cases h;have ke:(l.take n).length=n:=by simp;omega
  unfold zdF;rcases hcase with ⟨h9,f1,f2⟩| ⟨h9,f1⟩
  ·have e:zaM k=0:=by unfold zaM;rw [xx (by omega),xx (by omega),xx (by omega)]
   rw [xy e];rcases zmD l with h6| ⟨h6,_⟩| ⟨x,c,y,e,hx,hc,hl,hv,h6⟩
   ·rw [h6] at f1;cases f1
   ·rw [h6] at f1;cases f1
   ·rw [h6] at f2;have e7:n=(x++[c]).length:=by simp at f2|-;omega
    have e8:l.take n=x++c::[]:=by rw [e7,e,pQ x c y,uv]
    rw [e8,zHb x c [] hx hc hl hv];simp
  ·have h12:zaM k=1/\12<=k\/zaM k=5/\k<12:=by
    unfold zaM;rw [xx (by omega)];by_cases hh:12<=k
    ·rw [xy hh];exact .inl ⟨rfl,hh⟩
    ·rw [xx hh,xy (by omega)];exact .inr ⟨rfl,by omega⟩
   rw [xx (by omega),ke,f1];refine xO ?_;rcases h12 with ⟨e,hh⟩| ⟨e,hh⟩
   ·rw [e,xx (by omega)];right;left;exact ⟨rfl,rfl⟩
   ·rw [e,xy hh];right;right;exact ⟨rfl,rfl⟩
theorem zDG (hk:kNum k=true) (l:List UInt8):∀p∈(pcs k l).1,zdF (zaM k) p=true/\1<=p.length/\p.length<=10:=by
 refine zrR k (fun l=>∀p∈(pcs k l).1,zdF (zaM k) p=true/\1<=p.length/\p.length<=10) ?_ ?_ ?_ l
 ·rw [zpv];intro p hp;cases hp
 ·intro l c hl h _;rw [zrQ hl h];intro p hp;cases hp
 ·intro l n hl h g1 g2 g3 ih;rw [zmC hl h];intro p hp;cases hp with
  | head=>exact ⟨zFQ hk h,by simp;omega,by simp;omega⟩
  | tail _ hp=>exact ih p hp
def ziH (k:Int) (p:List UInt8):Int:=zbE k (rawW k p)
theorem zld (hk:kNum k=true) (hf:zdF (zaM k) p=true):zmL k p=(ziH k p,0):=by
 unfold zmL ziH;rw [hk,xx (by simp),hf,xx (by simp)]
def ends (base:Nat):List (List UInt8)->List Int
 | []=>[]
 | p::ps=>((base+p.length:Nat):Int)::ends (base+p.length) ps
theorem zvG (base:Nat) (ps:List (List UInt8)):(ends base ps).length=ps.length:=by
 induction ps generalizing base with
 | nil=>rfl
 | cons p ps ih=>simp [ends,ih]
theorem zxr:∀(ps:List (List UInt8)) (base i:Nat),i<ps.length->(ends base ps)[i]? =some ((base+(ps.take (i+1)).flatten.length:Nat):Int)
 | [],_,_,h=>by simp at h
 | p::ps,base,0,_=>by simp [ends]
 | p::ps,base,i+1,h=>by
  have:=zxr ps (base+p.length) i (by simpa using h);simp only [ends,uH,this,yY,qa,xE,qo]
theorem zBY {b:List UInt8} (hb:b.length<=1048576) (k:Int) (l:List UInt8):∀(a:Nat) (out:List Int),a<=b.length->l=b.drop a->out.length<=a->
  zcE b k out a=some (if (pcs k l).2=0 then .inl (out++ends a (pcs k l).1) else .inr (pcs k l).2):=by
 refine zrR k (fun l=>∀(a:Nat) (out:List Int),a<=b.length->l=b.drop a->out.length<=a->
  zcE b k out a=some (if (pcs k l).2=0 then .inl (out++ends a (pcs k l).1) else .inr (pcs k l).2)) ?_ ?_ ?_ l
 ·intro a out ha hl ho;have:b.length<=a:=by have:=congrArg List.length hl;simp at this;omega
  rw [zpv,xy rfl];refine ziL ?_;unfold zaT;rw [uQ];simp [ends]
 ·intro l c hl h hc a out ha hld ho;subst hld;have ka:a<b.length:=by have:=qf.2 hl;simp at this;omega
  have hdl:(b.drop a).length=b.length - a:=by simp
  rw [zrQ hl h,xx (by simp only;omega)];refine ziL ?_;unfold zaT;rw [uP];unfold znD at h;by_cases h9:k<9
  ·rw [xy h9] at h;by_cases h0:(rd (b.drop a)).2.2=0
   ·rw [xx (by simpa using h0)] at h;cases h
   ·rw [xy h0] at h;cases h;rw [uP,sb,itT (by simpa using h9),ztb b a (by omega) ha,sb,itT (by simpa using h0),sb]
  ·rw [xx h9] at h;by_cases h12:k<12
   ·simp only [xy h12] at h;by_cases h8:(b.drop a).length<4
    ·rw [xy h8] at h;cases h;rw [itT (by simpa using h12),sb,itF (by simpa using h9),sb];simp only;rw [uR,uP]
    ·rw [xx h8] at h;cases h
   ·simp only [xx h12] at h;by_cases h8:(b.drop a).length<8
    ·rw [xy h8] at h;cases h;rw [itF (by simpa using h12),sb,itF (by simpa using h9),sb];simp only;rw [uR,uP]
    ·rw [xx h8] at h;cases h
 ·intro l n hl h g1 g2 g3 ih a out ha hld ho;subst hld;have hdl:(b.drop a).length=b.length - a:=by simp
  have kF:zaT b k out a=some (.inl (out++[((a+n:Nat):Int)],((a+n:Nat):Int))):=by
   unfold zaT;rw [uP];rcases znE k (b.drop a) with ⟨c,h',_⟩| ⟨n',h',_,_,_,hcase⟩
   ·rw [h'] at h;cases h
   ·rw [h'] at h;cases h;rcases hcase with ⟨h9,f1,f2⟩| ⟨h9,f1⟩
    ·rw [uP,sb,itT (by simpa using h9),ztb b a (by omega) ha,sb,itF (by simpa using f1),sb];simp only;rw [f2,uR,uQ,zcg (by simp;omega),sb];push_cast;rfl
    ·by_cases h12:k<12
     ·rw [xy h12] at f1;subst f1;rw [itT (by simpa using h12),sb,itF (by simpa using h9),sb];simp only;rw [uR,uQ,zcg (by simp;omega),sb];push_cast;rfl
     ·rw [xx h12] at f1;subst f1;rw [itF (by simpa using h12),sb,itF (by simpa using h9),sb];simp only;rw [uR,uQ,zcg (by simp;omega),sb];push_cast;rfl
  rw [znS kF,ih (a+n) _ (by omega) (by rw [yi]) (by simp;omega),zmC hl h];have e:((b.drop a).take n).length=n:=by simp;omega
  simp only [ends,e,yu,qO]
def zkT (k:Int) (b:List UInt8):List Int×Int:=if kNum k=false then ([],2) else if (pcs k b).2=0 then (ends 0 (pcs k b).1,0) else ([],(pcs k b).2)
theorem zyo (k:Int) {b:List UInt8} (hb:b.length<=1048576):zeX k b=some (zkT k b):=by
 unfold zeX zkT;rw [zkr,sb];cases hn:kNum k
 ·rw [uM,xy rfl]
 ·have h:=zBY hb k b 0 [] (xI _) rfl (xC _);have h':zcE b k [] 0=_:=h;rw [uN,xx (by simp),h',sb];by_cases h0:(pcs k b).2=0
  ·rw [xy h0,xy h0];rfl
  ·rw [xx h0,xx h0]
def zbC (k:Int) (b:List UInt8):List Int×Int:=if kNum k=false then ([],2) else if (pcs k b).2=0 then ((pcs k b).1.map (ziH k),0) else ([],(pcs k b).2)
theorem zzv {b:List UInt8} (hb:b.length<=1048576) {k:Int} (hk:kNum k=true) {ps:List (List UInt8)} (hps:∀p∈ps,zdF (zaM k) p=true) (hfl:ps.flatten=b) (hl:ps.length<=b.length) (c:Int):∀(d i:Nat),i+d=ps.length->
  zbV b k (ends 0 ps,c) ((ps.take i).map (ziH k)) i=some (ps.map (ziH k)):=by
 intro d
 induction d with
 | zero=>
  intro i hi;refine zgc ?_;unfold zaL;rw [itF (by simp [zvG];omega),yG (by omega)]
 | succ d ih=>
  intro i hi;have hil:i<ps.length:=by omega
  have hps1:ps.take (i+1)=ps.take i++[ps[i]]:=by rw [pL,xP hil];rfl
  have hsplit:ps=ps.take i++ps[i]::ps.drop (i+1):=by rw [<-yk hil,qL]
  have hb2:b=(ps.take i).flatten++(ps[i]++(ps.drop (i+1)).flatten):=by
   have h1:b=(ps.take i++ps[i]::ps.drop (i+1)).flatten:=by rw [<-hsplit];exact hfl.symm
   rw [qP,qa] at h1;exact h1
  have hcut:(b.drop (ps.take i).flatten.length).take ((ps.take (i+1)).flatten.length - (ps.take i).flatten.length)=ps[i]:=by
   rw [hps1,qP,xE,uj]
   conv=>lhs;arg 2;rw [hb2]
   rw [pP];simp
  have hle:(ps.take (i+1)).flatten.length<=b.length:=by
   have:=congrArg List.length hb2;rw [hps1];simp only [qP,xE,qa,List.flatten_nil,yA] at this|-;omega
  refine (zng (out':=(ps.take (i+1)).map (ziH k)) (i':=((i+1:Nat):Int)) ?_).trans (ih (i+1) (by omega));unfold zaL;rw [itT (by simp [zvG];omega)];have efrom:(if (decide ((i:Int)>0))=true then (idx (ends 0 ps) (i64.wrap ((i:Int) - 1))>>=fun x=>some x) else some 0)=some (((ps.take i).flatten.length:Nat):Int):=by
   cases i with
   | zero=>rw [uO];simp
   | succ j=>
    have hg:=zxr ps 0 j (by omega);rw [itT (by first| (simp;done)| (simp;omega)),uR];unfold idx;rw [xy (by omega),show (((j+1:Nat):Int) - 1).toNat=j by omega,hg,sb];simp
  have hg:=zxr ps 0 i hil;have eto:idx (ends 0 ps) (i:Int)=some (((ps.take (i+1)).flatten.length:Nat):Int):=by
   unfold idx;rw [xy (by omega),xJ,hg];simp
  have hmono:(ps.take i).flatten.length<=(ps.take (i+1)).flatten.length:=by rw [hps1,qP,xE];omega
  have hpl:(ps[i]).length<=b.length:=by have:=congrArg List.length hb2;simp at this;omega
  simp only;rw [efrom,sb,eto,sb,zhn rfl rfl hmono hle,sb,hcut,zvU k (by omega),sb,zld hk (hps _ (xF hil)),zcg (by simp;omega),sb,uR];rw [hps1,yV];rfl
theorem zDS (k:Int) {b:List UInt8} (hb:b.length<=1048576):zfR k b=some (zbC k b):=by
 unfold zfR zbC;rw [zyo k hb,sb];unfold zkT;cases hn:kNum k
 ·rw [xy rfl,xy rfl];have h':zbV b k (([]:List Int),2) [] 0=some []:=by
   refine zgc ?_;unfold zaL;rw [uO]
  rw [h',sb]
 ·simp only [xx (show ¬(true=false) by simp)];by_cases h0:(pcs k b).2=0
  ·simp only [xy h0];have h:=zzv hb hn (ps:=(pcs k b).1) (fun p hp=>(zDG hn b p hp).1) (zJW k b h0) (zBU k b) 0 (pcs k b).1.length 0 (by omega);have h':zbV b k (ends 0 (pcs k b).1,0) [] 0=_:=h;rw [h',sb]
  ·simp only [xx h0];have h':zbV b k (([]:List Int),(pcs k b).2) [] 0=some []:=by
    refine zgc ?_;unfold zaL;rw [uO]
   rw [h',sb]
theorem zBZ {fuel:Nat} (hf:10<=fuel) {k:Int} {l:List Int} (h:∀w∈l,0<=w/\w<=18446744073709551615) (hl:l.length<=1048576):∀(d i:Nat) (out:List UInt8),i+d=l.length->out.length<=10*i->
  zdE fuel k l out i=some (out++(l.drop i).flatMap (sPut k)):=by
 intro d
 induction d with
 | zero=>
  intro i out hi ho;refine znU ?_;unfold zbN;rw [uQ,yq (by omega)];simp
 | succ d ih=>
  intro i out hi ho;have hil:i<l.length:=by omega
  have hw:=h _ (xF hil);have ke:=zmK (k:=k) hw;refine (znT (out':=out++sPut k l[i]) (i':=((i+1:Nat):Int)) ?_).trans ?_
  ·unfold zbN;rw [uP,zR rfl hil,sb,zyr hf hw,sb,zcg (by omega),sb,uR];rfl
  ·rw [ih (i+1) _ (by omega) (by simp;omega),yk hil,xU,yu]
theorem zFE {fuel:Nat} (hf:10<=fuel) {k:Int} {l:List Int} (h:∀w∈l,0<=w/\w<=18446744073709551615) (hl:l.length<=1048576):zgt fuel k l=some (l.flatMap (sPut k)):=by
 unfold zgt;have h1:=zBZ hf (k:=k) h hl l.length 0 [] (by omega) (by simp);have h':zdE fuel k l [] 0=some ([]++(l.drop 0).flatMap (sPut k)):=h1;rw [h',sb];simp
abbrev Vw:=zM
def zvw:Vw:=⟨zrec,0,false⟩
def zE (m:Mes) (i:Int):Fld:=m.Fields.getD i.toNat ⟨[],0,0,false,false,0⟩
def vw (m:Mes) (n w:Int):Int⊕(Int×Bool):=
 if fldI m n<0 then .inr (-1,false)
 else if (zE m (fldI m n)).Repeated=true/\kNum (zE m (fldI m n)).Kind=true/\w=2 then .inr (fldI m n,true)
 else if zbO (zE m (fldI m n)).Kind=false\/zaM (zE m (fldI m n)).Kind≠w then .inl 6 else .inr (fldI m n,false)
theorem zhq (m:Mes) (n:Int):fldI m n= -1/\(∀f∈m.Fields,f.Number≠n)\/∃(i:Nat) (h:i<m.Fields.length),fldI m n=i/\m.Fields[i].Number=n/\∀(j:Nat) (h:j<m.Fields.length),j<i->m.Fields[j].Number≠n:=by
 unfold fldI;cases h:m.Fields.findIdx? (fun f:Fld=>f.Number==n) with
 | none=>
  left;rw [pM] at h;exact ⟨zns (pM.2 h),fun f hf=>by simpa using h f hf⟩
 | some i=>
  right;have h':=h;rw [pN] at h;obtain ⟨hi,hp,hj⟩:=h;exact ⟨i,hi,znt h',by simpa using hp,fun j hjl hji=>by simpa using hj j hji⟩
theorem zcX {m:Mes} {i:Nat} (h:i<m.Fields.length):zE m (i:Int)=m.Fields[i]:=by
 unfold zE;rw [xJ,qN,xP h];rfl
theorem zhj (m:Mes) (n w:Int):vw m n w= .inl 6\/vw m n w= .inr (-1,false)/\fldI m n= -1\/∃(i:Nat) (run:Bool),vw m n w= .inr ((i:Int),run)/\fldI m n=i/\i<m.Fields.length:=by
 unfold vw;rcases zhq m n with ⟨h,_⟩| ⟨i,hi,h,_⟩
 ·right;left;rw [h,xy (by omega)];exact ⟨rfl,rfl⟩
 ·rw [h,xx (by omega)];split
  ·right;right;exact ⟨i,true,rfl,rfl,hi⟩
  ·split
   ·left;rfl
   ·right;right;exact ⟨i,false,rfl,rfl,hi⟩
def zch (m:Mes) (b:List UInt8) (at5:Int):Vw×Int:=
 if (zdG b at5).2≠0 then (zvw,(zdG b at5).2) else match vw m (zdG b at5).1.Number (zdG b at5).1.Wire with
  | .inl c=>(zvw,c)
  | .inr (i,run)=>(⟨(zdG b at5).1,i,run⟩,0)
theorem zks {m:Mes} (hm:m.Fields.length<=1152921504606846976) {b:List UInt8} (hb:b.length<=1048576) (at5:Int):zeY m b at5=some (zch m b at5):=by
 unfold zeY zch;rw [zFC hb,sb];by_cases h:(zdG b at5).2=0
 ·rw [itF (by simpa using h),xx (by simpa using h),zvS hm,sb]
  generalize (zdG b at5).1=r
  unfold vw;rcases zhq m r.Number with ⟨hf,_⟩| ⟨i,hi,hf,_⟩
  ·rw [hf,uM,xy (by decide)]
  ·rw [hf,uO,xx (by omega),zR rfl hi,sb,zcX hi,zkr,sb,ztV,sb,zrf,sb];have e:(if (m.Fields[i]).Repeated=true then (if kNum (m.Fields[i]).Kind=true then some (r.Wire==2) else some false) else some false)=some (decide ((m.Fields[i]).Repeated=true/\kNum (m.Fields[i]).Kind=true/\r.Wire=2)):=by
    cases (m.Fields[i]).Repeated
    ·rfl
    ·cases kNum (m.Fields[i]).Kind
     ·rfl
     ·by_cases hw:r.Wire=2<;>simp [hw]
   rw [e,sb];by_cases h1:(m.Fields[i]).Repeated=true/\kNum (m.Fields[i]).Kind=true/\r.Wire=2
   ·rw [itT (xO h1),xy h1]
   ·rw [itF (xV h1),xx h1];have e2:(if (!zbO (m.Fields[i]).Kind)=true then some true else some (zaM (m.Fields[i]).Kind !=r.Wire))=some (decide (zbO (m.Fields[i]).Kind=false\/zaM (m.Fields[i]).Kind≠r.Wire)):=by
     cases zbO (m.Fields[i]).Kind
     ·rfl
     ·by_cases hw:zaM (m.Fields[i]).Kind=r.Wire<;>simp [hw]
    rw [e2,sb];by_cases h2:zbO (m.Fields[i]).Kind=false\/zaM (m.Fields[i]).Kind≠r.Wire
    ·rw [itT (xO h2),xy h2];rfl
    ·rw [itF (xV h2),xx h2]
 ·rw [itT (by simpa using h),xy h];rfl
def vws (m:Mes) (e:Option (Nat×Int)):List Rec->List Vw×Option (Int×Int)
 | []=>([],e.map fun p=>((p.1:Int),p.2))
 | r::l=>match vw m r.Number r.Wire with
  | .inl c=>([],some (r.From,c))
  | .inr (i,run)=>(⟨r,i,run⟩::(vws m e l).1,(vws m e l).2)
def vwR (r:List Vw×Option (Int×Int)):List Vw×Int×Int:=match r.2 with
 | none=>(r.1,0,0)
 | some (p,c)=>([],p,c)
def zeK (m:Mes) (b:List UInt8):List Vw×Int×Int:=vwR (vws m (spl 0 b).2 (spl 0 b).1)
theorem zDO {m:Mes} (hm:m.Fields.length<=1152921504606846976) {b:List UInt8} (hb:b.length<=1048576) (base:Nat) (l:List UInt8):∀(out:List Vw),base<=b.length->l=b.drop base->out.length<=base->
  zcZ b m out base=some (match (vws m (spl base l).2 (spl base l).1).2 with| none=> .inl (out++(vws m (spl base l).2 (spl base l).1).1)| some (p,c)=> .inr (p,c)):=by
 refine zis (fun base l=>∀(out:List Vw),base<=b.length->l=b.drop base->out.length<=base->
  zcZ b m out base=some (match (vws m (spl base l).2 (spl base l).1).2 with| none=> .inl (out++(vws m (spl base l).2 (spl base l).1).1)| some (p,c)=> .inr (p,c))) ?_ ?_ ?_ base l
 ·intro base out hbase hl ho;have:b.length<=base:=by have:=congrArg List.length hl;simp at this;omega
  rw [zgR];simp only [vws,pF,yA];refine zgY ?_;unfold zaO;rw [uQ]
 ·intro base l c hl h hc out hbase hld ho;subst hld;have ka:base<b.length:=by have:=qf.2 hl;simp at this;omega
  rw [zhW hl h];simp only [vws,qu];refine zgY ?_;unfold zaO;have e:zdG b base=(zrec,c):=by unfold zdG;rw [xx (by omega),xJ,h]
  have e2:zch m b base=(zvw,c):=by unfold zch;rw [e,xy (by simp only;omega)]
  rw [uP,zks hm hb,sb,e2,uP]
 ·intro base l n w a t hl h _ g1 g2 g3 ih out hbase hld ho;subst hld;simp only [yd] at g3;have ka:base<b.length:=by omega
  rw [zfk hl h];have e:zdG b base=(⟨n,w,base,(base+a:Nat),(base+t:Nat)⟩,0):=by
   unfold zdG;rw [xx (by omega),xJ,h];push_cast;rfl
  rw [vws];rcases zhj m n w with hv| ⟨hv,_⟩| ⟨i,run,hv,_,hi⟩
  ·have e2:zch m b base=(zvw,6):=by unfold zch;rw [e];simp only [yL,yS,yo,hv]
   simp only [hv];refine zgY ?_;unfold zaO;rw [uP,zks hm hb,sb,e2,uM]
  ·have e2:zch m b base=(⟨⟨n,w,base,(base+a:Nat),(base+t:Nat)⟩, -1,false⟩,0):=by unfold zch;rw [e];simp only [yL,yS,yo,hv]
   simp only [hv];refine (zjb (out':=out++[⟨⟨n,w,base,(base+a:Nat),(base+t:Nat)⟩, -1,false⟩]) (atv':=((base+t:Nat):Int)) ?_).trans ?_
   ·unfold zaO;rw [uP,zks hm hb,sb,e2,uN,zcg (by simp;omega),sb]
   ·rw [ih _ (by omega) (by rw [yi]) (by simp;omega)];simp only [yu,qO]
  ·have e2:zch m b base=(⟨⟨n,w,base,(base+a:Nat),(base+t:Nat)⟩,i,run⟩,0):=by unfold zch;rw [e];simp only [yL,yS,yo,hv]
   simp only [hv];refine (zjb (out':=out++[⟨⟨n,w,base,(base+a:Nat),(base+t:Nat)⟩,i,run⟩]) (atv':=((base+t:Nat):Int)) ?_).trans ?_
   ·unfold zaO;rw [uP,zks hm hb,sb,e2,uN,zcg (by simp;omega),sb]
   ·rw [ih _ (by omega) (by rw [yi]) (by simp;omega)];simp only [yu,qO]
theorem zDN {m:Mes} (hm:m.Fields.length<=1152921504606846976) {b:List UInt8} (hb:b.length<=1048576):zgX m b=some (zeK m b):=by
 unfold zgX;have h:=zDO hm hb 0 b [] (xI _) rfl (xC _);have h':zcZ b m [] 0=_:=h;rw [h',sb];unfold zeK vwR;cases (vws m (spl 0 b).2 (spl 0 b).1).2 with
 | none=>rfl
 | some p=>rfl
def zK (s:List Mes) (i:Int):Mes:=s.getD i.toNat ⟨[],[]⟩
theorem zdW {s:List Mes} {i:Nat} (h:i<s.length):zK s (i:Int)=s[i]:=by
 unfold zK;rw [xJ,qN,xP h];rfl
def valB (b:List UInt8) (r:Rec):List UInt8:=(b.drop r.At.toNat).take (r.To.toNat - r.At.toNat)
abbrev zno:=Option (Int->List UInt8->Option (Int×Int))
def zmA (f:Fld) (run:Bool) (sub:zno) (r:Rec) (v:List UInt8):Option (Int×Int):=
 if run=true then (if (zkT f.Kind v).2≠0 then some (r.From,(zkT f.Kind v).2) else none)
 else if f.Kind=15/\zfq v=false then some (r.From,7)
 else if f.Kind=17 then (match sub with
  | none=>some (r.From,8)
  | some g=>match g f.Of v with
   | some (p,c)=>some (r.At+p,c)
   | none=>none)
 else none
def zdN (m:Mes) (sub:zno) (b:List UInt8) (r:Rec):Option (Int×Int):=match vw m r.Number r.Wire with
 | .inl c=>some (r.From,c)
 | .inr (i,run)=>if i<0 then none else zmA (zE m i) run sub r (valB b r)
def zcG (m:Mes) (sub:zno) (b:List UInt8) (x:List Rec×Option (Nat×Int)):Option (Int×Int):=match x.1.findSome? (zdN m sub b) with
 | some p=>some p
 | none=>x.2.map fun p=>((p.1:Int),p.2)
def zaq (s:List Mes):Nat->Int->List UInt8->Option (Int×Int)
 | 0,k,b=>zcG (zK s k) none b (spl 0 b)
 | d+1,k,b=>zcG (zK s k) (some (zaq s d)) b (spl 0 b)
def zuD (g:Int->List UInt8->Option (Int×Int)):Prop:=∀k v p c,g k v=some (p,c)->3<=c/\c<=8/\0<=p/\p<v.length
theorem zHC (k:Int) :(zkT k b).2=0\/(zkT k b).2=2/\kNum k=false\/(zkT k b).2=3\/(zkT k b).2=4:=by
 unfold zkT;have:=zDF k b;split
 ·rename_i h;exact .inr (.inl ⟨rfl,h⟩)
 ·split
  ·exact .inl rfl
  ·rename_i h;simp only;omega
theorem zFU (h:vw m n w= .inr (i,true)):kNum (zE m i).Kind=true/\(zE m i).Repeated=true/\w=2:=by
 unfold vw at h;split at h
 ·cases h
 ·split at h
  ·rename_i h1;cases h;exact ⟨h1.2.1,h1.1,h1.2.2⟩
  ·split at h<;>cases h
theorem zyT (hr:r.At=((base+a:Nat):Int)) (ht:r.To=((base+t:Nat):Int)) (h:base+t<=b.length) (hat:a<=t):(valB b r).length=t - a:=by
 unfold valB;rw [hr,ht];simp;omega
theorem zAN {m:Mes} {sub:zno} {b:List UInt8} (hg:∀g,sub=some g->zuD g) {n w:Int} {base a t:Nat} (h1:1<=a) (hat:a<=t) (ht:base+t<=b.length) {p c:Int}
  (h:zdN m sub b ⟨n,w,base,(base+a:Nat),(base+t:Nat)⟩=some (p,c)):3<=c/\c<=8/\0<=p/\p<b.length:=by
 unfold zdN at h;rcases zhj m n w with hv| ⟨hv,_⟩| ⟨i,run,hv,_,hi⟩
 ·simp only [hv] at h;cases h;(try dsimp only);omega
 ·simp only [hv] at h;rw [xy (by omega)] at h;cases h
 ·simp only [hv] at h;rw [xx (by omega)] at h;unfold zmA at h;split at h
  ·rename_i hr;subst hr;have hk:=zFU hv;split at h
   ·cases h;have:=zHC (zE m i).Kind (b:=valB b ⟨n,w,base,(base+a:Nat),(base+t:Nat)⟩);rw [hk.1] at this;simp only [Bool.true_eq_false,and_false,false_or] at this
    (try dsimp only)
    omega
   ·cases h
  ·split at h
   ·cases h;(try dsimp only);omega
   ·split at h
    ·cases sub with
     | none=>simp only at h;cases h;(try dsimp only);omega
     | some g=>
      simp only at h;have hl:=zyT (b:=b) (r:=⟨n,w,base,(base+a:Nat),(base+t:Nat)⟩) rfl rfl ht hat;cases hgv:g (zE m i).Of (valB b ⟨n,w,base,(base+a:Nat),(base+t:Nat)⟩) with
      | none=>rw [hgv] at h;cases h
      | some q=>
       obtain ⟨q1,q2⟩:=q;rw [hgv] at h;have:=hg g rfl _ _ _ _ hgv;cases h
       (try dsimp only)
       omega
    ·cases h
theorem zAe {m:Mes} {sub:zno} {b:List UInt8} (hg:∀g,sub=some g->zuD g) (base:Nat) (l:List UInt8):l=b.drop base->base<=b.length->∀p c,zcG m sub b (spl base l)=some (p,c)->3<=c/\c<=8/\0<=p/\p<b.length:=by
 refine zis (fun base l=>l=b.drop base->base<=b.length->∀p c,zcG m sub b (spl base l)=some (p,c)->3<=c/\c<=8/\0<=p/\p<b.length) ?_ ?_ ?_ base l
 ·intro base _ _ p c h;unfold zcG at h;rw [zgR] at h;cases h
 ·intro base l c' hl h hc hld hb p c h2;have ka:base<b.length:=by subst hld;have:=qf.2 hl;simp at this;omega
  unfold zcG at h2;rw [zhW hl h] at h2;simp only [List.findSome?_nil,qu] at h2;cases h2;omega
 ·intro base l n w a t hl h _ g1 g2 g3 ih hld hb p c h2;have hbl:base+t<=b.length:=by subst hld;simp at g3;omega
  unfold zcG at h2 ih;rw [zfk hl h] at h2;simp only [uy] at h2;cases hs:zdN m sub b ⟨n,w,base,(base+a:Nat),(base+t:Nat)⟩ with
  | some q=>rw [hs] at h2;cases h2;exact zAN hg g1 g2 hbl hs
  | none=>
   rw [hs] at h2;exact ih (by rw [hld,yi]) hbl p c h2
theorem zmv (s:List Mes):∀(d:Nat),zuD (zaq s d)
 | 0=>fun k v p c h=>zAe (fun g hg=>by cases hg) 0 v rfl (xI _) p c h
 | d+1=>fun k v p c h=>zAe (fun g hg=>by cases hg;exact zmv s d) 0 v rfl (xI _) p c h
theorem zxy {s:List Mes} {k:Nat} {m:Mes} (hk:∃h:k<s.length,s[k]=m) (hm:m.Fields.length<=1152921504606846976) {b:List UInt8} (hb:b.length<=1048576) {d:Int} (hd:0<=d/\d<=64) {sub:zno}
  {rec:List zc->Int->List UInt8->Int->Option (Int×Int)} (hg:∀g,sub=some g->zuD g) (h0:sub=none↔d=0)
  (hs:∀g,sub=some g->∀f∈m.Fields,f.Kind=17->∀v:List UInt8,v.length<=b.length->rec s f.Of v (d - 1)=some ((g f.Of v).getD (0,0))) (base:Nat) (l:List UInt8):
  l=b.drop base->base<=b.length->zbW b d k rec s base=some (match zcG m sub b (spl base l) with| none=> .inl ()| some p=> .inr p):=by
 obtain ⟨hkl,hke⟩:=hk;have e1:idx s (k:Int)=some m:=by rw [zR rfl hkl,hke]
 refine zis (fun base l=>l=b.drop base->base<=b.length->zbW b d k rec s base=some (match zcG m sub b (spl base l) with| none=> .inl ()| some p=> .inr p)) ?_ ?_ ?_ base l
 ·intro base hl hbase;have:b.length<=base:=by have:=congrArg List.length hl;simp at this;omega
  unfold zcG;rw [zgR];refine zgd ?_;unfold zaZ;rw [uQ];rfl
 ·intro base l c hl h hc hld hbase;subst hld;have ka:base<b.length:=by have:=qf.2 hl;simp at this;omega
  unfold zcG;rw [zhW hl h];refine zgd ?_;unfold zaZ;have e:zdG b base=(zrec,c):=by unfold zdG;rw [xx (by omega),xJ,h]
  have e2:zch m b base=(zvw,c):=by unfold zch;rw [e,xy (by simp only;omega)]
  rw [uP,e1,sb,zks hm hb,sb,e2,uP];rfl
 ·intro base l n w a t hl h _ g1 g2 g3 ih hld hbase;subst hld;simp only [yd] at g3;have ka:base<b.length:=by omega
  have e:zdG b base=(⟨n,w,base,(base+a:Nat),(base+t:Nat)⟩,0):=by
   unfold zdG;rw [xx (by omega),xJ,h];push_cast;rfl
  have ih':=ih (by rw [yi]) (by omega)
  have hfr:zcG m sub b (spl base (b.drop base))=match zdN m sub b ⟨n,w,base,(base+a:Nat),(base+t:Nat)⟩ with
    | some p=>some p
    | none=>zcG m sub b (spl (base+t) ((b.drop base).drop t)):=by
   unfold zcG;rw [zfk hl h];simp only [uy];cases zdN m sub b ⟨n,w,base,(base+a:Nat),(base+t:Nat)⟩<;>rfl
  have hcut:cut b ((base+a:Nat):Int) ((base+t:Nat):Int)=some (valB b ⟨n,w,base,(base+a:Nat),(base+t:Nat)⟩):=by
   rw [zhn rfl rfl (by omega) (by omega)];unfold valB;simp only [xJ]
  have hvl:=zyT (b:=b) (r:=⟨n,w,base,(base+a:Nat),(base+t:Nat)⟩) rfl rfl (by omega) g2
  -- the body, by what the record's fault is
  have kF:zaZ b d k rec s base=match zdN m sub b ⟨n,w,base,(base+a:Nat),(base+t:Nat)⟩ with
    | some p=>some (.inr (.inr p))
    | none=>some (.inl ((base+t:Nat):Int)):=by
   unfold zaZ zdN;rw [uP,e1,sb,zks hm hb,sb];rcases zhj m n w with hv| ⟨hv,_⟩| ⟨i,run,hv,_,hi⟩
   ·have e2:zch m b base=(zvw,6):=by unfold zch;rw [e];simp only [yL,yS,yo,hv]
    rw [e2,uM];simp only [hv]
   ·have e2:zch m b base=(⟨⟨n,w,base,(base+a:Nat),(base+t:Nat)⟩, -1,false⟩,0):=by unfold zch;rw [e];simp only [yL,yS,yo,hv]
    rw [e2,uN];simp only [hv];rw [hcut,sb,uN,xy (by omega)]
   ·have e2:zch m b base=(⟨⟨n,w,base,(base+a:Nat),(base+t:Nat)⟩,i,run⟩,0):=by unfold zch;rw [e];simp only [yL,yS,yo,hv]
    have hfm:zE m (i:Int)∈m.Fields:=by rw [zcX hi];exact xF hi
    rw [e2,uN];simp only [hv];rw [hcut,sb,itT (by simp),sb,zR rfl hi,sb,xx (show ¬((i:Int)<0) by omega),<-zcX hi]
    generalize hvv:valB b ⟨n,w,base,(base+a:Nat),(base+t:Nat)⟩=v at hvl|-
    generalize zE m (i:Int)=f at hfm|-
    unfold zmA;cases run
    ·rw [itF (c:=false) rfl,xx (show ¬(false=true) by simp)];have e15:(if (f.Kind==15)=true then (zdt v>>=fun kg=>some (!kg)) else some false)=some (decide (f.Kind=15/\zfq v=false)):=by
      rw [zDU (by omega),sb];by_cases h15:f.Kind=15
      ·rw [itT (by simpa using h15)];cases zfq v<;>simp [h15]
      ·rw [itF (by simpa using h15)];simp [h15]
     rw [e15,sb];by_cases h15:f.Kind=15/\zfq v=false
     ·rw [itT (xO h15),xy h15]
     ·rw [itF (xV h15),xx h15];by_cases kh:f.Kind=17
      ·rw [itT (by simpa using kh),xy kh];cases hsub:sub with
       | none=>
        have:=h0.1 hsub;rw [itT (by simpa using this)]
       | some g=>
        have hd0:d≠0:=fun hh=>by rw [h0.2 hh] at hsub;cases hsub
        rw [itF (by simpa using hd0),zr (x:=d - 1) (by omega),hs g hsub f hfm kh v (by omega),sb];cases hgv:g f.Of v with
        | none=>simp only [Option.getD_none,hgv];rw [uN]
        | some q=>
         obtain ⟨q1,q2⟩:=q;have:=hg g hsub _ _ _ _ hgv;simp only [pD,hgv];rw [uP,uR]
      ·rw [itF (by simpa using kh),xx kh]
    ·rw [itT (c:=true) rfl,xy (show true=true from rfl),zyo _ (by omega),sb];by_cases he:(zkT f.Kind v).2=0
     ·rw [itF (by simpa using he),xx (show ¬((zkT f.Kind v).2≠0) from fun hh=>hh he)]
     ·rw [itT (by simpa using he),xy he]
  rw [hfr];cases hst:zdN m sub b ⟨n,w,base,(base+a:Nat),(base+t:Nat)⟩ with
  | some p=>rw [hst] at kF;rw [zgd kF]
  | none=>rw [hst] at kF;rw [znh kF,ih']
theorem zzt {s:List Mes} (hr:zfE s):∀(d fuel:Nat),d<=64->d<fuel->∀(k:Nat) (b:List UInt8),k<s.length->b.length<=1048576->
  zbP fuel s k b d=some ((zaq s d k b).getD (0,0)):=by
 intro d
 induction d with
 | zero=>
  intro fuel hd hf k b hk hb;obtain ⟨fuel,rfl⟩:∃q,fuel=q+1:=⟨fuel - 1,by omega⟩;have h:=zxy (s:=s) (k:=k) (m:=s[k]) ⟨hk,rfl⟩ (by have:=hr.few _ (xF hk);omega) hb (d:=0) (by omega) (sub:=none) (rec:=zbP fuel) (fun g hg=>by cases hg) (by simp) (fun g hg=>by cases hg) 0 b rfl (xI _);have h':zbW b 0 k (zbP fuel) s 0=_:=h;show zcF (zbP fuel) s k b 0=_;unfold zcF;rw [h',sb,zaq,zdW hk];cases zcG s[k] none b (spl 0 b)<;>rfl
 | succ d ih=>
  intro fuel hd hf k b hk hb;obtain ⟨fuel,rfl⟩:∃q,fuel=q+1:=⟨fuel - 1,by omega⟩
  have h:=zxy (s:=s) (k:=k) (m:=s[k]) ⟨hk,rfl⟩ (by have:=hr.few _ (xF hk);omega) hb (d:=((d+1:Nat):Int)) (by omega) (sub:=some (zaq s d)) (rec:=zbP fuel)
   (fun g hg=>by cases hg;exact zmv s d) (by constructor<;>intro h<;>first| cases h| omega)
   (fun g hg f hf17 kh v hv=>by
    cases hg;have hof:=(hr.fld _ (xF hk) f hf17).sub kh;obtain ⟨q,hq⟩:∃q:Nat,f.Of=q:=⟨f.Of.toNat,by omega⟩;have e:((d+1:Nat):Int) - 1=(d:Int):=by omega
    rw [e,hq];exact ih fuel (by omega) (by omega) q v (by omega) (by omega)) 0 b rfl (xI _)
  have h':zbW b ((d+1:Nat):Int) k (zbP fuel) s 0=_:=h;show zcF (zbP fuel) s k b ((d+1:Nat):Int)=_;unfold zcF;rw [h',sb,zaq,zdW hk];cases zcG s[k] (some (zaq s d)) b (spl 0 b)<;>rfl
def argS (s:List Mes) (root d:Int):Int:=if zhT s=false then 9 else if root<0\/root>=s.length\/d<0\/d>64 then 2 else 0
theorem zFy {s:List Mes} (hw:WS s) (root d:Int):zgu s root d=some (argS s root d):=by
 unfold zgu argS;rw [zzu hw,sb];cases h:zhT s
 ·rw [itT (c:= !false) rfl,xy (show false=false from rfl)]
 ·rw [itF (c:= !true) rfl,xx (show ¬(true=false) by simp)];by_cases h2:root<0\/root>=s.length\/d<0\/d>64
  ·rw [itT (by simpa using h2),xy h2]
  ·rw [uQ,xx h2]
def zfZ (s:List Mes) (root:Int) (b:List UInt8) (d:Int):Int×Int:=if argS s root d≠0 then (0,argS s root d) else (zaq s d.toNat root b).getD (0,0)
theorem zlM (h:argS s root d=0):zfE s/\0<=root/\root<s.length/\0<=d/\d<=64:=by
 unfold argS at h;split at h
 ·omega
 ·rename_i h1;split at h
  ·omega
  ·rename_i h2;exact ⟨zAF (by simpa using h1),by omega⟩
theorem zzs {s:List Mes} (hw:WS s) (root:Int) {b:List UInt8} (hb:b.length<=1048576) (d:Int) {fuel:Nat} (hf:64<fuel):zfS fuel s root b d=some (zfZ s root b d):=by
 unfold zfS zfZ;rw [zFy hw,sb];by_cases h:argS s root d=0
 ·obtain ⟨hr,h1,h2,h3,h4⟩:=zlM h;obtain ⟨k,rfl⟩:∃k:Nat,root=k:=⟨root.toNat,by omega⟩;obtain ⟨e,rfl⟩:∃k:Nat,d=k:=⟨d.toNat,by omega⟩;rw [itF (by simpa using h),xx (by simpa using h),zzt hr e fuel (by omega) (by omega) k b (by omega) hb,sb,xJ]
 ·rw [itT (by simpa using h),xy h]
def is11 (s:List Mes) (root:Int) (b:List UInt8) (d:Int):Bool:=(zfZ s root b d).2==0
theorem zFA {s:List Mes} (hw:WS s) (root:Int) {b:List UInt8} (hb:b.length<=1048576) (d:Int) {fuel:Nat} (hf:64<fuel):zhz fuel s root b d=some (is11 s root b d):=by
 unfold zhz;rw [zzs hw root hb d hf,sb];rfl
theorem zgZ :zcG m sub b x=none↔(∀r∈x.1,zdN m sub b r=none)/\x.2=none:=by
 unfold zcG;cases h:x.1.findSome? (zdN m sub b) with
 | some p=>
  refine ⟨(fun h'=>nomatch h'),fun ⟨h1,_⟩=>?_⟩;obtain ⟨r,hr,hs⟩:=List.exists_of_findSome?_eq_some h;rw [h1 r hr] at hs;cases hs
 | none=>
  rw [List.findSome?_eq_none_iff] at h;cases hx:x.2 with
  | none=>exact ⟨fun _=>⟨h,rfl⟩,fun _=>rfl⟩
  | some p=>exact ⟨(fun h'=>nomatch h'),fun ⟨_,h2⟩=>nomatch h2⟩
theorem zwb (z:List UInt8) (h0:0<=r.To) (h:r.To<=b.length):valB (b++z) r=valB b r:=by
 unfold valB;by_cases ha:r.At.toNat<=b.length
 ·rw [pl ha,uk (by simp;omega)]
 ·have e:r.To.toNat - r.At.toNat=0:=by omega
  rw [e,yx,yx]
theorem ztj (a b:List UInt8) (h0:0<=r.At) (h1:r.At<=r.To):valB (a++b) (zmM a.length r)=valB b r:=by
 unfold valB zmM;simp only;have e1:(r.At+(a.length:Int)).toNat=a.length+r.At.toNat:=by omega
 have e2:(r.To+(a.length:Int)).toNat - (a.length+r.At.toNat)=r.To.toNat - r.At.toNat:=by omega
 rw [e1,e2,<-yi,pP]
theorem zyH (hn:r'.Number=r.Number) (hw:r'.Wire=r.Wire) (hv:valB b' r'=valB b r):zdN m sub b' r'=none↔zdN m sub b r=none:=by
 unfold zdN;rw [hn,hw,hv];cases vw m r.Number r.Wire with
 | inl c=>simp
 | inr p=>
  simp only;by_cases hi:p.1<0
  ·simp [hi]
  ·rw [xx hi,xx hi];unfold zmA;by_cases hr:p.2=true
   ·rw [xy hr,xy hr];by_cases he:(zkT (zE m p.1).Kind (valB b r)).2≠0
    ·rw [xy he,xy he];simp
    ·rw [xx he,xx he]
   ·rw [xx hr,xx hr];by_cases h15:(zE m p.1).Kind=15/\zfq (valB b r)=false
    ·rw [xy h15,xy h15];simp
    ·rw [xx h15,xx h15];by_cases kh:(zE m p.1).Kind=17
     ·rw [xy kh,xy kh];cases sub with
      | none=>simp
      | some g=>simp only;cases g (zE m p.1).Of (valB b r)<;>simp
     ·rw [xx kh,xx kh]
theorem zvh (base:Nat) (l:List UInt8):∀r∈(spl base l).1,(base:Int)<=r.From/\r.From<r.At/\r.At<=r.To/\r.To<=base+l.length:=by
 refine zis (fun base l=>∀r∈(spl base l).1,(base:Int)<=r.From/\r.From<r.At/\r.At<=r.To/\r.To<=base+l.length) ?_ ?_ ?_ base l
 ·intro base r hr;rw [zgR] at hr;cases hr
 ·intro base l c hl h _ r hr;rw [zhW hl h] at hr;cases hr
 ·intro base l n w a t hl h _ g1 g2 g3 ih r hr;rw [zfk hl h] at hr;rcases xD.1 hr with rfl| hr
  ·simp only;omega
  ·have:=ih r hr;simp only [yd] at this;omega
theorem zvJ (z:List UInt8) (h:zcG m sub a (spl 0 a)=none):zcG m sub (a++z) (spl 0 (a++z))=none↔zcG m sub z (spl 0 z)=none:=by
 rw [zgZ] at h;have hap:=zyG z 0 a h.2;have hsh:=zAK a.length 0 z;rw [xQ] at hap hsh;rw [hsh] at hap;rw [zgZ,zgZ,hap];simp only [xG,xH];constructor
 ·rintro ⟨h1,h2⟩;refine ⟨fun r hr=>?_,by cases hz:(spl 0 z).2 with| none=>rfl| some p=>rw [hz] at h2;cases h2⟩;have hb:=zvh 0 z r hr;have:=h1 (zmM a.length r) (.inr ⟨r,hr,rfl⟩);exact (zyH (r:=r) (r':=zmM a.length r) rfl rfl (ztj a z (by omega) (by omega))).1 this
 ·rintro ⟨h1,h2⟩;refine ⟨fun r hr=>?_,by rw [h2];rfl⟩;rcases hr with hr| ⟨r,hr,rfl⟩
  ·have hb:=zvh 0 a r hr;exact (zyH (r:=r) (r':=r) rfl rfl (zwb z (by omega) (by omega))).2 (h.1 r hr)
  ·have hb:=zvh 0 z r hr;exact (zyH (r:=r) (r':=zmM a.length r) rfl rfl (ztj a z (by omega) (by omega))).2 (h1 r hr)
theorem zlF (s:List Mes) (d:Nat) (k:Int) (z:List UInt8) (h:zaq s d k a=none):zaq s d k (a++z)=none↔zaq s d k z=none:=by
 cases d with
 | zero=>exact zvJ z h
 | succ d=>exact zvJ z h
theorem zxF :is11 s root b d=true↔argS s root d=0/\zaq s d.toNat root b=none:=by
 unfold is11 zfZ;by_cases h:argS s root d=0
 ·rw [xx (by simpa using h)];cases hf:zaq s d.toNat root b with
  | none=>simp [h]
  | some p=>
   obtain ⟨p,c⟩:=p;have:=zmv s d.toNat root b p c hf;simp only [pD,h,qb];simp;omega
 ·rw [xy h];simp [h]
abbrev zen:=List Int
def begB (way w:zen):Bool:=w.isPrefixOf way
def zMR:zen->zen->Bool
 | [],b=> !b.isEmpty
 | _::_,[]=>false
 | x::a,y::b=>if x=y then zMR a b else decide (x<y)
def hasB (ways:List zen) (way:zen):Bool:=ways.any fun v=> !v.isEmpty&&begB way v
def zpG (m:List zen) (n:Int):Bool:=m.any fun v=>v==[n]
def zNL (n:Int):zen->Option zen
 | x::y::v=>if x=n then some (y::v) else none
 | _=>none
def zoe (m:List zen) (n:Int):List zen:=m.filterMap (zNL n)
def znH (s:List Mes) (root:Int):Int:=if zhT s=false then 9 else if root<0\/root>=s.length then 2 else 0
theorem zCD (h:znH s root=0):zfE s/\0<=root/\root<s.length:=by
 unfold znH at h;split at h
 ·omega
 ·rename_i h1;split at h
  ·omega
  ·exact ⟨zAF (by simpa using h1),by omega⟩
abbrev Msg:=zd
abbrev Vlu:=zb
mutual
def szM:Msg->Nat
 | ⟨vs,_⟩=>1+szVs vs
def szVs:List Vlu->Nat
 | []=>0
 | v::l=>szV v+szVs l
def szV:Vlu->Nat
 | ⟨_,_,_,s⟩=>1+szMs s
def szMs:List Msg->Nat
 | []=>0
 | x::l=>szM x+szMs l
end
theorem zdO (x:Msg):szM x=1+szVs x.Values:=by cases x;rw [szM]
theorem zgK (v:Vlu):szV v=1+szMs v.Subs:=by cases v;rw [szV]
theorem zfX :∀{l:List Vlu},v∈l->szV v<=szVs l
 | [],h=>by cases h
 | u::l,h=>by
  rw [szVs];rcases xD.1 h with rfl| h
  ·omega
  ·have:=zfX h;omega
theorem zfW :∀{l:List Msg},x∈l->szM x<=szMs l
 | [],h=>by cases h
 | u::l,h=>by
  rw [szMs];rcases xD.1 h with rfl| h
  ·omega
  ·have:=zfW h;omega
mutual
/-- Within the reach of what a law is handed. -/
def bdM:Msg->Prop
 | ⟨vs,u⟩=>vs.length*80<=140737488351232/\(u.length*16<=140737488351232/\∀t∈u,t.length<=140737488351232)/\bdVs vs
def bdVs:List Vlu->Prop
 | []=>True
 | v::l=>bdV v/\bdVs l
def bdV:Vlu->Prop
 | ⟨n,w,t,s⟩=>(Lit.int .i64 n).wf=true/\(w.length*8<=140737488351232/\∀x∈w,0<=x/\x<=18446744073709551615)/\(t.length*16<=140737488351232/\∀x∈t,x.length<=140737488351232)/\s.length*48<=140737488351232/\bdMs s
def bdMs:List Msg->Prop
 | []=>True
 | x::l=>bdM x/\bdMs l
end
theorem zke (x:Msg):bdM x↔x.Values.length*80<=140737488351232/\(x.Unknown.length*16<=140737488351232/\∀t∈x.Unknown,t.length<=140737488351232)/\bdVs x.Values:=by cases x;simp only [bdM]
theorem ziR (v:Vlu):bdV v↔(Lit.int .i64 v.Number).wf=true/\(v.Words.length*8<=140737488351232/\∀x∈v.Words,0<=x/\x<=18446744073709551615)/\(v.Texts.length*16<=140737488351232/\∀x∈v.Texts,x.length<=140737488351232)/\v.Subs.length*48<=140737488351232/\bdMs v.Subs:=by cases v;simp only [bdV]
theorem zfG:∀{l:List Vlu},bdVs l↔∀v∈l,bdV v
 | []=>by simp [bdVs]
 | v::l=>by rw [bdVs,zfG (l:=l)];simp
theorem zfF:∀{l:List Msg},bdMs l↔∀v∈l,bdM v
 | []=>by simp [bdMs]
 | v::l=>by rw [bdMs,zfF (l:=l)];simp
section
open Classical
noncomputable def zpN {α:Type} (x y:α):Bool:=decide (x=y)
theorem ziq {α:Type} {x y:α}:zpN x y=true↔x=y:=by unfold zpN;simp
end
def zcs (v:Vlu):Nat:=v.Words.length+v.Texts.length+v.Subs.length
theorem zFB (hb:v.Words.length<=140737488351232/\v.Texts.length<=140737488351232/\v.Subs.length<=140737488351232):zgv v=some ((zcs v:Nat):Int):=by
 unfold zgv zcs;rw [zr (x:=(v.Words.length:Int)+(v.Texts.length:Int)) (by omega),uR];push_cast;rfl
mutual
def dM:Msg->Nat
 | ⟨vs,_⟩=>dVs vs
def dVs:List Vlu->Nat
 | []=>0
 | v::l=>max (dV v) (dVs l)
def dV:Vlu->Nat
 | ⟨_,_,_,s⟩=>dMs s
def dMs:List Msg->Nat
 | []=>0
 | x::l=>max (1+dM x) (dMs l)
end
theorem zJa (x:Msg):dM x=dVs x.Values:=by cases x;rw [dM]
theorem zGh (v:Vlu):dV v=dMs v.Subs:=by cases v;rw [dV]
theorem zBu :∀{l:List Vlu},v∈l->dV v<=dVs l
 | [],h=>by cases h
 | u::l,h=>by
  rw [dVs];rcases xD.1 h with rfl| h
  ·omega
  ·have:=zBu h;omega
theorem zGg :∀{l:List Msg},x∈l->1+dM x<=dMs l
 | [],h=>by cases h
 | u::l,h=>by
  rw [dMs];rcases xD.1 h with rfl| h
  ·omega
  ·have:=zGg h;omega
structure Th where
 fi:Int
 run:Bool
 val:List UInt8
 raw:List UInt8
def rawB (b:List UInt8) (r:Rec):List UInt8:=(b.drop r.From.toNat).take (r.To.toNat - r.From.toNat)
def thOf (b:List UInt8) (t:Vw):Th:=⟨t.Field,t.Run,valB b t.R,rawB b t.R⟩
def ths (m:Mes) (b:List UInt8):List Th:=(zeK m b).1.map (thOf b)
def wt:List Th->Nat
 | []=>0
 | t::l=>t.val.length+1+wt l
theorem zrD:∀(l:List Th),l.length<=wt l
 | []=>by simp [wt]
 | t::l=>by have:=zrD l;simp only [xR,wt];omega
theorem zvA :∀{l:List Th},t∈l->t.val.length+1<=wt l
 | [],h=>by cases h
 | u::l,h=>by
  rw [wt];rcases xD.1 h with rfl| h
  ·omega
  ·have:=zvA h;omega
theorem zHp :∀{l:List Rec} {t:Vw},t∈(vws m e l).1->t.R∈l
 | [],t,h=>by simp [vws] at h
 | r::l,t,h=>by
  rw [vws] at h;cases hv:vw m r.Number r.Wire with
  | inl c=>rw [hv] at h;simp at h
  | inr p=>
   rw [hv] at h;rcases xD.1 h with rfl| h
   ·exact xz
   ·exact xA _ (zHp h)
theorem zHz (h:t∈(zeK m b).1):t.R∈(spl 0 b).1:=by
 unfold zeK vwR at h;split at h
 ·exact zHp h
 ·simp at h
theorem zxa (h:t∈(zeK m b).1):0<=t.R.From/\t.R.From<t.R.At/\t.R.At<=t.R.To/\t.R.To<=b.length:=by
 have:=zvh 0 b _ (zHz h);simpa using this
theorem zOh (b:List UInt8):∀(base:Nat) (l:List UInt8),l=b.drop base->base<=b.length->wt ((vws m e (spl base l).1).1.map (thOf b))<=l.length:=by
 intro base l;refine zis (fun base l=>l=b.drop base->base<=b.length->wt ((vws m e (spl base l).1).1.map (thOf b))<=l.length) ?_ ?_ ?_ base l
 ·intro base _ _;rw [zgR];simp [vws,wt]
 ·intro base l c hl h _ _ _;rw [zhW hl h];simp [vws,wt]
 ·intro base l n w a t hl h _ g1 g2 g3 ih hld hbase;have ke:l.length=b.length - base:=by rw [hld];simp
  have ih':=ih (by rw [hld,yi]) (by omega);rw [zfk hl h,vws];cases hv:vw m n w with
  | inl c=>simp [wt]
  | inr p=>
   simp only [xL,wt,thOf,yd] at ih'|-;rw [zyT (b:=b) (base:=base) (a:=a) (t:=t) rfl rfl (by omega) g2];omega
theorem zth (m:Mes) (b:List UInt8):wt (ths m b)<=b.length:=by
 unfold ths zeK vwR;split
 ·exact zOh b 0 b rfl (xI _)
 ·simp [wt]
abbrev zfv:=List UInt8×Bool×List Int×List Str×List Msg
def stp (g:Int->List UInt8->Msg) (f:Fld) (a:zfv) (t:Th):zfv:=
 if t.run=true then (a.1,true,(if f.Repeated=true then a.2.2.1 else [])++(zbC f.Kind t.val).1,(if f.Repeated=true then a.2.2.2.1 else []),a.2.2.2.2)
 else if kNum f.Kind=true then (a.1,true,(if f.Repeated=true then a.2.2.1 else [])++[(zmL f.Kind t.val).1],(if f.Repeated=true then a.2.2.2.1 else []),a.2.2.2.2)
 else if f.Kind=17/\f.Repeated=true then (a.1,true,(if f.Repeated=true then a.2.2.1 else []),(if f.Repeated=true then a.2.2.2.1 else []),a.2.2.2.2++[g f.Of t.val])
 else if f.Kind=17 then (a.1++t.val,true,(if f.Repeated=true then a.2.2.1 else []),(if f.Repeated=true then a.2.2.2.1 else []),a.2.2.2.2)
 else (a.1,true,(if f.Repeated=true then a.2.2.1 else []),(if f.Repeated=true then a.2.2.2.1 else [])++[t.val],a.2.2.2.2)
def accF (g:Int->List UInt8->Msg) (f:Fld) (i:Int):zfv->List Th->zfv
 | a,[]=>a
 | a,t::l=>accF g f i (if t.fi=i then stp g f a t else a) l
def wA (a:zfv):Nat:=a.1.length+a.2.2.1.length+a.2.2.2.1.length+a.2.2.2.2.length
def wJ (a:zfv):Nat:=a.1.length+(if a.2.1=true then 1 else 0)
theorem zsf (k:Int) (v:List UInt8):(zbC k v).1.length<=v.length:=by
 unfold zbC;have:=zBU k v;split
 ·simp
 ·split
  ·simpa using this
  ·simp
theorem zKC (g:Int->List UInt8->Msg) (f:Fld) (a:zfv) (t:Th):wA (stp g f a t)<=wA a+t.val.length+1/\wJ (stp g f a t)<=wJ a+t.val.length+1:=by
 have h1:(if f.Repeated=true then a.2.2.1 else []).length<=a.2.2.1.length:=by split<;>simp
 have h2:(if f.Repeated=true then a.2.2.2.1 else []).length<=a.2.2.2.1.length:=by split<;>simp
 have h3:=zsf f.Kind t.val;unfold stp wA wJ;split
 ·simp only [xE,yj];omega
 ·split
  ·simp only [xE,yH,yj];omega
  ·split
   ·simp only [xE,yH,yj];omega
   ·split
    ·simp only [xE,yj];omega
    ·simp only [xE,yH,yj];omega
theorem zuE (g:Int->List UInt8->Msg) (f:Fld) (i:Int):∀(a:zfv) (l:List Th),wA (accF g f i a l)<=wA a+wt l/\wJ (accF g f i a l)<=wJ a+wt l
 | a,[]=>by simp [accF,wt]
 | a,t::l=>by
  have h:=zuE g f i (if t.fi=i then stp g f a t else a) l;have h2:=zKC g f a t;rw [accF,wt];split at h
  ·rename_i ht;rw [xy ht];omega
  ·rename_i ht;rw [xx ht];omega
def acc0:zfv:=([],false,[],[],[])
def valO (g:Int->List UInt8->Msg) (f:Fld) (q:zfv):Vlu:=⟨f.Number,q.2.2.1,q.2.2.2.1,if q.2.1=true/\f.Kind=17/\f.Repeated=false then [g f.Of q.1] else q.2.2.2.2⟩
def zoQ (g:Int->List UInt8->Msg) (m:Mes) (l:List Th) (o:List Int):List Vlu:=(o.map fun i=>valO g (zE m i) (accF g (zE m i) i acc0 l)).filter fun v=>decide (0<zcs v)
def unkO (l:List Th):List Str:=(l.filter fun t=>decide (t.fi<0)).map (·.raw)
def zkY (g:Int->List UInt8->Msg) (m:Mes) (l:List Th):Msg:=⟨zoQ g m l (zcL (zbD m) m.Fields.length),unkO l⟩
def ofN (s:List Mes):Nat->Int->List UInt8->Msg
 | 0,_,_=>⟨[],[]⟩
 | n+1,k,b=>zkY (ofN s n) (zK s k) (ths (zK s k) b)
theorem zIu (a:zfv) (h:f.Kind=17->g f.Of t.val=g' f.Of t.val):stp g f a t=stp g' f a t:=by
 unfold stp;by_cases kh:f.Kind=17
 ·rw [h kh]
 ·rw [xx (c:=f.Kind=17/\_) (fun hh=>kh hh.1),xx (c:=f.Kind=17/\_) (fun hh=>kh hh.1)]
theorem zwY (i:Int):∀(a:zfv) {l:List Th},(f.Kind=17->∀v:List UInt8,v.length+1<=wt l->g f.Of v=g' f.Of v)->accF g f i a l=accF g' f i a l
 | a,[],h=>rfl
 | a,t::l,h=>by
  rw [accF,accF,zIu a (fun kh=>h kh t.val (by rw [wt];omega))];exact zwY i _ (fun kh v hv=>h kh v (by rw [wt];omega))
theorem zFR (i:Int) (h:f.Kind=17->∀v:List UInt8,v.length+1<=wt l->g f.Of v=g' f.Of v):valO g f (accF g f i acc0 l)=valO g' f (accF g' f i acc0 l):=by
 rw [zwY i acc0 h];have hw:=(zuE g' f i acc0 l).2;unfold valO;by_cases hc:(accF g' f i acc0 l).2.1=true/\f.Kind=17/\f.Repeated=false
 ·rw [xy hc,xy hc,h hc.2.1 _ (by
   have h0:wJ acc0=0:=rfl;rw [h0,wJ,xy hc.1] at hw;omega)]
 ·rw [xx hc,xx hc]
theorem zvO (h:∀k:Int,∀v:List UInt8,v.length+1<=wt l->g k v=g' k v):zkY g m l=zkY g' m l:=by
 unfold zkY zoQ;congr 2;exact qX fun i _=>zFR i (fun _ v hv=>h _ v hv)
theorem zsV (s:List Mes):∀(n n':Nat) (k:Int) (b:List UInt8),b.length<n->b.length<n'->ofN s n k b=ofN s n' k b
 | 0,n',k,b,h,_=>by omega
 | n+1,0,k,b,_,h=>by omega
 | n+1,n'+1,k,b,h,h'=>by
  rw [ofN,ofN];have hw:=zth (zK s k) b;exact zvO fun k v hv=>zsV s n n' k v (by omega) (by omega)
def ofM (s:List Mes) (k:Int) (b:List UInt8):Msg:=ofN s (b.length+1) k b
theorem zLP {s:List Mes} {n:Nat} {k:Int} {b:List UInt8} (h:b.length<n):ofN s n k b=ofM s k b:=zsV s _ _ _ _ h (Nat.lt_succ_self _)
theorem zBS (s:List Mes) (k:Int) (b:List UInt8):ofM s k b=zkY (ofM s) (zK s k) (ths (zK s k) b):=by
 have hw:=zth (zK s k) b;unfold ofM;rw [ofN];exact zvO fun k v hv=>zsV s _ _ _ _ (by omega) (Nat.lt_succ_self _)
theorem zHn (b:List UInt8) (r:Rec) (h:r.At<=r.To) (h0:0<=r.From) (h1:r.From<r.At) (h2:r.To<=b.length):(valB b r).length+1<=b.length:=by
 unfold valB;simp;omega
theorem zyq {g:Int->List UInt8->Msg} {rec:List zc->Int->List UInt8->Option zd} {sv:List Mes} {b:List UInt8} (hb:b.length<=1048576) {f:Fld}
  (hg:f.Kind=17->∀v:List UInt8,v.length+1<=b.length->rec sv f.Of v=some (g f.Of v)) {rv:List Vw×Int×Int} (hr:∀t∈rv.1,0<=t.R.From/\t.R.From<t.R.At/\t.R.At<=t.R.To/\t.R.To<=b.length)
  (hL:rv.1.length<=1048576) {w8:List Int} {i:Nat} {ix:Int} (hi:idx w8 (i:Int)=some ix):∀(c k:Nat) (a:zfv),k+c=rv.1.length->wA a+wt ((rv.1.drop k).map (thOf b))<=1048576->
  zev b i rec rv w8 sv f a.1 a.2.1 k a.2.2.1 a.2.2.2.1 a.2.2.2.2=some (accF g f ix a ((rv.1.drop k).map (thOf b)))
 | 0,k,a,hk,hw=>by
  have e:rv.1.drop k=[]:=yq (by omega);rw [e];refine zpi ?_;unfold zbR;rw [uQ];rfl
 | c+1,k,a,hk,hw=>by
  have hkl:k<rv.1.length:=by omega
  rw [yk hkl,xL] at hw|-;rw [wt] at hw
  generalize ht:rv.1[k]=t at hw|-
  have hx:idx rv.1 (k:Int)=some t:=by rw [zR rfl hkl,ht]
  have htr:=hr t (by rw [<-ht];exact xF hkl);obtain ⟨r1,r2,r3,r4⟩:=htr;have hcut:cut b t.R.At t.R.To=some (valB b t.R):=by
   obtain ⟨x,hx1⟩:∃x:Nat,t.R.At=x:=⟨t.R.At.toNat,by omega⟩;obtain ⟨y,hy1⟩:∃x:Nat,t.R.To=x:=⟨t.R.To.toNat,by omega⟩;rw [zhn hx1 hy1 (by omega) (by omega)];unfold valB;rw [hx1,hy1];simp only [xJ]
  have hvl:=zHn b t.R r3 r1 r2 r4;have hst:=(zKC g f a (thOf b t)).1
  have ih:=zyq hb hg hr hL hi c (k+1) (if t.Field=ix then stp g f a (thOf b t) else a) (by omega)
   (by split<;>omega)
  have hwk:i64.wrap ((k:Int)+1)=((k+1:Nat):Int):=by rw [uR];push_cast;rfl
  rw [accF];have hfi:(thOf b t).fi=t.Field:=rfl;rw [hfi,<-ih];by_cases hf:t.Field=ix
  ·rw [xy hf];refine zjy ?_;unfold zbR;have hp:(if (!f.Repeated)=true then some (([]:List Int),([]:List Str)) else some (a.2.2.1,a.2.2.2.1))=some ((if f.Repeated=true then a.2.2.1 else []),(if f.Repeated=true then a.2.2.2.1 else [])):=by
    cases f.Repeated<;>rfl
   rw [uP,hx,sb,hi,sb,itF (by simpa using hf),sb,sb,hcut,sb,hp,sb,sb,hwk];have l1:(if f.Repeated=true then a.2.2.1 else []).length<=a.2.2.1.length:=by split<;>simp
   have l2:(if f.Repeated=true then a.2.2.2.1 else []).length<=a.2.2.2.1.length:=by split<;>simp
   have hval:(thOf b t).val=valB b t.R:=rfl;have kw:(thOf b t).run=t.Run:=rfl;rw [hval] at hw;unfold wA at hw;unfold stp;rw [hval,kw];by_cases hrn:t.Run=true
   ·have hl:=zsf f.Kind (valB b t.R);rw [itT hrn,xy hrn,zDS _ (by omega),sb,zcg (by simp only;omega),sb]
   ·rw [itF (by simpa using hrn),xx hrn,zkr,sb];by_cases hn:kNum f.Kind=true
    ·rw [itT hn,xy hn,zvU _ (by omega),sb,zcg (by simp only [yH];omega),sb]
    ·rw [itF (by simpa using hn),xx hn];by_cases h1:f.Kind=17/\f.Repeated=true
     ·rw [itT (by simpa using h1),xy h1,hg h1.1 _ hvl,sb,zcg (by simp only [yH];omega),sb]
     ·rw [itF (by simpa using h1),xx h1];by_cases h2:f.Kind=17
      ·rw [itT (by simpa using h2),xy h2,zcg (by omega),sb]
      ·rw [itF (by simpa using h2),xx h2,zcg (by simp only [yH];omega),sb]
  ·rw [xx hf];refine zjy ?_;unfold zbR;rw [uP,hx,sb,hi,sb,itT (by simpa using hf),hwk]
theorem zIA {g:Int->List UInt8->Msg} {f:Fld} {q:zfv} (h:wA q<=1048576):(valO g f q).Words.length<=1048576/\(valO g f q).Texts.length<=1048576/\(valO g f q).Subs.length<=1048577:=by
 unfold wA at h;unfold valO;simp only;refine ⟨by omega,by omega,?_⟩;split
 ·simp
 ·omega
theorem ztW {g:Int->List UInt8->Msg} {rec:List zc->Int->List UInt8->Option zd} {sv:List Mes} {root:Int} {m:Mes} (hm:idx sv root=some m) {b:List UInt8} (hb:b.length<=1048576)
  (hg:∀f∈m.Fields,f.Kind=17->∀v:List UInt8,v.length+1<=b.length->rec sv f.Of v=some (g f.Of v)) {rv:List Vw×Int×Int} (hr:∀t∈rv.1,0<=t.R.From/\t.R.From<t.R.At/\t.R.At<=t.R.To/\t.R.To<=b.length)
  (hw:wt (rv.1.map (thOf b))<=b.length) {o:List Int} (ho:∀x∈o,0<=x/\x<m.Fields.length) (hol:o.length<=1048576):∀(c i:Nat) (out:List Vlu),i+c=o.length->out.length<=i->
  zeu b rec root rv o sv i out=some (out++zoQ g m (rv.1.map (thOf b)) (o.drop i))
 | 0,i,out,hi,hout=>by
  have e:o.drop i=[]:=yq (by omega);rw [e];refine zph ?_;unfold zbQ;rw [uQ];simp [zoQ]
 | c+1,i,out,hi,hout=>by
  have hil:i<o.length:=by omega
  rw [yk hil];have hxm:=ho _ (xF hil)
  generalize hx:o[i]=ix at hxm|-
  have hix:idx o (i:Int)=some ix:=by rw [zR rfl hil,hx]
  obtain ⟨n,hn⟩:∃n:Nat,ix=n:=⟨ix.toNat,by omega⟩;have hnl:n<m.Fields.length:=by omega
  have hfx:idx m.Fields ix=some (zE m ix):=by subst hn;rw [zR rfl hnl,zcX hnl]
  have hfm:zE m ix∈m.Fields:=by rw [hn,zcX hnl];exact xF _
  have hL:rv.1.length<=1048576:=by have:=zrD (rv.1.map (thOf b));simp only [yN] at this;omega
  have w0:wA acc0=0:=rfl;have j0:wJ acc0=0:=rfl;have hl2:=zyq hb (hg _ hfm) hr hL hix rv.1.length 0 acc0 (by omega) (by rw [w0,xN];omega);have hl2':zev b i rec rv o sv (zE m ix) [] false 0 [] [] []=_:=hl2;rw [xN] at hl2';have haw:=zuE g (zE m ix) ix acc0 (rv.1.map (thOf b))
  generalize hq:accF g (zE m ix) ix acc0 (rv.1.map (thOf b))=q at hl2' haw
  have hmany:=zIA (g:=g) (f:=zE m ix) (q:=q) (by omega);have hv:zoQ g m (rv.1.map (thOf b)) (ix::o.drop (i+1))=(if 0<zcs (valO g (zE m ix) q) then [valO g (zE m ix) q] else [])++zoQ g m (rv.1.map (thOf b)) (o.drop (i+1)):=by
   unfold zoQ;rw [xL,hq,yK];by_cases h:0<zcs (valO g (zE m ix) q)
   ·rw [xy (by simpa using h),xy h];rfl
   ·rw [xx (by simpa using h),xx h];rfl
  have kF:zbQ b rec root rv o sv i out=some (.inl (((i+1:Nat):Int),out++(if 0<zcs (valO g (zE m ix) q) then [valO g (zE m ix) q] else []))):=by
   unfold zbQ;rw [uP,hm,sb,hix,sb,hfx,sb,hl2',sb];have hp:(if (q.2.1&&((zE m ix).Kind==17&& !(zE m ix).Repeated))=true then (rec sv (zE m ix).Of q.1>>=fun rv7=>some ([rv7]:List zd)) else some q.2.2.2.2)=some (valO g (zE m ix) q).Subs:=by
    unfold valO;by_cases hc:q.2.1=true/\(zE m ix).Kind=17/\(zE m ix).Repeated=false
    ·rw [itT (by simp [hc.1,hc.2.1,hc.2.2]),hg _ hfm hc.2.1 _ (by
      have:=haw.2;rw [j0,wJ,xy hc.1] at this;omega),sb]
     simp only;rw [xy hc]
    ·rw [itF (by
      cases h1:q.2.1
      ·rfl
      ·cases h2:(zE m ix).Repeated
       ·have:(zE m ix).Kind≠17:=fun h3=>hc ⟨h1,h3,h2⟩
        simp [this]
       ·simp)]
     simp only;rw [xx hc]
   rw [hp,sb];have he:(⟨(zE m ix).Number,q.2.2.1,q.2.2.2.1,(valO g (zE m ix) q).Subs⟩:Vlu)=valO g (zE m ix) q:=rfl;rw [he,zFB ⟨by omega,by omega,by omega⟩,sb,uR];by_cases h:0<zcs (valO g (zE m ix) q)
   ·rw [itT (by simpa using h),xy h,zcg (by simp only [yH];omega),sb];push_cast;rfl
   ·rw [itF (by simpa using h),xx h,yA];push_cast;rfl
  rw [zpg kF,ztW hm hb hg hr hw ho hol c (i+1) _ (by omega) (by
   rw [xE];split<;>simp<;>omega),hv,yu]
theorem zob {b:List UInt8} (hb:b.length<=1048576) {rv:List Vw×Int×Int} (hr:∀t∈rv.1,0<=t.R.From/\t.R.From<t.R.At/\t.R.At<=t.R.To/\t.R.To<=b.length) (hL:rv.1.length<=1048576):
  ∀(c k:Nat) (out:List Str),k+c=rv.1.length->out.length<=k->zew b rv k out=some (out++unkO ((rv.1.drop k).map (thOf b)))
 | 0,k,out,hk,hout=>by
  have e:rv.1.drop k=[]:=yq (by omega);rw [e];refine zpj ?_;unfold zba;rw [uQ];simp [unkO]
 | c+1,k,out,hk,hout=>by
  have hkl:k<rv.1.length:=by omega
  rw [yk hkl,xL]
  generalize ht:rv.1[k]=t
  have hx:idx rv.1 (k:Int)=some t:=by rw [zR rfl hkl,ht]
  obtain ⟨r1,r2,r3,r4⟩:=hr t (by rw [<-ht];exact xF hkl);have hcut:cut b t.R.From t.R.To=some (rawB b t.R):=by
   obtain ⟨x,hx1⟩:∃x:Nat,t.R.From=x:=⟨t.R.From.toNat,by omega⟩;obtain ⟨y,hy1⟩:∃x:Nat,t.R.To=x:=⟨t.R.To.toNat,by omega⟩;rw [zhn hx1 hy1 (by omega) (by omega)];unfold rawB;rw [hx1,hy1];simp only [xJ]
  have hwk:i64.wrap ((k:Int)+1)=((k+1:Nat):Int):=by rw [uR];push_cast;rfl
  have hfi:(thOf b t).fi=t.Field:=rfl;have hraw:(thOf b t).raw=rawB b t.R:=rfl;by_cases hf:t.Field<0
  ·have kF:zba b rv k out=some (.inl (((k+1:Nat):Int),out++[rawB b t.R])):=by
    unfold zba;rw [uP,hx,sb,itT (by simpa using hf),sb,sb,hcut,sb,zcg (by simp only [yH];omega),sb,hwk]
   rw [zjz kF,zob hb hr hL c (k+1) _ (by omega) (by simp;omega)];unfold unkO;rw [yK,xy (by rw [hfi];simpa using hf),xL,hraw,yu];rfl
  ·have kF:zba b rv k out=some (.inl (((k+1:Nat):Int),out)):=by
    unfold zba;rw [uP,hx,sb,itF (by simpa using hf),hwk]
   rw [zjz kF,zob hb hr hL c (k+1) _ (by omega) (by omega)];unfold unkO;rw [yK,xx (by rw [hfi];simpa using hf)]
theorem zvT {s:List Mes} (hs:zfE s):∀(fuel k:Nat) (b:List UInt8),k<s.length->b.length<=1048576->b.length<fuel->zee fuel s k b=some (ofN s fuel k b)
 | 0,k,b,_,_,h=>by omega
 | fuel+1,k,b,hk,hb,hf=>by
  have hm:idx s (k:Int)=some (zK s k):=by rw [zR rfl hk,zdW hk]
  have hmm:zK s (k:Int)∈s:=by rw [zdW hk];exact xF hk
  have hfew:=hs.few _ hmm;have hg:∀f∈(zK s (k:Int)).Fields,f.Kind=17->∀v:List UInt8,v.length+1<=b.length->zee fuel s f.Of v=some (ofN s fuel f.Of v):=fun f hfm kh v hv=>by
   have hof:=(hs.fld _ hmm f hfm).sub kh;obtain ⟨q,hq⟩:∃q:Nat,f.Of=q:=⟨f.Of.toNat,by omega⟩;rw [hq];exact zvT hs fuel q v (by omega) (by omega) (by omega)
  have hr:∀t∈(zeK (zK s (k:Int)) b).1,0<=t.R.From/\t.R.From<t.R.At/\t.R.At<=t.R.To/\t.R.To<=b.length:=fun t ht=>zxa ht
  have hw:wt ((zeK (zK s (k:Int)) b).1.map (thOf b))<=b.length:=zth _ _;have hL:(zeK (zK s (k:Int)) b).1.length<=1048576:=by have:=zrD ((zeK (zK s (k:Int)) b).1.map (thOf b));simp only [yN] at this;omega
  have h1:=ztW (root:=(k:Int)) hm hb hg hr hw (o:=zcL (zbD (zK s (k:Int))) (zK s (k:Int)).Fields.length) (fun x hx=>zfC.1 hx) (by rw [zsa];omega) _ 0 [] (xQ _) (xC _);have h1':zeu b (zee fuel) k (zeK (zK s (k:Int)) b) (zcL (zbD (zK s (k:Int))) (zK s (k:Int)).Fields.length) s 0 []=_:=h1;have h3:=zob hb hr hL _ 0 [] (xQ _) (xC _);have h3':zew b (zeK (zK s (k:Int)) b) 0 []=_:=h3;show zgw (zee fuel) s k b=_;unfold zgw;rw [hm,sb,zDN (by omega) hb,sb,sb,zCa (by omega),sb,h1',sb,h3',sb,ofN];rfl
theorem zFD {s:List Mes} (hs:zfE s) {k:Nat} (hk:k<s.length) {b:List UInt8} (hb:b.length<=1048576) {fuel:Nat} (hf:b.length<fuel):zee fuel s k b=some (ofM s k b):=by
 rw [zvT hs fuel k b hk hb hf,zLP hf]
mutual
/-- How much a meaning is, all together. -/
def wgM:Msg->Nat
 | ⟨vs,u⟩=>1+(u.map fun t=>1+t.length).sum+wgVs vs
def wgVs:List Vlu->Nat
 | []=>0
 | v::l=>wgV v+wgVs l
def wgV:Vlu->Nat
 | ⟨_,w,t,s⟩=>1+w.length+(t.map fun t=>1+t.length).sum+wgMs s
def wgMs:List Msg->Nat
 | []=>0
 | x::l=>wgM x+wgMs l
end
theorem zjR (x:Msg):wgM x=1+(x.Unknown.map fun t=>1+t.length).sum+wgVs x.Values:=by cases x;rw [wgM]
theorem ziX (v:Vlu):wgV v=1+v.Words.length+(v.Texts.map fun t=>1+t.length).sum+wgMs v.Subs:=by cases v;rw [wgV]
theorem zrA :∀{l:List Vlu},v∈l->wgV v<=wgVs l
 | [],h=>by cases h
 | u::l,h=>by
  rw [wgVs];rcases xD.1 h with rfl| h
  ·omega
  ·have:=zrA h;omega
theorem zln :∀{l:List Msg},x∈l->wgM x<=wgMs l
 | [],h=>by cases h
 | u::l,h=>by
  rw [wgMs];rcases xD.1 h with rfl| h
  ·omega
  ·have:=zln h;omega
theorem zpD :∀{l:List Str},t∈l->1+t.length<=(l.map fun t=>1+t.length).sum
 | [],h=>by cases h
 | u::l,h=>by
  rw [xL,yE];rcases xD.1 h with rfl| h
  ·omega
  ·have:=zpD h;omega
theorem zwT:∀{l:List Str},l.length<=(l.map fun t=>1+t.length).sum
 | []=>by simp
 | u::l=>by
  rw [xL,yE,xR];have:=zwT (l:=l);omega
theorem zEx:∀(l:List Vlu),l.length<=wgVs l
 | []=>by simp [wgVs]
 | u::l=>by rw [wgVs,xR,ziX];have:=zEx l;omega
theorem zzb:∀(l:List Msg),l.length<=wgMs l
 | []=>by simp [wgMs]
 | u::l=>by rw [wgMs,xR,zjR];have:=zzb l;omega
def unkR (m:Mes) (u:Str):Bool:=(zdG u 0).2==0&&(zdG u 0).1.To==(u.length:Int)&&decide (fldI m (zdG u 0).1.Number<0)
def zlo (f:Fld) (w:Int):Bool:=kNum f.Kind&&zbE f.Kind w==w
def znC (f:Fld) (t:Str):Bool:=f.Kind==16|| (f.Kind==15&&zfq t)
def zsx (f:Fld) (v:Vlu):Bool:=decide (0<zcs v)&&(decide (zcs v<=1)|| f.Repeated)&&zbO f.Kind
mutual
def zaP (s:List Mes):Msg->Int->Bool
 | ⟨vs,u⟩,k=>decide (0<=k/\k<s.length)&&zgy s vs (zK s k) none&&u.all (unkR (zK s k))
def zgy (s:List Mes):List Vlu->Mes->Option Int->Bool
 | [],_,_=>true
 | v::l,m,p=>decide (0<=fldI m v.Number)&&p.all (fun n=>decide (n<v.Number))&&zjB s v (zE m (fldI m v.Number))&&zgy s l m (some v.Number)
def zjB (s:List Mes):Vlu->Fld->Bool
 | ⟨n,w,t,sub⟩,f=>zsx f ⟨n,w,t,sub⟩&&w.all (zlo f)&&t.all (znC f)&&zrW s sub f
def zrW (s:List Mes):List Msg->Fld->Bool
 | [],_=>true
 | x::l,f=>(f.Kind==17&&zaP s x f.Of)&&zrW s l f
end
theorem zlW (s:List Mes) (x:Msg) (k:Int):zaP s x k=(decide (0<=k/\k<s.length)&&zgy s x.Values (zK s k) none&&x.Unknown.all (unkR (zK s k))):=by cases x;rw [zaP]
theorem ztz (s:List Mes) (v:Vlu) (f:Fld):zjB s v f=(zsx f v&&v.Words.all (zlo f)&&v.Texts.all (znC f)&&zrW s v.Subs f):=by cases v;rw [zjB]
theorem zmI (s:List Mes) (f:Fld):∀(l:List Msg),zrW s l f=l.all fun x=>f.Kind==17&&zaP s x f.Of
 | []=>by rw [zrW];rfl
 | x::l=>by rw [zrW,zmI s f l];rfl
mutual
/-- No list is long. -/
def smM:Msg->Prop
 | ⟨vs,u⟩=>vs.length<=1048576/\(u.length<=1048576/\∀t∈u,t.length<=1048576)/\smVs vs
def smVs:List Vlu->Prop
 | []=>True
 | v::l=>smV v/\smVs l
def smV:Vlu->Prop
 | ⟨n,w,t,s⟩=>w.length<=1048576/\(t.length<=1048576/\∀x∈t,x.length<=1048576)/\s.length<=1048576/\smMs s
def smMs:List Msg->Prop
 | []=>True
 | x::l=>smM x/\smMs l
end
theorem zyE (x:Msg):smM x↔x.Values.length<=1048576/\(x.Unknown.length<=1048576/\∀t∈x.Unknown,t.length<=1048576)/\smVs x.Values:=by cases x;simp only [smM]
theorem zyF (v:Vlu):smV v↔v.Words.length<=1048576/\(v.Texts.length<=1048576/\∀x∈v.Texts,x.length<=1048576)/\v.Subs.length<=1048576/\smMs v.Subs:=by cases v;simp only [smV]
theorem zoK:∀{l:List Vlu},smVs l↔∀v∈l,smV v
 | []=>by simp [smVs]
 | v::l=>by rw [smVs,zoK (l:=l)];simp
theorem zoJ:∀{l:List Msg},smMs l↔∀v∈l,smM v
 | []=>by simp [smMs]
 | v::l=>by rw [smMs,zoJ (l:=l)];simp
def zKE (s:List Mes):Nat->zno
 | 0=>none
 | e+1=>some (zaq s e)
theorem zpo (s:List Mes) (d:Nat) (k:Int) (b:List UInt8):zaq s d k b=zcG (zK s k) (zKE s d) b (spl 0 b):=by cases d<;>rfl
theorem zqG (s:List Mes) (d:Nat) (k:Int):zaq s d k []=none:=by rw [zpo,zgR];rfl
def vwG (m:Mes) (r:Rec):Int×Bool:=match vw m r.Number r.Wire with
 | .inl _=>(-1,false)
 | .inr p=>p
def thR (m:Mes) (b:List UInt8) (r:Rec):Th:=⟨(vwG m r).1,(vwG m r).2,valB b r,rawB b r⟩
theorem zKU :∀{l:List Rec},(∀r∈l,∃p,vw m r.Number r.Wire= .inr p)->vws m none l=(l.map fun r=>⟨r,(vwG m r).1,(vwG m r).2⟩,none)
 | [],_=>rfl
 | r::l,h=>by
  obtain ⟨p,hp⟩:=h r xz;rw [vws,hp,zKU fun x hx=>h x (xA _ hx)];simp only [xL,vwG,hp]
theorem zMg (h:zdN m sub b r=none):∃p,vw m r.Number r.Wire= .inr p:=by
 unfold zdN at h;cases hv:vw m r.Number r.Wire with
 | inl c=>rw [hv] at h;cases h
 | inr p=>exact ⟨p,rfl⟩
theorem zyN (h:zaq s d k b=none):ths (zK s k) b=(spl 0 b).1.map (thR (zK s k) b):=by
 rw [zpo,zgZ] at h;unfold ths zeK;rw [h.2,zKU fun r hr=>zMg (h.1 r hr)];unfold vwR;simp only [qy];rfl
theorem zDK {b:List UInt8} (z:List UInt8) {r:Rec} (h0:0<=r.To) (h:r.To<=b.length):rawB (b++z) r=rawB b r:=by
 unfold rawB;by_cases ha:r.From.toNat<=b.length
 ·rw [pl ha,uk (by simp;omega)]
 ·have e:r.To.toNat - r.From.toNat=0:=by omega
  rw [e,yx,yx]
theorem zFv (a b:List UInt8) {r:Rec} (h0:0<=r.From) (h1:r.From<=r.To):rawB (a++b) (zmM a.length r)=rawB b r:=by
 unfold rawB zmM;simp only;have e1:(r.From+(a.length:Int)).toNat=a.length+r.From.toNat:=by omega
 have e2:(r.To+(a.length:Int)).toNat - (a.length+r.From.toNat)=r.To.toNat - r.From.toNat:=by omega
 rw [e1,e2,<-yi,pP]
theorem zFN {s:List Mes} {d:Nat} {k:Int} {a z:List UInt8} (ha:zaq s d k a=none) (hz:zaq s d k z=none):ths (zK s k) (a++z)=ths (zK s k) a++ths (zK s k) z:=by
 rw [zyN ((zlF s d k z ha).2 hz),zyN ha,zyN hz];rw [zpo,zgZ] at ha;have hap:=zyG z 0 a ha.2;have hsh:=zAK a.length 0 z;rw [xQ] at hap hsh;rw [hap,hsh];simp only [yV,qy];congr 1
 ·refine qX fun r hr=>?_
  have:=zvh 0 a r hr;unfold thR;rw [zwb z (by omega) (by omega),zDK z (by omega) (by omega)]
 ·refine qX fun r hr=>?_
  have:=zvh 0 z r hr;show thR _ _ (zmM a.length r)=_;unfold thR;rw [ztj a z (by omega) (by omega),zFv a z (by omega) (by omega)];rfl
structure OkT (s:List Mes) (d:Nat) (m:Mes) (t:Th):Prop where
 fi:t.fi= -1\/0<=t.fi/\t.fi<m.Fields.length
 unk:t.fi<0->unkR m t.raw=true
 run:0<=t.fi->t.run=true->kNum (zE m t.fi).Kind=true/\(zE m t.fi).Repeated=true/\(zkT (zE m t.fi).Kind t.val).2=0
 one:0<=t.fi->t.run=false->zbO (zE m t.fi).Kind=true/\zdF (zaM (zE m t.fi).Kind) t.val=true/\((zE m t.fi).Kind=15->zfq t.val=true)/\((zE m t.fi).Kind=17->∃e,d=e+1/\zaq s e (zE m t.fi).Of t.val=none)
theorem zMW (h:zaq s d k b=none):∀t∈ths (zK s k) b,OkT s d (zK s k) t:=by
 intro t ht;rw [zyN h] at ht;obtain ⟨r,hr,rfl⟩:=xH.1 ht;obtain ⟨n,w,f,a,u,hre,hrec,h1,h2,h3⟩:=zMe b 0 b rfl (xI _) r hr;rw [zpo,zgZ] at h;have hs:=h.1 r hr
 generalize zK s k=m at hs|-
 have hraw:rawB b r=(b.drop f).take u:=by
  unfold rawB;rw [hre];simp only [xJ];rw [show f+u - f=u by omega]
 have hval:valB b r=((b.drop f).drop a).take (u - a):=by
  unfold valB;rw [hre];simp only [xJ];rw [yi,show f+u - (f+a)=u - a by omega]
 have hfit:=(zFx hrec).1;have hn:r.Number=n:=by rw [hre]
 have hw:r.Wire=w:=by rw [hre]
 have hrl:((b.drop f).take u).length=u:=by simp;omega
 have hnx:zdG ((b.drop f).take u) 0=(⟨n,w,0,0+(a:Int),0+(u:Int)⟩,0):=by
  unfold zdG;rw [xx (by rw [hrl];omega)];simp only [Int.toNat_zero,xN,zIk hrec]
 unfold zdN at hs;rcases zhj m r.Number r.Wire with hv| ⟨hv,hf⟩| ⟨i,run,hv,hfi,hi⟩
 ·rw [hv] at hs;cases hs
 ·have e:vwG m r=(-1,false):=by unfold vwG;rw [hv]
  refine ⟨.inl (by simp only [thR,e]),fun _=>?_,fun hh=>by simp only [thR,e] at hh;omega,fun hh=>by simp only [thR,e] at hh;omega⟩;simp only [thR,hraw];unfold unkR;rw [hnx,hrl];simp only [beq_self_eq_true,yc,Int.zero_add];rw [<-hn,hf];rfl
 ·have e:vwG m r=((i:Int),run):=by unfold vwG;rw [hv]
  rw [hv] at hs;simp only at hs;rw [xx (by omega)] at hs;refine ⟨.inr (by simp only [thR,e];omega),fun hh=>by simp only [thR,e] at hh;omega,fun _ hrn=>?_,fun _ hrn=>?_⟩
  ·simp only [thR,e] at hrn|-;subst hrn;obtain ⟨v1,v2,_⟩:=zFU hv;refine ⟨v1,v2,?_⟩;unfold zmA at hs;rw [xy rfl] at hs;by_cases he:(zkT (zE m i).Kind (valB b r)).2=0
   ·exact he
   ·rw [xy he] at hs;cases hs
  ·simp only [thR,e] at hrn|-;subst hrn;have hk:zbO (zE m i).Kind=true/\zaM (zE m i).Kind=r.Wire:=by
    unfold vw at hv;rw [hfi] at hv;split at hv
    ·cases hv
    ·split at hv
     ·cases hv
     ·split at hv
      ·cases hv
      ·rename_i h4;cases hr:zbO (zE m i).Kind with
       | false=>exact absurd (.inl hr) h4
       | true=>exact ⟨rfl,by by_cases hq:zaM (zE m i).Kind=r.Wire;exact hq;exact absurd (.inr hq) h4⟩
   refine ⟨hk.1,by rw [hk.2,hw,hval];exact hfit,fun h15=>?_,fun kh=>?_⟩
   ·unfold zmA at hs;rw [xx (by simp)] at hs;cases hr4:zfq (valB b r) with
    | true=>rfl
    | false=>rw [xy ⟨h15,hr4⟩] at hs;cases hs
   ·unfold zmA at hs;rw [xx (by simp),xx (by omega),xy kh] at hs;cases d with
    | zero=>simp only [zKE] at hs;cases hs
    | succ e=>
     simp only [zKE] at hs;refine ⟨e,rfl,?_⟩;cases hg:zaq s e (zE m i).Of (valB b r) with
     | none=>rfl
     | some q=>rw [hg] at hs;cases hs
structure zzK (s:List Mes) (d:Nat) (f:Fld) (a:zfv):Prop where
 words:∀w∈a.2.2.1,zlo f w=true
 texts:∀t∈a.2.2.2.1,znC f t=true
 numT:kNum f.Kind=true->a.2.2.2.1=[]
 subs:∀x∈a.2.2.2.2,f.Kind=17/\zaP s x f.Of=true/\1+dM x<=d
 join:f.Kind=17->∀e,d=e+1->zaq s e f.Of a.1=none
 met:a.2.1=true->f.Kind=17->∃e,d=e+1
 one:f.Repeated=false->a.2.2.1.length<=1/\a.2.2.2.1.length<=1/\a.2.2.2.2=[]
theorem znv {k:Int} (h:kNum k=true):k≠17/\k≠15/\k≠16:=by rw [zhC] at h;omega
theorem zEC {f:Fld} (hk:kNum f.Kind=true) (v:List UInt8):∀w∈(zbC f.Kind v).1,zlo f w=true:=by
 intro w hw;unfold zbC at hw;rw [xx (by rw [hk];simp)] at hw;split at hw
 ·obtain ⟨p,_,rfl⟩:=xH.1 hw;unfold zlo ziH;rw [hk,zqq _ (zrS _)];simp
 ·cases hw
theorem zEc {f:Fld} (hk:kNum f.Kind=true) {v:List UInt8} (hf:zdF (zaM f.Kind) v=true):zlo f (zmL f.Kind v).1=true:=by
 rw [zld hk hf];unfold zlo ziH;rw [hk,zqq _ (zrS _)];simp
theorem zLf (s:List Mes) (d:Nat) (f:Fld):zzK s d f acc0 where
 words:=fun w hw=>nomatch hw
 texts:=fun w hw=>nomatch hw
 numT:=fun _=>rfl
 subs:=fun w hw=>nomatch hw
 join:=fun _ e _=>zqG s e _
 met:=fun h=>nomatch h
 one:=fun _=>⟨xI _,xI _,rfl⟩
theorem zNT {s:List Mes} {d:Nat} {m:Mes} {f:Fld} {g:Int->List UInt8->Msg} {a:zfv} {t:Th} (ha:zzK s d f a) (ht:OkT s d m t) (hi:0<=t.fi) (hf:zE m t.fi=f)
  (hg:f.Kind=17->∀e,d=e+1->zaq s e f.Of t.val=none->zaP s (g f.Of t.val) f.Of=true/\dM (g f.Of t.val)<=e):zzK s d f (stp g f a t):=by
 obtain ⟨h1,h2,hnt,h3,h4,h5,h6⟩:=ha;have kw:=ht.run hi;have hone:=ht.one hi;rw [hf] at kw hone;have w0:∀w∈(if f.Repeated=true then a.2.2.1 else []),zlo f w=true:=fun w hw=>by
  split at hw
  ·exact h1 w hw
  ·cases hw
 have t0:∀w∈(if f.Repeated=true then a.2.2.2.1 else []),znC f w=true:=fun w hw=>by
  split at hw
  ·exact h2 w hw
  ·cases hw
 have tn:kNum f.Kind=true->(if f.Repeated=true then a.2.2.2.1 else [])=[]:=fun hk=>by
  split
  ·exact hnt hk
  ·rfl
 have wl:f.Repeated=false->(if f.Repeated=true then a.2.2.1 else [])=[]:=fun h=>by rw [h];rfl
 have tl:f.Repeated=false->(if f.Repeated=true then a.2.2.2.1 else [])=[]:=fun h=>by rw [h];rfl
 unfold stp;by_cases hr:t.run=true
 ·obtain ⟨r1,r2,r3⟩:=kw hr;rw [xy hr];refine ⟨fun w hw=>?_,t0,tn,h3,h4,fun _ hk=>absurd hk (znv r1).1,fun hh=>by rw [r2] at hh;cases hh⟩;rcases xG.1 hw with hw| hw
  ·exact w0 w hw
  ·exact zEC r1 _ w hw
 ·have hr':t.run=false:=by simpa using hr
  obtain ⟨o1,o2,o3,o4⟩:=hone hr';rw [xx hr];by_cases hn:kNum f.Kind=true
  ·rw [xy hn];refine ⟨fun w hw=>?_,t0,tn,h3,h4,fun _ hk=>absurd hk (znv hn).1,fun hh=>?_⟩
   ·rcases xG.1 hw with hw| hw
    ·exact w0 w hw
    ·rw [yf.1 hw];exact zEc hn o2
   ·have:=h6 hh;simp only [wl hh,tl hh];exact ⟨xC _,xI _,this.2.2⟩
  ·rw [xx hn];by_cases hk:f.Kind=17/\f.Repeated=true
   ·rw [xy hk];obtain ⟨e,he,hv⟩:=o4 hk.1;obtain ⟨g1,g2⟩:=hg hk.1 e he hv;refine ⟨w0,t0,tn,fun x hx=>?_,h4,fun _ _=>⟨e,he⟩,fun hh=>by rw [hk.2] at hh;cases hh⟩;rcases xG.1 hx with hx| hx
    ·exact h3 x hx
    ·rw [yf.1 hx];exact ⟨hk.1,g1,by omega⟩
   ·rw [xx hk];by_cases hk2:f.Kind=17
    ·rw [xy hk2];obtain ⟨e,he,hv⟩:=o4 hk2;refine ⟨w0,t0,tn,h3,fun _ e' he'=>?_,fun _ _=>⟨e,he⟩,fun hh=>?_⟩
     ·have:e'=e:=by omega
      subst this;exact (zlF s e' f.Of t.val (h4 hk2 e' he')).2 hv
     ·simp only [wl hh,tl hh];exact ⟨xI _,xI _,(h6 hh).2.2⟩
    ·rw [xx hk2];have hk15:f.Kind=15\/f.Kind=16:=by
      have:¬(1<=f.Kind/\f.Kind<=14):=fun hh=>hn (zhC.2 hh)
      have kh:1<=f.Kind/\f.Kind<=17:=by simpa [zbO] using o1
      omega
     refine ⟨w0,fun x hx=>?_,fun hh=>absurd hh hn,h3,h4,fun _ hh=>absurd hh hk2,fun hh=>?_⟩
     ·rcases xG.1 hx with hx| hx
      ·exact t0 x hx
      ·rw [yf.1 hx];unfold znC;rcases hk15 with hh| hh
       ·simp [hh,o3 hh]
       ·simp [hh]
     ·simp only [wl hh,tl hh];exact ⟨xI _,xC _,(h6 hh).2.2⟩
theorem zFZ {s:List Mes} {d:Nat} {m:Mes} {f:Fld} {g:Int->List UInt8->Msg} {i:Int} (hi:0<=i) (hf:zE m i=f):∀(a:zfv) (l:List Th),zzK s d f a->(∀t∈l,OkT s d m t)->
  (∀t∈l,f.Kind=17->∀e,d=e+1->zaq s e f.Of t.val=none->zaP s (g f.Of t.val) f.Of=true/\dM (g f.Of t.val)<=e)->zzK s d f (accF g f i a l)
 | a,[],ha,_,_=>ha
 | a,t::l,ha,ht,hg=>by
  rw [accF];refine zFZ hi hf _ l ?_ (fun x hx=>ht x (xA _ hx)) (fun x hx=>hg x (xA _ hx));split
  ·rename_i h;exact zNT ha (ht t xz) (by omega) (by rw [h];exact hf) (hg t xz)
  ·exact ha
theorem zJb {d:Nat}:∀{l:List Msg},(∀x∈l,1+dM x<=d)->dMs l<=d
 | [],_=>by simp [dMs]
 | x::l,h=>by
  rw [dMs];have:=h x xz;have:=zJb fun y hy=>h y (xA _ hy)
  omega
theorem zJc {d:Nat}:∀{l:List Vlu},(∀x∈l,dV x<=d)->dVs l<=d
 | [],_=>by simp [dVs]
 | x::l,h=>by
  rw [dVs];have:=h x xz;have:=zJc fun y hy=>h y (xA _ hy)
  omega
theorem zMn {s:List Mes} {d:Nat} {f:Fld} {g:Int->List UInt8->Msg} {q:zfv} (hq:zzK s d f q) (hkr:zbO f.Kind=true)
  (hg:f.Kind=17->q.2.1=true->∀e,d=e+1->zaq s e f.Of q.1=none->zaP s (g f.Of q.1) f.Of=true/\dM (g f.Of q.1)<=e) (hm:0<zcs (valO g f q)):
  zjB s (valO g f q) f=true/\dV (valO g f q)<=d:=by
 obtain ⟨h1,h2,hnt,h3,h4,h5,h6⟩:=hq;have hsubs:∀x∈(valO g f q).Subs,f.Kind=17/\zaP s x f.Of=true/\1+dM x<=d:=by
  unfold valO;simp only;intro x hx;split at hx
  ·rename_i hc;obtain ⟨e,he⟩:=h5 hc.1 hc.2.1;obtain ⟨g1,g2⟩:=hg hc.2.1 hc.1 e he (h4 hc.2.1 e he);rw [yf.1 hx];exact ⟨hc.2.1,g1,by omega⟩
  ·exact h3 x hx
 constructor
 ·rw [ztz,zmI];have hmany:zsx f (valO g f q)=true:=by
   unfold zsx;rw [xO hm,hkr,yc,q7];cases hr:f.Repeated with
   | true=>simp
   | false=>
    rw [q8];refine xO ?_;obtain ⟨o1,o2,o3⟩:=h6 hr;unfold zcs valO;simp only;by_cases hk:f.Kind=17
    ·have e1:q.2.2.1=[]:=by
      cases hw:q.2.2.1 with
      | nil=>rfl
      | cons w l=>
       have:=h1 w (by rw [hw];exact xz);unfold zlo at this;simp only [xB] at this;exact absurd hk (znv this.1).1
     have e2:q.2.2.2.1=[]:=by
      cases hw:q.2.2.2.1 with
      | nil=>rfl
      | cons w l=>
       have:=h2 w (by rw [hw];exact xz);unfold znC at this;rw [hk] at this;simp at this
     rw [e1,e2];split
     ·simp
     ·rw [o3];simp
    ·rw [xx (fun hh=>hk hh.2.1),o3];by_cases hn:kNum f.Kind=true
     ·rw [hnt hn];simp;exact o1
     ·have e1:q.2.2.1=[]:=by
       cases hw:q.2.2.1 with
       | nil=>rfl
       | cons w l=>
        have:=h1 w (by rw [hw];exact xz);unfold zlo at this;simp only [xB] at this;exact absurd this.1 hn
      rw [e1];simp;exact o2
  rw [hmany,yc,xB,xB];refine ⟨⟨xM.2 h1,xM.2 h2⟩,xM.2 fun x hx=>?_⟩;obtain ⟨x1,x2,_⟩:=hsubs x hx;simp [x1,x2]
 ·rw [zGh];exact zJb fun x hx=>(hsubs x hx).2.2
theorem zqN (m:Mes) (i:Int):zbD m i=(zE m i).Number:=rfl
theorem zJP (hs:zfE s) (hm:m∈s) (hi:i<m.Fields.length) (hj:j<m.Fields.length) (h:m.Fields[i].Number=m.Fields[j].Number):i=j:=by
 rcases Nat.lt_trichotomy i j with ka| h'| ka
 ·exact absurd h (hs.nums m hm i j _ _ ka (xP hi) (xP hj)).1
 ·exact h'
 ·exact absurd h.symm (hs.nums m hm j i _ _ ka (xP hj) (xP hi)).1
theorem zwy {s:List Mes} (hs:zfE s) {m:Mes} (hm:m∈s) {i:Int} (h0:0<=i) (hi:i<m.Fields.length):fldI m (zE m i).Number=i:=by
 obtain ⟨n,rfl⟩:∃n:Nat,i=n:=⟨i.toNat,by omega⟩;have hn:n<m.Fields.length:=by omega
 rw [zcX hn];rcases zhq m m.Fields[n].Number with ⟨_,h⟩| ⟨j,hj,h,hjn,_⟩
 ·exact absurd rfl (h _ (xF hn))
 ·rw [h,zJP hs hm hj hn hjn]
theorem zug {s:List Mes} (hs:zfE s) {m:Mes} (hm:m∈s):(zcL (zbD m) m.Fields.length).Pairwise fun a b=>zbD m a<zbD m b:=by
 refine (zpC (zbD m) m.Fields.length).imp_of_mem fun {a b} ha hb h=>?_
 rcases h with h| ⟨h,ka⟩
 ·exact h
 ·exfalso;obtain ⟨a0,a1⟩:=zfC.1 ha;obtain ⟨b0,b1⟩:=zfC.1 hb;rw [zqN,zqN] at h;have:=zwy hs hm a0 a1;rw [h,zwy hs hm b0 b1] at this;omega
theorem ztZ {s:List Mes} (hs:zfE s) {m:Mes} (hm:m∈s) (v:Int->Vlu) (hn:∀i,(v i).Number=zbD m i):∀(o:List Int) (p:Option Int),(∀i∈o,0<=i/\i<m.Fields.length)->(o.Pairwise fun a b=>zbD m a<zbD m b)->
  (∀i∈o,p.all (fun n=>decide (n<zbD m i))=true)->(∀i∈o,0<zcs (v i)->zjB s (v i) (zE m i)=true)->zgy s ((o.map v).filter fun x=>decide (0<zcs x)) m p=true
 | [],p,_,_,_,_=>by rw [qj,List.filter_nil,zgy]
 | i::o,p,h1,h2,h3,h4=>by
  obtain ⟨h2a,h2b⟩:=yB.1 h2;have ih:=fun p hp=>ztZ hs hm v hn o p (fun j hj=>h1 j (xA _ hj)) h2b hp (fun j hj=>h4 j (xA _ hj))
  rw [xL,yK];by_cases hp:0<zcs (v i)
  ·rw [xy (by simpa using hp),zgy,ih _ (fun j hj=>by rw [hn];simpa using h2a j hj)];obtain ⟨i0,i1⟩:=h1 i xz;have hfi:=zwy hs hm i0 i1;rw [hn,zqN,hfi,h4 i xz hp,<-zqN,h3 i xz,xO i0];rfl
  ·rw [xx (by simpa using hp)];exact ih p fun j hj=>h3 j (xA _ hj)
theorem zAs {s:List Mes} (hs:zfE s):∀(N:Nat) (b:List UInt8) (d k:Nat),b.length=N->k<s.length->zaq s d k b=none->zaP s (ofM s k b) k=true/\dM (ofM s k b)<=d:=by
 intro N
 induction N using Nat.strongRecOn with
 | _ N IH=>
  intro b d k hN hk hv;have hmm:zK s (k:Int)∈s:=by rw [zdW hk];exact xF hk
  have hth:=zMW hv;have hwt:=zth (zK s (k:Int)) b;rw [zBS]
  generalize hl:ths (zK s (k:Int)) b=l at hth hwt
  generalize hm:zK s (k:Int)=m at hmm hth hwt
  have hsub:∀f∈m.Fields,f.Kind=17->∀v:List UInt8,v.length+1<=b.length->∀e,zaq s e f.Of v=none->zaP s (ofM s f.Of v) f.Of=true/\dM (ofM s f.Of v)<=e:=fun f hf kh v hvl e he=>by
   have hof:=(hs.fld _ hmm f hf).sub kh;obtain ⟨q,hq⟩:∃q:Nat,f.Of=q:=⟨f.Of.toNat,by omega⟩;rw [hq] at he|-;exact IH v.length (by omega) v e q rfl (by omega) he
  have hval:∀i∈zcL (zbD m) m.Fields.length,0<zcs (valO (ofM s) (zE m i) (accF (ofM s) (zE m i) i acc0 l))->
    zjB s (valO (ofM s) (zE m i) (accF (ofM s) (zE m i) i acc0 l)) (zE m i)=true/\dV (valO (ofM s) (zE m i) (accF (ofM s) (zE m i) i acc0 l))<=d:=fun i hi hp=>by
   obtain ⟨i0,i1⟩:=zfC.1 hi;obtain ⟨n,hn⟩:∃n:Nat,i=n:=⟨i.toNat,by omega⟩;have hnl:n<m.Fields.length:=by omega
   have hfm:zE m i∈m.Fields:=by rw [hn,zcX hnl];exact xF _
   have hacc:=zFZ (g:=ofM s) i0 rfl acc0 l (zLf s d (zE m i)) hth (fun t ht kh e he hv=>hsub _ hfm kh _ (by have:=zvA ht;omega) e hv);have hw:=(zuE (ofM s) (zE m i) i acc0 l).2;refine zMn hacc (hs.fld _ hmm _ hfm).kind (fun kh hmet e he hv=>hsub _ hfm kh _ ?_ e hv) hp;have h0:wJ acc0=0:=rfl;rw [h0,wJ,xy hmet] at hw;omega
  constructor
  ·rw [zlW,hm,xO (by omega),yc,xB];constructor
   ·unfold zkY zoQ;exact ztZ hs hmm (fun i=>valO (ofM s) (zE m i) (accF (ofM s) (zE m i) i acc0 l)) (fun i=>rfl) _ none (fun i hi=>zfC.1 hi) (zug hs hmm) (fun _ _=>rfl) (fun i hi hp=>(hval i hi hp).1)
   ·unfold zkY unkO;refine xM.2 fun u hu=>?_
    obtain ⟨t,ht,rfl⟩:=xH.1 hu;obtain ⟨ht1,ht2⟩:=yg.1 ht;exact (hth t ht1).unk (by simpa using ht2)
  ·rw [zJa];unfold zkY zoQ;refine zJc fun x hx=>?_
   obtain ⟨hx1,hx2⟩:=yg.1 hx;obtain ⟨i,hi,rfl⟩:=xH.1 hx1;exact (hval i hi (by simpa using hx2)).2
theorem zJm (h: -9223372036854775808<=n/\n<=9223372036854775807):(Lit.int .i64 n).wf=true:=by
 simpa [Lit.wf,IntKind.min,IntKind.max,IntKind.bits,IntKind.signed] using h
structure zCy (a:zfv):Prop where
 words:∀w∈a.2.2.1,0<=w/\w<=18446744073709551615
 texts:∀t∈a.2.2.2.1,t.length<=1048576
 subs:∀x∈a.2.2.2.2,bdM x/\smM x
theorem zLe:zCy acc0:=⟨fun w h=>(nomatch h),fun w h=>(nomatch h),fun w h=>(nomatch h)⟩
theorem zLa (k:Int) (v:List UInt8):∀w∈(zbC k v).1,0<=w/\w<=18446744073709551615:=by
 intro w hw;unfold zbC at hw;split at hw
 ·cases hw
 ·split at hw
  ·obtain ⟨p,_,rfl⟩:=xH.1 hw;exact ziJ k (zrS k)
  ·cases hw
theorem zKq (k:Int) (v:List UInt8):0<=(zmL k v).1/\(zmL k v).1<=18446744073709551615:=by
 unfold zmL;split
 ·simp
 ·split
  ·simp
  ·exact ziJ k (zrS k)
theorem zNS {g:Int->List UInt8->Msg} {f:Fld} {a:zfv} {t:Th} (ha:zCy a) (ht:t.val.length<=1048576) (hg:f.Kind=17->bdM (g f.Of t.val)/\smM (g f.Of t.val)):zCy (stp g f a t):=by
 obtain ⟨h1,h2,h3⟩:=ha;have w0:∀w∈(if f.Repeated=true then a.2.2.1 else []),0<=w/\w<=18446744073709551615:=fun w hw=>by
  split at hw
  ·exact h1 w hw
  ·cases hw
 have t0:∀w∈(if f.Repeated=true then a.2.2.2.1 else []),w.length<=1048576:=fun w hw=>by
  split at hw
  ·exact h2 w hw
  ·cases hw
 unfold stp;split
 ·refine ⟨fun w hw=>?_,t0,h3⟩;rcases xG.1 hw with hw| hw
  ·exact w0 w hw
  ·exact zLa _ _ w hw
 ·split
  ·refine ⟨fun w hw=>?_,t0,h3⟩;rcases xG.1 hw with hw| hw
   ·exact w0 w hw
   ·rw [yf.1 hw];exact zKq _ _
  ·split
   ·rename_i hk;refine ⟨w0,t0,fun x hx=>?_⟩;rcases xG.1 hx with hx| hx
    ·exact h3 x hx
    ·rw [yf.1 hx];exact hg hk.1
   ·split
    ·exact ⟨w0,t0,h3⟩
    ·refine ⟨w0,fun x hx=>?_,h3⟩;rcases xG.1 hx with hx| hx
     ·exact t0 x hx
     ·rw [yf.1 hx];exact ht
theorem zFY {g:Int->List UInt8->Msg} {f:Fld} {i:Int}:∀{l:List Th} {a:zfv},zCy a->(∀t∈l,t.val.length<=1048576)->(f.Kind=17->∀t∈l,bdM (g f.Of t.val)/\smM (g f.Of t.val))->zCy (accF g f i a l)
 | [],a,ha,_,_=>ha
 | t::l,a,ha,ht,hg=>by
  rw [accF];refine zFY ?_ (fun x hx=>ht x (xA _ hx)) fun kh x hx=>hg kh x (xA _ hx)
  split
  ·exact zNS ha (ht t xz) fun kh=>hg kh t xz
  ·exact ha
theorem zJR {s:List Mes} (hs:zfE s):∀(N:Nat) (b:List UInt8) (k:Nat),b.length=N->N<=1048576->k<s.length->bdM (ofM s k b)/\smM (ofM s k b):=by
 intro N
 induction N using Nat.strongRecOn with
 | _ N IH=>
  intro b k hN hb hk;have hmm:zK s (k:Int)∈s:=by rw [zdW hk];exact xF hk
  have hwt:=zth (zK s (k:Int)) b;have hraw:∀t∈ths (zK s (k:Int)) b,t.raw.length<=b.length:=fun t ht=>by
   unfold ths at ht;obtain ⟨r,_,rfl⟩:=xH.1 ht;show (rawB b r.R).length<=_;unfold rawB;simp;omega
  have hfew:=hs.few _ hmm;rw [zBS]
  generalize ths (zK s (k:Int)) b=l at hwt hraw
  generalize zK s (k:Int)=m at hmm hfew|-
  have hsub:∀f∈m.Fields,f.Kind=17->∀v:List UInt8,v.length+1<=b.length->bdM (ofM s f.Of v)/\smM (ofM s f.Of v):=fun f hf kh v hvl=>by
   have hof:=(hs.fld _ hmm f hf).sub kh;obtain ⟨q,hq⟩:∃q:Nat,f.Of=q:=⟨f.Of.toNat,by omega⟩;rw [hq];exact IH v.length (by omega) v q rfl (by omega) (by omega)
  have hval:∀i∈zcL (zbD m) m.Fields.length,bdV (valO (ofM s) (zE m i) (accF (ofM s) (zE m i) i acc0 l))/\smV (valO (ofM s) (zE m i) (accF (ofM s) (zE m i) i acc0 l)):=fun i hi=>by
   obtain ⟨i0,i1⟩:=zfC.1 hi;obtain ⟨n,hn⟩:∃n:Nat,i=n:=⟨i.toNat,by omega⟩;have hnl:n<m.Fields.length:=by omega
   have hfm:zE m i∈m.Fields:=by rw [hn,zcX hnl];exact xF _
   have hfo:=hs.fld _ hmm _ hfm;have hacc:=zFY (g:=ofM s) (f:=zE m i) (i:=i) (l:=l) zLe (fun t ht=>by have:=zvA ht;omega) (fun kh t ht=>hsub _ hfm kh _ (by have:=zvA ht;omega));have hw:=zuE (ofM s) (zE m i) i acc0 l;have w0:wA acc0=0:=rfl;have j0:wJ acc0=0:=rfl;rw [w0,j0] at hw
   generalize zE m i=f at hfm hfo hacc hw|-
   generalize accF (ofM s) f i acc0 l=q at hacc hw|-
   obtain ⟨a1,a2,a3⟩:=hacc;have hsubs:(valO (ofM s) f q).Subs.length<=1048576/\∀x∈(valO (ofM s) f q).Subs,bdM x/\smM x:=by
    unfold valO;simp only;split
    ·rename_i hc;refine ⟨by simp,fun x hx=>?_⟩;rw [yf.1 hx];have h2:=hw.2;rw [wJ,xy hc.1] at h2;exact hsub f hfm hc.2.1 _ (by omega)
    ·exact ⟨by have:=hw.1;unfold wA at this;omega,a3⟩
   have h1:=hw.1;unfold wA at h1;have e1:(valO (ofM s) f q).Words=q.2.2.1:=rfl;have e2:(valO (ofM s) f q).Texts=q.2.2.2.1:=rfl;have e3:(valO (ofM s) f q).Number=f.Number:=rfl
   refine ⟨(ziR _).2 ⟨by rw [e3];exact zJm (by have:=hfo.lo;have:=hfo.hi;omega),⟨by rw [e1];omega,by rw [e1];exact a1⟩,⟨by rw [e2];omega,fun x hx=>by rw [e2] at hx;have:=a2 x hx;omega⟩,by have:=hsubs.1;omega,zfF.2 fun x hx=>(hsubs.2 x hx).1⟩,
    (zyF _).2 ⟨by rw [e1];omega,⟨by rw [e2];omega,by rw [e2];exact a2⟩,hsubs.1,zoJ.2 fun x hx=>(hsubs.2 x hx).2⟩⟩
  have hvl:(zkY (ofM s) m l).Values.length<=200:=by
   unfold zkY zoQ;simp only;refine yC (pq _ _) ?_;rw [yN,zsa];exact hfew
  have hul:(zkY (ofM s) m l).Unknown.length<=1048576:=by
   unfold zkY unkO;simp only;rw [yN];refine yC (pq _ _) ?_;have:=zrD l;omega
  have hum:∀t∈(zkY (ofM s) m l).Unknown,t.length<=1048576:=fun u hu=>by
   unfold zkY unkO at hu;obtain ⟨t,ht,rfl⟩:=xH.1 hu;have:=hraw t (yg.1 ht).1;omega
  have hvm:∀v∈(zkY (ofM s) m l).Values,bdV v/\smV v:=fun v hv=>by
   unfold zkY zoQ at hv;obtain ⟨hx1,_⟩:=yg.1 hv;obtain ⟨i,hi,rfl⟩:=xH.1 hx1;exact hval i hi
  refine ⟨(zke _).2 ⟨by omega,⟨by omega,fun t ht=>by have:=hum t ht;omega⟩,zfG.2 fun v hv=>(hvm v hv).1⟩,(zyE _).2 ⟨by omega,⟨hul,hum⟩,zoK.2 fun v hv=>(hvm v hv).2⟩⟩
def zhd (l:List Vlu):Prop:=l.Pairwise fun a b=>a.Number<b.Number
def look (l:List Vlu) (n:Int):Option Vlu:=l.find? fun v=>v.Number==n
theorem zhb (v:Vlu) (l:List Vlu) (n:Int):look (v::l) n=if v.Number=n then some v else look l n:=by
 unfold look;rw [List.find?_cons];by_cases h:v.Number=n
 ·rw [xy h];simp [h]
 ·rw [xx h];have:(v.Number==n)=false:=by simpa using h
  rw [this]
theorem zjd (h:look l n=some v):v.Number=n/\v∈l:=by
 unfold look at h;exact ⟨by simpa using List.find?_some h,List.mem_of_find?_eq_some h⟩
theorem zGN (h:∀v∈l,n<v.Number):look l n=none:=by
 unfold look;rw [List.find?_eq_none];intro v hv;have:=h v hv;simp;omega
theorem zDy (hr:zhd l) (h:v∈l):look l v.Number=some v:=by
 induction l with
 | nil=>cases h
 | cons u l ih=>
  obtain ⟨h1,h2⟩:=yB.1 hr;rw [zhb];rcases xD.1 h with rfl| h
  ·rw [xy rfl]
  ·have:=h1 v h;rw [xx (by omega),ih h2 h]
def putL (v:Vlu):Bool->List Vlu->List Vlu
 | done,[]=>if done=true then [] else [v]
 | done,u::l=>(if done=false/\v.Number<=u.Number then [v] else [])++((if u.Number=v.Number then [] else [u])++putL v (done|| decide (v.Number<=u.Number)) l)
theorem zDI (v:Vlu):∀(d:Bool) (l:List Vlu),(putL v d l).length<=l.length+(if d=true then 0 else 1)
 | d,[]=>by rw [putL];cases d<;>simp
 | d,u::l=>by
  have:=zDI v (d|| decide (v.Number<=u.Number)) l;rw [putL];simp only [xE,xR];cases d
  ·by_cases h:v.Number<=u.Number
   ·rw [xy ⟨rfl,h⟩];simp only [h,decide_true,pk,yj] at this|-;split<;>simp<;>omega
   ·rw [xx (fun hh=>h hh.2)];simp only [h,decide_false,q8,ql,yo] at this|-;split<;>simp<;>omega
  ·rw [xx (by simp)];simp only [pO,yj] at this|-;split<;>simp<;>omega
theorem zDJ :∀{d:Bool} {l:List Vlu} {x:Vlu},x∈putL v d l->x=v/\d=false\/x∈l/\x.Number≠v.Number
 | d,[],x,h=>by
  rw [putL] at h;cases d
  ·rw [xx (by simp)] at h;exact .inl ⟨yf.1 h,rfl⟩
  ·rw [xy rfl] at h;cases h
 | d,u::l,x,h=>by
  rw [putL] at h;rcases xG.1 h with h| h
  ·split at h
   ·rename_i hc;exact .inl ⟨yf.1 h,hc.1⟩
   ·cases h
  ·rcases xG.1 h with h| h
   ·split at h
    ·cases h
    ·rename_i hc;rw [yf.1 h];exact .inr ⟨xz,hc⟩
   ·rcases zDJ h with ⟨h1,h2⟩| ⟨h1,h2⟩
    ·refine .inl ⟨h1,?_⟩;cases d
     ·rfl
     ·simp at h2
    ·exact .inr ⟨xA _ h1,h2⟩
theorem zrc :∀{d:Bool} {l:List Vlu},zhd l->zhd (putL v d l)
 | d,[],_=>by rw [putL];cases d<;>simp [zhd]
 | d,u::l,h=>by
  obtain ⟨h1,h2⟩:=yB.1 h;have ih:=zrc (v:=v) (d:=d|| decide (v.Number<=u.Number)) h2;have hrest:∀x∈putL v (d|| decide (v.Number<=u.Number)) l,u.Number<x.Number:=fun x hx=>by
   rcases zDJ hx with ⟨rfl,hd⟩| ⟨hx,_⟩
   ·simp at hd;omega
   ·exact h1 x hx
  rw [putL];have htail:zhd ((if u.Number=v.Number then [] else [u])++putL v (d|| decide (v.Number<=u.Number)) l):=by
   split
   ·exact ih
   ·exact yB.2 ⟨hrest,ih⟩
  split
  ·rename_i hc;rw [qO];refine yB.2 ⟨fun x hx=>?_,htail⟩;rcases xG.1 hx with hx| hx
   ·split at hx
    ·cases hx
    ·rw [yf.1 hx];omega
   ·have:=hrest x hx;omega
  ·exact htail
theorem zqR (l k:List Vlu) (n:Int):look (l++k) n=match look l n with| some v=>some v| none=>look k n:=by
 unfold look;rw [List.find?_append];cases l.find? (fun v=>v.Number==n)<;>rfl
theorem zxU :∀{d:Bool} {l:List Vlu},zhd l->∀n,look (putL v d l) n=if n=v.Number then (if d=true then none else some v) else look l n
 | d,[],_,n=>by
  rw [putL];cases d
  ·rw [xx (show ¬(false=true) by simp),xx (show ¬(false=true) by simp),zhb];by_cases h:n=v.Number
   ·rw [xy h,xy h.symm]
   ·rw [xx h,xx (fun hh=>h hh.symm)]
  ·rw [xy rfl,xy rfl];split<;>rfl
 | d,u::l,h,n=>by
  obtain ⟨h1,h2⟩:=yB.1 h;have ih:=zxU (v:=v) (d:=d|| decide (v.Number<=u.Number)) h2 n;rw [putL,zqR,zqR,ih,zhb u l n];by_cases hn:n=v.Number
  ·rw [xy hn,xy hn];have hu:look (if u.Number=v.Number then [] else [u]) n=none:=by
    split
    ·rfl
    ·rw [zhb,xx (by omega)];rfl
   rw [hu];cases d
   ·by_cases hle:v.Number<=u.Number
    ·rw [xy ⟨rfl,hle⟩,zhb,xy hn.symm];simp
    ·rw [xx (fun hh=>hle hh.2)];simp [look,hle]
   ·rw [xx (by simp)];simp [look]
  ·rw [xx hn,xx hn];have hv:look (if d=false/\v.Number<=u.Number then [v] else []) n=none:=by
    split
    ·rw [zhb,xx (fun hh=>hn hh.symm)];rfl
    ·rfl
   rw [hv];by_cases hu:u.Number=v.Number
   ·rw [xy hu,xx (by omega)];rfl
   ·rw [xx hu,zhb];by_cases hun:u.Number=n
    ·rw [xy hun,xy hun]
    ·rw [xx hun,xx hun];rfl
def putM (x:Msg) (v:Vlu):Msg:=⟨putL v (decide (zcs v=0)) x.Values,x.Unknown⟩
theorem zny :∀{l:List Vlu} {p:Option Int},zgy s l m p=true->∀v∈l,0<=fldI m v.Number/\zjB s v (zE m (fldI m v.Number))=true/\p.all (fun n=>decide (n<v.Number))=true
 | [],p,_,v,hv=>by cases hv
 | u::l,p,h,v,hv=>by
  rw [zgy] at h;simp only [xB,xZ] at h;obtain ⟨⟨⟨h1,h2⟩,h3⟩,h4⟩:=h;rcases xD.1 hv with rfl| hv
  ·exact ⟨h1,h3,h2⟩
  ·obtain ⟨g1,g2,g3⟩:=zny h4 v hv;refine ⟨g1,g2,?_⟩;cases p with
   | none=>rfl
   | some n=>
    simp at h2 g3|-;omega
theorem zri :∀{l:List Vlu} {p:Option Int},zgy s l m p=true->zhd l
 | [],p,_=> .nil
 | u::l,p,h=>by
  rw [zgy] at h;simp only [xB,xZ] at h;refine yB.2 ⟨fun v hv=>?_,zri h.2⟩;have:=(zny h.2 v hv).2.2;simpa using this
theorem zyv :∀{l:List Vlu} {p:Option Int},zhd l->(∀v∈l,0<=fldI m v.Number/\zjB s v (zE m (fldI m v.Number))=true/\p.all (fun n=>decide (n<v.Number))=true)->zgy s l m p=true
 | [],p,_,_=>by rw [zgy]
 | u::l,p,hr,h=>by
  obtain ⟨h1,h2⟩:=yB.1 hr;obtain ⟨a1,a2,a3⟩:=h u xz;rw [zgy,zyv h2 fun v hv=>⟨(h v (xA _ hv)).1,(h v (xA _ hv)).2.1,by simpa using h1 v hv⟩,a2,a3,xO a1];rfl
theorem zdI (h:zaP s x k=true):0<=k/\k<s.length/\zhd x.Values/\(∀v∈x.Values,0<=fldI (zK s k) v.Number/\zjB s v (zE (zK s k) (fldI (zK s k) v.Number))=true)/\∀u∈x.Unknown,unkR (zK s k) u=true:=by
 rw [zlW] at h;simp only [xB,xZ] at h;exact ⟨h.1.1.1,h.1.1.2,zri h.1.2,fun v hv=>⟨(zny h.1.2 v hv).1,(zny h.1.2 v hv).2.1⟩,xM.1 h.2⟩
theorem zAG (h1:0<=k) (h2:k<s.length) (h3:zhd x.Values) (h4:∀v∈x.Values,0<=fldI (zK s k) v.Number/\zjB s v (zE (zK s k) (fldI (zK s k) v.Number))=true) (h5:∀u∈x.Unknown,unkR (zK s k) u=true):zaP s x k=true:=by
 rw [zlW,xO ⟨h1,h2⟩,zyv h3 fun v hv=>⟨(h4 v hv).1,(h4 v hv).2,rfl⟩,xM.2 h5];rfl
structure zjT (s:List Mes) (v:Vlu) (f:Fld):Prop where
 many:0<zcs v
 one:f.Repeated=false->zcs v=1
 kind:zbO f.Kind=true
 words:∀w∈v.Words,zlo f w=true
 texts:∀t∈v.Texts,znC f t=true
 subs:∀x∈v.Subs,f.Kind=17/\zaP s x f.Of=true
theorem zgg (h:zjB s v f=true):zjT s v f:=by
 rw [ztz,zmI] at h;unfold zsx at h;simp only [xB,qT,xZ,xM,pr] at h;obtain ⟨⟨⟨⟨⟨h1,h2⟩,h3⟩,h4⟩,h5⟩,h6⟩:=h;refine ⟨h1,fun hr=>?_,h3,h4,h5,fun x hx=>?_⟩
 ·rw [hr] at h2;simp at h2;omega
 ·exact h6 x hx
theorem zGl (h:zjT s v f):zjB s v f=true:=by
 obtain ⟨h1,h2,h3,h4,h5,h6⟩:=h;rw [ztz,zmI];unfold zsx;simp only [xB,qT,xZ,xM,pr];refine ⟨⟨⟨⟨⟨h1,?_⟩,h3⟩,h4⟩,h5⟩,fun x hx=>h6 x hx⟩;cases hr:f.Repeated with
 | true=>exact .inr rfl
 | false=>exact .inl (by have:=h2 hr;omega)
theorem zjT.noWords (h:zjT s v f) (hk:kNum f.Kind=false):v.Words=[]:=by
 cases hw:v.Words with
 | nil=>rfl
 | cons w l=>
  have:=h.words w (by rw [hw];exact xz);unfold zlo at this;rw [hk] at this;simp at this
theorem zjT.noTexts (h:zjT s v f) (hk:f.Kind≠15/\f.Kind≠16):v.Texts=[]:=by
 cases hw:v.Texts with
 | nil=>rfl
 | cons w l=>
  have:=h.texts w (by rw [hw];exact xz);unfold znC at this;simp at this;omega
theorem zjT.noSubs {s:List Mes} {v:Vlu} {f:Fld} (h:zjT s v f) (hk:f.Kind≠17):v.Subs=[]:=by
 cases hw:v.Subs with
 | nil=>rfl
 | cons w l=>exact absurd (h.subs w (by rw [hw];exact xz)).1 hk
theorem zjT.msg (h:zjT s v f) (hk:f.Kind=17) (hr:f.Repeated=false):∃x,v=⟨v.Number,[],[],[x]⟩/\zaP s x f.Of=true:=by
 have h1:=h.noWords (by rw [hk];rfl);have h2:=h.noTexts (by omega);have h3:=h.one hr;have h4:=h.subs;obtain ⟨n,w,t,sub⟩:=v;simp only at h1 h2 h4;subst h1 h2;unfold zcs at h3;simp at h3;obtain ⟨x,rfl⟩:∃x,sub=[x]:=by
  cases sub with
  | nil=>simp at h3
  | cons x l=>cases l with
   | nil=>exact ⟨x,rfl⟩
   | cons _ _=>simp at h3
 exact ⟨x,rfl,(h4 x xz).2⟩
mutual
/-- b zhP a. -/
def zpJ (s:List Mes):Msg->Msg->Int->Msg
 | ⟨vs,u⟩,a,k=>⟨zkn s vs a (zK s k) a.Values,a.Unknown++u⟩
def zkn (s:List Mes):List Vlu->Msg->Mes->List Vlu->List Vlu
 | [],_,_,acc=>acc
 | v::l,a,m,acc=>zkn s l a m (putM ⟨acc,[]⟩ (zjE s v (look a.Values v.Number) (zE m (fldI m v.Number)))).Values
def zjE (s:List Mes):Vlu->Option Vlu->Fld->Vlu
 | ⟨n,w,t,sub⟩,none,f=>⟨n,w,t,sub⟩
 | ⟨n,w,t,sub⟩,some u,f=>if f.Repeated=true then ⟨n,u.Words++w,u.Texts++t,u.Subs++sub⟩ else if f.Kind=17 then ⟨n,[],[],znX s sub u.Subs f.Of⟩ else ⟨n,w,t,sub⟩
def znX (s:List Mes):List Msg->List Msg->Int->List Msg
 | [],_,_=>[]
 | x::_,ys,k=>match ys with
  | []=>[]
  | y::_=>[zpJ s x y k]
end
theorem zqK (s:List Mes) (b a:Msg) (k:Int):zpJ s b a k=⟨zkn s b.Values a (zK s k) a.Values,a.Unknown++b.Unknown⟩:=by cases b;rw [zpJ]
theorem zqL (s:List Mes) (v:Vlu) (o:Option Vlu) (f:Fld):zjE s v o f=match o with
  | none=>v
  | some u=>if f.Repeated=true then ⟨v.Number,u.Words++v.Words,u.Texts++v.Texts,u.Subs++v.Subs⟩ else if f.Kind=17 then ⟨v.Number,[],[],znX s v.Subs u.Subs f.Of⟩ else v:=by
 cases v;cases o<;>rw [zjE]
theorem zAj (s:List Mes) (v:Vlu) (o:Option Vlu) (f:Fld):(zjE s v o f).Number=v.Number:=by
 rw [zqL];cases o with
 | none=>rfl
 | some u=>simp only;split;rfl;split<;>rfl
theorem zKa (acc:List Vlu) (u:List Str) (v:Vlu):(putM ⟨acc,u⟩ v).Values.length<=acc.length+1:=by
 have:=zDI v (decide (zcs v=0)) acc;unfold putM;simp only;split at this<;>omega
theorem zvN :∀{l acc:List Vlu},zhd acc->zhd l->(∀v∈l,0<zcs (zjE s v (look a.Values v.Number) (zE m (fldI m v.Number))))->
  zhd (zkn s l a m acc)/\∀n,look (zkn s l a m acc) n=match look l n with
   | some v=>some (zjE s v (look a.Values n) (zE m (fldI m n)))
   | none=>look acc n
 | [],acc,h1,_,_=>by rw [zkn];exact ⟨h1,fun n=>rfl⟩
 | v::l,acc,h1,h2,h3=>by
  obtain ⟨l1,l2⟩:=yB.1 h2;have hv:=h3 v xz;have hnum:=zAj s v (look a.Values v.Number) (zE m (fldI m v.Number));rw [zkn];have hacc:zhd (putM ⟨acc,[]⟩ (zjE s v (look a.Values v.Number) (zE m (fldI m v.Number)))).Values:=zrc h1;obtain ⟨r1,r2⟩:=zvN (s:=s) (a:=a) (m:=m) hacc l2 fun u hu=>h3 u (xA _ hu)
  refine ⟨r1,fun n=>?_⟩;rw [r2 n,zhb];have hlk:look (putM ⟨acc,[]⟩ (zjE s v (look a.Values v.Number) (zE m (fldI m v.Number)))).Values n=if n=v.Number then some (zjE s v (look a.Values v.Number) (zE m (fldI m v.Number))) else look acc n:=by
   unfold putM;simp only;rw [zxU h1 n,hnum];by_cases hn:n=v.Number
   ·rw [xy hn,xy hn,xx fun hh=>by have:=yO hh;omega]
   ·rw [xx hn,xx hn]
  by_cases hn:v.Number=n
  ·rw [xy hn,zGN fun u hu=>by have:=l1 u hu;omega,hlk,xy hn.symm];simp only [hn]
  ·rw [xx hn,hlk,xx fun hh=>hn hh.symm]
theorem zxJ (hv:zjT s v f) (ho:∀u,o=some u->zjT s u f):0<zcs (zjE s v o f):=by
 rw [zqL];cases o with
 | none=>exact hv.many
 | some u=>
  have:=hv.many;simp only;by_cases hr:f.Repeated=true
  ·rw [xy hr];unfold zcs at this|-;simp only [xE];omega
  ·rw [xx hr];by_cases kh:f.Kind=17
   ·rw [xy kh];obtain ⟨x,hvx,_⟩:=hv.msg kh (by simpa using hr);obtain ⟨y,huy,_⟩:=(ho u rfl).msg kh (by simpa using hr);rw [hvx,huy,znX];simp [zcs]
   ·rw [xx kh];exact this
theorem zAp (ha:zaP s a k=true) (hb:zaP s b k=true):zhd (zpJ s b a k).Values/\∀n,look (zpJ s b a k).Values n=match look b.Values n with
   | some v=>some (zjE s v (look a.Values n) (zE (zK s k) (fldI (zK s k) n)))
   | none=>look a.Values n:=by
 obtain ⟨_,_,ra,ha',_⟩:=zdI ha;obtain ⟨_,_,rb,hb',_⟩:=zdI hb;rw [zqK];exact zvN ra rb fun v hv=>zxJ (zgg (hb' v hv).2) fun u hu=>by
  obtain ⟨e,hm⟩:=zjd hu;have:=zgg (ha' u hm).2;rw [e] at this;exact this
theorem zCl (g:Int->List UInt8->Msg) (f:Fld) (a:zfv) (t:Th):(stp g f a t).2.1=true:=by
 unfold stp;split;rfl;split;rfl;split;rfl;split<;>rfl
theorem zzN (g:Int->List UInt8->Msg) (f:Fld) (i:Int):∀(l:List Th) (a:zfv),a.2.1=true->(accF g f i a l).2.1=true
 | [],a,h=>h
 | t::l,a,h=>by
  rw [accF];refine zzN g f i l _ ?_;split
  ·exact zCl g f a t
  ·exact h
theorem zwZ (g:Int->List UInt8->Msg) (f:Fld) (i:Int):∀(l:List Th) (a:zfv),(accF g f i a l).2.1=false->accF g f i a l=a
 | [],a,h=>rfl
 | t::l,a,h=>by
  rw [accF] at h|-;split at h
  ·rw [zzN g f i l _ (zCl g f a t)] at h;cases h
  ·rename_i ht;rw [xx ht];exact zwZ g f i l a h
def zsy (s:List Mes) (root:Int) (l:List Msg):Int:=if znH s root≠0 then znH s root else if l.all (fun x=>zaP s x root)=true then 0 else 12
mutual
/-- Kept or left by ways. -/
def ztR (s:List Mes):Msg->Int->List zen->Bool->Msg
 | ⟨vs,u⟩,k,w,keep=>⟨zjI s vs (zK s k) w keep,if keep=true then [] else u⟩
def zjI (s:List Mes):List Vlu->Mes->List zen->Bool->List Vlu
 | [],_,_,_=>[]
 | v::l,m,w,keep=>zyi s v (zE m (fldI m v.Number)) w keep++zjI s l m w keep
def zyi (s:List Mes):Vlu->Fld->List zen->Bool->List Vlu
 | ⟨n,a,t,sub⟩,f,w,keep=>if zpG w n=false/\zoe w n≠[]/\f.Kind=17/\f.Repeated=false then [⟨n,[],[],zqY s sub f.Of (zoe w n) keep⟩]
  else if zpG w n=keep then [⟨n,a,t,sub⟩] else []
def zqY (s:List Mes):List Msg->Int->List zen->Bool->List Msg
 | [],_,_,_=>[]
 | x::_,k,w,keep=>[ztR s x k w keep]
end
theorem zyg (s:List Mes) (x:Msg) (k:Int) (w:List zen) (keep:Bool):ztR s x k w keep=⟨zjI s x.Values (zK s k) w keep,if keep=true then [] else x.Unknown⟩:=by cases x;rw [ztR]
theorem ztS (s:List Mes) (v:Vlu) (f:Fld) (w:List zen) (keep:Bool):zyi s v f w keep=if zpG w v.Number=false/\zoe w v.Number≠[]/\f.Kind=17/\f.Repeated=false then [⟨v.Number,[],[],zqY s v.Subs f.Of (zoe w v.Number) keep⟩]
  else if zpG w v.Number=keep then [v] else []:=by cases v;rw [zyi]
theorem zIa (s:List Mes) (v:Vlu) (f:Fld) (w:List zen) (keep:Bool):(zyi s v f w keep).length<=1:=by
 rw [ztS];split;simp;split<;>simp
theorem zFd (hv:zjT s v f) (ho:∀u,o=some u->zjT s u f)
  (ih:∀x∈v.Subs,∀y:Msg,zaP s x f.Of=true->zaP s y f.Of=true->zaP s (zpJ s x y f.Of) f.Of=true):zjT s (zjE s v o f) f:=by
 have hm:=zxJ hv ho;rw [zqL] at hm|-;cases o with
 | none=>exact hv
 | some u=>
  have hu:=ho u rfl;simp only at hm|-;by_cases hr:f.Repeated=true
  ·rw [xy hr] at hm|-;refine ⟨hm,(fun h=>by rw [hr] at h;cases h),hv.kind,fun w hw=>?_,fun w hw=>?_,fun w hw=>?_⟩
   ·rcases xG.1 hw with hw| hw
    ·exact hu.words w hw
    ·exact hv.words w hw
   ·rcases xG.1 hw with hw| hw
    ·exact hu.texts w hw
    ·exact hv.texts w hw
   ·rcases xG.1 hw with hw| hw
    ·exact hu.subs w hw
    ·exact hv.subs w hw
  ·rw [xx hr] at hm|-;by_cases kh:f.Kind=17
   ·rw [xy kh] at hm|-;obtain ⟨x,hvx,hx⟩:=hv.msg kh (by simpa using hr);obtain ⟨y,huy,hy⟩:=hu.msg kh (by simpa using hr);have hvs:v.Subs=[x]:=by rw [hvx]
    have hus:u.Subs=[y]:=by rw [huy]
    rw [hvs,hus,znX];refine ⟨by simp [zcs],(fun _=>by simp [zcs]),hv.kind,(fun w hw=>nomatch hw),(fun w hw=>nomatch hw),fun w hw=>?_⟩;rw [yf.1 hw];exact ⟨kh,ih x (by rw [hvs];exact xz) y hx hy⟩
   ·rw [xx kh] at hm|-;exact hv
theorem zvK :∀(N:Nat) (b a:Msg) (k:Int),szM b<=N->zaP s a k=true->zaP s b k=true->zaP s (zpJ s b a k) k=true
 | 0,b,a,k,h,_,_=>by rw [zdO] at h;omega
 | N+1,b,a,k,ko,ha,hb=>by
  obtain ⟨k0,k1,ra,ha',ua⟩:=zdI ha;obtain ⟨_,_,rb,hb',ub⟩:=zdI hb;obtain ⟨j1,j2⟩:=zAp ha hb;rw [zdO] at ko;refine zAG k0 k1 j1 (fun v hv=>?_) fun u hu=>?_
  ·have hl:=zDy j1 hv;rw [j2] at hl;cases hbl:look b.Values v.Number with
   | none=>
    rw [hbl] at hl;simp only at hl;exact ha' v (zjd hl).2
   | some w=>
    rw [hbl] at hl;simp only at hl;obtain ⟨wn,wm⟩:=zjd hbl;obtain ⟨w0,wf⟩:=hb' w wm;rw [wn] at w0 wf;have hfw:=zgg wf;have s1:=zfX wm;rw [zgK] at s1;refine ⟨w0,zGl ?_⟩;have hvj:zjE s w (look a.Values v.Number) (zE (zK s k) (fldI (zK s k) v.Number))=v:=qk hl;have:=zFd (o:=look a.Values v.Number) hfw (fun u hu=>by
     obtain ⟨un,um⟩:=zjd hu;have:=zgg (ha' u um).2;rw [un] at this;exact this) fun x hx y hxr hyr=>by
      have:=zfW hx;exact zvK N x y _ (by omega) hyr hxr
    rw [hvj] at this;exact this
  ·rw [zqK] at hu;rcases xG.1 hu with hu| hu
   ·exact ua u hu
   ·exact ub u hu
end Go.Proofs.YtkgohoggipdokaaGreat
