/-
  What the plain functions are. No condition.
-/
import Derived.Test.YtkgohoggipdokaaGreatx1S1
import Derived.Test.YtkgohoggipdokaaGreatx1K2
set_option autoImplicit true
set_option relaxedAutoImplicit true
namespace Go.Proofs.YtkgohoggipdokaaGreat
open Go.IntKind (i64 u32 u64)
open Go
set_option linter.unusedVariables false
theorem zyg (w:Int):zil w=some (w%4294967296):=by unfold zil;rw [zyY]
theorem zBN (w:Int):ziL w=some (sgnS w):=by
 unfold ziL;rw [zyg,sb,zBW];unfold sgnS;congr 1;split<;>split<;>omega
theorem zBU (h: -2147483648<=n/\n<=2147483647):ziM n=some (zpm n):=by
 unfold ziM;rw [pU,zdi];unfold zpm;congr 1;split<;>omega
theorem zzN (h:0<=w/\w<=18446744073709551615):zen w=some (sgnS w):=by
 unfold zen;rw [yx h.1,zk (x:=w%4294967296) (by omega)];unfold sgnS;by_cases h2:w%4294967296<2147483648
 ·rw [pT,xx h2]
 ·rw [pS,xw h2,pU]
theorem zDz (h: -9223372036854775808<=n/\n<=9223372036854775807):zfg n=some (zpm n):=by
 unfold zfg zpm;by_cases h0:0<=n
 ·rw [pS,xx h0,zdi,yB (by omega) (by omega)]
 ·rw [pT,xw h0];simp (disch:=omega) only [zk,zdi];congr 1;omega
theorem zyd {v:List UInt8} {m k j:Nat} (hk:k<=8) (hv:v.length=k) (hj:j<k):zcF v (m:Int) (zgJ k m j) (j:Int)=some (.inl (zgJ k m (j+1),((j+1:Nat):Int))):=by
 have v8:=ztw (n:=k) (m:=m) (j:=j) (by omega);unfold zcF;have e1:i64.wrap (8*(j:Int))=((8*j:Nat):Int):=by rw [pU];push_cast;rfl
 rw [pS,e1,zDE,sb,zI rfl (show j<(zgJ k m j).length by omega),sb,zqI (by simp [IntKind.bits];omega),zER,zic,zrQ,zsU rfl,sb,xX,zyb hj,pU];rfl
theorem zyc {v:List UInt8} {m k:Nat} (hk:k<=8) (hv:v.length=k):∀(d j:Nat),j+d=k->zfF v (m:Int) (zgJ k m j) (j:Int)=some (zeu k m):=by
 intro d
 induction d with
 | zero=>
  intro j hj;refine zpq ?_;unfold zcF;have:j=k:=by omega
  subst this;rw [pT,zya]
 | succ d ih=>
  intro j hj;rw [zpp (zyd hk hv (by omega))];exact ih (j+1) (by omega)
theorem zvu {m:Nat} (n:Int):ziK (m:Int) n=some (zeu (min n.toNat 8) m):=by
 unfold ziK;have e:(if (8:Int)<(if n<0 then 0 else n) then (8:Int) else (if n<0 then 0 else n))=((min n.toNat 8:Nat):Int):=by split<;>split<;>omega
 rw [e,zzF rfl (Int.le_refl _) (by omega),sb];have h:=zyc (v:=List.replicate (min n.toNat 8) (0:UInt8)) (m:=m) (k:=min n.toNat 8) (by omega) (by simp) (min n.toNat 8) 0 (by omega);rw [zwE] at h;have h':zfF (List.replicate (min n.toNat 8) (0:UInt8)) (m:Int) (List.replicate (min n.toNat 8) (0:UInt8)) 0=some (zeu (min n.toNat 8) m):=h;rw [h',sb]
theorem zwR {m k:Nat} {n:Int} (hm:m<18446744073709551616) (hk:k=min n.toNat 8):∀(d j:Nat),j+d=k->zce n ((m/256^j:Nat):Int) (zeu j m) (j:Int)=some (zeu k m):=by
 intro d
 induction d with
 | zero=>
  intro j hj;refine zka ?_;unfold zaH;have:j=k:=by omega
  subst this;rw [pT]
 | succ d ih=>
  intro j hj;have v8:=zbv j m;refine (zjZ (wv2':=((m/256^(j+1):Nat):Int)) (out':=zeu (j+1) m) (i':=((j+1:Nat):Int)) ?_).trans (ih (j+1) (by omega));unfold zaH;have h1:(0:Int)<=((m/256^j:Nat):Int):=Int.natCast_nonneg _;rw [pS,yx h1,zic,Int.emod_emod_of_dvd _ (Int.dvd_refl _),zrQ,zsU rfl,sb,zfE (by simp;omega),sb,<-znQ,qw h1,pU];have e:u64.wrap (((m/256^j:Nat):Int)/256)=((m/256^(j+1):Nat):Int):=by
   have hq:m/256^j<=m:=Nat.div_le_self _ _;rw [yC,<-Nat.div_div_eq_div_mul]
   generalize m/256^j=q at hq
   rw [zdi,yB (by omega) (by omega)];omega
  rw [e];rfl
theorem ztY {m:Nat} (hm:m<18446744073709551616) (n:Int):zdA (m:Int) n=some (zeu (min n.toNat 8) m):=by
 unfold zdA;have h:=zwR (n:=n) hm rfl (min n.toNat 8) 0 (by omega);rw [Nat.pow_zero,Nat.div_one] at h;have h':zce n (m:Int) [] 0=some (zeu (min n.toNat 8) m):=h;rw [h',sb]
def zdt (k:Int):Bool:=decide (1<=k/\k<=17)
def kNum (k:Int):Bool:=decide (1<=k/\k<=14)
def zcL (k:Int):Int:=if 15<=k then 2 else if 12<=k then 1 else if 9<=k then 5 else 0
def zbg (k w:Int):Int:=
 if k=1\/k=8 then zpm (sgnS w) else if k=3\/k=5\/k=9\/k=10\/k=11 then w%4294967296 else if k=7 then (if 0<w then 1 else 0) else w
theorem zqB (k:Int):zbM k=some (zdt k):=by unfold zbM zdt;simp [Bool.decide_and]
theorem zpN (k:Int):zbA k=some (kNum k):=by unfold zbA kNum;simp [Bool.decide_and]
theorem zyu (k:Int):zfk k=some (zcL k):=by
 unfold zfk zcL;by_cases h1:15<=k
 ·rw [itT (by simpa using h1),xx h1]
 ·rw [itF (by simpa using h1),xw h1];by_cases h2:12<=k
  ·rw [itT (by simpa using h2),xx h2]
  ·rw [itF (by simpa using h2),xw h2];by_cases h3:9<=k
   ·rw [itT (by simpa using h3),xx h3]
   ·rw [itF (by simpa using h3),xw h3]
theorem zrX (k:Int) (h:0<=w/\w<=18446744073709551615):zdS k w=some (zbg k w):=by
 have hs:=zwU w;unfold zdS zbg;by_cases h1:k=1\/k=8
 ·rw [xx h1];have e:(if (k==1)=true then some (k==1) else some (k==8))=some true:=by rcases h1 with rfl| rfl<;>rfl
  rw [e,sb,itT rfl,zzN h,sb,zDz (by omega),sb]
 ·rw [xw h1];have e:(if (k==1)=true then some (k==1) else some (k==8))=some false:=by rw [pT];simp;omega
  rw [e,sb,itF rfl];by_cases h2:k=3\/k=5\/k=9\/k=10\/k=11
  ·rw [xx h2];have e2:(if (k==3)=true then some (k==3) else if (k==5)=true then some (k==5) else if (k==9)=true then some (k==9) else if (k==10)=true then some (k==10) else some (k==11))=some true:=by
    rcases h2 with rfl| rfl| rfl| rfl| rfl<;>rfl
   rw [e2,sb,itT rfl,yx h.1]
  ·rw [xw h2];have e2:(if (k==3)=true then some (k==3) else if (k==5)=true then some (k==5) else if (k==9)=true then some (k==9) else if (k==10)=true then some (k==10) else some (k==11))=some false:=by
    rw [pT,pT,pT,pT];simp;omega
   rw [e2,sb,itF rfl];by_cases h7:k=7
   ·rw [itT (by simpa using h7),xx h7];by_cases h0:0<w
    ·rw [itT (by simpa using h0),xx h0]
    ·rw [itF (by simpa using h0),xw h0]
   ·rw [itF (by simpa using h7),xw h7]
theorem ziN (k:Int) (h:0<=w/\w<=18446744073709551615):0<=zbg k w/\zbg k w<=18446744073709551615:=by
 have hs:=zwU w;unfold zbg;split
 ·exact zFk (by omega)
 ·split
  ·omega
  ·split
   ·split<;>omega
   ·exact h
theorem zCg {k:Int} {w:Int} (h9:9<=k) (h12:k<12):zbg k w<4294967296:=by
 unfold zbg;rw [xw (by omega),xx (by omega)];omega
theorem zxw (k:Int) {w:Int} (h:0<=w/\w<=18446744073709551615):zbg k (zbg k w)=zbg k w:=by
 have hs:=zwU w;unfold zbg;by_cases h1:k=1\/k=8
 ·simp only [xx h1];rw [zDC hs]
 ·simp only [xw h1];by_cases h2:k=3\/k=5\/k=9\/k=10\/k=11
  ·simp only [xx h2];omega
  ·simp only [xw h2];by_cases h7:k=7
   ·simp only [xx h7];split<;>simp
   ·simp only [xw h7]
abbrev Fld:=zb
abbrev Mes:=zd
def zir {α:Type} (p:α->Bool) (l:List α):Int:=match l.findIdx? p with
 | some i=>(i:Int)
 | none=> -1
theorem zkZ {α:Type} {p:α->Bool} {l:List α} (h:l.findIdx? p=none):zir p l= -1:=by unfold zir;rw [h]
theorem zla {α:Type} {p:α->Bool} {l:List α} {i:Nat} (h:l.findIdx? p=some i):zir p l=(i:Int):=by unfold zir;rw [h]
theorem zrf {α:Type} (p:α->Bool) (l:List α) (F:Int->Option (Unit⊕Int)) (h0:F (l.length:Int)=some (.inl ())) (hs:∀(i:Nat) (h:i<l.length),F (i:Int)=if p l[i] then some (.inr (i:Int)) else F ((i+1:Nat):Int)):
  ∀(d i:Nat),i+d=l.length->(∀j (h:j<l.length),j<i->p l[j]=false)->F (i:Int)=some (match l.findIdx? p with| some k=> .inr (k:Int)| none=> .inl ()):=by
 intro d
 induction d with
 | zero=>
  intro i hi hj;have:i=l.length:=by omega
  subst this;have hn:l.findIdx? p=none:=by
   rw [pf];intro x hx;obtain ⟨j,hj',rfl⟩:=qS hx;exact hj j hj' hj'
  rw [h0,hn]
 | succ d ih=>
  intro i hi hj;have hil:i<l.length:=by omega
  rw [hs i hil];by_cases hp:p l[i]=true
  ·have hf:l.findIdx? p=some i:=by
    rw [pg];exact ⟨hil,hp,fun j hji=>by simpa using hj j (by omega) hji⟩
   rw [xx hp,hf]
  ·rw [xw hp];refine ih (i+1) (by omega) fun j h hji=>?_
   by_cases e:j=i
   ·subst e;simpa using hp
   ·exact hj j h (by omega)
def fldI (m:Mes) (number:Int):Int:=zir (fun f:Fld=>f.Number==number) m.Fields
theorem zod (hm:m.Fields.length<=1152921504606846976) (number:Int):zcO m number=some (fldI m number):=by
 unfold zcO fldI;have h:=zrf (fun f:Fld=>f.Number==number) m.Fields (fun i=>zcA m number i) (by
   refine zgQ ?_;unfold zaY;rw [pR])
  (fun i hi=>by
   have hb:zaY m number i=if ((m.Fields[i]).Number==number)=true then some (.inr (.inr (i:Int))) else some (.inl ((i+1:Nat):Int)):=by
    unfold zaY;rw [pS,zI rfl hi,sb,pU];rfl
   by_cases hp:((m.Fields[i]).Number==number)=true
   ·rw [xx hp] at hb|-;exact zgQ hb
   ·rw [xw hp] at hb|-;exact zkQ hb)
  m.Fields.length 0 (by omega) (fun j _ hj=>by omega)
 have h':zcA m number 0=_:=h;rw [h',sb];unfold zir;cases m.Fields.findIdx? (fun f:Fld=>f.Number==number)<;>rfl
def nmc (i:Nat) (c:UInt8):Bool:=decide (65<=c.toNat/\c.toNat<=90\/97<=c.toNat/\c.toNat<=122\/c.toNat=95\/0<i/\48<=c.toNat/\c.toNat<=57)
def nmA:Nat->List UInt8->Bool
 | _,[]=>true
 | i,c::l=>nmc i c&&nmA (i+1) l
def zeY (s:List UInt8):Bool:=nmA 0 s&&decide (1<=s.length/\s.length<=60)
theorem zgB {α:Type} {l t:List α} {x:α} {k:Nat} (h:l.drop k=x::t):∃hk:k<l.length,l[k]=x/\l.drop (k+1)=t:=by
 have hk:k<l.length:=by
  rcases yN k l.length with h'| h'
  ·exact h'
  ·rw [yg h'] at h;cases h
 rw [xZ hk] at h;injection h with h1 h2;exact ⟨hk,h1,h2⟩
theorem zhz {α:Type} {l:List α} {k:Nat} (h:l.drop k=[]):l.length<=k:=by have:=congrArg List.length h;simp at this;omega
theorem zBy (s:List UInt8) (hs:s.length<=1152921504606846976):∀(l:List UInt8) (i:Nat),s.drop i=l->zcY s i=some (if nmA i l=true then .inl () else .inr ()):=by
 intro l
 induction l with
 | nil=>
  intro i hd;have:=zhz hd;refine zhf ?_;unfold zbq;rw [pT];rfl
 | cons c l ih=>
  intro i hd;obtain ⟨hk,hx,hd'⟩:=zgB hd;have hb:zbq s i=if nmc i c=true then some (.inl ((i+1:Nat):Int)) else some (.inr (.inr ())):=by
   unfold zbq;rw [pS,zI rfl hk,sb,hx,pU];have e:(if (decide ((c.toNat:Int)>=65)) then ((decide ((c.toNat:Int)<=90))|| (if (decide ((c.toNat:Int)>=97)) then ((decide ((c.toNat:Int)<=122))|| (((c.toNat:Int)==95)|| ((decide ((i:Int)>0))&&((decide ((c.toNat:Int)>=48))&&(decide ((c.toNat:Int)<=57)))))) else (((c.toNat:Int)==95)|| ((decide ((i:Int)>0))&&((decide ((c.toNat:Int)>=48))&&(decide ((c.toNat:Int)<=57))))))) else (if (decide ((c.toNat:Int)>=97)) then ((decide ((c.toNat:Int)<=122))|| (((c.toNat:Int)==95)|| ((decide ((i:Int)>0))&&((decide ((c.toNat:Int)>=48))&&(decide ((c.toNat:Int)<=57)))))) else (((c.toNat:Int)==95)|| ((decide ((i:Int)>0))&&((decide ((c.toNat:Int)>=48))&&(decide ((c.toNat:Int)<=57)))))))=nmc i c:=by
    have e95:((c.toNat:Int)==95)=decide (c.toNat=95):=zqb _ 95;have a1:decide ((c.toNat:Int)>=65)=decide (65<=c.toNat):=yT.2 (by omega);have a2:decide ((c.toNat:Int)<=90)=decide (c.toNat<=90):=yT.2 (by omega);have a3:decide ((c.toNat:Int)>=97)=decide (97<=c.toNat):=yT.2 (by omega);have a4:decide ((c.toNat:Int)<=122)=decide (c.toNat<=122):=yT.2 (by omega);have a5:decide ((i:Int)>0)=decide (0<i):=yT.2 (by omega);have a6:decide ((c.toNat:Int)>=48)=decide (48<=c.toNat):=yT.2 (by omega);have a7:decide ((c.toNat:Int)<=57)=decide (c.toNat<=57):=yT.2 (by omega);rw [e95,a1,a2,a3,a4,a5,a6,a7];simp only [nmc,Bool.decide_or,Bool.decide_and]
    generalize decide (65<=c.toNat)=p1
    generalize decide (c.toNat<=90)=p2
    generalize decide (97<=c.toNat)=p3
    generalize decide (c.toNat<=122)=p4
    generalize decide (c.toNat=95)=p5
    generalize decide (0<i)=p6
    generalize decide (48<=c.toNat)=p7
    generalize decide (c.toNat<=57)=p8
    cases p1<;>cases p2<;>cases p3<;>cases p4<;>cases p5<;>cases p6<;>cases p7<;>cases p8<;>rfl
   rw [e];cases nmc i c
   ·rw [pP];rfl
   ·rw [pQ];push_cast;rfl
  rw [nmA];cases hc:nmc i c
  ·rw [hc,xw (by simp)] at hb;rw [zhf hb];rfl
  ·rw [hc,xx rfl] at hb;rw [zlv hb,ih _ hd',xM]
theorem ztS (hs:s.length<=1152921504606846976):zeg s=some (zeY s):=by
 unfold zeg zeY;have h:=zBy s hs s 0 rfl;have h':zcY s 0=_:=h;rw [h',sb];cases nmA 0 s
 ·rfl
 ·simp [Bool.decide_and];rw [yy];simp;omega
def zcH (n:Int) (prev:List Fld) (f:Fld):Int:=
 if zeY f.Name=false then 5 else if prev.any (fun g=>g.Name==f.Name)=true then 6
 else if f.Number<1\/f.Number>536870911\/(19000<=f.Number/\f.Number<20000) then 7
 else if prev.any (fun g=>g.Number==f.Number)=true then 8 else if zdt f.Kind=false then 9
 else if f.Packed=true/\¬(f.Repeated=true/\kNum f.Kind=true) then 10
 else if f.Kind=17/\(f.Of<0\/f.Of>=n)\/f.Kind≠17/\f.Of≠0 then 11 else 0
theorem ztf (n:Int) (prev:List Fld) (f:Fld):0<=zcH n prev f/\zcH n prev f<=11:=by
 unfold zcH
 repeat' split
 all_goals omega
theorem zzo {s:List Mes} {i k:Nat} {m:Mes} (hi:∃h:i<s.length,s[i]=m) (hk:k<=m.Fields.length) (hb:m.Fields.length<=1152921504606846976) (f:Fld):
  ∀(l:List Fld) (j:Nat) (a b:Bool),(m.Fields.take k).drop j=l->j<=k->zcz i k s f a b j=some (a|| l.any (fun g=>g.Name==f.Name),b|| l.any (fun g=>g.Number==f.Number)):=by
 obtain ⟨hi,hm⟩:=hi;intro l
 induction l with
 | nil=>
  intro j a b hd hj;have:=zhz hd;rw [ye] at this;refine zkP ?_;unfold zaX;rw [pT];simp
 | cons g l ih=>
  intro j a b hd hj;obtain ⟨hjk,hx,hd'⟩:=zgB hd;rw [ye] at hjk;rw [List.getElem_take] at hx;refine (zkO (name':=a|| (g.Name==f.Name)) (number':=b|| (g.Number==f.Number)) (j':=((j+1:Nat):Int)) ?_).trans ?_
  ·unfold zaX;have e1:idx s (i:Int)=some m:=by rw [zI rfl hi,hm]
   have e2:idx m.Fields (j:Int)=some g:=by rw [zI rfl (by omega),hx]
   rw [pS,e1,sb,e2,sb,pU];cases a<;>cases b<;>(simp only [qj,ql,yq,e2,sb,qL,ph];push_cast;rfl)
  ·rw [ih _ _ _ hd' (by omega),qx,qx,pD,pD]
theorem zyt {s:List Mes} {i k:Nat} {m:Mes} {f:Fld} (hi:∃h:i<s.length,s[i]=m) (hk:∃h:k<m.Fields.length,m.Fields[k]=f) (hb:m.Fields.length<=1152921504606846976) (hf:f.Name.length<=1152921504606846976):
  zeN s i k=some (zcH s.length (m.Fields.take k) f):=by
 obtain ⟨hil,hm⟩:=hi;obtain ⟨hkl,hfe⟩:=hk;have e1:idx s (i:Int)=some m:=by rw [zI rfl hil,hm]
 have e2:idx m.Fields (k:Int)=some f:=by rw [zI rfl hkl,hfe]
 have h:=zzo ⟨hil,hm⟩ (Nat.le_of_lt hkl) hb f (m.Fields.take k) 0 false false rfl (ya _);have h':zcz i k s f false false 0=_:=h;unfold zeN zcH;rw [e1,sb,e2,sb,h',sb,ztS hf,sb];simp only [qL];cases h1:zeY f.Name
 ·rw [pP,xx (show false=false from rfl)]
 ·rw [pQ,xw (show ¬(true=false) by simp)];cases h2:(m.Fields.take k).any (fun g=>g.Name==f.Name)
  ·rw [pQ,xw (show ¬(false=true) by simp)];by_cases h3:f.Number<1\/f.Number>536870911\/(19000<=f.Number/\f.Number<20000)
   ·rw [itT (by simpa using h3),xx h3]
   ·rw [pT,xw h3];cases h4:(m.Fields.take k).any (fun g=>g.Number==f.Number)
    ·rw [pQ,xw (show ¬(false=true) by simp),zqB,sb];cases h5:zdt f.Kind
     ·rw [pP,xx (show false=false from rfl)]
     ·rw [pQ,xw (show ¬(true=false) by simp)];have e10:(if f.Packed=true then (if f.Repeated=true then (zbA f.Kind>>=fun wa=>some (!wa)) else some (!false)) else some false)=some (decide (f.Packed=true/\¬(f.Repeated=true/\kNum f.Kind=true))):=by
       rw [zpN,sb];cases f.Packed<;>cases f.Repeated<;>cases kNum f.Kind<;>rfl
      rw [e10,sb];by_cases h6:f.Packed=true/\¬(f.Repeated=true/\kNum f.Kind=true)
      ·rw [itT (xV h6),xx h6]
      ·rw [itF (xW h6),xw h6];by_cases h7:f.Kind=17
       ·by_cases h8:f.Of<0\/f.Of>=(s.length:Int)
        ·rw [itT (by simp [h7];simpa using h8),xx (.inl ⟨h7,h8⟩)]
        ·rw [itF (by simp [h7];omega),xw (by simp [h7];omega)]
       ·by_cases h8:f.Of=0
        ·rw [itF (by simp [h7,h8]),xw (by simp [h7,h8])]
        ·rw [itT (by simp [h7,h8]),xx (.inr ⟨h7,h8⟩)]
    ·rw [pP,xx (show true=true from rfl)]
  ·rw [pP,xx (show true=true from rfl)]
def msgF (n:Int) (prev:List Fld):List Fld->Option (Nat×Int)
 | []=>none
 | f::l=>if 0<zcH n prev f then some (prev.length,zcH n prev f) else msgF n (prev++[f]) l
def chkF (n:Int) (prev:List Mes):List Mes->Option (Nat×Int×Int)
 | []=>none
 | m::l=>if zeY m.Name=false then some (prev.length, -1,2) else if prev.any (fun g=>g.Name==m.Name)=true then some (prev.length, -1,3)
  else if 200<m.Fields.length then some (prev.length, -1,4) else match msgF n [] m.Fields with
   | some (k,w)=>some (prev.length,(k:Int),w)
   | none=>chkF n (prev++[m]) l
def zin (s:List Mes):Int×Int×Int:=if s.length=0\/100<s.length then (-1, -1,1) else match chkF s.length [] s with
 | none=>(0,0,0)
 | some (i,k,w)=>((i:Int),k,w)
def zgu (s:List Mes):Bool:=decide ((zin s).2.2=0)
def WS (s:List Mes):Prop:=s.length<=140737488351232/\∀m∈s,m.Name.length<=140737488351232/\m.Fields.length<=140737488351232/\∀f∈m.Fields,f.Name.length<=140737488351232
theorem zxB {s:List Mes} {i:Nat} {m:Mes} (hi:∃h:i<s.length,s[i]=m) (hb:m.Fields.length<=140737488351232) (hn:∀f∈m.Fields,f.Name.length<=140737488351232):
  ∀(l:List Fld) (k:Nat),m.Fields.drop k=l->k<=m.Fields.length->zcy i s k=some (match msgF s.length (m.Fields.take k) l with| some (j,w)=> .inr ((j:Int),w)| none=> .inl ()):=by
 obtain ⟨hil,hm⟩:=hi;have e1:idx s (i:Int)=some m:=by rw [zI rfl hil,hm]
 intro l
 induction l with
 | nil=>
  intro k hd hk;have:=zhz hd;refine zgP ?_;unfold zaW;rw [e1,sb,pT];rfl
 | cons f l ih=>
  intro k hd hk;obtain ⟨hkl,hx,hd'⟩:=zgB hd;have hf:=zyt (s:=s) (i:=i) (k:=k) (m:=m) (f:=f) ⟨hil,hm⟩ ⟨hkl,hx⟩ (by omega) (by have:=hn f (by rw [<-hx];exact xE hkl);omega);have hbd:=ztf s.length (m.Fields.take k) f;have htl:(m.Fields.take k).length=k:=by rw [ye];omega
  rw [msgF];by_cases h0:0<zcH s.length (m.Fields.take k) f
  ·rw [xx h0];refine zgP ?_;unfold zaW;rw [e1,sb,pS,hf,sb,itT (by simpa using h0)];simp only [htl]
  ·rw [xw h0];refine (zkN (k2':=((k+1:Nat):Int)) ?_).trans ?_
   ·unfold zaW;rw [e1,sb,pS,hf,sb,pT,pU];push_cast;rfl
   ·rw [ih (k+1) hd' (by omega),qM hkl,hx]
theorem zxA (hi:∃h:i<s.length,s[i]=m) (hs:s.length<=140737488351232):
  ∀(l:List Mes) (k:Nat) (a:Bool),(s.take i).drop k=l->k<=i->zcx i s a k=some (a|| l.any (fun g=>g.Name==m.Name)):=by
 obtain ⟨hil,hm⟩:=hi;intro l
 induction l with
 | nil=>
  intro k a hd hk;have:=zhz hd;rw [ye] at this;refine zkM ?_;unfold zaV;rw [pT];simp
 | cons g l ih=>
  intro k a hd hk;obtain ⟨hkl,hx,hd'⟩:=zgB hd;rw [ye] at hkl;rw [List.getElem_take] at hx;refine (zkL (twice':=a|| (g.Name==m.Name)) (k':=((k+1:Nat):Int)) ?_).trans ?_
  ·unfold zaV;have e1:idx s (i:Int)=some m:=by rw [zI rfl hil,hm]
   have e2:idx s (k:Int)=some g:=by rw [zI rfl (by omega),hx]
   rw [pS,e1,e2,sb,sb,pU];cases a<;>(simp only [qj,ql,yq,sb,qL,ph];push_cast;rfl)
  ·rw [ih _ _ hd' (by omega),qx,pD]
theorem zxz (hw:WS s):∀(l:List Mes) (i:Nat),s.drop i=l->i<=s.length->zcw s i=some (match chkF s.length (s.take i) l with| some (j,k,w)=> .inr ((j:Int),k,w)| none=> .inl ()):=by
 intro l
 induction l with
 | nil=>
  intro i hd hi;have:=zhz hd;refine zcm ?_;unfold zaU;rw [pT];rfl
 | cons m l ih=>
  intro i hd hi;obtain ⟨hil,hx,hd'⟩:=zgB hd;obtain ⟨hsl,hwm⟩:=hw;obtain ⟨w1,w2,w3⟩:=hwm m (by rw [<-hx];exact xE hil);have htl:(s.take i).length=i:=by rw [ye];omega
  have e1:idx s (i:Int)=some m:=by rw [zI rfl hil,hx]
  have h2:=zxA ⟨hil,hx⟩ hsl (s.take i) 0 false rfl (ya _);have h2':zcx i s false 0=_:=h2;have h3:=zxB ⟨hil,hx⟩ w2 w3 m.Fields 0 rfl (ya _);have h3':zcy i s 0=_:=h3
  have hb:zaU s i=(if zeY m.Name=false then some (.inr (.inr ((i:Int), -1,2))) else if (s.take i).any (fun g=>g.Name==m.Name)=true then some (.inr (.inr ((i:Int), -1,3)))
    else if 200<m.Fields.length then some (.inr (.inr ((i:Int), -1,4))) else match msgF s.length [] m.Fields with
     | some (k,w)=>some (.inr (.inr ((i:Int),(k:Int),w)))
     | none=>some (.inl ((i+1:Nat):Int))):=by
   unfold zaU;rw [pS,h2',sb,e1,sb,ztS (by omega),sb,sb,h3',sb,qL];cases h4:zeY m.Name
   ·rw [pP,xx (show false=false from rfl)]
   ·rw [pQ,xw (show ¬(true=false) by simp)];cases h5:(s.take i).any (fun g=>g.Name==m.Name)
    ·rw [pQ,xw (show ¬(false=true) by simp)];by_cases h6:200<m.Fields.length
     ·rw [pS,xx h6]
     ·rw [pT,xw h6,yr];cases msgF s.length [] m.Fields with
      | none=>simp only;rw [pU];push_cast;rfl
      | some p=>rfl
    ·rw [pP,xx (show true=true from rfl)]
  rw [chkF];by_cases h4:zeY m.Name=false
  ·rw [xx h4] at hb|-;rw [zcm hb];simp only [htl]
  ·rw [xw h4] at hb|-;by_cases h5:(s.take i).any (fun g=>g.Name==m.Name)=true
   ·rw [xx h5] at hb|-;rw [zcm hb];simp only [htl]
   ·rw [xw h5] at hb|-;by_cases h6:200<m.Fields.length
    ·rw [xx h6] at hb|-;rw [zcm hb];simp only [htl]
    ·rw [xw h6] at hb|-;cases h7:msgF s.length [] m.Fields with
     | some p=>
      rw [h7] at hb;rw [zcm hb];simp only [htl]
     | none=>
      rw [h7] at hb;rw [zkK hb,ih _ hd' (by omega),qM hil,hx]
theorem zuJ (hw:WS s):zeM s=some (zin s):=by
 unfold zeM zin;by_cases h:s.length=0\/100<s.length
 ·have e0:((s.length:Int)==0)=decide (s.length=0):=zqb _ 0;rw [e0,itT (by simp only [qu,xP];omega),xx h]
 ·have e0:((s.length:Int)==0)=decide (s.length=0):=zqb _ 0;rw [e0,itF (by simp only [qg,pE];omega),xw h];have h1:=zxz hw s 0 rfl (ya _);have h1':zcw s 0=_:=h1;rw [h1',sb,yr];cases chkF s.length [] s with
  | none=>rfl
  | some p=>rfl
theorem zuK (hw:WS s):zeO s=some (zgu s):=by
 unfold zeO zgu;rw [zuJ hw,sb];rfl
theorem zro :∀(l prev:List Fld),msgF n prev l=none↔∀(k:Nat) (f:Fld),l[k]? =some f->zcH n (prev++l.take k) f=0
 | [],prev=>by simp [msgF]
 | f::l,prev=>by
  have hb:=ztf n prev f;rw [msgF];by_cases h:0<zcH n prev f
  ·rw [xx h];refine ⟨(fun h'=>nomatch h'),fun h'=>?_⟩;have:=h' 0 f rfl;simp at this;omega
  ·rw [xw h,zro l (prev++[f])];constructor
   ·intro h' k g hg;cases k with
    | zero=>simp at hg;subst hg;simp;omega
    | succ k=>have:=h' k g (by simpa using hg);simpa using this
   ·intro h' k g hg;have:=h' (k+1) g (by simpa using hg);simpa using this
theorem zvb :∀(l prev:List Mes),chkF n prev l=none↔∀(i:Nat) (m:Mes),l[i]? =some m->zeY m.Name=true/\(prev++l.take i).any (fun g=>g.Name==m.Name)=false/\m.Fields.length<=200/\msgF n [] m.Fields=none
 | [],prev=>by simp [chkF]
 | m::l,prev=>by
  rw [chkF];by_cases h1:zeY m.Name=false
  ·rw [xx h1];refine ⟨(fun h'=>nomatch h'),fun h'=>?_⟩;have:=(h' 0 m rfl).1;rw [h1] at this;cases this
  ·rw [xw h1];by_cases h2:prev.any (fun g=>g.Name==m.Name)=true
   ·rw [xx h2];refine ⟨(fun h'=>nomatch h'),fun h'=>?_⟩;have:=(h' 0 m rfl).2.1;simp only [yr,yY] at this;rw [h2] at this;cases this
   ·rw [xw h2];by_cases h3:200<m.Fields.length
    ·rw [xx h3];refine ⟨(fun h'=>nomatch h'),fun h'=>?_⟩;have:=(h' 0 m rfl).2.2.1;omega
    ·rw [xw h3];cases h4:msgF n [] m.Fields with
     | some p=>
      refine ⟨(fun h'=>nomatch h'),fun h'=>?_⟩;have:=(h' 0 m rfl).2.2.2;rw [h4] at this;cases this
     | none=>
      simp only;rw [zvb l (prev++[m])];constructor
      ·intro h' i g hg;cases i with
       | zero=>simp at hg;subst hg;exact ⟨by simpa using h1,by simpa using h2,by omega,h4⟩
       | succ i=>have:=h' i g (by simpa using hg);simpa using this
      ·intro h' i g hg;have:=h' (i+1) g (by simpa using hg);simpa using this
theorem zEN:∀(n:Int) (l prev:List Fld) (k:Nat) (w:Int),msgF n prev l=some (k,w)->0<w:=by
 intro n l
 induction l with
 | nil=>intro prev k w h;cases h
 | cons f l ih=>
  intro prev k w h;rw [msgF] at h;split at h
  ·cases h;assumption
  ·exact ih _ _ _ h
theorem zAb:∀(n:Int) (l prev:List Mes) (i:Nat) (k w:Int),chkF n prev l=some (i,k,w)->0<w:=by
 intro n l
 induction l with
 | nil=>intro prev i k w h;cases h
 | cons m l ih=>
  intro prev i k w h;rw [chkF] at h;split at h
  ·cases h;omega
  ·split at h
   ·cases h;omega
   ·split at h
    ·cases h;omega
    ·split at h
     ·rename_i k' w' h';cases h;exact zEN _ _ _ _ _ h'
     ·exact ih _ _ _ _ h
structure zFo (n:Int) (f:Fld):Prop where
 name:zeY f.Name=true
 lo:1<=f.Number
 hi:f.Number<=536870911
 kind:zdt f.Kind=true
 packed:f.Packed=true->f.Repeated=true/\kNum f.Kind=true
 sub:f.Kind=17->0<=f.Of/\f.Of<n
 noSub:f.Kind≠17->f.Of=0
theorem ztg (h:zcH n prev f=0):zFo n f/\prev.any (fun g=>g.Name==f.Name)=false/\prev.any (fun g=>g.Number==f.Number)=false:=by
 unfold zcH at h;split at h
 ·omega
 ·rename_i h1;split at h
  ·omega
  ·rename_i h2;split at h
   ·omega
   ·rename_i h3;split at h
    ·omega
    ·rename_i h4;split at h
     ·omega
     ·rename_i h5;split at h
      ·omega
      ·rename_i h6;split at h
       ·omega
       ·rename_i h7;refine ⟨⟨by simpa using h1,by omega,by omega,by simpa using h5,fun hp=>?_,fun hk=>by omega,fun hk=>by omega⟩,by simpa using h2,by simpa using h4⟩;by_cases hq:f.Repeated=true/\kNum f.Kind=true
        ·exact hq
        ·exact absurd ⟨hp,hq⟩ h6
structure zjk (s:List Mes):Prop where
 len:1<=s.length/\s.length<=100
 name:∀m∈s,zeY m.Name=true
 names:∀(i j:Nat) (a b:Mes),i<j->s[i]? =some a->s[j]? =some b->a.Name≠b.Name
 few:∀m∈s,m.Fields.length<=200
 fld:∀m∈s,∀f∈m.Fields,zFo s.length f
 nums:∀m∈s,∀(i j:Nat) (f g:Fld),i<j->m.Fields[i]? =some f->m.Fields[j]? =some g->f.Number≠g.Number/\f.Name≠g.Name
theorem zqY {α:Type} {l:List α} {p:α->Bool} (h:l.any p=false) {x:α} (hx:x∈l):p x=false:=by
 rw [List.any_eq_false] at h;simpa using h x hx
theorem zvL {s:List Mes} (h:zgu s=true):zjk s:=by
 have h0:(zin s).2.2=0:=by simpa [zgu] using h
 have h1:¬(s.length=0\/100<s.length):=fun hh=>by unfold zin at h0;rw [xx hh] at h0;simp at h0
 have h2:chkF s.length [] s=none:=by
  cases h4:chkF s.length [] s with
  | none=>rfl
  | some p=>
   exfalso;obtain ⟨i,k,w⟩:=p;have h5:(zin s).2.2=w:=by unfold zin;rw [xw h1,h4]
   have:=zAb _ _ _ _ _ _ h4;omega
 have h3:=(zvb s []).1 h2;have at':∀m∈s,zeY m.Name=true/\m.Fields.length<=200/\msgF s.length [] m.Fields=none:=fun m hm=>by
  obtain ⟨i,hi,rfl⟩:=qS hm;have:=h3 i _ (xQ hi);exact ⟨this.1,this.2.2.1,this.2.2.2⟩
 refine ⟨by omega,fun m hm=>(at' m hm).1,fun i j a b hij ha hb=>?_,fun m hm=>(at' m hm).2.1,fun m hm f hf=>?_,fun m hm i j f g hij hf hg=>?_⟩
 ·have:=(h3 j b hb).2.1;have hai:a∈([]++s.take j:List Mes):=by
   rw [yb];exact qD (i:=i) (by rw [yI,xx hij];exact ha)
  simpa using zqY this hai
 ·have h4:=(zro m.Fields []).1 (at' m hm).2.2;obtain ⟨i,hi,rfl⟩:=qS hf;exact (ztg (h4 i _ (xQ hi))).1
 ·have h4:=(zro m.Fields []).1 (at' m hm).2.2;obtain ⟨_,k1,k2⟩:=ztg (h4 j g hg);have hai:f∈([]++m.Fields.take j:List Fld):=by
   rw [yb];exact qD (i:=i) (by rw [yI,xx hij];exact hf)
  exact ⟨by simpa using zqY k2 hai,by simpa using zqY k1 hai⟩
theorem zmN {α:Type} [DecidableEq α] (a b:List α) (F:Int->Option (Unit⊕Unit)) (hl:a.length=b.length) (h0:F (a.length:Int)=some (.inl ()))
  (hs:∀(i:Nat) (h:i<a.length) (h':i<b.length),F (i:Int)=if a[i]=b[i] then F ((i+1:Nat):Int) else some (.inr ())):
  ∀(d i:Nat),i+d=a.length->F (i:Int)=some (if a.drop i=b.drop i then .inl () else .inr ()):=by
 intro d
 induction d with
 | zero=>
  intro i hi;have e1:a.drop i=[]:=yg (by omega);have e2:b.drop i=[]:=yg (by omega);have:i=a.length:=by omega
  rw [e1,e2,xx rfl,this,h0]
 | succ d ih=>
  intro i hi;rw [hs i (by omega) (by omega),xZ (l:=a) (by omega),xZ (l:=b) (by omega)];by_cases h:a[i]'(by omega)=b[i]'(by omega)
  ·rw [xx h,ih (i+1) (by omega),h];simp only [yA,yZ]
  ·rw [xw h,xw (fun e=>h (List.cons.inj e).1)]
theorem zBf {s:List Mes} {i:Nat} {m:Mes} (hi:∃h:i<s.length,s[i]=m) (hb:m.Fields.length<=140737488351232):∀(d k:Nat) (n:Int),k+d=m.Fields.length->∃r,zdz i s n k=some r:=by
 obtain ⟨hil,hm⟩:=hi;have e1:idx s (i:Int)=some m:=by rw [zI rfl hil,hm]
 intro d
 induction d with
 | zero=>
  intro k n hk;refine ⟨n,zlR ?_⟩;unfold zbz;rw [e1,sb,pT]
 | succ d ih=>
  intro k n hk;obtain ⟨r,hr⟩:=ih (k+1) (i64.wrap (n+(i64.wrap (Int.tdiv (((m.Fields[k]'(by omega)).Name.length:Int)) 100)))) (by omega);refine ⟨r,(zlQ (k':=((k+1:Nat):Int)) ?_).trans hr⟩;unfold zbz;rw [e1,sb,pS,sb,zI rfl (by omega),sb,zk (x:=(k:Int)+1) (by omega)];push_cast;rfl
theorem zGa {s:List Mes} (hw:WS s):∃b,zfH s=some b:=by
 obtain ⟨hs,hm⟩:=hw;have key:∀(d i:Nat) (n:Int),i+d=s.length->∃r,zdy s n i=some r:=by
  intro d
  induction d with
  | zero=>
   intro i n hi;refine ⟨n,zlP ?_⟩;unfold zby;rw [pT]
  | succ d ih=>
   intro i n hi;have hil:i<s.length:=by omega
   obtain ⟨q,hq⟩:=zBf (s:=s) (i:=i) (m:=s[i]) ⟨hil,rfl⟩ (hm _ (xE hil)).2.1 (s[i]).Fields.length 0
    (i64.wrap ((i64.wrap ((i64.wrap (n+1))+(i64.wrap (Int.tdiv ((s[i]).Name.length:Int) 100))))+((s[i]).Fields.length:Int))) (by omega)
   have hq':zdz i s (i64.wrap ((i64.wrap ((i64.wrap (n+1))+(i64.wrap (Int.tdiv ((s[i]).Name.length:Int) 100))))+((s[i]).Fields.length:Int))) 0=some q:=hq;obtain ⟨r,hr⟩:=ih (i+1) q (by omega);refine ⟨r,(zlO (i':=((i+1:Nat):Int)) ?_).trans hr⟩;unfold zby;rw [pS,zI rfl hil,sb,sb,hq',sb,zk (x:=(i:Int)+1) (by omega)];push_cast;rfl
 obtain ⟨r,hr⟩:=key s.length 0 0 (by omega);have hr':zdy s 0 0=some r:=hr;exact ⟨_,by unfold zfH;rw [hr',sb]⟩
def zFx (m:Mes) (p:Int):Int:=(m.Fields.getD p.toNat ⟨[],0,0,false,false,0⟩).Number
def zFX (κ:Int->Int) (a b:Int):Prop:=κ a<κ b\/κ a=κ b/\a<b
def cpN (r:Nat):List Nat:=
 if r<128 then [r] else if r<2048 then [192+r/64,128+r%64]
 else if r<65536 then (if 55296<=r/\r<=57343 then [] else [224+r/4096,128+r/64%64,128+r%64])
 else if r<=1114111 then [240+r/262144,128+r/4096%64,128+r/64%64,128+r%64] else []
def cpB (r:Nat):List UInt8:=(cpN r).map UInt8.ofNat
def cont (c:UInt8):Bool:=decide (128<=c.toNat/\c.toNat<192)
def is1:List UInt8->Bool
 | a::_=>decide (a.toNat<128)
 | _=>false
def is2:List UInt8->Bool
 | a::b::_=>decide (194<=a.toNat/\a.toNat<224/\cont b=true)
 | _=>false
def is3:List UInt8->Bool
 | a::b::c::_=>decide (224<=a.toNat/\a.toNat<240/\cont b=true/\cont c=true/\(a.toNat=224->160<=b.toNat)/\(a.toNat=237->b.toNat<160))
 | _=>false
def is4:List UInt8->Bool
 | a::b::c::d::_=>decide (240<=a.toNat/\a.toNat<245/\cont b=true/\cont c=true/\cont d=true/\(a.toNat=240->144<=b.toNat)/\(a.toNat=244->b.toNat<144))
 | _=>false
def nxt (l:List UInt8):Nat:=if is1 l then 1 else if is2 l then 2 else if is3 l then 3 else if is4 l then 4 else 0
theorem zqu (h:n<256):(UInt8.ofNat n=c)↔n=c.toNat:=by
 constructor
 ·intro e;rw [<-e,UInt8.toNat_ofNat'];omega
 ·intro e;rw [e,UInt8.ofNat_toNat]
theorem zDq (r:Int):zfJ r=some (if r<0 then [] else cpB r.toNat):=by
 unfold zfJ;by_cases h0:r<0
 ·rw [pS,xx h0]
 ·rw [xw h0];obtain ⟨n,rfl⟩:∃n:Nat,r=n:=⟨r.toNat,by omega⟩;rw [xX];unfold cpB cpN;by_cases h1:n<128
  ·rw [pT,pS,xx h1,zic,zdP (n:=n) (by omega) (by omega)];rfl
  ·rw [xw h1];by_cases h2:n<2048
   ·rw [pT,pT,pS,xx h2];simp only [qw (show (0:Int)<=n by omega),yx (show (0:Int)<=n by omega),zic];rw [zk (x:=(n:Int)/64) (by omega),pU,pU,zdP (n:=192+n/64) (by omega) (by omega),sb,zdP (n:=128+n%64) (by omega) (by omega)];rfl
   ·rw [xw h2];by_cases h3:n<65536
    ·rw [xx h3];by_cases h4:55296<=n/\n<=57343
     ·rw [pS,xx h4];rfl
     ·rw [pT,pT,pT,pS,xw h4];simp only [qw (show (0:Int)<=n by omega),yx (show (0:Int)<=n by omega),zic]
      rw [zk (x:=(n:Int)/4096) (by omega),zk (x:=(n:Int)/64) (by omega),yx (by omega),pU,pU,pU,
       zdP (n:=224+n/4096) (by omega) (by omega),sb,zdP (n:=128+n/64%64) (by omega) (by omega),sb,zdP (n:=128+n%64) (by omega) (by omega)];rfl
    ·rw [xw h3];by_cases h4:n<=1114111
     ·rw [pT,pT,pT,pT,xx h4];simp only [qw (show (0:Int)<=n by omega),yx (show (0:Int)<=n by omega),zic]
      rw [zk (x:=(n:Int)/262144) (by omega),zk (x:=(n:Int)/4096) (by omega),zk (x:=(n:Int)/64) (by omega),yx (by omega),yx (by omega),pU,pU,pU,pU,
       zdP (n:=240+n/262144) (by omega) (by omega),sb,zdP (n:=128+n/4096%64) (by omega) (by omega),sb,zdP (n:=128+n/64%64) (by omega) (by omega),sb,zdP (n:=128+n%64) (by omega) (by omega)];rfl
     ·rw [pS,xw h4];rfl
def zta:Nat->List UInt8->Nat
 | 1,a::_=>a.toNat
 | 2,a::b::_=>64*(a.toNat%32)+b.toNat%64
 | 3,a::b::c::_=>64*(64*(a.toNat%16)+b.toNat%64)+c.toNat%64
 | 4,a::b::c::d::_=>64*(64*(64*(a.toNat%8)+b.toNat%64)+c.toNat%64)+d.toNat%64
 | _,_=>0
theorem map1 (h:∀x∈l,x<256):l.map UInt8.ofNat=[a]↔l=[a.toNat]:=by
 cases l with
 | nil=>simp
 | cons x l=>cases l with
  | nil=>simp only [xL,qv,yA,qk];exact zqu (h x (by simp))
  | cons y l=>simp
theorem map2 (h:∀x∈l,x<256):l.map UInt8.ofNat=[a,b]↔l=[a.toNat,b.toNat]:=by
 cases l with
 | nil=>simp
 | cons x l=>simp only [xL,yA,zqu (h x (by simp)),map1 (l:=l) fun y hy=>h y (by simp [hy])]
theorem map3 (h:∀x∈l,x<256):l.map UInt8.ofNat=[a,b,c]↔l=[a.toNat,b.toNat,c.toNat]:=by
 cases l with
 | nil=>simp
 | cons x l=>simp only [xL,yA,zqu (h x (by simp)),map2 (l:=l) fun y hy=>h y (by simp [hy])]
theorem map4 (h:∀x∈l,x<256):l.map UInt8.ofNat=[a,b,c,d]↔l=[a.toNat,b.toNat,c.toNat,d.toNat]:=by
 cases l with
 | nil=>simp
 | cons x l=>simp only [xL,yA,zqu (h x (by simp)),map3 (l:=l) fun y hy=>h y (by simp [hy])]
theorem zwp (r:Nat):∀x∈cpN r,x<256:=by
 intro x hx;unfold cpN at hx;split at hx
 ·simp at hx;omega
 ·split at hx
  ·simp at hx;omega
  ·split at hx
   ·split at hx
    ·cases hx
    ·simp at hx;omega
   ·split at hx
    ·simp at hx;omega
    ·cases hx
theorem cpB1 (a:UInt8):cpB a.toNat=[a]↔a.toNat<128:=by
 have ha:=a.toNat_lt;unfold cpB;rw [map1 (zwp _)];unfold cpN;by_cases h:a.toNat<128
 ·simp [h]
 ·rw [xw h,xx (by omega)];simp;omega
theorem cpB2 (a b:UInt8):cpB (64*(a.toNat%32)+b.toNat%64)=[a,b]↔194<=a.toNat/\a.toNat<224/\cont b=true:=by
 have ha:=a.toNat_lt;have hb:=b.toNat_lt;unfold cpB cont;rw [map2 (zwp _)];unfold cpN;by_cases h:64*(a.toNat%32)+b.toNat%64<128
 ·rw [xx h];simp;omega
 ·rw [xw h,xx (by omega)];simp;omega
theorem cpB3 (a b c:UInt8):cpB (64*(64*(a.toNat%16)+b.toNat%64)+c.toNat%64)=[a,b,c]↔224<=a.toNat/\a.toNat<240/\cont b=true/\cont c=true/\(a.toNat=224->160<=b.toNat)/\(a.toNat=237->b.toNat<160):=by
 have ha:=a.toNat_lt;have hb:=b.toNat_lt;have hc:=c.toNat_lt;unfold cpB cont;rw [map3 (zwp _)];unfold cpN;by_cases h:64*(64*(a.toNat%16)+b.toNat%64)+c.toNat%64<128
 ·rw [xx h];simp;omega
 ·rw [xw h];by_cases h2:64*(64*(a.toNat%16)+b.toNat%64)+c.toNat%64<2048
  ·rw [xx h2];simp;omega
  ·rw [xw h2,xx (by omega)];by_cases h3:55296<=64*(64*(a.toNat%16)+b.toNat%64)+c.toNat%64/\64*(64*(a.toNat%16)+b.toNat%64)+c.toNat%64<=57343
   ·rw [xx h3];simp;omega
   ·rw [xw h3];simp;omega
theorem cpB4 (a b c d:UInt8):cpB (64*(64*(64*(a.toNat%8)+b.toNat%64)+c.toNat%64)+d.toNat%64)=[a,b,c,d]↔
  240<=a.toNat/\a.toNat<245/\cont b=true/\cont c=true/\cont d=true/\(a.toNat=240->144<=b.toNat)/\(a.toNat=244->b.toNat<144):=by
 have ha:=a.toNat_lt;have hb:=b.toNat_lt;have hc:=c.toNat_lt;have hd:=d.toNat_lt;unfold cpB cont;rw [map4 (zwp _)];unfold cpN;by_cases h:64*(64*(64*(a.toNat%8)+b.toNat%64)+c.toNat%64)+d.toNat%64<65536
 ·have:∀l:List Nat,l.length<=3->(l=[a.toNat,b.toNat,c.toNat,d.toNat])=False:=fun l hl=>by simp only [eq_iff_iff,iff_false];intro e;rw [e] at hl;simp at hl
  rw [xx h];split
  ·rw [this _ (by simp)];simp;omega
  ·split
   ·rw [this _ (by simp)];simp;omega
   ·split
    ·rw [this _ (by simp)];simp;omega
    ·rw [this _ (by simp)];simp;omega
 ·rw [xw (by omega),xw (by omega),xw h];by_cases h2:64*(64*(64*(a.toNat%8)+b.toNat%64)+c.toNat%64)+d.toNat%64<=1114111
  ·rw [xx h2];simp;omega
  ·rw [xw h2];simp;omega
def isN (n:Nat) (l:List UInt8):Bool:=match n with
 | 1=>is1 l
 | 2=>is2 l
 | 3=>is3 l
 | 4=>is4 l
 | _=>false
theorem zAo (n:Nat) (l:List UInt8) (h1:1<=n) (h4:n<=4) (hl:n<=l.length):cpB (zta n l)=l.take n↔isN n l=true:=by
 match n,l,h1,h4,hl with
 | 1,a::t,_,_,_=>simp only [zta,yJ,yr,cpB1,isN,is1,xP]
 | 2,a::b::t,_,_,_=>simp only [zta,yJ,yr,cpB2,isN,is2,xP]
 | 3,a::b::c::t,_,_,_=>simp only [zta,yJ,yr,cpB3,isN,is3,xP]
 | 4,a::b::c::d::t,_,_,_=>simp only [zta,yJ,yr,cpB4,isN,is4,xP]
theorem zAp (n:Nat) (l:List UInt8) (h:l.length<n):isN n l=false:=by
 match n,l with
 | 0,_=>rfl
 | 1,[]=>rfl
 | 2,[]=>rfl
 | 2,[_]=>rfl
 | 3,[]=>rfl
 | 3,[_]=>rfl
 | 3,[_,_]=>rfl
 | 4,[]=>rfl
 | 4,[_]=>rfl
 | 4,[_,_]=>rfl
 | 4,[_,_,_]=>rfl
 | n+5,_=>rfl
 | 1,_::_=>simp at h
 | 2,_::_::_=>simp at h;omega
 | 3,_::_::_::_=>simp at h;omega
 | 4,_::_::_::_::_=>simp at h;omega
theorem zoJ {b:List UInt8} {a n i r:Nat} (hb:b.length<=1152921504606846976) (hn:n<=4) (h:i<n) (ha:a+i<b.length) (hr:r<=1000000000):
  zbp a b n r i=zbp a b n ((64*r+(b[a+i]).toNat%64:Nat):Int) ((i+1:Nat):Int):=by
 refine zlt ?_;unfold zbo;have hc:=(b[a+i]).toNat_lt;rw [pS,pU,zI (show (a:Int)+i=((a+i:Nat):Int) by push_cast;rfl) ha,sb];simp (disch:=omega) only [zk,yx];push_cast;rfl
theorem zwB (h:n<=i):zbp a b n r i=some (r:Int):=by
 refine zlu ?_;unfold zbo;rw [pT]
theorem zkg {b:List UInt8} {a i:Nat} {c:UInt8} (h:(b.drop a)[i]? =some c):∃h:a+i<b.length,b[a+i]=c:=by
 rw [qe] at h;exact yl.1 h
theorem zGV {b:List UInt8} {a n:Nat} {c:UInt8} {t:List UInt8} (hb:b.length<=1152921504606846976) (hl:b.drop a=c::t) (h1:1<=n) (h4:n<=4) (hn:n<=(b.drop a).length):
  zbp a b n ((if 1<n then c.toNat%([0,0,32,16,8].getD n 0) else c.toNat:Nat):Int) (1:Nat)=some ((zta n (b.drop a):Nat):Int):=by
 have hc:=c.toNat_lt;rw [hl] at hn
 match n,t,h1,h4,hn with
 | 1,t,_,_,_=>rw [zwB (by omega),hl];rfl
 | 2,x::t,_,_,_=>
  obtain ⟨g1,e1⟩:=zkg (b:=b) (a:=a) (i:=1) (c:=x) (by rw [hl];rfl);rw [xx (by omega),zoJ hb (by omega) (by omega) g1 (by simp;omega),zwB (by omega),hl,e1];rfl
 | 3,x::y::t,_,_,_=>
  obtain ⟨g1,e1⟩:=zkg (b:=b) (a:=a) (i:=1) (c:=x) (by rw [hl];rfl);obtain ⟨g2,e2⟩:=zkg (b:=b) (a:=a) (i:=2) (c:=y) (by rw [hl];rfl);have hx:=x.toNat_lt;rw [xx (by omega),zoJ hb (by omega) (by omega) g1 (by simp;omega),zoJ hb (by omega) (by omega) g2 (by simp;omega),zwB (by omega),hl,e1,e2];rfl
 | 4,x::y::z::t,_,_,_=>
  obtain ⟨g1,e1⟩:=zkg (b:=b) (a:=a) (i:=1) (c:=x) (by rw [hl];rfl);obtain ⟨g2,e2⟩:=zkg (b:=b) (a:=a) (i:=2) (c:=y) (by rw [hl];rfl);obtain ⟨g3,e3⟩:=zkg (b:=b) (a:=a) (i:=3) (c:=z) (by rw [hl];rfl);have hx:=x.toNat_lt;have hy:=y.toNat_lt;rw [xx (by omega),zoJ hb (by omega) (by omega) g1 (by simp;omega),zoJ hb (by omega) (by omega) g2 (by simp;omega),zoJ hb (by omega) (by omega) g3 (by simp;omega),zwB (by omega),hl,e1,e2,e3];rfl
theorem zFq {b:List UInt8} {a n:Nat} (hb:b.length<=1152921504606846976) (ha:a<=b.length) (h1:1<=n) (h5:n<=5):
  zbH a b n=if isN n (b.drop a) then some (.inr (.inr (n:Int))) else if n<=4/\n<=(b.drop a).length then some (.inl ((n+1:Nat):Int)) else some (.inr (.inl ())):=by
 have hdl:(b.drop a).length=b.length - a:=by simp
 unfold zbH;by_cases h:n<=4/\n<=(b.drop a).length
 ·rw [xx h,pU,pS];obtain ⟨c,t,hl⟩:∃c t,b.drop a=c::t:=by
   cases hh:b.drop a with
   | nil=>rw [hh] at h;simp at h;omega
   | cons c t=>exact ⟨c,t,rfl⟩
  obtain ⟨g0,e0⟩:=zkg (b:=b) (a:=a) (i:=0) (c:=c) (by rw [hl];rfl);have hc:=c.toNat_lt;rw [zI rfl (show a<b.length by omega),sb];have e0':b[a]'(by omega)=c:=by simpa using e0
  rw [e0',pU];have hp:(if (decide ((n:Int)>1))=true then (idx ([0,0,32,16,8]:(List Int)) (n:Int)>>=fun x2=>remI (c.toNat:Int) x2>>=fun v3=>some v3) else some (c.toNat:Int))=some (((if 1<n then c.toNat%([0,0,32,16,8].getD n 0) else c.toNat:Nat)):Int):=by
   match n,h1,h.1 with
   | 1,_,_=>rfl
   | 2,_,_=>rfl
   | 3,_,_=>rfl
   | 4,_,_=>rfl
  rw [hp,sb];have h2:=zGV hb hl h1 h.1 h.2;have h2':zbp a b n ((if 1<n then c.toNat%([0,0,32,16,8].getD n 0) else c.toNat:Nat):Int) 1=some ((zta n (b.drop a):Nat):Int):=h2;rw [h2',sb,zDq,sb,xw (by omega),xX,znA rfl (show (a:Int)+n=((a+n:Nat):Int) by push_cast;rfl) (by omega) (by omega),sb,pK];by_cases hi:isN n (b.drop a)=true
  ·rw [xx hi,itT (by simpa using (zAo n _ h1 h.1 h.2).2 hi)]
  ·rw [xw hi,itF (by simpa using fun e=>hi ((zAo n _ h1 h.1 h.2).1 e)),pU];rfl
 ·have hn:isN n (b.drop a)=false:=by
   by_cases h4:n<=4
   ·exact zAp _ _ (by omega)
   ·have:n=5:=by omega
    subst this;rfl
  rw [xw h,hn,pU,pT];rfl
theorem ztU {b:List UInt8} {a:Nat} (hb:b.length<=1152921504606846976) (ha:a<=b.length):zfi b a=some ((nxt (b.drop a):Nat):Int):=by
 have key:∀(k n:Nat),n+k=5->1<=n->(∀j,1<=j->j<n->isN j (b.drop a)=false)->∃q,zcW a b n=some q/\(match q with| .inl _=>(0:Int)| .inr u=>u)=((nxt (b.drop a):Nat):Int):=by
  intro k
  induction k with
  | zero=>
   intro n hn h1 hj;have:n=5:=by omega
   subst this;refine ⟨.inl (),zfu ?_,?_⟩
   ·rw [zFq hb ha h1 (by omega),xw (by simp [isN]),xw (by omega)]
   ·have j1:=hj 1 (by omega) (by omega);have j2:=hj 2 (by omega) (by omega);have j3:=hj 3 (by omega) (by omega);have j4:=hj 4 (by omega) (by omega);simp only [isN] at j1 j2 j3 j4;simp [nxt,j1,j2,j3,j4]
  | succ k ih=>
   intro n hn h1 hj;have hb1:=zFq hb ha h1 (show n<=5 by omega);by_cases hi:isN n (b.drop a)=true
   ·rw [xx hi] at hb1;refine ⟨.inr n,zfu hb1,?_⟩;have e:nxt (b.drop a)=n:=by
     match n,h1,(show n<=4 by omega),hi,hj with
     | 1,_,_,hi,_=>simp only [isN] at hi;simp [nxt,hi]
     | 2,_,_,hi,hj=>have j1:=hj 1 (by omega) (by omega);simp only [isN] at hi j1;simp [nxt,hi,j1]
     | 3,_,_,hi,hj=>have j1:=hj 1 (by omega) (by omega);have j2:=hj 2 (by omega) (by omega);simp only [isN] at hi j1 j2;simp [nxt,hi,j1,j2]
     | 4,_,_,hi,hj=>have j1:=hj 1 (by omega) (by omega);have j2:=hj 2 (by omega) (by omega);have j3:=hj 3 (by omega) (by omega);simp only [isN] at hi j1 j2 j3;simp [nxt,hi,j1,j2,j3]
    simp only [e]
   ·rw [xw hi] at hb1;by_cases hl:n<=4/\n<=(b.drop a).length
    ·rw [xx hl] at hb1;obtain ⟨q,h2,h3⟩:=ih (n+1) (by omega) (by omega) fun j g1 g2=>by
      by_cases he:j=n
      ·subst he;simpa using hi
      ·exact hj j g1 (by omega)
     exact ⟨q,(zls hb1).trans h2,h3⟩
    ·rw [xw hl] at hb1;refine ⟨.inl (),zfu hb1,?_⟩;have hall:∀j,1<=j->isN j (b.drop a)=false:=fun j g1=>by
      by_cases g2:j<n
      ·exact hj j g1 g2
      ·by_cases g3:j<=4
       ·exact zAp _ _ (by omega)
       ·match j,g3 with
        | j+5,_=>rfl
     have j1:=hall 1 (by omega);have j2:=hall 2 (by omega);have j3:=hall 3 (by omega);have j4:=hall 4 (by omega);simp only [isN] at j1 j2 j3 j4;simp [nxt,j1,j2,j3,j4]
 obtain ⟨q,h1,h2⟩:=key 4 1 rfl (by omega) fun j g1 g2=>by omega
 unfold zfi;have h1':zcW a b 1=some q:=h1;rw [h1',sb,<-h2];cases q<;>rfl
theorem zko (h:isN n l=true):∃a t,l=a::t/\n<=l.length/\(n=1/\a.toNat<128\/n=2/\194<=a.toNat/\a.toNat<224\/n=3/\224<=a.toNat/\a.toNat<240\/n=4/\240<=a.toNat):=by
 match n,l with
 | 1,a::t=>simp only [isN,is1,xP] at h;exact ⟨a,t,rfl,by simp,.inl ⟨rfl,h⟩⟩
 | 2,a::b::t=>simp only [isN,is2,xP] at h;exact ⟨a,_,rfl,by simp,.inr (.inl ⟨rfl,h.1,h.2.1⟩)⟩
 | 3,a::b::c::t=>simp only [isN,is3,xP] at h;exact ⟨a,_,rfl,by simp,.inr (.inr (.inl ⟨rfl,h.1,h.2.1⟩))⟩
 | 4,a::b::c::d::t=>simp only [isN,is4,xP] at h;exact ⟨a,_,rfl,by simp,.inr (.inr (.inr ⟨rfl,h.1⟩))⟩
 | 0,_=>cases h
 | 1,[]=>cases h
 | 2,[]=>cases h
 | 2,[_]=>cases h
 | 3,[]=>cases h
 | 3,[_]=>cases h
 | 3,[_,_]=>cases h
 | 4,[]=>cases h
 | 4,[_]=>cases h
 | 4,[_,_]=>cases h
 | 4,[_,_,_]=>cases h
 | _+5,_=>cases h
theorem zEv (h:isN n l=true) (h':isN m l=true):n=m:=by
 obtain ⟨a,t,e,_,g⟩:=zko h;obtain ⟨a',t',e',_,g'⟩:=zko h';rw [e] at e';cases e';omega
theorem zGt (h:isN n l=true):nxt l=n:=by
 obtain ⟨_,_,_,_,g⟩:=zko h;have k:∀m,m≠n->isN m l=false:=fun m hm=>by
  cases hh:isN m l with
  | false=>rfl
  | true=>exact absurd (zEv hh h) hm
 have hn:n=1\/n=2\/n=3\/n=4:=by omega
 rcases hn with rfl| rfl| rfl| rfl
 ·simp only [isN] at h;simp [nxt,h]
 ·have j1:=k 1 (by omega);simp only [isN] at h j1;simp [nxt,h,j1]
 ·have j1:=k 1 (by omega);have j2:=k 2 (by omega);simp only [isN] at h j1 j2;simp [nxt,h,j1,j2]
 ·have j1:=k 1 (by omega);have j2:=k 2 (by omega);have j3:=k 3 (by omega);simp only [isN] at h j1 j2 j3;simp [nxt,h,j1,j2,j3]
theorem zsF (h:nxt l≠0):isN (nxt l) l=true:=by
 unfold nxt at h|-;by_cases h1:is1 l=true
 ·simp [h1,isN]
 ·by_cases h2:is2 l=true
  ·simp [h1,h2,isN]
  ·by_cases h3:is3 l=true
   ·simp [h1,h2,h3,isN]
   ·by_cases h4:is4 l=true
    ·simp [h1,h2,h3,h4,isN]
    ·simp [h1,h2,h3,h4] at h
theorem zpD (l:List UInt8):nxt l<=l.length:=by
 by_cases h:nxt l=0
 ·omega
 ·obtain ⟨_,_,_,g,_⟩:=zko (zsF h);exact g
theorem zwK (l:List UInt8):nxt l<=4:=by
 by_cases h:nxt l=0
 ·omega
 ·obtain ⟨_,_,_,_,g⟩:=zko (zsF h);omega
def fst4 (m:Int) (l:List UInt8):Nat×Nat:=
 if h:nxt l=0\/(nxt l:Int)>m then (0,0) else (nxt l+(fst4 (m - nxt l) (l.drop (nxt l))).1,(fst4 (m - nxt l) (l.drop (nxt l))).2+1)
termination_by l.length
decreasing_by all_goals (have:=zpD l;simp only [yn];omega)
theorem zoF (h:nxt l=0\/(nxt l:Int)>m):fst4 m l=(0,0):=by rw [fst4,dif_pos h]
theorem zsw (h:¬(nxt l=0\/(nxt l:Int)>m)):fst4 m l=(nxt l+(fst4 (m - nxt l) (l.drop (nxt l))).1,(fst4 (m - nxt l) (l.drop (nxt l))).2+1):=by rw [fst4,dif_neg h]
theorem zCy (P:Int->List UInt8->Prop) (h0:∀m l,(nxt l=0\/(nxt l:Int)>m)->P m l) (h1:∀m l,¬(nxt l=0\/(nxt l:Int)>m)->P (m - nxt l) (l.drop (nxt l))->P m l) (m:Int) (l:List UInt8):P m l:=by
 generalize hn:l.length=n
 induction n using Nat.strongRecOn generalizing m l with
 | _ n ih=>
  by_cases h:nxt l=0\/(nxt l:Int)>m
  ·exact h0 m l h
  ·have:=zpD l;exact h1 m l h (ih _ (by simp only [yn];omega) _ _ rfl)
theorem zuM {b:List UInt8} (hb:b.length<=140737488355328) (wd:Int) (m:Int) (l:List UInt8):∀(a c:Nat),c<=a->a<=b.length->l=b.drop a->m=wd - a->
  zbR b wd a c=some (((a+(fst4 m l).1:Nat):Int),((c+(fst4 m l).2:Nat):Int)):=by
 refine zCy (fun m l=>∀(a c:Nat),c<=a->a<=b.length->l=b.drop a->m=wd - a->zbR b wd a c=some (((a+(fst4 m l).1:Nat):Int),((c+(fst4 m l).2:Nat):Int))) ?_ ?_ m l
 ·intro m l h a c hc ha hl hm;subst hl hm;have h4:=zwK (b.drop a);refine zkJ ?_;unfold zaT;rw [ztU (by omega) ha,sb,pU,pS,zoF h];rfl
 ·intro m l h ih a c hc ha hl hm;subst hl hm;have h4:=zwK (b.drop a);have hle:=zpD (b.drop a);simp only [yn] at hle;refine (zkI (atv':=((a+nxt (b.drop a):Nat):Int)) (count':=((c+1:Nat):Int)) ?_).trans ?_
  ·unfold zaT;rw [ztU (by omega) ha,sb,pU,pT,pU];rfl
  ·rw [ih (a+nxt (b.drop a)) (c+1) (by omega) (by omega) (by rw [qa]) (by omega),zsw h];simp only [qo,pd 1]
theorem zyy (hb:b.length<=140737488355328) (wd:Int):zeK b wd=some (((fst4 wd b).1:Int),((fst4 wd b).2:Int)):=by
 unfold zeK;have h:=zuM hb wd wd b 0 0 (xB _) (ya _) rfl (by omega);simp only [xH] at h;have h':zbR b wd 0 0=some (((fst4 wd b).1:Int),((fst4 wd b).2:Int)):=h;rw [h',sb]
def pre4 (l:List UInt8):Nat×Nat:=fst4 l.length l
theorem zCx (h:(l.length:Int)<=m):fst4 m l=pre4 l:=by
 have key:∀(n:Nat) (l:List UInt8) (m m':Int),l.length=n->(l.length:Int)<=m->(l.length:Int)<=m'->fst4 m l=fst4 m' l:=by
  intro n
  induction n using Nat.strongRecOn with
  | _ n ih=>
   intro l m m' hn hm hm';have hle:=zpD l;by_cases h:nxt l=0
   ·rw [zoF (.inl h),zoF (.inl h)]
   ·rw [zsw (m:=m) (l:=l) (by omega),zsw (m:=m') (l:=l) (by omega),ih _ (by simp only [yn];omega) (l.drop (nxt l)) (m - nxt l) (m' - nxt l) rfl (by simp only [yn];omega) (by simp only [yn];omega)]
 exact key _ l m l.length rfl h (Int.le_refl _)
theorem zBD (h:nxt l=0):pre4 l=(0,0):=zoF (.inl h)
theorem zES (h:nxt l≠0):pre4 l=(nxt l+(pre4 (l.drop (nxt l))).1,(pre4 (l.drop (nxt l))).2+1):=by
 have hle:=zpD l;unfold pre4;rw [zsw (by omega),zCx (m:=(l.length:Int) - nxt l) (by simp only [yn];omega)];rfl
theorem zDk (P:List UInt8->Prop) (h0:∀l,nxt l=0->P l) (h1:∀l,nxt l≠0->P (l.drop (nxt l))->P l) (l:List UInt8):P l:=by
 generalize hn:l.length=n
 induction n using Nat.strongRecOn generalizing l with
 | _ n ih=>
  by_cases h:nxt l=0
  ·exact h0 l h
  ·have:=zpD l;exact h1 l h (ih _ (by simp only [yn];omega) _ rfl)
def ziy (l:List UInt8):Bool:=decide ((pre4 l).1=l.length)
theorem zwQ (hb:b.length<=140737488355328):zeL b=some (ziy b):=by
 unfold zeL;rw [zyy hb,sb];unfold ziy pre4;by_cases h:(fst4 (b.length:Int) b).1=b.length
 ·simp [h]
 ·have h2:¬(((fst4 (b.length:Int) b).1:Int)=b.length):=by omega
  simp [h,h2]
def enc (v:Nat):List UInt8:=if v<128 then [UInt8.ofNat v] else UInt8.ofNat (128+v%128)::enc (v/128)
termination_by v
decreasing_by omega
def scan:Nat->Nat->List UInt8->Unit⊕(Int×Int×Int)
 | _,_,[]=> .inl ()
 | i,acc,c::t=>if i=9/\1<c.toNat then .inr (0,0,4) else if c.toNat<128 then .inr (((acc+c.toNat%128*128^i:Nat):Int),((i+1:Nat):Int),0) else scan (i+1) (acc+c.toNat%128*128^i) t
def rdR:Unit⊕(Int×Int×Int)->Int×Int×Int
 | .inl _=>(0,0,3)
 | .inr r=>r
def rd (b:List UInt8):Int×Int×Int:=rdR (scan 0 0 (b.take 10))
def hor:List UInt8->Nat
 | []=>0
 | c::t=>c.toNat%128+128*hor t
def lead:Nat->List UInt8->Nat
 | 0,_=>0
 | _+1,[]=>0
 | k+1,c::t=>if 128<=c.toNat then lead k t+1 else 0
theorem zFO (i:Nat):2^(7*i)=128^i:=by rw [Nat.pow_mul]
theorem zEi (c:Nat):c&&&127=c%128:=pN c 7
theorem zBH {acc i c:Nat} (hi:i<=9) (hacc:acc<128^i) (hc:c<256) (h9:i=9->c<=1):
  orI .u64 (acc:Int) (shlI .u64 (u64.wrap (andI .u8 (c:Int) 127)) ((7*i:Nat):Int))=((acc+c%128*128^i:Nat):Int):=by
 have e1:andI .u8 (c:Int) 127=((c%128:Nat):Int):=by
  have:=zxn (k:= .u8) rfl (a:=c) (b:=127) (by simpa [IntKind.bits] using hc) (by simp [IntKind.bits]);rw [zEi] at this;exact this
 have hp:128^i<=128^9:=pi (by omega) hi;have vY:c%128*128^i<18446744073709551616:=by
  by_cases h:i=9
  ·subst h;have:=h9 rfl;have h2:c%128<=1:=by omega
   have:=yh (128^9) h2;omega
  ·have h3:128^i<=128^8:=pi (by omega) (by omega);have:=Nat.mul_le_mul (show c%128<=127 by omega) h3;omega
 have e2:shlI .u64 (u64.wrap ((c%128:Nat):Int)) ((7*i:Nat):Int)=((c%128*128^i:Nat):Int):=by
  unfold shlI;rw [zqW rfl (by simp [IntKind.bits];omega),xX,yX (by simp [IntKind.bits];omega)];have h4:((c%128:Nat):Int)*2^(7*i)=((c%128*128^i:Nat):Int):=by rw [<-zFO];push_cast;rfl
  rw [h4];exact zqW rfl (by simpa [IntKind.bits] using vY)
 rw [e1,e2,zsG rfl (by simp [IntKind.bits];omega) (by simpa [IntKind.bits] using vY)];congr 1;rw [<-zFO] at hacc|-;exact ztI _ _ _ hacc
theorem zBG:∀(t:List UInt8) (v:List UInt8) (i acc:Nat),v.drop i=t->i+t.length=v.length->v.length<=10->acc<128^i->zfS v acc i=some (scan i acc t):=by
 intro t
 induction t with
 | nil=>
  intro v i acc _ hl _ _;refine zht ?_;unfold zcJ;rw [itF (by simp at hl|-;omega)];rfl
 | cons c t ih=>
  intro v i acc hd hl hv hacc;simp only [xY] at hl;have hget:v[i]'(by omega)=c:=by
   have h1:v.drop i=v[i]'(by omega)::v.drop (i+1):=xZ (by omega);rw [hd] at h1;exact (List.cons.inj h1).1.symm
  have hd':v.drop (i+1)=t:=by rw [<-qa,hd];rfl
  have hc:=c.toNat_lt;have hb:zcJ v acc i=if i=9/\1<c.toNat then some (.inr (.inr (0,0,4))) else if c.toNat<128 then some (.inr (.inr (((acc+c.toNat%128*128^i:Nat):Int),((i+1:Nat):Int),0))) else some (.inl (((acc+c.toNat%128*128^i:Nat):Int),((i+1:Nat):Int))):=by
   unfold zcJ;rw [pS,zI rfl (show i<v.length by omega),sb,hget];by_cases h9:i=9/\1<c.toNat
   ·rw [xx h9,pS]
   ·rw [xw h9,pT,pU];have e:((7:Int)*(i:Int))=((7*i:Nat):Int):=by push_cast;rfl
    rw [e,zDD,sb,zBH (by omega) hacc (by omega) (by omega),pU];by_cases h8:c.toNat<128
    ·rw [xx h8,pS];push_cast;rfl
    ·rw [xw h8,pT];push_cast;rfl
  rw [scan];split at hb
  ·rename_i h9;rw [xx h9];exact zht hb
  ·rename_i h9;rw [xw h9];split at hb
   ·rename_i h8;rw [xx h8];exact zht hb
   ·rename_i h8;rw [xw h8,zpW hb];refine ih v (i+1) _ hd' (by omega) hv ?_;rw [yC];have:=yh (128^i) (show c.toNat%128<=127 by omega);omega
theorem zwM (b:List UInt8):zfW b=some (rd b):=by
 unfold zfW rd;have e:(if (10:Int)<(b.length:Int) then (10:Int) else (b.length:Int))=((min 10 b.length:Nat):Int):=by split<;>omega
 have e2:b.take (min 10 b.length)=b.take 10:=by rw [List.take_eq_take_iff];omega
 rw [e,zxD rfl (by omega),sb,e2];have h:=zBG (b.take 10) (b.take 10) 0 0 rfl (by simp) (by simp;omega) (by simp);have h':zfS (b.take 10) 0 0=some (scan 0 0 (b.take 10)):=h;rw [h',sb];cases scan 0 0 (b.take 10)<;>rfl
theorem zEZ (b:List UInt8):zji b=some ((rd b).2.1,(rd b).2.2):=by unfold zji;rw [zwM,sb]
theorem zwD:∀(k:Nat) (l:List UInt8),lead k l<=k/\lead k l<=l.length
 | 0,_=>⟨xB _,ya _⟩
 | _+1,[]=>⟨ya _,xB _⟩
 | k+1,c::t=>by
  have:=zwD k t;rw [lead];split<;>simp<;>omega
theorem zvO:∀(l:List UInt8) (i acc:Nat),i+l.length<=10->i<=9->
  scan i acc l=if i+lead (10 - i) l=10 then .inr (0,0,4) else if lead (10 - i) l=l.length then .inl () else if i+lead (10 - i) l=9/\1<(l.getD (lead (10 - i) l) 0).toNat then .inr (0,0,4) else
   .inr (((acc+hor (l.take (lead (10 - i) l+1))*128^i:Nat):Int),((i+lead (10 - i) l+1:Nat):Int),0):=by
 intro l
 induction l with
 | nil=>
  intro i acc _ hi;obtain ⟨k,hk⟩:∃k,10 - i=k+1:=⟨9 - i,by omega⟩;rw [hk];simp only [lead,scan,yU];rw [xw (by omega),xx trivial]
 | cons c t ih=>
  intro i acc hl hi;obtain ⟨k,hk⟩:∃k,10 - i=k+1:=⟨9 - i,by omega⟩;simp only [xY] at hl;rw [scan];by_cases hc:128<=c.toNat
  ·have e:lead (10 - i) (c::t)=lead k t+1:=by rw [hk,lead,xx hc]
   rw [e];by_cases h9:i=9
   ·have:k=0:=by omega
    subst this;rw [xx ⟨h9,by omega⟩,lead,xx (by omega)]
   ·rw [xw (by omega),xw (by omega),ih (i+1) _ (by omega) (by omega),show 10 - (i+1)=k by omega];by_cases h1:i+1+lead k t=10
    ·rw [xx h1,xx (show i+(lead k t+1)=10 by omega)]
    ·rw [xw h1,xw (show ¬i+(lead k t+1)=10 by omega)];by_cases h2:lead k t=t.length
     ·rw [xx h2,xx (show lead k t+1=(c::t).length by simp;omega)]
     ·rw [xw h2,xw (show ¬lead k t+1=(c::t).length by simp;omega)];have eg:(c::t).getD (lead k t+1) 0=t.getD (lead k t) 0:=by simp [List.getD]
      rw [eg];by_cases h3:i+1+lead k t=9/\1<(t.getD (lead k t) 0).toNat
      ·rw [xx h3,xx (show i+(lead k t+1)=9/\1<(t.getD (lead k t) 0).toNat by omega)]
      ·rw [xw h3,xw (show ¬(i+(lead k t+1)=9/\1<(t.getD (lead k t) 0).toNat) by omega)];rw [yJ,hor,yC];have e5:acc+c.toNat%128*128^i+hor (t.take (lead k t+1))*(128^i*128)=acc+(c.toNat%128+128*hor (t.take (lead k t+1)))*128^i:=by
        rw [q9,qm 128,yP (128^i) 128,<-qm,yP _ 128,qm];omega
       rw [e5];congr 3;omega
  ·have e:lead (10 - i) (c::t)=0:=by rw [hk,lead,xw hc]
   rw [e];simp only [yv,xY,List.getD_cons_zero];rw [xw (show ¬i=10 by omega),xw (show ¬0=t.length+1 by omega)];by_cases h9:i=9/\1<c.toNat
   ·rw [xx h9,xx h9]
   ·rw [xw h9,xw h9,xx (show c.toNat<128 by omega)];simp [hor]
theorem ztn (x y:List UInt8):hor (x++y)=hor x+128^x.length*hor y:=by
 induction x with
 | nil=>simp [hor]
 | cons c t ih=>simp only [yo,hor,ih,xY,yC,Nat.mul_add];rw [yP (128^t.length) 128,qm];omega
theorem zCA (l:List UInt8):hor l<128^l.length:=by
 induction l with
 | nil=>simp [hor]
 | cons c t ih=>simp only [hor,xY,yC];omega
theorem zCz (l:List UInt8) (j:Nat):hor (l.drop j)<=hor l:=by
 induction l generalizing j with
 | nil=>simp
 | cons c t ih=>
  cases j with
  | zero=>exact xB _
  | succ j=>have:=ih j;simp only [List.drop_succ_cons,hor];omega
theorem zBI (b:List UInt8) (a:Nat) (hb:b.length<=1152921504606846976):∀(k n:Nat),n+k=10->a+n<=b.length->zcU a b n=some ((n+lead k (b.drop (a+n)):Nat):Int):=by
 intro k
 induction k with
 | zero=>
  intro n hn ha;refine zft ?_;unfold zaM;rw [pU];by_cases h1:a+n<b.length
  ·rw [pS,pT,sb,pQ];rfl
  ·rw [pT,sb,pQ];rfl
 | succ k ih=>
  intro n hn ha;by_cases h1:a+n<b.length
  ·have hd:b.drop (a+n)=b[a+n]::b.drop (a+(n+1)):=xZ h1;have hbody:zaM a b n=if 128<=b[a+n].toNat then some (.inl ((n+1:Nat):Int)) else some (.inr (n:Int)):=by
    unfold zaM;rw [pU,pU,pS,pS,zI (show (a:Int)+n=((a+n:Nat):Int) by push_cast;rfl) h1,sb,sb];by_cases h2:128<=b[a+n].toNat
    ·rw [xx h2,pS];push_cast;rfl
    ·rw [xw h2,pT]
   rw [hd,lead];by_cases h2:128<=b[a+n].toNat
   ·rw [xx h2] at hbody|-;rw [zlp hbody,ih (n+1) (by omega) (by omega)];congr 2;omega
   ·rw [xw h2] at hbody|-;exact zft hbody
  ·have hd:b.drop (a+n)=[]:=yg (by omega);rw [hd];refine zft ?_;unfold zaM;rw [pU,pT,sb,pQ];rfl
theorem zBJ (b:List UInt8) (a m:Nat) (hb:b.length<=1152921504606846976) (hm:a+m<=b.length) (hh:hor ((b.drop a).take m)<18446744073709551616):
  ∀(j:Nat),j<=m->zcV a b (hor (((b.drop a).take m).drop j)) ((j:Int) - 1)=some ((hor ((b.drop a).take m):Nat):Int):=by
 intro j
 induction j with
 | zero=>
  intro _;refine zlr ?_;unfold zbn;rw [pR];rfl
 | succ j ih=>
  intro hj;have hL:((b.drop a).take m).length=m:=by simp;omega
  have hd:((b.drop a).take m).drop j=((b.drop a).take m)[j]'(by omega)::((b.drop a).take m).drop (j+1):=xZ (by omega);have hc:((b.drop a).take m)[j]'(by omega)=b[a+j]'(by omega):=by simp
  have h1:=zCz ((b.drop a).take m) j;rw [hd,hor,hc] at h1;have h2:=(b[a+j]'(by omega)).toNat_lt;refine (zlq (wv':=(hor (((b.drop a).take m).drop j):Nat)) (i':=(j:Int) - 1) ?_).trans (ih (by omega));unfold zbn;rw [itT (by simp),pU,zI (show (a:Int)+(((j+1:Nat):Int) - 1)=((a+j:Nat):Int) by push_cast;omega) (by omega),sb,pU,hd,hor,hc];simp only [zdi];rw [yx (by omega)];congr 3
  ·omega
  ·push_cast;omega
theorem zDT (hn:n<=9) (hC:C<256) (h9:¬(n=9/\1<C)) (hX:X<128^n):X+128^n*(C%128)<18446744073709551616:=by
 by_cases h9':n=9
 ·subst h9';have:C%128<=1:=by omega
  have:=pn (128^9) this;omega
 ·have h5:128^n<=128^8:=pi (by omega) (by omega);have h6:C%128<=127:=by omega
  have:=Nat.mul_le_mul h5 h6;omega
theorem zzM (b:List UInt8) (a:Nat) (hb:b.length<=1152921504606846976) (ha:a<=b.length):zdo b a=some (rd (b.drop a)):=by
 unfold zdo;have h1:=zBI b a hb 10 0 rfl (by omega);simp only [xH,yv] at h1;have h1':zcU a b 0=some ((lead 10 (b.drop a):Nat):Int):=h1;rw [h1',sb];have hle:=zwD 10 (b.drop a);have v8:(b.drop a).length=b.length - a:=by simp
 -- the ten bytes that count
 have htake:∀(k:Nat) (l:List UInt8),lead k (l.take k)=lead k l:=by
  intro k
  induction k with
  | zero=>intro l;rfl
  | succ k ih=>intro l;cases l with
   | nil=>rfl
   | cons c t=>simp only [yJ,lead,ih]
 have hs:=zvO ((b.drop a).take 10) 0 0 (by simp;omega) (by omega);simp only [xH,q8,htake,Nat.pow_zero,Nat.mul_one] at hs;unfold rd;rw [hs];by_cases h10:lead 10 (b.drop a)=10
 ·rw [xx h10,pS];rfl
 ·rw [xw h10,pT,pU];by_cases hl:lead 10 (b.drop a)=(b.drop a).length
  ·rw [xx (show lead 10 (b.drop a)=((b.drop a).take 10).length by rw [ye];omega),pS];rfl
  ·rw [xw (show ¬lead 10 (b.drop a)=((b.drop a).take 10).length by rw [ye];omega),pT];have vY:a+lead 10 (b.drop a)<b.length:=by omega
   have hg:((b.drop a).take 10).getD (lead 10 (b.drop a)) 0=b[a+lead 10 (b.drop a)]:=by
    rw [qN,yI,xx (by omega),qe,xQ vY];rfl
   rw [hg,pc,yX (by omega)];have hc:=(b[a+lead 10 (b.drop a)]).toNat_lt;have hg2:(if (((lead 10 (b.drop a):Nat):Int)==9)=true then (idx b ((a:Int)+((lead 10 (b.drop a):Nat):Int))>>=fun x2=>some (decide ((x2.toNat:Int)>1))) else some false)=some (decide (lead 10 (b.drop a)=9/\1<(b[a+lead 10 (b.drop a)]).toNat)):=by
    by_cases h9:lead 10 (b.drop a)=9
    ·rw [pS,zI (show (a:Int)+((lead 10 (b.drop a):Nat):Int)=((a+lead 10 (b.drop a):Nat):Int) by push_cast;rfl) vY,sb];congr 1;simp only [h9,yZ,yT];omega
    ·rw [pT];simp [h9]
   rw [hg2,sb];by_cases h9:lead 10 (b.drop a)=9/\1<(b[a+lead 10 (b.drop a)]).toNat
   ·rw [xx h9,itT (by simpa using h9)];rfl
   ·rw [xw h9,itF (xW h9)];have hbd:hor ((b.drop a).take (lead 10 (b.drop a)+1))<18446744073709551616:=by
     have hsp:(b.drop a).take (lead 10 (b.drop a)+1)=(b.drop a).take (lead 10 (b.drop a))++[b[a+lead 10 (b.drop a)]]:=by
      rw [List.take_add_one,qe,xQ vY];rfl
     rw [hsp,ztn];have h3:=zCA ((b.drop a).take (lead 10 (b.drop a)));have h4:((b.drop a).take (lead 10 (b.drop a))).length=lead 10 (b.drop a):=by simp;omega
     rw [h4] at h3|-;simp only [hor,Nat.mul_zero,yv];exact zDT (by omega) (by omega) h9 h3
    have h2:=zBJ b a (lead 10 (b.drop a)+1) hb (by omega) hbd (lead 10 (b.drop a)+1) (xB _);have hz:((b.drop a).take (lead 10 (b.drop a)+1)).drop (lead 10 (b.drop a)+1)=[]:=yg (by simp;omega);rw [hz] at h2;have e3:(((lead 10 (b.drop a)+1:Nat):Int) - 1)=((lead 10 (b.drop a):Nat):Int):=by push_cast;omega
    rw [e3] at h2;have h2':zcV a b 0 ((lead 10 (b.drop a):Nat):Int)=some ((hor ((b.drop a).take (lead 10 (b.drop a)+1)):Nat):Int):=h2;rw [h2',sb,pU];simp [rdR]
theorem zvs:∀(k:Nat) (l:List UInt8),lead k (l.take k)=lead k l
 | 0,_=>rfl
 | _+1,[]=>rfl
 | k+1,c::t=>by simp only [yJ,lead,zvs k t]
theorem zvr:∀(k:Nat) (l:List UInt8),(∀y∈l.take (lead k l),128<=y.toNat)/\∀(h:lead k l<l.length),lead k l<k->(l[lead k l]).toNat<128
 | 0,_=>⟨fun y hy=>by simp [lead] at hy,fun _ h=>by omega⟩
 | _+1,[]=>⟨fun y hy=>by simp at hy,fun h=>by simp at h⟩
 | k+1,c::t=>by
  obtain ⟨h1,h2⟩:=zvr k t;by_cases hc:128<=c.toNat
  ·have e:lead (k+1) (c::t)=lead k t+1:=by rw [lead,xx hc]
   constructor
   ·rw [e,yJ];intro y hy;cases hy with
    | head=>exact hc
    | tail _ hy=>exact h1 y hy
   ·simp only [e,pF,xY];intro h hk;exact h2 (by omega) (by omega)
  ·have e:lead (k+1) (c::t)=0:=by rw [lead,xw hc]
   constructor
   ·rw [e];intro y hy;simp at hy
   ·simp only [e];intro _ _;simp;omega
theorem zyq (b:List UInt8):rd b=(0,0,4)\/(rd b=(0,0,3)/\b.length<=9)\/
  ∃x c y,b=x++c::y/\(∀z∈x,128<=z.toNat)/\c.toNat<128/\x.length<=9/\hor (x++[c])<18446744073709551616/\rd b=(((hor (x++[c]):Nat):Int),((x.length+1:Nat):Int),0):=by
 have hle:=zwD 10 b;have hs:=zvO (b.take 10) 0 0 (by simp;omega) (by omega);simp only [xH,q8,zvs,Nat.pow_zero,Nat.mul_one] at hs;unfold rd;rw [hs];by_cases h10:lead 10 b=10
 ·rw [xx h10];exact .inl rfl
 ·rw [xw h10];by_cases hl:lead 10 b=(b.take 10).length
  ·rw [xx hl];refine .inr (.inl ⟨rfl,?_⟩);rw [ye] at hl;omega
  ·rw [xw hl];rw [ye] at hl;have vY:lead 10 b<b.length:=by omega
   have hg:(b.take 10).getD (lead 10 b) 0=b[lead 10 b]:=by
    rw [qN,yI,xx (by omega),xQ vY];rfl
   rw [hg,pc,yX (by omega)];have hc:=(b[lead 10 b]).toNat_lt;by_cases h9:lead 10 b=9/\1<(b[lead 10 b]).toNat
   ·rw [xx h9];exact .inl rfl
   ·rw [xw h9];obtain ⟨hf1,hf2⟩:=zvr 10 b;have hsp:b.take (lead 10 b+1)=b.take (lead 10 b)++[b[lead 10 b]]:=by
     rw [List.take_add_one,xQ vY];rfl
    have v8:(b.take (lead 10 b)).length=lead 10 b:=by rw [ye];omega
    refine .inr (.inr ⟨b.take (lead 10 b),b[lead 10 b],b.drop (lead 10 b+1),?_,hf1,hf2 vY (by omega),by omega,?_,?_⟩)
    ·rw [<-xZ vY,px]
    ·rw [ztn];have h3:=zCA (b.take (lead 10 b));rw [v8] at h3|-;simp only [hor,Nat.mul_zero,yv];exact zDT (by omega) (by omega) h9 h3
    ·rw [hsp,v8];simp [rdR]
theorem zkj (h:v<128):enc v=[UInt8.ofNat v]:=by rw [enc,xx h]
theorem zrb (h:¬v<128):enc v=UInt8.ofNat (128+v%128)::enc (v/128):=by rw [enc,xw h]
theorem zsu:∀(v:Nat),(enc v).length=lenN v:=by
 intro v
 induction v using Nat.strongRecOn with
 | _ v ih=>
  by_cases h:v<128
  ·rw [zkj h,zjD h];rfl
  ·rw [zrb h,zlc h,xY,ih _ (by omega)]
theorem zjm {v:Nat} (h:v<18446744073709551616):1<=(enc v).length/\(enc v).length<=10:=by
 rw [zsu];exact ⟨zCW v,ztv h⟩
theorem zDA:∀(v i acc:Nat) (more:List UInt8),v*128^i<18446744073709551616->scan i acc (enc v++more)= .inr (((acc+v*128^i:Nat):Int),((i+(enc v).length:Nat):Int),0):=by
 intro v
 induction v using Nat.strongRecOn with
 | _ v ih=>
  intro i acc more hv;have h9:i=9->v<=1:=fun h=>by
   subst h;by_cases h1:v<=1
   ·exact h1
   ·have:=yh (128^9) (show 2<=v by omega);omega
  by_cases h:v<128
  ·have e:(UInt8.ofNat v).toNat=v:=by simp;omega
   rw [zkj h,List.singleton_append,scan,e,xw (by omega),xx h,qf h];rfl
  ·have e:(UInt8.ofNat (128+v%128)).toNat=128+v%128:=by simp;omega
   rw [zrb h,yo,scan,e,xw (by omega),xw (by omega)];have h2:v/128*128^(i+1)<=v*128^i:=by
    rw [yC,yP (128^i) 128,<-qm];exact yh _ (by omega)
   rw [ih (v/128) (by omega) (i+1) _ _ (by omega)];have e3:acc+(128+v%128)%128*128^i+v/128*128^(i+1)=acc+v*128^i:=by
    have e5:v/128*128^(i+1)=v/128*128*128^i:=by rw [yC,yP (128^i) 128,<-qm]
    rw [e5,show (128+v%128)%128=v%128 by omega,qo,<-q9,show v%128+v/128*128=v by omega]
   rw [e3,xY];congr 3;omega
theorem zDp {v:Nat} (more:List UInt8) (h:v<18446744073709551616):rd (enc v++more)=((v:Int),(((enc v).length:Nat):Int),0):=by
 unfold rd;rw [qn,yH (zjm h).2,zDA v 0 0 _ (by simpa using h)];simp [rdR]
theorem zBK:∀(k v:Nat),v<128^(k+1)->v<18446744073709551616->zcf (k+1) (v:Int)=some (enc v):=by
 intro k
 induction k with
 | zero=>
  intro v hv _;rw [zcf];unfold zeI;rw [pS,zic,zdP (n:=v) (by omega) (by omega),sb,zkj (by omega)]
 | succ k ih=>
  intro v hv h64;rw [zcf];unfold zeI;by_cases h:v<128
  ·rw [pS,zic,zdP (n:=v) (by omega) (by omega),sb,zkj h]
  ·rw [pT,zic,zdi,zdi,yx (by omega),qw (by omega)];rw [zdP (n:=128+v%128) (by omega) (by omega),sb];have e:((v:Int)/128%18446744073709551616)=((v/128:Nat):Int):=by omega
   have h2:v/128<128^(k+1):=by rw [yC] at hv;exact Nat.div_lt_of_lt_mul (by omega)
   rw [e,ih _ h2 (by omega),sb];have:=(zjm (v:=v/128) (by omega)).2;rw [zfE (by simp;omega),sb,zrb h];rfl
theorem zrs {fuel:Nat} (hf:10<=fuel) {v:Nat} (h:v<18446744073709551616):zcf fuel (v:Int)=some (enc v):=by
 obtain ⟨k,rfl⟩:∃k,fuel=k+1:=⟨fuel - 1,by omega⟩;have h1:128^10<=128^(k+1):=pi (by omega) hf;exact zBK k v (by omega) h
theorem zDF (v:Nat):shrI .u64 (v:Int) 7=((v/128:Nat):Int):=zqI (k:= .u64) (a:=v) (b:=7) (by simp [IntKind.bits])
theorem zCY:∀(w n:Nat),n+w<9223372036854775808+w->n+lz w<=1152921504606846976->zhv w n=some ((n+lz w:Nat):Int):=by
 intro w
 induction w using Nat.strongRecOn with
 | _ w ih=>
  intro n hn hl;by_cases h:w=0
  ·subst h;refine zsg ?_;unfold zfb;rw [pR];rfl
  ·have e:=zGr h;refine (zsf (wv2':=((w/128:Nat):Int)) (n':=((n+1:Nat):Int)) ?_).trans ?_
   ·unfold zfb;rw [pS,zDF,pU];rfl
   ·rw [ih (w/128) (by omega) (n+1) (by omega) (by omega)];congr 2;omega
theorem zCX {v:Nat} (h:v<18446744073709551616):zlN (v:Int)=some ((lenN v:Nat):Int):=by
 unfold zlN;have h1:=zGq v;have h2:=ztv h;have h3:=zCY (v/128) 1 (by omega) (by omega);have h3':zhv ((v/128:Nat):Int) 1=some ((1+lz (v/128):Nat):Int):=h3;rw [zDF,h3',sb,h1]
theorem zGv:∀n<256,n||| 128=n%128+128:=by decide+kernel
theorem zDn:∀(v:Nat) (l:List UInt8),v<18446744073709551616->l.length+(enc v).length<=1152921504606->∃(v':Nat) (l':List UInt8),zhk (v:Int) l=some ((v':Int),l')/\v'<128/\l'++[UInt8.ofNat v']=l++enc v:=by
 intro v
 induction v using Nat.strongRecOn with
 | _ v ih=>
  intro l hv hl;by_cases h:v<128
  ·refine ⟨v,l,zqU ?_,h,by rw [zkj h]⟩;unfold zdX;rw [pT]
  ·rw [zrb h,xY] at hl;obtain ⟨v',l',h1,h2,h3⟩:=ih (v/128) (by omega) (l++[UInt8.ofNat (128+v%128)]) (by omega) (by simp;omega);refine ⟨v',l',?_,h2,by rw [h3,zrb h];simp⟩;refine (zqT (wv2':=((v/128:Nat):Int)) (l':=l++[UInt8.ofNat (128+v%128)]) ?_).trans h1;unfold zdX;have e1:(v:Int)%256=((v%256:Nat):Int):=by omega
   have e2:orI .u8 ((v%256:Nat):Int) 128=((v%128+128:Nat):Int):=by
    have:=zsG (k:= .u8) rfl (a:=v%256) (b:=128) (by simp [IntKind.bits];omega) (by simp [IntKind.bits]);rw [zGv _ (by omega)] at this;have e3:((128:Nat):Int)=128:=rfl;rw [e3] at this;rw [this];congr 1;omega
   rw [pS,zic,e1,e2,zdP (n:=128+v%128) (by omega) (by omega),sb,zfE (by simp;omega),sb,zDF]
theorem zzH {v:Nat} (b:List UInt8) (h:v<18446744073709551616) (hb:b.length<=1099511627776):zhs b (v:Int)=some (b++enc v):=by
 unfold zhs;have h1:=ztv h;have h2:=(zjm h).2;rw [zCX h,sb,pU,zEM (by omega) (by omega),sb,zfE (by simp;omega),sb];obtain ⟨v',l',h3,h4,h5⟩:=zDn v b h (by omega);have v8:l'.length+1=b.length+(enc v).length:=by have:=congrArg List.length h5;simpa using this
 simp only [yb];rw [h3,sb,zic];simp only;rw [zdP (n:=v') (by omega) (by omega),sb,zfE (by simp;omega),sb,h5]
theorem zud (a b:List UInt8):zff a b=some (a==b):=rfl
theorem all_nil (acc:List Int):zpl [] acc=some (.inl acc):=by
 refine zqS ?_;unfold ziI;rw [pR]
def zcj (n w:Int):Bool:=decide (1<=n/\n<=536870911/\(w=0\/w=1\/w=2\/w=5))
def tgR (r:Int×Int×Int):Int×Int×Int×Int:=
 if r.2.2≠0 then (0,0,0,r.2.2) else if 4294967295<r.1\/zcj (r.1/8) (r.1%8)=false then (0,0,0,5) else (r.1/8,r.1%8,r.2.1,0)
def tg (l:List UInt8):Int×Int×Int×Int:=tgR (rd l)
def tW (n w:Int):Nat:=(8*n+w).toNat
theorem zeS :zcj n w=true↔1<=n/\n<=536870911/\(w=0\/w=1\/w=2\/w=5):=by simp [zcj]
theorem zyx (n w:Int):zeJ n w=some (zcj n w):=by
 unfold zeJ zcj;simp [Bool.decide_and,Bool.decide_or,Bool.beq_eq_decide_eq]
theorem zhB (l:List UInt8):0<=(rd l).1/\(rd l).1<18446744073709551616/\0<=(rd l).2.1/\(rd l).2.1<=10/\(rd l).2.1<=l.length/\((rd l).2.2=0\/(rd l).2.2=3\/(rd l).2.2=4)/\((rd l).2.2=0->1<=(rd l).2.1):=by
 rcases zyq l with h| ⟨h,_⟩| ⟨x,c,y,e,_,_,hl,hv,h⟩
 ·rw [h];simp
 ·rw [h];simp
 ·have:l.length=x.length+1+y.length:=by rw [e];simp;omega
  rw [h];refine ⟨?_,?_,?_,?_,?_,.inl rfl,fun _=>?_⟩<;>simp only<;>omega
theorem zHl (x:List UInt8) (c:UInt8) (y:List UInt8) (hx:∀z∈x,128<=z.toNat) (hc:c.toNat<128) (hl:x.length<=9) (hv:hor (x++[c])<18446744073709551616):
  rd (x++c::y)=(((hor (x++[c]):Nat):Int),((x.length+1:Nat):Int),0):=by
 have key:∀(x:List UInt8) (z:List UInt8) (i acc:Nat),(∀z∈x,128<=z.toNat)->i+x.length<=9->acc+hor (x++[c])*128^i<18446744073709551616->scan i acc (x++c::z)= .inr (((acc+hor (x++[c])*128^i:Nat):Int),((i+x.length+1:Nat):Int),0):=by
  intro x
  induction x with
  | nil=>
   intro z i acc _ hi hv;have e1:hor ([]++[c])=c.toNat:=by simp [hor];omega
   rw [e1] at hv|-;rw [yb,scan,xw,xx hc,qf hc]
   ·rfl
   ·rintro ⟨rfl,h2⟩;have:=yh (128^9) (show 2<=c.toNat by omega);omega
  | cons d x ih=>
   intro z i acc hx hi hv;simp only [xY] at hi;have hd:=hx d xy;have e5:acc+hor ((d::x)++[c])*128^i=acc+d.toNat%128*128^i+hor (x++[c])*128^(i+1):=by
    rw [yo,hor,yC,q9,yP (128^i) 128,<-qm,yP (hor (x++[c])) 128];omega
   rw [e5] at hv|-;rw [yo,scan,xw (by omega),xw (by omega),ih z (i+1) _ (fun z hz=>hx z (xz _ hz)) (by omega) hv,xY];congr 3;omega
 unfold rd;have e2:(x++c::y).take 10=x++c::y.take (9 - x.length):=by
  rw [qn,yH (by omega),show 10 - x.length=(9 - x.length)+1 by omega,yJ]
 rw [e2,key x _ 0 0 hx (by omega) (by simpa using hv)];simp [rdR]
theorem zrr (l m:List UInt8) (h:(rd l).2.2=0):rd (l++m)=rd l:=by
 rcases zyq l with h'| ⟨h',_⟩| ⟨x,c,y,e,hx,hc,hl,hv,h'⟩
 ·rw [h'] at h;cases h
 ·rw [h'] at h;cases h
 ·rw [h',e,yM,yo,zHl x c _ hx hc hl hv]
theorem zBP (l m:List UInt8) (h:(rd l).2.2=0):tg (l++m)=tg l:=by unfold tg;rw [zrr l m h]
theorem zxb (h:r.2.2≠0):tgR r=(0,0,0,r.2.2):=xx h
theorem zor (h:r.2.2=0) (h2:4294967295<r.1\/zcj (r.1/8) (r.1%8)=false):tgR r=(0,0,0,5):=by unfold tgR;rw [xw (by simp [h]),xx h2]
theorem zzR (h:r.2.2=0) (h2:¬(4294967295<r.1\/zcj (r.1/8) (r.1%8)=false)):tgR r=(r.1/8,r.1%8,r.2.1,0):=by unfold tgR;rw [xw (by simp [h]),xw h2]
theorem zuk (l:List UInt8):(∃c,tg l=(0,0,0,c)/\(c=3\/c=4\/c=5))\/∃n w k,tg l=(n,w,k,0)/\zcj n w=true/\1<=k/\k<=10/\k<=l.length/\rd l=(8*n+w,k,0):=by
 obtain ⟨h1,h2,h3,h4,h5,h6,h7⟩:=zhB l;unfold tg;by_cases h:(rd l).2.2=0
 ·by_cases hg:4294967295<(rd l).1\/zcj ((rd l).1/8) ((rd l).1%8)=false
  ·exact .inl ⟨5,zor h hg,by omega⟩
  ·refine .inr ⟨_,_,_,zzR h hg,?_,h7 h,h4,h5,?_⟩
   ·cases ht:zcj ((rd l).1/8) ((rd l).1%8)
    ·exact absurd (.inr ht) hg
    ·rfl
   ·refine Prod.ext ?_ (Prod.ext rfl h);simp only;omega
 ·exact .inl ⟨_,zxb h,by omega⟩
theorem zwN (b:List UInt8) (a:Nat) (hb:b.length<=1152921504606846976) (ha:a<=b.length):zfh b a=some (tg (b.drop a)):=by
 unfold zfh tg;obtain ⟨h1,h2,h3,h4,h5,h6,h7⟩:=zhB (b.drop a);rw [zzM b a hb ha,sb];by_cases h:(rd (b.drop a)).2.2=0
 ·rw [itF (by simpa using h)];have e1:i64.wrap (u64.wrap (Int.tdiv (rd (b.drop a)).1 8))=(rd (b.drop a)).1/8:=by
   rw [qw h1,zdi,yB (by omega) (by omega),pU]
  have e2:i64.wrap (Int.tmod (rd (b.drop a)).1 8)=(rd (b.drop a)).1%8:=by
   rw [yx h1,pU]
  simp only [e1,e2,zyx,sb];by_cases hg:4294967295<(rd (b.drop a)).1
  ·rw [itT (by simpa using hg),sb,pP,zor h (.inl hg)]
  ·rw [itF (by simpa using hg),sb];cases ht:zcj ((rd (b.drop a)).1/8) ((rd (b.drop a)).1%8)
   ·rw [pP,zor h (.inr ht)]
   ·rw [pQ,zzR h (by simp [ht];omega)]
 ·rw [itT (by simpa using h),zxb h]
theorem zuj {n w:Int} (h:zcj n w=true):((tW n w:Nat):Int)=8*n+w/\tW n w<4294967296:=by
 have:=zeS.1 h;unfold tW;omega
theorem zys {fuel:Nat} (hf:10<=fuel) {n w:Int} (h:zcj n w=true):zfI fuel n w=some (enc (tW n w)):=by
 have hr:=zeS.1 h;obtain ⟨e,vY⟩:=zuj h;unfold zfI;have e2:u64.wrap (i64.wrap ((i64.wrap (8*n))+w))=((tW n w:Nat):Int):=by
  rw [zk (x:=8*n) (by omega),pU,zdi,yB (by omega) (by omega),e]
 rw [e2,zrs hf (by omega),sb]
theorem zED {v:Nat} (h:v<34359738368):lenN v<=5:=by
 by_cases h1:v<128
 ·rw [zjD h1];omega
 ·rw [zlc h1];by_cases h2:v/128<128
  ·rw [zjD h2];omega
  ·rw [zlc h2];by_cases h3:v/128/128<128
   ·rw [zjD h3];omega
   ·rw [zlc h3];by_cases h4:v/128/128/128<128
    ·rw [zjD h4];omega
    ·rw [zlc h4,zjD (by omega)];omega
abbrev Rec:=zn
def zfc (w:Int) (k:Nat) (m:List UInt8):Int⊕(Nat×Nat):=
 if w=0 then (if (rd m).2.2≠0 then .inl (rd m).2.2 else .inr (k,k+(rd m).2.1.toNat))
 else if w=2 then (if (rd m).2.2≠0 then .inl (rd m).2.2 else if (m.length:Int) - (rd m).2.1<(rd m).1 then .inl 3 else .inr (k+(rd m).2.1.toNat,k+(rd m).2.1.toNat+(rd m).1.toNat))
 else if m.length<(if w=5 then 4 else 8) then .inl 3 else .inr (k,k+(if w=5 then 4 else 8))
def rec5 (l:List UInt8):Int⊕(Int×Int×Nat×Nat):=
 if (tg l).2.2.2≠0 then .inl (tg l).2.2.2 else match zfc (tg l).2.1 (tg l).2.2.1.toNat (l.drop (tg l).2.2.1.toNat) with
  | .inl c=> .inl c
  | .inr p=> .inr ((tg l).1,(tg l).2.1,p.1,p.2)
theorem zrK (w:Int) (k:Nat) (m:List UInt8):(∃c,zfc w k m= .inl c/\(c=3\/c=4))\/
  ∃a t,zfc w k m= .inr (a,t)/\k<=a/\a<=t/\t<=k+m.length/\
   (w=0/\a=k/\(rd m).2.2=0/\((t - k:Nat):Int)=(rd m).2.1/\k<t\/w=2/\(rd m).2.2=0/\((a - k:Nat):Int)=(rd m).2.1/\((t - a:Nat):Int)=(rd m).1\/w≠0/\w≠2/\a=k/\t=k+(if w=5 then 4 else 8)):=by
 obtain ⟨h1,h2,h3,h4,h5,h6,h7⟩:=zhB m;unfold zfc;by_cases w0:w=0
 ·rw [xx w0];by_cases h:(rd m).2.2=0
  ·have:=h7 h;rw [xw (by simpa using h)];exact .inr ⟨_,_,rfl,xB _,by omega,by omega,.inl ⟨w0,rfl,h,by omega,by omega⟩⟩
  ·rw [xx h];exact .inl ⟨_,rfl,by omega⟩
 ·rw [xw w0];by_cases w2:w=2
  ·rw [xx w2];by_cases h:(rd m).2.2=0
   ·rw [xw (by simpa using h)];by_cases h8:(m.length:Int) - (rd m).2.1<(rd m).1
    ·rw [xx h8];exact .inl ⟨_,rfl,by omega⟩
    ·rw [xw h8];exact .inr ⟨_,_,rfl,by omega,by omega,by omega,.inr (.inl ⟨w2,h,by omega,by omega⟩)⟩
   ·rw [xx h];exact .inl ⟨_,rfl,by omega⟩
  ·rw [xw w2];by_cases h8:m.length<(if w=5 then 4 else 8)
   ·rw [xx h8];exact .inl ⟨_,rfl,by omega⟩
   ·rw [xw h8];exact .inr ⟨_,_,rfl,xB _,by omega,by omega,.inr (.inr ⟨w0,w2,rfl,rfl⟩)⟩
theorem zwl (w:Int) (k:Nat) (m z:List UInt8) (h:zfc w k m= .inr p):zfc w k (m++z)= .inr p:=by
 unfold zfc at h|-;by_cases w0:w=0
 ·rw [xx w0] at h|-;by_cases h0:(rd m).2.2=0
  ·rw [zrr m z h0];exact h
  ·rw [xx h0] at h;cases h
 ·rw [xw w0] at h|-;by_cases w2:w=2
  ·rw [xx w2] at h|-;by_cases h0:(rd m).2.2=0
   ·rw [zrr m z h0];rw [xw (by simpa using h0)] at h|-;by_cases h8:(m.length:Int) - (rd m).2.1<(rd m).1
    ·rw [xx h8] at h;cases h
    ·rw [xw h8] at h;rw [xw (by simp only [xG];omega)];exact h
   ·rw [xx h0] at h;cases h
  ·rw [xw w2] at h|-;by_cases h8:m.length<(if w=5 then 4 else 8)
   ·rw [xx h8] at h;cases h
   ·rw [xw h8] at h;rw [xw (by simp only [xG];omega)];exact h
theorem zpM (l:List UInt8):(∃c,rec5 l= .inl c/\(c=3\/c=4\/c=5))\/
  ∃(n w:Int) (k a t:Nat),rec5 l= .inr (n,w,a,t)/\tg l=(n,w,(k:Int),0)/\zcj n w=true/\zfc w k (l.drop k)= .inr (a,t)/\1<=k/\k<=l.length/\k<=a/\a<=t/\t<=l.length/\rd l=(8*n+w,(k:Int),0):=by
 rcases zuk l with ⟨c,h,hc⟩| ⟨n,w,k,h,hr,k1,k2,k3,hrd⟩
 ·refine .inl ⟨c,?_,hc⟩;unfold rec5;rw [h,xx (by simp only;omega)]
 ·obtain ⟨k,rfl⟩:∃j:Nat,k=j:=⟨k.toNat,by omega⟩
  have e:rec5 l=match zfc w k (l.drop k) with
   | .inl c=> .inl c
   | .inr p=> .inr (n,w,p.1,p.2):=by unfold rec5;rw [h];simp
  rcases zrK w k (l.drop k) with ⟨c,h2,hc⟩| ⟨a,t,h2,g1,g2,g3,_⟩
  ·exact .inl ⟨c,by rw [e,h2],by omega⟩
  ·simp only [yn] at g3;exact .inr ⟨n,w,k,a,t,by rw [e,h2],h,hr,h2,by omega,by omega,g1,g2,by omega,hrd⟩
theorem zyr (l z:List UInt8) (h:rec5 l= .inr r):rec5 (l++z)= .inr r:=by
 rcases zpM l with ⟨c,h',_⟩| ⟨n,w,k,a,t,h',htg,_,hb,_,hk,_,_,_,hrd⟩
 ·rw [h'] at h;cases h
 ·rw [h'] at h;have e:tg (l++z)=(n,w,(k:Int),0):=by rw [zBP l z (by rw [hrd]),htg]
  unfold rec5;rw [e];simp only [ne_eq,not_true_eq_false,ql,xX];rw [qK hk,zwl _ _ _ _ hb];exact h
def zrec:Rec:=⟨0,0,0,0,0⟩
def zqt (b:List UInt8) (at5:Int):Rec×Int:=if at5<0\/at5>=b.length then (zrec,2) else match rec5 (b.drop at5.toNat) with
 | .inl c=>(zrec,c)
 | .inr (n,w,a,t)=>(⟨n,w,at5,at5+a,at5+t⟩,0)
theorem zyw (hb:b.length<=140737488355328) (at5:Int):zfj b at5=some (zqt b at5):=by
 unfold zfj zqt;by_cases h:at5<0\/at5>=b.length
 ·rw [itT (by simpa using h),xx h];rfl
 ·rw [itF (by simpa using h),xw h];obtain ⟨p,rfl⟩:∃p:Nat,at5=p:=⟨at5.toNat,by omega⟩;rw [zwN b p (by omega) (by omega),sb,xX];have hdl:(b.drop p).length=b.length - p:=by simp
  rcases zuk (b.drop p) with ⟨c,ht,hc⟩| ⟨n,w,k,ht,hr,k1,k2,k3,hrd⟩
  ·have e:rec5 (b.drop p)= .inl c:=by unfold rec5;rw [ht,xx (by simp only;omega)]
   rw [e,ht,pS];rfl
  ·obtain ⟨k,rfl⟩:∃j:Nat,k=j:=⟨k.toNat,by omega⟩
   have e:rec5 (b.drop p)=match zfc w k ((b.drop p).drop k) with
    | .inl c=> .inl c
    | .inr p=> .inr (n,w,p.1,p.2):=by unfold rec5;rw [ht];simp
   have hdd:(b.drop p).drop k=b.drop (p+k):=by rw [qa]
   have hml:(b.drop (p+k)).length=b.length - (p+k):=by simp
   obtain ⟨h1,h2,h3,h4,h5,h6,h7⟩:=zhB (b.drop (p+k));rw [e,ht,pR,hdd];have ew:i64.wrap ((p:Int)+k)=((p+k:Nat):Int):=by rw [pU];push_cast;rfl
   have er:i64.wrap ((b.length:Int) - ((p+k:Nat):Int))=((b.length - (p+k):Nat):Int):=by rw [pU];omega
   simp only [ew,er];have hw:=(zeS.1 hr).2.2;rcases hw with rfl| rfl| rfl| rfl
   ·-- a varint
    rw [pQ,sb,pP,zzM b (p+k) (by omega) (by omega),sb];by_cases g:(rd (b.drop (p+k))).2.2=0
    ·have:=h7 g;have hb5:zfc 0 k (b.drop (p+k))= .inr (k,k+(rd (b.drop (p+k))).2.1.toNat):=by unfold zfc;rw [xx rfl,xw (by simpa using g)]
     rw [itF (by simpa using g),sb,hb5];simp only;rw [pQ,sb];simp only;rw [pT,pU];simp;omega
    ·have hb5:zfc 0 k (b.drop (p+k))= .inl (rd (b.drop (p+k))).2.2:=by unfold zfc;rw [xx rfl,xx g]
     rw [itT (by simpa using g),sb,hb5];rfl
   ·rw [pQ,sb,pQ,sb];simp only;rw [pQ,sb];unfold zfc;rw [xw (by omega),xw (by omega)];simp only;by_cases g:b.length - (p+k)<8
    ·rw [pS,xx (by simpa [hml] using g)];rfl
    ·rw [pT,xw (by simpa [hml] using g),pU];simp;omega
   ·rw [pQ,sb,pQ,sb];simp only;rw [pP,zzM b (p+k) (by omega) (by omega),sb];by_cases g:(rd (b.drop (p+k))).2.2=0
    ·have:=h7 g;have e1:i64.wrap (((b.length - (p+k):Nat):Int) - (rd (b.drop (p+k))).2.1)=((b.drop (p+k)).length:Int) - (rd (b.drop (p+k))).2.1:=by rw [pU,hml]
     have e2:u64.wrap (((b.drop (p+k)).length:Int) - (rd (b.drop (p+k))).2.1)=((b.drop (p+k)).length:Int) - (rd (b.drop (p+k))).2.1:=by rw [zdi,yB (by omega) (by omega)]
     rw [itF (by simpa using g)];simp only [e1,e2];by_cases g2:((b.drop (p+k)).length:Int) - (rd (b.drop (p+k))).2.1<(rd (b.drop (p+k))).1
     ·have hb5:zfc 2 k (b.drop (p+k))= .inl 3:=by unfold zfc;rw [xw (by omega),xx rfl,xw (by simpa using g),xx g2]
      rw [itT (by simpa using g2),sb,hb5];rfl
     ·have hb5:zfc 2 k (b.drop (p+k))= .inr (k+(rd (b.drop (p+k))).2.1.toNat,k+(rd (b.drop (p+k))).2.1.toNat+(rd (b.drop (p+k))).1.toNat):=by
       unfold zfc;rw [xw (by omega),xx rfl,xw (by simpa using g),xw g2]
      rw [itF (by simpa using g2),sb,hb5];simp only;rw [zk (x:=(rd (b.drop (p+k))).1) (by omega),itF (by simpa using g2),zk (x:=((p+k:Nat):Int)+(rd (b.drop (p+k))).2.1) (by omega),pU];simp;omega
    ·have hb5:zfc 2 k (b.drop (p+k))= .inl (rd (b.drop (p+k))).2.2:=by unfold zfc;rw [xw (by omega),xx rfl,xx g]
     rw [itT (by simpa using g),sb,hb5];rfl
   ·rw [pP,sb,pQ,sb];simp only;rw [pQ,sb];unfold zfc;rw [xw (by omega),xw (by omega)];simp only;by_cases g:b.length - (p+k)<4
    ·rw [pS,xx (by simpa [hml] using g)];rfl
    ·rw [pT,xw (by simpa [hml] using g),pU];simp;omega
def spl (base:Nat) (l:List UInt8):List Rec×Option (Nat×Int):=
 if hl:l=[] then ([],none) else match h:rec5 l with
  | .inl c=>([],some (base,c))
  | .inr (n,w,a,t)=>(⟨n,w,base,(base+a:Nat),(base+t:Nat)⟩::(spl (base+t) (l.drop t)).1,(spl (base+t) (l.drop t)).2)
termination_by l.length
decreasing_by
 all_goals
  rcases zpM l with ⟨c',h',_⟩| ⟨n',w',k',a',t',h',_,_,_,g1,g2,g3,g4,g5,_⟩
  ·rw [h'] at h;cases h
  ·rw [h'] at h;cases h;simp only [yn];omega
theorem zoS (base:Nat):spl base []=([],none):=by rw [spl,dif_pos rfl]
theorem zsM (hl:l≠[]) (h:rec5 l= .inl c):spl base l=([],some (base,c)):=by
 rw [spl,dif_neg hl];split
 ·rename_i c' h';rw [h] at h';cases h';rfl
 ·rename_i h';rw [h] at h';cases h'
theorem zon (hl:l≠[]) (h:rec5 l= .inr (n,w,a,t)):
  spl base l=(⟨n,w,base,(base+a:Nat),(base+t:Nat)⟩::(spl (base+t) (l.drop t)).1,(spl (base+t) (l.drop t)).2):=by
 rw [spl,dif_neg hl];split
 ·rename_i c' h';rw [h] at h';cases h'
 ·rename_i n' w' a' t' h';rw [h] at h';cases h';rfl
theorem zwW (P:Nat->List UInt8->Prop) (h0:∀base,P base []) (he:∀base l c,l≠[]->rec5 l= .inl c->(c=3\/c=4\/c=5)->P base l)
  (hc:∀base l (n w:Int) (a t:Nat),l≠[]->rec5 l= .inr (n,w,a,t)->zcj n w=true->1<=a->a<=t->t<=l.length->P (base+t) (l.drop t)->P base l) (base:Nat) (l:List UInt8):P base l:=by
 generalize hn:l.length=m
 induction m using Nat.strongRecOn generalizing base l with
 | _ m ih=>
  by_cases hl:l=[]
  ·subst hl;exact h0 base
  ·rcases zpM l with ⟨c,h,hc'⟩| ⟨n,w,k,a,t,h,_,hr,_,g1,g2,g3,g4,g5,_⟩
   ·exact he base l c hl h hc'
   ·exact hc base l n w a t hl h hr (by omega) g4 g5 (ih _ (by simp only [yn];omega) _ _ rfl)
def zkz (d:Nat) (r:Rec):Rec:=⟨r.Number,r.Wire,r.From+d,r.At+d,r.To+d⟩
theorem zvP (d:Nat) (base:Nat) (l:List UInt8):spl (base+d) l=((spl base l).1.map (zkz d),(spl base l).2.map fun p=>(p.1+d,p.2)):=by
 refine zwW (fun base l=>spl (base+d) l=((spl base l).1.map (zkz d),(spl base l).2.map fun p=>(p.1+d,p.2))) ?_ ?_ ?_ base l
 ·intro base;rw [zoS,zoS];rfl
 ·intro base l c hl h _;rw [zsM hl h,zsM hl h];rfl
 ·intro base l n w a t hl h _ g1 g2 g3 ih;rw [zon hl h,zon hl h,show base+d+t=base+t+d by omega,ih];simp only [xL,zkz,yO,yA,zn.mk.injEq,yZ,qk];push_cast;omega
theorem zug (m:List UInt8) (base:Nat) (l:List UInt8):(spl base l).2=none->spl base (l++m)=((spl base l).1++(spl (base+l.length) m).1,(spl (base+l.length) m).2):=by
 refine zwW (fun base l=>(spl base l).2=none->spl base (l++m)=((spl base l).1++(spl (base+l.length) m).1,(spl (base+l.length) m).2)) ?_ ?_ ?_ base l
 ·intro base _;rw [zoS];simp
 ·intro base l c hl h _ h2;rw [zsM hl h] at h2;cases h2
 ·intro base l n w a t hl h _ g1 g2 g3 ih h2;rw [zon hl h] at h2|-;rw [zon (by simp [hl]) (zyr l m h),qK g3,ih h2];simp only [yn,yo,show base+t+(l.length - t)=base+l.length by omega]
def ziU (w:Int) (v:List UInt8):Bool:=
 if w=0 then decide ((rd v).2.2=0/\(rd v).2.1=v.length) else decide (w=2\/w=1/\v.length=8\/w=5/\v.length=4)
def put5 (n w:Int) (v:List UInt8):List UInt8:=enc (tW n w)++(if w=2 then enc v.length else [])++v
theorem zle {fuel:Nat} (hf:10<=fuel) {n w:Int} {v:List UInt8} (h:zcj n w=true) (hv:v.length<=1048576):zcX fuel n w v=some (put5 n w v):=by
 obtain ⟨_,vY⟩:=zuj h;have h1:=zjm (v:=tW n w) (by omega);have h2:=zjm (v:=v.length) (by omega);unfold zcX put5;rw [zys hf h,sb];by_cases hw:w=2
 ·rw [itT (by simpa using hw),xx hw];have e:u64.wrap (v.length:Int)=(v.length:Int):=by rw [zdi,yB (by omega) (by omega)]
  rw [e,zrs hf (by omega),sb,zfE (by omega),sb,zfE (by simp;omega),sb]
 ·rw [itF (by simpa using hw),xw hw,zfE (by omega),sb,yY]
theorem zoa (n w:Int) (v:List UInt8):(put5 n w v).length=(enc (tW n w)).length+(if w=2 then (enc v.length).length else 0)+v.length:=by
 unfold put5;split
 ·simp;omega
 ·simp
def rawW (k:Int) (b:List UInt8):Int:=if zcL k=0 then (rd b).1 else (word (b.take 8):Nat)
def zyF (k:Int) (b:List UInt8):Int×Int:=if kNum k=false then (0,2) else if ziU (zcL k) b=false then (0,12) else (zbg k (rawW k b),0)
def ziz (k:Int) (c:Nat):List UInt8:=if 12<=k then zeu 8 c else if 9<=k then zeu 4 c else enc c
def sPut (k w:Int):List UInt8:=ziz k (zbg k w).toNat
theorem ztT {fuel:Nat} (hf:10<=fuel) {k w:Int} (h:0<=w/\w<=18446744073709551615):zez fuel k w=some (sPut k w):=by
 have hc:=ziN k h;obtain ⟨c,hcc⟩:∃c:Nat,zbg k w=c:=⟨(zbg k w).toNat,by omega⟩;unfold zez sPut ziz;rw [zrX k h,sb,hcc,xX];by_cases h1:12<=k
 ·rw [itT (by simpa using h1),xx h1,ztY (by omega),sb];rfl
 ·rw [itF (by simpa using h1),xw h1];by_cases h2:9<=k
  ·rw [itT (by simpa using h2),xx h2,ztY (by omega),sb];rfl
  ·rw [itF (by simpa using h2),xw h2,zrs hf (by omega),sb]
theorem ziW :kNum k=true↔1<=k/\k<=14:=by simp [kNum]
theorem zoi {k:Int} (hk:kNum k=true) {c:Nat} (hc:c<18446744073709551616):ziU (zcL k) (ziz k c)=true:=by
 have:=ziW.1 hk;unfold ziz;by_cases h1:12<=k
 ·have e:zcL k=1:=by unfold zcL;rw [xw (by omega),xx h1]
  rw [xx h1,e];simp [ziU,zbv]
 ·rw [xw h1];by_cases h2:9<=k
  ·have e:zcL k=5:=by unfold zcL;rw [xw (by omega),xw h1,xx h2]
   rw [xx h2,e];simp [ziU,zbv]
  ·have e:zcL k=0:=by unfold zcL;rw [xw (by omega),xw h1,xw h2]
   have hr:=zDp [] hc;rw [yY] at hr;rw [xw h2,e];unfold ziU;rw [xx rfl,hr];simp
theorem zzJ {k:Int} (hk:kNum k=true) {c:Nat} (hc:c<18446744073709551616) (h32:9<=k->k<12->c<4294967296):rawW k (ziz k c)=(c:Int):=by
 have:=ziW.1 hk;unfold ziz rawW;by_cases h1:12<=k
 ·have e:zcL k=1:=by unfold zcL;rw [xw (by omega),xx h1]
  rw [xx h1,e,xw (by omega),yH (by rw [zbv];omega),zoz,qf (by omega)]
 ·rw [xw h1];by_cases h2:9<=k
  ·have e:zcL k=5:=by unfold zcL;rw [xw (by omega),xw h1,xx h2]
   have:=h32 h2 (by omega);rw [xx h2,e,xw (by omega),yH (by rw [zbv];omega),zoz,qf (by omega)]
  ·have e:zcL k=0:=by unfold zcL;rw [xw (by omega),xw h1,xw h2]
   have hr:=zDp [] hc;rw [yY] at hr;rw [xw h2,e,xx rfl,hr]
theorem zzO {k w:Int} (hk:kNum k=true) (h:0<=w/\w<=18446744073709551615):zyF k (sPut k w)=(zbg k w,0):=by
 have hc:=ziN k h;obtain ⟨c,hcc⟩:∃c:Nat,zbg k w=c:=⟨(zbg k w).toNat,by omega⟩;unfold zyF sPut;rw [hcc,xX,hk,xw (by simp),zoi hk (by omega),xw (by simp),zzJ hk (by omega) (fun h9 h12=>by have:=zCg (w:=w) h9 h12;omega),<-hcc,zxw k h]
theorem zky {k w:Int} (h:0<=w/\w<=18446744073709551615):1<=(sPut k w).length/\(sPut k w).length<=10:=by
 have hc:=ziN k h;unfold sPut ziz;split
 ·rw [zbv];omega
 ·split
  ·rw [zbv];omega
  ·exact zjm (by omega)
def zAY (k:Int) (l:List UInt8):Int⊕Nat:=
 if k<9 then (if (rd l).2.2≠0 then .inl (rd l).2.2 else .inr (rd l).2.1.toNat) else if l.length<(if k<12 then 4 else 8) then .inl 3 else .inr (if k<12 then 4 else 8)
theorem zyQ (k:Int) (l:List UInt8):(∃c,zAY k l= .inl c/\(c=3\/c=4))\/∃n,zAY k l= .inr n/\1<=n/\n<=l.length/\n<=10/\(k<9/\(rd l).2.2=0/\(rd l).2.1=(n:Int)\/¬k<9/\n=(if k<12 then 4 else 8)):=by
 obtain ⟨h1,h2,h3,h4,h5,h6,h7⟩:=zhB l;unfold zAY;by_cases h:k<9
 ·rw [xx h];by_cases h0:(rd l).2.2=0
  ·have:=h7 h0;rw [xw (by simpa using h0)];exact .inr ⟨_,rfl,by omega,by omega,by omega,.inl ⟨h,h0,by omega⟩⟩
  ·rw [xx h0];exact .inl ⟨_,rfl,by omega⟩
 ·rw [xw h];by_cases h8:l.length<(if k<12 then 4 else 8)
  ·rw [xx h8];exact .inl ⟨_,rfl,by omega⟩
  ·rw [xw h8];exact .inr ⟨_,rfl,by split<;>omega,by omega,by split<;>omega,.inr ⟨h,rfl⟩⟩
def pcs (k:Int) (l:List UInt8):List (List UInt8)×Int:=
 if hl:l=[] then ([],0) else match h:zAY k l with
  | .inl c=>([],c)
  | .inr n=>(l.take n::(pcs k (l.drop n)).1,(pcs k (l.drop n)).2)
termination_by l.length
decreasing_by
 all_goals
  rcases zyQ k l with ⟨c',h',_⟩| ⟨n',h',g1,g2,_⟩
  ·rw [h'] at h;cases h
  ·rw [h'] at h;cases h;simp only [yn];omega
def zxh (k:Int) (p:List UInt8):Int:=zbg k (rawW k p)
theorem zyG (hk:kNum k=true) (hf:ziU (zcL k) p=true):zyF k p=(zxh k p,0):=by
 unfold zyF zxh;rw [hk,xw (by simp),hf,xw (by simp)]
def ends (base:Nat):List (List UInt8)->List Int
 | []=>[]
 | p::ps=>((base+p.length:Nat):Int)::ends (base+p.length) ps
def zAh (k:Int) (b:List UInt8):List Int×Int:=if kNum k=false then ([],2) else if (pcs k b).2=0 then (ends 0 (pcs k b).1,0) else ([],(pcs k b).2)
theorem zwP {fuel:Nat} (hf:10<=fuel) {k:Int} {l:List Int} (h:∀w∈l,0<=w/\w<=18446744073709551615) (hl:l.length<=1048576):∀(d i:Nat) (out:List UInt8),i+d=l.length->out.length<=10*i->
  zcZ fuel k l out i=some (out++(l.drop i).flatMap (sPut k)):=by
 intro d
 induction d with
 | zero=>
  intro i out hi ho;refine zlx ?_;unfold zbr;rw [pT,yg (by omega)];simp
 | succ d ih=>
  intro i out hi ho;have hil:i<l.length:=by omega
  have hw:=h _ (xE hil);have v8:=zky (k:=k) hw;refine (zlw (out':=out++sPut k l[i]) (i':=((i+1:Nat):Int)) ?_).trans ?_
  ·unfold zbr;rw [pS,zI rfl hil,sb,ztT hf hw,sb,zfE (by omega),sb,pU];rfl
  ·rw [ih (i+1) _ (by omega) (by simp;omega),xZ hil,xN,yM]
theorem zzL {fuel:Nat} (hf:10<=fuel) {k:Int} {l:List Int} (h:∀w∈l,0<=w/\w<=18446744073709551615) (hl:l.length<=1048576):zfl fuel k l=some (l.flatMap (sPut k)):=by
 unfold zfl;have h1:=zwP hf (k:=k) h hl l.length 0 [] (by omega) (by simp);have h':zcZ fuel k l [] 0=some ([]++(l.drop 0).flatMap (sPut k)):=h1;rw [h',sb];simp
abbrev Vw:=zuy
def zam (m:Mes) (i:Int):Fld:=m.Fields.getD i.toNat ⟨[],0,0,false,false,0⟩
def vw (m:Mes) (n w:Int):Int⊕(Int×Bool):=
 if fldI m n<0 then .inr (-1,false)
 else if (zam m (fldI m n)).Repeated=true/\kNum (zam m (fldI m n)).Kind=true/\w=2 then .inr (fldI m n,true)
 else if zdt (zam m (fldI m n)).Kind=false\/zcL (zam m (fldI m n)).Kind≠w then .inl 6 else .inr (fldI m n,false)
theorem zkl (m:Mes) (n:Int):fldI m n= -1/\(∀f∈m.Fields,f.Number≠n)\/∃(i:Nat) (h:i<m.Fields.length),fldI m n=i/\m.Fields[i].Number=n/\∀(j:Nat) (h:j<m.Fields.length),j<i->m.Fields[j].Number≠n:=by
 unfold fldI;cases h:m.Fields.findIdx? (fun f:Fld=>f.Number==n) with
 | none=>
  left;rw [pf] at h;exact ⟨zkZ (pf.2 h),fun f hf=>by simpa using h f hf⟩
 | some i=>
  right;have h':=h;rw [pg] at h;obtain ⟨hi,hp,hj⟩:=h;exact ⟨i,hi,zla h',by simpa using hp,fun j hjl hji=>by simpa using hj j hji⟩
theorem zkk {m:Mes} {i:Nat} (h:i<m.Fields.length):zam m (i:Int)=m.Fields[i]:=by
 unfold zam;rw [xX,qN,xQ h];rfl
def vws (m:Mes) (e:Option (Nat×Int)):List Rec->List Vw×Option (Int×Int)
 | []=>([],e.map fun p=>((p.1:Int),p.2))
 | r::l=>match vw m r.Number r.Wire with
  | .inl c=>([],some (r.From,c))
  | .inr (i,run)=>(⟨r,i,run⟩::(vws m e l).1,(vws m e l).2)
def vwR (r:List Vw×Option (Int×Int)):List Vw×Int×Int:=match r.2 with
 | none=>(r.1,0,0)
 | some (p,c)=>([],p,c)
def zFp (m:Mes) (b:List UInt8):List Vw×Int×Int:=vwR (vws m (spl 0 b).2 (spl 0 b).1)
def zaF (s:List Mes) (i:Int):Mes:=s.getD i.toNat ⟨[],[]⟩
theorem zhV {s:List Mes} {i:Nat} (h:i<s.length):zaF s (i:Int)=s[i]:=by
 unfold zaF;rw [xX,qN,xQ h];rfl
def valB (b:List UInt8) (r:Rec):List UInt8:=(b.drop r.At.toNat).take (r.To.toNat - r.At.toNat)
abbrev zrF:=Option (Int->List UInt8->Option (Int×Int))
def zCU (f:Fld) (run:Bool) (sub:zrF) (r:Rec) (v:List UInt8):Option (Int×Int):=
 if run=true then (if (zAh f.Kind v).2≠0 then some (r.From,(zAh f.Kind v).2) else none)
 else if f.Kind=15/\ziy v=false then some (r.From,7)
 else if f.Kind=17 then (match sub with
  | none=>some (r.From,8)
  | some g=>match g f.Of v with
   | some (p,c)=>some (r.At+p,c)
   | none=>none)
 else none
def zoo (m:Mes) (sub:zrF) (b:List UInt8) (r:Rec):Option (Int×Int):=match vw m r.Number r.Wire with
 | .inl c=>some (r.From,c)
 | .inr (i,run)=>if i<0 then none else zCU (zam m i) run sub r (valB b r)
def znL (m:Mes) (sub:zrF) (b:List UInt8) (x:List Rec×Option (Nat×Int)):Option (Int×Int):=match x.1.findSome? (zoo m sub b) with
 | some p=>some p
 | none=>x.2.map fun p=>((p.1:Int),p.2)
def zgw (s:List Mes):Nat->Int->List UInt8->Option (Int×Int)
 | 0,k,b=>znL (zaF s k) none b (spl 0 b)
 | d+1,k,b=>znL (zaF s k) (some (zgw s d)) b (spl 0 b)
def argS (s:List Mes) (root d:Int):Int:=if zgu s=false then 9 else if root<0\/root>=s.length\/d<0\/d>64 then 2 else 0
theorem zBb (h:argS s root d=0):zjk s/\0<=root/\root<s.length/\0<=d/\d<=64:=by
 unfold argS at h;split at h
 ·omega
 ·rename_i h1;split at h
  ·omega
  ·rename_i h2;exact ⟨zvL (by simpa using h1),by omega⟩
theorem zlV :znL m sub b x=none↔(∀r∈x.1,zoo m sub b r=none)/\x.2=none:=by
 unfold znL;cases h:x.1.findSome? (zoo m sub b) with
 | some p=>
  refine ⟨(fun h'=>nomatch h'),fun ⟨h1,_⟩=>?_⟩;obtain ⟨r,hr,hs⟩:=List.exists_of_findSome?_eq_some h;rw [h1 r hr] at hs;cases hs
 | none=>
  rw [List.findSome?_eq_none_iff] at h;cases hx:x.2 with
  | none=>exact ⟨fun _=>⟨h,rfl⟩,fun _=>rfl⟩
  | some p=>exact ⟨(fun h'=>nomatch h'),fun ⟨_,h2⟩=>nomatch h2⟩
theorem zsd (z:List UInt8) (h0:0<=r.To) (h:r.To<=b.length):valB (b++z) r=valB b r:=by
 unfold valB;by_cases ha:r.At.toNat<=b.length
 ·rw [qK ha,py (by simp;omega)]
 ·have e:r.To.toNat - r.At.toNat=0:=by omega
  rw [e,yr,yr]
theorem zpV (a b:List UInt8) (h0:0<=r.At) (h1:r.At<=r.To):valB (a++b) (zkz a.length r)=valB b r:=by
 unfold valB zkz;simp only;have e1:(r.At+(a.length:Int)).toNat=a.length+r.At.toNat:=by omega
 have e2:(r.To+(a.length:Int)).toNat - (a.length+r.At.toNat)=r.To.toNat - r.At.toNat:=by omega
 rw [e1,e2,<-qa,List.drop_left]
theorem zui (hn:r'.Number=r.Number) (hw:r'.Wire=r.Wire) (hv:valB b' r'=valB b r):zoo m sub b' r'=none↔zoo m sub b r=none:=by
 unfold zoo;rw [hn,hw,hv];cases vw m r.Number r.Wire with
 | inl c=>simp
 | inr p=>
  simp only;by_cases hi:p.1<0
  ·simp [hi]
  ·rw [xw hi,xw hi];unfold zCU;by_cases hr:p.2=true
   ·rw [xx hr,xx hr];by_cases he:(zAh (zam m p.1).Kind (valB b r)).2≠0
    ·rw [xx he,xx he];simp
    ·rw [xw he,xw he]
   ·rw [xw hr,xw hr];by_cases h15:(zam m p.1).Kind=15/\ziy (valB b r)=false
    ·rw [xx h15,xx h15];simp
    ·rw [xw h15,xw h15];by_cases h17:(zam m p.1).Kind=17
     ·rw [xx h17,xx h17];cases sub with
      | none=>simp
      | some g=>simp only;cases g (zam m p.1).Of (valB b r)<;>simp
     ·rw [xw h17,xw h17]
theorem zuh (base:Nat) (l:List UInt8):∀r∈(spl base l).1,(base:Int)<=r.From/\r.From<r.At/\r.At<=r.To/\r.To<=base+l.length:=by
 refine zwW (fun base l=>∀r∈(spl base l).1,(base:Int)<=r.From/\r.From<r.At/\r.At<=r.To/\r.To<=base+l.length) ?_ ?_ ?_ base l
 ·intro base r hr;rw [zoS] at hr;cases hr
 ·intro base l c hl h _ r hr;rw [zsM hl h] at hr;cases hr
 ·intro base l n w a t hl h _ g1 g2 g3 ih r hr;rw [zon hl h] at hr;rcases xC.1 hr with rfl| hr
  ·simp only;omega
  ·have:=ih r hr;simp only [yn] at this;omega
theorem zrN (z:List UInt8) (h:znL m sub a (spl 0 a)=none):znL m sub (a++z) (spl 0 (a++z))=none↔znL m sub z (spl 0 z)=none:=by
 rw [zlV] at h;have hap:=zug z 0 a h.2;have hsh:=zvP a.length 0 z;rw [xH] at hap hsh;rw [hsh] at hap;rw [zlV,zlV,hap];simp only [xF,xK];constructor
 ·rintro ⟨h1,h2⟩;refine ⟨fun r hr=>?_,by cases hz:(spl 0 z).2 with| none=>rfl| some p=>rw [hz] at h2;cases h2⟩;have hb:=zuh 0 z r hr;have:=h1 (zkz a.length r) (.inr ⟨r,hr,rfl⟩);exact (zui (r:=r) (r':=zkz a.length r) rfl rfl (zpV a z (by omega) (by omega))).1 this
 ·rintro ⟨h1,h2⟩;refine ⟨fun r hr=>?_,by rw [h2];rfl⟩;rcases hr with hr| ⟨r,hr,rfl⟩
  ·have hb:=zuh 0 a r hr;exact (zui (r:=r) (r':=r) rfl rfl (zsd z (by omega) (by omega))).2 (h.1 r hr)
  ·have hb:=zuh 0 z r hr;exact (zui (r:=r) (r':=zkz a.length r) rfl rfl (zpV a z (by omega) (by omega))).2 (h1 r hr)
theorem zqj (s:List Mes) (d:Nat) (k:Int) (z:List UInt8) (h:zgw s d k a=none):zgw s d k (a++z)=none↔zgw s d k z=none:=by
 cases d with
 | zero=>exact zrN z h
 | succ d=>exact zrN z h
abbrev zdJ:=List Int
def begB (way w:zdJ):Bool:=w.isPrefixOf way
def zFJ:zdJ->zdJ->Bool
 | [],b=> !b.isEmpty
 | _::_,[]=>false
 | x::a,y::b=>if x=y then zFJ a b else decide (x<y)
def hasB (ways:List zdJ) (way:zdJ):Bool:=ways.any fun v=> !v.isEmpty&&begB way v
def zmQ (m:List zdJ) (n:Int):Bool:=m.any fun v=>v==[n]
def zGw (n:Int):zdJ->Option zdJ
 | x::y::v=>if x=n then some (y::v) else none
 | _=>none
def zlL (m:List zdJ) (n:Int):List zdJ:=m.filterMap (zGw n)
def zgX (s:List Mes) (root:Int):Int:=if zgu s=false then 9 else if root<0\/root>=s.length then 2 else 0
theorem zwO (hw:WS s) (root:Int):zfm s root=some (zgX s root):=by
 unfold zfm zgX;rw [zuK hw,sb];cases h:zgu s
 ·rw [itT (c:= !false) rfl,xx (show false=false from rfl)]
 ·rw [itF (c:= !true) rfl,xw (show ¬(true=false) by simp)];by_cases h2:root<0\/root>=s.length
  ·rw [itT (by simpa using h2),xx h2]
  ·rw [pT,xw h2]
theorem zrI (h:zgX s root=0):zjk s/\0<=root/\root<s.length:=by
 unfold zgX at h;split at h
 ·omega
 ·rename_i h1;split at h
  ·omega
  ·exact ⟨zvL (by simpa using h1),by omega⟩
abbrev Msg:=zc
abbrev Vlu:=za
mutual
def szM:Msg->Nat
 | ⟨vs,_⟩=>1+szVs vs
def szVs:List Vlu->Nat
 | []=>0
 | v::l=>szV v+szVs l
def szV:Vlu->Nat
 | ⟨_,_,_,s⟩=>1+szMs s
def szMs:List Msg->Nat
 | []=>0
 | x::l=>szM x+szMs l
end
theorem zcc (x:Msg):szM x=1+szVs x.Values:=by cases x;rw [szM]
theorem zee (v:Vlu):szV v=1+szMs v.Subs:=by cases v;rw [szV]
theorem zdw :∀{l:List Vlu},v∈l->szV v<=szVs l
 | [],h=>by cases h
 | u::l,h=>by
  rw [szVs];rcases xC.1 h with rfl| h
  ·omega
  ·have:=zdw h;omega
theorem zdv :∀{l:List Msg},x∈l->szM x<=szMs l
 | [],h=>by cases h
 | u::l,h=>by
  rw [szMs];rcases xC.1 h with rfl| h
  ·omega
  ·have:=zdv h;omega
mutual
/-- Within the reach of what a law is handed. -/
def bdM:Msg->Prop
 | ⟨vs,u⟩=>vs.length*80<=140737488351232/\(u.length*16<=140737488351232/\∀t∈u,t.length<=140737488351232)/\bdVs vs
def bdVs:List Vlu->Prop
 | []=>True
 | v::l=>bdV v/\bdVs l
def bdV:Vlu->Prop
 | ⟨n,w,t,s⟩=>(Lit.int .i64 n).wf=true/\(w.length*8<=140737488351232/\∀x∈w,0<=x/\x<=18446744073709551615)/\(t.length*16<=140737488351232/\∀x∈t,x.length<=140737488351232)/\s.length*48<=140737488351232/\bdMs s
def bdMs:List Msg->Prop
 | []=>True
 | x::l=>bdM x/\bdMs l
end
theorem zgY (x:Msg):bdM x↔x.Values.length*80<=140737488351232/\(x.Unknown.length*16<=140737488351232/\∀t∈x.Unknown,t.length<=140737488351232)/\bdVs x.Values:=by cases x;simp only [bdM]
theorem zgp (v:Vlu):bdV v↔(Lit.int .i64 v.Number).wf=true/\(v.Words.length*8<=140737488351232/\∀x∈v.Words,0<=x/\x<=18446744073709551615)/\(v.Texts.length*16<=140737488351232/\∀x∈v.Texts,x.length<=140737488351232)/\v.Subs.length*48<=140737488351232/\bdMs v.Subs:=by cases v;simp only [bdV]
theorem zdL:∀{l:List Vlu},bdVs l↔∀v∈l,bdV v
 | []=>by simp [bdVs]
 | v::l=>by rw [bdVs,zdL (l:=l)];simp
theorem zdK:∀{l:List Msg},bdMs l↔∀v∈l,bdM v
 | []=>by simp [bdMs]
 | v::l=>by rw [bdMs,zdK (l:=l)];simp
section
open Classical
noncomputable def zmW {α:Type} (x y:α):Bool:=decide (x=y)
theorem zgK {α:Type} {x y:α}:zmW x y=true↔x=y:=by unfold zmW;simp
end
def zeX (v:Vlu):Nat:=v.Words.length+v.Texts.length+v.Subs.length
theorem zzK (hb:v.Words.length<=140737488351232/\v.Texts.length<=140737488351232/\v.Subs.length<=140737488351232):zco v=some ((zeX v:Nat):Int):=by
 unfold zco zeX;rw [zk (x:=(v.Words.length:Int)+(v.Texts.length:Int)) (by omega),pU];push_cast;rfl
mutual
def dM:Msg->Nat
 | ⟨vs,_⟩=>dVs vs
def dVs:List Vlu->Nat
 | []=>0
 | v::l=>max (dV v) (dVs l)
def dV:Vlu->Nat
 | ⟨_,_,_,s⟩=>dMs s
def dMs:List Msg->Nat
 | []=>0
 | x::l=>max (1+dM x) (dMs l)
end
theorem zCq (x:Msg):dM x=dVs x.Values:=by cases x;rw [dM]
theorem zAf (v:Vlu):dV v=dMs v.Subs:=by cases v;rw [dV]
theorem zwq :∀{l:List Vlu},v∈l->dV v<=dVs l
 | [],h=>by cases h
 | u::l,h=>by
  rw [dVs];rcases xC.1 h with rfl| h
  ·omega
  ·have:=zwq h;omega
theorem zAe :∀{l:List Msg},x∈l->1+dM x<=dMs l
 | [],h=>by cases h
 | u::l,h=>by
  rw [dMs];rcases xC.1 h with rfl| h
  ·omega
  ·have:=zAe h;omega
structure Th where
 fi:Int
 run:Bool
 val:List UInt8
 raw:List UInt8
def rawB (b:List UInt8) (r:Rec):List UInt8:=(b.drop r.From.toNat).take (r.To.toNat - r.From.toNat)
def thOf (b:List UInt8) (t:Vw):Th:=⟨t.Field,t.Run,valB b t.R,rawB b t.R⟩
def ths (m:Mes) (b:List UInt8):List Th:=(zFp m b).1.map (thOf b)
abbrev zBZ:=List UInt8×Bool×List Int×List Str×List Msg
mutual
/-- How much a meaning is, all together. -/
def wgM:Msg->Nat
 | ⟨vs,u⟩=>1+(u.map fun t=>1+t.length).sum+wgVs vs
def wgVs:List Vlu->Nat
 | []=>0
 | v::l=>wgV v+wgVs l
def wgV:Vlu->Nat
 | ⟨_,w,t,s⟩=>1+w.length+(t.map fun t=>1+t.length).sum+wgMs s
def wgMs:List Msg->Nat
 | []=>0
 | x::l=>wgM x+wgMs l
end
theorem zib (x:Msg):wgM x=1+(x.Unknown.map fun t=>1+t.length).sum+wgVs x.Values:=by cases x;rw [wgM]
theorem zhu (v:Vlu):wgV v=1+v.Words.length+(v.Texts.map fun t=>1+t.length).sum+wgMs v.Subs:=by cases v;rw [wgV]
theorem zoy :∀{l:List Vlu},v∈l->wgV v<=wgVs l
 | [],h=>by cases h
 | u::l,h=>by
  rw [wgVs];rcases xC.1 h with rfl| h
  ·omega
  ·have:=zoy h;omega
theorem zjj :∀{l:List Msg},x∈l->wgM x<=wgMs l
 | [],h=>by cases h
 | u::l,h=>by
  rw [wgMs];rcases xC.1 h with rfl| h
  ·omega
  ·have:=zjj h;omega
theorem zmO :∀{l:List Str},t∈l->1+t.length<=(l.map fun t=>1+t.length).sum
 | [],h=>by cases h
 | u::l,h=>by
  rw [xL,yz];rcases xC.1 h with rfl| h
  ·omega
  ·have:=zmO h;omega
theorem zsN:∀{l:List Str},l.length<=(l.map fun t=>1+t.length).sum
 | []=>by simp
 | u::l=>by
  rw [xL,yz,xY];have:=zsN (l:=l);omega
theorem zyW:∀(l:List Vlu),l.length<=wgVs l
 | []=>by simp [wgVs]
 | u::l=>by rw [wgVs,xY,zhu];have:=zyW l;omega
theorem zur:∀(l:List Msg),l.length<=wgMs l
 | []=>by simp [wgMs]
 | u::l=>by rw [wgMs,xY,zib];have:=zur l;omega
def unkR (m:Mes) (u:Str):Bool:=(zqt u 0).2==0&&(zqt u 0).1.To==(u.length:Int)&&decide (fldI m (zqt u 0).1.Number<0)
def zjv (f:Fld) (w:Int):Bool:=kNum f.Kind&&zbg f.Kind w==w
def zkB (f:Fld) (t:Str):Bool:=f.Kind==16|| (f.Kind==15&&ziy t)
def zmU (f:Fld) (v:Vlu):Bool:=decide (0<zeX v)&&(decide (zeX v<=1)|| f.Repeated)&&zdt f.Kind
mutual
def zap (s:List Mes):Msg->Int->Bool
 | ⟨vs,u⟩,k=>decide (0<=k/\k<s.length)&&zeV s vs (zaF s k) none&&u.all (unkR (zaF s k))
def zeV (s:List Mes):List Vlu->Mes->Option Int->Bool
 | [],_,_=>true
 | v::l,m,p=>decide (0<=fldI m v.Number)&&p.all (fun n=>decide (n<v.Number))&&zhg s v (zam m (fldI m v.Number))&&zeV s l m (some v.Number)
def zhg (s:List Mes):Vlu->Fld->Bool
 | ⟨n,w,t,sub⟩,f=>zmU f ⟨n,w,t,sub⟩&&w.all (zjv f)&&t.all (zkB f)&&zoP s sub f
def zoP (s:List Mes):List Msg->Fld->Bool
 | [],_=>true
 | x::l,f=>(f.Kind==17&&zap s x f.Of)&&zoP s l f
end
theorem zjN (s:List Mes) (x:Msg) (k:Int):zap s x k=(decide (0<=k/\k<s.length)&&zeV s x.Values (zaF s k) none&&x.Unknown.all (unkR (zaF s k))):=by cases x;rw [zap]
theorem zqk (s:List Mes) (v:Vlu) (f:Fld):zhg s v f=(zmU f v&&v.Words.all (zjv f)&&v.Texts.all (zkB f)&&zoP s v.Subs f):=by cases v;rw [zhg]
theorem zkw (s:List Mes) (f:Fld):∀(l:List Msg),zoP s l f=l.all fun x=>f.Kind==17&&zap s x f.Of
 | []=>by rw [zoP];rfl
 | x::l=>by rw [zoP,zkw s f l];rfl
theorem zqa {α:Type} (p:α->Bool) (l:List α) (F:Bool->Int->Option Bool) (h0:∀a,F a (l.length:Int)=some a)
  (hs:∀(a:Bool) (i:Nat) (h:i<l.length),F a (i:Int)=F (a&&p l[i]) ((i+1:Nat):Int)):∀(c i:Nat) (a:Bool),i+c=l.length->F a (i:Int)=some (a&&(l.drop i).all p)
 | 0,i,a,h=>by
  have e:l.drop i=[]:=yg (by omega);have hi:i=l.length:=by omega
  rw [e,hi,h0];simp
 | c+1,i,a,h=>by
  have hd:l.drop i=l[i]::l.drop (i+1):=xZ (by omega);rw [hs a i (by omega),zqa p l F h0 hs c (i+1) _ (by omega),hd,yp,Bool.and_assoc]
def prv (vs:List Vlu) (i:Nat):Option Int:=if i=0 then none else (vs[i - 1]?).map (·.Number)
theorem zAP {s:List Mes} (hs:zjk s):∀(fuel:Nat),(∀(v:Vlu) (f:Fld),szV v<fuel->bdV v->zdq fuel s f v=some (zhg s v f))/\
  ∀(x:Msg) (k:Int),szM x<fuel->bdM x->zbN fuel s k x=some (zap s x k)
 | 0=>⟨fun v f h=>by omega,fun x k h=>by omega⟩
 | fuel+1=>by
  obtain ⟨ih1,ih2⟩:=zAP hs fuel;refine ⟨fun v f we hb=>?_,fun x k we hb=>?_⟩
  ·obtain ⟨_,⟨b1,b1'⟩,⟨b2,b3⟩,b4,b5⟩:=(zgp v).1 hb;rw [zee] at we;show zeo (zdq fuel) (zbN fuel) s f v=_;unfold zeo;rw [zqk];have hg:(zco v>>=fun rv=>if (rv==0)=true then some true else (zco v>>=fun vV=>if (decide (vV>1))=true then (if (!f.Repeated)=true then some true else (zbM f.Kind>>=fun wa=>some (!wa))) else (zbM f.Kind>>=fun rv4=>some (!rv4))))=some (!zmU f v):=by
    rw [zzK ⟨by omega,by omega,by omega⟩,sb,sb,zqB,sb];unfold zmU;by_cases h0:zeX v=0
    ·rw [itT (by simp [h0])];simp [h0]
    ·rw [pT];by_cases h1:zeX v>1
     ·rw [pS];cases hr:f.Repeated
      ·rw [pP];simp;omega
      ·rw [pQ];simp;omega
     ·rw [pT];simp;omega
   rw [hg,sb];by_cases hm:zmU f v=true
   ·rw [itF (by rw [hm];rfl),hm,xM];have h1:=zqa (zjv f) v.Words (fun a i=>zda f v a i) (fun a=>by
      refine zlz ?_;unfold zbs;rw [pR])
     (fun a i hi=>by
      refine zly ?_;unfold zbs;have hx:idx v.Words (i:Int)=some v.Words[i]:=zI rfl hi;rw [pS,hx,sb,zpN,sb,zrX _ (b1' _ (xE hi)),sb,sb,pU];unfold zjv;cases a
      ·rw [pQ,sb];push_cast;rfl
      ·rw [pP];cases kNum f.Kind
       ·rw [pQ,sb];push_cast;rfl
       ·rw [pP,sb];push_cast;rfl) v.Words.length 0 true (xH _)
    have h1':zda f v true 0=_:=h1;rw [h1',sb,xI,xM];have h2:=zqa (zkB f) v.Texts (fun a i=>zdb f v a i) (fun a=>by
      refine zlB ?_;unfold zbt;rw [pR])
     (fun a i hi=>by
      refine zlA ?_;unfold zbt;have hx:idx v.Texts (i:Int)=some v.Texts[i]:=zI rfl hi;have hl:=b3 _ (xE hi);rw [pS,hx,sb,pU];have e:lenO v.Texts[i]=some v.Texts[i]:=by unfold lenO;rw [xx (by omega)]
      rw [e,sb,zwQ (by omega),sb];unfold zkB;cases a
      ·rw [pQ,sb];push_cast;rfl
      ·rw [pP];by_cases h16:f.Kind=16
       ·rw [itT (by simpa using h16),sb];simp [h16]
       ·rw [itF (by simpa using h16)];by_cases h15:f.Kind=15
        ·rw [itT (by simpa using h15),sb];simp [h15]
        ·rw [itF (by simpa using h15),sb];simp [h15,h16]) v.Texts.length 0 (v.Words.all (zjv f)) (xH _)
    have h2':zdb f v (v.Words.all (zjv f)) 0=_:=h2;rw [h2',sb,xI];have h3:=zqa (fun x=>f.Kind==17&&zap s x f.Of) v.Subs (fun a i=>zdc f (zbN fuel) s v a i) (fun a=>by
      refine zlD ?_;unfold zbu;rw [pR])
     (fun a i hi=>by
      refine zlC ?_;unfold zbu;have hx:idx v.Subs (i:Int)=some v.Subs[i]:=zI rfl hi;have hmem:=xE hi;have s1:=zdv hmem;rw [pS,hx,sb,pU,ih2 _ f.Of (by omega) (zdK.1 b5 _ hmem),sb];cases a
      ·rw [pQ,sb];push_cast;rfl
      ·rw [pP];by_cases h17:f.Kind=17
       ·rw [itT (by simpa using h17),sb];simp [h17]
       ·rw [itF (by simpa using h17),sb];simp [h17]) v.Subs.length 0 (v.Words.all (zjv f)&&v.Texts.all (zkB f)) (xH _)
    have h3':zdc f (zbN fuel) s v (v.Words.all (zjv f)&&v.Texts.all (zkB f)) 0=_:=h3;rw [h3',sb,xI,zkw]
   ·have hm':zmU f v=false:=by simpa using hm
    rw [itT (by rw [hm'];rfl),hm'];rfl
  ·obtain ⟨b1,⟨b2,b3⟩,b4⟩:=(zgY x).1 hb;rw [zcc] at we;show zea (zdq fuel) (zbN fuel) s k x=_;unfold zea;rw [zjN];by_cases hk:0<=k/\k<s.length
   ·rw [pT,xV hk,xM];obtain ⟨n,rfl⟩:∃n:Nat,k=n:=⟨k.toNat,by omega⟩;have hn:n<s.length:=by omega
    have hm:idx s (n:Int)=some (zaF s n):=by rw [zI rfl hn,zhV hn]
    have hmm:zaF s (n:Int)∈s:=by rw [zhV hn];exact xE hn
    have hfew:=hs.few _ hmm
    generalize zaF s (n:Int)=m at hm hmm hfew|-
    have hv:∀(c i:Nat),i+c=x.Values.length->zcB (zdq fuel) n s x i=some (if zeV s (x.Values.drop i) m (prv x.Values i)=true then .inl () else .inr ()):=by
     intro c
     induction c with
     | zero=>
      intro i hi;have e:x.Values.drop i=[]:=yg (by omega);rw [e,zeV,xx rfl];refine zgR ?_;unfold zaZ;rw [pT]
     | succ c ih=>
      intro i hi;have hil:i<x.Values.length:=by omega
      have hd:x.Values.drop i=x.Values[i]::x.Values.drop (i+1):=xZ hil;have hx:idx x.Values (i:Int)=some x.Values[i]:=zI rfl hil;have hmem:=xE hil;have s1:=zdw hmem;have hp1:prv x.Values (i+1)=some (x.Values[i]).Number:=by unfold prv;rw [xw (by omega)];simp [hil]
      rw [hd,zeV];have hbody:zaZ (zdq fuel) n s x i=if (decide (0<=fldI m (x.Values[i]).Number)&&(prv x.Values i).all (fun q=>decide (q<(x.Values[i]).Number))&&zhg s x.Values[i] (zam m (fldI m (x.Values[i]).Number)))=true then some (.inl ((i+1:Nat):Int)) else some (.inr (.inr ())):=by
       unfold zaZ;have hw1:i64.wrap ((i:Int)+1)=((i+1:Nat):Int):=by rw [pU];push_cast;rfl
       rw [pS,hm,sb,hx,sb,zod (by omega),sb,hw1];rcases zkl m (x.Values[i]).Number with ⟨hf,_⟩| ⟨j,hj,hf,_⟩
       ·rw [hf,pP,sb,pP,xw (by simp)]
       ·have hfj:idx m.Fields (j:Int)=some (zam m (j:Int)):=by rw [zI rfl hj,zkk hj]
        have hfit:=ih1 x.Values[i] (zam m (j:Int)) (by omega) (zdL.1 b4 _ hmem);rw [hf,pR];by_cases hi0:i=0
        ·subst hi0;rw [pR,sb,hfj,sb,sb,hfit,sb,sb];unfold prv;cases hfv:zhg s x.Values[0] (zam m (j:Int))
         ·rw [pP,xw (by simp)]
         ·rw [pQ,xx (by simp)]
        ·have hi1:i - 1<x.Values.length:=by omega
         have hxp:idx x.Values (i64.wrap ((i:Int) - 1))=some x.Values[i - 1]:=by
          rw [pU];exact zI (by omega) hi1
         have hpv:prv x.Values i=some (x.Values[i - 1]).Number:=by unfold prv;rw [xw hi0];simp [hi1]
         rw [pS,hxp,sb,sb,hpv];by_cases vY:(x.Values[i - 1]).Number<(x.Values[i]).Number
         ·rw [itF (by simpa using vY),sb,hfj,sb,sb,hfit,sb,sb];cases hfv:zhg s x.Values[i] (zam m (j:Int))
          ·rw [pP,xw (by simp)]
          ·rw [pQ,xx (by simp [vY])]
         ·rw [itT (by simpa using vY),sb,pP,xw (by simp;omega)]
      generalize (decide (0<=fldI m (x.Values[i]).Number)&&(prv x.Values i).all (fun q=>decide (q<(x.Values[i]).Number))&&zhg s x.Values[i] (zam m (fldI m (x.Values[i]).Number)))=bb at hbody|-
      cases bb
      ·rw [xw (by simp)] at hbody;rw [zgR hbody,yw,xw (by simp)]
      ·rw [xx rfl] at hbody;rw [zkR hbody,ih _ (by omega),xM,hp1]
    have h1:=hv x.Values.length 0 (xH _);have h1':zcB (zdq fuel) n s x 0=_:=h1;have hp0:prv x.Values 0=none:=rfl;rw [xI,hp0] at h1';rw [h1',sb];cases hrv:zeV s x.Values m none
    ·rw [xw (by simp)];rfl
    ·rw [xx rfl,xM];simp only;have hu:∀(c i:Nat),i+c=x.Unknown.length->zcC n s x i=some (if (x.Unknown.drop i).all (unkR m)=true then .inl () else .inr ()):=by
      intro c
      induction c with
      | zero=>
       intro i hi;have e:x.Unknown.drop i=[]:=yg (by omega);rw [e,List.all_nil,xx rfl];refine zgS ?_;unfold zba;rw [pT]
      | succ c ih=>
       intro i hi;have hil:i<x.Unknown.length:=by omega
       have hd:x.Unknown.drop i=x.Unknown[i]::x.Unknown.drop (i+1):=xZ hil;have hx:idx x.Unknown (i:Int)=some x.Unknown[i]:=zI rfl hil;have hl:=b3 _ (xE hil);have e:lenO x.Unknown[i]=some x.Unknown[i]:=by unfold lenO;rw [xx (by omega)]
       have hw1:i64.wrap ((i:Int)+1)=((i+1:Nat):Int):=by rw [pU];push_cast;rfl
       rw [hd,yp];have hbody:zba n s x i=if unkR m x.Unknown[i]=true then some (.inl ((i+1:Nat):Int)) else some (.inr (.inr ())):=by
        unfold zba unkR;rw [pS,hx,sb,e,sb,zyw (by omega),sb,hw1]
        generalize zqt x.Unknown[i] 0=r
        by_cases c1:r.2=0
        ·rw [itF (by simpa using c1),sb];by_cases c2:r.1.To=(x.Unknown[i]).length
         ·rw [itF (by simpa using c2),hm,sb,zod (by omega),sb,sb];by_cases c3:fldI m r.1.Number<0
          ·rw [itF (by simpa using c3),xx (by simp [c1,c2,c3])]
          ·rw [itT (by simpa using c3),xw (by simp [c1,c2];omega)]
         ·rw [itT (by simpa using c2),sb,pP,xw (by simp [c1,c2])]
        ·rw [itT (by simpa using c1),sb,pP,xw (by simp [c1])]
       cases hun:unkR m x.Unknown[i]
       ·rw [hun,xw (by simp)] at hbody;rw [zgS hbody,yw,xw (by simp)]
       ·rw [hun,xx rfl] at hbody;rw [zkS hbody,ih _ (by omega),xM]
     have h2:=hu x.Unknown.length 0 (xH _);have h2':zcC n s x 0=_:=h2;rw [h2',sb,xI];cases x.Unknown.all (unkR m)<;>rfl
   ·rw [pS,xW hk];rfl
theorem zuL (hs:zjk s) (k:Int) (hf:szM x<fuel) (hb:bdM x):zbN fuel s k x=some (zap s x k):=(zAP hs fuel).2 x k hf hb
theorem zra {α:Type} (bytes:Nat) (l:List α) (hl:l.length*bytes<=140737488355328) (F:Int->List α->Option (List α)) (h0:∀a,F (l.length:Int) a=some a)
  (hs:∀(i:Nat) (h:i<l.length) (a:List α),(a.length+1)*bytes<=140737488355328->F (i:Int) a=F ((i+1:Nat):Int) (a++[l[i]])):∀(c i:Nat),i+c=l.length->F (i:Int) (l.take i)=some l
 | 0,i,h=>by
  have hi:i=l.length:=by omega
  rw [hi,h0,List.take_length]
 | c+1,i,h=>by
  have hil:i<l.length:=by omega
  have hb:(i+1)*bytes<=140737488355328:=yE (yh _ hil) hl;rw [hs i hil _ (by rw [ye,yX (by omega)];exact hb),List.take_append_getElem hil];exact zra bytes l hl F h0 hs c (i+1) (by omega)
theorem zCn:∀(fuel:Nat),(∀x:Msg,szM x<fuel->bdM x->zcK fuel x=some x)/\∀v:Vlu,szV v<fuel->bdV v->zcR fuel v=some v
 | 0=>⟨fun x h=>by omega,fun v h=>by omega⟩
 | fuel+1=>by
  obtain ⟨ih1,ih2⟩:=zCn fuel;refine ⟨fun x we hb=>?_,fun v we hb=>?_⟩
  ·obtain ⟨b1,⟨b2,b3⟩,b4⟩:=(zgY x).1 hb;rw [zcc] at we;show zfd (zcK fuel) (zcR fuel) x=_;unfold zfd;have h:=zra 80 x.Values (by omega) (fun i a=>zdR (zcR fuel) x i a) (fun a=>by
     refine zmx ?_;unfold zbL;rw [pR])
    (fun i hi a ha=>by
     have hm:=xE hi;have s1:=zdw hm;refine zmw ?_;unfold zbL;rw [pS,zI rfl hi,sb,ih2 _ (by omega) (zdL.1 b4 _ hm),sb,zfE (by rw [qY];exact ha),sb,pU];push_cast;rfl)
    x.Values.length 0 (xH _)
   have h':zdR (zcR fuel) x 0 []=_:=h;rw [zfE (by simp;omega),sb,h',sb,yb];cases x;rfl
  ·obtain ⟨_,_,_,b4,b5⟩:=(zgp v).1 hb;rw [zee] at we;show zdn (zcK fuel) (zcR fuel) v=_;unfold zdn;have h:=zra 48 v.Subs (by omega) (fun i a=>zbV (zcK fuel) v i a) (fun a=>by
     refine zjB ?_;unfold zaC;rw [pR])
    (fun i hi a ha=>by
     have hm:=xE hi;have s1:=zdv hm;refine zjA ?_;unfold zaC;rw [pS,zI rfl hi,sb,ih1 _ (by omega) (zdK.1 b5 _ hm),sb,zfE (by rw [qY];exact ha),sb,pU];push_cast;rfl)
    v.Subs.length 0 (xH _)
   have h':zbV (zcK fuel) v 0 []=_:=h;rw [h',sb];cases v;rfl
theorem zzx (hf:szM x<fuel) (hb:bdM x):zcK fuel x=some x:=(zCn fuel).1 x hf hb
mutual
/-- No list is long. -/
def smM:Msg->Prop
 | ⟨vs,u⟩=>vs.length<=1048576/\(u.length<=1048576/\∀t∈u,t.length<=1048576)/\smVs vs
def smVs:List Vlu->Prop
 | []=>True
 | v::l=>smV v/\smVs l
def smV:Vlu->Prop
 | ⟨n,w,t,s⟩=>w.length<=1048576/\(t.length<=1048576/\∀x∈t,x.length<=1048576)/\s.length<=1048576/\smMs s
def smMs:List Msg->Prop
 | []=>True
 | x::l=>smM x/\smMs l
end
theorem zrw (x:Msg):smM x↔x.Values.length<=1048576/\(x.Unknown.length<=1048576/\∀t∈x.Unknown,t.length<=1048576)/\smVs x.Values:=by cases x;simp only [smM]
theorem zrx (v:Vlu):smV v↔v.Words.length<=1048576/\(v.Texts.length<=1048576/\∀x∈v.Texts,x.length<=1048576)/\v.Subs.length<=1048576/\smMs v.Subs:=by cases v;simp only [smV]
theorem zjf:∀{l:List Vlu},smVs l↔∀v∈l,smV v
 | []=>by simp [smVs]
 | v::l=>by rw [smVs,zjf (l:=l)];simp
theorem zje:∀{l:List Msg},smMs l↔∀v∈l,smM v
 | []=>by simp [smMs]
 | v::l=>by rw [smMs,zje (l:=l)];simp
theorem zrz (l:List Str) (F:Int->Int->Option Int) (h0:∀n,F n (l.length:Int)=some n)
  (hs:∀(i:Nat) (h:i<l.length) (n:Int),F n (i:Int)=F (i64.wrap (i64.wrap (n+1)+(l[i].length:Int))) ((i+1:Nat):Int)):∀(c i:Nat) (n:Int),i+c=l.length->
  ∃r,F n (i:Int)=some r/\((∀t∈l,t.length<=1048576)->0<=n->n+1048577*c<=4611686018427387904->r=n+(((l.drop i).map fun t=>1+t.length).sum:Nat)/\r<=n+1048577*c)
 | 0,i,n,h=>by
  have hi:i=l.length:=by omega
  refine ⟨n,by rw [hi,h0],fun _ _ _=>?_⟩;rw [hi,List.drop_length];simp
 | c+1,i,n,h=>by
  have hil:i<l.length:=by omega
  obtain ⟨r,hr,hw⟩:=zrz l F h0 hs c (i+1) (i64.wrap (i64.wrap (n+1)+(l[i].length:Int))) (by omega);refine ⟨r,by rw [hs i hil,hr],fun ht hn hc=>?_⟩;have:=ht _ (xE hil);have e:i64.wrap (i64.wrap (n+1)+(l[i].length:Int))=n+1+(l[i].length:Int):=by
   rw [zk (x:=n+1) (by omega),pU]
  rw [e] at hw;have hd:l.drop i=l[i]::l.drop (i+1):=xZ hil;obtain ⟨w1,w2⟩:=hw ht (by omega) (by omega);rw [hd,xL,yz];push_cast at w1|-;omega
theorem zrh {α:Type} (l:List α) (g:α->Int) (F:Int->Int->Option (Int⊕Unit)) (h0:∀n,F n (l.length:Int)=some (.inl n))
  (hs:∀(i:Nat) (h:i<l.length) (n:Int),F n (i:Int)=if i64.wrap (n+g l[i])>=5000 then some (.inr ()) else F (i64.wrap (n+g l[i])) ((i+1:Nat):Int)):∀(c i:Nat) (n:Int),i+c=l.length->
  ∃q,F n (i:Int)=some q/\((∀a∈l,0<=g a/\g a<=4398046511104)->0<=n->n<=4398046511104->∀u,q= .inl u->u=n+((l.drop i).map g).sum/\0<=u/\(u<=n\/u<5000)/\∀a∈l.drop i,g a<5000)
 | 0,i,n,h=>by
  have hi:i=l.length:=by omega
  refine ⟨.inl n,by rw [hi,h0],fun _ _ _ u hu=>?_⟩;cases hu;rw [hi,List.drop_length];simp;omega
 | c+1,i,n,h=>by
  have hil:i<l.length:=by omega
  have hd:l.drop i=l[i]::l.drop (i+1):=xZ hil;rw [hs i hil];by_cases h5:i64.wrap (n+g l[i])>=5000
  ·exact ⟨.inr (),by rw [xx h5],fun _ _ _ u hu=>by cases hu⟩
  ·obtain ⟨q,hq,hw⟩:=zrh l g F h0 hs c (i+1) (i64.wrap (n+g l[i])) (by omega);refine ⟨q,by rw [xw h5,hq],fun hg hn hnb u hu=>?_⟩;have hgi:=hg _ (xE hil);have e:i64.wrap (n+g l[i])=n+g l[i]:=by rw [pU]
   rw [e] at hw h5;obtain ⟨w1,w2,w3,w4⟩:=hw hg (by omega) (by omega) u hu;rw [hd,xL,yz];refine ⟨by omega,w2,by omega,fun a ha=>?_⟩;rcases xC.1 ha with rfl| ha
   ·omega
   ·exact w4 a ha
theorem zDG:∀(fuel:Nat),(∀(x:Msg) (d:Int),szM x<fuel->bdM x-> -1<=d->d<=1048576->∃r,zbl fuel x d=some r/\(smM x->0<=r/\r<=4398046511104/\(r<5000->r=wgM x/\(dM x:Int)<=d)))/\
  ∀(v:Vlu) (d:Int),szV v<fuel->bdV v->0<=d->d<=1048576->∃r,zaG fuel v d=some r/\(smV v->0<=r/\r<=4398046511104/\(r<5000->r=wgV v/\(dV v:Int)<=d))
 | 0=>⟨fun x d h=>by omega,fun v d h=>by omega⟩
 | fuel+1=>by
  obtain ⟨ih1,ih2⟩:=zDG fuel;refine ⟨fun x d we hb hd hd2=>?_,fun v d we hb hd hd2=>?_⟩
  ·obtain ⟨b1,⟨b2,b3⟩,b4⟩:=(zgY x).1 hb;rw [zcc] at we;show∃r,zem (zbl fuel) (zaG fuel) x d=some r/\_;unfold zem;by_cases hneg:d<0
   ·exact ⟨5000,by rw [itT (by simpa using hneg)],fun _=>⟨by omega,by omega,fun h=>by omega⟩⟩
   rw [itF (by simpa using hneg)];obtain ⟨n,hn,hnw⟩:=zrz x.Unknown (fun n i=>zcS x n i) (fun n=>by
     refine zln ?_;unfold zbm;rw [pR])
    (fun i hi n=>by
     refine zlm ?_;unfold zbm;have hw1:i64.wrap ((i:Int)+1)=((i+1:Nat):Int):=by rw [pU];push_cast;rfl
     rw [pS,zI rfl hi,sb,hw1]) x.Unknown.length 0 1 (xH _)
   have hn':zcS x 1 0=some n:=hn;have hgg:∀v∈x.Values,∃r,zaG fuel v d=some r/\(smV v->0<=r/\r<=4398046511104/\(r<5000->r=wgV v/\(dV v:Int)<=d)):=fun v hv=>by
    have:=zdw hv;exact ih2 v d (by omega) (zdL.1 b4 _ hv) (by omega) hd2
   obtain ⟨q,hq,hqw⟩:=zrh x.Values (fun v=>(zaG fuel v d).getD 0) (fun n i=>zcT d (zaG fuel) x n i) (fun n=>by
     refine zhe ?_;unfold zaL;rw [pR])
    (fun i hi n=>by
     obtain ⟨r,hr,_⟩:=hgg _ (xE hi);have hw1:i64.wrap ((i:Int)+1)=((i+1:Nat):Int):=by rw [pU];push_cast;rfl
     simp only [hr,yS];split
     ·rename_i h5;refine zhe ?_;unfold zaL;rw [pS,zI rfl hi,sb,hr,sb,itT (by simpa using h5)]
     ·rename_i h5;refine zlo ?_;unfold zaL;rw [pS,zI rfl hi,sb,hr,sb,itF (by simpa using h5),hw1]) x.Values.length 0 n (xH _)
   have hq':zcT d (zaG fuel) x n 0=some q:=hq;rw [hn',sb,hq',sb];cases q with
   | inr u=>exact ⟨5000,rfl,fun _=>⟨by omega,by omega,fun h=>by omega⟩⟩
   | inl u=>
    refine ⟨u,rfl,fun hsm=>?_⟩;obtain ⟨s1,⟨s2,s3⟩,s4⟩:=(zrw x).1 hsm;obtain ⟨n1,n2⟩:=hnw s3 (by omega) (by omega);rw [xI] at n1;obtain ⟨u1,u2,u3,u4⟩:=hqw (fun v hv=>by
     obtain ⟨r,hr,hrw⟩:=hgg v hv;have:=hrw (zjf.1 s4 v hv);simp only [hr,yS];exact ⟨this.1,this.2.1⟩) (by omega) (by omega) u rfl
    rw [xI] at u1 u4;refine ⟨u2,by omega,fun _=>?_⟩;have hall:∀l:List Vlu,(∀v∈l,v∈x.Values)->(l.map fun v=>(zaG fuel v d).getD 0).sum=(wgVs l:Int)/\(dVs l:Int)<=d:=by
     intro l
     induction l with
     | nil=>intro _;simp [wgVs,dVs];omega
     | cons v l ih=>
      intro hl;have hv:=hl v xy;obtain ⟨r,hr,hrw⟩:=hgg v hv;obtain ⟨_,_,hr3⟩:=hrw (zjf.1 s4 v hv);have h5:=u4 v hv;simp only [hr,yS] at h5;obtain ⟨e1,e2⟩:=hr3 h5;obtain ⟨i1,i2⟩:=ih fun w hw=>hl w (xz _ hw)
      rw [xL,yz,i1,hr,yS,wgVs,dVs];push_cast;omega
    obtain ⟨a1,a2⟩:=hall x.Values fun v hv=>hv
    rw [zib,zCq];push_cast;refine ⟨?_,a2⟩;push_cast at n1;omega
  ·obtain ⟨_,⟨b1,_⟩,⟨b2,b3⟩,b4,b5⟩:=(zgp v).1 hb;rw [zee] at we;show∃r,zcG (zbl fuel) (zaG fuel) v d=some r/\_;unfold zcG;rw [zk (x:=1+(v.Words.length:Int)) (by omega)];obtain ⟨n,hn,hnw⟩:=zrz v.Texts (fun n i=>zbI v n i) (fun n=>by
     refine ziP ?_;unfold zar;rw [pR])
    (fun i hi n=>by
     refine ziO ?_;unfold zar;have hw1:i64.wrap ((i:Int)+1)=((i+1:Nat):Int):=by rw [pU];push_cast;rfl
     rw [pS,zI rfl hi,sb,hw1]) v.Texts.length 0 (1+(v.Words.length:Int)) (xH _)
   have hn':zbI v (1+(v.Words.length:Int)) 0=some n:=hn;have hgg:∀x∈v.Subs,∃r,zbl fuel x (d - 1)=some r/\(smM x->0<=r/\r<=4398046511104/\(r<5000->r=wgM x/\(dM x:Int)<=d - 1)):=fun x hx=>by
    have:=zdv hx;exact ih1 x (d - 1) (by omega) (zdK.1 b5 _ hx) (by omega) (by omega)
   have hd1:i64.wrap (d - 1)=d - 1:=by rw [pU]
   obtain ⟨q,hq,hqw⟩:=zrh v.Subs (fun x=>(zbl fuel x (d - 1)).getD 0) (fun n i=>zbJ d (zbl fuel) v n i) (fun n=>by
     refine zfV ?_;unfold zah;rw [pR])
    (fun i hi n=>by
     obtain ⟨r,hr,_⟩:=hgg _ (xE hi);have hw1:i64.wrap ((i:Int)+1)=((i+1:Nat):Int):=by rw [pU];push_cast;rfl
     simp only [hr,yS];split
     ·rename_i h5;refine zfV ?_;unfold zah;rw [pS,zI rfl hi,sb,hd1,hr,sb,itT (by simpa using h5)]
     ·rename_i h5;refine ziQ ?_;unfold zah;rw [pS,zI rfl hi,sb,hd1,hr,sb,itF (by simpa using h5),hw1]) v.Subs.length 0 n (xH _)
   have hq':zbJ d (zbl fuel) v n 0=some q:=hq;rw [hn',sb,hq',sb];cases q with
   | inr u=>exact ⟨5000,rfl,fun _=>⟨by omega,by omega,fun h=>by omega⟩⟩
   | inl u=>
    refine ⟨u,rfl,fun hsm=>?_⟩;obtain ⟨s1,⟨s2,s3⟩,s5,s4⟩:=(zrx v).1 hsm;obtain ⟨n1,n2⟩:=hnw s3 (by omega) (by omega);rw [xI] at n1;obtain ⟨u1,u2,u3,u4⟩:=hqw (fun x hx=>by
     obtain ⟨r,hr,hrw⟩:=hgg x hx;have:=hrw (zje.1 s4 x hx);simp only [hr,yS];exact ⟨this.1,this.2.1⟩) (by omega) (by omega) u rfl
    rw [xI] at u1 u4;refine ⟨u2,by omega,fun _=>?_⟩;have hall:∀l:List Msg,(∀x∈l,x∈v.Subs)->(l.map fun x=>(zbl fuel x (d - 1)).getD 0).sum=(wgMs l:Int)/\(dMs l:Int)<=d:=by
     intro l
     induction l with
     | nil=>intro _;simp [wgMs,dMs];omega
     | cons x l ih=>
      intro hl;have hx:=hl x xy;obtain ⟨r,hr,hrw⟩:=hgg x hx;obtain ⟨_,_,hr3⟩:=hrw (zje.1 s4 x hx);have h5:=u4 x hx;simp only [hr,yS] at h5;obtain ⟨e1,e2⟩:=hr3 h5;obtain ⟨i1,i2⟩:=ih fun w hw=>hl w (xz _ hw)
      rw [xL,yz,i1,hr,yS,wgMs,dMs];push_cast;omega
    obtain ⟨a1,a2⟩:=hall v.Subs fun v hv=>hv
    rw [zhu,zAf];push_cast;refine ⟨?_,a2⟩;push_cast at n1;omega
def zHv (s:List Mes):Nat->zrF
 | 0=>none
 | e+1=>some (zgw s e)
theorem zpu (s:List Mes) (d:Nat) (k:Int) (b:List UInt8):zgw s d k b=znL (zaF s k) (zHv s d) b (spl 0 b):=by cases d<;>rfl
theorem zxI (s:List Mes) (d:Nat) (k:Int):zgw s d k []=none:=by rw [zpu,zoS];rfl
def vwG (m:Mes) (r:Rec):Int×Bool:=match vw m r.Number r.Wire with
 | .inl _=>(-1,false)
 | .inr p=>p
def thR (m:Mes) (b:List UInt8) (r:Rec):Th:=⟨(vwG m r).1,(vwG m r).2,valB b r,rawB b r⟩
theorem zDV :∀{l:List Rec},(∀r∈l,∃p,vw m r.Number r.Wire= .inr p)->vws m none l=(l.map fun r=>⟨r,(vwG m r).1,(vwG m r).2⟩,none)
 | [],_=>rfl
 | r::l,h=>by
  obtain ⟨p,hp⟩:=h r xy;rw [vws,hp,zDV fun x hx=>h x (xz _ hx)];simp only [xL,vwG,hp]
theorem zFd (h:zoo m sub b r=none):∃p,vw m r.Number r.Wire= .inr p:=by
 unfold zoo at h;cases hv:vw m r.Number r.Wire with
 | inl c=>rw [hv] at h;cases h
 | inr p=>exact ⟨p,rfl⟩
theorem zxc (h:zgw s d k b=none):ths (zaF s k) b=(spl 0 b).1.map (thR (zaF s k) b):=by
 rw [zpu,zlV] at h;unfold ths zFp;rw [h.2,zDV fun r hr=>zFd (h.1 r hr)];unfold vwR;simp only [pe];rfl
theorem zyp {b:List UInt8} (z:List UInt8) {r:Rec} (h0:0<=r.To) (h:r.To<=b.length):rawB (b++z) r=rawB b r:=by
 unfold rawB;by_cases ha:r.From.toNat<=b.length
 ·rw [qK ha,py (by simp;omega)]
 ·have e:r.To.toNat - r.From.toNat=0:=by omega
  rw [e,yr,yr]
theorem zzI (a b:List UInt8) {r:Rec} (h0:0<=r.From) (h1:r.From<=r.To):rawB (a++b) (zkz a.length r)=rawB b r:=by
 unfold rawB zkz;simp only;have e1:(r.From+(a.length:Int)).toNat=a.length+r.From.toNat:=by omega
 have e2:(r.To+(a.length:Int)).toNat - (a.length+r.From.toNat)=r.To.toNat - r.From.toNat:=by omega
 rw [e1,e2,<-qa,List.drop_left]
theorem zzS {s:List Mes} {d:Nat} {k:Int} {a z:List UInt8} (ha:zgw s d k a=none) (hz:zgw s d k z=none):ths (zaF s k) (a++z)=ths (zaF s k) a++ths (zaF s k) z:=by
 rw [zxc ((zqj s d k z ha).2 hz),zxc ha,zxc hz];rw [zpu,zlV] at ha;have hap:=zug z 0 a ha.2;have hsh:=zvP a.length 0 z;rw [xH] at hap hsh;rw [hap,hsh];simp only [q7,pe];congr 1
 ·refine pB fun r hr=>?_
  have:=zuh 0 a r hr;unfold thR;rw [zsd z (by omega) (by omega),zyp z (by omega) (by omega)]
 ·refine pB fun r hr=>?_
  have:=zuh 0 z r hr;show thR _ _ (zkz a.length r)=_;unfold thR;rw [zpV a z (by omega) (by omega),zzI a z (by omega) (by omega)];rfl
structure OkT (s:List Mes) (d:Nat) (m:Mes) (t:Th):Prop where
 fi:t.fi= -1\/0<=t.fi/\t.fi<m.Fields.length
 unk:t.fi<0->unkR m t.raw=true
 run:0<=t.fi->t.run=true->kNum (zam m t.fi).Kind=true/\(zam m t.fi).Repeated=true/\(zAh (zam m t.fi).Kind t.val).2=0
 one:0<=t.fi->t.run=false->zdt (zam m t.fi).Kind=true/\ziU (zcL (zam m t.fi).Kind) t.val=true/\((zam m t.fi).Kind=15->ziy t.val=true)/\((zam m t.fi).Kind=17->∃e,d=e+1/\zgw s e (zam m t.fi).Of t.val=none)
structure zHA (s:List Mes) (d:Nat) (f:Fld) (a:zBZ):Prop where
 words:∀w∈a.2.2.1,zjv f w=true
 texts:∀t∈a.2.2.2.1,zkB f t=true
 numT:kNum f.Kind=true->a.2.2.2.1=[]
 subs:∀x∈a.2.2.2.2,f.Kind=17/\zap s x f.Of=true/\1+dM x<=d
 join:f.Kind=17->∀e,d=e+1->zgw s e f.Of a.1=none
 met:a.2.1=true->f.Kind=17->∃e,d=e+1
 one:f.Repeated=false->a.2.2.1.length<=1/\a.2.2.2.1.length<=1/\a.2.2.2.2=[]
theorem zsE {k:Int} (h:kNum k=true):k≠17/\k≠15/\k≠16:=by rw [ziW] at h;omega
structure zHz (a:zBZ):Prop where
 words:∀w∈a.2.2.1,0<=w/\w<=18446744073709551615
 texts:∀t∈a.2.2.2.1,t.length<=1048576
 subs:∀x∈a.2.2.2.2,bdM x/\smM x
def zfN (l:List Vlu):Prop:=l.Pairwise fun a b=>a.Number<b.Number
def look (l:List Vlu) (n:Int):Option Vlu:=l.find? fun v=>v.Number==n
theorem zfL (v:Vlu) (l:List Vlu) (n:Int):look (v::l) n=if v.Number=n then some v else look l n:=by
 unfold look;rw [List.find?_cons];by_cases h:v.Number=n
 ·rw [xx h];simp [h]
 ·rw [xw h];have:(v.Number==n)=false:=by simpa using h
  rw [this]
theorem zhA (h:look l n=some v):v.Number=n/\v∈l:=by
 unfold look at h;exact ⟨by simpa using List.find?_some h,List.mem_of_find?_eq_some h⟩
theorem zAD (h:∀v∈l,n<v.Number):look l n=none:=by
 unfold look;rw [List.find?_eq_none];intro v hv;have:=h v hv;simp;omega
theorem zyf (hr:zfN l) (h:v∈l):look l v.Number=some v:=by
 induction l with
 | nil=>cases h
 | cons u l ih=>
  obtain ⟨h1,h2⟩:=yD.1 hr;rw [zfL];rcases xC.1 h with rfl| h
  ·rw [xx rfl]
  ·have:=h1 v h;rw [xw (by omega),ih h2 h]
def putL (v:Vlu):Bool->List Vlu->List Vlu
 | done,[]=>if done=true then [] else [v]
 | done,u::l=>(if done=false/\v.Number<=u.Number then [v] else [])++((if u.Number=v.Number then [] else [u])++putL v (done|| decide (v.Number<=u.Number)) l)
theorem zym (v:Vlu):∀(d:Bool) (l:List Vlu),(putL v d l).length<=l.length+(if d=true then 0 else 1)
 | d,[]=>by rw [putL];cases d<;>simp
 | d,u::l=>by
  have:=zym v (d|| decide (v.Number<=u.Number)) l;rw [putL];simp only [xG,xY];cases d
  ·by_cases h:v.Number<=u.Number
   ·rw [xx ⟨rfl,h⟩];simp only [h,decide_true,qI,yq] at this|-;split<;>simp<;>omega
   ·rw [xw (fun hh=>h hh.2)];simp only [h,decide_false,qO,qj,ql] at this|-;split<;>simp<;>omega
  ·rw [xw (by simp)];simp only [ph,yq] at this|-;split<;>simp<;>omega
theorem zyn :∀{d:Bool} {l:List Vlu} {x:Vlu},x∈putL v d l->x=v/\d=false\/x∈l/\x.Number≠v.Number
 | d,[],x,h=>by
  rw [putL] at h;cases d
  ·rw [xw (by simp)] at h;exact .inl ⟨yk.1 h,rfl⟩
  ·rw [xx rfl] at h;cases h
 | d,u::l,x,h=>by
  rw [putL] at h;rcases xF.1 h with h| h
  ·split at h
   ·rename_i hc;exact .inl ⟨yk.1 h,hc.1⟩
   ·cases h
  ·rcases xF.1 h with h| h
   ·split at h
    ·cases h
    ·rename_i hc;rw [yk.1 h];exact .inr ⟨xy,hc⟩
   ·rcases zyn h with ⟨h1,h2⟩| ⟨h1,h2⟩
    ·refine .inl ⟨h1,?_⟩;cases d
     ·rfl
     ·simp at h2
    ·exact .inr ⟨xz _ h1,h2⟩
theorem zob :∀{d:Bool} {l:List Vlu},zfN l->zfN (putL v d l)
 | d,[],_=>by rw [putL];cases d<;>simp [zfN]
 | d,u::l,h=>by
  obtain ⟨h1,h2⟩:=yD.1 h;have ih:=zob (v:=v) (d:=d|| decide (v.Number<=u.Number)) h2;have hrest:∀x∈putL v (d|| decide (v.Number<=u.Number)) l,u.Number<x.Number:=fun x hx=>by
   rcases zyn hx with ⟨rfl,hd⟩| ⟨hx,_⟩
   ·simp at hd;omega
   ·exact h1 x hx
  rw [putL];have htail:zfN ((if u.Number=v.Number then [] else [u])++putL v (d|| decide (v.Number<=u.Number)) l):=by
   split
   ·exact ih
   ·exact yD.2 ⟨hrest,ih⟩
  split
  ·rename_i hc;rw [List.singleton_append];refine yD.2 ⟨fun x hx=>?_,htail⟩;rcases xF.1 hx with hx| hx
   ·split at hx
    ·cases hx
    ·rw [yk.1 hx];omega
   ·have:=hrest x hx;omega
  ·exact htail
theorem znR (l k:List Vlu) (n:Int):look (l++k) n=match look l n with| some v=>some v| none=>look k n:=by
 unfold look;rw [List.find?_append];cases l.find? (fun v=>v.Number==n)<;>rfl
theorem ztz :∀{d:Bool} {l:List Vlu},zfN l->∀n,look (putL v d l) n=if n=v.Number then (if d=true then none else some v) else look l n
 | d,[],_,n=>by
  rw [putL];cases d
  ·rw [xw (show ¬(false=true) by simp),xw (show ¬(false=true) by simp),zfL];by_cases h:n=v.Number
   ·rw [xx h,xx h.symm]
   ·rw [xw h,xw (fun hh=>h hh.symm)]
  ·rw [xx rfl,xx rfl];split<;>rfl
 | d,u::l,h,n=>by
  obtain ⟨h1,h2⟩:=yD.1 h;have ih:=ztz (v:=v) (d:=d|| decide (v.Number<=u.Number)) h2 n;rw [putL,znR,znR,ih,zfL u l n];by_cases hn:n=v.Number
  ·rw [xx hn,xx hn];have hu:look (if u.Number=v.Number then [] else [u]) n=none:=by
    split
    ·rfl
    ·rw [zfL,xw (by omega)];rfl
   rw [hu];cases d
   ·by_cases hle:v.Number<=u.Number
    ·rw [xx ⟨rfl,hle⟩,zfL,xx hn.symm];simp
    ·rw [xw (fun hh=>hle hh.2)];simp [look,hle]
   ·rw [xw (by simp)];simp [look]
  ·rw [xw hn,xw hn];have hv:look (if d=false/\v.Number<=u.Number then [v] else []) n=none:=by
    split
    ·rw [zfL,xw (fun hh=>hn hh.symm)];rfl
    ·rfl
   rw [hv];by_cases hu:u.Number=v.Number
   ·rw [xx hu,xw (by omega)];rfl
   ·rw [xw hu,zfL];by_cases hun:u.Number=n
    ·rw [xx hun,xx hun]
    ·rw [xw hun,xw hun];rfl
def putM (x:Msg) (v:Vlu):Msg:=⟨putL v (decide (zeX v=0)) x.Values,x.Unknown⟩
theorem zlg :∀{l:List Vlu} {p:Option Int},zeV s l m p=true->∀v∈l,0<=fldI m v.Number/\zhg s v (zam m (fldI m v.Number))=true/\p.all (fun n=>decide (n<v.Number))=true
 | [],p,_,v,hv=>by cases hv
 | u::l,p,h,v,hv=>by
  rw [zeV] at h;simp only [xA,xP] at h;obtain ⟨⟨⟨h1,h2⟩,h3⟩,h4⟩:=h;rcases xC.1 hv with rfl| hv
  ·exact ⟨h1,h3,h2⟩
  ·obtain ⟨g1,g2,g3⟩:=zlg h4 v hv;refine ⟨g1,g2,?_⟩;cases p with
   | none=>rfl
   | some n=>
    simp at h2 g3|-;omega
theorem zog :∀{l:List Vlu} {p:Option Int},zeV s l m p=true->zfN l
 | [],p,_=> .nil
 | u::l,p,h=>by
  rw [zeV] at h;simp only [xA,xP] at h;refine yD.2 ⟨fun v hv=>?_,zog h.2⟩;have:=(zlg h.2 v hv).2.2;simpa using this
theorem ztX :∀{l:List Vlu} {p:Option Int},zfN l->(∀v∈l,0<=fldI m v.Number/\zhg s v (zam m (fldI m v.Number))=true/\p.all (fun n=>decide (n<v.Number))=true)->zeV s l m p=true
 | [],p,_,_=>by rw [zeV]
 | u::l,p,hr,h=>by
  obtain ⟨h1,h2⟩:=yD.1 hr;obtain ⟨a1,a2,a3⟩:=h u xy;rw [zeV,ztX h2 fun v hv=>⟨(h v (xz _ hv)).1,(h v (xz _ hv)).2.1,by simpa using h1 v hv⟩,a2,a3,xV a1];rfl
theorem zdd (h:zap s x k=true):0<=k/\k<s.length/\zfN x.Values/\(∀v∈x.Values,0<=fldI (zaF s k) v.Number/\zhg s v (zam (zaF s k) (fldI (zaF s k) v.Number))=true)/\∀u∈x.Unknown,unkR (zaF s k) u=true:=by
 rw [zjN] at h;simp only [xA,xP] at h;exact ⟨h.1.1.1,h.1.1.2,zog h.1.2,fun v hv=>⟨(zlg h.1.2 v hv).1,(zlg h.1.2 v hv).2.1⟩,xJ.1 h.2⟩
theorem zvM (h1:0<=k) (h2:k<s.length) (h3:zfN x.Values) (h4:∀v∈x.Values,0<=fldI (zaF s k) v.Number/\zhg s v (zam (zaF s k) (fldI (zaF s k) v.Number))=true) (h5:∀u∈x.Unknown,unkR (zaF s k) u=true):zap s x k=true:=by
 rw [zjN,xV ⟨h1,h2⟩,ztX h3 fun v hv=>⟨(h4 v hv).1,(h4 v hv).2,rfl⟩,xJ.2 h5];rfl
structure zid (s:List Mes) (v:Vlu) (f:Fld):Prop where
 many:0<zeX v
 one:f.Repeated=false->zeX v=1
 kind:zdt f.Kind=true
 words:∀w∈v.Words,zjv f w=true
 texts:∀t∈v.Texts,zkB f t=true
 subs:∀x∈v.Subs,f.Kind=17/\zap s x f.Of=true
theorem zeZ (h:zhg s v f=true):zid s v f:=by
 rw [zqk,zkw] at h;unfold zmU at h;simp only [xA,qu,xP,xJ,pj] at h;obtain ⟨⟨⟨⟨⟨h1,h2⟩,h3⟩,h4⟩,h5⟩,h6⟩:=h;refine ⟨h1,fun hr=>?_,h3,h4,h5,fun x hx=>?_⟩
 ·rw [hr] at h2;simp at h2;omega
 ·exact h6 x hx
theorem zAj (h:zid s v f):zhg s v f=true:=by
 obtain ⟨h1,h2,h3,h4,h5,h6⟩:=h;rw [zqk,zkw];unfold zmU;simp only [xA,qu,xP,xJ,pj];refine ⟨⟨⟨⟨⟨h1,?_⟩,h3⟩,h4⟩,h5⟩,fun x hx=>h6 x hx⟩;cases hr:f.Repeated with
 | true=>exact .inr rfl
 | false=>exact .inl (by have:=h2 hr;omega)
theorem zid.noWords (h:zid s v f) (hk:kNum f.Kind=false):v.Words=[]:=by
 cases hw:v.Words with
 | nil=>rfl
 | cons w l=>
  have:=h.words w (by rw [hw];exact xy);unfold zjv at this;rw [hk] at this;simp at this
theorem zid.noTexts (h:zid s v f) (hk:f.Kind≠15/\f.Kind≠16):v.Texts=[]:=by
 cases hw:v.Texts with
 | nil=>rfl
 | cons w l=>
  have:=h.texts w (by rw [hw];exact xy);unfold zkB at this;simp at this;omega
theorem zid.noSubs {s:List Mes} {v:Vlu} {f:Fld} (h:zid s v f) (hk:f.Kind≠17):v.Subs=[]:=by
 cases hw:v.Subs with
 | nil=>rfl
 | cons w l=>exact absurd (h.subs w (by rw [hw];exact xy)).1 hk
theorem zid.msg (h:zid s v f) (hk:f.Kind=17) (hr:f.Repeated=false):∃x,v=⟨v.Number,[],[],[x]⟩/\zap s x f.Of=true:=by
 have h1:=h.noWords (by rw [hk];rfl);have h2:=h.noTexts (by omega);have h3:=h.one hr;have h4:=h.subs;obtain ⟨n,w,t,sub⟩:=v;simp only at h1 h2 h4;subst h1 h2;unfold zeX at h3;simp at h3;obtain ⟨x,rfl⟩:∃x,sub=[x]:=by
  cases sub with
  | nil=>simp at h3
  | cons x l=>cases l with
   | nil=>exact ⟨x,rfl⟩
   | cons _ _=>simp at h3
 exact ⟨x,rfl,(h4 x xy).2⟩
mutual
/-- b zhP a. -/
def zmT (s:List Mes):Msg->Msg->Int->Msg
 | ⟨vs,u⟩,a,k=>⟨ziu s vs a (zaF s k) a.Values,a.Unknown++u⟩
def ziu (s:List Mes):List Vlu->Msg->Mes->List Vlu->List Vlu
 | [],_,_,acc=>acc
 | v::l,a,m,acc=>ziu s l a m (putM ⟨acc,[]⟩ (zhT s v (look a.Values v.Number) (zam m (fldI m v.Number)))).Values
def zhT (s:List Mes):Vlu->Option Vlu->Fld->Vlu
 | ⟨n,w,t,sub⟩,none,f=>⟨n,w,t,sub⟩
 | ⟨n,w,t,sub⟩,some u,f=>if f.Repeated=true then ⟨n,u.Words++w,u.Texts++t,u.Subs++sub⟩ else if f.Kind=17 then ⟨n,[],[],zlF s sub u.Subs f.Of⟩ else ⟨n,w,t,sub⟩
def zlF (s:List Mes):List Msg->List Msg->Int->List Msg
 | [],_,_=>[]
 | x::_,ys,k=>match ys with
  | []=>[]
  | y::_=>[zmT s x y k]
end
theorem znN (s:List Mes) (b a:Msg) (k:Int):zmT s b a k=⟨ziu s b.Values a (zaF s k) a.Values,a.Unknown++b.Unknown⟩:=by cases b;rw [zmT]
theorem znO (s:List Mes) (v:Vlu) (o:Option Vlu) (f:Fld):zhT s v o f=match o with
  | none=>v
  | some u=>if f.Repeated=true then ⟨v.Number,u.Words++v.Words,u.Texts++v.Texts,u.Subs++v.Subs⟩ else if f.Kind=17 then ⟨v.Number,[],[],zlF s v.Subs u.Subs f.Of⟩ else v:=by
 cases v;cases o<;>rw [zhT]
theorem zvo (s:List Mes) (v:Vlu) (o:Option Vlu) (f:Fld):(zhT s v o f).Number=v.Number:=by
 rw [znO];cases o with
 | none=>rfl
 | some u=>simp only;split;rfl;split<;>rfl
theorem zDm (acc:List Vlu) (u:List Str) (v:Vlu):(putM ⟨acc,u⟩ v).Values.length<=acc.length+1:=by
 have:=zym v (decide (zeX v=0)) acc;unfold putM;simp only;split at this<;>omega
theorem zrR :∀{l acc:List Vlu},zfN acc->zfN l->(∀v∈l,0<zeX (zhT s v (look a.Values v.Number) (zam m (fldI m v.Number))))->
  zfN (ziu s l a m acc)/\∀n,look (ziu s l a m acc) n=match look l n with
   | some v=>some (zhT s v (look a.Values n) (zam m (fldI m n)))
   | none=>look acc n
 | [],acc,h1,_,_=>by rw [ziu];exact ⟨h1,fun n=>rfl⟩
 | v::l,acc,h1,h2,h3=>by
  obtain ⟨l1,l2⟩:=yD.1 h2;have hv:=h3 v xy;have hnum:=zvo s v (look a.Values v.Number) (zam m (fldI m v.Number));rw [ziu];have hacc:zfN (putM ⟨acc,[]⟩ (zhT s v (look a.Values v.Number) (zam m (fldI m v.Number)))).Values:=zob h1;obtain ⟨r1,r2⟩:=zrR (s:=s) (a:=a) (m:=m) hacc l2 fun u hu=>h3 u (xz _ hu)
  refine ⟨r1,fun n=>?_⟩;rw [r2 n,zfL];have hlk:look (putM ⟨acc,[]⟩ (zhT s v (look a.Values v.Number) (zam m (fldI m v.Number)))).Values n=if n=v.Number then some (zhT s v (look a.Values v.Number) (zam m (fldI m v.Number))) else look acc n:=by
   unfold putM;simp only;rw [ztz h1 n,hnum];by_cases hn:n=v.Number
   ·rw [xx hn,xx hn,xw fun hh=>by have:=yW hh;omega]
   ·rw [xw hn,xw hn]
  by_cases hn:v.Number=n
  ·rw [xx hn,zAD fun u hu=>by have:=l1 u hu;omega,hlk,xx hn.symm];simp only [hn]
  ·rw [xw hn,hlk,xw fun hh=>hn hh.symm]
theorem ztr (hv:zid s v f) (ho:∀u,o=some u->zid s u f):0<zeX (zhT s v o f):=by
 rw [znO];cases o with
 | none=>exact hv.many
 | some u=>
  have:=hv.many;simp only;by_cases hr:f.Repeated=true
  ·rw [xx hr];unfold zeX at this|-;simp only [xG];omega
  ·rw [xw hr];by_cases h17:f.Kind=17
   ·rw [xx h17];obtain ⟨x,hvx,_⟩:=hv.msg h17 (by simpa using hr);obtain ⟨y,huy,_⟩:=(ho u rfl).msg h17 (by simpa using hr);rw [hvx,huy,zlF];simp [zeX]
   ·rw [xw h17];exact this
theorem zvw (ha:zap s a k=true) (hb:zap s b k=true):zfN (zmT s b a k).Values/\∀n,look (zmT s b a k).Values n=match look b.Values n with
   | some v=>some (zhT s v (look a.Values n) (zam (zaF s k) (fldI (zaF s k) n)))
   | none=>look a.Values n:=by
 obtain ⟨_,_,ra,ha',_⟩:=zdd ha;obtain ⟨_,_,rb,hb',_⟩:=zdd hb;rw [znN];exact zrR ra rb fun v hv=>ztr (zeZ (hb' v hv).2) fun u hu=>by
  obtain ⟨e,hm⟩:=zhA hu;have:=zeZ (ha' u hm).2;rw [e] at this;exact this
def zgT (s:List Mes) (root:Int) (l:List Msg):Int:=if zgX s root≠0 then zgX s root else if l.all (fun x=>zap s x root)=true then 0 else 12
theorem zyv (hw:WS s) (root:Int) (hl:l.length<=1048576) (hx:∀x∈l,szM x<fuel/\bdM x):zfK fuel s root l=some (zgT s root l):=by
 unfold zfK zgT;rw [zwO hw,sb];by_cases h:zgX s root=0
 ·rw [itF (by simpa using h),xw (by simpa using h)];obtain ⟨hr,r0,r1⟩:=zrI h;have key:∀(c i:Nat),i+c=l.length->zdB fuel l root s i=some (if (l.drop i).all (fun x=>zap s x root)=true then .inl () else .inr ()):=by
   intro c
   induction c with
   | zero=>
    intro i hi;have e:l.drop i=[]:=yg (by omega);rw [e,List.all_nil,xx rfl];refine zhy ?_;unfold zbB;rw [pT]
   | succ c ih=>
    intro i hi;have hil:i<l.length:=by omega
    have hd:l.drop i=l[i]::l.drop (i+1):=xZ hil;obtain ⟨h1,h2⟩:=hx _ (xE hil);have hbody:zbB fuel l root s i=if zap s l[i] root=true then some (.inl ((i+1:Nat):Int)) else some (.inr (.inr ())):=by
     unfold zbB;rw [pS,zI rfl hil,sb,zuL hr root h1 h2,sb];cases zap s l[i] root
     ·rw [pP,xw (by simp)]
     ·rw [pQ,xx rfl,pU];push_cast;rfl
    rw [hd,yp];cases hrx:zap s l[i] root
    ·rw [hrx,xw (by simp)] at hbody;rw [zhy hbody];simp
    ·rw [hrx,xx rfl] at hbody;rw [zlS hbody,ih (i+1) (by omega),xM]
  have h1:=key l.length 0 (xH _);have h1':zdB fuel l root s 0=_:=h1;rw [h1',sb,xI];cases l.all (fun x=>zap s x root)<;>rfl
 ·rw [itT (by simpa using h),xx h]
mutual
/-- Kept or left by ways. -/
def zqz (s:List Mes):Msg->Int->List zdJ->Bool->Msg
 | ⟨vs,u⟩,k,w,keep=>⟨zhW s vs (zaF s k) w keep,if keep=true then [] else u⟩
def zhW (s:List Mes):List Vlu->Mes->List zdJ->Bool->List Vlu
 | [],_,_,_=>[]
 | v::l,m,w,keep=>ztN s v (zam m (fldI m v.Number)) w keep++zhW s l m w keep
def ztN (s:List Mes):Vlu->Fld->List zdJ->Bool->List Vlu
 | ⟨n,a,t,sub⟩,f,w,keep=>if zmQ w n=false/\zlL w n≠[]/\f.Kind=17/\f.Repeated=false then [⟨n,[],[],znW s sub f.Of (zlL w n) keep⟩]
  else if zmQ w n=keep then [⟨n,a,t,sub⟩] else []
def znW (s:List Mes):List Msg->Int->List zdJ->Bool->List Msg
 | [],_,_,_=>[]
 | x::_,k,w,keep=>[zqz s x k w keep]
end
theorem ztL (s:List Mes) (x:Msg) (k:Int) (w:List zdJ) (keep:Bool):zqz s x k w keep=⟨zhW s x.Values (zaF s k) w keep,if keep=true then [] else x.Unknown⟩:=by cases x;rw [zqz]
theorem zqA (s:List Mes) (v:Vlu) (f:Fld) (w:List zdJ) (keep:Bool):ztN s v f w keep=if zmQ w v.Number=false/\zlL w v.Number≠[]/\f.Kind=17/\f.Repeated=false then [⟨v.Number,[],[],znW s v.Subs f.Of (zlL w v.Number) keep⟩]
  else if zmQ w v.Number=keep then [v] else []:=by cases v;rw [ztN]
theorem zBA (s:List Mes) (v:Vlu) (f:Fld) (w:List zdJ) (keep:Bool):(ztN s v f w keep).length<=1:=by
 rw [zqA];split;simp;split<;>simp
theorem zzt (hv:zid s v f) (ho:∀u,o=some u->zid s u f)
  (ih:∀x∈v.Subs,∀y:Msg,zap s x f.Of=true->zap s y f.Of=true->zap s (zmT s x y f.Of) f.Of=true):zid s (zhT s v o f) f:=by
 have hm:=ztr hv ho;rw [znO] at hm|-;cases o with
 | none=>exact hv
 | some u=>
  have hu:=ho u rfl;simp only at hm|-;by_cases hr:f.Repeated=true
  ·rw [xx hr] at hm|-;refine ⟨hm,(fun h=>by rw [hr] at h;cases h),hv.kind,fun w hw=>?_,fun w hw=>?_,fun w hw=>?_⟩
   ·rcases xF.1 hw with hw| hw
    ·exact hu.words w hw
    ·exact hv.words w hw
   ·rcases xF.1 hw with hw| hw
    ·exact hu.texts w hw
    ·exact hv.texts w hw
   ·rcases xF.1 hw with hw| hw
    ·exact hu.subs w hw
    ·exact hv.subs w hw
  ·rw [xw hr] at hm|-;by_cases h17:f.Kind=17
   ·rw [xx h17] at hm|-;obtain ⟨x,hvx,hx⟩:=hv.msg h17 (by simpa using hr);obtain ⟨y,huy,hy⟩:=hu.msg h17 (by simpa using hr);have hvs:v.Subs=[x]:=by rw [hvx]
    have hus:u.Subs=[y]:=by rw [huy]
    rw [hvs,hus,zlF];refine ⟨by simp [zeX],(fun _=>by simp [zeX]),hv.kind,(fun w hw=>nomatch hw),(fun w hw=>nomatch hw),fun w hw=>?_⟩;rw [yk.1 hw];exact ⟨h17,ih x (by rw [hvs];exact xy) y hx hy⟩
   ·rw [xw h17] at hm|-;exact hv
theorem zrO :∀(N:Nat) (b a:Msg) (k:Int),szM b<=N->zap s a k=true->zap s b k=true->zap s (zmT s b a k) k=true
 | 0,b,a,k,h,_,_=>by rw [zcc] at h;omega
 | N+1,b,a,k,we,ha,hb=>by
  obtain ⟨k0,k1,ra,ha',ua⟩:=zdd ha;obtain ⟨_,_,rb,hb',ub⟩:=zdd hb;obtain ⟨j1,j2⟩:=zvw ha hb;rw [zcc] at we;refine zvM k0 k1 j1 (fun v hv=>?_) fun u hu=>?_
  ·have hl:=zyf j1 hv;rw [j2] at hl;cases hbl:look b.Values v.Number with
   | none=>
    rw [hbl] at hl;simp only at hl;exact ha' v (zhA hl).2
   | some w=>
    rw [hbl] at hl;simp only at hl;obtain ⟨wn,wm⟩:=zhA hbl;obtain ⟨w0,wf⟩:=hb' w wm;rw [wn] at w0 wf;have hfw:=zeZ wf;have s1:=zdw wm;rw [zee] at s1;refine ⟨w0,zAj ?_⟩;have hvj:zhT s w (look a.Values v.Number) (zam (zaF s k) (fldI (zaF s k) v.Number))=v:=qi hl;have:=zzt (o:=look a.Values v.Number) hfw (fun u hu=>by
     obtain ⟨un,um⟩:=zhA hu;have:=zeZ (ha' u um).2;rw [un] at this;exact this) fun x hx y hxr hyr=>by
      have:=zdv hx;exact zrO N x y _ (by omega) hyr hxr
    rw [hvj] at this;exact this
  ·rw [znN] at hu;rcases xF.1 hu with hu| hu
   ·exact ua u hu
   ·exact ub u hu
theorem zvN (hg:∀v u,g v=some u->u.Number=v.Number):∀{l:List Vlu},zfN l->zfN (l.filterMap g)
 | [],_=> .nil
 | v::l,h=>by
  obtain ⟨h1,h2⟩:=yD.1 h;have ih:=zvN hg h2;cases e:g v with
  | none=>rw [List.filterMap_cons_none e];exact ih
  | some u=>
   rw [List.filterMap_cons_some e];refine yD.2 ⟨fun w hw=>?_,ih⟩;obtain ⟨w',hw',e'⟩:=List.mem_filterMap.1 hw;rw [hg _ _ e,hg _ _ e'];exact h1 w' hw'
def goB (m:Mes) (w:List zdJ) (v:Vlu):Bool:= !zmQ w v.Number&&decide (zlL w v.Number≠[])&&decide ((zam m (fldI m v.Number)).Kind=17)&& !(zam m (fldI m v.Number)).Repeated
theorem zwu :goB m w v=true↔zmQ w v.Number=false/\zlL w v.Number≠[]/\(zam m (fldI m v.Number)).Kind=17/\(zam m (fldI m v.Number)).Repeated=false:=by
 unfold goB;simp only [xA,yd,xP,and_assoc]
def inV (s:List Mes) (m:Mes) (w:List zdJ) (keep:Bool) (v:Vlu):Vlu:=⟨v.Number,[],[],znW s v.Subs (zam m (fldI m v.Number)).Of (zlL w v.Number) keep⟩
def ztM (s:List Mes) (m:Mes) (w:List zdJ) (keep:Bool) (v:Vlu):Option Vlu:=if goB m w v=true then some (inV s m w keep v) else if zmQ w v.Number=keep then some v else none
theorem zvF (v u:Vlu) (h:ztM s m w keep v=some u):u.Number=v.Number:=by
 unfold ztM at h;split at h
 ·cases h;rfl
 ·split at h
  ·cases h;rfl
  ·cases h
theorem zvG (s:List Mes) (m:Mes) (w:List zdJ) (keep:Bool):∀l:List Vlu,zhW s l m w keep=l.filterMap (ztM s m w keep)
 | []=>by rw [zhW];rfl
 | v::l=>by
  rw [zhW,zvG s m w keep l,zqA];by_cases hg:goB m w v=true
  ·rw [xx (zwu.1 hg),List.filterMap_cons_some (b:=inV s m w keep v) (by unfold ztM;rw [xx hg])];rfl
  ·rw [xw (fun h=>hg (zwu.2 h))];by_cases hk:zmQ w v.Number=keep
   ·rw [xx hk,List.filterMap_cons_some (b:=v) (by unfold ztM;rw [xw hg,xx hk])];rfl
   ·rw [xw hk,List.filterMap_cons_none (by unfold ztM;rw [xw hg,xw hk])];rfl
theorem zEq (hg:goB m w v=true) (hf:zid s v (zam m (fldI m v.Number))):∃y,v=⟨v.Number,[],[],[y]⟩/\zap s y (zam m (fldI m v.Number)).Of=true/\∀keep,inV s m w keep v=⟨v.Number,[],[],[zqz s y (zam m (fldI m v.Number)).Of (zlL w v.Number) keep]⟩:=by
 obtain ⟨_,_,h3,h4⟩:=zwu.1 hg;obtain ⟨y,e,hy⟩:=hf.msg h3 h4;have hs:v.Subs=[y]:=by rw [e]
 refine ⟨y,e,hy,fun keep=>?_⟩;unfold inV;rw [hs,znW]
theorem zCu (hf:zid s ⟨n,[],[],[y]⟩ f) (hz:zap s z f.Of=true):zid s ⟨k,[],[],[z]⟩ f:=
 ⟨by simp [zeX],(fun _=>by simp [zeX]),hf.kind,(fun w hw=>nomatch hw),(fun w hw=>nomatch hw),fun w hw=>by rw [yk.1 hw];exact ⟨(hf.subs y xy).1,hz⟩⟩
theorem zGE (hv:v∈x.Values) (e:v=⟨v.Number,[],[],[y]⟩):szM y<szM x:=by
 have s1:=zdw hv;rw [zee] at s1;have hs:v.Subs=[y]:=by rw [e]
 have s2:szM y<=szMs v.Subs:=zdv (by rw [hs];exact xy);rw [zcc x];omega
theorem zrW :∀(N:Nat) (x:Msg) (k:Int) (w:List zdJ) (keep:Bool),szM x<=N->zap s x k=true->zap s (zqz s x k w keep) k=true
 | 0,x,k,w,keep,h,_=>by rw [zcc] at h;omega
 | N+1,x,k,w,keep,we,hx=>by
  obtain ⟨k0,k1,rx,hx',ux⟩:=zdd hx;rw [ztL,zvG];refine zvM k0 k1 (zvN zvF rx) (fun v hv=>?_) fun u hu=>?_
  ·obtain ⟨v0,hv0,e⟩:=List.mem_filterMap.1 hv;obtain ⟨w0,wf⟩:=hx' v0 hv0;have hn:=zvF _ _ e;unfold ztM at e;by_cases hg:goB (zaF s k) w v0=true
   ·rw [xx hg] at e;have hf:=zeZ wf;obtain ⟨y,e1,hy,hin⟩:=zEq hg hf;rw [hin] at e;have hsy:=zGE hv0 e1;rw [hn];refine ⟨w0,zAj ?_⟩;rw [<-qi e];rw [e1] at hf;exact zCu hf (zrW N y _ _ _ (by omega) hy)
   ·rw [xw hg] at e;by_cases hk:zmQ w v0.Number=keep
    ·rw [xx hk] at e;rw [<-qi e];exact ⟨w0,wf⟩
    ·rw [xw hk] at e;cases e
  ·cases keep with
   | true=>exact absurd hu (by simp)
   | false=>exact ux u hu
theorem zts (s:List Mes) (a:Msg) (m:Mes):∀(l acc:List Vlu),(ziu s l a m acc).length<=acc.length+l.length
 | [],acc=>by rw [ziu];simp
 | v::l,acc=>by
  rw [ziu];have h1:=zts s a m l (putM ⟨acc,[]⟩ (zhT s v (look a.Values v.Number) (zam m (fldI m v.Number)))).Values;have h2:=zDm acc [] (zhT s v (look a.Values v.Number) (zam m (fldI m v.Number)));simp only [xY];omega
theorem zAt :∀(N:Nat) (b a:Msg) (k:Int),szM b<=N->zap s a k=true->zap s b k=true->bdM a->bdM b->smM a->smM b->bdM (zmT s b a k)
 | 0,b,a,k,h,_,_,_,_,_,_=>by rw [zcc] at h;omega
 | N+1,b,a,k,we,ha,hb,ba,bb,sa,sb'=>by
  obtain ⟨_,_,ra,ha',_⟩:=zdd ha;obtain ⟨_,_,rb,hb',_⟩:=zdd hb;obtain ⟨j1,j2⟩:=zvw ha hb;obtain ⟨a1,⟨a2,a3⟩,a4⟩:=(zgY a).1 ba;obtain ⟨b1,⟨b2,b3⟩,b4⟩:=(zgY b).1 bb;obtain ⟨sa1,⟨sa2,sa3⟩,sa4⟩:=(zrw a).1 sa;obtain ⟨sb1,⟨sb2,sb3⟩,sb4⟩:=(zrw b).1 sb';rw [zcc] at we;have v8:(zmT s b a k).Values.length<=a.Values.length+b.Values.length:=by rw [znN];exact zts s a _ _ _
  have hun:(zmT s b a k).Unknown=a.Unknown++b.Unknown:=by rw [znN]
  refine (zgY _).2 ⟨by omega,⟨by rw [hun];simp;omega,fun t ht=>by
   rw [hun] at ht;rcases xF.1 ht with h| h
   ·exact a3 t h
   ·exact b3 t h⟩,zdL.2 fun x hx=>?_⟩
  have hl:=zyf j1 hx;rw [j2] at hl;cases hlb:look b.Values x.Number with
  | none=>rw [hlb] at hl;exact zdL.1 a4 x (zhA hl).2
  | some v=>
   rw [hlb] at hl;have e:x=zhT s v (look a.Values x.Number) (zam (zaF s k) (fldI (zaF s k) x.Number)):=(qi hl).symm;obtain ⟨hvn,hvm⟩:=zhA hlb;have bv:=zdL.1 b4 v hvm;have sv:=zjf.1 sb4 v hvm;rw [e,znO];cases hla:look a.Values x.Number with
   | none=>exact bv
   | some u=>
    obtain ⟨hun',hum⟩:=zhA hla;have bu:=zdL.1 a4 u hum;have su:=zjf.1 sa4 u hum;obtain ⟨v1,⟨v2,v3⟩,⟨v4,v5⟩,v6,v7⟩:=(zgp v).1 bv;obtain ⟨u1,⟨u2,u3⟩,⟨u4,u5⟩,u6,u7⟩:=(zgp u).1 bu;obtain ⟨q1,⟨q2,q3⟩,q4,q5⟩:=(zrx v).1 sv;obtain ⟨r1,⟨r2,r3⟩,r4,r5⟩:=(zrx u).1 su;simp only;split
    ·refine (zgp _).2 ⟨v1,⟨by simp;omega,fun w hw=>?_⟩,⟨by simp;omega,fun w hw=>?_⟩,by simp;omega,zdK.2 fun w hw=>?_⟩
     ·rcases xF.1 hw with h| h
      ·exact u3 w h
      ·exact v3 w h
     ·rcases xF.1 hw with h| h
      ·exact u5 w h
      ·exact v5 w h
     ·rcases xF.1 hw with h| h
      ·exact zdK.1 u7 w h
      ·exact zdK.1 v7 w h
    ·split
     ·rename_i hrep h17;have fv:=hb' v hvm;have fu:=ha' u hum;rw [hvn] at fv;rw [hun'] at fu;have ov:=zeZ fv.2;have ou:=zeZ fu.2;refine (zgp _).2 ⟨v1,⟨by simp,by simp⟩,⟨by simp,by simp⟩,?_⟩;cases hvs:v.Subs with
      | nil=>rw [zlF];exact ⟨by simp,by rw [bdMs];trivial⟩
      | cons y ys=>
       cases hus:u.Subs with
       | nil=>rw [zlF];exact ⟨by simp,by rw [bdMs];trivial⟩
       | cons z zs=>
        rw [zlF];simp only;have hy:y∈v.Subs:=by rw [hvs];exact xy
        have hz:z∈u.Subs:=by rw [hus];exact xy
        have hsv:=zdw hvm;rw [zee] at hsv;have hsy:=zdv hy;have hj:=zAt N y z _ (by omega) (ou.subs z hz).2 (ov.subs y hy).2 (zdK.1 u7 z hz) (zdK.1 v7 y hy) (zje.1 r5 z hz) (zje.1 q5 y hy);exact ⟨by simp,by rw [bdMs,bdMs];exact ⟨hj,trivial⟩⟩
     ·exact bv
theorem zsb:∀(l m:List Vlu),szVs (l++m)=szVs l+szVs m
 | [],m=>by rw [yb,szVs];omega
 | v::l,m=>by rw [yo,szVs,szVs,zsb l m];omega
theorem zAM :∀(N:Nat) (x:Msg) (k:Int) (w:List zdJ) (keep:Bool),szM x<=N->bdM x->bdM (zqz s x k w keep)/\szM (zqz s x k w keep)<=szM x
 | 0,x,k,w,keep,h,_=>by rw [zcc] at h;omega
 | N+1,x,k,w,keep,we,hb=>by
  obtain ⟨b1,⟨b2,b3⟩,b4⟩:=(zgY x).1 hb;rw [zcc] at we;have key:∀v∈x.Values,∀f:Fld,(∀u∈ztN s v f w keep,bdV u)/\szVs (ztN s v f w keep)<=szV v:=fun v hv f=>by
   have bv:=zdL.1 b4 v hv;obtain ⟨v1,v2,v3,v6,v7⟩:=(zgp v).1 bv;have hsv:=zdw hv;have hve:=zee v;rw [zqA];split
   ·cases hs:v.Subs with
    | nil=>
     rw [znW];refine ⟨fun u hu=>?_,?_⟩
     ·rw [yk.1 hu];exact (zgp _).2 ⟨v1,⟨by simp,by simp⟩,⟨by simp,by simp⟩,by simp,by rw [bdMs];trivial⟩
     ·rw [szVs,szVs,zee];simp only;rw [szMs];omega
    | cons y ys=>
     have hy:y∈v.Subs:=by rw [hs];exact xy
     have hsy:=zdv hy;obtain ⟨p1,p2⟩:=zAM N y f.Of (zlL w v.Number) keep (by omega) (zdK.1 v7 y hy);rw [znW];refine ⟨fun u hu=>?_,?_⟩
     ·rw [yk.1 hu];exact (zgp _).2 ⟨v1,⟨by simp,by simp⟩,⟨by simp,by simp⟩,by simp,by rw [bdMs,bdMs];exact ⟨p1,trivial⟩⟩
     ·rw [szVs,szVs,zee];simp only;rw [szMs,szMs];omega
   ·split
    ·refine ⟨(fun u hu=>by rw [yk.1 hu];exact bv),?_⟩;rw [szVs,szVs];omega
    ·exact ⟨(fun u hu=>by cases hu),(by rw [szVs];omega)⟩
  have all:∀l:List Vlu,(∀v∈l,v∈x.Values)->(∀u∈zhW s l (zaF s k) w keep,bdV u)/\szVs (zhW s l (zaF s k) w keep)<=szVs l/\(zhW s l (zaF s k) w keep).length<=l.length:=by
   intro l
   induction l with
   | nil=>intro _;rw [zhW];exact ⟨(fun u hu=>by cases hu),xB _,xB _⟩
   | cons v l ih=>
    intro h;obtain ⟨i1,i2,i3⟩:=ih fun u hu=>h u (xz _ hu)
    obtain ⟨k1,k2⟩:=key v (h v xy) (zam (zaF s k) (fldI (zaF s k) v.Number));have k3:=zBA s v (zam (zaF s k) (fldI (zaF s k) v.Number)) w keep;rw [zhW];refine ⟨fun u hu=>?_,?_,?_⟩
    ·rcases xF.1 hu with hu| hu
     ·exact k1 u hu
     ·exact i1 u hu
    ·rw [zsb,szVs];omega
    ·rw [xG,xY];omega
  obtain ⟨a1,a2,a3⟩:=all x.Values fun v hv=>hv
  rw [ztL];refine ⟨(zgY _).2 ⟨by simp only;omega,⟨?_,?_⟩,zdL.2 a1⟩,by rw [zcc,zcc];simp only;omega⟩
  ·simp only;cases keep<;>simp<;>omega
  ·simp only;cases keep with
   | true=>intro t ht;cases ht
   | false=>exact b3
theorem zwa:∀(N:Nat) (x:Msg),szM x<=N->szM x<=wgM x
 | 0,x,h=>by rw [zcc] at h;omega
 | N+1,x,h=>by
  rw [zcc] at h;have hv:∀v∈x.Values,szV v<=wgV v:=fun v hv=>by
   have h1:=zdw hv;have he:=zee v;have:∀l:List Msg,(∀y∈l,y∈v.Subs)->szMs l<=wgMs l:=by
    intro l
    induction l with
    | nil=>intro _;rw [szMs];omega
    | cons y l ih=>
     intro hl;have hy:=hl y xy;have h2:=zdv hy;have:=zwa N y (by omega);have:=ih fun z hz=>hl z (xz _ hz)
     rw [szMs,wgMs];omega
   have:=this v.Subs fun y hy=>hy
   rw [he,zhu];omega
  have:∀l:List Vlu,(∀v∈l,v∈x.Values)->szVs l<=wgVs l:=by
   intro l
   induction l with
   | nil=>intro _;rw [szVs];omega
   | cons v l ih=>
    intro hl;have:=hv v (hl v xy);have:=ih fun z hz=>hl z (xz _ hz)
    rw [szVs,wgVs];omega
  have:=this x.Values fun v hv=>hv
  rw [zcc,zib];omega
theorem zDW:∀(N:Nat) (x:Msg),szM x<=N->wgM x<=1048576->smM x
 | 0,x,h,_=>by rw [zcc] at h;omega
 | N+1,x,h,hw=>by
  rw [zcc] at h;rw [zib] at hw;have hl:=zyW x.Values;have hu:=zsN (l:=x.Unknown);refine (zrw _).2 ⟨by omega,⟨by omega,fun t ht=>by have:=zmO ht;omega⟩,zjf.2 fun v hv=>?_⟩;have h1:=zdw hv;have h2:=zoy hv;rw [zee] at h1;rw [zhu] at h2;have ht:=zsN (l:=v.Texts);have hs:=zur v.Subs;refine (zrx _).2 ⟨by omega,⟨by omega,fun t ht=>by have:=zmO ht;omega⟩,by omega,zje.2 fun y hy=>?_⟩;have h3:=zdv hy;have h4:=zjj hy;exact zDW N y (by omega) (by omega)
theorem zqV:∀(l m:List Vlu),wgVs (l++m)=wgVs l+wgVs m
 | [],m=>by rw [yb,wgVs];omega
 | v::l,m=>by rw [yo,wgVs,wgVs,zqV l m];omega
theorem zyU:∀(l m:List Msg),wgMs (l++m)=wgMs l+wgMs m
 | [],m=>by rw [yb,wgMs];omega
 | v::l,m=>by rw [yo,wgMs,wgMs,zyU l m];omega
def wgO:Option Vlu->Nat
 | none=>0
 | some u=>wgV u
theorem zDo (v:Vlu):∀(d:Bool) (l:List Vlu),zfN l->wgVs (putL v d l)+wgO (look l v.Number)<=wgVs l+(if d=true then 0 else wgV v)
 | d,[],_=>by
  rw [putL];cases d
  ·show wgVs [v]+0<=_;simp [wgVs]
  ·show wgVs []+0<=_;simp
 | d,u::l,h=>by
  obtain ⟨h1,h2⟩:=yD.1 h;have ih:=zDo v (d|| decide (v.Number<=u.Number)) l h2;rw [putL,zqV,zqV,zfL,wgVs];by_cases he:u.Number=v.Number
  ·rw [xx he,xx he];have hn:look l v.Number=none:=zAD fun x hx=>by have:=h1 x hx;omega
   rw [hn] at ih;have hle:decide (v.Number<=u.Number)=true:=by simp;omega
   rw [hle,qI,xx rfl] at ih;simp only [wgO,wgVs,hle,qI] at ih|-;cases d
   ·rw [xx ⟨rfl,by omega⟩,wgVs,wgVs];simp;omega
   ·rw [xw (by simp),wgVs];simp;omega
  ·rw [xw he,xw he,wgVs,wgVs];cases d
   ·by_cases hv:v.Number<=u.Number
    ·rw [xx ⟨rfl,hv⟩,wgVs,wgVs];simp only [hv,decide_true,qI,yq,qj,ql] at ih|-;omega
    ·rw [xw (fun hh=>hv hh.2),wgVs];simp only [hv,decide_false,qO,qj,ql] at ih|-;omega
   ·rw [xw (by simp),wgVs];simp only [ph,yq] at ih|-;omega
theorem zvp :∀(l acc:List Vlu),zfN l->zfN acc->(∀v∈l,look acc v.Number=look a.Values v.Number)->(∀v∈l,wgV (zhT s v (look a.Values v.Number) (zam m (fldI m v.Number)))<=wgV v+wgO (look a.Values v.Number))->wgVs (ziu s l a m acc)<=wgVs acc+wgVs l
 | [],acc,_,_,_,_=>by rw [ziu];omega
 | v::l,acc,hl,ha,he,hw=>by
  obtain ⟨l1,l2⟩:=yD.1 hl;have hv:=he v xy;have hwv:=hw v xy;have hn:=zvo s v (look a.Values v.Number) (zam m (fldI m v.Number));rw [ziu]
  generalize zhT s v (look a.Values v.Number) (zam m (fldI m v.Number))=v' at hn hwv|-
  have hp:=zDo v' (decide (zeX v'=0)) acc ha;have ih:=zvp (s:=s) (a:=a) (m:=m) l (putM ⟨acc,[]⟩ v').Values l2 (zob ha) (fun u hu=>by
   show look (putL v' _ acc) u.Number=_;have:=l1 u hu;rw [ztz ha,xw (by omega)];exact he u (xz _ hu)) (fun u hu=>hw u (xz _ hu))
  have hq:wgVs (putM ⟨acc,[]⟩ v').Values=wgVs (putL v' (decide (zeX v'=0)) acc):=rfl;rw [hn,hv] at hp;rw [wgVs];split at hp<;>omega
theorem zAu :∀(N:Nat) (b a:Msg) (k:Int),szM b<=N->zap s a k=true->zap s b k=true->wgM (zmT s b a k)<=wgM a+wgM b
 | 0,b,a,k,h,_,_=>by rw [zcc] at h;omega
 | N+1,b,a,k,we,ha,hb=>by
  obtain ⟨_,_,ra,ha',_⟩:=zdd ha;obtain ⟨_,_,rb,hb',_⟩:=zdd hb;rw [zcc] at we;have:=zvp (s:=s) (a:=a) (m:=zaF s k) b.Values a.Values rb ra (fun _ _=>rfl) fun v hv=>by
   rw [znO];cases hla:look a.Values v.Number with
   | none=>simp only [wgO];omega
   | some u=>
    obtain ⟨hun,hum⟩:=zhA hla;have hve:=zhu v;have hue:=zhu u;simp only [wgO];split
    ·rw [zhu];simp only [xG,q7,List.sum_append,zyU];omega
    ·split
     ·rename_i hrep h17;have ov:=zeZ (hb' v hv).2;have ou:=zeZ (ha' u hum).2;rw [hun] at ou;have hsv:=zdw hv;rw [zee] at hsv;rw [zhu];simp only [yU,qv,List.sum_nil];cases hvs:v.Subs with
      | nil=>rw [zlF,wgMs];omega
      | cons y ys=>
       cases hus:u.Subs with
       | nil=>rw [zlF,wgMs];omega
       | cons z zs=>
        rw [zlF];have hy:y∈v.Subs:=by rw [hvs];exact xy
        have hz:z∈u.Subs:=by rw [hus];exact xy
        have hsy:=zdv hy;have hj:=zAu N y z _ (by omega) (ou.subs z hz).2 (ov.subs y hy).2;have w1:=zjj hy;have w2:=zjj hz;rw [wgMs,wgMs];omega
     ·omega
  rw [znN,zib,zib,zib];simp only [q7,List.sum_append];omega
theorem zAN :∀(N:Nat) (x:Msg) (k:Int) (w:List zdJ) (keep:Bool),szM x<=N->wgM (zqz s x k w keep)<=wgM x
 | 0,x,k,w,keep,h=>by rw [zcc] at h;omega
 | N+1,x,k,w,keep,we=>by
  rw [zcc] at we;have key:∀v∈x.Values,∀f:Fld,wgVs (ztN s v f w keep)<=wgV v:=fun v hv f=>by
   have hsv:=zdw hv;rw [zee] at hsv;have hve:=zhu v;rw [zqA];split
   ·cases hs:v.Subs with
    | nil=>
     rw [znW,wgVs,wgVs,zhu];simp only [yU,qv,List.sum_nil];rw [wgMs];omega
    | cons y ys=>
     have hy:y∈v.Subs:=by rw [hs];exact xy
     have hsy:=zdv hy;have hwy:=zjj hy;have:=zAN (s:=s) N y f.Of (zlL w v.Number) keep (by omega);rw [znW,wgVs,wgVs,zhu];simp only [yU,qv,List.sum_nil];rw [wgMs,wgMs];omega
   ·split
    ·rw [wgVs,wgVs];omega
    ·rw [wgVs];omega
  have all:∀l:List Vlu,(∀v∈l,v∈x.Values)->wgVs (zhW s l (zaF s k) w keep)<=wgVs l:=by
   intro l
   induction l with
   | nil=>intro _;rw [zhW];exact xB _
   | cons v l ih=>
    intro h;have i2:=ih fun u hu=>h u (xz _ hu)
    have k2:=key v (h v xy) (zam (zaF s k) (fldI (zaF s k) v.Number));rw [zhW,zqV,wgVs];omega
  have:=all x.Values fun v hv=>hv
  rw [ztL,zib,zib];simp only;cases keep<;>simp<;>omega
theorem zzC (s:List Mes) (root:Int) (l:List Msg):zgT s root l=0\/zgT s root l=2\/zgT s root l=9\/zgT s root l=12:=by
 unfold zgT;by_cases h0:zgX s root=0
 ·rw [xw (show ¬zgX s root≠0 from fun hh=>hh h0)];by_cases ha:l.all (fun x=>zap s x root)=true
  ·rw [xx ha];simp
  ·rw [xw ha];simp
 ·rw [xx h0];unfold zgX;split
  ·simp
  ·split<;>simp
theorem zpB (h:zgT s root l=0):zjk s/\0<=root/\root<s.length/\∀x∈l,zap s x root=true:=by
 unfold zgT at h;by_cases h0:zgX s root=0
 ·rw [xw (show ¬zgX s root≠0 from fun hh=>hh h0)] at h;obtain ⟨h1,h2,h3⟩:=zrI h0;by_cases ha:l.all (fun x=>zap s x root)=true
  ·exact ⟨h1,h2,h3,xJ.1 ha⟩
  ·rw [xw ha] at h;cases h
 ·rw [xx h0] at h;exact absurd h h0
theorem zDc {s:List Mes} {root:Int} {l:List Msg} (h1:zgu s=true) (h2:0<=root/\root<s.length) (h:∀x∈l,zap s x root=true):zgT s root l=0:=by
 have h0:zgX s root=0:=by unfold zgX;rw [h1,xw (by simp),xw (by omega)]
 unfold zgT;rw [xw (show ¬zgX s root≠0 from fun hh=>hh h0),xx (xJ.2 h)]
structure Gd (s:List Mes) (root:Int) (n:Nat) (x:Msg):Prop where
 r:zap s x root=true
 b:bdM x
 w:wgM x<=n
theorem Gd.s {s:List Mes} {root:Int} {n:Nat} {x:Msg} (h:Gd s root n x) (hn:n<=1048576):smM x:=zDW _ x (xB _) (yE h.w hn)
theorem Gd.z {s:List Mes} {root:Int} {n fuel:Nat} {x:Msg} (h:Gd s root n x) (hn:n<fuel):szM x<fuel:=Nat.lt_of_le_of_lt (yE (zwa _ x (xB _)) h.w) hn
theorem Gd.join {s:List Mes} {root:Int} {n m:Nat} {a b:Msg} (ha:Gd s root n a) (hb:Gd s root m b) (hn:n<=1048576) (hm:m<=1048576):Gd s root (n+m) (zmT s b a root):=
 ⟨zrO _ b a root (xB _) ha.r hb.r,zAt _ b a root (xB _) ha.r hb.r ha.b hb.b (ha.s hn) (hb.s hm),yE (zAu _ b a root (xB _) ha.r hb.r) (Nat.add_le_add ha.w hb.w)⟩
theorem Gd.part {s:List Mes} {root:Int} {n:Nat} {a:Msg} (ha:Gd s root n a) (w:List zdJ) (keep:Bool):Gd s root n (zqz s a root w keep):=
 ⟨zrW _ a root w keep (xB _) ha.r,(zAM _ a root w keep (xB _) ha.b).1,yE (zAN _ a root w keep (xB _)) ha.w⟩
theorem zFt:∀n:Nat,(∀x:Msg,szM x<=n->dM x<szM x)/\(∀l:List Msg,szMs l<=n->dMs l<=szMs l)/\(∀v:Vlu,szV v<=n->dV v<szV v)/\∀l:List Vlu,szVs l<=n->dVs l<=szVs l
 | 0=>⟨fun x h=>by rw [zcc] at h;omega,fun l h=>by
   cases l with
   | nil=>simp [dMs]
   | cons x l=>rw [szMs,zcc] at h;omega,fun v h=>by rw [zee] at h;omega,fun l h=>by
   cases l with
   | nil=>simp [dVs]
   | cons x l=>rw [szVs,zee] at h;omega⟩
 | n+1=>by
  obtain ⟨i1,i2,i3,i4⟩:=zFt n;have h2:∀l:List Msg,szMs l<=n->dMs l<=szMs l:=i2;have h4:∀l:List Vlu,szVs l<=n->dVs l<=szVs l:=i4;have k1:∀x:Msg,szM x<=n+1->dM x<szM x:=fun x h=>by rw [zcc] at h|-;rw [zCq];have:=h4 x.Values (by omega);omega
  have k3:∀v:Vlu,szV v<=n+1->dV v<szV v:=fun v h=>by rw [zee] at h|-;rw [zAf];have:=h2 v.Subs (by omega);omega
  refine ⟨k1,fun l=>?_,k3,fun l=>?_⟩
  ·induction l with
   | nil=>intro _;simp [dMs]
   | cons x l ih=>intro h;rw [szMs] at h|-;rw [dMs];have:=ih (by omega);have:=k1 x (by omega);omega
  ·induction l with
   | nil=>intro _;simp [dVs]
   | cons x l ih=>intro h;rw [szVs] at h|-;rw [dVs];have:=ih (by omega);have:=k3 x (by omega);omega
theorem zAd (x:Msg):dM x<szM x:=(zFt (szM x)).1 x (xB _)
theorem zAV:∀(fuel:Nat) (x:Msg) (wd:Nat),szM x<fuel->bdM x->dM x<=wd->wd<=1048576->zfz fuel x wd=some ((dM x:Nat):Int)
 | 0,x,_,h,_,_,_=>by omega
 | fuel+1,x,wd,hs,hb,hd,hm=>by
  obtain ⟨b1,_,b4⟩:=(zgY x).1 hb;rw [zcc] at hs;rw [zCq] at hd|-;show zia (zfz fuel) x wd=_;unfold zia;have inner:∀(v:Vlu),v∈x.Values->∀(c i d:Nat),i+c=v.Subs.length->d<=wd->zgo wd (zfz fuel) v d i=some (.inl ((max d (dMs (v.Subs.drop i)):Nat):Int)):=by
   intro v hv c;have we:=zdw hv;have hdv:=zwq hv;obtain ⟨_,_,_,c1,c2⟩:=(zgp _).1 (zdL.1 b4 _ hv);rw [zee] at we;rw [zAf] at hdv
   induction c with
   | zero=>
    intro i d hi hdm;have e:v.Subs.drop i=[]:=yg (by omega);rw [e,dMs];refine zqO ?_;unfold zdW;rw [pT,Nat.max_zero]
   | succ c ih=>
    intro i d hi hdm;have hil:i<v.Subs.length:=by omega
    have hm2:=xE hil;have s2:=zdv hm2;have d2:=zAe hm2;rw [xZ hil,dMs];have hr:=zAV fuel v.Subs[i] (wd - 1) (by omega) (zdK.1 c2 _ hm2) (by omega) (by omega);have hmost:i64.wrap ((wd:Int) - 1)=((wd - 1:Nat):Int):=by rw [pU];omega
    have hw:i64.wrap (1+((dM v.Subs[i]:Nat):Int))=1+((dM v.Subs[i]:Nat):Int):=by rw [pU]
    have hmax:(if (d:Int)<1+((dM v.Subs[i]:Nat):Int) then 1+((dM v.Subs[i]:Nat):Int) else (d:Int))=((max d (1+dM v.Subs[i]):Nat):Int):=by
     split<;>omega
    refine (zqN (deep3':=((max d (1+dM v.Subs[i]):Nat):Int)) (v3':=((i+1:Nat):Int)) ?_).trans ?_
    ·unfold zdW;rw [pS,zI rfl hil,sb,pT,hmost,hr,sb,hw,hmax,pT,pU];push_cast;rfl
    ·rw [ih (i+1) (max d (1+dM v.Subs[i])) (by omega) (by omega)];congr 3;omega
  have outer:∀(c i d:Nat),i+c=x.Values.length->d<=wd->zgn wd (zfz fuel) x d i=some (.inl ((max d (dVs (x.Values.drop i)):Nat):Int)):=by
   intro c
   induction c with
   | zero=>
    intro i d hi hdm;have e:x.Values.drop i=[]:=yg (by omega);rw [e,dVs];refine zqM ?_;unfold zdV;rw [pT,Nat.max_zero]
   | succ c ih=>
    intro i d hi hdm;have hil:i<x.Values.length:=by omega
    have hmem:=xE hil;have hdv:=zwq hmem;rw [xZ hil,dVs];have h2:=inner x.Values[i] hmem (x.Values[i]).Subs.length 0 d (xH _) hdm;rw [xI,<-zAf] at h2;have h2':zgo wd (zfz fuel) x.Values[i] d 0=_:=h2;refine (zqL (deep':=((max d (dV x.Values[i]):Nat):Int)) (v':=((i+1:Nat):Int)) ?_).trans ?_
    ·unfold zdV;rw [pS,zI rfl hil,sb,h2',sb,pU];push_cast;rfl
    ·rw [ih (i+1) (max d (dV x.Values[i])) (by omega) (by omega)];congr 3;omega
  have h:=outer x.Values.length 0 0 (xH _) (ya _);have h':zgn wd (zfz fuel) x 0 0=_:=h;rw [h',sb,xI,Nat.zero_max]
theorem zvT (hf:szM x<fuel) (hb:bdM x) (hd:dM x<=131072):ziC fuel x=some ((dM x:Nat):Int):=by
 unfold ziC;have h:=zAV fuel x 131072 hf hb hd (by omega);have h':zfz fuel x 131072=_:=h;rw [h',sb]
theorem zyK (hf:szM x<fuel) (hb:bdM x) (hd:dM x<=131072):zjQ fuel x=some true:=by
 unfold zjQ;rw [zvT hf hb hd,sb];congr 1;simp;omega
theorem zBe (ha:a.length<=1152921504606846976):zed a b=some (decide (a=b)):=by
 unfold zed;by_cases hl:a.length=b.length
 ·rw [itF (by simp [hl])];have h:=zmN a b (fun i=>zaE a b i) hl (by
    refine zer ?_;unfold zad;rw [pR])
   (fun i hi hi'=>by
    by_cases hp:a[i]=b[i]
    ·rw [xx hp];refine zhb ?_;unfold zad;rw [pS,zI rfl hi,sb,zI rfl hi',sb,itF (by simp [hp]),pU];push_cast;rfl
    ·rw [xw hp];refine zer ?_;unfold zad;rw [pS,zI rfl hi,sb,zI rfl hi',sb,itT (by simp [hp])])
   a.length 0 (by omega)
  have h':zaE a b 0=_:=h;rw [h',sb];simp only [xI];by_cases e:a=b
  ·rw [xx e];simp [e]
  ·rw [xw e];simp [e]
 ·rw [pS];have:a≠b:=fun e=>hl (by rw [e])
  simp [this]
theorem zve (ha:a.length<=1152921504606846976):zcs a b=some (decide (a=b)):=by
 unfold zcs;by_cases hl:a.length=b.length
 ·rw [itF (by simp [hl])];have h:=zmN a b (fun i=>zaD a b i) hl (by
    refine zeq ?_;unfold zac;rw [pR])
   (fun i hi hi'=>by
    by_cases hp:a[i]=b[i]
    ·rw [xx hp];refine zha ?_;unfold zac;rw [pS,zI rfl hi,sb,zI rfl hi',sb,itF (by simp [hp]),pU];push_cast;rfl
    ·rw [xw hp];refine zeq ?_;unfold zac;rw [pS,zI rfl hi,sb,zI rfl hi',sb,itT (by simp [hp])])
   a.length 0 (by omega)
  have h':zaD a b 0=_:=h;rw [h',sb];simp only [xI];by_cases e:a=b
  ·rw [xx e];simp [e]
  ·rw [xw e];simp [e]
 ·rw [pS];have:a≠b:=fun e=>hl (by rw [e])
  simp [this]
section
open Classical
theorem zei {α:Type} {x y:α} (h:x≠y):zmW x y=false:=by
 cases hq:zmW x y with
 | false=>rfl
 | true=>exact absurd (zgK.1 hq) h
theorem zAW:∀(fuel:Nat),(∀x y:Msg,2*szM x<fuel->bdM x->zgN fuel x y=some (zmW x y))/\(∀v u:Vlu,2*szV v<fuel->bdV v->zef fuel v u=some (zmW v u))/\
  (∀a b:List Vlu,2*szVs a+1<fuel->a.length<=1152921504606846976->bdVs a->zG fuel a b=some (zmW a b))/\
  ∀a b:List Msg,2*szMs a+1<fuel->a.length<=1152921504606846976->bdMs a->zJ fuel a b=some (zmW a b)
 | 0=>⟨fun x y h=>by omega,fun v u h=>by omega,fun a b h=>by omega,fun a b h=>by omega⟩
 | fuel+1=>by
  obtain ⟨ih1,ih2,ih3,ih4⟩:=zAW fuel;refine ⟨fun x y hs hb=>?_,fun v u hs hb=>?_,fun a b hs hl hb=>?_,fun a b hs hl hb=>?_⟩
  ·obtain ⟨b1,⟨b2,b3⟩,b4⟩:=(zgY x).1 hb;rw [zcc] at hs;show zow (zgN fuel) (zef fuel) (zG fuel) (zJ fuel) x y=_;unfold zow;rw [ih3 x.Values y.Values (by omega) (by omega) b4,sb];by_cases e1:x.Values=y.Values
   ·rw [zgK.2 e1,pP,zve (by omega),sb,sb];by_cases e2:x.Unknown=y.Unknown
    ·rw [xV e2,zgK.2 (by cases x;cases y;simp only at e1 e2;rw [e1,e2])]
    ·rw [xW e2,zei fun e=>e2 (by rw [e])]
   ·rw [zei e1,pQ,sb,zei fun e=>e1 (by rw [e])]
  ·obtain ⟨b0,⟨b1,_⟩,⟨b2,b3⟩,b4,b5⟩:=(zgp v).1 hb;rw [zee] at hs;show ziE (zgN fuel) (zef fuel) (zG fuel) (zJ fuel) v u=_;unfold ziE;by_cases e0:v.Number=u.Number
   ·rw [itT (by simp [e0]),zBe (by omega),sb];by_cases e1:v.Words=u.Words
    ·rw [itT (by simp [e1]),zve (by omega),sb];by_cases e2:v.Texts=u.Texts
     ·rw [itT (by simp [e2]),ih4 v.Subs u.Subs (by omega) (by omega) b5,sb,sb];by_cases e3:v.Subs=u.Subs
      ·rw [zgK.2 e3,zgK.2 (by cases v;cases u;simp only at e0 e1 e2 e3;rw [e0,e1,e2,e3])]
      ·rw [zei e3,zei fun e=>e3 (by rw [e])]
     ·rw [itF (by simp [e2]),sb,zei fun e=>e2 (by rw [e])]
    ·rw [itF (by simp [e1]),sb,zei fun e=>e1 (by rw [e])]
   ·rw [itF (by simp [e0]),sb,zei fun e=>e0 (by rw [e])]
  ·show zO (zgN fuel) (zef fuel) (zG fuel) (zJ fuel) a b=_;unfold zO;by_cases hll:a.length=b.length
   ·rw [itF (by simp [hll])];have hv:∀(i:Nat) (hi:i<a.length) (hi':i<b.length),zef fuel a[i] b[i]=some (zmW a[i] b[i]):=fun i hi hi'=>by
     have hm:=xE hi;have:=zdw hm;exact ih2 _ _ (by omega) (zdL.1 hb _ hm)
    have h:=zmN a b (fun i=>zw (zef fuel) a b i) hll (by
      refine zag ?_;unfold zq;rw [pR])
     (fun i hi hi'=>by
      by_cases hp:a[i]=b[i]
      ·rw [xx hp];refine zbx ?_;unfold zq;rw [pS,zI rfl hi,sb,zI rfl hi',sb,hv i hi hi',sb,itF (by rw [zgK.2 hp];rfl),pU];push_cast;rfl
      ·rw [xw hp];refine zag ?_;unfold zq;rw [pS,zI rfl hi,sb,zI rfl hi',sb,hv i hi hi',sb,itT (by rw [zei hp];rfl)])
     a.length 0 (by omega)
    have h':zw (zef fuel) a b 0=_:=h;rw [h',sb];simp only [xI];by_cases e:a=b
    ·rw [xx e,zgK.2 e]
    ·rw [xw e,zei e]
   ·rw [pS,zei fun e=>hll (by rw [e])]
  ·show zY (zgN fuel) (zef fuel) (zG fuel) (zJ fuel) a b=_;unfold zY;by_cases hll:a.length=b.length
   ·rw [itF (by simp [hll])];have hv:∀(i:Nat) (hi:i<a.length) (hi':i<b.length),zgN fuel a[i] b[i]=some (zmW a[i] b[i]):=fun i hi hi'=>by
     have hm:=xE hi;have:=zdv hm;exact ih1 _ _ (by omega) (zdK.1 hb _ hm)
    have h:=zmN a b (fun i=>zC (zgN fuel) a b i) hll (by
      refine zau ?_;unfold zt;rw [pR])
     (fun i hi hi'=>by
      by_cases hp:a[i]=b[i]
      ·rw [xx hp];refine zbX ?_;unfold zt;rw [pS,zI rfl hi,sb,zI rfl hi',sb,hv i hi hi',sb,itF (by rw [zgK.2 hp];rfl),pU];push_cast;rfl
      ·rw [xw hp];refine zau ?_;unfold zt;rw [pS,zI rfl hi,sb,zI rfl hi',sb,hv i hi hi',sb,itT (by rw [zei hp];rfl)])
     a.length 0 (by omega)
    have h':zC (zgN fuel) a b 0=_:=h;rw [h',sb];simp only [xI];by_cases e:a=b
    ·rw [xx e,zgK.2 e]
    ·rw [xw e,zei e]
   ·rw [pS,zei fun e=>hll (by rw [e])]
end
theorem zDQ (y:Msg) (hf:2*szM x<fuel) (hb:bdM x) (hd:dM x<=131072):zrA fuel x y=some (zmW x y):=by
 unfold zrA;rw [zyK (by omega) hb hd,sb,pP,(zAW fuel).1 x y hf hb,sb,sb]
theorem zEQ:∀a<256,zqR ((a:Nat):Int)=some (if a<128 then (1,(a:Int)) else if a/32=6 then (2,((a%32:Nat):Int)) else if a/16=14 then (3,((a%16:Nat):Int)) else if a/8=30 then (4,((a%8:Nat):Int)) else (0,0)):=by decide+kernel
theorem zwV (w k:Nat) (h:k<=32):shrI .u32 (w:Int) (k:Int)=((w/2^k:Nat):Int):=zqI (k:= .u32) (a:=w) (b:=k) (by simpa [IntKind.bits] using h)
theorem zsC (w:Nat):zmq (w:Int)=some (if w<128 then 1 else if w<2048 then 2 else if 55296<=w/\w<=57343 then 0 else if w<65536 then 3 else if w<=1114111 then 4 else 0):=by
 unfold zmq;have e7:shrI .u32 (w:Int) 7=((w/128:Nat):Int):=zwV w 7 (by omega);have e11:shrI .u32 (w:Int) 11=((w/2048:Nat):Int):=zwV w 11 (by omega);have e16:shrI .u32 (w:Int) 16=((w/65536:Nat):Int):=zwV w 16 (by omega);rw [e7,e11,e16];by_cases h1:w<128
 ·rw [pS,xx h1]
 ·rw [pT,xw h1];by_cases h2:w<2048
  ·rw [pS,xx h2]
  ·rw [pT,xw h2];by_cases h3:55296<=w/\w<=57343
   ·rw [pS,xx h3]
   ·rw [pT,xw h3];by_cases h4:w<65536
    ·rw [pS,xx h4]
    ·rw [pT,xw h4];by_cases h5:w<=1114111
     ·rw [pS,xx h5]
     ·rw [pT,xw h5]
theorem zBp:∀c<256,shrI .u8 ((c:Nat):Int) 6=((c/64:Nat):Int)/\u32.wrap (andI .u8 ((c:Nat):Int) 63)=((c%64:Nat):Int):=by decide+kernel
theorem zjM {v:List UInt8} {w i:Nat} (h:i<v.length) (hv:v.length<=1000) (hw:w<=1000000):
  zct v w i=if cont v[i] then zct v ((64*w+v[i].toNat%64:Nat):Int) ((i+1:Nat):Int) else some (.inr ()):=by
 have hc:=v[i].toNat_lt;obtain ⟨e1,e2⟩:=zBp v[i].toNat (by omega);have hb:zey v w i=if cont v[i] then some (.inl (((64*w+v[i].toNat%64:Nat):Int),((i+1:Nat):Int))) else some (.inr (.inr ())):=by
  unfold zey;rw [pS,zI rfl h,sb,e1,e2];by_cases hk:cont v[i]=true
  ·rw [xx hk];unfold cont at hk;simp only [xP] at hk;rw [pT,pU];have e3:shlI .u32 (w:Int) 6=((w*64:Nat):Int):=by
    have:shlI .u32 (w:Int) 6=((w*64%4294967296:Nat):Int):=by simp [shlI,IntKind.bits,zyY]
    rw [this,qf (by omega)]
   rw [e3,zsG rfl (by simp [IntKind.bits];omega) (by simp [IntKind.bits];omega),Nat.or_comm,ztI _ w 6 (by omega)];have e4:v[i].toNat%64+w*2^6=64*w+v[i].toNat%64:=by omega
   rw [e4];rfl
  ·rw [xw hk];unfold cont at hk;simp only [xP] at hk;rw [pS]
 by_cases hk:cont v[i]=true
 ·rw [xx hk] at hb|-;exact zsl hb
 ·rw [xw hk] at hb|-;exact zmZ hb
theorem zqr (h:v.length<=i):zct v w i=some (.inl (w:Int)):=by
 refine zmZ ?_;unfold zey;rw [pT]
theorem zHb {w:Nat} {b:UInt8} (hw:w<=100):zct [b] w 0=if cont b then some (.inl ((64*w+b.toNat%64:Nat):Int)) else some (.inr ()):=by
 have h:=zjM (v:=[b]) (w:=w) (i:=0) (by simp) (by simp) (by omega);refine Eq.trans h ?_;simp only [pG];rw [zqr (by simp)]
theorem zHc {w:Nat} {b c:UInt8} (hw:w<=100):zct [b,c] w 0=if cont b then (if cont c then some (.inl ((64*(64*w+b.toNat%64)+c.toNat%64:Nat):Int)) else some (.inr ())) else some (.inr ()):=by
 have h:=zjM (v:=[b,c]) (w:=w) (i:=0) (by simp) (by simp) (by omega);refine Eq.trans h ?_;rw [zjM (i:=0+1) (by simp) (by simp) (by omega)];simp only [pG,pF,xH];rw [zqr (by simp)]
theorem zHd {w:Nat} {b c d:UInt8} (hw:w<=100):zct [b,c,d] w 0=if cont b then (if cont c then (if cont d then some (.inl ((64*(64*(64*w+b.toNat%64)+c.toNat%64)+d.toNat%64:Nat):Int)) else some (.inr ())) else some (.inr ())) else some (.inr ()):=by
 have h:=zjM (v:=[b,c,d]) (w:=w) (i:=0) (by simp) (by simp) (by omega);refine Eq.trans h ?_;rw [zjM (i:=0+1) (by simp) (by simp) (by omega),zjM (i:=0+1+1) (by simp) (by simp) (by omega)];simp only [pG,pF,xH];rw [zqr (by simp)]
theorem zDf (n:Nat) (h:∀m,m≠n->isN m l=false):nxt l=if isN n l then n else 0:=by
 by_cases hn:isN n l=true
 ·rw [xx hn,zGt hn]
 ·rw [xw hn];by_cases h0:nxt l=0
  ·exact h0
  ·have h1:=zsF h0;by_cases h2:nxt l=n
   ·rw [h2] at h1;exact absurd h1 hn
   ·rw [h _ h2] at h1;cases h1
theorem zmf (n:Nat) (h:n=1/\a.toNat<128\/n=2/\192<=a.toNat/\a.toNat<224\/n=3/\224<=a.toNat/\a.toNat<240\/n=4/\240<=a.toNat):nxt (a::t)=if isN n (a::t) then n else 0:=by
 refine zDf n fun m hm=>?_
 cases hh:isN m (a::t) with
 | false=>rfl
 | true=>
  obtain ⟨a',t',e,_,g⟩:=zko hh;cases e;omega
theorem zAw (b:List UInt8):zmp b=some ((nxt b:Nat):Int):=by
 cases b with
 | nil=>rfl
 | cons a t=>
  have ha:=a.toNat_lt;unfold zmp;have e00:idx (a::t) (0:Int)=some a:=zI (n:=0) rfl (by simp);rw [pT,e00,sb];rw [zEQ _ (by omega),sb];by_cases h1:a.toNat<128
  ·rw [zmf 1 (.inl ⟨rfl,h1⟩),xx h1];simp only;rw [pT,znA (i:=1) (j:=1) (a:=1) (b:=1) rfl rfl (by omega) (by simp),sb];have e0:zct (((a::t).drop 1).take (1 - 1)) (a.toNat:Int) 0=some (.inl (a.toNat:Int)):=zqr (i:=0) (by simp);rw [e0,sb];simp only;rw [zsC,sb,xx h1,pQ];simp [isN,is1,h1]
  ·rw [xw h1];by_cases h2:a.toNat/32=6
   ·rw [zmf 2 (.inr (.inl ⟨rfl,by omega,by omega⟩)),xx h2];simp only
    match t with
    | []=>rw [itT (by simp)];rfl
    | b::t=>
     rw [pT,znA (i:=1) (j:=2) (a:=1) (b:=2) rfl rfl (by omega) (by simp),sb];have e0:=zHb (w:=a.toNat%32) (b:=b) (by omega);have e0':zct (((a::b::t).drop 1).take (2 - 1)) ((a.toNat%32:Nat):Int) 0=_:=e0;rw [e0'];have hb:=b.toNat_lt;by_cases c1:cont b=true
     ·rw [xx c1,sb];simp only;have hn:=zsC (64*(a.toNat%32)+b.toNat%64);simp only [isN,is2,c1,qk,xP];simp only [cont,xP] at c1;by_cases h:194<=a.toNat
      ·rw [xw (by omega),xx (by omega)] at hn;rw [hn,sb,pQ,xx (by omega)];rfl
      ·rw [xx (by omega)] at hn;rw [hn,sb,pP,xw (by omega)];rfl
     ·rw [xw c1,sb];simp only;simp [isN,is2,c1]
   ·rw [xw h2];by_cases h3:a.toNat/16=14
    ·rw [zmf 3 (.inr (.inr (.inl ⟨rfl,by omega,by omega⟩))),xx h3];simp only
     match t with
     | []=>rw [itT (by simp)];rfl
     | [b]=>rw [itT (by simp)];rfl
     | b::c::t=>
      rw [pT,znA (i:=1) (j:=3) (a:=1) (b:=3) rfl rfl (by omega) (by simp),sb];have e0:=zHc (w:=a.toNat%16) (b:=b) (c:=c) (by omega);have e0':zct (((a::b::c::t).drop 1).take (3 - 1)) ((a.toNat%16:Nat):Int) 0=_:=e0;rw [e0'];have hb:=b.toNat_lt;have hc:=c.toNat_lt;by_cases c1:cont b=true
      ·rw [xx c1];by_cases c2:cont c=true
       ·rw [xx c2,sb];simp only;have hn:=zsC (64*(64*(a.toNat%16)+b.toNat%64)+c.toNat%64);simp only [isN,is3,c1,c2,yZ,xP];simp only [cont,xP] at c1 c2;by_cases h:(a.toNat=224->160<=b.toNat)/\(a.toNat=237->b.toNat<160)
        ·rw [xw (by omega),xw (by omega),xw (by omega),xx (by omega)] at hn;rw [hn,sb,pQ,xx (by omega)];rfl
        ·by_cases g:64*(64*(a.toNat%16)+b.toNat%64)+c.toNat%64<2048
         ·by_cases g':64*(64*(a.toNat%16)+b.toNat%64)+c.toNat%64<128
          ·rw [xx g'] at hn;rw [hn,sb,pP,xw (by omega)];rfl
          ·rw [xw g',xx g] at hn;rw [hn,sb,pP,xw (by omega)];rfl
         ·rw [xw (by omega),xw g,xx (by omega)] at hn;rw [hn,sb,pP,xw (by omega)];rfl
       ·rw [xw c2,sb];simp only;simp [isN,is3,c2]
      ·rw [xw c1,sb];simp only;simp [isN,is3,c1]
    ·rw [xw h3];by_cases h4:a.toNat/8=30
     ·rw [zmf 4 (.inr (.inr (.inr ⟨rfl,by omega⟩))),xx h4];simp only
      match t with
      | []=>rw [itT (by simp)];rfl
      | [b]=>rw [itT (by simp)];rfl
      | [b,c]=>rw [itT (by simp)];rfl
      | b::c::d::t=>
       rw [pT,znA (i:=1) (j:=4) (a:=1) (b:=4) rfl rfl (by omega) (by simp),sb];have e0:=zHd (w:=a.toNat%8) (b:=b) (c:=c) (d:=d) (by omega);have e0':zct (((a::b::c::d::t).drop 1).take (4 - 1)) ((a.toNat%8:Nat):Int) 0=_:=e0;rw [e0'];have hb:=b.toNat_lt;have hc:=c.toNat_lt;have hd:=d.toNat_lt;by_cases c1:cont b=true
       ·rw [xx c1];by_cases c2:cont c=true
        ·rw [xx c2];by_cases c3:cont d=true
         ·rw [xx c3,sb];simp only;have hn:=zsC (64*(64*(64*(a.toNat%8)+b.toNat%64)+c.toNat%64)+d.toNat%64);simp only [isN,is4,c1,c2,c3,yZ,xP];simp only [cont,xP] at c1 c2 c3;by_cases h:a.toNat<245/\(a.toNat=240->144<=b.toNat)/\(a.toNat=244->b.toNat<144)
          ·rw [xw (by omega),xw (by omega),xw (by omega),xw (by omega),xx (by omega)] at hn;rw [hn,sb,pQ,xx (by omega)];rfl
          ·have hw:¬(65536<=64*(64*(64*(a.toNat%8)+b.toNat%64)+c.toNat%64)+d.toNat%64/\64*(64*(64*(a.toNat%8)+b.toNat%64)+c.toNat%64)+d.toNat%64<=1114111):=by omega
           generalize 64*(64*(64*(a.toNat%8)+b.toNat%64)+c.toNat%64)+d.toNat%64=w at hn hw
           have hx:∃x:Int,zmq w=some x/\x≠4:=⟨_,hn,by (repeat' split)<;>omega⟩;obtain ⟨x,hx,h4⟩:=hx;rw [hx,sb,pS,xw (by omega)];rfl
         ·rw [xw c3,sb];simp only;simp [isN,is4,c3]
        ·rw [xw c2,sb];simp only;simp [isN,is4,c2]
       ·rw [xw c1,sb];simp only;simp [isN,is4,c1]
     ·rw [xw h4,pP];by_cases h5:240<=a.toNat
      ·rw [zmf 4 (.inr (.inr (.inr ⟨rfl,h5⟩)))];cases hh:isN 4 (a::t) with
       | false=>rfl
       | true=>
        match t,hh with
        | b::c::d::t,hh=>simp only [isN,is4,xP] at hh;omega
      ·by_cases h0:nxt (a::t)=0
       ·rw [h0];rfl
       ·obtain ⟨a',t',e,_,g⟩:=zko (zsF h0);cases e;omega
theorem zBT (hb:b.length<=1152921504606846976) (l:List UInt8):∀(a c:Nat),c<=a->a<=b.length->l=b.drop a->
  zgH b a c ((nxt l:Nat):Int)=some (((a+(pre4 l).1:Nat):Int),((c+(pre4 l).2:Nat):Int)):=by
 refine zDk (fun l=>∀(a c:Nat),c<=a->a<=b.length->l=b.drop a->zgH b a c ((nxt l:Nat):Int)=some (((a+(pre4 l).1:Nat):Int),((c+(pre4 l).2:Nat):Int))) ?_ ?_ l
 ·intro l h a c hc ha hl;rw [h,zBD h];refine zsn ?_;unfold zfr;rw [pQ];rfl
 ·intro l h ih a c hc ha hl;subst hl;have h4:=zwK (b.drop a);have hle:=zpD (b.drop a);simp only [yn] at hle;have e1:(b.drop a).drop (nxt (b.drop a))=b.drop (a+nxt (b.drop a)):=by rw [qa]
  refine (zsm (atv':=((a+nxt (b.drop a):Nat):Int)) (points':=((c+1:Nat):Int)) (size':=((nxt (b.drop (a+nxt (b.drop a))):Nat):Int)) ?_).trans ?_
  ·unfold zfr;rw [pS,pU,ztc (a:=a+nxt (b.drop a)) (by push_cast;rfl) rfl (by omega),sb,zAw,sb,pU];rfl
  ·rw [<-e1,ih (a+nxt (b.drop a)) (c+1) (by omega) (by omega) e1,zES h];simp only [qo,pd 1]
theorem zDS (hb:b.length<=1152921504606846976):zox b=some (((pre4 b).1:Int),((pre4 b).2:Int)):=by
 unfold zox;rw [zAw,sb];have h:=zBT hb b 0 0 (xB _) (ya _) rfl;simp only [xH] at h;have h':zgH b 0 0 ((nxt b:Nat):Int)=some (((pre4 b).1:Int),((pre4 b).2:Int)):=h;rw [h',sb]
theorem zBS (hb:b.length<=1152921504606846976):zmn b=some ((pre4 b).1:Int):=by
 unfold zmn;rw [zDS hb,sb]
theorem zvX (hb:b.length<=1152921504606846976):zmo b=some (ziy b):=by
 unfold zmo ziy;rw [zBS hb,sb,zqb]
def zGs:List Str:=[[],[105,110,116,51,50],[105,110,116,54,52],[117,105,110,116,51,50],[117,105,110,116,54,52],[115,105,110,116,51,50],[115,105,110,116,54,52],[98,111,111,108],[101,110,117,109],[102,105,120,101,100,51,50],[115,102,105,120,101,100,51,50],[102,108,111,97,116],[102,105,120,101,100,54,52],[115,102,105,120,101,100,54,52],[100,111,117,98,108,101],[115,116,114,105,110,103],[98,121,116,101,115],[109,101,115,115,97,103,101]]
def zCH (k:Int):Str:=(zGs[k.toNat]?).getD []
def kT:List (Int×zo):=[(1,⟨[105,110,116,51,50],0⟩),(2,⟨[105,110,116,54,52],0⟩),(3,⟨[117,105,110,116,51,50],0⟩),(4,⟨[117,105,110,116,54,52],0⟩),(5,⟨[115,105,110,116,51,50],0⟩),(6,⟨[115,105,110,116,54,52],0⟩),(7,⟨[98,111,111,108],0⟩),(8,⟨[101,110,117,109],0⟩),(9,⟨[102,105,120,101,100,51,50],5⟩),(10,⟨[115,102,105,120,101,100,51,50],5⟩),(11,⟨[102,108,111,97,116],5⟩),(12,⟨[102,105,120,101,100,54,52],1⟩),(13,⟨[115,102,105,120,101,100,54,52],1⟩),(14,⟨[100,111,117,98,108,101],1⟩),(15,⟨[115,116,114,105,110,103],2⟩),(16,⟨[98,121,116,101,115],2⟩),(17,⟨[109,101,115,115,97,103,101],2⟩)]
theorem zxY:zkp=some kT:=rfl
theorem zrY (h:zdt k=true):k=1\/k=2\/k=3\/k=4\/k=5\/k=6\/k=7\/k=8\/k=9\/k=10\/k=11\/k=12\/k=13\/k=14\/k=15\/k=16\/k=17:=by
 have:=yW h;omega
theorem zGc (h:zdt k=true):mget kT k=some ⟨zCH k,zcL k⟩:=by
 rcases zrY h with rfl| rfl| rfl| rfl| rfl| rfl| rfl| rfl| rfl| rfl| rfl| rfl| rfl| rfl| rfl| rfl| rfl<;>rfl
theorem zEy (h:e∈kT):zdt e.1=true/\e.2=⟨zCH e.1,zcL e.1⟩:=by
 have:kT.all (fun e=>zdt e.1&&decide (e.2=⟨zCH e.1,zcL e.1⟩))=true:=by decide
 have h1:=xJ.1 this e h;simp only [xA,xP] at h1;exact h1
theorem zEz (h:zdt k=false):mget kT k=none:=by
 cases hg:mget kT k with
 | none=>rfl
 | some x=>
  have mem:∀{m:List (Int×zo)} {x:zo},mget m k=some x->(k,x)∈m:=fun {m x} hg=>by
   induction m with
   | nil=>cases hg
   | cons p m ih=>
    rw [mget] at hg;split at hg
    ·rename_i e;cases hg;rw [e];exact xy
    ·exact xz _ (ih hg)
  have h1:=(zEy (mem hg)).1;simp only at h1;rw [h] at h1;cases h1
theorem zCO (k:Int):zmb k=some (if zdt k then (zcL k,0) else (0,2)):=by
 unfold zmb;rw [zxY,sb];cases h:zdt k with
 | true=>rw [zGc h];rfl
 | false=>rw [zEz h];rfl
theorem zzw (k:Int):ziX k=some (kNum k):=by
 unfold ziX;rw [zCO,sb];cases h:zdt k with
 | true=>
  rcases zrY h with rfl| rfl| rfl| rfl| rfl| rfl| rfl| rfl| rfl| rfl| rfl| rfl| rfl| rfl| rfl| rfl| rfl<;>rfl
 | false=>
  have h1:=pH h;have:kNum k=false:=xW (by omega);rw [this];rfl
theorem zEB:kT.map Prod.fst=[1,2,3,4,5,6,7,8,9,10,11,12,13,14,15,16,17]:=rfl
theorem zEA:znP=some [1,2,3,4,5,6,7,8,9,10,11,12,13,14,15,16,17]:=by
 have e:zxW kT=some [1,2,3,4,5,6,7,8,9,10,11,12,13,14,15,16,17]:=by
  unfold zxW;rw [xx ⟨by decide,by decide⟩,zEB,List.mergeSort_of_pairwise (by decide)]
 unfold znP;rw [zxY,sb,e,sb]
theorem zma (k:Int) (h:0<=w/\w<=18446744073709551615):zho k w=some (if kNum k then (zbg k w,0) else (0,2)):=by
 have hs:=zwU w;have hc:=ziN k h;unfold zho;by_cases h1:k=1\/k=8
 ·have e:(if (k==1)=true then some (k==1) else some (k==8))=some true:=by rcases h1 with rfl| rfl<;>rfl
  have hn:kNum k=true:=xV (by omega);rw [e,sb,itT rfl,zBN,sb,zBU (by omega),sb,hn];unfold zbg;rw [xx h1];rfl
 ·have e:(if (k==1)=true then some (k==1) else some (k==8))=some false:=by rw [pT];simp;omega
  rw [e,sb,itF rfl];by_cases h2:k=3\/k=5\/k=9\/k=10\/k=11
  ·have e2:(if (k==3)=true then some (k==3) else if (k==5)=true then some (k==5) else if (k==9)=true then some (k==9) else if (k==10)=true then some (k==10) else some (k==11))=some true:=by
    rcases h2 with rfl| rfl| rfl| rfl| rfl<;>rfl
   have hn:kNum k=true:=xV (by omega);have hw:u64.wrap (w%4294967296)=w%4294967296:=by rw [zdi];omega
   rw [e2,sb,itT rfl,zyg,sb,hn,hw];unfold zbg;rw [xw h1,xx h2];rfl
  ·have e2:(if (k==3)=true then some (k==3) else if (k==5)=true then some (k==5) else if (k==9)=true then some (k==9) else if (k==10)=true then some (k==10) else some (k==11))=some false:=by
    rw [pT,pT,pT,pT];simp;omega
   rw [e2,sb,itF rfl];by_cases h7:k=7
   ·have hn:kNum k=true:=xV (by omega);rw [itT (by simpa using h7),hn];unfold zmE zbg;rw [sb,xw h1,xw h2,xx h7];by_cases h0:0<w
    ·rw [xx h0];by_cases h10:1<w
     ·rw [xx h10];rfl
     ·rw [xw h10,show w=1 by omega];rfl
    ·rw [xw h0,xw (by omega),show w=0 by omega];rfl
   ·rw [itF (by simpa using h7)];by_cases hn:kNum k=true
    ·have hk:=yW hn;have e3:(if (k==2)=true then some (k==2) else if (k==4)=true then some (k==4) else if (k==6)=true then some (k==6) else if (k==12)=true then some (k==12) else if (k==13)=true then some (k==13) else some (k==14))=some true:=by
      have:k=2\/k=4\/k=6\/k=12\/k=13\/k=14:=by omega
      rcases this with rfl| rfl| rfl| rfl| rfl| rfl<;>rfl
     rw [e3,sb,itT rfl,hn];unfold zbg;rw [xw h1,xw h2,xw h7];rfl
    ·have hn:kNum k=false:=by simpa using hn
     have hk:=pH hn;have e3:(if (k==2)=true then some (k==2) else if (k==4)=true then some (k==4) else if (k==6)=true then some (k==6) else if (k==12)=true then some (k==12) else if (k==13)=true then some (k==13) else some (k==14))=some false:=by
      rw [pT,pT,pT,pT,pT];simp;omega
     rw [e3,sb,itF rfl,hn];rfl
end Go.Proofs.YtkgohoggipdokaaGreat
