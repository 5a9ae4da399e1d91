/-
  What the plain functions are. No condition.
-/
import Derived.Test.YtcbkcblkecmjnaaGreatx1P1
import Derived.Test.YtcbkcblkecmjnaaGreatx1S1
import Derived.Test.YtcbkcblkecmjnaaGreatx1K2
namespace Go.Proofs.YtcbkcblkecmjnaaGreat
open Go
set_option linter.unusedVariables false
def zFE:List Str:=[[],[105,110,116,51,50],[105,110,116,54,52],[117,105,110,116,51,50],[117,105,110,116,54,52],[115,105,110,116,51,50],[115,105,110,116,54,52],[98,111,111,108],[101,110,117,109],[102,105,120,101,100,51,50],[115,102,105,120,101,100,51,50],[102,108,111,97,116],[102,105,120,101,100,54,52],[115,102,105,120,101,100,54,52],[100,111,117,98,108,101],[115,116,114,105,110,103],[98,121,116,101,115],[109,101,115,115,97,103,101]]
def zCw (k:Int):Str:=(zFE[k.toNat]?).getD []
def kT:List (Int×zw):=[(1,⟨[105,110,116,51,50],0⟩),(2,⟨[105,110,116,54,52],0⟩),(3,⟨[117,105,110,116,51,50],0⟩),(4,⟨[117,105,110,116,54,52],0⟩),(5,⟨[115,105,110,116,51,50],0⟩),(6,⟨[115,105,110,116,54,52],0⟩),(7,⟨[98,111,111,108],0⟩),(8,⟨[101,110,117,109],0⟩),(9,⟨[102,105,120,101,100,51,50],5⟩),(10,⟨[115,102,105,120,101,100,51,50],5⟩),(11,⟨[102,108,111,97,116],5⟩),(12,⟨[102,105,120,101,100,54,52],1⟩),(13,⟨[115,102,105,120,101,100,54,52],1⟩),(14,⟨[100,111,117,98,108,101],1⟩),(15,⟨[115,116,114,105,110,103],2⟩),(16,⟨[98,121,116,101,115],2⟩),(17,⟨[109,101,115,115,97,103,101],2⟩)]
theorem zxr:zjp=some kT:=rfl
theorem zre {k:Int} (h:zbT k=true):k=1∨k=2∨k=3∨k=4∨k=5∨k=6∨k=7∨k=8∨k=9∨k=10∨k=11∨k=12∨k=13∨k=14∨k=15∨k=16∨k=17:=by
 have:=of_decide_eq_true h
 omega
theorem zFw {k:Int} (h:zbT k=true):mget kT k=some ⟨zCw k,zcu k⟩:=by
 rcases zre h with rfl| rfl| rfl| rfl| rfl| rfl| rfl| rfl| rfl| rfl| rfl| rfl| rfl| rfl| rfl| rfl| rfl<;>rfl
theorem zEg {e:Int×zw} (h:e∈kT):zbT e.1=true∧e.2=⟨zCw e.1,zcu e.1⟩:=by
 have:kT.all (fun e=>zbT e.1&&decide (e.2=⟨zCw e.1,zcu e.1⟩))=true:=by decide
 have h1:=List.all_eq_true.1 this e h
 simp only [Bool.and_eq_true,decide_eq_true_eq] at h1
 exact h1
theorem zEh {k:Int} (h:zbT k=false):mget kT k=none:=by
 cases hg:mget kT k with
 | none=>rfl
 | some x=>
  have mem:∀{m:List (Int×zw)} {x:zw},mget m k=some x→(k,x)∈m:=fun {m x} hg=>by
   induction m with
   | nil=>cases hg
   | cons p m ih=>
    rw [mget] at hg
    split at hg
    ·rename_i e;cases hg;rw [e];exact List.mem_cons_self
    ·exact List.mem_cons_of_mem _ (ih hg)
  have h1:=(zEg (mem hg)).1
  simp only at h1
  rw [h] at h1
  cases h1
theorem zxt (k:Int):zjb k=some (if zbT k then (zcu k,0) else (0,2)):=by
 unfold zjb
 rw [zxr,sb]
 cases h:zbT k with
 | true=>rw [zFw h];rfl
 | false=>rw [zEh h];rfl
theorem zsA (k:Int):zgZ k=some (kNum k):=by
 unfold zgZ
 rw [zxt,sb]
 cases h:zbT k with
 | true=>
  rcases zre h with rfl| rfl| rfl| rfl| rfl| rfl| rfl| rfl| rfl| rfl| rfl| rfl| rfl| rfl| rfl| rfl| rfl<;>rfl
 | false=>
  have h1:=of_decide_eq_false h
  have:kNum k=false:=decide_eq_false (by omega)
  rw [this]
  rfl
theorem zEj:kT.map Prod.fst=[1,2,3,4,5,6,7,8,9,10,11,12,13,14,15,16,17]:=rfl
theorem zEi:zmQ=some [1,2,3,4,5,6,7,8,9,10,11,12,13,14,15,16,17]:=by
 have e:zpb kT=some [1,2,3,4,5,6,7,8,9,10,11,12,13,14,15,16,17]:=by
  unfold zpb
  rw [if_pos ⟨by decide,by decide⟩,zEj,List.mergeSort_of_pairwise (by decide)]
 unfold zmQ
 rw [zxr,sb,e,sb]
theorem zuE (k:Int) {w:Int} (h:0≤w∧w≤18446744073709551615):zhN k w=some (if kNum k then (zfc k w,0) else (0,2)):=by
 have hs:=zwi w
 have hc:=zoQ k h
 unfold zhN
 by_cases h1:k=1∨k=8
 ·have e:(if (k==1)=true then some (k==1) else some (k==8))=some true:=by rcases h1 with rfl| rfl<;>rfl
  have hn:kNum k=true:=decide_eq_true (by omega)
  rw [e,sb,itT rfl,zBq,sb,zBI (by omega),sb,hn]
  unfold zfc
  rw [if_pos h1]
  rfl
 ·have e:(if (k==1)=true then some (k==1) else some (k==8))=some false:=by rw [itF (by simp;omega)];simp;omega
  rw [e,sb,itF rfl]
  by_cases h2:k=3∨k=5∨k=9∨k=10∨k=11
  ·have e2:(if (k==3)=true then some (k==3) else if (k==5)=true then some (k==5) else if (k==9)=true then some (k==9) else if (k==10)=true then some (k==10) else some (k==11))=some true:=by
    rcases h2 with rfl| rfl| rfl| rfl| rfl<;>rfl
   have hn:kNum k=true:=decide_eq_true (by omega)
   have hw:IntKind.u64.wrap (w%4294967296)=w%4294967296:=by rw [wrap_u64];omega
   rw [e2,sb,itT rfl,zxu,sb,hn,hw]
   unfold zfc
   rw [if_neg h1,if_pos h2]
   rfl
  ·have e2:(if (k==3)=true then some (k==3) else if (k==5)=true then some (k==5) else if (k==9)=true then some (k==9) else if (k==10)=true then some (k==10) else some (k==11))=some false:=by
    rw [itF (by simp;omega),itF (by simp;omega),itF (by simp;omega),itF (by simp;omega)];simp;omega
   rw [e2,sb,itF rfl]
   by_cases h7:k=7
   ·have hn:kNum k=true:=decide_eq_true (by omega)
    rw [itT (by simpa using h7),hn]
    unfold zlH zfc
    rw [sb,if_neg h1,if_neg h2,if_pos h7]
    by_cases h0:0<w
    ·rw [if_pos h0]
     by_cases h10:1<w
     ·rw [if_pos h10];rfl
     ·rw [if_neg h10,show w=1 by omega];rfl
    ·rw [if_neg h0,if_neg (by omega),show w=0 by omega];rfl
   ·rw [itF (by simpa using h7)]
    by_cases hn:kNum k=true
    ·have hk:=of_decide_eq_true hn
     have e3:(if (k==2)=true then some (k==2) else if (k==4)=true then some (k==4) else if (k==6)=true then some (k==6) else if (k==12)=true then some (k==12) else if (k==13)=true then some (k==13) else some (k==14))=some true:=by
      have:k=2∨k=4∨k=6∨k=12∨k=13∨k=14:=by omega
      rcases this with rfl| rfl| rfl| rfl| rfl| rfl<;>rfl
     rw [e3,sb,itT rfl,hn]
     unfold zfc
     rw [if_neg h1,if_neg h2,if_neg h7]
     rfl
    ·have hn:kNum k=false:=by simpa using hn
     have hk:=of_decide_eq_false hn
     have e3:(if (k==2)=true then some (k==2) else if (k==4)=true then some (k==4) else if (k==6)=true then some (k==6) else if (k==12)=true then some (k==12) else if (k==13)=true then some (k==13) else some (k==14))=some false:=by
      rw [itF (by simp;omega),itF (by simp;omega),itF (by simp;omega),itF (by simp;omega),itF (by simp;omega)];simp;omega
     rw [e3,sb,itF rfl,hn]
     rfl
end Go.Proofs.YtcbkcblkecmjnaaGreat
namespace Go.Proofs.YtcbkcblkecmjnaaGreat
open Go
set_option linter.unusedVariables false
def lt7 (c:UInt8):Bool:=decide (97≤c.toNat∧c.toNat≤122∨65≤c.toNat∧c.toNat≤90∨c.toNat=95)
def dg7 (c:UInt8):Bool:=decide (48≤c.toNat∧c.toNat≤57)
theorem zsx (c:UInt8):zfq (c.toNat:Int)=some (dg7 c):=by
 unfold zfq dg7
 congr 1
 rw [Bool.eq_iff_iff]
 simp
 omega
theorem zxg (c:UInt8):zfL (c.toNat:Int)=some (lt7 c):=by
 unfold zfL lt7
 congr 1
 by_cases h1:(c.toNat:Int)≥97<;>by_cases h2:(c.toNat:Int)≥65<;>simp only [h1,h2,decide_true,decide_false,if_true,if_false,Bool.false_eq_true]<;>rw [Bool.eq_iff_iff]<;>simp<;>omega
theorem zxh (s:List UInt8) (hs:s.length≤1152921504606846976):∀(l:List UInt8) (i:Nat),s.drop i=l→zej s i=some (if (l.all fun c=>lt7 c|| dg7 c)=true then .inl () else .inr ()):=by
 intro l
 induction l with
 | nil=>
  intro i hd
  have:=zgw hd
  refine zix ?_
  unfold zbB
  rw [itF (by simp;omega)]
  rfl
 | cons c l ih=>
  intro i hd
  obtain ⟨hi,hc,hd'⟩:=zfB hd
  have hb:zbB s i=if (lt7 c|| dg7 c)=true then some (.inl ((i+1:Nat):Int)) else some (.inr (.inr ())):=by
   unfold zbB
   rw [itT (by simp;omega),zZ rfl hi,sb,hc,zxg,sb,sb,zsx,zz (by omega)]
   cases lt7 c<;>cases dg7 c<;>rfl
  rw [List.all_cons]
  cases hk:(lt7 c|| dg7 c) with
  | false=>
   rw [hk] at hb
   rw [zix hb]
   rfl
  | true=>
   rw [hk] at hb
   rw [znc hb,ih _ hd',Bool.true_and]
theorem zAg:∀(l:List UInt8) (i:Nat),0<i→nmA i l=l.all fun c=>lt7 c|| dg7 c
 | [],_,_=>rfl
 | c::l,i,h=>by
  rw [nmA,zAg l (i+1) (by omega),List.all_cons]
  congr 1
  unfold nmc lt7 dg7
  rw [Bool.eq_iff_iff]
  simp
  omega
theorem zuC {s:List UInt8} (hs:s.length≤1152921504606846976):zfT s=some (zeE s):=by
 unfold zfT zeE
 have hl:=zxh s hs s 0 rfl
 have hl':zej s 0=_:=hl
 cases s with
 | nil=>rfl
 | cons c l=>
  rw [itF (by simp)]
  by_cases h60:((c::l).length:Int)>60
  ·rw [itT (by simpa using h60),sb,itT rfl]
   have:decide (1≤(c::l).length∧(c::l).length≤60)=false:=by simp only [decide_eq_false_iff_not];omega
   rw [this,Bool.and_false]
  ·have hd:decide (1≤(c::l).length∧(c::l).length≤60)=true:=by simp only [decide_eq_true_eq];refine ⟨by simp,by omega⟩
   have hc:idx (c::l) 0=some c:=by simp [idx]
   rw [itF (by simpa using h60),hc,sb,zsx,sb,sb,hd,Bool.and_true,hl',sb]
   have e:nmA 0 (c::l)=(lt7 c&&l.all fun c=>lt7 c|| dg7 c):=by
    rw [nmA,zAg l 1 (by omega)]
    congr 1
    unfold nmc lt7
    rw [Bool.eq_iff_iff]
    simp
    omega
   have hx:lt7 c=true→dg7 c=false:=by
    unfold lt7 dg7
    simp only [decide_eq_true_eq,decide_eq_false_iff_not]
    omega
   rw [e,List.all_cons]
   cases h1:lt7 c<;>cases h2:dg7 c<;>first| (rw [hx h1] at h2;cases h2;done)| skip
   ·rfl
   ·rfl
   ·cases l.all fun c=>lt7 c|| dg7 c<;>rfl
theorem zCn {l:List Int} (hl:l.length≤1152921504606846976) (v:Int):zcM l v=some (zkD (fun x=>v==x) l):=by
 unfold zcM
 have h:=zqb (fun x=>v==x) l (fun i=>zbC l v i) (zfr (by unfold zag;rw [itF (by simp)])) (fun i hi=>by
  by_cases hp:(v==l[i])=true
  ·rw [if_pos hp];exact zfr (by unfold zag;rw [itT (by simp;omega),zZ rfl hi,sb,itT hp])
  ·rw [if_neg hp];exact zhU (by unfold zag;rw [itT (by simp;omega),zZ rfl hi,sb,itF (by simpa using hp),zz (by omega)];rfl)) l.length 0 (by omega) (fun j _ h=>by omega)
 have h':zbC l v 0=_:=h
 rw [h',sb]
 unfold zkD
 cases l.findIdx? (fun x=>v==x)<;>rfl
theorem ztO {α:Type} (p:α→Bool) (l:List α):decide (zkD p l≥0)=l.any p:=by
 cases h:l.findIdx? p with
 | none=>
  rw [zqT h]
  rw [List.findIdx?_eq_none_iff] at h
  symm
  rw [List.any_eq_false.2 fun x hx=>by simpa using h x hx]
  rfl
 | some i=>
  rw [zqU h]
  rw [List.findIdx?_eq_some_iff_getElem] at h
  obtain ⟨hi,hp,_⟩:=h
  symm
  rw [List.any_eq_true.2 ⟨l[i],List.getElem_mem hi,hp⟩]
  simp
theorem zwO {l:List Int} (hl:l.length≤1152921504606846976) (v:Int):zbZ l v=some (l.any fun x=>v==x):=by
 unfold zbZ
 rw [zCn hl,sb,ztO]
def K17:List Int:=[1,2,3,4,5,6,7,8,9,10,11,12,13,14,15,16,17]
theorem zAO (k:Int):(K17.any fun x=>k==x)=zbT k:=by
 unfold zbT K17
 rw [Bool.eq_iff_iff]
 simp
 omega
def hasN (m:List (zp×Bool)) (i:Int) (n:Str):Bool:=(mget m (⟨i,n⟩:zp)).getD false
def hasU (m:List (zq×Bool)) (i:Int) (n:Int):Bool:=(mget m (⟨i,n⟩:zq)).getD false
theorem zkX (m:List (zp×Bool)) (i j:Int) (n k:Str):hasN (mput m ⟨i,n⟩ true) j k=(decide (j=i∧k=n)|| hasN m j k):=by
 unfold hasN
 rw [zhO]
 by_cases h:j=i∧k=n
 ·obtain ⟨rfl,rfl⟩:=h;simp
 ·rw [if_neg (fun e=>h (by injection e with e1 e2;exact ⟨e1,e2⟩))];simp [h]
theorem zxd (m:List (zq×Bool)) (i j:Int) (n k:Int):hasU (mput m ⟨i,n⟩ true) j k=(decide (j=i∧k=n)|| hasU m j k):=by
 unfold hasU
 rw [zhO]
 by_cases h:j=i∧k=n
 ·obtain ⟨rfl,rfl⟩:=h;simp
 ·rw [if_neg (fun e=>h (by injection e with e1 e2;exact ⟨e1,e2⟩))];simp [h]
theorem zxi (n:Int):zfM n=some (decide ¬(n<1∨n>536870911∨(19000≤n∧n<20000))):=by
 unfold zfM
 congr 1
 rw [Bool.eq_iff_iff]
 simp
 omega
theorem zyS (f:Fld):zgp f=some (f.Repeated&&kNum f.Kind):=by
 unfold zgp
 rw [zsA]
 cases f.Repeated<;>rfl
theorem zCH (n:Int) (K:List Int) (nm:List (zp×Bool)) (nu:List (zq×Bool)) (f:Fld):zev ⟨n,K,nm,nu⟩ f=some (decide ¬(f.Kind=17∧(f.Of<0∨f.Of≥n)∨f.Kind≠17∧f.Of≠0)):=by
 unfold zev
 by_cases h:f.Kind=17
 ·rw [itT (by simpa using h)]
  congr 1
  rw [Bool.eq_iff_iff]
  simp [h]
 ·rw [itF (by simpa using h)]
  congr 1
  rw [Bool.eq_iff_iff]
  simp [h]
theorem zCd {n i:Int} {nm:List (zp×Bool)} {nu:List (zq×Bool)} {prev:List Fld} {f:Fld} (hf:f.Name.length≤1152921504606846976) (hN:hasN nm i f.Name=prev.any fun g=>g.Name==f.Name) (hU:hasU nu i f.Number=prev.any fun g=>g.Number==f.Number):
  zeu ⟨n,K17,nm,nu⟩ i f=some (zct n prev f,if zct n prev f=0 then (mput nm ⟨i,f.Name⟩ true,mput nu ⟨i,f.Number⟩ true) else (nm,nu)):=by
 unfold zeu
 rw [zuC hf,sb]
 have e1:(mget nm (⟨i,f.Name⟩:zp)).getD false=hasN nm i f.Name:=rfl
 have e2:(mget nu (⟨i,f.Number⟩:zq)).getD false=hasU nu i f.Number:=rfl
 simp only [e1,e2,hN,hU]
 have hz:∀(k:Int) (x y:List (zp×Bool)×List (zq×Bool)),k≠0→(if k=0 then x else y)=y:=fun k x y h=>if_neg h
 by_cases h1:zeE f.Name=false
 ·have hF:zct n prev f=5:=by unfold zct;rw [if_pos h1]
  rw [hF,hz 5 _ _ (by decide),itT (by rw [h1];rfl)]
 rw [itF (show (!zeE f.Name)=false by simpa using h1)]
 by_cases h2:(prev.any fun g=>g.Name==f.Name)=true
 ·have hF:zct n prev f=6:=by unfold zct;rw [if_neg h1,if_pos h2]
  rw [hF,hz 6 _ _ (by decide),itT h2]
 have h2':(prev.any fun g=>g.Name==f.Name)=false:=eq_false_of_ne_true h2
 rw [itF h2',zxi,sb]
 by_cases h3:f.Number<1∨f.Number>536870911∨(19000≤f.Number∧f.Number<20000)
 ·have hF:zct n prev f=7:=by unfold zct;rw [if_neg h1,if_neg h2,if_pos h3]
  rw [hF,hz 7 _ _ (by decide),itT (by rw [decide_eq_false (fun h=>h h3)];rfl)]
 rw [itF (by rw [decide_eq_true h3];rfl)]
 by_cases h4:(prev.any fun g=>g.Number==f.Number)=true
 ·have hF:zct n prev f=8:=by unfold zct;rw [if_neg h1,if_neg h2,if_neg h3,if_pos h4]
  rw [hF,hz 8 _ _ (by decide),itT h4]
 have h4':(prev.any fun g=>g.Number==f.Number)=false:=eq_false_of_ne_true h4
 rw [itF h4',zwO (by decide),sb,zAO]
 by_cases h5:zbT f.Kind=false
 ·have hF:zct n prev f=9:=by unfold zct;rw [if_neg h1,if_neg h2,if_neg h3,if_neg h4,if_pos h5]
  rw [hF,hz 9 _ _ (by decide),itT (by rw [h5];rfl)]
 rw [itF (show (!zbT f.Kind)=false by simpa using h5),zyS]
 have hg:(if f.Packed=true then (some (f.Repeated&&kNum f.Kind)>>=fun rv4=>some (!rv4)) else some false)=some (decide (f.Packed=true∧¬(f.Repeated=true∧kNum f.Kind=true))):=by
  cases f.Packed<;>cases f.Repeated<;>cases kNum f.Kind<;>rfl
 rw [hg,sb]
 by_cases h6:f.Packed=true∧¬(f.Repeated=true∧kNum f.Kind=true)
 ·have hF:zct n prev f=10:=by unfold zct;rw [if_neg h1,if_neg h2,if_neg h3,if_neg h4,if_neg h5,if_pos h6]
  rw [hF,hz 10 _ _ (by decide),itT (decide_eq_true h6)]
 rw [itF (decide_eq_false h6),zCH,sb]
 by_cases h7:f.Kind=17∧(f.Of<0∨f.Of≥n)∨f.Kind≠17∧f.Of≠0
 ·have hF:zct n prev f=11:=by unfold zct;rw [if_neg h1,if_neg h2,if_neg h3,if_neg h4,if_neg h5,if_neg h6,if_pos h7]
  rw [hF,hz 11 _ _ (by decide),itT (by rw [decide_eq_false (fun h=>h h7)];rfl)]
 have hF:zct n prev f=0:=by unfold zct;rw [if_neg h1,if_neg h2,if_neg h3,if_neg h4,if_neg h5,if_neg h6,if_neg h7]
 rw [hF,if_pos rfl,itF (by rw [decide_eq_true h7];rfl)]
theorem zyT {n:Int} {nm:List (zp×Bool)} {nu:List (zq×Bool)} {prev:List Mes} {m:Mes} (hm:m.Name.length≤1152921504606846976) (hN:hasN nm (-1) m.Name=prev.any fun g=>g.Name==m.Name):
  zdI ⟨n,K17,nm,nu⟩ m=some (if zeE m.Name=false then (2,nm,nu) else if (prev.any fun g=>g.Name==m.Name)=true then (3,nm,nu) else if 200<m.Fields.length then (4,nm,nu) else (0,mput nm ⟨-1,m.Name⟩ true,nu)):=by
 unfold zdI
 rw [zuC hm,sb]
 have e1:(mget nm (⟨(-1),m.Name⟩:zp)).getD false=hasN nm (-1) m.Name:=rfl
 simp only [e1,hN]
 by_cases h1:zeE m.Name=false
 ·rw [if_pos h1,itT (show (!zeE m.Name)=true by rw [h1];rfl)]
 rw [if_neg h1,itF (show (!zeE m.Name)=false by simpa using h1)]
 by_cases h2:(prev.any fun g=>g.Name==m.Name)=true
 ·rw [if_pos h2,itT h2]
 have h2':(prev.any fun g=>g.Name==m.Name)=false:=eq_false_of_ne_true h2
 rw [if_neg h2,itF h2']
 by_cases h3:200<m.Fields.length
 ·rw [if_pos h3,itT (show decide ((m.Fields.length:Int)>200)=true by simp;omega)]
 rw [if_neg h3,itF (show decide ((m.Fields.length:Int)>200)=false by simp;omega)]
structure Met (nm:List (zp×Bool)) (nu:List (zq×Bool)) (i:Nat) (prev:List Mes) (p:List Fld):Prop where
 mes:∀n,hasN nm (-1) n=prev.any fun g=>g.Name==n
 nam:∀n,hasN nm i n=p.any fun g=>g.Name==n
 num:∀n,hasU nu i n=p.any fun g=>g.Number==n
 later:∀(j:Nat) n,i<j→hasN nm j n=false
 laterU:∀(j:Nat) n,i<j→hasU nu j n=false
theorem Met.step {nm:List (zp×Bool)} {nu:List (zq×Bool)} {i:Nat} {prev:List Mes} {p:List Fld} (h:Met nm nu i prev p) (f:Fld):Met (mput nm ⟨i,f.Name⟩ true) (mput nu ⟨i,f.Number⟩ true) i prev (p++[f]):=by
 refine ⟨fun n=>?_,fun n=>?_,fun n=>?_,fun j n hj=>?_,fun j n hj=>?_⟩
 ·rw [zkX,h.mes,decide_eq_false (by omega),Bool.false_or]
 ·rw [zkX,h.nam,List.any_append,Bool.or_comm]
  congr 1
  simp only [List.any_cons,List.any_nil,Bool.or_false]
  rw [Bool.eq_iff_iff];simp;exact eq_comm
 ·rw [zxd,h.num,List.any_append,Bool.or_comm]
  congr 1
  simp only [List.any_cons,List.any_nil,Bool.or_false]
  rw [Bool.eq_iff_iff];simp;exact eq_comm
 ·rw [zkX,h.later j n hj,decide_eq_false (by omega)];rfl
 ·rw [zxd,h.laterU j n hj,decide_eq_false (by omega)];rfl
theorem zBV {s:List Mes} {i:Nat} {prev:List Mes} {m:Mes} (hb:m.Fields.length≤140737488351232) (hn:∀f∈m.Fields,f.Name.length≤140737488351232):
  ∀(l:List Fld) (k:Nat) (nm:List (zp×Bool)) (nu:List (zq×Bool)),m.Fields.drop k=l→k≤m.Fields.length→Met nm nu i prev (m.Fields.take k)→
   (∃j w,msgF s.length (m.Fields.take k) l=some (j,w)∧zdk K17 s i m k nm nu=some (.inr ((j:Int),w)))∨
   (msgF s.length (m.Fields.take k) l=none∧∃nm' nu',zdk K17 s i m k nm nu=some (.inl (nm',nu'))∧Met nm' nu' i prev m.Fields):=by
 intro l
 induction l with
 | nil=>
  intro k nm nu hd hk hM
  have:=zgw hd
  have hkl:k=m.Fields.length:=by omega
  subst hkl
  refine .inr ⟨rfl,nm,nu,ziN ?_,by simpa using hM⟩
  unfold zbA
  rw [itF (by simp)]
 | cons f l ih=>
  intro k nm nu hd hk hM
  obtain ⟨hi,hc,hd'⟩:=zfB hd
  have hf:=hn f (by rw [←hc];exact List.getElem_mem hi)
  have hfld:=zCd (n:=(s.length:Int)) (i:=(i:Int)) (nm:=nm) (nu:=nu) (prev:=m.Fields.take k) (f:=f) (by omega) (hM.nam _) (hM.num _)
  have htk:m.Fields.take (k+1)=m.Fields.take k++[f]:=by rw [List.take_succ_eq_append_getElem hi,hc]
  have hlen:(m.Fields.take k).length=k:=by simp;omega
  obtain ⟨bd,_⟩:=zsk (s.length:Int) (m.Fields.take k) f
  rw [msgF]
  by_cases h0:zct s.length (m.Fields.take k) f=0
  ·rw [if_neg (by omega)]
   rw [h0,if_pos rfl] at hfld
   have hstep:zbA K17 s i m k nm nu=some (.inl (((k+1:Nat):Int),mput nm ⟨i,f.Name⟩ true,mput nu ⟨i,f.Number⟩ true)):=by
    unfold zbA
    rw [itT (by simp;omega),zZ rfl hi,sb,hc,hfld,sb]
    dsimp only
    rw [itF (show ((0:Int) !=0)=false from rfl),zz (by omega)]
    rfl
   rw [znX hstep,←htk]
   exact ih (k+1) _ _ hd' (by omega) (by rw [htk];exact hM.step f)
  ·rw [if_pos (by omega)]
   rw [if_neg h0] at hfld
   refine .inl ⟨k,_,by rw [hlen],ziN ?_⟩
   unfold zbA
   rw [itT (by simp;omega),zZ rfl hi,sb,hc,hfld,sb]
   dsimp only
   rw [itT (show (zct (s.length:Int) (m.Fields.take k) f !=0)=true by simpa using h0)]
theorem zBU {s:List Mes} (hw:WS s):∀(l:List Mes) (i:Nat) (nm:List (zp×Bool)) (nu:List (zq×Bool)),s.drop i=l→i≤s.length→Met nm nu i (s.take i) []→
  zeH K17 s i nm nu=some (match chkF s.length (s.take i) l with| some (j,k,w)=> .inr ((j:Int),k,w)| none=> .inl ()):=by
 intro l
 induction l with
 | nil=>
  intro i nm nu hd hi hM
  have:=zgw hd
  refine zdY ?_
  unfold zaV
  rw [itF (by simp;omega)]
  rfl
 | cons m l ih=>
  intro i nm nu hd hi hM
  obtain ⟨hil,hc,hd'⟩:=zfB hd
  obtain ⟨w1,w2⟩:=hw
  obtain ⟨m1,m2,m3⟩:=w2 m (by rw [←hc];exact List.getElem_mem hil)
  have hmes:=zyT (n:=(s.length:Int)) (nm:=nm) (nu:=nu) (prev:=s.take i) (m:=m) (by omega) (hM.mes _)
  have htk:s.take (i+1)=s.take i++[m]:=by rw [List.take_succ_eq_append_getElem hil,hc]
  have hlen:(s.take i).length=i:=by simp;omega
  rw [chkF]
  by_cases h1:zeE m.Name=false
  ·rw [if_pos h1] at hmes⊢
   refine zdY ?_
   unfold zaV
   rw [itT (by simp;omega),zZ rfl hil,sb,hc,hmes,sb]
   dsimp only
   rw [itT (show ((2:Int) !=0)=true from rfl),hlen]
  rw [if_neg h1] at hmes⊢
  by_cases h2:((s.take i).any fun g=>g.Name==m.Name)=true
  ·rw [if_pos h2] at hmes⊢
   refine zdY ?_
   unfold zaV
   rw [itT (by simp;omega),zZ rfl hil,sb,hc,hmes,sb]
   dsimp only
   rw [itT (show ((3:Int) !=0)=true from rfl),hlen]
  rw [if_neg h2] at hmes⊢
  by_cases h3:200<m.Fields.length
  ·rw [if_pos h3] at hmes⊢
   refine zdY ?_
   unfold zaV
   rw [itT (by simp;omega),zZ rfl hil,sb,hc,hmes,sb]
   dsimp only
   rw [itT (show ((4:Int) !=0)=true from rfl),hlen]
  rw [if_neg h3] at hmes⊢
  have hM0:Met (mput nm ⟨-1,m.Name⟩ true) nu i (s.take i++[m]) (m.Fields.take 0):=by
   refine ⟨fun n=>?_,fun n=>?_,fun n=>?_,fun j n hj=>?_,fun j n hj=>hM.laterU j n hj⟩
   ·rw [zkX,hM.mes,List.any_append,Bool.or_comm]
    congr 1
    simp only [List.any_cons,List.any_nil,Bool.or_false]
    rw [Bool.eq_iff_iff];simp;exact eq_comm
   ·rw [zkX,hM.nam,decide_eq_false (by omega)];rfl
   ·rw [hM.num];rfl
   ·rw [zkX,hM.later j n hj,decide_eq_false (by omega)];rfl
  have hl2:=zBV (s:=s) (i:=i) m2 m3 m.Fields 0 _ nu rfl (by omega) hM0
  simp only [List.take_zero] at hl2
  rcases hl2 with ⟨j,w,g1,g2⟩| ⟨g1,nm',nu',g2,g3⟩
  ·rw [g1]
   refine zdY ?_
   unfold zaV
   have g2':zdk K17 s i m 0 (mput nm ⟨-1,m.Name⟩ true) nu=_:=g2
   rw [itT (by simp;omega),zZ rfl hil,sb,hc,hmes,sb]
   dsimp only
   rw [itF (show ((0:Int) !=0)=false from rfl),g2',sb]
   simp only [hlen]
  ·rw [g1]
   have hstep:zaV K17 s i nm nu=some (.inl (((i+1:Nat):Int),nm',nu')):=by
    unfold zaV
    have g2':zdk K17 s i m 0 (mput nm ⟨-1,m.Name⟩ true) nu=_:=g2
    rw [itT (by simp;omega),zZ rfl hil,sb,hc,hmes,sb]
    dsimp only
    rw [itF (show ((0:Int) !=0)=false from rfl),g2',sb]
    dsimp only
    rw [zz (by omega)]
    rfl
   rw [znW hstep]
   simp only []
   rw [←htk]
   refine ih (i+1) nm' nu' hd' (by omega) ⟨fun n=>?_,fun n=>?_,fun n=>?_,fun j n hj=>g3.later j n (by omega),fun j n hj=>g3.laterU j n (by omega)⟩
   ·rw [htk];exact g3.mes n
   ·rw [g3.later (i+1) n (by omega)];rfl
   ·rw [g3.laterU (i+1) n (by omega)];rfl
theorem zBT {s:List Mes} (hw:WS s):zhs s=some (⟨(zhH s).1,(zhH s).2.1,(zhH s).2.2⟩,if (zhH s).2.2=0 then 0 else 9):=by
 unfold zhs zhH
 by_cases h:s.length=0∨100<s.length
 ·rw [itT (by simp;omega),if_pos h]
  rfl
 ·rw [itF (by simp;omega),if_neg h,zEi,sb]
  have hl:=zBU hw s 0 [] [] rfl (by omega) ⟨fun n=>rfl,fun n=>rfl,fun n=>rfl,fun j n _=>rfl,fun j n _=>rfl⟩
  simp only [List.take_zero] at hl
  have hl':zeH [1,2,3,4,5,6,7,8,9,10,11,12,13,14,15,16,17] s 0 [] []=_:=hl
  rw [hl',sb]
  cases hc:chkF s.length [] s with
  | none=>rfl
  | some q=>
   obtain ⟨i,k,w⟩:=q
   have:=zzD _ _ _ _ _ _ hc
   simp only
   rw [if_neg (by omega)]
theorem zDd {s:List Mes} (hw:WS s):zht s=some (zkK s):=by
 unfold zht zkK
 rw [zBT hw,sb]
 by_cases h:(zhH s).2.2=0<;>simp [h]
end Go.Proofs.YtcbkcblkecmjnaaGreat
namespace Go.Proofs.YtcbkcblkecmjnaaGreat
open Go
set_option linter.unusedVariables false
theorem zri {k:Int} {b:List UInt8} (h:(zbs k b).2=0):kNum k=true∧(pcs k b).2=0∧(zbs k b).1=(pcs k b).1.map (zhx k):=by
 unfold zbs at h⊢
 cases hn:kNum k with
 | false=>rw [hn,if_pos rfl] at h;simp at h
 | true=>
  rw [hn,if_neg (by simp)] at h
  rw [if_neg (by simp)]
  by_cases h0:(pcs k b).2=0
  ·rw [if_pos h0];exact ⟨rfl,h0,rfl⟩
  ·rw [if_neg h0] at h;exact absurd h h0
theorem ztG {k:Int} {b:List UInt8} (h:(zbs k b).2≠0):(zbs k b).1=[]∧((zbs k b).2=2∨(zbs k b).2=3∨(zbs k b).2=4):=by
 unfold zbs at h⊢
 by_cases hn:kNum k=false
 ·rw [if_pos hn];simp
 ·rw [if_neg hn] at h⊢
  by_cases h0:(pcs k b).2=0
  ·rw [if_pos h0] at h;exact absurd rfl h
  ·rw [if_neg h0]
   rcases zxz k b with h1| h1| h1
   ·exact absurd h1 h0
   ·rw [h1];simp
   ·rw [h1];simp
end Go.Proofs.YtcbkcblkecmjnaaGreat
namespace Go.Proofs.YtcbkcblkecmjnaaGreat
open Go
set_option linter.unusedVariables false
theorem zCq {α:Type} (x y:α):(if (true:Bool)=false then x else y)=y:=rfl
def wid (k:Int):Nat:=if 12≤k then 8 else if 9≤k then 4 else 0
theorem zuW (k:Int):zgA k=some (if kNum k then ((wid k:Int),0) else (0,2)):=by
 cases hn:kNum k with
 | true=>
  have h:=zjo.1 hn
  have hk:k=1∨k=2∨k=3∨k=4∨k=5∨k=6∨k=7∨k=8∨k=9∨k=10∨k=11∨k=12∨k=13∨k=14:=by omega
  rcases hk with rfl| rfl| rfl| rfl| rfl| rfl| rfl| rfl| rfl| rfl| rfl| rfl| rfl| rfl<;>rfl
 | false=>
  have h:=of_decide_eq_false hn
  unfold zgA
  have hne:∀c:Int,1≤c→c≤14→(k==c)=false:=fun c h1 h2=>by simp;omega
  simp only [hne 1 (by omega) (by omega),hne 2 (by omega) (by omega),hne 3 (by omega) (by omega),hne 4 (by omega) (by omega),hne 5 (by omega) (by omega),hne 6 (by omega) (by omega),hne 7 (by omega) (by omega),hne 8 (by omega) (by omega),hne 9 (by omega) (by omega),hne 10 (by omega) (by omega),hne 11 (by omega) (by omega),hne 12 (by omega) (by omega),hne 13 (by omega) (by omega),hne 14 (by omega) (by omega)]
  rfl
theorem zAN {k:Int} (hk:kNum k=true):(zcu k=0↔wid k=0)∧(wid k≠0→∀b:List UInt8,zfp (zcu k) b=decide (wid k=b.length))∧(wid k=0∨wid k=4∨wid k=8):=by
 have:=zjo.1 hk
 unfold zcu wid zfp
 by_cases h1:12≤k
 ·rw [if_neg (by omega),if_pos h1,if_pos h1]
  refine ⟨by simp,fun _ b=>?_,by simp⟩
  rw [if_neg (by omega)]
  simp only [show ((1:Int)=2)=False from by simp,show ((1:Int)=5)=False from by simp,false_or,false_and,or_false,true_and]
  simp [eq_comm]
 ·rw [if_neg (by omega),if_neg h1,if_neg h1]
  by_cases h2:9≤k
  ·rw [if_pos h2,if_pos h2]
   refine ⟨by simp,fun _ b=>?_,by simp⟩
   rw [if_neg (by omega)]
   simp [eq_comm]
  ·rw [if_neg h2,if_neg h2]
   exact ⟨by simp,fun h=>absurd rfl h,by simp⟩
theorem zBu (b:List UInt8):zhr b=some (if zfp 0 b then ((rd b).1,0) else (0,12)):=by
 unfold zhr zfp
 rw [zrR,sb,if_pos rfl]
 by_cases h:(rd b).2.2=0∧(rd b).2.1=(b.length:Int)
 ·rw [itF (by simp [h.1,h.2]),if_pos (by simpa using h)]
 ·rw [itT (by simp;omega),if_neg (by simpa using h)]
theorem zBs (k:Int) (b:List UInt8):zhq k b=some (if kNum k=false then (0,2) else if zfp (zcu k) b=false then (0,12) else (rawW k b,0)):=by
 unfold zhq
 rw [zuW,sb]
 cases hn:kNum k with
 | false=>rw [if_pos rfl];rfl
 | true=>
  obtain ⟨e0,ef,_⟩:=zAN hn
  simp only [if_true]
  rw [itF (by simp),if_neg (show ¬(true=false) by simp)]
  by_cases h0:wid k=0
  ·have hw:=e0.2 h0
   rw [itT (by simp [h0]),zBu,sb,hw]
   unfold rawW
   cases hf:zfp 0 b with
   | true=>simp [hw]
   | false=>simp
  ·rw [itF (by simpa using h0),ef h0]
   by_cases hl:wid k=b.length
   ·rw [itF (by simp;omega),zEV,sb,if_neg (by simpa using hl)]
    unfold rawW
    rw [if_neg (fun h=>h0 (e0.1 h))]
   ·rw [itT (by simp;omega),if_pos (by simpa using hl)]
theorem zDq (k:Int) (b:List UInt8):ziv k b=some (zlY k b):=by
 unfold ziv zlY
 rw [zBs,sb]
 cases hn:kNum k with
 | false=>rfl
 | true=>
  simp only [zCq]
  cases hf:zfp (zcu k) b with
  | false=>rfl
  | true=>
   simp only [zCq]
   rw [itF (by rfl),zuE k (znF k),sb,hn,if_pos rfl]
theorem zDr {k w:Int} (h:0≤w∧w≤18446744073709551615):ziw k w=some (if kNum k then ((sPut k w).length:Int) else 0):=by
 have hc:=zoQ k h
 obtain ⟨c,hcc⟩:∃c:Nat,zfc k w=c:=⟨(zfc k w).toNat,by omega⟩
 unfold ziw
 rw [zuW,sb]
 cases hn:kNum k with
 | false=>rfl
 | true=>
  simp only [if_true]
  unfold sPut zzl
  rw [hcc,Int.toNat_natCast]
  unfold wid
  by_cases h1:12≤k
  ·rw [if_pos h1,if_pos h1,itT (by rfl),zgN]
  ·rw [if_neg h1,if_neg h1]
   by_cases h2:9≤k
   ·rw [if_pos h2,if_pos h2,itT (by rfl),zgN]
   ·rw [if_neg h2,if_neg h2,itF (by rfl),zuE k h,sb,hn]
    simp only [if_true]
    rw [hcc,zFA (by omega),sb,zvz]
end Go.Proofs.YtcbkcblkecmjnaaGreat
namespace Go.Proofs.YtcbkcblkecmjnaaGreat
open Go
theorem zur {α:Type} {l t:List α} {x:α} {k:Nat} (h:l.drop k=x::t):∃hk:k<l.length,l[k]=x∧l.drop (k+1)=t:=by
 have hk:k<l.length:=by
  rcases Nat.lt_or_ge k l.length with h'| h'
  ·exact h'
  ·rw [List.drop_eq_nil_of_le h'] at h;cases h
 rw [List.drop_eq_getElem_cons hk] at h
 injection h with h1 h2
 exact ⟨hk,h1,h2⟩
theorem zvp (l:List (List UInt8)) (hl:l.length≤1099511627776):∀(t:List (List UInt8)) (k s:Nat),l.drop k=t→s+t.flatten.length≤1099511627776→
  zbh l s k=some ((s+t.flatten.length:Nat):Int):=by
 intro t
 induction t with
 | nil=>
  intro k s hd _
  have hk:l.length≤k:=by have:=congrArg List.length hd;simp at this;omega
  refine zhg ?_
  unfold zac
  rw [itF (by simp;omega)]
  simp
 | cons x t ih=>
  intro k s hd hs
  obtain ⟨hk,hx,hd'⟩:=zur hd
  simp only [List.flatten_cons,List.length_append] at hs
  refine (zhf (size':=((s+x.length:Nat):Int)) (v':=((k+1:Nat):Int)) ?_).trans ?_
  ·unfold zac
   rw [itT (by simp;omega),zZ rfl hk,sb,hx,zz (by omega),itF (by simp;omega),zz (by omega)]
   push_cast;rfl
  ·rw [ih _ _ hd' (by omega)]
   simp only [List.flatten_cons,List.length_append]
   congr 2;omega
theorem zvq (l:List (List UInt8)) (hl:l.length≤1099511627776):∀(t:List (List UInt8)) (k:Nat) (acc:List UInt8),l.drop k=t→acc.length+t.flatten.length≤1099511627776→
  zbi l acc k=some (acc++t.flatten):=by
 intro t
 induction t with
 | nil=>
  intro k acc hd _
  have hk:l.length≤k:=by have:=congrArg List.length hd;simp at this;omega
  refine zhi ?_
  unfold zad
  rw [itF (by simp;omega)]
  simp
 | cons x t ih=>
  intro k acc hd hs
  obtain ⟨hk,hx,hd'⟩:=zur hd
  simp only [List.flatten_cons,List.length_append] at hs
  refine (zhh (newslice':=acc++x) (v2':=((k+1:Nat):Int)) ?_).trans ?_
  ·unfold zad
   rw [itT (by simp;omega),zZ rfl hk,sb,hx,zdp (by omega),sb,zz (by omega)]
   push_cast;rfl
  ·rw [ih _ _ hd' (by rw [List.length_append];omega)]
   simp
theorem zEd {n:Nat} (h:n≤1099511627776):zcv (n:Int)=some []:=by
 unfold zcv
 have e:IntKind.i64.wrap ((n:Int) - IntKind.i64.wrap (0 - 0))=n:=by rw [zz (x:=0 - 0) (by omega),zz (by omega)];omega
 rw [itF (by simp),e]
 by_cases h0:(n:Int)>0
 ·rw [itT (by simpa using h0),zql (a:=n) rfl (Int.le_refl _) (by omega),sb]
  have e0:cut (List.replicate n (0:UInt8)) 0 0=some []:=zoU (b:=0) rfl (Nat.zero_le _)
  rw [e0,sb]
 ·rw [itF (by simpa using h0)]
theorem zAF {l:List (List UInt8)} (hl:l.length≤1099511627776) (h:l.flatten.length≤1099511627776):zbY l=some l.flatten:=by
 unfold zbY
 have h1:=zvp l hl l 0 0 rfl (by omega)
 have h1':zbh l 0 0=_:=h1
 have h2:=zvq l hl l 0 [] rfl (by simpa using h)
 have h2':zbi l [] 0=_:=h2
 rw [h1',sb,zEd (by omega),sb,h2',sb]
 simp
end Go.Proofs.YtcbkcblkecmjnaaGreat
namespace Go.Proofs.YtcbkcblkecmjnaaGreat
open Go
set_option linter.unusedVariables false
def wid9 (k:Int):Int:=if kNum k then (if 12≤k then 8 else if 9≤k then 4 else 1) else 0
theorem ztW {k:Int} (hk:kNum k=true):(((sPut k 0).length:Nat):Int)=(if 12≤k then 8 else if 9≤k then 4 else 1):=by
 have hk':=zjo.1 hk
 have hc:(zfc k 0).toNat=0:=by
  have:k=1∨k=2∨k=3∨k=4∨k=5∨k=6∨k=7∨k=8∨k=9∨k=10∨k=11∨k=12∨k=13∨k=14:=by omega
  rcases this with h| h| h| h| h| h| h| h| h| h| h| h| h| h<;>subst h<;>decide
 unfold sPut
 rw [hc]
 unfold zzl
 by_cases h1:12≤k
 ·rw [if_pos h1,if_pos h1,zgN];rfl
 ·rw [if_neg h1,if_neg h1]
  by_cases h2:9≤k
  ·rw [if_pos h2,if_pos h2,zgN];rfl
  ·rw [if_neg h2,if_neg h2,zvz]
   simp [lenN]
theorem zBm (k:Int):zlj k=some (wid9 k):=by
 unfold zlj wid9
 rw [zDr (by omega),sb]
 cases hk:kNum k with
 | false=>rfl
 | true=>simp only [if_true];rw [ztW hk]
theorem zAx {k:Int} (hk:kNum k=true):(k<9→wid9 k=1)∧(¬k<9→k<12→wid9 k=4)∧(¬k<12→wid9 k=8):=by
 unfold wid9
 rw [hk,if_pos rfl]
 refine ⟨fun h=>?_,fun h1 h2=>?_,fun h=>?_⟩
 ·rw [if_neg (show ¬12≤k by omega),if_neg (show ¬9≤k by omega)]
 ·rw [if_neg (show ¬12≤k by omega),if_pos (show 9≤k by omega)]
 ·rw [if_pos (show 12≤k by omega)]
theorem zDK {k:Int} (hk:kNum k=false):wid9 k=0:=by unfold wid9;rw [hk];rfl
theorem zES {k:Int} (hk:kNum k=true):(wid9 k==0)=false:=by
 obtain ⟨h1,h2,h3⟩:=zAx hk
 by_cases h9:k<9
 ·rw [h1 h9];rfl
 ·by_cases h12:k<12
  ·rw [h2 h9 h12];rfl
  ·rw [h3 h12];rfl
theorem zuS {k:Int} (hk:kNum k=true) (b:List UInt8):zli (wid9 k) b=some (match zkk k b with| .inl c=>(0,c)| .inr n=>((n:Int),0)):=by
 obtain ⟨w1,w2,w3⟩:=zAx hk
 unfold zli zkk
 by_cases h9:k<9
 ·rw [w1 h9,itT (by rfl),zAr,sb,if_pos h9]
  rcases zju b with h| ⟨h,_⟩| ⟨x,c,y,e,hx,hc,hl,hv,h⟩
  ·rw [h];rfl
  ·rw [h];rfl
  ·rw [h,if_neg (by simp)];simp
 ·rw [if_neg h9]
  by_cases h12:k<12
  ·rw [w2 h9 h12,itF (by rfl),if_pos h12]
   by_cases hl:b.length<4
   ·rw [itT (by simp;omega),if_pos hl]
   ·rw [itF (by simp;omega),if_neg hl];rfl
  ·rw [w3 h12,itF (by rfl),if_neg h12]
   by_cases hl:b.length<8
   ·rw [itT (by simp;omega),if_pos hl]
   ·rw [itF (by simp;omega),if_neg hl];rfl
def zhC (k:Int) (b:List UInt8):List (List UInt8)×Int:=if kNum k=false then ([],2) else pcs k b
def go9 {σ ρ:Type} (kb:σ→(List UInt8×Int)→Option (σ⊕ρ)):List (List UInt8)→Int→σ→Option (σ⊕ρ)
 | [],c,s=>if c=0 then some (.inl s) else kb s ([],c)
 | p::ps,c,s=>match kb s (p,0) with
  | some (.inl s')=>go9 kb ps c s'
  | some (.inr r)=>some (.inr r)
  | none=>none
theorem zzg {σ ρ χ:Type} {kb:σ→χ→Option (σ⊕ρ)} {s:σ} {x:χ} {o:σ⊕ρ} (h:kb s x=some o):∃c,rnd kb (.inl s) x=some (c,o)∧(c=true∧(∃s',o= .inl s')∨c=false∧∃r,o= .inr r):=by
 cases o with
 | inl s'=>exact ⟨true,by simp only [rnd,h],.inl ⟨rfl,s',rfl⟩⟩
 | inr r=>exact ⟨false,by simp only [rnd,h],.inr ⟨rfl,r,rfl⟩⟩
theorem zGy {σ ρ:Type} (kb:σ→(List UInt8×Int)→Option (σ⊕ρ)) {k:Int} (hk:kNum k=true) (b:List UInt8):∀(s:σ) (o:σ⊕ρ),go9 kb (pcs k b).1 (pcs k b).2 s=some o→
  ∃q,zeF (rnd kb) (wid9 k) b (.inl s)=some q∧(q= .inl o∨q= .inr o):=by
 refine znD k (fun b=>∀(s:σ) (o:σ⊕ρ),go9 kb (pcs k b).1 (pcs k b).2 s=some o→
  ∃q,zeF (rnd kb) (wid9 k) b (.inl s)=some q∧(q= .inl o∨q= .inr o)) ?_ ?_ ?_ b
 ·intro s o h
  rw [zlM] at h
  have h':some (.inl s)=some o:=h
  refine ⟨.inl o,zgH ?_,.inl rfl⟩
  unfold zbz
  rw [itF (by rfl),←Option.some.inj h']
 ·intro l c hl hu hc s o h
  rw [znC hl hu] at h
  have h':kb s ([],c)=some o:=by
   have h2:(if c=0 then some (.inl s) else kb s ([],c))=some o:=h
   rwa [if_neg (by omega)] at h2
  obtain ⟨t,ht,_⟩:=zzg h'
  refine ⟨.inr o,zgH ?_,.inr rfl⟩
  have hp:=List.length_pos_iff.2 hl
  unfold zbz
  rw [itT (by simp;omega),zuS hk,sb,hu]
  simp only
  rw [zfY (i:=0) (j:=0) (a:=0) (b:=0) rfl rfl (Nat.le_refl _) (Nat.zero_le _),sb]
  simp only [List.drop_zero,Nat.sub_self,List.take_zero]
  rw [ht,sb,itT (by simp;omega)]
 ·intro l n hl hu g1 g2 g3 ih s o h
  rw [zjs hl hu] at h
  have hp:=List.length_pos_iff.2 hl
  have hbody:∀{t:Bool} {y:σ⊕ρ},rnd kb (.inl s) (l.take n,0)=some (t,y)→zbz (rnd kb) (wid9 k) l (.inl s)=(if t then some (.inl (l.drop n,y)) else some (.inr (.inr y))):=by
   intro t y ht
   unfold zbz
   rw [itT (by simp;omega),zuS hk,sb,hu]
   simp only
   rw [zfY (i:=0) (j:=(n:Int)) (a:=0) (b:=n) rfl rfl (Nat.zero_le _) g2,sb]
   simp only [List.drop_zero,Nat.sub_zero]
   rw [ht,sb]
   cases t with
   | false=>rw [itT (by rfl)];rfl
   | true=>rw [itF (by rfl),zmC (a:=n) rfl rfl g2,sb];rfl
  simp only [go9] at h
  cases hb:kb s (l.take n,0) with
  | none=>rw [hb] at h;cases h
  | some z=>
   rw [hb] at h
   obtain ⟨t,ht,hcase⟩:=zzg hb
   have hB:=hbody ht
   rcases hcase with ⟨rfl,s',rfl⟩| ⟨rfl,r,rfl⟩
   ·obtain ⟨q,hq,hq'⟩:=ih s' o h
    exact ⟨q,by rw [znV hB];exact hq,hq'⟩
   ·have h':some (.inr r)=some o:=h
    exact ⟨.inr (.inr r),zgH hB,.inr (by rw [Option.some.inj h'])⟩
theorem zAw {σ ρ:Type} (kb:σ→(List UInt8×Int)→Option (σ⊕ρ)) (k:Int) (b:List UInt8) {s:σ} {o:σ⊕ρ} (h:go9 kb (zhC k b).1 (zhC k b).2 s=some o):zee k b (rnd kb) (.inl s)=some o:=by
 unfold zee
 rw [zBm,sb]
 unfold zhC at h
 cases hk:kNum k with
 | false=>
  rw [hk,if_pos rfl] at h
  have h':kb s ([],2)=some o:=h
  obtain ⟨t,ht,_⟩:=zzg h'
  rw [zDK hk,itT (by rfl),ht,sb]
 | true=>
  rw [hk,if_neg (by simp)] at h
  have hw:=zES hk
  obtain ⟨q,hq,hq'⟩:=zGy kb hk b s o h
  rw [itF hw,hq,sb]
  rcases hq' with rfl| rfl<;>rfl
theorem ztB (k:Int) (b:List UInt8):(zhC k b).2=(zbs k b).2∧((zbs k b).2=0→(zhC k b).1=(pcs k b).1)∧(∀p∈(zhC k b).1,zfp (zcu k) p=true∧1≤p.length∧p.length≤10)∧(zhC k b).1.length≤b.length∧((zhC k b).1=[]∨kNum k=true):=by
 unfold zhC zbs
 by_cases hn:kNum k=false
 ·rw [if_pos hn,if_pos hn];exact ⟨rfl,fun h=>by simp at h,(fun p hp=>by cases hp),Nat.zero_le _,.inl rfl⟩
 ·have hk:kNum k=true:=by simpa using hn
  rw [if_neg hn,if_neg hn]
  refine ⟨?_,fun _=>rfl,zxA hk b,zvU k b,.inr hk⟩
  by_cases h0:(pcs k b).2=0
  ·rw [if_pos h0];exact h0
  ·rw [if_neg h0]
theorem zyi {k:Int} (hk:kNum k=true) (c:Int):∀(ps:List (List UInt8)) (acc:List Int),(∀p∈ps,zfp (zcu k) p=true∧1≤p.length∧p.length≤10)→acc.length+ps.length≤1048576→
  go9 (fun (s:List Int) (x:List UInt8×Int)=>zdD k s x.1 x.2) ps c acc=some (if c=0 then .inl (acc++ps.map (zhx k)) else .inr (c,acc++ps.map (zhx k)))
 | [],acc,_,hl=>by
  simp only [go9,List.map_nil,List.append_nil]
  by_cases h0:c=0
  ·rw [if_pos h0,if_pos h0]
  ·rw [if_neg h0,if_neg h0];unfold zdD;rw [itT (by simpa using h0)]
 | p::ps,acc,hf,hl=>by
  simp only [List.length_cons] at hl
  have h1:zdD k acc p 0=some (.inl (acc++[zhx k p])):=by
   unfold zdD
   rw [itF (by rfl),zDq,sb,zkh hk (hf p List.mem_cons_self).1,zdp (by simp;omega),sb]
  simp only [go9,h1]
  rw [zyi hk c ps _ (fun q hq=>hf q (List.mem_cons_of_mem _ hq)) (by simp;omega)]
  simp
theorem zBn (k:Int) {b:List UInt8} (hb:b.length≤1048576):zlh k b=some (zbs k b):=by
 obtain ⟨h1,h2,h3,h4,h5⟩:=ztB k b
 unfold zlh zhT
 rw [sb]
 simp only
 have hgo:go9 (fun (s:List Int) (x:List UInt8×Int)=>zdD k s x.1 x.2) (zhC k b).1 (zhC k b).2 []=some (if (zhC k b).2=0 then .inl ([]++(zhC k b).1.map (zhx k)) else .inr ((zhC k b).2,[]++(zhC k b).1.map (zhx k))):=by
  rcases h5 with h5| h5
  ·rw [h5]
   simp only [go9,List.map_nil,List.append_nil]
   by_cases h0:(zhC k b).2=0
   ·rw [if_pos h0,if_pos h0]
   ·rw [if_neg h0,if_neg h0];unfold zdD;rw [itT (by simpa using h0)]
  ·exact zyi h5 _ _ _ h3 (by simp;omega)
 rw [zAw _ k b hgo,sb,h1]
 by_cases h0:(zbs k b).2=0
 ·rw [if_pos h0,h2 h0]
  simp only [List.nil_append]
  rw [←(zri h0).2.2,←h0]
 ·rw [if_neg h0]
  simp only
  rw [←(ztG h0).1]
theorem zwP (c:Int):∀(ps:List (List UInt8)) (n:Nat),n+ps.length≤1048576→
  go9 (fun (s:Int) (x:List UInt8×Int)=>zeY s x.1 x.2) ps c (n:Int)=some (if c=0 then .inl ((n+ps.length:Nat):Int) else .inr (c,((n+ps.length:Nat):Int)))
 | [],n,hl=>by
  simp only [go9,List.length_nil,Nat.add_zero]
  by_cases h0:c=0
  ·rw [if_pos h0,if_pos h0]
  ·rw [if_neg h0,if_neg h0];unfold zeY;rw [itT (by simpa using h0)]
 | p::ps,n,hl=>by
  simp only [List.length_cons] at hl
  have h1:zeY (n:Int) p 0=some (.inl ((n+1:Nat):Int)):=by
   unfold zeY
   rw [itF (by rfl),zz (by omega)];rfl
  simp only [go9,h1]
  rw [zwP c ps (n+1) (by omega)]
  simp only [List.length_cons]
  rw [Nat.add_right_comm,Nat.add_assoc]
theorem zBd (k:Int) {b:List UInt8} (hb:b.length≤1048576):zlg k b=some (((zbs k b).1.length:Int),(zbs k b).2):=by
 obtain ⟨h1,h2,h3,h4,h5⟩:=ztB k b
 unfold zlg zhT
 rw [sb]
 simp only
 have hgo:=zwP (zhC k b).2 (zhC k b).1 0 (by omega)
 rw [zAw (s:=(0:Int)) _ k b hgo,sb,h1]
 by_cases h0:(zbs k b).2=0
 ·rw [if_pos h0,h2 h0]
  simp only
  rw [(zri h0).2.2,h0]
  simp
 ·rw [if_neg h0]
  simp only
  rw [(ztG h0).1]
  rfl
end Go.Proofs.YtcbkcblkecmjnaaGreat
namespace Go.Proofs.YtcbkcblkecmjnaaGreat
open Go
set_option linter.unusedVariables false
abbrev PVw:=zf
def prV (v:Vw):PVw:=⟨v.R,v.Field,v.Run⟩
theorem ztE (m:Mes) {e:Option (Nat×Int)} (he:∀p c,e=some (p,c)→3≤c∧c≤5):∀(l:List Rec) (p c:Int),(vws m e l).2=some (p,c)→3≤c∧c≤6
 | [],p,c,h=>by
  cases e with
  | none=>cases h
  | some q=>
   simp only [vws,Option.map_some,Option.some.injEq,Prod.mk.injEq] at h
   have:=he q.1 q.2 rfl
   omega
 | r::l,p,c,h=>by
  rw [vws] at h
  rcases zft m r.Number r.Wire with hv| ⟨hv,_⟩| ⟨i,run,hv,_⟩
  ·simp only [hv,Option.some.injEq,Prod.mk.injEq] at h;omega
  ·simp only [hv] at h;exact ztE m he l p c h
  ·simp only [hv] at h;exact ztE m he l p c h
theorem zFO (b:List UInt8):∀p c,(spl 0 b).2=some (p,c)→3≤c∧c≤5:=fun p c h=>by
 have:=(zDo 0 b p c h).1;omega
theorem zqP (m:Mes) (b:List UInt8):(zdz m b).2.2=0∧(vws m (spl 0 b).2 (spl 0 b).1).2=none∧(zdz m b).1=(vws m (spl 0 b).2 (spl 0 b).1).1∧(zdz m b).2.1=0∨(3≤(zdz m b).2.2∧(zdz m b).2.2≤6)∧(zdz m b).1=[]:=by
 unfold zdz vwR
 cases h:(vws m (spl 0 b).2 (spl 0 b).1).2 with
 | none=>exact .inl ⟨rfl,rfl,rfl,rfl⟩
 | some q=>exact .inr ⟨ztE m (zFO b) _ q.1 q.2 h,rfl⟩
theorem ztF {m:Mes} {e:Option (Nat×Int)}:∀{l:List Rec},(vws m e l).2=none→e=none∧(vws m e l).1.map (·.R)=l
 | [],h=>by
  cases e with
  | none=>exact ⟨rfl,rfl⟩
  | some q=>simp [vws] at h
 | r::l,h=>by
  rw [vws] at h⊢
  rcases zft m r.Number r.Wire with hv| ⟨hv,_⟩| ⟨i,run,hv,_⟩
  ·simp only [hv] at h;cases h
  ·simp only [hv] at h⊢
   have:=ztF h
   exact ⟨this.1,by simp [this.2]⟩
  ·simp only [hv] at h⊢
   have:=ztF h
   exact ⟨this.1,by simp [this.2]⟩
theorem zyg {m:Mes} {e:Option (Nat×Int)}:∀{l:List Rec},∀v∈(vws m e l).1,v.R∈l∧vw m v.R.Number v.R.Wire= .inr (v.Field,v.Run)
 | [],v,h=>by cases h
 | r::l,v,h=>by
  rw [vws] at h
  rcases zft m r.Number r.Wire with hv| ⟨hv,_⟩| ⟨i,run,hv,_⟩
  ·simp only [hv] at h;cases h
  all_goals
   simp only [hv] at h
   rcases List.mem_cons.1 h with rfl| h
   ·exact ⟨List.mem_cons_self,hv⟩
   ·have:=zyg v h
    exact ⟨List.mem_cons_of_mem _ this.1,this.2⟩
theorem zEO {m:Mes} {b:List UInt8} {v:Vw} (h:v∈(zdz m b).1):v.R∈(spl 0 b).1∧vw m v.R.Number v.R.Wire= .inr (v.Field,v.Run):=by
 rcases zqP m b with ⟨_,_,e,_⟩| ⟨_,e⟩
 ·rw [e] at h;exact zyg v h
 ·rw [e] at h;cases h
end Go.Proofs.YtcbkcblkecmjnaaGreat
namespace Go.Proofs.YtcbkcblkecmjnaaGreat
open Go
theorem zva (t:zbj):zlm t=some (zgb t.Number t.Wire):=by
 have e:zgP t.Wire=some (decide (t.Wire=0∨t.Wire=1∨t.Wire=2∨t.Wire=5)):=by
  unfold zgP
  by_cases h0:t.Wire=0
  ·simp [h0]
  by_cases h1:t.Wire=1
  ·simp [h1]
  by_cases h2:t.Wire=2
  ·simp [h2]
  by_cases h5:t.Wire=5
  ·simp [h5]
  simp [h0,h1,h2,h5]
 unfold zlm zgb
 rw [e]
 by_cases h1:1≤t.Number
 ·by_cases h2:t.Number≤536870911
  ·rw [itT (by simpa using h1),itT (by simpa using h2),sb,sb];simp [h1,h2]
  ·rw [itT (by simpa using h1),itF (by simpa using h2),sb];simp [h2]
 ·rw [itF (by simpa using h1),sb];simp [h1]
theorem zGf (w:Nat) (h:w<18446744073709551616):andI .u64 (w:Int) 7=((w%8:Nat):Int):=by
 have e:=zwE (k:= .u64) rfl (a:=w) (b:=7) (by simpa [IntKind.bits] using h) (by simp [IntKind.bits])
 have e2:w&&&7=w%8:=Nat.and_two_pow_sub_one_eq_mod w 3
 rw [e2] at e;exact e
theorem zGt (w:Nat):shrI .u64 (w:Int) 3=((w/8:Nat):Int):=ztj (k:= .u64) (a:=w) (b:=3) (by simp [IntKind.bits])
theorem zDB (b:List UInt8):zng b=some ((⟨(tg b).1,(tg b).2.1⟩:zbj),(tg b).2.2.1,(tg b).2.2.2):=by
 obtain ⟨h1,h2,h3,h4,h5,h6,h7⟩:=zgz b
 unfold zng tg
 rw [zrR,sb]
 by_cases h:(rd b).2.2=0
 ·rw [itF (by simpa using h)]
  obtain ⟨w,hw⟩:∃w:Nat,(rd b).1=w:=⟨(rd b).1.toNat,by omega⟩
  rw [hw] at h2⊢
  rw [zGt,zGf w (by omega)]
  have e0:IntKind.i64.wrap ((w%8:Nat):Int)=(w:Int)%8:=by rw [zz (by omega)];omega
  by_cases hg:4294967295<w
  ·have e1:IntKind.i64.wrap (if (536870912:Int)<((w/8:Nat):Int) then 536870912 else ((w/8:Nat):Int))=536870912:=by
    split
    ·rfl
    ·rw [zz (by omega)];omega
   rw [e0,e1,zva,sb]
   have e2:zgb 536870912 ((w:Int)%8)=false:=by simp [zgb]
   simp only [e2]
   rw [itT (by rfl),znh h (.inl (by rw [hw];omega))]
  ·have e1:IntKind.i64.wrap (if (536870912:Int)<((w/8:Nat):Int) then 536870912 else ((w/8:Nat):Int))=(w:Int)/8:=by
    rw [if_neg (by omega),zz (by omega)];omega
   rw [e0,e1,zva,sb]
   simp only
   cases ht:zgb ((w:Int)/8) ((w:Int)%8)
   ·rw [itT (by rfl),znh h (.inr (by rw [hw];exact ht))]
   ·rw [itF (by rfl),zzp h (by rw [hw,ht];simp;omega),hw]
 ·rw [itT (by simpa using h),zwt h]
end Go.Proofs.YtcbkcblkecmjnaaGreat
namespace Go.Proofs.YtcbkcblkecmjnaaGreat
open Go
theorem zEH {w:Int} {b:List UInt8} (hw:w=0∨w=1∨w=2∨w=5) (hb:b.length≤1048576):
  ziu w b=some (match zdS w 0 b with| .inl c=>(0,(if w=0 then (rd b).2.1 else 0),c)| .inr (a,t)=>((a:Int),(t:Int),0)):=by
 obtain ⟨h1,h2,h3,h4,h5,h6,h7⟩:=zgz b
 unfold ziu zdS
 rcases hw with rfl| rfl| rfl| rfl
 ·rw [itT (by rfl),zAr,sb,if_pos rfl]
  by_cases h:(rd b).2.2=0
  ·rw [if_neg (by simpa using h)]
   simp only [h,Nat.zero_add]
   congr 3
   simp;omega
  ·rw [if_pos h];rfl
 ·rw [itF (by rfl),itT (by rfl),sb,itF (by rfl),if_neg (show ¬((1:Int)=0) by omega),if_neg (show ¬((1:Int)=2) by omega)]
  simp only
  have e:IntKind.u64.wrap (IntKind.i64.wrap ((b.length:Int) - 0))=(b.length:Int):=by rw [zz (by omega),wrap_u64];omega
  rw [e]
  by_cases g:b.length<8
  ·rw [itT (by simp;omega),if_pos (by simpa using g)];rfl
  ·rw [itF (by simp;omega),if_neg (by simpa using g)];rfl
 ·rw [itF (by rfl),itF (by rfl),itF (by rfl),itT (by rfl),zrR,sb,sb,if_neg (show ¬((2:Int)=0) by omega),if_pos (show (2:Int)=2 from rfl)]
  by_cases h:(rd b).2.2=0
  ·have hk:=h7 h
   rw [itF (by simpa using h),if_neg (show ¬((rd b).2.2≠0) from fun g=>g h)]
   simp only
   have e:IntKind.u64.wrap (IntKind.i64.wrap ((b.length:Int) - (rd b).2.1))=(b.length:Int) - (rd b).2.1:=by rw [zz (by omega),wrap_u64];omega
   rw [e]
   by_cases g:(b.length:Int) - (rd b).2.1<(rd b).1
   ·rw [itT (by simpa using g),if_pos g];rfl
   ·rw [itF (by simpa using g),if_neg g,zz (x:=(rd b).1) (by omega),zz (by omega)]
    simp;omega
  ·rw [itT (by simpa using h),if_pos h];rfl
 ·rw [itF (by rfl),itF (by rfl),itT (by rfl),sb,itF (by rfl),if_neg (show ¬((5:Int)=0) by omega),if_neg (show ¬((5:Int)=2) by omega)]
  simp only
  have e:IntKind.u64.wrap (IntKind.i64.wrap ((b.length:Int) - 0))=(b.length:Int):=by rw [zz (by omega),wrap_u64];omega
  rw [e]
  by_cases g:b.length<4
  ·rw [itT (by simp;omega),if_pos (by simpa using g)];rfl
  ·rw [itF (by simp;omega),if_neg (by simpa using g)];rfl
theorem zwI (w:Int) (k:Nat) (m:List UInt8):zdS w k m=match zdS w 0 m with| .inl c=> .inl c| .inr (a,t)=> .inr (k+a,k+t):=by
 unfold zdS
 repeat' split
 all_goals first
  | rfl
  | (rename_i h1 h2;injection h2 with h3;injection h3 with h4 h5;subst h4 h5;simp<;>omega)
  | simp_all<;>omega
theorem zAe {b:List UInt8} (hb:b.length≤1048576) (at5:Int):zha b at5=some (zcR b at5):=by
 unfold zha zcR
 by_cases h:at5<0∨at5≥b.length
 ·rw [itT (by simpa using h),if_pos h];rfl
 ·rw [itF (by simpa using h),if_neg h]
  obtain ⟨p,rfl⟩:∃p:Nat,at5=p:=⟨at5.toNat,by omega⟩
  rw [zmC rfl rfl (by omega),sb,zDB,sb,Int.toNat_natCast]
  have hdl:(b.drop p).length=b.length - p:=by simp
  rcases zts (b.drop p) with ⟨c,ht,hc⟩| ⟨n,w,k,ht,hr,k1,k2,k3,hrd⟩
  ·have e:rec5 (b.drop p)= .inl c:=by unfold rec5;rw [ht,if_pos (by simp only;omega)]
   rw [e,ht,itT (by simp;omega)];rfl
  ·obtain ⟨k,rfl⟩:∃j:Nat,k=j:=⟨k.toNat,by omega⟩
   have e:rec5 (b.drop p)=match zdS w k ((b.drop p).drop k) with
    | .inl c=> .inl c
    | .inr p=> .inr (n,w,p.1,p.2):=by unfold rec5;rw [ht];simp<;>rfl
   have hdd:(b.drop p).drop k=b.drop (p+k):=by rw [List.drop_drop]
   have hml:(b.drop (p+k)).length=b.length - (p+k):=by simp
   have ew:IntKind.i64.wrap ((p:Int)+k)=((p+k:Nat):Int):=by rw [zz (by omega)];push_cast;rfl
   rw [e,ht,itF (by simp),hdd]
   simp only [ew]
   rw [zmC rfl rfl (by omega),sb,zEH (zoL.1 hr).2.2 (by omega),sb,zwI w k]
   rcases zie w 0 (b.drop (p+k)) with ⟨c,hc,hc2⟩| ⟨a,t,hc,_,_,hle,_⟩
   ·rw [hc]
    simp only
    rw [itT (by simp;omega)];rfl
   ·rw [hc]
    simp only
    rw [itF (by rfl),zz (by omega),zz (by omega)]
    simp only [Option.some.injEq,Prod.mk.injEq,zo.mk.injEq,true_and,and_true]
    push_cast
    omega
end Go.Proofs.YtcbkcblkecmjnaaGreat
namespace Go.Proofs.YtcbkcblkecmjnaaGreat
open Go
set_option linter.unusedVariables false
abbrev Head:=zK
abbrev Role:=zP
def rol (m:Mes) (h:Head):Role:=match vw m h.number h.wire with
 | .inl c=>⟨0,false,c⟩
 | .inr (i,run)=>⟨i,run,0⟩
theorem zBF {m:Mes} (hm:m.Fields.length≤1152921504606846976) (n:Int):zjH m n=some (fldI m n):=by
 unfold zjH zat
 have h:=zqb (fun f:Fld=>f.Number==n) m.Fields (fun i=>zW m.Fields n i) (zbw (by unfold zD;rw [itF (by simp)])) (fun i hi=>by
  by_cases hp:(m.Fields[i].Number==n)=true
  ·rw [if_pos hp];exact zbw (by unfold zD zhw;rw [itT (by simp;omega),zZ rfl hi,sb,sb,itT hp])
  ·rw [if_neg hp];exact zdn (by unfold zD zhw;rw [itT (by simp;omega),zZ rfl hi,sb,sb,itF (eq_false_of_ne_true hp),zz (by omega)];rfl)) m.Fields.length 0 (by omega) (fun j _ h=>by omega)
 have h':zW m.Fields n 0=_:=h
 rw [h',sb]
 unfold fldI zkD
 cases m.Fields.findIdx? (fun f:Fld=>f.Number==n) with
 | none=>rfl
 | some i=>rfl
theorem zBG (f:Fld) (w:Int):zjI f w=some (decide (f.Repeated=true∧kNum f.Kind=true∧w=2)):=by
 unfold zjI
 cases f.Repeated
 ·simp [sb]
 ·by_cases hw:w=2
  ·subst hw
   rw [itT rfl,itT (c:=(2:Int)==2) rfl,zsA,sb,sb]
   cases kNum f.Kind<;>rfl
  ·rw [itT rfl,itF (by simpa using hw),sb]
   simp [hw]
theorem zDH (k w:Int):zlt k w=some (decide (¬(zbT k=false∨zcu k≠w))):=by
 unfold zlt
 rw [zxt,sb]
 cases zbT k with
 | false=>rfl
 | true=>
  by_cases h:zcu k=w<;>simp [h]
theorem zzv {m:Mes} (hm:m.Fields.length≤1152921504606846976) (h:Head):zhe m h=some (rol m h):=by
 unfold zhe rol
 rw [zBF hm,sb]
 unfold vw
 rcases zjm m h.number with ⟨hf,_⟩| ⟨i,hi,hf,_⟩
 ·rw [hf,itT (by rfl),if_pos (by decide)]
 ·rw [hf,itF (by simp),if_neg (by omega),zZ rfl hi,sb,zdX hi,zBG,sb]
  by_cases h1:(m.Fields[i]).Repeated=true∧kNum (m.Fields[i]).Kind=true∧h.wire=2
  ·rw [if_pos h1,decide_eq_true h1]
   rfl
  ·rw [if_neg h1,decide_eq_false h1,itT (by rfl),zDH,sb,sb]
   by_cases h2:zbT (m.Fields[i]).Kind=false∨zcu (m.Fields[i]).Kind≠h.wire
   ·rw [if_pos h2,itT (by rw [decide_eq_false (fun g=>g h2)];rfl)]
   ·rw [if_neg h2,itF (by rw [decide_eq_true h2];rfl)]
def zlR (m:Mes) (met:List (Head×Role)):Prop:=∀h x,mget met h=some x→x=rol m h
theorem zlR.nil (m:Mes):zlR m []:=fun h x g=>by cases g
theorem zlR.put {m:Mes} {met:List (Head×Role)} (g:zlR m met) (h:Head):zlR m (mput met h (rol m h)):=fun j x hx=>by
 rw [zhO] at hx
 by_cases e:j=h
 ·rw [if_pos e] at hx;rw [e];exact (Option.some.inj hx).symm
 ·rw [if_neg e] at hx;exact g j x hx
theorem zsF {m:Mes} (hm:m.Fields.length≤1152921504606846976) {b:List UInt8} (hb:b.length≤1048576) (p:Int) {met:List (Head×Role)} (g:zlR m met):
  ∃met',zje m b p met=some (prV (zbE m b p).1,(zbE m b p).2,met')∧zlR m met':=by
 unfold zje zbE
 rw [zAe hb,sb]
 by_cases h:(zcR b p).2=0
 ·rw [itF (by simpa using h),if_neg (show ¬((zcR b p).2≠0) from fun q=>q h)]
  generalize (zcR b p).1=r
  have key:∃met',(if (!(mget met (⟨r.Number,r.Wire⟩:Head)).isSome) then (zhe m (⟨r.Number,r.Wire⟩:Head)>>=fun rv2=>some ((mput met (⟨r.Number,r.Wire⟩:Head) rv2),rv2.field,rv2.run,rv2.e))
    else some (met,((mget met (⟨r.Number,r.Wire⟩:Head)).getD (⟨0,false,0⟩:Role)).field,((mget met (⟨r.Number,r.Wire⟩:Head)).getD (⟨0,false,0⟩:Role)).run,((mget met (⟨r.Number,r.Wire⟩:Head)).getD (⟨0,false,0⟩:Role)).e))=some (met',(rol m ⟨r.Number,r.Wire⟩).field,(rol m ⟨r.Number,r.Wire⟩).run,(rol m ⟨r.Number,r.Wire⟩).e)∧zlR m met':=by
   cases hg:mget met (⟨r.Number,r.Wire⟩:Head) with
   | none=>
    rw [itT (by rfl),zzv hm,sb]
    exact ⟨_,rfl,g.put _⟩
   | some x=>
    rw [itF (by rfl)]
    refine ⟨met,?_,g⟩
    rw [←g _ x hg]
    rfl
  obtain ⟨met',hk,hM⟩:=key
  refine ⟨met',?_,hM⟩
  rw [hk,sb]
  unfold rol
  rcases zft m r.Number r.Wire with hv| ⟨hv,_⟩| ⟨i,run,hv,_⟩
  ·simp only [hv];rfl
  ·simp only [hv];rfl
  ·simp only [hv];rfl
 ·rw [itT (by simpa using h),if_pos h]
  exact ⟨met,rfl,g⟩
theorem zDI {m:Mes} (hm:m.Fields.length≤1152921504606846976) {b:List UInt8} (hb:b.length≤1048576) (p:Int):zls m b p=some (prV (zbE m b p).1,(zbE m b p).2):=by
 obtain ⟨met',h,_⟩:=zsF hm hb p (zlR.nil m)
 unfold zls
 rw [h,sb]
theorem zBC {m:Mes} (hm:m.Fields.length≤1152921504606846976) {b:List UInt8} (hb:b.length≤1048576) (base:Nat) (l:List UInt8):∀(out:List Vw) (met:List (Head×Role)),base≤b.length→l=b.drop base→out.length≤base→zlR m met→
  zgt b m (out.map prV) met base=some (match (vws m (spl base l).2 (spl base l).1).2 with| none=> .inl ((out++(vws m (spl base l).2 (spl base l).1).1).map prV)| some (p,c)=> .inr (p,c)):=by
 refine zgB (fun base l=>∀(out:List Vw) (met:List (Head×Role)),base≤b.length→l=b.drop base→out.length≤base→zlR m met→
  zgt b m (out.map prV) met base=some (match (vws m (spl base l).2 (spl base l).1).2 with| none=> .inl ((out++(vws m (spl base l).2 (spl base l).1).1).map prV)| some (p,c)=> .inr (p,c))) ?_ ?_ ?_ base l
 ·intro base out met hbase hl ho hM
  have:b.length≤base:=by have:=congrArg List.length hl;simp at this;omega
  rw [zfH]
  simp only [vws,Option.map_none,List.append_nil]
  refine ziI ?_
  unfold zcN
  rw [itF (by simp;omega)]
 ·intro base l c hl h hc out met hbase hld ho hM
  subst hld
  have hlt:base<b.length:=by have:=List.length_pos_iff.2 hl;simp at this;omega
  rw [zgi hl h]
  simp only [vws,Option.map_some]
  refine ziI ?_
  unfold zcN
  have e:zcR b base=(zrec,c):=by unfold zcR;rw [if_neg (by omega),Int.toNat_natCast,h]
  have e2:zbE m b base=(zvw,c):=by unfold zbE;rw [e,if_pos (by simp only;omega)]
  obtain ⟨met',hk,_⟩:=zsF hm hb base hM
  rw [itT (by simp;omega),hk,sb,e2,itT (by simp;omega)]
 ·intro base l n w a t hl h _ g1 g2 g3 ih out met hbase hld ho hM
  subst hld
  simp only [List.length_drop] at g3
  have hlt:base<b.length:=by omega
  rw [zdZ hl h]
  have e:zcR b base=(⟨n,w,base,(base+a:Nat),(base+t:Nat)⟩,0):=by
   unfold zcR;rw [if_neg (by omega),Int.toNat_natCast,h];push_cast;rfl
  rw [vws]
  obtain ⟨met',hk,hM'⟩:=zsF hm hb base hM
  rcases zft m n w with hv| ⟨hv,_⟩| ⟨i,run,hv,_,hi⟩
  ·have e2:zbE m b base=(zvw,6):=by unfold zbE;rw [e];simp only [ne_eq,not_true_eq_false,if_false,hv]
   simp only [hv]
   refine ziI ?_
   unfold zcN
   rw [itT (by simp;omega),hk,sb,e2,itT (by rfl)]
  ·have e2:zbE m b base=(⟨⟨n,w,base,(base+a:Nat),(base+t:Nat)⟩, -1,false⟩,0):=by unfold zbE;rw [e];simp only [ne_eq,not_true_eq_false,if_false,hv]
   simp only [hv]
   refine (zmd (l':=(out++([⟨⟨n,w,base,(base+a:Nat),(base+t:Nat)⟩, -1,false⟩]:List Vw)).map prV) (met':=met') (fromv':=((base+t:Nat):Int)) ?_).trans ?_
   ·unfold zcN
    rw [itT (by simp;omega),hk,sb,e2,itF (by rfl),zdp (by simp;omega),sb,List.map_append]
    rfl
   ·rw [ih _ met' (by omega) (by rw [List.drop_drop]) (by simp;omega) hM']
    simp only [List.append_assoc,List.singleton_append]
  ·have e2:zbE m b base=(⟨⟨n,w,base,(base+a:Nat),(base+t:Nat)⟩,i,run⟩,0):=by unfold zbE;rw [e];simp only [ne_eq,not_true_eq_false,if_false,hv]
   simp only [hv]
   refine (zmd (l':=(out++([⟨⟨n,w,base,(base+a:Nat),(base+t:Nat)⟩,i,run⟩]:List Vw)).map prV) (met':=met') (fromv':=((base+t:Nat):Int)) ?_).trans ?_
   ·unfold zcN
    rw [itT (by simp;omega),hk,sb,e2,itF (by rfl),zdp (by simp;omega),sb,List.map_append]
    rfl
   ·rw [ih _ met' (by omega) (by rw [List.drop_drop]) (by simp;omega) hM']
    simp only [List.append_assoc,List.singleton_append]
theorem zER {m:Mes} (hm:m.Fields.length≤1152921504606846976) {b:List UInt8} (hb:b.length≤1048576):znm m b=some ((zdz m b).1.map prV,(zdz m b).2.1,(zdz m b).2.2):=by
 unfold znm
 have h:=zBC hm hb 0 b [] [] (Nat.zero_le _) rfl (Nat.le_refl _) (zlR.nil m)
 have h':zgt b m [] [] 0=_:=h
 rw [h',sb]
 unfold zdz vwR
 cases (vws m (spl 0 b).2 (spl 0 b).1).2 with
 | none=>rfl
 | some p=>rfl
theorem zEN (m:Mes) (b:List UInt8):(zdz m b).1.length≤b.length:=by
 rcases zqP m b with ⟨_,hn,e,_⟩| ⟨_,e⟩
 ·have h:=congrArg List.length (ztF hn).2
  rw [List.length_map] at h
  rw [e,h]
  exact zEI 0 b
 ·rw [e];simp
end Go.Proofs.YtcbkcblkecmjnaaGreat
namespace Go.Proofs.YtcbkcblkecmjnaaGreat
open Go
set_option linter.unusedVariables false
def zma (m:Mes) (g:Int→List UInt8→Nat) (b:List UInt8) (r:Rec):Nat:=match vw m r.Number r.Wire with
 | .inl _=>0
 | .inr (i,run)=>if i<0∨run=true then 0 else if (zV m i).Kind=17 then g (zV m i).Of (valB b r)+1 else 0
def zke (m:Mes) (g:Int→List UInt8→Nat) (b:List UInt8):List Rec→Nat
 | []=>0
 | r::l=>max (zma m g b r) (zke m g b l)
def zhI (s:List Mes):Nat→Int→List UInt8→Nat
 | 0,k,b=>zke (zY s k) (fun _ _=>0) b (spl 0 b).1
 | d+1,k,b=>zke (zY s k) (zhI s d) b (spl 0 b).1
theorem zoZ {m:Mes} {g:Int→List UInt8→Nat} {b:List UInt8} {e:Nat}:∀{l:List Rec},zke m g b l≤e↔∀r∈l,zma m g b r≤e
 | []=>by simp [zke]
 | r::l=>by
  have ih:=zoZ (m:=m) (g:=g) (b:=b) (e:=e) (l:=l)
  unfold zke
  rw [List.forall_mem_cons,←ih];omega
theorem znN {m:Mes} {a c:zka} {g:Int→List UInt8→Nat} {b:List UInt8} {r:Rec} {e:Nat} (h:zcQ m a b r=none) (hc0:c=none↔e=0)
  (hc:∀q,a=some q→∀q',c=some q'→∀k v,q k v=none→(q' k v=none↔g k v+1≤e)):zcQ m c b r=none↔zma m g b r≤e:=by
 unfold zcQ at h⊢
 unfold zma
 cases hv:vw m r.Number r.Wire with
 | inl x=>rw [hv] at h;cases h
 | inr p=>
  obtain ⟨i,run⟩:=p
  rw [hv] at h
  simp only at h⊢
  by_cases hi:i<0
  ·rw [if_pos hi,if_pos (.inl hi)];simp
  ·rw [if_neg hi] at h⊢
   unfold zjq at h⊢
   by_cases hr:run=true
   ·rw [if_pos hr] at h
    rw [if_pos hr,if_pos (show i<0∨run=true from .inr hr)]
    exact ⟨fun _=>Nat.zero_le _,fun _=>h⟩
   ·rw [if_neg hr] at h⊢
    rw [if_neg (show ¬(i<0∨run=true) from fun q=>q.elim hi hr)]
    by_cases h15:(zV m i).Kind=15∧zfG (valB b r)=false
    ·rw [if_pos h15] at h;cases h
    ·rw [if_neg h15] at h⊢
     by_cases h17:(zV m i).Kind=17
     ·rw [if_pos h17] at h⊢
      rw [if_pos h17]
      cases a with
      | none=>cases h
      | some q=>
       simp only at h
       cases hq:q (zV m i).Of (valB b r) with
       | some z=>rw [hq] at h;cases h
       | none=>
        cases c with
        | none=>
         have:=hc0.1 rfl
         simp only
         exact ⟨(fun hh=>nomatch hh),(fun hh=>by omega)⟩
        | some q'=>
         have:=hc q rfl q' rfl _ _ hq
         simp only
         rw [←this]
         cases q' (zV m i).Of (valB b r)<;>simp
     ·rw [if_neg h17,if_neg h17];simp
theorem zwT (s:List Mes):∀(d e:Nat) (k:Int) (b:List UInt8),e≤d→zaf s d k b=none→(zaf s e k b=none↔zhI s d k b≤e)
 | 0,e,k,b,he,h=>by
  have:e=0:=by omega
  subst this
  refine ⟨fun _=>zoZ.2 (fun r hr=>?_),fun _=>h⟩
  have h':=(zfP.1 h).1 r hr
  exact (znN (a:=none) (c:=none) h' (by simp) (fun q hq q' hq'=>nomatch hq')).1 h'
 | d+1,0,k,b,he,h=>by
  have h':zbR (zY s k) (some (zaf s d)) b (spl 0 b)=none:=h
  rw [zfP] at h'
  show zbR (zY s k) none b (spl 0 b)=none↔zke _ _ _ _≤0
  rw [zfP,zoZ]
  constructor
  ·intro hh r hr
   exact (znN (a:=some (zaf s d)) (c:=none) (h'.1 r hr) (by simp) (fun q hq q' hq'=>nomatch hq')).1 (hh.1 r hr)
  ·intro hh
   exact ⟨fun r hr=>(znN (a:=some (zaf s d)) (c:=none) (h'.1 r hr) (by simp) (fun q hq q' hq'=>nomatch hq')).2 (hh r hr),h'.2⟩
 | d+1,e+1,k,b,he,h=>by
  have h':zbR (zY s k) (some (zaf s d)) b (spl 0 b)=none:=h
  rw [zfP] at h'
  show zbR (zY s k) (some (zaf s e)) b (spl 0 b)=none↔zke _ _ _ _≤e+1
  rw [zfP,zoZ]
  have key:∀r∈(spl 0 b).1,zcQ (zY s k) (some (zaf s e)) b r=none↔zma (zY s k) (zhI s d) b r≤e+1:=fun r hr=>
   znN (a:=some (zaf s d)) (h'.1 r hr) (by simp) (fun q hq q' hq' k v hk=>by
    cases hq;cases hq'
    have:=zwT s d e k v (by omega) hk
    rw [this];omega)
  exact ⟨fun hh r hr=>(key r hr).1 (hh.1 r hr),fun hh=>⟨fun r hr=>(key r hr).2 (hh r hr),h'.2⟩⟩
abbrev zhE:=zm
def zgc (s:List Mes) (met:List (zhE×PVw)):Prop:=∀h x,mget met h=some x→vw (zY s h.message) h.number h.wire= .inr (x.Field,x.Run)
theorem zgc.nil (s:List Mes):zgc s []:=fun h x g=>by cases g
theorem zgc.put {s:List Mes} {met:List (zhE×PVw)} (g:zgc s met) {h:zhE} {v:PVw} (hv:vw (zY s h.message) h.number h.wire= .inr (v.Field,v.Run)):zgc s (mput met h v):=fun j x hx=>by
 rw [zhO] at hx
 by_cases e:j=h
 ·rw [if_pos e] at hx;cases hx;rw [e];exact hv
 ·rw [if_neg e] at hx;exact g j x hx
theorem zyh {s:List Mes} {k:Nat} (hk:k<s.length) (hm:(zY s k).Fields.length≤1152921504606846976) {b:List UInt8} (hb:b.length≤1048576) (p:Int) {t:Nat} (ht:t≤b.length) {met:List (zhE×PVw)} (g:zgc s met):
  ∃met',zfN ⟨s,b,met⟩ k p t=some (prV (zbE (zY s k) (b.take t) p).1,(zbE (zY s k) (b.take t) p).2,met')∧zgc s met':=by
 have hbt:(b.take t).length≤1048576:=by rw [List.length_take];omega
 have hcut:cut b 0 (t:Int)=some (b.take t):=by
  rw [zfY (i:=0) (j:=t) rfl rfl (Nat.zero_le _) ht];simp
 have hidx:idx s (k:Int)=some (zY s k):=by rw [zZ rfl hk,zfJ hk]
 have hvl:=zDI hm hbt p
 unfold zfN
 simp only
 rw [hcut,sb,zAe hbt,sb]
 unfold zbE at hvl⊢
 by_cases h:(zcR (b.take t) p).2=0
 ·rw [itF (by simpa using h),if_neg (show ¬((zcR (b.take t) p).2≠0) from fun q=>q h)]
  rw [if_neg (show ¬((zcR (b.take t) p).2≠0) from fun q=>q h)] at hvl
  generalize (zcR (b.take t) p).1=r at hvl⊢
  cases hg:mget met (⟨(k:Int),r.Number,r.Wire⟩:zhE) with
  | none=>
   rw [itT (by rfl),hidx,sb,hvl,sb]
   cases hv:vw (zY s k) r.Number r.Wire with
   | inl c=>
    have hc:c=6:=by
     rcases zft (zY s k) r.Number r.Wire with h'| ⟨h',_⟩| ⟨_,_,h',_⟩<;>rw [hv] at h'<;>cases h'
     rfl
    subst hc
    exact ⟨met,by rw [itT (by rfl)];rfl,g⟩
   | inr q=>
    obtain ⟨i,run⟩:=q
    refine ⟨_,?_,g.put (h:=⟨(k:Int),r.Number,r.Wire⟩) (v:=prV ⟨r,i,run⟩) hv⟩
    rw [itF (by rfl)]
    rfl
  | some x=>
   have hv:=g _ _ hg
   simp only at hv
   rw [itF (by rfl),hv]
   exact ⟨met,rfl,g⟩
 ·rw [itT (by simpa using h),if_pos h]
  exact ⟨met,rfl,g⟩
def zmL (f:Fld) (run:Bool) (v:List UInt8):Int:=if run=true then (zin f.Kind v).2 else if f.Kind=15∧zfG v=false then 7 else if f.Kind=17 then 8 else 0
theorem zBE (f:Fld) (run:Bool) {v:List UInt8} (hv:v.length≤1048576):ziC f run v=some (zmL f run v):=by
 unfold ziC zmL
 cases run
 ·rw [itF (c:=false) rfl,if_neg (show ¬(false=true) by simp)]
  have e15:(if (f.Kind==15)=true then (zjd v>>=fun rv2=>some (!rv2)) else some false)=some (decide (f.Kind=15∧zfG v=false)):=by
   rw [zBA (by omega),sb]
   by_cases h15:f.Kind=15
   ·rw [itT (by simpa using h15)];cases zfG v<;>simp [h15]
   ·rw [itF (by simpa using h15)];simp [h15]
  rw [e15,sb]
  by_cases h15:f.Kind=15∧zfG v=false
  ·rw [itT (decide_eq_true h15),if_pos h15]
  ·rw [itF (decide_eq_false h15),if_neg h15]
   by_cases h17:f.Kind=17
   ·rw [itT (by simpa using h17),if_pos h17]
   ·rw [itF (by simpa using h17),if_neg h17]
 ·rw [itT (c:=true) rfl,if_pos (show true=true from rfl),zBd _ hv,sb]
  unfold zbs zin
  split
  ·rfl
  ·split<;>rfl
abbrev Find:=zA
def okR (o:Option (Int×Int)) (a dp:Nat) (r:Find):Prop:=match o with
 | none=>r=⟨(dp:Int),0,0⟩
 | some (p,c)=>r.place=(a:Int)+p∧r.e=c
def ztp (s:List Mes):Nat→zka
 | 0=>none
 | d+1=>some (zaf s d)
def zpX (s:List Mes):Nat→Int→List UInt8→Nat
 | 0=>fun _ _=>0
 | d+1=>zhI s d
theorem zAI (s:List Mes) (d:Nat) (k:Int) (b:List UInt8):zaf s d k b=zbR (zY s k) (ztp s d) b (spl 0 b):=by cases d<;>rfl
theorem zDZ (s:List Mes) (d:Nat) (k:Int) (b:List UInt8):zhI s d k b=zke (zY s k) (zpX s d) b (spl 0 b).1:=by cases d<;>rfl
theorem zDx (s:List Mes) (d:Nat):∀g,ztp s d=some g→zpQ g:=fun g h=>by
 cases d with
 | zero=>cases h
 | succ d=>cases h;exact zhJ s d
theorem zEz (b:List UInt8) (t a x y:Nat) (h:a+y≤t):(((b.take t).drop a).drop x).take (y - x)=(b.take (a+y)).drop (a+x):=by
 rw [List.drop_drop,List.drop_take,List.drop_take,List.take_take]
 congr 1
 omega
theorem zBJ {s:List Mes} {k:Nat} (hk:k<s.length) (hm:(zY s k).Fields.length≤1152921504606846976) {b:List UInt8} (hb:b.length≤1048576) {d:Int} {a t:Nat} (hat:a≤t) (ht:t≤b.length) {sub:zka} {gd:Int→List UInt8→Nat}
  (hg:∀g,sub=some g→zpQ g) {recv:zap→Int→zf→Int→Option (zA×(List (zm×zf)))} {met0:List (zhE×PVw)}
  (hval:∀met,zgc s met→∀(n w i:Int) (run:Bool) (base x y:Nat),vw (zY s k) n w= .inr (i,run)→1≤x→x≤y→a+base+y≤t→
   ∃R met',recv ⟨s,b,met⟩ k ⟨⟨n,w,((a+base:Nat):Int),((a+(base+x):Nat):Int),((a+(base+y):Nat):Int)⟩,i,run⟩ d=some (R,met')∧zgc s met'∧
    okR (zcQ (zY s k) sub ((b.take t).drop a) ⟨n,w,base,(base+x:Nat),(base+y:Nat)⟩) a (zma (zY s k) gd ((b.take t).drop a) ⟨n,w,base,(base+x:Nat),(base+y:Nat)⟩) R)
  (base:Nat) (l:List UInt8):∀(met:List (zhE×PVw)) (dp:Nat),zgc s met→l=((b.take t).drop a).drop base→base≤t - a→
  ∃met' D,zgc s met'∧zbS d k recv t ⟨s,b,met0⟩ met ((a+base:Nat):Int) dp=some (match zbR (zY s k) sub ((b.take t).drop a) (spl base l) with
   | none=> .inl (met',((max dp (zke (zY s k) gd ((b.take t).drop a) (spl base l).1):Nat):Int))
   | some (p,c)=> .inr (met',D,(a:Int)+p,c)):=by
 have hvl:((b.take t).drop a).length=t - a:=by simp;omega
 generalize hvv:(b.take t).drop a=v at hval hvl⊢
 refine zgB (fun base l=>∀(met:List (zhE×PVw)) (dp:Nat),zgc s met→l=v.drop base→base≤t - a→
  ∃met' D,zgc s met'∧zbS d k recv t ⟨s,b,met0⟩ met ((a+base:Nat):Int) dp=some (match zbR (zY s k) sub v (spl base l) with
   | none=> .inl (met',((max dp (zke (zY s k) gd v (spl base l).1):Nat):Int))
   | some (p,c)=> .inr (met',D,(a:Int)+p,c))) ?_ ?_ ?_ base l
 ·intro base met dp g hl hbase
  have:v.length≤base:=by have:=congrArg List.length hl;simp at this;omega
  refine ⟨met,0,g,?_⟩
  rw [zfH]
  refine zdo ?_
  unfold zar
  rw [itF (by simp;omega)]
  simp [zbR,zke]
 ·intro base l c hl h hc met dp g hld hbase
  have hlt:a+base<t:=by have:=List.length_pos_iff.2 hl;rw [hld] at this;simp at this;omega
  have hdr:(b.take t).drop (a+base)=l:=by rw [hld,←hvv,List.drop_drop]
  have e:zcR (b.take t) ((a+base:Nat):Int)=(zrec,c):=by unfold zcR;rw [if_neg (by simp;omega),Int.toNat_natCast,hdr,h]
  have e2:zbE (zY s k) (b.take t) ((a+base:Nat):Int)=(zvw,c):=by unfold zbE;rw [e,if_pos (by simp only;omega)]
  obtain ⟨met',hlk,g'⟩:=zyh hk hm hb ((a+base:Nat):Int) ht g
  refine ⟨met',0,g',?_⟩
  rw [zgi hl h]
  refine zdo ?_
  unfold zar
  simp only
  rw [itT (by simp;omega),hlk,sb,e2,itT (by simp;omega)]
  simp [zbR]
 ·intro base l n w x y hl h _ g1 g2 g3 ih met dp g hld hbase
  have hly:base+y≤t - a:=by rw [hld] at g3;simp at g3;omega
  have hdr:(b.take t).drop (a+base)=l:=by rw [hld,←hvv,List.drop_drop]
  have e:zcR (b.take t) ((a+base:Nat):Int)=(⟨n,w,((a+base:Nat):Int),((a+(base+x):Nat):Int),((a+(base+y):Nat):Int)⟩,0):=by
   unfold zcR;rw [if_neg (by simp;omega),Int.toNat_natCast,hdr,h]
   have q1:((a+base:Nat):Int)+x=((a+(base+x):Nat):Int):=by omega
   have q2:((a+base:Nat):Int)+y=((a+(base+y):Nat):Int):=by omega
   simp only [q1,q2]
  obtain ⟨met',hlk,g'⟩:=zyh hk hm hb ((a+base:Nat):Int) ht g
  have hfr:zbR (zY s k) sub v (spl base l)=match zcQ (zY s k) sub v ⟨n,w,base,(base+x:Nat),(base+y:Nat)⟩ with
    | some p=>some p
    | none=>zbR (zY s k) sub v (spl (base+y) (l.drop y)):=by
   unfold zbR
   rw [zdZ hl h]
   simp only [List.findSome?_cons]
   cases zcQ (zY s k) sub v ⟨n,w,base,(base+x:Nat),(base+y:Nat)⟩<;>rfl
  have hfd:zke (zY s k) gd v (spl base l).1=max (zma (zY s k) gd v ⟨n,w,base,(base+x:Nat),(base+y:Nat)⟩) (zke (zY s k) gd v (spl (base+y) (l.drop y)).1):=by
   rw [zdZ hl h];rfl
  cases hv:vw (zY s k) n w with
  | inl c=>
   have hc:c=6:=by
    rcases zft (zY s k) n w with h'| ⟨h',_⟩| ⟨_,_,h',_⟩<;>rw [hv] at h'<;>cases h'
    rfl
   subst hc
   have e2:zbE (zY s k) (b.take t) ((a+base:Nat):Int)=(zvw,6):=by unfold zbE;rw [e];simp only [ne_eq,not_true_eq_false,if_false,hv]
   have hst:zcQ (zY s k) sub v ⟨n,w,base,(base+x:Nat),(base+y:Nat)⟩=some ((base:Int),6):=by unfold zcQ;simp only [hv]
   refine ⟨met',0,g',?_⟩
   rw [hfr,hst]
   refine zdo ?_
   unfold zar
   simp only
   rw [itT (by simp;omega),hlk,sb,e2,itT (by rfl)]
   simp
  | inr q=>
   obtain ⟨i,run⟩:=q
   have e2:zbE (zY s k) (b.take t) ((a+base:Nat):Int)=(⟨⟨n,w,((a+base:Nat):Int),((a+(base+x):Nat):Int),((a+(base+y):Nat):Int)⟩,i,run⟩,0):=by unfold zbE;rw [e];simp only [ne_eq,not_true_eq_false,if_false,hv]
   obtain ⟨R,met2,hrv,g2',hok⟩:=hval met' g' n w i run base x y hv g1 g2 (by omega)
   have hpr:prV (⟨⟨n,w,((a+base:Nat):Int),((a+(base+x):Nat):Int),((a+(base+y):Nat):Int)⟩,i,run⟩:Vw)=⟨⟨n,w,((a+base:Nat):Int),((a+(base+x):Nat):Int),((a+(base+y):Nat):Int)⟩,i,run⟩:=rfl
   cases hst:zcQ (zY s k) sub v ⟨n,w,base,(base+x:Nat),(base+y:Nat)⟩ with
   | some pc=>
    obtain ⟨p,c⟩:=pc
    have hgd:=zuU hg g1 g2 (b:=v) (base:=base) (by omega) hst
    rw [hst] at hok
    obtain ⟨o1,o2⟩:=hok
    refine ⟨met2,R.depth,g2',?_⟩
    rw [hfr,hst]
    refine zdo ?_
    unfold zar
    simp only
    rw [itT (by simp;omega),hlk,sb,e2,itF (by rfl),hpr,hrv,sb,itT (by rw [o2];simp;omega),o1,o2]
   | none=>
    rw [hst] at hok
    have hok':R=⟨((zma (zY s k) gd v ⟨n,w,base,(base+x:Nat),(base+y:Nat)⟩:Nat):Int),0,0⟩:=hok
    obtain ⟨met3,D,g3',h3⟩:=ih met2 (max dp (zma (zY s k) gd v ⟨n,w,base,(base+x:Nat),(base+y:Nat)⟩)) g2' (by rw [hld,List.drop_drop]) hly
    refine ⟨met3,D,g3',?_⟩
    rw [hfr,hst,hfd,←Nat.max_assoc,←h3]
    refine zjY ?_
    unfold zar
    simp only
    rw [itT (by simp;omega),hlk,sb,e2,itF (by rfl),hpr,hrv,sb,hok',itF (by rfl)]
    simp only [Option.some.injEq,Sum.inl.injEq,Prod.mk.injEq,true_and]
    split<;>omega
theorem zEZ {s:List Mes} (hr:zgR s) {k:Nat} (hk:k<s.length) {b:List UInt8} (hb:b.length≤1048576) {d fuel:Nat} (hd:d≤64) {a t:Nat} (ht:t≤b.length)
  (ih:∀e,d=e+1→∀(q A T:Nat) (met:List (zhE×PVw)),q<s.length→A≤T→T≤b.length→zgc s met→
   ∃R met',zbf fuel ⟨s,b,met⟩ q A T e=some (R,met')∧zgc s met'∧okR (zaf s e q ((b.take T).drop A)) A (zhI s e q ((b.take T).drop A)) R)
  (met:List (zhE×PVw)) (g:zgc s met) (n w i:Int) (run:Bool) (base x y:Nat) (hv:vw (zY s k) n w= .inr (i,run)) (h1:1≤x) (h2:x≤y) (hy:a+base+y≤t):
  ∃R met',zdx (fuel+1) ⟨s,b,met⟩ k ⟨⟨n,w,((a+base:Nat):Int),((a+(base+x):Nat):Int),((a+(base+y):Nat):Int)⟩,i,run⟩ d=some (R,met')∧zgc s met'∧
    okR (zcQ (zY s k) (ztp s d) ((b.take t).drop a) ⟨n,w,base,(base+x:Nat),(base+y:Nat)⟩) a (zma (zY s k) (zpX s d) ((b.take t).drop a) ⟨n,w,base,(base+x:Nat),(base+y:Nat)⟩) R:=by
 have hidx:idx s (k:Int)=some (zY s k):=by rw [zZ rfl hk,zfJ hk]
 have hun:∀w' v',zdx (fuel+1) w' k v' d=zdy (zbf fuel) (zdx fuel) w' k v' d:=fun _ _=>rfl
 have hvb:valB ((b.take t).drop a) ⟨n,w,base,(base+x:Nat),(base+y:Nat)⟩=(b.take (a+(base+y))).drop (a+(base+x)):=by
  unfold valB
  simp only [Int.toNat_natCast]
  exact zEz b t a (base+x) (base+y) (by omega)
 rcases zft (zY s k) n w with h'| ⟨h',_⟩| ⟨j,run',h',_,hi⟩
 ·rw [hv] at h';cases h'
 ·rw [hv] at h'
  obtain ⟨rfl,rfl⟩:i= -1∧run=false:=by simpa using h'
  refine ⟨⟨0,0,0⟩,met,?_,g,?_⟩
  ·rw [hun];unfold zdy;rw [itT (by rfl)]
  ·unfold zcQ zma;simp only [hv]
   rw [if_pos (show ((-1:Int)<0) by omega),if_pos (.inl (show ((-1:Int)<0) by omega))];rfl
 ·rw [hv] at h'
  obtain ⟨rfl,rfl⟩:i=j∧run=run':=by simpa using h'
  have hfm:zV (zY s k) (j:Int)∈(zY s k).Fields:=by rw [zdX hi];exact List.getElem_mem hi
  have hmem:zY s k∈s:=by rw [zfJ hk];exact List.getElem_mem hk
  have hrun:run=true→(zV (zY s k) (j:Int)).Kind≠17:=fun hh h17=>by
   subst hh
   have:=(zzx hv).1
   rw [h17] at this;cases this
  have hcut:cut b ((a+(base+x):Nat):Int) ((a+(base+y):Nat):Int)=some ((b.take (a+(base+y))).drop (a+(base+x))):=by
   rw [zfY rfl rfl (by omega) (by omega),List.drop_take]
  have hlen:((b.take (a+(base+y))).drop (a+(base+x))).length≤1048576:=by simp;omega
  unfold zcQ zma
  simp only [hv]
  rw [if_neg (show ¬((j:Int)<0) by omega),hvb]
  have hif:(if ((j:Int)<0∨run=true) then 0 else if (zV (zY s k) (j:Int)).Kind=17 then zpX s d (zV (zY s k) (j:Int)).Of ((b.take (a+(base+y))).drop (a+(base+x)))+1 else 0)=(if (zV (zY s k) (j:Int)).Kind=17 then zpX s d (zV (zY s k) (j:Int)).Of ((b.take (a+(base+y))).drop (a+(base+x)))+1 else 0):=by
   cases run with
   | false=>rw [if_neg (by simp)]
   | true=>rw [if_pos (.inr rfl),if_neg (hrun rfl)]
  rw [hif]
  simp only [hun]
  unfold zdy
  simp only
  rw [itF (show ((j:Int)== -1)=false by simp),hidx,sb,zZ (i:=j) rfl hi,sb,←zdX hi]
  generalize hvv:(b.take (a+(base+y))).drop (a+(base+x))=v at hlen hcut⊢
  have hof:=(hr.fld _ hmem _ hfm).sub
  generalize zV (zY s k) (j:Int)=f at hfm hrun hof⊢
  by_cases hs:f.Kind=17∧0<d
  ·obtain ⟨e,rfl⟩:∃e,d=e+1:=⟨d - 1,by omega⟩
   have hrf:run=false:=by
    cases run with
    | false=>rfl
    | true=>exact absurd hs.1 (hrun rfl)
   subst hrf
   have hof':=hof hs.1
   obtain ⟨q,hq⟩:∃q:Nat,f.Of=q:=⟨f.Of.toNat,by omega⟩
   obtain ⟨R,met',hR,g',hok⟩:=ih e rfl q (a+(base+x)) (a+(base+y)) met (by omega) (by omega) (by omega) g
   rw [hvv] at hok
   have hw1:IntKind.i64.wrap (((e+1:Nat):Int) - 1)=(e:Int):=by rw [zz (by omega)];omega
   refine ⟨⟨IntKind.i64.wrap (R.depth+1),R.place,R.e⟩,met',?_,g',?_⟩
   ·rw [itT (by simp [hs.1]),hw1,hq,hR,sb]
   ·rw [if_pos hs.1]
    unfold zjq
    rw [if_neg (by simp),if_neg (by rw [hs.1];simp),if_pos hs.1]
    simp only [ztp,zpX,hq]
    cases hf:zaf s e q v with
    | none=>
     rw [hf] at hok
     have hok':R=⟨((zhI s e q v:Nat):Int),0,0⟩:=hok
     have hdl:=(zwT s e e q v (Nat.le_refl _) hf).1 hf
     subst hok'
     show (⟨IntKind.i64.wrap (((zhI s e q v:Nat):Int)+1),0,0⟩:Find)=_
     rw [zz (by omega)]
     rfl
    | some pc=>
     obtain ⟨p,c⟩:=pc
     rw [hf] at hok
     obtain ⟨o1,o2⟩:=hok
     refine ⟨?_,o2⟩
     simp only
     rw [o1];push_cast;omega
  ·have hno:((f.Kind==17)&&decide (((d:Nat):Int)>0))=false:=by
    rw [Bool.and_eq_false_iff]
    by_cases h17:f.Kind=17
    ·exact .inr (decide_eq_false (by have:=fun h=>hs ⟨h17,h⟩;omega))
    ·exact .inl (by simpa using h17)
   have hlf:zjq f run (ztp s d) ⟨n,w,base,(base+x:Nat),(base+y:Nat)⟩ v=if zmL f run v≠0 then some ((base:Int),zmL f run v) else none:=by
    unfold zjq zmL
    by_cases hrt:run=true
    ·rw [if_pos hrt,if_pos hrt]
    ·rw [if_neg hrt,if_neg hrt]
     by_cases h15:f.Kind=15∧zfG v=false
     ·rw [if_pos h15,if_pos h15,if_pos (by omega)]
     ·rw [if_neg h15,if_neg h15]
      by_cases h17:f.Kind=17
      ·have:d=0:=by have:=fun h=>hs ⟨h17,h⟩;omega
       subst this
       rw [if_pos h17,if_pos h17,if_pos (by omega)];rfl
      ·rw [if_neg h17,if_neg h17,if_neg (by omega)]
   rw [itF hno,hcut,sb,zBE f run hlen,sb,hlf]
   by_cases h0:zmL f run v=0
   ·refine ⟨⟨0,0,0⟩,met,by rw [itF (by simpa using h0)],g,?_⟩
    rw [if_neg (by simpa using h0)]
    have:f.Kind≠17:=fun h17=>by
     have hrf:run=false:=by
      cases run with
      | false=>rfl
      | true=>exact absurd h17 (hrun rfl)
     subst hrf
     unfold zmL at h0
     rw [if_neg (by simp),if_neg (by rw [h17];simp),if_pos h17] at h0
     omega
    rw [if_neg this]
    rfl
   ·refine ⟨⟨0,((a+base:Nat):Int),zmL f run v⟩,met,by rw [itT (by simpa using h0)],g,?_⟩
    rw [if_pos h0]
    exact ⟨by simp,rfl⟩
theorem zEU {s:List Mes} (hr:zgR s) {b:List UInt8} (hb:b.length≤1048576):∀(d fuel:Nat),d≤64→2*d+2≤fuel→∀(q A T:Nat) (met:List (zhE×PVw)),q<s.length→A≤T→T≤b.length→zgc s met→
   ∃R met',zbf fuel ⟨s,b,met⟩ q A T d=some (R,met')∧zgc s met'∧okR (zaf s d q ((b.take T).drop A)) A (zhI s d q ((b.take T).drop A)) R:=by
 have step:∀(d fuel:Nat),d≤64→(∀e,d=e+1→∀(q A T:Nat) (met:List (zhE×PVw)),q<s.length→A≤T→T≤b.length→zgc s met→
   ∃R met',zbf fuel ⟨s,b,met⟩ q A T e=some (R,met')∧zgc s met'∧okR (zaf s e q ((b.take T).drop A)) A (zhI s e q ((b.take T).drop A)) R)→
   ∀(q A T:Nat) (met:List (zhE×PVw)),q<s.length→A≤T→T≤b.length→zgc s met→
   ∃R met',zbf (fuel+2) ⟨s,b,met⟩ q A T d=some (R,met')∧zgc s met'∧okR (zaf s d q ((b.take T).drop A)) A (zhI s d q ((b.take T).drop A)) R:=by
  intro d fuel hd ih q A T met hq hAT hT g
  have hun:∀w' k' p' t' d',zbf (fuel+2) w' k' p' t' d'=zdL (zbf (fuel+1)) (zdx (fuel+1)) w' k' p' t' d':=fun _ _ _ _ _=>rfl
  have hm:(zY s q).Fields.length≤1152921504606846976:=by
   rw [zfJ hq];have:=hr.few _ (List.getElem_mem hq);omega
  obtain ⟨met',D,g',hl⟩:=zBJ (s:=s) hq hm hb (d:=(d:Int)) hAT hT (sub:=ztp s d) (gd:=zpX s d) (zDx s d) (recv:=zdx (fuel+1)) (met0:=met)
   (fun met1 g1 n w i run base x y hv h1 h2 hy=>zEZ hr hq hb hd hT ih met1 g1 n w i run base x y hv h1 h2 hy) 0 _ met 0 g rfl (Nat.zero_le _)
  have hl':zbS d q (zdx (fuel+1)) T ⟨s,b,met⟩ met (A:Int) 0=_:=hl
  rw [hun,zAI,zDZ]
  unfold zdL
  simp only
  rw [List.drop_zero,Nat.zero_max] at hl'
  rw [hl',sb]
  cases hf:zbR (zY s q) (ztp s d) ((b.take T).drop A) (spl 0 ((b.take T).drop A)) with
  | none=>exact ⟨_,_,rfl,g',rfl⟩
  | some pc=>exact ⟨_,_,rfl,g',rfl,rfl⟩
 intro d
 induction d with
 | zero=>
  intro fuel hd hf
  obtain ⟨fuel,rfl⟩:∃z,fuel=z+2:=⟨fuel - 2,by omega⟩
  exact step 0 fuel hd (fun e he=>by omega)
 | succ d ih=>
  intro fuel hd hf
  obtain ⟨fuel,rfl⟩:∃z,fuel=z+2:=⟨fuel - 2,by omega⟩
  refine step (d+1) fuel hd (fun e he=>?_)
  obtain rfl:d=e:=by omega
  exact ih fuel (by omega) (by omega)
theorem zDG {s:List Mes} (hw:WS s) (root d:Int):zjF s root d=some (argS s root d):=by
 unfold zjF argS
 rw [zDd hw,sb]
 cases h:zkK s
 ·rw [itT (c:= !false) rfl,if_pos (show false=false from rfl)]
 ·rw [itF (c:= !true) rfl,if_neg (show ¬(true=false) by simp)]
  by_cases h2:root<0∨root≥s.length∨d<0∨d>64
  ·rw [itT (by simpa using h2),if_pos h2]
  ·rw [itF (by simp;omega),if_neg h2]
theorem zEc {s:List Mes} (hw:WS s) (root:Int) {b:List UInt8} (hb:b.length≤1048576) (d:Int) {fuel:Nat} (hf:130≤fuel):
  ∃R,zjG fuel s root b d=some R∧R.place=(zdB s root b d).1∧R.e=(zdB s root b d).2∧((zdB s root b d).2=0→R.depth=((zhI s d.toNat root b:Nat):Int)):=by
 unfold zjG zdB
 rw [zDG hw,sb]
 by_cases h:argS s root d=0
 ·obtain ⟨hr,h1,h2,h3,h4⟩:=znq h
  obtain ⟨k,rfl⟩:∃k:Nat,root=k:=⟨root.toNat,by omega⟩
  obtain ⟨e,rfl⟩:∃k:Nat,d=k:=⟨d.toNat,by omega⟩
  obtain ⟨R,met',hR,_,hok⟩:=zEU hr hb e fuel (by omega) (by omega) k 0 b.length [] (by omega) (Nat.zero_le _) (Nat.le_refl _) (zgc.nil s)
  have hR':zbf fuel ⟨s,b,[]⟩ k 0 (b.length:Int) e=some (R,met'):=hR
  rw [List.take_length,List.drop_zero] at hok
  rw [itF (by simpa using h),if_neg (by simpa using h),hR',sb,Int.toNat_natCast]
  refine ⟨R,rfl,?_⟩
  cases hfi:zaf s e k b with
  | none=>
   rw [hfi] at hok
   have hok':R=⟨((zhI s e k b:Nat):Int),0,0⟩:=hok
   subst hok'
   exact ⟨rfl,rfl,fun _=>rfl⟩
  | some pc=>
   obtain ⟨p,c⟩:=pc
   rw [hfi] at hok
   obtain ⟨o1,o2⟩:=hok
   have:=zhJ s e k b p c hfi
   simp only [Option.getD_some]
   refine ⟨by rw [o1];simp,o2,fun h0=>by omega⟩
 ·rw [itT (by simpa using h),if_pos h]
  exact ⟨_,rfl,rfl,rfl,fun h0=>absurd h0 h⟩
theorem zBD {s:List Mes} (hw:WS s) (root:Int) {b:List UInt8} (hb:b.length≤1048576) (d:Int) {fuel:Nat} (hf:130≤fuel):ziB fuel s root b d=some (zdB s root b d):=by
 obtain ⟨R,hR,h1,h2,_⟩:=zEc hw root hb d hf
 unfold ziB
 rw [hR,sb,h1,h2]
end Go.Proofs.YtcbkcblkecmjnaaGreat
namespace Go.Proofs.YtcbkcblkecmjnaaGreat
open Go
set_option linter.unusedVariables false
theorem zuZ {v:Vlu} (hb:v.Words.length≤140737488351232∧v.Texts.length≤140737488351232∧v.Subs.length≤140737488351232):zeZ v=some ((zgf v:Nat):Int):=by
 unfold zeZ zgf
 rw [zz (x:=(v.Words.length:Int)+(v.Texts.length:Int)) (by omega),zz (by omega)]
 push_cast
 rfl
end Go.Proofs.YtcbkcblkecmjnaaGreat
namespace Go.Proofs.YtcbkcblkecmjnaaGreat
open Go
set_option linter.unusedVariables false
theorem zEA {k:Int} (hk:kNum k=true) {v:List UInt8} (hf:zfp (zcu k) v=true):pcs k v=([v],0):=by
 have hk':=zjo.1 hk
 have hu:zkk k v= .inr v.length∧v≠[]:=by
  unfold zkk
  unfold zfp zcu at hf
  by_cases h9:k<9
  ·rw [if_neg (show ¬15≤k by omega),if_neg (show ¬12≤k by omega),if_neg (show ¬9≤k by omega),if_pos rfl] at hf
   obtain ⟨h1,h2⟩:=of_decide_eq_true hf
   obtain ⟨b1,b2,b3,b4,b5,b6,b7⟩:=zgz v
   have hp:=b7 h1
   rw [if_pos h9,if_neg (by simpa using h1),h2]
   refine ⟨by simp,fun e=>?_⟩
   subst e
   simp at h2
   omega
  ·rw [if_neg h9]
   by_cases h12:k<12
   ·rw [if_neg (show ¬15≤k by omega),if_neg (show ¬12≤k by omega),if_pos (show 9≤k by omega),if_neg (by omega)] at hf
    have hf':=of_decide_eq_true hf
    have hl:v.length=4:=by omega
    rw [if_pos h12,if_neg (by omega),hl]
    exact ⟨rfl,fun e=>by rw [e] at hl;simp at hl⟩
   ·rw [if_neg (show ¬15≤k by omega),if_pos (show 12≤k by omega),if_neg (by omega)] at hf
    have hf':=of_decide_eq_true hf
    have hl:v.length=8:=by omega
    rw [if_neg h12,if_neg (by omega),hl]
    exact ⟨rfl,fun e=>by rw [e] at hl;simp at hl⟩
 rw [zjs hu.2 hu.1,List.take_length,List.drop_length,zlM]
theorem zvb {k:Int} (hk:kNum k=true) {v:List UInt8} (hf:zfp (zcu k) v=true):zbs k v=([(zlY k v).1],0):=by
 unfold zbs
 rw [if_neg (by rw [hk];simp),zEA hk hf,if_pos rfl,zkh hk hf]
 rfl
end Go.Proofs.YtcbkcblkecmjnaaGreat
namespace Go.Proofs.YtcbkcblkecmjnaaGreat
open Go
set_option linter.unusedVariables false
def zfg (f:Fld) (T:List Th):List Th:=if f.Repeated=true then T else T.drop (T.length - 1)
def valT (g:Int→List UInt8→Msg) (f:Fld) (T:List Th):Vlu:=
 if f.Kind=17 then ⟨f.Number,[],[],if f.Repeated=true then T.map fun t=>g f.Of t.val else [g f.Of (T.flatMap (·.val))]⟩
 else if f.Kind=15∨f.Kind=16 then ⟨f.Number,[],(zfg f T).map (·.val),[]⟩
 else ⟨f.Number,(zfg f T).flatMap (fun t=>(zbs f.Kind t.val).1),[],[]⟩
theorem zkb (g:Int→List UInt8→Msg) (f:Fld) (i:Int):∀(l:List Th) (a:zfv),accF g f i a l=(l.filter fun t=>t.fi==i).foldl (stp g f) a
 | [],a=>rfl
 | t::l,a=>by
  rw [accF,List.filter_cons]
  by_cases h:t.fi=i
  ·rw [if_pos h,if_pos (by simpa using h),List.foldl_cons];exact zkb g f i l _
  ·rw [if_neg h,if_neg (by simpa using h)];exact zkb g f i l _
def OkF (f:Fld) (t:Th):Prop:=(t.run=true→kNum f.Kind=true∧f.Repeated=true)∧(t.run=false→zbT f.Kind=true∧zfp (zcu f.Kind) t.val=true)
theorem zuN {f:Fld} {t u:Th} {T:List Th}:zfg f (t::u::T)=if f.Repeated=true then t::u::T else zfg f (u::T):=by
 unfold zfg
 cases f.Repeated<;>simp
theorem zxb (g:Int→List UInt8→Msg) {f:Fld} (hk:kNum f.Kind=true):∀(T:List Th) (a:zfv),T≠[]→(∀t∈T,OkF f t)→
  T.foldl (stp g f) a=(a.1,true,(if f.Repeated=true then a.2.2.1 else [])++(zfg f T).flatMap (fun t=>(zbs f.Kind t.val).1),(if f.Repeated=true then a.2.2.2.1 else []),a.2.2.2.2)
 | [],a,h,_=>absurd rfl h
 | [t],a,_,ht=>by
  obtain ⟨h1,h2⟩:=ht t List.mem_cons_self
  have hp:zfg f [t]=[t]:=by unfold zfg;simp
  rw [hp,List.foldl_cons,List.foldl_nil]
  unfold stp
  cases hr:t.run
  ·rw [if_neg (by simp),if_pos hk,List.flatMap_singleton,zvb hk (h2 hr).2]
  ·rw [if_pos rfl,List.flatMap_singleton]
 | t::u::T,a,_,ht=>by
  obtain ⟨h1,h2⟩:=ht t List.mem_cons_self
  have hst:stp g f a t=(a.1,true,(if f.Repeated=true then a.2.2.1 else [])++(zbs f.Kind t.val).1,(if f.Repeated=true then a.2.2.2.1 else []),a.2.2.2.2):=by
   unfold stp
   cases hr:t.run
   ·rw [if_neg (by simp),if_pos hk,zvb hk (h2 hr).2]
   ·rw [if_pos rfl]
  rw [List.foldl_cons,hst,zxb g hk (u::T) _ (by simp) fun x hx=>ht x (List.mem_cons_of_mem _ hx),zuN]
  cases hr:f.Repeated
  ·simp
  ·have hp:zfg f (u::T)=u::T:=by unfold zfg;rw [if_pos hr]
   rw [hp];simp
theorem zux (g:Int→List UInt8→Msg) {f:Fld} (hk:kNum f.Kind=false) (h17:f.Kind≠17):∀(T:List Th) (a:zfv),T≠[]→(∀t∈T,OkF f t)→
  T.foldl (stp g f) a=(a.1,true,(if f.Repeated=true then a.2.2.1 else []),(if f.Repeated=true then a.2.2.2.1 else [])++(zfg f T).map (·.val),a.2.2.2.2)
 | [],a,h,_=>absurd rfl h
 | [t],a,_,ht=>by
  obtain ⟨h1,h2⟩:=ht t List.mem_cons_self
  have hp:zfg f [t]=[t]:=by unfold zfg;simp
  have hr:t.run=false:=by
   cases hr:t.run
   ·rfl
   ·have:=(h1 hr).1;rw [hk] at this;cases this
  rw [hp,List.foldl_cons,List.foldl_nil]
  unfold stp
  rw [hr,if_neg (by simp),if_neg (by rw [hk];simp),if_neg (fun h=>h17 h.1),if_neg h17]
  rfl
 | t::u::T,a,_,ht=>by
  obtain ⟨h1,h2⟩:=ht t List.mem_cons_self
  have hr:t.run=false:=by
   cases hr:t.run
   ·rfl
   ·have:=(h1 hr).1;rw [hk] at this;cases this
  have hst:stp g f a t=(a.1,true,(if f.Repeated=true then a.2.2.1 else []),(if f.Repeated=true then a.2.2.2.1 else [])++[t.val],a.2.2.2.2):=by
   unfold stp
   rw [hr,if_neg (by simp),if_neg (by rw [hk];simp),if_neg (fun h=>h17 h.1),if_neg h17]
  rw [List.foldl_cons,hst,zux g hk h17 (u::T) _ (by simp) fun x hx=>ht x (List.mem_cons_of_mem _ hx),zuN]
  cases hr:f.Repeated
  ·simp
  ·have hp:zfg f (u::T)=u::T:=by unfold zfg;rw [if_pos hr]
   rw [hp];simp
theorem zuw (g:Int→List UInt8→Msg) {f:Fld} (h17:f.Kind=17) (hr:f.Repeated=true):∀(T:List Th) (a:zfv),(∀t∈T,OkF f t)→(T≠[]∨a.2.1=true)→
  T.foldl (stp g f) a=(a.1,true,a.2.2.1,a.2.2.2.1,a.2.2.2.2++T.map fun t=>g f.Of t.val)
 | [],a,_,h=>by
  rcases h with h| h
  ·exact absurd rfl h
  ·obtain ⟨a1,a2,a3,a4,a5⟩:=a
   simp only at h
   subst h
   simp
 | t::T,a,ht,_=>by
  obtain ⟨h1,h2⟩:=ht t List.mem_cons_self
  have hrn:t.run=false:=by
   cases hr:t.run
   ·rfl
   ·have:=(h1 hr).1;rw [h17] at this;cases this
  have hst:stp g f a t=(a.1,true,a.2.2.1,a.2.2.2.1,a.2.2.2.2++[g f.Of t.val]):=by
   unfold stp
   rw [hrn,if_neg (by simp),if_neg (by rw [h17];decide),if_pos ⟨h17,hr⟩,if_pos hr,if_pos hr]
  rw [List.foldl_cons,hst,zuw g h17 hr T _ (fun x hx=>ht x (List.mem_cons_of_mem _ hx)) (.inr rfl)]
  simp
theorem zxc (g:Int→List UInt8→Msg) {f:Fld} (h17:f.Kind=17) (hr:f.Repeated=false):∀(T:List Th) (a:zfv),(∀t∈T,OkF f t)→T≠[]→
  T.foldl (stp g f) a=(a.1++T.flatMap (·.val),true,[],[],a.2.2.2.2)
 | [],a,_,h=>absurd rfl h
 | [t],a,ht,_=>by
  obtain ⟨h1,h2⟩:=ht t List.mem_cons_self
  have hrn:t.run=false:=by
   cases hr:t.run
   ·rfl
   ·have:=(h1 hr).1;rw [h17] at this;cases this
  rw [List.foldl_cons,List.foldl_nil]
  unfold stp
  rw [hrn,if_neg (by simp),if_neg (by rw [h17];decide),if_neg (by rw [hr];simp),if_pos h17,hr]
  simp
 | t::u::T,a,ht,_=>by
  obtain ⟨h1,h2⟩:=ht t List.mem_cons_self
  have hrn:t.run=false:=by
   cases hr:t.run
   ·rfl
   ·have:=(h1 hr).1;rw [h17] at this;cases this
  have hst:stp g f a t=(a.1++t.val,true,[],[],a.2.2.2.2):=by
   unfold stp
   rw [hrn,if_neg (by simp),if_neg (by rw [h17];decide),if_neg (by rw [hr];simp),if_pos h17,hr]
   simp
  rw [List.foldl_cons,hst,zxc g h17 hr (u::T) _ (fun x hx=>ht x (List.mem_cons_of_mem _ hx)) (by simp)]
  simp
theorem zFZ (g:Int→List UInt8→Msg) {f:Fld} (hkr:zbT f.Kind=true) {T:List Th} (hT:T≠[]) (ht:∀t∈T,OkF f t):valO g f (T.foldl (stp g f) acc0)=valT g f T:=by
 unfold valT
 by_cases h17:f.Kind=17
 ·rw [if_pos h17]
  cases hr:f.Repeated
  ·rw [zxc g h17 hr T acc0 ht hT]
   unfold valO
   rw [if_pos ⟨rfl,h17,hr⟩]
   simp [acc0]
  ·rw [zuw g h17 hr T acc0 ht (.inl hT)]
   unfold valO
   rw [if_neg (by rw [hr];simp)]
   simp [acc0]
 ·rw [if_neg h17]
  by_cases hx:f.Kind=15∨f.Kind=16
  ·rw [if_pos hx,zux g (by unfold kNum;simp;omega) h17 T acc0 hT ht]
   unfold valO
   simp only
   rw [if_neg (show ¬(True∧f.Kind=17∧f.Repeated=false) from fun h=>h17 h.2.1)]
   cases f.Repeated<;>simp [acc0]
  ·have hk:kNum f.Kind=true:=by unfold zbT at hkr;unfold kNum;simp at hkr⊢;omega
   rw [if_neg hx,zxb g hk T acc0 hT ht]
   unfold valO
   simp only
   rw [if_neg (show ¬(True∧f.Kind=17∧f.Repeated=false) from fun h=>h17 h.2.1)]
   cases f.Repeated<;>simp [acc0]
theorem zBp {α:Type} (l:List α) (m:Nat) (d x:α):(l++List.replicate (m+1) d).set l.length x=(l++[x])++List.replicate m d:=by
 rw [List.set_append_right _ _ (Nat.le_refl _),Nat.sub_self,List.replicate_succ,List.set_cons_zero,List.append_assoc];rfl
theorem zvA {α:Type} (l:List α) (d:α) (F:List α→Int→Option (List α)) (h0:F l (l.length:Int)=some l)
  (hs:∀(i:Nat) (h:i<l.length),F (l.take i++List.replicate (l.length - i) d) (i:Int)=F (l.take (i+1)++List.replicate (l.length - (i+1)) d) ((i+1:Nat):Int)):
  ∀(c i:Nat),i+c=l.length→F (l.take i++List.replicate (l.length - i) d) (i:Int)=some l
 | 0,i,h=>by
  have hi:i=l.length:=by omega
  rw [hi,List.take_length,Nat.sub_self,List.replicate_zero,List.append_nil];exact h0
 | c+1,i,h=>by rw [hs i (by omega)];exact zvA l d F h0 hs c (i+1) (by omega)
theorem zsn {α:Type} (l:List α) (d:α) (i:Nat) (h:i<l.length):(l.take i++List.replicate (l.length - i) d).set i l[i]=l.take (i+1)++List.replicate (l.length - (i+1)) d:=by
 have hl:(l.take i).length=i:=by rw [List.length_take];omega
 have e:=zBp (l.take i) (l.length - (i+1)) d l[i]
 rw [hl,show l.length - (i+1)+1=l.length - i by omega] at e
 rw [e,List.take_succ_eq_append_getElem h]
def At14 (b:List UInt8) (L:List Vw):Prop:=∀t∈L,0≤t.R.From∧t.R.From<t.R.At∧t.R.At≤t.R.To∧t.R.To≤b.length
theorem zvt {b:List UInt8} {L:List Vw} (h:At14 b L) {t:Vw} (ht:t∈L):cut b t.R.At t.R.To=some (valB b t.R):=by
 obtain ⟨r1,r2,r3,r4⟩:=h t ht
 obtain ⟨x,hx1⟩:∃x:Nat,t.R.At=x:=⟨t.R.At.toNat,by omega⟩
 obtain ⟨y,hy1⟩:∃x:Nat,t.R.To=x:=⟨t.R.To.toNat,by omega⟩
 rw [zfY hx1 hy1 (by omega) (by omega)];unfold valB;rw [hx1,hy1];simp only [Int.toNat_natCast]
theorem zDX {b:List UInt8} {L:List Vw} (h:At14 b L) {t:Vw} (ht:t∈L):cut b t.R.From t.R.To=some (rawB b t.R):=by
 obtain ⟨r1,r2,r3,r4⟩:=h t ht
 obtain ⟨x,hx1⟩:∃x:Nat,t.R.From=x:=⟨t.R.From.toNat,by omega⟩
 obtain ⟨y,hy1⟩:∃x:Nat,t.R.To=x:=⟨t.R.To.toNat,by omega⟩
 rw [zfY hx1 hy1 (by omega) (by omega)];unfold rawB;rw [hx1,hy1];simp only [Int.toNat_natCast]
theorem zrF {L:List Vw} {i:Nat} (h:i<L.length):idx (L.map prV) (i:Int)=some (prV L[i]):=by
 rw [zZ rfl (show i<(L.map prV).length by simpa using h)];simp
theorem zDy {b:List UInt8} {L:List Vw} (hL:L.length≤1048576) (hat:At14 b L):zjD b (L.map prV)=some (L.map fun t=>valB b t.R):=by
 unfold zjD
 rw [zql (a:=L.length) (by simp) (Int.le_refl _) (by simp;omega),sb]
 have hlen:(L.map fun t=>valB b t.R).length=L.length:=by simp
 have h:=zvA (L.map fun t=>valB b t.R) ([]:Str) (fun a i=>zfW b (L.map prV) a i) (by
   refine zpH ?_
   unfold zcV
   rw [itF (by simp)])
  (fun i hi=>by
   have hil:i<L.length:=by simpa using hi
   refine zpG ?_
   unfold zcV
   have hc:=zvt hat (List.getElem_mem hil)
   rw [itT (by simp;omega),zrF hil,sb]
   have e1:(prV L[i]).Record.At=L[i].R.At:=rfl
   have e2:(prV L[i]).Record.To=L[i].R.To:=rfl
   have e3:=zsn (L.map fun t=>valB b t.R) ([]:Str) i hi
   rw [List.getElem_map] at e3
   rw [e1,e2,hc,sb,zZ rfl (show i<_ by rw [List.length_append,List.length_take,List.length_replicate];omega),sb,Int.toNat_natCast,e3,zz (by omega)]
   push_cast;rfl) L.length 0 (by simp)
 rw [hlen,List.take_zero,List.nil_append,Nat.sub_zero] at h
 have h':zfW b (L.map prV) (List.replicate L.length []) 0=_:=h
 rw [h',sb]
theorem zBy {k:Int} {b:List UInt8} (hb:b.length≤1048576) {L:List Vw} (hL:L.length≤1048576) (hat:At14 b L) (hw:(L.flatMap fun t=>(zbs k (valB b t.R)).1).length≤1048576):
  zjE k b (L.map prV)=some (L.flatMap fun t=>(zbs k (valB b t.R)).1):=by
 unfold zjE
 have key:∀(post pre:List Vw),L=pre++post→zfX b k (L.map prV) (pre.flatMap fun t=>(zbs k (valB b t.R)).1) pre.length=some (L.flatMap fun t=>(zbs k (valB b t.R)).1):=by
  intro post
  induction post with
  | nil=>
   intro pre e
   rw [List.append_nil] at e
   subst e
   refine zpJ ?_
   unfold zcW
   rw [itF (by simp)]
  | cons t post ih=>
   intro pre e
   have hlt:pre.length<L.length:=by rw [e];simp
   have hti:L[pre.length]=t:=by
    subst e;simp
   have ht:t∈L:=by rw [e];simp
   obtain ⟨r1,r2,r3,r4⟩:=hat t ht
   have hvl:=zAt b t.R r3 r1 r2 r4
   have e2:(L.flatMap fun t=>(zbs k (valB b t.R)).1)=(pre.flatMap fun t=>(zbs k (valB b t.R)).1)++((zbs k (valB b t.R)).1++post.flatMap fun t=>(zbs k (valB b t.R)).1):=by rw [e];simp
   have hsum:=congrArg List.length e2
   rw [List.length_append,List.length_append] at hsum
   refine (zpI (all':=(pre++[t]).flatMap fun t=>(zbs k (valB b t.R)).1) (v':=(((pre++[t]).length:Nat):Int)) ?_).trans (ih (pre++[t]) (by rw [e];simp))
   unfold zcW
   have hc:=zvt hat ht
   rw [itT (by simp;omega),zrF hlt,sb,hti]
   have e1:(prV t).Record.At=t.R.At:=rfl
   have e2:(prV t).Record.To=t.R.To:=rfl
   rw [e1,e2,hc,sb,zBn k (by omega),sb,zdp (by omega),sb,zz (by omega),List.flatMap_append,List.flatMap_singleton,List.length_append,List.length_singleton]
   push_cast;rfl
 have h:=key L [] rfl
 have h':zfX b k (L.map prV) [] 0=_:=h
 rw [h',sb]
theorem zxY {b:List UInt8} {L:List Vw} (hL:L.length≤1048576) (hat:At14 b L):zgC b (L.map prV) (List.replicate L.length []) 0=some (L.map fun t=>valB b t.R):=by
 have hlen:(L.map fun t=>valB b t.R).length=L.length:=by simp
 have h:=zvA (L.map fun t=>valB b t.R) ([]:List UInt8) (fun a i=>zgC b (L.map prV) a i) (by
   refine zqG ?_
   unfold zdE
   rw [itF (by simp)])
  (fun i hi=>by
   have hil:i<L.length:=by simpa using hi
   refine zqF ?_
   unfold zdE
   have hc:=zvt hat (List.getElem_mem hil)
   rw [itT (by simp;omega),zrF hil,sb]
   have e1:(prV L[i]).Record.At=L[i].R.At:=rfl
   have e2:(prV L[i]).Record.To=L[i].R.To:=rfl
   have e3:=zsn (L.map fun t=>valB b t.R) ([]:List UInt8) i hi
   rw [List.getElem_map] at e3
   rw [e1,e2,hc,sb,zZ rfl (show i<_ by rw [List.length_append,List.length_take,List.length_replicate];omega),sb,Int.toNat_natCast,e3,zz (by omega)]
   push_cast;rfl) L.length 0 (by simp)
 rw [hlen,List.take_zero,List.nil_append,Nat.sub_zero] at h
 exact h
theorem zqB {rec:List zh→Int→List UInt8→Option ze} {g:Int→List UInt8→Msg} {s:List Mes} {f:Fld} {p:List (List UInt8)} (hp:p.length≤1048576) (hg:∀v∈p,rec s f.Of v=some (g f.Of v)):
  zfa f p rec s (List.replicate p.length ⟨[],[]⟩) 0=some (p.map (g f.Of)):=by
 have hlen:(p.map (g f.Of)).length=p.length:=by simp
 have h:=zvA (p.map (g f.Of)) (⟨[],[]⟩:Msg) (fun a i=>zfa f p rec s a i) (by
   refine zqI ?_
   unfold zdF
   rw [itF (by simp)])
  (fun i hi=>by
   have hil:i<p.length:=by simpa using hi
   refine zqH ?_
   unfold zdF
   have e3:=zsn (p.map (g f.Of)) (⟨[],[]⟩:Msg) i hi
   rw [List.getElem_map] at e3
   rw [itT (by simp;omega),zZ rfl hil,sb,hg _ (List.getElem_mem hil),sb,zZ rfl (show i<_ by rw [List.length_append,List.length_take,List.length_replicate];omega),sb,Int.toNat_natCast,e3,zz (by omega)]
   push_cast;rfl) p.length 0 (by simp)
 rw [hlen,List.take_zero,List.nil_append,Nat.sub_zero] at h
 exact h
def kn14 (acc:List (Int×List PVw)) (v:Vw):List (Int×List PVw):=if v.Field= -1 then acc else mput acc v.R.Number ((mget acc v.R.Number).getD []++[prV v])
def zfi (L:List Vw) (n:Int):List Vw:=L.filter fun v=>decide (v.Field≠ -1∧v.R.Number=n)
theorem zyL (n:Int):∀(L:List Vw) (acc:List (Int×List PVw)),(mget (L.foldl kn14 acc) n).getD []=(mget acc n).getD []++(zfi L n).map prV
 | [],acc=>by simp [zfi]
 | v::L,acc=>by
  rw [List.foldl_cons,zyL n L]
  unfold zfi kn14
  rw [List.filter_cons]
  by_cases hf:v.Field= -1
  ·rw [if_pos hf,if_neg (by simp [hf])]
  ·rw [if_neg hf,zhO]
   by_cases hn:n=v.R.Number
   ·rw [if_pos hn,if_pos (by simp [hf,hn]),hn]
    simp
   ·rw [if_neg hn,if_neg (by simp;exact fun _ e=>hn e.symm)]
theorem zCP {κ ν:Type} [DecidableEq κ] {m:List (κ×ν)} {k:κ} {x:ν} (h:mget m k=some x):k∈m.map Prod.fst:=by
 induction m with
 | nil=>cases h
 | cons p m ih=>
  rw [mget] at h
  split at h
  ·rename_i e;rw [e];exact List.mem_cons_self
  ·exact List.mem_cons_of_mem _ (ih h)
theorem zvQ {κ ν:Type} [DecidableEq κ] (m:List (κ×ν)) (k j:κ) (x:ν):j∈(mput m k x).map Prod.fst↔j∈m.map Prod.fst∨j=k:=by
 rw [zla]
 cases h:mget m k with
 | none=>simp
 | some y=>
  simp only
  exact ⟨.inl,fun h'=>h'.elim id fun e=>e▸zCP h⟩
theorem zzV (n:Int):∀(L:List Vw) (acc:List (Int×List PVw)),n∈(L.foldl kn14 acc).map Prod.fst↔n∈acc.map Prod.fst∨∃v∈L,v.Field≠ -1∧v.R.Number=n
 | [],acc=>by simp
 | v::L,acc=>by
  rw [List.foldl_cons,zzV n L]
  unfold kn14
  by_cases hf:v.Field= -1
  ·rw [if_pos hf]
   constructor
   ·rintro (h| ⟨u,hu,h⟩)
    ·exact .inl h
    ·exact .inr ⟨u,List.mem_cons_of_mem _ hu,h⟩
   ·rintro (h| ⟨u,hu,h⟩)
    ·exact .inl h
    ·rcases List.mem_cons.1 hu with rfl| hu
     ·exact absurd hf h.1
     ·exact .inr ⟨u,hu,h⟩
  ·rw [if_neg hf,zvQ]
   constructor
   ·rintro ((h| h)| ⟨u,hu,h⟩)
    ·exact .inl h
    ·exact .inr ⟨v,List.mem_cons_self,hf,h.symm⟩
    ·exact .inr ⟨u,List.mem_cons_of_mem _ hu,h⟩
   ·rintro (h| ⟨u,hu,h⟩)
    ·exact .inl (.inl h)
    ·rcases List.mem_cons.1 hu with rfl| hu
     ·exact .inl (.inr h.2.symm)
     ·exact .inr ⟨u,hu,h⟩
theorem zxs:∀(L:List Vw) (acc:List (Int×List PVw)),(acc.map Prod.fst).Nodup→((L.foldl kn14 acc).map Prod.fst).Nodup
 | [],acc,h=>h
 | v::L,acc,h=>by
  rw [List.foldl_cons]
  refine zxs L _ ?_
  unfold kn14
  split
  ·exact h
  ·exact zoz h _ _
theorem zCR {κ ν:Type} [DecidableEq κ] (m:List (κ×ν)) (k:κ) (x:ν):(mput m k x).length≤m.length+1:=by
 have h:=congrArg List.length (zla m k x)
 rw [List.length_map] at h
 rw [h]
 split<;>simp
theorem zyM:∀(L:List Vw) (acc:List (Int×List PVw)),(L.foldl kn14 acc).length≤acc.length+L.length
 | [],acc=>by simp
 | v::L,acc=>by
  rw [List.foldl_cons]
  have h:=zyM L (kn14 acc v)
  have h2:(kn14 acc v).length≤acc.length+1:=by
   unfold kn14
   split
   ·omega
   ·exact zCR _ _ _
  rw [List.length_cons];omega
theorem zvD {b:List UInt8} {L:List Vw} (hL:L.length≤1048576) (hat:At14 b L) (hneg:∀v∈L,v.Field= -1∨0≤v.Field) (x:Int×Int):∀(post pre:List Vw),L=pre++post→
  zeJ b (L.map prV,x) (pre.foldl kn14 []) pre.length (unkO (pre.map (thOf b)))=some (L.foldl kn14 [],unkO (L.map (thOf b))):=by
 intro post
 induction post with
 | nil=>
  intro pre e
  rw [List.append_nil] at e
  subst e
  refine znY ?_
  unfold zbM
  rw [itF (by simp)]
 | cons v post ih=>
  intro pre e
  have hlt:pre.length<L.length:=by rw [e];simp
  have hti:L[pre.length]=v:=by subst e;simp
  have hv:v∈L:=by rw [e];simp
  have hx:idx (L.map prV) (pre.length:Nat)=some (prV v):=by rw [zrF hlt,hti]
  have hfi:(prV v).Field=v.Field:=rfl
  have hun:(unkO (pre.map (thOf b))).length≤pre.length:=by
   unfold unkO
   rw [List.length_map]
   exact Nat.le_trans (List.length_filter_le _ _) (by simp)
  have hw:IntKind.i64.wrap (((pre.length:Nat):Int)+1)=(((pre++[v]).length:Nat):Int):=by rw [zz (by omega),List.length_append,List.length_singleton];push_cast;rfl
  have hF:=(hat v hv)
  by_cases hf:v.Field= -1
  ·refine (ziO (known':=(pre++[v]).foldl kn14 []) (v':=(((pre++[v]).length:Nat):Int)) (f':=unkO ((pre++[v]).map (thOf b))) ?_).trans (ih (pre++[v]) (by rw [e];simp))
   unfold zbM
   have e1:(prV v).Record.From=v.R.From:=rfl
   have e2:(prV v).Record.To=v.R.To:=rfl
   have hu:unkO ((pre++[v]).map (thOf b))=unkO (pre.map (thOf b))++[rawB b v.R]:=by
    unfold unkO
    rw [List.map_append,List.filter_append,List.map_append]
    congr 1
    rw [List.map_singleton,List.filter_cons,if_pos (by show decide (v.Field<0)=true;rw [hf];rfl)]
    rfl
   have hk:(pre++[v]).foldl kn14 []=pre.foldl kn14 []:=by rw [List.foldl_append,List.foldl_cons,List.foldl_nil];unfold kn14;rw [if_pos hf]
   rw [itT (by simp;omega),hx,sb,itT (by rw [hfi,hf];rfl),e1,e2,zDX hat hv,sb,zdp (by simp;omega),sb,hw,hu,hk]
  ·refine (ziO (known':=(pre++[v]).foldl kn14 []) (v':=(((pre++[v]).length:Nat):Int)) (f':=unkO ((pre++[v]).map (thOf b))) ?_).trans (ih (pre++[v]) (by rw [e];simp))
   unfold zbM
   have e1:(prV v).Record.Number=v.R.Number:=rfl
   have hg:=zyL v.R.Number pre []
   have hlen:((mget (pre.foldl kn14 []) v.R.Number).getD []).length≤pre.length:=by
    rw [hg]
    have:(zfi pre v.R.Number).length≤pre.length:=List.length_filter_le _ _
    simpa [mget] using this
   have hk:(pre++[v]).foldl kn14 []=mput (pre.foldl kn14 []) v.R.Number ((mget (pre.foldl kn14 []) v.R.Number).getD []++[prV v]):=by rw [List.foldl_append,List.foldl_cons,List.foldl_nil];show kn14 (pre.foldl kn14 []) v=_;unfold kn14;rw [if_neg hf]
   rw [itT (by simp;omega),hx,sb,itF (by rw [hfi];simpa using hf),e1,zdp (by simp only [List.length_singleton];omega),sb,hw,hk]
   have hu:unkO ((pre++[v]).map (thOf b))=unkO (pre.map (thOf b)):=by
    unfold unkO
    rw [List.map_append,List.filter_append,List.map_append,List.map_singleton,List.filter_cons,if_neg (by show ¬decide (v.Field<0)=true;have:=(hneg v hv).resolve_left hf;simp;omega)]
    simp
   rw [hu]
theorem zxp {L:List Vw} (hwf:∀v∈L,v.Field≠ -1→(Lit.int .i64 v.R.Number).wf=true) (hL:L.length≤1048576):
  ∃ks,zpb (L.foldl kn14 [])=some ks∧ks.Pairwise (·<·)∧∀n,n∈ks↔∃v∈L,v.Field≠ -1∧v.R.Number=n:=by
 have hlen:=zyM L []
 have hnd:=zxs L [] (by simp)
 have hk:=fun n=>zzV n L []
 generalize L.foldl kn14 []=K at hlen hnd hk
 refine ⟨(K.map Prod.fst).mergeSort fun x y=>decide (x≤y),?_,?_,fun n=>?_⟩
 ·have hall:(K.all fun p=>(Lit.int .i64 p.1).wf)=true:=by
   rw [List.all_eq_true]
   intro p hp
   obtain h| ⟨v,hv,hf,hn⟩:=(hk p.1).1 (List.mem_map_of_mem hp)
   ·simp at h
   ·rw [←hn];exact hwf v hv hf
  have hl:K.length*8≤140737488355328:=by rw [List.length_nil] at hlen;omega
  unfold zpb
  rw [if_pos ⟨hall,hl⟩]
 ·have hp:=List.mergeSort_perm (K.map Prod.fst) fun x y=>decide (x≤y)
  have hs:=List.pairwise_mergeSort (le:=fun x y:Int=>decide (x≤y)) (fun a b c h k=>by simp at*;omega) (fun a b=>by simp;omega) (K.map Prod.fst)
  have hnd':=hp.nodup_iff.2 hnd
  generalize (K.map Prod.fst).mergeSort (fun x y=>decide (x≤y))=ks at hs hnd'
  refine (List.Pairwise.and hs hnd').imp fun {a b} h=>?_
  have h1:a≤b:=by simpa using h.1
  have h2:a≠b:=h.2
  omega
 ·rw [List.mem_mergeSort,hk n]
  simp
theorem zrf:∀(l k:List Int),l.Pairwise (·<·)→k.Pairwise (·<·)→(∀w,w∈l↔w∈k)→l=k
 | [],[],_,_,_=>rfl
 | [],y::k,_,_,h=>absurd ((h y).2 List.mem_cons_self) (by simp)
 | x::l,[],_,_,h=>absurd ((h x).1 List.mem_cons_self) (by simp)
 | x::l,y::k,hl,hk,h=>by
  have hl':=List.pairwise_cons.1 hl
  have hk':=List.pairwise_cons.1 hk
  have hxy:x=y:=by
   rcases List.mem_cons.1 ((h x).1 List.mem_cons_self) with h1| h1
   ·exact h1
   ·rcases List.mem_cons.1 ((h y).2 List.mem_cons_self) with h2| h2
    ·exact h2.symm
    ·have a1:=hk'.1 x h1
     have a2:=hl'.1 y h2
     omega
  subst hxy
  congr 1
  refine zrf l k hl'.2 hk'.2 fun w=>?_
  have nl:x∉l:=fun hm=>by have:=hl'.1 x hm;omega
  have nk:x∉k:=fun hm=>by have:=hk'.1 x hm;omega
  have:=h w
  simp only [List.mem_cons] at this
  constructor
  ·intro hw
   rcases this.1 (.inr hw) with rfl| h'
   ·exact absurd hw nl
   ·exact h'
  ·intro hw
   rcases this.2 (.inr hw) with rfl| h'
   ·exact absurd hw nk
   ·exact h'
theorem zso {α:Type} (vo:Int→α) (p:α→Bool) (met:Int→Bool):∀(o:List Int),(∀i∈o,met i=false→p (vo i)=false)→(o.map vo).filter p=((o.filter met).map vo).filter p
 | [],_=>rfl
 | i::o,h=>by
  have ih:=zso vo p met o fun j hj=>h j (List.mem_cons_of_mem _ hj)
  rw [List.map_cons,List.filter_cons,List.filter_cons]
  cases hm:met i
  ·rw [h i List.mem_cons_self hm,if_neg (by simp),if_neg (by simp),ih]
  ·rw [if_pos rfl,List.map_cons,List.filter_cons,ih]
def zlV (f:Fld) (L:List Vw):List Vw:=if f.Repeated=true then L else L.drop (L.length - 1)
theorem zqs (b:List UInt8) (f:Fld) (L:List Vw):(zlV f L).map (thOf b)=zfg f (L.map (thOf b)):=by
 unfold zlV zfg
 split
 ·rfl
 ·rw [List.map_drop,List.length_map]
theorem zBb {f:Fld} {L:List Vw}:∀v∈zlV f L,v∈L:=fun v hv=>by
 unfold zlV at hv
 split at hv
 ·exact hv
 ·exact List.mem_of_mem_drop hv
theorem zBa (f:Fld) (L:List Vw):(zlV f L).length≤L.length:=by
 unfold zlV
 split
 ·exact Nat.le_refl _
 ·rw [List.length_drop];omega
theorem zvF:∀(T:List Th),(T.flatMap (·.val)).length+T.length≤wt T
 | []=>by simp [wt]
 | t::T=>by have:=zvF T;rw [List.flatMap_cons,List.length_append,List.length_cons,wt];omega
theorem ztH (k:Int):∀(T:List Th),(T.flatMap fun t=>(zbs k t.val).1).length≤wt T
 | []=>by simp [wt]
 | t::T=>by have:=ztH k T;have:=zqM k t.val;rw [List.flatMap_cons,List.length_append,wt];omega
theorem zAn (f:Fld) (T:List Th):wt (zfg f T)≤wt T:=by
 unfold zfg
 split
 ·exact Nat.le_refl _
 ·have:∀(T:List Th) (k:Nat),wt (T.drop k)≤wt T:=fun T=>by
   induction T with
   | nil=>intro k;simp
   | cons t T ih=>
    intro k
    cases k with
    | zero=>simp
    | succ k=>have:=ih k;rw [List.drop_succ_cons,wt];omega
  exact this T _
theorem zDC {rec1:List zh→Int→List UInt8→Option ze} {rec2:List zh→Fld→List UInt8→List PVw→Option (List ze)} {rec3:List zh→Fld→List UInt8→List PVw→Option zb}
  {g:Int→List UInt8→Msg} {s:List Mes} {f:Fld} {b:List UInt8} {L:List Vw} (hat:At14 b L) (hne:L≠[]) (hw:wt (L.map (thOf b))≤1048576)
  (hg1:f.Repeated=true→∀t∈L,rec1 s f.Of (valB b t.R)=some (g f.Of (valB b t.R))) (hg2:f.Repeated=false→rec1 s f.Of ((L.map (thOf b)).flatMap (·.val))=some (g f.Of ((L.map (thOf b)).flatMap (·.val)))):
  zhc rec1 rec2 rec3 s f b (L.map prV)=some (if f.Repeated=true then (L.map (thOf b)).map fun t=>g f.Of t.val else [g f.Of ((L.map (thOf b)).flatMap (·.val))]):=by
 have hL:L.length≤1048576:=by have:=znp (L.map (thOf b));rw [List.length_map] at this;omega
 have hfl:((L.map fun t=>valB b t.R).flatten)=(L.map (thOf b)).flatMap (·.val):=by
  rw [List.flatMap_map,List.flatMap_def];rfl
 have hflen:=zvF (L.map (thOf b))
 unfold zhc
 rw [zql (a:=L.length) (by simp) (Int.le_refl _) (by simp;omega),sb,zxY hL hat,sb]
 cases hr:f.Repeated
 ·by_cases h1:1<L.length
  ·rw [itT (by simp;omega),zAF (by simp;omega) (by rw [hfl];omega),sb,sb,zql (bytes:=48) (a:=1) (by simp) (Int.le_refl _) (by simp),sb]
   have h:=zqB (rec:=rec1) (g:=g) (s:=s) (f:=f) (p:=[(L.map fun t=>valB b t.R).flatten]) (by simp) (fun v hv=>by
    simp only [List.mem_cons,List.not_mem_nil,or_false] at hv
    rw [hv,hfl];exact hg2 hr)
   have h':zfa f [(L.map fun t=>valB b t.R).flatten] rec1 s (List.replicate 1 ⟨[],[]⟩) 0=_:=h
   rw [h',sb,if_neg (by simp),List.map_singleton,hfl]
  ·have hl1:L.length=1:=by
    have:L.length≠0:=fun e=>hne (List.eq_nil_of_length_eq_zero e)
    omega
   obtain ⟨t,rfl⟩:=List.length_eq_one_iff.1 hl1
   rw [itF (by simp),sb,zql (bytes:=48) (a:=1) (by simp) (Int.le_refl _) (by simp),sb]
   have hv1:([t].map (thOf b)).flatMap (·.val)=valB b t.R:=by simp [thOf]
   have h:=zqB (rec:=rec1) (g:=g) (s:=s) (f:=f) (p:=[valB b t.R]) (by simp) (fun v hv=>by
    simp only [List.mem_cons,List.not_mem_nil,or_false] at hv
    rw [hv]
    have:=hg2 hr
    rw [hv1] at this;exact this)
   have h':zfa f (List.map (fun t=>valB b t.R) [t]) rec1 s (List.replicate 1 ⟨[],[]⟩) 0=_:=h
   rw [h',sb,if_neg (by simp),hv1,List.map_singleton]
 ·rw [itF (by rfl),sb,zql (a:=L.length) (by simp) (Int.le_refl _) (by simp;omega),sb]
  have h:=zqB (rec:=rec1) (g:=g) (s:=s) (f:=f) (p:=L.map fun t=>valB b t.R) (by simpa using hL) (fun v hv=>by
   obtain ⟨t,ht,rfl⟩:=List.mem_map.1 hv
   exact hg1 hr t ht)
  rw [List.length_map] at h
  rw [h,sb,if_pos rfl,List.map_map,List.map_map]
  rfl
theorem zBx {rec1:List zh→Int→List UInt8→Option ze} {rec2:List zh→Fld→List UInt8→List PVw→Option (List ze)} {rec3:List zh→Fld→List UInt8→List PVw→Option zb}
  {g:Int→List UInt8→Msg} {s:List Mes} {f:Fld} {b:List UInt8} (hb:b.length≤1048576) {L:List Vw} (hat:At14 b L) (hne:L≠[]) (hw:wt (L.map (thOf b))≤1048576)
  (h2:f.Kind=17→rec2 s f b (L.map prV)=some (if f.Repeated=true then (L.map (thOf b)).map fun t=>g f.Of t.val else [g f.Of ((L.map (thOf b)).flatMap (·.val))])):
  zgD rec1 rec2 rec3 s f b (L.map prV)=some (valT g f (L.map (thOf b))):=by
 have hL:L.length≤1048576:=by have:=znp (L.map (thOf b));rw [List.length_map] at this;omega
 have hl0:L.length≠0:=fun e=>hne (List.eq_nil_of_length_eq_zero e)
 unfold zgD valT
 by_cases h17:f.Kind=17
 ·rw [itF (by simp [h17]),sb,itT (by simp [h17]),h2 h17,sb,if_pos h17]
 ·have hp:(if ((!f.Repeated)&&(f.Kind !=17))=true then (cut (L.map prV) (IntKind.i64.wrap (((L.map prV).length:Int) - 1)) ((L.map prV).length:Int)>>=fun v2=>some v2) else some (L.map prV))=some ((zlV f L).map prV):=by
   unfold zlV
   cases hr:f.Repeated
   ·rw [itT (by simp [h17]),if_neg (by simp)]
    have hc:cut (L.map prV) (IntKind.i64.wrap (((L.map prV).length:Int) - 1)) ((L.map prV).length:Int)=some ((L.drop (L.length - 1)).map prV):=by
     rw [zfY (a:=L.length - 1) (b:=L.length) (by rw [List.length_map,zz (by omega)];omega) (by simp) (by omega) (by simp)]
     rw [List.map_drop,List.take_of_length_le (by simp)]
    rw [hc,sb]
   ·rw [itF (by rfl),if_pos rfl]
  rw [hp,sb,itF (by simp [h17]),if_neg h17]
  have hpw:=zAn f (L.map (thOf b))
  rw [←zqs] at hpw
  have hpl:=zBa f L
  have hpa:At14 b (zlV f L):=fun v hv=>hat v (zBb v hv)
  by_cases hx:f.Kind=15∨f.Kind=16
  ·have hk:(if (f.Kind==15)=true then some (f.Kind==15) else some (f.Kind==16))=some true:=by
    rcases hx with h| h
    ·rw [itT (by simp [h])];simp [h]
    ·rw [itF (by simp [h])];simp [h]
   rw [hk,sb,itT rfl,zDy (by omega) hpa,sb,if_pos hx,←zqs,List.map_map]
   rfl
  ·have hk:(if (f.Kind==15)=true then some (f.Kind==15) else some (f.Kind==16))=some false:=by
    rw [itF (by simp;omega)];simp;omega
   have hfm:((zlV f L).flatMap fun t=>(zbs f.Kind (valB b t.R)).1)=((zlV f L).map (thOf b)).flatMap fun t=>(zbs f.Kind t.val).1:=by rw [List.flatMap_map];rfl
   have hwl:=ztH f.Kind ((zlV f L).map (thOf b))
   rw [hk,sb,itF rfl,zBy hb (by omega) hpa (by rw [hfm];omega),sb,if_neg hx,←zqs,hfm]
theorem zsq {s:List Mes} {e:Nat} {k:Int}:∀(l:List (List UInt8)),(∀v∈l,zaf s e k v=none)→zaf s e k l.flatten=none
 | [],_=>by rw [List.flatten_nil];exact zqS s e k
 | v::l,h=>by
  rw [List.flatten_cons]
  exact (zoY s e k l.flatten (h v List.mem_cons_self)).2 (zsq l fun u hu=>h u (List.mem_cons_of_mem _ hu))
theorem zvc (p:Th→Bool):∀(T:List Th),wt (T.filter p)≤wt T
 | []=>by simp
 | t::T=>by
  have:=zvc p T
  rw [List.filter_cons]
  split
  ·rw [wt,wt];omega
  ·rw [wt];omega
theorem zkL {rec3:List zh→Fld→List UInt8→List PVw→Option zb} {s:List Mes} {m:Mes} {b:List UInt8} {q:List (Int×List PVw)×List Str} {V:Int→Vlu} {ks:List Int} (hks:ks.length≤1048576)
  (hrow:∀n∈ks,∃(x:PVw) (f:Fld),idx ((mget q.1 n).getD []) 0=some x∧idx m.Fields x.Field=some f∧rec3 s f b ((mget q.1 n).getD [])=some (V n)∧(V n).Words.length≤1048576∧(V n).Texts.length≤1048576∧(V n).Subs.length≤1048577):
  ∀(c i:Nat) (out:List Vlu),i+c=ks.length→out.length≤i→zeK b q rec3 s ks m i out=some (out++((ks.drop i).map V).filter fun v=>decide (0<zgf v))
 | 0,i,out,hi,_=>by
  have e:ks.drop i=[]:=List.drop_eq_nil_of_le (by omega)
  rw [e]
  refine znZ ?_
  unfold zbN
  rw [itF (by simp;omega)]
  simp
 | c+1,i,out,hi,ho=>by
  have hil:i<ks.length:=by omega
  obtain ⟨x,f,h1,h2,h3,h4,h5,h6⟩:=hrow _ (List.getElem_mem hil)
  rw [List.drop_eq_getElem_cons hil,List.map_cons,List.filter_cons]
  have hx:idx ks (i:Int)=some ks[i]:=zZ rfl hil
  have hw:IntKind.i64.wrap ((i:Int)+1)=((i+1:Nat):Int):=by rw [zz (by omega)];push_cast;rfl
  by_cases hp:0<zgf (V ks[i])
  ·rw [if_pos (by simpa using hp)]
   refine (ziP (v6':=((i+1:Nat):Int)) (f3':=out++[V ks[i]]) ?_).trans ?_
   ·unfold zbN
    rw [itT (by simp;omega),hx,sb,h1,sb,h2,sb,h3,sb,zuZ ⟨by omega,by omega,by omega⟩,sb,itT (by simpa using hp),zdp (by simp only [List.length_singleton];omega),sb,hw]
   ·rw [zkL hks hrow c (i+1) _ (by omega) (by simp;omega),List.append_assoc];rfl
  ·rw [if_neg (by simpa using hp)]
   refine (ziP (v6':=((i+1:Nat):Int)) (f3':=out) ?_).trans (zkL hks hrow c (i+1) out (by omega) (by omega))
   unfold zbN
   rw [itT (by simp;omega),hx,sb,h1,sb,h2,sb,h3,sb,zuZ ⟨by omega,by omega,by omega⟩,sb,itF (by simpa using hp),hw]
theorem zDE (g:Int→List UInt8→Msg) (f:Fld) {T:List Th} (h:wt T≤1048576):(valT g f T).Words.length≤1048576∧(valT g f T).Texts.length≤1048576∧(valT g f T).Subs.length≤1048577:=by
 have h1:=zAn f T
 have h2:=znp (zfg f T)
 have h3:=ztH f.Kind (zfg f T)
 have h4:=znp T
 unfold valT
 split
 ·refine ⟨by simp,by simp,?_⟩
  simp only
  split
  ·rw [List.length_map];omega
  ·simp
 ·split
  ·refine ⟨by simp,?_,by simp⟩
   simp only [List.length_map];omega
  ·exact ⟨by simp only;omega,by simp,by simp⟩
theorem ztt {s:List Mes} (hs:zgR s) {d n k:Nat} {b:List UInt8} (hk:k<s.length) (hb:b.length≤1048576) (hfi:zaf s d k b=none)
  (hrec:∀e,d=e+1→∀(k':Nat) (v:List UInt8),k'<s.length→v.length≤1048576→zaf s e k' v=none→zef n s k' v=some (ofM s k' v)):zef (n+3) s k b=some (ofM s k b):=by
 have hm:idx s (k:Int)=some (zY s k):=by rw [zZ rfl hk,zfJ hk]
 have hmm:zY s (k:Int)∈s:=by rw [zfJ hk];exact List.getElem_mem hk
 have hfew:=hs.few _ hmm
 have hfld:=hs.fld _ hmm
 have hok:=zFl hfi
 have hwt:=zqD (zY s k) b
 have hris:=zpz hs hmm
 have hat9:=fun {i:Int} (h0:0≤i) (h1:i<(zY s (k:Int)).Fields.length)=>zrC hs hmm h0 h1
 rw [zyV]
 -- views
 have hvk:∀v∈(zdz (zY s (k:Int)) b).1,v.Field= -1∨0≤v.Field∧v.Field<(zY s (k:Int)).Fields.length∧fldI (zY s (k:Int)) v.R.Number=v.Field∧(zV (zY s (k:Int)) v.Field).Number=v.R.Number:=by
  intro v hv
  have h:=(zEO hv).2
  rcases zft (zY s (k:Int)) v.R.Number v.R.Wire with h1| ⟨h1,_⟩| ⟨i,run,h1,h2,h3⟩
  ·rw [h] at h1;cases h1
  ·rw [h] at h1
   simp only [Sum.inr.injEq,Prod.mk.injEq] at h1
   exact .inl h1.1
  ·rw [h] at h1
   simp only [Sum.inr.injEq,Prod.mk.injEq] at h1
   refine .inr ⟨by omega,by omega,by rw [h2,h1.1],?_⟩
   rcases zjm (zY s (k:Int)) v.R.Number with ⟨g1,_⟩| ⟨j,hj,g1,g2,_⟩
   ·omega
   ·rw [h1.1,←h2,g1,zdX hj,g2]
 have hat:At14 b (zdz (zY s (k:Int)) b).1:=fun t ht=>zwD ht
 have hL:(zdz (zY s (k:Int)) b).1.length≤1048576:=Nat.le_trans (zEN _ _) hb
 have hths:ths (zY s (k:Int)) b=(zdz (zY s (k:Int)) b).1.map (thOf b):=rfl
 have hall:=zER (m:=zY s (k:Int)) (by omega) hb
 rw [hths] at hok hwt⊢
 generalize zY s (k:Int)=m at hm hmm hfew hfld hok hwt hris hat9 hvk hat hL hall⊢
 show zgr (zef (n+2)) (znO (n+2)) (zhW (n+2)) s k b=_
 unfold zgr
 rw [hm,sb,hall,sb]
 generalize (zdz m b).2.1=c1
 generalize (zdz m b).2.2=c2
 generalize (zdz m b).1=L at hok hwt hvk hat hL⊢
 have hl1:=zvD hL hat (fun v hv=>(hvk v hv).imp id fun h=>h.1) (c1,c2) L [] rfl
 have hl1':zeJ b (L.map prV,c1,c2) [] 0 []=_:=hl1
 obtain ⟨ks,hks,hkp,hkm⟩:=zxp (L:=L) (fun v hv hf=>by
  obtain ⟨h0,h1,_,h3⟩:=(hvk v hv).resolve_left hf
  obtain ⟨i,hi⟩:∃i:Nat,v.Field=i:=⟨v.Field.toNat,by omega⟩
  have hil:i<m.Fields.length:=by omega
  rw [hi,zdX hil] at h3
  have hfo:=hfld _ (List.getElem_mem hil)
  have:=hfo.lo
  have:=hfo.hi
  exact zCm (by omega)) hL
 rw [hl1',sb,hks,sb]
 have hrowis:∀n,(mget (L.foldl kn14 []) n).getD []=(zfi L n).map prV:=fun n=>by rw [zyL n L []];rfl
 let vo:Int→Vlu:=fun i=>valO (ofM s) (zV m i) (accF (ofM s) (zV m i) i acc0 (L.map (thOf b)))
 -- a field's views
 have hby:∀{i:Int},0≤i→i<m.Fields.length→(zfi L (zV m i).Number).map (thOf b)=(L.map (thOf b)).filter fun t=>t.fi==i:=fun {i} h0 h1=>by
  unfold zfi
  rw [List.filter_map]
  congr 1
  refine List.filter_congr fun v hv=>?_
  show decide (v.Field≠ -1∧v.R.Number=(zV m i).Number)=(v.Field==i)
  rw [Bool.eq_iff_iff,decide_eq_true_iff,beq_iff_eq]
  constructor
  ·rintro ⟨g1,g2⟩
   obtain ⟨_,_,g3,_⟩:=(hvk v hv).resolve_left g1
   rw [←g3,g2,hat9 h0 h1]
  ·intro g
   have g1:v.Field≠ -1:=by omega
   obtain ⟨_,_,_,g4⟩:=(hvk v hv).resolve_left g1
   exact ⟨g1,by rw [←g4,g]⟩
 have hvoT:∀{i:Int},0≤i→i<m.Fields.length→zfi L (zV m i).Number≠[]→vo i=valT (ofM s) (zV m i) ((zfi L (zV m i).Number).map (thOf b))∧∀t∈(zfi L (zV m i).Number).map (thOf b),OkF (zV m i) t∧OkT s d m t∧t.fi=i:=fun {i} h0 h1 hne=>by
  have hT:=hby h0 h1
  have hmem:∀t∈(zfi L (zV m i).Number).map (thOf b),OkF (zV m i) t∧OkT s d m t∧t.fi=i:=fun t ht=>by
   rw [hT,List.mem_filter] at ht
   have hfi':t.fi=i:=by simpa using ht.2
   have ho:=hok t ht.1
   refine ⟨⟨fun hr=>?_,fun hr=>?_⟩,ho,hfi'⟩
   ·have:=ho.run (by omega) hr
    rw [hfi'] at this;exact ⟨this.1,this.2.1⟩
   ·have:=ho.one (by omega) hr
    rw [hfi'] at this;exact ⟨this.1,this.2.1⟩
  refine ⟨?_,hmem⟩
  obtain ⟨j,rfl⟩:∃j:Nat,i=j:=⟨i.toNat,by omega⟩
  have hjl:j<m.Fields.length:=by omega
  have hkr:zbT (zV m (j:Int)).Kind=true:=by rw [zdX hjl];exact (hfld _ (List.getElem_mem hjl)).kind
  show valO _ _ (accF _ _ _ _ _)=_
  rw [zkb,←hT,zFZ _ hkr (by simpa using hne) fun t ht=>(hmem t ht).1]
 have hkn:∀n∈ks,∃i:Int,0≤i∧i<m.Fields.length∧(zV m i).Number=n∧fldI m n=i∧zfi L n≠[]∧∀v∈zfi L n,v.Field=i:=fun n hn=>by
  obtain ⟨v,hv,hf,hnn⟩:=(hkm n).1 hn
  obtain ⟨g0,g1,g2,g3⟩:=(hvk v hv).resolve_left hf
  refine ⟨v.Field,g0,g1,by rw [g3,hnn],by rw [←hnn,g2],fun e=>?_,fun u hu=>?_⟩
  ·have:v∈zfi L n:=List.mem_filter.2 ⟨hv,by simp [hf,hnn]⟩
   rw [e] at this;cases this
  ·obtain ⟨hu1,hu2⟩:=List.mem_filter.1 hu
   obtain ⟨hu3,hu4⟩:=of_decide_eq_true hu2
   obtain ⟨_,_,q2,_⟩:=(hvk u hu1).resolve_left hu3
   rw [←q2,hu4,←hnn,g2]
 have hkl:ks.length≤1048576:=by
  have hlen:ks.length=(L.foldl kn14 []).length:=by
   unfold zpb at hks
   split at hks
   ·cases hks;simp
   ·cases hks
  have:=zyM L []
  rw [List.length_nil] at this
  omega
 have hl2:=zkL (rec3:=zhW (n+2)) (s:=s) (m:=m) (b:=b) (q:=(L.foldl kn14 [],unkO (L.map (thOf b)))) (V:=fun w=>vo (fldI m w)) hkl (fun w hn=>by
  obtain ⟨i,h0,h1,h2,h3,h4,h5⟩:=hkn w hn
  have hwf:=zvc (fun t=>t.fi==i) (L.map (thOf b))
  rw [←hby h0 h1,h2] at hwf
  have hw':wt ((zfi L w).map (thOf b))≤1048576:=by omega
  obtain ⟨v0,r0,hv0⟩:=List.exists_cons_of_ne_nil h4
  obtain ⟨j,hj⟩:∃j:Nat,i=j:=⟨i.toNat,by omega⟩
  have hjl:j<m.Fields.length:=by omega
  have hfj:idx m.Fields i=some (zV m i):=by rw [hj,zZ rfl hjl,zdX hjl]
  have hfm:zV m i∈m.Fields:=by rw [hj,zdX hjl];exact List.getElem_mem hjl
  have hv0m:v0∈zfi L w:=by rw [hv0];exact List.mem_cons_self
  have hv0f:v0.Field=i:=h5 v0 hv0m
  have hvT:=hvoT h0 h1 (by rw [h2];exact h4)
  rw [h2] at hvT
  have hbat:At14 b (zfi L w):=fun v hv=>hat v (List.mem_filter.1 hv).1
  have hlen:=zDE (ofM s) (zV m i) hw'
  rw [←hvT.1] at hlen
  refine ⟨prV v0,zV m i,?_,?_,?_,by rw [h3];exact hlen⟩
  ·rw [hrowis,hv0];rfl
  ·have:(prV v0).Field=v0.Field:=rfl
   rw [this,hv0f];exact hfj
  ·rw [hrowis,h3,hvT.1]
   show zgD (zef (n+1)) (znO (n+1)) (zhW (n+1)) s (zV m i) b _=_
   refine zBx hb hbat h4 hw' fun h17=>?_
   show zhc (zef n) (znO n) (zhW n) s (zV m i) b _=_
   have hof:=(hfld _ hfm).sub h17
   obtain ⟨k',hk'⟩:∃k':Nat,(zV m i).Of=k':=⟨(zV m i).Of.toNat,by omega⟩
   have hone:∀t∈zfi L w,∃e,d=e+1∧zaf s e (zV m i).Of (valB b t.R)=none:=fun t ht=>by
    obtain ⟨o1,o2,o3⟩:=hvT.2 _ (List.mem_map_of_mem (f:=thOf b) ht)
    have hr:(thOf b t).run=false:=by
     cases hr:(thOf b t).run
     ·rfl
     ·have:=(o1.1 hr).1;rw [h17] at this;cases this
    have:=(o2.one (by omega) hr).2.2.2
    rw [o3] at this
    exact this h17
   refine zDC hbat h4 hw' (fun hr t ht=>?_) (fun hr=>?_)
   ·obtain ⟨e,he,hfe⟩:=hone t ht
    have hvl:=ztJ (List.mem_map_of_mem (f:=thOf b) ht)
    have hvl':(valB b t.R).length+1≤wt ((zfi L w).map (thOf b)):=hvl
    rw [hk'] at hfe⊢
    exact hrec e he k' _ (by omega) (by omega) hfe
   ·obtain ⟨e,he,_⟩:=hone v0 hv0m
    have hfl:=zvF ((zfi L w).map (thOf b))
    have hff:zaf s e (zV m i).Of (((zfi L w).map (thOf b)).flatMap (·.val))=none:=by
     rw [List.flatMap_def]
     refine zsq _ fun v hv=>?_
     obtain ⟨t',ht',rfl⟩:=List.mem_map.1 hv
     obtain ⟨t,ht,rfl⟩:=List.mem_map.1 ht'
     obtain ⟨e',he',hfe⟩:=hone t ht
     have:e'=e:=by omega
     rw [←this];exact hfe
    rw [hk'] at hff⊢
    exact hrec e he k' _ (by omega) (by omega) hff) ks.length 0 [] (Nat.zero_add _) (Nat.le_refl _)
 have hl2':zeK b (L.foldl kn14 [],unkO (L.map (thOf b))) (zhW (n+2)) s ks m 0 []=_:=hl2
 rw [hl2',sb,List.drop_zero,List.nil_append]
 have hfin:((ks.map fun w=>vo (fldI m w)).filter fun v=>decide (0<zgf v))=zmc (ofM s) m (L.map (thOf b)) (zcj (zbt m) m.Fields.length):=by
  show _=(((zcj (zbt m) m.Fields.length).map vo).filter fun v=>decide (0<zgf v))
  rw [zso vo (fun v=>decide (0<zgf v)) (fun i=> !(zfi L (zV m i).Number).isEmpty) _ fun i hi hme=>?_]
  ·have hsub:∀i∈(zcj (zbt m) m.Fields.length).filter (fun i=> !(zfi L (zV m i).Number).isEmpty),0≤i∧i<m.Fields.length:=fun i hi=>zeI.1 (List.mem_filter.1 hi).1
   have hks2:((zcj (zbt m) m.Fields.length).filter (fun i=> !(zfi L (zV m i).Number).isEmpty)).map (zbt m)=ks:=by
    refine zrf _ _ ?_ hkp fun w=>?_
    ·rw [List.pairwise_map]
     exact hris.filter _
    ·rw [List.mem_map]
     constructor
     ·rintro ⟨i,hi,rfl⟩
      obtain ⟨hi1,hi2⟩:=List.mem_filter.1 hi
      have hne:zfi L (zV m i).Number≠[]:=by
       intro e;rw [e] at hi2;simp at hi2
      obtain ⟨v0,r0,hv0⟩:=List.exists_cons_of_ne_nil hne
      have hv0m:v0∈zfi L (zV m i).Number:=by rw [hv0];exact List.mem_cons_self
      obtain ⟨q1,q2⟩:=List.mem_filter.1 hv0m
      obtain ⟨q3,q4⟩:=of_decide_eq_true q2
      exact (hkm _).2 ⟨v0,q1,q3,q4⟩
     ·intro hw
      obtain ⟨i,h0,h1,h2,h3,h4,_⟩:=hkn w hw
      exact ⟨i,List.mem_filter.2 ⟨zeI.2 ⟨h0,h1⟩,by rw [h2];simpa using h4⟩,h2⟩
   have e1:(ks.map fun w=>vo (fldI m w))=((zcj (zbt m) m.Fields.length).filter (fun i=> !(zfi L (zV m i).Number).isEmpty)).map vo:=by
    rw [←hks2,List.map_map]
    refine List.map_congr_left fun i hi=>?_
    show vo (fldI m (zbt m i))=vo i
    rw [zmP,hat9 (hsub i hi).1 (hsub i hi).2]
   rw [e1]
  ·obtain ⟨h0,h1⟩:=zeI.1 hi
   have hbe:zfi L (zV m i).Number=[]:=by simpa using hme
   have hT:=hby h0 h1
   rw [hbe] at hT
   have hvo:vo i=valO (ofM s) (zV m i) acc0:=by
    show valO _ _ (accF _ _ _ _ _)=_
    rw [zkb,←hT];rfl
   rw [hvo]
   rfl
 rw [hfin]
 rfl
theorem zDz {s:List Mes} (hs:zgR s):∀(d fuel k:Nat) (b:List UInt8),k<s.length→b.length≤1048576→3*d+3≤fuel→zaf s d k b=none→zef fuel s k b=some (ofM s k b):=by
 intro d
 induction d with
 | zero=>
  intro fuel k b hk hb hf hfi
  obtain ⟨n,rfl⟩:∃n,fuel=n+3:=⟨fuel - 3,by omega⟩
  exact ztt hs hk hb hfi fun e he=>by omega
 | succ d ih=>
  intro fuel k b hk hb hf hfi
  obtain ⟨n,rfl⟩:∃n,fuel=n+3:=⟨fuel - 3,by omega⟩
  exact ztt hs hk hb hfi fun e he k' v h1 h2 h3=>by
   have:e=d:=by omega
   subst this
   exact ih n k' v h1 h2 (by omega) h3
theorem zDA {fuel:Nat} {s:List Mes} (root:Int) {b:List UInt8} (d:Int) (hf:300≤fuel) (hw:WS s) (hb:b.length≤1048576):ziY fuel s root b d=some (treeOf s root b d):=by
 unfold ziY treeOf
 rw [zBD hw root hb d (by omega),sb]
 by_cases h0:(zdB s root b d).2=0
 ·have h0':¬(zdB s root b d).2≠0:=fun h=>h h0
  obtain ⟨hr,g1,g2,g3,g4⟩:=znq (zoR h0)
  obtain ⟨k,rfl⟩:∃k:Nat,root=k:=⟨root.toNat,by omega⟩
  have hfi:zaf s d.toNat k b=none:=(zsw.1 (by unfold is11;simpa using h0)).2
  rw [itF (by simpa using h0),if_neg h0',zDz hr d.toNat fuel k b (by omega) hb (by omega) hfi,sb]
 ·rw [itT (by simpa using h0),if_pos h0]
end Go.Proofs.YtcbkcblkecmjnaaGreat
