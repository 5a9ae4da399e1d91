/-
  What the plain functions are. No condition.
-/
import Derived.Test.YtcbkcblkecmjnaaGreatx2P1
import Derived.Test.YtcbkcblkecmjnaaGreatx2S1
import Derived.Test.YtcbkcblkecmjnaaGreatx2K2
namespace Go.Proofs.YtcbkcblkecmjnaaGreat
open Go
set_option linter.unusedVariables false
def lt7 (c:UInt8):Bool:=decide (97≤c.toNat∧c.toNat≤122∨65≤c.toNat∧c.toNat≤90∨c.toNat=95)
def dg7 (c:UInt8):Bool:=decide (48≤c.toNat∧c.toNat≤57)
theorem zuY (c:UInt8):zgD (c.toNat:Int)=some (dg7 c):=by
 unfold zgD dg7
 congr 1
 rw [Bool.eq_iff_iff]
 simp
 omega
theorem zzP (c:UInt8):zhb (c.toNat:Int)=some (lt7 c):=by
 unfold zhb lt7
 congr 1
 by_cases h1:(c.toNat:Int)≥97<;>by_cases h2:(c.toNat:Int)≥65<;>simp only [h1,h2,decide_true,decide_false,if_true,if_false,Bool.false_eq_true]<;>rw [Bool.eq_iff_iff]<;>simp<;>omega
theorem zzQ (s:List UInt8) (hs:s.length≤1152921504606846976):∀(l:List UInt8) (i:Nat),s.drop i=l→zfr s i=some (if (l.all fun c=>lt7 c|| dg7 c)=true then .inl () else .inr ()):=by
 intro l
 induction l with
 | nil=>
  intro i hd
  have:=ziS hd
  refine zkG ?_
  unfold zcp
  rw [itF (by simp;omega)]
  rfl
 | cons c l ih=>
  intro i hd
  obtain ⟨hi,hc,hd'⟩:=zhD hd
  have hb:zcp s i=if (lt7 c|| dg7 c)=true then some (.inl ((i+1:Nat):Int)) else some (.inr (.inr ())):=by
   unfold zcp
   rw [itT (by simp;omega),zR rfl hi,sb,hc,zzP,sb,sb,zuY,zD (by omega)]
   cases lt7 c<;>cases dg7 c<;>rfl
  rw [List.all_cons]
  cases hk:(lt7 c|| dg7 c) with
  | false=>
   rw [hk] at hb
   rw [zkG hb]
   rfl
  | true=>
   rw [hk] at hb
   rw [zpD hb,ih _ hd',Bool.true_and]
theorem zCK:∀(l:List UInt8) (i:Nat),0<i→nmA i l=l.all fun c=>lt7 c|| dg7 c
 | [],_,_=>rfl
 | c::l,i,h=>by
  rw [nmA,zCK l (i+1) (by omega),List.all_cons]
  congr 1
  unfold nmc lt7 dg7
  rw [Bool.eq_iff_iff]
  simp
  omega
theorem zxc {s:List UInt8} (hs:s.length≤1152921504606846976):zhj s=some (zfM s):=by
 unfold zhj zfM
 have hl:=zzQ s hs s 0 rfl
 have hl':zfr s 0=_:=hl
 cases s with
 | nil=>rfl
 | cons c l=>
  rw [itF (by simp)]
  by_cases h60:((c::l).length:Int)>60
  ·rw [itT (by simpa using h60),sb,itT rfl]
   have:decide (1≤(c::l).length∧(c::l).length≤60)=false:=by simp only [decide_eq_false_iff_not];omega
   rw [this,Bool.and_false]
  ·have hd:decide (1≤(c::l).length∧(c::l).length≤60)=true:=by simp only [decide_eq_true_eq];refine ⟨by simp,by omega⟩
   have hc:idx (c::l) 0=some c:=by simp [idx]
   rw [itF (by simpa using h60),hc,sb,zuY,sb,sb,hd,Bool.and_true,hl',sb]
   have e:nmA 0 (c::l)=(lt7 c&&l.all fun c=>lt7 c|| dg7 c):=by
    rw [nmA,zCK l 1 (by omega)]
    congr 1
    unfold nmc lt7
    rw [Bool.eq_iff_iff]
    simp
    omega
   have hx:lt7 c=true→dg7 c=false:=by
    unfold lt7 dg7
    simp only [decide_eq_true_eq,decide_eq_false_iff_not]
    omega
   rw [e,List.all_cons]
   cases h1:lt7 c<;>cases h2:dg7 c<;>first| (rw [hx h1] at h2;cases h2;done)| skip
   ·rfl
   ·rfl
   ·cases l.all fun c=>lt7 c|| dg7 c<;>rfl
theorem zET {l:List Int} (hl:l.length≤1152921504606846976) (v:Int):zdI l v=some (zjP (fun x=>v==x) l):=by
 unfold zdI
 have h:=znr (fun x=>v==x) l (fun i=>zcq l v i) (zgE (by unfold zax;rw [itF (by simp)])) (fun i hi=>by
  by_cases hp:(v==l[i])=true
  ·rw [if_pos hp];exact zgE (by unfold zax;rw [itT (by simp;omega),zR rfl hi,sb,itT hp])
  ·rw [if_neg hp];exact zjZ (by unfold zax;rw [itT (by simp;omega),zR rfl hi,sb,itF (by simpa using hp),zD (by omega)];rfl)) l.length 0 (by omega) (fun j _ h=>by omega)
 have h':zcq l v 0=_:=h
 rw [h',sb]
 unfold zjP
 cases l.findIdx? (fun x=>v==x)<;>rfl
theorem zwo {α:Type} (p:α→Bool) (l:List α):decide (zjP p l≥0)=l.any p:=by
 cases h:l.findIdx? p with
 | none=>
  rw [zhE h]
  rw [List.findIdx?_eq_none_iff] at h
  symm
  rw [List.any_eq_false.2 fun x hx=>by simpa using h x hx]
  rfl
 | some i=>
  rw [zhF h]
  rw [List.findIdx?_eq_some_iff_getElem] at h
  obtain ⟨hi,hp,_⟩:=h
  symm
  rw [List.any_eq_true.2 ⟨l[i],List.getElem_mem hi,hp⟩]
  simp
theorem zzs {l:List Int} (hl:l.length≤1152921504606846976) (v:Int):zcR l v=some (l.any fun x=>v==x):=by
 unfold zcR
 rw [zET hl,sb,zwo]
def K17:List Int:=[1,2,3,4,5,6,7,8,9,10,11,12,13,14,15,16,17]
theorem zDz (k:Int):(K17.any fun x=>k==x)=zcM k:=by
 unfold zcM K17
 rw [Bool.eq_iff_iff]
 simp
 omega
def hasN (m:List (zr×Bool)) (i:Int) (n:Str):Bool:=(mget m (⟨i,n⟩:zr)).getD false
def hasU (m:List (zt×Bool)) (i:Int) (n:Int):Bool:=(mget m (⟨i,n⟩:zt)).getD false
theorem zns (m:List (zr×Bool)) (i j:Int) (n k:Str):hasN (mput m ⟨i,n⟩ true) j k=(decide (j=i∧k=n)|| hasN m j k):=by
 unfold hasN
 rw [zjT]
 by_cases h:j=i∧k=n
 ·obtain ⟨rfl,rfl⟩:=h;simp
 ·rw [if_neg (fun e=>h (by injection e with e1 e2;exact ⟨e1,e2⟩))];simp [h]
theorem zzK (m:List (zt×Bool)) (i j:Int) (n k:Int):hasU (mput m ⟨i,n⟩ true) j k=(decide (j=i∧k=n)|| hasU m j k):=by
 unfold hasU
 rw [zjT]
 by_cases h:j=i∧k=n
 ·obtain ⟨rfl,rfl⟩:=h;simp
 ·rw [if_neg (fun e=>h (by injection e with e1 e2;exact ⟨e1,e2⟩))];simp [h]
theorem zzR (n:Int):zhc n=some (decide ¬(n<1∨n>536870911∨(19000≤n∧n<20000))):=by
 unfold zhc
 congr 1
 rw [Bool.eq_iff_iff]
 simp
 omega
theorem zBz (f:Fld):zhL f=some (f.Repeated&&kNum f.Kind):=by
 unfold zhL
 rw [zvc]
 cases f.Repeated<;>rfl
theorem zFo (n:Int) (K:List Int) (nm:List (zr×Bool)) (nu:List (zt×Bool)) (f:Fld):zfE ⟨n,K,nm,nu⟩ f=some (decide ¬(f.Kind=17∧(f.Of<0∨f.Of≥n)∨f.Kind≠17∧f.Of≠0)):=by
 unfold zfE
 by_cases h:f.Kind=17
 ·rw [itT (by simpa using h)]
  congr 1
  rw [Bool.eq_iff_iff]
  simp [h]
 ·rw [itF (by simpa using h)]
  congr 1
  rw [Bool.eq_iff_iff]
  simp [h]
theorem zEL {n i:Int} {nm:List (zr×Bool)} {nu:List (zt×Bool)} {prev:List Fld} {f:Fld} (hf:f.Name.length≤1152921504606846976) (hN:hasN nm i f.Name=prev.any fun g=>g.Name==f.Name) (hU:hasU nu i f.Number=prev.any fun g=>g.Number==f.Number):
  zfD ⟨n,K17,nm,nu⟩ i f=some (zdo n prev f,if zdo n prev f=0 then (mput nm ⟨i,f.Name⟩ true,mput nu ⟨i,f.Number⟩ true) else (nm,nu)):=by
 unfold zfD
 rw [zxc hf,sb]
 have e1:(mget nm (⟨i,f.Name⟩:zr)).getD false=hasN nm i f.Name:=rfl
 have e2:(mget nu (⟨i,f.Number⟩:zt)).getD false=hasU nu i f.Number:=rfl
 simp only [e1,e2,hN,hU]
 have hz:∀(k:Int) (x y:List (zr×Bool)×List (zt×Bool)),k≠0→(if k=0 then x else y)=y:=fun k x y h=>if_neg h
 by_cases h1:zfM f.Name=false
 ·have hF:zdo n prev f=5:=by unfold zdo;rw [if_pos h1]
  rw [hF,hz 5 _ _ (by decide),itT (by rw [h1];rfl)]
 rw [itF (show (!zfM f.Name)=false by simpa using h1)]
 by_cases h2:(prev.any fun g=>g.Name==f.Name)=true
 ·have hF:zdo n prev f=6:=by unfold zdo;rw [if_neg h1,if_pos h2]
  rw [hF,hz 6 _ _ (by decide),itT h2]
 have h2':(prev.any fun g=>g.Name==f.Name)=false:=eq_false_of_ne_true h2
 rw [itF h2',zzR,sb]
 by_cases h3:f.Number<1∨f.Number>536870911∨(19000≤f.Number∧f.Number<20000)
 ·have hF:zdo n prev f=7:=by unfold zdo;rw [if_neg h1,if_neg h2,if_pos h3]
  rw [hF,hz 7 _ _ (by decide),itT (by rw [decide_eq_false (fun h=>h h3)];rfl)]
 rw [itF (by rw [decide_eq_true h3];rfl)]
 by_cases h4:(prev.any fun g=>g.Number==f.Number)=true
 ·have hF:zdo n prev f=8:=by unfold zdo;rw [if_neg h1,if_neg h2,if_neg h3,if_pos h4]
  rw [hF,hz 8 _ _ (by decide),itT h4]
 have h4':(prev.any fun g=>g.Number==f.Number)=false:=eq_false_of_ne_true h4
 rw [itF h4',zzs (by decide),sb,zDz]
 by_cases h5:zcM f.Kind=false
 ·have hF:zdo n prev f=9:=by unfold zdo;rw [if_neg h1,if_neg h2,if_neg h3,if_neg h4,if_pos h5]
  rw [hF,hz 9 _ _ (by decide),itT (by rw [h5];rfl)]
 rw [itF (show (!zcM f.Kind)=false by simpa using h5),zBz]
 have hg:(if f.Packed=true then (some (f.Repeated&&kNum f.Kind)>>=fun rv4=>some (!rv4)) else some false)=some (decide (f.Packed=true∧¬(f.Repeated=true∧kNum f.Kind=true))):=by
  cases f.Packed<;>cases f.Repeated<;>cases kNum f.Kind<;>rfl
 rw [hg,sb]
 by_cases h6:f.Packed=true∧¬(f.Repeated=true∧kNum f.Kind=true)
 ·have hF:zdo n prev f=10:=by unfold zdo;rw [if_neg h1,if_neg h2,if_neg h3,if_neg h4,if_neg h5,if_pos h6]
  rw [hF,hz 10 _ _ (by decide),itT (decide_eq_true h6)]
 rw [itF (decide_eq_false h6),zFo,sb]
 by_cases h7:f.Kind=17∧(f.Of<0∨f.Of≥n)∨f.Kind≠17∧f.Of≠0
 ·have hF:zdo n prev f=11:=by unfold zdo;rw [if_neg h1,if_neg h2,if_neg h3,if_neg h4,if_neg h5,if_neg h6,if_pos h7]
  rw [hF,hz 11 _ _ (by decide),itT (by rw [decide_eq_false (fun h=>h h7)];rfl)]
 have hF:zdo n prev f=0:=by unfold zdo;rw [if_neg h1,if_neg h2,if_neg h3,if_neg h4,if_neg h5,if_neg h6,if_neg h7]
 rw [hF,if_pos rfl,itF (by rw [decide_eq_true h7];rfl)]
theorem zBA {n:Int} {nm:List (zr×Bool)} {nu:List (zt×Bool)} {prev:List Mes} {m:Mes} (hm:m.Name.length≤1152921504606846976) (hN:hasN nm (-1) m.Name=prev.any fun g=>g.Name==m.Name):
  zeH ⟨n,K17,nm,nu⟩ m=some (if zfM m.Name=false then (2,nm,nu) else if (prev.any fun g=>g.Name==m.Name)=true then (3,nm,nu) else if 200<m.Fields.length then (4,nm,nu) else (0,mput nm ⟨-1,m.Name⟩ true,nu)):=by
 unfold zeH
 rw [zxc hm,sb]
 have e1:(mget nm (⟨(-1),m.Name⟩:zr)).getD false=hasN nm (-1) m.Name:=rfl
 simp only [e1,hN]
 by_cases h1:zfM m.Name=false
 ·rw [if_pos h1,itT (show (!zfM m.Name)=true by rw [h1];rfl)]
 rw [if_neg h1,itF (show (!zfM m.Name)=false by simpa using h1)]
 by_cases h2:(prev.any fun g=>g.Name==m.Name)=true
 ·rw [if_pos h2,itT h2]
 have h2':(prev.any fun g=>g.Name==m.Name)=false:=eq_false_of_ne_true h2
 rw [if_neg h2,itF h2']
 by_cases h3:200<m.Fields.length
 ·rw [if_pos h3,itT (show decide ((m.Fields.length:Int)>200)=true by simp;omega)]
 rw [if_neg h3,itF (show decide ((m.Fields.length:Int)>200)=false by simp;omega)]
structure Met (nm:List (zr×Bool)) (nu:List (zt×Bool)) (i:Nat) (prev:List Mes) (p:List Fld):Prop where
 mes:∀n,hasN nm (-1) n=prev.any fun g=>g.Name==n
 nam:∀n,hasN nm i n=p.any fun g=>g.Name==n
 num:∀n,hasU nu i n=p.any fun g=>g.Number==n
 later:∀(j:Nat) n,i<j→hasN nm j n=false
 laterU:∀(j:Nat) n,i<j→hasU nu j n=false
theorem Met.step {nm:List (zr×Bool)} {nu:List (zt×Bool)} {i:Nat} {prev:List Mes} {p:List Fld} (h:Met nm nu i prev p) (f:Fld):Met (mput nm ⟨i,f.Name⟩ true) (mput nu ⟨i,f.Number⟩ true) i prev (p++[f]):=by
 refine ⟨fun n=>?_,fun n=>?_,fun n=>?_,fun j n hj=>?_,fun j n hj=>?_⟩
 ·rw [zns,h.mes,decide_eq_false (by omega),Bool.false_or]
 ·rw [zns,h.nam,List.any_append,Bool.or_comm]
  congr 1
  simp only [List.any_cons,List.any_nil,Bool.or_false]
  rw [Bool.eq_iff_iff];simp;exact eq_comm
 ·rw [zzK,h.num,List.any_append,Bool.or_comm]
  congr 1
  simp only [List.any_cons,List.any_nil,Bool.or_false]
  rw [Bool.eq_iff_iff];simp;exact eq_comm
 ·rw [zns,h.later j n hj,decide_eq_false (by omega)];rfl
 ·rw [zzK,h.laterU j n hj,decide_eq_false (by omega)];rfl
theorem zEH {s:List Mes} {i:Nat} {prev:List Mes} {m:Mes} (hb:m.Fields.length≤140737488351232) (hn:∀f∈m.Fields,f.Name.length≤140737488351232):
  ∀(l:List Fld) (k:Nat) (nm:List (zr×Bool)) (nu:List (zt×Bool)),m.Fields.drop k=l→k≤m.Fields.length→Met nm nu i prev (m.Fields.take k)→
   (∃j w,msgF s.length (m.Fields.take k) l=some (j,w)∧zel K17 s i m k nm nu=some (.inr ((j:Int),w)))∨
   (msgF s.length (m.Fields.take k) l=none∧∃nm' nu',zel K17 s i m k nm nu=some (.inl (nm',nu'))∧Met nm' nu' i prev m.Fields):=by
 intro l
 induction l with
 | nil=>
  intro k nm nu hd hk hM
  have:=ziS hd
  have hkl:k=m.Fields.length:=by omega
  subst hkl
  refine .inr ⟨rfl,nm,nu,zla ?_,by simpa using hM⟩
  unfold zco
  rw [itF (by simp)]
 | cons f l ih=>
  intro k nm nu hd hk hM
  obtain ⟨hi,hc,hd'⟩:=zhD hd
  have hf:=hn f (by rw [←hc];exact List.getElem_mem hi)
  have hfld:=zEL (n:=(s.length:Int)) (i:=(i:Int)) (nm:=nm) (nu:=nu) (prev:=m.Fields.take k) (f:=f) (by omega) (hM.nam _) (hM.num _)
  have htk:m.Fields.take (k+1)=m.Fields.take k++[f]:=by rw [List.take_succ_eq_append_getElem hi,hc]
  have hlen:(m.Fields.take k).length=k:=by simp;omega
  obtain ⟨bd,_⟩:=zuN (s.length:Int) (m.Fields.take k) f
  rw [msgF]
  by_cases h0:zdo s.length (m.Fields.take k) f=0
  ·rw [if_neg (by omega)]
   rw [h0,if_pos rfl] at hfld
   have hstep:zco K17 s i m k nm nu=some (.inl (((k+1:Nat):Int),mput nm ⟨i,f.Name⟩ true,mput nu ⟨i,f.Number⟩ true)):=by
    unfold zco
    rw [itT (by simp;omega),zR rfl hi,sb,hc,hfld,sb]
    dsimp only
    rw [itF (show ((0:Int) !=0)=false from rfl),zD (by omega)]
    rfl
   rw [zqv hstep,←htk]
   exact ih (k+1) _ _ hd' (by omega) (by rw [htk];exact hM.step f)
  ·rw [if_pos (by omega)]
   rw [if_neg h0] at hfld
   refine .inl ⟨k,_,by rw [hlen],zla ?_⟩
   unfold zco
   rw [itT (by simp;omega),zR rfl hi,sb,hc,hfld,sb]
   dsimp only
   rw [itT (show (zdo (s.length:Int) (m.Fields.take k) f !=0)=true by simpa using h0)]
theorem zEG {s:List Mes} (hw:WS s):∀(l:List Mes) (i:Nat) (nm:List (zr×Bool)) (nu:List (zt×Bool)),s.drop i=l→i≤s.length→Met nm nu i (s.take i) []→
  zfQ K17 s i nm nu=some (match chkF s.length (s.take i) l with| some (j,k,w)=> .inr ((j:Int),k,w)| none=> .inl ()):=by
 intro l
 induction l with
 | nil=>
  intro i nm nu hd hi hM
  have:=ziS hd
  refine zff ?_
  unfold zbw
  rw [itF (by simp;omega)]
  rfl
 | cons m l ih=>
  intro i nm nu hd hi hM
  obtain ⟨hil,hc,hd'⟩:=zhD hd
  obtain ⟨w1,w2⟩:=hw
  obtain ⟨m1,m2,m3⟩:=w2 m (by rw [←hc];exact List.getElem_mem hil)
  have hmes:=zBA (n:=(s.length:Int)) (nm:=nm) (nu:=nu) (prev:=s.take i) (m:=m) (by omega) (hM.mes _)
  have htk:s.take (i+1)=s.take i++[m]:=by rw [List.take_succ_eq_append_getElem hil,hc]
  have hlen:(s.take i).length=i:=by simp;omega
  rw [chkF]
  by_cases h1:zfM m.Name=false
  ·rw [if_pos h1] at hmes⊢
   refine zff ?_
   unfold zbw
   rw [itT (by simp;omega),zR rfl hil,sb,hc,hmes,sb]
   dsimp only
   rw [itT (show ((2:Int) !=0)=true from rfl),hlen]
  rw [if_neg h1] at hmes⊢
  by_cases h2:((s.take i).any fun g=>g.Name==m.Name)=true
  ·rw [if_pos h2] at hmes⊢
   refine zff ?_
   unfold zbw
   rw [itT (by simp;omega),zR rfl hil,sb,hc,hmes,sb]
   dsimp only
   rw [itT (show ((3:Int) !=0)=true from rfl),hlen]
  rw [if_neg h2] at hmes⊢
  by_cases h3:200<m.Fields.length
  ·rw [if_pos h3] at hmes⊢
   refine zff ?_
   unfold zbw
   rw [itT (by simp;omega),zR rfl hil,sb,hc,hmes,sb]
   dsimp only
   rw [itT (show ((4:Int) !=0)=true from rfl),hlen]
  rw [if_neg h3] at hmes⊢
  have hM0:Met (mput nm ⟨-1,m.Name⟩ true) nu i (s.take i++[m]) (m.Fields.take 0):=by
   refine ⟨fun n=>?_,fun n=>?_,fun n=>?_,fun j n hj=>?_,fun j n hj=>hM.laterU j n hj⟩
   ·rw [zns,hM.mes,List.any_append,Bool.or_comm]
    congr 1
    simp only [List.any_cons,List.any_nil,Bool.or_false]
    rw [Bool.eq_iff_iff];simp;exact eq_comm
   ·rw [zns,hM.nam,decide_eq_false (by omega)];rfl
   ·rw [hM.num];rfl
   ·rw [zns,hM.later j n hj,decide_eq_false (by omega)];rfl
  have hl2:=zEH (s:=s) (i:=i) m2 m3 m.Fields 0 _ nu rfl (by omega) hM0
  simp only [List.take_zero] at hl2
  rcases hl2 with ⟨j,w,g1,g2⟩| ⟨g1,nm',nu',g2,g3⟩
  ·rw [g1]
   refine zff ?_
   unfold zbw
   have g2':zel K17 s i m 0 (mput nm ⟨-1,m.Name⟩ true) nu=_:=g2
   rw [itT (by simp;omega),zR rfl hil,sb,hc,hmes,sb]
   dsimp only
   rw [itF (show ((0:Int) !=0)=false from rfl),g2',sb]
   simp only [hlen]
  ·rw [g1]
   have hstep:zbw K17 s i nm nu=some (.inl (((i+1:Nat):Int),nm',nu')):=by
    unfold zbw
    have g2':zel K17 s i m 0 (mput nm ⟨-1,m.Name⟩ true) nu=_:=g2
    rw [itT (by simp;omega),zR rfl hil,sb,hc,hmes,sb]
    dsimp only
    rw [itF (show ((0:Int) !=0)=false from rfl),g2',sb]
    dsimp only
    rw [zD (by omega)]
    rfl
   rw [zqu hstep]
   simp only []
   rw [←htk]
   refine ih (i+1) nm' nu' hd' (by omega) ⟨fun n=>?_,fun n=>?_,fun n=>?_,fun j n hj=>g3.later j n (by omega),fun j n hj=>g3.laterU j n (by omega)⟩
   ·rw [htk];exact g3.mes n
   ·rw [g3.later (i+1) n (by omega)];rfl
   ·rw [g3.laterU (i+1) n (by omega)];rfl
theorem zEF {s:List Mes} (hw:WS s):zjr s=some (⟨(zjN s).1,(zjN s).2.1,(zjN s).2.2⟩,if (zjN s).2.2=0 then 0 else 9):=by
 unfold zjr zjN
 by_cases h:s.length=0∨100<s.length
 ·rw [itT (by simp;omega),if_pos h]
  rfl
 ·rw [itF (by simp;omega),if_neg h,zGJ,sb]
  have hl:=zEG hw s 0 [] [] rfl (by omega) ⟨fun n=>rfl,fun n=>rfl,fun n=>rfl,fun j n _=>rfl,fun j n _=>rfl⟩
  simp only [List.take_zero] at hl
  have hl':zfQ [1,2,3,4,5,6,7,8,9,10,11,12,13,14,15,16,17] s 0 [] []=_:=hl
  rw [hl',sb]
  cases hc:chkF s.length [] s with
  | none=>rfl
  | some q=>
   obtain ⟨i,k,w⟩:=q
   have:=zCl _ _ _ _ _ _ hc
   simp only
   rw [if_neg (by omega)]
theorem zFK {s:List Mes} (hw:WS s):zjs s=some (zhK s):=by
 unfold zjs zhK
 rw [zEF hw,sb]
 by_cases h:(zjN s).2.2=0<;>simp [h]
end Go.Proofs.YtcbkcblkecmjnaaGreat
namespace Go.Proofs.YtcbkcblkecmjnaaGreat
open Go
set_option linter.unusedVariables false
theorem ztK {k:Int} {b:List UInt8} (h:(zcF k b).2=0):kNum k=true∧(pcs k b).2=0∧(zcF k b).1=(pcs k b).1.map (zoo k):=by
 unfold zcF at h⊢
 cases hn:kNum k with
 | false=>rw [hn,if_pos rfl] at h;simp at h
 | true=>
  rw [hn,if_neg (by simp)] at h
  rw [if_neg (by simp)]
  by_cases h0:(pcs k b).2=0
  ·rw [if_pos h0];exact ⟨rfl,h0,rfl⟩
  ·rw [if_neg h0] at h;exact absurd h h0
theorem zwf {k:Int} {b:List UInt8} (h:(zcF k b).2≠0):(zcF k b).1=[]∧((zcF k b).2=2∨(zcF k b).2=3∨(zcF k b).2=4):=by
 unfold zcF at h⊢
 by_cases hn:kNum k=false
 ·rw [if_pos hn];simp
 ·rw [if_neg hn] at h⊢
  by_cases h0:(pcs k b).2=0
  ·rw [if_pos h0] at h;exact absurd rfl h
  ·rw [if_neg h0]
   rcases zAj k b with h1| h1| h1
   ·exact absurd h1 h0
   ·rw [h1];simp
   ·rw [h1];simp
end Go.Proofs.YtcbkcblkecmjnaaGreat
namespace Go.Proofs.YtcbkcblkecmjnaaGreat
open Go
set_option linter.unusedVariables false
theorem zEX {α:Type} (x y:α):(if (true:Bool)=false then x else y)=y:=rfl
def wid (k:Int):Nat:=if 12≤k then 8 else if 9≤k then 4 else 0
theorem zxz (k:Int):zhW k=some (if kNum k then ((wid k:Int),0) else (0,2)):=by
 cases hn:kNum k with
 | true=>
  have h:=znt.1 hn
  have hk:k=1∨k=2∨k=3∨k=4∨k=5∨k=6∨k=7∨k=8∨k=9∨k=10∨k=11∨k=12∨k=13∨k=14:=by omega
  rcases hk with rfl| rfl| rfl| rfl| rfl| rfl| rfl| rfl| rfl| rfl| rfl| rfl| rfl| rfl<;>rfl
 | false=>
  have h:=of_decide_eq_false hn
  unfold zhW
  have hne:∀c:Int,1≤c→c≤14→(k==c)=false:=fun c h1 h2=>by simp;omega
  simp only [hne 1 (by omega) (by omega),hne 2 (by omega) (by omega),hne 3 (by omega) (by omega),hne 4 (by omega) (by omega),hne 5 (by omega) (by omega),hne 6 (by omega) (by omega),hne 7 (by omega) (by omega),hne 8 (by omega) (by omega),hne 9 (by omega) (by omega),hne 10 (by omega) (by omega),hne 11 (by omega) (by omega),hne 12 (by omega) (by omega),hne 13 (by omega) (by omega),hne 14 (by omega) (by omega)]
  rfl
theorem zDy {k:Int} (hk:kNum k=true):(zfe k=0↔wid k=0)∧(wid k≠0→∀b:List UInt8,zie (zfe k) b=decide (wid k=b.length))∧(wid k=0∨wid k=4∨wid k=8):=by
 have:=znt.1 hk
 unfold zfe wid zie
 by_cases h1:12≤k
 ·rw [if_neg (by omega),if_pos h1,if_pos h1]
  refine ⟨by simp,fun _ b=>?_,by simp⟩
  rw [if_neg (by omega)]
  simp only [show ((1:Int)=2)=False from by simp,show ((1:Int)=5)=False from by simp,false_or,false_and,or_false,true_and]
  simp [eq_comm]
 ·rw [if_neg (by omega),if_neg h1,if_neg h1]
  by_cases h2:9≤k
  ·rw [if_pos h2,if_pos h2]
   refine ⟨by simp,fun _ b=>?_,by simp⟩
   rw [if_neg (by omega)]
   simp [eq_comm]
  ·rw [if_neg h2,if_neg h2]
   exact ⟨by simp,fun h=>absurd rfl h,by simp⟩
theorem zEf (b:List UInt8):zjq b=some (if zie 0 b then ((rd b).1,0) else (0,12)):=by
 unfold zjq zie
 rw [zuu,sb,if_pos rfl]
 by_cases h:(rd b).2.2=0∧(rd b).2.1=(b.length:Int)
 ·rw [itF (by simp [h.1,h.2]),if_pos (by simpa using h)]
 ·rw [itT (by simp;omega),if_neg (by simpa using h)]
theorem zEd (k:Int) (b:List UInt8):zjp k b=some (if kNum k=false then (0,2) else if zie (zfe k) b=false then (0,12) else (rawW k b,0)):=by
 unfold zjp
 rw [zxz,sb]
 cases hn:kNum k with
 | false=>rw [if_pos rfl];rfl
 | true=>
  obtain ⟨e0,ef,_⟩:=zDy hn
  simp only [if_true]
  rw [itF (by simp),if_neg (show ¬(true=false) by simp)]
  by_cases h0:wid k=0
  ·have hw:=e0.2 h0
   rw [itT (by simp [h0]),zEf,sb,hw]
   unfold rawW
   cases hf:zie 0 b with
   | true=>simp [hw]
   | false=>simp
  ·rw [itF (by simpa using h0),ef h0]
   by_cases hl:wid k=b.length
   ·rw [itF (by simp;omega),zHw,sb,if_neg (by simpa using hl)]
    unfold rawW
    rw [if_neg (fun h=>h0 (e0.1 h))]
   ·rw [itT (by simp;omega),if_pos (by simpa using hl)]
theorem zFT (k:Int) (b:List UInt8):zkE k b=some (zxv k b):=by
 unfold zkE zxv
 rw [zEd,sb]
 cases hn:kNum k with
 | false=>rfl
 | true=>
  simp only [zEX]
  cases hf:zie (zfe k) b with
  | false=>rfl
  | true=>
   simp only [zEX]
   rw [itF (by rfl),znu k (zHb k),sb,hn,if_pos rfl]
theorem zFU {k w:Int} (h:0≤w∧w≤18446744073709551615):zkF k w=some (if kNum k then ((sPut k w).length:Int) else 0):=by
 have hc:=zzn k h
 obtain ⟨c,hcc⟩:∃c:Nat,zfJ k w=c:=⟨(zfJ k w).toNat,by omega⟩
 unfold zkF
 rw [zxz,sb]
 cases hn:kNum k with
 | false=>rfl
 | true=>
  simp only [if_true]
  unfold sPut zBM
  rw [hcc,Int.toNat_natCast]
  unfold wid
  by_cases h1:12≤k
  ·rw [if_pos h1,if_pos h1,itT (by rfl),ziw]
  ·rw [if_neg h1,if_neg h1]
   by_cases h2:9≤k
   ·rw [if_pos h2,if_pos h2,itT (by rfl),ziw]
   ·rw [if_neg h2,if_neg h2,itF (by rfl),znu k h,sb,hn]
    simp only [if_true]
    rw [hcc,zIc (by omega),sb,zyd]
end Go.Proofs.YtcbkcblkecmjnaaGreat
namespace Go.Proofs.YtcbkcblkecmjnaaGreat
open Go
theorem zwR {α:Type} {l t:List α} {x:α} {k:Nat} (h:l.drop k=x::t):∃hk:k<l.length,l[k]=x∧l.drop (k+1)=t:=by
 have hk:k<l.length:=by
  rcases Nat.lt_or_ge k l.length with h'| h'
  ·exact h'
  ·rw [List.drop_eq_nil_of_le h'] at h;cases h
 rw [List.drop_eq_getElem_cons hk] at h
 injection h with h1 h2
 exact ⟨hk,h1,h2⟩
theorem zxU (l:List (List UInt8)) (hl:l.length≤1099511627776):∀(t:List (List UInt8)) (k s:Nat),l.drop k=t→s+t.flatten.length≤1099511627776→
  zbO l s k=some ((s+t.flatten.length:Nat):Int):=by
 intro t
 induction t with
 | nil=>
  intro k s hd _
  have hk:l.length≤k:=by have:=congrArg List.length hd;simp at this;omega
  refine zje ?_
  unfold zat
  rw [itF (by simp;omega)]
  simp
 | cons x t ih=>
  intro k s hd hs
  obtain ⟨hk,hx,hd'⟩:=zwR hd
  simp only [List.flatten_cons,List.length_append] at hs
  refine (zjd (size':=((s+x.length:Nat):Int)) (v':=((k+1:Nat):Int)) ?_).trans ?_
  ·unfold zat
   rw [itT (by simp;omega),zR rfl hk,sb,hx,zD (by omega),itF (by simp;omega),zD (by omega)]
   push_cast;rfl
  ·rw [ih _ _ hd' (by omega)]
   simp only [List.flatten_cons,List.length_append]
   congr 2;omega
theorem zxV (l:List (List UInt8)) (hl:l.length≤1099511627776):∀(t:List (List UInt8)) (k:Nat) (acc:List UInt8),l.drop k=t→acc.length+t.flatten.length≤1099511627776→
  zbP l acc k=some (acc++t.flatten):=by
 intro t
 induction t with
 | nil=>
  intro k acc hd _
  have hk:l.length≤k:=by have:=congrArg List.length hd;simp at this;omega
  refine zjg ?_
  unfold zau
  rw [itF (by simp;omega)]
  simp
 | cons x t ih=>
  intro k acc hd hs
  obtain ⟨hk,hx,hd'⟩:=zwR hd
  simp only [List.flatten_cons,List.length_append] at hs
  refine (zjf (newslice':=acc++x) (v2':=((k+1:Nat):Int)) ?_).trans ?_
  ·unfold zau
   rw [itT (by simp;omega),zR rfl hk,sb,hx,ziI (by omega),sb,zD (by omega)]
   push_cast;rfl
  ·rw [ih _ _ hd' (by rw [List.length_append];omega)]
   simp
theorem zGE {n:Nat} (h:n≤1099511627776):zdp (n:Int)=some []:=by
 unfold zdp
 have e:IntKind.i64.wrap ((n:Int) - IntKind.i64.wrap (0 - 0))=n:=by rw [zD (x:=0 - 0) (by omega),zD (by omega)];omega
 rw [itF (by simp),e]
 by_cases h0:(n:Int)>0
 ·rw [itT (by simpa using h0),zsN (a:=n) rfl (Int.le_refl _) (by omega),sb]
  have e0:cut (List.replicate n (0:UInt8)) 0 0=some []:=zuL (b:=0) rfl (Nat.zero_le _)
  rw [e0,sb]
 ·rw [itF (by simpa using h0)]
theorem zDo {l:List (List UInt8)} (hl:l.length≤1099511627776) (h:l.flatten.length≤1099511627776):zcQ l=some l.flatten:=by
 unfold zcQ
 have h1:=zxU l hl l 0 0 rfl (by omega)
 have h1':zbO l 0 0=_:=h1
 have h2:=zxV l hl l 0 [] rfl (by simpa using h)
 have h2':zbP l [] 0=_:=h2
 rw [h1',sb,zGE (by omega),sb,h2',sb]
 simp
end Go.Proofs.YtcbkcblkecmjnaaGreat
namespace Go.Proofs.YtcbkcblkecmjnaaGreat
open Go
set_option linter.unusedVariables false
def wid9 (k:Int):Int:=if kNum k then (if 12≤k then 8 else if 9≤k then 4 else 1) else 0
theorem zwv {k:Int} (hk:kNum k=true):(((sPut k 0).length:Nat):Int)=(if 12≤k then 8 else if 9≤k then 4 else 1):=by
 have hk':=znt.1 hk
 have hc:(zfJ k 0).toNat=0:=by
  have:k=1∨k=2∨k=3∨k=4∨k=5∨k=6∨k=7∨k=8∨k=9∨k=10∨k=11∨k=12∨k=13∨k=14:=by omega
  rcases this with h| h| h| h| h| h| h| h| h| h| h| h| h| h<;>subst h<;>decide
 unfold sPut
 rw [hc]
 unfold zBM
 by_cases h1:12≤k
 ·rw [if_pos h1,if_pos h1,ziw];rfl
 ·rw [if_neg h1,if_neg h1]
  by_cases h2:9≤k
  ·rw [if_pos h2,if_pos h2,ziw];rfl
  ·rw [if_neg h2,if_neg h2,zyd]
   simp [lenN]
theorem zDW (k:Int):znF k=some (wid9 k):=by
 unfold znF wid9
 rw [zFU (by omega),sb]
 cases hk:kNum k with
 | false=>rfl
 | true=>simp only [if_true];rw [zwv hk]
theorem zDg {k:Int} (hk:kNum k=true):(k<9→wid9 k=1)∧(¬k<9→k<12→wid9 k=4)∧(¬k<12→wid9 k=8):=by
 unfold wid9
 rw [hk,if_pos rfl]
 refine ⟨fun h=>?_,fun h1 h2=>?_,fun h=>?_⟩
 ·rw [if_neg (show ¬12≤k by omega),if_neg (show ¬9≤k by omega)]
 ·rw [if_neg (show ¬12≤k by omega),if_pos (show 9≤k by omega)]
 ·rw [if_pos (show 12≤k by omega)]
theorem zGm {k:Int} (hk:kNum k=false):wid9 k=0:=by unfold wid9;rw [hk];rfl
theorem zHt {k:Int} (hk:kNum k=true):(wid9 k==0)=false:=by
 obtain ⟨h1,h2,h3⟩:=zDg hk
 by_cases h9:k<9
 ·rw [h1 h9];rfl
 ·by_cases h12:k<12
  ·rw [h2 h9 h12];rfl
  ·rw [h3 h12];rfl
theorem zxt {k:Int} (hk:kNum k=true) (b:List UInt8):znE (wid9 k) b=some (match znO k b with| .inl c=>(0,c)| .inr n=>((n:Int),0)):=by
 obtain ⟨w1,w2,w3⟩:=zDg hk
 unfold znE znO
 by_cases h9:k<9
 ·rw [w1 h9,itT (by rfl),zCX,sb,if_pos h9]
  rcases zlM b with h| ⟨h,_⟩| ⟨x,c,y,e,hx,hc,hl,hv,h⟩
  ·rw [h];rfl
  ·rw [h];rfl
  ·rw [h,if_neg (by simp)];simp
 ·rw [if_neg h9]
  by_cases h12:k<12
  ·rw [w2 h9 h12,itF (by rfl),if_pos h12]
   by_cases hl:b.length<4
   ·rw [itT (by simp;omega),if_pos hl]
   ·rw [itF (by simp;omega),if_neg hl];rfl
  ·rw [w3 h12,itF (by rfl),if_neg h12]
   by_cases hl:b.length<8
   ·rw [itT (by simp;omega),if_pos hl]
   ·rw [itF (by simp;omega),if_neg hl];rfl
def zjI (k:Int) (b:List UInt8):List (List UInt8)×Int:=if kNum k=false then ([],2) else pcs k b
def go9 {σ ρ:Type} (kb:σ→(List UInt8×Int)→Option (σ⊕ρ)):List (List UInt8)→Int→σ→Option (σ⊕ρ)
 | [],c,s=>if c=0 then some (.inl s) else kb s ([],c)
 | p::ps,c,s=>match kb s (p,0) with
  | some (.inl s')=>go9 kb ps c s'
  | some (.inr r)=>some (.inr r)
  | none=>none
theorem zBI {σ ρ χ:Type} {kb:σ→χ→Option (σ⊕ρ)} {s:σ} {x:χ} {o:σ⊕ρ} (h:kb s x=some o):∃c,rnd kb (.inl s) x=some (c,o)∧(c=true∧(∃s',o= .inl s')∨c=false∧∃r,o= .inr r):=by
 cases o with
 | inl s'=>exact ⟨true,by simp only [rnd,h],.inl ⟨rfl,s',rfl⟩⟩
 | inr r=>exact ⟨false,by simp only [rnd,h],.inr ⟨rfl,r,rfl⟩⟩
theorem zJg {σ ρ:Type} (kb:σ→(List UInt8×Int)→Option (σ⊕ρ)) {k:Int} (hk:kNum k=true) (b:List UInt8):∀(s:σ) (o:σ⊕ρ),go9 kb (pcs k b).1 (pcs k b).2 s=some o→
  ∃q,zfO (rnd kb) (wid9 k) b (.inl s)=some q∧(q= .inl o∨q= .inr o):=by
 refine zur k (fun b=>∀(s:σ) (o:σ⊕ρ),go9 kb (pcs k b).1 (pcs k b).2 s=some o→
  ∃q,zfO (rnd kb) (wid9 k) b (.inl s)=some q∧(q= .inl o∨q= .inr o)) ?_ ?_ ?_ b
 ·intro s o h
  rw [zrQ] at h
  have h':some (.inl s)=some o:=h
  refine ⟨.inl o,zil ?_,.inl rfl⟩
  unfold zcn
  rw [itF (by rfl),←Option.some.inj h']
 ·intro l c hl hu hc s o h
  rw [zuq hl hu] at h
  have h':kb s ([],c)=some o:=by
   have h2:(if c=0 then some (.inl s) else kb s ([],c))=some o:=h
   rwa [if_neg (by omega)] at h2
  obtain ⟨t,ht,_⟩:=zBI h'
  refine ⟨.inr o,zil ?_,.inr rfl⟩
  have hp:=List.length_pos_iff.2 hl
  unfold zcn
  rw [itT (by simp;omega),zxt hk,sb,hu]
  simp only
  rw [zjl (i:=0) (j:=0) (a:=0) (b:=0) rfl rfl (Nat.le_refl _) (Nat.zero_le _),sb]
  simp only [List.drop_zero,Nat.sub_self,List.take_zero]
  rw [ht,sb,itT (by simp;omega)]
 ·intro l n hl hu g1 g2 g3 ih s o h
  rw [zpy hl hu] at h
  have hp:=List.length_pos_iff.2 hl
  have hbody:∀{t:Bool} {y:σ⊕ρ},rnd kb (.inl s) (l.take n,0)=some (t,y)→zcn (rnd kb) (wid9 k) l (.inl s)=(if t then some (.inl (l.drop n,y)) else some (.inr (.inr y))):=by
   intro t y ht
   unfold zcn
   rw [itT (by simp;omega),zxt hk,sb,hu]
   simp only
   rw [zjl (i:=0) (j:=(n:Int)) (a:=0) (b:=n) rfl rfl (Nat.zero_le _) g2,sb]
   simp only [List.drop_zero,Nat.sub_zero]
   rw [ht,sb]
   cases t with
   | false=>rw [itT (by rfl)];rfl
   | true=>rw [itF (by rfl),zrs (a:=n) rfl rfl g2,sb];rfl
  simp only [go9] at h
  cases hb:kb s (l.take n,0) with
  | none=>rw [hb] at h;cases h
  | some z=>
   rw [hb] at h
   obtain ⟨t,ht,hcase⟩:=zBI hb
   have hB:=hbody ht
   rcases hcase with ⟨rfl,s',rfl⟩| ⟨rfl,r,rfl⟩
   ·obtain ⟨q,hq,hq'⟩:=ih s' o h
    exact ⟨q,by rw [zqt hB];exact hq,hq'⟩
   ·have h':some (.inr r)=some o:=h
    exact ⟨.inr (.inr r),zil hB,.inr (by rw [Option.some.inj h'])⟩
theorem zDf {σ ρ:Type} (kb:σ→(List UInt8×Int)→Option (σ⊕ρ)) (k:Int) (b:List UInt8) {s:σ} {o:σ⊕ρ} (h:go9 kb (zjI k b).1 (zjI k b).2 s=some o):zfl k b (rnd kb) (.inl s)=some o:=by
 unfold zfl
 rw [zDW,sb]
 unfold zjI at h
 cases hk:kNum k with
 | false=>
  rw [hk,if_pos rfl] at h
  have h':kb s ([],2)=some o:=h
  obtain ⟨t,ht,_⟩:=zBI h'
  rw [zGm hk,itT (by rfl),ht,sb]
 | true=>
  rw [hk,if_neg (by simp)] at h
  have hw:=zHt hk
  obtain ⟨q,hq,hq'⟩:=zJg kb hk b s o h
  rw [itF hw,hq,sb]
  rcases hq' with rfl| rfl<;>rfl
theorem zwa (k:Int) (b:List UInt8):(zjI k b).2=(zcF k b).2∧((zcF k b).2=0→(zjI k b).1=(pcs k b).1)∧(∀p∈(zjI k b).1,zie (zfe k) p=true∧1≤p.length∧p.length≤10)∧(zjI k b).1.length≤b.length∧((zjI k b).1=[]∨kNum k=true):=by
 unfold zjI zcF
 by_cases hn:kNum k=false
 ·rw [if_pos hn,if_pos hn];exact ⟨rfl,fun h=>by simp at h,(fun p hp=>by cases hp),Nat.zero_le _,.inl rfl⟩
 ·have hk:kNum k=true:=by simpa using hn
  rw [if_neg hn,if_neg hn]
  refine ⟨?_,fun _=>rfl,zFE hk b,zCP k b,.inr hk⟩
  by_cases h0:(pcs k b).2=0
  ·rw [if_pos h0];exact h0
  ·rw [if_neg h0]
theorem zAP {k:Int} (hk:kNum k=true) (c:Int):∀(ps:List (List UInt8)) (acc:List Int),(∀p∈ps,zie (zfe k) p=true∧1≤p.length∧p.length≤10)→acc.length+ps.length≤1048576→
  go9 (fun (s:List Int) (x:List UInt8×Int)=>zey k s x.1 x.2) ps c acc=some (if c=0 then .inl (acc++ps.map (zoo k)) else .inr (c,acc++ps.map (zoo k)))
 | [],acc,_,hl=>by
  simp only [go9,List.map_nil,List.append_nil]
  by_cases h0:c=0
  ·rw [if_pos h0,if_pos h0]
  ·rw [if_neg h0,if_neg h0];unfold zey;rw [itT (by simpa using h0)]
 | p::ps,acc,hf,hl=>by
  simp only [List.length_cons] at hl
  have h1:zey k acc p 0=some (.inl (acc++[zoo k p])):=by
   unfold zey
   rw [itF (by rfl),zFT,sb,ztH hk (hf p List.mem_cons_self).1,ziI (by simp;omega),sb]
  simp only [go9,h1]
  rw [zAP hk c ps _ (fun q hq=>hf q (List.mem_cons_of_mem _ hq)) (by simp;omega)]
  simp
theorem zDX (k:Int) {b:List UInt8} (hb:b.length≤1048576):znD k b=some (zcF k b):=by
 obtain ⟨h1,h2,h3,h4,h5⟩:=zwa k b
 unfold znD zjY
 rw [sb]
 simp only
 have hgo:go9 (fun (s:List Int) (x:List UInt8×Int)=>zey k s x.1 x.2) (zjI k b).1 (zjI k b).2 []=some (if (zjI k b).2=0 then .inl ([]++(zjI k b).1.map (zoo k)) else .inr ((zjI k b).2,[]++(zjI k b).1.map (zoo k))):=by
  rcases h5 with h5| h5
  ·rw [h5]
   simp only [go9,List.map_nil,List.append_nil]
   by_cases h0:(zjI k b).2=0
   ·rw [if_pos h0,if_pos h0]
   ·rw [if_neg h0,if_neg h0];unfold zey;rw [itT (by simpa using h0)]
  ·exact zAP h5 _ _ _ h3 (by simp;omega)
 rw [zDf _ k b hgo,sb,h1]
 by_cases h0:(zcF k b).2=0
 ·rw [if_pos h0,h2 h0]
  simp only [List.nil_append]
  rw [←(ztK h0).2.2,←h0]
 ·rw [if_neg h0]
  simp only
  rw [←(zwf h0).1]
theorem zzt (c:Int):∀(ps:List (List UInt8)) (n:Nat),n+ps.length≤1048576→
  go9 (fun (s:Int) (x:List UInt8×Int)=>zgc s x.1 x.2) ps c (n:Int)=some (if c=0 then .inl ((n+ps.length:Nat):Int) else .inr (c,((n+ps.length:Nat):Int)))
 | [],n,hl=>by
  simp only [go9,List.length_nil,Nat.add_zero]
  by_cases h0:c=0
  ·rw [if_pos h0,if_pos h0]
  ·rw [if_neg h0,if_neg h0];unfold zgc;rw [itT (by simpa using h0)]
 | p::ps,n,hl=>by
  simp only [List.length_cons] at hl
  have h1:zgc (n:Int) p 0=some (.inl ((n+1:Nat):Int)):=by
   unfold zgc
   rw [itF (by rfl),zD (by omega)];rfl
  simp only [go9,h1]
  rw [zzt c ps (n+1) (by omega)]
  simp only [List.length_cons]
  rw [Nat.add_right_comm,Nat.add_assoc]
theorem zDN (k:Int) {b:List UInt8} (hb:b.length≤1048576):znC k b=some (((zcF k b).1.length:Int),(zcF k b).2):=by
 obtain ⟨h1,h2,h3,h4,h5⟩:=zwa k b
 unfold znC zjY
 rw [sb]
 simp only
 have hgo:=zzt (zjI k b).2 (zjI k b).1 0 (by omega)
 rw [zDf (s:=(0:Int)) _ k b hgo,sb,h1]
 by_cases h0:(zcF k b).2=0
 ·rw [if_pos h0,h2 h0]
  simp only
  rw [(ztK h0).2.2,h0]
  simp
 ·rw [if_neg h0]
  simp only
  rw [(zwf h0).1]
  rfl
end Go.Proofs.YtcbkcblkecmjnaaGreat
namespace Go.Proofs.YtcbkcblkecmjnaaGreat
open Go
set_option linter.unusedVariables false
abbrev PVw:=zg
def prV (v:Vw):PVw:=⟨v.R,v.Field,v.Run⟩
theorem zwd (m:Mes) {e:Option (Nat×Int)} (he:∀p c,e=some (p,c)→3≤c∧c≤5):∀(l:List Rec) (p c:Int),(vws m e l).2=some (p,c)→3≤c∧c≤6
 | [],p,c,h=>by
  cases e with
  | none=>cases h
  | some q=>
   simp only [vws,Option.map_some,Option.some.injEq,Prod.mk.injEq] at h
   have:=he q.1 q.2 rfl
   omega
 | r::l,p,c,h=>by
  rw [vws] at h
  rcases zhS m r.Number r.Wire with hv| ⟨hv,_⟩| ⟨i,run,hv,_⟩
  ·simp only [hv,Option.some.injEq,Prod.mk.injEq] at h;omega
  ·simp only [hv] at h;exact zwd m he l p c h
  ·simp only [hv] at h;exact zwd m he l p c h
theorem zIq (b:List UInt8):∀p c,(spl 0 b).2=some (p,c)→3≤c∧c≤5:=fun p c h=>by
 have:=(zFR 0 b p c h).1;omega
theorem zts (m:Mes) (b:List UInt8):(zgr m b).2.2=0∧(vws m (spl 0 b).2 (spl 0 b).1).2=none∧(zgr m b).1=(vws m (spl 0 b).2 (spl 0 b).1).1∧(zgr m b).2.1=0∨(3≤(zgr m b).2.2∧(zgr m b).2.2≤6)∧(zgr m b).1=[]:=by
 unfold zgr vwR
 cases h:(vws m (spl 0 b).2 (spl 0 b).1).2 with
 | none=>exact .inl ⟨rfl,rfl,rfl,rfl⟩
 | some q=>exact .inr ⟨zwd m (zIq b) _ q.1 q.2 h,rfl⟩
theorem zwe {m:Mes} {e:Option (Nat×Int)}:∀{l:List Rec},(vws m e l).2=none→e=none∧(vws m e l).1.map (·.R)=l
 | [],h=>by
  cases e with
  | none=>exact ⟨rfl,rfl⟩
  | some q=>simp [vws] at h
 | r::l,h=>by
  rw [vws] at h⊢
  rcases zhS m r.Number r.Wire with hv| ⟨hv,_⟩| ⟨i,run,hv,_⟩
  ·simp only [hv] at h;cases h
  ·simp only [hv] at h⊢
   have:=zwe h
   exact ⟨this.1,by simp [this.2]⟩
  ·simp only [hv] at h⊢
   have:=zwe h
   exact ⟨this.1,by simp [this.2]⟩
theorem zAN {m:Mes} {e:Option (Nat×Int)}:∀{l:List Rec},∀v∈(vws m e l).1,v.R∈l∧vw m v.R.Number v.R.Wire= .inr (v.Field,v.Run)
 | [],v,h=>by cases h
 | r::l,v,h=>by
  rw [vws] at h
  rcases zhS m r.Number r.Wire with hv| ⟨hv,_⟩| ⟨i,run,hv,_⟩
  ·simp only [hv] at h;cases h
  all_goals
   simp only [hv] at h
   rcases List.mem_cons.1 h with rfl| h
   ·exact ⟨List.mem_cons_self,hv⟩
   ·have:=zAN v h
    exact ⟨List.mem_cons_of_mem _ this.1,this.2⟩
theorem zHp {m:Mes} {b:List UInt8} {v:Vw} (h:v∈(zgr m b).1):v.R∈(spl 0 b).1∧vw m v.R.Number v.R.Wire= .inr (v.Field,v.Run):=by
 rcases zts m b with ⟨_,_,e,_⟩| ⟨_,e⟩
 ·rw [e] at h;exact zAN v h
 ·rw [e] at h;cases h
end Go.Proofs.YtcbkcblkecmjnaaGreat
namespace Go.Proofs.YtcbkcblkecmjnaaGreat
open Go
theorem zxC (t:zbS):znI t=some (zhs t.Number t.Wire):=by
 have e:ziB t.Wire=some (decide (t.Wire=0∨t.Wire=1∨t.Wire=2∨t.Wire=5)):=by
  unfold ziB
  by_cases h0:t.Wire=0
  ·simp [h0]
  by_cases h1:t.Wire=1
  ·simp [h1]
  by_cases h2:t.Wire=2
  ·simp [h2]
  by_cases h5:t.Wire=5
  ·simp [h5]
  simp [h0,h1,h2,h5]
 unfold znI zhs
 rw [e]
 by_cases h1:1≤t.Number
 ·by_cases h2:t.Number≤536870911
  ·rw [itT (by simpa using h1),itT (by simpa using h2),sb,sb];simp [h1,h2]
  ·rw [itT (by simpa using h1),itF (by simpa using h2),sb];simp [h2]
 ·rw [itF (by simpa using h1),sb];simp [h1]
theorem zII (w:Nat) (h:w<18446744073709551616):andI .u64 (w:Int) 7=((w%8:Nat):Int):=by
 have e:=zze (k:= .u64) rfl (a:=w) (b:=7) (by simpa [IntKind.bits] using h) (by simp [IntKind.bits])
 have e2:w&&&7=w%8:=Nat.and_two_pow_sub_one_eq_mod w 3
 rw [e2] at e;exact e
theorem zJb (w:Nat):shrI .u64 (w:Int) 3=((w/8:Nat):Int):=zvI (k:= .u64) (a:=w) (b:=3) (by simp [IntKind.bits])
theorem zGc (b:List UInt8):zpH b=some ((⟨(tg b).1,(tg b).2.1⟩:zbS),(tg b).2.2.1,(tg b).2.2.2):=by
 obtain ⟨h1,h2,h3,h4,h5,h6,h7⟩:=zhV b
 unfold zpH tg
 rw [zuu,sb]
 by_cases h:(rd b).2.2=0
 ·rw [itF (by simpa using h)]
  obtain ⟨w,hw⟩:∃w:Nat,(rd b).1=w:=⟨(rd b).1.toNat,by omega⟩
  rw [hw] at h2⊢
  rw [zJb,zII w (by omega)]
  have e0:IntKind.i64.wrap ((w%8:Nat):Int)=(w:Int)%8:=by rw [zD (by omega)];omega
  by_cases hg:4294967295<w
  ·have e1:IntKind.i64.wrap (if (536870912:Int)<((w/8:Nat):Int) then 536870912 else ((w/8:Nat):Int))=536870912:=by
    split
    ·rfl
    ·rw [zD (by omega)];omega
   rw [e0,e1,zxC,sb]
   have e2:zhs 536870912 ((w:Int)%8)=false:=by simp [zhs]
   simp only [e2]
   rw [itT (by rfl),zpI h (.inl (by rw [hw];omega))]
  ·have e1:IntKind.i64.wrap (if (536870912:Int)<((w/8:Nat):Int) then 536870912 else ((w/8:Nat):Int))=(w:Int)/8:=by
    rw [if_neg (by omega),zD (by omega)];omega
   rw [e0,e1,zxC,sb]
   simp only
   cases ht:zhs ((w:Int)/8) ((w:Int)%8)
   ·rw [itT (by rfl),zpI h (.inr (by rw [hw];exact ht))]
   ·rw [itF (by rfl),zBW h (by rw [hw,ht];simp;omega),hw]
 ·rw [itT (by simpa using h),zyV h]
end Go.Proofs.YtcbkcblkecmjnaaGreat
namespace Go.Proofs.YtcbkcblkecmjnaaGreat
open Go
theorem zHh {w:Int} {b:List UInt8} (hw:w=0∨w=1∨w=2∨w=5) (hb:b.length≤1048576):
  zkC w b=some (match zeY w 0 b with| .inl c=>(0,(if w=0 then (rd b).2.1 else 0),c)| .inr (a,t)=>((a:Int),(t:Int),0)):=by
 obtain ⟨h1,h2,h3,h4,h5,h6,h7⟩:=zhV b
 unfold zkC zeY
 rcases hw with rfl| rfl| rfl| rfl
 ·rw [itT (by rfl),zCX,sb,if_pos rfl]
  by_cases h:(rd b).2.2=0
  ·rw [if_neg (by simpa using h)]
   simp only [h,Nat.zero_add]
   congr 3
   simp;omega
  ·rw [if_pos h];rfl
 ·rw [itF (by rfl),itT (by rfl),sb,itF (by rfl),if_neg (show ¬((1:Int)=0) by omega),if_neg (show ¬((1:Int)=2) by omega)]
  simp only
  have e:IntKind.u64.wrap (IntKind.i64.wrap ((b.length:Int) - 0))=(b.length:Int):=by rw [zD (by omega),wrap_u64];omega
  rw [e]
  by_cases g:b.length<8
  ·rw [itT (by simp;omega),if_pos (by simpa using g)];rfl
  ·rw [itF (by simp;omega),if_neg (by simpa using g)];rfl
 ·rw [itF (by rfl),itF (by rfl),itF (by rfl),itT (by rfl),zuu,sb,sb,if_neg (show ¬((2:Int)=0) by omega),if_pos (show (2:Int)=2 from rfl)]
  by_cases h:(rd b).2.2=0
  ·have hk:=h7 h
   rw [itF (by simpa using h),if_neg (show ¬((rd b).2.2≠0) from fun g=>g h)]
   simp only
   have e:IntKind.u64.wrap (IntKind.i64.wrap ((b.length:Int) - (rd b).2.1))=(b.length:Int) - (rd b).2.1:=by rw [zD (by omega),wrap_u64];omega
   rw [e]
   by_cases g:(b.length:Int) - (rd b).2.1<(rd b).1
   ·rw [itT (by simpa using g),if_pos g];rfl
   ·rw [itF (by simpa using g),if_neg g,zD (x:=(rd b).1) (by omega),zD (by omega)]
    simp;omega
  ·rw [itT (by simpa using h),if_pos h];rfl
 ·rw [itF (by rfl),itF (by rfl),itT (by rfl),sb,itF (by rfl),if_neg (show ¬((5:Int)=0) by omega),if_neg (show ¬((5:Int)=2) by omega)]
  simp only
  have e:IntKind.u64.wrap (IntKind.i64.wrap ((b.length:Int) - 0))=(b.length:Int):=by rw [zD (by omega),wrap_u64];omega
  rw [e]
  by_cases g:b.length<4
  ·rw [itT (by simp;omega),if_pos (by simpa using g)];rfl
  ·rw [itF (by simp;omega),if_neg (by simpa using g)];rfl
theorem zzl (w:Int) (k:Nat) (m:List UInt8):zeY w k m=match zeY w 0 m with| .inl c=> .inl c| .inr (a,t)=> .inr (k+a,k+t):=by
 unfold zeY
 repeat' split
 all_goals first
  | rfl
  | (rename_i h1 h2;injection h2 with h3;injection h3 with h4 h5;subst h4 h5;simp<;>omega)
  | simp_all<;>omega
theorem zyA {b:List UInt8} (hb:b.length≤1048576) (at5:Int):zhJ b at5=some (zfC b at5):=by
 unfold zhJ zfC
 by_cases h:at5<0∨at5≥b.length
 ·rw [itT (by simpa using h),if_pos h];rfl
 ·rw [itF (by simpa using h),if_neg h]
  obtain ⟨p,rfl⟩:∃p:Nat,at5=p:=⟨at5.toNat,by omega⟩
  rw [zrs rfl rfl (by omega),sb,zGc,sb,Int.toNat_natCast]
  have hdl:(b.drop p).length=b.length - p:=by simp
  rcases zvQ (b.drop p) with ⟨c,ht,hc⟩| ⟨n,w,k,ht,hr,k1,k2,k3,hrd⟩
  ·have e:rec5 (b.drop p)= .inl c:=by unfold rec5;rw [ht,if_pos (by simp only;omega)]
   rw [e,ht,itT (by simp;omega)];rfl
  ·obtain ⟨k,rfl⟩:∃j:Nat,k=j:=⟨k.toNat,by omega⟩
   have e:rec5 (b.drop p)=match zeY w k ((b.drop p).drop k) with
    | .inl c=> .inl c
    | .inr p=> .inr (n,w,p.1,p.2):=by unfold rec5;rw [ht];simp<;>rfl
   have hdd:(b.drop p).drop k=b.drop (p+k):=by rw [List.drop_drop]
   have hml:(b.drop (p+k)).length=b.length - (p+k):=by simp
   have ew:IntKind.i64.wrap ((p:Int)+k)=((p+k:Nat):Int):=by rw [zD (by omega)];push_cast;rfl
   rw [e,ht,itF (by simp),hdd]
   simp only [ew]
   rw [zrs rfl rfl (by omega),sb,zHh (zrf.1 hr).2.2 (by omega),sb,zzl w k]
   rcases zko w 0 (b.drop (p+k)) with ⟨c,hc,hc2⟩| ⟨a,t,hc,_,_,hle,_⟩
   ·rw [hc]
    simp only
    rw [itT (by simp;omega)];rfl
   ·rw [hc]
    simp only
    rw [itF (by rfl),zD (by omega),zD (by omega)]
    simp only [Option.some.injEq,Prod.mk.injEq,zu.mk.injEq,true_and,and_true]
    push_cast
    omega
end Go.Proofs.YtcbkcblkecmjnaaGreat
namespace Go.Proofs.YtcbkcblkecmjnaaGreat
open Go
set_option linter.unusedVariables false
abbrev Head:=zS
abbrev Role:=zX
def rol (m:Mes) (h:Head):Role:=match vw m h.number h.wire with
 | .inl c=>⟨0,false,c⟩
 | .inr (i,run)=>⟨i,run,0⟩
theorem zEo {m:Mes} (hm:m.Fields.length≤1152921504606846976) (n:Int):zlW m n=some (fldI m n):=by
 unfold zlW zaL
 have h:=znr (fun f:Fld=>f.Number==n) m.Fields (fun i=>zah m.Fields n i) (zck (by unfold zK;rw [itF (by simp)])) (fun i hi=>by
  by_cases hp:(m.Fields[i].Number==n)=true
  ·rw [if_pos hp];exact zck (by unfold zK zjA;rw [itT (by simp;omega),zR rfl hi,sb,sb,itT hp])
  ·rw [if_neg hp];exact zeo (by unfold zK zjA;rw [itT (by simp;omega),zR rfl hi,sb,sb,itF (eq_false_of_ne_true hp),zD (by omega)];rfl)) m.Fields.length 0 (by omega) (fun j _ h=>by omega)
 have h':zah m.Fields n 0=_:=h
 rw [h',sb]
 unfold fldI zjP
 cases m.Fields.findIdx? (fun f:Fld=>f.Number==n) with
 | none=>rfl
 | some i=>rfl
theorem zEp (f:Fld) (w:Int):zlX f w=some (decide (f.Repeated=true∧kNum f.Kind=true∧w=2)):=by
 unfold zlX
 cases f.Repeated
 ·simp [sb]
 ·by_cases hw:w=2
  ·subst hw
   rw [itT rfl,itT (c:=(2:Int)==2) rfl,zvc,sb,sb]
   cases kNum f.Kind<;>rfl
  ·rw [itT rfl,itF (by simpa using hw),sb]
   simp [hw]
theorem zGj (k w:Int):znT k w=some (decide (¬(zcM k=false∨zfe k≠w))):=by
 unfold znT
 rw [zAc,sb]
 cases zcM k with
 | false=>rfl
 | true=>
  by_cases h:zfe k=w<;>simp [h]
theorem zCf {m:Mes} (hm:m.Fields.length≤1152921504606846976) (h:Head):zjc m h=some (rol m h):=by
 unfold zjc rol
 rw [zEo hm,sb]
 unfold vw
 rcases zlE m h.number with ⟨hf,_⟩| ⟨i,hi,hf,_⟩
 ·rw [hf,itT (by rfl),if_pos (by decide)]
 ·rw [hf,itF (by simp),if_neg (by omega),zR rfl hi,sb,zhG hi,zEp,sb]
  by_cases h1:(m.Fields[i]).Repeated=true∧kNum (m.Fields[i]).Kind=true∧h.wire=2
  ·rw [if_pos h1,decide_eq_true h1]
   rfl
  ·rw [if_neg h1,decide_eq_false h1,itT (by rfl),zGj,sb,sb]
   by_cases h2:zcM (m.Fields[i]).Kind=false∨zfe (m.Fields[i]).Kind≠h.wire
   ·rw [if_pos h2,itT (by rw [decide_eq_false (fun g=>g h2)];rfl)]
   ·rw [if_neg h2,itF (by rw [decide_eq_true h2];rfl)]
def zop (m:Mes) (met:List (Head×Role)):Prop:=∀h x,mget met h=some x→x=rol m h
theorem zop.nil (m:Mes):zop m []:=fun h x g=>by cases g
theorem zop.put {m:Mes} {met:List (Head×Role)} (g:zop m met) (h:Head):zop m (mput met h (rol m h)):=fun j x hx=>by
 rw [zjT] at hx
 by_cases e:j=h
 ·rw [if_pos e] at hx;rw [e];exact (Option.some.inj hx).symm
 ·rw [if_neg e] at hx;exact g j x hx
theorem zvg {m:Mes} (hm:m.Fields.length≤1152921504606846976) {b:List UInt8} (hb:b.length≤1048576) (p:Int) {met:List (Head×Role)} (g:zop m met):
  ∃met',zlu m b p met=some (prV (zfL m b p).1,(zfL m b p).2,met')∧zop m met':=by
 unfold zlu zfL
 rw [zyA hb,sb]
 by_cases h:(zfC b p).2=0
 ·rw [itF (by simpa using h),if_neg (show ¬((zfC b p).2≠0) from fun q=>q h)]
  generalize (zfC b p).1=r
  have key:∃met',(if (!(mget met (⟨r.Number,r.Wire⟩:Head)).isSome) then (zjc m (⟨r.Number,r.Wire⟩:Head)>>=fun rv2=>some ((mput met (⟨r.Number,r.Wire⟩:Head) rv2),rv2.field,rv2.run,rv2.e))
    else some (met,((mget met (⟨r.Number,r.Wire⟩:Head)).getD (⟨0,false,0⟩:Role)).field,((mget met (⟨r.Number,r.Wire⟩:Head)).getD (⟨0,false,0⟩:Role)).run,((mget met (⟨r.Number,r.Wire⟩:Head)).getD (⟨0,false,0⟩:Role)).e))=some (met',(rol m ⟨r.Number,r.Wire⟩).field,(rol m ⟨r.Number,r.Wire⟩).run,(rol m ⟨r.Number,r.Wire⟩).e)∧zop m met':=by
   cases hg:mget met (⟨r.Number,r.Wire⟩:Head) with
   | none=>
    rw [itT (by rfl),zCf hm,sb]
    exact ⟨_,rfl,g.put _⟩
   | some x=>
    rw [itF (by rfl)]
    refine ⟨met,?_,g⟩
    rw [←g _ x hg]
    rfl
  obtain ⟨met',hk,hM⟩:=key
  refine ⟨met',?_,hM⟩
  rw [hk,sb]
  unfold rol
  rcases zhS m r.Number r.Wire with hv| ⟨hv,_⟩| ⟨i,run,hv,_⟩
  ·simp only [hv];rfl
  ·simp only [hv];rfl
  ·simp only [hv];rfl
 ·rw [itT (by simpa using h),if_pos h]
  exact ⟨met,rfl,g⟩
theorem zGk {m:Mes} (hm:m.Fields.length≤1152921504606846976) {b:List UInt8} (hb:b.length≤1048576) (p:Int):znS m b p=some (prV (zfL m b p).1,(zfL m b p).2):=by
 obtain ⟨met',h,_⟩:=zvg hm hb p (zop.nil m)
 unfold znS
 rw [h,sb]
theorem zEl {m:Mes} (hm:m.Fields.length≤1152921504606846976) {b:List UInt8} (hb:b.length≤1048576) (base:Nat) (l:List UInt8):∀(out:List Vw) (met:List (Head×Role)),base≤b.length→l=b.drop base→out.length≤base→zop m met→
  zhR b m (out.map prV) met base=some (match (vws m (spl base l).2 (spl base l).1).2 with| none=> .inl ((out++(vws m (spl base l).2 (spl base l).1).1).map prV)| some (p,c)=> .inr (p,c)):=by
 refine zjv (fun base l=>∀(out:List Vw) (met:List (Head×Role)),base≤b.length→l=b.drop base→out.length≤base→zop m met→
  zhR b m (out.map prV) met base=some (match (vws m (spl base l).2 (spl base l).1).2 with| none=> .inl ((out++(vws m (spl base l).2 (spl base l).1).1).map prV)| some (p,c)=> .inr (p,c))) ?_ ?_ ?_ base l
 ·intro base out met hbase hl ho hM
  have:b.length≤base:=by have:=congrArg List.length hl;simp at this;omega
  rw [zhX]
  simp only [vws,Option.map_none,List.append_nil]
  refine zkX ?_
  unfold zdK
  rw [itF (by simp;omega)]
 ·intro base l c hl h hc out met hbase hld ho hM
  subst hld
  have hlt:base<b.length:=by have:=List.length_pos_iff.2 hl;simp at this;omega
  rw [ziH hl h]
  simp only [vws,Option.map_some]
  refine zkX ?_
  unfold zdK
  have e:zfC b base=(zrec,c):=by unfold zfC;rw [if_neg (by omega),Int.toNat_natCast,h]
  have e2:zfL m b base=(zvw,c):=by unfold zfL;rw [e,if_pos (by simp only;omega)]
  obtain ⟨met',hk,_⟩:=zvg hm hb base hM
  rw [itT (by simp;omega),hk,sb,e2,itT (by simp;omega)]
 ·intro base l n w a t hl h _ g1 g2 g3 ih out met hbase hld ho hM
  subst hld
  simp only [List.length_drop] at g3
  have hlt:base<b.length:=by omega
  rw [zgg hl h]
  have e:zfC b base=(⟨n,w,base,(base+a:Nat),(base+t:Nat)⟩,0):=by
   unfold zfC;rw [if_neg (by omega),Int.toNat_natCast,h];push_cast;rfl
  rw [vws]
  obtain ⟨met',hk,hM'⟩:=zvg hm hb base hM
  rcases zhS m n w with hv| ⟨hv,_⟩| ⟨i,run,hv,_,hi⟩
  ·have e2:zfL m b base=(zvw,6):=by unfold zfL;rw [e];simp only [ne_eq,not_true_eq_false,if_false,hv]
   simp only [hv]
   refine zkX ?_
   unfold zdK
   rw [itT (by simp;omega),hk,sb,e2,itT (by rfl)]
  ·have e2:zfL m b base=(⟨⟨n,w,base,(base+a:Nat),(base+t:Nat)⟩, -1,false⟩,0):=by unfold zfL;rw [e];simp only [ne_eq,not_true_eq_false,if_false,hv]
   simp only [hv]
   refine (zoD (l':=(out++([⟨⟨n,w,base,(base+a:Nat),(base+t:Nat)⟩, -1,false⟩]:List Vw)).map prV) (met':=met') (fromv':=((base+t:Nat):Int)) ?_).trans ?_
   ·unfold zdK
    rw [itT (by simp;omega),hk,sb,e2,itF (by rfl),ziI (by simp;omega),sb,List.map_append]
    rfl
   ·rw [ih _ met' (by omega) (by rw [List.drop_drop]) (by simp;omega) hM']
    simp only [List.append_assoc,List.singleton_append]
  ·have e2:zfL m b base=(⟨⟨n,w,base,(base+a:Nat),(base+t:Nat)⟩,i,run⟩,0):=by unfold zfL;rw [e];simp only [ne_eq,not_true_eq_false,if_false,hv]
   simp only [hv]
   refine (zoD (l':=(out++([⟨⟨n,w,base,(base+a:Nat),(base+t:Nat)⟩,i,run⟩]:List Vw)).map prV) (met':=met') (fromv':=((base+t:Nat):Int)) ?_).trans ?_
   ·unfold zdK
    rw [itT (by simp;omega),hk,sb,e2,itF (by rfl),ziI (by simp;omega),sb,List.map_append]
    rfl
   ·rw [ih _ met' (by omega) (by rw [List.drop_drop]) (by simp;omega) hM']
    simp only [List.append_assoc,List.singleton_append]
theorem zHs {m:Mes} (hm:m.Fields.length≤1152921504606846976) {b:List UInt8} (hb:b.length≤1048576):zpS m b=some ((zgr m b).1.map prV,(zgr m b).2.1,(zgr m b).2.2):=by
 unfold zpS
 have h:=zEl hm hb 0 b [] [] (Nat.zero_le _) rfl (Nat.le_refl _) (zop.nil m)
 have h':zhR b m [] [] 0=_:=h
 rw [h',sb]
 unfold zgr vwR
 cases (vws m (spl 0 b).2 (spl 0 b).1).2 with
 | none=>rfl
 | some p=>rfl
theorem zHo (m:Mes) (b:List UInt8):(zgr m b).1.length≤b.length:=by
 rcases zts m b with ⟨_,hn,e,_⟩| ⟨_,e⟩
 ·have h:=congrArg List.length (zwe hn).2
  rw [List.length_map] at h
  rw [e,h]
  exact zHi 0 b
 ·rw [e];simp
end Go.Proofs.YtcbkcblkecmjnaaGreat
namespace Go.Proofs.YtcbkcblkecmjnaaGreat
open Go
set_option linter.unusedVariables false
def zoA (m:Mes) (g:Int→List UInt8→Nat) (b:List UInt8) (r:Rec):Nat:=match vw m r.Number r.Wire with
 | .inl _=>0
 | .inr (i,run)=>if i<0∨run=true then 0 else if (zaE m i).Kind=17 then g (zaE m i).Of (valB b r)+1 else 0
def zmu (m:Mes) (g:Int→List UInt8→Nat) (b:List UInt8):List Rec→Nat
 | []=>0
 | r::l=>max (zoA m g b r) (zmu m g b l)
def zjO (s:List Mes):Nat→Int→List UInt8→Nat
 | 0,k,b=>zmu (zaq s k) (fun _ _=>0) b (spl 0 b).1
 | d+1,k,b=>zmu (zaq s k) (zjO s d) b (spl 0 b).1
theorem zrA {m:Mes} {g:Int→List UInt8→Nat} {b:List UInt8} {e:Nat}:∀{l:List Rec},zmu m g b l≤e↔∀r∈l,zoA m g b r≤e
 | []=>by simp [zmu]
 | r::l=>by
  have ih:=zrA (m:=m) (g:=g) (b:=b) (e:=e) (l:=l)
  unfold zmu
  rw [List.forall_mem_cons,←ih];omega
theorem zqm {m:Mes} {a c:znj} {g:Int→List UInt8→Nat} {b:List UInt8} {r:Rec} {e:Nat} (h:zeX m a b r=none) (hc0:c=none↔e=0)
  (hc:∀q,a=some q→∀q',c=some q'→∀k v,q k v=none→(q' k v=none↔g k v+1≤e)):zeX m c b r=none↔zoA m g b r≤e:=by
 unfold zeX at h⊢
 unfold zoA
 cases hv:vw m r.Number r.Wire with
 | inl x=>rw [hv] at h;cases h
 | inr p=>
  obtain ⟨i,run⟩:=p
  rw [hv] at h
  simp only at h⊢
  by_cases hi:i<0
  ·rw [if_pos hi,if_pos (.inl hi)];simp
  ·rw [if_neg hi] at h⊢
   unfold zmZ at h⊢
   by_cases hr:run=true
   ·rw [if_pos hr] at h
    rw [if_pos hr,if_pos (show i<0∨run=true from .inr hr)]
    exact ⟨fun _=>Nat.zero_le _,fun _=>h⟩
   ·rw [if_neg hr] at h⊢
    rw [if_neg (show ¬(i<0∨run=true) from fun q=>q.elim hi hr)]
    by_cases h15:(zaE m i).Kind=15∧zgB (valB b r)=false
    ·rw [if_pos h15] at h;cases h
    ·rw [if_neg h15] at h⊢
     by_cases h17:(zaE m i).Kind=17
     ·rw [if_pos h17] at h⊢
      rw [if_pos h17]
      cases a with
      | none=>cases h
      | some q=>
       simp only at h
       cases hq:q (zaE m i).Of (valB b r) with
       | some z=>rw [hq] at h;cases h
       | none=>
        cases c with
        | none=>
         have:=hc0.1 rfl
         simp only
         exact ⟨(fun hh=>nomatch hh),(fun hh=>by omega)⟩
        | some q'=>
         have:=hc q rfl q' rfl _ _ hq
         simp only
         rw [←this]
         cases q' (zaE m i).Of (valB b r)<;>simp
     ·rw [if_neg h17,if_neg h17];simp
theorem zzy (s:List Mes):∀(d e:Nat) (k:Int) (b:List UInt8),e≤d→zaT s d k b=none→(zaT s e k b=none↔zjO s d k b≤e)
 | 0,e,k,b,he,h=>by
  have:e=0:=by omega
  subst this
  refine ⟨fun _=>zrA.2 (fun r hr=>?_),fun _=>h⟩
  have h':=(zhf.1 h).1 r hr
  exact (zqm (a:=none) (c:=none) h' (by simp) (fun q hq q' hq'=>nomatch hq')).1 h'
 | d+1,0,k,b,he,h=>by
  have h':zen (zaq s k) (some (zaT s d)) b (spl 0 b)=none:=h
  rw [zhf] at h'
  show zen (zaq s k) none b (spl 0 b)=none↔zmu _ _ _ _≤0
  rw [zhf,zrA]
  constructor
  ·intro hh r hr
   exact (zqm (a:=some (zaT s d)) (c:=none) (h'.1 r hr) (by simp) (fun q hq q' hq'=>nomatch hq')).1 (hh.1 r hr)
  ·intro hh
   exact ⟨fun r hr=>(zqm (a:=some (zaT s d)) (c:=none) (h'.1 r hr) (by simp) (fun q hq q' hq'=>nomatch hq')).2 (hh r hr),h'.2⟩
 | d+1,e+1,k,b,he,h=>by
  have h':zen (zaq s k) (some (zaT s d)) b (spl 0 b)=none:=h
  rw [zhf] at h'
  show zen (zaq s k) (some (zaT s e)) b (spl 0 b)=none↔zmu _ _ _ _≤e+1
  rw [zhf,zrA]
  have key:∀r∈(spl 0 b).1,zeX (zaq s k) (some (zaT s e)) b r=none↔zoA (zaq s k) (zjO s d) b r≤e+1:=fun r hr=>
   zqm (a:=some (zaT s d)) (h'.1 r hr) (by simp) (fun q hq q' hq' k v hk=>by
    cases hq;cases hq'
    have:=zzy s d e k v (by omega) hk
    rw [this];omega)
  exact ⟨fun hh r hr=>(key r hr).1 (hh.1 r hr),fun hh=>⟨fun r hr=>(key r hr).2 (hh r hr),h'.2⟩⟩
abbrev zjJ:=zn
def zht (s:List Mes) (met:List (zjJ×PVw)):Prop:=∀h x,mget met h=some x→vw (zaq s h.message) h.number h.wire= .inr (x.Field,x.Run)
theorem zht.nil (s:List Mes):zht s []:=fun h x g=>by cases g
theorem zht.put {s:List Mes} {met:List (zjJ×PVw)} (g:zht s met) {h:zjJ} {v:PVw} (hv:vw (zaq s h.message) h.number h.wire= .inr (v.Field,v.Run)):zht s (mput met h v):=fun j x hx=>by
 rw [zjT] at hx
 by_cases e:j=h
 ·rw [if_pos e] at hx;cases hx;rw [e];exact hv
 ·rw [if_neg e] at hx;exact g j x hx
theorem zAO {s:List Mes} {k:Nat} (hk:k<s.length) (hm:(zaq s k).Fields.length≤1152921504606846976) {b:List UInt8} (hb:b.length≤1048576) (p:Int) {t:Nat} (ht:t≤b.length) {met:List (zjJ×PVw)} (g:zht s met):
  ∃met',zhd ⟨s,b,met⟩ k p t=some (prV (zfL (zaq s k) (b.take t) p).1,(zfL (zaq s k) (b.take t) p).2,met')∧zht s met':=by
 have hbt:(b.take t).length≤1048576:=by rw [List.length_take];omega
 have hcut:cut b 0 (t:Int)=some (b.take t):=by
  rw [zjl (i:=0) (j:=t) rfl rfl (Nat.zero_le _) ht];simp
 have hidx:idx s (k:Int)=some (zaq s k):=by rw [zR rfl hk,ziy hk]
 have hvl:=zGk hm hbt p
 unfold zhd
 simp only
 rw [hcut,sb,zyA hbt,sb]
 unfold zfL at hvl⊢
 by_cases h:(zfC (b.take t) p).2=0
 ·rw [itF (by simpa using h),if_neg (show ¬((zfC (b.take t) p).2≠0) from fun q=>q h)]
  rw [if_neg (show ¬((zfC (b.take t) p).2≠0) from fun q=>q h)] at hvl
  generalize (zfC (b.take t) p).1=r at hvl⊢
  cases hg:mget met (⟨(k:Int),r.Number,r.Wire⟩:zjJ) with
  | none=>
   rw [itT (by rfl),hidx,sb,hvl,sb]
   cases hv:vw (zaq s k) r.Number r.Wire with
   | inl c=>
    have hc:c=6:=by
     rcases zhS (zaq s k) r.Number r.Wire with h'| ⟨h',_⟩| ⟨_,_,h',_⟩<;>rw [hv] at h'<;>cases h'
     rfl
    subst hc
    exact ⟨met,by rw [itT (by rfl)];rfl,g⟩
   | inr q=>
    obtain ⟨i,run⟩:=q
    refine ⟨_,?_,g.put (h:=⟨(k:Int),r.Number,r.Wire⟩) (v:=prV ⟨r,i,run⟩) hv⟩
    rw [itF (by rfl)]
    rfl
  | some x=>
   have hv:=g _ _ hg
   simp only at hv
   rw [itF (by rfl),hv]
   exact ⟨met,rfl,g⟩
 ·rw [itT (by simpa using h),if_pos h]
  exact ⟨met,rfl,g⟩
def zpi (f:Fld) (run:Bool) (v:List UInt8):Int:=if run=true then (zos f.Kind v).2 else if f.Kind=15∧zgB v=false then 7 else if f.Kind=17 then 8 else 0
theorem zEn (f:Fld) (run:Bool) {v:List UInt8} (hv:v.length≤1048576):zkP f run v=some (zpi f run v):=by
 unfold zkP zpi
 cases run
 ·rw [itF (c:=false) rfl,if_neg (show ¬(false=true) by simp)]
  have e15:(if (f.Kind==15)=true then (zkf v>>=fun rv2=>some (!rv2)) else some false)=some (decide (f.Kind=15∧zgB v=false)):=by
   rw [zto (by omega),sb]
   by_cases h15:f.Kind=15
   ·rw [itT (by simpa using h15)];cases zgB v<;>simp [h15]
   ·rw [itF (by simpa using h15)];simp [h15]
  rw [e15,sb]
  by_cases h15:f.Kind=15∧zgB v=false
  ·rw [itT (decide_eq_true h15),if_pos h15]
  ·rw [itF (decide_eq_false h15),if_neg h15]
   by_cases h17:f.Kind=17
   ·rw [itT (by simpa using h17),if_pos h17]
   ·rw [itF (by simpa using h17),if_neg h17]
 ·rw [itT (c:=true) rfl,if_pos (show true=true from rfl),zDN _ hv,sb]
  unfold zcF zos
  split
  ·rfl
  ·split<;>rfl
abbrev Find:=zF
def okR (o:Option (Int×Int)) (a dp:Nat) (r:Find):Prop:=match o with
 | none=>r=⟨(dp:Int),0,0⟩
 | some (p,c)=>r.place=(a:Int)+p∧r.e=c
def zvO (s:List Mes):Nat→znj
 | 0=>none
 | d+1=>some (zaT s d)
def zsA (s:List Mes):Nat→Int→List UInt8→Nat
 | 0=>fun _ _=>0
 | d+1=>zjO s d
theorem zDs (s:List Mes) (d:Nat) (k:Int) (b:List UInt8):zaT s d k b=zen (zaq s k) (zvO s d) b (spl 0 b):=by cases d<;>rfl
theorem zGz (s:List Mes) (d:Nat) (k:Int) (b:List UInt8):zjO s d k b=zmu (zaq s k) (zsA s d) b (spl 0 b).1:=by cases d<;>rfl
theorem zFZ (s:List Mes) (d:Nat):∀g,zvO s d=some g→zuy g:=fun g h=>by
 cases d with
 | zero=>cases h
 | succ d=>cases h;exact zob s d
theorem zGY (b:List UInt8) (t a x y:Nat) (h:a+y≤t):(((b.take t).drop a).drop x).take (y - x)=(b.take (a+y)).drop (a+x):=by
 rw [List.drop_drop,List.drop_take,List.drop_take,List.take_take]
 congr 1
 omega
theorem zEs {s:List Mes} {k:Nat} (hk:k<s.length) (hm:(zaq s k).Fields.length≤1152921504606846976) {b:List UInt8} (hb:b.length≤1048576) {d:Int} {a t:Nat} (hat:a≤t) (ht:t≤b.length) {sub:znj} {gd:Int→List UInt8→Nat}
  (hg:∀g,sub=some g→zuy g) {recv:zaF→Int→zg→Int→Option (zF×(List (zn×zg)))} {met0:List (zjJ×PVw)}
  (hval:∀met,zht s met→∀(n w i:Int) (run:Bool) (base x y:Nat),vw (zaq s k) n w= .inr (i,run)→1≤x→x≤y→a+base+y≤t→
   ∃R met',recv ⟨s,b,met⟩ k ⟨⟨n,w,((a+base:Nat):Int),((a+(base+x):Nat):Int),((a+(base+y):Nat):Int)⟩,i,run⟩ d=some (R,met')∧zht s met'∧
    okR (zeX (zaq s k) sub ((b.take t).drop a) ⟨n,w,base,(base+x:Nat),(base+y:Nat)⟩) a (zoA (zaq s k) gd ((b.take t).drop a) ⟨n,w,base,(base+x:Nat),(base+y:Nat)⟩) R)
  (base:Nat) (l:List UInt8):∀(met:List (zjJ×PVw)) (dp:Nat),zht s met→l=((b.take t).drop a).drop base→base≤t - a→
  ∃met' D,zht s met'∧zcL d k recv t ⟨s,b,met0⟩ met ((a+base:Nat):Int) dp=some (match zen (zaq s k) sub ((b.take t).drop a) (spl base l) with
   | none=> .inl (met',((max dp (zmu (zaq s k) gd ((b.take t).drop a) (spl base l).1):Nat):Int))
   | some (p,c)=> .inr (met',D,(a:Int)+p,c)):=by
 have hvl:((b.take t).drop a).length=t - a:=by simp;omega
 generalize hvv:(b.take t).drop a=v at hval hvl⊢
 refine zjv (fun base l=>∀(met:List (zjJ×PVw)) (dp:Nat),zht s met→l=v.drop base→base≤t - a→
  ∃met' D,zht s met'∧zcL d k recv t ⟨s,b,met0⟩ met ((a+base:Nat):Int) dp=some (match zen (zaq s k) sub v (spl base l) with
   | none=> .inl (met',((max dp (zmu (zaq s k) gd v (spl base l).1):Nat):Int))
   | some (p,c)=> .inr (met',D,(a:Int)+p,c))) ?_ ?_ ?_ base l
 ·intro base met dp g hl hbase
  have:v.length≤base:=by have:=congrArg List.length hl;simp at this;omega
  refine ⟨met,0,g,?_⟩
  rw [zhX]
  refine zep ?_
  unfold zaI
  rw [itF (by simp;omega)]
  simp [zen,zmu]
 ·intro base l c hl h hc met dp g hld hbase
  have hlt:a+base<t:=by have:=List.length_pos_iff.2 hl;rw [hld] at this;simp at this;omega
  have hdr:(b.take t).drop (a+base)=l:=by rw [hld,←hvv,List.drop_drop]
  have e:zfC (b.take t) ((a+base:Nat):Int)=(zrec,c):=by unfold zfC;rw [if_neg (by simp;omega),Int.toNat_natCast,hdr,h]
  have e2:zfL (zaq s k) (b.take t) ((a+base:Nat):Int)=(zvw,c):=by unfold zfL;rw [e,if_pos (by simp only;omega)]
  obtain ⟨met',hlk,g'⟩:=zAO hk hm hb ((a+base:Nat):Int) ht g
  refine ⟨met',0,g',?_⟩
  rw [ziH hl h]
  refine zep ?_
  unfold zaI
  simp only
  rw [itT (by simp;omega),hlk,sb,e2,itT (by simp;omega)]
  simp [zen]
 ·intro base l n w x y hl h _ g1 g2 g3 ih met dp g hld hbase
  have hly:base+y≤t - a:=by rw [hld] at g3;simp at g3;omega
  have hdr:(b.take t).drop (a+base)=l:=by rw [hld,←hvv,List.drop_drop]
  have e:zfC (b.take t) ((a+base:Nat):Int)=(⟨n,w,((a+base:Nat):Int),((a+(base+x):Nat):Int),((a+(base+y):Nat):Int)⟩,0):=by
   unfold zfC;rw [if_neg (by simp;omega),Int.toNat_natCast,hdr,h]
   have q1:((a+base:Nat):Int)+x=((a+(base+x):Nat):Int):=by omega
   have q2:((a+base:Nat):Int)+y=((a+(base+y):Nat):Int):=by omega
   simp only [q1,q2]
  obtain ⟨met',hlk,g'⟩:=zAO hk hm hb ((a+base:Nat):Int) ht g
  have hfr:zen (zaq s k) sub v (spl base l)=match zeX (zaq s k) sub v ⟨n,w,base,(base+x:Nat),(base+y:Nat)⟩ with
    | some p=>some p
    | none=>zen (zaq s k) sub v (spl (base+y) (l.drop y)):=by
   unfold zen
   rw [zgg hl h]
   simp only [List.findSome?_cons]
   cases zeX (zaq s k) sub v ⟨n,w,base,(base+x:Nat),(base+y:Nat)⟩<;>rfl
  have hfd:zmu (zaq s k) gd v (spl base l).1=max (zoA (zaq s k) gd v ⟨n,w,base,(base+x:Nat),(base+y:Nat)⟩) (zmu (zaq s k) gd v (spl (base+y) (l.drop y)).1):=by
   rw [zgg hl h];rfl
  cases hv:vw (zaq s k) n w with
  | inl c=>
   have hc:c=6:=by
    rcases zhS (zaq s k) n w with h'| ⟨h',_⟩| ⟨_,_,h',_⟩<;>rw [hv] at h'<;>cases h'
    rfl
   subst hc
   have e2:zfL (zaq s k) (b.take t) ((a+base:Nat):Int)=(zvw,6):=by unfold zfL;rw [e];simp only [ne_eq,not_true_eq_false,if_false,hv]
   have hst:zeX (zaq s k) sub v ⟨n,w,base,(base+x:Nat),(base+y:Nat)⟩=some ((base:Int),6):=by unfold zeX;simp only [hv]
   refine ⟨met',0,g',?_⟩
   rw [hfr,hst]
   refine zep ?_
   unfold zaI
   simp only
   rw [itT (by simp;omega),hlk,sb,e2,itT (by rfl)]
   simp
  | inr q=>
   obtain ⟨i,run⟩:=q
   have e2:zfL (zaq s k) (b.take t) ((a+base:Nat):Int)=(⟨⟨n,w,((a+base:Nat):Int),((a+(base+x):Nat):Int),((a+(base+y):Nat):Int)⟩,i,run⟩,0):=by unfold zfL;rw [e];simp only [ne_eq,not_true_eq_false,if_false,hv]
   obtain ⟨R,met2,hrv,g2',hok⟩:=hval met' g' n w i run base x y hv g1 g2 (by omega)
   have hpr:prV (⟨⟨n,w,((a+base:Nat):Int),((a+(base+x):Nat):Int),((a+(base+y):Nat):Int)⟩,i,run⟩:Vw)=⟨⟨n,w,((a+base:Nat):Int),((a+(base+x):Nat):Int),((a+(base+y):Nat):Int)⟩,i,run⟩:=rfl
   cases hst:zeX (zaq s k) sub v ⟨n,w,base,(base+x:Nat),(base+y:Nat)⟩ with
   | some pc=>
    obtain ⟨p,c⟩:=pc
    have hgd:=zxx hg g1 g2 (b:=v) (base:=base) (by omega) hst
    rw [hst] at hok
    obtain ⟨o1,o2⟩:=hok
    refine ⟨met2,R.depth,g2',?_⟩
    rw [hfr,hst]
    refine zep ?_
    unfold zaI
    simp only
    rw [itT (by simp;omega),hlk,sb,e2,itF (by rfl),hpr,hrv,sb,itT (by rw [o2];simp;omega),o1,o2]
   | none=>
    rw [hst] at hok
    have hok':R=⟨((zoA (zaq s k) gd v ⟨n,w,base,(base+x:Nat),(base+y:Nat)⟩:Nat):Int),0,0⟩:=hok
    obtain ⟨met3,D,g3',h3⟩:=ih met2 (max dp (zoA (zaq s k) gd v ⟨n,w,base,(base+x:Nat),(base+y:Nat)⟩)) g2' (by rw [hld,List.drop_drop]) hly
    refine ⟨met3,D,g3',?_⟩
    rw [hfr,hst,hfd,←Nat.max_assoc,←h3]
    refine zmp ?_
    unfold zaI
    simp only
    rw [itT (by simp;omega),hlk,sb,e2,itF (by rfl),hpr,hrv,sb,hok',itF (by rfl)]
    simp only [Option.some.injEq,Sum.inl.injEq,Prod.mk.injEq,true_and]
    split<;>omega
theorem zHA {s:List Mes} (hr:zkR s) {k:Nat} (hk:k<s.length) {b:List UInt8} (hb:b.length≤1048576) {d fuel:Nat} (hd:d≤64) {a t:Nat} (ht:t≤b.length)
  (ih:∀e,d=e+1→∀(q A T:Nat) (met:List (zjJ×PVw)),q<s.length→A≤T→T≤b.length→zht s met→
   ∃R met',zbM fuel ⟨s,b,met⟩ q A T e=some (R,met')∧zht s met'∧okR (zaT s e q ((b.take T).drop A)) A (zjO s e q ((b.take T).drop A)) R)
  (met:List (zjJ×PVw)) (g:zht s met) (n w i:Int) (run:Bool) (base x y:Nat) (hv:vw (zaq s k) n w= .inr (i,run)) (h1:1≤x) (h2:x≤y) (hy:a+base+y≤t):
  ∃R met',zet (fuel+1) ⟨s,b,met⟩ k ⟨⟨n,w,((a+base:Nat):Int),((a+(base+x):Nat):Int),((a+(base+y):Nat):Int)⟩,i,run⟩ d=some (R,met')∧zht s met'∧
    okR (zeX (zaq s k) (zvO s d) ((b.take t).drop a) ⟨n,w,base,(base+x:Nat),(base+y:Nat)⟩) a (zoA (zaq s k) (zsA s d) ((b.take t).drop a) ⟨n,w,base,(base+x:Nat),(base+y:Nat)⟩) R:=by
 have hidx:idx s (k:Int)=some (zaq s k):=by rw [zR rfl hk,ziy hk]
 have hun:∀w' v',zet (fuel+1) w' k v' d=zeu (zbM fuel) (zet fuel) w' k v' d:=fun _ _=>rfl
 have hvb:valB ((b.take t).drop a) ⟨n,w,base,(base+x:Nat),(base+y:Nat)⟩=(b.take (a+(base+y))).drop (a+(base+x)):=by
  unfold valB
  simp only [Int.toNat_natCast]
  exact zGY b t a (base+x) (base+y) (by omega)
 rcases zhS (zaq s k) n w with h'| ⟨h',_⟩| ⟨j,run',h',_,hi⟩
 ·rw [hv] at h';cases h'
 ·rw [hv] at h'
  obtain ⟨rfl,rfl⟩:i= -1∧run=false:=by simpa using h'
  refine ⟨⟨0,0,0⟩,met,?_,g,?_⟩
  ·rw [hun];unfold zeu;rw [itT (by rfl)]
  ·unfold zeX zoA;simp only [hv]
   rw [if_pos (show ((-1:Int)<0) by omega),if_pos (.inl (show ((-1:Int)<0) by omega))];rfl
 ·rw [hv] at h'
  obtain ⟨rfl,rfl⟩:i=j∧run=run':=by simpa using h'
  have hfm:zaE (zaq s k) (j:Int)∈(zaq s k).Fields:=by rw [zhG hi];exact List.getElem_mem hi
  have hmem:zaq s k∈s:=by rw [ziy hk];exact List.getElem_mem hk
  have hrun:run=true→(zaE (zaq s k) (j:Int)).Kind≠17:=fun hh h17=>by
   subst hh
   have:=(zCh hv).1
   rw [h17] at this;cases this
  have hcut:cut b ((a+(base+x):Nat):Int) ((a+(base+y):Nat):Int)=some ((b.take (a+(base+y))).drop (a+(base+x))):=by
   rw [zjl rfl rfl (by omega) (by omega),List.drop_take]
  have hlen:((b.take (a+(base+y))).drop (a+(base+x))).length≤1048576:=by simp;omega
  unfold zeX zoA
  simp only [hv]
  rw [if_neg (show ¬((j:Int)<0) by omega),hvb]
  have hif:(if ((j:Int)<0∨run=true) then 0 else if (zaE (zaq s k) (j:Int)).Kind=17 then zsA s d (zaE (zaq s k) (j:Int)).Of ((b.take (a+(base+y))).drop (a+(base+x)))+1 else 0)=(if (zaE (zaq s k) (j:Int)).Kind=17 then zsA s d (zaE (zaq s k) (j:Int)).Of ((b.take (a+(base+y))).drop (a+(base+x)))+1 else 0):=by
   cases run with
   | false=>rw [if_neg (by simp)]
   | true=>rw [if_pos (.inr rfl),if_neg (hrun rfl)]
  rw [hif]
  simp only [hun]
  unfold zeu
  simp only
  rw [itF (show ((j:Int)== -1)=false by simp),hidx,sb,zR (i:=j) rfl hi,sb,←zhG hi]
  generalize hvv:(b.take (a+(base+y))).drop (a+(base+x))=v at hlen hcut⊢
  have hof:=(hr.fld _ hmem _ hfm).sub
  generalize zaE (zaq s k) (j:Int)=f at hfm hrun hof⊢
  by_cases hs:f.Kind=17∧0<d
  ·obtain ⟨e,rfl⟩:∃e,d=e+1:=⟨d - 1,by omega⟩
   have hrf:run=false:=by
    cases run with
    | false=>rfl
    | true=>exact absurd hs.1 (hrun rfl)
   subst hrf
   have hof':=hof hs.1
   obtain ⟨q,hq⟩:∃q:Nat,f.Of=q:=⟨f.Of.toNat,by omega⟩
   obtain ⟨R,met',hR,g',hok⟩:=ih e rfl q (a+(base+x)) (a+(base+y)) met (by omega) (by omega) (by omega) g
   rw [hvv] at hok
   have hw1:IntKind.i64.wrap (((e+1:Nat):Int) - 1)=(e:Int):=by rw [zD (by omega)];omega
   refine ⟨⟨IntKind.i64.wrap (R.depth+1),R.place,R.e⟩,met',?_,g',?_⟩
   ·rw [itT (by simp [hs.1]),hw1,hq,hR,sb]
   ·rw [if_pos hs.1]
    unfold zmZ
    rw [if_neg (by simp),if_neg (by rw [hs.1];simp),if_pos hs.1]
    simp only [zvO,zsA,hq]
    cases hf:zaT s e q v with
    | none=>
     rw [hf] at hok
     have hok':R=⟨((zjO s e q v:Nat):Int),0,0⟩:=hok
     have hdl:=(zzy s e e q v (Nat.le_refl _) hf).1 hf
     subst hok'
     show (⟨IntKind.i64.wrap (((zjO s e q v:Nat):Int)+1),0,0⟩:Find)=_
     rw [zD (by omega)]
     rfl
    | some pc=>
     obtain ⟨p,c⟩:=pc
     rw [hf] at hok
     obtain ⟨o1,o2⟩:=hok
     refine ⟨?_,o2⟩
     simp only
     rw [o1];push_cast;omega
  ·have hno:((f.Kind==17)&&decide (((d:Nat):Int)>0))=false:=by
    rw [Bool.and_eq_false_iff]
    by_cases h17:f.Kind=17
    ·exact .inr (decide_eq_false (by have:=fun h=>hs ⟨h17,h⟩;omega))
    ·exact .inl (by simpa using h17)
   have hlf:zmZ f run (zvO s d) ⟨n,w,base,(base+x:Nat),(base+y:Nat)⟩ v=if zpi f run v≠0 then some ((base:Int),zpi f run v) else none:=by
    unfold zmZ zpi
    by_cases hrt:run=true
    ·rw [if_pos hrt,if_pos hrt]
    ·rw [if_neg hrt,if_neg hrt]
     by_cases h15:f.Kind=15∧zgB v=false
     ·rw [if_pos h15,if_pos h15,if_pos (by omega)]
     ·rw [if_neg h15,if_neg h15]
      by_cases h17:f.Kind=17
      ·have:d=0:=by have:=fun h=>hs ⟨h17,h⟩;omega
       subst this
       rw [if_pos h17,if_pos h17,if_pos (by omega)];rfl
      ·rw [if_neg h17,if_neg h17,if_neg (by omega)]
   rw [itF hno,hcut,sb,zEn f run hlen,sb,hlf]
   by_cases h0:zpi f run v=0
   ·refine ⟨⟨0,0,0⟩,met,by rw [itF (by simpa using h0)],g,?_⟩
    rw [if_neg (by simpa using h0)]
    have:f.Kind≠17:=fun h17=>by
     have hrf:run=false:=by
      cases run with
      | false=>rfl
      | true=>exact absurd h17 (hrun rfl)
     subst hrf
     unfold zpi at h0
     rw [if_neg (by simp),if_neg (by rw [h17];simp),if_pos h17] at h0
     omega
    rw [if_neg this]
    rfl
   ·refine ⟨⟨0,((a+base:Nat):Int),zpi f run v⟩,met,by rw [itT (by simpa using h0)],g,?_⟩
    rw [if_pos h0]
    exact ⟨by simp,rfl⟩
theorem zHv {s:List Mes} (hr:zkR s) {b:List UInt8} (hb:b.length≤1048576):∀(d fuel:Nat),d≤64→2*d+2≤fuel→∀(q A T:Nat) (met:List (zjJ×PVw)),q<s.length→A≤T→T≤b.length→zht s met→
   ∃R met',zbM fuel ⟨s,b,met⟩ q A T d=some (R,met')∧zht s met'∧okR (zaT s d q ((b.take T).drop A)) A (zjO s d q ((b.take T).drop A)) R:=by
 have step:∀(d fuel:Nat),d≤64→(∀e,d=e+1→∀(q A T:Nat) (met:List (zjJ×PVw)),q<s.length→A≤T→T≤b.length→zht s met→
   ∃R met',zbM fuel ⟨s,b,met⟩ q A T e=some (R,met')∧zht s met'∧okR (zaT s e q ((b.take T).drop A)) A (zjO s e q ((b.take T).drop A)) R)→
   ∀(q A T:Nat) (met:List (zjJ×PVw)),q<s.length→A≤T→T≤b.length→zht s met→
   ∃R met',zbM (fuel+2) ⟨s,b,met⟩ q A T d=some (R,met')∧zht s met'∧okR (zaT s d q ((b.take T).drop A)) A (zjO s d q ((b.take T).drop A)) R:=by
  intro d fuel hd ih q A T met hq hAT hT g
  have hun:∀w' k' p' t' d',zbM (fuel+2) w' k' p' t' d'=zeM (zbM (fuel+1)) (zet (fuel+1)) w' k' p' t' d':=fun _ _ _ _ _=>rfl
  have hm:(zaq s q).Fields.length≤1152921504606846976:=by
   rw [ziy hq];have:=hr.few _ (List.getElem_mem hq);omega
  obtain ⟨met',D,g',hl⟩:=zEs (s:=s) hq hm hb (d:=(d:Int)) hAT hT (sub:=zvO s d) (gd:=zsA s d) (zFZ s d) (recv:=zet (fuel+1)) (met0:=met)
   (fun met1 g1 n w i run base x y hv h1 h2 hy=>zHA hr hq hb hd hT ih met1 g1 n w i run base x y hv h1 h2 hy) 0 _ met 0 g rfl (Nat.zero_le _)
  have hl':zcL d q (zet (fuel+1)) T ⟨s,b,met⟩ met (A:Int) 0=_:=hl
  rw [hun,zDs,zGz]
  unfold zeM
  simp only
  rw [List.drop_zero,Nat.zero_max] at hl'
  rw [hl',sb]
  cases hf:zen (zaq s q) (zvO s d) ((b.take T).drop A) (spl 0 ((b.take T).drop A)) with
  | none=>exact ⟨_,_,rfl,g',rfl⟩
  | some pc=>exact ⟨_,_,rfl,g',rfl,rfl⟩
 intro d
 induction d with
 | zero=>
  intro fuel hd hf
  obtain ⟨fuel,rfl⟩:∃z,fuel=z+2:=⟨fuel - 2,by omega⟩
  exact step 0 fuel hd (fun e he=>by omega)
 | succ d ih=>
  intro fuel hd hf
  obtain ⟨fuel,rfl⟩:∃z,fuel=z+2:=⟨fuel - 2,by omega⟩
  refine step (d+1) fuel hd (fun e he=>?_)
  obtain rfl:d=e:=by omega
  exact ih fuel (by omega) (by omega)
theorem zAL {s:List Mes} (hw:WS s) (root d:Int):zkg s root d=some (argS s root d):=by
 unfold zkg argS
 rw [zFK hw,sb]
 cases h:zhK s
 ·rw [itT (c:= !false) rfl,if_pos (show false=false from rfl)]
 ·rw [itF (c:= !true) rfl,if_neg (show ¬(true=false) by simp)]
  by_cases h2:root<0∨root≥s.length∨d<0∨d>64
  ·rw [itT (by simpa using h2),if_pos h2]
  ·rw [itF (by simp;omega),if_neg h2]
theorem zGC {s:List Mes} (hw:WS s) (root:Int) {b:List UInt8} (hb:b.length≤1048576) (d:Int) {fuel:Nat} (hf:130≤fuel):
  ∃R,zlV fuel s root b d=some R∧R.place=(zhv s root b d).1∧R.e=(zhv s root b d).2∧((zhv s root b d).2=0→R.depth=((zjO s d.toNat root b:Nat):Int)):=by
 unfold zlV zhv
 rw [zAL hw,sb]
 by_cases h:argS s root d=0
 ·obtain ⟨hr,h1,h2,h3,h4⟩:=zsv h
  obtain ⟨k,rfl⟩:∃k:Nat,root=k:=⟨root.toNat,by omega⟩
  obtain ⟨e,rfl⟩:∃k:Nat,d=k:=⟨d.toNat,by omega⟩
  obtain ⟨R,met',hR,_,hok⟩:=zHv hr hb e fuel (by omega) (by omega) k 0 b.length [] (by omega) (Nat.zero_le _) (Nat.le_refl _) (zht.nil s)
  have hR':zbM fuel ⟨s,b,[]⟩ k 0 (b.length:Int) e=some (R,met'):=hR
  rw [List.take_length,List.drop_zero] at hok
  rw [itF (by simpa using h),if_neg (by simpa using h),hR',sb,Int.toNat_natCast]
  refine ⟨R,rfl,?_⟩
  cases hfi:zaT s e k b with
  | none=>
   rw [hfi] at hok
   have hok':R=⟨((zjO s e k b:Nat):Int),0,0⟩:=hok
   subst hok'
   exact ⟨rfl,rfl,fun _=>rfl⟩
  | some pc=>
   obtain ⟨p,c⟩:=pc
   rw [hfi] at hok
   obtain ⟨o1,o2⟩:=hok
   have:=zob s e k b p c hfi
   simp only [Option.getD_some]
   refine ⟨by rw [o1];simp,o2,fun h0=>by omega⟩
 ·rw [itT (by simpa using h),if_pos h]
  exact ⟨_,rfl,rfl,rfl,fun h0=>absurd h0 h⟩
theorem zEm {s:List Mes} (hw:WS s) (root:Int) {b:List UInt8} (hb:b.length≤1048576) (d:Int) {fuel:Nat} (hf:130≤fuel):zkO fuel s root b d=some (zhv s root b d):=by
 obtain ⟨R,hR,h1,h2,_⟩:=zGC hw root hb d hf
 unfold zkO
 rw [hR,sb,h1,h2]
end Go.Proofs.YtcbkcblkecmjnaaGreat
namespace Go.Proofs.YtcbkcblkecmjnaaGreat
open Go
set_option linter.unusedVariables false
theorem ztt {m:Mes} (hm:m.Fields.length≤140737488351232) (n:Int):zfP m n=some (match m.Fields.findIdx? (fun f=>f.Number==n) with| some i=>((i:Int),true)| none=>(0,false)):=by
 unfold zfP zcP zay
 have h:=znr (fun f:Fld=>f.Number==n) m.Fields (fun i=>zab m.Fields n i) (zbR (by unfold zH;rw [itF (by simp)])) (fun i hi=>by
  by_cases hp:(m.Fields[i].Number==n)=true
  ·rw [if_pos hp];exact zbR (by unfold zH zgd;rw [itT (by simp;omega),zR rfl hi,sb,sb,itT hp])
  ·rw [if_neg hp];exact zdH (by unfold zH zgd;rw [itT (by simp;omega),zR rfl hi,sb,sb,itF (eq_false_of_ne_true hp),zD (by omega)];rfl)) m.Fields.length 0 (by omega) (fun j _ h=>by omega)
 have h':zab m.Fields n 0=_:=h
 rw [h',sb]
 cases m.Fields.findIdx? (fun f:Fld=>f.Number==n) with
 | none=>rfl
 | some i=>simp [sb];omega
end Go.Proofs.YtcbkcblkecmjnaaGreat
namespace Go.Proofs.YtcbkcblkecmjnaaGreat
open Go
set_option linter.unusedVariables false
theorem zlx {α:Type} (p:α→Bool) (l:List α) (F:Int→Option (Unit⊕Unit)) (h0:F (l.length:Int)=some (.inl ())) (hs:∀(i:Nat) (h:i<l.length),F (i:Int)=if p l[i]=true then F ((i+1:Nat):Int) else some (.inr ())):
  ∀(c i:Nat),i+c=l.length→F (i:Int)=some (if (l.drop i).all p=true then .inl () else .inr ())
 | 0,i,h=>by
  have e:l.drop i=[]:=List.drop_eq_nil_of_le (by omega)
  have hi:i=l.length:=by omega
  rw [e,hi,h0];simp
 | c+1,i,h=>by
  rw [hs i (by omega),List.drop_eq_getElem_cons (by omega),List.all_cons]
  cases hp:p l[i]
  ·rw [if_neg (by simp)];simp
  ·rw [if_pos rfl,Bool.true_and];exact zlx p l F h0 hs c (i+1) (by omega)
theorem zth {v:Vlu} (hb:v.Words.length≤140737488351232∧v.Texts.length≤140737488351232∧v.Subs.length≤140737488351232):zeR v=some ((zix v:Nat):Int):=by
 unfold zeR zix
 rw [zD (x:=(v.Words.length:Int)+(v.Texts.length:Int)) (by omega),zD (by omega)]
 push_cast
 rfl
theorem zzh {l:List Str} (hl:l.length≤1152921504606846976) (h:∀t∈l,t.length≤140737488351232):ziC l=some (l.all zgB):=by
 unfold ziC
 have h1:=zlx zgB l (fun i=>zfs l i) (by
   refine zkK ?_
   unfold zcr
   rw [itF (by simp)])
  (fun i hi=>by
   have hx:=h _ (List.getElem_mem hi)
   have e:lenO l[i]=some l[i]:=by unfold lenO;rw [if_pos (by omega)]
   cases hp:zgB l[i]
   ·rw [if_neg (by simp)]
    refine zkK ?_
    unfold zcr
    rw [itT (by simp;omega),zR rfl hi,sb,e,sb,zto (by omega),sb,hp,itT (by rfl)]
   ·rw [if_pos rfl]
    refine zpM ?_
    unfold zcr
    rw [itT (by simp;omega),zR rfl hi,sb,e,sb,zto (by omega),sb,hp,itF (by rfl),zD (by omega)];push_cast;rfl)
  l.length 0 (Nat.zero_add _)
 have h1':zfs l 0=_:=h1
 rw [h1',sb,List.drop_zero]
 cases l.all zgB<;>rfl
theorem zzg {k:Int} {l:List Int} (hl:l.length≤1152921504606846976) (h:∀w∈l,0≤w∧w≤18446744073709551615):zgh k l=some (l.all fun w=>kNum k&&zfJ k w==w):=by
 unfold zgh
 have h1:=zlx (fun w=>kNum k&&zfJ k w==w) l (fun i=>zdJ k l i) (by
   refine zgp ?_
   unfold zaR
   rw [itF (by simp)])
  (fun i hi=>by
   have hx:=h _ (List.getElem_mem hi)
   cases hk:kNum k
   ·rw [Bool.false_and,if_neg (by simp)]
    refine zgp ?_
    unfold zaR
    rw [itT (by simp;omega),zR rfl hi,sb,znu k hx,sb,hk,itT (by rfl)]
   ·rw [Bool.true_and]
    by_cases hp:zfJ k l[i]=l[i]
    ·rw [if_pos (by simpa using hp)]
     refine zng ?_
     unfold zaR
     rw [itT (by simp;omega),zR rfl hi,sb,znu k hx,sb,hk,itF (by simp [hp]),zD (by omega)];push_cast;rfl
    ·rw [if_neg (by simpa using hp)]
     refine zgp ?_
     unfold zaR
     rw [itT (by simp;omega),zR rfl hi,sb,znu k hx,sb,hk,itT (by simp [hp])])
  l.length 0 (Nat.zero_add _)
 have h1':zdJ k l 0=_:=h1
 rw [h1',sb,List.drop_zero]
 cases l.all (fun w=>kNum k&&zfJ k w==w)<;>rfl
theorem zEV {m:Mes} (hm:m.Fields.length≤140737488351232) {u:Str} (hu:u.length≤1048576):zhO m u=some (unkR m u):=by
 unfold zhO unkR
 have e:lenO u=some u:=by unfold lenO;rw [if_pos (by omega)]
 rw [e,sb,zyA hu,sb]
 generalize zfC u 0=r
 by_cases c1:r.2=0
 ·by_cases c2:r.1.To=(u.length:Int)
  ·rw [itF (by simp [c1,c2]),ztt hm,sb]
   have hf:fldI m r.1.Number=zjP (fun f:Fld=>f.Number==r.1.Number) m.Fields:=rfl
   rw [hf]
   cases h:m.Fields.findIdx? (fun f:Fld=>f.Number==r.1.Number) with
   | none=>rw [zhE h];simp [c1,c2]
   | some i=>rw [zhF h];simp [c1,c2]
  ·rw [itT (by simp [c2])];simp [c2]
 ·rw [itT (by simp [c1])];simp [c1]
theorem zxM {α:Type} {p:α→Bool} (h:∀x,p x=false) (l:List α):l.all p=l.isEmpty:=by
 cases l with
 | nil=>rfl
 | cons x l=>rw [List.all_cons,h];rfl
theorem zpl {α:Type} (l:List α):l.isEmpty=decide (l.length=0):=by cases l<;>simp
theorem zAF {s:List Mes} (hs:zkR s):∀(fuel:Nat),(∀(x:Msg) (k:Nat),k<s.length→2*szM x<fuel→bdM x→smM x→zeb fuel s k x=some (zgC s x k))∧
  (∀(v:Vlu) (f:Fld),2*szV v<fuel→bdV v→smV v→ziZ fuel f s v=some (zot s v f))∧
  ∀(l:List Msg) (k:Int),2*szMs l+1<fuel→l.length≤1152921504606846976→bdMs l→smMs l→zgG fuel s k l=some (decide (0≤k∧k<s.length)&&l.all fun x=>zgC s x k)
 | 0=>⟨fun x k _ h=>by omega,fun v f h=>by omega,fun l k h=>by omega⟩
 | fuel+1=>by
  obtain ⟨ih1,ih2,ih3⟩:=zAF hs fuel
  have hlen:=hs.len
  refine ⟨fun x k hk hsz hb hsm=>?_,fun v f hsz hb hsm=>?_,fun l k hsz hl hb hsm=>?_⟩
  ·obtain ⟨b1,⟨b2,b3⟩,b4⟩:=(zjL x).1 hb
   obtain ⟨s1,⟨s2,s3⟩,s4⟩:=(zBQ x).1 hsm
   rw [zjw] at hsz
   show zgI (zgG fuel) (ziZ fuel) (zeb fuel) s k x=_
   unfold zgI
   rw [zqi,decide_eq_true (show (0:Int)≤(k:Int)∧(k:Int)<(s.length:Int) by omega),Bool.true_and]
   have hm:idx s (k:Int)=some (zaq s k):=by rw [zR rfl hk,ziy hk]
   have hmm:zaq s (k:Int)∈s:=by rw [ziy hk];exact List.getElem_mem hk
   have hfew:=hs.few _ hmm
   have hfld:=hs.fld _ hmm
   generalize zaq s (k:Int)=m at hm hmm hfew hfld⊢
   rw [hm,sb]
   have hv:∀(c i:Nat) (p:Option Int) (last:Int),i+c=x.Values.length→(p=none∧last=0∨p=some last)→zeS (ziZ fuel) s x m last i=some (if zjn s (x.Values.drop i) m p=true then .inl () else .inr ()):=by
    intro c
    induction c with
    | zero=>
     intro i p last hi _
     have e:x.Values.drop i=[]:=List.drop_eq_nil_of_le (by omega)
     rw [e,zjn,if_pos rfl]
     refine zjG ?_
     unfold zcd
     rw [itF (by simp;omega)]
    | succ c ih=>
     intro i p last hi hp
     have hil:i<x.Values.length:=by omega
     have hx:idx x.Values (i:Int)=some x.Values[i]:=zR rfl hil
     have hmem:=List.getElem_mem hil
     have z1:=zgF hmem
     have hbv:=zgu.1 b4 _ hmem
     have hsv:=zpG.1 s4 _ hmem
     rw [List.drop_eq_getElem_cons hil,zjn]
     generalize x.Values[i]=v at hx hmem z1 hbv hsv⊢
     have hw1:IntKind.i64.wrap ((i:Int)+1)=((i+1:Nat):Int):=by rw [zD (by omega)];push_cast;rfl
     have hbody:zcd (ziZ fuel) s x m last i=if (decide (0≤fldI m v.Number)&&p.all (fun q=>decide (q<v.Number))&&zot s v (zaE m (fldI m v.Number)))=true then some (.inl (v.Number,((i+1:Nat):Int))) else some (.inr (.inr ())):=by
      unfold zcd
      rw [itT (by simp;omega),hx,sb,ztt (by omega),sb]
      have hf:fldI m v.Number=zjP (fun f:Fld=>f.Number==v.Number) m.Fields:=rfl
      cases h:m.Fields.findIdx? (fun f:Fld=>f.Number==v.Number) with
      | none=>
       rw [hf,zhE h,itT (by rfl),sb,itT (by rfl),if_neg (by simp)]
      | some j=>
       rw [hf,zhF h]
       have hjs:=List.findIdx?_eq_some_iff_getElem.1 h
       obtain ⟨hj,hjn,_⟩:=hjs
       have hjn':(m.Fields[j]).Number=v.Number:=by simpa using hjn
       have hlo:=(hfld _ (List.getElem_mem hj)).lo
       have hfj:idx m.Fields (j:Int)=some (zaE m (j:Int)):=by rw [zR rfl hj,zhG hj]
       have hfit:=ih2 v (zaE m (j:Int)) (by omega) hbv hsv
       have hpl:p.all (fun q=>decide (q<v.Number))=decide (last<v.Number):=by
        rcases hp with ⟨rfl,rfl⟩| rfl
        ·rw [decide_eq_true (show (0:Int)<v.Number by omega)];rfl
        ·rfl
       rw [itF (by rfl),hpl,decide_eq_true (show (0:Int)≤(j:Int) by omega),Bool.true_and]
       by_cases hlt:last<v.Number
       ·rw [itF (by simpa using hlt),decide_eq_true hlt,Bool.true_and]
        simp only
        rw [hfj,sb,hfit,sb,sb]
        cases hfv:zot s v (zaE m (j:Int))
        ·rw [itT (by rfl),if_neg (by simp)]
        ·rw [itF (by rfl),if_pos rfl,hw1]
       ·rw [itT (by simp;omega),sb,itT (by rfl),decide_eq_false hlt,if_neg (by simp)]
     generalize (decide (0≤fldI m v.Number)&&p.all (fun q=>decide (q<v.Number))&&zot s v (zaE m (fldI m v.Number)))=bb at hbody⊢
     cases bb
     ·rw [if_neg (by simp)] at hbody
      rw [zjG hbody,Bool.false_and,if_neg (by simp)]
     ·rw [if_pos rfl] at hbody
      rw [zoV hbody,ih _ (some v.Number) v.Number (by omega) (.inr rfl),Bool.true_and]
   have h1:=hv x.Values.length 0 none 0 (Nat.zero_add _) (.inl ⟨rfl,rfl⟩)
   have h1':zeS (ziZ fuel) s x m 0 0=_:=h1
   rw [List.drop_zero] at h1'
   rw [h1',sb]
   cases hrv:zjn s x.Values m none
   ·rw [if_neg (by simp)];rfl
   ·rw [if_pos rfl,Bool.true_and]
    simp only
    have h2:=zlx (unkR m) x.Unknown (fun i=>zeT x m i) (by
      refine zjH ?_
      unfold zce
      rw [itF (by simp)])
     (fun i hi=>by
      have hu:=zEV (m:=m) (by omega) (s3 _ (List.getElem_mem hi))
      cases hun:unkR m x.Unknown[i]
      ·rw [if_neg (by simp)]
       refine zjH ?_
       unfold zce
       rw [itT (by simp;omega),zR rfl hi,sb,hu,sb,hun,itT (by rfl)]
      ·rw [if_pos rfl]
       refine zoW ?_
       unfold zce
       rw [itT (by simp;omega),zR rfl hi,sb,hu,sb,hun,itF (by rfl),zD (by omega)];push_cast;rfl)
     x.Unknown.length 0 (Nat.zero_add _)
    have h2':zeT x m 0=_:=h2
    rw [h2',sb,List.drop_zero]
    cases x.Unknown.all (unkR m)<;>rfl
  ·obtain ⟨_,⟨b1,b1'⟩,⟨b2,b3⟩,b4,b5⟩:=(zlz v).1 hb
   obtain ⟨s1,⟨s2,s3⟩,s4,s5⟩:=(zBR v).1 hsm
   rw [zkW] at hsz
   show zkL (zgG fuel) (ziZ fuel) (zeb fuel) f s v=_
   unfold zkL
   rw [zth ⟨by omega,by omega,by omega⟩,sb,zzE,zqZ]
   have hmany:zix v=v.Words.length+v.Texts.length+v.Subs.length:=rfl
   by_cases h0:zix v=0∨1<zix v∧f.Repeated=false
   ·have hmr:zqB f v=false:=by
     unfold zqB
     rcases h0 with h0| ⟨h0,h1⟩
     ·simp [h0]
     ·rw [h1];simp;omega
    rw [hmr,itT (by
     rcases h0 with h0| ⟨h0,h1⟩
     ·simp [h0]
     ·rw [h1];simp;omega)]
    rfl
   ·have hmr:zqB f v=zcM f.Kind:=by
     unfold zqB
     rw [decide_eq_true (show 0<zix v by omega),Bool.true_and]
     cases hr:f.Repeated
     ·rw [hr] at h0;rw [decide_eq_true (show zix v≤1 by simp at h0;omega)];rfl
     ·simp
    rw [hmr,itF (by
     cases hr:f.Repeated
     ·rw [hr] at h0;simp at h0⊢;omega
     ·simp;omega)]
    have hW:kNum f.Kind=false→v.Words.all (znU f)=decide (v.Words.length=0):=fun h=>by
     rw [zxM (fun w=>by unfold znU;rw [h];rfl),zpl]
    have hT:f.Kind≠15→f.Kind≠16→v.Texts.all (zmz f)=decide (v.Texts.length=0):=fun h1 h2=>by
     rw [zxM (fun t=>by unfold zmz;simp [h1,h2]),zpl]
    have hS:f.Kind≠17→(v.Subs.all fun x=>f.Kind==17&&zgC s x f.Of)=decide (v.Subs.length=0):=fun h=>by
     rw [zxM (fun x=>by simp [h]),zpl]
    by_cases k15:f.Kind=15
    ·rw [itT (by simp [k15]),hW (by rw [k15];rfl),hS (by omega)]
     have hkr:zcM f.Kind=true:=by rw [k15];rfl
     rw [hkr,Bool.true_and]
     by_cases hl:v.Words.length=0∧v.Subs.length=0
     ·rw [itT (by simp;omega),zzh (by omega) b3,sb,sb,decide_eq_true hl.1,decide_eq_true hl.2,Bool.true_and,Bool.and_true]
      have:v.Texts.all (zmz f)=v.Texts.all zgB:=by
       congr 1;funext t;unfold zmz;simp [k15]
      rw [this]
     ·rw [itF (by simp;omega),sb]
      congr 1
      symm
      by_cases hw0:v.Words.length=0
      ·rw [decide_eq_false (show ¬v.Subs.length=0 by omega),Bool.and_false]
      ·rw [decide_eq_false hw0,Bool.false_and,Bool.false_and]
    ·rw [itF (by simp [k15])]
     by_cases k16:f.Kind=16
     ·rw [itT (by simp [k16]),hW (by rw [k16];rfl),hS (by omega)]
      have hkr:zcM f.Kind=true:=by rw [k16];rfl
      have hta:v.Texts.all (zmz f)=true:=by rw [List.all_eq_true];intro t _;unfold zmz;simp [k16]
      rw [hkr,hta,Bool.true_and,Bool.and_true]
      congr 1
      rw [←Bool.decide_and]
      rw [Bool.eq_iff_iff]
      simp only [beq_iff_eq,decide_eq_true_eq]
      omega
     ·rw [itF (by simp [k16])]
      by_cases k17:f.Kind=17
      ·rw [itT (by simp [k17]),hW (by rw [k17];rfl),hT k15 k16]
       have hkr:zcM f.Kind=true:=by rw [k17];rfl
       rw [hkr,Bool.true_and]
       have hsub:(v.Subs.all fun x=>f.Kind==17&&zgC s x f.Of)=v.Subs.all fun x=>zgC s x f.Of:=by
        congr 1;funext x;simp [k17]
       rw [hsub]
       by_cases hl:v.Words.length=0∧v.Texts.length=0
       ·rw [itT (by simp;omega),ih3 v.Subs f.Of (by omega) (by omega) b5 s5,sb,sb,decide_eq_true hl.1,decide_eq_true hl.2,Bool.true_and,Bool.true_and]
        by_cases hof:0≤f.Of∧f.Of<s.length
        ·rw [decide_eq_true hof,Bool.true_and]
        ·rw [decide_eq_false hof,Bool.false_and]
         congr 1
         symm
         have hne:v.Subs≠[]:=fun e=>h0 (.inl (by rw [hmany,hl.1,hl.2,e];rfl))
         obtain ⟨x,l,hxl⟩:=List.exists_cons_of_ne_nil hne
         rw [hxl,List.all_cons,zqi,decide_eq_false hof]
         rfl
       ·rw [itF (by simp;omega),sb]
        congr 1
        symm
        by_cases hw0:v.Words.length=0
        ·rw [decide_eq_false (show ¬v.Texts.length=0 by omega),Bool.and_false,Bool.false_and]
        ·rw [decide_eq_false hw0,Bool.false_and,Bool.false_and]
      ·rw [itF (by simp [k17]),hT k15 k16,hS k17]
       have hck:(v.Words.all fun w=>kNum f.Kind&&zfJ f.Kind w==w)=v.Words.all (znU f):=rfl
       by_cases hl:v.Texts.length=0∧v.Subs.length=0
       ·rw [itT (by simp;omega),zzg (by omega) b1',sb,sb,decide_eq_true hl.1,decide_eq_true hl.2,Bool.and_true,Bool.and_true,hck]
        congr 1
        cases hkn:kNum f.Kind
        ·rw [hW hkn,decide_eq_false (show ¬v.Words.length=0 by omega),Bool.and_false]
        ·have hkr:zcM f.Kind=true:=by
          rw [znt] at hkn
          unfold zcM
          simp;omega
         rw [hkr,Bool.true_and]
       ·rw [itF (by simp;omega),sb]
        congr 1
        symm
        by_cases hw0:v.Texts.length=0
        ·rw [decide_eq_false (show ¬v.Subs.length=0 by omega),Bool.and_false]
        ·rw [decide_eq_false hw0,Bool.and_false,Bool.false_and]
  ·show zfF (zgG fuel) (ziZ fuel) (zeb fuel) s k l=_
   unfold zfF
   by_cases hk:0≤k∧k<s.length
   ·rw [itF (by simp;omega),decide_eq_true hk,Bool.true_and]
    obtain ⟨n,rfl⟩:∃n:Nat,k=n:=⟨k.toNat,by omega⟩
    have h1:=zlx (fun x=>zgC s x n) l (fun i=>zeg l n (zeb fuel) s i) (by
      refine ziY ?_
      unfold zbz
      rw [itF (by simp)])
     (fun i hi=>by
      have hm:=List.getElem_mem hi
      have z1:=zhN hm
      have hr:=ih1 l[i] n (by omega) (by omega) (zhB.1 hb _ hm) (zpF.1 hsm _ hm)
      cases hp:zgC s l[i] n
      ·rw [if_neg (by simp)]
       refine ziY ?_
       unfold zbz
       rw [itT (by simp;omega),zR rfl hi,sb,hr,sb,hp,itT (by rfl)]
      ·rw [if_pos rfl]
       refine znL ?_
       unfold zbz
       rw [itT (by simp;omega),zR rfl hi,sb,hr,sb,hp,itF (by rfl),zD (by omega)];push_cast;rfl)
     l.length 0 (Nat.zero_add _)
    have h1':zeg l n (zeb fuel) s 0=_:=h1
    rw [h1',sb,List.drop_zero]
    cases l.all (fun x=>zgC s x n)<;>rfl
   ·rw [itT (by simp;omega),decide_eq_false hk];rfl
theorem zCb {fuel:Nat} {s:List Mes} (root:Int) {x:Msg} (hf:2*szM x<fuel) (hw:WS s) (hb:bdM x) (hsm:smM x) (hd:dM x≤131072):zkc fuel s root x=some (zhK s&&zgC s x root):=by
 unfold zkc
 rw [zAL hw,sb]
 by_cases h0:argS s root 0=0
 ·obtain ⟨hr,g1,g2,_,_⟩:=zsv h0
  have hrs:zhK s=true:=by
   unfold argS at h0
   cases h:zhK s with
   | true=>rfl
   | false=>rw [h,if_pos rfl] at h0;cases h0
  obtain ⟨k,rfl⟩:∃k:Nat,root=k:=⟨root.toNat,by omega⟩
  rw [itT (by simp [h0]),zvP (by omega) hb hd,sb,itT (by rfl),(zAF hr fuel).1 x k (by omega) hf hb hsm,sb,sb,hrs,Bool.true_and]
 ·rw [itF (by simp [h0]),sb]
  congr 1
  symm
  cases hrs:zhK s
  ·rfl
  ·rw [Bool.true_and,zqi]
   unfold argS at h0
   rw [if_neg (by rw [hrs];simp)] at h0
   rw [decide_eq_false (by split at h0<;>omega)];rfl
end Go.Proofs.YtcbkcblkecmjnaaGreat
namespace Go.Proofs.YtcbkcblkecmjnaaGreat
open Go
set_option linter.unusedVariables false
theorem zGZ {k:Int} (hk:kNum k=true) {v:List UInt8} (hf:zie (zfe k) v=true):pcs k v=([v],0):=by
 have hk':=znt.1 hk
 have hu:znO k v= .inr v.length∧v≠[]:=by
  unfold znO
  unfold zie zfe at hf
  by_cases h9:k<9
  ·rw [if_neg (show ¬15≤k by omega),if_neg (show ¬12≤k by omega),if_neg (show ¬9≤k by omega),if_pos rfl] at hf
   obtain ⟨h1,h2⟩:=of_decide_eq_true hf
   obtain ⟨b1,b2,b3,b4,b5,b6,b7⟩:=zhV v
   have hp:=b7 h1
   rw [if_pos h9,if_neg (by simpa using h1),h2]
   refine ⟨by simp,fun e=>?_⟩
   subst e
   simp at h2
   omega
  ·rw [if_neg h9]
   by_cases h12:k<12
   ·rw [if_neg (show ¬15≤k by omega),if_neg (show ¬12≤k by omega),if_pos (show 9≤k by omega),if_neg (by omega)] at hf
    have hf':=of_decide_eq_true hf
    have hl:v.length=4:=by omega
    rw [if_pos h12,if_neg (by omega),hl]
    exact ⟨rfl,fun e=>by rw [e] at hl;simp at hl⟩
   ·rw [if_neg (show ¬15≤k by omega),if_pos (show 12≤k by omega),if_neg (by omega)] at hf
    have hf':=of_decide_eq_true hf
    have hl:v.length=8:=by omega
    rw [if_neg h12,if_neg (by omega),hl]
    exact ⟨rfl,fun e=>by rw [e] at hl;simp at hl⟩
 rw [zpy hu.2 hu.1,List.take_length,List.drop_length,zrQ]
theorem zxF {k:Int} (hk:kNum k=true) {v:List UInt8} (hf:zie (zfe k) v=true):zcF k v=([(zxv k v).1],0):=by
 unfold zcF
 rw [if_neg (by rw [hk];simp),zGZ hk hf,if_pos rfl,ztH hk hf]
 rfl
end Go.Proofs.YtcbkcblkecmjnaaGreat
namespace Go.Proofs.YtcbkcblkecmjnaaGreat
open Go
set_option linter.unusedVariables false
def zgo (f:Fld) (T:List Th):List Th:=if f.Repeated=true then T else T.drop (T.length - 1)
def valT (g:Int→List UInt8→Msg) (f:Fld) (T:List Th):Vlu:=
 if f.Kind=17 then ⟨f.Number,[],[],if f.Repeated=true then T.map fun t=>g f.Of t.val else [g f.Of (T.flatMap (·.val))]⟩
 else if f.Kind=15∨f.Kind=16 then ⟨f.Number,[],(zgo f T).map (·.val),[]⟩
 else ⟨f.Number,(zgo f T).flatMap (fun t=>(zcF f.Kind t.val).1),[],[]⟩
theorem zmr (g:Int→List UInt8→Msg) (f:Fld) (i:Int):∀(l:List Th) (a:zji),accF g f i a l=(l.filter fun t=>t.fi==i).foldl (stp g f) a
 | [],a=>rfl
 | t::l,a=>by
  rw [accF,List.filter_cons]
  by_cases h:t.fi=i
  ·rw [if_pos h,if_pos (by simpa using h),List.foldl_cons];exact zmr g f i l _
  ·rw [if_neg h,if_neg (by simpa using h)];exact zmr g f i l _
def OkF (f:Fld) (t:Th):Prop:=(t.run=true→kNum f.Kind=true∧f.Repeated=true)∧(t.run=false→zcM f.Kind=true∧zie (zfe f.Kind) t.val=true)
theorem zxn {f:Fld} {t u:Th} {T:List Th}:zgo f (t::u::T)=if f.Repeated=true then t::u::T else zgo f (u::T):=by
 unfold zgo
 cases f.Repeated<;>simp
theorem zzI (g:Int→List UInt8→Msg) {f:Fld} (hk:kNum f.Kind=true):∀(T:List Th) (a:zji),T≠[]→(∀t∈T,OkF f t)→
  T.foldl (stp g f) a=(a.1,true,(if f.Repeated=true then a.2.2.1 else [])++(zgo f T).flatMap (fun t=>(zcF f.Kind t.val).1),(if f.Repeated=true then a.2.2.2.1 else []),a.2.2.2.2)
 | [],a,h,_=>absurd rfl h
 | [t],a,_,ht=>by
  obtain ⟨h1,h2⟩:=ht t List.mem_cons_self
  have hp:zgo f [t]=[t]:=by unfold zgo;simp
  rw [hp,List.foldl_cons,List.foldl_nil]
  unfold stp
  cases hr:t.run
  ·rw [if_neg (by simp),if_pos hk,List.flatMap_singleton,zxF hk (h2 hr).2]
  ·rw [if_pos rfl,List.flatMap_singleton]
 | t::u::T,a,_,ht=>by
  obtain ⟨h1,h2⟩:=ht t List.mem_cons_self
  have hst:stp g f a t=(a.1,true,(if f.Repeated=true then a.2.2.1 else [])++(zcF f.Kind t.val).1,(if f.Repeated=true then a.2.2.2.1 else []),a.2.2.2.2):=by
   unfold stp
   cases hr:t.run
   ·rw [if_neg (by simp),if_pos hk,zxF hk (h2 hr).2]
   ·rw [if_pos rfl]
  rw [List.foldl_cons,hst,zzI g hk (u::T) _ (by simp) fun x hx=>ht x (List.mem_cons_of_mem _ hx),zxn]
  cases hr:f.Repeated
  ·simp
  ·have hp:zgo f (u::T)=u::T:=by unfold zgo;rw [if_pos hr]
   rw [hp];simp
theorem zwY (g:Int→List UInt8→Msg) {f:Fld} (hk:kNum f.Kind=false) (h17:f.Kind≠17):∀(T:List Th) (a:zji),T≠[]→(∀t∈T,OkF f t)→
  T.foldl (stp g f) a=(a.1,true,(if f.Repeated=true then a.2.2.1 else []),(if f.Repeated=true then a.2.2.2.1 else [])++(zgo f T).map (·.val),a.2.2.2.2)
 | [],a,h,_=>absurd rfl h
 | [t],a,_,ht=>by
  obtain ⟨h1,h2⟩:=ht t List.mem_cons_self
  have hp:zgo f [t]=[t]:=by unfold zgo;simp
  have hr:t.run=false:=by
   cases hr:t.run
   ·rfl
   ·have:=(h1 hr).1;rw [hk] at this;cases this
  rw [hp,List.foldl_cons,List.foldl_nil]
  unfold stp
  rw [hr,if_neg (by simp),if_neg (by rw [hk];simp),if_neg (fun h=>h17 h.1),if_neg h17]
  rfl
 | t::u::T,a,_,ht=>by
  obtain ⟨h1,h2⟩:=ht t List.mem_cons_self
  have hr:t.run=false:=by
   cases hr:t.run
   ·rfl
   ·have:=(h1 hr).1;rw [hk] at this;cases this
  have hst:stp g f a t=(a.1,true,(if f.Repeated=true then a.2.2.1 else []),(if f.Repeated=true then a.2.2.2.1 else [])++[t.val],a.2.2.2.2):=by
   unfold stp
   rw [hr,if_neg (by simp),if_neg (by rw [hk];simp),if_neg (fun h=>h17 h.1),if_neg h17]
  rw [List.foldl_cons,hst,zwY g hk h17 (u::T) _ (by simp) fun x hx=>ht x (List.mem_cons_of_mem _ hx),zxn]
  cases hr:f.Repeated
  ·simp
  ·have hp:zgo f (u::T)=u::T:=by unfold zgo;rw [if_pos hr]
   rw [hp];simp
theorem zwX (g:Int→List UInt8→Msg) {f:Fld} (h17:f.Kind=17) (hr:f.Repeated=true):∀(T:List Th) (a:zji),(∀t∈T,OkF f t)→(T≠[]∨a.2.1=true)→
  T.foldl (stp g f) a=(a.1,true,a.2.2.1,a.2.2.2.1,a.2.2.2.2++T.map fun t=>g f.Of t.val)
 | [],a,_,h=>by
  rcases h with h| h
  ·exact absurd rfl h
  ·obtain ⟨a1,a2,a3,a4,a5⟩:=a
   simp only at h
   subst h
   simp
 | t::T,a,ht,_=>by
  obtain ⟨h1,h2⟩:=ht t List.mem_cons_self
  have hrn:t.run=false:=by
   cases hr:t.run
   ·rfl
   ·have:=(h1 hr).1;rw [h17] at this;cases this
  have hst:stp g f a t=(a.1,true,a.2.2.1,a.2.2.2.1,a.2.2.2.2++[g f.Of t.val]):=by
   unfold stp
   rw [hrn,if_neg (by simp),if_neg (by rw [h17];decide),if_pos ⟨h17,hr⟩,if_pos hr,if_pos hr]
  rw [List.foldl_cons,hst,zwX g h17 hr T _ (fun x hx=>ht x (List.mem_cons_of_mem _ hx)) (.inr rfl)]
  simp
theorem zzJ (g:Int→List UInt8→Msg) {f:Fld} (h17:f.Kind=17) (hr:f.Repeated=false):∀(T:List Th) (a:zji),(∀t∈T,OkF f t)→T≠[]→
  T.foldl (stp g f) a=(a.1++T.flatMap (·.val),true,[],[],a.2.2.2.2)
 | [],a,_,h=>absurd rfl h
 | [t],a,ht,_=>by
  obtain ⟨h1,h2⟩:=ht t List.mem_cons_self
  have hrn:t.run=false:=by
   cases hr:t.run
   ·rfl
   ·have:=(h1 hr).1;rw [h17] at this;cases this
  rw [List.foldl_cons,List.foldl_nil]
  unfold stp
  rw [hrn,if_neg (by simp),if_neg (by rw [h17];decide),if_neg (by rw [hr];simp),if_pos h17,hr]
  simp
 | t::u::T,a,ht,_=>by
  obtain ⟨h1,h2⟩:=ht t List.mem_cons_self
  have hrn:t.run=false:=by
   cases hr:t.run
   ·rfl
   ·have:=(h1 hr).1;rw [h17] at this;cases this
  have hst:stp g f a t=(a.1++t.val,true,[],[],a.2.2.2.2):=by
   unfold stp
   rw [hrn,if_neg (by simp),if_neg (by rw [h17];decide),if_neg (by rw [hr];simp),if_pos h17,hr]
   simp
  rw [List.foldl_cons,hst,zzJ g h17 hr (u::T) _ (fun x hx=>ht x (List.mem_cons_of_mem _ hx)) (by simp)]
  simp
theorem zIA (g:Int→List UInt8→Msg) {f:Fld} (hkr:zcM f.Kind=true) {T:List Th} (hT:T≠[]) (ht:∀t∈T,OkF f t):valO g f (T.foldl (stp g f) acc0)=valT g f T:=by
 unfold valT
 by_cases h17:f.Kind=17
 ·rw [if_pos h17]
  cases hr:f.Repeated
  ·rw [zzJ g h17 hr T acc0 ht hT]
   unfold valO
   rw [if_pos ⟨rfl,h17,hr⟩]
   simp [acc0]
  ·rw [zwX g h17 hr T acc0 ht (.inl hT)]
   unfold valO
   rw [if_neg (by rw [hr];simp)]
   simp [acc0]
 ·rw [if_neg h17]
  by_cases hx:f.Kind=15∨f.Kind=16
  ·rw [if_pos hx,zwY g (by unfold kNum;simp;omega) h17 T acc0 hT ht]
   unfold valO
   simp only
   rw [if_neg (show ¬(True∧f.Kind=17∧f.Repeated=false) from fun h=>h17 h.2.1)]
   cases f.Repeated<;>simp [acc0]
  ·have hk:kNum f.Kind=true:=by unfold zcM at hkr;unfold kNum;simp at hkr⊢;omega
   rw [if_neg hx,zzI g hk T acc0 hT ht]
   unfold valO
   simp only
   rw [if_neg (show ¬(True∧f.Kind=17∧f.Repeated=false) from fun h=>h17 h.2.1)]
   cases f.Repeated<;>simp [acc0]
theorem zDZ {α:Type} (l:List α) (m:Nat) (d x:α):(l++List.replicate (m+1) d).set l.length x=(l++[x])++List.replicate m d:=by
 rw [List.set_append_right _ _ (Nat.le_refl _),Nat.sub_self,List.replicate_succ,List.set_cons_zero,List.append_assoc];rfl
theorem zye {α:Type} (l:List α) (d:α) (F:List α→Int→Option (List α)) (h0:F l (l.length:Int)=some l)
  (hs:∀(i:Nat) (h:i<l.length),F (l.take i++List.replicate (l.length - i) d) (i:Int)=F (l.take (i+1)++List.replicate (l.length - (i+1)) d) ((i+1:Nat):Int)):
  ∀(c i:Nat),i+c=l.length→F (l.take i++List.replicate (l.length - i) d) (i:Int)=some l
 | 0,i,h=>by
  have hi:i=l.length:=by omega
  rw [hi,List.take_length,Nat.sub_self,List.replicate_zero,List.append_nil];exact h0
 | c+1,i,h=>by rw [hs i (by omega)];exact zye l d F h0 hs c (i+1) (by omega)
theorem zuQ {α:Type} (l:List α) (d:α) (i:Nat) (h:i<l.length):(l.take i++List.replicate (l.length - i) d).set i l[i]=l.take (i+1)++List.replicate (l.length - (i+1)) d:=by
 have hl:(l.take i).length=i:=by rw [List.length_take];omega
 have e:=zDZ (l.take i) (l.length - (i+1)) d l[i]
 rw [hl,show l.length - (i+1)+1=l.length - i by omega] at e
 rw [e,List.take_succ_eq_append_getElem h]
def At14 (b:List UInt8) (L:List Vw):Prop:=∀t∈L,0≤t.R.From∧t.R.From<t.R.At∧t.R.At≤t.R.To∧t.R.To≤b.length
theorem zxY {b:List UInt8} {L:List Vw} (h:At14 b L) {t:Vw} (ht:t∈L):cut b t.R.At t.R.To=some (valB b t.R):=by
 obtain ⟨r1,r2,r3,r4⟩:=h t ht
 obtain ⟨x,hx1⟩:∃x:Nat,t.R.At=x:=⟨t.R.At.toNat,by omega⟩
 obtain ⟨y,hy1⟩:∃x:Nat,t.R.To=x:=⟨t.R.To.toNat,by omega⟩
 rw [zjl hx1 hy1 (by omega) (by omega)];unfold valB;rw [hx1,hy1];simp only [Int.toNat_natCast]
theorem zGx {b:List UInt8} {L:List Vw} (h:At14 b L) {t:Vw} (ht:t∈L):cut b t.R.From t.R.To=some (rawB b t.R):=by
 obtain ⟨r1,r2,r3,r4⟩:=h t ht
 obtain ⟨x,hx1⟩:∃x:Nat,t.R.From=x:=⟨t.R.From.toNat,by omega⟩
 obtain ⟨y,hy1⟩:∃x:Nat,t.R.To=x:=⟨t.R.To.toNat,by omega⟩
 rw [zjl hx1 hy1 (by omega) (by omega)];unfold rawB;rw [hx1,hy1];simp only [Int.toNat_natCast]
theorem zuf {L:List Vw} {i:Nat} (h:i<L.length):idx (L.map prV) (i:Int)=some (prV L[i]):=by
 rw [zR rfl (show i<(L.map prV).length by simpa using h)];simp
theorem zGa {b:List UInt8} {L:List Vw} (hL:L.length≤1048576) (hat:At14 b L):zlT b (L.map prV)=some (L.map fun t=>valB b t.R):=by
 unfold zlT
 rw [zsN (a:=L.length) (by simp) (Int.le_refl _) (by simp;omega),sb]
 have hlen:(L.map fun t=>valB b t.R).length=L.length:=by simp
 have h:=zye (L.map fun t=>valB b t.R) ([]:Str) (fun a i=>zhn b (L.map prV) a i) (by
   refine zsk ?_
   unfold zdQ
   rw [itF (by simp)])
  (fun i hi=>by
   have hil:i<L.length:=by simpa using hi
   refine zsj ?_
   unfold zdQ
   have hc:=zxY hat (List.getElem_mem hil)
   rw [itT (by simp;omega),zuf hil,sb]
   have e1:(prV L[i]).Record.At=L[i].R.At:=rfl
   have e2:(prV L[i]).Record.To=L[i].R.To:=rfl
   have e3:=zuQ (L.map fun t=>valB b t.R) ([]:Str) i hi
   rw [List.getElem_map] at e3
   rw [e1,e2,hc,sb,zR rfl (show i<_ by rw [List.length_append,List.length_take,List.length_replicate];omega),sb,Int.toNat_natCast,e3,zD (by omega)]
   push_cast;rfl) L.length 0 (by simp)
 rw [hlen,List.take_zero,List.nil_append,Nat.sub_zero] at h
 have h':zhn b (L.map prV) (List.replicate L.length []) 0=_:=h
 rw [h',sb]
theorem zEj {k:Int} {b:List UInt8} (hb:b.length≤1048576) {L:List Vw} (hL:L.length≤1048576) (hat:At14 b L) (hw:(L.flatMap fun t=>(zcF k (valB b t.R)).1).length≤1048576):
  zlU k b (L.map prV)=some (L.flatMap fun t=>(zcF k (valB b t.R)).1):=by
 unfold zlU
 have key:∀(post pre:List Vw),L=pre++post→zho b k (L.map prV) (pre.flatMap fun t=>(zcF k (valB b t.R)).1) pre.length=some (L.flatMap fun t=>(zcF k (valB b t.R)).1):=by
  intro post
  induction post with
  | nil=>
   intro pre e
   rw [List.append_nil] at e
   subst e
   refine zsm ?_
   unfold zdR
   rw [itF (by simp)]
  | cons t post ih=>
   intro pre e
   have hlt:pre.length<L.length:=by rw [e];simp
   have hti:L[pre.length]=t:=by
    subst e;simp
   have ht:t∈L:=by rw [e];simp
   obtain ⟨r1,r2,r3,r4⟩:=hat t ht
   have hvl:=zHq b t.R r3 r1 r2 r4
   have e2:(L.flatMap fun t=>(zcF k (valB b t.R)).1)=(pre.flatMap fun t=>(zcF k (valB b t.R)).1)++((zcF k (valB b t.R)).1++post.flatMap fun t=>(zcF k (valB b t.R)).1):=by rw [e];simp
   have hsum:=congrArg List.length e2
   rw [List.length_append,List.length_append] at hsum
   refine (zsl (all':=(pre++[t]).flatMap fun t=>(zcF k (valB b t.R)).1) (v':=(((pre++[t]).length:Nat):Int)) ?_).trans (ih (pre++[t]) (by rw [e];simp))
   unfold zdR
   have hc:=zxY hat ht
   rw [itT (by simp;omega),zuf hlt,sb,hti]
   have e1:(prV t).Record.At=t.R.At:=rfl
   have e2:(prV t).Record.To=t.R.To:=rfl
   rw [e1,e2,hc,sb,zDX k (by omega),sb,ziI (by omega),sb,zD (by omega),List.flatMap_append,List.flatMap_singleton,List.length_append,List.length_singleton]
   push_cast;rfl
 have h:=key L [] rfl
 have h':zho b k (L.map prV) [] 0=_:=h
 rw [h',sb]
theorem zAA {b:List UInt8} {L:List Vw} (hL:L.length≤1048576) (hat:At14 b L):zhY b (L.map prV) (List.replicate L.length []) 0=some (L.map fun t=>valB b t.R):=by
 have hlen:(L.map fun t=>valB b t.R).length=L.length:=by simp
 have h:=zye (L.map fun t=>valB b t.R) ([]:List UInt8) (fun a i=>zhY b (L.map prV) a i) (by
   refine ztl ?_
   unfold zez
   rw [itF (by simp)])
  (fun i hi=>by
   have hil:i<L.length:=by simpa using hi
   refine ztk ?_
   unfold zez
   have hc:=zxY hat (List.getElem_mem hil)
   rw [itT (by simp;omega),zuf hil,sb]
   have e1:(prV L[i]).Record.At=L[i].R.At:=rfl
   have e2:(prV L[i]).Record.To=L[i].R.To:=rfl
   have e3:=zuQ (L.map fun t=>valB b t.R) ([]:List UInt8) i hi
   rw [List.getElem_map] at e3
   rw [e1,e2,hc,sb,zR rfl (show i<_ by rw [List.length_append,List.length_take,List.length_replicate];omega),sb,Int.toNat_natCast,e3,zD (by omega)]
   push_cast;rfl) L.length 0 (by simp)
 rw [hlen,List.take_zero,List.nil_append,Nat.sub_zero] at h
 exact h
theorem zte {rec:List zh→Int→List UInt8→Option zc} {g:Int→List UInt8→Msg} {s:List Mes} {f:Fld} {p:List (List UInt8)} (hp:p.length≤1048576) (hg:∀v∈p,rec s f.Of v=some (g f.Of v)):
  zgi f p rec s (List.replicate p.length ⟨[],[]⟩) 0=some (p.map (g f.Of)):=by
 have hlen:(p.map (g f.Of)).length=p.length:=by simp
 have h:=zye (p.map (g f.Of)) (⟨[],[]⟩:Msg) (fun a i=>zgi f p rec s a i) (by
   refine ztn ?_
   unfold zeA
   rw [itF (by simp)])
  (fun i hi=>by
   have hil:i<p.length:=by simpa using hi
   refine ztm ?_
   unfold zeA
   have e3:=zuQ (p.map (g f.Of)) (⟨[],[]⟩:Msg) i hi
   rw [List.getElem_map] at e3
   rw [itT (by simp;omega),zR rfl hil,sb,hg _ (List.getElem_mem hil),sb,zR rfl (show i<_ by rw [List.length_append,List.length_take,List.length_replicate];omega),sb,Int.toNat_natCast,e3,zD (by omega)]
   push_cast;rfl) p.length 0 (by simp)
 rw [hlen,List.take_zero,List.nil_append,Nat.sub_zero] at h
 exact h
def kn14 (acc:List (Int×List PVw)) (v:Vw):List (Int×List PVw):=if v.Field= -1 then acc else mput acc v.R.Number ((mget acc v.R.Number).getD []++[prV v])
def zgs (L:List Vw) (n:Int):List Vw:=L.filter fun v=>decide (v.Field≠ -1∧v.R.Number=n)
theorem zBt (n:Int):∀(L:List Vw) (acc:List (Int×List PVw)),(mget (L.foldl kn14 acc) n).getD []=(mget acc n).getD []++(zgs L n).map prV
 | [],acc=>by simp [zgs]
 | v::L,acc=>by
  rw [List.foldl_cons,zBt n L]
  unfold zgs kn14
  rw [List.filter_cons]
  by_cases hf:v.Field= -1
  ·rw [if_pos hf,if_neg (by simp [hf])]
  ·rw [if_neg hf,zjT]
   by_cases hn:n=v.R.Number
   ·rw [if_pos hn,if_pos (by simp [hf,hn]),hn]
    simp
   ·rw [if_neg hn,if_neg (by simp;exact fun _ e=>hn e.symm)]
theorem zFv {κ ν:Type} [DecidableEq κ] {m:List (κ×ν)} {k:κ} {x:ν} (h:mget m k=some x):k∈m.map Prod.fst:=by
 induction m with
 | nil=>cases h
 | cons p m ih=>
  rw [mget] at h
  split at h
  ·rename_i e;rw [e];exact List.mem_cons_self
  ·exact List.mem_cons_of_mem _ (ih h)
theorem zyz {κ ν:Type} [DecidableEq κ] (m:List (κ×ν)) (k j:κ) (x:ν):j∈(mput m k x).map Prod.fst↔j∈m.map Prod.fst∨j=k:=by
 rw [znx]
 cases h:mget m k with
 | none=>simp
 | some y=>
  simp only
  exact ⟨.inl,fun h'=>h'.elim id fun e=>e▸zFv h⟩
theorem zCB (n:Int):∀(L:List Vw) (acc:List (Int×List PVw)),n∈(L.foldl kn14 acc).map Prod.fst↔n∈acc.map Prod.fst∨∃v∈L,v.Field≠ -1∧v.R.Number=n
 | [],acc=>by simp
 | v::L,acc=>by
  rw [List.foldl_cons,zCB n L]
  unfold kn14
  by_cases hf:v.Field= -1
  ·rw [if_pos hf]
   constructor
   ·rintro (h| ⟨u,hu,h⟩)
    ·exact .inl h
    ·exact .inr ⟨u,List.mem_cons_of_mem _ hu,h⟩
   ·rintro (h| ⟨u,hu,h⟩)
    ·exact .inl h
    ·rcases List.mem_cons.1 hu with rfl| hu
     ·exact absurd hf h.1
     ·exact .inr ⟨u,hu,h⟩
  ·rw [if_neg hf,zyz]
   constructor
   ·rintro ((h| h)| ⟨u,hu,h⟩)
    ·exact .inl h
    ·exact .inr ⟨v,List.mem_cons_self,hf,h.symm⟩
    ·exact .inr ⟨u,List.mem_cons_of_mem _ hu,h⟩
   ·rintro (h| ⟨u,hu,h⟩)
    ·exact .inl (.inl h)
    ·rcases List.mem_cons.1 hu with rfl| hu
     ·exact .inl (.inr h.2.symm)
     ·exact .inr ⟨u,hu,h⟩
theorem zAb:∀(L:List Vw) (acc:List (Int×List PVw)),(acc.map Prod.fst).Nodup→((L.foldl kn14 acc).map Prod.fst).Nodup
 | [],acc,h=>h
 | v::L,acc,h=>by
  rw [List.foldl_cons]
  refine zAb L _ ?_
  unfold kn14
  split
  ·exact h
  ·exact zqT h _ _
theorem zFx {κ ν:Type} [DecidableEq κ] (m:List (κ×ν)) (k:κ) (x:ν):(mput m k x).length≤m.length+1:=by
 have h:=congrArg List.length (znx m k x)
 rw [List.length_map] at h
 rw [h]
 split<;>simp
theorem zBu:∀(L:List Vw) (acc:List (Int×List PVw)),(L.foldl kn14 acc).length≤acc.length+L.length
 | [],acc=>by simp
 | v::L,acc=>by
  rw [List.foldl_cons]
  have h:=zBu L (kn14 acc v)
  have h2:(kn14 acc v).length≤acc.length+1:=by
   unfold kn14
   split
   ·omega
   ·exact zFx _ _ _
  rw [List.length_cons];omega
theorem zyh {b:List UInt8} {L:List Vw} (hL:L.length≤1048576) (hat:At14 b L) (hneg:∀v∈L,v.Field= -1∨0≤v.Field) (x:Int×Int):∀(post pre:List Vw),L=pre++post→
  zfR b (L.map prV,x) (pre.foldl kn14 []) pre.length (unkO (pre.map (thOf b)))=some (L.foldl kn14 [],unkO (L.map (thOf b))):=by
 intro post
 induction post with
 | nil=>
  intro pre e
  rw [List.append_nil] at e
  subst e
  refine zqw ?_
  unfold zcD
  rw [itF (by simp)]
 | cons v post ih=>
  intro pre e
  have hlt:pre.length<L.length:=by rw [e];simp
  have hti:L[pre.length]=v:=by subst e;simp
  have hv:v∈L:=by rw [e];simp
  have hx:idx (L.map prV) (pre.length:Nat)=some (prV v):=by rw [zuf hlt,hti]
  have hfi:(prV v).Field=v.Field:=rfl
  have hun:(unkO (pre.map (thOf b))).length≤pre.length:=by
   unfold unkO
   rw [List.length_map]
   exact Nat.le_trans (List.length_filter_le _ _) (by simp)
  have hw:IntKind.i64.wrap (((pre.length:Nat):Int)+1)=(((pre++[v]).length:Nat):Int):=by rw [zD (by omega),List.length_append,List.length_singleton];push_cast;rfl
  have hF:=(hat v hv)
  by_cases hf:v.Field= -1
  ·refine (zlb (known':=(pre++[v]).foldl kn14 []) (v':=(((pre++[v]).length:Nat):Int)) (f':=unkO ((pre++[v]).map (thOf b))) ?_).trans (ih (pre++[v]) (by rw [e];simp))
   unfold zcD
   have e1:(prV v).Record.From=v.R.From:=rfl
   have e2:(prV v).Record.To=v.R.To:=rfl
   have hu:unkO ((pre++[v]).map (thOf b))=unkO (pre.map (thOf b))++[rawB b v.R]:=by
    unfold unkO
    rw [List.map_append,List.filter_append,List.map_append]
    congr 1
    rw [List.map_singleton,List.filter_cons,if_pos (by show decide (v.Field<0)=true;rw [hf];rfl)]
    rfl
   have hk:(pre++[v]).foldl kn14 []=pre.foldl kn14 []:=by rw [List.foldl_append,List.foldl_cons,List.foldl_nil];unfold kn14;rw [if_pos hf]
   rw [itT (by simp;omega),hx,sb,itT (by rw [hfi,hf];rfl),e1,e2,zGx hat hv,sb,ziI (by simp;omega),sb,hw,hu,hk]
  ·refine (zlb (known':=(pre++[v]).foldl kn14 []) (v':=(((pre++[v]).length:Nat):Int)) (f':=unkO ((pre++[v]).map (thOf b))) ?_).trans (ih (pre++[v]) (by rw [e];simp))
   unfold zcD
   have e1:(prV v).Record.Number=v.R.Number:=rfl
   have hg:=zBt v.R.Number pre []
   have hlen:((mget (pre.foldl kn14 []) v.R.Number).getD []).length≤pre.length:=by
    rw [hg]
    have:(zgs pre v.R.Number).length≤pre.length:=List.length_filter_le _ _
    simpa [mget] using this
   have hk:(pre++[v]).foldl kn14 []=mput (pre.foldl kn14 []) v.R.Number ((mget (pre.foldl kn14 []) v.R.Number).getD []++[prV v]):=by rw [List.foldl_append,List.foldl_cons,List.foldl_nil];show kn14 (pre.foldl kn14 []) v=_;unfold kn14;rw [if_neg hf]
   rw [itT (by simp;omega),hx,sb,itF (by rw [hfi];simpa using hf),e1,ziI (by simp only [List.length_singleton];omega),sb,hw,hk]
   have hu:unkO ((pre++[v]).map (thOf b))=unkO (pre.map (thOf b)):=by
    unfold unkO
    rw [List.map_append,List.filter_append,List.map_append,List.map_singleton,List.filter_cons,if_neg (by show ¬decide (v.Field<0)=true;have:=(hneg v hv).resolve_left hf;simp;omega)]
    simp
   rw [hu]
theorem zzY {L:List Vw} (hwf:∀v∈L,v.Field≠ -1→(Lit.int .i64 v.R.Number).wf=true) (hL:L.length≤1048576):
  ∃ks,zrC (L.foldl kn14 [])=some ks∧ks.Pairwise (·<·)∧∀n,n∈ks↔∃v∈L,v.Field≠ -1∧v.R.Number=n:=by
 have hlen:=zBu L []
 have hnd:=zAb L [] (by simp)
 have hk:=fun n=>zCB n L []
 generalize L.foldl kn14 []=K at hlen hnd hk
 refine ⟨(K.map Prod.fst).mergeSort fun x y=>decide (x≤y),?_,?_,fun n=>?_⟩
 ·have hall:(K.all fun p=>(Lit.int .i64 p.1).wf)=true:=by
   rw [List.all_eq_true]
   intro p hp
   obtain h| ⟨v,hv,hf,hn⟩:=(hk p.1).1 (List.mem_map_of_mem hp)
   ·simp at h
   ·rw [←hn];exact hwf v hv hf
  have hl:K.length*8≤140737488355328:=by rw [List.length_nil] at hlen;omega
  unfold zrC
  rw [if_pos ⟨hall,hl⟩]
 ·have hp:=List.mergeSort_perm (K.map Prod.fst) fun x y=>decide (x≤y)
  have hs:=List.pairwise_mergeSort (le:=fun x y:Int=>decide (x≤y)) (fun a b c h k=>by simp at*;omega) (fun a b=>by simp;omega) (K.map Prod.fst)
  have hnd':=hp.nodup_iff.2 hnd
  generalize (K.map Prod.fst).mergeSort (fun x y=>decide (x≤y))=ks at hs hnd'
  refine (List.Pairwise.and hs hnd').imp fun {a b} h=>?_
  have h1:a≤b:=by simpa using h.1
  have h2:a≠b:=h.2
  omega
 ·rw [List.mem_mergeSort,hk n]
  simp
theorem ztF:∀(l k:List Int),l.Pairwise (·<·)→k.Pairwise (·<·)→(∀w,w∈l↔w∈k)→l=k
 | [],[],_,_,_=>rfl
 | [],y::k,_,_,h=>absurd ((h y).2 List.mem_cons_self) (by simp)
 | x::l,[],_,_,h=>absurd ((h x).1 List.mem_cons_self) (by simp)
 | x::l,y::k,hl,hk,h=>by
  have hl':=List.pairwise_cons.1 hl
  have hk':=List.pairwise_cons.1 hk
  have hxy:x=y:=by
   rcases List.mem_cons.1 ((h x).1 List.mem_cons_self) with h1| h1
   ·exact h1
   ·rcases List.mem_cons.1 ((h y).2 List.mem_cons_self) with h2| h2
    ·exact h2.symm
    ·have a1:=hk'.1 x h1
     have a2:=hl'.1 y h2
     omega
  subst hxy
  congr 1
  refine ztF l k hl'.2 hk'.2 fun w=>?_
  have nl:x∉l:=fun hm=>by have:=hl'.1 x hm;omega
  have nk:x∉k:=fun hm=>by have:=hk'.1 x hm;omega
  have:=h w
  simp only [List.mem_cons] at this
  constructor
  ·intro hw
   rcases this.1 (.inr hw) with rfl| h'
   ·exact absurd hw nl
   ·exact h'
  ·intro hw
   rcases this.2 (.inr hw) with rfl| h'
   ·exact absurd hw nk
   ·exact h'
theorem zuR {α:Type} (vo:Int→α) (p:α→Bool) (met:Int→Bool):∀(o:List Int),(∀i∈o,met i=false→p (vo i)=false)→(o.map vo).filter p=((o.filter met).map vo).filter p
 | [],_=>rfl
 | i::o,h=>by
  have ih:=zuR vo p met o fun j hj=>h j (List.mem_cons_of_mem _ hj)
  rw [List.map_cons,List.filter_cons,List.filter_cons]
  cases hm:met i
  ·rw [h i List.mem_cons_self hm,if_neg (by simp),if_neg (by simp),ih]
  ·rw [if_pos rfl,List.map_cons,List.filter_cons,ih]
def zow (f:Fld) (L:List Vw):List Vw:=if f.Repeated=true then L else L.drop (L.length - 1)
theorem zsT (b:List UInt8) (f:Fld) (L:List Vw):(zow f L).map (thOf b)=zgo f (L.map (thOf b)):=by
 unfold zow zgo
 split
 ·rfl
 ·rw [List.map_drop,List.length_map]
theorem zDL {f:Fld} {L:List Vw}:∀v∈zow f L,v∈L:=fun v hv=>by
 unfold zow at hv
 split at hv
 ·exact hv
 ·exact List.mem_of_mem_drop hv
theorem zDK (f:Fld) (L:List Vw):(zow f L).length≤L.length:=by
 unfold zow
 split
 ·exact Nat.le_refl _
 ·rw [List.length_drop];omega
theorem zyj:∀(T:List Th),(T.flatMap (·.val)).length+T.length≤wt T
 | []=>by simp [wt]
 | t::T=>by have:=zyj T;rw [List.flatMap_cons,List.length_append,List.length_cons,wt];omega
theorem zwg (k:Int):∀(T:List Th),(T.flatMap fun t=>(zcF k t.val).1).length≤wt T
 | []=>by simp [wt]
 | t::T=>by have:=zwg k T;have:=zxE k t.val;rw [List.flatMap_cons,List.length_append,wt];omega
theorem zCS (f:Fld) (T:List Th):wt (zgo f T)≤wt T:=by
 unfold zgo
 split
 ·exact Nat.le_refl _
 ·have:∀(T:List Th) (k:Nat),wt (T.drop k)≤wt T:=fun T=>by
   induction T with
   | nil=>intro k;simp
   | cons t T ih=>
    intro k
    cases k with
    | zero=>simp
    | succ k=>have:=ih k;rw [List.drop_succ_cons,wt];omega
  exact this T _
theorem zGe {rec1:List zh→Int→List UInt8→Option zc} {rec2:List zh→Fld→List UInt8→List PVw→Option (List zc)} {rec3:List zh→Fld→List UInt8→List PVw→Option zb}
  {g:Int→List UInt8→Msg} {s:List Mes} {f:Fld} {b:List UInt8} {L:List Vw} (hat:At14 b L) (hne:L≠[]) (hw:wt (L.map (thOf b))≤1048576)
  (hg1:f.Repeated=true→∀t∈L,rec1 s f.Of (valB b t.R)=some (g f.Of (valB b t.R))) (hg2:f.Repeated=false→rec1 s f.Of ((L.map (thOf b)).flatMap (·.val))=some (g f.Of ((L.map (thOf b)).flatMap (·.val)))):
  zja rec1 rec2 rec3 s f b (L.map prV)=some (if f.Repeated=true then (L.map (thOf b)).map fun t=>g f.Of t.val else [g f.Of ((L.map (thOf b)).flatMap (·.val))]):=by
 have hL:L.length≤1048576:=by have:=zwi (L.map (thOf b));rw [List.length_map] at this;omega
 have hfl:((L.map fun t=>valB b t.R).flatten)=(L.map (thOf b)).flatMap (·.val):=by
  rw [List.flatMap_map,List.flatMap_def];rfl
 have hflen:=zyj (L.map (thOf b))
 unfold zja
 rw [zsN (a:=L.length) (by simp) (Int.le_refl _) (by simp;omega),sb,zAA hL hat,sb]
 cases hr:f.Repeated
 ·by_cases h1:1<L.length
  ·rw [itT (by simp;omega),zDo (by simp;omega) (by rw [hfl];omega),sb,sb,zsN (bytes:=48) (a:=1) (by simp) (Int.le_refl _) (by simp),sb]
   have h:=zte (rec:=rec1) (g:=g) (s:=s) (f:=f) (p:=[(L.map fun t=>valB b t.R).flatten]) (by simp) (fun v hv=>by
    simp only [List.mem_cons,List.not_mem_nil,or_false] at hv
    rw [hv,hfl];exact hg2 hr)
   have h':zgi f [(L.map fun t=>valB b t.R).flatten] rec1 s (List.replicate 1 ⟨[],[]⟩) 0=_:=h
   rw [h',sb,if_neg (by simp),List.map_singleton,hfl]
  ·have hl1:L.length=1:=by
    have:L.length≠0:=fun e=>hne (List.eq_nil_of_length_eq_zero e)
    omega
   obtain ⟨t,rfl⟩:=List.length_eq_one_iff.1 hl1
   rw [itF (by simp),sb,zsN (bytes:=48) (a:=1) (by simp) (Int.le_refl _) (by simp),sb]
   have hv1:([t].map (thOf b)).flatMap (·.val)=valB b t.R:=by simp [thOf]
   have h:=zte (rec:=rec1) (g:=g) (s:=s) (f:=f) (p:=[valB b t.R]) (by simp) (fun v hv=>by
    simp only [List.mem_cons,List.not_mem_nil,or_false] at hv
    rw [hv]
    have:=hg2 hr
    rw [hv1] at this;exact this)
   have h':zgi f (List.map (fun t=>valB b t.R) [t]) rec1 s (List.replicate 1 ⟨[],[]⟩) 0=_:=h
   rw [h',sb,if_neg (by simp),hv1,List.map_singleton]
 ·rw [itF (by rfl),sb,zsN (a:=L.length) (by simp) (Int.le_refl _) (by simp;omega),sb]
  have h:=zte (rec:=rec1) (g:=g) (s:=s) (f:=f) (p:=L.map fun t=>valB b t.R) (by simpa using hL) (fun v hv=>by
   obtain ⟨t,ht,rfl⟩:=List.mem_map.1 hv
   exact hg1 hr t ht)
  rw [List.length_map] at h
  rw [h,sb,if_pos rfl,List.map_map,List.map_map]
  rfl
theorem zEi {rec1:List zh→Int→List UInt8→Option zc} {rec2:List zh→Fld→List UInt8→List PVw→Option (List zc)} {rec3:List zh→Fld→List UInt8→List PVw→Option zb}
  {g:Int→List UInt8→Msg} {s:List Mes} {f:Fld} {b:List UInt8} (hb:b.length≤1048576) {L:List Vw} (hat:At14 b L) (hne:L≠[]) (hw:wt (L.map (thOf b))≤1048576)
  (h2:f.Kind=17→rec2 s f b (L.map prV)=some (if f.Repeated=true then (L.map (thOf b)).map fun t=>g f.Of t.val else [g f.Of ((L.map (thOf b)).flatMap (·.val))])):
  zhZ rec1 rec2 rec3 s f b (L.map prV)=some (valT g f (L.map (thOf b))):=by
 have hL:L.length≤1048576:=by have:=zwi (L.map (thOf b));rw [List.length_map] at this;omega
 have hl0:L.length≠0:=fun e=>hne (List.eq_nil_of_length_eq_zero e)
 unfold zhZ valT
 by_cases h17:f.Kind=17
 ·rw [itF (by simp [h17]),sb,itT (by simp [h17]),h2 h17,sb,if_pos h17]
 ·have hp:(if ((!f.Repeated)&&(f.Kind !=17))=true then (cut (L.map prV) (IntKind.i64.wrap (((L.map prV).length:Int) - 1)) ((L.map prV).length:Int)>>=fun v2=>some v2) else some (L.map prV))=some ((zow f L).map prV):=by
   unfold zow
   cases hr:f.Repeated
   ·rw [itT (by simp [h17]),if_neg (by simp)]
    have hc:cut (L.map prV) (IntKind.i64.wrap (((L.map prV).length:Int) - 1)) ((L.map prV).length:Int)=some ((L.drop (L.length - 1)).map prV):=by
     rw [zjl (a:=L.length - 1) (b:=L.length) (by rw [List.length_map,zD (by omega)];omega) (by simp) (by omega) (by simp)]
     rw [List.map_drop,List.take_of_length_le (by simp)]
    rw [hc,sb]
   ·rw [itF (by rfl),if_pos rfl]
  rw [hp,sb,itF (by simp [h17]),if_neg h17]
  have hpw:=zCS f (L.map (thOf b))
  rw [←zsT] at hpw
  have hpl:=zDK f L
  have hpa:At14 b (zow f L):=fun v hv=>hat v (zDL v hv)
  by_cases hx:f.Kind=15∨f.Kind=16
  ·have hk:(if (f.Kind==15)=true then some (f.Kind==15) else some (f.Kind==16))=some true:=by
    rcases hx with h| h
    ·rw [itT (by simp [h])];simp [h]
    ·rw [itF (by simp [h])];simp [h]
   rw [hk,sb,itT rfl,zGa (by omega) hpa,sb,if_pos hx,←zsT,List.map_map]
   rfl
  ·have hk:(if (f.Kind==15)=true then some (f.Kind==15) else some (f.Kind==16))=some false:=by
    rw [itF (by simp;omega)];simp;omega
   have hfm:((zow f L).flatMap fun t=>(zcF f.Kind (valB b t.R)).1)=((zow f L).map (thOf b)).flatMap fun t=>(zcF f.Kind t.val).1:=by rw [List.flatMap_map];rfl
   have hwl:=zwg f.Kind ((zow f L).map (thOf b))
   rw [hk,sb,itF rfl,zEj hb (by omega) hpa (by rw [hfm];omega),sb,if_neg hx,←zsT,hfm]
theorem zuT {s:List Mes} {e:Nat} {k:Int}:∀(l:List (List UInt8)),(∀v∈l,zaT s e k v=none)→zaT s e k l.flatten=none
 | [],_=>by rw [List.flatten_nil];exact zzD s e k
 | v::l,h=>by
  rw [List.flatten_cons]
  exact (zyg s e k l.flatten (h v List.mem_cons_self)).2 (zuT l fun u hu=>h u (List.mem_cons_of_mem _ hu))
theorem zxG (p:Th→Bool):∀(T:List Th),wt (T.filter p)≤wt T
 | []=>by simp
 | t::T=>by
  have:=zxG p T
  rw [List.filter_cons]
  split
  ·rw [wt,wt];omega
  ·rw [wt];omega
theorem znd {rec3:List zh→Fld→List UInt8→List PVw→Option zb} {s:List Mes} {m:Mes} {b:List UInt8} {q:List (Int×List PVw)×List Str} {V:Int→Vlu} {ks:List Int} (hks:ks.length≤1048576)
  (hrow:∀n∈ks,∃(x:PVw) (f:Fld),idx ((mget q.1 n).getD []) 0=some x∧idx m.Fields x.Field=some f∧rec3 s f b ((mget q.1 n).getD [])=some (V n)∧(V n).Words.length≤1048576∧(V n).Texts.length≤1048576∧(V n).Subs.length≤1048577):
  ∀(c i:Nat) (out:List Vlu),i+c=ks.length→out.length≤i→zfS b q rec3 s ks m i out=some (out++((ks.drop i).map V).filter fun v=>decide (0<zix v))
 | 0,i,out,hi,_=>by
  have e:ks.drop i=[]:=List.drop_eq_nil_of_le (by omega)
  rw [e]
  refine zqx ?_
  unfold zcE
  rw [itF (by simp;omega)]
  simp
 | c+1,i,out,hi,ho=>by
  have hil:i<ks.length:=by omega
  obtain ⟨x,f,h1,h2,h3,h4,h5,h6⟩:=hrow _ (List.getElem_mem hil)
  rw [List.drop_eq_getElem_cons hil,List.map_cons,List.filter_cons]
  have hx:idx ks (i:Int)=some ks[i]:=zR rfl hil
  have hw:IntKind.i64.wrap ((i:Int)+1)=((i+1:Nat):Int):=by rw [zD (by omega)];push_cast;rfl
  by_cases hp:0<zix (V ks[i])
  ·rw [if_pos (by simpa using hp)]
   refine (zlc (v6':=((i+1:Nat):Int)) (f3':=out++[V ks[i]]) ?_).trans ?_
   ·unfold zcE
    rw [itT (by simp;omega),hx,sb,h1,sb,h2,sb,h3,sb,zth ⟨by omega,by omega,by omega⟩,sb,itT (by simpa using hp),ziI (by simp only [List.length_singleton];omega),sb,hw]
   ·rw [znd hks hrow c (i+1) _ (by omega) (by simp;omega),List.append_assoc];rfl
  ·rw [if_neg (by simpa using hp)]
   refine (zlc (v6':=((i+1:Nat):Int)) (f3':=out) ?_).trans (znd hks hrow c (i+1) out (by omega) (by omega))
   unfold zcE
   rw [itT (by simp;omega),hx,sb,h1,sb,h2,sb,h3,sb,zth ⟨by omega,by omega,by omega⟩,sb,itF (by simpa using hp),hw]
theorem zGg (g:Int→List UInt8→Msg) (f:Fld) {T:List Th} (h:wt T≤1048576):(valT g f T).Words.length≤1048576∧(valT g f T).Texts.length≤1048576∧(valT g f T).Subs.length≤1048577:=by
 have h1:=zCS f T
 have h2:=zwi (zgo f T)
 have h3:=zwg f.Kind (zgo f T)
 have h4:=zwi T
 unfold valT
 split
 ·refine ⟨by simp,by simp,?_⟩
  simp only
  split
  ·rw [List.length_map];omega
  ·simp
 ·split
  ·refine ⟨by simp,?_,by simp⟩
   simp only [List.length_map];omega
  ·exact ⟨by simp only;omega,by simp,by simp⟩
theorem zvR {s:List Mes} (hs:zkR s) {d n k:Nat} {b:List UInt8} (hk:k<s.length) (hb:b.length≤1048576) (hfi:zaT s d k b=none)
  (hrec:∀e,d=e+1→∀(k':Nat) (v:List UInt8),k'<s.length→v.length≤1048576→zaT s e k' v=none→zfm n s k' v=some (ofM s k' v)):zfm (n+3) s k b=some (ofM s k b):=by
 have hm:idx s (k:Int)=some (zaq s k):=by rw [zR rfl hk,ziy hk]
 have hmm:zaq s (k:Int)∈s:=by rw [ziy hk];exact List.getElem_mem hk
 have hfew:=hs.few _ hmm
 have hfld:=hs.fld _ hmm
 have hok:=zJf hfi
 have hwt:=zBX (zaq s k) b
 have hris:=zyN hs hmm
 have hat9:=fun {i:Int} (h0:0≤i) (h1:i<(zaq s (k:Int)).Fields.length)=>zyk hs hmm h0 h1
 rw [zIj]
 -- views
 have hvk:∀v∈(zgr (zaq s (k:Int)) b).1,v.Field= -1∨0≤v.Field∧v.Field<(zaq s (k:Int)).Fields.length∧fldI (zaq s (k:Int)) v.R.Number=v.Field∧(zaE (zaq s (k:Int)) v.Field).Number=v.R.Number:=by
  intro v hv
  have h:=(zHp hv).2
  rcases zhS (zaq s (k:Int)) v.R.Number v.R.Wire with h1| ⟨h1,_⟩| ⟨i,run,h1,h2,h3⟩
  ·rw [h] at h1;cases h1
  ·rw [h] at h1
   simp only [Sum.inr.injEq,Prod.mk.injEq] at h1
   exact .inl h1.1
  ·rw [h] at h1
   simp only [Sum.inr.injEq,Prod.mk.injEq] at h1
   refine .inr ⟨by omega,by omega,by rw [h2,h1.1],?_⟩
   rcases zlE (zaq s (k:Int)) v.R.Number with ⟨g1,_⟩| ⟨j,hj,g1,g2,_⟩
   ·omega
   ·rw [h1.1,←h2,g1,zhG hj,g2]
 have hat:At14 b (zgr (zaq s (k:Int)) b).1:=fun t ht=>zEw ht
 have hL:(zgr (zaq s (k:Int)) b).1.length≤1048576:=Nat.le_trans (zHo _ _) hb
 have hths:ths (zaq s (k:Int)) b=(zgr (zaq s (k:Int)) b).1.map (thOf b):=rfl
 have hall:=zHs (m:=zaq s (k:Int)) (by omega) hb
 rw [hths] at hok hwt⊢
 generalize zaq s (k:Int)=m at hm hmm hfew hfld hok hwt hris hat9 hvk hat hL hall⊢
 show zhP (zfm (n+2)) (zqn (n+2)) (zke (n+2)) s k b=_
 unfold zhP
 rw [hm,sb,hall,sb]
 generalize (zgr m b).2.1=c1
 generalize (zgr m b).2.2=c2
 generalize (zgr m b).1=L at hok hwt hvk hat hL⊢
 have hl1:=zyh hL hat (fun v hv=>(hvk v hv).imp id fun h=>h.1) (c1,c2) L [] rfl
 have hl1':zfR b (L.map prV,c1,c2) [] 0 []=_:=hl1
 obtain ⟨ks,hks,hkp,hkm⟩:=zzY (L:=L) (fun v hv hf=>by
  obtain ⟨h0,h1,_,h3⟩:=(hvk v hv).resolve_left hf
  obtain ⟨i,hi⟩:∃i:Nat,v.Field=i:=⟨v.Field.toNat,by omega⟩
  have hil:i<m.Fields.length:=by omega
  rw [hi,zhG hil] at h3
  have hfo:=hfld _ (List.getElem_mem hil)
  have:=hfo.lo
  have:=hfo.hi
  exact zHU (by omega)) hL
 rw [hl1',sb,hks,sb]
 have hrowis:∀n,(mget (L.foldl kn14 []) n).getD []=(zgs L n).map prV:=fun n=>by rw [zBt n L []];rfl
 let vo:Int→Vlu:=fun i=>valO (ofM s) (zaE m i) (accF (ofM s) (zaE m i) i acc0 (L.map (thOf b)))
 -- a field's views
 have hby:∀{i:Int},0≤i→i<m.Fields.length→(zgs L (zaE m i).Number).map (thOf b)=(L.map (thOf b)).filter fun t=>t.fi==i:=fun {i} h0 h1=>by
  unfold zgs
  rw [List.filter_map]
  congr 1
  refine List.filter_congr fun v hv=>?_
  show decide (v.Field≠ -1∧v.R.Number=(zaE m i).Number)=(v.Field==i)
  rw [Bool.eq_iff_iff,decide_eq_true_iff,beq_iff_eq]
  constructor
  ·rintro ⟨g1,g2⟩
   obtain ⟨_,_,g3,_⟩:=(hvk v hv).resolve_left g1
   rw [←g3,g2,hat9 h0 h1]
  ·intro g
   have g1:v.Field≠ -1:=by omega
   obtain ⟨_,_,_,g4⟩:=(hvk v hv).resolve_left g1
   exact ⟨g1,by rw [←g4,g]⟩
 have hvoT:∀{i:Int},0≤i→i<m.Fields.length→zgs L (zaE m i).Number≠[]→vo i=valT (ofM s) (zaE m i) ((zgs L (zaE m i).Number).map (thOf b))∧∀t∈(zgs L (zaE m i).Number).map (thOf b),OkF (zaE m i) t∧OkT s d m t∧t.fi=i:=fun {i} h0 h1 hne=>by
  have hT:=hby h0 h1
  have hmem:∀t∈(zgs L (zaE m i).Number).map (thOf b),OkF (zaE m i) t∧OkT s d m t∧t.fi=i:=fun t ht=>by
   rw [hT,List.mem_filter] at ht
   have hfi':t.fi=i:=by simpa using ht.2
   have ho:=hok t ht.1
   refine ⟨⟨fun hr=>?_,fun hr=>?_⟩,ho,hfi'⟩
   ·have:=ho.run (by omega) hr
    rw [hfi'] at this;exact ⟨this.1,this.2.1⟩
   ·have:=ho.one (by omega) hr
    rw [hfi'] at this;exact ⟨this.1,this.2.1⟩
  refine ⟨?_,hmem⟩
  obtain ⟨j,rfl⟩:∃j:Nat,i=j:=⟨i.toNat,by omega⟩
  have hjl:j<m.Fields.length:=by omega
  have hkr:zcM (zaE m (j:Int)).Kind=true:=by rw [zhG hjl];exact (hfld _ (List.getElem_mem hjl)).kind
  show valO _ _ (accF _ _ _ _ _)=_
  rw [zmr,←hT,zIA _ hkr (by simpa using hne) fun t ht=>(hmem t ht).1]
 have hkn:∀n∈ks,∃i:Int,0≤i∧i<m.Fields.length∧(zaE m i).Number=n∧fldI m n=i∧zgs L n≠[]∧∀v∈zgs L n,v.Field=i:=fun n hn=>by
  obtain ⟨v,hv,hf,hnn⟩:=(hkm n).1 hn
  obtain ⟨g0,g1,g2,g3⟩:=(hvk v hv).resolve_left hf
  refine ⟨v.Field,g0,g1,by rw [g3,hnn],by rw [←hnn,g2],fun e=>?_,fun u hu=>?_⟩
  ·have:v∈zgs L n:=List.mem_filter.2 ⟨hv,by simp [hf,hnn]⟩
   rw [e] at this;cases this
  ·obtain ⟨hu1,hu2⟩:=List.mem_filter.1 hu
   obtain ⟨hu3,hu4⟩:=of_decide_eq_true hu2
   obtain ⟨_,_,q2,_⟩:=(hvk u hu1).resolve_left hu3
   rw [←q2,hu4,←hnn,g2]
 have hkl:ks.length≤1048576:=by
  have hlen:ks.length=(L.foldl kn14 []).length:=by
   unfold zrC at hks
   split at hks
   ·cases hks;simp
   ·cases hks
  have:=zBu L []
  rw [List.length_nil] at this
  omega
 have hl2:=znd (rec3:=zke (n+2)) (s:=s) (m:=m) (b:=b) (q:=(L.foldl kn14 [],unkO (L.map (thOf b)))) (V:=fun w=>vo (fldI m w)) hkl (fun w hn=>by
  obtain ⟨i,h0,h1,h2,h3,h4,h5⟩:=hkn w hn
  have hwf:=zxG (fun t=>t.fi==i) (L.map (thOf b))
  rw [←hby h0 h1,h2] at hwf
  have hw':wt ((zgs L w).map (thOf b))≤1048576:=by omega
  obtain ⟨v0,r0,hv0⟩:=List.exists_cons_of_ne_nil h4
  obtain ⟨j,hj⟩:∃j:Nat,i=j:=⟨i.toNat,by omega⟩
  have hjl:j<m.Fields.length:=by omega
  have hfj:idx m.Fields i=some (zaE m i):=by rw [hj,zR rfl hjl,zhG hjl]
  have hfm:zaE m i∈m.Fields:=by rw [hj,zhG hjl];exact List.getElem_mem hjl
  have hv0m:v0∈zgs L w:=by rw [hv0];exact List.mem_cons_self
  have hv0f:v0.Field=i:=h5 v0 hv0m
  have hvT:=hvoT h0 h1 (by rw [h2];exact h4)
  rw [h2] at hvT
  have hbat:At14 b (zgs L w):=fun v hv=>hat v (List.mem_filter.1 hv).1
  have hlen:=zGg (ofM s) (zaE m i) hw'
  rw [←hvT.1] at hlen
  refine ⟨prV v0,zaE m i,?_,?_,?_,by rw [h3];exact hlen⟩
  ·rw [hrowis,hv0];rfl
  ·have:(prV v0).Field=v0.Field:=rfl
   rw [this,hv0f];exact hfj
  ·rw [hrowis,h3,hvT.1]
   show zhZ (zfm (n+1)) (zqn (n+1)) (zke (n+1)) s (zaE m i) b _=_
   refine zEi hb hbat h4 hw' fun h17=>?_
   show zja (zfm n) (zqn n) (zke n) s (zaE m i) b _=_
   have hof:=(hfld _ hfm).sub h17
   obtain ⟨k',hk'⟩:∃k':Nat,(zaE m i).Of=k':=⟨(zaE m i).Of.toNat,by omega⟩
   have hone:∀t∈zgs L w,∃e,d=e+1∧zaT s e (zaE m i).Of (valB b t.R)=none:=fun t ht=>by
    obtain ⟨o1,o2,o3⟩:=hvT.2 _ (List.mem_map_of_mem (f:=thOf b) ht)
    have hr:(thOf b t).run=false:=by
     cases hr:(thOf b t).run
     ·rfl
     ·have:=(o1.1 hr).1;rw [h17] at this;cases this
    have:=(o2.one (by omega) hr).2.2.2
    rw [o3] at this
    exact this h17
   refine zGe hbat h4 hw' (fun hr t ht=>?_) (fun hr=>?_)
   ·obtain ⟨e,he,hfe⟩:=hone t ht
    have hvl:=zGq (List.mem_map_of_mem (f:=thOf b) ht)
    have hvl':(valB b t.R).length+1≤wt ((zgs L w).map (thOf b)):=hvl
    rw [hk'] at hfe⊢
    exact hrec e he k' _ (by omega) (by omega) hfe
   ·obtain ⟨e,he,_⟩:=hone v0 hv0m
    have hfl:=zyj ((zgs L w).map (thOf b))
    have hff:zaT s e (zaE m i).Of (((zgs L w).map (thOf b)).flatMap (·.val))=none:=by
     rw [List.flatMap_def]
     refine zuT _ fun v hv=>?_
     obtain ⟨t',ht',rfl⟩:=List.mem_map.1 hv
     obtain ⟨t,ht,rfl⟩:=List.mem_map.1 ht'
     obtain ⟨e',he',hfe⟩:=hone t ht
     have:e'=e:=by omega
     rw [←this];exact hfe
    rw [hk'] at hff⊢
    exact hrec e he k' _ (by omega) (by omega) hff) ks.length 0 [] (Nat.zero_add _) (Nat.le_refl _)
 have hl2':zfS b (L.foldl kn14 [],unkO (L.map (thOf b))) (zke (n+2)) s ks m 0 []=_:=hl2
 rw [hl2',sb,List.drop_zero,List.nil_append]
 have hfin:((ks.map fun w=>vo (fldI m w)).filter fun v=>decide (0<zix v))=zGi (ofM s) m (L.map (thOf b)) (ziA (zlH m) m.Fields.length):=by
  show _=(((ziA (zlH m) m.Fields.length).map vo).filter fun v=>decide (0<zix v))
  rw [zuR vo (fun v=>decide (0<zix v)) (fun i=> !(zgs L (zaE m i).Number).isEmpty) _ fun i hi hme=>?_]
  ·have hsub:∀i∈(ziA (zlH m) m.Fields.length).filter (fun i=> !(zgs L (zaE m i).Number).isEmpty),0≤i∧i<m.Fields.length:=fun i hi=>zka.1 (List.mem_filter.1 hi).1
   have hks2:((ziA (zlH m) m.Fields.length).filter (fun i=> !(zgs L (zaE m i).Number).isEmpty)).map (zlH m)=ks:=by
    refine ztF _ _ ?_ hkp fun w=>?_
    ·rw [List.pairwise_map]
     exact hris.filter _
    ·rw [List.mem_map]
     constructor
     ·rintro ⟨i,hi,rfl⟩
      obtain ⟨hi1,hi2⟩:=List.mem_filter.1 hi
      have hne:zgs L (zaE m i).Number≠[]:=by
       intro e;rw [e] at hi2;simp at hi2
      obtain ⟨v0,r0,hv0⟩:=List.exists_cons_of_ne_nil hne
      have hv0m:v0∈zgs L (zaE m i).Number:=by rw [hv0];exact List.mem_cons_self
      obtain ⟨q1,q2⟩:=List.mem_filter.1 hv0m
      obtain ⟨q3,q4⟩:=of_decide_eq_true q2
      exact (hkm _).2 ⟨v0,q1,q3,q4⟩
     ·intro hw
      obtain ⟨i,h0,h1,h2,h3,h4,_⟩:=hkn w hw
      exact ⟨i,List.mem_filter.2 ⟨zka.2 ⟨h0,h1⟩,by rw [h2];simpa using h4⟩,h2⟩
   have e1:(ks.map fun w=>vo (fldI m w))=((ziA (zlH m) m.Fields.length).filter (fun i=> !(zgs L (zaE m i).Number).isEmpty)).map vo:=by
    rw [←hks2,List.map_map]
    refine List.map_congr_left fun i hi=>?_
    show vo (fldI m (zlH m i))=vo i
    rw [zvb,hat9 (hsub i hi).1 (hsub i hi).2]
   rw [e1]
  ·obtain ⟨h0,h1⟩:=zka.1 hi
   have hbe:zgs L (zaE m i).Number=[]:=by simpa using hme
   have hT:=hby h0 h1
   rw [hbe] at hT
   have hvo:vo i=valO (ofM s) (zaE m i) acc0:=by
    show valO _ _ (accF _ _ _ _ _)=_
    rw [zmr,←hT];rfl
   rw [hvo]
   rfl
 rw [hfin]
 rfl
theorem zGb {s:List Mes} (hs:zkR s):∀(d fuel k:Nat) (b:List UInt8),k<s.length→b.length≤1048576→3*d+3≤fuel→zaT s d k b=none→zfm fuel s k b=some (ofM s k b):=by
 intro d
 induction d with
 | zero=>
  intro fuel k b hk hb hf hfi
  obtain ⟨n,rfl⟩:∃n,fuel=n+3:=⟨fuel - 3,by omega⟩
  exact zvR hs hk hb hfi fun e he=>by omega
 | succ d ih=>
  intro fuel k b hk hb hf hfi
  obtain ⟨n,rfl⟩:∃n,fuel=n+3:=⟨fuel - 3,by omega⟩
  exact zvR hs hk hb hfi fun e he k' v h1 h2 h3=>by
   have:e=d:=by omega
   subst this
   exact ih n k' v h1 h2 (by omega) h3
theorem zIy {fuel:Nat} {s:List Mes} (root:Int) {b:List UInt8} (d:Int) (hf:300≤fuel) (hw:WS s) (hb:b.length≤1048576):zmA fuel s root b d=some (zCa s root b d):=by
 unfold zmA zCa
 rw [zEm hw root hb d (by omega),sb]
 by_cases h0:(zhv s root b d).2=0
 ·have h0':¬(zhv s root b d).2≠0:=fun h=>h h0
  obtain ⟨hr,g1,g2,g3,g4⟩:=zsv (zxT h0)
  obtain ⟨k,rfl⟩:∃k:Nat,root=k:=⟨root.toNat,by omega⟩
  have hfi:zaT s d.toNat k b=none:=(zzN.1 (by unfold is11;simpa using h0)).2
  rw [itF (by simpa using h0),if_neg h0',zGb hr d.toNat fuel k b (by omega) hb (by omega) hfi,sb]
 ·rw [itT (by simpa using h0),if_pos h0]
end Go.Proofs.YtcbkcblkecmjnaaGreat
