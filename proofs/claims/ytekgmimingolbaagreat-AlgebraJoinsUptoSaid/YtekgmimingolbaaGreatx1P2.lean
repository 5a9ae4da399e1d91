/-
  What the plain functions are. No condition.
-/
import Derived.Test.YtekgmimingolbaaGreatx1P1
import Derived.Test.YtekgmimingolbaaGreatx1S1
import Derived.Test.YtekgmimingolbaaGreatx1K2
import Derived.Test.YtekgmimingolbaaGreatx1K3
set_option autoImplicit true
set_option relaxedAutoImplicit true
namespace Go.Proofs.YtekgmimingolbaaGreat
open Go
set_option linter.unusedVariables false
def lt7 (c:UInt8):Bool:=decide (97<=c.toNat/\c.toNat<=122\/65<=c.toNat/\c.toNat<=90\/c.toNat=95)
def dg7 (c:UInt8):Bool:=decide (48<=c.toNat/\c.toNat<=57)
theorem zwM (c:UInt8):zhN (c.toNat:Int)=some (dg7 c):=by
 unfold zhN dg7;congr 1;rw [yK];simp;omega
theorem zBi (c:UInt8):ziw (c.toNat:Int)=some (lt7 c):=by
 unfold ziw lt7;congr 1;by_cases h1:(c.toNat:Int)>=97<;>by_cases h2:(c.toNat:Int)>=65<;>simp only [h1,h2,pU,pV,yI,qI,qH]<;>rw [yK]<;>simp<;>omega
theorem zBk (s:List UInt8) (hs:s.length<=1152921504606846976):∀(l:List UInt8) (i:Nat),s.drop i=l->zgw s i=some (if (l.all fun c=>lt7 c|| dg7 c)=true then .inl () else .inr ()):=by
 intro l
 induction l with
 | nil=>
  intro i hd;have:=zdW hd;refine zlJ ?_;unfold zcF;rw [uU];rfl
 | cons c l ih=>
  intro i hd;obtain ⟨hi,hc,hd'⟩:=zde hd;have hb:zcF s i=if (lt7 c|| dg7 c)=true then some (.inl ((i+1:Nat):Int)) else some (.inr (.inr ())):=by
   unfold zcF;rw [uT,zP rfl hi,sb,hc,zBi,sb,sb,zwM,uV];cases lt7 c<;>cases dg7 c<;>rfl
  rw [yx];cases hk:(lt7 c|| dg7 c) with
  | false=>
   rw [hk] at hb;rw [zlJ hb];rfl
  | true=>
   rw [hk] at hb;rw [zrv hb,ih _ hd',xR]
theorem zEw:∀(l:List UInt8) (i:Nat),0<i->nmA i l=l.all fun c=>lt7 c|| dg7 c
 | [],_,_=>rfl
 | c::l,i,h=>by
  rw [nmA,zEw l (i+1) (by omega),yx];congr 1;unfold nmc lt7 dg7;rw [yK];simp;omega
theorem zyI (hs:s.length<=1152921504606846976):ziE s=some (zgV s):=by
 unfold ziE zgV;have hl:=zBk s hs s 0 rfl;have hl':zgw s 0=_:=hl;cases s with
 | nil=>rfl
 | cons c l=>
  rw [itF (by simp)];by_cases h60:((c::l).length:Int)>60
  ·rw [itT (by simpa using h60),sb,itT rfl];have:decide (1<=(c::l).length/\(c::l).length<=60)=false:=by simp only [qJ];omega
   rw [this,pg]
  ·have hd:decide (1<=(c::l).length/\(c::l).length<=60)=true:=by simp only [xS];refine ⟨by simp,by omega⟩
   have hc:idx (c::l) 0=some c:=by simp [idx]
   rw [itF (by simpa using h60),hc,sb,zwM,sb,sb,hd,px,hl',sb];have e:nmA 0 (c::l)=(lt7 c&&l.all fun c=>lt7 c|| dg7 c):=by
    rw [nmA,zEw l 1 (by omega)];congr 1;unfold nmc lt7;rw [yK];simp;omega
   have hx:lt7 c=true->dg7 c=false:=by
    unfold lt7 dg7;simp only [xS,qJ];omega
   rw [e,yx];cases h1:lt7 c<;>cases h2:dg7 c<;>first| (rw [hx h1] at h2;cases h2;done)| skip
   ·rfl
   ·rfl
   ·cases l.all fun c=>lt7 c|| dg7 c<;>rfl
theorem zGR (hl:l.length<=1152921504606846976) (v:Int):zeF l v=some (zkD (fun x=>v==x) l):=by
 unfold zeF;have h:=zrN (fun x=>v==x) l (fun i=>zcI l v i) (zhP (by unfold zax;rw [itF (by simp)])) (fun i hi=>by
  by_cases hp:(v==l[i])=true
  ·rw [xw hp];exact zhP (by unfold zax;rw [uT,zP rfl hi,sb,itT hp])
  ·rw [xu hp];exact zlf (by unfold zax;rw [uT,zP rfl hi,sb,itF (by simpa using hp),uV];rfl)) l.length 0 (by omega) (fun j _ h=>by omega)
 have h':zcI l v 0=_:=h;rw [h',sb];unfold zkD;cases l.findIdx? (fun x=>v==x)<;>rfl
theorem zyb {α:Type} (p:α->Bool) (l:List α):decide (zkD p l>=0)=l.any p:=by
 cases h:l.findIdx? p with
 | none=>
  rw [zkp h];rw [pt] at h
  symm
  rw [uv.2 fun x hx=>by simpa using h x hx];rfl
 | some i=>
  rw [zkq h];rw [pu] at h;obtain ⟨hi,hp,_⟩:=h
  symm
  rw [pK.2 ⟨l[i],xC hi,hp⟩];simp
theorem zAV (hl:l.length<=1152921504606846976) (v:Int):zdt l v=some (l.any fun x=>v==x):=by
 unfold zdt;rw [zGR hl,sb,zyb]
def K17:List Int:=[1,2,3,4,5,6,7,8,9,10,11,12,13,14,15,16,17]
theorem zFl (k:Int):(K17.any fun x=>k==x)=zfz k:=by
 unfold zfz K17;rw [yK];simp;omega
def hasN (m:List (zp×Bool)) (i:Int) (n:Str):Bool:=(mget m (⟨i,n⟩:zp)).getD false
def hasU (m:List (zq×Bool)) (i:Int) (n:Int):Bool:=(mget m (⟨i,n⟩:zq)).getD false
theorem zoM (m:List (zp×Bool)) (i j:Int) (n k:Str):hasN (mput m ⟨i,n⟩ true) j k=(decide (j=i/\k=n)|| hasN m j k):=by
 unfold hasN;rw [zfe];by_cases h:j=i/\k=n
 ·obtain ⟨rfl,rfl⟩:=h;simp
 ·rw [xu (fun e=>h (by injection e with e1 e2;exact ⟨e1,e2⟩))];simp [h]
theorem zBe (m:List (zq×Bool)) (i j:Int) (n k:Int):hasU (mput m ⟨i,n⟩ true) j k=(decide (j=i/\k=n)|| hasU m j k):=by
 unfold hasU;rw [zfe];by_cases h:j=i/\k=n
 ·obtain ⟨rfl,rfl⟩:=h;simp
 ·rw [xu (fun e=>h (by injection e with e1 e2;exact ⟨e1,e2⟩))];simp [h]
theorem zBl (n:Int):zix n=some (decide ¬(n<1\/n>536870911\/(19000<=n/\n<20000))):=by
 unfold zix;congr 1;rw [yK];simp;omega
theorem zDl (f:Fld):ziZ f=some (f.Repeated&&kNum f.Kind):=by
 unfold ziZ;rw [zDh];cases f.Repeated<;>rfl
theorem zHs (n:Int) (K:List Int) (nm:List (zp×Bool)) (nu:List (zq×Bool)) (f:Fld):zgK ⟨n,K,nm,nu⟩ f=some (decide ¬(f.Kind=17/\(f.Of<0\/f.Of>=n)\/f.Kind≠17/\f.Of≠0)):=by
 unfold zgK;by_cases h:f.Kind=17
 ·rw [itT (by simpa using h)];congr 1;rw [yK];simp [h]
 ·rw [itF (by simpa using h)];congr 1;rw [yK];simp [h]
theorem zGE (hf:f.Name.length<=1152921504606846976) (hN:hasN nm i f.Name=prev.any fun g=>g.Name==f.Name) (hU:hasU nu i f.Number=prev.any fun g=>g.Number==f.Number):
  zgJ ⟨n,K17,nm,nu⟩ i f=some (zee n prev f,if zee n prev f=0 then (mput nm ⟨i,f.Name⟩ true,mput nu ⟨i,f.Number⟩ true) else (nm,nu)):=by
 unfold zgJ;rw [zyI hf,sb];have e1:(mget nm (⟨i,f.Name⟩:zp)).getD false=hasN nm i f.Name:=rfl;have e2:(mget nu (⟨i,f.Number⟩:zq)).getD false=hasU nu i f.Number:=rfl;simp only [e1,e2,hN,hU];have hz:∀(k:Int) (x y:List (zp×Bool)×List (zq×Bool)),k≠0->(if k=0 then x else y)=y:=fun k x y h=>xu h
 by_cases h1:zgV f.Name=false
 ·have hF:zee n prev f=5:=by unfold zee;rw [xw h1]
  rw [hF,hz 5 _ _ (by decide),itT (by rw [h1];rfl)]
 rw [itF (show (!zgV f.Name)=false by simpa using h1)];by_cases h2:(prev.any fun g=>g.Name==f.Name)=true
 ·have hF:zee n prev f=6:=by unfold zee;rw [xu h1,xw h2]
  rw [hF,hz 6 _ _ (by decide),itT h2]
 have h2':(prev.any fun g=>g.Name==f.Name)=false:=pX h2;rw [itF h2',zBl,sb];by_cases h3:f.Number<1\/f.Number>536870911\/(19000<=f.Number/\f.Number<20000)
 ·have hF:zee n prev f=7:=by unfold zee;rw [xu h1,xu h2,xw h3]
  rw [hF,hz 7 _ _ (by decide),itT (by rw [yd (fun h=>h h3)];rfl)]
 rw [itF (by rw [ya h3];rfl)];by_cases h4:(prev.any fun g=>g.Number==f.Number)=true
 ·have hF:zee n prev f=8:=by unfold zee;rw [xu h1,xu h2,xu h3,xw h4]
  rw [hF,hz 8 _ _ (by decide),itT h4]
 have h4':(prev.any fun g=>g.Number==f.Number)=false:=pX h4;rw [itF h4',zAV (by decide),sb,zFl];by_cases h5:zfz f.Kind=false
 ·have hF:zee n prev f=9:=by unfold zee;rw [xu h1,xu h2,xu h3,xu h4,xw h5]
  rw [hF,hz 9 _ _ (by decide),itT (by rw [h5];rfl)]
 rw [itF (show (!zfz f.Kind)=false by simpa using h5),zDl];have hg:(if f.Packed=true then (some (f.Repeated&&kNum f.Kind)>>=fun rv4=>some (!rv4)) else some false)=some (decide (f.Packed=true/\¬(f.Repeated=true/\kNum f.Kind=true))):=by
  cases f.Packed<;>cases f.Repeated<;>cases kNum f.Kind<;>rfl
 rw [hg,sb];by_cases h6:f.Packed=true/\¬(f.Repeated=true/\kNum f.Kind=true)
 ·have hF:zee n prev f=10:=by unfold zee;rw [xu h1,xu h2,xu h3,xu h4,xu h5,xw h6]
  rw [hF,hz 10 _ _ (by decide),itT (ya h6)]
 rw [itF (yd h6),zHs,sb];by_cases h7:f.Kind=17/\(f.Of<0\/f.Of>=n)\/f.Kind≠17/\f.Of≠0
 ·have hF:zee n prev f=11:=by unfold zee;rw [xu h1,xu h2,xu h3,xu h4,xu h5,xu h6,xw h7]
  rw [hF,hz 11 _ _ (by decide),itT (by rw [yd (fun h=>h h7)];rfl)]
 have hF:zee n prev f=0:=by unfold zee;rw [xu h1,xu h2,xu h3,xu h4,xu h5,xu h6,xu h7]
 rw [hF,xw rfl,itF (by rw [ya h7];rfl)]
theorem zDm {n:Int} {nm:List (zp×Bool)} {nu:List (zq×Bool)} {prev:List Mes} {m:Mes} (hm:m.Name.length<=1152921504606846976) (hN:hasN nm (-1) m.Name=prev.any fun g=>g.Name==m.Name):
  zfN ⟨n,K17,nm,nu⟩ m=some (if zgV m.Name=false then (2,nm,nu) else if (prev.any fun g=>g.Name==m.Name)=true then (3,nm,nu) else if 200<m.Fields.length then (4,nm,nu) else (0,mput nm ⟨-1,m.Name⟩ true,nu)):=by
 unfold zfN;rw [zyI hm,sb];have e1:(mget nm (⟨(-1),m.Name⟩:zp)).getD false=hasN nm (-1) m.Name:=rfl;simp only [e1,hN];by_cases h1:zgV m.Name=false
 ·rw [xw h1,itT (show (!zgV m.Name)=true by rw [h1];rfl)]
 rw [xu h1,itF (show (!zgV m.Name)=false by simpa using h1)];by_cases h2:(prev.any fun g=>g.Name==m.Name)=true
 ·rw [xw h2,itT h2]
 have h2':(prev.any fun g=>g.Name==m.Name)=false:=pX h2;rw [xu h2,itF h2'];by_cases h3:200<m.Fields.length
 ·rw [xw h3,itT (show decide ((m.Fields.length:Int)>200)=true by simp;omega)]
 rw [xu h3,itF (show decide ((m.Fields.length:Int)>200)=false by simp;omega)]
structure Met (nm:List (zp×Bool)) (nu:List (zq×Bool)) (i:Nat) (prev:List Mes) (p:List Fld):Prop where
 mes:∀n,hasN nm (-1) n=prev.any fun g=>g.Name==n
 nam:∀n,hasN nm i n=p.any fun g=>g.Name==n
 num:∀n,hasU nu i n=p.any fun g=>g.Number==n
 later:∀(j:Nat) n,i<j->hasN nm j n=false
 laterU:∀(j:Nat) n,i<j->hasU nu j n=false
theorem Met.step (h:Met nm nu i prev p) (f:Fld):Met (mput nm ⟨i,f.Name⟩ true) (mput nu ⟨i,f.Number⟩ true) i prev (p++[f]):=by
 refine ⟨fun n=>?_,fun n=>?_,fun n=>?_,fun j n hj=>?_,fun j n hj=>?_⟩
 ·rw [zoM,h.mes,yd (by omega),q6]
 ·rw [zoM,h.nam,pY,Bool.or_comm];congr 1;simp only [q8,List.any_nil,qN];rw [yK];simp;exact eq_comm
 ·rw [zBe,h.num,pY,Bool.or_comm];congr 1;simp only [q8,List.any_nil,qN];rw [yK];simp;exact eq_comm
 ·rw [zoM,h.later j n hj,yd (by omega)];rfl
 ·rw [zBe,h.laterU j n hj,yd (by omega)];rfl
theorem zGu (hb:m.Fields.length<=140737488351232) (hn:∀f∈m.Fields,f.Name.length<=140737488351232):
  ∀(l:List Fld) (k:Nat) (nm:List (zp×Bool)) (nu:List (zq×Bool)),m.Fields.drop k=l->k<=m.Fields.length->Met nm nu i prev (m.Fields.take k)->
   (∃j w,msgF s.length (m.Fields.take k) l=some (j,w)/\zfm K17 s i m k nm nu=some (.inr ((j:Int),w)))\/
   (msgF s.length (m.Fields.take k) l=none/\∃nm' nu',zfm K17 s i m k nm nu=some (.inl (nm',nu'))/\Met nm' nu' i prev m.Fields):=by
 intro l
 induction l with
 | nil=>
  intro k nm nu hd hk hM;have:=zdW hd;have hkl:k=m.Fields.length:=by omega
  subst hkl;refine .inr ⟨rfl,nm,nu,zmh ?_,by simpa using hM⟩;unfold zcD;rw [itF (by simp)]
 | cons f l ih=>
  intro k nm nu hd hk hM;obtain ⟨hi,hc,hd'⟩:=zde hd;have hf:=hn f (by rw [<-hc];exact xC hi);have hfld:=zGE (n:=(s.length:Int)) (i:=(i:Int)) (nm:=nm) (nu:=nu) (prev:=m.Fields.take k) (f:=f) (by omega) (hM.nam _) (hM.num _);have htk:m.Fields.take (k+1)=m.Fields.take k++[f]:=by rw [yA hi,hc]
  have hlen:(m.Fields.take k).length=k:=by simp;omega
  obtain ⟨bd,_⟩:=zwD (s.length:Int) (m.Fields.take k) f;rw [msgF];by_cases h0:zee s.length (m.Fields.take k) f=0
  ·rw [xu (by omega)];rw [h0,xw rfl] at hfld;have hstep:zcD K17 s i m k nm nu=some (.inl (((k+1:Nat):Int),mput nm ⟨i,f.Name⟩ true,mput nu ⟨i,f.Number⟩ true)):=by
    unfold zcD;rw [uT,zP rfl hi,sb,hc,hfld,sb];dsimp only;rw [itF (show ((0:Int) !=0)=false from rfl),uV];rfl
   rw [zst hstep,<-htk];exact ih (k+1) _ _ hd' (by omega) (by rw [htk];exact hM.step f)
  ·rw [xw (by omega)];rw [xu h0] at hfld;refine .inl ⟨k,_,by rw [hlen],zmh ?_⟩;unfold zcD;rw [uT,zP rfl hi,sb,hc,hfld,sb];dsimp only;rw [itT (show (zee (s.length:Int) (m.Fields.take k) f !=0)=true by simpa using h0)]
theorem zGt {s:List Mes} (hw:WS s):∀(l:List Mes) (i:Nat) (nm:List (zp×Bool)) (nu:List (zq×Bool)),s.drop i=l->i<=s.length->Met nm nu i (s.take i) []->
  zgZ K17 s i nm nu=some (match chkF s.length (s.take i) l with| some (j,k,w)=> .inr ((j:Int),k,w)| none=> .inl ()):=by
 intro l
 induction l with
 | nil=>
  intro i nm nu hd hi hM;have:=zdW hd;refine zgn ?_;unfold zbF;rw [uU];rfl
 | cons m l ih=>
  intro i nm nu hd hi hM;obtain ⟨hil,hc,hd'⟩:=zde hd;obtain ⟨w1,w2⟩:=hw;obtain ⟨m1,m2,m3⟩:=w2 m (by rw [<-hc];exact xC hil);have hmes:=zDm (n:=(s.length:Int)) (nm:=nm) (nu:=nu) (prev:=s.take i) (m:=m) (by omega) (hM.mes _);have htk:s.take (i+1)=s.take i++[m]:=by rw [yA hil,hc]
  have hlen:(s.take i).length=i:=by simp;omega
  rw [chkF];by_cases h1:zgV m.Name=false
  ·rw [xw h1] at hmes|-;refine zgn ?_;unfold zbF;rw [uT,zP rfl hil,sb,hc,hmes,sb];dsimp only;rw [itT (show ((2:Int) !=0)=true from rfl),hlen]
  rw [xu h1] at hmes|-;by_cases h2:((s.take i).any fun g=>g.Name==m.Name)=true
  ·rw [xw h2] at hmes|-;refine zgn ?_;unfold zbF;rw [uT,zP rfl hil,sb,hc,hmes,sb];dsimp only;rw [itT (show ((3:Int) !=0)=true from rfl),hlen]
  rw [xu h2] at hmes|-;by_cases h3:200<m.Fields.length
  ·rw [xw h3] at hmes|-;refine zgn ?_;unfold zbF;rw [uT,zP rfl hil,sb,hc,hmes,sb];dsimp only;rw [itT (show ((4:Int) !=0)=true from rfl),hlen]
  rw [xu h3] at hmes|-;have hM0:Met (mput nm ⟨-1,m.Name⟩ true) nu i (s.take i++[m]) (m.Fields.take 0):=by
   refine ⟨fun n=>?_,fun n=>?_,fun n=>?_,fun j n hj=>?_,fun j n hj=>hM.laterU j n hj⟩
   ·rw [zoM,hM.mes,pY,Bool.or_comm];congr 1;simp only [q8,List.any_nil,qN];rw [yK];simp;exact eq_comm
   ·rw [zoM,hM.nam,yd (by omega)];rfl
   ·rw [hM.num];rfl
   ·rw [zoM,hM.later j n hj,yd (by omega)];rfl
  have hl2:=zGu (s:=s) (i:=i) m2 m3 m.Fields 0 _ nu rfl (by omega) hM0;simp only [yJ] at hl2;rcases hl2 with ⟨j,w,g1,g2⟩| ⟨g1,nm',nu',g2,g3⟩
  ·rw [g1];refine zgn ?_;unfold zbF;have g2':zfm K17 s i m 0 (mput nm ⟨-1,m.Name⟩ true) nu=_:=g2;rw [uT,zP rfl hil,sb,hc,hmes,sb];dsimp only;rw [itF (show ((0:Int) !=0)=false from rfl),g2',sb];simp only [hlen]
  ·rw [g1];have hstep:zbF K17 s i nm nu=some (.inl (((i+1:Nat):Int),nm',nu')):=by
    unfold zbF;have g2':zfm K17 s i m 0 (mput nm ⟨-1,m.Name⟩ true) nu=_:=g2;rw [uT,zP rfl hil,sb,hc,hmes,sb];dsimp only;rw [itF (show ((0:Int) !=0)=false from rfl),g2',sb];dsimp only;rw [uV];rfl
   rw [zss hstep];simp only [];rw [<-htk];refine ih (i+1) nm' nu' hd' (by omega) ⟨fun n=>?_,fun n=>?_,fun n=>?_,fun j n hj=>g3.later j n (by omega),fun j n hj=>g3.laterU j n (by omega)⟩
   ·rw [htk];exact g3.mes n
   ·rw [g3.later (i+1) n (by omega)];rfl
   ·rw [g3.laterU (i+1) n (by omega)];rfl
theorem zGs (hw:WS s):zkG s=some (⟨(zkW s).1,(zkW s).2.1,(zkW s).2.2⟩,if (zkW s).2.2=0 then 0 else 9):=by
 unfold zkG zkW;by_cases h:s.length=0\/100<s.length
 ·rw [uT,xw h];rfl
 ·rw [uU,xu h,zIS,sb];have hl:=zGt hw s 0 [] [] rfl (by omega) ⟨fun n=>rfl,fun n=>rfl,fun n=>rfl,fun j n _=>rfl,fun j n _=>rfl⟩;simp only [yJ] at hl;have hl':zgZ [1,2,3,4,5,6,7,8,9,10,11,12,13,14,15,16,17] s 0 [] []=_:=hl;rw [hl',sb];cases hc:chkF s.length [] s with
  | none=>rfl
  | some q=>
   obtain ⟨i,k,w⟩:=q;have:=zDQ _ _ _ _ _ _ hc;simp only;rw [xu (by omega)]
theorem ztY (hw:WS s):zjm s=some (zgI s):=by
 unfold zjm zgI;rw [zGs hw,sb];by_cases h:(zkW s).2.2=0<;>simp [h]
abbrev PVw:=zmz
theorem zzo (t:zbM):zoZ t=some (zjb t.Number t.Wire):=by
 have e:zjU t.Wire=some (decide (t.Wire=0\/t.Wire=1\/t.Wire=2\/t.Wire=5)):=by
  unfold zjU;by_cases h0:t.Wire=0
  ·simp [h0]
  by_cases h1:t.Wire=1
  ·simp [h1]
  by_cases h2:t.Wire=2
  ·simp [h2]
  by_cases h5:t.Wire=5
  ·simp [h5]
  simp [h0,h1,h2,h5]
 unfold zoZ zjb;rw [e];by_cases h1:1<=t.Number
 ·by_cases h2:t.Number<=536870911
  ·rw [itT (by simpa using h1),itT (by simpa using h2),sb,sb];simp [h1,h2]
  ·rw [itT (by simpa using h1),itF (by simpa using h2),sb];simp [h2]
 ·rw [itF (by simpa using h1),sb];simp [h1]
theorem zKL (w:Nat) (h:w<18446744073709551616):andI .u64 (w:Int) 7=((w%8:Nat):Int):=by
 have e:=zAH (k:= .u64) rfl (a:=w) (b:=7) (by simpa [IntKind.bits] using h) (by simp [IntKind.bits]);have e2:w&&&7=w%8:=uO w 3;rw [e2] at e;exact e
theorem zLj (w:Nat):shrI .u64 (w:Int) 3=((w/8:Nat):Int):=zBY (k:= .u64) (a:=w) (b:=3) (by simp [IntKind.bits])
theorem zIl (b:List UInt8):zrx b=some ((⟨(tg b).1,(tg b).2.1⟩:zbM),(tg b).2.2.1,(tg b).2.2.2):=by
 obtain ⟨h1,h2,h3,h4,h5,h6,h7⟩:=zlc b;unfold zrx tg;rw [zAh,sb];by_cases h:(rd b).2.2=0
 ·rw [itF (by simpa using h)];obtain ⟨w,hw⟩:∃w:Nat,(rd b).1=w:=⟨(rd b).1.toNat,by omega⟩;rw [hw] at h2|-;rw [zLj,zKL w (by omega)];have e0:IntKind.i64.wrap ((w%8:Nat):Int)=(w:Int)%8:=by rw [uV];omega
  by_cases hg:4294967295<w
  ·have e1:IntKind.i64.wrap (if (536870912:Int)<((w/8:Nat):Int) then 536870912 else ((w/8:Nat):Int))=536870912:=by
    split
    ·rfl
    ·rw [uV];omega
   rw [e0,e1,zzo,sb];have e2:zjb 536870912 ((w:Int)%8)=false:=by simp [zjb]
   simp only [e2];rw [itT (by rfl),zry h (.inl (by rw [hw];omega))]
  ·have e1:IntKind.i64.wrap (if (536870912:Int)<((w/8:Nat):Int) then 536870912 else ((w/8:Nat):Int))=(w:Int)/8:=by
    rw [xu (by omega),uV];omega
   rw [e0,e1,zzo,sb];simp only;cases ht:zjb ((w:Int)/8) ((w:Int)%8)
   ·rw [itT (by rfl),zry h (.inr (by rw [hw];exact ht))]
   ·rw [itF (by rfl),zDC h (by rw [hw,ht];simp;omega),hw]
 ·rw [itT (by simpa using h),zAv h]
theorem zJo (hw:w=0\/w=1\/w=2\/w=5) (hb:b.length<=1048576):
  zlG w b=some (match ziv w 0 b with| .inl c=>(0,(if w=0 then (rd b).2.1 else 0),c)| .inr (a,t)=>((a:Int),(t:Int),0)):=by
 obtain ⟨h1,h2,h3,h4,h5,h6,h7⟩:=zlc b;unfold zlG ziv;rcases hw with rfl| rfl| rfl| rfl
 ·rw [itT (by rfl),zJm,sb,xw rfl];by_cases h:(rd b).2.2=0
  ·rw [xu (by simpa using h)];simp only [h,xE];congr 3;simp;omega
  ·rw [xw h];rfl
 ·rw [itF (by rfl),itT (by rfl),sb,itF (by rfl),xu (show ¬((1:Int)=0) by omega),xu (show ¬((1:Int)=2) by omega)];simp only;have e:IntKind.u64.wrap (IntKind.i64.wrap ((b.length:Int) - 0))=(b.length:Int):=by rw [uV,zjX];omega
  rw [e];by_cases g:b.length<8
  ·rw [uT,xw (by simpa using g)];rfl
  ·rw [uU,xu (by simpa using g)];rfl
 ·rw [itF (by rfl),itF (by rfl),itF (by rfl),itT (by rfl),zAh,sb,sb,xu (show ¬((2:Int)=0) by omega),xw (show (2:Int)=2 from rfl)];by_cases h:(rd b).2.2=0
  ·have hk:=h7 h;rw [itF (by simpa using h),xu (show ¬((rd b).2.2≠0) from fun g=>g h)];simp only;have e:IntKind.u64.wrap (IntKind.i64.wrap ((b.length:Int) - (rd b).2.1))=(b.length:Int) - (rd b).2.1:=by rw [uV,zjX];omega
   rw [e];by_cases g:(b.length:Int) - (rd b).2.1<(rd b).1
   ·rw [itT (by simpa using g),xw g];rfl
   ·rw [itF (by simpa using g),xu g,zx (x:=(rd b).1) (by omega),uV];simp;omega
  ·rw [itT (by simpa using h),xw h];rfl
 ·rw [itF (by rfl),itF (by rfl),itT (by rfl),sb,itF (by rfl),xu (show ¬((5:Int)=0) by omega),xu (show ¬((5:Int)=2) by omega)];simp only;have e:IntKind.u64.wrap (IntKind.i64.wrap ((b.length:Int) - 0))=(b.length:Int):=by rw [uV,zjX];omega
  rw [e];by_cases g:b.length<4
  ·rw [uT,xw (by simpa using g)];rfl
  ·rw [uU,xu (by simpa using g)];rfl
theorem zAN (w:Int) (k:Nat) (m:List UInt8):ziv w k m=match ziv w 0 m with| .inl c=> .inl c| .inr (a,t)=> .inr (k+a,k+t):=by
 unfold ziv
 repeat' split
 all_goals first
  | rfl
  | (rename_i h1 h2;injection h2 with h3;injection h3 with h4 h5;subst h4 h5;simp<;>omega)
  | simp_all<;>omega
theorem zJe (hb:b.length<=1048576) (at5:Int):zlF b at5=some (ztN b at5):=by
 unfold zlF ztN;by_cases h:at5<0\/at5>=b.length
 ·rw [itT (by simpa using h),xw h];rfl
 ·rw [itF (by simpa using h),xu h];obtain ⟨p,rfl⟩:∃p:Nat,at5=p:=⟨at5.toNat,by omega⟩;rw [zwy rfl rfl (by omega),sb,zIl,sb,yp];have hdl:(b.drop p).length=b.length - p:=by simp
  rcases zxP (b.drop p) with ⟨c,ht,hc⟩| ⟨n,w,k,ht,hr,k1,k2,k3,hrd⟩
  ·have e:rec5 (b.drop p)= .inl c:=by unfold rec5;rw [ht,xw (by simp only;omega)]
   rw [e,ht,uT];rfl
  ·obtain ⟨k,rfl⟩:∃j:Nat,k=j:=⟨k.toNat,by omega⟩
   have e:rec5 (b.drop p)=match ziv w k ((b.drop p).drop k) with
    | .inl c=> .inl c
    | .inr p=> .inr (n,w,p.1,p.2):=by unfold rec5;rw [ht];simp<;>rfl
   have hdd:(b.drop p).drop k=b.drop (p+k):=by rw [qo]
   have hml:(b.drop (p+k)).length=b.length - (p+k):=by simp
   have ew:IntKind.i64.wrap ((p:Int)+k)=((p+k:Nat):Int):=by rw [uV];push_cast;rfl
   rw [e,ht,itF (by simp),hdd];simp only [ew];rw [zwy rfl rfl (by omega),sb,zJo (zxN.1 hr).2.2 (by omega),sb,zAN w k];rcases zvg w 0 (b.drop (p+k)) with ⟨c,hc,hc2⟩| ⟨a,t,hc,_,_,hle,_⟩
   ·rw [hc];simp only;rw [uT];rfl
   ·rw [hc];simp only;rw [itF (by rfl),uV,uV];simp only [yj,qe,zD.mk.injEq,qu,qv];push_cast;omega
abbrev Head:=zxY
abbrev Role:=zxX
def rol (m:Mes) (h:Head):Role:=match vw m h.number h.wire with
 | .inl c=>⟨0,false,c⟩
 | .inr (i,run)=>⟨i,run,0⟩
def zAB (m:Mes) (met:List (Head×Role)):Prop:=∀h x,mget met h=some x->x=rol m h
theorem zAB.nil (m:Mes):zAB m []:=fun h x g=>by cases g
theorem zAB.put (g:zAB m met) (h:Head):zAB m (mput met h (rol m h)):=fun j x hx=>by
 rw [zfe] at hx;by_cases e:j=h
 ·rw [xw e] at hx;rw [e];exact (yW hx).symm
 ·rw [xu e] at hx;exact g j x hx
abbrev zCw:=zkM
def zAC (s:List Mes) (met:List (zCw×PVw)):Prop:=∀h x,mget met h=some x->vw (zaP s h.message) h.number h.wire= .inr (x.Field,x.Run)
theorem zAC.nil (s:List Mes):zAC s []:=fun h x g=>by cases g
theorem zAC.put (g:zAC s met) (hv:vw (zaP s h.message) h.number h.wire= .inr (v.Field,v.Run)):zAC s (mput met h v):=fun j x hx=>by
 rw [zfe] at hx;by_cases e:j=h
 ·rw [xw e] at hx;cases hx;rw [e];exact hv
 ·rw [xu e] at hx;exact g j x hx
theorem zIr (hw:WS s) (root d:Int):znc s root d=some (argS s root d):=by
 unfold znc argS;rw [ztY hw,sb];cases h:zgI s
 ·rw [itT (c:= !false) rfl,xw (show false=false from rfl)]
 ·rw [itF (c:= !true) rfl,xu (show ¬(true=false) by simp)];by_cases h2:root<0\/root>=s.length\/d<0\/d>64
  ·rw [itT (by simpa using h2),xw h2]
  ·rw [uU,xu h2]
theorem zqC (hm:m.Fields.length<=140737488351232) (n:Int):zgg m n=some (match m.Fields.findIdx? (fun f=>f.Number==n) with| some i=>((i:Int),true)| none=>(0,false)):=by
 unfold zgg zdp zaz;have h:=zrN (fun f:Fld=>f.Number==n) m.Fields (fun i=>zZ m.Fields n i) (zcb (by unfold zE;rw [itF (by simp)])) (fun i hi=>by
  by_cases hp:(m.Fields[i].Number==n)=true
  ·rw [xw hp];exact zcb (by unfold zE zhk;rw [uT,zP rfl hi,sb,sb,itT hp])
  ·rw [xu hp];exact zeE (by unfold zE zhk;rw [uT,zP rfl hi,sb,sb,itF (pX hp),uV];rfl)) m.Fields.length 0 (by omega) (fun j _ h=>by omega)
 have h':zZ m.Fields n 0=_:=h;rw [h',sb];cases m.Fields.findIdx? (fun f:Fld=>f.Number==n) with
 | none=>rfl
 | some i=>simp [sb];omega
theorem zmB {α:Type} (p:α->Bool) (l:List α) (F:Int->Option (Unit⊕Unit)) (h0:F (l.length:Int)=some (.inl ())) (hs:∀(i:Nat) (h:i<l.length),F (i:Int)=if p l[i]=true then F ((i+1:Nat):Int) else some (.inr ())):
  ∀(c i:Nat),i+c=l.length->F (i:Int)=some (if (l.drop i).all p=true then .inl () else .inr ())
 | 0,i,h=>by
  have e:l.drop i=[]:=yb (by omega);have hi:i=l.length:=by omega
  rw [e,hi,h0];simp
 | c+1,i,h=>by
  rw [hs i (by omega),xQ (by omega),yx];cases hp:p l[i]
  ·rw [xu (by simp)];simp
  ·rw [xw rfl,xR];exact zmB p l F h0 hs c (i+1) (by omega)
theorem zFT (hb:v.Words.length<=140737488351232/\v.Texts.length<=140737488351232/\v.Subs.length<=140737488351232):zhm v=some ((zfM v:Nat):Int):=by
 unfold zhm zfM;rw [zx (x:=(v.Words.length:Int)+(v.Texts.length:Int)) (by omega),uV];push_cast;rfl
theorem zAK (hl:l.length<=1152921504606846976) (h:∀t∈l,t.length<=140737488351232):zjV l=some (l.all zlW):=by
 unfold zjV;have h1:=zmB zlW l (fun i=>zgx l i) (by
   refine zlL ?_;unfold zcK;rw [itF (by simp)])
  (fun i hi=>by
   have hx:=h _ (xC hi);have e:lenO l[i]=some l[i]:=by unfold lenO;rw [xw (by omega)]
   cases hp:zlW l[i]
   ·rw [xu (by simp)];refine zlL ?_;unfold zcK;rw [uT,zP rfl hi,sb,e,sb,zzp (by omega),sb,hp,itT (by rfl)]
   ·rw [xw rfl];refine zrC ?_;unfold zcK;rw [uT,zP rfl hi,sb,e,sb,zzp (by omega),sb,hp,itF (by rfl),uV];push_cast;rfl)
  l.length 0 (xE _)
 have h1':zgx l 0=_:=h1;rw [h1',sb,xX];cases l.all zlW<;>rfl
theorem zAJ (hl:l.length<=1152921504606846976) (h:∀w∈l,0<=w/\w<=18446744073709551615):zhn k l=some (l.all fun w=>kNum k&&zjD k w==w):=by
 unfold zhn;have h1:=zmB (fun w=>kNum k&&zjD k w==w) l (fun i=>zeH k l i) (by
   refine zhv ?_;unfold zaS;rw [itF (by simp)])
  (fun i hi=>by
   have hx:=h _ (xC hi);cases hk:kNum k
   ·rw [yQ,xu (by simp)];refine zhv ?_;unfold zaS;rw [uT,zP rfl hi,sb,zuE k hx,sb,hk,itT (by rfl)]
   ·rw [xR];by_cases hp:zjD k l[i]=l[i]
    ·rw [xw (by simpa using hp)];refine zou ?_;unfold zaS;rw [uT,zP rfl hi,sb,zuE k hx,sb,hk,itF (by simp [hp]),uV];push_cast;rfl
    ·rw [xu (by simpa using hp)];refine zhv ?_;unfold zaS;rw [uT,zP rfl hi,sb,zuE k hx,sb,hk,itT (by simp [hp])])
  l.length 0 (xE _)
 have h1':zeH k l 0=_:=h1;rw [h1',sb,xX];cases l.all (fun w=>kNum k&&zjD k w==w)<;>rfl
theorem zGV (hm:m.Fields.length<=140737488351232) (hu:u.length<=1048576):zjd m u=some (unkR m u):=by
 unfold zjd unkR;have e:lenO u=some u:=by unfold lenO;rw [xw (by omega)]
 rw [e,sb,zJe hu,sb]
 generalize ztN u 0=r
 by_cases c1:r.2=0
 ·by_cases c2:r.1.To=(u.length:Int)
  ·rw [itF (by simp [c1,c2]),zqC hm,sb];have hf:fldI m r.1.Number=zkD (fun f:Fld=>f.Number==r.1.Number) m.Fields:=rfl;rw [hf];cases h:m.Fields.findIdx? (fun f:Fld=>f.Number==r.1.Number) with
   | none=>rw [zkp h];simp [c1,c2]
   | some i=>rw [zkq h];simp [c1,c2]
  ·rw [itT (by simp [c2])];simp [c2]
 ·rw [itT (by simp [c1])];simp [c1]
theorem zzv {α:Type} {p:α->Bool} (h:∀x,p x=false) (l:List α):l.all p=l.isEmpty:=by
 cases l with
 | nil=>rfl
 | cons x l=>rw [yx,h];rfl
theorem zqQ {α:Type} (l:List α):l.isEmpty=decide (l.length=0):=by cases l<;>simp
theorem zCi {s:List Mes} (hs:zlQ s):∀(fuel:Nat),(∀(x:Msg) (k:Nat),k<s.length->2*szM x<fuel->bdM x->smM x->zeW fuel s k x=some (zaw s x k))/\
  (∀(v:Vlu) (f:Fld),2*szV v<fuel->bdV v->smV v->zkz fuel f s v=some (zkN s v f))/\
  ∀(l:List Msg) (k:Int),2*szMs l+1<fuel->l.length<=1152921504606846976->bdMs l->smMs l->zhS fuel s k l=some (decide (0<=k/\k<s.length)&&l.all fun x=>zaw s x k)
 | 0=>⟨fun x k _ h=>by omega,fun v f h=>by omega,fun l k h=>by omega⟩
 | fuel+1=>by
  obtain ⟨ih1,ih2,ih3⟩:=zCi hs fuel;have hlen:=hs.len;refine ⟨fun x k hk hsz hb hsm=>?_,fun v f hsz hb hsm=>?_,fun l k hsz hl hb hsm=>?_⟩
  ·obtain ⟨b1,⟨b2,b3⟩,b4⟩:=(zhr x).1 hb;obtain ⟨s1,⟨s2,s3⟩,s4⟩:=(zki x).1 hsm;rw [zcN] at hsz;show zhU (zhS fuel) (zkz fuel) (zeW fuel) s k x=_;unfold zhU;rw [zmv,ya (show (0:Int)<=(k:Int)/\(k:Int)<(s.length:Int) by omega),xR];have hm:idx s (k:Int)=some (zaP s k):=by rw [zP rfl hk,zjR hk]
   have hmm:zaP s (k:Int)∈s:=by rw [zjR hk];exact xC hk
   have hfew:=hs.few _ hmm;have hfld:=hs.fld _ hmm
   generalize zaP s (k:Int)=m at hm hmm hfew hfld|-
   rw [hm,sb];have hv:∀(c i:Nat) (p:Option Int) (last:Int),i+c=x.Values.length->(p=none/\last=0\/p=some last)->zgb (zkz fuel) s x m last i=some (if zgP s (x.Values.drop i) m p=true then .inl () else .inr ()):=by
    intro c
    induction c with
    | zero=>
     intro i p last hi _;have e:x.Values.drop i=[]:=yb (by omega);rw [e,zgP,xw rfl];refine zkP ?_;unfold zcu;rw [uU]
    | succ c ih=>
     intro i p last hi hp;have hil:i<x.Values.length:=by omega
     have hx:idx x.Values (i:Int)=some x.Values[i]:=zP rfl hil;have hmem:=xC hil;have z1:=zdH hmem;have hbv:=zdB.1 b4 _ hmem;have hsv:=zgL.1 s4 _ hmem;rw [xQ hil,zgP]
     generalize x.Values[i]=v at hx hmem z1 hbv hsv|-
     have hw1:IntKind.i64.wrap ((i:Int)+1)=((i+1:Nat):Int):=by rw [uV];push_cast;rfl
     have hbody:zcu (zkz fuel) s x m last i=if (decide (0<=fldI m v.Number)&&p.all (fun q=>decide (q<v.Number))&&zkN s v (zaM m (fldI m v.Number)))=true then some (.inl (v.Number,((i+1:Nat):Int))) else some (.inr (.inr ())):=by
      unfold zcu;rw [uT,hx,sb,zqC (by omega),sb];have hf:fldI m v.Number=zkD (fun f:Fld=>f.Number==v.Number) m.Fields:=rfl;cases h:m.Fields.findIdx? (fun f:Fld=>f.Number==v.Number) with
      | none=>
       rw [hf,zkp h,itT (by rfl),sb,itT (by rfl),xu (by simp)]
      | some j=>
       rw [hf,zkq h];have hjs:=pu.1 h;obtain ⟨hj,hjn,_⟩:=hjs;have hjn':(m.Fields[j]).Number=v.Number:=by simpa using hjn
       have hlo:=(hfld _ (xC hj)).lo;have hfj:idx m.Fields (j:Int)=some (zaM m (j:Int)):=by rw [zP rfl hj,ztB hj]
       have hfit:=ih2 v (zaM m (j:Int)) (by omega) hbv hsv;have hpl:p.all (fun q=>decide (q<v.Number))=decide (last<v.Number):=by
        rcases hp with ⟨rfl,rfl⟩| rfl
        ·rw [ya (show (0:Int)<v.Number by omega)];rfl
        ·rfl
       rw [itF (by rfl),hpl,ya (show (0:Int)<=(j:Int) by omega),xR];by_cases hlt:last<v.Number
       ·rw [itF (by simpa using hlt),ya hlt,xR];simp only;rw [hfj,sb,hfit,sb,sb];cases hfv:zkN s v (zaM m (j:Int))
        ·rw [itT (by rfl),xu (by simp)]
        ·rw [itF (by rfl),xw rfl,hw1]
       ·rw [uT,sb,itT (by rfl),yd hlt,xu (by simp)]
     generalize (decide (0<=fldI m v.Number)&&p.all (fun q=>decide (q<v.Number))&&zkN s v (zaM m (fldI m v.Number)))=bb at hbody|-
     cases bb
     ·rw [xu (by simp)] at hbody;rw [zkP hbody,yQ,xu (by simp)]
     ·rw [xw rfl] at hbody;rw [zqs hbody,ih _ (some v.Number) v.Number (by omega) (.inr rfl),xR]
   have h1:=hv x.Values.length 0 none 0 (xE _) (.inl ⟨rfl,rfl⟩);have h1':zgb (zkz fuel) s x m 0 0=_:=h1;rw [xX] at h1';rw [h1',sb];cases hrv:zgP s x.Values m none
   ·rw [xu (by simp)];rfl
   ·rw [xw rfl,xR];simp only;have h2:=zmB (unkR m) x.Unknown (fun i=>zgc x m i) (by
      refine zkQ ?_;unfold zcv;rw [itF (by simp)])
     (fun i hi=>by
      have hu:=zGV (m:=m) (by omega) (s3 _ (xC hi));cases hun:unkR m x.Unknown[i]
      ·rw [xu (by simp)];refine zkQ ?_;unfold zcv;rw [uT,zP rfl hi,sb,hu,sb,hun,itT (by rfl)]
      ·rw [xw rfl];refine zqt ?_;unfold zcv;rw [uT,zP rfl hi,sb,hu,sb,hun,itF (by rfl),uV];push_cast;rfl)
     x.Unknown.length 0 (xE _)
    have h2':zgc x m 0=_:=h2;rw [h2',sb,xX];cases x.Unknown.all (unkR m)<;>rfl
  ·obtain ⟨_,⟨b1,b1'⟩,⟨b2,b3⟩,b4,b5⟩:=(zgS v).1 hb;obtain ⟨s1,⟨s2,s3⟩,s4,s5⟩:=(zlg v).1 hsm;rw [zeV] at hsz;show zlM (zhS fuel) (zkz fuel) (zeW fuel) f s v=_;unfold zlM;rw [zFT ⟨by omega,by omega,by omega⟩,sb,ztA,zmT];have hmany:zfM v=v.Words.length+v.Texts.length+v.Subs.length:=rfl;by_cases h0:zfM v=0\/1<zfM v/\f.Repeated=false
   ·have hmr:zpU f v=false:=by
     unfold zpU;rcases h0 with h0| ⟨h0,h1⟩
     ·simp [h0]
     ·rw [h1];simp;omega
    rw [hmr,itT (by
     rcases h0 with h0| ⟨h0,h1⟩
     ·simp [h0]
     ·rw [h1];simp;omega)]
    rfl
   ·have hmr:zpU f v=zfz f.Kind:=by
     unfold zpU;rw [ya (show 0<zfM v by omega),xR];cases hr:f.Repeated
     ·rw [hr] at h0;rw [ya (show zfM v<=1 by simp at h0;omega)];rfl
     ·simp
    rw [hmr,itF (by
     cases hr:f.Repeated
     ·rw [hr] at h0;simp at h0|-;omega
     ·simp;omega)]
    have hW:kNum f.Kind=false->v.Words.all (znO f)=decide (v.Words.length=0):=fun h=>by
     rw [zzv (fun w=>by unfold znO;rw [h];rfl),zqQ]
    have hT:f.Kind≠15->f.Kind≠16->v.Texts.all (zna f)=decide (v.Texts.length=0):=fun h1 h2=>by
     rw [zzv (fun t=>by unfold zna;simp [h1,h2]),zqQ]
    have hS:f.Kind≠17->(v.Subs.all fun x=>f.Kind==17&&zaw s x f.Of)=decide (v.Subs.length=0):=fun h=>by
     rw [zzv (fun x=>by simp [h]),zqQ]
    by_cases k15:f.Kind=15
    ·rw [itT (by simp [k15]),hW (by rw [k15];rfl),hS (by omega)];have hkr:zfz f.Kind=true:=by rw [k15];rfl
     rw [hkr,xR];by_cases hl:v.Words.length=0/\v.Subs.length=0
     ·rw [uT,zAK (by omega) b3,sb,sb,ya hl.1,ya hl.2,xR,px];have:v.Texts.all (zna f)=v.Texts.all zlW:=by
       congr 1;funext t;unfold zna;simp [k15]
      rw [this]
     ·rw [uU,sb];congr 1
      symm
      by_cases hw0:v.Words.length=0
      ·rw [yd (show ¬v.Subs.length=0 by omega),pg]
      ·rw [yd hw0,yQ,yQ]
    ·rw [itF (by simp [k15])];by_cases k16:f.Kind=16
     ·rw [itT (by simp [k16]),hW (by rw [k16];rfl),hS (by omega)];have hkr:zfz f.Kind=true:=by rw [k16];rfl
      have hta:v.Texts.all (zna f)=true:=by rw [xJ];intro t _;unfold zna;simp [k16]
      rw [hkr,hta,xR,px];congr 1;rw [<-Bool.decide_and];rw [yK];simp only [pW,xS];omega
     ·rw [itF (by simp [k16])];by_cases k17:f.Kind=17
      ·rw [itT (by simp [k17]),hW (by rw [k17];rfl),hT k15 k16];have hkr:zfz f.Kind=true:=by rw [k17];rfl
       rw [hkr,xR];have hsub:(v.Subs.all fun x=>f.Kind==17&&zaw s x f.Of)=v.Subs.all fun x=>zaw s x f.Of:=by
        congr 1;funext x;simp [k17]
       rw [hsub];by_cases hl:v.Words.length=0/\v.Texts.length=0
       ·rw [uT,ih3 v.Subs f.Of (by omega) (by omega) b5 s5,sb,sb,ya hl.1,ya hl.2,xR,xR];by_cases hof:0<=f.Of/\f.Of<s.length
        ·rw [ya hof,xR]
        ·rw [yd hof,yQ];congr 1
         symm
         have hne:v.Subs≠[]:=fun e=>h0 (.inl (by rw [hmany,hl.1,hl.2,e];rfl))
         obtain ⟨x,l,hxl⟩:=pZ hne;rw [hxl,yx,zmv,yd hof];rfl
       ·rw [uU,sb];congr 1
        symm
        by_cases hw0:v.Words.length=0
        ·rw [yd (show ¬v.Texts.length=0 by omega),pg,yQ]
        ·rw [yd hw0,yQ,yQ]
      ·rw [itF (by simp [k17]),hT k15 k16,hS k17];have hck:(v.Words.all fun w=>kNum f.Kind&&zjD f.Kind w==w)=v.Words.all (znO f):=rfl;by_cases hl:v.Texts.length=0/\v.Subs.length=0
       ·rw [uT,zAJ (by omega) b1',sb,sb,ya hl.1,ya hl.2,px,px,hck];congr 1;cases hkn:kNum f.Kind
        ·rw [hW hkn,yd (show ¬v.Words.length=0 by omega),pg]
        ·have hkr:zfz f.Kind=true:=by
          rw [zHf] at hkn;unfold zfz;simp;omega
         rw [hkr,xR]
       ·rw [uU,sb];congr 1
        symm
        by_cases hw0:v.Texts.length=0
        ·rw [yd (show ¬v.Subs.length=0 by omega),pg]
        ·rw [yd hw0,pg,yQ]
  ·show zgM (zhS fuel) (zkz fuel) (zeW fuel) s k l=_;unfold zgM;by_cases hk:0<=k/\k<s.length
   ·rw [uU,ya hk,xR];obtain ⟨n,rfl⟩:∃n:Nat,k=n:=⟨k.toNat,by omega⟩;have h1:=zmB (fun x=>zaw s x n) l (fun i=>zff l n (zeW fuel) s i) (by
      refine zky ?_;unfold zbJ;rw [itF (by simp)])
     (fun i hi=>by
      have hm:=xC hi;have z1:=zeG hm;have hr:=ih1 l[i] n (by omega) (by omega) (zeb.1 hb _ hm) (zhQ.1 hsm _ hm);cases hp:zaw s l[i] n
      ·rw [xu (by simp)];refine zky ?_;unfold zbJ;rw [uT,zP rfl hi,sb,hr,sb,hp,itT (by rfl)]
      ·rw [xw rfl];refine zpb ?_;unfold zbJ;rw [uT,zP rfl hi,sb,hr,sb,hp,itF (by rfl),uV];push_cast;rfl)
     l.length 0 (xE _)
    have h1':zff l n (zeW fuel) s 0=_:=h1;rw [h1',sb,xX];cases l.all (fun x=>zaw s x n)<;>rfl
   ·rw [uT,yd hk];rfl
theorem zDF (root:Int) (hf:2*szM x<fuel) (hw:WS s) (hb:bdM x) (hsm:smM x) (hd:dM x<=131072):zlh fuel s root x=some (zgI s&&zaw s x root):=by
 unfold zlh;rw [zIr hw,sb];by_cases h0:argS s root 0=0
 ·obtain ⟨hr,g1,g2,_,_⟩:=zEV h0;have hrs:zgI s=true:=by
   unfold argS at h0;cases h:zgI s with
   | true=>rfl
   | false=>rw [h,xw rfl] at h0;cases h0
  obtain ⟨k,rfl⟩:∃k:Nat,root=k:=⟨root.toNat,by omega⟩;rw [itT (by simp [h0]),zCf (by omega) hb hd,sb,itT (by rfl),(zCi hr fuel).1 x k (by omega) hf hb hsm,sb,sb,hrs,xR]
 ·rw [itF (by simp [h0]),sb];congr 1
  symm
  cases hrs:zgI s
  ·rfl
  ·rw [xR,zmv];unfold argS at h0;rw [xu (by rw [hrs];simp)] at h0;rw [yd (by split at h0<;>omega)];rfl
theorem zHE {κ ν:Type} [DecidableEq κ] (m:List (κ×ν)) (k:κ) (x:ν):(mput m k x).length<=m.length+1:=by
 have h:=congrArg List.length (zmu m k x);rw [yZ] at h;rw [h];split<;>simp
theorem zqP (a b:List zI) (way:zI):hasB (a++b) way=(hasB a way|| hasB b way):=by unfold hasB;rw [pY]
theorem zID {a b:Bool} (h:a=true↔b=true):a=b:=by
 cases a<;>cases b<;>simp at h|-
theorem zFh {a:List zI} {w:zI} (h:w∈a) (hn:w≠[]):hasB a w=true:=zgm.2 ⟨w,h,hn,qM _⟩
theorem zKK {a:List zI} (h:WW a):WW (ofW a):=⟨yi (zEz _) h.1,fun w hm=>h.2 w (zmn.1 hm).1⟩
theorem zkc:∀{a b:zI},zdn a b=true↔lexI a b<0
 | [],[]=>by simp [zdn,lexI]
 | [],_::_=>by simp [zdn,lexI]
 | _::_,[]=>by simp [zdn,lexI]
 | x::a,y::b=>by
  rw [zdn,lexI];by_cases h:x=y
  ·subst h;rw [xw rfl,xu (qq x),xu (qq x)];exact zkc
  ·rw [xu h];by_cases h1:x<y
   ·simp [h1]
   ·simp [h1,show y<x by omega]
theorem zBt:∀(v t:zI),lexI v (v++t)<=0
 | [],[]=>qr _
 | [],_::_=>by rw [yc,lexI];decide
 | x::v,t=>by rw [yz,lexI,xu (qq x),xu (qq x)];exact zBt v t
theorem zBv {v w:zI} (h:v<+:w):lexI v w<=0:=by
 obtain ⟨t,rfl⟩:=h;exact zBt v t
theorem zBu:∀(v t u:zI),lexI v u<=0->lexI u (v++t)<=0->v<+:u
 | [],t,u,_,_=>List.nil_prefix
 | x::v,t,[],h,_=>by rw [lexI] at h;exact absurd h (by decide)
 | x::v,t,y::u,h,k=>by
  rw [lexI] at h;rw [yz,lexI] at k;by_cases h1:x<y
  ·rw [xu (show ¬y<x by omega),xw h1] at k;exact absurd k (by decide)
  ·by_cases h2:y<x
   ·rw [xu h1,xw h2] at h;exact absurd h (by decide)
   ·rw [xu h1,xu h2] at h;rw [xu h2,xu h1] at k;obtain rfl:x=y:=by omega
    exact List.cons_prefix_cons.2 ⟨rfl,zBu v t u h k⟩
theorem zJh {v w u:zI} (hp:v<+:w) (h:lexI v u<=0) (k:lexI u w<=0):v<+:u:=by
 obtain ⟨t,rfl⟩:=hp;exact zBu v t u h k
structure zmy (l:List zI):Prop where
 sorted:l.Pairwise (fun a b=>zdn a b=true)
 full:∀w∈l,w≠[]
 anti:∀v∈l,∀w∈l,v<+:w->v=w
theorem zmy.of {l:List zI} (h:zmy l):ofW l=l:=
 zrw _ _ (zpF l) h.sorted fun w=>by
  rw [zmn];exact ⟨fun k=>k.1,fun hw=>⟨hw,h.full w hw,fun v hv _ hp=>h.anti v hv w hw hp⟩⟩
theorem zyU (ways:List zI):zmy (ofW ways):=
 ⟨zpF ways,fun w hw=>(zmn.1 hw).2.1,fun v hv w hw hp=>(zmn.1 hw).2.2 v (zmn.1 hv).1 (zmn.1 hv).2.1 hp⟩
theorem zFx {l:List zI}:zmy l↔ofW l=l:=⟨fun h=>h.of,fun h=>h▸zyU l⟩
theorem zyT:zmy []:=⟨List.Pairwise.nil,fun w hw=>(by cases hw),fun v hv=>(by cases hv)⟩
theorem zmy.filter {l:List zI} (h:zmy l) (p:zI->Bool):zmy (l.filter p):=
 ⟨h.sorted.filter p,fun w hw=>h.full w (yE.1 hw).1,fun v hv w hw=>h.anti v (yE.1 hv).1 w (yE.1 hw).1⟩
def zzk (last way:zI):Bool:=decide (0<=lexI last way)|| (!last.isEmpty&&begB way last)
def zkV:zI->List zI->Bool
 | _,[]=>true
 | last,w::l=> !zzk last w&&zkV w l
theorem zFO {last way:zI}:zzk last way=false↔lexI last way<0/\¬(last≠[]/\last<+:way):=by
 unfold zzk;rw [qj,qJ,<-pd,xA,zmD,ym,qL];constructor
 ·rintro ⟨h,k⟩;exact ⟨by omega,k⟩
 ·rintro ⟨h,k⟩;exact ⟨by omega,k⟩
theorem zpo {last w:zI} {l:List zI}:zkV last (w::l)=true↔lexI last w<0/\¬(last≠[]/\last<+:w)/\zkV w l=true:=by
 rw [zkV,xA,ym,zFO,and_assoc]
theorem zpp:∀{l:List zI} {last:zI},zkV last l=true->∀w∈l,lexI last w<0
 | [],_,_,w,hw=>by cases hw
 | u::l,last,h,w,hw=>by
  obtain ⟨h1,_,h3⟩:=zpo.1 h;rcases xz.1 hw with rfl| hw
  ·exact h1
  ·exact zkc.1 (znE last u w (zkc.2 h1) (zkc.2 (zpp h3 w hw)))
theorem zCK:∀{l:List zI} {last:zI},zkV last l=true->last≠[]->∀w∈l,¬last<+:w
 | [],_,_,_,w,hw=>by cases hw
 | u::l,last,h,hn,w,hw=>by
  obtain ⟨h1,h2,h3⟩:=zpo.1 h;rcases xz.1 hw with rfl| hw
  ·exact fun hp=>h2 ⟨hn,hp⟩
  ·exact fun hp=>h2 ⟨hn,zJh hp (by omega) (by have:=zpp h3 w hw;omega)⟩
theorem zvh:∀{l:List zI} {last:zI},zkV last l=true->zmy l
 | [],_,_=>zyT
 | u::l,last,h=>by
  obtain ⟨h1,h2,h3⟩:=zpo.1 h;have ih:=zvh h3;have hu:u≠[]:=fun e=>by
   subst e;cases last with
   | nil=>rw [lexI] at h1;exact absurd h1 (by decide)
   | cons=>rw [lexI] at h1;exact absurd h1 (by decide)
  refine ⟨yr.2 ⟨fun w hw=>zkc.2 (zpp h3 w hw),ih.sorted⟩,fun w hw=>?_,fun v hv w hw hp=>?_⟩
  ·rcases xz.1 hw with rfl| hw
   ·exact hu
   ·exact ih.full w hw
  ·rcases xz.1 hv with rfl| hv1
   ·rcases xz.1 hw with rfl| hw1
    ·rfl
    ·exact absurd hp (zCK h3 hu w hw1)
   ·rcases xz.1 hw with rfl| hw1
    ·have:=zpp h3 v hv1;have:=zBv hp;have:=zjk v w;omega
    ·exact ih.anti v hv1 w hw1 hp
theorem zAQ:∀{l:List zI} {last:zI},zmy l->(∀w∈l,lexI last w<0/\¬(last≠[]/\last<+:w))->zkV last l=true
 | [],_,_,_=>rfl
 | u::l,last,h,k=>by
  obtain ⟨h1,h2⟩:=yr.1 h.sorted;refine zpo.2 ⟨(k u xx).1,(k u xx).2,zAQ ⟨h2,fun w hw=>h.full w (xy _ hw),fun v hv w hw=>h.anti v (xy _ hv) w (xy _ hw)⟩ fun w hw=>⟨zkc.1 (h1 w hw),fun ⟨_,hp⟩=>?_⟩⟩;have e:=h.anti u xx w (xy _ hw) hp;have:=h1 w hw;rw [<-e,zjj] at this;cases this
theorem zyw {l:List zI}:zkV [] l=true↔ofW l=l:=by
 rw [<-zFx];refine ⟨zvh,fun h=>zAQ h fun w hw=>⟨?_,fun k=>k.1 rfl⟩⟩;cases w with
 | nil=>exact absurd rfl (h.full [] hw)
 | cons=>rw [lexI];decide
def addL (acc:List zI) (x:zI):List zI:=if (!x.isEmpty&& !hasB acc x)=true then acc++[x] else acc
structure Fo (pre acc:List zI):Prop where
 mask:zmy acc
 has:∀v,hasB acc v=hasB pre v
 mem:∀a∈acc,a∈pre
theorem zEb {pre acc:List zI} {x:zI} (h:Fo pre acc) (hx:∀a∈pre,lexI a x<=0) (hn:hasB acc x=false):∀a∈acc,¬x<+:a:=fun a ha hp=>by
 have e:=zyQ (hx a (h.mem a ha)) (zBv hp);subst e;rw [zFh ha (h.mask.full a ha)] at hn;cases hn
theorem zIM {pre acc:List zI} {x:zI} (h:Fo pre acc) (hx:∀a∈pre,lexI a x<=0):Fo (pre++[x]) (addL acc x):=by
 unfold addL;have one:∀v,hasB [x] v=(!x.isEmpty&&begB v x):=fun v=>by simp [hasB]
 by_cases hc:(!x.isEmpty&& !hasB acc x)=true
 ·rw [xw hc];simp only [xA,ym,qL] at hc;obtain ⟨h1,h2⟩:=hc;have hf:=zEb h hx h2;have hb:∀a∈acc,¬a<+:x:=fun a ha hp=>by
   rw [zgm.2 ⟨a,ha,h.mask.full a ha,hp⟩] at h2;cases h2
  refine ⟨⟨List.pairwise_append.2 ⟨h.mask.sorted,List.pairwise_singleton _ _,fun a ha b hb'=>?_⟩,fun w hw=>?_,fun v hv w hw hp=>?_⟩,fun v=>by rw [zqP,zqP,h.has v],fun a ha=>?_⟩
  ·simp only [yf] at hb';subst hb';have h3:=hx a (h.mem a ha);rcases Int.lt_or_eq_of_le h3 with h4| h4
   ·exact zkc.2 h4
   ·exact absurd (zrU h4▸qM _) (hb a ha)
  ·rcases xD.1 hw with hw| hw
   ·exact h.mask.full w hw
   ·simp only [yf] at hw;rw [hw];exact h1
  ·rcases xD.1 hv with hv1| hv1<;>rcases xD.1 hw with hw1| hw1
   ·exact h.mask.anti v hv1 w hw1 hp
   ·simp only [yf] at hw1;subst hw1;exact absurd hp (hb v hv1)
   ·simp only [yf] at hv1;subst hv1;exact absurd hp (hf w hw1)
   ·simp only [yf] at hv1 hw1;rw [hv1,hw1]
  ·rcases xD.1 ha with ha| ha
   ·exact xU _ (h.mem a ha)
   ·exact xV _ ha
 ·rw [xu hc];refine ⟨h.mask,fun v=>?_,fun a ha=>xU _ (h.mem a ha)⟩;rw [zqP,one,<-h.has v];cases he:(!x.isEmpty&&begB v x) with
  | false=>rw [qN]
  | true=>
   simp only [xA,ym,qL,zmD] at he;have hh:hasB acc x=true:=by
    cases hb:hasB acc x with
    | true=>rfl
    | false=>exact absurd (by simp [hb,he.1]) hc
   obtain ⟨a,ha,hn,hp⟩:=zgm.1 hh;rw [zgm.2 ⟨a,ha,hn,hp.trans he.2⟩];rfl
theorem zJY:Fo [] []:=⟨zyT,fun v=>rfl,fun a ha=>(by cases ha)⟩
theorem zJZ {l acc:List zI} (h:Fo l acc):acc=ofW l:=by rw [<-h.mask.of];exact zBE h.has
theorem zHH {l r:List zI} (h:r.Perm l):ofW r=ofW l:=zBE fun v=>by
 refine zID ?_;rw [zgm,zgm];exact ⟨fun ⟨a,ha,k⟩=>⟨a,h.mem_iff.1 ha,k⟩,fun ⟨a,ha,k⟩=>⟨a,h.mem_iff.2 ha,k⟩⟩
abbrev ztp:=List (zal×Int)
structure Trie (t:ztp) (A:List zI) (P:List (zI×Int)):Prop where
 root:([],0)∈P
 same:∀p∈P,∀q∈P,(p.2=q.2↔p.1=q.1)
 ids:∀p∈P,0<=p.2/\p.2<=t.length
 keys:∀(i n:Int),(t.length:Int)<i->mget t ⟨i,n⟩=none
 leaf:∀p∈P,∀n,p.1++[n]∈A->mget t ⟨p.2,n⟩=some (-1)
 node:∀p∈P,∀n,∀q∈P,q.1=p.1++[n]->mget t ⟨p.2,n⟩=some q.2
 none:∀p∈P,∀n,p.1++[n]∉A->(∀q∈P,q.1≠p.1++[n])->mget t ⟨p.2,n⟩=none
 clo:∀q∈P,∀p n,q.1=p++[n]->∃i,(p,i)∈P
 comp:∀a∈A,∀p,p<+:a->p≠a->∃i,(p,i)∈P
 anti:∀v∈A,∀w∈A,v<+:w->v=w
 full:∀a∈A,a≠[]
def zve (t:ztp) (A:List zI) (P:List (zI×Int)):Prop:=Trie t A P/\∀p∈P,p.1=[]\/∃a∈A,p.1<+:a/\p.1≠a
theorem zIo:zve [] [] [([],0)]:=by
 have h1:∀p∈[(([]:zI),(0:Int))],p=([],0):=fun p hp=>by simpa using hp
 refine ⟨⟨xx,fun p hp q hq=>?_,fun p hp=>?_,fun i n _=>rfl,fun p hp n h=>(by cases h),fun p hp n q hq h=>?_,fun p hp n _ _=>rfl,fun q hq p n h=>?_,fun a ha=>(by cases ha),fun v hv=>(by cases hv),fun a ha=>(by cases ha)⟩,fun p hp=>?_⟩
 ·rw [h1 p hp,h1 q hq];simp
 ·rw [h1 p hp];simp
 ·rw [h1 q hq,h1 p hp] at h;simp at h
 ·rw [h1 q hq] at h;simp at h
 ·rw [h1 p hp];exact .inl rfl
theorem zAg {a b:zI} (h:a<+:b) (hl:b.length<=a.length):a=b:=h.eq_of_length (Nat.le_antisymm h.length_le hl)
section
variable {t:ztp} {A:List zI} {P:List (zI×Int)}
theorem zIm (h:zve t A P) {way:zI} {i:Int} (hw:(way,i)∈P):hasB A way=false:=by
 rw [<-pd,zgm];rintro ⟨v,hv,hn,hp⟩;rcases h.2 _ hw with h0| ⟨a,ha,h1,h2⟩
 ·simp only at h0;subst h0;exact hn (List.prefix_nil.1 hp)
 ·have e:=h.1.anti v hv a ha (hp.trans h1);subst e;exact h2 (zAg h1 hp.length_le)
theorem zFV {p:zI} {way:zI} (hp:p<+:way) (hn:p≠[]) (ha:p∈A):hasB A way=true:=zgm.2 ⟨p,ha,hn,hp⟩
theorem zFW (h:zve t A P) {p way:zI} {i n:Int} (hp:(p,i)∈P) (hq:p++[n]<+:way) (hA:p++[n]∉A) (hP:∀q∈P,q.1≠p++[n]):hasB A way=false:=by
 rw [<-pd,zgm];rintro ⟨v,hv,hn,hv2⟩;have hpw:p<+:way:=(uA p [n]).trans hq;rcases uo v.length (p++[n]).length with hl| hl| hl
 ·have hvp:v<+:p:=uB hv2 hpw (by simp at hl;omega);rcases h.2 _ hp with h0| ⟨a,ha,h1,h2⟩
  ·simp only at h0;subst h0;exact hn (List.prefix_nil.1 hvp)
  ·have e:=h.1.anti v hv a ha (hvp.trans h1);subst e;exact h2 (zAg h1 hvp.length_le)
 ·have hvq:v<+:p++[n]:=uB hv2 hq (by omega);rw [zAg hvq (by omega)] at hv;exact hA hv
 ·have hqv:p++[n]<+:v:=uB hq hv2 (by omega);obtain ⟨j,hj⟩:=h.1.comp v hv _ hqv (fun e=>by rw [e] at hl;omega);exact hP _ hj rfl
theorem zBC {t:ztp} {k:zal} (h:mget t k=none) (x:Int):(mput t k x).length=t.length+1:=by
 have:=congrArg List.length (zmu t k x);rw [h] at this;simpa using this
theorem zHF {t:ztp} {k:zal} {y:Int} (h:mget t k=some y) (x:Int):(mput t k x).length=t.length:=by
 have:=congrArg List.length (zmu t k x);rw [h] at this;simpa using this
theorem zwn {i n j m:Int} (h:¬(i=j/\n=m)):¬((⟨i,n⟩:zal)=⟨j,m⟩):=fun e=>h (by injection e with e1 e2;exact ⟨e1,e2⟩)
theorem zxJ {a b:zI} {x y:Int} (h:a++[x]=b++[y]):a=b/\x=y:=by
 have:=List.append_inj' h rfl;exact ⟨this.1,by simpa using this.2⟩
theorem zIn (h:Trie t A P) {p:zI} {i n:Int} (hp:(p,i)∈P) (hA:p++[n]∉A) (hP:∀q∈P,q.1≠p++[n]):
  Trie (mput t ⟨i,n⟩ ((t.length+1:Nat):Int)) A (P++[(p++[n],((t.length+1:Nat):Int))]):=by
 have hg:=h.none _ hp n hA hP;have hl:=zBC hg ((t.length+1:Nat):Int);have hi:=h.ids _ hp;have new:∀r,r∈P++[(p++[n],((t.length+1:Nat):Int))]->r∈P\/r=(p++[n],((t.length+1:Nat):Int)):=fun r hr=>by
  rcases xD.1 hr with hr| hr
  ·exact .inl hr
  ·exact .inr (by simpa using hr)
 have key:∀r∈P,∀m,r.1++[m]≠p++[n]->mget (mput t ⟨i,n⟩ ((t.length+1:Nat):Int)) ⟨r.2,m⟩=mget t ⟨r.2,m⟩:=fun r hr m hne=>by
  rw [zfe,xu (zwn fun ⟨e1,e2⟩=>hne (by rw [(h.same r hr _ hp).1 e1,e2]))]
 have fresh:∀m,mget (mput t ⟨i,n⟩ ((t.length+1:Nat):Int)) ⟨((t.length+1:Nat):Int),m⟩=none:=fun m=>by
  rw [zfe,xu (zwn fun ⟨e1,_⟩=>by simp only at hi;omega)];exact h.keys _ _ (by omega)
 refine ⟨xU _ h.root,fun r hr s hs=>?_,fun r hr=>?_,fun j m hj=>?_,fun r hr m hm=>?_,fun r hr m s hs hsr=>?_,fun r hr m hm hns=>?_,fun s hs q m hq=>?_,fun a ha q hq hne=>?_,h.anti,h.full⟩
 ·rcases new r hr with hr| rfl<;>rcases new s hs with hs| rfl
  ·exact h.same r hr s hs
  ·have:=h.ids r hr;exact ⟨fun e=>by simp only at e;omega,fun e=>absurd e (hP r hr)⟩
  ·have:=h.ids s hs;exact ⟨fun e=>by simp only at e;omega,fun e=>absurd e.symm (hP s hs)⟩
  ·exact ⟨fun _=>rfl,fun _=>rfl⟩
 ·rw [hl];rcases new r hr with hr| rfl
  ·have:=h.ids r hr;exact ⟨this.1,by omega⟩
  ·exact ⟨by simp only;omega,qr _⟩
 ·rw [hl] at hj;simp only at hi;rw [zfe,xu (zwn fun ⟨e1,_⟩=>by omega)];exact h.keys _ _ (by omega)
 ·rcases new r hr with hr| rfl
  ·rw [key r hr m (fun e=>hA (e▸hm))];exact h.leaf r hr m hm
  ·obtain ⟨j,hj⟩:=h.comp _ hm (p++[n]) (uA _ _) (fun e=>by have:=congrArg List.length e;simp at this);exact absurd rfl (hP _ hj)
 ·rcases new s hs with hs| rfl
  ·rcases new r hr with hr| rfl
   ·rw [key r hr m (fun e=>hP s hs (hsr.trans e))];exact h.node r hr m s hs hsr
   ·obtain ⟨j,hj⟩:=h.clo s hs _ _ hsr;exact absurd rfl (hP _ hj)
  ·rcases new r hr with hr| rfl
   ·obtain ⟨e1,e2⟩:=zxJ hsr;have e3:r.2=i:=(h.same r hr _ hp).2 e1.symm;rw [zfe,xw (by rw [e3,e2])]
   ·have:=congrArg List.length hsr;simp at this
 ·rcases new r hr with hr| rfl
  ·have hne:r.1++[m]≠p++[n]:=fun e=>hns _ (xV _ xx) e.symm
   rw [key r hr m hne];exact h.none r hr m hm fun q hq=>hns q (xU _ hq)
  ·exact fresh m
 ·rcases new s hs with hs| rfl
  ·obtain ⟨j,hj⟩:=h.clo s hs q m hq;exact ⟨j,xU _ hj⟩
  ·obtain ⟨e1,e2⟩:=zxJ hq;exact ⟨i,xU _ (e1▸hp)⟩
 ·obtain ⟨j,hj⟩:=h.comp a ha q hq hne;exact ⟨j,xU _ hj⟩
theorem zDE (h:Trie t A P) {way:zI} {j:Int} (hw:(way,j)∈P):∀p,p<+:way->∃i,(p,i)∈P:=by
 have key:∀(d:Nat) (p:zI),p.length+d=way.length->p<+:way->∃i,(p,i)∈P:=by
  intro d
  induction d with
  | zero=>intro p hl hp;rw [zAg hp (by omega)];exact ⟨j,hw⟩
  | succ d ih=>
   intro p hl hp;have hlt:p.length<way.length:=by omega
   have hq:p++[way[p.length]]<+:way:=by
    have e:p=way.take p.length:=uR.1 hp;have:way.take (p.length+1)=p++[way[p.length]]:=by rw [yA hlt,<-e]
    rw [<-this];exact uC _ _
   obtain ⟨i,hi⟩:=ih _ (by simp;omega) hq;exact h.clo _ hi p _ rfl
 intro p hp;exact key (way.length - p.length) p (by have:=hp.length_le;omega) hp
theorem zFU (h:Trie t A P) {p:zI} {i n j:Int} (hp:(p,i)∈P) (hw:(p++[n],j)∈P) (hf:∀a∈A,¬p++[n]<+:a) (hb:∀a∈A,¬a<+:p++[n])
  (hx:∀r∈P,r.1=[]\/(∃a∈A,r.1<+:a/\r.1≠a)\/r.1<+:p++[n]):(mput t ⟨i,n⟩ (-1)).length=t.length/\zve (mput t ⟨i,n⟩ (-1)) (A++[p++[n]]) (P.filter fun r=>decide (r.1≠p++[n])):=by
 have hg:=h.node _ hp n _ hw rfl;have hl:=zHF hg (-1);have hA:p++[n]∉A:=fun ha=>hf _ ha (qM _)
 have mem:∀r,r∈P.filter (fun r=>decide (r.1≠p++[n]))↔r∈P/\r.1≠p++[n]:=fun r=>by rw [yE];simp
 have key:∀r∈P,∀m,r.1++[m]≠p++[n]->mget (mput t ⟨i,n⟩ (-1)) ⟨r.2,m⟩=mget t ⟨r.2,m⟩:=fun r hr m hne=>by
  rw [zfe,xu (zwn fun ⟨e1,e2⟩=>hne (by rw [(h.same r hr _ hp).1 e1,e2]))]
 have hself:∀r∈P,∀m,r.1++[m]=p++[n]->mget (mput t ⟨i,n⟩ (-1)) ⟨r.2,m⟩=some (-1):=fun r hr m e=>by
  obtain ⟨e1,e2⟩:=zxJ e;rw [zfe,xw (by rw [(h.same r hr _ hp).2 e1,e2])]
 have inA:∀a,a∈A++[p++[n]]->a∈A\/a=p++[n]:=fun a ha=>by
  rcases xD.1 ha with ha| ha
  ·exact .inl ha
  ·exact .inr (by simpa using ha)
 refine ⟨hl,⟨(mem _).2 ⟨h.root,by simp⟩,fun r hr s hs=>h.same r ((mem r).1 hr).1 s ((mem s).1 hs).1,fun r hr=>?_,fun k m hk=>?_,fun r hr m hm=>?_,fun r hr m s hs hsr=>?_,fun r hr m hm hns=>?_,fun s hs q m hq=>?_,fun a ha q hq hne=>?_,fun v hv w hw' hvw=>?_,fun a ha=>?_⟩,fun r hr=>?_⟩
 ·rw [hl];exact h.ids r ((mem r).1 hr).1
 ·rw [hl] at hk;have:=h.ids _ hp;simp only at this;rw [zfe,xu (zwn fun ⟨e1,_⟩=>by omega)];exact h.keys _ _ hk
 ·obtain ⟨hr,_⟩:=(mem r).1 hr;by_cases he:r.1++[m]=p++[n]
  ·exact hself r hr m he
  ·rw [key r hr m he];rcases inA _ hm with hm| hm
   ·exact h.leaf r hr m hm
   ·exact absurd hm he
 ·obtain ⟨hr,_⟩:=(mem r).1 hr;obtain ⟨hs,hs2⟩:=(mem s).1 hs;rw [key r hr m (fun e=>hs2 (hsr.trans e))];exact h.node r hr m s hs hsr
 ·obtain ⟨hr,_⟩:=(mem r).1 hr;have he:r.1++[m]≠p++[n]:=fun e=>hm (by rw [e];exact xV _ xx)
  rw [key r hr m he];exact h.none r hr m (fun ha=>hm (xU _ ha)) fun q hq e=>hns q ((mem q).2 ⟨hq,by rw [e];exact he⟩) e
 ·obtain ⟨hs,hs2⟩:=(mem s).1 hs;obtain ⟨k,hk⟩:=h.clo s hs q m hq;refine ⟨k,(mem _).2 ⟨hk,fun e=>?_⟩⟩;simp only at e;rcases hx s hs with h0| ⟨a,ha,h1,_⟩| h1
  ·rw [h0] at hq;simp at hq
  ·exact hf a ha ((by rw [<-e];exact (hq▸uA q [m]:q<+:s.1):p++[n]<+:s.1).trans h1)
  ·have:=h1.length_le;rw [hq,e] at this;simp at this
 ·have hne2:q≠p++[n]->∀k,(q,k)∈P->(q,k)∈P.filter (fun r=>decide (r.1≠p++[n])):=fun hq k hk=>(mem _).2 ⟨hk,hq⟩
  rcases inA a ha with ha| rfl
  ·obtain ⟨k,hk⟩:=h.comp a ha q hq hne;exact ⟨k,hne2 (fun e=>hf a ha (e▸hq)) k hk⟩
  ·obtain ⟨k,hk⟩:=zDE h hw q hq;exact ⟨k,hne2 hne k hk⟩
 ·rcases inA v hv with hv| rfl<;>rcases inA w hw' with hw'| rfl
  ·exact h.anti v hv w hw' hvw
  ·exact absurd hvw (hb v hv)
  ·exact absurd hvw (hf w hw')
  ·rfl
 ·rcases inA a ha with ha| rfl
  ·exact h.full a ha
  ·simp
 ·obtain ⟨hr,hr2⟩:=(mem r).1 hr;rcases hx r hr with h0| ⟨a,ha,h1,h2⟩| h1
  ·exact .inl h0
  ·exact .inr ⟨a,xU _ ha,h1,h2⟩
  ·exact .inr ⟨_,xV _ xx,h1,hr2⟩
end
def go12 {σ ρ χ:Type} (kb:σ->χ->Option (σ⊕ρ)):List χ->σ->Option (σ⊕ρ)
 | [],s=>some (.inl s)
 | p::ps,s=>match kb s p with
  | some (.inl s')=>go12 kb ps s'
  | some (.inr r)=>some (.inr r)
  | none=>none
theorem zKv {σ ρ χ:Type} {kb:σ->χ->Option (σ⊕ρ)} {s s':σ} {x:χ} (h:kb s x=some (.inl s')):rnd kb (.inl s) x=some (true,.inl s'):=by simp only [rnd,h]
theorem zKw {σ ρ χ:Type} {kb:σ->χ->Option (σ⊕ρ)} {s:σ} {r:ρ} {x:χ} (h:kb s x=some (.inr r)):rnd kb (.inl s) x=some (false,.inr r):=by simp only [rnd,h]
theorem zIE (x y:Int):zhE x y=some (if x<y then -1 else if y<x then 1 else 0):=by
 unfold zhE ziS;rw [sb,sb,itF (by simp),itF (by simp)];by_cases h:x<y
 ·rw [itT (by simpa using h),xw h]
 ·rw [itF (by simpa using h),xu h];by_cases h2:y<x
  ·rw [itT (by simpa using h2),xw h2]
  ·rw [itF (by simpa using h2),xu h2]
theorem zCN {a b:zI} (ha:a.length<=1152921504606846976):zdG a b=some (lexI a b):=by
 have key:∀(d i:Nat),i+d=a.length->i<=b.length->∃r,zcn a b i=some r/\(match r with| .inl _=>(if (a.length:Int)<(b.length:Int) then -1 else 0)| .inr x=>x)=lexI (a.drop i) (b.drop i):=by
  intro d
  induction d with
  | zero=>
   intro i hi hib;refine ⟨.inl (),zdi ?_,?_⟩
   ·unfold zak;rw [uU]
   ·rw [yb (show a.length<=i by omega)];cases hb:b.drop i with
    | nil=>
     have:=congrArg List.length hb;simp at this;rw [lexI];simp only;rw [xu (by omega)]
    | cons y l=>
     have:=congrArg List.length hb;simp at this;rw [lexI];simp only;rw [xw (by omega)]
  | succ d ih=>
   intro i hi hib;have hia:i<a.length:=by omega
   by_cases hlt:i<b.length
   ·have hb:zak a b i=if (if a[i]<b[i] then (-1:Int) else if b[i]<a[i] then 1 else 0)=0 then some (.inl ((i+1:Nat):Int)) else some (.inr (.inr (if a[i]<b[i] then (-1:Int) else if b[i]<a[i] then 1 else 0))):=by
     unfold zak;rw [uT,zP rfl hia,sb,uU,zP rfl hlt,sb,zIE,sb,uV];by_cases h0:(if a[i]<b[i] then (-1:Int) else if b[i]<a[i] then 1 else 0)=0
     ·rw [itF (by simp [h0]),xw h0];push_cast;rfl
     ·rw [itT (by simpa using h0),xu h0]
    rw [xQ hia,xQ hlt,lexI];by_cases h1:a[i]<b[i]
    ·rw [xw h1] at hb|-;rw [xu (by decide)] at hb;exact ⟨_,zdi hb,rfl⟩
    ·by_cases h2:b[i]<a[i]
     ·rw [xu h1,xw h2] at hb|-;rw [xu (by decide)] at hb;exact ⟨_,zdi hb,rfl⟩
     ·rw [xu h1,xu h2] at hb|-;rw [xw rfl] at hb;obtain ⟨r,k1,k2⟩:=ih (i+1) (by omega) (by omega);exact ⟨r,by rw [zkH hb];exact k1,k2⟩
   ·refine ⟨.inr 1,zdi ?_,?_⟩
    ·unfold zak;rw [uT,zP rfl hia,sb,uT]
    ·rw [xQ hia,yb (show b.length<=i by omega)];rfl
 obtain ⟨r,h1,h2⟩:=key a.length 0 (by omega) (by omega);have h1':zcn a b 0=some r:=h1;rw [xX,xX] at h2;unfold zdG;rw [h1',sb];cases r with
 | inl _=>
  simp only at h2|-;by_cases hl:(a.length:Int)<(b.length:Int)
  ·rw [xw hl] at h2;rw [itT (by simpa using hl),h2]
  ·rw [xu hl] at h2;rw [itF (by simpa using hl),h2]
 | inr x=>simp only at h2|-;rw [h2]
theorem zFa {a b:zI} (ha:a.length<=1152921504606846976):zeD a b=some (decide (a=b)):=by
 unfold zeD;by_cases hl:a.length=b.length
 ·rw [itF (by simp [hl])];have key:∀(d i:Nat),i+d=a.length->zcH a b i=some (if a.drop i=b.drop i then .inl () else .inr ()):=by
   intro d
   induction d with
   | zero=>
    intro i hi;rw [yb (show a.length<=i by omega),yb (show b.length<=i by omega),xw rfl];refine zhO ?_;unfold zap;rw [uU]
   | succ d ih=>
    intro i hi;have hia:i<a.length:=by omega
    have hib:i<b.length:=by omega
    rw [xQ hia,xQ hib];by_cases he:a[i]=b[i]
    ·have hb:zap a b i=some (.inl ((i+1:Nat):Int)):=by
      unfold zap;rw [uT,zP rfl hia,sb,zP rfl hib,sb,itF (by simp [he]),uV];push_cast;rfl
     rw [zle hb,ih (i+1) (by omega)];by_cases h:a.drop (i+1)=b.drop (i+1)
     ·rw [xw h,xw (by rw [he,h])]
     ·rw [xu h,xu (fun e=>h (by injection e))]
    ·rw [xu (fun e=>he (by injection e))];refine zhO ?_;unfold zap;rw [uT,zP rfl hia,sb,zP rfl hib,sb,itT (by simp [he])]
  have h:=key a.length 0 (by omega);have h':zcH a b 0=_:=h;rw [h',sb,xX,xX];by_cases he:a=b
  ·rw [xw he];simp [he]
  ·rw [xu he];simp [he]
 ·rw [uT];have:a≠b:=fun e=>hl (by rw [e])
  simp [this]
theorem zIW {way other:zI} (h:way.length<=1152921504606846976):zoO way other=some (!other.isEmpty&&begB way other):=by
 unfold zoO;cases other with
 | nil=>rw [itF (by simp),sb];rfl
 | cons y l=>
  rw [itT (by simp<;>omega)];by_cases hl:(y::l).length<=way.length
  ·rw [itT (by simp at hl|-;omega),zqF rfl hl,sb,zFa (by rw [xK];omega),sb,sb];congr 1;rw [List.isEmpty_cons,p9,xR,yK,zmD,xS,uR];exact ⟨fun h=>h.symm,fun h=>h.symm⟩
  ·rw [itF (by simp at hl|-;omega),sb];congr 1;rw [List.isEmpty_cons,p9,xR]
   symm
   rw [<-pd,zmD];exact fun hp=>hl hp.length_le
theorem zEX {a:zI} (h:a.length<=17592186043904):zeC a=some a:=by
 unfold zeC;have h1:(app 8 ([]:zI) a>>=fun v=>some v)=some a:=by rw [zdI (by simp;omega),sb,yc]
 cases a with
 | nil=>exact zqB rfl h1
 | cons=>exact h1
theorem zJl {α:Type} (l:List α) (m:Nat) (d x:α):(l++List.replicate (m+1) d).set l.length x=(l++[x])++List.replicate m d:=by
 rw [List.set_append_right _ _ (xB _),Nat.sub_self,List.replicate_succ,List.set_cons_zero,yS];rfl
theorem zAW {ways:List zI} (hw:WW ways):∀(t:List zI) (k:Nat),ways.drop k=t->k<=ways.length->zhK ways (ways.take k++List.replicate (ways.length - k) []) k=some ways:=by
 have hl:=hw.1;intro t
 induction t with
 | nil=>
  intro k hd hk;have:=zdW hd;obtain rfl:k=ways.length:=by omega
  rw [yY,Nat.sub_self,List.replicate_zero,yX];refine zsR ?_;unfold zef;rw [itF (by simp)]
 | cons x t ih=>
  intro k hd hk;obtain ⟨hlt,hx,hd'⟩:=zde hd;have hln:(ways.take k).length=k:=by rw [xK];omega
  have hxl:=hw.2 x (hx▸xC hlt);refine (zsQ (l':=ways.take (k+1)++List.replicate (ways.length - (k+1)) []) (v2':=((k+1:Nat):Int)) ?_).trans (ih (k+1) hd' (by omega));unfold zef;rw [uT,zP rfl hlt,sb,hx,zEX hxl,sb,zP rfl (show k<_ by rw [yh,pn,hln];omega),sb,uV,yp];have e:=zJl (ways.take k) (ways.length - (k+1)) ([]:zI) x;rw [hln,show ways.length - (k+1)+1=ways.length - k by omega] at e;rw [e,yA hlt,hx];push_cast;rfl
theorem zyz {ways:List zI} (hw:WW ways):zku ways=some ways:=by
 have hl:=hw.1;unfold zku;rw [zxe (a:=ways.length) rfl (qr _) (by omega),sb];have h:=zAW hw ways 0 rfl (xI _);rw [yJ,yc,qE] at h;have h':zhK ways (List.replicate ways.length []) 0=_:=h;rw [h',sb]
theorem zBj {ways:List zI} (hw:WW ways):∀(t:List zI) (k:Nat) (last:zI),ways.drop k=t->last.length<=17592186043904->zhL ways last k=some (if zkV last t=true then .inl () else .inr ()):=by
 have hl:=hw.1;intro t
 induction t with
 | nil=>
  intro k last hd _;have:=zdW hd;rw [zkV,xw rfl];refine zmM ?_;unfold zdr;rw [uU]
 | cons x t ih=>
  intro k last hd hll;obtain ⟨hlt,hx,hd'⟩:=zde hd;have hxl:=hw.2 x (hx▸xC hlt);have hb:zdr ways last k=if zzk last x then some (.inr (.inr ())) else some (.inl (x,((k+1:Nat):Int))):=by
   unfold zdr;rw [uT,zP rfl hlt,sb,hx,zCN (by omega),sb,uV];unfold zzk;by_cases h0:0<=lexI last x
   ·rw [itT (by simpa using h0),sb,itT rfl,ya h0];rfl
   ·rw [itF (by simpa using h0),zIW (by omega),sb,sb,yd h0,q6];cases (!last.isEmpty&&begB x last) with
    | true=>rfl
    | false=>rw [itF rfl];push_cast;rfl
  rw [zkV];cases hs:zzk last x with
  | true=>
   rw [hs] at hb;rw [xu (by simp)];exact zmM hb
  | false=>
   rw [hs] at hb;rw [p9,xR,zsS hb];exact ih (k+1) x hd' hxl
theorem zFk {ways:List zI} (hw:WW ways):zlE ways=some (decide (ofW ways=ways)):=by
 have h:=zBj hw ways 0 [] rfl (by simp);have h':zhL ways [] 0=_:=h;unfold zlE;rw [h',sb];by_cases hc:zkV [] ways=true
 ·rw [xw hc];simp only;rw [ya (zyw.1 hc)]
 ·rw [xu hc];simp only;rw [yd (fun e=>hc (zyw.2 e))]
theorem zDH {σ ρ:Type} {kb:σ->zI->Option (σ⊕ρ)} {v:List zI} (hv:v.length<=1152921504606846976):∀(l:List zI) (i:Nat) (s:σ) (o:σ⊕ρ),v.drop i=l->go12 kb l s=some o->
  zbj (rnd kb) v (i:Int) (.inl s)=some (match o with| .inl s'=> .inl (.inl s')| .inr r=> .inr (.inr r)):=by
 intro l
 induction l with
 | nil=>
  intro i s o hd h;cases h;have:=zdW hd;refine zga ?_;unfold zag;rw [uU]
 | cons x l ih=>
  intro i s o hd h;obtain ⟨hk,hx,hd'⟩:=zde hd;rw [go12] at h;cases hb:kb s x with
  | none=>rw [hb] at h;cases h
  | some q=>
   rw [hb] at h;cases q with
   | inl s'=>
    refine (zjs (v2':=((i+1:Nat):Int)) (sg2':= .inl s') ?_).trans (ih (i+1) s' o hd' h);unfold zag;rw [uT,zP rfl hk,sb,hx,zKv hb,sb,itF (c:= !true) rfl,uV];push_cast;rfl
   | inr r=>
    cases h;refine zga ?_;unfold zag;rw [uT,zP rfl hk,sb,hx,zKw hb,sb,itT (c:= !false) rfl]
theorem zLm {σ ρ:Type} {kb:σ->zI->Option (σ⊕ρ)} {v:List zI} (hv:v.length<=1152921504606846976) {s:σ} {o:σ⊕ρ} (h:go12 kb v s=some o):zbe v (rnd kb) (.inl s)=some o:=by
 have h1:=zDH hv v 0 s o rfl h;have h2:zbj (rnd kb) v 0 (.inl s)=_:=h1;unfold zbe;rw [h2,sb];cases o<;>rfl
theorem zys:∀(l acc:List zI),acc.length+l.length<=5864062014634->go12 (fun s x=>zO s x) l acc=some (.inl (acc++l))
 | [],acc,_=>by simp [go12]
 | x::l,acc,h=>by
  simp only [yn] at h;have hb:zO acc x=some (.inl (acc++[x])):=by
   unfold zO;rw [zdI (by simp;omega),sb]
  rw [go12,hb];simp only;rw [zys l (acc++[x]) (by simp;omega),yS];rfl
theorem zDz {l:List zI} (hw:WW l):zR l=some (znN l):=by
 have hl:=hw.1;unfold zR zaH zar zbg zAo;rw [zLm (by omega) (zys l [] (by simpa using hl)),sb];simp only [yc];rw [sb,sb,xw ⟨by omega,xJ.2 fun x hx=>by have:=hw.2 x hx;simp;omega⟩,sb]
def sumW (l:List zI):Nat:=(l.map List.length).sum
theorem zzn (x:zI) (l:List zI):sumW (x::l)=x.length+sumW l:=by unfold sumW;simp
theorem zFR {a b:List zI} (h:a.Perm b):sumW a=sumW b:=(h.map List.length).sum_nat
theorem zEZ {t:ztp} {A:List zI} {P:List (zI×Int)} (h:zve t A P) {way:zI} (hl:way.length<=1152921504606846976):zgY t way=some (hasB A way):=by
 have key:∀(d k:Nat) (i:Int),k+d=way.length->(way.take k,i)∈P->∃q,zfB t way i k=some q/\(match q with| .inl _=>false| .inr b=>b)=hasB A way:=by
  intro d
  induction d with
  | zero=>
   intro k i hk hp;refine ⟨.inl (),zio ?_,?_⟩
   ·unfold zbd;rw [uU]
   ·rw [yP (by omega)] at hp;rw [zIm h hp]
  | succ d ih=>
   intro k i hk hp;have hlt:k<way.length:=by omega
   have hq:way.take k++[way[k]]=way.take (k+1):=(yA hlt).symm;have hpre:way.take k++[way[k]]<+:way:=by rw [hq];exact uC _ _
   by_cases hA:way.take k++[way[k]]∈A
   ·have hg:=h.1.leaf _ hp way[k] hA;simp only at hg;refine ⟨.inr true,zio ?_,(zFV hpre (fun e=>absurd (List.append_eq_nil_iff.1 e).2 (by simp)) hA).symm⟩;unfold zbd;rw [uT,zP rfl hlt,sb,hg,itF (by rfl),itT (by rfl)]
   ·by_cases hP:∃j,(way.take k++[way[k]],j)∈P
    ·obtain ⟨j,hj⟩:=hP;have hg:=h.1.node _ hp way[k] _ hj rfl;have hid:=h.1.ids _ hj;simp only at hg hid;have hb:zbd t way i k=some (.inl (j,((k+1:Nat):Int))):=by
      unfold zbd;rw [uT,zP rfl hlt,sb,hg,itF (by rfl),itF (by simp<;>omega),uV];push_cast;rfl
     rw [zpD hb];exact ih (k+1) j (by omega) (by rw [<-hq];exact hj)
    ·have hno:∀q∈P,q.1≠way.take k++[way[k]]:=fun q hq e=>hP ⟨q.2,by rw [<-e];exact hq⟩
     have hg:=h.1.none _ hp way[k] hA hno;simp only at hg;refine ⟨.inr false,zio ?_,(zFW h hp hpre hA hno).symm⟩;unfold zbd;rw [uT,zP rfl hlt,sb,hg,itT (by rfl)]
 obtain ⟨q,h1,h2⟩:=key way.length 0 0 (by omega) (by rw [yJ];exact h.1.root);have h1':zfB t way 0 0=some q:=h1;unfold zgY;rw [h1',sb,<-h2];cases q<;>rfl
theorem zJR {t:ztp} {A:List zI} {P:List (zI×Int)} (h:zve t A P) {way:zI} (hn:way≠[]) (hf:∀a∈A,¬way<+:a) (hb:∀a∈A,¬a<+:way) (hl:t.length+way.length<=4611686018427387904):
  ∃t' P',zkE t way=some t'/\zve t' (A++[way]) P'/\t'.length<=t.length+way.length:=by
 have key:∀(d k:Nat) (t1:ztp) (P1:List (zI×Int)) (i f f2:Int),k+d=way.length->Trie t1 A P1->(way.take k,i)∈P1->t1.length<=t.length+k->
   (∀r∈P1,r.1=[]\/(∃a∈A,r.1<+:a/\r.1≠a)\/r.1<+:way)->(k=0\/∃(p:zI) (j n:Int),(p,j)∈P1/\p++[n]=way.take k/\f=j/\f2=n)->
   ∃t2 P2 p j n i2,zgX way t1 i k f f2=some (t2,j,n)/\Trie t2 A P2/\(p,j)∈P2/\p++[n]=way/\(way,i2)∈P2/\t2.length<=t.length+way.length/\∀r∈P2,r.1=[]\/(∃a∈A,r.1<+:a/\r.1≠a)\/r.1<+:way:=by
  intro d
  induction d with
  | zero=>
   intro k t1 P1 i f f2 hk ht hp hlen hx hlast;obtain rfl:k=way.length:=by omega
   rw [yY] at hp hlast;rcases hlast with h0| ⟨p,j,n,h1,h2,rfl,rfl⟩
   ·exact absurd (yw h0) hn
   ·refine ⟨t1,P1,p,f,f2,i,zsq ?_,ht,h1,h2,hp,hlen,hx⟩;unfold zcm;rw [itF (by simp)]
  | succ d ih=>
   intro k t1 P1 i f f2 hk ht hp hlen hx hlast;have hlt:k<way.length:=by omega
   have hq:way.take k++[way[k]]=way.take (k+1):=(yA hlt).symm;have hpre:way.take k++[way[k]]<+:way:=by rw [hq];exact uC _ _
   have hA:way.take k++[way[k]]∉A:=fun ha=>hb _ ha hpre
   by_cases hP:∃j,(way.take k++[way[k]],j)∈P1
   ·obtain ⟨j,hj⟩:=hP;have hg:=ht.node _ hp way[k] _ hj rfl;simp only at hg;have hbd:zcm way t1 i k f f2=some (.inl (t1,j,((k+1:Nat):Int),i,way[k])):=by
     unfold zcm;rw [uT,zP rfl hlt,sb,hg,itF (by rfl),uV];push_cast;rfl
    rw [zmf hbd];exact ih (k+1) t1 P1 j i way[k] (by omega) ht (by rw [<-hq];exact hj) (by omega) hx (.inr ⟨way.take k,i,way[k],hp,hq,rfl,rfl⟩)
   ·have hno:∀q∈P1,q.1≠way.take k++[way[k]]:=fun q hq' e=>hP ⟨q.2,by rw [<-e];exact hq'⟩
    have hg:=ht.none _ hp way[k] hA hno;simp only at hg;have hw1:IntKind.i64.wrap ((t1.length:Int)+1)=((t1.length+1:Nat):Int):=by rw [uV];push_cast;rfl
    have hbd:zcm way t1 i k f f2=some (.inl (mput t1 ⟨i,way[k]⟩ ((t1.length+1:Nat):Int),((t1.length+1:Nat):Int),((k+1:Nat):Int),i,way[k])):=by
     unfold zcm;rw [uT,zP rfl hlt,sb,hg,itT (by rfl),hw1,zfe,xw rfl,uV];push_cast;rfl
    rw [zmf hbd];refine ih (k+1) _ _ _ i way[k] (by omega) (zIn ht hp hA hno) (xV _ (by rw [<-hq];exact xx)) (by rw [zBC hg];omega) (fun r hr=>?_) (.inr ⟨way.take k,i,way[k],xU _ hp,hq,rfl,rfl⟩);rcases xD.1 hr with hr| hr
    ·exact hx r hr
    ·simp only [yf] at hr;rw [hr];exact .inr (.inr hpre)
 obtain ⟨t2,P2,p,j,n,i2,h1,h2,h3,h4,h5,h6,h7⟩:=key way.length 0 t P 0 0 0 (by omega) h.1 (by rw [yJ];exact h.1.root) (by omega)
  (fun r hr=>by rcases h.2 r hr with h0| h0;exact .inl h0;exact .inr (.inl h0)) (.inl rfl)
 have h1':zgX way t 0 0 0 0=some (t2,j,n):=h1;subst h4;obtain ⟨e,ht⟩:=zFU h2 h3 h5 hf hb h7;refine ⟨mput t2 ⟨j,n⟩ (-1),_,?_,ht,by rw [e];exact h6⟩;unfold zkE;rw [h1',sb]
theorem zFz {l:List zI} (hl:l.length<=5864062014634) (hx:∀w∈l,w.length<=17592186043904) (hs:l.Pairwise fun a b=>lexI a b<=0):∀(r:List zI) (k:Nat) (acc:List zI) (t:ztp) (P:List (zI×Int)),l.drop k=r->k<=l.length->Fo (l.take k) acc->acc.length<=k->zve t acc P->
  t.length+sumW r<=4611686018427387904->zla l acc t k=some (ofW l):=by
 intro r
 induction r with
 | nil=>
  intro k acc t P hd hk hfo hal ht hsum;have:=zdW hd;obtain rfl:k=l.length:=by omega
  rw [yY] at hfo;refine zwY ?_;unfold zgH;rw [itF (by simp),zJZ hfo]
 | cons x r ih=>
  intro k acc t P hd hk hfo hal ht hsum;obtain ⟨hlt,hxk,hd'⟩:=zde hd;have hxm:x∈l:=hxk▸xC hlt;have hxl:=hx x hxm;rw [zzn] at hsum;have hbe:∀a∈l.take k,lexI a x<=0:=fun a ha=>by
   obtain ⟨i,hi,rfl⟩:=qg ha;rw [pP,<-hxk];rw [xK] at hi;exact uD.1 hs i k (by omega) hlt (by omega)
  have htk:l.take (k+1)=l.take k++[x]:=by rw [yA hlt,hxk]
  have hstep:=zIM hfo hbe;rw [<-htk] at hstep;have hg:(if (decide ((x.length:Int)>0))=true then (zgY t x>>=fun rv5=>some (!rv5)) else some false)=some (!x.isEmpty&& !hasB acc x):=by
   cases x with
   | nil=>rfl
   | cons y x'=>rw [itT (by simp<;>omega),zEZ ht (by omega),sb];rfl
  unfold addL at hstep;cases hc:(!x.isEmpty&& !hasB acc x) with
  | true=>
   rw [hc,xw rfl] at hstep;have hc':=hc;simp only [xA,ym,qL] at hc';have hb:∀a∈acc,¬a<+:x:=fun a ha hp=>by
    have:=zgm.2 ⟨a,ha,hfo.mask.full a ha,hp⟩;rw [hc'.2] at this;cases this
   obtain ⟨t',P',h1,h2,h3⟩:=zJR ht hc'.1 (zEb hfo hbe hc'.2) hb (by omega);refine (zra (l':=acc++[x]) (t':=t') (v':=((k+1:Nat):Int)) ?_).trans (ih (k+1) _ t' P' hd' (by omega) hstep (by simp;omega) h2 (by omega));unfold zgH;rw [uT,zP rfl hlt,sb,hxk,hg,sb,hc,itT rfl,h1,sb,zdI (by simp;omega),sb,uV];push_cast;rfl
  | false=>
   rw [hc,xu (by simp)] at hstep;refine (zra (l':=acc) (t':=t) (v':=((k+1:Nat):Int)) ?_).trans (ih (k+1) _ t P hd' (by omega) hstep (by omega) ht (by omega));unfold zgH;rw [uT,zP rfl hlt,sb,hxk,hg,sb,hc,itF rfl,uV];push_cast;rfl
def SW (w:List zI):Prop:=WW w/\sumW w<=4611686018427387904
theorem zHD {w:List zI} (hw:SW w):zrX w=some ⟨ofW w⟩:=by
 obtain ⟨hw,hsum⟩:=hw;unfold zrX;rw [zFk hw,sb];by_cases hm:ofW w=w
 ·rw [ya hm,itT rfl,zyz hw,sb,hm]
 ·have hp:=ztg w;have hlen:=hp.length_eq;have hl:=hw.1;have h:=zFz (l:=znN w) (by omega) (fun x hx=>hw.2 x (hp.mem_iff.1 hx)) (zBZ w) (znN w) 0 [] [] _ rfl (xI _) zJY (xI _) zIo (by rw [zFR hp];simpa using hsum);have h':zla (znN w) [] [] 0=_:=h;rw [yd hm,itF rfl];unfold zeh;rw [sb,zDz hw,sb,h',sb,zHH hp,zyz (zKK hw),sb]
theorem zJp {l:List zI} {a b:Nat} (h:l.length<=a) (k:∀w∈l,w.length<=b):sumW l<=a*b:=by
 have key:∀l:List zI,(∀w∈l,w.length<=b)->sumW l<=l.length*b:=by
  intro l
  induction l with
  | nil=>intro _;simp [sumW]
  | cons x l ih=>
   intro k;have:=ih fun w hw=>k w (xy _ hw)
   have:=k x xx;rw [zzn,yn,yy];omega
 exact yi (key l k) (yg _ h)
def UW (w:List zI):Prop:=w.length<=4194304/\∀x∈w,x.length<=4194304
theorem UW.ww {w:List zI} (h:UW w):WW w:=⟨by have:=h.1;omega,fun x hx=>by have:=h.2 x hx;omega⟩
theorem UW.sw {w:List zI} (h:UW w):SW w:=⟨h.ww,yi (zJp h.1 h.2) (by decide)⟩
theorem UW.of {w:List zI} (h:UW w):UW (ofW w):=⟨yi (zEz w) h.1,fun x hx=>h.2 x (zmn.1 hx).1⟩
theorem zrp {n:Int} {w u:zI} (h:zuU n w=some u):u≠[]/\w=n::u:=by
 unfold zuU at h;split at h
 ·split at h
  ·rename_i e;cases h;subst e;exact ⟨by simp,rfl⟩
  ·cases h
 ·cases h
theorem zBA {m:List zI} (h:zmy m) (n:Int):zmy (zhy m n):=by
 have mem:∀u,u∈zhy m n->u≠[]/\n::u∈m:=fun u hu=>by
  obtain ⟨w,hw,hr⟩:=qO.1 hu;obtain ⟨h1,rfl⟩:=zrp hr;exact ⟨h1,hw⟩
 refine ⟨?_,fun u hu=>(mem u hu).1,fun u hu v hv hp=>?_⟩
 ·unfold zhy;refine uS (zuU n) (fun a b hab u hu v hv=>?_) h.sorted;obtain ⟨_,rfl⟩:=zrp hu;obtain ⟨_,rfl⟩:=zrp hv;rw [zdn,xw rfl] at hab;exact hab
 ·have:=h.anti _ (mem u hu).2 _ (mem v hv).2 (List.cons_prefix_cons.2 ⟨rfl,hp⟩);injection this
theorem UW.filter {w:List zI} (h:UW w) (p:zI->Bool):UW (w.filter p):=⟨yi (List.length_filter_le _ _) h.1,fun x hx=>h.2 x (yE.1 hx).1⟩
def zmN (l:List Vlu):List (Int×Vlu):=l.map fun v=>(v.Number,v)
theorem zxd:∀(l:List Vlu) (n:Int),mget (zmN l) n=look l n
 | [],n=>rfl
 | v::l,n=>by
  show mget ((v.Number,v)::zmN l) n=_;rw [mget,zdo,zxd l n];by_cases h:n=v.Number
  ·rw [xw h,xw h.symm]
  ·rw [xu h,xu (fun e=>h e.symm)]
theorem zDn {m:List (Int×Vlu)} {n:Int} (h:mget m n=none) (v:Vlu):mput m n v=m++[(n,v)]:=by
 induction m with
 | nil=>rfl
 | cons p m ih=>
  rw [mget] at h;split at h
  ·cases h
  ·rename_i hn;rw [mput,xu hn,ih h];rfl
theorem zvn {l:List Vlu} (hr:zfD l) {k:Nat} (hk:k<l.length):look (l.take k) (l[k]).Number=none:=by
 cases h:look (l.take k) (l[k]).Number with
 | none=>rfl
 | some u=>
  obtain ⟨h1,h2⟩:=zfU h;obtain ⟨i,hi,e⟩:=qg h2;rw [xK] at hi;rw [pP] at e;have:=(uD.1 hr) i k (by omega) hk (by omega);rw [e] at this;omega
theorem zET {x:Msg} (hr:zfD x.Values) (hl:x.Values.length<=1048576):∀(t:List Vlu) (k:Nat),x.Values.drop k=t->k<=x.Values.length->zeX x (zmN (x.Values.take k)) k=some (zmN x.Values):=by
 intro t
 induction t with
 | nil=>
  intro k hd hk;have:=zdW hd;obtain rfl:k=x.Values.length:=by omega
  rw [yY];refine zoz ?_;unfold zcc;rw [itF (by simp)]
 | cons v t ih=>
  intro k hd hk;obtain ⟨hlt,hx,hd'⟩:=zde hd;refine (zoy (values':=zmN (x.Values.take (k+1))) (v':=((k+1:Nat):Int)) ?_).trans (ih (k+1) hd' (by omega));unfold zcc;rw [uT,zP rfl hlt,sb,uV,zDn (by rw [zxd];exact zvn hr hlt),yA hlt];unfold zmN;rw [qX];push_cast;rfl
theorem zIA {x:Msg} (hr:zfD x.Values) (hl:x.Values.length<=1048576):zhB x=some (zmN x.Values):=by
 unfold zhB;have h:=zET hr hl x.Values 0 rfl (xI _);have h':zeX x [] 0=_:=h;rw [h',sb]
theorem zHI {m:List (Int×Vlu)} {ks:List Int} (hl:ks.length<=4194304):∀(t:List Int) (k:Nat),ks.drop k=t->k<=ks.length->zfw ks m ((ks.take k).map fun n=>(mget m n).getD zvlu) k=some (ks.map fun n=>(mget m n).getD zvlu):=by
 intro t
 induction t with
 | nil=>
  intro k hd hk;have:=zdW hd;obtain rfl:k=ks.length:=by omega
  rw [yY];refine zpm ?_;unfold zcx;rw [itF (by simp)]
 | cons v t ih=>
  intro k hd hk;obtain ⟨hlt,hx,hd'⟩:=zde hd;refine (zpl (l':=(ks.take (k+1)).map fun n=>(mget m n).getD zvlu) (v3':=((k+1:Nat):Int)) ?_).trans (ih (k+1) hd' (by omega));unfold zcx;rw [uT,zP rfl hlt,sb,zdI (by simp;omega),sb,uV,yA hlt,qX];push_cast;rfl
theorem zKs {m:List (Int×Vlu)} (hn:(m.map Prod.fst).Nodup) (hv:∀n v,mget m n=some v->v.Number=n) (hw:∀n∈m.map Prod.fst,(Lit.int .i64 n).wf=true) (hl:m.length<=4194304):
  ∃l,ziu m=some l/\zfD l/\∀n,look l n=mget m n:=by
 have hall:(m.all fun p=>(Lit.int .i64 p.1).wf)=true:=by
  rw [xJ];exact fun p hp=>hw p.1 (ql hp)
 obtain ⟨ks,hks⟩:∃ks,ks=(m.map Prod.fst).mergeSort fun x y=>decide (x<=y):=⟨_,rfl⟩
 have hp:=List.mergeSort_perm (m.map Prod.fst) fun x y=>decide (x<=y)
 have hs:=uN (le:=fun x y:Int=>decide (x<=y)) (fun a b c h k=>by simp at*;omega) (fun a b=>by simp;omega) (m.map Prod.fst);rw [<-hks] at hp hs;have hnd:=hp.nodup_iff.2 hn;have hlt:ks.Pairwise (·<·):=(List.Pairwise.and hs hnd).imp fun {a b} h=>by
  have h1:a<=b:=by simpa using h.1
  have h2:a≠b:=h.2;omega
 have hkl:ks.length=m.length:=by rw [hp.length_eq,yZ]
 have hsome:∀n∈ks,∃v,mget m n=some v:=fun n h=>by
  cases hg:mget m n with
  | some v=>exact ⟨v,rfl⟩
  | none=>exact absurd (hp.mem_iff.1 h) (zuK hg)
 refine ⟨ks.map fun n=>(mget m n).getD zvlu,?_,?_,fun n=>?_⟩
 ·unfold ziu;rw [zJc (by omega) (by omega),sb];unfold zwR;rw [xw ⟨hall,by omega⟩,<-hks,sb];have h:=zHI (m:=m) (ks:=ks) (by omega) ks 0 rfl (xI _);have h':zfw ks m [] 0=_:=h;rw [h',sb]
 ·unfold zfD;rw [pN];refine hlt.imp_of_mem fun {a b} ha hb h=>?_
  obtain ⟨v,e1⟩:=hsome a ha;obtain ⟨u,e2⟩:=hsome b hb;rw [e1,e2];show v.Number<u.Number;rw [hv a v e1,hv b u e2];exact h
 ·have key:∀l:List Int,(∀n∈l,∃v,mget m n=some v)->look (l.map fun n=>(mget m n).getD zvlu) n=if n∈l then mget m n else none:=by
   intro l
   induction l with
   | nil=>intro _;rfl
   | cons a l ih=>
    intro ha;obtain ⟨v,e1⟩:=ha a xx;rw [ye,zdo,ih fun n h=>ha n (xy _ h),e1];show (if v.Number=n then some v else _)=_;rw [hv a v e1];by_cases h:a=n
    ·subst h;rw [xw rfl,xw xx,e1]
    ·rw [xu h];by_cases h2:n∈l
     ·rw [xw h2,xw (xy _ h2)]
     ·rw [xu h2,xu (fun hc=>(xz.1 hc).elim (fun e=>h e.symm) h2)]
  rw [key ks hsome];by_cases h:n∈ks
  ·rw [xw h]
  ·rw [xu h];cases hg:mget m n with
   | none=>rfl
   | some v=>exact absurd (hp.mem_iff.2 (zHA hg)) h
theorem zur (v:Vlu):zhp v=some (v.Subs.headD znP):=by
 unfold zhp;cases h:v.Subs with
 | nil=>rfl
 | cons y l=>
  rw [uU];rfl
theorem zyr (n:Int) (x:Msg):zjL n x=some ⟨n,[],[],[x]⟩:=rfl
theorem zyE {m:Mes} {n:Int} (h:0<=fldI m n):fldI m n<m.Fields.length/\(zaM m (fldI m n)).Number=n:=by
 rcases zpx m n with ⟨e,_⟩| ⟨i,hi,e,hn,_⟩
 ·omega
 ·rw [e];refine ⟨by omega,?_⟩;unfold zaM;rw [yp,pc,xH hi];exact hn
theorem zyq {m:Mes} {n:Int} (hl:m.Fields.length<=140737488351232) (h:0<=fldI m n):ziA m n=some (zaM m (fldI m n)):=by
 unfold ziA;rw [zqC hl,sb];have h0:=h;unfold fldI zkD at h0;cases hf:m.Fields.findIdx? (fun f:Fld=>f.Number==n) with
 | none=>rw [hf] at h0;simp at h0
 | some i=>
  have e:fldI m n=i:=by unfold fldI zkD;rw [hf]
  have hi:i<m.Fields.length:=by have:=(zyE h).1;omega
  rw [e,zP rfl hi,sb];unfold zaM;rw [yp,pc,xH hi];rfl
structure Ok15 (fuel:Nat) (x:Msg):Prop where
 b:bdM x
 s:smM x
 z:2*szM x<fuel
 d:szM x<=131072
theorem Ok15.dm {fuel:Nat} {x:Msg} (h:Ok15 fuel x):dM x<=131072:=by have:=zDT x;have:=h.d;omega
theorem Ok15.right {fuel:Nat} {x:Msg} (h:Ok15 fuel x) {s:List Mes} (hw:WS s) (root:Int):zlh fuel s root x=some (zgI s&&zaw s x root):=zDF root h.z hw h.b h.s h.dm
theorem zwk {fuel:Nat} {s:List Mes} (root:Int) {l:List Msg} (hw:WS s) (hne:l≠[]) (hl:l.length<=1048576) (hx:∀x∈l,Ok15 fuel x):zii fuel s root l=some (zdF s root l):=by
 have hloop:∀(t:List Msg) (k:Nat),l.drop k=t->k<=l.length->(∃j:Nat,zK fuel l s root k=some (.inr j)/\t.all (fun x=>zgI s&&zaw s x root)=false)\/
   zK fuel l s root k=some (.inl ())/\t.all (fun x=>zgI s&&zaw s x root)=true:=by
  intro t
  induction t with
  | nil=>
   intro k hd hk;have:=zdW hd;refine .inr ⟨zcC ?_,rfl⟩;unfold zG;rw [uU]
  | cons v t ih=>
   intro k hd hk;obtain ⟨hlt,hv,hd'⟩:=zde hd;have h1:ziN fuel v s root=some (!(zgI s&&zaw s v root)):=by
    unfold ziN;rw [(hx v (hv▸xC hlt)).right hw,sb]
   cases hb:zgI s&&zaw s v root with
   | false=>
    refine .inl ⟨k,zcC ?_,by rw [yx,hb];rfl⟩;unfold zG;rw [uT,zP rfl hlt,sb,hv,h1,sb,itT (by rw [hb];rfl)]
   | true=>
    have hs:zK fuel l s root k=zK fuel l s root ((k+1:Nat):Int):=by
     refine zfq ?_;unfold zG;rw [uT,zP rfl hlt,sb,hv,h1,sb,itF (by rw [hb];rfl),uV];push_cast;rfl
    rw [hs];rcases ih (k+1) hd' (by omega) with ⟨j,g1,g2⟩| ⟨g1,g2⟩
    ·exact .inl ⟨j,g1,by rw [yx,hb,g2];rfl⟩
    ·exact .inr ⟨g1,by rw [yx,hb,g2];rfl⟩
 have hc:zao fuel l s root=some (!l.all (fun x=>zgI s&&zaw s x root)):=by
  unfold zao zaI;rcases hloop l 0 rfl (xI _) with ⟨j,g1,g2⟩| ⟨g1,g2⟩
  ·have g1':zK fuel l s root 0=_:=g1;rw [g1',sb,g2];simp only;rw [sb,ya (by omega)];rfl
  ·have g1':zK fuel l s root 0=_:=g1;rw [g1',sb,g2];simp only;rw [sb];rfl
 unfold zii;rw [hc,sb];cases hr:zgI s with
 | false=>
  obtain ⟨x,l',rfl⟩:=pZ hne;have hm:zdF s root (x::l')=9:=by unfold zdF zhD;rw [hr];rfl
  rw [hm,itF (by simp),ztY hw,sb,hr,itT (by rfl)]
 | true=>
  by_cases hroot:root<0\/root>=s.length
  ·obtain ⟨x,l',rfl⟩:=pZ hne;have hx0:zaw s x root=false:=by
    cases h:zaw s x root with
    | false=>rfl
    | true=>obtain ⟨a,b,_⟩:=zcs h;omega
   have ha:zhD s root=2:=by unfold zhD;rw [hr,xu (show ¬true=false by simp),xw hroot]
   have hm:zdF s root (x::l')=2:=by unfold zdF;rw [ha];rfl
   rw [hm,itF (by simp [hx0]),ztY hw,sb,hr,itF (by rfl),itT (by simpa using hroot)]
  ·have ha:zhD s root=0:=by unfold zhD;rw [hr,xu (show ¬true=false by simp),xu hroot]
   have hm:zdF s root l=if l.all (fun x=>zaw s x root)=true then 0 else 12:=by unfold zdF;rw [ha];rfl
   rw [hm];simp only [xR,Bool.not_not];cases hall:l.all (fun x=>zaw s x root) with
   | true=>rw [itT (by rfl),xw rfl]
   | false=>
    rw [itF (by rfl),ztY hw,sb,hr,itF (by rfl),uU];rfl
def zpL (n:Int):zI->Option zI
 | []=>none
 | x::l=>if x=n then some l else none
def zir (w:List zI) (n:Int):List zI:=w.filterMap (zpL n)
theorem znJ {n:Int} {w u:zI} (h:zpL n w=some u):w=n::u:=by
 cases w with
 | nil=>cases h
 | cons x l=>
  rw [zpL] at h;split at h
  ·rename_i e;cases h;rw [e]
  ·cases h
theorem zzI {ways:List zI} (hw:WW ways) (hne:∀w∈ways,w≠[]):∀(t:List zI) (i:Nat) (q:List (Int×List zI)),ways.drop i=t->i<=ways.length->(∀n,(mget q n).getD []=zir (ways.take i) n)->
  ∃q',zfv ways q i=some q'/\∀n,(mget q' n).getD []=zir ways n:=by
 have hl:=hw.1;intro t
 induction t with
 | nil=>
  intro i q hd hi hq;have:=zdW hd;obtain rfl:i=ways.length:=by omega
  rw [yY] at hq;refine ⟨q,zpk ?_,hq⟩;unfold zcw;rw [itF (by simp)]
 | cons w t ih=>
  intro i q hd hi hq;obtain ⟨hlt,hv,hd'⟩:=zde hd;have hwm:w∈ways:=hv▸xC hlt;obtain ⟨x,l,rfl⟩:=pZ (hne w hwm);have hlen:((mget q x).getD []).length<=i:=by
   rw [hq];exact yi (uQ _ _) (by rw [xK];omega)
  obtain ⟨q',g1,g2⟩:=ih (i+1) (mput q x ((mget q x).getD []++[l])) hd' (by omega) fun n=>by
   rw [zfe,yA hlt,hv];unfold zir;rw [List.filterMap_append];by_cases e:n=x
   ·subst e;rw [xw rfl,yH,hq];simp [zir,zpL]
   ·rw [xu e,hq];have:zpL n (x::l)=none:=by rw [zpL,xu (fun e'=>e e'.symm)]
    simp [zir,this]
  refine ⟨q',(zpj (rests':=mput q x ((mget q x).getD []++[l])) (v':=((i+1:Nat):Int)) ?_).trans g1,g2⟩;unfold zcw;rw [uT,zP rfl hlt,sb,hv,show idx (x::l) 0=some x from rfl,sb,zGw,sb,zdI (by simp;omega),sb,uV];push_cast;rfl
theorem zCU {ways:List zI} (hw:WW ways) (hne:∀w∈ways,w≠[]):∃q,zit ways=some q/\∀n,(mget q n).getD []=zir ways n:=by
 obtain ⟨q,g1,g2⟩:=zzI hw hne ways 0 [] rfl (xI _) (fun n=>rfl);refine ⟨q,?_,g2⟩;unfold zit;have g1':zfv ways [] 0=_:=g1;rw [g1',sb]
theorem zBU {w:List zI} (hm:zmy w) {n:Int} (h:zhW w n=true):zir w n=[[]]:=by
 have hin:[n]∈w:=by
  unfold zhW at h;rw [pK] at h;obtain ⟨v,hv,e⟩:=h;rw [pW] at e;exact e▸hv
 have hall:∀u∈zir w n,u=[]:=fun u hu=>by
  obtain ⟨v,hv,e⟩:=qO.1 hu;have e2:=znJ e;subst e2;have:=hm.anti [n] hin _ hv ⟨u,rfl⟩;simpa using this.symm
 have hnd:(zir w n).Nodup:=by
  unfold zir;refine uS (zpL n) (fun a b hab u hu v hv e=>?_) hm.sorted;rw [znJ hu,znJ hv,e,zjj] at hab;cases hab
 have hmem:[]∈zir w n:=qO.2 ⟨[n],hin,by rw [zpL,xw rfl]⟩;cases hr:zir w n with
 | nil=>rw [hr] at hmem;cases hmem
 | cons a l=>
  rw [hr] at hall hnd;have ha:=hall a xx;cases l with
  | nil=>rw [ha]
  | cons b l=>
   have hb:=hall b (by simp);rw [ha,hb] at hnd;simp at hnd
theorem zwH {α β:Type} {f g:α->Option β}:∀{l:List α},(∀x∈l,f x=g x)->l.filterMap f=l.filterMap g
 | [],_=>rfl
 | x::l,h=>by
  rw [List.filterMap_cons,List.filterMap_cons,h x xx,zwH fun y hy=>h y (xy _ hy)]
theorem zrq {w:List zI} {n:Int} (h:zhW w n=false):zir w n=zhy w n/\∀u∈zir w n,u≠[]:=by
 have hno:∀v∈w,v≠[n]:=fun v hv e=>by
  unfold zhW at h;rw [uv] at h;exact h v hv (by rw [e];simp)
 refine ⟨?_,fun u hu e=>?_⟩
 ·unfold zir zhy;refine zwH fun v hv=>?_
  cases v with
  | nil=>rfl
  | cons x l=>
   cases l with
   | nil=>
    show (if x=n then some [] else none)=none;by_cases e:x=n
    ·exact absurd (by rw [e]) (hno _ hv)
    ·rw [xu e]
   | cons y l=>rw [zpL,zuU]
 ·obtain ⟨v,hv,e2⟩:=qO.1 hu;have:=znJ e2;rw [e] at this;exact hno v hv this
theorem zxo (s:List Mes) (m:Mes) (w:List zI) (keep:Bool):∀(l k:List Vlu),zek s (l++k) m w keep=zek s l m w keep++zek s k m w keep
 | [],k=>rfl
 | v::l,k=>by rw [yz,zek,zek,zxo s m w keep l k,yS]
theorem zxp (s:List Mes) (m:Mes) (w:List zI) (keep:Bool):∀(l:List Vlu),(zek s l m w keep).length<=l.length
 | []=>by rw [zek];exact xB _
 | v::l=>by
  have h1:=zza s v (zaM m (fldI m v.Number)) w keep;have h2:=zxp s m w keep l;rw [zek,yh,yn];omega
theorem zDM {s:List Mes} (hs:zlQ s):∀(fuel:Nat) (x:Msg) (k:Nat) (w:List zI) (keep:Bool),szM x<fuel->k<s.length->zaw s x k=true->bdM x->smM x->zmy w->WW w->ziP fuel s k x w keep=some (znF s x k w keep)
 | 0,x,k,w,keep,h,_,_,_,_,_,_=>by omega
 | fuel+1,x,k,w,keep,hz,hk,hx,hb,hsm,hM,hW=>by
  obtain ⟨_,_,r3,r4,_⟩:=zcs hx;have sx:=(zki x).1 hsm;have bx:=(zhr x).1 hb;have hm:zaP s (k:Int)=s[k]:=zjR hk;have hfew:=hs.few s[k] (xC hk);rw [zcN] at hz;obtain ⟨q,q1,q2⟩:=zCU hW hM.full;have key:∀(t:List Vlu) (i:Nat),x.Values.drop i=t->i<=x.Values.length->zhC keep k (ziP fuel) q s x i (zek s (x.Values.take i) (zaP s k) w keep)=some (zek s x.Values (zaP s k) w keep):=by
   intro t
   induction t with
   | nil=>
    intro i hd hi;have:=zdW hd;obtain rfl:i=x.Values.length:=by omega
    rw [yY];refine zsE ?_;unfold zdZ;rw [itF (by simp)]
   | cons v t ih=>
    intro i hd hi;obtain ⟨hlt,hv,hd'⟩:=zde hd;have hvm:v∈x.Values:=hv▸xC hlt;have hf:=(r4 v hvm).1;have hpl:=zxp s (zaP s k) w keep (x.Values.take i);rw [xK] at hpl;have hstep:zek s (x.Values.take (i+1)) (zaP s k) w keep=zek s (x.Values.take i) (zaP s k) w keep++zvt s v (zaM (zaP s k) (fldI (zaP s k) v.Number)) w keep:=by
     rw [yA hlt,hv,zxo,zek,zek,yX]
    refine (zsD (v':=((i+1:Nat):Int)) (f2':=zek s (x.Values.take (i+1)) (zaP s k) w keep) ?_).trans (ih (i+1) hd' (by omega));rw [hstep,zoR];unfold zdZ;rw [uT,zP rfl hlt,sb,hv,zP rfl hk,sb,<-hm,zyq (by rw [hm];omega) hf,sb,q2,uV];have hg:(if ((((zir w v.Number).length:Nat):Int)==1)=true then idx (zir w v.Number) 0>>=fun x4=>some ((x4.length:Int)==0) else some false)=some (zhW w v.Number):=by
     cases hwb:zhW w v.Number with
     | true=>rw [zBU hM hwb];rfl
     | false=>
      obtain ⟨_,h2⟩:=zrq hwb;by_cases h1:(zir w v.Number).length=1
      ·obtain ⟨u,hu⟩:∃u,zir w v.Number=[u]:=List.length_eq_one_iff.1 h1;have hu':=h2 u (by rw [hu];exact xx);have hl:u.length≠0:=fun e=>hu' (yw e)
       rw [hu,itT (by rfl),show idx [u] 0=some u from rfl,sb];congr 1;simpa using hl
      ·rw [uU]
    rw [hg,sb];by_cases hc:zhW w v.Number=false/\zhy w v.Number≠[]/\(zaM (zaP s k) (fldI (zaP s k) v.Number)).Kind=17/\(zaM (zaP s k) (fldI (zaP s k) v.Number)).Repeated=false
    ·obtain ⟨c1,c2,c3,c4⟩:=id hc;have hu:=(zrq c1).1
     have hul:0<(zhy w v.Number).length:=by cases h:zhy w v.Number with
      | nil=>exact absurd h c2
      | cons=>simp
     obtain ⟨y,ey,ry⟩:=(zfS (r4 v hvm).2).msg c3 c4;have ysub:v.Subs=[y]:=by rw [ey]
     obtain ⟨k0,k1,_⟩:=zcs ry;obtain ⟨j,hj⟩:∃j:Nat,(zaM (zaP s k) (fldI (zaP s k) v.Number)).Of=j:=⟨(zaM (zaP s k) (fldI (zaP s k) v.Number)).Of.toNat,by omega⟩;have hsz:=zdH hvm;rw [zeV,ysub] at hsz;simp only [szMs] at hsz;have by':bdM y:=zeb.1 ((zgS v).1 (zdB.1 bx.2.2 v hvm)).2.2.2.2 y (by rw [ysub];exact xx)
     have sy:smM y:=zhQ.1 ((zlg v).1 (zgL.1 sx.2.2 v hvm)).2.2.2 y (by rw [ysub];exact xx);rw [hj] at ry;rw [xw hc,hu,itT (by simp [c1,c3,c4,hul]),zur,sb,ysub,pp,hj,zDM hs fuel y j _ keep (by omega) (by omega) ry by' sy (zBA hM _) (zFZ hW _),sb,zyr,sb];simp only;rw [zdI (by simp;omega),sb,zpG];push_cast;rfl
    ·rw [xu hc,itF ?_]
     ·by_cases hwk:zhW w v.Number=keep
      ·rw [xw hwk,itT (by simp [hwk]),zdI (by simp;omega),sb];push_cast;rfl
      ·rw [xu hwk,itF (by simpa using hwk),yX];push_cast;rfl
     ·cases hwb:zhW w v.Number with
      | true=>rfl
      | false=>
       rw [(zrq hwb).1];simp only [p9,xR,Bool.and_eq_false_iff,qJ,beq_eq_false_iff_ne,po,ne_eq];by_cases h1:zhy w v.Number=[]
       ·left;rw [h1];simp
       ·by_cases h2:(zaM (zaP s k) (fldI (zaP s k) v.Number)).Kind=17
        ·right;right;by_cases h3:(zaM (zaP s k) (fldI (zaP s k) v.Number)).Repeated=true
         ·exact h3
         ·exact absurd ⟨hwb,h1,h2,by simpa using h3⟩ hc
        ·right;left;exact h2
  show zjK (ziP fuel) s k x w keep=_;unfold zjK;have h:=key x.Values 0 rfl (xI _);rw [yJ,zek] at h;have h':zhC keep k (ziP fuel) q s x 0 []=_:=h;have hp:(if (!keep)=true then some x.Unknown else some [])=some (if keep=true then [] else x.Unknown):=by cases keep<;>rfl
  rw [hp,sb,q1,sb,h',sb,zrh]
theorem zGN {n:Nat} (h:n<=2097152):zcY (n:Int)=some []:=by
 unfold zcY;have e:IntKind.i64.wrap ((n:Int) - IntKind.i64.wrap (0 - 0))=n:=by rw [zx (x:=0 - 0) (by omega),uV];omega
 rw [itF (by simp),e];by_cases h0:(n:Int)>0
 ·rw [itT (by simpa using h0),zxe (a:=n) rfl (qr _) (by omega),sb];have e0:cut (List.replicate n ([]:Str)) 0 0=some []:=zqF (b:=0) rfl (xI _);rw [e0,sb]
 ·rw [itF (by simpa using h0)]
theorem zwu {a b:List Str} (h:a.length+b.length<=2097152):zbV [a,b]=some (a++b):=by
 have b0:∀s:Nat,s+a.length<=2097152->zT [a,b] s 0=some (.inl (((s+a.length:Nat):Int),1)):=fun s hs=>by
  unfold zT;rw [itT (by simp),show idx [a,b] 0=some a from rfl,sb];rw [uV,uU,uV];push_cast;rfl
 have b1:∀s:Nat,s+b.length<=2097152->zT [a,b] s 1=some (.inl (((s+b.length:Nat):Int),2)):=fun s hs=>by
  unfold zT;rw [itT (by simp),show idx [a,b] 1=some b from rfl,sb];rw [uV,uU,uV];push_cast;rfl
 have l1:zch [a,b] 0 0=some ((a.length+b.length:Nat):Int):=by
  have e0:=b0 0 (by omega);rw [xE] at e0;rw [zfW (show zT [a,b] 0 0=_ from e0),zfW (b1 a.length (by omega))];refine zjn ?_;unfold zT;rw [itF (by rfl)]
 have l2:zci [a,b] [] 0=some (a++b):=by
  rw [zfX (newslice':=a) (v2':=1) (by
   unfold zae;rw [itT (by simp),show idx [a,b] 0=some a from rfl,sb];rw [zdI (by simp;omega),sb,yc];rfl),zfX (newslice':=a++b) (v2':=2) (by
   unfold zae;rw [itT (by simp),show idx [a,b] 1=some b from rfl,sb];rw [zdI (by omega),sb];rfl)]
  refine zjo ?_;unfold zae;rw [itF (by rfl)]
 unfold zbV;rw [l1,sb,zGN h,sb,l2,sb]
theorem zGO {n:Nat} (h:n<=2097152):zcZ (n:Int)=some []:=by
 unfold zcZ;have e:IntKind.i64.wrap ((n:Int) - IntKind.i64.wrap (0 - 0))=n:=by rw [zx (x:=0 - 0) (by omega),uV];omega
 rw [itF (by simp),e];by_cases h0:(n:Int)>0
 ·rw [itT (by simpa using h0),zxe (a:=n) rfl (qr _) (by omega),sb];have e0:cut (List.replicate n (0:Int)) 0 0=some []:=zqF (b:=0) rfl (xI _);rw [e0,sb]
 ·rw [itF (by simpa using h0)]
theorem zCO {a b:List Int} (h:a.length+b.length<=2097152):zcG [a,b]=some (a++b):=by
 have b0:∀s:Nat,s+a.length<=2097152->zU [a,b] s 0=some (.inl (((s+a.length:Nat):Int),1)):=fun s hs=>by
  unfold zU;rw [itT (by simp),show idx [a,b] 0=some a from rfl,sb];rw [uV,uU,uV];push_cast;rfl
 have b1:∀s:Nat,s+b.length<=2097152->zU [a,b] s 1=some (.inl (((s+b.length:Nat):Int),2)):=fun s hs=>by
  unfold zU;rw [itT (by simp),show idx [a,b] 1=some b from rfl,sb];rw [uV,uU,uV];push_cast;rfl
 have l1:zcj [a,b] 0 0=some ((a.length+b.length:Nat):Int):=by
  have e0:=b0 0 (by omega);rw [xE] at e0;rw [zfY (show zU [a,b] 0 0=_ from e0),zfY (b1 a.length (by omega))];refine zjq ?_;unfold zU;rw [itF (by rfl)]
 have l2:zck [a,b] [] 0=some (a++b):=by
  rw [zfZ (newslice':=a) (v2':=1) (by
   unfold zaf;rw [itT (by simp),show idx [a,b] 0=some a from rfl,sb];rw [zdI (by simp;omega),sb,yc];rfl),zfZ (newslice':=a++b) (v2':=2) (by
   unfold zaf;rw [itT (by simp),show idx [a,b] 1=some b from rfl,sb];rw [zdI (by omega),sb];rfl)]
  refine zjr ?_;unfold zaf;rw [itF (by rfl)]
 unfold zcG;rw [l1,sb,zGO h,sb,l2,sb]
theorem zFg {n:Nat} (h:n<=2097152):zct (n:Int)=some []:=by
 unfold zct;have e:IntKind.i64.wrap ((n:Int) - IntKind.i64.wrap (0 - 0))=n:=by rw [zx (x:=0 - 0) (by omega),uV];omega
 rw [itF (by simp),e];by_cases h0:(n:Int)>0
 ·rw [itT (by simpa using h0),zxe (a:=n) rfl (qr _) (by omega),sb];have e0:cut (List.replicate n (⟨[],[]⟩:Msg)) 0 0=some []:=zqF (b:=0) rfl (xI _);rw [e0,sb]
 ·rw [itF (by simpa using h0)]
theorem zAU {a b:List Msg} (h:a.length+b.length<=2097152):zbY [a,b]=some (a++b):=by
 have b0:∀s:Nat,s+a.length<=2097152->zN [a,b] s 0=some (.inl (((s+a.length:Nat):Int),1)):=fun s hs=>by
  unfold zN;rw [itT (by simp),show idx [a,b] 0=some a from rfl,sb];rw [uV,uU,uV];push_cast;rfl
 have b1:∀s:Nat,s+b.length<=2097152->zN [a,b] s 1=some (.inl (((s+b.length:Nat):Int),2)):=fun s hs=>by
  unfold zN;rw [itT (by simp),show idx [a,b] 1=some b from rfl,sb];rw [uV,uU,uV];push_cast;rfl
 have l1:zbw [a,b] 0 0=some ((a.length+b.length:Nat):Int):=by
  have e0:=b0 0 (by omega);rw [xE] at e0;rw [zfn (show zN [a,b] 0 0=_ from e0),zfn (b1 a.length (by omega))];refine ziy ?_;unfold zN;rw [itF (by rfl)]
 have l2:zbx [a,b] [] 0=some (a++b):=by
  rw [zfo (newslice':=a) (v2':=1) (by
   unfold zY;rw [itT (by simp),show idx [a,b] 0=some a from rfl,sb];rw [zdI (by simp;omega),sb,yc];rfl),zfo (newslice':=a++b) (v2':=2) (by
   unfold zY;rw [itT (by simp),show idx [a,b] 1=some b from rfl,sb];rw [zdI (by omega),sb];rfl)]
  refine ziz ?_;unfold zY;rw [itF (by rfl)]
 unfold zbY;rw [l1,sb,zFg h,sb,l2,sb]
theorem zJs (u:Vlu):(⟨u.Number,u.Words,u.Texts,u.Subs⟩:Vlu)=u:=by cases u;rfl
def jv15 (s:List Mes) (a:Msg) (k:Int) (v:Vlu):Vlu:=zjy s v (look a.Values v.Number) (zaM (zaP s k) (fldI (zaP s k) v.Number))
structure Jm (s:List Mes) (a:Msg) (k:Int) (t:List Vlu) (q:List (Int×Vlu)):Prop where
 nd:(q.map Prod.fst).Nodup
 get:∀n,mget q n=match look t n with
  | some v=>some (jv15 s a k v)
  | none=>look a.Values n
 len:q.length<=a.Values.length+t.length
theorem Jm.put {s:List Mes} {a:Msg} {k:Int} {t:List Vlu} {q:List (Int×Vlu)} (h:Jm s a k t q) {v:Vlu} (hn:look t v.Number=none):Jm s a k (t++[v]) (mput q v.Number (jv15 s a k v)):=by
 refine ⟨zsV h.nd _ _,fun n=>?_,?_⟩
 ·rw [zfe,zqY];by_cases e:n=v.Number
  ·subst e;rw [xw rfl,hn];simp only;rw [zdo,xw rfl]
  ·rw [xu e,h.get];cases hl:look t n with
   | some u=>rfl
   | none=>
    simp only;rw [zdo,xu (fun e'=>e e'.symm)];rfl
 ·have:=zHE q v.Number (jv15 s a k v);have:=h.len;rw [yh,qc];omega
theorem zCy {s:List Mes} (hs:zlQ s) {a b:Msg} {k:Nat} (hk:k<s.length) {rv:List zf->Fld->Vlu->Vlu->Option Vlu} (ra:zaw s a k=true) (rb:zaw s b k=true) (sa:smM a) (sb':smM b) (ba:bdM a) (bb:bdM b)
  (hrv:∀v∈b.Values,∀u,look a.Values v.Number=some u->rv s (zaM (zaP s k) (fldI (zaP s k) v.Number)) u v=some (jv15 s a k v)):
  ∃q,zgW b k rv s (zmN a.Values) 0=some q/\Jm s a k b.Values q:=by
 obtain ⟨_,_,a3,a4,_⟩:=zcs ra;obtain ⟨_,_,b3,b4,_⟩:=zcs rb;have al:=((zki a).1 sa).1;have bl:=((zki b).1 sb').1;have hm:zaP s (k:Int)=s[k]:=zjR hk;have hfew:=hs.few s[k] (xC hk);have key:∀(t:List Vlu) (i:Nat) (q:List (Int×Vlu)),b.Values.drop i=t->i<=b.Values.length->Jm s a k (b.Values.take i) q->∃q',zgW b k rv s q i=some q'/\Jm s a k b.Values q':=by
  intro t
  induction t with
  | nil=>
   intro i q hd hi hJ;have:=zdW hd;obtain rfl:i=b.Values.length:=by omega
   rw [yY] at hJ;refine ⟨q,zsj ?_,hJ⟩;unfold zdv;rw [itF (by simp)]
  | cons v t ih=>
   intro i q hd hi hJ;obtain ⟨hlt,hv,hd'⟩:=zde hd;have hbef:=zvn b3 hlt;rw [hv] at hbef;have hJ':=hJ.put hbef;rw [show b.Values.take i++[v]=b.Values.take (i+1) by rw [yA hlt,hv]] at hJ';obtain ⟨q',g1,g2⟩:=ih (i+1) _ hd' (by omega) hJ';refine ⟨q',(zsi (values':=mput q v.Number (jv15 s a k v)) (v':=((i+1:Nat):Int)) ?_).trans g1,g2⟩;have hg:=hJ.get v.Number;rw [hbef] at hg;simp only at hg;have hvm:v∈b.Values:=hv▸xC hlt;unfold zdv;rw [uT,zP rfl hlt,sb,hv,hg];cases hu:look a.Values v.Number with
   | none=>
    rw [itF (by rfl),uV];have e:jv15 s a k v=v:=by unfold jv15;rw [hu,zjQ]
    rw [e];push_cast;rfl
   | some u=>
    have hf:=(b4 v hvm).1;rw [itT (by rfl),zP rfl hk,sb,<-hm,zyq (by rw [hm];omega) hf,sb,yH,zJs,hrv v hvm u hu,sb,uV];have e:(jv15 s a k v).Number=v.Number:=zrR _ _ _ _;rw [e];push_cast;rfl
 exact key b.Values 0 (zmN a.Values) rfl (xI _) ⟨by
  unfold zmN;rw [pO];exact pN.2 (a3.imp fun h=>by simp only [Function.comp];omega),fun n=>by rw [zxd];rfl,by simp [zmN]⟩
theorem zDN {s:List Mes} (hs:zlQ s):∀(fuel:Nat),(∀(a b:Msg) (k:Nat),2*szM b<fuel->k<s.length->zaw s a k=true->zaw s b k=true->bdM a->bdM b->smM a->smM b->zji fuel s k a b=some (zhz s b a k))/\
  ∀(f:Fld) (u v:Vlu),2*szV v<fuel->f.Number=v.Number->zjH s u f->zjH s v f->bdV u->bdV v->smV u->smV v->zgy fuel s f u v=some (zjy s v (some u) f)
 | 0=>⟨fun a b k h=>by omega,fun f u v h=>by omega⟩
 | fuel+1=>by
  obtain ⟨ih1,ih2⟩:=zDN hs fuel;refine ⟨fun a b k hz hk ra rb ba bb sa sb'=>?_,fun f u v hz hn hu hv bu bv su sv=>?_⟩
  ·obtain ⟨_,_,a3,a4,_⟩:=zcs ra;obtain ⟨_,_,b3,b4,_⟩:=zcs rb;have al:=(zki a).1 sa;have bl:=(zki b).1 sb';have bda:=(zhr a).1 ba;have bdb:=(zhr b).1 bb;have hm:zaP s (k:Int)=s[k]:=zjR hk;rw [zcN] at hz;obtain ⟨q,g1,g2⟩:=zCy hs hk (rv:=zgy fuel) ra rb sa sb' ba bb fun v hv u hu=>by
    obtain ⟨e,hum⟩:=zfU hu;have:=zdH hv;have hf:=(b4 v hv).1;have hfu:=zfS (a4 u hum).2;rw [e] at hfu;rw [ih2 _ u v (by omega) (zyE hf).2 hfu (zfS (b4 v hv).2) (zdB.1 bda.2.2 u hum) (zdB.1 bdb.2.2 v hv) (zgL.1 al.2.2 u hum) (zgL.1 bl.2.2 v hv)];unfold jv15;rw [hu]
   have hnum:∀n v,mget q n=some v->v.Number=n/\0<=fldI (zaP s k) n:=fun n v hg=>by
    rw [g2.get] at hg;cases hl:look b.Values n with
    | some w=>
     rw [hl] at hg;cases hg;obtain ⟨e,hwm⟩:=zfU hl;exact ⟨(zrR _ _ _ _).trans e,by rw [<-e];exact (b4 w hwm).1⟩
    | none=>
     rw [hl] at hg;obtain ⟨e,hwm⟩:=zfU hg;exact ⟨e,by rw [<-e];exact (a4 v hwm).1⟩
   obtain ⟨l,o1,o2,o3⟩:=zKs g2.nd (fun n v hg=>(hnum n v hg).1) (fun n hn=>by
    cases hg:mget q n with
    | none=>exact absurd hn (zuK hg)
    | some v=>exact zJX hs (by omega) (by omega) (hnum n v hg).2) (by
     have:=g2.len;omega)
   obtain ⟨j1,j2⟩:=zuI ra rb;have hl:l=(zhz s b a k).Values:=zBx o2 j1 fun n=>by
    rw [o3,g2.get,j2];cases hl:look b.Values n with
    | none=>rfl
    | some w=>
     obtain ⟨e,_⟩:=zfU hl;simp only;unfold jv15;rw [e]
   show ziR (zji fuel) (zgy fuel) s k a b=_;unfold ziR;rw [zIA a3 al.1,sb,g1,sb,o1,sb,zwu (by omega),sb,hl,zlC]
  ·show zfI (zji fuel) (zgy fuel) s f u v=_;unfold zfI;rw [zjQ];simp only;obtain ⟨u1,⟨u2,_⟩,u3,u4⟩:=(zlg u).1 su;obtain ⟨v1,⟨v2,_⟩,v3,v4⟩:=(zlg v).1 sv;by_cases hr:f.Repeated=true
   ·rw [itT hr,zCO (by omega),sb,zwu (by omega),sb,zAU (by omega),sb,xw hr,hn]
   ·have hr':f.Repeated=false:=by simpa using hr
    rw [itF hr',xu hr];by_cases h17:f.Kind=17
    ·obtain ⟨x,ex,rx⟩:=hu.msg h17 hr';obtain ⟨y,ey,ry⟩:=hv.msg h17 hr';have ux:u.Subs=[x]:=by rw [ex]
     have vy:v.Subs=[y]:=by rw [ey]
     rw [zeV,vy] at hz;simp only [szMs] at hz;obtain ⟨k0,k1,_⟩:=zcs rx;obtain ⟨j,hj⟩:∃j:Nat,f.Of=j:=⟨f.Of.toNat,by omega⟩;have bx:bdM x:=zeb.1 ((zgS u).1 bu).2.2.2.2 x (by rw [ux];exact xx);have by':bdM y:=zeb.1 ((zgS v).1 bv).2.2.2.2 y (by rw [vy];exact xx)
     have sx:smM x:=zhQ.1 u4 x (by rw [ux];exact xx);have sy:smM y:=zhQ.1 v4 y (by rw [vy];exact xx);rw [hj] at rx ry;have:=ih1 x y j (by omega) (by omega) rx ry bx by' sx sy
     rw [itT (by simp [h17]),xw h17,zur,sb,zur,sb,ux,vy,hj];simp only [pp];rw [this,sb,zyr,sb,zlU,hn]
    ·rw [itF (by simp [h17]),xu h17]
theorem zAF {fuel:Nat} {s:List Mes} (root:Int) {a b:Msg} (hw:WS s) (ha:Ok15 fuel a) (hb:Ok15 fuel b) (hr:zdF s root [a,b]=0->szM (zhz s b a root)<fuel/\szM (zhz s b a root)<=131072):
  zjh fuel s root a b=some (if zdF s root [a,b]=0 then (zhz s b a root,0) else (znP,zdF s root [a,b])):=by
 unfold zjh;rw [zwk root hw (by simp) (by simp) (fun y hy=>by
  simp only [xz,xF,xG] at hy;rcases hy with rfl| rfl
  ·exact ha
  ·exact hb),sb]
 by_cases h0:zdF s root [a,b]=0
 ·obtain ⟨hs,g1,g2,g3⟩:=zpE h0;obtain ⟨k,rfl⟩:∃k:Nat,root=k:=⟨root.toNat,by omega⟩;have ra:=g3 a (by simp);have rb:=g3 b (by simp);obtain ⟨z1,z2⟩:=hr h0
  rw [itF (by simp [h0]),xw h0,(zDN hs fuel).1 a b k hb.z (by omega) ra rb ha.b hb.b ha.s hb.s,sb,
   zxO z1 (zvP _ b a k (xB _) ra rb ha.b hb.b ha.s hb.s) (by have:=zDT (zhz s b a k);omega),sb]
 ·rw [itT (by simp [h0]),xu h0];rfl
theorem zGf {fuel:Nat} {s:List Mes} (root:Int) {x:Msg} {ways:List zI} (keep:Bool) (hw:WS s) (hx:Ok15 fuel x) (hW:UW ways):
  ziO fuel s root x ⟨ways⟩ keep=some (if zdF s root [x]=0 then (znF s x root (ofW ways) keep,0) else (znP,zdF s root [x])):=by
 unfold ziO;rw [zwk root hw (by simp) (by simp) (fun y hy=>by rw [yf.1 hy];exact hx),sb];by_cases h0:zdF s root [x]=0
 ·obtain ⟨hs,g1,g2,g3⟩:=zpE h0;obtain ⟨k,rfl⟩:∃k:Nat,root=k:=⟨root.toNat,by omega⟩;have hrt:=g3 x (by simp);obtain ⟨t1,t2⟩:=zwa (s:=s) _ x k (ofW ways) keep (xB _) hx.b;have hz:=hx.z;have hd:=hx.d;rw [itF (by simp [h0]),xw h0,zHD hW.sw,sb];simp only;rw [zDM hs fuel x k _ keep (by omega) (by omega) hrt hx.b hx.s (zyU ways) hW.of.ww,sb,zxO (by omega) t1 (by have:=zDT (znF s x k (ofW ways) keep);omega),sb]
 ·rw [itT (by simp [h0]),xu h0];rfl
theorem zES {fuel:Nat} {s:List Mes} (root:Int) {x:Msg} {ways:List zI} (hw:WS s) (hx:Ok15 fuel x) (hW:UW ways):zjI fuel s root x ⟨ways⟩=some (if zdF s root [x]=0 then (znF s x root (ofW ways) false,0) else (znP,zdF s root [x])):=by
 unfold zjI;rw [zGf root false hw hx hW,sb]
mutual
theorem zFP:∀x:Msg,zhq x=zjE x
 | ⟨vs,u⟩=>by rw [zhq,zjE,zth vs]
theorem zth:∀l:List Vlu,zdb l=zka l
 | []=>by rw [zdb,zka]
 | v::l=>by rw [zdb,zka,zFQ v,zth l]
theorem zFQ:∀v:Vlu,zge v=zos v
 | ⟨n,w,t,s⟩=>by rw [zge,zos,zxL s]
theorem zxL:∀l:List Msg,zen l=zjZ l
 | []=>by rw [zen,zjZ]
 | x::l=>by rw [zen,zjZ,zFP x,zxL l]
end
theorem zEU {fuel:Nat} {s:List Mes} (root:Int) {a:Msg} (hw:WS s) (hx:Ok15 fuel a):zjJ fuel s root a=some (if zdF s root [a]=0 then (zjE a,0) else (znP,zdF s root [a])):=by
 unfold zjJ;rw [zwk root hw (by simp) (by simp) (fun y hy=>by rw [yf.1 hy];exact hx),sb];have hz:=hx.z;have hd:=hx.d;by_cases h0:zdF s root [a]=0
 ·rw [itF (by simp [h0]),xw h0,zxO (by omega) hx.b (by have:=zDT a;omega),sb,zth,<-zoS]
 ·rw [itT (by simp [h0]),xu h0];rfl
end Go.Proofs.YtekgmimingolbaaGreat
