/-
  What the plain functions are. No condition.
-/
import Derived.Test.YtkgohoggipdokaaGreatx2P1
import Derived.Test.YtkgohoggipdokaaGreatx2S1
import Derived.Test.YtkgohoggipdokaaGreatx2K3
import Derived.Test.YtkgohoggipdokaaGreatx2K1
set_option autoImplicit true
set_option relaxedAutoImplicit true
namespace Go.Proofs.YtkgohoggipdokaaGreat
open Go.IntKind (i64 u64)
open Go
set_option linter.unusedVariables false
def lt7 (c:UInt8):Bool:=decide (97<=c.toNat/\c.toNat<=122\/65<=c.toNat/\c.toNat<=90\/c.toNat=95)
def dg7 (c:UInt8):Bool:=decide (48<=c.toNat/\c.toNat<=57)
theorem zuj (c:UInt8):zfi (c.toNat:Int)=some (dg7 c):=by
 unfold zfi dg7;congr 1;rw [yH];simp;omega
theorem zzs (c:UInt8):zfJ (c.toNat:Int)=some (lt7 c):=by
 unfold zfJ lt7;congr 1;by_cases h1:(c.toNat:Int)>=97<;>by_cases h2:(c.toNat:Int)>=65<;>simp only [h1,h2,decide_true,decide_false,yi,yN,qW]<;>rw [yH]<;>simp<;>omega
theorem zzt (s:List UInt8) (hs:s.length<=1152921504606846976):∀(l:List UInt8) (i:Nat),s.drop i=l->zeg s i=some (if (l.all fun c=>lt7 c|| dg7 c)=true then .inl () else .inr ()):=by
 intro l
 induction l with
 | nil=>
  intro i hd;have:=zrp hd;refine ziZ ?_;unfold zce;rw [up];rfl
 | cons c l ih=>
  intro i hd;obtain ⟨hi,hc,hd'⟩:=zpr hd;have hb:zce s i=if (lt7 c|| dg7 c)=true then some (.inl ((i+1:Nat):Int)) else some (.inr (.inr ())):=by
   unfold zce;rw [uo,zaf rfl hi,sb,hc,zzs,sb,sb,zuj,uq];cases lt7 c<;>cases dg7 c<;>rfl
  rw [yI];cases hk:(lt7 c|| dg7 c) with
  | false=>
   rw [hk] at hb;rw [ziZ hb];rfl
  | true=>
   rw [hk] at hb;rw [znT hb,ih _ hd',xZ]
theorem zCV:∀(l:List UInt8) (i:Nat),0<i->nmA i l=l.all fun c=>lt7 c|| dg7 c
 | [],_,_=>rfl
 | c::l,i,h=>by
  rw [nmA,zCV l (i+1) (by omega),yI];congr 1;unfold nmc lt7 dg7;rw [yH];simp;omega
theorem zwD (hs:s.length<=1152921504606846976):zfO s=some (zgA s):=by
 unfold zfO zgA;have hl:=zzt s hs s 0 rfl;have hl':zeg s 0=_:=hl;cases s with
 | nil=>rfl
 | cons c l=>
  rw [ul];by_cases h60:((c::l).length:Int)>60
  ·rw [itT (by simpa using h60),sb,itT rfl];have:decide (1<=(c::l).length/\(c::l).length<=60)=false:=by simp only [uh];omega
   rw [this,qM]
  ·have hd:decide (1<=(c::l).length/\(c::l).length<=60)=true:=by simp only [xY];refine ⟨by simp,by omega⟩
   have hc:idx (c::l) 0=some c:=by simp [idx]
   rw [itF (by simpa using h60),hc,sb,zuj,sb,sb,hd,qJ,hl',sb];have e:nmA 0 (c::l)=(lt7 c&&l.all fun c=>lt7 c|| dg7 c):=by
    rw [nmA,zCV l 1 (by omega)];congr 1;unfold nmc lt7;rw [yH];simp;omega
   have hx:lt7 c=true->dg7 c=false:=by
    unfold lt7 dg7;simp only [xY,uh];omega
   rw [e,yI];cases h1:lt7 c<;>cases h2:dg7 c<;>first| (rw [hx h1] at h2;cases h2;done)| skip
   ·rfl
   ·rfl
   ·cases l.all fun c=>lt7 c|| dg7 c<;>rfl
theorem zFs (hl:l.length<=1152921504606846976) (v:Int):zcF l v=some (zih (fun x=>v==x) l):=by
 unfold zcF;have h:=zrt (fun x=>v==x) l (fun i=>zbC l v i) (zfj (by unfold zaI;rw [ul])) (fun i hi=>by
  by_cases hp:(v==l[i])=true
  ·rw [xu hp];exact zfj (by unfold zaI;rw [uo,zaf rfl hi,sb,itT hp])
  ·rw [xt hp];exact ziw (by unfold zaI;rw [uo,zaf rfl hi,sb,itF (by simpa using hp),uq];rfl)) l.length 0 (by omega) (fun j _ h=>by omega)
 have h':zbC l v 0=_:=h;rw [h',sb];unfold zih;cases l.findIdx? (fun x=>v==x)<;>rfl
theorem zvN {α:Type} (p:α->Bool) (l:List α):decide (zih p l>=0)=l.any p:=by
 cases h:l.findIdx? p with
 | none=>
  rw [zkU h];rw [pv] at h
  symm
  rw [List.any_eq_false.2 fun x hx=>by simpa using h x hx];rfl
 | some i=>
  rw [zkV h];rw [pw] at h;obtain ⟨hi,hp,_⟩:=h
  symm
  rw [List.any_eq_true.2 ⟨l[i],xF hi,hp⟩];simp
theorem zyY (hl:l.length<=1152921504606846976) (v:Int):zca l v=some (l.any fun x=>v==x):=by
 unfold zca;rw [zFs hl,sb,zvN]
def K17:List Int:=[1,2,3,4,5,6,7,8,9,10,11,12,13,14,15,16,17]
theorem zDO (k:Int):(K17.any fun x=>k==x)=zbL k:=by
 unfold zbL K17;rw [yH];simp;omega
def hasN (m:List (zt×Bool)) (i:Int) (n:Str):Bool:=(mget m (⟨i,n⟩:zt)).getD false
def hasU (m:List (zu×Bool)) (i:Int) (n:Int):Bool:=(mget m (⟨i,n⟩:zu)).getD false
theorem zlG (m:List (zt×Bool)) (i j:Int) (n k:Str):hasN (mput m ⟨i,n⟩ true) j k=(decide (j=i/\k=n)|| hasN m j k):=by
 unfold hasN;rw [zhd];by_cases h:j=i/\k=n
 ·obtain ⟨rfl,rfl⟩:=h;simp
 ·rw [xt (fun e=>h (by injection e with e1 e2;exact ⟨e1,e2⟩))];simp [h]
theorem zzn (m:List (zu×Bool)) (i j:Int) (n k:Int):hasU (mput m ⟨i,n⟩ true) j k=(decide (j=i/\k=n)|| hasU m j k):=by
 unfold hasU;rw [zhd];by_cases h:j=i/\k=n
 ·obtain ⟨rfl,rfl⟩:=h;simp
 ·rw [xt (fun e=>h (by injection e with e1 e2;exact ⟨e1,e2⟩))];simp [h]
theorem zzu (n:Int):zfK n=some (decide ¬(n<1\/n>536870911\/(19000<=n/\n<20000))):=by
 unfold zfK;congr 1;rw [yH];simp;omega
theorem zBy (f:Fld):zgh f=some (f.Repeated&&kNum f.Kind):=by
 unfold zgh;rw [zuo];cases f.Repeated<;>rfl
theorem zFM (n:Int) (K:List Int) (nm:List (zt×Bool)) (nu:List (zu×Bool)) (f:Fld):zen ⟨n,K,nm,nu⟩ f=some (decide ¬(f.Kind=17/\(f.Of<0\/f.Of>=n)\/f.Kind≠17/\f.Of≠0)):=by
 unfold zen;by_cases h:f.Kind=17
 ·rw [itT (by simpa using h)];congr 1;rw [yH];simp [h]
 ·rw [itF (by simpa using h)];congr 1;rw [yH];simp [h]
theorem zFj (hf:f.Name.length<=1152921504606846976) (hN:hasN nm i f.Name=prev.any fun g=>g.Name==f.Name) (hU:hasU nu i f.Number=prev.any fun g=>g.Number==f.Number):
  zem ⟨n,K17,nm,nu⟩ i f=some (zcP n prev f,if zcP n prev f=0 then (mput nm ⟨i,f.Name⟩ true,mput nu ⟨i,f.Number⟩ true) else (nm,nu)):=by
 unfold zem;rw [zwD hf,sb];have e1:(mget nm (⟨i,f.Name⟩:zt)).getD false=hasN nm i f.Name:=rfl;have e2:(mget nu (⟨i,f.Number⟩:zu)).getD false=hasU nu i f.Number:=rfl;simp only [e1,e2,hN,hU];have hz:∀(k:Int) (x y:List (zt×Bool)×List (zu×Bool)),k≠0->(if k=0 then x else y)=y:=fun k x y h=>xt h
 by_cases h1:zgA f.Name=false
 ·have hF:zcP n prev f=5:=by unfold zcP;rw [xu h1]
  rw [hF,hz 5 _ _ (by decide),itT (by rw [h1];rfl)]
 rw [itF (show (!zgA f.Name)=false by simpa using h1)];by_cases h2:(prev.any fun g=>g.Name==f.Name)=true
 ·have hF:zcP n prev f=6:=by unfold zcP;rw [xt h1,xu h2]
  rw [hF,hz 6 _ _ (by decide),itT h2]
 have h2':(prev.any fun g=>g.Name==f.Name)=false:=q9 h2;rw [itF h2',zzu,sb];by_cases h3:f.Number<1\/f.Number>536870911\/(19000<=f.Number/\f.Number<20000)
 ·have hF:zcP n prev f=7:=by unfold zcP;rw [xt h1,xt h2,xu h3]
  rw [hF,hz 7 _ _ (by decide),itT (by rw [ya (fun h=>h h3)];rfl)]
 rw [itF (by rw [xN h3];rfl)];by_cases h4:(prev.any fun g=>g.Number==f.Number)=true
 ·have hF:zcP n prev f=8:=by unfold zcP;rw [xt h1,xt h2,xt h3,xu h4]
  rw [hF,hz 8 _ _ (by decide),itT h4]
 have h4':(prev.any fun g=>g.Number==f.Number)=false:=q9 h4;rw [itF h4',zyY (by decide),sb,zDO];by_cases h5:zbL f.Kind=false
 ·have hF:zcP n prev f=9:=by unfold zcP;rw [xt h1,xt h2,xt h3,xt h4,xu h5]
  rw [hF,hz 9 _ _ (by decide),itT (by rw [h5];rfl)]
 rw [itF (show (!zbL f.Kind)=false by simpa using h5),zBy];have hg:(if f.Packed=true then (some (f.Repeated&&kNum f.Kind)>>=fun rv4=>some (!rv4)) else some false)=some (decide (f.Packed=true/\¬(f.Repeated=true/\kNum f.Kind=true))):=by
  cases f.Packed<;>cases f.Repeated<;>cases kNum f.Kind<;>rfl
 rw [hg,sb];by_cases h6:f.Packed=true/\¬(f.Repeated=true/\kNum f.Kind=true)
 ·have hF:zcP n prev f=10:=by unfold zcP;rw [xt h1,xt h2,xt h3,xt h4,xt h5,xu h6]
  rw [hF,hz 10 _ _ (by decide),itT (xN h6)]
 rw [itF (ya h6),zFM,sb];by_cases h7:f.Kind=17/\(f.Of<0\/f.Of>=n)\/f.Kind≠17/\f.Of≠0
 ·have hF:zcP n prev f=11:=by unfold zcP;rw [xt h1,xt h2,xt h3,xt h4,xt h5,xt h6,xu h7]
  rw [hF,hz 11 _ _ (by decide),itT (by rw [ya (fun h=>h h7)];rfl)]
 have hF:zcP n prev f=0:=by unfold zcP;rw [xt h1,xt h2,xt h3,xt h4,xt h5,xt h6,xt h7]
 rw [hF,xu rfl,itF (by rw [xN h7];rfl)]
theorem zBz {n:Int} {nm:List (zt×Bool)} {nu:List (zu×Bool)} {prev:List Mes} {m:Mes} (hm:m.Name.length<=1152921504606846976) (hN:hasN nm (-1) m.Name=prev.any fun g=>g.Name==m.Name):
  zdy ⟨n,K17,nm,nu⟩ m=some (if zgA m.Name=false then (2,nm,nu) else if (prev.any fun g=>g.Name==m.Name)=true then (3,nm,nu) else if 200<m.Fields.length then (4,nm,nu) else (0,mput nm ⟨-1,m.Name⟩ true,nu)):=by
 unfold zdy;rw [zwD hm,sb];have e1:(mget nm (⟨(-1),m.Name⟩:zt)).getD false=hasN nm (-1) m.Name:=rfl;simp only [e1,hN];by_cases h1:zgA m.Name=false
 ·rw [xu h1,itT (show (!zgA m.Name)=true by rw [h1];rfl)]
 rw [xt h1,itF (show (!zgA m.Name)=false by simpa using h1)];by_cases h2:(prev.any fun g=>g.Name==m.Name)=true
 ·rw [xu h2,itT h2]
 have h2':(prev.any fun g=>g.Name==m.Name)=false:=q9 h2;rw [xt h2,itF h2'];by_cases h3:200<m.Fields.length
 ·rw [xu h3,itT (show decide ((m.Fields.length:Int)>200)=true by simp;omega)]
 rw [xt h3,itF (show decide ((m.Fields.length:Int)>200)=false by simp;omega)]
structure Met (nm:List (zt×Bool)) (nu:List (zu×Bool)) (i:Nat) (prev:List Mes) (p:List Fld):Prop where
 mes:∀n,hasN nm (-1) n=prev.any fun g=>g.Name==n
 nam:∀n,hasN nm i n=p.any fun g=>g.Name==n
 num:∀n,hasU nu i n=p.any fun g=>g.Number==n
 later:∀(j:Nat) n,i<j->hasN nm j n=false
 laterU:∀(j:Nat) n,i<j->hasU nu j n=false
theorem Met.step (h:Met nm nu i prev p) (f:Fld):Met (mput nm ⟨i,f.Name⟩ true) (mput nu ⟨i,f.Number⟩ true) i prev (p++[f]):=by
 refine ⟨fun n=>?_,fun n=>?_,fun n=>?_,fun j n hj=>?_,fun j n hj=>?_⟩
 ·rw [zlG,h.mes,ya (by omega),Bool.false_or]
 ·rw [zlG,h.nam,p5,Bool.or_comm];congr 1;simp only [p6,List.any_nil,qK];rw [yH];simp;exact eq_comm
 ·rw [zzn,h.num,p5,Bool.or_comm];congr 1;simp only [p6,List.any_nil,qK];rw [yH];simp;exact eq_comm
 ·rw [zlG,h.later j n hj,ya (by omega)];rfl
 ·rw [zzn,h.laterU j n hj,ya (by omega)];rfl
theorem zFd (hb:m.Fields.length<=140737488351232) (hn:∀f∈m.Fields,f.Name.length<=140737488351232):
  ∀(l:List Fld) (k:Nat) (nm:List (zt×Bool)) (nu:List (zu×Bool)),m.Fields.drop k=l->k<=m.Fields.length->Met nm nu i prev (m.Fields.take k)->
   (∃j w,msgF s.length (m.Fields.take k) l=some (j,w)/\zdd K17 s i m k nm nu=some (.inr ((j:Int),w)))\/
   (msgF s.length (m.Fields.take k) l=none/\∃nm' nu',zdd K17 s i m k nm nu=some (.inl (nm',nu'))/\Met nm' nu' i prev m.Fields):=by
 intro l
 induction l with
 | nil=>
  intro k nm nu hd hk hM;have:=zrp hd;have hkl:k=m.Fields.length:=by omega
  subst hkl;refine .inr ⟨rfl,nm,nu,zju ?_,by simpa using hM⟩;unfold zbM;rw [ul]
 | cons f l ih=>
  intro k nm nu hd hk hM;obtain ⟨hi,hc,hd'⟩:=zpr hd;have hf:=hn f (by rw [<-hc];exact xF hi);have hfld:=zFj (n:=(s.length:Int)) (i:=(i:Int)) (nm:=nm) (nu:=nu) (prev:=m.Fields.take k) (f:=f) (by omega) (hM.nam _) (hM.num _);have htk:m.Fields.take (k+1)=m.Fields.take k++[f]:=by rw [pA hi,hc]
  have wb:(m.Fields.take k).length=k:=by simp;omega
  obtain ⟨bd,_⟩:=zzc (s.length:Int) (m.Fields.take k) f;rw [msgF];by_cases h0:zcP s.length (m.Fields.take k) f=0
  ·rw [xt (by omega)];rw [h0,xu rfl] at hfld;have hstep:zbM K17 s i m k nm nu=some (.inl (((k+1:Nat):Int),mput nm ⟨i,f.Name⟩ true,mput nu ⟨i,f.Number⟩ true)):=by
    unfold zbM;rw [uo,zaf rfl hi,sb,hc,hfld,sb];dsimp only;rw [itF (show ((0:Int) !=0)=false from rfl),uq];rfl
   rw [zoU hstep,<-htk];exact ih (k+1) _ _ hd' (by omega) (by rw [htk];exact hM.step f)
  ·rw [xu (by omega)];rw [xt h0] at hfld;refine .inl ⟨k,_,by rw [wb],zju ?_⟩;unfold zbM;rw [uo,zaf rfl hi,sb,hc,hfld,sb];dsimp only;rw [itT (show (zcP (s.length:Int) (m.Fields.take k) f !=0)=true by simpa using h0)]
theorem zFc {s:List Mes} (hw:WS s):∀(l:List Mes) (i:Nat) (nm:List (zt×Bool)) (nu:List (zu×Bool)),s.drop i=l->i<=s.length->Met nm nu i (s.take i) []->
  zew K17 s i nm nu=some (match chkF s.length (s.take i) l with| some (j,k,w)=> .inr ((j:Int),k,w)| none=> .inl ()):=by
 intro l
 induction l with
 | nil=>
  intro i nm nu hd hi hM;have:=zrp hd;refine zdQ ?_;unfold zbf;rw [up];rfl
 | cons m l ih=>
  intro i nm nu hd hi hM;obtain ⟨hil,hc,hd'⟩:=zpr hd;obtain ⟨w1,w2⟩:=hw;obtain ⟨m1,m2,m3⟩:=w2 m (by rw [<-hc];exact xF hil);have hmes:=zBz (n:=(s.length:Int)) (nm:=nm) (nu:=nu) (prev:=s.take i) (m:=m) (by omega) (hM.mes _);have htk:s.take (i+1)=s.take i++[m]:=by rw [pA hil,hc]
  have wb:(s.take i).length=i:=by simp;omega
  rw [chkF];by_cases h1:zgA m.Name=false
  ·rw [xu h1] at hmes|-;refine zdQ ?_;unfold zbf;rw [uo,zaf rfl hil,sb,hc,hmes,sb];dsimp only;rw [itT (show ((2:Int) !=0)=true from rfl),wb]
  rw [xt h1] at hmes|-;by_cases h2:((s.take i).any fun g=>g.Name==m.Name)=true
  ·rw [xu h2] at hmes|-;refine zdQ ?_;unfold zbf;rw [uo,zaf rfl hil,sb,hc,hmes,sb];dsimp only;rw [itT (show ((3:Int) !=0)=true from rfl),wb]
  rw [xt h2] at hmes|-;by_cases h3:200<m.Fields.length
  ·rw [xu h3] at hmes|-;refine zdQ ?_;unfold zbf;rw [uo,zaf rfl hil,sb,hc,hmes,sb];dsimp only;rw [itT (show ((4:Int) !=0)=true from rfl),wb]
  rw [xt h3] at hmes|-;have hM0:Met (mput nm ⟨-1,m.Name⟩ true) nu i (s.take i++[m]) (m.Fields.take 0):=by
   refine ⟨fun n=>?_,fun n=>?_,fun n=>?_,fun j n hj=>?_,fun j n hj=>hM.laterU j n hj⟩
   ·rw [zlG,hM.mes,p5,Bool.or_comm];congr 1;simp only [p6,List.any_nil,qK];rw [yH];simp;exact eq_comm
   ·rw [zlG,hM.nam,ya (by omega)];rfl
   ·rw [hM.num];rfl
   ·rw [zlG,hM.later j n hj,ya (by omega)];rfl
  have hl2:=zFd (s:=s) (i:=i) m2 m3 m.Fields 0 _ nu rfl (by omega) hM0;simp only [yJ] at hl2;rcases hl2 with ⟨j,w,g1,g2⟩| ⟨g1,nm',nu',g2,g3⟩
  ·rw [g1];refine zdQ ?_;unfold zbf;have g2':zdd K17 s i m 0 (mput nm ⟨-1,m.Name⟩ true) nu=_:=g2;rw [uo,zaf rfl hil,sb,hc,hmes,sb];dsimp only;rw [itF (show ((0:Int) !=0)=false from rfl),g2',sb];simp only [wb]
  ·rw [g1];have hstep:zbf K17 s i nm nu=some (.inl (((i+1:Nat):Int),nm',nu')):=by
    unfold zbf;have g2':zdd K17 s i m 0 (mput nm ⟨-1,m.Name⟩ true) nu=_:=g2;rw [uo,zaf rfl hil,sb,hc,hmes,sb];dsimp only;rw [itF (show ((0:Int) !=0)=false from rfl),g2',sb];dsimp only;rw [uq];rfl
   rw [zoT hstep];simp only [];rw [<-htk];refine ih (i+1) nm' nu' hd' (by omega) ⟨fun n=>?_,fun n=>?_,fun n=>?_,fun j n hj=>g3.later j n (by omega),fun j n hj=>g3.laterU j n (by omega)⟩
   ·rw [htk];exact g3.mes n
   ·rw [g3.later (i+1) n (by omega)];rfl
   ·rw [g3.laterU (i+1) n (by omega)];rfl
theorem zFb (hw:WS s):zhJ s=some (⟨(zkh s).1,(zkh s).2.1,(zkh s).2.2⟩,if (zkh s).2.2=0 then 0 else 9):=by
 unfold zhJ zkh;by_cases h:s.length=0\/100<s.length
 ·rw [uo,xu h];rfl
 ·rw [up,xt h,zHy,sb];have hl:=zFc hw s 0 [] [] rfl (by omega) ⟨fun n=>rfl,fun n=>rfl,fun n=>rfl,fun j n _=>rfl,fun j n _=>rfl⟩;simp only [yJ] at hl;have hl':zew [1,2,3,4,5,6,7,8,9,10,11,12,13,14,15,16,17] s 0 [] []=_:=hl;rw [hl',sb];cases hc:chkF s.length [] s with
  | none=>rfl
  | some q=>
   obtain ⟨i,k,w⟩:=q;have:=zCj _ _ _ _ _ _ hc;simp only;rw [xt (by omega)]
theorem zAd (hw:WS s):zgr s=some (zfX s):=by
 unfold zgr zfX;rw [zFb hw,sb];by_cases h:(zkh s).2.2=0<;>simp [h]
theorem zsJ (h:(zbt k b).2=0):kNum k=true/\(pcs k b).2=0/\(zbt k b).1=(pcs k b).1.map (zgX k):=by
 unfold zbt at h|-;cases hn:kNum k with
 | false=>rw [hn,xu rfl] at h;simp at h
 | true=>
  rw [hn,xt (by simp)] at h;rw [xt (by simp)];by_cases h0:(pcs k b).2=0
  ·rw [xu h0];exact ⟨rfl,h0,rfl⟩
  ·rw [xt h0] at h;exact absurd h h0
theorem zvz (h:(zbt k b).2≠0):(zbt k b).1=[]/\((zbt k b).2=2\/(zbt k b).2=3\/(zbt k b).2=4):=by
 unfold zbt at h|-;by_cases hn:kNum k=false
 ·rw [xu hn];simp
 ·rw [xt hn] at h|-;by_cases h0:(pcs k b).2=0
  ·rw [xu h0] at h;exact absurd rfl h
  ·rw [xt h0];rcases zzV k b with h1| h1| h1
   ·exact absurd h1 h0
   ·rw [h1];simp
   ·rw [h1];simp
theorem zFx {α:Type} (x y:α):(if (true:Bool)=false then x else y)=y:=rfl
def wid (k:Int):Nat:=if 12<=k then 8 else if 9<=k then 4 else 0
theorem zrR (k:Int):zfC k=some (if kNum k then ((wid k:Int),0) else (0,2)):=by
 cases hn:kNum k with
 | true=>
  have h:=zeH.1 hn;have hk:k=1\/k=2\/k=3\/k=4\/k=5\/k=6\/k=7\/k=8\/k=9\/k=10\/k=11\/k=12\/k=13\/k=14:=by omega
  rcases hk with rfl| rfl| rfl| rfl| rfl| rfl| rfl| rfl| rfl| rfl| rfl| rfl| rfl| rfl<;>rfl
 | false=>
  have h:=p4 hn;unfold zfC;have hne:∀c:Int,1<=c->c<=14->(k==c)=false:=fun c h1 h2=>by simp;omega
  simp only [hne 1 (by omega) (by omega),hne 2 (by omega) (by omega),hne 3 (by omega) (by omega),hne 4 (by omega) (by omega),hne 5 (by omega) (by omega),hne 6 (by omega) (by omega),hne 7 (by omega) (by omega),hne 8 (by omega) (by omega),hne 9 (by omega) (by omega),hne 10 (by omega) (by omega),hne 11 (by omega) (by omega),hne 12 (by omega) (by omega),hne 13 (by omega) (by omega),hne 14 (by omega) (by omega)];rfl
theorem zDN (hk:kNum k=true):(zaW k=0↔wid k=0)/\(wid k≠0->∀b:List UInt8,zcB (zaW k) b=decide (wid k=b.length))/\(wid k=0\/wid k=4\/wid k=8):=by
 have:=zeH.1 hk;unfold zaW wid zcB;by_cases h1:12<=k
 ·rw [xt (by omega),xu h1,xu h1];refine ⟨by simp,fun _ b=>?_,by simp⟩;rw [xt (by omega)];simp only [show ((1:Int)=2)=False from by simp,show ((1:Int)=5)=False from by simp,false_or,false_and,xP,yV];simp [eq_comm]
 ·rw [xt (by omega),xt h1,xt h1];by_cases h2:9<=k
  ·rw [xu h2,xu h2];refine ⟨by simp,fun _ b=>?_,by simp⟩;rw [xt (by omega)];simp [eq_comm]
  ·rw [xt h2,xt h2];exact ⟨by simp,fun h=>absurd rfl h,by simp⟩
theorem zEw (b:List UInt8):zhI b=some (if zcB 0 b then ((rd b).1,0) else (0,12)):=by
 unfold zhI zcB;rw [ztA,sb,xu rfl];by_cases h:(rd b).2.2=0/\(rd b).2.1=(b.length:Int)
 ·rw [itF (by simp [h.1,h.2]),xu (by simpa using h)]
 ·rw [uo,xt (by simpa using h)]
theorem zEt (k:Int) (b:List UInt8):zhH k b=some (if kNum k=false then (0,2) else if zcB (zaW k) b=false then (0,12) else (rawW k b,0)):=by
 unfold zhH;rw [zrR,sb];cases hn:kNum k with
 | false=>rw [xu rfl];rfl
 | true=>
  obtain ⟨e0,ef,_⟩:=zDN hn;simp only [yi];rw [ul,xt (show ¬(true=false) by simp)];by_cases h0:wid k=0
  ·have hw:=e0.2 h0;rw [itT (by simp [h0]),zEw,sb,hw];unfold rawW;cases hf:zcB 0 b with
   | true=>simp [hw]
   | false=>simp
  ·rw [itF (by simpa using h0),ef h0];by_cases hl:wid k=b.length
   ·rw [up,zIt,sb,xt (by simpa using hl)];unfold rawW;rw [xt (fun h=>h0 (e0.1 h))]
   ·rw [uo,xu (by simpa using hl)]
theorem zGA (k:Int) (b:List UInt8):ziY k b=some (zlV k b):=by
 unfold ziY zlV;rw [zEt,sb];cases hn:kNum k with
 | false=>rfl
 | true=>
  simp only [zFx];cases hf:zcB (zaW k) b with
  | false=>rfl
  | true=>
   simp only [zFx];rw [uk,zjR k (zqD k),sb,hn,xu rfl]
theorem zDm {k w:Int} (h:0<=w/\w<=18446744073709551615):ziv k w=some (if kNum k then (sPut k w,0) else ([],2)):=by
 have hc:=zgF k h;obtain ⟨c,hcc⟩:∃c:Nat,zbB k w=c:=⟨(zbB k w).toNat,by omega⟩;unfold ziv;rw [zrR,sb];cases hn:kNum k with
 | false=>rfl
 | true=>
  simp only [yi];rw [uk,zjR k h,sb,hn];simp only [yi];rw [hcc];unfold sPut ziu;rw [hcc,xH];unfold wid;by_cases h1:12<=k
  ·rw [xu h1,xu h1,uk,zwK,sb];rfl
  ·rw [xt h1,xt h1];by_cases h2:9<=k
   ·rw [xu h2,xu h2,uk,zwK,sb];rfl
   ·rw [xt h2,xt h2,uj,zBE [] (by omega) (by simp),sb,xM]
theorem zAk (h:0<=w/\w<=18446744073709551615):zhj k w=some (if kNum k then ((sPut k w).length:Int) else 0):=by
 have hc:=zgF k h;obtain ⟨c,hcc⟩:∃c:Nat,zbB k w=c:=⟨(zbB k w).toNat,by omega⟩;unfold zhj;rw [zrR,sb];cases hn:kNum k with
 | false=>rfl
 | true=>
  simp only [yi];unfold sPut ziu;rw [hcc,xH];unfold wid;by_cases h1:12<=k
  ·rw [xu h1,xu h1,uj,zaZ]
  ·rw [xt h1,xt h1];by_cases h2:9<=k
   ·rw [xu h2,xu h2,uj,zaZ]
   ·rw [xt h2,xt h2,uk,zjR k h,sb,hn];simp only [yi];rw [hcc,zFO (by omega),sb,zop]
theorem zwp {α:Type} {l t:List α} {x:α} {k:Nat} (h:l.drop k=x::t):∃hk:k<l.length,l[k]=x/\l.drop (k+1)=t:=by
 have hk:k<l.length:=by
  rcases yB k l.length with h'| h'
  ·exact h'
  ·rw [yC h'] at h;cases h
 rw [yq hk] at h;injection h with h1 h2;exact ⟨hk,h1,h2⟩
theorem zxK (l:List (List UInt8)) (hl:l.length<=1099511627776):∀(t:List (List UInt8)) (k s:Nat),l.drop k=t->s+t.flatten.length<=1099511627776->
  zbk l s k=some ((s+t.flatten.length:Nat):Int):=by
 intro t
 induction t with
 | nil=>
  intro k s hd _;have hk:l.length<=k:=by have:=congrArg List.length hd;simp at this;omega
  refine zhq ?_;unfold zau;rw [up];simp
 | cons x t ih=>
  intro k s hd hs;obtain ⟨hk,hx,hd'⟩:=zwp hd;simp only [qq,xC] at hs;refine (zhp (size':=((s+x.length:Nat):Int)) (v':=((k+1:Nat):Int)) ?_).trans ?_
  ·unfold zau;rw [uo,zaf rfl hk,sb,hx,uq,up,uq];push_cast;rfl
  ·rw [ih _ _ hd' (by omega)];simp only [qq,xC];congr 2;omega
theorem zxL (l:List (List UInt8)) (hl:l.length<=1099511627776):∀(t:List (List UInt8)) (k:Nat) (acc:List UInt8),l.drop k=t->acc.length+t.flatten.length<=1099511627776->
  zbl l acc k=some (acc++t.flatten):=by
 intro t
 induction t with
 | nil=>
  intro k acc hd _;have hk:l.length<=k:=by have:=congrArg List.length hd;simp at this;omega
  refine zhs ?_;unfold zav;rw [up];simp
 | cons x t ih=>
  intro k acc hd hs;obtain ⟨hk,hx,hd'⟩:=zwp hd;simp only [qq,xC] at hs;refine (zhr (newslice':=acc++x) (v2':=((k+1:Nat):Int)) ?_).trans ?_
  ·unfold zav;rw [uo,zaf rfl hk,sb,hx,zhw (by omega),sb,uq];push_cast;rfl
  ·rw [ih _ _ hd' (by rw [xC];omega)];simp
theorem zHr {n:Nat} (h:n<=1099511627776):zcs (n:Int)=some []:=by
 unfold zcs;have e:i64.wrap ((n:Int) - i64.wrap (0 - 0))=n:=by rw [zJ (x:=0 - 0) (by omega),uq];omega
 rw [ul,e];by_cases h0:(n:Int)>0
 ·rw [itT (by simpa using h0),znC (a:=n) rfl (qf _) (by omega),sb];have e0:cut (List.replicate n (0:UInt8)) 0 0=some []:=ztT (b:=0) rfl (xI _);rw [e0,sb]
 ·rw [itF (by simpa using h0)]
theorem zly (hl:l.length<=1099511627776) (h:l.flatten.length<=1099511627776):zax l=some l.flatten:=by
 unfold zax;have h1:=zxK l hl l 0 0 rfl (by omega);have h1':zbk l 0 0=_:=h1;have h2:=zxL l hl l 0 [] rfl (by simpa using h);have h2':zbl l [] 0=_:=h2;rw [h1',sb,zHr (by omega),sb,h2',sb];simp
def wid9 (k:Int):Int:=if kNum k then (if 12<=k then 8 else if 9<=k then 4 else 1) else 0
theorem zvQ (hk:kNum k=true):(((sPut k 0).length:Nat):Int)=(if 12<=k then 8 else if 9<=k then 4 else 1):=by
 have hk':=zeH.1 hk;have hc:(zbB k 0).toNat=0:=by
  have:k=1\/k=2\/k=3\/k=4\/k=5\/k=6\/k=7\/k=8\/k=9\/k=10\/k=11\/k=12\/k=13\/k=14:=by omega
  rcases this with h| h| h| h| h| h| h| h| h| h| h| h| h| h<;>subst h<;>decide
 unfold sPut;rw [hc];unfold ziu;by_cases h1:12<=k
 ·rw [xu h1,xu h1,zaZ];rfl
 ·rw [xt h1,xt h1];by_cases h2:9<=k
  ·rw [xu h2,xu h2,zaZ];rfl
  ·rw [xt h2,xt h2,zop];simp [lenN]
theorem zxg (k:Int):zjW k=some (wid9 k):=by
 unfold zjW wid9;rw [zAk (by omega),sb];cases hk:kNum k with
 | false=>rfl
 | true=>simp only [yi];rw [zvQ hk]
theorem zDv (hk:kNum k=true):(k<9->wid9 k=1)/\(¬k<9->k<12->wid9 k=4)/\(¬k<12->wid9 k=8):=by
 unfold wid9;rw [hk,xu rfl];refine ⟨fun h=>?_,fun h1 h2=>?_,fun h=>?_⟩
 ·rw [xt (show ¬12<=k by omega),xt (show ¬9<=k by omega)]
 ·rw [xt (show ¬12<=k by omega),xu (show 9<=k by omega)]
 ·rw [xu (show 12<=k by omega)]
theorem zAJ (hk:kNum k=false):wid9 k=0:=by unfold wid9;rw [hk];rfl
theorem zDu (hk:kNum k=true):(wid9 k==0)=false:=by
 obtain ⟨h1,h2,h3⟩:=zDv hk;by_cases h9:k<9
 ·rw [h1 h9];rfl
 ·by_cases h12:k<12
  ·rw [h2 h9 h12];rfl
  ·rw [h3 h12];rfl
theorem zxc (hk:kNum k=true) (b:List UInt8):zlU (wid9 k) b=some (match zkG k b with| .inl c=>(0,c)| .inr n=>((n:Int),0)):=by
 obtain ⟨w1,w2,w3⟩:=zDv hk;unfold zlU zkG;by_cases h9:k<9
 ·rw [w1 h9,uj,zDk,sb,xu h9];rcases zks b with h| ⟨h,_⟩| ⟨x,c,y,e,hx,hc,hl,hv,h⟩
  ·rw [h];rfl
  ·rw [h];rfl
  ·rw [h,xt (by simp)];simp
 ·rw [xt h9];by_cases h12:k<12
  ·rw [w2 h9 h12,uk,xu h12];by_cases hl:b.length<4
   ·rw [uo,xu hl]
   ·rw [up,xt hl];rfl
  ·rw [w3 h12,uk,xt h12];by_cases hl:b.length<8
   ·rw [uo,xu hl]
   ·rw [up,xt hl];rfl
def zhZ (k:Int) (b:List UInt8):List (List UInt8)×Int:=if kNum k=false then ([],2) else pcs k b
def go9 {σ ρ:Type} (kb:σ->(List UInt8×Int)->Option (σ⊕ρ)):List (List UInt8)->Int->σ->Option (σ⊕ρ)
 | [],c,s=>if c=0 then some (.inl s) else kb s ([],c)
 | p::ps,c,s=>match kb s (p,0) with
  | some (.inl s')=>go9 kb ps c s'
  | some (.inr r)=>some (.inr r)
  | none=>none
theorem zBI {σ ρ χ:Type} {kb:σ->χ->Option (σ⊕ρ)} {s:σ} {x:χ} {o:σ⊕ρ} (h:kb s x=some o):∃c,rnd kb (.inl s) x=some (c,o)/\(c=true/\(∃s',o= .inl s')\/c=false/\∃r,o= .inr r):=by
 cases o with
 | inl s'=>exact ⟨true,by simp only [rnd,h],.inl ⟨rfl,s',rfl⟩⟩
 | inr r=>exact ⟨false,by simp only [rnd,h],.inr ⟨rfl,r,rfl⟩⟩
theorem zKI {σ ρ:Type} (kb:σ->(List UInt8×Int)->Option (σ⊕ρ)) {k:Int} (hk:kNum k=true) (b:List UInt8):∀(s:σ) (o:σ⊕ρ),go9 kb (pcs k b).1 (pcs k b).2 s=some o->
  ∃q,zeu (rnd kb) (wid9 k) b (.inl s)=some q/\(q= .inl o\/q= .inr o):=by
 refine ztv k (fun b=>∀(s:σ) (o:σ⊕ρ),go9 kb (pcs k b).1 (pcs k b).2 s=some o->
  ∃q,zeu (rnd kb) (wid9 k) b (.inl s)=some q/\(q= .inl o\/q= .inr o)) ?_ ?_ ?_ b
 ·intro s o h;rw [zoz] at h;have h':some (.inl s)=some o:=h;refine ⟨.inl o,zgB ?_,.inl rfl⟩;unfold zbA;rw [uk,<-yU h']
 ·intro l c hl hu hc s o h;rw [ztu hl hu] at h;have h':kb s ([],c)=some o:=by
   have h2:(if c=0 then some (.inl s) else kb s ([],c))=some o:=h
   rwa [xt (by omega)] at h2
  obtain ⟨t,ht,_⟩:=zBI h';refine ⟨.inr o,zgB ?_,.inr rfl⟩;have hp:=qz.2 hl;unfold zbA;rw [uo,zxc hk,sb,hu];simp only;rw [zhx (i:=0) (j:=0) (a:=0) (b:=0) rfl rfl (xA _) (xI _),sb];simp only [xR,qX,yJ];rw [ht,sb,uo]
 ·intro l n hl hu g1 g2 g3 ih s o h;rw [zlO hl hu] at h;have hp:=qz.2 hl;have hbody:∀{t:Bool} {y:σ⊕ρ},rnd kb (.inl s) (l.take n,0)=some (t,y)->zbA (rnd kb) (wid9 k) l (.inl s)=(if t then some (.inl (l.drop n,y)) else some (.inr (.inr y))):=by
   intro t y ht;unfold zbA;rw [uo,zxc hk,sb,hu];simp only;rw [zhx (i:=0) (j:=(n:Int)) (a:=0) (b:=n) rfl rfl (xI _) g2,sb];simp only [xR,qw];rw [ht,sb];cases t with
   | false=>rw [uj];rfl
   | true=>rw [uk,zpY (a:=n) rfl rfl g2,sb];rfl
  simp only [go9] at h;cases hb:kb s (l.take n,0) with
  | none=>rw [hb] at h;cases h
  | some z=>
   rw [hb] at h;obtain ⟨t,ht,hcase⟩:=zBI hb;have hB:=hbody ht;rcases hcase with ⟨rfl,s',rfl⟩| ⟨rfl,r,rfl⟩
   ·obtain ⟨q,hq,hq'⟩:=ih s' o h;exact ⟨q,by rw [zoS hB];exact hq,hq'⟩
   ·have h':some (.inr r)=some o:=h;exact ⟨.inr (.inr r),zgB hB,.inr (by rw [yU h'])⟩
theorem zDt {σ ρ:Type} (kb:σ->(List UInt8×Int)->Option (σ⊕ρ)) (k:Int) (b:List UInt8) {s:σ} {o:σ⊕ρ} (h:go9 kb (zhZ k b).1 (zhZ k b).2 s=some o):zdW k b (rnd kb) (.inl s)=some o:=by
 unfold zdW;rw [zxg,sb];unfold zhZ at h;cases hk:kNum k with
 | false=>
  rw [hk,xu rfl] at h;have h':kb s ([],2)=some o:=h;obtain ⟨t,ht,_⟩:=zBI h';rw [zAJ hk,uj,ht,sb]
 | true=>
  rw [hk,xt (by simp)] at h;have hw:=zDu hk;obtain ⟨q,hq,hq'⟩:=zKI kb hk b s o h;rw [itF hw,hq,sb];rcases hq' with rfl| rfl<;>rfl
theorem zvt (k:Int) (b:List UInt8):(zhZ k b).2=(zbt k b).2/\((zbt k b).2=0->(zhZ k b).1=(pcs k b).1)/\(∀p∈(zhZ k b).1,zcB (zaW k) p=true/\1<=p.length/\p.length<=10)/\(zhZ k b).1.length<=b.length/\((zhZ k b).1=[]\/kNum k=true):=by
 unfold zhZ zbt;by_cases hn:kNum k=false
 ·rw [xu hn,xu hn];exact ⟨rfl,fun h=>by simp at h,(fun p hp=>by cases hp),xI _,.inl rfl⟩
 ·have hk:kNum k=true:=by simpa using hn
  rw [xt hn,xt hn];refine ⟨?_,fun _=>rfl,zGc hk b,zDe k b,.inr hk⟩;by_cases h0:(pcs k b).2=0
  ·rw [xu h0];exact h0
  ·rw [xt h0]
theorem zAL (hk:kNum k=true) (c:Int):∀(ps:List (List UInt8)) (acc:List Int),(∀p∈ps,zcB (zaW k) p=true/\1<=p.length/\p.length<=10)->acc.length+ps.length<=1048576->
  go9 (fun (s:List Int) (x:List UInt8×Int)=>zdp k s x.1 x.2) ps c acc=some (if c=0 then .inl (acc++ps.map (zgX k)) else .inr (c,acc++ps.map (zgX k)))
 | [],acc,_,hl=>by
  simp only [go9,yQ,yw];by_cases h0:c=0
  ·rw [xu h0,xu h0]
  ·rw [xt h0,xt h0];unfold zdp;rw [itT (by simpa using h0)]
 | p::ps,acc,hf,hl=>by
  simp only [xK] at hl;have h1:zdp k acc p 0=some (.inl (acc++[zgX k p])):=by
   unfold zdp;rw [uk,zGA,sb,zla hk (hf p xw).1,zhw (by simp;omega),sb]
  simp only [go9,h1];rw [zAL hk c ps _ (fun q hq=>hf q (xx _ hq)) (by simp;omega)];simp
theorem zEo (k:Int) {b:List UInt8} (hb:b.length<=1048576):zlT k b=some (zbt k b):=by
 obtain ⟨h1,h2,h3,h4,h5⟩:=zvt k b;unfold zlT zit;rw [sb];simp only;have hgo:go9 (fun (s:List Int) (x:List UInt8×Int)=>zdp k s x.1 x.2) (zhZ k b).1 (zhZ k b).2 []=some (if (zhZ k b).2=0 then .inl ([]++(zhZ k b).1.map (zgX k)) else .inr ((zhZ k b).2,[]++(zhZ k b).1.map (zgX k))):=by
  rcases h5 with h5| h5
  ·rw [h5];simp only [go9,yQ,yw];by_cases h0:(zhZ k b).2=0
   ·rw [xu h0,xu h0]
   ·rw [xt h0,xt h0];unfold zdp;rw [itT (by simpa using h0)]
  ·exact zAL h5 _ _ _ h3 (by simp;omega)
 rw [zDt _ k b hgo,sb,h1];by_cases h0:(zbt k b).2=0
 ·rw [xu h0,h2 h0];simp only [xM];rw [<-(zsJ h0).2.2,<-h0]
 ·rw [xt h0];simp only;rw [<-(zvz h0).1]
theorem zyZ (c:Int):∀(ps:List (List UInt8)) (n:Nat),n+ps.length<=1048576->
  go9 (fun (s:Int) (x:List UInt8×Int)=>zeL s x.1 x.2) ps c (n:Int)=some (if c=0 then .inl ((n+ps.length:Nat):Int) else .inr (c,((n+ps.length:Nat):Int)))
 | [],n,hl=>by
  simp only [go9,yF,yy];by_cases h0:c=0
  ·rw [xu h0,xu h0]
  ·rw [xt h0,xt h0];unfold zeL;rw [itT (by simpa using h0)]
 | p::ps,n,hl=>by
  simp only [xK] at hl;have h1:zeL (n:Int) p 0=some (.inl ((n+1:Nat):Int)):=by
   unfold zeL;rw [uk,uq];rfl
  simp only [go9,h1];rw [zyZ c ps (n+1) (by omega)];simp only [xK];rw [Nat.add_right_comm,qB]
theorem zEj (k:Int) {b:List UInt8} (hb:b.length<=1048576):zlS k b=some (((zbt k b).1.length:Int),(zbt k b).2):=by
 obtain ⟨h1,h2,h3,h4,h5⟩:=zvt k b;unfold zlS zit;rw [sb];simp only;have hgo:=zyZ (zhZ k b).2 (zhZ k b).1 0 (by omega);rw [zDt (s:=(0:Int)) _ k b hgo,sb,h1];by_cases h0:(zbt k b).2=0
 ·rw [xu h0,h2 h0];simp only;rw [(zsJ h0).2.2,h0];simp
 ·rw [xt h0];simp only;rw [(zvz h0).1];rfl
theorem zEa {k:Int} (hk:kNum k=true) {l:List Int} (h:∀w∈l,0<=w/\w<=18446744073709551615) (hl:l.length<=1048576):∀(d i:Nat),i+d=l.length->
  zhi k l ((l.take i).flatMap (sPut k)) i=some (l.flatMap (sPut k)):=by
 intro d
 induction d with
 | zero=>
  intro i hi;refine zsQ ?_;unfold zed;rw [up,yz (by omega)]
 | succ d ih=>
  intro i hi;have v8:i<l.length:=by omega
  have hw:=h _ (xF v8);have wb:=zkz (k:=k) hw;have hpre:∀m:List Int,(∀w∈m,0<=w/\w<=18446744073709551615)->(m.flatMap (sPut k)).length<=10*m.length:=by
   intro m hm
   induction m with
   | nil=>simp
   | cons x m ihm=>
    have h1:=zkz (k:=k) (hm x xw);have h2:=ihm (fun w hw=>hm w (xx _ hw));simp only [xS,xC,xK];omega
  have hp:=hpre (l.take i) (fun w hw=>h w (List.mem_of_mem_take hw));have hti:(l.take i).length=i:=by rw [yo];omega
  have hb:zed k l ((l.take i).flatMap (sPut k)) i=some (.inl ((l.take (i+1)).flatMap (sPut k),((i+1:Nat):Int))):=by
   unfold zed;rw [uo,zaf rfl v8,sb,zDm hw,sb,hk,xu rfl];simp only;rw [zhw (by omega),sb,uq,pA v8,y6];simp
  rw [zsP hb];exact ih (i+1) (by omega)
theorem zGo (k:Int) {l:List Int} (h:∀w∈l,0<=w/\w<=18446744073709551615) (hl:l.length<=1048576):znP k l=some (if kNum k then (l.flatMap (sPut k),0) else ([],2)):=by
 unfold znP;rw [zxg,sb];cases hk:kNum k with
 | false=>rw [zAJ hk];rfl
 | true=>
  have hlp:=zEa hk h hl l.length 0 (by omega);have hlp':zhi k l [] 0=_:=hlp;rw [itF (zDu hk),hlp',sb,xu rfl]
abbrev PVw:=ze
def prV (v:Vw):PVw:=⟨v.R,v.Field,v.Run⟩
theorem zvx (m:Mes) (he:∀p c,e=some (p,c)->3<=c/\c<=5):∀(l:List Rec) (p c:Int),(vws m e l).2=some (p,c)->3<=c/\c<=6
 | [],p,c,h=>by
  cases e with
  | none=>cases h
  | some q=>
   simp only [vws,qu,ye,yx] at h;have:=he q.1 q.2 rfl;omega
 | r::l,p,c,h=>by
  rw [vws] at h;rcases zgo m r.Number r.Wire with hv| ⟨hv,_⟩| ⟨i,run,hv,_⟩
  ·simp only [hv,ye,yx] at h;omega
  ·simp only [hv] at h;exact zvx m he l p c h
  ·simp only [hv] at h;exact zvx m he l p c h
theorem zJN (b:List UInt8):∀p c,(spl 0 b).2=some (p,c)->3<=c/\c<=5:=fun p c h=>by
 have:=(zGz 0 b p c h).1;omega
theorem zsi (m:Mes) (b:List UInt8):(zfq m b).2.2=0/\(vws m (spl 0 b).2 (spl 0 b).1).2=none/\(zfq m b).1=(vws m (spl 0 b).2 (spl 0 b).1).1/\(zfq m b).2.1=0\/(3<=(zfq m b).2.2/\(zfq m b).2.2<=6)/\(zfq m b).1=[]:=by
 unfold zfq vwR;cases h:(vws m (spl 0 b).2 (spl 0 b).1).2 with
 | none=>exact .inl ⟨rfl,rfl,rfl,rfl⟩
 | some q=>exact .inr ⟨zvx m (zJN b) _ q.1 q.2 h,rfl⟩
theorem zvy :∀{l:List Rec},(vws m e l).2=none->e=none/\(vws m e l).1.map (·.R)=l
 | [],h=>by
  cases e with
  | none=>exact ⟨rfl,rfl⟩
  | some q=>simp [vws] at h
 | r::l,h=>by
  rw [vws] at h|-;rcases zgo m r.Number r.Wire with hv| ⟨hv,_⟩| ⟨i,run,hv,_⟩
  ·simp only [hv] at h;cases h
  ·simp only [hv] at h|-;have:=zvy h;exact ⟨this.1,by simp [this.2]⟩
  ·simp only [hv] at h|-;have:=zvy h;exact ⟨this.1,by simp [this.2]⟩
theorem zAD :∀{l:List Rec},∀v∈(vws m e l).1,v.R∈l/\vw m v.R.Number v.R.Wire= .inr (v.Field,v.Run)
 | [],v,h=>by cases h
 | r::l,v,h=>by
  rw [vws] at h;rcases zgo m r.Number r.Wire with hv| ⟨hv,_⟩| ⟨i,run,hv,_⟩
  ·simp only [hv] at h;cases h
  all_goals
   simp only [hv] at h;rcases xz.1 h with rfl| h
   ·exact ⟨xw,hv⟩
   ·have:=zAD v h;exact ⟨xx _ this.1,this.2⟩
theorem zIm (h:v∈(zfq m b).1):v.R∈(spl 0 b).1/\vw m v.R.Number v.R.Wire= .inr (v.Field,v.Run):=by
 rcases zsi m b with ⟨_,_,e,_⟩| ⟨_,e⟩
 ·rw [e] at h;exact zAD v h
 ·rw [e] at h;cases h
theorem zoO (t:zaq):zjX t=some (zck t.Number t.Wire):=by
 have e:zgJ t.Wire=some (decide (t.Wire=0\/t.Wire=1\/t.Wire=2\/t.Wire=5)):=by
  unfold zgJ;by_cases h0:t.Wire=0
  ·simp [h0]
  by_cases h1:t.Wire=1
  ·simp [h1]
  by_cases h2:t.Wire=2
  ·simp [h2]
  by_cases h5:t.Wire=5
  ·simp [h5]
  simp [h0,h1,h2,h5]
 unfold zjX zck;rw [e];by_cases h1:1<=t.Number
 ·by_cases h2:t.Number<=536870911
  ·rw [itT (by simpa using h1),itT (by simpa using h2),sb,sb];simp [h1,h2]
  ·rw [itT (by simpa using h1),itF (by simpa using h2),sb];simp [h2]
 ·rw [itF (by simpa using h1),sb];simp [h1]
theorem zKk (w:Nat) (h:w<18446744073709551616):andI .u64 (w:Int) 7=((w%8:Nat):Int):=by
 have e:=zyL (k:= .u64) rfl (a:=w) (b:=7) (by simpa [IntKind.bits] using h) (by simp [IntKind.bits]);have e2:w&&&7=w%8:=ug w 3;rw [e2] at e;exact e
theorem zKF (w:Nat):shrI .u64 (w:Int) 3=((w/8:Nat):Int):=zqM (k:= .u64) (a:=w) (b:=3) (by simp [IntKind.bits])
theorem zGK (b:List UInt8):znU b=some ((⟨(tg b).1,(tg b).2.1⟩:zaq),(tg b).2.2.1,(tg b).2.2.2):=by
 obtain ⟨h1,h2,h3,h4,h5,h6,h7⟩:=zhf b;unfold znU tg;rw [ztA,sb];by_cases h:(rd b).2.2=0
 ·rw [itF (by simpa using h)];obtain ⟨w,hw⟩:∃w:Nat,(rd b).1=w:=⟨(rd b).1.toNat,by omega⟩;rw [hw] at h2|-;rw [zKF,zKk w (by omega)];have e0:i64.wrap ((w%8:Nat):Int)=(w:Int)%8:=by rw [uq];omega
  by_cases hg:4294967295<w
  ·have e1:i64.wrap (if (536870912:Int)<((w/8:Nat):Int) then 536870912 else ((w/8:Nat):Int))=536870912:=by
    split
    ·rfl
    ·rw [uq];omega
   rw [e0,e1,zoO,sb];have e2:zck 536870912 ((w:Int)%8)=false:=by simp [zck]
   simp only [e2];rw [uj,zvh h (.inl (by rw [hw];omega))]
  ·have e1:i64.wrap (if (536870912:Int)<((w/8:Nat):Int) then 536870912 else ((w/8:Nat):Int))=(w:Int)/8:=by
    rw [xt (by omega),uq];omega
   rw [e0,e1,zoO,sb];simp only;cases ht:zck ((w:Int)/8) ((w:Int)%8)
   ·rw [uj,zvh h (.inr (by rw [hw];exact ht))]
   ·rw [uk,zBQ h (by rw [hw,ht];simp;omega),hw]
 ·rw [itT (by simpa using h),zDo h]
theorem zJZ {t:zaq} (h:zck t.Number t.Wire=true):znV t=some ((tW t.Number t.Wire:Nat):Int):=by
 have hr:=zdN.1 h;obtain ⟨e,v8⟩:=zvg h;unfold znV;congr 1;obtain ⟨n,hn⟩:∃n:Nat,t.Number=n:=⟨t.Number.toNat,by omega⟩;obtain ⟨w,hw⟩:∃w:Nat,t.Wire=w:=⟨t.Wire.toNat,by omega⟩;have e3:tW t.Number t.Wire=8*n+w:=by omega
 rw [e3,hn,hw,wrap_u64,wrap_u64,qe (by omega) (by omega),qe (by omega) (by omega)];have e4:shlI .u64 (n:Int) 3=((n*8:Nat):Int):=by
  have h3:shlI .u64 (n:Int) 3=((n*8%18446744073709551616:Nat):Int):=by
   simp [shlI,IntKind.bits,wrap_u64]
  rw [h3,qr (by omega)]
 rw [e4,zts rfl (by simp [IntKind.bits];omega) (by simp [IntKind.bits];omega),pt,zuI w n 3 (by omega)];congr 1;omega
theorem zIj {t:zaq} (b:List UInt8) (hb:b.length<=1099511627776) (h:zck t.Number t.Wire=true):zmC b t=some (b++enc (tW t.Number t.Wire),0):=by
 obtain ⟨_,v8⟩:=zvg h;unfold zmC;rw [zoO,sb,h,uk,zJZ h,sb,zBE b (by omega) hb,sb]
theorem zIk {t:zaq} (b:List UInt8) (h:zck t.Number t.Wire=false):zmC b t=some ([],2):=by
 unfold zmC;rw [zoO,sb,h,uj]
theorem zDl (hw:w=0\/w=1\/w=2\/w=5) (hb:b.length<=1048576):
  zhg w b=some (match zeC w 0 b with| .inl c=>(0,(if w=0 then (rd b).2.1 else 0),c)| .inr (a,t)=>((a:Int),(t:Int),0)):=by
 obtain ⟨h1,h2,h3,h4,h5,h6,h7⟩:=zhf b;unfold zhg zeC;rcases hw with rfl| rfl| rfl| rfl
 ·rw [uj,zDk,sb,xu rfl];by_cases h:(rd b).2.2=0
  ·rw [xt (by simpa using h)];simp only [h,xQ];congr 3;simp;omega
  ·rw [xu h];rfl
 ·rw [uk,uj,sb,uk,xt (show ¬((1:Int)=0) by omega),xt (show ¬((1:Int)=2) by omega)];simp only;have e:u64.wrap (i64.wrap ((b.length:Int) - 0))=(b.length:Int):=by rw [uq,wrap_u64];omega
  rw [e];by_cases g:b.length<8
  ·rw [uo,xu (by simpa using g)];rfl
  ·rw [up,xt (by simpa using g)];rfl
 ·rw [uk,uk,uk,uj,ztA,sb,sb,xt (show ¬((2:Int)=0) by omega),xu (show (2:Int)=2 from rfl)];by_cases h:(rd b).2.2=0
  ·have hk:=h7 h;rw [itF (by simpa using h),xt (show ¬((rd b).2.2≠0) from fun g=>g h)];simp only;have e:u64.wrap (i64.wrap ((b.length:Int) - (rd b).2.1))=(b.length:Int) - (rd b).2.1:=by rw [uq,wrap_u64];omega
   rw [e];by_cases g:(b.length:Int) - (rd b).2.1<(rd b).1
   ·rw [itT (by simpa using g),xu g];rfl
   ·rw [itF (by simpa using g),xt g,zJ (x:=(rd b).1) (by omega),uq];simp;omega
  ·rw [itT (by simpa using h),xu h];rfl
 ·rw [uk,uk,uj,sb,uk,xt (show ¬((5:Int)=0) by omega),xt (show ¬((5:Int)=2) by omega)];simp only;have e:u64.wrap (i64.wrap ((b.length:Int) - 0))=(b.length:Int):=by rw [uq,wrap_u64];omega
  rw [e];by_cases g:b.length<4
  ·rw [uo,xu (by simpa using g)];rfl
  ·rw [up,xt (by simpa using g)];rfl
theorem zyS (w:Int) (k:Nat) (m:List UInt8):zeC w k m=match zeC w 0 m with| .inl c=> .inl c| .inr (a,t)=> .inr (k+a,k+t):=by
 unfold zeC
 repeat' split
 all_goals first
  | rfl
  | (rename_i h1 h2;injection h2 with h3;injection h3 with h4 h5;subst h4 h5;simp<;>omega)
  | simp_all<;>omega
theorem zyj (hb:b.length<=1048576) (at5:Int):zgg b at5=some (zeJ b at5):=by
 unfold zgg zeJ;by_cases h:at5<0\/at5>=b.length
 ·rw [itT (by simpa using h),xu h];rfl
 ·rw [itF (by simpa using h),xt h];obtain ⟨p,rfl⟩:∃p:Nat,at5=p:=⟨at5.toNat,by omega⟩;rw [zpY rfl rfl (by omega),sb,zGK,sb,xH];have hdl:(b.drop p).length=b.length - p:=by simp
  rcases zAr (b.drop p) with ⟨c,ht,hc⟩| ⟨n,w,k,ht,hr,k1,k2,k3,hrd⟩
  ·have e:rec5 (b.drop p)= .inl c:=by unfold rec5;rw [ht,xu (by simp only;omega)]
   rw [e,ht,uo];rfl
  ·obtain ⟨k,rfl⟩:∃j:Nat,k=j:=⟨k.toNat,by omega⟩
   have e:rec5 (b.drop p)=match zeC w k ((b.drop p).drop k) with
    | .inl c=> .inl c
    | .inr p=> .inr (n,w,p.1,p.2):=by unfold rec5;rw [ht];simp<;>rfl
   have hdd:(b.drop p).drop k=b.drop (p+k):=by rw [yu]
   have hml:(b.drop (p+k)).length=b.length - (p+k):=by simp
   have ew:i64.wrap ((p:Int)+k)=((p+k:Nat):Int):=by rw [uq];push_cast;rfl
   rw [e,ht,ul,hdd];simp only [ew];rw [zpY rfl rfl (by omega),sb,zDl (zdN.1 hr).2.2 (by omega),sb,zyS w k];rcases ziL w 0 (b.drop (p+k)) with ⟨c,hc,hc2⟩| ⟨a,t,hc,_,_,hle,_⟩
   ·rw [hc];simp only;rw [uo];rfl
   ·rw [hc];simp only;rw [uk,uq,uq];simp only [ye,yx,zq.mk.injEq,yV,qI];push_cast;omega
theorem zHp {w:Int} {v:List UInt8} (hw:w=0\/w=1\/w=2\/w=5) (hv:v.length<=1048576):ziV w v=some (zcB w v):=by
 obtain ⟨h1,h2,h3,h4,h5,h6,h7⟩:=zhf v;unfold ziV;by_cases h:w=2
 ·rw [itT (by simpa using h)];subst h;rfl
 ·rw [itF (by simpa using h),zDl hw hv,sb];unfold zeC zcB;congr 1;rcases hw with rfl| rfl| rfl| rfl
  ·rw [xu rfl,xu rfl];by_cases hg:(rd v).2.2=0
   ·rw [xt (by simpa using hg)];have e:(((0+(rd v).2.1.toNat:Nat):Int)==(v.length:Int))=decide ((rd v).2.1=v.length):=by rw [zCg];exact decide_eq_decide.2 (by omega)
    simp only [e,hg,yV];rfl
   ·rw [xu hg];simp [hg]
  ·by_cases g:v.length<8
   ·have:v.length≠8:=by omega
    simp [g,this]
   ·by_cases g8:v.length=8
    ·simp [g8]
    ·have:¬((8:Int)=v.length):=by omega
     simp [g,g8,this]
  ·exact absurd rfl h
  ·by_cases g:v.length<4
   ·have:v.length≠4:=by omega
    simp [g,this]
   ·by_cases g8:v.length=4
    ·simp [g8]
    ·have:¬((4:Int)=v.length):=by omega
     simp [g,g8,this]
theorem zGf {n w:Int} {v:List UInt8} (h:zck n w=true) (hv:v.length<=1048576):(put5 n w v).length<=v.length+20:=by
 obtain ⟨_,v8⟩:=zvg h;have h1:=zli (v:=tW n w) (by omega);have h2:=zli (v:=v.length) (by omega);rw [ziU];split<;>omega
theorem zDi {b v:List UInt8} {n w:Int} (hb:b.length<=1048576) (hv:v.length<=1048576):
  zir b n w v=some (if zck n w=true/\zcB w v=true then (b++put5 n w v,0) else ([],2)):=by
 unfold zir;cases h:zck n w
 ·rw [zIk [] h,sb,uj,sb,uj];rfl
 ·have hp:=zGf h hv;rw [zIj [] (by simp) h,sb,uk,zHp (zdN.1 h).2.2 hv,sb,sb];cases hf:zcB w v
  ·rw [uj];rfl
  ·rw [uk];have e:u64.wrap (v.length:Int)=(v.length:Int):=by rw [wrap_u64,qe (by omega) (by omega)]
   obtain ⟨_,v8⟩:=zvg h;have h1:=zli (v:=tW n w) (by omega);by_cases hw:w=2
   ·have hl:=ziU n w v;rw [xu hw] at hl;rw [itT (by simpa using hw),e,zBE _ (by omega) (by simp;omega),sb,zly (by simp) (by simp;omega),sb];simp [put5,hw]
   ·have hl:=ziU n w v;rw [xt hw] at hl;rw [itF (by simpa using hw),zly (by simp) (by simp;omega),sb];simp [put5,hw]
theorem zHX {b v:List UInt8} {n:Int} (hb:b.length<=1048576) (hv:v.length<=1048576):
  zkt b n v=some (if zck n 2=true then b++put5 n 2 v else b):=by
 unfold zkt;rw [zDi hb hv,sb];have hf:zcB 2 v=true:=rfl;simp only [hf,qI];cases h:zck n 2
 ·rw [xt (show ¬(false=true) by simp),xt (show ¬(false=true) by simp),uj,zly (by simp) (by simp;omega),sb];simp
 ·rw [xu rfl,xu rfl,uk]
abbrev Head:=zQ
abbrev Role:=zT
def rol (m:Mes) (h:Head):Role:=match vw m h.number h.wire with
 | .inl c=>⟨0,false,c⟩
 | .inr (i,run)=>⟨i,run,0⟩
theorem zEF (hm:m.Fields.length<=1152921504606846976) (n:Int):zkI m n=some (fldI m n):=by
 unfold zkI zaA;have h:=zrt (fun f:Fld=>f.Number==n) m.Fields (fun i=>zX m.Fields n i) (zbv (by unfold zG;rw [ul])) (fun i hi=>by
  by_cases hp:(m.Fields[i].Number==n)=true
  ·rw [xu hp];exact zbv (by unfold zG zhQ;rw [uo,zaf rfl hi,sb,sb,itT hp])
  ·rw [xt hp];exact zdg (by unfold zG zhQ;rw [uo,zaf rfl hi,sb,sb,itF (q9 hp),uq];rfl)) m.Fields.length 0 (by omega) (fun j _ h=>by omega)
 have h':zX m.Fields n 0=_:=h;rw [h',sb];unfold fldI zih;cases m.Fields.findIdx? (fun f:Fld=>f.Number==n) with
 | none=>rfl
 | some i=>rfl
theorem zEG (f:Fld) (w:Int):zkJ f w=some (decide (f.Repeated=true/\kNum f.Kind=true/\w=2)):=by
 unfold zkJ;cases f.Repeated
 ·simp [sb]
 ·by_cases hw:w=2
  ·subst hw;rw [itT rfl,itT (c:=(2:Int)==2) rfl,zuo,sb,sb];cases kNum f.Kind<;>rfl
  ·rw [itT rfl,itF (by simpa using hw),sb];simp [hw]
theorem zGQ (k w:Int):zme k w=some (decide (¬(zbL k=false\/zaW k≠w))):=by
 unfold zme;rw [zzF,sb];cases zbL k with
 | false=>rfl
 | true=>
  by_cases h:zaW k=w<;>simp [h]
theorem zBW (hm:m.Fields.length<=1152921504606846976) (h:Head):zho m h=some (rol m h):=by
 unfold zho rol;rw [zEF hm,sb];unfold vw;rcases zdM m h.number with ⟨hf,_⟩| ⟨i,hi,hf,_⟩
 ·rw [hf,uj,xu (by decide)]
 ·rw [hf,ul,xt (by omega),zaf rfl hi,sb,zcQ hi,zEG,sb];by_cases h1:(m.Fields[i]).Repeated=true/\kNum (m.Fields[i]).Kind=true/\h.wire=2
  ·rw [xu h1,xN h1];rfl
  ·rw [xt h1,ya h1,uj,zGQ,sb,sb];by_cases h2:zbL (m.Fields[i]).Kind=false\/zaW (m.Fields[i]).Kind≠h.wire
   ·rw [xu h2,itT (by rw [ya (fun g=>g h2)];rfl)]
   ·rw [xt h2,itF (by rw [xN h2];rfl)]
def zmF (m:Mes) (met:List (Head×Role)):Prop:=∀h x,mget met h=some x->x=rol m h
theorem zmF.nil (m:Mes):zmF m []:=fun h x g=>by cases g
theorem zmF.put (g:zmF m met) (h:Head):zmF m (mput met h (rol m h)):=fun j x hx=>by
 rw [zhd] at hx;by_cases e:j=h
 ·rw [xu e] at hx;rw [e];exact (yU hx).symm
 ·rw [xt e] at hx;exact g j x hx
theorem zuv (hm:m.Fields.length<=1152921504606846976) (hb:b.length<=1048576) (p:Int) (g:zmF m met):
  ∃wo,zjZ m b p met=some (prV (zet m b p).1,(zet m b p).2,wo)/\zmF m wo:=by
 unfold zjZ zet;rw [zyj hb,sb];by_cases h:(zeJ b p).2=0
 ·rw [itF (by simpa using h),xt (show ¬((zeJ b p).2≠0) from fun q=>q h)]
  generalize (zeJ b p).1=r
  have key:∃wo,(if (!(mget met (⟨r.Number,r.Wire⟩:Head)).isSome) then (zho m (⟨r.Number,r.Wire⟩:Head)>>=fun vY=>some ((mput met (⟨r.Number,r.Wire⟩:Head) vY),vY.field,vY.run,vY.e))
    else some (met,((mget met (⟨r.Number,r.Wire⟩:Head)).getD (⟨0,false,0⟩:Role)).field,((mget met (⟨r.Number,r.Wire⟩:Head)).getD (⟨0,false,0⟩:Role)).run,((mget met (⟨r.Number,r.Wire⟩:Head)).getD (⟨0,false,0⟩:Role)).e))=some (wo,(rol m ⟨r.Number,r.Wire⟩).field,(rol m ⟨r.Number,r.Wire⟩).run,(rol m ⟨r.Number,r.Wire⟩).e)/\zmF m wo:=by
   cases hg:mget met (⟨r.Number,r.Wire⟩:Head) with
   | none=>
    rw [uj,zBW hm,sb];exact ⟨_,rfl,g.put _⟩
   | some x=>
    rw [uk];refine ⟨met,?_,g⟩;rw [<-g _ x hg];rfl
  obtain ⟨wo,hk,hM⟩:=key;refine ⟨wo,?_,hM⟩;rw [hk,sb];unfold rol;rcases zgo m r.Number r.Wire with hv| ⟨hv,_⟩| ⟨i,run,hv,_⟩
  ·simp only [hv];rfl
  ·simp only [hv];rfl
  ·simp only [hv];rfl
 ·rw [itT (by simpa using h),xu h];exact ⟨met,rfl,g⟩
theorem zGR (hm:m.Fields.length<=1152921504606846976) (hb:b.length<=1048576) (p:Int):zmd m b p=some (prV (zet m b p).1,(zet m b p).2):=by
 obtain ⟨wo,h,_⟩:=zuv hm hb p (zmF.nil m);unfold zmd;rw [h,sb]
theorem zEC (hm:m.Fields.length<=1152921504606846976) (hb:b.length<=1048576) (base:Nat) (l:List UInt8):∀(out:List Vw) (met:List (Head×Role)),base<=b.length->l=b.drop base->out.length<=base->zmF m met->
  zgn b m (out.map prV) met base=some (match (vws m (spl base l).2 (spl base l).1).2 with| none=> .inl ((out++(vws m (spl base l).2 (spl base l).1).1).map prV)| some (p,c)=> .inr (p,c)):=by
 refine ziG (fun base l=>∀(out:List Vw) (met:List (Head×Role)),base<=b.length->l=b.drop base->out.length<=base->zmF m met->
  zgn b m (out.map prV) met base=some (match (vws m (spl base l).2 (spl base l).1).2 with| none=> .inl ((out++(vws m (spl base l).2 (spl base l).1).1).map prV)| some (p,c)=> .inr (p,c))) ?_ ?_ ?_ base l
 ·intro base out met hbase hl ho hM;have:b.length<=base:=by have:=congrArg List.length hl;simp at this;omega
  rw [zfD];simp only [vws,pP,yw];refine zjp ?_;unfold zde;rw [up]
 ·intro base l c hl h hc out met hbase hld ho hM;subst hld;have v8:base<b.length:=by have:=qz.2 hl;simp at this;omega
  rw [zhN hl h];simp only [vws,qu];refine zjp ?_;unfold zde;have e:zeJ b base=(zrec,c):=by unfold zeJ;rw [xt (by omega),xH,h]
  have e2:zet m b base=(zvw,c):=by unfold zet;rw [e,xu (by simp only;omega)]
  obtain ⟨wo,hk,_⟩:=zuv hm hb base hM;rw [uo,hk,sb,e2,uo]
 ·intro base l n w a t hl h _ g1 g2 g3 ih out met hbase hld ho hM;subst hld;simp only [yf] at g3;have v8:base<b.length:=by omega
  rw [zeo hl h];have e:zeJ b base=(⟨n,w,base,(base+a:Nat),(base+t:Nat)⟩,0):=by
   unfold zeJ;rw [xt (by omega),xH,h];push_cast;rfl
  rw [vws];obtain ⟨wo,hk,hM'⟩:=zuv hm hb base hM;rcases zgo m n w with hv| ⟨hv,_⟩| ⟨i,run,hv,_,hi⟩
  ·have e2:zet m b base=(zvw,6):=by unfold zet;rw [e];simp only [ne_eq,qg,yN,hv]
   simp only [hv];refine zjp ?_;unfold zde;rw [uo,hk,sb,e2,uj]
  ·have e2:zet m b base=(⟨⟨n,w,base,(base+a:Nat),(base+t:Nat)⟩, -1,false⟩,0):=by unfold zet;rw [e];simp only [ne_eq,qg,yN,hv]
   simp only [hv];refine (zmO (l':=(out++([⟨⟨n,w,base,(base+a:Nat),(base+t:Nat)⟩, -1,false⟩]:List Vw)).map prV) (wo:=wo) (fromv':=((base+t:Nat):Int)) ?_).trans ?_
   ·unfold zde;rw [uo,hk,sb,e2,uk,zhw (by simp;omega),sb,yA];rfl
   ·rw [ih _ wo (by omega) (by rw [yu]) (by simp;omega) hM'];simp only [ym,py]
  ·have e2:zet m b base=(⟨⟨n,w,base,(base+a:Nat),(base+t:Nat)⟩,i,run⟩,0):=by unfold zet;rw [e];simp only [ne_eq,qg,yN,hv]
   simp only [hv];refine (zmO (l':=(out++([⟨⟨n,w,base,(base+a:Nat),(base+t:Nat)⟩,i,run⟩]:List Vw)).map prV) (wo:=wo) (fromv':=((base+t:Nat):Int)) ?_).trans ?_
   ·unfold zde;rw [uo,hk,sb,e2,uk,zhw (by simp;omega),sb,yA];rfl
   ·rw [ih _ wo (by omega) (by rw [yu]) (by simp;omega) hM'];simp only [ym,py]
theorem zIq (hm:m.Fields.length<=1152921504606846976) (hb:b.length<=1048576):zof m b=some ((zfq m b).1.map prV,(zfq m b).2.1,(zfq m b).2.2):=by
 unfold zof;have h:=zEC hm hb 0 b [] [] (xI _) rfl (xA _) (zmF.nil m);have h':zgn b m [] [] 0=_:=h;rw [h',sb];unfold zfq vwR;cases (vws m (spl 0 b).2 (spl 0 b).1).2 with
 | none=>rfl
 | some p=>rfl
theorem zIl (m:Mes) (b:List UInt8):(zfq m b).1.length<=b.length:=by
 rcases zsi m b with ⟨_,hn,e,_⟩| ⟨_,e⟩
 ·have h:=congrArg List.length (zvy hn).2;rw [yE] at h;rw [e,h];exact zId 0 b
 ·rw [e];simp
def zmM (m:Mes) (g:Int->List UInt8->Nat) (b:List UInt8) (r:Rec):Nat:=match vw m r.Number r.Wire with
 | .inl _=>0
 | .inr (i,run)=>if i<0\/run=true then 0 else if (zE m i).Kind=17 then g (zE m i).Of (valB b r)+1 else 0
def zkW (m:Mes) (g:Int->List UInt8->Nat) (b:List UInt8):List Rec->Nat
 | []=>0
 | r::l=>max (zmM m g b r) (zkW m g b l)
def zif (s:List Mes):Nat->Int->List UInt8->Nat
 | 0,k,b=>zkW (zx s k) (fun _ _=>0) b (spl 0 b).1
 | d+1,k,b=>zkW (zx s k) (zif s d) b (spl 0 b).1
theorem zqi :∀{l:List Rec},zkW m g b l<=e↔∀r∈l,zmM m g b r<=e
 | []=>by simp [zkW]
 | r::l=>by
  have ih:=zqi (m:=m) (g:=g) (b:=b) (e:=e) (l:=l);unfold zkW;rw [List.forall_mem_cons,<-ih];omega
theorem zoK (h:zcJ m a b r=none) (hc0:c=none↔e=0)
  (hc:∀q,a=some q->∀q',c=some q'->∀k v,q k v=none->(q' k v=none↔g k v+1<=e)):zcJ m c b r=none↔zmM m g b r<=e:=by
 unfold zcJ at h|-;unfold zmM;cases hv:vw m r.Number r.Wire with
 | inl x=>rw [hv] at h;cases h
 | inr p=>
  obtain ⟨i,run⟩:=p;rw [hv] at h;simp only at h|-;by_cases hi:i<0
  ·rw [xu hi,xu (.inl hi)];simp
  ·rw [xt hi] at h|-;unfold zgz at h|-;by_cases hr:run=true
   ·rw [xu hr] at h;rw [xu hr,xu (show i<0\/run=true from .inr hr)];exact ⟨fun _=>xI _,fun _=>h⟩
   ·rw [xt hr] at h|-;rw [xt (show ¬(i<0\/run=true) from fun q=>q.elim hi hr)];by_cases h15:(zE m i).Kind=15/\zfB (valB b r)=false
    ·rw [xu h15] at h;cases h
    ·rw [xt h15] at h|-;by_cases wa:(zE m i).Kind=17
     ·rw [xu wa] at h|-;rw [xu wa];cases a with
      | none=>cases h
      | some q=>
       simp only at h;cases hq:q (zE m i).Of (valB b r) with
       | some z=>rw [hq] at h;cases h
       | none=>
        cases c with
        | none=>
         have:=hc0.1 rfl;simp only;exact ⟨(fun hh=>nomatch hh),(fun hh=>by omega)⟩
        | some q'=>
         have:=hc q rfl q' rfl _ _ hq;simp only;rw [<-this];cases q' (zE m i).Of (valB b r)<;>simp
     ·rw [xt wa,xt wa];simp
theorem zzb (s:List Mes):∀(d e:Nat) (k:Int) (b:List UInt8),e<=d->zai s d k b=none->(zai s e k b=none↔zif s d k b<=e)
 | 0,e,k,b,he,h=>by
  have:e=0:=by omega
  subst this;refine ⟨fun _=>zqi.2 (fun r hr=>?_),fun _=>h⟩;have h':=(zdE.1 h).1 r hr;exact (zoK (a:=none) (c:=none) h' (by simp) (fun q hq q' hq'=>nomatch hq')).1 h'
 | d+1,0,k,b,he,h=>by
  have h':zdf (zx s k) (some (zai s d)) b (spl 0 b)=none:=h;rw [zdE] at h';show zdf (zx s k) none b (spl 0 b)=none↔zkW _ _ _ _<=0;rw [zdE,zqi];constructor
  ·intro hh r hr;exact (zoK (a:=some (zai s d)) (c:=none) (h'.1 r hr) (by simp) (fun q hq q' hq'=>nomatch hq')).1 (hh.1 r hr)
  ·intro hh;exact ⟨fun r hr=>(zoK (a:=some (zai s d)) (c:=none) (h'.1 r hr) (by simp) (fun q hq q' hq'=>nomatch hq')).2 (hh r hr),h'.2⟩
 | d+1,e+1,k,b,he,h=>by
  have h':zdf (zx s k) (some (zai s d)) b (spl 0 b)=none:=h;rw [zdE] at h';show zdf (zx s k) (some (zai s e)) b (spl 0 b)=none↔zkW _ _ _ _<=e+1;rw [zdE,zqi];have key:∀r∈(spl 0 b).1,zcJ (zx s k) (some (zai s e)) b r=none↔zmM (zx s k) (zif s d) b r<=e+1:=fun r hr=>
   zoK (a:=some (zai s d)) (h'.1 r hr) (by simp) (fun q hq q' hq' k v hk=>by
    cases hq;cases hq';have:=zzb s d e k v (by omega) hk;rw [this];omega)
  exact ⟨fun hh r hr=>(key r hr).1 (hh.1 r hr),fun hh=>⟨fun r hr=>(key r hr).2 (hh r hr),h'.2⟩⟩
abbrev zib:=zm
def zfY (s:List Mes) (met:List (zib×PVw)):Prop:=∀h x,mget met h=some x->vw (zx s h.message) h.number h.wire= .inr (x.Field,x.Run)
theorem zfY.nil (s:List Mes):zfY s []:=fun h x g=>by cases g
theorem zfY.put (g:zfY s met) (hv:vw (zx s h.message) h.number h.wire= .inr (v.Field,v.Run)):zfY s (mput met h v):=fun j x hx=>by
 rw [zhd] at hx;by_cases e:j=h
 ·rw [xu e] at hx;cases hx;rw [e];exact hv
 ·rw [xt e] at hx;exact g j x hx
theorem zAK {s:List Mes} {k:Nat} (hk:k<s.length) (hm:(zx s k).Fields.length<=1152921504606846976) {b:List UInt8} (hb:b.length<=1048576) (p:Int) {t:Nat} (ht:t<=b.length) {met:List (zib×PVw)} (g:zfY s met):
  ∃wo,zfM ⟨s,b,met⟩ k p t=some (prV (zet (zx s k) (b.take t) p).1,(zet (zx s k) (b.take t) p).2,wo)/\zfY s wo:=by
 have hbt:(b.take t).length<=1048576:=by rw [yo];omega
 have hcut:cut b 0 (t:Int)=some (b.take t):=by
  rw [zhx (i:=0) (j:=t) rfl rfl (xI _) ht];simp
 have hidx:idx s (k:Int)=some (zx s k):=by rw [zaf rfl hk,zeI hk]
 have hvl:=zGR hm hbt p;unfold zfM;simp only;rw [hcut,sb,zyj hbt,sb];unfold zet at hvl|-;by_cases h:(zeJ (b.take t) p).2=0
 ·rw [itF (by simpa using h),xt (show ¬((zeJ (b.take t) p).2≠0) from fun q=>q h)];rw [xt (show ¬((zeJ (b.take t) p).2≠0) from fun q=>q h)] at hvl
  generalize (zeJ (b.take t) p).1=r at hvl|-
  cases hg:mget met (⟨(k:Int),r.Number,r.Wire⟩:zib) with
  | none=>
   rw [uj,hidx,sb,hvl,sb];cases hv:vw (zx s k) r.Number r.Wire with
   | inl c=>
    have hc:c=6:=by
     rcases zgo (zx s k) r.Number r.Wire with h'| ⟨h',_⟩| ⟨_,_,h',_⟩<;>rw [hv] at h'<;>cases h';rfl
    subst hc;exact ⟨met,by rw [uj];rfl,g⟩
   | inr q=>
    obtain ⟨i,run⟩:=q;refine ⟨_,?_,g.put (h:=⟨(k:Int),r.Number,r.Wire⟩) (v:=prV ⟨r,i,run⟩) hv⟩;rw [uk];rfl
  | some x=>
   have hv:=g _ _ hg;simp only at hv;rw [uk,hv];exact ⟨met,rfl,g⟩
 ·rw [itT (by simpa using h),xu h];exact ⟨met,rfl,g⟩
def znl (f:Fld) (run:Bool) (v:List UInt8):Int:=if run=true then (zkT f.Kind v).2 else if f.Kind=15/\zfB v=false then 7 else if f.Kind=17 then 8 else 0
theorem zEE (f:Fld) (run:Bool) (hv:v.length<=1048576):zjh f run v=some (znl f run v):=by
 unfold zjh znl;cases run
 ·rw [itF (c:=false) rfl,xt (show ¬(false=true) by simp)];have e15:(if (f.Kind==15)=true then (ziA v>>=fun vY=>some (!vY)) else some false)=some (decide (f.Kind=15/\zfB v=false)):=by
   rw [zsb (by omega),sb];by_cases h15:f.Kind=15
   ·rw [itT (by simpa using h15)];cases zfB v<;>simp [h15]
   ·rw [itF (by simpa using h15)];simp [h15]
  rw [e15,sb];by_cases h15:f.Kind=15/\zfB v=false
  ·rw [itT (xN h15),xu h15]
  ·rw [itF (ya h15),xt h15];by_cases wa:f.Kind=17
   ·rw [itT (by simpa using wa),xu wa]
   ·rw [itF (by simpa using wa),xt wa]
 ·rw [itT (c:=true) rfl,xu (show true=true from rfl),zEj _ hv,sb];unfold zbt zkT;split
  ·rfl
  ·split<;>rfl
abbrev Find:=zz
def okR (o:Option (Int×Int)) (a dp:Nat) (r:Find):Prop:=match o with
 | none=>r=⟨(dp:Int),0,0⟩
 | some (p,c)=>r.place=(a:Int)+p/\r.e=c
def zvf (s:List Mes):Nat->zjr
 | 0=>none
 | d+1=>some (zai s d)
def zro (s:List Mes):Nat->Int->List UInt8->Nat
 | 0=>fun _ _=>0
 | d+1=>zif s d
theorem zDG (s:List Mes) (d:Nat) (k:Int) (b:List UInt8):zai s d k b=zdf (zx s k) (zvf s d) b (spl 0 b):=by cases d<;>rfl
theorem zHk (s:List Mes) (d:Nat) (k:Int) (b:List UInt8):zif s d k b=zkW (zx s k) (zro s d) b (spl 0 b).1:=by cases d<;>rfl
theorem zGE (s:List Mes) (d:Nat):∀g,zvf s d=some g->ztE g:=fun g h=>by
 cases d with
 | zero=>cases h
 | succ d=>cases h;exact zmo s d
theorem zHR (b:List UInt8) (t a x y:Nat) (h:a+y<=t):(((b.take t).drop a).drop x).take (y - x)=(b.take (a+y)).drop (a+x):=by
 rw [yu,qH,qH,pr];congr 1;omega
theorem zEJ {s:List Mes} {k:Nat} (hk:k<s.length) (hm:(zx s k).Fields.length<=1152921504606846976) {b:List UInt8} (hb:b.length<=1048576) {d:Int} {a t:Nat} (hat:a<=t) (ht:t<=b.length) {sub:zjr} {gd:Int->List UInt8->Nat}
  (hg:∀g,sub=some g->ztE g) {recv:zaw->Int->ze->Int->Option (zz×(List (zm×ze)))} {met0:List (zib×PVw)}
  (hval:∀met,zfY s met->∀(n w i:Int) (run:Bool) (base x y:Nat),vw (zx s k) n w= .inr (i,run)->1<=x->x<=y->a+base+y<=t->
   ∃R wo,recv ⟨s,b,met⟩ k ⟨⟨n,w,((a+base:Nat):Int),((a+(base+x):Nat):Int),((a+(base+y):Nat):Int)⟩,i,run⟩ d=some (R,wo)/\zfY s wo/\
    okR (zcJ (zx s k) sub ((b.take t).drop a) ⟨n,w,base,(base+x:Nat),(base+y:Nat)⟩) a (zmM (zx s k) gd ((b.take t).drop a) ⟨n,w,base,(base+x:Nat),(base+y:Nat)⟩) R)
  (base:Nat) (l:List UInt8):∀(met:List (zib×PVw)) (dp:Nat),zfY s met->l=((b.take t).drop a).drop base->base<=t - a->
  ∃wo D,zfY s wo/\zbQ d k recv t ⟨s,b,met0⟩ met ((a+base:Nat):Int) dp=some (match zdf (zx s k) sub ((b.take t).drop a) (spl base l) with
   | none=> .inl (wo,((max dp (zkW (zx s k) gd ((b.take t).drop a) (spl base l).1):Nat):Int))
   | some (p,c)=> .inr (wo,D,(a:Int)+p,c)):=by
 have hvl:((b.take t).drop a).length=t - a:=by simp;omega
 generalize hvv:(b.take t).drop a=v at hval hvl|-
 refine ziG (fun base l=>∀(met:List (zib×PVw)) (dp:Nat),zfY s met->l=v.drop base->base<=t - a->
  ∃wo D,zfY s wo/\zbQ d k recv t ⟨s,b,met0⟩ met ((a+base:Nat):Int) dp=some (match zdf (zx s k) sub v (spl base l) with
   | none=> .inl (wo,((max dp (zkW (zx s k) gd v (spl base l).1):Nat):Int))
   | some (p,c)=> .inr (wo,D,(a:Int)+p,c))) ?_ ?_ ?_ base l
 ·intro base met dp g hl hbase;have:v.length<=base:=by have:=congrArg List.length hl;simp at this;omega
  refine ⟨met,0,g,?_⟩;rw [zfD];refine zdh ?_;unfold zaG;rw [up];simp [zdf,zkW]
 ·intro base l c hl h hc met dp g hld hbase;have v8:a+base<t:=by have:=qz.2 hl;rw [hld] at this;simp at this;omega
  have hdr:(b.take t).drop (a+base)=l:=by rw [hld,<-hvv,yu]
  have e:zeJ (b.take t) ((a+base:Nat):Int)=(zrec,c):=by unfold zeJ;rw [xt (by simp;omega),xH,hdr,h]
  have e2:zet (zx s k) (b.take t) ((a+base:Nat):Int)=(zvw,c):=by unfold zet;rw [e,xu (by simp only;omega)]
  obtain ⟨wo,hlk,g'⟩:=zAK hk hm hb ((a+base:Nat):Int) ht g;refine ⟨wo,0,g',?_⟩;rw [zhN hl h];refine zdh ?_;unfold zaG;simp only;rw [uo,hlk,sb,e2,uo];simp [zdf]
 ·intro base l n w x y hl h _ g1 g2 g3 ih met dp g hld hbase;have hly:base+y<=t - a:=by rw [hld] at g3;simp at g3;omega
  have hdr:(b.take t).drop (a+base)=l:=by rw [hld,<-hvv,yu]
  have e:zeJ (b.take t) ((a+base:Nat):Int)=(⟨n,w,((a+base:Nat):Int),((a+(base+x):Nat):Int),((a+(base+y):Nat):Int)⟩,0):=by
   unfold zeJ;rw [xt (by simp;omega),xH,hdr,h];have q1:((a+base:Nat):Int)+x=((a+(base+x):Nat):Int):=by omega
   have q2:((a+base:Nat):Int)+y=((a+(base+y):Nat):Int):=by omega
   simp only [q1,q2]
  obtain ⟨wo,hlk,g'⟩:=zAK hk hm hb ((a+base:Nat):Int) ht g
  have hfr:zdf (zx s k) sub v (spl base l)=match zcJ (zx s k) sub v ⟨n,w,base,(base+x:Nat),(base+y:Nat)⟩ with
    | some p=>some p
    | none=>zdf (zx s k) sub v (spl (base+y) (l.drop y)):=by
   unfold zdf;rw [zeo hl h];simp only [List.findSome?_cons];cases zcJ (zx s k) sub v ⟨n,w,base,(base+x:Nat),(base+y:Nat)⟩<;>rfl
  have hfd:zkW (zx s k) gd v (spl base l).1=max (zmM (zx s k) gd v ⟨n,w,base,(base+x:Nat),(base+y:Nat)⟩) (zkW (zx s k) gd v (spl (base+y) (l.drop y)).1):=by
   rw [zeo hl h];rfl
  cases hv:vw (zx s k) n w with
  | inl c=>
   have hc:c=6:=by
    rcases zgo (zx s k) n w with h'| ⟨h',_⟩| ⟨_,_,h',_⟩<;>rw [hv] at h'<;>cases h';rfl
   subst hc;have e2:zet (zx s k) (b.take t) ((a+base:Nat):Int)=(zvw,6):=by unfold zet;rw [e];simp only [ne_eq,qg,yN,hv]
   have hst:zcJ (zx s k) sub v ⟨n,w,base,(base+x:Nat),(base+y:Nat)⟩=some ((base:Int),6):=by unfold zcJ;simp only [hv]
   refine ⟨wo,0,g',?_⟩;rw [hfr,hst];refine zdh ?_;unfold zaG;simp only;rw [uo,hlk,sb,e2,uj];simp
  | inr q=>
   obtain ⟨i,run⟩:=q;have e2:zet (zx s k) (b.take t) ((a+base:Nat):Int)=(⟨⟨n,w,((a+base:Nat):Int),((a+(base+x):Nat):Int),((a+(base+y):Nat):Int)⟩,i,run⟩,0):=by unfold zet;rw [e];simp only [ne_eq,qg,yN,hv]
   obtain ⟨R,met2,hrv,g2',we⟩:=hval wo g' n w i run base x y hv g1 g2 (by omega);have hpr:prV (⟨⟨n,w,((a+base:Nat):Int),((a+(base+x):Nat):Int),((a+(base+y):Nat):Int)⟩,i,run⟩:Vw)=⟨⟨n,w,((a+base:Nat):Int),((a+(base+x):Nat):Int),((a+(base+y):Nat):Int)⟩,i,run⟩:=rfl;cases hst:zcJ (zx s k) sub v ⟨n,w,base,(base+x:Nat),(base+y:Nat)⟩ with
   | some pc=>
    obtain ⟨p,c⟩:=pc;have hgd:=zxl hg g1 g2 (b:=v) (base:=base) (by omega) hst;rw [hst] at we;obtain ⟨o1,o2⟩:=we;refine ⟨met2,R.depth,g2',?_⟩;rw [hfr,hst];refine zdh ?_;unfold zaG;simp only;rw [uo,hlk,sb,e2,uk,hpr,hrv,sb,itT (by rw [o2];simp;omega),o1,o2]
   | none=>
    rw [hst] at we;have hok':R=⟨((zmM (zx s k) gd v ⟨n,w,base,(base+x:Nat),(base+y:Nat)⟩:Nat):Int),0,0⟩:=we;obtain ⟨met3,D,g3',h3⟩:=ih met2 (max dp (zmM (zx s k) gd v ⟨n,w,base,(base+x:Nat),(base+y:Nat)⟩)) g2' (by rw [hld,yu]) hly;refine ⟨met3,D,g3',?_⟩;rw [hfr,hst,hfd,<-Nat.max_assoc,<-h3];refine zkP ?_;unfold zaG;simp only;rw [uo,hlk,sb,e2,uk,hpr,hrv,sb,hok',uk];simp only [ye,Sum.inl.injEq,yx,yV];split<;>omega
theorem zIx {s:List Mes} (hr:zfa s) {k:Nat} (hk:k<s.length) {b:List UInt8} (hb:b.length<=1048576) {d fuel:Nat} (hd:d<=64) {a t:Nat} (ht:t<=b.length)
  (ih:∀e,d=e+1->∀(q A T:Nat) (met:List (zib×PVw)),q<s.length->A<=T->T<=b.length->zfY s met->
   ∃R wo,zbg fuel ⟨s,b,met⟩ q A T e=some (R,wo)/\zfY s wo/\okR (zai s e q ((b.take T).drop A)) A (zif s e q ((b.take T).drop A)) R)
  (met:List (zib×PVw)) (g:zfY s met) (n w i:Int) (run:Bool) (base x y:Nat) (hv:vw (zx s k) n w= .inr (i,run)) (h1:1<=x) (h2:x<=y) (hy:a+base+y<=t):
  ∃R wo,zdm (fuel+1) ⟨s,b,met⟩ k ⟨⟨n,w,((a+base:Nat):Int),((a+(base+x):Nat):Int),((a+(base+y):Nat):Int)⟩,i,run⟩ d=some (R,wo)/\zfY s wo/\
    okR (zcJ (zx s k) (zvf s d) ((b.take t).drop a) ⟨n,w,base,(base+x:Nat),(base+y:Nat)⟩) a (zmM (zx s k) (zro s d) ((b.take t).drop a) ⟨n,w,base,(base+x:Nat),(base+y:Nat)⟩) R:=by
 have hidx:idx s (k:Int)=some (zx s k):=by rw [zaf rfl hk,zeI hk]
 have hun:∀w' v',zdm (fuel+1) w' k v' d=zdn (zbg fuel) (zdm fuel) w' k v' d:=fun _ _=>rfl
 have hvb:valB ((b.take t).drop a) ⟨n,w,base,(base+x:Nat),(base+y:Nat)⟩=(b.take (a+(base+y))).drop (a+(base+x)):=by
  unfold valB;simp only [xH];exact zHR b t a (base+x) (base+y) (by omega)
 rcases zgo (zx s k) n w with h'| ⟨h',_⟩| ⟨j,run',h',_,hi⟩
 ·rw [hv] at h';cases h'
 ·rw [hv] at h';obtain ⟨rfl,rfl⟩:i= -1/\run=false:=by simpa using h'
  refine ⟨⟨0,0,0⟩,met,?_,g,?_⟩
  ·rw [hun];unfold zdn;rw [uj]
  ·unfold zcJ zmM;simp only [hv];rw [xu (show ((-1:Int)<0) by omega),xu (.inl (show ((-1:Int)<0) by omega))];rfl
 ·rw [hv] at h';obtain ⟨rfl,rfl⟩:i=j/\run=run':=by simpa using h'
  have hfm:zE (zx s k) (j:Int)∈(zx s k).Fields:=by rw [zcQ hi];exact xF hi
  have hmem:zx s k∈s:=by rw [zeI hk];exact xF hk
  have ws:run=true->(zE (zx s k) (j:Int)).Kind≠17:=fun hh wa=>by
   subst hh;have:=(zBY hv).1;rw [wa] at this;cases this
  have hcut:cut b ((a+(base+x):Nat):Int) ((a+(base+y):Nat):Int)=some ((b.take (a+(base+y))).drop (a+(base+x))):=by
   rw [zhx rfl rfl (by omega) (by omega),qH]
  have wb:((b.take (a+(base+y))).drop (a+(base+x))).length<=1048576:=by simp;omega
  unfold zcJ zmM;simp only [hv];rw [xt (show ¬((j:Int)<0) by omega),hvb];have hif:(if ((j:Int)<0\/run=true) then 0 else if (zE (zx s k) (j:Int)).Kind=17 then zro s d (zE (zx s k) (j:Int)).Of ((b.take (a+(base+y))).drop (a+(base+x)))+1 else 0)=(if (zE (zx s k) (j:Int)).Kind=17 then zro s d (zE (zx s k) (j:Int)).Of ((b.take (a+(base+y))).drop (a+(base+x)))+1 else 0):=by
   cases run with
   | false=>rw [xt (by simp)]
   | true=>rw [xu (.inr rfl),xt (ws rfl)]
  rw [hif];simp only [hun];unfold zdn;simp only;rw [itF (show ((j:Int)== -1)=false by simp),hidx,sb,zaf (i:=j) rfl hi,sb,<-zcQ hi]
  generalize hvv:(b.take (a+(base+y))).drop (a+(base+x))=v at wb hcut|-
  have hof:=(hr.fld _ hmem _ hfm).sub
  generalize zE (zx s k) (j:Int)=f at hfm ws hof|-
  by_cases hs:f.Kind=17/\0<d
  ·obtain ⟨e,rfl⟩:∃e,d=e+1:=⟨d - 1,by omega⟩;have hrf:run=false:=by
    cases run with
    | false=>rfl
    | true=>exact absurd hs.1 (ws rfl)
   subst hrf;have hof':=hof hs.1;obtain ⟨q,hq⟩:∃q:Nat,f.Of=q:=⟨f.Of.toNat,by omega⟩;obtain ⟨R,wo,hR,g',we⟩:=ih e rfl q (a+(base+x)) (a+(base+y)) met (by omega) (by omega) (by omega) g;rw [hvv] at we;have hw1:i64.wrap (((e+1:Nat):Int) - 1)=(e:Int):=by rw [uq];omega
   refine ⟨⟨i64.wrap (R.depth+1),R.place,R.e⟩,wo,?_,g',?_⟩
   ·rw [itT (by simp [hs.1]),hw1,hq,hR,sb]
   ·rw [xu hs.1];unfold zgz;rw [xt (by simp),xt (by rw [hs.1];simp),xu hs.1];simp only [zvf,zro,hq];cases hf:zai s e q v with
    | none=>
     rw [hf] at we;have hok':R=⟨((zif s e q v:Nat):Int),0,0⟩:=we;have hdl:=(zzb s e e q v (xA _) hf).1 hf;subst hok';show (⟨i64.wrap (((zif s e q v:Nat):Int)+1),0,0⟩:Find)=_;rw [uq];rfl
    | some pc=>
     obtain ⟨p,c⟩:=pc;rw [hf] at we;obtain ⟨o1,o2⟩:=we;refine ⟨?_,o2⟩;simp only;rw [o1];push_cast;omega
  ·have hno:((f.Kind==17)&&decide (((d:Nat):Int)>0))=false:=by
    rw [Bool.and_eq_false_iff];by_cases wa:f.Kind=17
    ·exact .inr (ya (by have:=fun h=>hs ⟨wa,h⟩;omega))
    ·exact .inl (by simpa using wa)
   have hlf:zgz f run (zvf s d) ⟨n,w,base,(base+x:Nat),(base+y:Nat)⟩ v=if znl f run v≠0 then some ((base:Int),znl f run v) else none:=by
    unfold zgz znl;by_cases hrt:run=true
    ·rw [xu hrt,xu hrt]
    ·rw [xt hrt,xt hrt];by_cases h15:f.Kind=15/\zfB v=false
     ·rw [xu h15,xu h15,xu (by omega)]
     ·rw [xt h15,xt h15];by_cases wa:f.Kind=17
      ·have:d=0:=by have:=fun h=>hs ⟨wa,h⟩;omega
       subst this;rw [xu wa,xu wa,xu (by omega)];rfl
      ·rw [xt wa,xt wa,xt (by omega)]
   rw [itF hno,hcut,sb,zEE f run wb,sb,hlf];by_cases h0:znl f run v=0
   ·refine ⟨⟨0,0,0⟩,met,by rw [itF (by simpa using h0)],g,?_⟩;rw [xt (by simpa using h0)];have:f.Kind≠17:=fun wa=>by
     have hrf:run=false:=by
      cases run with
      | false=>rfl
      | true=>exact absurd wa (ws rfl)
     subst hrf;unfold znl at h0;rw [xt (by simp),xt (by rw [wa];simp),xu wa] at h0;omega
    rw [xt this];rfl
   ·refine ⟨⟨0,((a+base:Nat):Int),znl f run v⟩,met,by rw [itT (by simpa using h0)],g,?_⟩;rw [xu h0];exact ⟨by simp,rfl⟩
theorem zIs (hr:zfa s) (hb:b.length<=1048576):∀(d fuel:Nat),d<=64->2*d+2<=fuel->∀(q A T:Nat) (met:List (zib×PVw)),q<s.length->A<=T->T<=b.length->zfY s met->
   ∃R wo,zbg fuel ⟨s,b,met⟩ q A T d=some (R,wo)/\zfY s wo/\okR (zai s d q ((b.take T).drop A)) A (zif s d q ((b.take T).drop A)) R:=by
 have step:∀(d fuel:Nat),d<=64->(∀e,d=e+1->∀(q A T:Nat) (met:List (zib×PVw)),q<s.length->A<=T->T<=b.length->zfY s met->
   ∃R wo,zbg fuel ⟨s,b,met⟩ q A T e=some (R,wo)/\zfY s wo/\okR (zai s e q ((b.take T).drop A)) A (zif s e q ((b.take T).drop A)) R)->
   ∀(q A T:Nat) (met:List (zib×PVw)),q<s.length->A<=T->T<=b.length->zfY s met->
   ∃R wo,zbg (fuel+2) ⟨s,b,met⟩ q A T d=some (R,wo)/\zfY s wo/\okR (zai s d q ((b.take T).drop A)) A (zif s d q ((b.take T).drop A)) R:=by
  intro d fuel hd ih q A T met hq hAT hT g;have hun:∀w' k' p' t' d',zbg (fuel+2) w' k' p' t' d'=zdC (zbg (fuel+1)) (zdm (fuel+1)) w' k' p' t' d':=fun _ _ _ _ _=>rfl
  have hm:(zx s q).Fields.length<=1152921504606846976:=by
   rw [zeI hq];have:=hr.few _ (xF hq);omega
  obtain ⟨wo,D,g',hl⟩:=zEJ (s:=s) hq hm hb (d:=(d:Int)) hAT hT (sub:=zvf s d) (gd:=zro s d) (zGE s d) (recv:=zdm (fuel+1)) (met0:=met)
   (fun met1 g1 n w i run base x y hv h1 h2 hy=>zIx hr hq hb hd hT ih met1 g1 n w i run base x y hv h1 h2 hy) 0 _ met 0 g rfl (xI _)
  have hl':zbQ d q (zdm (fuel+1)) T ⟨s,b,met⟩ met (A:Int) 0=_:=hl;rw [hun,zDG,zHk];unfold zdC;simp only;rw [xR,Nat.zero_max] at hl';rw [hl',sb];cases hf:zdf (zx s q) (zvf s d) ((b.take T).drop A) (spl 0 ((b.take T).drop A)) with
  | none=>exact ⟨_,_,rfl,g',rfl⟩
  | some pc=>exact ⟨_,_,rfl,g',rfl,rfl⟩
 intro d
 induction d with
 | zero=>
  intro fuel hd hf;obtain ⟨fuel,rfl⟩:∃z,fuel=z+2:=⟨fuel - 2,by omega⟩;exact step 0 fuel hd (fun e he=>by omega)
 | succ d ih=>
  intro fuel hd hf;obtain ⟨fuel,rfl⟩:∃z,fuel=z+2:=⟨fuel - 2,by omega⟩;refine step (d+1) fuel hd (fun e he=>?_);obtain rfl:d=e:=by omega
  exact ih fuel (by omega) (by omega)
theorem zAB (hw:WS s) (root d:Int):ziB s root d=some (argS s root d):=by
 unfold ziB argS;rw [zAd hw,sb];cases h:zfX s
 ·rw [itT (c:= !false) rfl,xu (show false=false from rfl)]
 ·rw [itF (c:= !true) rfl,xt (show ¬(true=false) by simp)];by_cases h2:root<0\/root>=s.length\/d<0\/d>64
  ·rw [itT (by simpa using h2),xu h2]
  ·rw [up,xt h2]
theorem zHo (hw:WS s) (root:Int) (hb:b.length<=1048576) (d:Int) (hf:130<=fuel):
  ∃R,zkH fuel s root b d=some R/\R.place=(zeD s root b d).1/\R.e=(zeD s root b d).2/\((zeD s root b d).2=0->R.depth=((zif s d.toNat root b:Nat):Int)):=by
 unfold zkH zeD;rw [zAB hw,sb];by_cases h:argS s root d=0
 ·obtain ⟨hr,h1,h2,h3,h4⟩:=zom h;obtain ⟨k,rfl⟩:∃k:Nat,root=k:=⟨root.toNat,by omega⟩;obtain ⟨e,rfl⟩:∃k:Nat,d=k:=⟨d.toNat,by omega⟩;obtain ⟨R,wo,hR,_,we⟩:=zIs hr hb e fuel (by omega) (by omega) k 0 b.length [] (by omega) (xI _) (xA _) (zfY.nil s);have hR':zbg fuel ⟨s,b,[]⟩ k 0 (b.length:Int) e=some (R,wo):=hR;rw [pB,xR] at we;rw [itF (by simpa using h),xt (by simpa using h),hR',sb,xH];refine ⟨R,rfl,?_⟩;cases hfi:zai s e k b with
  | none=>
   rw [hfi] at we;have hok':R=⟨((zif s e k b:Nat):Int),0,0⟩:=we;subst hok';exact ⟨rfl,rfl,fun _=>rfl⟩
  | some pc=>
   obtain ⟨p,c⟩:=pc;rw [hfi] at we;obtain ⟨o1,o2⟩:=we;have:=zmo s e k b p c hfi;simp only [yP];refine ⟨by rw [o1];simp,o2,fun h0=>by omega⟩
 ·rw [itT (by simpa using h),xu h];exact ⟨_,rfl,rfl,rfl,fun h0=>absurd h0 h⟩
theorem zED (hw:WS s) (root:Int) (hb:b.length<=1048576) (d:Int) (hf:130<=fuel):zjg fuel s root b d=some (zeD s root b d):=by
 obtain ⟨R,hR,h1,h2,_⟩:=zHo hw root hb d hf;unfold zjg;rw [hR,sb,h1,h2]
theorem znf (hm:m.Fields.length<=140737488351232) (n:Int):zdc m n=some (match m.Fields.findIdx? (fun f=>f.Number==n) with| some i=>((i:Int),true)| none=>(0,false)):=by
 unfold zdc zbX zas;have h:=zrt (fun f:Fld=>f.Number==n) m.Fields (fun i=>zR m.Fields n i) (zbn (by unfold zA;rw [ul])) (fun i hi=>by
  by_cases hp:(m.Fields[i].Number==n)=true
  ·rw [xu hp];exact zbn (by unfold zA zeM;rw [uo,zaf rfl hi,sb,sb,itT hp])
  ·rw [xt hp];exact zcE (by unfold zA zeM;rw [uo,zaf rfl hi,sb,sb,itF (q9 hp),uq];rfl)) m.Fields.length 0 (by omega) (fun j _ h=>by omega)
 have h':zR m.Fields n 0=_:=h;rw [h',sb];cases m.Fields.findIdx? (fun f:Fld=>f.Number==n) with
 | none=>rfl
 | some i=>simp [sb];omega
theorem zkc {α:Type} (p:α->Bool) (l:List α) (F:Int->Option (Unit⊕Unit)) (h0:F (l.length:Int)=some (.inl ())) (hs:∀(i:Nat) (h:i<l.length),F (i:Int)=if p l[i]=true then F ((i+1:Nat):Int) else some (.inr ())):
  ∀(c i:Nat),i+c=l.length->F (i:Int)=some (if (l.drop i).all p=true then .inl () else .inr ())
 | 0,i,h=>by
  have e:l.drop i=[]:=yC (by omega);have hi:i=l.length:=by omega
  rw [e,hi,h0];simp
 | c+1,i,h=>by
  rw [hs i (by omega),yq (by omega),yI];cases hp:p l[i]
  ·rw [xt (by simp)];simp
  ·rw [xu rfl,xZ];exact zkc p l F h0 hs c (i+1) (by omega)
theorem zrU (hb:v.Words.length<=140737488351232/\v.Texts.length<=140737488351232/\v.Subs.length<=140737488351232):zdH v=some ((zci v:Nat):Int):=by
 unfold zdH zci;rw [zJ (x:=(v.Words.length:Int)+(v.Texts.length:Int)) (by omega),uq];push_cast;rfl
theorem zyO (hl:l.length<=1152921504606846976) (h:∀t∈l,t.length<=140737488351232):zgK l=some (l.all zfB):=by
 unfold zgK;have h1:=zkc zfB l (fun i=>zeh l i) (by
   refine zjc ?_;unfold zch;rw [ul])
  (fun i hi=>by
   have hx:=h _ (xF hi);have e:lenO l[i]=some l[i]:=by unfold lenO;rw [xu (by omega)]
   cases hp:zfB l[i]
   ·rw [xt (by simp)];refine zjc ?_;unfold zch;rw [uo,zaf rfl hi,sb,e,sb,zsb (by omega),sb,hp,uj]
   ·rw [xu rfl];refine zoa ?_;unfold zch;rw [uo,zaf rfl hi,sb,e,sb,zsb (by omega),sb,hp,uk,uq];push_cast;rfl)
  l.length 0 (xQ _)
 have h1':zeh l 0=_:=h1;rw [h1',sb,xR];cases l.all zfB<;>rfl
theorem zyN (hl:l.length<=1152921504606846976) (h:∀w∈l,0<=w/\w<=18446744073709551615):zeP k l=some (l.all fun w=>kNum k&&zbB k w==w):=by
 unfold zeP;have h1:=zkc (fun w=>kNum k&&zbB k w==w) l (fun i=>zcG k l i) (by
   refine zeV ?_;unfold zbd;rw [ul])
  (fun i hi=>by
   have hx:=h _ (xF hi);cases hk:kNum k
   ·rw [yK,xt (by simp)];refine zeV ?_;unfold zbd;rw [uo,zaf rfl hi,sb,zjR k hx,sb,hk,uj]
   ·rw [xZ];by_cases hp:zbB k l[i]=l[i]
    ·rw [xu (by simpa using hp)];refine zlr ?_;unfold zbd;rw [uo,zaf rfl hi,sb,zjR k hx,sb,hk,itF (by simp [hp]),uq];push_cast;rfl
    ·rw [xt (by simpa using hp)];refine zeV ?_;unfold zbd;rw [uo,zaf rfl hi,sb,zjR k hx,sb,hk,itT (by simp [hp])])
  l.length 0 (xQ _)
 have h1':zcG k l 0=_:=h1;rw [h1',sb,xR];cases l.all (fun w=>kNum k&&zbB k w==w)<;>rfl
theorem zFv (hm:m.Fields.length<=140737488351232) (hu:u.length<=1048576):zgk m u=some (unkR m u):=by
 unfold zgk unkR;have e:lenO u=some u:=by unfold lenO;rw [xu (by omega)]
 rw [e,sb,zyj hu,sb]
 generalize zeJ u 0=r
 by_cases c1:r.2=0
 ·by_cases c2:r.1.To=(u.length:Int)
  ·rw [itF (by simp [c1,c2]),znf hm,sb];have hf:fldI m r.1.Number=zih (fun f:Fld=>f.Number==r.1.Number) m.Fields:=rfl;rw [hf];cases h:m.Fields.findIdx? (fun f:Fld=>f.Number==r.1.Number) with
   | none=>rw [zkU h];simp [c1,c2]
   | some i=>rw [zkV h];simp [c1,c2]
  ·rw [itT (by simp [c2])];simp [c2]
 ·rw [itT (by simp [c1])];simp [c1]
theorem zxC {α:Type} {p:α->Bool} (h:∀x,p x=false) (l:List α):l.all p=l.isEmpty:=by
 cases l with
 | nil=>rfl
 | cons x l=>rw [yI,h];rfl
theorem znp {α:Type} (l:List α):l.isEmpty=decide (l.length=0):=by cases l<;>simp
theorem zAt {s:List Mes} (hs:zfa s):∀(fuel:Nat),(∀(x:Msg) (k:Nat),k<s.length->2*szM x<fuel->bdM x->smM x->zcU fuel s k x=some (zaN s x k))/\
  (∀(v:Vlu) (f:Fld),2*szV v<fuel->bdV v->smV v->zhl fuel f s v=some (zhU s v f))/\
  ∀(l:List Msg) (k:Int),2*szMs l+1<fuel->l.length<=1152921504606846976->bdMs l->smMs l->zfl fuel s k l=some (decide (0<=k/\k<s.length)&&l.all fun x=>zaN s x k)
 | 0=>⟨fun x k _ h=>by omega,fun v f h=>by omega,fun l k h=>by omega⟩
 | fuel+1=>by
  obtain ⟨ih1,ih2,ih3⟩:=zAt hs fuel;have wb:=hs.len;refine ⟨fun x k hk wh hb hsm=>?_,fun v f wh hb hsm=>?_,fun l k wh hl hb hsm=>?_⟩
  ·obtain ⟨b1,⟨b2,b3⟩,b4⟩:=(zgP x).1 hb;obtain ⟨s1,⟨s2,s3⟩,s4⟩:=(zpJ x).1 hsm;rw [zcg] at wh;show zfm (zfl fuel) (zhl fuel) (zcU fuel) s k x=_;unfold zfm;rw [zjU,xN (show (0:Int)<=(k:Int)/\(k:Int)<(s.length:Int) by omega),xZ];have hm:idx s (k:Int)=some (zx s k):=by rw [zaf rfl hk,zeI hk]
   have hmm:zx s (k:Int)∈s:=by rw [zeI hk];exact xF hk
   have hfew:=hs.few _ hmm;have hfld:=hs.fld _ hmm
   generalize zx s (k:Int)=m at hm hmm hfew hfld|-
   rw [hm,sb];have hv:∀(c i:Nat) (p:Option Int) (last:Int),i+c=x.Values.length->(p=none/\last=0\/p=some last)->zdI (zhl fuel) s x m last i=some (if zeK s (x.Values.drop i) m p=true then .inl () else .inr ()):=by
    intro c
    induction c with
    | zero=>
     intro i p last hi _;have e:x.Values.drop i=[]:=yC (by omega);rw [e,zeK,xu rfl];refine zhX ?_;unfold zbE;rw [up]
    | succ c ih=>
     intro i p last hi hp;have hil:i<x.Values.length:=by omega
     have hx:idx x.Values (i:Int)=some x.Values[i]:=zaf rfl hil;have hmem:=xF hil;have z1:=zdB hmem;have hbv:=zdi.1 b4 _ hmem;have hsv:=zhM.1 s4 _ hmem;rw [yq hil,zeK]
     generalize x.Values[i]=v at hx hmem z1 hbv hsv|-
     have hw1:i64.wrap ((i:Int)+1)=((i+1:Nat):Int):=by rw [uq];push_cast;rfl
     have hbody:zbE (zhl fuel) s x m last i=if (decide (0<=fldI m v.Number)&&p.all (fun q=>decide (q<v.Number))&&zhU s v (zE m (fldI m v.Number)))=true then some (.inl (v.Number,((i+1:Nat):Int))) else some (.inr (.inr ())):=by
      unfold zbE;rw [uo,hx,sb,znf (by omega),sb];have hf:fldI m v.Number=zih (fun f:Fld=>f.Number==v.Number) m.Fields:=rfl;cases h:m.Fields.findIdx? (fun f:Fld=>f.Number==v.Number) with
      | none=>
       rw [hf,zkU h,uj,sb,uj,xt (by simp)]
      | some j=>
       rw [hf,zkV h];have hjs:=pw.1 h;obtain ⟨hj,hjn,_⟩:=hjs;have hjn':(m.Fields[j]).Number=v.Number:=by simpa using hjn
       have hlo:=(hfld _ (xF hj)).lo;have hfj:idx m.Fields (j:Int)=some (zE m (j:Int)):=by rw [zaf rfl hj,zcQ hj]
       have hfit:=ih2 v (zE m (j:Int)) (by omega) hbv hsv;have hpl:p.all (fun q=>decide (q<v.Number))=decide (last<v.Number):=by
        rcases hp with ⟨rfl,rfl⟩| rfl
        ·rw [xN (show (0:Int)<v.Number by omega)];rfl
        ·rfl
       rw [uk,hpl,xN (show (0:Int)<=(j:Int) by omega),xZ];by_cases v8:last<v.Number
       ·rw [itF (by simpa using v8),xN v8,xZ];simp only;rw [hfj,sb,hfit,sb,sb];cases hfv:zhU s v (zE m (j:Int))
        ·rw [uj,xt (by simp)]
        ·rw [uk,xu rfl,hw1]
       ·rw [uo,sb,uj,ya v8,xt (by simp)]
     generalize (decide (0<=fldI m v.Number)&&p.all (fun q=>decide (q<v.Number))&&zhU s v (zE m (fldI m v.Number)))=bb at hbody|-
     cases bb
     ·rw [xt (by simp)] at hbody;rw [zhX hbody,yK,xt (by simp)]
     ·rw [xu rfl] at hbody;rw [zmX hbody,ih _ (some v.Number) v.Number (by omega) (.inr rfl),xZ]
   have h1:=hv x.Values.length 0 none 0 (xQ _) (.inl ⟨rfl,rfl⟩);have h1':zdI (zhl fuel) s x m 0 0=_:=h1;rw [xR] at h1';rw [h1',sb];cases hrv:zeK s x.Values m none
   ·rw [xt (by simp)];rfl
   ·rw [xu rfl,xZ];simp only;have h2:=zkc (unkR m) x.Unknown (fun i=>zdJ x m i) (by
      refine zhY ?_;unfold zbS;rw [ul])
     (fun i hi=>by
      have hu:=zFv (m:=m) (by omega) (s3 _ (xF hi));cases hun:unkR m x.Unknown[i]
      ·rw [xt (by simp)];refine zhY ?_;unfold zbS;rw [uo,zaf rfl hi,sb,hu,sb,hun,uj]
      ·rw [xu rfl];refine zmY ?_;unfold zbS;rw [uo,zaf rfl hi,sb,hu,sb,hun,uk,uq];push_cast;rfl)
     x.Unknown.length 0 (xQ _)
    have h2':zdJ x m 0=_:=h2;rw [h2',sb,xR];cases x.Unknown.all (unkR m)<;>rfl
  ·obtain ⟨_,⟨b1,b1'⟩,⟨b2,b3⟩,b4,b5⟩:=(zfT v).1 hb;obtain ⟨s1,⟨s2,s3⟩,s4,s5⟩:=(zpK v).1 hsm;rw [zdX] at wh;show zjd (zfl fuel) (zhl fuel) (zcU fuel) f s v=_;unfold zjd;rw [zrU ⟨by omega,by omega,by omega⟩,sb,zqe,zkw];have hmany:zci v=v.Words.length+v.Texts.length+v.Subs.length:=rfl;by_cases h0:zci v=0\/1<zci v/\f.Repeated=false
   ·have hmr:zpd f v=false:=by
     unfold zpd;rcases h0 with h0| ⟨h0,h1⟩
     ·simp [h0]
     ·rw [h1];simp;omega
    rw [hmr,itT (by
     rcases h0 with h0| ⟨h0,h1⟩
     ·simp [h0]
     ·rw [h1];simp;omega)]
    rfl
   ·have hmr:zpd f v=zbL f.Kind:=by
     unfold zpd;rw [xN (show 0<zci v by omega),xZ];cases hr:f.Repeated
     ·rw [hr] at h0;rw [xN (show zci v<=1 by simp at h0;omega)];rfl
     ·simp
    rw [hmr,itF (by
     cases hr:f.Repeated
     ·rw [hr] at h0;simp at h0|-;omega
     ·simp;omega)]
    have hW:kNum f.Kind=false->v.Words.all (zia f)=decide (v.Words.length=0):=fun h=>by
     rw [zxC (fun w=>by unfold zia;rw [h];rfl),znp]
    have hT:f.Kind≠15->f.Kind≠16->v.Texts.all (zkD f)=decide (v.Texts.length=0):=fun h1 h2=>by
     rw [zxC (fun t=>by unfold zkD;simp [h1,h2]),znp]
    have hS:f.Kind≠17->(v.Subs.all fun x=>f.Kind==17&&zaN s x f.Of)=decide (v.Subs.length=0):=fun h=>by
     rw [zxC (fun x=>by simp [h]),znp]
    by_cases k15:f.Kind=15
    ·rw [itT (by simp [k15]),hW (by rw [k15];rfl),hS (by omega)];have hkr:zbL f.Kind=true:=by rw [k15];rfl
     rw [hkr,xZ];by_cases hl:v.Words.length=0/\v.Subs.length=0
     ·rw [uo,zyO (by omega) b3,sb,sb,xN hl.1,xN hl.2,xZ,qJ];have:v.Texts.all (zkD f)=v.Texts.all zfB:=by
       congr 1;funext t;unfold zkD;simp [k15]
      rw [this]
     ·rw [up,sb];congr 1
      symm
      by_cases hw0:v.Words.length=0
      ·rw [ya (show ¬v.Subs.length=0 by omega),qM]
      ·rw [ya hw0,yK,yK]
    ·rw [itF (by simp [k15])];by_cases k16:f.Kind=16
     ·rw [itT (by simp [k16]),hW (by rw [k16];rfl),hS (by omega)];have hkr:zbL f.Kind=true:=by rw [k16];rfl
      have hta:v.Texts.all (zkD f)=true:=by rw [xG];intro t _;unfold zkD;simp [k16]
      rw [hkr,hta,xZ,qJ];congr 1;rw [<-Bool.decide_and];rw [yH];simp only [qL,xY];omega
     ·rw [itF (by simp [k16])];by_cases k17:f.Kind=17
      ·rw [itT (by simp [k17]),hW (by rw [k17];rfl),hT k15 k16];have hkr:zbL f.Kind=true:=by rw [k17];rfl
       rw [hkr,xZ];have hsub:(v.Subs.all fun x=>f.Kind==17&&zaN s x f.Of)=v.Subs.all fun x=>zaN s x f.Of:=by
        congr 1;funext x;simp [k17]
       rw [hsub];by_cases hl:v.Words.length=0/\v.Texts.length=0
       ·rw [uo,ih3 v.Subs f.Of (by omega) (by omega) b5 s5,sb,sb,xN hl.1,xN hl.2,xZ,xZ];by_cases hof:0<=f.Of/\f.Of<s.length
        ·rw [xN hof,xZ]
        ·rw [ya hof,yK];congr 1
         symm
         have hne:v.Subs≠[]:=fun e=>h0 (.inl (by rw [hmany,hl.1,hl.2,e];rfl))
         obtain ⟨x,l,hxl⟩:=p7 hne;rw [hxl,yI,zjU,ya hof];rfl
       ·rw [up,sb];congr 1
        symm
        by_cases hw0:v.Words.length=0
        ·rw [ya (show ¬v.Texts.length=0 by omega),qM,yK]
        ·rw [ya hw0,yK,yK]
      ·rw [itF (by simp [k17]),hT k15 k16,hS k17];have hck:(v.Words.all fun w=>kNum f.Kind&&zbB f.Kind w==w)=v.Words.all (zia f):=rfl;by_cases hl:v.Texts.length=0/\v.Subs.length=0
       ·rw [uo,zyN (by omega) b1',sb,sb,xN hl.1,xN hl.2,qJ,qJ,hck];congr 1;cases hkn:kNum f.Kind
        ·rw [hW hkn,ya (show ¬v.Words.length=0 by omega),qM]
        ·have hkr:zbL f.Kind=true:=by
          rw [zeH] at hkn;unfold zbL;simp;omega
         rw [hkr,xZ]
       ·rw [up,sb];congr 1
        symm
        by_cases hw0:v.Texts.length=0
        ·rw [ya (show ¬v.Subs.length=0 by omega),qM]
        ·rw [ya hw0,qM,yK]
  ·show zep (zfl fuel) (zhl fuel) (zcU fuel) s k l=_;unfold zep;by_cases hk:0<=k/\k<s.length
   ·rw [up,xN hk,xZ];obtain ⟨n,rfl⟩:∃n:Nat,k=n:=⟨k.toNat,by omega⟩;have h1:=zkc (fun x=>zaN s x n) l (fun i=>zcZ l n (zcU fuel) s i) (by
      refine zhk ?_;unfold zbz;rw [ul])
     (fun i hi=>by
      have hm:=xF hi;have z1:=zdA hm;have hr:=ih1 l[i] n (by omega) (by omega) (zdO.1 hb _ hm) (zhL.1 hsm _ hm);cases hp:zaN s l[i] n
      ·rw [xt (by simp)];refine zhk ?_;unfold zbz;rw [uo,zaf rfl hi,sb,hr,sb,hp,uj]
      ·rw [xu rfl];refine zlZ ?_;unfold zbz;rw [uo,zaf rfl hi,sb,hr,sb,hp,uk,uq];push_cast;rfl)
     l.length 0 (xQ _)
    have h1':zcZ l n (zcU fuel) s 0=_:=h1;rw [h1',sb,xR];cases l.all (fun x=>zaN s x n)<;>rfl
   ·rw [uo,ya hk];rfl
theorem zvo (root:Int) (hf:2*szM x<fuel) (hw:WS s) (hb:bdM x) (hsm:smM x) (hd:dM x<=131072):zix fuel s root x=some (zfX s&&zaN s x root):=by
 unfold zix;rw [zAB hw,sb];by_cases h0:argS s root 0=0
 ·obtain ⟨hr,g1,g2,_,_⟩:=zom h0;have hrs:zfX s=true:=by
   unfold argS at h0;cases h:zfX s with
   | true=>rfl
   | false=>rw [h,xu rfl] at h0;cases h0
  obtain ⟨k,rfl⟩:∃k:Nat,root=k:=⟨root.toNat,by omega⟩;rw [itT (by simp [h0]),zAq (by omega) hb hd,sb,uj,(zAt hr fuel).1 x k (by omega) hf hb hsm,sb,sb,hrs,xZ]
 ·rw [itF (by simp [h0]),sb];congr 1
  symm
  cases hrs:zfX s
  ·rfl
  ·rw [xZ,zjU];unfold argS at h0;rw [xt (by rw [hrs];simp)] at h0;rw [ya (by split at h0<;>omega)];rfl
theorem zHT (hk:kNum k=true) (hf:zcB (zaW k) v=true):pcs k v=([v],0):=by
 have hk':=zeH.1 hk;have hu:zkG k v= .inr v.length/\v≠[]:=by
  unfold zkG;unfold zcB zaW at hf;by_cases h9:k<9
  ·rw [xt (show ¬15<=k by omega),xt (show ¬12<=k by omega),xt (show ¬9<=k by omega),xu rfl] at hf;obtain ⟨h1,h2⟩:=yr hf;obtain ⟨b1,b2,b3,b4,b5,b6,b7⟩:=zhf v;have hp:=b7 h1;rw [xu h9,xt (by simpa using h1),h2];refine ⟨by simp,fun e=>?_⟩;subst e;simp at h2;omega
  ·rw [xt h9];by_cases h12:k<12
   ·rw [xt (show ¬15<=k by omega),xt (show ¬12<=k by omega),xu (show 9<=k by omega),xt (by omega)] at hf;have hf':=yr hf;have hl:v.length=4:=by omega
    rw [xu h12,xt (by omega),hl];exact ⟨rfl,fun e=>by rw [e] at hl;simp at hl⟩
   ·rw [xt (show ¬15<=k by omega),xu (show 12<=k by omega),xt (by omega)] at hf;have hf':=yr hf;have hl:v.length=8:=by omega
    rw [xt h12,xt (by omega),hl];exact ⟨rfl,fun e=>by rw [e] at hl;simp at hl⟩
 rw [zlO hu.2 hu.1,pB,q7,zoz]
theorem zxv (hk:kNum k=true) (hf:zcB (zaW k) v=true):zbt k v=([(zlV k v).1],0):=by
 unfold zbt;rw [xt (by rw [hk];simp),zHT hk hf,xu rfl,zla hk hf];rfl
def zeU (f:Fld) (T:List Th):List Th:=if f.Repeated=true then T else T.drop (T.length - 1)
def valT (g:Int->List UInt8->Msg) (f:Fld) (T:List Th):Vlu:=
 if f.Kind=17 then ⟨f.Number,[],[],if f.Repeated=true then T.map fun t=>g f.Of t.val else [g f.Of (T.flatMap (·.val))]⟩
 else if f.Kind=15\/f.Kind=16 then ⟨f.Number,[],(zeU f T).map (·.val),[]⟩
 else ⟨f.Number,(zeU f T).flatMap (fun t=>(zbt f.Kind t.val).1),[],[]⟩
theorem zmj (g:Int->List UInt8->Msg) (f:Fld) (i:Int):∀(l:List Th) (a:zez),accF g f i a l=(l.filter fun t=>t.fi==i).foldl (stp g f) a
 | [],a=>rfl
 | t::l,a=>by
  rw [accF,yW];by_cases h:t.fi=i
  ·rw [xu h,xu (by simpa using h),yp];exact zmj g f i l _
  ·rw [xt h,xt (by simpa using h)];exact zmj g f i l _
def OkF (f:Fld) (t:Th):Prop:=(t.run=true->kNum f.Kind=true/\f.Repeated=true)/\(t.run=false->zbL f.Kind=true/\zcB (zaW f.Kind) t.val=true)
theorem zwX :zeU f (t::u::T)=if f.Repeated=true then t::u::T else zeU f (u::T):=by
 unfold zeU;cases f.Repeated<;>simp
theorem zzk (g:Int->List UInt8->Msg) (hk:kNum f.Kind=true):∀(T:List Th) (a:zez),T≠[]->(∀t∈T,OkF f t)->
  T.foldl (stp g f) a=(a.1,true,(if f.Repeated=true then a.2.2.1 else [])++(zeU f T).flatMap (fun t=>(zbt f.Kind t.val).1),(if f.Repeated=true then a.2.2.2.1 else []),a.2.2.2.2)
 | [],a,h,_=>absurd rfl h
 | [t],a,_,ht=>by
  obtain ⟨h1,h2⟩:=ht t xw;have hp:zeU f [t]=[t]:=by unfold zeU;simp
  rw [hp,yp,pd];unfold stp;cases hr:t.run
  ·rw [xt (by simp),xu hk,p8,zxv hk (h2 hr).2]
  ·rw [xu rfl,p8]
 | t::u::T,a,_,ht=>by
  obtain ⟨h1,h2⟩:=ht t xw;have hst:stp g f a t=(a.1,true,(if f.Repeated=true then a.2.2.1 else [])++(zbt f.Kind t.val).1,(if f.Repeated=true then a.2.2.2.1 else []),a.2.2.2.2):=by
   unfold stp;cases hr:t.run
   ·rw [xt (by simp),xu hk,zxv hk (h2 hr).2]
   ·rw [xu rfl]
  rw [yp,hst,zzk g hk (u::T) _ (by simp) fun x hx=>ht x (xx _ hx),zwX];cases hr:f.Repeated
  ·simp
  ·have hp:zeU f (u::T)=u::T:=by unfold zeU;rw [xu hr]
   rw [hp];simp
theorem zwy (g:Int->List UInt8->Msg) (hk:kNum f.Kind=false) (wa:f.Kind≠17):∀(T:List Th) (a:zez),T≠[]->(∀t∈T,OkF f t)->
  T.foldl (stp g f) a=(a.1,true,(if f.Repeated=true then a.2.2.1 else []),(if f.Repeated=true then a.2.2.2.1 else [])++(zeU f T).map (·.val),a.2.2.2.2)
 | [],a,h,_=>absurd rfl h
 | [t],a,_,ht=>by
  obtain ⟨h1,h2⟩:=ht t xw;have hp:zeU f [t]=[t]:=by unfold zeU;simp
  have hr:t.run=false:=by
   cases hr:t.run
   ·rfl
   ·have:=(h1 hr).1;rw [hk] at this;cases this
  rw [hp,yp,pd];unfold stp;rw [hr,xt (by simp),xt (by rw [hk];simp),xt (fun h=>wa h.1),xt wa];rfl
 | t::u::T,a,_,ht=>by
  obtain ⟨h1,h2⟩:=ht t xw;have hr:t.run=false:=by
   cases hr:t.run
   ·rfl
   ·have:=(h1 hr).1;rw [hk] at this;cases this
  have hst:stp g f a t=(a.1,true,(if f.Repeated=true then a.2.2.1 else []),(if f.Repeated=true then a.2.2.2.1 else [])++[t.val],a.2.2.2.2):=by
   unfold stp;rw [hr,xt (by simp),xt (by rw [hk];simp),xt (fun h=>wa h.1),xt wa]
  rw [yp,hst,zwy g hk wa (u::T) _ (by simp) fun x hx=>ht x (xx _ hx),zwX];cases hr:f.Repeated
  ·simp
  ·have hp:zeU f (u::T)=u::T:=by unfold zeU;rw [xu hr]
   rw [hp];simp
theorem zwx (g:Int->List UInt8->Msg) (wa:f.Kind=17) (hr:f.Repeated=true):∀(T:List Th) (a:zez),(∀t∈T,OkF f t)->(T≠[]\/a.2.1=true)->
  T.foldl (stp g f) a=(a.1,true,a.2.2.1,a.2.2.2.1,a.2.2.2.2++T.map fun t=>g f.Of t.val)
 | [],a,_,h=>by
  rcases h with h| h
  ·exact absurd rfl h
  ·obtain ⟨a1,a2,a3,a4,a5⟩:=a;simp only at h;subst h;simp
 | t::T,a,ht,_=>by
  obtain ⟨h1,h2⟩:=ht t xw;have hrn:t.run=false:=by
   cases hr:t.run
   ·rfl
   ·have:=(h1 hr).1;rw [wa] at this;cases this
  have hst:stp g f a t=(a.1,true,a.2.2.1,a.2.2.2.1,a.2.2.2.2++[g f.Of t.val]):=by
   unfold stp;rw [hrn,xt (by simp),xt (by rw [wa];decide),xu ⟨wa,hr⟩,xu hr,xu hr]
  rw [yp,hst,zwx g wa hr T _ (fun x hx=>ht x (xx _ hx)) (.inr rfl)];simp
theorem zzl (g:Int->List UInt8->Msg) (wa:f.Kind=17) (hr:f.Repeated=false):∀(T:List Th) (a:zez),(∀t∈T,OkF f t)->T≠[]->
  T.foldl (stp g f) a=(a.1++T.flatMap (·.val),true,[],[],a.2.2.2.2)
 | [],a,_,h=>absurd rfl h
 | [t],a,ht,_=>by
  obtain ⟨h1,h2⟩:=ht t xw;have hrn:t.run=false:=by
   cases hr:t.run
   ·rfl
   ·have:=(h1 hr).1;rw [wa] at this;cases this
  rw [yp,pd];unfold stp;rw [hrn,xt (by simp),xt (by rw [wa];decide),xt (by rw [hr];simp),xu wa,hr];simp
 | t::u::T,a,ht,_=>by
  obtain ⟨h1,h2⟩:=ht t xw;have hrn:t.run=false:=by
   cases hr:t.run
   ·rfl
   ·have:=(h1 hr).1;rw [wa] at this;cases this
  have hst:stp g f a t=(a.1++t.val,true,[],[],a.2.2.2.2):=by
   unfold stp;rw [hrn,xt (by simp),xt (by rw [wa];decide),xt (by rw [hr];simp),xu wa,hr];simp
  rw [yp,hst,zzl g wa hr (u::T) _ (fun x hx=>ht x (xx _ hx)) (by simp)];simp
theorem zKc (g:Int->List UInt8->Msg) (hkr:zbL f.Kind=true) (hT:T≠[]) (ht:∀t∈T,OkF f t):valO g f (T.foldl (stp g f) acc0)=valT g f T:=by
 unfold valT;by_cases wa:f.Kind=17
 ·rw [xu wa];cases hr:f.Repeated
  ·rw [zzl g wa hr T acc0 ht hT];unfold valO;rw [xu ⟨rfl,wa,hr⟩];simp [acc0]
  ·rw [zwx g wa hr T acc0 ht (.inl hT)];unfold valO;rw [xt (by rw [hr];simp)];simp [acc0]
 ·rw [xt wa];by_cases hx:f.Kind=15\/f.Kind=16
  ·rw [xu hx,zwy g (by unfold kNum;simp;omega) wa T acc0 hT ht];unfold valO;simp only;rw [xt (show ¬(True/\f.Kind=17/\f.Repeated=false) from fun h=>wa h.2.1)];cases f.Repeated<;>simp [acc0]
  ·have hk:kNum f.Kind=true:=by unfold zbL at hkr;unfold kNum;simp at hkr|-;omega
   rw [xt hx,zzk g hk T acc0 hT ht];unfold valO;simp only;rw [xt (show ¬(True/\f.Kind=17/\f.Repeated=false) from fun h=>wa h.2.1)];cases f.Repeated<;>simp [acc0]
theorem zEq {α:Type} (l:List α) (m:Nat) (d x:α):(l++List.replicate (m+1) d).set l.length x=(l++[x])++List.replicate m d:=by
 rw [List.set_append_right _ _ (xA _),qX,pH,List.set_cons_zero,ym];rfl
theorem zxT {α:Type} (l:List α) (d:α) (F:List α->Int->Option (List α)) (h0:F l (l.length:Int)=some l)
  (hs:∀(i:Nat) (h:i<l.length),F (l.take i++List.replicate (l.length - i) d) (i:Int)=F (l.take (i+1)++List.replicate (l.length - (i+1)) d) ((i+1:Nat):Int)):
  ∀(c i:Nat),i+c=l.length->F (l.take i++List.replicate (l.length - i) d) (i:Int)=some l
 | 0,i,h=>by
  have hi:i=l.length:=by omega
  rw [hi,pB,qX,List.replicate_zero,yw];exact h0
 | c+1,i,h=>by rw [hs i (by omega)];exact zxT l d F h0 hs c (i+1) (by omega)
theorem ztZ {α:Type} (l:List α) (d:α) (i:Nat) (h:i<l.length):(l.take i++List.replicate (l.length - i) d).set i l[i]=l.take (i+1)++List.replicate (l.length - (i+1)) d:=by
 have hl:(l.take i).length=i:=by rw [yo];omega
 have e:=zEq (l.take i) (l.length - (i+1)) d l[i];rw [hl,show l.length - (i+1)+1=l.length - i by omega] at e;rw [e,pA h]
def At14 (b:List UInt8) (L:List Vw):Prop:=∀t∈L,0<=t.R.From/\t.R.From<t.R.At/\t.R.At<=t.R.To/\t.R.To<=b.length
theorem zxN (h:At14 b L) (ht:t∈L):cut b t.R.At t.R.To=some (valB b t.R):=by
 obtain ⟨r1,r2,r3,r4⟩:=h t ht;obtain ⟨x,hx1⟩:∃x:Nat,t.R.At=x:=⟨t.R.At.toNat,by omega⟩;obtain ⟨y,hy1⟩:∃x:Nat,t.R.To=x:=⟨t.R.To.toNat,by omega⟩;rw [zhx hx1 hy1 (by omega) (by omega)];unfold valB;rw [hx1,hy1];simp only [xH]
theorem zHi (h:At14 b L) (ht:t∈L):cut b t.R.From t.R.To=some (rawB b t.R):=by
 obtain ⟨r1,r2,r3,r4⟩:=h t ht;obtain ⟨x,hx1⟩:∃x:Nat,t.R.From=x:=⟨t.R.From.toNat,by omega⟩;obtain ⟨y,hy1⟩:∃x:Nat,t.R.To=x:=⟨t.R.To.toNat,by omega⟩;rw [zhx hx1 hy1 (by omega) (by omega)];unfold rawB;rw [hx1,hy1];simp only [xH]
theorem ztk {L:List Vw} {i:Nat} (h:i<L.length):idx (L.map prV) (i:Int)=some (prV L[i]):=by
 rw [zaf rfl (show i<(L.map prV).length by simpa using h)];simp
theorem zGG {b:List UInt8} {L:List Vw} (hL:L.length<=1048576) (hat:At14 b L):zkE b (L.map prV)=some (L.map fun t=>valB b t.R):=by
 unfold zkE;rw [znC (a:=L.length) (by simp) (qf _) (by simp;omega),sb];have wb:(L.map fun t=>valB b t.R).length=L.length:=by simp
 have h:=zxT (L.map fun t=>valB b t.R) ([]:Str) (fun a i=>zfR b (L.map prV) a i) (by
   refine zqY ?_;unfold zds;rw [ul])
  (fun i hi=>by
   have hil:i<L.length:=by simpa using hi
   refine zqX ?_;unfold zds;have hc:=zxN hat (xF hil);rw [uo,ztk hil,sb];have e1:(prV L[i]).Record.At=L[i].R.At:=rfl;have e2:(prV L[i]).Record.To=L[i].R.To:=rfl;have e3:=ztZ (L.map fun t=>valB b t.R) ([]:Str) i hi;rw [p9] at e3;rw [e1,e2,hc,sb,zaf rfl (show i<_ by rw [xC,yo,qt];omega),sb,xH,e3,uq];push_cast;rfl) L.length 0 (by simp)
 rw [wb,yJ,xM,qw] at h;have h':zfR b (L.map prV) (List.replicate L.length []) 0=_:=h;rw [h',sb]
theorem zEA {k:Int} {b:List UInt8} (hb:b.length<=1048576) {L:List Vw} (hL:L.length<=1048576) (hat:At14 b L) (hw:(L.flatMap fun t=>(zbt k (valB b t.R)).1).length<=1048576):
  zkF k b (L.map prV)=some (L.flatMap fun t=>(zbt k (valB b t.R)).1):=by
 unfold zkF;have key:∀(post pre:List Vw),L=pre++post->zfS b k (L.map prV) (pre.flatMap fun t=>(zbt k (valB b t.R)).1) pre.length=some (L.flatMap fun t=>(zbt k (valB b t.R)).1):=by
  intro post
  induction post with
  | nil=>
   intro pre e;rw [yw] at e;subst e;refine zra ?_;unfold zdt;rw [ul]
  | cons t post ih=>
   intro pre e;have v8:pre.length<L.length:=by rw [e];simp
   have hti:L[pre.length]=t:=by
    subst e;simp
   have ht:t∈L:=by rw [e];simp
   obtain ⟨r1,r2,r3,r4⟩:=hat t ht;have hvl:=zIn b t.R r3 r1 r2 r4;have e2:(L.flatMap fun t=>(zbt k (valB b t.R)).1)=(pre.flatMap fun t=>(zbt k (valB b t.R)).1)++((zbt k (valB b t.R)).1++post.flatMap fun t=>(zbt k (valB b t.R)).1):=by rw [e];simp
   have hsum:=congrArg List.length e2;rw [xC,xC] at hsum;refine (zqZ (all':=(pre++[t]).flatMap fun t=>(zbt k (valB b t.R)).1) (v':=(((pre++[t]).length:Nat):Int)) ?_).trans (ih (pre++[t]) (by rw [e];simp));unfold zdt;have hc:=zxN hat ht;rw [uo,ztk v8,sb,hti];have e1:(prV t).Record.At=t.R.At:=rfl;have e2:(prV t).Record.To=t.R.To:=rfl;rw [e1,e2,hc,sb,zEo k (by omega),sb,zhw (by omega),sb,uq,y6,p8,xC,y9];push_cast;rfl
 have h:=key L [] rfl;have h':zfS b k (L.map prV) [] 0=_:=h;rw [h',sb]
theorem zAn {b:List UInt8} {L:List Vw} (hL:L.length<=1048576) (hat:At14 b L):zgt b (L.map prV) (List.replicate L.length []) 0=some (L.map fun t=>valB b t.R):=by
 have wb:(L.map fun t=>valB b t.R).length=L.length:=by simp
 have h:=zxT (L.map fun t=>valB b t.R) ([]:List UInt8) (fun a i=>zgt b (L.map prV) a i) (by
   refine zrY ?_;unfold zdZ;rw [ul])
  (fun i hi=>by
   have hil:i<L.length:=by simpa using hi
   refine zrX ?_;unfold zdZ;have hc:=zxN hat (xF hil);rw [uo,ztk hil,sb];have e1:(prV L[i]).Record.At=L[i].R.At:=rfl;have e2:(prV L[i]).Record.To=L[i].R.To:=rfl;have e3:=ztZ (L.map fun t=>valB b t.R) ([]:List UInt8) i hi;rw [p9] at e3;rw [e1,e2,hc,sb,zaf rfl (show i<_ by rw [xC,yo,qt];omega),sb,xH,e3,uq];push_cast;rfl) L.length 0 (by simp)
 rw [wb,yJ,xM,qw] at h;exact h
theorem zrQ {rec:List zd->Int->List UInt8->Option zc} {g:Int->List UInt8->Msg} {s:List Mes} {f:Fld} {p:List (List UInt8)} (hp:p.length<=1048576) (hg:∀v∈p,rec s f.Of v=some (g f.Of v)):
  zeQ f p rec s (List.replicate p.length ⟨[],[]⟩) 0=some (p.map (g f.Of)):=by
 have wb:(p.map (g f.Of)).length=p.length:=by simp
 have h:=zxT (p.map (g f.Of)) (⟨[],[]⟩:Msg) (fun a i=>zeQ f p rec s a i) (by
   refine zsa ?_;unfold zea;rw [ul])
  (fun i hi=>by
   have hil:i<p.length:=by simpa using hi
   refine zrZ ?_;unfold zea;have e3:=ztZ (p.map (g f.Of)) (⟨[],[]⟩:Msg) i hi;rw [p9] at e3;rw [uo,zaf rfl hil,sb,hg _ (xF hil),sb,zaf rfl (show i<_ by rw [xC,yo,qt];omega),sb,xH,e3,uq];push_cast;rfl) p.length 0 (by simp)
 rw [wb,yJ,xM,qw] at h;exact h
def kn14 (acc:List (Int×List PVw)) (v:Vw):List (Int×List PVw):=if v.Field= -1 then acc else mput acc v.R.Number ((mget acc v.R.Number).getD []++[prV v])
def zeX (L:List Vw) (n:Int):List Vw:=L.filter fun v=>decide (v.Field≠ -1/\v.R.Number=n)
theorem zBp (n:Int):∀(L:List Vw) (acc:List (Int×List PVw)),(mget (L.foldl kn14 acc) n).getD []=(mget acc n).getD []++(zeX L n).map prV
 | [],acc=>by simp [zeX]
 | v::L,acc=>by
  rw [yp,zBp n L];unfold zeX kn14;rw [yW];by_cases hf:v.Field= -1
  ·rw [xu hf,xt (by simp [hf])]
  ·rw [xt hf,zhd];by_cases hn:n=v.R.Number
   ·rw [xu hn,xu (by simp [hf,hn]),hn];simp
   ·rw [xt hn,xt (by simp;exact fun _ e=>hn e.symm)]
theorem zyi {κ ν:Type} [DecidableEq κ] (m:List (κ×ν)) (k j:κ) (x:ν):j∈(mput m k x).map Prod.fst↔j∈m.map Prod.fst\/j=k:=by
 rw [zlK];cases h:mget m k with
 | none=>simp
 | some y=>
  simp only;exact ⟨.inl,fun h'=>h'.elim id fun e=>e▸zFT h⟩
theorem zCC (n:Int):∀(L:List Vw) (acc:List (Int×List PVw)),n∈(L.foldl kn14 acc).map Prod.fst↔n∈acc.map Prod.fst\/∃v∈L,v.Field≠ -1/\v.R.Number=n
 | [],acc=>by simp
 | v::L,acc=>by
  rw [yp,zCC n L];unfold kn14;by_cases hf:v.Field= -1
  ·rw [xu hf];constructor
   ·rintro (h| ⟨u,hu,h⟩)
    ·exact .inl h
    ·exact .inr ⟨u,xx _ hu,h⟩
   ·rintro (h| ⟨u,hu,h⟩)
    ·exact .inl h
    ·rcases xz.1 hu with rfl| hu
     ·exact absurd hf h.1
     ·exact .inr ⟨u,hu,h⟩
  ·rw [xt hf,zyi];constructor
   ·rintro ((h| h)| ⟨u,hu,h⟩)
    ·exact .inl h
    ·exact .inr ⟨v,xw,hf,h.symm⟩
    ·exact .inr ⟨u,xx _ hu,h⟩
   ·rintro (h| ⟨u,hu,h⟩)
    ·exact .inl (.inl h)
    ·rcases xz.1 hu with rfl| hu
     ·exact .inl (.inr h.2.symm)
     ·exact .inr ⟨u,hu,h⟩
theorem zzE:∀(L:List Vw) (acc:List (Int×List PVw)),(acc.map Prod.fst).Nodup->((L.foldl kn14 acc).map Prod.fst).Nodup
 | [],acc,h=>h
 | v::L,acc,h=>by
  rw [yp];refine zzE L _ ?_;unfold kn14;split
  ·exact h
  ·exact zmr h _ _
theorem zzQ {κ ν:Type} [DecidableEq κ] (m:List (κ×ν)) (k:κ) (x:ν):(mput m k x).length<=m.length+1:=by
 have h:=congrArg List.length (zlK m k x);rw [yE] at h;rw [h];split<;>simp
theorem zBq:∀(L:List Vw) (acc:List (Int×List PVw)),(L.foldl kn14 acc).length<=acc.length+L.length
 | [],acc=>by simp
 | v::L,acc=>by
  rw [yp];have h:=zBq L (kn14 acc v);have h2:(kn14 acc v).length<=acc.length+1:=by
   unfold kn14;split
   ·omega
   ·exact zzQ _ _ _
  rw [xK];omega
theorem zxU {b:List UInt8} {L:List Vw} (hL:L.length<=1048576) (hat:At14 b L) (hneg:∀v∈L,v.Field= -1\/0<=v.Field) (x:Int×Int):∀(post pre:List Vw),L=pre++post->
  zex b (L.map prV,x) (pre.foldl kn14 []) pre.length (unkO (pre.map (thOf b)))=some (L.foldl kn14 [],unkO (L.map (thOf b))):=by
 intro post
 induction post with
 | nil=>
  intro pre e;rw [yw] at e;subst e;refine zoV ?_;unfold zcb;rw [ul]
 | cons v post ih=>
  intro pre e;have v8:pre.length<L.length:=by rw [e];simp
  have hti:L[pre.length]=v:=by subst e;simp
  have hv:v∈L:=by rw [e];simp
  have hx:idx (L.map prV) (pre.length:Nat)=some (prV v):=by rw [ztk v8,hti]
  have hfi:(prV v).Field=v.Field:=rfl;have hun:(unkO (pre.map (thOf b))).length<=pre.length:=by
   unfold unkO;rw [yE];exact yn (q8 _ _) (by simp)
  have hw:i64.wrap (((pre.length:Nat):Int)+1)=(((pre++[v]).length:Nat):Int):=by rw [uq,xC,y9];push_cast;rfl
  have hF:=(hat v hv);by_cases hf:v.Field= -1
  ·refine (zjv (known':=(pre++[v]).foldl kn14 []) (v':=(((pre++[v]).length:Nat):Int)) (f':=unkO ((pre++[v]).map (thOf b))) ?_).trans (ih (pre++[v]) (by rw [e];simp));unfold zcb;have e1:(prV v).Record.From=v.R.From:=rfl;have e2:(prV v).Record.To=v.R.To:=rfl;have hu:unkO ((pre++[v]).map (thOf b))=unkO (pre.map (thOf b))++[rawB b v.R]:=by
    unfold unkO;rw [yA,uc,yA];congr 1;rw [yX,yW,xu (by show decide (v.Field<0)=true;rw [hf];rfl)];rfl
   have hk:(pre++[v]).foldl kn14 []=pre.foldl kn14 []:=by rw [List.foldl_append,yp,pd];unfold kn14;rw [xu hf]
   rw [uo,hx,sb,itT (by rw [hfi,hf];rfl),e1,e2,zHi hat hv,sb,zhw (by simp;omega),sb,hw,hu,hk]
  ·refine (zjv (known':=(pre++[v]).foldl kn14 []) (v':=(((pre++[v]).length:Nat):Int)) (f':=unkO ((pre++[v]).map (thOf b))) ?_).trans (ih (pre++[v]) (by rw [e];simp));unfold zcb;have e1:(prV v).Record.Number=v.R.Number:=rfl;have hg:=zBp v.R.Number pre [];have wb:((mget (pre.foldl kn14 []) v.R.Number).getD []).length<=pre.length:=by
    rw [hg];have:(zeX pre v.R.Number).length<=pre.length:=q8 _ _;simpa [mget] using this
   have hk:(pre++[v]).foldl kn14 []=mput (pre.foldl kn14 []) v.R.Number ((mget (pre.foldl kn14 []) v.R.Number).getD []++[prV v]):=by rw [List.foldl_append,yp,pd];show kn14 (pre.foldl kn14 []) v=_;unfold kn14;rw [xt hf]
   rw [uo,hx,sb,itF (by rw [hfi];simpa using hf),e1,zhw (by simp only [y9];omega),sb,hw,hk];have hu:unkO ((pre++[v]).map (thOf b))=unkO (pre.map (thOf b)):=by
    unfold unkO;rw [yA,uc,yA,yX,yW,xt (by show ¬decide (v.Field<0)=true;have:=(hneg v hv).resolve_left hf;simp;omega)];simp
   rw [hu]
theorem zzB {L:List Vw} (hwf:∀v∈L,v.Field≠ -1->(Lit.int .i64 v.R.Number).wf=true) (hL:L.length<=1048576):
  ∃ks,zqm (L.foldl kn14 [])=some ks/\ks.Pairwise (·<·)/\∀n,n∈ks↔∃v∈L,v.Field≠ -1/\v.R.Number=n:=by
 have wb:=zBq L [];have hnd:=zzE L [] (by simp);have hk:=fun n=>zCC n L []
 generalize L.foldl kn14 []=K at wb hnd hk
 refine ⟨(K.map Prod.fst).mergeSort fun x y=>decide (x<=y),?_,?_,fun n=>?_⟩
 ·have hall:(K.all fun p=>(Lit.int .i64 p.1).wf)=true:=by
   rw [xG];intro p hp;obtain h| ⟨v,hv,hf,hn⟩:=(hk p.1).1 (yT hp)
   ·simp at h
   ·rw [<-hn];exact hwf v hv hf
  have hl:K.length*8<=140737488355328:=by rw [yF] at wb;omega
  unfold zqm;rw [xu ⟨hall,hl⟩]
 ·have hp:=List.mergeSort_perm (K.map Prod.fst) fun x y=>decide (x<=y)
  have hs:=List.pairwise_mergeSort (le:=fun x y:Int=>decide (x<=y)) (fun a b c h k=>by simp at*;omega) (fun a b=>by simp;omega) (K.map Prod.fst);have hnd':=hp.nodup_iff.2 hnd
  generalize (K.map Prod.fst).mergeSort (fun x y=>decide (x<=y))=ks at hs hnd'
  refine (List.Pairwise.and hs hnd').imp fun {a b} h=>?_
  have h1:a<=b:=by simpa using h.1
  have h2:a≠b:=h.2;omega
 ·rw [List.mem_mergeSort,hk n];simp
theorem zsA:∀(l k:List Int),l.Pairwise (·<·)->k.Pairwise (·<·)->(∀w,w∈l↔w∈k)->l=k
 | [],[],_,_,_=>rfl
 | [],y::k,_,_,h=>absurd ((h y).2 xw) (by simp)
 | x::l,[],_,_,h=>absurd ((h x).1 xw) (by simp)
 | x::l,y::k,hl,hk,h=>by
  have hl':=yd.1 hl;have hk':=yd.1 hk;have hxy:x=y:=by
   rcases xz.1 ((h x).1 xw) with h1| h1
   ·exact h1
   ·rcases xz.1 ((h y).2 xw) with h2| h2
    ·exact h2.symm
    ·have a1:=hk'.1 x h1;have a2:=hl'.1 y h2;omega
  subst hxy;congr 1;refine zsA l k hl'.2 hk'.2 fun w=>?_
  have nl:x∉l:=fun hm=>by have:=hl'.1 x hm;omega
  have nk:x∉k:=fun hm=>by have:=hk'.1 x hm;omega
  have:=h w;simp only [xz] at this;constructor
  ·intro hw;rcases this.1 (.inr hw) with rfl| h'
   ·exact absurd hw nl
   ·exact h'
  ·intro hw;rcases this.2 (.inr hw) with rfl| h'
   ·exact absurd hw nk
   ·exact h'
theorem zua {α:Type} (vo:Int->α) (p:α->Bool) (met:Int->Bool):∀(o:List Int),(∀i∈o,met i=false->p (vo i)=false)->(o.map vo).filter p=((o.filter met).map vo).filter p
 | [],_=>rfl
 | i::o,h=>by
  have ih:=zua vo p met o fun j hj=>h j (xx _ hj)
  rw [xJ,yW,yW];cases hm:met i
  ·rw [h i xw hm,xt (by simp),xt (by simp),ih]
  ·rw [xu rfl,xJ,yW,ih]
def zmI (f:Fld) (L:List Vw):List Vw:=if f.Repeated=true then L else L.drop (L.length - 1)
theorem zrJ (b:List UInt8) (f:Fld) (L:List Vw):(zmI f L).map (thOf b)=zeU f (L.map (thOf b)):=by
 unfold zmI zeU;split
 ·rfl
 ·rw [List.map_drop,yE]
theorem zEe :∀v∈zmI f L,v∈L:=fun v hv=>by
 unfold zmI at hv;split at hv
 ·exact hv
 ·exact List.mem_of_mem_drop hv
theorem zEd (f:Fld) (L:List Vw):(zmI f L).length<=L.length:=by
 unfold zmI;split
 ·exact xA _
 ·rw [yf];omega
theorem zrv:∀(T:List Th),(T.flatMap (·.val)).length+T.length<=wt T
 | []=>by simp [wt]
 | t::T=>by have:=zrv T;rw [xS,xC,xK,wt];omega
theorem zvA (k:Int):∀(T:List Th),(T.flatMap fun t=>(zbt k t.val).1).length<=wt T
 | []=>by simp [wt]
 | t::T=>by have:=zvA k T;have:=zxu k t.val;rw [xS,xC,wt];omega
theorem zDf (f:Fld) (T:List Th):wt (zeU f T)<=wt T:=by
 unfold zeU;split
 ·exact xA _
 ·have:∀(T:List Th) (k:Nat),wt (T.drop k)<=wt T:=fun T=>by
   induction T with
   | nil=>intro k;simp
   | cons t T ih=>
    intro k;cases k with
    | zero=>simp
    | succ k=>have:=ih k;rw [List.drop_succ_cons,wt];omega
  exact this T _
theorem zGM {rec1:List zd->Int->List UInt8->Option zc} {rec2:List zd->Fld->List UInt8->List PVw->Option (List zc)} {rec3:List zd->Fld->List UInt8->List PVw->Option zb}
  {g:Int->List UInt8->Msg} {s:List Mes} {f:Fld} {b:List UInt8} {L:List Vw} (hat:At14 b L) (hne:L≠[]) (hw:wt (L.map (thOf b))<=1048576)
  (hg1:f.Repeated=true->∀t∈L,rec1 s f.Of (valB b t.R)=some (g f.Of (valB b t.R))) (hg2:f.Repeated=false->rec1 s f.Of ((L.map (thOf b)).flatMap (·.val))=some (g f.Of ((L.map (thOf b)).flatMap (·.val)))):
  zhm rec1 rec2 rec3 s f b (L.map prV)=some (if f.Repeated=true then (L.map (thOf b)).map fun t=>g f.Of t.val else [g f.Of ((L.map (thOf b)).flatMap (·.val))]):=by
 have hL:L.length<=1048576:=by have:=zse (L.map (thOf b));rw [yE] at this;omega
 have hfl:((L.map fun t=>valB b t.R).flatten)=(L.map (thOf b)).flatMap (·.val):=by
  rw [pC,pm];rfl
 have hflen:=zrv (L.map (thOf b));unfold zhm;rw [znC (a:=L.length) (by simp) (qf _) (by simp;omega),sb,zAn hL hat,sb];cases hr:f.Repeated
 ·by_cases h1:1<L.length
  ·rw [uo,zly (by simp;omega) (by rw [hfl];omega),sb,sb,znC (bytes:=48) (a:=1) (by simp) (qf _) (by simp),sb];have h:=zrQ (rec:=rec1) (g:=g) (s:=s) (f:=f) (p:=[(L.map fun t=>valB b t.R).flatten]) (by simp) (fun v hv=>by
    simp only [xz,xO,xP] at hv;rw [hv,hfl];exact hg2 hr)
   have h':zeQ f [(L.map fun t=>valB b t.R).flatten] rec1 s (List.replicate 1 ⟨[],[]⟩) 0=_:=h;rw [h',sb,xt (by simp),yX,hfl]
  ·have hl1:L.length=1:=by
    have:L.length≠0:=fun e=>hne (ql e)
    omega
   obtain ⟨t,rfl⟩:=pf.1 hl1;rw [ul,sb,znC (bytes:=48) (a:=1) (by simp) (qf _) (by simp),sb];have hv1:([t].map (thOf b)).flatMap (·.val)=valB b t.R:=by simp [thOf]
   have h:=zrQ (rec:=rec1) (g:=g) (s:=s) (f:=f) (p:=[valB b t.R]) (by simp) (fun v hv=>by
    simp only [xz,xO,xP] at hv;rw [hv];have:=hg2 hr;rw [hv1] at this;exact this)
   have h':zeQ f (List.map (fun t=>valB b t.R) [t]) rec1 s (List.replicate 1 ⟨[],[]⟩) 0=_:=h;rw [h',sb,xt (by simp),hv1,yX]
 ·rw [uk,sb,znC (a:=L.length) (by simp) (qf _) (by simp;omega),sb];have h:=zrQ (rec:=rec1) (g:=g) (s:=s) (f:=f) (p:=L.map fun t=>valB b t.R) (by simpa using hL) (fun v hv=>by
   obtain ⟨t,ht,rfl⟩:=xD.1 hv;exact hg1 hr t ht)
  rw [yE] at h;rw [h,sb,xu rfl,yM,yM];rfl
theorem zEz 
  (hb:b.length<=1048576) (hat:At14 b L) (hne:L≠[]) (hw:wt (L.map (thOf b))<=1048576)
  (h2:f.Kind=17->rec2 s f b (L.map prV)=some (if f.Repeated=true then (L.map (thOf b)).map fun t=>g f.Of t.val else [g f.Of ((L.map (thOf b)).flatMap (·.val))])):
  zgu rec1 rec2 rec3 s f b (L.map prV)=some (valT g f (L.map (thOf b))):=by
 have hL:L.length<=1048576:=by have:=zse (L.map (thOf b));rw [yE] at this;omega
 have hl0:L.length≠0:=fun e=>hne (ql e)
 unfold zgu valT;by_cases wa:f.Kind=17
 ·rw [itF (by simp [wa]),sb,itT (by simp [wa]),h2 wa,sb,xu wa]
 ·have hp:(if ((!f.Repeated)&&(f.Kind !=17))=true then (cut (L.map prV) (i64.wrap (((L.map prV).length:Int) - 1)) ((L.map prV).length:Int)>>=fun v2=>some v2) else some (L.map prV))=some ((zmI f L).map prV):=by
   unfold zmI;cases hr:f.Repeated
   ·rw [itT (by simp [wa]),xt (by simp)];have hc:cut (L.map prV) (i64.wrap (((L.map prV).length:Int) - 1)) ((L.map prV).length:Int)=some ((L.drop (L.length - 1)).map prV):=by
     rw [zhx (a:=L.length - 1) (b:=L.length) (by rw [yE,uq];omega) (by simp) (by omega) (by simp)];rw [List.map_drop,yz (by simp)]
    rw [hc,sb]
   ·rw [uk,xu rfl]
  rw [hp,sb,itF (by simp [wa]),xt wa];have hpw:=zDf f (L.map (thOf b));rw [<-zrJ] at hpw;have hpl:=zEd f L;have hpa:At14 b (zmI f L):=fun v hv=>hat v (zEe v hv)
  by_cases hx:f.Kind=15\/f.Kind=16
  ·have hk:(if (f.Kind==15)=true then some (f.Kind==15) else some (f.Kind==16))=some true:=by
    rcases hx with h| h
    ·rw [itT (by simp [h])];simp [h]
    ·rw [itF (by simp [h])];simp [h]
   rw [hk,sb,itT rfl,zGG (by omega) hpa,sb,xu hx,<-zrJ,yM];rfl
  ·have hk:(if (f.Kind==15)=true then some (f.Kind==15) else some (f.Kind==16))=some false:=by
    rw [up];simp;omega
   have hfm:((zmI f L).flatMap fun t=>(zbt f.Kind (valB b t.R)).1)=((zmI f L).map (thOf b)).flatMap fun t=>(zbt f.Kind t.val).1:=by rw [pC];rfl
   have hwl:=zvA f.Kind ((zmI f L).map (thOf b));rw [hk,sb,itF rfl,zEA hb (by omega) hpa (by rw [hfm];omega),sb,xt hx,<-zrJ,hfm]
theorem zqd {s:List Mes} {e:Nat} {k:Int}:∀(l:List (List UInt8)),(∀v∈l,zai s e k v=none)->zai s e k l.flatten=none
 | [],_=>by rw [List.flatten_nil];exact znm s e k
 | v::l,h=>by
  rw [qq];exact (zjB s e k l.flatten (h v xw)).2 (zqd l fun u hu=>h u (xx _ hu))
theorem zxw (p:Th->Bool):∀(T:List Th),wt (T.filter p)<=wt T
 | []=>by simp
 | t::T=>by
  have:=zxw p T;rw [yW];split
  ·rw [wt,wt];omega
  ·rw [wt];omega
theorem zlp (hks:ks.length<=1048576)
  (hrow:∀n∈ks,∃(x:PVw) (f:Fld),idx ((mget q.1 n).getD []) 0=some x/\idx m.Fields x.Field=some f/\rec3 s f b ((mget q.1 n).getD [])=some (V n)/\(V n).Words.length<=1048576/\(V n).Texts.length<=1048576/\(V n).Subs.length<=1048577):
  ∀(c i:Nat) (out:List Vlu),i+c=ks.length->out.length<=i->zey b q rec3 s ks m i out=some (out++((ks.drop i).map V).filter fun v=>decide (0<zci v))
 | 0,i,out,hi,_=>by
  have e:ks.drop i=[]:=yC (by omega);rw [e];refine zoW ?_;unfold zcc;rw [up];simp
 | c+1,i,out,hi,ho=>by
  have hil:i<ks.length:=by omega
  obtain ⟨x,f,h1,h2,h3,h4,h5,h6⟩:=hrow _ (xF hil);rw [yq hil,xJ,yW];have hx:idx ks (i:Int)=some ks[i]:=zaf rfl hil;have hw:i64.wrap ((i:Int)+1)=((i+1:Nat):Int):=by rw [uq];push_cast;rfl
  by_cases hp:0<zci (V ks[i])
  ·rw [xu (by simpa using hp)];refine (zjw (v6':=((i+1:Nat):Int)) (f3':=out++[V ks[i]]) ?_).trans ?_
   ·unfold zcc;rw [uo,hx,sb,h1,sb,h2,sb,h3,sb,zrU ⟨by omega,by omega,by omega⟩,sb,itT (by simpa using hp),zhw (by simp only [y9];omega),sb,hw]
   ·rw [zlp hks hrow c (i+1) _ (by omega) (by simp;omega),ym];rfl
  ·rw [xt (by simpa using hp)];refine (zjw (v6':=((i+1:Nat):Int)) (f3':=out) ?_).trans (zlp hks hrow c (i+1) out (by omega) (by omega));unfold zcc;rw [uo,hx,sb,h1,sb,h2,sb,h3,sb,zrU ⟨by omega,by omega,by omega⟩,sb,itF (by simpa using hp),hw]
theorem zGP (g:Int->List UInt8->Msg) (f:Fld) (h:wt T<=1048576):(valT g f T).Words.length<=1048576/\(valT g f T).Texts.length<=1048576/\(valT g f T).Subs.length<=1048577:=by
 have h1:=zDf f T;have h2:=zse (zeU f T);have h3:=zvA f.Kind (zeU f T);have h4:=zse T;unfold valT;split
 ·refine ⟨by simp,by simp,?_⟩;simp only;split
  ·rw [yE];omega
  ·simp
 ·split
  ·refine ⟨by simp,?_,by simp⟩;simp only [yE];omega
  ·exact ⟨by simp only;omega,by simp,by simp⟩
theorem zvj {s:List Mes} (hs:zfa s) {d n k:Nat} {b:List UInt8} (hk:k<s.length) (hb:b.length<=1048576) (hfi:zai s d k b=none)
  (hrec:∀e,d=e+1->∀(k':Nat) (v:List UInt8),k'<s.length->v.length<=1048576->zai s e k' v=none->zdY n s k' v=some (ofM s k' v)):zdY (n+3) s k b=some (ofM s k b):=by
 have hm:idx s (k:Int)=some (zx s k):=by rw [zaf rfl hk,zeI hk]
 have hmm:zx s (k:Int)∈s:=by rw [zeI hk];exact xF hk
 have hfew:=hs.few _ hmm;have hfld:=hs.fld _ hmm;have we:=zIW hfi;have hwt:=zvi (zx s k) b;have hris:=zqN hs hmm;have hat9:=fun {i:Int} (h0:0<=i) (h1:i<(zx s (k:Int)).Fields.length)=>zqg hs hmm h0 h1
 rw [zuE]
 -- views
 have hvk:∀v∈(zfq (zx s (k:Int)) b).1,v.Field= -1\/0<=v.Field/\v.Field<(zx s (k:Int)).Fields.length/\fldI (zx s (k:Int)) v.R.Number=v.Field/\(zE (zx s (k:Int)) v.Field).Number=v.R.Number:=by
  intro v hv;have h:=(zIm hv).2;rcases zgo (zx s (k:Int)) v.R.Number v.R.Wire with h1| ⟨h1,_⟩| ⟨i,run,h1,h2,h3⟩
  ·rw [h] at h1;cases h1
  ·rw [h] at h1;simp only [Sum.inr.injEq,yx] at h1;exact .inl h1.1
  ·rw [h] at h1;simp only [Sum.inr.injEq,yx] at h1;refine .inr ⟨by omega,by omega,by rw [h2,h1.1],?_⟩;rcases zdM (zx s (k:Int)) v.R.Number with ⟨g1,_⟩| ⟨j,hj,g1,g2,_⟩
   ·omega
   ·rw [h1.1,<-h2,g1,zcQ hj,g2]
 have hat:At14 b (zfq (zx s (k:Int)) b).1:=fun t ht=>zEP ht
 have hL:(zfq (zx s (k:Int)) b).1.length<=1048576:=yn (zIl _ _) hb;have hths:ths (zx s (k:Int)) b=(zfq (zx s (k:Int)) b).1.map (thOf b):=rfl;have hall:=zIq (m:=zx s (k:Int)) (by omega) hb;rw [hths] at we hwt|-
 generalize zx s (k:Int)=m at hm hmm hfew hfld we hwt hris hat9 hvk hat hL hall|-
 show zgl (zdY (n+2)) (zoN (n+2)) (ziz (n+2)) s k b=_;unfold zgl;rw [hm,sb,hall,sb]
 generalize (zfq m b).2.1=c1
 generalize (zfq m b).2.2=c2
 generalize (zfq m b).1=L at we hwt hvk hat hL|-
 have hl1:=zxU hL hat (fun v hv=>(hvk v hv).imp id fun h=>h.1) (c1,c2) L [] rfl;have hl1':zex b (L.map prV,c1,c2) [] 0 []=_:=hl1;obtain ⟨ks,hks,hkp,hkm⟩:=zzB (L:=L) (fun v hv hf=>by
  obtain ⟨h0,h1,_,h3⟩:=(hvk v hv).resolve_left hf;obtain ⟨i,hi⟩:∃i:Nat,v.Field=i:=⟨v.Field.toNat,by omega⟩;have hil:i<m.Fields.length:=by omega
  rw [hi,zcQ hil] at h3;have hfo:=hfld _ (xF hil);have:=hfo.lo;have:=hfo.hi;exact zFr (by omega)) hL
 rw [hl1',sb,hks,sb];have hrowis:∀n,(mget (L.foldl kn14 []) n).getD []=(zeX L n).map prV:=fun n=>by rw [zBp n L []];rfl
 let vo:Int->Vlu:=fun i=>valO (ofM s) (zE m i) (accF (ofM s) (zE m i) i acc0 (L.map (thOf b)))
 -- a field's views
 have hby:∀{i:Int},0<=i->i<m.Fields.length->(zeX L (zE m i).Number).map (thOf b)=(L.map (thOf b)).filter fun t=>t.fi==i:=fun {i} h0 h1=>by
  unfold zeX;rw [List.filter_map];congr 1;refine List.filter_congr fun v hv=>?_
  show decide (v.Field≠ -1/\v.R.Number=(zE m i).Number)=(v.Field==i);rw [yH,decide_eq_true_iff,qL];constructor
  ·rintro ⟨g1,g2⟩;obtain ⟨_,_,g3,_⟩:=(hvk v hv).resolve_left g1;rw [<-g3,g2,hat9 h0 h1]
  ·intro g;have g1:v.Field≠ -1:=by omega
   obtain ⟨_,_,_,g4⟩:=(hvk v hv).resolve_left g1;exact ⟨g1,by rw [<-g4,g]⟩
 have hvoT:∀{i:Int},0<=i->i<m.Fields.length->zeX L (zE m i).Number≠[]->vo i=valT (ofM s) (zE m i) ((zeX L (zE m i).Number).map (thOf b))/\∀t∈(zeX L (zE m i).Number).map (thOf b),OkF (zE m i) t/\OkT s d m t/\t.fi=i:=fun {i} h0 h1 hne=>by
  have hT:=hby h0 h1;have hmem:∀t∈(zeX L (zE m i).Number).map (thOf b),OkF (zE m i) t/\OkT s d m t/\t.fi=i:=fun t ht=>by
   rw [hT,yc] at ht;have hfi':t.fi=i:=by simpa using ht.2
   have ho:=we t ht.1;refine ⟨⟨fun hr=>?_,fun hr=>?_⟩,ho,hfi'⟩
   ·have:=ho.run (by omega) hr;rw [hfi'] at this;exact ⟨this.1,this.2.1⟩
   ·have:=ho.one (by omega) hr;rw [hfi'] at this;exact ⟨this.1,this.2.1⟩
  refine ⟨?_,hmem⟩;obtain ⟨j,rfl⟩:∃j:Nat,i=j:=⟨i.toNat,by omega⟩;have hjl:j<m.Fields.length:=by omega
  have hkr:zbL (zE m (j:Int)).Kind=true:=by rw [zcQ hjl];exact (hfld _ (xF hjl)).kind
  show valO _ _ (accF _ _ _ _ _)=_;rw [zmj,<-hT,zKc _ hkr (by simpa using hne) fun t ht=>(hmem t ht).1]
 have hkn:∀n∈ks,∃i:Int,0<=i/\i<m.Fields.length/\(zE m i).Number=n/\fldI m n=i/\zeX L n≠[]/\∀v∈zeX L n,v.Field=i:=fun n hn=>by
  obtain ⟨v,hv,hf,hnn⟩:=(hkm n).1 hn;obtain ⟨g0,g1,g2,g3⟩:=(hvk v hv).resolve_left hf;refine ⟨v.Field,g0,g1,by rw [g3,hnn],by rw [<-hnn,g2],fun e=>?_,fun u hu=>?_⟩
  ·have:v∈zeX L n:=yc.2 ⟨hv,by simp [hf,hnn]⟩;rw [e] at this;cases this
  ·obtain ⟨hu1,hu2⟩:=yc.1 hu;obtain ⟨hu3,hu4⟩:=yr hu2;obtain ⟨_,_,q2,_⟩:=(hvk u hu1).resolve_left hu3;rw [<-q2,hu4,<-hnn,g2]
 have hkl:ks.length<=1048576:=by
  have wb:ks.length=(L.foldl kn14 []).length:=by
   unfold zqm at hks;split at hks
   ·cases hks;simp
   ·cases hks
  have:=zBq L [];rw [yF] at this;omega
 have hl2:=zlp (rec3:=ziz (n+2)) (s:=s) (m:=m) (b:=b) (q:=(L.foldl kn14 [],unkO (L.map (thOf b)))) (V:=fun w=>vo (fldI m w)) hkl (fun w hn=>by
  obtain ⟨i,h0,h1,h2,h3,h4,h5⟩:=hkn w hn;have hwf:=zxw (fun t=>t.fi==i) (L.map (thOf b));rw [<-hby h0 h1,h2] at hwf;have hw':wt ((zeX L w).map (thOf b))<=1048576:=by omega
  obtain ⟨v0,r0,hv0⟩:=p7 h4;obtain ⟨j,hj⟩:∃j:Nat,i=j:=⟨i.toNat,by omega⟩;have hjl:j<m.Fields.length:=by omega
  have hfj:idx m.Fields i=some (zE m i):=by rw [hj,zaf rfl hjl,zcQ hjl]
  have hfm:zE m i∈m.Fields:=by rw [hj,zcQ hjl];exact xF hjl
  have hv0m:v0∈zeX L w:=by rw [hv0];exact xw
  have hv0f:v0.Field=i:=h5 v0 hv0m;have hvT:=hvoT h0 h1 (by rw [h2];exact h4);rw [h2] at hvT;have hbat:At14 b (zeX L w):=fun v hv=>hat v (yc.1 hv).1
  have wb:=zGP (ofM s) (zE m i) hw';rw [<-hvT.1] at wb;refine ⟨prV v0,zE m i,?_,?_,?_,by rw [h3];exact wb⟩
  ·rw [hrowis,hv0];rfl
  ·have:(prV v0).Field=v0.Field:=rfl;rw [this,hv0f];exact hfj
  ·rw [hrowis,h3,hvT.1];show zgu (zdY (n+1)) (zoN (n+1)) (ziz (n+1)) s (zE m i) b _=_;refine zEz hb hbat h4 hw' fun wa=>?_
   show zhm (zdY n) (zoN n) (ziz n) s (zE m i) b _=_;have hof:=(hfld _ hfm).sub wa;obtain ⟨k',hk'⟩:∃k':Nat,(zE m i).Of=k':=⟨(zE m i).Of.toNat,by omega⟩;have hone:∀t∈zeX L w,∃e,d=e+1/\zai s e (zE m i).Of (valB b t.R)=none:=fun t ht=>by
    obtain ⟨o1,o2,o3⟩:=hvT.2 _ (yT (f:=thOf b) ht);have hr:(thOf b t).run=false:=by
     cases hr:(thOf b t).run
     ·rfl
     ·have:=(o1.1 hr).1;rw [wa] at this;cases this
    have:=(o2.one (by omega) hr).2.2.2;rw [o3] at this;exact this wa
   refine zGM hbat h4 hw' (fun hr t ht=>?_) (fun hr=>?_)
   ·obtain ⟨e,he,hfe⟩:=hone t ht;have hvl:=zvD (yT (f:=thOf b) ht);have hvl':(valB b t.R).length+1<=wt ((zeX L w).map (thOf b)):=hvl;rw [hk'] at hfe|-;exact hrec e he k' _ (by omega) (by omega) hfe
   ·obtain ⟨e,he,_⟩:=hone v0 hv0m;have hfl:=zrv ((zeX L w).map (thOf b));have hff:zai s e (zE m i).Of (((zeX L w).map (thOf b)).flatMap (·.val))=none:=by
     rw [pm];refine zqd _ fun v hv=>?_
     obtain ⟨t',ht',rfl⟩:=xD.1 hv;obtain ⟨t,ht,rfl⟩:=xD.1 ht';obtain ⟨e',he',hfe⟩:=hone t ht;have:e'=e:=by omega
     rw [<-this];exact hfe
    rw [hk'] at hff|-;exact hrec e he k' _ (by omega) (by omega) hff) ks.length 0 [] (xQ _) (xA _)
 have hl2':zey b (L.foldl kn14 [],unkO (L.map (thOf b))) (ziz (n+2)) s ks m 0 []=_:=hl2;rw [hl2',sb,xR,xM];have hfin:((ks.map fun w=>vo (fldI m w)).filter fun v=>decide (0<zci v))=zsH (ofM s) m (L.map (thOf b)) (zfL (zgH m) m.Fields.length):=by
  show _=(((zfL (zgH m) m.Fields.length).map vo).filter fun v=>decide (0<zci v));rw [zua vo (fun v=>decide (0<zci v)) (fun i=> !(zeX L (zE m i).Number).isEmpty) _ fun i hi hme=>?_]
  ·have hsub:∀i∈(zfL (zgH m) m.Fields.length).filter (fun i=> !(zeX L (zE m i).Number).isEmpty),0<=i/\i<m.Fields.length:=fun i hi=>zfk.1 (yc.1 hi).1
   have hks2:((zfL (zgH m) m.Fields.length).filter (fun i=> !(zeX L (zE m i).Number).isEmpty)).map (zgH m)=ks:=by
    refine zsA _ _ ?_ hkp fun w=>?_
    ·rw [List.pairwise_map];exact hris.filter _
    ·rw [xD];constructor
     ·rintro ⟨i,hi,rfl⟩;obtain ⟨hi1,hi2⟩:=yc.1 hi;have hne:zeX L (zE m i).Number≠[]:=by
       intro e;rw [e] at hi2;simp at hi2
      obtain ⟨v0,r0,hv0⟩:=p7 hne;have hv0m:v0∈zeX L (zE m i).Number:=by rw [hv0];exact xw
      obtain ⟨q1,q2⟩:=yc.1 hv0m;obtain ⟨q3,q4⟩:=yr q2;exact (hkm _).2 ⟨v0,q1,q3,q4⟩
     ·intro hw;obtain ⟨i,h0,h1,h2,h3,h4,_⟩:=hkn w hw;exact ⟨i,yc.2 ⟨zfk.2 ⟨h0,h1⟩,by rw [h2];simpa using h4⟩,h2⟩
   have e1:(ks.map fun w=>vo (fldI m w))=((zfL (zgH m) m.Fields.length).filter (fun i=> !(zeX L (zE m i).Number).isEmpty)).map vo:=by
    rw [<-hks2,yM];refine qy fun i hi=>?_
    show vo (fldI m (zgH m i))=vo i;rw [znu,hat9 (hsub i hi).1 (hsub i hi).2]
   rw [e1]
  ·obtain ⟨h0,h1⟩:=zfk.1 hi;have hbe:zeX L (zE m i).Number=[]:=by simpa using hme
   have hT:=hby h0 h1;rw [hbe] at hT;have hvo:vo i=valO (ofM s) (zE m i) acc0:=by
    show valO _ _ (accF _ _ _ _ _)=_;rw [zmj,<-hT];rfl
   rw [hvo];rfl
 rw [hfin];rfl
theorem zGH (hs:zfa s):∀(d fuel k:Nat) (b:List UInt8),k<s.length->b.length<=1048576->3*d+3<=fuel->zai s d k b=none->zdY fuel s k b=some (ofM s k b):=by
 intro d
 induction d with
 | zero=>
  intro fuel k b hk hb hf hfi;obtain ⟨n,rfl⟩:∃n,fuel=n+3:=⟨fuel - 3,by omega⟩;exact zvj hs hk hb hfi fun e he=>by omega
 | succ d ih=>
  intro fuel k b hk hb hf hfi;obtain ⟨n,rfl⟩:∃n,fuel=n+3:=⟨fuel - 3,by omega⟩;exact zvj hs hk hb hfi fun e he k' v h1 h2 h3=>by
   have:e=d:=by omega
   subst this;exact ih n k' v h1 h2 (by omega) h3
theorem zGI (root:Int) (d:Int) (hf:300<=fuel) (hw:WS s) (hb:b.length<=1048576):zoM fuel s root b d=some (znX s root b d):=by
 unfold zoM znX;rw [zED hw root hb d (by omega),sb];by_cases h0:(zeD s root b d).2=0
 ·have h0':¬(zeD s root b d).2≠0:=fun h=>h h0
  obtain ⟨hr,g1,g2,g3,g4⟩:=zom (zxJ h0);obtain ⟨k,rfl⟩:∃k:Nat,root=k:=⟨root.toNat,by omega⟩;have hfi:zai s d.toNat k b=none:=(zql.1 (by unfold is11;simpa using h0)).2;rw [itF (by simpa using h0),xt h0',zGH hr d.toNat fuel k b (by omega) hb (by omega) hfi,sb]
 ·rw [itT (by simpa using h0),xu h0]
structure zwg (l:List zaD):Prop where
 sorted:l.Pairwise (fun a b=>zcu a b=true)
 full:∀w∈l,w≠[]
 anti:∀v∈l,∀w∈l,v<+:w->v=w
theorem zwg.of (h:zwg l):ofW l=l:=
 zsD _ _ (zBB l) h.sorted fun w=>by
  rw [zCY];exact ⟨fun k=>k.1,fun hw=>⟨hw,h.full w hw,fun v hv _ hp=>h.anti v hv w hw hp⟩⟩
theorem zwg.filter (h:zwg l) (p:zaD->Bool):zwg (l.filter p):=
 ⟨h.sorted.filter p,fun w hw=>h.full w (yc.1 hw).1,fun v hv w hw=>h.anti v (yc.1 hv).1 w (yc.1 hw).1⟩
structure Fo (pre acc:List zaD):Prop where
 mask:zwg acc
 has:∀v,hasB acc v=hasB pre v
 mem:∀a∈acc,a∈pre
abbrev zKj:=List (zJb×Int)
structure Trie (t:zKj) (A:List zaD) (P:List (zaD×Int)):Prop where
 root:([],0)∈P
 same:∀p∈P,∀q∈P,(p.2=q.2↔p.1=q.1)
 ids:∀p∈P,0<=p.2/\p.2<=t.length
 keys:∀(i n:Int),(t.length:Int)<i->mget t ⟨i,n⟩=none
 leaf:∀p∈P,∀n,p.1++[n]∈A->mget t ⟨p.2,n⟩=some (-1)
 node:∀p∈P,∀n,∀q∈P,q.1=p.1++[n]->mget t ⟨p.2,n⟩=some q.2
 none:∀p∈P,∀n,p.1++[n]∉A->(∀q∈P,q.1≠p.1++[n])->mget t ⟨p.2,n⟩=none
 clo:∀q∈P,∀p n,q.1=p++[n]->∃i,(p,i)∈P
 comp:∀a∈A,∀p,p<+:a->p≠a->∃i,(p,i)∈P
 anti:∀v∈A,∀w∈A,v<+:w->v=w
 full:∀a∈A,a≠[]
section
end
def UW (w:List zaD):Prop:=w.length<=4194304/\∀x∈w,x.length<=4194304
theorem UW.of (h:UW w):UW (ofW w):=⟨yn (zHO w) h.1,fun x hx=>h.2 x (zCY.1 hx).1⟩
theorem UW.filter (h:UW w) (p:zaD->Bool):UW (w.filter p):=⟨yn (q8 _ _) h.1,fun x hx=>h.2 x (yc.1 hx).1⟩
theorem zDI (h:0<=fldI m n):fldI m n<m.Fields.length/\(zE m (fldI m n)).Number=n:=by
 rcases zdM m n with ⟨e,_⟩| ⟨i,hi,e,hn,_⟩
 ·omega
 ·rw [e];refine ⟨by omega,?_⟩;unfold zE;rw [xH,px,xL hi];exact hn
structure Ok15 (fuel:Nat) (x:Msg):Prop where
 b:bdM x
 s:smM x
 z:2*szM x<fuel
 d:szM x<=131072
theorem Ok15.dm (h:Ok15 fuel x):dM x<=131072:=by have:=zCm x;have:=h.d;omega
theorem Ok15.right {fuel:Nat} {x:Msg} (h:Ok15 fuel x) {s:List Mes} (hw:WS s) (root:Int):zix fuel s root x=some (zfX s&&zaN s x root):=zvo root h.z hw h.b h.s h.dm
def jv15 (s:List Mes) (a:Msg) (k:Int) (v:Vlu):Vlu:=zhA s v (look a.Values v.Number) (zE (zx s k) (fldI (zx s k) v.Number))
structure Jm (s:List Mes) (a:Msg) (k:Int) (t:List Vlu) (q:List (Int×Vlu)):Prop where
 nd:(q.map Prod.fst).Nodup
 get:∀n,mget q n=match look t n with
  | some v=>some (jv15 s a k v)
  | none=>look a.Values n
 len:q.length<=a.Values.length+t.length
theorem Jm.put (h:Jm s a k t q) (hn:look t v.Number=none):Jm s a k (t++[v]) (mput q v.Number (jv15 s a k v)):=by
 refine ⟨zmr h.nd _ _,fun n=>?_,?_⟩
 ·rw [zhd,znz];by_cases e:n=v.Number
  ·subst e;rw [xu rfl,hn];simp only;rw [zcd,xu rfl]
  ·rw [xt e,h.get];cases hl:look t n with
   | some u=>rfl
   | none=>
    simp only;rw [zcd,xt (fun e'=>e e'.symm)];rfl
 ·have:=zzQ q v.Number (jv15 s a k v);have:=h.len;rw [xC,y9];omega
mutual
def encM (s:List Mes):Msg->Int->List UInt8
 | ⟨vs,u⟩,k=>zlE s vs (zx s k)++u.flatten
def zlE (s:List Mes):List Vlu->Mes->List UInt8
 | [],_=>[]
 | v::l,m=>encV s v (zE m (fldI m v.Number))++zlE s l m
def encV (s:List Mes):Vlu->Fld->List UInt8
 | ⟨n,w,t,sub⟩,f=>if kNum f.Kind=true then (if f.Repeated=true then put5 f.Number 2 (w.flatMap (sPut f.Kind)) else put5 f.Number (zaW f.Kind) (sPut f.Kind (w.headD 0))) else t.flatMap (put5 f.Number 2)++zlD s sub f
def zlD (s:List Mes):List Msg->Fld->List UInt8
 | [],_=>[]
 | x::l,f=>put5 f.Number 2 (encM s x f.Of)++zlD s l f
end
theorem ztf (s:List Mes) (x:Msg) (k:Int):encM s x k=zlE s x.Values (zx s k)++x.Unknown.flatten:=by cases x;rw [encM]
theorem ztg (s:List Mes) (v:Vlu) (f:Fld):encV s v f=if kNum f.Kind=true then (if f.Repeated=true then put5 f.Number 2 (v.Words.flatMap (sPut f.Kind)) else put5 f.Number (zaW f.Kind) (sPut f.Kind (v.Words.headD 0))) else v.Texts.flatMap (put5 f.Number 2)++zlD s v.Subs f:=by cases v;rw [encV]
theorem zty {n w:Int} (h1:1<=n) (h2:n<=536870911) (hw:0<=w/\w<=7) {v:List UInt8} (hv:v.length<=1048576):(put5 n w v).length<=15+v.length:=by
 have e:tW n w<34359738368:=by unfold tW;omega
 have h3:=zop (tW n w);have h4:=zHB e;have h5:=zli (v:=v.length) (by omega);rw [ziU];split<;>omega
theorem zFD (k:Int):0<=zaW k/\zaW k<=7:=by unfold zaW;split;omega;split;omega;split<;>omega
theorem zsp {k:Int} (hk:zbL k=true) {n:Int} (h1:1<=n) (h2:n<=536870911):zck n (zaW k)=true:=by
 rw [zdN];refine ⟨h1,h2,?_⟩;unfold zaW;split
 ·exact .inr (.inr (.inl rfl))
 ·split
  ·exact .inr (.inl rfl)
  ·split
   ·exact .inr (.inr (.inr rfl))
   ·exact .inl rfl
theorem zqf {k:Int}:∀{l:List Int},(∀w∈l,0<=w/\w<=18446744073709551615)->(l.flatMap (sPut k)).length<=10*l.length
 | [],_=>by simp
 | w::l,h=>by
  have h1:=zkz (k:=k) (h w xw);have h2:=zqf (k:=k) fun x hx=>h x (xx _ hx)
  rw [xS,xC,xK];omega
theorem zue {n:Int} (h1:1<=n) (h2:n<=536870911):∀{l:List Str},(∀t∈l,t.length<=1048576)->(l.flatMap (put5 n 2)).length<=15*(l.map fun t=>1+t.length).sum
 | [],_=>by simp
 | t::l,h=>by
  have h3:=zty h1 h2 (w:=2) (by omega) (h t xw);have h4:=zue h1 h2 fun x hx=>h x (xx _ hx)
  rw [xS,xC,xJ,yG];omega
theorem zsm:∀(l:List Str),l.flatten.length<=(l.map fun t=>1+t.length).sum
 | []=>by simp
 | t::l=>by
  have:=zsm l;rw [qq,xC,xJ,yG];omega
theorem zBh {l:List Int} (h:∀x∈l,0<=x/\x<=18446744073709551615):0<=l.headD 0/\l.headD 0<=18446744073709551615:=by
 cases l with
 | nil=>simp
 | cons x l=>exact h x xw
theorem zjM {s:List Mes} (hs:zfa s):∀(N:Nat),(∀(x:Msg) (k:Int),szM x<=N->bdM x->wgM x<=30000->zaN s x k=true->(encM s x k).length+16<=32*wgM x)/\
  ∀(v:Vlu) (f:Fld),szV v<=N->bdV v->wgV v<=30000->1<=f.Number->f.Number<=536870911->zhU s v f=true->(encV s v f).length<=32*wgV v
 | 0=>⟨fun x k h=>by rw [zcg] at h;omega,fun v f h=>by rw [zdX] at h;omega⟩
 | N+1=>by
  obtain ⟨ih1,ih2⟩:=zjM hs N;refine ⟨fun x k wh hb hw hr=>?_,fun v f wh hb hw n1 n2 hf=>?_⟩
  ·obtain ⟨_,_,b4⟩:=(zgP x).1 hb;rw [zcg] at wh;rw [zhR] at hw|-;obtain ⟨k0,k1,_,hv,_⟩:=zcm hr;rw [ztf];have hmm:zx s k∈s:=by
    obtain ⟨n,rfl⟩:∃n:Nat,k=n:=⟨k.toNat,by omega⟩;rw [zeI (by omega)];exact xF _
   generalize zx s k=m at hv hmm|-
   have hall:∀l:List Vlu,(∀v∈l,v∈x.Values)->(zlE s l m).length<=32*wgVs l:=by
    intro l
    induction l with
    | nil=>intro _;simp [zlE,wgVs]
    | cons v l ih=>
     intro hl;have hvm:=hl v xw;have i1:=ih fun w hw=>hl w (xx _ hw)
     have s1:=zdB hvm;have w1:=zog hvm;obtain ⟨f0,hfit⟩:=hv v hvm;rcases zdM m v.Number with ⟨hf,_⟩| ⟨j,hj,hf,_⟩
     ·omega
     have hfm:zE m (fldI m v.Number)∈m.Fields:=by rw [hf,zcQ hj];exact xF hj
     have hfo:=hs.fld _ hmm _ hfm;have:=ih2 v (zE m (fldI m v.Number)) (by omega) (zdi.1 b4 v hvm) (by omega) hfo.lo hfo.hi hfit;rw [zlE,wgVs,xC];omega
   have h1:=hall x.Values fun v hv=>hv
   have h2:=zsm x.Unknown;rw [xC];omega
  ·obtain ⟨_,⟨_,bw⟩,_,_,b5⟩:=(zfT v).1 hb;rw [zdX] at wh;rw [zgW] at hw|-;have hfs:=zef hf;rw [ztg];by_cases hn:kNum f.Kind=true
   ·rw [xu hn];split
    ·have h1:=zqf (k:=f.Kind) bw;have h2:=zty n1 n2 (w:=2) (by omega) (v:=v.Words.flatMap (sPut f.Kind)) (by omega);omega
    ·have h1:=zkz (k:=f.Kind) (zBh bw);have h2:=zty n1 n2 (zFD f.Kind) (v:=sPut f.Kind (v.Words.headD 0)) (by omega);omega
   ·rw [xt hn,xC];have hts:∀t∈v.Texts,t.length<=1048576:=fun t ht=>by have:=zmB ht;omega
    have h1:=zue n1 n2 hts;have hall:∀l:List Msg,(∀x∈l,x∈v.Subs)->(zlD s l f).length<=32*wgMs l:=by
     intro l
     induction l with
     | nil=>intro _;simp [zlD,wgMs]
     | cons x l ih=>
      intro hl;have hxm:=hl x xw;have i1:=ih fun w hw=>hl w (xx _ hw)
      have s1:=zdA hxm;have w1:=zji hxm;have h3:=ih1 x f.Of (by omega) (zdO.1 b5 x hxm) (by omega) (hfs.subs x hxm).2;have h4:=zty n1 n2 (w:=2) (by omega) (v:=encM s x f.Of) (by omega);rw [zlD,wgMs,xC];omega
    have h2:=hall v.Subs fun x hx=>hx
    omega
theorem zml (s:List Mes) (m:Mes):∀(l:List Vlu),zlE s l m=l.flatMap fun v=>encV s v (zE m (fldI m v.Number))
 | []=>by rw [zlE];rfl
 | v::l=>by rw [zlE,zml s m l,xS]
theorem zps (s:List Mes) (f:Fld):∀(l:List Msg),zlD s l f=l.flatMap fun x=>put5 f.Number 2 (encM s x f.Of)
 | []=>by rw [zlD];rfl
 | v::l=>by rw [zlD,zps s f l,xS]
structure zsg (s:List Mes) (d:Nat) (k:Int) (p:List UInt8) (t:Th):Prop where
 ok:zai s d k p=none
 th:ths (zx s k) p=[t]
theorem pieces {s:List Mes} {d:Nat} {k:Int}:∀{ps:List (List UInt8×Th)},(∀p∈ps,zsg s d k p.1 p.2)->zai s d k (ps.flatMap (·.1))=none/\ths (zx s k) (ps.flatMap (·.1))=ps.map (·.2)
 | [],_=>by
  have h:=znm s d k;refine ⟨h,?_⟩;rw [pW,zpL h,zfD];rfl
 | p::ps,h=>by
  obtain ⟨h1,h2⟩:=pieces fun q hq=>h q (xx _ hq)
  have hp:=h p xw;rw [xS];refine ⟨(zjB s d k _ hp.ok).2 h1,?_⟩;rw [zBR hp.ok h1,hp.th,h2];rfl
theorem zoA {s:List Mes} {d:Nat} {k:Int} {n w:Int} {v:List UInt8} (hr:zck n w=true) (hf:zcB w v=true) (hv:v.length<=1048576) {i:Int} {run:Bool} (hvw:vw (zx s k) n w= .inr (i,run)) (hi:0<=i)
  (hl:∀r:Rec,r.At=((put5 n w v).length - v.length:Nat)->r.From=0->zgz (zE (zx s k) i) run (zAm s d) r v=none):zsg s d k (put5 n w v) ⟨i,run,v,put5 n w v⟩:=by
 have hsp:=zIf hr hf hv;have wb:v.length<=(put5 n w v).length:=by rw [ziU];omega
 have hval:valB (put5 n w v) ⟨n,w,0,(((put5 n w v).length - v.length:Nat):Int),((put5 n w v).length:Int)⟩=v:=by
  unfold valB;simp only [xH];rw [show (put5 n w v).length - ((put5 n w v).length - v.length)=v.length by omega];have e:(put5 n w v).drop ((put5 n w v).length - v.length)=v:=by
   have:put5 n w v=(enc (tW n w)++(if w=2 then enc v.length else []))++v:=rfl;have e2:(put5 n w v).length - v.length=(enc (tW n w)++(if w=2 then enc v.length else [])).length:=by rw [this,xC];omega
   rw [e2,this,q6]
  rw [e,pB]
 have hraw:rawB (put5 n w v) ⟨n,w,0,(((put5 n w v).length - v.length:Nat):Int),((put5 n w v).length:Int)⟩=put5 n w v:=by
  unfold rawB;simp
 have we:zai s d k (put5 n w v)=none:=by
  rw [zig,zdE,hsp];refine ⟨fun r hr'=>?_,rfl⟩;rw [xT.1 hr'];unfold zcJ;simp only [hvw];rw [xt (by omega),hval];exact hl _ rfl rfl
 refine ⟨we,?_⟩;rw [zpL we,hsp,yX];unfold thR;have e:vwG (zx s k) ⟨n,w,0,(((put5 n w v).length - v.length:Nat):Int),((put5 n w v).length:Int)⟩=(i,run):=by unfold vwG;simp only [hvw]
 rw [e,hval,hraw]
theorem zEf {s:List Mes} {d:Nat} {k:Int} {u:List UInt8} (h:unkR (zx s k) u=true):∃t,zsg s d k u t/\t.fi<0/\t.raw=u:=by
 unfold unkR at h;simp only [xy,qL,xY] at h;obtain ⟨⟨h1,h2⟩,h3⟩:=h;unfold zeJ at h1 h2 h3;by_cases hu:(0:Int)<0\/(0:Int)>=u.length
 ·rw [xu hu] at h1;simp at h1
 ·rw [xt hu] at h1 h2 h3;simp only [Int.toNat_zero,xR] at h1 h2 h3;rcases ziq u with ⟨c,hc,hcc⟩| ⟨n,w,kk,a,t,hc,_,hr,_,g1,g2,g3,g4,g5,_⟩
  ·rw [hc] at h1;simp only at h1;omega
  ·rw [hc] at h2 h3;simp only at h2 h3;have ht:t=u.length:=by omega
   have hne:u≠[]:=fun e=>by subst e;simp at hu
   have hsp:spl 0 u=([⟨n,w,((0:Nat):Int),((0+a:Nat):Int),((0+t:Nat):Int)⟩],none):=by
    rw [zeo hne hc,ht,q7,zfD]
   have hvw:vw (zx s k) n w= .inr (-1,false):=by
    unfold vw;rw [xu h3]
   have we:zai s d k u=none:=by
    rw [zig,zdE,hsp];refine ⟨fun r hr'=>?_,rfl⟩;rw [xT.1 hr'];unfold zcJ;simp only [hvw];rw [xu (by omega)]
   refine ⟨thR (zx s k) u ⟨n,w,((0:Nat):Int),((0+a:Nat):Int),((0+t:Nat):Int)⟩,⟨we,by rw [zpL we,hsp,yX]⟩,?_,?_⟩
   ·unfold thR vwG;simp only [hvw];omega
   ·unfold thR rawB;simp only [ht];simp
def pcsV (s:List Mes) (f:Fld) (i:Int) (v:Vlu):List (List UInt8×Th):=
 if kNum f.Kind=true then (if f.Repeated=true then [(put5 f.Number 2 (v.Words.flatMap (sPut f.Kind)),⟨i,true,v.Words.flatMap (sPut f.Kind),put5 f.Number 2 (v.Words.flatMap (sPut f.Kind))⟩)]
  else [(put5 f.Number (zaW f.Kind) (sPut f.Kind (v.Words.headD 0)),⟨i,false,sPut f.Kind (v.Words.headD 0),put5 f.Number (zaW f.Kind) (sPut f.Kind (v.Words.headD 0))⟩)])
 else v.Texts.map (fun t=>(put5 f.Number 2 t,⟨i,false,t,put5 f.Number 2 t⟩))++v.Subs.map (fun x=>(put5 f.Number 2 (encM s x f.Of),⟨i,false,encM s x f.Of,put5 f.Number 2 (encM s x f.Of)⟩))
theorem zGb (s:List Mes) (f:Fld) (i:Int) (v:Vlu):(pcsV s f i v).flatMap (·.1)=encV s v f:=by
 unfold pcsV;rw [ztg];split
 ·split<;>simp
 ·rw [y6,zps,pC,pC]
theorem zym (s:List Mes) (f:Fld) (i:Int) (v:Vlu):∀p∈pcsV s f i v,p.2.fi=i:=by
 intro p hp;unfold pcsV at hp;split at hp
 ·split at hp
  ·rw [xT.1 hp]
  ·rw [xT.1 hp]
 ·rcases xB.1 hp with hp| hp
  ·obtain ⟨t,_,rfl⟩:=xD.1 hp;rfl
  ·obtain ⟨t,_,rfl⟩:=xD.1 hp;rfl
theorem zoB {f:Fld} {w:Int} (h:zia f w=true) (hr:0<=w/\w<=18446744073709551615):kNum f.Kind=true/\zgX f.Kind (sPut f.Kind w)=w/\(zlV f.Kind (sPut f.Kind w)).1=w/\zcB (zaW f.Kind) (sPut f.Kind w)=true:=by
 unfold zia at h;simp only [xy,qL] at h;obtain ⟨h1,h2⟩:=h;have hc:=zgF f.Kind hr;have hfit:zcB (zaW f.Kind) (sPut f.Kind w)=true:=znQ h1 (by omega);have hs:=zBK h1 hr;have hp:=zla h1 hfit;rw [hs] at hp;have e:zgX f.Kind (sPut f.Kind w)=zbB f.Kind w:=(congrArg Prod.fst hp).symm;exact ⟨h1,by rw [e,h2],by rw [hs,h2],hfit⟩
theorem zBZ {f:Fld} (hk:kNum f.Kind=true) {l:List Int} (h:∀w∈l,zia f w=true) (hr:∀w∈l,0<=w/\w<=18446744073709551615):zbt f.Kind (l.flatMap (sPut f.Kind))=(l,0):=by
 unfold zbt;rw [xt (by rw [hk];simp),zuO hk l hr,xu rfl,yM];have e:l.map (zgX f.Kind∘sPut f.Kind)=l:=by
  have:l.map (zgX f.Kind∘sPut f.Kind)=l.map id:=qy fun w hw=>(zoB (h w hw) (hr w hw)).2.1
  rw [this,List.map_id]
 rw [e]
theorem znn (v:List UInt8):zcB 2 v=true:=by unfold zcB;rw [xt (by omega)];simp
theorem zHS {s:List Mes} {d:Nat} {k:Int} {f:Fld} {i:Int} {v:Vlu} (hi:0<=i) (hf:zE (zx s k) i=f) (hn:fldI (zx s k) f.Number=i) (n1:1<=f.Number) (n2:f.Number<=536870911) (hfs:zgY s v f)
  (hw:∀w∈v.Words,0<=w/\w<=18446744073709551615) (hwl:v.Words.length<=30000) (ht:∀t∈v.Texts,t.length<=1048576)
  (hx:∀x∈v.Subs,(encM s x f.Of).length<=1048576/\∃e,d=e+1/\zai s e f.Of (encM s x f.Of)=none):∀p∈pcsV s f i v,zsg s d k p.1 p.2:=by
 intro p hp;have t2:zck f.Number 2=true:=zdN.2 ⟨n1,n2,.inr (.inr (.inl rfl))⟩;unfold pcsV at hp;by_cases hk:kNum f.Kind=true
 ·rw [xu hk] at hp;by_cases hr:f.Repeated=true
  ·rw [xu hr] at hp;rw [xT.1 hp];have hvw:vw (zx s k) f.Number 2= .inr (i,true):=by
    unfold vw;rw [hn,xt (by omega),hf,xu ⟨hr,hk,rfl⟩]
   have h1:=zqf (k:=f.Kind) hw;refine zoA t2 (znn _) (by omega) hvw hi fun r _ _=>?_
   unfold zgz;have he:(zkT f.Kind (v.Words.flatMap (sPut f.Kind))).2=0:=by
    unfold zkT;rw [xt (by rw [hk];simp),zuO hk _ hw,xu rfl]
   rw [xu rfl,hf,he,xt (by simp)]
  ·rw [xt hr] at hp;rw [xT.1 hp];have hone:=hfs.one (by simpa using hr);have hnt:=hfs.noTexts (by have:=zhE hk;omega);have hns:=hfs.noSubs (zhE hk).1;unfold zci at hone;rw [hnt,hns] at hone;simp only [yF,yy] at hone;obtain ⟨w,hwd⟩:∃w,v.Words=[w]:=pf.1 hone;have hwr:=hw w (by rw [hwd];exact xw);have hc:=zoB (hfs.words w (by rw [hwd];exact xw)) hwr;rw [hwd];show zsg s d k (put5 f.Number (zaW f.Kind) (sPut f.Kind w)) ⟨i,false,sPut f.Kind w,put5 f.Number (zaW f.Kind) (sPut f.Kind w)⟩;have hvw:vw (zx s k) f.Number (zaW f.Kind)= .inr (i,false):=by
    unfold vw;rw [hn,xt (by omega),hf,xt (fun hh=>hr hh.1),xt (fun hh=>by rw [hfs.kind] at hh;rcases hh with hh| hh;cases hh;exact hh rfl)]
   have h1:=zkz (k:=f.Kind) hwr;refine zoA (zsp hfs.kind n1 n2) hc.2.2.2 (by omega) hvw hi fun r _ _=>?_
   unfold zgz;have:=zhE hk;rw [xt (by simp),hf,xt (fun hh=>this.2.1 hh.1),xt this.1]
 ·rw [xt hk] at hp;have hkk:zaW f.Kind=2:=by
   have h1:¬(1<=f.Kind/\f.Kind<=14):=fun hh=>hk (zeH.2 hh)
   have h2:1<=f.Kind/\f.Kind<=17:=by simpa [zbL] using hfs.kind
   unfold zaW;rw [xu (by omega)]
  have hvw:vw (zx s k) f.Number 2= .inr (i,false):=by
   unfold vw;rw [hn,xt (by omega),hf,xt (fun hh=>hk hh.2.1),xt (fun hh=>by rw [hfs.kind,hkk] at hh;rcases hh with hh| hh;cases hh;exact hh rfl)]
  rcases xB.1 hp with hp| hp
  ·obtain ⟨t,htm,rfl⟩:=xD.1 hp;refine zoA t2 (znn _) (ht t htm) hvw hi fun r _ _=>?_
   have htr:=hfs.texts t htm;unfold zkD at htr;unfold zgz;rw [xt (by simp),hf];by_cases h15:f.Kind=15
   ·simp [h15] at htr;rw [xt (fun hh=>by rw [htr] at hh;cases hh.2),xt (by omega)]
   ·have h16:f.Kind=16:=by simpa [h15] using htr
    rw [xt (fun hh=>h15 hh.1),xt (by omega)]
  ·obtain ⟨x,hxm,rfl⟩:=xD.1 hp;obtain ⟨x1,e,he,hv⟩:=hx x hxm;have wa:=(hfs.subs x hxm).1;refine zoA t2 (znn _) x1 hvw hi fun r _ _=>?_
   unfold zgz;rw [xt (by simp),hf,xt (fun hh=>by rw [wa] at hh;cases hh.1),xu wa,he];simp only [zAm,hv]
theorem zol {g:Int->List UInt8->Msg} {f:Fld} {i:Int}:∀{l:List Th} {a:zez},(∀t∈l,t.fi≠i)->accF g f i a l=a
 | [],a,_=>rfl
 | t::l,a,h=>by
  rw [accF,xt (h t xw),zol fun x hx=>h x (xx _ hx)]
theorem ztI {g:Int->List UInt8->Msg} {f:Fld} {i:Int} (hr:f.Repeated=true) (hk:kNum f.Kind=false) (wa:f.Kind≠17) {raw:Str->List UInt8}:∀(ts:List Str) (a:zez),∃b,accF g f i a (ts.map fun t=>⟨i,false,t,raw t⟩)=(a.1,b,a.2.2.1,a.2.2.2.1++ts,a.2.2.2.2)
 | [],a=>⟨a.2.1,by simp [accF]⟩
 | t::ts,a=>by
  obtain ⟨b,hb⟩:=ztI (raw:=raw) hr hk wa ts (stp g f a ⟨i,false,t,raw t⟩);refine ⟨b,?_⟩;rw [xJ,accF,xu rfl,hb];unfold stp;simp [hr,hk,wa]
theorem zwh {g:Int->List UInt8->Msg} {f:Fld} {i:Int} (hr:f.Repeated=true) (wa:f.Kind=17) {e:Msg->List UInt8} {raw:Msg->List UInt8}:∀(xs:List Msg) (a:zez),(∀x∈xs,g f.Of (e x)=x)->∃b,accF g f i a (xs.map fun x=>⟨i,false,e x,raw x⟩)=(a.1,b,a.2.2.1,a.2.2.2.1,a.2.2.2.2++xs)
 | [],a,_=>⟨a.2.1,by simp [accF]⟩
 | x::xs,a,h=>by
  obtain ⟨b,hb⟩:=zwh (raw:=raw) hr wa xs (stp g f a ⟨i,false,e x,raw x⟩) fun y hy=>h y (xx _ hy)
  refine ⟨b,?_⟩;have hk:kNum 17=false:=rfl;rw [xJ,accF,xu rfl,hb];unfold stp;simp [hr,hk,wa,h x List.mem_cons_self]
theorem zEO {s:List Mes} {g:Int->List UInt8->Msg} {f:Fld} {i:Int} {v:Vlu} (hfs:zgY s v f) (hn:v.Number=f.Number) (hw:∀w∈v.Words,0<=w/\w<=18446744073709551615) (hg:∀x∈v.Subs,g f.Of (encM s x f.Of)=x):
  valO g f (accF g f i acc0 ((pcsV s f i v).map (·.2)))=v:=by
 unfold pcsV;by_cases hk:kNum f.Kind=true
 ·rw [xu hk];have hnt:=hfs.noTexts (by have:=zhE hk;omega);have hns:=hfs.noSubs (zhE hk).1;have wa:=(zhE hk).1;by_cases hr:f.Repeated=true
  ·rw [xu hr,yX,accF,accF,xu rfl];unfold stp;simp only [yi,hr];rw [zBZ hk hfs.words hw];unfold valO acc0;simp only [xM];rw [xt (fun hh=>wa hh.2.1),<-hn];obtain ⟨n,w,t,sub⟩:=v;simp only at hnt hns|-;rw [hnt,hns]
  ·rw [xt hr,yX,accF,accF,xu rfl];have hone:=hfs.one (by simpa using hr);unfold zci at hone;rw [hnt,hns] at hone;simp only [yF,yy] at hone;obtain ⟨w,hwd⟩:∃w,v.Words=[w]:=pf.1 hone;have hc:=zoB (hfs.words w (by rw [hwd];exact xw)) (hw w (by rw [hwd];exact xw));unfold stp;rw [xt (by simp),xu hk,xt hr,xt hr,hwd];unfold valO acc0;simp only [xM,po];rw [xt (fun hh=>wa hh.2.1),hc.2.2.1,<-hn];obtain ⟨n,w',t,sub⟩:=v;simp only at hnt hns hwd|-;rw [hnt,hns,hwd]
 ·have hk':kNum f.Kind=false:=by simpa using hk
  rw [xt hk];have hnw:=hfs.noWords hk';by_cases wa:f.Kind=17
  ·have hnt:=hfs.noTexts (by omega);rw [hnt,yQ,xM,yM];by_cases hr:f.Repeated=true
   ·obtain ⟨b,hb⟩:=zwh (g:=g) (i:=i) (e:=fun x=>encM s x f.Of) (raw:=fun x=>put5 f.Number 2 (encM s x f.Of)) hr wa v.Subs acc0 hg;have hb':accF g f i acc0 (List.map ((fun x:List UInt8×Th=>x.2)∘fun x=>(put5 f.Number 2 (encM s x f.Of),(⟨i,false,encM s x f.Of,put5 f.Number 2 (encM s x f.Of)⟩:Th))) v.Subs)=_:=hb;rw [hb'];unfold valO acc0;simp only [xM];rw [xt (fun hh=>by rw [hr] at hh;cases hh.2.2),<-hn];obtain ⟨n,w,t,sub⟩:=v;simp only at hnt hnw|-;rw [hnt,hnw]
   ·have hr':f.Repeated=false:=by simpa using hr
    obtain ⟨x,hv,hx⟩:=hfs.msg wa hr';have hsub:v.Subs=[x]:=by rw [hv]
    have hgx:=hg x (by rw [hsub];exact xw);have e17:kNum 17=false:=rfl;rw [hsub,yX];show valO g f (accF g f i acc0 [⟨i,false,encM s x f.Of,put5 f.Number 2 (encM s x f.Of)⟩])=v;rw [accF,accF,xu rfl];unfold stp valO acc0;simp [wa,e17,hr',hgx];rw [hv,<-hn]
  ·have hns:=hfs.noSubs wa;rw [hns,yQ,yw,yM];by_cases hr:f.Repeated=true
   ·obtain ⟨b,hb⟩:=ztI (g:=g) (i:=i) (raw:=fun t=>put5 f.Number 2 t) hr hk' wa v.Texts acc0;have hb':accF g f i acc0 (List.map ((fun x:List UInt8×Th=>x.2)∘fun t=>(put5 f.Number 2 t,(⟨i,false,t,put5 f.Number 2 t⟩:Th))) v.Texts)=_:=hb;rw [hb'];unfold valO acc0;simp only [xM];rw [xt (fun hh=>wa hh.2.1),<-hn];obtain ⟨n,w,t,sub⟩:=v;simp only at hns hnw|-;rw [hns,hnw]
   ·have hr':f.Repeated=false:=by simpa using hr
    have hone:=hfs.one hr';unfold zci at hone;rw [hnw,hns] at hone;simp only [yF,yy,xQ] at hone;obtain ⟨t,htd⟩:∃t,v.Texts=[t]:=pf.1 hone;rw [htd,yX];show valO g f (accF g f i acc0 [⟨i,false,t,put5 f.Number 2 t⟩])=v;rw [accF,accF,xu rfl];unfold stp valO acc0;simp [wa,hk',hr'];obtain ⟨n,w,t',sub⟩:=v;simp only at hns hnw htd hn|-;rw [hns,hnw,htd,hn]
theorem zvp {s:List Mes} {d:Nat} {k:Int}:∀{us:List Str},(∀u∈us,unkR (zx s k) u=true)->∃ps:List (List UInt8×Th),(∀p∈ps,zsg s d k p.1 p.2/\p.2.fi<0/\p.2.raw=p.1)/\ps.map (·.1)=us
 | [],_=>⟨[],(fun p hp=>nomatch hp),rfl⟩
 | u::us,h=>by
  obtain ⟨t,h1,h2,h3⟩:=zEf (d:=d) (h u xw);obtain ⟨ps,h4,h5⟩:=zvp (d:=d) fun x hx=>h x (xx _ hx)
  refine ⟨(u,t)::ps,fun p hp=>?_,by rw [xJ,h5]⟩;rcases xz.1 hp with rfl| hp
  ·exact ⟨h1,h2,h3⟩
  ·exact h4 p hp
theorem zzj {m:Mes} {a b:Int} (ha:0<=fldI m a) (h:fldI m a=fldI m b):a=b:=by
 rcases zdM m a with ⟨h1,_⟩| ⟨i,hi,h1,h2,_⟩
 ·omega
 ·rcases zdM m b with ⟨h3,_⟩| ⟨j,hj,h3,h4,_⟩
  ·omega
  ·have:i=j:=by omega
   subst this;rw [<-h2,<-h4]
theorem zwi {s:List Mes} {g:Int->List UInt8->Msg} {m:Mes} {n:Int} (hj:0<=fldI m n):∀{l:List Vlu},zdV l->(∀v∈l,0<=fldI m v.Number)->
  accF g (zE m (fldI m n)) (fldI m n) acc0 ((l.flatMap fun v=>pcsV s (zE m (fldI m v.Number)) (fldI m v.Number) v).map (·.2))=match look l n with
   | some v=>accF g (zE m (fldI m n)) (fldI m n) acc0 ((pcsV s (zE m (fldI m n)) (fldI m n) v).map (·.2))
   | none=>acc0
 | [],_,_=>rfl
 | v::l,hr,hp=>by
  obtain ⟨r1,r2⟩:=yd.1 hr;rw [xS,yA,znd,zcd];by_cases hv:v.Number=n
  ·rw [xu hv,hv];refine zol fun t ht=>?_
   obtain ⟨p,hp',rfl⟩:=xD.1 ht;obtain ⟨u,hu,hpu⟩:=yR.1 hp';rw [zym s _ _ _ p hpu];intro he;have:=zzj (hp u (xx _ hu)) he;have:=r1 u hu;omega
  ·rw [xt hv];have:accF g (zE m (fldI m n)) (fldI m n) acc0 ((pcsV s (zE m (fldI m v.Number)) (fldI m v.Number) v).map (·.2))=acc0:=by
    refine zol fun t ht=>?_
    obtain ⟨p,hp',rfl⟩:=xD.1 ht;rw [zym s _ _ _ p hp'];exact fun he=>hv (zzj (hp v xw) he)
   rw [this];exact zwi hj r2 fun u hu=>hp u (xx _ hu)
theorem zni {s:List Mes} (hs:zfa s):∀(N:Nat) (x:Msg) (k:Int) (d:Nat),szM x<=N->bdM x->wgM x<=30000->zaN s x k=true->dM x<=d->zai s d k (encM s x k)=none/\ofM s k (encM s x k)=x
 | 0,x,k,d,h,_,_,_,_=>by rw [zcg] at h;omega
 | N+1,x,k,d,wh,hb,hw,hr,hd=>by
  obtain ⟨b1,⟨b2,_⟩,b4⟩:=(zgP x).1 hb;have hsz':=wh;rw [zcg] at hsz';have hw':=hw;rw [zhR] at hw';rw [zza] at hd;obtain ⟨k0,k1,hrise,hv,hu⟩:=zcm hr;obtain ⟨n0,rfl⟩:∃n:Nat,k=n:=⟨k.toNat,by omega⟩;have hn0:n0<s.length:=by omega
  have hmm:zx s (n0:Int)∈s:=by rw [zeI hn0];exact xF hn0
  obtain ⟨ups,hup,hue⟩:=zvp (d:=d) hu
  -- what is wC of each value
  have hval:∀v∈x.Values,(∀p∈pcsV s (zE (zx s (n0:Int)) (fldI (zx s (n0:Int)) v.Number)) (fldI (zx s (n0:Int)) v.Number) v,zsg s d n0 p.1 p.2)/\
    (∀y∈v.Subs,ofM s (zE (zx s (n0:Int)) (fldI (zx s (n0:Int)) v.Number)).Of (encM s y (zE (zx s (n0:Int)) (fldI (zx s (n0:Int)) v.Number)).Of)=y):=fun v hvm=>by
   obtain ⟨f0,hfit⟩:=hv v hvm;have hfs:=zef hfit;have hbv:=zdi.1 b4 v hvm;obtain ⟨_,⟨_,bw⟩,_,_,b5⟩:=(zfT v).1 hbv;have s1:=zdB hvm;have w1:=zog hvm;have d1:=ztc hvm;rw [zdX] at s1;rw [zgW] at w1;rw [zwo] at d1;rcases zdM (zx s (n0:Int)) v.Number with ⟨hf,_⟩| ⟨j,hj,hf,hjn,_⟩
   ·omega
   have hfm:zE (zx s (n0:Int)) (fldI (zx s (n0:Int)) v.Number)∈(zx s (n0:Int)).Fields:=by rw [hf,zcQ hj];exact xF hj
   have hfo:=hs.fld _ hmm _ hfm;have hnum:(zE (zx s (n0:Int)) (fldI (zx s (n0:Int)) v.Number)).Number=v.Number:=by rw [hf,zcQ hj];exact hjn
   have hsub:∀y∈v.Subs,(encM s y (zE (zx s (n0:Int)) (fldI (zx s (n0:Int)) v.Number)).Of).length<=1048576/\(∃e,d=e+1/\zai s e (zE (zx s (n0:Int)) (fldI (zx s (n0:Int)) v.Number)).Of (encM s y (zE (zx s (n0:Int)) (fldI (zx s (n0:Int)) v.Number)).Of)=none)/\
     ofM s (zE (zx s (n0:Int)) (fldI (zx s (n0:Int)) v.Number)).Of (encM s y (zE (zx s (n0:Int)) (fldI (zx s (n0:Int)) v.Number)).Of)=y:=fun y hy=>by
    have s2:=zdA hy;have w2:=zji hy;have d2:=zxO hy;have hyr:=(hfs.subs y hy).2;have hby:=zdO.1 b5 y hy;have hle:=(zjM hs (szM y)).1 y _ (xA _) hby (by omega) hyr;obtain ⟨c1,c2⟩:=zni hs N y _ (d - 1) (by omega) hby (by omega) hyr (by omega);exact ⟨by omega,⟨d - 1,by omega,c1⟩,c2⟩
   refine ⟨zHS f0 rfl (by rw [hnum]) hfo.lo hfo.hi hfs bw (by omega) (fun t ht=>by have:=zmB ht;omega) (fun y hy=>⟨(hsub y hy).1,(hsub y hy).2.1⟩),fun y hy=>(hsub y hy).2.2⟩
  have hall:∀p∈(x.Values.flatMap fun v=>pcsV s (zE (zx s (n0:Int)) (fldI (zx s (n0:Int)) v.Number)) (fldI (zx s (n0:Int)) v.Number) v)++ups,zsg s d n0 p.1 p.2:=fun p hp=>by
   rcases xB.1 hp with hp| hp
   ·obtain ⟨v,hvm,hpv⟩:=yR.1 hp;exact (hval v hvm).1 p hpv
   ·exact (hup p hp).1
  obtain ⟨p1,p2⟩:=pieces hall;have henc:((x.Values.flatMap fun v=>pcsV s (zE (zx s (n0:Int)) (fldI (zx s (n0:Int)) v.Number)) (fldI (zx s (n0:Int)) v.Number) v)++ups).flatMap (·.1)=encM s x n0:=by
   rw [ztf,zml,y6,List.flatMap_assoc];congr 1
   ·congr 1
    funext v
    exact zGb s _ _ v
   ·rw [<-hue];rw [pm]
  rw [henc] at p1 p2;refine ⟨p1,?_⟩;have hmr:=(zwQ hs _ (encM s x n0) d n0 rfl hn0 p1).1;obtain ⟨_,_,hrise2,_,_⟩:=zcm hmr;have hvals:(ofM s n0 (encM s x n0)).Values=x.Values:=by
   refine zzO hrise2 hrise fun n=>?_
   rw [zuE] at hrise2|-;rw [zDY hs hmm hrise2,p2];by_cases hj:0<=fldI (zx s (n0:Int)) n
   ·have ha:=zwi (s:=s) (g:=ofM s) hj hrise fun v hvm=>(hv v hvm).1
    have hskip:accF (ofM s) (zE (zx s (n0:Int)) (fldI (zx s (n0:Int)) n)) (fldI (zx s (n0:Int)) n) acc0 (((x.Values.flatMap fun v=>pcsV s (zE (zx s (n0:Int)) (fldI (zx s (n0:Int)) v.Number)) (fldI (zx s (n0:Int)) v.Number) v)++ups).map (·.2))=accF (ofM s) (zE (zx s (n0:Int)) (fldI (zx s (n0:Int)) n)) (fldI (zx s (n0:Int)) n) acc0 ((x.Values.flatMap fun v=>pcsV s (zE (zx s (n0:Int)) (fldI (zx s (n0:Int)) v.Number)) (fldI (zx s (n0:Int)) v.Number) v).map (·.2)):=by
     rw [yA,znd,zol (l:=ups.map (·.2)) fun t ht=>by
      obtain ⟨p,hp,rfl⟩:=xD.1 ht;have:=(hup p hp).2.1;omega]
    unfold zvq;rw [hskip,ha];cases hlk:look x.Values n with
    | none=>
     simp only;have e0:zci (valO (ofM s) (zE (zx s (n0:Int)) (fldI (zx s (n0:Int)) n)) acc0)=0:=by unfold zci valO acc0;simp
     rw [e0,xt (fun hh=>absurd hh.2 (by omega))]
    | some v=>
     obtain ⟨hvn,hvm⟩:=zfg hlk;have hfit:=zef (hv v hvm).2;have hsub:=(hval v hvm).2;rw [hvn] at hfit hsub;have hbv:=zdi.1 b4 v hvm;obtain ⟨_,⟨_,bw⟩,_,_,_⟩:=(zfT v).1 hbv;have hnum:v.Number=(zE (zx s (n0:Int)) (fldI (zx s (n0:Int)) n)).Number:=by
      rcases zdM (zx s (n0:Int)) n with ⟨hf,_⟩| ⟨j,hj',hf,hjn,_⟩
      ·omega
      ·rw [hf,zcQ hj',hjn,hvn]
     simp only;rw [zEO hfit hnum bw hsub,xu ⟨hj,hfit.many⟩]
   ·rw [xt (fun hh=>hj hh.1)];cases hlk:look x.Values n with
    | none=>rfl
    | some v=>
     obtain ⟨hvn,hvm⟩:=zfg hlk;have:=(hv v hvm).1;rw [hvn] at this;exact absurd this hj
  have hunk:(ofM s n0 (encM s x n0)).Unknown=x.Unknown:=by
   rw [zuE,p2];unfold zgv unkO;simp only;rw [yA,uc,yA];have e1:((x.Values.flatMap fun v=>pcsV s (zE (zx s (n0:Int)) (fldI (zx s (n0:Int)) v.Number)) (fldI (zx s (n0:Int)) v.Number) v).map (·.2)).filter (fun t=>decide (t.fi<0))=[]:=by
    rw [List.filter_eq_nil_iff];intro t ht;obtain ⟨p,hp,rfl⟩:=xD.1 ht;obtain ⟨v,hvm,hpv⟩:=yR.1 hp;rw [zym s _ _ _ p hpv];have:=(hv v hvm).1;simpa using this
   have e2:(ups.map (·.2)).filter (fun t=>decide (t.fi<0))=ups.map (·.2):=by
    rw [List.filter_eq_self];intro t ht;obtain ⟨p,hp,rfl⟩:=xD.1 ht;simpa using (hup p hp).2.1
   rw [e1,e2,yQ,xM,yM,<-hue];exact qy fun p hp=>(hup p hp).2.2
  generalize ofM s n0 (encM s x n0)=y at hvals hunk
  cases x;cases y;simp only at hvals hunk;rw [hvals,hunk]
def wv (a:zez):Nat:=a.2.2.1.length+(a.2.2.2.1.map fun t=>1+t.length).sum+wgMs a.2.2.2.2+2*a.1.length
def ztb (s:List Mes) (root:Int) (x:Msg):List UInt8×Int:=if zgI s root [x]=0 then (encM s x root,0) else ([],zgI s root [x])
noncomputable def ztl (s:List Mes) (root:Int) (b:List UInt8):Bool:=is11 s root b 64&&(encM s (ofM s root b) root==b)
theorem zCe {s:List Mes} {root d:Int} (h:zfX s=true) (h1:0<=root/\root<s.length) (h2:0<=d/\d<=64):argS s root d=0:=by
 unfold argS;rw [xt (by rw [h];simp),xt (by omega)]
def Wr (o:Option zk) (p:List Str) (n:Int) (B:Str) (c:Nat):Prop:=∃P:List Str,o=some ⟨p++P,n+(B.length:Int)⟩/\P.flatten=B/\P.length<=c
def Wq (o:Option (List Str×Int)) (p:List Str) (n:Int) (B:Str) (c:Nat):Prop:=∃P:List Str,o=some (p++P,n+(B.length:Int))/\P.flatten=B/\P.length<=c
def Wm (p:List Str) (n:Int) (b c:Nat):Prop:=0<=n/\n+(b:Int)<=1099511627776/\p.length+c<=1099511627776
theorem zCa {p:List Str} {n:Int} {b:Str} (h:Wm p n b.length 1):zbK ⟨p,n⟩ b=some ⟨p++[b],n+(b.length:Int)⟩:=by
 obtain ⟨h1,h2,h3⟩:=h;unfold zbK;rw [zhw (by simp;omega),sb,zJ (by simp only;omega)]
theorem zEL {p:List Str} {n:Int} {b:Str} (h:Wm p n b.length 1):Wr (zbK ⟨p,n⟩ b) p n b 1:=⟨[b],zCa h,by simp,by simp⟩
theorem zpR {p:List Str} {n k w:Int} {v:Str} (hr:zck k w=true) (hf:zcB w v=true) (hv:v.length<=1048576) (h:Wm p n (put5 k w v).length 1):Wr (zbP ⟨p,n⟩ k w v) p n (put5 k w v) 1:=by
 unfold zbP;rw [zDi (by simp) hv,sb,xu ⟨hr,hf⟩,xM];obtain ⟨P,e,h1,h2⟩:=zEL h;exact ⟨P,by rw [e,sb],h1,h2⟩
theorem zFf {k:Int} (hk:kNum k=true):zkg k=some (zaW k):=by
 have h:=zeH.1 hk;unfold zkg;rw [zAk (by omega),sb,xu hk];have e:zbB k 0=0:=by
  unfold zbB;split
  ·decide
  ·split
   ·decide
   ·split<;>simp
 unfold sPut ziu zaW;rw [e];have h15:¬15<=k:=by omega
 by_cases h1:12<=k
 ·rw [xu h1,xt h15,xu h1];rfl
 ·by_cases h2:9<=k
  ·rw [xt h1,xu h2,xt h15,xt h1,xu h2];rfl
  ·rw [xt h1,xt h2,xt h15,xt h1,xt h2];have e0:enc (Int.toNat 0)=[0]:=zmm (v:=0) (by omega);rw [e0];rfl
theorem zEN {p:List Str} {n:Int} {f:Fld} {l:List Int} (hk:kNum f.Kind=true) (n1:1<=f.Number) (n2:f.Number<=536870911) (hl:∀w∈l,0<=w/\w<=18446744073709551615) (hn:l.length<=30000) (h1:f.Repeated=false->l.length=1)
  (h:Wm p n (if f.Repeated=true then put5 f.Number 2 (l.flatMap (sPut f.Kind)) else put5 f.Number (zaW f.Kind) (sPut f.Kind (l.headD 0))).length 1):
  Wr (zej ⟨p,n⟩ f l) p n (if f.Repeated=true then put5 f.Number 2 (l.flatMap (sPut f.Kind)) else put5 f.Number (zaW f.Kind) (sPut f.Kind (l.headD 0))) 1:=by
 unfold zej;have hfl:=zqf (k:=f.Kind) hl;rw [zGo _ hl (by omega),sb,xu hk];by_cases hr:f.Repeated=true
 ·rw [xu hr] at h;rw [xu hr,xu hr];obtain ⟨P,e,g⟩:=zpR (zdN.2 ⟨n1,n2,by omega⟩) (znn _) (by omega) h;exact ⟨P,by rw [e,sb],g⟩
 ·rw [xt hr] at h;rw [xt hr,xt hr];obtain ⟨w,rfl⟩:∃w,l=[w]:=pf.1 (h1 (by simpa using hr));have hw:=hl w xw;have hs:=zkz (k:=f.Kind) hw;have hc:=zgF f.Kind hw;obtain ⟨P,e,g⟩:=zpR (zsp (by unfold zbL;have:=zeH.1 hk;simp;omega) n1 n2) (znQ hk (c:=(zbB f.Kind w).toNat) (by omega)) (by show (sPut f.Kind w).length<=_;omega) h;refine ⟨P,?_,g⟩;have ef:[w].flatMap (sPut f.Kind)=sPut f.Kind w:=by simp
  rw [zFf hk,sb,ef];show (zbP ⟨p,n⟩ f.Number (zaW f.Kind) (ziu f.Kind (zbB f.Kind w).toNat)>>=_)=_;rw [e,sb];rfl
theorem zFa {k:Int} {c:Nat} (n1:1<=k) (n2:k<=536870911) (hc:c<=1048576) {v:Str} (hv:v.length=c):∃b,zkf k (c:Int)=some b/\b++v=put5 k 2 v:=by
 have hr:zck k 2=true:=zdN.2 ⟨n1,n2,by omega⟩;obtain ⟨_,v8⟩:=zvg hr;have h1:=zli (v:=tW k 2) (by omega);have e0:enc 0=[0]:=zmm (v:=0) (by omega);have ep:put5 k 2 []=enc (tW k 2)++[0]:=by unfold put5;rw [xu rfl,yF,e0,yw]
 have ew:u64.wrap (c:Int)=(c:Int):=by rw [wrap_u64,qe (by omega) (by omega)]
 have es:sPut 4 (c:Int)=enc c:=by
  unfold sPut ziu zbB;rw [xt (by omega),xt (by omega),xt (by omega),xt (by omega),xt (by omega),xH]
 have h2:=zli (v:=c) (by omega);have hcut:cut (enc (tW k 2)++[0]) 0 (i64.wrap (((enc (tW k 2)++[0]).length:Int) - 1))=some (enc (tW k 2)):=by
  rw [zJ (by simp;omega),zhx (i:=0) (a:=0) (b:=(enc (tW k 2)).length) rfl (by simp) (by omega) (by simp)];simp
 refine ⟨enc (tW k 2)++enc c,?_,?_⟩
 ·unfold zkf;rw [zHX (by simp) (by simp),sb,xu hr,xM,ew,zDm (by omega),sb,xu (by decide),ep,hcut,sb];simp only [es];rw [zhw (by simp;omega),sb]
 ·unfold put5;rw [xu rfl,hv]
theorem zmf {α:Type} (l:List α) (g:α->Str) (c:α->Nat) (F:Int->List Str->Int->Option (List Str×Int)) (h0:∀p n,F (l.length:Int) p n=some (p,n))
  (hs:∀(i:Nat) (h:i<l.length) (p:List Str) (n:Int),Wm p n (g l[i]).length (c l[i])->∃P:List Str,F (i:Int) p n=F ((i+1:Nat):Int) (p++P) (n+((g l[i]).length:Int))/\P.flatten=g l[i]/\P.length<=c l[i]):∀(k i:Nat) (p:List Str) (n:Int),i+k=l.length->Wm p n ((l.drop i).flatMap g).length ((l.drop i).map c).sum->
  Wq (F (i:Int) p n) p n ((l.drop i).flatMap g) ((l.drop i).map c).sum
 | 0,i,p,n,h,_=>by
  have e:l.drop i=[]:=yC (by omega);have hi:i=l.length:=by omega
  rw [e,hi,h0];exact ⟨[],by simp,rfl,by simp⟩
 | k+1,i,p,n,h,hb=>by
  have hil:i<l.length:=by omega
  have hd:l.drop i=l[i]::l.drop (i+1):=yq hil;rw [hd,xS,xJ,yG] at hb|-;obtain ⟨b1,b2,b3⟩:=hb;rw [xC] at b2;obtain ⟨P,e,h1,h2⟩:=hs i hil p n ⟨b1,by omega,by omega⟩;obtain ⟨Q,e',h3,h4⟩:=zmf l g c F h0 hs k (i+1) (p++P) (n+((g l[i]).length:Int)) (by omega) ⟨by omega,by omega,by rw [xC];omega⟩;refine ⟨P++Q,?_,by rw [ud,h1,h3],by rw [xC];omega⟩;rw [e,e',ym,xC];congr 2;push_cast;omega
theorem zGF {α:Type} {c d:α->Nat}:∀{l:List α},(∀x∈l,c x<=d x)->(l.map c).sum<=(l.map d).sum
 | [],_=>xA _
 | x::l,h=>by
  have h1:=h x xw;have h2:=zGF (l:=l) fun y hy=>h y (xx _ hy)
  rw [xJ,xJ,yG,yG];omega
theorem zAI:∀l:List Vlu,wgVs l=(l.map wgV).sum
 | []=>rfl
 | v::l=>by rw [wgVs,zAI l];rfl
theorem zAG:∀l:List Msg,wgMs l=(l.map wgM).sum
 | []=>rfl
 | v::l=>by rw [wgMs,zAG l];rfl
theorem zyC {α:Type} (g:α->Nat):∀l:List α,(l.map fun v=>2*g v).sum=2*(l.map g).sum
 | []=>rfl
 | v::l=>by rw [xJ,xJ,yG,yG,zyC g l];omega
theorem zCZ (l:List Str):(l.map fun _=>1).sum<=(l.map fun t=>1+t.length).sum:=zGF fun x _=>by omega
theorem zDC {m:Mes} {n:Int} (hl:m.Fields.length<=140737488351232) (h:0<=fldI m n):∃r,zdc m n=some r/\idx m.Fields r.1=some (zE m (fldI m n)):=by
 rw [znf hl];have h0:=h;unfold fldI zih at h0;cases hf:m.Fields.findIdx? (fun f:Fld=>f.Number==n) with
 | none=>rw [hf] at h0;simp at h0
 | some i=>
  have e:fldI m n=i:=by unfold fldI zih;rw [hf]
  have hi:i<m.Fields.length:=by have:=(zDI h).1;omega
  exact ⟨_,rfl,by rw [e,zaf rfl hi,zcQ hi]⟩
theorem zHZ (p:List Str) (a b:Str) (P:List Str):(p++[a]++P).set p.length b=p++(b::P):=by
 rw [ym,List.set_append_right _ _ (xA _),qX];rfl
theorem zDy {s:List Mes} (hs:zfa s):∀(fuel:Nat),
  (∀(x:Msg) (k:Int) (p:List Str) (n:Int),2*szM x<=fuel->bdM x->wgM x<=30000->zaN s x k=true->Wm p n (encM s x k).length (2*wgM x - 1)->Wr (zbq fuel ⟨p,n⟩ s k x) p n (encM s x k) (2*wgM x - 1))/\
  (∀(x:Msg) (f:Fld) (p:List Str) (n:Int),2*szM x+1<=fuel->bdM x->wgM x<=30000->1<=f.Number->f.Number<=536870911->zaN s x f.Of=true->Wm p n (put5 f.Number 2 (encM s x f.Of)).length (2*wgM x)->Wr (zdl fuel ⟨p,n⟩ s f x) p n (put5 f.Number 2 (encM s x f.Of)) (2*wgM x))/\
  ∀(v:Vlu) (f:Fld) (p:List Str) (n:Int),2*szV v<=fuel->bdV v->wgV v<=30000->1<=f.Number->f.Number<=536870911->zhU s v f=true->Wm p n (encV s v f).length (2*wgV v)->Wr (zcv fuel ⟨p,n⟩ s f v) p n (encV s v f) (2*wgV v)
 | 0=>⟨fun x k p n h=>by rw [zcg] at h;omega,fun x f p n h=>by omega,fun v f p n h=>by rw [zdX] at h;omega⟩
 | fuel+1=>by
  obtain ⟨ih1,ih2,ih3⟩:=zDy hs fuel;refine ⟨fun x k p n wh hb hw hr hm=>?_,fun x f p n wh hb hw n1 n2 hr hm=>?_,fun v f p n wh hb hw n1 n2 hf hm=>?_⟩
  ·obtain ⟨b1,⟨b2,_⟩,b4⟩:=(zgP x).1 hb;rw [zcg] at wh;rw [zhR] at hw hm|-;obtain ⟨k0,k1,_,hv,_⟩:=zcm hr;rw [ztf] at hm|-;obtain ⟨j,rfl⟩:∃j:Nat,k=j:=⟨k.toNat,by omega⟩;have hn:j<s.length:=by omega
   have hmi:idx s (j:Int)=some (zx s j):=by rw [zaf rfl hn,zeI hn]
   have hmm:zx s (j:Int)∈s:=by rw [zeI hn];exact xF hn
   have hfew:=hs.few _ hmm
   generalize zx s (j:Int)=m at hv hmi hmm hfew hm|-
   obtain ⟨m1,m2,m3⟩:=hm;rw [xC] at m2;have hu:=zCZ x.Unknown;have hvs:=zAI x.Values;have htw:=zyC wgV x.Values;obtain ⟨P,e1,f1,g1⟩:=zmf x.Values (fun v=>encV s v (zE m (fldI m v.Number))) (fun v=>2*wgV v) (fun i p n=>zbT (zcv fuel) s x m i p n) (fun p n=>by
     refine zjy ?_;unfold zaU;rw [ul])
    (fun i hi p n hwm=>by
     have hvm:=xF hi;have hxi:idx x.Values (i:Int)=some x.Values[i]:=zaf rfl hi;have s1:=zdB hvm;have w1:=zog hvm
     generalize x.Values[i]=v at hvm hxi hwm s1 w1|-
     obtain ⟨f0,hfit⟩:=hv v hvm;rcases zdM m v.Number with ⟨hf,_⟩| ⟨q,hq,hf,_⟩
     ·omega
     have hfm:zE m (fldI m v.Number)∈m.Fields:=by rw [hf,zcQ hq];exact xF hq
     have hfo:=hs.fld _ hmm _ hfm;obtain ⟨r,hby,hidx⟩:=zDC (m:=m) (n:=v.Number) (by omega) f0;obtain ⟨P,e,f,g⟩:=ih3 v (zE m (fldI m v.Number)) p n (by omega) (zdi.1 b4 v hvm) (by omega) hfo.lo hfo.hi hfit hwm;refine ⟨P,zjx ?_,f,g⟩;unfold zaU;rw [uo,hxi,sb,hby,sb,hidx,sb,e,sb,uq];push_cast;rfl) x.Values.length 0 p n (xQ _) (by rw [xR,<-zml,htw];exact ⟨m1,by omega,by omega⟩)
   rw [xR,<-zml] at e1 f1;rw [xR,htw] at g1;obtain ⟨Q,e2,f2,g2⟩:=zmf x.Unknown (fun t=>t) (fun _=>1) (fun i p n=>zbU x i p n) (fun p n=>by
     refine zjA ?_;unfold zaV;rw [ul])
    (fun i hi p n hwm=>by
     have hl:=zmB (xF hi);refine ⟨[x.Unknown[i]],zjz ?_,by simp,by simp⟩;unfold zaV;rw [uo,zaf rfl hi,sb,zCH (by omega),sb,zCa hwm,sb,uq];push_cast;rfl) x.Unknown.length 0 (p++P) (n+((zlE s x.Values m).length:Int)) (xQ _) (by
      rw [xR,List.flatMap_id'];exact ⟨by omega,by omega,by rw [xC];omega⟩)
   rw [xR,List.flatMap_id'] at e2 f2;rw [xR] at g2;refine ⟨P++Q,?_,by rw [ud,f1,f2],by rw [xC];omega⟩;show zcM (zbq fuel) (zdl fuel) (zcv fuel) ⟨p,n⟩ s j x=_;unfold zcM;have e1':zbT (zcv fuel) s x m 0 p n=_:=e1;have e2':zbU x 0 (p++P) (n+((zlE s x.Values m).length:Int))=_:=e2;rw [hmi,sb];simp only;rw [e1',sb];simp only;rw [e2',sb,ym,xC];congr 2;push_cast;omega
  ·have wb:=(zjM hs (szM x)).1 x f.Of (xA _) hb hw hr;have hpl:=ziU f.Number 2 (encM s x f.Of);rw [xu rfl] at hpl;obtain ⟨m1,m2,m3⟩:=hm;have hwg:1<=wgM x:=by rw [zhR];omega
   obtain ⟨h,eh,ep⟩:=zFa (k:=f.Number) (c:=(encM s x f.Of).length) n1 n2 (by omega) (v:=encM s x f.Of) rfl;have hhl:h.length+(encM s x f.Of).length=(put5 f.Number 2 (encM s x f.Of)).length:=by rw [<-ep,xC]
   obtain ⟨P,e,f1,g1⟩:=ih1 x f.Of (p++[[]]) n (by omega) hb hw hr ⟨m1,by omega,by simp;omega⟩;refine ⟨h::P,?_,by rw [qq,f1,ep],by rw [xK];omega⟩;show zei (zbq fuel) (zdl fuel) (zcv fuel) ⟨p,n⟩ s f x=_;unfold zei;have e0:zbK ⟨p,n⟩ []=some ⟨p++[[]],n⟩:=by
    rw [zCa ⟨m1,by simp;omega,by omega⟩];simp
   rw [e0,sb,e,sb];simp only;rw [zJ (x:=n+((encM s x f.Of).length:Int) - n) (by omega),show n+((encM s x f.Of).length:Int) - n=((encM s x f.Of).length:Int) by omega,eh,sb,zaf rfl (by simp),sb,xH,zHZ,zaf rfl (by simp),sb,zJ (by simp;omega)];congr 2;simp;omega
  ·have wb:=(zjM hs (szV v)).2 v f (xA _) hb hw n1 n2 hf;obtain ⟨_,⟨bl,bw⟩,_,_,b5⟩:=(zfT v).1 hb;rw [zdX] at wh;rw [zgW] at hw hm wb|-;have hfs:=zef hf;rw [ztg] at wb hm|-;have t2:zck f.Number 2=true:=zdN.2 ⟨n1,n2,.inr (.inr (.inl rfl))⟩;obtain ⟨m1,m2,m3⟩:=hm;have ho:=zCZ v.Texts;have hms:=zAG v.Subs;have htw:=zyC wgM v.Subs;have L1:∀(p:List Str) (n:Int),Wm p n (v.Texts.flatMap (put5 f.Number 2)).length (v.Texts.map fun _=>1).sum->Wq (zco f v 0 p n) p n (v.Texts.flatMap (put5 f.Number 2)) (v.Texts.map fun _=>1).sum:=fun p n h=>by
    have:=zmf v.Texts (put5 f.Number 2) (fun _=>1) (fun i p n=>zco f v i p n) (fun p n=>by
      refine zkL ?_;unfold zbh;rw [ul])
     (fun i hi p n hwm=>by
      have hl:=zmB (xF hi);obtain ⟨P,e,f1,g1⟩:=zpR t2 (znn _) (by omega) hwm;refine ⟨P,zkK ?_,f1,g1⟩;unfold zbh;rw [uo,zaf rfl hi,sb,zCH (by omega),sb,e,sb,uq];push_cast;rfl) v.Texts.length 0 p n (xQ _) (by rw [xR];exact h)
    rw [xR] at this;exact this
   have L2:∀(p:List Str) (n:Int),Wm p n (zlD s v.Subs f).length (2*wgMs v.Subs)->Wq (zcp f (zdl fuel) s v 0 p n) p n (zlD s v.Subs f) (2*wgMs v.Subs):=fun p n h=>by
    rw [zps,hms,<-htw] at h|-;have:=zmf v.Subs (fun x=>put5 f.Number 2 (encM s x f.Of)) (fun x=>2*wgM x) (fun i p n=>zcp f (zdl fuel) s v i p n) (fun p n=>by
      refine zkN ?_;unfold zbi;rw [ul])
     (fun i hi p n hwm=>by
      have hxm:=xF hi;have hxi:idx v.Subs (i:Int)=some v.Subs[i]:=zaf rfl hi
      generalize v.Subs[i]=x at hxm hxi hwm|-
      have s1:=zdA hxm;have w1:=zji hxm;obtain ⟨P,e,f1,g1⟩:=ih2 x f p n (by omega) (zdO.1 b5 x hxm) (by omega) n1 n2 (hfs.subs x hxm).2 hwm;refine ⟨P,zkM ?_,f1,g1⟩;unfold zbi;rw [uo,hxi,sb,e,sb,uq];push_cast;rfl) v.Subs.length 0 p n (xQ _) (by rw [xR];exact h)
    rw [xR] at this;exact this
   show Wr (zdw (zbq fuel) (zdl fuel) (zcv fuel) ⟨p,n⟩ s f v) _ _ _ _;unfold zdw;by_cases hn:kNum f.Kind=true
   ·have hnt:=hfs.noTexts (by have:=zhE hn;omega);have hns:=hfs.noSubs (zhE hn).1;have hmany:=hfs.many;have hone:=hfs.one;unfold zci at hmany hone;rw [hnt] at hmany hone L1;rw [hns] at hmany hone L2;simp only [yF,yy] at hmany hone;rw [xu hn] at wb m2|-;obtain ⟨P,e,f1,g1⟩:=zEN (p:=p) (n:=n) hn n1 n2 bw (by omega) hone ⟨m1,m2,by omega⟩
    generalize (if f.Repeated=true then put5 f.Number 2 (v.Words.flatMap (sPut f.Kind)) else put5 f.Number (zaW f.Kind) (sPut f.Kind (v.Words.headD 0)))=B at wb m2 e f1|-
    obtain ⟨Q,e1,f2,g2⟩:=L1 (p++P) (n+(B.length:Int)) ⟨by omega,by simp;omega,by simp;omega⟩;have g2':Q.length<=0:=g2;obtain ⟨R,e2,f3,g3⟩:=L2 (p++P++Q) (n+(B.length:Int)+(((([]:List Str).flatMap (put5 f.Number 2)).length:Nat):Int)) ⟨by omega,by simp [zlD];omega,by simp [wgMs];omega⟩;have g3':R.length<=0:=g3;have hQ:Q=[]:=ui.1 (by omega);have hR:R=[]:=ui.1 (by omega);subst hQ hR;refine ⟨P,?_,f1,by omega⟩;rw [itT (by simpa using hmany),e,sb,sb];simp only;rw [e1,sb];simp only;rw [e2,sb];simp [zlD]
   ·have hwd:v.Words=[]:=by
     cases hw':v.Words with
     | nil=>rfl
     | cons w l=>
      have hm:w∈v.Words:=by rw [hw'];exact xw
      exact absurd (zoB (hfs.words w hm) (bw w hm)).1 hn
    rw [xt hn] at wb m2|-;rw [xC] at m2;obtain ⟨Q,e1,f2,g2⟩:=L1 p n ⟨m1,by omega,by omega⟩;obtain ⟨R,e2,f3,g3⟩:=L2 (p++Q) (n+((v.Texts.flatMap (put5 f.Number 2)).length:Int)) ⟨by omega,by omega,by rw [xC];omega⟩;refine ⟨Q++R,?_,by rw [ud,f2,f3],by rw [xC];omega⟩;rw [itF (by rw [hwd];rfl),sb];simp only;rw [e1,sb];simp only;rw [e2,sb,ym,xC];congr 2;push_cast;omega
structure Ok16 (fuel:Nat) (x:Msg):Prop where
 b:bdM x
 s:smM x
 z:2*szM x<fuel
 w:wgM x<=30000
theorem zxr {s:List Mes} (hs:zfa s) {fuel:Nat} {x:Msg} {k:Int} (hz:2*szM x<fuel) (hb:bdM x) (hw:wgM x<=30000) (hr:zaN s x k=true):
  ∃P:List Str,zbq fuel ⟨[],0⟩ s k x=some ⟨P,((encM s x k).length:Int)⟩/\zax P=some (encM s x k):=by
 have wb:=(zjM hs (szM x)).1 x k (xA _) hb hw hr;obtain ⟨P,e,f,g⟩:=(zDy hs fuel).1 x k [] 0 (by omega) hb hw hr ⟨by omega,by omega,by simp;omega⟩;refine ⟨P,by rw [e,xM,Int.zero_add],?_⟩;rw [zly (by omega) (by rw [f];omega),f]
theorem zEY {fuel:Nat} {s:List Mes} (root:Int) {x:Msg} (h:Ok16 fuel x) (hw:WS s):zke fuel s root x=some (zgI s root [x]):=by
 have wh:=zxs _ x (xA _);have hd:=zCm x;unfold zke zgI zgO;rw [zvo root h.z hw h.b h.s (by have:=h.w;omega),sb,zAd hw];cases hr:zfX s with
 | false=>
  rw [yK,uk,sb,uj];simp
 | true=>
  rw [xZ];cases hm:zaN s x root with
  | true=>
   obtain ⟨g1,g2,_⟩:=zcm hm;rw [uj,xt (show ¬(true=false) by simp),xt (show ¬(root<0\/root>=(s.length:Int)) by omega)];simp [hm]
  | false=>
   rw [uk,sb,uk,xt (show ¬(true=false) by simp)];by_cases hroot:root<0\/root>=(s.length:Int)
   ·rw [itT (by simpa using hroot),xu hroot];simp
   ·rw [itF (by simpa using hroot),xt hroot];simp [hm]
theorem zpq {fuel:Nat} {s:List Mes} (root:Int) {x:Msg} (h:Ok16 fuel x) (hw:WS s):zft fuel s root x=some (ztb s root x):=by
 unfold zft ztb;rw [zEY root h hw,sb];by_cases h0:zgI s root [x]=0
 ·obtain ⟨g1,_,_,g4⟩:=zpy h0;obtain ⟨P,e,c⟩:=zxr g1 h.z h.b h.w (g4 x (by simp));rw [itF (by simpa using h0),xu h0,e,sb];unfold zdk;rw [sb,c,sb,sb]
 ·rw [itT (by simpa using h0),xt h0]
theorem zJh {fuel:Nat} {s:List Mes} (root:Int) {b:List UInt8} (hf:300<=fuel) (hw:WS s) (hb:b.length<=1048576) (hx:is11 s root b 64=true->2*szM (ofM s root b)<fuel/\wgM (ofM s root b)<=30000):zng fuel s root b=some (ztl s root b):=by
 unfold zng ztl;rw [zGI root 64 hf hw (by omega),sb];by_cases hi:is11 s root b 64=true
 ·obtain ⟨h1,h2⟩:=hx hi;obtain ⟨hz,hfi⟩:=zql.1 hi;obtain ⟨g1,g2,g3,_,_⟩:=zom hz;obtain ⟨k,rfl⟩:∃k:Nat,root=k:=⟨root.toNat,by omega⟩;obtain ⟨hbd,hsm⟩:=zJE g1 b.length b k rfl (by omega) (by omega);obtain ⟨hr,hd⟩:=zwQ g1 b.length b _ k rfl (by omega) hfi;have h0:(zeD s k b 64).2=0:=by unfold is11 at hi;simpa using hi
  obtain ⟨P,e,c⟩:=zxr g1 h1 hbd h2 hr;have ht:znX s k b 64=(ofM s k b,0):=by unfold znX;rw [xt (fun h=>h h0)]
  rw [ht];simp only;rw [itF (by decide),e,sb];unfold zdk;rw [sb,c,sb,sb];unfold zkR;rw [sb,hi,xZ]
 ·have h0:(zeD s root b 64).2≠0:=by unfold is11 at hi;simpa using hi
  have hi':is11 s root b 64=false:=by simpa using hi
  have ht:znX s root b 64=(⟨[],[]⟩,(zeD s root b 64).2):=by unfold znX;rw [xu h0]
  rw [ht];simp only;rw [itT (by simpa using h0),hi',yK]
end Go.Proofs.YtkgohoggipdokaaGreat
