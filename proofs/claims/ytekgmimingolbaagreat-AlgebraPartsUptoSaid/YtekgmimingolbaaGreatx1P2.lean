/-
  What the plain functions are. No condition.
-/
import Derived.Test.YtekgmimingolbaaGreatx1P1
import Derived.Test.YtekgmimingolbaaGreatx1S1
import Derived.Test.YtekgmimingolbaaGreatx1K2
set_option autoImplicit true
set_option relaxedAutoImplicit true
namespace Go.Proofs.YtekgmimingolbaaGreat
open Go
set_option linter.unusedVariables false
def lt7 (c:UInt8):Bool:=decide (97<=c.toNat/\c.toNat<=122\/65<=c.toNat/\c.toNat<=90\/c.toNat=95)
def dg7 (c:UInt8):Bool:=decide (48<=c.toNat/\c.toNat<=57)
theorem zvT (c:UInt8):zhs (c.toNat:Int)=some (dg7 c):=by
 unfold zhs dg7;congr 1;rw [yy];simp;omega
theorem zAl (c:UInt8):zhY (c.toNat:Int)=some (lt7 c):=by
 unfold zhY lt7;congr 1;by_cases h1:(c.toNat:Int)>=97<;>by_cases h2:(c.toNat:Int)>=65<;>simp only [h1,h2,decide_true,decide_false,yF,qK,qJ]<;>rw [yy]<;>simp<;>omega
theorem zAn (s:List UInt8) (hs:s.length<=1152921504606846976):∀(l:List UInt8) (i:Nat),s.drop i=l->zfY s i=some (if (l.all fun c=>lt7 c|| dg7 c)=true then .inl () else .inr ()):=by
 intro l
 induction l with
 | nil=>
  intro i hd;have:=zcH hd;refine zln ?_;unfold zct;rw [uz];rfl
 | cons c l ih=>
  intro i hd;obtain ⟨hi,hc,hd'⟩:=zbZ hd;have hb:zct s i=if (lt7 c|| dg7 c)=true then some (.inl ((i+1:Nat):Int)) else some (.inr (.inr ())):=by
   unfold zct;rw [uy,zH rfl hi,sb,hc,zAl,sb,sb,zvT,uA];cases lt7 c<;>cases dg7 c<;>rfl
  rw [yp];cases hk:(lt7 c|| dg7 c) with
  | false=>
   rw [hk] at hb;rw [zln hb];rfl
  | true=>
   rw [hk] at hb;rw [zqN hb,ih _ hd',xO]
theorem zDu:∀(l:List UInt8) (i:Nat),0<i->nmA i l=l.all fun c=>lt7 c|| dg7 c
 | [],_,_=>rfl
 | c::l,i,h=>by
  rw [nmA,zDu l (i+1) (by omega),yp];congr 1;unfold nmc lt7 dg7;rw [yy];simp;omega
theorem zxP (hs:s.length<=1152921504606846976):zij s=some (zgy s):=by
 unfold zij zgy;have hl:=zAn s hs s 0 rfl;have hl':zfY s 0=_:=hl;cases s with
 | nil=>rfl
 | cons c l=>
  rw [itF (by simp)];by_cases h60:((c::l).length:Int)>60
  ·rw [itT (by simpa using h60),sb,itT rfl];have:decide (1<=(c::l).length/\(c::l).length<=60)=false:=by simp only [qt];omega
   rw [this,qO]
  ·have hd:decide (1<=(c::l).length/\(c::l).length<=60)=true:=by simp only [xK];refine ⟨by simp,by omega⟩
   have hc:idx (c::l) 0=some c:=by simp [idx]
   rw [itF (by simpa using h60),hc,sb,zvT,sb,sb,hd,pj,hl',sb];have e:nmA 0 (c::l)=(lt7 c&&l.all fun c=>lt7 c|| dg7 c):=by
    rw [nmA,zDu l 1 (by omega)];congr 1;unfold nmc lt7;rw [yy];simp;omega
   have hx:lt7 c=true->dg7 c=false:=by
    unfold lt7 dg7;simp only [xK,qt];omega
   rw [e,yp];cases h1:lt7 c<;>cases h2:dg7 c<;>first| (rw [hx h1] at h2;cases h2;done)| skip
   ·rfl
   ·rfl
   ·cases l.all fun c=>lt7 c|| dg7 c<;>rfl
theorem zFC (hl:l.length<=1152921504606846976) (v:Int):zeh l v=some (zkA (fun x=>v==x) l):=by
 unfold zeh;have h:=ztJ (fun x=>v==x) l (fun i=>zcw l v i) (zhu (by unfold zan;rw [itF (by simp)])) (fun i hi=>by
  by_cases hp:(v==l[i])=true
  ·rw [xu hp];exact zhu (by unfold zan;rw [uy,zH rfl hi,sb,itT hp])
  ·rw [xt hp];exact zkL (by unfold zan;rw [uy,zH rfl hi,sb,itF (by simpa using hp),uA];rfl)) l.length 0 (by omega) (fun j _ h=>by omega)
 have h':zcw l v 0=_:=h;rw [h',sb];unfold zkA;cases l.findIdx? (fun x=>v==x)<;>rfl
theorem zxh {α:Type} (p:α->Bool) (l:List α):decide (zkA p l>=0)=l.any p:=by
 cases h:l.findIdx? p with
 | none=>
  rw [znb h];rw [pz] at h
  symm
  rw [ud.2 fun x hx=>by simpa using h x hx];rfl
 | some i=>
  rw [znc h];rw [pA] at h;obtain ⟨hi,hp,_⟩:=h
  symm
  rw [pt.2 ⟨l[i],xB hi,hp⟩];simp
theorem zzZ (hl:l.length<=1152921504606846976) (v:Int):zdc l v=some (l.any fun x=>v==x):=by
 unfold zdc;rw [zFC hl,sb,zxh]
def K17:List Int:=[1,2,3,4,5,6,7,8,9,10,11,12,13,14,15,16,17]
theorem zEd (k:Int):(K17.any fun x=>k==x)=zfd k:=by
 unfold zfd K17;rw [yy];simp;omega
def hasN (m:List (zm×Bool)) (i:Int) (n:Str):Bool:=(mget m (⟨i,n⟩:zm)).getD false
def hasU (m:List (zn×Bool)) (i:Int) (n:Int):Bool:=(mget m (⟨i,n⟩:zn)).getD false
theorem zoj (m:List (zm×Bool)) (i j:Int) (n k:Str):hasN (mput m ⟨i,n⟩ true) j k=(decide (j=i/\k=n)|| hasN m j k):=by
 unfold hasN;rw [zeG];by_cases h:j=i/\k=n
 ·obtain ⟨rfl,rfl⟩:=h;simp
 ·rw [xt (fun e=>h (by injection e with e1 e2;exact ⟨e1,e2⟩))];simp [h]
theorem zAh (m:List (zn×Bool)) (i j:Int) (n k:Int):hasU (mput m ⟨i,n⟩ true) j k=(decide (j=i/\k=n)|| hasU m j k):=by
 unfold hasU;rw [zeG];by_cases h:j=i/\k=n
 ·obtain ⟨rfl,rfl⟩:=h;simp
 ·rw [xt (fun e=>h (by injection e with e1 e2;exact ⟨e1,e2⟩))];simp [h]
theorem zAo (n:Int):zhZ n=some (decide ¬(n<1\/n>536870911\/(19000<=n/\n<20000))):=by
 unfold zhZ;congr 1;rw [yy];simp;omega
theorem zCl (f:Fld):ziE f=some (f.Repeated&&kNum f.Kind):=by
 unfold ziE;rw [zCh];cases f.Repeated<;>rfl
theorem zGc (n:Int) (K:List Int) (nm:List (zm×Bool)) (nu:List (zn×Bool)) (f:Fld):zgq ⟨n,K,nm,nu⟩ f=some (decide ¬(f.Kind=17/\(f.Of<0\/f.Of>=n)\/f.Kind≠17/\f.Of≠0)):=by
 unfold zgq;by_cases h:f.Kind=17
 ·rw [itT (by simpa using h)];congr 1;rw [yy];simp [h]
 ·rw [itF (by simpa using h)];congr 1;rw [yy];simp [h]
theorem zFp (hf:f.Name.length<=1152921504606846976) (hN:hasN nm i f.Name=prev.any fun g=>g.Name==f.Name) (hU:hasU nu i f.Number=prev.any fun g=>g.Number==f.Number):
  zgp ⟨n,K17,nm,nu⟩ i f=some (zdG n prev f,if zdG n prev f=0 then (mput nm ⟨i,f.Name⟩ true,mput nu ⟨i,f.Number⟩ true) else (nm,nu)):=by
 unfold zgp;rw [zxP hf,sb];have e1:(mget nm (⟨i,f.Name⟩:zm)).getD false=hasN nm i f.Name:=rfl;have e2:(mget nu (⟨i,f.Number⟩:zn)).getD false=hasU nu i f.Number:=rfl;simp only [e1,e2,hN,hU];have hz:∀(k:Int) (x y:List (zm×Bool)×List (zn×Bool)),k≠0->(if k=0 then x else y)=y:=fun k x y h=>xt h
 by_cases h1:zgy f.Name=false
 ·have hF:zdG n prev f=5:=by unfold zdG;rw [xu h1]
  rw [hF,hz 5 _ _ (by decide),itT (by rw [h1];rfl)]
 rw [itF (show (!zgy f.Name)=false by simpa using h1)];by_cases h2:(prev.any fun g=>g.Name==f.Name)=true
 ·have hF:zdG n prev f=6:=by unfold zdG;rw [xt h1,xu h2]
  rw [hF,hz 6 _ _ (by decide),itT h2]
 have h2':(prev.any fun g=>g.Name==f.Name)=false:=pK h2;rw [itF h2',zAo,sb];by_cases h3:f.Number<1\/f.Number>536870911\/(19000<=f.Number/\f.Number<20000)
 ·have hF:zdG n prev f=7:=by unfold zdG;rw [xt h1,xt h2,xu h3]
  rw [hF,hz 7 _ _ (by decide),itT (by rw [ya (fun h=>h h3)];rfl)]
 rw [itF (by rw [xU h3];rfl)];by_cases h4:(prev.any fun g=>g.Number==f.Number)=true
 ·have hF:zdG n prev f=8:=by unfold zdG;rw [xt h1,xt h2,xt h3,xu h4]
  rw [hF,hz 8 _ _ (by decide),itT h4]
 have h4':(prev.any fun g=>g.Number==f.Number)=false:=pK h4;rw [itF h4',zzZ (by decide),sb,zEd];by_cases h5:zfd f.Kind=false
 ·have hF:zdG n prev f=9:=by unfold zdG;rw [xt h1,xt h2,xt h3,xt h4,xu h5]
  rw [hF,hz 9 _ _ (by decide),itT (by rw [h5];rfl)]
 rw [itF (show (!zfd f.Kind)=false by simpa using h5),zCl];have hg:(if f.Packed=true then (some (f.Repeated&&kNum f.Kind)>>=fun rv4=>some (!rv4)) else some false)=some (decide (f.Packed=true/\¬(f.Repeated=true/\kNum f.Kind=true))):=by
  cases f.Packed<;>cases f.Repeated<;>cases kNum f.Kind<;>rfl
 rw [hg,sb];by_cases h6:f.Packed=true/\¬(f.Repeated=true/\kNum f.Kind=true)
 ·have hF:zdG n prev f=10:=by unfold zdG;rw [xt h1,xt h2,xt h3,xt h4,xt h5,xu h6]
  rw [hF,hz 10 _ _ (by decide),itT (xU h6)]
 rw [itF (ya h6),zGc,sb];by_cases h7:f.Kind=17/\(f.Of<0\/f.Of>=n)\/f.Kind≠17/\f.Of≠0
 ·have hF:zdG n prev f=11:=by unfold zdG;rw [xt h1,xt h2,xt h3,xt h4,xt h5,xt h6,xu h7]
  rw [hF,hz 11 _ _ (by decide),itT (by rw [ya (fun h=>h h7)];rfl)]
 have hF:zdG n prev f=0:=by unfold zdG;rw [xt h1,xt h2,xt h3,xt h4,xt h5,xt h6,xt h7]
 rw [hF,xu rfl,itF (by rw [xU h7];rfl)]
theorem zCm {n:Int} {nm:List (zm×Bool)} {nu:List (zn×Bool)} {prev:List Mes} {m:Mes} (hm:m.Name.length<=1152921504606846976) (hN:hasN nm (-1) m.Name=prev.any fun g=>g.Name==m.Name):
  zfq ⟨n,K17,nm,nu⟩ m=some (if zgy m.Name=false then (2,nm,nu) else if (prev.any fun g=>g.Name==m.Name)=true then (3,nm,nu) else if 200<m.Fields.length then (4,nm,nu) else (0,mput nm ⟨-1,m.Name⟩ true,nu)):=by
 unfold zfq;rw [zxP hm,sb];have e1:(mget nm (⟨(-1),m.Name⟩:zm)).getD false=hasN nm (-1) m.Name:=rfl;simp only [e1,hN];by_cases h1:zgy m.Name=false
 ·rw [xu h1,itT (show (!zgy m.Name)=true by rw [h1];rfl)]
 rw [xt h1,itF (show (!zgy m.Name)=false by simpa using h1)];by_cases h2:(prev.any fun g=>g.Name==m.Name)=true
 ·rw [xu h2,itT h2]
 have h2':(prev.any fun g=>g.Name==m.Name)=false:=pK h2;rw [xt h2,itF h2'];by_cases h3:200<m.Fields.length
 ·rw [xu h3,itT (show decide ((m.Fields.length:Int)>200)=true by simp;omega)]
 rw [xt h3,itF (show decide ((m.Fields.length:Int)>200)=false by simp;omega)]
structure Met (nm:List (zm×Bool)) (nu:List (zn×Bool)) (i:Nat) (prev:List Mes) (p:List Fld):Prop where
 mes:∀n,hasN nm (-1) n=prev.any fun g=>g.Name==n
 nam:∀n,hasN nm i n=p.any fun g=>g.Name==n
 num:∀n,hasU nu i n=p.any fun g=>g.Number==n
 later:∀(j:Nat) n,i<j->hasN nm j n=false
 laterU:∀(j:Nat) n,i<j->hasU nu j n=false
theorem Met.step (h:Met nm nu i prev p) (f:Fld):Met (mput nm ⟨i,f.Name⟩ true) (mput nu ⟨i,f.Number⟩ true) i prev (p++[f]):=by
 refine ⟨fun n=>?_,fun n=>?_,fun n=>?_,fun j n hj=>?_,fun j n hj=>?_⟩
 ·rw [zoj,h.mes,ya (by omega),qi]
 ·rw [zoj,h.nam,pL,Bool.or_comm];congr 1;simp only [qr,List.any_nil,qN];rw [yy];simp;exact eq_comm
 ·rw [zAh,h.num,pL,Bool.or_comm];congr 1;simp only [qr,List.any_nil,qN];rw [yy];simp;exact eq_comm
 ·rw [zoj,h.later j n hj,ya (by omega)];rfl
 ·rw [zAh,h.laterU j n hj,ya (by omega)];rfl
theorem zFi (hb:m.Fields.length<=140737488351232) (hn:∀f∈m.Fields,f.Name.length<=140737488351232):
  ∀(l:List Fld) (k:Nat) (nm:List (zm×Bool)) (nu:List (zn×Bool)),m.Fields.drop k=l->k<=m.Fields.length->Met nm nu i prev (m.Fields.take k)->
   (∃j w,msgF s.length (m.Fields.take k) l=some (j,w)/\zeL K17 s i m k nm nu=some (.inr ((j:Int),w)))\/
   (msgF s.length (m.Fields.take k) l=none/\∃nm' nu',zeL K17 s i m k nm nu=some (.inl (nm',nu'))/\Met nm' nu' i prev m.Fields):=by
 intro l
 induction l with
 | nil=>
  intro k nm nu hd hk hM;have:=zcH hd;have hkl:k=m.Fields.length:=by omega
  subst hkl;refine .inr ⟨rfl,nm,nu,zlE ?_,by simpa using hM⟩;unfold zcp;rw [itF (by simp)]
 | cons f l ih=>
  intro k nm nu hd hk hM;obtain ⟨hi,hc,hd'⟩:=zbZ hd;have hf:=hn f (by rw [<-hc];exact xB hi);have hfld:=zFp (n:=(s.length:Int)) (i:=(i:Int)) (nm:=nm) (nu:=nu) (prev:=m.Fields.take k) (f:=f) (by omega) (hM.nam _) (hM.num _);have htk:m.Fields.take (k+1)=m.Fields.take k++[f]:=by rw [yv hi,hc]
  have hlen:(m.Fields.take k).length=k:=by simp;omega
  obtain ⟨bd,_⟩:=zvJ (s.length:Int) (m.Fields.take k) f;rw [msgF];by_cases h0:zdG s.length (m.Fields.take k) f=0
  ·rw [xt (by omega)];rw [h0,xu rfl] at hfld;have hstep:zcp K17 s i m k nm nu=some (.inl (((k+1:Nat):Int),mput nm ⟨i,f.Name⟩ true,mput nu ⟨i,f.Number⟩ true)):=by
    unfold zcp;rw [uy,zH rfl hi,sb,hc,hfld,sb];dsimp only;rw [itF (show ((0:Int) !=0)=false from rfl),uA];rfl
   rw [zrF hstep,<-htk];exact ih (k+1) _ _ hd' (by omega) (by rw [htk];exact hM.step f)
  ·rw [xu (by omega)];rw [xt h0] at hfld;refine .inl ⟨k,_,by rw [hlen],zlE ?_⟩;unfold zcp;rw [uy,zH rfl hi,sb,hc,hfld,sb];dsimp only;rw [itT (show (zdG (s.length:Int) (m.Fields.take k) f !=0)=true by simpa using h0)]
theorem zFh {s:List Mes} (hw:WS s):∀(l:List Mes) (i:Nat) (nm:List (zm×Bool)) (nu:List (zn×Bool)),s.drop i=l->i<=s.length->Met nm nu i (s.take i) []->
  zgE K17 s i nm nu=some (match chkF s.length (s.take i) l with| some (j,k,w)=> .inr ((j:Int),k,w)| none=> .inl ()):=by
 intro l
 induction l with
 | nil=>
  intro i nm nu hd hi hM;have:=zcH hd;refine zfQ ?_;unfold zbo;rw [uz];rfl
 | cons m l ih=>
  intro i nm nu hd hi hM;obtain ⟨hil,hc,hd'⟩:=zbZ hd;obtain ⟨w1,w2⟩:=hw;obtain ⟨m1,m2,m3⟩:=w2 m (by rw [<-hc];exact xB hil);have hmes:=zCm (n:=(s.length:Int)) (nm:=nm) (nu:=nu) (prev:=s.take i) (m:=m) (by omega) (hM.mes _);have htk:s.take (i+1)=s.take i++[m]:=by rw [yv hil,hc]
  have hlen:(s.take i).length=i:=by simp;omega
  rw [chkF];by_cases h1:zgy m.Name=false
  ·rw [xu h1] at hmes|-;refine zfQ ?_;unfold zbo;rw [uy,zH rfl hil,sb,hc,hmes,sb];dsimp only;rw [itT (show ((2:Int) !=0)=true from rfl),hlen]
  rw [xt h1] at hmes|-;by_cases h2:((s.take i).any fun g=>g.Name==m.Name)=true
  ·rw [xu h2] at hmes|-;refine zfQ ?_;unfold zbo;rw [uy,zH rfl hil,sb,hc,hmes,sb];dsimp only;rw [itT (show ((3:Int) !=0)=true from rfl),hlen]
  rw [xt h2] at hmes|-;by_cases h3:200<m.Fields.length
  ·rw [xu h3] at hmes|-;refine zfQ ?_;unfold zbo;rw [uy,zH rfl hil,sb,hc,hmes,sb];dsimp only;rw [itT (show ((4:Int) !=0)=true from rfl),hlen]
  rw [xt h3] at hmes|-;have hM0:Met (mput nm ⟨-1,m.Name⟩ true) nu i (s.take i++[m]) (m.Fields.take 0):=by
   refine ⟨fun n=>?_,fun n=>?_,fun n=>?_,fun j n hj=>?_,fun j n hj=>hM.laterU j n hj⟩
   ·rw [zoj,hM.mes,pL,Bool.or_comm];congr 1;simp only [qr,List.any_nil,qN];rw [yy];simp;exact eq_comm
   ·rw [zoj,hM.nam,ya (by omega)];rfl
   ·rw [hM.num];rfl
   ·rw [zoj,hM.later j n hj,ya (by omega)];rfl
  have hl2:=zFi (s:=s) (i:=i) m2 m3 m.Fields 0 _ nu rfl (by omega) hM0;simp only [yB] at hl2;rcases hl2 with ⟨j,w,g1,g2⟩| ⟨g1,nm',nu',g2,g3⟩
  ·rw [g1];refine zfQ ?_;unfold zbo;have g2':zeL K17 s i m 0 (mput nm ⟨-1,m.Name⟩ true) nu=_:=g2;rw [uy,zH rfl hil,sb,hc,hmes,sb];dsimp only;rw [itF (show ((0:Int) !=0)=false from rfl),g2',sb];simp only [hlen]
  ·rw [g1];have hstep:zbo K17 s i nm nu=some (.inl (((i+1:Nat):Int),nm',nu')):=by
    unfold zbo;have g2':zeL K17 s i m 0 (mput nm ⟨-1,m.Name⟩ true) nu=_:=g2;rw [uy,zH rfl hil,sb,hc,hmes,sb];dsimp only;rw [itF (show ((0:Int) !=0)=false from rfl),g2',sb];dsimp only;rw [uA];rfl
   rw [zrE hstep];simp only [];rw [<-htk];refine ih (i+1) nm' nu' hd' (by omega) ⟨fun n=>?_,fun n=>?_,fun n=>?_,fun j n hj=>g3.later j n (by omega),fun j n hj=>g3.laterU j n (by omega)⟩
   ·rw [htk];exact g3.mes n
   ·rw [g3.later (i+1) n (by omega)];rfl
   ·rw [g3.laterU (i+1) n (by omega)];rfl
theorem zFg (hw:WS s):zkf s=some (⟨(zkz s).1,(zkz s).2.1,(zkz s).2.2⟩,if (zkz s).2.2=0 then 0 else 9):=by
 unfold zkf zkz;by_cases h:s.length=0\/100<s.length
 ·rw [uy,xu h];rfl
 ·rw [uz,xt h,zHA,sb];have hl:=zFh hw s 0 [] [] rfl (by omega) ⟨fun n=>rfl,fun n=>rfl,fun n=>rfl,fun j n _=>rfl,fun j n _=>rfl⟩;simp only [yB] at hl;have hl':zgE [1,2,3,4,5,6,7,8,9,10,11,12,13,14,15,16,17] s 0 [] []=_:=hl;rw [hl',sb];cases hc:chkF s.length [] s with
  | none=>rfl
  | some q=>
   obtain ⟨i,k,w⟩:=q;have:=zCR _ _ _ _ _ _ hc;simp only;rw [xt (by omega)]
theorem zti (hw:WS s):ziS s=some (zgo s):=by
 unfold ziS zgo;rw [zFg hw,sb];by_cases h:(zkz s).2.2=0<;>simp [h]
abbrev PVw:=zma
theorem zyt (t:zbP):zow t=some (ziI t.Number t.Wire):=by
 have e:zjv t.Wire=some (decide (t.Wire=0\/t.Wire=1\/t.Wire=2\/t.Wire=5)):=by
  unfold zjv;by_cases h0:t.Wire=0
  ·simp [h0]
  by_cases h1:t.Wire=1
  ·simp [h1]
  by_cases h2:t.Wire=2
  ·simp [h2]
  by_cases h5:t.Wire=5
  ·simp [h5]
  simp [h0,h1,h2,h5]
 unfold zow ziI;rw [e];by_cases h1:1<=t.Number
 ·by_cases h2:t.Number<=536870911
  ·rw [itT (by simpa using h1),itT (by simpa using h2),sb,sb];simp [h1,h2]
  ·rw [itT (by simpa using h1),itF (by simpa using h2),sb];simp [h2]
 ·rw [itF (by simpa using h1),sb];simp [h1]
theorem zJn (w:Nat) (h:w<18446744073709551616):andI .u64 (w:Int) 7=((w%8:Nat):Int):=by
 have e:=zzL (k:= .u64) rfl (a:=w) (b:=7) (by simpa [IntKind.bits] using h) (by simp [IntKind.bits]);have e2:w&&&7=w%8:=uu w 3;rw [e2] at e;exact e
theorem zJN (w:Nat):shrI .u64 (w:Int) 3=((w/8:Nat):Int):=zBc (k:= .u64) (a:=w) (b:=3) (by simp [IntKind.bits])
theorem zGP (b:List UInt8):zqP b=some ((⟨(tg b).1,(tg b).2.1⟩:zbP),(tg b).2.2.1,(tg b).2.2.2):=by
 obtain ⟨h1,h2,h3,h4,h5,h6,h7⟩:=zkH b;unfold zqP tg;rw [zzl,sb];by_cases h:(rd b).2.2=0
 ·rw [itF (by simpa using h)];obtain ⟨w,hw⟩:∃w:Nat,(rd b).1=w:=⟨(rd b).1.toNat,by omega⟩;rw [hw] at h2|-;rw [zJN,zJn w (by omega)];have e0:IntKind.i64.wrap ((w%8:Nat):Int)=(w:Int)%8:=by rw [uA];omega
  by_cases hg:4294967295<w
  ·have e1:IntKind.i64.wrap (if (536870912:Int)<((w/8:Nat):Int) then 536870912 else ((w/8:Nat):Int))=536870912:=by
    split
    ·rfl
    ·rw [uA];omega
   rw [e0,e1,zyt,sb];have e2:ziI 536870912 ((w:Int)%8)=false:=by simp [ziI]
   simp only [e2];rw [itT (by rfl),zqQ h (.inl (by rw [hw];omega))]
  ·have e1:IntKind.i64.wrap (if (536870912:Int)<((w/8:Nat):Int) then 536870912 else ((w/8:Nat):Int))=(w:Int)/8:=by
    rw [xt (by omega),uA];omega
   rw [e0,e1,zyt,sb];simp only;cases ht:ziI ((w:Int)/8) ((w:Int)%8)
   ·rw [itT (by rfl),zqQ h (.inr (by rw [hw];exact ht))]
   ·rw [itF (by rfl),zCD h (by rw [hw,ht];simp;omega),hw]
 ·rw [itT (by simpa using h),zzA h]
theorem zHV (hw:w=0\/w=1\/w=2\/w=5) (hb:b.length<=1048576):
  zlk w b=some (match zhV w 0 b with| .inl c=>(0,(if w=0 then (rd b).2.1 else 0),c)| .inr (a,t)=>((a:Int),(t:Int),0)):=by
 obtain ⟨h1,h2,h3,h4,h5,h6,h7⟩:=zkH b;unfold zlk zhV;rcases hw with rfl| rfl| rfl| rfl
 ·rw [itT (by rfl),zHT,sb,xu rfl];by_cases h:(rd b).2.2=0
  ·rw [xt (by simpa using h)];simp only [h,xD];congr 3;simp;omega
  ·rw [xu h];rfl
 ·rw [itF (by rfl),itT (by rfl),sb,itF (by rfl),xt (show ¬((1:Int)=0) by omega),xt (show ¬((1:Int)=2) by omega)];simp only;have e:IntKind.u64.wrap (IntKind.i64.wrap ((b.length:Int) - 0))=(b.length:Int):=by rw [uA,zjz];omega
  rw [e];by_cases g:b.length<8
  ·rw [uy,xu (by simpa using g)];rfl
  ·rw [uz,xt (by simpa using g)];rfl
 ·rw [itF (by rfl),itF (by rfl),itF (by rfl),itT (by rfl),zzl,sb,sb,xt (show ¬((2:Int)=0) by omega),xu (show (2:Int)=2 from rfl)];by_cases h:(rd b).2.2=0
  ·have hk:=h7 h;rw [itF (by simpa using h),xt (show ¬((rd b).2.2≠0) from fun g=>g h)];simp only;have e:IntKind.u64.wrap (IntKind.i64.wrap ((b.length:Int) - (rd b).2.1))=(b.length:Int) - (rd b).2.1:=by rw [uA,zjz];omega
   rw [e];by_cases g:(b.length:Int) - (rd b).2.1<(rd b).1
   ·rw [itT (by simpa using g),xu g];rfl
   ·rw [itF (by simpa using g),xt g,zr (x:=(rd b).1) (by omega),uA];simp;omega
  ·rw [itT (by simpa using h),xu h];rfl
 ·rw [itF (by rfl),itF (by rfl),itT (by rfl),sb,itF (by rfl),xt (show ¬((5:Int)=0) by omega),xt (show ¬((5:Int)=2) by omega)];simp only;have e:IntKind.u64.wrap (IntKind.i64.wrap ((b.length:Int) - 0))=(b.length:Int):=by rw [uA,zjz];omega
  rw [e];by_cases g:b.length<4
  ·rw [uy,xu (by simpa using g)];rfl
  ·rw [uz,xt (by simpa using g)];rfl
theorem zzR (w:Int) (k:Nat) (m:List UInt8):zhV w k m=match zhV w 0 m with| .inl c=> .inl c| .inr (a,t)=> .inr (k+a,k+t):=by
 unfold zhV
 repeat' split
 all_goals first
  | rfl
  | (rename_i h1 h2;injection h2 with h3;injection h3 with h4 h5;subst h4 h5;simp<;>omega)
  | simp_all<;>omega
theorem zHL (hb:b.length<=1048576) (at5:Int):zlj b at5=some (zsW b at5):=by
 unfold zlj zsW;by_cases h:at5<0\/at5>=b.length
 ·rw [itT (by simpa using h),xu h];rfl
 ·rw [itF (by simpa using h),xt h];obtain ⟨p,rfl⟩:∃p:Nat,at5=p:=⟨at5.toNat,by omega⟩;rw [zqc rfl rfl (by omega),sb,zGP,sb,ym];have hdl:(b.drop p).length=b.length - p:=by simp
  rcases zwT (b.drop p) with ⟨c,ht,hc⟩| ⟨n,w,k,ht,hr,k1,k2,k3,hrd⟩
  ·have e:rec5 (b.drop p)= .inl c:=by unfold rec5;rw [ht,xu (by simp only;omega)]
   rw [e,ht,uy];rfl
  ·obtain ⟨k,rfl⟩:∃j:Nat,k=j:=⟨k.toNat,by omega⟩
   have e:rec5 (b.drop p)=match zhV w k ((b.drop p).drop k) with
    | .inl c=> .inl c
    | .inr p=> .inr (n,w,p.1,p.2):=by unfold rec5;rw [ht];simp<;>rfl
   have hdd:(b.drop p).drop k=b.drop (p+k):=by rw [qI]
   have hml:(b.drop (p+k)).length=b.length - (p+k):=by simp
   have ew:IntKind.i64.wrap ((p:Int)+k)=((p+k:Nat):Int):=by rw [uA];push_cast;rfl
   rw [e,ht,itF (by simp),hdd];simp only [ew];rw [zqc rfl rfl (by omega),sb,zHV (zwS.1 hr).2.2 (by omega),sb,zzR w k];rcases zuq w 0 (b.drop (p+k)) with ⟨c,hc,hc2⟩| ⟨a,t,hc,_,_,hle,_⟩
   ·rw [hc];simp only;rw [uy];rfl
   ·rw [hc];simp only;rw [itF (by rfl),uA,uA];simp only [yl,yV,zz.mk.injEq,pi,and_true];push_cast;omega
abbrev Head:=zxe
abbrev Role:=zxd
def rol (m:Mes) (h:Head):Role:=match vw m h.number h.wire with
 | .inl c=>⟨0,false,c⟩
 | .inr (i,run)=>⟨i,run,0⟩
def zzF (m:Mes) (met:List (Head×Role)):Prop:=∀h x,mget met h=some x->x=rol m h
theorem zzF.nil (m:Mes):zzF m []:=fun h x g=>by cases g
theorem zzF.put (g:zzF m met) (h:Head):zzF m (mput met h (rol m h)):=fun j x hx=>by
 rw [zeG] at hx;by_cases e:j=h
 ·rw [xu e] at hx;rw [e];exact (qq hx).symm
 ·rw [xt e] at hx;exact g j x hx
abbrev zBx:=zkp
def zzG (s:List Mes) (met:List (zBx×PVw)):Prop:=∀h x,mget met h=some x->vw (zaC s h.message) h.number h.wire= .inr (x.Field,x.Run)
theorem zzG.nil (s:List Mes):zzG s []:=fun h x g=>by cases g
theorem zzG.put (g:zzG s met) (hv:vw (zaC s h.message) h.number h.wire= .inr (v.Field,v.Run)):zzG s (mput met h v):=fun j x hx=>by
 rw [zeG] at hx;by_cases e:j=h
 ·rw [xu e] at hx;cases hx;rw [e];exact hv
 ·rw [xt e] at hx;exact g j x hx
theorem zGV (hw:WS s) (root d:Int):zmG s root d=some (argS s root d):=by
 unfold zmG argS;rw [zti hw,sb];cases h:zgo s
 ·rw [itT (c:= !false) rfl,xu (show false=false from rfl)]
 ·rw [itF (c:= !true) rfl,xt (show ¬(true=false) by simp)];by_cases h2:root<0\/root>=s.length\/d<0\/d>64
  ·rw [itT (by simpa using h2),xu h2]
  ·rw [uz,xt h2]
theorem zqa (hm:m.Fields.length<=140737488351232) (n:Int):zfH m n=some (match m.Fields.findIdx? (fun f=>f.Number==n) with| some i=>((i:Int),true)| none=>(0,false)):=by
 unfold zfH zcZ zao;have h:=ztJ (fun f:Fld=>f.Number==n) m.Fields (fun i=>zU m.Fields n i) (zbO (by unfold zy;rw [itF (by simp)])) (fun i hi=>by
  by_cases hp:(m.Fields[i].Number==n)=true
  ·rw [xu hp];exact zbO (by unfold zy zgT;rw [uy,zH rfl hi,sb,sb,itT hp])
  ·rw [xt hp];exact zeg (by unfold zy zgT;rw [uy,zH rfl hi,sb,sb,itF (pK hp),uA];rfl)) m.Fields.length 0 (by omega) (fun j _ h=>by omega)
 have h':zU m.Fields n 0=_:=h;rw [h',sb];cases m.Fields.findIdx? (fun f:Fld=>f.Number==n) with
 | none=>rfl
 | some i=>simp [sb];omega
theorem zmc {α:Type} (p:α->Bool) (l:List α) (F:Int->Option (Unit⊕Unit)) (h0:F (l.length:Int)=some (.inl ())) (hs:∀(i:Nat) (h:i<l.length),F (i:Int)=if p l[i]=true then F ((i+1:Nat):Int) else some (.inr ())):
  ∀(c i:Nat),i+c=l.length->F (i:Int)=some (if (l.drop i).all p=true then .inl () else .inr ())
 | 0,i,h=>by
  have e:l.drop i=[]:=xR (by omega);have hi:i=l.length:=by omega
  rw [e,hi,h0];simp
 | c+1,i,h=>by
  rw [hs i (by omega),xL (by omega),yp];cases hp:p l[i]
  ·rw [xt (by simp)];simp
  ·rw [xu rfl,xO];exact zmc p l F h0 hs c (i+1) (by omega)
theorem zEJ (hb:v.Words.length<=140737488351232/\v.Texts.length<=140737488351232/\v.Subs.length<=140737488351232):zgV v=some ((zgS v:Nat):Int):=by
 unfold zgV zgS;rw [zr (x:=(v.Words.length:Int)+(v.Texts.length:Int)) (by omega),uA];push_cast;rfl
theorem zzO (hl:l.length<=1152921504606846976) (h:∀t∈l,t.length<=140737488351232):zjw l=some (l.all zlx):=by
 unfold zjw;have h1:=zmc zlx l (fun i=>zfZ l i) (by
   refine zlp ?_;unfold zcy;rw [itF (by simp)])
  (fun i hi=>by
   have hx:=h _ (xB hi);have e:lenO l[i]=some l[i]:=by unfold lenO;rw [xu (by omega)]
   cases hp:zlx l[i]
   ·rw [xt (by simp)];refine zlp ?_;unfold zcy;rw [uy,zH rfl hi,sb,e,sb,zyv (by omega),sb,hp,itT (by rfl)]
   ·rw [xu rfl];refine zqU ?_;unfold zcy;rw [uy,zH rfl hi,sb,e,sb,zyv (by omega),sb,hp,itF (by rfl),uA];push_cast;rfl)
  l.length 0 (xD _)
 have h1':zfZ l 0=_:=h1;rw [h1',sb,xQ];cases l.all zlx<;>rfl
theorem zzN (hl:l.length<=1152921504606846976) (h:∀w∈l,0<=w/\w<=18446744073709551615):zgW k l=some (l.all fun w=>kNum k&&zjj k w==w):=by
 unfold zgW;have h1:=zmc (fun w=>kNum k&&zjj k w==w) l (fun i=>zej k l i) (by
   refine zhd ?_;unfold zaF;rw [itF (by simp)])
  (fun i hi=>by
   have hx:=h _ (xB hi);cases hk:kNum k
   ·rw [yH,xt (by simp)];refine zhd ?_;unfold zaF;rw [uy,zH rfl hi,sb,ztO k hx,sb,hk,itT (by rfl)]
   ·rw [xO];by_cases hp:zjj k l[i]=l[i]
    ·rw [xu (by simpa using hp)];refine znV ?_;unfold zaF;rw [uy,zH rfl hi,sb,ztO k hx,sb,hk,itF (by simp [hp]),uA];push_cast;rfl
    ·rw [xt (by simpa using hp)];refine zhd ?_;unfold zaF;rw [uy,zH rfl hi,sb,ztO k hx,sb,hk,itT (by simp [hp])])
  l.length 0 (xD _)
 have h1':zej k l 0=_:=h1;rw [h1',sb,xQ];cases l.all (fun w=>kNum k&&zjj k w==w)<;>rfl
theorem zFF (hm:m.Fields.length<=140737488351232) (hu:u.length<=1048576):ziK m u=some (unkR m u):=by
 unfold ziK unkR;have e:lenO u=some u:=by unfold lenO;rw [xu (by omega)]
 rw [e,sb,zHL hu,sb]
 generalize zsW u 0=r
 by_cases c1:r.2=0
 ·by_cases c2:r.1.To=(u.length:Int)
  ·rw [itF (by simp [c1,c2]),zqa hm,sb];have hf:fldI m r.1.Number=zkA (fun f:Fld=>f.Number==r.1.Number) m.Fields:=rfl;rw [hf];cases h:m.Fields.findIdx? (fun f:Fld=>f.Number==r.1.Number) with
   | none=>rw [znb h];simp [c1,c2]
   | some i=>rw [znc h];simp [c1,c2]
  ·rw [itT (by simp [c2])];simp [c2]
 ·rw [itT (by simp [c1])];simp [c1]
theorem zyA {α:Type} {p:α->Bool} (h:∀x,p x=false) (l:List α):l.all p=l.isEmpty:=by
 cases l with
 | nil=>rfl
 | cons x l=>rw [yp,h];rfl
theorem zqp {α:Type} (l:List α):l.isEmpty=decide (l.length=0):=by cases l<;>simp
theorem zBl {s:List Mes} (hs:zls s):∀(fuel:Nat),(∀(x:Msg) (k:Nat),k<s.length->2*szM x<fuel->bdM x->smM x->zex fuel s k x=some (zat s x k))/\
  (∀(v:Vlu) (f:Fld),2*szV v<fuel->bdV v->smV v->zjQ fuel f s v=some (zkr s v f))/\
  ∀(l:List Msg) (k:Int),2*szMs l+1<fuel->l.length<=1152921504606846976->bdMs l->smMs l->zhv fuel s k l=some (decide (0<=k/\k<s.length)&&l.all fun x=>zat s x k)
 | 0=>⟨fun x k _ h=>by omega,fun v f h=>by omega,fun l k h=>by omega⟩
 | fuel+1=>by
  obtain ⟨ih1,ih2,ih3⟩:=zBl hs fuel;have hlen:=hs.len;refine ⟨fun x k hk hsz hb hsm=>?_,fun v f hsz hb hsm=>?_,fun l k hsz hl hb hsm=>?_⟩
  ·obtain ⟨b1,⟨b2,b3⟩,b4⟩:=(zhK x).1 hb;obtain ⟨s1,⟨s2,s3⟩,s4⟩:=(zmD x).1 hsm;rw [zdd] at hsz;show zhx (zhv fuel) (zjQ fuel) (zex fuel) s k x=_;unfold zhx;rw [zlU,xU (show (0:Int)<=(k:Int)/\(k:Int)<(s.length:Int) by omega),xO];have hm:idx s (k:Int)=some (zaC s k):=by rw [zH rfl hk,zjs hk]
   have hmm:zaC s (k:Int)∈s:=by rw [zjs hk];exact xB hk
   have hfew:=hs.few _ hmm;have hfld:=hs.fld _ hmm
   generalize zaC s (k:Int)=m at hm hmm hfew hfld|-
   rw [hm,sb];have hv:∀(c i:Nat) (p:Option Int) (last:Int),i+c=x.Values.length->(p=none/\last=0\/p=some last)->zfD (zjQ fuel) s x m last i=some (if zgv s (x.Values.drop i) m p=true then .inl () else .inr ()):=by
    intro c
    induction c with
    | zero=>
     intro i p last hi _;have e:x.Values.drop i=[]:=xR (by omega);rw [e,zgv,xu rfl];refine zkt ?_;unfold zcg;rw [uz]
    | succ c ih=>
     intro i p last hi hp;have hil:i<x.Values.length:=by omega
     have hx:idx x.Values (i:Int)=some x.Values[i]:=zH rfl hil;have hmem:=xB hil;have z1:=zei hmem;have hbv:=zdO.1 b4 _ hmem;have hsv:=ziG.1 s4 _ hmem;rw [xL hil,zgv]
     generalize x.Values[i]=v at hx hmem z1 hbv hsv|-
     have hw1:IntKind.i64.wrap ((i:Int)+1)=((i+1:Nat):Int):=by rw [uA];push_cast;rfl
     have hbody:zcg (zjQ fuel) s x m last i=if (decide (0<=fldI m v.Number)&&p.all (fun q=>decide (q<v.Number))&&zkr s v (zaI m (fldI m v.Number)))=true then some (.inl (v.Number,((i+1:Nat):Int))) else some (.inr (.inr ())):=by
      unfold zcg;rw [uy,hx,sb,zqa (by omega),sb];have hf:fldI m v.Number=zkA (fun f:Fld=>f.Number==v.Number) m.Fields:=rfl;cases h:m.Fields.findIdx? (fun f:Fld=>f.Number==v.Number) with
      | none=>
       rw [hf,znb h,itT (by rfl),sb,itT (by rfl),xt (by simp)]
      | some j=>
       rw [hf,znc h];have hjs:=pA.1 h;obtain ⟨hj,hjn,_⟩:=hjs;have hjn':(m.Fields[j]).Number=v.Number:=by simpa using hjn
       have hlo:=(hfld _ (xB hj)).lo;have hfj:idx m.Fields (j:Int)=some (zaI m (j:Int)):=by rw [zH rfl hj,zvN hj]
       have hfit:=ih2 v (zaI m (j:Int)) (by omega) hbv hsv;have hpl:p.all (fun q=>decide (q<v.Number))=decide (last<v.Number):=by
        rcases hp with ⟨rfl,rfl⟩| rfl
        ·rw [xU (show (0:Int)<v.Number by omega)];rfl
        ·rfl
       rw [itF (by rfl),hpl,xU (show (0:Int)<=(j:Int) by omega),xO];by_cases hlt:last<v.Number
       ·rw [itF (by simpa using hlt),xU hlt,xO];simp only;rw [hfj,sb,hfit,sb,sb];cases hfv:zkr s v (zaI m (j:Int))
        ·rw [itT (by rfl),xt (by simp)]
        ·rw [itF (by rfl),xu rfl,hw1]
       ·rw [uy,sb,itT (by rfl),ya hlt,xt (by simp)]
     generalize (decide (0<=fldI m v.Number)&&p.all (fun q=>decide (q<v.Number))&&zkr s v (zaI m (fldI m v.Number)))=bb at hbody|-
     cases bb
     ·rw [xt (by simp)] at hbody;rw [zkt hbody,yH,xt (by simp)]
     ·rw [xu rfl] at hbody;rw [zpS hbody,ih _ (some v.Number) v.Number (by omega) (.inr rfl),xO]
   have h1:=hv x.Values.length 0 none 0 (xD _) (.inl ⟨rfl,rfl⟩);have h1':zfD (zjQ fuel) s x m 0 0=_:=h1;rw [xQ] at h1';rw [h1',sb];cases hrv:zgv s x.Values m none
   ·rw [xt (by simp)];rfl
   ·rw [xu rfl,xO];simp only;have h2:=zmc (unkR m) x.Unknown (fun i=>zfE x m i) (by
      refine zku ?_;unfold zch;rw [itF (by simp)])
     (fun i hi=>by
      have hu:=zFF (m:=m) (by omega) (s3 _ (xB hi));cases hun:unkR m x.Unknown[i]
      ·rw [xt (by simp)];refine zku ?_;unfold zch;rw [uy,zH rfl hi,sb,hu,sb,hun,itT (by rfl)]
      ·rw [xu rfl];refine zpT ?_;unfold zch;rw [uy,zH rfl hi,sb,hu,sb,hun,itF (by rfl),uA];push_cast;rfl)
     x.Unknown.length 0 (xD _)
    have h2':zfE x m 0=_:=h2;rw [h2',sb,xQ];cases x.Unknown.all (unkR m)<;>rfl
  ·obtain ⟨_,⟨b1,b1'⟩,⟨b2,b3⟩,b4,b5⟩:=(zhk v).1 hb;obtain ⟨s1,⟨s2,s3⟩,s4,s5⟩:=(zpm v).1 hsm;rw [zfI] at hsz;show zlq (zhv fuel) (zjQ fuel) (zex fuel) f s v=_;unfold zlq;rw [zEJ ⟨by omega,by omega,by omega⟩,sb,zsL,zmx];have hmany:zgS v=v.Words.length+v.Texts.length+v.Subs.length:=rfl;by_cases h0:zgS v=0\/1<zgS v/\f.Repeated=false
   ·have hmr:zpt f v=false:=by
     unfold zpt;rcases h0 with h0| ⟨h0,h1⟩
     ·simp [h0]
     ·rw [h1];simp;omega
    rw [hmr,itT (by
     rcases h0 with h0| ⟨h0,h1⟩
     ·simp [h0]
     ·rw [h1];simp;omega)]
    rfl
   ·have hmr:zpt f v=zfd f.Kind:=by
     unfold zpt;rw [xU (show 0<zgS v by omega),xO];cases hr:f.Repeated
     ·rw [hr] at h0;rw [xU (show zgS v<=1 by simp at h0;omega)];rfl
     ·simp
    rw [hmr,itF (by
     cases hr:f.Repeated
     ·rw [hr] at h0;simp at h0|-;omega
     ·simp;omega)]
    have hW:kNum f.Kind=false->v.Words.all (znn f)=decide (v.Words.length=0):=fun h=>by
     rw [zyA (fun w=>by unfold znn;rw [h];rfl),zqp]
    have hT:f.Kind≠15->f.Kind≠16->v.Texts.all (zmE f)=decide (v.Texts.length=0):=fun h1 h2=>by
     rw [zyA (fun t=>by unfold zmE;simp [h1,h2]),zqp]
    have hS:f.Kind≠17->(v.Subs.all fun x=>f.Kind==17&&zat s x f.Of)=decide (v.Subs.length=0):=fun h=>by
     rw [zyA (fun x=>by simp [h]),zqp]
    by_cases k15:f.Kind=15
    ·rw [itT (by simp [k15]),hW (by rw [k15];rfl),hS (by omega)];have hkr:zfd f.Kind=true:=by rw [k15];rfl
     rw [hkr,xO];by_cases hl:v.Words.length=0/\v.Subs.length=0
     ·rw [uy,zzO (by omega) b3,sb,sb,xU hl.1,xU hl.2,xO,pj];have:v.Texts.all (zmE f)=v.Texts.all zlx:=by
       congr 1;funext t;unfold zmE;simp [k15]
      rw [this]
     ·rw [uz,sb];congr 1
      symm
      by_cases hw0:v.Words.length=0
      ·rw [ya (show ¬v.Subs.length=0 by omega),qO]
      ·rw [ya hw0,yH,yH]
    ·rw [itF (by simp [k15])];by_cases k16:f.Kind=16
     ·rw [itT (by simp [k16]),hW (by rw [k16];rfl),hS (by omega)];have hkr:zfd f.Kind=true:=by rw [k16];rfl
      have hta:v.Texts.all (zmE f)=true:=by rw [xE];intro t _;unfold zmE;simp [k16]
      rw [hkr,hta,xO,pj];congr 1;rw [<-Bool.decide_and];rw [yy];simp only [pJ,xK];omega
     ·rw [itF (by simp [k16])];by_cases k17:f.Kind=17
      ·rw [itT (by simp [k17]),hW (by rw [k17];rfl),hT k15 k16];have hkr:zfd f.Kind=true:=by rw [k17];rfl
       rw [hkr,xO];have hsub:(v.Subs.all fun x=>f.Kind==17&&zat s x f.Of)=v.Subs.all fun x=>zat s x f.Of:=by
        congr 1;funext x;simp [k17]
       rw [hsub];by_cases hl:v.Words.length=0/\v.Texts.length=0
       ·rw [uy,ih3 v.Subs f.Of (by omega) (by omega) b5 s5,sb,sb,xU hl.1,xU hl.2,xO,xO];by_cases hof:0<=f.Of/\f.Of<s.length
        ·rw [xU hof,xO]
        ·rw [ya hof,yH];congr 1
         symm
         have hne:v.Subs≠[]:=fun e=>h0 (.inl (by rw [hmany,hl.1,hl.2,e];rfl))
         obtain ⟨x,l,hxl⟩:=pM hne;rw [hxl,yp,zlU,ya hof];rfl
       ·rw [uz,sb];congr 1
        symm
        by_cases hw0:v.Words.length=0
        ·rw [ya (show ¬v.Texts.length=0 by omega),qO,yH]
        ·rw [ya hw0,yH,yH]
      ·rw [itF (by simp [k17]),hT k15 k16,hS k17];have hck:(v.Words.all fun w=>kNum f.Kind&&zjj f.Kind w==w)=v.Words.all (znn f):=rfl;by_cases hl:v.Texts.length=0/\v.Subs.length=0
       ·rw [uy,zzN (by omega) b1',sb,sb,xU hl.1,xU hl.2,pj,pj,hck];congr 1;cases hkn:kNum f.Kind
        ·rw [hW hkn,ya (show ¬v.Words.length=0 by omega),qO]
        ·have hkr:zfd f.Kind=true:=by
          rw [zFP] at hkn;unfold zfd;simp;omega
         rw [hkr,xO]
       ·rw [uz,sb];congr 1
        symm
        by_cases hw0:v.Texts.length=0
        ·rw [ya (show ¬v.Subs.length=0 by omega),qO]
        ·rw [ya hw0,qO,yH]
  ·show zgr (zhv fuel) (zjQ fuel) (zex fuel) s k l=_;unfold zgr;by_cases hk:0<=k/\k<s.length
   ·rw [uz,xU hk,xO];obtain ⟨n,rfl⟩:∃n:Nat,k=n:=⟨k.toNat,by omega⟩;have h1:=zmc (fun x=>zat s x n) l (fun i=>zeH l n (zex fuel) s i) (by
      refine zjP ?_;unfold zbt;rw [itF (by simp)])
     (fun i hi=>by
      have hm:=xB hi;have z1:=zeT hm;have hr:=ih1 l[i] n (by omega) (by omega) (zep.1 hb _ hm) (ziF.1 hsm _ hm);cases hp:zat s l[i] n
      ·rw [xt (by simp)];refine zjP ?_;unfold zbt;rw [uy,zH rfl hi,sb,hr,sb,hp,itT (by rfl)]
      ·rw [xu rfl];refine zoy ?_;unfold zbt;rw [uy,zH rfl hi,sb,hr,sb,hp,itF (by rfl),uA];push_cast;rfl)
     l.length 0 (xD _)
    have h1':zeH l n (zex fuel) s 0=_:=h1;rw [h1',sb,xQ];cases l.all (fun x=>zat s x n)<;>rfl
   ·rw [uy,ya hk];rfl
theorem zCG (root:Int) (hf:2*szM x<fuel) (hw:WS s) (hb:bdM x) (hsm:smM x) (hd:dM x<=131072):zkM fuel s root x=some (zgo s&&zat s x root):=by
 unfold zkM;rw [zGV hw,sb];by_cases h0:argS s root 0=0
 ·obtain ⟨hr,g1,g2,_,_⟩:=zDO h0;have hrs:zgo s=true:=by
   unfold argS at h0;cases h:zgo s with
   | true=>rfl
   | false=>rw [h,xu rfl] at h0;cases h0
  obtain ⟨k,rfl⟩:∃k:Nat,root=k:=⟨root.toNat,by omega⟩;rw [itT (by simp [h0]),zBi (by omega) hb hd,sb,itT (by rfl),(zBl hr fuel).1 x k (by omega) hf hb hsm,sb,sb,hrs,xO]
 ·rw [itF (by simp [h0]),sb];congr 1
  symm
  cases hrs:zgo s
  ·rfl
  ·rw [xO,zlU];unfold argS at h0;rw [xt (by rw [hrs];simp)] at h0;rw [ya (by split at h0<;>omega)];rfl
theorem zGk {κ ν:Type} [DecidableEq κ] (m:List (κ×ν)) (k:κ) (x:ν):(mput m k x).length<=m.length+1:=by
 have h:=congrArg List.length (zlT m k x);rw [py] at h;rw [h];split<;>simp
theorem zqn (a b:List zB) (way:zB):hasB (a++b) way=(hasB a way|| hasB b way):=by unfold hasB;rw [pL]
theorem zHj {a b:Bool} (h:a=true↔b=true):a=b:=by
 cases a<;>cases b<;>simp at h|-
theorem zDZ {a:List zB} {w:zB} (h:w∈a) (hn:w≠[]):hasB a w=true:=zfO.2 ⟨w,h,hn,qx _⟩
theorem zJm {a:List zB} (h:WW a):WW (ofW a):=⟨yg (zzh _) h.1,fun w hm=>h.2 w (zkP.1 hm).1⟩
theorem zjC:∀{a b:zB},zbK a b=true↔lexI a b<0
 | [],[]=>by simp [zbK,lexI]
 | [],_::_=>by simp [zbK,lexI]
 | _::_,[]=>by simp [zbK,lexI]
 | x::a,y::b=>by
  rw [zbK,lexI];by_cases h:x=y
  ·subst h;rw [xu rfl,xt (qf x),xt (qf x)];exact zjC
  ·rw [xt h];by_cases h1:x<y
   ·simp [h1]
   ·simp [h1,show y<x by omega]
theorem zAx:∀(v t:zB),lexI v (v++t)<=0
 | [],[]=>qg _
 | [],_::_=>by rw [xW,lexI];decide
 | x::v,t=>by rw [yr,lexI,xt (qf x),xt (qf x)];exact zAx v t
theorem zAz {v w:zB} (h:v<+:w):lexI v w<=0:=by
 obtain ⟨t,rfl⟩:=h;exact zAx v t
theorem zAy:∀(v t u:zB),lexI v u<=0->lexI u (v++t)<=0->v<+:u
 | [],t,u,_,_=>List.nil_prefix
 | x::v,t,[],h,_=>by rw [lexI] at h;exact absurd h (by decide)
 | x::v,t,y::u,h,k=>by
  rw [lexI] at h;rw [yr,lexI] at k;by_cases h1:x<y
  ·rw [xt (show ¬y<x by omega),xu h1] at k;exact absurd k (by decide)
  ·by_cases h2:y<x
   ·rw [xt h1,xu h2] at h;exact absurd h (by decide)
   ·rw [xt h1,xt h2] at h;rw [xt h2,xt h1] at k;obtain rfl:x=y:=by omega
    exact List.cons_prefix_cons.2 ⟨rfl,zAy v t u h k⟩
theorem zHO {v w u:zB} (hp:v<+:w) (h:lexI v u<=0) (k:lexI u w<=0):v<+:u:=by
 obtain ⟨t,rfl⟩:=hp;exact zAy v t u h k
structure zlZ (l:List zB):Prop where
 sorted:l.Pairwise (fun a b=>zbK a b=true)
 full:∀w∈l,w≠[]
 anti:∀v∈l,∀w∈l,v<+:w->v=w
theorem zlZ.of {l:List zB} (h:zlZ l):ofW l=l:=
 zqO _ _ (zpe l) h.sorted fun w=>by
  rw [zkP];exact ⟨fun k=>k.1,fun hw=>⟨hw,h.full w hw,fun v hv _ hp=>h.anti v hv w hw hp⟩⟩
theorem zyb (ways:List zB):zlZ (ofW ways):=
 ⟨zpe ways,fun w hw=>(zkP.1 hw).2.1,fun v hv w hw hp=>(zkP.1 hw).2.2 v (zkP.1 hv).1 (zkP.1 hv).2.1 hp⟩
theorem zEq {l:List zB}:zlZ l↔ofW l=l:=⟨fun h=>h.of,fun h=>h▸zyb l⟩
theorem zya:zlZ []:=⟨List.Pairwise.nil,fun w hw=>(by cases hw),fun v hv=>(by cases hv)⟩
theorem zlZ.filter {l:List zB} (h:zlZ l) (p:zB->Bool):zlZ (l.filter p):=
 ⟨h.sorted.filter p,fun w hw=>h.full w (yx.1 hw).1,fun v hv w hw=>h.anti v (yx.1 hv).1 w (yx.1 hw).1⟩
def zyq (last way:zB):Bool:=decide (0<=lexI last way)|| (!last.isEmpty&&begB way last)
def zky:zB->List zB->Bool
 | _,[]=>true
 | last,w::l=> !zyq last w&&zky w l
theorem zEG {last way:zB}:zyq last way=false↔lexI last way<0/\¬(last≠[]/\last<+:way):=by
 unfold zyq;rw [qb,qt,<-qv,xy,zjW,yh,qw];constructor
 ·rintro ⟨h,k⟩;exact ⟨by omega,k⟩
 ·rintro ⟨h,k⟩;exact ⟨by omega,k⟩
theorem zoL {last w:zB} {l:List zB}:zky last (w::l)=true↔lexI last w<0/\¬(last≠[]/\last<+:w)/\zky w l=true:=by
 rw [zky,xy,yh,zEG,and_assoc]
theorem zoM:∀{l:List zB} {last:zB},zky last l=true->∀w∈l,lexI last w<0
 | [],_,_,w,hw=>by cases hw
 | u::l,last,h,w,hw=>by
  obtain ⟨h1,_,h3⟩:=zoL.1 h;rcases xz.1 hw with rfl| hw
  ·exact h1
  ·exact zjC.1 (zng last u w (zjC.2 h1) (zjC.2 (zoM h3 w hw)))
theorem zBM:∀{l:List zB} {last:zB},zky last l=true->last≠[]->∀w∈l,¬last<+:w
 | [],_,_,_,w,hw=>by cases hw
 | u::l,last,h,hn,w,hw=>by
  obtain ⟨h1,h2,h3⟩:=zoL.1 h;rcases xz.1 hw with rfl| hw
  ·exact fun hp=>h2 ⟨hn,hp⟩
  ·exact fun hp=>h2 ⟨hn,zHO hp (by omega) (by have:=zoM h3 w hw;omega)⟩
theorem zur:∀{l:List zB} {last:zB},zky last l=true->zlZ l
 | [],_,_=>zya
 | u::l,last,h=>by
  obtain ⟨h1,h2,h3⟩:=zoL.1 h;have ih:=zur h3;have hu:u≠[]:=fun e=>by
   subst e;cases last with
   | nil=>rw [lexI] at h1;exact absurd h1 (by decide)
   | cons=>rw [lexI] at h1;exact absurd h1 (by decide)
  refine ⟨yn.2 ⟨fun w hw=>zjC.2 (zoM h3 w hw),ih.sorted⟩,fun w hw=>?_,fun v hv w hw hp=>?_⟩
  ·rcases xz.1 hw with rfl| hw
   ·exact hu
   ·exact ih.full w hw
  ·rcases xz.1 hv with rfl| hv1
   ·rcases xz.1 hw with rfl| hw1
    ·rfl
    ·exact absurd hp (zBM h3 hu w hw1)
   ·rcases xz.1 hw with rfl| hw1
    ·have:=zoM h3 v hv1;have:=zAz hp;have:=ziQ v w;omega
    ·exact ih.anti v hv1 w hw1 hp
theorem zzU:∀{l:List zB} {last:zB},zlZ l->(∀w∈l,lexI last w<0/\¬(last≠[]/\last<+:w))->zky last l=true
 | [],_,_,_=>rfl
 | u::l,last,h,k=>by
  obtain ⟨h1,h2⟩:=yn.1 h.sorted;refine zoL.2 ⟨(k u xw).1,(k u xw).2,zzU ⟨h2,fun w hw=>h.full w (xx _ hw),fun v hv w hw=>h.anti v (xx _ hv) w (xx _ hw)⟩ fun w hw=>⟨zjC.1 (h1 w hw),fun ⟨_,hp⟩=>?_⟩⟩;have e:=h.anti u xw w (xx _ hw) hp;have:=h1 w hw;rw [<-e,ziP] at this;cases this
theorem zxD {l:List zB}:zky [] l=true↔ofW l=l:=by
 rw [<-zEq];refine ⟨zur,fun h=>zzU h fun w hw=>⟨?_,fun k=>k.1 rfl⟩⟩;cases w with
 | nil=>exact absurd rfl (h.full [] hw)
 | cons=>rw [lexI];decide
def addL (acc:List zB) (x:zB):List zB:=if (!x.isEmpty&& !hasB acc x)=true then acc++[x] else acc
structure Fo (pre acc:List zB):Prop where
 mask:zlZ acc
 has:∀v,hasB acc v=hasB pre v
 mem:∀a∈acc,a∈pre
theorem zDb {pre acc:List zB} {x:zB} (h:Fo pre acc) (hx:∀a∈pre,lexI a x<=0) (hn:hasB acc x=false):∀a∈acc,¬x<+:a:=fun a ha hp=>by
 have e:=zxX (hx a (h.mem a ha)) (zAz hp);subst e;rw [zDZ ha (h.mask.full a ha)] at hn;cases hn
theorem zHs {pre acc:List zB} {x:zB} (h:Fo pre acc) (hx:∀a∈pre,lexI a x<=0):Fo (pre++[x]) (addL acc x):=by
 unfold addL;have one:∀v,hasB [x] v=(!x.isEmpty&&begB v x):=fun v=>by simp [hasB]
 by_cases hc:(!x.isEmpty&& !hasB acc x)=true
 ·rw [xu hc];simp only [xy,yh,qw] at hc;obtain ⟨h1,h2⟩:=hc;have hf:=zDb h hx h2;have hb:∀a∈acc,¬a<+:x:=fun a ha hp=>by
   rw [zfO.2 ⟨a,ha,h.mask.full a ha,hp⟩] at h2;cases h2
  refine ⟨⟨List.pairwise_append.2 ⟨h.mask.sorted,List.pairwise_singleton _ _,fun a ha b hb'=>?_⟩,fun w hw=>?_,fun v hv w hw hp=>?_⟩,fun v=>by rw [zqn,zqn,h.has v],fun a ha=>?_⟩
  ·simp only [yc] at hb';subst hb';have h3:=hx a (h.mem a ha);rcases Int.lt_or_eq_of_le h3 with h4| h4
   ·exact zjC.2 h4
   ·exact absurd (zri h4▸qx _) (hb a ha)
  ·rcases xC.1 hw with hw| hw
   ·exact h.mask.full w hw
   ·simp only [yc] at hw;rw [hw];exact h1
  ·rcases xC.1 hv with hv1| hv1<;>rcases xC.1 hw with hw1| hw1
   ·exact h.mask.anti v hv1 w hw1 hp
   ·simp only [yc] at hw1;subst hw1;exact absurd hp (hb v hv1)
   ·simp only [yc] at hv1;subst hv1;exact absurd hp (hf w hw1)
   ·simp only [yc] at hv1 hw1;rw [hv1,hw1]
  ·rcases xC.1 ha with ha| ha
   ·exact xX _ (h.mem a ha)
   ·exact xY _ ha
 ·rw [xt hc];refine ⟨h.mask,fun v=>?_,fun a ha=>xX _ (h.mem a ha)⟩;rw [zqn,one,<-h.has v];cases he:(!x.isEmpty&&begB v x) with
  | false=>rw [qN]
  | true=>
   simp only [xy,yh,qw,zjW] at he;have hh:hasB acc x=true:=by
    cases hb:hasB acc x with
    | true=>rfl
    | false=>exact absurd (by simp [hb,he.1]) hc
   obtain ⟨a,ha,hn,hp⟩:=zfO.1 hh;rw [zfO.2 ⟨a,ha,hn,hp.trans he.2⟩];rfl
theorem zIB:Fo [] []:=⟨zya,fun v=>rfl,fun a ha=>(by cases ha)⟩
theorem zIC {l acc:List zB} (h:Fo l acc):acc=ofW l:=by rw [<-h.mask.of];exact zAI h.has
theorem zGn {l r:List zB} (h:r.Perm l):ofW r=ofW l:=zAI fun v=>by
 refine zHj ?_;rw [zfO,zfO];exact ⟨fun ⟨a,ha,k⟩=>⟨a,h.mem_iff.1 ha,k⟩,fun ⟨a,ha,k⟩=>⟨a,h.mem_iff.2 ha,k⟩⟩
abbrev zsB:=List (zae×Int)
structure Trie (t:zsB) (A:List zB) (P:List (zB×Int)):Prop where
 root:([],0)∈P
 same:∀p∈P,∀q∈P,(p.2=q.2↔p.1=q.1)
 ids:∀p∈P,0<=p.2/\p.2<=t.length
 keys:∀(i n:Int),(t.length:Int)<i->mget t ⟨i,n⟩=none
 leaf:∀p∈P,∀n,p.1++[n]∈A->mget t ⟨p.2,n⟩=some (-1)
 node:∀p∈P,∀n,∀q∈P,q.1=p.1++[n]->mget t ⟨p.2,n⟩=some q.2
 none:∀p∈P,∀n,p.1++[n]∉A->(∀q∈P,q.1≠p.1++[n])->mget t ⟨p.2,n⟩=none
 clo:∀q∈P,∀p n,q.1=p++[n]->∃i,(p,i)∈P
 comp:∀a∈A,∀p,p<+:a->p≠a->∃i,(p,i)∈P
 anti:∀v∈A,∀w∈A,v<+:w->v=w
 full:∀a∈A,a≠[]
def zuo (t:zsB) (A:List zB) (P:List (zB×Int)):Prop:=Trie t A P/\∀p∈P,p.1=[]\/∃a∈A,p.1<+:a/\p.1≠a
theorem zGS:zuo [] [] [([],0)]:=by
 have h1:∀p∈[(([]:zB),(0:Int))],p=([],0):=fun p hp=>by simpa using hp
 refine ⟨⟨xw,fun p hp q hq=>?_,fun p hp=>?_,fun i n _=>rfl,fun p hp n h=>(by cases h),fun p hp n q hq h=>?_,fun p hp n _ _=>rfl,fun q hq p n h=>?_,fun a ha=>(by cases ha),fun v hv=>(by cases hv),fun a ha=>(by cases ha)⟩,fun p hp=>?_⟩
 ·rw [h1 p hp,h1 q hq];simp
 ·rw [h1 p hp];simp
 ·rw [h1 q hq,h1 p hp] at h;simp at h
 ·rw [h1 q hq] at h;simp at h
 ·rw [h1 p hp];exact .inl rfl
theorem zzk {a b:zB} (h:a<+:b) (hl:b.length<=a.length):a=b:=h.eq_of_length (Nat.le_antisymm h.length_le hl)
section
variable {t:zsB} {A:List zB} {P:List (zB×Int)}
theorem zGQ (h:zuo t A P) {way:zB} {i:Int} (hw:(way,i)∈P):hasB A way=false:=by
 rw [<-qv,zfO];rintro ⟨v,hv,hn,hp⟩;rcases h.2 _ hw with h0| ⟨a,ha,h1,h2⟩
 ·simp only at h0;subst h0;exact hn (List.prefix_nil.1 hp)
 ·have e:=h.1.anti v hv a ha (hp.trans h1);subst e;exact h2 (zzk h1 hp.length_le)
theorem zEL {p:zB} {way:zB} (hp:p<+:way) (hn:p≠[]) (ha:p∈A):hasB A way=true:=zfO.2 ⟨p,ha,hn,hp⟩
theorem zEM (h:zuo t A P) {p way:zB} {i n:Int} (hp:(p,i)∈P) (hq:p++[n]<+:way) (hA:p++[n]∉A) (hP:∀q∈P,q.1≠p++[n]):hasB A way=false:=by
 rw [<-qv,zfO];rintro ⟨v,hv,hn,hv2⟩;have hpw:p<+:way:=(ui p [n]).trans hq;rcases Nat.lt_trichotomy v.length (p++[n]).length with hl| hl| hl
 ·have hvp:v<+:p:=uj hv2 hpw (by simp at hl;omega);rcases h.2 _ hp with h0| ⟨a,ha,h1,h2⟩
  ·simp only at h0;subst h0;exact hn (List.prefix_nil.1 hvp)
  ·have e:=h.1.anti v hv a ha (hvp.trans h1);subst e;exact h2 (zzk h1 hvp.length_le)
 ·have hvq:v<+:p++[n]:=uj hv2 hq (by omega);rw [zzk hvq (by omega)] at hv;exact hA hv
 ·have hqv:p++[n]<+:v:=uj hq hv2 (by omega);obtain ⟨j,hj⟩:=h.1.comp v hv _ hqv (fun e=>by rw [e] at hl;omega);exact hP _ hj rfl
theorem zAG {t:zsB} {k:zae} (h:mget t k=none) (x:Int):(mput t k x).length=t.length+1:=by
 have:=congrArg List.length (zlT t k x);rw [h] at this;simpa using this
theorem zGl {t:zsB} {k:zae} {y:Int} (h:mget t k=some y) (x:Int):(mput t k x).length=t.length:=by
 have:=congrArg List.length (zlT t k x);rw [h] at this;simpa using this
theorem zvx {i n j m:Int} (h:¬(i=j/\n=m)):¬((⟨i,n⟩:zae)=⟨j,m⟩):=fun e=>h (by injection e with e1 e2;exact ⟨e1,e2⟩)
theorem zwO {a b:zB} {x y:Int} (h:a++[x]=b++[y]):a=b/\x=y:=by
 have:=List.append_inj' h rfl;exact ⟨this.1,by simpa using this.2⟩
theorem zGR (h:Trie t A P) {p:zB} {i n:Int} (hp:(p,i)∈P) (hA:p++[n]∉A) (hP:∀q∈P,q.1≠p++[n]):
  Trie (mput t ⟨i,n⟩ ((t.length+1:Nat):Int)) A (P++[(p++[n],((t.length+1:Nat):Int))]):=by
 have hg:=h.none _ hp n hA hP;have hl:=zAG hg ((t.length+1:Nat):Int);have hi:=h.ids _ hp;have new:∀r,r∈P++[(p++[n],((t.length+1:Nat):Int))]->r∈P\/r=(p++[n],((t.length+1:Nat):Int)):=fun r hr=>by
  rcases xC.1 hr with hr| hr
  ·exact .inl hr
  ·exact .inr (by simpa using hr)
 have key:∀r∈P,∀m,r.1++[m]≠p++[n]->mget (mput t ⟨i,n⟩ ((t.length+1:Nat):Int)) ⟨r.2,m⟩=mget t ⟨r.2,m⟩:=fun r hr m hne=>by
  rw [zeG,xt (zvx fun ⟨e1,e2⟩=>hne (by rw [(h.same r hr _ hp).1 e1,e2]))]
 have fresh:∀m,mget (mput t ⟨i,n⟩ ((t.length+1:Nat):Int)) ⟨((t.length+1:Nat):Int),m⟩=none:=fun m=>by
  rw [zeG,xt (zvx fun ⟨e1,_⟩=>by simp only at hi;omega)];exact h.keys _ _ (by omega)
 refine ⟨xX _ h.root,fun r hr s hs=>?_,fun r hr=>?_,fun j m hj=>?_,fun r hr m hm=>?_,fun r hr m s hs hsr=>?_,fun r hr m hm hns=>?_,fun s hs q m hq=>?_,fun a ha q hq hne=>?_,h.anti,h.full⟩
 ·rcases new r hr with hr| rfl<;>rcases new s hs with hs| rfl
  ·exact h.same r hr s hs
  ·have:=h.ids r hr;exact ⟨fun e=>by simp only at e;omega,fun e=>absurd e (hP r hr)⟩
  ·have:=h.ids s hs;exact ⟨fun e=>by simp only at e;omega,fun e=>absurd e.symm (hP s hs)⟩
  ·exact ⟨fun _=>rfl,fun _=>rfl⟩
 ·rw [hl];rcases new r hr with hr| rfl
  ·have:=h.ids r hr;exact ⟨this.1,by omega⟩
  ·exact ⟨by simp only;omega,qg _⟩
 ·rw [hl] at hj;simp only at hi;rw [zeG,xt (zvx fun ⟨e1,_⟩=>by omega)];exact h.keys _ _ (by omega)
 ·rcases new r hr with hr| rfl
  ·rw [key r hr m (fun e=>hA (e▸hm))];exact h.leaf r hr m hm
  ·obtain ⟨j,hj⟩:=h.comp _ hm (p++[n]) (ui _ _) (fun e=>by have:=congrArg List.length e;simp at this);exact absurd rfl (hP _ hj)
 ·rcases new s hs with hs| rfl
  ·rcases new r hr with hr| rfl
   ·rw [key r hr m (fun e=>hP s hs (hsr.trans e))];exact h.node r hr m s hs hsr
   ·obtain ⟨j,hj⟩:=h.clo s hs _ _ hsr;exact absurd rfl (hP _ hj)
  ·rcases new r hr with hr| rfl
   ·obtain ⟨e1,e2⟩:=zwO hsr;have e3:r.2=i:=(h.same r hr _ hp).2 e1.symm;rw [zeG,xu (by rw [e3,e2])]
   ·have:=congrArg List.length hsr;simp at this
 ·rcases new r hr with hr| rfl
  ·have hne:r.1++[m]≠p++[n]:=fun e=>hns _ (xY _ xw) e.symm
   rw [key r hr m hne];exact h.none r hr m hm fun q hq=>hns q (xX _ hq)
  ·exact fresh m
 ·rcases new s hs with hs| rfl
  ·obtain ⟨j,hj⟩:=h.clo s hs q m hq;exact ⟨j,xX _ hj⟩
  ·obtain ⟨e1,e2⟩:=zwO hq;exact ⟨i,xX _ (e1▸hp)⟩
 ·obtain ⟨j,hj⟩:=h.comp a ha q hq hne;exact ⟨j,xX _ hj⟩
theorem zCF (h:Trie t A P) {way:zB} {j:Int} (hw:(way,j)∈P):∀p,p<+:way->∃i,(p,i)∈P:=by
 have key:∀(d:Nat) (p:zB),p.length+d=way.length->p<+:way->∃i,(p,i)∈P:=by
  intro d
  induction d with
  | zero=>intro p hl hp;rw [zzk hp (by omega)];exact ⟨j,hw⟩
  | succ d ih=>
   intro p hl hp;have hlt:p.length<way.length:=by omega
   have hq:p++[way[p.length]]<+:way:=by
    have e:p=way.take p.length:=uf.1 hp;have:way.take (p.length+1)=p++[way[p.length]]:=by rw [yv hlt,<-e]
    rw [<-this];exact uk _ _
   obtain ⟨i,hi⟩:=ih _ (by simp;omega) hq;exact h.clo _ hi p _ rfl
 intro p hp;exact key (way.length - p.length) p (by have:=hp.length_le;omega) hp
theorem zEK (h:Trie t A P) {p:zB} {i n j:Int} (hp:(p,i)∈P) (hw:(p++[n],j)∈P) (hf:∀a∈A,¬p++[n]<+:a) (hb:∀a∈A,¬a<+:p++[n])
  (hx:∀r∈P,r.1=[]\/(∃a∈A,r.1<+:a/\r.1≠a)\/r.1<+:p++[n]):(mput t ⟨i,n⟩ (-1)).length=t.length/\zuo (mput t ⟨i,n⟩ (-1)) (A++[p++[n]]) (P.filter fun r=>decide (r.1≠p++[n])):=by
 have hg:=h.node _ hp n _ hw rfl;have hl:=zGl hg (-1);have hA:p++[n]∉A:=fun ha=>hf _ ha (qx _)
 have mem:∀r,r∈P.filter (fun r=>decide (r.1≠p++[n]))↔r∈P/\r.1≠p++[n]:=fun r=>by rw [yx];simp
 have key:∀r∈P,∀m,r.1++[m]≠p++[n]->mget (mput t ⟨i,n⟩ (-1)) ⟨r.2,m⟩=mget t ⟨r.2,m⟩:=fun r hr m hne=>by
  rw [zeG,xt (zvx fun ⟨e1,e2⟩=>hne (by rw [(h.same r hr _ hp).1 e1,e2]))]
 have hself:∀r∈P,∀m,r.1++[m]=p++[n]->mget (mput t ⟨i,n⟩ (-1)) ⟨r.2,m⟩=some (-1):=fun r hr m e=>by
  obtain ⟨e1,e2⟩:=zwO e;rw [zeG,xu (by rw [(h.same r hr _ hp).2 e1,e2])]
 have inA:∀a,a∈A++[p++[n]]->a∈A\/a=p++[n]:=fun a ha=>by
  rcases xC.1 ha with ha| ha
  ·exact .inl ha
  ·exact .inr (by simpa using ha)
 refine ⟨hl,⟨(mem _).2 ⟨h.root,by simp⟩,fun r hr s hs=>h.same r ((mem r).1 hr).1 s ((mem s).1 hs).1,fun r hr=>?_,fun k m hk=>?_,fun r hr m hm=>?_,fun r hr m s hs hsr=>?_,fun r hr m hm hns=>?_,fun s hs q m hq=>?_,fun a ha q hq hne=>?_,fun v hv w hw' hvw=>?_,fun a ha=>?_⟩,fun r hr=>?_⟩
 ·rw [hl];exact h.ids r ((mem r).1 hr).1
 ·rw [hl] at hk;have:=h.ids _ hp;simp only at this;rw [zeG,xt (zvx fun ⟨e1,_⟩=>by omega)];exact h.keys _ _ hk
 ·obtain ⟨hr,_⟩:=(mem r).1 hr;by_cases he:r.1++[m]=p++[n]
  ·exact hself r hr m he
  ·rw [key r hr m he];rcases inA _ hm with hm| hm
   ·exact h.leaf r hr m hm
   ·exact absurd hm he
 ·obtain ⟨hr,_⟩:=(mem r).1 hr;obtain ⟨hs,hs2⟩:=(mem s).1 hs;rw [key r hr m (fun e=>hs2 (hsr.trans e))];exact h.node r hr m s hs hsr
 ·obtain ⟨hr,_⟩:=(mem r).1 hr;have he:r.1++[m]≠p++[n]:=fun e=>hm (by rw [e];exact xY _ xw)
  rw [key r hr m he];exact h.none r hr m (fun ha=>hm (xX _ ha)) fun q hq e=>hns q ((mem q).2 ⟨hq,by rw [e];exact he⟩) e
 ·obtain ⟨hs,hs2⟩:=(mem s).1 hs;obtain ⟨k,hk⟩:=h.clo s hs q m hq;refine ⟨k,(mem _).2 ⟨hk,fun e=>?_⟩⟩;simp only at e;rcases hx s hs with h0| ⟨a,ha,h1,_⟩| h1
  ·rw [h0] at hq;simp at hq
  ·exact hf a ha ((by rw [<-e];exact (hq▸ui q [m]:q<+:s.1):p++[n]<+:s.1).trans h1)
  ·have:=h1.length_le;rw [hq,e] at this;simp at this
 ·have hne2:q≠p++[n]->∀k,(q,k)∈P->(q,k)∈P.filter (fun r=>decide (r.1≠p++[n])):=fun hq k hk=>(mem _).2 ⟨hk,hq⟩
  rcases inA a ha with ha| rfl
  ·obtain ⟨k,hk⟩:=h.comp a ha q hq hne;exact ⟨k,hne2 (fun e=>hf a ha (e▸hq)) k hk⟩
  ·obtain ⟨k,hk⟩:=zCF h hw q hq;exact ⟨k,hne2 hne k hk⟩
 ·rcases inA v hv with hv| rfl<;>rcases inA w hw' with hw'| rfl
  ·exact h.anti v hv w hw' hvw
  ·exact absurd hvw (hb v hv)
  ·exact absurd hvw (hf w hw')
  ·rfl
 ·rcases inA a ha with ha| rfl
  ·exact h.full a ha
  ·simp
 ·obtain ⟨hr,hr2⟩:=(mem r).1 hr;rcases hx r hr with h0| ⟨a,ha,h1,h2⟩| h1
  ·exact .inl h0
  ·exact .inr ⟨a,xX _ ha,h1,h2⟩
  ·exact .inr ⟨_,xY _ xw,h1,hr2⟩
end
def go12 {σ ρ χ:Type} (kb:σ->χ->Option (σ⊕ρ)):List χ->σ->Option (σ⊕ρ)
 | [],s=>some (.inl s)
 | p::ps,s=>match kb s p with
  | some (.inl s')=>go12 kb ps s'
  | some (.inr r)=>some (.inr r)
  | none=>none
theorem zIW {σ ρ χ:Type} {kb:σ->χ->Option (σ⊕ρ)} {s s':σ} {x:χ} (h:kb s x=some (.inl s')):rnd kb (.inl s) x=some (true,.inl s'):=by simp only [rnd,h]
theorem zIX {σ ρ χ:Type} {kb:σ->χ->Option (σ⊕ρ)} {s:σ} {r:ρ} {x:χ} (h:kb s x=some (.inr r)):rnd kb (.inl s) x=some (false,.inr r):=by simp only [rnd,h]
theorem zHk (x y:Int):zhl x y=some (if x<y then -1 else if y<x then 1 else 0):=by
 unfold zhl ziA;rw [sb,sb,itF (by simp),itF (by simp)];by_cases h:x<y
 ·rw [itT (by simpa using h),xu h]
 ·rw [itF (by simpa using h),xt h];by_cases h2:y<x
  ·rw [itT (by simpa using h2),xu h2]
  ·rw [itF (by simpa using h2),xt h2]
theorem zBP {a b:zB} (ha:a.length<=1152921504606846976):zdm a b=some (lexI a b):=by
 have key:∀(d i:Nat),i+d=a.length->i<=b.length->∃r,zcc a b i=some r/\(match r with| .inl _=>(if (a.length:Int)<(b.length:Int) then -1 else 0)| .inr x=>x)=lexI (a.drop i) (b.drop i):=by
  intro d
  induction d with
  | zero=>
   intro i hi hib;refine ⟨.inl (),zcV ?_,?_⟩
   ·unfold zad;rw [uz]
   ·rw [xR (show a.length<=i by omega)];cases hb:b.drop i with
    | nil=>
     have:=congrArg List.length hb;simp at this;rw [lexI];simp only;rw [xt (by omega)]
    | cons y l=>
     have:=congrArg List.length hb;simp at this;rw [lexI];simp only;rw [xu (by omega)]
  | succ d ih=>
   intro i hi hib;have hia:i<a.length:=by omega
   by_cases hlt:i<b.length
   ·have hb:zad a b i=if (if a[i]<b[i] then (-1:Int) else if b[i]<a[i] then 1 else 0)=0 then some (.inl ((i+1:Nat):Int)) else some (.inr (.inr (if a[i]<b[i] then (-1:Int) else if b[i]<a[i] then 1 else 0))):=by
     unfold zad;rw [uy,zH rfl hia,sb,uz,zH rfl hlt,sb,zHk,sb,uA];by_cases h0:(if a[i]<b[i] then (-1:Int) else if b[i]<a[i] then 1 else 0)=0
     ·rw [itF (by simp [h0]),xu h0];push_cast;rfl
     ·rw [itT (by simpa using h0),xt h0]
    rw [xL hia,xL hlt,lexI];by_cases h1:a[i]<b[i]
    ·rw [xu h1] at hb|-;rw [xt (by decide)] at hb;exact ⟨_,zcV hb,rfl⟩
    ·by_cases h2:b[i]<a[i]
     ·rw [xt h1,xu h2] at hb|-;rw [xt (by decide)] at hb;exact ⟨_,zcV hb,rfl⟩
     ·rw [xt h1,xt h2] at hb|-;rw [xu rfl] at hb;obtain ⟨r,k1,k2⟩:=ih (i+1) (by omega) (by omega);exact ⟨r,by rw [zkh hb];exact k1,k2⟩
   ·refine ⟨.inr 1,zcV ?_,?_⟩
    ·unfold zad;rw [uy,zH rfl hia,sb,uy]
    ·rw [xL hia,xR (show b.length<=i by omega)];rfl
 obtain ⟨r,h1,h2⟩:=key a.length 0 (by omega) (by omega);have h1':zcc a b 0=some r:=h1;rw [xQ,xQ] at h2;unfold zdm;rw [h1',sb];cases r with
 | inl _=>
  simp only at h2|-;by_cases hl:(a.length:Int)<(b.length:Int)
  ·rw [xu hl] at h2;rw [itT (by simpa using hl),h2]
  ·rw [xt hl] at h2;rw [itF (by simpa using hl),h2]
 | inr x=>simp only at h2|-;rw [h2]
theorem zDT {a b:zB} (ha:a.length<=1152921504606846976):zef a b=some (decide (a=b)):=by
 unfold zef;by_cases hl:a.length=b.length
 ·rw [itF (by simp [hl])];have key:∀(d i:Nat),i+d=a.length->zcv a b i=some (if a.drop i=b.drop i then .inl () else .inr ()):=by
   intro d
   induction d with
   | zero=>
    intro i hi;rw [xR (show a.length<=i by omega),xR (show b.length<=i by omega),xu rfl];refine zht ?_;unfold zah;rw [uz]
   | succ d ih=>
    intro i hi;have hia:i<a.length:=by omega
    have hib:i<b.length:=by omega
    rw [xL hia,xL hib];by_cases he:a[i]=b[i]
    ·have hb:zah a b i=some (.inl ((i+1:Nat):Int)):=by
      unfold zah;rw [uy,zH rfl hia,sb,zH rfl hib,sb,itF (by simp [he]),uA];push_cast;rfl
     rw [zkK hb,ih (i+1) (by omega)];by_cases h:a.drop (i+1)=b.drop (i+1)
     ·rw [xu h,xu (by rw [he,h])]
     ·rw [xt h,xt (fun e=>h (by injection e))]
    ·rw [xt (fun e=>he (by injection e))];refine zht ?_;unfold zah;rw [uy,zH rfl hia,sb,zH rfl hib,sb,itT (by simp [he])]
  have h:=key a.length 0 (by omega);have h':zcv a b 0=_:=h;rw [h',sb,xQ,xQ];by_cases he:a=b
  ·rw [xu he];simp [he]
  ·rw [xt he];simp [he]
 ·rw [uy];have:a≠b:=fun e=>hl (by rw [e])
  simp [this]
theorem zHE {way other:zB} (h:way.length<=1152921504606846976):zon way other=some (!other.isEmpty&&begB way other):=by
 unfold zon;cases other with
 | nil=>rw [itF (by simp),sb];rfl
 | cons y l=>
  rw [itT (by simp<;>omega)];by_cases hl:(y::l).length<=way.length
  ·rw [itT (by simp at hl|-;omega),zme rfl hl,sb,zDT (by rw [yb];omega),sb,sb];congr 1;rw [List.isEmpty_cons,pN,xO,yy,zjW,xK,uf];exact ⟨fun h=>h.symm,fun h=>h.symm⟩
  ·rw [itF (by simp at hl|-;omega),sb];congr 1;rw [List.isEmpty_cons,pN,xO]
   symm
   rw [<-qv,zjW];exact fun hp=>hl hp.length_le
theorem zDQ {a:zB} (h:a.length<=17592186043904):zee a=some a:=by
 unfold zee;have h1:(app 8 ([]:zB) a>>=fun v=>some v)=some a:=by rw [zfm (by simp;omega),sb,xW]
 cases a with
 | nil=>exact zpZ rfl h1
 | cons=>exact h1
theorem zHS {α:Type} (l:List α) (m:Nat) (d x:α):(l++List.replicate (m+1) d).set l.length x=(l++[x])++List.replicate m d:=by
 rw [List.set_append_right _ _ (xA _),Nat.sub_self,List.replicate_succ,List.set_cons_zero,qE];rfl
theorem zAa {ways:List zB} (hw:WW ways):∀(t:List zB) (k:Nat),ways.drop k=t->k<=ways.length->zhq ways (ways.take k++List.replicate (ways.length - k) []) k=some ways:=by
 have hl:=hw.1;intro t
 induction t with
 | nil=>
  intro k hd hk;have:=zcH hd;obtain rfl:k=ways.length:=by omega
  rw [yW,Nat.sub_self,List.replicate_zero,yQ];refine zsc ?_;unfold zdH;rw [itF (by simp)]
 | cons x t ih=>
  intro k hd hk;obtain ⟨hlt,hx,hd'⟩:=zbZ hd;have hln:(ways.take k).length=k:=by rw [yb];omega
  have hxl:=hw.2 x (hx▸xB hlt);refine (zsb (l':=ways.take (k+1)++List.replicate (ways.length - (k+1)) []) (v2':=((k+1:Nat):Int)) ?_).trans (ih (k+1) hd' (by omega));unfold zdH;rw [uy,zH rfl hlt,sb,hx,zDQ hxl,sb,zH rfl (show k<_ by rw [ye,qZ,hln];omega),sb,uA,ym];have e:=zHS (ways.take k) (ways.length - (k+1)) ([]:zB) x;rw [hln,show ways.length - (k+1)+1=ways.length - k by omega] at e;rw [e,yv hlt,hx];push_cast;rfl
theorem zxG {ways:List zB} (hw:WW ways):zjN ways=some ways:=by
 have hl:=hw.1;unfold zjN;rw [zwm (a:=ways.length) rfl (qg _) (by omega),sb];have h:=zAa hw ways 0 rfl (xH _);rw [yB,xW,qo] at h;have h':zhq ways (List.replicate ways.length []) 0=_:=h;rw [h',sb]
theorem zAm {ways:List zB} (hw:WW ways):∀(t:List zB) (k:Nat) (last:zB),ways.drop k=t->last.length<=17592186043904->zhr ways last k=some (if zky last t=true then .inl () else .inr ()):=by
 have hl:=hw.1;intro t
 induction t with
 | nil=>
  intro k last hd _;have:=zcH hd;rw [zky,xu rfl];refine zmq ?_;unfold zdb;rw [uz]
 | cons x t ih=>
  intro k last hd hll;obtain ⟨hlt,hx,hd'⟩:=zbZ hd;have hxl:=hw.2 x (hx▸xB hlt);have hb:zdb ways last k=if zyq last x then some (.inr (.inr ())) else some (.inl (x,((k+1:Nat):Int))):=by
   unfold zdb;rw [uy,zH rfl hlt,sb,hx,zBP (by omega),sb,uA];unfold zyq;by_cases h0:0<=lexI last x
   ·rw [itT (by simpa using h0),sb,itT rfl,xU h0];rfl
   ·rw [itF (by simpa using h0),zHE (by omega),sb,sb,ya h0,qi];cases (!last.isEmpty&&begB x last) with
    | true=>rfl
    | false=>rw [itF rfl];push_cast;rfl
  rw [zky];cases hs:zyq last x with
  | true=>
   rw [hs] at hb;rw [xt (by simp)];exact zmq hb
  | false=>
   rw [hs] at hb;rw [pN,xO,zsd hb];exact ih (k+1) x hd' hxl
theorem zEc {ways:List zB} (hw:WW ways):zli ways=some (decide (ofW ways=ways)):=by
 have h:=zAm hw ways 0 [] rfl (by simp);have h':zhr ways [] 0=_:=h;unfold zli;rw [h',sb];by_cases hc:zky [] ways=true
 ·rw [xu hc];simp only;rw [xU (zxD.1 hc)]
 ·rw [xt hc];simp only;rw [ya (fun e=>hc (zxD.2 e))]
theorem zCI {σ ρ:Type} {kb:σ->zB->Option (σ⊕ρ)} {v:List zB} (hv:v.length<=1152921504606846976):∀(l:List zB) (i:Nat) (s:σ) (o:σ⊕ρ),v.drop i=l->go12 kb l s=some o->
  zaX (rnd kb) v (i:Int) (.inl s)=some (match o with| .inl s'=> .inl (.inl s')| .inr r=> .inr (.inr r)):=by
 intro l
 induction l with
 | nil=>
  intro i s o hd h;cases h;have:=zcH hd;refine zfC ?_;unfold zaa;rw [uz]
 | cons x l ih=>
  intro i s o hd h;obtain ⟨hk,hx,hd'⟩:=zbZ hd;rw [go12] at h;cases hb:kb s x with
  | none=>rw [hb] at h;cases h
  | some q=>
   rw [hb] at h;cases q with
   | inl s'=>
    refine (ziY (v2':=((i+1:Nat):Int)) (sg2':= .inl s') ?_).trans (ih (i+1) s' o hd' h);unfold zaa;rw [uy,zH rfl hk,sb,hx,zIW hb,sb,itF (c:= !true) rfl,uA];push_cast;rfl
   | inr r=>
    cases h;refine zfC ?_;unfold zaa;rw [uy,zH rfl hk,sb,hx,zIX hb,sb,itT (c:= !false) rfl]
theorem zJQ {σ ρ:Type} {kb:σ->zB->Option (σ⊕ρ)} {v:List zB} (hv:v.length<=1152921504606846976) {s:σ} {o:σ⊕ρ} (h:go12 kb v s=some o):zaV v (rnd kb) (.inl s)=some o:=by
 have h1:=zCI hv v 0 s o rfl h;have h2:zaX (rnd kb) v 0 (.inl s)=_:=h1;unfold zaV;rw [h2,sb];cases o<;>rfl
theorem zxz:∀(l acc:List zB),acc.length+l.length<=5864062014634->go12 (fun s x=>zJ s x) l acc=some (.inl (acc++l))
 | [],acc,_=>by simp [go12]
 | x::l,acc,h=>by
  simp only [yj] at h;have hb:zJ acc x=some (.inl (acc++[x])):=by
   unfold zJ;rw [zfm (by simp;omega),sb]
  rw [go12,hb];simp only;rw [zxz l (acc++[x]) (by simp;omega),qE];rfl
theorem zCA {l:List zB} (hw:WW l):zK l=some (znm l):=by
 have hl:=hw.1;unfold zK zay zak zaW zzt;rw [zJQ (by omega) (zxz l [] (by simpa using hl)),sb];simp only [xW];rw [sb,sb,xu ⟨by omega,xE.2 fun x hx=>by have:=hw.2 x hx;simp;omega⟩,sb]
def sumW (l:List zB):Nat:=(l.map List.length).sum
theorem zys (x:zB) (l:List zB):sumW (x::l)=x.length+sumW l:=by unfold sumW;simp
theorem zEH {a b:List zB} (h:a.Perm b):sumW a=sumW b:=(h.map List.length).sum_nat
theorem zDS {t:zsB} {A:List zB} {P:List (zB×Int)} (h:zuo t A P) {way:zB} (hl:way.length<=1152921504606846976):zgC t way=some (hasB A way):=by
 have key:∀(d k:Nat) (i:Int),k+d=way.length->(way.take k,i)∈P->∃q,zfe t way i k=some q/\(match q with| .inl _=>false| .inr b=>b)=hasB A way:=by
  intro d
  induction d with
  | zero=>
   intro k i hk hp;refine ⟨.inl (),zhQ ?_,?_⟩
   ·unfold zaU;rw [uz]
   ·rw [yR (by omega)] at hp;rw [zGQ h hp]
  | succ d ih=>
   intro k i hk hp;have hlt:k<way.length:=by omega
   have hq:way.take k++[way[k]]=way.take (k+1):=(yv hlt).symm;have hpre:way.take k++[way[k]]<+:way:=by rw [hq];exact uk _ _
   by_cases hA:way.take k++[way[k]]∈A
   ·have hg:=h.1.leaf _ hp way[k] hA;simp only at hg;refine ⟨.inr true,zhQ ?_,(zEL hpre (fun e=>absurd (List.append_eq_nil_iff.1 e).2 (by simp)) hA).symm⟩;unfold zaU;rw [uy,zH rfl hlt,sb,hg,itF (by rfl),itT (by rfl)]
   ·by_cases hP:∃j,(way.take k++[way[k]],j)∈P
    ·obtain ⟨j,hj⟩:=hP;have hg:=h.1.node _ hp way[k] _ hj rfl;have hid:=h.1.ids _ hj;simp only at hg hid;have hb:zaU t way i k=some (.inl (j,((k+1:Nat):Int))):=by
      unfold zaU;rw [uy,zH rfl hlt,sb,hg,itF (by rfl),itF (by simp<;>omega),uA];push_cast;rfl
     rw [zpd hb];exact ih (k+1) j (by omega) (by rw [<-hq];exact hj)
    ·have hno:∀q∈P,q.1≠way.take k++[way[k]]:=fun q hq e=>hP ⟨q.2,by rw [<-e];exact hq⟩
     have hg:=h.1.none _ hp way[k] hA hno;simp only at hg;refine ⟨.inr false,zhQ ?_,(zEM h hp hpre hA hno).symm⟩;unfold zaU;rw [uy,zH rfl hlt,sb,hg,itT (by rfl)]
 obtain ⟨q,h1,h2⟩:=key way.length 0 0 (by omega) (by rw [yB];exact h.1.root);have h1':zfe t way 0 0=some q:=h1;unfold zgC;rw [h1',sb,<-h2];cases q<;>rfl
theorem zIv {t:zsB} {A:List zB} {P:List (zB×Int)} (h:zuo t A P) {way:zB} (hn:way≠[]) (hf:∀a∈A,¬way<+:a) (hb:∀a∈A,¬a<+:way) (hl:t.length+way.length<=4611686018427387904):
  ∃t' P',zkb t way=some t'/\zuo t' (A++[way]) P'/\t'.length<=t.length+way.length:=by
 have key:∀(d k:Nat) (t1:zsB) (P1:List (zB×Int)) (i f f2:Int),k+d=way.length->Trie t1 A P1->(way.take k,i)∈P1->t1.length<=t.length+k->
   (∀r∈P1,r.1=[]\/(∃a∈A,r.1<+:a/\r.1≠a)\/r.1<+:way)->(k=0\/∃(p:zB) (j n:Int),(p,j)∈P1/\p++[n]=way.take k/\f=j/\f2=n)->
   ∃t2 P2 p j n i2,zgB way t1 i k f f2=some (t2,j,n)/\Trie t2 A P2/\(p,j)∈P2/\p++[n]=way/\(way,i2)∈P2/\t2.length<=t.length+way.length/\∀r∈P2,r.1=[]\/(∃a∈A,r.1<+:a/\r.1≠a)\/r.1<+:way:=by
  intro d
  induction d with
  | zero=>
   intro k t1 P1 i f f2 hk ht hp hlen hx hlast;obtain rfl:k=way.length:=by omega
   rw [yW] at hp hlast;rcases hlast with h0| ⟨p,j,n,h1,h2,rfl,rfl⟩
   ·exact absurd (yq h0) hn
   ·refine ⟨t1,P1,p,f,f2,i,zrC ?_,ht,h1,h2,hp,hlen,hx⟩;unfold zcb;rw [itF (by simp)]
  | succ d ih=>
   intro k t1 P1 i f f2 hk ht hp hlen hx hlast;have hlt:k<way.length:=by omega
   have hq:way.take k++[way[k]]=way.take (k+1):=(yv hlt).symm;have hpre:way.take k++[way[k]]<+:way:=by rw [hq];exact uk _ _
   have hA:way.take k++[way[k]]∉A:=fun ha=>hb _ ha hpre
   by_cases hP:∃j,(way.take k++[way[k]],j)∈P1
   ·obtain ⟨j,hj⟩:=hP;have hg:=ht.node _ hp way[k] _ hj rfl;simp only at hg;have hbd:zcb way t1 i k f f2=some (.inl (t1,j,((k+1:Nat):Int),i,way[k])):=by
     unfold zcb;rw [uy,zH rfl hlt,sb,hg,itF (by rfl),uA];push_cast;rfl
    rw [zlC hbd];exact ih (k+1) t1 P1 j i way[k] (by omega) ht (by rw [<-hq];exact hj) (by omega) hx (.inr ⟨way.take k,i,way[k],hp,hq,rfl,rfl⟩)
   ·have hno:∀q∈P1,q.1≠way.take k++[way[k]]:=fun q hq' e=>hP ⟨q.2,by rw [<-e];exact hq'⟩
    have hg:=ht.none _ hp way[k] hA hno;simp only at hg;have hw1:IntKind.i64.wrap ((t1.length:Int)+1)=((t1.length+1:Nat):Int):=by rw [uA];push_cast;rfl
    have hbd:zcb way t1 i k f f2=some (.inl (mput t1 ⟨i,way[k]⟩ ((t1.length+1:Nat):Int),((t1.length+1:Nat):Int),((k+1:Nat):Int),i,way[k])):=by
     unfold zcb;rw [uy,zH rfl hlt,sb,hg,itT (by rfl),hw1,zeG,xu rfl,uA];push_cast;rfl
    rw [zlC hbd];refine ih (k+1) _ _ _ i way[k] (by omega) (zGR ht hp hA hno) (xY _ (by rw [<-hq];exact xw)) (by rw [zAG hg];omega) (fun r hr=>?_) (.inr ⟨way.take k,i,way[k],xX _ hp,hq,rfl,rfl⟩);rcases xC.1 hr with hr| hr
    ·exact hx r hr
    ·simp only [yc] at hr;rw [hr];exact .inr (.inr hpre)
 obtain ⟨t2,P2,p,j,n,i2,h1,h2,h3,h4,h5,h6,h7⟩:=key way.length 0 t P 0 0 0 (by omega) h.1 (by rw [yB];exact h.1.root) (by omega)
  (fun r hr=>by rcases h.2 r hr with h0| h0;exact .inl h0;exact .inr (.inl h0)) (.inl rfl)
 have h1':zgB way t 0 0 0 0=some (t2,j,n):=h1;subst h4;obtain ⟨e,ht⟩:=zEK h2 h3 h5 hf hb h7;refine ⟨mput t2 ⟨j,n⟩ (-1),_,?_,ht,by rw [e];exact h6⟩;unfold zkb;rw [h1',sb]
theorem zEs {l:List zB} (hl:l.length<=5864062014634) (hx:∀w∈l,w.length<=17592186043904) (hs:l.Pairwise fun a b=>lexI a b<=0):∀(r:List zB) (k:Nat) (acc:List zB) (t:zsB) (P:List (zB×Int)),l.drop k=r->k<=l.length->Fo (l.take k) acc->acc.length<=k->zuo t acc P->
  t.length+sumW r<=4611686018427387904->zkD l acc t k=some (ofW l):=by
 intro r
 induction r with
 | nil=>
  intro k acc t P hd hk hfo hal ht hsum;have:=zcH hd;obtain rfl:k=l.length:=by omega
  rw [yW] at hfo;refine zwh ?_;unfold zgn;rw [itF (by simp),zIC hfo]
 | cons x r ih=>
  intro k acc t P hd hk hfo hal ht hsum;obtain ⟨hlt,hxk,hd'⟩:=zbZ hd;have hxm:x∈l:=hxk▸xB hlt;have hxl:=hx x hxm;rw [zys] at hsum;have hbe:∀a∈l.take k,lexI a x<=0:=fun a ha=>by
   obtain ⟨i,hi,rfl⟩:=yX ha;rw [pB,<-hxk];rw [yb] at hi;exact ul.1 hs i k (by omega) hlt (by omega)
  have htk:l.take (k+1)=l.take k++[x]:=by rw [yv hlt,hxk]
  have hstep:=zHs hfo hbe;rw [<-htk] at hstep;have hg:(if (decide ((x.length:Int)>0))=true then (zgC t x>>=fun rv5=>some (!rv5)) else some false)=some (!x.isEmpty&& !hasB acc x):=by
   cases x with
   | nil=>rfl
   | cons y x'=>rw [itT (by simp<;>omega),zDS ht (by omega),sb];rfl
  unfold addL at hstep;cases hc:(!x.isEmpty&& !hasB acc x) with
  | true=>
   rw [hc,xu rfl] at hstep;have hc':=hc;simp only [xy,yh,qw] at hc';have hb:∀a∈acc,¬a<+:x:=fun a ha hp=>by
    have:=zfO.2 ⟨a,ha,hfo.mask.full a ha,hp⟩;rw [hc'.2] at this;cases this
   obtain ⟨t',P',h1,h2,h3⟩:=zIv ht hc'.1 (zDb hfo hbe hc'.2) hb (by omega);refine (zqw (l':=acc++[x]) (t':=t') (v':=((k+1:Nat):Int)) ?_).trans (ih (k+1) _ t' P' hd' (by omega) hstep (by simp;omega) h2 (by omega));unfold zgn;rw [uy,zH rfl hlt,sb,hxk,hg,sb,hc,itT rfl,h1,sb,zfm (by simp;omega),sb,uA];push_cast;rfl
  | false=>
   rw [hc,xt (by simp)] at hstep;refine (zqw (l':=acc) (t':=t) (v':=((k+1:Nat):Int)) ?_).trans (ih (k+1) _ t P hd' (by omega) hstep (by omega) ht (by omega));unfold zgn;rw [uy,zH rfl hlt,sb,hxk,hg,sb,hc,itF rfl,uA];push_cast;rfl
def SW (w:List zB):Prop:=WW w/\sumW w<=4611686018427387904
theorem zGj {w:List zB} (hw:SW w):zrl w=some ⟨ofW w⟩:=by
 obtain ⟨hw,hsum⟩:=hw;unfold zrl;rw [zEc hw,sb];by_cases hm:ofW w=w
 ·rw [xU hm,itT rfl,zxG hw,sb,hm]
 ·have hp:=zst w;have hlen:=hp.length_eq;have hl:=hw.1;have h:=zEs (l:=znm w) (by omega) (fun x hx=>hw.2 x (hp.mem_iff.1 hx)) (zBd w) (znm w) 0 [] [] _ rfl (xH _) zIB (xH _) zGS (by rw [zEH hp];simpa using hsum);have h':zkD (znm w) [] [] 0=_:=h;rw [ya hm,itF rfl];unfold zdJ;rw [sb,zCA hw,sb,h',sb,zGn hp,zxG (zJm hw),sb]
theorem zHW {l:List zB} {a b:Nat} (h:l.length<=a) (k:∀w∈l,w.length<=b):sumW l<=a*b:=by
 have key:∀l:List zB,(∀w∈l,w.length<=b)->sumW l<=l.length*b:=by
  intro l
  induction l with
  | nil=>intro _;simp [sumW]
  | cons x l ih=>
   intro k;have:=ih fun w hw=>k w (xx _ hw)
   have:=k x xw;rw [zys,yj,yL];omega
 exact yg (key l k) (yo _ h)
def UW (w:List zB):Prop:=w.length<=4194304/\∀x∈w,x.length<=4194304
theorem UW.ww {w:List zB} (h:UW w):WW w:=⟨by have:=h.1;omega,fun x hx=>by have:=h.2 x hx;omega⟩
theorem UW.sw {w:List zB} (h:UW w):SW w:=⟨h.ww,yg (zHW h.1 h.2) (by decide)⟩
theorem UW.of {w:List zB} (h:UW w):UW (ofW w):=⟨yg (zzh w) h.1,fun x hx=>h.2 x (zkP.1 hx).1⟩
theorem zqI {n:Int} {w u:zB} (h:zkd n w=some u):u≠[]/\w=n::u:=by
 unfold zkd at h;split at h
 ·split at h
  ·rename_i e;cases h;subst e;exact ⟨by simp,rfl⟩
  ·cases h
 ·cases h
theorem zAE {m:List zB} (h:zlZ m) (n:Int):zlZ (zem m n):=by
 have mem:∀u,u∈zem m n->u≠[]/\n::u∈m:=fun u hu=>by
  obtain ⟨w,hw,hr⟩:=qy.1 hu;obtain ⟨h1,rfl⟩:=zqI hr;exact ⟨h1,hw⟩
 refine ⟨?_,fun u hu=>(mem u hu).1,fun u hu v hv hp=>?_⟩
 ·unfold zem;refine uw (zkd n) (fun a b hab u hu v hv=>?_) h.sorted;obtain ⟨_,rfl⟩:=zqI hu;obtain ⟨_,rfl⟩:=zqI hv;rw [zbK,xu rfl] at hab;exact hab
 ·have:=h.anti _ (mem u hu).2 _ (mem v hv).2 (List.cons_prefix_cons.2 ⟨rfl,hp⟩);injection this
theorem UW.filter {w:List zB} (h:UW w) (p:zB->Bool):UW (w.filter p):=⟨yg (List.length_filter_le _ _) h.1,fun x hx=>h.2 x (yx.1 hx).1⟩
def zmr (l:List Vlu):List (Int×Vlu):=l.map fun v=>(v.Number,v)
theorem zwl:∀(l:List Vlu) (n:Int),mget (zmr l) n=look l n
 | [],n=>rfl
 | v::l,n=>by
  show mget ((v.Number,v)::zmr l) n=_;rw [mget,zcX,zwl l n];by_cases h:n=v.Number
  ·rw [xu h,xu h.symm]
  ·rw [xt h,xt (fun e=>h e.symm)]
theorem zCn {m:List (Int×Vlu)} {n:Int} (h:mget m n=none) (v:Vlu):mput m n v=m++[(n,v)]:=by
 induction m with
 | nil=>rfl
 | cons p m ih=>
  rw [mget] at h;split at h
  ·cases h
  ·rename_i hn;rw [mput,xt hn,ih h];rfl
theorem zux {l:List Vlu} (hr:zff l) {k:Nat} (hk:k<l.length):look (l.take k) (l[k]).Number=none:=by
 cases h:look (l.take k) (l[k]).Number with
 | none=>rfl
 | some u=>
  obtain ⟨h1,h2⟩:=zfX h;obtain ⟨i,hi,e⟩:=yX h2;rw [yb] at hi;rw [pB] at e;have:=(ul.1 hr) i k (by omega) hk (by omega);rw [e] at this;omega
theorem zDN {x:Msg} (hr:zff x.Values) (hl:x.Values.length<=1048576):∀(t:List Vlu) (k:Nat),x.Values.drop k=t->k<=x.Values.length->zez x (zmr (x.Values.take k)) k=some (zmr x.Values):=by
 intro t
 induction t with
 | nil=>
  intro k hd hk;have:=zcH hd;obtain rfl:k=x.Values.length:=by omega
  rw [yW];refine zoa ?_;unfold zbQ;rw [itF (by simp)]
 | cons v t ih=>
  intro k hd hk;obtain ⟨hlt,hx,hd'⟩:=zbZ hd;refine (znZ (values':=zmr (x.Values.take (k+1))) (v':=((k+1:Nat):Int)) ?_).trans (ih (k+1) hd' (by omega));unfold zbQ;rw [uy,zH rfl hlt,sb,uA,zCn (by rw [zwl];exact zux hr hlt),yv hlt];unfold zmr;rw [pf];push_cast;rfl
theorem zHg {x:Msg} (hr:zff x.Values) (hl:x.Values.length<=1048576):zhh x=some (zmr x.Values):=by
 unfold zhh;have h:=zDN hr hl x.Values 0 rfl (xH _);have h':zez x [] 0=_:=h;rw [h',sb]
theorem zGq {m:List (Int×Vlu)} {ks:List Int} (hl:ks.length<=4194304):∀(t:List Int) (k:Nat),ks.drop k=t->k<=ks.length->zeW ks m ((ks.take k).map fun n=>(mget m n).getD zvlu) k=some (ks.map fun n=>(mget m n).getD zvlu):=by
 intro t
 induction t with
 | nil=>
  intro k hd hk;have:=zcH hd;obtain rfl:k=ks.length:=by omega
  rw [yW];refine zoJ ?_;unfold zcj;rw [itF (by simp)]
 | cons v t ih=>
  intro k hd hk;obtain ⟨hlt,hx,hd'⟩:=zbZ hd;refine (zoI (l':=(ks.take (k+1)).map fun n=>(mget m n).getD zvlu) (v3':=((k+1:Nat):Int)) ?_).trans (ih (k+1) hd' (by omega));unfold zcj;rw [uy,zH rfl hlt,sb,zfm (by simp;omega),sb,uA,yv hlt,pf];push_cast;rfl
theorem zIT {m:List (Int×Vlu)} (hn:(m.map Prod.fst).Nodup) (hv:∀n v,mget m n=some v->v.Number=n) (hw:∀n∈m.map Prod.fst,(Lit.int .i64 n).wf=true) (hl:m.length<=4194304):
  ∃l,zhU m=some l/\zff l/\∀n,look l n=mget m n:=by
 have hall:(m.all fun p=>(Lit.int .i64 p.1).wf)=true:=by
  rw [xE];exact fun p hp=>hw p.1 (qd hp)
 obtain ⟨ks,hks⟩:∃ks,ks=(m.map Prod.fst).mergeSort fun x y=>decide (x<=y):=⟨_,rfl⟩
 have hp:=List.mergeSort_perm (m.map Prod.fst) fun x y=>decide (x<=y)
 have hs:=ut (le:=fun x y:Int=>decide (x<=y)) (fun a b c h k=>by simp at*;omega) (fun a b=>by simp;omega) (m.map Prod.fst);rw [<-hks] at hp hs;have hnd:=hp.nodup_iff.2 hn;have hlt:ks.Pairwise (·<·):=(List.Pairwise.and hs hnd).imp fun {a b} h=>by
  have h1:a<=b:=by simpa using h.1
  have h2:a≠b:=h.2;omega
 have hkl:ks.length=m.length:=by rw [hp.length_eq,py]
 have hsome:∀n∈ks,∃v,mget m n=some v:=fun n h=>by
  cases hg:mget m n with
  | some v=>exact ⟨v,rfl⟩
  | none=>exact absurd (hp.mem_iff.1 h) (ztU hg)
 refine ⟨ks.map fun n=>(mget m n).getD zvlu,?_,?_,fun n=>?_⟩
 ·unfold zhU;rw [zHJ (by omega) (by omega),sb];unfold zvY;rw [xu ⟨hall,by omega⟩,<-hks,sb];have h:=zGq (m:=m) (ks:=ks) (by omega) ks 0 rfl (xH _);have h':zeW ks m [] 0=_:=h;rw [h',sb]
 ·unfold zff;rw [pw];refine hlt.imp_of_mem fun {a b} ha hb h=>?_
  obtain ⟨v,e1⟩:=hsome a ha;obtain ⟨u,e2⟩:=hsome b hb;rw [e1,e2];show v.Number<u.Number;rw [hv a v e1,hv b u e2];exact h
 ·have key:∀l:List Int,(∀n∈l,∃v,mget m n=some v)->look (l.map fun n=>(mget m n).getD zvlu) n=if n∈l then mget m n else none:=by
   intro l
   induction l with
   | nil=>intro _;rfl
   | cons a l ih=>
    intro ha;obtain ⟨v,e1⟩:=ha a xw;rw [xZ,zcX,ih fun n h=>ha n (xx _ h),e1];show (if v.Number=n then some v else _)=_;rw [hv a v e1];by_cases h:a=n
    ·subst h;rw [xu rfl,xu xw,e1]
    ·rw [xt h];by_cases h2:n∈l
     ·rw [xu h2,xu (xx _ h2)]
     ·rw [xt h2,xt (fun hc=>(xz.1 hc).elim (fun e=>h e.symm) h2)]
  rw [key ks hsome];by_cases h:n∈ks
  ·rw [xu h]
  ·rw [xt h];cases hg:mget m n with
   | none=>rfl
   | some v=>exact absurd (hp.mem_iff.2 (zGh hg)) h
theorem ztD (v:Vlu):zgZ v=some (v.Subs.headD zqY):=by
 unfold zgZ;cases h:v.Subs with
 | nil=>rfl
 | cons y l=>
  rw [uz];rfl
theorem zxy (n:Int) (x:Msg):zjm n x=some ⟨n,[],[],[x]⟩:=rfl
theorem zxL {m:Mes} {n:Int} (h:0<=fldI m n):fldI m n<m.Fields.length/\(zaI m (fldI m n)).Number=n:=by
 rcases zoX m n with ⟨e,_⟩| ⟨i,hi,e,hn,_⟩
 ·omega
 ·rw [e];refine ⟨by omega,?_⟩;unfold zaI;rw [ym,qL,xF hi];exact hn
theorem zxw {m:Mes} {n:Int} (hl:m.Fields.length<=140737488351232) (h:0<=fldI m n):zie m n=some (zaI m (fldI m n)):=by
 unfold zie;rw [zqa hl,sb];have h0:=h;unfold fldI zkA at h0;cases hf:m.Fields.findIdx? (fun f:Fld=>f.Number==n) with
 | none=>rw [hf] at h0;simp at h0
 | some i=>
  have e:fldI m n=i:=by unfold fldI zkA;rw [hf]
  have hi:i<m.Fields.length:=by have:=(zxL h).1;omega
  rw [e,zH rfl hi,sb];unfold zaI;rw [ym,qL,xF hi];rfl
structure Ok15 (fuel:Nat) (x:Msg):Prop where
 b:bdM x
 s:smM x
 z:2*szM x<fuel
 d:szM x<=131072
theorem Ok15.dm {fuel:Nat} {x:Msg} (h:Ok15 fuel x):dM x<=131072:=by have:=zFm x;have:=h.d;omega
theorem Ok15.right {fuel:Nat} {x:Msg} (h:Ok15 fuel x) {s:List Mes} (hw:WS s) (root:Int):zkM fuel s root x=some (zgo s&&zat s x root):=zCG root h.z hw h.b h.s h.dm
theorem zzI {fuel:Nat} {s:List Mes} (root:Int) {l:List Msg} (hw:WS s) (hne:l≠[]) (hl:l.length<=1048576) (hx:∀x∈l,Ok15 fuel x):ziN fuel s root l=some (zfP s root l):=by
 have hloop:∀(t:List Msg) (k:Nat),l.drop k=t->k<=l.length->(∃j:Nat,zG fuel l s root k=some (.inr j)/\t.all (fun x=>zgo s&&zat s x root)=false)\/
   zG fuel l s root k=some (.inl ())/\t.all (fun x=>zgo s&&zat s x root)=true:=by
  intro t
  induction t with
  | nil=>
   intro k hd hk;have:=zcH hd;refine .inr ⟨zcn ?_,rfl⟩;unfold zC;rw [uz]
  | cons v t ih=>
   intro k hd hk;obtain ⟨hlt,hv,hd'⟩:=zbZ hd;have h1:ziw fuel v s root=some (!(zgo s&&zat s v root)):=by
    unfold ziw;rw [(hx v (hv▸xB hlt)).right hw,sb]
   cases hb:zgo s&&zat s v root with
   | false=>
    refine .inl ⟨k,zcn ?_,by rw [yp,hb];rfl⟩;unfold zC;rw [uy,zH rfl hlt,sb,hv,h1,sb,itT (by rw [hb];rfl)]
   | true=>
    have hs:zG fuel l s root k=zG fuel l s root ((k+1:Nat):Int):=by
     refine zeP ?_;unfold zC;rw [uy,zH rfl hlt,sb,hv,h1,sb,itF (by rw [hb];rfl),uA];push_cast;rfl
    rw [hs];rcases ih (k+1) hd' (by omega) with ⟨j,g1,g2⟩| ⟨g1,g2⟩
    ·exact .inl ⟨j,g1,by rw [yp,hb,g2];rfl⟩
    ·exact .inr ⟨g1,by rw [yp,hb,g2];rfl⟩
 have hc:zag fuel l s root=some (!l.all (fun x=>zgo s&&zat s x root)):=by
  unfold zag zaz;rcases hloop l 0 rfl (xH _) with ⟨j,g1,g2⟩| ⟨g1,g2⟩
  ·have g1':zG fuel l s root 0=_:=g1;rw [g1',sb,g2];simp only;rw [sb,xU (by omega)];rfl
  ·have g1':zG fuel l s root 0=_:=g1;rw [g1',sb,g2];simp only;rw [sb];rfl
 unfold ziN;rw [hc,sb];cases hr:zgo s with
 | false=>
  obtain ⟨x,l',rfl⟩:=pM hne;have hm:zfP s root (x::l')=9:=by unfold zfP zhj;rw [hr];rfl
  rw [hm,itF (by simp),zti hw,sb,hr,itT (by rfl)]
 | true=>
  by_cases hroot:root<0\/root>=s.length
  ·obtain ⟨x,l',rfl⟩:=pM hne;have hx0:zat s x root=false:=by
    cases h:zat s x root with
    | false=>rfl
    | true=>obtain ⟨a,b,_⟩:=zco h;omega
   have ha:zhj s root=2:=by unfold zhj;rw [hr,xt (show ¬true=false by simp),xu hroot]
   have hm:zfP s root (x::l')=2:=by unfold zfP;rw [ha];rfl
   rw [hm,itF (by simp [hx0]),zti hw,sb,hr,itF (by rfl),itT (by simpa using hroot)]
  ·have ha:zhj s root=0:=by unfold zhj;rw [hr,xt (show ¬true=false by simp),xt hroot]
   have hm:zfP s root l=if l.all (fun x=>zat s x root)=true then 0 else 12:=by unfold zfP;rw [ha];rfl
   rw [hm];simp only [xO,Bool.not_not];cases hall:l.all (fun x=>zat s x root) with
   | true=>rw [itT (by rfl),xu rfl]
   | false=>
    rw [itF (by rfl),zti hw,sb,hr,itF (by rfl),uz];rfl
def zpk (n:Int):zB->Option zB
 | []=>none
 | x::l=>if x=n then some l else none
def zhR (w:List zB) (n:Int):List zB:=w.filterMap (zpk n)
theorem zni {n:Int} {w u:zB} (h:zpk n w=some u):w=n::u:=by
 cases w with
 | nil=>cases h
 | cons x l=>
  rw [zpk] at h;split at h
  ·rename_i e;cases h;rw [e]
  ·cases h
theorem zyL {ways:List zB} (hw:WW ways) (hne:∀w∈ways,w≠[]):∀(t:List zB) (i:Nat) (q:List (Int×List zB)),ways.drop i=t->i<=ways.length->(∀n,(mget q n).getD []=zhR (ways.take i) n)->
  ∃q',zeV ways q i=some q'/\∀n,(mget q' n).getD []=zhR ways n:=by
 have hl:=hw.1;intro t
 induction t with
 | nil=>
  intro i q hd hi hq;have:=zcH hd;obtain rfl:i=ways.length:=by omega
  rw [yW] at hq;refine ⟨q,zoH ?_,hq⟩;unfold zci;rw [itF (by simp)]
 | cons w t ih=>
  intro i q hd hi hq;obtain ⟨hlt,hv,hd'⟩:=zbZ hd;have hwm:w∈ways:=hv▸xB hlt;obtain ⟨x,l,rfl⟩:=pM (hne w hwm);have hlen:((mget q x).getD []).length<=i:=by
   rw [hq];exact yg (uv _ _) (by rw [yb];omega)
  obtain ⟨q',g1,g2⟩:=ih (i+1) (mput q x ((mget q x).getD []++[l])) hd' (by omega) fun n=>by
   rw [zeG,yv hlt,hv];unfold zhR;rw [List.filterMap_append];by_cases e:n=x
   ·subst e;rw [xu rfl,yA,hq];simp [zhR,zpk]
   ·rw [xt e,hq];have:zpk n (x::l)=none:=by rw [zpk,xt (fun e'=>e e'.symm)]
    simp [zhR,this]
  refine ⟨q',(zoG (rests':=mput q x ((mget q x).getD []++[l])) (v':=((i+1:Nat):Int)) ?_).trans g1,g2⟩;unfold zci;rw [uy,zH rfl hlt,sb,hv,show idx (x::l) 0=some x from rfl,sb,zFk,sb,zfm (by simp;omega),sb,uA];push_cast;rfl
theorem zBV {ways:List zB} (hw:WW ways) (hne:∀w∈ways,w≠[]):∃q,zhT ways=some q/\∀n,(mget q n).getD []=zhR ways n:=by
 obtain ⟨q,g1,g2⟩:=zyL hw hne ways 0 [] rfl (xH _) (fun n=>rfl);refine ⟨q,?_,g2⟩;unfold zhT;have g1':zeV ways [] 0=_:=g1;rw [g1',sb]
theorem zAY {w:List zB} (hm:zlZ w) {n:Int} (h:zey w n=true):zhR w n=[[]]:=by
 have hin:[n]∈w:=by
  unfold zey at h;rw [pt] at h;obtain ⟨v,hv,e⟩:=h;rw [pJ] at e;exact e▸hv
 have hall:∀u∈zhR w n,u=[]:=fun u hu=>by
  obtain ⟨v,hv,e⟩:=qy.1 hu;have e2:=zni e;subst e2;have:=hm.anti [n] hin _ hv ⟨u,rfl⟩;simpa using this.symm
 have hnd:(zhR w n).Nodup:=by
  unfold zhR;refine uw (zpk n) (fun a b hab u hu v hv e=>?_) hm.sorted;rw [zni hu,zni hv,e,ziP] at hab;cases hab
 have hmem:[]∈zhR w n:=qy.2 ⟨[n],hin,by rw [zpk,xu rfl]⟩;cases hr:zhR w n with
 | nil=>rw [hr] at hmem;cases hmem
 | cons a l=>
  rw [hr] at hall hnd;have ha:=hall a xw;cases l with
  | nil=>rw [ha]
  | cons b l=>
   have hb:=hall b (by simp);rw [ha,hb] at hnd;simp at hnd
theorem zvO {α β:Type} {f g:α->Option β}:∀{l:List α},(∀x∈l,f x=g x)->l.filterMap f=l.filterMap g
 | [],_=>rfl
 | x::l,h=>by
  rw [ug,ug,h x xw,zvO fun y hy=>h y (xx _ hy)]
theorem zqJ {w:List zB} {n:Int} (h:zey w n=false):zhR w n=zem w n/\∀u∈zhR w n,u≠[]:=by
 have hno:∀v∈w,v≠[n]:=fun v hv e=>by
  unfold zey at h;rw [ud] at h;exact h v hv (by rw [e];simp)
 refine ⟨?_,fun u hu e=>?_⟩
 ·unfold zhR zem;refine zvO fun v hv=>?_
  cases v with
  | nil=>rfl
  | cons x l=>
   cases l with
   | nil=>
    show (if x=n then some [] else none)=none;by_cases e:x=n
    ·exact absurd (by rw [e]) (hno _ hv)
    ·rw [xt e]
   | cons y l=>rw [zpk,zkd]
 ·obtain ⟨v,hv,e2⟩:=qy.1 hu;have:=zni e2;rw [e] at this;exact hno v hv this
theorem zww (s:List Mes) (m:Mes) (w:List zB) (keep:Bool):∀(l k:List Vlu),zdg s (l++k) m w keep=zdg s l m w keep++zdg s k m w keep
 | [],k=>rfl
 | v::l,k=>by rw [yr,zdg,zdg,zww s m w keep l k,qE]
theorem zwx (s:List Mes) (m:Mes) (w:List zB) (keep:Bool):∀(l:List Vlu),(zdg s l m w keep).length<=l.length
 | []=>by rw [zdg];exact xA _
 | v::l=>by
  have h1:=ztZ s v (zaI m (fldI m v.Number)) w keep;have h2:=zwx s m w keep l;rw [zdg,ye,yj];omega
theorem zCN {s:List Mes} (hs:zls s):∀(fuel:Nat) (x:Msg) (k:Nat) (w:List zB) (keep:Bool),szM x<fuel->k<s.length->zat s x k=true->bdM x->smM x->zlZ w->WW w->zix fuel s k x w keep=some (zlD s x k w keep)
 | 0,x,k,w,keep,h,_,_,_,_,_,_=>by omega
 | fuel+1,x,k,w,keep,hz,hk,hx,hb,hsm,hM,hW=>by
  obtain ⟨_,_,r3,r4,_⟩:=zco hx;have sx:=(zmD x).1 hsm;have bx:=(zhK x).1 hb;have hm:zaC s (k:Int)=s[k]:=zjs hk;have hfew:=hs.few s[k] (xB hk);rw [zdd] at hz;obtain ⟨q,q1,q2⟩:=zBV hW hM.full;have key:∀(t:List Vlu) (i:Nat),x.Values.drop i=t->i<=x.Values.length->zhi keep k (zix fuel) q s x i (zdg s (x.Values.take i) (zaC s k) w keep)=some (zdg s x.Values (zaC s k) w keep):=by
   intro t
   induction t with
   | nil=>
    intro i hd hi;have:=zcH hd;obtain rfl:i=x.Values.length:=by omega
    rw [yW];refine zrQ ?_;unfold zdC;rw [itF (by simp)]
   | cons v t ih=>
    intro i hd hi;obtain ⟨hlt,hv,hd'⟩:=zbZ hd;have hvm:v∈x.Values:=hv▸xB hlt;have hf:=(r4 v hvm).1;have hpl:=zwx s (zaC s k) w keep (x.Values.take i);rw [yb] at hpl;have hstep:zdg s (x.Values.take (i+1)) (zaC s k) w keep=zdg s (x.Values.take i) (zaC s k) w keep++ztc s v (zaI (zaC s k) (fldI (zaC s k) v.Number)) w keep:=by
     rw [yv hlt,hv,zww,zdg,zdg,yQ]
    refine (zrP (v':=((i+1:Nat):Int)) (f2':=zdg s (x.Values.take (i+1)) (zaC s k) w keep) ?_).trans (ih (i+1) hd' (by omega));rw [hstep,zmt];unfold zdC;rw [uy,zH rfl hlt,sb,hv,zH rfl hk,sb,<-hm,zxw (by rw [hm];omega) hf,sb,q2,uA];have hg:(if ((((zhR w v.Number).length:Nat):Int)==1)=true then idx (zhR w v.Number) 0>>=fun x4=>some ((x4.length:Int)==0) else some false)=some (zey w v.Number):=by
     cases hwb:zey w v.Number with
     | true=>rw [zAY hM hwb];rfl
     | false=>
      obtain ⟨_,h2⟩:=zqJ hwb;by_cases h1:(zhR w v.Number).length=1
      ·obtain ⟨u,hu⟩:∃u,zhR w v.Number=[u]:=List.length_eq_one_iff.1 h1;have hu':=h2 u (by rw [hu];exact xw);have hl:u.length≠0:=fun e=>hu' (yq e)
       rw [hu,itT (by rfl),show idx [u] 0=some u from rfl,sb];congr 1;simpa using hl
      ·rw [uz]
    rw [hg,sb];by_cases hc:zey w v.Number=false/\zem w v.Number≠[]/\(zaI (zaC s k) (fldI (zaC s k) v.Number)).Kind=17/\(zaI (zaC s k) (fldI (zaC s k) v.Number)).Repeated=false
    ·obtain ⟨c1,c2,c3,c4⟩:=id hc;have hu:=(zqJ c1).1
     have hul:0<(zem w v.Number).length:=by cases h:zem w v.Number with
      | nil=>exact absurd h c2
      | cons=>simp
     obtain ⟨y,ey,ry⟩:=(zfW (r4 v hvm).2).msg c3 c4;have ysub:v.Subs=[y]:=by rw [ey]
     obtain ⟨k0,k1,_⟩:=zco ry;obtain ⟨j,hj⟩:∃j:Nat,(zaI (zaC s k) (fldI (zaC s k) v.Number)).Of=j:=⟨(zaI (zaC s k) (fldI (zaC s k) v.Number)).Of.toNat,by omega⟩;have hsz:=zei hvm;rw [zfI,ysub] at hsz;simp only [szMs] at hsz;have by':bdM y:=zep.1 ((zhk v).1 (zdO.1 bx.2.2 v hvm)).2.2.2.2 y (by rw [ysub];exact xw)
     have sy:smM y:=ziF.1 ((zpm v).1 (ziG.1 sx.2.2 v hvm)).2.2.2 y (by rw [ysub];exact xw);rw [hj] at ry;rw [xu hc,hu,itT (by simp [c1,c3,c4,hul]),ztD,sb,ysub,pc,hj,zCN hs fuel y j _ keep (by omega) (by omega) ry by' sy (zAE hM _) (zyu hW _),sb,zxy,sb];simp only;rw [zfm (by simp;omega),sb,znT];push_cast;rfl
    ·rw [xt hc,itF ?_]
     ·by_cases hwk:zey w v.Number=keep
      ·rw [xu hwk,itT (by simp [hwk]),zfm (by simp;omega),sb];push_cast;rfl
      ·rw [xt hwk,itF (by simpa using hwk),yQ];push_cast;rfl
     ·cases hwb:zey w v.Number with
      | true=>rfl
      | false=>
       rw [(zqJ hwb).1];simp only [pN,xO,Bool.and_eq_false_iff,qt,beq_eq_false_iff_ne,q8,ne_eq];by_cases h1:zem w v.Number=[]
       ·left;rw [h1];simp
       ·by_cases h2:(zaI (zaC s k) (fldI (zaC s k) v.Number)).Kind=17
        ·right;right;by_cases h3:(zaI (zaC s k) (fldI (zaC s k) v.Number)).Repeated=true
         ·exact h3
         ·exact absurd ⟨hwb,h1,h2,by simpa using h3⟩ hc
        ·right;left;exact h2
  show zjl (zix fuel) s k x w keep=_;unfold zjl;have h:=key x.Values 0 rfl (xH _);rw [yB,zdg] at h;have h':zhi keep k (zix fuel) q s x 0 []=_:=h;have hp:(if (!keep)=true then some x.Unknown else some [])=some (if keep=true then [] else x.Unknown):=by cases keep<;>rfl
  rw [hp,sb,q1,sb,h',sb,zoq]
theorem zFy {n:Nat} (h:n<=2097152):zcO (n:Int)=some []:=by
 unfold zcO;have e:IntKind.i64.wrap ((n:Int) - IntKind.i64.wrap (0 - 0))=n:=by rw [zr (x:=0 - 0) (by omega),uA];omega
 rw [itF (by simp),e];by_cases h0:(n:Int)>0
 ·rw [itT (by simpa using h0),zwm (a:=n) rfl (qg _) (by omega),sb];have e0:cut (List.replicate n ([]:Str)) 0 0=some []:=zme (b:=0) rfl (xH _);rw [e0,sb]
 ·rw [itF (by simpa using h0)]
theorem zvF {a b:List Str} (h:a.length+b.length<=2097152):zbG [a,b]=some (a++b):=by
 have b0:∀s:Nat,s+a.length<=2097152->zL [a,b] s 0=some (.inl (((s+a.length:Nat):Int),1)):=fun s hs=>by
  unfold zL;rw [itT (by simp),show idx [a,b] 0=some a from rfl,sb];rw [uA,uz,uA];push_cast;rfl
 have b1:∀s:Nat,s+b.length<=2097152->zL [a,b] s 1=some (.inl (((s+b.length:Nat):Int),2)):=fun s hs=>by
  unfold zL;rw [itT (by simp),show idx [a,b] 1=some b from rfl,sb];rw [uA,uz,uA];push_cast;rfl
 have l1:zbV [a,b] 0 0=some ((a.length+b.length:Nat):Int):=by
  have e0:=b0 0 (by omega);rw [xD] at e0;rw [zfy (show zL [a,b] 0 0=_ from e0),zfy (b1 a.length (by omega))];refine ziT ?_;unfold zL;rw [itF (by rfl)]
 have l2:zbW [a,b] [] 0=some (a++b):=by
  rw [zfz (newslice':=a) (v2':=1) (by
   unfold zY;rw [itT (by simp),show idx [a,b] 0=some a from rfl,sb];rw [zfm (by simp;omega),sb,xW];rfl),zfz (newslice':=a++b) (v2':=2) (by
   unfold zY;rw [itT (by simp),show idx [a,b] 1=some b from rfl,sb];rw [zfm (by omega),sb];rfl)]
  refine ziU ?_;unfold zY;rw [itF (by rfl)]
 unfold zbG;rw [l1,sb,zFy h,sb,l2,sb]
theorem zFz {n:Nat} (h:n<=2097152):zcP (n:Int)=some []:=by
 unfold zcP;have e:IntKind.i64.wrap ((n:Int) - IntKind.i64.wrap (0 - 0))=n:=by rw [zr (x:=0 - 0) (by omega),uA];omega
 rw [itF (by simp),e];by_cases h0:(n:Int)>0
 ·rw [itT (by simpa using h0),zwm (a:=n) rfl (qg _) (by omega),sb];have e0:cut (List.replicate n (0:Int)) 0 0=some []:=zme (b:=0) rfl (xH _);rw [e0,sb]
 ·rw [itF (by simpa using h0)]
theorem zBQ {a b:List Int} (h:a.length+b.length<=2097152):zcu [a,b]=some (a++b):=by
 have b0:∀s:Nat,s+a.length<=2097152->zM [a,b] s 0=some (.inl (((s+a.length:Nat):Int),1)):=fun s hs=>by
  unfold zM;rw [itT (by simp),show idx [a,b] 0=some a from rfl,sb];rw [uA,uz,uA];push_cast;rfl
 have b1:∀s:Nat,s+b.length<=2097152->zM [a,b] s 1=some (.inl (((s+b.length:Nat):Int),2)):=fun s hs=>by
  unfold zM;rw [itT (by simp),show idx [a,b] 1=some b from rfl,sb];rw [uA,uz,uA];push_cast;rfl
 have l1:zbX [a,b] 0 0=some ((a.length+b.length:Nat):Int):=by
  have e0:=b0 0 (by omega);rw [xD] at e0;rw [zfA (show zM [a,b] 0 0=_ from e0),zfA (b1 a.length (by omega))];refine ziW ?_;unfold zM;rw [itF (by rfl)]
 have l2:zbY [a,b] [] 0=some (a++b):=by
  rw [zfB (newslice':=a) (v2':=1) (by
   unfold zZ;rw [itT (by simp),show idx [a,b] 0=some a from rfl,sb];rw [zfm (by simp;omega),sb,xW];rfl),zfB (newslice':=a++b) (v2':=2) (by
   unfold zZ;rw [itT (by simp),show idx [a,b] 1=some b from rfl,sb];rw [zfm (by omega),sb];rfl)]
  refine ziX ?_;unfold zZ;rw [itF (by rfl)]
 unfold zcu;rw [l1,sb,zFz h,sb,l2,sb]
theorem zDY {n:Nat} (h:n<=2097152):zcf (n:Int)=some []:=by
 unfold zcf;have e:IntKind.i64.wrap ((n:Int) - IntKind.i64.wrap (0 - 0))=n:=by rw [zr (x:=0 - 0) (by omega),uA];omega
 rw [itF (by simp),e];by_cases h0:(n:Int)>0
 ·rw [itT (by simpa using h0),zwm (a:=n) rfl (qg _) (by omega),sb];have e0:cut (List.replicate n (⟨[],[]⟩:Msg)) 0 0=some []:=zme (b:=0) rfl (xH _);rw [e0,sb]
 ·rw [itF (by simpa using h0)]
theorem zzY {a b:List Msg} (h:a.length+b.length<=2097152):zbM [a,b]=some (a++b):=by
 have b0:∀s:Nat,s+a.length<=2097152->zI [a,b] s 0=some (.inl (((s+a.length:Nat):Int),1)):=fun s hs=>by
  unfold zI;rw [itT (by simp),show idx [a,b] 0=some a from rfl,sb];rw [uA,uz,uA];push_cast;rfl
 have b1:∀s:Nat,s+b.length<=2097152->zI [a,b] s 1=some (.inl (((s+b.length:Nat):Int),2)):=fun s hs=>by
  unfold zI;rw [itT (by simp),show idx [a,b] 1=some b from rfl,sb];rw [uA,uz,uA];push_cast;rfl
 have l1:zbi [a,b] 0 0=some ((a.length+b.length:Nat):Int):=by
  have e0:=b0 0 (by omega);rw [xD] at e0;rw [zeM (show zI [a,b] 0 0=_ from e0),zeM (b1 a.length (by omega))];refine zia ?_;unfold zI;rw [itF (by rfl)]
 have l2:zbj [a,b] [] 0=some (a++b):=by
  rw [zeN (newslice':=a) (v2':=1) (by
   unfold zS;rw [itT (by simp),show idx [a,b] 0=some a from rfl,sb];rw [zfm (by simp;omega),sb,xW];rfl),zeN (newslice':=a++b) (v2':=2) (by
   unfold zS;rw [itT (by simp),show idx [a,b] 1=some b from rfl,sb];rw [zfm (by omega),sb];rfl)]
  refine zib ?_;unfold zS;rw [itF (by rfl)]
 unfold zbM;rw [l1,sb,zDY h,sb,l2,sb]
theorem zHZ (u:Vlu):(⟨u.Number,u.Words,u.Texts,u.Subs⟩:Vlu)=u:=by cases u;rfl
def jv15 (s:List Mes) (a:Msg) (k:Int) (v:Vlu):Vlu:=zjM s v (look a.Values v.Number) (zaI (zaC s k) (fldI (zaC s k) v.Number))
structure Jm (s:List Mes) (a:Msg) (k:Int) (t:List Vlu) (q:List (Int×Vlu)):Prop where
 nd:(q.map Prod.fst).Nodup
 get:∀n,mget q n=match look t n with
  | some v=>some (jv15 s a k v)
  | none=>look a.Values n
 len:q.length<=a.Values.length+t.length
theorem Jm.put {s:List Mes} {a:Msg} {k:Int} {t:List Vlu} {q:List (Int×Vlu)} (h:Jm s a k t q) {v:Vlu} (hn:look t v.Number=none):Jm s a k (t++[v]) (mput q v.Number (jv15 s a k v)):=by
 refine ⟨zsh h.nd _ _,fun n=>?_,?_⟩
 ·rw [zeG,zqu];by_cases e:n=v.Number
  ·subst e;rw [xu rfl,hn];simp only;rw [zcX,xu rfl]
  ·rw [xt e,h.get];cases hl:look t n with
   | some u=>rfl
   | none=>
    simp only;rw [zcX,xt (fun e'=>e e'.symm)];rfl
 ·have:=zGk q v.Number (jv15 s a k v);have:=h.len;rw [ye,qD];omega
theorem zBz {s:List Mes} (hs:zls s) {a b:Msg} {k:Nat} (hk:k<s.length) {rv:List zg->Fld->Vlu->Vlu->Option Vlu} (ra:zat s a k=true) (rb:zat s b k=true) (sa:smM a) (sb':smM b) (ba:bdM a) (bb:bdM b)
  (hrv:∀v∈b.Values,∀u,look a.Values v.Number=some u->rv s (zaI (zaC s k) (fldI (zaC s k) v.Number)) u v=some (jv15 s a k v)):
  ∃q,zgA b k rv s (zmr a.Values) 0=some q/\Jm s a k b.Values q:=by
 obtain ⟨_,_,a3,a4,_⟩:=zco ra;obtain ⟨_,_,b3,b4,_⟩:=zco rb;have al:=((zmD a).1 sa).1;have bl:=((zmD b).1 sb').1;have hm:zaC s (k:Int)=s[k]:=zjs hk;have hfew:=hs.few s[k] (xB hk);have key:∀(t:List Vlu) (i:Nat) (q:List (Int×Vlu)),b.Values.drop i=t->i<=b.Values.length->Jm s a k (b.Values.take i) q->∃q',zgA b k rv s q i=some q'/\Jm s a k b.Values q':=by
  intro t
  induction t with
  | nil=>
   intro i q hd hi hJ;have:=zcH hd;obtain rfl:i=b.Values.length:=by omega
   rw [yW] at hJ;refine ⟨q,zrv ?_,hJ⟩;unfold zdf;rw [itF (by simp)]
  | cons v t ih=>
   intro i q hd hi hJ;obtain ⟨hlt,hv,hd'⟩:=zbZ hd;have hbef:=zux b3 hlt;rw [hv] at hbef;have hJ':=hJ.put hbef;rw [show b.Values.take i++[v]=b.Values.take (i+1) by rw [yv hlt,hv]] at hJ';obtain ⟨q',g1,g2⟩:=ih (i+1) _ hd' (by omega) hJ';refine ⟨q',(zru (values':=mput q v.Number (jv15 s a k v)) (v':=((i+1:Nat):Int)) ?_).trans g1,g2⟩;have hg:=hJ.get v.Number;rw [hbef] at hg;simp only at hg;have hvm:v∈b.Values:=hv▸xB hlt;unfold zdf;rw [uy,zH rfl hlt,sb,hv,hg];cases hu:look a.Values v.Number with
   | none=>
    rw [itF (by rfl),uA];have e:jv15 s a k v=v:=by unfold jv15;rw [hu,zlf]
    rw [e];push_cast;rfl
   | some u=>
    have hf:=(b4 v hvm).1;rw [itT (by rfl),zH rfl hk,sb,<-hm,zxw (by rw [hm];omega) hf,sb,yA,zHZ,hrv v hvm u hu,sb,uA];have e:(jv15 s a k v).Number=v.Number:=zrf _ _ _ _;rw [e];push_cast;rfl
 exact key b.Values 0 (zmr a.Values) rfl (xH _) ⟨by
  unfold zmr;rw [px];exact pw.2 (a3.imp fun h=>by simp only [Function.comp];omega),fun n=>by rw [zwl];rfl,by simp [zmr]⟩
theorem zCO {s:List Mes} (hs:zls s):∀(fuel:Nat),(∀(a b:Msg) (k:Nat),2*szM b<fuel->k<s.length->zat s a k=true->zat s b k=true->bdM a->bdM b->smM a->smM b->ziO fuel s k a b=some (zje s b a k))/\
  ∀(f:Fld) (u v:Vlu),2*szV v<fuel->f.Number=v.Number->zko s u f->zko s v f->bdV u->bdV v->smV u->smV v->zgb fuel s f u v=some (zjM s v (some u) f)
 | 0=>⟨fun a b k h=>by omega,fun f u v h=>by omega⟩
 | fuel+1=>by
  obtain ⟨ih1,ih2⟩:=zCO hs fuel;refine ⟨fun a b k hz hk ra rb ba bb sa sb'=>?_,fun f u v hz hn hu hv bu bv su sv=>?_⟩
  ·obtain ⟨_,_,a3,a4,_⟩:=zco ra;obtain ⟨_,_,b3,b4,_⟩:=zco rb;have al:=(zmD a).1 sa;have bl:=(zmD b).1 sb';have bda:=(zhK a).1 ba;have bdb:=(zhK b).1 bb;have hm:zaC s (k:Int)=s[k]:=zjs hk;rw [zdd] at hz;obtain ⟨q,g1,g2⟩:=zBz hs hk (rv:=zgb fuel) ra rb sa sb' ba bb fun v hv u hu=>by
    obtain ⟨e,hum⟩:=zfX hu;have:=zei hv;have hf:=(b4 v hv).1;have hfu:=zfW (a4 u hum).2;rw [e] at hfu;rw [ih2 _ u v (by omega) (zxL hf).2 hfu (zfW (b4 v hv).2) (zdO.1 bda.2.2 u hum) (zdO.1 bdb.2.2 v hv) (ziG.1 al.2.2 u hum) (ziG.1 bl.2.2 v hv)];unfold jv15;rw [hu]
   have hnum:∀n v,mget q n=some v->v.Number=n/\0<=fldI (zaC s k) n:=fun n v hg=>by
    rw [g2.get] at hg;cases hl:look b.Values n with
    | some w=>
     rw [hl] at hg;cases hg;obtain ⟨e,hwm⟩:=zfX hl;exact ⟨(zrf _ _ _ _).trans e,by rw [<-e];exact (b4 w hwm).1⟩
    | none=>
     rw [hl] at hg;obtain ⟨e,hwm⟩:=zfX hg;exact ⟨e,by rw [<-e];exact (a4 v hwm).1⟩
   obtain ⟨l,o1,o2,o3⟩:=zIT g2.nd (fun n v hg=>(hnum n v hg).1) (fun n hn=>by
    cases hg:mget q n with
    | none=>exact absurd hn (ztU hg)
    | some v=>exact zIA hs (by omega) (by omega) (hnum n v hg).2) (by
     have:=g2.len;omega)
   obtain ⟨j1,j2⟩:=ztS ra rb;have hl:l=(zje s b a k).Values:=zAB o2 j1 fun n=>by
    rw [o3,g2.get,j2];cases hl:look b.Values n with
    | none=>rfl
    | some w=>
     obtain ⟨e,_⟩:=zfX hl;simp only;unfold jv15;rw [e]
   show ziz (ziO fuel) (zgb fuel) s k a b=_;unfold ziz;rw [zHg a3 al.1,sb,g1,sb,o1,sb,zvF (by omega),sb,hl,zmm]
  ·show zfl (ziO fuel) (zgb fuel) s f u v=_;unfold zfl;rw [zlf];simp only;obtain ⟨u1,⟨u2,_⟩,u3,u4⟩:=(zpm u).1 su;obtain ⟨v1,⟨v2,_⟩,v3,v4⟩:=(zpm v).1 sv;by_cases hr:f.Repeated=true
   ·rw [itT hr,zBQ (by omega),sb,zvF (by omega),sb,zzY (by omega),sb,xu hr,hn]
   ·have hr':f.Repeated=false:=by simpa using hr
    rw [itF hr',xt hr];by_cases h17:f.Kind=17
    ·obtain ⟨x,ex,rx⟩:=hu.msg h17 hr';obtain ⟨y,ey,ry⟩:=hv.msg h17 hr';have ux:u.Subs=[x]:=by rw [ex]
     have vy:v.Subs=[y]:=by rw [ey]
     rw [zfI,vy] at hz;simp only [szMs] at hz;obtain ⟨k0,k1,_⟩:=zco rx;obtain ⟨j,hj⟩:∃j:Nat,f.Of=j:=⟨f.Of.toNat,by omega⟩;have bx:bdM x:=zep.1 ((zhk u).1 bu).2.2.2.2 x (by rw [ux];exact xw);have by':bdM y:=zep.1 ((zhk v).1 bv).2.2.2.2 y (by rw [vy];exact xw)
     have sx:smM x:=ziF.1 u4 x (by rw [ux];exact xw);have sy:smM y:=ziF.1 v4 y (by rw [vy];exact xw);rw [hj] at rx ry;have:=ih1 x y j (by omega) (by omega) rx ry bx by' sx sy
     rw [itT (by simp [h17]),xu h17,ztD,sb,ztD,sb,ux,vy,hj];simp only [pc];rw [this,sb,zxy,sb,zml,hn]
    ·rw [itF (by simp [h17]),xt h17]
theorem zEU {fuel:Nat} {s:List Mes} (root:Int) {a b:Msg} (hw:WS s) (ha:Ok15 fuel a) (hb:Ok15 fuel b) (hr:zfP s root [a,b]=0->szM (zje s b a root)<fuel/\szM (zje s b a root)<=131072):
  zjU fuel s root a b=some (if zfP s root [a,b]=0 then (zje s b a root,0) else (zqY,zfP s root [a,b])):=by
 unfold zjU;rw [zzI root hw (by simp) (by simp) (fun y hy=>by
  simp only [xz,xM,xN] at hy;rcases hy with rfl| rfl
  ·exact ha
  ·exact hb),sb]
 by_cases h0:zfP s root [a,b]=0
 ·obtain ⟨hs,g1,g2,g3⟩:=zsg h0;obtain ⟨k,rfl⟩:∃k:Nat,root=k:=⟨root.toNat,by omega⟩;have ra:=g3 a (by simp);have rb:=g3 b (by simp);obtain ⟨z1,z2⟩:=hr h0
  rw [itF (by simp [h0]),xu h0,(zCO hs fuel).1 a b k hb.z (by omega) ra rb ha.b hb.b ha.s hb.s,sb,
   zBh z1 (zyR _ b a k (xA _) ra rb ha.b hb.b ha.s hb.s) (by have:=zFm (zje s b a k);omega),sb]
 ·rw [itT (by simp [h0]),xt h0];rfl
theorem zzK {fuel:Nat} {s:List Mes} (root:Int) {x:Msg} {ways:List zB} (keep:Bool) (hw:WS s) (hx:Ok15 fuel x) (hW:UW ways):
  zhg fuel s root x ⟨ways⟩ keep=some (if zfP s root [x]=0 then (zlD s x root (ofW ways) keep,0) else (zqY,zfP s root [x])):=by
 unfold zhg;rw [zzI root hw (by simp) (by simp) (fun y hy=>by rw [yc.1 hy];exact hx),sb];by_cases h0:zfP s root [x]=0
 ·obtain ⟨hs,g1,g2,g3⟩:=zsg h0;obtain ⟨k,rfl⟩:∃k:Nat,root=k:=⟨root.toNat,by omega⟩;have hrt:=g3 x (by simp);obtain ⟨t1,t2⟩:=zro (s:=s) _ x k (ofW ways) keep (xA _) hx.b;have hz:=hx.z;have hd:=hx.d;rw [itF (by simp [h0]),xu h0,zGj hW.sw,sb];simp only;rw [zCN hs fuel x k _ keep (by omega) (by omega) hrt hx.b hx.s (zyb ways) hW.of.ww,sb,zBh (by omega) t1 (by have:=zFm (zlD s x k (ofW ways) keep);omega),sb]
 ·rw [itT (by simp [h0]),xt h0];rfl
theorem zEV {fuel:Nat} {s:List Mes} (root:Int) {x:Msg} {ways:List zB} (hw:WS s) (hx:Ok15 fuel x) (hW:UW ways):zjV fuel s root x ⟨ways⟩=some (if zfP s root [x]=0 then (zlD s x root (ofW ways) true,0) else (zqY,zfP s root [x])):=by
 unfold zjV;rw [zzK root true hw hx hW,sb]
theorem zxx {fuel:Nat} {s:List Mes} (root:Int) {x:Msg} {ways:List zB} (hw:WS s) (hx:Ok15 fuel x) (hW:UW ways):zid fuel s root x ⟨ways⟩=some (if zfP s root [x]=0 then (zlD s x root (ofW ways) false,0) else (zqY,zfP s root [x])):=by
 unfold zid;rw [zzK root false hw hx hW,sb]
end Go.Proofs.YtekgmimingolbaaGreat
