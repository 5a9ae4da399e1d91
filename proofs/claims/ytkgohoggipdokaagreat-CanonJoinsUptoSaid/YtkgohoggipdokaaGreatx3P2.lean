/-
  What the plain functions are. No condition.
-/
import Derived.Test.YtkgohoggipdokaaGreatx3P1
import Derived.Test.YtkgohoggipdokaaGreatx3S1
import Derived.Test.YtkgohoggipdokaaGreatx3K3
import Derived.Test.YtkgohoggipdokaaGreatx3K1
set_option autoImplicit true
set_option relaxedAutoImplicit true
namespace Go.Proofs.YtkgohoggipdokaaGreat
open Go.IntKind (i64 u64)
open Go
set_option linter.unusedVariables false
def lt7 (c:UInt8):Bool:=decide (97<=c.toNat/\c.toNat<=122\/65<=c.toNat/\c.toNat<=90\/c.toNat=95)
def dg7 (c:UInt8):Bool:=decide (48<=c.toNat/\c.toNat<=57)
theorem zxb (c:UInt8):zgz (c.toNat:Int)=some (dg7 c):=by
 unfold zgz dg7;congr 1;rw [yO];simp;omega
theorem zCA (c:UInt8):zhd (c.toNat:Int)=some (lt7 c):=by
 unfold zhd lt7;congr 1;by_cases h1:(c.toNat:Int)>=97<;>by_cases h2:(c.toNat:Int)>=65<;>simp only [h1,h2,pL,decide_false,yj,yH,qD]<;>rw [yO]<;>simp<;>omega
theorem zCB (s:List UInt8) (hs:s.length<=1152921504606846976):∀(l:List UInt8) (i:Nat),s.drop i=l->zfp s i=some (if (l.all fun c=>lt7 c|| dg7 c)=true then .inl () else .inr ()):=by
 intro l
 induction l with
 | nil=>
  intro i hd;have:=zkf hd;refine zkZ ?_;unfold zcS;rw [uC];rfl
 | cons c l ih=>
  intro i hd;obtain ⟨hi,hc,hd'⟩:=ziH hd;have hb:zcS s i=if (lt7 c|| dg7 c)=true then some (.inl ((i+1:Nat):Int)) else some (.inr (.inr ())):=by
   unfold zcS;rw [uB,zal rfl hi,sb,hc,zCA,sb,sb,zxb,uD];cases lt7 c<;>cases dg7 c<;>rfl
  rw [yD];cases hk:(lt7 c|| dg7 c) with
  | false=>
   rw [hk] at hb;rw [zkZ hb];rfl
  | true=>
   rw [hk] at hb;rw [zqt hb,ih _ hd',yd]
theorem zGj:∀(l:List UInt8) (i:Nat),0<i->nmA i l=l.all fun c=>lt7 c|| dg7 c
 | [],_,_=>rfl
 | c::l,i,h=>by
  rw [nmA,zGj l (i+1) (by omega),yD];congr 1;unfold nmc lt7 dg7;rw [yO];simp;omega
theorem zzD (hs:s.length<=1152921504606846976):zhl s=some (zik s):=by
 unfold zhl zik;have hl:=zCB s hs s 0 rfl;have hl':zfp s 0=_:=hl;cases s with
 | nil=>rfl
 | cons c l=>
  rw [uA];by_cases h60:((c::l).length:Int)>60
  ·rw [itT (by simpa using h60),sb,itT rfl];have:decide (1<=(c::l).length/\(c::l).length<=60)=false:=by simp only [ut];omega
   rw [this,qV]
  ·have hd:decide (1<=(c::l).length/\(c::l).length<=60)=true:=by simp only [yc];refine ⟨by simp,by omega⟩
   have hc:idx (c::l) 0=some c:=by simp [idx]
   rw [itF (by simpa using h60),hc,sb,zxb,sb,sb,hd,qS,hl',sb];have e:nmA 0 (c::l)=(lt7 c&&l.all fun c=>lt7 c|| dg7 c):=by
    rw [nmA,zGj l 1 (by omega)];congr 1;unfold nmc lt7;rw [yO];simp;omega
   have hx:lt7 c=true->dg7 c=false:=by
    unfold lt7 dg7;simp only [yc,ut];omega
   rw [e,yD];cases h1:lt7 c<;>cases h2:dg7 c<;>first| (rw [hx h1] at h2;cases h2;done)| skip
   ·rfl
   ·rfl
   ·cases l.all fun c=>lt7 c|| dg7 c<;>rfl
theorem zIQ (hl:l.length<=1152921504606846976) (v:Int):zdz l v=some (ziI (fun x=>v==x) l):=by
 unfold zdz;have h:=zuc (fun x=>v==x) l (fun i=>zcj l v i) (zgA (by unfold zaW;rw [uA])) (fun i hi=>by
  by_cases hp:(v==l[i])=true
  ·rw [xz hp];exact zgA (by unfold zaW;rw [uB,zal rfl hi,sb,itT hp])
  ·rw [xy hp];exact zku (by unfold zaW;rw [uB,zal rfl hi,sb,itF (by simpa using hp),uD];rfl)) l.length 0 (by omega) (fun j _ h=>by omega)
 have h':zcj l v 0=_:=h;rw [h',sb];unfold ziI;cases l.findIdx? (fun x=>v==x)<;>rfl
theorem zyL {α:Type} (p:α->Bool) (l:List α):decide (ziI p l>=0)=l.any p:=by
 cases h:l.findIdx? p with
 | none=>
  rw [zmV h];rw [pG] at h
  symm
  rw [List.any_eq_false.2 fun x hx=>by simpa using h x hx];rfl
 | some i=>
  rw [zmW h];rw [pH] at h;obtain ⟨hi,hp,_⟩:=h
  symm
  rw [List.any_eq_true.2 ⟨l[i],xI hi,hp⟩];simp
theorem zCf (hl:l.length<=1152921504606846976) (v:Int):zcO l v=some (l.any fun x=>v==x):=by
 unfold zcO;rw [zIQ hl,sb,zyL]
def K17:List Int:=[1,2,3,4,5,6,7,8,9,10,11,12,13,14,15,16,17]
theorem zHm (k:Int):(K17.any fun x=>k==x)=zcw k:=by
 unfold zcw K17;rw [yO];simp;omega
def hasN (m:List (zw×Bool)) (i:Int) (n:Str):Bool:=(mget m (⟨i,n⟩:zw)).getD false
def hasU (m:List (zx×Bool)) (i:Int) (n:Int):Bool:=(mget m (⟨i,n⟩:zx)).getD false
theorem znO (m:List (zw×Bool)) (i j:Int) (n k:Str):hasN (mput m ⟨i,n⟩ true) j k=(decide (j=i/\k=n)|| hasN m j k):=by
 unfold hasN;rw [zjb];by_cases h:j=i/\k=n
 ·obtain ⟨rfl,rfl⟩:=h;simp
 ·rw [xy (fun e=>h (by injection e with e1 e2;exact ⟨e1,e2⟩))];simp [h]
theorem zCu (m:List (zx×Bool)) (i j:Int) (n k:Int):hasU (mput m ⟨i,n⟩ true) j k=(decide (j=i/\k=n)|| hasU m j k):=by
 unfold hasU;rw [zjb];by_cases h:j=i/\k=n
 ·obtain ⟨rfl,rfl⟩:=h;simp
 ·rw [xy (fun e=>h (by injection e with e1 e2;exact ⟨e1,e2⟩))];simp [h]
theorem zCC (n:Int):zhe n=some (decide ¬(n<1\/n>536870911\/(19000<=n/\n<20000))):=by
 unfold zhe;congr 1;rw [yO];simp;omega
theorem zEJ (f:Fld):zhK f=some (f.Repeated&&kNum f.Kind):=by
 unfold zhK;rw [zxi];cases f.Repeated<;>rfl
theorem zJk (n:Int) (K:List Int) (nm:List (zw×Bool)) (nu:List (zx×Bool)) (f:Fld):zfz ⟨n,K,nm,nu⟩ f=some (decide ¬(f.Kind=17/\(f.Of<0\/f.Of>=n)\/f.Kind≠17/\f.Of≠0)):=by
 unfold zfz;by_cases h:f.Kind=17
 ·rw [itT (by simpa using h)];congr 1;rw [yO];simp [h]
 ·rw [itF (by simpa using h)];congr 1;rw [yO];simp [h]
theorem zIG (hf:f.Name.length<=1152921504606846976) (hN:hasN nm i f.Name=prev.any fun g=>g.Name==f.Name) (hU:hasU nu i f.Number=prev.any fun g=>g.Number==f.Number):
  zfy ⟨n,K17,nm,nu⟩ i f=some (zdI n prev f,if zdI n prev f=0 then (mput nm ⟨i,f.Name⟩ true,mput nu ⟨i,f.Number⟩ true) else (nm,nu)):=by
 unfold zfy;rw [zzD hf,sb];have e1:(mget nm (⟨i,f.Name⟩:zw)).getD false=hasN nm i f.Name:=rfl;have e2:(mget nu (⟨i,f.Number⟩:zx)).getD false=hasU nu i f.Number:=rfl;simp only [e1,e2,hN,hU];have hz:∀(k:Int) (x y:List (zw×Bool)×List (zx×Bool)),k≠0->(if k=0 then x else y)=y:=fun k x y h=>xy h
 by_cases h1:zik f.Name=false
 ·have hF:zdI n prev f=5:=by unfold zdI;rw [xz h1]
  rw [hF,hz 5 _ _ (by decide),itT (by rw [h1];rfl)]
 rw [itF (show (!zik f.Name)=false by simpa using h1)];by_cases h2:(prev.any fun g=>g.Name==f.Name)=true
 ·have hF:zdI n prev f=6:=by unfold zdI;rw [xy h1,xz h2]
  rw [hF,hz 6 _ _ (by decide),itT h2]
 have h2':(prev.any fun g=>g.Name==f.Name)=false:=pl h2;rw [itF h2',zCC,sb];by_cases h3:f.Number<1\/f.Number>536870911\/(19000<=f.Number/\f.Number<20000)
 ·have hF:zdI n prev f=7:=by unfold zdI;rw [xy h1,xy h2,xz h3]
  rw [hF,hz 7 _ _ (by decide),itT (by rw [ye (fun h=>h h3)];rfl)]
 rw [itF (by rw [xT h3];rfl)];by_cases h4:(prev.any fun g=>g.Number==f.Number)=true
 ·have hF:zdI n prev f=8:=by unfold zdI;rw [xy h1,xy h2,xy h3,xz h4]
  rw [hF,hz 8 _ _ (by decide),itT h4]
 have h4':(prev.any fun g=>g.Number==f.Number)=false:=pl h4;rw [itF h4',zCf (by decide),sb,zHm];by_cases h5:zcw f.Kind=false
 ·have hF:zdI n prev f=9:=by unfold zdI;rw [xy h1,xy h2,xy h3,xy h4,xz h5]
  rw [hF,hz 9 _ _ (by decide),itT (by rw [h5];rfl)]
 rw [itF (show (!zcw f.Kind)=false by simpa using h5),zEJ];have hg:(if f.Packed=true then (some (f.Repeated&&kNum f.Kind)>>=fun wM=>some (!wM)) else some false)=some (decide (f.Packed=true/\¬(f.Repeated=true/\kNum f.Kind=true))):=by
  cases f.Packed<;>cases f.Repeated<;>cases kNum f.Kind<;>rfl
 rw [hg,sb];by_cases h6:f.Packed=true/\¬(f.Repeated=true/\kNum f.Kind=true)
 ·have hF:zdI n prev f=10:=by unfold zdI;rw [xy h1,xy h2,xy h3,xy h4,xy h5,xz h6]
  rw [hF,hz 10 _ _ (by decide),itT (xT h6)]
 rw [itF (ye h6),zJk,sb];by_cases h7:f.Kind=17/\(f.Of<0\/f.Of>=n)\/f.Kind≠17/\f.Of≠0
 ·have hF:zdI n prev f=11:=by unfold zdI;rw [xy h1,xy h2,xy h3,xy h4,xy h5,xy h6,xz h7]
  rw [hF,hz 11 _ _ (by decide),itT (by rw [ye (fun h=>h h7)];rfl)]
 have hF:zdI n prev f=0:=by unfold zdI;rw [xy h1,xy h2,xy h3,xy h4,xy h5,xy h6,xy h7]
 rw [hF,xz rfl,itF (by rw [xT h7];rfl)]
theorem zEK {n:Int} {nm:List (zw×Bool)} {nu:List (zx×Bool)} {prev:List Mes} {m:Mes} (hm:m.Name.length<=1152921504606846976) (hN:hasN nm (-1) m.Name=prev.any fun g=>g.Name==m.Name):
  zeI ⟨n,K17,nm,nu⟩ m=some (if zik m.Name=false then (2,nm,nu) else if (prev.any fun g=>g.Name==m.Name)=true then (3,nm,nu) else if 200<m.Fields.length then (4,nm,nu) else (0,mput nm ⟨-1,m.Name⟩ true,nu)):=by
 unfold zeI;rw [zzD hm,sb];have e1:(mget nm (⟨(-1),m.Name⟩:zw)).getD false=hasN nm (-1) m.Name:=rfl;simp only [e1,hN];by_cases h1:zik m.Name=false
 ·rw [xz h1,itT (show (!zik m.Name)=true by rw [h1];rfl)]
 rw [xy h1,itF (show (!zik m.Name)=false by simpa using h1)];by_cases h2:(prev.any fun g=>g.Name==m.Name)=true
 ·rw [xz h2,itT h2]
 have h2':(prev.any fun g=>g.Name==m.Name)=false:=pl h2;rw [xy h2,itF h2'];by_cases h3:200<m.Fields.length
 ·rw [xz h3,itT (show decide ((m.Fields.length:Int)>200)=true by simp;omega)]
 rw [xy h3,itF (show decide ((m.Fields.length:Int)>200)=false by simp;omega)]
structure Met (nm:List (zw×Bool)) (nu:List (zx×Bool)) (i:Nat) (prev:List Mes) (p:List Fld):Prop where
 mes:∀n,hasN nm (-1) n=prev.any fun g=>g.Name==n
 nam:∀n,hasN nm i n=p.any fun g=>g.Name==n
 num:∀n,hasU nu i n=p.any fun g=>g.Number==n
 later:∀(j:Nat) n,i<j->hasN nm j n=false
 laterU:∀(j:Nat) n,i<j->hasU nu j n=false
theorem Met.step (h:Met nm nu i prev p) (f:Fld):Met (mput nm ⟨i,f.Name⟩ true) (mput nu ⟨i,f.Number⟩ true) i prev (p++[f]):=by
 refine ⟨fun n=>?_,fun n=>?_,fun n=>?_,fun j n hj=>?_,fun j n hj=>?_⟩
 ·rw [znO,h.mes,ye (by omega),Bool.false_or]
 ·rw [znO,h.nam,ui,Bool.or_comm];congr 1;simp only [uj,List.any_nil,qT];rw [yO];simp;exact eq_comm
 ·rw [zCu,h.num,ui,Bool.or_comm];congr 1;simp only [uj,List.any_nil,qT];rw [yO];simp;exact eq_comm
 ·rw [znO,h.later j n hj,ye (by omega)];rfl
 ·rw [zCu,h.laterU j n hj,ye (by omega)];rfl
theorem zIz (hb:m.Fields.length<=140737488351232) (hn:∀f∈m.Fields,f.Name.length<=140737488351232):
  ∀(l:List Fld) (k:Nat) (nm:List (zw×Bool)) (nu:List (zx×Bool)),m.Fields.drop k=l->k<=m.Fields.length->Met nm nu i prev (m.Fields.take k)->
   (∃j w,msgF s.length (m.Fields.take k) l=some (j,w)/\zdZ K17 s i m k nm nu=some (.inr ((j:Int),w)))\/
   (msgF s.length (m.Fields.take k) l=none/\∃nm' nu',zdZ K17 s i m k nm nu=some (.inl (nm',nu'))/\Met nm' nu' i prev m.Fields):=by
 intro l
 induction l with
 | nil=>
  intro k nm nu hd hk hM;have:=zkf hd;have hkl:k=m.Fields.length:=by omega
  subst hkl;refine .inr ⟨rfl,nm,nu,zls ?_,by simpa using hM⟩;unfold zcx;rw [uA]
 | cons f l ih=>
  intro k nm nu hd hk hM;obtain ⟨hi,hc,hd'⟩:=ziH hd;have hf:=hn f (by rw [<-hc];exact xI hi);have hfld:=zIG (n:=(s.length:Int)) (i:=(i:Int)) (nm:=nm) (nu:=nu) (prev:=m.Fields.take k) (f:=f) (by omega) (hM.nam _) (hM.num _);have htk:m.Fields.take (k+1)=m.Fields.take k++[f]:=by rw [qG hi,hc]
  have wD:(m.Fields.take k).length=k:=by simp;omega
  obtain ⟨bd,_⟩:=zCk (s.length:Int) (m.Fields.take k) f;rw [msgF];by_cases h0:zdI s.length (m.Fields.take k) f=0
  ·rw [xy (by omega)];rw [h0,xz rfl] at hfld;have hstep:zcx K17 s i m k nm nu=some (.inl (((k+1:Nat):Int),mput nm ⟨i,f.Name⟩ true,mput nu ⟨i,f.Number⟩ true)):=by
    unfold zcx;rw [uB,zal rfl hi,sb,hc,hfld,sb];dsimp only;rw [itF (show ((0:Int) !=0)=false from rfl),uD];rfl
   rw [zry hstep,<-htk];exact ih (k+1) _ _ hd' (by omega) (by rw [htk];exact hM.step f)
  ·rw [xz (by omega)];rw [xy h0] at hfld;refine .inl ⟨k,_,by rw [wD],zls ?_⟩;unfold zcx;rw [uB,zal rfl hi,sb,hc,hfld,sb];dsimp only;rw [itT (show (zdI (s.length:Int) (m.Fields.take k) f !=0)=true by simpa using h0)]
theorem zIy {s:List Mes} (hw:WS s):∀(l:List Mes) (i:Nat) (nm:List (zw×Bool)) (nu:List (zx×Bool)),s.drop i=l->i<=s.length->Met nm nu i (s.take i) []->
  zfN K17 s i nm nu=some (match chkF s.length (s.take i) l with| some (j,k,w)=> .inr ((j:Int),k,w)| none=> .inl ()):=by
 intro l
 induction l with
 | nil=>
  intro i nm nu hd hi hM;have:=zkf hd;refine zeZ ?_;unfold zbA;rw [uC];rfl
 | cons m l ih=>
  intro i nm nu hd hi hM;obtain ⟨hil,hc,hd'⟩:=ziH hd;obtain ⟨w1,w2⟩:=hw;obtain ⟨m1,m2,m3⟩:=w2 m (by rw [<-hc];exact xI hil);have hmes:=zEK (n:=(s.length:Int)) (nm:=nm) (nu:=nu) (prev:=s.take i) (m:=m) (by omega) (hM.mes _);have htk:s.take (i+1)=s.take i++[m]:=by rw [qG hil,hc]
  have wD:(s.take i).length=i:=by simp;omega
  rw [chkF];by_cases h1:zik m.Name=false
  ·rw [xz h1] at hmes|-;refine zeZ ?_;unfold zbA;rw [uB,zal rfl hil,sb,hc,hmes,sb];dsimp only;rw [itT (show ((2:Int) !=0)=true from rfl),wD]
  rw [xy h1] at hmes|-;by_cases h2:((s.take i).any fun g=>g.Name==m.Name)=true
  ·rw [xz h2] at hmes|-;refine zeZ ?_;unfold zbA;rw [uB,zal rfl hil,sb,hc,hmes,sb];dsimp only;rw [itT (show ((3:Int) !=0)=true from rfl),wD]
  rw [xy h2] at hmes|-;by_cases h3:200<m.Fields.length
  ·rw [xz h3] at hmes|-;refine zeZ ?_;unfold zbA;rw [uB,zal rfl hil,sb,hc,hmes,sb];dsimp only;rw [itT (show ((4:Int) !=0)=true from rfl),wD]
  rw [xy h3] at hmes|-;have hM0:Met (mput nm ⟨-1,m.Name⟩ true) nu i (s.take i++[m]) (m.Fields.take 0):=by
   refine ⟨fun n=>?_,fun n=>?_,fun n=>?_,fun j n hj=>?_,fun j n hj=>hM.laterU j n hj⟩
   ·rw [znO,hM.mes,ui,Bool.or_comm];congr 1;simp only [uj,List.any_nil,qT];rw [yO];simp;exact eq_comm
   ·rw [znO,hM.nam,ye (by omega)];rfl
   ·rw [hM.num];rfl
   ·rw [znO,hM.later j n hj,ye (by omega)];rfl
  have hl2:=zIz (s:=s) (i:=i) m2 m3 m.Fields 0 _ nu rfl (by omega) hM0;simp only [yQ] at hl2;rcases hl2 with ⟨j,w,g1,g2⟩| ⟨g1,nm',nu',g2,g3⟩
  ·rw [g1];refine zeZ ?_;unfold zbA;have g2':zdZ K17 s i m 0 (mput nm ⟨-1,m.Name⟩ true) nu=_:=g2;rw [uB,zal rfl hil,sb,hc,hmes,sb];dsimp only;rw [itF (show ((0:Int) !=0)=false from rfl),g2',sb];simp only [wD]
  ·rw [g1];have hstep:zbA K17 s i nm nu=some (.inl (((i+1:Nat):Int),nm',nu')):=by
    unfold zbA;have g2':zdZ K17 s i m 0 (mput nm ⟨-1,m.Name⟩ true) nu=_:=g2;rw [uB,zal rfl hil,sb,hc,hmes,sb];dsimp only;rw [itF (show ((0:Int) !=0)=false from rfl),g2',sb];dsimp only;rw [uD];rfl
   rw [zrx hstep];simp only [];rw [<-htk];refine ih (i+1) nm' nu' hd' (by omega) ⟨fun n=>?_,fun n=>?_,fun n=>?_,fun j n hj=>g3.later j n (by omega),fun j n hj=>g3.laterU j n (by omega)⟩
   ·rw [htk];exact g3.mes n
   ·rw [g3.later (i+1) n (by omega)];rfl
   ·rw [g3.laterU (i+1) n (by omega)];rfl
theorem zIx (hw:WS s):zjG s=some (⟨(zmc s).1,(zmc s).2.1,(zmc s).2.2⟩,if (zmc s).2.2=0 then 0 else 9):=by
 unfold zjG zmc;by_cases h:s.length=0\/100<s.length
 ·rw [uB,xz h];rfl
 ·rw [uC,xy h,zKW,sb];have hl:=zIy hw s 0 [] [] rfl (by omega) ⟨fun n=>rfl,fun n=>rfl,fun n=>rfl,fun j n _=>rfl,fun j n _=>rfl⟩;simp only [yQ] at hl;have hl':zfN [1,2,3,4,5,6,7,8,9,10,11,12,13,14,15,16,17] s 0 [] []=_:=hl;rw [hl',sb];cases hc:chkF s.length [] s with
  | none=>rfl
  | some q=>
   obtain ⟨i,k,w⟩:=q;have:=zFA _ _ _ _ _ _ hc;simp only;rw [xy (by omega)]
theorem zqo (hw:WS s):zgU s=some (zff s):=by
 unfold zgU zff;rw [zIx hw,sb];by_cases h:(zmc s).2.2=0<;>simp [h]
theorem zvy (h:(zcb k b).2=0):kNum k=true/\(pcs k b).2=0/\(zcb k b).1=(pcs k b).1.map (ziR k):=by
 unfold zcb at h|-;cases hn:kNum k with
 | false=>rw [hn,xz rfl] at h;simp at h
 | true=>
  rw [hn,xy (by simp)] at h;rw [xy (by simp)];by_cases h0:(pcs k b).2=0
  ·rw [xz h0];exact ⟨rfl,h0,rfl⟩
  ·rw [xy h0] at h;exact absurd h h0
theorem zyx (h:(zcb k b).2≠0):(zcb k b).1=[]/\((zcb k b).2=2\/(zcb k b).2=3\/(zcb k b).2=4):=by
 unfold zcb at h|-;by_cases hn:kNum k=false
 ·rw [xz hn];simp
 ·rw [xy hn] at h|-;by_cases h0:(pcs k b).2=0
  ·rw [xz h0] at h;exact absurd rfl h
  ·rw [xy h0];rcases zDc k b with h1| h1| h1
   ·exact absurd h1 h0
   ·rw [h1];simp
   ·rw [h1];simp
theorem zIV {α:Type} (x y:α):(if (true:Bool)=false then x else y)=y:=rfl
def wid (k:Int):Nat:=if 12<=k then 8 else if 9<=k then 4 else 0
theorem zuE (k:Int):zgS k=some (if kNum k then ((wid k:Int),0) else (0,2)):=by
 cases hn:kNum k with
 | true=>
  have h:=zfU.1 hn;have hk:k=1\/k=2\/k=3\/k=4\/k=5\/k=6\/k=7\/k=8\/k=9\/k=10\/k=11\/k=12\/k=13\/k=14:=by omega
  rcases hk with rfl| rfl| rfl| rfl| rfl| rfl| rfl| rfl| rfl| rfl| rfl| rfl| rfl| rfl<;>rfl
 | false=>
  have h:=uh hn;unfold zgS;have hne:∀c:Int,1<=c->c<=14->(k==c)=false:=fun c h1 h2=>by simp;omega
  simp only [hne 1 (by omega) (by omega),hne 2 (by omega) (by omega),hne 3 (by omega) (by omega),hne 4 (by omega) (by omega),hne 5 (by omega) (by omega),hne 6 (by omega) (by omega),hne 7 (by omega) (by omega),hne 8 (by omega) (by omega),hne 9 (by omega) (by omega),hne 10 (by omega) (by omega),hne 11 (by omega) (by omega),hne 12 (by omega) (by omega),hne 13 (by omega) (by omega),hne 14 (by omega) (by omega)];rfl
theorem zHl (hk:kNum k=true):(zbm k=0↔wid k=0)/\(wid k≠0->∀b:List UInt8,zdw (zbm k) b=decide (wid k=b.length))/\(wid k=0\/wid k=4\/wid k=8):=by
 have:=zfU.1 hk;unfold zbm wid zdw;by_cases h1:12<=k
 ·rw [xy (by omega),xz h1,xz h1];refine ⟨by simp,fun _ b=>?_,by simp⟩;rw [xy (by omega)];simp only [show ((1:Int)=2)=False from by simp,show ((1:Int)=5)=False from by simp,false_or,false_and,xS,yZ];simp [eq_comm]
 ·rw [xy (by omega),xy h1,xy h1];by_cases h2:9<=k
  ·rw [xz h2,xz h2];refine ⟨by simp,fun _ b=>?_,by simp⟩;rw [xy (by omega)];simp [eq_comm]
  ·rw [xy h2,xy h2];exact ⟨by simp,fun h=>absurd rfl h,by simp⟩
theorem zHR (b:List UInt8):zjF b=some (if zdw 0 b then ((rd b).1,0) else (0,12)):=by
 unfold zjF zdw;rw [zwq,sb,xz rfl];by_cases h:(rd b).2.2=0/\(rd b).2.1=(b.length:Int)
 ·rw [itF (by simp [h.1,h.2]),xz (by simpa using h)]
 ·rw [uB,xy (by simpa using h)]
theorem zHP (k:Int) (b:List UInt8):zjE k b=some (if kNum k=false then (0,2) else if zdw (zbm k) b=false then (0,12) else (rawW k b,0)):=by
 unfold zjE;rw [zuE,sb];cases hn:kNum k with
 | false=>rw [xz rfl];rfl
 | true=>
  obtain ⟨e0,ef,_⟩:=zHl hn;simp only [yj];rw [uA,xy (show ¬(true=false) by simp)];by_cases h0:wid k=0
  ·have hw:=e0.2 h0;rw [itT (by simp [h0]),zHR,sb,hw];unfold rawW;cases hf:zdw 0 b with
   | true=>simp [hw]
   | false=>simp
  ·rw [itF (by simpa using h0),ef h0];by_cases hl:wid k=b.length
   ·rw [uC,zLQ,sb,xy (by simpa using hl)];unfold rawW;rw [xy (fun h=>h0 (e0.1 h))]
   ·rw [uB,xz (by simpa using hl)]
theorem zJX (k:Int) (b:List UInt8):zkY k b=some (zrM k b):=by
 unfold zkY zrM;rw [zHP,sb];cases hn:kNum k with
 | false=>rfl
 | true=>
  simp only [zIV];cases hf:zdw (zbm k) b with
  | false=>rfl
  | true=>
   simp only [zIV];rw [uy,zlM k (zBp k),sb,hn,xz rfl]
theorem zGB {k w:Int} (h:0<=w/\w<=18446744073709551615):zkt k w=some (if kNum k then (sPut k w,0) else ([],2)):=by
 have hc:=zkM k h;obtain ⟨c,hcc⟩:∃c:Nat,zch k w=c:=⟨(zch k w).toNat,by omega⟩;unfold zkt;rw [zuE,sb];cases hn:kNum k with
 | false=>rfl
 | true=>
  simp only [yj];rw [uy,zlM k h,sb,hn];simp only [yj];rw [hcc];unfold sPut zks;rw [hcc,xN];unfold wid;by_cases h1:12<=k
  ·rw [xz h1,xz h1,uy,zzJ,sb];rfl
  ·rw [xy h1,xy h1];by_cases h2:9<=k
   ·rw [xz h2,xz h2,uy,zzJ,sb];rfl
   ·rw [xy h2,xy h2,uw,zER [] (by omega) (by simp),sb,xK]
theorem zDs (h:0<=w/\w<=18446744073709551615):zjg k w=some (if kNum k then ((sPut k w).length:Int) else 0):=by
 have hc:=zkM k h;obtain ⟨c,hcc⟩:∃c:Nat,zch k w=c:=⟨(zch k w).toNat,by omega⟩;unfold zjg;rw [zuE,sb];cases hn:kNum k with
 | false=>rfl
 | true=>
  simp only [yj];unfold sPut zks;rw [hcc,xN];unfold wid;by_cases h1:12<=k
  ·rw [xz h1,xz h1,uw,zbt]
  ·rw [xy h1,xy h1];by_cases h2:9<=k
   ·rw [xz h2,xz h2,uw,zbt]
   ·rw [xy h2,xy h2,uy,zlM k h,sb,hn];simp only [yj];rw [hcc,zJn (by omega),sb,zmT]
theorem zzq {α:Type} {l t:List α} {x:α} {k:Nat} (h:l.drop k=x::t):∃hk:k<l.length,l[k]=x/\l.drop (k+1)=t:=by
 have hk:k<l.length:=by
  rcases yJ k l.length with h'| h'
  ·exact h'
  ·rw [yK h'] at h;cases h
 rw [yy hk] at h;injection h with h1 h2;exact ⟨hk,h1,h2⟩
theorem zAF (l:List (List UInt8)) (hl:l.length<=1099511627776):∀(t:List (List UInt8)) (k s:Nat),l.drop k=t->s+t.flatten.length<=1099511627776->
  zbI l s k=some ((s+t.flatten.length:Nat):Int):=by
 intro t
 induction t with
 | nil=>
  intro k s hd _;have hk:l.length<=k:=by have:=congrArg List.length hd;simp at this;omega
  refine zjo ?_;unfold zaH;rw [uC];simp
 | cons x t ih=>
  intro k s hd hs;obtain ⟨hk,hx,hd'⟩:=zzq hd;simp only [qw,xF] at hs;refine (zjn (size':=((s+x.length:Nat):Int)) (v':=((k+1:Nat):Int)) ?_).trans ?_
  ·unfold zaH;rw [uB,zal rfl hk,sb,hx,uD,uC,uD];push_cast;rfl
  ·rw [ih _ _ hd' (by omega)];simp only [qw,xF];congr 2;omega
theorem zAG (l:List (List UInt8)) (hl:l.length<=1099511627776):∀(t:List (List UInt8)) (k:Nat) (acc:List UInt8),l.drop k=t->acc.length+t.flatten.length<=1099511627776->
  zbJ l acc k=some (acc++t.flatten):=by
 intro t
 induction t with
 | nil=>
  intro k acc hd _;have hk:l.length<=k:=by have:=congrArg List.length hd;simp at this;omega
  refine zjq ?_;unfold zaI;rw [uC];simp
 | cons x t ih=>
  intro k acc hd hs;obtain ⟨hk,hx,hd'⟩:=zzq hd;simp only [qw,xF] at hs;refine (zjp (wY:=acc++x) (v2':=((k+1:Nat):Int)) ?_).trans ?_
  ·unfold zaI;rw [uB,zal rfl hk,sb,hx,zem (by omega),sb,uD];push_cast;rfl
  ·rw [ih _ _ hd' (by rw [xF];omega)];simp
theorem zKQ {n:Nat} (h:n<=1099511627776):zdj (n:Int)=some []:=by
 unfold zdj;have e:i64.wrap ((n:Int) - i64.wrap (0 - 0))=n:=by rw [zC (x:=0 - 0) (by omega),uD];omega
 rw [uA,e];by_cases h0:(n:Int)>0
 ·rw [itT (by simpa using h0),zmn (a:=n) rfl (y6 _) (by omega),sb];have e0:cut (List.replicate n (0:UInt8)) 0 0=some []:=znI (b:=0) rfl (xM _);rw [e0,sb]
 ·rw [itF (by simpa using h0)]
theorem znH (hl:l.length<=1099511627776) (h:l.flatten.length<=1099511627776):zaK l=some l.flatten:=by
 unfold zaK;have h1:=zAF l hl l 0 0 rfl (by omega);have h1':zbI l 0 0=_:=h1;have h2:=zAG l hl l 0 [] rfl (by simpa using h);have h2':zbJ l [] 0=_:=h2;rw [h1',sb,zKQ (by omega),sb,h2',sb];simp
def wid9 (k:Int):Int:=if kNum k then (if 12<=k then 8 else if 9<=k then 4 else 1) else 0
theorem zyO (hk:kNum k=true):(((sPut k 0).length:Nat):Int)=(if 12<=k then 8 else if 9<=k then 4 else 1):=by
 have hk':=zfU.1 hk;have hc:(zch k 0).toNat=0:=by
  have:k=1\/k=2\/k=3\/k=4\/k=5\/k=6\/k=7\/k=8\/k=9\/k=10\/k=11\/k=12\/k=13\/k=14:=by omega
  rcases this with h| h| h| h| h| h| h| h| h| h| h| h| h| h<;>subst h<;>decide
 unfold sPut;rw [hc];unfold zks;by_cases h1:12<=k
 ·rw [xz h1,xz h1,zbt];rfl
 ·rw [xy h1,xy h1];by_cases h2:9<=k
  ·rw [xz h2,xz h2,zbt];rfl
  ·rw [xy h2,xy h2,zmT];simp [lenN]
theorem zAc (k:Int):zlR k=some (wid9 k):=by
 unfold zlR wid9;rw [zDs (by omega),sb];cases hk:kNum k with
 | false=>rfl
 | true=>simp only [yj];rw [zyO hk]
theorem zGN (hk:kNum k=true):(k<9->wid9 k=1)/\(¬k<9->k<12->wid9 k=4)/\(¬k<12->wid9 k=8):=by
 unfold wid9;rw [hk,xz rfl];refine ⟨fun h=>?_,fun h1 h2=>?_,fun h=>?_⟩
 ·rw [xy (show ¬12<=k by omega),xy (show ¬9<=k by omega)]
 ·rw [xy (show ¬12<=k by omega),xz (show 9<=k by omega)]
 ·rw [xz (show 12<=k by omega)]
theorem zDQ (hk:kNum k=false):wid9 k=0:=by unfold wid9;rw [hk];rfl
theorem zGM (hk:kNum k=true):(wid9 k==0)=false:=by
 obtain ⟨h1,h2,h3⟩:=zGN hk;by_cases h9:k<9
 ·rw [h1 h9];rfl
 ·by_cases h12:k<12
  ·rw [h2 h9 h12];rfl
  ·rw [h3 h12];rfl
theorem zzY (hk:kNum k=true) (b:List UInt8):zoe (wid9 k) b=some (match zmF k b with| .inl c=>(0,c)| .inr n=>((n:Int),0)):=by
 obtain ⟨w1,w2,w3⟩:=zGN hk;unfold zoe zmF;by_cases h9:k<9
 ·rw [w1 h9,uw,zGz,sb,xz h9];rcases zms b with h| ⟨h,_⟩| ⟨x,c,y,e,hx,hc,hl,hv,h⟩
  ·rw [h];rfl
  ·rw [h];rfl
  ·rw [h,xy (by simp)];simp
 ·rw [xy h9];by_cases h12:k<12
  ·rw [w2 h9 h12,uy,xz h12];by_cases hl:b.length<4
   ·rw [uB,xz hl]
   ·rw [uC,xy hl];rfl
  ·rw [w3 h12,uy,xy h12];by_cases hl:b.length<8
   ·rw [uB,xz hl]
   ·rw [uC,xy hl];rfl
def zjW (k:Int) (b:List UInt8):List (List UInt8)×Int:=if kNum k=false then ([],2) else pcs k b
def go9 {σ ρ:Type} (kb:σ->(List UInt8×Int)->Option (σ⊕ρ)):List (List UInt8)->Int->σ->Option (σ⊕ρ)
 | [],c,s=>if c=0 then some (.inl s) else kb s ([],c)
 | p::ps,c,s=>match kb s (p,0) with
  | some (.inl s')=>go9 kb ps c s'
  | some (.inr r)=>some (.inr r)
  | none=>none
theorem zEV {σ ρ χ:Type} {kb:σ->χ->Option (σ⊕ρ)} {s:σ} {x:χ} {o:σ⊕ρ} (h:kb s x=some o):∃c,rnd kb (.inl s) x=some (c,o)/\(c=true/\(∃s',o= .inl s')\/c=false/\∃r,o= .inr r):=by
 cases o with
 | inl s'=>exact ⟨true,by simp only [rnd,h],.inl ⟨rfl,s',rfl⟩⟩
 | inr r=>exact ⟨false,by simp only [rnd,h],.inr ⟨rfl,r,rfl⟩⟩
theorem zOd {σ ρ:Type} (kb:σ->(List UInt8×Int)->Option (σ⊕ρ)) {k:Int} (hk:kNum k=true) (b:List UInt8):∀(s:σ) (o:σ⊕ρ),go9 kb (pcs k b).1 (pcs k b).2 s=some o->
  ∃q,zfM (rnd kb) (wid9 k) b (.inl s)=some q/\(q= .inl o\/q= .inr o):=by
 refine zwl k (fun b=>∀(s:σ) (o:σ⊕ρ),go9 kb (pcs k b).1 (pcs k b).2 s=some o->
  ∃q,zfM (rnd kb) (wid9 k) b (.inl s)=some q/\(q= .inl o\/q= .inr o)) ?_ ?_ ?_ b
 ·intro s o h;rw [zra] at h;have h':some (.inl s)=some o:=h;refine ⟨.inl o,zil ?_,.inl rfl⟩;unfold zcg;rw [uy,<-qb h']
 ·intro l c hl hu hc s o h;rw [zwk hl hu] at h;have h':kb s ([],c)=some o:=by
   have h2:(if c=0 then some (.inl s) else kb s ([],c))=some o:=h
   rwa [xy (by omega)] at h2
  obtain ⟨t,ht,_⟩:=zEV h';refine ⟨.inr o,zil ?_,.inr rfl⟩;have hp:=qF.2 hl;unfold zcg;rw [uB,zzY hk,sb,hu];simp only;rw [zjx (i:=0) (j:=0) (a:=0) (b:=0) rfl rfl (xE _) (xM _),sb];simp only [xV,pf,yQ];rw [ht,sb,uB]
 ·intro l n hl hu g1 g2 g3 ih s o h;rw [znY hl hu] at h;have hp:=qF.2 hl;have hbody:∀{t:Bool} {y:σ⊕ρ},rnd kb (.inl s) (l.take n,0)=some (t,y)->zcg (rnd kb) (wid9 k) l (.inl s)=(if t then some (.inl (l.drop n,y)) else some (.inr (.inr y))):=by
   intro t y ht;unfold zcg;rw [uB,zzY hk,sb,hu];simp only;rw [zjx (i:=0) (j:=(n:Int)) (a:=0) (b:=n) rfl rfl (xM _) g2,sb];simp only [xV,qB];rw [ht,sb];cases t with
   | false=>rw [uw];rfl
   | true=>rw [uy,zsD (a:=n) rfl rfl g2,sb];rfl
  simp only [go9] at h;cases hb:kb s (l.take n,0) with
  | none=>rw [hb] at h;cases h
  | some z=>
   rw [hb] at h;obtain ⟨t,ht,hcase⟩:=zEV hb;have hB:=hbody ht;rcases hcase with ⟨rfl,s',rfl⟩| ⟨rfl,r,rfl⟩
   ·obtain ⟨q,hq,hq'⟩:=ih s' o h;exact ⟨q,by rw [zrw hB];exact hq,hq'⟩
   ·have h':some (.inr r)=some o:=h;exact ⟨.inr (.inr r),zil hB,.inr (by rw [qb h'])⟩
theorem zGL {σ ρ:Type} (kb:σ->(List UInt8×Int)->Option (σ⊕ρ)) (k:Int) (b:List UInt8) {s:σ} {o:σ⊕ρ} (h:go9 kb (zjW k b).1 (zjW k b).2 s=some o):zfg k b (rnd kb) (.inl s)=some o:=by
 unfold zfg;rw [zAc,sb];unfold zjW at h;cases hk:kNum k with
 | false=>
  rw [hk,xz rfl] at h;have h':kb s ([],2)=some o:=h;obtain ⟨t,ht,_⟩:=zEV h';rw [zDQ hk,uw,ht,sb]
 | true=>
  rw [hk,xy (by simp)] at h;have hw:=zGM hk;obtain ⟨q,hq,hq'⟩:=zOd kb hk b s o h;rw [itF hw,hq,sb];rcases hq' with rfl| rfl<;>rfl
theorem zys (k:Int) (b:List UInt8):(zjW k b).2=(zcb k b).2/\((zcb k b).2=0->(zjW k b).1=(pcs k b).1)/\(∀p∈(zjW k b).1,zdw (zbm k) p=true/\1<=p.length/\p.length<=10)/\(zjW k b).1.length<=b.length/\((zjW k b).1=[]\/kNum k=true):=by
 unfold zjW zcb;by_cases hn:kNum k=false
 ·rw [xz hn,xz hn];exact ⟨rfl,fun h=>by simp at h,(fun p hp=>by cases hp),xM _,.inl rfl⟩
 ·have hk:kNum k=true:=by simpa using hn
  rw [xy hn,xy hn];refine ⟨?_,fun _=>rfl,zJB hk b,zGt k b,.inr hk⟩;by_cases h0:(pcs k b).2=0
  ·rw [xz h0];exact h0
  ·rw [xy h0]
theorem zDS (hk:kNum k=true) (c:Int):∀(ps:List (List UInt8)) (acc:List Int),(∀p∈ps,zdw (zbm k) p=true/\1<=p.length/\p.length<=10)->acc.length+ps.length<=1048576->
  go9 (fun (s:List Int) (x:List UInt8×Int)=>zev k s x.1 x.2) ps c acc=some (if c=0 then .inl (acc++ps.map (ziR k)) else .inr (c,acc++ps.map (ziR k)))
 | [],acc,_,hl=>by
  simp only [go9,yX,yq];by_cases h0:c=0
  ·rw [xz h0,xz h0]
  ·rw [xy h0,xy h0];unfold zev;rw [itT (by simpa using h0)]
 | p::ps,acc,hf,hl=>by
  simp only [xU] at hl;have h1:zev k acc p 0=some (.inl (acc++[ziR k p])):=by
   unfold zev;rw [uy,zJX,sb,znc hk (hf p xA).1,zem (by simp;omega),sb]
  simp only [go9,h1];rw [zDS hk c ps _ (fun q hq=>hf q (xB _ hq)) (by simp;omega)];simp
theorem zHK (k:Int) {b:List UInt8} (hb:b.length<=1048576):zod k b=some (zcb k b):=by
 obtain ⟨h1,h2,h3,h4,h5⟩:=zys k b;unfold zod zkr;rw [sb];simp only;have hgo:go9 (fun (s:List Int) (x:List UInt8×Int)=>zev k s x.1 x.2) (zjW k b).1 (zjW k b).2 []=some (if (zjW k b).2=0 then .inl ([]++(zjW k b).1.map (ziR k)) else .inr ((zjW k b).2,[]++(zjW k b).1.map (ziR k))):=by
  rcases h5 with h5| h5
  ·rw [h5];simp only [go9,yX,yq];by_cases h0:(zjW k b).2=0
   ·rw [xz h0,xz h0]
   ·rw [xy h0,xy h0];unfold zev;rw [itT (by simpa using h0)]
  ·exact zDS h5 _ _ _ h3 (by simp;omega)
 rw [zGL _ k b hgo,sb,h1];by_cases h0:(zcb k b).2=0
 ·rw [xz h0,h2 h0];simp only [xK];rw [<-(zvy h0).2.2,<-h0]
 ·rw [xy h0];simp only;rw [<-(zyx h0).1]
theorem zCg (c:Int):∀(ps:List (List UInt8)) (n:Nat),n+ps.length<=1048576->
  go9 (fun (s:Int) (x:List UInt8×Int)=>zfY s x.1 x.2) ps c (n:Int)=some (if c=0 then .inl ((n+ps.length:Nat):Int) else .inr (c,((n+ps.length:Nat):Int)))
 | [],n,hl=>by
  simp only [go9,yv,yF];by_cases h0:c=0
  ·rw [xz h0,xz h0]
  ·rw [xy h0,xy h0];unfold zfY;rw [itT (by simpa using h0)]
 | p::ps,n,hl=>by
  simp only [xU] at hl;have h1:zfY (n:Int) p 0=some (.inl ((n+1:Nat):Int)):=by
   unfold zfY;rw [uy,uD];rfl
  simp only [go9,h1];rw [zCg c ps (n+1) (by omega)];simp only [xU];rw [Nat.add_right_comm,qI]
theorem zHE (k:Int) {b:List UInt8} (hb:b.length<=1048576):zoc k b=some (((zcb k b).1.length:Int),(zcb k b).2):=by
 obtain ⟨h1,h2,h3,h4,h5⟩:=zys k b;unfold zoc zkr;rw [sb];simp only;have hgo:=zCg (zjW k b).2 (zjW k b).1 0 (by omega);rw [zGL (s:=(0:Int)) _ k b hgo,sb,h1];by_cases h0:(zcb k b).2=0
 ·rw [xz h0,h2 h0];simp only;rw [(zvy h0).2.2,h0];simp
 ·rw [xy h0];simp only;rw [(zyx h0).1];rfl
theorem zHx {k:Int} (hk:kNum k=true) {l:List Int} (h:∀w∈l,0<=w/\w<=18446744073709551615) (hl:l.length<=1048576):∀(d i:Nat),i+d=l.length->
  zjf k l ((l.take i).flatMap (sPut k)) i=some (l.flatMap (sPut k)):=by
 intro d
 induction d with
 | zero=>
  intro i hi;refine zvH ?_;unfold zfm;rw [uC,yG (by omega)]
 | succ d ih=>
  intro i hi;have wx:i<l.length:=by omega
  have hw:=h _ (xI wx);have wD:=zmA (k:=k) hw;have hpre:∀m:List Int,(∀w∈m,0<=w/\w<=18446744073709551615)->(m.flatMap (sPut k)).length<=10*m.length:=by
   intro m hm
   induction m with
   | nil=>simp
   | cons x m ihm=>
    have h1:=zmA (k:=k) (hm x xA);have h2:=ihm (fun w hw=>hm w (xB _ hw));simp only [xW,xF,xU];omega
  have hp:=hpre (l.take i) (fun w hw=>h w (List.mem_of_mem_take hw));have hti:(l.take i).length=i:=by rw [yu];omega
  have hb:zfm k l ((l.take i).flatMap (sPut k)) i=some (.inl ((l.take (i+1)).flatMap (sPut k),((i+1:Nat):Int))):=by
   unfold zfm;rw [uB,zal rfl wx,sb,zGB hw,sb,hk,xz rfl];simp only;rw [zem (by omega),sb,uD,qG wx,yV];simp
  rw [zvG hb];exact ih (i+1) (by omega)
theorem zJM (k:Int) {l:List Int} (h:∀w∈l,0<=w/\w<=18446744073709551615) (hl:l.length<=1048576):zqp k l=some (if kNum k then (l.flatMap (sPut k),0) else ([],2)):=by
 unfold zqp;rw [zAc,sb];cases hk:kNum k with
 | false=>rw [zDQ hk];rfl
 | true=>
  have hlp:=zHx hk h hl l.length 0 (by omega);have hlp':zjf k l [] 0=_:=hlp;rw [itF (zGM hk),hlp',sb,xz rfl]
abbrev PVw:=zh
def prV (v:Vw):PVw:=⟨v.R,v.Field,v.Run⟩
theorem zyv (m:Mes) (he:∀p c,e=some (p,c)->3<=c/\c<=5):∀(l:List Rec) (p c:Int),(vws m e l).2=some (p,c)->3<=c/\c<=6
 | [],p,c,h=>by
  cases e with
  | none=>cases h
  | some q=>
   simp only [vws,qz,yk,yE] at h;have:=he q.1 q.2 rfl;omega
 | r::l,p,c,h=>by
  rw [vws] at h;rcases zhR m r.Number r.Wire with hv| ⟨hv,_⟩| ⟨i,run,hv,_⟩
  ·simp only [hv,yk,yE] at h;omega
  ·simp only [hv] at h;exact zyv m he l p c h
  ·simp only [hv] at h;exact zyv m he l p c h
theorem zNf (b:List UInt8):∀p c,(spl 0 b).2=some (p,c)->3<=c/\c<=5:=fun p c h=>by
 have:=(zJW 0 b p c h).1;omega
theorem zuV (m:Mes) (b:List UInt8):(zgH m b).2.2=0/\(vws m (spl 0 b).2 (spl 0 b).1).2=none/\(zgH m b).1=(vws m (spl 0 b).2 (spl 0 b).1).1/\(zgH m b).2.1=0\/(3<=(zgH m b).2.2/\(zgH m b).2.2<=6)/\(zgH m b).1=[]:=by
 unfold zgH vwR;cases h:(vws m (spl 0 b).2 (spl 0 b).1).2 with
 | none=>exact .inl ⟨rfl,rfl,rfl,rfl⟩
 | some q=>exact .inr ⟨zyv m (zNf b) _ q.1 q.2 h,rfl⟩
theorem zyw :∀{l:List Rec},(vws m e l).2=none->e=none/\(vws m e l).1.map (·.R)=l
 | [],h=>by
  cases e with
  | none=>exact ⟨rfl,rfl⟩
  | some q=>simp [vws] at h
 | r::l,h=>by
  rw [vws] at h|-;rcases zhR m r.Number r.Wire with hv| ⟨hv,_⟩| ⟨i,run,hv,_⟩
  ·simp only [hv] at h;cases h
  ·simp only [hv] at h|-;have:=zyw h;exact ⟨this.1,by simp [this.2]⟩
  ·simp only [hv] at h|-;have:=zyw h;exact ⟨this.1,by simp [this.2]⟩
theorem zDK :∀{l:List Rec},∀v∈(vws m e l).1,v.R∈l/\vw m v.R.Number v.R.Wire= .inr (v.Field,v.Run)
 | [],v,h=>by cases h
 | r::l,v,h=>by
  rw [vws] at h;rcases zhR m r.Number r.Wire with hv| ⟨hv,_⟩| ⟨i,run,hv,_⟩
  ·simp only [hv] at h;cases h
  all_goals
   simp only [hv] at h;rcases xD.1 h with rfl| h
   ·exact ⟨xA,hv⟩
   ·have:=zDK v h;exact ⟨xB _ this.1,this.2⟩
theorem zLI (h:v∈(zgH m b).1):v.R∈(spl 0 b).1/\vw m v.R.Number v.R.Wire= .inr (v.Field,v.Run):=by
 rcases zuV m b with ⟨_,_,e,_⟩| ⟨_,e⟩
 ·rw [e] at h;exact zDK v h
 ·rw [e] at h;cases h
theorem zrp (t:zaA):zlS t=some (zcX t.Number t.Wire):=by
 have e:ziz t.Wire=some (decide (t.Wire=0\/t.Wire=1\/t.Wire=2\/t.Wire=5)):=by
  unfold ziz;by_cases h0:t.Wire=0
  ·simp [h0]
  by_cases h1:t.Wire=1
  ·simp [h1]
  by_cases h2:t.Wire=2
  ·simp [h2]
  by_cases h5:t.Wire=5
  ·simp [h5]
  simp [h0,h1,h2,h5]
 unfold zlS zcX;rw [e];by_cases h1:1<=t.Number
 ·by_cases h2:t.Number<=536870911
  ·rw [itT (by simpa using h1),itT (by simpa using h2),sb,sb];simp [h1,h2]
  ·rw [itT (by simpa using h1),itF (by simpa using h2),sb];simp [h2]
 ·rw [itF (by simpa using h1),sb];simp [h1]
theorem zNB (w:Nat) (h:w<18446744073709551616):andI .u64 (w:Int) 7=((w%8:Nat):Int):=by
 have e:=zBQ (k:= .u64) rfl (a:=w) (b:=7) (by simpa [IntKind.bits] using h) (by simp [IntKind.bits]);have e2:w&&&7=w%8:=ur w 3;rw [e2] at e;exact e
theorem zOa (w:Nat):shrI .u64 (w:Int) 3=((w/8:Nat):Int):=ztt (k:= .u64) (a:=w) (b:=3) (by simp [IntKind.bits])
theorem zKj (b:List UInt8):zqw b=some ((⟨(tg b).1,(tg b).2.1⟩:zaA),(tg b).2.2.1,(tg b).2.2.2):=by
 obtain ⟨h1,h2,h3,h4,h5,h6,h7⟩:=zjc b;unfold zqw tg;rw [zwq,sb];by_cases h:(rd b).2.2=0
 ·rw [itF (by simpa using h)];obtain ⟨w,hw⟩:∃w:Nat,(rd b).1=w:=⟨(rd b).1.toNat,by omega⟩;rw [hw] at h2|-;rw [zOa,zNB w (by omega)];have e0:i64.wrap ((w%8:Nat):Int)=(w:Int)%8:=by rw [uD];omega
  by_cases hg:4294967295<w
  ·have e1:i64.wrap (if (536870912:Int)<((w/8:Nat):Int) then 536870912 else ((w/8:Nat):Int))=536870912:=by
    split
    ·rfl
    ·rw [uD];omega
   rw [e0,e1,zrp,sb];have e2:zcX 536870912 ((w:Int)%8)=false:=by simp [zcX]
   simp only [e2];rw [uw,zyh h (.inl (by rw [hw];omega))]
  ·have e1:i64.wrap (if (536870912:Int)<((w/8:Nat):Int) then 536870912 else ((w/8:Nat):Int))=(w:Int)/8:=by
    rw [xy (by omega),uD];omega
   rw [e0,e1,zrp,sb];simp only;cases ht:zcX ((w:Int)/8) ((w:Int)%8)
   ·rw [uw,zyh h (.inr (by rw [hw];exact ht))]
   ·rw [uy,zFh h (by rw [hw,ht];simp;omega),hw]
 ·rw [itT (by simpa using h),zGF h]
theorem zNp {t:zaA} (h:zcX t.Number t.Wire=true):zqx t=some ((tW t.Number t.Wire:Nat):Int):=by
 have hr:=zeW.1 h;obtain ⟨e,wx⟩:=zyf h;unfold zqx;congr 1;obtain ⟨n,hn⟩:∃n:Nat,t.Number=n:=⟨t.Number.toNat,by omega⟩;obtain ⟨w,hw⟩:∃w:Nat,t.Wire=w:=⟨t.Wire.toNat,by omega⟩;have e3:tW t.Number t.Wire=8*n+w:=by omega
 rw [e3,hn,hw,wrap_u64,wrap_u64,qm (by omega) (by omega),qm (by omega) (by omega)];have e4:shlI .u64 (n:Int) 3=((n*8:Nat):Int):=by
  have h3:shlI .u64 (n:Int) 3=((n*8%18446744073709551616:Nat):Int):=by
   simp [shlI,IntKind.bits,wrap_u64]
  rw [h3,qx (by omega)]
 rw [e4,zwi rfl (by simp [IntKind.bits];omega) (by simp [IntKind.bits];omega),pC,zxE w n 3 (by omega)];congr 1;omega
theorem zLF {t:zaA} (b:List UInt8) (hb:b.length<=1099511627776) (h:zcX t.Number t.Wire=true):zoZ b t=some (b++enc (tW t.Number t.Wire),0):=by
 obtain ⟨_,wx⟩:=zyf h;unfold zoZ;rw [zrp,sb,h,uy,zNp h,sb,zER b (by omega) hb,sb]
theorem zLG {t:zaA} (b:List UInt8) (h:zcX t.Number t.Wire=false):zoZ b t=some ([],2):=by
 unfold zoZ;rw [zrp,sb,h,uw]
theorem zGA (hw:w=0\/w=1\/w=2\/w=5) (hb:b.length<=1048576):
  zjd w b=some (match zfR w 0 b with| .inl c=>(0,(if w=0 then (rd b).2.1 else 0),c)| .inr (a,t)=>((a:Int),(t:Int),0)):=by
 obtain ⟨h1,h2,h3,h4,h5,h6,h7⟩:=zjc b;unfold zjd zfR;rcases hw with rfl| rfl| rfl| rfl
 ·rw [uw,zGz,sb,xz rfl];by_cases h:(rd b).2.2=0
  ·rw [xy (by simpa using h)];simp only [h,xO];congr 3;simp;omega
  ·rw [xz h];rfl
 ·rw [uy,uw,sb,uy,xy (show ¬((1:Int)=0) by omega),xy (show ¬((1:Int)=2) by omega)];simp only;have e:u64.wrap (i64.wrap ((b.length:Int) - 0))=(b.length:Int):=by rw [uD,wrap_u64];omega
  rw [e];by_cases g:b.length<8
  ·rw [uB,xz (by simpa using g)];rfl
  ·rw [uC,xy (by simpa using g)];rfl
 ·rw [uy,uy,uy,uw,zwq,sb,sb,xy (show ¬((2:Int)=0) by omega),xz (show (2:Int)=2 from rfl)];by_cases h:(rd b).2.2=0
  ·have hk:=h7 h;rw [itF (by simpa using h),xy (show ¬((rd b).2.2≠0) from fun g=>g h)];simp only;have e:u64.wrap (i64.wrap ((b.length:Int) - (rd b).2.1))=(b.length:Int) - (rd b).2.1:=by rw [uD,wrap_u64];omega
   rw [e];by_cases g:(b.length:Int) - (rd b).2.1<(rd b).1
   ·rw [itT (by simpa using g),xz g];rfl
   ·rw [itF (by simpa using g),xy g,zC (x:=(rd b).1) (by omega),uD];simp;omega
  ·rw [itT (by simpa using h),xz h];rfl
 ·rw [uy,uy,uw,sb,uy,xy (show ¬((5:Int)=0) by omega),xy (show ¬((5:Int)=2) by omega)];simp only;have e:u64.wrap (i64.wrap ((b.length:Int) - 0))=(b.length:Int):=by rw [uD,wrap_u64];omega
  rw [e];by_cases g:b.length<4
  ·rw [uB,xz (by simpa using g)];rfl
  ·rw [uC,xy (by simpa using g)];rfl
theorem zBX (w:Int) (k:Nat) (m:List UInt8):zfR w k m=match zfR w 0 m with| .inl c=> .inl c| .inr (a,t)=> .inr (k+a,k+t):=by
 unfold zfR
 repeat' split
 all_goals first
  | rfl
  | (rename_i h1 h2;injection h2 with h3;injection h3 with h4 h5;subst h4 h5;simp<;>omega)
  | simp_all<;>omega
theorem zBk (hb:b.length<=1048576) (at5:Int):zhJ b at5=some (zfW b at5):=by
 unfold zhJ zfW;by_cases h:at5<0\/at5>=b.length
 ·rw [itT (by simpa using h),xz h];rfl
 ·rw [itF (by simpa using h),xy h];obtain ⟨p,rfl⟩:∃p:Nat,at5=p:=⟨at5.toNat,by omega⟩;rw [zsD rfl rfl (by omega),sb,zKj,sb,xN];have hdl:(b.drop p).length=b.length - p:=by simp
  rcases zDy (b.drop p) with ⟨c,ht,hc⟩| ⟨n,w,k,ht,hr,k1,k2,k3,hrd⟩
  ·have e:rec5 (b.drop p)= .inl c:=by unfold rec5;rw [ht,xz (by simp only;omega)]
   rw [e,ht,uB];rfl
  ·obtain ⟨k,rfl⟩:∃j:Nat,k=j:=⟨k.toNat,by omega⟩
   have e:rec5 (b.drop p)=match zfR w k ((b.drop p).drop k) with
    | .inl c=> .inl c
    | .inr p=> .inr (n,w,p.1,p.2):=by unfold rec5;rw [ht];simp<;>rfl
   have hdd:(b.drop p).drop k=b.drop (p+k):=by rw [yB]
   have hml:(b.drop (p+k)).length=b.length - (p+k):=by simp
   have ew:i64.wrap ((p:Int)+k)=((p+k:Nat):Int):=by rw [uD];push_cast;rfl
   rw [e,ht,uA,hdd];simp only [ew];rw [zsD rfl rfl (by omega),sb,zGA (zeW.1 hr).2.2 (by omega),sb,zBX w k];rcases zkL w 0 (b.drop (p+k)) with ⟨c,hc,hc2⟩| ⟨a,t,hc,_,_,hle,_⟩
   ·rw [hc];simp only;rw [uB];rfl
   ·rw [hc];simp only;rw [uy,uD,uD];simp only [yk,yE,zu.mk.injEq,yZ,qR];push_cast;omega
theorem zKO {w:Int} {v:List UInt8} (hw:w=0\/w=1\/w=2\/w=5) (hv:v.length<=1048576):zkV w v=some (zdw w v):=by
 obtain ⟨h1,h2,h3,h4,h5,h6,h7⟩:=zjc v;unfold zkV;by_cases h:w=2
 ·rw [itT (by simpa using h)];subst h;rfl
 ·rw [itF (by simpa using h),zGA hw hv,sb];unfold zfR zdw;congr 1;rcases hw with rfl| rfl| rfl| rfl
  ·rw [xz rfl,xz rfl];by_cases hg:(rd v).2.2=0
   ·rw [xy (by simpa using hg)];have e:(((0+(rd v).2.1.toNat:Nat):Int)==(v.length:Int))=decide ((rd v).2.1=v.length):=by rw [zFx];exact decide_eq_decide.2 (by omega)
    simp only [e,hg,yZ];rfl
   ·rw [xz hg];simp [hg]
  ·by_cases g:v.length<8
   ·have:v.length≠8:=by omega
    simp [g,this]
   ·by_cases g8:v.length=8
    ·simp [g8]
    ·have:¬((8:Int)=v.length):=by omega
     simp [g,g8,this]
  ·exact absurd rfl h
  ·by_cases g:v.length<4
   ·have:v.length≠4:=by omega
    simp [g,this]
   ·by_cases g8:v.length=4
    ·simp [g8]
    ·have:¬((4:Int)=v.length):=by omega
     simp [g,g8,this]
theorem zJE {n w:Int} {v:List UInt8} (h:zcX n w=true) (hv:v.length<=1048576):(put5 n w v).length<=v.length+20:=by
 obtain ⟨_,wx⟩:=zyf h;have h1:=znl (v:=tW n w) (by omega);have h2:=znl (v:=v.length) (by omega);rw [zjD];split<;>omega
theorem zGx {b v:List UInt8} {n w:Int} (hb:b.length<=1048576) (hv:v.length<=1048576):
  zkp b n w v=some (if zcX n w=true/\zdw w v=true then (b++put5 n w v,0) else ([],2)):=by
 unfold zkp;cases h:zcX n w
 ·rw [zLG [] h,sb,uw,sb,uw];rfl
 ·have hp:=zJE h hv;rw [zLF [] (by simp) h,sb,uy,zKO (zeW.1 h).2.2 hv,sb,sb];cases hf:zdw w v
  ·rw [uw];rfl
  ·rw [uy];have e:u64.wrap (v.length:Int)=(v.length:Int):=by rw [wrap_u64,qm (by omega) (by omega)]
   obtain ⟨_,wx⟩:=zyf h;have h1:=znl (v:=tW n w) (by omega);by_cases hw:w=2
   ·have hl:=zjD n w v;rw [xz hw] at hl;rw [itT (by simpa using hw),e,zER _ (by omega) (by simp;omega),sb,znH (by simp) (by simp;omega),sb];simp [put5,hw]
   ·have hl:=zjD n w v;rw [xy hw] at hl;rw [itF (by simpa using hw),znH (by simp) (by simp;omega),sb];simp [put5,hw]
theorem zLt {b v:List UInt8} {n:Int} (hb:b.length<=1048576) (hv:v.length<=1048576):
  zmt b n v=some (if zcX n 2=true then b++put5 n 2 v else b):=by
 unfold zmt;rw [zGx hb hv,sb];have hf:zdw 2 v=true:=rfl;simp only [hf,qR];cases h:zcX n 2
 ·rw [xy (show ¬(false=true) by simp),xy (show ¬(false=true) by simp),uw,znH (by simp) (by simp;omega),sb];simp
 ·rw [xz rfl,xz rfl,uy]
abbrev Head:=zab
abbrev Role:=zaf
def rol (m:Mes) (h:Head):Role:=match vw m h.number h.wire with
 | .inl c=>⟨0,false,c⟩
 | .inr (i,run)=>⟨i,run,0⟩
theorem zIa (hm:m.Fields.length<=1152921504606846976) (n:Int):zmH m n=some (fldI m n):=by
 unfold zmH zaN;have h:=zuc (fun f:Fld=>f.Number==n) m.Fields (fun i=>zaj m.Fields n i) (zbY (by unfold zO;rw [uA])) (fun i hi=>by
  by_cases hp:(m.Fields[i].Number==n)=true
  ·rw [xz hp];exact zbY (by unfold zO zjM;rw [uB,zal rfl hi,sb,sb,itT hp])
  ·rw [xy hp];exact zed (by unfold zO zjM;rw [uB,zal rfl hi,sb,sb,itF (pl hp),uD];rfl)) m.Fields.length 0 (by omega) (fun j _ h=>by omega)
 have h':zaj m.Fields n 0=_:=h;rw [h',sb];unfold fldI ziI;cases m.Fields.findIdx? (fun f:Fld=>f.Number==n) with
 | none=>rfl
 | some i=>rfl
theorem zIb (f:Fld) (w:Int):zmI f w=some (decide (f.Repeated=true/\kNum f.Kind=true/\w=2)):=by
 unfold zmI;cases f.Repeated
 ·simp [sb]
 ·by_cases hw:w=2
  ·subst hw;rw [itT rfl,itT (c:=(2:Int)==2) rfl,zxi,sb,sb];cases kNum f.Kind<;>rfl
  ·rw [itT rfl,itF (by simpa using hw),sb];simp [hw]
theorem zKp (k w:Int):zor k w=some (decide (¬(zcw k=false\/zbm k≠w))):=by
 unfold zor;rw [zCN,sb];cases zcw k with
 | false=>rfl
 | true=>
  by_cases h:zbm k=w<;>simp [h]
theorem zFn (hm:m.Fields.length<=1152921504606846976) (h:Head):zjl m h=some (rol m h):=by
 unfold zjl rol;rw [zIa hm,sb];unfold vw;rcases zdK m h.number with ⟨hf,_⟩| ⟨i,hi,hf,_⟩
 ·rw [hf,uw,xz (by decide)]
 ·rw [hf,uA,xy (by omega),zal rfl hi,sb,zdJ hi,zIb,sb];by_cases h1:(m.Fields[i]).Repeated=true/\kNum (m.Fields[i]).Kind=true/\h.wire=2
  ·rw [xz h1,xT h1];rfl
  ·rw [xy h1,ye h1,uw,zKp,sb,sb];by_cases h2:zcw (m.Fields[i]).Kind=false\/zbm (m.Fields[i]).Kind≠h.wire
   ·rw [xz h2,itT (by rw [ye (fun g=>g h2)];rfl)]
   ·rw [xy h2,itF (by rw [xT h2];rfl)]
def zpe (m:Mes) (met:List (Head×Role)):Prop:=∀h x,mget met h=some x->x=rol m h
theorem zpe.nil (m:Mes):zpe m []:=fun h x g=>by cases g
theorem zpe.put (g:zpe m met) (h:Head):zpe m (mput met h (rol m h)):=fun j x hx=>by
 rw [zjb] at hx;by_cases e:j=h
 ·rw [xz e] at hx;rw [e];exact (qb hx).symm
 ·rw [xy e] at hx;exact g j x hx
theorem zxr (hm:m.Fields.length<=1152921504606846976) (hb:b.length<=1048576) (p:Int) (g:zpe m met):
  ∃wN,zlU m b p met=some (prV (zfJ m b p).1,(zfJ m b p).2,wN)/\zpe m wN:=by
 unfold zlU zfJ;rw [zBk hb,sb];by_cases h:(zfW b p).2=0
 ·rw [itF (by simpa using h),xy (show ¬((zfW b p).2≠0) from fun q=>q h)]
  generalize (zfW b p).1=r
  have key:∃wN,(if (!(mget met (⟨r.Number,r.Wire⟩:Head)).isSome) then (zjl m (⟨r.Number,r.Wire⟩:Head)>>=fun wu=>some ((mput met (⟨r.Number,r.Wire⟩:Head) wu),wu.field,wu.run,wu.e))
    else some (met,((mget met (⟨r.Number,r.Wire⟩:Head)).getD (⟨0,false,0⟩:Role)).field,((mget met (⟨r.Number,r.Wire⟩:Head)).getD (⟨0,false,0⟩:Role)).run,((mget met (⟨r.Number,r.Wire⟩:Head)).getD (⟨0,false,0⟩:Role)).e))=some (wN,(rol m ⟨r.Number,r.Wire⟩).field,(rol m ⟨r.Number,r.Wire⟩).run,(rol m ⟨r.Number,r.Wire⟩).e)/\zpe m wN:=by
   cases hg:mget met (⟨r.Number,r.Wire⟩:Head) with
   | none=>
    rw [uw,zFn hm,sb];exact ⟨_,rfl,g.put _⟩
   | some x=>
    rw [uy];refine ⟨met,?_,g⟩;rw [<-g _ x hg];rfl
  obtain ⟨wN,hk,hM⟩:=key;refine ⟨wN,?_,hM⟩;rw [hk,sb];unfold rol;rcases zhR m r.Number r.Wire with hv| ⟨hv,_⟩| ⟨i,run,hv,_⟩
  ·simp only [hv];rfl
  ·simp only [hv];rfl
  ·simp only [hv];rfl
 ·rw [itT (by simpa using h),xz h];exact ⟨met,rfl,g⟩
theorem zKq (hm:m.Fields.length<=1152921504606846976) (hb:b.length<=1048576) (p:Int):zoq m b p=some (prV (zfJ m b p).1,(zfJ m b p).2):=by
 obtain ⟨wN,h,_⟩:=zxr hm hb p (zpe.nil m);unfold zoq;rw [h,sb]
theorem zHX (hm:m.Fields.length<=1152921504606846976) (hb:b.length<=1048576) (base:Nat) (l:List UInt8):∀(out:List Vw) (met:List (Head×Role)),base<=b.length->l=b.drop base->out.length<=base->zpe m met->
  zhQ b m (out.map prV) met base=some (match (vws m (spl base l).2 (spl base l).1).2 with| none=> .inl ((out++(vws m (spl base l).2 (spl base l).1).1).map prV)| some (p,c)=> .inr (p,c)):=by
 refine zkF (fun base l=>∀(out:List Vw) (met:List (Head×Role)),base<=b.length->l=b.drop base->out.length<=base->zpe m met->
  zhQ b m (out.map prV) met base=some (match (vws m (spl base l).2 (spl base l).1).2 with| none=> .inl ((out++(vws m (spl base l).2 (spl base l).1).1).map prV)| some (p,c)=> .inr (p,c))) ?_ ?_ ?_ base l
 ·intro base out met hbase hl ho hM;have:b.length<=base:=by have:=congrArg List.length hl;simp at this;omega
  rw [zgV];simp only [vws,p6,yq];refine zlp ?_;unfold zec;rw [uC]
 ·intro base l c hl h hc out met hbase hld ho hM;subst hld;have wx:base<b.length:=by have:=qF.2 hl;simp at this;omega
  rw [zjJ hl h];simp only [vws,qz];refine zlp ?_;unfold zec;have e:zfW b base=(zrec,c):=by unfold zfW;rw [xy (by omega),xN,h]
  have e2:zfJ m b base=(zvw,c):=by unfold zfJ;rw [e,xz (by simp only;omega)]
  obtain ⟨wN,hk,_⟩:=zxr hm hb base hM;rw [uB,hk,sb,e2,uB]
 ·intro base l n w a t hl h _ g1 g2 g3 ih out met hbase hld ho hM;subst hld;simp only [yl] at g3;have wx:base<b.length:=by omega
  rw [zfA hl h];have e:zfW b base=(⟨n,w,base,(base+a:Nat),(base+t:Nat)⟩,0):=by
   unfold zfW;rw [xy (by omega),xN,h];push_cast;rfl
  rw [vws];obtain ⟨wN,hk,hM'⟩:=zxr hm hb base hM;rcases zhR m n w with hv| ⟨hv,_⟩| ⟨i,run,hv,_,hi⟩
  ·have e2:zfJ m b base=(zvw,6):=by unfold zfJ;rw [e];simp only [ne_eq,qn,yH,hv]
   simp only [hv];refine zlp ?_;unfold zec;rw [uB,hk,sb,e2,uw]
  ·have e2:zfJ m b base=(⟨⟨n,w,base,(base+a:Nat),(base+t:Nat)⟩, -1,false⟩,0):=by unfold zfJ;rw [e];simp only [ne_eq,qn,yH,hv]
   simp only [hv];refine (zpm (l':=(out++([⟨⟨n,w,base,(base+a:Nat),(base+t:Nat)⟩, -1,false⟩]:List Vw)).map prV) (wN:=wN) (fromv':=((base+t:Nat):Int)) ?_).trans ?_
   ·unfold zec;rw [uB,hk,sb,e2,uy,zem (by simp;omega),sb,yx];rfl
   ·rw [ih _ wN (by omega) (by rw [yB]) (by simp;omega) hM'];simp only [yp,pJ]
  ·have e2:zfJ m b base=(⟨⟨n,w,base,(base+a:Nat),(base+t:Nat)⟩,i,run⟩,0):=by unfold zfJ;rw [e];simp only [ne_eq,qn,yH,hv]
   simp only [hv];refine (zpm (l':=(out++([⟨⟨n,w,base,(base+a:Nat),(base+t:Nat)⟩,i,run⟩]:List Vw)).map prV) (wN:=wN) (fromv':=((base+t:Nat):Int)) ?_).trans ?_
   ·unfold zec;rw [uB,hk,sb,e2,uy,zem (by simp;omega),sb,yx];rfl
   ·rw [ih _ wN (by omega) (by rw [yB]) (by simp;omega) hM'];simp only [yp,pJ]
theorem zLM (hm:m.Fields.length<=1152921504606846976) (hb:b.length<=1048576):zqG m b=some ((zgH m b).1.map prV,(zgH m b).2.1,(zgH m b).2.2):=by
 unfold zqG;have h:=zHX hm hb 0 b [] [] (xM _) rfl (xE _) (zpe.nil m);have h':zhQ b m [] [] 0=_:=h;rw [h',sb];unfold zgH vwR;cases (vws m (spl 0 b).2 (spl 0 b).1).2 with
 | none=>rfl
 | some p=>rfl
theorem zLH (m:Mes) (b:List UInt8):(zgH m b).1.length<=b.length:=by
 rcases zuV m b with ⟨_,hn,e,_⟩| ⟨_,e⟩
 ·have h:=congrArg List.length (zyw hn).2;rw [yS] at h;rw [e,h];exact zLz 0 b
 ·rw [e];simp
def zpk (m:Mes) (g:Int->List UInt8->Nat) (b:List UInt8) (r:Rec):Nat:=match vw m r.Number r.Wire with
 | .inl _=>0
 | .inr (i,run)=>if i<0\/run=true then 0 else if (zJ m i).Kind=17 then g (zJ m i).Of (valB b r)+1 else 0
def zmX (m:Mes) (g:Int->List UInt8->Nat) (b:List UInt8):List Rec->Nat
 | []=>0
 | r::l=>max (zpk m g b r) (zmX m g b l)
def zke (s:List Mes):Nat->Int->List UInt8->Nat
 | 0,k,b=>zmX (zz s k) (fun _ _=>0) b (spl 0 b).1
 | d+1,k,b=>zmX (zz s k) (zke s d) b (spl 0 b).1
theorem zsQ :∀{l:List Rec},zmX m g b l<=e↔∀r∈l,zpk m g b r<=e
 | []=>by simp [zmX]
 | r::l=>by
  have ih:=zsQ (m:=m) (g:=g) (b:=b) (e:=e) (l:=l);unfold zmX;rw [List.forall_mem_cons,<-ih];omega
theorem zrm (h:zep m a b r=none) (hc0:c=none↔e=0)
  (hc:∀q,a=some q->∀q',c=some q'->∀k v,q k v=none->(q' k v=none↔g k v+1<=e)):zep m c b r=none↔zpk m g b r<=e:=by
 unfold zep at h|-;unfold zpk;cases hv:vw m r.Number r.Wire with
 | inl x=>rw [hv] at h;cases h
 | inr p=>
  obtain ⟨i,run⟩:=p;rw [hv] at h;simp only at h|-;by_cases hi:i<0
  ·rw [xz hi,xz (.inl hi)];simp
  ·rw [xy hi] at h|-;unfold ziJ at h|-;by_cases hr:run=true
   ·rw [xz hr] at h;rw [xz hr,xz (show i<0\/run=true from .inr hr)];exact ⟨fun _=>xM _,fun _=>h⟩
   ·rw [xy hr] at h|-;rw [xy (show ¬(i<0\/run=true) from fun q=>q.elim hi hr)];by_cases h15:(zJ m i).Kind=15/\zhs (valB b r)=false
    ·rw [xz h15] at h;cases h
    ·rw [xy h15] at h|-;by_cases wz:(zJ m i).Kind=17
     ·rw [xz wz] at h|-;rw [xz wz];cases a with
      | none=>cases h
      | some q=>
       simp only at h;cases hq:q (zJ m i).Of (valB b r) with
       | some z=>rw [hq] at h;cases h
       | none=>
        cases c with
        | none=>
         have:=hc0.1 rfl;simp only;exact ⟨(fun hh=>nomatch hh),(fun hh=>by omega)⟩
        | some q'=>
         have:=hc q rfl q' rfl _ _ hq;simp only;rw [<-this];cases q' (zJ m i).Of (valB b r)<;>simp
     ·rw [xy wz,xy wz];simp
theorem zCj (s:List Mes):∀(d e:Nat) (k:Int) (b:List UInt8),e<=d->zav s d k b=none->(zav s e k b=none↔zke s d k b<=e)
 | 0,e,k,b,he,h=>by
  have:e=0:=by omega
  subst this;refine ⟨fun _=>zsQ.2 (fun r hr=>?_),fun _=>h⟩;have h':=(zfo.1 h).1 r hr;exact (zrm (a:=none) (c:=none) h' (by simp) (fun q hq q' hq'=>nomatch hq')).1 h'
 | d+1,0,k,b,he,h=>by
  have h':zeF (zz s k) (some (zav s d)) b (spl 0 b)=none:=h;rw [zfo] at h';show zeF (zz s k) none b (spl 0 b)=none↔zmX _ _ _ _<=0;rw [zfo,zsQ];constructor
  ·intro hh r hr;exact (zrm (a:=some (zav s d)) (c:=none) (h'.1 r hr) (by simp) (fun q hq q' hq'=>nomatch hq')).1 (hh.1 r hr)
  ·intro hh;exact ⟨fun r hr=>(zrm (a:=some (zav s d)) (c:=none) (h'.1 r hr) (by simp) (fun q hq q' hq'=>nomatch hq')).2 (hh r hr),h'.2⟩
 | d+1,e+1,k,b,he,h=>by
  have h':zeF (zz s k) (some (zav s d)) b (spl 0 b)=none:=h;rw [zfo] at h';show zeF (zz s k) (some (zav s e)) b (spl 0 b)=none↔zmX _ _ _ _<=e+1;rw [zfo,zsQ];have key:∀r∈(spl 0 b).1,zep (zz s k) (some (zav s e)) b r=none↔zpk (zz s k) (zke s d) b r<=e+1:=fun r hr=>
   zrm (a:=some (zav s d)) (h'.1 r hr) (by simp) (fun q hq q' hq' k v hk=>by
    cases hq;cases hq';have:=zCj s d e k v (by omega) hk;rw [this];omega)
  exact ⟨fun hh r hr=>(key r hr).1 (hh.1 r hr),fun hh=>⟨fun r hr=>(key r hr).2 (hh r hr),h'.2⟩⟩
abbrev zjZ:=zm
def zhu (s:List Mes) (met:List (zjZ×PVw)):Prop:=∀h x,mget met h=some x->vw (zz s h.message) h.number h.wire= .inr (x.Field,x.Run)
theorem zhu.nil (s:List Mes):zhu s []:=fun h x g=>by cases g
theorem zhu.put (g:zhu s met) (hv:vw (zz s h.message) h.number h.wire= .inr (v.Field,v.Run)):zhu s (mput met h v):=fun j x hx=>by
 rw [zjb] at hx;by_cases e:j=h
 ·rw [xz e] at hx;cases hx;rw [e];exact hv
 ·rw [xy e] at hx;exact g j x hx
theorem zDR {s:List Mes} {k:Nat} (hk:k<s.length) (hm:(zz s k).Fields.length<=1152921504606846976) {b:List UInt8} (hb:b.length<=1048576) (p:Int) {t:Nat} (ht:t<=b.length) {met:List (zjZ×PVw)} (g:zhu s met):
  ∃wN,zhh ⟨s,b,met⟩ k p t=some (prV (zfJ (zz s k) (b.take t) p).1,(zfJ (zz s k) (b.take t) p).2,wN)/\zhu s wN:=by
 have hbt:(b.take t).length<=1048576:=by rw [yu];omega
 have hcut:cut b 0 (t:Int)=some (b.take t):=by
  rw [zjx (i:=0) (j:=t) rfl rfl (xM _) ht];simp
 have hidx:idx s (k:Int)=some (zz s k):=by rw [zal rfl hk,zeG hk]
 have hvl:=zKq hm hbt p;unfold zhh;simp only;rw [hcut,sb,zBk hbt,sb];unfold zfJ at hvl|-;by_cases h:(zfW (b.take t) p).2=0
 ·rw [itF (by simpa using h),xy (show ¬((zfW (b.take t) p).2≠0) from fun q=>q h)];rw [xy (show ¬((zfW (b.take t) p).2≠0) from fun q=>q h)] at hvl
  generalize (zfW (b.take t) p).1=r at hvl|-
  cases hg:mget met (⟨(k:Int),r.Number,r.Wire⟩:zjZ) with
  | none=>
   rw [uw,hidx,sb,hvl,sb];cases hv:vw (zz s k) r.Number r.Wire with
   | inl c=>
    have hc:c=6:=by
     rcases zhR (zz s k) r.Number r.Wire with h'| ⟨h',_⟩| ⟨_,_,h',_⟩<;>rw [hv] at h'<;>cases h';rfl
    subst hc;exact ⟨met,by rw [uw];rfl,g⟩
   | inr q=>
    obtain ⟨i,run⟩:=q;refine ⟨_,?_,g.put (h:=⟨(k:Int),r.Number,r.Wire⟩) (v:=prV ⟨r,i,run⟩) hv⟩;rw [uy];rfl
  | some x=>
   have hv:=g _ _ hg;simp only at hv;rw [uy,hv];exact ⟨met,rfl,g⟩
 ·rw [itT (by simpa using h),xz h];exact ⟨met,rfl,g⟩
def zpK (f:Fld) (run:Bool) (v:List UInt8):Int:=if run=true then (zmU f.Kind v).2 else if f.Kind=15/\zhs v=false then 7 else if f.Kind=17 then 8 else 0
theorem zHZ (f:Fld) (run:Bool) (hv:v.length<=1048576):zlh f run v=some (zpK f run v):=by
 unfold zlh zpK;cases run
 ·rw [itF (c:=false) rfl,xy (show ¬(false=true) by simp)];have e15:(if (f.Kind==15)=true then (zkx v>>=fun wu=>some (!wu)) else some false)=some (decide (f.Kind=15/\zhs v=false)):=by
   rw [zuP (by omega),sb];by_cases h15:f.Kind=15
   ·rw [itT (by simpa using h15)];cases zhs v<;>simp [h15]
   ·rw [itF (by simpa using h15)];simp [h15]
  rw [e15,sb];by_cases h15:f.Kind=15/\zhs v=false
  ·rw [itT (xT h15),xz h15]
  ·rw [itF (ye h15),xy h15];by_cases wz:f.Kind=17
   ·rw [itT (by simpa using wz),xz wz]
   ·rw [itF (by simpa using wz),xy wz]
 ·rw [itT (c:=true) rfl,xz (show true=true from rfl),zHE _ hv,sb];unfold zcb zmU;split
  ·rfl
  ·split<;>rfl
abbrev Find:=zE
def okR (o:Option (Int×Int)) (a dp:Nat) (r:Find):Prop:=match o with
 | none=>r=⟨(dp:Int),0,0⟩
 | some (p,c)=>r.place=(a:Int)+p/\r.e=c
def zye (s:List Mes):Nat->znB
 | 0=>none
 | d+1=>some (zav s d)
def ztZ (s:List Mes):Nat->Int->List UInt8->Nat
 | 0=>fun _ _=>0
 | d+1=>zke s d
theorem zHd (s:List Mes) (d:Nat) (k:Int) (b:List UInt8):zav s d k b=zeF (zz s k) (zye s d) b (spl 0 b):=by cases d<;>rfl
theorem zKJ (s:List Mes) (d:Nat) (k:Int) (b:List UInt8):zke s d k b=zmX (zz s k) (ztZ s d) b (spl 0 b).1:=by cases d<;>rfl
theorem zKd (s:List Mes) (d:Nat):∀g,zye s d=some g->zwu g:=fun g h=>by
 cases d with
 | zero=>cases h
 | succ d=>cases h;exact zoH s d
theorem zLn (b:List UInt8) (t a x y:Nat) (h:a+y<=t):(((b.take t).drop a).drop x).take (y - x)=(b.take (a+y)).drop (a+x):=by
 rw [yB,qQ,qQ,pB];congr 1;omega
theorem zIe {s:List Mes} {k:Nat} (hk:k<s.length) (hm:(zz s k).Fields.length<=1152921504606846976) {b:List UInt8} (hb:b.length<=1048576) {d:Int} {a t:Nat} (hat:a<=t) (ht:t<=b.length) {sub:znB} {gd:Int->List UInt8->Nat}
  (hg:∀g,sub=some g->zwu g) {recv:zaJ->Int->zh->Int->Option (zE×(List (zm×zh)))} {met0:List (zjZ×PVw)}
  (hval:∀met,zhu s met->∀(n w i:Int) (run:Bool) (base x y:Nat),vw (zz s k) n w= .inr (i,run)->1<=x->x<=y->a+base+y<=t->
   ∃R wN,recv ⟨s,b,met⟩ k ⟨⟨n,w,((a+base:Nat):Int),((a+(base+x):Nat):Int),((a+(base+y):Nat):Int)⟩,i,run⟩ d=some (R,wN)/\zhu s wN/\
    okR (zep (zz s k) sub ((b.take t).drop a) ⟨n,w,base,(base+x:Nat),(base+y:Nat)⟩) a (zpk (zz s k) gd ((b.take t).drop a) ⟨n,w,base,(base+x:Nat),(base+y:Nat)⟩) R)
  (base:Nat) (l:List UInt8):∀(met:List (zjZ×PVw)) (dp:Nat),zhu s met->l=((b.take t).drop a).drop base->base<=t - a->
  ∃wN D,zhu s wN/\zcF d k recv t ⟨s,b,met0⟩ met ((a+base:Nat):Int) dp=some (match zeF (zz s k) sub ((b.take t).drop a) (spl base l) with
   | none=> .inl (wN,((max dp (zmX (zz s k) gd ((b.take t).drop a) (spl base l).1):Nat):Int))
   | some (p,c)=> .inr (wN,D,(a:Int)+p,c)):=by
 have hvl:((b.take t).drop a).length=t - a:=by simp;omega
 generalize hvv:(b.take t).drop a=v at hval hvl|-
 refine zkF (fun base l=>∀(met:List (zjZ×PVw)) (dp:Nat),zhu s met->l=v.drop base->base<=t - a->
  ∃wN D,zhu s wN/\zcF d k recv t ⟨s,b,met0⟩ met ((a+base:Nat):Int) dp=some (match zeF (zz s k) sub v (spl base l) with
   | none=> .inl (wN,((max dp (zmX (zz s k) gd v (spl base l).1):Nat):Int))
   | some (p,c)=> .inr (wN,D,(a:Int)+p,c))) ?_ ?_ ?_ base l
 ·intro base met dp g hl hbase;have:v.length<=base:=by have:=congrArg List.length hl;simp at this;omega
  refine ⟨met,0,g,?_⟩;rw [zgV];refine zef ?_;unfold zaU;rw [uC];simp [zeF,zmX]
 ·intro base l c hl h hc met dp g hld hbase;have wx:a+base<t:=by have:=qF.2 hl;rw [hld] at this;simp at this;omega
  have hdr:(b.take t).drop (a+base)=l:=by rw [hld,<-hvv,yB]
  have e:zfW (b.take t) ((a+base:Nat):Int)=(zrec,c):=by unfold zfW;rw [xy (by simp;omega),xN,hdr,h]
  have e2:zfJ (zz s k) (b.take t) ((a+base:Nat):Int)=(zvw,c):=by unfold zfJ;rw [e,xz (by simp only;omega)]
  obtain ⟨wN,hlk,g'⟩:=zDR hk hm hb ((a+base:Nat):Int) ht g;refine ⟨wN,0,g',?_⟩;rw [zjJ hl h];refine zef ?_;unfold zaU;simp only;rw [uB,hlk,sb,e2,uB];simp [zeF]
 ·intro base l n w x y hl h _ g1 g2 g3 ih met dp g hld hbase;have hly:base+y<=t - a:=by rw [hld] at g3;simp at g3;omega
  have hdr:(b.take t).drop (a+base)=l:=by rw [hld,<-hvv,yB]
  have e:zfW (b.take t) ((a+base:Nat):Int)=(⟨n,w,((a+base:Nat):Int),((a+(base+x):Nat):Int),((a+(base+y):Nat):Int)⟩,0):=by
   unfold zfW;rw [xy (by simp;omega),xN,hdr,h];have q1:((a+base:Nat):Int)+x=((a+(base+x):Nat):Int):=by omega
   have q2:((a+base:Nat):Int)+y=((a+(base+y):Nat):Int):=by omega
   simp only [q1,q2]
  obtain ⟨wN,hlk,g'⟩:=zDR hk hm hb ((a+base:Nat):Int) ht g
  have hfr:zeF (zz s k) sub v (spl base l)=match zep (zz s k) sub v ⟨n,w,base,(base+x:Nat),(base+y:Nat)⟩ with
    | some p=>some p
    | none=>zeF (zz s k) sub v (spl (base+y) (l.drop y)):=by
   unfold zeF;rw [zfA hl h];simp only [List.findSome?_cons];cases zep (zz s k) sub v ⟨n,w,base,(base+x:Nat),(base+y:Nat)⟩<;>rfl
  have hfd:zmX (zz s k) gd v (spl base l).1=max (zpk (zz s k) gd v ⟨n,w,base,(base+x:Nat),(base+y:Nat)⟩) (zmX (zz s k) gd v (spl (base+y) (l.drop y)).1):=by
   rw [zfA hl h];rfl
  cases hv:vw (zz s k) n w with
  | inl c=>
   have hc:c=6:=by
    rcases zhR (zz s k) n w with h'| ⟨h',_⟩| ⟨_,_,h',_⟩<;>rw [hv] at h'<;>cases h';rfl
   subst hc;have e2:zfJ (zz s k) (b.take t) ((a+base:Nat):Int)=(zvw,6):=by unfold zfJ;rw [e];simp only [ne_eq,qn,yH,hv]
   have hst:zep (zz s k) sub v ⟨n,w,base,(base+x:Nat),(base+y:Nat)⟩=some ((base:Int),6):=by unfold zep;simp only [hv]
   refine ⟨wN,0,g',?_⟩;rw [hfr,hst];refine zef ?_;unfold zaU;simp only;rw [uB,hlk,sb,e2,uw];simp
  | inr q=>
   obtain ⟨i,run⟩:=q;have e2:zfJ (zz s k) (b.take t) ((a+base:Nat):Int)=(⟨⟨n,w,((a+base:Nat):Int),((a+(base+x):Nat):Int),((a+(base+y):Nat):Int)⟩,i,run⟩,0):=by unfold zfJ;rw [e];simp only [ne_eq,qn,yH,hv]
   obtain ⟨R,met2,hrv,g2',wF⟩:=hval wN g' n w i run base x y hv g1 g2 (by omega);have hpr:prV (⟨⟨n,w,((a+base:Nat):Int),((a+(base+x):Nat):Int),((a+(base+y):Nat):Int)⟩,i,run⟩:Vw)=⟨⟨n,w,((a+base:Nat):Int),((a+(base+x):Nat):Int),((a+(base+y):Nat):Int)⟩,i,run⟩:=rfl;cases hst:zep (zz s k) sub v ⟨n,w,base,(base+x:Nat),(base+y:Nat)⟩ with
   | some pc=>
    obtain ⟨p,c⟩:=pc;have hgd:=zAg hg g1 g2 (b:=v) (base:=base) (by omega) hst;rw [hst] at wF;obtain ⟨o1,o2⟩:=wF;refine ⟨met2,R.depth,g2',?_⟩;rw [hfr,hst];refine zef ?_;unfold zaU;simp only;rw [uB,hlk,sb,e2,uy,hpr,hrv,sb,itT (by rw [o2];simp;omega),o1,o2]
   | none=>
    rw [hst] at wF;have hok':R=⟨((zpk (zz s k) gd v ⟨n,w,base,(base+x:Nat),(base+y:Nat)⟩:Nat):Int),0,0⟩:=wF;obtain ⟨met3,D,g3',h3⟩:=ih met2 (max dp (zpk (zz s k) gd v ⟨n,w,base,(base+x:Nat),(base+y:Nat)⟩)) g2' (by rw [hld,yB]) hly;refine ⟨met3,D,g3',?_⟩;rw [hfr,hst,hfd,<-Nat.max_assoc,<-h3];refine zmO ?_;unfold zaU;simp only;rw [uB,hlk,sb,e2,uy,hpr,hrv,sb,hok',uy];simp only [yk,Sum.inl.injEq,yE,yZ];split<;>omega
theorem zLU {s:List Mes} (hr:zfs s) {k:Nat} (hk:k<s.length) {b:List UInt8} (hb:b.length<=1048576) {d fuel:Nat} (hd:d<=64) {a t:Nat} (ht:t<=b.length)
  (ih:∀e,d=e+1->∀(q A T:Nat) (met:List (zjZ×PVw)),q<s.length->A<=T->T<=b.length->zhu s met->
   ∃R wN,zbD fuel ⟨s,b,met⟩ q A T e=some (R,wN)/\zhu s wN/\okR (zav s e q ((b.take T).drop A)) A (zke s e q ((b.take T).drop A)) R)
  (met:List (zjZ×PVw)) (g:zhu s met) (n w i:Int) (run:Bool) (base x y:Nat) (hv:vw (zz s k) n w= .inr (i,run)) (h1:1<=x) (h2:x<=y) (hy:a+base+y<=t):
  ∃R wN,zer (fuel+1) ⟨s,b,met⟩ k ⟨⟨n,w,((a+base:Nat):Int),((a+(base+x):Nat):Int),((a+(base+y):Nat):Int)⟩,i,run⟩ d=some (R,wN)/\zhu s wN/\
    okR (zep (zz s k) (zye s d) ((b.take t).drop a) ⟨n,w,base,(base+x:Nat),(base+y:Nat)⟩) a (zpk (zz s k) (ztZ s d) ((b.take t).drop a) ⟨n,w,base,(base+x:Nat),(base+y:Nat)⟩) R:=by
 have hidx:idx s (k:Int)=some (zz s k):=by rw [zal rfl hk,zeG hk]
 have hun:∀w' v',zer (fuel+1) w' k v' d=zes (zbD fuel) (zer fuel) w' k v' d:=fun _ _=>rfl
 have hvb:valB ((b.take t).drop a) ⟨n,w,base,(base+x:Nat),(base+y:Nat)⟩=(b.take (a+(base+y))).drop (a+(base+x)):=by
  unfold valB;simp only [xN];exact zLn b t a (base+x) (base+y) (by omega)
 rcases zhR (zz s k) n w with h'| ⟨h',_⟩| ⟨j,run',h',_,hi⟩
 ·rw [hv] at h';cases h'
 ·rw [hv] at h';obtain ⟨rfl,rfl⟩:i= -1/\run=false:=by simpa using h'
  refine ⟨⟨0,0,0⟩,met,?_,g,?_⟩
  ·rw [hun];unfold zes;rw [uw]
  ·unfold zep zpk;simp only [hv];rw [xz (show ((-1:Int)<0) by omega),xz (.inl (show ((-1:Int)<0) by omega))];rfl
 ·rw [hv] at h';obtain ⟨rfl,rfl⟩:i=j/\run=run':=by simpa using h'
  have hfm:zJ (zz s k) (j:Int)∈(zz s k).Fields:=by rw [zdJ hi];exact xI hi
  have hmem:zz s k∈s:=by rw [zeG hk];exact xI hk
  have wP:run=true->(zJ (zz s k) (j:Int)).Kind≠17:=fun hh wz=>by
   subst hh;have:=(zFp hv).1;rw [wz] at this;cases this
  have hcut:cut b ((a+(base+x):Nat):Int) ((a+(base+y):Nat):Int)=some ((b.take (a+(base+y))).drop (a+(base+x))):=by
   rw [zjx rfl rfl (by omega) (by omega),qQ]
  have wD:((b.take (a+(base+y))).drop (a+(base+x))).length<=1048576:=by simp;omega
  unfold zep zpk;simp only [hv];rw [xy (show ¬((j:Int)<0) by omega),hvb];have hif:(if ((j:Int)<0\/run=true) then 0 else if (zJ (zz s k) (j:Int)).Kind=17 then ztZ s d (zJ (zz s k) (j:Int)).Of ((b.take (a+(base+y))).drop (a+(base+x)))+1 else 0)=(if (zJ (zz s k) (j:Int)).Kind=17 then ztZ s d (zJ (zz s k) (j:Int)).Of ((b.take (a+(base+y))).drop (a+(base+x)))+1 else 0):=by
   cases run with
   | false=>rw [xy (by simp)]
   | true=>rw [xz (.inr rfl),xy (wP rfl)]
  rw [hif];simp only [hun];unfold zes;simp only;rw [itF (show ((j:Int)== -1)=false by simp),hidx,sb,zal (i:=j) rfl hi,sb,<-zdJ hi]
  generalize hvv:(b.take (a+(base+y))).drop (a+(base+x))=v at wD hcut|-
  have hof:=(hr.fld _ hmem _ hfm).sub
  generalize zJ (zz s k) (j:Int)=f at hfm wP hof|-
  by_cases hs:f.Kind=17/\0<d
  ·obtain ⟨e,rfl⟩:∃e,d=e+1:=⟨d - 1,by omega⟩;have hrf:run=false:=by
    cases run with
    | false=>rfl
    | true=>exact absurd hs.1 (wP rfl)
   subst hrf;have hof':=hof hs.1;obtain ⟨q,hq⟩:∃q:Nat,f.Of=q:=⟨f.Of.toNat,by omega⟩;obtain ⟨R,wN,hR,g',wF⟩:=ih e rfl q (a+(base+x)) (a+(base+y)) met (by omega) (by omega) (by omega) g;rw [hvv] at wF;have hw1:i64.wrap (((e+1:Nat):Int) - 1)=(e:Int):=by rw [uD];omega
   refine ⟨⟨i64.wrap (R.depth+1),R.place,R.e⟩,wN,?_,g',?_⟩
   ·rw [itT (by simp [hs.1]),hw1,hq,hR,sb]
   ·rw [xz hs.1];unfold ziJ;rw [xy (by simp),xy (by rw [hs.1];simp),xz hs.1];simp only [zye,ztZ,hq];cases hf:zav s e q v with
    | none=>
     rw [hf] at wF;have hok':R=⟨((zke s e q v:Nat):Int),0,0⟩:=wF;have hdl:=(zCj s e e q v (xE _) hf).1 hf;subst hok';show (⟨i64.wrap (((zke s e q v:Nat):Int)+1),0,0⟩:Find)=_;rw [uD];rfl
    | some pc=>
     obtain ⟨p,c⟩:=pc;rw [hf] at wF;obtain ⟨o1,o2⟩:=wF;refine ⟨?_,o2⟩;simp only;rw [o1];push_cast;omega
  ·have hno:((f.Kind==17)&&decide (((d:Nat):Int)>0))=false:=by
    rw [Bool.and_eq_false_iff];by_cases wz:f.Kind=17
    ·exact .inr (ye (by have:=fun h=>hs ⟨wz,h⟩;omega))
    ·exact .inl (by simpa using wz)
   have hlf:ziJ f run (zye s d) ⟨n,w,base,(base+x:Nat),(base+y:Nat)⟩ v=if zpK f run v≠0 then some ((base:Int),zpK f run v) else none:=by
    unfold ziJ zpK;by_cases hrt:run=true
    ·rw [xz hrt,xz hrt]
    ·rw [xy hrt,xy hrt];by_cases h15:f.Kind=15/\zhs v=false
     ·rw [xz h15,xz h15,xz (by omega)]
     ·rw [xy h15,xy h15];by_cases wz:f.Kind=17
      ·have:d=0:=by have:=fun h=>hs ⟨wz,h⟩;omega
       subst this;rw [xz wz,xz wz,xz (by omega)];rfl
      ·rw [xy wz,xy wz,xy (by omega)]
   rw [itF hno,hcut,sb,zHZ f run wD,sb,hlf];by_cases h0:zpK f run v=0
   ·refine ⟨⟨0,0,0⟩,met,by rw [itF (by simpa using h0)],g,?_⟩;rw [xy (by simpa using h0)];have:f.Kind≠17:=fun wz=>by
     have hrf:run=false:=by
      cases run with
      | false=>rfl
      | true=>exact absurd wz (wP rfl)
     subst hrf;unfold zpK at h0;rw [xy (by simp),xy (by rw [wz];simp),xz wz] at h0;omega
    rw [xy this];rfl
   ·refine ⟨⟨0,((a+base:Nat):Int),zpK f run v⟩,met,by rw [itT (by simpa using h0)],g,?_⟩;rw [xz h0];exact ⟨by simp,rfl⟩
theorem zLP (hr:zfs s) (hb:b.length<=1048576):∀(d fuel:Nat),d<=64->2*d+2<=fuel->∀(q A T:Nat) (met:List (zjZ×PVw)),q<s.length->A<=T->T<=b.length->zhu s met->
   ∃R wN,zbD fuel ⟨s,b,met⟩ q A T d=some (R,wN)/\zhu s wN/\okR (zav s d q ((b.take T).drop A)) A (zke s d q ((b.take T).drop A)) R:=by
 have step:∀(d fuel:Nat),d<=64->(∀e,d=e+1->∀(q A T:Nat) (met:List (zjZ×PVw)),q<s.length->A<=T->T<=b.length->zhu s met->
   ∃R wN,zbD fuel ⟨s,b,met⟩ q A T e=some (R,wN)/\zhu s wN/\okR (zav s e q ((b.take T).drop A)) A (zke s e q ((b.take T).drop A)) R)->
   ∀(q A T:Nat) (met:List (zjZ×PVw)),q<s.length->A<=T->T<=b.length->zhu s met->
   ∃R wN,zbD (fuel+2) ⟨s,b,met⟩ q A T d=some (R,wN)/\zhu s wN/\okR (zav s d q ((b.take T).drop A)) A (zke s d q ((b.take T).drop A)) R:=by
  intro d fuel hd ih q A T met hq hAT hT g;have hun:∀w' k' p' t' d',zbD (fuel+2) w' k' p' t' d'=zeL (zbD (fuel+1)) (zer (fuel+1)) w' k' p' t' d':=fun _ _ _ _ _=>rfl
  have hm:(zz s q).Fields.length<=1152921504606846976:=by
   rw [zeG hq];have:=hr.few _ (xI hq);omega
  obtain ⟨wN,D,g',hl⟩:=zIe (s:=s) hq hm hb (d:=(d:Int)) hAT hT (sub:=zye s d) (gd:=ztZ s d) (zKd s d) (recv:=zer (fuel+1)) (met0:=met)
   (fun met1 g1 n w i run base x y hv h1 h2 hy=>zLU hr hq hb hd hT ih met1 g1 n w i run base x y hv h1 h2 hy) 0 _ met 0 g rfl (xM _)
  have hl':zcF d q (zer (fuel+1)) T ⟨s,b,met⟩ met (A:Int) 0=_:=hl;rw [hun,zHd,zKJ];unfold zeL;simp only;rw [xV,Nat.zero_max] at hl';rw [hl',sb];cases hf:zeF (zz s q) (zye s d) ((b.take T).drop A) (spl 0 ((b.take T).drop A)) with
  | none=>exact ⟨_,_,rfl,g',rfl⟩
  | some pc=>exact ⟨_,_,rfl,g',rfl,rfl⟩
 intro d
 induction d with
 | zero=>
  intro fuel hd hf;obtain ⟨fuel,rfl⟩:∃z,fuel=z+2:=⟨fuel - 2,by omega⟩;exact step 0 fuel hd (fun e he=>by omega)
 | succ d ih=>
  intro fuel hd hf;obtain ⟨fuel,rfl⟩:∃z,fuel=z+2:=⟨fuel - 2,by omega⟩;refine step (d+1) fuel hd (fun e he=>?_);obtain rfl:d=e:=by omega
  exact ih fuel (by omega) (by omega)
theorem zDI (hw:WS s) (root d:Int):zky s root d=some (argS s root d):=by
 unfold zky argS;rw [zqo hw,sb];cases h:zff s
 ·rw [itT (c:= !false) rfl,xz (show false=false from rfl)]
 ·rw [itF (c:= !true) rfl,xy (show ¬(true=false) by simp)];by_cases h2:root<0\/root>=s.length\/d<0\/d>64
  ·rw [itT (by simpa using h2),xz h2]
  ·rw [uC,xy h2]
theorem zKN (hw:WS s) (root:Int) (hb:b.length<=1048576) (d:Int) (hf:130<=fuel):
  ∃R,zmG fuel s root b d=some R/\R.place=(zhw s root b d).1/\R.e=(zhw s root b d).2/\((zhw s root b d).2=0->R.depth=((zke s d.toNat root b:Nat):Int)):=by
 unfold zmG zhw;rw [zDI hw,sb];by_cases h:argS s root d=0
 ·obtain ⟨hr,h1,h2,h3,h4⟩:=ztW h;obtain ⟨k,rfl⟩:∃k:Nat,root=k:=⟨root.toNat,by omega⟩;obtain ⟨e,rfl⟩:∃k:Nat,d=k:=⟨d.toNat,by omega⟩;obtain ⟨R,wN,hR,_,wF⟩:=zLP hr hb e fuel (by omega) (by omega) k 0 b.length [] (by omega) (xM _) (xE _) (zhu.nil s);have hR':zbD fuel ⟨s,b,[]⟩ k 0 (b.length:Int) e=some (R,wN):=hR;rw [qH,xV] at wF;rw [itF (by simpa using h),xy (by simpa using h),hR',sb,xN];refine ⟨R,rfl,?_⟩;cases hfi:zav s e k b with
  | none=>
   rw [hfi] at wF;have hok':R=⟨((zke s e k b:Nat):Int),0,0⟩:=wF;subst hok';exact ⟨rfl,rfl,fun _=>rfl⟩
  | some pc=>
   obtain ⟨p,c⟩:=pc;rw [hfi] at wF;obtain ⟨o1,o2⟩:=wF;have:=zoH s e k b p c hfi;simp only [yP];refine ⟨by rw [o1];simp,o2,fun h0=>by omega⟩
 ·rw [itT (by simpa using h),xz h];exact ⟨_,rfl,rfl,rfl,fun h0=>absurd h0 h⟩
theorem zHY (hw:WS s) (root:Int) (hb:b.length<=1048576) (d:Int) (hf:130<=fuel):zlg fuel s root b d=some (zhw s root b d):=by
 obtain ⟨R,hR,h1,h2,_⟩:=zKN hw root hb d hf;unfold zlg;rw [hR,sb,h1,h2]
theorem zmR (hm:m.Fields.length<=140737488351232) (n:Int):zdn m n=some (match m.Fields.findIdx? (fun f=>f.Number==n) with| some i=>((i:Int),true)| none=>(0,false)):=by
 unfold zdn zcM zaF;have h:=zuc (fun f:Fld=>f.Number==n) m.Fields (fun i=>zad m.Fields n i) (zbL (by unfold zI;rw [uA])) (fun i hi=>by
  by_cases hp:(m.Fields[i].Number==n)=true
  ·rw [xz hp];exact zbL (by unfold zI zfZ;rw [uB,zal rfl hi,sb,sb,itT hp])
  ·rw [xy hp];exact zdy (by unfold zI zfZ;rw [uB,zal rfl hi,sb,sb,itF (pl hp),uD];rfl)) m.Fields.length 0 (by omega) (fun j _ h=>by omega)
 have h':zad m.Fields n 0=_:=h;rw [h',sb];cases m.Fields.findIdx? (fun f:Fld=>f.Number==n) with
 | none=>rfl
 | some i=>simp [sb];omega
theorem zlX {α:Type} (p:α->Bool) (l:List α) (F:Int->Option (Unit⊕Unit)) (h0:F (l.length:Int)=some (.inl ())) (hs:∀(i:Nat) (h:i<l.length),F (i:Int)=if p l[i]=true then F ((i+1:Nat):Int) else some (.inr ())):
  ∀(c i:Nat),i+c=l.length->F (i:Int)=some (if (l.drop i).all p=true then .inl () else .inr ())
 | 0,i,h=>by
  have e:l.drop i=[]:=yK (by omega);have hi:i=l.length:=by omega
  rw [e,hi,h0];simp
 | c+1,i,h=>by
  rw [hs i (by omega),yy (by omega),yD];cases hp:p l[i]
  ·rw [xy (by simp)];simp
  ·rw [xz rfl,yd];exact zlX p l F h0 hs c (i+1) (by omega)
theorem zuH (hb:v.Words.length<=140737488351232/\v.Texts.length<=140737488351232/\v.Subs.length<=140737488351232):zeS v=some ((zbS v:Nat):Int):=by
 unfold zeS zbS;rw [zC (x:=(v.Words.length:Int)+(v.Texts.length:Int)) (by omega),uD];push_cast;rfl
theorem zBT (hl:l.length<=1152921504606846976) (h:∀t∈l,t.length<=140737488351232):ziA l=some (l.all zhs):=by
 unfold ziA;have h1:=zlX zhs l (fun i=>zfq l i) (by
   refine zlc ?_;unfold zcU;rw [uA])
  (fun i hi=>by
   have hx:=h _ (xI hi);have e:lenO l[i]=some l[i]:=by unfold lenO;rw [xz (by omega)]
   cases hp:zhs l[i]
   ·rw [xy (by simp)];refine zlc ?_;unfold zcU;rw [uB,zal rfl hi,sb,e,sb,zuP (by omega),sb,hp,uw]
   ·rw [xz rfl];refine zqA ?_;unfold zcU;rw [uB,zal rfl hi,sb,e,sb,zuP (by omega),sb,hp,uy,uD];push_cast;rfl)
  l.length 0 (xO _)
 have h1':zfq l 0=_:=h1;rw [h1',sb,xV];cases l.all zhs<;>rfl
theorem zBS (hl:l.length<=1152921504606846976) (h:∀w∈l,0<=w/\w<=18446744073709551615):zgd k l=some (l.all fun w=>kNum k&&zch k w==w):=by
 unfold zgd;have h1:=zlX (fun w=>kNum k&&zch k w==w) l (fun i=>zdB k l i) (by
   refine zgl ?_;unfold zbx;rw [uA])
  (fun i hi=>by
   have hx:=h _ (xI hi);cases hk:kNum k
   ·rw [yY,xy (by simp)];refine zgl ?_;unfold zbx;rw [uB,zal rfl hi,sb,zlM k hx,sb,hk,uw]
   ·rw [yd];by_cases hp:zch k l[i]=l[i]
    ·rw [xz (by simpa using hp)];refine znv ?_;unfold zbx;rw [uB,zal rfl hi,sb,zlM k hx,sb,hk,itF (by simp [hp]),uD];push_cast;rfl
    ·rw [xy (by simpa using hp)];refine zgl ?_;unfold zbx;rw [uB,zal rfl hi,sb,zlM k hx,sb,hk,itT (by simp [hp])])
  l.length 0 (xO _)
 have h1':zdB k l 0=_:=h1;rw [h1',sb,xV];cases l.all (fun w=>kNum k&&zch k w==w)<;>rfl
theorem zIT (hm:m.Fields.length<=140737488351232) (hu:u.length<=1048576):zhN m u=some (unkR m u):=by
 unfold zhN unkR;have e:lenO u=some u:=by unfold lenO;rw [xz (by omega)]
 rw [e,sb,zBk hu,sb]
 generalize zfW u 0=r
 by_cases c1:r.2=0
 ·by_cases c2:r.1.To=(u.length:Int)
  ·rw [itF (by simp [c1,c2]),zmR hm,sb];have hf:fldI m r.1.Number=ziI (fun f:Fld=>f.Number==r.1.Number) m.Fields:=rfl;rw [hf];cases h:m.Fields.findIdx? (fun f:Fld=>f.Number==r.1.Number) with
   | none=>rw [zmV h];simp [c1,c2]
   | some i=>rw [zmW h];simp [c1,c2]
  ·rw [itT (by simp [c2])];simp [c2]
 ·rw [itT (by simp [c1])];simp [c1]
theorem zAx {α:Type} {p:α->Bool} (h:∀x,p x=false) (l:List α):l.all p=l.isEmpty:=by
 cases l with
 | nil=>rfl
 | cons x l=>rw [yD,h];rfl
theorem zpP {α:Type} (l:List α):l.isEmpty=decide (l.length=0):=by cases l<;>simp
theorem zDA {s:List Mes} (hs:zfs s):∀(fuel:Nat),(∀(x:Msg) (k:Nat),k<s.length->2*szM x<fuel->bdM x->smM x->zdQ fuel s k x=some (zaE s x k))/\
  (∀(v:Vlu) (f:Fld),2*szV v<fuel->bdV v->smV v->zji fuel f s v=some (zjS s v f))/\
  ∀(l:List Msg) (k:Int),2*szMs l+1<fuel->l.length<=1152921504606846976->bdMs l->smMs l->zgB fuel s k l=some (decide (0<=k/\k<s.length)&&l.all fun x=>zaE s x k)
 | 0=>⟨fun x k _ h=>by omega,fun v f h=>by omega,fun l k h=>by omega⟩
 | fuel+1=>by
  obtain ⟨ih1,ih2,ih3⟩:=zDA hs fuel;have wD:=hs.len;refine ⟨fun x k hk wG hb hsm=>?_,fun v f wG hb hsm=>?_,fun l k wG hl hb hsm=>?_⟩
  ·obtain ⟨b1,⟨b2,b3⟩,b4⟩:=(zhD x).1 hb;obtain ⟨s1,⟨s2,s3⟩,s4⟩:=(znt x).1 hsm;rw [zcA] at wG;show zgD (zgB fuel) (zji fuel) (zdQ fuel) s k x=_;unfold zgD;rw [zlP,xT (show (0:Int)<=(k:Int)/\(k:Int)<(s.length:Int) by omega),yd];have hm:idx s (k:Int)=some (zz s k):=by rw [zal rfl hk,zeG hk]
   have hmm:zz s (k:Int)∈s:=by rw [zeG hk];exact xI hk
   have hfew:=hs.few _ hmm;have hfld:=hs.fld _ hmm
   generalize zz s (k:Int)=m at hm hmm hfew hfld|-
   rw [hm,sb];have hv:∀(c i:Nat) (p:Option Int) (last:Int),i+c=x.Values.length->(p=none/\last=0\/p=some last)->zeT (zji fuel) s x m last i=some (if zfX s (x.Values.drop i) m p=true then .inl () else .inr ()):=by
    intro c
    induction c with
    | zero=>
     intro i p last hi _;have e:x.Values.drop i=[]:=yK (by omega);rw [e,zfX,xz rfl];refine zjU ?_;unfold zcl;rw [uC]
    | succ c ih=>
     intro i p last hi hp;have hil:i<x.Values.length:=by omega
     have hx:idx x.Values (i:Int)=some x.Values[i]:=zal rfl hil;have hmem:=xI hil;have z1:=zdA hmem;have hbv:=zdr.1 b4 _ hmem;have hsv:=ziy.1 s4 _ hmem;rw [yy hil,zfX]
     generalize x.Values[i]=v at hx hmem z1 hbv hsv|-
     have hw1:i64.wrap ((i:Int)+1)=((i+1:Nat):Int):=by rw [uD];push_cast;rfl
     have hbody:zcl (zji fuel) s x m last i=if (decide (0<=fldI m v.Number)&&p.all (fun q=>decide (q<v.Number))&&zjS s v (zJ m (fldI m v.Number)))=true then some (.inl (v.Number,((i+1:Nat):Int))) else some (.inr (.inr ())):=by
      unfold zcl;rw [uB,hx,sb,zmR (by omega),sb];have hf:fldI m v.Number=ziI (fun f:Fld=>f.Number==v.Number) m.Fields:=rfl;cases h:m.Fields.findIdx? (fun f:Fld=>f.Number==v.Number) with
      | none=>
       rw [hf,zmV h,uw,sb,uw,xy (by simp)]
      | some j=>
       rw [hf,zmW h];have hjs:=pH.1 h;obtain ⟨hj,hjn,_⟩:=hjs;have hjn':(m.Fields[j]).Number=v.Number:=by simpa using hjn
       have hlo:=(hfld _ (xI hj)).lo;have hfj:idx m.Fields (j:Int)=some (zJ m (j:Int)):=by rw [zal rfl hj,zdJ hj]
       have hfit:=ih2 v (zJ m (j:Int)) (by omega) hbv hsv;have hpl:p.all (fun q=>decide (q<v.Number))=decide (last<v.Number):=by
        rcases hp with ⟨rfl,rfl⟩| rfl
        ·rw [xT (show (0:Int)<v.Number by omega)];rfl
        ·rfl
       rw [uy,hpl,xT (show (0:Int)<=(j:Int) by omega),yd];by_cases wx:last<v.Number
       ·rw [itF (by simpa using wx),xT wx,yd];simp only;rw [hfj,sb,hfit,sb,sb];cases hfv:zjS s v (zJ m (j:Int))
        ·rw [uw,xy (by simp)]
        ·rw [uy,xz rfl,hw1]
       ·rw [uB,sb,uw,ye wx,xy (by simp)]
     generalize (decide (0<=fldI m v.Number)&&p.all (fun q=>decide (q<v.Number))&&zjS s v (zJ m (fldI m v.Number)))=bb at hbody|-
     cases bb
     ·rw [xy (by simp)] at hbody;rw [zjU hbody,yY,xy (by simp)]
     ·rw [xz rfl] at hbody;rw [zpx hbody,ih _ (some v.Number) v.Number (by omega) (.inr rfl),yd]
   have h1:=hv x.Values.length 0 none 0 (xO _) (.inl ⟨rfl,rfl⟩);have h1':zeT (zji fuel) s x m 0 0=_:=h1;rw [xV] at h1';rw [h1',sb];cases hrv:zfX s x.Values m none
   ·rw [xy (by simp)];rfl
   ·rw [xz rfl,yd];simp only;have h2:=zlX (unkR m) x.Unknown (fun i=>zeU x m i) (by
      refine zjV ?_;unfold zcH;rw [uA])
     (fun i hi=>by
      have hu:=zIT (m:=m) (by omega) (s3 _ (xI hi));cases hun:unkR m x.Unknown[i]
      ·rw [xy (by simp)];refine zjV ?_;unfold zcH;rw [uB,zal rfl hi,sb,hu,sb,hun,uw]
      ·rw [xz rfl];refine zpy ?_;unfold zcH;rw [uB,zal rfl hi,sb,hu,sb,hun,uy,uD];push_cast;rfl)
     x.Unknown.length 0 (xO _)
    have h2':zeU x m 0=_:=h2;rw [h2',sb,xV];cases x.Unknown.all (unkR m)<;>rfl
  ·obtain ⟨_,⟨b1,b1'⟩,⟨b2,b3⟩,b4,b5⟩:=(zgs v).1 hb;obtain ⟨s1,⟨s2,s3⟩,s4,s5⟩:=(zqv v).1 hsm;rw [zeq] at wG;show zld (zgB fuel) (zji fuel) (zdQ fuel) f s v=_;unfold zld;rw [zuH ⟨by omega,by omega,by omega⟩,sb,zsM,zmw];have hmany:zbS v=v.Words.length+v.Texts.length+v.Subs.length:=rfl;by_cases h0:zbS v=0\/1<zbS v/\f.Repeated=false
   ·have hmr:zrJ f v=false:=by
     unfold zrJ;rcases h0 with h0| ⟨h0,h1⟩
     ·simp [h0]
     ·rw [h1];simp;omega
    rw [hmr,itT (by
     rcases h0 with h0| ⟨h0,h1⟩
     ·simp [h0]
     ·rw [h1];simp;omega)]
    rfl
   ·have hmr:zrJ f v=zcw f.Kind:=by
     unfold zrJ;rw [xT (show 0<zbS v by omega),yd];cases hr:f.Repeated
     ·rw [hr] at h0;rw [xT (show zbS v<=1 by simp at h0;omega)];rfl
     ·simp
    rw [hmr,itF (by
     cases hr:f.Repeated
     ·rw [hr] at h0;simp at h0|-;omega
     ·simp;omega)]
    have hW:kNum f.Kind=false->v.Words.all (zjO f)=decide (v.Words.length=0):=fun h=>by
     rw [zAx (fun w=>by unfold zjO;rw [h];rfl),zpP]
    have hT:f.Kind≠15->f.Kind≠16->v.Texts.all (zlt f)=decide (v.Texts.length=0):=fun h1 h2=>by
     rw [zAx (fun t=>by unfold zlt;simp [h1,h2]),zpP]
    have hS:f.Kind≠17->(v.Subs.all fun x=>f.Kind==17&&zaE s x f.Of)=decide (v.Subs.length=0):=fun h=>by
     rw [zAx (fun x=>by simp [h]),zpP]
    by_cases k15:f.Kind=15
    ·rw [itT (by simp [k15]),hW (by rw [k15];rfl),hS (by omega)];have hkr:zcw f.Kind=true:=by rw [k15];rfl
     rw [hkr,yd];by_cases hl:v.Words.length=0/\v.Subs.length=0
     ·rw [uB,zBT (by omega) b3,sb,sb,xT hl.1,xT hl.2,yd,qS];have:v.Texts.all (zlt f)=v.Texts.all zhs:=by
       congr 1;funext t;unfold zlt;simp [k15]
      rw [this]
     ·rw [uC,sb];congr 1
      symm
      by_cases hw0:v.Words.length=0
      ·rw [ye (show ¬v.Subs.length=0 by omega),qV]
      ·rw [ye hw0,yY,yY]
    ·rw [itF (by simp [k15])];by_cases k16:f.Kind=16
     ·rw [itT (by simp [k16]),hW (by rw [k16];rfl),hS (by omega)];have hkr:zcw f.Kind=true:=by rw [k16];rfl
      have hta:v.Texts.all (zlt f)=true:=by rw [xL];intro t _;unfold zlt;simp [k16]
      rw [hkr,hta,yd,qS];congr 1;rw [<-Bool.decide_and];rw [yO];simp only [qU,yc];omega
     ·rw [itF (by simp [k16])];by_cases k17:f.Kind=17
      ·rw [itT (by simp [k17]),hW (by rw [k17];rfl),hT k15 k16];have hkr:zcw f.Kind=true:=by rw [k17];rfl
       rw [hkr,yd];have hsub:(v.Subs.all fun x=>f.Kind==17&&zaE s x f.Of)=v.Subs.all fun x=>zaE s x f.Of:=by
        congr 1;funext x;simp [k17]
       rw [hsub];by_cases hl:v.Words.length=0/\v.Texts.length=0
       ·rw [uB,ih3 v.Subs f.Of (by omega) (by omega) b5 s5,sb,sb,xT hl.1,xT hl.2,yd,yd];by_cases hof:0<=f.Of/\f.Of<s.length
        ·rw [xT hof,yd]
        ·rw [ye hof,yY];congr 1
         symm
         have hne:v.Subs≠[]:=fun e=>h0 (.inl (by rw [hmany,hl.1,hl.2,e];rfl))
         obtain ⟨x,l,hxl⟩:=pm hne;rw [hxl,yD,zlP,ye hof];rfl
       ·rw [uC,sb];congr 1
        symm
        by_cases hw0:v.Words.length=0
        ·rw [ye (show ¬v.Texts.length=0 by omega),qV,yY]
        ·rw [ye hw0,yY,yY]
      ·rw [itF (by simp [k17]),hT k15 k16,hS k17];have hck:(v.Words.all fun w=>kNum f.Kind&&zch f.Kind w==w)=v.Words.all (zjO f):=rfl;by_cases hl:v.Texts.length=0/\v.Subs.length=0
       ·rw [uB,zBS (by omega) b1',sb,sb,xT hl.1,xT hl.2,qS,qS,hck];congr 1;cases hkn:kNum f.Kind
        ·rw [hW hkn,ye (show ¬v.Words.length=0 by omega),qV]
        ·have hkr:zcw f.Kind=true:=by
          rw [zfU] at hkn;unfold zcw;simp;omega
         rw [hkr,yd]
       ·rw [uC,sb];congr 1
        symm
        by_cases hw0:v.Texts.length=0
        ·rw [ye (show ¬v.Subs.length=0 by omega),qV]
        ·rw [ye hw0,qV,yY]
  ·show zfB (zgB fuel) (zji fuel) (zdQ fuel) s k l=_;unfold zfB;by_cases hk:0<=k/\k<s.length
   ·rw [uC,xT hk,yd];obtain ⟨n,rfl⟩:∃n:Nat,k=n:=⟨k.toNat,by omega⟩;have h1:=zlX (fun x=>zaE s x n) l (fun i=>zdW l n (zdQ fuel) s i) (by
      refine zjh ?_;unfold zcf;rw [uA])
     (fun i hi=>by
      have hm:=xI hi;have z1:=zdP hm;have hr:=ih1 l[i] n (by omega) (by omega) (zeg.1 hb _ hm) (zix.1 hsm _ hm);cases hp:zaE s l[i] n
      ·rw [xy (by simp)];refine zjh ?_;unfold zcf;rw [uB,zal rfl hi,sb,hr,sb,hp,uw]
      ·rw [xz rfl];refine zoj ?_;unfold zcf;rw [uB,zal rfl hi,sb,hr,sb,hp,uy,uD];push_cast;rfl)
     l.length 0 (xO _)
    have h1':zdW l n (zdQ fuel) s 0=_:=h1;rw [h1',sb,xV];cases l.all (fun x=>zaE s x n)<;>rfl
   ·rw [uB,ye hk];rfl
theorem zyo (root:Int) (hf:2*szM x<fuel) (hw:WS s) (hb:bdM x) (hsm:smM x) (hd:dM x<=131072):ziN fuel s root x=some (zff s&&zaE s x root):=by
 unfold ziN;rw [zDI hw,sb];by_cases h0:argS s root 0=0
 ·obtain ⟨hr,g1,g2,_,_⟩:=ztW h0;have hrs:zff s=true:=by
   unfold argS at h0;cases h:zff s with
   | true=>rfl
   | false=>rw [h,xz rfl] at h0;cases h0
  obtain ⟨k,rfl⟩:∃k:Nat,root=k:=⟨root.toNat,by omega⟩;rw [itT (by simp [h0]),zyg (by omega) hb hd,sb,uw,(zDA hr fuel).1 x k (by omega) hf hb hsm,sb,sb,hrs,yd]
 ·rw [itF (by simp [h0]),sb];congr 1
  symm
  cases hrs:zff s
  ·rfl
  ·rw [yd,zlP];unfold argS at h0;rw [xy (by rw [hrs];simp)] at h0;rw [ye (by split at h0<;>omega)];rfl
theorem zLp (hk:kNum k=true) (hf:zdw (zbm k) v=true):pcs k v=([v],0):=by
 have hk':=zfU.1 hk;have hu:zmF k v= .inr v.length/\v≠[]:=by
  unfold zmF;unfold zdw zbm at hf;by_cases h9:k<9
  ·rw [xy (show ¬15<=k by omega),xy (show ¬12<=k by omega),xy (show ¬9<=k by omega),xz rfl] at hf;obtain ⟨h1,h2⟩:=yA hf;obtain ⟨b1,b2,b3,b4,b5,b6,b7⟩:=zjc v;have hp:=b7 h1;rw [xz h9,xy (by simpa using h1),h2];refine ⟨by simp,fun e=>?_⟩;subst e;simp at h2;omega
  ·rw [xy h9];by_cases h12:k<12
   ·rw [xy (show ¬15<=k by omega),xy (show ¬12<=k by omega),xz (show 9<=k by omega),xy (by omega)] at hf;have hf':=yA hf;have hl:v.length=4:=by omega
    rw [xz h12,xy (by omega),hl];exact ⟨rfl,fun e=>by rw [e] at hl;simp at hl⟩
   ·rw [xy (show ¬15<=k by omega),xz (show 12<=k by omega),xy (by omega)] at hf;have hf':=yA hf;have hl:v.length=8:=by omega
    rw [xy h12,xy (by omega),hl];exact ⟨rfl,fun e=>by rw [e] at hl;simp at hl⟩
 rw [znY hu.2 hu.1,qH,pk,zra]
theorem zAq (hk:kNum k=true) (hf:zdw (zbm k) v=true):zcb k v=([(zrM k v).1],0):=by
 unfold zcb;rw [xy (by rw [hk];simp),zLp hk hf,xz rfl,znc hk hf];rfl
def zgk (f:Fld) (T:List Th):List Th:=if f.Repeated=true then T else T.drop (T.length - 1)
def valT (g:Int->List UInt8->Msg) (f:Fld) (T:List Th):Vlu:=
 if f.Kind=17 then ⟨f.Number,[],[],if f.Repeated=true then T.map fun t=>g f.Of t.val else [g f.Of (T.flatMap (·.val))]⟩
 else if f.Kind=15\/f.Kind=16 then ⟨f.Number,[],(zgk f T).map (·.val),[]⟩
 else ⟨f.Number,(zgk f T).flatMap (fun t=>(zcb f.Kind t.val).1),[],[]⟩
theorem zow (g:Int->List UInt8->Msg) (f:Fld) (i:Int):∀(l:List Th) (a:zdD),accF g f i a l=(l.filter fun t=>t.fi==i).foldl (stp g f) a
 | [],a=>rfl
 | t::l,a=>by
  rw [accF,qc];by_cases h:t.fi=i
  ·rw [xz h,xz (by simpa using h),yw];exact zow g f i l _
  ·rw [xy h,xy (by simpa using h)];exact zow g f i l _
def OkF (f:Fld) (t:Th):Prop:=(t.run=true->kNum f.Kind=true/\f.Repeated=true)/\(t.run=false->zcw f.Kind=true/\zdw (zbm f.Kind) t.val=true)
theorem zzT :zgk f (t::u::T)=if f.Repeated=true then t::u::T else zgk f (u::T):=by
 unfold zgk;cases f.Repeated<;>simp
theorem zCr (g:Int->List UInt8->Msg) (hk:kNum f.Kind=true):∀(T:List Th) (a:zdD),T≠[]->(∀t∈T,OkF f t)->
  T.foldl (stp g f) a=(a.1,true,(if f.Repeated=true then a.2.2.1 else [])++(zgk f T).flatMap (fun t=>(zcb f.Kind t.val).1),(if f.Repeated=true then a.2.2.2.1 else []),a.2.2.2.2)
 | [],a,h,_=>absurd rfl h
 | [t],a,_,ht=>by
  obtain ⟨h1,h2⟩:=ht t xA;have hp:zgk f [t]=[t]:=by unfold zgk;simp
  rw [hp,yw,pn];unfold stp;cases hr:t.run
  ·rw [xy (by simp),xz hk,uk,zAq hk (h2 hr).2]
  ·rw [xz rfl,uk]
 | t::u::T,a,_,ht=>by
  obtain ⟨h1,h2⟩:=ht t xA;have hst:stp g f a t=(a.1,true,(if f.Repeated=true then a.2.2.1 else [])++(zcb f.Kind t.val).1,(if f.Repeated=true then a.2.2.2.1 else []),a.2.2.2.2):=by
   unfold stp;cases hr:t.run
   ·rw [xy (by simp),xz hk,zAq hk (h2 hr).2]
   ·rw [xz rfl]
  rw [yw,hst,zCr g hk (u::T) _ (by simp) fun x hx=>ht x (xB _ hx),zzT];cases hr:f.Repeated
  ·simp
  ·have hp:zgk f (u::T)=u::T:=by unfold zgk;rw [xz hr]
   rw [hp];simp
theorem zzA (g:Int->List UInt8->Msg) (hk:kNum f.Kind=false) (wz:f.Kind≠17):∀(T:List Th) (a:zdD),T≠[]->(∀t∈T,OkF f t)->
  T.foldl (stp g f) a=(a.1,true,(if f.Repeated=true then a.2.2.1 else []),(if f.Repeated=true then a.2.2.2.1 else [])++(zgk f T).map (·.val),a.2.2.2.2)
 | [],a,h,_=>absurd rfl h
 | [t],a,_,ht=>by
  obtain ⟨h1,h2⟩:=ht t xA;have hp:zgk f [t]=[t]:=by unfold zgk;simp
  have hr:t.run=false:=by
   cases hr:t.run
   ·rfl
   ·have:=(h1 hr).1;rw [hk] at this;cases this
  rw [hp,yw,pn];unfold stp;rw [hr,xy (by simp),xy (by rw [hk];simp),xy (fun h=>wz h.1),xy wz];rfl
 | t::u::T,a,_,ht=>by
  obtain ⟨h1,h2⟩:=ht t xA;have hr:t.run=false:=by
   cases hr:t.run
   ·rfl
   ·have:=(h1 hr).1;rw [hk] at this;cases this
  have hst:stp g f a t=(a.1,true,(if f.Repeated=true then a.2.2.1 else []),(if f.Repeated=true then a.2.2.2.1 else [])++[t.val],a.2.2.2.2):=by
   unfold stp;rw [hr,xy (by simp),xy (by rw [hk];simp),xy (fun h=>wz h.1),xy wz]
  rw [yw,hst,zzA g hk wz (u::T) _ (by simp) fun x hx=>ht x (xB _ hx),zzT];cases hr:f.Repeated
  ·simp
  ·have hp:zgk f (u::T)=u::T:=by unfold zgk;rw [xz hr]
   rw [hp];simp
theorem zzz (g:Int->List UInt8->Msg) (wz:f.Kind=17) (hr:f.Repeated=true):∀(T:List Th) (a:zdD),(∀t∈T,OkF f t)->(T≠[]\/a.2.1=true)->
  T.foldl (stp g f) a=(a.1,true,a.2.2.1,a.2.2.2.1,a.2.2.2.2++T.map fun t=>g f.Of t.val)
 | [],a,_,h=>by
  rcases h with h| h
  ·exact absurd rfl h
  ·obtain ⟨a1,a2,a3,a4,a5⟩:=a;simp only at h;subst h;simp
 | t::T,a,ht,_=>by
  obtain ⟨h1,h2⟩:=ht t xA;have hrn:t.run=false:=by
   cases hr:t.run
   ·rfl
   ·have:=(h1 hr).1;rw [wz] at this;cases this
  have hst:stp g f a t=(a.1,true,a.2.2.1,a.2.2.2.1,a.2.2.2.2++[g f.Of t.val]):=by
   unfold stp;rw [hrn,xy (by simp),xy (by rw [wz];decide),xz ⟨wz,hr⟩,xz hr,xz hr]
  rw [yw,hst,zzz g wz hr T _ (fun x hx=>ht x (xB _ hx)) (.inr rfl)];simp
theorem zCs (g:Int->List UInt8->Msg) (wz:f.Kind=17) (hr:f.Repeated=false):∀(T:List Th) (a:zdD),(∀t∈T,OkF f t)->T≠[]->
  T.foldl (stp g f) a=(a.1++T.flatMap (·.val),true,[],[],a.2.2.2.2)
 | [],a,_,h=>absurd rfl h
 | [t],a,ht,_=>by
  obtain ⟨h1,h2⟩:=ht t xA;have hrn:t.run=false:=by
   cases hr:t.run
   ·rfl
   ·have:=(h1 hr).1;rw [wz] at this;cases this
  rw [yw,pn];unfold stp;rw [hrn,xy (by simp),xy (by rw [wz];decide),xy (by rw [hr];simp),xz wz,hr];simp
 | t::u::T,a,ht,_=>by
  obtain ⟨h1,h2⟩:=ht t xA;have hrn:t.run=false:=by
   cases hr:t.run
   ·rfl
   ·have:=(h1 hr).1;rw [wz] at this;cases this
  have hst:stp g f a t=(a.1++t.val,true,[],[],a.2.2.2.2):=by
   unfold stp;rw [hrn,xy (by simp),xy (by rw [wz];decide),xy (by rw [hr];simp),xz wz,hr];simp
  rw [yw,hst,zCs g wz hr (u::T) _ (fun x hx=>ht x (xB _ hx)) (by simp)];simp
theorem zNt (g:Int->List UInt8->Msg) (hkr:zcw f.Kind=true) (hT:T≠[]) (ht:∀t∈T,OkF f t):valO g f (T.foldl (stp g f) acc0)=valT g f T:=by
 unfold valT;by_cases wz:f.Kind=17
 ·rw [xz wz];cases hr:f.Repeated
  ·rw [zCs g wz hr T acc0 ht hT];unfold valO;rw [xz ⟨rfl,wz,hr⟩];simp [acc0]
  ·rw [zzz g wz hr T acc0 ht (.inl hT)];unfold valO;rw [xy (by rw [hr];simp)];simp [acc0]
 ·rw [xy wz];by_cases hx:f.Kind=15\/f.Kind=16
  ·rw [xz hx,zzA g (by unfold kNum;simp;omega) wz T acc0 hT ht];unfold valO;simp only;rw [xy (show ¬(True/\f.Kind=17/\f.Repeated=false) from fun h=>wz h.2.1)];cases f.Repeated<;>simp [acc0]
  ·have hk:kNum f.Kind=true:=by unfold zcw at hkr;unfold kNum;simp at hkr|-;omega
   rw [xy hx,zCr g hk T acc0 hT ht];unfold valO;simp only;rw [xy (show ¬(True/\f.Kind=17/\f.Repeated=false) from fun h=>wz h.2.1)];cases f.Repeated<;>simp [acc0]
theorem zHM {α:Type} (l:List α) (m:Nat) (d x:α):(l++List.replicate (m+1) d).set l.length x=(l++[x])++List.replicate m d:=by
 rw [List.set_append_right _ _ (xE _),pf,pU,List.set_cons_zero,yp];rfl
theorem zAO {α:Type} (l:List α) (d:α) (F:List α->Int->Option (List α)) (h0:F l (l.length:Int)=some l)
  (hs:∀(i:Nat) (h:i<l.length),F (l.take i++List.replicate (l.length - i) d) (i:Int)=F (l.take (i+1)++List.replicate (l.length - (i+1)) d) ((i+1:Nat):Int)):
  ∀(c i:Nat),i+c=l.length->F (l.take i++List.replicate (l.length - i) d) (i:Int)=some l
 | 0,i,h=>by
  have hi:i=l.length:=by omega
  rw [hi,qH,pf,List.replicate_zero,yq];exact h0
 | c+1,i,h=>by rw [hs i (by omega)];exact zAO l d F h0 hs c (i+1) (by omega)
theorem zwS {α:Type} (l:List α) (d:α) (i:Nat) (h:i<l.length):(l.take i++List.replicate (l.length - i) d).set i l[i]=l.take (i+1)++List.replicate (l.length - (i+1)) d:=by
 have hl:(l.take i).length=i:=by rw [yu];omega
 have e:=zHM (l.take i) (l.length - (i+1)) d l[i];rw [hl,show l.length - (i+1)+1=l.length - i by omega] at e;rw [e,qG h]
def At14 (b:List UInt8) (L:List Vw):Prop:=∀t∈L,0<=t.R.From/\t.R.From<t.R.At/\t.R.At<=t.R.To/\t.R.To<=b.length
theorem zAI (h:At14 b L) (ht:t∈L):cut b t.R.At t.R.To=some (valB b t.R):=by
 obtain ⟨r1,r2,r3,r4⟩:=h t ht;obtain ⟨x,hx1⟩:∃x:Nat,t.R.At=x:=⟨t.R.At.toNat,by omega⟩;obtain ⟨y,hy1⟩:∃x:Nat,t.R.To=x:=⟨t.R.To.toNat,by omega⟩;rw [zjx hx1 hy1 (by omega) (by omega)];unfold valB;rw [hx1,hy1];simp only [xN]
theorem zKH (h:At14 b L) (ht:t∈L):cut b t.R.From t.R.To=some (rawB b t.R):=by
 obtain ⟨r1,r2,r3,r4⟩:=h t ht;obtain ⟨x,hx1⟩:∃x:Nat,t.R.From=x:=⟨t.R.From.toNat,by omega⟩;obtain ⟨y,hy1⟩:∃x:Nat,t.R.To=x:=⟨t.R.To.toNat,by omega⟩;rw [zjx hx1 hy1 (by omega) (by omega)];unfold rawB;rw [hx1,hy1];simp only [xN]
theorem zwb {L:List Vw} {i:Nat} (h:i<L.length):idx (L.map prV) (i:Int)=some (prV L[i]):=by
 rw [zal rfl (show i<(L.map prV).length by simpa using h)];simp
theorem zKg {b:List UInt8} {L:List Vw} (hL:L.length<=1048576) (hat:At14 b L):zmD b (L.map prV)=some (L.map fun t=>valB b t.R):=by
 unfold zmD;rw [zmn (a:=L.length) (by simp) (y6 _) (by simp;omega),sb];have wD:(L.map fun t=>valB b t.R).length=L.length:=by simp
 have h:=zAO (L.map fun t=>valB b t.R) ([]:Str) (fun a i=>zhp b (L.map prV) a i) (by
   refine ztF ?_;unfold zey;rw [uA])
  (fun i hi=>by
   have hil:i<L.length:=by simpa using hi
   refine ztE ?_;unfold zey;have hc:=zAI hat (xI hil);rw [uB,zwb hil,sb];have e1:(prV L[i]).Record.At=L[i].R.At:=rfl;have e2:(prV L[i]).Record.To=L[i].R.To:=rfl;have e3:=zwS (L.map fun t=>valB b t.R) ([]:Str) i hi;rw [ul] at e3;rw [e1,e2,hc,sb,zal rfl (show i<_ by rw [xF,yu,qy];omega),sb,xN,e3,uD];push_cast;rfl) L.length 0 (by simp)
 rw [wD,yQ,xK,qB] at h;have h':zhp b (L.map prV) (List.replicate L.length []) 0=_:=h;rw [h',sb]
theorem zHV {k:Int} {b:List UInt8} (hb:b.length<=1048576) {L:List Vw} (hL:L.length<=1048576) (hat:At14 b L) (hw:(L.flatMap fun t=>(zcb k (valB b t.R)).1).length<=1048576):
  zmE k b (L.map prV)=some (L.flatMap fun t=>(zcb k (valB b t.R)).1):=by
 unfold zmE;have key:∀(post pre:List Vw),L=pre++post->zhq b k (L.map prV) (pre.flatMap fun t=>(zcb k (valB b t.R)).1) pre.length=some (L.flatMap fun t=>(zcb k (valB b t.R)).1):=by
  intro post
  induction post with
  | nil=>
   intro pre e;rw [yq] at e;subst e;refine ztH ?_;unfold zez;rw [uA]
  | cons t post ih=>
   intro pre e;have wx:pre.length<L.length:=by rw [e];simp
   have hti:L[pre.length]=t:=by
    subst e;simp
   have ht:t∈L:=by rw [e];simp
   obtain ⟨r1,r2,r3,r4⟩:=hat t ht;have hvl:=zLJ b t.R r3 r1 r2 r4;have e2:(L.flatMap fun t=>(zcb k (valB b t.R)).1)=(pre.flatMap fun t=>(zcb k (valB b t.R)).1)++((zcb k (valB b t.R)).1++post.flatMap fun t=>(zcb k (valB b t.R)).1):=by rw [e];simp
   have hsum:=congrArg List.length e2;rw [xF,xF] at hsum;refine (ztG (all':=(pre++[t]).flatMap fun t=>(zcb k (valB b t.R)).1) (v':=(((pre++[t]).length:Nat):Int)) ?_).trans (ih (pre++[t]) (by rw [e];simp));unfold zez;have hc:=zAI hat ht;rw [uB,zwb wx,sb,hti];have e1:(prV t).Record.At=t.R.At:=rfl;have e2:(prV t).Record.To=t.R.To:=rfl;rw [e1,e2,hc,sb,zHK k (by omega),sb,zem (by omega),sb,uD,yV,uk,xF,qg];push_cast;rfl
 have h:=key L [] rfl;have h':zhq b k (L.map prV) [] 0=_:=h;rw [h',sb]
theorem zDv {b:List UInt8} {L:List Vw} (hL:L.length<=1048576) (hat:At14 b L):zid b (L.map prV) (List.replicate L.length []) 0=some (L.map fun t=>valB b t.R):=by
 have wD:(L.map fun t=>valB b t.R).length=L.length:=by simp
 have h:=zAO (L.map fun t=>valB b t.R) ([]:List UInt8) (fun a i=>zid b (L.map prV) a i) (by
   refine zuM ?_;unfold zfi;rw [uA])
  (fun i hi=>by
   have hil:i<L.length:=by simpa using hi
   refine zuL ?_;unfold zfi;have hc:=zAI hat (xI hil);rw [uB,zwb hil,sb];have e1:(prV L[i]).Record.At=L[i].R.At:=rfl;have e2:(prV L[i]).Record.To=L[i].R.To:=rfl;have e3:=zwS (L.map fun t=>valB b t.R) ([]:List UInt8) i hi;rw [ul] at e3;rw [e1,e2,hc,sb,zal rfl (show i<_ by rw [xF,yu,qy];omega),sb,xN,e3,uD];push_cast;rfl) L.length 0 (by simp)
 rw [wD,yQ,xK,qB] at h;exact h
theorem zuD {rec:List ze->Int->List UInt8->Option zb} {g:Int->List UInt8->Msg} {s:List Mes} {f:Fld} {p:List (List UInt8)} (hp:p.length<=1048576) (hg:∀v∈p,rec s f.Of v=some (g f.Of v)):
  zge f p rec s (List.replicate p.length ⟨[],[]⟩) 0=some (p.map (g f.Of)):=by
 have wD:(p.map (g f.Of)).length=p.length:=by simp
 have h:=zAO (p.map (g f.Of)) (⟨[],[]⟩:Msg) (fun a i=>zge f p rec s a i) (by
   refine zuO ?_;unfold zfj;rw [uA])
  (fun i hi=>by
   have hil:i<p.length:=by simpa using hi
   refine zuN ?_;unfold zfj;have e3:=zwS (p.map (g f.Of)) (⟨[],[]⟩:Msg) i hi;rw [ul] at e3;rw [uB,zal rfl hil,sb,hg _ (xI hil),sb,zal rfl (show i<_ by rw [xF,yu,qy];omega),sb,xN,e3,uD];push_cast;rfl) p.length 0 (by simp)
 rw [wD,yQ,xK,qB] at h;exact h
def kn14 (acc:List (Int×List PVw)) (v:Vw):List (Int×List PVw):=if v.Field= -1 then acc else mput acc v.R.Number ((mget acc v.R.Number).getD []++[prV v])
def zgn (L:List Vw) (n:Int):List Vw:=L.filter fun v=>decide (v.Field≠ -1/\v.R.Number=n)
theorem zEB (n:Int):∀(L:List Vw) (acc:List (Int×List PVw)),(mget (L.foldl kn14 acc) n).getD []=(mget acc n).getD []++(zgn L n).map prV
 | [],acc=>by simp [zgn]
 | v::L,acc=>by
  rw [yw,zEB n L];unfold zgn kn14;rw [qc];by_cases hf:v.Field= -1
  ·rw [xz hf,xy (by simp [hf])]
  ·rw [xy hf,zjb];by_cases hn:n=v.R.Number
   ·rw [xz hn,xz (by simp [hf,hn]),hn];simp
   ·rw [xy hn,xy (by simp;exact fun _ e=>hn e.symm)]
theorem zBj {κ ν:Type} [DecidableEq κ] (m:List (κ×ν)) (k j:κ) (x:ν):j∈(mput m k x).map Prod.fst↔j∈m.map Prod.fst\/j=k:=by
 rw [znU];cases h:mget m k with
 | none=>simp
 | some y=>
  simp only;exact ⟨.inl,fun h'=>h'.elim id fun e=>e▸zCW h⟩
theorem zFR (n:Int):∀(L:List Vw) (acc:List (Int×List PVw)),n∈(L.foldl kn14 acc).map Prod.fst↔n∈acc.map Prod.fst\/∃v∈L,v.Field≠ -1/\v.R.Number=n
 | [],acc=>by simp
 | v::L,acc=>by
  rw [yw,zFR n L];unfold kn14;by_cases hf:v.Field= -1
  ·rw [xz hf];constructor
   ·rintro (h| ⟨u,hu,h⟩)
    ·exact .inl h
    ·exact .inr ⟨u,xB _ hu,h⟩
   ·rintro (h| ⟨u,hu,h⟩)
    ·exact .inl h
    ·rcases xD.1 hu with rfl| hu
     ·exact absurd hf h.1
     ·exact .inr ⟨u,hu,h⟩
  ·rw [xy hf,zBj];constructor
   ·rintro ((h| h)| ⟨u,hu,h⟩)
    ·exact .inl h
    ·exact .inr ⟨v,xA,hf,h.symm⟩
    ·exact .inr ⟨u,xB _ hu,h⟩
   ·rintro (h| ⟨u,hu,h⟩)
    ·exact .inl (.inl h)
    ·rcases xD.1 hu with rfl| hu
     ·exact .inl (.inr h.2.symm)
     ·exact .inr ⟨u,hu,h⟩
theorem zCM:∀(L:List Vw) (acc:List (Int×List PVw)),(acc.map Prod.fst).Nodup->((L.foldl kn14 acc).map Prod.fst).Nodup
 | [],acc,h=>h
 | v::L,acc,h=>by
  rw [yw];refine zCM L _ ?_;unfold kn14;split
  ·exact h
  ·exact zoO h _ _
theorem zCX {κ ν:Type} [DecidableEq κ] (m:List (κ×ν)) (k:κ) (x:ν):(mput m k x).length<=m.length+1:=by
 have h:=congrArg List.length (znU m k x);rw [yS] at h;rw [h];split<;>simp
theorem zEC:∀(L:List Vw) (acc:List (Int×List PVw)),(L.foldl kn14 acc).length<=acc.length+L.length
 | [],acc=>by simp
 | v::L,acc=>by
  rw [yw];have h:=zEC L (kn14 acc v);have h2:(kn14 acc v).length<=acc.length+1:=by
   unfold kn14;split
   ·omega
   ·exact zCX _ _ _
  rw [xU];omega
theorem zAP {b:List UInt8} {L:List Vw} (hL:L.length<=1048576) (hat:At14 b L) (hneg:∀v∈L,v.Field= -1\/0<=v.Field) (x:Int×Int):∀(post pre:List Vw),L=pre++post->
  zfO b (L.map prV,x) (pre.foldl kn14 []) pre.length (unkO (pre.map (thOf b)))=some (L.foldl kn14 [],unkO (L.map (thOf b))):=by
 intro post
 induction post with
 | nil=>
  intro pre e;rw [yq] at e;subst e;refine zrz ?_;unfold zcP;rw [uA]
 | cons v post ih=>
  intro pre e;have wx:pre.length<L.length:=by rw [e];simp
  have hti:L[pre.length]=v:=by subst e;simp
  have hv:v∈L:=by rw [e];simp
  have hx:idx (L.map prV) (pre.length:Nat)=some (prV v):=by rw [zwb wx,hti]
  have hfi:(prV v).Field=v.Field:=rfl;have hun:(unkO (pre.map (thOf b))).length<=pre.length:=by
   unfold unkO;rw [yS];exact yz (uo _ _) (by simp)
  have hw:i64.wrap (((pre.length:Nat):Int)+1)=(((pre++[v]).length:Nat):Int):=by rw [uD,xF,qg];push_cast;rfl
  have hF:=(hat v hv);by_cases hf:v.Field= -1
  ·refine (zlu (known':=(pre++[v]).foldl kn14 []) (v':=(((pre++[v]).length:Nat):Int)) (f':=unkO ((pre++[v]).map (thOf b))) ?_).trans (ih (pre++[v]) (by rw [e];simp));unfold zcP;have e1:(prV v).Record.From=v.R.From:=rfl;have e2:(prV v).Record.To=v.R.To:=rfl;have hu:unkO ((pre++[v]).map (thOf b))=unkO (pre.map (thOf b))++[rawB b v.R]:=by
    unfold unkO;rw [yx,pM,yx];congr 1;rw [qd,qc,xz (by show decide (v.Field<0)=true;rw [hf];rfl)];rfl
   have hk:(pre++[v]).foldl kn14 []=pre.foldl kn14 []:=by rw [List.foldl_append,yw,pn];unfold kn14;rw [xz hf]
   rw [uB,hx,sb,itT (by rw [hfi,hf];rfl),e1,e2,zKH hat hv,sb,zem (by simp;omega),sb,hw,hu,hk]
  ·refine (zlu (known':=(pre++[v]).foldl kn14 []) (v':=(((pre++[v]).length:Nat):Int)) (f':=unkO ((pre++[v]).map (thOf b))) ?_).trans (ih (pre++[v]) (by rw [e];simp));unfold zcP;have e1:(prV v).Record.Number=v.R.Number:=rfl;have hg:=zEB v.R.Number pre [];have wD:((mget (pre.foldl kn14 []) v.R.Number).getD []).length<=pre.length:=by
    rw [hg];have:(zgn pre v.R.Number).length<=pre.length:=uo _ _;simpa [mget] using this
   have hk:(pre++[v]).foldl kn14 []=mput (pre.foldl kn14 []) v.R.Number ((mget (pre.foldl kn14 []) v.R.Number).getD []++[prV v]):=by rw [List.foldl_append,yw,pn];show kn14 (pre.foldl kn14 []) v=_;unfold kn14;rw [xy hf]
   rw [uB,hx,sb,itF (by rw [hfi];simpa using hf),e1,zem (by simp only [qg];omega),sb,hw,hk];have hu:unkO ((pre++[v]).map (thOf b))=unkO (pre.map (thOf b)):=by
    unfold unkO;rw [yx,pM,yx,qd,qc,xy (by show ¬decide (v.Field<0)=true;have:=(hneg v hv).resolve_left hf;simp;omega)];simp
   rw [hu]
theorem zCJ {L:List Vw} (hwf:∀v∈L,v.Field≠ -1->(Lit.int .i64 v.R.Number).wf=true) (hL:L.length<=1048576):
  ∃ks,zpT (L.foldl kn14 [])=some ks/\ks.Pairwise (·<·)/\∀n,n∈ks↔∃v∈L,v.Field≠ -1/\v.R.Number=n:=by
 have wD:=zEC L [];have hnd:=zCM L [] (by simp);have hk:=fun n=>zFR n L []
 generalize L.foldl kn14 []=K at wD hnd hk
 refine ⟨(K.map Prod.fst).mergeSort fun x y=>decide (x<=y),?_,?_,fun n=>?_⟩
 ·have hall:(K.all fun p=>(Lit.int .i64 p.1).wf)=true:=by
   rw [xL];intro p hp;obtain h| ⟨v,hv,hf,hn⟩:=(hk p.1).1 (yW hp)
   ·simp at h
   ·rw [<-hn];exact hwf v hv hf
  have hl:K.length*8<=140737488355328:=by rw [yv] at wD;omega
  unfold zpT;rw [xz ⟨hall,hl⟩]
 ·have hp:=List.mergeSort_perm (K.map Prod.fst) fun x y=>decide (x<=y)
  have hs:=uu (le:=fun x y:Int=>decide (x<=y)) (fun a b c h k=>by simp at*;omega) (fun a b=>by simp;omega) (K.map Prod.fst);have hnd':=hp.nodup_iff.2 hnd
  generalize (K.map Prod.fst).mergeSort (fun x y=>decide (x<=y))=ks at hs hnd'
  refine (List.Pairwise.and hs hnd').imp fun {a b} h=>?_
  have h1:a<=b:=by simpa using h.1
  have h2:a≠b:=h.2;omega
 ·rw [List.mem_mergeSort,hk n];simp
theorem zvn:∀(l k:List Int),l.Pairwise (·<·)->k.Pairwise (·<·)->(∀w,w∈l↔w∈k)->l=k
 | [],[],_,_,_=>rfl
 | [],y::k,_,_,h=>absurd ((h y).2 xA) (by simp)
 | x::l,[],_,_,h=>absurd ((h x).1 xA) (by simp)
 | x::l,y::k,hl,hk,h=>by
  have hl':=yf.1 hl;have hk':=yf.1 hk;have hxy:x=y:=by
   rcases xD.1 ((h x).1 xA) with h1| h1
   ·exact h1
   ·rcases xD.1 ((h y).2 xA) with h2| h2
    ·exact h2.symm
    ·have a1:=hk'.1 x h1;have a2:=hl'.1 y h2;omega
  subst hxy;congr 1;refine zvn l k hl'.2 hk'.2 fun w=>?_
  have nl:x∉l:=fun hm=>by have:=hl'.1 x hm;omega
  have nk:x∉k:=fun hm=>by have:=hk'.1 x hm;omega
  have:=h w;simp only [xD] at this;constructor
  ·intro hw;rcases this.1 (.inr hw) with rfl| h'
   ·exact absurd hw nl
   ·exact h'
  ·intro hw;rcases this.2 (.inr hw) with rfl| h'
   ·exact absurd hw nk
   ·exact h'
theorem zwT {α:Type} (vo:Int->α) (p:α->Bool) (met:Int->Bool):∀(o:List Int),(∀i∈o,met i=false->p (vo i)=false)->(o.map vo).filter p=((o.filter met).map vo).filter p
 | [],_=>rfl
 | i::o,h=>by
  have ih:=zwT vo p met o fun j hj=>h j (xB _ hj)
  rw [xP,qc,qc];cases hm:met i
  ·rw [h i xA hm,xy (by simp),xy (by simp),ih]
  ·rw [xz rfl,xP,qc,ih]
def zpg (f:Fld) (L:List Vw):List Vw:=if f.Repeated=true then L else L.drop (L.length - 1)
theorem zuu (b:List UInt8) (f:Fld) (L:List Vw):(zpg f L).map (thOf b)=zgk f (L.map (thOf b)):=by
 unfold zpg zgk;split
 ·rfl
 ·rw [List.map_drop,yS]
theorem zHB :∀v∈zpg f L,v∈L:=fun v hv=>by
 unfold zpg at hv;split at hv
 ·exact hv
 ·exact List.mem_of_mem_drop hv
theorem zHA (f:Fld) (L:List Vw):(zpg f L).length<=L.length:=by
 unfold zpg;split
 ·exact xE _
 ·rw [yl];omega
theorem zue:∀(T:List Th),(T.flatMap (·.val)).length+T.length<=wt T
 | []=>by simp [wt]
 | t::T=>by have:=zue T;rw [xW,xF,xU,wt];omega
theorem zyy (k:Int):∀(T:List Th),(T.flatMap fun t=>(zcb k t.val).1).length<=wt T
 | []=>by simp [wt]
 | t::T=>by have:=zyy k T;have:=zAp k t.val;rw [xW,xF,wt];omega
theorem zGu (f:Fld) (T:List Th):wt (zgk f T)<=wt T:=by
 unfold zgk;split
 ·exact xE _
 ·have:∀(T:List Th) (k:Nat),wt (T.drop k)<=wt T:=fun T=>by
   induction T with
   | nil=>intro k;simp
   | cons t T ih=>
    intro k;cases k with
    | zero=>simp
    | succ k=>have:=ih k;rw [List.drop_succ_cons,wt];omega
  exact this T _
theorem zKl {rec1:List ze->Int->List UInt8->Option zb} {rec2:List ze->Fld->List UInt8->List PVw->Option (List zb)} {rec3:List ze->Fld->List UInt8->List PVw->Option za}
  {g:Int->List UInt8->Msg} {s:List Mes} {f:Fld} {b:List UInt8} {L:List Vw} (hat:At14 b L) (hne:L≠[]) (hw:wt (L.map (thOf b))<=1048576)
  (hg1:f.Repeated=true->∀t∈L,rec1 s f.Of (valB b t.R)=some (g f.Of (valB b t.R))) (hg2:f.Repeated=false->rec1 s f.Of ((L.map (thOf b)).flatMap (·.val))=some (g f.Of ((L.map (thOf b)).flatMap (·.val)))):
  zjj rec1 rec2 rec3 s f b (L.map prV)=some (if f.Repeated=true then (L.map (thOf b)).map fun t=>g f.Of t.val else [g f.Of ((L.map (thOf b)).flatMap (·.val))]):=by
 have hL:L.length<=1048576:=by have:=zyA (L.map (thOf b));rw [yS] at this;omega
 have hfl:((L.map fun t=>valB b t.R).flatten)=(L.map (thOf b)).flatMap (·.val):=by
  rw [pN,pv];rfl
 have hflen:=zue (L.map (thOf b));unfold zjj;rw [zmn (a:=L.length) (by simp) (y6 _) (by simp;omega),sb,zDv hL hat,sb];cases hr:f.Repeated
 ·by_cases h1:1<L.length
  ·rw [uB,znH (by simp;omega) (by rw [hfl];omega),sb,sb,zmn (bytes:=48) (a:=1) (by simp) (y6 _) (by simp),sb];have h:=zuD (rec:=rec1) (g:=g) (s:=s) (f:=f) (p:=[(L.map fun t=>valB b t.R).flatten]) (by simp) (fun v hv=>by
    simp only [xD,xR,xS] at hv;rw [hv,hfl];exact hg2 hr)
   have h':zge f [(L.map fun t=>valB b t.R).flatten] rec1 s (List.replicate 1 ⟨[],[]⟩) 0=_:=h;rw [h',sb,xy (by simp),qd,hfl]
  ·have hl1:L.length=1:=by
    have:L.length≠0:=fun e=>hne (yI e)
    omega
   obtain ⟨t,rfl⟩:=po.1 hl1;rw [uA,sb,zmn (bytes:=48) (a:=1) (by simp) (y6 _) (by simp),sb];have hv1:([t].map (thOf b)).flatMap (·.val)=valB b t.R:=by simp [thOf]
   have h:=zuD (rec:=rec1) (g:=g) (s:=s) (f:=f) (p:=[valB b t.R]) (by simp) (fun v hv=>by
    simp only [xD,xR,xS] at hv;rw [hv];have:=hg2 hr;rw [hv1] at this;exact this)
   have h':zge f (List.map (fun t=>valB b t.R) [t]) rec1 s (List.replicate 1 ⟨[],[]⟩) 0=_:=h;rw [h',sb,xy (by simp),hv1,qd]
 ·rw [uy,sb,zmn (a:=L.length) (by simp) (y6 _) (by simp;omega),sb];have h:=zuD (rec:=rec1) (g:=g) (s:=s) (f:=f) (p:=L.map fun t=>valB b t.R) (by simpa using hL) (fun v hv=>by
   obtain ⟨t,ht,rfl⟩:=xH.1 hv;exact hg1 hr t ht)
  rw [yS] at h;rw [h,sb,xz rfl,yM,yM];rfl
theorem zHU 
  (hb:b.length<=1048576) (hat:At14 b L) (hne:L≠[]) (hw:wt (L.map (thOf b))<=1048576)
  (h2:f.Kind=17->rec2 s f b (L.map prV)=some (if f.Repeated=true then (L.map (thOf b)).map fun t=>g f.Of t.val else [g f.Of ((L.map (thOf b)).flatMap (·.val))])):
  zie rec1 rec2 rec3 s f b (L.map prV)=some (valT g f (L.map (thOf b))):=by
 have hL:L.length<=1048576:=by have:=zyA (L.map (thOf b));rw [yS] at this;omega
 have hl0:L.length≠0:=fun e=>hne (yI e)
 unfold zie valT;by_cases wz:f.Kind=17
 ·rw [itF (by simp [wz]),sb,itT (by simp [wz]),h2 wz,sb,xz wz]
 ·have hp:(if ((!f.Repeated)&&(f.Kind !=17))=true then (cut (L.map prV) (i64.wrap (((L.map prV).length:Int) - 1)) ((L.map prV).length:Int)>>=fun v2=>some v2) else some (L.map prV))=some ((zpg f L).map prV):=by
   unfold zpg;cases hr:f.Repeated
   ·rw [itT (by simp [wz]),xy (by simp)];have hc:cut (L.map prV) (i64.wrap (((L.map prV).length:Int) - 1)) ((L.map prV).length:Int)=some ((L.drop (L.length - 1)).map prV):=by
     rw [zjx (a:=L.length - 1) (b:=L.length) (by rw [yS,uD];omega) (by simp) (by omega) (by simp)];rw [List.map_drop,yG (by simp)]
    rw [hc,sb]
   ·rw [uy,xz rfl]
  rw [hp,sb,itF (by simp [wz]),xy wz];have hpw:=zGu f (L.map (thOf b));rw [<-zuu] at hpw;have hpl:=zHA f L;have hpa:At14 b (zpg f L):=fun v hv=>hat v (zHB v hv)
  by_cases hx:f.Kind=15\/f.Kind=16
  ·have hk:(if (f.Kind==15)=true then some (f.Kind==15) else some (f.Kind==16))=some true:=by
    rcases hx with h| h
    ·rw [itT (by simp [h])];simp [h]
    ·rw [itF (by simp [h])];simp [h]
   rw [hk,sb,itT rfl,zKg (by omega) hpa,sb,xz hx,<-zuu,yM];rfl
  ·have hk:(if (f.Kind==15)=true then some (f.Kind==15) else some (f.Kind==16))=some false:=by
    rw [uC];simp;omega
   have hfm:((zpg f L).flatMap fun t=>(zcb f.Kind (valB b t.R)).1)=((zpg f L).map (thOf b)).flatMap fun t=>(zcb f.Kind t.val).1:=by rw [pN];rfl
   have hwl:=zyy f.Kind ((zpg f L).map (thOf b));rw [hk,sb,itF rfl,zHV hb (by omega) hpa (by rw [hfm];omega),sb,xy hx,<-zuu,hfm]
theorem zsL {s:List Mes} {e:Nat} {k:Int}:∀(l:List (List UInt8)),(∀v∈l,zav s e k v=none)->zav s e k l.flatten=none
 | [],_=>by rw [List.flatten_nil];exact zpL s e k
 | v::l,h=>by
  rw [qw];exact (zhU s e k l.flatten (h v xA)).2 (zsL l fun u hu=>h u (xB _ hu))
theorem zAr (p:Th->Bool):∀(T:List Th),wt (T.filter p)<=wt T
 | []=>by simp
 | t::T=>by
  have:=zAr p T;rw [qc];split
  ·rw [wt,wt];omega
  ·rw [wt];omega
theorem zns (hks:ks.length<=1048576)
  (hrow:∀n∈ks,∃(x:PVw) (f:Fld),idx ((mget q.1 n).getD []) 0=some x/\idx m.Fields x.Field=some f/\rec3 s f b ((mget q.1 n).getD [])=some (V n)/\(V n).Words.length<=1048576/\(V n).Texts.length<=1048576/\(V n).Subs.length<=1048577):
  ∀(c i:Nat) (out:List Vlu),i+c=ks.length->out.length<=i->zfP b q rec3 s ks m i out=some (out++((ks.drop i).map V).filter fun v=>decide (0<zbS v))
 | 0,i,out,hi,_=>by
  have e:ks.drop i=[]:=yK (by omega);rw [e];refine zrA ?_;unfold zcQ;rw [uC];simp
 | c+1,i,out,hi,ho=>by
  have hil:i<ks.length:=by omega
  obtain ⟨x,f,h1,h2,h3,h4,h5,h6⟩:=hrow _ (xI hil);rw [yy hil,xP,qc];have hx:idx ks (i:Int)=some ks[i]:=zal rfl hil;have hw:i64.wrap ((i:Int)+1)=((i+1:Nat):Int):=by rw [uD];push_cast;rfl
  by_cases hp:0<zbS (V ks[i])
  ·rw [xz (by simpa using hp)];refine (zlv (v6':=((i+1:Nat):Int)) (f3':=out++[V ks[i]]) ?_).trans ?_
   ·unfold zcQ;rw [uB,hx,sb,h1,sb,h2,sb,h3,sb,zuH ⟨by omega,by omega,by omega⟩,sb,itT (by simpa using hp),zem (by simp only [qg];omega),sb,hw]
   ·rw [zns hks hrow c (i+1) _ (by omega) (by simp;omega),yp];rfl
  ·rw [xy (by simpa using hp)];refine (zlv (v6':=((i+1:Nat):Int)) (f3':=out) ?_).trans (zns hks hrow c (i+1) out (by omega) (by omega));unfold zcQ;rw [uB,hx,sb,h1,sb,h2,sb,h3,sb,zuH ⟨by omega,by omega,by omega⟩,sb,itF (by simpa using hp),hw]
theorem zKo (g:Int->List UInt8->Msg) (f:Fld) (h:wt T<=1048576):(valT g f T).Words.length<=1048576/\(valT g f T).Texts.length<=1048576/\(valT g f T).Subs.length<=1048577:=by
 have h1:=zGu f T;have h2:=zyA (zgk f T);have h3:=zyy f.Kind (zgk f T);have h4:=zyA T;unfold valT;split
 ·refine ⟨by simp,by simp,?_⟩;simp only;split
  ·rw [yS];omega
  ·simp
 ·split
  ·refine ⟨by simp,?_,by simp⟩;simp only [yS];omega
  ·exact ⟨by simp only;omega,by simp,by simp⟩
theorem zyj {s:List Mes} (hs:zfs s) {d n k:Nat} {b:List UInt8} (hk:k<s.length) (hb:b.length<=1048576) (hfi:zav s d k b=none)
  (hrec:∀e,d=e+1->∀(k':Nat) (v:List UInt8),k'<s.length->v.length<=1048576->zav s e k' v=none->zfh n s k' v=some (ofM s k' v)):zfh (n+3) s k b=some (ofM s k b):=by
 have hm:idx s (k:Int)=some (zz s k):=by rw [zal rfl hk,zeG hk]
 have hmm:zz s (k:Int)∈s:=by rw [zeG hk];exact xI hk
 have hfew:=hs.few _ hmm;have hfld:=hs.fld _ hmm;have wF:=zGG hfi;have hwt:=zuI (zz s k) b;have hris:=ztu hs hmm;have hat9:=fun {i:Int} (h0:0<=i) (h1:i<(zz s (k:Int)).Fields.length)=>zsO hs hmm h0 h1
 rw [zmp]
 -- views
 have hvk:∀v∈(zgH (zz s (k:Int)) b).1,v.Field= -1\/0<=v.Field/\v.Field<(zz s (k:Int)).Fields.length/\fldI (zz s (k:Int)) v.R.Number=v.Field/\(zJ (zz s (k:Int)) v.Field).Number=v.R.Number:=by
  intro v hv;have h:=(zLI hv).2;rcases zhR (zz s (k:Int)) v.R.Number v.R.Wire with h1| ⟨h1,_⟩| ⟨i,run,h1,h2,h3⟩
  ·rw [h] at h1;cases h1
  ·rw [h] at h1;simp only [Sum.inr.injEq,yE] at h1;exact .inl h1.1
  ·rw [h] at h1;simp only [Sum.inr.injEq,yE] at h1;refine .inr ⟨by omega,by omega,by rw [h2,h1.1],?_⟩;rcases zdK (zz s (k:Int)) v.R.Number with ⟨g1,_⟩| ⟨j,hj,g1,g2,_⟩
   ·omega
   ·rw [h1.1,<-h2,g1,zdJ hj,g2]
 have hat:At14 b (zgH (zz s (k:Int)) b).1:=fun t ht=>zIm ht
 have hL:(zgH (zz s (k:Int)) b).1.length<=1048576:=yz (zLH _ _) hb;have hths:ths (zz s (k:Int)) b=(zgH (zz s (k:Int)) b).1.map (thOf b):=rfl;have hall:=zLM (m:=zz s (k:Int)) (by omega) hb;rw [hths] at wF hwt|-
 generalize zz s (k:Int)=m at hm hmm hfew hfld wF hwt hris hat9 hvk hat hL hall|-
 show zhO (zfh (n+2)) (zro (n+2)) (zkw (n+2)) s k b=_;unfold zhO;rw [hm,sb,hall,sb]
 generalize (zgH m b).2.1=c1
 generalize (zgH m b).2.2=c2
 generalize (zgH m b).1=L at wF hwt hvk hat hL|-
 have hl1:=zAP hL hat (fun v hv=>(hvk v hv).imp id fun h=>h.1) (c1,c2) L [] rfl;have hl1':zfO b (L.map prV,c1,c2) [] 0 []=_:=hl1;obtain ⟨ks,hks,hkp,hkm⟩:=zCJ (L:=L) (fun v hv hf=>by
  obtain ⟨h0,h1,_,h3⟩:=(hvk v hv).resolve_left hf;obtain ⟨i,hi⟩:∃i:Nat,v.Field=i:=⟨v.Field.toNat,by omega⟩;have hil:i<m.Fields.length:=by omega
  rw [hi,zdJ hil] at h3;have hfo:=hfld _ (xI hil);have:=hfo.lo;have:=hfo.hi;exact zIP (by omega)) hL
 rw [hl1',sb,hks,sb];have hrowis:∀n,(mget (L.foldl kn14 []) n).getD []=(zgn L n).map prV:=fun n=>by rw [zEB n L []];rfl
 let vo:Int->Vlu:=fun i=>valO (ofM s) (zJ m i) (accF (ofM s) (zJ m i) i acc0 (L.map (thOf b)))
 -- a field's views
 have hby:∀{i:Int},0<=i->i<m.Fields.length->(zgn L (zJ m i).Number).map (thOf b)=(L.map (thOf b)).filter fun t=>t.fi==i:=fun {i} h0 h1=>by
  unfold zgn;rw [List.filter_map];congr 1;refine List.filter_congr fun v hv=>?_
  show decide (v.Field≠ -1/\v.R.Number=(zJ m i).Number)=(v.Field==i);rw [yO,decide_eq_true_iff,qU];constructor
  ·rintro ⟨g1,g2⟩;obtain ⟨_,_,g3,_⟩:=(hvk v hv).resolve_left g1;rw [<-g3,g2,hat9 h0 h1]
  ·intro g;have g1:v.Field≠ -1:=by omega
   obtain ⟨_,_,_,g4⟩:=(hvk v hv).resolve_left g1;exact ⟨g1,by rw [<-g4,g]⟩
 have hvoT:∀{i:Int},0<=i->i<m.Fields.length->zgn L (zJ m i).Number≠[]->vo i=valT (ofM s) (zJ m i) ((zgn L (zJ m i).Number).map (thOf b))/\∀t∈(zgn L (zJ m i).Number).map (thOf b),OkF (zJ m i) t/\OkT s d m t/\t.fi=i:=fun {i} h0 h1 hne=>by
  have hT:=hby h0 h1;have hmem:∀t∈(zgn L (zJ m i).Number).map (thOf b),OkF (zJ m i) t/\OkT s d m t/\t.fi=i:=fun t ht=>by
   rw [hT,yh] at ht;have hfi':t.fi=i:=by simpa using ht.2
   have ho:=wF t ht.1;refine ⟨⟨fun hr=>?_,fun hr=>?_⟩,ho,hfi'⟩
   ·have:=ho.run (by omega) hr;rw [hfi'] at this;exact ⟨this.1,this.2.1⟩
   ·have:=ho.one (by omega) hr;rw [hfi'] at this;exact ⟨this.1,this.2.1⟩
  refine ⟨?_,hmem⟩;obtain ⟨j,rfl⟩:∃j:Nat,i=j:=⟨i.toNat,by omega⟩;have hjl:j<m.Fields.length:=by omega
  have hkr:zcw (zJ m (j:Int)).Kind=true:=by rw [zdJ hjl];exact (hfld _ (xI hjl)).kind
  show valO _ _ (accF _ _ _ _ _)=_;rw [zow,<-hT,zNt _ hkr (by simpa using hne) fun t ht=>(hmem t ht).1]
 have hkn:∀n∈ks,∃i:Int,0<=i/\i<m.Fields.length/\(zJ m i).Number=n/\fldI m n=i/\zgn L n≠[]/\∀v∈zgn L n,v.Field=i:=fun n hn=>by
  obtain ⟨v,hv,hf,hnn⟩:=(hkm n).1 hn;obtain ⟨g0,g1,g2,g3⟩:=(hvk v hv).resolve_left hf;refine ⟨v.Field,g0,g1,by rw [g3,hnn],by rw [<-hnn,g2],fun e=>?_,fun u hu=>?_⟩
  ·have:v∈zgn L n:=yh.2 ⟨hv,by simp [hf,hnn]⟩;rw [e] at this;cases this
  ·obtain ⟨hu1,hu2⟩:=yh.1 hu;obtain ⟨hu3,hu4⟩:=yA hu2;obtain ⟨_,_,q2,_⟩:=(hvk u hu1).resolve_left hu3;rw [<-q2,hu4,<-hnn,g2]
 have hkl:ks.length<=1048576:=by
  have wD:ks.length=(L.foldl kn14 []).length:=by
   unfold zpT at hks;split at hks
   ·cases hks;simp
   ·cases hks
  have:=zEC L [];rw [yv] at this;omega
 have hl2:=zns (rec3:=zkw (n+2)) (s:=s) (m:=m) (b:=b) (q:=(L.foldl kn14 [],unkO (L.map (thOf b)))) (V:=fun w=>vo (fldI m w)) hkl (fun w hn=>by
  obtain ⟨i,h0,h1,h2,h3,h4,h5⟩:=hkn w hn;have hwf:=zAr (fun t=>t.fi==i) (L.map (thOf b));rw [<-hby h0 h1,h2] at hwf;have hw':wt ((zgn L w).map (thOf b))<=1048576:=by omega
  obtain ⟨v0,r0,hv0⟩:=pm h4;obtain ⟨j,hj⟩:∃j:Nat,i=j:=⟨i.toNat,by omega⟩;have hjl:j<m.Fields.length:=by omega
  have hfj:idx m.Fields i=some (zJ m i):=by rw [hj,zal rfl hjl,zdJ hjl]
  have hfm:zJ m i∈m.Fields:=by rw [hj,zdJ hjl];exact xI hjl
  have hv0m:v0∈zgn L w:=by rw [hv0];exact xA
  have hv0f:v0.Field=i:=h5 v0 hv0m;have hvT:=hvoT h0 h1 (by rw [h2];exact h4);rw [h2] at hvT;have hbat:At14 b (zgn L w):=fun v hv=>hat v (yh.1 hv).1
  have wD:=zKo (ofM s) (zJ m i) hw';rw [<-hvT.1] at wD;refine ⟨prV v0,zJ m i,?_,?_,?_,by rw [h3];exact wD⟩
  ·rw [hrowis,hv0];rfl
  ·have:(prV v0).Field=v0.Field:=rfl;rw [this,hv0f];exact hfj
  ·rw [hrowis,h3,hvT.1];show zie (zfh (n+1)) (zro (n+1)) (zkw (n+1)) s (zJ m i) b _=_;refine zHU hb hbat h4 hw' fun wz=>?_
   show zjj (zfh n) (zro n) (zkw n) s (zJ m i) b _=_;have hof:=(hfld _ hfm).sub wz;obtain ⟨k',hk'⟩:∃k':Nat,(zJ m i).Of=k':=⟨(zJ m i).Of.toNat,by omega⟩;have hone:∀t∈zgn L w,∃e,d=e+1/\zav s e (zJ m i).Of (valB b t.R)=none:=fun t ht=>by
    obtain ⟨o1,o2,o3⟩:=hvT.2 _ (yW (f:=thOf b) ht);have hr:(thOf b t).run=false:=by
     cases hr:(thOf b t).run
     ·rfl
     ·have:=(o1.1 hr).1;rw [wz] at this;cases this
    have:=(o2.one (by omega) hr).2.2.2;rw [o3] at this;exact this wz
   refine zKl hbat h4 hw' (fun hr t ht=>?_) (fun hr=>?_)
   ·obtain ⟨e,he,hfe⟩:=hone t ht;have hvl:=zyB (yW (f:=thOf b) ht);have hvl':(valB b t.R).length+1<=wt ((zgn L w).map (thOf b)):=hvl;rw [hk'] at hfe|-;exact hrec e he k' _ (by omega) (by omega) hfe
   ·obtain ⟨e,he,_⟩:=hone v0 hv0m;have hfl:=zue ((zgn L w).map (thOf b));have hff:zav s e (zJ m i).Of (((zgn L w).map (thOf b)).flatMap (·.val))=none:=by
     rw [pv];refine zsL _ fun v hv=>?_
     obtain ⟨t',ht',rfl⟩:=xH.1 hv;obtain ⟨t,ht,rfl⟩:=xH.1 ht';obtain ⟨e',he',hfe⟩:=hone t ht;have:e'=e:=by omega
     rw [<-this];exact hfe
    rw [hk'] at hff|-;exact hrec e he k' _ (by omega) (by omega) hff) ks.length 0 [] (xO _) (xE _)
 have hl2':zfP b (L.foldl kn14 [],unkO (L.map (thOf b))) (zkw (n+2)) s ks m 0 []=_:=hl2;rw [hl2',sb,xV,xK];have hfin:((ks.map fun w=>vo (fldI m w)).filter fun v=>decide (0<zbS v))=zAm (ofM s) m (L.map (thOf b)) (zif (ziY m) m.Fields.length):=by
  show _=(((zif (ziY m) m.Fields.length).map vo).filter fun v=>decide (0<zbS v));rw [zwT vo (fun v=>decide (0<zbS v)) (fun i=> !(zgn L (zJ m i).Number).isEmpty) _ fun i hi hme=>?_]
  ·have hsub:∀i∈(zif (ziY m) m.Fields.length).filter (fun i=> !(zgn L (zJ m i).Number).isEmpty),0<=i/\i<m.Fields.length:=fun i hi=>zhm.1 (yh.1 hi).1
   have hks2:((zif (ziY m) m.Fields.length).filter (fun i=> !(zgn L (zJ m i).Number).isEmpty)).map (ziY m)=ks:=by
    refine zvn _ _ ?_ hkp fun w=>?_
    ·rw [pE];exact hris.filter _
    ·rw [xH];constructor
     ·rintro ⟨i,hi,rfl⟩;obtain ⟨hi1,hi2⟩:=yh.1 hi;have hne:zgn L (zJ m i).Number≠[]:=by
       intro e;rw [e] at hi2;simp at hi2
      obtain ⟨v0,r0,hv0⟩:=pm hne;have hv0m:v0∈zgn L (zJ m i).Number:=by rw [hv0];exact xA
      obtain ⟨q1,q2⟩:=yh.1 hv0m;obtain ⟨q3,q4⟩:=yA q2;exact (hkm _).2 ⟨v0,q1,q3,q4⟩
     ·intro hw;obtain ⟨i,h0,h1,h2,h3,h4,_⟩:=hkn w hw;exact ⟨i,yh.2 ⟨zhm.2 ⟨h0,h1⟩,by rw [h2];simpa using h4⟩,h2⟩
   have e1:(ks.map fun w=>vo (fldI m w))=((zif (ziY m) m.Fields.length).filter (fun i=> !(zgn L (zJ m i).Number).isEmpty)).map vo:=by
    rw [<-hks2,yM];refine qE fun i hi=>?_
    show vo (fldI m (ziY m i))=vo i;rw [zpS,hat9 (hsub i hi).1 (hsub i hi).2]
   rw [e1]
  ·obtain ⟨h0,h1⟩:=zhm.1 hi;have hbe:zgn L (zJ m i).Number=[]:=by simpa using hme
   have hT:=hby h0 h1;rw [hbe] at hT;have hvo:vo i=valO (ofM s) (zJ m i) acc0:=by
    show valO _ _ (accF _ _ _ _ _)=_;rw [zow,<-hT];rfl
   rw [hvo];rfl
 rw [hfin];rfl
theorem zKh (hs:zfs s):∀(d fuel k:Nat) (b:List UInt8),k<s.length->b.length<=1048576->3*d+3<=fuel->zav s d k b=none->zfh fuel s k b=some (ofM s k b):=by
 intro d
 induction d with
 | zero=>
  intro fuel k b hk hb hf hfi;obtain ⟨n,rfl⟩:∃n,fuel=n+3:=⟨fuel - 3,by omega⟩;exact zyj hs hk hb hfi fun e he=>by omega
 | succ d ih=>
  intro fuel k b hk hb hf hfi;obtain ⟨n,rfl⟩:∃n,fuel=n+3:=⟨fuel - 3,by omega⟩;exact zyj hs hk hb hfi fun e he k' v h1 h2 h3=>by
   have:e=d:=by omega
   subst this;exact ih n k' v h1 h2 (by omega) h3
theorem zNr (root:Int) (d:Int) (hf:300<=fuel) (hw:WS s) (hb:b.length<=1048576):ztx fuel s root b d=some (zBD s root b d):=by
 unfold ztx zBD;rw [zHY hw root hb d (by omega),sb];by_cases h0:(zhw s root b d).2=0
 ·have h0':¬(zhw s root b d).2≠0:=fun h=>h h0
  obtain ⟨hr,g1,g2,g3,g4⟩:=ztW (zAE h0);obtain ⟨k,rfl⟩:∃k:Nat,root=k:=⟨root.toNat,by omega⟩;have hfi:zav s d.toNat k b=none:=(zCy.1 (by unfold is11;simpa using h0)).2;rw [itF (by simpa using h0),xy h0',zKh hr d.toNat fuel k b (by omega) hb (by omega) hfi,sb]
 ·rw [itT (by simpa using h0),xz h0]
structure zzc (l:List zaS):Prop where
 sorted:l.Pairwise (fun a b=>zdp a b=true)
 full:∀w∈l,w≠[]
 anti:∀v∈l,∀w∈l,v<+:w->v=w
theorem zzc.of (h:zzc l):ofW l=l:=
 zvq _ _ (zEO l) h.sorted fun w=>by
  rw [zGm];exact ⟨fun k=>k.1,fun hw=>⟨hw,h.full w hw,fun v hv _ hp=>h.anti v hv w hw hp⟩⟩
theorem zzc.filter (h:zzc l) (p:zaS->Bool):zzc (l.filter p):=
 ⟨h.sorted.filter p,fun w hw=>h.full w (yh.1 hw).1,fun v hv w hw=>h.anti v (yh.1 hv).1 w (yh.1 hw).1⟩
structure Fo (pre acc:List zaS):Prop where
 mask:zzc acc
 has:∀v,hasB acc v=hasB pre v
 mem:∀a∈acc,a∈pre
abbrev zNA:=List (zMu×Int)
structure Trie (t:zNA) (A:List zaS) (P:List (zaS×Int)):Prop where
 root:([],0)∈P
 same:∀p∈P,∀q∈P,(p.2=q.2↔p.1=q.1)
 ids:∀p∈P,0<=p.2/\p.2<=t.length
 keys:∀(i n:Int),(t.length:Int)<i->mget t ⟨i,n⟩=none
 leaf:∀p∈P,∀n,p.1++[n]∈A->mget t ⟨p.2,n⟩=some (-1)
 node:∀p∈P,∀n,∀q∈P,q.1=p.1++[n]->mget t ⟨p.2,n⟩=some q.2
 none:∀p∈P,∀n,p.1++[n]∉A->(∀q∈P,q.1≠p.1++[n])->mget t ⟨p.2,n⟩=none
 clo:∀q∈P,∀p n,q.1=p++[n]->∃i,(p,i)∈P
 comp:∀a∈A,∀p,p<+:a->p≠a->∃i,(p,i)∈P
 anti:∀v∈A,∀w∈A,v<+:w->v=w
 full:∀a∈A,a≠[]
section
end
def UW (w:List zaS):Prop:=w.length<=4194304/\∀x∈w,x.length<=4194304
theorem UW.of (h:UW w):UW (ofW w):=⟨yz (zLk w) h.1,fun x hx=>h.2 x (zGm.1 hx).1⟩
theorem UW.filter (h:UW w) (p:zaS->Bool):UW (w.filter p):=⟨yz (uo _ _) h.1,fun x hx=>h.2 x (yh.1 hx).1⟩
def zmo (l:List Vlu):List (Int×Vlu):=l.map fun v=>(v.Number,v)
theorem zxw:∀(l:List Vlu) (n:Int),mget (zmo l) n=look l n
 | [],n=>rfl
 | v::l,n=>by
  show mget ((v.Number,v)::zmo l) n=_;rw [mget,zct,zxw l n];by_cases h:n=v.Number
  ·rw [xz h,xz h.symm]
  ·rw [xy h,xy (fun e=>h e.symm)]
theorem zEL {m:List (Int×Vlu)} {n:Int} (h:mget m n=none) (v:Vlu):mput m n v=m++[(n,v)]:=by
 induction m with
 | nil=>rfl
 | cons p m ih=>
  rw [mget] at h;split at h
  ·cases h
  ·rename_i hn;rw [mput,xy hn,ih h];rfl
theorem zve (hr:zdi l) (hk:k<l.length):look (l.take k) (l[k]).Number=none:=by
 cases h:look (l.take k) (l[k]).Number with
 | none=>rfl
 | some u=>
  obtain ⟨h1,h2⟩:=zde h;obtain ⟨i,hi,e⟩:=qo h2;rw [yu] at hi;rw [List.getElem_take] at e;have:=(List.pairwise_iff_getElem.1 hr) i k (by omega) hk (by omega);rw [e] at this;omega
theorem zGU {x:Msg} (hr:zdi x.Values) (hl:x.Values.length<=1048576):∀(t:List Vlu) (k:Nat),x.Values.drop k=t->k<=x.Values.length->zdS x (zmo (x.Values.take k)) k=some (zmo x.Values):=by
 intro t
 induction t with
 | nil=>
  intro k hd hk;have:=zkf hd;obtain rfl:k=x.Values.length:=by omega
  rw [qH];refine znD ?_;unfold zcc;rw [uA]
 | cons v t ih=>
  intro k hd hk;obtain ⟨wx,hx,hd'⟩:=ziH hd;refine (znC (values':=zmo (x.Values.take (k+1))) (v':=((k+1:Nat):Int)) ?_).trans (ih (k+1) hd' (by omega));unfold zcc;rw [uB,zal rfl wx,sb,uD,zEL (by rw [zxw];exact zve hr wx),qG wx];unfold zmo;rw [yx];push_cast;rfl
theorem zKD (hr:zdi x.Values) (hl:x.Values.length<=1048576):zgq x=some (zmo x.Values):=by
 unfold zgq;have h:=zGU hr hl x.Values 0 rfl (xM _);have h':zdS x [] 0=_:=h;rw [h',sb]
theorem zJv (hl:ks.length<=4194304):∀(t:List Int) (k:Nat),ks.drop k=t->k<=ks.length->zel ks m ((ks.take k).map fun n=>(mget m n).getD zvlu) k=some (ks.map fun n=>(mget m n).getD zvlu):=by
 intro t
 induction t with
 | nil=>
  intro k hd hk;have:=zkf hd;obtain rfl:k=ks.length:=by omega
  rw [qH];refine zoy ?_;unfold zcu;rw [uA]
 | cons v t ih=>
  intro k hd hk;obtain ⟨wx,hx,hd'⟩:=ziH hd;refine (zox (l':=(ks.take (k+1)).map fun n=>(mget m n).getD zvlu) (v3':=((k+1:Nat):Int)) ?_).trans (ih (k+1) hd' (by omega));unfold zcu;rw [uB,zal rfl wx,sb,zem (by simp;omega),sb,uD,qG wx,yx];push_cast;rfl
theorem zMZ (hn:(m.map Prod.fst).Nodup) (hv:∀n v,mget m n=some v->v.Number=n) (hw:∀n∈m.map Prod.fst,(Lit.int .i64 n).wf=true) (hl:m.length<=4194304):
  ∃l,zgY m=some l/\zdi l/\∀n,look l n=mget m n:=by
 have hall:(m.all fun p=>(Lit.int .i64 p.1).wf)=true:=by
  rw [xL];exact fun p hp=>hw p.1 (yW hp)
 obtain ⟨ks,hks⟩:∃ks,ks=(m.map Prod.fst).mergeSort fun x y=>decide (x<=y):=⟨_,rfl⟩
 have hp:=List.mergeSort_perm (m.map Prod.fst) fun x y=>decide (x<=y)
 have hs:=uu (le:=fun x y:Int=>decide (x<=y)) (fun a b c h k=>by simp at*;omega) (fun a b=>by simp;omega) (m.map Prod.fst);rw [<-hks] at hp hs;have hnd:=hp.nodup_iff.2 hn;have wx:ks.Pairwise (·<·):=(List.Pairwise.and hs hnd).imp fun {a b} h=>by
  have h1:a<=b:=by simpa using h.1
  have h2:a≠b:=h.2;omega
 have hkl:ks.length=m.length:=by rw [hp.length_eq,yS]
 have hsome:∀n∈ks,∃v,mget m n=some v:=fun n h=>by
  cases hg:mget m n with
  | some v=>exact ⟨v,rfl⟩
  | none=>exact absurd (hp.mem_iff.1 h) (zup hg)
 refine ⟨ks.map fun n=>(mget m n).getD zvlu,?_,?_,fun n=>?_⟩
 ·unfold zgY;rw [zGg (by omega) (by omega),sb];unfold zpT;rw [xz ⟨hall,by omega⟩,<-hks,sb];have h:=zJv (m:=m) (ks:=ks) (by omega) ks 0 rfl (xM _);have h':zel ks m [] 0=_:=h;rw [h',sb]
 ·unfold zdi;rw [pE];refine wx.imp_of_mem fun {a b} ha hb h=>?_
  obtain ⟨v,e1⟩:=hsome a ha;obtain ⟨u,e2⟩:=hsome b hb;rw [e1,e2];show v.Number<u.Number;rw [hv a v e1,hv b u e2];exact h
 ·have key:∀l:List Int,(∀n∈l,∃v,mget m n=some v)->look (l.map fun n=>(mget m n).getD zvlu) n=if n∈l then mget m n else none:=by
   intro l
   induction l with
   | nil=>intro _;rfl
   | cons a l ih=>
    intro ha;obtain ⟨v,e1⟩:=ha a xA;rw [xP,zct,ih fun n h=>ha n (xB _ h),e1];show (if v.Number=n then some v else _)=_;rw [hv a v e1];by_cases h:a=n
    ·subst h;rw [xz rfl,xz xA,e1]
    ·rw [xy h];by_cases h2:n∈l
     ·rw [xz h2,xz (xB _ h2)]
     ·rw [xy h2,xy (fun hc=>(xD.1 hc).elim (fun e=>h e.symm) h2)]
  rw [key ks hsome];by_cases h:n∈ks
  ·rw [xz h]
  ·rw [xy h];cases hg:mget m n with
   | none=>rfl
   | some v=>exact absurd (hp.mem_iff.2 (zCW hg)) h
theorem zzi (v:Vlu):zhi v=some (v.Subs.headD zMr):=by
 unfold zhi;cases h:v.Subs with
 | nil=>rfl
 | cons y l=>
  rw [uC];rfl
theorem zGV (n:Int) (x:Msg):zkz n x=some ⟨n,[],[],[x]⟩:=rfl
theorem zuf (h:0<=fldI m n):fldI m n<m.Fields.length/\(zJ m (fldI m n)).Number=n:=by
 rcases zdK m n with ⟨e,_⟩| ⟨i,hi,e,hn,_⟩
 ·omega
 ·rw [e];refine ⟨by omega,?_⟩;unfold zJ;rw [xN,pi,xQ hi];exact hn
theorem zGS (hl:m.Fields.length<=140737488351232) (h:0<=fldI m n):zis m n=some (zJ m (fldI m n)):=by
 unfold zis;rw [zmR hl,sb];have h0:=h;unfold fldI ziI at h0;cases hf:m.Fields.findIdx? (fun f:Fld=>f.Number==n) with
 | none=>rw [hf] at h0;simp at h0
 | some i=>
  have e:fldI m n=i:=by unfold fldI ziI;rw [hf]
  have hi:i<m.Fields.length:=by have:=(zuf h).1;omega
  rw [e,zal rfl hi,sb];unfold zJ;rw [xN,pi,xQ hi];rfl
structure Ok15 (fuel:Nat) (x:Msg):Prop where
 b:bdM x
 s:smM x
 z:2*szM x<fuel
 d:szM x<=131072
theorem Ok15.dm (h:Ok15 fuel x):dM x<=131072:=by have:=zCi x;have:=h.d;omega
theorem Ok15.right {fuel:Nat} {x:Msg} (h:Ok15 fuel x) {s:List Mes} (hw:WS s) (root:Int):ziN fuel s root x=some (zff s&&zaE s x root):=zyo root h.z hw h.b h.s h.dm
theorem zIj (root:Int) (hw:WS s) (hne:l≠[]) (hl:l.length<=1048576) (hx:∀x∈l,Ok15 fuel x):zjw fuel s root l=some (zeh s root l):=by
 have hloop:∀(t:List Msg) (k:Nat),l.drop k=t->k<=l.length->(∃j:Nat,zH fuel l s root k=some (.inr j)/\t.all (fun x=>zff s&&zaE s x root)=false)\/
   zH fuel l s root k=some (.inl ())/\t.all (fun x=>zff s&&zaE s x root)=true:=by
  intro t
  induction t with
  | nil=>
   intro k hd hk;have:=zkf hd;refine .inr ⟨zbZ ?_,rfl⟩;unfold zP;rw [uC]
  | cons v t ih=>
   intro k hd hk;obtain ⟨wx,hv,hd'⟩:=ziH hd;have h1:zhA fuel v s root=some (!(zff s&&zaE s v root)):=by
    unfold zhA;rw [(hx v (hv▸xI wx)).right hw,sb]
   cases hb:zff s&&zaE s v root with
   | false=>
    refine .inl ⟨k,zbZ ?_,by rw [yD,hb];rfl⟩;unfold zP;rw [uB,zal rfl wx,sb,hv,h1,sb,itT (by rw [hb];rfl)]
   | true=>
    have hs:zH fuel l s root k=zH fuel l s root ((k+1:Nat):Int):=by
     refine zee ?_;unfold zP;rw [uB,zal rfl wx,sb,hv,h1,sb,itF (by rw [hb];rfl),uD];push_cast;rfl
    rw [hs];rcases ih (k+1) hd' (by omega) with ⟨j,g1,g2⟩| ⟨g1,g2⟩
    ·exact .inl ⟨j,g1,by rw [yD,hb,g2];rfl⟩
    ·exact .inr ⟨g1,by rw [yD,hb,g2];rfl⟩
 have hc:zar fuel l s root=some (!l.all (fun x=>zff s&&zaE s x root)):=by
  unfold zar zaO;rcases hloop l 0 rfl (xM _) with ⟨j,g1,g2⟩| ⟨g1,g2⟩
  ·have g1':zH fuel l s root 0=_:=g1;rw [g1',sb,g2];simp only;rw [sb,xT (by omega)];rfl
  ·have g1':zH fuel l s root 0=_:=g1;rw [g1',sb,g2];simp only;rw [sb];rfl
 unfold zjw;rw [hc,sb];cases hr:zff s with
 | false=>
  obtain ⟨x,l',rfl⟩:=pm hne;have hm:zeh s root (x::l')=9:=by unfold zeh zgr;rw [hr];rfl
  rw [hm,uA,zqo hw,sb,hr,uw]
 | true=>
  by_cases hroot:root<0\/root>=s.length
  ·obtain ⟨x,l',rfl⟩:=pm hne;have hx0:zaE s x root=false:=by
    cases h:zaE s x root with
    | false=>rfl
    | true=>obtain ⟨a,b,_⟩:=zaZ h;omega
   have ha:zgr s root=2:=by unfold zgr;rw [hr,xy (show ¬true=false by simp),xz hroot]
   have hm:zeh s root (x::l')=2:=by unfold zeh;rw [ha];rfl
   rw [hm,itF (by simp [hx0]),zqo hw,sb,hr,uy,itT (by simpa using hroot)]
  ·have ha:zgr s root=0:=by unfold zgr;rw [hr,xy (show ¬true=false by simp),xy hroot]
   have hm:zeh s root l=if l.all (fun x=>zaE s x root)=true then 0 else 12:=by unfold zeh;rw [ha];rfl
   rw [hm];simp only [yd,Bool.not_not];cases hall:l.all (fun x=>zaE s x root) with
   | true=>rw [uw,xz rfl]
   | false=>
    rw [uy,zqo hw,sb,hr,uy,uC];rfl
theorem zIM {n:Nat} (h:n<=2097152):zcy (n:Int)=some []:=by
 unfold zcy;have e:i64.wrap ((n:Int) - i64.wrap (0 - 0))=n:=by rw [zC (x:=0 - 0) (by omega),uD];omega
 rw [uA,e];by_cases h0:(n:Int)>0
 ·rw [itT (by simpa using h0),zmn (a:=n) rfl (y6 _) (by omega),sb];have e0:cut (List.replicate n ([]:Str)) 0 0=some []:=znI (b:=0) rfl (xM _);rw [e0,sb]
 ·rw [itF (by simpa using h0)]
theorem zwJ {a b:List Str} (h:a.length+b.length<=2097152):zby [a,b]=some (a++b):=by
 have b0:∀s:Nat,s+a.length<=2097152->zZ [a,b] s 0=some (.inl (((s+a.length:Nat):Int),1)):=fun s hs=>by
  unfold zZ;rw [uz,show idx [a,b] 0=some a from rfl,sb];rw [uD,uC,uD];push_cast;rfl
 have b1:∀s:Nat,s+b.length<=2097152->zZ [a,b] s 1=some (.inl (((s+b.length:Nat):Int),2)):=fun s hs=>by
  unfold zZ;rw [uz,show idx [a,b] 1=some b from rfl,sb];rw [uD,uC,uD];push_cast;rfl
 have l1:zbO [a,b] 0 0=some ((a.length+b.length:Nat):Int):=by
  have e0:=b0 0 (by omega);rw [xO] at e0;rw [zeO (show zZ [a,b] 0 0=_ from e0),zeO (b1 a.length (by omega))];refine zhX ?_;unfold zZ;rw [uy]
 have l2:zbP [a,b] [] 0=some (a++b):=by
  rw [zeP (wY:=a) (v2':=1) (by
   unfold zao;rw [uz,show idx [a,b] 0=some a from rfl,sb];rw [zem (by simp;omega),sb,xK];rfl),zeP (wY:=a++b) (v2':=2) (by
   unfold zao;rw [uz,show idx [a,b] 1=some b from rfl,sb];rw [zem (by omega),sb];rfl)]
  refine zhY ?_;unfold zao;rw [uy]
 unfold zby;rw [l1,sb,zIM h,sb,l2,sb]
theorem zIN {n:Nat} (h:n<=2097152):zcz (n:Int)=some []:=by
 unfold zcz;have e:i64.wrap ((n:Int) - i64.wrap (0 - 0))=n:=by rw [zC (x:=0 - 0) (by omega),uD];omega
 rw [uA,e];by_cases h0:(n:Int)>0
 ·rw [itT (by simpa using h0),zmn (a:=n) rfl (y6 _) (by omega),sb];have e0:cut (List.replicate n (0:Int)) 0 0=some []:=znI (b:=0) rfl (xM _);rw [e0,sb]
 ·rw [itF (by simpa using h0)]
theorem zEp {a b:List Int} (h:a.length+b.length<=2097152):zci [a,b]=some (a++b):=by
 have b0:∀s:Nat,s+a.length<=2097152->zaa [a,b] s 0=some (.inl (((s+a.length:Nat):Int),1)):=fun s hs=>by
  unfold zaa;rw [uz,show idx [a,b] 0=some a from rfl,sb];rw [uD,uC,uD];push_cast;rfl
 have b1:∀s:Nat,s+b.length<=2097152->zaa [a,b] s 1=some (.inl (((s+b.length:Nat):Int),2)):=fun s hs=>by
  unfold zaa;rw [uz,show idx [a,b] 1=some b from rfl,sb];rw [uD,uC,uD];push_cast;rfl
 have l1:zbQ [a,b] 0 0=some ((a.length+b.length:Nat):Int):=by
  have e0:=b0 0 (by omega);rw [xO] at e0;rw [zeQ (show zaa [a,b] 0 0=_ from e0),zeQ (b1 a.length (by omega))];refine zia ?_;unfold zaa;rw [uy]
 have l2:zbR [a,b] [] 0=some (a++b):=by
  rw [zeR (wY:=a) (v2':=1) (by
   unfold zap;rw [uz,show idx [a,b] 0=some a from rfl,sb];rw [zem (by simp;omega),sb,xK];rfl),zeR (wY:=a++b) (v2':=2) (by
   unfold zap;rw [uz,show idx [a,b] 1=some b from rfl,sb];rw [zem (by omega),sb];rfl)]
  refine zib ?_;unfold zap;rw [uy]
 unfold zci;rw [l1,sb,zIN h,sb,l2,sb]
theorem zHg {n:Nat} (h:n<=2097152):zbW (n:Int)=some []:=by
 unfold zbW;have e:i64.wrap ((n:Int) - i64.wrap (0 - 0))=n:=by rw [zC (x:=0 - 0) (by omega),uD];omega
 rw [uA,e];by_cases h0:(n:Int)>0
 ·rw [itT (by simpa using h0),zmn (a:=n) rfl (y6 _) (by omega),sb];have e0:cut (List.replicate n (⟨[],[]⟩:Msg)) 0 0=some []:=znI (b:=0) rfl (xM _);rw [e0,sb]
 ·rw [itF (by simpa using h0)]
theorem zCe {a b:List Msg} (h:a.length+b.length<=2097152):zbC [a,b]=some (a++b):=by
 have b0:∀s:Nat,s+a.length<=2097152->zR [a,b] s 0=some (.inl (((s+a.length:Nat):Int),1)):=fun s hs=>by
  unfold zR;rw [uz,show idx [a,b] 0=some a from rfl,sb];rw [uD,uC,uD];push_cast;rfl
 have b1:∀s:Nat,s+b.length<=2097152->zR [a,b] s 1=some (.inl (((s+b.length:Nat):Int),2)):=fun s hs=>by
  unfold zR;rw [uz,show idx [a,b] 1=some b from rfl,sb];rw [uD,uC,uD];push_cast;rfl
 have l1:zbo [a,b] 0 0=some ((a.length+b.length:Nat):Int):=by
  have e0:=b0 0 (by omega);rw [xO] at e0;rw [zea (show zR [a,b] 0 0=_ from e0),zea (b1 a.length (by omega))];refine zhf ?_;unfold zR;rw [uy]
 have l2:zbp [a,b] [] 0=some (a++b):=by
  rw [zeb (wY:=a) (v2':=1) (by
   unfold zai;rw [uz,show idx [a,b] 0=some a from rfl,sb];rw [zem (by simp;omega),sb,xK];rfl),zeb (wY:=a++b) (v2':=2) (by
   unfold zai;rw [uz,show idx [a,b] 1=some b from rfl,sb];rw [zem (by omega),sb];rfl)]
  refine zhg ?_;unfold zai;rw [uy]
 unfold zbC;rw [l1,sb,zHg h,sb,l2,sb]
theorem zLN (u:Vlu):(⟨u.Number,u.Words,u.Texts,u.Subs⟩:Vlu)=u:=by cases u;rfl
def jv15 (s:List Mes) (a:Msg) (k:Int) (v:Vlu):Vlu:=zgo s v (look a.Values v.Number) (zJ (zz s k) (fldI (zz s k) v.Number))
structure Jm (s:List Mes) (a:Msg) (k:Int) (t:List Vlu) (q:List (Int×Vlu)):Prop where
 nd:(q.map Prod.fst).Nodup
 get:∀n,mget q n=match look t n with
  | some v=>some (jv15 s a k v)
  | none=>look a.Values n
 len:q.length<=a.Values.length+t.length
theorem Jm.put (h:Jm s a k t q) (hn:look t v.Number=none):Jm s a k (t++[v]) (mput q v.Number (jv15 s a k v)):=by
 refine ⟨zoO h.nd _ _,fun n=>?_,?_⟩
 ·rw [zjb,zqa];by_cases e:n=v.Number
  ·subst e;rw [xz rfl,hn];simp only;rw [zct,xz rfl]
  ·rw [xy e,h.get];cases hl:look t n with
   | some u=>rfl
   | none=>
    simp only;rw [zct,xy (fun e'=>e e'.symm)];rfl
 ·have:=zCX q v.Number (jv15 s a k v);have:=h.len;rw [xF,qg];omega
theorem zDZ (hs:zfs s) (hk:k<s.length) (ra:zaE s a k=true) (rb:zaE s b k=true) (sa:smM a) (sb':smM b) (ba:bdM a) (bb:bdM b)
  (hrv:∀v∈b.Values,∀u,look a.Values v.Number=some u->rv s (zJ (zz s k) (fldI (zz s k) v.Number)) u v=some (jv15 s a k v)):
  ∃q,zfK b k rv s (zmo a.Values) 0=some q/\Jm s a k b.Values q:=by
 obtain ⟨_,_,a3,a4,_⟩:=zaZ ra;obtain ⟨_,_,b3,b4,_⟩:=zaZ rb;have al:=((znt a).1 sa).1;have bl:=((znt b).1 sb').1;have hm:zz s (k:Int)=s[k]:=zeG hk;have hfew:=hs.few s[k] (xI hk);have key:∀(t:List Vlu) (i:Nat) (q:List (Int×Vlu)),b.Values.drop i=t->i<=b.Values.length->Jm s a k (b.Values.take i) q->∃q',zfK b k rv s q i=some q'/\Jm s a k b.Values q':=by
  intro t
  induction t with
  | nil=>
   intro i q hd hi hJ;have:=zkf hd;obtain rfl:i=b.Values.length:=by omega
   rw [qH] at hJ;refine ⟨q,zrt ?_,hJ⟩;unfold zdm;rw [uA]
  | cons v t ih=>
   intro i q hd hi hJ;obtain ⟨wx,hv,hd'⟩:=ziH hd;have hbef:=zve b3 wx;rw [hv] at hbef;have hJ':=hJ.put hbef;rw [show b.Values.take i++[v]=b.Values.take (i+1) by rw [qG wx,hv]] at hJ';obtain ⟨q',g1,g2⟩:=ih (i+1) _ hd' (by omega) hJ';refine ⟨q',(zrs (values':=mput q v.Number (jv15 s a k v)) (v':=((i+1:Nat):Int)) ?_).trans g1,g2⟩;have hg:=hJ.get v.Number;rw [hbef] at hg;simp only at hg;have hvm:v∈b.Values:=hv▸xI wx;unfold zdm;rw [uB,zal rfl wx,sb,hv,hg];cases hu:look a.Values v.Number with
   | none=>
    rw [uy,uD];have e:jv15 s a k v=v:=by unfold jv15;rw [hu,zhb]
    rw [e];push_cast;rfl
   | some u=>
    have hf:=(b4 v hvm).1;rw [uw,zal rfl hk,sb,<-hm,zGS (by rw [hm];omega) hf,sb,yP,zLN,hrv v hvm u hu,sb,uD];have e:(jv15 s a k v).Number=v.Number:=znP _ _ _ _;rw [e];push_cast;rfl
 exact key b.Values 0 (zmo a.Values) rfl (xM _) ⟨by
  unfold zmo;rw [yM];exact pE.2 (a3.imp fun h=>by simp only [Function.comp];omega),fun n=>by rw [zxw];rfl,by simp [zmo]⟩
theorem zFv (hs:zfs s):∀(fuel:Nat),(∀(a b:Msg) (k:Nat),2*szM b<fuel->k<s.length->zaE s a k=true->zaE s b k=true->bdM a->bdM b->smM a->smM b->zhS fuel s k a b=some (zfG s b a k))/\
  ∀(f:Fld) (u v:Vlu),2*szV v<fuel->f.Number=v.Number->zgX s u f->zgX s v f->bdV u->bdV v->smV u->smV v->zft fuel s f u v=some (zgo s v (some u) f)
 | 0=>⟨fun a b k h=>by omega,fun f u v h=>by omega⟩
 | fuel+1=>by
  obtain ⟨ih1,ih2⟩:=zFv hs fuel;refine ⟨fun a b k hz hk ra rb ba bb sa sb'=>?_,fun f u v hz hn hu hv bu bv su sv=>?_⟩
  ·obtain ⟨_,_,a3,a4,_⟩:=zaZ ra;obtain ⟨_,_,b3,b4,_⟩:=zaZ rb;have al:=(znt a).1 sa;have bl:=(znt b).1 sb';have bda:=(zhD a).1 ba;have bdb:=(zhD b).1 bb;have hm:zz s (k:Int)=s[k]:=zeG hk;rw [zcA] at hz;obtain ⟨q,g1,g2⟩:=zDZ hs hk (rv:=zft fuel) ra rb sa sb' ba bb fun v hv u hu=>by
    obtain ⟨e,hum⟩:=zde hu;have:=zdA hv;have hf:=(b4 v hv).1;have hfu:=zdd (a4 u hum).2;rw [e] at hfu;rw [ih2 _ u v (by omega) (zuf hf).2 hfu (zdd (b4 v hv).2) (zdr.1 bda.2.2 u hum) (zdr.1 bdb.2.2 v hv) (ziy.1 al.2.2 u hum) (ziy.1 bl.2.2 v hv)];unfold jv15;rw [hu]
   have hnum:∀n v,mget q n=some v->v.Number=n/\0<=fldI (zz s k) n:=fun n v hg=>by
    rw [g2.get] at hg;cases hl:look b.Values n with
    | some w=>
     rw [hl] at hg;cases hg;obtain ⟨e,hwm⟩:=zde hl;exact ⟨(znP _ _ _ _).trans e,by rw [<-e];exact (b4 w hwm).1⟩
    | none=>
     rw [hl] at hg;obtain ⟨e,hwm⟩:=zde hg;exact ⟨e,by rw [<-e];exact (a4 v hwm).1⟩
   obtain ⟨l,o1,o2,o3⟩:=zMZ g2.nd (fun n v hg=>(hnum n v hg).1) (fun n hn=>by
    cases hg:mget q n with
    | none=>exact absurd hn (zup hg)
    | some v=>exact zMC hs (by omega) (by omega) (hnum n v hg).2) (by
     have:=g2.len;omega)
   obtain ⟨j1,j2⟩:=zqW ra rb;have hl:l=(zfG s b a k).Values:=zta o2 j1 fun n=>by
    rw [o3,g2.get,j2];cases hl:look b.Values n with
    | none=>rfl
    | some w=>
     obtain ⟨e,_⟩:=zde hl;simp only;unfold jv15;rw [e]
   show zhC (zhS fuel) (zft fuel) s k a b=_;unfold zhC;rw [zKD a3 al.1,sb,g1,sb,o1,sb,zwJ (by omega),sb,hl,zkT]
  ·show zeD (zhS fuel) (zft fuel) s f u v=_;unfold zeD;rw [zhb];simp only;obtain ⟨u1,⟨u2,_⟩,u3,u4⟩:=(zqv u).1 su;obtain ⟨v1,⟨v2,_⟩,v3,v4⟩:=(zqv v).1 sv;by_cases hr:f.Repeated=true
   ·rw [itT hr,zEp (by omega),sb,zwJ (by omega),sb,zCe (by omega),sb,xz hr,hn]
   ·have hr':f.Repeated=false:=by simpa using hr
    rw [itF hr',xy hr];by_cases wz:f.Kind=17
    ·obtain ⟨x,ex,rx⟩:=hu.msg wz hr';obtain ⟨y,ey,ry⟩:=hv.msg wz hr';have ux:u.Subs=[x]:=by rw [ex]
     have vy:v.Subs=[y]:=by rw [ey]
     rw [zeq,vy] at hz;simp only [szMs] at hz;obtain ⟨k0,k1,_⟩:=zaZ rx;obtain ⟨j,hj⟩:∃j:Nat,f.Of=j:=⟨f.Of.toNat,by omega⟩;have bx:bdM x:=zeg.1 ((zgs u).1 bu).2.2.2.2 x (by rw [ux];exact xA);have by':bdM y:=zeg.1 ((zgs v).1 bv).2.2.2.2 y (by rw [vy];exact xA)
     have sx:smM x:=zix.1 u4 x (by rw [ux];exact xA);have sy:smM y:=zix.1 v4 y (by rw [vy];exact xA);rw [hj] at rx ry;have:=ih1 x y j (by omega) (by omega) rx ry bx by' sx sy
     rw [itT (by simp [wz]),xz wz,zzi,sb,zzi,sb,ux,vy,hj];simp only [q9];rw [this,sb,zGV,sb,zkk,hn]
    ·rw [itF (by simp [wz]),xy wz]
theorem zIl (root:Int) (hw:WS s) (ha:Ok15 fuel a) (hb:Ok15 fuel b) (hr:zeh s root [a,b]=0->szM (zfG s b a root)<fuel/\szM (zfG s b a root)<=131072):
  zjv fuel s root a b=some (if zeh s root [a,b]=0 then (zfG s b a root,0) else (zMr,zeh s root [a,b])):=by
 unfold zjv;rw [zIj root hw (by simp) (by simp) (fun y hy=>by
  simp only [xD,xR,xS] at hy;rcases hy with rfl| rfl
  ·exact ha
  ·exact hb),sb]
 by_cases h0:zeh s root [a,b]=0
 ·obtain ⟨hs,g1,g2,g3⟩:=zml h0;obtain ⟨k,rfl⟩:∃k:Nat,root=k:=⟨root.toNat,by omega⟩;have ra:=g3 a (by simp);have rb:=g3 b (by simp);obtain ⟨z1,z2⟩:=hr h0
  rw [itF (by simp [h0]),xz h0,(zFv hs fuel).1 a b k hb.z (by omega) ra rb ha.b hb.b ha.s hb.s,sb,
   zKf z1 (zAZ _ b a k (xE _) ra rb ha.b hb.b ha.s hb.s) (by have:=zCi (zfG s b a k);omega),sb]
 ·rw [itT (by simp [h0]),xy h0];rfl
mutual
def encM (s:List Mes):Msg->Int->List UInt8
 | ⟨vs,u⟩,k=>zdH s vs (zz s k)++u.flatten
def zdH (s:List Mes):List Vlu->Mes->List UInt8
 | [],_=>[]
 | v::l,m=>encV s v (zJ m (fldI m v.Number))++zdH s l m
def encV (s:List Mes):Vlu->Fld->List UInt8
 | ⟨n,w,t,sub⟩,f=>if kNum f.Kind=true then (if f.Repeated=true then put5 f.Number 2 (w.flatMap (sPut f.Kind)) else put5 f.Number (zbm f.Kind) (sPut f.Kind (w.headD 0))) else t.flatMap (put5 f.Number 2)++ziW s sub f
def ziW (s:List Mes):List Msg->Fld->List UInt8
 | [],_=>[]
 | x::l,f=>put5 f.Number 2 (encM s x f.Of)++ziW s l f
end
theorem zoB (s:List Mes) (x:Msg) (k:Int):encM s x k=zdH s x.Values (zz s k)++x.Unknown.flatten:=by cases x;rw [encM]
theorem zkA (s:List Mes) (v:Vlu) (f:Fld):encV s v f=if kNum f.Kind=true then (if f.Repeated=true then put5 f.Number 2 (v.Words.flatMap (sPut f.Kind)) else put5 f.Number (zbm f.Kind) (sPut f.Kind (v.Words.headD 0))) else v.Texts.flatMap (put5 f.Number 2)++ziW s v.Subs f:=by cases v;rw [encV]
theorem zoC (s:List Mes) (m:Mes):∀(l k:List Vlu),zdH s (l++k) m=zdH s l m++zdH s k m
 | [],k=>by rw [xK,zdH,xK]
 | v::l,k=>by rw [yi,zdH,zdH,zoC s m l k,yp]
theorem zsH (s:List Mes) (f:Fld):∀(l k:List Msg),ziW s (l++k) f=ziW s l f++ziW s k f
 | [],k=>by rw [xK,ziW,xK]
 | v::l,k=>by rw [yi,ziW,ziW,zsH s f l k,yp]
theorem zwo {n w:Int} (h1:1<=n) (h2:n<=536870911) (hw:0<=w/\w<=7) {v:List UInt8} (hv:v.length<=1048576):(put5 n w v).length<=15+v.length:=by
 have e:tW n w<34359738368:=by unfold tW;omega
 have h3:=zmT (tW n w);have h4:=zKZ e;have h5:=znl (v:=v.length) (by omega);rw [zjD];split<;>omega
theorem zJb (k:Int):0<=zbm k/\zbm k<=7:=by unfold zbm;split;omega;split;omega;split<;>omega
theorem zvb {k:Int} (hk:zcw k=true) {n:Int} (h1:1<=n) (h2:n<=536870911):zcX n (zbm k)=true:=by
 rw [zeW];refine ⟨h1,h2,?_⟩;unfold zbm;split
 ·exact .inr (.inr (.inl rfl))
 ·split
  ·exact .inr (.inl rfl)
  ·split
   ·exact .inr (.inr (.inr rfl))
   ·exact .inl rfl
theorem zsN {k:Int}:∀{l:List Int},(∀w∈l,0<=w/\w<=18446744073709551615)->(l.flatMap (sPut k)).length<=10*l.length
 | [],_=>by simp
 | w::l,h=>by
  have h1:=zmA (k:=k) (h w xA);have h2:=zsN (k:=k) fun x hx=>h x (xB _ hx)
  rw [xW,xF,xU];omega
theorem zwW {n:Int} (h1:1<=n) (h2:n<=536870911):∀{l:List Str},(∀t∈l,t.length<=1048576)->(l.flatMap (put5 n 2)).length<=15*(l.map fun t=>1+t.length).sum
 | [],_=>by simp
 | t::l,h=>by
  have h3:=zwo h1 h2 (w:=2) (by omega) (h t xA);have h4:=zwW h1 h2 fun x hx=>h x (xB _ hx)
  rw [xW,xF,xP,yN];omega
theorem zuY:∀(l:List Str),l.flatten.length<=(l.map fun t=>1+t.length).sum
 | []=>by simp
 | t::l=>by
  have:=zuY l;rw [qw,xF,xP,yN];omega
theorem zEt {l:List Int} (h:∀x∈l,0<=x/\x<=18446744073709551615):0<=l.headD 0/\l.headD 0<=18446744073709551615:=by
 cases l with
 | nil=>simp
 | cons x l=>exact h x xA
theorem zkg {s:List Mes} (hs:zfs s):∀(N:Nat),(∀(x:Msg) (k:Int),szM x<=N->bdM x->wgM x<=30000->zaE s x k=true->(encM s x k).length+16<=32*wgM x)/\
  ∀(v:Vlu) (f:Fld),szV v<=N->bdV v->wgV v<=30000->1<=f.Number->f.Number<=536870911->zjS s v f=true->(encV s v f).length<=32*wgV v
 | 0=>⟨fun x k h=>by rw [zcA] at h;omega,fun v f h=>by rw [zeq] at h;omega⟩
 | N+1=>by
  obtain ⟨ih1,ih2⟩:=zkg hs N;refine ⟨fun x k wG hb hw hr=>?_,fun v f wG hb hw n1 n2 hf=>?_⟩
  ·obtain ⟨_,_,b4⟩:=(zhD x).1 hb;rw [zcA] at wG;rw [zjN] at hw|-;obtain ⟨k0,k1,_,hv,_⟩:=zaZ hr;rw [zoB];have hmm:zz s k∈s:=by
    obtain ⟨n,rfl⟩:∃n:Nat,k=n:=⟨k.toNat,by omega⟩;rw [zeG (by omega)];exact xI _
   generalize zz s k=m at hv hmm|-
   have hall:∀l:List Vlu,(∀v∈l,v∈x.Values)->(zdH s l m).length<=32*wgVs l:=by
    intro l
    induction l with
    | nil=>intro _;simp [zdH,wgVs]
    | cons v l ih=>
     intro hl;have hvm:=hl v xA;have i1:=ih fun w hw=>hl w (xB _ hw)
     have s1:=zdA hvm;have w1:=zqH hvm;obtain ⟨f0,hfit⟩:=hv v hvm;rcases zdK m v.Number with ⟨hf,_⟩| ⟨j,hj,hf,_⟩
     ·omega
     have hfm:zJ m (fldI m v.Number)∈m.Fields:=by rw [hf,zdJ hj];exact xI hj
     have hfo:=hs.fld _ hmm _ hfm;have:=ih2 v (zJ m (fldI m v.Number)) (by omega) (zdr.1 b4 v hvm) (by omega) hfo.lo hfo.hi hfit;rw [zdH,wgVs,xF];omega
   have h1:=hall x.Values fun v hv=>hv
   have h2:=zuY x.Unknown;rw [xF];omega
  ·obtain ⟨_,⟨_,bw⟩,_,_,b5⟩:=(zgs v).1 hb;rw [zeq] at wG;rw [ziQ] at hw|-;have hfs:=zdd hf;rw [zkA];by_cases hn:kNum f.Kind=true
   ·rw [xz hn];split
    ·have h1:=zsN (k:=f.Kind) bw;have h2:=zwo n1 n2 (w:=2) (by omega) (v:=v.Words.flatMap (sPut f.Kind)) (by omega);omega
    ·have h1:=zmA (k:=f.Kind) (zEt bw);have h2:=zwo n1 n2 (zJb f.Kind) (v:=sPut f.Kind (v.Words.headD 0)) (by omega);omega
   ·rw [xy hn,xF];have hts:∀t∈v.Texts,t.length<=1048576:=fun t ht=>by have:=zoY ht;omega
    have h1:=zwW n1 n2 hts;have hall:∀l:List Msg,(∀x∈l,x∈v.Subs)->(ziW s l f).length<=32*wgMs l:=by
     intro l
     induction l with
     | nil=>intro _;simp [ziW,wgMs]
     | cons x l ih=>
      intro hl;have hxm:=hl x xA;have i1:=ih fun w hw=>hl w (xB _ hw)
      have s1:=zdP hxm;have w1:=zli hxm;have h3:=ih1 x f.Of (by omega) (zeg.1 b5 x hxm) (by omega) (hfs.subs x hxm).2;have h4:=zwo n1 n2 (w:=2) (by omega) (v:=encM s x f.Of) (by omega);rw [ziW,wgMs,xF];omega
    have h2:=hall v.Subs fun x hx=>hx
    omega
theorem zoD (s:List Mes) (m:Mes):∀(l:List Vlu),zdH s l m=l.flatMap fun v=>encV s v (zJ m (fldI m v.Number))
 | []=>by rw [zdH];rfl
 | v::l=>by rw [zdH,zoD s m l,xW]
theorem zrY (s:List Mes) (f:Fld):∀(l:List Msg),ziW s l f=l.flatMap fun x=>put5 f.Number 2 (encM s x f.Of)
 | []=>by rw [ziW];rfl
 | v::l=>by rw [ziW,zrY s f l,xW]
structure zuT (s:List Mes) (d:Nat) (k:Int) (p:List UInt8) (t:Th):Prop where
 ok:zav s d k p=none
 th:ths (zz s k) p=[t]
theorem pieces {s:List Mes} {d:Nat} {k:Int}:∀{ps:List (List UInt8×Th)},(∀p∈ps,zuT s d k p.1 p.2)->zav s d k (ps.flatMap (·.1))=none/\ths (zz s k) (ps.flatMap (·.1))=ps.map (·.2)
 | [],_=>by
  have h:=zpL s d k;refine ⟨h,?_⟩;rw [pF,zso h,zgV];rfl
 | p::ps,h=>by
  obtain ⟨h1,h2⟩:=pieces fun q hq=>h q (xB _ hq)
  have hp:=h p xA;rw [xW];refine ⟨(zhU s d k _ hp.ok).2 h1,?_⟩;rw [zyi hp.ok h1,hp.th,h2];rfl
theorem zrb {s:List Mes} {d:Nat} {k:Int} {n w:Int} {v:List UInt8} (hr:zcX n w=true) (hf:zdw w v=true) (hv:v.length<=1048576) {i:Int} {run:Bool} (hvw:vw (zz s k) n w= .inr (i,run)) (hi:0<=i)
  (hl:∀r:Rec,r.At=((put5 n w v).length - v.length:Nat)->r.From=0->ziJ (zJ (zz s k) i) run (zDu s d) r v=none):zuT s d k (put5 n w v) ⟨i,run,v,put5 n w v⟩:=by
 have hsp:=zLB hr hf hv;have wD:v.length<=(put5 n w v).length:=by rw [zjD];omega
 have hval:valB (put5 n w v) ⟨n,w,0,(((put5 n w v).length - v.length:Nat):Int),((put5 n w v).length:Int)⟩=v:=by
  unfold valB;simp only [xN];rw [show (put5 n w v).length - ((put5 n w v).length - v.length)=v.length by omega];have e:(put5 n w v).drop ((put5 n w v).length - v.length)=v:=by
   have:put5 n w v=(enc (tW n w)++(if w=2 then enc v.length else []))++v:=rfl;have e2:(put5 n w v).length - v.length=(enc (tW n w)++(if w=2 then enc v.length else [])).length:=by rw [this,xF];omega
   rw [e2,this,pj]
  rw [e,qH]
 have hraw:rawB (put5 n w v) ⟨n,w,0,(((put5 n w v).length - v.length:Nat):Int),((put5 n w v).length:Int)⟩=put5 n w v:=by
  unfold rawB;simp
 have wF:zav s d k (put5 n w v)=none:=by
  rw [zkh,zfo,hsp];refine ⟨fun r hr'=>?_,rfl⟩;rw [ya.1 hr'];unfold zep;simp only [hvw];rw [xy (by omega),hval];exact hl _ rfl rfl
 refine ⟨wF,?_⟩;rw [zso wF,hsp,qd];unfold thR;have e:vwG (zz s k) ⟨n,w,0,(((put5 n w v).length - v.length:Nat):Int),((put5 n w v).length:Int)⟩=(i,run):=by unfold vwG;simp only [hvw]
 rw [e,hval,hraw]
theorem zHC {s:List Mes} {d:Nat} {k:Int} {u:List UInt8} (h:unkR (zz s k) u=true):∃t,zuT s d k u t/\t.fi<0/\t.raw=u:=by
 unfold unkR at h;simp only [xC,qU,yc] at h;obtain ⟨⟨h1,h2⟩,h3⟩:=h;unfold zfW at h1 h2 h3;by_cases hu:(0:Int)<0\/(0:Int)>=u.length
 ·rw [xz hu] at h1;simp at h1
 ·rw [xy hu] at h1 h2 h3;simp only [Int.toNat_zero,xV] at h1 h2 h3;rcases zko u with ⟨c,hc,hcc⟩| ⟨n,w,kk,a,t,hc,_,hr,_,g1,g2,g3,g4,g5,_⟩
  ·rw [hc] at h1;simp only at h1;omega
  ·rw [hc] at h2 h3;simp only at h2 h3;have ht:t=u.length:=by omega
   have hne:u≠[]:=fun e=>by subst e;simp at hu
   have hsp:spl 0 u=([⟨n,w,((0:Nat):Int),((0+a:Nat):Int),((0+t:Nat):Int)⟩],none):=by
    rw [zfA hne hc,ht,pk,zgV]
   have hvw:vw (zz s k) n w= .inr (-1,false):=by
    unfold vw;rw [xz h3]
   have wF:zav s d k u=none:=by
    rw [zkh,zfo,hsp];refine ⟨fun r hr'=>?_,rfl⟩;rw [ya.1 hr'];unfold zep;simp only [hvw];rw [xz (by omega)]
   refine ⟨thR (zz s k) u ⟨n,w,((0:Nat):Int),((0+a:Nat):Int),((0+t:Nat):Int)⟩,⟨wF,by rw [zso wF,hsp,qd]⟩,?_,?_⟩
   ·unfold thR vwG;simp only [hvw];omega
   ·unfold thR rawB;simp only [ht];simp
def pcsV (s:List Mes) (f:Fld) (i:Int) (v:Vlu):List (List UInt8×Th):=
 if kNum f.Kind=true then (if f.Repeated=true then [(put5 f.Number 2 (v.Words.flatMap (sPut f.Kind)),⟨i,true,v.Words.flatMap (sPut f.Kind),put5 f.Number 2 (v.Words.flatMap (sPut f.Kind))⟩)]
  else [(put5 f.Number (zbm f.Kind) (sPut f.Kind (v.Words.headD 0)),⟨i,false,sPut f.Kind (v.Words.headD 0),put5 f.Number (zbm f.Kind) (sPut f.Kind (v.Words.headD 0))⟩)])
 else v.Texts.map (fun t=>(put5 f.Number 2 t,⟨i,false,t,put5 f.Number 2 t⟩))++v.Subs.map (fun x=>(put5 f.Number 2 (encM s x f.Of),⟨i,false,encM s x f.Of,put5 f.Number 2 (encM s x f.Of)⟩))
theorem zJA (s:List Mes) (f:Fld) (i:Int) (v:Vlu):(pcsV s f i v).flatMap (·.1)=encV s v f:=by
 unfold pcsV;rw [zkA];split
 ·split<;>simp
 ·rw [yV,zrY,pN,pN]
theorem zBn (s:List Mes) (f:Fld) (i:Int) (v:Vlu):∀p∈pcsV s f i v,p.2.fi=i:=by
 intro p hp;unfold pcsV at hp;split at hp
 ·split at hp
  ·rw [ya.1 hp]
  ·rw [ya.1 hp]
 ·rcases xG.1 hp with hp| hp
  ·obtain ⟨t,_,rfl⟩:=xH.1 hp;rfl
  ·obtain ⟨t,_,rfl⟩:=xH.1 hp;rfl
theorem zrd {f:Fld} {w:Int} (h:zjO f w=true) (hr:0<=w/\w<=18446744073709551615):kNum f.Kind=true/\ziR f.Kind (sPut f.Kind w)=w/\(zrM f.Kind (sPut f.Kind w)).1=w/\zdw (zbm f.Kind) (sPut f.Kind w)=true:=by
 unfold zjO at h;simp only [xC,qU] at h;obtain ⟨h1,h2⟩:=h;have hc:=zkM f.Kind hr;have hfit:zdw (zbm f.Kind) (sPut f.Kind w)=true:=zqq h1 (by omega);have hs:=zEX h1 hr;have hp:=znc h1 hfit;rw [hs] at hp;have e:ziR f.Kind (sPut f.Kind w)=zch f.Kind w:=(congrArg Prod.fst hp).symm;exact ⟨h1,by rw [e,h2],by rw [hs,h2],hfit⟩
theorem zFq {f:Fld} (hk:kNum f.Kind=true) {l:List Int} (h:∀w∈l,zjO f w=true) (hr:∀w∈l,0<=w/\w<=18446744073709551615):zcb f.Kind (l.flatMap (sPut f.Kind))=(l,0):=by
 unfold zcb;rw [xy (by rw [hk];simp),zxK hk l hr,xz rfl,yM];have e:l.map (ziR f.Kind∘sPut f.Kind)=l:=by
  have:l.map (ziR f.Kind∘sPut f.Kind)=l.map id:=qE fun w hw=>(zrd (h w hw) (hr w hw)).2.1
  rw [this,List.map_id]
 rw [e]
theorem zpM (v:List UInt8):zdw 2 v=true:=by unfold zdw;rw [xy (by omega)];simp
theorem zLo {s:List Mes} {d:Nat} {k:Int} {f:Fld} {i:Int} {v:Vlu} (hi:0<=i) (hf:zJ (zz s k) i=f) (hn:fldI (zz s k) f.Number=i) (n1:1<=f.Number) (n2:f.Number<=536870911) (hfs:zgX s v f)
  (hw:∀w∈v.Words,0<=w/\w<=18446744073709551615) (hwl:v.Words.length<=30000) (ht:∀t∈v.Texts,t.length<=1048576)
  (hx:∀x∈v.Subs,(encM s x f.Of).length<=1048576/\∃e,d=e+1/\zav s e f.Of (encM s x f.Of)=none):∀p∈pcsV s f i v,zuT s d k p.1 p.2:=by
 intro p hp;have t2:zcX f.Number 2=true:=zeW.2 ⟨n1,n2,.inr (.inr (.inl rfl))⟩;unfold pcsV at hp;by_cases hk:kNum f.Kind=true
 ·rw [xz hk] at hp;by_cases hr:f.Repeated=true
  ·rw [xz hr] at hp;rw [ya.1 hp];have hvw:vw (zz s k) f.Number 2= .inr (i,true):=by
    unfold vw;rw [hn,xy (by omega),hf,xz ⟨hr,hk,rfl⟩]
   have h1:=zsN (k:=f.Kind) hw;refine zrb t2 (zpM _) (by omega) hvw hi fun r _ _=>?_
   unfold ziJ;have he:(zmU f.Kind (v.Words.flatMap (sPut f.Kind))).2=0:=by
    unfold zmU;rw [xy (by rw [hk];simp),zxK hk _ hw,xz rfl]
   rw [xz rfl,hf,he,xy (by simp)]
  ·rw [xy hr] at hp;rw [ya.1 hp];have hone:=hfs.one (by simpa using hr);have hnt:=hfs.noTexts (by have:=ziF hk;omega);have hns:=hfs.noSubs (ziF hk).1;unfold zbS at hone;rw [hnt,hns] at hone;simp only [yv,yF] at hone;obtain ⟨w,hwd⟩:∃w,v.Words=[w]:=po.1 hone;have hwr:=hw w (by rw [hwd];exact xA);have hc:=zrd (hfs.words w (by rw [hwd];exact xA)) hwr;rw [hwd];show zuT s d k (put5 f.Number (zbm f.Kind) (sPut f.Kind w)) ⟨i,false,sPut f.Kind w,put5 f.Number (zbm f.Kind) (sPut f.Kind w)⟩;have hvw:vw (zz s k) f.Number (zbm f.Kind)= .inr (i,false):=by
    unfold vw;rw [hn,xy (by omega),hf,xy (fun hh=>hr hh.1),xy (fun hh=>by rw [hfs.kind] at hh;rcases hh with hh| hh;cases hh;exact hh rfl)]
   have h1:=zmA (k:=f.Kind) hwr;refine zrb (zvb hfs.kind n1 n2) hc.2.2.2 (by omega) hvw hi fun r _ _=>?_
   unfold ziJ;have:=ziF hk;rw [xy (by simp),hf,xy (fun hh=>this.2.1 hh.1),xy this.1]
 ·rw [xy hk] at hp;have hkk:zbm f.Kind=2:=by
   have h1:¬(1<=f.Kind/\f.Kind<=14):=fun hh=>hk (zfU.2 hh)
   have h2:1<=f.Kind/\f.Kind<=17:=by simpa [zcw] using hfs.kind
   unfold zbm;rw [xz (by omega)]
  have hvw:vw (zz s k) f.Number 2= .inr (i,false):=by
   unfold vw;rw [hn,xy (by omega),hf,xy (fun hh=>hk hh.2.1),xy (fun hh=>by rw [hfs.kind,hkk] at hh;rcases hh with hh| hh;cases hh;exact hh rfl)]
  rcases xG.1 hp with hp| hp
  ·obtain ⟨t,htm,rfl⟩:=xH.1 hp;refine zrb t2 (zpM _) (ht t htm) hvw hi fun r _ _=>?_
   have htr:=hfs.texts t htm;unfold zlt at htr;unfold ziJ;rw [xy (by simp),hf];by_cases h15:f.Kind=15
   ·simp [h15] at htr;rw [xy (fun hh=>by rw [htr] at hh;cases hh.2),xy (by omega)]
   ·have h16:f.Kind=16:=by simpa [h15] using htr
    rw [xy (fun hh=>h15 hh.1),xy (by omega)]
  ·obtain ⟨x,hxm,rfl⟩:=xH.1 hp;obtain ⟨x1,e,he,hv⟩:=hx x hxm;have wz:=(hfs.subs x hxm).1;refine zrb t2 (zpM _) x1 hvw hi fun r _ _=>?_
   unfold ziJ;rw [xy (by simp),hf,xy (fun hh=>by rw [wz] at hh;cases hh.1),xz wz,he];simp only [zDu,hv]
theorem zqK {g:Int->List UInt8->Msg} {f:Fld} {i:Int}:∀{l:List Th} {a:zdD},(∀t∈l,t.fi≠i)->accF g f i a l=a
 | [],a,_=>rfl
 | t::l,a,h=>by
  rw [accF,xy (h t xA),zqK fun x hx=>h x (xB _ hx)]
theorem zwz {g:Int->List UInt8->Msg} {f:Fld} {i:Int} (hr:f.Repeated=true) (hk:kNum f.Kind=false) (wz:f.Kind≠17) {raw:Str->List UInt8}:∀(ts:List Str) (a:zdD),∃b,accF g f i a (ts.map fun t=>⟨i,false,t,raw t⟩)=(a.1,b,a.2.2.1,a.2.2.2.1++ts,a.2.2.2.2)
 | [],a=>⟨a.2.1,by simp [accF]⟩
 | t::ts,a=>by
  obtain ⟨b,hb⟩:=zwz (raw:=raw) hr hk wz ts (stp g f a ⟨i,false,t,raw t⟩);refine ⟨b,?_⟩;rw [xP,accF,xz rfl,hb];unfold stp;simp [hr,hk,wz]
theorem zze {g:Int->List UInt8->Msg} {f:Fld} {i:Int} (hr:f.Repeated=true) (wz:f.Kind=17) {e:Msg->List UInt8} {raw:Msg->List UInt8}:∀(xs:List Msg) (a:zdD),(∀x∈xs,g f.Of (e x)=x)->∃b,accF g f i a (xs.map fun x=>⟨i,false,e x,raw x⟩)=(a.1,b,a.2.2.1,a.2.2.2.1,a.2.2.2.2++xs)
 | [],a,_=>⟨a.2.1,by simp [accF]⟩
 | x::xs,a,h=>by
  obtain ⟨b,hb⟩:=zze (raw:=raw) hr wz xs (stp g f a ⟨i,false,e x,raw x⟩) fun y hy=>h y (xB _ hy)
  refine ⟨b,?_⟩;have hk:kNum 17=false:=rfl;rw [xP,accF,xz rfl,hb];unfold stp;simp [hr,hk,wz,h x List.mem_cons_self]
theorem zIk {s:List Mes} {g:Int->List UInt8->Msg} {f:Fld} {i:Int} {v:Vlu} (hfs:zgX s v f) (hn:v.Number=f.Number) (hw:∀w∈v.Words,0<=w/\w<=18446744073709551615) (hg:∀x∈v.Subs,g f.Of (encM s x f.Of)=x):
  valO g f (accF g f i acc0 ((pcsV s f i v).map (·.2)))=v:=by
 unfold pcsV;by_cases hk:kNum f.Kind=true
 ·rw [xz hk];have hnt:=hfs.noTexts (by have:=ziF hk;omega);have hns:=hfs.noSubs (ziF hk).1;have wz:=(ziF hk).1;by_cases hr:f.Repeated=true
  ·rw [xz hr,qd,accF,accF,xz rfl];unfold stp;simp only [yj,hr];rw [zFq hk hfs.words hw];unfold valO acc0;simp only [xK];rw [xy (fun hh=>wz hh.2.1),<-hn];obtain ⟨n,w,t,sub⟩:=v;simp only at hnt hns|-;rw [hnt,hns]
  ·rw [xy hr,qd,accF,accF,xz rfl];have hone:=hfs.one (by simpa using hr);unfold zbS at hone;rw [hnt,hns] at hone;simp only [yv,yF] at hone;obtain ⟨w,hwd⟩:∃w,v.Words=[w]:=po.1 hone;have hc:=zrd (hfs.words w (by rw [hwd];exact xA)) (hw w (by rw [hwd];exact xA));unfold stp;rw [xy (by simp),xz hk,xy hr,xy hr,hwd];unfold valO acc0;simp only [xK,q9];rw [xy (fun hh=>wz hh.2.1),hc.2.2.1,<-hn];obtain ⟨n,w',t,sub⟩:=v;simp only at hnt hns hwd|-;rw [hnt,hns,hwd]
 ·have hk':kNum f.Kind=false:=by simpa using hk
  rw [xy hk];have hnw:=hfs.noWords hk';by_cases wz:f.Kind=17
  ·have hnt:=hfs.noTexts (by omega);rw [hnt,yX,xK,yM];by_cases hr:f.Repeated=true
   ·obtain ⟨b,hb⟩:=zze (g:=g) (i:=i) (e:=fun x=>encM s x f.Of) (raw:=fun x=>put5 f.Number 2 (encM s x f.Of)) hr wz v.Subs acc0 hg;have hb':accF g f i acc0 (List.map ((fun x:List UInt8×Th=>x.2)∘fun x=>(put5 f.Number 2 (encM s x f.Of),(⟨i,false,encM s x f.Of,put5 f.Number 2 (encM s x f.Of)⟩:Th))) v.Subs)=_:=hb;rw [hb'];unfold valO acc0;simp only [xK];rw [xy (fun hh=>by rw [hr] at hh;cases hh.2.2),<-hn];obtain ⟨n,w,t,sub⟩:=v;simp only at hnt hnw|-;rw [hnt,hnw]
   ·have hr':f.Repeated=false:=by simpa using hr
    obtain ⟨x,hv,hx⟩:=hfs.msg wz hr';have hsub:v.Subs=[x]:=by rw [hv]
    have hgx:=hg x (by rw [hsub];exact xA);have e17:kNum 17=false:=rfl;rw [hsub,qd];show valO g f (accF g f i acc0 [⟨i,false,encM s x f.Of,put5 f.Number 2 (encM s x f.Of)⟩])=v;rw [accF,accF,xz rfl];unfold stp valO acc0;simp [wz,e17,hr',hgx];rw [hv,<-hn]
  ·have hns:=hfs.noSubs wz;rw [hns,yX,yq,yM];by_cases hr:f.Repeated=true
   ·obtain ⟨b,hb⟩:=zwz (g:=g) (i:=i) (raw:=fun t=>put5 f.Number 2 t) hr hk' wz v.Texts acc0;have hb':accF g f i acc0 (List.map ((fun x:List UInt8×Th=>x.2)∘fun t=>(put5 f.Number 2 t,(⟨i,false,t,put5 f.Number 2 t⟩:Th))) v.Texts)=_:=hb;rw [hb'];unfold valO acc0;simp only [xK];rw [xy (fun hh=>wz hh.2.1),<-hn];obtain ⟨n,w,t,sub⟩:=v;simp only at hns hnw|-;rw [hns,hnw]
   ·have hr':f.Repeated=false:=by simpa using hr
    have hone:=hfs.one hr';unfold zbS at hone;rw [hnw,hns] at hone;simp only [yv,yF,xO] at hone;obtain ⟨t,htd⟩:∃t,v.Texts=[t]:=po.1 hone;rw [htd,qd];show valO g f (accF g f i acc0 [⟨i,false,t,put5 f.Number 2 t⟩])=v;rw [accF,accF,xz rfl];unfold stp valO acc0;simp [wz,hk',hr'];obtain ⟨n,w,t',sub⟩:=v;simp only at hns hnw htd hn|-;rw [hns,hnw,htd,hn]
theorem zyp {s:List Mes} {d:Nat} {k:Int}:∀{us:List Str},(∀u∈us,unkR (zz s k) u=true)->∃ps:List (List UInt8×Th),(∀p∈ps,zuT s d k p.1 p.2/\p.2.fi<0/\p.2.raw=p.1)/\ps.map (·.1)=us
 | [],_=>⟨[],(fun p hp=>nomatch hp),rfl⟩
 | u::us,h=>by
  obtain ⟨t,h1,h2,h3⟩:=zHC (d:=d) (h u xA);obtain ⟨ps,h4,h5⟩:=zyp (d:=d) fun x hx=>h x (xB _ hx)
  refine ⟨(u,t)::ps,fun p hp=>?_,by rw [xP,h5]⟩;rcases xD.1 hp with rfl| hp
  ·exact ⟨h1,h2,h3⟩
  ·exact h4 p hp
theorem zCq {m:Mes} {a b:Int} (ha:0<=fldI m a) (h:fldI m a=fldI m b):a=b:=by
 rcases zdK m a with ⟨h1,_⟩| ⟨i,hi,h1,h2,_⟩
 ·omega
 ·rcases zdK m b with ⟨h3,_⟩| ⟨j,hj,h3,h4,_⟩
  ·omega
  ·have:i=j:=by omega
   subst this;rw [<-h2,<-h4]
theorem zzg {s:List Mes} {g:Int->List UInt8->Msg} {m:Mes} {n:Int} (hj:0<=fldI m n):∀{l:List Vlu},zdi l->(∀v∈l,0<=fldI m v.Number)->
  accF g (zJ m (fldI m n)) (fldI m n) acc0 ((l.flatMap fun v=>pcsV s (zJ m (fldI m v.Number)) (fldI m v.Number) v).map (·.2))=match look l n with
   | some v=>accF g (zJ m (fldI m n)) (fldI m n) acc0 ((pcsV s (zJ m (fldI m n)) (fldI m n) v).map (·.2))
   | none=>acc0
 | [],_,_=>rfl
 | v::l,hr,hp=>by
  obtain ⟨r1,r2⟩:=yf.1 hr;rw [xW,yx,zmQ,zct];by_cases hv:v.Number=n
  ·rw [xz hv,hv];refine zqK fun t ht=>?_
   obtain ⟨p,hp',rfl⟩:=xH.1 ht;obtain ⟨u,hu,hpu⟩:=y8.1 hp';rw [zBn s _ _ _ p hpu];intro he;have:=zCq (hp u (xB _ hu)) he;have:=r1 u hu;omega
  ·rw [xy hv];have:accF g (zJ m (fldI m n)) (fldI m n) acc0 ((pcsV s (zJ m (fldI m v.Number)) (fldI m v.Number) v).map (·.2))=acc0:=by
    refine zqK fun t ht=>?_
    obtain ⟨p,hp',rfl⟩:=xH.1 ht;rw [zBn s _ _ _ p hp'];exact fun he=>hv (zCq (hp v xA) he)
   rw [this];exact zzg hj r2 fun u hu=>hp u (xB _ hu)
theorem zpG {s:List Mes} (hs:zfs s):∀(N:Nat) (x:Msg) (k:Int) (d:Nat),szM x<=N->bdM x->wgM x<=30000->zaE s x k=true->dM x<=d->zav s d k (encM s x k)=none/\ofM s k (encM s x k)=x
 | 0,x,k,d,h,_,_,_,_=>by rw [zcA] at h;omega
 | N+1,x,k,d,wG,hb,hw,hr,hd=>by
  obtain ⟨b1,⟨b2,_⟩,b4⟩:=(zhD x).1 hb;have hsz':=wG;rw [zcA] at hsz';have hw':=hw;rw [zjN] at hw';rw [zCh] at hd;obtain ⟨k0,k1,hrise,hv,hu⟩:=zaZ hr;obtain ⟨n0,rfl⟩:∃n:Nat,k=n:=⟨k.toNat,by omega⟩;have hn0:n0<s.length:=by omega
  have hmm:zz s (n0:Int)∈s:=by rw [zeG hn0];exact xI hn0
  obtain ⟨ups,hup,hue⟩:=zyp (d:=d) hu
  -- what is wW of each value
  have hval:∀v∈x.Values,(∀p∈pcsV s (zJ (zz s (n0:Int)) (fldI (zz s (n0:Int)) v.Number)) (fldI (zz s (n0:Int)) v.Number) v,zuT s d n0 p.1 p.2)/\
    (∀y∈v.Subs,ofM s (zJ (zz s (n0:Int)) (fldI (zz s (n0:Int)) v.Number)).Of (encM s y (zJ (zz s (n0:Int)) (fldI (zz s (n0:Int)) v.Number)).Of)=y):=fun v hvm=>by
   obtain ⟨f0,hfit⟩:=hv v hvm;have hfs:=zdd hfit;have hbv:=zdr.1 b4 v hvm;obtain ⟨_,⟨_,bw⟩,_,_,b5⟩:=(zgs v).1 hbv;have s1:=zdA hvm;have w1:=zqH hvm;have d1:=zvV hvm;rw [zeq] at s1;rw [ziQ] at w1;rw [zzp] at d1;rcases zdK (zz s (n0:Int)) v.Number with ⟨hf,_⟩| ⟨j,hj,hf,hjn,_⟩
   ·omega
   have hfm:zJ (zz s (n0:Int)) (fldI (zz s (n0:Int)) v.Number)∈(zz s (n0:Int)).Fields:=by rw [hf,zdJ hj];exact xI hj
   have hfo:=hs.fld _ hmm _ hfm;have hnum:(zJ (zz s (n0:Int)) (fldI (zz s (n0:Int)) v.Number)).Number=v.Number:=by rw [hf,zdJ hj];exact hjn
   have hsub:∀y∈v.Subs,(encM s y (zJ (zz s (n0:Int)) (fldI (zz s (n0:Int)) v.Number)).Of).length<=1048576/\(∃e,d=e+1/\zav s e (zJ (zz s (n0:Int)) (fldI (zz s (n0:Int)) v.Number)).Of (encM s y (zJ (zz s (n0:Int)) (fldI (zz s (n0:Int)) v.Number)).Of)=none)/\
     ofM s (zJ (zz s (n0:Int)) (fldI (zz s (n0:Int)) v.Number)).Of (encM s y (zJ (zz s (n0:Int)) (fldI (zz s (n0:Int)) v.Number)).Of)=y:=fun y hy=>by
    have s2:=zdP hy;have w2:=zli hy;have d2:=zAJ hy;have hyr:=(hfs.subs y hy).2;have hby:=zeg.1 b5 y hy;have hle:=(zkg hs (szM y)).1 y _ (xE _) hby (by omega) hyr;obtain ⟨c1,c2⟩:=zpG hs N y _ (d - 1) (by omega) hby (by omega) hyr (by omega);exact ⟨by omega,⟨d - 1,by omega,c1⟩,c2⟩
   refine ⟨zLo f0 rfl (by rw [hnum]) hfo.lo hfo.hi hfs bw (by omega) (fun t ht=>by have:=zoY ht;omega) (fun y hy=>⟨(hsub y hy).1,(hsub y hy).2.1⟩),fun y hy=>(hsub y hy).2.2⟩
  have hall:∀p∈(x.Values.flatMap fun v=>pcsV s (zJ (zz s (n0:Int)) (fldI (zz s (n0:Int)) v.Number)) (fldI (zz s (n0:Int)) v.Number) v)++ups,zuT s d n0 p.1 p.2:=fun p hp=>by
   rcases xG.1 hp with hp| hp
   ·obtain ⟨v,hvm,hpv⟩:=y8.1 hp;exact (hval v hvm).1 p hpv
   ·exact (hup p hp).1
  obtain ⟨p1,p2⟩:=pieces hall;have henc:((x.Values.flatMap fun v=>pcsV s (zJ (zz s (n0:Int)) (fldI (zz s (n0:Int)) v.Number)) (fldI (zz s (n0:Int)) v.Number) v)++ups).flatMap (·.1)=encM s x n0:=by
   rw [zoB,zoD,yV,List.flatMap_assoc];congr 1
   ·congr 1
    funext v
    exact zJA s _ _ v
   ·rw [<-hue];rw [pv]
  rw [henc] at p1 p2;refine ⟨p1,?_⟩;have hmr:=(znX hs _ (encM s x n0) d n0 rfl hn0 p1).1;obtain ⟨_,_,hrise2,_,_⟩:=zaZ hmr;have hvals:(ofM s n0 (encM s x n0)).Values=x.Values:=by
   refine zta hrise2 hrise fun n=>?_
   rw [zmp] at hrise2|-;rw [zqX hs hmm hrise2,p2];by_cases hj:0<=fldI (zz s (n0:Int)) n
   ·have ha:=zzg (s:=s) (g:=ofM s) hj hrise fun v hvm=>(hv v hvm).1
    have hskip:accF (ofM s) (zJ (zz s (n0:Int)) (fldI (zz s (n0:Int)) n)) (fldI (zz s (n0:Int)) n) acc0 (((x.Values.flatMap fun v=>pcsV s (zJ (zz s (n0:Int)) (fldI (zz s (n0:Int)) v.Number)) (fldI (zz s (n0:Int)) v.Number) v)++ups).map (·.2))=accF (ofM s) (zJ (zz s (n0:Int)) (fldI (zz s (n0:Int)) n)) (fldI (zz s (n0:Int)) n) acc0 ((x.Values.flatMap fun v=>pcsV s (zJ (zz s (n0:Int)) (fldI (zz s (n0:Int)) v.Number)) (fldI (zz s (n0:Int)) v.Number) v).map (·.2)):=by
     rw [yx,zmQ,zqK (l:=ups.map (·.2)) fun t ht=>by
      obtain ⟨p,hp,rfl⟩:=xH.1 ht;have:=(hup p hp).2.1;omega]
    unfold zvt;rw [hskip,ha];cases hlk:look x.Values n with
    | none=>
     simp only;have e0:zbS (valO (ofM s) (zJ (zz s (n0:Int)) (fldI (zz s (n0:Int)) n)) acc0)=0:=by unfold zbS valO acc0;simp
     rw [e0,xy (fun hh=>absurd hh.2 (by omega))]
    | some v=>
     obtain ⟨hvn,hvm⟩:=zde hlk;have hfit:=zdd (hv v hvm).2;have hsub:=(hval v hvm).2;rw [hvn] at hfit hsub;have hbv:=zdr.1 b4 v hvm;obtain ⟨_,⟨_,bw⟩,_,_,_⟩:=(zgs v).1 hbv;have hnum:v.Number=(zJ (zz s (n0:Int)) (fldI (zz s (n0:Int)) n)).Number:=by
      rcases zdK (zz s (n0:Int)) n with ⟨hf,_⟩| ⟨j,hj',hf,hjn,_⟩
      ·omega
      ·rw [hf,zdJ hj',hjn,hvn]
     simp only;rw [zIk hfit hnum bw hsub,xz ⟨hj,hfit.many⟩]
   ·rw [xy (fun hh=>hj hh.1)];cases hlk:look x.Values n with
    | none=>rfl
    | some v=>
     obtain ⟨hvn,hvm⟩:=zde hlk;have:=(hv v hvm).1;rw [hvn] at this;exact absurd this hj
  have hunk:(ofM s n0 (encM s x n0)).Unknown=x.Unknown:=by
   rw [zmp,p2];unfold zmm unkO;simp only;rw [yx,pM,yx];have e1:((x.Values.flatMap fun v=>pcsV s (zJ (zz s (n0:Int)) (fldI (zz s (n0:Int)) v.Number)) (fldI (zz s (n0:Int)) v.Number) v).map (·.2)).filter (fun t=>decide (t.fi<0))=[]:=by
    rw [List.filter_eq_nil_iff];intro t ht;obtain ⟨p,hp,rfl⟩:=xH.1 ht;obtain ⟨v,hvm,hpv⟩:=y8.1 hp;rw [zBn s _ _ _ p hpv];have:=(hv v hvm).1;simpa using this
   have e2:(ups.map (·.2)).filter (fun t=>decide (t.fi<0))=ups.map (·.2):=by
    rw [List.filter_eq_self];intro t ht;obtain ⟨p,hp,rfl⟩:=xH.1 ht;simpa using (hup p hp).2.1
   rw [e1,e2,yX,xK,yM,<-hue];exact qE fun p hp=>(hup p hp).2.2
  generalize ofM s n0 (encM s x n0)=y at hvals hunk
  cases x;cases y;simp only at hvals hunk;rw [hvals,hunk]
def wv (a:zdD):Nat:=a.2.2.1.length+(a.2.2.2.1.map fun t=>1+t.length).sum+wgMs a.2.2.2.2+2*a.1.length
theorem znQ:∀(y x:Nat),x<=y->lenN x<=lenN y:=by
 intro y
 induction y using Nat.strongRecOn with
 | _ y ih=>
  intro x h;by_cases hy:y<128
  ·rw [zfd hy,zfd (by omega)];exact xE _
  ·rw [zfV hy];by_cases hx:x<128
   ·rw [zfd hx];have:=zpW (y/128);omega
   ·rw [zfV hx];have:=ih (y/128) (by omega) (x/128) (by omega);omega
theorem zul:∀(x:Nat),lenN (x+1)<=lenN x+1:=by
 intro x
 induction x using Nat.strongRecOn with
 | _ x ih=>
  by_cases h:x+1<128
  ·rw [zfd h];omega
  ·rw [zfV h];by_cases hx:x<128
   ·rw [zfd hx,zfd (by omega)];omega
   ·rw [zfV hx];have h1:=znQ (x/128+1) ((x+1)/128) (by omega);have:=ih (x/128) (by omega);omega
theorem zJm:∀(n x y:Nat),x+y=n->lenN (x+y)<=lenN x+lenN y:=by
 intro n
 induction n using Nat.strongRecOn with
 | _ n ih=>
  intro x y hn;have px:=zpW x;have py:=zpW y;by_cases h:x+y<128
  ·rw [zfd h];omega
  ·rw [zfV h];by_cases hx:x<128
   ·by_cases hy:y<128
    ·rw [zfd (n:=(x+y)/128) (by omega)];omega
    ·rw [zfV hy];have h1:=znQ (y/128+1) ((x+y)/128) (by omega);have h2:=zul (y/128);omega
   ·rw [zfV hx];by_cases hy:y<128
    ·have h1:=znQ (x/128+1) ((x+y)/128) (by omega);have h2:=zul (x/128);omega
    ·rw [zfV hy];have h1:=znQ (x/128+y/128+1) ((x+y)/128) (by omega);have h2:=zul (x/128+y/128);have h3:=ih (x/128+y/128) (by omega) (x/128) (y/128) rfl;omega
theorem zxM (n:Int) (v:List UInt8):(put5 n 2 v).length=lenN (tW n 2)+lenN v.length+v.length:=by
 rw [zjD,xz rfl,zmT,zmT]
theorem zzU (n:Int) {z x y:List UInt8} (h:z.length<=x.length+y.length):(put5 n 2 z).length<=(put5 n 2 x).length+(put5 n 2 y).length:=by
 rw [zxM,zxM,zxM];have h1:=znQ _ _ h;have h2:=zJm _ x.length y.length rfl;omega
def lenF (s:List Mes) (f:Fld) (o:Option Vlu):Nat:=match o with
 | some u=>(encV s u f).length
 | none=>0
theorem zGZ {s:List Mes} {v:Vlu} {o:Option Vlu} {f:Fld} (hv:zgX s v f) (ho:∀u,o=some u->zgX s u f)
  (ih:∀x∈v.Subs,∀y:Msg,zaE s x f.Of=true->zaE s y f.Of=true->(encM s (zfG s x y f.Of) f.Of).length<=(encM s x f.Of).length+(encM s y f.Of).length):
  (encV s (zgo s v o f) f).length<=(encV s v f).length+lenF s f o:=by
 rw [zhb];cases o with
 | none=>exact Nat.le_add_right _ _
 | some u=>
  have hu:=ho u rfl;simp only [lenF];by_cases hr:f.Repeated=true
  ·rw [xz hr,zkA,zkA,zkA];by_cases hk:kNum f.Kind=true
   ·simp only [xz hk,xz hr,yV];have:=zzU f.Number (z:=u.Words.flatMap (sPut f.Kind)++v.Words.flatMap (sPut f.Kind)) (x:=u.Words.flatMap (sPut f.Kind)) (y:=v.Words.flatMap (sPut f.Kind)) (by rw [xF];exact xE _);omega
   ·simp only [xy hk,yV,zsH,xF];omega
  ·rw [xy hr];by_cases wz:f.Kind=17
   ·rw [xz wz];obtain ⟨x,hvx,hx⟩:=hv.msg wz (by simpa using hr);obtain ⟨y,huy,hy⟩:=hu.msg wz (by simpa using hr);have hvs:v.Subs=[x]:=by rw [hvx]
    have hus:u.Subs=[y]:=by rw [huy]
    have hnk:¬kNum f.Kind=true:=fun h=>(ziF h).1 wz
    have hvt:v.Texts=[]:=by rw [hvx]
    have hut:u.Texts=[]:=by rw [huy]
    rw [zkA,zkA,zkA,xy hnk,xy hnk,xy hnk,hvs,hus,hvt,hut,zkk];simp only [ziW,pF,xK,yq];have h1:=ih x (by rw [hvs];exact xA) y hx hy;have:=zzU f.Number h1;omega
   ·rw [xy wz];omega
def zum (s:List Mes) (m:Mes) (o:Option Vlu):Nat:=match o with
 | some u=>(encV s u (zJ m (fldI m u.Number))).length
 | none=>0
theorem zDe {s:List Mes} {m:Mes} {v:Vlu}:∀{d:Bool} {l:List Vlu},zdi l->(zdH s (putL v d l) m).length+zum s m (look l v.Number)<=(zdH s l m).length+(if d=true then 0 else (encV s v (zJ m (fldI m v.Number))).length)
 | d,[],_=>by
  rw [putL];cases d
  ·simp [zdH,look,zum]
  ·simp [zdH,look,zum]
 | d,u::l,h=>by
  obtain ⟨h1,h2⟩:=yf.1 h;have ih:=zDe (s:=s) (m:=m) (v:=v) (d:=d|| decide (v.Number<=u.Number)) h2;rw [putL,zoC,zoC,zct,zdH,xF,xF,xF];by_cases hn:u.Number=v.Number
  ·rw [xz hn,xz hn];rw [zoN fun x hx=>by have:=h1 x hx;omega] at ih;have hle:v.Number<=u.Number:=by omega
   simp only [hle,pL,qN,yj,zum] at ih|-;cases d
   ·rw [xz ⟨rfl,trivial⟩];simp only [zdH,xF,yv,qD,yH];omega
   ·rw [xy (fun hh=>by cases hh.1)];simp only [zdH,yv,yj];omega
  ·rw [xy hn,xy hn];have e2:(zdH s [u] m).length=(encV s u (zJ m (fldI m u.Number))).length:=by rw [zdH,zdH,yq]
   have e3:(zdH s [v] m).length=(encV s v (zJ m (fldI m v.Number))).length:=by rw [zdH,zdH,yq]
   rw [e2];cases d
   ·by_cases hle:v.Number<=u.Number
    ·have eb:(false|| decide (v.Number<=u.Number))=true:=by simp [hle]
     rw [eb] at ih|-;rw [xz rfl] at ih;rw [xz ⟨rfl,hle⟩,xy (by simp),e3];omega
    ·have eb:(false|| decide (v.Number<=u.Number))=false:=by simp [hle]
     rw [eb] at ih|-;rw [xy (by simp)] at ih;rw [xy (fun hh=>hle hh.2),xy (by simp)];simp only [zdH,yv];omega
   ·rw [Bool.true_or] at ih|-;rw [xz rfl] at ih;rw [xy (fun hh=>by cases hh.1),xz rfl];simp only [zdH,yv];omega
theorem zxf {s:List Mes} {a:Msg} {m:Mes}:∀{l acc:List Vlu},zdi acc->zdi l->(∀v∈l,0<zbS (zgo s v (look a.Values v.Number) (zJ m (fldI m v.Number))))->
  (∀v∈l,look acc v.Number=look a.Values v.Number)->(∀v∈l,(encV s (zgo s v (look a.Values v.Number) (zJ m (fldI m v.Number))) (zJ m (fldI m v.Number))).length<=(encV s v (zJ m (fldI m v.Number))).length+zum s m (look a.Values v.Number))->
  (zdH s (zii s l a m acc) m).length<=(zdH s acc m).length+(zdH s l m).length
 | [],acc,_,_,_,_,_=>by rw [zii];simp [zdH]
 | v::l,acc,h1,h2,h3,h4,h5=>by
  obtain ⟨l1,l2⟩:=yf.1 h2;have hm:=h3 v xA;have hnum:=znP s v (look a.Values v.Number) (zJ m (fldI m v.Number));have hl:=h5 v xA;have hla:=h4 v xA;rw [zii,zdH,xF];have hput:putM ⟨acc,[]⟩ (zgo s v (look a.Values v.Number) (zJ m (fldI m v.Number)))=⟨putL (zgo s v (look a.Values v.Number) (zJ m (fldI m v.Number))) false acc,[]⟩:=by
   unfold putM;have:decide (zbS (zgo s v (look a.Values v.Number) (zJ m (fldI m v.Number)))=0)=false:=ye (by omega);rw [this]
  rw [hput];have hpe:=zDe (s:=s) (m:=m) (v:=zgo s v (look a.Values v.Number) (zJ m (fldI m v.Number))) (d:=false) h1;rw [hnum,hla] at hpe;simp only [qD,yH] at hpe
  have ih:=zxf (s:=s) (a:=a) (m:=m) (l:=l) (acc:=putL (zgo s v (look a.Values v.Number) (zJ m (fldI m v.Number))) false acc) (zmZ h1) l2 (fun u hu=>h3 u (xB _ hu))
   (fun u hu=>by
    have:=l1 u hu;rw [ztb h1,hnum,xy (by omega)];exact h4 u (xB _ hu)) fun u hu=>h5 u (xB _ hu)
  simp only;omega
theorem zCH {s:List Mes}:∀(N:Nat) (b a:Msg) (k:Int),szM b<=N->zaE s a k=true->zaE s b k=true->(encM s (zfG s b a k) k).length<=(encM s b k).length+(encM s a k).length
 | 0,b,a,k,h,_,_=>by rw [zcA] at h;omega
 | N+1,b,a,k,wG,ha,hb=>by
  obtain ⟨k0,k1,ra,ha',ua⟩:=zaZ ha;obtain ⟨_,_,rb,hb',ub⟩:=zaZ hb;rw [zcA] at wG;have fit:∀n u,look a.Values n=some u->zgX s u (zJ (zz s k) (fldI (zz s k) n)):=fun n u hu=>by
   obtain ⟨e,hm⟩:=zde hu;have:=zdd (ha' u hm).2;rw [e] at this;exact this
  rw [zkT,zoB,zoB,zoB];have:=zxf (s:=s) (a:=a) (m:=zz s k) ra rb (fun v hv=>zsb (zdd (hb' v hv).2) fun u hu=>fit _ u hu) (fun _ _=>rfl) (fun v hv=>by
   have h:=zGZ (zdd (hb' v hv).2) (o:=look a.Values v.Number) (fun u hu=>fit _ u hu) fun x hx y hxr hyr=>by
    have s1:=zdA hv;rw [zeq] at s1;have s2:=zdP hx;exact zCH N x y _ (by omega) hyr hxr
   refine yz h (Nat.add_le_add_left ?_ _);cases hl:look a.Values v.Number with
   | none=>exact xM _
   | some u=>
    have e:=(zde hl).1;unfold zum lenF;simp only [e];exact xE _)
  simp only [xF,pO];omega
def zvU (s:List Mes) (root:Int) (x:Msg):List UInt8×Int:=if zeh s root [x]=0 then (encM s x root,0) else ([],zeh s root [x])
def zFb (s:List Mes) (root:Int) (x:Msg):Int×Int:=if zeh s root [x]=0 then (((encM s x root).length:Int),0) else (0,zeh s root [x])
theorem zKE {s:List Mes} {root d:Int} (h:zff s=true) (h1:0<=root/\root<s.length) (h2:0<=d/\d<=64):argS s root d=0:=by
 unfold argS;rw [xy (by rw [h];simp),xy (by omega)]
def Wr (o:Option zk) (p:List Str) (n:Int) (B:Str) (c:Nat):Prop:=∃P:List Str,o=some ⟨p++P,n+(B.length:Int)⟩/\P.flatten=B/\P.length<=c
def Wq (o:Option (List Str×Int)) (p:List Str) (n:Int) (B:Str) (c:Nat):Prop:=∃P:List Str,o=some (p++P,n+(B.length:Int))/\P.flatten=B/\P.length<=c
def Wm (p:List Str) (n:Int) (b c:Nat):Prop:=0<=n/\n+(b:Int)<=1099511627776/\p.length+c<=1099511627776
theorem zFr {p:List Str} {n:Int} {b:Str} (h:Wm p n b.length 1):zcv ⟨p,n⟩ b=some ⟨p++[b],n+(b.length:Int)⟩:=by
 obtain ⟨h1,h2,h3⟩:=h;unfold zcv;rw [zem (by simp;omega),sb,zC (by simp only;omega)]
theorem zIg {p:List Str} {n:Int} {b:Str} (h:Wm p n b.length 1):Wr (zcv ⟨p,n⟩ b) p n b 1:=⟨[b],zFr h,by simp,by simp⟩
theorem zsw {p:List Str} {n k w:Int} {v:Str} (hr:zcX k w=true) (hf:zdw w v=true) (hv:v.length<=1048576) (h:Wm p n (put5 k w v).length 1):Wr (zcE ⟨p,n⟩ k w v) p n (put5 k w v) 1:=by
 unfold zcE;rw [zGx (by simp) hv,sb,xz ⟨hr,hf⟩,xK];obtain ⟨P,e,h1,h2⟩:=zIg h;exact ⟨P,by rw [e,sb],h1,h2⟩
theorem zIC {k:Int} (hk:kNum k=true):zmb k=some (zbm k):=by
 have h:=zfU.1 hk;unfold zmb;rw [zDs (by omega),sb,xz hk];have e:zch k 0=0:=by
  unfold zch;split
  ·decide
  ·split
   ·decide
   ·split<;>simp
 unfold sPut zks zbm;rw [e];have h15:¬15<=k:=by omega
 by_cases h1:12<=k
 ·rw [xz h1,xy h15,xz h1];rfl
 ·by_cases h2:9<=k
  ·rw [xy h1,xz h2,xy h15,xy h1,xz h2];rfl
  ·rw [xy h1,xy h2,xy h15,xy h1,xy h2];have e0:enc (Int.toNat 0)=[0]:=zoE (v:=0) (by omega);rw [e0];rfl
theorem zIi {p:List Str} {n:Int} {f:Fld} {l:List Int} (hk:kNum f.Kind=true) (n1:1<=f.Number) (n2:f.Number<=536870911) (hl:∀w∈l,0<=w/\w<=18446744073709551615) (hn:l.length<=30000) (h1:f.Repeated=false->l.length=1)
  (h:Wm p n (if f.Repeated=true then put5 f.Number 2 (l.flatMap (sPut f.Kind)) else put5 f.Number (zbm f.Kind) (sPut f.Kind (l.headD 0))).length 1):
  Wr (zfv ⟨p,n⟩ f l) p n (if f.Repeated=true then put5 f.Number 2 (l.flatMap (sPut f.Kind)) else put5 f.Number (zbm f.Kind) (sPut f.Kind (l.headD 0))) 1:=by
 unfold zfv;have hfl:=zsN (k:=f.Kind) hl;rw [zJM _ hl (by omega),sb,xz hk];by_cases hr:f.Repeated=true
 ·rw [xz hr] at h;rw [xz hr,xz hr];obtain ⟨P,e,g⟩:=zsw (zeW.2 ⟨n1,n2,by omega⟩) (zpM _) (by omega) h;exact ⟨P,by rw [e,sb],g⟩
 ·rw [xy hr] at h;rw [xy hr,xy hr];obtain ⟨w,rfl⟩:∃w,l=[w]:=po.1 (h1 (by simpa using hr));have hw:=hl w xA;have hs:=zmA (k:=f.Kind) hw;have hc:=zkM f.Kind hw;obtain ⟨P,e,g⟩:=zsw (zvb (by unfold zcw;have:=zfU.1 hk;simp;omega) n1 n2) (zqq hk (c:=(zch f.Kind w).toNat) (by omega)) (by show (sPut f.Kind w).length<=_;omega) h;refine ⟨P,?_,g⟩;have ef:[w].flatMap (sPut f.Kind)=sPut f.Kind w:=by simp
  rw [zIC hk,sb,ef];show (zcE ⟨p,n⟩ f.Number (zbm f.Kind) (zks f.Kind (zch f.Kind w).toNat)>>=_)=_;rw [e,sb];rfl
theorem zIw {k:Int} {c:Nat} (n1:1<=k) (n2:k<=536870911) (hc:c<=1048576) {v:Str} (hv:v.length=c):∃b,zma k (c:Int)=some b/\b++v=put5 k 2 v:=by
 have hr:zcX k 2=true:=zeW.2 ⟨n1,n2,by omega⟩;obtain ⟨_,wx⟩:=zyf hr;have h1:=znl (v:=tW k 2) (by omega);have e0:enc 0=[0]:=zoE (v:=0) (by omega);have ep:put5 k 2 []=enc (tW k 2)++[0]:=by unfold put5;rw [xz rfl,yv,e0,yq]
 have ew:u64.wrap (c:Int)=(c:Int):=by rw [wrap_u64,qm (by omega) (by omega)]
 have es:sPut 4 (c:Int)=enc c:=by
  unfold sPut zks zch;rw [xy (by omega),xy (by omega),xy (by omega),xy (by omega),xy (by omega),xN]
 have h2:=znl (v:=c) (by omega);have hcut:cut (enc (tW k 2)++[0]) 0 (i64.wrap (((enc (tW k 2)++[0]).length:Int) - 1))=some (enc (tW k 2)):=by
  rw [zC (by simp;omega),zjx (i:=0) (a:=0) (b:=(enc (tW k 2)).length) rfl (by simp) (by omega) (by simp)];simp
 refine ⟨enc (tW k 2)++enc c,?_,?_⟩
 ·unfold zma;rw [zLt (by simp) (by simp),sb,xz hr,xK,ew,zGB (by omega),sb,xz (by decide),ep,hcut,sb];simp only [es];rw [zem (by simp;omega),sb]
 ·unfold put5;rw [xz rfl,hv]
theorem zos {α:Type} (l:List α) (g:α->Str) (c:α->Nat) (F:Int->List Str->Int->Option (List Str×Int)) (h0:∀p n,F (l.length:Int) p n=some (p,n))
  (hs:∀(i:Nat) (h:i<l.length) (p:List Str) (n:Int),Wm p n (g l[i]).length (c l[i])->∃P:List Str,F (i:Int) p n=F ((i+1:Nat):Int) (p++P) (n+((g l[i]).length:Int))/\P.flatten=g l[i]/\P.length<=c l[i]):∀(k i:Nat) (p:List Str) (n:Int),i+k=l.length->Wm p n ((l.drop i).flatMap g).length ((l.drop i).map c).sum->
  Wq (F (i:Int) p n) p n ((l.drop i).flatMap g) ((l.drop i).map c).sum
 | 0,i,p,n,h,_=>by
  have e:l.drop i=[]:=yK (by omega);have hi:i=l.length:=by omega
  rw [e,hi,h0];exact ⟨[],by simp,rfl,by simp⟩
 | k+1,i,p,n,h,hb=>by
  have hil:i<l.length:=by omega
  have hd:l.drop i=l[i]::l.drop (i+1):=yy hil;rw [hd,xW,xP,yN] at hb|-;obtain ⟨b1,b2,b3⟩:=hb;rw [xF] at b2;obtain ⟨P,e,h1,h2⟩:=hs i hil p n ⟨b1,by omega,by omega⟩;obtain ⟨Q,e',h3,h4⟩:=zos l g c F h0 hs k (i+1) (p++P) (n+((g l[i]).length:Int)) (by omega) ⟨by omega,by omega,by rw [xF];omega⟩;refine ⟨P++Q,?_,by rw [pO,h1,h3],by rw [xF];omega⟩;rw [e,e',yp,xF];congr 2;push_cast;omega
theorem zKe {α:Type} {c d:α->Nat}:∀{l:List α},(∀x∈l,c x<=d x)->(l.map c).sum<=(l.map d).sum
 | [],_=>xE _
 | x::l,h=>by
  have h1:=h x xA;have h2:=zKe (l:=l) fun y hy=>h y (xB _ hy)
  rw [xP,xP,yN,yN];omega
theorem zDP:∀l:List Vlu,wgVs l=(l.map wgV).sum
 | []=>rfl
 | v::l=>by rw [wgVs,zDP l];rfl
theorem zDN:∀l:List Msg,wgMs l=(l.map wgM).sum
 | []=>rfl
 | v::l=>by rw [wgMs,zDN l];rfl
theorem zBH {α:Type} (g:α->Nat):∀l:List α,(l.map fun v=>2*g v).sum=2*(l.map g).sum
 | []=>rfl
 | v::l=>by rw [xP,xP,yN,yN,zBH g l];omega
theorem zGo (l:List Str):(l.map fun _=>1).sum<=(l.map fun t=>1+t.length).sum:=zKe fun x _=>by omega
theorem zGX {m:Mes} {n:Int} (hl:m.Fields.length<=140737488351232) (h:0<=fldI m n):∃r,zdn m n=some r/\idx m.Fields r.1=some (zJ m (fldI m n)):=by
 rw [zmR hl];have h0:=h;unfold fldI ziI at h0;cases hf:m.Fields.findIdx? (fun f:Fld=>f.Number==n) with
 | none=>rw [hf] at h0;simp at h0
 | some i=>
  have e:fldI m n=i:=by unfold fldI ziI;rw [hf]
  have hi:i<m.Fields.length:=by have:=(zuf h).1;omega
  exact ⟨_,rfl,by rw [e,zal rfl hi,zdJ hi]⟩
theorem zLv (p:List Str) (a b:Str) (P:List Str):(p++[a]++P).set p.length b=p++(b::P):=by
 rw [yp,List.set_append_right _ _ (xE _),pf];rfl
theorem zGQ {s:List Mes} (hs:zfs s):∀(fuel:Nat),
  (∀(x:Msg) (k:Int) (p:List Str) (n:Int),2*szM x<=fuel->bdM x->wgM x<=30000->zaE s x k=true->Wm p n (encM s x k).length (2*wgM x - 1)->Wr (zbU fuel ⟨p,n⟩ s k x) p n (encM s x k) (2*wgM x - 1))/\
  (∀(x:Msg) (f:Fld) (p:List Str) (n:Int),2*szM x+1<=fuel->bdM x->wgM x<=30000->1<=f.Number->f.Number<=536870911->zaE s x f.Of=true->Wm p n (put5 f.Number 2 (encM s x f.Of)).length (2*wgM x)->Wr (zen fuel ⟨p,n⟩ s f x) p n (put5 f.Number 2 (encM s x f.Of)) (2*wgM x))/\
  ∀(v:Vlu) (f:Fld) (p:List Str) (n:Int),2*szV v<=fuel->bdV v->wgV v<=30000->1<=f.Number->f.Number<=536870911->zjS s v f=true->Wm p n (encV s v f).length (2*wgV v)->Wr (zdq fuel ⟨p,n⟩ s f v) p n (encV s v f) (2*wgV v)
 | 0=>⟨fun x k p n h=>by rw [zcA] at h;omega,fun x f p n h=>by omega,fun v f p n h=>by rw [zeq] at h;omega⟩
 | fuel+1=>by
  obtain ⟨ih1,ih2,ih3⟩:=zGQ hs fuel;refine ⟨fun x k p n wG hb hw hr hm=>?_,fun x f p n wG hb hw n1 n2 hr hm=>?_,fun v f p n wG hb hw n1 n2 hf hm=>?_⟩
  ·obtain ⟨b1,⟨b2,_⟩,b4⟩:=(zhD x).1 hb;rw [zcA] at wG;rw [zjN] at hw hm|-;obtain ⟨k0,k1,_,hv,_⟩:=zaZ hr;rw [zoB] at hm|-;obtain ⟨j,rfl⟩:∃j:Nat,k=j:=⟨k.toNat,by omega⟩;have hn:j<s.length:=by omega
   have hmi:idx s (j:Int)=some (zz s j):=by rw [zal rfl hn,zeG hn]
   have hmm:zz s (j:Int)∈s:=by rw [zeG hn];exact xI hn
   have hfew:=hs.few _ hmm
   generalize zz s (j:Int)=m at hv hmi hmm hfew hm|-
   obtain ⟨m1,m2,m3⟩:=hm;rw [xF] at m2;have hu:=zGo x.Unknown;have hvs:=zDP x.Values;have htw:=zBH wgV x.Values;obtain ⟨P,e1,f1,g1⟩:=zos x.Values (fun v=>encV s v (zJ m (fldI m v.Number))) (fun v=>2*wgV v) (fun i p n=>zcI (zdq fuel) s x m i p n) (fun p n=>by
     refine zlx ?_;unfold zbk;rw [uA])
    (fun i hi p n hwm=>by
     have hvm:=xI hi;have hxi:idx x.Values (i:Int)=some x.Values[i]:=zal rfl hi;have s1:=zdA hvm;have w1:=zqH hvm
     generalize x.Values[i]=v at hvm hxi hwm s1 w1|-
     obtain ⟨f0,hfit⟩:=hv v hvm;rcases zdK m v.Number with ⟨hf,_⟩| ⟨q,hq,hf,_⟩
     ·omega
     have hfm:zJ m (fldI m v.Number)∈m.Fields:=by rw [hf,zdJ hq];exact xI hq
     have hfo:=hs.fld _ hmm _ hfm;obtain ⟨r,hby,hidx⟩:=zGX (m:=m) (n:=v.Number) (by omega) f0;obtain ⟨P,e,f,g⟩:=ih3 v (zJ m (fldI m v.Number)) p n (by omega) (zdr.1 b4 v hvm) (by omega) hfo.lo hfo.hi hfit hwm;refine ⟨P,zlw ?_,f,g⟩;unfold zbk;rw [uB,hxi,sb,hby,sb,hidx,sb,e,sb,uD];push_cast;rfl) x.Values.length 0 p n (xO _) (by rw [xV,<-zoD,htw];exact ⟨m1,by omega,by omega⟩)
   rw [xV,<-zoD] at e1 f1;rw [xV,htw] at g1;obtain ⟨Q,e2,f2,g2⟩:=zos x.Unknown (fun t=>t) (fun _=>1) (fun i p n=>zcJ x i p n) (fun p n=>by
     refine zlz ?_;unfold zbl;rw [uA])
    (fun i hi p n hwm=>by
     have hl:=zoY (xI hi);refine ⟨[x.Unknown[i]],zly ?_,by simp,by simp⟩;unfold zbl;rw [uB,zal rfl hi,sb,zFX (by omega),sb,zFr hwm,sb,uD];push_cast;rfl) x.Unknown.length 0 (p++P) (n+((zdH s x.Values m).length:Int)) (xO _) (by
      rw [xV,List.flatMap_id'];exact ⟨by omega,by omega,by rw [xF];omega⟩)
   rw [xV,List.flatMap_id'] at e2 f2;rw [xV] at g2;refine ⟨P++Q,?_,by rw [pO,f1,f2],by rw [xF];omega⟩;show zdF (zbU fuel) (zen fuel) (zdq fuel) ⟨p,n⟩ s j x=_;unfold zdF;have e1':zcI (zdq fuel) s x m 0 p n=_:=e1;have e2':zcJ x 0 (p++P) (n+((zdH s x.Values m).length:Int))=_:=e2;rw [hmi,sb];simp only;rw [e1',sb];simp only;rw [e2',sb,yp,xF];congr 2;push_cast;omega
  ·have wD:=(zkg hs (szM x)).1 x f.Of (xE _) hb hw hr;have hpl:=zjD f.Number 2 (encM s x f.Of);rw [xz rfl] at hpl;obtain ⟨m1,m2,m3⟩:=hm;have hwg:1<=wgM x:=by rw [zjN];omega
   obtain ⟨h,eh,ep⟩:=zIw (k:=f.Number) (c:=(encM s x f.Of).length) n1 n2 (by omega) (v:=encM s x f.Of) rfl;have hhl:h.length+(encM s x f.Of).length=(put5 f.Number 2 (encM s x f.Of)).length:=by rw [<-ep,xF]
   obtain ⟨P,e,f1,g1⟩:=ih1 x f.Of (p++[[]]) n (by omega) hb hw hr ⟨m1,by omega,by simp;omega⟩;refine ⟨h::P,?_,by rw [qw,f1,ep],by rw [xU];omega⟩;show zfu (zbU fuel) (zen fuel) (zdq fuel) ⟨p,n⟩ s f x=_;unfold zfu;have e0:zcv ⟨p,n⟩ []=some ⟨p++[[]],n⟩:=by
    rw [zFr ⟨m1,by simp;omega,by omega⟩];simp
   rw [e0,sb,e,sb];simp only;rw [zC (x:=n+((encM s x f.Of).length:Int) - n) (by omega),show n+((encM s x f.Of).length:Int) - n=((encM s x f.Of).length:Int) by omega,eh,sb,zal rfl (by simp),sb,xN,zLv,zal rfl (by simp),sb,zC (by simp;omega)];congr 2;simp;omega
  ·have wD:=(zkg hs (szV v)).2 v f (xE _) hb hw n1 n2 hf;obtain ⟨_,⟨bl,bw⟩,_,_,b5⟩:=(zgs v).1 hb;rw [zeq] at wG;rw [ziQ] at hw hm wD|-;have hfs:=zdd hf;rw [zkA] at wD hm|-;have t2:zcX f.Number 2=true:=zeW.2 ⟨n1,n2,.inr (.inr (.inl rfl))⟩;obtain ⟨m1,m2,m3⟩:=hm;have ho:=zGo v.Texts;have hms:=zDN v.Subs;have htw:=zBH wgM v.Subs;have L1:∀(p:List Str) (n:Int),Wm p n (v.Texts.flatMap (put5 f.Number 2)).length (v.Texts.map fun _=>1).sum->Wq (zdb f v 0 p n) p n (v.Texts.flatMap (put5 f.Number 2)) (v.Texts.map fun _=>1).sum:=fun p n h=>by
    have:=zos v.Texts (put5 f.Number 2) (fun _=>1) (fun i p n=>zdb f v i p n) (fun p n=>by
      refine zmK ?_;unfold zbE;rw [uA])
     (fun i hi p n hwm=>by
      have hl:=zoY (xI hi);obtain ⟨P,e,f1,g1⟩:=zsw t2 (zpM _) (by omega) hwm;refine ⟨P,zmJ ?_,f1,g1⟩;unfold zbE;rw [uB,zal rfl hi,sb,zFX (by omega),sb,e,sb,uD];push_cast;rfl) v.Texts.length 0 p n (xO _) (by rw [xV];exact h)
    rw [xV] at this;exact this
   have L2:∀(p:List Str) (n:Int),Wm p n (ziW s v.Subs f).length (2*wgMs v.Subs)->Wq (zdc f (zen fuel) s v 0 p n) p n (ziW s v.Subs f) (2*wgMs v.Subs):=fun p n h=>by
    rw [zrY,hms,<-htw] at h|-;have:=zos v.Subs (fun x=>put5 f.Number 2 (encM s x f.Of)) (fun x=>2*wgM x) (fun i p n=>zdc f (zen fuel) s v i p n) (fun p n=>by
      refine zmM ?_;unfold zbF;rw [uA])
     (fun i hi p n hwm=>by
      have hxm:=xI hi;have hxi:idx v.Subs (i:Int)=some v.Subs[i]:=zal rfl hi
      generalize v.Subs[i]=x at hxm hxi hwm|-
      have s1:=zdP hxm;have w1:=zli hxm;obtain ⟨P,e,f1,g1⟩:=ih2 x f p n (by omega) (zeg.1 b5 x hxm) (by omega) n1 n2 (hfs.subs x hxm).2 hwm;refine ⟨P,zmL ?_,f1,g1⟩;unfold zbF;rw [uB,hxi,sb,e,sb,uD];push_cast;rfl) v.Subs.length 0 p n (xO _) (by rw [xV];exact h)
    rw [xV] at this;exact this
   show Wr (zeE (zbU fuel) (zen fuel) (zdq fuel) ⟨p,n⟩ s f v) _ _ _ _;unfold zeE;by_cases hn:kNum f.Kind=true
   ·have hnt:=hfs.noTexts (by have:=ziF hn;omega);have hns:=hfs.noSubs (ziF hn).1;have hmany:=hfs.many;have hone:=hfs.one;unfold zbS at hmany hone;rw [hnt] at hmany hone L1;rw [hns] at hmany hone L2;simp only [yv,yF] at hmany hone;rw [xz hn] at wD m2|-;obtain ⟨P,e,f1,g1⟩:=zIi (p:=p) (n:=n) hn n1 n2 bw (by omega) hone ⟨m1,m2,by omega⟩
    generalize (if f.Repeated=true then put5 f.Number 2 (v.Words.flatMap (sPut f.Kind)) else put5 f.Number (zbm f.Kind) (sPut f.Kind (v.Words.headD 0)))=B at wD m2 e f1|-
    obtain ⟨Q,e1,f2,g2⟩:=L1 (p++P) (n+(B.length:Int)) ⟨by omega,by simp;omega,by simp;omega⟩;have g2':Q.length<=0:=g2;obtain ⟨R,e2,f3,g3⟩:=L2 (p++P++Q) (n+(B.length:Int)+(((([]:List Str).flatMap (put5 f.Number 2)).length:Nat):Int)) ⟨by omega,by simp [ziW];omega,by simp [wgMs];omega⟩;have g3':R.length<=0:=g3;have hQ:Q=[]:=uv.1 (by omega);have hR:R=[]:=uv.1 (by omega);subst hQ hR;refine ⟨P,?_,f1,by omega⟩;rw [itT (by simpa using hmany),e,sb,sb];simp only;rw [e1,sb];simp only;rw [e2,sb];simp [ziW]
   ·have hwd:v.Words=[]:=by
     cases hw':v.Words with
     | nil=>rfl
     | cons w l=>
      have hm:w∈v.Words:=by rw [hw'];exact xA
      exact absurd (zrd (hfs.words w hm) (bw w hm)).1 hn
    rw [xy hn] at wD m2|-;rw [xF] at m2;obtain ⟨Q,e1,f2,g2⟩:=L1 p n ⟨m1,by omega,by omega⟩;obtain ⟨R,e2,f3,g3⟩:=L2 (p++Q) (n+((v.Texts.flatMap (put5 f.Number 2)).length:Int)) ⟨by omega,by omega,by rw [xF];omega⟩;refine ⟨Q++R,?_,by rw [pO,f2,f3],by rw [xF];omega⟩;rw [itF (by rw [hwd];rfl),sb];simp only;rw [e1,sb];simp only;rw [e2,sb,yp,xF];congr 2;push_cast;omega
structure Ok16 (fuel:Nat) (x:Msg):Prop where
 b:bdM x
 s:smM x
 z:2*szM x<fuel
 w:wgM x<=30000
theorem zAn {s:List Mes} (hs:zfs s) {fuel:Nat} {x:Msg} {k:Int} (hz:2*szM x<fuel) (hb:bdM x) (hw:wgM x<=30000) (hr:zaE s x k=true):
  ∃P:List Str,zbU fuel ⟨[],0⟩ s k x=some ⟨P,((encM s x k).length:Int)⟩/\zaK P=some (encM s x k):=by
 have wD:=(zkg hs (szM x)).1 x k (xE _) hb hw hr;obtain ⟨P,e,f,g⟩:=(zGQ hs fuel).1 x k [] 0 (by omega) hb hw hr ⟨by omega,by omega,by simp;omega⟩;refine ⟨P,by rw [e,xK,Int.zero_add],?_⟩;rw [znH (by omega) (by rw [f];omega),f]
theorem zCc {fuel:Nat} {s:List Mes} (root:Int) {x:Msg} (h:Ok16 fuel x) (hw:WS s):zkc fuel s root x=some (zeh s root [x]):=by
 have wG:=zvv _ x (xE _);have hd:=zCi x;unfold zkc zeh zgr;rw [zyo root h.z hw h.b h.s (by have:=h.w;omega),sb,zqo hw];cases hr:zff s with
 | false=>
  rw [yY,uy,sb,uw];simp
 | true=>
  rw [yd];cases hm:zaE s x root with
  | true=>
   obtain ⟨g1,g2,_⟩:=zaZ hm;rw [uw,xy (show ¬(true=false) by simp),xy (show ¬(root<0\/root>=(s.length:Int)) by omega)];simp [hm]
  | false=>
   rw [uy,sb,uy,xy (show ¬(true=false) by simp)];by_cases hroot:root<0\/root>=(s.length:Int)
   ·rw [itT (by simpa using hroot),xz hroot];simp
   ·rw [itF (by simpa using hroot),xy hroot];simp [hm]
theorem zrX {fuel:Nat} {s:List Mes} (root:Int) {x:Msg} (h:Ok16 fuel x) (hw:WS s):zgL fuel s root x=some (zvU s root x):=by
 unfold zgL zvU;rw [zCc root h hw,sb];by_cases h0:zeh s root [x]=0
 ·obtain ⟨g1,_,_,g4⟩:=zml h0;obtain ⟨P,e,c⟩:=zAn g1 h.z h.b h.w (g4 x (by simp));rw [itF (by simpa using h0),xz h0,e,sb];unfold zgM;rw [sb,c,sb,sb]
 ·rw [itT (by simpa using h0),xy h0]
theorem zIB {fuel:Nat} {s:List Mes} (root:Int) {x:Msg} (h:Ok16 fuel x) (hw:WS s):zlZ fuel s root x=some (zFb s root x):=by
 unfold zlZ zFb;rw [zCc root h hw,sb];by_cases h0:zeh s root [x]=0
 ·obtain ⟨g1,_,_,g4⟩:=zml h0;obtain ⟨P,e,c⟩:=zAn g1 h.z h.b h.w (g4 x (by simp));rw [itF (by simpa using h0),xz h0,e,sb]
 ·rw [itT (by simpa using h0),xy h0]
end Go.Proofs.YtkgohoggipdokaaGreat
