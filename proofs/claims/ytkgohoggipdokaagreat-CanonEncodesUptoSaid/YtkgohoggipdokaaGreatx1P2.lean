/-
  What the plain functions are. No condition.
-/
import Derived.Test.YtkgohoggipdokaaGreatx1P1
import Derived.Test.YtkgohoggipdokaaGreatx1S1
import Derived.Test.YtkgohoggipdokaaGreatx1K2
import Derived.Test.YtkgohoggipdokaaGreatx1K1
set_option autoImplicit true
set_option relaxedAutoImplicit true
namespace Go.Proofs.YtkgohoggipdokaaGreat
open Go.IntKind (i64 u64)
open Go
set_option linter.unusedVariables false
def lt7 (c:UInt8):Bool:=decide (97<=c.toNat/\c.toNat<=122\/65<=c.toNat/\c.toNat<=90\/c.toNat=95)
def dg7 (c:UInt8):Bool:=decide (48<=c.toNat/\c.toNat<=57)
theorem ztp (c:UInt8):zfO (c.toNat:Int)=some (dg7 c):=by
 unfold zfO dg7;congr 1;rw [yy];simp;omega
theorem zxR (c:UInt8):zgi (c.toNat:Int)=some (lt7 c):=by
 unfold zgi lt7;congr 1;by_cases h1:(c.toNat:Int)>=97<;>by_cases h2:(c.toNat:Int)>=65<;>simp only [h1,h2,decide_true,decide_false,yq,ql,qj]<;>rw [yy]<;>simp<;>omega
theorem zxS (s:List UInt8) (hs:s.length<=1152921504606846976):∀(l:List UInt8) (i:Nat),s.drop i=l->zeC s i=some (if (l.all fun c=>lt7 c|| dg7 c)=true then .inl () else .inr ()):=by
 intro l
 induction l with
 | nil=>
  intro i hd;have:=zhz hd;refine zjc ?_;unfold zci;rw [pT];rfl
 | cons c l ih=>
  intro i hd;obtain ⟨hi,hc,hd'⟩:=zgB hd;have hb:zci s i=if (lt7 c|| dg7 c)=true then some (.inl ((i+1:Nat):Int)) else some (.inr (.inr ())):=by
   unfold zci;rw [pS,zI rfl hi,sb,hc,zxR,sb,sb,ztp,pU];cases lt7 c<;>cases dg7 c<;>rfl
  rw [yp];cases hk:(lt7 c|| dg7 c) with
  | false=>
   rw [hk] at hb;rw [zjc hb];rfl
  | true=>
   rw [hk] at hb;rw [zom hb,ih _ hd',xM]
theorem zAI:∀(l:List UInt8) (i:Nat),0<i->nmA i l=l.all fun c=>lt7 c|| dg7 c
 | [],_,_=>rfl
 | c::l,i,h=>by
  rw [nmA,zAI l (i+1) (by omega),yp];congr 1;unfold nmc lt7 dg7;rw [yy];simp;omega
theorem zvl (hs:s.length<=1152921504606846976):zgm s=some (zeY s):=by
 unfold zgm zeY;have hl:=zxS s hs s 0 rfl;have hl':zeC s 0=_:=hl;cases s with
 | nil=>rfl
 | cons c l=>
  rw [pR];by_cases h60:((c::l).length:Int)>60
  ·rw [itT (by simpa using h60),sb,itT rfl];have:decide (1<=(c::l).length/\(c::l).length<=60)=false:=by simp only [pE];omega
   rw [this,qy]
  ·have hd:decide (1<=(c::l).length/\(c::l).length<=60)=true:=by simp only [xP];refine ⟨by simp,by omega⟩
   have hc:idx (c::l) 0=some c:=by simp [idx]
   rw [itF (by simpa using h60),hc,sb,ztp,sb,sb,hd,qP,hl',sb];have e:nmA 0 (c::l)=(lt7 c&&l.all fun c=>lt7 c|| dg7 c):=by
    rw [nmA,zAI l 1 (by omega)];congr 1;unfold nmc lt7;rw [yy];simp;omega
   have hx:lt7 c=true->dg7 c=false:=by
    unfold lt7 dg7;simp only [xP,pE];omega
   rw [e,yp];cases h1:lt7 c<;>cases h2:dg7 c<;>first| (rw [hx h1] at h2;cases h2;done)| skip
   ·rfl
   ·rfl
   ·cases l.all fun c=>lt7 c|| dg7 c<;>rfl
theorem zCB (hl:l.length<=1152921504606846976) (v:Int):zdg l v=some (zir (fun x=>v==x) l):=by
 unfold zdg;have h:=zrf (fun x=>v==x) l (fun i=>zbE l v i) (zfP (by unfold zal;rw [pR])) (fun i hi=>by
  by_cases hp:(v==l[i])=true
  ·rw [xx hp];exact zfP (by unfold zal;rw [pS,zI rfl hi,sb,itT hp])
  ·rw [xw hp];exact ziB (by unfold zal;rw [pS,zI rfl hi,sb,itF (by simpa using hp),pU];rfl)) l.length 0 (by omega) (fun j _ h=>by omega)
 have h':zbE l v 0=_:=h;rw [h',sb];unfold zir;cases l.findIdx? (fun x=>v==x)<;>rfl
theorem zuG {α:Type} (p:α->Bool) (l:List α):decide (zir p l>=0)=l.any p:=by
 cases h:l.findIdx? p with
 | none=>
  rw [zkZ h];rw [pf] at h
  symm
  rw [List.any_eq_false.2 fun x hx=>by simpa using h x hx];rfl
 | some i=>
  rw [zla h];rw [pg] at h;obtain ⟨hi,hp,_⟩:=h
  symm
  rw [List.any_eq_true.2 ⟨l[i],xE hi,hp⟩];simp
theorem zxC (hl:l.length<=1152921504606846976) (v:Int):zcb l v=some (l.any fun x=>v==x):=by
 unfold zcb;rw [zCB hl,sb,zuG]
def K17:List Int:=[1,2,3,4,5,6,7,8,9,10,11,12,13,14,15,16,17]
theorem zBm (k:Int):(K17.any fun x=>k==x)=zdt k:=by
 unfold zdt K17;rw [yy];simp;omega
def hasN (m:List (zp×Bool)) (i:Int) (n:Str):Bool:=(mget m (⟨i,n⟩:zp)).getD false
def hasU (m:List (zr×Bool)) (i:Int) (n:Int):Bool:=(mget m (⟨i,n⟩:zr)).getD false
theorem zlW (m:List (zp×Bool)) (i j:Int) (n k:Str):hasN (mput m ⟨i,n⟩ true) j k=(decide (j=i/\k=n)|| hasN m j k):=by
 unfold hasN;rw [zmd];by_cases h:j=i/\k=n
 ·obtain ⟨rfl,rfl⟩:=h;simp
 ·rw [xw (fun e=>h (by injection e with e1 e2;exact ⟨e1,e2⟩))];simp [h]
theorem zxO (m:List (zr×Bool)) (i j:Int) (n k:Int):hasU (mput m ⟨i,n⟩ true) j k=(decide (j=i/\k=n)|| hasU m j k):=by
 unfold hasU;rw [zmd];by_cases h:j=i/\k=n
 ·obtain ⟨rfl,rfl⟩:=h;simp
 ·rw [xw (fun e=>h (by injection e with e1 e2;exact ⟨e1,e2⟩))];simp [h]
theorem zxT (n:Int):zgj n=some (decide ¬(n<1\/n>536870911\/(19000<=n/\n<20000))):=by
 unfold zgj;congr 1;rw [yy];simp;omega
theorem zzD (f:Fld):zgE f=some (f.Repeated&&kNum f.Kind):=by
 unfold zgE;rw [zzw];cases f.Repeated<;>rfl
theorem zCT (n:Int) (K:List Int) (nm:List (zp×Bool)) (nu:List (zr×Bool)) (f:Fld):zeR ⟨n,K,nm,nu⟩ f=some (decide ¬(f.Kind=17/\(f.Of<0\/f.Of>=n)\/f.Kind≠17/\f.Of≠0)):=by
 unfold zeR;by_cases h:f.Kind=17
 ·rw [itT (by simpa using h)];congr 1;rw [yy];simp [h]
 ·rw [itF (by simpa using h)];congr 1;rw [yy];simp [h]
theorem zCs (hf:f.Name.length<=1152921504606846976) (hN:hasN nm i f.Name=prev.any fun g=>g.Name==f.Name) (hU:hasU nu i f.Number=prev.any fun g=>g.Number==f.Number):
  zeQ ⟨n,K17,nm,nu⟩ i f=some (zcH n prev f,if zcH n prev f=0 then (mput nm ⟨i,f.Name⟩ true,mput nu ⟨i,f.Number⟩ true) else (nm,nu)):=by
 unfold zeQ;rw [zvl hf,sb];have e1:(mget nm (⟨i,f.Name⟩:zp)).getD false=hasN nm i f.Name:=rfl;have e2:(mget nu (⟨i,f.Number⟩:zr)).getD false=hasU nu i f.Number:=rfl;simp only [e1,e2,hN,hU];have hz:∀(k:Int) (x y:List (zp×Bool)×List (zr×Bool)),k≠0->(if k=0 then x else y)=y:=fun k x y h=>xw h
 by_cases h1:zeY f.Name=false
 ·have hF:zcH n prev f=5:=by unfold zcH;rw [xx h1]
  rw [hF,hz 5 _ _ (by decide),itT (by rw [h1];rfl)]
 rw [itF (show (!zeY f.Name)=false by simpa using h1)];by_cases h2:(prev.any fun g=>g.Name==f.Name)=true
 ·have hF:zcH n prev f=6:=by unfold zcH;rw [xw h1,xx h2]
  rw [hF,hz 6 _ _ (by decide),itT h2]
 have h2':(prev.any fun g=>g.Name==f.Name)=false:=pk h2;rw [itF h2',zxT,sb];by_cases h3:f.Number<1\/f.Number>536870911\/(19000<=f.Number/\f.Number<20000)
 ·have hF:zcH n prev f=7:=by unfold zcH;rw [xw h1,xw h2,xx h3]
  rw [hF,hz 7 _ _ (by decide),itT (by rw [xW (fun h=>h h3)];rfl)]
 rw [itF (by rw [xV h3];rfl)];by_cases h4:(prev.any fun g=>g.Number==f.Number)=true
 ·have hF:zcH n prev f=8:=by unfold zcH;rw [xw h1,xw h2,xw h3,xx h4]
  rw [hF,hz 8 _ _ (by decide),itT h4]
 have h4':(prev.any fun g=>g.Number==f.Number)=false:=pk h4;rw [itF h4',zxC (by decide),sb,zBm];by_cases h5:zdt f.Kind=false
 ·have hF:zcH n prev f=9:=by unfold zcH;rw [xw h1,xw h2,xw h3,xw h4,xx h5]
  rw [hF,hz 9 _ _ (by decide),itT (by rw [h5];rfl)]
 rw [itF (show (!zdt f.Kind)=false by simpa using h5),zzD];have hg:(if f.Packed=true then (some (f.Repeated&&kNum f.Kind)>>=fun rv4=>some (!rv4)) else some false)=some (decide (f.Packed=true/\¬(f.Repeated=true/\kNum f.Kind=true))):=by
  cases f.Packed<;>cases f.Repeated<;>cases kNum f.Kind<;>rfl
 rw [hg,sb];by_cases h6:f.Packed=true/\¬(f.Repeated=true/\kNum f.Kind=true)
 ·have hF:zcH n prev f=10:=by unfold zcH;rw [xw h1,xw h2,xw h3,xw h4,xw h5,xx h6]
  rw [hF,hz 10 _ _ (by decide),itT (xV h6)]
 rw [itF (xW h6),zCT,sb];by_cases h7:f.Kind=17/\(f.Of<0\/f.Of>=n)\/f.Kind≠17/\f.Of≠0
 ·have hF:zcH n prev f=11:=by unfold zcH;rw [xw h1,xw h2,xw h3,xw h4,xw h5,xw h6,xx h7]
  rw [hF,hz 11 _ _ (by decide),itT (by rw [xW (fun h=>h h7)];rfl)]
 have hF:zcH n prev f=0:=by unfold zcH;rw [xw h1,xw h2,xw h3,xw h4,xw h5,xw h6,xw h7]
 rw [hF,xx rfl,itF (by rw [xV h7];rfl)]
theorem zzE {n:Int} {nm:List (zp×Bool)} {nu:List (zr×Bool)} {prev:List Mes} {m:Mes} (hm:m.Name.length<=1152921504606846976) (hN:hasN nm (-1) m.Name=prev.any fun g=>g.Name==m.Name):
  zec ⟨n,K17,nm,nu⟩ m=some (if zeY m.Name=false then (2,nm,nu) else if (prev.any fun g=>g.Name==m.Name)=true then (3,nm,nu) else if 200<m.Fields.length then (4,nm,nu) else (0,mput nm ⟨-1,m.Name⟩ true,nu)):=by
 unfold zec;rw [zvl hm,sb];have e1:(mget nm (⟨(-1),m.Name⟩:zp)).getD false=hasN nm (-1) m.Name:=rfl;simp only [e1,hN];by_cases h1:zeY m.Name=false
 ·rw [xx h1,itT (show (!zeY m.Name)=true by rw [h1];rfl)]
 rw [xw h1,itF (show (!zeY m.Name)=false by simpa using h1)];by_cases h2:(prev.any fun g=>g.Name==m.Name)=true
 ·rw [xx h2,itT h2]
 have h2':(prev.any fun g=>g.Name==m.Name)=false:=pk h2;rw [xw h2,itF h2'];by_cases h3:200<m.Fields.length
 ·rw [xx h3,itT (show decide ((m.Fields.length:Int)>200)=true by simp;omega)]
 rw [xw h3,itF (show decide ((m.Fields.length:Int)>200)=false by simp;omega)]
structure Met (nm:List (zp×Bool)) (nu:List (zr×Bool)) (i:Nat) (prev:List Mes) (p:List Fld):Prop where
 mes:∀n,hasN nm (-1) n=prev.any fun g=>g.Name==n
 nam:∀n,hasN nm i n=p.any fun g=>g.Name==n
 num:∀n,hasU nu i n=p.any fun g=>g.Number==n
 later:∀(j:Nat) n,i<j->hasN nm j n=false
 laterU:∀(j:Nat) n,i<j->hasU nu j n=false
theorem Met.step (h:Met nm nu i prev p) (f:Fld):Met (mput nm ⟨i,f.Name⟩ true) (mput nu ⟨i,f.Number⟩ true) i prev (p++[f]):=by
 refine ⟨fun n=>?_,fun n=>?_,fun n=>?_,fun j n hj=>?_,fun j n hj=>?_⟩
 ·rw [zlW,h.mes,xW (by omega),qL]
 ·rw [zlW,h.nam,pI,Bool.or_comm];congr 1;simp only [qx,List.any_nil,qO];rw [yy];simp;exact eq_comm
 ·rw [zxO,h.num,pI,Bool.or_comm];congr 1;simp only [qx,List.any_nil,qO];rw [yy];simp;exact eq_comm
 ·rw [zlW,h.later j n hj,xW (by omega)];rfl
 ·rw [zxO,h.laterU j n hj,xW (by omega)];rfl
theorem zCl (hb:m.Fields.length<=140737488351232) (hn:∀f∈m.Fields,f.Name.length<=140737488351232):
  ∀(l:List Fld) (k:Nat) (nm:List (zp×Bool)) (nu:List (zr×Bool)),m.Fields.drop k=l->k<=m.Fields.length->Met nm nu i prev (m.Fields.take k)->
   (∃j w,msgF s.length (m.Fields.take k) l=some (j,w)/\zdI K17 s i m k nm nu=some (.inr ((j:Int),w)))\/
   (msgF s.length (m.Fields.take k) l=none/\∃nm' nu',zdI K17 s i m k nm nu=some (.inl (nm',nu'))/\Met nm' nu' i prev m.Fields):=by
 intro l
 induction l with
 | nil=>
  intro k nm nu hd hk hM;have:=zhz hd;have hkl:k=m.Fields.length:=by omega
  subst hkl;refine .inr ⟨rfl,nm,nu,zju ?_,by simpa using hM⟩;unfold zbO;rw [pR]
 | cons f l ih=>
  intro k nm nu hd hk hM;obtain ⟨hi,hc,hd'⟩:=zgB hd;have hf:=hn f (by rw [<-hc];exact xE hi);have hfld:=zCs (n:=(s.length:Int)) (i:=(i:Int)) (nm:=nm) (nu:=nu) (prev:=m.Fields.take k) (f:=f) (by omega) (hM.nam _) (hM.num _);have htk:m.Fields.take (k+1)=m.Fields.take k++[f]:=by rw [qM hi,hc]
  have v8:(m.Fields.take k).length=k:=by simp;omega
  obtain ⟨bd,_⟩:=ztf (s.length:Int) (m.Fields.take k) f;rw [msgF];by_cases h0:zcH s.length (m.Fields.take k) f=0
  ·rw [xw (by omega)];rw [h0,xx rfl] at hfld;have hstep:zbO K17 s i m k nm nu=some (.inl (((k+1:Nat):Int),mput nm ⟨i,f.Name⟩ true,mput nu ⟨i,f.Number⟩ true)):=by
    unfold zbO;rw [pS,zI rfl hi,sb,hc,hfld,sb];dsimp only;rw [itF (show ((0:Int) !=0)=false from rfl),pU];rfl
   rw [zpc hstep,<-htk];exact ih (k+1) _ _ hd' (by omega) (by rw [htk];exact hM.step f)
  ·rw [xx (by omega)];rw [xw h0] at hfld;refine .inl ⟨k,_,by rw [v8],zju ?_⟩;unfold zbO;rw [pS,zI rfl hi,sb,hc,hfld,sb];dsimp only;rw [itT (show (zcH (s.length:Int) (m.Fields.take k) f !=0)=true by simpa using h0)]
theorem zCk {s:List Mes} (hw:WS s):∀(l:List Mes) (i:Nat) (nm:List (zp×Bool)) (nu:List (zr×Bool)),s.drop i=l->i<=s.length->Met nm nu i (s.take i) []->
  zfa K17 s i nm nu=some (match chkF s.length (s.take i) l with| some (j,k,w)=> .inr ((j:Int),k,w)| none=> .inl ()):=by
 intro l
 induction l with
 | nil=>
  intro i nm nu hd hi hM;have:=zhz hd;refine zep ?_;unfold zaO;rw [pT];rfl
 | cons m l ih=>
  intro i nm nu hd hi hM;obtain ⟨hil,hc,hd'⟩:=zgB hd;obtain ⟨w1,w2⟩:=hw;obtain ⟨m1,m2,m3⟩:=w2 m (by rw [<-hc];exact xE hil);have hmes:=zzE (n:=(s.length:Int)) (nm:=nm) (nu:=nu) (prev:=s.take i) (m:=m) (by omega) (hM.mes _);have htk:s.take (i+1)=s.take i++[m]:=by rw [qM hil,hc]
  have v8:(s.take i).length=i:=by simp;omega
  rw [chkF];by_cases h1:zeY m.Name=false
  ·rw [xx h1] at hmes|-;refine zep ?_;unfold zaO;rw [pS,zI rfl hil,sb,hc,hmes,sb];dsimp only;rw [itT (show ((2:Int) !=0)=true from rfl),v8]
  rw [xw h1] at hmes|-;by_cases h2:((s.take i).any fun g=>g.Name==m.Name)=true
  ·rw [xx h2] at hmes|-;refine zep ?_;unfold zaO;rw [pS,zI rfl hil,sb,hc,hmes,sb];dsimp only;rw [itT (show ((3:Int) !=0)=true from rfl),v8]
  rw [xw h2] at hmes|-;by_cases h3:200<m.Fields.length
  ·rw [xx h3] at hmes|-;refine zep ?_;unfold zaO;rw [pS,zI rfl hil,sb,hc,hmes,sb];dsimp only;rw [itT (show ((4:Int) !=0)=true from rfl),v8]
  rw [xw h3] at hmes|-;have hM0:Met (mput nm ⟨-1,m.Name⟩ true) nu i (s.take i++[m]) (m.Fields.take 0):=by
   refine ⟨fun n=>?_,fun n=>?_,fun n=>?_,fun j n hj=>?_,fun j n hj=>hM.laterU j n hj⟩
   ·rw [zlW,hM.mes,pI,Bool.or_comm];congr 1;simp only [qx,List.any_nil,qO];rw [yy];simp;exact eq_comm
   ·rw [zlW,hM.nam,xW (by omega)];rfl
   ·rw [hM.num];rfl
   ·rw [zlW,hM.later j n hj,xW (by omega)];rfl
  have hl2:=zCl (s:=s) (i:=i) m2 m3 m.Fields 0 _ nu rfl (by omega) hM0;simp only [yr] at hl2;rcases hl2 with ⟨j,w,g1,g2⟩| ⟨g1,nm',nu',g2,g3⟩
  ·rw [g1];refine zep ?_;unfold zaO;have g2':zdI K17 s i m 0 (mput nm ⟨-1,m.Name⟩ true) nu=_:=g2;rw [pS,zI rfl hil,sb,hc,hmes,sb];dsimp only;rw [itF (show ((0:Int) !=0)=false from rfl),g2',sb];simp only [v8]
  ·rw [g1];have hstep:zaO K17 s i nm nu=some (.inl (((i+1:Nat):Int),nm',nu')):=by
    unfold zaO;have g2':zdI K17 s i m 0 (mput nm ⟨-1,m.Name⟩ true) nu=_:=g2;rw [pS,zI rfl hil,sb,hc,hmes,sb];dsimp only;rw [itF (show ((0:Int) !=0)=false from rfl),g2',sb];dsimp only;rw [pU];rfl
   rw [zpb hstep];simp only [];rw [<-htk];refine ih (i+1) nm' nu' hd' (by omega) ⟨fun n=>?_,fun n=>?_,fun n=>?_,fun j n hj=>g3.later j n (by omega),fun j n hj=>g3.laterU j n (by omega)⟩
   ·rw [htk];exact g3.mes n
   ·rw [g3.later (i+1) n (by omega)];rfl
   ·rw [g3.laterU (i+1) n (by omega)];rfl
theorem zCj (hw:WS s):zhZ s=some (⟨(zin s).1,(zin s).2.1,(zin s).2.2⟩,if (zin s).2.2=0 then 0 else 9):=by
 unfold zhZ zin;by_cases h:s.length=0\/100<s.length
 ·rw [pS,xx h];rfl
 ·rw [pT,xw h,zEA,sb];have hl:=zCk hw s 0 [] [] rfl (by omega) ⟨fun n=>rfl,fun n=>rfl,fun n=>rfl,fun j n _=>rfl,fun j n _=>rfl⟩;simp only [yr] at hl;have hl':zfa [1,2,3,4,5,6,7,8,9,10,11,12,13,14,15,16,17] s 0 [] []=_:=hl;rw [hl',sb];cases hc:chkF s.length [] s with
  | none=>rfl
  | some q=>
   obtain ⟨i,k,w⟩:=q;have:=zAb _ _ _ _ _ _ hc;simp only;rw [xw (by omega)]
theorem zyC (hw:WS s):zgM s=some (zgu s):=by
 unfold zgM zgu;rw [zCj hw,sb];by_cases h:(zin s).2.2=0<;>simp [h]
def wid (k:Int):Nat:=if 12<=k then 8 else if 9<=k then 4 else 0
theorem zvS (k:Int):zgL k=some (if kNum k then ((wid k:Int),0) else (0,2)):=by
 cases hn:kNum k with
 | true=>
  have h:=ziW.1 hn;have hk:k=1\/k=2\/k=3\/k=4\/k=5\/k=6\/k=7\/k=8\/k=9\/k=10\/k=11\/k=12\/k=13\/k=14:=by omega
  rcases hk with rfl| rfl| rfl| rfl| rfl| rfl| rfl| rfl| rfl| rfl| rfl| rfl| rfl| rfl<;>rfl
 | false=>
  have h:=pH hn;unfold zgL;have hne:∀c:Int,1<=c->c<=14->(k==c)=false:=fun c h1 h2=>by simp;omega
  simp only [hne 1 (by omega) (by omega),hne 2 (by omega) (by omega),hne 3 (by omega) (by omega),hne 4 (by omega) (by omega),hne 5 (by omega) (by omega),hne 6 (by omega) (by omega),hne 7 (by omega) (by omega),hne 8 (by omega) (by omega),hne 9 (by omega) (by omega),hne 10 (by omega) (by omega),hne 11 (by omega) (by omega),hne 12 (by omega) (by omega),hne 13 (by omega) (by omega),hne 14 (by omega) (by omega)];rfl
theorem zAT {k w:Int} (h:0<=w/\w<=18446744073709551615):ziA k w=some (if kNum k then (sPut k w,0) else ([],2)):=by
 have hc:=ziN k h;obtain ⟨c,hcc⟩:∃c:Nat,zbg k w=c:=⟨(zbg k w).toNat,by omega⟩;unfold ziA;rw [zvS,sb];cases hn:kNum k with
 | false=>rfl
 | true=>
  simp only [yq];rw [pQ,zma k h,sb,hn];simp only [yq];rw [hcc];unfold sPut ziz;rw [hcc,xX];unfold wid;by_cases h1:12<=k
  ·rw [xx h1,xx h1,pQ,zvu,sb];rfl
  ·rw [xw h1,xw h1];by_cases h2:9<=k
   ·rw [xx h2,xx h2,pQ,zvu,sb];rfl
   ·rw [xw h2,xw h2,pP,zzH [] (by omega) (by simp),sb,yb]
theorem zyH (h:0<=w/\w<=18446744073709551615):zhF k w=some (if kNum k then ((sPut k w).length:Int) else 0):=by
 have hc:=ziN k h;obtain ⟨c,hcc⟩:∃c:Nat,zbg k w=c:=⟨(zbg k w).toNat,by omega⟩;unfold zhF;rw [zvS,sb];cases hn:kNum k with
 | false=>rfl
 | true=>
  simp only [yq];unfold sPut ziz;rw [hcc,xX];unfold wid;by_cases h1:12<=k
  ·rw [xx h1,xx h1,pP,zbv]
  ·rw [xw h1,xw h1];by_cases h2:9<=k
   ·rw [xx h2,xx h2,pP,zbv]
   ·rw [xw h2,xw h2,pQ,zma k h,sb,hn];simp only [yq];rw [hcc,zCX (by omega),sb,zsu]
theorem zvd {α:Type} {l t:List α} {x:α} {k:Nat} (h:l.drop k=x::t):∃hk:k<l.length,l[k]=x/\l.drop (k+1)=t:=by
 have hk:k<l.length:=by
  rcases yN k l.length with h'| h'
  ·exact h'
  ·rw [yg h'] at h;cases h
 rw [xZ hk] at h;injection h with h1 h2;exact ⟨hk,h1,h2⟩
theorem zwn (l:List (List UInt8)) (hl:l.length<=1099511627776):∀(t:List (List UInt8)) (k s:Nat),l.drop k=t->s+t.flatten.length<=1099511627776->
  zbd l s k=some ((s+t.flatten.length:Nat):Int):=by
 intro t
 induction t with
 | nil=>
  intro k s hd _;have hk:l.length<=k:=by have:=congrArg List.length hd;simp at this;omega
  refine zhK ?_;unfold zaa;rw [pT];simp
 | cons x t ih=>
  intro k s hd hs;obtain ⟨hk,hx,hd'⟩:=zvd hd;simp only [qt,xG] at hs;refine (zhJ (size':=((s+x.length:Nat):Int)) (v':=((k+1:Nat):Int)) ?_).trans ?_
  ·unfold zaa;rw [pS,zI rfl hk,sb,hx,pU,pT,pU];push_cast;rfl
  ·rw [ih _ _ hd' (by omega)];simp only [qt,xG];congr 2;omega
theorem zwo (l:List (List UInt8)) (hl:l.length<=1099511627776):∀(t:List (List UInt8)) (k:Nat) (acc:List UInt8),l.drop k=t->acc.length+t.flatten.length<=1099511627776->
  zbe l acc k=some (acc++t.flatten):=by
 intro t
 induction t with
 | nil=>
  intro k acc hd _;have hk:l.length<=k:=by have:=congrArg List.length hd;simp at this;omega
  refine zhM ?_;unfold zab;rw [pT];simp
 | cons x t ih=>
  intro k acc hd hs;obtain ⟨hk,hx,hd'⟩:=zvd hd;simp only [qt,xG] at hs;refine (zhL (newslice':=acc++x) (v2':=((k+1:Nat):Int)) ?_).trans ?_
  ·unfold zab;rw [pS,zI rfl hk,sb,hx,zfE (by omega),sb,pU];push_cast;rfl
  ·rw [ih _ _ hd' (by rw [xG];omega)];simp
theorem zEr {n:Nat} (h:n<=1099511627776):zcI (n:Int)=some []:=by
 unfold zcI;have e:i64.wrap ((n:Int) - i64.wrap (0 - 0))=n:=by rw [zk (x:=0 - 0) (by omega),pU];omega
 rw [pR,e];by_cases h0:(n:Int)>0
 ·rw [itT (by simpa using h0),zzF (a:=n) rfl (Int.le_refl _) (by omega),sb];have e0:cut (List.replicate n (0:UInt8)) 0 0=some []:=zxD (b:=0) rfl (ya _);rw [e0,sb]
 ·rw [itF (by simpa using h0)]
theorem zoC (hl:l.length<=1099511627776) (h:l.flatten.length<=1099511627776):zak l=some l.flatten:=by
 unfold zak;have h1:=zwn l hl l 0 0 rfl (by omega);have h1':zbd l 0 0=_:=h1;have h2:=zwo l hl l 0 [] rfl (by simpa using h);have h2':zbe l [] 0=_:=h2;rw [h1',sb,zEr (by omega),sb,h2',sb];simp
def wid9 (k:Int):Int:=if kNum k then (if 12<=k then 8 else if 9<=k then 4 else 1) else 0
theorem zuN (hk:kNum k=true):(((sPut k 0).length:Nat):Int)=(if 12<=k then 8 else if 9<=k then 4 else 1):=by
 have hk':=ziW.1 hk;have hc:(zbg k 0).toNat=0:=by
  have:k=1\/k=2\/k=3\/k=4\/k=5\/k=6\/k=7\/k=8\/k=9\/k=10\/k=11\/k=12\/k=13\/k=14:=by omega
  rcases this with h| h| h| h| h| h| h| h| h| h| h| h| h| h<;>subst h<;>decide
 unfold sPut;rw [hc];unfold ziz;by_cases h1:12<=k
 ·rw [xx h1,xx h1,zbv];rfl
 ·rw [xw h1,xw h1];by_cases h2:9<=k
  ·rw [xx h2,xx h2,zbv];rfl
  ·rw [xw h2,xw h2,zsu];simp [lenN]
theorem zBM (k:Int):zmj k=some (wid9 k):=by
 unfold zmj wid9;rw [zyH (by omega),sb];cases hk:kNum k with
 | false=>rfl
 | true=>simp only [yq];rw [zuN hk]
theorem zFj (hk:kNum k=true):(k<9->wid9 k=1)/\(¬k<9->k<12->wid9 k=4)/\(¬k<12->wid9 k=8):=by
 unfold wid9;rw [hk,xx rfl];refine ⟨fun h=>?_,fun h1 h2=>?_,fun h=>?_⟩
 ·rw [xw (show ¬12<=k by omega),xw (show ¬9<=k by omega)]
 ·rw [xw (show ¬12<=k by omega),xx (show 9<=k by omega)]
 ·rw [xx (show 12<=k by omega)]
theorem zDX (hk:kNum k=false):wid9 k=0:=by unfold wid9;rw [hk];rfl
theorem zFi (hk:kNum k=true):(wid9 k==0)=false:=by
 obtain ⟨h1,h2,h3⟩:=zFj hk;by_cases h9:k<9
 ·rw [h1 h9];rfl
 ·by_cases h12:k<12
  ·rw [h2 h9 h12];rfl
  ·rw [h3 h12];rfl
theorem zBz {k:Int} (hk:kNum k=true) {l:List Int} (h:∀w∈l,0<=w/\w<=18446744073709551615) (hl:l.length<=1048576):∀(d i:Nat),i+d=l.length->
  zhE k l ((l.take i).flatMap (sPut k)) i=some (l.flatMap (sPut k)):=by
 intro d
 induction d with
 | zero=>
  intro i hi;refine zsi ?_;unfold zex;rw [pT,yH (by omega)]
 | succ d ih=>
  intro i hi;have vY:i<l.length:=by omega
  have hw:=h _ (xE vY);have v8:=zky (k:=k) hw;have hpre:∀m:List Int,(∀w∈m,0<=w/\w<=18446744073709551615)->(m.flatMap (sPut k)).length<=10*m.length:=by
   intro m hm
   induction m with
   | nil=>simp
   | cons x m ihm=>
    have h1:=zky (k:=k) (hm x xy);have h2:=ihm (fun w hw=>hm w (xz _ hw));simp only [xN,xG,xY];omega
  have hp:=hpre (l.take i) (fun w hw=>h w (List.mem_of_mem_take hw));have hti:(l.take i).length=i:=by rw [ye];omega
  have hb:zex k l ((l.take i).flatMap (sPut k)) i=some (.inl ((l.take (i+1)).flatMap (sPut k),((i+1:Nat):Int))):=by
   unfold zex;rw [pS,zI rfl vY,sb,zAT hw,sb,hk,xx rfl];simp only;rw [zfE (by omega),sb,pU,qM vY,qs];simp
  rw [zsh hb];exact ih (i+1) (by omega)
theorem zDv (k:Int) {l:List Int} (h:∀w∈l,0<=w/\w<=18446744073709551615) (hl:l.length<=1048576):zoh k l=some (if kNum k then (l.flatMap (sPut k),0) else ([],2)):=by
 unfold zoh;rw [zBM,sb];cases hk:kNum k with
 | false=>rw [zDX hk];rfl
 | true=>
  have hlp:=zBz hk h hl l.length 0 (by omega);have hlp':zhE k l [] 0=_:=hlp;rw [itF (zFi hk),hlp',sb,xx rfl]
abbrev PVw:=zjR
theorem zoU (t:zP):zjP t=some (zcj t.Number t.Wire):=by
 have e:zhi t.Wire=some (decide (t.Wire=0\/t.Wire=1\/t.Wire=2\/t.Wire=5)):=by
  unfold zhi;by_cases h0:t.Wire=0
  ·simp [h0]
  by_cases h1:t.Wire=1
  ·simp [h1]
  by_cases h2:t.Wire=2
  ·simp [h2]
  by_cases h5:t.Wire=5
  ·simp [h5]
  simp [h0,h1,h2,h5]
 unfold zjP zcj;rw [e];by_cases h1:1<=t.Number
 ·by_cases h2:t.Number<=536870911
  ·rw [itT (by simpa using h1),itT (by simpa using h2),sb,sb];simp [h1,h2]
  ·rw [itT (by simpa using h1),itF (by simpa using h2),sb];simp [h2]
 ·rw [itF (by simpa using h1),sb];simp [h1]
theorem zGP (w:Nat) (h:w<18446744073709551616):andI .u64 (w:Int) 7=((w%8:Nat):Int):=by
 have e:=zxn (k:= .u64) rfl (a:=w) (b:=7) (by simpa [IntKind.bits] using h) (by simp [IntKind.bits]);have e2:w&&&7=w%8:=pN w 3;rw [e2] at e;exact e
theorem zHo (w:Nat):shrI .u64 (w:Int) 3=((w/8:Nat):Int):=zqI (k:= .u64) (a:=w) (b:=3) (by simp [IntKind.bits])
theorem zDP (b:List UInt8):zop b=some ((⟨(tg b).1,(tg b).2.1⟩:zP),(tg b).2.2.1,(tg b).2.2.2):=by
 obtain ⟨h1,h2,h3,h4,h5,h6,h7⟩:=zhB b;unfold zop tg;rw [zwM,sb];by_cases h:(rd b).2.2=0
 ·rw [itF (by simpa using h)];obtain ⟨w,hw⟩:∃w:Nat,(rd b).1=w:=⟨(rd b).1.toNat,by omega⟩;rw [hw] at h2|-;rw [zHo,zGP w (by omega)];have e0:i64.wrap ((w%8:Nat):Int)=(w:Int)%8:=by rw [pU];omega
  by_cases hg:4294967295<w
  ·have e1:i64.wrap (if (536870912:Int)<((w/8:Nat):Int) then 536870912 else ((w/8:Nat):Int))=536870912:=by
    split
    ·rfl
    ·rw [pU];omega
   rw [e0,e1,zoU,sb];have e2:zcj 536870912 ((w:Int)%8)=false:=by simp [zcj]
   simp only [e2];rw [pP,zor h (.inl (by rw [hw];omega))]
  ·have e1:i64.wrap (if (536870912:Int)<((w/8:Nat):Int) then 536870912 else ((w/8:Nat):Int))=(w:Int)/8:=by
    rw [xw (by omega),pU];omega
   rw [e0,e1,zoU,sb];simp only;cases ht:zcj ((w:Int)/8) ((w:Int)%8)
   ·rw [pP,zor h (.inr (by rw [hw];exact ht))]
   ·rw [pQ,zzR h (by rw [hw,ht];simp;omega),hw]
 ·rw [itT (by simpa using h),zxb h]
theorem zGF {t:zP} (h:zcj t.Number t.Wire=true):zoq t=some ((tW t.Number t.Wire:Nat):Int):=by
 have hr:=zeS.1 h;obtain ⟨e,vY⟩:=zuj h;unfold zoq;congr 1;obtain ⟨n,hn⟩:∃n:Nat,t.Number=n:=⟨t.Number.toNat,by omega⟩;obtain ⟨w,hw⟩:∃w:Nat,t.Wire=w:=⟨t.Wire.toNat,by omega⟩;have e3:tW t.Number t.Wire=8*n+w:=by omega
 rw [e3,hn,hw,zdi,zdi,yB (by omega) (by omega),yB (by omega) (by omega)];have e4:shlI .u64 (n:Int) 3=((n*8:Nat):Int):=by
  have h3:shlI .u64 (n:Int) 3=((n*8%18446744073709551616:Nat):Int):=by
   simp [shlI,IntKind.bits,zdi]
  rw [h3,qf (by omega)]
 rw [e4,zsG rfl (by simp [IntKind.bits];omega) (by simp [IntKind.bits];omega),Nat.or_comm,ztI w n 3 (by omega)];congr 1;omega
theorem zFf {t:zP} (b:List UInt8) (hb:b.length<=1099511627776) (h:zcj t.Number t.Wire=true):zmP b t=some (b++enc (tW t.Number t.Wire),0):=by
 obtain ⟨_,vY⟩:=zuj h;unfold zmP;rw [zoU,sb,h,pQ,zGF h,sb,zzH b (by omega) hb,sb]
theorem zFg {t:zP} (b:List UInt8) (h:zcj t.Number t.Wire=false):zmP b t=some ([],2):=by
 unfold zmP;rw [zoU,sb,h,pP]
theorem zAS (hw:w=0\/w=1\/w=2\/w=5) (hb:b.length<=1048576):
  zhC w b=some (match zfc w 0 b with| .inl c=>(0,(if w=0 then (rd b).2.1 else 0),c)| .inr (a,t)=>((a:Int),(t:Int),0)):=by
 obtain ⟨h1,h2,h3,h4,h5,h6,h7⟩:=zhB b;unfold zhC zfc;rcases hw with rfl| rfl| rfl| rfl
 ·rw [pP,zEZ,sb,xx rfl];by_cases h:(rd b).2.2=0
  ·rw [xw (by simpa using h)];simp only [h,xH];congr 3;simp;omega
  ·rw [xx h];rfl
 ·rw [pQ,pP,sb,pQ,xw (show ¬((1:Int)=0) by omega),xw (show ¬((1:Int)=2) by omega)];simp only;have e:u64.wrap (i64.wrap ((b.length:Int) - 0))=(b.length:Int):=by rw [pU,zdi];omega
  rw [e];by_cases g:b.length<8
  ·rw [pS,xx (by simpa using g)];rfl
  ·rw [pT,xw (by simpa using g)];rfl
 ·rw [pQ,pQ,pQ,pP,zwM,sb,sb,xw (show ¬((2:Int)=0) by omega),xx (show (2:Int)=2 from rfl)];by_cases h:(rd b).2.2=0
  ·have hk:=h7 h;rw [itF (by simpa using h),xw (show ¬((rd b).2.2≠0) from fun g=>g h)];simp only;have e:u64.wrap (i64.wrap ((b.length:Int) - (rd b).2.1))=(b.length:Int) - (rd b).2.1:=by rw [pU,zdi];omega
   rw [e];by_cases g:(b.length:Int) - (rd b).2.1<(rd b).1
   ·rw [itT (by simpa using g),xx g];rfl
   ·rw [itF (by simpa using g),xw g,zk (x:=(rd b).1) (by omega),pU];simp;omega
  ·rw [itT (by simpa using h),xx h];rfl
 ·rw [pQ,pQ,pP,sb,pQ,xw (show ¬((5:Int)=0) by omega),xw (show ¬((5:Int)=2) by omega)];simp only;have e:u64.wrap (i64.wrap ((b.length:Int) - 0))=(b.length:Int):=by rw [pU,zdi];omega
  rw [e];by_cases g:b.length<4
  ·rw [pS,xx (by simpa using g)];rfl
  ·rw [pT,xw (by simpa using g)];rfl
theorem zxs (w:Int) (k:Nat) (m:List UInt8):zfc w k m=match zfc w 0 m with| .inl c=> .inl c| .inr (a,t)=> .inr (k+a,k+t):=by
 unfold zfc
 repeat' split
 all_goals first
  | rfl
  | (rename_i h1 h2;injection h2 with h3;injection h3 with h4 h5;subst h4 h5;simp<;>omega)
  | simp_all<;>omega
theorem zEO (hb:b.length<=1048576) (at5:Int):zja b at5=some (zqt b at5):=by
 unfold zja zqt;by_cases h:at5<0\/at5>=b.length
 ·rw [itT (by simpa using h),xx h];rfl
 ·rw [itF (by simpa using h),xw h];obtain ⟨p,rfl⟩:∃p:Nat,at5=p:=⟨at5.toNat,by omega⟩;rw [ztc rfl rfl (by omega),sb,zDP,sb,xX];have hdl:(b.drop p).length=b.length - p:=by simp
  rcases zuk (b.drop p) with ⟨c,ht,hc⟩| ⟨n,w,k,ht,hr,k1,k2,k3,hrd⟩
  ·have e:rec5 (b.drop p)= .inl c:=by unfold rec5;rw [ht,xx (by simp only;omega)]
   rw [e,ht,pS];rfl
  ·obtain ⟨k,rfl⟩:∃j:Nat,k=j:=⟨k.toNat,by omega⟩
   have e:rec5 (b.drop p)=match zfc w k ((b.drop p).drop k) with
    | .inl c=> .inl c
    | .inr p=> .inr (n,w,p.1,p.2):=by unfold rec5;rw [ht];simp<;>rfl
   have hdd:(b.drop p).drop k=b.drop (p+k):=by rw [qa]
   have hml:(b.drop (p+k)).length=b.length - (p+k):=by simp
   have ew:i64.wrap ((p:Int)+k)=((p+k:Nat):Int):=by rw [pU];push_cast;rfl
   rw [e,ht,pR,hdd];simp only [ew];rw [ztc rfl rfl (by omega),sb,zAS (zeS.1 hr).2.2 (by omega),sb,zxs w k];rcases zrK w 0 (b.drop (p+k)) with ⟨c,hc,hc2⟩| ⟨a,t,hc,_,_,hle,_⟩
   ·rw [hc];simp only;rw [pS];rfl
   ·rw [hc];simp only;rw [pQ,pU,pU];simp only [yj,yO,zn.mk.injEq,yZ,qk];push_cast;omega
theorem zEp {w:Int} {v:List UInt8} (hw:w=0\/w=1\/w=2\/w=5) (hv:v.length<=1048576):zjb w v=some (ziU w v):=by
 obtain ⟨h1,h2,h3,h4,h5,h6,h7⟩:=zhB v;unfold zjb;by_cases h:w=2
 ·rw [itT (by simpa using h)];subst h;rfl
 ·rw [itF (by simpa using h),zAS hw hv,sb];unfold zfc ziU;congr 1;rcases hw with rfl| rfl| rfl| rfl
  ·rw [xx rfl,xx rfl];by_cases hg:(rd v).2.2=0
   ·rw [xw (by simpa using hg)];have e:(((0+(rd v).2.1.toNat:Nat):Int)==(v.length:Int))=decide ((rd v).2.1=v.length):=by rw [zqb];exact yT.2 (by omega)
    simp only [e,hg,yZ];rfl
   ·rw [xx hg];simp [hg]
  ·by_cases g:v.length<8
   ·have:v.length≠8:=by omega
    simp [g,this]
   ·by_cases g8:v.length=8
    ·simp [g8]
    ·have:¬((8:Int)=v.length):=by omega
     simp [g,g8,this]
  ·exact absurd rfl h
  ·by_cases g:v.length<4
   ·have:v.length≠4:=by omega
    simp [g,this]
   ·by_cases g8:v.length=4
    ·simp [g8]
    ·have:¬((4:Int)=v.length):=by omega
     simp [g,g8,this]
theorem zDl {n w:Int} {v:List UInt8} (h:zcj n w=true) (hv:v.length<=1048576):(put5 n w v).length<=v.length+20:=by
 obtain ⟨_,vY⟩:=zuj h;have h1:=zjm (v:=tW n w) (by omega);have h2:=zjm (v:=v.length) (by omega);rw [zoa];split<;>omega
theorem zAR {b v:List UInt8} {n w:Int} (hb:b.length<=1048576) (hv:v.length<=1048576):
  ziw b n w v=some (if zcj n w=true/\ziU w v=true then (b++put5 n w v,0) else ([],2)):=by
 unfold ziw;cases h:zcj n w
 ·rw [zFg [] h,sb,pP,sb,pP];rfl
 ·have hp:=zDl h hv;rw [zFf [] (by simp) h,sb,pQ,zEp (zeS.1 h).2.2 hv,sb,sb];cases hf:ziU w v
  ·rw [pP];rfl
  ·rw [pQ];have e:u64.wrap (v.length:Int)=(v.length:Int):=by rw [zdi,yB (by omega) (by omega)]
   obtain ⟨_,vY⟩:=zuj h;have h1:=zjm (v:=tW n w) (by omega);by_cases hw:w=2
   ·have hl:=zoa n w v;rw [xx hw] at hl;rw [itT (by simpa using hw),e,zzH _ (by omega) (by simp;omega),sb,zoC (by simp) (by simp;omega),sb];simp [put5,hw]
   ·have hl:=zoa n w v;rw [xw hw] at hl;rw [itF (by simpa using hw),zoC (by simp) (by simp;omega),sb];simp [put5,hw]
theorem zEU {b v:List UInt8} {n:Int} (hb:b.length<=1048576) (hv:v.length<=1048576):
  zku b n v=some (if zcj n 2=true then b++put5 n 2 v else b):=by
 unfold zku;rw [zAR hb hv,sb];have hf:ziU 2 v=true:=rfl;simp only [hf,qk];cases h:zcj n 2
 ·rw [xw (show ¬(false=true) by simp),xw (show ¬(false=true) by simp),pP,zoC (by simp) (by simp;omega),sb];simp
 ·rw [xx rfl,xx rfl,pQ]
abbrev Head:=zuA
abbrev Role:=zuz
def rol (m:Mes) (h:Head):Role:=match vw m h.number h.wire with
 | .inl c=>⟨0,false,c⟩
 | .inr (i,run)=>⟨i,run,0⟩
def zxj (m:Mes) (met:List (Head×Role)):Prop:=∀h x,mget met h=some x->x=rol m h
theorem zxj.nil (m:Mes):zxj m []:=fun h x g=>by cases g
theorem zxj.put (g:zxj m met) (h:Head):zxj m (mput met h (rol m h)):=fun j x hx=>by
 rw [zmd] at hx;by_cases e:j=h
 ·rw [xx e] at hx;rw [e];exact (qi hx).symm
 ·rw [xw e] at hx;exact g j x hx
abbrev zzb:=zie
def zxk (s:List Mes) (met:List (zzb×PVw)):Prop:=∀h x,mget met h=some x->vw (zaF s h.message) h.number h.wire= .inr (x.Field,x.Run)
theorem zxk.nil (s:List Mes):zxk s []:=fun h x g=>by cases g
theorem zxk.put (g:zxk s met) (hv:vw (zaF s h.message) h.number h.wire= .inr (v.Field,v.Run)):zxk s (mput met h v):=fun j x hx=>by
 rw [zmd] at hx;by_cases e:j=h
 ·rw [xx e] at hx;cases hx;rw [e];exact hv
 ·rw [xw e] at hx;exact g j x hx
theorem zDU (hw:WS s) (root d:Int):zkC s root d=some (argS s root d):=by
 unfold zkC argS;rw [zyC hw,sb];cases h:zgu s
 ·rw [itT (c:= !false) rfl,xx (show false=false from rfl)]
 ·rw [itF (c:= !true) rfl,xw (show ¬(true=false) by simp)];by_cases h2:root<0\/root>=s.length\/d<0\/d>64
  ·rw [itT (by simpa using h2),xx h2]
  ·rw [pT,xw h2]
theorem znw (hm:m.Fields.length<=140737488351232) (n:Int):zdH m n=some (match m.Fields.findIdx? (fun f=>f.Number==n) with| some i=>((i:Int),true)| none=>(0,false)):=by
 unfold zdH zbY zW;have h:=zrf (fun f:Fld=>f.Number==n) m.Fields (fun i=>zH m.Fields n i) (zbf (by unfold zv;rw [pR])) (fun i hi=>by
  by_cases hp:(m.Fields[i].Number==n)=true
  ·rw [xx hp];exact zbf (by unfold zv zfo;rw [pS,zI rfl hi,sb,sb,itT hp])
  ·rw [xw hp];exact zdf (by unfold zv zfo;rw [pS,zI rfl hi,sb,sb,itF (pk hp),pU];rfl)) m.Fields.length 0 (by omega) (fun j _ h=>by omega)
 have h':zH m.Fields n 0=_:=h;rw [h',sb];cases m.Fields.findIdx? (fun f:Fld=>f.Number==n) with
 | none=>rfl
 | some i=>simp [sb];omega
theorem zjT {α:Type} (p:α->Bool) (l:List α) (F:Int->Option (Unit⊕Unit)) (h0:F (l.length:Int)=some (.inl ())) (hs:∀(i:Nat) (h:i<l.length),F (i:Int)=if p l[i]=true then F ((i+1:Nat):Int) else some (.inr ())):
  ∀(c i:Nat),i+c=l.length->F (i:Int)=some (if (l.drop i).all p=true then .inl () else .inr ())
 | 0,i,h=>by
  have e:l.drop i=[]:=yg (by omega);have hi:i=l.length:=by omega
  rw [e,hi,h0];simp
 | c+1,i,h=>by
  rw [hs i (by omega),xZ (by omega),yp];cases hp:p l[i]
  ·rw [xw (by simp)];simp
  ·rw [xx rfl,xM];exact zjT p l F h0 hs c (i+1) (by omega)
theorem zBQ (hb:v.Words.length<=140737488351232/\v.Texts.length<=140737488351232/\v.Subs.length<=140737488351232):zfp v=some ((zeX v:Nat):Int):=by
 unfold zfp zeX;rw [zk (x:=(v.Words.length:Int)+(v.Texts.length:Int)) (by omega),pU];push_cast;rfl
theorem zxq (hl:l.length<=1152921504606846976) (h:∀t∈l,t.length<=140737488351232):zhj l=some (l.all ziy):=by
 unfold zhj;have h1:=zjT ziy l (fun i=>zeD l i) (by
   refine zjg ?_;unfold zck;rw [pR])
  (fun i hi=>by
   have hx:=h _ (xE hi);have e:lenO l[i]=some l[i]:=by unfold lenO;rw [xx (by omega)]
   cases hp:ziy l[i]
   ·rw [xw (by simp)];refine zjg ?_;unfold zck;rw [pS,zI rfl hi,sb,e,sb,zvX (by omega),sb,hp,pP]
   ·rw [xx rfl];refine zov ?_;unfold zck;rw [pS,zI rfl hi,sb,e,sb,zvX (by omega),sb,hp,pQ,pU];push_cast;rfl)
  l.length 0 (xH _)
 have h1':zeD l 0=_:=h1;rw [h1',sb,xI];cases l.all ziy<;>rfl
theorem zxp (hl:l.length<=1152921504606846976) (h:∀w∈l,0<=w/\w<=18446744073709551615):zfq k l=some (l.all fun w=>kNum k&&zbg k w==w):=by
 unfold zfq;have h1:=zjT (fun w=>kNum k&&zbg k w==w) l (fun i=>zdh k l i) (by
   refine zfy ?_;unfold zaN;rw [pR])
  (fun i hi=>by
   have hx:=h _ (xE hi);cases hk:kNum k
   ·rw [yw,xw (by simp)];refine zfy ?_;unfold zaN;rw [pS,zI rfl hi,sb,zma k hx,sb,hk,pP]
   ·rw [xM];by_cases hp:zbg k l[i]=l[i]
    ·rw [xx (by simpa using hp)];refine zlK ?_;unfold zaN;rw [pS,zI rfl hi,sb,zma k hx,sb,hk,itF (by simp [hp]),pU];push_cast;rfl
    ·rw [xw (by simpa using hp)];refine zfy ?_;unfold zaN;rw [pS,zI rfl hi,sb,zma k hx,sb,hk,itT (by simp [hp])])
  l.length 0 (xH _)
 have h1':zdh k l 0=_:=h1;rw [h1',sb,xI];cases l.all (fun w=>kNum k&&zbg k w==w)<;>rfl
theorem zCC (hm:m.Fields.length<=140737488351232) (hu:u.length<=1048576):zgG m u=some (unkR m u):=by
 unfold zgG unkR;have e:lenO u=some u:=by unfold lenO;rw [xx (by omega)]
 rw [e,sb,zEO hu,sb]
 generalize zqt u 0=r
 by_cases c1:r.2=0
 ·by_cases c2:r.1.To=(u.length:Int)
  ·rw [itF (by simp [c1,c2]),znw hm,sb];have hf:fldI m r.1.Number=zir (fun f:Fld=>f.Number==r.1.Number) m.Fields:=rfl;rw [hf];cases h:m.Fields.findIdx? (fun f:Fld=>f.Number==r.1.Number) with
   | none=>rw [zkZ h];simp [c1,c2]
   | some i=>rw [zla h];simp [c1,c2]
  ·rw [itT (by simp [c2])];simp [c2]
 ·rw [itT (by simp [c1])];simp [c1]
theorem zwh {α:Type} {p:α->Bool} (h:∀x,p x=false) (l:List α):l.all p=l.isEmpty:=by
 cases l with
 | nil=>rfl
 | cons x l=>rw [yp,h];rfl
theorem znM {α:Type} (l:List α):l.isEmpty=decide (l.length=0):=by cases l<;>simp
theorem zyM {s:List Mes} (hs:zjk s):∀(fuel:Nat),(∀(x:Msg) (k:Nat),k<s.length->2*szM x<fuel->bdM x->smM x->zdx fuel s k x=some (zap s x k))/\
  (∀(v:Vlu) (f:Fld),2*szV v<fuel->bdV v->smV v->zhI fuel f s v=some (zhg s v f))/\
  ∀(l:List Msg) (k:Int),2*szMs l+1<fuel->l.length<=1152921504606846976->bdMs l->smMs l->zfQ fuel s k l=some (decide (0<=k/\k<s.length)&&l.all fun x=>zap s x k)
 | 0=>⟨fun x k _ h=>by omega,fun v f h=>by omega,fun l k h=>by omega⟩
 | fuel+1=>by
  obtain ⟨ih1,ih2,ih3⟩:=zyM hs fuel;have v8:=hs.len;refine ⟨fun x k hk we hb hsm=>?_,fun v f we hb hsm=>?_,fun l k we hl hb hsm=>?_⟩
  ·obtain ⟨b1,⟨b2,b3⟩,b4⟩:=(zgY x).1 hb;obtain ⟨s1,⟨s2,s3⟩,s4⟩:=(zrw x).1 hsm;rw [zcc] at we;show zfR (zfQ fuel) (zhI fuel) (zdx fuel) s k x=_;unfold zfR;rw [zjN,xV (show (0:Int)<=(k:Int)/\(k:Int)<(s.length:Int) by omega),xM];have hm:idx s (k:Int)=some (zaF s k):=by rw [zI rfl hk,zhV hk]
   have hmm:zaF s (k:Int)∈s:=by rw [zhV hk];exact xE hk
   have hfew:=hs.few _ hmm;have hfld:=hs.fld _ hmm
   generalize zaF s (k:Int)=m at hm hmm hfew hfld|-
   rw [hm,sb];have hv:∀(c i:Nat) (p:Option Int) (last:Int),i+c=x.Values.length->(p=none/\last=0\/p=some last)->zej (zhI fuel) s x m last i=some (if zeV s (x.Values.drop i) m p=true then .inl () else .inr ()):=by
    intro c
    induction c with
    | zero=>
     intro i p last hi _;have e:x.Values.drop i=[]:=yg (by omega);rw [e,zeV,xx rfl];refine zii ?_;unfold zbG;rw [pT]
    | succ c ih=>
     intro i p last hi hp;have hil:i<x.Values.length:=by omega
     have hx:idx x.Values (i:Int)=some x.Values[i]:=zI rfl hil;have hmem:=xE hil;have z1:=zdw hmem;have hbv:=zdL.1 b4 _ hmem;have hsv:=zjf.1 s4 _ hmem;rw [xZ hil,zeV]
     generalize x.Values[i]=v at hx hmem z1 hbv hsv|-
     have hw1:i64.wrap ((i:Int)+1)=((i+1:Nat):Int):=by rw [pU];push_cast;rfl
     have hbody:zbG (zhI fuel) s x m last i=if (decide (0<=fldI m v.Number)&&p.all (fun q=>decide (q<v.Number))&&zhg s v (zam m (fldI m v.Number)))=true then some (.inl (v.Number,((i+1:Nat):Int))) else some (.inr (.inr ())):=by
      unfold zbG;rw [pS,hx,sb,znw (by omega),sb];have hf:fldI m v.Number=zir (fun f:Fld=>f.Number==v.Number) m.Fields:=rfl;cases h:m.Fields.findIdx? (fun f:Fld=>f.Number==v.Number) with
      | none=>
       rw [hf,zkZ h,pP,sb,pP,xw (by simp)]
      | some j=>
       rw [hf,zla h];have hjs:=pg.1 h;obtain ⟨hj,hjn,_⟩:=hjs;have hjn':(m.Fields[j]).Number=v.Number:=by simpa using hjn
       have hlo:=(hfld _ (xE hj)).lo;have hfj:idx m.Fields (j:Int)=some (zam m (j:Int)):=by rw [zI rfl hj,zkk hj]
       have hfit:=ih2 v (zam m (j:Int)) (by omega) hbv hsv;have hpl:p.all (fun q=>decide (q<v.Number))=decide (last<v.Number):=by
        rcases hp with ⟨rfl,rfl⟩| rfl
        ·rw [xV (show (0:Int)<v.Number by omega)];rfl
        ·rfl
       rw [pQ,hpl,xV (show (0:Int)<=(j:Int) by omega),xM];by_cases vY:last<v.Number
       ·rw [itF (by simpa using vY),xV vY,xM];simp only;rw [hfj,sb,hfit,sb,sb];cases hfv:zhg s v (zam m (j:Int))
        ·rw [pP,xw (by simp)]
        ·rw [pQ,xx rfl,hw1]
       ·rw [pS,sb,pP,xW vY,xw (by simp)]
     generalize (decide (0<=fldI m v.Number)&&p.all (fun q=>decide (q<v.Number))&&zhg s v (zam m (fldI m v.Number)))=bb at hbody|-
     cases bb
     ·rw [xw (by simp)] at hbody;rw [zii hbody,yw,xw (by simp)]
     ·rw [xx rfl] at hbody;rw [znr hbody,ih _ (some v.Number) v.Number (by omega) (.inr rfl),xM]
   have h1:=hv x.Values.length 0 none 0 (xH _) (.inl ⟨rfl,rfl⟩);have h1':zej (zhI fuel) s x m 0 0=_:=h1;rw [xI] at h1';rw [h1',sb];cases hrv:zeV s x.Values m none
   ·rw [xw (by simp)];rfl
   ·rw [xx rfl,xM];simp only;have h2:=zjT (unkR m) x.Unknown (fun i=>zek x m i) (by
      refine zij ?_;unfold zbS;rw [pR])
     (fun i hi=>by
      have hu:=zCC (m:=m) (by omega) (s3 _ (xE hi));cases hun:unkR m x.Unknown[i]
      ·rw [xw (by simp)];refine zij ?_;unfold zbS;rw [pS,zI rfl hi,sb,hu,sb,hun,pP]
      ·rw [xx rfl];refine zns ?_;unfold zbS;rw [pS,zI rfl hi,sb,hu,sb,hun,pQ,pU];push_cast;rfl)
     x.Unknown.length 0 (xH _)
    have h2':zek x m 0=_:=h2;rw [h2',sb,xI];cases x.Unknown.all (unkR m)<;>rfl
  ·obtain ⟨_,⟨b1,b1'⟩,⟨b2,b3⟩,b4,b5⟩:=(zgp v).1 hb;obtain ⟨s1,⟨s2,s3⟩,s4,s5⟩:=(zrx v).1 hsm;rw [zee] at we;show zjh (zfQ fuel) (zhI fuel) (zdx fuel) f s v=_;unfold zjh;rw [zBQ ⟨by omega,by omega,by omega⟩,sb,zqk,zkw];have hmany:zeX v=v.Words.length+v.Texts.length+v.Subs.length:=rfl;by_cases h0:zeX v=0\/1<zeX v/\f.Repeated=false
   ·have hmr:zmU f v=false:=by
     unfold zmU;rcases h0 with h0| ⟨h0,h1⟩
     ·simp [h0]
     ·rw [h1];simp;omega
    rw [hmr,itT (by
     rcases h0 with h0| ⟨h0,h1⟩
     ·simp [h0]
     ·rw [h1];simp;omega)]
    rfl
   ·have hmr:zmU f v=zdt f.Kind:=by
     unfold zmU;rw [xV (show 0<zeX v by omega),xM];cases hr:f.Repeated
     ·rw [hr] at h0;rw [xV (show zeX v<=1 by simp at h0;omega)];rfl
     ·simp
    rw [hmr,itF (by
     cases hr:f.Repeated
     ·rw [hr] at h0;simp at h0|-;omega
     ·simp;omega)]
    have hW:kNum f.Kind=false->v.Words.all (zjv f)=decide (v.Words.length=0):=fun h=>by
     rw [zwh (fun w=>by unfold zjv;rw [h];rfl),znM]
    have hT:f.Kind≠15->f.Kind≠16->v.Texts.all (zkB f)=decide (v.Texts.length=0):=fun h1 h2=>by
     rw [zwh (fun t=>by unfold zkB;simp [h1,h2]),znM]
    have hS:f.Kind≠17->(v.Subs.all fun x=>f.Kind==17&&zap s x f.Of)=decide (v.Subs.length=0):=fun h=>by
     rw [zwh (fun x=>by simp [h]),znM]
    by_cases k15:f.Kind=15
    ·rw [itT (by simp [k15]),hW (by rw [k15];rfl),hS (by omega)];have hkr:zdt f.Kind=true:=by rw [k15];rfl
     rw [hkr,xM];by_cases hl:v.Words.length=0/\v.Subs.length=0
     ·rw [pS,zxq (by omega) b3,sb,sb,xV hl.1,xV hl.2,xM,qP];have:v.Texts.all (zkB f)=v.Texts.all ziy:=by
       congr 1;funext t;unfold zkB;simp [k15]
      rw [this]
     ·rw [pT,sb];congr 1
      symm
      by_cases hw0:v.Words.length=0
      ·rw [xW (show ¬v.Subs.length=0 by omega),qy]
      ·rw [xW hw0,yw,yw]
    ·rw [itF (by simp [k15])];by_cases k16:f.Kind=16
     ·rw [itT (by simp [k16]),hW (by rw [k16];rfl),hS (by omega)];have hkr:zdt f.Kind=true:=by rw [k16];rfl
      have hta:v.Texts.all (zkB f)=true:=by rw [xJ];intro t _;unfold zkB;simp [k16]
      rw [hkr,hta,xM,qP];congr 1;rw [<-Bool.decide_and];rw [yy];simp only [pj,xP];omega
     ·rw [itF (by simp [k16])];by_cases k17:f.Kind=17
      ·rw [itT (by simp [k17]),hW (by rw [k17];rfl),hT k15 k16];have hkr:zdt f.Kind=true:=by rw [k17];rfl
       rw [hkr,xM];have hsub:(v.Subs.all fun x=>f.Kind==17&&zap s x f.Of)=v.Subs.all fun x=>zap s x f.Of:=by
        congr 1;funext x;simp [k17]
       rw [hsub];by_cases hl:v.Words.length=0/\v.Texts.length=0
       ·rw [pS,ih3 v.Subs f.Of (by omega) (by omega) b5 s5,sb,sb,xV hl.1,xV hl.2,xM,xM];by_cases hof:0<=f.Of/\f.Of<s.length
        ·rw [xV hof,xM]
        ·rw [xW hof,yw];congr 1
         symm
         have hne:v.Subs≠[]:=fun e=>h0 (.inl (by rw [hmany,hl.1,hl.2,e];rfl))
         obtain ⟨x,l,hxl⟩:=List.exists_cons_of_ne_nil hne;rw [hxl,yp,zjN,xW hof];rfl
       ·rw [pT,sb];congr 1
        symm
        by_cases hw0:v.Words.length=0
        ·rw [xW (show ¬v.Texts.length=0 by omega),qy,yw]
        ·rw [xW hw0,yw,yw]
      ·rw [itF (by simp [k17]),hT k15 k16,hS k17];have hck:(v.Words.all fun w=>kNum f.Kind&&zbg f.Kind w==w)=v.Words.all (zjv f):=rfl;by_cases hl:v.Texts.length=0/\v.Subs.length=0
       ·rw [pS,zxp (by omega) b1',sb,sb,xV hl.1,xV hl.2,qP,qP,hck];congr 1;cases hkn:kNum f.Kind
        ·rw [hW hkn,xW (show ¬v.Words.length=0 by omega),qy]
        ·have hkr:zdt f.Kind=true:=by
          rw [ziW] at hkn;unfold zdt;simp;omega
         rw [hkr,xM]
       ·rw [pT,sb];congr 1
        symm
        by_cases hw0:v.Texts.length=0
        ·rw [xW (show ¬v.Subs.length=0 by omega),qy]
        ·rw [xW hw0,qy,yw]
  ·show zeT (zfQ fuel) (zhI fuel) (zdx fuel) s k l=_;unfold zeT;by_cases hk:0<=k/\k<s.length
   ·rw [pT,xV hk,xM];obtain ⟨n,rfl⟩:∃n:Nat,k=n:=⟨k.toNat,by omega⟩;have h1:=zjT (fun x=>zap s x n) l (fun i=>zdD l n (zdx fuel) s i) (by
      refine zhH ?_;unfold zbD;rw [pR])
     (fun i hi=>by
      have hm:=xE hi;have z1:=zdv hm;have hr:=ih1 l[i] n (by omega) (by omega) (zdK.1 hb _ hm) (zje.1 hsm _ hm);cases hp:zap s l[i] n
      ·rw [xw (by simp)];refine zhH ?_;unfold zbD;rw [pS,zI rfl hi,sb,hr,sb,hp,pP]
      ·rw [xx rfl];refine zmm ?_;unfold zbD;rw [pS,zI rfl hi,sb,hr,sb,hp,pQ,pU];push_cast;rfl)
     l.length 0 (xH _)
    have h1':zdD l n (zdx fuel) s 0=_:=h1;rw [h1',sb,xI];cases l.all (fun x=>zap s x n)<;>rfl
   ·rw [pS,xW hk];rfl
theorem zun (root:Int) (hf:2*szM x<fuel) (hw:WS s) (hb:bdM x) (hsm:smM x) (hd:dM x<=131072):ziD fuel s root x=some (zgu s&&zap s x root):=by
 unfold ziD;rw [zDU hw,sb];by_cases h0:argS s root 0=0
 ·obtain ⟨hr,g1,g2,_,_⟩:=zBb h0;have hrs:zgu s=true:=by
   unfold argS at h0;cases h:zgu s with
   | true=>rfl
   | false=>rw [h,xx rfl] at h0;cases h0
  obtain ⟨k,rfl⟩:∃k:Nat,root=k:=⟨root.toNat,by omega⟩;rw [itT (by simp [h0]),zyK (by omega) hb hd,sb,pP,(zyM hr fuel).1 x k (by omega) hf hb hsm,sb,sb,hrs,xM]
 ·rw [itF (by simp [h0]),sb];congr 1
  symm
  cases hrs:zgu s
  ·rfl
  ·rw [xM,zjN];unfold argS at h0;rw [xw (by rw [hrs];simp)] at h0;rw [xW (by split at h0<;>omega)];rfl
theorem zDe {κ ν:Type} [DecidableEq κ] (m:List (κ×ν)) (k:κ) (x:ν):(mput m k x).length<=m.length+1:=by
 have h:=congrArg List.length (zvy m k x);rw [List.length_map] at h;rw [h];split<;>simp
structure zzW (l:List zdJ):Prop where
 sorted:l.Pairwise (fun a b=>zFJ a b=true)
 full:∀w∈l,w≠[]
 anti:∀v∈l,∀w∈l,v<+:w->v=w
theorem zzW.filter (h:zzW l) (p:zdJ->Bool):zzW (l.filter p):=
 ⟨h.sorted.filter p,fun w hw=>h.full w (yG.1 hw).1,fun v hv w hw=>h.anti v (yG.1 hv).1 w (yG.1 hw).1⟩
structure Fo (pre acc:List zdJ):Prop where
 mask:zzW acc
 has:∀v,hasB acc v=hasB pre v
 mem:∀a∈acc,a∈pre
abbrev zGN:=List (zFR×Int)
structure Trie (t:zGN) (A:List zdJ) (P:List (zdJ×Int)):Prop where
 root:([],0)∈P
 same:∀p∈P,∀q∈P,(p.2=q.2↔p.1=q.1)
 ids:∀p∈P,0<=p.2/\p.2<=t.length
 keys:∀(i n:Int),(t.length:Int)<i->mget t ⟨i,n⟩=none
 leaf:∀p∈P,∀n,p.1++[n]∈A->mget t ⟨p.2,n⟩=some (-1)
 node:∀p∈P,∀n,∀q∈P,q.1=p.1++[n]->mget t ⟨p.2,n⟩=some q.2
 none:∀p∈P,∀n,p.1++[n]∉A->(∀q∈P,q.1≠p.1++[n])->mget t ⟨p.2,n⟩=none
 clo:∀q∈P,∀p n,q.1=p++[n]->∃i,(p,i)∈P
 comp:∀a∈A,∀p,p<+:a->p≠a->∃i,(p,i)∈P
 anti:∀v∈A,∀w∈A,v<+:w->v=w
 full:∀a∈A,a≠[]
section
end
def UW (w:List zdJ):Prop:=w.length<=4194304/\∀x∈w,x.length<=4194304
theorem UW.filter (h:UW w) (p:zdJ->Bool):UW (w.filter p):=⟨yE (List.length_filter_le _ _) h.1,fun x hx=>h.2 x (yG.1 hx).1⟩
theorem zBh (h:0<=fldI m n):fldI m n<m.Fields.length/\(zam m (fldI m n)).Number=n:=by
 rcases zkl m n with ⟨e,_⟩| ⟨i,hi,e,hn,_⟩
 ·omega
 ·rw [e];refine ⟨by omega,?_⟩;unfold zam;rw [xX,qN,xQ hi];exact hn
structure Ok15 (fuel:Nat) (x:Msg):Prop where
 b:bdM x
 s:smM x
 z:2*szM x<fuel
 d:szM x<=131072
theorem Ok15.dm (h:Ok15 fuel x):dM x<=131072:=by have:=zAd x;have:=h.d;omega
theorem Ok15.right {fuel:Nat} {x:Msg} (h:Ok15 fuel x) {s:List Mes} (hw:WS s) (root:Int):ziD fuel s root x=some (zgu s&&zap s x root):=zun root h.z hw h.b h.s h.dm
def jv15 (s:List Mes) (a:Msg) (k:Int) (v:Vlu):Vlu:=zhT s v (look a.Values v.Number) (zam (zaF s k) (fldI (zaF s k) v.Number))
structure Jm (s:List Mes) (a:Msg) (k:Int) (t:List Vlu) (q:List (Int×Vlu)):Prop where
 nd:(q.map Prod.fst).Nodup
 get:∀n,mget q n=match look t n with
  | some v=>some (jv15 s a k v)
  | none=>look a.Values n
 len:q.length<=a.Values.length+t.length
theorem Jm.put (h:Jm s a k t q) (hn:look t v.Number=none):Jm s a k (t++[v]) (mput q v.Number (jv15 s a k v)):=by
 refine ⟨zpC h.nd _ _,fun n=>?_,?_⟩
 ·rw [zmd,znR];by_cases e:n=v.Number
  ·subst e;rw [xx rfl,hn];simp only;rw [zfL,xx rfl]
  ·rw [xw e,h.get];cases hl:look t n with
   | some u=>rfl
   | none=>
    simp only;rw [zfL,xw (fun e'=>e e'.symm)];rfl
 ·have:=zDe q v.Number (jv15 s a k v);have:=h.len;rw [xG,qY];omega
mutual
def encM (s:List Mes):Msg->Int->List UInt8
 | ⟨vs,u⟩,k=>zkh s vs (zaF s k)++u.flatten
def zkh (s:List Mes):List Vlu->Mes->List UInt8
 | [],_=>[]
 | v::l,m=>encV s v (zam m (fldI m v.Number))++zkh s l m
def encV (s:List Mes):Vlu->Fld->List UInt8
 | ⟨n,w,t,sub⟩,f=>if kNum f.Kind=true then (if f.Repeated=true then put5 f.Number 2 (w.flatMap (sPut f.Kind)) else put5 f.Number (zcL f.Kind) (sPut f.Kind (w.headD 0))) else t.flatMap (put5 f.Number 2)++zjs s sub f
def zjs (s:List Mes):List Msg->Fld->List UInt8
 | [],_=>[]
 | x::l,f=>put5 f.Number 2 (encM s x f.Of)++zjs s l f
end
theorem zss (s:List Mes) (x:Msg) (k:Int):encM s x k=zkh s x.Values (zaF s k)++x.Unknown.flatten:=by cases x;rw [encM]
theorem zst (s:List Mes) (v:Vlu) (f:Fld):encV s v f=if kNum f.Kind=true then (if f.Repeated=true then put5 f.Number 2 (v.Words.flatMap (sPut f.Kind)) else put5 f.Number (zcL f.Kind) (sPut f.Kind (v.Words.headD 0))) else v.Texts.flatMap (put5 f.Number 2)++zjs s v.Subs f:=by cases v;rw [encV]
theorem zsJ {n w:Int} (h1:1<=n) (h2:n<=536870911) (hw:0<=w/\w<=7) {v:List UInt8} (hv:v.length<=1048576):(put5 n w v).length<=15+v.length:=by
 have e:tW n w<34359738368:=by unfold tW;omega
 have h3:=zsu (tW n w);have h4:=zED e;have h5:=zjm (v:=v.length) (by omega);rw [zoa];split<;>omega
theorem zCI (k:Int):0<=zcL k/\zcL k<=7:=by unfold zcL;split;omega;split;omega;split<;>omega
theorem zrP {k:Int} (hk:zdt k=true) {n:Int} (h1:1<=n) (h2:n<=536870911):zcj n (zcL k)=true:=by
 rw [zeS];refine ⟨h1,h2,?_⟩;unfold zcL;split
 ·exact .inr (.inr (.inl rfl))
 ·split
  ·exact .inr (.inl rfl)
  ·split
   ·exact .inr (.inr (.inr rfl))
   ·exact .inl rfl
theorem zql {k:Int}:∀{l:List Int},(∀w∈l,0<=w/\w<=18446744073709551615)->(l.flatMap (sPut k)).length<=10*l.length
 | [],_=>by simp
 | w::l,h=>by
  have h1:=zky (k:=k) (h w xy);have h2:=zql (k:=k) fun x hx=>h x (xz _ hx)
  rw [xN,xG,xY];omega
theorem ztk {n:Int} (h1:1<=n) (h2:n<=536870911):∀{l:List Str},(∀t∈l,t.length<=1048576)->(l.flatMap (put5 n 2)).length<=15*(l.map fun t=>1+t.length).sum
 | [],_=>by simp
 | t::l,h=>by
  have h3:=zsJ h1 h2 (w:=2) (by omega) (h t xy);have h4:=ztk h1 h2 fun x hx=>h x (xz _ hx)
  rw [xN,xG,xL,yz];omega
theorem zrM:∀(l:List Str),l.flatten.length<=(l.map fun t=>1+t.length).sum
 | []=>by simp
 | t::l=>by
  have:=zrM l;rw [qt,xG,xL,yz];omega
theorem zzp {l:List Int} (h:∀x∈l,0<=x/\x<=18446744073709551615):0<=l.headD 0/\l.headD 0<=18446744073709551615:=by
 cases l with
 | nil=>simp
 | cons x l=>exact h x xy
theorem ziq {s:List Mes} (hs:zjk s):∀(N:Nat),(∀(x:Msg) (k:Int),szM x<=N->bdM x->wgM x<=30000->zap s x k=true->(encM s x k).length+16<=32*wgM x)/\
  ∀(v:Vlu) (f:Fld),szV v<=N->bdV v->wgV v<=30000->1<=f.Number->f.Number<=536870911->zhg s v f=true->(encV s v f).length<=32*wgV v
 | 0=>⟨fun x k h=>by rw [zcc] at h;omega,fun v f h=>by rw [zee] at h;omega⟩
 | N+1=>by
  obtain ⟨ih1,ih2⟩:=ziq hs N;refine ⟨fun x k we hb hw hr=>?_,fun v f we hb hw n1 n2 hf=>?_⟩
  ·obtain ⟨_,_,b4⟩:=(zgY x).1 hb;rw [zcc] at we;rw [zib] at hw|-;obtain ⟨k0,k1,_,hv,_⟩:=zdd hr;rw [zss];have hmm:zaF s k∈s:=by
    obtain ⟨n,rfl⟩:∃n:Nat,k=n:=⟨k.toNat,by omega⟩;rw [zhV (by omega)];exact xE _
   generalize zaF s k=m at hv hmm|-
   have hall:∀l:List Vlu,(∀v∈l,v∈x.Values)->(zkh s l m).length<=32*wgVs l:=by
    intro l
    induction l with
    | nil=>intro _;simp [zkh,wgVs]
    | cons v l ih=>
     intro hl;have hvm:=hl v xy;have i1:=ih fun w hw=>hl w (xz _ hw)
     have s1:=zdw hvm;have w1:=zoy hvm;obtain ⟨f0,hfit⟩:=hv v hvm;rcases zkl m v.Number with ⟨hf,_⟩| ⟨j,hj,hf,_⟩
     ·omega
     have hfm:zam m (fldI m v.Number)∈m.Fields:=by rw [hf,zkk hj];exact xE hj
     have hfo:=hs.fld _ hmm _ hfm;have:=ih2 v (zam m (fldI m v.Number)) (by omega) (zdL.1 b4 v hvm) (by omega) hfo.lo hfo.hi hfit;rw [zkh,wgVs,xG];omega
   have h1:=hall x.Values fun v hv=>hv
   have h2:=zrM x.Unknown;rw [xG];omega
  ·obtain ⟨_,⟨_,bw⟩,_,_,b5⟩:=(zgp v).1 hb;rw [zee] at we;rw [zhu] at hw|-;have hfs:=zeZ hf;rw [zst];by_cases hn:kNum f.Kind=true
   ·rw [xx hn];split
    ·have h1:=zql (k:=f.Kind) bw;have h2:=zsJ n1 n2 (w:=2) (by omega) (v:=v.Words.flatMap (sPut f.Kind)) (by omega);omega
    ·have h1:=zky (k:=f.Kind) (zzp bw);have h2:=zsJ n1 n2 (zCI f.Kind) (v:=sPut f.Kind (v.Words.headD 0)) (by omega);omega
   ·rw [xw hn,xG];have hts:∀t∈v.Texts,t.length<=1048576:=fun t ht=>by have:=zmO ht;omega
    have h1:=ztk n1 n2 hts;have hall:∀l:List Msg,(∀x∈l,x∈v.Subs)->(zjs s l f).length<=32*wgMs l:=by
     intro l
     induction l with
     | nil=>intro _;simp [zjs,wgMs]
     | cons x l ih=>
      intro hl;have hxm:=hl x xy;have i1:=ih fun w hw=>hl w (xz _ hw)
      have s1:=zdv hxm;have w1:=zjj hxm;have h3:=ih1 x f.Of (by omega) (zdK.1 b5 x hxm) (by omega) (hfs.subs x hxm).2;have h4:=zsJ n1 n2 (w:=2) (by omega) (v:=encM s x f.Of) (by omega);rw [zjs,wgMs,xG];omega
    have h2:=hall v.Subs fun x hx=>hx
    omega
theorem zny {α:Type} (l:List α) (g:α->List UInt8) (F:List UInt8->Int->Option (List UInt8)) (h0:∀out,F out (l.length:Int)=some out)
  (hs:∀(i:Nat) (h:i<l.length) (out:List UInt8),out.length+(g l[i]).length<=140737488355328->F out (i:Int)=F (out++g l[i]) ((i+1:Nat):Int)):∀(c i:Nat) (out:List UInt8),i+c=l.length->out.length+((l.drop i).flatMap g).length<=140737488355328->
  F out (i:Int)=some (out++(l.drop i).flatMap g)
 | 0,i,out,h,_=>by
  have e:l.drop i=[]:=yg (by omega);have hi:i=l.length:=by omega
  rw [e,hi,h0];simp
 | c+1,i,out,h,hb=>by
  have hil:i<l.length:=by omega
  have hd:l.drop i=l[i]::l.drop (i+1):=xZ hil;rw [hd,xN] at hb|-;rw [xG] at hb;rw [hs i hil out (by omega),zny l g F h0 hs c (i+1) _ (by omega) (by rw [xG];omega),yM]
theorem zki (s:List Mes) (m:Mes):∀(l:List Vlu),zkh s l m=l.flatMap fun v=>encV s v (zam m (fldI m v.Number))
 | []=>by rw [zkh];rfl
 | v::l=>by rw [zkh,zki s m l,xN]
theorem zmC (s:List Mes) (f:Fld):∀(l:List Msg),zjs s l f=l.flatMap fun x=>put5 f.Number 2 (encM s x f.Of)
 | []=>by rw [zjs];rfl
 | v::l=>by rw [zjs,zmC s f l,xN]
theorem zxE {s:List Mes} (hs:zjk s):∀(fuel:Nat),(∀(x:Msg) (k:Int),szM x+12<=fuel->bdM x->wgM x<=30000->zap s x k=true->zbC fuel s k x=some (encM s x k))/\
  ∀(v:Vlu) (f:Fld),szV v+12<=fuel->bdV v->wgV v<=30000->1<=f.Number->f.Number<=536870911->zhg s v f=true->zdT fuel s f v=some (encV s v f)
 | 0=>⟨fun x k h=>by omega,fun v f h=>by omega⟩
 | fuel+1=>by
  obtain ⟨ih1,ih2⟩:=zxE hs fuel;refine ⟨fun x k we hb hw hr=>?_,fun v f we hb hw n1 n2 hf=>?_⟩
  ·have v8:=(ziq hs (szM x)).1 x k (xB _) hb hw hr;obtain ⟨b1,⟨b2,_⟩,b4⟩:=(zgY x).1 hb;rw [zcc] at we;rw [zib] at hw v8;obtain ⟨k0,k1,_,hv,_⟩:=zdd hr;rw [zss] at v8|-;obtain ⟨n,rfl⟩:∃n:Nat,k=n:=⟨k.toNat,by omega⟩;have hn:n<s.length:=by omega
   have hm:idx s (n:Int)=some (zaF s n):=by rw [zI rfl hn,zhV hn]
   have hmm:zaF s (n:Int)∈s:=by rw [zhV hn];exact xE hn
   have hfew:=hs.few _ hmm
   generalize zaF s (n:Int)=m at hv hm hmm hfew v8|-
   rw [xG] at v8;show zdM (zbC fuel) (zdT fuel) s n x=_;unfold zdM;have h1:=zny x.Values (fun v=>encV s v (zam m (fldI m v.Number))) (fun out i=>zcg (zdT fuel) n s x out i) (fun out=>by
     refine zkc ?_;unfold zaI;rw [pR])
    (fun i hi out ho=>by
     refine zkb ?_;unfold zaI;have hvm:=xE hi;have hxi:idx x.Values (i:Int)=some x.Values[i]:=zI rfl hi;have s1:=zdw hvm;have w1:=zoy hvm
     generalize x.Values[i]=v at hvm hxi ho s1 w1|-
     obtain ⟨f0,hfit⟩:=hv v hvm;rcases zkl m v.Number with ⟨hf,_⟩| ⟨j,hj,hf,_⟩
     ·omega
     have hfj:idx m.Fields (fldI m v.Number)=some (zam m (fldI m v.Number)):=by rw [hf,zI rfl hj,zkk hj]
     have hfm:zam m (fldI m v.Number)∈m.Fields:=by rw [hf,zkk hj];exact xE hj
     have hfo:=hs.fld _ hmm _ hfm;have hval:=ih2 v (zam m (fldI m v.Number)) (by omega) (zdL.1 b4 v hvm) (by omega) hfo.lo hfo.hi hfit;rw [pS,hm,sb,sb,hxi,sb,zod (by omega),sb,hfj,sb,sb,hval,sb,zfE (by omega),sb,pU];push_cast;rfl) x.Values.length 0 [] (xH _) (by rw [xI,<-zki];simp only [yU];omega)
   have h1':zcg (zdT fuel) n s x [] 0=_:=h1;rw [xI,<-zki,yb] at h1';have h2:=zny x.Unknown (fun t=>t) (fun out i=>zch x out i) (fun out=>by
     refine zke ?_;unfold zaJ;rw [pR])
    (fun i hi out ho=>by
     refine zkd ?_;unfold zaJ;rw [pS,zI rfl hi,sb,zfE (by omega),sb,pU];push_cast;rfl) x.Unknown.length 0 (zkh s x.Values m) (xH _) (by rw [xI,List.flatMap_id'];omega)
   have h2':zch x (zkh s x.Values m) 0=_:=h2;rw [xI,List.flatMap_id'] at h2';rw [h1',sb,h2',sb]
  ·have v8:=(ziq hs (szV v)).2 v f (xB _) hb hw n1 n2 hf;obtain ⟨_,⟨bl,bw⟩,_,_,b5⟩:=(zgp v).1 hb;rw [zee] at we;rw [zhu] at hw v8;have hfs:=zeZ hf;rw [zst] at v8|-;have hfu:10<=fuel:=by omega
   show zeb fuel (zbC fuel) (zdT fuel) s f v=_;unfold zeb;rw [zpN,sb,sb];have t2:zcj f.Number 2=true:=zeS.2 ⟨n1,n2,.inr (.inr (.inl rfl))⟩;by_cases hn:kNum f.Kind=true
   ·rw [xx hn] at v8;have hgoal:(if kNum f.Kind=true then (if f.Repeated=true then put5 f.Number 2 (v.Words.flatMap (sPut f.Kind)) else put5 f.Number (zcL f.Kind) (sPut f.Kind (v.Words.headD 0))) else v.Texts.flatMap (put5 f.Number 2)++zjs s v.Subs f)=(if f.Repeated=true then put5 f.Number 2 (v.Words.flatMap (sPut f.Kind)) else put5 f.Number (zcL f.Kind) (sPut f.Kind (v.Words.headD 0))):=xx hn;rw [hgoal];by_cases hrep:f.Repeated=true
    ·rw [itT (by rw [hn,hrep];rfl),xx hrep];have h1:=zql (k:=f.Kind) bw;rw [zzL hfu bw (by omega),sb,zle hfu t2 (by omega),sb]
    ·rw [itF (by rw [hn];simpa using hrep),itT hn,xw hrep,zyu,sb];have hone:=hfs.one (by simpa using hrep);have hnt:=hfs.noTexts (by have:=zsE hn;omega);have hns:=hfs.noSubs (zsE hn).1;unfold zeX at hone;rw [hnt,hns] at hone;simp only [yU,yv] at hone;obtain ⟨w,hwd⟩:∃w,v.Words=[w]:=List.length_eq_one_iff.1 hone;rw [hwd] at bw|-;have hr:=bw w xy;have h1:=zky (k:=f.Kind) hr;have i1:idx [w] 0=some w:=rfl;rw [i1,sb,ztT hfu hr,sb,zle hfu (zrP hfs.kind n1 n2) (by omega),sb];rfl
   ·rw [xw hn] at v8;have hgoal:(if kNum f.Kind=true then (if f.Repeated=true then put5 f.Number 2 (v.Words.flatMap (sPut f.Kind)) else put5 f.Number (zcL f.Kind) (sPut f.Kind (v.Words.headD 0))) else v.Texts.flatMap (put5 f.Number 2)++zjs s v.Subs f)=v.Texts.flatMap (put5 f.Number 2)++zjs s v.Subs f:=xw hn;rw [hgoal];rw [itF (by simp [hn]),itF (by simpa using hn)];rw [xG] at v8;have hts:∀t∈v.Texts,t.length<=1048576:=fun t ht=>by have:=zmO ht;omega
    have h1:=zny v.Texts (put5 f.Number 2) (fun out i=>zcD fuel f v out i) (fun out=>by
      refine zkU ?_;unfold zbb;rw [pR])
     (fun i hi out ho=>by
      refine zkT ?_;unfold zbb;have ht:=hts _ (xE hi);have e:lenO v.Texts[i]=some v.Texts[i]:=by unfold lenO;rw [xx (by omega)]
      have hl:=zsN (l:=v.Texts);rw [pS,zI rfl hi,sb,e,sb,zle hfu t2 ht,sb,zfE (by omega),sb,pU];push_cast;rfl) v.Texts.length 0 [] (xH _) (by rw [xI];simp only [yU];omega)
    have h1':zcD fuel f v [] 0=_:=h1;rw [xI,yb] at h1';have h2:=zny v.Subs (fun x=>put5 f.Number 2 (encM s x f.Of)) (fun out i=>zcE fuel f (zbC fuel) s v out i) (fun out=>by
      refine zkW ?_;unfold zbc;rw [pR])
     (fun i hi out ho=>by
      refine zkV ?_;unfold zbc;have hxm:=xE hi;have s1:=zdv hxm;have w1:=zjj hxm;have hl:=zur v.Subs;have hx:=hfs.subs _ hxm;have he:=ih1 v.Subs[i] f.Of (by omega) (zdK.1 b5 _ hxm) (by omega) hx.2;have hle:=(ziq hs (szM v.Subs[i])).1 v.Subs[i] f.Of (xB _) (zdK.1 b5 _ hxm) (by omega) hx.2;rw [pS,zI rfl hi,sb,he,sb,zle hfu t2 (by omega),sb,zfE (by omega),sb,pU];push_cast;rfl) v.Subs.length 0 (v.Texts.flatMap (put5 f.Number 2)) (xH _) (by rw [xI,<-zmC];omega)
    have h2':zcE fuel f (zbC fuel) s v (v.Texts.flatMap (put5 f.Number 2)) 0=_:=h2;rw [xI,<-zmC] at h2';rw [h1',sb,h2',sb]
theorem ztR {s:List Mes} (hs:zjk s) {fuel:Nat} {x:Msg} {k:Int} (hf:szM x+12<=fuel) (hb:bdM x) (hw:wgM x<=30000) (hr:zap s x k=true):zbC fuel s k x=some (encM s x k):=(zxE hs fuel).1 x k hf hb hw hr
structure zGO (s:List Mes) (d:Nat) (k:Int) (p:List UInt8) (t:Th):Prop where
 ok:zgw s d k p=none
 th:ths (zaF s k) p=[t]
theorem pieces {s:List Mes} {d:Nat} {k:Int}:∀{ps:List (List UInt8×Th)},(∀p∈ps,zGO s d k p.1 p.2)->zgw s d k (ps.flatMap (·.1))=none/\ths (zaF s k) (ps.flatMap (·.1))=ps.map (·.2)
 | [],_=>by
  have h:=zxI s d k;refine ⟨h,?_⟩;rw [pC,zxc h,zoS];rfl
 | p::ps,h=>by
  obtain ⟨h1,h2⟩:=pieces fun q hq=>h q (xz _ hq)
  have hp:=h p xy;rw [xN];refine ⟨(zqj s d k _ hp.ok).2 h1,?_⟩;rw [zzS hp.ok h1,hp.th,h2];rfl
theorem zBE {f:Fld} {w:Int} (h:zjv f w=true) (hr:0<=w/\w<=18446744073709551615):kNum f.Kind=true/\zxh f.Kind (sPut f.Kind w)=w/\(zyF f.Kind (sPut f.Kind w)).1=w/\ziU (zcL f.Kind) (sPut f.Kind w)=true:=by
 unfold zjv at h;simp only [xA,pj] at h;obtain ⟨h1,h2⟩:=h;have hc:=ziN f.Kind hr;have hfit:ziU (zcL f.Kind) (sPut f.Kind w)=true:=zoi h1 (by omega);have hs:=zzO h1 hr;have hp:=zyG h1 hfit;rw [hs] at hp;have e:zxh f.Kind (sPut f.Kind w)=zbg f.Kind w:=(congrArg Prod.fst hp).symm;exact ⟨h1,by rw [e,h2],by rw [hs,h2],hfit⟩
theorem zxJ (v:List UInt8):ziU 2 v=true:=by unfold ziU;rw [xw (by omega)];simp
def wv (a:zBZ):Nat:=a.2.2.1.length+(a.2.2.2.1.map fun t=>1+t.length).sum+wgMs a.2.2.2.2+2*a.1.length
def zsp (s:List Mes) (root:Int) (x:Msg):List UInt8×Int:=if zgT s root [x]=0 then (encM s x root,0) else ([],zgT s root [x])
def zzP (s:List Mes) (root:Int) (x:Msg):Int×Int:=if zgT s root [x]=0 then (((encM s x root).length:Int),0) else (0,zgT s root [x])
def Wr (o:Option zg) (p:List Str) (n:Int) (B:Str) (c:Nat):Prop:=∃P:List Str,o=some ⟨p++P,n+(B.length:Int)⟩/\P.flatten=B/\P.length<=c
def Wq (o:Option (List Str×Int)) (p:List Str) (n:Int) (B:Str) (c:Nat):Prop:=∃P:List Str,o=some (p++P,n+(B.length:Int))/\P.flatten=B/\P.length<=c
def Wm (p:List Str) (n:Int) (b c:Nat):Prop:=0<=n/\n+(b:Int)<=1099511627776/\p.length+c<=1099511627776
theorem zzV {p:List Str} {n:Int} {b:Str} (h:Wm p n b.length 1):zbK ⟨p,n⟩ b=some ⟨p++[b],n+(b.length:Int)⟩:=by
 obtain ⟨h1,h2,h3⟩:=h;unfold zbK;rw [zfE (by simp;omega),sb,zk (by simp only;omega)]
theorem zBV {p:List Str} {n:Int} {b:Str} (h:Wm p n b.length 1):Wr (zbK ⟨p,n⟩ b) p n b 1:=⟨[b],zzV h,by simp,by simp⟩
theorem zpX {p:List Str} {n k w:Int} {v:Str} (hr:zcj k w=true) (hf:ziU w v=true) (hv:v.length<=1048576) (h:Wm p n (put5 k w v).length 1):Wr (zbQ ⟨p,n⟩ k w v) p n (put5 k w v) 1:=by
 unfold zbQ;rw [zAR (by simp) hv,sb,xx ⟨hr,hf⟩,yb];obtain ⟨P,e,h1,h2⟩:=zBV h;exact ⟨P,by rw [e,sb],h1,h2⟩
theorem zCp {k:Int} (hk:kNum k=true):zjX k=some (zcL k):=by
 have h:=ziW.1 hk;unfold zjX;rw [zyH (by omega),sb,xx hk];have e:zbg k 0=0:=by
  unfold zbg;split
  ·decide
  ·split
   ·decide
   ·split<;>simp
 unfold sPut ziz zcL;rw [e];have h15:¬15<=k:=by omega
 by_cases h1:12<=k
 ·rw [xx h1,xw h15,xx h1];rfl
 ·by_cases h2:9<=k
  ·rw [xw h1,xx h2,xw h15,xw h1,xx h2];rfl
  ·rw [xw h1,xw h2,xw h15,xw h1,xw h2];have e0:enc (Int.toNat 0)=[0]:=zkj (v:=0) (by omega);rw [e0];rfl
theorem zBX {p:List Str} {n:Int} {f:Fld} {l:List Int} (hk:kNum f.Kind=true) (n1:1<=f.Number) (n2:f.Number<=536870911) (hl:∀w∈l,0<=w/\w<=18446744073709551615) (hn:l.length<=30000) (h1:f.Repeated=false->l.length=1)
  (h:Wm p n (if f.Repeated=true then put5 f.Number 2 (l.flatMap (sPut f.Kind)) else put5 f.Number (zcL f.Kind) (sPut f.Kind (l.headD 0))).length 1):
  Wr (zeG ⟨p,n⟩ f l) p n (if f.Repeated=true then put5 f.Number 2 (l.flatMap (sPut f.Kind)) else put5 f.Number (zcL f.Kind) (sPut f.Kind (l.headD 0))) 1:=by
 unfold zeG;have hfl:=zql (k:=f.Kind) hl;rw [zDv _ hl (by omega),sb,xx hk];by_cases hr:f.Repeated=true
 ·rw [xx hr] at h;rw [xx hr,xx hr];obtain ⟨P,e,g⟩:=zpX (zeS.2 ⟨n1,n2,by omega⟩) (zxJ _) (by omega) h;exact ⟨P,by rw [e,sb],g⟩
 ·rw [xw hr] at h;rw [xw hr,xw hr];obtain ⟨w,rfl⟩:∃w,l=[w]:=List.length_eq_one_iff.1 (h1 (by simpa using hr));have hw:=hl w xy;have hs:=zky (k:=f.Kind) hw;have hc:=ziN f.Kind hw;obtain ⟨P,e,g⟩:=zpX (zrP (by unfold zdt;have:=ziW.1 hk;simp;omega) n1 n2) (zoi hk (c:=(zbg f.Kind w).toNat) (by omega)) (by show (sPut f.Kind w).length<=_;omega) h;refine ⟨P,?_,g⟩;have ef:[w].flatMap (sPut f.Kind)=sPut f.Kind w:=by simp
  rw [zCp hk,sb,ef];show (zbQ ⟨p,n⟩ f.Number (zcL f.Kind) (ziz f.Kind (zbg f.Kind w).toNat)>>=_)=_;rw [e,sb];rfl
theorem zCi {k:Int} {c:Nat} (n1:1<=k) (n2:k<=536870911) (hc:c<=1048576) {v:Str} (hv:v.length=c):∃b,zjW k (c:Int)=some b/\b++v=put5 k 2 v:=by
 have hr:zcj k 2=true:=zeS.2 ⟨n1,n2,by omega⟩;obtain ⟨_,vY⟩:=zuj hr;have h1:=zjm (v:=tW k 2) (by omega);have e0:enc 0=[0]:=zkj (v:=0) (by omega);have ep:put5 k 2 []=enc (tW k 2)++[0]:=by unfold put5;rw [xx rfl,yU,e0,yY]
 have ew:u64.wrap (c:Int)=(c:Int):=by rw [zdi,yB (by omega) (by omega)]
 have es:sPut 4 (c:Int)=enc c:=by
  unfold sPut ziz zbg;rw [xw (by omega),xw (by omega),xw (by omega),xw (by omega),xw (by omega),xX]
 have h2:=zjm (v:=c) (by omega);have hcut:cut (enc (tW k 2)++[0]) 0 (i64.wrap (((enc (tW k 2)++[0]).length:Int) - 1))=some (enc (tW k 2)):=by
  rw [zk (by simp;omega),znA (i:=0) (a:=0) (b:=(enc (tW k 2)).length) rfl (by simp) (by omega) (by simp)];simp
 refine ⟨enc (tW k 2)++enc c,?_,?_⟩
 ·unfold zjW;rw [zEU (by simp) (by simp),sb,xx hr,yb,ew,zAT (by omega),sb,xx (by decide),ep,hcut,sb];simp only [es];rw [zfE (by simp;omega),sb]
 ·unfold put5;rw [xx rfl,hv]
theorem zmr {α:Type} (l:List α) (g:α->Str) (c:α->Nat) (F:Int->List Str->Int->Option (List Str×Int)) (h0:∀p n,F (l.length:Int) p n=some (p,n))
  (hs:∀(i:Nat) (h:i<l.length) (p:List Str) (n:Int),Wm p n (g l[i]).length (c l[i])->∃P:List Str,F (i:Int) p n=F ((i+1:Nat):Int) (p++P) (n+((g l[i]).length:Int))/\P.flatten=g l[i]/\P.length<=c l[i]):∀(k i:Nat) (p:List Str) (n:Int),i+k=l.length->Wm p n ((l.drop i).flatMap g).length ((l.drop i).map c).sum->
  Wq (F (i:Int) p n) p n ((l.drop i).flatMap g) ((l.drop i).map c).sum
 | 0,i,p,n,h,_=>by
  have e:l.drop i=[]:=yg (by omega);have hi:i=l.length:=by omega
  rw [e,hi,h0];exact ⟨[],by simp,rfl,by simp⟩
 | k+1,i,p,n,h,hb=>by
  have hil:i<l.length:=by omega
  have hd:l.drop i=l[i]::l.drop (i+1):=xZ hil;rw [hd,xN,xL,yz] at hb|-;obtain ⟨b1,b2,b3⟩:=hb;rw [xG] at b2;obtain ⟨P,e,h1,h2⟩:=hs i hil p n ⟨b1,by omega,by omega⟩;obtain ⟨Q,e',h3,h4⟩:=zmr l g c F h0 hs k (i+1) (p++P) (n+((g l[i]).length:Int)) (by omega) ⟨by omega,by omega,by rw [xG];omega⟩;refine ⟨P++Q,?_,by rw [pJ,h1,h3],by rw [xG];omega⟩;rw [e,e',yM,xG];congr 2;push_cast;omega
theorem zDM {α:Type} {c d:α->Nat}:∀{l:List α},(∀x∈l,c x<=d x)->(l.map c).sum<=(l.map d).sum
 | [],_=>xB _
 | x::l,h=>by
  have h1:=h x xy;have h2:=zDM (l:=l) fun y hy=>h y (xz _ hy)
  rw [xL,xL,yz,yz];omega
theorem zyX:∀l:List Vlu,wgVs l=(l.map wgV).sum
 | []=>rfl
 | v::l=>by rw [wgVs,zyX l];rfl
theorem zyV:∀l:List Msg,wgMs l=(l.map wgM).sum
 | []=>rfl
 | v::l=>by rw [wgMs,zyV l];rfl
theorem zxe {α:Type} (g:α->Nat):∀l:List α,(l.map fun v=>2*g v).sum=2*(l.map g).sum
 | []=>rfl
 | v::l=>by rw [xL,xL,yz,yz,zxe g l];omega
theorem zAK (l:List Str):(l.map fun _=>1).sum<=(l.map fun t=>1+t.length).sum:=zDM fun x _=>by omega
theorem zBd {m:Mes} {n:Int} (hl:m.Fields.length<=140737488351232) (h:0<=fldI m n):∃r,zdH m n=some r/\idx m.Fields r.1=some (zam m (fldI m n)):=by
 rw [znw hl];have h0:=h;unfold fldI zir at h0;cases hf:m.Fields.findIdx? (fun f:Fld=>f.Number==n) with
 | none=>rw [hf] at h0;simp at h0
 | some i=>
  have e:fldI m n=i:=by unfold fldI zir;rw [hf]
  have hi:i<m.Fields.length:=by have:=(zBh h).1;omega
  exact ⟨_,rfl,by rw [e,zI rfl hi,zkk hi]⟩
theorem zEY (p:List Str) (a b:Str) (P:List Str):(p++[a]++P).set p.length b=p++(b::P):=by
 rw [yM,List.set_append_right _ _ (xB _),Nat.sub_self];rfl
theorem zAZ {s:List Mes} (hs:zjk s):∀(fuel:Nat),
  (∀(x:Msg) (k:Int) (p:List Str) (n:Int),2*szM x<=fuel->bdM x->wgM x<=30000->zap s x k=true->Wm p n (encM s x k).length (2*wgM x - 1)->Wr (zbi fuel ⟨p,n⟩ s k x) p n (encM s x k) (2*wgM x - 1))/\
  (∀(x:Msg) (f:Fld) (p:List Str) (n:Int),2*szM x+1<=fuel->bdM x->wgM x<=30000->1<=f.Number->f.Number<=536870911->zap s x f.Of=true->Wm p n (put5 f.Number 2 (encM s x f.Of)).length (2*wgM x)->Wr (zdQ fuel ⟨p,n⟩ s f x) p n (put5 f.Number 2 (encM s x f.Of)) (2*wgM x))/\
  ∀(v:Vlu) (f:Fld) (p:List Str) (n:Int),2*szV v<=fuel->bdV v->wgV v<=30000->1<=f.Number->f.Number<=536870911->zhg s v f=true->Wm p n (encV s v f).length (2*wgV v)->Wr (zcN fuel ⟨p,n⟩ s f v) p n (encV s v f) (2*wgV v)
 | 0=>⟨fun x k p n h=>by rw [zcc] at h;omega,fun x f p n h=>by omega,fun v f p n h=>by rw [zee] at h;omega⟩
 | fuel+1=>by
  obtain ⟨ih1,ih2,ih3⟩:=zAZ hs fuel;refine ⟨fun x k p n we hb hw hr hm=>?_,fun x f p n we hb hw n1 n2 hr hm=>?_,fun v f p n we hb hw n1 n2 hf hm=>?_⟩
  ·obtain ⟨b1,⟨b2,_⟩,b4⟩:=(zgY x).1 hb;rw [zcc] at we;rw [zib] at hw hm|-;obtain ⟨k0,k1,_,hv,_⟩:=zdd hr;rw [zss] at hm|-;obtain ⟨j,rfl⟩:∃j:Nat,k=j:=⟨k.toNat,by omega⟩;have hn:j<s.length:=by omega
   have hmi:idx s (j:Int)=some (zaF s j):=by rw [zI rfl hn,zhV hn]
   have hmm:zaF s (j:Int)∈s:=by rw [zhV hn];exact xE hn
   have hfew:=hs.few _ hmm
   generalize zaF s (j:Int)=m at hv hmi hmm hfew hm|-
   obtain ⟨m1,m2,m3⟩:=hm;rw [xG] at m2;have hu:=zAK x.Unknown;have hvs:=zyX x.Values;have htw:=zxe wgV x.Values;obtain ⟨P,e1,f1,g1⟩:=zmr x.Values (fun v=>encV s v (zam m (fldI m v.Number))) (fun v=>2*wgV v) (fun i p n=>zbT (zcN fuel) s x m i p n) (fun p n=>by
     refine zjx ?_;unfold zaA;rw [pR])
    (fun i hi p n hwm=>by
     have hvm:=xE hi;have hxi:idx x.Values (i:Int)=some x.Values[i]:=zI rfl hi;have s1:=zdw hvm;have w1:=zoy hvm
     generalize x.Values[i]=v at hvm hxi hwm s1 w1|-
     obtain ⟨f0,hfit⟩:=hv v hvm;rcases zkl m v.Number with ⟨hf,_⟩| ⟨q,hq,hf,_⟩
     ·omega
     have hfm:zam m (fldI m v.Number)∈m.Fields:=by rw [hf,zkk hq];exact xE hq
     have hfo:=hs.fld _ hmm _ hfm;obtain ⟨r,hby,hidx⟩:=zBd (m:=m) (n:=v.Number) (by omega) f0;obtain ⟨P,e,f,g⟩:=ih3 v (zam m (fldI m v.Number)) p n (by omega) (zdL.1 b4 v hvm) (by omega) hfo.lo hfo.hi hfit hwm;refine ⟨P,zjw ?_,f,g⟩;unfold zaA;rw [pS,hxi,sb,hby,sb,hidx,sb,e,sb,pU];push_cast;rfl) x.Values.length 0 p n (xH _) (by rw [xI,<-zki,htw];exact ⟨m1,by omega,by omega⟩)
   rw [xI,<-zki] at e1 f1;rw [xI,htw] at g1;obtain ⟨Q,e2,f2,g2⟩:=zmr x.Unknown (fun t=>t) (fun _=>1) (fun i p n=>zbU x i p n) (fun p n=>by
     refine zjz ?_;unfold zaB;rw [pR])
    (fun i hi p n hwm=>by
     have hl:=zmO (xE hi);refine ⟨[x.Unknown[i]],zjy ?_,by simp,by simp⟩;unfold zaB;rw [pS,zI rfl hi,sb,zAx (by omega),sb,zzV hwm,sb,pU];push_cast;rfl) x.Unknown.length 0 (p++P) (n+((zkh s x.Values m).length:Int)) (xH _) (by
      rw [xI,List.flatMap_id'];exact ⟨by omega,by omega,by rw [xG];omega⟩)
   rw [xI,List.flatMap_id'] at e2 f2;rw [xI] at g2;refine ⟨P++Q,?_,by rw [pJ,f1,f2],by rw [xG];omega⟩;show zdk (zbi fuel) (zdQ fuel) (zcN fuel) ⟨p,n⟩ s j x=_;unfold zdk;have e1':zbT (zcN fuel) s x m 0 p n=_:=e1;have e2':zbU x 0 (p++P) (n+((zkh s x.Values m).length:Int))=_:=e2;rw [hmi,sb];simp only;rw [e1',sb];simp only;rw [e2',sb,yM,xG];congr 2;push_cast;omega
  ·have v8:=(ziq hs (szM x)).1 x f.Of (xB _) hb hw hr;have hpl:=zoa f.Number 2 (encM s x f.Of);rw [xx rfl] at hpl;obtain ⟨m1,m2,m3⟩:=hm;have hwg:1<=wgM x:=by rw [zib];omega
   obtain ⟨h,eh,ep⟩:=zCi (k:=f.Number) (c:=(encM s x f.Of).length) n1 n2 (by omega) (v:=encM s x f.Of) rfl;have hhl:h.length+(encM s x f.Of).length=(put5 f.Number 2 (encM s x f.Of)).length:=by rw [<-ep,xG]
   obtain ⟨P,e,f1,g1⟩:=ih1 x f.Of (p++[[]]) n (by omega) hb hw hr ⟨m1,by omega,by simp;omega⟩;refine ⟨h::P,?_,by rw [qt,f1,ep],by rw [xY];omega⟩;show zeF (zbi fuel) (zdQ fuel) (zcN fuel) ⟨p,n⟩ s f x=_;unfold zeF;have e0:zbK ⟨p,n⟩ []=some ⟨p++[[]],n⟩:=by
    rw [zzV ⟨m1,by simp;omega,by omega⟩];simp
   rw [e0,sb,e,sb];simp only;rw [zk (x:=n+((encM s x f.Of).length:Int) - n) (by omega),show n+((encM s x f.Of).length:Int) - n=((encM s x f.Of).length:Int) by omega,eh,sb,zI rfl (by simp),sb,xX,zEY,zI rfl (by simp),sb,zk (by simp;omega)];congr 2;simp;omega
  ·have v8:=(ziq hs (szV v)).2 v f (xB _) hb hw n1 n2 hf;obtain ⟨_,⟨bl,bw⟩,_,_,b5⟩:=(zgp v).1 hb;rw [zee] at we;rw [zhu] at hw hm v8|-;have hfs:=zeZ hf;rw [zst] at v8 hm|-;have t2:zcj f.Number 2=true:=zeS.2 ⟨n1,n2,.inr (.inr (.inl rfl))⟩;obtain ⟨m1,m2,m3⟩:=hm;have ho:=zAK v.Texts;have hms:=zyV v.Subs;have htw:=zxe wgM v.Subs;have L1:∀(p:List Str) (n:Int),Wm p n (v.Texts.flatMap (put5 f.Number 2)).length (v.Texts.map fun _=>1).sum->Wq (zcu f v 0 p n) p n (v.Texts.flatMap (put5 f.Number 2)) (v.Texts.map fun _=>1).sum:=fun p n h=>by
    have:=zmr v.Texts (put5 f.Number 2) (fun _=>1) (fun i p n=>zcu f v i p n) (fun p n=>by
      refine zkF ?_;unfold zaR;rw [pR])
     (fun i hi p n hwm=>by
      have hl:=zmO (xE hi);obtain ⟨P,e,f1,g1⟩:=zpX t2 (zxJ _) (by omega) hwm;refine ⟨P,zkE ?_,f1,g1⟩;unfold zaR;rw [pS,zI rfl hi,sb,zAx (by omega),sb,e,sb,pU];push_cast;rfl) v.Texts.length 0 p n (xH _) (by rw [xI];exact h)
    rw [xI] at this;exact this
   have L2:∀(p:List Str) (n:Int),Wm p n (zjs s v.Subs f).length (2*wgMs v.Subs)->Wq (zcv f (zdQ fuel) s v 0 p n) p n (zjs s v.Subs f) (2*wgMs v.Subs):=fun p n h=>by
    rw [zmC,hms,<-htw] at h|-;have:=zmr v.Subs (fun x=>put5 f.Number 2 (encM s x f.Of)) (fun x=>2*wgM x) (fun i p n=>zcv f (zdQ fuel) s v i p n) (fun p n=>by
      refine zkH ?_;unfold zaS;rw [pR])
     (fun i hi p n hwm=>by
      have hxm:=xE hi;have hxi:idx v.Subs (i:Int)=some v.Subs[i]:=zI rfl hi
      generalize v.Subs[i]=x at hxm hxi hwm|-
      have s1:=zdv hxm;have w1:=zjj hxm;obtain ⟨P,e,f1,g1⟩:=ih2 x f p n (by omega) (zdK.1 b5 x hxm) (by omega) n1 n2 (hfs.subs x hxm).2 hwm;refine ⟨P,zkG ?_,f1,g1⟩;unfold zaS;rw [pS,hxi,sb,e,sb,pU];push_cast;rfl) v.Subs.length 0 p n (xH _) (by rw [xI];exact h)
    rw [xI] at this;exact this
   show Wr (zdZ (zbi fuel) (zdQ fuel) (zcN fuel) ⟨p,n⟩ s f v) _ _ _ _;unfold zdZ;by_cases hn:kNum f.Kind=true
   ·have hnt:=hfs.noTexts (by have:=zsE hn;omega);have hns:=hfs.noSubs (zsE hn).1;have hmany:=hfs.many;have hone:=hfs.one;unfold zeX at hmany hone;rw [hnt] at hmany hone L1;rw [hns] at hmany hone L2;simp only [yU,yv] at hmany hone;rw [xx hn] at v8 m2|-;obtain ⟨P,e,f1,g1⟩:=zBX (p:=p) (n:=n) hn n1 n2 bw (by omega) hone ⟨m1,m2,by omega⟩
    generalize (if f.Repeated=true then put5 f.Number 2 (v.Words.flatMap (sPut f.Kind)) else put5 f.Number (zcL f.Kind) (sPut f.Kind (v.Words.headD 0)))=B at v8 m2 e f1|-
    obtain ⟨Q,e1,f2,g2⟩:=L1 (p++P) (n+(B.length:Int)) ⟨by omega,by simp;omega,by simp;omega⟩;have g2':Q.length<=0:=g2;obtain ⟨R,e2,f3,g3⟩:=L2 (p++P++Q) (n+(B.length:Int)+(((([]:List Str).flatMap (put5 f.Number 2)).length:Nat):Int)) ⟨by omega,by simp [zjs];omega,by simp [wgMs];omega⟩;have g3':R.length<=0:=g3;have hQ:Q=[]:=pO.1 (by omega);have hR:R=[]:=pO.1 (by omega);subst hQ hR;refine ⟨P,?_,f1,by omega⟩;rw [itT (by simpa using hmany),e,sb,sb];simp only;rw [e1,sb];simp only;rw [e2,sb];simp [zjs]
   ·have hwd:v.Words=[]:=by
     cases hw':v.Words with
     | nil=>rfl
     | cons w l=>
      have hm:w∈v.Words:=by rw [hw'];exact xy
      exact absurd (zBE (hfs.words w hm) (bw w hm)).1 hn
    rw [xw hn] at v8 m2|-;rw [xG] at m2;obtain ⟨Q,e1,f2,g2⟩:=L1 p n ⟨m1,by omega,by omega⟩;obtain ⟨R,e2,f3,g3⟩:=L2 (p++Q) (n+((v.Texts.flatMap (put5 f.Number 2)).length:Int)) ⟨by omega,by omega,by rw [xG];omega⟩;refine ⟨Q++R,?_,by rw [pJ,f2,f3],by rw [xG];omega⟩;rw [itF (by rw [hwd];rfl),sb];simp only;rw [e1,sb];simp only;rw [e2,sb,yM,xG];congr 2;push_cast;omega
structure Ok16 (fuel:Nat) (x:Msg):Prop where
 b:bdM x
 s:smM x
 z:2*szM x<fuel
 w:wgM x<=30000
theorem zvZ {s:List Mes} (hs:zjk s) {fuel:Nat} {x:Msg} {k:Int} (hz:2*szM x<fuel) (hb:bdM x) (hw:wgM x<=30000) (hr:zap s x k=true):
  ∃P:List Str,zbi fuel ⟨[],0⟩ s k x=some ⟨P,((encM s x k).length:Int)⟩/\zak P=some (encM s x k):=by
 have v8:=(ziq hs (szM x)).1 x k (xB _) hb hw hr;obtain ⟨P,e,f,g⟩:=(zAZ hs fuel).1 x k [] 0 (by omega) hb hw hr ⟨by omega,by omega,by simp;omega⟩;refine ⟨P,by rw [e,yb,Int.zero_add],?_⟩;rw [zoC (by omega) (by rw [f];omega),f]
theorem zxx {fuel:Nat} {s:List Mes} (root:Int) {x:Msg} (h:Ok16 fuel x) (hw:WS s):zim fuel s root x=some (zgT s root [x]):=by
 have we:=zwa _ x (xB _);have hd:=zAd x;unfold zim zgT zgX;rw [zun root h.z hw h.b h.s (by have:=h.w;omega),sb,zyC hw];cases hr:zgu s with
 | false=>
  rw [yw,pQ,sb,pP];simp
 | true=>
  rw [xM];cases hm:zap s x root with
  | true=>
   obtain ⟨g1,g2,_⟩:=zdd hm;rw [pP,xw (show ¬(true=false) by simp),xw (show ¬(root<0\/root>=(s.length:Int)) by omega)];simp [hm]
  | false=>
   rw [pQ,sb,pQ,xw (show ¬(true=false) by simp)];by_cases hroot:root<0\/root>=(s.length:Int)
   ·rw [itT (by simpa using hroot),xx hroot];simp
   ·rw [itF (by simpa using hroot),xw hroot];simp [hm]
theorem zsY {fuel:Nat} {s:List Mes} (root:Int) {x:Msg} (h:Ok16 fuel x) (hw:WS s):zgI fuel s root x=some (zsp s root x):=by
 unfold zgI zsp;rw [zxx root h hw,sb];by_cases h0:zgT s root [x]=0
 ·obtain ⟨g1,_,_,g4⟩:=zpB h0;obtain ⟨P,e,c⟩:=zvZ g1 h.z h.b h.w (g4 x (by simp));rw [itF (by simpa using h0),xx h0,e,sb];unfold zfX;rw [sb,c,sb,sb]
 ·rw [itT (by simpa using h0),xw h0]
theorem zCo {fuel:Nat} {s:List Mes} (root:Int) {x:Msg} (h:Ok16 fuel x) (hw:WS s):zjV fuel s root x=some (zzP s root x):=by
 unfold zjV zzP;rw [zxx root h hw,sb];by_cases h0:zgT s root [x]=0
 ·obtain ⟨g1,_,_,g4⟩:=zpB h0;obtain ⟨P,e,c⟩:=zvZ g1 h.z h.b h.w (g4 x (by simp));rw [itF (by simpa using h0),xx h0,e,sb]
 ·rw [itT (by simpa using h0),xw h0]
end Go.Proofs.YtkgohoggipdokaaGreat
