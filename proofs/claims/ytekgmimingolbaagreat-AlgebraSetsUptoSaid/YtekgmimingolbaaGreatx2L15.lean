/-
  The laws as plain functions. No condition.
-/
import Derived.Test.YtekgmimingolbaaGreatx2P1
import Derived.Test.YtekgmimingolbaaGreatx2P2
import Derived.Test.YtekgmimingolbaaGreatx2T
import Derived.Test.YtekgmimingolbaaGreatx2K1
import Derived.KernelRfl
import Derived.Test.YtekgmimingolbaaGreatx2Bulk
namespace Go.Proofs.YtekgmimingolbaaGreat
open Go
set_option linter.unusedVariables false
theorem ok15 {fuel n:Nat} {x:Msg} (hb:bdM x) (hw:wgM x<=n) (hn:n<=60000) (hf:200000<=fuel):Ok15 fuel x:=
 ⟨hb,zKE _ x (xC _) (by omega),by have:=zwW _ x (xC _);omega,by have:=zwW _ x (xC _);omega⟩
theorem zLd {s:List Mes} {root:Int} {a b:Msg} {n fuel:Nat} (ra:zao s a root=true) (rb:zao s b root=true) (h:wgM a+wgM b<=n) (hn:n<=60000) (hf:200000<=fuel):szM (zke s b a root)<fuel/\szM (zke s b a root)<=131072:=by
 have h1:=zBz _ b a root (xC _) ra rb;have h2:=zwW _ (zke s b a root) (xC _);omega
theorem zHd {fuel:Nat} (hf:200000<=fuel):zgS fuel=some true:=by
 obtain ⟨S,hS⟩:∃S:List Mes,S=[(⟨[109],[⟨[97],1,3,false,false,0⟩]⟩:Mes)]:=⟨_,rfl⟩;obtain ⟨X,hX⟩:∃X:Msg,X=(⟨[⟨1,[5],[],[]⟩],[[16,1]]⟩:Msg):=⟨_,rfl⟩;have hw:WS S:=by
  rw [hS];refine ⟨by simp,fun m hm=>?_⟩;rw [xT.1 hm];exact ⟨by simp,by simp,fun f hf=>by rw [xT.1 hf];simp⟩
 have hbX:bdM X:=by
  rw [hX];refine (zdK _).2 ⟨by simp,⟨by simp,fun t ht=>by rw [xT.1 ht];simp⟩,zcF.2 fun v hv=>?_⟩;rw [xT.1 hv];exact (zeP _).2 ⟨by decide,⟨by simp,fun t ht=>by rw [xT.1 ht];omega⟩,⟨by simp,by simp⟩,by simp,by simp [bdMs]⟩
 have hgX:wgM X<=100:=by rw [hX,zkQ];simp [wgVs,zkp,wgMs]
 have oX:Ok15 fuel X:=ok15 hbX hgX (by omega) hf;have hrs:zeS S=true:=by rw [hS];decide
 have hrt:zao S X 0=true:=by rw [hS,hX];decide
 have h1:zdo S 0 [X]=0:=zDG hrs ⟨by omega,by rw [hS];decide⟩ fun x hx=>by rw [xT.1 hx];exact hrt
 have hof:ofW [[1]]=[([1]:zz)]:=by decide
 have hU:UW [([1]:zz)]:=⟨by simp,fun x hx=>by rw [xT.1 hx];simp⟩;obtain ⟨Y,hY⟩:∃Y,Y=zoG S X 0 [([1]:zz)] false:=⟨_,rfl⟩;have hYv:Y=⟨[],[[16,1]]⟩:=by
  rw [hY,hX,zsp];simp only [zep,zpV];rw [xw (by simp [ziA]),xw (by simp [ziA])];rfl
 have hYb:bdM Y:=by rw [hY];exact (zxB _ X 0 _ false (xC _) hbX).1
 have hYg:wgM Y<=100:=by rw [hY];exact yi (zBQ _ X 0 _ false (xC _)) hgX
 have hYr:zao S Y 0=true:=by rw [hY];exact zsq _ X 0 _ false (xC _) hrt
 have h2:zdo S 0 [Y,X]=0:=zDG hrs ⟨by omega,by rw [hS];decide⟩ fun x hx=>by
  simp only [xA,xL,xM] at hx;rcases hx with rfl| rfl
  ·exact hYr
  ·exact hrt
 have hJ:=zIu (fuel:=fuel) 0 hw (ok15 hYb hYg (by omega) hf) oX fun _=>zLd hYr hrt (n:=200) (by omega) (by omega) hf
 rw [xx h2] at hJ;have hL:=zHe (fuel:=fuel) 0 hw oX hU;rw [xx h1,hof,<-hY] at hL;have hj:∃j,zke S X Y 0=j/\j.Values.length=1/\j.Unknown.length=2:=by
  refine ⟨_,rfl,?_⟩;rw [hYv,hX,znL];constructor
  ·simp only [zlr,zmE,look,List.find?_nil,putM,zcb];rfl
  ·rfl
 obtain ⟨j,hj1,hj2,hj3⟩:=hj;rw [hj1] at hJ;have hm:=zJM hU.sw;rw [hof] at hm;unfold zgS;rw [hm,sb];rw [<-hS,<-hX,hL,sb];simp only;rw [hJ,sb];simp only;rw [hYv,hj2,hj3];rfl
theorem zvG {fuel:Nat} (a0:List Mes) (a1:Int) (a2:Msg) (a3:zz) (a4:Vlu) (w0:WS a0) (w2:bdM a2) (s2:smM a2) (w4:bdV a4) (s4:smV a4) (h2:szM a2<fuel) (h4:szV a4+1<fuel) (hf:200000<=fuel):zeg fuel a0 a1 a2 a3 a4=some true:=by
 unfold zeg;rw [zHd hf,sb,itF (by rfl)];obtain ⟨b0,hb0⟩:=zMh w0;rw [hb0,sb];cases b0 with
 | false=>rfl
 | true=>
  have V:szM (⟨[a4],[]⟩:Msg)<fuel/\bdM (⟨[a4],[]⟩:Msg):=⟨by rw [zcy];simp only [szVs];omega,(zdK _).2 ⟨by simp,⟨by simp,by simp⟩,by simp only [bdVs];exact ⟨w4,trivial⟩⟩⟩;obtain ⟨r,hr,hr2⟩:=zMf (fuel:=fuel) (l:=[a2,⟨[a4],[]⟩]) (fun x hx=>by
   simp only [xA,xL,xM] at hx;rcases hx with rfl| rfl
   ·exact ⟨h2,w2⟩
   ·exact V) (by simp)
  rw [itF (by rfl),hr,sb];cases r with
  | true=>rfl
  | false=>
   rw [itF (by rfl),sb];by_cases hw:80<a3.length
   ·rw [uM]
   ·have g2:=hr2 rfl a2 (by simp) s2;have g4:=hr2 rfl ⟨[a4],[]⟩ (by simp) ((zgF _).2 ⟨by simp,⟨by simp,by simp⟩,by simp only [smVs];exact ⟨s4,trivial⟩⟩);rw [zkQ] at g4;simp only [wgVs,yX,List.sum_nil] at g4;have h4':szV a4<fuel:=by omega
    have hx:∀x∈[a2],szM x<fuel/\bdM x:=fun x hx=>by
     simp only [xA,xL,xM] at hx;subst hx;exact ⟨h2,w2⟩
    have hm1:=zDV w0 a1 (l:=[a2]) (by simp) (fuel:=fuel) hx;have hz:=zEw;have hzv:=zxI;have c1:=zFq a0 a1 [a2];have hbad:∀c:Int,0<=c->c<100->c≠0->zds a0 a1 a2 a3 a4=c->zgB a0 a1 a2 a3=c->zbY fuel zkg ⟨[],[]⟩=some true/\zaT fuel zvlu zvlu=some true:=fun c _ _ _ _ _=>by
     rw [zlw _ (by omega) zmO,zmm _ (by omega) zno];exact ⟨congrArg some (zdL.2 rfl),congrArg some (zdL.2 rfl)⟩
    have o2:Ok15 fuel a2:=ok15 w2 g2 (by omega) hf;have hv4:szV a4<=wgV a4:=by
     have:=zwW _ (⟨[a4],[]⟩:Msg) (xC _);rw [zcy,zkQ] at this;simp only [szVs,wgVs,yX,List.sum_nil] at this;omega
    have hset:zds a0 a1 a2 a3 a4=0->bdM (setM a3 a2 a4)/\szM (setM a3 a2 a4)<fuel/\szM (setM a3 a2 a4)<=131072:=fun hc=>by
     unfold zds at hc;by_cases h0:zdo a0 a1 [a2]=0
     ·obtain ⟨t1,t2,t3,t4⟩:=zlY h0;rw [xw (fun h=>h h0)] at hc;by_cases hp:(zfB a0 a1 a3).2=true
      ·have hpn:zcw a0 a3 a1≠none:=fun hh=>by unfold zfB at hp;rw [hh] at hp;cases hp
       have hne:a3≠[]:=fun hh=>by subst hh;unfold zfB at hp;simp [zcw] at hp
       obtain ⟨z1,z2⟩:=zxF t1 w4 a3 a2 a1 hne w2 s2 (t4 a2 (by simp)) hpn;have z3:=zwW _ (setM a3 a2 a4) (xC _);exact ⟨z1,by omega,by omega⟩
      ·rw [xx (by simpa using hp)] at hc;cases hc
     ·rw [xx h0] at hc;exact absurd hc h0
    rw [uN,znO h2 w2,sb,zoD h4' w4,sb,zKN a1 w0 o2 (by omega) (by omega) w4 s4 (by omega) (by omega) hset,sb,zMb a1 w0 o2 (by omega),sb,hm1,sb];by_cases h0:zdo a0 a1 [a2]=0
    ·obtain ⟨t1,t2,t3,t4⟩:=zlY h0;obtain ⟨q,rfl⟩:∃q:Nat,a1=q:=⟨a1.toNat,by omega⟩;rw [itT (by simpa using h0),zCb t1 (by omega) (by omega),sb];by_cases hp:(zfB a0 q a3).2=true
     ·rw [xx hp,sb];have hpn:zcw a0 a3 q≠none:=fun hh=>by unfold zfB at hp;rw [hh] at hp;cases hp
      have hne:a3≠[]:=fun hh=>by subst hh;unfold zfB at hp;simp [zcw] at hp
      have hrt:=t4 a2 (by simp);have hfe:∀f:Fld,(⟨f.Name,f.Number,f.Kind,f.Repeated,f.Packed,f.Of⟩:Fld)=f:=fun f=>by cases f;rfl
      obtain ⟨v1,⟨v2,_⟩,⟨v3,_⟩,v4,_⟩:=(zeP a4).1 w4;have hmany:zcb a4=a4.Words.length+a4.Texts.length+a4.Subs.length:=rfl;rw [itF (by rw [h0];rfl),sb,itT (by simpa using h0),zqQ ⟨by omega,by omega,by omega⟩,sb,h0];simp only;rw [hfe];have hG:(if decide (((zcb a4:Nat):Int)>0)=true then zct fuel a0 (zha a0 a3 (↑q) zfld) a4>>=fun rv11=>some (!rv11) else some false)=some (decide (0<zcb a4/\zhl a0 a4 (zha a0 a3 (↑q) zfld)=false)):=by
       by_cases hm:0<zcb a4
       ·rw [uM,zBZ t1 _ h4' w4,sb];cases hff:zhl a0 a4 (zha a0 a3 (↑q) zfld)<;>simp [hm]
       ·rw [uN];simp [hm]
      rw [hG,sb];have hSC:zds a0 q a2 a3 a4=if 0<zcb a4/\zhl a0 a4 (zha a0 a3 (↑q) zfld)=false then 12 else 0:=by
       unfold zds;rw [xw (fun h=>h h0),xw (by rw [hp];simp)]
      have hAC:zgB a0 q a2 a3=if (atM a3 a2).2=false then 11 else 0:=by
       unfold zgB;rw [xw (fun h=>h h0),xw (by rw [hp];simp)]
      have h3:(if decide (0<zcb a4/\zhl a0 a4 (zha a0 a3 (↑q) zfld)=false)=true then some (12:Int) else some 0)=some (zds a0 q a2 a3 a4):=by
       rw [hSC];by_cases hc:0<zcb a4/\zhl a0 a4 (zha a0 a3 (↑q) zfld)=false
       ·rw [xx hc,xx (by simpa using hc)]
       ·rw [xw hc,xw (by simpa using hc)]
      have h5:(if ((0:Int)==0&& !(atM a3 a2).2)=true then some (11:Int) else some 0)=some (zgB a0 q a2 a3):=by
       rw [hAC];cases (atM a3 a2).2<;>rfl
      have h3b:0<=zds a0 q a2 a3 a4/\zds a0 q a2 a3 a4<100:=by
       rw [hSC];split<;>omega
      have h5b:0<=zgB a0 q a2 a3/\zgB a0 q a2 a3<100/\(zgB a0 q a2 a3≠0->(atM a3 a2).1=zvlu):=by
       rw [hAC];split
       ·rename_i hh;exact ⟨by omega,by omega,fun _=>zCJ _ _ hh⟩
       ·exact ⟨by omega,by omega,fun h=>absurd rfl h⟩
      have hS:(if zds a0 q a2 a3 a4=0 then (setM a3 a2 a4,(0:Int)) else (zkg,zds a0 q a2 a3 a4))=(if zds a0 q a2 a3 a4=0 then setM a3 a2 a4 else zkg,zds a0 q a2 a3 a4):=by
       by_cases hc:zds a0 q a2 a3 a4=0
       ·rw [xx hc,xx hc,hc]
       ·rw [xw hc,xw hc]
      have hA:(if zgB a0 q a2 a3=0 then ((atM a3 a2).1,(0:Int)) else (zvlu,zgB a0 q a2 a3))=((atM a3 a2).1,zgB a0 q a2 a3):=by
       by_cases hc:zgB a0 q a2 a3=0
       ·rw [xx hc,hc]
       ·rw [xw hc,h5b.2.2 hc]
      obtain ⟨y1,y2⟩:=zIy a3 a2 w2;obtain ⟨z1,z2⟩:=zxF t1 w4 a3 a2 q hne w2 s2 hrt hpn;have z3:=zwW _ (setM a3 a2 a4) (xC _);have hve:∀u:Vlu,(⟨u.Number,u.Words,u.Texts,u.Subs⟩:Vlu)=u:=fun u=>by cases u;rfl
      rw [h3,sb,itT (by rfl),zyX a3 fuel a2 q hne (by omega) (by omega) w2 hrt hpn,sb,sb];simp only;rw [h5,sb,hS,hA];simp only;rw [hve,zt (x:=zds a0 q a2 a3 a4) (by omega),itF (by simp),zt (x:=zgB a0 q a2 a3) (by omega),itF (by simp),zoD (by omega) y1,sb,zmm _ (by omega) y1,sb,sb,itF (by rw [zdL.2 rfl];rfl)];by_cases hc:zds a0 q a2 a3 a4=0
      ·rw [itF (by simpa using hc),xx hc,znO (by omega) z1,sb,zsu t1 ⟨by omega,by omega,by omega⟩ a3 fuel a2 q hne (by omega) (by omega) w2 hrt hpn,sb,zlw _ (by omega) z1,sb];exact congrArg some (zdL.2 rfl)
      ·rw [itT (by simpa using hc),xw hc,znO (by omega) zmO,sb,zlw _ (by omega) zmO,sb];exact congrArg some (zdL.2 rfl)
     ·have e1:zds a0 q a2 a3 a4=10:=by unfold zds;rw [xw (fun h=>h h0),xx (by simpa using hp)]
      have e2:zgB a0 q a2 a3=10:=by unfold zgB;rw [xw (fun h=>h h0),xx (by simpa using hp)]
      obtain ⟨k1,k2⟩:=hbad 10 (by omega) (by omega) (by omega) e1 e2;rw [xw hp,sb,h0,e1,e2];rw [xw (show ¬(10:Int)=0 by decide),xw (show ¬(10:Int)=0 by decide)];rw [itT (by rfl),sb,itF (by rfl),sb,itF (by rfl),sb,itF (by rfl),sb,itF (by rfl),sb,itF (by decide),itF (by decide),zoD (by omega) zno,sb,zmm _ (by omega) zno,sb,sb,itF (by exact (show (!zlz zvlu zvlu)=false by rw [zdL.2 rfl];rfl)),itT (by rfl),znO (by omega) zmO,sb,zlw _ (by omega) zmO,sb];exact congrArg some (zdL.2 rfl)
    ·have e1:zds a0 a1 a2 a3 a4=zdo a0 a1 [a2]:=by unfold zds;rw [xx h0]
     have e2:zgB a0 a1 a2 a3=zdo a0 a1 [a2]:=by unfold zgB;rw [xx h0]
     have hr:=hbad _ (by omega) (by omega) h0 e1 e2;rw [itF (by simpa using h0),sb,e1,e2,xw h0,xw h0];simp only;rw [itF (by simp [h0]),sb,itF (by simpa using h0),sb,itF (by rfl),sb,itF (by simpa using h0),sb,itF (by simp [h0]),sb,uO,itF (by simp)];rw [itF (by simp),zoD (by omega) zno,sb,zmm _ (by omega) zno,sb,sb,itF (by exact (show (!zlz zvlu zvlu)=false by rw [zdL.2 rfl];rfl)),itT (by simpa using h0),znO (by omega) zmO,sb,zlw _ (by omega) zmO,sb];exact congrArg some (zdL.2 rfl)
theorem zrw (a0:(List zg)) (a1:Int) (a2:zd) (a3:(List Int)) (a4:zb) (w0:a0.length*40<=140737488351232/\a0.length<=1048576/\∀a0'∈a0,zll a0') (w1:(Lit.int .i64 a1).wf=true) (w2:zcR a2) (w3:a3.length*8<=140737488351232/\a3.length<=1048576/\∀a3'∈a3,(Lit.int .i64 a3').wf=true) (w4:zaK a4):∃fuel,zeg fuel a0 a1 a2 a3 a4=some true:=by
 obtain ⟨p1,p2⟩:=(zIz (szM a2)).1 a2 (xC _) w2;obtain ⟨q1,q2⟩:=(zIz (szV a4)).2 a4 (xC _) w4;exact ⟨2*szM a2+2*szV a4+200000,zvG a0 a1 a2 a3 a4 (zNv w0) p1 p2 q1 q2 (by omega) (by omega) (by omega)⟩
end Go.Proofs.YtekgmimingolbaaGreat
