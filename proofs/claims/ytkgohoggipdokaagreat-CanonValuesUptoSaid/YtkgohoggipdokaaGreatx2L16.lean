/-
  The laws as plain functions. No condition.
-/
import Derived.Test.YtkgohoggipdokaaGreatx2P1
import Derived.Test.YtkgohoggipdokaaGreatx2P2
import Derived.Test.YtkgohoggipdokaaGreatx2T
import Derived.Test.YtkgohoggipdokaaGreatx2K1
import Derived.KernelRfl
import Derived.Test.YtkgohoggipdokaaGreatx2Bulk
namespace Go.Proofs.YtkgohoggipdokaaGreat
open Go
set_option linter.unusedVariables false
theorem ok16 {fuel n:Nat} {x:Msg} (hb:bdM x) (hw:wgM x<=n) (hn:n<=30000) (hf:200000<=fuel):Ok16 fuel x:=
 ⟨hb,zDQ _ x (xB _) (by omega),by have:=zvT _ x (xB _);omega,by omega⟩
theorem Ok16.same {fuel:Nat} {x:Msg} (h:Ok16 fuel x) (y:Msg):zru fuel x y=some (zmU x y):=zDK y h.z h.b (by have:=zvT _ x (xB _);have:=zzV x;have:=h.w;omega)
theorem Ok16.depth {fuel:Nat} {x:Msg} (h:Ok16 fuel x):zix fuel x=some ((dM x:Nat):Int):=zvN (by have:=h.z;omega) h.b (by have:=zvT _ x (xB _);have:=zzV x;have:=h.w;omega)
theorem zze {fuel:Nat} (hf:200000<=fuel):zeH fuel=some true:=by
 obtain ⟨S,hS⟩:∃S:List Mes,S=[(⟨[109],[⟨[97],1,3,true,false,0⟩]⟩:Mes)]:=⟨_,rfl⟩;obtain ⟨X,hX⟩:∃X:Msg,X=(⟨[⟨1,[1,300],[],[]⟩],[]⟩:Msg):=⟨_,rfl⟩;have hw:WS S:=by
  rw [hS];refine ⟨by simp,fun m hm=>?_⟩;rw [ym.1 hm];exact ⟨by simp,by simp,fun f hf=>by rw [ym.1 hf];simp⟩
 have hbX:bdM X:=by
  rw [hX];refine (zgz _).2 ⟨by simp,⟨by simp,fun t ht=>absurd ht (by simp)⟩,zdJ.2 fun v hv=>?_⟩;rw [ym.1 hv];exact (zgr _).2 ⟨by decide,⟨by simp,fun t ht=>by simp at ht;omega⟩,⟨by simp,by simp⟩,by simp,by simp [bdMs]⟩
 have hgX:wgM X<=100:=by rw [hX,zhX];simp [wgVs,zhr,wgMs]
 have hrs:zeu S=true:=by rw [hS];decide
 have hrt:zaH S X 0=true:=by rw [hS,hX];decide
 have h1:zpb S 0 [X]=0:=zCV hrs ⟨by omega,by rw [hS];decide⟩ fun x hx=>by rw [ym.1 hx];exact hrt
 have hE:encM S X 0=[10,3,1,172,2]:=by
  have e1:encV S ⟨1,[1,300],[],[]⟩ ⟨[97],1,3,true,false,0⟩=[10,3,1,172,2]:=by
   have c1:sPut 3 1=[1]:=by
    show enc (zbe 3 1).toNat=[1];rw [show (zbe 3 1).toNat=1 by decide,zkg (by omega)];rfl
   have c2:sPut 3 300=[172,2]:=by
    show enc (zbe 3 300).toNat=[172,2];rw [show (zbe 3 300).toNat=300 by decide,zqV (by omega),zkg (by omega)];rfl
   rw [zsm,xx (by rfl),xx (by rfl)];simp only [xN,pC,c1,c2];unfold put5;rw [xx rfl,show tW 1 2=10 by decide,zkg (by omega),zkg (by simp)];rfl
  have e2:zaq (zaD S 0) (fldI (zaD S 0) 1)=⟨[97],1,3,true,false,0⟩:=by rw [hS];decide
  rw [hX,zsl,zke,zke,e2,e1];rfl
 unfold zeH;rw [<-hS,<-hX,zzd 0 (ok16 hbX hgX (by omega) hf) hw,sb];unfold zwe;rw [xx h1,hE];simp only;rw [itT (by decide),ztV,sb];simp
theorem zqR {fuel:Nat} (a0:List Mes) (a1:Fld) (a2:Vlu) (w0:WS a0) (w2:bdV a2) (s2:smV a2) (h2:2*szV a2+100<=fuel) (hf:200000<=fuel):zcH fuel a0 a1 a2=some true:=by
 unfold zcH;rw [zze (by omega),sb,pQ];obtain ⟨b0,hb0⟩:=zFW w0;rw [hb0,sb];cases b0 with
 | false=>rfl
 | true=>
  obtain ⟨r,z,q⟩:=(zDz fuel).2 a2 70 (by omega) w2 (by omega) (by omega);rw [pQ,z,sb,sb];by_cases hl:r>3000
  ·rw [itT (by simpa using hl)]
  ·have hw:wgV a2<=3000/\dV a2<=70:=by have:=(q s2).2.2 (by omega);omega
   rw [itF (by simpa using hl),zAW a1 (by omega) w2 s2 (by omega) (by omega) w0,sb,zxU (by omega) w2,sb,zuF w0,sb];unfold zxa;cases hr:zeu a0 with
   | false=>rw [pP,xx rfl];rfl
   | true=>
    have g1:=zjK hr;have hG:(if decide (a1.Number<1)=true then some true else if decide (a1.Number>536870911)=true then some true else zbp fuel a0 a1 a2>>=fun rv7=>some (!rv7))=some (decide (a1.Number<1\/a1.Number>536870911\/zdL a0 a2 a1=false)):=by
     by_cases h1:a1.Number<1
     ·rw [itT (by simpa using h1)];simp [h1]
     ·rw [itF (by simpa using h1)];by_cases h3:a1.Number>536870911
      ·rw [itT (by simpa using h3)];simp [h3]
      ·rw [itF (by simpa using h3),zwG g1 _ (by omega) w2,sb];cases zdL a0 a2 a1<;>simp [h1,h3]
    rw [pQ,xw (show ¬(true=false) by simp),hG,sb];by_cases hc:a1.Number<1\/a1.Number>536870911\/zdL a0 a2 a1=false
    ·rw [itT (by simpa using hc),xx hc];rfl
    ·have hf:zdL a0 a2 a1=true:=by cases hh:zdL a0 a2 a1 with
      | true=>rfl
      | false=>exact absurd (.inr (.inr hh)) hc
     rw [itF (xV hc),xw hc];simp only;rw [itT (by decide),zuG g1 (by omega) w2 (by omega) (by omega) (by omega) hf,sb,ztV,sb,sb];simp
theorem znp (a0:(List ze)) (a1:zb) (a2:za) (w0:a0.length*40<=140737488351232/\a0.length<=1048576/\∀a0'∈a0,zhJ a0') (w1:zaj a1) (w2:zag a2):∃fuel,zcH fuel a0 a1 a2=some true:=by
 obtain ⟨p1,p2⟩:=(zFk (szV a2)).2 a2 (xB _) w2;exact ⟨2*szV a2+200000,zqR a0 a1 a2 (zHp w0) p1 p2 (by omega) (by omega)⟩
end Go.Proofs.YtkgohoggipdokaaGreat
