/-
  The laws as plain functions. No condition.
-/
import Derived.Test.YtkgohoggipdokaaGreatx1P1
import Derived.Test.YtkgohoggipdokaaGreatx1P2
import Derived.Test.YtkgohoggipdokaaGreatx1T
import Derived.Test.YtkgohoggipdokaaGreatx1K1
import Derived.KernelRfl
import Derived.Test.YtkgohoggipdokaaGreatx1Bulk
namespace Go.Proofs.YtkgohoggipdokaaGreat
open Go
set_option linter.unusedVariables false
theorem ok16 {fuel n:Nat} {x:Msg} (hb:bdM x) (hw:wgM x<=n) (hn:n<=30000) (hf:200000<=fuel):Ok16 fuel x:=
 ⟨hb,zDW _ x (xB _) (by omega),by have:=zwa _ x (xB _);omega,by omega⟩
theorem Ok16.same {fuel:Nat} {x:Msg} (h:Ok16 fuel x) (y:Msg):zrA fuel x y=some (zmW x y):=zDQ y h.z h.b (by have:=zwa _ x (xB _);have:=zAd x;have:=h.w;omega)
theorem Ok16.depth {fuel:Nat} {x:Msg} (h:Ok16 fuel x):ziC fuel x=some ((dM x:Nat):Int):=zvT (by have:=h.z;omega) h.b (by have:=zwa _ x (xB _);have:=zAd x;have:=h.w;omega)
theorem zzl {fuel:Nat} (hf:200000<=fuel):zeH fuel=some true:=by
 obtain ⟨S,hS⟩:∃S:List Mes,S=[(⟨[109],[⟨[97],1,3,true,false,0⟩]⟩:Mes)]:=⟨_,rfl⟩;obtain ⟨X,hX⟩:∃X:Msg,X=(⟨[⟨1,[1,300],[],[]⟩],[]⟩:Msg):=⟨_,rfl⟩;have hw:WS S:=by
  rw [hS];refine ⟨by simp,fun m hm=>?_⟩;rw [yk.1 hm];exact ⟨by simp,by simp,fun f hf=>by rw [yk.1 hf];simp⟩
 have hbX:bdM X:=by
  rw [hX];refine (zgY _).2 ⟨by simp,⟨by simp,fun t ht=>absurd ht (by simp)⟩,zdL.2 fun v hv=>?_⟩;rw [yk.1 hv];exact (zgp _).2 ⟨by decide,⟨by simp,fun t ht=>by simp at ht;omega⟩,⟨by simp,by simp⟩,by simp,by simp [bdMs]⟩
 have hgX:wgM X<=100:=by rw [hX,zib];simp [wgVs,zhu,wgMs]
 have hrs:zgu S=true:=by rw [hS];decide
 have hrt:zap S X 0=true:=by rw [hS,hX];decide
 have h1:zgT S 0 [X]=0:=zDc hrs ⟨by omega,by rw [hS];decide⟩ fun x hx=>by rw [yk.1 hx];exact hrt
 have hE:encM S X 0=[10,3,1,172,2]:=by
  have e1:encV S ⟨1,[1,300],[],[]⟩ ⟨[97],1,3,true,false,0⟩=[10,3,1,172,2]:=by
   have c1:sPut 3 1=[1]:=by
    show enc (zbg 3 1).toNat=[1];rw [show (zbg 3 1).toNat=1 by decide,zkj (by omega)];rfl
   have c2:sPut 3 300=[172,2]:=by
    show enc (zbg 3 300).toNat=[172,2];rw [show (zbg 3 300).toNat=300 by decide,zrb (by omega),zkj (by omega)];rfl
   rw [zst,xx (by rfl),xx (by rfl)];simp only [xN,pC,c1,c2];unfold put5;rw [xx rfl,show tW 1 2=10 by decide,zkj (by omega),zkj (by simp)];rfl
  have e2:zam (zaF S 0) (fldI (zaF S 0) 1)=⟨[97],1,3,true,false,0⟩:=by rw [hS];decide
  rw [hX,zss,zkh,zkh,e2,e1];rfl
 unfold zeH;rw [<-hS,<-hX,zsY 0 (ok16 hbX hgX (by omega) hf) hw,sb];unfold zsp;rw [xx h1,hE];simp only;rw [itT (by decide),zud,sb];simp
theorem zpY {fuel:Nat} (a0:List Mes) (a1:Int) (a2:Msg) (w0:WS a0) (w2:bdM a2) (s2:smM a2) (h2:szM a2+100<=fuel) (hf:200000<=fuel):zcl fuel a0 a1 a2=some true:=by
 unfold zcl;rw [zzl (by omega),sb,pQ];obtain ⟨b0,hb0⟩:=zGa w0;rw [hb0,sb];cases b0 with
 | false=>rfl
 | true=>
  obtain ⟨r,z,q⟩:=(zDG fuel).1 a2 70 (by omega) w2 (by omega) (by omega);rw [pQ,z,sb,sb];by_cases hl:r>3000
  ·rw [itT (by simpa using hl)]
  ·have hw:wgM a2<=3000:=by have:=(q s2).2.2 (by omega);omega
   have hx:∀x∈[a2],szM x<fuel/\bdM x:=fun x hx=>by rw [yk.1 hx];exact ⟨by omega,w2⟩
   have c1:=zzC a0 a1 [a2];rw [itF (by simpa using hl),zzx (by omega) w2,sb,zsY a1 (ok16 w2 hw (by omega) hf) w0,sb,zCo a1 (ok16 w2 hw (by omega) hf) w0,sb,zyv w0 a1 (l:=[a2]) (by simp) (fuel:=fuel) hx,sb];unfold zsp zzP;by_cases h0:zgT a0 a1 [a2]=0
   ·obtain ⟨g1,g2,g3,g4⟩:=zpB h0;rw [itF (by simpa using h0),xx h0,xx h0,ztR g1 (by omega) w2 (by omega) (g4 a2 (by simp)),sb];simp only;rw [itT (by decide),zud,sb,itT (by simp),sb];simp
   ·rw [itT (by simpa using h0),xw h0,xw h0];simp only;rw [zk (x:=zgT a0 a1 [a2]) (by omega)];simp
theorem znb (a0:(List zd)) (a1:Int) (a2:zc) (w0:a0.length*40<=140737488351232/\a0.length<=1048576/\∀a0'∈a0,zhO a0') (w1:(Lit.int .i64 a1).wf=true) (w2:zbF a2):∃fuel,zcl fuel a0 a1 a2=some true:=by
 obtain ⟨p1,p2⟩:=(zFr (szM a2)).1 a2 (xB _) w2;exact ⟨szM a2+200000,zpY a0 a1 a2 (zHw w0) p1 p2 (by omega) (by omega)⟩
end Go.Proofs.YtkgohoggipdokaaGreat
