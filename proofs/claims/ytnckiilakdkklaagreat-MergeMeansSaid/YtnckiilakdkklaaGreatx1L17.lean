/-
  The laws as plain functions. No condition.
-/
import Derived.Test.YtnckiilakdkklaaGreatx1P2
import Derived.Test.YtnckiilakdkklaaGreatx1O
namespace Go.Proofs.YtnckiilakdkklaaGreat
open Go
set_option linter.unusedVariables false
theorem zBo {fuel:Nat} (hf:130<=fuel):zek fuel=some true:=by
 have hw:WS [(⟨[109],[⟨[97],1,3,false,false,0⟩]⟩:Mes)]:=by
  refine ⟨by simp,fun m hm=>?_⟩;rw [xY.1 hm];exact ⟨by simp,by simp,fun f hf=>by rw [xY.1 hf];simp⟩
 have r1:rec5 [(8:UInt8),(1:UInt8)]= .inr (1,0,1,2):=by decide
 have r2:rec5 [(8:UInt8),(2:UInt8)]= .inr (1,0,1,2):=by decide
 have s1:spl 0 [(8:UInt8),(1:UInt8)]=([⟨1,0,0,1,2⟩],none):=by
  rw [zdv (by simp) r1];have e:([(8:UInt8),(1:UInt8)]:List UInt8).drop 2=[]:=rfl;rw [e,zey];rfl
 have s2:spl 0 [(8:UInt8),(2:UInt8)]=([⟨1,0,0,1,2⟩],none):=by
  rw [zdv (by simp) r2];have e:([(8:UInt8),(2:UInt8)]:List UInt8).drop 2=[]:=rfl;rw [e,zey];rfl
 have f1:zU [⟨[109],[⟨[97],1,3,false,false,0⟩]⟩] 0 0 [(8:UInt8),(1:UInt8)]=none:=by
  show zbQ _ none _ (spl 0 _)=_;rw [s1];rfl
 have f2:zU [⟨[109],[⟨[97],1,3,false,false,0⟩]⟩] 0 0 [(8:UInt8),(2:UInt8)]=none:=by
  show zbQ _ none _ (spl 0 _)=_;rw [s2];rfl
 have c1:=zpR (s:=[⟨[109],[⟨[97],1,3,false,false,0⟩]⟩]) (root:=0) (d:=0) (by decide) f1;have c2:=zpR (s:=[⟨[109],[⟨[97],1,3,false,false,0⟩]⟩]) (root:=0) (d:=0) (by decide) f2;have ho:zyg (zA [⟨[109],[⟨[97],1,3,false,false,0⟩]⟩] 0) [(8:UInt8),(1:UInt8)] [(8:UInt8),(2:UInt8)]=1:=by
  unfold zyg zaJ;rw [s1,s2];rfl
 have hall:zpz [⟨[109],[⟨[97],1,3,false,false,0⟩]⟩] 0 [[(8:UInt8),(1:UInt8)],[(8:UInt8),(2:UInt8)]] 0=([8,1,8,2],0,0):=by
  rw [zDa,xm (fun h=>h c1),xm (fun h=>h c2)];rfl
 have m1:=zCG (fuel:=fuel) (s:=[⟨[109],[⟨[97],1,3,false,false,0⟩]⟩]) 0 (a:=[(8:UInt8),(1:UInt8)]) (b:=[(8:UInt8),(2:UInt8)]) 0 hf hw (by simp) (by simp);have m2:=zFr (fuel:=fuel) (s:=[⟨[109],[⟨[97],1,3,false,false,0⟩]⟩]) 0 (a:=[(8:UInt8),(1:UInt8)]) (b:=[(8:UInt8),(2:UInt8)]) 0 hf hw (by simp) (by simp);rw [hall] at m1 m2;rw [ho] at m2;have m2':ziA fuel [⟨[109],[⟨[97],1,3,false,false,0⟩]⟩] 0 [(8:UInt8),(1:UInt8)] [(8:UInt8),(2:UInt8)] 0=some (1,0):=m2;unfold zek;rw [m1,sb,m2',sb,itT (by decide),itT (by decide),zBI,sb];rfl
theorem zte {fuel:Nat} (a0:List Mes) (a1:Int) (a2 a3:List UInt8) (a4:Int) (w0:WS a0) (w2:a2.length<=140737488351232) (w3:a3.length<=140737488351232) (hf:20000<=fuel):zcB fuel a0 a1 a2 a3 a4=some true:=by
 unfold zcB;rw [zBo (by omega),sb,p8];obtain ⟨b0,hb0⟩:=zIx w0;rw [hb0,sb,ue];cases b0 with
 | false=>rfl
 | true=>
  by_cases hl:1500<a2.length+a3.length
  ·rw [uc]
  ·have c2:=zpB a0 a1 a2 a4;have c3:=zpB a0 a1 a3 a4;rw [ud,zCG a1 a4 (by omega) w0 (by omega) (by omega),sb,zlC w0 a1 (by omega) a4 (by omega),sb];have hTw:=zDa a0 a1 a2 a3 a4;by_cases h2:(zaV a0 a1 a2 a4).2=0
   ·rw [itT (by simpa using h2),zlC w0 a1 (by omega) a4 (by omega),sb,sb];rw [xm (fun h=>h h2)] at hTw;by_cases h3:(zaV a0 a1 a3 a4).2=0
    ·obtain ⟨ha,f2⟩:=zpC h2;obtain ⟨_,f3⟩:=zpC h3;obtain ⟨g1,g2,g3,g4,g5⟩:=zlH ha;obtain ⟨k,rfl⟩:∃k:Nat,a1=k:=⟨a1.toNat,by omega⟩;have f23:zU a0 a4.toNat k (a2++a3)=none:=(zgL a0 _ k _ f2).2 f3;have h23:=zpR ha f23;have hi:is11 a0 k (a2++a3) a4=true:=zqH.2 ⟨ha,f23⟩;have e:=zBq g1 _ a2 a3 a4.toNat k rfl (by omega) f2 f3;have hll:(a2++a3).length=a2.length+a3.length:=by simp
     obtain ⟨p1,p2⟩:=zBr g1 _ a2 k rfl (by omega) (by omega);obtain ⟨q1,q2⟩:=zBr g1 _ a3 k rfl (by omega) (by omega);obtain ⟨r1,r2⟩:=zBr g1 _ (a2++a3) k rfl (by omega) (by omega);obtain ⟨p3,_⟩:=zjP g1 _ a2 _ k rfl (by omega) f2;obtain ⟨q3,_⟩:=zjP g1 _ a3 _ k rfl (by omega) f3;have t1:=zFv a0 _ a3 k rfl;have t2:=zFv a0 _ (a2++a3) k rfl;have u1:=zDg _ (ofM a0 k a3) (xt _);have u2:=zDg _ (ofM a0 k (a2++a3)) (xt _);have hto:zyI a0 k (a2++a3) a4=(ofM a0 k (a2++a3),0):=by
      unfold zyI;rw [xm (fun h=>h h23)]
     rw [xm (fun h=>h h3)] at hTw;rw [itF (by simpa using h3),hTw];simp only;rw [zJl k a4 (by omega) w0 (by omega),sb,zqh g1 (by omega) (by omega) (by omega),sb,zqh g1 (by omega) (by omega) (by omega),sb,zrd g1 fuel _ _ k (by omega) p2 q2 p3 q3,sb,hto];simp only;rw [itT (by decide),itT (by rw [hll];simp),zBA w0 k (by omega) a4 (by omega),sb,itT hi,zqh g1 (by omega) (by omega) (by omega),sb,zrg _ (by omega) r1,sb,e,itT (zeH.2 rfl),<-e,zBd (by omega) r1,sb,zrg _ (by omega) r1,sb,sb];exact congrArg some (zeH.2 rfl)
    ·rw [xn h3] at hTw;rw [itT (by simpa using h3),hTw];simp only;rw [ue];simp
   ·rw [xn h2] at hTw;rw [itF (by simpa using h2),sb,itT (by simpa using h2),hTw];simp only;rw [ue];simp
theorem ws17 {s:List Mes} (w:s.length*40<=140737488351232/\∀m∈s,ziK m):WS s:=
 ⟨by omega,fun m hm=>⟨(w.2 m hm).1,by have:=(w.2 m hm).2.1;omega,fun f hf=>((w.2 m hm).2.2 f hf).1⟩⟩
theorem ztf (a0:(List ze)) (a1:Int) (a2:(List UInt8)) (a3:(List UInt8)) (a4:Int) (w0:a0.length*40<=140737488351232/\∀a0'∈a0,ziK a0') (w1:(Lit.int .i64 a1).wf=true) (w2:a2.length*1<=140737488351232/\∀a2'∈a2,True) (w3:a3.length*1<=140737488351232/\∀a3'∈a3,True) (w4:(Lit.int .i64 a4).wf=true):∃fuel,zcB fuel a0 a1 a2 a3 a4=some true:=
 ⟨20000,zte a0 a1 a2 a3 a4 (ws17 w0) (by omega) (by omega) (xt _)⟩
end Go.Proofs.YtnckiilakdkklaaGreat
