/-
  The laws as plain functions. No condition.
-/
import Derived.Test.YtaglemhabeipfaaGreatx1L18
import Derived.Test.YtaglemhabeipfaaGreatx1P3
namespace Go.Proofs.YtaglemhabeipfaaGreat
open Go
set_option linter.unusedVariables false
theorem zxG {fuel:Nat} (a0:List Mes) (a1:Int) (a2:List UInt8) (a3 a4:Int) (w0:WS a0) (w2:a2.length<=140737488351232) (hf:20000<=fuel):zdv fuel a0 a1 a2 a3 a4=some true:=by
 unfold zdv;rw [zJF (by omega),sb,uS];obtain ⟨b0,hb0⟩:=zPg w0;rw [hb0,sb];cases b0 with
 | false=>rfl
 | true=>
  by_cases hl:1500<a2.length
  ·rw [uV]
  ·have cc:=zAi a0 a1 a2 a3;rw [uW,zyK a1 a3 (by omega) w0 (by omega),sb,zJI a1 a3 (by omega) w0 (by omega),sb,zJH a1 a3 a4 (by omega) w0 (by omega),sb,zAt w0 a1 (by omega) a3 (by omega),sb,zPE a1 a3 (by omega) w0 (by omega)];by_cases h0:(zaE a0 a1 a2 a3).2=0
   ·obtain ⟨ha,hfi⟩:=zAj h0;obtain ⟨g1,g2,g3,g4,g5⟩:=zol ha;obtain ⟨k,rfl⟩:∃k:Nat,a1=k:=⟨a1.toNat,by omega⟩;have v:=zQf g1 (by omega) (by omega) hfi;have vt:=v.twice;have vz:=v.sz;have e1:=ztk h0;have e2:zua a0 k a2 a3=(zpp a2 (zbo a0 k a2),0):=xq (fun g=>g h0);have e3:ztY a0 k a2 a3 a4=(zhH (zbo a0 k a2) a4,0):=xq (fun g=>g h0);have hz:decide ((zaE a0 k a2 a3).2=0)=true:=xO h0;rw [e1,e2,e3,hz,itF (by simpa using h0),zDf g1 (by omega) (by omega) hfi (by omega) (by omega),sb];simp only;rw [itT (by decide),zty,sb,uT,zAw (by omega) (by omega),sb,uT,zAu (by omega),sb,zty,sb,uT,sb,sb];congr 1;rw [qP,ye,yN,qP,decide_eq_true_iff,zEe];exact eq_comm
   ·have e1:=zqM h0;have e2:zua a0 a1 a2 a3=(0,(zaE a0 a1 a2 a3).2):=xr h0;have e3:ztY a0 a1 a2 a3 a4=([],(zaE a0 a1 a2 a3).2):=xr h0;have hz:decide ((zaE a0 a1 a2 a3).2=0)=false:=xU h0;rw [e1,e2,e3,hz,itT (by simpa using h0)];simp only;rw [zQj cc,uT,uT,uT,itT (by decide),sb];rfl
theorem zxH (a0:(List zc)) (a1:Int) (a2:(List UInt8)) (a3:Int) (a4:Int) (w0:a0.length*40<=140737488351232/\∀a0'∈a0,zkG a0') (w1:(Lit.int .i64 a1).wf=true) (w2:a2.length*1<=140737488351232/\∀a2'∈a2,True) (w3:(Lit.int .i64 a3).wf=true) (w4:(Lit.int .i64 a4).wf=true):∃fuel,zdv fuel a0 a1 a2 a3 a4=some true:=
 ⟨20000,zxG a0 a1 a2 a3 a4 (ws18 w0) (by omega) (xx _)⟩
end Go.Proofs.YtaglemhabeipfaaGreat
