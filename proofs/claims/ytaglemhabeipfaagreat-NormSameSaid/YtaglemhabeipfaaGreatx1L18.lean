/-
  The laws as plain functions. No condition.
-/
import Derived.Test.YtaglemhabeipfaaGreatx1P2
import Derived.Test.YtaglemhabeipfaaGreatx1P3
import Derived.Test.YtaglemhabeipfaaGreatx1O
namespace Go.Proofs.YtaglemhabeipfaaGreat
open Go
set_option linter.unusedVariables false
theorem zKO {c:Int} (h:0<=c/\c<=255):IntKind.i64.wrap c=c:=uL
theorem zJz (k:Nat):zeX (k+400)=some true:=by kernel_rfl
theorem zHB {fuel:Nat} (hf:400<=fuel):zeX fuel=some true:=by
 obtain ⟨k,rfl⟩:=Nat.exists_eq_add_of_le' hf;exact zJz k
theorem zyn {fuel:Nat} (a0:List Mes) (a1:Int) (a2 a3:List UInt8) (a4:Int) (w0:WS a0) (w2:a2.length<=140737488351232) (w3:a3.length<=140737488351232) (hf:20000<=fuel):zdF fuel a0 a1 a2 a3 a4=some true:=by
 unfold zdF;rw [zHB (by omega),sb,uH];obtain ⟨b0,hb0⟩:=zNe w0;rw [hb0,sb,uL];cases b0 with
 | false=>rfl
 | true=>
  by_cases hl:1500<a2.length+a3.length
  ·rw [uJ]
  ·have c2:=zro a0 a1 a2 a4;have c3:=zro a0 a1 a3 a4;rw [uK,zJB a1 a4 (by omega) w0 (by omega) (by omega),sb,zry w0 a1 (by omega) a4 (by omega),sb];by_cases h2:(zaT a0 a1 a2 a4).2=0
   ·rw [itT (by simpa using h2),zry w0 a1 (by omega) a4 (by omega),sb,sb];by_cases h3:(zaT a0 a1 a3 a4).2=0
    ·obtain ⟨ha,f2⟩:=zrp h2;obtain ⟨_,f3⟩:=zrp h3;obtain ⟨g1,g2,g3,g4,g5⟩:=zng ha;obtain ⟨k,rfl⟩:∃k:Nat,a1=k:=⟨a1.toNat,by omega⟩;have v2:=zKE g1 (by omega) (by omega) f2;have v3:=zKE g1 (by omega) (by omega) f3;have z2:=v2.sz;have e:zmu a0 k a2 a3 a4=(zcl a0 k a2==zcl a0 k a3,0):=by unfold zmu;rw [xp (fun g=>g h2),xp (fun g=>g h3)]
     rw [itF (by simpa using h3),e];simp only;rw [itT (by decide),zxB g1 (by omega) (by omega) (by omega),sb,zxB g1 (by omega) (by omega) (by omega),sb,zBb _ (by omega) v2.bd,sb,sb];congr 1;rw [qJ,yI,zgh,qJ];exact zIM v2 v3
    ·have e:zmu a0 a1 a2 a3 a4=(false,(zaT a0 a1 a3 a4).2):=by unfold zmu;rw [xp (fun g=>g h2),xq h3]
     rw [itT (by simpa using h3),e];simp only;rw [zKO c3];simp
   ·have e:zmu a0 a1 a2 a3 a4=(false,(zaT a0 a1 a2 a4).2):=by unfold zmu;rw [xq h2]
    rw [itF (by simpa using h2),sb,itT (by simpa using h2),e];simp only;rw [zKO c2];simp
theorem ws18 {s:List Mes} (w:s.length*40<=140737488351232/\∀m∈s,zjM m):WS s:=
 ⟨by omega,fun m hm=>⟨(w.2 m hm).1,by have:=(w.2 m hm).2.1;omega,fun f hf=>((w.2 m hm).2.2 f hf).1⟩⟩
theorem zyo (a0:(List ze)) (a1:Int) (a2:(List UInt8)) (a3:(List UInt8)) (a4:Int) (w0:a0.length*40<=140737488351232/\∀a0'∈a0,zjM a0') (w1:(Lit.int .i64 a1).wf=true) (w2:a2.length*1<=140737488351232/\∀a2'∈a2,True) (w3:a3.length*1<=140737488351232/\∀a3'∈a3,True) (w4:(Lit.int .i64 a4).wf=true):∃fuel,zdF fuel a0 a1 a2 a3 a4=some true:=
 ⟨20000,zyn a0 a1 a2 a3 a4 (ws18 w0) (by omega) (by omega) (xw _)⟩
end Go.Proofs.YtaglemhabeipfaaGreat
