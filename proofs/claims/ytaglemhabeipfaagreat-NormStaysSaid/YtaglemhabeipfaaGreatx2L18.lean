/-
  The laws as plain functions. No condition.
-/
import Derived.Test.YtaglemhabeipfaaGreatx2P1
import Derived.Test.YtaglemhabeipfaaGreatx2P2
import Derived.Test.YtaglemhabeipfaaGreatx2P3
import Derived.Test.YtaglemhabeipfaaGreatx2O
namespace Go.Proofs.YtaglemhabeipfaaGreat
open Go
set_option linter.unusedVariables false
theorem zKQ {c:Int} (h:0<=c/\c<=255):IntKind.i64.wrap c=c:=uO
theorem zJF (k:Nat):zeI (k+400)=some true:=by kernel_rfl
theorem zHD {fuel:Nat} (hf:400<=fuel):zeI fuel=some true:=by
 obtain ⟨k,rfl⟩:=Nat.exists_eq_add_of_le' hf;exact zJF k
theorem zvO {fuel:Nat} (a0:List Mes) (a1:Int) (a2 a3:List UInt8) (a4:Int) (w0:WS a0) (w2:a2.length<=140737488351232) (w3:a3.length<=140737488351232) (hf:200000<=fuel):zcX fuel a0 a1 a2 a3 a4=some true:=by
 unfold zcX;rw [zHD (by omega),sb,uK];obtain ⟨b0,hb0⟩:=zNb w0;rw [hb0,sb,wrap_i64 (x:=(a2.length:Int)+a3.length) (by omega)];cases b0 with
 | false=>rfl
 | true=>
  by_cases hl:1500<a2.length+a3.length
  ·rw [uM]
  ·have c2:=zqK a0 a1 a2 a4;have c3:=zqK a0 a1 a3 a4;rw [uN,zpd a1 a4 (by omega) w0 (by omega),sb,zpd a1 a4 (by omega) w0 (by omega),sb];by_cases h2:(zba a0 a1 a2 a4).2=0
   ·obtain ⟨ha,f2⟩:=zqL h2;obtain ⟨g1,g2,g3,g4,g5⟩:=zkG ha;obtain ⟨k,rfl⟩:∃k:Nat,a1=k:=⟨a1.toNat,by omega⟩;have v2:=zKH g1 (by omega) (by omega) f2;have t2:=v2.twice;have z2:=v2.sz;have wg2:=v2.wg;have hx:=zEf ha v2.valid;have tr:zpC a0 k a2 a4=(ofM a0 k a2,0):=xx (fun g=>g h2);have trx:zpC a0 k (zbn a0 k a2) a4=(ofM a0 k a2,0):=by unfold zpC;rw [xx (fun g=>g hx),v2.means]
    have may:zqQ a0 k [ofM a0 k a2]=0:=zJC (zDS ha) ⟨g2,g3⟩ (by simpa using v2.right);have cn:zAj a0 k (ofM a0 k a2)=(zbn a0 k a2,0):=xy may;have hx64:is11 a0 k (zbn a0 k a2) 64=true:=zmI.2 ⟨zDR ha (by omega),zIQ a0 (by omega) _ _ v2.valid⟩;have hcis:zvp a0 k (zbn a0 k a2)=true:=by
     unfold zvp;rw [hx64,v2.means];simp [zbn]
    have hnis:(decide ((zba a0 k (zbn a0 k a2) a4).2=0)&&(zbn a0 k (zbn a0 k a2)==zbn a0 k a2))=true:=by
     rw [xV hx,v2.stays];simp
    rw [zlj h2];simp only;rw [itF (by decide),zBl _ a4 (by omega) w0 (by omega),sb,zBl _ a4 (by omega) w0 (by omega),sb,tr,trx];simp only;rw [zEe _ ⟨v2.bd,v2.sm,by omega,by omega⟩ w0,sb,cn];simp only;rw [itF (by decide),zDo _ (by omega) v2.bd (by have:=zFz (ofM a0 k a2);omega),sb,itF (by simp [znb]),zxo,sb,uL,zNw _ a4 (by omega) w0 (by omega),sb,hnis,uK,wrap_i64 (x:=2*(a2.length:Int)) (by omega),uN,zMU _ (by omega) w0 (by omega) (fun _=>by rw [v2.means];omega),sb,hcis,sb];rw [uK];by_cases h3:(zba a0 k a3 a4).2=0
    ·obtain ⟨_,f3⟩:=zqL h3;have v3:=zKH g1 (by omega) (by omega) f3;have z3:=v3.sz;have tr3:zpC a0 k a3 a4=(ofM a0 k a3,0):=xx (fun g=>g h3);have e:zvF a0 k a2 a3 a4=(zbn a0 k a2==zbn a0 k a3,0):=by unfold zvF;rw [xx (fun g=>g h2),xx (fun g=>g h3)]
     rw [zlj h3];simp only;rw [itF (by decide),zBl _ a4 (by omega) w0 (by omega),sb,zJH _ a4 (by omega) w0 (by omega) (by omega),sb,tr3,e];simp only;have hi:(zbn a0 k a2==zbn a0 k a3)=znb (ofM a0 k a2) (ofM a0 k a3):=by
      rw [yO,zgs,qK];exact zIU v2 v3
     rw [itT (by decide),zxo,sb,zDo _ (by omega) v2.bd (by have:=zFz (ofM a0 k a2);omega),sb,itT (by rw [qK];exact hi),sb,sb];simp
    ·rw [zjJ h3];simp only;rw [itT (by rw [zKQ c3];simpa using h3)]
   ·rw [zjJ h2];simp only;rw [itT (by rw [zKQ c2];simpa using h2),uJ,zNZ w0 a1 (by omega) a4 (by omega),sb,sb];unfold is11;simp [h2]
theorem ws18 {s:List Mes} (w:s.length*40<=140737488351232/\∀m∈s,zjw m):WS s:=
 ⟨by omega,fun m hm=>⟨(w.2 m hm).1,by have:=(w.2 m hm).2.1;omega,fun f hf=>((w.2 m hm).2.2 f hf).1⟩⟩
theorem zvP (a0:(List ze)) (a1:Int) (a2:(List UInt8)) (a3:(List UInt8)) (a4:Int) (w0:a0.length*40<=140737488351232/\∀a0'∈a0,zjw a0') (w1:(Lit.int .i64 a1).wf=true) (w2:a2.length*1<=140737488351232/\∀a2'∈a2,True) (w3:a3.length*1<=140737488351232/\∀a3'∈a3,True) (w4:(Lit.int .i64 a4).wf=true):∃fuel,zcX fuel a0 a1 a2 a3 a4=some true:=
 ⟨200000,zvO a0 a1 a2 a3 a4 (ws18 w0) (by omega) (by omega) (xE _)⟩
end Go.Proofs.YtaglemhabeipfaaGreat
