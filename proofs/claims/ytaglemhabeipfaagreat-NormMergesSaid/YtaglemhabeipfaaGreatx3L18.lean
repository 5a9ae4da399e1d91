/-
  The laws as plain functions. No condition.
-/
import Derived.Test.YtaglemhabeipfaaGreatx3P1
import Derived.Test.YtaglemhabeipfaaGreatx3P2
import Derived.Test.YtaglemhabeipfaaGreatx3O
namespace Go.Proofs.YtaglemhabeipfaaGreat
open Go
set_option linter.unusedVariables false
theorem zFi {c:Int} (h:0<=c/\c<=255):IntKind.i64.wrap c=c:=uk
theorem zEb (k:Nat):zdb (k+400)=some true:=by kernel_rfl
theorem zCc {fuel:Nat} (hf:400<=fuel):zdb fuel=some true:=by
 obtain ⟨k,rfl⟩:=Nat.exists_eq_add_of_le' hf;exact zEb k
theorem zqy {fuel:Nat} (a0:List Mes) (a1:Int) (a2 a3:List UInt8) (a4:Int) (w0:WS a0) (w2:a2.length<=140737488351232) (w3:a3.length<=140737488351232) (hf:20000<=fuel):zbu fuel a0 a1 a2 a3 a4=some true:=by
 unfold zbu;rw [zCc (by omega),sb,uh];obtain ⟨b0,hb0⟩:=zHz w0;rw [hb0,sb,wrap_i64 (x:=(a2.length:Int)+a3.length) (by omega)];cases b0 with
 | false=>rfl
 | true=>
  by_cases hl:1500<a2.length+a3.length
  ·rw [ui]
  ·have c2:=zmN a0 a1 a2 a4;have c3:=zmN a0 a1 a3 a4;rw [uj,zon a1 a4 (by omega) w0 (by omega),sb,zon a1 a4 (by omega) w0 (by omega),sb];by_cases h2:(zbj a0 a1 a2 a4).2=0
   ·by_cases h3:(zbj a0 a1 a3 a4).2=0
    ·obtain ⟨ha,f2⟩:=zmO h2;obtain ⟨_,f3⟩:=zmO h3;obtain ⟨g1,g2,g3,g4,g5⟩:=zma ha;obtain ⟨k,rfl⟩:∃k:Nat,a1=k:=⟨a1.toNat,by omega⟩;have v2:=zFa g1 (by omega) (by omega) f2;have v3:=zFa g1 (by omega) (by omega) f3;have t2:=v2.twice;have t3:=v3.twice;have f23:zF a0 a4.toNat k (a2++a3)=none:=(zdx a0 _ k _ f2).2 f3;have fxy:zF a0 a4.toNat k (zaG a0 k a2++zaG a0 k a3)=none:=(zdx a0 _ k _ v2.valid).2 v3.valid;have o1:=znq g1 _ a2 a3 a4.toNat k rfl (by omega) f2 f3;have o2:=znq g1 _ (zaG a0 k a2) (zaG a0 k a3) a4.toNat k rfl (by omega) v2.valid v3.valid;rw [v2.means,v3.means,<-o1] at o2;have e:zaG a0 k (zaG a0 k a2++zaG a0 k a3)=zaG a0 k (a2++a3):=by
      have:∀x y:List UInt8,ofM a0 k x=ofM a0 k y->zaG a0 k x=zaG a0 k y:=fun x y h=>by unfold zaG;rw [h]
      exact this _ _ o2
     have vF:(zaG a0 k (a2++a3)).length<=(zaG a0 k a2).length+(zaG a0 k a3).length:=by
      have:=zsb (s:=a0) _ (ofM a0 k a3) (ofM a0 k a2) k (xr _) v2.right v3.right;rw [<-o1] at this;unfold zaG;omega
     rw [zkl h2,zkl h3];simp only
     rw [itF (by decide),zdX (by simp;omega),sb,zdX (by simp;omega),sb,xz,zon _ a4 (by omega) w0 (by simp;omega),sb,zdX (by simp;omega),sb,zdX (by simp;omega),sb,xz,zon _ a4 (by omega) w0 (by simp;omega),sb,
      zkl (zrA ha f23),zkl (zrA ha fxy),e]
     simp only;rw [itT (by decide),zzE,sb,itT (by simp),sb,uk];congr 1;exact xK (by omega)
    ·rw [zpY h3,itT (by rw [zFi c3];simp [h3])]
   ·rw [zpY h2,itT (by rw [zFi c2];simp [h2])]
theorem ws18 {s:List Mes} (w:s.length*40<=140737488351232/\∀m∈s,zgT m):WS s:=
 ⟨by omega,fun m hm=>⟨(w.2 m hm).1,by have:=(w.2 m hm).2.1;omega,fun f hf=>((w.2 m hm).2.2 f hf).1⟩⟩
theorem zqz (a0:(List zg)) (a1:Int) (a2:(List UInt8)) (a3:(List UInt8)) (a4:Int) (w0:a0.length*40<=140737488351232/\∀a0'∈a0,zgT a0') (w1:(Lit.int .i64 a1).wf=true) (w2:a2.length*1<=140737488351232/\∀a2'∈a2,True) (w3:a3.length*1<=140737488351232/\∀a3'∈a3,True) (w4:(Lit.int .i64 a4).wf=true):∃fuel,zbu fuel a0 a1 a2 a3 a4=some true:=
 ⟨20000,zqy a0 a1 a2 a3 a4 (ws18 w0) (by omega) (by omega) (xr _)⟩
end Go.Proofs.YtaglemhabeipfaaGreat
