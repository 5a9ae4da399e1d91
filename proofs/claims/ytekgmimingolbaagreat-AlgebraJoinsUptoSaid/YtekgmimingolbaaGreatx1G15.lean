/-
  The Go functions do what the plain functions say. No condition.
-/
import Derived.Test.YtekgmimingolbaaGreatx1G14
set_option autoImplicit true
set_option relaxedAutoImplicit true
namespace Go.Proofs.YtekgmimingolbaaGreat
open Go Go.RowKit
set_option linter.unusedVariables false
set_option maxRecDepth 100000
set_option maxHeartbeats 3200000
theorem zus (h:zjI vf sv ve x m=some r):FnOk Tryz.prog 19 [.sl zj [0] sv,kI ve,.rc zd [0] x,.rc zqy [0] m] [.ag (zo 3 [4,5,0,6,7,8,9,10,11] 12 [] r.1),k8 r.2]:=by
 refine zy (E:=⟨[(8,.ptr 2 0),(9,k8 r.2)],[⟨2,27,(zo 3 [4,5,0,6,7,8,9,10,11] 12 [] r.1)⟩]⟩) 17 Tryz.func19 rfl rfl rfl ⟨⟨_,_,rfl,rfl,rfl,⟨Tryz.isAgg27,Tryz.sizeOf27⟩⟩,rfl,trivial⟩ (fun Xt=>?_);refine zm ?_;unfold zjI at h;refine jr (ra 0 [.rc zd [0] x] rfl (zbc 25 (zh [0] x) [0] rfl rfl rfl (by rw [zk]<;>rfl) rfl) rfl (ra 0 [.rc zqy [0] m] rfl (zbc 26 [.sl kq [0] m.Ways] [0] rfl rfl rfl rfl rfl) rfl (rfl' [27]))) (jb h fun rv uZ h=>jr (rc 4 rfl (zA.le (ins':=[(.tmp 10,.sl zj [0] sv),(.tmp 11,kI ve),(.tmp 12,.ag (zh [0] x)),(.tmp 13,.ag [.sl kq [0] m.Ways]),(.const (.bool false),kB false)]) (zQ (args:=[.tmp 10,.tmp 11,.tmp 12,.tmp 13,.const (.bool false)]) [.sl zj [0] sv,kI ve,.rc zd [0] x,.rc zqy [0] m,kB false] [0] 26 rfl Tryz.call45 (zts uZ) rfl rfl rfl rfl rfl) ⟨⟨rfl,ky _⟩,⟨rfl,ky _⟩,⟨rfl,zM [0] x⟩,⟨rfl,zaE zqy [0] m [.sl kq [0] m.Ways] rfl rfl⟩,⟨rfl,ky _⟩,trivial⟩) rf) ?_);cases h;exact zw (lk [8,9] [27] 27 2 (lk [8,9] [2] 29 3 (lk [8,9] [2] 38 12 (lk [8,9] [2] 30 11 (lk [8,9] [2] 31 11 (lk [8,9] [2] 32 11 (lk [8,9] [2] 33 11 (lk [8,9] [2] 34 11 (lk [8,9] [2] 35 11 (lk [8,9] [2] 36 11 (lk [8,9] [2] 37 11 (lq ⟨[(8,.ptr 2 0),(9,k8 rv.2)],[⟨2,27,(zo 3 [11,11,0,11,11,11,11,11,11] 12 [] rv.1)⟩]⟩ (zaN 2 0 (.own zb 57 3 [4,5,0,6,7,8,9,10,11] ((rv.1,rv.2):(zc×Int)).1.Values) rfl rfl (zdz _ _ _ _ _ _ rfl rfl) lzz)))))))))))))
end Go.Proofs.YtekgmimingolbaaGreat
