/-
  The Go functions do what the plain functions say. No condition.
-/
import Derived.Test.YtekgmimingolbaaGreatx2G12
import Derived.Test.YtekgmimingolbaaGreatx2Y
set_option autoImplicit true
set_option relaxedAutoImplicit true
namespace Go.Proofs.YtekgmimingolbaaGreat
open Go Go.RowKit
set_option linter.unusedVariables false
set_option maxRecDepth 100000
set_option maxHeartbeats 3200000
theorem zuN (h:zkZ sv uG d=some r):FnOk Tryz.prog 63 [.sl zi [0] sv,kI uG,kI d] [k8 r]:=by
 refine zz (E:=⟨[(6,k8 r)],[]⟩) 28 Tryz.func63 rfl rfl rfl ⟨rfl,trivial⟩ (fun Xt=>?_);refine zq ?_;unfold zkZ at h;refine jp (zB (jb h fun rv uC h=>jr (rl 1 [0] 9 Tryz.call77 (znj uC) rf) (jI h (fun uA h=>?_) fun uA h=>?_)))
 ·refine jp ?_;cases h;exact zA lzz
 refine zaG ⟨[(11,kB ((decide (uG<0))|| ((decide (uG>=(sv.length:Int)))|| ((decide (d<0))|| (decide (d>64))))))],[]⟩ ?_ ?_
 ·refine (rsl 3 [] 14 (decide (uG<0)) (fun uB=>?_) (fun uB=>?_))
  · exact (rbl [] 11 true rfl (by rw [uB]<;>rfl))
  refine (rsl 6 [] 20 (decide (uG>=(sv.length:Int))) (fun uE=>?_) (fun uE=>?_))
  · exact (rbl [] 11 true rfl (by rw [uB,uE]<;>rfl))
  refine (rsl 4 [] 24 (decide (d<0)) (fun uK=>?_) (fun uK=>?_))
  · exact (rbl [] 11 true rfl (by rw [uB,uE,uK]<;>rfl))
  exact (rbl [] 11 (decide (d>64)) rfl (by rw [uB,uE,uK]<;>rfl))
 refine jI h (fun uN h=>?_) fun uN h=>?_
 ·refine jp ?_;cases h;exact zA lzz
 refine zas (jp ?_);cases h;exact zA lzz
theorem zcP (h:zeq uH sv uG x=some r):FnOk Tryz.prog 31 [.sl zi [0] sv,kI uG,.rc zd [0] x] [kB r]:=by
 refine zz (E:=⟨[(6,kB r)],[]⟩) 21 Tryz.func31 rfl rfl rfl ⟨rfl,trivial⟩ (fun Xt=>?_);refine zq ?_;unfold zeq at h;refine jr (ra 0 [.rc zd [0] x] rfl (zbw 11 (zj [0] x) [0] rfl rfl rfl (by rw [zn]<;>rfl) rfl) rfl rf) (jb h fun g uz h=>zaG ⟨[(6,kB g)],[]⟩ ?_ ?_)
 ·refine jb uz fun rv uC uz=>(rl 2 [0] 10 Tryz.call63 (zuN uC) (rsl 2 [] 11 (rv==0) (fun uA=>?_) (fun uA=>?_)))
  ·replace uz:=iteT uz uA;refine jb uz fun rv2 uJ uz=>(rc 1 rfl (zy.le (ins':=[(.tmp 12,.ag (zj [0] x))]) (zU (args:=[.tmp 12]) [.rc zd [0] x] [0] 10 rfl Tryz.call64 (zkq uJ) rfl rfl rfl rfl rfl) ⟨⟨rfl,zx [0] x⟩,trivial⟩) (rsl 2 [] 15 rv2 (fun uB=>?_) (fun uB=>?_)))
   ·replace uz:=iteT uz uB;refine jb uz fun rv3 uO uz=>?_;cases uz;exact (rc 3 rfl (zy.le (ins':=[(.tmp 16,.sl zi [0] sv),(.tmp 17,kI uG),(.tmp 18,.ag (zj [0] x))]) (zU (args:=[.tmp 16,.tmp 17,.tmp 18]) [.sl zi [0] sv,kI uG,.rc zd [0] x] [0] 10 rfl Tryz.call65 (zqQ uO) rfl rfl rfl rfl rfl) ⟨⟨rfl,wC _⟩,⟨rfl,wC _⟩,⟨rfl,zx [0] x⟩,trivial⟩) rgg)
   replace uz:=iteF uz uB;cases uz;exact rgg
  replace uz:=iteF uz uA;cases uz;exact rgg
 obtain rfl:=(sj h);exact zA lzz
theorem zqf (h:zhd uH x v v2=some r):FnOk Tryz.prog 76 [.rc zd [0] x,.ep (Rp.list zi) [0] v 0,.ep wu [0] v2 0] [kB r]:=by
 refine zz (E:=⟨[(4,kB r)],[]⟩) 10 Tryz.func76 rfl rfl rfl ⟨rfl,trivial⟩ (fun Xt=>?_);refine zq ?_;unfold zhd at h;refine jr (ra 0 [.rc zd [0] x] rfl (zbw 11 (zj [0] x) [0] rfl rfl rfl (by rw [zn]<;>rfl) rfl) rfl rf) (jb h fun rv uC h=>jr (ra 0 [.ep (Rp.list zi) [0] v 0] rfl (zgf zi v rfl rfl rfl) rfl (rc 2 rfl (zy.le (ins':=[(.tmp 5,.sl zi [0] v),(.tmp 6,kI v2),(.tmp 7,.ag (zj [0] x))]) (zU (args:=[.tmp 5,.tmp 6,.tmp 7]) [.sl zi [0] v,kI v2,.rc zd [0] x] [0] 10 rfl Tryz.call31 (zcP uC) rfl rfl rfl rfl rfl) ⟨⟨rfl,wC _⟩,⟨rfl,wC _⟩,⟨rfl,zx [0] x⟩,trivial⟩) rf)) ?_);cases h;exact zA lzz
end Go.Proofs.YtekgmimingolbaaGreat
