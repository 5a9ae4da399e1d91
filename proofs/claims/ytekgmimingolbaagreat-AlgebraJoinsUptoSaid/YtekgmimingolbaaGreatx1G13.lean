/-
  The Go functions do what the plain functions say. No condition.
-/
import Derived.Test.YtekgmimingolbaaGreatx1G12
import Derived.Test.YtekgmimingolbaaGreatx1Y
set_option autoImplicit true
set_option relaxedAutoImplicit true
namespace Go.Proofs.YtekgmimingolbaaGreat
open Go Go.RowKit
set_option linter.unusedVariables false
set_option maxRecDepth 100000
set_option maxHeartbeats 3200000
theorem zyn (h:znc sv ve d=some r):FnOk Tryz.prog 63 [.sl zj [0] sv,kI ve,kI d] [k8 r]:=by
 refine zy (E:=⟨[(6,k8 r)],[]⟩) 28 Tryz.func63 rfl rfl rfl ⟨rfl,trivial⟩ (fun Xt=>?_);refine zm ?_;unfold znc at h;refine jp (zv (jb h fun rv uZ h=>jr (rl 1 [0] 9 Tryz.call77 (zpW uZ) rf) (jI h (fun uW h=>?_) fun uW h=>?_)))
 ·refine jp ?_;cases h;exact zw lzz
 refine zab ⟨[(11,kB ((decide (ve<0))|| ((decide (ve>=(sv.length:Int)))|| ((decide (d<0))|| (decide (d>64))))))],[]⟩ ?_ ?_
 ·refine (rsl 3 [] 14 (decide (ve<0)) (fun uY=>?_) (fun uY=>?_))
  · exact (rbl [] 11 true rfl (by rw [uY]<;>rfl))
  refine (rsl 6 [] 20 (decide (ve>=(sv.length:Int))) (fun u9=>?_) (fun u9=>?_))
  · exact (rbl [] 11 true rfl (by rw [uY,u9]<;>rfl))
  refine (rsl 4 [] 24 (decide (d<0)) (fun vd=>?_) (fun vd=>?_))
  · exact (rbl [] 11 true rfl (by rw [uY,u9,vd]<;>rfl))
  exact (rbl [] 11 (decide (d>64)) rfl (by rw [uY,u9,vd]<;>rfl))
 refine jI h (fun vh h=>?_) fun vh h=>?_
 ·refine jp ?_;cases h;exact zw lzz
 refine zX (jp ?_);cases h;exact zw lzz
theorem zyk (h:zlh vf sv ve x=some r):FnOk Tryz.prog 31 [.sl zj [0] sv,kI ve,.rc zd [0] x] [kB r]:=by
 refine zy (E:=⟨[(6,kB r)],[]⟩) 21 Tryz.func31 rfl rfl rfl ⟨rfl,trivial⟩ (fun Xt=>?_);refine zm ?_;unfold zlh at h;refine jr (ra 0 [.rc zd [0] x] rfl (zbc 11 (zh [0] x) [0] rfl rfl rfl (by rw [zk]<;>rfl) rfl) rfl rf) (jb h fun g uX h=>zab ⟨[(6,kB g)],[]⟩ ?_ ?_)
 ·refine jb uX fun rv uZ uX=>(rl 2 [0] 10 Tryz.call63 (zyn uZ) (rsl 2 [] 11 (rv==0) (fun uW=>?_) (fun uW=>?_)))
  ·replace uX:=iteT uX uW;refine jb uX fun rv2 vj uX=>(rc 1 rfl (zA.le (ins':=[(.tmp 12,.ag (zh [0] x))]) (zQ (args:=[.tmp 12]) [.rc zd [0] x] [0] 10 rfl Tryz.call64 (zpO vj) rfl rfl rfl rfl rfl) ⟨⟨rfl,zM [0] x⟩,trivial⟩) (rsl 2 [] 15 rv2 (fun uY=>?_) (fun uY=>?_)))
   ·replace uX:=iteT uX uY;refine jb uX fun rv3 vl uX=>?_;cases uX;exact (rc 3 rfl (zA.le (ins':=[(.tmp 16,.sl zj [0] sv),(.tmp 17,kI ve),(.tmp 18,.ag (zh [0] x))]) (zQ (args:=[.tmp 16,.tmp 17,.tmp 18]) [.sl zj [0] sv,kI ve,.rc zd [0] x] [0] 10 rfl Tryz.call65 (zui vl) rfl rfl rfl rfl rfl) ⟨⟨rfl,ky _⟩,⟨rfl,ky _⟩,⟨rfl,zM [0] x⟩,trivial⟩) rgg)
   replace uX:=iteF uX uY;cases uX;exact rgg
  replace uX:=iteF uX uW;cases uX;exact rgg
 obtain rfl:=(sj h);exact zw lzz
theorem ztr (h:ziN vf x v v2=some r):FnOk Tryz.prog 76 [.rc zd [0] x,.ep (Rp.list zj) [0] v 0,.ep kp [0] v2 0] [kB r]:=by
 refine zy (E:=⟨[(4,kB r)],[]⟩) 10 Tryz.func76 rfl rfl rfl ⟨rfl,trivial⟩ (fun Xt=>?_);refine zm ?_;unfold ziN at h;refine jr (ra 0 [.rc zd [0] x] rfl (zbc 11 (zh [0] x) [0] rfl rfl rfl (by rw [zk]<;>rfl) rfl) rfl rf) (jb h fun rv uZ h=>jr (ra 0 [.ep (Rp.list zj) [0] v 0] rfl (zgf zj v rfl rfl rfl) rfl (rc 2 rfl (zA.le (ins':=[(.tmp 5,.sl zj [0] v),(.tmp 6,kI v2),(.tmp 7,.ag (zh [0] x))]) (zQ (args:=[.tmp 5,.tmp 6,.tmp 7]) [.sl zj [0] v,kI v2,.rc zd [0] x] [0] 10 rfl Tryz.call31 (zyk uZ) rfl rfl rfl rfl rfl) ⟨⟨rfl,ky _⟩,⟨rfl,ky _⟩,⟨rfl,zM [0] x⟩,trivial⟩) rf)) ?_);cases h;exact zw lzz
end Go.Proofs.YtekgmimingolbaaGreat
