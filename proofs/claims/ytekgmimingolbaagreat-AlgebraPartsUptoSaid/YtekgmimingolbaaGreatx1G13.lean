/-
  The Go functions do what the plain functions say. No condition.
-/
import Derived.Test.YtekgmimingolbaaGreatx1G12
import Derived.Test.YtekgmimingolbaaGreatx1Y
set_option autoImplicit true
set_option relaxedAutoImplicit true
namespace Go.Proofs.YtekgmimingolbaaGreat
open Go Go.RowKit
set_option linter.unusedVariables false
set_option maxRecDepth 100000
set_option maxHeartbeats 3200000
theorem zxs (h:zmG sv uK d=some r):FnOk Tryz.prog 63 [.sl zh [0] sv,kI uK,kI d] [k8 r]:=by
 refine zu (E:=⟨[(6,k8 r)],[]⟩) 28 Tryz.func63 rfl rfl rfl ⟨rfl,trivial⟩ (fun Xt=>?_);refine zj ?_;unfold zmG at h;refine jp (zq ?_);obtain ⟨rv,uF,h⟩:=bnd h;refine jr (rl 1 [0] 9 Tryz.call77 (zpv uF) rf) (jI h (fun uC h=>?_) fun uC h=>?_)
 ·refine jp ?_;cases h;exact zt lzz
 refine zO ⟨[(11,kB ((decide (uK<0))|| ((decide (uK>=(sv.length:Int)))|| ((decide (d<0))|| (decide (d>64))))))],[]⟩ ?_ ?_
 ·refine (rsl 3 [] 14 (decide (uK<0)) (fun uD=>?_) (fun uD=>?_))
  · exact (rbl [] 11 true rfl (by rw [uD]<;>rfl))
  refine (rsl 6 [] 20 (decide (uK>=(sv.length:Int))) (fun uE=>?_) (fun uE=>?_))
  · exact (rbl [] 11 true rfl (by rw [uD,uE]<;>rfl))
  refine (rsl 4 [] 24 (decide (d<0)) (fun uI=>?_) (fun uI=>?_))
  · exact (rbl [] 11 true rfl (by rw [uD,uE,uI]<;>rfl))
  exact (rbl [] 11 (decide (d>64)) rfl (by rw [uD,uE,uI]<;>rfl))
 refine jI h (fun uL h=>?_) fun uL h=>?_
 ·refine jp ?_;cases h;exact zt lzz
 refine zQ (jp ?_);cases h;exact zt lzz
theorem zxp (h:zkM uO sv uK x=some r):FnOk Tryz.prog 31 [.sl zh [0] sv,kI uK,.rc zd [0] x] [kB r]:=by
 refine zu (E:=⟨[(6,kB r)],[]⟩) 21 Tryz.func31 rfl rfl rfl ⟨rfl,trivial⟩ (fun Xt=>?_);refine zj ?_;unfold zkM at h;refine jr (ra 0 [.rc zd [0] x] rfl (zbL 11 [.sl za [0] x.Values,.sl Rp.str [0] x.Unknown] [0] rfl rfl rfl (by rw [zi]<;>rfl) rfl) rfl rf) ?_;obtain ⟨g,uB,h⟩:=bnd h;refine zO ⟨[(6,kB g)],[]⟩ ?_ ?_
 ·obtain ⟨rv,uF,uB⟩:=bnd uB;refine (rl 2 [0] 10 Tryz.call63 (zxs uF) (rsl 2 [] 11 (rv==0) (fun uC=>?_) (fun uC=>?_)))
  ·replace uB:=iteT uB uC;obtain ⟨rv2,uQ,uB⟩:=bnd uB;refine (rc 1 rfl (zx.le (ins':=[(.tmp 12,.ag [.sl za [0] x.Values,.sl Rp.str [0] x.Unknown])]) (zR (args:=[.tmp 12]) [.rc zd [0] x] [0] 10 rfl Tryz.call64 (zts uQ) rfl rfl rfl rfl rfl) ⟨⟨rfl,zT zd [0] x [.sl za [0] x.Values,.sl Rp.str [0] x.Unknown] (by rw [zi]<;>rfl) rfl⟩,trivial⟩) (rsl 2 [] 15 rv2 (fun uD=>?_) (fun uD=>?_)))
   ·replace uB:=iteT uB uD;obtain ⟨rv3,uT,uB⟩:=bnd uB;cases uB;exact (rc 3 rfl (zx.le (ins':=[(.tmp 16,.sl zh [0] sv),(.tmp 17,kI uK),(.tmp 18,.ag [.sl za [0] x.Values,.sl Rp.str [0] x.Unknown])]) (zR (args:=[.tmp 16,.tmp 17,.tmp 18]) [.sl zh [0] sv,kI uK,.rc zd [0] x] [0] 10 rfl Tryz.call65 (ztt uT) rfl rfl rfl rfl rfl) ⟨⟨rfl,AV.le_refl _⟩,⟨rfl,AV.le_refl _⟩,⟨rfl,zT zd [0] x [.sl za [0] x.Values,.sl Rp.str [0] x.Unknown] (by rw [zi]<;>rfl) rfl⟩,trivial⟩) rgg)
   replace uB:=iteF uB uD;cases uB;exact rgg
  replace uB:=iteF uB uC;cases uB;exact rgg
 obtain rfl:=(sj h);exact zt lzz
theorem zsD (h:ziw uO x v v2=some r):FnOk Tryz.prog 76 [.rc zd [0] x,.ep (Rp.list zh) [0] v 0,.ep (Rp.int .i64) [0] v2 0] [kB r]:=by
 refine zu (E:=⟨[(4,kB r)],[]⟩) 10 Tryz.func76 rfl rfl rfl ⟨rfl,trivial⟩ (fun Xt=>?_);refine zj ?_;unfold ziw at h;refine jr (ra 0 [.rc zd [0] x] rfl (zbL 11 [.sl za [0] x.Values,.sl Rp.str [0] x.Unknown] [0] rfl rfl rfl (by rw [zi]<;>rfl) rfl) rfl rf) ?_;obtain ⟨rv,uF,h⟩:=bnd h;refine jr (ra 0 [.ep (Rp.list zh) [0] v 0] rfl (zbv zh v rfl rfl rfl) rfl (rc 2 rfl (zx.le (ins':=[(.tmp 5,.sl zh [0] v),(.tmp 6,kI v2),(.tmp 7,.ag [.sl za [0] x.Values,.sl Rp.str [0] x.Unknown])]) (zR (args:=[.tmp 5,.tmp 6,.tmp 7]) [.sl zh [0] v,kI v2,.rc zd [0] x] [0] 10 rfl Tryz.call31 (zxp uF) rfl rfl rfl rfl rfl) ⟨⟨rfl,AV.le_refl _⟩,⟨rfl,AV.le_refl _⟩,⟨rfl,zT zd [0] x [.sl za [0] x.Values,.sl Rp.str [0] x.Unknown] (by rw [zi]<;>rfl) rfl⟩,trivial⟩) rf)) ?_;cases h;exact zt lzz
end Go.Proofs.YtekgmimingolbaaGreat
