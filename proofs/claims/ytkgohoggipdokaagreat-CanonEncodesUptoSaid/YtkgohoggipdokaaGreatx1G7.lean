/-
  The Go functions do what the plain functions say. No condition.
-/
import Derived.Test.YtkgohoggipdokaaGreatx1G6
import Derived.Test.YtkgohoggipdokaaGreatx1Y
set_option autoImplicit true
set_option relaxedAutoImplicit true
namespace Go.Proofs.YtkgohoggipdokaaGreat
open Go Go.RowKit
set_option linter.unusedVariables false
set_option maxRecDepth 100000
set_option maxHeartbeats 3200000
theorem zuP (h:ziD uh sv ui x=some r):vT 63 [.sl zi [0] sv,kI ui,.rc zh [0] x] [kB r]:=by
 refine fi 21 Tryz.func63 fun Xt=>?_
 unfold ziD at h;refine jr (rc 0 rfl (lbx 11 [0] (zas [0] x)) rf) (jb h fun g pW h=>jg [] [] [(6,kB g)] ?_ ?_)
 ·refine jb pW fun rv pY pW=>(rl 2 [0] 10 Tryz.call105 (zuS pY) (rsI 2 11 pW ?_ ?_))<;>intro pV pW
  ·refine jb pW fun vV ud pW=>(rc 1 rfl (lw0 10 Tryz.call58 (zxd ud) (.l (zZ [0] x))) (rsI 2 15 pW ?_ ?_))<;>intro pX pW
   ·refine jb pW fun wa ul pW=>?_;cases pW;exact (rc 3 rfl (lw0 10 Tryz.call106 (zqP ul) (.k (.k (.l (zZ [0] x))))) rgg)
   cases pW;exact rgg
  cases pW;exact rgg
 obtain rfl:=(sj h);exact zz lzz
theorem zpe (h:zim uh sv ui x=some r):vT 30 [.sl zi [0] sv,kI ui,.rc zh [0] x] [k8 r]:=by
 refine fi 25 Tryz.func30 fun Xt=>?_
 unfold zim at h;refine jr (rc 0 rfl (lbx 11 [0] (zas [0] x)) rf) (zm (jb h fun rv pY h=>jr (rc 3 rfl (lw0 10 Tryz.call63 (zuP pY) (.k (.k (.l (zZ [0] x))))) rf) (jI h ?_ ?_)))<;>intro pV h
 ·cases h;exact jz
 refine jb h fun vV ud h=>jr (rl 1 [0] 10 Tryz.call38 (zmY ud) rf) (jI h ?_ ?_)<;>intro pX h
 ·cases h;exact jz
 refine jg [] [] [(16,kB ((decide (ui<0))|| (decide (ui>=(sv.length:Int)))))] ?_ ?_
 ·refine (rsl 3 [] 19 (decide (ui<0)) ?_ ?_)<;>intro pZ
  · exact (rbl [] 16 true rfl (by grind))
  exact (rbl [] 16 (decide (ui>=(sv.length:Int))) rfl (by grind))
 refine jI h ?_ ?_<;>intro p9 h
 ·cases h;exact jz
 refine zS ?_;cases h;exact jz
end Go.Proofs.YtkgohoggipdokaaGreat
