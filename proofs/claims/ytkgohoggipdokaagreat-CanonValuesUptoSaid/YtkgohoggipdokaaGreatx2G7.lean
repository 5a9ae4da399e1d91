/-
  The Go functions do what the plain functions say. No condition.
-/
import Derived.Test.YtkgohoggipdokaaGreatx2G6
import Derived.Test.YtkgohoggipdokaaGreatx2Y
set_option autoImplicit true
set_option relaxedAutoImplicit true
namespace Go.Proofs.YtkgohoggipdokaaGreat
open Tryz
open Go Go.RowKit
set_option linter.unusedVariables false
set_option maxRecDepth 100000
set_option maxHeartbeats 3200000
theorem zuK (h:ziy ug sv uo x=some r):vT 63 [.sl zh [0] sv,kI uo,.rc zi [0] x] [kB r]:=by
 refine fi 21 func63 fun Xt=>?_
 unfold ziy at h;refine jr (rc 0 rfl (lbx 11 [0] (zaM [0] x)) rf) (jb h fun g pW h=>jg [] [] [(6,kB g)] ?_ ?_)
 ·refine jb pW fun rv pY pW=>(rl 2 [0] 10 call105 (zuN pY) (rsI 2 11 pW ?_ ?_))<;>intro pV pW
  ·refine jb pW fun vV ud pW=>(rc 1 rfl (lw0 10 call58 (zqH ud) (.l (zbh [0] x))) (rsI 2 15 pW ?_ ?_))<;>intro pX pW
   ·refine jb pW fun v8 uj pW=>?_;cases pW;exact (rc 3 rfl (lw0 10 call106 (zqI uj) (.k (.k (.l (zbh [0] x))))) rgg)
   cases pW;exact rgg
  cases pW;exact rgg
 obtain rfl:=(sj h);exact zz lzz
theorem zsP (h:ziJ ug sv f v=some r):vT 18 [.sl zh [0] sv,.rc zd [0] f,.rc zf [0] v] [.own Rp.byte 5 2 [] r.1,k8 r.2]:=by
 refine fi 33 func18 fun Xt=>?_
 unfold ziJ at h;refine jr (ral 1 [17] [.rc zf [0] v] rfl (zhl 18 (zB [0] v) [0] rfl rfl rfl (by rw [zt]<;>rfl) rfl) rfl rf) (zm (jb h fun g pW h=>jg [0,4,5] [17,18] [(9,kB g)] ?_ ?_))
 ·refine (rsI 4 13 pW ?_ ?_)<;>intro pV pW
  ·refine (rsI 5 18 pW ?_ ?_)<;>intro pX pW
   ·refine jb pW fun rv pY pW=>?_;cases pW;exact (lb 0 zd [] f (rc 2 rfl (lcz [.rc zd [] f,.sl zh [0] sv,.ag (zB [0] v)] 17 call36 (zwV pY) (.k (.k (.c (zt _) .n)))) (rel [] lzz)))
   cases pW;exact (rel [] lzz)
  cases pW;exact (rel [] lzz)
 refine jI h ?_ ?_<;>intro pZ h
 ·refine jq [19] (jb h fun vV ud h=>jr (lb 1 zd [] f (rc 1 rfl (zv.le (ins':=[(.tmp 8,.ptr 19 0),(.tmp 24,.sl zh [0] sv),(.tmp 25,.rc zd [] f),(.tmp 26,.ag (zB [0] v))]) (zv.leB (bx2:=[⟨19,76,[kN,kI 0]⟩]) (zgh (args:=[.tmp 8,.tmp 24,.tmp 25,.tmp 26]) [.ptr 19 0,.sl zh [0] sv,.rc zd [] f,.rc zf [0] v] [⟨19,76,[.own (Rp.list Rp.byte) 35 20 [] [],kI 0]⟩] [(19,800000),(20,800001)] [0] 19 [20] rfl call37 (zmY ud) rfl rfl rfl rfl rfl rfl rfl rfl) ⟨⟨rfl,rfl,⟨zpq (Rp.list Rp.byte) 35 20 [] rfl,vU _,trivial⟩⟩,trivial⟩) ⟨⟨rfl,vU _⟩,⟨rfl,vU _⟩,⟨rfl,vU _⟩,⟨rfl,zam [0] v⟩,trivial⟩) rf)) (jb h fun v8 uj h=>jr (rc 0 rfl (zv.conv (ins:=[(.tmp 8,.ptr 19 0)]) (zv.boxes (bxs:=[⟨19,76,(zj 20 [0,21] vV)⟩]) (lcd (args:=[.tmp 8]) [.qp zfv [19,20,0,21] (some vV)] 20 call32 (zib uj))) ⟨⟨rfl,zFm zfv [19,20,0,21] vV ⟨19,76,(zj 20 [0,21] vV)⟩ xy rfl rfl⟩,trivial⟩) rf) ?_));cases h;exact zz (lks [] [(22,2)] lzz)
 refine jb h fun rv4 uA h=>jr (rl 1 [0] 21 call38 (zhj uA) rf) (jI h ?_ ?_)<;>intro p9 h
 ·refine jp ?_;cases h;exact zz lw
 refine zS (jp ?_);cases h;exact zz lw
theorem zux (h:zjS ug sv uo x=some r):vT 30 [.sl zh [0] sv,kI uo,.rc zi [0] x] [k8 r]:=by
 refine fi 25 func30 fun Xt=>?_
 unfold zjS at h;refine jr (rc 0 rfl (lbx 11 [0] (zaM [0] x)) rf) (zm (jb h fun rv pY h=>jr (rc 3 rfl (lw0 10 call63 (zuK pY) (.k (.k (.l (zbh [0] x))))) rf) (jI h ?_ ?_)))<;>intro pV h
 ·cases h;exact jz
 refine jb h fun vV ud h=>jr (rl 1 [0] 10 call38 (zhj ud) rf) (jI h ?_ ?_)<;>intro pX h
 ·cases h;exact jz
 refine jg [] [] [(16,kB ((decide (uo<0))|| (decide (uo>=(sv.length:Int)))))] ?_ ?_
 ·refine (rsl 3 [] 19 (decide (uo<0)) ?_ ?_)<;>intro pZ
  · exact (rbl [] 16 true rfl (by grind))
  exact (rbl [] 16 (decide (uo>=(sv.length:Int))) rfl (by grind))
 refine jI h ?_ ?_<;>intro p9 h
 ·cases h;exact jz
 refine zS ?_;cases h;exact jz
end Go.Proofs.YtkgohoggipdokaaGreat
