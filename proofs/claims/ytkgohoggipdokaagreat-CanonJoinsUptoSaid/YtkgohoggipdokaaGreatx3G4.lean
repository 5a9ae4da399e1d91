/-
  The Go functions do what the plain functions say. No condition.
-/
import Derived.Test.YtkgohoggipdokaaGreatx3G3
set_option autoImplicit true
set_option relaxedAutoImplicit true
namespace Go.Proofs.YtkgohoggipdokaaGreat
open Tryz
open Go Go.RowKit
set_option linter.unusedVariables false
set_option maxRecDepth 100000
set_option maxHeartbeats 3200000
theorem zpv (h:zfy c uI f=some r):zjt prog 120 [.ag [kI c.size,.sl wj [0] c.kinds,.om zU Rp.bool 2 [0] c.names,.om zV Rp.bool 3 [0] c.numbers],kI uI,.rc zf [0] f] [kI r.1] [.ag [.any,.any,.om zU Rp.bool 2 [0] r.2.1,.om zV Rp.bool 3 [0] r.2.2],.any,.any]:=by
 refine zlK (E:=⟨[(0,.ag [.any,.any,.om zU Rp.bool 2 [0] r.2.1,.om zV Rp.bool 3 [0] r.2.2]),(6,kI r.1)],[]⟩) 63 [0] func120 rfl rfl rfl ⟨rfl,trivial⟩ ⟨.inr ⟨rfl,rfl⟩,.inl rfl,.inl rfl,trivial⟩ rfl (fun Xt old=>?_);refine zcm ?_;unfold zfy at h;refine jq [11,12] (jd [0,3,5,7,8] [11,12,13,14] zeY (by exact (lwn 3 (lx (zaw (r:=zU) [kI uI,kS f.Name] [] (⟨uI,f.Name⟩:zw) rfl zKc rfl rfl) (lwn 3 (lx (zaw (r:=zV) [kI uI,kI f.Number] [] (⟨uI,f.Number⟩:zx) rfl zNk rfl rfl) (lx (znS 13 [kI 0,kS []] rfl zeroValue233 rfl) (lx (znS 14 [kI 0,kI 0] rfl zeroValue235 rfl) (ly [.ptr 13 0,.rc zU [] (⟨uI,f.Name⟩:zw)] (zfe (r:=zU) (b:=⟨13,233,[kI 0,kS []]⟩) (off:=0) [kI uI,kS f.Name] rfl sizeOf233 rfl rfl rfl rfl) rfl (ly [.ptr 14 0,.rc zV [] (⟨uI,f.Number⟩:zx)] (zfe (r:=zV) (b:=⟨14,235,[kI 0,kI 0]⟩) (off:=0) [kI uI,kI f.Number] rfl sizeOf235 rfl rfl rfl rfl) rfl l0))))))))) (zp (jb h fun rv uF h=>jr (rl 2 [1] 13 call156 (zog uF) rf) (jI h ?_ ?_))))<;>intro uE h
 ·refine jp ?_;cases h;exact zha lw
 refine jr (lb 2 zU [] (⟨uI,f.Name⟩:zw) (ra 0 [.om zU Rp.bool 2 [0] c.names,.rc zU [] (⟨uI,f.Name⟩:zw)] rfl (zxp (rk:=zU) (rv:=Rp.bool) (m:=c.names) (k:=(⟨uI,f.Name⟩:zw)) (kB ((mget c.names (⟨uI,f.Name⟩:zw)).getD false)) rfl zwe (zdf rfl) (zAL rfl rfl rfl)) rfl rf)) (jI h ?_ ?_)<;>intro uH h
 ·refine jp ?_;cases h;exact zha lw
 refine jb h fun wu uK h=>jr (rl 2 [1] 13 call157 (zsm uK) rf) (jI h ?_ ?_)<;>intro uJ h
 ·refine jp ?_;cases h;exact zha lw
 refine jr (lb 2 zV [] (⟨uI,f.Number⟩:zx) (ra 0 [.om zV Rp.bool 3 [0] c.numbers,.rc zV [] (⟨uI,f.Number⟩:zx)] rfl (zxp (rk:=zV) (rv:=Rp.bool) (m:=c.numbers) (k:=(⟨uI,f.Number⟩:zx)) (kB ((mget c.numbers (⟨uI,f.Number⟩:zx)).getD false)) rfl zGd (zdf rfl) (zAL rfl rfl rfl)) rfl rf)) (jI h ?_ ?_)<;>intro uO h
 ·refine jp ?_;cases h;exact zha lw
 refine jb h fun wy uP h=>jr (rl 4 [0] 13 call158 (zla uP) rf) (jI h ?_ ?_)<;>intro uW h
 ·refine jp ?_;cases h;exact zha lw
 refine jb h fun g uG h=>jg [0,3,5,7,8] [11,12,13,14] [(44,kB g)] ?_ ?_
 ·refine (rsI 3 47 uG ?_ ?_)<;>intro u0 uG
  ·refine jb uG fun wM u9 uG=>?_;cases uG;exact (lb 0 zf [] f (rl 0 [1] 13 call159 (zts u9) (rel [] lzz)))
  cases uG;exact (rel [] lzz)
 refine jI h ?_ ?_<;>intro vb h
 ·refine jp ?_;cases h;exact zha lw
 refine jb h fun rv5 vd h=>jr (lb 1 zf [] f (rl 0 [0,2,3] 13 call160 (zpw vd) rf)) (jI h ?_ ?_)<;>intro vg h
 ·refine jp ?_;cases h;exact zha lw
 refine zan (jr (lb 2 zU [] (⟨uI,f.Name⟩:zw) (rms (C1:=[]) 0 [] 2 [0] c.names (⟨uI,f.Name⟩:zw) true [0] zwe (zdf rfl) (zdE rfl rfl) rf)) (jr (lb 2 zV [] (⟨uI,f.Number⟩:zx) (rms (C1:=[]) 0 [] 3 [0] c.numbers (⟨uI,f.Number⟩:zx) true [0] zGd (zdf rfl) (zdE rfl rfl) rf)) (jp ?_)));cases h;exact zha lw
theorem ztI (h:zkx b=some r):wo 145 [.sl Rp.byte [0] b] [kB r]:=by
 refine fi 8 func145 fun Xt=>?_
 unfold zkx at h;refine jp (jb h fun rv uF h=>jr (rl 1 [0] 9 call175 (zBI uF) rf) ?_);cases h;exact zB lzz
theorem ztD (h:zhN m text=some r):wo 142 [.rc zj [0] m,kS text] [kB r]:=by
 refine fi 33 func142 fun Xt=>?_
 unfold zhN at h;refine jr (ra 0 [.rc zj [0] m] rfl (zij 11 (zag [0] m) [0] rfl rfl rfl rfl rfl) rfl rf) (jb h fun v uS h=>jb h fun rv uF h=>jr (ra 1 [kS text] rfl (zwd 12 rfl underlying9 underlying35 underlying5 uS) rfl (rl 0 [12] 11 call164 (zmu uF) (rfl' [13]))) (jg [2,5] [11,13] [(23,kB ((rv.2 !=0)|| (rv.1.To !=(text.length:Int))))] ?_ ?_))
 ·refine (rsl 3 [] 17 (rv.2 !=0) ?_ ?_)<;>intro uE
  · exact (rbl [] 23 true rfl (by grind))
  exact (rbl [] 23 (rv.1.To !=(text.length:Int)) rfl (by grind))
 refine jI h ?_ ?_<;>intro uH h
 ·refine jp ?_;obtain rfl:=(sj h);exact zB lzz
 refine jb h fun wu uK h=>jr (rl 3 [0] 12 call64 (zgT uK) rf) ?_;cases h;exact jz
theorem ztr (h:zlR k=some r):wo 147 [kI k] [kI r]:=by
 refine fi 5 func147 fun Xt=>?_
 unfold zlR at h;refine jp (jb h fun rv uF h=>jr (rl 1 [1] 9 call149 (zqr uF) rf) ?_);obtain rfl:=(sj h);exact zB lzz
theorem zrK (h:zkp b uZ wire value=some r):wo 116 [.sl Rp.byte [0] b,kI uZ,kI wire,.sl Rp.byte [0] value] [.own Rp.byte 5 2 [] r.1,k8 r.2]:=by
 refine fi 39 func116 fun Xt=>?_
 unfold zkp at h;refine jp (jb h fun rv uF h=>jr (rc 2 rfl (zaw (r:=zcD) [kI uZ,kI wire] [] (⟨uZ,wire⟩:zaA) rfl zBz rfl rfl) (rl 0 [1] 13 call150 (FnOk.le (ins':=[kN,.rc zcD [0] (⟨uZ,wire⟩:zaA)]) (zFf uF) ⟨zgx _ _,ws _,trivial⟩) rf)) (jb h fun g uG h=>jg [0,2,3,10] [] [(26,kB g)] ?_ ?_))
 ·refine (rsI 3 21 uG ?_ ?_)<;>intro uE uG
  ·cases uG;exact rgg
  refine jb uG fun wu uK uG=>?_;cases uG;exact (rl 2 [0] 14 call151 (zxP uK) rgg)
 refine jI h ?_ ?_<;>intro uH h
 ·refine jp ?_;cases h;exact zB lw
 refine jp (jI h ?_ ?_)<;>intro uJ h
 ·refine jb h fun wy uP h=>jr (rl 4 [15] 14 call152 (znx uP) rf) (jb h fun wM u9 h=>jr (rc 3 rfl (zfI [.sl Rp.byte [0] b,.own Rp.byte 5 16 [] wy,.sl Rp.byte [0] value] 17 [0,16] ([b,wy,value]:(List (List UInt8))) rfl zot rfl rfl rfl rfl) (rl 0 [17,0,16] 16 call66 (zcp u9) rf)) ?_);cases h;exact zB (lks [] [(18,2)] lzz)
 refine jb h fun rv5 vd h=>jr (rc 3 rfl (zfI [.sl Rp.byte [0] b,.own Rp.byte 5 15 [] rv.1,.sl Rp.byte [0] value] 19 [0,15] ([b,rv.1,value]:(List (List UInt8))) rfl zot rfl rfl rfl rfl) (rl 0 [19,0,15] 18 call66 (zcp vd) rf)) ?_;cases h;exact zB (lks [] [(20,2)] lzz)
theorem zyJ (h:zmb k=some r):wo 115 [kI k] [kI r]:=by
 refine fi 9 func115 fun Xt=>?_
 unfold zmb at h;refine jp (jb h fun rv uF h=>jr (rl 1 [1] 9 call149 (zqr uF) rf) (zp (jp (jI h ?_ ?_))))<;>intro uE h
 ·cases h;exact jz
 refine jp (jI h ?_ ?_)<;>intro uH h
 ·cases h;exact jz
 refine zan ?_;cases h;exact jz
theorem zyt (h:zjl m hv=some r):wo 165 [.rc zj [0] m,.rc zau [0] hv] [.rc zaz [] r]:=by
 refine fj ⟨[(4,.ptr 2 0)],[⟨2,245,(zwL r)⟩]⟩ 38 func165 ⟨⟨_,_,rfl,rfl,rfl,rfl,zMy⟩,trivial⟩ fun Xt=>?_
 unfold zjl at h;refine jr (ra 0 [.rc zj [0] m] rfl (zij 14 (zag [0] m) [0] rfl rfl rfl rfl rfl) rfl (rfl' [15,16])) (jb h fun rv uF h=>jr (rl 3 [0] 15 call194 (zyW uF) rf) (jp (jI h ?_ ?_)))<;>intro uE h
 ·refine jr (rc 0 rfl (zaw (r:=zaz) [kI (-1)] [] (⟨(-1),false,0⟩:zaf) rfl zFe rfl rfl) rf) ?_;cases h;exact zB (lks [16] [(16,2)] lzz)
 refine jb h fun x uN h=>jr (rx 3 [0] zqJ.el uN rfl rfl (rc 0 rfl (lde zf [0] x zpE) (rfl' [17]))) (jb h fun wu uK h=>jr (lb 0 zf [] x (rl 2 [1] 16 call195 (zyX uK) rf)) (jb h fun g uG h=>jg [4,5,7] [16] [(33,kB g)] ?_ ?_))
 ·refine (rsI 3 26 uG ?_ ?_)<;>intro uH uG
  ·refine jb uG fun wy uP uG=>?_;cases uG;exact (rl 4 [1] 16 call196 (zBK uP) (rel [] lzz))
  cases uG;exact (rel [] lzz)
 refine jI h ?_ ?_<;>intro uJ h
 ·refine jr (rc 0 rfl (zaw (r:=zaz) [k8 6] [] (⟨0,false,6⟩:zaf) rfl zFe rfl rfl) rf) ?_;cases h;exact zB (lks [16] [(16,2)] lzz)
 refine jr (rc 2 rfl (zaw (r:=zaz) [kI rv,kB wu] [] (⟨rv,wu,0⟩:zaf) rfl zFe rfl rfl) rf) ?_;cases h;exact zB (lks [16] [(16,2)] lzz)
theorem ztS (h:zis m uZ=some r):wo 102 [.rc zj [0] m,kI uZ] [.rc zf [] r]:=by
 refine fj ⟨[(4,.ptr 2 0)],[⟨2,47,(zbi r)⟩]⟩ 18 func102 ⟨⟨_,_,rfl,rfl,rfl,rfl,zpE⟩,trivial⟩ fun Xt=>?_
 unfold zis at h;refine jr (ra 0 [.rc zj [0] m] rfl (zij 13 (zag [0] m) [0] rfl rfl rfl rfl rfl) rfl (rfl' [14])) (jb h fun rv uF h=>jr (rl 2 [0] 13 call64 (zgT uF) rf) (jb h fun x uN h=>jr (rx 3 [0] zqJ.el uN rfl rfl (rc 0 rfl (lde zf [0] x zpE) rf)) ?_));obtain rfl:=(sj h);exact zB (lks [14] [(14,2)] lzz)
end Go.Proofs.YtkgohoggipdokaaGreat
