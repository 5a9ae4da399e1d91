/-
  The Go functions do what the plain functions say. No condition.
-/
import Derived.Test.YtkgohoggipdokaaGreatx2G3
set_option autoImplicit true
set_option relaxedAutoImplicit true
namespace Go.Proofs.YtkgohoggipdokaaGreat
open Tryz
open Go Go.RowKit
set_option linter.unusedVariables false
set_option maxRecDepth 100000
set_option maxHeartbeats 3200000
theorem zmV (h:zem c uw f=some r):zhu prog 120 [.ag [kI c.size,.sl vU [0] c.kinds,.om zM Rp.bool 2 [0] c.names,.om zN Rp.bool 3 [0] c.numbers],kI uw,.rc zf [0] f] [kI r.1] [.ag [.any,.any,.om zM Rp.bool 2 [0] r.2.1,.om zN Rp.bool 3 [0] r.2.2],.any,.any]:=by
 refine zjP (E:=⟨[(0,.ag [.any,.any,.om zM Rp.bool 2 [0] r.2.1,.om zN Rp.bool 3 [0] r.2.2]),(6,kI r.1)],[]⟩) 63 [0] func120 rfl rfl rfl ⟨rfl,trivial⟩ ⟨.inr ⟨rfl,rfl⟩,.inl rfl,.inl rfl,trivial⟩ rfl (fun Xt old=>?_);refine zbR ?_;unfold zem at h;refine jq [11,12] (jd [0,3,5,7,8] [11,12,13,14] zeY (by exact (lwn 3 (lx (zam (r:=zM) [kI uw,kS f.Name] [] (⟨uw,f.Name⟩:zt) rfl zGD rfl rfl) (lwn 3 (lx (zam (r:=zN) [kI uw,kI f.Number] [] (⟨uw,f.Number⟩:zu) rfl zJU rfl rfl) (lx (zqs 13 [kI 0,kS []] rfl zeroValue233 rfl) (lx (zqs 14 [kI 0,kI 0] rfl zeroValue235 rfl) (ly [.ptr 13 0,.rc zM [] (⟨uw,f.Name⟩:zt)] (zfW (r:=zM) (b:=⟨13,233,[kI 0,kS []]⟩) (off:=0) [kI uw,kS f.Name] rfl sizeOf233 rfl rfl rfl rfl) rfl (ly [.ptr 14 0,.rc zN [] (⟨uw,f.Number⟩:zu)] (zfW (r:=zN) (b:=⟨14,235,[kI 0,kI 0]⟩) (off:=0) [kI uw,kI f.Number] rfl sizeOf235 rfl rfl rfl rfl) rfl l0))))))))) (zw (jb h fun rv uu h=>jr (rl 2 [1] 13 call156 (zlX uu) rf) (jI h ?_ ?_))))<;>intro ur h
 ·refine jp ?_;cases h;exact zfG lw
 refine jr (lb 2 zM [] (⟨uw,f.Name⟩:zt) (ra 0 [.om zM Rp.bool 2 [0] c.names,.rc zM [] (⟨uw,f.Name⟩:zt)] rfl (zut (rk:=zM) (rv:=Rp.bool) (m:=c.names) (k:=(⟨uw,f.Name⟩:zt)) (kB ((mget c.names (⟨uw,f.Name⟩:zt)).getD false)) rfl zto (zcL rfl) (zxQ rfl rfl rfl)) rfl rf)) (jI h ?_ ?_)<;>intro uv h
 ·refine jp ?_;cases h;exact zfG lw
 refine jb h fun vY uz h=>jr (rl 2 [1] 13 call157 (zpH uz) rf) (jI h ?_ ?_)<;>intro uy h
 ·refine jp ?_;cases h;exact zfG lw
 refine jr (lb 2 zN [] (⟨uw,f.Number⟩:zu) (ra 0 [.om zN Rp.bool 3 [0] c.numbers,.rc zN [] (⟨uw,f.Number⟩:zu)] rfl (zut (rk:=zN) (rv:=Rp.bool) (m:=c.numbers) (k:=(⟨uw,f.Number⟩:zu)) (kB ((mget c.numbers (⟨uw,f.Number⟩:zu)).getD false)) rfl zCP (zcL rfl) (zxQ rfl rfl rfl)) rfl rf)) (jI h ?_ ?_)<;>intro uC h
 ·refine jp ?_;cases h;exact zfG lw
 refine jb h fun wd uE h=>jr (rl 4 [0] 13 call158 (zja uE) rf) (jI h ?_ ?_)<;>intro uJ h
 ·refine jp ?_;cases h;exact zfG lw
 refine jb h fun g ut h=>jg [0,3,5,7,8] [11,12,13,14] [(44,kB g)] ?_ ?_
 ·refine (rsI 3 47 ut ?_ ?_)<;>intro uL ut
  ·refine jb ut fun rv4 uQ ut=>?_;cases ut;exact (lb 0 zf [] f (rl 0 [1] 13 call159 (zqK uQ) (rel [] lzz)))
  cases ut;exact (rel [] lzz)
 refine jI h ?_ ?_<;>intro uU h
 ·refine jp ?_;cases h;exact zfG lw
 refine jb h fun rv5 uZ h=>jr (lb 1 zf [] f (rl 0 [0,2,3] 13 call160 (zmW uZ) rf)) (jI h ?_ ?_)<;>intro uT h
 ·refine jp ?_;cases h;exact zfG lw
 refine zal (jr (lb 2 zM [] (⟨uw,f.Name⟩:zt) (rms (C1:=[]) 0 [] 2 [0] c.names (⟨uw,f.Name⟩:zt) true [0] zto (zcL rfl) (zdT rfl rfl) rf)) (jr (lb 2 zN [] (⟨uw,f.Number⟩:zu) (rms (C1:=[]) 0 [] 3 [0] c.numbers (⟨uw,f.Number⟩:zu) true [0] zCP (zcL rfl) (zdT rfl rfl) rf)) (jp ?_)));cases h;exact zfG lw
theorem zrb (h:ziA b=some r):vW 145 [.sl Rp.byte [0] b] [kB r]:=by
 refine fi 8 func145 fun Xt=>?_
 unfold ziA at h;refine jp (jb h fun rv uu h=>jr (rl 1 [0] 9 call175 (zyD uu) rf) ?_);cases h;exact zH lzz
theorem zqW (h:zgk m text=some r):vW 142 [.rc zi [0] m,kS text] [kB r]:=by
 refine fi 33 func142 fun Xt=>?_
 unfold zgk at h;refine jr (ra 0 [.rc zi [0] m] rfl (zhC 11 (zV [0] m) [0] rfl rfl rfl rfl rfl) rfl rf) (jb h fun v uK h=>jb h fun rv uu h=>jr (ra 1 [kS text] rfl (ztn 12 rfl underlying9 underlying35 underlying5 uK) rfl (rl 0 [12] 11 call164 (zku uu) (rfl' [13]))) (jg [2,5] [11,13] [(23,kB ((rv.2 !=0)|| (rv.1.To !=(text.length:Int))))] ?_ ?_))
 ·refine (rsl 3 [] 17 (rv.2 !=0) ?_ ?_)<;>intro ur
  · exact (rbl [] 23 true rfl (by grind))
  exact (rbl [] 23 (rv.1.To !=(text.length:Int)) rfl (by grind))
 refine jI h ?_ ?_<;>intro uv h
 ·refine jp ?_;obtain rfl:=(sj h);exact zH lzz
 refine jb h fun vY uz h=>jr (rl 3 [0] 12 call64 (zgS uz) rf) ?_;cases h;exact jz
theorem zqJ (h:zjW k=some r):vW 147 [kI k] [kI r]:=by
 refine fi 5 func147 fun Xt=>?_
 unfold zjW at h;refine jp (jb h fun rv uu h=>jr (rl 1 [1] 9 call149 (znR uu) rf) ?_);obtain rfl:=(sj h);exact zH lzz
theorem zpe (h:zir b uO wire value=some r):vW 116 [.sl Rp.byte [0] b,kI uO,kI wire,.sl Rp.byte [0] value] [.own Rp.byte 5 2 [] r.1,k8 r.2]:=by
 refine fi 39 func116 fun Xt=>?_
 unfold zir at h;refine jp (jb h fun rv uu h=>jr (rc 2 rfl (zam (r:=zbO) [kI uO,kI wire] [] (⟨uO,wire⟩:zaq) rfl zyx rfl rfl) (rl 0 [1] 13 call150 (FnOk.le (ins':=[kN,.rc zbO [0] (⟨uO,wire⟩:zaq)]) (zBO uu) ⟨zff _ _,vX _,trivial⟩) rf)) (jb h fun g ut h=>jg [0,2,3,10] [] [(26,kB g)] ?_ ?_))
 ·refine (rsI 3 21 ut ?_ ?_)<;>intro ur ut
  ·cases ut;exact rgg
  refine jb ut fun vY uz ut=>?_;cases ut;exact (rl 2 [0] 14 call151 (zuS uz) rgg)
 refine jI h ?_ ?_<;>intro uv h
 ·refine jp ?_;cases h;exact zH lw
 refine jp (jI h ?_ ?_)<;>intro uy h
 ·refine jb h fun wd uE h=>jr (rl 4 [15] 14 call152 (zlt uE) rf) (jb h fun rv4 uQ h=>jr (rc 3 rfl (zjl [.sl Rp.byte [0] b,.own Rp.byte 5 16 [] wd,.sl Rp.byte [0] value] 17 [0,16] ([b,wd,value]:(List (List UInt8))) rfl zmg rfl rfl rfl rfl) (rl 0 [17,0,16] 16 call66 (zbG uQ) rf)) ?_);cases h;exact zH (lks [] [(18,2)] lzz)
 refine jb h fun rv5 uZ h=>jr (rc 3 rfl (zjl [.sl Rp.byte [0] b,.own Rp.byte 5 15 [] rv.1,.sl Rp.byte [0] value] 19 [0,15] ([b,rv.1,value]:(List (List UInt8))) rfl zmg rfl rfl rfl rfl) (rl 0 [19,0,15] 18 call66 (zbG uZ) rf)) ?_;cases h;exact zH (lks [] [(20,2)] lzz)
theorem zvL (h:zkg k=some r):vW 115 [kI k] [kI r]:=by
 refine fi 9 func115 fun Xt=>?_
 unfold zkg at h;refine jp (jb h fun rv uu h=>jr (rl 1 [1] 9 call149 (znR uu) rf) (zw (jp (jI h ?_ ?_))))<;>intro ur h
 ·cases h;exact jz
 refine jp (jI h ?_ ?_)<;>intro uv h
 ·cases h;exact jz
 refine zal ?_;cases h;exact jz
theorem zvu (h:zho m hv=some r):vW 165 [.rc zi [0] m,.rc zah [0] hv] [.rc zap [] r]:=by
 refine fj ⟨[(4,.ptr 2 0)],[⟨2,245,(ztS r)⟩]⟩ 38 func165 ⟨⟨_,_,rfl,rfl,rfl,rfl,zJf⟩,trivial⟩ fun Xt=>?_
 unfold zho at h;refine jr (ra 0 [.rc zi [0] m] rfl (zhC 14 (zV [0] m) [0] rfl rfl rfl rfl rfl) rfl (rfl' [15,16])) (jb h fun rv uu h=>jr (rl 3 [0] 15 call194 (zvZ uu) rf) (jp (jI h ?_ ?_)))<;>intro ur h
 ·refine jr (rc 0 rfl (zam (r:=zap) [kI (-1)] [] (⟨(-1),false,0⟩:zT) rfl zBN rfl rfl) rf) ?_;cases h;exact zH (lks [16] [(16,2)] lzz)
 refine jb h fun x uD h=>jr (rx 3 [0] zpl.el uD rfl rfl (rc 0 rfl (lde zf [0] x zpU) (rfl' [17]))) (jb h fun vY uz h=>jr (lb 0 zf [] x (rl 2 [1] 16 call195 (zwa uz) rf)) (jb h fun g ut h=>jg [4,5,7] [16] [(33,kB g)] ?_ ?_))
 ·refine (rsI 3 26 ut ?_ ?_)<;>intro uv ut
  ·refine jb ut fun wd uE ut=>?_;cases ut;exact (rl 4 [1] 16 call196 (zyF uE) (rel [] lzz))
  cases ut;exact (rel [] lzz)
 refine jI h ?_ ?_<;>intro uy h
 ·refine jr (rc 0 rfl (zam (r:=zap) [k8 6] [] (⟨0,false,6⟩:zT) rfl zBN rfl rfl) rf) ?_;cases h;exact zH (lks [16] [(16,2)] lzz)
 refine jr (rc 2 rfl (zam (r:=zap) [kI rv,kB vY] [] (⟨rv,vY,0⟩:zT) rfl zBN rfl rfl) rf) ?_;cases h;exact zH (lks [16] [(16,2)] lzz)
end Go.Proofs.YtkgohoggipdokaaGreat
