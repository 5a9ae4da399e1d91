/-
  The Go functions do what the plain functions say. No condition.
-/
import Derived.Test.YtaglemhabeipfaaGreatx3G3
set_option autoImplicit true
set_option relaxedAutoImplicit true
namespace Go.Proofs.YtaglemhabeipfaaGreat
open Tryz
open Go Go.RowKit
set_option linter.unusedVariables false
set_option maxRecDepth 100000
set_option maxHeartbeats 3200000
theorem zkR (h:zde c uq f=some r):zfx prog 133 [.ag [kI c.size,.sl vv [0] c.kinds,.om zv Rp.bool 2 [0] c.names,.om zc Rp.bool 3 [0] c.numbers],kI uq,.rc zb [0] f] [kI r.1] [.ag [.any,.any,.om zv Rp.bool 2 [0] r.2.1,.om zc Rp.bool 3 [0] r.2.2],.any,.any]:=by
 refine zgB (E:=⟨[(0,.ag [.any,.any,.om zv Rp.bool 2 [0] r.2.1,.om zc Rp.bool 3 [0] r.2.2]),(6,kI r.1)],[]⟩) 63 [0] func133 rfl rfl rfl ⟨rfl,trivial⟩ ⟨.inr ⟨rfl,rfl⟩,.inl rfl,.inl rfl,trivial⟩ rfl (fun Xt old=>?_);refine zaN ?_;unfold zde at h;refine jq [11,12] (jd [0,3,5,7,8] [11,12,13,14] zhj (by exact (lwn 3 (lx (zJ (r:=zv) [kI uq,kS f.Name] [] (⟨uq,f.Name⟩:zt) rfl zER rfl rfl) (lwn 3 (lx (zJ (r:=zc) [kI uq,kI f.Number] [] (⟨uq,f.Number⟩:zd) rfl zIq rfl rfl) (lx (zsh 13 [kI 0,kS []] rfl zeroValue263 rfl) (lx (zsh 14 [kI 0,kI 0] rfl zeroValue265 rfl) (ly [.ptr 13 0,.rc zv [] (⟨uq,f.Name⟩:zt)] (zsi (r:=zv) (b:=⟨13,263,[kI 0,kS []]⟩) (off:=0) [kI uq,kS f.Name] rfl sizeOf263 rfl rfl rfl rfl) rfl (ly [.ptr 14 0,.rc zc [] (⟨uq,f.Number⟩:zd)] (zsi (r:=zc) (b:=⟨14,265,[kI 0,kI 0]⟩) (off:=0) [kI uq,kI f.Number] rfl sizeOf265 rfl rfl rfl rfl) rfl l0))))))))) (zD (jb h fun rv uo h=>jr (rl 2 [1] 13 call169 (zjS uo) rf) (jI h ?_ ?_))))<;>intro ul h
 ·refine jp ?_;cases h;exact zbW lw
 refine jr (lb 2 zv [] (⟨uq,f.Name⟩:zt) (ra 0 [.om zv Rp.bool 2 [0] c.names,.rc zv [] (⟨uq,f.Name⟩:zt)] rfl (zoj (rk:=zv) (rv:=Rp.bool) (m:=c.names) (k:=(⟨uq,f.Name⟩:zt)) (kB ((mget c.names (⟨uq,f.Name⟩:zt)).getD false)) rfl zqY (zbn rfl) (znO rfl rfl rfl)) rfl rf)) (jI h ?_ ?_)<;>intro up h
 ·refine jp ?_;cases h;exact zbW lw
 refine jb h fun vA uu h=>jr (rl 2 [1] 13 call170 (znw uu) rf) (jI h ?_ ?_)<;>intro ut h
 ·refine jp ?_;cases h;exact zbW lw
 refine jr (lb 2 zc [] (⟨uq,f.Number⟩:zd) (ra 0 [.om zc Rp.bool 3 [0] c.numbers,.rc zc [] (⟨uq,f.Number⟩:zd)] rfl (zoj (rk:=zc) (rv:=Rp.bool) (m:=c.numbers) (k:=(⟨uq,f.Number⟩:zd)) (kB ((mget c.numbers (⟨uq,f.Number⟩:zd)).getD false)) rfl zAL (zbn rfl) (znO rfl rfl rfl)) rfl rf)) (jI h ?_ ?_)<;>intro uw h
 ·refine jp ?_;cases h;exact zbW lw
 refine jb h fun vG uz h=>jr (rl 4 [0] 13 call171 (zht uz) rf) (jI h ?_ ?_)<;>intro uB h
 ·refine jp ?_;cases h;exact zbW lw
 refine jb h fun g ur h=>jg [0,3,5,7,8] [11,12,13,14] [(44,kB g)] ?_ ?_
 ·refine (rsI 3 47 ur ?_ ?_)<;>intro uE ur
  ·refine jb ur fun rv4 uH ur=>?_;cases ur;exact (lb 0 zb [] f (rl 0 [1] 13 call172 (zoD uH) (rel [] lzz)))
  cases ur;exact (rel [] lzz)
 refine jI h ?_ ?_<;>intro uO h
 ·refine jp ?_;cases h;exact zbW lw
 refine jb h fun rv5 uM h=>jr (lb 1 zb [] f (rl 0 [0,2,3] 13 call173 (zkS uM) rf)) (jI h ?_ ?_)<;>intro uR h
 ·refine jp ?_;cases h;exact zbW lw
 refine zaA (jr (lb 2 zv [] (⟨uq,f.Name⟩:zt) (rms (C1:=[]) 0 [] 2 [0] c.names (⟨uq,f.Name⟩:zt) true [0] zqY (zbn rfl) (zcJ rfl rfl) rf)) (jr (lb 2 zc [] (⟨uq,f.Number⟩:zd) (rms (C1:=[]) 0 [] 3 [0] c.numbers (⟨uq,f.Number⟩:zd) true [0] zAL (zbn rfl) (zcJ rfl rfl) rf)) (jp ?_)));cases h;exact zbW lw
theorem ztj (h:zfL m hv=some r):vy 117 [.rc ze [0] m,.rc zab [0] hv] [.rc zak [] r]:=by
 refine fj ⟨[(4,.ptr 2 0)],[⟨2,197,(zrB r)⟩]⟩ 38 func117 ⟨⟨_,_,rfl,rfl,rfl,rfl,zHr⟩,trivial⟩ fun Xt=>?_
 unfold zfL at h;refine jr (ra 0 [.rc ze [0] m] rfl (zps 14 (zan [0] m) [0] rfl rfl rfl rfl rfl) rfl (rfl' [15,16])) (jb h fun rv uo h=>jr (rl 3 [0] 15 call147 (ztG uo) rf) (jp (jI h ?_ ?_)))<;>intro ul h
 ·refine jr (rc 0 rfl (zJ (r:=zak) [kI (-1)] [] (⟨(-1),false,0⟩:zN) rfl zzI rfl rfl) rf) ?_;cases h;exact zI (lks [16] [(16,2)] lzz)
 refine jb h fun x uA h=>jr (rx 3 [0] zqx.el uA rfl rfl (rc 0 rfl (lde zb [0] x zpQ) (rfl' [17]))) (jb h fun vA uu h=>jr (lb 0 zb [] x (rl 2 [1] 16 call148 (ztH uu) rf)) (jb h fun g ur h=>jg [4,5,7] [16] [(33,kB g)] ?_ ?_))
 ·refine (rsI 3 26 ur ?_ ?_)<;>intro up ur
  ·refine jb ur fun vG uz ur=>?_;cases ur;exact (rl 4 [1] 16 call149 (zwl uz) (rel [] lzz))
  cases ur;exact (rel [] lzz)
 refine jI h ?_ ?_<;>intro ut h
 ·refine jr (rc 0 rfl (zJ (r:=zak) [k8 6] [] (⟨0,false,6⟩:zN) rfl zzI rfl rfl) rf) ?_;cases h;exact zI (lks [16] [(16,2)] lzz)
 refine jr (rc 2 rfl (zJ (r:=zak) [kI rv,kB vA] [] (⟨rv,vA,0⟩:zN) rfl zzI rfl rfl) rf) ?_;cases h;exact zI (lks [16] [(16,2)] lzz)
theorem zoC (h:zhY k=some r):vy 174 [kI k] [kI r]:=by
 refine fi 5 func174 fun Xt=>?_
 unfold zhY at h;refine jp (jb h fun rv uo h=>jr (rl 1 [1] 9 call142 (ziA uo) rf) ?_);obtain rfl:=(sj h);exact zI lzz
theorem zwk (h:zib b=some r):vy 181 [.sl Rp.byte [0] b] [kB r]:=by
 refine fi 8 func181 fun Xt=>?_
 unfold zib at h;refine jp (jb h fun rv uo h=>jr (rl 1 [0] 9 call208 (zwj uo) rf) ?_);cases h;exact zI lzz
theorem zjH (h:zer k=some r):vy 113 [kI k] [kB r]:=by
 refine fi 6 func113 fun Xt=>?_
 unfold zer at h;refine jp (jb h fun rv uo h=>jr (rl 1 [1] 9 call142 (ziA uo) rf) ?_);cases h;exact zI lzz
theorem zmU (h:zgJ b uI wire value=some r):vy 137 [.sl Rp.byte [0] b,kI uI,kI wire,.sl Rp.byte [0] value] [.own Rp.byte 5 2 [] r.1,k8 r.2]:=by
 refine fi 39 func137 fun Xt=>?_
 unfold zgJ at h;refine jp (jb h fun rv uo h=>jr (rc 2 rfl (zJ (r:=zaP) [kI uI,kI wire] [] (⟨uI,wire⟩:zM) rfl zwd rfl rfl) (rl 0 [1] 13 call176 (FnOk.le (ins':=[kN,.rc zaP [0] (⟨uI,wire⟩:zM)]) (zzJ uo) ⟨zfC _ _,vz _,trivial⟩) rf)) (jb h fun g ur h=>jg [0,2,3,10] [] [(26,kB g)] ?_ ?_))
 ·refine (rsI 3 21 ur ?_ ?_)<;>intro ul ur
  ·cases ur;exact rgg
  refine jb ur fun vA uu ur=>?_;cases ur;exact (rl 2 [0] 14 call177 (zsM uu) rgg)
 refine jI h ?_ ?_<;>intro up h
 ·refine jp ?_;cases h;exact zI lw
 refine jp (jI h ?_ ?_)<;>intro ut h
 ·refine jb h fun vG uz h=>jr (rl 4 [15] 14 call178 (zjp uz) rf) (jb h fun rv4 uH h=>jr (rc 3 rfl (ziq [.sl Rp.byte [0] b,.own Rp.byte 5 16 [] vG,.sl Rp.byte [0] value] 17 [0,16] ([b,vG,value]:(List (List UInt8))) rfl zyB rfl rfl rfl rfl) (rl 0 [17,0,16] 16 call71 (zcx uH) rf)) ?_);cases h;exact zI (lks [] [(18,2)] lzz)
 refine jb h fun rv5 uM h=>jr (rc 3 rfl (ziq [.sl Rp.byte [0] b,.own Rp.byte 5 15 [] rv.1,.sl Rp.byte [0] value] 19 [0,15] ([b,rv.1,value]:(List (List UInt8))) rfl zyB rfl rfl rfl rfl) (rl 0 [19,0,15] 18 call71 (zcx uM) rf)) ?_;cases h;exact zI (lks [] [(20,2)] lzz)
theorem zvM (h:zhU k=some r):vy 144 [kI k] [kI r]:=by
 refine fi 9 func144 fun Xt=>?_
 unfold zhU at h;refine jp (jb h fun rv uo h=>jr (rl 1 [1] 9 call142 (ziA uo) rf) (zD (jp (jI h ?_ ?_))))<;>intro ul h
 ·cases h;exact jz
 refine jp (jI h ?_ ?_)<;>intro up h
 ·cases h;exact jz
 refine zaA ?_;cases h;exact jz
end Go.Proofs.YtaglemhabeipfaaGreat
