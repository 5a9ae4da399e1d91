/-
  The Go functions do what the plain functions say. No condition.
-/
import Derived.Test.YtaglemhabeipfaaGreatx1G5
set_option autoImplicit true
set_option relaxedAutoImplicit true
namespace Go.Proofs.YtaglemhabeipfaaGreat
open Tryz
open Go Go.RowKit
set_option linter.unusedVariables false
set_option maxRecDepth 100000
set_option maxHeartbeats 3200000
theorem zvq (h:ziX sv=some r):wO 67 [.sl zg [0] sv] [kB r]:=by
 refine fi 12 func67 fun Xt=>?_
 unfold ziX at h;refine jp (jb h fun rv uP h=>jr (rl 1 [0] 9 call99 (zvp uP) (rfl' [11])) ?_);cases h;exact jz
theorem ztw (h:zle m b uX=some r):wO 112 [.rc zg [0] m,.sl Rp.byte [0] b,kI uX] [.rc zk [] r.1,k8 r.2]:=by
 refine fj ⟨[(6,.ptr 2 0),(7,k8 r.2)],[⟨2,68,(zeD r.1)⟩]⟩ 15 func112 ⟨⟨_,_,rfl,rfl,rfl,rfl,zIp⟩,rfl,trivial⟩ fun Xt=>?_
 unfold zle at h;refine jr (ra 0 [.rc zg [0] m] rfl (zlu 13 (zaf [0] m) [0] rfl rfl rfl rfl rfl) rfl (rfl' [14])) (jb h fun wQ uT h=>jr (rc 3 rfl (znv (rk:=zam) (rv:=zaw) 15 rfl) (rkl 0 [] ⟨[(6,.ptr 14 0),(8,.ag (zaf [0] m)),(9,.sl Rp.byte [0] b),(10,kI uX),(11,.om zam zaw 15 [] ([]:(List (zU×zW))))],[⟨14,68,[kI 0,kI 0,kI 0,kI 0,kI 0,kI 0,kB false]⟩]⟩ (ziS ⟨[(6,.ptr 14 0),(8,.ag (zaf [0] m)),(9,.sl Rp.byte [0] b),(10,kI uX),(11,.om zam zaw 15 [0] wQ.2.2)],[⟨14,68,[kI 0,kI 0,kI 0,kI 0,kI 0,kI 0,kB false]⟩]⟩ (znf.le (ins':=[(.tmp 8,.ag (zaf [0] m)),(.tmp 9,.sl Rp.byte [0] b),(.tmp 10,kI uX),(.tmp 11,.om zam zaw 15 [] ([]:(List (zU×zW))))]) (zmx (args:=[.tmp 8,.tmp 9,.tmp 10,.tmp 11]) [.rc zg [0] m,.sl Rp.byte [0] b,kI uX,.om zam zaw 15 [] ([]:(List (zU×zW)))] [(15,2)] [0] 15 [] rfl call82 (zBy uT) rfl rfl (by kernel_rfl) rfl rfl rfl) ⟨⟨rfl,zmp zg [0] m (zaf [0] m) rfl rfl⟩,⟨rfl,wP _⟩,⟨rfl,wP _⟩,⟨rfl,wP _⟩,trivial⟩) rfl (by kernel_rfl) (by kernel_rfl) ⟨⟨_,rfl,zp rfl⟩,⟨_,rfl,zp rfl⟩,⟨_,rfl,zp rfl⟩,⟨_,rfl,zp rfl⟩,⟨_,rfl,zeL 0 rfl⟩,trivial⟩ ⟨⟨_,rfl,rfl,rfl,⟨zp rfl,zp rfl,zp rfl,zp rfl,zp rfl,zp rfl,zp rfl,trivial⟩⟩,trivial⟩ rf))) ?_);cases h;exact zy (lks [14] [(14,2)] lzz)
theorem zrz (h:zjF k b=some r):wO 162 [kI k,.sl Rp.byte [0] b] [.fv 199 [.bp wM 3 919900 [] r.1,.bp (Rp.list Rp.byte) 24 919901 [0] r.2]]:=by
 refine fi 6 func162 fun Xt=>?_
 unfold zjF at h;refine jq [919900,919901] (jr (ra 0 [.ptr 919900 0,.ptr 919901 0] rfl (zLF (g:=199) [.tmp 2,.tmp 3] [⟨919900,3,[kI k]⟩,⟨919901,24,[.sl Rp.byte [0] b]⟩] [.bp wM 3 919900 [] k,.bp (Rp.list Rp.byte) 24 919901 [0] b] rfl ⟨⟨rfl,rfl,rfl,rfl⟩,⟨rfl,rfl,rfl,rfl⟩,trivial⟩ rfl) rfl rf) ?_);cases h;exact zy lzz
theorem zyt (h:zlv vh size=some r):wO 146 [kI vh,kI size] [.own Rp.byte 5 2 [] r]:=by
 refine fi 23 func146 fun Xt=>?_
 unfold zlv at h;refine jp (jb h fun rv uP h=>jr (rl 1 [1] 10 call179 (FnOk.le (ins':=[kN,kI vh,kN]) (zyv uP) ⟨zin _ _,wP _,zin _ _,trivial⟩) rf) (jb h fun wQ uT h=>jr (rl 2 [1] 11 call175 (zrB uT) rf) (jb h fun v vc h=>jb h fun v2 vn h=>jr (ra 4 [.own Rp.byte 5 12 [] rv,kI (IntKind.i64.wrap ((rv.length:Int) - 1))] rfl (zGf rfl zbd.el vc) rfl (rc 1 rfl (lao 12 [] 5 13 [] [] zbd.el vn (.inl zfi)) rf)) ?_)));obtain rfl:=(sj h);exact zy (lks [] [(12,2)] lzz)
theorem zyC (h:zjK sv va d=some r):wO 76 [.sl zg [0] sv,kI va,kI d] [k8 r]:=by
 refine fi 28 func76 fun Xt=>?_
 unfold zjK at h;refine jp (zu (jb h fun rv uP h=>jr (rl 1 [0] 9 call67 (zvq uP) rf) (jI h ?_ ?_)))<;>intro uM h
 ·cases h;exact jz
 refine jg [] [] [(11,kB ((decide (va<0))|| ((decide (va>=(sv.length:Int)))|| ((decide (d<0))|| (decide (d>64))))))] ?_ ?_
 ·refine (rsl 3 [] 14 (decide (va<0)) ?_ ?_)<;>intro uN
  · exact (rbl [] 11 true rfl (by grind))
  refine (rsl 6 [] 20 (decide (va>=(sv.length:Int))) ?_ ?_)<;>intro uQ
  · exact (rbl [] 11 true rfl (by grind))
  refine (rsl 4 [] 24 (decide (d<0)) ?_ ?_)<;>intro uS
  · exact (rbl [] 11 true rfl (by grind))
  exact (rbl [] 11 (decide (d>64)) rfl (by grind))
 refine jI h ?_ ?_<;>intro uU h
 ·cases h;exact jz
 refine zR ?_;cases h;exact jz
theorem zsg (h:zgM wv uR uX tov=some r):zig prog 109 [.ag [.sl zg [0] wv.s,.sl Rp.byte [0] wv.b,.om zn zk 2 [0] wv.met],kI uR,kI uX,kI tov] [.rc zk [] r.1,k8 r.2.1] [.ag [.any,.any,.om zn zk 2 [0] r.2.2],.any,.any,.any]:=by
 refine zjv (E:=⟨[(0,.ag [.any,.any,.om zn zk 2 [0] r.2.2]),(8,.ptr 3 0),(9,k8 r.2.1)],[⟨3,68,(zeD r.1)⟩]⟩) 67 [0] func109 rfl rfl rfl ⟨⟨_,_,rfl,rfl,rfl,rfl,zIp⟩,rfl,trivial⟩ ⟨.inr ⟨rfl,rfl⟩,.inl rfl,.inl rfl,.inl rfl,trivial⟩ rfl (fun Xt old=>?_);refine zbw ?_;unfold zgM at h;refine jq [13,14] (jb h fun v vc h=>jr (ra 3 [.sl Rp.byte [0] wv.b,kI tov] rfl (zgf none (some (kI tov)) rfl zbd.el (zbj _ _ _) ⟨rfl,rfl⟩ ⟨rfl,rfl⟩ vc) rfl rf) (jb h fun rv uP h=>jr (rl 2 [0] 13 call111 (ziR uP) (rfl' [15])) (jp (jI h ?_ ?_))))<;>intro uM h
 ·refine jr (rc 0 rfl (zL (r:=zk) [] [] (⟨(⟨0,0,0,0,0⟩:zj),0,false⟩:zi) rfl zDv rfl rfl) rf) ?_;cases h;exact zdw (lks [14] [(14,3)] lw)
 refine jr (rc 5 rfl (zL (r:=zn) [kI uR,kI rv.1.Number,kI rv.1.Wire] [] (⟨uR,rv.1.Number,rv.1.Wire⟩:zm) rfl zNT rfl rfl) (rfl' [16])) (jr (lb 2 zn [] (⟨uR,rv.1.Number,rv.1.Wire⟩:zm) (ra 0 [.om zn zk 2 [0] wv.met,.rc zn [] (⟨uR,rv.1.Number,rv.1.Wire⟩:zm)] rfl (zqG (rk:=zn) (rv:=zk) (m:=wv.met) (k:=(⟨uR,rv.1.Number,rv.1.Wire⟩:zm)) (.rc zk [0] ((mget wv.met (⟨uR,rv.1.Number,rv.1.Wire⟩:zm)).getD (⟨(⟨0,0,0,0,0⟩:zj),0,false⟩:zi))) rfl zGi (zcv rfl) (zAs rfl)) rfl (rfl' [17]))) (jp (jI h ?_ ?_)))<;>intro uN h
 ·refine jb h fun x uY h=>jb h fun wQ uT h=>jr (rx 3 [0] zhp.el uY rfl rfl (rc 0 rfl (lde zg [0] x zyN) (rl 2 [0] 16 call112 (ztw uT) rf))) (jp (jI h ?_ ?_))<;>intro uQ h
  ·refine jr (rc 0 rfl (zL (r:=zk) [] [] (⟨(⟨0,0,0,0,0⟩:zj),0,false⟩:zi) rfl zDv rfl rfl) rf) ?_;cases h;exact zdw (lks [14] [(14,3)] lw)
  refine jr (lb 2 zn [] (⟨uR,rv.1.Number,rv.1.Wire⟩:zm) (lb 0 zk [] wQ.1 (rms (C1:=[]) (D:=[]) 0 [] 2 [0] wv.met (⟨uR,rv.1.Number,rv.1.Wire⟩:zm) wQ.1 [0] zGi (zcv rfl) (zcv rfl) rf))) (jr (lb 0 zt [] rv.1 rf) (jr (lb 0 zk [] (⟨rv.1,wQ.1.Field,wQ.1.Run⟩:zi) rf) ?_));cases h;exact zdw (lks [14] [(14,3)] lw)
 refine jr (lb 0 zt [] rv.1 rf) (jr (lb 0 zk [] (⟨rv.1,((mget wv.met (⟨uR,rv.1.Number,rv.1.Wire⟩:zm)).getD (⟨(⟨0,0,0,0,0⟩:zj),0,false⟩:zi)).Field,((mget wv.met (⟨uR,rv.1.Number,rv.1.Wire⟩:zm)).getD (⟨(⟨0,0,0,0,0⟩:zj),0,false⟩:zi)).Run⟩:zi) rf) ?_);cases h;exact zdw (lks [14] [(14,3)] lw)
theorem zBe (h:znF k b=some r):wO 180 [kI k,.sl Rp.byte [0] b] [kI r.1,k8 r.2]:=by
 refine zyY (E:=⟨[(4,.ptr 2 0),(5,.ptr 3 0)],[⟨2,3,[kI r.1]⟩,⟨3,27,[k8 r.2]⟩]⟩) 20 func180 rfl rfl rfl ⟨⟨_,_,rfl,rfl,rfl,rfl⟩,⟨_,_,rfl,rfl,rfl,rfl⟩,trivial⟩ rfl rfl (fun Xt=>?_);refine zbw ?_;unfold znF at h;refine jq [13,14] (jq [15] (jb h fun rv uP h=>jr (rl 2 [0] 0 call162 (zrz uP) rf) (zu (jb h fun q uV h=>zpD (E':=⟨[(4,.ptr 13 0),(5,.ptr 14 0),(6,.ptr 15 0),(11,.fv 199 [.bp wM 3 919900 [] rv.1,.bp (Rp.list Rp.byte) 24 919901 [0] rv.2])],[⟨13,3,[kI 0]⟩,⟨14,27,[k8 0]⟩,⟨15,3,[kI 0]⟩]⟩) ?_ ?_))))
 · exact lzz
 refine zCr (it:=fun {σ:Type} (kf:Rnd σ ((List UInt8)×Int)) (sg:σ)=>zeO rv.1 rv.2 kf sg) (zoK rv.1 rv.2) [919900,919901] [4,5,6] [13,14,15] [(4,.ptr 13 0),(5,.ptr 14 0),(6,.ptr 15 0)] (fun s:Int=>[⟨13,3,[kI 0]⟩,⟨14,27,[k8 0]⟩,⟨15,3,[kI s]⟩]) (fun o:(Int×Int)=>[⟨13,3,[kI 0]⟩,⟨14,27,[k8 o.1]⟩,⟨15,3,[kI o.2]⟩]) (fun o:(Int×Int)=> .ret) (fun (s:Int) (x:((List UInt8)×Int))=>zfM s x.1 x.2) (fun (s:Int) (x:((List UInt8)×Int))=>⟨[(4,.ptr 13 0),(5,.ptr 14 0),(6,.ptr 15 0),(8,k8 x.2)],[⟨13,3,[kI 0]⟩,⟨14,27,[k8 0]⟩,⟨15,3,[kI s]⟩]⟩) rfl rfl call199 rfl rfl rfl rfl rfl rfl (fun _=>rfl) (fun o=>rfl) rfl rfl (fun _=>rfl) ?_ (fun _ _=>⟨rfl,rfl⟩) ?_ uV ?_
 ·clear h;intro Xr old f x;obtain ⟨x,x2⟩:=x;exact zbw (zpD (E':=⟨[(13,k8 x2),(12,.sl Rp.byte [0] x),(4,.ptr 13 0),(5,.ptr 14 0),(6,.ptr 15 0)],[⟨13,3,[kI 0]⟩,⟨14,27,[k8 0]⟩,⟨15,3,[kI f]⟩]⟩) (fun _ _ _ hs=>hs) jy)
 ·clear h;intro Xr old f x o h;obtain ⟨x,x2⟩:=x;refine zbw (zpD (E':=⟨[(4,.ptr 13 0),(5,.ptr 14 0),(6,.ptr 15 0),(8,k8 x2)],[⟨13,3,[kI 0]⟩,⟨14,27,[k8 0]⟩,⟨15,3,[kI f]⟩]⟩) (fun _ _ _ hs=>hs) ?_);replace h:zfM f x x2=some o:=h;unfold zfM at h;refine zu (jp (jI h ?_ ?_))<;>intro uM h
  ·refine jp ?_;cases h;exact zFV lzz
  refine jp (zR ?_);cases h;exact zS lzz
 rcases q with u| j
 ·refine zpD (E':=⟨[(4,.ptr 13 0),(5,.ptr 14 0),(6,.ptr 15 0)],[⟨13,3,[kI 0]⟩,⟨14,27,[k8 0]⟩,⟨15,3,[kI u]⟩]⟩) (fun _ _ _ hs=>hs) (zR (jp ?_));cases h;exact zy (lks [13,14] [(13,2),(14,3)] lzz)
 refine zpD (E':=⟨[(4,.ptr 13 0),(5,.ptr 14 0),(6,.ptr 15 0)],[⟨13,3,[kI 0]⟩,⟨14,27,[k8 j.1]⟩,⟨15,3,[kI j.2]⟩]⟩) (fun _ _ _ hs=>hs) ?_;cases h;exact zy (lks [13,14] [(13,2),(14,3)] lzz)
theorem zsO (h:zhg wv uR b uX=some r):zig prog 78 [.ag [.sl zg [0] wv.s,.om zf wM 2 [0] wv.met],kI uR,.sl Rp.byte [0] b,kI uX] [.rc zt [] r.1,kI r.2.1] [.ag [.any,.om zf wM 2 [0] r.2.2],.any,.any,.any]:=by
 refine zjv (E:=⟨[(0,.ag [.any,.om zf wM 2 [0] r.2.2]),(8,.ptr 3 0),(9,kI r.2.1)],[⟨3,66,(zaN r.1)⟩]⟩) 55 [0] func78 rfl rfl rfl ⟨⟨_,_,rfl,rfl,rfl,rfl,zIo⟩,rfl,trivial⟩ ⟨.inr ⟨rfl,rfl⟩,.inl rfl,.inl rfl,.inl rfl,trivial⟩ rfl (fun Xt old=>?_);refine zbw ?_;unfold zhg at h;refine jq [13,14] (jb h fun rv uP h=>jr (rl 2 [0] 13 call111 (ziR uP) (rfl' [15])) (jr (rc 3 rfl (zL (r:=zf) [kI uR,kI rv.1.Number] [] (⟨uR,rv.1.Number⟩:zh) rfl zKu rfl rfl) (rfl' [16])) (jr (lb 2 zf [] (⟨uR,rv.1.Number⟩:zh) (ra 0 [.om zf wM 2 [0] wv.met,.rc zf [] (⟨uR,rv.1.Number⟩:zh)] rfl (zqG (rk:=zf) (rv:=wM) (m:=wv.met) (k:=(⟨uR,rv.1.Number⟩:zh)) (kI ((mget wv.met (⟨uR,rv.1.Number⟩:zh)).getD 0)) rfl zAK (zcv rfl) (zst rfl rfl rfl)) rfl rf)) (jp (jI h ?_ ?_)))))<;>intro uM h
 ·refine jb h fun x uY h=>jb h fun wQ uT h=>jr (rx 3 [0] zhp.el uY rfl rfl (rc 0 rfl (lde zg [0] x zyN) (rl 2 [0] 15 call112 (ztw uT) (rfl' [17])))) (jp (jr (lb 2 zf [] (⟨uR,rv.1.Number⟩:zh) (rms (C1:=[]) 1 [] 2 [0] wv.met (⟨uR,rv.1.Number⟩:zh) wQ.1.Field [0] zAK (zcv rfl) (zey rfl rfl) rf)) (jr (lb 0 zt [] rv.1 rf) ?_)));cases h;exact zdw (lks [14] [(14,3)] lw)
 refine jr (lb 0 zt [] rv.1 rf) ?_;cases h;exact zdw (lks [14] [(14,3)] lw)
theorem zBf (h:znG k b=some r):wO 128 [kI k,.sl Rp.byte [0] b] [.own wN 90 3 [] r.1,k8 r.2]:=by
 refine zyY (E:=⟨[(4,.ptr 2 0),(5,.ptr 4 0)],[⟨2,76,[.own wN 90 3 [] r.1]⟩,⟨4,27,[k8 r.2]⟩]⟩) 30 func128 rfl rfl rfl ⟨⟨_,_,rfl,rfl,rfl,rfl⟩,⟨_,_,rfl,rfl,rfl,rfl⟩,trivial⟩ rfl rfl (fun Xt=>?_);refine zbw ?_;unfold znG at h;refine jq [18,19,20] (jq [21] (jb h fun rv uP h=>jr (rl 2 [0] 0 call162 (zrz uP) rf) (zu (jb h fun q uV h=>zpD (E':=⟨[(2,.ptr 18 0),(4,.ptr 19 0),(5,.ptr 20 0),(6,.ptr 21 0),(13,.fv 199 [.bp wM 3 919900 [] rv.1,.bp (Rp.list Rp.byte) 24 919901 [0] rv.2])],[⟨18,3,[kI k]⟩,⟨19,76,[kN]⟩,⟨20,27,[k8 0]⟩,⟨21,76,[.own wN 90 24 [] []]⟩]⟩) ?_ ?_))))
 · exact lw
 refine zCr (it:=fun {σ:Type} (kf:Rnd σ ((List UInt8)×Int)) (sg:σ)=>zeO rv.1 rv.2 kf sg) (zoK rv.1 rv.2) [919900,919901] [2,4,5,6] [18,19,20,21] [(2,.ptr 18 0),(4,.ptr 19 0),(5,.ptr 20 0),(6,.ptr 21 0)] (fun s:(List Int)=>[⟨18,3,[kI k]⟩,⟨19,76,[kN]⟩,⟨20,27,[k8 0]⟩,⟨21,76,[.own wN 90 24 [] s]⟩]) (fun o:(Int×(List Int))=>[⟨18,3,[kI k]⟩,⟨19,76,[kN]⟩,⟨20,27,[k8 o.1]⟩,⟨21,76,[.own wN 90 24 [] o.2]⟩]) (fun o:(Int×(List Int))=> .ret) (fun (s:(List Int)) (x:((List UInt8)×Int))=>zdY k s x.1 x.2) (fun (s:(List Int)) (x:((List UInt8)×Int))=>⟨[(2,.ptr 18 0),(4,.ptr 19 0),(5,.ptr 20 0),(6,.ptr 21 0),(7,.sl Rp.byte [0] x.1),(8,k8 x.2)],[⟨18,3,[kI k]⟩,⟨19,76,[kN]⟩,⟨20,27,[k8 0]⟩,⟨21,76,[.own wN 90 24 [] s]⟩]⟩) rfl rfl call199 rfl rfl rfl rfl rfl rfl (fun _=>rfl) (fun o=>rfl) rfl rfl (fun _=>rfl) ?_ (fun _ _=>⟨rfl,rfl⟩) ?_ uV ?_
 ·clear h;intro Xr old f x;obtain ⟨x,x2⟩:=x;exact zbw (zpD (E':=⟨[(15,k8 x2),(14,.sl Rp.byte [0] x),(2,.ptr 18 0),(4,.ptr 19 0),(5,.ptr 20 0),(6,.ptr 21 0)],[⟨18,3,[kI k]⟩,⟨19,76,[kN]⟩,⟨20,27,[k8 0]⟩,⟨21,76,[.own wN 90 24 [] f]⟩]⟩) (fun _ _ _ hs=>hs) (jp jy))
 ·clear h;intro Xr old f x o h;obtain ⟨x,x2⟩:=x;refine zbw (zpD (E':=⟨[(2,.ptr 18 0),(4,.ptr 19 0),(5,.ptr 20 0),(6,.ptr 21 0),(7,.sl Rp.byte [0] x),(8,k8 x2)],[⟨18,3,[kI k]⟩,⟨19,76,[kN]⟩,⟨20,27,[k8 0]⟩,⟨21,76,[.own wN 90 24 [] f]⟩]⟩) (fun _ _ _ hs=>hs) ?_);replace h:zdY k f x x2=some o:=h;unfold zdY at h;refine zu (jp (jI h ?_ ?_))<;>intro uM h
  ·refine jp ?_;cases h;exact zFV lzz
  refine jb h fun wQ uT h=>jr (rl 2 [0] 23 call163 (zxJ uT) rf) (jb h fun v vc h=>jr (rc 2 rfl (zfR [kU wQ.1] 25 [] ([wQ.1]:(List Int)) rfl zrD rfl rfl rfl rfl) (rc 0 rfl (lao 24 [] 90 25 [] [] zrD.el vc (.inl (zio _))) rf)) (zR ?_));cases h;exact zS lzz
 rcases q with u| j
 ·refine zpD (E':=⟨[(2,.ptr 18 0),(4,.ptr 19 0),(5,.ptr 20 0),(6,.ptr 21 0)],[⟨18,3,[kI k]⟩,⟨19,76,[kN]⟩,⟨20,27,[k8 0]⟩,⟨21,76,[.own wN 90 24 [] u]⟩]⟩) (fun _ _ _ hs=>hs) (zR (jp ?_));cases h;exact zy (lks [19,20] [(19,2),(20,4),(24,3)] lzz)
 refine zpD (E':=⟨[(2,.ptr 18 0),(4,.ptr 19 0),(5,.ptr 20 0),(6,.ptr 21 0)],[⟨18,3,[kI k]⟩,⟨19,76,[kN]⟩,⟨20,27,[k8 j.1]⟩,⟨21,76,[.own wN 90 24 [] j.2]⟩]⟩) (fun _ _ _ hs=>hs) ?_;cases h;exact zy (lks [19,20] [(19,2),(20,4)] lw)
end Go.Proofs.YtaglemhabeipfaaGreat
