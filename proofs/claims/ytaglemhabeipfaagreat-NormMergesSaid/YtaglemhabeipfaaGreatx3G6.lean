/-
  The Go functions do what the plain functions say. No condition.
-/
import Derived.Test.YtaglemhabeipfaaGreatx3G5
set_option autoImplicit true
set_option relaxedAutoImplicit true
namespace Go.Proofs.YtaglemhabeipfaaGreat
open Tryz
open Go Go.RowKit
set_option linter.unusedVariables false
set_option maxRecDepth 100000
set_option maxHeartbeats 3200000
theorem zqI (h:zgj sv=some r):vy 67 [.sl ze [0] sv] [kB r]:=by
 refine fi 12 func67 fun Xt=>?_
 unfold zgj at h;refine jp (jb h fun rv uo h=>jr (rl 1 [0] 9 call99 (zqH uo) (rfl' [11])) ?_);cases h;exact jz
theorem zoR (h:zic m b uv=some r):vy 112 [.rc ze [0] m,.sl Rp.byte [0] b,kI uv] [.rc zh [] r.1,k8 r.2]:=by
 refine fj ⟨[(6,.ptr 2 0),(7,k8 r.2)],[⟨2,68,(zcM r.1)⟩]⟩ 15 func112 ⟨⟨_,_,rfl,rfl,rfl,rfl,zCP⟩,rfl,trivial⟩ fun Xt=>?_
 unfold zic at h;refine jr (ra 0 [.rc ze [0] m] rfl (zps 13 (zan [0] m) [0] rfl rfl rfl rfl rfl) rfl (rfl' [14])) (jb h fun vA uu h=>jr (rc 3 rfl (zjF (rk:=zab) (rv:=zak) 15 rfl) (rkl 0 [] ⟨[(6,.ptr 14 0),(8,.ag (zan [0] m)),(9,.sl Rp.byte [0] b),(10,kI uv),(11,.om zab zak 15 [] ([]:(List (zL×zN))))],[⟨14,68,[kI 0,kI 0,kI 0,kI 0,kI 0,kI 0,kB false]⟩]⟩ (zge ⟨[(6,.ptr 14 0),(8,.ag (zan [0] m)),(9,.sl Rp.byte [0] b),(10,kI uv),(11,.om zab zak 15 [0] vA.2.2)],[⟨14,68,[kI 0,kI 0,kI 0,kI 0,kI 0,kI 0,kB false]⟩]⟩ (zjq.le (ins':=[(.tmp 8,.ag (zan [0] m)),(.tmp 9,.sl Rp.byte [0] b),(.tmp 10,kI uv),(.tmp 11,.om zab zak 15 [] ([]:(List (zL×zN))))]) (ziW (args:=[.tmp 8,.tmp 9,.tmp 10,.tmp 11]) [.rc ze [0] m,.sl Rp.byte [0] b,kI uv,.om zab zak 15 [] ([]:(List (zL×zN)))] [(15,2)] [0] 15 [] rfl call82 (zwm uu) rfl rfl (by kernel_rfl) rfl rfl rfl) ⟨⟨rfl,zod ze [0] m (zan [0] m) rfl rfl⟩,⟨rfl,vz _⟩,⟨rfl,vz _⟩,⟨rfl,vz _⟩,trivial⟩) rfl (by kernel_rfl) (by kernel_rfl) ⟨⟨_,rfl,zp rfl⟩,⟨_,rfl,zp rfl⟩,⟨_,rfl,zp rfl⟩,⟨_,rfl,zp rfl⟩,⟨_,rfl,zcP 0 rfl⟩,trivial⟩ ⟨⟨_,rfl,rfl,rfl,⟨zp rfl,zp rfl,zp rfl,zp rfl,zp rfl,zp rfl,zp rfl,trivial⟩⟩,trivial⟩ rf))) ?_);cases h;exact zI (lks [14] [(14,2)] lzz)
theorem zmV (h:zgM k b=some r):vy 162 [kI k,.sl Rp.byte [0] b] [.fv 199 [.bp vv 3 919900 [] r.1,.bp (Rp.list Rp.byte) 24 919901 [0] r.2]]:=by
 refine fi 6 func162 fun Xt=>?_
 unfold zgM at h;refine jq [919900,919901] (jr (ra 0 [.ptr 919900 0,.ptr 919901 0] rfl (zGa (g:=199) [.tmp 2,.tmp 3] [⟨919900,3,[kI k]⟩,⟨919901,24,[.sl Rp.byte [0] b]⟩] [.bp vv 3 919900 [] k,.bp (Rp.list Rp.byte) 24 919901 [0] b] rfl ⟨⟨rfl,rfl,rfl,rfl⟩,⟨rfl,rfl,rfl,rfl⟩,trivial⟩ rfl) rfl rf) ?_);cases h;exact zI lzz
theorem ztA (h:zir uI size=some r):vy 146 [kI uI,kI size] [.own Rp.byte 5 2 [] r]:=by
 refine fi 23 func146 fun Xt=>?_
 unfold zir at h;refine jp (jb h fun rv uo h=>jr (rl 1 [1] 10 call179 (FnOk.le (ins':=[kN,kI uI,kN]) (ztC uo) ⟨zfC _ _,vz _,zfC _ _,trivial⟩) rf) (jb h fun vA uu h=>jr (rl 2 [1] 11 call175 (zmX uu) rf) (jb h fun v uC h=>jb h fun v2 uJ h=>jr (ra 4 [.own Rp.byte 5 12 [] rv,kI (IntKind.i64.wrap ((rv.length:Int) - 1))] rfl (zAG rfl zbd.el uC) rfl (rc 1 rfl (lao 12 [] 5 13 [] [] zbd.el uJ (.inl zbN)) rf)) ?_)));obtain rfl:=(sj h);exact zI (lks [] [(12,2)] lzz)
theorem ztE (h:zgR sv uD d=some r):vy 76 [.sl ze [0] sv,kI uD,kI d] [k8 r]:=by
 refine fi 28 func76 fun Xt=>?_
 unfold zgR at h;refine jp (zD (jb h fun rv uo h=>jr (rl 1 [0] 9 call67 (zqI uo) rf) (jI h ?_ ?_)))<;>intro ul h
 ·cases h;exact jz
 refine jg [] [] [(11,kB ((decide (uD<0))|| ((decide (uD>=(sv.length:Int)))|| ((decide (d<0))|| (decide (d>64))))))] ?_ ?_
 ·refine (rsl 3 [] 14 (decide (uD<0)) ?_ ?_)<;>intro up
  · exact (rbl [] 11 true rfl (by grind))
  refine (rsl 6 [] 20 (decide (uD>=(sv.length:Int))) ?_ ?_)<;>intro ut
  · exact (rbl [] 11 true rfl (by grind))
  refine (rsl 4 [] 24 (decide (d<0)) ?_ ?_)<;>intro uw
  · exact (rbl [] 11 true rfl (by grind))
  exact (rbl [] 11 (decide (d>64)) rfl (by grind))
 refine jI h ?_ ?_<;>intro uB h
 ·cases h;exact jz
 refine zaA ?_;cases h;exact jz
theorem znD (h:zep wv uq uv tov=some r):zfx prog 109 [.ag [.sl ze [0] wv.s,.sl Rp.byte [0] wv.b,.om zm zh 2 [0] wv.met],kI uq,kI uv,kI tov] [.rc zh [] r.1,k8 r.2.1] [.ag [.any,.any,.om zm zh 2 [0] r.2.2],.any,.any,.any]:=by
 refine zgB (E:=⟨[(0,.ag [.any,.any,.om zm zh 2 [0] r.2.2]),(8,.ptr 3 0),(9,k8 r.2.1)],[⟨3,68,(zcM r.1)⟩]⟩) 67 [0] func109 rfl rfl rfl ⟨⟨_,_,rfl,rfl,rfl,rfl,zCP⟩,rfl,trivial⟩ ⟨.inr ⟨rfl,rfl⟩,.inl rfl,.inl rfl,.inl rfl,trivial⟩ rfl (fun Xt old=>?_);refine zaN ?_;unfold zep at h;refine jq [13,14] (jb h fun v uC h=>jr (ra 3 [.sl Rp.byte [0] wv.b,kI tov] rfl (zgE none (some (kI tov)) rfl zbd.el (zcb _ _ _) ⟨rfl,rfl⟩ ⟨rfl,rfl⟩ uC) rfl rf) (jb h fun rv uo h=>jr (rl 2 [0] 13 call111 (zgd uo) (rfl' [15])) (jp (jI h ?_ ?_))))<;>intro ul h
 ·refine jr (rc 0 rfl (zJ (r:=zh) [] [] (⟨(⟨0,0,0,0,0⟩:zo),0,false⟩:zf) rfl zxY rfl rfl) rf) ?_;cases h;exact zbW (lks [14] [(14,3)] lw)
 refine jr (rc 5 rfl (zJ (r:=zm) [kI uq,kI rv.1.Number,kI rv.1.Wire] [] (⟨uq,rv.1.Number,rv.1.Wire⟩:zk) rfl zIp rfl rfl) (rfl' [16])) (jr (lb 2 zm [] (⟨uq,rv.1.Number,rv.1.Wire⟩:zk) (ra 0 [.om zm zh 2 [0] wv.met,.rc zm [] (⟨uq,rv.1.Number,rv.1.Wire⟩:zk)] rfl (zmh (rk:=zm) (rv:=zh) (m:=wv.met) (k:=(⟨uq,rv.1.Number,rv.1.Wire⟩:zk)) (.rc zh [0] ((mget wv.met (⟨uq,rv.1.Number,rv.1.Wire⟩:zk)).getD (⟨(⟨0,0,0,0,0⟩:zo),0,false⟩:zf))) rfl zAJ (zbn rfl) (zvu rfl)) rfl (rfl' [17]))) (jp (jI h ?_ ?_)))<;>intro up h
 ·refine jb h fun x uA h=>jb h fun vA uu h=>jr (rx 3 [0] znc.el uA rfl rfl (rc 0 rfl (lde ze [0] x zCN) (rl 2 [0] 16 call112 (zoR uu) rf))) (jp (jI h ?_ ?_))<;>intro ut h
  ·refine jr (rc 0 rfl (zJ (r:=zh) [] [] (⟨(⟨0,0,0,0,0⟩:zo),0,false⟩:zf) rfl zxY rfl rfl) rf) ?_;cases h;exact zbW (lks [14] [(14,3)] lw)
  refine jr (lb 2 zm [] (⟨uq,rv.1.Number,rv.1.Wire⟩:zk) (lb 0 zh [] vA.1 (rms (C1:=[]) (D:=[]) 0 [] 2 [0] wv.met (⟨uq,rv.1.Number,rv.1.Wire⟩:zk) vA.1 [0] zAJ (zbn rfl) (zbn rfl) rf))) (jr (lb 0 zB [] rv.1 rf) (jr (lb 0 zh [] (⟨rv.1,vA.1.Field,vA.1.Run⟩:zf) rf) ?_));cases h;exact zbW (lks [14] [(14,3)] lw)
 refine jr (lb 0 zB [] rv.1 rf) (jr (lb 0 zh [] (⟨rv.1,((mget wv.met (⟨uq,rv.1.Number,rv.1.Wire⟩:zk)).getD (⟨(⟨0,0,0,0,0⟩:zo),0,false⟩:zf)).Field,((mget wv.met (⟨uq,rv.1.Number,rv.1.Wire⟩:zk)).getD (⟨(⟨0,0,0,0,0⟩:zo),0,false⟩:zf)).Run⟩:zf) rf) ?_);cases h;exact zbW (lks [14] [(14,3)] lw)
theorem zvW (h:zjN k b=some r):vy 180 [kI k,.sl Rp.byte [0] b] [kI r.1,k8 r.2]:=by
 refine zua (E:=⟨[(4,.ptr 2 0),(5,.ptr 3 0)],[⟨2,3,[kI r.1]⟩,⟨3,27,[k8 r.2]⟩]⟩) 20 func180 rfl rfl rfl ⟨⟨_,_,rfl,rfl,rfl,rfl⟩,⟨_,_,rfl,rfl,rfl,rfl⟩,trivial⟩ rfl rfl (fun Xt=>?_);refine zaN ?_;unfold zjN at h;refine jq [13,14] (jq [15] (jb h fun rv uo h=>jr (rl 2 [0] 0 call162 (zmV uo) rf) (zD (jb h fun q uy h=>zlg (E':=⟨[(4,.ptr 13 0),(5,.ptr 14 0),(6,.ptr 15 0),(11,.fv 199 [.bp vv 3 919900 [] rv.1,.bp (Rp.list Rp.byte) 24 919901 [0] rv.2])],[⟨13,3,[kI 0]⟩,⟨14,27,[k8 0]⟩,⟨15,3,[kI 0]⟩]⟩) ?_ ?_))))
 · exact lzz
 refine zxd (it:=fun {σ:Type} (kf:Rnd σ ((List UInt8)×Int)) (sg:σ)=>zcR rv.1 rv.2 kf sg) (zkK rv.1 rv.2) [919900,919901] [4,5,6] [13,14,15] [(4,.ptr 13 0),(5,.ptr 14 0),(6,.ptr 15 0)] (fun s:Int=>[⟨13,3,[kI 0]⟩,⟨14,27,[k8 0]⟩,⟨15,3,[kI s]⟩]) (fun o:(Int×Int)=>[⟨13,3,[kI 0]⟩,⟨14,27,[k8 o.1]⟩,⟨15,3,[kI o.2]⟩]) (fun o:(Int×Int)=> .ret) (fun (s:Int) (x:((List UInt8)×Int))=>zdC s x.1 x.2) (fun (s:Int) (x:((List UInt8)×Int))=>⟨[(4,.ptr 13 0),(5,.ptr 14 0),(6,.ptr 15 0),(8,k8 x.2)],[⟨13,3,[kI 0]⟩,⟨14,27,[k8 0]⟩,⟨15,3,[kI s]⟩]⟩) rfl rfl call199 rfl rfl rfl rfl rfl rfl (fun _=>rfl) (fun o=>rfl) rfl rfl (fun _=>rfl) ?_ (fun _ _=>⟨rfl,rfl⟩) ?_ uy ?_
 ·clear h;intro Xr old f x;obtain ⟨x,x2⟩:=x;exact zaN (zlg (E':=⟨[(13,k8 x2),(12,.sl Rp.byte [0] x),(4,.ptr 13 0),(5,.ptr 14 0),(6,.ptr 15 0)],[⟨13,3,[kI 0]⟩,⟨14,27,[k8 0]⟩,⟨15,3,[kI f]⟩]⟩) (fun _ _ _ hs=>hs) jy)
 ·clear h;intro Xr old f x o h;obtain ⟨x,x2⟩:=x;refine zaN (zlg (E':=⟨[(4,.ptr 13 0),(5,.ptr 14 0),(6,.ptr 15 0),(8,k8 x2)],[⟨13,3,[kI 0]⟩,⟨14,27,[k8 0]⟩,⟨15,3,[kI f]⟩]⟩) (fun _ _ _ hs=>hs) ?_);replace h:zdC f x x2=some o:=h;unfold zdC at h;refine zD (jp (jI h ?_ ?_))<;>intro ul h
  ·refine jp ?_;cases h;exact zAu lzz
  refine jp (zaA ?_);cases h;exact zaT lzz
 rcases q with u| j
 ·refine zlg (E':=⟨[(4,.ptr 13 0),(5,.ptr 14 0),(6,.ptr 15 0)],[⟨13,3,[kI 0]⟩,⟨14,27,[k8 0]⟩,⟨15,3,[kI u]⟩]⟩) (fun _ _ _ hs=>hs) (zaA (jp ?_));cases h;exact zI (lks [13,14] [(13,2),(14,3)] lzz)
 refine zlg (E':=⟨[(4,.ptr 13 0),(5,.ptr 14 0),(6,.ptr 15 0)],[⟨13,3,[kI 0]⟩,⟨14,27,[k8 j.1]⟩,⟨15,3,[kI j.2]⟩]⟩) (fun _ _ _ hs=>hs) ?_;cases h;exact zI (lks [13,14] [(13,2),(14,3)] lzz)
theorem zoo (h:zeH wv uq b uv=some r):zfx prog 78 [.ag [.sl ze [0] wv.s,.om zc vv 2 [0] wv.met],kI uq,.sl Rp.byte [0] b,kI uv] [.rc zB [] r.1,kI r.2.1] [.ag [.any,.om zc vv 2 [0] r.2.2],.any,.any,.any]:=by
 refine zgB (E:=⟨[(0,.ag [.any,.om zc vv 2 [0] r.2.2]),(8,.ptr 3 0),(9,kI r.2.1)],[⟨3,66,(zaL r.1)⟩]⟩) 55 [0] func78 rfl rfl rfl ⟨⟨_,_,rfl,rfl,rfl,rfl,zCO⟩,rfl,trivial⟩ ⟨.inr ⟨rfl,rfl⟩,.inl rfl,.inl rfl,.inl rfl,trivial⟩ rfl (fun Xt old=>?_);refine zaN ?_;unfold zeH at h;refine jq [13,14] (jb h fun rv uo h=>jr (rl 2 [0] 13 call111 (zgd uo) (rfl' [15])) (jr (rc 3 rfl (zJ (r:=zc) [kI uq,kI rv.1.Number] [] (⟨uq,rv.1.Number⟩:zd) rfl zEQ rfl rfl) (rfl' [16])) (jr (lb 2 zc [] (⟨uq,rv.1.Number⟩:zd) (ra 0 [.om zc vv 2 [0] wv.met,.rc zc [] (⟨uq,rv.1.Number⟩:zd)] rfl (zmh (rk:=zc) (rv:=vv) (m:=wv.met) (k:=(⟨uq,rv.1.Number⟩:zd)) (kI ((mget wv.met (⟨uq,rv.1.Number⟩:zd)).getD 0)) rfl zvI (zbn rfl) (znO rfl rfl rfl)) rfl rf)) (jp (jI h ?_ ?_)))))<;>intro ul h
 ·refine jb h fun x uA h=>jb h fun vA uu h=>jr (rx 3 [0] znc.el uA rfl rfl (rc 0 rfl (lde ze [0] x zCN) (rl 2 [0] 15 call112 (zoR uu) (rfl' [17])))) (jp (jr (lb 2 zc [] (⟨uq,rv.1.Number⟩:zd) (rms (C1:=[]) 1 [] 2 [0] wv.met (⟨uq,rv.1.Number⟩:zd) vA.1.Field [0] zvI (zbn rfl) (zcJ rfl rfl) rf)) (jr (lb 0 zB [] rv.1 rf) ?_)));cases h;exact zbW (lks [14] [(14,3)] lw)
 refine jr (lb 0 zB [] rv.1 rf) ?_;cases h;exact zbW (lks [14] [(14,3)] lw)
theorem zvX (h:zjO k b=some r):vy 128 [kI k,.sl Rp.byte [0] b] [.own vx 90 3 [] r.1,k8 r.2]:=by
 refine zua (E:=⟨[(4,.ptr 2 0),(5,.ptr 4 0)],[⟨2,76,[.own vx 90 3 [] r.1]⟩,⟨4,27,[k8 r.2]⟩]⟩) 30 func128 rfl rfl rfl ⟨⟨_,_,rfl,rfl,rfl,rfl⟩,⟨_,_,rfl,rfl,rfl,rfl⟩,trivial⟩ rfl rfl (fun Xt=>?_);refine zaN ?_;unfold zjO at h;refine jq [18,19,20] (jq [21] (jb h fun rv uo h=>jr (rl 2 [0] 0 call162 (zmV uo) rf) (zD (jb h fun q uy h=>zlg (E':=⟨[(2,.ptr 18 0),(4,.ptr 19 0),(5,.ptr 20 0),(6,.ptr 21 0),(13,.fv 199 [.bp vv 3 919900 [] rv.1,.bp (Rp.list Rp.byte) 24 919901 [0] rv.2])],[⟨18,3,[kI k]⟩,⟨19,76,[kN]⟩,⟨20,27,[k8 0]⟩,⟨21,76,[.own vx 90 24 [] []]⟩]⟩) ?_ ?_))))
 · exact lw
 refine zxd (it:=fun {σ:Type} (kf:Rnd σ ((List UInt8)×Int)) (sg:σ)=>zcR rv.1 rv.2 kf sg) (zkK rv.1 rv.2) [919900,919901] [2,4,5,6] [18,19,20,21] [(2,.ptr 18 0),(4,.ptr 19 0),(5,.ptr 20 0),(6,.ptr 21 0)] (fun s:(List Int)=>[⟨18,3,[kI k]⟩,⟨19,76,[kN]⟩,⟨20,27,[k8 0]⟩,⟨21,76,[.own vx 90 24 [] s]⟩]) (fun o:(Int×(List Int))=>[⟨18,3,[kI k]⟩,⟨19,76,[kN]⟩,⟨20,27,[k8 o.1]⟩,⟨21,76,[.own vx 90 24 [] o.2]⟩]) (fun o:(Int×(List Int))=> .ret) (fun (s:(List Int)) (x:((List UInt8)×Int))=>zcp k s x.1 x.2) (fun (s:(List Int)) (x:((List UInt8)×Int))=>⟨[(2,.ptr 18 0),(4,.ptr 19 0),(5,.ptr 20 0),(6,.ptr 21 0),(7,.sl Rp.byte [0] x.1),(8,k8 x.2)],[⟨18,3,[kI k]⟩,⟨19,76,[kN]⟩,⟨20,27,[k8 0]⟩,⟨21,76,[.own vx 90 24 [] s]⟩]⟩) rfl rfl call199 rfl rfl rfl rfl rfl rfl (fun _=>rfl) (fun o=>rfl) rfl rfl (fun _=>rfl) ?_ (fun _ _=>⟨rfl,rfl⟩) ?_ uy ?_
 ·clear h;intro Xr old f x;obtain ⟨x,x2⟩:=x;exact zaN (zlg (E':=⟨[(15,k8 x2),(14,.sl Rp.byte [0] x),(2,.ptr 18 0),(4,.ptr 19 0),(5,.ptr 20 0),(6,.ptr 21 0)],[⟨18,3,[kI k]⟩,⟨19,76,[kN]⟩,⟨20,27,[k8 0]⟩,⟨21,76,[.own vx 90 24 [] f]⟩]⟩) (fun _ _ _ hs=>hs) (jp jy))
 ·clear h;intro Xr old f x o h;obtain ⟨x,x2⟩:=x;refine zaN (zlg (E':=⟨[(2,.ptr 18 0),(4,.ptr 19 0),(5,.ptr 20 0),(6,.ptr 21 0),(7,.sl Rp.byte [0] x),(8,k8 x2)],[⟨18,3,[kI k]⟩,⟨19,76,[kN]⟩,⟨20,27,[k8 0]⟩,⟨21,76,[.own vx 90 24 [] f]⟩]⟩) (fun _ _ _ hs=>hs) ?_);replace h:zcp k f x x2=some o:=h;unfold zcp at h;refine zD (jp (jI h ?_ ?_))<;>intro ul h
  ·refine jp ?_;cases h;exact zAu lzz
  refine jb h fun vA uu h=>jr (rl 2 [0] 23 call163 (zsS uu) rf) (jb h fun v uC h=>jr (rc 2 rfl (ziq [kU vA.1] 25 [] ([vA.1]:(List Int)) rfl zFk rfl rfl rfl rfl) (rc 0 rfl (lao 24 [] 90 25 [] [] zFk.el uC (.inl (zCj _))) rf)) (zaA ?_));cases h;exact zaT lzz
 rcases q with u| j
 ·refine zlg (E':=⟨[(2,.ptr 18 0),(4,.ptr 19 0),(5,.ptr 20 0),(6,.ptr 21 0)],[⟨18,3,[kI k]⟩,⟨19,76,[kN]⟩,⟨20,27,[k8 0]⟩,⟨21,76,[.own vx 90 24 [] u]⟩]⟩) (fun _ _ _ hs=>hs) (zaA (jp ?_));cases h;exact zI (lks [19,20] [(19,2),(20,4),(24,3)] lzz)
 refine zlg (E':=⟨[(2,.ptr 18 0),(4,.ptr 19 0),(5,.ptr 20 0),(6,.ptr 21 0)],[⟨18,3,[kI k]⟩,⟨19,76,[kN]⟩,⟨20,27,[k8 j.1]⟩,⟨21,76,[.own vx 90 24 [] j.2]⟩]⟩) (fun _ _ _ hs=>hs) ?_;cases h;exact zI (lks [19,20] [(19,2),(20,4)] lw)
end Go.Proofs.YtaglemhabeipfaaGreat
