/-
  The Go functions do what the plain functions say. No condition.
-/
import Derived.Test.YtaglemhabeipfaaGreatx3G7
set_option autoImplicit true
set_option relaxedAutoImplicit true
namespace Go.Proofs.YtaglemhabeipfaaGreat
open Tryz
open Go Go.RowKit
set_option linter.unusedVariables false
set_option maxRecDepth 100000
set_option maxHeartbeats 3200000
theorem ztF (h:ziE uF sv uD b d=some r):vy 47 [.sl ze [0] sv,kI uD,.sl Rp.byte [0] b,kI d] [.rc zY [] r]:=by
 refine fj ⟨[(8,.ptr 2 0)],[⟨2,103,(zgy r)⟩]⟩ 29 func47 ⟨⟨_,_,rfl,rfl,rfl,rfl,zyF⟩,trivial⟩ fun Xt=>?_
 unfold ziE at h;refine jq [12] (jb h fun rv uo h=>jr (rl 3 [0] 11 call76 (ztE uo) rf) (jp (jI h ?_ ?_)))<;>intro ul h
 ·refine jr (rc 1 rfl (zJ (r:=zY) [k8 rv] [] (⟨0,0,rv⟩:zu) rfl zpI rfl rfl) rf) ?_;cases h;exact zI (lks [12] [(12,2)] lzz)
 refine jr (rc 2 rfl (zjF (rk:=zm) (rv:=zh) 13 rfl) (rc 0 rfl (lbd [.sl ze [0] sv,.sl Rp.byte [0] b,.om zm zh 13 [] ([]:(List (zk×zf)))] zIi) (rfl' [14]))) (jb h fun vG uz h=>jr (rkl 5 [] ⟨[(8,.ptr 12 0),(23,.ag [.sl ze [0] sv,.sl Rp.byte [0] b,.om zm zh 13 [] ([]:(List (zk×zf)))]),(24,kI uD),(26,kI (b.length:Int)),(27,kI d)],[⟨12,103,[kI 0,kI 0,k8 0]⟩]⟩ (zge ⟨[(8,.ptr 12 0),(23,.ag [.sl ze [0] sv,.sl Rp.byte [0] b,.om zm zh 13 [0] vG.2]),(24,kI uD),(26,kI (b.length:Int)),(27,kI d)],[⟨12,103,[kI 0,kI 0,k8 0]⟩]⟩ (ziW [.ag [.sl ze [0] sv,.sl Rp.byte [0] b,.om zm zh 13 [] ([]:(List (zk×zf)))],kI uD,kI 0,kI (b.length:Int),kI d] [(13,2)] [0] 14 [] rfl call77 (zkV uz) rfl rfl (by kernel_rfl) rfl rfl rfl) rfl (by kernel_rfl) (by kernel_rfl) ⟨⟨_,rfl,zp rfl⟩,⟨_,rfl,zfi ⟨zp rfl,zp rfl,zcP 0 rfl,trivial⟩⟩,⟨_,rfl,zp rfl⟩,⟨_,rfl,zp rfl⟩,⟨_,rfl,zp rfl⟩,trivial⟩ ⟨⟨_,rfl,rfl,rfl,⟨zp rfl,zp rfl,zp rfl,trivial⟩⟩,trivial⟩ rf)) ?_);cases h;exact zI (lks [12] [(12,2)] lzz)
theorem zsq (h:zhl uF sv uD b=some r):vy 27 [.sl ze [0] sv,kI uD,.sl Rp.byte [0] b] [.own Rp.byte 5 2 [] r]:=by
 refine fi 15 func27 fun Xt=>?_
 unfold zhl at h;refine jp (jr (rc 1 rfl (zjF (rk:=zc) (rv:=vv) 16 rfl) (rc 0 rfl (lbd [.sl ze [0] sv,.om zc vv 16 [] ([]:(List (zd×Int)))] zIh) (rfl' [17]))) (jb h fun vA uu h=>jr (rkl 3 [] ⟨[(11,.ag [.sl ze [0] sv,.om zc vv 16 [] ([]:(List (zd×Int)))]),(12,kI uD),(13,.sl Rp.byte [0] b)],[]⟩ (zge ⟨[(11,.ag [.sl ze [0] sv,.om zc vv 16 [0,21] vA.2]),(12,kI uD),(13,.sl Rp.byte [0] b)],[]⟩ (zjq.le (ins':=[(.tmp 11,.ag [.sl ze [0] sv,.om zc vv 16 [] ([]:(List (zd×Int)))]),(.const (.slice none 0 0),kN),(.tmp 12,kI uD),(.tmp 13,.sl Rp.byte [0] b)]) (zlN (args:=[.tmp 11,.const (.slice none 0 0),.tmp 12,.tmp 13]) [.ag [.sl ze [0] sv,.om zc vv 16 [] ([]:(List (zd×Int)))],.own Rp.byte 5 20 [] ([]:(List UInt8)),kI uD,.sl Rp.byte [0] b] [(20,801000),(16,800002)] [0] 19 [20] rfl call48 (zls uu) rfl rfl rfl rfl rfl rfl) ⟨⟨rfl,vz _⟩,⟨rfl,zsd Rp.byte 5 20 [] rfl⟩,⟨rfl,vz _⟩,⟨rfl,vz _⟩,trivial⟩) rfl (by kernel_rfl) (by kernel_rfl) ⟨⟨_,rfl,zfi ⟨zp rfl,zcP 0 rfl,trivial⟩⟩,⟨_,rfl,zp rfl⟩,⟨_,rfl,zp rfl⟩,trivial⟩ trivial rf)) ?_));cases h;exact zI (lks [] [(20,2)] lzz)
theorem ztg (h:zhv uF sv uD b d=some r):vy 26 [.sl ze [0] sv,kI uD,.sl Rp.byte [0] b,kI d] [kI r.1,k8 r.2]:=by
 refine fi 20 func26 fun Xt=>?_
 unfold zhv at h;refine jp (jb h fun rv uo h=>jr (rl 4 [0] 9 call47 (ztF uo) (rfl' [11])) (jd [8,9] [] zhj (by exact l0) ?_));cases h;exact zI lzz
theorem zfY (h:zeT uF sv uD b d=some r):vy 9 [.sl ze [0] sv,kI uD,.sl Rp.byte [0] b,kI d] [.own Rp.byte 5 2 [] r.1,k8 r.2]:=by
 refine fi 27 func9 fun Xt=>?_
 unfold zeT at h;refine jp (jb h fun rv uo h=>jr (rl 4 [0] 10 call26 (ztg uo) rf) (jp (jI h ?_ ?_)))<;>intro ul h
 ·refine jp ?_;cases h;exact zI lw
 refine jb h fun vA uu h=>jr (rl 3 [0] 10 call27 (zsq uu) rf) ?_;cases h;exact zI (lks [] [(12,2)] lzz)
theorem zkP (h:zdb uF=some r):vy 7 [] [kB r]:=by
 refine fi 22 func7 fun Xt=>?_
 unfold zdb at h;refine jp (jr (rc 0 rfl (zJ (r:=zb) [kS [97],kI 1,kI 3] [] (⟨[97],1,3,false,false,0⟩:za) rfl zIX rfl rfl) (rc 0 rfl (lbs1 11 [] (⟨[97],1,3,false,false,0⟩:za) zqx) (rc 0 rfl (lbd [kS [109],.own zb 59 11 [] ([(⟨[97],1,3,false,false,0⟩:za)]:(List za))] zIW) (rc 0 rfl (zy.lw (lbs1 12 [11] (⟨[109],([(⟨[97],1,3,false,false,0⟩:za)]:(List za))⟩:zg) znc) (.l (zod ze [11] (⟨[109],([(⟨[97],1,3,false,false,0⟩:za)]:(List za))⟩:zg) [kS [109],.own zb 59 11 [] ([(⟨[97],1,3,false,false,0⟩:za)]:(List za))] rfl rfl))) rf)))) (jb h fun rv uo h=>jr (rc 1 rfl (ziq [.lf (.int .u8 8),.lf (.int .u8 129),.lf (.int .u8 0),.lf (.int .u8 8),.lf (.int .u8 130),.lf (.int .u8 0)] 13 [] [(8:UInt8),(129:UInt8),(0:UInt8),(8:UInt8),(130:UInt8),(0:UInt8)] rfl zbd rfl rfl rfl rfl) (rl 0 [12,11,13] 12 call9 (zfY uo) rf)) (jb h fun g ur h=>jg [] [] [(0,kB g)] ?_ ?_)))
 ·refine (rsI 4 17 ur ?_ ?_)<;>intro ul ur
  ·refine jb ur fun vA uu ur=>?_;cases ur;exact (rc 1 rfl (ziq [.lf (.int .u8 8),.lf (.int .u8 2)] 15 [] [(8:UInt8),(2:UInt8)] rfl zbd rfl rfl rfl rfl) (rl 0 [14,15] 14 call15 (zhe uu) rgg))
  cases ur;exact rgg
 obtain rfl:=(sj h);exact zI lzz
theorem zih (h:zbu uF sv uD av b d=some r):vy 6 [.sl ze [0] sv,kI uD,.sl Rp.byte [0] av,.sl Rp.byte [0] b,kI d] [kB r]:=by
 refine fi 101 func6 fun Xt=>?_
 unfold zbu at h;refine jp (jb h fun rv uo h=>jr (rl 0 [1] 9 call7 (zkP uo) rf) (jI h ?_ ?_))<;>intro ul h
 ·refine jp ?_;obtain rfl:=(sj h);exact zI lzz
 refine jb h fun vA uu h=>jg [0,1,2,3,4] [] [(31,kB ((!vA)|| (decide ((IntKind.i64.wrap ((av.length:Int)+(b.length:Int)))>1500))))] ?_ ?_
 ·refine (rl 1 [0] 9 call8 (zmB uu) (rsl 2 [] 24 (!vA) ?_ ?_))<;>intro up
  · exact (rbl [] 31 true rfl (by grind))
  exact (rbl [] 31 (decide ((IntKind.i64.wrap ((av.length:Int)+(b.length:Int)))>1500)) rfl (by grind))
 refine jI h ?_ ?_<;>intro ut h
 ·refine jp ?_;obtain rfl:=(sj h);exact zI lzz
 refine jb h fun vG uz h=>jr (rl 4 [0] 9 call9 (zfY uz) rf) (jb h fun rv4 uH h=>jr (rl 4 [0] 10 call9 (zfY uH) rf) (jg [0,1,2,3,4,11,13] [] [(55,kB (((IntKind.i64.wrap vG.2) !=0)|| ((IntKind.i64.wrap rv4.2) !=0)))] ?_ ?_))
 ·refine (rsl 4 [] 51 ((IntKind.i64.wrap vG.2) !=0) ?_ ?_)<;>intro uw
  · exact (rbl [] 55 true rfl (by grind))
  exact (rbl [] 55 ((IntKind.i64.wrap rv4.2) !=0) rfl (by grind))
 refine jI h ?_ ?_<;>intro uB h
 ·refine jp ?_;obtain rfl:=(sj h);exact zI lzz
 refine jb h fun v3 uG h=>jb h fun v4 uN h=>jb h fun rv5 uM h=>jr (rc 2 rfl (ziq [] 13 [] ([]:(List UInt8)) rfl zbd rfl rfl rfl rfl) (rc 1 rfl (las 13 [] [0] [] zbd.el uG (.inl zbN)) (rc 1 rfl (las 13 [] [0] [] zbd.el uN (.inl zbN)) (rl 1 [0,13] 12 call9 (zfY uM) rf)))) (jb h fun v5 uT h=>jb h fun v6 vi h=>jb h fun rv6 vh h=>jr (rc 2 rfl (ziq [] 15 [] ([]:(List UInt8)) rfl zbd rfl rfl rfl rfl) (rc 1 rfl (lao 15 [] 5 11 [] [] zbd.el uT (.inl zbN)) (rc 1 rfl (lao 15 [] 5 12 [] [] zbd.el vi (.inl zbN)) (rl 1 [0,15] 14 call9 (zfY vh) rf)))) (jb h fun g ur h=>jg [] [] [(10,kB g)] ?_ ?_))
 ·refine (rsI 7 86 ur ?_ ?_)<;>intro uE ur
  ·refine jb ur fun rv7 vu ur=>(rl 2 [14,16] 15 call15 (zhe vu) (rsI 2 91 ur ?_ ?_))<;>intro uO ur
   ·cases ur;exact rgg
   cases ur;exact rgg
  cases ur;exact rgg
 obtain rfl:=(sj h);exact zI lzz
end Go.Proofs.YtaglemhabeipfaaGreat
