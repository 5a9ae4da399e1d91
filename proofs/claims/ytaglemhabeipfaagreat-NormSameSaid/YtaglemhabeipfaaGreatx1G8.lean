/-
  The Go functions do what the plain functions say. No condition.
-/
import Derived.Test.YtaglemhabeipfaaGreatx1G7
set_option autoImplicit true
set_option relaxedAutoImplicit true
namespace Go.Proofs.YtaglemhabeipfaaGreat
open Tryz
open Go Go.RowKit
set_option linter.unusedVariables false
set_option maxRecDepth 100000
set_option maxHeartbeats 3200000
theorem zyD (h:zlM vb sv va b d=some r):wO 47 [.sl zg [0] sv,kI va,.sl Rp.byte [0] b,kI d] [.rc zah [] r]:=by
 refine fj ⟨[(8,.ptr 2 0)],[⟨2,103,(zjr r)⟩]⟩ 29 func47 ⟨⟨_,_,rfl,rfl,rfl,rfl,zEc⟩,trivial⟩ fun Xt=>?_
 unfold zlM at h;refine jq [12] (jb h fun rv uP h=>jr (rl 3 [0] 11 call76 (zyC uP) rf) (jp (jI h ?_ ?_)))<;>intro uM h
 ·refine jr (rc 1 rfl (zL (r:=zah) [k8 rv] [] (⟨0,0,rv⟩:zx) rfl zun rfl rfl) rf) ?_;cases h;exact zy (lks [12] [(12,2)] lzz)
 refine jr (rc 2 rfl (znv (rk:=zn) (rv:=zk) 13 rfl) (rc 0 rfl (lbd [.sl zg [0] sv,.sl Rp.byte [0] b,.om zn zk 13 [] ([]:(List (zm×zi)))] zNN) (rfl' [14]))) (jb h fun wV uZ h=>jr (rkl 5 [] ⟨[(8,.ptr 12 0),(23,.ag [.sl zg [0] sv,.sl Rp.byte [0] b,.om zn zk 13 [] ([]:(List (zm×zi)))]),(24,kI va),(26,kI (b.length:Int)),(27,kI d)],[⟨12,103,[kI 0,kI 0,k8 0]⟩]⟩ (ziS ⟨[(8,.ptr 12 0),(23,.ag [.sl zg [0] sv,.sl Rp.byte [0] b,.om zn zk 13 [0] wV.2]),(24,kI va),(26,kI (b.length:Int)),(27,kI d)],[⟨12,103,[kI 0,kI 0,k8 0]⟩]⟩ (zmx [.ag [.sl zg [0] sv,.sl Rp.byte [0] b,.om zn zk 13 [] ([]:(List (zm×zi)))],kI va,kI 0,kI (b.length:Int),kI d] [(13,2)] [0] 14 [] rfl call77 (zpg uZ) rfl rfl (by kernel_rfl) rfl rfl rfl) rfl (by kernel_rfl) (by kernel_rfl) ⟨⟨_,rfl,zp rfl⟩,⟨_,rfl,zhR ⟨zp rfl,zp rfl,zeL 0 rfl,trivial⟩⟩,⟨_,rfl,zp rfl⟩,⟨_,rfl,zp rfl⟩,⟨_,rfl,zp rfl⟩,trivial⟩ ⟨⟨_,rfl,rfl,rfl,⟨zp rfl,zp rfl,zp rfl,trivial⟩⟩,trivial⟩ rf)) ?_);cases h;exact zy (lks [12] [(12,2)] lzz)
theorem zxd (h:zki vb sv va b=some r):wO 27 [.sl zg [0] sv,kI va,.sl Rp.byte [0] b] [.own Rp.byte 5 2 [] r]:=by
 refine fi 15 func27 fun Xt=>?_
 unfold zki at h;refine jp (jr (rc 1 rfl (znv (rk:=zf) (rv:=wM) 16 rfl) (rc 0 rfl (lbd [.sl zg [0] sv,.om zf wM 16 [] ([]:(List (zh×Int)))] zNM) (rfl' [17]))) (jb h fun wQ uT h=>jr (rkl 3 [] ⟨[(11,.ag [.sl zg [0] sv,.om zf wM 16 [] ([]:(List (zh×Int)))]),(12,kI va),(13,.sl Rp.byte [0] b)],[]⟩ (ziS ⟨[(11,.ag [.sl zg [0] sv,.om zf wM 16 [0,21] wQ.2]),(12,kI va),(13,.sl Rp.byte [0] b)],[]⟩ (znf.le (ins':=[(.tmp 11,.ag [.sl zg [0] sv,.om zf wM 16 [] ([]:(List (zh×Int)))]),(.const (.slice none 0 0),kN),(.tmp 12,kI va),(.tmp 13,.sl Rp.byte [0] b)]) (zqk (args:=[.tmp 11,.const (.slice none 0 0),.tmp 12,.tmp 13]) [.ag [.sl zg [0] sv,.om zf wM 16 [] ([]:(List (zh×Int)))],.own Rp.byte 5 20 [] ([]:(List UInt8)),kI va,.sl Rp.byte [0] b] [(20,801000),(16,800002)] [0] 19 [20] rfl call48 (zpQ uT) rfl rfl rfl rfl rfl rfl) ⟨⟨rfl,wP _⟩,⟨rfl,zwS Rp.byte 5 20 [] rfl⟩,⟨rfl,wP _⟩,⟨rfl,wP _⟩,trivial⟩) rfl (by kernel_rfl) (by kernel_rfl) ⟨⟨_,rfl,zhR ⟨zp rfl,zeL 0 rfl,trivial⟩⟩,⟨_,rfl,zp rfl⟩,⟨_,rfl,zp rfl⟩,trivial⟩ trivial rf)) ?_));cases h;exact zy (lks [] [(20,2)] lzz)
theorem zxZ (h:zkr vb sv va b d=some r):wO 26 [.sl zg [0] sv,kI va,.sl Rp.byte [0] b,kI d] [kI r.1,k8 r.2]:=by
 refine fi 20 func26 fun Xt=>?_
 unfold zkr at h;refine jp (jb h fun rv uP h=>jr (rl 4 [0] 9 call47 (zyD uP) (rfl' [11])) (jd [8,9] [] zdo (by exact l0) ?_));cases h;exact zy lzz
theorem zoo (h:zjz vb sv va b d=some r):wO 9 [.sl zg [0] sv,kI va,.sl Rp.byte [0] b,kI d] [.own Rp.byte 5 2 [] r.1,k8 r.2]:=by
 refine fi 27 func9 fun Xt=>?_
 unfold zjz at h;refine jp (jb h fun rv uP h=>jr (rl 4 [0] 10 call26 (zxZ uP) rf) (jp (jI h ?_ ?_)))<;>intro uM h
 ·refine jp ?_;cases h;exact zy lw
 refine jb h fun wQ uT h=>jr (rl 3 [0] 10 call27 (zxd uT) rf) ?_;cases h;exact zy (lks [] [(12,2)] lzz)
theorem zoQ (h:zeX vb=some r):wO 7 [] [kB r]:=by
 refine fi 22 func7 fun Xt=>?_
 unfold zeX at h;refine jp (jr (rc 0 rfl (zL (r:=zb) [kS [97],kI 1,kI 3] [] (⟨[97],1,3,false,false,0⟩:za) rfl zOF rfl rfl) (rc 0 rfl (lbs1 11 [] (⟨[97],1,3,false,false,0⟩:za) zkv) (rc 0 rfl (lbd [kS [109],.own zb 59 11 [] ([(⟨[97],1,3,false,false,0⟩:za)]:(List za))] zOD) (rc 0 rfl (zz.lw (lbs1 12 [11] (⟨[109],([(⟨[97],1,3,false,false,0⟩:za)]:(List za))⟩:ze) zhp) (.l (zmp zg [11] (⟨[109],([(⟨[97],1,3,false,false,0⟩:za)]:(List za))⟩:ze) [kS [109],.own zb 59 11 [] ([(⟨[97],1,3,false,false,0⟩:za)]:(List za))] rfl rfl))) rf)))) (jb h fun rv uP h=>jr (rc 1 rfl (zfR [.lf (.int .u8 8),.lf (.int .u8 129),.lf (.int .u8 0),.lf (.int .u8 8),.lf (.int .u8 130),.lf (.int .u8 0)] 13 [] [(8:UInt8),(129:UInt8),(0:UInt8),(8:UInt8),(130:UInt8),(0:UInt8)] rfl zbd rfl rfl rfl rfl) (rl 0 [12,11,13] 12 call9 (zoo uP) rf)) (jb h fun g uO h=>jg [] [] [(0,kB g)] ?_ ?_)))
 ·refine (rsI 4 17 uO ?_ ?_)<;>intro uM uO
  ·refine jb uO fun wQ uT uO=>?_;cases uO;exact (rc 1 rfl (zfR [.lf (.int .u8 8),.lf (.int .u8 2)] 15 [] [(8:UInt8),(2:UInt8)] rfl zbd rfl rfl rfl rfl) (rl 0 [14,15] 14 call15 (zpo uT) rgg))
  cases uO;exact rgg
 obtain rfl:=(sj h);exact zy lzz
theorem zAO (h:znx vb sv va av b d=some r):wO 18 [.sl zg [0] sv,kI va,.sl Rp.byte [0] av,.sl Rp.byte [0] b,kI d] [kB r.1,k8 r.2]:=by
 refine fi 42 func18 fun Xt=>?_
 unfold znx at h;refine jp (jb h fun rv uP h=>jr (rl 4 [0] 9 call9 (zoo uP) rf) (jp (jI h ?_ ?_)))<;>intro uM h
 ·cases h;exact jz
 refine jb h fun wQ uT h=>jr (rl 4 [0] 10 call9 (zoo uT) rf) (jb h fun g uO h=>jg [] [] [(10,kB g),(11,k8 wQ.2)] ?_ ?_)
 ·refine (rsI 3 36 uO ?_ ?_)<;>intro uN uO
  ·refine jb uO fun wV uZ uO=>?_;cases uO;exact (rl 2 [11,12] 11 call28 (zwh uZ) rgg)
  cases uO;exact rgg
 cases h;exact zy lzz
theorem zmC (h:zdF vb sv va av b d=some r):wO 4 [.sl zg [0] sv,kI va,.sl Rp.byte [0] av,.sl Rp.byte [0] b,kI d] [kB r]:=by
 refine fi 81 func4 fun Xt=>?_
 unfold zdF at h;refine jp (jb h fun rv uP h=>jr (rl 0 [1] 9 call7 (zoQ uP) rf) (jI h ?_ ?_))<;>intro uM h
 ·refine jp ?_;obtain rfl:=(sj h);exact zy lzz
 refine jb h fun wQ uT h=>jg [0,1,2,3,4] [] [(27,kB ((!wQ)|| (decide ((IntKind.i64.wrap ((av.length:Int)+(b.length:Int)))>1500))))] ?_ ?_
 ·refine (rl 1 [0] 9 call8 (zra uT) (rsl 2 [] 20 (!wQ) ?_ ?_))<;>intro uN
  · exact (rbl [] 27 true rfl (by grind))
  exact (rbl [] 27 (decide ((IntKind.i64.wrap ((av.length:Int)+(b.length:Int)))>1500)) rfl (by grind))
 refine jI h ?_ ?_<;>intro uQ h
 ·refine jp ?_;obtain rfl:=(sj h);exact zy lzz
 refine jb h fun wV uZ h=>jr (rl 5 [0] 9 call18 (zAO uZ) rf) (jb h fun kc vf h=>jr (rl 4 [0] 9 call12 (zjh vf) rf) (jp (jb h fun p vi h=>jn (.N [0,1,2,3,11,12] [] [(14,kI p)] []) ?_ ?_)))
 ·replace h:=vi;refine jI h ?_ ?_<;>intro uS h
  ·refine jb h fun rv5 vq h=>jr (rl 4 [0] 9 call12 (zjh vq) rf) ?_;cases h;exact zS lzz
  cases h;exact zS lzz
 refine zez (jp (jI h ?_ ?_))<;>intro uU h
 ·refine jg [] [] [(10,kB (((IntKind.i64.wrap wV.2)==p)&&(!wV.1)))] ?_ ?_
  ·refine (rsl 5 [] 61 ((IntKind.i64.wrap wV.2)==p) ?_ ?_)<;>intro uW
   · exact (rbl [] 10 (!wV.1) rfl (by grind))
   exact (rbl [] 10 false rfl (by grind))
  cases h;exact zy lzz
 refine jb h fun g uO h=>jg [] [] [(10,kB g)] ?_ ?_
 ·refine (rsI 4 68 uO ?_ ?_)<;>intro u0 uO
  ·refine jb uO fun rv6 vI uO=>jb uO fun rv7 vO uO=>jb uO fun rv8 vP uO=>?_;cases uO;exact (rl 4 [0] 9 call20 (zll vI) (rl 3 [0] 13 call20 (zll vO) (rc 0 rfl (lcz [.ag (zaz 12 [13] 14 [] rv6),.ag (zaz 16 [17] 18 [] rv7)] 17 call19 (zpx vP) (.c (zfg _) (.c (zfg _) .n))) rgg)))
  cases uO;exact rgg
 obtain rfl:=(sj h);exact zy lzz
end Go.Proofs.YtaglemhabeipfaaGreat
