/-
  The Go functions do what the plain functions say. No condition.
-/
import Derived.Test.YtkgohoggipdokaaGreatx1G7
set_option autoImplicit true
set_option relaxedAutoImplicit true
namespace Go.Proofs.YtkgohoggipdokaaGreat
open Tryz
open Go Go.RowKit
set_option linter.unusedVariables false
set_option maxRecDepth 100000
set_option maxHeartbeats 3200000
theorem zwg (h:zjw vb sv vc x=some r):w6 12 [.sl zg [0] sv,kI vc,.rc zm [0] x] [.own Rp.byte 5 2 [] r.1,k8 r.2]:=by
 refine fi 22 func12 fun Xt=>?_
 unfold zjw at h;refine jr (rc 0 rfl (lbx 16 [0] (zcv [0] x)) rf) (jb h fun rv uU h=>jr (rc 3 rfl (lw0 15 call30 (zzk uU) (.k (.k (.l (zbH [0] x))))) rf) (jp (jI h ?_ ?_)))<;>intro uS h
 ·refine jp ?_;cases h;exact zx lw
 refine jq [17] (jb h fun w8 uY h=>jr (rc 3 rfl (zy.le (ins':=[(.tmp 9,.ptr 17 0),(.tmp 17,.sl zg [0] sv),(.tmp 18,kI vc),(.tmp 19,.ag (zcd [0] x))]) (zy.leB (bx2:=[⟨17,76,[kN,kI 0]⟩]) (zhD (args:=[.tmp 9,.tmp 17,.tmp 18,.tmp 19]) [.ptr 17 0,.sl zg [0] sv,kI vc,.rc zm [0] x] [⟨17,76,[.own (Rp.list Rp.byte) 35 18 [] [],kI 0]⟩] [(17,800000),(18,800001)] [0] 17 [18] rfl call31 (ziZ uY) rfl rfl rfl rfl rfl rfl rfl rfl) ⟨⟨rfl,rfl,⟨zsP (Rp.list Rp.byte) 35 18 [] rfl,w7 _,trivial⟩⟩,trivial⟩) ⟨⟨rfl,w7 _⟩,⟨rfl,w7 _⟩,⟨rfl,w7 _⟩,⟨rfl,zbH [0] x⟩,trivial⟩) rf) (jb h fun kg vd h=>jr (rc 0 rfl (zy.conv (ins:=[(.tmp 9,.ptr 17 0)]) (zy.boxes (bxs:=[⟨17,76,(zp 18 [0,19] w8)⟩]) (lcd (args:=[.tmp 9]) [.qp zgF [17,18,0,19] (some w8)] 18 call32 (zjU vd))) ⟨⟨rfl,zMC zgF [17,18,0,19] w8 ⟨17,76,(zp 18 [0,19] w8)⟩ xz rfl rfl⟩,trivial⟩) rf) ?_));cases h;exact zx (lks [] [(20,2)] lzz)
theorem zzF (h:zmQ vb sv vc b d=some r):w6 88 [.sl zg [0] sv,kI vc,.sl Rp.byte [0] b,kI d] [.rc zaG [] r]:=by
 refine fj ⟨[(8,.ptr 2 0)],[⟨2,146,(zkh r)⟩]⟩ 29 func88 ⟨⟨_,_,rfl,rfl,rfl,rfl,zEH⟩,trivial⟩ fun Xt=>?_
 unfold zmQ at h;refine jq [12] (jb h fun rv uU h=>jr (rl 3 [0] 11 call105 (zsF uU) rf) (jp (jI h ?_ ?_)))<;>intro uS h
 ·refine jr (rc 1 rfl (zab (r:=zaG) [k8 rv] [] (⟨0,0,rv⟩:zA) rfl zvi rfl rfl) rf) ?_;cases h;exact zx (lks [12] [(12,2)] lzz)
 refine jr (rc 2 rfl (zov (rk:=zo) (rv:=zh) 13 rfl) (rc 0 rfl (lbd [.sl zg [0] sv,.sl Rp.byte [0] b,.om zo zh 13 [] ([]:(List (zk×zf)))] zNR) (rfl' [14]))) (jb h fun kg vd h=>jr (rkl 5 [] ⟨[(8,.ptr 12 0),(23,.ag [.sl zg [0] sv,.sl Rp.byte [0] b,.om zo zh 13 [] ([]:(List (zk×zf)))]),(24,kI vc),(26,kI (b.length:Int)),(27,kI d)],[⟨12,146,[kI 0,kI 0,k8 0]⟩]⟩ (znz ⟨[(8,.ptr 12 0),(23,.ag [.sl zg [0] sv,.sl Rp.byte [0] b,.om zo zh 13 [0] kg.2]),(24,kI vc),(26,kI (b.length:Int)),(27,kI d)],[⟨12,146,[kI 0,kI 0,k8 0]⟩]⟩ (znB [.ag [.sl zg [0] sv,.sl Rp.byte [0] b,.om zo zh 13 [] ([]:(List (zk×zf)))],kI vc,kI 0,kI (b.length:Int),kI d] [(13,2)] [0] 14 [] rfl call122 (zqj vd) rfl rfl (by kernel_rfl) rfl rfl rfl) rfl (by kernel_rfl) (by kernel_rfl) ⟨⟨_,rfl,zz rfl⟩,⟨_,rfl,zsE ⟨zz rfl,zz rfl,ziA 0 rfl,trivial⟩⟩,⟨_,rfl,zz rfl⟩,⟨_,rfl,zz rfl⟩,⟨_,rfl,zz rfl⟩,trivial⟩ ⟨⟨_,rfl,rfl,rfl,⟨zz rfl,zz rfl,zz rfl,trivial⟩⟩,trivial⟩ rf)) ?_);cases h;exact zx (lks [12] [(12,2)] lzz)
theorem zpV (h:zfK vb=some r):w6 8 [] [kB r]:=by
 refine fi 25 func8 fun Xt=>?_
 unfold zfK at h;refine jp (jr (rc 0 rfl (zab (r:=ze) [kS [97],kI 1,kI 3,kB true] [] (⟨[97],1,3,true,false,0⟩:za) rfl zOI rfl rfl) (rc 0 rfl (lbs1 11 [] (⟨[97],1,3,true,false,0⟩:za) zjp) (rc 0 rfl (lbd [kS [109],.own ze 47 11 [] ([(⟨[97],1,3,true,false,0⟩:za)]:(List za))] zOH) (rc 0 rfl (zy.lw (lbs1 12 [11] (⟨[109],([(⟨[97],1,3,true,false,0⟩:za)]:(List za))⟩:zc) zhl) (.l (ziP zg [11] (⟨[109],([(⟨[97],1,3,true,false,0⟩:za)]:(List za))⟩:zc) [kS [109],.own ze 47 11 [] ([(⟨[97],1,3,true,false,0⟩:za)]:(List za))] rfl rfl))) rf)))) (jb h fun rv uU h=>jr (rc 1 rfl (zey [kU 1,kU 300] 13 [] ([1,300]:(List Int)) rfl zoU rfl rfl rfl rfl) (ra 0 [kI 1,.own wZ 72 13 [] ([1,300]:(List Int))] rfl (zlV [kI 1,.own wZ 72 13 [] ([1,300]:(List Int))] [kI 1,.own wZ 72 13 [] ([1,300]:(List Int)),kN,kN] rfl zMV rfl) rfl (rc 0 rfl (zy.lw (ys:=[.ag [kI 1,.own wZ 72 13 [] ([1,300]:(List Int)),kN,kN]]) (lbs1 14 [13] (⟨1,([1,300]:(List Int)),[],[]⟩:zb) zAY) (.l (zMQ (b:= .ag [kI 1,.own wZ 72 13 [] ([1,300]:(List Int)),.sl Rp.str [] [],.sl zm [] []]) (zJD ⟨w7 _,w7 _,zha _ _,zha _ _,trivial⟩) (ziP zj [13] (⟨1,([1,300]:(List Int)),[],[]⟩:zb) [kI 1,.own wZ 72 13 [] ([1,300]:(List Int)),.sl Rp.str [] [],.sl zm [] []] (by rw [zaa]<;>rfl) rfl)))) (ra 0 [.own zj 51 14 [13] ([(⟨1,([1,300]:(List Int)),[],[]⟩:zb)]:(List zb))] rfl (zlV [.own zj 51 14 [13] ([(⟨1,([1,300]:(List Int)),[],[]⟩:zb)]:(List zb))] [.own zj 51 14 [13] ([(⟨1,([1,300]:(List Int)),[],[]⟩:zb)]:(List zb)),kN] rfl zMU rfl) rfl (rc 0 rfl (lcz [.own zg 71 12 [11] ([(⟨[109],([(⟨[97],1,3,true,false,0⟩:za)]:(List za))⟩:zc)]:(List zc)),kI 0,.ag [.own zj 51 14 [13] ([(⟨1,([1,300]:(List Int)),[],[]⟩:zb)]:(List zb)),kN]] 13 call12 (zwg uU) (.k (.k (.c (zbb _) .n)))) rf))))) (jb h fun g uV h=>jg [] [] [(0,kB g)] ?_ ?_)))
 ·refine (rsI 4 20 uV ?_ ?_)<;>intro uS uV
  ·refine jb uV fun w8 uY uV=>?_;cases uV;exact (rc 1 rfl (zey [.lf (.int .u8 10),.lf (.int .u8 3),.lf (.int .u8 1),.lf (.int .u8 172),.lf (.int .u8 2)] 16 [] [(10:UInt8),(3:UInt8),(1:UInt8),(172:UInt8),(2:UInt8)] rfl zbB rfl rfl rfl rfl) (rl 0 [15,16] 15 call16 (zkO uY) rgg))
  cases uV;exact rgg
 obtain rfl:=(sj h);exact zx lzz
theorem zyU (h:zll vb sv vc b d=some r):w6 56 [.sl zg [0] sv,kI vc,.sl Rp.byte [0] b,kI d] [kI r.1,k8 r.2]:=by
 refine fi 20 func56 fun Xt=>?_
 unfold zll at h;refine jp (jb h fun rv uU h=>jr (rl 4 [0] 9 call88 (zzF uU) (rfl' [11])) (jd [8,9] [] zdc (by exact l0) ?_));cases h;exact zx lzz
theorem zFO (h:zui vb sv vc b d=some r):w6 27 [.sl zg [0] sv,kI vc,.sl Rp.byte [0] b,kI d] [.ag (zam 3 [4] 5 [] r.1),k8 r.2]:=by
 refine fj ⟨[(8,.ptr 2 0),(9,k8 r.2)],[⟨2,27,(zam 3 [4] 5 [] r.1)⟩]⟩ 28 func27 ⟨⟨_,_,rfl,rfl,rfl,zCz⟩,rfl,trivial⟩ fun Xt=>?_
 unfold zui at h;refine jq [16] (jb h fun rv uU h=>jr (rl 4 [0] 15 call56 (zyU uU) rf) (jp (jI h ?_ ?_)))<;>intro uS h
 ·refine jr (ra 0 [] rfl (zlV [] [kN,kN] rfl zMU rfl) rfl rf) ?_;cases h;exact zx (lks [16] [(16,2)] lw)
 refine jb h fun w8 uY h=>jr (rl 3 [0] 15 call57 (zwn uY) rf) ?_;cases h;exact zx (lks [16] [(16,2),(18,3),(20,5),(19,4)] lzz)
theorem zCI (h:zqp vb sv vc b=some r):w6 25 [.sl zg [0] sv,kI vc,.sl Rp.byte [0] b] [kB r]:=by
 refine fi 26 func25 fun Xt=>?_
 unfold zqp at h;refine jp (jb h fun rv uU h=>jr (rl 3 [0] 9 call27 (zFO uU) (rfl' [15])) (jp (jI h ?_ ?_)))<;>intro uS h
 ·refine jp ?_;obtain rfl:=(sj h);exact zx lzz
 refine jq [16] (jb h fun w8 uY h=>jr (rc 3 rfl (zy.le (ins':=[(.tmp 9,.ptr 16 0),(.tmp 19,.sl zg [0] sv),(.tmp 20,kI vc),(.tmp 21,.ag (zam 12 [13] 14 [] rv.1))]) (zy.leB (bx2:=[⟨16,76,[kN,kI 0]⟩]) (zhD (args:=[.tmp 9,.tmp 19,.tmp 20,.tmp 21]) [.ptr 16 0,.sl zg [0] sv,kI vc,.rc zm [12,13,14] rv.1] [⟨16,76,[.own (Rp.list Rp.byte) 35 17 [] [],kI 0]⟩] [(16,800000),(17,800001)] [0,12,13,14] 16 [17] rfl call31 (ziZ uY) rfl rfl rfl rfl rfl rfl rfl rfl) ⟨⟨rfl,rfl,⟨zsP (Rp.list Rp.byte) 35 17 [] rfl,w7 _,trivial⟩⟩,trivial⟩) ⟨⟨rfl,w7 _⟩,⟨rfl,w7 _⟩,⟨rfl,w7 _⟩,⟨rfl,ziP zm [12,13,14] rv.1 (zam 12 [13] 14 [] rv.1) (by rw [zbb]<;>rfl) rfl⟩,trivial⟩) rf) (jb h fun kg vd h=>jb h fun kq vm h=>jr (rc 0 rfl (zy.conv (ins:=[(.tmp 9,.ptr 16 0)]) (zy.boxes (bxs:=[⟨16,76,(zp 17 [0,12,13,14,18] w8)⟩]) (lcd (args:=[.tmp 9]) [.qp zgF [16,17,0,12,13,14,18] (some w8)] 17 call32 (zjU vd))) ⟨⟨rfl,zMC zgF [16,17,0,12,13,14,18] w8 ⟨16,76,(zp 17 [0,12,13,14,18] w8)⟩ xz rfl rfl⟩,trivial⟩) (rl 1 [19,0] 18 call54 (zxg vm) rf)) ?_));obtain rfl:=(sj h);exact zx lzz
theorem zoq (h:zeM vb sv vc b=some r):w6 5 [.sl zg [0] sv,kI vc,.sl Rp.byte [0] b] [kB r]:=by
 refine fi 39 func5 fun Xt=>?_
 unfold zeM at h;refine jp (jb h fun rv uU h=>jr (rl 0 [1] 9 call8 (zpV uU) rf) (jI h ?_ ?_))<;>intro uS h
 ·refine jp ?_;obtain rfl:=(sj h);exact zx lzz
 refine jb h fun w8 uY h=>jg [0,1,2] [] [(17,kB ((!w8)|| (decide ((b.length:Int)>1500))))] ?_ ?_
 ·refine (rl 1 [0] 9 call9 (zsg uY) (rsl 2 [] 13 (!w8) ?_ ?_))<;>intro uT
  · exact (rbl [] 17 true rfl (by grind))
  exact (rbl [] 17 (decide ((b.length:Int)>1500)) rfl (by grind))
 refine jI h ?_ ?_<;>intro uW h
 ·refine jp ?_;obtain rfl:=(sj h);exact zx lzz
 refine jb h fun g uV h=>jg [0,1,2] [] [(7,kB g)] ?_ ?_
 ·refine jb uV fun kg vd uV=>(rl 3 [0] 9 call23 (zsL vd) (rsI 1 22 uV ?_ ?_))<;>intro uZ uV
  ·refine jb uV fun kq vm uV=>jb uV fun rv5 vC uV=>jb uV fun rv6 vP uV=>?_;cases uV;exact (rl 5 [0] 9 call24 (zsM vm) (rc 0 rfl (lcz [.sl zg [0] sv,kI vc,.ag (zbF 12 [13] 14 [] kq)] 13 call15 (zpk vC) (.k (.k (.c (zbb _) .n)))) (rl 1 [15,0] 14 call16 (zkO vP) rgg)))
  cases uV;exact rgg
 refine jb h fun rv7 vQ h=>jr (rl 3 [0] 14 call25 (zCI vQ) rf) ?_;cases h;exact zx lzz
end Go.Proofs.YtkgohoggipdokaaGreat
