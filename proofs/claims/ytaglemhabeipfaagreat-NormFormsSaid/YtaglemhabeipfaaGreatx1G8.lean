/-
  The Go functions do what the plain functions say. No condition.
-/
import Derived.Test.YtaglemhabeipfaaGreatx1G7
set_option autoImplicit true
set_option relaxedAutoImplicit true
namespace Go.Proofs.YtaglemhabeipfaaGreat
open Tryz
open Go Go.RowKit
set_option linter.unusedVariables false
set_option maxRecDepth 100000
set_option maxHeartbeats 3200000
theorem zAD (h:zmK vl sv vj b d=some r):kg 47 [.sl zd [0] sv,kI vj,.sl Rp.byte [0] b,kI d] [.rc zam [] r]:=by
 refine fj ⟨[(8,.ptr 2 0)],[⟨2,103,(zki r)⟩]⟩ 29 func47 ⟨⟨_,_,rfl,rfl,rfl,rfl,zGg⟩,trivial⟩ fun Xt=>?_
 unfold zmK at h;refine jq [12] (jb h fun rv u9 h=>jr (rl 3 [0] 11 call76 (zAC u9) rf) (jp (jI h ?_ ?_)))<;>intro uY h
 ·refine jr (rc 1 rfl (zM (r:=zam) [k8 rv] [] (⟨0,0,rv⟩:zw) rfl zvW rfl rfl) rf) ?_;cases h;exact zx (lks [12] [(12,2)] lzz)
 refine jr (rc 2 rfl (zms (rk:=zo) (rv:=zk) 13 rfl) (rc 0 rfl (lbd [.sl zd [0] sv,.sl Rp.byte [0] b,.om zo zk 13 [] ([]:(List (zn×zi)))] zPR) (rfl' [14]))) (jb h fun kr vm h=>jr (rkl 5 [] ⟨[(8,.ptr 12 0),(23,.ag [.sl zd [0] sv,.sl Rp.byte [0] b,.om zo zk 13 [] ([]:(List (zn×zi)))]),(24,kI vj),(26,kI (b.length:Int)),(27,kI d)],[⟨12,103,[kI 0,kI 0,k8 0]⟩]⟩ (ziI ⟨[(8,.ptr 12 0),(23,.ag [.sl zd [0] sv,.sl Rp.byte [0] b,.om zo zk 13 [0] kr.2]),(24,kI vj),(26,kI (b.length:Int)),(27,kI d)],[⟨12,103,[kI 0,kI 0,k8 0]⟩]⟩ (zlH [.ag [.sl zd [0] sv,.sl Rp.byte [0] b,.om zo zk 13 [] ([]:(List (zn×zi)))],kI vj,kI 0,kI (b.length:Int),kI d] [(13,2)] [0] 14 [] rfl call77 (zqp vm) rfl rfl (by kernel_rfl) rfl rfl rfl) rfl (by kernel_rfl) (by kernel_rfl) ⟨⟨_,rfl,zq rfl⟩,⟨_,rfl,ziB ⟨zq rfl,zq rfl,zeF 0 rfl,trivial⟩⟩,⟨_,rfl,zq rfl⟩,⟨_,rfl,zq rfl⟩,⟨_,rfl,zq rfl⟩,trivial⟩ ⟨⟨_,rfl,rfl,rfl,⟨zq rfl,zq rfl,zq rfl,trivial⟩⟩,trivial⟩ rf)) ?_);cases h;exact zx (lks [12] [(12,2)] lzz)
theorem zrb (h:zjb vl sv vj b=some r):kg 27 [.sl zd [0] sv,kI vj,.sl Rp.byte [0] b] [.own Rp.byte 5 2 [] r]:=by
 refine fi 15 func27 fun Xt=>?_
 unfold zjb at h;refine jp (jr (rc 1 rfl (zms (rk:=zf) (rv:=kd) 16 rfl) (rc 0 rfl (lbd [.sl zd [0] sv,.om zf kd 16 [] ([]:(List (zg×Int)))] zPQ) (rfl' [17]))) (jb h fun kj vb h=>jr (rkl 3 [] ⟨[(11,.ag [.sl zd [0] sv,.om zf kd 16 [] ([]:(List (zg×Int)))]),(12,kI vj),(13,.sl Rp.byte [0] b)],[]⟩ (ziI ⟨[(11,.ag [.sl zd [0] sv,.om zf kd 16 [0,21] kj.2]),(12,kI vj),(13,.sl Rp.byte [0] b)],[]⟩ (zni.le (ins':=[(.tmp 11,.ag [.sl zd [0] sv,.om zf kd 16 [] ([]:(List (zg×Int)))]),(.const (.slice none 0 0),kN),(.tmp 12,kI vj),(.tmp 13,.sl Rp.byte [0] b)]) (zrC (args:=[.tmp 11,.const (.slice none 0 0),.tmp 12,.tmp 13]) [.ag [.sl zd [0] sv,.om zf kd 16 [] ([]:(List (zg×Int)))],.own Rp.byte 5 20 [] ([]:(List UInt8)),kI vj,.sl Rp.byte [0] b] [(20,801000),(16,800002)] [0] 19 [20] rfl call48 (zrd vb) rfl rfl rfl rfl rfl rfl) ⟨⟨rfl,kh _⟩,⟨rfl,zyC Rp.byte 5 20 [] rfl⟩,⟨rfl,kh _⟩,⟨rfl,kh _⟩,trivial⟩) rfl (by kernel_rfl) (by kernel_rfl) ⟨⟨_,rfl,ziB ⟨zq rfl,zeF 0 rfl,trivial⟩⟩,⟨_,rfl,zq rfl⟩,⟨_,rfl,zq rfl⟩,trivial⟩ trivial rf)) ?_));cases h;exact zx (lks [] [(20,2)] lzz)
theorem zrL (h:zjk vl sv vj b d=some r):kg 26 [.sl zd [0] sv,kI vj,.sl Rp.byte [0] b,kI d] [kI r.1,k8 r.2]:=by
 refine fi 20 func26 fun Xt=>?_
 unfold zjk at h;refine jp (jb h fun rv u9 h=>jr (rl 4 [0] 9 call47 (zAD u9) (rfl' [11])) (jd [8,9] [] zcw (by exact l0) ?_));cases h;exact zx lzz
theorem zlF (h:zja vl sv vj b d=some r):kg 9 [.sl zd [0] sv,kI vj,.sl Rp.byte [0] b,kI d] [.own Rp.byte 5 2 [] r.1,k8 r.2]:=by
 refine fi 27 func9 fun Xt=>?_
 unfold zja at h;refine jp (jb h fun rv u9 h=>jr (rl 4 [0] 10 call26 (zrL u9) rf) (jp (jI h ?_ ?_)))<;>intro uY h
 ·refine jp ?_;cases h;exact zx lw
 refine jb h fun kj vb h=>jr (rl 3 [0] 10 call27 (zrb vb) rf) ?_;cases h;exact zx (lks [] [(12,2)] lzz)
theorem zAn (h:zmt vl sv vj b d vq=some r):kg 11 [.sl zd [0] sv,kI vj,.sl Rp.byte [0] b,kI d,kI vq] [.own Rp.byte 5 2 [] r.1,k8 r.2]:=by
 refine fi 55 func11 fun Xt=>?_
 unfold zmt at h;refine jp (jb h fun rv u9 h=>jr (rl 4 [0] 15 call26 (zrL u9) rf) (jp (jI h ?_ ?_)))<;>intro uY h
 ·refine jp ?_;cases h;exact zx lw
 refine jp (jb h fun x vi h=>jb h fun kj vb h=>jr (rx 2 [0] zgS.el vi rfl rfl (rc 0 rfl (lde zd [0] x zwf) (rl 2 [0] 15 call29 (zHz vb) rf))) (zr (jb h fun q ve h=>jL ve [0,1,2,34,35] [] (fun s=>[(14,.own Rp.byte 5 20 [] s.1),(36,kI s.2)]) (fun o=> .X 0 [0,1] [] [(14,.own Rp.byte 5 20 [] o)] []) ?_ lw ?_)))
 ·clear h;intro s o h;obtain ⟨own,v⟩:=s;replace h:zgp b kj own v=some o:=h;unfold zgp at h;refine jp (jI h ?_ ?_)<;>intro uZ h
  ·refine zr (jb h fun x2 vr h=>jr (ra 0 [.own zk 68 17 [] kj,kI v] rfl (zhI rfl zBY.el (zbv _ _ _ _ _) vr) rfl (rc 0 rfl (lde zk [17] x2 zDJ) (rfl' [21]))) (jb h fun v2 vx h=>jb h fun v3 vu h=>jr (ra 8 [.sl Rp.byte [0] b,kI x2.Record.From,kI x2.Record.To] rfl (zfO (some (kI x2.Record.From)) (some (kI x2.Record.To)) rfl zap.el (zbd _ _ _) ⟨rfl,rfl⟩ ⟨rfl,rfl⟩ vx) rfl (rc 0 rfl (las 20 [] [0] [] zap.el vu (.inl zaI)) rf)) (zK ?_)));cases h;exact jy
  cases h;exact zae rfl lzz
 refine zar _ rfl (jb h fun kr vm h=>jr (rl 3 [0,20] 20 call27 (zrb vm) rf) ?_);cases h;exact zx (lks [] [(22,2)] lzz)
theorem zpX (h:zfp vl=some r):kg 7 [] [kB r]:=by
 refine fi 22 func7 fun Xt=>?_
 unfold zfp at h;refine jp (jr (rc 0 rfl (zM (r:=zb) [kS [97],kI 1,kI 3] [] (⟨[97],1,3,false,false,0⟩:za) rfl zQP rfl rfl) (rc 0 rfl (lbs1 11 [] (⟨[97],1,3,false,false,0⟩:za) zkc) (rc 0 rfl (lbd [kS [109],.own zb 59 11 [] ([(⟨[97],1,3,false,false,0⟩:za)]:(List za))] zQN) (rc 0 rfl (zB.lw (lbs1 12 [11] (⟨[109],([(⟨[97],1,3,false,false,0⟩:za)]:(List za))⟩:zc) zgS) (.l (zlC zd [11] (⟨[109],([(⟨[97],1,3,false,false,0⟩:za)]:(List za))⟩:zc) [kS [109],.own zb 59 11 [] ([(⟨[97],1,3,false,false,0⟩:za)]:(List za))] rfl rfl))) rf)))) (jb h fun rv u9 h=>jr (rc 1 rfl (zfe [.lf (.int .u8 8),.lf (.int .u8 129),.lf (.int .u8 0),.lf (.int .u8 8),.lf (.int .u8 130),.lf (.int .u8 0)] 13 [] [(8:UInt8),(129:UInt8),(0:UInt8),(8:UInt8),(130:UInt8),(0:UInt8)] rfl zap rfl rfl rfl rfl) (rl 0 [12,11,13] 12 call9 (zlF u9) rf)) (jb h fun g u0 h=>jg [] [] [(0,kB g)] ?_ ?_)))
 ·refine (rsI 4 17 u0 ?_ ?_)<;>intro uY u0
  ·refine jb u0 fun kj vb u0=>?_;cases u0;exact (rc 1 rfl (zfe [.lf (.int .u8 8),.lf (.int .u8 2)] 15 [] [(8:UInt8),(2:UInt8)] rfl zap rfl rfl rfl rfl) (rl 0 [14,15] 14 call15 (zfV vb) rgg))
  cases u0;exact rgg
 obtain rfl:=(sj h);exact zx lzz
theorem zAo (h:zmu vl sv vj b d=some r):kg 10 [.sl zd [0] sv,kI vj,.sl Rp.byte [0] b,kI d] [kI r.1,k8 r.2]:=by
 refine fi 50 func10 fun Xt=>?_
 unfold zmu at h;refine jp (jb h fun rv u9 h=>jr (rl 4 [0] 9 call9 (zlF u9) rf) (zr (jp (jI h ?_ ?_))))<;>intro uY h
 ·cases h;exact jz
 refine jb h fun kj vb h=>jr (rl 2 [11,0] 10 call28 (zqu vb) rf) (jI h ?_ ?_)<;>intro uZ h
 ·cases h;exact jz
 refine zK (jp (zr (jb h fun q ve h=>jL ve [2,10] [] (fun s=>[(12,kI s)]) (fun o=> .x 1 ⟨[(12,kI o)],[]⟩) ?_ lzz ?_)))
 ·clear h;intro place o h;unfold zgq at h;refine jb h fun g u0 h=>jn (.N [2,10,12] [] [(46,kB g)] []) ?_ (zez ?_)
  ·rcases zjw u0 with ⟨va,u0⟩| ⟨va,u0⟩
   ·refine jb u0 fun x vi u0=>jb u0 fun x2 vr u0=>?_;cases u0;exact jd [2,10,12,46] [] zcw (by exact (lwn 7 (dg 35 va (lwn 2 (di [0] zap.el vi (lwn 3 (ly [.own Rp.byte 5 11 [] rv.1,kI place] (zhI rfl zap.el (zbv _ _ _ _ _) vr) rfl l0))))))) (zV lzz)
   cases u0;exact jd [2,10,12,46] [] zcw (by exact (lwn 7 (dg 35 va l0))) (zV lzz)
  refine jI h ?_ ?_<;>intro vd h
  ·refine zr (jp (zK ?_));cases h;exact zV lzz
  cases h;exact zae rfl lzz
 refine zar _ rfl ?_;cases h;exact jz
theorem zyO (h:zsf vl sv vj b d=some r):kg 13 [.sl zd [0] sv,kI vj,.sl Rp.byte [0] b,kI d] [kB r]:=by
 refine fi 26 func13 fun Xt=>?_
 unfold zsf at h;refine jp (jb h fun rv u9 h=>jr (rl 4 [0] 9 call9 (zlF u9) rf) (jb h fun g u0 h=>jg [] [] [(8,kB g)] ?_ ?_))
 ·refine (rsI 3 21 u0 ?_ ?_)<;>intro uY u0
  ·refine jb u0 fun kj vb u0=>?_;cases u0;exact (rl 2 [11,0] 10 call28 (zqu vb) rgg)
  cases u0;exact rgg
 obtain rfl:=(sj h);exact zx lzz
theorem zmO (h:zdv vl sv vj b d vq=some r):kg 3 [.sl zd [0] sv,kI vj,.sl Rp.byte [0] b,kI d,kI vq] [kB r]:=by
 refine fi 141 func3 fun Xt=>?_
 unfold zdv at h;refine jp (jb h fun rv u9 h=>jr (rl 0 [1] 9 call7 (zpX u9) rf) (jI h ?_ ?_))<;>intro uY h
 ·refine jp ?_;obtain rfl:=(sj h);exact zx lzz
 refine jb h fun kj vb h=>jg [0,1,2,3,4] [] [(29,kB ((!kj)|| (decide ((b.length:Int)>1500))))] ?_ ?_
 ·refine (rl 1 [0] 9 call8 (zsz vb) (rsl 2 [] 25 (!kj) ?_ ?_))<;>intro uZ
  · exact (rbl [] 29 true rfl (by grind))
  exact (rbl [] 29 (decide ((b.length:Int)>1500)) rfl (by grind))
 refine jI h ?_ ?_<;>intro va h
 ·refine jp ?_;obtain rfl:=(sj h);exact zx lzz
 refine jb h fun kr vm h=>jr (rl 4 [0] 9 call9 (zlF vm) rf) (jb h fun kE vv h=>jr (rl 4 [0] 10 call10 (zAo vv) rf) (jb h fun rv5 vG h=>jr (rl 5 [0] 10 call11 (zAn vG) rf) (jb h fun rv6 vV h=>jr (rl 4 [0] 11 call12 (zqg vV) rf) (jp (jI h ?_ ?_)))))<;>intro vd h
 ·refine jb h fun g u0 h=>jg [] [] [(10,kB g)] ?_ ?_
  ·refine (rsI 5 69 u0 ?_ ?_)<;>intro vf u0
   ·refine (rsI 6 75 u0 ?_ ?_)<;>intro vk u0
    ·refine (rsI 6 81 u0 ?_ ?_)<;>intro vp u0
     ·refine (rsI 10 91 u0 ?_ ?_)<;>intro vy u0
      ·refine jb u0 fun rv7 vY u0=>?_;cases u0;exact (rl 4 [0] 11 call13 (zyO vY) rgg)
      cases u0;exact rgg
     cases u0;exact rgg
    cases u0;exact rgg
   cases u0;exact rgg
  obtain rfl:=(sj h);exact zx lzz
 refine jb h fun rv8 vZ h=>jr (rl 3 [0] 11 call14 (zqI vZ) rf) (jb h fun g2 vg h=>jg [] [] [(10,kB g2)] ?_ ?_)
 ·refine (rsI 10 112 vg ?_ ?_)<;>intro vA vg
  ·refine jb vg fun rv9 ww vg=>(rl 2 [11,13] 12 call15 (zfV ww) (rsI 2 117 vg ?_ ?_))<;>intro vB vg
   ·refine jb vg fun rv10 wx vg=>(rl 3 [0,13] 12 call16 (zqj wx) (rsI 3 124 vg ?_ ?_))<;>intro vI vg
    ·refine jb vg fun rv11 w9 vg=>jb vg fun rv12 ka vg=>(rl 3 [13] 12 call17 (zqi w9) (rl 0 [12,14] 13 call15 (zfV ka) (rsI 2 131 vg ?_ ?_)))<;>intro vF vg
     ·refine jb vg fun rv13 kc vg=>?_;cases vg;exact (rl 4 [0] 13 call13 (zyO kc) rgg)
     cases vg;exact rgg
    cases vg;exact rgg
   cases vg;exact rgg
  cases vg;exact rgg
 obtain rfl:=(sj h);exact zx lzz
end Go.Proofs.YtaglemhabeipfaaGreat
