/-
  The Go functions do what the plain functions say. No condition.
-/
import Derived.Test.YtaglemhabeipfaaGreatx2G7
set_option autoImplicit true
set_option relaxedAutoImplicit true
namespace Go.Proofs.YtaglemhabeipfaaGreat
open Tryz
open Go Go.RowKit
set_option linter.unusedVariables false
set_option maxRecDepth 100000
set_option maxHeartbeats 3200000
theorem zyr (h:zlG uX sv vb b d=some r):wL 47 [.sl zf [0] sv,kI vb,.sl Rp.byte [0] b,kI d] [.rc zaD [] r]:=by
 refine fj ⟨[(8,.ptr 2 0)],[⟨2,103,(zjc r)⟩]⟩ 29 func47 ⟨⟨_,_,rfl,rfl,rfl,rfl,zDP⟩,trivial⟩ fun Xt=>?_
 unfold zlG at h;refine jq [12] (jb h fun rv uR h=>jr (rl 3 [0] 11 call76 (zqW uR) rf) (jp (jI h ?_ ?_)))<;>intro uP h
 ·refine jr (rc 1 rfl (zaj (r:=zaD) [k8 rv] [] (⟨0,0,rv⟩:zA) rfl ztT rfl rfl) rf) ?_;cases h;exact zG (lks [12] [(12,2)] lzz)
 refine jr (rc 2 rfl (zlp (rk:=zq) (rv:=zj) 13 rfl) (rc 0 rfl (lbd [.sl zf [0] sv,.sl Rp.byte [0] b,.om zq zj 13 [] ([]:(List (zo×zg)))] zNJ) (rfl' [14]))) (jb h fun wQ u0 h=>jr (rkl 5 [] ⟨[(8,.ptr 12 0),(23,.ag [.sl zf [0] sv,.sl Rp.byte [0] b,.om zq zj 13 [] ([]:(List (zo×zg)))]),(24,kI vb),(26,kI (b.length:Int)),(27,kI d)],[⟨12,103,[kI 0,kI 0,k8 0]⟩]⟩ (zhF ⟨[(8,.ptr 12 0),(23,.ag [.sl zf [0] sv,.sl Rp.byte [0] b,.om zq zj 13 [0] wQ.2]),(24,kI vb),(26,kI (b.length:Int)),(27,kI d)],[⟨12,103,[kI 0,kI 0,k8 0]⟩]⟩ (zkF [.ag [.sl zf [0] sv,.sl Rp.byte [0] b,.om zq zj 13 [] ([]:(List (zo×zg)))],kI vb,kI 0,kI (b.length:Int),kI d] [(13,2)] [0] 14 [] rfl call77 (zoz u0) rfl rfl (by kernel_rfl) rfl rfl rfl) rfl (by kernel_rfl) (by kernel_rfl) ⟨⟨_,rfl,zu rfl⟩,⟨_,rfl,zhy ⟨zu rfl,zu rfl,zdL 0 rfl,trivial⟩⟩,⟨_,rfl,zu rfl⟩,⟨_,rfl,zu rfl⟩,⟨_,rfl,zu rfl⟩,trivial⟩ ⟨⟨_,rfl,rfl,rfl,⟨zu rfl,zu rfl,zu rfl,trivial⟩⟩,trivial⟩ rf)) ?_);cases h;exact zG (lks [12] [(12,2)] lzz)
theorem zwM (h:zjO uX sv vb b=some r):wL 27 [.sl zf [0] sv,kI vb,.sl Rp.byte [0] b] [.own Rp.byte 5 2 [] r]:=by
 refine fi 15 func27 fun Xt=>?_
 unfold zjO at h;refine jp (jr (rc 1 rfl (zlp (rk:=zh) (rv:=wI) 16 rfl) (rc 0 rfl (lbd [.sl zf [0] sv,.om zh wI 16 [] ([]:(List (zi×Int)))] zNH) (rfl' [17]))) (jb h fun wN uU h=>jr (rkl 3 [] ⟨[(11,.ag [.sl zf [0] sv,.om zh wI 16 [] ([]:(List (zi×Int)))]),(12,kI vb),(13,.sl Rp.byte [0] b)],[]⟩ (zhF ⟨[(11,.ag [.sl zf [0] sv,.om zh wI 16 [0,21] wN.2]),(12,kI vb),(13,.sl Rp.byte [0] b)],[]⟩ (zkm.le (km:=[(.tmp 11,.ag [.sl zf [0] sv,.om zh wI 16 [] ([]:(List (zi×Int)))]),(.const (.slice none 0 0),kN),(.tmp 12,kI vb),(.tmp 13,.sl Rp.byte [0] b)]) (zpy (args:=[.tmp 11,.const (.slice none 0 0),.tmp 12,.tmp 13]) [.ag [.sl zf [0] sv,.om zh wI 16 [] ([]:(List (zi×Int)))],.own Rp.byte 5 20 [] ([]:(List UInt8)),kI vb,.sl Rp.byte [0] b] [(20,801000),(16,800002)] [0] 19 [20] rfl call48 (zpf uU) rfl rfl rfl rfl rfl rfl) ⟨⟨rfl,wM _⟩,⟨rfl,znC Rp.byte 5 20 [] rfl⟩,⟨rfl,wM _⟩,⟨rfl,wM _⟩,trivial⟩) rfl (by kernel_rfl) (by kernel_rfl) ⟨⟨_,rfl,zhy ⟨zu rfl,zdL 0 rfl,trivial⟩⟩,⟨_,rfl,zu rfl⟩,⟨_,rfl,zu rfl⟩,trivial⟩ trivial rf)) ?_));cases h;exact zG (lks [] [(20,2)] lzz)
theorem zuQ (h:zil uX sv vb x=some r):wL 23 [.sl zf [0] sv,kI vb,.rc zm [0] x] [.own Rp.byte 5 2 [] r.1,k8 r.2]:=by
 refine fi 22 func23 fun Xt=>?_
 unfold zil at h;refine jr (rc 0 rfl (lbx 16 [0] (zbd [0] x)) rf) (jb h fun rv uR h=>jr (rc 3 rfl (lw0 15 call42 (zya uR) (.k (.k (.l (zaz [0] x))))) rf) (jp (jI h ?_ ?_)))<;>intro uP h
 ·refine jp ?_;cases h;exact zG lw
 refine jq [17] (jb h fun wN uU h=>jr (rc 3 rfl (zB.le (km:=[(.tmp 9,.ptr 17 0),(.tmp 17,.sl zf [0] sv),(.tmp 18,kI vb),(.tmp 19,.ag (zaK [0] x))]) (zB.leB (bx2:=[⟨17,98,[kN,kI 0]⟩]) (zgj (args:=[.tmp 9,.tmp 17,.tmp 18,.tmp 19]) [.ptr 17 0,.sl zf [0] sv,kI vb,.rc zm [0] x] [⟨17,98,[.own (Rp.list Rp.byte) 24 18 [] [],kI 0]⟩] [(17,800000),(18,800001)] [0] 17 [18] rfl call43 (zhR uU) rfl rfl rfl rfl rfl rfl rfl rfl) ⟨⟨rfl,rfl,⟨znC (Rp.list Rp.byte) 24 18 [] rfl,wM _,trivial⟩⟩,trivial⟩) ⟨⟨rfl,wM _⟩,⟨rfl,wM _⟩,⟨rfl,wM _⟩,⟨rfl,zaz [0] x⟩,trivial⟩) rf) (jb h fun wQ u0 h=>jr (rc 0 rfl (zB.conv (ins:=[(.tmp 9,.ptr 17 0)]) (zB.boxes (bxs:=[⟨17,98,(zr 18 [0,19] wN)⟩]) (lcd (args:=[.tmp 9]) [.qp zfl [17,18,0,19] (some wN)] 18 call44 (ziR u0))) ⟨⟨rfl,zMq zfl [17,18,0,19] wN ⟨17,98,(zr 18 [0,19] wN)⟩ xz rfl rfl⟩,trivial⟩) rf) ?_));cases h;exact zG (lks [] [(20,2)] lzz)
theorem zlF (h:zgV uX sv vb b d=some r):wL 26 [.sl zf [0] sv,kI vb,.sl Rp.byte [0] b,kI d] [kI r.1,k8 r.2]:=by
 refine fi 20 func26 fun Xt=>?_
 unfold zgV at h;refine jp (jb h fun rv uR h=>jr (rl 4 [0] 9 call47 (zyr uR) (rfl' [11])) (jd [8,9] [] zee (by exact l0) ?_));cases h;exact zG lzz
theorem zhb (h:zgp uX sv vb b d=some r):wL 9 [.sl zf [0] sv,kI vb,.sl Rp.byte [0] b,kI d] [.own Rp.byte 5 2 [] r.1,k8 r.2]:=by
 refine fi 27 func9 fun Xt=>?_
 unfold zgp at h;refine jp (jb h fun rv uR h=>jr (rl 4 [0] 10 call26 (zlF uR) rf) (jp (jI h ?_ ?_)))<;>intro uP h
 ·refine jp ?_;cases h;exact zG lw
 refine jb h fun wN uU h=>jr (rl 3 [0] 10 call27 (zwM uU) rf) ?_;cases h;exact zG (lks [] [(12,2)] lzz)
theorem zDw (h:zpI uX sv vb b d=some r):wL 21 [.sl zf [0] sv,kI vb,.sl Rp.byte [0] b,kI d] [kB r]:=by
 refine fi 21 func21 fun Xt=>?_
 unfold zpI at h;refine jp (jb h fun rv uR h=>jr (rl 4 [0] 9 call26 (zlF uR) rf) ?_);cases h;exact jz
theorem znZ (h:zmc uX sv vb b d=some r):wL 22 [.sl zf [0] sv,kI vb,.sl Rp.byte [0] b,kI d] [.ag (zC 3 [4] 5 [] r.1),k8 r.2]:=by
 refine fj ⟨[(8,.ptr 2 0),(9,k8 r.2)],[⟨2,52,(zC 3 [4] 5 [] r.1)⟩]⟩ 28 func22 ⟨⟨_,_,rfl,rfl,rfl,zoF⟩,rfl,trivial⟩ fun Xt=>?_
 unfold zmc at h;refine jq [16] (jb h fun rv uR h=>jr (rl 4 [0] 15 call26 (zlF uR) rf) (jp (jI h ?_ ?_)))<;>intro uP h
 ·refine jr (ra 0 [] rfl (ztC [] [kN,kN] rfl zOw rfl) rfl rf) ?_;cases h;exact zG (lks [16] [(16,2)] lw)
 refine jb h fun wN uU h=>jr (rl 3 [0] 15 call41 (zuX uU) rf) ?_;cases h;exact zG (lks [16] [(16,2),(18,3),(20,5),(19,4)] lzz)
theorem zot (h:zeI uX=some r):wL 7 [] [kB r]:=by
 refine fi 22 func7 fun Xt=>?_
 unfold zeI at h;refine jp (jr (rc 0 rfl (zaj (r:=zc) [kS [97],kI 1,kI 3] [] (⟨[97],1,3,false,false,0⟩:za) rfl zOy rfl rfl) (rc 0 rfl (lbs1 11 [] (⟨[97],1,3,false,false,0⟩:za) zoq) (rc 0 rfl (lbd [kS [109],.own zc 59 11 [] ([(⟨[97],1,3,false,false,0⟩:za)]:(List za))] zOx) (rc 0 rfl (zB.lw (lbs1 12 [11] (⟨[109],([(⟨[97],1,3,false,false,0⟩:za)]:(List za))⟩:ze) znp) (.l (zlV zf [11] (⟨[109],([(⟨[97],1,3,false,false,0⟩:za)]:(List za))⟩:ze) [kS [109],.own zc 59 11 [] ([(⟨[97],1,3,false,false,0⟩:za)]:(List za))] rfl rfl))) rf)))) (jb h fun rv uR h=>jr (rc 1 rfl (zkg [.lf (.int .u8 8),.lf (.int .u8 129),.lf (.int .u8 0),.lf (.int .u8 8),.lf (.int .u8 130),.lf (.int .u8 0)] 13 [] [(8:UInt8),(129:UInt8),(0:UInt8),(8:UInt8),(130:UInt8),(0:UInt8)] rfl zcd rfl rfl rfl rfl) (rl 0 [12,11,13] 12 call9 (zhb uR) rf)) (jb h fun g uQ h=>jg [] [] [(0,kB g)] ?_ ?_)))
 ·refine (rsI 4 17 uQ ?_ ?_)<;>intro uP uQ
  ·refine jb uQ fun wN uU uQ=>?_;cases uQ;exact (rc 1 rfl (zkg [.lf (.int .u8 8),.lf (.int .u8 2)] 15 [] [(8:UInt8),(2:UInt8)] rfl zcd rfl rfl rfl rfl) (rl 0 [14,15] 14 call15 (zdQ uU) rgg))
  cases uQ;exact rgg
 obtain rfl:=(sj h);exact zG lzz
theorem zEI (h:zsm uX sv vb b d=some r):wL 13 [.sl zf [0] sv,kI vb,.sl Rp.byte [0] b,kI d] [kB r]:=by
 refine fi 26 func13 fun Xt=>?_
 unfold zsm at h;refine jp (jb h fun rv uR h=>jr (rl 4 [0] 9 call9 (zhb uR) rf) (jb h fun g uQ h=>jg [] [] [(8,kB g)] ?_ ?_))
 ·refine (rsI 3 21 uQ ?_ ?_)<;>intro uP uQ
  ·refine jb uQ fun wN uU uQ=>?_;cases uQ;exact (rl 2 [11,0] 10 call28 (zkZ uU) rgg)
  cases uQ;exact rgg
 obtain rfl:=(sj h);exact zG lzz
theorem zAK (h:zmO uX sv vb av b d=some r):wL 18 [.sl zf [0] sv,kI vb,.sl Rp.byte [0] av,.sl Rp.byte [0] b,kI d] [kB r.1,k8 r.2]:=by
 refine fi 42 func18 fun Xt=>?_
 unfold zmO at h;refine jp (jb h fun rv uR h=>jr (rl 4 [0] 9 call9 (zhb uR) rf) (jp (jI h ?_ ?_)))<;>intro uP h
 ·cases h;exact jz
 refine jb h fun wN uU h=>jr (rl 4 [0] 10 call9 (zhb uU) rf) (jb h fun g uQ h=>jg [] [] [(10,kB g),(11,k8 wN.2)] ?_ ?_)
 ·refine (rsI 3 36 uQ ?_ ?_)<;>intro uT uQ
  ·refine jb uQ fun wQ u0 uQ=>?_;cases uQ;exact (rl 2 [11,12] 11 call28 (zkZ u0) rgg)
  cases uQ;exact rgg
 cases h;exact zG lzz
theorem zBJ (h:zoH uX sv vb b=some r):wL 25 [.sl zf [0] sv,kI vb,.sl Rp.byte [0] b] [kB r]:=by
 refine fi 26 func25 fun Xt=>?_
 unfold zoH at h;refine jp (jb h fun rv uR h=>jr (rl 3 [0] 9 call22 (znZ uR) (rfl' [15])) (jp (jI h ?_ ?_)))<;>intro uP h
 ·refine jp ?_;obtain rfl:=(sj h);exact zG lzz
 refine jq [16] (jb h fun wN uU h=>jr (rc 3 rfl (zB.le (km:=[(.tmp 9,.ptr 16 0),(.tmp 19,.sl zf [0] sv),(.tmp 20,kI vb),(.tmp 21,.ag (zC 12 [13] 14 [] rv.1))]) (zB.leB (bx2:=[⟨16,98,[kN,kI 0]⟩]) (zgj (args:=[.tmp 9,.tmp 19,.tmp 20,.tmp 21]) [.ptr 16 0,.sl zf [0] sv,kI vb,.rc zm [12,13,14] rv.1] [⟨16,98,[.own (Rp.list Rp.byte) 24 17 [] [],kI 0]⟩] [(16,800000),(17,800001)] [0,12,13,14] 16 [17] rfl call43 (zhR uU) rfl rfl rfl rfl rfl rfl rfl rfl) ⟨⟨rfl,rfl,⟨znC (Rp.list Rp.byte) 24 17 [] rfl,wM _,trivial⟩⟩,trivial⟩) ⟨⟨rfl,wM _⟩,⟨rfl,wM _⟩,⟨rfl,wM _⟩,⟨rfl,zlV zm [12,13,14] rv.1 (zC 12 [13] 14 [] rv.1) (by rw [zaq]<;>rfl) rfl⟩,trivial⟩) rf) (jb h fun wQ u0 h=>jb h fun ke vj h=>jr (rc 0 rfl (zB.conv (ins:=[(.tmp 9,.ptr 16 0)]) (zB.boxes (bxs:=[⟨16,98,(zr 17 [0,12,13,14,18] wN)⟩]) (lcd (args:=[.tmp 9]) [.qp zfl [16,17,0,12,13,14,18] (some wN)] 17 call44 (ziR u0))) ⟨⟨rfl,zMq zfl [16,17,0,12,13,14,18] wN ⟨16,98,(zr 17 [0,12,13,14,18] wN)⟩ xz rfl rfl⟩,trivial⟩) (rl 1 [19,0] 18 call28 (zkZ vj) rf)) ?_));obtain rfl:=(sj h);exact zG lzz
theorem zlN (h:zcX uX sv vb av b d=some r):wL 5 [.sl zf [0] sv,kI vb,.sl Rp.byte [0] av,.sl Rp.byte [0] b,kI d] [kB r]:=by
 refine fi 177 func5 fun Xt=>?_
 unfold zcX at h;refine jp (jb h fun rv uR h=>jr (rl 0 [1] 9 call7 (zot uR) rf) (jI h ?_ ?_))<;>intro uP h
 ·refine jp ?_;obtain rfl:=(sj h);exact zG lzz
 refine jb h fun wN uU h=>jg [0,1,2,3,4] [] [(37,kB ((!wN)|| (decide ((IntKind.i64.wrap ((av.length:Int)+(b.length:Int)))>1500))))] ?_ ?_
 ·refine (rl 1 [0] 9 call8 (zqw uU) (rsl 2 [] 30 (!wN) ?_ ?_))<;>intro uT
  · exact (rbl [] 37 true rfl (by grind))
  exact (rbl [] 37 (decide ((IntKind.i64.wrap ((av.length:Int)+(b.length:Int)))>1500)) rfl (by grind))
 refine jI h ?_ ?_<;>intro uV h
 ·refine jp ?_;obtain rfl:=(sj h);exact zG lzz
 refine jb h fun wQ u0 h=>jr (rl 4 [0] 9 call9 (zhb u0) rf) (jb h fun ke vj h=>jr (rl 4 [0] 10 call9 (zhb vj) rf) (jp (jI h ?_ ?_)))<;>intro uY h
 ·refine jb h fun g uQ h=>jg [] [] [(10,kB g)] ?_ ?_
  ·refine (rsI 4 60 uQ ?_ ?_)<;>intro ve uQ
   ·refine jb uQ fun rv5 vr uQ=>?_;cases uQ;exact (rl 4 [0] 11 call21 (zDw vr) rgg)
   cases uQ;exact rgg
  obtain rfl:=(sj h);exact zG lzz
 refine jb h fun rv6 vW h=>jr (rl 4 [0] 11 call22 (znZ vW) (rfl' [17])) (jb h fun rv7 wy h=>jr (rl 4 [0,11] 16 call22 (znZ wy) (rfl' [22])) (jb h fun rv8 wz h=>jr (rc 3 rfl (lcz [.sl zf [0] sv,kI vb,.ag (zC 14 [15] 16 [] rv6.1)] 21 call23 (zuQ wz) (.k (.k (.c (zaq _) .n)))) rf) (jb h fun g2 va h=>jg [0,1,2,3,4,11,13,14,15] [17] [(134,kB g2)] ?_ ?_)))
 ·refine (rsI 10 100 va ?_ ?_)<;>intro vh va
  ·cases va;exact (rel [] lzz)
  refine jb va fun rv9 wB va=>(rc 2 rfl (lcz [.ag (zC 14 [15] 16 [] rv6.1),.ag (zC 19 [20] 21 [] rv7.1)] 22 call24 (zoa wB) (.c (zaq _) (.c (zaq _) .n))) (rsI 3 106 va ?_ ?_))<;>intro vq va
  ·cases va;exact (rel [] lzz)
  refine jb va fun rv10 wC va=>(rl 2 [23,11] 22 call15 (zdQ wC) (rsI 3 112 va ?_ ?_))<;>intro vu va
  ·cases va;exact (rel [] lzz)
  refine jb va fun rv11 wD va=>(rl 4 [0,11] 22 call13 (zEI wD) (rsI 3 120 va ?_ ?_))<;>intro vx va
  ·cases va;exact (rel [] lzz)
  refine (rsI 8 128 va ?_ ?_)<;>intro vC va
  ·cases va;exact (rel [] lzz)
  refine jb va fun rv12 wE va=>?_;cases va;exact (rl 3 [0,11] 22 call25 (zBJ wE) (rel [] lzz))
 refine jI h ?_ ?_<;>intro vD h
 ·refine jp ?_;obtain rfl:=(sj h);exact zG lzz
 refine jp (jI h ?_ ?_)<;>intro vE h
 ·refine jp ?_;obtain rfl:=(sj h);exact zG lzz
 refine jb h fun rv13 wF h=>jr (rl 4 [0] 22 call22 (znZ wF) (rfl' [28])) (jb h fun rv14 wG h=>jr (rl 5 [0] 27 call18 (zAK wG) rf) (jb h fun g3 vk h=>jn (.n ⟨[(10,kB g3)],[]⟩) ?_ (ziq ?_)))
 ·rcases zoS vk with ⟨vv,vk⟩| ⟨vv,vk⟩
  ·refine jb vk fun rv15 wb vk=>jb vk fun rv16 wc vk=>?_;rcases zoS vk with ⟨vy,vk⟩| ⟨vy,vk⟩
   ·refine jb vk fun rv17 wH vk=>?_;cases vk;exact jd [10] [] zee (by exact (lwn 6 (dg 160 vv (lwn 2 (lx (lf1 15 (lcd [.own Rp.byte 5 11 [] wQ.1,.own Rp.byte 5 12 [] ke.1] 27 call15 (zdQ wb))) (lx (ldw 17 52 (zC 14 [15] 16 [] rv6.1) zoF) (lx (ldw 28 52 (zC 25 [26] 27 [] rv13.1) zoF) (lx (lf1 24 (lcz [.ag (zC 14 [15] 16 [] rv6.1),.ag (zC 25 [26] 27 [] rv13.1)] 27 call24 (zoa wc) (.c (zaq _) (.c (zaq _) .n)))) (lwn 2 (dg 169 vy (lwn 3 (lx (lf1 15 (lcd [.own Rp.byte 5 11 [] wQ.1,.own Rp.byte 5 12 [] ke.1] 27 call15 (zdQ wH))) l0)))))))))))) (zaJ lzz)
   cases vk;exact jd [10] [] zee (by exact (lwn 6 (dg 160 vv (lwn 2 (lx (lf1 15 (lcd [.own Rp.byte 5 11 [] wQ.1,.own Rp.byte 5 12 [] ke.1] 27 call15 (zdQ wb))) (lx (ldw 17 52 (zC 14 [15] 16 [] rv6.1) zoF) (lx (ldw 28 52 (zC 25 [26] 27 [] rv13.1) zoF) (lx (lf1 24 (lcz [.ag (zC 14 [15] 16 [] rv6.1),.ag (zC 25 [26] 27 [] rv13.1)] 27 call24 (zoa wc) (.c (zaq _) (.c (zaq _) .n)))) (lwn 2 (dg 169 vy l0)))))))))) (zaJ lzz)
  cases vk;exact jd [10] [] zee (by exact (lwn 6 (dg 160 vv l0))) (zaJ lzz)
 obtain rfl:=(sj h);exact zG lzz
end Go.Proofs.YtaglemhabeipfaaGreat
