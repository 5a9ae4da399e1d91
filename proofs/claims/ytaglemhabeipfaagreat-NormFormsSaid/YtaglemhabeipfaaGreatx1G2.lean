/-
  The Go functions do what the plain functions say. No condition.
-/
import Derived.Test.YtaglemhabeipfaaGreatx1G1
import Derived.Test.YtaglemhabeipfaaGreatx1Y
set_option autoImplicit true
set_option relaxedAutoImplicit true
namespace Go.Proofs.YtaglemhabeipfaaGreat
open Go.IntKind (i64)
open Tryz
open Go Go.RowKit
set_option linter.unusedVariables false
set_option maxRecDepth 100000
set_option maxHeartbeats 3200000
theorem zEE (h:zqR=some r):kg 131 [] [.own kd 3 2 [] r]:=by
 refine fi 4 func131 fun Xt=>?_
 unfold zqR at h;refine jp (jb h fun rv u9 h=>jb h fun v vn h=>jr (rl 0 [1] 11 call168 (zsP u9) (rkl 0 [] ⟨[(1,.om kd zan 13 [] rv)],[]⟩ (zFs (rv:=zan) (m:=rv) 14 zMo rfl rfl rfl rfl rfl rfl call167 call62 rfl (zHY _ _ _ _ _) vn rfl rf))) ?_);obtain rfl:=(sj h);exact zx (lks [] [(14,2)] lzz)
theorem zoO (h:zhx v8=some r):kg 169 [kS v8] [kB r]:=by
 refine fi 34 func169 fun Xt=>?_
 unfold zhx at h;refine jp (jb h fun g u0 h=>jg [0] [] [(15,kB g)] ?_ ?_)
 ·refine (rsI 3 6 u0 ?_ ?_)<;>intro uY u0
  ·cases u0;exact rgg
  refine (rsI 5 11 u0 ?_ ?_)<;>intro uZ u0
  ·cases u0;exact rgg
  refine jb u0 fun c wh u0=>jb u0 fun rv u9 u0=>?_;cases u0;exact (ra 1 [kS v8,kI 0] rfl (zCL rfl underlying9 wh) rfl (rl 0 [1] 9 call203 (znA u9) rgg))
 refine jI h ?_ ?_<;>intro va h
 ·refine jp ?_;obtain rfl:=(sj h);exact zx lzz
 refine jp (zr (jb h fun q ve h=>jL ve [0,17] [] (fun s=>[(18,kI s)]) (fun| (.inl v_)=> .x 0 ⟨[],[]⟩| (.inr v_)=> .r ⟨[(2,kB false)],[]⟩) ?_ lzz ?_))
 ·clear h;intro v2 o h;unfold zem at h;refine jp (jI h ?_ ?_)<;>intro vd h
  ·refine zr (jp (jb h fun g2 vg h=>jg [0,17,18] [] [(32,kB g2)] ?_ ?_))
   ·refine jb vg fun c2 wQ vg=>jb vg fun kj vb vg=>(ra 2 [kS v8,kI v2] rfl (zCL rfl underlying9 wQ) rfl (rl 0 [1] 10 call204 (ztz vb) (rsI 2 26 vg ?_ ?_)))<;>intro vf vg
    ·refine jb vg fun c3 wR vg=>jb vg fun kr vm vg=>?_;cases vg;exact (ra 2 [kS v8,kI v2] rfl (zCL rfl underlying9 wR) rfl (rl 0 [1] 10 call203 (znA vm) rgg))
    cases vg;exact rgg
   refine jI h ?_ ?_<;>intro vk h
   ·cases h;exact jz'
   refine zK ?_;cases h;exact jy
  cases h;exact zae rfl lzz
 rcases q with u| u2
 ·refine zar _ rfl (jp ?_);obtain rfl:=(sj h);exact zx lzz
 obtain rfl:=(sj h);exact zgY lzz
theorem zle (h:zck sv v=some r):kg 171 [.sl kd [0] sv,kI v] [kB r]:=by
 refine fi 9 func171 fun Xt=>?_
 unfold zck at h;refine jp (jb h fun rv u9 h=>jr (rl 2 [0] 9 call205 (zmH u9) rf) ?_);cases h;exact zx lzz
theorem zuj (h:zlM k=some r):kg 192 [kI k] [kI r.1,k8 r.2]:=by
 refine fi 16 func192 fun Xt=>?_
 unfold zlM at h;refine jp (jb h fun rv u9 h=>jr (rl 0 [1] 9 call168 (zsP u9) (ra 1 [.om kd zan 11 [] rv,kI k] rfl (zsc (rk:=kd) (rv:=zan) (m:=rv) (k:=k) (.rc zan [] ((mget rv k).getD (⟨[],0⟩:zu))) rfl zfI (zeT rfl rfl) (zCx rfl)) rfl (rfl' [12]))) (jp (jI h ?_ ?_)))<;>intro uY h
 ·cases h;exact jz
 cases h;exact jz
theorem zuS (h:zlT t=some r):kg 183 [.rc zbG [0] t] [kB r]:=by
 refine fi 16 func183 fun Xt=>?_
 unfold zlT at h;refine jq [11] (jb h fun g u0 h=>jg [] [] [(2,kB g)] ?_ ?_)
 ·refine (rsI 4 6 u0 ?_ ?_)<;>intro uY u0
  ·refine (rsI 5 11 u0 ?_ ?_)<;>intro uZ u0
   ·refine jb u0 fun rv u9 u0=>?_;cases u0;exact (rl 2 [1] 10 call209 (zvY u9) rgg)
   cases u0;exact rgg
  cases u0;exact rgg
 obtain rfl:=(sj h);exact zx lzz
theorem zrN (h:zjl b=some r):kg 184 [.sl Rp.byte [0] b] [kI r.1,k8 r.2]:=by
 refine fi 15 func184 fun Xt=>?_
 unfold zjl at h;refine jp (jb h fun rv u9 h=>jr (rl 1 [0] 9 call182 (zjQ u9) rf) ?_);cases h;exact jz
theorem zeE (h:zak sv v=some r):kg 134 [.sl zb [0] sv,.fv 190 [.ep kd [0] v 0]] [kI r]:=by
 refine fi 19 func134 fun Xt=>?_
 unfold zak at h;refine jp (jp (zr (jb h fun q ve h=>jL ve [0,1,7] [] (fun s=>[(8,kI s)]) (fun| (.inl v_)=> .x 0 ⟨[],[]⟩| (.inr v_)=> .r ⟨[(4,kI v_)],[]⟩) ?_ lzz ?_)))
 ·clear h;intro v2 o h;unfold zG at h;refine jp (jI h ?_ ?_)<;>intro uY h
  ·refine zr (jp (jb h fun x vi h=>jb h fun rv u9 h=>jr (rx 3 [0] zkc.el vi rfl rfl (rc 0 rfl (lde zb [0] x zoj) (ra 0 [.fv 190 [.ep kd [0] v 0],.rc zb [0] x] rfl (zLy (args:=[.tmp 15]) [.rc zb [0] x] [0] 10 rfl (zNm _ _) call190 (zwZ u9) rfl rfl rfl rfl rfl) rfl rf))) (jI h ?_ ?_)))<;>intro uZ h
   ·cases h;exact jz'
   refine zK ?_;cases h;exact jy
  cases h;exact zae rfl lzz
 rcases q with u| u2
 ·refine zar _ rfl ?_;cases h;exact jz
 obtain rfl:=(sj h);exact zgY lzz
theorem zxO (h:zkN wv=some r):kg 211 [kU wv] [.lf (.int .i32 r)]:=by
 refine fi 6 func211 fun Xt=>?_
 unfold zkN at h;refine jp (jb h fun rv u9 h=>jr (rl 1 [1] 9 call212 (zsN u9) rf) ?_);cases h;exact zx lzz
theorem zwK (h:zoW b=some r):kg 220 [.sl Rp.byte [0] b] [kI r]:=by
 refine fi 48 func220 fun Xt=>?_
 unfold zoW at h;refine jp (jp (jI h ?_ ?_))<;>intro uY h
 ·cases h;exact jz
 refine jb h fun x vi h=>jb h fun rv u9 h=>jr (rx 1 [0] zap.el vi rfl rfl (rl 1 [1] 9 call221 (zFN u9) rf)) (jg [0,3,4] [] [(24,kB ((rv.1==0)|| (decide (rv.1>(b.length:Int)))))] ?_ ?_)
 ·refine (rsl 3 [] 19 (rv.1==0) ?_ ?_)<;>intro uZ
  · exact (rbl [] 24 true rfl (by grind))
  exact (rbl [] 24 (decide (rv.1>(b.length:Int))) rfl (by grind))
 refine jI h ?_ ?_<;>intro va h
 ·cases h;exact jz
 refine jb h fun v2 vx h=>jr (ra 2 [.sl Rp.byte [0] b,kI 1,kI rv.1] rfl (zfO (some (kI 1)) (some (kI rv.1)) rfl zap.el (zbd _ _ _) ⟨rfl,rfl⟩ ⟨rfl,rfl⟩ vx) rfl rf) (zr (jb h fun q ve h=>jL ve [3,27,28] [] (fun s=>[(4,.lf (.int .u32 s.1)),(29,kI s.2)]) (fun| (.inl v_)=> .X 0 [3] [] [(4,.lf (.int .u32 v_))] []| (.inr v_)=> .r ⟨[(2,kI 0)],[]⟩) ?_ lzz ?_))
 ·clear h;intro s o h;obtain ⟨wv,v3⟩:=s;replace h:zgQ v2 wv v3=some o:=h;unfold zgQ at h;refine jp (jI h ?_ ?_)<;>intro vd h
  ·refine zr (jb h fun x2 vr h=>jr (rx 0 [0] zap.el vr rfl rfl rf) (jr (ra 1 [k8 (x2.toNat:Int),kU 6] rfl (zjz rfl rfl) rfl rf) (jI h ?_ ?_)))<;>intro vf h
   ·cases h;exact jz'
   refine jr (ra 1 [.lf (.int .u32 wv),kU 6] rfl (zCN rfl rfl) rfl rf) (zK ?_);cases h;exact jy
  cases h;exact zae rfl lzz
 rcases q with u| u2
 ·refine zar _ rfl (jb h fun kj vb h=>jr (rl 2 [1] 10 call222 (zFM vb) rf) (jI h ?_ ?_))<;>intro vk h
  ·cases h;exact jz
  cases h;exact jz
 cases h;exact zgY lzz
theorem zwT (h:zjJ b=some r):kg 216 [.sl Rp.byte [0] b] [kU r.1,k8 r.2]:=by
 refine fi 22 func216 fun Xt=>?_
 unfold zjJ at h;refine jp (jb h fun rv u9 h=>jr (rl 1 [0] 9 call182 (zjQ u9) rf) (jg [4] [] [(20,kB ((rv.2.2 !=0)|| (rv.2.1 !=(b.length:Int))))] ?_ ?_))
 ·refine (rsl 3 [] 15 (rv.2.2 !=0) ?_ ?_)<;>intro uY
  · exact (rbl [] 20 true rfl (by grind))
  exact (rbl [] 20 (rv.2.1 !=(b.length:Int)) rfl (by grind))
 refine jI h ?_ ?_<;>intro uZ h
 ·cases h;exact jz
 cases h;exact jz
theorem zoi (h:ziP b wv=some r):kg 178 [.sl Rp.byte [0] b,kU wv] [.own Rp.byte 5 2 [] r]:=by
 refine fi 30 func178 fun Xt=>?_
 unfold ziP at h;refine jp (jb h fun rv u9 h=>jb h fun v vn h=>jr (rl 3 [1] 10 call187 (zwh u9) (ra 1 [kI 0,kI (i64.wrap ((b.length:Int)+rv))] rfl (zIn 12 rfl zap rfl vn) rfl rf)) (jb h fun v2 vx h=>jr (rc 2 rfl (las 12 [] [0] [] zap.el vx (.inl zaI)) rf) (zr (jb h fun q ve h=>jL ve [] [] (fun s=>[(1,kU s.1),(5,.own Rp.byte 5 12 [] s.2)]) (fun o=> .x 0 ⟨[(1,kU o.1),(5,.own Rp.byte 5 12 [] o.2)],[]⟩) ?_ lzz ?_))))
 ·clear h;intro s o h;obtain ⟨kA,l⟩:=s;replace h:zgt kA l=some o:=h;unfold zgt at h;refine jp (jI h ?_ ?_)<;>intro uY h
  ·refine zr (jb h fun y vT h=>jb h fun v3 vu h=>jr (rc 4 rfl (zB.lw (zfe [.lf (.int .u8 (y.toNat:Int))] 14 [] [y] rfl zap rfl rfl rfl rfl) (.l (zha vT))) (rc 0 rfl (lao 12 [] 5 14 [] [] zap.el vu (.inl zaI)) rf)) (zK (jr (ra 1 [kU kA,kU 7] rfl (zjz rfl rfl) rfl rf) ?_)));cases h;exact zV lzz
  cases h;exact zae rfl lzz
 refine zar _ rfl (jb h fun y2 vR h=>jb h fun v4 vK h=>jr (rc 3 rfl (zB.lw (zfe [.lf (.int .u8 (y2.toNat:Int))] 15 [] [y2] rfl zap rfl rfl rfl rfl) (.l (zha vR))) (rc 0 rfl (lao 12 [] 5 15 [] [] zap.el vK (.inl zaI)) rf)) ?_);obtain rfl:=(sj h);exact zx (lks [] [(12,2)] lzz)
theorem zeD (h:zaJ k6=some r):kg 71 [.sl (Rp.list Rp.byte) [0] k6] [.own Rp.byte 5 2 [] r]:=by
 refine fi 36 func71 fun Xt=>?_
 unfold zaJ at h;refine jp (jp (jp (zr (jb h fun q ve h=>jL ve [0,9,10] [] (fun s=>[(3,kI s.1),(11,kI s.2)]) (fun o=> .X 0 [0] [] [(3,kI o)] []) ?_ lzz ?_))))
 ·clear h;intro s o h;obtain ⟨size,v⟩:=s;replace h:zaw k6 size v=some o:=h;unfold zaw at h;refine jp (jI h ?_ ?_)<;>intro uY h
  ·refine zr (jb h fun x vi h=>jr (rx 0 [0] zGc.el vi rfl rfl (rc 0 rfl (ldl (Rp.list Rp.byte) [0] x 0 Rp.byte x) rf)) (jp (jp (jI h ?_ ?_))))<;>intro uZ h
   · exact absurd h nofun
   refine zK ?_;cases h;exact jy
  cases h;exact zae rfl lzz
 refine zar _ rfl (jb h fun rv u9 h=>jr (rl 1 [1] 12 call105 (zlG u9) rf) (jp (zr (jb h fun q2 vE h=>jL vE [25,26] [] (fun s=>[(6,.own Rp.byte 5 14 [] s.1),(27,kI s.2)]) (fun o=> .x 2 ⟨[(6,.own Rp.byte 5 14 [] o)],[]⟩) ?_ lzz ?_))))
 ·clear h;intro s o h;obtain ⟨ja,v2⟩:=s;replace h:zax k6 ja v2=some o:=h;unfold zax at h;refine jp (jI h ?_ ?_)<;>intro va h
  ·refine zr (jb h fun x2 vr h=>jr (rx 0 [0] zGc.el vr rfl rfl (rc 0 rfl (ldl (Rp.list Rp.byte) [0] x2 0 Rp.byte x2) rf)) (jb h fun v3 vu h=>jr (rc 2 rfl (las 14 [] [0] [] zap.el vu (.inl zaI)) rf) (zK ?_)));cases h;exact jy
  cases h;exact zae rfl lzz
 refine zar _ rfl (jp ?_);obtain rfl:=(sj h);exact zx (lks [] [(14,2)] lzz)
theorem zqd (h:zfv sv i k=some r):kg 119 [.sl zd [0] sv,kI i,kI k] [kI r]:=by
 refine fi 119 func119 fun Xt=>?_
 unfold zfv at h;refine jp (jb h fun x vi h=>jb h fun x2 vr h=>jr (rx 2 [0] zgS.el vi rfl rfl (rc 1 rfl (ldl zd [0] x 1 zb x.Fields) (rx 1 [0] zkc.el vr rfl rfl (rc 0 rfl (lde zb [0] x2 zoj) (rfl' [11]))))) (jp (jp (zr (jb h fun q ve h=>jL ve [0,1,2,7] [11] (fun s=>[(8,kB s.1),(9,kB s.2.1),(10,kI s.2.2)]) (fun o=> .X 0 [0,7] [11] [(8,kB o.1),(9,kB o.2)] []) ?_ lzz ?_)))))
 ·clear h;intro s o h;obtain ⟨v8,vq,j⟩:=s;replace h:zbN i k sv x2 v8 vq j=some o:=h;unfold zbN at h;refine jp (jI h ?_ ?_)<;>intro uY h
  ·refine zr (jb h fun g u0 h=>jn (.N [0,1,2,7,9,10] [11] [(8,kB g)] []) ?_ (zez ?_))
   ·rcases zjw u0 with ⟨uZ,u0⟩| ⟨uZ,u0⟩
    ·cases u0;exact jd [0,1,2,7,8,9,10] [11] zcw (by exact (lw_e (dg 24 uZ l0))) (zV lzz)
    refine jb u0 fun x3 vC u0=>jb u0 fun x4 vO u0=>?_;cases u0;exact jd [0,1,2,7,8,9,10] [11] zcw (by exact (lw_e (dg 24 uZ (lwn 2 (di [0] zgS.el vC (lw_e (lx (ldl zd [0] x3 1 zb x3.Fields) (lw_e (di [0] zkc.el vO l0))))))))) (zV lzz)
   refine jb h fun g2 vg h=>jn (.N [0,1,2,7,8,10] [11] [(9,kB g2)] []) ?_ (zez ?_)
   ·rcases zjw vg with ⟨va,vg⟩| ⟨va,vg⟩
    ·cases vg;exact jd [0,1,2,7,8,9,10] [11] zcw (by exact (lw_e (dg 39 va l0))) (zV lzz)
    refine jb vg fun x5 vS vg=>jb vg fun x6 wb vg=>?_;cases vg;exact jd [0,1,2,7,8,9,10] [11] zcw (by exact (lw_e (dg 39 va (lwn 2 (di [0] zgS.el vS (lw_e (lx (ldl zd [0] x5 1 zb x5.Fields) (lw_e (di [0] zkc.el wb l0))))))))) (zV lzz)
   refine zK ?_;cases h;exact jy
  cases h;exact zae rfl lzz
 refine zar _ rfl (jb h fun rv u9 h=>jr (rl 2 [1] 11 call118 (zkR u9) rf) (jI h ?_ ?_))<;>intro vd h
 ·cases h;exact jz
 refine jp (jI h ?_ ?_)<;>intro vf h
 ·cases h;exact jz
 refine jg [0,7,9] [11] [(76,kB ((decide (x2.Number<1))|| ((decide (x2.Number>536870911))|| ((decide (x2.Number>=19000))&&(decide (x2.Number<20000))))))] ?_ ?_
 ·refine (rsl 4 [] 62 (decide (x2.Number<1)) ?_ ?_)<;>intro vk
  · exact (rbl [] 76 true rfl (by grind))
  refine (rsl 5 [] 67 (decide (x2.Number>536870911)) ?_ ?_)<;>intro vp
  · exact (rbl [] 76 true rfl (by grind))
  refine (rsl 4 [] 71 (decide (x2.Number>=19000)) ?_ ?_)<;>intro vy
  · exact (rbl [] 76 (decide (x2.Number<20000)) rfl (by grind))
  exact (rbl [] 76 false rfl (by grind))
 refine jI h ?_ ?_<;>intro vA h
 ·cases h;exact jz
 refine jp (jI h ?_ ?_)<;>intro vB h
 ·cases h;exact jz
 refine jb h fun kj vb h=>jr (rl 2 [1] 11 call84 (zhC vb) rf) (jI h ?_ ?_)<;>intro vI h
 ·cases h;exact jz
 refine jb h fun g3 vP h=>jg [0,7] [11] [(93,kB g3)] ?_ ?_
 ·refine (rsI 3 84 vP ?_ ?_)<;>intro vF vP
  ·refine (rsI 3 87 vP ?_ ?_)<;>intro vJ vP
   ·refine jb vP fun kr vm vP=>?_;cases vP;exact (rl 2 [1] 11 call38 (zbz vm) (rel [] lzz))
   cases vP;exact (rel [] lzz)
  cases vP;exact (rel [] lzz)
 refine jI h ?_ ?_<;>intro vL h
 ·cases h;exact jz
 refine jg [] [] [(118,kB (if (x2.Kind==17) then ((decide (x2.Of<0))|| ((decide (x2.Of>=(sv.length:Int)))|| ((x2.Kind !=17)&&(x2.Of !=0)))) else ((x2.Kind !=17)&&(x2.Of !=0))))] ?_ ?_
 ·refine (rsl 4 [] 97 (x2.Kind==17) ?_ ?_)<;>intro vH
  ·refine (rsl 4 [] 101 (decide (x2.Of<0)) ?_ ?_)<;>intro vN
   · exact (rbl [] 118 true rfl (by grind))
   refine (rsl 8 [] 109 (decide (x2.Of>=(sv.length:Int))) ?_ ?_)<;>intro vQ
   · exact (rbl [] 118 true rfl (by grind))
   refine (rsl 4 [] 113 (x2.Kind !=17) ?_ ?_)<;>intro vW
   · exact (rbl [] 118 (x2.Of !=0) rfl (by grind))
   exact (rbl [] 118 false rfl (by grind))
  refine (rsl 16 [] 113 (x2.Kind !=17) ?_ ?_)<;>intro vX
  · exact (rbl [] 118 (x2.Of !=0) rfl (by grind))
  exact (rbl [] 118 false rfl (by grind))
 refine jI h ?_ ?_<;>intro wi h
 ·cases h;exact jz
 cases h;exact jz
theorem zqC (h:zfY b kp=some r):kg 89 [.sl Rp.byte [0] b,kI kp] [kI r.1,kI r.2.1,kI r.2.2.1,kI r.2.2.2]:=by
 refine fi 40 func89 fun Xt=>?_
 unfold zfY at h;refine jp (jb h fun rv u9 h=>jr (rl 2 [0] 9 call60 (zdf u9) rf) (jp (jI h ?_ ?_)))<;>intro uY h
 ·cases h;exact jz
 refine jb h fun g u0 h=>jg [8,9] [] [(32,kB g)] ?_ ?_
 ·refine (rsI 3 23 u0 ?_ ?_)<;>intro uZ u0
  ·cases u0;exact rgg
  refine jb u0 fun kj vb u0=>?_;cases u0;exact (rl 6 [1] 9 call124 (zpY vb) rgg)
 refine jI h ?_ ?_<;>intro va h
 ·cases h;exact jz
 cases h;exact jz
theorem zkT (h:zeK k b=some r):kg 52 [kI k,.sl Rp.byte [0] b] [.own kd 3 2 [] r.1,kI r.2]:=by
 refine fi 48 func52 fun Xt=>?_
 unfold zeK at h;refine jp (jb h fun rv u9 h=>jr (rl 1 [1] 12 call38 (zbz u9) rf) (jI h ?_ ?_))<;>intro uY h
 ·refine jp ?_;cases h;exact zx lw
 refine jp (jp (zr (jb h fun q ve h=>jL ve [0,1] [] (fun s=>[(6,.own kd 3 16 [] s.1),(7,kI s.2)]) (fun| (.inl v_)=> .x 0 ⟨[(6,.own kd 3 16 [] v_)],[]⟩| (.inr v_)=> .r ⟨[(4,kN),(5,kI v_)],[]⟩) ?_ lw ?_)))
 ·clear h;intro s o h;obtain ⟨out,kp⟩:=s;replace h:zaX b k out kp=some o:=h;unfold zaX at h;refine jp (jI h ?_ ?_)<;>intro uZ h
  ·refine zr (jp (jp (jb h fun p vD h=>jn (.N [0,1,6,7] [] [(8,kI p)] []) ?_ ?_)))
   ·replace h:=vD;refine jI h ?_ ?_<;>intro va h
    ·cases h;exact jy
    cases h;exact zV lzz
   refine zez (jp (jb h fun p2 vM h=>jn (match p2 with| (.inl v_)=> .N [0,1,6,7] [] [(8,kI v_)] []| (.inr v_)=> .r ⟨[(4,kN),(5,kI v_)],[]⟩) ?_ ?_))
   ·replace h:=vM;refine jI h ?_ ?_<;>intro vd h
    ·refine jb h fun kj vb h=>jr (rl 2 [0] 15 call60 (zdf vb) rf) (jp (jI h ?_ ?_))<;>intro vf h
     ·cases h;exact jz
     cases h;exact jy
    cases h;exact zV lzz
   rcases p2 with u| u2
   ·refine zez (jp (jI h ?_ ?_))<;>intro vk h
    ·cases h;exact jz'
    refine jp (jb h fun v3 vu h=>jr (rc 2 rfl (zfe [kI (i64.wrap (kp+u))] 17 [] ([(i64.wrap (kp+u))]:(List Int)) rfl zkd rfl rfl rfl rfl) (rc 0 rfl (lao 16 [] 3 17 [] [] zkd.el vu (.inl (zjc _))) rf)) (zK ?_));cases h;exact zV lzz
   cases h;exact zCE lzz
  cases h;exact zae rfl lzz
 rcases q with u3| u4
 ·refine zar _ rfl (jp ?_);cases h;exact zx (lks [] [(16,2)] lzz)
 cases h;exact zgY lw
theorem zqD (h:zfZ b kp=some r):kg 120 [.sl Rp.byte [0] b,kI kp] [kI r]:=by
 refine fi 61 func120 fun Xt=>?_
 unfold zfZ at h;refine jp (jp (zr (jb h fun q2 vE h=>jL vE [0,1] [] (fun s=>[(5,kI s)]) (fun| (.inl v_)=> .x 0 ⟨[],[]⟩| (.inr v_)=> .r ⟨[(4,kI v_)],[]⟩) ?_ lzz ?_)))
 ·clear h;intro n o h;unfold zdg at h;refine jg [0,1,5] [] [(17,kB ((decide (n<=4))&&(decide ((i64.wrap (kp+n))<=(b.length:Int)))))] ?_ ?_
  ·refine (rsl 3 [] 10 (decide (n<=4)) ?_ ?_)<;>intro uY
   · exact (rbl [] 17 (decide ((i64.wrap (kp+n))<=(b.length:Int))) rfl (by grind))
   exact (rbl [] 17 false rfl (by grind))
  refine jI h ?_ ?_<;>intro uZ h
  ·refine zr (jb h fun x vi h=>jr (rx 2 [0] zap.el vi rfl rfl rf) (jp (jb h fun p vD h=>jn (.N [0,1,5] [] [(6,kI p)] []) ?_ ?_)))
   ·replace h:=vD;refine jI h ?_ ?_<;>intro va h
    ·refine jb h fun x2 vr h=>jb h fun v3 vu h=>jr (rc 1 rfl (zfe [kI 0,kI 0,kI 32,kI 16,kI 8] 12 [] ([0,0,32,16,8]:(List Int)) rfl zkd rfl rfl rfl rfl) (ra 1 [.own kd 3 12 [] ([0,0,32,16,8]:(List Int)),kI n] rfl (zhI rfl zkd.el (zbv _ _ _ _ _) vr) rfl (ra 1 [kI (i64.wrap (x.toNat:Int)),kI x2] rfl (zPz rfl vu) rfl rf))) ?_;cases h;exact zV lzz
    cases h;exact zV lzz
   refine zez (jp (zr (jb h fun q ve h=>jL ve [0,1,5] [] (fun s=>[(6,kI s.1),(7,kI s.2)]) (fun o=> .X 2 [0,1,5] [] [(6,kI o)] []) ?_ lzz ?_)))
   ·clear h;intro s o h;obtain ⟨kj,i⟩:=s;replace h:zcc kp b n kj i=some o:=h;unfold zcc at h;refine jp (jI h ?_ ?_)<;>intro vd h
    ·refine zr (jb h fun x3 vC h=>jr (rx 6 [0] zap.el vC rfl rfl rf) (zK ?_));cases h;exact jy
    cases h;exact zae rfl lzz
   refine zar _ rfl (jb h fun kE vv h=>jb h fun v4 vK h=>jd [0,1,5,59] [] zcw (by exact (lw_e (lx (lf1 150 (lcd [kI q] 12 call150 (zsB vv))) (ly [.own Rp.byte 5 14 [] kE] (zqX rfl underlying24 underlying5 underlying9 (zbv _ _ _ _ _)) rfl (lwn 5 (ly [.sl Rp.byte [0] b,kI kp,kI (i64.wrap (kp+n))] (zfO (some (kI kp)) (some (kI (i64.wrap (kp+n)))) rfl zap.el (zbd _ _ _) ⟨rfl,rfl⟩ ⟨rfl,rfl⟩ vK) rfl (ly [.sl Rp.byte [0] v4] (zqX rfl underlying24 underlying5 underlying9 (zbd _ _ _)) rfl l0))))))) (jI h ?_ ?_))<;>intro vf h
   ·cases h;exact jz'
   refine zK ?_;cases h;exact jy
  cases h;exact zae rfl lzz
 rcases q2 with u| u2
 ·refine zar _ rfl ?_;cases h;exact jz
 obtain rfl:=(sj h);exact zgY lzz
theorem zqE (h:zga wire value=some r):kg 57 [kI wire,.sl Rp.byte [0] value] [kB r]:=by
 refine fi 44 func57 fun Xt=>?_
 unfold zga at h;refine jp (jp (jI h ?_ ?_))<;>intro uY h
 ·refine jb h fun rv u9 h=>jr (rl 1 [0] 9 call60 (zdf u9) rf) (jg [] [] [(4,kB ((rv.2.2==0)&&(rv.2.1==(value.length:Int))))] ?_ ?_)
  ·refine (rsl 3 [] 18 (rv.2.2==0) ?_ ?_)<;>intro uZ
   · exact (rbl [] 4 (rv.2.1==(value.length:Int)) rfl (by grind))
   exact (rbl [] 4 false rfl (by grind))
  cases h;exact zx lzz
 refine jg [] [] [(4,kB ((wire==2)|| (if (wire==1) then (((value.length:Int)==8)|| ((wire==5)&&((value.length:Int)==4))) else ((wire==5)&&((value.length:Int)==4)))))] ?_ ?_
 ·refine (rsl 3 [] 26 (wire==2) ?_ ?_)<;>intro va
  · exact (rbl [] 4 true rfl (by grind))
  refine (rsl 3 [] 29 (wire==1) ?_ ?_)<;>intro vd
  ·refine (rsl 6 [] 35 ((value.length:Int)==8) ?_ ?_)<;>intro vf
   · exact (rbl [] 4 true rfl (by grind))
   refine (rsl 3 [] 38 (wire==5) ?_ ?_)<;>intro vk
   · exact (rbl [] 4 ((value.length:Int)==4) rfl (by grind))
   exact (rbl [] 4 false rfl (by grind))
  refine (rsl 9 [] 38 (wire==5) ?_ ?_)<;>intro vp
  · exact (rbl [] 4 ((value.length:Int)==4) rfl (by grind))
  exact (rbl [] 4 false rfl (by grind))
 cases h;exact zx lzz
theorem zhB (h:zcW k wv=some r):kg 61 [kI k,kU wv] [kU r]:=by
 refine fi 25 func61 fun Xt=>?_
 unfold zcW at h;refine jp (jp (zr (jp (jb h fun p vD h=>jn (.N [1,5] [] [(6,kB p)] []) ?_ ?_))))
 ·replace h:=vD;refine jI h ?_ ?_<;>intro uY h
  ·cases h;exact zV lzz
  cases h;exact jy
 refine zez (jI h ?_ ?_)<;>intro uZ h
 ·refine jb h fun rv u9 h=>jb h fun kj vb h=>jr (rl 1 [1] 9 call91 (zpc u9) (rl 0 [1] 9 call90 (zqz vb) rf)) ?_;obtain rfl:=(sj h);exact zx lzz
 refine jp (jb h fun p2 vM h=>jn (.N [1,5] [] [(12,kB p2)] []) ?_ ?_)
 ·replace h:=vM;refine jI h ?_ ?_<;>intro va h
  ·cases h;exact zV lzz
  refine jp (jI h ?_ ?_)<;>intro vd h
  ·cases h;exact zV lzz
  refine jp (jI h ?_ ?_)<;>intro vf h
  ·cases h;exact zV lzz
  refine jp (jI h ?_ ?_)<;>intro vk h
  ·cases h;exact zV lzz
  cases h;exact jy
 refine zez (jI h ?_ ?_)<;>intro vp h
 ·cases h;exact jz
 refine jp (jI h ?_ ?_)<;>intro vy h
 ·refine jp (jI h ?_ ?_)<;>intro vA h
  ·cases h;exact jz
  cases h;exact jz
 refine zK (jp ?_);obtain rfl:=(sj h);exact zx lzz
theorem zsA (h:zgE vl vq wire=some r):kg 121 [kI vq,kI wire] [.own Rp.byte 5 2 [] r]:=by
 refine fi 11 func121 fun Xt=>?_
 unfold zgE at h;refine jp (jb h fun rv u9 h=>jr (rl 5 [1] 10 call122 (zio u9) rf) ?_);obtain rfl:=(sj h);exact zx (lks [] [(12,2)] lzz)
theorem zqj (h:zfA av b=some r):kg 16 [.sl Rp.byte [0] av,.sl Rp.byte [0] b] [kI r]:=by
 refine fi 33 func16 fun Xt=>?_
 unfold zfA at h;refine jp (jb h fun rv u9 h=>jr (rl 2 [0] 9 call15 (zfV u9) rf) (jI h ?_ ?_))<;>intro uY h
 ·cases h;exact jz
 refine jp (zr (jb h fun q ve h=>jL ve [0,1] [] (fun s=>[(5,kI s)]) (fun o=> .r ⟨[(4,kI o)],[]⟩) ?_ lzz ?_))
 ·clear h;intro i o h;unfold zbl at h;refine zr (jb h fun g u0 h=>jn (.N [0,1,5] [] [(31,kB g)] []) ?_ (zez ?_))
  ·rcases zjw u0 with ⟨uZ,u0⟩| ⟨uZ,u0⟩
   ·cases u0;exact jd [0,1,5,31] [] zcw (by exact (lwn 4 (dg 14 uZ l0))) (zV lzz)
   rcases zjw u0 with ⟨va,u0⟩| ⟨va,u0⟩
   ·cases u0;exact jd [0,1,5,31] [] zcw (by exact (lwn 4 (dg 14 uZ (lwn 5 (dg 20 va l0))))) (zV lzz)
   refine jb u0 fun x vi u0=>jb u0 fun x2 vr u0=>?_;cases u0;exact jd [0,1,5,31] [] zcw (by exact (lwn 4 (dg 14 uZ (lwn 5 (dg 20 va (lwn 2 (di [0] zap.el vi (lwn 3 (di [0] zap.el vr l0))))))))) (zV lzz)
  refine jI h ?_ ?_<;>intro vd h
  ·cases h;exact jz'
  refine zK ?_;cases h;exact jy
 obtain rfl:=(sj h);exact zgY lzz
end Go.Proofs.YtaglemhabeipfaaGreat
