/-
  The Go functions do what the plain functions say. No condition.
-/
import Derived.Test.YtkgohoggipdokaaGreatx1G1
import Derived.Test.YtkgohoggipdokaaGreatx1Y
set_option autoImplicit true
set_option relaxedAutoImplicit true
namespace Go.Proofs.YtkgohoggipdokaaGreat
open Go.IntKind (i64)
open Tryz
open Go Go.RowKit
set_option linter.unusedVariables false
set_option maxRecDepth 100000
set_option maxHeartbeats 3200000
theorem zDo (h:zqO=some r):w6 118 [] [.own wY 3 2 [] r]:=by
 refine fi 4 func118 fun Xt=>?_
 unfold zqO at h;refine jp (jb h fun rv uU h=>jb h fun v vi h=>jr (rl 0 [1] 11 call155 (zsu uU) (rkl 0 [] ⟨[(1,.om wY zaJ 13 [] rv)],[]⟩ (zDY (rv:=zaJ) (m:=rv) 14 zKw rfl rfl rfl rfl rfl rfl call154 call90 rfl (zGr _ _ _ _ _) vi rfl rf))) ?_);obtain rfl:=(sj h);exact zx (lks [] [(14,2)] lzz)
theorem zoI (h:zhK vR=some r):w6 156 [kS vR] [kB r]:=by
 refine fi 34 func156 fun Xt=>?_
 unfold zhK at h;refine jp (jb h fun g uV h=>jg [0] [] [(15,kB g)] ?_ ?_)
 ·refine (rsI 3 6 uV ?_ ?_)<;>intro uS uV
  ·cases uV;exact rgg
  refine (rsI 5 11 uV ?_ ?_)<;>intro uT uV
  ·cases uV;exact rgg
  refine jb uV fun c vV uV=>jb uV fun rv uU uV=>?_;cases uV;exact (ra 1 [kS vR,kI 0] rfl (zBL rfl underlying9 vV) rfl (rl 0 [1] 9 call187 (znA uU) rgg))
 refine jI h ?_ ?_<;>intro uW h
 ·refine jp ?_;obtain rfl:=(sj h);exact zx lzz
 refine jp (zq (jb h fun q u0 h=>jL u0 [0,17] [] (fun s=>[(18,kI s)]) (fun| (.inl v_)=> .x 0 ⟨[],[]⟩| (.inr v_)=> .r ⟨[(2,kB false)],[]⟩) ?_ lzz ?_))
 ·clear h;intro v2 o h;unfold zcT at h;refine jp (jI h ?_ ?_)<;>intro uZ h
  ·refine zq (jp (jb h fun g2 vg h=>jg [0,17,18] [] [(32,kB g2)] ?_ ?_))
   ·refine jb vg fun c2 wK vg=>jb vg fun w8 uY vg=>(ra 2 [kS vR,kI v2] rfl (zBL rfl underlying9 wK) rfl (rl 0 [1] 10 call188 (ztd uY) (rsI 2 26 vg ?_ ?_)))<;>intro u9 vg
    ·refine jb vg fun c3 wL vg=>jb vg fun kg vd vg=>?_;cases vg;exact (ra 2 [kS vR,kI v2] rfl (zBL rfl underlying9 wL) rfl (rl 0 [1] 10 call187 (znA vd) rgg))
    cases vg;exact rgg
   refine jI h ?_ ?_<;>intro vf h
   ·cases h;exact jz'
   refine zS ?_;cases h;exact jy
  cases h;exact zag rfl lzz
 rcases q with u| u2
 ·refine zaA _ rfl (jp ?_);obtain rfl:=(sj h);exact zx lzz
 obtain rfl:=(sj h);exact zfn lzz
theorem zlg (h:zcI sv v=some r):w6 158 [.sl wY [0] sv,kI v] [kB r]:=by
 refine fi 9 func158 fun Xt=>?_
 unfold zcI at h;refine jp (jb h fun rv uU h=>jr (rl 2 [0] 9 call189 (zmN uU) rf) ?_);cases h;exact zx lzz
theorem ztF (h:zlT k=some r):w6 214 [kI k] [kI r.1,k8 r.2]:=by
 refine fi 16 func214 fun Xt=>?_
 unfold zlT at h;refine jp (jb h fun rv uU h=>jr (rl 0 [1] 9 call155 (zsu uU) (ra 1 [.om wY zaJ 11 [] rv,kI k] rfl (zuS (rk:=wY) (rv:=zaJ) (m:=rv) (k:=k) (.rc zaJ [] ((mget rv k).getD (⟨[],0⟩:zt))) rfl zga (zfl rfl rfl) (zBx rfl)) rfl (rfl' [12]))) (jp (jI h ?_ ?_)))<;>intro uS h
 ·cases h;exact jz
 cases h;exact jz
theorem zzy (h:zky vb x=some r):w6 26 [.rc zm [0] x] [kI r]:=by
 refine fi 5 func26 fun Xt=>?_
 unfold zky at h;refine jr (rc 0 rfl (lbx 11 [0] (zcv [0] x)) rf) (jb h fun rv uU h=>jr (rc 1 rfl (lw0 10 call55 (zzA uU) (.c (zbH [0] x) (.k .n))) rf) ?_);obtain rfl:=(sj h);exact zx lzz
theorem zed (h:zar sv v=some r):w6 143 [.sl ze [0] sv,.fv 108 [.ep wY [0] v 0]] [kI r]:=by
 refine fi 19 func143 fun Xt=>?_
 unfold zar at h;refine jp (jp (zq (jb h fun q u0 h=>jL u0 [0,1,7] [] (fun s=>[(8,kI s)]) (fun| (.inl v_)=> .x 0 ⟨[],[]⟩| (.inr v_)=> .r ⟨[(4,kI v_)],[]⟩) ?_ lzz ?_)))
 ·clear h;intro v2 o h;unfold zC at h;refine jp (jI h ?_ ?_)<;>intro uS h
  ·refine zq (jp (jb h fun x va h=>jb h fun rv uU h=>jr (rx 3 [0] zjp.el va rfl rfl (rc 0 rfl (lde ze [0] x znp) (ra 0 [.fv 108 [.ep wY [0] v 0],.rc ze [0] x] rfl (zDx (args:=[.tmp 15]) [.rc ze [0] x] [0] 10 rfl (zGq _ _) call108 (zrm uU) rfl rfl rfl rfl rfl) rfl rf))) (jI h ?_ ?_)))<;>intro uT h
   ·cases h;exact jz'
   refine zS ?_;cases h;exact jy
  cases h;exact zag rfl lzz
 rcases q with u| u2
 ·refine zaA _ rfl ?_;cases h;exact jz
 obtain rfl:=(sj h);exact zfn lzz
theorem zwa (h:zoO b=some r):w6 226 [.sl Rp.byte [0] b] [kI r]:=by
 refine fi 48 func226 fun Xt=>?_
 unfold zoO at h;refine jp (jp (jI h ?_ ?_))<;>intro uS h
 ·cases h;exact jz
 refine jb h fun x va h=>jb h fun rv uU h=>jr (rx 1 [0] zbB.el va rfl rfl (rl 1 [1] 9 call230 (zEq uU) rf)) (jg [0,3,4] [] [(24,kB ((rv.1==0)|| (decide (rv.1>(b.length:Int)))))] ?_ ?_)
 ·refine (rsl 3 [] 19 (rv.1==0) ?_ ?_)<;>intro uT
  · exact (rbl [] 24 true rfl (by grind))
  exact (rbl [] 24 (decide (rv.1>(b.length:Int))) rfl (by grind))
 refine jI h ?_ ?_<;>intro uW h
 ·cases h;exact jz
 refine jb h fun v2 vq h=>jr (ra 2 [.sl Rp.byte [0] b,kI 1,kI rv.1] rfl (zge (some (kI 1)) (some (kI rv.1)) rfl zbB.el (zce _ _ _) ⟨rfl,rfl⟩ ⟨rfl,rfl⟩ vq) rfl rf) (zq (jb h fun q u0 h=>jL u0 [3,27,28] [] (fun s=>[(4,.lf (.int .u32 s.1)),(29,kI s.2)]) (fun| (.inl v_)=> .X 0 [3] [] [(4,.lf (.int .u32 v_))] []| (.inr v_)=> .r ⟨[(2,kI 0)],[]⟩) ?_ lzz ?_))
 ·clear h;intro s o h;obtain ⟨wv,v3⟩:=s;replace h:zfz v2 wv v3=some o:=h;unfold zfz at h;refine jp (jI h ?_ ?_)<;>intro uZ h
  ·refine zq (jb h fun x2 vh h=>jr (rx 0 [0] zbB.el vh rfl rfl rf) (jr (ra 1 [k8 (x2.toNat:Int),kU 6] rfl (zjH rfl rfl) rfl rf) (jI h ?_ ?_)))<;>intro u9 h
   ·cases h;exact jz'
   refine jr (ra 1 [.lf (.int .u32 wv),kU 6] rfl (zBM rfl rfl) rfl rf) (zS ?_);cases h;exact jy
  cases h;exact zag rfl lzz
 rcases q with u| u2
 ·refine zaA _ rfl (jb h fun w8 uY h=>jr (rl 2 [1] 10 call231 (zEp uY) rf) (jI h ?_ ?_))<;>intro vf h
  ·cases h;exact jz
  cases h;exact jz
 cases h;exact zfn lzz
theorem zxd (h:zkL wv=some r):w6 177 [kU wv] [.lf (.int .i32 r)]:=by
 refine fi 6 func177 fun Xt=>?_
 unfold zkL at h;refine jp (jb h fun rv uU h=>jr (rl 1 [1] 9 call178 (zss uU) rf) ?_);cases h;exact zx lzz
theorem zuh (h:zlZ t=some r):w6 183 [.rc zcq [0] t] [kB r]:=by
 refine fi 16 func183 fun Xt=>?_
 unfold zlZ at h;refine jq [11] (jb h fun g uV h=>jg [] [] [(2,kB g)] ?_ ?_)
 ·refine (rsI 4 6 uV ?_ ?_)<;>intro uS uV
  ·refine (rsI 5 11 uV ?_ ?_)<;>intro uT uV
   ·refine jb uV fun rv uU uV=>?_;cases uV;exact (rl 2 [1] 10 call211 (zvl uU) rgg)
   cases uV;exact rgg
  cases uV;exact rgg
 obtain rfl:=(sj h);exact zx lzz
theorem zry (h:zjn b=some r):w6 212 [.sl Rp.byte [0] b] [kI r.1,k8 r.2]:=by
 refine fi 15 func212 fun Xt=>?_
 unfold zjn at h;refine jp (jb h fun rv uU h=>jr (rl 1 [0] 9 call213 (zjP uU) rf) ?_);cases h;exact jz
theorem zof (h:ziV b wv=some r):w6 152 [.sl Rp.byte [0] b,kU wv] [.own Rp.byte 5 2 [] r]:=by
 refine fi 30 func152 fun Xt=>?_
 unfold ziV at h;refine jp (jb h fun rv uU h=>jb h fun v vi h=>jr (rl 3 [1] 10 call182 (zvF uU) (ra 1 [kI 0,kI (i64.wrap ((b.length:Int)+rv))] rfl (ztK 12 rfl zbB rfl vi) rfl rf)) (jb h fun v2 vq h=>jr (rc 2 rfl (las 12 [] [0] [] zbB.el vq (.inl zcH)) rf) (zq (jb h fun q u0 h=>jL u0 [] [] (fun s=>[(1,kU s.1),(5,.own Rp.byte 5 12 [] s.2)]) (fun o=> .x 0 ⟨[(1,kU o.1),(5,.own Rp.byte 5 12 [] o.2)],[]⟩) ?_ lzz ?_))))
 ·clear h;intro s o h;obtain ⟨wv2,l⟩:=s;replace h:zeI wv2 l=some o:=h;unfold zeI at h;refine jp (jI h ?_ ?_)<;>intro uS h
  ·refine zq (jb h fun y vM h=>jb h fun v3 vk h=>jr (rc 4 rfl (zy.lw (zey [.lf (.int .u8 (y.toNat:Int))] 14 [] [y] rfl zbB rfl rfl rfl rfl) (.l (zht vM))) (rc 0 rfl (lao 12 [] 5 14 [] [] zbB.el vk (.inl zcH)) rf)) (zS (jr (ra 1 [kU wv2,kU 7] rfl (zjH rfl rfl) rfl rf) ?_)));cases h;exact zae lzz
  cases h;exact zag rfl lzz
 refine zaA _ rfl (jb h fun y2 vL h=>jb h fun v4 vH h=>jr (rc 3 rfl (zy.lw (zey [.lf (.int .u8 (y2.toNat:Int))] 15 [] [y2] rfl zbB rfl rfl rfl rfl) (.l (zht vL))) (rc 0 rfl (lao 12 [] 5 15 [] [] zbB.el vH (.inl zcH)) rf)) ?_);obtain rfl:=(sj h);exact zx (lks [] [(12,2)] lzz)
theorem zck (h:zaz kD=some r):w6 66 [.sl (Rp.list Rp.byte) [0] kD] [.own Rp.byte 5 2 [] r]:=by
 refine fi 36 func66 fun Xt=>?_
 unfold zaz at h;refine jp (jp (jp (zq (jb h fun q u0 h=>jL u0 [0,9,10] [] (fun s=>[(3,kI s.1),(11,kI s.2)]) (fun o=> .X 0 [0] [] [(3,kI o)] []) ?_ lzz ?_))))
 ·clear h;intro s o h;obtain ⟨size,v⟩:=s;replace h:zau kD size v=some o:=h;unfold zau at h;refine jp (jI h ?_ ?_)<;>intro uS h
  ·refine zq (jb h fun x va h=>jr (rx 0 [0] zoV.el va rfl rfl (rc 0 rfl (ldl (Rp.list Rp.byte) [0] x 0 Rp.byte x) rf)) (jp (jp (jI h ?_ ?_))))<;>intro uT h
   · exact absurd h nofun
   refine zS ?_;cases h;exact jy
  cases h;exact zag rfl lzz
 refine zaA _ rfl (jb h fun rv uU h=>jr (rl 1 [1] 12 call109 (zlL uU) rf) (jp (zq (jb h fun q2 vn h=>jL vn [25,26] [] (fun s=>[(6,.own Rp.byte 5 14 [] s.1),(27,kI s.2)]) (fun o=> .x 2 ⟨[(6,.own Rp.byte 5 14 [] o)],[]⟩) ?_ lzz ?_))))
 ·clear h;intro s o h;obtain ⟨kJ,v2⟩:=s;replace h:zav kD kJ v2=some o:=h;unfold zav at h;refine jp (jI h ?_ ?_)<;>intro uW h
  ·refine zq (jb h fun x2 vh h=>jr (rx 0 [0] zoV.el vh rfl rfl (rc 0 rfl (ldl (Rp.list Rp.byte) [0] x2 0 Rp.byte x2) rf)) (jb h fun v3 vk h=>jr (rc 2 rfl (las 14 [] [0] [] zbB.el vk (.inl zcH)) rf) (zS ?_)));cases h;exact jy
  cases h;exact zag rfl lzz
 refine zaA _ rfl (jp ?_);obtain rfl:=(sj h);exact zx (lks [] [(14,2)] lzz)
theorem zqa (h:zfP sv i k=some r):w6 74 [.sl zg [0] sv,kI i,kI k] [kI r]:=by
 refine fi 119 func74 fun Xt=>?_
 unfold zfP at h;refine jp (jb h fun x va h=>jb h fun x2 vh h=>jr (rx 2 [0] zhl.el va rfl rfl (rc 1 rfl (ldl zg [0] x 1 ze x.Fields) (rx 1 [0] zjp.el vh rfl rfl (rc 0 rfl (lde ze [0] x2 znp) (rfl' [11]))))) (jp (jp (zq (jb h fun q u0 h=>jL u0 [0,1,2,7] [11] (fun s=>[(8,kB s.1),(9,kB s.2.1),(10,kI s.2.2)]) (fun o=> .X 0 [0,7] [11] [(8,kB o.1),(9,kB o.2)] []) ?_ lzz ?_)))))
 ·clear h;intro s o h;obtain ⟨vR,vl,j⟩:=s;replace h:zbt i k sv x2 vR vl j=some o:=h;unfold zbt at h;refine jp (jI h ?_ ?_)<;>intro uS h
  ·refine zq (jb h fun g uV h=>jn (.N [0,1,2,7,9,10] [11] [(8,kB g)] []) ?_ (zek ?_))
   ·rcases zkW uV with ⟨uT,uV⟩| ⟨uT,uV⟩
    ·cases uV;exact jd [0,1,2,7,8,9,10] [11] zdc (by exact (lw_e (dg 24 uT l0))) (zae lzz)
    refine jb uV fun x3 vp uV=>jb uV fun x4 vz uV=>?_;cases uV;exact jd [0,1,2,7,8,9,10] [11] zdc (by exact (lw_e (dg 24 uT (lwn 2 (di [0] zhl.el vp (lw_e (lx (ldl zg [0] x3 1 ze x3.Fields) (lw_e (di [0] zjp.el vz l0))))))))) (zae lzz)
   refine jb h fun g2 vg h=>jn (.N [0,1,2,7,8,10] [11] [(9,kB g2)] []) ?_ (zek ?_)
   ·rcases zkW vg with ⟨uW,vg⟩| ⟨uW,vg⟩
    ·cases vg;exact jd [0,1,2,7,8,9,10] [11] zdc (by exact (lw_e (dg 39 uW l0))) (zae lzz)
    refine jb vg fun x5 vB vg=>jb vg fun x6 vS vg=>?_;cases vg;exact jd [0,1,2,7,8,9,10] [11] zdc (by exact (lw_e (dg 39 uW (lwn 2 (di [0] zhl.el vB (lw_e (lx (ldl zg [0] x5 1 ze x5.Fields) (lw_e (di [0] zjp.el vS l0))))))))) (zae lzz)
   refine zS ?_;cases h;exact jy
  cases h;exact zag rfl lzz
 refine zaA _ rfl (jb h fun rv uU h=>jr (rl 2 [1] 11 call73 (zkP uU) rf) (jI h ?_ ?_))<;>intro uZ h
 ·cases h;exact jz
 refine jp (jI h ?_ ?_)<;>intro u9 h
 ·cases h;exact jz
 refine jg [0,7,9] [11] [(76,kB ((decide (x2.Number<1))|| ((decide (x2.Number>536870911))|| ((decide (x2.Number>=19000))&&(decide (x2.Number<20000))))))] ?_ ?_
 ·refine (rsl 4 [] 62 (decide (x2.Number<1)) ?_ ?_)<;>intro vf
  · exact (rbl [] 76 true rfl (by grind))
  refine (rsl 5 [] 67 (decide (x2.Number>536870911)) ?_ ?_)<;>intro vj
  · exact (rbl [] 76 true rfl (by grind))
  refine (rsl 4 [] 71 (decide (x2.Number>=19000)) ?_ ?_)<;>intro vr
  · exact (rbl [] 76 (decide (x2.Number<20000)) rfl (by grind))
  exact (rbl [] 76 false rfl (by grind))
 refine jI h ?_ ?_<;>intro vu h
 ·cases h;exact jz
 refine jp (jI h ?_ ?_)<;>intro vv h
 ·cases h;exact jz
 refine jb h fun w8 uY h=>jr (rl 2 [1] 11 call41 (zhS uY) rf) (jI h ?_ ?_)<;>intro vF h
 ·cases h;exact jz
 refine jb h fun g3 vx h=>jg [0,7] [11] [(93,kB g3)] ?_ ?_
 ·refine (rsI 3 84 vx ?_ ?_)<;>intro vy vx
  ·refine (rsI 3 87 vx ?_ ?_)<;>intro vD vx
   ·refine jb vx fun kg vd vx=>?_;cases vx;exact (rl 2 [1] 11 call42 (zcm vd) (rel [] lzz))
   cases vx;exact (rel [] lzz)
  cases vx;exact (rel [] lzz)
 refine jI h ?_ ?_<;>intro vG h
 ·cases h;exact jz
 refine jg [] [] [(118,kB (if (x2.Kind==17) then ((decide (x2.Of<0))|| ((decide (x2.Of>=(sv.length:Int)))|| ((x2.Kind !=17)&&(x2.Of !=0)))) else ((x2.Kind !=17)&&(x2.Of !=0))))] ?_ ?_
 ·refine (rsl 4 [] 97 (x2.Kind==17) ?_ ?_)<;>intro vA
  ·refine (rsl 4 [] 101 (decide (x2.Of<0)) ?_ ?_)<;>intro vI
   · exact (rbl [] 118 true rfl (by grind))
   refine (rsl 8 [] 109 (decide (x2.Of>=(sv.length:Int))) ?_ ?_)<;>intro vK
   · exact (rbl [] 118 true rfl (by grind))
   refine (rsl 4 [] 113 (x2.Kind !=17) ?_ ?_)<;>intro vN
   · exact (rbl [] 118 (x2.Of !=0) rfl (by grind))
   exact (rbl [] 118 false rfl (by grind))
  refine (rsl 16 [] 113 (x2.Kind !=17) ?_ ?_)<;>intro vO
  · exact (rbl [] 118 (x2.Of !=0) rfl (by grind))
  exact (rbl [] 118 false rfl (by grind))
 refine jI h ?_ ?_<;>intro vW h
 ·cases h;exact jz
 cases h;exact jz
theorem zhR (h:zdu k wv=some r):w6 43 [kI k,kU wv] [kU r]:=by
 refine fi 25 func43 fun Xt=>?_
 unfold zdu at h;refine jp (jp (zq (jp (jb h fun p vt h=>jn (.N [1,5] [] [(6,kB p)] []) ?_ ?_))))
 ·replace h:=vt;refine jI h ?_ ?_<;>intro uS h
  ·cases h;exact zae lzz
  cases h;exact jy
 refine zek (jI h ?_ ?_)<;>intro uT h
 ·refine jb h fun rv uU h=>jb h fun w8 uY h=>jr (rl 1 [1] 9 call76 (zpd uU) (rl 0 [1] 9 call75 (zqv uY) rf)) ?_;obtain rfl:=(sj h);exact zx lzz
 refine jp (jb h fun p2 vE h=>jn (.N [1,5] [] [(12,kB p2)] []) ?_ ?_)
 ·replace h:=vE;refine jI h ?_ ?_<;>intro uW h
  ·cases h;exact zae lzz
  refine jp (jI h ?_ ?_)<;>intro uZ h
  ·cases h;exact zae lzz
  refine jp (jI h ?_ ?_)<;>intro u9 h
  ·cases h;exact zae lzz
  refine jp (jI h ?_ ?_)<;>intro vf h
  ·cases h;exact zae lzz
  cases h;exact jy
 refine zek (jI h ?_ ?_)<;>intro vj h
 ·cases h;exact jz
 refine jp (jI h ?_ ?_)<;>intro vr h
 ·refine jp (jI h ?_ ?_)<;>intro vu h
  ·cases h;exact jz
  cases h;exact jz
 refine zS (jp ?_);obtain rfl:=(sj h);exact zx lzz
theorem zqz (h:zgq b kd=some r):w6 121 [.sl Rp.byte [0] b,kI kd] [kI r]:=by
 refine fi 61 func121 fun Xt=>?_
 unfold zgq at h;refine jp (jp (zq (jb h fun q2 vn h=>jL vn [0,1] [] (fun s=>[(5,kI s)]) (fun| (.inl v_)=> .x 0 ⟨[],[]⟩| (.inr v_)=> .r ⟨[(4,kI v_)],[]⟩) ?_ lzz ?_)))
 ·clear h;intro n o h;unfold zci at h;refine jg [0,1,5] [] [(17,kB ((decide (n<=4))&&(decide ((i64.wrap (kd+n))<=(b.length:Int)))))] ?_ ?_
  ·refine (rsl 3 [] 10 (decide (n<=4)) ?_ ?_)<;>intro uS
   · exact (rbl [] 17 (decide ((i64.wrap (kd+n))<=(b.length:Int))) rfl (by grind))
   exact (rbl [] 17 false rfl (by grind))
  refine jI h ?_ ?_<;>intro uT h
  ·refine zq (jb h fun x va h=>jr (rx 2 [0] zbB.el va rfl rfl rf) (jp (jb h fun p vt h=>jn (.N [0,1,5] [] [(6,kI p)] []) ?_ ?_)))
   ·replace h:=vt;refine jI h ?_ ?_<;>intro uW h
    ·refine jb h fun x2 vh h=>jb h fun v3 vk h=>jr (rc 1 rfl (zey [kI 0,kI 0,kI 32,kI 16,kI 8] 12 [] ([0,0,32,16,8]:(List Int)) rfl zkb rfl rfl rfl rfl) (ra 1 [.own wY 3 12 [] ([0,0,32,16,8]:(List Int)),kI n] rfl (zjG rfl zkb.el (zcn _ _ _ _ _) vh) rfl (ra 1 [kI (i64.wrap (x.toNat:Int)),kI x2] rfl (zNA rfl vk) rfl rf))) ?_;cases h;exact zae lzz
    cases h;exact zae lzz
   refine zek (jp (zq (jb h fun q u0 h=>jL u0 [0,1,5] [] (fun s=>[(6,kI s.1),(7,kI s.2)]) (fun o=> .X 2 [0,1,5] [] [(6,kI o)] []) ?_ lzz ?_)))
   ·clear h;intro s o h;obtain ⟨w8,i⟩:=s;replace h:zbK kd b n w8 i=some o:=h;unfold zbK at h;refine jp (jI h ?_ ?_)<;>intro uZ h
    ·refine zq (jb h fun x3 vp h=>jr (rx 6 [0] zbB.el vp rfl rfl rf) (zS ?_));cases h;exact jy
    cases h;exact zag rfl lzz
   refine zaA _ rfl (jb h fun kq vm h=>jb h fun v4 vH h=>jd [0,1,5,59] [] zdc (by exact (lw_e (lx (lf1 161 (lcd [kI q] 12 call161 (zsi vm))) (ly [.own Rp.byte 5 14 [] kq] (znZ rfl underlying35 underlying5 underlying9 (zcn _ _ _ _ _)) rfl (lwn 5 (ly [.sl Rp.byte [0] b,kI kd,kI (i64.wrap (kd+n))] (zge (some (kI kd)) (some (kI (i64.wrap (kd+n)))) rfl zbB.el (zce _ _ _) ⟨rfl,rfl⟩ ⟨rfl,rfl⟩ vH) rfl (ly [.sl Rp.byte [0] v4] (znZ rfl underlying35 underlying5 underlying9 (zce _ _ _)) rfl l0))))))) (jI h ?_ ?_))<;>intro u9 h
   ·cases h;exact jz'
   refine zS ?_;cases h;exact jy
  cases h;exact zag rfl lzz
 rcases q2 with u| u2
 ·refine zaA _ rfl ?_;cases h;exact jz
 obtain rfl:=(sj h);exact zfn lzz
theorem zqy (h:zgp b kd=some r):w6 110 [.sl Rp.byte [0] b,kI kd] [kI r.1,kI r.2.1,kI r.2.2.1,kI r.2.2.2]:=by
 refine fi 40 func110 fun Xt=>?_
 unfold zgp at h;refine jp (jb h fun rv uU h=>jr (rl 2 [0] 9 call87 (zdA uU) rf) (jp (jI h ?_ ?_)))<;>intro uS h
 ·cases h;exact jz
 refine jb h fun g uV h=>jg [8,9] [] [(32,kB g)] ?_ ?_
 ·refine (rsI 3 23 uV ?_ ?_)<;>intro uT uV
  ·cases uV;exact rgg
  refine jb uV fun w8 uY uV=>?_;cases uV;exact (rl 6 [1] 9 call144 (zpW uY) rgg)
 refine jI h ?_ ?_<;>intro uW h
 ·cases h;exact jz
 cases h;exact jz
theorem zsh (h:zgV vb vl wire=some r):w6 78 [kI vl,kI wire] [.own Rp.byte 5 2 [] r]:=by
 refine fi 11 func78 fun Xt=>?_
 unfold zgV at h;refine jp (jb h fun rv uU h=>jr (rl 5 [1] 10 call79 (ziC uU) rf) ?_);obtain rfl:=(sj h);exact zx (lks [] [(12,2)] lzz)
theorem zkR (h:zeX k b=some r):w6 84 [kI k,.sl Rp.byte [0] b] [.own wY 3 2 [] r.1,kI r.2]:=by
 refine fi 48 func84 fun Xt=>?_
 unfold zeX at h;refine jp (jb h fun rv uU h=>jr (rl 1 [1] 12 call42 (zcm uU) rf) (jI h ?_ ?_))<;>intro uS h
 ·refine jp ?_;cases h;exact zx lw
 refine jp (jp (zq (jb h fun q u0 h=>jL u0 [0,1] [] (fun s=>[(6,.own wY 3 16 [] s.1),(7,kI s.2)]) (fun| (.inl v_)=> .x 0 ⟨[(6,.own wY 3 16 [] v_)],[]⟩| (.inr v_)=> .r ⟨[(4,kN),(5,kI v_)],[]⟩) ?_ lw ?_)))
 ·clear h;intro s o h;obtain ⟨out,kd⟩:=s;replace h:zaT b k out kd=some o:=h;unfold zaT at h;refine jp (jI h ?_ ?_)<;>intro uT h
  ·refine zq (jp (jp (jb h fun p vt h=>jn (.N [0,1,6,7] [] [(8,kI p)] []) ?_ ?_)))
   ·replace h:=vt;refine jI h ?_ ?_<;>intro uW h
    ·cases h;exact jy
    cases h;exact zae lzz
   refine zek (jp (jb h fun p2 vE h=>jn (match p2 with| (.inl v_)=> .N [0,1,6,7] [] [(8,kI v_)] []| (.inr v_)=> .r ⟨[(4,kN),(5,kI v_)],[]⟩) ?_ ?_))
   ·replace h:=vE;refine jI h ?_ ?_<;>intro uZ h
    ·refine jb h fun w8 uY h=>jr (rl 2 [0] 15 call87 (zdA uY) rf) (jp (jI h ?_ ?_))<;>intro u9 h
     ·cases h;exact jz
     cases h;exact jy
    cases h;exact zae lzz
   rcases p2 with u| u2
   ·refine zek (jp (jI h ?_ ?_))<;>intro vf h
    ·cases h;exact jz'
    refine jp (jb h fun v3 vk h=>jr (rc 2 rfl (zey [kI (i64.wrap (kd+u))] 17 [] ([(i64.wrap (kd+u))]:(List Int)) rfl zkb rfl rfl rfl rfl) (rc 0 rfl (lao 16 [] 3 17 [] [] zkb.el vk (.inl (zio _))) rf)) (zS ?_));cases h;exact zae lzz
   cases h;exact zwE lzz
  cases h;exact zag rfl lzz
 rcases q with u3| u4
 ·refine zaA _ rfl (jp ?_);cases h;exact zx (lks [] [(16,2)] lzz)
 cases h;exact zfn lw
theorem zqA (h:zgr wire value=some r):w6 85 [kI wire,.sl Rp.byte [0] value] [kB r]:=by
 refine fi 44 func85 fun Xt=>?_
 unfold zgr at h;refine jp (jp (jI h ?_ ?_))<;>intro uS h
 ·refine jb h fun rv uU h=>jr (rl 1 [0] 9 call87 (zdA uU) rf) (jg [] [] [(4,kB ((rv.2.2==0)&&(rv.2.1==(value.length:Int))))] ?_ ?_)
  ·refine (rsl 3 [] 18 (rv.2.2==0) ?_ ?_)<;>intro uT
   · exact (rbl [] 4 (rv.2.1==(value.length:Int)) rfl (by grind))
   exact (rbl [] 4 false rfl (by grind))
  cases h;exact zx lzz
 refine jg [] [] [(4,kB ((wire==2)|| (if (wire==1) then (((value.length:Int)==8)|| ((wire==5)&&((value.length:Int)==4))) else ((wire==5)&&((value.length:Int)==4)))))] ?_ ?_
 ·refine (rsl 3 [] 26 (wire==2) ?_ ?_)<;>intro uW
  · exact (rbl [] 4 true rfl (by grind))
  refine (rsl 3 [] 29 (wire==1) ?_ ?_)<;>intro uZ
  ·refine (rsl 6 [] 35 ((value.length:Int)==8) ?_ ?_)<;>intro u9
   · exact (rbl [] 4 true rfl (by grind))
   refine (rsl 3 [] 38 (wire==5) ?_ ?_)<;>intro vf
   · exact (rbl [] 4 ((value.length:Int)==4) rfl (by grind))
   exact (rbl [] 4 false rfl (by grind))
  refine (rsl 9 [] 38 (wire==5) ?_ ?_)<;>intro vj
  · exact (rbl [] 4 ((value.length:Int)==4) rfl (by grind))
  exact (rbl [] 4 false rfl (by grind))
 cases h;exact zx lzz
theorem zeQ (h:zaD sv v=some r):w6 143 [.sl ze [0] sv,.fv 216 [.ep wY [0] v 0]] [kI r]:=by
 refine fi 19 func143 fun Xt=>?_
 unfold zaD at h;refine jp (jp (zq (jb h fun q u0 h=>jL u0 [0,1,7] [] (fun s=>[(8,kI s)]) (fun| (.inl v_)=> .x 0 ⟨[],[]⟩| (.inr v_)=> .r ⟨[(4,kI v_)],[]⟩) ?_ lzz ?_)))
 ·clear h;intro v2 o h;unfold zJ at h;refine jp (jI h ?_ ?_)<;>intro uS h
  ·refine zq (jp (jb h fun x va h=>jb h fun rv uU h=>jr (rx 3 [0] zjp.el va rfl rfl (rc 0 rfl (lde ze [0] x znp) (ra 0 [.fv 216 [.ep wY [0] v 0],.rc ze [0] x] rfl (zDx (args:=[.tmp 15]) [.rc ze [0] x] [0] 10 rfl (zGq _ _) call216 (zwr uU) rfl rfl rfl rfl rfl) rfl rf))) (jI h ?_ ?_)))<;>intro uT h
   ·cases h;exact jz'
   refine zS ?_;cases h;exact jy
  cases h;exact zag rfl lzz
 rcases q with u| u2
 ·refine zaA _ rfl ?_;cases h;exact jz
 obtain rfl:=(sj h);exact zfn lzz
theorem zwl (h:zjM b=some r):w6 228 [.sl Rp.byte [0] b] [kU r.1,k8 r.2]:=by
 refine fi 22 func228 fun Xt=>?_
 unfold zjM at h;refine jp (jb h fun rv uU h=>jr (rl 1 [0] 9 call213 (zjP uU) rf) (jg [4] [] [(20,kB ((rv.2.2 !=0)|| (rv.2.1 !=(b.length:Int))))] ?_ ?_))
 ·refine (rsl 3 [] 15 (rv.2.2 !=0) ?_ ?_)<;>intro uS
  · exact (rbl [] 20 true rfl (by grind))
  exact (rbl [] 20 (rv.2.1 !=(b.length:Int)) rfl (by grind))
 refine jI h ?_ ?_<;>intro uT h
 ·cases h;exact jz
 cases h;exact jz
end Go.Proofs.YtkgohoggipdokaaGreat
