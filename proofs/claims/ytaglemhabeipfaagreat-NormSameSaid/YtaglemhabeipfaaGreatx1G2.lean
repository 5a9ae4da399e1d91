/-
  The Go functions do what the plain functions say. No condition.
-/
import Derived.Test.YtaglemhabeipfaaGreatx1G1
import Derived.Test.YtaglemhabeipfaaGreatx1Y
set_option autoImplicit true
set_option relaxedAutoImplicit true
namespace Go.Proofs.YtaglemhabeipfaaGreat
open Go.IntKind (i64)
open Tryz
open Go Go.RowKit
set_option linter.unusedVariables false
set_option maxRecDepth 100000
set_option maxHeartbeats 3200000
theorem zCz (h:zpG=some r):wO 131 [] [.own wM 3 2 [] r]:=by
 refine fi 4 func131 fun Xt=>?_
 unfold zpG at h;refine jp (jb h fun rv uP h=>jb h fun v vc h=>jr (rl 0 [1] 11 call168 (zrr uP) (rkl 0 [] ⟨[(1,.om wM zak 13 [] rv)],[]⟩ (zDn (rv:=zak) (m:=rv) 14 zKl rfl rfl rfl rfl rfl rfl call167 call62 rfl (zFT _ _ _ _ _) vc rfl rf))) ?_);obtain rfl:=(sj h);exact zy (lks [] [(14,2)] lzz)
theorem znJ (h:zgQ vJ=some r):wO 169 [kS vJ] [kB r]:=by
 refine fi 34 func169 fun Xt=>?_
 unfold zgQ at h;refine jp (jb h fun g uO h=>jg [0] [] [(15,kB g)] ?_ ?_)
 ·refine (rsI 3 6 uO ?_ ?_)<;>intro uM uO
  ·cases uO;exact rgg
  refine (rsI 5 11 uO ?_ ?_)<;>intro uN uO
  ·cases uO;exact rgg
  refine jb uO fun c vS uO=>jb uO fun rv uP uO=>?_;cases uO;exact (ra 1 [kS vJ,kI 0] rfl (zAH rfl underlying9 vS) rfl (rl 0 [1] 9 call203 (zmv uP) rgg))
 refine jI h ?_ ?_<;>intro uQ h
 ·refine jp ?_;obtain rfl:=(sj h);exact zy lzz
 refine jp (zu (jb h fun q uV h=>jL uV [0,17] [] (fun s=>[(18,kI s)]) (fun| (.inl v_)=> .x 0 ⟨[],[]⟩| (.inr v_)=> .r ⟨[(2,kB false)],[]⟩) ?_ lzz ?_))
 ·clear h;intro v2 o h;unfold zdT at h;refine jp (jI h ?_ ?_)<;>intro uS h
  ·refine zu (jp (jb h fun g2 u9 h=>jg [0,17,18] [] [(32,kB g2)] ?_ ?_))
   ·refine jb u9 fun c2 ww u9=>jb u9 fun wQ uT u9=>(ra 2 [kS vJ,kI v2] rfl (zAH rfl underlying9 ww) rfl (rl 0 [1] 10 call204 (zrY uT) (rsI 2 26 u9 ?_ ?_)))<;>intro uU u9
    ·refine jb u9 fun c3 wx u9=>jb u9 fun wV uZ u9=>?_;cases u9;exact (ra 2 [kS vJ,kI v2] rfl (zAH rfl underlying9 wx) rfl (rl 0 [1] 10 call203 (zmv uZ) rgg))
    cases u9;exact rgg
   refine jI h ?_ ?_<;>intro uW h
   ·cases h;exact jz'
   refine zR ?_;cases h;exact jy
  cases h;exact zaj rfl lzz
 rcases q with u| u2
 ·refine zaE _ rfl (jp ?_);obtain rfl:=(sj h);exact zy lzz
 obtain rfl:=(sj h);exact zfQ lzz
theorem zkp (h:zbX sv v=some r):wO 171 [.sl wM [0] sv,kI v] [kB r]:=by
 refine fi 9 func171 fun Xt=>?_
 unfold zbX at h;refine jp (jb h fun rv uP h=>jr (rl 2 [0] 9 call205 (zlK uP) rf) ?_);cases h;exact zy lzz
theorem zsE (h:zkU k=some r):wO 192 [kI k] [kI r.1,k8 r.2]:=by
 refine fi 16 func192 fun Xt=>?_
 unfold zkU at h;refine jp (jb h fun rv uP h=>jr (rl 0 [1] 9 call168 (zrr uP) (ra 1 [.om wM zak 11 [] rv,kI k] rfl (zqG (rk:=wM) (rv:=zak) (m:=rv) (k:=k) (.rc zak [] ((mget rv k).getD (⟨[],0⟩:zq))) rfl zfo (zey rfl rfl) (zAs rfl)) rfl (rfl' [12]))) (jp (jI h ?_ ?_)))<;>intro uM h
 ·cases h;exact jz
 cases h;exact jz
theorem zto (h:zlb t=some r):wO 183 [.rc zbz [0] t] [kB r]:=by
 refine fi 16 func183 fun Xt=>?_
 unfold zlb at h;refine jq [11] (jb h fun g uO h=>jg [] [] [(2,kB g)] ?_ ?_)
 ·refine (rsI 4 6 uO ?_ ?_)<;>intro uM uO
  ·refine (rsI 5 11 uO ?_ ?_)<;>intro uN uO
   ·refine jb uO fun rv uP uO=>?_;cases uO;exact (rl 2 [1] 10 call209 (zup uP) rgg)
   cases uO;exact rgg
  cases uO;exact rgg
 obtain rfl:=(sj h);exact zy lzz
theorem zqt (h:zix b=some r):wO 184 [.sl Rp.byte [0] b] [kI r.1,k8 r.2]:=by
 refine fi 15 func184 fun Xt=>?_
 unfold zix at h;refine jp (jb h fun rv uP h=>jr (rl 1 [0] 9 call182 (zjb uP) rf) ?_);cases h;exact jz
theorem zei (h:zae sv v=some r):wO 134 [.sl zb [0] sv,.fv 190 [.ep wM [0] v 0]] [kI r]:=by
 refine fi 19 func134 fun Xt=>?_
 unfold zae at h;refine jp (jp (zu (jb h fun q uV h=>jL uV [0,1,7] [] (fun s=>[(8,kI s)]) (fun| (.inl v_)=> .x 0 ⟨[],[]⟩| (.inr v_)=> .r ⟨[(4,kI v_)],[]⟩) ?_ lzz ?_)))
 ·clear h;intro v2 o h;unfold zG at h;refine jp (jI h ?_ ?_)<;>intro uM h
  ·refine zu (jp (jb h fun x uY h=>jb h fun rv uP h=>jr (rx 3 [0] zkv.el uY rfl rfl (rc 0 rfl (lde zb [0] x zoG) (ra 0 [.fv 190 [.ep wM [0] v 0],.rc zb [0] x] rfl (zJu (args:=[.tmp 15]) [.rc zb [0] x] [0] 10 rfl (zLm _ _) call190 (zvu uP) rfl rfl rfl rfl rfl) rfl rf))) (jI h ?_ ?_)))<;>intro uN h
   ·cases h;exact jz'
   refine zR ?_;cases h;exact jy
  cases h;exact zaj rfl lzz
 rcases q with u| u2
 ·refine zaE _ rfl ?_;cases h;exact jz
 obtain rfl:=(sj h);exact zfQ lzz
theorem zwf (h:zjT wv=some r):wO 211 [kU wv] [.lf (.int .i32 r)]:=by
 refine fi 6 func211 fun Xt=>?_
 unfold zjT at h;refine jp (jb h fun rv uP h=>jr (rl 1 [1] 9 call212 (zrn uP) rf) ?_);cases h;exact zy lzz
theorem zvd (h:znR b=some r):wO 220 [.sl Rp.byte [0] b] [kI r]:=by
 refine fi 48 func220 fun Xt=>?_
 unfold znR at h;refine jp (jp (jI h ?_ ?_))<;>intro uM h
 ·cases h;exact jz
 refine jb h fun x uY h=>jb h fun rv uP h=>jr (rx 1 [0] zbd.el uY rfl rfl (rl 1 [1] 9 call221 (zDI uP) rf)) (jg [0,3,4] [] [(24,kB ((rv.1==0)|| (decide (rv.1>(b.length:Int)))))] ?_ ?_)
 ·refine (rsl 3 [] 19 (rv.1==0) ?_ ?_)<;>intro uN
  · exact (rbl [] 24 true rfl (by grind))
  exact (rbl [] 24 (decide (rv.1>(b.length:Int))) rfl (by grind))
 refine jI h ?_ ?_<;>intro uQ h
 ·cases h;exact jz
 refine jb h fun v2 vn h=>jr (ra 2 [.sl Rp.byte [0] b,kI 1,kI rv.1] rfl (zgf (some (kI 1)) (some (kI rv.1)) rfl zbd.el (zbj _ _ _) ⟨rfl,rfl⟩ ⟨rfl,rfl⟩ vn) rfl rf) (zu (jb h fun q uV h=>jL uV [3,27,28] [] (fun s=>[(4,.lf (.int .u32 s.1)),(29,kI s.2)]) (fun| (.inl v_)=> .X 0 [3] [] [(4,.lf (.int .u32 v_))] []| (.inr v_)=> .r ⟨[(2,kI 0)],[]⟩) ?_ lzz ?_))
 ·clear h;intro s o h;obtain ⟨wv,v3⟩:=s;replace h:zgr v2 wv v3=some o:=h;unfold zgr at h;refine jp (jI h ?_ ?_)<;>intro uS h
  ·refine zu (jb h fun x2 vd h=>jr (rx 0 [0] zbd.el vd rfl rfl rf) (jr (ra 1 [k8 (x2.toNat:Int),kU 6] rfl (ziL rfl rfl) rfl rf) (jI h ?_ ?_)))<;>intro uU h
   ·cases h;exact jz'
   refine jr (ra 1 [.lf (.int .u32 wv),kU 6] rfl (zAJ rfl rfl) rfl rf) (zR ?_);cases h;exact jy
  cases h;exact zaj rfl lzz
 rcases q with u| u2
 ·refine zaE _ rfl (jb h fun wQ uT h=>jr (rl 2 [1] 10 call222 (zDH uT) rf) (jI h ?_ ?_))<;>intro uW h
  ·cases h;exact jz
  cases h;exact jz
 cases h;exact zfQ lzz
theorem zvo (h:ziU b=some r):wO 216 [.sl Rp.byte [0] b] [kU r.1,k8 r.2]:=by
 refine fi 22 func216 fun Xt=>?_
 unfold ziU at h;refine jp (jb h fun rv uP h=>jr (rl 1 [0] 9 call182 (zjb uP) rf) (jg [4] [] [(20,kB ((rv.2.2 !=0)|| (rv.2.1 !=(b.length:Int))))] ?_ ?_))
 ·refine (rsl 3 [] 15 (rv.2.2 !=0) ?_ ?_)<;>intro uM
  · exact (rbl [] 20 true rfl (by grind))
  exact (rbl [] 20 (rv.2.1 !=(b.length:Int)) rfl (by grind))
 refine jI h ?_ ?_<;>intro uN h
 ·cases h;exact jz
 cases h;exact jz
theorem zne (h:zie b wv=some r):wO 178 [.sl Rp.byte [0] b,kU wv] [.own Rp.byte 5 2 [] r]:=by
 refine fi 30 func178 fun Xt=>?_
 unfold zie at h;refine jp (jb h fun rv uP h=>jb h fun v vc h=>jr (rl 3 [1] 10 call187 (zux uP) (ra 1 [kI 0,kI (i64.wrap ((b.length:Int)+rv))] rfl (zGh 12 rfl zbd rfl vc) rfl rf)) (jb h fun v2 vn h=>jr (rc 2 rfl (las 12 [] [0] [] zbd.el vn (.inl zfi)) rf) (zu (jb h fun q uV h=>jL uV [] [] (fun s=>[(1,kU s.1),(5,.own Rp.byte 5 12 [] s.2)]) (fun o=> .x 0 ⟨[(1,kU o.1),(5,.own Rp.byte 5 12 [] o.2)],[]⟩) ?_ lzz ?_))))
 ·clear h;intro s o h;obtain ⟨w7,l⟩:=s;replace h:zfU w7 l=some o:=h;unfold zfU at h;refine jp (jI h ?_ ?_)<;>intro uM h
  ·refine zu (jb h fun y vK h=>jb h fun v3 ve h=>jr (rc 4 rfl (zz.lw (zfR [.lf (.int .u8 (y.toNat:Int))] 14 [] [y] rfl zbd rfl rfl rfl rfl) (.l (zhW vK))) (rc 0 rfl (lao 12 [] 5 14 [] [] zbd.el ve (.inl zfi)) rf)) (zR (jr (ra 1 [kU w7,kU 7] rfl (ziL rfl rfl) rfl rf) ?_)));cases h;exact zS lzz
  cases h;exact zaj rfl lzz
 refine zaE _ rfl (jb h fun y2 vF h=>jb h fun v4 vy h=>jr (rc 3 rfl (zz.lw (zfR [.lf (.int .u8 (y2.toNat:Int))] 15 [] [y2] rfl zbd rfl rfl rfl rfl) (.l (zhW vF))) (rc 0 rfl (lao 12 [] 5 15 [] [] zbd.el vy (.inl zfi)) rf)) ?_);obtain rfl:=(sj h);exact zy (lks [] [(12,2)] lzz)
theorem zeh (h:zaF ky=some r):wO 71 [.sl (Rp.list Rp.byte) [0] ky] [.own Rp.byte 5 2 [] r]:=by
 refine fi 36 func71 fun Xt=>?_
 unfold zaF at h;refine jp (jp (jp (zu (jb h fun q uV h=>jL uV [0,9,10] [] (fun s=>[(3,kI s.1),(11,kI s.2)]) (fun o=> .X 0 [0] [] [(3,kI o)] []) ?_ lzz ?_))))
 ·clear h;intro s o h;obtain ⟨size,v⟩:=s;replace h:zar ky size v=some o:=h;unfold zar at h;refine jp (jI h ?_ ?_)<;>intro uM h
  ·refine zu (jb h fun x uY h=>jr (rx 0 [0] zDY.el uY rfl rfl (rc 0 rfl (ldl (Rp.list Rp.byte) [0] x 0 Rp.byte x) rf)) (jp (jp (jI h ?_ ?_))))<;>intro uN h
   · exact absurd h nofun
   refine zR ?_;cases h;exact jy
  cases h;exact zaj rfl lzz
 refine zaE _ rfl (jb h fun rv uP h=>jr (rl 1 [1] 12 call105 (zkO uP) rf) (jp (zu (jb h fun q2 vl h=>jL vl [25,26] [] (fun s=>[(6,.own Rp.byte 5 14 [] s.1),(27,kI s.2)]) (fun o=> .x 2 ⟨[(6,.own Rp.byte 5 14 [] o)],[]⟩) ?_ lzz ?_))))
 ·clear h;intro s o h;obtain ⟨kC,v2⟩:=s;replace h:zas ky kC v2=some o:=h;unfold zas at h;refine jp (jI h ?_ ?_)<;>intro uQ h
  ·refine zu (jb h fun x2 vd h=>jr (rx 0 [0] zDY.el vd rfl rfl (rc 0 rfl (ldl (Rp.list Rp.byte) [0] x2 0 Rp.byte x2) rf)) (jb h fun v3 ve h=>jr (rc 2 rfl (las 14 [] [0] [] zbd.el ve (.inl zfi)) rf) (zR ?_)));cases h;exact jy
  cases h;exact zaj rfl lzz
 refine zaE _ rfl (jp ?_);obtain rfl:=(sj h);exact zy (lks [] [(14,2)] lzz)
theorem zoV (h:zfb sv i k=some r):wO 119 [.sl zg [0] sv,kI i,kI k] [kI r]:=by
 refine fi 119 func119 fun Xt=>?_
 unfold zfb at h;refine jp (jb h fun x uY h=>jb h fun x2 vd h=>jr (rx 2 [0] zhp.el uY rfl rfl (rc 1 rfl (ldl zg [0] x 1 zb x.Fields) (rx 1 [0] zkv.el vd rfl rfl (rc 0 rfl (lde zb [0] x2 zoG) (rfl' [11]))))) (jp (jp (zu (jb h fun q uV h=>jL uV [0,1,2,7] [11] (fun s=>[(8,kB s.1),(9,kB s.2.1),(10,kI s.2.2)]) (fun o=> .X 0 [0,7] [11] [(8,kB o.1),(9,kB o.2)] []) ?_ lzz ?_)))))
 ·clear h;intro s o h;obtain ⟨vJ,vh,j⟩:=s;replace h:zbE i k sv x2 vJ vh j=some o:=h;unfold zbE at h;refine jp (jI h ?_ ?_)<;>intro uM h
  ·refine zu (jb h fun g uO h=>jn (.N [0,1,2,7,9,10] [11] [(8,kB g)] []) ?_ (zez ?_))
   ·rcases znr uO with ⟨uN,uO⟩| ⟨uN,uO⟩
    ·cases uO;exact jd [0,1,2,7,8,9,10] [11] zdo (by exact (lw_e (dg 24 uN l0))) (zS lzz)
    refine jb uO fun x3 vm uO=>jb uO fun x4 vx uO=>?_;cases uO;exact jd [0,1,2,7,8,9,10] [11] zdo (by exact (lw_e (dg 24 uN (lwn 2 (di [0] zhp.el vm (lw_e (lx (ldl zg [0] x3 1 zb x3.Fields) (lw_e (di [0] zkv.el vx l0))))))))) (zS lzz)
   refine jb h fun g2 u9 h=>jn (.N [0,1,2,7,8,10] [11] [(9,kB g2)] []) ?_ (zez ?_)
   ·rcases znr u9 with ⟨uQ,u9⟩| ⟨uQ,u9⟩
    ·cases u9;exact jd [0,1,2,7,8,9,10] [11] zdo (by exact (lw_e (dg 39 uQ l0))) (zS lzz)
    refine jb u9 fun x5 vD u9=>jb u9 fun x6 vN u9=>?_;cases u9;exact jd [0,1,2,7,8,9,10] [11] zdo (by exact (lw_e (dg 39 uQ (lwn 2 (di [0] zhp.el vD (lw_e (lx (ldl zg [0] x5 1 zb x5.Fields) (lw_e (di [0] zkv.el vN l0))))))))) (zS lzz)
   refine zR ?_;cases h;exact jy
  cases h;exact zaj rfl lzz
 refine zaE _ rfl (jb h fun rv uP h=>jr (rl 2 [1] 11 call118 (zjW uP) rf) (jI h ?_ ?_))<;>intro uS h
 ·cases h;exact jz
 refine jp (jI h ?_ ?_)<;>intro uU h
 ·cases h;exact jz
 refine jg [0,7,9] [11] [(76,kB ((decide (x2.Number<1))|| ((decide (x2.Number>536870911))|| ((decide (x2.Number>=19000))&&(decide (x2.Number<20000))))))] ?_ ?_
 ·refine (rsl 4 [] 62 (decide (x2.Number<1)) ?_ ?_)<;>intro uW
  · exact (rbl [] 76 true rfl (by grind))
  refine (rsl 5 [] 67 (decide (x2.Number>536870911)) ?_ ?_)<;>intro u0
  · exact (rbl [] 76 true rfl (by grind))
  refine (rsl 4 [] 71 (decide (x2.Number>=19000)) ?_ ?_)<;>intro vg
  · exact (rbl [] 76 (decide (x2.Number<20000)) rfl (by grind))
  exact (rbl [] 76 false rfl (by grind))
 refine jI h ?_ ?_<;>intro vj h
 ·cases h;exact jz
 refine jp (jI h ?_ ?_)<;>intro vk h
 ·cases h;exact jz
 refine jb h fun wQ uT h=>jr (rl 2 [1] 11 call84 (zgU uT) rf) (jI h ?_ ?_)<;>intro vu h
 ·cases h;exact jz
 refine jb h fun g3 vB h=>jg [0,7] [11] [(93,kB g3)] ?_ ?_
 ·refine (rsI 3 84 vB ?_ ?_)<;>intro vp vB
  ·refine (rsI 3 87 vB ?_ ?_)<;>intro vt vB
   ·refine jb vB fun wV uZ vB=>?_;cases vB;exact (rl 2 [1] 11 call38 (zdg uZ) (rel [] lzz))
   cases vB;exact (rel [] lzz)
  cases vB;exact (rel [] lzz)
 refine jI h ?_ ?_<;>intro vv h
 ·cases h;exact jz
 refine jg [] [] [(118,kB (if (x2.Kind==17) then ((decide (x2.Of<0))|| ((decide (x2.Of>=(sv.length:Int)))|| ((x2.Kind !=17)&&(x2.Of !=0)))) else ((x2.Kind !=17)&&(x2.Of !=0))))] ?_ ?_
 ·refine (rsl 4 [] 97 (x2.Kind==17) ?_ ?_)<;>intro vr
  ·refine (rsl 4 [] 101 (decide (x2.Of<0)) ?_ ?_)<;>intro vA
   · exact (rbl [] 118 true rfl (by grind))
   refine (rsl 8 [] 109 (decide (x2.Of>=(sv.length:Int))) ?_ ?_)<;>intro vC
   · exact (rbl [] 118 true rfl (by grind))
   refine (rsl 4 [] 113 (x2.Kind !=17) ?_ ?_)<;>intro vE
   · exact (rbl [] 118 (x2.Of !=0) rfl (by grind))
   exact (rbl [] 118 false rfl (by grind))
  refine (rsl 16 [] 113 (x2.Kind !=17) ?_ ?_)<;>intro vG
  · exact (rbl [] 118 (x2.Of !=0) rfl (by grind))
  exact (rbl [] 118 false rfl (by grind))
 refine jI h ?_ ?_<;>intro vT h
 ·cases h;exact jz
 cases h;exact jz
theorem zpr (h:zfA b wU=some r):wO 89 [.sl Rp.byte [0] b,kI wU] [kI r.1,kI r.2.1,kI r.2.2.1,kI r.2.2.2]:=by
 refine fi 40 func89 fun Xt=>?_
 unfold zfA at h;refine jp (jb h fun rv uP h=>jr (rl 2 [0] 9 call60 (zcN uP) rf) (jp (jI h ?_ ?_)))<;>intro uM h
 ·cases h;exact jz
 refine jb h fun g uO h=>jg [8,9] [] [(32,kB g)] ?_ ?_
 ·refine (rsI 3 23 uO ?_ ?_)<;>intro uN uO
  ·cases uO;exact rgg
  refine jb uO fun wQ uT uO=>?_;cases uO;exact (rl 6 [1] 9 call124 (zoR uT) rgg)
 refine jI h ?_ ?_<;>intro uQ h
 ·cases h;exact jz
 cases h;exact jz
theorem zjY (h:zep k b=some r):wO 52 [kI k,.sl Rp.byte [0] b] [.own wM 3 2 [] r.1,kI r.2]:=by
 refine fi 48 func52 fun Xt=>?_
 unfold zep at h;refine jp (jb h fun rv uP h=>jr (rl 1 [1] 12 call38 (zdg uP) rf) (jI h ?_ ?_))<;>intro uM h
 ·refine jp ?_;cases h;exact zy lw
 refine jp (jp (zu (jb h fun q uV h=>jL uV [0,1] [] (fun s=>[(6,.own wM 3 16 [] s.1),(7,kI s.2)]) (fun| (.inl v_)=> .x 0 ⟨[(6,.own wM 3 16 [] v_)],[]⟩| (.inr v_)=> .r ⟨[(4,kN),(5,kI v_)],[]⟩) ?_ lw ?_)))
 ·clear h;intro s o h;obtain ⟨out,wU⟩:=s;replace h:zaV b k out wU=some o:=h;unfold zaV at h;refine jp (jI h ?_ ?_)<;>intro uN h
  ·refine zu (jp (jp (jb h fun p vi h=>jn (.N [0,1,6,7] [] [(8,kI p)] []) ?_ ?_)))
   ·replace h:=vi;refine jI h ?_ ?_<;>intro uQ h
    ·cases h;exact jy
    cases h;exact zS lzz
   refine zez (jp (jb h fun p2 vz h=>jn (match p2 with| (.inl v_)=> .N [0,1,6,7] [] [(8,kI v_)] []| (.inr v_)=> .r ⟨[(4,kN),(5,kI v_)],[]⟩) ?_ ?_))
   ·replace h:=vz;refine jI h ?_ ?_<;>intro uS h
    ·refine jb h fun wQ uT h=>jr (rl 2 [0] 15 call60 (zcN uT) rf) (jp (jI h ?_ ?_))<;>intro uU h
     ·cases h;exact jz
     cases h;exact jy
    cases h;exact zS lzz
   rcases p2 with u| u2
   ·refine zez (jp (jI h ?_ ?_))<;>intro uW h
    ·cases h;exact jz'
    refine jp (jb h fun v3 ve h=>jr (rc 2 rfl (zfR [kI (i64.wrap (wU+u))] 17 [] ([(i64.wrap (wU+u))]:(List Int)) rfl zjm rfl rfl rfl rfl) (rc 0 rfl (lao 16 [] 3 17 [] [] zjm.el ve (.inl (zio _))) rf)) (zR ?_));cases h;exact zS lzz
   cases h;exact zAA lzz
  cases h;exact zaj rfl lzz
 rcases q with u3| u4
 ·refine zaE _ rfl (jp ?_);cases h;exact zy (lks [] [(16,2)] lzz)
 cases h;exact zfQ lw
theorem zps (h:zfB b wU=some r):wO 120 [.sl Rp.byte [0] b,kI wU] [kI r]:=by
 refine fi 61 func120 fun Xt=>?_
 unfold zfB at h;refine jp (jp (zu (jb h fun q2 vl h=>jL vl [0,1] [] (fun s=>[(5,kI s)]) (fun| (.inl v_)=> .x 0 ⟨[],[]⟩| (.inr v_)=> .r ⟨[(4,kI v_)],[]⟩) ?_ lzz ?_)))
 ·clear h;intro n o h;unfold zcO at h;refine jg [0,1,5] [] [(17,kB ((decide (n<=4))&&(decide ((i64.wrap (wU+n))<=(b.length:Int)))))] ?_ ?_
  ·refine (rsl 3 [] 10 (decide (n<=4)) ?_ ?_)<;>intro uM
   · exact (rbl [] 17 (decide ((i64.wrap (wU+n))<=(b.length:Int))) rfl (by grind))
   exact (rbl [] 17 false rfl (by grind))
  refine jI h ?_ ?_<;>intro uN h
  ·refine zu (jb h fun x uY h=>jr (rx 2 [0] zbd.el uY rfl rfl rf) (jp (jb h fun p vi h=>jn (.N [0,1,5] [] [(6,kI p)] []) ?_ ?_)))
   ·replace h:=vi;refine jI h ?_ ?_<;>intro uQ h
    ·refine jb h fun x2 vd h=>jb h fun v3 ve h=>jr (rc 1 rfl (zfR [kI 0,kI 0,kI 32,kI 16,kI 8] 12 [] ([0,0,32,16,8]:(List Int)) rfl zjm rfl rfl rfl rfl) (ra 1 [.own wM 3 12 [] ([0,0,32,16,8]:(List Int)),kI n] rfl (zji rfl zjm.el (zcV _ _ _ _ _) vd) rfl (ra 1 [kI (i64.wrap (x.toNat:Int)),kI x2] rfl (zNw rfl ve) rfl rf))) ?_;cases h;exact zS lzz
    cases h;exact zS lzz
   refine zez (jp (zu (jb h fun q uV h=>jL uV [0,1,5] [] (fun s=>[(6,kI s.1),(7,kI s.2)]) (fun o=> .X 2 [0,1,5] [] [(6,kI o)] []) ?_ lzz ?_)))
   ·clear h;intro s o h;obtain ⟨wQ,i⟩:=s;replace h:zbO wU b n wQ i=some o:=h;unfold zbO at h;refine jp (jI h ?_ ?_)<;>intro uS h
    ·refine zu (jb h fun x3 vm h=>jr (rx 6 [0] zbd.el vm rfl rfl rf) (zR ?_));cases h;exact jy
    cases h;exact zaj rfl lzz
   refine zaE _ rfl (jb h fun kc vf h=>jb h fun v4 vy h=>jd [0,1,5,59] [] zdo (by exact (lw_e (lx (lf1 150 (lcd [kI q] 12 call150 (zrb vf))) (ly [.own Rp.byte 5 14 [] kc] (zpL rfl underlying24 underlying5 underlying9 (zcV _ _ _ _ _)) rfl (lwn 5 (ly [.sl Rp.byte [0] b,kI wU,kI (i64.wrap (wU+n))] (zgf (some (kI wU)) (some (kI (i64.wrap (wU+n)))) rfl zbd.el (zbj _ _ _) ⟨rfl,rfl⟩ ⟨rfl,rfl⟩ vy) rfl (ly [.sl Rp.byte [0] v4] (zpL rfl underlying24 underlying5 underlying9 (zbj _ _ _)) rfl l0))))))) (jI h ?_ ?_))<;>intro uU h
   ·cases h;exact jz'
   refine zR ?_;cases h;exact jy
  cases h;exact zaj rfl lzz
 rcases q2 with u| u2
 ·refine zaE _ rfl ?_;cases h;exact jz
 obtain rfl:=(sj h);exact zfQ lzz
theorem zpt (h:zfC wire value=some r):wO 57 [kI wire,.sl Rp.byte [0] value] [kB r]:=by
 refine fi 44 func57 fun Xt=>?_
 unfold zfC at h;refine jp (jp (jI h ?_ ?_))<;>intro uM h
 ·refine jb h fun rv uP h=>jr (rl 1 [0] 9 call60 (zcN uP) rf) (jg [] [] [(4,kB ((rv.2.2==0)&&(rv.2.1==(value.length:Int))))] ?_ ?_)
  ·refine (rsl 3 [] 18 (rv.2.2==0) ?_ ?_)<;>intro uN
   · exact (rbl [] 4 (rv.2.1==(value.length:Int)) rfl (by grind))
   exact (rbl [] 4 false rfl (by grind))
  cases h;exact zy lzz
 refine jg [] [] [(4,kB ((wire==2)|| (if (wire==1) then (((value.length:Int)==8)|| ((wire==5)&&((value.length:Int)==4))) else ((wire==5)&&((value.length:Int)==4)))))] ?_ ?_
 ·refine (rsl 3 [] 26 (wire==2) ?_ ?_)<;>intro uQ
  · exact (rbl [] 4 true rfl (by grind))
  refine (rsl 3 [] 29 (wire==1) ?_ ?_)<;>intro uS
  ·refine (rsl 6 [] 35 ((value.length:Int)==8) ?_ ?_)<;>intro uU
   · exact (rbl [] 4 true rfl (by grind))
   refine (rsl 3 [] 38 (wire==5) ?_ ?_)<;>intro uW
   · exact (rbl [] 4 ((value.length:Int)==4) rfl (by grind))
   exact (rbl [] 4 false rfl (by grind))
  refine (rsl 9 [] 38 (wire==5) ?_ ?_)<;>intro u0
  · exact (rbl [] 4 ((value.length:Int)==4) rfl (by grind))
  exact (rbl [] 4 false rfl (by grind))
 cases h;exact zy lzz
theorem zjg (h:zdJ k wv=some r):wO 61 [kI k,kU wv] [kU r]:=by
 refine fi 25 func61 fun Xt=>?_
 unfold zdJ at h;refine jp (jp (zu (jp (jb h fun p vi h=>jn (.N [1,5] [] [(6,kB p)] []) ?_ ?_))))
 ·replace h:=vi;refine jI h ?_ ?_<;>intro uM h
  ·cases h;exact zS lzz
  cases h;exact jy
 refine zez (jI h ?_ ?_)<;>intro uN h
 ·refine jb h fun rv uP h=>jb h fun wQ uT h=>jr (rl 1 [1] 9 call91 (znY uP) (rl 0 [1] 9 call90 (zpp uT) rf)) ?_;obtain rfl:=(sj h);exact zy lzz
 refine jp (jb h fun p2 vz h=>jn (.N [1,5] [] [(12,kB p2)] []) ?_ ?_)
 ·replace h:=vz;refine jI h ?_ ?_<;>intro uQ h
  ·cases h;exact zS lzz
  refine jp (jI h ?_ ?_)<;>intro uS h
  ·cases h;exact zS lzz
  refine jp (jI h ?_ ?_)<;>intro uU h
  ·cases h;exact zS lzz
  refine jp (jI h ?_ ?_)<;>intro uW h
  ·cases h;exact zS lzz
  cases h;exact jy
 refine zez (jI h ?_ ?_)<;>intro u0 h
 ·cases h;exact jz
 refine jp (jI h ?_ ?_)<;>intro vg h
 ·refine jp (jI h ?_ ?_)<;>intro vj h
  ·cases h;exact jz
  cases h;exact jz
 refine zR (jp ?_);obtain rfl:=(sj h);exact zy lzz
end Go.Proofs.YtaglemhabeipfaaGreat
