/-
  The Go functions do what the plain functions say. No condition.
-/
import Derived.Test.YtaglemhabeipfaaGreatx1G2
set_option autoImplicit true
set_option relaxedAutoImplicit true
namespace Go.Proofs.YtaglemhabeipfaaGreat
open Go.IntKind (i64)
open Tryz
open Go Go.RowKit
set_option linter.unusedVariables false
set_option maxRecDepth 100000
set_option maxHeartbeats 3200000
theorem znI (h:zef c m=some r):zig prog 132 [.ag [kI c.size,.sl wM [0] c.kinds,.om zA Rp.bool 2 [0] c.names,.om zf Rp.bool 3 [0] c.numbers],.rc zg [0] m] [kI r.1] [.ag [.any,.any,.om zA Rp.bool 2 [0] r.2.1,.om zf Rp.bool 3 [0] r.2.2],.any]:=by
 refine zjv (E:=⟨[(0,.ag [.any,.any,.om zA Rp.bool 2 [0] r.2.1,.om zf Rp.bool 3 [0] r.2.2]),(4,kI r.1)],[]⟩) 27 [0] func132 rfl rfl rfl ⟨rfl,trivial⟩ ⟨.inr ⟨rfl,rfl⟩,.inl rfl,trivial⟩ rfl (fun Xt old=>?_);refine zbw ?_;unfold zef at h;refine jr (ral 1 [11] [.rc zg [0] m] rfl (zlu 12 (zaf [0] m) [0] rfl rfl rfl rfl rfl) rfl rf) (jr (rc 2 rfl (zL (r:=zA) [kI (-1),kS m.Name] [] (⟨(-1),m.Name⟩:zv) rfl zKv rfl rfl) (rfl' [13])) (zu (jb h fun rv uP h=>jr (rl 2 [1] 12 call169 (znJ uP) rf) (jI h ?_ ?_))))<;>intro uM h
 ·refine jp ?_;cases h;exact zdw lw
 refine jr (lb 2 zA [] (⟨(-1),m.Name⟩:zv) (ra 0 [.om zA Rp.bool 2 [0] c.names,.rc zA [] (⟨(-1),m.Name⟩:zv)] rfl (zsL (rk:=zA) (rv:=Rp.bool) (m:=c.names) (k:=(⟨(-1),m.Name⟩:zv)) (kB ((mget c.names (⟨(-1),m.Name⟩:zv)).getD false)) rfl zvI (zcv rfl) (zst rfl rfl rfl)) rfl rf)) (jI h ?_ ?_)<;>intro uN h
 ·refine jp ?_;cases h;exact zdw lw
 refine jp (jI h ?_ ?_)<;>intro uQ h
 ·refine jp ?_;cases h;exact zdw lw
 refine zR (jr (lb 2 zA [] (⟨(-1),m.Name⟩:zv) (rms (C1:=[]) 0 [] 2 [0] c.names (⟨(-1),m.Name⟩:zv) true [0] zvI (zcv rfl) (zey rfl rfl) rf)) (jp ?_));cases h;exact zdw lw
theorem zpH (h:zim k=some r):wO 191 [kI k] [kB r]:=by
 refine fi 16 func191 fun Xt=>?_
 unfold zim at h;refine jp (jb h fun rv uP h=>jr (rl 1 [1] 9 call192 (zsE uP) rf) (jg [] [] [(2,kB ((rv.2==0)&&(rv.1 !=2)))] ?_ ?_))
 ·refine (rsl 3 [] 12 (rv.2==0) ?_ ?_)<;>intro uM
  · exact (rbl [] 2 (rv.1 !=2) rfl (by grind))
  exact (rbl [] 2 false rfl (by grind))
 cases h;exact zy lzz
theorem zDy (h:zql b=some r):wO 140 [.sl Rp.byte [0] b] [.rc zbz [] r.1,kI r.2.1,k8 r.2.2]:=by
 refine fj ⟨[(2,.ptr 2 0),(3,kI r.2.1),(4,k8 r.2.2)],[⟨2,229,[kI r.1.Number,kI r.1.Wire]⟩]⟩ 35 func140 ⟨⟨_,_,rfl,rfl,rfl,rfl,zMX⟩,rfl,rfl,trivial⟩ fun Xt=>?_
 unfold zql at h;refine jq [12] (jb h fun rv uP h=>jr (rl 1 [0] 11 call182 (zjb uP) rf) (jp (jI h ?_ ?_)))<;>intro uM h
 ·refine jr (rc 0 rfl (zL (r:=zbz) [] [] (⟨0,0⟩:zV) rfl zBn rfl rfl) rf) ?_;cases h;exact zy (lks [12] [(12,2)] lzz)
 refine jr (ra 1 [kU rv.1,kU 3] rfl (ziL rfl rfl) rfl rf) (jr (rc 5 rfl (zL (r:=zbz) [kI (i64.wrap (if (536870912:Int)<(shrI .u64 rv.1 3) then 536870912 else (shrI .u64 rv.1 3))),kI (i64.wrap (andI .u64 rv.1 7))] [] (⟨(i64.wrap (if (536870912:Int)<(shrI .u64 rv.1 3) then 536870912 else (shrI .u64 rv.1 3))),(i64.wrap (andI .u64 rv.1 7))⟩:zV) rfl zBn rfl rfl) (rfl' [13])) (jb h fun wQ uT h=>jr (lb 0 zbz [] (⟨(i64.wrap (if (536870912:Int)<(shrI .u64 rv.1 3) then 536870912 else (shrI .u64 rv.1 3))),(i64.wrap (andI .u64 rv.1 7))⟩:zV) (rl 0 [1] 12 call183 (zto uT) rf)) (jI h ?_ ?_)))<;>intro uN h
 ·refine jr (rc 0 rfl (zL (r:=zbz) [] [] (⟨0,0⟩:zV) rfl zBn rfl rfl) rf) ?_;cases h;exact zy (lks [12] [(12,2)] lzz)
 refine jr (lb 0 zbz [] (⟨(i64.wrap (if (536870912:Int)<(shrI .u64 rv.1 3) then 536870912 else (shrI .u64 rv.1 3))),(i64.wrap (andI .u64 rv.1 7))⟩:zV) rf) ?_;cases h;exact zy (lks [12] [(12,2)] lzz)
theorem zqd (h:zir wire b=some r):wO 141 [kI wire,.sl Rp.byte [0] b] [kI r.1,kI r.2.1,k8 r.2.2]:=by
 refine fi 45 func141 fun Xt=>?_
 unfold zir at h;refine jp (jp (jp (zu (jp (jI h ?_ ?_)))))<;>intro uM h
 ·refine jb h fun rv uP h=>jr (rl 1 [0] 9 call184 (zqt uP) rf) ?_;cases h;exact jz
 refine jp (jb h fun p vi h=>jn (.N [1] [] [(4,kI p.1),(6,k8 p.2.1),(7,kU p.2.2)] []) ?_ ?_)
 ·replace h:=vi;refine jI h ?_ ?_<;>intro uN h
  ·cases h;exact jy
  refine jp (jI h ?_ ?_)<;>intro uQ h
  ·cases h;exact jy
  refine jp (jI h ?_ ?_)<;>intro uS h
  ·refine jb h fun wQ uT h=>jr (rl 1 [0] 9 call182 (zjb uT) rf) ?_;cases h;exact zS lzz
  cases h;exact zS lzz
 refine zez (zR (jp (jI h ?_ ?_)))<;>intro uU h
 ·cases h;exact jz
 refine jp (jI h ?_ ?_)<;>intro uW h
 ·cases h;exact jz
 cases h;exact jz
theorem zyE (h:zlO m vh=some r):wO 147 [.rc zg [0] m,kI vh] [kI r]:=by
 refine fi 9 func147 fun Xt=>?_
 unfold zlO at h;refine jr (ra 0 [.rc zg [0] m] rfl (zlu 11 (zaf [0] m) [0] rfl rfl rfl rfl rfl) rfl (rfl' [919000])) (jb h fun rv uP h=>jr (ra 2 [.ptr 919000 0] rfl (zLE (g:=190) [.tmp 3] [⟨919000,3,[kI vh]⟩] [.ep wM [919000] vh 0] rfl ⟨⟨rfl,rfl,rfl⟩,trivial⟩ rfl) rfl (rl 0 [0,919000] 10 call134 (zei uP) rf)) ?_);obtain rfl:=(sj h);exact zy lzz
theorem zBx (h:znT k wire=some r):wO 149 [kI k,kI wire] [kB r]:=by
 refine fi 19 func149 fun Xt=>?_
 unfold znT at h;refine jp (jb h fun rv uP h=>jr (rl 1 [1] 9 call192 (zsE uP) rf) (jg [] [] [(4,kB ((rv.2==0)&&(rv.1==wire)))] ?_ ?_))
 ·refine (rsl 3 [] 14 (rv.2==0) ?_ ?_)<;>intro uM
  · exact (rbl [] 4 (rv.1==wire) rfl (by grind))
  exact (rbl [] 4 false rfl (by grind))
 cases h;exact zy lzz
theorem zmT (h:zhf k wv=some r):wO 186 [kI k,kU wv] [kU r.1,k8 r.2]:=by
 refine fi 34 func186 fun Xt=>?_
 unfold zhf at h;refine jp (jp (zu (jp (jb h fun p vi h=>jn (.N [1,6] [] [(7,kB p)] []) ?_ ?_))))
 ·replace h:=vi;refine jI h ?_ ?_<;>intro uM h
  ·cases h;exact zS lzz
  cases h;exact jy
 refine zez (jI h ?_ ?_)<;>intro uN h
 ·refine jb h fun rv uP h=>jb h fun wQ uT h=>jr (rl 1 [1] 9 call211 (zwf uP) (rl 0 [1] 9 call210 (zwg uT) rf)) ?_;cases h;exact zy lzz
 refine jp (jb h fun p2 vz h=>jn (.N [1,6] [] [(13,kB p2)] []) ?_ ?_)
 ·replace h:=vz;refine jI h ?_ ?_<;>intro uQ h
  ·cases h;exact zS lzz
  refine jp (jI h ?_ ?_)<;>intro uS h
  ·cases h;exact zS lzz
  refine jp (jI h ?_ ?_)<;>intro uU h
  ·cases h;exact zS lzz
  refine jp (jI h ?_ ?_)<;>intro uW h
  ·cases h;exact zS lzz
  cases h;exact jy
 refine zez (jI h ?_ ?_)<;>intro u0 h
 ·refine jb h fun wV uZ h=>jr (rl 1 [1] 9 call212 (zrn uZ) rf) ?_;cases h;exact zy lzz
 refine jp (jI h ?_ ?_)<;>intro vg h
 ·refine jb h fun kc vf h=>jr (rl 1 [1] 9 call213 (zys vf) rf) ?_;cases h;exact zy lzz
 refine jp (jb h fun p3 vV h=>jn (.n ⟨[(1,kU wv),(26,kB p3)],[]⟩) ?_ ?_)
 ·replace h:=vV;refine jI h ?_ ?_<;>intro vj h
  ·cases h;exact zS lzz
  refine jp (jI h ?_ ?_)<;>intro vk h
  ·cases h;exact zS lzz
  refine jp (jI h ?_ ?_)<;>intro vu h
  ·cases h;exact zS lzz
  refine jp (jI h ?_ ?_)<;>intro vp h
  ·cases h;exact zS lzz
  refine jp (jI h ?_ ?_)<;>intro vt h
  ·cases h;exact zS lzz
  cases h;exact jy
 refine zez (jI h ?_ ?_)<;>intro vv h
 ·cases h;exact jz
 refine zR ?_;cases h;exact jz
theorem zBh {wide:Int} (h:znH wide b=some r):wO 200 [kI wide,.sl Rp.byte [0] b] [kI r.1,k8 r.2]:=by
 refine fi 19 func200 fun Xt=>?_
 unfold znH at h;refine jp (zu (jp (jI h ?_ ?_)))<;>intro uM h
 ·refine jb h fun rv uP h=>jr (rl 1 [0] 9 call184 (zqt uP) rf) ?_;cases h;exact zy lzz
 refine jp (jI h ?_ ?_)<;>intro uN h
 ·cases h;exact jz
 refine zR ?_;cases h;exact jz
theorem zDJ (h:zqr b=some r):wO 218 [.sl Rp.byte [0] b] [kI r.1,kI r.2]:=by
 refine fi 20 func218 fun Xt=>?_
 unfold zqr at h;refine jp (jb h fun rv uP h=>jr (rl 1 [0] 9 call220 (zvd uP) rf) (zu (jb h fun q uV h=>jL uV [0] [] (fun s=>[(2,kI s.1),(3,kI s.2.1),(4,kI s.2.2)]) (fun o=> .x 0 ⟨[(2,kI o.1),(3,kI o.2)],[]⟩) ?_ lzz ?_)))
 ·clear h;intro s o h;obtain ⟨wU,points,size⟩:=s;replace h:zhn b wU points size=some o:=h;unfold zhn at h;refine jp (jI h ?_ ?_)<;>intro uM h
  ·refine zu (jp (jp (zR (jb h fun v vc h=>jb h fun wQ uT h=>jr (ra 2 [.sl Rp.byte [0] b,kI (i64.wrap (wU+size))] rfl (zgf (some (kI (i64.wrap (wU+size)))) none rfl zbd.el (zbj _ _ _) ⟨rfl,rfl⟩ ⟨rfl,rfl⟩ vc) rfl (rl 0 [0] 10 call220 (zvd uT) rf)) ?_))));cases h;exact zS lzz
  cases h;exact zaj rfl lzz
 refine zaE _ rfl ?_;cases h;exact jz
theorem zvn (h:ziT k b=some r):wO 201 [kI k,.sl Rp.byte [0] b] [kU r.1,k8 r.2]:=by
 refine fi 31 func201 fun Xt=>?_
 unfold ziT at h;refine jp (jb h fun rv uP h=>jr (rl 1 [1] 9 call185 (zkE uP) rf) (zu (jp (jI h ?_ ?_))))<;>intro uM h
 ·cases h;exact jz
 refine jp (jI h ?_ ?_)<;>intro uN h
 ·refine jb h fun wQ uT h=>jr (rl 1 [0] 9 call216 (zvo uT) rf) ?_;cases h;exact zy lzz
 refine jp (jI h ?_ ?_)<;>intro uQ h
 ·cases h;exact jz
 refine zR (jb h fun wV uZ h=>jr (rl 1 [0] 9 call217 (zAh uZ) rf) ?_);cases h;exact zy lzz
theorem zFm (h:zoA b t=some r):wO 176 [.sl Rp.byte [0] b,.rc zbz [0] t] [.own Rp.byte 5 2 [] r.1,k8 r.2]:=by
 refine fi 13 func176 fun Xt=>?_
 unfold zoA at h;refine jq [13] (jb h fun rv uP h=>jr (lb 0 zbz [] t (rl 0 [1] 12 call183 (zto uP) rf)) (jI h ?_ ?_))<;>intro uM h
 ·refine jp ?_;cases h;exact zy lw
 refine jb h fun wQ uT h=>jb h fun wV uZ h=>jr (lb 1 zbz [] t (rl 0 [1] 12 call207 (zDz uT) (rl 0 [0] 12 call178 (zne uZ) rf))) ?_;cases h;exact zy (lks [] [(14,2)] lzz)
theorem zoU (h:zfa sv=some r):wO 83 [.sl zg [0] sv] [kI r.1,kI r.2.1,kI r.2.2]:=by
 refine fi 80 func83 fun Xt=>?_
 unfold zfa at h;refine jp (jg [0] [] [(17,kB (((sv.length:Int)==0)|| (decide ((sv.length:Int)>100))))] ?_ ?_)
 ·refine (rsl 4 [] 13 ((sv.length:Int)==0) ?_ ?_)<;>intro uM
  · exact (rbl [] 17 true rfl (by grind))
  exact (rbl [] 17 (decide ((sv.length:Int)>100)) rfl (by grind))
 refine jI h ?_ ?_<;>intro uN h
 ·cases h;exact jz
 refine jp (zu (jb h fun q3 vM h=>jL vM [0] [] (fun s=>[(5,kI s)]) (fun| (.inl v_)=> .x 0 ⟨[],[]⟩| (.inr v_)=> .r ⟨[(2,kI v_.1),(3,kI v_.2.1),(4,kI v_.2.2)],[]⟩) ?_ lzz ?_))
 ·clear h;intro i o h;unfold zbB at h;refine jp (jI h ?_ ?_)<;>intro uQ h
  ·refine zu (jp (jp (zu (jb h fun q uV h=>jL uV [0,5] [] (fun s=>[(6,kB s.1),(7,kI s.2)]) (fun o=> .X 2 [0,5] [] [(6,kB o)] []) ?_ lzz ?_))))
   ·clear h;intro s o h;obtain ⟨twice,k⟩:=s;replace h:zbC i sv twice k=some o:=h;unfold zbC at h;refine jp (jI h ?_ ?_)<;>intro uS h
    ·refine zu (jb h fun g uO h=>jn (.N [0,5,7] [] [(6,kB g)] []) ?_ (zez ?_))
     ·rcases znr uO with ⟨uU,uO⟩| ⟨uU,uO⟩
      ·cases uO;exact jd [0,5,6,7] [] zdo (by exact (lw_e (dg 29 uU l0))) (zS lzz)
      refine jb uO fun x uY uO=>jb uO fun x2 vd uO=>?_;cases uO;exact jd [0,5,6,7] [] zdo (by exact (lw_e (dg 29 uU (lwn 2 (di [0] zhp.el uY (lwn 4 (di [0] zhp.el vd l0))))))) (zS lzz)
     refine zR ?_;cases h;exact jy
    cases h;exact zaj rfl lzz
   refine zaE _ rfl (jb h fun x3 vm h=>jb h fun rv uP h=>jr (rx 2 [0] zhp.el vm rfl rfl (rl 2 [1] 11 call118 (zjW uP) rf)) (jI h ?_ ?_))<;>intro uW h
   ·cases h;exact jz'
   refine jp (jI h ?_ ?_)<;>intro u0 h
   ·cases h;exact jz'
   refine jb h fun x4 vx h=>jr (rx 2 [0] zhp.el vx rfl rfl (rc 1 rfl (ldl zg [0] x4 1 zb x4.Fields) rf)) (jI h ?_ ?_)<;>intro vg h
   ·cases h;exact jz'
   refine jp (zu (jb h fun q2 vl h=>jL vl [0,5] [] (fun s=>[(8,kI s)]) (fun| (.inl v_)=> .X 4 [0,5] [] [] []| (.inr v_)=> .r ⟨[(2,kI i),(3,kI v_.1),(4,kI v_.2)],[]⟩) ?_ lzz ?_))
   ·clear h;intro k2 o h;unfold zbD at h;refine jb h fun x5 vD h=>jr (rx 3 [0] zhp.el vD rfl rfl (rc 1 rfl (ldl zg [0] x5 1 zb x5.Fields) rf)) (jI h ?_ ?_)<;>intro vj h
    ·refine zu (jb h fun wQ uT h=>jr (rl 3 [0] 12 call119 (zoV uT) rf) (jp (jI h ?_ ?_)))<;>intro vk h
     ·cases h;exact jz'
     refine zR ?_;cases h;exact jy
    cases h;exact zaj rfl lzz
   rcases q2 with u| u2
   ·refine zaE _ rfl (zR ?_);cases h;exact jy
   cases h;exact zAA lzz
  cases h;exact zaj rfl lzz
 rcases q3 with u3| u4
 ·refine zaE _ rfl ?_;cases h;exact jz
 cases h;exact zfQ lzz
theorem zpu (h:zem b uX=some r):wO 56 [.sl Rp.byte [0] b,kI uX] [.rc zt [] r.1,kI r.2]:=by
 refine fj ⟨[(4,.ptr 2 0),(5,kI r.2)],[⟨2,74,(zaN r.1)⟩]⟩ 108 func56 ⟨⟨_,_,rfl,rfl,rfl,rfl,zOi⟩,rfl,trivial⟩ fun Xt=>?_
 unfold zem at h;refine jq [12] (jg [0,1,4] [12] [(26,kB ((decide (uX<0))|| (decide (uX>=(b.length:Int)))))] ?_ ?_)
 ·refine (rsl 3 [] 21 (decide (uX<0)) ?_ ?_)<;>intro uM
  · exact (rbl [] 26 true rfl (by grind))
  exact (rbl [] 26 (decide (uX>=(b.length:Int))) rfl (by grind))
 refine jI h ?_ ?_<;>intro uN h
 ·refine jr (rc 0 rfl (zL (r:=zt) [] [] (⟨0,0,0,0,0⟩:zj) rfl zxR rfl rfl) rf) ?_;cases h;exact zy (lks [12] [(12,2)] lzz)
 refine jb h fun rv uP h=>jr (rl 2 [0] 11 call89 (zpr uP) rf) (jp (jI h ?_ ?_))<;>intro uQ h
 ·refine jr (rc 0 rfl (zL (r:=zt) [] [] (⟨0,0,0,0,0⟩:zj) rfl zxR rfl rfl) rf) ?_;cases h;exact zy (lks [12] [(12,2)] lzz)
 refine jr (rc 6 rfl (zL (r:=zt) [kI rv.1,kI rv.2.1,kI uX,kI (i64.wrap (uX+rv.2.2.1))] [] (⟨rv.1,rv.2.1,uX,(i64.wrap (uX+rv.2.2.1)),0⟩:zj) rfl zxR rfl rfl) (rfl' [13])) (jp (jp (jp (jb h fun p vi h=>jn (.N [0,4,7,10,11] [12,13] [(12,kI p)] []) ?_ ?_))))
 ·replace h:=vi;refine jI h ?_ ?_<;>intro uS h
  ·cases h;exact jy
  cases h;exact zS lzz
 refine zez (jp (jb h fun p2 vz h=>jn (match p2 with| (.inl v_)=> .N [0,4,7,10,11] [12,13] [(12,kI v_)] []| (.inr v_)=> .r ⟨[(4,.ptr 12 0),(5,kI v_)],[⟨12,74,[kI 0,kI 0,kI 0,kI 0,kI 0]⟩]⟩) ?_ ?_))
 ·replace h:=vz;refine jI h ?_ ?_<;>intro uU h
  ·refine jb h fun wQ uT h=>jr (rl 3 [0] 12 call60 (zcN uT) rf) (jp (jI h ?_ ?_))<;>intro uW h
   ·refine jr (rc 0 rfl (zL (r:=zt) [] [] (⟨0,0,0,0,0⟩:zj) rfl zxR rfl rfl) rf) ?_;cases h;exact zy lzz
   cases h;exact jy
  cases h;exact zS lzz
 rcases p2 with u| u4
 ·refine zez (jp (jb h fun p3 vV h=>jn (match p3 with| (.inl v_)=> .N [4,10] [12] [(11,kI v_.1),(12,kI v_.2.1)] [⟨13,74,[kI rv.1,kI rv.2.1,kI uX,kI v_.2.2,kI 0]⟩]| (.inr v_)=> .r ⟨[(4,.ptr 12 0),(5,kI v_)],[⟨12,74,[kI 0,kI 0,kI 0,kI 0,kI 0]⟩]⟩) ?_ ?_))
  ·replace h:=vV;refine jI h ?_ ?_<;>intro u0 h
   ·refine jb h fun wV uZ h=>jr (rl 3 [0] 12 call60 (zcN uZ) rf) (jp (jI h ?_ ?_))<;>intro vg h
    ·refine jr (rc 0 rfl (zL (r:=zt) [] [] (⟨0,0,0,0,0⟩:zj) rfl zxR rfl rfl) rf) ?_;cases h;exact zy lzz
    refine jp (jp (jp (jI h ?_ ?_)))<;>intro vj h
    ·refine jr (rc 0 rfl (zL (r:=zt) [] [] (⟨0,0,0,0,0⟩:zj) rfl zxR rfl rfl) rf) ?_;cases h;exact zy lzz
    cases h;exact jy
   cases h;exact zS lzz
  rcases p3 with u2| u3
  ·refine zez (jp (jI h ?_ ?_))<;>intro vk h
   ·refine jr (rc 0 rfl (zL (r:=zt) [] [] (⟨0,0,0,0,0⟩:zj) rfl zxR rfl rfl) rf) ?_;cases h;exact zy (lks [12] [(12,2)] lzz)
   refine jp (jr (lb 0 zt [] (⟨rv.1,rv.2.1,uX,u2.2.2,(i64.wrap (u2.2.2+u2.2.1))⟩:zj) rf) ?_);cases h;exact zy (lks [12] [(12,2)] lzz)
  cases h;exact zfQ (lks [12] [(12,2)] lzz)
 cases h;exact zfQ (lks [12] [(12,2)] lzz)
theorem zoS (h:zeZ b ke=some r):wO 85 [.sl Rp.byte [0] b,kI ke] [kI r.1,kI r.2]:=by
 refine fi 28 func85 fun Xt=>?_
 unfold zeZ at h;refine jp (jp (zu (jb h fun q uV h=>jL uV [0,1] [] (fun s=>[(6,kI s.1),(7,kI s.2)]) (fun o=> .r ⟨[(4,kI o.1),(5,kI o.2)],[]⟩) ?_ lzz ?_)))
 ·clear h;intro s o h;obtain ⟨wU,count⟩:=s;replace h:zbA b ke wU count=some o:=h;unfold zbA at h;refine zu (jb h fun rv uP h=>jr (rl 2 [0] 10 call120 (zps uP) rf) (jg [0,1,6,7,8] [] [(20,kB ((rv==0)|| (decide ((i64.wrap (wU+rv))>ke))))] ?_ ?_))
  ·refine (rsl 3 [] 14 (rv==0) ?_ ?_)<;>intro uM
   · exact (rbl [] 20 true rfl (by grind))
   exact (rbl [] 20 (decide ((i64.wrap (wU+rv))>ke)) rfl (by grind))
  refine jI h ?_ ?_<;>intro uN h
  ·cases h;exact jz'
  refine jp (jp (zR ?_));cases h;exact zS lzz
 cases h;exact zfQ lzz
theorem zjX (h:zeo k b=some r):wO 39 [kI k,.sl Rp.byte [0] b] [kU r.1,kI r.2]:=by
 refine fi 29 func39 fun Xt=>?_
 unfold zeo at h;refine jp (jb h fun rv uP h=>jr (rl 1 [1] 9 call38 (zdg uP) rf) (jI h ?_ ?_))<;>intro uM h
 ·cases h;exact jz
 refine jb h fun wQ uT h=>jb h fun wV uZ h=>jr (rl 1 [1] 9 call58 (zhd uT) (rl 1 [0] 9 call57 (zpt uZ) rf)) (jI h ?_ ?_)<;>intro uN h
 ·cases h;exact jz
 refine jb h fun kc vf h=>jr (rl 1 [0] 9 call59 (zpq vf) rf) (jb h fun rv5 vq h=>jr (rl 1 [1] 9 call58 (zhd vq) rf) (jI h ?_ ?_))<;>intro uQ h
 ·refine jb h fun rv6 vI h=>jr (rl 1 [0] 9 call60 (zcN vI) rf) (jb h fun rv7 vO h=>jr (rl 2 [1] 9 call61 (zjg vO) rf) ?_);cases h;exact zy lzz
 refine jb h fun rv8 vP h=>jr (rl 2 [1] 9 call61 (zjg vP) rf) ?_;cases h;exact zy lzz
theorem zti (h:zhk f=some r):wO 172 [.rc zb [0] f] [kB r]:=by
 refine fi 10 func172 fun Xt=>?_
 unfold zhk at h;refine jq [11] (jb h fun g uO h=>jg [] [] [(2,kB g)] ?_ ?_)
 ·refine (rsI 3 5 uO ?_ ?_)<;>intro uM uO
  ·refine jb uO fun rv uP uO=>?_;cases uO;exact (rl 2 [1] 10 call191 (zpH uP) rgg)
  cases uO;exact rgg
 obtain rfl:=(sj h);exact zy lzz
theorem ziR (h:zfK b uX=some r):wO 111 [.sl Rp.byte [0] b,kI uX] [.rc zt [] r.1,k8 r.2]:=by
 refine fj ⟨[(4,.ptr 2 0),(5,k8 r.2)],[⟨2,66,(zaN r.1)⟩]⟩ 62 func111 ⟨⟨_,_,rfl,rfl,rfl,rfl,zIo⟩,rfl,trivial⟩ fun Xt=>?_
 unfold zfK at h;refine jq [12] (jg [0,1,4] [12] [(19,kB ((decide (uX<0))|| (decide (uX>=(b.length:Int)))))] ?_ ?_)
 ·refine (rsl 3 [] 14 (decide (uX<0)) ?_ ?_)<;>intro uM
  · exact (rbl [] 19 true rfl (by grind))
  exact (rbl [] 19 (decide (uX>=(b.length:Int))) rfl (by grind))
 refine jI h ?_ ?_<;>intro uN h
 ·refine jr (rc 0 rfl (zL (r:=zt) [] [] (⟨0,0,0,0,0⟩:zj) rfl zGJ rfl rfl) rf) ?_;cases h;exact zy (lks [12] [(12,2)] lzz)
 refine jb h fun v2 vn h=>jb h fun rv uP h=>jr (ra 2 [.sl Rp.byte [0] b,kI uX] rfl (zgf (some (kI uX)) none rfl zbd.el (zbj _ _ _) ⟨rfl,rfl⟩ ⟨rfl,rfl⟩ vn) rfl (rl 0 [0] 11 call140 (zDy uP) (rfl' [13]))) (jp (jI h ?_ ?_))<;>intro uQ h
 ·refine jr (rc 0 rfl (zL (r:=zt) [] [] (⟨0,0,0,0,0⟩:zj) rfl zGJ rfl rfl) rf) ?_;cases h;exact zy (lks [12] [(12,2)] lzz)
 refine jp (jb h fun v3 ve h=>jb h fun wQ uT h=>jd [1,4,6,8,9,10,11] [12,13] zdo (by exact (lwn 4 (ly [.sl Rp.byte [0] b,kI (i64.wrap (uX+rv.2.1))] (zgf (some (kI (i64.wrap (uX+rv.2.1)))) none rfl zbd.el (zbj _ _ _) ⟨rfl,rfl⟩ ⟨rfl,rfl⟩ ve) rfl (lx (lf1 141 (lc0 12 call141 (zqd uT))) l0)))) (jp (jI h ?_ ?_)))<;>intro uS h
 ·refine jr (rc 0 rfl (zL (r:=zt) [] [] (⟨0,0,0,0,0⟩:zj) rfl zGJ rfl rfl) rf) ?_;cases h;exact zy (lks [12] [(12,2)] lzz)
 refine jr (rc 11 rfl (zL (r:=zt) [kI rv.1.Number,kI rv.1.Wire,kI uX,kI (i64.wrap ((i64.wrap (uX+rv.2.1))+wQ.1)),kI (i64.wrap ((i64.wrap (uX+rv.2.1))+wQ.2.1))] [] (⟨rv.1.Number,rv.1.Wire,uX,(i64.wrap ((i64.wrap (uX+rv.2.1))+wQ.1)),(i64.wrap ((i64.wrap (uX+rv.2.1))+wQ.2.1))⟩:zj) rfl zGJ rfl rfl) rf) ?_;cases h;exact zy (lks [12] [(12,2)] lzz)
theorem zyF (h:zlP f wire=some r):wO 148 [.rc zb [0] f,kI wire] [kB r]:=by
 refine fi 16 func148 fun Xt=>?_
 unfold zlP at h;refine jq [11] (jb h fun g uO h=>jg [] [] [(4,kB g)] ?_ ?_)
 ·refine (rsI 3 7 uO ?_ ?_)<;>intro uM uO
  ·refine (rsI 4 11 uO ?_ ?_)<;>intro uN uO
   ·refine jb uO fun rv uP uO=>?_;cases uO;exact (rl 2 [1] 10 call191 (zpH uP) rgg)
   cases uO;exact rgg
  cases uO;exact rgg
 obtain rfl:=(sj h);exact zy lzz
theorem zlI (h:zhj k wv=some r):wO 142 [kI k,kU wv] [kI r]:=by
 refine fi 29 func142 fun Xt=>?_
 unfold zhj at h;refine jp (jb h fun rv uP h=>jr (rl 1 [1] 9 call185 (zkE uP) rf) (jg [0,1,5] [] [(19,kB ((rv.2 !=0)|| (rv.1 !=0)))] ?_ ?_))
 ·refine (rsl 3 [] 16 (rv.2 !=0) ?_ ?_)<;>intro uM
  · exact (rbl [] 19 true rfl (by grind))
  exact (rbl [] 19 (rv.1 !=0) rfl (by grind))
 refine jI h ?_ ?_<;>intro uN h
 ·cases h;exact jz
 refine jb h fun wQ uT h=>jr (rl 2 [1] 9 call186 (zmT uT) rf) (jb h fun wV uZ h=>jr (rl 1 [1] 9 call187 (zux uZ) rf) ?_);obtain rfl:=(sj h);exact zy lzz
theorem zBv (h:znQ b=some r):wO 208 [.sl Rp.byte [0] b] [kI r]:=by
 refine fi 11 func208 fun Xt=>?_
 unfold znQ at h;refine jp (jb h fun rv uP h=>jr (rl 1 [0] 9 call218 (zDJ uP) rf) ?_);cases h;exact jz
theorem zxJ (h:zkn k b=some r):wO 163 [kI k,.sl Rp.byte [0] b] [kU r.1,k8 r.2]:=by
 refine fi 22 func163 fun Xt=>?_
 unfold zkn at h;refine jp (jb h fun rv uP h=>jr (rl 2 [0] 9 call201 (zvn uP) rf) (jp (jI h ?_ ?_)))<;>intro uM h
 ·cases h;exact jz
 refine jb h fun wQ uT h=>jr (rl 2 [1] 9 call186 (zmT uT) rf) ?_;cases h;exact zy lzz
theorem zrB (h:zjG k wv=some r):wO 175 [kI k,kU wv] [.own Rp.byte 5 2 [] r.1,k8 r.2]:=by
 refine fi 32 func175 fun Xt=>?_
 unfold zjG at h;refine jp (jb h fun rv uP h=>jr (rl 1 [1] 10 call185 (zkE uP) rf) (jp (jI h ?_ ?_)))<;>intro uM h
 ·refine jp ?_;cases h;exact zy lw
 refine jb h fun wQ uT h=>jr (rl 2 [1] 10 call186 (zmT uT) rf) (jp (jI h ?_ ?_))<;>intro uN h
 ·refine jb h fun wV uZ h=>jr (rl 1 [1] 10 call178 (FnOk.le (ins':=[kN,kU wQ.1]) (zne uZ) ⟨zin _ _,wP _,trivial⟩) rf) ?_;cases h;exact zy (lks [] [(12,2)] lzz)
 refine jb h fun kc vf h=>jr (rl 2 [1] 11 call206 (zwe vf) rf) ?_;cases h;exact zy (lks [] [(13,2)] lzz)
theorem zxy (h:zkj wire value=some r):wO 177 [kI wire,.sl Rp.byte [0] value] [kB r]:=by
 refine fi 25 func177 fun Xt=>?_
 unfold zkj at h;refine jp (jp (jI h ?_ ?_))<;>intro uM h
 ·refine jp ?_;obtain rfl:=(sj h);exact zy lzz
 refine jb h fun rv uP h=>jr (rl 2 [0] 9 call141 (zqd uP) rf) (jg [] [] [(4,kB ((rv.2.2==0)&&(rv.2.1==(value.length:Int))))] ?_ ?_)
 ·refine (rsl 3 [] 19 (rv.2.2==0) ?_ ?_)<;>intro uN
  · exact (rbl [] 4 (rv.2.1==(value.length:Int)) rfl (by grind))
  exact (rbl [] 4 false rfl (by grind))
 cases h;exact zy lzz
theorem zoX (h:zfd sv=some r):wO 50 [.sl zg [0] sv] [kB r]:=by
 refine fi 14 func50 fun Xt=>?_
 unfold zfd at h;refine jp (jb h fun rv uP h=>jr (rl 1 [0] 9 call83 (zoU uP) rf) ?_);cases h;exact jz
theorem zjZ (h:zeq m b uX=some r):wO 51 [.rc zg [0] m,.sl Rp.byte [0] b,kI uX] [.rc zal [] r.1,kI r.2]:=by
 refine fj ⟨[(6,.ptr 2 0),(7,kI r.2)],[⟨2,86,(zwn r.1)⟩]⟩ 66 func51 ⟨⟨_,_,rfl,rfl,rfl,rfl,zOj⟩,rfl,trivial⟩ fun Xt=>?_
 unfold zeq at h;refine jr (ra 0 [.rc zg [0] m] rfl (zlu 13 (zaf [0] m) [0] rfl rfl rfl rfl rfl) rfl (rfl' [14])) (jb h fun rv uP h=>jr (rl 2 [0] 13 call56 (zpu uP) (rfl' [15])) (jp (jI h ?_ ?_)))<;>intro uM h
 ·refine jr (rc 0 rfl (zL (r:=zal) [] [] (⟨(⟨0,0,0,0,0⟩:zj),0,false⟩:zE) rfl zDw rfl rfl) rf) ?_;cases h;exact zy (lks [14] [(14,2)] lzz)
 refine jb h fun wQ uT h=>jr (rl 3 [0] 14 call55 (zoW uT) rf) (jp (jI h ?_ ?_))<;>intro uN h
 ·refine jr (lb 0 zt [] rv.1 (rc 0 rfl (zL (r:=zal) [.rc zt [] rv.1,kI (-1)] [] (⟨rv.1,(-1),false⟩:zE) rfl zDw rfl rfl) rf)) ?_;cases h;exact zy (lks [14] [(14,2)] lzz)
 refine jb h fun x uY h=>jr (rx 3 [0] zkv.el uY rfl rfl (rc 0 rfl (lde zb [0] x zoG) (rfl' [16]))) (jb h fun g uO h=>jg [6,8,10,11] [14,15,16] [(46,kB g)] ?_ ?_)
 ·refine (rsI 3 37 uO ?_ ?_)<;>intro uQ uO
  ·refine jb uO fun wV uZ uO=>(rl 2 [1] 15 call38 (zdg uZ) (rsI 2 42 uO ?_ ?_))<;>intro uS uO
   ·cases uO;exact (rel [] lzz)
   cases uO;exact (rel [] lzz)
  cases uO;exact (rel [] lzz)
 refine jI h ?_ ?_<;>intro uU h
 ·refine jr (lb 0 zt [] rv.1 (rc 1 rfl (zL (r:=zal) [.rc zt [] rv.1,kI wQ,kB true] [] (⟨rv.1,wQ,true⟩:zE) rfl zDw rfl rfl) rf)) ?_;cases h;exact zy (lks [14] [(14,2)] lzz)
 refine jb h fun g2 u9 h=>jn (.N [6,8,10] [14,15] [(61,kB g2)] []) ?_ (zez ?_)
 ·refine jb u9 fun kc vf u9=>?_;rcases znr u9 with ⟨uW,u9⟩| ⟨uW,u9⟩
  ·cases u9;exact jd [6,8,10,61] [14,15] zdo (by exact (lwn 2 (lx (lf1 84 (lcd [kI x.Kind] 15 call84 (zgU vf))) (lw_e (dg 53 uW l0))))) (zS lzz)
  refine jb u9 fun rv5 vq u9=>?_;cases u9;exact jd [6,8,10,61] [14,15] zdo (by exact (lwn 2 (lx (lf1 84 (lcd [kI x.Kind] 15 call84 (zgU vf))) (lw_e (dg 53 uW (lwn 2 (lx (lf1 58 (lcd [kI x.Kind] 15 call58 (zhd vq))) l0))))))) (zS lzz)
 refine jI h ?_ ?_<;>intro u0 h
 ·refine jr (rc 0 rfl (zL (r:=zal) [] [] (⟨(⟨0,0,0,0,0⟩:zj),0,false⟩:zE) rfl zDw rfl rfl) rf) ?_;cases h;exact zy (lks [14] [(14,2)] lzz)
 refine jr (lb 0 zt [] rv.1 (rc 1 rfl (zL (r:=zal) [.rc zt [] rv.1,kI wQ] [] (⟨rv.1,wQ,false⟩:zE) rfl zDw rfl rfl) rf)) ?_;cases h;exact zy (lks [14] [(14,2)] lzz)
theorem zoT (h:zcG b=some r):wO 53 [.sl Rp.byte [0] b] [kB r]:=by
 refine fi 16 func53 fun Xt=>?_
 unfold zcG at h;refine jp (jb h fun rv uP h=>jr (rl 3 [0] 9 call85 (zoS uP) rf) ?_);cases h;exact jz
theorem zoY (h:zfe k b=some r):wO 37 [kI k,.sl Rp.byte [0] b] [.own wN 90 2 [] r.1,kI r.2]:=by
 refine fi 50 func37 fun Xt=>?_
 unfold zfe at h;refine jp (jb h fun rv uP h=>jr (rl 2 [0] 13 call52 (zjY uP) rf) (jp (jp (zu (jb h fun q uV h=>jL uV [0,1,6,7] [] (fun s=>[(8,.own wN 90 18 [] s.1),(9,kI s.2)]) (fun o=> .X 0 [7] [] [(8,.own wN 90 18 [] o)] []) ?_ lw ?_)))))
 ·clear h;intro s o h;obtain ⟨out,i⟩:=s;replace h:zbG b k rv out i=some o:=h;unfold zbG at h;refine jp (jI h ?_ ?_)<;>intro uM h
  ·refine zu (jp (jp (jb h fun p vi h=>jn (.N [0,1,6,7,8,9] [] [(10,kI p)] []) ?_ ?_)))
   ·replace h:=vi;refine jI h ?_ ?_<;>intro uN h
    ·refine jb h fun x uY h=>jr (ra 3 [.own wM 3 15 [] rv.1,kI (i64.wrap (i - 1))] rfl (zji rfl zjm.el (zcV _ _ _ _ _) uY) rfl rf) ?_;cases h;exact zS lzz
    cases h;exact zS lzz
   refine zez (jb h fun x2 vd h=>jb h fun v vc h=>jb h fun wQ uT h=>jr (ra 5 [.own wM 3 15 [] rv.1,kI i] rfl (zji rfl zjm.el (zcV _ _ _ _ _) vd) rfl (ra 1 [.sl Rp.byte [0] b,kI p,kI x2] rfl (zgf (some (kI p)) (some (kI x2)) rfl zbd.el (zbj _ _ _) ⟨rfl,rfl⟩ ⟨rfl,rfl⟩ vc) rfl (rl 0 [0] 17 call39 (zjX uT) rf))) (jb h fun v2 vn h=>jr (rc 2 rfl (zfR [kU wQ.1] 19 [] ([wQ.1]:(List Int)) rfl zrD rfl rfl rfl rfl) (rc 0 rfl (lao 18 [] 90 19 [] [] zrD.el vn (.inl (zio _))) rf)) (zR ?_)));cases h;exact jy
  cases h;exact zaj rfl lzz
 refine zaE _ rfl (jp ?_);cases h;exact zy (lks [] [(18,2)] lzz)
end Go.Proofs.YtaglemhabeipfaaGreat
