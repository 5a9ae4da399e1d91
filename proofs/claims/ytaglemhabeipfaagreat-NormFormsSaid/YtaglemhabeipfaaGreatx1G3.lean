/-
  The Go functions do what the plain functions say. No condition.
-/
import Derived.Test.YtaglemhabeipfaaGreatx1G2
set_option autoImplicit true
set_option relaxedAutoImplicit true
namespace Go.Proofs.YtaglemhabeipfaaGreat
open Go.IntKind (i64)
open Tryz
open Go Go.RowKit
set_option linter.unusedVariables false
set_option maxRecDepth 100000
set_option maxHeartbeats 3200000
theorem zoN (h:zeA c m=some r):ziS prog 132 [.ag [kI c.size,.sl kd [0] c.kinds,.om zC Rp.bool 2 [0] c.names,.om zf Rp.bool 3 [0] c.numbers],.rc zd [0] m] [kI r.1] [.ag [.any,.any,.om zC Rp.bool 2 [0] r.2.1,.om zf Rp.bool 3 [0] r.2.2],.any]:=by
 refine zkn (E:=⟨[(0,.ag [.any,.any,.om zC Rp.bool 2 [0] r.2.1,.om zf Rp.bool 3 [0] r.2.2]),(4,kI r.1)],[]⟩) 27 [0] func132 rfl rfl rfl ⟨rfl,trivial⟩ ⟨.inr ⟨rfl,rfl⟩,.inl rfl,trivial⟩ rfl (fun Xt old=>?_);refine zbE ?_;unfold zeA at h;refine jr (ral 1 [11] [.rc zd [0] m] rfl (zjy 12 (zU [0] m) [0] rfl rfl rfl rfl rfl) rfl rf) (jr (rc 2 rfl (zM (r:=zC) [kI (-1),kS m.Name] [] (⟨(-1),m.Name⟩:zv) rfl zMy rfl rfl) (rfl' [13])) (zr (jb h fun rv u9 h=>jr (rl 2 [1] 12 call169 (zoO u9) rf) (jI h ?_ ?_))))<;>intro uY h
 ·refine jp ?_;cases h;exact zdP lw
 refine jr (lb 2 zC [] (⟨(-1),m.Name⟩:zv) (ra 0 [.om zC Rp.bool 2 [0] c.names,.rc zC [] (⟨(-1),m.Name⟩:zv)] rfl (zuq (rk:=zC) (rv:=Rp.bool) (m:=c.names) (k:=(⟨(-1),m.Name⟩:zv)) (kB ((mget c.names (⟨(-1),m.Name⟩:zv)).getD false)) rfl zxl (zcN rfl) (ztV rfl rfl rfl)) rfl rf)) (jI h ?_ ?_)<;>intro uZ h
 ·refine jp ?_;cases h;exact zdP lw
 refine jp (jI h ?_ ?_)<;>intro va h
 ·refine jp ?_;cases h;exact zdP lw
 refine zK (jr (lb 2 zC [] (⟨(-1),m.Name⟩:zv) (rms (C1:=[]) 0 [] 2 [0] c.names (⟨(-1),m.Name⟩:zv) true [0] zxl (zcN rfl) (zeT rfl rfl) rf)) (jp ?_));cases h;exact zdP lw
theorem zqS (h:ziY k=some r):kg 191 [kI k] [kB r]:=by
 refine fi 16 func191 fun Xt=>?_
 unfold ziY at h;refine jp (jb h fun rv u9 h=>jr (rl 1 [1] 9 call192 (zuj u9) rf) (jg [] [] [(2,kB ((rv.2==0)&&(rv.1 !=2)))] ?_ ?_))
 ·refine (rsl 3 [] 12 (rv.2==0) ?_ ?_)<;>intro uY
  · exact (rbl [] 2 (rv.1 !=2) rfl (by grind))
  exact (rbl [] 2 false rfl (by grind))
 cases h;exact zx lzz
theorem zFD (h:zrE b=some r):kg 140 [.sl Rp.byte [0] b] [.rc zbG [] r.1,kI r.2.1,k8 r.2.2]:=by
 refine fj ⟨[(2,.ptr 2 0),(3,kI r.2.1),(4,k8 r.2.2)],[⟨2,229,[kI r.1.Number,kI r.1.Wire]⟩]⟩ 35 func140 ⟨⟨_,_,rfl,rfl,rfl,rfl,zOZ⟩,rfl,rfl,trivial⟩ fun Xt=>?_
 unfold zrE at h;refine jq [12] (jb h fun rv u9 h=>jr (rl 1 [0] 11 call182 (zjQ u9) rf) (jp (jI h ?_ ?_)))<;>intro uY h
 ·refine jr (rc 0 rfl (zM (r:=zbG) [] [] (⟨0,0⟩:zaa) rfl zDu rfl rfl) rf) ?_;cases h;exact zx (lks [12] [(12,2)] lzz)
 refine jr (ra 1 [kU rv.1,kU 3] rfl (zjz rfl rfl) rfl rf) (jr (rc 5 rfl (zM (r:=zbG) [kI (i64.wrap (if (536870912:Int)<(shrI .u64 rv.1 3) then 536870912 else (shrI .u64 rv.1 3))),kI (i64.wrap (andI .u64 rv.1 7))] [] (⟨(i64.wrap (if (536870912:Int)<(shrI .u64 rv.1 3) then 536870912 else (shrI .u64 rv.1 3))),(i64.wrap (andI .u64 rv.1 7))⟩:zaa) rfl zDu rfl rfl) (rfl' [13])) (jb h fun kj vb h=>jr (lb 0 zbG [] (⟨(i64.wrap (if (536870912:Int)<(shrI .u64 rv.1 3) then 536870912 else (shrI .u64 rv.1 3))),(i64.wrap (andI .u64 rv.1 7))⟩:zaa) (rl 0 [1] 12 call183 (zuS vb) rf)) (jI h ?_ ?_)))<;>intro uZ h
 ·refine jr (rc 0 rfl (zM (r:=zbG) [] [] (⟨0,0⟩:zaa) rfl zDu rfl rfl) rf) ?_;cases h;exact zx (lks [12] [(12,2)] lzz)
 refine jr (lb 0 zbG [] (⟨(i64.wrap (if (536870912:Int)<(shrI .u64 rv.1 3) then 536870912 else (shrI .u64 rv.1 3))),(i64.wrap (andI .u64 rv.1 7))⟩:zaa) rf) ?_;cases h;exact zx (lks [12] [(12,2)] lzz)
theorem zrt (h:zje wire b=some r):kg 141 [kI wire,.sl Rp.byte [0] b] [kI r.1,kI r.2.1,k8 r.2.2]:=by
 refine fi 45 func141 fun Xt=>?_
 unfold zje at h;refine jp (jp (jp (zr (jp (jI h ?_ ?_)))))<;>intro uY h
 ·refine jb h fun rv u9 h=>jr (rl 1 [0] 9 call184 (zrN u9) rf) ?_;cases h;exact jz
 refine jp (jb h fun p vD h=>jn (.N [1] [] [(4,kI p.1),(6,k8 p.2.1),(7,kU p.2.2)] []) ?_ ?_)
 ·replace h:=vD;refine jI h ?_ ?_<;>intro uZ h
  ·cases h;exact jy
  refine jp (jI h ?_ ?_)<;>intro va h
  ·cases h;exact jy
  refine jp (jI h ?_ ?_)<;>intro vd h
  ·refine jb h fun kj vb h=>jr (rl 1 [0] 9 call182 (zjQ vb) rf) ?_;cases h;exact zV lzz
  cases h;exact zV lzz
 refine zez (zK (jp (jI h ?_ ?_)))<;>intro vf h
 ·cases h;exact jz
 refine jp (jI h ?_ ?_)<;>intro vk h
 ·cases h;exact jz
 cases h;exact jz
theorem zAE (h:zmM m vq=some r):kg 147 [.rc zd [0] m,kI vq] [kI r]:=by
 refine fi 9 func147 fun Xt=>?_
 unfold zmM at h;refine jr (ra 0 [.rc zd [0] m] rfl (zjy 11 (zU [0] m) [0] rfl rfl rfl rfl rfl) rfl (rfl' [919000])) (jb h fun rv u9 h=>jr (ra 2 [.ptr 919000 0] rfl (zNF (g:=190) [.tmp 3] [⟨919000,3,[kI vq]⟩] [.ep kd [919000] vq 0] rfl ⟨⟨rfl,rfl,rfl⟩,trivial⟩ rfl) rfl (rl 0 [0,919000] 10 call134 (zeE u9) rf)) ?_);obtain rfl:=(sj h);exact zx lzz
theorem zDE (h:zoY k wire=some r):kg 149 [kI k,kI wire] [kB r]:=by
 refine fi 19 func149 fun Xt=>?_
 unfold zoY at h;refine jp (jb h fun rv u9 h=>jr (rl 1 [1] 9 call192 (zuj u9) rf) (jg [] [] [(4,kB ((rv.2==0)&&(rv.1==wire)))] ?_ ?_))
 ·refine (rsl 3 [] 14 (rv.2==0) ?_ ?_)<;>intro uY
  · exact (rbl [] 4 (rv.1==wire) rfl (by grind))
  exact (rbl [] 4 false rfl (by grind))
 cases h;exact zx lzz
theorem znW (h:zhO k wv=some r):kg 186 [kI k,kU wv] [kU r.1,k8 r.2]:=by
 refine fi 34 func186 fun Xt=>?_
 unfold zhO at h;refine jp (jp (zr (jp (jb h fun p vD h=>jn (.N [1,6] [] [(7,kB p)] []) ?_ ?_))))
 ·replace h:=vD;refine jI h ?_ ?_<;>intro uY h
  ·cases h;exact zV lzz
  cases h;exact jy
 refine zez (jI h ?_ ?_)<;>intro uZ h
 ·refine jb h fun rv u9 h=>jb h fun kj vb h=>jr (rl 1 [1] 9 call211 (zxO u9) (rl 0 [1] 9 call210 (zxP vb) rf)) ?_;cases h;exact zx lzz
 refine jp (jb h fun p2 vM h=>jn (.N [1,6] [] [(13,kB p2)] []) ?_ ?_)
 ·replace h:=vM;refine jI h ?_ ?_<;>intro va h
  ·cases h;exact zV lzz
  refine jp (jI h ?_ ?_)<;>intro vd h
  ·cases h;exact zV lzz
  refine jp (jI h ?_ ?_)<;>intro vf h
  ·cases h;exact zV lzz
  refine jp (jI h ?_ ?_)<;>intro vk h
  ·cases h;exact zV lzz
  cases h;exact jy
 refine zez (jI h ?_ ?_)<;>intro vp h
 ·refine jb h fun kr vm h=>jr (rl 1 [1] 9 call212 (zsN vm) rf) ?_;cases h;exact zx lzz
 refine jp (jI h ?_ ?_)<;>intro vy h
 ·refine jb h fun kE vv h=>jr (rl 1 [1] 9 call213 (zAm vv) rf) ?_;cases h;exact zx lzz
 refine jp (jb h fun p3 wo h=>jn (.n ⟨[(1,kU wv),(26,kB p3)],[]⟩) ?_ ?_)
 ·replace h:=wo;refine jI h ?_ ?_<;>intro vA h
  ·cases h;exact zV lzz
  refine jp (jI h ?_ ?_)<;>intro vB h
  ·cases h;exact zV lzz
  refine jp (jI h ?_ ?_)<;>intro vI h
  ·cases h;exact zV lzz
  refine jp (jI h ?_ ?_)<;>intro vF h
  ·cases h;exact zV lzz
  refine jp (jI h ?_ ?_)<;>intro vJ h
  ·cases h;exact zV lzz
  cases h;exact jy
 refine zez (jI h ?_ ?_)<;>intro vL h
 ·cases h;exact jz
 refine zK ?_;cases h;exact jz
theorem zDn {wide:Int} (h:zoM wide b=some r):kg 200 [kI wide,.sl Rp.byte [0] b] [kI r.1,k8 r.2]:=by
 refine fi 19 func200 fun Xt=>?_
 unfold zoM at h;refine jp (zr (jp (jI h ?_ ?_)))<;>intro uY h
 ·refine jb h fun rv u9 h=>jr (rl 1 [0] 9 call184 (zrN u9) rf) ?_;cases h;exact zx lzz
 refine jp (jI h ?_ ?_)<;>intro uZ h
 ·cases h;exact jz
 refine zK ?_;cases h;exact jz
theorem zFO (h:zrK b=some r):kg 218 [.sl Rp.byte [0] b] [kI r.1,kI r.2]:=by
 refine fi 20 func218 fun Xt=>?_
 unfold zrK at h;refine jp (jb h fun rv u9 h=>jr (rl 1 [0] 9 call220 (zwK u9) rf) (zr (jb h fun q ve h=>jL ve [0] [] (fun s=>[(2,kI s.1),(3,kI s.2.1),(4,kI s.2.2)]) (fun o=> .x 0 ⟨[(2,kI o.1),(3,kI o.2)],[]⟩) ?_ lzz ?_)))
 ·clear h;intro s o h;obtain ⟨kp,points,size⟩:=s;replace h:zhX b kp points size=some o:=h;unfold zhX at h;refine jp (jI h ?_ ?_)<;>intro uY h
  ·refine zr (jp (jp (zK (jb h fun v vn h=>jb h fun kj vb h=>jr (ra 2 [.sl Rp.byte [0] b,kI (i64.wrap (kp+size))] rfl (zfO (some (kI (i64.wrap (kp+size)))) none rfl zap.el (zbd _ _ _) ⟨rfl,rfl⟩ ⟨rfl,rfl⟩ vn) rfl (rl 0 [0] 10 call220 (zwK vb) rf)) ?_))));cases h;exact zV lzz
  cases h;exact zae rfl lzz
 refine zar _ rfl ?_;cases h;exact jz
theorem zwS (h:zjI k b=some r):kg 201 [kI k,.sl Rp.byte [0] b] [kU r.1,k8 r.2]:=by
 refine fi 31 func201 fun Xt=>?_
 unfold zjI at h;refine jp (jb h fun rv u9 h=>jr (rl 1 [1] 9 call185 (zlr u9) rf) (zr (jp (jI h ?_ ?_))))<;>intro uY h
 ·cases h;exact jz
 refine jp (jI h ?_ ?_)<;>intro uZ h
 ·refine jb h fun kj vb h=>jr (rl 1 [0] 9 call216 (zwT vb) rf) ?_;cases h;exact zx lzz
 refine jp (jI h ?_ ?_)<;>intro va h
 ·cases h;exact jz
 refine zK (jb h fun kr vm h=>jr (rl 1 [0] 9 call217 (zCl vm) rf) ?_);cases h;exact zx lzz
theorem zHq (h:zpI b t=some r):kg 176 [.sl Rp.byte [0] b,.rc zbG [0] t] [.own Rp.byte 5 2 [] r.1,k8 r.2]:=by
 refine fi 13 func176 fun Xt=>?_
 unfold zpI at h;refine jq [13] (jb h fun rv u9 h=>jr (lb 0 zbG [] t (rl 0 [1] 12 call183 (zuS u9) rf)) (jI h ?_ ?_))<;>intro uY h
 ·refine jp ?_;cases h;exact zx lw
 refine jb h fun kj vb h=>jb h fun kr vm h=>jr (lb 1 zbG [] t (rl 0 [1] 12 call207 (zFE vb) (rl 0 [0] 12 call178 (zoi vm) rf))) ?_;cases h;exact zx (lks [] [(14,2)] lzz)
theorem zqc (h:zfu sv=some r):kg 83 [.sl zd [0] sv] [kI r.1,kI r.2.1,kI r.2.2]:=by
 refine fi 80 func83 fun Xt=>?_
 unfold zfu at h;refine jp (jg [0] [] [(17,kB (((sv.length:Int)==0)|| (decide ((sv.length:Int)>100))))] ?_ ?_)
 ·refine (rsl 4 [] 13 ((sv.length:Int)==0) ?_ ?_)<;>intro uY
  · exact (rbl [] 17 true rfl (by grind))
  exact (rbl [] 17 (decide ((sv.length:Int)>100)) rfl (by grind))
 refine jI h ?_ ?_<;>intro uZ h
 ·cases h;exact jz
 refine jp (zr (jb h fun q3 wr h=>jL wr [0] [] (fun s=>[(5,kI s)]) (fun| (.inl v_)=> .x 0 ⟨[],[]⟩| (.inr v_)=> .r ⟨[(2,kI v_.1),(3,kI v_.2.1),(4,kI v_.2.2)],[]⟩) ?_ lzz ?_))
 ·clear h;intro i o h;unfold zbK at h;refine jp (jI h ?_ ?_)<;>intro va h
  ·refine zr (jp (jp (zr (jb h fun q ve h=>jL ve [0,5] [] (fun s=>[(6,kB s.1),(7,kI s.2)]) (fun o=> .X 2 [0,5] [] [(6,kB o)] []) ?_ lzz ?_))))
   ·clear h;intro s o h;obtain ⟨twice,k⟩:=s;replace h:zbL i sv twice k=some o:=h;unfold zbL at h;refine jp (jI h ?_ ?_)<;>intro vd h
    ·refine zr (jb h fun g u0 h=>jn (.N [0,5,7] [] [(6,kB g)] []) ?_ (zez ?_))
     ·rcases zjw u0 with ⟨vf,u0⟩| ⟨vf,u0⟩
      ·cases u0;exact jd [0,5,6,7] [] zcw (by exact (lw_e (dg 29 vf l0))) (zV lzz)
      refine jb u0 fun x vi u0=>jb u0 fun x2 vr u0=>?_;cases u0;exact jd [0,5,6,7] [] zcw (by exact (lw_e (dg 29 vf (lwn 2 (di [0] zgS.el vi (lwn 4 (di [0] zgS.el vr l0))))))) (zV lzz)
     refine zK ?_;cases h;exact jy
    cases h;exact zae rfl lzz
   refine zar _ rfl (jb h fun x3 vC h=>jb h fun rv u9 h=>jr (rx 2 [0] zgS.el vC rfl rfl (rl 2 [1] 11 call118 (zkR u9) rf)) (jI h ?_ ?_))<;>intro vk h
   ·cases h;exact jz'
   refine jp (jI h ?_ ?_)<;>intro vp h
   ·cases h;exact jz'
   refine jb h fun x4 vO h=>jr (rx 2 [0] zgS.el vO rfl rfl (rc 1 rfl (ldl zd [0] x4 1 zb x4.Fields) rf)) (jI h ?_ ?_)<;>intro vy h
   ·cases h;exact jz'
   refine jp (zr (jb h fun q2 vE h=>jL vE [0,5] [] (fun s=>[(8,kI s)]) (fun| (.inl v_)=> .X 4 [0,5] [] [] []| (.inr v_)=> .r ⟨[(2,kI i),(3,kI v_.1),(4,kI v_.2)],[]⟩) ?_ lzz ?_))
   ·clear h;intro k2 o h;unfold zbM at h;refine jb h fun x5 vS h=>jr (rx 3 [0] zgS.el vS rfl rfl (rc 1 rfl (ldl zd [0] x5 1 zb x5.Fields) rf)) (jI h ?_ ?_)<;>intro vA h
    ·refine zr (jb h fun kj vb h=>jr (rl 3 [0] 12 call119 (zqd vb) rf) (jp (jI h ?_ ?_)))<;>intro vB h
     ·cases h;exact jz'
     refine zK ?_;cases h;exact jy
    cases h;exact zae rfl lzz
   rcases q2 with u| u2
   ·refine zar _ rfl (zK ?_);cases h;exact jy
   cases h;exact zCE lzz
  cases h;exact zae rfl lzz
 rcases q3 with u3| u4
 ·refine zar _ rfl ?_;cases h;exact jz
 cases h;exact zgY lzz
theorem zkQ (h:zdx b vh=some r):kg 56 [.sl Rp.byte [0] b,kI vh] [.rc zp [] r.1,kI r.2]:=by
 refine fj ⟨[(4,.ptr 2 0),(5,kI r.2)],[⟨2,74,(zaT r.1)⟩]⟩ 108 func56 ⟨⟨_,_,rfl,rfl,rfl,rfl,zQp⟩,rfl,trivial⟩ fun Xt=>?_
 unfold zdx at h;refine jq [12] (jg [0,1,4] [12] [(26,kB ((decide (vh<0))|| (decide (vh>=(b.length:Int)))))] ?_ ?_)
 ·refine (rsl 3 [] 21 (decide (vh<0)) ?_ ?_)<;>intro uY
  · exact (rbl [] 26 true rfl (by grind))
  exact (rbl [] 26 (decide (vh>=(b.length:Int))) rfl (by grind))
 refine jI h ?_ ?_<;>intro uZ h
 ·refine jr (rc 0 rfl (zM (r:=zp) [] [] (⟨0,0,0,0,0⟩:zj) rfl zzJ rfl rfl) rf) ?_;cases h;exact zx (lks [12] [(12,2)] lzz)
 refine jb h fun rv u9 h=>jr (rl 2 [0] 11 call89 (zqC u9) rf) (jp (jI h ?_ ?_))<;>intro va h
 ·refine jr (rc 0 rfl (zM (r:=zp) [] [] (⟨0,0,0,0,0⟩:zj) rfl zzJ rfl rfl) rf) ?_;cases h;exact zx (lks [12] [(12,2)] lzz)
 refine jr (rc 6 rfl (zM (r:=zp) [kI rv.1,kI rv.2.1,kI vh,kI (i64.wrap (vh+rv.2.2.1))] [] (⟨rv.1,rv.2.1,vh,(i64.wrap (vh+rv.2.2.1)),0⟩:zj) rfl zzJ rfl rfl) (rfl' [13])) (jp (jp (jp (jb h fun p vD h=>jn (.N [0,4,7,10,11] [12,13] [(12,kI p)] []) ?_ ?_))))
 ·replace h:=vD;refine jI h ?_ ?_<;>intro vd h
  ·cases h;exact jy
  cases h;exact zV lzz
 refine zez (jp (jb h fun p2 vM h=>jn (match p2 with| (.inl v_)=> .N [0,4,7,10,11] [12,13] [(12,kI v_)] []| (.inr v_)=> .r ⟨[(4,.ptr 12 0),(5,kI v_)],[⟨12,74,[kI 0,kI 0,kI 0,kI 0,kI 0]⟩]⟩) ?_ ?_))
 ·replace h:=vM;refine jI h ?_ ?_<;>intro vf h
  ·refine jb h fun kj vb h=>jr (rl 3 [0] 12 call60 (zdf vb) rf) (jp (jI h ?_ ?_))<;>intro vk h
   ·refine jr (rc 0 rfl (zM (r:=zp) [] [] (⟨0,0,0,0,0⟩:zj) rfl zzJ rfl rfl) rf) ?_;cases h;exact zx lzz
   cases h;exact jy
  cases h;exact zV lzz
 rcases p2 with u| u4
 ·refine zez (jp (jb h fun p3 wo h=>jn (match p3 with| (.inl v_)=> .N [4,10] [12] [(11,kI v_.1),(12,kI v_.2.1)] [⟨13,74,[kI rv.1,kI rv.2.1,kI vh,kI v_.2.2,kI 0]⟩]| (.inr v_)=> .r ⟨[(4,.ptr 12 0),(5,kI v_)],[⟨12,74,[kI 0,kI 0,kI 0,kI 0,kI 0]⟩]⟩) ?_ ?_))
  ·replace h:=wo;refine jI h ?_ ?_<;>intro vp h
   ·refine jb h fun kr vm h=>jr (rl 3 [0] 12 call60 (zdf vm) rf) (jp (jI h ?_ ?_))<;>intro vy h
    ·refine jr (rc 0 rfl (zM (r:=zp) [] [] (⟨0,0,0,0,0⟩:zj) rfl zzJ rfl rfl) rf) ?_;cases h;exact zx lzz
    refine jp (jp (jp (jI h ?_ ?_)))<;>intro vA h
    ·refine jr (rc 0 rfl (zM (r:=zp) [] [] (⟨0,0,0,0,0⟩:zj) rfl zzJ rfl rfl) rf) ?_;cases h;exact zx lzz
    cases h;exact jy
   cases h;exact zV lzz
  rcases p3 with u2| u3
  ·refine zez (jp (jI h ?_ ?_))<;>intro vB h
   ·refine jr (rc 0 rfl (zM (r:=zp) [] [] (⟨0,0,0,0,0⟩:zj) rfl zzJ rfl rfl) rf) ?_;cases h;exact zx (lks [12] [(12,2)] lzz)
   refine jp (jr (lb 0 zp [] (⟨rv.1,rv.2.1,vh,u2.2.2,(i64.wrap (u2.2.2+u2.2.1))⟩:zj) rf) ?_);cases h;exact zx (lks [12] [(12,2)] lzz)
  cases h;exact zgY (lks [12] [(12,2)] lzz)
 cases h;exact zgY (lks [12] [(12,2)] lzz)
theorem zpZ (h:zfs b kK=some r):kg 85 [.sl Rp.byte [0] b,kI kK] [kI r.1,kI r.2]:=by
 refine fi 28 func85 fun Xt=>?_
 unfold zfs at h;refine jp (jp (zr (jb h fun q ve h=>jL ve [0,1] [] (fun s=>[(6,kI s.1),(7,kI s.2)]) (fun o=> .r ⟨[(4,kI o.1),(5,kI o.2)],[]⟩) ?_ lzz ?_)))
 ·clear h;intro s o h;obtain ⟨kp,count⟩:=s;replace h:zbI b kK kp count=some o:=h;unfold zbI at h;refine zr (jb h fun rv u9 h=>jr (rl 2 [0] 10 call120 (zqD u9) rf) (jg [0,1,6,7,8] [] [(20,kB ((rv==0)|| (decide ((i64.wrap (kp+rv))>kK))))] ?_ ?_))
  ·refine (rsl 3 [] 14 (rv==0) ?_ ?_)<;>intro uY
   · exact (rbl [] 20 true rfl (by grind))
   exact (rbl [] 20 (decide ((i64.wrap (kp+rv))>kK)) rfl (by grind))
  refine jI h ?_ ?_<;>intro uZ h
  ·cases h;exact jz'
  refine jp (jp (zK ?_));cases h;exact zV lzz
 cases h;exact zgY lzz
theorem zkS (h:zeJ k b=some r):kg 39 [kI k,.sl Rp.byte [0] b] [kU r.1,kI r.2]:=by
 refine fi 29 func39 fun Xt=>?_
 unfold zeJ at h;refine jp (jb h fun rv u9 h=>jr (rl 1 [1] 9 call38 (zbz u9) rf) (jI h ?_ ?_))<;>intro uY h
 ·cases h;exact jz
 refine jb h fun kj vb h=>jb h fun kr vm h=>jr (rl 1 [1] 9 call58 (zgb vb) (rl 1 [0] 9 call57 (zqE vm) rf)) (jI h ?_ ?_)<;>intro uZ h
 ·cases h;exact jz
 refine jb h fun kE vv h=>jr (rl 1 [0] 9 call59 (zqA vv) rf) (jb h fun rv5 vG h=>jr (rl 1 [1] 9 call58 (zgb vG) rf) (jI h ?_ ?_))<;>intro va h
 ·refine jb h fun rv6 vV h=>jr (rl 1 [0] 9 call60 (zdf vV) rf) (jb h fun rv7 vY h=>jr (rl 2 [1] 9 call61 (zhB vY) rf) ?_);cases h;exact zx lzz
 refine jb h fun rv8 vZ h=>jr (rl 2 [1] 9 call61 (zhB vZ) rf) ?_;cases h;exact zx lzz
theorem zlv (h:zfi vl k wv=some r):kg 88 [kI k,kU wv] [.own Rp.byte 5 2 [] r]:=by
 refine fi 18 func88 fun Xt=>?_
 unfold zfi at h;refine jp (jb h fun rv u9 h=>jr (rl 2 [1] 10 call61 (zhB u9) rf) (jp (jI h ?_ ?_)))<;>intro uY h
 ·refine jb h fun kj vb h=>jr (rl 1 [1] 10 call123 (zjr vb) rf) ?_;obtain rfl:=(sj h);exact zx (lks [] [(12,2)] lzz)
 refine jp (jI h ?_ ?_)<;>intro uZ h
 ·refine jb h fun kr vm h=>jr (rl 1 [1] 11 call123 (zjr vm) rf) ?_;obtain rfl:=(sj h);exact zx (lks [] [(13,2)] lzz)
 refine jb h fun kE vv h=>jr (rl 1 [1] 12 call122 (zio vv) rf) ?_;obtain rfl:=(sj h);exact zx (lks [] [(14,2)] lzz)
theorem zgx (h:zdh vl vq wire value=some r):kg 86 [kI vq,kI wire,.sl Rp.byte [0] value] [.own Rp.byte 5 2 [] r]:=by
 refine fi 22 func86 fun Xt=>?_
 unfold zdh at h;refine jp (jb h fun rv u9 h=>jr (rl 2 [1] 10 call121 (zsA u9) rf) (jp (jI h ?_ ?_)))<;>intro uY h
 ·refine jb h fun kj vb h=>jb h fun v vn h=>jr (rl 4 [1] 11 call122 (zio vb) (rc 0 rfl (lao 12 [] 5 13 [] [] zap.el vn (.inl zaI)) rf)) (jb h fun v2 vx h=>jr (rc 2 rfl (las 12 [] [0] [] zap.el vx (.inl zaI)) rf) ?_);obtain rfl:=(sj h);exact zx (lks [] [(12,2)] lzz)
 refine jb h fun v3 vu h=>jr (rc 2 rfl (las 12 [] [0] [] zap.el vu (.inl zaI)) rf) ?_;obtain rfl:=(sj h);exact zx (lks [] [(12,2)] lzz)
theorem zuO (h:zhU f=some r):kg 172 [.rc zb [0] f] [kB r]:=by
 refine fi 10 func172 fun Xt=>?_
 unfold zhU at h;refine jq [11] (jb h fun g u0 h=>jg [] [] [(2,kB g)] ?_ ?_)
 ·refine (rsI 3 5 u0 ?_ ?_)<;>intro uY u0
  ·refine jb u0 fun rv u9 u0=>?_;cases u0;exact (rl 2 [1] 10 call191 (zqS u9) rgg)
  cases u0;exact rgg
 obtain rfl:=(sj h);exact zx lzz
theorem zjG (h:zgk b vh=some r):kg 111 [.sl Rp.byte [0] b,kI vh] [.rc zp [] r.1,k8 r.2]:=by
 refine fj ⟨[(4,.ptr 2 0),(5,k8 r.2)],[⟨2,66,(zaT r.1)⟩]⟩ 62 func111 ⟨⟨_,_,rfl,rfl,rfl,rfl,zKv⟩,rfl,trivial⟩ fun Xt=>?_
 unfold zgk at h;refine jq [12] (jg [0,1,4] [12] [(19,kB ((decide (vh<0))|| (decide (vh>=(b.length:Int)))))] ?_ ?_)
 ·refine (rsl 3 [] 14 (decide (vh<0)) ?_ ?_)<;>intro uY
  · exact (rbl [] 19 true rfl (by grind))
  exact (rbl [] 19 (decide (vh>=(b.length:Int))) rfl (by grind))
 refine jI h ?_ ?_<;>intro uZ h
 ·refine jr (rc 0 rfl (zM (r:=zp) [] [] (⟨0,0,0,0,0⟩:zj) rfl zIP rfl rfl) rf) ?_;cases h;exact zx (lks [12] [(12,2)] lzz)
 refine jb h fun v2 vx h=>jb h fun rv u9 h=>jr (ra 2 [.sl Rp.byte [0] b,kI vh] rfl (zfO (some (kI vh)) none rfl zap.el (zbd _ _ _) ⟨rfl,rfl⟩ ⟨rfl,rfl⟩ vx) rfl (rl 0 [0] 11 call140 (zFD u9) (rfl' [13]))) (jp (jI h ?_ ?_))<;>intro va h
 ·refine jr (rc 0 rfl (zM (r:=zp) [] [] (⟨0,0,0,0,0⟩:zj) rfl zIP rfl rfl) rf) ?_;cases h;exact zx (lks [12] [(12,2)] lzz)
 refine jp (jb h fun v3 vu h=>jb h fun kj vb h=>jd [1,4,6,8,9,10,11] [12,13] zcw (by exact (lwn 4 (ly [.sl Rp.byte [0] b,kI (i64.wrap (vh+rv.2.1))] (zfO (some (kI (i64.wrap (vh+rv.2.1)))) none rfl zap.el (zbd _ _ _) ⟨rfl,rfl⟩ ⟨rfl,rfl⟩ vu) rfl (lx (lf1 141 (lc0 12 call141 (zrt vb))) l0)))) (jp (jI h ?_ ?_)))<;>intro vd h
 ·refine jr (rc 0 rfl (zM (r:=zp) [] [] (⟨0,0,0,0,0⟩:zj) rfl zIP rfl rfl) rf) ?_;cases h;exact zx (lks [12] [(12,2)] lzz)
 refine jr (rc 11 rfl (zM (r:=zp) [kI rv.1.Number,kI rv.1.Wire,kI vh,kI (i64.wrap ((i64.wrap (vh+rv.2.1))+kj.1)),kI (i64.wrap ((i64.wrap (vh+rv.2.1))+kj.2.1))] [] (⟨rv.1.Number,rv.1.Wire,vh,(i64.wrap ((i64.wrap (vh+rv.2.1))+kj.1)),(i64.wrap ((i64.wrap (vh+rv.2.1))+kj.2.1))⟩:zj) rfl zIP rfl rfl) rf) ?_;cases h;exact zx (lks [12] [(12,2)] lzz)
theorem zAF (h:zmN f wire=some r):kg 148 [.rc zb [0] f,kI wire] [kB r]:=by
 refine fi 16 func148 fun Xt=>?_
 unfold zmN at h;refine jq [11] (jb h fun g u0 h=>jg [] [] [(4,kB g)] ?_ ?_)
 ·refine (rsI 3 7 u0 ?_ ?_)<;>intro uY u0
  ·refine (rsI 4 11 u0 ?_ ?_)<;>intro uZ u0
   ·refine jb u0 fun rv u9 u0=>?_;cases u0;exact (rl 2 [1] 10 call191 (zqS u9) rgg)
   cases u0;exact rgg
  cases u0;exact rgg
 obtain rfl:=(sj h);exact zx lzz
theorem zmF (h:zhT k wv=some r):kg 142 [kI k,kU wv] [kI r]:=by
 refine fi 29 func142 fun Xt=>?_
 unfold zhT at h;refine jp (jb h fun rv u9 h=>jr (rl 1 [1] 9 call185 (zlr u9) rf) (jg [0,1,5] [] [(19,kB ((rv.2 !=0)|| (rv.1 !=0)))] ?_ ?_))
 ·refine (rsl 3 [] 16 (rv.2 !=0) ?_ ?_)<;>intro uY
  · exact (rbl [] 19 true rfl (by grind))
  exact (rbl [] 19 (rv.1 !=0) rfl (by grind))
 refine jI h ?_ ?_<;>intro uZ h
 ·cases h;exact jz
 refine jb h fun kj vb h=>jr (rl 2 [1] 9 call186 (znW vb) rf) (jb h fun kr vm h=>jr (rl 1 [1] 9 call187 (zwh vm) rf) ?_);obtain rfl:=(sj h);exact zx lzz
theorem zDB (h:zoV b=some r):kg 208 [.sl Rp.byte [0] b] [kI r]:=by
 refine fi 11 func208 fun Xt=>?_
 unfold zoV at h;refine jp (jb h fun rv u9 h=>jr (rl 1 [0] 9 call218 (zFO u9) rf) ?_);cases h;exact jz
theorem zzA (h:zlc k b=some r):kg 163 [kI k,.sl Rp.byte [0] b] [kU r.1,k8 r.2]:=by
 refine fi 22 func163 fun Xt=>?_
 unfold zlc at h;refine jp (jb h fun rv u9 h=>jr (rl 2 [0] 9 call201 (zwS u9) rf) (jp (jI h ?_ ?_)))<;>intro uY h
 ·cases h;exact jz
 refine jb h fun kj vb h=>jr (rl 2 [1] 9 call186 (znW vb) rf) ?_;cases h;exact zx lzz
theorem zsY (h:zkA k wv=some r):kg 175 [kI k,kU wv] [.own Rp.byte 5 2 [] r.1,k8 r.2]:=by
 refine fi 32 func175 fun Xt=>?_
 unfold zkA at h;refine jp (jb h fun rv u9 h=>jr (rl 1 [1] 10 call185 (zlr u9) rf) (jp (jI h ?_ ?_)))<;>intro uY h
 ·refine jp ?_;cases h;exact zx lw
 refine jb h fun kj vb h=>jr (rl 2 [1] 10 call186 (znW vb) rf) (jp (jI h ?_ ?_))<;>intro uZ h
 ·refine jb h fun kr vm h=>jr (rl 1 [1] 10 call178 (FnOk.le (ins':=[kN,kU kj.1]) (zoi vm) ⟨ziZ _ _,kh _,trivial⟩) rf) ?_;cases h;exact zx (lks [] [(12,2)] lzz)
 refine jb h fun kE vv h=>jr (rl 2 [1] 11 call206 (zxN vv) rf) ?_;cases h;exact zx (lks [] [(13,2)] lzz)
theorem zzm (h:zkZ wire value=some r):kg 177 [kI wire,.sl Rp.byte [0] value] [kB r]:=by
 refine fi 25 func177 fun Xt=>?_
 unfold zkZ at h;refine jp (jp (jI h ?_ ?_))<;>intro uY h
 ·refine jp ?_;obtain rfl:=(sj h);exact zx lzz
 refine jb h fun rv u9 h=>jr (rl 2 [0] 9 call141 (zrt u9) rf) (jg [] [] [(4,kB ((rv.2.2==0)&&(rv.2.1==(value.length:Int))))] ?_ ?_)
 ·refine (rsl 3 [] 19 (rv.2.2==0) ?_ ?_)<;>intro uZ
  · exact (rbl [] 4 (rv.2.1==(value.length:Int)) rfl (by grind))
  exact (rbl [] 4 false rfl (by grind))
 cases h;exact zx lzz
theorem zqe (h:zfw sv=some r):kg 50 [.sl zd [0] sv] [kB r]:=by
 refine fi 14 func50 fun Xt=>?_
 unfold zfw at h;refine jp (jb h fun rv u9 h=>jr (rl 1 [0] 9 call83 (zqc u9) rf) ?_);cases h;exact jz
theorem zkU (h:zeL m b vh=some r):kg 51 [.rc zd [0] m,.sl Rp.byte [0] b,kI vh] [.rc zao [] r.1,kI r.2]:=by
 refine fj ⟨[(6,.ptr 2 0),(7,kI r.2)],[⟨2,86,(zxW r.1)⟩]⟩ 66 func51 ⟨⟨_,_,rfl,rfl,rfl,rfl,zQr⟩,rfl,trivial⟩ fun Xt=>?_
 unfold zeL at h;refine jr (ra 0 [.rc zd [0] m] rfl (zjy 13 (zU [0] m) [0] rfl rfl rfl rfl rfl) rfl (rfl' [14])) (jb h fun rv u9 h=>jr (rl 2 [0] 13 call56 (zkQ u9) (rfl' [15])) (jp (jI h ?_ ?_)))<;>intro uY h
 ·refine jr (rc 0 rfl (zM (r:=zao) [] [] (⟨(⟨0,0,0,0,0⟩:zj),0,false⟩:zD) rfl zFB rfl rfl) rf) ?_;cases h;exact zx (lks [14] [(14,2)] lzz)
 refine jb h fun kj vb h=>jr (rl 3 [0] 14 call55 (zjX vb) rf) (jp (jI h ?_ ?_))<;>intro uZ h
 ·refine jr (lb 0 zp [] rv.1 (rc 0 rfl (zM (r:=zao) [.rc zp [] rv.1,kI (-1)] [] (⟨rv.1,(-1),false⟩:zD) rfl zFB rfl rfl) rf)) ?_;cases h;exact zx (lks [14] [(14,2)] lzz)
 refine jb h fun x vi h=>jr (rx 3 [0] zkc.el vi rfl rfl (rc 0 rfl (lde zb [0] x zoj) (rfl' [16]))) (jb h fun g u0 h=>jg [6,8,10,11] [14,15,16] [(46,kB g)] ?_ ?_)
 ·refine (rsI 3 37 u0 ?_ ?_)<;>intro va u0
  ·refine jb u0 fun kr vm u0=>(rl 2 [1] 15 call38 (zbz vm) (rsI 2 42 u0 ?_ ?_))<;>intro vd u0
   ·cases u0;exact (rel [] lzz)
   cases u0;exact (rel [] lzz)
  cases u0;exact (rel [] lzz)
 refine jI h ?_ ?_<;>intro vf h
 ·refine jr (lb 0 zp [] rv.1 (rc 1 rfl (zM (r:=zao) [.rc zp [] rv.1,kI kj,kB true] [] (⟨rv.1,kj,true⟩:zD) rfl zFB rfl rfl) rf)) ?_;cases h;exact zx (lks [14] [(14,2)] lzz)
 refine jb h fun g2 vg h=>jn (.N [6,8,10] [14,15] [(61,kB g2)] []) ?_ (zez ?_)
 ·refine jb vg fun kE vv vg=>?_;rcases zjw vg with ⟨vk,vg⟩| ⟨vk,vg⟩
  ·cases vg;exact jd [6,8,10,61] [14,15] zcw (by exact (lwn 2 (lx (lf1 84 (lcd [kI x.Kind] 15 call84 (zhC vv))) (lw_e (dg 53 vk l0))))) (zV lzz)
  refine jb vg fun rv5 vG vg=>?_;cases vg;exact jd [6,8,10,61] [14,15] zcw (by exact (lwn 2 (lx (lf1 84 (lcd [kI x.Kind] 15 call84 (zhC vv))) (lw_e (dg 53 vk (lwn 2 (lx (lf1 58 (lcd [kI x.Kind] 15 call58 (zgb vG))) l0))))))) (zV lzz)
 refine jI h ?_ ?_<;>intro vp h
 ·refine jr (rc 0 rfl (zM (r:=zao) [] [] (⟨(⟨0,0,0,0,0⟩:zj),0,false⟩:zD) rfl zFB rfl rfl) rf) ?_;cases h;exact zx (lks [14] [(14,2)] lzz)
 refine jr (lb 0 zp [] rv.1 (rc 1 rfl (zM (r:=zao) [.rc zp [] rv.1,kI kj] [] (⟨rv.1,kj,false⟩:zD) rfl zFB rfl rfl) rf)) ?_;cases h;exact zx (lks [14] [(14,2)] lzz)
theorem zqa (h:zcV b=some r):kg 53 [.sl Rp.byte [0] b] [kB r]:=by
 refine fi 16 func53 fun Xt=>?_
 unfold zcV at h;refine jp (jb h fun rv u9 h=>jr (rl 3 [0] 9 call85 (zpZ u9) rf) ?_);cases h;exact jz
theorem zqf (h:zfx k b=some r):kg 37 [kI k,.sl Rp.byte [0] b] [.own ke 90 2 [] r.1,kI r.2]:=by
 refine fi 50 func37 fun Xt=>?_
 unfold zfx at h;refine jp (jb h fun rv u9 h=>jr (rl 2 [0] 13 call52 (zkT u9) rf) (jp (jp (zr (jb h fun q ve h=>jL ve [0,1,6,7] [] (fun s=>[(8,.own ke 90 18 [] s.1),(9,kI s.2)]) (fun o=> .X 0 [7] [] [(8,.own ke 90 18 [] o)] []) ?_ lw ?_)))))
 ·clear h;intro s o h;obtain ⟨out,i⟩:=s;replace h:zbP b k rv out i=some o:=h;unfold zbP at h;refine jp (jI h ?_ ?_)<;>intro uY h
  ·refine zr (jp (jp (jb h fun p vD h=>jn (.N [0,1,6,7,8,9] [] [(10,kI p)] []) ?_ ?_)))
   ·replace h:=vD;refine jI h ?_ ?_<;>intro uZ h
    ·refine jb h fun x vi h=>jr (ra 3 [.own kd 3 15 [] rv.1,kI (i64.wrap (i - 1))] rfl (zhI rfl zkd.el (zbv _ _ _ _ _) vi) rfl rf) ?_;cases h;exact zV lzz
    cases h;exact zV lzz
   refine zez (jb h fun x2 vr h=>jb h fun v vn h=>jb h fun kj vb h=>jr (ra 5 [.own kd 3 15 [] rv.1,kI i] rfl (zhI rfl zkd.el (zbv _ _ _ _ _) vr) rfl (ra 1 [.sl Rp.byte [0] b,kI p,kI x2] rfl (zfO (some (kI p)) (some (kI x2)) rfl zap.el (zbd _ _ _) ⟨rfl,rfl⟩ ⟨rfl,rfl⟩ vn) rfl (rl 0 [0] 17 call39 (zkS vb) rf))) (jb h fun v2 vx h=>jr (rc 2 rfl (zfe [kU kj.1] 19 [] ([kj.1]:(List Int)) rfl ztb rfl rfl rfl rfl) (rc 0 rfl (lao 18 [] 90 19 [] [] ztb.el vx (.inl (zjc _))) rf)) (zK ?_)));cases h;exact jy
  cases h;exact zae rfl lzz
 refine zar _ rfl (jp ?_);cases h;exact zx (lks [] [(18,2)] lzz)
theorem zqF (h:zgc vl k l=some r):kg 87 [kI k,.sl ke [0] l] [.own Rp.byte 5 2 [] r]:=by
 refine fi 22 func87 fun Xt=>?_
 unfold zgc at h;refine jp (jp (jp (zr (jb h fun q ve h=>jL ve [0,1] [] (fun s=>[(5,.own Rp.byte 5 16 [] s.1),(6,kI s.2)]) (fun o=> .x 0 ⟨[(5,.own Rp.byte 5 16 [] o)],[]⟩) ?_ lw ?_))))
 ·clear h;intro s o h;obtain ⟨out,i⟩:=s;replace h:zce vl k l out i=some o:=h;unfold zce at h;refine jp (jI h ?_ ?_)<;>intro uY h
  ·refine zr (jb h fun x vi h=>jb h fun rv u9 h=>jb h fun v vn h=>jr (rx 4 [0] ztb.el vi rfl rfl (rl 1 [1] 15 call88 (zlv u9) (rc 0 rfl (lao 16 [] 5 17 [] [] zap.el vn (.inl zaI)) rf))) (zK ?_));cases h;exact jy
  cases h;exact zae rfl lzz
 refine zar _ rfl (jp ?_);obtain rfl:=(sj h);exact zx (lks [] [(16,2)] lzz)
theorem zqb (h:zft b=some r):kg 33 [.sl Rp.byte [0] b] [.own zp 74 2 [] r.1,kI r.2.1,kI r.2.2]:=by
 refine fi 30 func33 fun Xt=>?_
 unfold zft at h;refine jp (jp (jp (zr (jb h fun q ve h=>jL ve [0] [] (fun s=>[(5,.own zp 74 18 [] s.1),(6,kI s.2)]) (fun| (.inl v_)=> .x 0 ⟨[(5,.own zp 74 18 [] v_)],[]⟩| (.inr v_)=> .r ⟨[(2,kN),(3,kI v_.1),(4,kI v_.2)],[]⟩) ?_ lw ?_))))
 ·clear h;intro s o h;obtain ⟨out,kp⟩:=s;replace h:zbh b out kp=some o:=h;unfold zbh at h;refine jp (jI h ?_ ?_)<;>intro uY h
  ·refine zr (jb h fun rv u9 h=>jr (rl 2 [0] 17 call56 (zkQ u9) (rfl' [19])) (jp (jI h ?_ ?_)))<;>intro uZ h
   ·cases h;exact jz'
   refine jb h fun v3 vu h=>jr (lb 1 zp [] rv.1 (rc 0 rfl (lbs1 20 [] rv.1 zGb) (rc 0 rfl (lao 18 [] 74 20 [] [] zGb.el vu (.inl zlp)) rf))) (jp (zK ?_));cases h;exact zV lzz
  cases h;exact zae rfl lzz
 rcases q with u| u2
 ·refine zar _ rfl (jp ?_);cases h;exact zx (lks [] [(18,2)] lzz)
 cases h;exact zgY lw
end Go.Proofs.YtaglemhabeipfaaGreat
