/-
  The Go functions do what the plain functions say. No condition.
-/
import Derived.Test.YtkgohoggipdokaaGreatx3G2
set_option autoImplicit true
set_option relaxedAutoImplicit true
namespace Go.Proofs.YtkgohoggipdokaaGreat
open Go.IntKind (i64)
open Tryz
open Go Go.RowKit
set_option linter.unusedVariables false
set_option maxRecDepth 100000
set_option maxHeartbeats 3200000
theorem zof (h:zeI c m=some r):zjt prog 119 [.ag [kI c.size,.sl wj [0] c.kinds,.om zU Rp.bool 2 [0] c.names,.om zV Rp.bool 3 [0] c.numbers],.rc zj [0] m] [kI r.1] [.ag [.any,.any,.om zU Rp.bool 2 [0] r.2.1,.om zV Rp.bool 3 [0] r.2.2],.any]:=by
 refine zlK (E:=⟨[(0,.ag [.any,.any,.om zU Rp.bool 2 [0] r.2.1,.om zV Rp.bool 3 [0] r.2.2]),(4,kI r.1)],[]⟩) 27 [0] func119 rfl rfl rfl ⟨rfl,trivial⟩ ⟨.inr ⟨rfl,rfl⟩,.inl rfl,trivial⟩ rfl (fun Xt old=>?_);refine zcm ?_;unfold zeI at h;refine jr (ral 1 [11] [.rc zj [0] m] rfl (zij 12 (zag [0] m) [0] rfl rfl rfl rfl rfl) rfl rf) (jr (rc 2 rfl (zaw (r:=zU) [kI (-1),kS m.Name] [] (⟨(-1),m.Name⟩:zw) rfl zKc rfl rfl) (rfl' [13])) (zp (jb h fun rv uF h=>jr (rl 2 [1] 12 call156 (zog uF) rf) (jI h ?_ ?_))))<;>intro uE h
 ·refine jp ?_;cases h;exact zha lw
 refine jr (lb 2 zU [] (⟨(-1),m.Name⟩:zw) (ra 0 [.om zU Rp.bool 2 [0] c.names,.rc zU [] (⟨(-1),m.Name⟩:zw)] rfl (zxp (rk:=zU) (rv:=Rp.bool) (m:=c.names) (k:=(⟨(-1),m.Name⟩:zw)) (kB ((mget c.names (⟨(-1),m.Name⟩:zw)).getD false)) rfl zwe (zdf rfl) (zAL rfl rfl rfl)) rfl rf)) (jI h ?_ ?_)<;>intro uH h
 ·refine jp ?_;cases h;exact zha lw
 refine jp (jI h ?_ ?_)<;>intro uJ h
 ·refine jp ?_;cases h;exact zha lw
 refine zan (jr (lb 2 zU [] (⟨(-1),m.Name⟩:zw) (rms (C1:=[]) 0 [] 2 [0] c.names (⟨(-1),m.Name⟩:zw) true [0] zwe (zdf rfl) (zdE rfl rfl) rf)) (jp ?_));cases h;exact zha lw
theorem zpV (h:ziZ k=some r):wo 190 [kI k] [kB r]:=by
 refine fi 16 func190 fun Xt=>?_
 unfold ziZ at h;refine jp (jb h fun rv uF h=>jr (rl 1 [1] 9 call214 (zsT uF) rf) (jg [] [] [(2,kB ((rv.2==0)&&(rv.1 !=2)))] ?_ ?_))
 ·refine (rsl 3 [] 12 (rv.2==0) ?_ ?_)<;>intro uE
  · exact (rbl [] 2 (rv.1 !=2) rfl (by grind))
  exact (rbl [] 2 false rfl (by grind))
 cases h;exact zB lzz
theorem zpb (h:zkv uM x=some r):wo 58 [.rc zg [0] x] [kB r]:=by
 refine fi 6 func58 fun Xt=>?_
 unfold zkv at h;refine jr (rc 0 rfl (lbx 11 [0] (zah [0] x)) rf) (jb h fun rv uF h=>jr (rc 1 rfl (lw0 10 call26 (znu uF) (.l (zL [0] x))) rf) ?_);cases h;exact zB lzz
theorem ziM (h:zcM m v=some r):wo 107 [.rc zj [0] m,.fv 108 [.ep wj [0] v 0]] [kI r.1,kB r.2]:=by
 refine fi 15 func107 fun Xt=>?_
 unfold zcM at h;refine jr (ra 0 [.rc zj [0] m] rfl (zij 11 (zag [0] m) [0] rfl rfl rfl rfl rfl) rfl rf) (jb h fun rv uF h=>jr (rl 3 [0] 10 call143 (zdY uF) rf) ?_);cases h;exact jz
theorem zDG (h:zqD b=some r):wo 210 [.sl Rp.byte [0] b] [kI r.1,kI r.2]:=by
 refine fi 20 func210 fun Xt=>?_
 unfold zqD at h;refine jp (jb h fun rv uF h=>jr (rl 1 [0] 9 call226 (zvs uF) rf) (zp (jb h fun q uL h=>jL uL [0] [] (fun s=>[(2,kI s.1),(3,kI s.2.1),(4,kI s.2.2)]) (fun o=> .x 0 ⟨[(2,kI o.1),(3,kI o.2)],[]⟩) ?_ lzz ?_)))
 ·clear h;intro s o h;obtain ⟨atv,points,size⟩:=s;replace h:zgf b atv points size=some o:=h;unfold zgf at h;refine jp (jI h ?_ ?_)<;>intro uE h
  ·refine zp (jp (jp (zan (jb h fun v uS h=>jb h fun wu uK h=>jr (ra 2 [.sl Rp.byte [0] b,kI (i64.wrap (atv+size))] rfl (ziK (some (kI (i64.wrap (atv+size)))) none rfl zej.el (zcZ _ _ _) ⟨rfl,rfl⟩ ⟨rfl,rfl⟩ uS) rfl (rl 0 [0] 10 call226 (zvs uK) rf)) ?_))));cases h;exact zbj lzz
  cases h;exact zaC rfl lzz
 refine zaX _ rfl ?_;cases h;exact jz
theorem zkC (h:zhF k wv=some r):wo 146 [kI k,kU wv] [kU r.1,k8 r.2]:=by
 refine fi 34 func146 fun Xt=>?_
 unfold zhF at h;refine jp (jp (zp (jp (jb h fun p vc h=>jn (.N [1,6] [] [(7,kB p)] []) ?_ ?_))))
 ·replace h:=vc;refine jI h ?_ ?_<;>intro uE h
  ·cases h;exact zbj lzz
  cases h;exact jy
 refine zll (jI h ?_ ?_)<;>intro uH h
 ·refine jb h fun rv uF h=>jb h fun wu uK h=>jr (rl 1 [1] 9 call177 (zwD uF) (rl 0 [1] 9 call176 (zwE uK) rf)) ?_;cases h;exact zB lzz
 refine jp (jb h fun p2 vk h=>jn (.N [1,6] [] [(13,kB p2)] []) ?_ ?_)
 ·replace h:=vk;refine jI h ?_ ?_<;>intro uJ h
  ·cases h;exact zbj lzz
  refine jp (jI h ?_ ?_)<;>intro uO h
  ·cases h;exact zbj lzz
  refine jp (jI h ?_ ?_)<;>intro uW h
  ·cases h;exact zbj lzz
  refine jp (jI h ?_ ?_)<;>intro u0 h
  ·cases h;exact zbj lzz
  cases h;exact jy
 refine zll (jI h ?_ ?_)<;>intro vb h
 ·refine jb h fun wy uP h=>jr (rl 1 [1] 9 call178 (zrB uP) rf) ?_;cases h;exact zB lzz
 refine jp (jI h ?_ ?_)<;>intro vg h
 ·refine jb h fun wM u9 h=>jr (rl 1 [1] 9 call179 (zyM u9) rf) ?_;cases h;exact zB lzz
 refine jp (jb h fun p3 wb h=>jn (.n ⟨[(1,kU wv),(26,kB p3)],[]⟩) ?_ ?_)
 ·replace h:=wb;refine jI h ?_ ?_<;>intro vh h
  ·cases h;exact zbj lzz
  refine jp (jI h ?_ ?_)<;>intro vl h
  ·cases h;exact zbj lzz
  refine jp (jI h ?_ ?_)<;>intro vx h
  ·cases h;exact zbj lzz
  refine jp (jI h ?_ ?_)<;>intro vz h
  ·cases h;exact zbj lzz
  refine jp (jI h ?_ ?_)<;>intro vA h
  ·cases h;exact zbj lzz
  cases h;exact jy
 refine zll (jI h ?_ ?_)<;>intro vB h
 ·cases h;exact jz
 refine zan ?_;cases h;exact jz
theorem zDw (h:zqw b=some r):wo 193 [.sl Rp.byte [0] b] [.rc zcD [] r.1,kI r.2.1,k8 r.2.2]:=by
 refine fj ⟨[(2,.ptr 2 0),(3,kI r.2.1),(4,k8 r.2.2)],[⟨2,224,[kI r.1.Number,kI r.1.Wire]⟩]⟩ 35 func193 ⟨⟨_,_,rfl,rfl,rfl,rfl,zMx⟩,rfl,rfl,trivial⟩ fun Xt=>?_
 unfold zqw at h;refine jq [12] (jb h fun rv uF h=>jr (rl 1 [0] 11 call213 (zjL uF) rf) (jp (jI h ?_ ?_)))<;>intro uE h
 ·refine jr (rc 0 rfl (zaw (r:=zcD) [] [] (⟨0,0⟩:zaA) rfl zBz rfl rfl) rf) ?_;cases h;exact zB (lks [12] [(12,2)] lzz)
 refine jr (ra 1 [kU rv.1,kU 3] rfl (zjA rfl rfl) rfl rf) (jr (rc 5 rfl (zaw (r:=zcD) [kI (i64.wrap (if (536870912:Int)<(shrI .u64 rv.1 3) then 536870912 else (shrI .u64 rv.1 3))),kI (i64.wrap (andI .u64 rv.1 7))] [] (⟨(i64.wrap (if (536870912:Int)<(shrI .u64 rv.1 3) then 536870912 else (shrI .u64 rv.1 3))),(i64.wrap (andI .u64 rv.1 7))⟩:zaA) rfl zBz rfl rfl) (rfl' [13])) (jb h fun wu uK h=>jr (lb 0 zcD [] (⟨(i64.wrap (if (536870912:Int)<(shrI .u64 rv.1 3) then 536870912 else (shrI .u64 rv.1 3))),(i64.wrap (andI .u64 rv.1 7))⟩:zaA) (rl 0 [1] 12 call183 (ztw uK) rf)) (jI h ?_ ?_)))<;>intro uH h
 ·refine jr (rc 0 rfl (zaw (r:=zcD) [] [] (⟨0,0⟩:zaA) rfl zBz rfl rfl) rf) ?_;cases h;exact zB (lks [12] [(12,2)] lzz)
 refine jr (lb 0 zcD [] (⟨(i64.wrap (if (536870912:Int)<(shrI .u64 rv.1 3) then 536870912 else (shrI .u64 rv.1 3))),(i64.wrap (andI .u64 rv.1 7))⟩:zaA) rf) ?_;cases h;exact zB (lks [12] [(12,2)] lzz)
theorem zqk (h:zjd wire b=some r):wo 185 [kI wire,.sl Rp.byte [0] b] [kI r.1,kI r.2.1,k8 r.2.2]:=by
 refine fi 45 func185 fun Xt=>?_
 unfold zjd at h;refine jp (jp (jp (zp (jp (jI h ?_ ?_)))))<;>intro uE h
 ·refine jb h fun rv uF h=>jr (rl 1 [0] 9 call212 (zqF uF) rf) ?_;cases h;exact jz
 refine jp (jb h fun p vc h=>jn (.N [1] [] [(4,kI p.1),(6,k8 p.2.1),(7,kU p.2.2)] []) ?_ ?_)
 ·replace h:=vc;refine jI h ?_ ?_<;>intro uH h
  ·cases h;exact jy
  refine jp (jI h ?_ ?_)<;>intro uJ h
  ·cases h;exact jy
  refine jp (jI h ?_ ?_)<;>intro uO h
  ·refine jb h fun wu uK h=>jr (rl 1 [0] 9 call213 (zjL uK) rf) ?_;cases h;exact zbj lzz
  cases h;exact zbj lzz
 refine zll (zan (jp (jI h ?_ ?_)))<;>intro uW h
 ·cases h;exact jz
 refine jp (jI h ?_ ?_)<;>intro u0 h
 ·cases h;exact jz
 cases h;exact jz
theorem zFf (h:zoZ b t=some r):wo 150 [.sl Rp.byte [0] b,.rc zcD [0] t] [.own Rp.byte 5 2 [] r.1,k8 r.2]:=by
 refine fi 13 func150 fun Xt=>?_
 unfold zoZ at h;refine jq [13] (jb h fun rv uF h=>jr (lb 0 zcD [] t (rl 0 [1] 12 call183 (ztw uF) rf)) (jI h ?_ ?_))<;>intro uE h
 ·refine jp ?_;cases h;exact zB lw
 refine jb h fun wu uK h=>jb h fun wy uP h=>jr (lb 1 zcD [] t (rl 0 [1] 12 call184 (zDx uK) (rl 0 [0] 12 call152 (znx uP) rf))) ?_;cases h;exact zB (lks [] [(14,2)] lzz)
theorem zpq (h:zgM wv=some r):wo 32 [.qp zir [0] wv] [.own Rp.byte 5 2 [] r]:=by
 refine fi 8 func32 fun Xt=>?_
 unfold zgM at h;refine jp (jb h fun x uN h=>jb h fun rv uF h=>jr (ra 1 [.qp zir [0] wv] rfl (zLg (x0:=x) rfl uN) rfl (rc 1 rfl (ldl zir [0] x 0 (Rp.list Rp.byte) x.pieces) (rl 0 [0] 10 call66 (zcp uF) rf))) ?_);obtain rfl:=(sj h);exact zB (lks [] [(12,2)] lzz)
theorem zyW (h:zmH m uZ=some r):wo 194 [.rc zj [0] m,kI uZ] [kI r]:=by
 refine fi 9 func194 fun Xt=>?_
 unfold zmH at h;refine jr (ra 0 [.rc zj [0] m] rfl (zij 11 (zag [0] m) [0] rfl rfl rfl rfl rfl) rfl (rfl' [921600])) (jb h fun rv uF h=>jr (ra 2 [.ptr 921600 0] rfl (zBe (g:=216) [.tmp 3] [⟨921600,3,[kI uZ]⟩] [.ep wj [921600] uZ 0] rfl ⟨⟨rfl,rfl,rfl⟩,trivial⟩ rfl) rfl (rl 0 [0,921600] 10 call143 (zeJ uF) rf)) ?_);obtain rfl:=(sj h);exact zB lzz
theorem zBK (h:zor k wire=some r):wo 196 [kI k,kI wire] [kB r]:=by
 refine fi 19 func196 fun Xt=>?_
 unfold zor at h;refine jp (jb h fun rv uF h=>jr (rl 1 [1] 9 call214 (zsT uF) rf) (jg [] [] [(4,kB ((rv.2==0)&&(rv.1==wire)))] ?_ ?_))
 ·refine (rsl 3 [] 14 (rv.2==0) ?_ ?_)<;>intro uE
  · exact (rbl [] 4 (rv.1==wire) rfl (by grind))
  exact (rbl [] 4 false rfl (by grind))
 cases h;exact zB lzz
theorem zBv {wide:Int} (h:zoe wide b=some r):wo 224 [kI wide,.sl Rp.byte [0] b] [kI r.1,k8 r.2]:=by
 refine fi 19 func224 fun Xt=>?_
 unfold zoe at h;refine jp (zp (jp (jI h ?_ ?_)))<;>intro uE h
 ·refine jb h fun rv uF h=>jr (rl 1 [0] 9 call212 (zqF uF) rf) ?_;cases h;exact zB lzz
 refine jp (jI h ?_ ?_)<;>intro uH h
 ·cases h;exact jz
 refine zan ?_;cases h;exact jz
theorem zvJ (h:zjE k b=some r):wo 225 [kI k,.sl Rp.byte [0] b] [kU r.1,k8 r.2]:=by
 refine fi 31 func225 fun Xt=>?_
 unfold zjE at h;refine jp (jb h fun rv uF h=>jr (rl 1 [1] 9 call180 (zln uF) rf) (zp (jp (jI h ?_ ?_))))<;>intro uE h
 ·cases h;exact jz
 refine jp (jI h ?_ ?_)<;>intro uH h
 ·refine jb h fun wu uK h=>jr (rl 1 [0] 9 call228 (zvK uK) rf) ?_;cases h;exact zB lzz
 refine jp (jI h ?_ ?_)<;>intro uJ h
 ·cases h;exact jz
 refine zan (jb h fun wy uP h=>jr (rl 1 [0] 9 call229 (zAB uP) rf) ?_);cases h;exact zB lzz
theorem zts (h:zhK f=some r):wo 159 [.rc zf [0] f] [kB r]:=by
 refine fi 10 func159 fun Xt=>?_
 unfold zhK at h;refine jq [11] (jb h fun g uG h=>jg [] [] [(2,kB g)] ?_ ?_)
 ·refine (rsI 3 5 uG ?_ ?_)<;>intro uE uG
  ·refine jb uG fun rv uF uG=>?_;cases uG;exact (rl 2 [1] 10 call190 (zpV uF) rgg)
  cases uG;exact rgg
 obtain rfl:=(sj h);exact zB lzz
theorem zgT (h:zdn m uZ=some r):wo 64 [.rc zj [0] m,kI uZ] [kI r.1,kB r.2]:=by
 refine fi 11 func64 fun Xt=>?_
 unfold zdn at h;refine jr (ra 0 [.rc zj [0] m] rfl (zij 11 (zag [0] m) [0] rfl rfl rfl rfl rfl) rfl (rfl' [910800])) (jb h fun rv uF h=>jr (ra 1 [.ptr 910800 0] rfl (zBe (g:=108) [.tmp 3] [⟨910800,3,[kI uZ]⟩] [.ep wj [910800] uZ 0] rfl ⟨⟨rfl,rfl,rfl⟩,trivial⟩ rfl) rfl (rl 0 [0,910800] 10 call107 (ziM uF) rf)) ?_);cases h;exact zB lzz
theorem zBI (h:zon b=some r):wo 175 [.sl Rp.byte [0] b] [kI r]:=by
 refine fi 11 func175 fun Xt=>?_
 unfold zon at h;refine jp (jb h fun rv uF h=>jr (rl 1 [0] 9 call210 (zDG uF) rf) ?_);cases h;exact jz
theorem zqy (h:zgd k l=some r):wo 113 [kI k,.sl wk [0] l] [kB r]:=by
 refine fi 29 func113 fun Xt=>?_
 unfold zgd at h;refine jp (jp (zp (jb h fun q uL h=>jL uL [0,9,10] [] (fun s=>[(11,kI s)]) (fun| (.inl v_)=> .x 0 ⟨[],[]⟩| (.inr v_)=> .r ⟨[(4,kB false)],[]⟩) ?_ lzz ?_)))
 ·clear h;intro v o h;unfold zbx at h;refine jp (jI h ?_ ?_)<;>intro uE h
  ·refine zp (jb h fun x uN h=>jr (rx 0 [0] zng.el uN rfl rfl rf) (jb h fun rv uF h=>jr (rl 2 [1] 10 call146 (zkC uF) rf) (jg [0,9,10,11] [] [(27,kB ((rv.2 !=0)|| (rv.1 !=x)))] ?_ ?_)))
   ·refine (rsl 3 [] 23 (rv.2 !=0) ?_ ?_)<;>intro uH
    · exact (rbl [] 27 true rfl (by grind))
    exact (rbl [] 27 (rv.1 !=x) rfl (by grind))
   refine jI h ?_ ?_<;>intro uJ h
   ·cases h;exact jz'
   refine zan ?_;cases h;exact jy
  cases h;exact zaC rfl lzz
 rcases q with u| u2
 ·refine zaX _ rfl (jp ?_);obtain rfl:=(sj h);exact zB lzz
 obtain rfl:=(sj h);exact zgh lzz
theorem zmu (h:zhJ b uR=some r):wo 164 [.sl Rp.byte [0] b,kI uR] [.rc zbc [] r.1,k8 r.2]:=by
 refine fj ⟨[(4,.ptr 2 0),(5,k8 r.2)],[⟨2,152,(zmN r.1)⟩]⟩ 62 func164 ⟨⟨_,_,rfl,rfl,rfl,rfl,zMw⟩,rfl,trivial⟩ fun Xt=>?_
 unfold zhJ at h;refine jq [12] (jg [0,1,4] [12] [(19,kB ((decide (uR<0))|| (decide (uR>=(b.length:Int)))))] ?_ ?_)
 ·refine (rsl 3 [] 14 (decide (uR<0)) ?_ ?_)<;>intro uE
  · exact (rbl [] 19 true rfl (by grind))
  exact (rbl [] 19 (decide (uR>=(b.length:Int))) rfl (by grind))
 refine jI h ?_ ?_<;>intro uH h
 ·refine jr (rc 0 rfl (zaw (r:=zbc) [] [] (⟨0,0,0,0,0⟩:zu) rfl zBy rfl rfl) rf) ?_;cases h;exact zB (lks [12] [(12,2)] lzz)
 refine jb h fun v2 uY h=>jb h fun rv uF h=>jr (ra 2 [.sl Rp.byte [0] b,kI uR] rfl (ziK (some (kI uR)) none rfl zej.el (zcZ _ _ _) ⟨rfl,rfl⟩ ⟨rfl,rfl⟩ uY) rfl (rl 0 [0] 11 call193 (zDw uF) (rfl' [13]))) (jp (jI h ?_ ?_))<;>intro uJ h
 ·refine jr (rc 0 rfl (zaw (r:=zbc) [] [] (⟨0,0,0,0,0⟩:zu) rfl zBy rfl rfl) rf) ?_;cases h;exact zB (lks [12] [(12,2)] lzz)
 refine jp (jb h fun v3 uU h=>jb h fun wu uK h=>jd [1,4,6,8,9,10,11] [12,13] zeY (by exact (lwn 4 (ly [.sl Rp.byte [0] b,kI (i64.wrap (uR+rv.2.1))] (ziK (some (kI (i64.wrap (uR+rv.2.1)))) none rfl zej.el (zcZ _ _ _) ⟨rfl,rfl⟩ ⟨rfl,rfl⟩ uU) rfl (lx (lf1 185 (lc0 12 call185 (zqk uK))) l0)))) (jp (jI h ?_ ?_)))<;>intro uO h
 ·refine jr (rc 0 rfl (zaw (r:=zbc) [] [] (⟨0,0,0,0,0⟩:zu) rfl zBy rfl rfl) rf) ?_;cases h;exact zB (lks [12] [(12,2)] lzz)
 refine jr (rc 11 rfl (zaw (r:=zbc) [kI rv.1.Number,kI rv.1.Wire,kI uR,kI (i64.wrap ((i64.wrap (uR+rv.2.1))+wu.1)),kI (i64.wrap ((i64.wrap (uR+rv.2.1))+wu.2.1))] [] (⟨rv.1.Number,rv.1.Wire,uR,(i64.wrap ((i64.wrap (uR+rv.2.1))+wu.1)),(i64.wrap ((i64.wrap (uR+rv.2.1))+wu.2.1))⟩:zu) rfl zBy rfl rfl) rf) ?_;cases h;exact zB (lks [12] [(12,2)] lzz)
theorem zqr (h:zjg k wv=some r):wo 149 [kI k,kU wv] [kI r]:=by
 refine fi 29 func149 fun Xt=>?_
 unfold zjg at h;refine jp (jb h fun rv uF h=>jr (rl 1 [1] 9 call180 (zln uF) rf) (jg [0,1,5] [] [(19,kB ((rv.2 !=0)|| (rv.1 !=0)))] ?_ ?_))
 ·refine (rsl 3 [] 16 (rv.2 !=0) ?_ ?_)<;>intro uE
  · exact (rbl [] 19 true rfl (by grind))
  exact (rbl [] 19 (rv.1 !=0) rfl (by grind))
 refine jI h ?_ ?_<;>intro uH h
 ·cases h;exact jz
 refine jb h fun wu uK h=>jr (rl 2 [1] 9 call146 (zkC uK) rf) (jb h fun wy uP h=>jr (rl 1 [1] 9 call182 (zuW uP) rf) ?_);obtain rfl:=(sj h);exact zB lzz
theorem zrO (h:zkt k wv=some r):wo 148 [kI k,kU wv] [.own Rp.byte 5 2 [] r.1,k8 r.2]:=by
 refine fi 32 func148 fun Xt=>?_
 unfold zkt at h;refine jp (jb h fun rv uF h=>jr (rl 1 [1] 10 call180 (zln uF) rf) (jp (jI h ?_ ?_)))<;>intro uE h
 ·refine jp ?_;cases h;exact zB lw
 refine jb h fun wu uK h=>jr (rl 2 [1] 10 call146 (zkC uK) rf) (jp (jI h ?_ ?_))<;>intro uH h
 ·refine jb h fun wy uP h=>jr (rl 1 [1] 10 call152 (FnOk.le (ins':=[kN,kU wu.1]) (znx uP) ⟨zgx _ _,ws _,trivial⟩) rf) ?_;cases h;exact zB (lks [] [(12,2)] lzz)
 refine jb h fun wM u9 h=>jr (rl 2 [1] 11 call181 (zwC u9) rf) ?_;cases h;exact zB (lks [] [(13,2)] lzz)
theorem zxP (h:zkV wire value=some r):wo 151 [kI wire,.sl Rp.byte [0] value] [kB r]:=by
 refine fi 25 func151 fun Xt=>?_
 unfold zkV at h;refine jp (jp (jI h ?_ ?_))<;>intro uE h
 ·refine jp ?_;obtain rfl:=(sj h);exact zB lzz
 refine jb h fun rv uF h=>jr (rl 2 [0] 9 call185 (zqk uF) rf) (jg [] [] [(4,kB ((rv.2.2==0)&&(rv.2.1==(value.length:Int))))] ?_ ?_)
 ·refine (rsl 3 [] 19 (rv.2.2==0) ?_ ?_)<;>intro uH
  · exact (rbl [] 4 (rv.2.1==(value.length:Int)) rfl (by grind))
  exact (rbl [] 4 false rfl (by grind))
 cases h;exact zB lzz
theorem zyX (h:zmI f wire=some r):wo 195 [.rc zf [0] f,kI wire] [kB r]:=by
 refine fi 16 func195 fun Xt=>?_
 unfold zmI at h;refine jq [11] (jb h fun g uG h=>jg [] [] [(4,kB g)] ?_ ?_)
 ·refine (rsI 3 7 uG ?_ ?_)<;>intro uE uG
  ·refine (rsI 4 11 uG ?_ ?_)<;>intro uH uG
   ·refine jb uG fun rv uF uG=>?_;cases uG;exact (rl 2 [1] 10 call190 (zpV uF) rgg)
   cases uG;exact rgg
  cases uG;exact rgg
 obtain rfl:=(sj h);exact zB lzz
theorem zxV (h:zkY k b=some r):wo 209 [kI k,.sl Rp.byte [0] b] [kU r.1,k8 r.2]:=by
 refine fi 22 func209 fun Xt=>?_
 unfold zkY at h;refine jp (jb h fun rv uF h=>jr (rl 2 [0] 9 call225 (zvJ uF) rf) (jp (jI h ?_ ?_)))<;>intro uE h
 ·cases h;exact jz
 refine jb h fun wu uK h=>jr (rl 2 [1] 9 call146 (zkC uK) rf) ?_;cases h;exact zB lzz
theorem zBF (h:zlT uM av b=some r):wo 28 [.rc zg [0] av,.rc zg [0] b] [kB r]:=by
 refine fi 12 func28 fun Xt=>?_
 unfold zlT at h;refine jr (rc 0 rfl (lbx 11 [0] (zah [0] av)) (rc 0 rfl (lbx 12 [0] (zah [0] b)) rf)) (jb h fun g uG h=>jg [] [] [(4,kB g)] ?_ ?_)
 ·refine jb uG fun rv uF uG=>(rc 1 rfl (lw0 11 call58 (zpb uF) (.l (zL [0] av))) (rsI 1 7 uG ?_ ?_))<;>intro uE uG
  ·refine jb uG fun wu uK uG=>?_;cases uG;exact (rc 2 rfl (lw0 11 call59 (zBG uK) (.c (zL [0] av) (.l (zL [0] b)))) rgg)
  cases uG;exact rgg
 obtain rfl:=(sj h);exact zB lzz
theorem zBE (h:zoi uM x=some r):wo 61 [.rc zg [0] x] [.ag (zr 3 [0,4] 5 [] r)]:=by
 refine fj ⟨[(2,.ptr 2 0)],[⟨2,27,(zr 3 [0,4] 5 [] r)⟩]⟩ 9 func61 ⟨⟨_,_,rfl,rfl,rfl,zkH⟩,trivial⟩ fun Xt=>?_
 unfold zoi at h;refine jr (rc 0 rfl (lbx 17 [0] (zah [0] x)) (rfl' [18])) (jb h fun rv uF h=>jr (rc 1 rfl (lw0 17 call58 (zpb uF) (.l (zL [0] x))) rf) (jI h ?_ ?_))<;>intro uE h
 ·refine jr (ra 0 [] rfl (zhW [] [kN,kN] rfl zyb rfl) rfl rf) ?_;cases h;exact zB (lk [2] [18] 18 2 (lq ⟨[(2,.ptr 2 0)],[⟨2,27,[kN,kN]⟩]⟩ (zrG 2 0 (.own zd 51 3 [0,4] ((⟨[],[]⟩:zb):zb).Values) rfl rfl (zmk zd 51 3 [0,4] rfl) (zrG 2 1 (.own Rp.str 9 5 [] ((⟨[],[]⟩:zb):zb).Unknown) rfl rfl (zmk Rp.str 9 5 [] rfl) lzz))))
 refine jb h fun wu uK h=>jr (rc 1 rfl (lw0 17 call99 (zyl uK) (.l (zL [0] x))) rf) ?_;obtain rfl:=(sj h);exact zB (lk [2] [18] 18 2 (lk [2] [2] 20 3 (lk [2] [2] 22 5 (lk [2] [2] 21 4 lzz))))
end Go.Proofs.YtkgohoggipdokaaGreat
