/-
  The Go functions do what the plain functions say. No condition.
-/
import Derived.Test.YtkgohoggipdokaaGreatx3G1
import Derived.Test.YtkgohoggipdokaaGreatx3Y
set_option autoImplicit true
set_option relaxedAutoImplicit true
namespace Go.Proofs.YtkgohoggipdokaaGreat
open Tryz
open Go Go.RowKit
set_option linter.unusedVariables false
set_option maxRecDepth 100000
set_option maxHeartbeats 3200000
theorem zCK (h:zpU=some r):wo 118 [] [.own wj 3 2 [] r]:=by
 refine fi 4 func118 fun Xt=>?_
 unfold zpU at h;refine jp (jb h fun rv uF h=>jb h fun v uS h=>jr (rl 0 [1] 11 call155 (zrF uF) (rkl 0 [] ⟨[(1,.om wj zaY 13 [] rv)],[]⟩ (zxS (rv:=zaY) (m:=rv) 14 zJV rfl rfl rfl rfl rfl rfl call154 call90 rfl (zFK _ _ _ _ _) uS rfl rf))) ?_);obtain rfl:=(sj h);exact zB (lks [] [(14,2)] lzz)
theorem zog (h:zhl vq=some r):wo 156 [kS vq] [kB r]:=by
 refine fi 34 func156 fun Xt=>?_
 unfold zhl at h;refine jp (jb h fun g uG h=>jg [0] [] [(15,kB g)] ?_ ?_)
 ·refine (rsI 3 6 uG ?_ ?_)<;>intro uE uG
  ·cases uG;exact rgg
  refine (rsI 5 11 uG ?_ ?_)<;>intro uH uG
  ·cases uG;exact rgg
  refine jb uG fun c vZ uG=>jb uG fun rv uF uG=>?_;cases uG;exact (ra 1 [kS vq,kI 0] rfl (zEF rfl underlying9 vZ) rfl (rl 0 [1] 9 call187 (znd uF) rgg))
 refine jI h ?_ ?_<;>intro uJ h
 ·refine jp ?_;obtain rfl:=(sj h);exact zB lzz
 refine jp (zp (jb h fun q uL h=>jL uL [0,17] [] (fun s=>[(18,kI s)]) (fun| (.inl v_)=> .x 0 ⟨[],[]⟩| (.inr v_)=> .r ⟨[(2,kB false)],[]⟩) ?_ lzz ?_))
 ·clear h;intro v2 o h;unfold zcS at h;refine jp (jI h ?_ ?_)<;>intro uO h
  ·refine zp (jp (jb h fun g2 uV h=>jg [0,17,18] [] [(32,kB g2)] ?_ ?_))
   ·refine jb uV fun c2 v8 uV=>jb uV fun wu uK uV=>(ra 2 [kS vq,kI v2] rfl (zEF rfl underlying9 v8) rfl (rl 0 [1] 10 call188 (zsl uK) (rsI 2 26 uV ?_ ?_)))<;>intro uW uV
    ·refine jb uV fun c3 wa uV=>jb uV fun wy uP uV=>?_;cases uV;exact (ra 2 [kS vq,kI v2] rfl (zEF rfl underlying9 wa) rfl (rl 0 [1] 10 call187 (znd uP) rgg))
    cases uV;exact rgg
   refine jI h ?_ ?_<;>intro u0 h
   ·cases h;exact jz'
   refine zan ?_;cases h;exact jy
  cases h;exact zaC rfl lzz
 rcases q with u| u2
 ·refine zaX _ rfl (jp ?_);obtain rfl:=(sj h);exact zB lzz
 obtain rfl:=(sj h);exact zgh lzz
theorem zla (h:zcO sv v=some r):wo 158 [.sl wj [0] sv,kI v] [kB r]:=by
 refine fi 9 func158 fun Xt=>?_
 unfold zcO at h;refine jp (jb h fun rv uF h=>jr (rl 2 [0] 9 call189 (zmC uF) rf) ?_);cases h;exact zB lzz
theorem zsT (h:zlN k=some r):wo 214 [kI k] [kI r.1,k8 r.2]:=by
 refine fi 16 func214 fun Xt=>?_
 unfold zlN at h;refine jp (jb h fun rv uF h=>jr (rl 0 [1] 9 call155 (zrF uF) (ra 1 [.om wj zaY 11 [] rv,kI k] rfl (zqV (rk:=wj) (rv:=zaY) (m:=rv) (k:=k) (.rc zaY [] ((mget rv k).getD (⟨[],0⟩:zv))) rfl zfE (zdE rfl rfl) (zsG rfl)) rfl (rfl' [12]))) (jp (jI h ?_ ?_)))<;>intro uE h
 ·cases h;exact jz
 cases h;exact jz
theorem znu (h:zhM uM x=some r):wo 26 [.rc zg [0] x] [kI r]:=by
 refine fi 5 func26 fun Xt=>?_
 unfold zhM at h;refine jr (rc 0 rfl (lbx 11 [0] (zah [0] x)) rf) (jb h fun rv uF h=>jr (rc 1 rfl (lw0 10 call55 (zyP uF) (.c (zL [0] x) (.k .n))) rf) ?_);obtain rfl:=(sj h);exact zB lzz
theorem zdY (h:zaF sv v=some r):wo 143 [.sl zf [0] sv,.fv 108 [.ep wj [0] v 0]] [kI r]:=by
 refine fi 19 func143 fun Xt=>?_
 unfold zaF at h;refine jp (jp (zp (jb h fun q uL h=>jL uL [0,1,7] [] (fun s=>[(8,kI s)]) (fun| (.inl v_)=> .x 0 ⟨[],[]⟩| (.inr v_)=> .r ⟨[(4,kI v_)],[]⟩) ?_ lzz ?_)))
 ·clear h;intro v2 o h;unfold zI at h;refine jp (jI h ?_ ?_)<;>intro uE h
  ·refine zp (jp (jb h fun x uN h=>jb h fun rv uF h=>jr (rx 3 [0] zqJ.el uN rfl rfl (rc 0 rfl (lde zf [0] x zpE) (ra 0 [.fv 108 [.ep wj [0] v 0],.rc zf [0] x] rfl (zpZ (args:=[.tmp 15]) [.rc zf [0] x] [0] 10 rfl (zAV _ _) call108 (zqs uF) rfl rfl rfl rfl rfl) rfl rf))) (jI h ?_ ?_)))<;>intro uH h
   ·cases h;exact jz'
   refine zan ?_;cases h;exact jy
  cases h;exact zaC rfl lzz
 rcases q with u| u2
 ·refine zaX _ rfl ?_;cases h;exact jz
 obtain rfl:=(sj h);exact zgh lzz
theorem zvs (h:zoo b=some r):wo 226 [.sl Rp.byte [0] b] [kI r]:=by
 refine fi 48 func226 fun Xt=>?_
 unfold zoo at h;refine jp (jp (jI h ?_ ?_))<;>intro uE h
 ·cases h;exact jz
 refine jb h fun x uN h=>jb h fun rv uF h=>jr (rx 1 [0] zej.el uN rfl rfl (rl 1 [1] 9 call230 (zDF uF) rf)) (jg [0,3,4] [] [(24,kB ((rv.1==0)|| (decide (rv.1>(b.length:Int)))))] ?_ ?_)
 ·refine (rsl 3 [] 19 (rv.1==0) ?_ ?_)<;>intro uH
  · exact (rbl [] 24 true rfl (by grind))
  exact (rbl [] 24 (decide (rv.1>(b.length:Int))) rfl (by grind))
 refine jI h ?_ ?_<;>intro uJ h
 ·cases h;exact jz
 refine jb h fun v2 uY h=>jr (ra 2 [.sl Rp.byte [0] b,kI 1,kI rv.1] rfl (ziK (some (kI 1)) (some (kI rv.1)) rfl zej.el (zcZ _ _ _) ⟨rfl,rfl⟩ ⟨rfl,rfl⟩ uY) rfl rf) (zp (jb h fun q uL h=>jL uL [3,27,28] [] (fun s=>[(4,.lf (.int .u32 s.1)),(29,kI s.2)]) (fun| (.inl v_)=> .X 0 [3] [] [(4,.lf (.int .u32 v_))] []| (.inr v_)=> .r ⟨[(2,kI 0)],[]⟩) ?_ lzz ?_))
 ·clear h;intro s o h;obtain ⟨wv,v3⟩:=s;replace h:zfn v2 wv v3=some o:=h;unfold zfn at h;refine jp (jI h ?_ ?_)<;>intro uO h
  ·refine zp (jb h fun x2 uQ h=>jr (rx 0 [0] zej.el uQ rfl rfl rf) (jr (ra 1 [k8 (x2.toNat:Int),kU 6] rfl (zjA rfl rfl) rfl rf) (jI h ?_ ?_)))<;>intro uW h
   ·cases h;exact jz'
   refine jr (ra 1 [.lf (.int .u32 wv),kU 6] rfl (zBf rfl rfl) rfl rf) (zan ?_);cases h;exact jy
  cases h;exact zaC rfl lzz
 rcases q with u| u2
 ·refine zaX _ rfl (jb h fun wu uK h=>jr (rl 2 [1] 10 call231 (zDE uK) rf) (jI h ?_ ?_))<;>intro u0 h
  ·cases h;exact jz
  cases h;exact jz
 cases h;exact zgh lzz
theorem zwD (h:zkJ wv=some r):wo 177 [kU wv] [.lf (.int .i32 r)]:=by
 refine fi 6 func177 fun Xt=>?_
 unfold zkJ at h;refine jp (jb h fun rv uF h=>jr (rl 1 [1] 9 call178 (zrB uF) rf) ?_);cases h;exact zB lzz
theorem ztw (h:zlS t=some r):wo 183 [.rc zcD [0] t] [kB r]:=by
 refine fi 16 func183 fun Xt=>?_
 unfold zlS at h;refine jq [11] (jb h fun g uG h=>jg [] [] [(2,kB g)] ?_ ?_)
 ·refine (rsI 4 6 uG ?_ ?_)<;>intro uE uG
  ·refine (rsI 5 11 uG ?_ ?_)<;>intro uH uG
   ·refine jb uG fun rv uF uG=>?_;cases uG;exact (rl 2 [1] 10 call211 (zuF uF) rgg)
   cases uG;exact rgg
  cases uG;exact rgg
 obtain rfl:=(sj h);exact zB lzz
theorem zqF (h:zjk b=some r):wo 212 [.sl Rp.byte [0] b] [kI r.1,k8 r.2]:=by
 refine fi 15 func212 fun Xt=>?_
 unfold zjk at h;refine jp (jb h fun rv uF h=>jr (rl 1 [0] 9 call213 (zjL uF) rf) ?_);cases h;exact jz
theorem znx (h:ziO b wv=some r):wo 152 [.sl Rp.byte [0] b,kU wv] [.own Rp.byte 5 2 [] r]:=by
 refine fi 30 func152 fun Xt=>?_
 unfold ziO at h;refine jp (jb h fun rv uF h=>jb h fun v uS h=>jr (rl 3 [1] 10 call182 (zuW uF) (ra 1 [kI 0,kI (IntKind.i64.wrap ((b.length:Int)+rv))] rfl (zqU 12 rfl zej rfl uS) rfl rf)) (jb h fun v2 uY h=>jr (rc 2 rfl (las 12 [] [0] [] zej.el uY (.inl zhI)) rf) (zp (jb h fun q uL h=>jL uL [] [] (fun s=>[(1,kU s.1),(5,.own Rp.byte 5 12 [] s.2)]) (fun o=> .x 0 ⟨[(1,kU o.1),(5,.own Rp.byte 5 12 [] o.2)],[]⟩) ?_ lzz ?_))))
 ·clear h;intro s o h;obtain ⟨wv2,l⟩:=s;replace h:zeA wv2 l=some o:=h;unfold zeA at h;refine jp (jI h ?_ ?_)<;>intro uE h
  ·refine zp (jb h fun y vC h=>jb h fun v3 uU h=>jr (rc 4 rfl (zF.lw (zfI [.lf (.int .u8 (y.toNat:Int))] 14 [] [y] rfl zej rfl rfl rfl rfl) (.l (zFU vC))) (rc 0 rfl (lao 12 [] 5 14 [] [] zej.el uU (.inl zhI)) rf)) (zan (jr (ra 1 [kU wv2,kU 7] rfl (zjA rfl rfl) rfl rf) ?_)));cases h;exact zbj lzz
  cases h;exact zaC rfl lzz
 refine zaX _ rfl (jb h fun y2 vm h=>jb h fun v4 vf h=>jr (rc 3 rfl (zF.lw (zfI [.lf (.int .u8 (y2.toNat:Int))] 15 [] [y2] rfl zej rfl rfl rfl rfl) (.l (zFU vm))) (rc 0 rfl (lao 12 [] 5 15 [] [] zej.el vf (.inl zhI)) rf)) ?_);obtain rfl:=(sj h);exact zB (lks [] [(12,2)] lzz)
theorem zcp (h:zaK wB=some r):wo 66 [.sl (Rp.list Rp.byte) [0] wB] [.own Rp.byte 5 2 [] r]:=by
 refine fi 36 func66 fun Xt=>?_
 unfold zaK at h;refine jp (jp (jp (zp (jb h fun q uL h=>jL uL [0,9,10] [] (fun s=>[(3,kI s.1),(11,kI s.2)]) (fun o=> .X 0 [0] [] [(3,kI o)] []) ?_ lzz ?_))))
 ·clear h;intro s o h;obtain ⟨size,v⟩:=s;replace h:zaH wB size v=some o:=h;unfold zaH at h;refine jp (jI h ?_ ?_)<;>intro uE h
  ·refine zp (jb h fun x uN h=>jr (rx 0 [0] zot.el uN rfl rfl (rc 0 rfl (ldl (Rp.list Rp.byte) [0] x 0 Rp.byte x) rf)) (jp (jp (jI h ?_ ?_))))<;>intro uH h
   · exact absurd h nofun
   refine zan ?_;cases h;exact jy
  cases h;exact zaC rfl lzz
 refine zaX _ rfl (jb h fun rv uF h=>jr (rl 1 [1] 12 call109 (zlH uF) rf) (jp (zp (jb h fun q2 uX h=>jL uX [25,26] [] (fun s=>[(6,.own Rp.byte 5 14 [] s.1),(27,kI s.2)]) (fun o=> .x 2 ⟨[(6,.own Rp.byte 5 14 [] o)],[]⟩) ?_ lzz ?_))))
 ·clear h;intro s o h;obtain ⟨wQ,v2⟩:=s;replace h:zaI wB wQ v2=some o:=h;unfold zaI at h;refine jp (jI h ?_ ?_)<;>intro uJ h
  ·refine zp (jb h fun x2 uQ h=>jr (rx 0 [0] zot.el uQ rfl rfl (rc 0 rfl (ldl (Rp.list Rp.byte) [0] x2 0 Rp.byte x2) rf)) (jb h fun v3 uU h=>jr (rc 2 rfl (las 14 [] [0] [] zej.el uU (.inl zhI)) rf) (zan ?_)));cases h;exact jy
  cases h;exact zaC rfl lzz
 refine zaX _ rfl (jp ?_);obtain rfl:=(sj h);exact zB (lks [] [(14,2)] lzz)
theorem zeJ (h:zaN sv v=some r):wo 143 [.sl zf [0] sv,.fv 216 [.ep wj [0] v 0]] [kI r]:=by
 refine fi 19 func143 fun Xt=>?_
 unfold zaN at h;refine jp (jp (zp (jb h fun q uL h=>jL uL [0,1,7] [] (fun s=>[(8,kI s)]) (fun| (.inl v_)=> .x 0 ⟨[],[]⟩| (.inr v_)=> .r ⟨[(4,kI v_)],[]⟩) ?_ lzz ?_)))
 ·clear h;intro v2 o h;unfold zO at h;refine jp (jI h ?_ ?_)<;>intro uE h
  ·refine zp (jp (jb h fun x uN h=>jb h fun rv uF h=>jr (rx 3 [0] zqJ.el uN rfl rfl (rc 0 rfl (lde zf [0] x zpE) (ra 0 [.fv 216 [.ep wj [0] v 0],.rc zf [0] x] rfl (zpZ (args:=[.tmp 15]) [.rc zf [0] x] [0] 10 rfl (zAV _ _) call216 (zvR uF) rfl rfl rfl rfl rfl) rfl rf))) (jI h ?_ ?_)))<;>intro uH h
   ·cases h;exact jz'
   refine zan ?_;cases h;exact jy
  cases h;exact zaC rfl lzz
 rcases q with u| u2
 ·refine zaX _ rfl ?_;cases h;exact jz
 obtain rfl:=(sj h);exact zgh lzz
theorem zvK (h:zjF b=some r):wo 228 [.sl Rp.byte [0] b] [kU r.1,k8 r.2]:=by
 refine fi 22 func228 fun Xt=>?_
 unfold zjF at h;refine jp (jb h fun rv uF h=>jr (rl 1 [0] 9 call213 (zjL uF) rf) (jg [4] [] [(20,kB ((rv.2.2 !=0)|| (rv.2.1 !=(b.length:Int))))] ?_ ?_))
 ·refine (rsl 3 [] 15 (rv.2.2 !=0) ?_ ?_)<;>intro uE
  · exact (rbl [] 20 true rfl (by grind))
  exact (rbl [] 20 (rv.2.1 !=(b.length:Int)) rfl (by grind))
 refine jI h ?_ ?_<;>intro uH h
 ·cases h;exact jz
 cases h;exact jz
theorem zyR (vr:∀{av:zb} {b:zb} {r:Bool},xb av b=some r->wo 59 [.rc zg [0] av,.rc zg [0] b] [kB r]) (vt:∀{v:za} {wv:za} {r:Bool},xc v wv=some r->wo 95 [.rc zd [0] v,.rc zd [0] wv] [kB r]) (vu:∀{s1:(List za)} {s2:(List za)} {r:Bool},xp s1 s2=some r->wo 94 [.sl zd [0] s1,.sl zd [0] s2,.lf (.val (.func (.func 95) #[] #[]))] [kB r]) (vv:∀{s1:(List zb)} {s2:(List zb)} {r:Bool},xq s1 s2=some r->wo 131 [.sl zg [0] s1,.sl zg [0] s2,.lf (.val (.func (.func 59) #[] #[]))] [kB r]) (h:zlf xb xc xp xq av b=some r):wo 59 [.rc zg [0] av,.rc zg [0] b] [kB r]:=by
 refine fi 17 func59 fun Xt=>?_
 unfold zlf at h;refine jr (rc 0 rfl (lbx 11 [0] (zah [0] av)) (rc 0 rfl (lbx 12 [0] (zah [0] b)) rf)) (jb h fun g uG h=>jg [] [] [(4,kB g)] ?_ ?_)
 ·refine jb uG fun rv uF uG=>(rl 4 [0] 11 call94 (vu uF) (rsI 1 10 uG ?_ ?_))<;>intro uE uG
  ·refine jb uG fun wu uK uG=>?_;cases uG;exact (rl 4 [0] 11 call96 (zgb uK) rgg)
  cases uG;exact rgg
 obtain rfl:=(sj h);exact zB lzz
theorem zss (vr:∀{av:zb} {b:zb} {r:Bool},xb av b=some r->wo 59 [.rc zg [0] av,.rc zg [0] b] [kB r]) (vt:∀{v:za} {wv:za} {r:Bool},xc v wv=some r->wo 95 [.rc zd [0] v,.rc zd [0] wv] [kB r]) (vu:∀{s1:(List za)} {s2:(List za)} {r:Bool},xp s1 s2=some r->wo 94 [.sl zd [0] s1,.sl zd [0] s2,.lf (.val (.func (.func 95) #[] #[]))] [kB r]) (vv:∀{s1:(List zb)} {s2:(List zb)} {r:Bool},xq s1 s2=some r->wo 131 [.sl zg [0] s1,.sl zg [0] s2,.lf (.val (.func (.func 59) #[] #[]))] [kB r]) (h:zgF xb xc xp xq v wv=some r):wo 95 [.rc zd [0] v,.rc zd [0] wv] [kB r]:=by
 refine fi 31 func95 fun Xt=>?_
 unfold zgF at h;refine jr (rc 0 rfl (lbx 11 [0] (zbB [0] v)) (rc 0 rfl (lbx 12 [0] (zbB [0] wv)) rf)) (jb h fun g uG h=>jg [] [] [(4,kB g)] ?_ ?_)
 ·refine (rsI 6 10 uG ?_ ?_)<;>intro uE uG
  ·refine jb uG fun rv uF uG=>(rl 4 [0] 11 call130 (zjI uF) (rsI 2 17 uG ?_ ?_))<;>intro uH uG
   ·refine jb uG fun wu uK uG=>(rl 4 [0] 11 call96 (zgb uK) (rsI 2 24 uG ?_ ?_))<;>intro uJ uG
    ·refine jb uG fun wy uP uG=>?_;cases uG;exact (rl 4 [0] 11 call131 (vv uP) rgg)
    cases uG;exact rgg
   cases uG;exact rgg
  cases uG;exact rgg
 obtain rfl:=(sj h);exact zB lzz
theorem zck (vr:∀{av:zb} {b:zb} {r:Bool},xb av b=some r->wo 59 [.rc zg [0] av,.rc zg [0] b] [kB r]) (vt:∀{v:za} {wv:za} {r:Bool},xc v wv=some r->wo 95 [.rc zd [0] v,.rc zd [0] wv] [kB r]) (vu:∀{s1:(List za)} {s2:(List za)} {r:Bool},xp s1 s2=some r->wo 94 [.sl zd [0] s1,.sl zd [0] s2,.lf (.val (.func (.func 95) #[] #[]))] [kB r]) (vv:∀{s1:(List zb)} {s2:(List zb)} {r:Bool},xq s1 s2=some r->wo 131 [.sl zg [0] s1,.sl zg [0] s2,.lf (.val (.func (.func 59) #[] #[]))] [kB r]) (h:zS xb xc xp xq s1 s2=some r):wo 94 [.sl zd [0] s1,.sl zd [0] s2,.lf (.val (.func (.func 95) #[] #[]))] [kB r]:=by
 refine fi 32 func94 fun Xt=>?_
 unfold zS at h;refine jp (jp (jI h ?_ ?_))<;>intro uE h
 ·refine jp ?_;obtain rfl:=(sj h);exact zB lzz
 refine jp (zp (jb h fun q uL h=>jL uL [1,2,15,16] [] (fun s=>[(17,kI s)]) (fun| (.inl v_)=> .x 0 ⟨[],[]⟩| (.inr v_)=> .r ⟨[(6,kB false)],[]⟩) ?_ lzz ?_))
 ·clear h;intro v o h;unfold zq at h;refine jp (jI h ?_ ?_)<;>intro uH h
  ·refine zp (jb h fun x uN h=>jr (rx 1 [0] zjX.el uN rfl rfl (rc 0 rfl (lde zd [0] x ziS) (ral 2 [12] [.ptr 12 0,.rc zd [0] x] rfl (zfe (r:=zd) (b:=⟨12,51,[kI 0,kN,kN,kN]⟩) (off:=0) (zt [0] x) rfl sizeOf51 rfl rfl (by rw [zG]<;>rfl) rfl) rfl rf))) (jb h fun x2 uQ h=>jr (rx 2 [0] zjX.el uQ rfl rfl (rc 0 rfl (lde zd [0] x2 ziS) (ral 1 [13] [.ptr 13 0,.rc zd [0] x2] rfl (zfe (r:=zd) (b:=⟨13,51,[kI 0,kN,kN,kN]⟩) (off:=0) (zt [0] x2) rfl sizeOf51 rfl rfl (by rw [zG]<;>rfl) rfl) rfl rf))) (jb h fun rv uF h=>jr (rc 3 rfl (zF.le (ins':=[(.tmp 26,.lf (.val (.func (.func 95) #[] #[]))),(.tmp 27,.ag (zt [0] x)),(.tmp 28,.ag (zt [0] x2))]) (zpZ (args:=[.tmp 27,.tmp 28]) [.rc zd [0] x,.rc zd [0] x2] [0] 12 rfl (zCz _) call95 (vt uF) rfl rfl rfl rfl rfl) ⟨⟨rfl,ws _⟩,⟨rfl,zaV [0] x⟩,⟨rfl,zaV [0] x2⟩,trivial⟩) rf) (jI h ?_ ?_))))<;>intro uJ h
   ·cases h;exact jz'
   refine zan ?_;cases h;exact jy
  cases h;exact zaC rfl lzz
 rcases q with u| u2
 ·refine zaX _ rfl (jp ?_);obtain rfl:=(sj h);exact zB lzz
 obtain rfl:=(sj h);exact zgh lzz
theorem zcT (vr:∀{av:zb} {b:zb} {r:Bool},xb av b=some r->wo 59 [.rc zg [0] av,.rc zg [0] b] [kB r]) (vt:∀{v:za} {wv:za} {r:Bool},xc v wv=some r->wo 95 [.rc zd [0] v,.rc zd [0] wv] [kB r]) (vu:∀{s1:(List za)} {s2:(List za)} {r:Bool},xp s1 s2=some r->wo 94 [.sl zd [0] s1,.sl zd [0] s2,.lf (.val (.func (.func 95) #[] #[]))] [kB r]) (vv:∀{s1:(List zb)} {s2:(List zb)} {r:Bool},xq s1 s2=some r->wo 131 [.sl zg [0] s1,.sl zg [0] s2,.lf (.val (.func (.func 59) #[] #[]))] [kB r]) (h:zae xb xc xp xq s1 s2=some r):wo 131 [.sl zg [0] s1,.sl zg [0] s2,.lf (.val (.func (.func 59) #[] #[]))] [kB r]:=by
 refine fi 32 func131 fun Xt=>?_
 unfold zae at h;refine jp (jp (jI h ?_ ?_))<;>intro uE h
 ·refine jp ?_;obtain rfl:=(sj h);exact zB lzz
 refine jp (zp (jb h fun q uL h=>jL uL [1,2,15,16] [] (fun s=>[(17,kI s)]) (fun| (.inl v_)=> .x 0 ⟨[],[]⟩| (.inr v_)=> .r ⟨[(6,kB false)],[]⟩) ?_ lzz ?_))
 ·clear h;intro v o h;unfold zy at h;refine jp (jI h ?_ ?_)<;>intro uH h
  ·refine zp (jb h fun x uN h=>jr (rx 1 [0] zjm.el uN rfl rfl (rc 0 rfl (lde zg [0] x zkH) (ral 2 [12] [.ptr 12 0,.rc zg [0] x] rfl (zfe (r:=zg) (b:=⟨12,27,[kN,kN]⟩) (off:=0) (zak [0] x) rfl sizeOf27 rfl rfl (by rw [zaq]<;>rfl) rfl) rfl rf))) (jb h fun x2 uQ h=>jr (rx 2 [0] zjm.el uQ rfl rfl (rc 0 rfl (lde zg [0] x2 zkH) (ral 1 [13] [.ptr 13 0,.rc zg [0] x2] rfl (zfe (r:=zg) (b:=⟨13,27,[kN,kN]⟩) (off:=0) (zak [0] x2) rfl sizeOf27 rfl rfl (by rw [zaq]<;>rfl) rfl) rfl rf))) (jb h fun rv uF h=>jr (rc 3 rfl (zF.le (ins':=[(.tmp 26,.lf (.val (.func (.func 59) #[] #[]))),(.tmp 27,.ag (zak [0] x)),(.tmp 28,.ag (zak [0] x2))]) (zpZ (args:=[.tmp 27,.tmp 28]) [.rc zg [0] x,.rc zg [0] x2] [0] 12 rfl (zCz _) call59 (vr uF) rfl rfl rfl rfl rfl) ⟨⟨rfl,ws _⟩,⟨rfl,zL [0] x⟩,⟨rfl,zL [0] x2⟩,trivial⟩) rf) (jI h ?_ ?_))))<;>intro uJ h
   ·cases h;exact jz'
   refine zan ?_;cases h;exact jy
  cases h;exact zaC rfl lzz
 rcases q with u| u2
 ·refine zaX _ rfl (jp ?_);obtain rfl:=(sj h);exact zB lzz
 obtain rfl:=(sj h);exact zgh lzz
theorem zjR (uM:Nat):(∀{av:zb} {b:zb} {r:Bool},zgE uM av b=some r->wo 59 [.rc zg [0] av,.rc zg [0] b] [kB r])/\(∀{v:za} {wv:za} {r:Bool},zdR uM v wv=some r->wo 95 [.rc zd [0] v,.rc zd [0] wv] [kB r])/\(∀{s1:(List za)} {s2:(List za)} {r:Bool},zM uM s1 s2=some r->wo 94 [.sl zd [0] s1,.sl zd [0] s2,.lf (.val (.func (.func 95) #[] #[]))] [kB r])/\(∀{s1:(List zb)} {s2:(List zb)} {r:Bool},zY uM s1 s2=some r->wo 131 [.sl zg [0] s1,.sl zg [0] s2,.lf (.val (.func (.func 59) #[] #[]))] [kB r]):=by
  induction uM with
  | zero=>exact ⟨fun h=>absurd h nofun,fun h=>absurd h nofun,fun h=>absurd h nofun,fun h=>absurd h nofun⟩
  | succ uM ih=>exact ⟨fun h=>zyR (fun hh=>ih.1 hh) (fun hh=>ih.2.1 hh) (fun hh=>ih.2.2.1 hh) (fun hh=>ih.2.2.2 hh) h,fun h=>zss (fun hh=>ih.1 hh) (fun hh=>ih.2.1 hh) (fun hh=>ih.2.2.1 hh) (fun hh=>ih.2.2.2 hh) h,fun h=>zck (fun hh=>ih.1 hh) (fun hh=>ih.2.1 hh) (fun hh=>ih.2.2.1 hh) (fun hh=>ih.2.2.2 hh) h,fun h=>zcT (fun hh=>ih.1 hh) (fun hh=>ih.2.1 hh) (fun hh=>ih.2.2.1 hh) (fun hh=>ih.2.2.2 hh) h⟩
theorem zBG (h:zgE uM av b=some r):wo 59 [.rc zg [0] av,.rc zg [0] b] [kB r]:=(zjR uM).1 h
theorem zjr (h:zci wB=some r):wo 136 [.sl (Rp.list wk) [0] wB] [.own wk 72 2 [] r]:=by
 refine fi 36 func136 fun Xt=>?_
 unfold zci at h;refine jp (jp (jp (zp (jb h fun q uL h=>jL uL [0,9,10] [] (fun s=>[(3,kI s.1),(11,kI s.2)]) (fun o=> .X 0 [0] [] [(3,kI o)] []) ?_ lzz ?_))))
 ·clear h;intro s o h;obtain ⟨size,v⟩:=s;replace h:zaa wB size v=some o:=h;unfold zaa at h;refine jp (jI h ?_ ?_)<;>intro uE h
  ·refine zp (jb h fun x uN h=>jr (rx 0 [0] zFs.el uN rfl rfl (rc 0 rfl (ldl (Rp.list wk) [0] x 0 wk x) rf)) (jp (jp (jI h ?_ ?_))))<;>intro uH h
   · exact absurd h nofun
   refine zan ?_;cases h;exact jy
  cases h;exact zaC rfl lzz
 refine zaX _ rfl (jb h fun rv uF h=>jr (rl 1 [1] 12 call172 (zjQ uF) rf) (jp (zp (jb h fun q2 uX h=>jL uX [25,26] [] (fun s=>[(6,.own wk 72 14 [] s.1),(27,kI s.2)]) (fun o=> .x 2 ⟨[(6,.own wk 72 14 [] o)],[]⟩) ?_ lzz ?_))))
 ·clear h;intro s o h;obtain ⟨wQ,v2⟩:=s;replace h:zap wB wQ v2=some o:=h;unfold zap at h;refine jp (jI h ?_ ?_)<;>intro uJ h
  ·refine zp (jb h fun x2 uQ h=>jr (rx 0 [0] zFs.el uQ rfl rfl (rc 0 rfl (ldl (Rp.list wk) [0] x2 0 wk x2) rf)) (jb h fun v3 uU h=>jr (rc 2 rfl (las 14 [] [0] [] zng.el uU (.inl (zrc _))) rf) (zan ?_)));cases h;exact jy
  cases h;exact zaC rfl lzz
 refine zaX _ rfl (jp ?_);obtain rfl:=(sj h);exact zB (lks [] [(14,2)] lzz)
theorem zfH (h:zby wB=some r):wo 104 [.sl wr [0] wB] [.own Rp.str 9 2 [] r]:=by
 refine fi 36 func104 fun Xt=>?_
 unfold zby at h;refine jp (jp (jp (zp (jb h fun q uL h=>jL uL [0,9,10] [] (fun s=>[(3,kI s.1),(11,kI s.2)]) (fun o=> .X 0 [0] [] [(3,kI o)] []) ?_ lzz ?_))))
 ·clear h;intro s o h;obtain ⟨size,v⟩:=s;replace h:zZ wB size v=some o:=h;unfold zZ at h;refine jp (jI h ?_ ?_)<;>intro uE h
  ·refine zp (jb h fun x uN h=>jr (rx 0 [0] zBO.el uN rfl rfl (rc 0 rfl (ldl wr [0] x 0 Rp.str x) rf)) (jp (jp (jI h ?_ ?_))))<;>intro uH h
   · exact absurd h nofun
   refine zan ?_;cases h;exact jy
  cases h;exact zaC rfl lzz
 refine zaX _ rfl (jb h fun rv uF h=>jr (rl 1 [1] 12 call141 (zjP uF) rf) (jp (zp (jb h fun q2 uX h=>jL uX [25,26] [] (fun s=>[(6,.own Rp.str 9 14 [] s.1),(27,kI s.2)]) (fun o=> .x 2 ⟨[(6,.own Rp.str 9 14 [] o)],[]⟩) ?_ lzz ?_))))
 ·clear h;intro s o h;obtain ⟨wQ,v2⟩:=s;replace h:zao wB wQ v2=some o:=h;unfold zao at h;refine jp (jI h ?_ ?_)<;>intro uJ h
  ·refine zp (jb h fun x2 uQ h=>jr (rx 0 [0] zBO.el uQ rfl rfl (rc 0 rfl (ldl wr [0] x2 0 Rp.str x2) rf)) (jb h fun v3 uU h=>jr (rc 2 rfl (las 14 [] [0] [] zjY.el uU (.inl zuv)) rf) (zan ?_)));cases h;exact jy
  cases h;exact zaC rfl lzz
 refine zaX _ rfl (jp ?_);obtain rfl:=(sj h);exact zB (lks [] [(14,2)] lzz)
theorem zhZ (h:zbC wB=some r):wo 137 [.sl (Rp.list zg) [0] wB] [.own zg 27 2 [0] r]:=by
 refine fi 36 func137 fun Xt=>?_
 unfold zbC at h;refine jp (jp (jp (zp (jb h fun q uL h=>jL uL [0,9,10] [] (fun s=>[(3,kI s.1),(11,kI s.2)]) (fun o=> .X 0 [0] [] [(3,kI o)] []) ?_ lzz ?_))))
 ·clear h;intro s o h;obtain ⟨size,v⟩:=s;replace h:zR wB size v=some o:=h;unfold zR at h;refine jp (jI h ?_ ?_)<;>intro uE h
  ·refine zp (jb h fun x uN h=>jr (rx 0 [0] zFt.el uN rfl rfl (rc 0 rfl (ldl (Rp.list zg) [0] x 0 zg x) rf)) (jp (jp (jI h ?_ ?_))))<;>intro uH h
   · exact absurd h nofun
   refine zan ?_;cases h;exact jy
  cases h;exact zaC rfl lzz
 refine zaX _ rfl (jb h fun rv uF h=>jr (rl 1 [1] 12 call173 (ziw uF) rf) (jp (zp (jb h fun q2 uX h=>jL uX [25,26] [] (fun s=>[(6,.own zg 27 14 [0] s.1),(27,kI s.2)]) (fun o=> .x 2 ⟨[(6,.own zg 27 14 [0] o)],[]⟩) ?_ lw ?_))))
 ·clear h;intro s o h;obtain ⟨wQ,v2⟩:=s;replace h:zai wB wQ v2=some o:=h;unfold zai at h;refine jp (jI h ?_ ?_)<;>intro uJ h
  ·refine zp (jb h fun x2 uQ h=>jr (rx 0 [0] zFt.el uQ rfl rfl (rc 0 rfl (ldl (Rp.list zg) [0] x2 0 zg x2) rf)) (jb h fun v3 uU h=>jr (rc 2 rfl (las 14 [0] [0] [0] zjm.el uU (.inr rfl)) rf) (zan ?_)));cases h;exact jy
  cases h;exact zaC rfl lzz
 refine zaX _ rfl (jp ?_);obtain rfl:=(sj h);exact zB (lks [] [(14,2)] lzz)
theorem zvM (vQ:∀{x:zb} {r:zb},xj x=some r->wo 99 [.rc zg [0] x] [.ag (zr 3 [0,4] 5 [] r)]) (vR:∀{v:za} {r:za},xk v=some r->wo 135 [.rc zd [0] v] [.ag (zA 3 [] 4 [] 5 [0,6] r)]) (h:ziB xj xk x=some r):wo 99 [.rc zg [0] x] [.ag (zr 3 [0,4] 5 [] r)]:=by
 refine fj ⟨[(2,.ptr 2 0)],[⟨2,27,(zr 3 [0,4] 5 [] r)⟩]⟩ 29 func99 ⟨⟨_,_,rfl,rfl,rfl,zkH⟩,trivial⟩ fun Xt=>?_
 unfold ziB at h;refine jr (rc 0 rfl (lbx 17 [0] (zah [0] x)) (rfl' [18])) (jb h fun rv uF h=>jb h fun wu uK h=>jd [2,3] [18,21] zeY (by exact (lwn 2 (lx (lf1 133 (lc0 17 call133 (zht uF))) (lwn 2 (lx (lf1 134 (lc0 18 call134 (zga uK))) (lx (lbd [.own zd 51 19 [0] rv,.own Rp.str 9 20 [] wu] zyb) (lx (znS 21 [kN,kN] rfl zeroValue27 rfl) (lx (stw ⟨21,27,[kN,kN]⟩ 0 [.own zd 51 19 [0] rv,.own Rp.str 9 20 [] wu] sizeOf27) l0)))))))) (jp (zp (jb h fun q uL h=>zAY (fun s:((List za)×Int)=>zdk xk rv s.1 s.2) (fun s=>⟨[(2,.ptr 18 0),(3,.ptr 21 0),(14,.own zd 51 19 [0,22] s.1),(15,kI (rv.length:Int)),(16,kI s.2)],[⟨18,27,[kN,kN]⟩,⟨21,27,[.own zd 51 19 [0,22] s.1,.own Rp.str 9 20 [] wu]⟩]⟩) (fun o e a w=>e= .exit 0/\Sx ⟨⟨29,[]⟩,Xt,false,#[]⟩ ⟨[(2,.ptr 18 0),(3,.ptr 21 0)],[⟨18,27,[kN,kN]⟩,⟨21,27,[.own zd 51 19 [0,22] o,.own Rp.str 9 20 [] wu]⟩]⟩ a w) ?_ uL ?_ ?_))))
 ·clear h;intro s o h;obtain ⟨v,v2⟩:=s;refine zcm ?_;replace h:zdk xk rv v v2=some o:=h;unfold zdk at h;refine jp (jI h ?_ ?_)<;>intro uE h
  ·refine zp (jb h fun x2 uQ h=>jr (ra 1 [.own zd 51 19 [0,22] v,kI v2] rfl (zoM rfl zjX.el uQ) rfl (ra 0 [.own zd 51 19 [0,22] v,.ptr 19 (Int.toNat v2*zd.size)] rfl (zGa (r:=zd) (e:=51) (ℓ:=19) (C:=[0,22]) (xs:=v) (.tmp 14) x2 rfl ziS uQ) rfl (ral 2 [35] [.ptr 35 0,.rc zd [0,22] x2] rfl (zfe (r:=zd) (b:=⟨35,51,[kI 0,kN,kN,kN]⟩) (off:=0) (zt [0,22] x2) rfl sizeOf51 rfl rfl (by rw [zG]<;>rfl) rfl) rfl rf))) (jb h fun wy uP h=>jb h fun x3 va h=>jk [2,3,4,5,14,15,16] [18,21,35] (zsR ⟨[(2,.ptr 18 0),(3,.ptr 21 0),(14,.own zd 51 19 [0,22,37,38,39,40] (v.set (Int.toNat v2) wy)),(15,kI (rv.length:Int)),(16,kI v2)],[⟨18,27,[kN,kN]⟩,⟨21,27,[.own zd 51 19 [0,22,37,38,39,40] (v.set (Int.toNat v2) wy),.own Rp.str 9 20 [] wu]⟩]⟩ [.ev,.ev,.ev,.ex [35] [] [] (.ag (zt [0,22] x2)) [],.ex [] [] [37,38,39] (.ag (zA 37 [] 38 [] 39 [0,22,40] wy)) [],.ex [] [] [] (.ptr 19 (Int.toNat v2*zd.size)) [],.raw [4,0,1,4,10,14] [19] [] [.sl 22 (.own zd 51 19 [0,22,37,38,39,40] (v.set (Int.toNat v2) wy)),.sl 14 (.own zd 51 19 [0,22,37,38,39,40] (v.set (Int.toNat v2) wy)),.bx ⟨21,27,[.own zd 51 19 [0,22,37,38,39,40] (v.set (Int.toNat v2) wy),.own Rp.str 9 20 [] wu]⟩]] [⟨[(.tmp 5,.ptr 35 0)],[⟨35,51,(zt [0,22] x2)⟩],[]⟩,⟨[(.func 135,.lf (.val (.func (.func 135) #[] #[]))),(.tmp 24,.ag (zt [0,22] x2))],[],[]⟩,⟨[(.tmp 22,.own zd 51 19 [0,22] v),(.tmp 23,kI v2)],[],[]⟩,⟨[],[],[.sl 22 (.own zd 51 19 [0,22] v),.sl 26 (.ptr 19 (Int.toNat v2*zd.size)),.sl 25 (.ag (zA 37 [] 38 [] 39 [0,22,40] wy)),.sl 22 (.own zd 51 19 [0,22] v),.sl 14 (.own zd 51 19 [0,22] v),.bx ⟨21,27,[.own zd 51 19 [0,22] v,.own Rp.str 9 20 [] wu]⟩]⟩] [2,3,14,15,16] [18,21] zeY (by kernel_rfl) (by exact (lwn 3 (lw_x (zrI (ldw 35 51 (zt [0,22] x2) ziS) rfl) (lw_x (zF.cons _ (zrI (lcz [.ag (zt [0,22] x2)] 34 call135 (vR uP) (.c (zG _) .n)) rfl)) (lw_x (zrI (zoM rfl zjX.el va) rfl) (lw_r (zux (ins:=[(.tmp 22,.own zd 51 19 [0,22] v),(.tmp 26,.ptr 19 (Int.toNat v2*zd.size)),(.tmp 25,.ag (zA 37 [] 38 [] 39 [0,22,40] wy))]) [22,14] [(⟨21,27,[.own zd 51 19 [0,22] v,.own Rp.str 9 20 [] wu]⟩,⟨21,27,[.own zd 51 19 [0,22,37,38,39,40] (v.set (Int.toNat v2) wy),.own Rp.str 9 20 [] wu]⟩)] (zFd (r:=zd) (e:=51) (ℓ:=19) (C:=[0,22]) (xs:=v) (off:=(Int.toNat v2*zd.size)) (.tmp 22) (Int.toNat v2) 0 x3 wy [0,22,37,38,39,40] rfl rfl sizeOf51 rfl (zoI va) rfl (zrl (by rw [zG]<;>rfl) _) rfl) ⟨trivial,trivial,trivial,trivial⟩ (fun _ _=>nofun) ⟨⟨rfl,rfl,rfl,⟨zhz 0 rfl,zD rfl,trivial⟩⟩,trivial⟩) lw_0)))))) (zan (jp ?_)))));cases h;exact zbj (lk [2,3,14,15,16] [18,21] 37 22 (lk [2,3,14,15,16] [18,21] 38 22 (lk [2,3,14,15,16] [18,21] 39 22 (lk [2,3,14,15,16] [18,21] 40 22 (lq ⟨[(2,.ptr 18 0),(3,.ptr 21 0),(14,.own zd 51 19 [0,22,22,22,22,22] (v.set (Int.toNat v2) wy)),(15,kI (rv.length:Int)),(16,kI (IntKind.i64.wrap (v2+1)))],[⟨18,27,[kN,kN]⟩,⟨21,27,[.own zd 51 19 [0,22,22,22,22,22] (v.set (Int.toNat v2) wy),.own Rp.str 9 20 [] wu]⟩]⟩ (zFT 14 (.own zd 51 19 [0,22] (v.set (Int.toNat v2) wy)) rfl (zoK _ _ _ _ _ _ rfl rfl) (zrG 21 0 (.own zd 51 19 [0,22] (v.set (Int.toNat v2) wy)) rfl rfl (zoK _ _ _ _ _ _ rfl rfl) lzz)))))))
  cases h;exact zaC rfl lzz
 ·exact lq ⟨[(2,.ptr 18 0),(3,.ptr 21 0),(14,.own zd 51 19 [0] rv),(15,kI (rv.length:Int)),(16,kI 0)],[⟨18,27,[kN,kN]⟩,⟨21,27,[.own zd 51 19 [0] rv,.own Rp.str 9 20 [] wu]⟩]⟩ (zFT 14 (.own zd 51 19 [0,22] rv) rfl (zoK _ _ _ _ _ _ rfl rfl) (zrG 21 0 (.own zd 51 19 [0,22] rv) rfl rfl (zoK _ _ _ _ _ _ rfl rfl) lzz))
 refine zaX _ rfl (jp ?_);cases h;exact zB (lk [2] [18] 18 2 (lk [2] [2] 19 3 (lk [2] [2] 20 5 (lk [2] [2] 22 4 lzz))))
theorem zqB (vQ:∀{x:zb} {r:zb},xj x=some r->wo 99 [.rc zg [0] x] [.ag (zr 3 [0,4] 5 [] r)]) (vR:∀{v:za} {r:za},xk v=some r->wo 135 [.rc zd [0] v] [.ag (zA 3 [] 4 [] 5 [0,6] r)]) (h:zfC xj xk v=some r):wo 135 [.rc zd [0] v] [.ag (zA 3 [] 4 [] 5 [0,6] r)]:=by
 refine fj ⟨[(2,.ptr 2 0)],[⟨2,51,(zA 3 [] 4 [] 5 [0,6] r)⟩]⟩ 34 func135 ⟨⟨_,_,rfl,rfl,rfl,ziS⟩,trivial⟩ fun Xt=>?_
 unfold zfC at h;refine jr (rc 0 rfl (lbx 18 [0] (zbB [0] v)) (rfl' [19])) (jb h fun rv uF h=>jb h fun wu uK h=>jb h fun wy uP h=>jd [2,3] [19,23] zeY (by exact (lwn 4 (lx (lf1 170 (lc0 18 call170 (zjH uF))) (lwn 2 (lx (lf1 134 (lc0 19 call134 (zga uK))) (lwn 2 (lx (lf1 171 (lc0 20 call171 (zim uP))) (lx (lbd [kI v.Number,.own wk 72 20 [] rv,.own Rp.str 9 21 [] wu,.own zg 27 22 [0] wy] zDt) (lx (znS 23 [kI 0,kN,kN,kN] rfl zeroValue51 rfl) (lx (stw ⟨23,51,[kI 0,kN,kN,kN]⟩ 0 [kI v.Number,.own wk 72 20 [] rv,.own Rp.str 9 21 [] wu,.own zg 27 22 [0] wy] sizeOf51) l0)))))))))) (jp (zp (jb h fun q uL h=>zAY (fun s:((List zb)×Int)=>zbM xj wy s.1 s.2) (fun s=>⟨[(2,.ptr 19 0),(3,.ptr 23 0),(19,.own zg 27 22 [0,24] s.1),(20,kI (wy.length:Int)),(21,kI s.2)],[⟨19,51,[kI 0,kN,kN,kN]⟩,⟨23,51,[kI v.Number,.own wk 72 20 [] rv,.own Rp.str 9 21 [] wu,.own zg 27 22 [0,24] s.1]⟩]⟩) (fun o e a w=>e= .exit 0/\Sx ⟨⟨34,[]⟩,Xt,false,#[]⟩ ⟨[(2,.ptr 19 0),(3,.ptr 23 0)],[⟨19,51,[kI 0,kN,kN,kN]⟩,⟨23,51,[kI v.Number,.own wk 72 20 [] rv,.own Rp.str 9 21 [] wu,.own zg 27 22 [0,24] o]⟩]⟩ a w) ?_ uL ?_ ?_))))
 ·clear h;intro s o h;obtain ⟨v2,v3⟩:=s;refine zcm ?_;replace h:zbM xj wy v2 v3=some o:=h;unfold zbM at h;refine jp (jI h ?_ ?_)<;>intro uE h
  ·refine zp (jb h fun x uN h=>jr (ra 1 [.own zg 27 22 [0,24] v2,kI v3] rfl (zoM rfl zjm.el uN) rfl (ra 0 [.own zg 27 22 [0,24] v2,.ptr 22 (Int.toNat v3*zg.size)] rfl (zGa (r:=zg) (e:=27) (ℓ:=22) (C:=[0,24]) (xs:=v2) (.tmp 19) x rfl zkH uN) rfl (ral 2 [35] [.ptr 35 0,.rc zg [0,24] x] rfl (zfe (r:=zg) (b:=⟨35,27,[kN,kN]⟩) (off:=0) (zak [0,24] x) rfl sizeOf27 rfl rfl (by rw [zaq]<;>rfl) rfl) rfl rf))) (jb h fun wM u9 h=>jb h fun x2 uQ h=>jk [2,3,4,5,19,20,21] [19,23,35] (zsR ⟨[(2,.ptr 19 0),(3,.ptr 23 0),(19,.own zg 27 22 [0,24,37,38,39] (v2.set (Int.toNat v3) wM)),(20,kI (wy.length:Int)),(21,kI v3)],[⟨19,51,[kI 0,kN,kN,kN]⟩,⟨23,51,[kI v.Number,.own wk 72 20 [] rv,.own Rp.str 9 21 [] wu,.own zg 27 22 [0,24,37,38,39] (v2.set (Int.toNat v3) wM)]⟩]⟩ [.ev,.ev,.ev,.ex [35] [] [] (.ag (zak [0,24] x)) [],.ex [] [] [37,39] (.ag (zr 37 [0,24,38] 39 [] wM)) [],.ex [] [] [] (.ptr 22 (Int.toNat v3*zg.size)) [],.raw [4,0,1,4,10,14] [22] [] [.sl 27 (.own zg 27 22 [0,24,37,38,39] (v2.set (Int.toNat v3) wM)),.sl 19 (.own zg 27 22 [0,24,37,38,39] (v2.set (Int.toNat v3) wM)),.bx ⟨23,51,[kI v.Number,.own wk 72 20 [] rv,.own Rp.str 9 21 [] wu,.own zg 27 22 [0,24,37,38,39] (v2.set (Int.toNat v3) wM)]⟩]] [⟨[(.tmp 5,.ptr 35 0)],[⟨35,27,(zak [0,24] x)⟩],[]⟩,⟨[(.func 99,.lf (.val (.func (.func 99) #[] #[]))),(.tmp 29,.ag (zak [0,24] x))],[],[]⟩,⟨[(.tmp 27,.own zg 27 22 [0,24] v2),(.tmp 28,kI v3)],[],[]⟩,⟨[],[],[.sl 27 (.own zg 27 22 [0,24] v2),.sl 31 (.ptr 22 (Int.toNat v3*zg.size)),.sl 30 (.ag (zr 37 [0,24,38] 39 [] wM)),.sl 27 (.own zg 27 22 [0,24] v2),.sl 19 (.own zg 27 22 [0,24] v2),.bx ⟨23,51,[kI v.Number,.own wk 72 20 [] rv,.own Rp.str 9 21 [] wu,.own zg 27 22 [0,24] v2]⟩]⟩] [2,3,19,20,21] [19,23] zeY (by kernel_rfl) (by exact (lwn 3 (lw_x (zrI (ldw 35 27 (zak [0,24] x) zkH) rfl) (lw_x (zF.cons _ (zrI (lcz [.ag (zak [0,24] x)] 34 call99 (vQ u9) (.c (zaq _) .n)) rfl)) (lw_x (zrI (zoM rfl zjm.el uQ) rfl) (lw_r (zux (ins:=[(.tmp 27,.own zg 27 22 [0,24] v2),(.tmp 31,.ptr 22 (Int.toNat v3*zg.size)),(.tmp 30,.ag (zr 37 [0,24,38] 39 [] wM))]) [27,19] [(⟨23,51,[kI v.Number,.own wk 72 20 [] rv,.own Rp.str 9 21 [] wu,.own zg 27 22 [0,24] v2]⟩,⟨23,51,[kI v.Number,.own wk 72 20 [] rv,.own Rp.str 9 21 [] wu,.own zg 27 22 [0,24,37,38,39] (v2.set (Int.toNat v3) wM)]⟩)] (zFd (r:=zg) (e:=27) (ℓ:=22) (C:=[0,24]) (xs:=v2) (off:=(Int.toNat v3*zg.size)) (.tmp 27) (Int.toNat v3) 0 x2 wM [0,24,37,38,39] rfl rfl sizeOf27 rfl (zoI uQ) rfl (zrl (by rw [zaq]<;>rfl) _) rfl) ⟨trivial,trivial,trivial,trivial⟩ (fun _ _=>nofun) ⟨⟨rfl,rfl,rfl,⟨zD rfl,zD rfl,zD rfl,zhz 0 rfl,trivial⟩⟩,trivial⟩) lw_0)))))) (zan (jp ?_)))));cases h;exact zbj (lk [2,3,19,20,21] [19,23] 37 24 (lk [2,3,19,20,21] [19,23] 38 24 (lk [2,3,19,20,21] [19,23] 39 24 (lq ⟨[(2,.ptr 19 0),(3,.ptr 23 0),(19,.own zg 27 22 [0,24,24,24,24] (v2.set (Int.toNat v3) wM)),(20,kI (wy.length:Int)),(21,kI (IntKind.i64.wrap (v3+1)))],[⟨19,51,[kI 0,kN,kN,kN]⟩,⟨23,51,[kI v.Number,.own wk 72 20 [] rv,.own Rp.str 9 21 [] wu,.own zg 27 22 [0,24,24,24,24] (v2.set (Int.toNat v3) wM)]⟩]⟩ (zFT 19 (.own zg 27 22 [0,24] (v2.set (Int.toNat v3) wM)) rfl (zoK _ _ _ _ _ _ rfl rfl) (zrG 23 3 (.own zg 27 22 [0,24] (v2.set (Int.toNat v3) wM)) rfl rfl (zoK _ _ _ _ _ _ rfl rfl) lzz))))))
  cases h;exact zaC rfl lzz
 ·exact lq ⟨[(2,.ptr 19 0),(3,.ptr 23 0),(19,.own zg 27 22 [0] wy),(20,kI (wy.length:Int)),(21,kI 0)],[⟨19,51,[kI 0,kN,kN,kN]⟩,⟨23,51,[kI v.Number,.own wk 72 20 [] rv,.own Rp.str 9 21 [] wu,.own zg 27 22 [0] wy]⟩]⟩ (zFT 19 (.own zg 27 22 [0,24] wy) rfl (zoK _ _ _ _ _ _ rfl rfl) (zrG 23 3 (.own zg 27 22 [0,24] wy) rfl rfl (zoK _ _ _ _ _ _ rfl rfl) lzz))
 refine zaX _ rfl (jp ?_);cases h;exact zB (lk [2] [19] 19 2 (lk [2] [2] 20 3 (lk [2] [2] 21 4 (lk [2] [2] 22 5 (lk [2] [2] 24 6 lzz)))))
theorem ziC (uM:Nat):(∀{x:zb} {r:zb},zgJ uM x=some r->wo 99 [.rc zg [0] x] [.ag (zr 3 [0,4] 5 [] r)])/\(∀{v:za} {r:za},zfr uM v=some r->wo 135 [.rc zd [0] v] [.ag (zA 3 [] 4 [] 5 [0,6] r)]):=by
  induction uM with
  | zero=>exact ⟨fun h=>absurd h nofun,fun h=>absurd h nofun⟩
  | succ uM ih=>exact ⟨fun h=>zvM (fun hh=>ih.1 hh) (fun hh=>ih.2 hh) h,fun h=>zqB (fun hh=>ih.1 hh) (fun hh=>ih.2 hh) h⟩
theorem zyl (h:zgJ uM x=some r):wo 99 [.rc zg [0] x] [.ag (zr 3 [0,4] 5 [] r)]:=(ziC uM).1 h
end Go.Proofs.YtkgohoggipdokaaGreat
