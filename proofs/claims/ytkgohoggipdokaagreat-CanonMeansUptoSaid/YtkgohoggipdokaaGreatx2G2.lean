/-
  The Go functions do what the plain functions say. No condition.
-/
import Derived.Test.YtkgohoggipdokaaGreatx2G1
import Derived.Test.YtkgohoggipdokaaGreatx2Y
set_option autoImplicit true
set_option relaxedAutoImplicit true
namespace Go.Proofs.YtkgohoggipdokaaGreat
open Tryz
open Go Go.RowKit
set_option linter.unusedVariables false
set_option maxRecDepth 100000
set_option maxHeartbeats 3200000
theorem zzC (h:znv=some r):vW 118 [] [.own vU 3 2 [] r]:=by
 refine fi 4 func118 fun Xt=>?_
 unfold znv at h;refine jp (jb h fun rv uu h=>jb h fun v uK h=>jr (rl 0 [1] 11 call155 (zpa uu) (rkl 0 [] ⟨[(1,.om vU zaK 13 [] rv)],[]⟩ (zAe (rv:=zaK) (m:=rv) 14 zGx rfl rfl rfl rfl rfl rfl call154 call90 rfl (zCu _ _ _ _ _) uK rfl rf))) ?_);obtain rfl:=(sj h);exact zH (lks [] [(14,2)] lzz)
theorem zlX (h:zfO ve=some r):vW 156 [kS ve] [kB r]:=by
 refine fi 34 func156 fun Xt=>?_
 unfold zfO at h;refine jp (jb h fun g ut h=>jg [0] [] [(15,kB g)] ?_ ?_)
 ·refine (rsI 3 6 ut ?_ ?_)<;>intro ur ut
  ·cases ut;exact rgg
  refine (rsI 5 11 ut ?_ ?_)<;>intro uv ut
  ·cases ut;exact rgg
  refine jb ut fun c vJ ut=>jb ut fun rv uu ut=>?_;cases ut;exact (ra 1 [kS ve,kI 0] rfl (zBu rfl underlying9 vJ) rfl (rl 0 [1] 9 call187 (zlb uu) rgg))
 refine jI h ?_ ?_<;>intro uy h
 ·refine jp ?_;obtain rfl:=(sj h);exact zH lzz
 refine jp (zw (jb h fun q uA h=>jL uA [0,17] [] (fun s=>[(18,kI s)]) (fun| (.inl v_)=> .x 0 ⟨[],[]⟩| (.inr v_)=> .r ⟨[(2,kB false)],[]⟩) ?_ lzz ?_))
 ·clear h;intro v2 o h;unfold zce at h;refine jp (jI h ?_ ?_)<;>intro uC h
  ·refine zw (jp (jb h fun g2 uG h=>jg [0,17,18] [] [(32,kB g2)] ?_ ?_))
   ·refine jb uG fun c2 vK uG=>jb uG fun vY uz uG=>(ra 2 [kS ve,kI v2] rfl (zBu rfl underlying9 vK) rfl (rl 0 [1] 10 call188 (zpG uz) (rsI 2 26 uG ?_ ?_)))<;>intro uJ uG
    ·refine jb uG fun c3 vL uG=>jb uG fun wd uE uG=>?_;cases uG;exact (ra 2 [kS ve,kI v2] rfl (zBu rfl underlying9 vL) rfl (rl 0 [1] 10 call187 (zlb uE) rgg))
    cases uG;exact rgg
   refine jI h ?_ ?_<;>intro uL h
   ·cases h;exact jz'
   refine zal ?_;cases h;exact jy
  cases h;exact zaJ rfl lzz
 rcases q with u| u2
 ·refine zbo _ rfl (jp ?_);obtain rfl:=(sj h);exact zH lzz
 obtain rfl:=(sj h);exact zfe lzz
theorem zja (h:zca sv v=some r):vW 158 [.sl vU [0] sv,kI v] [kB r]:=by
 refine fi 9 func158 fun Xt=>?_
 unfold zca at h;refine jp (jb h fun rv uu h=>jr (rl 2 [0] 9 call189 (zkC uu) rf) ?_);cases h;exact zH lzz
theorem zqn (h:zjS k=some r):vW 214 [kI k] [kI r.1,k8 r.2]:=by
 refine fi 16 func214 fun Xt=>?_
 unfold zjS at h;refine jp (jb h fun rv uu h=>jr (rl 0 [1] 9 call155 (zpa uu) (ra 1 [.om vU zaK 11 [] rv,kI k] rfl (zrD (rk:=vU) (rv:=zaK) (m:=rv) (k:=k) (.rc zaK [] ((mget rv k).getD (⟨[],0⟩:zr))) rfl zeq (zdT rfl rfl) (zxR rfl)) rfl (rfl' [12]))) (jp (jI h ?_ ?_)))<;>intro ur h
 ·cases h;exact jz
 cases h;exact jz
theorem zlq (h:zgj uB x=some r):vW 26 [.rc zj [0] x] [kI r]:=by
 refine fi 5 func26 fun Xt=>?_
 unfold zgj at h;refine jr (rc 0 rfl (lbx 11 [0] (zaH [0] x)) rf) (jb h fun rv uu h=>jr (rc 1 rfl (lw0 10 call55 (zvS uu) (.c (zaa [0] x) (.k .n))) rf) ?_);obtain rfl:=(sj h);exact zH lzz
theorem zda (h:zas sv v=some r):vW 143 [.sl zf [0] sv,.fv 108 [.ep vU [0] v 0]] [kI r]:=by
 refine fi 19 func143 fun Xt=>?_
 unfold zas at h;refine jp (jp (zw (jb h fun q uA h=>jL uA [0,1,7] [] (fun s=>[(8,kI s)]) (fun| (.inl v_)=> .x 0 ⟨[],[]⟩| (.inr v_)=> .r ⟨[(4,kI v_)],[]⟩) ?_ lzz ?_)))
 ·clear h;intro v2 o h;unfold zA at h;refine jp (jI h ?_ ?_)<;>intro ur h
  ·refine zw (jp (jb h fun x uD h=>jb h fun rv uu h=>jr (rx 3 [0] zpl.el uD rfl rfl (rc 0 rfl (lde zf [0] x zpU) (ra 0 [.fv 108 [.ep vU [0] v 0],.rc zf [0] x] rfl (zqt (args:=[.tmp 15]) [.rc zf [0] x] [0] 10 rfl (zCt _ _) call108 (znS uu) rfl rfl rfl rfl rfl) rfl rf))) (jI h ?_ ?_)))<;>intro uv h
   ·cases h;exact jz'
   refine zal ?_;cases h;exact jy
  cases h;exact zaJ rfl lzz
 rcases q with u| u2
 ·refine zbo _ rfl ?_;cases h;exact jz
 obtain rfl:=(sj h);exact zfe lzz
theorem zsF (h:zmb b=some r):vW 226 [.sl Rp.byte [0] b] [kI r]:=by
 refine fi 48 func226 fun Xt=>?_
 unfold zmb at h;refine jp (jp (jI h ?_ ?_))<;>intro ur h
 ·cases h;exact jz
 refine jb h fun x uD h=>jb h fun rv uu h=>jr (rx 1 [0] zdK.el uD rfl rfl (rl 1 [1] 9 call230 (zAy uu) rf)) (jg [0,3,4] [] [(24,kB ((rv.1==0)|| (decide (rv.1>(b.length:Int)))))] ?_ ?_)
 ·refine (rsl 3 [] 19 (rv.1==0) ?_ ?_)<;>intro uv
  · exact (rbl [] 24 true rfl (by grind))
  exact (rbl [] 24 (decide (rv.1>(b.length:Int))) rfl (by grind))
 refine jI h ?_ ?_<;>intro uy h
 ·cases h;exact jz
 refine jb h fun v2 uP h=>jr (ra 2 [.sl Rp.byte [0] b,kI 1,kI rv.1] rfl (zgQ (some (kI 1)) (some (kI rv.1)) rfl zdK.el (zcH _ _ _) ⟨rfl,rfl⟩ ⟨rfl,rfl⟩ uP) rfl rf) (zw (jb h fun q uA h=>jL uA [3,27,28] [] (fun s=>[(4,.lf (.int .u32 s.1)),(29,kI s.2)]) (fun| (.inl v_)=> .X 0 [3] [] [(4,.lf (.int .u32 v_))] []| (.inr v_)=> .r ⟨[(2,kI 0)],[]⟩) ?_ lzz ?_))
 ·clear h;intro s o h;obtain ⟨wv,v3⟩:=s;replace h:zee v2 wv v3=some o:=h;unfold zee at h;refine jp (jI h ?_ ?_)<;>intro uC h
  ·refine zw (jb h fun x2 uH h=>jr (rx 0 [0] zdK.el uH rfl rfl rf) (jr (ra 1 [k8 (x2.toNat:Int),kU 6] rfl (zhD rfl rfl) rfl rf) (jI h ?_ ?_)))<;>intro uJ h
   ·cases h;exact jz'
   refine jr (ra 1 [.lf (.int .u32 wv),kU 6] rfl (zyf rfl rfl) rfl rf) (zal ?_);cases h;exact jy
  cases h;exact zaJ rfl lzz
 rcases q with u| u2
 ·refine zbo _ rfl (jb h fun vY uz h=>jr (rl 2 [1] 10 call231 (zAx uz) rf) (jI h ?_ ?_))<;>intro uL h
  ·cases h;exact jz
  cases h;exact jz
 cases h;exact zfe lzz
theorem ztK (h:ziJ wv=some r):vW 177 [kU wv] [.lf (.int .i32 r)]:=by
 refine fi 6 func177 fun Xt=>?_
 unfold ziJ at h;refine jp (jb h fun rv uu h=>jr (rl 1 [1] 9 call178 (zoX uu) rf) ?_);cases h;exact zH lzz
theorem zqP (h:zjX t=some r):vW 183 [.rc zbO [0] t] [kB r]:=by
 refine fi 16 func183 fun Xt=>?_
 unfold zjX at h;refine jq [11] (jb h fun g ut h=>jg [] [] [(2,kB g)] ?_ ?_)
 ·refine (rsI 4 6 ut ?_ ?_)<;>intro ur ut
  ·refine (rsI 5 11 ut ?_ ?_)<;>intro uv ut
   ·refine jb ut fun rv uu ut=>?_;cases ut;exact (rl 2 [1] 10 call211 (zrS uu) rgg)
   cases ut;exact rgg
  cases ut;exact rgg
 obtain rfl:=(sj h);exact zH lzz
theorem zoe (h:zhn b=some r):vW 212 [.sl Rp.byte [0] b] [kI r.1,k8 r.2]:=by
 refine fi 15 func212 fun Xt=>?_
 unfold zhn at h;refine jp (jb h fun rv uu h=>jr (rl 1 [0] 9 call213 (zhP uu) rf) ?_);cases h;exact jz
theorem zlt (h:zgU b wv=some r):vW 152 [.sl Rp.byte [0] b,kU wv] [.own Rp.byte 5 2 [] r]:=by
 refine fi 30 func152 fun Xt=>?_
 unfold zgU at h;refine jp (jb h fun rv uu h=>jb h fun v uK h=>jr (rl 3 [1] 10 call182 (zsj uu) (ra 1 [kI 0,kI (IntKind.i64.wrap ((b.length:Int)+rv))] rfl (zqu 12 rfl zdK rfl uK) rfl rf)) (jb h fun v2 uP h=>jr (rc 2 rfl (las 12 [] [0] [] zdK.el uP (.inl zin)) rf) (zw (jb h fun q uA h=>jL uA [] [] (fun s=>[(1,kU s.1),(5,.own Rp.byte 5 12 [] s.2)]) (fun o=> .x 0 ⟨[(1,kU o.1),(5,.own Rp.byte 5 12 [] o.2)],[]⟩) ?_ lzz ?_))))
 ·clear h;intro s o h;obtain ⟨wv2,l⟩:=s;replace h:zdu wv2 l=some o:=h;unfold zdu at h;refine jp (jI h ?_ ?_)<;>intro ur h
  ·refine zw (jb h fun y vn h=>jb h fun v3 uM h=>jr (rc 4 rfl (zB.lw (zjl [.lf (.int .u8 (y.toNat:Int))] 14 [] [y] rfl zdK rfl rfl rfl rfl) (.l (zCE vn))) (rc 0 rfl (lao 12 [] 5 14 [] [] zdK.el uM (.inl zin)) rf)) (zal (jr (ra 1 [kU wv2,kU 7] rfl (zhD rfl rfl) rfl rf) ?_)));cases h;exact zaT lzz
  cases h;exact zaJ rfl lzz
 refine zbo _ rfl (jb h fun y2 vb h=>jb h fun v4 u9 h=>jr (rc 3 rfl (zB.lw (zjl [.lf (.int .u8 (y2.toNat:Int))] 15 [] [y2] rfl zdK rfl rfl rfl rfl) (.l (zCE vb))) (rc 0 rfl (lao 12 [] 5 15 [] [] zdK.el u9 (.inl zin)) rf)) ?_);obtain rfl:=(sj h);exact zH (lks [] [(12,2)] lzz)
theorem zbG (h:zax wx=some r):vW 66 [.sl (Rp.list Rp.byte) [0] wx] [.own Rp.byte 5 2 [] r]:=by
 refine fi 36 func66 fun Xt=>?_
 unfold zax at h;refine jp (jp (jp (zw (jb h fun q uA h=>jL uA [0,9,10] [] (fun s=>[(3,kI s.1),(11,kI s.2)]) (fun o=> .X 0 [0] [] [(3,kI o)] []) ?_ lzz ?_))))
 ·clear h;intro s o h;obtain ⟨size,v⟩:=s;replace h:zau wx size v=some o:=h;unfold zau at h;refine jp (jI h ?_ ?_)<;>intro ur h
  ·refine zw (jb h fun x uD h=>jr (rx 0 [0] zmg.el uD rfl rfl (rc 0 rfl (ldl (Rp.list Rp.byte) [0] x 0 Rp.byte x) rf)) (jp (jp (jI h ?_ ?_))))<;>intro uv h
   · exact absurd h nofun
   refine zal ?_;cases h;exact jy
  cases h;exact zaJ rfl lzz
 refine zbo _ rfl (jb h fun rv uu h=>jr (rl 1 [1] 12 call109 (zjK uu) rf) (jp (zw (jb h fun q2 uN h=>jL uN [25,26] [] (fun s=>[(6,.own Rp.byte 5 14 [] s.1),(27,kI s.2)]) (fun o=> .x 2 ⟨[(6,.own Rp.byte 5 14 [] o)],[]⟩) ?_ lzz ?_))))
 ·clear h;intro s o h;obtain ⟨wE,v2⟩:=s;replace h:zav wx wE v2=some o:=h;unfold zav at h;refine jp (jI h ?_ ?_)<;>intro uy h
  ·refine zw (jb h fun x2 uH h=>jr (rx 0 [0] zmg.el uH rfl rfl (rc 0 rfl (ldl (Rp.list Rp.byte) [0] x2 0 Rp.byte x2) rf)) (jb h fun v3 uM h=>jr (rc 2 rfl (las 14 [] [0] [] zdK.el uM (.inl zin)) rf) (zal ?_)));cases h;exact jy
  cases h;exact zaJ rfl lzz
 refine zbo _ rfl (jp ?_);obtain rfl:=(sj h);exact zH (lks [] [(14,2)] lzz)
theorem zdz (h:zaA sv v=some r):vW 143 [.sl zf [0] sv,.fv 216 [.ep vU [0] v 0]] [kI r]:=by
 refine fi 19 func143 fun Xt=>?_
 unfold zaA at h;refine jp (jp (zw (jb h fun q uA h=>jL uA [0,1,7] [] (fun s=>[(8,kI s)]) (fun| (.inl v_)=> .x 0 ⟨[],[]⟩| (.inr v_)=> .r ⟨[(4,kI v_)],[]⟩) ?_ lzz ?_)))
 ·clear h;intro v2 o h;unfold zG at h;refine jp (jI h ?_ ?_)<;>intro ur h
  ·refine zw (jp (jb h fun x uD h=>jb h fun rv uu h=>jr (rx 3 [0] zpl.el uD rfl rfl (rc 0 rfl (lde zf [0] x zpU) (ra 0 [.fv 216 [.ep vU [0] v 0],.rc zf [0] x] rfl (zqt (args:=[.tmp 15]) [.rc zf [0] x] [0] 10 rfl (zCt _ _) call216 (zsZ uu) rfl rfl rfl rfl rfl) rfl rf))) (jI h ?_ ?_)))<;>intro uv h
   ·cases h;exact jz'
   refine zal ?_;cases h;exact jy
  cases h;exact zaJ rfl lzz
 rcases q with u| u2
 ·refine zbo _ rfl ?_;cases h;exact jz
 obtain rfl:=(sj h);exact zfe lzz
theorem zsT (h:zhI b=some r):vW 228 [.sl Rp.byte [0] b] [kU r.1,k8 r.2]:=by
 refine fi 22 func228 fun Xt=>?_
 unfold zhI at h;refine jp (jb h fun rv uu h=>jr (rl 1 [0] 9 call213 (zhP uu) rf) (jg [4] [] [(20,kB ((rv.2.2 !=0)|| (rv.2.1 !=(b.length:Int))))] ?_ ?_))
 ·refine (rsl 3 [] 15 (rv.2.2 !=0) ?_ ?_)<;>intro ur
  · exact (rbl [] 20 true rfl (by grind))
  exact (rbl [] 20 (rv.2.1 !=(b.length:Int)) rfl (by grind))
 refine jI h ?_ ?_<;>intro uv h
 ·cases h;exact jz
 cases h;exact jz
theorem zvU (vf:∀{av:zc} {b:zc} {r:Bool},xb av b=some r->vW 59 [.rc zj [0] av,.rc zj [0] b] [kB r]) (vg:∀{v:zb} {wv:zb} {r:Bool},xc v wv=some r->vW 95 [.rc zh [0] v,.rc zh [0] wv] [kB r]) (vh:∀{s1:(List zb)} {s2:(List zb)} {r:Bool},xm s1 s2=some r->vW 94 [.sl zh [0] s1,.sl zh [0] s2,.lf (.val (.func (.func 95) #[] #[]))] [kB r]) (vi:∀{s1:(List zc)} {s2:(List zc)} {r:Bool},xn s1 s2=some r->vW 131 [.sl zj [0] s1,.sl zj [0] s2,.lf (.val (.func (.func 59) #[] #[]))] [kB r]) (h:zjf xb xc xm xn av b=some r):vW 59 [.rc zj [0] av,.rc zj [0] b] [kB r]:=by
 refine fi 17 func59 fun Xt=>?_
 unfold zjf at h;refine jr (rc 0 rfl (lbx 11 [0] (zaH [0] av)) (rc 0 rfl (lbx 12 [0] (zaH [0] b)) rf)) (jb h fun g ut h=>jg [] [] [(4,kB g)] ?_ ?_)
 ·refine jb ut fun rv uu ut=>(rl 4 [0] 11 call94 (vh uu) (rsI 1 10 ut ?_ ?_))<;>intro ur ut
  ·refine jb ut fun vY uz ut=>?_;cases ut;exact (rl 4 [0] 11 call96 (zeN uz) rgg)
  cases ut;exact rgg
 obtain rfl:=(sj h);exact zH lzz
theorem zpN (vf:∀{av:zc} {b:zc} {r:Bool},xb av b=some r->vW 59 [.rc zj [0] av,.rc zj [0] b] [kB r]) (vg:∀{v:zb} {wv:zb} {r:Bool},xc v wv=some r->vW 95 [.rc zh [0] v,.rc zh [0] wv] [kB r]) (vh:∀{s1:(List zb)} {s2:(List zb)} {r:Bool},xm s1 s2=some r->vW 94 [.sl zh [0] s1,.sl zh [0] s2,.lf (.val (.func (.func 95) #[] #[]))] [kB r]) (vi:∀{s1:(List zc)} {s2:(List zc)} {r:Bool},xn s1 s2=some r->vW 131 [.sl zj [0] s1,.sl zj [0] s2,.lf (.val (.func (.func 59) #[] #[]))] [kB r]) (h:zfo xb xc xm xn v wv=some r):vW 95 [.rc zh [0] v,.rc zh [0] wv] [kB r]:=by
 refine fi 31 func95 fun Xt=>?_
 unfold zfo at h;refine jr (rc 0 rfl (lbx 11 [0] (zcN [0] v)) (rc 0 rfl (lbx 12 [0] (zcN [0] wv)) rf)) (jb h fun g ut h=>jg [] [] [(4,kB g)] ?_ ?_)
 ·refine (rsI 6 10 ut ?_ ?_)<;>intro ur ut
  ·refine jb ut fun rv uu ut=>(rl 4 [0] 11 call130 (zhK uu) (rsI 2 17 ut ?_ ?_))<;>intro uv ut
   ·refine jb ut fun vY uz ut=>(rl 4 [0] 11 call96 (zeN uz) (rsI 2 24 ut ?_ ?_))<;>intro uy ut
    ·refine jb ut fun wd uE ut=>?_;cases ut;exact (rl 4 [0] 11 call131 (vi uE) rgg)
    cases ut;exact rgg
   cases ut;exact rgg
  cases ut;exact rgg
 obtain rfl:=(sj h);exact zH lzz
theorem zbD (vf:∀{av:zc} {b:zc} {r:Bool},xb av b=some r->vW 59 [.rc zj [0] av,.rc zj [0] b] [kB r]) (vg:∀{v:zb} {wv:zb} {r:Bool},xc v wv=some r->vW 95 [.rc zh [0] v,.rc zh [0] wv] [kB r]) (vh:∀{s1:(List zb)} {s2:(List zb)} {r:Bool},xm s1 s2=some r->vW 94 [.sl zh [0] s1,.sl zh [0] s2,.lf (.val (.func (.func 95) #[] #[]))] [kB r]) (vi:∀{s1:(List zc)} {s2:(List zc)} {r:Bool},xn s1 s2=some r->vW 131 [.sl zj [0] s1,.sl zj [0] s2,.lf (.val (.func (.func 59) #[] #[]))] [kB r]) (h:zK xb xc xm xn s1 s2=some r):vW 94 [.sl zh [0] s1,.sl zh [0] s2,.lf (.val (.func (.func 95) #[] #[]))] [kB r]:=by
 refine fi 32 func94 fun Xt=>?_
 unfold zK at h;refine jp (jp (jI h ?_ ?_))<;>intro ur h
 ·refine jp ?_;obtain rfl:=(sj h);exact zH lzz
 refine jp (zw (jb h fun q uA h=>jL uA [1,2,15,16] [] (fun s=>[(17,kI s)]) (fun| (.inl v_)=> .x 0 ⟨[],[]⟩| (.inr v_)=> .r ⟨[(6,kB false)],[]⟩) ?_ lzz ?_))
 ·clear h;intro v o h;unfold zp at h;refine jp (jI h ?_ ?_)<;>intro uv h
  ·refine zw (jb h fun x uD h=>jr (rx 1 [0] zrk.el uD rfl rfl (rc 0 rfl (lde zh [0] x zpV) (ral 2 [12] [.ptr 12 0,.rc zh [0] x] rfl (zfW (r:=zh) (b:=⟨12,51,[kI 0,kN,kN,kN]⟩) (off:=0) (zW [0] x) rfl sizeOf51 rfl rfl (by rw [zad]<;>rfl) rfl) rfl rf))) (jb h fun x2 uH h=>jr (rx 2 [0] zrk.el uH rfl rfl (rc 0 rfl (lde zh [0] x2 zpV) (ral 1 [13] [.ptr 13 0,.rc zh [0] x2] rfl (zfW (r:=zh) (b:=⟨13,51,[kI 0,kN,kN,kN]⟩) (off:=0) (zW [0] x2) rfl sizeOf51 rfl rfl (by rw [zad]<;>rfl) rfl) rfl rf))) (jb h fun rv uu h=>jr (rc 3 rfl (zB.le (ins':=[(.tmp 26,.lf (.val (.func (.func 95) #[] #[]))),(.tmp 27,.ag (zW [0] x)),(.tmp 28,.ag (zW [0] x2))]) (zqt (args:=[.tmp 27,.tmp 28]) [.rc zh [0] x,.rc zh [0] x2] [0] 12 rfl (zzr _) call95 (vg uu) rfl rfl rfl rfl rfl) ⟨⟨rfl,vX _⟩,⟨rfl,zbZ [0] x⟩,⟨rfl,zbZ [0] x2⟩,trivial⟩) rf) (jI h ?_ ?_))))<;>intro uy h
   ·cases h;exact jz'
   refine zal ?_;cases h;exact jy
  cases h;exact zaJ rfl lzz
 rcases q with u| u2
 ·refine zbo _ rfl (jp ?_);obtain rfl:=(sj h);exact zH lzz
 obtain rfl:=(sj h);exact zfe lzz
theorem zcf (vf:∀{av:zc} {b:zc} {r:Bool},xb av b=some r->vW 59 [.rc zj [0] av,.rc zj [0] b] [kB r]) (vg:∀{v:zb} {wv:zb} {r:Bool},xc v wv=some r->vW 95 [.rc zh [0] v,.rc zh [0] wv] [kB r]) (vh:∀{s1:(List zb)} {s2:(List zb)} {r:Bool},xm s1 s2=some r->vW 94 [.sl zh [0] s1,.sl zh [0] s2,.lf (.val (.func (.func 95) #[] #[]))] [kB r]) (vi:∀{s1:(List zc)} {s2:(List zc)} {r:Bool},xn s1 s2=some r->vW 131 [.sl zj [0] s1,.sl zj [0] s2,.lf (.val (.func (.func 59) #[] #[]))] [kB r]) (h:zS xb xc xm xn s1 s2=some r):vW 131 [.sl zj [0] s1,.sl zj [0] s2,.lf (.val (.func (.func 59) #[] #[]))] [kB r]:=by
 refine fi 32 func131 fun Xt=>?_
 unfold zS at h;refine jp (jp (jI h ?_ ?_))<;>intro ur h
 ·refine jp ?_;obtain rfl:=(sj h);exact zH lzz
 refine jp (zw (jb h fun q uA h=>jL uA [1,2,15,16] [] (fun s=>[(17,kI s)]) (fun| (.inl v_)=> .x 0 ⟨[],[]⟩| (.inr v_)=> .r ⟨[(6,kB false)],[]⟩) ?_ lzz ?_))
 ·clear h;intro v o h;unfold zv at h;refine jp (jI h ?_ ?_)<;>intro uv h
  ·refine zw (jb h fun x uD h=>jr (rx 1 [0] zsL.el uD rfl rfl (rc 0 rfl (lde zj [0] x zjs) (ral 2 [12] [.ptr 12 0,.rc zj [0] x] rfl (zfW (r:=zj) (b:=⟨12,27,[kN,kN]⟩) (off:=0) (zae [0] x) rfl sizeOf27 rfl rfl (by rw [zak]<;>rfl) rfl) rfl rf))) (jb h fun x2 uH h=>jr (rx 2 [0] zsL.el uH rfl rfl (rc 0 rfl (lde zj [0] x2 zjs) (ral 1 [13] [.ptr 13 0,.rc zj [0] x2] rfl (zfW (r:=zj) (b:=⟨13,27,[kN,kN]⟩) (off:=0) (zae [0] x2) rfl sizeOf27 rfl rfl (by rw [zak]<;>rfl) rfl) rfl rf))) (jb h fun rv uu h=>jr (rc 3 rfl (zB.le (ins':=[(.tmp 26,.lf (.val (.func (.func 59) #[] #[]))),(.tmp 27,.ag (zae [0] x)),(.tmp 28,.ag (zae [0] x2))]) (zqt (args:=[.tmp 27,.tmp 28]) [.rc zj [0] x,.rc zj [0] x2] [0] 12 rfl (zzr _) call59 (vf uu) rfl rfl rfl rfl rfl) ⟨⟨rfl,vX _⟩,⟨rfl,zaa [0] x⟩,⟨rfl,zaa [0] x2⟩,trivial⟩) rf) (jI h ?_ ?_))))<;>intro uy h
   ·cases h;exact jz'
   refine zal ?_;cases h;exact jy
  cases h;exact zaJ rfl lzz
 rcases q with u| u2
 ·refine zbo _ rfl (jp ?_);obtain rfl:=(sj h);exact zH lzz
 obtain rfl:=(sj h);exact zfe lzz
theorem zhS (uB:Nat):(∀{av:zc} {b:zc} {r:Bool},zfn uB av b=some r->vW 59 [.rc zj [0] av,.rc zj [0] b] [kB r])/\(∀{v:zb} {wv:zb} {r:Bool},zcV uB v wv=some r->vW 95 [.rc zh [0] v,.rc zh [0] wv] [kB r])/\(∀{s1:(List zb)} {s2:(List zb)} {r:Bool},zD uB s1 s2=some r->vW 94 [.sl zh [0] s1,.sl zh [0] s2,.lf (.val (.func (.func 95) #[] #[]))] [kB r])/\(∀{s1:(List zc)} {s2:(List zc)} {r:Bool},zO uB s1 s2=some r->vW 131 [.sl zj [0] s1,.sl zj [0] s2,.lf (.val (.func (.func 59) #[] #[]))] [kB r]):=by
  induction uB with
  | zero=>exact ⟨fun h=>absurd h nofun,fun h=>absurd h nofun,fun h=>absurd h nofun,fun h=>absurd h nofun⟩
  | succ uB ih=>exact ⟨fun h=>zvU (fun hh=>ih.1 hh) (fun hh=>ih.2.1 hh) (fun hh=>ih.2.2.1 hh) (fun hh=>ih.2.2.2 hh) h,fun h=>zpN (fun hh=>ih.1 hh) (fun hh=>ih.2.1 hh) (fun hh=>ih.2.2.1 hh) (fun hh=>ih.2.2.2 hh) h,fun h=>zbD (fun hh=>ih.1 hh) (fun hh=>ih.2.1 hh) (fun hh=>ih.2.2.1 hh) (fun hh=>ih.2.2.2 hh) h,fun h=>zcf (fun hh=>ih.1 hh) (fun hh=>ih.2.1 hh) (fun hh=>ih.2.2.1 hh) (fun hh=>ih.2.2.2 hh) h⟩
theorem zyB (h:zfn uB av b=some r):vW 59 [.rc zj [0] av,.rc zj [0] b] [kB r]:=(zhS uB).1 h
end Go.Proofs.YtkgohoggipdokaaGreat
