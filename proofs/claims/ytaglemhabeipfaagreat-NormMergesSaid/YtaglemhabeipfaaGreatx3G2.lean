/-
  The Go functions do what the plain functions say. No condition.
-/
import Derived.Test.YtaglemhabeipfaaGreatx3G1
import Derived.Test.YtaglemhabeipfaaGreatx3Y
set_option autoImplicit true
set_option relaxedAutoImplicit true
namespace Go.Proofs.YtaglemhabeipfaaGreat
open Tryz
open Go Go.RowKit
set_option linter.unusedVariables false
set_option maxRecDepth 100000
set_option maxHeartbeats 3200000
theorem zxk (h:zlk=some r):vy 131 [] [.own vv 3 2 [] r]:=by
 refine fi 4 func131 fun Xt=>?_
 unfold zlk at h;refine jp (jb h fun rv uo h=>jb h fun v uC h=>jr (rl 0 [1] 11 call168 (zmP uo) (rkl 0 [] ⟨[(1,.om vv zaa 13 [] rv)],[]⟩ (zxQ (rv:=zaa) (m:=rv) 14 zEI rfl rfl rfl rfl rfl rfl call167 call62 rfl (zAt _ _ _ _ _) uC rfl rf))) ?_);obtain rfl:=(sj h);exact zI (lks [] [(14,2)] lzz)
theorem zjS (h:zes uV=some r):vy 169 [kS uV] [kB r]:=by
 refine fi 34 func169 fun Xt=>?_
 unfold zes at h;refine jp (jb h fun g ur h=>jg [0] [] [(15,kB g)] ?_ ?_)
 ·refine (rsI 3 6 ur ?_ ?_)<;>intro ul ur
  ·cases ur;exact rgg
  refine (rsI 5 11 ur ?_ ?_)<;>intro up ur
  ·cases ur;exact rgg
  refine jb ur fun c vp ur=>jb ur fun rv uo ur=>?_;cases ur;exact (ra 1 [kS uV,kI 0] rfl (zzh rfl underlying9 vp) rfl (rl 0 [1] 9 call203 (ziU uo) rgg))
 refine jI h ?_ ?_<;>intro ut h
 ·refine jp ?_;obtain rfl:=(sj h);exact zI lzz
 refine jp (zD (jb h fun q uy h=>jL uy [0,17] [] (fun s=>[(18,kI s)]) (fun| (.inl v_)=> .x 0 ⟨[],[]⟩| (.inr v_)=> .r ⟨[(2,kB false)],[]⟩) ?_ lzz ?_))
 ·clear h;intro v2 o h;unfold zcl at h;refine jp (jI h ?_ ?_)<;>intro uw h
  ·refine zD (jp (jb h fun g2 uK h=>jg [0,17,18] [] [(32,kB g2)] ?_ ?_))
   ·refine jb uK fun c2 vq uK=>jb uK fun vA uu uK=>(ra 2 [kS uV,kI v2] rfl (zzh rfl underlying9 vq) rfl (rl 0 [1] 10 call204 (znv uu) (rsI 2 26 uK ?_ ?_)))<;>intro uB uK
    ·refine jb uK fun c3 vr uK=>jb uK fun vG uz uK=>?_;cases uK;exact (ra 2 [kS uV,kI v2] rfl (zzh rfl underlying9 vr) rfl (rl 0 [1] 10 call203 (ziU uz) rgg))
    cases uK;exact rgg
   refine jI h ?_ ?_<;>intro uE h
   ·cases h;exact jz'
   refine zaA ?_;cases h;exact jy
  cases h;exact zcc rfl lzz
 rcases q with u| u2
 ·refine zdp _ rfl (jp ?_);obtain rfl:=(sj h);exact zI lzz
 obtain rfl:=(sj h);exact zpo lzz
theorem zht (h:zaZ sv v=some r):vy 171 [.sl vv [0] sv,kI v] [kB r]:=by
 refine fi 9 func171 fun Xt=>?_
 unfold zaZ at h;refine jp (jb h fun rv uo h=>jr (rl 2 [0] 9 call205 (ziC uo) rf) ?_);cases h;exact zI lzz
theorem zoa (h:zhS k=some r):vy 192 [kI k] [kI r.1,k8 r.2]:=by
 refine fi 16 func192 fun Xt=>?_
 unfold zhS at h;refine jp (jb h fun rv uo h=>jr (rl 0 [1] 9 call168 (zmP uo) (ra 1 [.om vv zaa 11 [] rv,kI k] rfl (zmh (rk:=vv) (rv:=zaa) (m:=rv) (k:=k) (.rc zaa [] ((mget rv k).getD (⟨[],0⟩:zq))) rfl zdn (zcJ rfl rfl) (zvu rfl)) rfl (rfl' [12]))) (jp (jI h ?_ ?_)))<;>intro ul h
 ·cases h;exact jz
 cases h;exact jz
theorem zoJ (h:zhZ t=some r):vy 183 [.rc zaP [0] t] [kB r]:=by
 refine fi 16 func183 fun Xt=>?_
 unfold zhZ at h;refine jq [11] (jb h fun g ur h=>jg [] [] [(2,kB g)] ?_ ?_)
 ·refine (rsI 4 6 ur ?_ ?_)<;>intro ul ur
  ·refine (rsI 5 11 ur ?_ ?_)<;>intro up ur
   ·refine jb ur fun rv uo ur=>?_;cases ur;exact (rl 2 [1] 10 call209 (zpL uo) rgg)
   cases ur;exact rgg
  cases ur;exact rgg
 obtain rfl:=(sj h);exact zI lzz
theorem zlX (h:zfK b=some r):vy 184 [.sl Rp.byte [0] b] [kI r.1,k8 r.2]:=by
 refine fi 15 func184 fun Xt=>?_
 unfold zfK at h;refine jp (jb h fun rv uo h=>jr (rl 1 [0] 9 call182 (zgm uo) rf) ?_);cases h;exact jz
theorem zcy (h:zV sv v=some r):vy 134 [.sl zb [0] sv,.fv 190 [.ep vv [0] v 0]] [kI r]:=by
 refine fi 19 func134 fun Xt=>?_
 unfold zV at h;refine jp (jp (zD (jb h fun q uy h=>jL uy [0,1,7] [] (fun s=>[(8,kI s)]) (fun| (.inl v_)=> .x 0 ⟨[],[]⟩| (.inr v_)=> .r ⟨[(4,kI v_)],[]⟩) ?_ lzz ?_)))
 ·clear h;intro v2 o h;unfold zx at h;refine jp (jI h ?_ ?_)<;>intro ul h
  ·refine zD (jp (jb h fun x uA h=>jb h fun rv uo h=>jr (rx 3 [0] zqx.el uA rfl rfl (rc 0 rfl (lde zb [0] x zpQ) (ra 0 [.fv 190 [.ep vv [0] v 0],.rc zb [0] x] rfl (zDW (args:=[.tmp 15]) [.rc zb [0] x] [0] 10 rfl (zFI _ _) call190 (zqM uo) rfl rfl rfl rfl rfl) rfl rf))) (jI h ?_ ?_)))<;>intro up h
   ·cases h;exact jz'
   refine zaA ?_;cases h;exact jy
  cases h;exact zcc rfl lzz
 rcases q with u| u2
 ·refine zdp _ rfl ?_;cases h;exact jz
 obtain rfl:=(sj h);exact zpo lzz
theorem zru (h:zhb wv=some r):vy 211 [kU wv] [.lf (.int .i32 r)]:=by
 refine fi 6 func211 fun Xt=>?_
 unfold zhb at h;refine jp (jb h fun rv uo h=>jr (rl 1 [1] 9 call212 (zmL uo) rf) ?_);cases h;exact zI lzz
theorem zqt (h:zka b=some r):vy 220 [.sl Rp.byte [0] b] [kI r]:=by
 refine fi 48 func220 fun Xt=>?_
 unfold zka at h;refine jp (jp (jI h ?_ ?_))<;>intro ul h
 ·cases h;exact jz
 refine jb h fun x uA h=>jb h fun rv uo h=>jr (rx 1 [0] zbd.el uA rfl rfl (rl 1 [1] 9 call221 (zyl uo) rf)) (jg [0,3,4] [] [(24,kB ((rv.1==0)|| (decide (rv.1>(b.length:Int)))))] ?_ ?_)
 ·refine (rsl 3 [] 19 (rv.1==0) ?_ ?_)<;>intro up
  · exact (rbl [] 24 true rfl (by grind))
  exact (rbl [] 24 (decide (rv.1>(b.length:Int))) rfl (by grind))
 refine jI h ?_ ?_<;>intro ut h
 ·cases h;exact jz
 refine jb h fun v2 uJ h=>jr (ra 2 [.sl Rp.byte [0] b,kI 1,kI rv.1] rfl (zgE (some (kI 1)) (some (kI rv.1)) rfl zbd.el (zcb _ _ _) ⟨rfl,rfl⟩ ⟨rfl,rfl⟩ uJ) rfl rf) (zD (jb h fun q uy h=>jL uy [3,27,28] [] (fun s=>[(4,.lf (.int .u32 s.1)),(29,kI s.2)]) (fun| (.inl v_)=> .X 0 [3] [] [(4,.lf (.int .u32 v_))] []| (.inr v_)=> .r ⟨[(2,kI 0)],[]⟩) ?_ lzz ?_))
 ·clear h;intro s o h;obtain ⟨wv,v3⟩:=s;replace h:zdV v2 wv v3=some o:=h;unfold zdV at h;refine jp (jI h ?_ ?_)<;>intro uw h
  ·refine zD (jb h fun x2 uL h=>jr (rx 0 [0] zbd.el uL rfl rfl rf) (jr (ra 1 [k8 (x2.toNat:Int),kU 6] rfl (zfX rfl rfl) rfl rf) (jI h ?_ ?_)))<;>intro uB h
   ·cases h;exact jz'
   refine jr (ra 1 [.lf (.int .u32 wv),kU 6] rfl (zvH rfl rfl) rfl rf) (zaA ?_);cases h;exact jy
  cases h;exact zcc rfl lzz
 rcases q with u| u2
 ·refine zdp _ rfl (jb h fun vA uu h=>jr (rl 2 [1] 10 call222 (zyk uu) rf) (jI h ?_ ?_))<;>intro uE h
  ·cases h;exact jz
  cases h;exact jz
 cases h;exact zpo lzz
theorem zqG (h:zgg b=some r):vy 216 [.sl Rp.byte [0] b] [kU r.1,k8 r.2]:=by
 refine fi 22 func216 fun Xt=>?_
 unfold zgg at h;refine jp (jb h fun rv uo h=>jr (rl 1 [0] 9 call182 (zgm uo) rf) (jg [4] [] [(20,kB ((rv.2.2 !=0)|| (rv.2.1 !=(b.length:Int))))] ?_ ?_))
 ·refine (rsl 3 [] 15 (rv.2.2 !=0) ?_ ?_)<;>intro ul
  · exact (rbl [] 20 true rfl (by grind))
  exact (rbl [] 20 (rv.2.1 !=(b.length:Int)) rfl (by grind))
 refine jI h ?_ ?_<;>intro up h
 ·cases h;exact jz
 cases h;exact jz
theorem zjp (h:zfv b wv=some r):vy 178 [.sl Rp.byte [0] b,kU wv] [.own Rp.byte 5 2 [] r]:=by
 refine fi 30 func178 fun Xt=>?_
 unfold zfv at h;refine jp (jb h fun rv uo h=>jb h fun v uC h=>jr (rl 3 [1] 10 call187 (zpS uo) (ra 1 [kI 0,kI (IntKind.i64.wrap ((b.length:Int)+rv))] rfl (zAI 12 rfl zbd rfl uC) rfl rf)) (jb h fun v2 uJ h=>jr (rc 2 rfl (las 12 [] [0] [] zbd.el uJ (.inl zbN)) rf) (zD (jb h fun q uy h=>jL uy [] [] (fun s=>[(1,kU s.1),(5,.own Rp.byte 5 12 [] s.2)]) (fun o=> .x 0 ⟨[(1,kU o.1),(5,.own Rp.byte 5 12 [] o.2)],[]⟩) ?_ lzz ?_))))
 ·clear h;intro s o h;obtain ⟨vI,l⟩:=s;replace h:zdF vI l=some o:=h;unfold zdF at h;refine jp (jI h ?_ ?_)<;>intro ul h
  ·refine zD (jb h fun y ve h=>jb h fun v3 uG h=>jr (rc 4 rfl (zy.lw (ziq [.lf (.int .u8 (y.toNat:Int))] 14 [] [y] rfl zbd rfl rfl rfl rfl) (.l (zAC ve))) (rc 0 rfl (lao 12 [] 5 14 [] [] zbd.el uG (.inl zbN)) rf)) (zaA (jr (ra 1 [kU vI,kU 7] rfl (zfX rfl rfl) rfl rf) ?_)));cases h;exact zaT lzz
  cases h;exact zcc rfl lzz
 refine zdp _ rfl (jb h fun y2 uS h=>jb h fun v4 uN h=>jr (rc 3 rfl (zy.lw (ziq [.lf (.int .u8 (y2.toNat:Int))] 15 [] [y2] rfl zbd rfl rfl rfl rfl) (.l (zAC uS))) (rc 0 rfl (lao 12 [] 5 15 [] [] zbd.el uN (.inl zbN)) rf)) ?_);obtain rfl:=(sj h);exact zI (lks [] [(12,2)] lzz)
theorem zcx (h:zas vZ=some r):vy 71 [.sl (Rp.list Rp.byte) [0] vZ] [.own Rp.byte 5 2 [] r]:=by
 refine fi 36 func71 fun Xt=>?_
 unfold zas at h;refine jp (jp (jp (zD (jb h fun q uy h=>jL uy [0,9,10] [] (fun s=>[(3,kI s.1),(11,kI s.2)]) (fun o=> .X 0 [0] [] [(3,kI o)] []) ?_ lzz ?_))))
 ·clear h;intro s o h;obtain ⟨size,v⟩:=s;replace h:zaf vZ size v=some o:=h;unfold zaf at h;refine jp (jI h ?_ ?_)<;>intro ul h
  ·refine zD (jb h fun x uA h=>jr (rx 0 [0] zyB.el uA rfl rfl (rc 0 rfl (ldl (Rp.list Rp.byte) [0] x 0 Rp.byte x) rf)) (jp (jp (jI h ?_ ?_))))<;>intro up h
   · exact absurd h nofun
   refine zaA ?_;cases h;exact jy
  cases h;exact zcc rfl lzz
 refine zdp _ rfl (jb h fun rv uo h=>jr (rl 1 [1] 12 call105 (zhM uo) rf) (jp (zD (jb h fun q2 uQ h=>jL uQ [25,26] [] (fun s=>[(6,.own Rp.byte 5 14 [] s.1),(27,kI s.2)]) (fun o=> .x 2 ⟨[(6,.own Rp.byte 5 14 [] o)],[]⟩) ?_ lzz ?_))))
 ·clear h;intro s o h;obtain ⟨wa,v2⟩:=s;replace h:zag vZ wa v2=some o:=h;unfold zag at h;refine jp (jI h ?_ ?_)<;>intro ut h
  ·refine zD (jb h fun x2 uL h=>jr (rx 0 [0] zyB.el uL rfl rfl (rc 0 rfl (ldl (Rp.list Rp.byte) [0] x2 0 Rp.byte x2) rf)) (jb h fun v3 uG h=>jr (rc 2 rfl (las 14 [] [0] [] zbd.el uG (.inl zbN)) rf) (zaA ?_)));cases h;exact jy
  cases h;exact zcc rfl lzz
 refine zdp _ rfl (jp ?_);obtain rfl:=(sj h);exact zI (lks [] [(14,2)] lzz)
end Go.Proofs.YtaglemhabeipfaaGreat
