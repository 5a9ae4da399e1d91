/-
  The Go functions do what the plain functions say. No condition.
-/
import Derived.Test.YtekgmimingolbaaGreatx2T
import Derived.Test.YtekgmimingolbaaGreatx2Y
set_option autoImplicit true
set_option relaxedAutoImplicit true
namespace Go.Proofs.YtekgmimingolbaaGreat
open Go Go.RowKit
set_option linter.unusedVariables false
set_option maxRecDepth 100000
set_option maxHeartbeats 3200000
theorem znG (h:zfD l=some r):FnOk Tryz.prog 17 [.sl wx [0] l] [kB r]:=by
 refine zz (E:=⟨[(2,kB r)],[]⟩) 21 Tryz.func17 rfl rfl rfl ⟨rfl,trivial⟩ (fun Xt=>?_);refine zq ?_;unfold zfD at h;refine jp (jp (jp (zB (jb h fun q uF h=>zaH (fun s:(Int×Int)=>zby l s.1 s.2) (fun s=>⟨[(0,.sl wx [0] l),(3,kI s.1),(4,kI s.2)],[]⟩) (fun o e a w=>e= .exit 0/\Sx ⟨⟨21,[]⟩,Xt,false,#[]⟩ ⟨[(3,kI o)],[]⟩ a w) ?_ uF lzz ?_))))
 ·clear h;intro s o h;obtain ⟨n,i⟩:=s;refine zq ?_;replace h:zby l n i=some o:=h;unfold zby at h;refine jp (jI h (fun uA h=>?_) fun uA h=>?_)
  ·refine zB (jb h fun x uI h=>jr (ra 4 [.sl wx [0] l,kI i] rfl (zbt rfl zkj.el (zV _ _ _) uI) rfl (ra 0 [.ep wx [0] x 0] rfl (zgf wu x rfl rfl rfl) rfl rf)) (zas (jp ?_)));cases h;exact zal lzz
  cases h;exact zaF rfl lzz
 refine zbj _ rfl (jp ?_);cases h;exact zA lzz
theorem ziN (h:zcs s1 s2=some r):FnOk Tryz.prog 132 [.sl wz [0] s1,.sl wz [0] s2] [kB r]:=by
 refine zz (E:=⟨[(4,kB r)],[]⟩) 26 Tryz.func132 rfl rfl rfl ⟨rfl,trivial⟩ (fun Xt=>?_);refine zq ?_;unfold zcs at h;refine jp (jp (jI h (fun uA h=>?_) fun uA h=>?_))
 ·refine jp ?_;obtain rfl:=(sj h);exact zA lzz
 refine jp (zB (jb h fun q uF h=>zaH (fun s:Int=>zak s1 s2 s) (fun s=>⟨[(0,.sl wz [0] s1),(1,.sl wz [0] s2),(12,kI (s1.length:Int)),(13,kI s)],[]⟩) (fun o e a w=>match o with| (.inl v_)=>e= .exit 0/\Sx ⟨⟨26,[]⟩,Xt,false,#[]⟩ ⟨[],[]⟩ a w| (.inr v_)=>e= .ret/\Sx ⟨⟨26,[]⟩,Xt,false,#[]⟩ ⟨[(4,kB false)],[]⟩ a w) ?_ uF lzz ?_))
 ·clear h;intro v o h;refine zq ?_;replace h:zak s1 s2 v=some o:=h;unfold zak at h;refine jp (jI h (fun uB h=>?_) fun uB h=>?_)
  ·refine zB (jp (jb h fun x uI h=>jb h fun x2 uL h=>jd [0,1,12,13,24] [] zes (by exact (lw_e (lw_e (ly [.sl wz [0] s1,kI v] (zbt rfl zpo.el (zV _ _ _) uI) rfl (lw_e (lw_e (lw_e (ly [.sl wz [0] s2,kI v] (zbt rfl zpo.el (zV _ _ _) uL) rfl l0)))))))) (jI h (fun uE h=>?_) fun uE h=>?_)))
   ·refine jp ?_;cases h;exact zcA lzz
   refine zas (jp ?_);cases h;exact zal lzz
  cases h;exact zaF rfl lzz
 rcases q with u| u2
 ·refine zbj _ rfl (jp ?_);obtain rfl:=(sj h);exact zA lzz
 obtain rfl:=(sj h);exact zfb lzz
theorem zfK (h:zbG s1 s2=some r):FnOk Tryz.prog 100 [.sl Rp.str [0] s1,.sl Rp.str [0] s2] [kB r]:=by
 refine zz (E:=⟨[(4,kB r)],[]⟩) 26 Tryz.func100 rfl rfl rfl ⟨rfl,trivial⟩ (fun Xt=>?_);refine zq ?_;unfold zbG at h;refine jp (jp (jI h (fun uA h=>?_) fun uA h=>?_))
 ·refine jp ?_;obtain rfl:=(sj h);exact zA lzz
 refine jp (zB (jb h fun q uF h=>zaH (fun s:Int=>zaj s1 s2 s) (fun s=>⟨[(0,.sl Rp.str [0] s1),(1,.sl Rp.str [0] s2),(12,kI (s1.length:Int)),(13,kI s)],[]⟩) (fun o e a w=>match o with| (.inl v_)=>e= .exit 0/\Sx ⟨⟨26,[]⟩,Xt,false,#[]⟩ ⟨[],[]⟩ a w| (.inr v_)=>e= .ret/\Sx ⟨⟨26,[]⟩,Xt,false,#[]⟩ ⟨[(4,kB false)],[]⟩ a w) ?_ uF lzz ?_))
 ·clear h;intro v o h;refine zq ?_;replace h:zaj s1 s2 v=some o:=h;unfold zaj at h;refine jp (jI h (fun uB h=>?_) fun uB h=>?_)
  ·refine zB (jp (jb h fun x uI h=>jb h fun x2 uL h=>jd [0,1,12,13,24] [] zes (by exact (lw_e (lw_e (ly [.sl Rp.str [0] s1,kI v] (zbt rfl zmz.el (zV _ _ _) uI) rfl (lw_e (lw_e (lw_e (ly [.sl Rp.str [0] s2,kI v] (zbt rfl zmz.el (zV _ _ _) uL) rfl l0)))))))) (jI h (fun uE h=>?_) fun uE h=>?_)))
   ·refine jp ?_;cases h;exact zcA lzz
   refine zas (jp ?_);cases h;exact zal lzz
  cases h;exact zaF rfl lzz
 rcases q with u| u2
 ·refine zbj _ rfl (jp ?_);obtain rfl:=(sj h);exact zA lzz
 obtain rfl:=(sj h);exact zfb lzz
theorem zkG (wg:∀{x:zb} {r:Int},xb x=some r->FnOk Tryz.prog 34 [.rc zd [0] x] [kI r]) (h:zdg xb x=some r):FnOk Tryz.prog 34 [.rc zd [0] x] [kI r]:=by
 refine zz (E:=⟨[(2,kI r)],[]⟩) 40 Tryz.func34 rfl rfl rfl ⟨rfl,trivial⟩ (fun Xt=>?_);refine zq ?_;unfold zdg at h;refine jr (ra 0 [.rc zd [0] x] rfl (zbw 11 (zj [0] x) [0] rfl rfl rfl (by rw [zn]<;>rfl) rfl) rfl rf) (jp (jp (zB (jb h fun q2 uT h=>zaH (fun s:(Int×Int)=>zaC xb x s.1 s.2) (fun s=>⟨[(1,.ptr 11 0),(3,kI s.1),(4,kI s.2)],[⟨11,27,(zj [0] x)⟩]⟩) (fun o e a w=>e= .exit 0/\Sx ⟨⟨40,[]⟩,Xt,false,#[]⟩ ⟨[(3,kI o)],[]⟩ a w) ?_ uT lzz ?_))))
 ·clear h;intro s o h;obtain ⟨n,i⟩:=s;refine zq ?_;replace h:zaC xb x n i=some o:=h;unfold zaC at h;refine jp (jI h (fun uA h=>?_) fun uA h=>?_)
  ·refine zB (jp (zB (jb h fun q uF h=>zaH (fun s:(Int×Int)=>zaD i xb x s.1 s.2) (fun s=>⟨[(1,.ptr 11 0),(3,kI s.1),(4,kI i),(5,kI s.2)],[⟨11,27,(zj [0] x)⟩]⟩) (fun o e a w=>e= .exit 2/\Sx ⟨⟨40,[]⟩,Xt,false,#[]⟩ ⟨[(1,.ptr 11 0),(3,kI o),(4,kI i)],[⟨11,27,(zj [0] x)⟩]⟩ a w) ?_ uF lzz ?_)))
   ·clear h;intro s o h;obtain ⟨n3,k⟩:=s;refine zq ?_;replace h:zaD i xb x n3 k=some o:=h;unfold zaD at h;refine jb h fun x2 uL h=>jr (ra 4 [.sl zc [0] x.Values,kI i] rfl (zbt rfl zgO.el (zV _ _ _) uL) rfl (ra 1 [.ep zc [0] x2 3] rfl (zgf zd x2.Subs rfl rfl (by rw [zv]<;>rfl)) rfl rf)) (jI h (fun uB h=>?_) fun uB h=>?_)
    ·refine zB (jb h fun x3 uU h=>jb h fun x4 vf h=>jb h fun rv uC h=>jr (ra 4 [.sl zc [0] x.Values,kI i] rfl (zbt rfl zgO.el (zV _ _ _) uU) rfl (ra 1 [.ep zc [0] x3 3] rfl (zgf zd x3.Subs rfl rfl (by rw [zv]<;>rfl)) rfl (ra 1 [.sl zd [0] x3.Subs,kI k] rfl (zbt rfl zgP.el (zV _ _ _) vf) rfl (ra 0 [.ep zd [0] x4 0] rfl (zeT rfl ⟨Tryz.isAgg27,Tryz.sizeOf27⟩) rfl (rl 0 [0] 12 Tryz.call34 (wg uC) rf))))) (zas (jp ?_)));cases h;exact zal lzz
    cases h;exact zaF rfl lzz
   refine zbj _ rfl (zas (jp ?_));cases h;exact zal lzz
  cases h;exact zaF rfl lzz
 refine zbj _ rfl (jp ?_);obtain rfl:=(sj h);exact zA lzz
theorem zhL (h:zaI uH x=some r):FnOk Tryz.prog 34 [.rc zd [0] x] [kI r]:=by
  induction uH generalizing x r with
  | zero=>exact absurd h nofun
  | succ uH ih=>exact zkG (fun hh=>ih hh) h
end Go.Proofs.YtekgmimingolbaaGreat
