/-
  The Go functions do what the plain functions say. No condition.
-/
import Derived.Test.YtekgmimingolbaaGreatx1G2
import Derived.Test.YtekgmimingolbaaGreatx1G3
set_option autoImplicit true
set_option relaxedAutoImplicit true
namespace Go.Proofs.YtekgmimingolbaaGreat
open Go Go.RowKit
set_option linter.unusedVariables false
set_option maxRecDepth 100000
set_option maxHeartbeats 3200000
theorem zqI (h:zhe b atv=some r):FnOk Tryz.prog 118 [.sl Rp.byte [0] b,kI atv] [kI r.1,kI r.2.1,kI r.2.2.1,kI r.2.2.2]:=by
 refine zy (E:=⟨[(4,kI r.1),(5,kI r.2.1),(6,kI r.2.2.1),(7,kI r.2.2.2)],[]⟩) 40 Tryz.func118 rfl rfl rfl ⟨rfl,rfl,rfl,rfl,trivial⟩ (fun Xt=>?_);refine zm ?_;unfold zhe at h;refine jp (jb h fun rv uZ h=>jr (rl 2 [0] 9 Tryz.call119 (ziT uZ) rf) (jp (jI h (fun uW h=>?_) fun uW h=>?_)))
 ·refine jp ?_;cases h;exact zw lzz
 refine jb h fun g uX h=>zab ⟨[(8,kU rv.1),(9,kI rv.2.1),(32,kB g)],[]⟩ ?_ ?_
 ·refine (rsl 3 [] 23 (decide (rv.1>4294967295)) (fun uY=>?_) (fun uY=>?_))
  ·replace uX:=iteT uX uY;cases uX;exact rgg
  replace uX:=iteF uX uY;refine jb uX fun rv2 vj uX=>?_;cases uX;exact (rl 6 [1] 9 Tryz.call151 (zqd vj) rgg)
 refine jI h (fun u9 h=>?_) fun u9 h=>?_
 ·refine jp ?_;cases h;exact zw lzz
 refine jp ?_;cases h;exact zw lzz
theorem zhA (h:zdy x v=some r):FnOk Tryz.prog 44 [.rc zd [0] x,.rc zb [0] v] [.ag (zdl 3 [4,0,5] [0] r)]:=by
 refine zy (E:=⟨[(4,.ptr 2 0)],[⟨2,33,(zdl 3 [4,0,5] [0] r)⟩]⟩) 68 Tryz.func44 rfl rfl rfl ⟨⟨_,_,rfl,rfl,rfl,⟨Tryz.isAgg33,Tryz.sizeOf33⟩⟩,trivial⟩ (fun Xt=>?_);refine zm ?_;unfold zdy at h;refine jr (ra 0 [.rc zd [0] x] rfl (zbc 28 (zh [0] x) [0] rfl rfl rfl (by rw [zk]<;>rfl) rfl) rfl (ra 0 [.rc zb [0] v] rfl (zbc 29 (zi [0] v) [0] rfl rfl rfl (by rw [zn]<;>rfl) rfl) rfl (rfl' [30]))) (jr (ra 2 [.sl Rp.str [0] x.Unknown] rfl (zbK [.sl Rp.str [0] x.Unknown] [kN,.sl Rp.str [0] x.Unknown] rfl zCa rfl) rfl (rfl' [31])) (jb h fun rv uZ h=>jr (rc 1 rfl (zA.le (ins':=[(.tmp 11,.ag (zi [0] v))]) (zQ (args:=[.tmp 11]) [.rc zb [0] v] [0] 30 rfl Tryz.call26 (ziU uZ) rfl rfl rfl rfl rfl) ⟨⟨rfl,zV [0] v⟩,trivial⟩) rf) (jp (zv (jb h fun q vc h=>zac (fun s:(Bool×Int×(List za))=>zcf v x s.1 s.2.1 s.2.2) (fun s=>⟨[(2,.ptr 28 0),(3,.ptr 29 0),(4,.ptr 30 0),(5,.ptr 31 0),(6,kB s.1),(7,kI s.2.1)],[⟨28,33,(zh [0] x)⟩,⟨29,59,(zi [0] v)⟩,⟨30,33,[kN,kN]⟩,⟨31,33,[.own zb 59 34 [32,0] s.2.2,.sl Rp.str [0] x.Unknown]⟩]⟩) (fun o e a w=>e= .exit 0/\Sx ⟨⟨68,[]⟩,Xt,false,#[]⟩ ⟨[(3,.ptr 29 0),(4,.ptr 30 0),(5,.ptr 31 0),(6,kB o.1)],[⟨29,59,(zi [0] v)⟩,⟨30,33,[kN,kN]⟩,⟨31,33,[.own zb 59 34 [32,0] o.2,.sl Rp.str [0] x.Unknown]⟩]⟩ a w) ?_ vc ?_ ?_)))))
 ·clear h;intro s o h;obtain ⟨done,i,f⟩:=s;refine zm ?_;replace h:zcf v x done i f=some o:=h;unfold zcf at h;refine jp (jI h (fun uW h=>?_) fun uW h=>?_)
  ·refine zv (jb h fun g uX h=>zeg (R:=fun e a w=>e= .normal/\Sx ⟨⟨68,[]⟩,Xt,false,#[]⟩ ⟨[(2,.ptr 28 0),(3,.ptr 29 0),(4,.ptr 30 0),(5,.ptr 31 0),(6,kB done),(7,kI i),(33,kB g)],[⟨28,33,(zh [0] x)⟩,⟨29,59,(zi [0] v)⟩,⟨30,33,[kN,kN]⟩,⟨31,33,[.own zb 59 34 [32,0] f,.sl Rp.str [0] x.Unknown]⟩]⟩ a w) ?_ (zgp ?_))
   ·refine zm ?_;rcases yu (!done) with uY| uY
    ·replace uX:=iteT uX uY;refine jb uX fun x2 vk uX=>?_;cases uX;exact jd [2,3,4,5,6,7,33] [28,29,30,31] zbh (by exact (lw_e (lw_e (lx (zbE ⟨[(22,kB (!done))],[]⟩ (by kernel_rfl) uY) (lw_e (lw_e (lw_e (ly [.sl zb [0] x.Values,kI i] (zai rfl zih.el (zC _ _ _) vk) rfl (lw_e (ly [.ep zb [0] x2 0] (zqW (.int .i64 x2.Number) rfl rfl (by rw [zn]<;>rfl) rfl) rfl l0)))))))))) (zH lzz)
    replace uX:=iteF uX uY;cases uX;exact jd [2,3,4,5,6,7,33] [28,29,30,31] zbh (by exact (lw_e (lw_e (lx (zbE ⟨[(22,kB (!done))],[]⟩ (by kernel_rfl) uY) l0)))) (zH lzz)
   refine jb h fun p vJ h=>zeg (R:=fun e a w=>e= .normal/\Sx ⟨⟨68,[]⟩,Xt,false,#[]⟩ ⟨[(2,.ptr 28 0),(3,.ptr 29 0),(4,.ptr 30 0),(5,.ptr 31 0),(6,kB p.1),(7,kI i)],[⟨28,33,(zh [0] x)⟩,⟨29,59,(zi [0] v)⟩,⟨30,33,[kN,kN]⟩,⟨31,33,[.own zb 59 34 [32,0,41] p.2,.sl Rp.str [0] x.Unknown]⟩]⟩ a w) ?_ ?_
   ·replace h:=vJ;refine zm (jI h (fun u9 h=>?_) fun u9 h=>?_)
    ·refine jb h fun v3 vB h=>jr (rc 3 rfl (zA.le (ins':=[(.tmp 36,.ag (zi [0] v))]) (zbX [.rc zb [0] v] 42 [0] ([v]:(List za)) rfl zih rfl rfl rfl (by simp only [ziL,zeJ,zfC,zn,xN,yo]<;>rfl)) ⟨⟨rfl,zV [0] v⟩,trivial⟩) (ra 0 [.own zb 59 34 [32,0] f,.own zb 59 42 [0] ([v]:(List za))] rfl (zeR 34 [32,0,42] rfl zih.el rfl (zbu _ _ _ _ _) (zfL _ _ _ _ _) vB (.inr rfl) rfl) rfl rf)) (jp ?_);cases h;exact zH (lk [2,3,4,5,6,7] [28,29,30,31] 42 41 lzz)
    cases h;exact zH (lq ⟨[(2,.ptr 28 0),(3,.ptr 29 0),(4,.ptr 30 0),(5,.ptr 31 0),(6,kB done),(7,kI i)],[⟨28,33,(zh [0] x)⟩,⟨29,59,(zi [0] v)⟩,⟨30,33,[kN,kN]⟩,⟨31,33,[.own zb 59 34 [32,0] f,.sl Rp.str [0] x.Unknown]⟩]⟩ (zaN 31 0 (.own zb 59 34 [32,0,41] f) rfl rfl (zdz _ _ _ _ _ _ rfl rfl) lzz))
   refine zgp (jb h fun x3 vo h=>jd [2,3,4,5,6,7,48] [28,29,30,31] zbh (by exact (lw_e (lw_e (lw_e (ly [.sl zb [0] x.Values,kI i] (zai rfl zih.el (zC _ _ _) vo) rfl (lw_e (ly [.ep zb [0] x3 0] (zqW (.int .i64 x3.Number) rfl rfl (by rw [zn]<;>rfl) rfl) rfl l0))))))) (jI h (fun vd h=>?_) fun vd h=>?_))
   ·refine jb h fun x4 vC h=>jb h fun v4 vO h=>jd [2,3,4,5,6,7] [28,29,30,31] zbh (by exact (lw_e (lw_e (lw_e (lw_e (lw_e (ly [.sl zb [0] x.Values,kI i] (zai rfl zih.el (zC _ _ _) vC) rfl (ly [.ep zb [0] x4 0] (zcr rfl ⟨Tryz.isAgg59,Tryz.sizeOf59⟩) rfl (lx (zbX [.rc zb [0] x4] 43 [0] ([x4]:(List za)) rfl zih rfl rfl rfl (by simp only [ziL,zeJ,zfC,zn,xN,yo]<;>rfl)) (ly [.own zb 59 34 [32,0,41] p.2,.own zb 59 43 [0] ([x4]:(List za))] (zA.withBx (zeR 34 [32,0,41,43] rfl zih.el rfl (zbu _ _ _ _ _) (zfL _ _ _ _ _) vO (.inr rfl) rfl) ⟨31,33,[.own zb 59 34 [32,0,41] p.2,.sl Rp.str [0] x.Unknown]⟩ rfl rfl) rfl (lw_e (ly [.ptr 31 0,.own zb 59 34 [32,0,41,43] v4] (zsO (b:=⟨31,33,[.any,.sl Rp.str [0] x.Unknown]⟩) (off:=0) rfl Tryz.sizeOf31 rfl rfl rfl) rfl l0)))))))))))) (zX (jp ?_));cases h;exact zH (lk [2,3,4,5,6,7] [28,29,30,31] 41 32 (lk [2,3,4,5,6,7] [28,29,30,31] 43 32 (lq ⟨[(2,.ptr 28 0),(3,.ptr 29 0),(4,.ptr 30 0),(5,.ptr 31 0),(6,kB p.1),(7,kI (IntKind.i64.wrap (i+1)))],[⟨28,33,(zh [0] x)⟩,⟨29,59,(zi [0] v)⟩,⟨30,33,[kN,kN]⟩,⟨31,33,[.own zb 59 34 [32,0,32,32] v4,.sl Rp.str [0] x.Unknown]⟩]⟩ (zaN 31 0 (.own zb 59 34 [32,0] v4) rfl rfl (zdz _ _ _ _ _ _ rfl rfl) lzz))))
   refine zX (jp ?_);cases h;exact zH (lk [2,3,4,5,6,7] [28,29,30,31] 41 32 (lq ⟨[(2,.ptr 28 0),(3,.ptr 29 0),(4,.ptr 30 0),(5,.ptr 31 0),(6,kB p.1),(7,kI (IntKind.i64.wrap (i+1)))],[⟨28,33,(zh [0] x)⟩,⟨29,59,(zi [0] v)⟩,⟨30,33,[kN,kN]⟩,⟨31,33,[.own zb 59 34 [32,0,32] p.2,.sl Rp.str [0] x.Unknown]⟩]⟩ (zaN 31 0 (.own zb 59 34 [32,0] p.2) rfl rfl (zdz _ _ _ _ _ _ rfl rfl) lzz)))
  cases h;exact zad rfl lzz
 ·exact lq ⟨[(2,.ptr 28 0),(3,.ptr 29 0),(4,.ptr 30 0),(5,.ptr 31 0),(6,kB (rv==0)),(7,kI 0)],[⟨28,33,(zh [0] x)⟩,⟨29,59,(zi [0] v)⟩,⟨30,33,[kN,kN]⟩,⟨31,33,[kN,.sl Rp.str [0] x.Unknown]⟩]⟩ (zaN 31 0 (.own zb 59 34 [32,0] []) rfl rfl (zaT zb 59 34 [32,0] rfl) lzz)
 refine zas _ rfl (jp (jI h (fun vh h=>?_) fun vh h=>?_))
 ·refine jb h fun v5 wx h=>jr (rc 3 rfl (zA.le (ins':=[(.tmp 63,.ag (zi [0] v))]) (zbX [.rc zb [0] v] 44 [0] ([v]:(List za)) rfl zih rfl rfl rfl (by simp only [ziL,zeJ,zfC,zn,xN,yo]<;>rfl)) ⟨⟨rfl,zV [0] v⟩,trivial⟩) (ra 0 [.own zb 59 34 [32,0] q.2,.own zb 59 44 [0] ([v]:(List za))] rfl (zeR 34 [32,0,44] rfl zih.el rfl (zbu _ _ _ _ _) (zfL _ _ _ _ _) wx (.inr rfl) rfl) rfl rf)) (jp ?_);cases h;exact zw (lk [4] [30] 30 2 (lk [4] [2] 34 3 (lk [4] [2] 32 5 (lk [4] [2] 44 5 (lq ⟨[(4,.ptr 2 0)],[⟨2,33,[.own zb 59 3 [5,0,5] v5,.sl Rp.str [0] x.Unknown]⟩]⟩ (zaN 2 0 (.own zb 59 3 [4,0,5] ((⟨v5,x.Unknown⟩:zc):zc).Values) rfl rfl (zdz _ _ _ _ _ _ rfl rfl) lzz))))))
 refine jp ?_;cases h;exact zw (lk [4] [30] 30 2 (lk [4] [2] 34 3 (lk [4] [2] 32 5 (lq ⟨[(4,.ptr 2 0)],[⟨2,33,[.own zb 59 3 [5,0] q.2,.sl Rp.str [0] x.Unknown]⟩]⟩ (zaN 2 0 (.own zb 59 3 [4,0,5] ((⟨q.2,x.Unknown⟩:zc):zc).Values) rfl rfl (zdz _ _ _ _ _ _ rfl rfl) lzz)))))
end Go.Proofs.YtekgmimingolbaaGreat
