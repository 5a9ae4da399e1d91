/-
  The Go functions do what the plain functions say. No condition.
-/
import Derived.Test.YtekgmimingolbaaGreatx1G4
import Derived.Test.YtekgmimingolbaaGreatx1G5
set_option autoImplicit true
set_option relaxedAutoImplicit true
namespace Go.Proofs.YtekgmimingolbaaGreat
open Go Go.RowKit
set_option linter.unusedVariables false
set_option maxRecDepth 100000
set_option maxHeartbeats 3200000
theorem zly (h:zdm s1 s2=some r):FnOk Tryz.prog 71 [.sl (Rp.int .i64) [0] s1,.sl (Rp.int .i64) [0] s2] [kI r]:=by
 refine zu (E:=⟨[(4,kI r)],[]⟩) 36 Tryz.func71 rfl rfl rfl ⟨rfl,trivial⟩ (fun Xt=>?_);refine zj ?_;unfold zdm at h;refine jp (jp (zq ?_));obtain ⟨q,uJ,h⟩:=bnd h;refine zW (fun s:Int=>zad s1 s2 s) (fun s=>⟨[(0,.sl (Rp.int .i64) [0] s1),(1,.sl (Rp.int .i64) [0] s2),(9,.sl (Rp.int .i64) [0] s1),(10,kI (s1.length:Int)),(11,kI s)],[]⟩) (fun o e a w=>match o with| (.inl v_)=>e= .exit 0/\Sx ⟨⟨36,[]⟩,Xt,false,#[]⟩ ⟨[(0,.sl (Rp.int .i64) [0] s1),(1,.sl (Rp.int .i64) [0] s2)],[]⟩ a w| (.inr v_)=>e= .ret/\Sx ⟨⟨36,[]⟩,Xt,false,#[]⟩ ⟨[(4,kI v_)],[]⟩ a w) ?_ uJ lzz ?_
 ·clear h;intro v o h;refine zj ?_;replace h:zad s1 s2 v=some o:=h;unfold zad at h;refine jp (jI h (fun uC h=>?_) fun uC h=>?_)
  ·refine zq ?_;obtain ⟨x,uM,h⟩:=bnd h;refine jr (ra 1 [.sl (Rp.int .i64) [0] s1,kI v] rfl (zP rfl zhz.el (zw _ _ _) uM) rfl rf) (jp (jI h (fun uD h=>?_) fun uD h=>?_))
   ·refine jp ?_;cases h;exact zaK lzz
   obtain ⟨x2,uP,h⟩:=bnd h;refine jr (ra 2 [.sl (Rp.int .i64) [0] s2,kI v] rfl (zP rfl zhz.el (zw _ _ _) uP) rfl rf) ?_;obtain ⟨rv,uF,h⟩:=bnd h;refine jr (rl 2 [1] 10 Tryz.call106 (zrw uF) rf) (jp (jI h (fun uE h=>?_) fun uE h=>?_))
   ·refine jp ?_;cases h;exact zaK lzz
   refine zQ (jp ?_);cases h;exact zD lzz
  cases h;exact zX rfl lzz
 rcases q with u| u2
 ·refine zaj _ rfl (jp (jI h (fun uI h=>?_) fun uI h=>?_))
  ·refine jp ?_;cases h;exact zt lzz
  refine jp ?_;cases h;exact zt lzz
 obtain rfl:=(sj h);exact zcN lzz
theorem zfr (h:zay v=some r):FnOk Tryz.prog 103 [.fv 105 [.ep (Rp.list (Rp.list (Rp.int .i64))) [0] v 0]] [.own (Rp.list (Rp.int .i64)) 53 2 [3,0] r]:=by
 refine zu (E:=⟨[(2,.own (Rp.list (Rp.int .i64)) 53 2 [3,0] r)],[]⟩) 5 Tryz.func103 rfl rfl rfl ⟨rfl,trivial⟩ (fun Xt=>?_);refine zj ?_;unfold zay at h;refine jp ?_;obtain ⟨rv,uF,h⟩:=bnd h;refine jr (rl 1 [0] 11 Tryz.call135 (zdN uF) rf) ?_;obtain rfl:=(sj h);exact zt (lk [2] [] 13 2 (lk [2] [] 14 3 lzz))
theorem zou (h:zfq c m=some r):zpW Tryz.prog 140 [.ag [kI c.size,.sl (Rp.int .i64) [0] c.kinds,.om zp Rp.bool 2 [0] c.names,.om zo Rp.bool 3 [0] c.numbers],.rc zh [0] m] [kI r.1] [.ag [.any,.any,.om zp Rp.bool 2 [0] r.2.1,.om zo Rp.bool 3 [0] r.2.2],.any]:=by
 refine ztL (E:=⟨[(0,.ag [.any,.any,.om zp Rp.bool 2 [0] r.2.1,.om zo Rp.bool 3 [0] r.2.2]),(4,kI r.1)],[]⟩) 27 [0] Tryz.func140 rfl rfl rfl ⟨rfl,trivial⟩ ⟨.inr ⟨rfl,rfl⟩,.inl rfl,trivial⟩ rfl (fun Xt old=>?_);refine zj ?_;unfold zfq at h;refine jr (ral 1 [11] [.rc zh [0] m] rfl (zbL 12 [kS m.Name,.sl zf [0] m.Fields] [0] rfl rfl rfl rfl rfl) rfl rf) (jr (rc 2 rfl (zaD (r:=zp) [kI (-1),kS m.Name] [] (⟨(-1),m.Name⟩:zm) rfl zGO rfl rfl) (rfl' [13])) (zq ?_));obtain ⟨rv,uF,h⟩:=bnd h;refine jr (rl 2 [1] 12 Tryz.call172 (zov uF) rf) (jI h (fun uC h=>?_) fun uC h=>?_)
 ·refine jp ?_;cases h;exact zps (zaJ ⟨[(0,.ag [kI c.size,.sl (Rp.int .i64) [0] c.kinds,.om zp Rp.bool 2 [0] c.names,.om zo Rp.bool 3 [0] c.numbers]),(4,kI 2)],[]⟩ (by kernel_rfl) (zdk 0 (.ag [.any,.any,.om zp Rp.bool 2 [0] ((2,c.names,c.numbers):(Int×(List (zm×Bool))×(List (zn×Bool)))).2.1,.om zo Rp.bool 3 [0] ((2,c.names,c.numbers):(Int×(List (zm×Bool))×(List (zn×Bool)))).2.2]) rfl (zlh ⟨zfS _,zfS _,AV.le_refl _,AV.le_refl _,trivial⟩) lzz))
 refine jr (lb 2 zp [] (⟨(-1),m.Name⟩:zm) (ra 0 [.om zp Rp.bool 2 [0] c.names,.rc zp [] (⟨(-1),m.Name⟩:zm)] rfl (zqt (rk:=zp) (rv:=Rp.bool) (m:=c.names) (k:=(⟨(-1),m.Name⟩:zm)) (kB ((mget c.names (⟨(-1),m.Name⟩:zm)).getD false)) rfl zve (zdD rfl) (zoV rfl rfl rfl)) rfl rf)) (jI h (fun uD h=>?_) fun uD h=>?_)
 ·refine jp ?_;cases h;exact zps (zaJ ⟨[(0,.ag [kI c.size,.sl (Rp.int .i64) [0] c.kinds,.om zp Rp.bool 2 [0] c.names,.om zo Rp.bool 3 [0] c.numbers]),(4,kI 3)],[]⟩ (by kernel_rfl) (zdk 0 (.ag [.any,.any,.om zp Rp.bool 2 [0] ((3,c.names,c.numbers):(Int×(List (zm×Bool))×(List (zn×Bool)))).2.1,.om zo Rp.bool 3 [0] ((3,c.names,c.numbers):(Int×(List (zm×Bool))×(List (zn×Bool)))).2.2]) rfl (zlh ⟨zfS _,zfS _,AV.le_refl _,AV.le_refl _,trivial⟩) lzz))
 refine jp (jI h (fun uE h=>?_) fun uE h=>?_)
 ·refine jp ?_;cases h;exact zps (zaJ ⟨[(0,.ag [kI c.size,.sl (Rp.int .i64) [0] c.kinds,.om zp Rp.bool 2 [0] c.names,.om zo Rp.bool 3 [0] c.numbers]),(4,kI 4)],[]⟩ (by kernel_rfl) (zdk 0 (.ag [.any,.any,.om zp Rp.bool 2 [0] ((4,c.names,c.numbers):(Int×(List (zm×Bool))×(List (zn×Bool)))).2.1,.om zo Rp.bool 3 [0] ((4,c.names,c.numbers):(Int×(List (zm×Bool))×(List (zn×Bool)))).2.2]) rfl (zlh ⟨zfS _,zfS _,AV.le_refl _,AV.le_refl _,trivial⟩) lzz))
 refine zQ (jr (lb 2 zp [] (⟨(-1),m.Name⟩:zm) (rkl 0 [] ⟨[(0,.ag [kI c.size,.sl (Rp.int .i64) [0] c.kinds,.om zp Rp.bool 2 [0] c.names,.om zo Rp.bool 3 [0] c.numbers]),(25,.om zp Rp.bool 2 [0] c.names),(26,.rc zp [] (⟨(-1),m.Name⟩:zm))],[]⟩ (zlP ⟨[(0,.ag [kI c.size,.sl (Rp.int .i64) [0] c.kinds,.om zp Rp.bool 2 [0] (mput c.names (⟨(-1),m.Name⟩:zm) true),.om zo Rp.bool 3 [0] c.numbers]),(25,.om zp Rp.bool 2 [0] (mput c.names (⟨(-1),m.Name⟩:zm) true)),(26,.rc zp [] (⟨(-1),m.Name⟩:zm))],[]⟩ (ztm (rk:=zp) (rv:=Rp.bool) (m:=c.names) (ℓ:=2) (C:=[0]) (C1:=[]) (D:=[]) (⟨(-1),m.Name⟩:zm) true [0] zve (.inl rfl) (zdD rfl) (zdK rfl rfl) rfl) rfl (by kernel_rfl) (by kernel_rfl) ⟨⟨_,rfl,zBj ⟨zV rfl,zV rfl,zic 0 rfl,zV rfl,trivial⟩⟩,⟨_,rfl,zic 0 rfl⟩,⟨_,rfl,zV rfl⟩,trivial⟩ trivial rf))) (jp ?_));cases h;exact zps (zaJ ⟨[(0,.ag [kI c.size,.sl (Rp.int .i64) [0] c.kinds,.om zp Rp.bool 2 [0] (mput c.names (⟨(-1),m.Name⟩:zm) true),.om zo Rp.bool 3 [0] c.numbers]),(4,kI 0)],[]⟩ (by kernel_rfl) (zdk 0 (.ag [.any,.any,.om zp Rp.bool 2 [0] ((0,(mput c.names (⟨(-1),m.Name⟩:zm) true),c.numbers):(Int×(List (zm×Bool))×(List (zn×Bool)))).2.1,.om zo Rp.bool 3 [0] ((0,(mput c.names (⟨(-1),m.Name⟩:zm) true),c.numbers):(Int×(List (zm×Bool))×(List (zn×Bool)))).2.2]) rfl (zlh ⟨zfS _,zfS _,AV.le_refl _,AV.le_refl _,trivial⟩) lzz))
theorem zvZ (h:zlg k=some r):FnOk Tryz.prog 198 [kI k] [kB r]:=by
 refine zu (E:=⟨[(2,kB r)],[]⟩) 16 Tryz.func198 rfl rfl rfl ⟨rfl,trivial⟩ (fun Xt=>?_);refine zj ?_;unfold zlg at h;refine jp ?_;obtain ⟨rv,uF,h⟩:=bnd h;refine jr (rl 1 [1] 9 Tryz.call217 (zyU uF) rf) (zO ⟨[(2,kB ((rv.2==0)&&(rv.1 !=2)))],[]⟩ ?_ ?_)
 ·refine (rsl 3 [] 12 (rv.2==0) (fun uC=>?_) (fun uC=>?_))
  · exact (rbl [] 2 (rv.1 !=2) rfl (by rw [uC]<;>rfl))
  exact (rbl [] 2 false rfl (by rw [uC]<;>rfl))
 cases h;exact zt lzz
theorem zts (h:zlX uO x=some r):FnOk Tryz.prog 64 [.rc zd [0] x] [kB r]:=by
 refine zu (E:=⟨[(2,kB r)],[]⟩) 6 Tryz.func64 rfl rfl rfl ⟨rfl,trivial⟩ (fun Xt=>?_);refine zj ?_;unfold zlX at h;refine jr (ra 0 [.rc zd [0] x] rfl (zbL 11 [.sl za [0] x.Values,.sl Rp.str [0] x.Unknown] [0] rfl rfl rfl (by rw [zi]<;>rfl) rfl) rfl rf) ?_;obtain ⟨rv,uF,h⟩:=bnd h;refine jr (rc 1 rfl (zx.le (ins':=[(.tmp 3,.ag [.sl za [0] x.Values,.sl Rp.str [0] x.Unknown])]) (zR (args:=[.tmp 3]) [.rc zd [0] x] [0] 10 rfl Tryz.call95 (zxo uF) rfl rfl rfl rfl rfl) ⟨⟨rfl,zT zd [0] x [.sl za [0] x.Values,.sl Rp.str [0] x.Unknown] (by rw [zi]<;>rfl) rfl⟩,trivial⟩) rf) ?_;cases h;exact zt lzz
theorem zjF (h:zcZ m v=some r):FnOk Tryz.prog 129 [.rc zh [0] m,.fv 130 [.ep (Rp.int .i64) [0] v 0]] [kI r.1,kB r.2]:=by
 refine zu (E:=⟨[(4,kI r.1),(5,kB r.2)],[]⟩) 15 Tryz.func129 rfl rfl rfl ⟨rfl,rfl,trivial⟩ (fun Xt=>?_);refine zj ?_;unfold zcZ at h;refine jr (ra 0 [.rc zh [0] m] rfl (zbL 11 [kS m.Name,.sl zf [0] m.Fields] [0] rfl rfl rfl rfl rfl) rfl rf) ?_;obtain ⟨rv,uF,h⟩:=bnd h;refine jr (rl 3 [0] 10 Tryz.call157 (zeJ uF) rf) (jp ?_);cases h;exact zt lzz
theorem zBp (h:zqW b=some r):FnOk Tryz.prog 214 [.sl Rp.byte [0] b] [kI r.1,kI r.2]:=by
 refine zu (E:=⟨[(2,kI r.1),(3,kI r.2)],[]⟩) 20 Tryz.func214 rfl rfl rfl ⟨rfl,rfl,trivial⟩ (fun Xt=>?_);refine zj ?_;unfold zqW at h;refine jp ?_;obtain ⟨rv,uF,h⟩:=bnd h;refine jr (rl 1 [0] 9 Tryz.call226 (zuI uF) rf) (zq ?_);obtain ⟨q,uJ,h⟩:=bnd h;refine zW (fun s:(Int×Int×Int)=>zfV b s.1 s.2.1 s.2.2) (fun s=>⟨[(0,.sl Rp.byte [0] b),(2,kI s.1),(3,kI s.2.1),(4,kI s.2.2)],[]⟩) (fun o e a w=>e= .exit 0/\Sx ⟨⟨20,[]⟩,Xt,false,#[]⟩ ⟨[(2,kI o.1),(3,kI o.2)],[]⟩ a w) ?_ uJ lzz ?_
 ·clear h;intro s o h;obtain ⟨atv,points,size⟩:=s;refine zj ?_;replace h:zfV b atv points size=some o:=h;unfold zfV at h;refine jp (jI h (fun uC h=>?_) fun uC h=>?_)
  ·refine zq (jp (jp (zQ ?_)));obtain ⟨v,uZ,h⟩:=bnd h;obtain ⟨rv2,uQ,h⟩:=bnd h;refine jr (ra 2 [.sl Rp.byte [0] b,kI (IntKind.i64.wrap (atv+size))] rfl (zlw (some (kI (IntKind.i64.wrap (atv+size)))) none rfl zir.el (zw _ _ _) ⟨rfl,rfl⟩ ⟨rfl,rfl⟩ uZ) rfl (rl 0 [0] 10 Tryz.call226 (zuI uQ) rf)) ?_;cases h;exact zD lzz
  cases h;exact zX rfl lzz
 refine zaj _ rfl (jp ?_);cases h;exact zt lzz
theorem zxi (h:zmn k wv=some r):FnOk Tryz.prog 155 [kI k,kU wv] [kU r.1,k8 r.2]:=by
 refine zu (E:=⟨[(4,kU r.1),(5,k8 r.2)],[]⟩) 34 Tryz.func155 rfl rfl rfl ⟨rfl,rfl,trivial⟩ (fun Xt=>?_);refine zj ?_;unfold zmn at h;refine jp (jp (zq (jp ?_)));obtain ⟨p,vm,h⟩:=bnd h;refine zek (R:=fun e a w=>e= .normal/\Sx ⟨⟨34,[]⟩,Xt,false,#[]⟩ ⟨[(1,kU wv),(6,kI k),(7,kB p)],[]⟩ a w) ?_ ?_
 ·replace h:=vm;refine zj (jI h (fun uC h=>?_) fun uC h=>?_)
  ·cases h;exact zD lzz
  refine jp ?_;cases h;exact zD lzz
 refine zgm (jI h (fun uD h=>?_) fun uD h=>?_)
 ·obtain ⟨rv,uF,h⟩:=bnd h;obtain ⟨rv2,uQ,h⟩:=bnd h;refine jr (rl 1 [1] 9 Tryz.call183 (zvy uF) (rl 0 [1] 9 Tryz.call182 (zvz uQ) rf)) ?_;cases h;exact zt lzz
 refine jp ?_;obtain ⟨p2,vB,h⟩:=bnd h;refine zek (R:=fun e a w=>e= .normal/\Sx ⟨⟨34,[]⟩,Xt,false,#[]⟩ ⟨[(1,kU wv),(6,kI k),(13,kB p2)],[]⟩ a w) ?_ ?_
 ·replace h:=vB;refine zj (jI h (fun uE h=>?_) fun uE h=>?_)
  ·cases h;exact zD lzz
  refine jp (jI h (fun uI h=>?_) fun uI h=>?_)
  ·cases h;exact zD lzz
  refine jp (jI h (fun uL h=>?_) fun uL h=>?_)
  ·cases h;exact zD lzz
  refine jp (jI h (fun uN h=>?_) fun uN h=>?_)
  ·cases h;exact zD lzz
  refine jp ?_;cases h;exact zD lzz
 refine zgm (jI h (fun uS h=>?_) fun uS h=>?_)
 ·obtain ⟨rv3,uT,h⟩:=bnd h;refine jr (rl 1 [1] 9 Tryz.call184 (zrH uT) rf) ?_;cases h;exact zt lzz
 refine jp (jI h (fun uX h=>?_) fun uX h=>?_)
 ·obtain ⟨rv4,vb,h⟩:=bnd h;refine jr (rl 1 [1] 9 Tryz.call185 (zxj vb) rf) ?_;cases h;exact zt lzz
 refine jp ?_;obtain ⟨p3,vN,h⟩:=bnd h;refine zek (R:=fun e a w=>e= .normal/\Sx ⟨⟨34,[]⟩,Xt,false,#[]⟩ ⟨[(1,kU wv),(26,kB p3)],[]⟩ a w) ?_ ?_
 ·replace h:=vN;refine zj (jI h (fun uU h=>?_) fun uU h=>?_)
  ·cases h;exact zD lzz
  refine jp (jI h (fun u9 h=>?_) fun u9 h=>?_)
  ·cases h;exact zD lzz
  refine jp (jI h (fun vl h=>?_) fun vl h=>?_)
  ·cases h;exact zD lzz
  refine jp (jI h (fun vg h=>?_) fun vg h=>?_)
  ·cases h;exact zD lzz
  refine jp (jI h (fun ve h=>?_) fun ve h=>?_)
  ·cases h;exact zD lzz
  refine jp ?_;cases h;exact zD lzz
 refine zgm (jI h (fun vk h=>?_) fun vk h=>?_)
 ·refine jp ?_;cases h;exact zt lzz
 refine zQ (jp ?_);cases h;exact zt lzz
theorem zBg (h:zqP b=some r):FnOk Tryz.prog 158 [.sl Rp.byte [0] b] [.rc zgX [] r.1,kI r.2.1,k8 r.2.2]:=by
 refine zu (E:=⟨[(2,.ptr 2 0),(3,kI r.2.1),(4,k8 r.2.2)],[⟨2,224,[kI r.1.Number,kI r.1.Wire]⟩]⟩) 35 Tryz.func158 rfl rfl rfl ⟨⟨_,_,rfl,rfl,rfl,rfl,⟨Tryz.isAgg224,Tryz.sizeOf224⟩⟩,rfl,rfl,trivial⟩ (fun Xt=>?_);refine zj ?_;unfold zqP at h;refine jq [12] ?_;obtain ⟨rv,uF,h⟩:=bnd h;refine jr (rl 1 [0] 11 Tryz.call186 (zmH uF) rf) (jp (jI h (fun uC h=>?_) fun uC h=>?_))
 ·refine jr (rc 0 rfl (zaD (r:=zgX) [] [] (⟨0,0⟩:zbP) rfl zCB rfl rfl) rf) ?_;cases h;exact zt (lk [2,3,4] [12] 12 2 lzz)
 refine jr (ra 1 [kU rv.1,kU 3] rfl (znQ rfl rfl) rfl rf) (jr (rc 5 rfl (zaD (r:=zgX) [kI (IntKind.i64.wrap (if (536870912:Int)<(shrI .u64 rv.1 3) then 536870912 else (shrI .u64 rv.1 3))),kI (IntKind.i64.wrap (andI .u64 rv.1 7))] [] (⟨(IntKind.i64.wrap (if (536870912:Int)<(shrI .u64 rv.1 3) then 536870912 else (shrI .u64 rv.1 3))),(IntKind.i64.wrap (andI .u64 rv.1 7))⟩:zbP) rfl zCB rfl rfl) (rfl' [13])) ?_);obtain ⟨rv2,uQ,h⟩:=bnd h;refine jr (lb 0 zgX [] (⟨(IntKind.i64.wrap (if (536870912:Int)<(shrI .u64 rv.1 3) then 536870912 else (shrI .u64 rv.1 3))),(IntKind.i64.wrap (andI .u64 rv.1 7))⟩:zbP) (rl 0 [1] 12 Tryz.call187 (zzz uQ) rf)) (jI h (fun uD h=>?_) fun uD h=>?_)
 ·refine jr (rc 0 rfl (zaD (r:=zgX) [] [] (⟨0,0⟩:zbP) rfl zCB rfl rfl) rf) ?_;cases h;exact zt (lk [2,3,4] [12] 12 2 lzz)
 refine jr (lb 0 zgX [] (⟨(IntKind.i64.wrap (if (536870912:Int)<(shrI .u64 rv.1 3) then 536870912 else (shrI .u64 rv.1 3))),(IntKind.i64.wrap (andI .u64 rv.1 7))⟩:zbP) rf) ?_;cases h;exact zt (lk [2,3,4] [12] 12 2 lzz)
theorem zwC (h:zlk wire b=some r):FnOk Tryz.prog 159 [kI wire,.sl Rp.byte [0] b] [kI r.1,kI r.2.1,k8 r.2.2]:=by
 refine zu (E:=⟨[(4,kI r.1),(5,kI r.2.1),(6,k8 r.2.2)],[]⟩) 45 Tryz.func159 rfl rfl rfl ⟨rfl,rfl,rfl,trivial⟩ (fun Xt=>?_);refine zj ?_;unfold zlk at h;refine jp (jp (jp (zq (jp (jI h (fun uC h=>?_) fun uC h=>?_)))))
 ·obtain ⟨rv,uF,h⟩:=bnd h;refine jr (rl 1 [0] 9 Tryz.call188 (zwX uF) rf) (jp ?_);cases h;exact zt lzz
 refine jp ?_;obtain ⟨p,vm,h⟩:=bnd h;refine zek (R:=fun e a w=>e= .normal/\Sx ⟨⟨45,[]⟩,Xt,false,#[]⟩ ⟨[(1,.sl Rp.byte [0] b),(4,kI p.1),(6,k8 p.2.1),(7,kU p.2.2)],[]⟩ a w) ?_ ?_
 ·replace h:=vm;refine zj (jI h (fun uD h=>?_) fun uD h=>?_)
  ·refine jp ?_;cases h;exact zD lzz
  refine jp (jI h (fun uE h=>?_) fun uE h=>?_)
  ·refine jp ?_;cases h;exact zD lzz
  refine jp (jI h (fun uI h=>?_) fun uI h=>?_)
  ·obtain ⟨rv2,uQ,h⟩:=bnd h;refine jr (rl 1 [0] 9 Tryz.call186 (zmH uQ) rf) ?_;cases h;exact zD lzz
  cases h;exact zD lzz
 refine zgm (zQ (jp (jI h (fun uL h=>?_) fun uL h=>?_)))
 ·refine jp ?_;cases h;exact zt lzz
 refine jp (jI h (fun uN h=>?_) fun uN h=>?_)
 ·refine jp ?_;cases h;exact zt lzz
 refine jp ?_;cases h;exact zt lzz
theorem zpH (h:zgh sv=some r):FnOk Tryz.prog 117 [.sl zh [0] sv] [kI r.1,kI r.2.1,kI r.2.2]:=by
 refine zu (E:=⟨[(2,kI r.1),(3,kI r.2.1),(4,kI r.2.2)],[]⟩) 80 Tryz.func117 rfl rfl rfl ⟨rfl,rfl,rfl,trivial⟩ (fun Xt=>?_);refine zj ?_;unfold zgh at h;refine jp (zO ⟨[(0,.sl zh [0] sv),(17,kB (((sv.length:Int)==0)|| (decide ((sv.length:Int)>100))))],[]⟩ ?_ ?_)
 ·refine (rsl 4 [] 13 ((sv.length:Int)==0) (fun uC=>?_) (fun uC=>?_))
  · exact (rbl [] 17 true rfl (by rw [uC]<;>rfl))
  exact (rbl [] 17 (decide ((sv.length:Int)>100)) rfl (by rw [uC]<;>rfl))
 refine jI h (fun uD h=>?_) fun uD h=>?_
 ·refine jp ?_;cases h;exact zt lzz
 refine jp (zq ?_);obtain ⟨q3,vv,h⟩:=bnd h;refine zW (fun s:Int=>zaM sv s) (fun s=>⟨[(0,.sl zh [0] sv),(5,kI s)],[]⟩) (fun o e a w=>match o with| (.inl v_)=>e= .exit 0/\Sx ⟨⟨80,[]⟩,Xt,false,#[]⟩ ⟨[],[]⟩ a w| (.inr v_)=>e= .ret/\Sx ⟨⟨80,[]⟩,Xt,false,#[]⟩ ⟨[(2,kI v_.1),(3,kI v_.2.1),(4,kI v_.2.2)],[]⟩ a w) ?_ vv lzz ?_
 ·clear h;intro i o h;refine zj ?_;replace h:zaM sv i=some o:=h;unfold zaM at h;refine jp (jI h (fun uE h=>?_) fun uE h=>?_)
  ·refine zq (jp (jp (zq ?_)));obtain ⟨q,uJ,h⟩:=bnd h;refine zW (fun s:(Bool×Int)=>zbm i sv s.1 s.2) (fun s=>⟨[(0,.sl zh [0] sv),(5,kI i),(6,kB s.1),(7,kI s.2)],[]⟩) (fun o e a w=>e= .exit 2/\Sx ⟨⟨80,[]⟩,Xt,false,#[]⟩ ⟨[(0,.sl zh [0] sv),(5,kI i),(6,kB o)],[]⟩ a w) ?_ uJ lzz ?_
   ·clear h;intro s o h;obtain ⟨twice,k⟩:=s;refine zj ?_;replace h:zbm i sv twice k=some o:=h;unfold zbm at h;refine jp (jI h (fun uI h=>?_) fun uI h=>?_)
    ·refine zq ?_;obtain ⟨g,uB,h⟩:=bnd h;refine zek (R:=fun e a w=>e= .normal/\Sx ⟨⟨80,[]⟩,Xt,false,#[]⟩ ⟨[(0,.sl zh [0] sv),(5,kI i),(6,kB g),(7,kI k)],[]⟩ a w) ?_ (zgm ?_)
     ·refine zj ?_;rcases yi twice with uL| uL
      ·replace uB:=iteT uB uL;cases uB;exact jd [0,5,6,7] [] zbq (by exact (lw_e (lx (zaT ⟨[(29,kB twice)],[]⟩ (by kernel_rfl) uL) l0))) (zD lzz)
      replace uB:=iteF uB uL;obtain ⟨x,uM,uB⟩:=bnd uB;obtain ⟨x2,uP,uB⟩:=bnd uB;cases uB;exact jd [0,5,6,7] [] zbq (by exact (lw_e (lx (zaT ⟨[(29,kB twice)],[]⟩ (by kernel_rfl) uL) (lw_e (lw_e (ly [.sl zh [0] sv,kI k] (zP rfl ziM.el (zw _ _ _) uM) rfl (lw_e (lw_e (lw_e (lw_e (ly [.sl zh [0] sv,kI i] (zP rfl ziM.el (zw _ _ _) uP) rfl l0))))))))))) (zD lzz)
     refine zQ (jp ?_);cases h;exact zD lzz
    cases h;exact zX rfl lzz
   refine zaj _ rfl ?_;obtain ⟨x3,uW,h⟩:=bnd h;obtain ⟨rv,uF,h⟩:=bnd h;refine jr (ra 2 [.sl zh [0] sv,kI i] rfl (zP rfl ziM.el (zw _ _ _) uW) rfl (rl 2 [1] 11 Tryz.call149 (zkY uF) rf)) (jI h (fun uN h=>?_) fun uN h=>?_)
   ·refine jp ?_;cases h;exact zaK lzz
   refine jp (jI h (fun uS h=>?_) fun uS h=>?_)
   ·refine jp ?_;cases h;exact zaK lzz
   obtain ⟨x4,va,h⟩:=bnd h;refine jr (ra 2 [.sl zh [0] sv,kI i] rfl (zP rfl ziM.el (zw _ _ _) va) rfl (ra 1 [.ep zh [0] x4 1] rfl (zbv zf x4.Fields rfl rfl rfl) rfl rf)) (jI h (fun uX h=>?_) fun uX h=>?_)
   ·refine jp ?_;cases h;exact zaK lzz
   refine jp (zq ?_);obtain ⟨q2,u0,h⟩:=bnd h;refine zW (fun s:Int=>zaN i sv s) (fun s=>⟨[(0,.sl zh [0] sv),(5,kI i),(8,kI s)],[]⟩) (fun o e a w=>match o with| (.inl v_)=>e= .exit 4/\Sx ⟨⟨80,[]⟩,Xt,false,#[]⟩ ⟨[(0,.sl zh [0] sv),(5,kI i)],[]⟩ a w| (.inr v_)=>e= .ret/\Sx ⟨⟨80,[]⟩,Xt,false,#[]⟩ ⟨[(2,kI i),(3,kI v_.1),(4,kI v_.2)],[]⟩ a w) ?_ u0 lzz ?_
   ·clear h;intro k2 o h;refine zj ?_;replace h:zaN i sv k2=some o:=h;unfold zaN at h;obtain ⟨x5,vi,h⟩:=bnd h;refine jr (ra 3 [.sl zh [0] sv,kI i] rfl (zP rfl ziM.el (zw _ _ _) vi) rfl (ra 1 [.ep zh [0] x5 1] rfl (zbv zf x5.Fields rfl rfl rfl) rfl rf)) (jI h (fun uU h=>?_) fun uU h=>?_)
    ·refine zq ?_;obtain ⟨rv2,uQ,h⟩:=bnd h;refine jr (rl 3 [0] 12 Tryz.call150 (zpI uQ) rf) (jp (jI h (fun u9 h=>?_) fun u9 h=>?_))
     ·refine jp ?_;cases h;exact zaK lzz
     refine zQ (jp ?_);cases h;exact zD lzz
    cases h;exact zX rfl lzz
   rcases q2 with u| u2
   ·refine zaj _ rfl (zQ (jp ?_));cases h;exact zD lzz
   cases h;exact zyT lzz
  cases h;exact zX rfl lzz
 rcases q3 with u3| u4
 ·refine zaj _ rfl (jp ?_);cases h;exact zt lzz
 cases h;exact zcN lzz
theorem zpE (h:zge b most=some r):FnOk Tryz.prog 94 [.sl Rp.byte [0] b,kI most] [kI r.1,kI r.2]:=by
 refine zu (E:=⟨[(4,kI r.1),(5,kI r.2)],[]⟩) 28 Tryz.func94 rfl rfl rfl ⟨rfl,rfl,trivial⟩ (fun Xt=>?_);refine zj ?_;unfold zge at h;refine jp (jp (zq ?_));obtain ⟨q,uJ,h⟩:=bnd h;refine zW (fun s:(Int×Int)=>zbl b most s.1 s.2) (fun s=>⟨[(0,.sl Rp.byte [0] b),(1,kI most),(6,kI s.1),(7,kI s.2)],[]⟩) (fun o e a w=>e= .ret/\Sx ⟨⟨28,[]⟩,Xt,false,#[]⟩ ⟨[(4,kI o.1),(5,kI o.2)],[]⟩ a w) ?_ uJ lzz ?_
 ·clear h;intro s o h;obtain ⟨atv,count⟩:=s;refine zj ?_;replace h:zbl b most atv count=some o:=h;unfold zbl at h;refine zq ?_;obtain ⟨rv,uF,h⟩:=bnd h;refine jr (rl 2 [0] 10 Tryz.call127 (zqi uF) rf) (zO ⟨[(0,.sl Rp.byte [0] b),(1,kI most),(6,kI atv),(7,kI count),(8,kI rv),(20,kB ((rv==0)|| (decide ((IntKind.i64.wrap (atv+rv))>most))))],[]⟩ ?_ ?_)
  ·refine (rsl 3 [] 14 (rv==0) (fun uC=>?_) (fun uC=>?_))
   · exact (rbl [] 20 true rfl (by rw [uC]<;>rfl))
   exact (rbl [] 20 (decide ((IntKind.i64.wrap (atv+rv))>most)) rfl (by rw [uC]<;>rfl))
  refine jI h (fun uD h=>?_) fun uD h=>?_
  ·refine jp ?_;cases h;exact zaK lzz
  refine jp (jp (zQ ?_));cases h;exact zD lzz
 cases h;exact zcN lzz
theorem zqj (h:zgL b uY=some r):FnOk Tryz.prog 84 [.sl Rp.byte [0] b,kI uY] [.rc zaf [] r.1,kI r.2]:=by
 refine zu (E:=⟨[(4,.ptr 2 0),(5,kI r.2)],[⟨2,133,[kI r.1.Number,kI r.1.Wire,kI r.1.From,kI r.1.At,kI r.1.To]⟩]⟩) 108 Tryz.func84 rfl rfl rfl ⟨⟨_,_,rfl,rfl,rfl,rfl,⟨Tryz.isAgg133,Tryz.sizeOf133⟩⟩,rfl,trivial⟩ (fun Xt=>?_);refine zj ?_;unfold zgL at h;refine jq [12] (zO ⟨[(0,.sl Rp.byte [0] b),(1,kI uY),(4,.ptr 12 0),(26,kB ((decide (uY<0))|| (decide (uY>=(b.length:Int)))))],[⟨12,133,[kI 0,kI 0,kI 0,kI 0,kI 0]⟩]⟩ ?_ ?_)
 ·refine (rsl 3 [] 21 (decide (uY<0)) (fun uC=>?_) (fun uC=>?_))
  · exact (rbl [] 26 true rfl (by rw [uC]<;>rfl))
  exact (rbl [] 26 (decide (uY>=(b.length:Int))) rfl (by rw [uC]<;>rfl))
 refine jI h (fun uD h=>?_) fun uD h=>?_
 ·refine jr (rc 0 rfl (zaD (r:=zaf) [] [] (⟨0,0,0,0,0⟩:zz) rfl zsu rfl rfl) rf) ?_;cases h;exact zt (lk [4,5] [12] 12 2 lzz)
 obtain ⟨rv,uF,h⟩:=bnd h;refine jr (rl 2 [0] 11 Tryz.call118 (zqh uF) rf) (jp (jI h (fun uE h=>?_) fun uE h=>?_))
 ·refine jr (rc 0 rfl (zaD (r:=zaf) [] [] (⟨0,0,0,0,0⟩:zz) rfl zsu rfl rfl) rf) ?_;cases h;exact zt (lk [4,5] [12] 12 2 lzz)
 refine jr (rc 6 rfl (zaD (r:=zaf) [kI rv.1,kI rv.2.1,kI uY,kI (IntKind.i64.wrap (uY+rv.2.2.1))] [] (⟨rv.1,rv.2.1,uY,(IntKind.i64.wrap (uY+rv.2.2.1)),0⟩:zz) rfl zsu rfl rfl) (rfl' [13])) (jp (jp (jp ?_)));obtain ⟨p,vm,h⟩:=bnd h;refine zek (R:=fun e a w=>e= .normal/\Sx ⟨⟨108,[]⟩,Xt,false,#[]⟩ ⟨[(0,.sl Rp.byte [0] b),(4,.ptr 12 0),(7,kI rv.2.1),(10,.ptr 13 0),(11,kI (IntKind.i64.wrap ((b.length:Int) - (IntKind.i64.wrap (uY+rv.2.2.1))))),(12,kI p)],[⟨12,133,[kI 0,kI 0,kI 0,kI 0,kI 0]⟩,⟨13,133,[kI rv.1,kI rv.2.1,kI uY,kI (IntKind.i64.wrap (uY+rv.2.2.1)),kI 0]⟩]⟩ a w) ?_ ?_
 ·replace h:=vm;refine zj (jI h (fun uI h=>?_) fun uI h=>?_)
  ·refine jp ?_;cases h;exact zD lzz
  cases h;exact zD lzz
 refine zgm (jp ?_);obtain ⟨p2,vB,h⟩:=bnd h;refine zek (R:=fun e a w=>match p2 with| (.inl v_)=>e= .normal/\Sx ⟨⟨108,[]⟩,Xt,false,#[]⟩ ⟨[(0,.sl Rp.byte [0] b),(4,.ptr 12 0),(7,kI rv.2.1),(10,.ptr 13 0),(11,kI (IntKind.i64.wrap ((b.length:Int) - (IntKind.i64.wrap (uY+rv.2.2.1))))),(12,kI v_)],[⟨12,133,[kI 0,kI 0,kI 0,kI 0,kI 0]⟩,⟨13,133,[kI rv.1,kI rv.2.1,kI uY,kI (IntKind.i64.wrap (uY+rv.2.2.1)),kI 0]⟩]⟩ a w| (.inr v_)=>e= .ret/\Sx ⟨⟨108,[]⟩,Xt,false,#[]⟩ ⟨[(4,.ptr 12 0),(5,kI v_)],[⟨12,133,[kI 0,kI 0,kI 0,kI 0,kI 0]⟩]⟩ a w) ?_ ?_
 ·replace h:=vB;refine zj (jI h (fun uL h=>?_) fun uL h=>?_)
  ·obtain ⟨rv2,uQ,h⟩:=bnd h;refine jr (rl 3 [0] 12 Tryz.call119 (ziB uQ) rf) (jp (jI h (fun uN h=>?_) fun uN h=>?_))
   ·refine jr (rc 0 rfl (zaD (r:=zaf) [] [] (⟨0,0,0,0,0⟩:zz) rfl zsu rfl rfl) rf) ?_;cases h;exact zt lzz
   refine jp ?_;cases h;exact zD lzz
  cases h;exact zD lzz
 rcases p2 with u| u4
 ·refine zgm (jp ?_);obtain ⟨p3,vN,h⟩:=bnd h;refine zek (R:=fun e a w=>match p3 with| (.inl v_)=>e= .normal/\Sx ⟨⟨108,[]⟩,Xt,false,#[]⟩ ⟨[(4,.ptr 12 0),(10,.ptr 13 0),(11,kI v_.1),(12,kI v_.2.1)],[⟨12,133,[kI 0,kI 0,kI 0,kI 0,kI 0]⟩,⟨13,133,[kI rv.1,kI rv.2.1,kI uY,kI v_.2.2,kI 0]⟩]⟩ a w| (.inr v_)=>e= .ret/\Sx ⟨⟨108,[]⟩,Xt,false,#[]⟩ ⟨[(4,.ptr 12 0),(5,kI v_)],[⟨12,133,[kI 0,kI 0,kI 0,kI 0,kI 0]⟩]⟩ a w) ?_ ?_
  ·replace h:=vN;refine zj (jI h (fun uS h=>?_) fun uS h=>?_)
   ·obtain ⟨rv3,uT,h⟩:=bnd h;refine jr (rl 3 [0] 12 Tryz.call119 (ziB uT) rf) (jp (jI h (fun uX h=>?_) fun uX h=>?_))
    ·refine jr (rc 0 rfl (zaD (r:=zaf) [] [] (⟨0,0,0,0,0⟩:zz) rfl zsu rfl rfl) rf) ?_;cases h;exact zt lzz
    refine jp (jp (jp (jI h (fun uU h=>?_) fun uU h=>?_)))
    ·refine jr (rc 0 rfl (zaD (r:=zaf) [] [] (⟨0,0,0,0,0⟩:zz) rfl zsu rfl rfl) rf) ?_;cases h;exact zt lzz
    refine jp ?_;cases h;exact zD lzz
   cases h;exact zD lzz
  rcases p3 with u2| u3
  ·refine zgm (jp (jI h (fun u9 h=>?_) fun u9 h=>?_))
   ·refine jr (rc 0 rfl (zaD (r:=zaf) [] [] (⟨0,0,0,0,0⟩:zz) rfl zsu rfl rfl) rf) ?_;cases h;exact zt (lk [4,5] [12] 12 2 lzz)
   refine jp (jr (lb 0 zaf [] (⟨rv.1,rv.2.1,uY,u2.2.2,(IntKind.i64.wrap (u2.2.2+u2.2.1))⟩:zz) rf) ?_);cases h;exact zt (lk [4,5] [12] 12 2 lzz)
  cases h;exact zcN (lk [4,5] [12] 12 2 lzz)
 cases h;exact zcN (lk [4,5] [12] 12 2 lzz)
end Go.Proofs.YtekgmimingolbaaGreat
