/-
  The Go functions do what the plain functions say. No condition.
-/
import Derived.Test.YtekgmimingolbaaGreatx2G4
import Derived.Test.YtekgmimingolbaaGreatx2G5
set_option autoImplicit true
set_option relaxedAutoImplicit true
namespace Go.Proofs.YtekgmimingolbaaGreat
open Go Go.RowKit
set_option linter.unusedVariables false
set_option maxRecDepth 100000
set_option maxHeartbeats 3200000
theorem zmV (h:zdP s1 s2=some r):FnOk Tryz.prog 71 [.sl (Rp.int .i64) [0] s1,.sl (Rp.int .i64) [0] s2] [kI r]:=by
 refine zu (E:=⟨[(4,kI r)],[]⟩) 36 Tryz.func71 rfl rfl rfl ⟨rfl,trivial⟩ (fun Xt=>?_);refine zk ?_;unfold zdP at h;refine jp (jp (zp ?_));obtain ⟨q,uU,h⟩:=bnd h;refine zab (fun s:Int=>zaj s1 s2 s) (fun s=>⟨[(0,.sl (Rp.int .i64) [0] s1),(1,.sl (Rp.int .i64) [0] s2),(9,.sl (Rp.int .i64) [0] s1),(10,kI (s1.length:Int)),(11,kI s)],[]⟩) (fun o e a w=>match o with| (.inl v_)=>e= .exit 0/\Sx ⟨⟨36,[]⟩,Xt,false,#[]⟩ ⟨[(0,.sl (Rp.int .i64) [0] s1),(1,.sl (Rp.int .i64) [0] s2)],[]⟩ a w| (.inr v_)=>e= .ret/\Sx ⟨⟨36,[]⟩,Xt,false,#[]⟩ ⟨[(4,kI v_)],[]⟩ a w) ?_ uU lzz ?_
 ·clear h;intro v o h;refine zk ?_;replace h:zaj s1 s2 v=some o:=h;unfold zaj at h;refine jp (jI h (fun uQ h=>?_) fun uQ h=>?_)
  ·refine zp ?_;obtain ⟨x,u0,h⟩:=bnd h;refine jr (ra 1 [.sl (Rp.int .i64) [0] s1,kI v] rfl (zW rfl zgJ.el (zy _ _ _) u0) rfl rf) (jp (jI h (fun uR h=>?_) fun uR h=>?_))
   ·refine jp ?_;cases h;exact zaN lzz
   obtain ⟨x2,va,h⟩:=bnd h;refine jr (ra 2 [.sl (Rp.int .i64) [0] s2,kI v] rfl (zW rfl zgJ.el (zy _ _ _) va) rfl rf) ?_;obtain ⟨rv,uS,h⟩:=bnd h;refine jr (rl 2 [1] 10 Tryz.call106 (ztn uS) rf) (jp (jI h (fun uT h=>?_) fun uT h=>?_))
   ·refine jp ?_;cases h;exact zaN lzz
   refine zV (jp ?_);cases h;exact zD lzz
  cases h;exact zaa rfl lzz
 rcases q with u| u2
 ·refine zan _ rfl (jp (jI h (fun uX h=>?_) fun uX h=>?_))
  ·refine jp ?_;cases h;exact zo lzz
  refine jp ?_;cases h;exact zo lzz
 obtain rfl:=(sj h);exact zcJ lzz
theorem zgf (h:zaO v=some r):FnOk Tryz.prog 103 [.fv 105 [.ep (Rp.list (Rp.list (Rp.int .i64))) [0] v 0]] [.own (Rp.list (Rp.int .i64)) 53 2 [3,0] r]:=by
 refine zu (E:=⟨[(2,.own (Rp.list (Rp.int .i64)) 53 2 [3,0] r)],[]⟩) 5 Tryz.func103 rfl rfl rfl ⟨rfl,trivial⟩ (fun Xt=>?_);refine zk ?_;unfold zaO at h;refine jp ?_;obtain ⟨rv,uS,h⟩:=bnd h;refine jr (rl 1 [0] 11 Tryz.call135 (zeq uS) rf) ?_;obtain rfl:=(sj h);exact zo (lk [2] [] 13 2 (lk [2] [] 14 3 lzz))
theorem zqc (h:zge c m=some r):zpx Tryz.prog 140 [.ag [kI c.size,.sl (Rp.int .i64) [0] c.kinds,.om zr Rp.bool 2 [0] c.names,.om zq Rp.bool 3 [0] c.numbers],.rc zh [0] m] [kI r.1] [.ag [.any,.any,.om zr Rp.bool 2 [0] r.2.1,.om zq Rp.bool 3 [0] r.2.2],.any]:=by
 refine zvP (E:=⟨[(0,.ag [.any,.any,.om zr Rp.bool 2 [0] r.2.1,.om zq Rp.bool 3 [0] r.2.2]),(4,kI r.1)],[]⟩) 27 [0] Tryz.func140 rfl rfl rfl ⟨rfl,trivial⟩ ⟨.inr ⟨rfl,rfl⟩,.inl rfl,trivial⟩ rfl (fun Xt old=>?_);refine zk ?_;unfold zge at h;refine jr (ral 1 [11] [.rc zh [0] m] rfl (zaR 12 [kS m.Name,.sl zf [0] m.Fields] [0] rfl rfl rfl rfl rfl) rfl rf) (jr (rc 2 rfl (zaF (r:=zr) [kI (-1),kS m.Name] [] (⟨(-1),m.Name⟩:zm) rfl zKv rfl rfl) (rfl' [13])) (zp ?_));obtain ⟨rv,uS,h⟩:=bnd h;refine jr (rl 2 [1] 12 Tryz.call172 (zqd uS) rf) (jI h (fun uQ h=>?_) fun uQ h=>?_)
 ·refine jp ?_;cases h;exact zqZ (zaq ⟨[(0,.ag [kI c.size,.sl (Rp.int .i64) [0] c.kinds,.om zr Rp.bool 2 [0] c.names,.om zq Rp.bool 3 [0] c.numbers]),(4,kI 2)],[]⟩ (by kernel_rfl) (zdB 0 (.ag [.any,.any,.om zr Rp.bool 2 [0] ((2,c.names,c.numbers):(Int×(List (zm×Bool))×(List (zn×Bool)))).2.1,.om zq Rp.bool 3 [0] ((2,c.names,c.numbers):(Int×(List (zm×Bool))×(List (zn×Bool)))).2.2]) rfl (zkZ ⟨zgD _,zgD _,AV.le_refl _,AV.le_refl _,trivial⟩) lzz))
 refine jr (lb 2 zr [] (⟨(-1),m.Name⟩:zm) (ra 0 [.om zr Rp.bool 2 [0] c.names,.rc zr [] (⟨(-1),m.Name⟩:zm)] rfl (zpO (rk:=zr) (rv:=Rp.bool) (m:=c.names) (k:=(⟨(-1),m.Name⟩:zm)) (kB ((mget c.names (⟨(-1),m.Name⟩:zm)).getD false)) rfl zxv (zdJ rfl) (zqA rfl rfl rfl)) rfl rf)) (jI h (fun uR h=>?_) fun uR h=>?_)
 ·refine jp ?_;cases h;exact zqZ (zaq ⟨[(0,.ag [kI c.size,.sl (Rp.int .i64) [0] c.kinds,.om zr Rp.bool 2 [0] c.names,.om zq Rp.bool 3 [0] c.numbers]),(4,kI 3)],[]⟩ (by kernel_rfl) (zdB 0 (.ag [.any,.any,.om zr Rp.bool 2 [0] ((3,c.names,c.numbers):(Int×(List (zm×Bool))×(List (zn×Bool)))).2.1,.om zq Rp.bool 3 [0] ((3,c.names,c.numbers):(Int×(List (zm×Bool))×(List (zn×Bool)))).2.2]) rfl (zkZ ⟨zgD _,zgD _,AV.le_refl _,AV.le_refl _,trivial⟩) lzz))
 refine jp (jI h (fun uT h=>?_) fun uT h=>?_)
 ·refine jp ?_;cases h;exact zqZ (zaq ⟨[(0,.ag [kI c.size,.sl (Rp.int .i64) [0] c.kinds,.om zr Rp.bool 2 [0] c.names,.om zq Rp.bool 3 [0] c.numbers]),(4,kI 4)],[]⟩ (by kernel_rfl) (zdB 0 (.ag [.any,.any,.om zr Rp.bool 2 [0] ((4,c.names,c.numbers):(Int×(List (zm×Bool))×(List (zn×Bool)))).2.1,.om zq Rp.bool 3 [0] ((4,c.names,c.numbers):(Int×(List (zm×Bool))×(List (zn×Bool)))).2.2]) rfl (zkZ ⟨zgD _,zgD _,AV.le_refl _,AV.le_refl _,trivial⟩) lzz))
 refine zV (jr (lb 2 zr [] (⟨(-1),m.Name⟩:zm) (rkl 0 [] ⟨[(0,.ag [kI c.size,.sl (Rp.int .i64) [0] c.kinds,.om zr Rp.bool 2 [0] c.names,.om zq Rp.bool 3 [0] c.numbers]),(25,.om zr Rp.bool 2 [0] c.names),(26,.rc zr [] (⟨(-1),m.Name⟩:zm))],[]⟩ (zlx ⟨[(0,.ag [kI c.size,.sl (Rp.int .i64) [0] c.kinds,.om zr Rp.bool 2 [0] (mput c.names (⟨(-1),m.Name⟩:zm) true),.om zq Rp.bool 3 [0] c.numbers]),(25,.om zr Rp.bool 2 [0] (mput c.names (⟨(-1),m.Name⟩:zm) true)),(26,.rc zr [] (⟨(-1),m.Name⟩:zm))],[]⟩ (ztk (rk:=zr) (rv:=Rp.bool) (m:=c.names) (ℓ:=2) (C:=[0]) (C1:=[]) (D:=[]) (⟨(-1),m.Name⟩:zm) true [0] zxv (.inl rfl) (zdJ rfl) (zdu rfl rfl) rfl) rfl (by kernel_rfl) (by kernel_rfl) ⟨⟨_,rfl,zEk ⟨zX rfl,zX rfl,zhQ 0 rfl,zX rfl,trivial⟩⟩,⟨_,rfl,zhQ 0 rfl⟩,⟨_,rfl,zX rfl⟩,trivial⟩ trivial rf))) (jp ?_));cases h;exact zqZ (zaq ⟨[(0,.ag [kI c.size,.sl (Rp.int .i64) [0] c.kinds,.om zr Rp.bool 2 [0] (mput c.names (⟨(-1),m.Name⟩:zm) true),.om zq Rp.bool 3 [0] c.numbers]),(4,kI 0)],[]⟩ (by kernel_rfl) (zdB 0 (.ag [.any,.any,.om zr Rp.bool 2 [0] ((0,(mput c.names (⟨(-1),m.Name⟩:zm) true),c.numbers):(Int×(List (zm×Bool))×(List (zn×Bool)))).2.1,.om zq Rp.bool 3 [0] ((0,(mput c.names (⟨(-1),m.Name⟩:zm) true),c.numbers):(Int×(List (zm×Bool))×(List (zn×Bool)))).2.2]) rfl (zkZ ⟨zgD _,zgD _,AV.le_refl _,AV.le_refl _,trivial⟩) lzz))
theorem zyv (h:zmF k=some r):FnOk Tryz.prog 198 [kI k] [kB r]:=by
 refine zu (E:=⟨[(2,kB r)],[]⟩) 16 Tryz.func198 rfl rfl rfl ⟨rfl,trivial⟩ (fun Xt=>?_);refine zk ?_;unfold zmF at h;refine jp ?_;obtain ⟨rv,uS,h⟩:=bnd h;refine jr (rl 1 [1] 9 Tryz.call217 (zBB uS) rf) (zU ⟨[(2,kB ((rv.2==0)&&(rv.1 !=2)))],[]⟩ ?_ ?_)
 ·refine (rsl 3 [] 12 (rv.2==0) (fun uQ=>?_) (fun uQ=>?_))
  · exact (rbl [] 2 (rv.1 !=2) rfl (by rw [uQ]<;>rfl))
  exact (rbl [] 2 false rfl (by rw [uQ]<;>rfl))
 cases h;exact zo lzz
theorem zqU (h:zmh uY x=some r):FnOk Tryz.prog 64 [.rc zc [0] x] [kB r]:=by
 refine zu (E:=⟨[(2,kB r)],[]⟩) 6 Tryz.func64 rfl rfl rfl ⟨rfl,trivial⟩ (fun Xt=>?_);refine zk ?_;unfold zmh at h;refine jr (ra 0 [.rc zc [0] x] rfl (zaR 11 [.sl za [0] x.Values,.sl Rp.str [0] x.Unknown] [0] rfl rfl rfl (by rw [zj]<;>rfl) rfl) rfl rf) ?_;obtain ⟨rv,uS,h⟩:=bnd h;refine jr (rc 1 rfl (zw.le (ins':=[(.tmp 3,.ag [.sl za [0] x.Values,.sl Rp.str [0] x.Unknown])]) (zL (args:=[.tmp 3]) [.rc zc [0] x] [0] 10 rfl Tryz.call95 (zzO uS) rfl rfl rfl rfl rfl) ⟨⟨rfl,zK zc [0] x [.sl za [0] x.Values,.sl Rp.str [0] x.Unknown] (by rw [zj]<;>rfl) rfl⟩,trivial⟩) rf) ?_;cases h;exact zo lzz
theorem zkN (h:zdy m v=some r):FnOk Tryz.prog 129 [.rc zh [0] m,.fv 130 [.ep (Rp.int .i64) [0] v 0]] [kI r.1,kB r.2]:=by
 refine zu (E:=⟨[(4,kI r.1),(5,kB r.2)],[]⟩) 15 Tryz.func129 rfl rfl rfl ⟨rfl,rfl,trivial⟩ (fun Xt=>?_);refine zk ?_;unfold zdy at h;refine jr (ra 0 [.rc zh [0] m] rfl (zaR 11 [kS m.Name,.sl zf [0] m.Fields] [0] rfl rfl rfl rfl rfl) rfl rf) ?_;obtain ⟨rv,uS,h⟩:=bnd h;refine jr (rl 3 [0] 10 Tryz.call157 (zfs uS) rf) (jp ?_);cases h;exact zo lzz
theorem zEq (h:zsK b=some r):FnOk Tryz.prog 214 [.sl Rp.byte [0] b] [kI r.1,kI r.2]:=by
 refine zu (E:=⟨[(2,kI r.1),(3,kI r.2)],[]⟩) 20 Tryz.func214 rfl rfl rfl ⟨rfl,rfl,trivial⟩ (fun Xt=>?_);refine zk ?_;unfold zsK at h;refine jp ?_;obtain ⟨rv,uS,h⟩:=bnd h;refine jr (rl 1 [0] 9 Tryz.call226 (zwT uS) rf) (zp ?_);obtain ⟨q,uU,h⟩:=bnd h;refine zab (fun s:(Int×Int×Int)=>zgH b s.1 s.2.1 s.2.2) (fun s=>⟨[(0,.sl Rp.byte [0] b),(2,kI s.1),(3,kI s.2.1),(4,kI s.2.2)],[]⟩) (fun o e a w=>e= .exit 0/\Sx ⟨⟨20,[]⟩,Xt,false,#[]⟩ ⟨[(2,kI o.1),(3,kI o.2)],[]⟩ a w) ?_ uU lzz ?_
 ·clear h;intro s o h;obtain ⟨atv,points,size⟩:=s;refine zk ?_;replace h:zgH b atv points size=some o:=h;unfold zgH at h;refine jp (jI h (fun uQ h=>?_) fun uQ h=>?_)
  ·refine zp (jp (jp (zV ?_)));obtain ⟨v,vf,h⟩:=bnd h;obtain ⟨rv2,u9,h⟩:=bnd h;refine jr (ra 2 [.sl Rp.byte [0] b,kI (IntKind.i64.wrap (atv+size))] rfl (zmS (some (kI (IntKind.i64.wrap (atv+size)))) none rfl zjr.el (zy _ _ _) ⟨rfl,rfl⟩ ⟨rfl,rfl⟩ vf) rfl (rl 0 [0] 10 Tryz.call226 (zwT u9) rf)) ?_;cases h;exact zD lzz
  cases h;exact zaa rfl lzz
 refine zan _ rfl (jp ?_);cases h;exact zo lzz
theorem zzH (h:znM k wv=some r):FnOk Tryz.prog 155 [kI k,kU wv] [kU r.1,k8 r.2]:=by
 refine zu (E:=⟨[(4,kU r.1),(5,k8 r.2)],[]⟩) 34 Tryz.func155 rfl rfl rfl ⟨rfl,rfl,trivial⟩ (fun Xt=>?_);refine zk ?_;unfold znM at h;refine jp (jp (zp (jp ?_)));obtain ⟨p,vz,h⟩:=bnd h;refine zdb (R:=fun e a w=>e= .normal/\Sx ⟨⟨34,[]⟩,Xt,false,#[]⟩ ⟨[(1,kU wv),(6,kI k),(7,kB p)],[]⟩ a w) ?_ ?_
 ·replace h:=vz;refine zk (jI h (fun uQ h=>?_) fun uQ h=>?_)
  ·cases h;exact zD lzz
  refine jp ?_;cases h;exact zD lzz
 refine zeQ (jI h (fun uR h=>?_) fun uR h=>?_)
 ·obtain ⟨rv,uS,h⟩:=bnd h;obtain ⟨rv2,u9,h⟩:=bnd h;refine jr (rl 1 [1] 9 Tryz.call183 (zxU uS) (rl 0 [1] 9 Tryz.call182 (zxV u9) rf)) ?_;cases h;exact zo lzz
 refine jp ?_;obtain ⟨p2,vN,h⟩:=bnd h;refine zdb (R:=fun e a w=>e= .normal/\Sx ⟨⟨34,[]⟩,Xt,false,#[]⟩ ⟨[(1,kU wv),(6,kI k),(13,kB p2)],[]⟩ a w) ?_ ?_
 ·replace h:=vN;refine zk (jI h (fun uT h=>?_) fun uT h=>?_)
  ·cases h;exact zD lzz
  refine jp (jI h (fun uX h=>?_) fun uX h=>?_)
  ·cases h;exact zD lzz
  refine jp (jI h (fun vb h=>?_) fun vb h=>?_)
  ·cases h;exact zD lzz
  refine jp (jI h (fun vc h=>?_) fun vc h=>?_)
  ·cases h;exact zD lzz
  refine jp ?_;cases h;exact zD lzz
 refine zeQ (jI h (fun vh h=>?_) fun vh h=>?_)
 ·obtain ⟨rv3,ve,h⟩:=bnd h;refine jr (rl 1 [1] 9 Tryz.call184 (ztA ve) rf) ?_;cases h;exact zo lzz
 refine jp (jI h (fun vk h=>?_) fun vk h=>?_)
 ·obtain ⟨rv4,vm,h⟩:=bnd h;refine jr (rl 1 [1] 9 Tryz.call185 (zzI vm) rf) ?_;cases h;exact zo lzz
 refine jp ?_;obtain ⟨p3,vR,h⟩:=bnd h;refine zdb (R:=fun e a w=>e= .normal/\Sx ⟨⟨34,[]⟩,Xt,false,#[]⟩ ⟨[(1,kU wv),(26,kB p3)],[]⟩ a w) ?_ ?_
 ·replace h:=vR;refine zk (jI h (fun vj h=>?_) fun vj h=>?_)
  ·cases h;exact zD lzz
  refine jp (jI h (fun vq h=>?_) fun vq h=>?_)
  ·cases h;exact zD lzz
  refine jp (jI h (fun vD h=>?_) fun vD h=>?_)
  ·cases h;exact zD lzz
  refine jp (jI h (fun vu h=>?_) fun vu h=>?_)
  ·cases h;exact zD lzz
  refine jp (jI h (fun vx h=>?_) fun vx h=>?_)
  ·cases h;exact zD lzz
  refine jp ?_;cases h;exact zD lzz
 refine zeQ (jI h (fun vv h=>?_) fun vv h=>?_)
 ·refine jp ?_;cases h;exact zo lzz
 refine zV (jp ?_);cases h;exact zo lzz
theorem zEj (h:zsC b=some r):FnOk Tryz.prog 158 [.sl Rp.byte [0] b] [.rc zhU [] r.1,kI r.2.1,k8 r.2.2]:=by
 refine zu (E:=⟨[(2,.ptr 2 0),(3,kI r.2.1),(4,k8 r.2.2)],[⟨2,224,[kI r.1.Number,kI r.1.Wire]⟩]⟩) 35 Tryz.func158 rfl rfl rfl ⟨⟨_,_,rfl,rfl,rfl,rfl,⟨Tryz.isAgg224,Tryz.sizeOf224⟩⟩,rfl,rfl,trivial⟩ (fun Xt=>?_);refine zk ?_;unfold zsC at h;refine jq [12] ?_;obtain ⟨rv,uS,h⟩:=bnd h;refine jr (rl 1 [0] 11 Tryz.call186 (zoh uS) rf) (jp (jI h (fun uQ h=>?_) fun uQ h=>?_))
 ·refine jr (rc 0 rfl (zaF (r:=zhU) [] [] (⟨0,0⟩:zce) rfl zFL rfl rfl) rf) ?_;cases h;exact zo (lk [2,3,4] [12] 12 2 lzz)
 refine jr (ra 1 [kU rv.1,kU 3] rfl (zpr rfl rfl) rfl rf) (jr (rc 5 rfl (zaF (r:=zhU) [kI (IntKind.i64.wrap (if (536870912:Int)<(shrI .u64 rv.1 3) then 536870912 else (shrI .u64 rv.1 3))),kI (IntKind.i64.wrap (andI .u64 rv.1 7))] [] (⟨(IntKind.i64.wrap (if (536870912:Int)<(shrI .u64 rv.1 3) then 536870912 else (shrI .u64 rv.1 3))),(IntKind.i64.wrap (andI .u64 rv.1 7))⟩:zce) rfl zFL rfl rfl) (rfl' [13])) ?_);obtain ⟨rv2,u9,h⟩:=bnd h;refine jr (lb 0 zhU [] (⟨(IntKind.i64.wrap (if (536870912:Int)<(shrI .u64 rv.1 3) then 536870912 else (shrI .u64 rv.1 3))),(IntKind.i64.wrap (andI .u64 rv.1 7))⟩:zce) (rl 0 [1] 12 Tryz.call187 (zCp u9) rf)) (jI h (fun uR h=>?_) fun uR h=>?_)
 ·refine jr (rc 0 rfl (zaF (r:=zhU) [] [] (⟨0,0⟩:zce) rfl zFL rfl rfl) rf) ?_;cases h;exact zo (lk [2,3,4] [12] 12 2 lzz)
 refine jr (lb 0 zhU [] (⟨(IntKind.i64.wrap (if (536870912:Int)<(shrI .u64 rv.1 3) then 536870912 else (shrI .u64 rv.1 3))),(IntKind.i64.wrap (andI .u64 rv.1 7))⟩:zce) rf) ?_;cases h;exact zo (lk [2,3,4] [12] 12 2 lzz)
theorem zyW (h:zmI wire b=some r):FnOk Tryz.prog 159 [kI wire,.sl Rp.byte [0] b] [kI r.1,kI r.2.1,k8 r.2.2]:=by
 refine zu (E:=⟨[(4,kI r.1),(5,kI r.2.1),(6,k8 r.2.2)],[]⟩) 45 Tryz.func159 rfl rfl rfl ⟨rfl,rfl,rfl,trivial⟩ (fun Xt=>?_);refine zk ?_;unfold zmI at h;refine jp (jp (jp (zp (jp (jI h (fun uQ h=>?_) fun uQ h=>?_)))))
 ·obtain ⟨rv,uS,h⟩:=bnd h;refine jr (rl 1 [0] 9 Tryz.call188 (zzv uS) rf) (jp ?_);cases h;exact zo lzz
 refine jp ?_;obtain ⟨p,vz,h⟩:=bnd h;refine zdb (R:=fun e a w=>e= .normal/\Sx ⟨⟨45,[]⟩,Xt,false,#[]⟩ ⟨[(1,.sl Rp.byte [0] b),(4,kI p.1),(6,k8 p.2.1),(7,kU p.2.2)],[]⟩ a w) ?_ ?_
 ·replace h:=vz;refine zk (jI h (fun uR h=>?_) fun uR h=>?_)
  ·refine jp ?_;cases h;exact zD lzz
  refine jp (jI h (fun uT h=>?_) fun uT h=>?_)
  ·refine jp ?_;cases h;exact zD lzz
  refine jp (jI h (fun uX h=>?_) fun uX h=>?_)
  ·obtain ⟨rv2,u9,h⟩:=bnd h;refine jr (rl 1 [0] 9 Tryz.call186 (zoh u9) rf) ?_;cases h;exact zD lzz
  cases h;exact zD lzz
 refine zeQ (zV (jp (jI h (fun vb h=>?_) fun vb h=>?_)))
 ·refine jp ?_;cases h;exact zo lzz
 refine jp (jI h (fun vc h=>?_) fun vc h=>?_)
 ·refine jp ?_;cases h;exact zo lzz
 refine jp ?_;cases h;exact zo lzz
theorem zrm (h:zgX sv=some r):FnOk Tryz.prog 117 [.sl zh [0] sv] [kI r.1,kI r.2.1,kI r.2.2]:=by
 refine zu (E:=⟨[(2,kI r.1),(3,kI r.2.1),(4,kI r.2.2)],[]⟩) 80 Tryz.func117 rfl rfl rfl ⟨rfl,rfl,rfl,trivial⟩ (fun Xt=>?_);refine zk ?_;unfold zgX at h;refine jp (zU ⟨[(0,.sl zh [0] sv),(17,kB (((sv.length:Int)==0)|| (decide ((sv.length:Int)>100))))],[]⟩ ?_ ?_)
 ·refine (rsl 4 [] 13 ((sv.length:Int)==0) (fun uQ=>?_) (fun uQ=>?_))
  · exact (rbl [] 17 true rfl (by rw [uQ]<;>rfl))
  exact (rbl [] 17 (decide ((sv.length:Int)>100)) rfl (by rw [uQ]<;>rfl))
 refine jI h (fun uR h=>?_) fun uR h=>?_
 ·refine jp ?_;cases h;exact zo lzz
 refine jp (zp ?_);obtain ⟨q3,vQ,h⟩:=bnd h;refine zab (fun s:Int=>zbf sv s) (fun s=>⟨[(0,.sl zh [0] sv),(5,kI s)],[]⟩) (fun o e a w=>match o with| (.inl v_)=>e= .exit 0/\Sx ⟨⟨80,[]⟩,Xt,false,#[]⟩ ⟨[],[]⟩ a w| (.inr v_)=>e= .ret/\Sx ⟨⟨80,[]⟩,Xt,false,#[]⟩ ⟨[(2,kI v_.1),(3,kI v_.2.1),(4,kI v_.2.2)],[]⟩ a w) ?_ vQ lzz ?_
 ·clear h;intro i o h;refine zk ?_;replace h:zbf sv i=some o:=h;unfold zbf at h;refine jp (jI h (fun uT h=>?_) fun uT h=>?_)
  ·refine zp (jp (jp (zp ?_)));obtain ⟨q,uU,h⟩:=bnd h;refine zab (fun s:(Bool×Int)=>zbD i sv s.1 s.2) (fun s=>⟨[(0,.sl zh [0] sv),(5,kI i),(6,kB s.1),(7,kI s.2)],[]⟩) (fun o e a w=>e= .exit 2/\Sx ⟨⟨80,[]⟩,Xt,false,#[]⟩ ⟨[(0,.sl zh [0] sv),(5,kI i),(6,kB o)],[]⟩ a w) ?_ uU lzz ?_
   ·clear h;intro s o h;obtain ⟨twice,k⟩:=s;refine zk ?_;replace h:zbD i sv twice k=some o:=h;unfold zbD at h;refine jp (jI h (fun uX h=>?_) fun uX h=>?_)
    ·refine zp ?_;obtain ⟨g,uP,h⟩:=bnd h;refine zdb (R:=fun e a w=>e= .normal/\Sx ⟨⟨80,[]⟩,Xt,false,#[]⟩ ⟨[(0,.sl zh [0] sv),(5,kI i),(6,kB g),(7,kI k)],[]⟩ a w) ?_ (zeQ ?_)
     ·refine zk ?_;rcases yv twice with vb| vb
      ·replace uP:=iteT uP vb;cases uP;exact jd [0,5,6,7] [] zaU (by exact (lw_e (lx (zcv ⟨[(29,kB twice)],[]⟩ (by kernel_rfl) vb) l0))) (zD lzz)
      replace uP:=iteF uP vb;obtain ⟨x,u0,uP⟩:=bnd uP;obtain ⟨x2,va,uP⟩:=bnd uP;cases uP;exact jd [0,5,6,7] [] zaU (by exact (lw_e (lx (zcv ⟨[(29,kB twice)],[]⟩ (by kernel_rfl) vb) (lw_e (lw_e (ly [.sl zh [0] sv,kI k] (zW rfl zhT.el (zy _ _ _) u0) rfl (lw_e (lw_e (lw_e (lw_e (ly [.sl zh [0] sv,kI i] (zW rfl zhT.el (zy _ _ _) va) rfl l0))))))))))) (zD lzz)
     refine zV (jp ?_);cases h;exact zD lzz
    cases h;exact zaa rfl lzz
   refine zan _ rfl ?_;obtain ⟨x3,vg,h⟩:=bnd h;obtain ⟨rv,uS,h⟩:=bnd h;refine jr (ra 2 [.sl zh [0] sv,kI i] rfl (zW rfl zhT.el (zy _ _ _) vg) rfl (rl 2 [1] 11 Tryz.call149 (zmw uS) rf)) (jI h (fun vc h=>?_) fun vc h=>?_)
   ·refine jp ?_;cases h;exact zaN lzz
   refine jp (jI h (fun vh h=>?_) fun vh h=>?_)
   ·refine jp ?_;cases h;exact zaN lzz
   obtain ⟨x4,vo,h⟩:=bnd h;refine jr (ra 2 [.sl zh [0] sv,kI i] rfl (zW rfl zhT.el (zy _ _ _) vo) rfl (ra 1 [.ep zh [0] x4 1] rfl (zeR zf x4.Fields rfl rfl rfl) rfl rf)) (jI h (fun vk h=>?_) fun vk h=>?_)
   ·refine jp ?_;cases h;exact zaN lzz
   refine jp (zp ?_);obtain ⟨q2,vn,h⟩:=bnd h;refine zab (fun s:Int=>zbg i sv s) (fun s=>⟨[(0,.sl zh [0] sv),(5,kI i),(8,kI s)],[]⟩) (fun o e a w=>match o with| (.inl v_)=>e= .exit 4/\Sx ⟨⟨80,[]⟩,Xt,false,#[]⟩ ⟨[(0,.sl zh [0] sv),(5,kI i)],[]⟩ a w| (.inr v_)=>e= .ret/\Sx ⟨⟨80,[]⟩,Xt,false,#[]⟩ ⟨[(2,kI i),(3,kI v_.1),(4,kI v_.2)],[]⟩ a w) ?_ vn lzz ?_
   ·clear h;intro k2 o h;refine zk ?_;replace h:zbg i sv k2=some o:=h;unfold zbg at h;obtain ⟨x5,vC,h⟩:=bnd h;refine jr (ra 3 [.sl zh [0] sv,kI i] rfl (zW rfl zhT.el (zy _ _ _) vC) rfl (ra 1 [.ep zh [0] x5 1] rfl (zeR zf x5.Fields rfl rfl rfl) rfl rf)) (jI h (fun vj h=>?_) fun vj h=>?_)
    ·refine zp ?_;obtain ⟨rv2,u9,h⟩:=bnd h;refine jr (rl 3 [0] 12 Tryz.call150 (zrn u9) rf) (jp (jI h (fun vq h=>?_) fun vq h=>?_))
     ·refine jp ?_;cases h;exact zaN lzz
     refine zV (jp ?_);cases h;exact zD lzz
    cases h;exact zaa rfl lzz
   rcases q2 with u| u2
   ·refine zan _ rfl (zV (jp ?_));cases h;exact zD lzz
   cases h;exact zBA lzz
  cases h;exact zaa rfl lzz
 rcases q3 with u3| u4
 ·refine zan _ rfl (jp ?_);cases h;exact zo lzz
 cases h;exact zcJ lzz
theorem zrj (h:zgU b most=some r):FnOk Tryz.prog 94 [.sl Rp.byte [0] b,kI most] [kI r.1,kI r.2]:=by
 refine zu (E:=⟨[(4,kI r.1),(5,kI r.2)],[]⟩) 28 Tryz.func94 rfl rfl rfl ⟨rfl,rfl,trivial⟩ (fun Xt=>?_);refine zk ?_;unfold zgU at h;refine jp (jp (zp ?_));obtain ⟨q,uU,h⟩:=bnd h;refine zab (fun s:(Int×Int)=>zbC b most s.1 s.2) (fun s=>⟨[(0,.sl Rp.byte [0] b),(1,kI most),(6,kI s.1),(7,kI s.2)],[]⟩) (fun o e a w=>e= .ret/\Sx ⟨⟨28,[]⟩,Xt,false,#[]⟩ ⟨[(4,kI o.1),(5,kI o.2)],[]⟩ a w) ?_ uU lzz ?_
 ·clear h;intro s o h;obtain ⟨atv,count⟩:=s;refine zk ?_;replace h:zbC b most atv count=some o:=h;unfold zbC at h;refine zp ?_;obtain ⟨rv,uS,h⟩:=bnd h;refine jr (rl 2 [0] 10 Tryz.call127 (zrK uS) rf) (zU ⟨[(0,.sl Rp.byte [0] b),(1,kI most),(6,kI atv),(7,kI count),(8,kI rv),(20,kB ((rv==0)|| (decide ((IntKind.i64.wrap (atv+rv))>most))))],[]⟩ ?_ ?_)
  ·refine (rsl 3 [] 14 (rv==0) (fun uQ=>?_) (fun uQ=>?_))
   · exact (rbl [] 20 true rfl (by rw [uQ]<;>rfl))
   exact (rbl [] 20 (decide ((IntKind.i64.wrap (atv+rv))>most)) rfl (by rw [uQ]<;>rfl))
  refine jI h (fun uR h=>?_) fun uR h=>?_
  ·refine jp ?_;cases h;exact zaN lzz
  refine jp (jp (zV ?_));cases h;exact zD lzz
 cases h;exact zcJ lzz
theorem zrL (h:zhD b vl=some r):FnOk Tryz.prog 84 [.sl Rp.byte [0] b,kI vl] [.rc zal [] r.1,kI r.2]:=by
 refine zu (E:=⟨[(4,.ptr 2 0),(5,kI r.2)],[⟨2,133,[kI r.1.Number,kI r.1.Wire,kI r.1.From,kI r.1.At,kI r.1.To]⟩]⟩) 108 Tryz.func84 rfl rfl rfl ⟨⟨_,_,rfl,rfl,rfl,rfl,⟨Tryz.isAgg133,Tryz.sizeOf133⟩⟩,rfl,trivial⟩ (fun Xt=>?_);refine zk ?_;unfold zhD at h;refine jq [12] (zU ⟨[(0,.sl Rp.byte [0] b),(1,kI vl),(4,.ptr 12 0),(26,kB ((decide (vl<0))|| (decide (vl>=(b.length:Int)))))],[⟨12,133,[kI 0,kI 0,kI 0,kI 0,kI 0]⟩]⟩ ?_ ?_)
 ·refine (rsl 3 [] 21 (decide (vl<0)) (fun uQ=>?_) (fun uQ=>?_))
  · exact (rbl [] 26 true rfl (by rw [uQ]<;>rfl))
  exact (rbl [] 26 (decide (vl>=(b.length:Int))) rfl (by rw [uQ]<;>rfl))
 refine jI h (fun uR h=>?_) fun uR h=>?_
 ·refine jr (rc 0 rfl (zaF (r:=zal) [] [] (⟨0,0,0,0,0⟩:zB) rfl zup rfl rfl) rf) ?_;cases h;exact zo (lk [4,5] [12] 12 2 lzz)
 obtain ⟨rv,uS,h⟩:=bnd h;refine jr (rl 2 [0] 11 Tryz.call118 (zrJ uS) rf) (jp (jI h (fun uT h=>?_) fun uT h=>?_))
 ·refine jr (rc 0 rfl (zaF (r:=zal) [] [] (⟨0,0,0,0,0⟩:zB) rfl zup rfl rfl) rf) ?_;cases h;exact zo (lk [4,5] [12] 12 2 lzz)
 refine jr (rc 6 rfl (zaF (r:=zal) [kI rv.1,kI rv.2.1,kI vl,kI (IntKind.i64.wrap (vl+rv.2.2.1))] [] (⟨rv.1,rv.2.1,vl,(IntKind.i64.wrap (vl+rv.2.2.1)),0⟩:zB) rfl zup rfl rfl) (rfl' [13])) (jp (jp (jp ?_)));obtain ⟨p,vz,h⟩:=bnd h;refine zdb (R:=fun e a w=>e= .normal/\Sx ⟨⟨108,[]⟩,Xt,false,#[]⟩ ⟨[(0,.sl Rp.byte [0] b),(4,.ptr 12 0),(7,kI rv.2.1),(10,.ptr 13 0),(11,kI (IntKind.i64.wrap ((b.length:Int) - (IntKind.i64.wrap (vl+rv.2.2.1))))),(12,kI p)],[⟨12,133,[kI 0,kI 0,kI 0,kI 0,kI 0]⟩,⟨13,133,[kI rv.1,kI rv.2.1,kI vl,kI (IntKind.i64.wrap (vl+rv.2.2.1)),kI 0]⟩]⟩ a w) ?_ ?_
 ·replace h:=vz;refine zk (jI h (fun uX h=>?_) fun uX h=>?_)
  ·refine jp ?_;cases h;exact zD lzz
  cases h;exact zD lzz
 refine zeQ (jp ?_);obtain ⟨p2,vN,h⟩:=bnd h;refine zdb (R:=fun e a w=>match p2 with| (.inl v_)=>e= .normal/\Sx ⟨⟨108,[]⟩,Xt,false,#[]⟩ ⟨[(0,.sl Rp.byte [0] b),(4,.ptr 12 0),(7,kI rv.2.1),(10,.ptr 13 0),(11,kI (IntKind.i64.wrap ((b.length:Int) - (IntKind.i64.wrap (vl+rv.2.2.1))))),(12,kI v_)],[⟨12,133,[kI 0,kI 0,kI 0,kI 0,kI 0]⟩,⟨13,133,[kI rv.1,kI rv.2.1,kI vl,kI (IntKind.i64.wrap (vl+rv.2.2.1)),kI 0]⟩]⟩ a w| (.inr v_)=>e= .ret/\Sx ⟨⟨108,[]⟩,Xt,false,#[]⟩ ⟨[(4,.ptr 12 0),(5,kI v_)],[⟨12,133,[kI 0,kI 0,kI 0,kI 0,kI 0]⟩]⟩ a w) ?_ ?_
 ·replace h:=vN;refine zk (jI h (fun vb h=>?_) fun vb h=>?_)
  ·obtain ⟨rv2,u9,h⟩:=bnd h;refine jr (rl 3 [0] 12 Tryz.call119 (zjH u9) rf) (jp (jI h (fun vc h=>?_) fun vc h=>?_))
   ·refine jr (rc 0 rfl (zaF (r:=zal) [] [] (⟨0,0,0,0,0⟩:zB) rfl zup rfl rfl) rf) ?_;cases h;exact zo lzz
   refine jp ?_;cases h;exact zD lzz
  cases h;exact zD lzz
 rcases p2 with u| u4
 ·refine zeQ (jp ?_);obtain ⟨p3,vR,h⟩:=bnd h;refine zdb (R:=fun e a w=>match p3 with| (.inl v_)=>e= .normal/\Sx ⟨⟨108,[]⟩,Xt,false,#[]⟩ ⟨[(4,.ptr 12 0),(10,.ptr 13 0),(11,kI v_.1),(12,kI v_.2.1)],[⟨12,133,[kI 0,kI 0,kI 0,kI 0,kI 0]⟩,⟨13,133,[kI rv.1,kI rv.2.1,kI vl,kI v_.2.2,kI 0]⟩]⟩ a w| (.inr v_)=>e= .ret/\Sx ⟨⟨108,[]⟩,Xt,false,#[]⟩ ⟨[(4,.ptr 12 0),(5,kI v_)],[⟨12,133,[kI 0,kI 0,kI 0,kI 0,kI 0]⟩]⟩ a w) ?_ ?_
  ·replace h:=vR;refine zk (jI h (fun vh h=>?_) fun vh h=>?_)
   ·obtain ⟨rv3,ve,h⟩:=bnd h;refine jr (rl 3 [0] 12 Tryz.call119 (zjH ve) rf) (jp (jI h (fun vk h=>?_) fun vk h=>?_))
    ·refine jr (rc 0 rfl (zaF (r:=zal) [] [] (⟨0,0,0,0,0⟩:zB) rfl zup rfl rfl) rf) ?_;cases h;exact zo lzz
    refine jp (jp (jp (jI h (fun vj h=>?_) fun vj h=>?_)))
    ·refine jr (rc 0 rfl (zaF (r:=zal) [] [] (⟨0,0,0,0,0⟩:zB) rfl zup rfl rfl) rf) ?_;cases h;exact zo lzz
    refine jp ?_;cases h;exact zD lzz
   cases h;exact zD lzz
  rcases p3 with u2| u3
  ·refine zeQ (jp (jI h (fun vq h=>?_) fun vq h=>?_))
   ·refine jr (rc 0 rfl (zaF (r:=zal) [] [] (⟨0,0,0,0,0⟩:zB) rfl zup rfl rfl) rf) ?_;cases h;exact zo (lk [4,5] [12] 12 2 lzz)
   refine jp (jr (lb 0 zal [] (⟨rv.1,rv.2.1,vl,u2.2.2,(IntKind.i64.wrap (u2.2.2+u2.2.1))⟩:zB) rf) ?_);cases h;exact zo (lk [4,5] [12] 12 2 lzz)
  cases h;exact zcJ (lk [4,5] [12] 12 2 lzz)
 cases h;exact zcJ (lk [4,5] [12] 12 2 lzz)
end Go.Proofs.YtekgmimingolbaaGreat
