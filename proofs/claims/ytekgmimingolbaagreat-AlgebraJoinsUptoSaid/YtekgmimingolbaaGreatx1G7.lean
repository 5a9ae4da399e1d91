/-
  The Go functions do what the plain functions say. No condition.
-/
import Derived.Test.YtekgmimingolbaaGreatx1G4
import Derived.Test.YtekgmimingolbaaGreatx1G5
set_option autoImplicit true
set_option relaxedAutoImplicit true
namespace Go.Proofs.YtekgmimingolbaaGreat
open Go Go.RowKit
set_option linter.unusedVariables false
set_option maxRecDepth 100000
set_option maxHeartbeats 3200000
theorem zlX (h:zdG s1 s2=some r):FnOk Tryz.prog 71 [.sl kp [0] s1,.sl kp [0] s2] [kI r]:=by
 refine zy (E:=⟨[(4,kI r)],[]⟩) 36 Tryz.func71 rfl rfl rfl ⟨rfl,trivial⟩ (fun Xt=>?_);refine zm ?_;unfold zdG at h;refine jp (jp (zv (jb h fun q vc h=>zac (fun s:Int=>zak s1 s2 s) (fun s=>⟨[(0,.sl kp [0] s1),(1,.sl kp [0] s2),(9,.sl kp [0] s1),(10,kI (s1.length:Int)),(11,kI s)],[]⟩) (fun o e a w=>match o with| (.inl v_)=>e= .exit 0/\Sx ⟨⟨36,[]⟩,Xt,false,#[]⟩ ⟨[(0,.sl kp [0] s1),(1,.sl kp [0] s2)],[]⟩ a w| (.inr v_)=>e= .ret/\Sx ⟨⟨36,[]⟩,Xt,false,#[]⟩ ⟨[(4,kI v_)],[]⟩ a w) ?_ vc lzz ?_)))
 ·clear h;intro v o h;refine zm ?_;replace h:zak s1 s2 v=some o:=h;unfold zak at h;refine jp (jI h (fun uW h=>?_) fun uW h=>?_)
  ·refine zv (jb h fun x vg h=>jr (ra 1 [.sl kp [0] s1,kI v] rfl (zai rfl zlP.el (zC _ _ _) vg) rfl rf) (jp (jI h (fun uY h=>?_) fun uY h=>?_)))
   ·refine jp ?_;cases h;exact zbf lzz
   refine jb h fun x2 vk h=>jr (ra 2 [.sl kp [0] s2,kI v] rfl (zai rfl zlP.el (zC _ _ _) vk) rfl rf) (jb h fun rv uZ h=>jr (rl 2 [1] 10 Tryz.call106 (zsk uZ) rf) (jp (jI h (fun u9 h=>?_) fun u9 h=>?_)))
   ·refine jp ?_;cases h;exact zbf lzz
   refine zX (jp ?_);cases h;exact zH lzz
  cases h;exact zad rfl lzz
 rcases q with u| u2
 ·refine zas _ rfl (jp (jI h (fun vd h=>?_) fun vd h=>?_))
  ·refine jp ?_;cases h;exact zw lzz
  refine jp ?_;cases h;exact zw lzz
 obtain rfl:=(sj h);exact zdj lzz
theorem zfO (h:zaH v=some r):FnOk Tryz.prog 103 [.fv 105 [.ep kr [0] v 0]] [.own kq 53 2 [3,0] r]:=by
 refine zy (E:=⟨[(2,.own kq 53 2 [3,0] r)],[]⟩) 5 Tryz.func103 rfl rfl rfl ⟨rfl,trivial⟩ (fun Xt=>?_);refine zm ?_;unfold zaH at h;refine jp (jb h fun rv uZ h=>jr (rl 1 [0] 11 Tryz.call135 (zel uZ) rf) ?_);obtain rfl:=(sj h);exact zw (lk [2] [] 13 2 (lk [2] [] 14 3 lzz))
theorem zoX (h:zfN c m=some r):zqw Tryz.prog 140 [.ag [kI c.size,.sl kp [0] c.kinds,.om zu Rp.bool 2 [0] c.names,.om zt Rp.bool 3 [0] c.numbers],.rc zj [0] m] [kI r.1] [.ag [.any,.any,.om zu Rp.bool 2 [0] r.2.1,.om zt Rp.bool 3 [0] r.2.2],.any]:=by
 refine zuB (E:=⟨[(0,.ag [.any,.any,.om zu Rp.bool 2 [0] r.2.1,.om zt Rp.bool 3 [0] r.2.2]),(4,kI r.1)],[]⟩) 27 [0] Tryz.func140 rfl rfl rfl ⟨rfl,trivial⟩ ⟨.inr ⟨rfl,rfl⟩,.inl rfl,trivial⟩ rfl (fun Xt old=>?_);refine zm ?_;unfold zfN at h;refine jr (ral 1 [11] [.rc zj [0] m] rfl (zbc 12 (zaK [0] m) [0] rfl rfl rfl rfl rfl) rfl rf) (jr (rc 2 rfl (zaO (r:=zu) [kI (-1),kS m.Name] [] (⟨(-1),m.Name⟩:zp) rfl zIk rfl rfl) (rfl' [13])) (zv (jb h fun rv uZ h=>jr (rl 2 [1] 12 Tryz.call172 (zoY uZ) rf) (jI h (fun uW h=>?_) fun uW h=>?_))))
 ·refine jp ?_;cases h;exact zpT (lq ⟨[(0,.ag [kI c.size,.sl kp [0] c.kinds,.om zu Rp.bool 2 [0] c.names,.om zt Rp.bool 3 [0] c.numbers]),(4,kI 2)],[]⟩ (zdE 0 (.ag [.any,.any,.om zu Rp.bool 2 [0] ((2,c.names,c.numbers):(Int×(List (zp×Bool))×(List (zq×Bool)))).2.1,.om zt Rp.bool 3 [0] ((2,c.names,c.numbers):(Int×(List (zp×Bool))×(List (zq×Bool)))).2.2]) rfl (zks ⟨zgq _,zgq _,ky _,ky _,trivial⟩) lzz))
 refine jr (lb 2 zu [] (⟨(-1),m.Name⟩:zp) (ra 0 [.om zu Rp.bool 2 [0] c.names,.rc zu [] (⟨(-1),m.Name⟩:zp)] rfl (zqX (rk:=zu) (rv:=Rp.bool) (m:=c.names) (k:=(⟨(-1),m.Name⟩:zp)) (kB ((mget c.names (⟨(-1),m.Name⟩:zp)).getD false)) rfl zvU (zea rfl) (zpv rfl rfl rfl)) rfl rf)) (jI h (fun uY h=>?_) fun uY h=>?_)
 ·refine jp ?_;cases h;exact zpT (lq ⟨[(0,.ag [kI c.size,.sl kp [0] c.kinds,.om zu Rp.bool 2 [0] c.names,.om zt Rp.bool 3 [0] c.numbers]),(4,kI 3)],[]⟩ (zdE 0 (.ag [.any,.any,.om zu Rp.bool 2 [0] ((3,c.names,c.numbers):(Int×(List (zp×Bool))×(List (zq×Bool)))).2.1,.om zt Rp.bool 3 [0] ((3,c.names,c.numbers):(Int×(List (zp×Bool))×(List (zq×Bool)))).2.2]) rfl (zks ⟨zgq _,zgq _,ky _,ky _,trivial⟩) lzz))
 refine jp (jI h (fun u9 h=>?_) fun u9 h=>?_)
 ·refine jp ?_;cases h;exact zpT (lq ⟨[(0,.ag [kI c.size,.sl kp [0] c.kinds,.om zu Rp.bool 2 [0] c.names,.om zt Rp.bool 3 [0] c.numbers]),(4,kI 4)],[]⟩ (zdE 0 (.ag [.any,.any,.om zu Rp.bool 2 [0] ((4,c.names,c.numbers):(Int×(List (zp×Bool))×(List (zq×Bool)))).2.1,.om zt Rp.bool 3 [0] ((4,c.names,c.numbers):(Int×(List (zp×Bool))×(List (zq×Bool)))).2.2]) rfl (zks ⟨zgq _,zgq _,ky _,ky _,trivial⟩) lzz))
 refine zX (jr (lb 2 zu [] (⟨(-1),m.Name⟩:zp) (rkl 0 [] ⟨[(0,.ag [kI c.size,.sl kp [0] c.kinds,.om zu Rp.bool 2 [0] c.names,.om zt Rp.bool 3 [0] c.numbers]),(25,.om zu Rp.bool 2 [0] c.names),(26,.rc zu [] (⟨(-1),m.Name⟩:zp))],[]⟩ (zmp ⟨[(0,.ag [kI c.size,.sl kp [0] c.kinds,.om zu Rp.bool 2 [0] (mput c.names (⟨(-1),m.Name⟩:zp) true),.om zt Rp.bool 3 [0] c.numbers]),(25,.om zu Rp.bool 2 [0] (mput c.names (⟨(-1),m.Name⟩:zp) true)),(26,.rc zu [] (⟨(-1),m.Name⟩:zp))],[]⟩ (zub (rk:=zu) (rv:=Rp.bool) (m:=c.names) (ℓ:=2) (C:=[0]) (C1:=[]) (D:=[]) (⟨(-1),m.Name⟩:zp) true [0] zvU (.inl rfl) (zea rfl) (zei rfl rfl) rfl) rfl (by kernel_rfl) (by kernel_rfl) ⟨⟨_,rfl,zCg ⟨zaa rfl,zaa rfl,zhR 0 rfl,zaa rfl,trivial⟩⟩,⟨_,rfl,zhR 0 rfl⟩,⟨_,rfl,zaa rfl⟩,trivial⟩ trivial rf))) (jp ?_));cases h;exact zpT (lq ⟨[(0,.ag [kI c.size,.sl kp [0] c.kinds,.om zu Rp.bool 2 [0] (mput c.names (⟨(-1),m.Name⟩:zp) true),.om zt Rp.bool 3 [0] c.numbers]),(4,kI 0)],[]⟩ (zdE 0 (.ag [.any,.any,.om zu Rp.bool 2 [0] ((0,(mput c.names (⟨(-1),m.Name⟩:zp) true),c.numbers):(Int×(List (zp×Bool))×(List (zq×Bool)))).2.1,.om zt Rp.bool 3 [0] ((0,(mput c.names (⟨(-1),m.Name⟩:zp) true),c.numbers):(Int×(List (zp×Bool))×(List (zq×Bool)))).2.2]) rfl (zks ⟨zgq _,zgq _,ky _,ky _,trivial⟩) lzz))
theorem zwS (h:zlD k=some r):FnOk Tryz.prog 198 [kI k] [kB r]:=by
 refine zy (E:=⟨[(2,kB r)],[]⟩) 16 Tryz.func198 rfl rfl rfl ⟨rfl,trivial⟩ (fun Xt=>?_);refine zm ?_;unfold zlD at h;refine jp (jb h fun rv uZ h=>jr (rl 1 [1] 9 Tryz.call217 (zzP uZ) rf) (zab ⟨[(2,kB ((rv.2==0)&&(rv.1 !=2)))],[]⟩ ?_ ?_))
 ·refine (rsl 3 [] 12 (rv.2==0) (fun uW=>?_) (fun uW=>?_))
  · exact (rbl [] 2 (rv.1 !=2) rfl (by rw [uW]<;>rfl))
  exact (rbl [] 2 false rfl (by rw [uW]<;>rfl))
 cases h;exact zw lzz
theorem zpO (h:zmw vf x=some r):FnOk Tryz.prog 64 [.rc zd [0] x] [kB r]:=by
 refine zy (E:=⟨[(2,kB r)],[]⟩) 6 Tryz.func64 rfl rfl rfl ⟨rfl,trivial⟩ (fun Xt=>?_);refine zm ?_;unfold zmw at h;refine jr (ra 0 [.rc zd [0] x] rfl (zbc 11 (zh [0] x) [0] rfl rfl rfl (by rw [zk]<;>rfl) rfl) rfl rf) (jb h fun rv uZ h=>jr (rc 1 rfl (zA.le (ins':=[(.tmp 3,.ag (zh [0] x))]) (zQ (args:=[.tmp 3]) [.rc zd [0] x] [0] 10 rfl Tryz.call95 (zyj uZ) rfl rfl rfl rfl rfl) ⟨⟨rfl,zM [0] x⟩,trivial⟩) rf) ?_);cases h;exact zw lzz
theorem zkg (h:zdp m v=some r):FnOk Tryz.prog 129 [.rc zj [0] m,.fv 130 [.ep kp [0] v 0]] [kI r.1,kB r.2]:=by
 refine zy (E:=⟨[(4,kI r.1),(5,kB r.2)],[]⟩) 15 Tryz.func129 rfl rfl rfl ⟨rfl,rfl,trivial⟩ (fun Xt=>?_);refine zm ?_;unfold zdp at h;refine jr (ra 0 [.rc zj [0] m] rfl (zbc 11 (zaK [0] m) [0] rfl rfl rfl rfl rfl) rfl rf) (jb h fun rv uZ h=>jr (rl 3 [0] 10 Tryz.call157 (zfh uZ) rf) (jp ?_));cases h;exact zw lzz
theorem zCm (h:zrE b=some r):FnOk Tryz.prog 214 [.sl Rp.byte [0] b] [kI r.1,kI r.2]:=by
 refine zy (E:=⟨[(2,kI r.1),(3,kI r.2)],[]⟩) 20 Tryz.func214 rfl rfl rfl ⟨rfl,rfl,trivial⟩ (fun Xt=>?_);refine zm ?_;unfold zrE at h;refine jp (jb h fun rv uZ h=>jr (rl 1 [0] 9 Tryz.call226 (zvx uZ) rf) (zv (jb h fun q vc h=>zac (fun s:(Int×Int×Int)=>zgt b s.1 s.2.1 s.2.2) (fun s=>⟨[(0,.sl Rp.byte [0] b),(2,kI s.1),(3,kI s.2.1),(4,kI s.2.2)],[]⟩) (fun o e a w=>e= .exit 0/\Sx ⟨⟨20,[]⟩,Xt,false,#[]⟩ ⟨[(2,kI o.1),(3,kI o.2)],[]⟩ a w) ?_ vc lzz ?_)))
 ·clear h;intro s o h;obtain ⟨atv,points,size⟩:=s;refine zm ?_;replace h:zgt b atv points size=some o:=h;unfold zgt at h;refine jp (jI h (fun uW h=>?_) fun uW h=>?_)
  ·refine zv (jp (jp (zX (jb h fun v vr h=>jb h fun rv2 vj h=>jr (ra 2 [.sl Rp.byte [0] b,kI (IntKind.i64.wrap (atv+size))] rfl (zqV (some (kI (IntKind.i64.wrap (atv+size)))) none rfl ziJ.el (zC _ _ _) ⟨rfl,rfl⟩ ⟨rfl,rfl⟩ vr) rfl (rl 0 [0] 10 Tryz.call226 (zvx vj) rf)) ?_))));cases h;exact zH lzz
  cases h;exact zad rfl lzz
 refine zas _ rfl (jp ?_);cases h;exact zw lzz
theorem zyc (h:zmJ k wv=some r):FnOk Tryz.prog 155 [kI k,kU wv] [kU r.1,k8 r.2]:=by
 refine zy (E:=⟨[(4,kU r.1),(5,k8 r.2)],[]⟩) 34 Tryz.func155 rfl rfl rfl ⟨rfl,rfl,trivial⟩ (fun Xt=>?_);refine zm ?_;unfold zmJ at h;refine jp (jp (zv (jp (jb h fun p vJ h=>zeg (R:=fun e a w=>e= .normal/\Sx ⟨⟨34,[]⟩,Xt,false,#[]⟩ ⟨[(1,kU wv),(6,kI k),(7,kB p)],[]⟩ a w) ?_ ?_))))
 ·replace h:=vJ;refine zm (jI h (fun uW h=>?_) fun uW h=>?_)
  ·cases h;exact zH lzz
  refine jp ?_;cases h;exact zH lzz
 refine zgp (jI h (fun uY h=>?_) fun uY h=>?_)
 ·refine jb h fun rv uZ h=>jb h fun rv2 vj h=>jr (rl 1 [1] 9 Tryz.call183 (zwo uZ) (rl 0 [1] 9 Tryz.call182 (zwp vj) rf)) ?_;cases h;exact zw lzz
 refine jp (jb h fun p2 vV h=>zeg (R:=fun e a w=>e= .normal/\Sx ⟨⟨34,[]⟩,Xt,false,#[]⟩ ⟨[(1,kU wv),(6,kI k),(13,kB p2)],[]⟩ a w) ?_ ?_)
 ·replace h:=vV;refine zm (jI h (fun u9 h=>?_) fun u9 h=>?_)
  ·cases h;exact zH lzz
  refine jp (jI h (fun vd h=>?_) fun vd h=>?_)
  ·cases h;exact zH lzz
  refine jp (jI h (fun vh h=>?_) fun vh h=>?_)
  ·cases h;exact zH lzz
  refine jp (jI h (fun vi h=>?_) fun vi h=>?_)
  ·cases h;exact zH lzz
  refine jp ?_;cases h;exact zH lzz
 refine zgp (jI h (fun vm h=>?_) fun vm h=>?_)
 ·refine jb h fun rv3 vl h=>jr (rl 1 [1] 9 Tryz.call184 (zsu vl) rf) ?_;cases h;exact zw lzz
 refine jp (jI h (fun vp h=>?_) fun vp h=>?_)
 ·refine jb h fun rv4 vx h=>jr (rl 1 [1] 9 Tryz.call185 (zyd vx) rf) ?_;cases h;exact zw lzz
 refine jp (jb h fun p3 wy h=>zeg (R:=fun e a w=>e= .normal/\Sx ⟨⟨34,[]⟩,Xt,false,#[]⟩ ⟨[(1,kU wv),(26,kB p3)],[]⟩ a w) ?_ ?_)
 ·replace h:=wy;refine zm (jI h (fun vq h=>?_) fun vq h=>?_)
  ·cases h;exact zH lzz
  refine jp (jI h (fun vA h=>?_) fun vA h=>?_)
  ·cases h;exact zH lzz
  refine jp (jI h (fun vL h=>?_) fun vL h=>?_)
  ·cases h;exact zH lzz
  refine jp (jI h (fun vF h=>?_) fun vF h=>?_)
  ·cases h;exact zH lzz
  refine jp (jI h (fun vE h=>?_) fun vE h=>?_)
  ·cases h;exact zH lzz
  refine jp ?_;cases h;exact zH lzz
 refine zgp (jI h (fun vI h=>?_) fun vI h=>?_)
 ·refine jp ?_;cases h;exact zw lzz
 refine zX (jp ?_);cases h;exact zw lzz
theorem zCe (h:zrx b=some r):FnOk Tryz.prog 158 [.sl Rp.byte [0] b] [.rc zho [] r.1,kI r.2.1,k8 r.2.2]:=by
 refine zy (E:=⟨[(2,.ptr 2 0),(3,kI r.2.1),(4,k8 r.2.2)],[⟨2,224,(zwx r.1)⟩]⟩) 35 Tryz.func158 rfl rfl rfl ⟨⟨_,_,rfl,rfl,rfl,rfl,⟨Tryz.isAgg224,Tryz.sizeOf224⟩⟩,rfl,rfl,trivial⟩ (fun Xt=>?_);refine zm ?_;unfold zrx at h;refine jq [12] (jb h fun rv uZ h=>jr (rl 1 [0] 11 Tryz.call186 (znd uZ) rf) (jp (jI h (fun uW h=>?_) fun uW h=>?_)))
 ·refine jr (rc 0 rfl (zaO (r:=zho) [] [] (⟨0,0⟩:zbM) rfl zDA rfl rfl) rf) ?_;cases h;exact zw (lk [2,3,4] [12] 12 2 lzz)
 refine jr (ra 1 [kU rv.1,kU 3] rfl (zoo rfl rfl) rfl rf) (jr (rc 5 rfl (zaO (r:=zho) [kI (IntKind.i64.wrap (if (536870912:Int)<(shrI .u64 rv.1 3) then 536870912 else (shrI .u64 rv.1 3))),kI (IntKind.i64.wrap (andI .u64 rv.1 7))] [] (⟨(IntKind.i64.wrap (if (536870912:Int)<(shrI .u64 rv.1 3) then 536870912 else (shrI .u64 rv.1 3))),(IntKind.i64.wrap (andI .u64 rv.1 7))⟩:zbM) rfl zDA rfl rfl) (rfl' [13])) (jb h fun rv2 vj h=>jr (lb 0 zho [] (⟨(IntKind.i64.wrap (if (536870912:Int)<(shrI .u64 rv.1 3) then 536870912 else (shrI .u64 rv.1 3))),(IntKind.i64.wrap (andI .u64 rv.1 7))⟩:zbM) (rl 0 [1] 12 Tryz.call187 (zAu vj) rf)) (jI h (fun uY h=>?_) fun uY h=>?_)))
 ·refine jr (rc 0 rfl (zaO (r:=zho) [] [] (⟨0,0⟩:zbM) rfl zDA rfl rfl) rf) ?_;cases h;exact zw (lk [2,3,4] [12] 12 2 lzz)
 refine jr (lb 0 zho [] (⟨(IntKind.i64.wrap (if (536870912:Int)<(shrI .u64 rv.1 3) then 536870912 else (shrI .u64 rv.1 3))),(IntKind.i64.wrap (andI .u64 rv.1 7))⟩:zbM) rf) ?_;cases h;exact zw (lk [2,3,4] [12] 12 2 lzz)
theorem zxv (h:zlG wire b=some r):FnOk Tryz.prog 159 [kI wire,.sl Rp.byte [0] b] [kI r.1,kI r.2.1,k8 r.2.2]:=by
 refine zy (E:=⟨[(4,kI r.1),(5,kI r.2.1),(6,k8 r.2.2)],[]⟩) 45 Tryz.func159 rfl rfl rfl ⟨rfl,rfl,rfl,trivial⟩ (fun Xt=>?_);refine zm ?_;unfold zlG at h;refine jp (jp (jp (zv (jp (jI h (fun uW h=>?_) fun uW h=>?_)))))
 ·refine jb h fun rv uZ h=>jr (rl 1 [0] 9 Tryz.call188 (zxS uZ) rf) (jp ?_);cases h;exact zw lzz
 refine jp (jb h fun p vJ h=>zeg (R:=fun e a w=>e= .normal/\Sx ⟨⟨45,[]⟩,Xt,false,#[]⟩ ⟨[(1,.sl Rp.byte [0] b),(4,kI p.1),(6,k8 p.2.1),(7,kU p.2.2)],[]⟩ a w) ?_ ?_)
 ·replace h:=vJ;refine zm (jI h (fun uY h=>?_) fun uY h=>?_)
  ·refine jp ?_;cases h;exact zH lzz
  refine jp (jI h (fun u9 h=>?_) fun u9 h=>?_)
  ·refine jp ?_;cases h;exact zH lzz
  refine jp (jI h (fun vd h=>?_) fun vd h=>?_)
  ·refine jb h fun rv2 vj h=>jr (rl 1 [0] 9 Tryz.call186 (znd vj) rf) ?_;cases h;exact zH lzz
  cases h;exact zH lzz
 refine zgp (zX (jp (jI h (fun vh h=>?_) fun vh h=>?_)))
 ·refine jp ?_;cases h;exact zw lzz
 refine jp (jI h (fun vi h=>?_) fun vi h=>?_)
 ·refine jp ?_;cases h;exact zw lzz
 refine jp ?_;cases h;exact zw lzz
theorem zqh (h:zgE sv=some r):FnOk Tryz.prog 117 [.sl zj [0] sv] [kI r.1,kI r.2.1,kI r.2.2]:=by
 refine zy (E:=⟨[(2,kI r.1),(3,kI r.2.1),(4,kI r.2.2)],[]⟩) 80 Tryz.func117 rfl rfl rfl ⟨rfl,rfl,rfl,trivial⟩ (fun Xt=>?_);refine zm ?_;unfold zgE at h;refine jp (zab ⟨[(0,.sl zj [0] sv),(17,kB (((sv.length:Int)==0)|| (decide ((sv.length:Int)>100))))],[]⟩ ?_ ?_)
 ·refine (rsl 4 [] 13 ((sv.length:Int)==0) (fun uW=>?_) (fun uW=>?_))
  · exact (rbl [] 17 true rfl (by rw [uW]<;>rfl))
  exact (rbl [] 17 (decide ((sv.length:Int)>100)) rfl (by rw [uW]<;>rfl))
 refine jI h (fun uY h=>?_) fun uY h=>?_
 ·refine jp ?_;cases h;exact zw lzz
 refine jp (zv (jb h fun q3 vY h=>zac (fun s:Int=>zaX sv s) (fun s=>⟨[(0,.sl zj [0] sv),(5,kI s)],[]⟩) (fun o e a w=>match o with| (.inl v_)=>e= .exit 0/\Sx ⟨⟨80,[]⟩,Xt,false,#[]⟩ ⟨[],[]⟩ a w| (.inr v_)=>e= .ret/\Sx ⟨⟨80,[]⟩,Xt,false,#[]⟩ ⟨[(2,kI v_.1),(3,kI v_.2.1),(4,kI v_.2.2)],[]⟩ a w) ?_ vY lzz ?_))
 ·clear h;intro i o h;refine zm ?_;replace h:zaX sv i=some o:=h;unfold zaX at h;refine jp (jI h (fun u9 h=>?_) fun u9 h=>?_)
  ·refine zv (jp (jp (zv (jb h fun q vc h=>zac (fun s:(Bool×Int)=>zbA i sv s.1 s.2) (fun s=>⟨[(0,.sl zj [0] sv),(5,kI i),(6,kB s.1),(7,kI s.2)],[]⟩) (fun o e a w=>e= .exit 2/\Sx ⟨⟨80,[]⟩,Xt,false,#[]⟩ ⟨[(0,.sl zj [0] sv),(5,kI i),(6,kB o)],[]⟩ a w) ?_ vc lzz ?_))))
   ·clear h;intro s o h;obtain ⟨twice,k⟩:=s;refine zm ?_;replace h:zbA i sv twice k=some o:=h;unfold zbA at h;refine jp (jI h (fun vd h=>?_) fun vd h=>?_)
    ·refine zv (jb h fun g uX h=>zeg (R:=fun e a w=>e= .normal/\Sx ⟨⟨80,[]⟩,Xt,false,#[]⟩ ⟨[(0,.sl zj [0] sv),(5,kI i),(6,kB g),(7,kI k)],[]⟩ a w) ?_ (zgp ?_))
     ·refine zm ?_;rcases yu twice with vh| vh
      ·replace uX:=iteT uX vh;cases uX;exact jd [0,5,6,7] [] zbh (by exact (lw_e (lx (zbE ⟨[(29,kB twice)],[]⟩ (by kernel_rfl) vh) l0))) (zH lzz)
      replace uX:=iteF uX vh;refine jb uX fun x vg uX=>jb uX fun x2 vk uX=>?_;cases uX;exact jd [0,5,6,7] [] zbh (by exact (lw_e (lx (zbE ⟨[(29,kB twice)],[]⟩ (by kernel_rfl) vh) (lw_e (lw_e (ly [.sl zj [0] sv,kI k] (zai rfl zjf.el (zC _ _ _) vg) rfl (lw_e (lw_e (lw_e (lw_e (ly [.sl zj [0] sv,kI i] (zai rfl zjf.el (zC _ _ _) vk) rfl l0))))))))))) (zH lzz)
     refine zX (jp ?_);cases h;exact zH lzz
    cases h;exact zad rfl lzz
   refine zas _ rfl (jb h fun x3 vo h=>jb h fun rv uZ h=>jr (ra 2 [.sl zj [0] sv,kI i] rfl (zai rfl zjf.el (zC _ _ _) vo) rfl (rl 2 [1] 11 Tryz.call149 (zlu uZ) rf)) (jI h (fun vi h=>?_) fun vi h=>?_))
   ·refine jp ?_;cases h;exact zbf lzz
   refine jp (jI h (fun vm h=>?_) fun vm h=>?_)
   ·refine jp ?_;cases h;exact zbf lzz
   refine jb h fun x4 vC h=>jr (ra 2 [.sl zj [0] sv,kI i] rfl (zai rfl zjf.el (zC _ _ _) vC) rfl (ra 1 [.ep zj [0] x4 1] rfl (zgf zg x4.Fields rfl rfl rfl) rfl rf)) (jI h (fun vp h=>?_) fun vp h=>?_)
   ·refine jp ?_;cases h;exact zbf lzz
   refine jp (zv (jb h fun q2 vu h=>zac (fun s:Int=>zaY i sv s) (fun s=>⟨[(0,.sl zj [0] sv),(5,kI i),(8,kI s)],[]⟩) (fun o e a w=>match o with| (.inl v_)=>e= .exit 4/\Sx ⟨⟨80,[]⟩,Xt,false,#[]⟩ ⟨[(0,.sl zj [0] sv),(5,kI i)],[]⟩ a w| (.inr v_)=>e= .ret/\Sx ⟨⟨80,[]⟩,Xt,false,#[]⟩ ⟨[(2,kI i),(3,kI v_.1),(4,kI v_.2)],[]⟩ a w) ?_ vu lzz ?_))
   ·clear h;intro k2 o h;refine zm ?_;replace h:zaY i sv k2=some o:=h;unfold zaY at h;refine jb h fun x5 vK h=>jr (ra 3 [.sl zj [0] sv,kI i] rfl (zai rfl zjf.el (zC _ _ _) vK) rfl (ra 1 [.ep zj [0] x5 1] rfl (zgf zg x5.Fields rfl rfl rfl) rfl rf)) (jI h (fun vq h=>?_) fun vq h=>?_)
    ·refine zv (jb h fun rv2 vj h=>jr (rl 3 [0] 12 Tryz.call150 (zqi vj) rf) (jp (jI h (fun vA h=>?_) fun vA h=>?_)))
     ·refine jp ?_;cases h;exact zbf lzz
     refine zX (jp ?_);cases h;exact zH lzz
    cases h;exact zad rfl lzz
   rcases q2 with u| u2
   ·refine zas _ rfl (zX (jp ?_));cases h;exact zH lzz
   cases h;exact zzO lzz
  cases h;exact zad rfl lzz
 rcases q3 with u3| u4
 ·refine zas _ rfl (jp ?_);cases h;exact zw lzz
 cases h;exact zdj lzz
theorem zqe (h:zgB b most=some r):FnOk Tryz.prog 94 [.sl Rp.byte [0] b,kI most] [kI r.1,kI r.2]:=by
 refine zy (E:=⟨[(4,kI r.1),(5,kI r.2)],[]⟩) 28 Tryz.func94 rfl rfl rfl ⟨rfl,rfl,trivial⟩ (fun Xt=>?_);refine zm ?_;unfold zgB at h;refine jp (jp (zv (jb h fun q vc h=>zac (fun s:(Int×Int)=>zbz b most s.1 s.2) (fun s=>⟨[(0,.sl Rp.byte [0] b),(1,kI most),(6,kI s.1),(7,kI s.2)],[]⟩) (fun o e a w=>e= .ret/\Sx ⟨⟨28,[]⟩,Xt,false,#[]⟩ ⟨[(4,kI o.1),(5,kI o.2)],[]⟩ a w) ?_ vc lzz ?_)))
 ·clear h;intro s o h;obtain ⟨atv,count⟩:=s;refine zm ?_;replace h:zbz b most atv count=some o:=h;unfold zbz at h;refine zv (jb h fun rv uZ h=>jr (rl 2 [0] 10 Tryz.call127 (zqJ uZ) rf) (zab ⟨[(0,.sl Rp.byte [0] b),(1,kI most),(6,kI atv),(7,kI count),(8,kI rv),(20,kB ((rv==0)|| (decide ((IntKind.i64.wrap (atv+rv))>most))))],[]⟩ ?_ ?_))
  ·refine (rsl 3 [] 14 (rv==0) (fun uW=>?_) (fun uW=>?_))
   · exact (rbl [] 20 true rfl (by rw [uW]<;>rfl))
   exact (rbl [] 20 (decide ((IntKind.i64.wrap (atv+rv))>most)) rfl (by rw [uW]<;>rfl))
  refine jI h (fun uY h=>?_) fun uY h=>?_
  ·refine jp ?_;cases h;exact zbf lzz
  refine jp (jp (zX ?_));cases h;exact zH lzz
 cases h;exact zdj lzz
theorem zqK (h:zhg b vt=some r):FnOk Tryz.prog 84 [.sl Rp.byte [0] b,kI vt] [.rc zam [] r.1,kI r.2]:=by
 refine zy (E:=⟨[(4,.ptr 2 0),(5,kI r.2)],[⟨2,133,(zgT r.1)⟩]⟩) 108 Tryz.func84 rfl rfl rfl ⟨⟨_,_,rfl,rfl,rfl,rfl,⟨Tryz.isAgg133,Tryz.sizeOf133⟩⟩,rfl,trivial⟩ (fun Xt=>?_);refine zm ?_;unfold zhg at h;refine jq [12] (zab ⟨[(0,.sl Rp.byte [0] b),(1,kI vt),(4,.ptr 12 0),(26,kB ((decide (vt<0))|| (decide (vt>=(b.length:Int)))))],[⟨12,133,[kI 0,kI 0,kI 0,kI 0,kI 0]⟩]⟩ ?_ ?_)
 ·refine (rsl 3 [] 21 (decide (vt<0)) (fun uW=>?_) (fun uW=>?_))
  · exact (rbl [] 26 true rfl (by rw [uW]<;>rfl))
  exact (rbl [] 26 (decide (vt>=(b.length:Int))) rfl (by rw [uW]<;>rfl))
 refine jI h (fun uY h=>?_) fun uY h=>?_
 ·refine jr (rc 0 rfl (zaO (r:=zam) [] [] (⟨0,0,0,0,0⟩:zD) rfl zti rfl rfl) rf) ?_;cases h;exact zw (lk [4,5] [12] 12 2 lzz)
 refine jb h fun rv uZ h=>jr (rl 2 [0] 11 Tryz.call118 (zqI uZ) rf) (jp (jI h (fun u9 h=>?_) fun u9 h=>?_))
 ·refine jr (rc 0 rfl (zaO (r:=zam) [] [] (⟨0,0,0,0,0⟩:zD) rfl zti rfl rfl) rf) ?_;cases h;exact zw (lk [4,5] [12] 12 2 lzz)
 refine jr (rc 6 rfl (zaO (r:=zam) [kI rv.1,kI rv.2.1,kI vt,kI (IntKind.i64.wrap (vt+rv.2.2.1))] [] (⟨rv.1,rv.2.1,vt,(IntKind.i64.wrap (vt+rv.2.2.1)),0⟩:zD) rfl zti rfl rfl) (rfl' [13])) (jp (jp (jp (jb h fun p vJ h=>zeg (R:=fun e a w=>e= .normal/\Sx ⟨⟨108,[]⟩,Xt,false,#[]⟩ ⟨[(0,.sl Rp.byte [0] b),(4,.ptr 12 0),(7,kI rv.2.1),(10,.ptr 13 0),(11,kI (IntKind.i64.wrap ((b.length:Int) - (IntKind.i64.wrap (vt+rv.2.2.1))))),(12,kI p)],[⟨12,133,[kI 0,kI 0,kI 0,kI 0,kI 0]⟩,⟨13,133,[kI rv.1,kI rv.2.1,kI vt,kI (IntKind.i64.wrap (vt+rv.2.2.1)),kI 0]⟩]⟩ a w) ?_ ?_))))
 ·replace h:=vJ;refine zm (jI h (fun vd h=>?_) fun vd h=>?_)
  ·refine jp ?_;cases h;exact zH lzz
  cases h;exact zH lzz
 refine zgp (jp (jb h fun p2 vV h=>zeg (R:=fun e a w=>match p2 with| (.inl v_)=>e= .normal/\Sx ⟨⟨108,[]⟩,Xt,false,#[]⟩ ⟨[(0,.sl Rp.byte [0] b),(4,.ptr 12 0),(7,kI rv.2.1),(10,.ptr 13 0),(11,kI (IntKind.i64.wrap ((b.length:Int) - (IntKind.i64.wrap (vt+rv.2.2.1))))),(12,kI v_)],[⟨12,133,[kI 0,kI 0,kI 0,kI 0,kI 0]⟩,⟨13,133,[kI rv.1,kI rv.2.1,kI vt,kI (IntKind.i64.wrap (vt+rv.2.2.1)),kI 0]⟩]⟩ a w| (.inr v_)=>e= .ret/\Sx ⟨⟨108,[]⟩,Xt,false,#[]⟩ ⟨[(4,.ptr 12 0),(5,kI v_)],[⟨12,133,[kI 0,kI 0,kI 0,kI 0,kI 0]⟩]⟩ a w) ?_ ?_))
 ·replace h:=vV;refine zm (jI h (fun vh h=>?_) fun vh h=>?_)
  ·refine jb h fun rv2 vj h=>jr (rl 3 [0] 12 Tryz.call119 (ziT vj) rf) (jp (jI h (fun vi h=>?_) fun vi h=>?_))
   ·refine jr (rc 0 rfl (zaO (r:=zam) [] [] (⟨0,0,0,0,0⟩:zD) rfl zti rfl rfl) rf) ?_;cases h;exact zw lzz
   refine jp ?_;cases h;exact zH lzz
  cases h;exact zH lzz
 rcases p2 with u| u4
 ·refine zgp (jp (jb h fun p3 wy h=>zeg (R:=fun e a w=>match p3 with| (.inl v_)=>e= .normal/\Sx ⟨⟨108,[]⟩,Xt,false,#[]⟩ ⟨[(4,.ptr 12 0),(10,.ptr 13 0),(11,kI v_.1),(12,kI v_.2.1)],[⟨12,133,[kI 0,kI 0,kI 0,kI 0,kI 0]⟩,⟨13,133,[kI rv.1,kI rv.2.1,kI vt,kI v_.2.2,kI 0]⟩]⟩ a w| (.inr v_)=>e= .ret/\Sx ⟨⟨108,[]⟩,Xt,false,#[]⟩ ⟨[(4,.ptr 12 0),(5,kI v_)],[⟨12,133,[kI 0,kI 0,kI 0,kI 0,kI 0]⟩]⟩ a w) ?_ ?_))
  ·replace h:=wy;refine zm (jI h (fun vm h=>?_) fun vm h=>?_)
   ·refine jb h fun rv3 vl h=>jr (rl 3 [0] 12 Tryz.call119 (ziT vl) rf) (jp (jI h (fun vp h=>?_) fun vp h=>?_))
    ·refine jr (rc 0 rfl (zaO (r:=zam) [] [] (⟨0,0,0,0,0⟩:zD) rfl zti rfl rfl) rf) ?_;cases h;exact zw lzz
    refine jp (jp (jp (jI h (fun vq h=>?_) fun vq h=>?_)))
    ·refine jr (rc 0 rfl (zaO (r:=zam) [] [] (⟨0,0,0,0,0⟩:zD) rfl zti rfl rfl) rf) ?_;cases h;exact zw lzz
    refine jp ?_;cases h;exact zH lzz
   cases h;exact zH lzz
  rcases p3 with u2| u3
  ·refine zgp (jp (jI h (fun vA h=>?_) fun vA h=>?_))
   ·refine jr (rc 0 rfl (zaO (r:=zam) [] [] (⟨0,0,0,0,0⟩:zD) rfl zti rfl rfl) rf) ?_;cases h;exact zw (lk [4,5] [12] 12 2 lzz)
   refine jp (jr (lb 0 zam [] (⟨rv.1,rv.2.1,vt,u2.2.2,(IntKind.i64.wrap (u2.2.2+u2.2.1))⟩:zD) rf) ?_);cases h;exact zw (lk [4,5] [12] 12 2 lzz)
  cases h;exact zdj (lk [4,5] [12] 12 2 lzz)
 cases h;exact zdj (lk [4,5] [12] 12 2 lzz)
theorem zqn (kj:∀{sv:(List zf)} {ve:Int} {av:zc} {b:zc} {r:zc},xq sv ve av b=some r->FnOk Tryz.prog 14 [.sl zj [0] sv,kI ve,.rc zd [0] av,.rc zd [0] b] [.ag (zdx [0,3] 4 [] r)]) (h:zgl xq sv ve av b=some r):FnOk Tryz.prog 14 [.sl zj [0] sv,kI ve,.rc zd [0] av,.rc zd [0] b] [.ag (zdx [0,3] 4 [] r)]:=by
 refine zy (E:=⟨[(8,.ptr 2 0)],[⟨2,33,(zdx [0,3] 4 [] r)⟩]⟩) 110 Tryz.func14 rfl rfl rfl ⟨⟨_,_,rfl,rfl,rfl,⟨Tryz.isAgg33,Tryz.sizeOf33⟩⟩,trivial⟩ (fun Xt=>?_);refine zm ?_;unfold zgl at h;refine jr (ra 0 [.rc zd [0] av] rfl (zbc 95 (zh [0] av) [0] rfl rfl rfl (by rw [zk]<;>rfl) rfl) rfl (ra 0 [.rc zd [0] b] rfl (zbc 96 (zh [0] b) [0] rfl rfl rfl (by rw [zk]<;>rfl) rfl) rfl (rfl' [97]))) (jq [98] (jp (zv (jb h fun q vc h=>zac (fun s:(Int×(List za)×(List Str))=>zbU av b xq ve sv s.1 s.2.1 s.2.2) (fun s=>⟨[(0,.sl zj [0] sv),(1,kI ve),(6,.ptr 95 0),(7,.ptr 96 0),(8,.ptr 97 0),(9,.ptr 98 0),(10,kI s.1)],[⟨95,33,(zh [0] av)⟩,⟨96,33,(zh [0] b)⟩,⟨97,33,[kN,kN]⟩,⟨98,33,[.sl zb [0,99] s.2.1,.sl Rp.str [0,99] s.2.2]⟩]⟩) (fun o e a w=>e= .exit 0/\Sx ⟨⟨110,[]⟩,Xt,false,#[]⟩ ⟨[(6,.ptr 95 0),(7,.ptr 96 0),(8,.ptr 97 0),(9,.ptr 98 0)],[⟨95,33,(zh [0] av)⟩,⟨96,33,(zh [0] b)⟩,⟨97,33,[kN,kN]⟩,⟨98,33,[.sl zb [0,99] o.1,.sl Rp.str [0,99] o.2]⟩]⟩ a w) ?_ vc ?_ ?_))))
 ·clear h;intro s o h;obtain ⟨i,f,f2⟩:=s;refine zm ?_;replace h:zbU av b xq ve sv i f f2=some o:=h;unfold zbU at h;refine jp (jI h (fun uW h=>?_) fun uW h=>?_)
  ·refine zv (jb h fun x vg h=>jr (ra 3 [.sl zb [0] b.Values,kI i] rfl (zai rfl zih.el (zC _ _ _) vg) rfl (ra 0 [.ep zb [0] x 0] rfl (zcr rfl ⟨Tryz.isAgg59,Tryz.sizeOf59⟩) rfl (ral 1 [152] [.ptr 152 0,.rc zb [0] x] rfl (zgU (r:=zb) (b:=⟨152,59,[kI 0,kN,kN,kN]⟩) (off:=0) (zi [0] x) rfl Tryz.sizeOf59 rfl rfl (by rw [zn]<;>rfl) rfl) rfl rf))) (jb h fun x2 vk h=>jb h fun x3 vo h=>jb h fun rv uZ h=>jb h fun x4 vC h=>jd [0,1,6,7,8,9,10,11,12] [95,96,97,98,152,153] zbh (by exact (lw_e (lw_e (ly [.sl zj [0] sv,kI ve] (zai rfl zjf.el (zC _ _ _) vk) rfl (lw_e (ly [.ep zj [0] x2 1] (zgf zg x2.Fields rfl rfl rfl) rfl (lw_e (lw_e (ly [.sl zj [0] sv,kI ve] (zai rfl zjf.el (zC _ _ _) vo) rfl (ly [.ep zj [0] x3 0] (zcr rfl ⟨Tryz.isAgg82,Tryz.sizeOf82⟩) rfl (lw_e (lw_e (lx (lf1 42 (zQ [.rc zj [0] x3,kI x.Number] [0] 151 rfl Tryz.call42 (ziI uZ) rfl rfl rfl rfl rfl)) (ly [.sl zg [0] x2.Fields,kI rv] (zai rfl zpi.el (zC _ _ _) vC) rfl (ly [.ep zg [0] x4 0] (zcr rfl ⟨Tryz.isAgg65,Tryz.sizeOf65⟩) rfl (lx (ziW 153 [kS [],kI 0,kI 0,kB false,kB false,kI 0] rfl Tryz.zeroValue65 rfl) (ly [.ptr 153 0,.rc zg [0] x4] (zgU (r:=zg) (b:=⟨153,65,[kS [],kI 0,kI 0,kB false,kB false,kI 0]⟩) (off:=0) (zB x4) rfl Tryz.sizeOf65 rfl rfl rfl rfl) rfl l0))))))))))))))))) (jb h fun rv2 vj h=>jr (rc 3 rfl (zA.le (ins':=[(.tmp 42,.ag (zh [0] av)),(.tmp 44,kI x.Number)]) (zQ (args:=[.tmp 42,.tmp 44]) [.rc zd [0] av,kI x.Number] [0] 152 rfl Tryz.call43 (zsp vj) rfl rfl rfl rfl rfl) ⟨⟨rfl,zM [0] av⟩,⟨rfl,ky _⟩,trivial⟩) rf) (jp (jI h (fun uY h=>?_) fun uY h=>?_)))))
   ·refine jb h fun x5 vK h=>jr (ra 3 [.sl zb [0] av.Values,kI rv2] rfl (zai rfl zih.el (zC _ _ _) vK) rfl (ra 0 [.ep zb [0] x5 0] rfl (zcr rfl ⟨Tryz.isAgg59,Tryz.sizeOf59⟩) rfl (ral 1 [154] [.ptr 154 0,.rc zb [0] x5] rfl (zgU (r:=zb) (b:=⟨154,59,[kI 0,kN,kN,kN]⟩) (off:=0) (zi [0] x5) rfl Tryz.sizeOf59 rfl rfl (by rw [zn]<;>rfl) rfl) rfl rf))) (jp (jI h (fun u9 h=>?_) fun u9 h=>?_))
    ·refine jb h fun v vr h=>jb h fun v2 vz h=>jb h fun v3 vB h=>jb h fun v4 vO h=>jb h fun v5 wx h=>jb h fun v6 kl h=>jd [0,1,6,7,8,9,10,11] [95,96,97,98,152] zbh (by exact (lw_e (lw_e (lx (zbX [] 155 [] ([]:(List Int)) rfl znf rfl rfl rfl rfl) (lw_e (lw_e (ly [.own ku 83 155 [] ([]:(List Int)),.sl ku [0] x5.Words] (zeR 155 [] rfl znf.el rfl (zbu _ _ _ _ _) (zC _ _ _) vr (.inl (zoT _)) rfl) rfl (lw_e (lw_e (ly [.own ku 83 155 [] v,.sl ku [0] x.Words] (zeR 155 [] rfl znf.el rfl (zbu _ _ _ _ _) (zC _ _ _) vz (.inl (zoT _)) rfl) rfl (lx (zbX [] 156 [] ([]:(List Str)) rfl zhX rfl rfl rfl rfl) (lw_e (lw_e (ly [.own Rp.str 9 156 [] ([]:(List Str)),.sl Rp.str [0] x5.Texts] (zeR 156 [] rfl zhX.el rfl (zbu _ _ _ _ _) (zC _ _ _) vB (.inl zlb) rfl) rfl (lw_e (lw_e (ly [.own Rp.str 9 156 [] v3,.sl Rp.str [0] x.Texts] (zeR 156 [] rfl zhX.el rfl (zbu _ _ _ _ _) (zC _ _ _) vO (.inl zlb) rfl) rfl (lx (zbX [] 157 [] ([]:(List zc)) rfl zlO rfl rfl rfl rfl) (lw_e (lw_e (ly [.own zd 33 157 [] ([]:(List zc)),.sl zd [0] x5.Subs] (zeR 157 [0] rfl zlO.el rfl (zbu _ _ _ _ _) (zC _ _ _) wx (.inr rfl) rfl) rfl (lw_e (lw_e (ly [.own zd 33 157 [0] v5,.sl zd [0] x.Subs] (zeR 157 [0] rfl zlO.el rfl (zbu _ _ _ _ _) (zC _ _ _) kl (.inr rfl) rfl) rfl (ly [kI x.Number,.own ku 83 155 [] v2,.own Rp.str 9 156 [] v4,.own zd 33 157 [0] v6] (zbK [kI x.Number,.own ku 83 155 [] v2,.own Rp.str 9 156 [] v4,.own zd 33 157 [0] v6] [kI x.Number,.own ku 83 155 [] v2,.own Rp.str 9 156 [] v4,.own zd 33 157 [0] v6] rfl zEI rfl) rfl (ly [.ptr 152 0,.ag [kI x.Number,.own ku 83 155 [] v2,.own Rp.str 9 156 [] v4,.own zd 33 157 [0] v6]] (zim (b:=⟨152,59,(zi [0] x)⟩) (off:=0) [kI x.Number,.own ku 83 155 [] v2,.own Rp.str 9 156 [] v4,.own zd 33 157 [0] v6] rfl Tryz.sizeOf59 rfl rfl rfl) rfl l0)))))))))))))))))))))))))) (jb h fun rv3 vl h=>jr (rc 2 rfl (zA.le (ins':=[(.tmp 98,.ag [.sl zb [0,99] f,.sl Rp.str [0,99] f2]),(.tmp 99,.ag [kI x.Number,.own ku 83 155 [] v2,.own Rp.str 9 156 [] v4,.own zd 33 157 [0] v6])]) (zQ (args:=[.tmp 98,.tmp 99]) [.rc zd [0,99] (⟨f,f2⟩:zc),.rc zb [155,156,157,0] (⟨x.Number,v2,v4,v6⟩:za)] [0,99,155,156,157] 156 rfl Tryz.call44 (zhA vl) rfl rfl rfl rfl rfl) ⟨⟨rfl,zaE zd [0,99] (⟨f,f2⟩:zc) [.sl zb [0,99] f,.sl Rp.str [0,99] f2] (by rw [zk]<;>rfl) rfl⟩,⟨rfl,zaE zb [155,156,157,0] (⟨x.Number,v2,v4,v6⟩:za) [kI x.Number,.own ku 83 155 [] v2,.own Rp.str 9 156 [] v4,.own zd 33 157 [0] v6] (by rw [zn]<;>rfl) rfl⟩,trivial⟩) rf) (zX (jp ?_)));cases h;exact zH (lq ⟨[(0,.sl zj [0] sv),(1,kI ve),(6,.ptr 95 0),(7,.ptr 96 0),(8,.ptr 97 0),(9,.ptr 98 0),(10,kI (IntKind.i64.wrap (i+1)))],[⟨95,33,(zh [0] av)⟩,⟨96,33,(zh [0] b)⟩,⟨97,33,[kN,kN]⟩,⟨98,33,(zdl 159 [160,0,99,155,156,157,161] [0,99,155,156,157] rv3)⟩]⟩ (zaN 98 0 (.sl zb [159,160,0,99,155,156,157,161] rv3.Values) rfl rfl (zqU _ _ _ _ _ _ rfl) (lk [0,1,6,7,8,9,10] [95,96,97,98] 159 99 (lk [0,1,6,7,8,9,10] [95,96,97,98] 160 99 (lk [0,1,6,7,8,9,10] [95,96,97,98] 155 99 (lk [0,1,6,7,8,9,10] [95,96,97,98] 156 99 (lk [0,1,6,7,8,9,10] [95,96,97,98] 157 99 (lk [0,1,6,7,8,9,10] [95,96,97,98] 161 99 (lq ⟨[(0,.sl zj [0] sv),(1,kI ve),(6,.ptr 95 0),(7,.ptr 96 0),(8,.ptr 97 0),(9,.ptr 98 0),(10,kI (IntKind.i64.wrap (i+1)))],[⟨95,33,(zh [0] av)⟩,⟨96,33,(zh [0] b)⟩,⟨97,33,[kN,kN]⟩,⟨98,33,(zha [99,99,0,99,99,99,99,99] [0,99,99,99,99] rv3)⟩]⟩ (zaN 98 0 (.sl zb [0,99] rv3.Values) rfl rfl (zmL _ _ _ _ rfl) (zaN 98 1 (.sl Rp.str [0,99] rv3.Unknown) rfl rfl (zmL _ _ _ _ rfl) lzz)))))))))))
    refine jp (jI h (fun vd h=>?_) fun vd h=>?_)
    ·refine jb h fun x6 vU h=>jb h fun x7 wg h=>jb h fun rv4 vx h=>jd [0,1,6,7,8,9,10,11] [95,96,97,98,152] zbh (by exact (lw_e (lw_e (lw_e (lw_e (lw_e (lw_e (lw_e (ly [.sl zd [0] x5.Subs,kI 0] (zai rfl zlO.el (zC _ _ _) vU) rfl (ly [.ep zd [0] x6 0] (zcr rfl ⟨Tryz.isAgg33,Tryz.sizeOf33⟩) rfl (lw_e (lw_e (ly [.sl zd [0] x.Subs,kI 0] (zai rfl zlO.el (zC _ _ _) wg) rfl (ly [.ep zd [0] x7 0] (zcr rfl ⟨Tryz.isAgg33,Tryz.sizeOf33⟩) rfl (lx (lf1 14 (zQ [.sl zj [0] sv,kI x4.Of,.rc zd [0] x6,.rc zd [0] x7] [0] 160 rfl Tryz.call14 (kj vx) rfl rfl rfl rfl rfl)) (lx (zA.le (ins':=[(.tmp 95,.ag (zdx [0,163] 164 [] rv4))]) (zbX [.rc zd [0,163,164] rv4] 165 [0,163,164] ([rv4]:(List zc)) rfl zlO rfl rfl rfl (by simp only [ziL,zeJ,zfC,zk,xN,yo]<;>rfl)) ⟨⟨rfl,zaE zd [0,163,164] rv4 (zdx [0,163] 164 [] rv4) (by rw [zk]<;>rfl) rfl⟩,trivial⟩) (ly [kI x.Number,.own zd 33 165 [0,163,164] ([rv4]:(List zc))] (zbK [kI x.Number,.own zd 33 165 [0,163,164] ([rv4]:(List zc))] [kI x.Number,kN,kN,.own zd 33 165 [0,163,164] ([rv4]:(List zc))] rfl zEI rfl) rfl (ly [.ptr 152 0,.ag [kI x.Number,kN,kN,.own zd 33 165 [0,163,164] ([rv4]:(List zc))]] (zim (b:=⟨152,59,(zi [0] x)⟩) (off:=0) [kI x.Number,kN,kN,.own zd 33 165 [0,163,164] ([rv4]:(List zc))] rfl Tryz.sizeOf59 rfl rfl rfl) rfl l0)))))))))))))))))) (jb h fun rv5 vD h=>jr (rc 2 rfl (zA.le (ins':=[(.tmp 98,.ag [.sl zb [0,99] f,.sl Rp.str [0,99] f2]),(.tmp 99,.ag [kI x.Number,kN,kN,.own zd 33 165 [0,163,164] ([rv4]:(List zc))])]) (zQ (args:=[.tmp 98,.tmp 99]) [.rc zd [0,99] (⟨f,f2⟩:zc),.rc zb [165,0,163,164] (⟨x.Number,[],[],([rv4]:(List zc))⟩:za)] [0,99,165,163,164] 164 rfl Tryz.call44 (zhA vD) rfl rfl rfl rfl rfl) ⟨⟨rfl,zaE zd [0,99] (⟨f,f2⟩:zc) [.sl zb [0,99] f,.sl Rp.str [0,99] f2] (by rw [zk]<;>rfl) rfl⟩,⟨rfl,zmd (b:= .ag [kI x.Number,.sl ku [] [],.sl Rp.str [] [],.own zd 33 165 [0,163,164] ([rv4]:(List zc))]) (zks ⟨ky _,zdX _ _,zdX _ _,ky _,trivial⟩) (zaE zb [165,0,163,164] (⟨x.Number,[],[],([rv4]:(List zc))⟩:za) [kI x.Number,.sl ku [] [],.sl Rp.str [] [],.own zd 33 165 [0,163,164] ([rv4]:(List zc))] (by rw [zn]<;>rfl) rfl)⟩,trivial⟩) rf) (zX (jp ?_)));cases h;exact zH (lq ⟨[(0,.sl zj [0] sv),(1,kI ve),(6,.ptr 95 0),(7,.ptr 96 0),(8,.ptr 97 0),(9,.ptr 98 0),(10,kI (IntKind.i64.wrap (i+1)))],[⟨95,33,(zh [0] av)⟩,⟨96,33,(zh [0] b)⟩,⟨97,33,[kN,kN]⟩,⟨98,33,(zdl 167 [168,0,99,165,163,164,169] [0,99,165,163,164] rv5)⟩]⟩ (zaN 98 0 (.sl zb [167,168,0,99,165,163,164,169] rv5.Values) rfl rfl (zqU _ _ _ _ _ _ rfl) (lk [0,1,6,7,8,9,10] [95,96,97,98] 167 99 (lk [0,1,6,7,8,9,10] [95,96,97,98] 168 99 (lk [0,1,6,7,8,9,10] [95,96,97,98] 165 99 (lk [0,1,6,7,8,9,10] [95,96,97,98] 163 99 (lk [0,1,6,7,8,9,10] [95,96,97,98] 164 99 (lk [0,1,6,7,8,9,10] [95,96,97,98] 169 99 (lq ⟨[(0,.sl zj [0] sv),(1,kI ve),(6,.ptr 95 0),(7,.ptr 96 0),(8,.ptr 97 0),(9,.ptr 98 0),(10,kI (IntKind.i64.wrap (i+1)))],[⟨95,33,(zh [0] av)⟩,⟨96,33,(zh [0] b)⟩,⟨97,33,[kN,kN]⟩,⟨98,33,(zha [99,99,0,99,99,99,99,99] [0,99,99,99,99] rv5)⟩]⟩ (zaN 98 0 (.sl zb [0,99] rv5.Values) rfl rfl (zmL _ _ _ _ rfl) (zaN 98 1 (.sl Rp.str [0,99] rv5.Unknown) rfl rfl (zmL _ _ _ _ rfl) lzz)))))))))))
    refine jb h fun rv6 vT h=>jr (rc 2 rfl (zA.le (ins':=[(.tmp 98,.ag [.sl zb [0,99] f,.sl Rp.str [0,99] f2]),(.tmp 99,.ag (zi [0] x))]) (zQ (args:=[.tmp 98,.tmp 99]) [.rc zd [0,99] (⟨f,f2⟩:zc),.rc zb [0] x] [0,99] 168 rfl Tryz.call44 (zhA vT) rfl rfl rfl rfl rfl) ⟨⟨rfl,zaE zd [0,99] (⟨f,f2⟩:zc) [.sl zb [0,99] f,.sl Rp.str [0,99] f2] (by rw [zk]<;>rfl) rfl⟩,⟨rfl,zV [0] x⟩,trivial⟩) rf) (zX (jp ?_));cases h;exact zH (lq ⟨[(0,.sl zj [0] sv),(1,kI ve),(6,.ptr 95 0),(7,.ptr 96 0),(8,.ptr 97 0),(9,.ptr 98 0),(10,kI (IntKind.i64.wrap (i+1)))],[⟨95,33,(zh [0] av)⟩,⟨96,33,(zh [0] b)⟩,⟨97,33,[kN,kN]⟩,⟨98,33,(zdl 171 [172,0,99,173] [0,99] rv6)⟩]⟩ (zaN 98 0 (.sl zb [171,172,0,99,173] rv6.Values) rfl rfl (zqU _ _ _ _ _ _ rfl) (lk [0,1,6,7,8,9,10] [95,96,97,98] 171 99 (lk [0,1,6,7,8,9,10] [95,96,97,98] 172 99 (lk [0,1,6,7,8,9,10] [95,96,97,98] 173 99 (lq ⟨[(0,.sl zj [0] sv),(1,kI ve),(6,.ptr 95 0),(7,.ptr 96 0),(8,.ptr 97 0),(9,.ptr 98 0),(10,kI (IntKind.i64.wrap (i+1)))],[⟨95,33,(zh [0] av)⟩,⟨96,33,(zh [0] b)⟩,⟨97,33,[kN,kN]⟩,⟨98,33,(zha [99,99,0,99,99] [0,99] rv6)⟩]⟩ (zaN 98 0 (.sl zb [0,99] rv6.Values) rfl rfl (zmL _ _ _ _ rfl) lzz)))))))
   refine jb h fun rv7 vQ h=>jr (rc 2 rfl (zA.le (ins':=[(.tmp 98,.ag [.sl zb [0,99] f,.sl Rp.str [0,99] f2]),(.tmp 99,.ag (zi [0] x))]) (zQ (args:=[.tmp 98,.tmp 99]) [.rc zd [0,99] (⟨f,f2⟩:zc),.rc zb [0] x] [0,99] 172 rfl Tryz.call44 (zhA vQ) rfl rfl rfl rfl rfl) ⟨⟨rfl,zaE zd [0,99] (⟨f,f2⟩:zc) [.sl zb [0,99] f,.sl Rp.str [0,99] f2] (by rw [zk]<;>rfl) rfl⟩,⟨rfl,zV [0] x⟩,trivial⟩) rf) (zX (jp ?_));cases h;exact zH (lq ⟨[(0,.sl zj [0] sv),(1,kI ve),(6,.ptr 95 0),(7,.ptr 96 0),(8,.ptr 97 0),(9,.ptr 98 0),(10,kI (IntKind.i64.wrap (i+1)))],[⟨95,33,(zh [0] av)⟩,⟨96,33,(zh [0] b)⟩,⟨97,33,[kN,kN]⟩,⟨98,33,(zdl 175 [176,0,99,177] [0,99] rv7)⟩]⟩ (zaN 98 0 (.sl zb [175,176,0,99,177] rv7.Values) rfl rfl (zqU _ _ _ _ _ _ rfl) (lk [0,1,6,7,8,9,10] [95,96,97,98] 175 99 (lk [0,1,6,7,8,9,10] [95,96,97,98] 176 99 (lk [0,1,6,7,8,9,10] [95,96,97,98] 177 99 (lq ⟨[(0,.sl zj [0] sv),(1,kI ve),(6,.ptr 95 0),(7,.ptr 96 0),(8,.ptr 97 0),(9,.ptr 98 0),(10,kI (IntKind.i64.wrap (i+1)))],[⟨95,33,(zh [0] av)⟩,⟨96,33,(zh [0] b)⟩,⟨97,33,[kN,kN]⟩,⟨98,33,(zha [99,99,0,99,99] [0,99] rv7)⟩]⟩ (zaN 98 0 (.sl zb [0,99] rv7.Values) rfl rfl (zmL _ _ _ _ rfl) lzz)))))))
  cases h;exact zad rfl lzz
 ·exact lq ⟨[(0,.sl zj [0] sv),(1,kI ve),(6,.ptr 95 0),(7,.ptr 96 0),(8,.ptr 97 0),(9,.ptr 98 0),(10,kI 0)],[⟨95,33,(zh [0] av)⟩,⟨96,33,(zh [0] b)⟩,⟨97,33,[kN,kN]⟩,⟨98,33,(zh [0] av)⟩]⟩ (zaN 98 0 (.sl zb [0,99] av.Values) rfl rfl (zmL _ _ _ _ rfl) (zaN 98 1 (.sl Rp.str [0,99] av.Unknown) rfl rfl (zmL _ _ _ _ rfl) lzz))
 refine zas _ rfl (jb h fun v7 km h=>jb h fun v8 ko h=>jd [8,9] [97,98] zbh (by exact (lx (zbX [] 178 [] ([]:(List Str)) rfl zhX rfl rfl rfl rfl) (lw_e (lw_e (ly [.own Rp.str 9 178 [] ([]:(List Str)),.sl Rp.str [0] av.Unknown] (zeR 178 [] rfl zhX.el rfl (zbu _ _ _ _ _) (zC _ _ _) km (.inl zlb) rfl) rfl (lw_e (lw_e (ly [.own Rp.str 9 178 [] v7,.sl Rp.str [0] b.Unknown] (zeR 178 [] rfl zhX.el rfl (zbu _ _ _ _ _) (zC _ _ _) ko (.inl zlb) rfl) rfl (lw_e (ly [.ptr 98 1,.own Rp.str 9 178 [] v8] (zsO (b:=⟨98,33,[.sl zb [0,99] q.1,.sl Rp.str [0,99] q.2]⟩) (off:=1) rfl Tryz.sizeOf25 rfl rfl rfl) rfl l0)))))))))) (jp ?_));cases h;exact zw (lk [8] [97] 97 2 (lk [8] [2] 178 4 (lk [8] [2] 99 3 lzz)))
theorem zqM (h:zdK vf sv ve av b=some r):FnOk Tryz.prog 14 [.sl zj [0] sv,kI ve,.rc zd [0] av,.rc zd [0] b] [.ag (zdx [0,3] 4 [] r)]:=by
  induction vf generalizing sv ve av b r with
  | zero=>exact absurd h nofun
  | succ vf ih=>exact zqn (fun hh=>ih hh) h
end Go.Proofs.YtekgmimingolbaaGreat
