/-
  The Go functions do what the plain functions say. No condition.
-/
import Derived.Test.YtekgmimingolbaaGreatx2G4
import Derived.Test.YtekgmimingolbaaGreatx2G2
import Derived.Test.YtekgmimingolbaaGreatx2G3
set_option autoImplicit true
set_option relaxedAutoImplicit true
namespace Go.Proofs.YtekgmimingolbaaGreat
open Go Go.RowKit
set_option linter.unusedVariables false
set_option maxRecDepth 100000
set_option maxHeartbeats 3200000
theorem zkc (h:zcU s1 s2=some r):FnOk Tryz.prog 71 [.sl wu [0] s1,.sl wu [0] s2] [kI r]:=by
 refine zz (E:=⟨[(4,kI r)],[]⟩) 36 Tryz.func71 rfl rfl rfl ⟨rfl,trivial⟩ (fun Xt=>?_);refine zq ?_;unfold zcU at h;refine jp (jp (zB (jb h fun q uF h=>zaH (fun s:Int=>zam s1 s2 s) (fun s=>⟨[(0,.sl wu [0] s1),(1,.sl wu [0] s2),(9,.sl wu [0] s1),(10,kI (s1.length:Int)),(11,kI s)],[]⟩) (fun o e a w=>match o with| (.inl v_)=>e= .exit 0/\Sx ⟨⟨36,[]⟩,Xt,false,#[]⟩ ⟨[(0,.sl wu [0] s1),(1,.sl wu [0] s2)],[]⟩ a w| (.inr v_)=>e= .ret/\Sx ⟨⟨36,[]⟩,Xt,false,#[]⟩ ⟨[(4,kI v_)],[]⟩ a w) ?_ uF lzz ?_)))
 ·clear h;intro v o h;refine zq ?_;replace h:zam s1 s2 v=some o:=h;unfold zam at h;refine jp (jI h (fun uA h=>?_) fun uA h=>?_)
  ·refine zB (jb h fun x uI h=>jr (ra 1 [.sl wu [0] s1,kI v] rfl (zbt rfl zlb.el (zV _ _ _) uI) rfl rf) (jp (jI h (fun uB h=>?_) fun uB h=>?_)))
   ·refine jp ?_;cases h;exact zcA lzz
   refine jb h fun x2 uL h=>jr (ra 2 [.sl wu [0] s2,kI v] rfl (zbt rfl zlb.el (zV _ _ _) uL) rfl rf) (jb h fun rv uC h=>jr (rl 2 [1] 10 Tryz.call106 (zpc uC) rf) (jp (jI h (fun uE h=>?_) fun uE h=>?_)))
   ·refine jp ?_;cases h;exact zcA lzz
   refine zas (jp ?_);cases h;exact zal lzz
  cases h;exact zaF rfl lzz
 rcases q with u| u2
 ·refine zbj _ rfl (jp (jI h (fun uK h=>?_) fun uK h=>?_))
  ·refine jp ?_;cases h;exact zA lzz
  refine jp ?_;cases h;exact zA lzz
 obtain rfl:=(sj h);exact zfb lzz
theorem zeA (h:zaL v=some r):FnOk Tryz.prog 103 [.fv 105 [.ep wy [0] v 0]] [.own wx 53 2 [3,0] r]:=by
 refine zz (E:=⟨[(2,.own wx 53 2 [3,0] r)],[]⟩) 5 Tryz.func103 rfl rfl rfl ⟨rfl,trivial⟩ (fun Xt=>?_);refine zq ?_;unfold zaL at h;refine jp (jb h fun rv uC h=>jr (rl 1 [0] 11 Tryz.call135 (zdn uC) rf) ?_);obtain rfl:=(sj h);exact zA (lk [2] [] 13 2 (lk [2] [] 14 3 lzz))
theorem zmo (h:zez c m=some r):zny Tryz.prog 140 [.ag [kI c.size,.sl wu [0] c.kinds,.om zr Rp.bool 2 [0] c.names,.om zp Rp.bool 3 [0] c.numbers],.rc zi [0] m] [kI r.1] [.ag [.any,.any,.om zr Rp.bool 2 [0] r.2.1,.om zp Rp.bool 3 [0] r.2.2],.any]:=by
 refine zri (E:=⟨[(0,.ag [.any,.any,.om zr Rp.bool 2 [0] r.2.1,.om zp Rp.bool 3 [0] r.2.2]),(4,kI r.1)],[]⟩) 27 [0] Tryz.func140 rfl rfl rfl ⟨rfl,trivial⟩ ⟨.inr ⟨rfl,rfl⟩,.inl rfl,trivial⟩ rfl (fun Xt old=>?_);refine zq ?_;unfold zez at h;refine jr (ral 1 [11] [.rc zi [0] m] rfl (zbw 12 (zaT [0] m) [0] rfl rfl rfl rfl rfl) rfl rf) (jr (rc 2 rfl (zbA (r:=zr) [kI (-1),kS m.Name] [] (⟨(-1),m.Name⟩:zm) rfl zED rfl rfl) (rfl' [13])) (zB (jb h fun rv uC h=>jr (rl 2 [1] 12 Tryz.call172 (zmp uC) rf) (jI h (fun uA h=>?_) fun uA h=>?_))))
 ·refine jp ?_;cases h;exact zng (lq ⟨[(0,.ag [kI c.size,.sl wu [0] c.kinds,.om zr Rp.bool 2 [0] c.names,.om zp Rp.bool 3 [0] c.numbers]),(4,kI 2)],[]⟩ (zcW 0 (.ag [.any,.any,.om zr Rp.bool 2 [0] ((2,c.names,c.numbers):(Int×(List (zm×Bool))×(List (zo×Bool)))).2.1,.om zp Rp.bool 3 [0] ((2,c.names,c.numbers):(Int×(List (zm×Bool))×(List (zo×Bool)))).2.2]) rfl (zit ⟨zfc _,zfc _,wC _,wC _,trivial⟩) lzz))
 refine jr (lb 2 zr [] (⟨(-1),m.Name⟩:zm) (ra 0 [.om zr Rp.bool 2 [0] c.names,.rc zr [] (⟨(-1),m.Name⟩:zm)] rfl (znQ (rk:=zr) (rv:=Rp.bool) (m:=c.names) (k:=(⟨(-1),m.Name⟩:zm)) (kB ((mget c.names (⟨(-1),m.Name⟩:zm)).getD false)) rfl zsz (zdd rfl) (zmI rfl rfl rfl)) rfl rf)) (jI h (fun uB h=>?_) fun uB h=>?_)
 ·refine jp ?_;cases h;exact zng (lq ⟨[(0,.ag [kI c.size,.sl wu [0] c.kinds,.om zr Rp.bool 2 [0] c.names,.om zp Rp.bool 3 [0] c.numbers]),(4,kI 3)],[]⟩ (zcW 0 (.ag [.any,.any,.om zr Rp.bool 2 [0] ((3,c.names,c.numbers):(Int×(List (zm×Bool))×(List (zo×Bool)))).2.1,.om zp Rp.bool 3 [0] ((3,c.names,c.numbers):(Int×(List (zm×Bool))×(List (zo×Bool)))).2.2]) rfl (zit ⟨zfc _,zfc _,wC _,wC _,trivial⟩) lzz))
 refine jp (jI h (fun uE h=>?_) fun uE h=>?_)
 ·refine jp ?_;cases h;exact zng (lq ⟨[(0,.ag [kI c.size,.sl wu [0] c.kinds,.om zr Rp.bool 2 [0] c.names,.om zp Rp.bool 3 [0] c.numbers]),(4,kI 4)],[]⟩ (zcW 0 (.ag [.any,.any,.om zr Rp.bool 2 [0] ((4,c.names,c.numbers):(Int×(List (zm×Bool))×(List (zo×Bool)))).2.1,.om zp Rp.bool 3 [0] ((4,c.names,c.numbers):(Int×(List (zm×Bool))×(List (zo×Bool)))).2.2]) rfl (zit ⟨zfc _,zfc _,wC _,wC _,trivial⟩) lzz))
 refine zas (jr (lb 2 zr [] (⟨(-1),m.Name⟩:zm) (rkl 0 [] ⟨[(0,.ag [kI c.size,.sl wu [0] c.kinds,.om zr Rp.bool 2 [0] c.names,.om zp Rp.bool 3 [0] c.numbers]),(25,.om zr Rp.bool 2 [0] c.names),(26,.rc zr [] (⟨(-1),m.Name⟩:zm))],[]⟩ (zko ⟨[(0,.ag [kI c.size,.sl wu [0] c.kinds,.om zr Rp.bool 2 [0] (mput c.names (⟨(-1),m.Name⟩:zm) true),.om zp Rp.bool 3 [0] c.numbers]),(25,.om zr Rp.bool 2 [0] (mput c.names (⟨(-1),m.Name⟩:zm) true)),(26,.rc zr [] (⟨(-1),m.Name⟩:zm))],[]⟩ (zqJ (rk:=zr) (rv:=Rp.bool) (m:=c.names) (ℓ:=2) (C:=[0]) (C1:=[]) (D:=[]) (⟨(-1),m.Name⟩:zm) true [0] zsz (.inl rfl) (zdd rfl) (zdk rfl rfl) rfl) rfl (by kernel_rfl) (by kernel_rfl) ⟨⟨_,rfl,zyD ⟨zab rfl,zab rfl,zgn 0 rfl,zab rfl,trivial⟩⟩,⟨_,rfl,zgn 0 rfl⟩,⟨_,rfl,zab rfl⟩,trivial⟩ trivial rf))) (jp ?_));cases h;exact zng (lq ⟨[(0,.ag [kI c.size,.sl wu [0] c.kinds,.om zr Rp.bool 2 [0] (mput c.names (⟨(-1),m.Name⟩:zm) true),.om zp Rp.bool 3 [0] c.numbers]),(4,kI 0)],[]⟩ (zcW 0 (.ag [.any,.any,.om zr Rp.bool 2 [0] ((0,(mput c.names (⟨(-1),m.Name⟩:zm) true),c.numbers):(Int×(List (zm×Bool))×(List (zo×Bool)))).2.1,.om zp Rp.bool 3 [0] ((0,(mput c.names (⟨(-1),m.Name⟩:zm) true),c.numbers):(Int×(List (zm×Bool))×(List (zo×Bool)))).2.2]) rfl (zit ⟨zfc _,zfc _,wC _,wC _,trivial⟩) lzz))
theorem ztw (h:zjJ k=some r):FnOk Tryz.prog 198 [kI k] [kB r]:=by
 refine zz (E:=⟨[(2,kB r)],[]⟩) 16 Tryz.func198 rfl rfl rfl ⟨rfl,trivial⟩ (fun Xt=>?_);refine zq ?_;unfold zjJ at h;refine jp (jb h fun rv uC h=>jr (rl 1 [1] 9 Tryz.call217 (zwu uC) rf) (zaG ⟨[(2,kB ((rv.2==0)&&(rv.1 !=2)))],[]⟩ ?_ ?_))
 ·refine (rsl 3 [] 12 (rv.2==0) (fun uA=>?_) (fun uA=>?_))
  · exact (rbl [] 2 (rv.1 !=2) rfl (by rw [uA]<;>rfl))
  exact (rbl [] 2 false rfl (by rw [uA]<;>rfl))
 cases h;exact zA lzz
theorem zkq (h:zjp uH x=some r):FnOk Tryz.prog 64 [.rc zd [0] x] [kB r]:=by
 refine zz (E:=⟨[(2,kB r)],[]⟩) 6 Tryz.func64 rfl rfl rfl ⟨rfl,trivial⟩ (fun Xt=>?_);refine zq ?_;unfold zjp at h;refine jr (ra 0 [.rc zd [0] x] rfl (zbw 11 (zj [0] x) [0] rfl rfl rfl (by rw [zn]<;>rfl) rfl) rfl rf) (jb h fun rv uC h=>jr (rc 1 rfl (zy.le (ins':=[(.tmp 3,.ag (zj [0] x))]) (zU (args:=[.tmp 3]) [.rc zd [0] x] [0] 10 rfl Tryz.call95 (zuJ uC) rfl rfl rfl rfl rfl) ⟨⟨rfl,zx [0] x⟩,trivial⟩) rf) ?_);cases h;exact zA lzz
theorem zil (h:zcJ m v=some r):FnOk Tryz.prog 129 [.rc zi [0] m,.fv 130 [.ep wu [0] v 0]] [kI r.1,kB r.2]:=by
 refine zz (E:=⟨[(4,kI r.1),(5,kB r.2)],[]⟩) 15 Tryz.func129 rfl rfl rfl ⟨rfl,rfl,trivial⟩ (fun Xt=>?_);refine zq ?_;unfold zcJ at h;refine jr (ra 0 [.rc zi [0] m] rfl (zbw 11 (zaT [0] m) [0] rfl rfl rfl rfl rfl) rfl rf) (jb h fun rv uC h=>jr (rl 3 [0] 10 Tryz.call157 (zdU uC) rf) (jp ?_));cases h;exact zA lzz
theorem zyK (h:zow b=some r):FnOk Tryz.prog 214 [.sl Rp.byte [0] b] [kI r.1,kI r.2]:=by
 refine zz (E:=⟨[(2,kI r.1),(3,kI r.2)],[]⟩) 20 Tryz.func214 rfl rfl rfl ⟨rfl,rfl,trivial⟩ (fun Xt=>?_);refine zq ?_;unfold zow at h;refine jp (jb h fun rv uC h=>jr (rl 1 [0] 9 Tryz.call226 (zsf uC) rf) (zB (jb h fun q uF h=>zaH (fun s:(Int×Int×Int)=>zfg b s.1 s.2.1 s.2.2) (fun s=>⟨[(0,.sl Rp.byte [0] b),(2,kI s.1),(3,kI s.2.1),(4,kI s.2.2)],[]⟩) (fun o e a w=>e= .exit 0/\Sx ⟨⟨20,[]⟩,Xt,false,#[]⟩ ⟨[(2,kI o.1),(3,kI o.2)],[]⟩ a w) ?_ uF lzz ?_)))
 ·clear h;intro s o h;obtain ⟨atv,points,size⟩:=s;refine zq ?_;replace h:zfg b atv points size=some o:=h;unfold zfg at h;refine jp (jI h (fun uA h=>?_) fun uA h=>?_)
  ·refine zB (jp (jp (zas (jb h fun v uR h=>jb h fun rv2 uJ h=>jr (ra 2 [.sl Rp.byte [0] b,kI (IntKind.i64.wrap (atv+size))] rfl (zpD (some (kI (IntKind.i64.wrap (atv+size)))) none rfl zoB.el (zV _ _ _) ⟨rfl,rfl⟩ ⟨rfl,rfl⟩ uR) rfl (rl 0 [0] 10 Tryz.call226 (zsf uJ) rf)) ?_))));cases h;exact zal lzz
  cases h;exact zaF rfl lzz
 refine zbj _ rfl (jp ?_);cases h;exact zA lzz
theorem zuG (h:zkK k wv=some r):FnOk Tryz.prog 155 [kI k,kU wv] [kU r.1,k8 r.2]:=by
 refine zz (E:=⟨[(4,kU r.1),(5,k8 r.2)],[]⟩) 34 Tryz.func155 rfl rfl rfl ⟨rfl,rfl,trivial⟩ (fun Xt=>?_);refine zq ?_;unfold zkK at h;refine jp (jp (zB (jp (jb h fun p vj h=>zlp (R:=fun e a w=>e= .normal/\Sx ⟨⟨34,[]⟩,Xt,false,#[]⟩ ⟨[(1,kU wv),(6,kI k),(7,kB p)],[]⟩ a w) ?_ ?_))))
 ·replace h:=vj;refine zq (jI h (fun uA h=>?_) fun uA h=>?_)
  ·cases h;exact zal lzz
  refine jp ?_;cases h;exact zal lzz
 refine zpB (jI h (fun uB h=>?_) fun uB h=>?_)
 ·refine jb h fun rv uC h=>jb h fun rv2 uJ h=>jr (rl 1 [1] 9 Tryz.call183 (zsR uC) (rl 0 [1] 9 Tryz.call182 (zsS uJ) rf)) ?_;cases h;exact zA lzz
 refine jp (jb h fun p2 wo h=>zlp (R:=fun e a w=>e= .normal/\Sx ⟨⟨34,[]⟩,Xt,false,#[]⟩ ⟨[(1,kU wv),(6,kI k),(13,kB p2)],[]⟩ a w) ?_ ?_)
 ·replace h:=wo;refine zq (jI h (fun uE h=>?_) fun uE h=>?_)
  ·cases h;exact zal lzz
  refine jp (jI h (fun uK h=>?_) fun uK h=>?_)
  ·cases h;exact zal lzz
  refine jp (jI h (fun uN h=>?_) fun uN h=>?_)
  ·cases h;exact zal lzz
  refine jp (jI h (fun uQ h=>?_) fun uQ h=>?_)
  ·cases h;exact zal lzz
  refine jp ?_;cases h;exact zal lzz
 refine zpB (jI h (fun va h=>?_) fun va h=>?_)
 ·refine jb h fun rv3 uO h=>jr (rl 1 [1] 9 Tryz.call184 (zpj uO) rf) ?_;cases h;exact zA lzz
 refine jp (jI h (fun uZ h=>?_) fun uZ h=>?_)
 ·refine jb h fun rv4 uS h=>jr (rl 1 [1] 9 Tryz.call185 (zuH uS) rf) ?_;cases h;exact zA lzz
 refine jp (jb h fun p3 wt h=>zlp (R:=fun e a w=>e= .normal/\Sx ⟨⟨34,[]⟩,Xt,false,#[]⟩ ⟨[(1,kU wv),(26,kB p3)],[]⟩ a w) ?_ ?_)
 ·replace h:=wt;refine zq (jI h (fun vd h=>?_) fun vd h=>?_)
  ·cases h;exact zal lzz
  refine jp (jI h (fun vk h=>?_) fun vk h=>?_)
  ·cases h;exact zal lzz
  refine jp (jI h (fun vl h=>?_) fun vl h=>?_)
  ·cases h;exact zal lzz
  refine jp (jI h (fun vD h=>?_) fun vD h=>?_)
  ·cases h;exact zal lzz
  refine jp (jI h (fun vc h=>?_) fun vc h=>?_)
  ·cases h;exact zal lzz
  refine jp ?_;cases h;exact zal lzz
 refine zpB (jI h (fun ve h=>?_) fun ve h=>?_)
 ·refine jp ?_;cases h;exact zA lzz
 refine zas (jp ?_);cases h;exact zA lzz
theorem zyB (h:zop b=some r):FnOk Tryz.prog 158 [.sl Rp.byte [0] b] [.rc zfN [] r.1,kI r.2.1,k8 r.2.2]:=by
 refine zz (E:=⟨[(2,.ptr 2 0),(3,kI r.2.1),(4,k8 r.2.2)],[⟨2,224,(zsZ r.1)⟩]⟩) 35 Tryz.func158 rfl rfl rfl ⟨⟨_,_,rfl,rfl,rfl,rfl,⟨Tryz.isAgg224,Tryz.sizeOf224⟩⟩,rfl,rfl,trivial⟩ (fun Xt=>?_);refine zq ?_;unfold zop at h;refine jq [12] (jb h fun rv uC h=>jr (rl 1 [0] 11 Tryz.call186 (zla uC) rf) (jp (jI h (fun uA h=>?_) fun uA h=>?_)))
 ·refine jr (rc 0 rfl (zbA (r:=zfN) [] [] (⟨0,0⟩:zbx) rfl zzX rfl rfl) rf) ?_;cases h;exact zA (lk [2,3,4] [12] 12 2 lzz)
 refine jr (ra 1 [kU rv.1,kU 3] rfl (zlG rfl rfl) rfl rf) (jr (rc 5 rfl (zbA (r:=zfN) [kI (IntKind.i64.wrap (if (536870912:Int)<(shrI .u64 rv.1 3) then 536870912 else (shrI .u64 rv.1 3))),kI (IntKind.i64.wrap (andI .u64 rv.1 7))] [] (⟨(IntKind.i64.wrap (if (536870912:Int)<(shrI .u64 rv.1 3) then 536870912 else (shrI .u64 rv.1 3))),(IntKind.i64.wrap (andI .u64 rv.1 7))⟩:zbx) rfl zzX rfl rfl) (rfl' [13])) (jb h fun rv2 uJ h=>jr (lb 0 zfN [] (⟨(IntKind.i64.wrap (if (536870912:Int)<(shrI .u64 rv.1 3) then 536870912 else (shrI .u64 rv.1 3))),(IntKind.i64.wrap (andI .u64 rv.1 7))⟩:zbx) (rl 0 [1] 12 Tryz.call187 (zwY uJ) rf)) (jI h (fun uB h=>?_) fun uB h=>?_)))
 ·refine jr (rc 0 rfl (zbA (r:=zfN) [] [] (⟨0,0⟩:zbx) rfl zzX rfl rfl) rf) ?_;cases h;exact zA (lk [2,3,4] [12] 12 2 lzz)
 refine jr (lb 0 zfN [] (⟨(IntKind.i64.wrap (if (536870912:Int)<(shrI .u64 rv.1 3) then 536870912 else (shrI .u64 rv.1 3))),(IntKind.i64.wrap (andI .u64 rv.1 7))⟩:zbx) rf) ?_;cases h;exact zA (lk [2,3,4] [12] 12 2 lzz)
theorem zua (h:zjP wire b=some r):FnOk Tryz.prog 159 [kI wire,.sl Rp.byte [0] b] [kI r.1,kI r.2.1,k8 r.2.2]:=by
 refine zz (E:=⟨[(4,kI r.1),(5,kI r.2.1),(6,k8 r.2.2)],[]⟩) 45 Tryz.func159 rfl rfl rfl ⟨rfl,rfl,rfl,trivial⟩ (fun Xt=>?_);refine zq ?_;unfold zjP at h;refine jp (jp (jp (zB (jp (jI h (fun uA h=>?_) fun uA h=>?_)))))
 ·refine jb h fun rv uC h=>jr (rl 1 [0] 9 Tryz.call188 (zuv uC) rf) (jp ?_);cases h;exact zA lzz
 refine jp (jb h fun p vj h=>zlp (R:=fun e a w=>e= .normal/\Sx ⟨⟨45,[]⟩,Xt,false,#[]⟩ ⟨[(1,.sl Rp.byte [0] b),(4,kI p.1),(6,k8 p.2.1),(7,kU p.2.2)],[]⟩ a w) ?_ ?_)
 ·replace h:=vj;refine zq (jI h (fun uB h=>?_) fun uB h=>?_)
  ·refine jp ?_;cases h;exact zal lzz
  refine jp (jI h (fun uE h=>?_) fun uE h=>?_)
  ·refine jp ?_;cases h;exact zal lzz
  refine jp (jI h (fun uK h=>?_) fun uK h=>?_)
  ·refine jb h fun rv2 uJ h=>jr (rl 1 [0] 9 Tryz.call186 (zla uJ) rf) ?_;cases h;exact zal lzz
  cases h;exact zal lzz
 refine zpB (zas (jp (jI h (fun uN h=>?_) fun uN h=>?_)))
 ·refine jp ?_;cases h;exact zA lzz
 refine jp (jI h (fun uQ h=>?_) fun uQ h=>?_)
 ·refine jp ?_;cases h;exact zA lzz
 refine jp ?_;cases h;exact zA lzz
end Go.Proofs.YtekgmimingolbaaGreat
