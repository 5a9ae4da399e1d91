/-
  The Go functions do what the plain functions say. No condition.
-/
import Derived.Test.YtcbkcblkecmjnaaGreatx3G4
namespace Go.Proofs.YtcbkcblkecmjnaaGreat
open Go Go.RowKit
set_option linter.unusedVariables false
set_option maxRecDepth 100000
set_option maxHeartbeats 3200000
theorem zlm {c:zaI} {m:zg} {r:(Int×(List (zo×Bool))×(List (zp×Bool)))} (h:zdu c m=some r):zhg Tryz.prog 104 [.ag [kI c.size,.sl (Rp.int .i64) [0] c.kinds,.om zu Rp.bool 2 [0] c.names,.om zt Rp.bool 3 [0] c.numbers],.rc zi [0] m] [kI r.1] [.ag [.any,.any,.om zu Rp.bool 2 [0] r.2.1,.om zt Rp.bool 3 [0] r.2.2],.any]:=by
 refine ziV (E:=⟨[(0,.ag [.any,.any,.om zu Rp.bool 2 [0] r.2.1,.om zt Rp.bool 3 [0] r.2.2]),(4,kI r.1)],[]⟩) 27 [0] Tryz.func104 rfl rfl rfl ⟨rfl,trivial⟩ ⟨.inr ⟨rfl,rfl⟩,.inl rfl,trivial⟩ rfl (fun Xt old=>?_)
 refine zr ?_
 unfold zdu at h
 refine jr (ral 1 [11] [.rc zi [0] m] rfl (zds 12 [kS m.Name,.sl zb [0] m.Fields] [0] rfl rfl rfl rfl rfl) rfl rf) ?_
 refine jr (rc 2 rfl (zV (r:=zu) [kI (-1),kS m.Name] [] (⟨(-1),m.Name⟩:zo) rfl zCJ rfl rfl) (rfl' [13])) ?_
 refine zz ?_
 obtain ⟨rv,h_rv,h⟩:=bnd h
 refine jr (rl 2 [1] 12 Tryz.call122 (zln h_rv) rf) ?_
 rcases zn h with ⟨hc1,h⟩| ⟨hc1,h⟩
 ·
  refine jT hc1 ?_
  refine jp ?_
  obtain rfl:=sj h
  refine zfL ?_
  refine zbU ⟨[(0,.ag [kI c.size,.sl (Rp.int .i64) [0] c.kinds,.om zu Rp.bool 2 [0] c.names,.om zt Rp.bool 3 [0] c.numbers]),(4,kI 2)],[]⟩ (by kernel_rfl) ?_
  refine zdM 0 (.ag [.any,.any,.om zu Rp.bool 2 [0] ((2,c.names,c.numbers):(Int×(List (zo×Bool))×(List (zp×Bool)))).2.1,.om zt Rp.bool 3 [0] ((2,c.names,c.numbers):(Int×(List (zo×Bool))×(List (zp×Bool)))).2.2]) rfl (zfT ⟨zbl _,zbl _,AV.le_refl _,AV.le_refl _,trivial⟩) ?_
  exact lzz
 refine jF hc1 ?_
 refine jr (lb 2 zu [] (⟨(-1),m.Name⟩:zo) (ra 0 [.om zu Rp.bool 2 [0] c.names,.rc zu [] (⟨(-1),m.Name⟩:zo)] rfl (zrt (rk:=zu) (rv:=Rp.bool) (m:=c.names) (k:=(⟨(-1),m.Name⟩:zo)) (kB ((mget c.names (⟨(-1),m.Name⟩:zo)).getD false)) rfl zrv (zlG _ _ _ _ _) (zcL rfl) (zvb rfl rfl rfl)) rfl rf)) ?_
 rcases zn h with ⟨hc2,h⟩| ⟨hc2,h⟩
 ·
  refine jT hc2 ?_
  refine jp ?_
  obtain rfl:=sj h
  refine zfL ?_
  refine zbU ⟨[(0,.ag [kI c.size,.sl (Rp.int .i64) [0] c.kinds,.om zu Rp.bool 2 [0] c.names,.om zt Rp.bool 3 [0] c.numbers]),(4,kI 3)],[]⟩ (by kernel_rfl) ?_
  refine zdM 0 (.ag [.any,.any,.om zu Rp.bool 2 [0] ((3,c.names,c.numbers):(Int×(List (zo×Bool))×(List (zp×Bool)))).2.1,.om zt Rp.bool 3 [0] ((3,c.names,c.numbers):(Int×(List (zo×Bool))×(List (zp×Bool)))).2.2]) rfl (zfT ⟨zbl _,zbl _,AV.le_refl _,AV.le_refl _,trivial⟩) ?_
  exact lzz
 refine jF hc2 ?_
 refine jp ?_
 rcases zn h with ⟨hc3,h⟩| ⟨hc3,h⟩
 ·
  refine jT hc3 ?_
  refine jp ?_
  obtain rfl:=sj h
  refine zfL ?_
  refine zbU ⟨[(0,.ag [kI c.size,.sl (Rp.int .i64) [0] c.kinds,.om zu Rp.bool 2 [0] c.names,.om zt Rp.bool 3 [0] c.numbers]),(4,kI 4)],[]⟩ (by kernel_rfl) ?_
  refine zdM 0 (.ag [.any,.any,.om zu Rp.bool 2 [0] ((4,c.names,c.numbers):(Int×(List (zo×Bool))×(List (zp×Bool)))).2.1,.om zt Rp.bool 3 [0] ((4,c.names,c.numbers):(Int×(List (zo×Bool))×(List (zp×Bool)))).2.2]) rfl (zfT ⟨zbl _,zbl _,AV.le_refl _,AV.le_refl _,trivial⟩) ?_
  exact lzz
 refine jF hc3 ?_
 refine zX ?_
 refine jr (lb 2 zu [] (⟨(-1),m.Name⟩:zo) (rkl 0 [] ⟨[(0,.ag [kI c.size,.sl (Rp.int .i64) [0] c.kinds,.om zu Rp.bool 2 [0] c.names,.om zt Rp.bool 3 [0] c.numbers]),(25,.om zu Rp.bool 2 [0] c.names),(26,.rc zu [] (⟨(-1),m.Name⟩:zo))],[]⟩ (zfO ⟨[(0,.ag [kI c.size,.sl (Rp.int .i64) [0] c.kinds,.om zu Rp.bool 2 [0] (mput c.names (⟨(-1),m.Name⟩:zo) true),.om zt Rp.bool 3 [0] c.numbers]),(25,.om zu Rp.bool 2 [0] (mput c.names (⟨(-1),m.Name⟩:zo) true)),(26,.rc zu [] (⟨(-1),m.Name⟩:zo))],[]⟩ (zpo (rk:=zu) (rv:=Rp.bool) (m:=c.names) (ℓ:=2) (C:=[0]) (C1:=[]) (D:=[]) (⟨(-1),m.Name⟩:zo) true [0] zrv (.inl rfl) (zcL rfl) (zdP rfl rfl) rfl) rfl (by kernel_rfl) (by kernel_rfl) ⟨⟨_,rfl,zlp ⟨zv rfl,zv rfl,zdO 0 rfl,zv rfl,trivial⟩⟩,⟨_,rfl,zdO 0 rfl⟩,⟨_,rfl,zv rfl⟩,trivial⟩ trivial rf))) ?_
 refine jp ?_
 obtain rfl:=sj h
 refine zfL ?_
 refine zbU ⟨[(0,.ag [kI c.size,.sl (Rp.int .i64) [0] c.kinds,.om zu Rp.bool 2 [0] (mput c.names (⟨(-1),m.Name⟩:zo) true),.om zt Rp.bool 3 [0] c.numbers]),(4,kI 0)],[]⟩ (by kernel_rfl) ?_
 refine zdM 0 (.ag [.any,.any,.om zu Rp.bool 2 [0] ((0,(mput c.names (⟨(-1),m.Name⟩:zo) true),c.numbers):(Int×(List (zo×Bool))×(List (zp×Bool)))).2.1,.om zt Rp.bool 3 [0] ((0,(mput c.names (⟨(-1),m.Name⟩:zo) true),c.numbers):(Int×(List (zo×Bool))×(List (zp×Bool)))).2.2]) rfl (zfT ⟨zbl _,zbl _,AV.le_refl _,AV.le_refl _,trivial⟩) ?_
 exact lzz
theorem zmM {k:Int} {r:Bool} (h:zgT k=some r):FnOk Tryz.prog 159 [kI k] [kB r]:=by
 refine zC (E:=⟨[(2,kB r)],[]⟩) 16 Tryz.func159 rfl rfl rfl ⟨rfl,trivial⟩ (fun Xt=>?_)
 refine zr ?_
 unfold zgT at h
 refine jp ?_
 obtain ⟨rv,h_rv,h⟩:=bnd h
 refine jr (rl 1 [1] 9 Tryz.call163 (zoR h_rv) rf) ?_
 refine zS ⟨[(2,kB ((rv.2==0)&&(rv.1 !=2)))],[]⟩ ?_ ?_
 ·
  refine (rsl 3 [] 12 (rv.2==0) (fun hc1=>?_) (fun hc1=>?_))
  · exact (rbl [] 2 (rv.1 !=2) ((rv.2==0)&&(rv.1 !=2)) (by rw [hc1]<;>rfl))
  exact (rbl [] 2 false ((rv.2==0)&&(rv.1 !=2)) (by rw [hc1]<;>rfl))
 obtain rfl:=sj h
 exact zy lzz
theorem zxC {b:(List UInt8)} {r:(zbg×Int×Int)} (h:zne b=some r):FnOk Tryz.prog 118 [.sl Rp.byte [0] b] [.rc zeN [] r.1,kI r.2.1,k8 r.2.2]:=by
 refine zC (E:=⟨[(2,.ptr 2 0),(3,kI r.2.1),(4,k8 r.2.2)],[⟨2,198,[kI r.1.Number,kI r.1.Wire]⟩]⟩) 35 Tryz.func118 rfl rfl rfl ⟨⟨_,_,rfl,rfl,rfl,rfl,⟨Tryz.isAgg198,Tryz.sizeOf198⟩⟩,rfl,rfl,trivial⟩ (fun Xt=>?_)
 refine zr ?_
 unfold zne at h
 refine jq [12] ?_
 obtain ⟨rv,h_rv,h⟩:=bnd h
 refine jr (rl 1 [0] 11 Tryz.call152 (zht h_rv) rf) ?_
 refine jp ?_
 rcases zn h with ⟨hc1,h⟩| ⟨hc1,h⟩
 ·
  refine jT hc1 ?_
  refine jr (rc 0 rfl (zV (r:=zeN) [] [] (⟨0,0⟩:zbg) rfl zyN rfl rfl) rf) ?_
  obtain rfl:=sj h
  refine zy ?_
  refine lk [2,3,4] [12] 12 2 ?_
  exact lzz
 refine jF hc1 ?_
 refine jr (ra 1 [kU rv.1,kU 3] rfl (ziA rfl rfl) rfl rf) ?_
 refine jr (rc 5 rfl (zV (r:=zeN) [kI (IntKind.i64.wrap (if (536870912:Int)<(shrI .u64 rv.1 3) then 536870912 else (shrI .u64 rv.1 3))),kI (IntKind.i64.wrap (andI .u64 rv.1 7))] [] (⟨(IntKind.i64.wrap (if (536870912:Int)<(shrI .u64 rv.1 3) then 536870912 else (shrI .u64 rv.1 3))),(IntKind.i64.wrap (andI .u64 rv.1 7))⟩:zbg) rfl zyN rfl rfl) (rfl' [13])) ?_
 obtain ⟨rv2,h_rv2,h⟩:=bnd h
 refine jr (lb 0 zeN [] (⟨(IntKind.i64.wrap (if (536870912:Int)<(shrI .u64 rv.1 3) then 536870912 else (shrI .u64 rv.1 3))),(IntKind.i64.wrap (andI .u64 rv.1 7))⟩:zbg) (rl 0 [1] 12 Tryz.call153 (zvX h_rv2) rf)) ?_
 rcases zn h with ⟨hc2,h⟩| ⟨hc2,h⟩
 ·
  refine jT hc2 ?_
  refine jr (rc 0 rfl (zV (r:=zeN) [] [] (⟨0,0⟩:zbg) rfl zyN rfl rfl) rf) ?_
  obtain rfl:=sj h
  refine zy ?_
  refine lk [2,3,4] [12] 12 2 ?_
  exact lzz
 refine jF hc2 ?_
 refine jr (lb 0 zeN [] (⟨(IntKind.i64.wrap (if (536870912:Int)<(shrI .u64 rv.1 3) then 536870912 else (shrI .u64 rv.1 3))),(IntKind.i64.wrap (andI .u64 rv.1 7))⟩:zbg) rf) ?_
 obtain rfl:=sj h
 refine zy ?_
 refine lk [2,3,4] [12] 12 2 ?_
 exact lzz
theorem zsD {wire:Int} {b:(List UInt8)} {r:(Int×Int×Int)} (h:zik wire b=some r):FnOk Tryz.prog 119 [kI wire,.sl Rp.byte [0] b] [kI r.1,kI r.2.1,k8 r.2.2]:=by
 refine zC (E:=⟨[(4,kI r.1),(5,kI r.2.1),(6,k8 r.2.2)],[]⟩) 45 Tryz.func119 rfl rfl rfl ⟨rfl,rfl,rfl,trivial⟩ (fun Xt=>?_)
 refine zr ?_
 unfold zik at h
 refine jp ?_
 refine jp ?_
 refine jp ?_
 refine zz ?_
 refine jp ?_
 rcases zn h with ⟨hc1,h⟩| ⟨hc1,h⟩
 ·
  refine jT hc1 ?_
  obtain ⟨rv,h_rv,h⟩:=bnd h
  refine jr (rl 1 [0] 9 Tryz.call154 (znm h_rv) rf) ?_
  refine jp ?_
  obtain rfl:=sj h
  exact zy lzz
 refine jF hc1 ?_
 refine jp ?_
 obtain ⟨p,h_p,h⟩:=bnd h
 refine zcn (R:=fun e a w=>e= .normal∧Sx ⟨⟨45,[]⟩,Xt,false,#[]⟩ ⟨[(1,.sl Rp.byte [0] b),(4,kI p.1),(6,k8 p.2.1),(7,kU p.2.2)],[]⟩ a w) ?_ ?_
 ·
  replace h:=h_p
  refine zr ?_
  rcases zn h with ⟨hc2,h⟩| ⟨hc2,h⟩
  ·
   refine jT hc2 ?_
   refine jp ?_
   obtain rfl:=sj h
   exact zG lzz
  refine jF hc2 ?_
  refine jp ?_
  rcases zn h with ⟨hc3,h⟩| ⟨hc3,h⟩
  ·
   refine jT hc3 ?_
   refine jp ?_
   obtain rfl:=sj h
   exact zG lzz
  refine jF hc3 ?_
  refine jp ?_
  rcases zn h with ⟨hc4,h⟩| ⟨hc4,h⟩
  ·
   refine jT hc4 ?_
   obtain ⟨rv2,h_rv2,h⟩:=bnd h
   refine jr (rl 1 [0] 9 Tryz.call152 (zht h_rv2) rf) ?_
   obtain rfl:=sj h
   exact zG lzz
  refine jF hc4 ?_
  obtain rfl:=sj h
  exact zG lzz
 refine zdR ?_
 refine zX ?_
 refine jp ?_
 rcases zn h with ⟨hc5,h⟩| ⟨hc5,h⟩
 ·
  refine jT hc5 ?_
  refine jp ?_
  obtain rfl:=sj h
  exact zy lzz
 refine jF hc5 ?_
 refine jp ?_
 rcases zn h with ⟨hc6,h⟩| ⟨hc6,h⟩
 ·
  refine jT hc6 ?_
  refine jp ?_
  obtain rfl:=sj h
  exact zy lzz
 refine jF hc6 ?_
 refine jp ?_
 obtain rfl:=sj h
 exact zy lzz
theorem ztH {m:zg} {number:Int} {r:Int} (h:zjG m number=some r):FnOk Tryz.prog 135 [.rc zi [0] m,kI number] [kI r]:=by
 refine zC (E:=⟨[(4,kI r)],[]⟩) 9 Tryz.func135 rfl rfl rfl ⟨rfl,trivial⟩ (fun Xt=>?_)
 refine zr ?_
 unfold zjG at h
 refine jr (ra 0 [.rc zi [0] m] rfl (zds 11 [kS m.Name,.sl zb [0] m.Fields] [0] rfl rfl rfl rfl rfl) rfl (rfl' [916200])) ?_
 obtain ⟨rv,h_rv,h⟩:=bnd h
 refine jr (ra 2 [.ptr 916200 0] rfl (zzw (g:=162) [.tmp 3] [⟨916200,3,[kI number]⟩] [.ep (Rp.int .i64) [916200] number 0] rfl ⟨⟨rfl,rfl,rfl⟩,trivial⟩ rfl) rfl (rl 0 [0,916200] 10 Tryz.call117 (zdv h_rv) rf)) ?_
 obtain rfl:=sj h
 exact zy lzz
theorem zwf {k:Int} {wire:Int} {r:Bool} (h:zlz k wire=some r):FnOk Tryz.prog 137 [kI k,kI wire] [kB r]:=by
 refine zC (E:=⟨[(4,kB r)],[]⟩) 19 Tryz.func137 rfl rfl rfl ⟨rfl,trivial⟩ (fun Xt=>?_)
 refine zr ?_
 unfold zlz at h
 refine jp ?_
 obtain ⟨rv,h_rv,h⟩:=bnd h
 refine jr (rl 1 [1] 9 Tryz.call163 (zoR h_rv) rf) ?_
 refine zS ⟨[(4,kB ((rv.2==0)&&(rv.1==wire)))],[]⟩ ?_ ?_
 ·
  refine (rsl 3 [] 14 (rv.2==0) (fun hc1=>?_) (fun hc1=>?_))
  · exact (rbl [] 4 (rv.1==wire) ((rv.2==0)&&(rv.1==wire)) (by rw [hc1]<;>rfl))
  exact (rbl [] 4 false ((rv.2==0)&&(rv.1==wire)) (by rw [hc1]<;>rfl))
 obtain rfl:=sj h
 exact zy lzz
theorem zkG {k:Int} {wv:Int} {r:(Int×Int)} (h:zgL k wv=some r):FnOk Tryz.prog 107 [kI k,kU wv] [kU r.1,k8 r.2]:=by
 refine zC (E:=⟨[(4,kU r.1),(5,k8 r.2)],[]⟩) 34 Tryz.func107 rfl rfl rfl ⟨rfl,rfl,trivial⟩ (fun Xt=>?_)
 refine zr ?_
 unfold zgL at h
 refine jp ?_
 refine jp ?_
 refine zz ?_
 refine jp ?_
 obtain ⟨p,h_p,h⟩:=bnd h
 refine zcn (R:=fun e a w=>e= .normal∧Sx ⟨⟨34,[]⟩,Xt,false,#[]⟩ ⟨[(1,kU wv),(6,kI k),(7,kB p)],[]⟩ a w) ?_ ?_
 ·
  replace h:=h_p
  refine zr ?_
  rcases zn h with ⟨hc1,h⟩| ⟨hc1,h⟩
  ·
   refine jT hc1 ?_
   obtain rfl:=sj h
   exact zG lzz
  refine jF hc1 ?_
  refine jp ?_
  obtain rfl:=sj h
  exact zG lzz
 refine zdR ?_
 rcases zn h with ⟨hc2,h⟩| ⟨hc2,h⟩
 ·
  refine jT hc2 ?_
  obtain ⟨rv,h_rv,h⟩:=bnd h
  obtain ⟨rv2,h_rv2,h⟩:=bnd h
  refine jr (rl 1 [1] 9 Tryz.call129 (zrL h_rv) (rl 0 [1] 9 Tryz.call128 (zrM h_rv2) rf)) ?_
  obtain rfl:=sj h
  exact zy lzz
 refine jF hc2 ?_
 refine jp ?_
 obtain ⟨p2,h_p2,h⟩:=bnd h
 refine zcn (R:=fun e a w=>e= .normal∧Sx ⟨⟨34,[]⟩,Xt,false,#[]⟩ ⟨[(1,kU wv),(6,kI k),(13,kB p2)],[]⟩ a w) ?_ ?_
 ·
  replace h:=h_p2
  refine zr ?_
  rcases zn h with ⟨hc3,h⟩| ⟨hc3,h⟩
  ·
   refine jT hc3 ?_
   obtain rfl:=sj h
   exact zG lzz
  refine jF hc3 ?_
  refine jp ?_
  rcases zn h with ⟨hc4,h⟩| ⟨hc4,h⟩
  ·
   refine jT hc4 ?_
   obtain rfl:=sj h
   exact zG lzz
  refine jF hc4 ?_
  refine jp ?_
  rcases zn h with ⟨hc5,h⟩| ⟨hc5,h⟩
  ·
   refine jT hc5 ?_
   obtain rfl:=sj h
   exact zG lzz
  refine jF hc5 ?_
  refine jp ?_
  rcases zn h with ⟨hc6,h⟩| ⟨hc6,h⟩
  ·
   refine jT hc6 ?_
   obtain rfl:=sj h
   exact zG lzz
  refine jF hc6 ?_
  refine jp ?_
  obtain rfl:=sj h
  exact zG lzz
 refine zdR ?_
 rcases zn h with ⟨hc7,h⟩| ⟨hc7,h⟩
 ·
  refine jT hc7 ?_
  obtain ⟨rv3,h_rv3,h⟩:=bnd h
  refine jr (rl 1 [1] 9 Tryz.call130 (znR h_rv3) rf) ?_
  obtain rfl:=sj h
  exact zy lzz
 refine jF hc7 ?_
 refine jp ?_
 rcases zn h with ⟨hc8,h⟩| ⟨hc8,h⟩
 ·
  refine jT hc8 ?_
  obtain ⟨rv4,h_rv4,h⟩:=bnd h
  refine jr (rl 1 [1] 9 Tryz.call131 (ztu h_rv4) rf) ?_
  obtain rfl:=sj h
  exact zy lzz
 refine jF hc8 ?_
 refine jp ?_
 obtain ⟨p3,h_p3,h⟩:=bnd h
 refine zcn (R:=fun e a w=>e= .normal∧Sx ⟨⟨34,[]⟩,Xt,false,#[]⟩ ⟨[(1,kU wv),(26,kB p3)],[]⟩ a w) ?_ ?_
 ·
  replace h:=h_p3
  refine zr ?_
  rcases zn h with ⟨hc9,h⟩| ⟨hc9,h⟩
  ·
   refine jT hc9 ?_
   obtain rfl:=sj h
   exact zG lzz
  refine jF hc9 ?_
  refine jp ?_
  rcases zn h with ⟨hc10,h⟩| ⟨hc10,h⟩
  ·
   refine jT hc10 ?_
   obtain rfl:=sj h
   exact zG lzz
  refine jF hc10 ?_
  refine jp ?_
  rcases zn h with ⟨hc11,h⟩| ⟨hc11,h⟩
  ·
   refine jT hc11 ?_
   obtain rfl:=sj h
   exact zG lzz
  refine jF hc11 ?_
  refine jp ?_
  rcases zn h with ⟨hc12,h⟩| ⟨hc12,h⟩
  ·
   refine jT hc12 ?_
   obtain rfl:=sj h
   exact zG lzz
  refine jF hc12 ?_
  refine jp ?_
  rcases zn h with ⟨hc13,h⟩| ⟨hc13,h⟩
  ·
   refine jT hc13 ?_
   obtain rfl:=sj h
   exact zG lzz
  refine jF hc13 ?_
  refine jp ?_
  obtain rfl:=sj h
  exact zG lzz
 refine zdR ?_
 rcases zn h with ⟨hc14,h⟩| ⟨hc14,h⟩
 ·
  refine jT hc14 ?_
  refine jp ?_
  obtain rfl:=sj h
  exact zy lzz
 refine jF hc14 ?_
 refine zX ?_
 refine jp ?_
 obtain rfl:=sj h
 exact zy lzz
theorem zvN {wide:Int} {b:(List UInt8)} {r:(Int×Int)} (h:zlk wide b=some r):FnOk Tryz.prog 172 [kI wide,.sl Rp.byte [0] b] [kI r.1,k8 r.2]:=by
 refine zC (E:=⟨[(4,kI r.1),(5,k8 r.2)],[]⟩) 19 Tryz.func172 rfl rfl rfl ⟨rfl,rfl,trivial⟩ (fun Xt=>?_)
 refine zr ?_
 unfold zlk at h
 refine jp ?_
 refine zz ?_
 refine jp ?_
 rcases zn h with ⟨hc1,h⟩| ⟨hc1,h⟩
 ·
  refine jT hc1 ?_
  obtain ⟨rv,h_rv,h⟩:=bnd h
  refine jr (rl 1 [0] 9 Tryz.call154 (znm h_rv) rf) ?_
  obtain rfl:=sj h
  exact zy lzz
 refine jF hc1 ?_
 refine jp ?_
 rcases zn h with ⟨hc2,h⟩| ⟨hc2,h⟩
 ·
  refine jT hc2 ?_
  refine jp ?_
  obtain rfl:=sj h
  exact zy lzz
 refine jF hc2 ?_
 refine zX ?_
 refine jp ?_
 obtain rfl:=sj h
 exact zy lzz
theorem zxH {b:(List UInt8)} {r:(Int×Int)} (h:znk b=some r):FnOk Tryz.prog 160 [.sl Rp.byte [0] b] [kI r.1,kI r.2]:=by
 refine zC (E:=⟨[(2,kI r.1),(3,kI r.2)],[]⟩) 20 Tryz.func160 rfl rfl rfl ⟨rfl,rfl,trivial⟩ (fun Xt=>?_)
 refine zr ?_
 unfold znk at h
 refine jp ?_
 obtain ⟨rv,h_rv,h⟩:=bnd h
 refine jr (rl 1 [0] 9 Tryz.call175 (zqU h_rv) rf) ?_
 refine zz ?_
 obtain ⟨q,h_q,h⟩:=bnd h
 refine zak (fun s:(Int×Int×Int)=>zdV b s.1 s.2.1 s.2.2) (fun s=>⟨[(0,.sl Rp.byte [0] b),(2,kI s.1),(3,kI s.2.1),(4,kI s.2.2)],[]⟩) (fun o e a w=>e= .exit 0∧Sx ⟨⟨20,[]⟩,Xt,false,#[]⟩ ⟨[(2,kI o.1),(3,kI o.2)],[]⟩ a w) ?_ h_q lzz ?_
 ·
  clear h
  intro s o h
  obtain ⟨atv,points,size⟩:=s
  refine zr ?_
  replace h:zdV b atv points size=some o:=h
  unfold zdV at h
  refine jp ?_
  rcases zn h with ⟨hc1,h⟩| ⟨hc1,h⟩
  ·
   refine jT hc1 ?_
   refine zz ?_
   refine jp ?_
   refine jp ?_
   refine zX ?_
   obtain ⟨v,h_v,h⟩:=bnd h
   obtain ⟨rv2,h_rv2,h⟩:=bnd h
   refine jr (ra 2 [.sl Rp.byte [0] b,kI (IntKind.i64.wrap (atv+size))] rfl (zgu (some (kI (IntKind.i64.wrap (atv+size)))) none rfl zdD.el (zI _ _ _) ⟨rfl,rfl⟩ ⟨rfl,rfl⟩ h_v) rfl (rl 0 [0] 10 Tryz.call175 (zqU h_rv2) rf)) ?_
   obtain rfl:=sj h
   exact zG lzz
  refine jF hc1 ?_
  obtain rfl:=sj h
  exact zal rfl lzz
 refine zaM _ rfl ?_
 refine jp ?_
 obtain rfl:=sj h
 exact zy lzz
theorem zra {k:Int} {b:(List UInt8)} {r:(Int×Int)} (h:zho k b=some r):FnOk Tryz.prog 173 [kI k,.sl Rp.byte [0] b] [kU r.1,k8 r.2]:=by
 refine zC (E:=⟨[(4,kU r.1),(5,k8 r.2)],[]⟩) 31 Tryz.func173 rfl rfl rfl ⟨rfl,rfl,trivial⟩ (fun Xt=>?_)
 refine zr ?_
 unfold zho at h
 refine jp ?_
 obtain ⟨rv,h_rv,h⟩:=bnd h
 refine jr (rl 1 [1] 9 Tryz.call178 (zlZ h_rv) rf) ?_
 refine zz ?_
 refine jp ?_
 rcases zn h with ⟨hc1,h⟩| ⟨hc1,h⟩
 ·
  refine jT hc1 ?_
  refine jp ?_
  obtain rfl:=sj h
  exact zy lzz
 refine jF hc1 ?_
 refine jp ?_
 rcases zn h with ⟨hc2,h⟩| ⟨hc2,h⟩
 ·
  refine jT hc2 ?_
  obtain ⟨rv2,h_rv2,h⟩:=bnd h
  refine jr (rl 1 [0] 9 Tryz.call179 (zrb h_rv2) rf) ?_
  obtain rfl:=sj h
  exact zy lzz
 refine jF hc2 ?_
 refine jp ?_
 rcases zn h with ⟨hc3,h⟩| ⟨hc3,h⟩
 ·
  refine jT hc3 ?_
  refine jp ?_
  obtain rfl:=sj h
  exact zy lzz
 refine jF hc3 ?_
 refine zX ?_
 obtain ⟨rv3,h_rv3,h⟩:=bnd h
 refine jr (rl 1 [0] 9 Tryz.call180 (zuQ h_rv3) rf) ?_
 obtain rfl:=sj h
 exact zy lzz
theorem zml {sv:(List zg)} {r:(Int×Int×Int)} (h:zed sv=some r):FnOk Tryz.prog 43 [.sl zi [0] sv] [kI r.1,kI r.2.1,kI r.2.2]:=by
 refine zC (E:=⟨[(2,kI r.1),(3,kI r.2.1),(4,kI r.2.2)],[]⟩) 80 Tryz.func43 rfl rfl rfl ⟨rfl,rfl,rfl,trivial⟩ (fun Xt=>?_)
 refine zr ?_
 unfold zed at h
 refine jp ?_
 refine zS ⟨[(0,.sl zi [0] sv),(17,kB (((sv.length:Int)==0)|| (decide ((sv.length:Int)>100))))],[]⟩ ?_ ?_
 ·
  refine (rsl 4 [] 13 ((sv.length:Int)==0) (fun hc1=>?_) (fun hc1=>?_))
  · exact (rbl [] 17 true (((sv.length:Int)==0)|| (decide ((sv.length:Int)>100))) (by rw [hc1]<;>rfl))
  exact (rbl [] 17 (decide ((sv.length:Int)>100)) (((sv.length:Int)==0)|| (decide ((sv.length:Int)>100))) (by rw [hc1]<;>rfl))
 rcases zn h with ⟨hc2,h⟩| ⟨hc2,h⟩
 ·
  refine jT hc2 ?_
  refine jp ?_
  obtain rfl:=sj h
  exact zy lzz
 refine jF hc2 ?_
 refine jp ?_
 refine zz ?_
 obtain ⟨q3,h_q3,h⟩:=bnd h
 refine zak (fun s:Int=>zaD sv s) (fun s=>⟨[(0,.sl zi [0] sv),(5,kI s)],[]⟩) (fun o e a w=>match o with| (.inl v_)=>e= .exit 0∧Sx ⟨⟨80,[]⟩,Xt,false,#[]⟩ ⟨[],[]⟩ a w| (.inr v_)=>e= .ret∧Sx ⟨⟨80,[]⟩,Xt,false,#[]⟩ ⟨[(2,kI v_.1),(3,kI v_.2.1),(4,kI v_.2.2)],[]⟩ a w) ?_ h_q3 lzz ?_
 ·
  clear h
  intro i o h
  refine zr ?_
  replace h:zaD sv i=some o:=h
  unfold zaD at h
  refine jp ?_
  rcases zn h with ⟨hc3,h⟩| ⟨hc3,h⟩
  ·
   refine jT hc3 ?_
   refine zz ?_
   refine jp ?_
   refine jp ?_
   refine zz ?_
   obtain ⟨q,h_q,h⟩:=bnd h
   refine zak (fun s:(Bool×Int)=>zaO i sv s.1 s.2) (fun s=>⟨[(0,.sl zi [0] sv),(5,kI i),(6,kB s.1),(7,kI s.2)],[]⟩) (fun o e a w=>e= .exit 2∧Sx ⟨⟨80,[]⟩,Xt,false,#[]⟩ ⟨[(0,.sl zi [0] sv),(5,kI i),(6,kB o)],[]⟩ a w) ?_ h_q lzz ?_
   ·
    clear h
    intro s o h
    obtain ⟨twice,k⟩:=s
    refine zr ?_
    replace h:zaO i sv twice k=some o:=h
    unfold zaO at h
    refine jp ?_
    rcases zn h with ⟨hc4,h⟩| ⟨hc4,h⟩
    ·
     refine jT hc4 ?_
     refine zz ?_
     obtain ⟨g,h_g,h⟩:=bnd h
     refine zcn (R:=fun e a w=>e= .normal∧Sx ⟨⟨80,[]⟩,Xt,false,#[]⟩ ⟨[(0,.sl zi [0] sv),(5,kI i),(6,kB g),(7,kI k)],[]⟩ a w) ?_ (zdR ?_)
     ·
      refine zr ?_
      rcases Bool.eq_false_or_eq_true twice with hc5| hc5
      ·
       replace h_g:=iteT h_g hc5
       obtain rfl:=sj h_g
       refine jd [0,5,6,7] [] zcp (by exact (lw_e (lx (zbQ ⟨[(29,kB twice)],[]⟩ (by kernel_rfl) hc5) l0))) ?_
       exact zG lzz
      replace h_g:=iteF h_g hc5
      obtain ⟨x,h_x,h_g⟩:=bnd h_g
      obtain ⟨x2,h_x2,h_g⟩:=bnd h_g
      obtain rfl:=sj h_g
      refine jd [0,5,6,7] [] zcp (by exact (lw_e (lx (zbQ ⟨[(29,kB twice)],[]⟩ (by kernel_rfl) hc5) (lw_e (lw_e (ly [.sl zi [0] sv,kI k] (zar rfl zge.el (zI _ _ _) h_x) rfl (lw_e (lw_e (lw_e (lw_e (ly [.sl zi [0] sv,kI i] (zar rfl zge.el (zI _ _ _) h_x2) rfl l0))))))))))) ?_
      exact zG lzz
     refine zX ?_
     refine jp ?_
     obtain rfl:=sj h
     exact zG lzz
    refine jF hc4 ?_
    obtain rfl:=sj h
    exact zal rfl lzz
   refine zaM _ rfl ?_
   obtain ⟨x3,h_x3,h⟩:=bnd h
   obtain ⟨rv,h_rv,h⟩:=bnd h
   refine jr (ra 2 [.sl zi [0] sv,kI i] rfl (zar rfl zge.el (zI _ _ _) h_x3) rfl (rl 2 [1] 11 Tryz.call69 (zif h_rv) rf)) ?_
   rcases zn h with ⟨hc6,h⟩| ⟨hc6,h⟩
   ·
    refine jT hc6 ?_
    refine jp ?_
    obtain rfl:=sj h
    exact zbr lzz
   refine jF hc6 ?_
   refine jp ?_
   rcases zn h with ⟨hc7,h⟩| ⟨hc7,h⟩
   ·
    refine jT hc7 ?_
    refine jp ?_
    obtain rfl:=sj h
    exact zbr lzz
   refine jF hc7 ?_
   obtain ⟨x4,h_x4,h⟩:=bnd h
   refine jr (ra 2 [.sl zi [0] sv,kI i] rfl (zar rfl zge.el (zI _ _ _) h_x4) rfl (ra 1 [.ep zi [0] x4 1] rfl (zgv zb x4.Fields rfl rfl rfl) rfl rf)) ?_
   rcases zn h with ⟨hc8,h⟩| ⟨hc8,h⟩
   ·
    refine jT hc8 ?_
    refine jp ?_
    obtain rfl:=sj h
    exact zbr lzz
   refine jF hc8 ?_
   refine jp ?_
   refine zz ?_
   obtain ⟨q2,h_q2,h⟩:=bnd h
   refine zak (fun s:Int=>zaE i sv s) (fun s=>⟨[(0,.sl zi [0] sv),(5,kI i),(8,kI s)],[]⟩) (fun o e a w=>match o with| (.inl v_)=>e= .exit 4∧Sx ⟨⟨80,[]⟩,Xt,false,#[]⟩ ⟨[(0,.sl zi [0] sv),(5,kI i)],[]⟩ a w| (.inr v_)=>e= .ret∧Sx ⟨⟨80,[]⟩,Xt,false,#[]⟩ ⟨[(2,kI i),(3,kI v_.1),(4,kI v_.2)],[]⟩ a w) ?_ h_q2 lzz ?_
   ·
    clear h
    intro k2 o h
    refine zr ?_
    replace h:zaE i sv k2=some o:=h
    unfold zaE at h
    obtain ⟨x5,h_x5,h⟩:=bnd h
    refine jr (ra 3 [.sl zi [0] sv,kI i] rfl (zar rfl zge.el (zI _ _ _) h_x5) rfl (ra 1 [.ep zi [0] x5 1] rfl (zgv zb x5.Fields rfl rfl rfl) rfl rf)) ?_
    rcases zn h with ⟨hc9,h⟩| ⟨hc9,h⟩
    ·
     refine jT hc9 ?_
     refine zz ?_
     obtain ⟨rv2,h_rv2,h⟩:=bnd h
     refine jr (rl 3 [0] 12 Tryz.call70 (zmm h_rv2) rf) ?_
     refine jp ?_
     rcases zn h with ⟨hc10,h⟩| ⟨hc10,h⟩
     ·
      refine jT hc10 ?_
      refine jp ?_
      obtain rfl:=sj h
      exact zbr lzz
     refine jF hc10 ?_
     refine zX ?_
     refine jp ?_
     obtain rfl:=sj h
     exact zG lzz
    refine jF hc9 ?_
    obtain rfl:=sj h
    exact zal rfl lzz
   rcases q2 with u| u2
   ·
    refine zaM _ rfl ?_
    refine zX ?_
    refine jp ?_
    obtain rfl:=sj h
    exact zG lzz
   obtain rfl:=sj h
   exact zvn lzz
  refine jF hc3 ?_
  obtain rfl:=sj h
  exact zal rfl lzz
 rcases q3 with u3| u4
 ·
  refine zaM _ rfl ?_
  refine jp ?_
  obtain rfl:=sj h
  exact zy lzz
 obtain rfl:=sj h
 exact zdr lzz
theorem zmE {b:(List UInt8)} {fromv:Int} {r:(zq×Int)} (h:zeD b fromv=some r):FnOk Tryz.prog 45 [.sl Rp.byte [0] b,kI fromv] [.rc zN [] r.1,kI r.2]:=by
 refine zC (E:=⟨[(4,.ptr 2 0),(5,kI r.2)],[⟨2,85,[kI r.1.Number,kI r.1.Wire,kI r.1.From,kI r.1.At,kI r.1.To]⟩]⟩) 108 Tryz.func45 rfl rfl rfl ⟨⟨_,_,rfl,rfl,rfl,rfl,⟨Tryz.isAgg85,Tryz.sizeOf85⟩⟩,rfl,trivial⟩ (fun Xt=>?_)
 refine zr ?_
 unfold zeD at h
 refine jq [12] ?_
 refine zS ⟨[(0,.sl Rp.byte [0] b),(1,kI fromv),(4,.ptr 12 0),(26,kB ((decide (fromv<0))|| (decide (fromv≥(b.length:Int)))))],[⟨12,85,[kI 0,kI 0,kI 0,kI 0,kI 0]⟩]⟩ ?_ ?_
 ·
  refine (rsl 3 [] 21 (decide (fromv<0)) (fun hc1=>?_) (fun hc1=>?_))
  · exact (rbl [] 26 true ((decide (fromv<0))|| (decide (fromv≥(b.length:Int)))) (by rw [hc1]<;>rfl))
  exact (rbl [] 26 (decide (fromv≥(b.length:Int))) ((decide (fromv<0))|| (decide (fromv≥(b.length:Int)))) (by rw [hc1]<;>rfl))
 rcases zn h with ⟨hc2,h⟩| ⟨hc2,h⟩
 ·
  refine jT hc2 ?_
  refine jr (rc 0 rfl (zV (r:=zN) [] [] (⟨0,0,0,0,0⟩:zq) rfl zsT rfl rfl) rf) ?_
  obtain rfl:=sj h
  refine zy ?_
  refine lk [4,5] [12] 12 2 ?_
  exact lzz
 refine jF hc2 ?_
 obtain ⟨rv,h_rv,h⟩:=bnd h
 refine jr (rl 2 [0] 11 Tryz.call71 (zmC h_rv) rf) ?_
 refine jp ?_
 rcases zn h with ⟨hc3,h⟩| ⟨hc3,h⟩
 ·
  refine jT hc3 ?_
  refine jr (rc 0 rfl (zV (r:=zN) [] [] (⟨0,0,0,0,0⟩:zq) rfl zsT rfl rfl) rf) ?_
  obtain rfl:=sj h
  refine zy ?_
  refine lk [4,5] [12] 12 2 ?_
  exact lzz
 refine jF hc3 ?_
 refine jr (rc 6 rfl (zV (r:=zN) [kI rv.1,kI rv.2.1,kI fromv,kI (IntKind.i64.wrap (fromv+rv.2.2.1))] [] (⟨rv.1,rv.2.1,fromv,(IntKind.i64.wrap (fromv+rv.2.2.1)),0⟩:zq) rfl zsT rfl rfl) (rfl' [13])) ?_
 refine jp ?_
 refine jp ?_
 refine jp ?_
 obtain ⟨p,h_p,h⟩:=bnd h
 refine zcn (R:=fun e a w=>e= .normal∧Sx ⟨⟨108,[]⟩,Xt,false,#[]⟩ ⟨[(0,.sl Rp.byte [0] b),(4,.ptr 12 0),(7,kI rv.2.1),(10,.ptr 13 0),(11,kI (IntKind.i64.wrap ((b.length:Int) - (IntKind.i64.wrap (fromv+rv.2.2.1))))),(12,kI p)],[⟨12,85,[kI 0,kI 0,kI 0,kI 0,kI 0]⟩,⟨13,85,[kI rv.1,kI rv.2.1,kI fromv,kI (IntKind.i64.wrap (fromv+rv.2.2.1)),kI 0]⟩]⟩ a w) ?_ ?_
 ·
  replace h:=h_p
  refine zr ?_
  rcases zn h with ⟨hc4,h⟩| ⟨hc4,h⟩
  ·
   refine jT hc4 ?_
   refine jp ?_
   obtain rfl:=sj h
   exact zG lzz
  refine jF hc4 ?_
  obtain rfl:=sj h
  exact zG lzz
 refine zdR ?_
 refine jp ?_
 obtain ⟨p2,h_p2,h⟩:=bnd h
 refine zcn (R:=fun e a w=>match p2 with| (.inl v_)=>e= .normal∧Sx ⟨⟨108,[]⟩,Xt,false,#[]⟩ ⟨[(0,.sl Rp.byte [0] b),(4,.ptr 12 0),(7,kI rv.2.1),(10,.ptr 13 0),(11,kI (IntKind.i64.wrap ((b.length:Int) - (IntKind.i64.wrap (fromv+rv.2.2.1))))),(12,kI v_)],[⟨12,85,[kI 0,kI 0,kI 0,kI 0,kI 0]⟩,⟨13,85,[kI rv.1,kI rv.2.1,kI fromv,kI (IntKind.i64.wrap (fromv+rv.2.2.1)),kI 0]⟩]⟩ a w| (.inr v_)=>e= .ret∧Sx ⟨⟨108,[]⟩,Xt,false,#[]⟩ ⟨[(4,.ptr 12 0),(5,kI v_)],[⟨12,85,[kI 0,kI 0,kI 0,kI 0,kI 0]⟩]⟩ a w) ?_ ?_
 ·
  replace h:=h_p2
  refine zr ?_
  rcases zn h with ⟨hc5,h⟩| ⟨hc5,h⟩
  ·
   refine jT hc5 ?_
   obtain ⟨rv2,h_rv2,h⟩:=bnd h
   refine jr (rl 3 [0] 12 Tryz.call68 (zfQ h_rv2) rf) ?_
   refine jp ?_
   rcases zn h with ⟨hc6,h⟩| ⟨hc6,h⟩
   ·
    refine jT hc6 ?_
    refine jr (rc 0 rfl (zV (r:=zN) [] [] (⟨0,0,0,0,0⟩:zq) rfl zsT rfl rfl) rf) ?_
    obtain rfl:=sj h
    exact zy lzz
   refine jF hc6 ?_
   refine jp ?_
   obtain rfl:=sj h
   exact zG lzz
  refine jF hc5 ?_
  obtain rfl:=sj h
  exact zG lzz
 rcases p2 with u| u4
 ·
  refine zdR ?_
  refine jp ?_
  obtain ⟨p3,h_p3,h⟩:=bnd h
  refine zcn (R:=fun e a w=>match p3 with| (.inl v_)=>e= .normal∧Sx ⟨⟨108,[]⟩,Xt,false,#[]⟩ ⟨[(4,.ptr 12 0),(10,.ptr 13 0),(11,kI v_.1),(12,kI v_.2.1)],[⟨12,85,[kI 0,kI 0,kI 0,kI 0,kI 0]⟩,⟨13,85,[kI rv.1,kI rv.2.1,kI fromv,kI v_.2.2,kI 0]⟩]⟩ a w| (.inr v_)=>e= .ret∧Sx ⟨⟨108,[]⟩,Xt,false,#[]⟩ ⟨[(4,.ptr 12 0),(5,kI v_)],[⟨12,85,[kI 0,kI 0,kI 0,kI 0,kI 0]⟩]⟩ a w) ?_ ?_
  ·
   replace h:=h_p3
   refine zr ?_
   rcases zn h with ⟨hc7,h⟩| ⟨hc7,h⟩
   ·
    refine jT hc7 ?_
    obtain ⟨rv3,h_rv3,h⟩:=bnd h
    refine jr (rl 3 [0] 12 Tryz.call68 (zfQ h_rv3) rf) ?_
    refine jp ?_
    rcases zn h with ⟨hc8,h⟩| ⟨hc8,h⟩
    ·
     refine jT hc8 ?_
     refine jr (rc 0 rfl (zV (r:=zN) [] [] (⟨0,0,0,0,0⟩:zq) rfl zsT rfl rfl) rf) ?_
     obtain rfl:=sj h
     exact zy lzz
    refine jF hc8 ?_
    refine jp ?_
    refine jp ?_
    refine jp ?_
    rcases zn h with ⟨hc9,h⟩| ⟨hc9,h⟩
    ·
     refine jT hc9 ?_
     refine jr (rc 0 rfl (zV (r:=zN) [] [] (⟨0,0,0,0,0⟩:zq) rfl zsT rfl rfl) rf) ?_
     obtain rfl:=sj h
     exact zy lzz
    refine jF hc9 ?_
    refine jp ?_
    obtain rfl:=sj h
    exact zG lzz
   refine jF hc7 ?_
   obtain rfl:=sj h
   exact zG lzz
  rcases p3 with u2| u3
  ·
   refine zdR ?_
   refine jp ?_
   rcases zn h with ⟨hc10,h⟩| ⟨hc10,h⟩
   ·
    refine jT hc10 ?_
    refine jr (rc 0 rfl (zV (r:=zN) [] [] (⟨0,0,0,0,0⟩:zq) rfl zsT rfl rfl) rf) ?_
    obtain rfl:=sj h
    refine zy ?_
    refine lk [4,5] [12] 12 2 ?_
    exact lzz
   refine jF hc10 ?_
   refine jp ?_
   refine jr (lb 0 zN [] (⟨rv.1,rv.2.1,fromv,u2.2.2,(IntKind.i64.wrap (u2.2.2+u2.2.1))⟩:zq) rf) ?_
   obtain rfl:=sj h
   refine zy ?_
   refine lk [4,5] [12] 12 2 ?_
   exact lzz
  obtain rfl:=sj h
  refine zdr ?_
  refine lk [4,5] [12] 12 2 ?_
  exact lzz
 obtain rfl:=sj h
 refine zdr ?_
 refine lk [4,5] [12] 12 2 ?_
 exact lzz
theorem zmi {b:(List UInt8)} {most:Int} {r:(Int×Int)} (h:zea b most=some r):FnOk Tryz.prog 86 [.sl Rp.byte [0] b,kI most] [kI r.1,kI r.2]:=by
 refine zC (E:=⟨[(4,kI r.1),(5,kI r.2)],[]⟩) 28 Tryz.func86 rfl rfl rfl ⟨rfl,rfl,trivial⟩ (fun Xt=>?_)
 refine zr ?_
 unfold zea at h
 refine jp ?_
 refine jp ?_
 refine zz ?_
 obtain ⟨q,h_q,h⟩:=bnd h
 refine zak (fun s:(Int×Int)=>zaN b most s.1 s.2) (fun s=>⟨[(0,.sl Rp.byte [0] b),(1,kI most),(6,kI s.1),(7,kI s.2)],[]⟩) (fun o e a w=>e= .ret∧Sx ⟨⟨28,[]⟩,Xt,false,#[]⟩ ⟨[(4,kI o.1),(5,kI o.2)],[]⟩ a w) ?_ h_q lzz ?_
 ·
  clear h
  intro s o h
  obtain ⟨atv,count⟩:=s
  refine zr ?_
  replace h:zaN b most atv count=some o:=h
  unfold zaN at h
  refine zz ?_
  obtain ⟨rv,h_rv,h⟩:=bnd h
  refine jr (rl 2 [0] 10 Tryz.call108 (zmD h_rv) rf) ?_
  refine zS ⟨[(0,.sl Rp.byte [0] b),(1,kI most),(6,kI atv),(7,kI count),(8,kI rv),(20,kB ((rv==0)|| (decide ((IntKind.i64.wrap (atv+rv))>most))))],[]⟩ ?_ ?_
  ·
   refine (rsl 3 [] 14 (rv==0) (fun hc1=>?_) (fun hc1=>?_))
   · exact (rbl [] 20 true ((rv==0)|| (decide ((IntKind.i64.wrap (atv+rv))>most))) (by rw [hc1]<;>rfl))
   exact (rbl [] 20 (decide ((IntKind.i64.wrap (atv+rv))>most)) ((rv==0)|| (decide ((IntKind.i64.wrap (atv+rv))>most))) (by rw [hc1]<;>rfl))
  rcases zn h with ⟨hc2,h⟩| ⟨hc2,h⟩
  ·
   refine jT hc2 ?_
   refine jp ?_
   obtain rfl:=sj h
   exact zbr lzz
  refine jF hc2 ?_
  refine jp ?_
  refine jp ?_
  refine zX ?_
  obtain rfl:=sj h
  exact zG lzz
 obtain rfl:=sj h
 exact zdr lzz
theorem zwb {fuel:Nat} {x:zf} {r:Bool} (h:zlt fuel x=some r):FnOk Tryz.prog 48 [.rc zj [0] x] [kB r]:=by
 refine zC (E:=⟨[(2,kB r)],[]⟩) 6 Tryz.func48 rfl rfl rfl ⟨rfl,trivial⟩ (fun Xt=>?_)
 refine zr ?_
 unfold zlt at h
 refine jr (ra 0 [.rc zj [0] x] rfl (zds 11 [.sl zd [0] x.Values,.sl Rp.str [0] x.Unknown] [0] rfl rfl rfl (by rw [zab]<;>rfl) rfl) rfl rf) ?_
 obtain ⟨rv,h_rv,h⟩:=bnd h
 refine jr (rc 1 rfl (zH.le (ins':=[(.tmp 3,.ag [.sl zd [0] x.Values,.sl Rp.str [0] x.Unknown])]) (zbz (args:=[.tmp 3]) [.rc zj [0] x] [0] 10 rfl Tryz.call14 (ztz h_rv) rfl rfl rfl rfl rfl) ⟨⟨rfl,zcP zj [0] x [.sl zd [0] x.Values,.sl Rp.str [0] x.Unknown] (by rw [zab]<;>rfl) rfl⟩,trivial⟩) rf) ?_
 obtain rfl:=sj h
 exact zy lzz
theorem zgN {m:zg} {v:Int} {r:(Int×Bool)} (h:zbP m v=some r):FnOk Tryz.prog 96 [.rc zi [0] m,.fv 97 [.ep (Rp.int .i64) [0] v 0]] [kI r.1,kB r.2]:=by
 refine zC (E:=⟨[(4,kI r.1),(5,kB r.2)],[]⟩) 15 Tryz.func96 rfl rfl rfl ⟨rfl,rfl,trivial⟩ (fun Xt=>?_)
 refine zr ?_
 unfold zbP at h
 refine jr (ra 0 [.rc zi [0] m] rfl (zds 11 [kS m.Name,.sl zb [0] m.Fields] [0] rfl rfl rfl rfl rfl) rfl rf) ?_
 obtain ⟨rv,h_rv,h⟩:=bnd h
 refine jr (rl 3 [0] 10 Tryz.call117 (zcV h_rv) rf) ?_
 refine jp ?_
 obtain rfl:=sj h
 exact zy lzz
end Go.Proofs.YtcbkcblkecmjnaaGreat
