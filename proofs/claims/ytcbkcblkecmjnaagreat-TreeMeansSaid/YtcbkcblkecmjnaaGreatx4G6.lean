/-
  The Go functions do what the plain functions say. No condition.
-/
import Derived.Test.YtcbkcblkecmjnaaGreatx4G4
namespace Go.Proofs.YtcbkcblkecmjnaaGreat
open Go Go.RowKit
set_option linter.unusedVariables false
set_option maxRecDepth 100000
set_option maxHeartbeats 3200000
theorem zjO {c:zaD} {m:zi} {r:(Int×(List (zn×Bool))×(List (zo×Bool)))} (h:zcS c m=some r):zgl Tryz.prog 104 [.ag [kI c.size,.sl (Rp.int .i64) [0] c.kinds,.om zr Rp.bool 2 [0] c.names,.om zq Rp.bool 3 [0] c.numbers],.rc zj [0] m] [kI r.1] [.ag [.any,.any,.om zr Rp.bool 2 [0] r.2.1,.om zq Rp.bool 3 [0] r.2.2],.any]:=by
 refine zic (E:=⟨[(0,.ag [.any,.any,.om zr Rp.bool 2 [0] r.2.1,.om zq Rp.bool 3 [0] r.2.2]),(4,kI r.1)],[]⟩) 27 [0] Tryz.func104 rfl rfl rfl ⟨rfl,trivial⟩ ⟨.inr ⟨rfl,rfl⟩,.inl rfl,trivial⟩ rfl (fun Xt old=>?_)
 refine zv ?_
 unfold zcS at h
 refine jr (ral 1 [11] [.rc zj [0] m] rfl (zcQ 12 [kS m.Name,.sl zd [0] m.Fields] [0] rfl rfl rfl rfl rfl) rfl rf) ?_
 refine jr (rc 2 rfl (zam (r:=zr) [kI (-1),kS m.Name] [] (⟨(-1),m.Name⟩:zn) rfl zCb rfl rfl) (rfl' [13])) ?_
 refine zH ?_
 obtain ⟨rv,h_rv,h⟩:=bnd h
 refine jr (rl 2 [1] 12 Tryz.call122 (zjP h_rv) rf) ?_
 rcases zp h with ⟨hc1,h⟩| ⟨hc1,h⟩
 ·
  refine jT hc1 ?_
  refine jp ?_
  obtain rfl:=sj h
  refine zeQ ?_
  refine zbC ⟨[(0,.ag [kI c.size,.sl (Rp.int .i64) [0] c.kinds,.om zr Rp.bool 2 [0] c.names,.om zq Rp.bool 3 [0] c.numbers]),(4,kI 2)],[]⟩ (by kernel_rfl) ?_
  refine zcf 0 (.ag [.any,.any,.om zr Rp.bool 2 [0] ((2,c.names,c.numbers):(Int×(List (zn×Bool))×(List (zo×Bool)))).2.1,.om zq Rp.bool 3 [0] ((2,c.names,c.numbers):(Int×(List (zn×Bool))×(List (zo×Bool)))).2.2]) rfl (zfp ⟨zbe _,zbe _,AV.le_refl _,AV.le_refl _,trivial⟩) ?_
  exact lzz
 refine jF hc1 ?_
 refine jr (lb 2 zr [] (⟨(-1),m.Name⟩:zn) (ra 0 [.om zr Rp.bool 2 [0] c.names,.rc zr [] (⟨(-1),m.Name⟩:zn)] rfl (zqk (rk:=zr) (rv:=Rp.bool) (m:=c.names) (k:=(⟨(-1),m.Name⟩:zn)) (kB ((mget c.names (⟨(-1),m.Name⟩:zn)).getD false)) rfl zqm (zkh _ _ _ _ _) (zck rfl) (zug rfl rfl rfl)) rfl rf)) ?_
 rcases zp h with ⟨hc2,h⟩| ⟨hc2,h⟩
 ·
  refine jT hc2 ?_
  refine jp ?_
  obtain rfl:=sj h
  refine zeQ ?_
  refine zbC ⟨[(0,.ag [kI c.size,.sl (Rp.int .i64) [0] c.kinds,.om zr Rp.bool 2 [0] c.names,.om zq Rp.bool 3 [0] c.numbers]),(4,kI 3)],[]⟩ (by kernel_rfl) ?_
  refine zcf 0 (.ag [.any,.any,.om zr Rp.bool 2 [0] ((3,c.names,c.numbers):(Int×(List (zn×Bool))×(List (zo×Bool)))).2.1,.om zq Rp.bool 3 [0] ((3,c.names,c.numbers):(Int×(List (zn×Bool))×(List (zo×Bool)))).2.2]) rfl (zfp ⟨zbe _,zbe _,AV.le_refl _,AV.le_refl _,trivial⟩) ?_
  exact lzz
 refine jF hc2 ?_
 refine jp ?_
 rcases zp h with ⟨hc3,h⟩| ⟨hc3,h⟩
 ·
  refine jT hc3 ?_
  refine jp ?_
  obtain rfl:=sj h
  refine zeQ ?_
  refine zbC ⟨[(0,.ag [kI c.size,.sl (Rp.int .i64) [0] c.kinds,.om zr Rp.bool 2 [0] c.names,.om zq Rp.bool 3 [0] c.numbers]),(4,kI 4)],[]⟩ (by kernel_rfl) ?_
  refine zcf 0 (.ag [.any,.any,.om zr Rp.bool 2 [0] ((4,c.names,c.numbers):(Int×(List (zn×Bool))×(List (zo×Bool)))).2.1,.om zq Rp.bool 3 [0] ((4,c.names,c.numbers):(Int×(List (zn×Bool))×(List (zo×Bool)))).2.2]) rfl (zfp ⟨zbe _,zbe _,AV.le_refl _,AV.le_refl _,trivial⟩) ?_
  exact lzz
 refine jF hc3 ?_
 refine zau ?_
 refine jr (lb 2 zr [] (⟨(-1),m.Name⟩:zn) (rkl 0 [] ⟨[(0,.ag [kI c.size,.sl (Rp.int .i64) [0] c.kinds,.om zr Rp.bool 2 [0] c.names,.om zq Rp.bool 3 [0] c.numbers]),(25,.om zr Rp.bool 2 [0] c.names),(26,.rc zr [] (⟨(-1),m.Name⟩:zn))],[]⟩ (zeU ⟨[(0,.ag [kI c.size,.sl (Rp.int .i64) [0] c.kinds,.om zr Rp.bool 2 [0] (mput c.names (⟨(-1),m.Name⟩:zn) true),.om zq Rp.bool 3 [0] c.numbers]),(25,.om zr Rp.bool 2 [0] (mput c.names (⟨(-1),m.Name⟩:zn) true)),(26,.rc zr [] (⟨(-1),m.Name⟩:zn))],[]⟩ (znZ (rk:=zr) (rv:=Rp.bool) (m:=c.names) (ℓ:=2) (C:=[0]) (C1:=[]) (D:=[]) (⟨(-1),m.Name⟩:zn) true [0] zqm (.inl rfl) (zck rfl) (zdf rfl rfl) rfl) rfl (by kernel_rfl) (by kernel_rfl) ⟨⟨_,rfl,zjR ⟨zt rfl,zt rfl,zcU 0 rfl,zt rfl,trivial⟩⟩,⟨_,rfl,zcU 0 rfl⟩,⟨_,rfl,zt rfl⟩,trivial⟩ trivial rf))) ?_
 refine jp ?_
 obtain rfl:=sj h
 refine zeQ ?_
 refine zbC ⟨[(0,.ag [kI c.size,.sl (Rp.int .i64) [0] c.kinds,.om zr Rp.bool 2 [0] (mput c.names (⟨(-1),m.Name⟩:zn) true),.om zq Rp.bool 3 [0] c.numbers]),(4,kI 0)],[]⟩ (by kernel_rfl) ?_
 refine zcf 0 (.ag [.any,.any,.om zr Rp.bool 2 [0] ((0,(mput c.names (⟨(-1),m.Name⟩:zn) true),c.numbers):(Int×(List (zn×Bool))×(List (zo×Bool)))).2.1,.om zq Rp.bool 3 [0] ((0,(mput c.names (⟨(-1),m.Name⟩:zn) true),c.numbers):(Int×(List (zn×Bool))×(List (zo×Bool)))).2.2]) rfl (zfp ⟨zbe _,zbe _,AV.le_refl _,AV.le_refl _,trivial⟩) ?_
 exact lzz
theorem zlj {k:Int} {r:Bool} (h:zfW k=some r):FnOk Tryz.prog 159 [kI k] [kB r]:=by
 refine zD (E:=⟨[(2,kB r)],[]⟩) 16 Tryz.func159 rfl rfl rfl ⟨rfl,trivial⟩ (fun Xt=>?_)
 refine zv ?_
 unfold zfW at h
 refine jp ?_
 obtain ⟨rv,h_rv,h⟩:=bnd h
 refine jr (rl 1 [1] 9 Tryz.call163 (znz h_rv) rf) ?_
 refine zap ⟨[(2,kB ((rv.2==0)&&(rv.1 !=2)))],[]⟩ ?_ ?_
 ·
  refine (rsl 3 [] 12 (rv.2==0) (fun hc1=>?_) (fun hc1=>?_))
  · exact (rbl [] 2 (rv.1 !=2) ((rv.2==0)&&(rv.1 !=2)) (by rw [hc1]<;>rfl))
  exact (rbl [] 2 false ((rv.2==0)&&(rv.1 !=2)) (by rw [hc1]<;>rfl))
 obtain rfl:=sj h
 exact zA lzz
theorem zws {b:(List UInt8)} {r:(zaY×Int×Int)} (h:zlD b=some r):FnOk Tryz.prog 118 [.sl Rp.byte [0] b] [.rc zdU [] r.1,kI r.2.1,k8 r.2.2]:=by
 refine zD (E:=⟨[(2,.ptr 2 0),(3,kI r.2.1),(4,k8 r.2.2)],[⟨2,198,[kI r.1.Number,kI r.1.Wire]⟩]⟩) 35 Tryz.func118 rfl rfl rfl ⟨⟨_,_,rfl,rfl,rfl,rfl,⟨Tryz.isAgg198,Tryz.sizeOf198⟩⟩,rfl,rfl,trivial⟩ (fun Xt=>?_)
 refine zv ?_
 unfold zlD at h
 refine jq [12] ?_
 obtain ⟨rv,h_rv,h⟩:=bnd h
 refine jr (rl 1 [0] 11 Tryz.call152 (zgB h_rv) rf) ?_
 refine jp ?_
 rcases zp h with ⟨hc1,h⟩| ⟨hc1,h⟩
 ·
  refine jT hc1 ?_
  refine jr (rc 0 rfl (zam (r:=zdU) [] [] (⟨0,0⟩:zaY) rfl zxL rfl rfl) rf) ?_
  obtain rfl:=sj h
  refine zA ?_
  refine lk [2,3,4] [12] 12 2 ?_
  exact lzz
 refine jF hc1 ?_
 refine jr (ra 1 [kU rv.1,kU 3] rfl (zhM rfl rfl) rfl rf) ?_
 refine jr (rc 5 rfl (zam (r:=zdU) [kI (IntKind.i64.wrap (if (536870912:Int)<(shrI .u64 rv.1 3) then 536870912 else (shrI .u64 rv.1 3))),kI (IntKind.i64.wrap (andI .u64 rv.1 7))] [] (⟨(IntKind.i64.wrap (if (536870912:Int)<(shrI .u64 rv.1 3) then 536870912 else (shrI .u64 rv.1 3))),(IntKind.i64.wrap (andI .u64 rv.1 7))⟩:zaY) rfl zxL rfl rfl) (rfl' [13])) ?_
 obtain ⟨rv2,h_rv2,h⟩:=bnd h
 refine jr (lb 0 zdU [] (⟨(IntKind.i64.wrap (if (536870912:Int)<(shrI .u64 rv.1 3) then 536870912 else (shrI .u64 rv.1 3))),(IntKind.i64.wrap (andI .u64 rv.1 7))⟩:zaY) (rl 0 [1] 12 Tryz.call153 (zuS h_rv2) rf)) ?_
 rcases zp h with ⟨hc2,h⟩| ⟨hc2,h⟩
 ·
  refine jT hc2 ?_
  refine jr (rc 0 rfl (zam (r:=zdU) [] [] (⟨0,0⟩:zaY) rfl zxL rfl rfl) rf) ?_
  obtain rfl:=sj h
  refine zA ?_
  refine lk [2,3,4] [12] 12 2 ?_
  exact lzz
 refine jF hc2 ?_
 refine jr (lb 0 zdU [] (⟨(IntKind.i64.wrap (if (536870912:Int)<(shrI .u64 rv.1 3) then 536870912 else (shrI .u64 rv.1 3))),(IntKind.i64.wrap (andI .u64 rv.1 7))⟩:zaY) rf) ?_
 obtain rfl:=sj h
 refine zA ?_
 refine lk [2,3,4] [12] 12 2 ?_
 exact lzz
theorem zrC {wire:Int} {b:(List UInt8)} {r:(Int×Int×Int)} (h:zhv wire b=some r):FnOk Tryz.prog 119 [kI wire,.sl Rp.byte [0] b] [kI r.1,kI r.2.1,k8 r.2.2]:=by
 refine zD (E:=⟨[(4,kI r.1),(5,kI r.2.1),(6,k8 r.2.2)],[]⟩) 45 Tryz.func119 rfl rfl rfl ⟨rfl,rfl,rfl,trivial⟩ (fun Xt=>?_)
 refine zv ?_
 unfold zhv at h
 refine jp ?_
 refine jp ?_
 refine jp ?_
 refine zH ?_
 refine jp ?_
 rcases zp h with ⟨hc1,h⟩| ⟨hc1,h⟩
 ·
  refine jT hc1 ?_
  obtain ⟨rv,h_rv,h⟩:=bnd h
  refine jr (rl 1 [0] 9 Tryz.call154 (zlN h_rv) rf) ?_
  refine jp ?_
  obtain rfl:=sj h
  exact zA lzz
 refine jF hc1 ?_
 refine jp ?_
 obtain ⟨p,h_p,h⟩:=bnd h
 refine zfk (R:=fun e a w=>e= .normal∧Sx ⟨⟨45,[]⟩,Xt,false,#[]⟩ ⟨[(1,.sl Rp.byte [0] b),(4,kI p.1),(6,k8 p.2.1),(7,kU p.2.2)],[]⟩ a w) ?_ ?_
 ·
  replace h:=h_p
  refine zv ?_
  rcases zp h with ⟨hc2,h⟩| ⟨hc2,h⟩
  ·
   refine jT hc2 ?_
   refine jp ?_
   obtain rfl:=sj h
   exact zae lzz
  refine jF hc2 ?_
  refine jp ?_
  rcases zp h with ⟨hc3,h⟩| ⟨hc3,h⟩
  ·
   refine jT hc3 ?_
   refine jp ?_
   obtain rfl:=sj h
   exact zae lzz
  refine jF hc3 ?_
  refine jp ?_
  rcases zp h with ⟨hc4,h⟩| ⟨hc4,h⟩
  ·
   refine jT hc4 ?_
   obtain ⟨rv2,h_rv2,h⟩:=bnd h
   refine jr (rl 1 [0] 9 Tryz.call152 (zgB h_rv2) rf) ?_
   obtain rfl:=sj h
   exact zae lzz
  refine jF hc4 ?_
  obtain rfl:=sj h
  exact zae lzz
 refine zhK ?_
 refine zau ?_
 refine jp ?_
 rcases zp h with ⟨hc5,h⟩| ⟨hc5,h⟩
 ·
  refine jT hc5 ?_
  refine jp ?_
  obtain rfl:=sj h
  exact zA lzz
 refine jF hc5 ?_
 refine jp ?_
 rcases zp h with ⟨hc6,h⟩| ⟨hc6,h⟩
 ·
  refine jT hc6 ?_
  refine jp ?_
  obtain rfl:=sj h
  exact zA lzz
 refine jF hc6 ?_
 refine jp ?_
 obtain rfl:=sj h
 exact zA lzz
theorem zsB {m:zi} {number:Int} {r:Int} (h:ziH m number=some r):FnOk Tryz.prog 135 [.rc zj [0] m,kI number] [kI r]:=by
 refine zD (E:=⟨[(4,kI r)],[]⟩) 9 Tryz.func135 rfl rfl rfl ⟨rfl,trivial⟩ (fun Xt=>?_)
 refine zv ?_
 unfold ziH at h
 refine jr (ra 0 [.rc zj [0] m] rfl (zcQ 11 [kS m.Name,.sl zd [0] m.Fields] [0] rfl rfl rfl rfl rfl) rfl (rfl' [916200])) ?_
 obtain ⟨rv,h_rv,h⟩:=bnd h
 refine jr (ra 2 [.ptr 916200 0] rfl (zyA (g:=162) [.tmp 3] [⟨916200,3,[kI number]⟩] [.ep (Rp.int .i64) [916200] number 0] rfl ⟨⟨rfl,rfl,rfl⟩,trivial⟩ rfl) rfl (rl 0 [0,916200] 10 Tryz.call117 (zcT h_rv) rf)) ?_
 obtain rfl:=sj h
 exact zA lzz
theorem zva {k:Int} {wire:Int} {r:Bool} (h:zkd k wire=some r):FnOk Tryz.prog 137 [kI k,kI wire] [kB r]:=by
 refine zD (E:=⟨[(4,kB r)],[]⟩) 19 Tryz.func137 rfl rfl rfl ⟨rfl,trivial⟩ (fun Xt=>?_)
 refine zv ?_
 unfold zkd at h
 refine jp ?_
 obtain ⟨rv,h_rv,h⟩:=bnd h
 refine jr (rl 1 [1] 9 Tryz.call163 (znz h_rv) rf) ?_
 refine zap ⟨[(4,kB ((rv.2==0)&&(rv.1==wire)))],[]⟩ ?_ ?_
 ·
  refine (rsl 3 [] 14 (rv.2==0) (fun hc1=>?_) (fun hc1=>?_))
  · exact (rbl [] 4 (rv.1==wire) ((rv.2==0)&&(rv.1==wire)) (by rw [hc1]<;>rfl))
  exact (rbl [] 4 false ((rv.2==0)&&(rv.1==wire)) (by rw [hc1]<;>rfl))
 obtain rfl:=sj h
 exact zA lzz
theorem zje {k:Int} {wv:Int} {r:(Int×Int)} (h:zfM k wv=some r):FnOk Tryz.prog 107 [kI k,kU wv] [kU r.1,k8 r.2]:=by
 refine zD (E:=⟨[(4,kU r.1),(5,k8 r.2)],[]⟩) 34 Tryz.func107 rfl rfl rfl ⟨rfl,rfl,trivial⟩ (fun Xt=>?_)
 refine zv ?_
 unfold zfM at h
 refine jp ?_
 refine jp ?_
 refine zH ?_
 refine jp ?_
 obtain ⟨p,h_p,h⟩:=bnd h
 refine zfk (R:=fun e a w=>e= .normal∧Sx ⟨⟨34,[]⟩,Xt,false,#[]⟩ ⟨[(1,kU wv),(6,kI k),(7,kB p)],[]⟩ a w) ?_ ?_
 ·
  replace h:=h_p
  refine zv ?_
  rcases zp h with ⟨hc1,h⟩| ⟨hc1,h⟩
  ·
   refine jT hc1 ?_
   obtain rfl:=sj h
   exact zae lzz
  refine jF hc1 ?_
  refine jp ?_
  obtain rfl:=sj h
  exact zae lzz
 refine zhK ?_
 rcases zp h with ⟨hc2,h⟩| ⟨hc2,h⟩
 ·
  refine jT hc2 ?_
  obtain ⟨rv,h_rv,h⟩:=bnd h
  obtain ⟨rv2,h_rv2,h⟩:=bnd h
  refine jr (rl 1 [1] 9 Tryz.call129 (zqI h_rv) (rl 0 [1] 9 Tryz.call128 (zqJ h_rv2) rf)) ?_
  obtain rfl:=sj h
  exact zA lzz
 refine jF hc2 ?_
 refine jp ?_
 obtain ⟨p2,h_p2,h⟩:=bnd h
 refine zfk (R:=fun e a w=>e= .normal∧Sx ⟨⟨34,[]⟩,Xt,false,#[]⟩ ⟨[(1,kU wv),(6,kI k),(13,kB p2)],[]⟩ a w) ?_ ?_
 ·
  replace h:=h_p2
  refine zv ?_
  rcases zp h with ⟨hc3,h⟩| ⟨hc3,h⟩
  ·
   refine jT hc3 ?_
   obtain rfl:=sj h
   exact zae lzz
  refine jF hc3 ?_
  refine jp ?_
  rcases zp h with ⟨hc4,h⟩| ⟨hc4,h⟩
  ·
   refine jT hc4 ?_
   obtain rfl:=sj h
   exact zae lzz
  refine jF hc4 ?_
  refine jp ?_
  rcases zp h with ⟨hc5,h⟩| ⟨hc5,h⟩
  ·
   refine jT hc5 ?_
   obtain rfl:=sj h
   exact zae lzz
  refine jF hc5 ?_
  refine jp ?_
  rcases zp h with ⟨hc6,h⟩| ⟨hc6,h⟩
  ·
   refine jT hc6 ?_
   obtain rfl:=sj h
   exact zae lzz
  refine jF hc6 ?_
  refine jp ?_
  obtain rfl:=sj h
  exact zae lzz
 refine zhK ?_
 rcases zp h with ⟨hc7,h⟩| ⟨hc7,h⟩
 ·
  refine jT hc7 ?_
  obtain ⟨rv3,h_rv3,h⟩:=bnd h
  refine jr (rl 1 [1] 9 Tryz.call130 (zmr h_rv3) rf) ?_
  obtain rfl:=sj h
  exact zA lzz
 refine jF hc7 ?_
 refine jp ?_
 rcases zp h with ⟨hc8,h⟩| ⟨hc8,h⟩
 ·
  refine jT hc8 ?_
  obtain ⟨rv4,h_rv4,h⟩:=bnd h
  refine jr (rl 1 [1] 9 Tryz.call131 (zst h_rv4) rf) ?_
  obtain rfl:=sj h
  exact zA lzz
 refine jF hc8 ?_
 refine jp ?_
 obtain ⟨p3,h_p3,h⟩:=bnd h
 refine zfk (R:=fun e a w=>e= .normal∧Sx ⟨⟨34,[]⟩,Xt,false,#[]⟩ ⟨[(1,kU wv),(26,kB p3)],[]⟩ a w) ?_ ?_
 ·
  replace h:=h_p3
  refine zv ?_
  rcases zp h with ⟨hc9,h⟩| ⟨hc9,h⟩
  ·
   refine jT hc9 ?_
   obtain rfl:=sj h
   exact zae lzz
  refine jF hc9 ?_
  refine jp ?_
  rcases zp h with ⟨hc10,h⟩| ⟨hc10,h⟩
  ·
   refine jT hc10 ?_
   obtain rfl:=sj h
   exact zae lzz
  refine jF hc10 ?_
  refine jp ?_
  rcases zp h with ⟨hc11,h⟩| ⟨hc11,h⟩
  ·
   refine jT hc11 ?_
   obtain rfl:=sj h
   exact zae lzz
  refine jF hc11 ?_
  refine jp ?_
  rcases zp h with ⟨hc12,h⟩| ⟨hc12,h⟩
  ·
   refine jT hc12 ?_
   obtain rfl:=sj h
   exact zae lzz
  refine jF hc12 ?_
  refine jp ?_
  rcases zp h with ⟨hc13,h⟩| ⟨hc13,h⟩
  ·
   refine jT hc13 ?_
   obtain rfl:=sj h
   exact zae lzz
  refine jF hc13 ?_
  refine jp ?_
  obtain rfl:=sj h
  exact zae lzz
 refine zhK ?_
 rcases zp h with ⟨hc14,h⟩| ⟨hc14,h⟩
 ·
  refine jT hc14 ?_
  refine jp ?_
  obtain rfl:=sj h
  exact zA lzz
 refine jF hc14 ?_
 refine zau ?_
 refine jp ?_
 obtain rfl:=sj h
 exact zA lzz
theorem zuI {wide:Int} {b:(List UInt8)} {r:(Int×Int)} (h:zjM wide b=some r):FnOk Tryz.prog 172 [kI wide,.sl Rp.byte [0] b] [kI r.1,k8 r.2]:=by
 refine zD (E:=⟨[(4,kI r.1),(5,k8 r.2)],[]⟩) 19 Tryz.func172 rfl rfl rfl ⟨rfl,rfl,trivial⟩ (fun Xt=>?_)
 refine zv ?_
 unfold zjM at h
 refine jp ?_
 refine zH ?_
 refine jp ?_
 rcases zp h with ⟨hc1,h⟩| ⟨hc1,h⟩
 ·
  refine jT hc1 ?_
  obtain ⟨rv,h_rv,h⟩:=bnd h
  refine jr (rl 1 [0] 9 Tryz.call154 (zlN h_rv) rf) ?_
  obtain rfl:=sj h
  exact zA lzz
 refine jF hc1 ?_
 refine jp ?_
 rcases zp h with ⟨hc2,h⟩| ⟨hc2,h⟩
 ·
  refine jT hc2 ?_
  refine jp ?_
  obtain rfl:=sj h
  exact zA lzz
 refine jF hc2 ?_
 refine zau ?_
 refine jp ?_
 obtain rfl:=sj h
 exact zA lzz
theorem zwy {b:(List UInt8)} {r:(Int×Int)} (h:zlJ b=some r):FnOk Tryz.prog 160 [.sl Rp.byte [0] b] [kI r.1,kI r.2]:=by
 refine zD (E:=⟨[(2,kI r.1),(3,kI r.2)],[]⟩) 20 Tryz.func160 rfl rfl rfl ⟨rfl,rfl,trivial⟩ (fun Xt=>?_)
 refine zv ?_
 unfold zlJ at h
 refine jp ?_
 obtain ⟨rv,h_rv,h⟩:=bnd h
 refine jr (rl 1 [0] 9 Tryz.call175 (zpK h_rv) rf) ?_
 refine zH ?_
 obtain ⟨q,h_q,h⟩:=bnd h
 refine zaQ (fun s:(Int×Int×Int)=>zdm b s.1 s.2.1 s.2.2) (fun s=>⟨[(0,.sl Rp.byte [0] b),(2,kI s.1),(3,kI s.2.1),(4,kI s.2.2)],[]⟩) (fun o e a w=>e= .exit 0∧Sx ⟨⟨20,[]⟩,Xt,false,#[]⟩ ⟨[(2,kI o.1),(3,kI o.2)],[]⟩ a w) ?_ h_q lzz ?_
 ·
  clear h
  intro s o h
  obtain ⟨atv,points,size⟩:=s
  refine zv ?_
  replace h:zdm b atv points size=some o:=h
  unfold zdm at h
  refine jp ?_
  rcases zp h with ⟨hc1,h⟩| ⟨hc1,h⟩
  ·
   refine jT hc1 ?_
   refine zH ?_
   refine jp ?_
   refine jp ?_
   refine zau ?_
   obtain ⟨v,h_v,h⟩:=bnd h
   obtain ⟨rv2,h_rv2,h⟩:=bnd h
   refine jr (ra 2 [.sl Rp.byte [0] b,kI (IntKind.i64.wrap (atv+size))] rfl (zfN (some (kI (IntKind.i64.wrap (atv+size)))) none rfl zeq.el (zaa _ _ _) ⟨rfl,rfl⟩ ⟨rfl,rfl⟩ h_v) rfl (rl 0 [0] 10 Tryz.call175 (zpK h_rv2) rf)) ?_
   obtain rfl:=sj h
   exact zae lzz
  refine jF hc1 ?_
  obtain rfl:=sj h
  exact zaO rfl lzz
 refine zbx _ rfl ?_
 refine jp ?_
 obtain rfl:=sj h
 exact zA lzz
theorem zpS {k:Int} {b:(List UInt8)} {r:(Int×Int)} (h:zgt k b=some r):FnOk Tryz.prog 173 [kI k,.sl Rp.byte [0] b] [kU r.1,k8 r.2]:=by
 refine zD (E:=⟨[(4,kU r.1),(5,k8 r.2)],[]⟩) 31 Tryz.func173 rfl rfl rfl ⟨rfl,rfl,trivial⟩ (fun Xt=>?_)
 refine zv ?_
 unfold zgt at h
 refine jp ?_
 obtain ⟨rv,h_rv,h⟩:=bnd h
 refine jr (rl 1 [1] 9 Tryz.call178 (zkH h_rv) rf) ?_
 refine zH ?_
 refine jp ?_
 rcases zp h with ⟨hc1,h⟩| ⟨hc1,h⟩
 ·
  refine jT hc1 ?_
  refine jp ?_
  obtain rfl:=sj h
  exact zA lzz
 refine jF hc1 ?_
 refine jp ?_
 rcases zp h with ⟨hc2,h⟩| ⟨hc2,h⟩
 ·
  refine jT hc2 ?_
  obtain ⟨rv2,h_rv2,h⟩:=bnd h
  refine jr (rl 1 [0] 9 Tryz.call179 (zpT h_rv2) rf) ?_
  obtain rfl:=sj h
  exact zA lzz
 refine jF hc2 ?_
 refine jp ?_
 rcases zp h with ⟨hc3,h⟩| ⟨hc3,h⟩
 ·
  refine jT hc3 ?_
  refine jp ?_
  obtain rfl:=sj h
  exact zA lzz
 refine jF hc3 ?_
 refine zau ?_
 obtain ⟨rv3,h_rv3,h⟩:=bnd h
 refine jr (rl 1 [0] 9 Tryz.call180 (ztV h_rv3) rf) ?_
 obtain rfl:=sj h
 exact zA lzz
theorem zkw {fuel:Nat} {x:ze} {r:Bool} (h:zha fuel x=some r):FnOk Tryz.prog 48 [.rc zf [0] x] [kB r]:=by
 refine zD (E:=⟨[(2,kB r)],[]⟩) 6 Tryz.func48 rfl rfl rfl ⟨rfl,trivial⟩ (fun Xt=>?_)
 refine zv ?_
 unfold zha at h
 refine jr (ra 0 [.rc zf [0] x] rfl (zcQ 11 [.sl za [0] x.Values,.sl Rp.str [0] x.Unknown] [0] rfl rfl rfl (by rw [zE]<;>rfl) rfl) rfl rf) ?_
 obtain ⟨rv,h_rv,h⟩:=bnd h
 refine jr (rc 1 rfl (zL.le (ins':=[(.tmp 3,.ag [.sl za [0] x.Values,.sl Rp.str [0] x.Unknown])]) (zbl (args:=[.tmp 3]) [.rc zf [0] x] [0] 10 rfl Tryz.call14 (zjk h_rv) rfl rfl rfl rfl rfl) ⟨⟨rfl,zbk zf [0] x [.sl za [0] x.Values,.sl Rp.str [0] x.Unknown] (by rw [zE]<;>rfl) rfl⟩,trivial⟩) rf) ?_
 obtain rfl:=sj h
 exact zA lzz
theorem zfP {m:zi} {v:Int} {r:(Int×Bool)} (h:zbG m v=some r):FnOk Tryz.prog 96 [.rc zj [0] m,.fv 97 [.ep (Rp.int .i64) [0] v 0]] [kI r.1,kB r.2]:=by
 refine zD (E:=⟨[(4,kI r.1),(5,kB r.2)],[]⟩) 15 Tryz.func96 rfl rfl rfl ⟨rfl,rfl,trivial⟩ (fun Xt=>?_)
 refine zv ?_
 unfold zbG at h
 refine jr (ra 0 [.rc zj [0] m] rfl (zcQ 11 [kS m.Name,.sl zd [0] m.Fields] [0] rfl rfl rfl rfl rfl) rfl rf) ?_
 obtain ⟨rv,h_rv,h⟩:=bnd h
 refine jr (rl 3 [0] 10 Tryz.call117 (zcx h_rv) rf) ?_
 refine jp ?_
 obtain rfl:=sj h
 exact zA lzz
end Go.Proofs.YtcbkcblkecmjnaaGreat
