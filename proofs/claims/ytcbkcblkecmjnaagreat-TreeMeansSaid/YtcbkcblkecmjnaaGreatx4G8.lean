/-
  The Go functions do what the plain functions say. No condition.
-/
import Derived.Test.YtcbkcblkecmjnaaGreatx4G7
namespace Go.Proofs.YtcbkcblkecmjnaaGreat
open Go Go.RowKit
set_option linter.unusedVariables false
set_option maxRecDepth 100000
set_option maxHeartbeats 3200000
theorem zkP {c:zaD} {message:Int} {f:zc} {r:(Int×(List (zn×Bool))×(List (zo×Bool)))} (h:zdt c message f=some r):zgl Tryz.prog 105 [.ag [kI c.size,.sl (Rp.int .i64) [0] c.kinds,.om zr Rp.bool 2 [0] c.names,.om zq Rp.bool 3 [0] c.numbers],kI message,.rc zd [0] f] [kI r.1] [.ag [.any,.any,.om zr Rp.bool 2 [0] r.2.1,.om zq Rp.bool 3 [0] r.2.2],.any,.any]:=by
 refine zic (E:=⟨[(0,.ag [.any,.any,.om zr Rp.bool 2 [0] r.2.1,.om zq Rp.bool 3 [0] r.2.2]),(6,kI r.1)],[]⟩) 63 [0] Tryz.func105 rfl rfl rfl ⟨rfl,trivial⟩ ⟨.inr ⟨rfl,rfl⟩,.inl rfl,.inl rfl,trivial⟩ rfl (fun Xt old=>?_)
 refine zv ?_
 unfold zdt at h
 refine jq [11,12] ?_
 refine jd [0,3,5,7,8] [11,12,13,14] zdz (by exact (lw_e (lw_e (lw_e (lx (zam (r:=zr) [kI message,kS f.Name] [] (⟨message,f.Name⟩:zn) rfl zCb rfl rfl) (lw_e (lw_e (lw_e (lx (zam (r:=zq) [kI message,kI f.Number] [] (⟨message,f.Number⟩:zo) rfl zEx rfl rfl) (lx (zjC 13 [kI 0,kS []] rfl Tryz.zeroValue209 rfl) (lx (zjC 14 [kI 0,kI 0] rfl Tryz.zeroValue211 rfl) (ly [.ptr 13 0,.rc zr [] (⟨message,f.Name⟩:zn)] (zeY (r:=zr) (b:=⟨13,209,[kI 0,kS []]⟩) (off:=0) [kI message,kS f.Name] rfl Tryz.sizeOf209 rfl rfl rfl rfl) rfl (ly [.ptr 14 0,.rc zq [] (⟨message,f.Number⟩:zo)] (zeY (r:=zq) (b:=⟨14,211,[kI 0,kI 0]⟩) (off:=0) [kI message,kI f.Number] rfl Tryz.sizeOf211 rfl rfl rfl rfl) rfl l0))))))))))))) ?_
 refine zH ?_
 obtain ⟨rv,h_rv,h⟩:=bnd h
 refine jr (rl 2 [1] 13 Tryz.call122 (zjP h_rv) rf) ?_
 rcases zp h with ⟨hc1,h⟩| ⟨hc1,h⟩
 ·
  refine jT hc1 ?_
  refine jp ?_
  obtain rfl:=sj h
  refine zeQ ?_
  refine zbC ⟨[(0,.ag [kI c.size,.sl (Rp.int .i64) [0] c.kinds,.om zr Rp.bool 2 [0] c.names,.om zq Rp.bool 3 [0] c.numbers]),(6,kI 5)],[]⟩ (by kernel_rfl) ?_
  refine zcf 0 (.ag [.any,.any,.om zr Rp.bool 2 [0] ((5,c.names,c.numbers):(Int×(List (zn×Bool))×(List (zo×Bool)))).2.1,.om zq Rp.bool 3 [0] ((5,c.names,c.numbers):(Int×(List (zn×Bool))×(List (zo×Bool)))).2.2]) rfl (zfp ⟨zbe _,zbe _,AV.le_refl _,AV.le_refl _,trivial⟩) ?_
  exact lzz
 refine jF hc1 ?_
 refine jr (lb 2 zr [] (⟨message,f.Name⟩:zn) (ra 0 [.om zr Rp.bool 2 [0] c.names,.rc zr [] (⟨message,f.Name⟩:zn)] rfl (zqk (rk:=zr) (rv:=Rp.bool) (m:=c.names) (k:=(⟨message,f.Name⟩:zn)) (kB ((mget c.names (⟨message,f.Name⟩:zn)).getD false)) rfl zqm (zkh _ _ _ _ _) (zck rfl) (zug rfl rfl rfl)) rfl rf)) ?_
 rcases zp h with ⟨hc2,h⟩| ⟨hc2,h⟩
 ·
  refine jT hc2 ?_
  refine jp ?_
  obtain rfl:=sj h
  refine zeQ ?_
  refine zbC ⟨[(0,.ag [kI c.size,.sl (Rp.int .i64) [0] c.kinds,.om zr Rp.bool 2 [0] c.names,.om zq Rp.bool 3 [0] c.numbers]),(6,kI 6)],[]⟩ (by kernel_rfl) ?_
  refine zcf 0 (.ag [.any,.any,.om zr Rp.bool 2 [0] ((6,c.names,c.numbers):(Int×(List (zn×Bool))×(List (zo×Bool)))).2.1,.om zq Rp.bool 3 [0] ((6,c.names,c.numbers):(Int×(List (zn×Bool))×(List (zo×Bool)))).2.2]) rfl (zfp ⟨zbe _,zbe _,AV.le_refl _,AV.le_refl _,trivial⟩) ?_
  exact lzz
 refine jF hc2 ?_
 obtain ⟨rv2,h_rv2,h⟩:=bnd h
 refine jr (rl 2 [1] 13 Tryz.call123 (zmX h_rv2) rf) ?_
 rcases zp h with ⟨hc3,h⟩| ⟨hc3,h⟩
 ·
  refine jT hc3 ?_
  refine jp ?_
  obtain rfl:=sj h
  refine zeQ ?_
  refine zbC ⟨[(0,.ag [kI c.size,.sl (Rp.int .i64) [0] c.kinds,.om zr Rp.bool 2 [0] c.names,.om zq Rp.bool 3 [0] c.numbers]),(6,kI 7)],[]⟩ (by kernel_rfl) ?_
  refine zcf 0 (.ag [.any,.any,.om zr Rp.bool 2 [0] ((7,c.names,c.numbers):(Int×(List (zn×Bool))×(List (zo×Bool)))).2.1,.om zq Rp.bool 3 [0] ((7,c.names,c.numbers):(Int×(List (zn×Bool))×(List (zo×Bool)))).2.2]) rfl (zfp ⟨zbe _,zbe _,AV.le_refl _,AV.le_refl _,trivial⟩) ?_
  exact lzz
 refine jF hc3 ?_
 refine jr (lb 2 zq [] (⟨message,f.Number⟩:zo) (ra 0 [.om zq Rp.bool 3 [0] c.numbers,.rc zq [] (⟨message,f.Number⟩:zo)] rfl (zqk (rk:=zq) (rv:=Rp.bool) (m:=c.numbers) (k:=(⟨message,f.Number⟩:zo)) (kB ((mget c.numbers (⟨message,f.Number⟩:zo)).getD false)) rfl zyE (zkh _ _ _ _ _) (zck rfl) (zug rfl rfl rfl)) rfl rf)) ?_
 rcases zp h with ⟨hc4,h⟩| ⟨hc4,h⟩
 ·
  refine jT hc4 ?_
  refine jp ?_
  obtain rfl:=sj h
  refine zeQ ?_
  refine zbC ⟨[(0,.ag [kI c.size,.sl (Rp.int .i64) [0] c.kinds,.om zr Rp.bool 2 [0] c.names,.om zq Rp.bool 3 [0] c.numbers]),(6,kI 8)],[]⟩ (by kernel_rfl) ?_
  refine zcf 0 (.ag [.any,.any,.om zr Rp.bool 2 [0] ((8,c.names,c.numbers):(Int×(List (zn×Bool))×(List (zo×Bool)))).2.1,.om zq Rp.bool 3 [0] ((8,c.names,c.numbers):(Int×(List (zn×Bool))×(List (zo×Bool)))).2.2]) rfl (zfp ⟨zbe _,zbe _,AV.le_refl _,AV.le_refl _,trivial⟩) ?_
  exact lzz
 refine jF hc4 ?_
 obtain ⟨rv3,h_rv3,h⟩:=bnd h
 refine jr (rl 4 [0] 13 Tryz.call124 (zhB h_rv3) rf) ?_
 rcases zp h with ⟨hc5,h⟩| ⟨hc5,h⟩
 ·
  refine jT hc5 ?_
  refine jp ?_
  obtain rfl:=sj h
  refine zeQ ?_
  refine zbC ⟨[(0,.ag [kI c.size,.sl (Rp.int .i64) [0] c.kinds,.om zr Rp.bool 2 [0] c.names,.om zq Rp.bool 3 [0] c.numbers]),(6,kI 9)],[]⟩ (by kernel_rfl) ?_
  refine zcf 0 (.ag [.any,.any,.om zr Rp.bool 2 [0] ((9,c.names,c.numbers):(Int×(List (zn×Bool))×(List (zo×Bool)))).2.1,.om zq Rp.bool 3 [0] ((9,c.names,c.numbers):(Int×(List (zn×Bool))×(List (zo×Bool)))).2.2]) rfl (zfp ⟨zbe _,zbe _,AV.le_refl _,AV.le_refl _,trivial⟩) ?_
  exact lzz
 refine jF hc5 ?_
 obtain ⟨g,h_g,h⟩:=bnd h
 refine zap ⟨[(0,.ag [kI c.size,.sl (Rp.int .i64) [0] c.kinds,.om zr Rp.bool 2 [0] c.names,.om zq Rp.bool 3 [0] c.numbers]),(3,.ptr 11 0),(5,.ptr 12 0),(7,.ptr 13 0),(8,.ptr 14 0),(44,kB g)],[⟨11,174,[kI c.size,.sl (Rp.int .i64) [0] c.kinds,.om zr Rp.bool 2 [0] c.names,.om zq Rp.bool 3 [0] c.numbers]⟩,⟨12,64,[kS f.Name,kI f.Number,kI f.Kind,kB f.Repeated,kB f.Packed,kI f.Of]⟩,⟨13,209,[kI message,kS f.Name]⟩,⟨14,211,[kI message,kI f.Number]⟩]⟩ ?_ ?_
 ·
  refine (rsl 3 [] 47 f.Packed (fun hc6=>?_) (fun hc6=>?_))
  ·
   replace h_g:=iteT h_g hc6
   obtain ⟨rv4,h_rv4,h_g⟩:=bnd h_g
   obtain rfl:=sj h_g
   exact (lb 0 zd [] f (rl 0 [1] 13 Tryz.call125 (znV h_rv4) (rel [] lzz)))
  replace h_g:=iteF h_g hc6
  obtain rfl:=sj h_g
  exact (rel [] lzz)
 rcases zp h with ⟨hc7,h⟩| ⟨hc7,h⟩
 ·
  refine jT hc7 ?_
  refine jp ?_
  obtain rfl:=sj h
  refine zeQ ?_
  refine zbC ⟨[(0,.ag [kI c.size,.sl (Rp.int .i64) [0] c.kinds,.om zr Rp.bool 2 [0] c.names,.om zq Rp.bool 3 [0] c.numbers]),(6,kI 10)],[]⟩ (by kernel_rfl) ?_
  refine zcf 0 (.ag [.any,.any,.om zr Rp.bool 2 [0] ((10,c.names,c.numbers):(Int×(List (zn×Bool))×(List (zo×Bool)))).2.1,.om zq Rp.bool 3 [0] ((10,c.names,c.numbers):(Int×(List (zn×Bool))×(List (zo×Bool)))).2.2]) rfl (zfp ⟨zbe _,zbe _,AV.le_refl _,AV.le_refl _,trivial⟩) ?_
  exact lzz
 refine jF hc7 ?_
 obtain ⟨rv5,h_rv5,h⟩:=bnd h
 refine jr (lb 1 zd [] f (rl 0 [0,2,3] 13 Tryz.call126 (zkQ h_rv5) rf)) ?_
 rcases zp h with ⟨hc8,h⟩| ⟨hc8,h⟩
 ·
  refine jT hc8 ?_
  refine jp ?_
  obtain rfl:=sj h
  refine zeQ ?_
  refine zbC ⟨[(0,.ag [kI c.size,.sl (Rp.int .i64) [0] c.kinds,.om zr Rp.bool 2 [0] c.names,.om zq Rp.bool 3 [0] c.numbers]),(6,kI 11)],[]⟩ (by kernel_rfl) ?_
  refine zcf 0 (.ag [.any,.any,.om zr Rp.bool 2 [0] ((11,c.names,c.numbers):(Int×(List (zn×Bool))×(List (zo×Bool)))).2.1,.om zq Rp.bool 3 [0] ((11,c.names,c.numbers):(Int×(List (zn×Bool))×(List (zo×Bool)))).2.2]) rfl (zfp ⟨zbe _,zbe _,AV.le_refl _,AV.le_refl _,trivial⟩) ?_
  exact lzz
 refine jF hc8 ?_
 refine zau ?_
 refine jr (lb 2 zr [] (⟨message,f.Name⟩:zn) (rkl 0 [] ⟨[(0,.ag [kI c.size,.sl (Rp.int .i64) [0] c.kinds,.om zr Rp.bool 2 [0] c.names,.om zq Rp.bool 3 [0] c.numbers]),(3,.ptr 11 0),(8,.ptr 14 0),(58,.om zr Rp.bool 2 [0] c.names),(59,.rc zr [] (⟨message,f.Name⟩:zn))],[⟨11,174,[kI c.size,.sl (Rp.int .i64) [0] c.kinds,.om zr Rp.bool 2 [0] c.names,.om zq Rp.bool 3 [0] c.numbers]⟩,⟨14,211,[kI message,kI f.Number]⟩]⟩ (zeU ⟨[(0,.ag [kI c.size,.sl (Rp.int .i64) [0] c.kinds,.om zr Rp.bool 2 [0] (mput c.names (⟨message,f.Name⟩:zn) true),.om zq Rp.bool 3 [0] c.numbers]),(3,.ptr 11 0),(8,.ptr 14 0),(58,.om zr Rp.bool 2 [0] (mput c.names (⟨message,f.Name⟩:zn) true)),(59,.rc zr [] (⟨message,f.Name⟩:zn))],[⟨11,174,[kI c.size,.sl (Rp.int .i64) [0] c.kinds,.om zr Rp.bool 2 [0] (mput c.names (⟨message,f.Name⟩:zn) true),.om zq Rp.bool 3 [0] c.numbers]⟩,⟨14,211,[kI message,kI f.Number]⟩]⟩ (znZ (rk:=zr) (rv:=Rp.bool) (m:=c.names) (ℓ:=2) (C:=[0]) (C1:=[]) (D:=[]) (⟨message,f.Name⟩:zn) true [0] zqm (.inl rfl) (zck rfl) (zdf rfl rfl) rfl) rfl (by kernel_rfl) (by kernel_rfl) ⟨⟨_,rfl,zjR ⟨zt rfl,zt rfl,zcU 0 rfl,zt rfl,trivial⟩⟩,⟨_,rfl,zt rfl⟩,⟨_,rfl,zt rfl⟩,⟨_,rfl,zcU 0 rfl⟩,⟨_,rfl,zt rfl⟩,trivial⟩ ⟨⟨_,rfl,rfl,rfl,⟨zt rfl,zt rfl,zcU 0 rfl,zt rfl,trivial⟩⟩,⟨_,rfl,rfl,rfl,⟨zt rfl,zt rfl,trivial⟩⟩,trivial⟩ rf))) ?_
 refine jr (lb 2 zq [] (⟨message,f.Number⟩:zo) (rkl 0 [] ⟨[(0,.ag [kI c.size,.sl (Rp.int .i64) [0] c.kinds,.om zr Rp.bool 2 [0] (mput c.names (⟨message,f.Name⟩:zn) true),.om zq Rp.bool 3 [0] c.numbers]),(61,.om zq Rp.bool 3 [0] c.numbers),(62,.rc zq [] (⟨message,f.Number⟩:zo))],[]⟩ (zeU ⟨[(0,.ag [kI c.size,.sl (Rp.int .i64) [0] c.kinds,.om zr Rp.bool 2 [0] (mput c.names (⟨message,f.Name⟩:zn) true),.om zq Rp.bool 3 [0] (mput c.numbers (⟨message,f.Number⟩:zo) true)]),(61,.om zq Rp.bool 3 [0] (mput c.numbers (⟨message,f.Number⟩:zo) true)),(62,.rc zq [] (⟨message,f.Number⟩:zo))],[]⟩ (znZ (rk:=zq) (rv:=Rp.bool) (m:=c.numbers) (ℓ:=3) (C:=[0]) (C1:=[]) (D:=[]) (⟨message,f.Number⟩:zo) true [0] zyE (.inl rfl) (zck rfl) (zdf rfl rfl) rfl) rfl (by kernel_rfl) (by kernel_rfl) ⟨⟨_,rfl,zjR ⟨zt rfl,zt rfl,zt rfl,zcU 0 rfl,trivial⟩⟩,⟨_,rfl,zcU 0 rfl⟩,⟨_,rfl,zt rfl⟩,trivial⟩ trivial rf))) ?_
 refine jp ?_
 obtain rfl:=sj h
 refine zeQ ?_
 refine zbC ⟨[(0,.ag [kI c.size,.sl (Rp.int .i64) [0] c.kinds,.om zr Rp.bool 2 [0] (mput c.names (⟨message,f.Name⟩:zn) true),.om zq Rp.bool 3 [0] (mput c.numbers (⟨message,f.Number⟩:zo) true)]),(6,kI 0)],[]⟩ (by kernel_rfl) ?_
 refine zcf 0 (.ag [.any,.any,.om zr Rp.bool 2 [0] ((0,(mput c.names (⟨message,f.Name⟩:zn) true),(mput c.numbers (⟨message,f.Number⟩:zo) true)):(Int×(List (zn×Bool))×(List (zo×Bool)))).2.1,.om zq Rp.bool 3 [0] ((0,(mput c.names (⟨message,f.Name⟩:zn) true),(mput c.numbers (⟨message,f.Number⟩:zo) true)):(Int×(List (zn×Bool))×(List (zo×Bool)))).2.2]) rfl (zfp ⟨zbe _,zbe _,AV.le_refl _,AV.le_refl _,trivial⟩) ?_
 exact lzz
theorem zsg {m:zi} {hv:zM} {r:zQ} (h:zgf m hv=some r):FnOk Tryz.prog 111 [.rc zj [0] m,.rc zT [0] hv] [.rc zV [] r]:=by
 refine zD (E:=⟨[(4,.ptr 2 0)],[⟨2,185,[kI r.field,kB r.run,k8 r.e]⟩]⟩) 38 Tryz.func111 rfl rfl rfl ⟨⟨_,_,rfl,rfl,rfl,rfl,⟨Tryz.isAgg185,Tryz.sizeOf185⟩⟩,trivial⟩ (fun Xt=>?_)
 refine zv ?_
 unfold zgf at h
 refine jr (ra 0 [.rc zj [0] m] rfl (zcQ 14 [kS m.Name,.sl zd [0] m.Fields] [0] rfl rfl rfl rfl rfl) rfl (rfl' [15,16])) ?_
 obtain ⟨rv,h_rv,h⟩:=bnd h
 refine jr (rl 3 [0] 15 Tryz.call135 (zsB h_rv) rf) ?_
 refine jp ?_
 rcases zp h with ⟨hc1,h⟩| ⟨hc1,h⟩
 ·
  refine jT hc1 ?_
  refine jr (rc 0 rfl (zam (r:=zV) [kI (-1)] [] (⟨(-1),false,0⟩:zQ) rfl zxK rfl rfl) rf) ?_
  obtain rfl:=sj h
  refine zA ?_
  refine lk [4] [16] 16 2 ?_
  exact lzz
 refine jF hc1 ?_
 obtain ⟨x,h_x,h⟩:=bnd h
 refine jr (ra 3 [.sl zd [0] m.Fields,kI rv] rfl (zby rfl zmD.el (zaa _ _ _) h_x) rfl (ra 0 [.ep zd [0] x 0] rfl (zds rfl ⟨Tryz.isAgg64,Tryz.sizeOf64⟩) rfl (rfl' [17]))) ?_
 obtain ⟨rv2,h_rv2,h⟩:=bnd h
 refine jr (lb 0 zd [] x (rl 2 [1] 16 Tryz.call136 (zsC h_rv2) rf)) ?_
 obtain ⟨g,h_g,h⟩:=bnd h
 refine zap ⟨[(4,.ptr 16 0),(5,kI rv),(7,kB rv2),(33,kB g)],[⟨16,185,[kI 0,kB false,k8 0]⟩]⟩ ?_ ?_
 ·
  refine (rsl 3 [] 26 (!rv2) (fun hc2=>?_) (fun hc2=>?_))
  ·
   replace h_g:=iteT h_g hc2
   obtain ⟨rv3,h_rv3,h_g⟩:=bnd h_g
   obtain rfl:=sj h_g
   exact (rl 4 [1] 16 Tryz.call137 (zva h_rv3) (rel [] lzz))
  replace h_g:=iteF h_g hc2
  obtain rfl:=sj h_g
  exact (rel [] lzz)
 rcases zp h with ⟨hc3,h⟩| ⟨hc3,h⟩
 ·
  refine jT hc3 ?_
  refine jr (rc 0 rfl (zam (r:=zV) [k8 6] [] (⟨0,false,6⟩:zQ) rfl zxK rfl rfl) rf) ?_
  obtain rfl:=sj h
  refine zA ?_
  refine lk [4] [16] 16 2 ?_
  exact lzz
 refine jF hc3 ?_
 refine jr (rc 2 rfl (zam (r:=zV) [kI rv,kB rv2] [] (⟨rv,rv2,0⟩:zQ) rfl zxK rfl rfl) rf) ?_
 obtain rfl:=sj h
 refine zA ?_
 refine lk [4] [16] 16 2 ?_
 exact lzz
theorem zuJ {k:Int} {r:Int} (h:zjN k=some r):FnOk Tryz.prog 171 [kI k] [kI r]:=by
 refine zD (E:=⟨[(2,kI r)],[]⟩) 5 Tryz.func171 rfl rfl rfl ⟨rfl,trivial⟩ (fun Xt=>?_)
 refine zv ?_
 unfold zjN at h
 refine jp ?_
 obtain ⟨rv,h_rv,h⟩:=bnd h
 refine jr (rl 1 [1] 9 Tryz.call177 (zrI h_rv) rf) ?_
 obtain rfl:=sj h
 exact zA lzz
theorem zol {b:(List UInt8)} {r:Bool} (h:zhc b=some r):FnOk Tryz.prog 106 [.sl Rp.byte [0] b] [kB r]:=by
 refine zD (E:=⟨[(2,kB r)],[]⟩) 8 Tryz.func106 rfl rfl rfl ⟨rfl,trivial⟩ (fun Xt=>?_)
 refine zv ?_
 unfold zhc at h
 refine jp ?_
 obtain ⟨rv,h_rv,h⟩:=bnd h
 refine jr (rl 1 [0] 9 Tryz.call127 (zuY h_rv) rf) ?_
 obtain rfl:=sj h
 exact zA lzz
theorem zof {m:zi} {text:Str} {r:Bool} (h:zfe m text=some r):FnOk Tryz.prog 73 [.rc zj [0] m,kS text] [kB r]:=by
 refine zD (E:=⟨[(4,kB r)],[]⟩) 33 Tryz.func73 rfl rfl rfl ⟨rfl,trivial⟩ (fun Xt=>?_)
 refine zv ?_
 unfold zfe at h
 refine jr (ra 0 [.rc zj [0] m] rfl (zcQ 11 [kS m.Name,.sl zd [0] m.Fields] [0] rfl rfl rfl rfl rfl) rfl rf) ?_
 obtain ⟨v,h_v,h⟩:=bnd h
 obtain ⟨rv,h_rv,h⟩:=bnd h
 refine jr (ra 1 [kS text] rfl (zyB 12 rfl Tryz.underlying9 Tryz.underlying24 Tryz.underlying5 h_v) rfl (rl 0 [12] 11 Tryz.call98 (zix h_rv) (rfl' [13]))) ?_
 refine zap ⟨[(2,.ptr 11 0),(5,.ptr 13 0),(23,kB ((rv.2 !=0)|| (rv.1.To !=(text.length:Int))))],[⟨11,73,[kS m.Name,.sl zd [0] m.Fields]⟩,⟨13,111,[kI rv.1.Number,kI rv.1.Wire,kI rv.1.From,kI rv.1.At,kI rv.1.To]⟩]⟩ ?_ ?_
 ·
  refine (rsl 3 [] 17 (rv.2 !=0) (fun hc1=>?_) (fun hc1=>?_))
  · exact (rbl [] 23 true ((rv.2 !=0)|| (rv.1.To !=(text.length:Int))) (by rw [hc1]<;>rfl))
  exact (rbl [] 23 (rv.1.To !=(text.length:Int)) ((rv.2 !=0)|| (rv.1.To !=(text.length:Int))) (by rw [hc1]<;>rfl))
 rcases zp h with ⟨hc2,h⟩| ⟨hc2,h⟩
 ·
  refine jT hc2 ?_
  refine jp ?_
  obtain rfl:=sj h
  exact zA lzz
 refine jF hc2 ?_
 obtain ⟨rv2,h_rv2,h⟩:=bnd h
 refine jr (rl 3 [0] 12 Tryz.call72 (ziA h_rv2) rf) ?_
 refine jp ?_
 obtain rfl:=sj h
 exact zA lzz
end Go.Proofs.YtcbkcblkecmjnaaGreat
