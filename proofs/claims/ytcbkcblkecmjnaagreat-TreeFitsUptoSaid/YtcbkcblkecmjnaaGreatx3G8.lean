/-
  The Go functions do what the plain functions say. No condition.
-/
import Derived.Test.YtcbkcblkecmjnaaGreatx3G7
namespace Go.Proofs.YtcbkcblkecmjnaaGreat
open Go Go.RowKit
set_option linter.unusedVariables false
set_option maxRecDepth 100000
set_option maxHeartbeats 3200000
theorem zmp {c:zaI} {message:Int} {f:za} {r:(Int×(List (zo×Bool))×(List (zp×Bool)))} (h:zej c message f=some r):zhg Tryz.prog 105 [.ag [kI c.size,.sl (Rp.int .i64) [0] c.kinds,.om zu Rp.bool 2 [0] c.names,.om zt Rp.bool 3 [0] c.numbers],kI message,.rc zb [0] f] [kI r.1] [.ag [.any,.any,.om zu Rp.bool 2 [0] r.2.1,.om zt Rp.bool 3 [0] r.2.2],.any,.any]:=by
 refine ziV (E:=⟨[(0,.ag [.any,.any,.om zu Rp.bool 2 [0] r.2.1,.om zt Rp.bool 3 [0] r.2.2]),(6,kI r.1)],[]⟩) 63 [0] Tryz.func105 rfl rfl rfl ⟨rfl,trivial⟩ ⟨.inr ⟨rfl,rfl⟩,.inl rfl,.inl rfl,trivial⟩ rfl (fun Xt old=>?_)
 refine zr ?_
 unfold zej at h
 refine jq [11,12] ?_
 refine jd [0,3,5,7,8] [11,12,13,14] zcp (by exact (lw_e (lw_e (lw_e (lx (zV (r:=zu) [kI message,kS f.Name] [] (⟨message,f.Name⟩:zo) rfl zCJ rfl rfl) (lw_e (lw_e (lw_e (lx (zV (r:=zt) [kI message,kI f.Number] [] (⟨message,f.Number⟩:zp) rfl zFl rfl rfl) (lx (zoY 13 [kI 0,kS []] rfl Tryz.zeroValue209 rfl) (lx (zoY 14 [kI 0,kI 0] rfl Tryz.zeroValue211 rfl) (ly [.ptr 13 0,.rc zu [] (⟨message,f.Name⟩:zo)] (zjn (r:=zu) (b:=⟨13,209,[kI 0,kS []]⟩) (off:=0) [kI message,kS f.Name] rfl Tryz.sizeOf209 rfl rfl rfl rfl) rfl (ly [.ptr 14 0,.rc zt [] (⟨message,f.Number⟩:zp)] (zjn (r:=zt) (b:=⟨14,211,[kI 0,kI 0]⟩) (off:=0) [kI message,kI f.Number] rfl Tryz.sizeOf211 rfl rfl rfl rfl) rfl l0))))))))))))) ?_
 refine zz ?_
 obtain ⟨rv,h_rv,h⟩:=bnd h
 refine jr (rl 2 [1] 13 Tryz.call122 (zln h_rv) rf) ?_
 rcases zn h with ⟨hc1,h⟩| ⟨hc1,h⟩
 ·
  refine jT hc1 ?_
  refine jp ?_
  obtain rfl:=sj h
  refine zfL ?_
  refine zbU ⟨[(0,.ag [kI c.size,.sl (Rp.int .i64) [0] c.kinds,.om zu Rp.bool 2 [0] c.names,.om zt Rp.bool 3 [0] c.numbers]),(6,kI 5)],[]⟩ (by kernel_rfl) ?_
  refine zdM 0 (.ag [.any,.any,.om zu Rp.bool 2 [0] ((5,c.names,c.numbers):(Int×(List (zo×Bool))×(List (zp×Bool)))).2.1,.om zt Rp.bool 3 [0] ((5,c.names,c.numbers):(Int×(List (zo×Bool))×(List (zp×Bool)))).2.2]) rfl (zfT ⟨zbl _,zbl _,AV.le_refl _,AV.le_refl _,trivial⟩) ?_
  exact lzz
 refine jF hc1 ?_
 refine jr (lb 2 zu [] (⟨message,f.Name⟩:zo) (ra 0 [.om zu Rp.bool 2 [0] c.names,.rc zu [] (⟨message,f.Name⟩:zo)] rfl (zrt (rk:=zu) (rv:=Rp.bool) (m:=c.names) (k:=(⟨message,f.Name⟩:zo)) (kB ((mget c.names (⟨message,f.Name⟩:zo)).getD false)) rfl zrv (zlG _ _ _ _ _) (zcL rfl) (zvb rfl rfl rfl)) rfl rf)) ?_
 rcases zn h with ⟨hc2,h⟩| ⟨hc2,h⟩
 ·
  refine jT hc2 ?_
  refine jp ?_
  obtain rfl:=sj h
  refine zfL ?_
  refine zbU ⟨[(0,.ag [kI c.size,.sl (Rp.int .i64) [0] c.kinds,.om zu Rp.bool 2 [0] c.names,.om zt Rp.bool 3 [0] c.numbers]),(6,kI 6)],[]⟩ (by kernel_rfl) ?_
  refine zdM 0 (.ag [.any,.any,.om zu Rp.bool 2 [0] ((6,c.names,c.numbers):(Int×(List (zo×Bool))×(List (zp×Bool)))).2.1,.om zt Rp.bool 3 [0] ((6,c.names,c.numbers):(Int×(List (zo×Bool))×(List (zp×Bool)))).2.2]) rfl (zfT ⟨zbl _,zbl _,AV.le_refl _,AV.le_refl _,trivial⟩) ?_
  exact lzz
 refine jF hc2 ?_
 obtain ⟨rv2,h_rv2,h⟩:=bnd h
 refine jr (rl 2 [1] 13 Tryz.call123 (zox h_rv2) rf) ?_
 rcases zn h with ⟨hc3,h⟩| ⟨hc3,h⟩
 ·
  refine jT hc3 ?_
  refine jp ?_
  obtain rfl:=sj h
  refine zfL ?_
  refine zbU ⟨[(0,.ag [kI c.size,.sl (Rp.int .i64) [0] c.kinds,.om zu Rp.bool 2 [0] c.names,.om zt Rp.bool 3 [0] c.numbers]),(6,kI 7)],[]⟩ (by kernel_rfl) ?_
  refine zdM 0 (.ag [.any,.any,.om zu Rp.bool 2 [0] ((7,c.names,c.numbers):(Int×(List (zo×Bool))×(List (zp×Bool)))).2.1,.om zt Rp.bool 3 [0] ((7,c.names,c.numbers):(Int×(List (zo×Bool))×(List (zp×Bool)))).2.2]) rfl (zfT ⟨zbl _,zbl _,AV.le_refl _,AV.le_refl _,trivial⟩) ?_
  exact lzz
 refine jF hc3 ?_
 refine jr (lb 2 zt [] (⟨message,f.Number⟩:zp) (ra 0 [.om zt Rp.bool 3 [0] c.numbers,.rc zt [] (⟨message,f.Number⟩:zp)] rfl (zrt (rk:=zt) (rv:=Rp.bool) (m:=c.numbers) (k:=(⟨message,f.Number⟩:zp)) (kB ((mget c.numbers (⟨message,f.Number⟩:zp)).getD false)) rfl zzA (zlG _ _ _ _ _) (zcL rfl) (zvb rfl rfl rfl)) rfl rf)) ?_
 rcases zn h with ⟨hc4,h⟩| ⟨hc4,h⟩
 ·
  refine jT hc4 ?_
  refine jp ?_
  obtain rfl:=sj h
  refine zfL ?_
  refine zbU ⟨[(0,.ag [kI c.size,.sl (Rp.int .i64) [0] c.kinds,.om zu Rp.bool 2 [0] c.names,.om zt Rp.bool 3 [0] c.numbers]),(6,kI 8)],[]⟩ (by kernel_rfl) ?_
  refine zdM 0 (.ag [.any,.any,.om zu Rp.bool 2 [0] ((8,c.names,c.numbers):(Int×(List (zo×Bool))×(List (zp×Bool)))).2.1,.om zt Rp.bool 3 [0] ((8,c.names,c.numbers):(Int×(List (zo×Bool))×(List (zp×Bool)))).2.2]) rfl (zfT ⟨zbl _,zbl _,AV.le_refl _,AV.le_refl _,trivial⟩) ?_
  exact lzz
 refine jF hc4 ?_
 obtain ⟨rv3,h_rv3,h⟩:=bnd h
 refine jr (rl 4 [0] 13 Tryz.call124 (ziq h_rv3) rf) ?_
 rcases zn h with ⟨hc5,h⟩| ⟨hc5,h⟩
 ·
  refine jT hc5 ?_
  refine jp ?_
  obtain rfl:=sj h
  refine zfL ?_
  refine zbU ⟨[(0,.ag [kI c.size,.sl (Rp.int .i64) [0] c.kinds,.om zu Rp.bool 2 [0] c.names,.om zt Rp.bool 3 [0] c.numbers]),(6,kI 9)],[]⟩ (by kernel_rfl) ?_
  refine zdM 0 (.ag [.any,.any,.om zu Rp.bool 2 [0] ((9,c.names,c.numbers):(Int×(List (zo×Bool))×(List (zp×Bool)))).2.1,.om zt Rp.bool 3 [0] ((9,c.names,c.numbers):(Int×(List (zo×Bool))×(List (zp×Bool)))).2.2]) rfl (zfT ⟨zbl _,zbl _,AV.le_refl _,AV.le_refl _,trivial⟩) ?_
  exact lzz
 refine jF hc5 ?_
 obtain ⟨g,h_g,h⟩:=bnd h
 refine zS ⟨[(0,.ag [kI c.size,.sl (Rp.int .i64) [0] c.kinds,.om zu Rp.bool 2 [0] c.names,.om zt Rp.bool 3 [0] c.numbers]),(3,.ptr 11 0),(5,.ptr 12 0),(7,.ptr 13 0),(8,.ptr 14 0),(44,kB g)],[⟨11,174,[kI c.size,.sl (Rp.int .i64) [0] c.kinds,.om zu Rp.bool 2 [0] c.names,.om zt Rp.bool 3 [0] c.numbers]⟩,⟨12,64,[kS f.Name,kI f.Number,kI f.Kind,kB f.Repeated,kB f.Packed,kI f.Of]⟩,⟨13,209,[kI message,kS f.Name]⟩,⟨14,211,[kI message,kI f.Number]⟩]⟩ ?_ ?_
 ·
  refine (rsl 3 [] 47 f.Packed (fun hc6=>?_) (fun hc6=>?_))
  ·
   replace h_g:=iteT h_g hc6
   obtain ⟨rv4,h_rv4,h_g⟩:=bnd h_g
   obtain rfl:=sj h_g
   exact (lb 0 zb [] f (rl 0 [1] 13 Tryz.call125 (zpm h_rv4) (rel [] lzz)))
  replace h_g:=iteF h_g hc6
  obtain rfl:=sj h_g
  exact (rel [] lzz)
 rcases zn h with ⟨hc7,h⟩| ⟨hc7,h⟩
 ·
  refine jT hc7 ?_
  refine jp ?_
  obtain rfl:=sj h
  refine zfL ?_
  refine zbU ⟨[(0,.ag [kI c.size,.sl (Rp.int .i64) [0] c.kinds,.om zu Rp.bool 2 [0] c.names,.om zt Rp.bool 3 [0] c.numbers]),(6,kI 10)],[]⟩ (by kernel_rfl) ?_
  refine zdM 0 (.ag [.any,.any,.om zu Rp.bool 2 [0] ((10,c.names,c.numbers):(Int×(List (zo×Bool))×(List (zp×Bool)))).2.1,.om zt Rp.bool 3 [0] ((10,c.names,c.numbers):(Int×(List (zo×Bool))×(List (zp×Bool)))).2.2]) rfl (zfT ⟨zbl _,zbl _,AV.le_refl _,AV.le_refl _,trivial⟩) ?_
  exact lzz
 refine jF hc7 ?_
 obtain ⟨rv5,h_rv5,h⟩:=bnd h
 refine jr (lb 1 zb [] f (rl 0 [0,2,3] 13 Tryz.call126 (zmq h_rv5) rf)) ?_
 rcases zn h with ⟨hc8,h⟩| ⟨hc8,h⟩
 ·
  refine jT hc8 ?_
  refine jp ?_
  obtain rfl:=sj h
  refine zfL ?_
  refine zbU ⟨[(0,.ag [kI c.size,.sl (Rp.int .i64) [0] c.kinds,.om zu Rp.bool 2 [0] c.names,.om zt Rp.bool 3 [0] c.numbers]),(6,kI 11)],[]⟩ (by kernel_rfl) ?_
  refine zdM 0 (.ag [.any,.any,.om zu Rp.bool 2 [0] ((11,c.names,c.numbers):(Int×(List (zo×Bool))×(List (zp×Bool)))).2.1,.om zt Rp.bool 3 [0] ((11,c.names,c.numbers):(Int×(List (zo×Bool))×(List (zp×Bool)))).2.2]) rfl (zfT ⟨zbl _,zbl _,AV.le_refl _,AV.le_refl _,trivial⟩) ?_
  exact lzz
 refine jF hc8 ?_
 refine zX ?_
 refine jr (lb 2 zu [] (⟨message,f.Name⟩:zo) (rkl 0 [] ⟨[(0,.ag [kI c.size,.sl (Rp.int .i64) [0] c.kinds,.om zu Rp.bool 2 [0] c.names,.om zt Rp.bool 3 [0] c.numbers]),(3,.ptr 11 0),(8,.ptr 14 0),(58,.om zu Rp.bool 2 [0] c.names),(59,.rc zu [] (⟨message,f.Name⟩:zo))],[⟨11,174,[kI c.size,.sl (Rp.int .i64) [0] c.kinds,.om zu Rp.bool 2 [0] c.names,.om zt Rp.bool 3 [0] c.numbers]⟩,⟨14,211,[kI message,kI f.Number]⟩]⟩ (zfO ⟨[(0,.ag [kI c.size,.sl (Rp.int .i64) [0] c.kinds,.om zu Rp.bool 2 [0] (mput c.names (⟨message,f.Name⟩:zo) true),.om zt Rp.bool 3 [0] c.numbers]),(3,.ptr 11 0),(8,.ptr 14 0),(58,.om zu Rp.bool 2 [0] (mput c.names (⟨message,f.Name⟩:zo) true)),(59,.rc zu [] (⟨message,f.Name⟩:zo))],[⟨11,174,[kI c.size,.sl (Rp.int .i64) [0] c.kinds,.om zu Rp.bool 2 [0] (mput c.names (⟨message,f.Name⟩:zo) true),.om zt Rp.bool 3 [0] c.numbers]⟩,⟨14,211,[kI message,kI f.Number]⟩]⟩ (zpo (rk:=zu) (rv:=Rp.bool) (m:=c.names) (ℓ:=2) (C:=[0]) (C1:=[]) (D:=[]) (⟨message,f.Name⟩:zo) true [0] zrv (.inl rfl) (zcL rfl) (zdP rfl rfl) rfl) rfl (by kernel_rfl) (by kernel_rfl) ⟨⟨_,rfl,zlp ⟨zv rfl,zv rfl,zdO 0 rfl,zv rfl,trivial⟩⟩,⟨_,rfl,zv rfl⟩,⟨_,rfl,zv rfl⟩,⟨_,rfl,zdO 0 rfl⟩,⟨_,rfl,zv rfl⟩,trivial⟩ ⟨⟨_,rfl,rfl,rfl,⟨zv rfl,zv rfl,zdO 0 rfl,zv rfl,trivial⟩⟩,⟨_,rfl,rfl,rfl,⟨zv rfl,zv rfl,trivial⟩⟩,trivial⟩ rf))) ?_
 refine jr (lb 2 zt [] (⟨message,f.Number⟩:zp) (rkl 0 [] ⟨[(0,.ag [kI c.size,.sl (Rp.int .i64) [0] c.kinds,.om zu Rp.bool 2 [0] (mput c.names (⟨message,f.Name⟩:zo) true),.om zt Rp.bool 3 [0] c.numbers]),(61,.om zt Rp.bool 3 [0] c.numbers),(62,.rc zt [] (⟨message,f.Number⟩:zp))],[]⟩ (zfO ⟨[(0,.ag [kI c.size,.sl (Rp.int .i64) [0] c.kinds,.om zu Rp.bool 2 [0] (mput c.names (⟨message,f.Name⟩:zo) true),.om zt Rp.bool 3 [0] (mput c.numbers (⟨message,f.Number⟩:zp) true)]),(61,.om zt Rp.bool 3 [0] (mput c.numbers (⟨message,f.Number⟩:zp) true)),(62,.rc zt [] (⟨message,f.Number⟩:zp))],[]⟩ (zpo (rk:=zt) (rv:=Rp.bool) (m:=c.numbers) (ℓ:=3) (C:=[0]) (C1:=[]) (D:=[]) (⟨message,f.Number⟩:zp) true [0] zzA (.inl rfl) (zcL rfl) (zdP rfl rfl) rfl) rfl (by kernel_rfl) (by kernel_rfl) ⟨⟨_,rfl,zlp ⟨zv rfl,zv rfl,zv rfl,zdO 0 rfl,trivial⟩⟩,⟨_,rfl,zdO 0 rfl⟩,⟨_,rfl,zv rfl⟩,trivial⟩ trivial rf))) ?_
 refine jp ?_
 obtain rfl:=sj h
 refine zfL ?_
 refine zbU ⟨[(0,.ag [kI c.size,.sl (Rp.int .i64) [0] c.kinds,.om zu Rp.bool 2 [0] (mput c.names (⟨message,f.Name⟩:zo) true),.om zt Rp.bool 3 [0] (mput c.numbers (⟨message,f.Number⟩:zp) true)]),(6,kI 0)],[]⟩ (by kernel_rfl) ?_
 refine zdM 0 (.ag [.any,.any,.om zu Rp.bool 2 [0] ((0,(mput c.names (⟨message,f.Name⟩:zo) true),(mput c.numbers (⟨message,f.Number⟩:zp) true)):(Int×(List (zo×Bool))×(List (zp×Bool)))).2.1,.om zt Rp.bool 3 [0] ((0,(mput c.names (⟨message,f.Name⟩:zo) true),(mput c.numbers (⟨message,f.Number⟩:zp) true)):(Int×(List (zo×Bool))×(List (zp×Bool)))).2.2]) rfl (zfT ⟨zbl _,zbl _,AV.le_refl _,AV.le_refl _,trivial⟩) ?_
 exact lzz
theorem ztf {m:zg} {hv:zJ} {r:zM} (h:zgZ m hv=some r):FnOk Tryz.prog 111 [.rc zi [0] m,.rc zP [0] hv] [.rc zR [] r]:=by
 refine zC (E:=⟨[(4,.ptr 2 0)],[⟨2,185,[kI r.field,kB r.run,k8 r.e]⟩]⟩) 38 Tryz.func111 rfl rfl rfl ⟨⟨_,_,rfl,rfl,rfl,rfl,⟨Tryz.isAgg185,Tryz.sizeOf185⟩⟩,trivial⟩ (fun Xt=>?_)
 refine zr ?_
 unfold zgZ at h
 refine jr (ra 0 [.rc zi [0] m] rfl (zds 14 [kS m.Name,.sl zb [0] m.Fields] [0] rfl rfl rfl rfl rfl) rfl (rfl' [15,16])) ?_
 obtain ⟨rv,h_rv,h⟩:=bnd h
 refine jr (rl 3 [0] 15 Tryz.call135 (ztH h_rv) rf) ?_
 refine jp ?_
 rcases zn h with ⟨hc1,h⟩| ⟨hc1,h⟩
 ·
  refine jT hc1 ?_
  refine jr (rc 0 rfl (zV (r:=zR) [kI (-1)] [] (⟨(-1),false,0⟩:zM) rfl zyM rfl rfl) rf) ?_
  obtain rfl:=sj h
  refine zy ?_
  refine lk [4] [16] 16 2 ?_
  exact lzz
 refine jF hc1 ?_
 obtain ⟨x,h_x,h⟩:=bnd h
 refine jr (ra 3 [.sl zb [0] m.Fields,kI rv] rfl (zar rfl ziJ.el (zI _ _ _) h_x) rfl (ra 0 [.ep zb [0] x 0] rfl (zcq rfl ⟨Tryz.isAgg64,Tryz.sizeOf64⟩) rfl (rfl' [17]))) ?_
 obtain ⟨rv2,h_rv2,h⟩:=bnd h
 refine jr (lb 0 zb [] x (rl 2 [1] 16 Tryz.call136 (ztI h_rv2) rf)) ?_
 obtain ⟨g,h_g,h⟩:=bnd h
 refine zS ⟨[(4,.ptr 16 0),(5,kI rv),(7,kB rv2),(33,kB g)],[⟨16,185,[kI 0,kB false,k8 0]⟩]⟩ ?_ ?_
 ·
  refine (rsl 3 [] 26 (!rv2) (fun hc2=>?_) (fun hc2=>?_))
  ·
   replace h_g:=iteT h_g hc2
   obtain ⟨rv3,h_rv3,h_g⟩:=bnd h_g
   obtain rfl:=sj h_g
   exact (rl 4 [1] 16 Tryz.call137 (zwf h_rv3) (rel [] lzz))
  replace h_g:=iteF h_g hc2
  obtain rfl:=sj h_g
  exact (rel [] lzz)
 rcases zn h with ⟨hc3,h⟩| ⟨hc3,h⟩
 ·
  refine jT hc3 ?_
  refine jr (rc 0 rfl (zV (r:=zR) [k8 6] [] (⟨0,false,6⟩:zM) rfl zyM rfl rfl) rf) ?_
  obtain rfl:=sj h
  refine zy ?_
  refine lk [4] [16] 16 2 ?_
  exact lzz
 refine jF hc3 ?_
 refine jr (rc 2 rfl (zV (r:=zR) [kI rv,kB rv2] [] (⟨rv,rv2,0⟩:zM) rfl zyM rfl rfl) rf) ?_
 obtain rfl:=sj h
 refine zy ?_
 refine lk [4] [16] 16 2 ?_
 exact lzz
theorem zvO {k:Int} {r:Int} (h:zll k=some r):FnOk Tryz.prog 171 [kI k] [kI r]:=by
 refine zC (E:=⟨[(2,kI r)],[]⟩) 5 Tryz.func171 rfl rfl rfl ⟨rfl,trivial⟩ (fun Xt=>?_)
 refine zr ?_
 unfold zll at h
 refine jp ?_
 obtain ⟨rv,h_rv,h⟩:=bnd h
 refine jr (rl 1 [1] 9 Tryz.call177 (zsM h_rv) rf) ?_
 obtain rfl:=sj h
 exact zy lzz
theorem zpy {b:(List UInt8)} {r:Bool} (h:zhS b=some r):FnOk Tryz.prog 106 [.sl Rp.byte [0] b] [kB r]:=by
 refine zC (E:=⟨[(2,kB r)],[]⟩) 8 Tryz.func106 rfl rfl rfl ⟨rfl,trivial⟩ (fun Xt=>?_)
 refine zr ?_
 unfold zhS at h
 refine jp ?_
 obtain ⟨rv,h_rv,h⟩:=bnd h
 refine jr (rl 1 [0] 9 Tryz.call127 (zwd h_rv) rf) ?_
 obtain rfl:=sj h
 exact zy lzz
theorem zmo {rec_darningref14_Fits:(List zg)→za→zc→Option Bool} {rec_darningref14_Right:(List zg)→Int→zf→Option Bool} (hrec_darningref14_Fits:∀{sv:(List zg)} {f:za} {v:zc} {r:Bool},rec_darningref14_Fits sv f v=some r→FnOk Tryz.prog 28 [.sl zi [0] sv,.rc zb [0] f,.rc zd [0] v] [kB r]) (hrec_darningref14_Right:∀{sv:(List zg)} {root:Int} {x:zf} {r:Bool},rec_darningref14_Right sv root x=some r→FnOk Tryz.prog 18 [.sl zi [0] sv,kI root,.rc zj [0] x] [kB r]) {sv:(List zg)} {f:za} {v:zc} {r:Bool} (h:zdK rec_darningref14_Fits rec_darningref14_Right sv f v=some r):FnOk Tryz.prog 28 [.sl zi [0] sv,.rc zb [0] f,.rc zd [0] v] [kB r]:=by
 refine zC (E:=⟨[(6,kB r)],[]⟩) 111 Tryz.func28 rfl rfl rfl ⟨rfl,trivial⟩ (fun Xt=>?_)
 refine zr ?_
 unfold zdK at h
 refine jr (ral 1 [11] [.rc zd [0] v] rfl (zds 12 [kI v.Number,.sl (Rp.int .u64) [0] v.Words,.sl Rp.str [0] v.Texts,.sl zj [0] v.Subs] [0] rfl rfl rfl (by rw [zx]<;>rfl) rfl) rfl rf) ?_
 obtain ⟨g,h_g,h⟩:=bnd h
 refine zS ⟨[(0,.sl zi [0] sv),(4,.ptr 11 0),(5,.ptr 12 0),(29,kB g)],[⟨11,64,[kS f.Name,kI f.Number,kI f.Kind,kB f.Repeated,kB f.Packed,kI f.Of]⟩,⟨12,56,[kI v.Number,.sl (Rp.int .u64) [0] v.Words,.sl Rp.str [0] v.Texts,.sl zj [0] v.Subs]⟩]⟩ ?_ ?_
 ·
  obtain ⟨rv,h_rv,h_g⟩:=bnd h_g
  refine (rc 1 rfl (zH.le (ins':=[(.tmp 11,.ag [kI v.Number,.sl (Rp.int .u64) [0] v.Words,.sl Rp.str [0] v.Texts,.sl zj [0] v.Subs])]) (zbz (args:=[.tmp 11]) [.rc zd [0] v] [0] 11 rfl Tryz.call41 (zig h_rv) rfl rfl rfl rfl rfl) ⟨⟨rfl,zcP zd [0] v [kI v.Number,.sl (Rp.int .u64) [0] v.Words,.sl Rp.str [0] v.Texts,.sl zj [0] v.Subs] (by rw [zx]<;>rfl) rfl⟩,trivial⟩) (rsl 2 [] 14 (rv==0) (fun hc1=>?_) (fun hc1=>?_)))
  ·
   replace h_g:=iteT h_g hc1
   obtain rfl:=sj h_g
   exact (rel [] lzz)
  replace h_g:=iteF h_g hc1
  obtain ⟨rv2,h_rv2,h_g⟩:=bnd h_g
  refine (rc 1 rfl (zH.le (ins':=[(.tmp 15,.ag [kI v.Number,.sl (Rp.int .u64) [0] v.Words,.sl Rp.str [0] v.Texts,.sl zj [0] v.Subs])]) (zbz (args:=[.tmp 15]) [.rc zd [0] v] [0] 11 rfl Tryz.call41 (zig h_rv2) rfl rfl rfl rfl rfl) ⟨⟨rfl,zcP zd [0] v [kI v.Number,.sl (Rp.int .u64) [0] v.Words,.sl Rp.str [0] v.Texts,.sl zj [0] v.Subs] (by rw [zx]<;>rfl) rfl⟩,trivial⟩) (rsl 2 [] 18 (decide (rv2>1)) (fun hc2=>?_) (fun hc2=>?_)))
  ·
   replace h_g:=iteT h_g hc2
   refine (rsl 6 [] 24 (!f.Repeated) (fun hc3=>?_) (fun hc3=>?_))
   ·
    replace h_g:=iteT h_g hc3
    obtain rfl:=sj h_g
    exact (rel [] lzz)
   replace h_g:=iteF h_g hc3
   obtain ⟨rv3,h_rv3,h_g⟩:=bnd h_g
   obtain rfl:=sj h_g
   exact (rl 2 [1] 11 Tryz.call54 (zfG h_rv3) (rel [] lzz))
  replace h_g:=iteF h_g hc2
  obtain ⟨rv4,h_rv4,h_g⟩:=bnd h_g
  obtain rfl:=sj h_g
  exact (rl 8 [1] 11 Tryz.call54 (zfG h_rv4) (rel [] lzz))
 rcases zn h with ⟨hc4,h⟩| ⟨hc4,h⟩
 ·
  refine jT hc4 ?_
  refine jp ?_
  obtain rfl:=sj h
  exact zy lzz
 refine jF hc4 ?_
 refine jp ?_
 refine jp ?_
 refine zz ?_
 obtain ⟨q,h_q,h⟩:=bnd h
 refine zak (fun s:(Bool×Int)=>zaY f v s.1 s.2) (fun s=>⟨[(0,.sl zi [0] sv),(4,.ptr 11 0),(5,.ptr 12 0),(7,kB s.1),(8,kI s.2)],[⟨11,64,[kS f.Name,kI f.Number,kI f.Kind,kB f.Repeated,kB f.Packed,kI f.Of]⟩,⟨12,56,[kI v.Number,.sl (Rp.int .u64) [0] v.Words,.sl Rp.str [0] v.Texts,.sl zj [0] v.Subs]⟩]⟩) (fun o e a w=>e= .exit 0∧Sx ⟨⟨111,[]⟩,Xt,false,#[]⟩ ⟨[(0,.sl zi [0] sv),(4,.ptr 11 0),(5,.ptr 12 0),(7,kB o)],[⟨11,64,[kS f.Name,kI f.Number,kI f.Kind,kB f.Repeated,kB f.Packed,kI f.Of]⟩,⟨12,56,[kI v.Number,.sl (Rp.int .u64) [0] v.Words,.sl Rp.str [0] v.Texts,.sl zj [0] v.Subs]⟩]⟩ a w) ?_ h_q lzz ?_
 ·
  clear h
  intro s o h
  obtain ⟨ok,i⟩:=s
  refine zr ?_
  replace h:zaY f v ok i=some o:=h
  unfold zaY at h
  refine jp ?_
  rcases zn h with ⟨hc5,h⟩| ⟨hc5,h⟩
  ·
   refine jT hc5 ?_
   refine zz ?_
   obtain ⟨g2,h_g2,h⟩:=bnd h
   refine zcn (R:=fun e a w=>e= .normal∧Sx ⟨⟨111,[]⟩,Xt,false,#[]⟩ ⟨[(0,.sl zi [0] sv),(4,.ptr 11 0),(5,.ptr 12 0),(7,kB g2),(8,kI i)],[⟨11,64,[kS f.Name,kI f.Number,kI f.Kind,kB f.Repeated,kB f.Packed,kI f.Of]⟩,⟨12,56,[kI v.Number,.sl (Rp.int .u64) [0] v.Words,.sl Rp.str [0] v.Texts,.sl zj [0] v.Subs]⟩]⟩ a w) ?_ (zdR ?_)
   ·
    refine zr ?_
    rcases Bool.eq_false_or_eq_true ok with hc6| hc6
    ·
     replace h_g2:=iteT h_g2 hc6
     obtain ⟨rv5,h_rv5,h_g2⟩:=bnd h_g2
     rcases Bool.eq_false_or_eq_true rv5 with hc7| hc7
     ·
      replace h_g2:=iteT h_g2 hc7
      obtain ⟨x,h_x,h_g2⟩:=bnd h_g2
      obtain ⟨rv6,h_rv6,h_g2⟩:=bnd h_g2
      obtain ⟨x2,h_x2,h_g2⟩:=bnd h_g2
      obtain rfl:=sj h_g2
      refine jd [0,4,5,7,8] [11,12] zcp (by exact (lw_e (lx (zbQ ⟨[(37,kB ok)],[]⟩ (by kernel_rfl) hc6) (lw_e (lw_e (lx (lf1 39 (zbz [kI f.Kind] [1] 12 rfl Tryz.call39 (zfl h_rv5) rfl rfl rfl rfl rfl)) (lw_e (lx (zbQ ⟨[(42,kB rv5)],[]⟩ (by kernel_rfl) hc7) (lw_e (lw_e (lw_e (lw_e (lw_e (ly [.sl (Rp.int .u64) [0] v.Words,kI i] (zar rfl zob.el (zI _ _ _) h_x) rfl (lw_e (lx (lf1 55 (zbz [kI f.Kind,kU x] [1] 12 rfl Tryz.call55 (zmk h_rv6) rfl rfl rfl rfl rfl)) (lw_e (lw_e (lw_e (ly [.sl (Rp.int .u64) [0] v.Words,kI i] (zar rfl zob.el (zI _ _ _) h_x2) rfl l0)))))))))))))))))))) ?_
      exact zG lzz
     replace h_g2:=iteF h_g2 hc7
     obtain rfl:=sj h_g2
     refine jd [0,4,5,7,8] [11,12] zcp (by exact (lw_e (lx (zbQ ⟨[(37,kB ok)],[]⟩ (by kernel_rfl) hc6) (lw_e (lw_e (lx (lf1 39 (zbz [kI f.Kind] [1] 12 rfl Tryz.call39 (zfl h_rv5) rfl rfl rfl rfl rfl)) (lw_e (lx (zbQ ⟨[(42,kB rv5)],[]⟩ (by kernel_rfl) hc7) l0)))))))) ?_
     exact zG lzz
    replace h_g2:=iteF h_g2 hc6
    obtain rfl:=sj h_g2
    refine jd [0,4,5,7,8] [11,12] zcp (by exact (lw_e (lx (zbQ ⟨[(37,kB ok)],[]⟩ (by kernel_rfl) hc6) l0))) ?_
    exact zG lzz
   refine zX ?_
   refine jp ?_
   obtain rfl:=sj h
   exact zG lzz
  refine jF hc5 ?_
  obtain rfl:=sj h
  exact zal rfl lzz
 refine zaM _ rfl ?_
 refine jp ?_
 refine zz ?_
 obtain ⟨q2,h_q2,h⟩:=bnd h
 refine zak (fun s:(Bool×Int)=>zaZ f v s.1 s.2) (fun s=>⟨[(0,.sl zi [0] sv),(4,.ptr 11 0),(5,.ptr 12 0),(7,kB s.1),(9,kI s.2)],[⟨11,64,[kS f.Name,kI f.Number,kI f.Kind,kB f.Repeated,kB f.Packed,kI f.Of]⟩,⟨12,56,[kI v.Number,.sl (Rp.int .u64) [0] v.Words,.sl Rp.str [0] v.Texts,.sl zj [0] v.Subs]⟩]⟩) (fun o e a w=>e= .exit 2∧Sx ⟨⟨111,[]⟩,Xt,false,#[]⟩ ⟨[(0,.sl zi [0] sv),(4,.ptr 11 0),(5,.ptr 12 0),(7,kB o)],[⟨11,64,[kS f.Name,kI f.Number,kI f.Kind,kB f.Repeated,kB f.Packed,kI f.Of]⟩,⟨12,56,[kI v.Number,.sl (Rp.int .u64) [0] v.Words,.sl Rp.str [0] v.Texts,.sl zj [0] v.Subs]⟩]⟩ a w) ?_ h_q2 lzz ?_
 ·
  clear h
  intro s o h
  obtain ⟨ok4,i2⟩:=s
  refine zr ?_
  replace h:zaZ f v ok4 i2=some o:=h
  unfold zaZ at h
  refine jp ?_
  rcases zn h with ⟨hc8,h⟩| ⟨hc8,h⟩
  ·
   refine jT hc8 ?_
   refine zz ?_
   obtain ⟨g3,h_g3,h⟩:=bnd h
   refine zS ⟨[(0,.sl zi [0] sv),(4,.ptr 11 0),(5,.ptr 12 0),(7,kB g3),(9,kI i2)],[⟨11,64,[kS f.Name,kI f.Number,kI f.Kind,kB f.Repeated,kB f.Packed,kI f.Of]⟩,⟨12,56,[kI v.Number,.sl (Rp.int .u64) [0] v.Words,.sl Rp.str [0] v.Texts,.sl zj [0] v.Subs]⟩]⟩ ?_ ?_
   ·
    refine (rsl 2 [] 67 ok4 (fun hc9=>?_) (fun hc9=>?_))
    ·
     replace h_g3:=iteT h_g3 hc9
     refine (rsl 4 [] 71 (f.Kind==16) (fun hc10=>?_) (fun hc10=>?_))
     ·
      replace h_g3:=iteT h_g3 hc10
      obtain rfl:=sj h_g3
      exact (rel [] lzz)
     replace h_g3:=iteF h_g3 hc10
     refine (rsl 4 [] 75 (f.Kind==15) (fun hc11=>?_) (fun hc11=>?_))
     ·
      replace h_g3:=iteT h_g3 hc11
      obtain ⟨x3,h_x3,h_g3⟩:=bnd h_g3
      obtain ⟨v3,h_v3,h_g3⟩:=bnd h_g3
      obtain ⟨rv7,h_rv7,h_g3⟩:=bnd h_g3
      obtain rfl:=sj h_g3
      exact (ra 3 [.sl Rp.str [0] v.Texts,kI i2] rfl (zar rfl zkk.el (zI _ _ _) h_x3) rfl (ra 1 [kS x3] rfl (zru 15 rfl Tryz.underlying9 Tryz.underlying24 Tryz.underlying5 h_v3) rfl (rl 0 [15] 14 Tryz.call56 (zmj h_rv7) (rel [] lzz))))
     replace h_g3:=iteF h_g3 hc11
     obtain rfl:=sj h_g3
     exact (rel [] lzz)
    replace h_g3:=iteF h_g3 hc9
    obtain rfl:=sj h_g3
    exact (rel [] lzz)
   refine zX ?_
   refine jp ?_
   obtain rfl:=sj h
   exact zG lzz
  refine jF hc8 ?_
  obtain rfl:=sj h
  exact zal rfl lzz
 refine zaM _ rfl ?_
 refine jp ?_
 refine zz ?_
 obtain ⟨q3,h_q3,h⟩:=bnd h
 refine zak (fun s:(Bool×Int)=>zba f rec_darningref14_Right sv v s.1 s.2) (fun s=>⟨[(0,.sl zi [0] sv),(4,.ptr 11 0),(5,.ptr 12 0),(7,kB s.1),(10,kI s.2)],[⟨11,64,[kS f.Name,kI f.Number,kI f.Kind,kB f.Repeated,kB f.Packed,kI f.Of]⟩,⟨12,56,[kI v.Number,.sl (Rp.int .u64) [0] v.Words,.sl Rp.str [0] v.Texts,.sl zj [0] v.Subs]⟩]⟩) (fun o e a w=>e= .exit 4∧Sx ⟨⟨111,[]⟩,Xt,false,#[]⟩ ⟨[(7,kB o)],[]⟩ a w) ?_ h_q3 lzz ?_
 ·
  clear h
  intro s o h
  obtain ⟨ok7,i3⟩:=s
  refine zr ?_
  replace h:zba f rec_darningref14_Right sv v ok7 i3=some o:=h
  unfold zba at h
  refine jp ?_
  rcases zn h with ⟨hc12,h⟩| ⟨hc12,h⟩
  ·
   refine jT hc12 ?_
   refine zz ?_
   obtain ⟨g4,h_g4,h⟩:=bnd h
   refine zcn (R:=fun e a w=>e= .normal∧Sx ⟨⟨111,[]⟩,Xt,false,#[]⟩ ⟨[(0,.sl zi [0] sv),(4,.ptr 11 0),(5,.ptr 12 0),(7,kB g4),(10,kI i3)],[⟨11,64,[kS f.Name,kI f.Number,kI f.Kind,kB f.Repeated,kB f.Packed,kI f.Of]⟩,⟨12,56,[kI v.Number,.sl (Rp.int .u64) [0] v.Words,.sl Rp.str [0] v.Texts,.sl zj [0] v.Subs]⟩]⟩ a w) ?_ (zdR ?_)
   ·
    refine zr ?_
    rcases Bool.eq_false_or_eq_true ok7 with hc13| hc13
    ·
     replace h_g4:=iteT h_g4 hc13
     rcases Bool.eq_false_or_eq_true (f.Kind==17) with hc14| hc14
     ·
      replace h_g4:=iteT h_g4 hc14
      obtain ⟨x4,h_x4,h_g4⟩:=bnd h_g4
      obtain ⟨rv8,h_rv8,h_g4⟩:=bnd h_g4
      obtain rfl:=sj h_g4
      refine jd [0,4,5,7,10] [11,12] zcp (by exact (lw_e (lx (zbQ ⟨[(93,kB ok7)],[]⟩ (by kernel_rfl) hc13) (lw_e (lw_e (lw_e (lw_e (lx (zbQ ⟨[(98,kB (f.Kind==17))],[]⟩ (by kernel_rfl) hc14) (lw_e (lw_e (lw_e (lw_e (lw_e (lw_e (ly [.sl zj [0] v.Subs,kI i3] (zar rfl zDf.el (zI _ _ _) h_x4) rfl (ly [.ep zj [0] x4 0] (zcq rfl ⟨Tryz.isAgg39,Tryz.sizeOf39⟩) rfl (lx (lf1 18 (zbz [.sl zi [0] sv,kI f.Of,.rc zj [0] x4] [0] 15 rfl Tryz.call18 (hrec_darningref14_Right h_rv8) rfl rfl rfl rfl rfl)) l0))))))))))))))))) ?_
      exact zG lzz
     replace h_g4:=iteF h_g4 hc14
     obtain rfl:=sj h_g4
     refine jd [0,4,5,7,10] [11,12] zcp (by exact (lw_e (lx (zbQ ⟨[(93,kB ok7)],[]⟩ (by kernel_rfl) hc13) (lw_e (lw_e (lw_e (lw_e (lx (zbQ ⟨[(98,kB (f.Kind==17))],[]⟩ (by kernel_rfl) hc14) l0)))))))) ?_
     exact zG lzz
    replace h_g4:=iteF h_g4 hc13
    obtain rfl:=sj h_g4
    refine jd [0,4,5,7,10] [11,12] zcp (by exact (lw_e (lx (zbQ ⟨[(93,kB ok7)],[]⟩ (by kernel_rfl) hc13) l0))) ?_
    exact zG lzz
   refine zX ?_
   refine jp ?_
   obtain rfl:=sj h
   exact zG lzz
  refine jF hc12 ?_
  obtain rfl:=sj h
  exact zal rfl lzz
 refine zaM _ rfl ?_
 refine jp ?_
 obtain rfl:=sj h
 exact zy lzz
theorem zlE {rec_darningref14_Fits:(List zg)→za→zc→Option Bool} {rec_darningref14_Right:(List zg)→Int→zf→Option Bool} (hrec_darningref14_Fits:∀{sv:(List zg)} {f:za} {v:zc} {r:Bool},rec_darningref14_Fits sv f v=some r→FnOk Tryz.prog 28 [.sl zi [0] sv,.rc zb [0] f,.rc zd [0] v] [kB r]) (hrec_darningref14_Right:∀{sv:(List zg)} {root:Int} {x:zf} {r:Bool},rec_darningref14_Right sv root x=some r→FnOk Tryz.prog 18 [.sl zi [0] sv,kI root,.rc zj [0] x] [kB r]) {sv:(List zg)} {root:Int} {x:zf} {r:Bool} (h:zdq rec_darningref14_Fits rec_darningref14_Right sv root x=some r):FnOk Tryz.prog 18 [.sl zi [0] sv,kI root,.rc zj [0] x] [kB r]:=by
 refine zC (E:=⟨[(6,kB r)],[]⟩) 118 Tryz.func18 rfl rfl rfl ⟨rfl,trivial⟩ (fun Xt=>?_)
 refine zr ?_
 unfold zdq at h
 refine jr (ra 0 [.rc zj [0] x] rfl (zds 11 [.sl zd [0] x.Values,.sl Rp.str [0] x.Unknown] [0] rfl rfl rfl (by rw [zab]<;>rfl) rfl) rfl rf) ?_
 refine zS ⟨[(0,.sl zi [0] sv),(1,kI root),(5,.ptr 11 0),(19,kB ((decide (root<0))|| (decide (root≥(sv.length:Int)))))],[⟨11,39,[.sl zd [0] x.Values,.sl Rp.str [0] x.Unknown]⟩]⟩ ?_ ?_
 ·
  refine (rsl 3 [] 14 (decide (root<0)) (fun hc1=>?_) (fun hc1=>?_))
  · exact (rbl [] 19 true ((decide (root<0))|| (decide (root≥(sv.length:Int)))) (by rw [hc1]<;>rfl))
  exact (rbl [] 19 (decide (root≥(sv.length:Int))) ((decide (root<0))|| (decide (root≥(sv.length:Int)))) (by rw [hc1]<;>rfl))
 rcases zn h with ⟨hc2,h⟩| ⟨hc2,h⟩
 ·
  refine jT hc2 ?_
  refine jp ?_
  obtain rfl:=sj h
  exact zy lzz
 refine jF hc2 ?_
 refine jp ?_
 refine zz ?_
 obtain ⟨q,h_q,h⟩:=bnd h
 refine zak (fun s:Int=>zaG rec_darningref14_Fits root sv x s) (fun s=>⟨[(0,.sl zi [0] sv),(1,kI root),(5,.ptr 11 0),(7,kI s)],[⟨11,39,[.sl zd [0] x.Values,.sl Rp.str [0] x.Unknown]⟩]⟩) (fun o e a w=>match o with| (.inl v_)=>e= .exit 0∧Sx ⟨⟨118,[]⟩,Xt,false,#[]⟩ ⟨[(0,.sl zi [0] sv),(1,kI root),(5,.ptr 11 0)],[⟨11,39,[.sl zd [0] x.Values,.sl Rp.str [0] x.Unknown]⟩]⟩ a w| (.inr v_)=>e= .ret∧Sx ⟨⟨118,[]⟩,Xt,false,#[]⟩ ⟨[(6,kB false)],[]⟩ a w) ?_ h_q lzz ?_
 ·
  clear h
  intro i o h
  refine zr ?_
  replace h:zaG rec_darningref14_Fits root sv x i=some o:=h
  unfold zaG at h
  refine jp ?_
  rcases zn h with ⟨hc3,h⟩| ⟨hc3,h⟩
  ·
   refine jT hc3 ?_
   refine zz ?_
   obtain ⟨x2,h_x2,h⟩:=bnd h
   obtain ⟨x3,h_x3,h⟩:=bnd h
   obtain ⟨rv,h_rv,h⟩:=bnd h
   refine jd [0,1,5,7,8] [11] zcp (by exact (lw_e (lw_e (ly [.sl zi [0] sv,kI root] (zar rfl zge.el (zI _ _ _) h_x2) rfl (ly [.ep zi [0] x2 0] (zcq rfl ⟨Tryz.isAgg73,Tryz.sizeOf73⟩) rfl (lw_e (lw_e (lw_e (ly [.sl zd [0] x.Values,kI i] (zar rfl zpG.el (zI _ _ _) h_x3) rfl (lw_e (ly [.ep zd [0] x3 0] (zsn (.int .i64 x3.Number) rfl rfl (by rw [zx]<;>rfl) rfl) rfl (lx (lf1 44 (zbz [.rc zi [0] x2,kI x3.Number] [0] 11 rfl Tryz.call44 (zhv h_rv) rfl rfl rfl rfl rfl)) l0)))))))))))) ?_
   obtain ⟨g,h_g,h⟩:=bnd h
   refine zcn (R:=fun e a w=>e= .normal∧Sx ⟨⟨118,[]⟩,Xt,false,#[]⟩ ⟨[(0,.sl zi [0] sv),(1,kI root),(5,.ptr 11 0),(7,kI i),(77,kB g)],[⟨11,39,[.sl zd [0] x.Values,.sl Rp.str [0] x.Unknown]⟩]⟩ a w) ?_ (zdR ?_)
   ·
    refine zr ?_
    rcases Bool.eq_false_or_eq_true (decide (rv<0)) with hc4| hc4
    ·
     replace h_g:=iteT h_g hc4
     obtain rfl:=sj h_g
     refine jd [0,1,5,7,77] [11] zcp (by exact (lw_e (lw_e (lx (zbQ ⟨[(39,kB (decide (rv<0)))],[]⟩ (by kernel_rfl) hc4) l0)))) ?_
     exact zG lzz
    replace h_g:=iteF h_g hc4
    rcases Bool.eq_false_or_eq_true (decide (i>0)) with hc5| hc5
    ·
     replace h_g:=iteT h_g hc5
     obtain ⟨x4,h_x4,h_g⟩:=bnd h_g
     obtain ⟨x5,h_x5,h_g⟩:=bnd h_g
     rcases Bool.eq_false_or_eq_true (decide (x4.Number≥x5.Number)) with hc6| hc6
     ·
      replace h_g:=iteT h_g hc6
      obtain rfl:=sj h_g
      refine jd [0,1,5,7,77] [11] zcp (by exact (lw_e (lw_e (lx (zbQ ⟨[(39,kB (decide (rv<0)))],[]⟩ (by kernel_rfl) hc4) (lw_e (lw_e (lx (zbQ ⟨[(42,kB (decide (i>0)))],[]⟩ (by kernel_rfl) hc5) (lw_e (lw_e (lw_e (lw_e (ly [.sl zd [0] x.Values,kI (IntKind.i64.wrap (i - 1))] (zar rfl zpG.el (zI _ _ _) h_x4) rfl (lw_e (ly [.ep zd [0] x4 0] (zsn (.int .i64 x4.Number) rfl rfl (by rw [zx]<;>rfl) rfl) rfl (lw_e (lw_e (lw_e (ly [.sl zd [0] x.Values,kI i] (zar rfl zpG.el (zI _ _ _) h_x5) rfl (lw_e (ly [.ep zd [0] x5 0] (zsn (.int .i64 x5.Number) rfl rfl (by rw [zx]<;>rfl) rfl) rfl (lw_e (lw_e (lw_e (lx (zbQ ⟨[(59,kB (decide (x4.Number≥x5.Number)))],[]⟩ (by kernel_rfl) hc6) l0)))))))))))))))))))))))) ?_
      exact zG lzz
     replace h_g:=iteF h_g hc6
     obtain ⟨x6,h_x6,h_g⟩:=bnd h_g
     obtain ⟨x7,h_x7,h_g⟩:=bnd h_g
     obtain ⟨x8,h_x8,h_g⟩:=bnd h_g
     obtain ⟨rv2,h_rv2,h_g⟩:=bnd h_g
     obtain rfl:=sj h_g
     refine jd [0,1,5,7,77] [11] zcp (by exact (lw_e (lw_e (lx (zbQ ⟨[(39,kB (decide (rv<0)))],[]⟩ (by kernel_rfl) hc4) (lw_e (lw_e (lx (zbQ ⟨[(42,kB (decide (i>0)))],[]⟩ (by kernel_rfl) hc5) (lw_e (lw_e (lw_e (lw_e (ly [.sl zd [0] x.Values,kI (IntKind.i64.wrap (i - 1))] (zar rfl zpG.el (zI _ _ _) h_x4) rfl (lw_e (ly [.ep zd [0] x4 0] (zsn (.int .i64 x4.Number) rfl rfl (by rw [zx]<;>rfl) rfl) rfl (lw_e (lw_e (lw_e (ly [.sl zd [0] x.Values,kI i] (zar rfl zpG.el (zI _ _ _) h_x5) rfl (lw_e (ly [.ep zd [0] x5 0] (zsn (.int .i64 x5.Number) rfl rfl (by rw [zx]<;>rfl) rfl) rfl (lw_e (lw_e (lw_e (lx (zbQ ⟨[(59,kB (decide (x4.Number≥x5.Number)))],[]⟩ (by kernel_rfl) hc6) (lw_e (lw_e (lw_e (ly [.sl zi [0] sv,kI root] (zar rfl zge.el (zI _ _ _) h_x6) rfl (lw_e (ly [.ep zi [0] x6 1] (zgv zb x6.Fields rfl rfl rfl) rfl (lw_e (ly [.sl zb [0] x6.Fields,kI rv] (zar rfl ziJ.el (zI _ _ _) h_x7) rfl (ly [.ep zb [0] x7 0] (zcq rfl ⟨Tryz.isAgg64,Tryz.sizeOf64⟩) rfl (lw_e (lw_e (lw_e (ly [.sl zd [0] x.Values,kI i] (zar rfl zpG.el (zI _ _ _) h_x8) rfl (ly [.ep zd [0] x8 0] (zcq rfl ⟨Tryz.isAgg56,Tryz.sizeOf56⟩) rfl (lx (lf1 28 (zbz [.sl zi [0] sv,.rc zb [0] x7,.rc zd [0] x8] [0] 11 rfl Tryz.call28 (hrec_darningref14_Fits h_rv2) rfl rfl rfl rfl rfl)) l0))))))))))))))))))))))))))))))))))))))) ?_
     exact zG lzz
    replace h_g:=iteF h_g hc5
    obtain ⟨x9,h_x9,h_g⟩:=bnd h_g
    obtain ⟨x10,h_x10,h_g⟩:=bnd h_g
    obtain ⟨x11,h_x11,h_g⟩:=bnd h_g
    obtain ⟨rv3,h_rv3,h_g⟩:=bnd h_g
    obtain rfl:=sj h_g
    refine jd [0,1,5,7,77] [11] zcp (by exact (lw_e (lw_e (lx (zbQ ⟨[(39,kB (decide (rv<0)))],[]⟩ (by kernel_rfl) hc4) (lw_e (lw_e (lx (zbQ ⟨[(42,kB (decide (i>0)))],[]⟩ (by kernel_rfl) hc5) (lw_e (lw_e (lw_e (lw_e (lw_e (lw_e (lw_e (lw_e (lw_e (lw_e (lw_e (lw_e (lw_e (lw_e (lw_e (lw_e (lw_e (lw_e (lw_e (lw_e (ly [.sl zi [0] sv,kI root] (zar rfl zge.el (zI _ _ _) h_x9) rfl (lw_e (ly [.ep zi [0] x9 1] (zgv zb x9.Fields rfl rfl rfl) rfl (lw_e (ly [.sl zb [0] x9.Fields,kI rv] (zar rfl ziJ.el (zI _ _ _) h_x10) rfl (ly [.ep zb [0] x10 0] (zcq rfl ⟨Tryz.isAgg64,Tryz.sizeOf64⟩) rfl (lw_e (lw_e (lw_e (ly [.sl zd [0] x.Values,kI i] (zar rfl zpG.el (zI _ _ _) h_x11) rfl (ly [.ep zd [0] x11 0] (zcq rfl ⟨Tryz.isAgg56,Tryz.sizeOf56⟩) rfl (lx (lf1 28 (zbz [.sl zi [0] sv,.rc zb [0] x10,.rc zd [0] x11] [0] 11 rfl Tryz.call28 (hrec_darningref14_Fits h_rv3) rfl rfl rfl rfl rfl)) l0))))))))))))))))))))))))))))))))))))))) ?_
    exact zG lzz
   rcases zn h with ⟨hc7,h⟩| ⟨hc7,h⟩
   ·
    refine jT hc7 ?_
    refine jp ?_
    obtain rfl:=sj h
    exact zbr lzz
   refine jF hc7 ?_
   refine zX ?_
   refine jp ?_
   obtain rfl:=sj h
   exact zG lzz
  refine jF hc3 ?_
  obtain rfl:=sj h
  exact zal rfl lzz
 rcases q with u| u4
 ·
  refine zaM _ rfl ?_
  refine jp ?_
  refine zz ?_
  obtain ⟨q2,h_q2,h⟩:=bnd h
  refine zak (fun s:Int=>zaH root sv x s) (fun s=>⟨[(0,.sl zi [0] sv),(1,kI root),(5,.ptr 11 0),(9,kI s)],[⟨11,39,[.sl zd [0] x.Values,.sl Rp.str [0] x.Unknown]⟩]⟩) (fun o e a w=>match o with| (.inl v_)=>e= .exit 2∧Sx ⟨⟨118,[]⟩,Xt,false,#[]⟩ ⟨[],[]⟩ a w| (.inr v_)=>e= .ret∧Sx ⟨⟨118,[]⟩,Xt,false,#[]⟩ ⟨[(6,kB false)],[]⟩ a w) ?_ h_q2 lzz ?_
  ·
   clear h
   intro i2 o h
   refine zr ?_
   replace h:zaH root sv x i2=some o:=h
   unfold zaH at h
   refine jp ?_
   rcases zn h with ⟨hc8,h⟩| ⟨hc8,h⟩
   ·
    refine jT hc8 ?_
    refine zz ?_
    obtain ⟨x12,h_x12,h⟩:=bnd h
    obtain ⟨v3,h_v3,h⟩:=bnd h
    obtain ⟨rv4,h_rv4,h⟩:=bnd h
    refine jr (ra 3 [.sl Rp.str [0] x.Unknown,kI i2] rfl (zar rfl zkk.el (zI _ _ _) h_x12) rfl (ra 1 [kS x12] rfl (zru 14 rfl Tryz.underlying9 Tryz.underlying24 Tryz.underlying5 h_v3) rfl (rl 0 [14] 13 Tryz.call45 (zmE h_rv4) (rfl' [15])))) ?_
    obtain ⟨g2,h_g2,h⟩:=bnd h
    refine zcn (R:=fun e a w=>e= .normal∧Sx ⟨⟨118,[]⟩,Xt,false,#[]⟩ ⟨[(0,.sl zi [0] sv),(1,kI root),(5,.ptr 11 0),(9,kI i2),(117,kB g2)],[⟨11,39,[.sl zd [0] x.Values,.sl Rp.str [0] x.Unknown]⟩]⟩ a w) ?_ (zdR ?_)
    ·
     refine zr ?_
     rcases Bool.eq_false_or_eq_true (rv4.2 !=0) with hc9| hc9
     ·
      replace h_g2:=iteT h_g2 hc9
      obtain rfl:=sj h_g2
      refine jd [0,1,5,9,117] [11] zcp (by exact (lw_e (lw_e (lx (zbQ ⟨[(96,kB (rv4.2 !=0))],[]⟩ (by kernel_rfl) hc9) l0)))) ?_
      exact zG lzz
     replace h_g2:=iteF h_g2 hc9
     obtain ⟨x13,h_x13,h_g2⟩:=bnd h_g2
     rcases Bool.eq_false_or_eq_true (rv4.1.To !=(x13.length:Int)) with hc10| hc10
     ·
      replace h_g2:=iteT h_g2 hc10
      obtain rfl:=sj h_g2
      refine jd [0,1,5,9,117] [11] zcp (by exact (lw_e (lw_e (lx (zbQ ⟨[(96,kB (rv4.2 !=0))],[]⟩ (by kernel_rfl) hc9) (lw_e (lw_e (lw_e (lw_e (lw_e (ly [.sl Rp.str [0] x.Unknown,kI i2] (zar rfl zkk.el (zI _ _ _) h_x13) rfl (lw_e (lw_e (lw_e (lw_e (lx (zbQ ⟨[(107,kB (rv4.1.To !=(x13.length:Int)))],[]⟩ (by kernel_rfl) hc10) l0))))))))))))))) ?_
      exact zG lzz
     replace h_g2:=iteF h_g2 hc10
     obtain ⟨x14,h_x14,h_g2⟩:=bnd h_g2
     obtain ⟨rv5,h_rv5,h_g2⟩:=bnd h_g2
     obtain rfl:=sj h_g2
     refine jd [0,1,5,9,117] [11] zcp (by exact (lw_e (lw_e (lx (zbQ ⟨[(96,kB (rv4.2 !=0))],[]⟩ (by kernel_rfl) hc9) (lw_e (lw_e (lw_e (lw_e (lw_e (ly [.sl Rp.str [0] x.Unknown,kI i2] (zar rfl zkk.el (zI _ _ _) h_x13) rfl (lw_e (lw_e (lw_e (lw_e (lx (zbQ ⟨[(107,kB (rv4.1.To !=(x13.length:Int)))],[]⟩ (by kernel_rfl) hc10) (lw_e (lw_e (ly [.sl zi [0] sv,kI root] (zar rfl zge.el (zI _ _ _) h_x14) rfl (ly [.ep zi [0] x14 0] (zcq rfl ⟨Tryz.isAgg73,Tryz.sizeOf73⟩) rfl (lw_e (lw_e (lx (lf1 44 (zbz [.rc zi [0] x14,kI rv4.1.Number] [0] 14 rfl Tryz.call44 (zhv h_rv5) rfl rfl rfl rfl rfl)) l0)))))))))))))))))))))) ?_
     exact zG lzz
    rcases zn h with ⟨hc11,h⟩| ⟨hc11,h⟩
    ·
     refine jT hc11 ?_
     refine jp ?_
     obtain rfl:=sj h
     exact zbr lzz
    refine jF hc11 ?_
    refine zX ?_
    refine jp ?_
    obtain rfl:=sj h
    exact zG lzz
   refine jF hc8 ?_
   obtain rfl:=sj h
   exact zal rfl lzz
  rcases q2 with u2| u3
  ·
   refine zaM _ rfl ?_
   refine jp ?_
   obtain rfl:=sj h
   exact zy lzz
  obtain rfl:=sj h
  exact zdr lzz
 obtain rfl:=sj h
 exact zdr lzz
theorem zfi (fuel:Nat):(∀{sv:(List zg)} {f:za} {v:zc} {r:Bool},zby fuel sv f v=some r→FnOk Tryz.prog 28 [.sl zi [0] sv,.rc zb [0] f,.rc zd [0] v] [kB r])∧(∀{sv:(List zg)} {root:Int} {x:zf} {r:Bool},zdh fuel sv root x=some r→FnOk Tryz.prog 18 [.sl zi [0] sv,kI root,.rc zj [0] x] [kB r]):=by
  induction fuel with
  | zero=>exact ⟨fun h=>absurd h nofun,fun h=>absurd h nofun⟩
  | succ fuel ih=>exact ⟨fun h=>zmo (fun hh=>ih.1 hh) (fun hh=>ih.2 hh) h,fun h=>zlE (fun hh=>ih.1 hh) (fun hh=>ih.2 hh) h⟩
theorem zmF {fuel:Nat} {sv:(List zg)} {f:za} {v:zc} {r:Bool} (h:zby fuel sv f v=some r):FnOk Tryz.prog 28 [.sl zi [0] sv,.rc zb [0] f,.rc zd [0] v] [kB r]:=(zfi fuel).1 h
theorem zpt {m:zg} {text:Str} {r:Bool} (h:zfZ m text=some r):FnOk Tryz.prog 73 [.rc zi [0] m,kS text] [kB r]:=by
 refine zC (E:=⟨[(4,kB r)],[]⟩) 33 Tryz.func73 rfl rfl rfl ⟨rfl,trivial⟩ (fun Xt=>?_)
 refine zr ?_
 unfold zfZ at h
 refine jr (ra 0 [.rc zi [0] m] rfl (zds 11 [kS m.Name,.sl zb [0] m.Fields] [0] rfl rfl rfl rfl rfl) rfl rf) ?_
 obtain ⟨v,h_v,h⟩:=bnd h
 obtain ⟨rv,h_rv,h⟩:=bnd h
 refine jr (ra 1 [kS text] rfl (zru 12 rfl Tryz.underlying9 Tryz.underlying24 Tryz.underlying5 h_v) rfl (rl 0 [12] 11 Tryz.call98 (zjt h_rv) (rfl' [13]))) ?_
 refine zS ⟨[(2,.ptr 11 0),(5,.ptr 13 0),(23,kB ((rv.2 !=0)|| (rv.1.To !=(text.length:Int))))],[⟨11,73,[kS m.Name,.sl zb [0] m.Fields]⟩,⟨13,111,[kI rv.1.Number,kI rv.1.Wire,kI rv.1.From,kI rv.1.At,kI rv.1.To]⟩]⟩ ?_ ?_
 ·
  refine (rsl 3 [] 17 (rv.2 !=0) (fun hc1=>?_) (fun hc1=>?_))
  · exact (rbl [] 23 true ((rv.2 !=0)|| (rv.1.To !=(text.length:Int))) (by rw [hc1]<;>rfl))
  exact (rbl [] 23 (rv.1.To !=(text.length:Int)) ((rv.2 !=0)|| (rv.1.To !=(text.length:Int))) (by rw [hc1]<;>rfl))
 rcases zn h with ⟨hc2,h⟩| ⟨hc2,h⟩
 ·
  refine jT hc2 ?_
  refine jp ?_
  obtain rfl:=sj h
  exact zy lzz
 refine jF hc2 ?_
 obtain ⟨rv2,h_rv2,h⟩:=bnd h
 refine jr (rl 3 [0] 12 Tryz.call72 (zjx h_rv2) rf) ?_
 refine jp ?_
 obtain rfl:=sj h
 exact zy lzz
end Go.Proofs.YtcbkcblkecmjnaaGreat
