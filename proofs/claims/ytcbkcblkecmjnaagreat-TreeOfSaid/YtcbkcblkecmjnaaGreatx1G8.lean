/-
  The Go functions do what the plain functions say. No condition.
-/
import Derived.Test.YtcbkcblkecmjnaaGreatx1G7
namespace Go.Proofs.YtcbkcblkecmjnaaGreat
open Go Go.RowKit
set_option linter.unusedVariables false
set_option maxRecDepth 100000
set_option maxHeartbeats 3200000
theorem zms {c:zaK} {message:Int} {f:zc} {r:(Int×(List (zp×Bool))×(List (zq×Bool)))} (h:zeu c message f=some r):zhj Tryz.prog 105 [.ag [kI c.size,.sl (Rp.int .i64) [0] c.kinds,.om zu Rp.bool 2 [0] c.names,.om zt Rp.bool 3 [0] c.numbers],kI message,.rc za [0] f] [kI r.1] [.ag [.any,.any,.om zu Rp.bool 2 [0] r.2.1,.om zt Rp.bool 3 [0] r.2.2],.any,.any]:=by
 refine zja (E:=⟨[(0,.ag [.any,.any,.om zu Rp.bool 2 [0] r.2.1,.om zt Rp.bool 3 [0] r.2.2]),(6,kI r.1)],[]⟩) 63 [0] Tryz.func105 rfl rfl rfl ⟨rfl,trivial⟩ ⟨.inr ⟨rfl,rfl⟩,.inl rfl,.inl rfl,trivial⟩ rfl (fun Xt old=>?_)
 refine zr ?_
 unfold zeu at h
 refine jq [11,12] ?_
 refine jd [0,3,5,7,8] [11,12,13,14] zcy (by exact (lw_e (lw_e (lw_e (lx (zX (r:=zu) [kI message,kS f.Name] [] (⟨message,f.Name⟩:zp) rfl zDv rfl rfl) (lw_e (lw_e (lw_e (lx (zX (r:=zt) [kI message,kI f.Number] [] (⟨message,f.Number⟩:zq) rfl zFV rfl rfl) (lx (zkY 13 [kI 0,kS []] rfl Tryz.zeroValue209 rfl) (lx (zkY 14 [kI 0,kI 0] rfl Tryz.zeroValue211 rfl) (ly [.ptr 13 0,.rc zu [] (⟨message,f.Name⟩:zp)] (zkG (r:=zu) (b:=⟨13,209,[kI 0,kS []]⟩) (off:=0) [kI message,kS f.Name] rfl Tryz.sizeOf209 rfl rfl rfl rfl) rfl (ly [.ptr 14 0,.rc zt [] (⟨message,f.Number⟩:zq)] (zkG (r:=zt) (b:=⟨14,211,[kI 0,kI 0]⟩) (off:=0) [kI message,kI f.Number] rfl Tryz.sizeOf211 rfl rfl rfl rfl) rfl l0))))))))))))) ?_
 refine zy ?_
 obtain ⟨rv,h_rv,h⟩:=bnd h
 refine jr (rl 2 [1] 13 Tryz.call122 (zll h_rv) rf) ?_
 rcases zn h with ⟨hc1,h⟩| ⟨hc1,h⟩
 ·
  refine jT hc1 ?_
  refine jp ?_
  obtain rfl:=sj h
  refine zgd ?_
  refine zbn ⟨[(0,.ag [kI c.size,.sl (Rp.int .i64) [0] c.kinds,.om zu Rp.bool 2 [0] c.names,.om zt Rp.bool 3 [0] c.numbers]),(6,kI 5)],[]⟩ (by kernel_rfl) ?_
  refine zcK 0 (.ag [.any,.any,.om zu Rp.bool 2 [0] ((5,c.names,c.numbers):(Int×(List (zp×Bool))×(List (zq×Bool)))).2.1,.om zt Rp.bool 3 [0] ((5,c.names,c.numbers):(Int×(List (zp×Bool))×(List (zq×Bool)))).2.2]) rfl (zgn ⟨zbr _,zbr _,AV.le_refl _,AV.le_refl _,trivial⟩) ?_
  exact lzz
 refine jF hc1 ?_
 refine jr (lb 2 zu [] (⟨message,f.Name⟩:zp) (ra 0 [.om zu Rp.bool 2 [0] c.names,.rc zu [] (⟨message,f.Name⟩:zp)] rfl (zrJ (rk:=zu) (rv:=Rp.bool) (m:=c.names) (k:=(⟨message,f.Name⟩:zp)) (kB ((mget c.names (⟨message,f.Name⟩:zp)).getD false)) rfl zrK (zlG _ _ _ _ _) (zcX rfl) (zvx rfl rfl rfl)) rfl rf)) ?_
 rcases zn h with ⟨hc2,h⟩| ⟨hc2,h⟩
 ·
  refine jT hc2 ?_
  refine jp ?_
  obtain rfl:=sj h
  refine zgd ?_
  refine zbn ⟨[(0,.ag [kI c.size,.sl (Rp.int .i64) [0] c.kinds,.om zu Rp.bool 2 [0] c.names,.om zt Rp.bool 3 [0] c.numbers]),(6,kI 6)],[]⟩ (by kernel_rfl) ?_
  refine zcK 0 (.ag [.any,.any,.om zu Rp.bool 2 [0] ((6,c.names,c.numbers):(Int×(List (zp×Bool))×(List (zq×Bool)))).2.1,.om zt Rp.bool 3 [0] ((6,c.names,c.numbers):(Int×(List (zp×Bool))×(List (zq×Bool)))).2.2]) rfl (zgn ⟨zbr _,zbr _,AV.le_refl _,AV.le_refl _,trivial⟩) ?_
  exact lzz
 refine jF hc2 ?_
 obtain ⟨rv2,h_rv2,h⟩:=bnd h
 refine jr (rl 2 [1] 13 Tryz.call123 (zoJ h_rv2) rf) ?_
 rcases zn h with ⟨hc3,h⟩| ⟨hc3,h⟩
 ·
  refine jT hc3 ?_
  refine jp ?_
  obtain rfl:=sj h
  refine zgd ?_
  refine zbn ⟨[(0,.ag [kI c.size,.sl (Rp.int .i64) [0] c.kinds,.om zu Rp.bool 2 [0] c.names,.om zt Rp.bool 3 [0] c.numbers]),(6,kI 7)],[]⟩ (by kernel_rfl) ?_
  refine zcK 0 (.ag [.any,.any,.om zu Rp.bool 2 [0] ((7,c.names,c.numbers):(Int×(List (zp×Bool))×(List (zq×Bool)))).2.1,.om zt Rp.bool 3 [0] ((7,c.names,c.numbers):(Int×(List (zp×Bool))×(List (zq×Bool)))).2.2]) rfl (zgn ⟨zbr _,zbr _,AV.le_refl _,AV.le_refl _,trivial⟩) ?_
  exact lzz
 refine jF hc3 ?_
 refine jr (lb 2 zt [] (⟨message,f.Number⟩:zq) (ra 0 [.om zt Rp.bool 3 [0] c.numbers,.rc zt [] (⟨message,f.Number⟩:zq)] rfl (zrJ (rk:=zt) (rv:=Rp.bool) (m:=c.numbers) (k:=(⟨message,f.Number⟩:zq)) (kB ((mget c.numbers (⟨message,f.Number⟩:zq)).getD false)) rfl zAc (zlG _ _ _ _ _) (zcX rfl) (zvx rfl rfl rfl)) rfl rf)) ?_
 rcases zn h with ⟨hc4,h⟩| ⟨hc4,h⟩
 ·
  refine jT hc4 ?_
  refine jp ?_
  obtain rfl:=sj h
  refine zgd ?_
  refine zbn ⟨[(0,.ag [kI c.size,.sl (Rp.int .i64) [0] c.kinds,.om zu Rp.bool 2 [0] c.names,.om zt Rp.bool 3 [0] c.numbers]),(6,kI 8)],[]⟩ (by kernel_rfl) ?_
  refine zcK 0 (.ag [.any,.any,.om zu Rp.bool 2 [0] ((8,c.names,c.numbers):(Int×(List (zp×Bool))×(List (zq×Bool)))).2.1,.om zt Rp.bool 3 [0] ((8,c.names,c.numbers):(Int×(List (zp×Bool))×(List (zq×Bool)))).2.2]) rfl (zgn ⟨zbr _,zbr _,AV.le_refl _,AV.le_refl _,trivial⟩) ?_
  exact lzz
 refine jF hc4 ?_
 obtain ⟨rv3,h_rv3,h⟩:=bnd h
 refine jr (rl 4 [0] 13 Tryz.call124 (ziz h_rv3) rf) ?_
 rcases zn h with ⟨hc5,h⟩| ⟨hc5,h⟩
 ·
  refine jT hc5 ?_
  refine jp ?_
  obtain rfl:=sj h
  refine zgd ?_
  refine zbn ⟨[(0,.ag [kI c.size,.sl (Rp.int .i64) [0] c.kinds,.om zu Rp.bool 2 [0] c.names,.om zt Rp.bool 3 [0] c.numbers]),(6,kI 9)],[]⟩ (by kernel_rfl) ?_
  refine zcK 0 (.ag [.any,.any,.om zu Rp.bool 2 [0] ((9,c.names,c.numbers):(Int×(List (zp×Bool))×(List (zq×Bool)))).2.1,.om zt Rp.bool 3 [0] ((9,c.names,c.numbers):(Int×(List (zp×Bool))×(List (zq×Bool)))).2.2]) rfl (zgn ⟨zbr _,zbr _,AV.le_refl _,AV.le_refl _,trivial⟩) ?_
  exact lzz
 refine jF hc5 ?_
 obtain ⟨g,h_g,h⟩:=bnd h
 refine zS ⟨[(0,.ag [kI c.size,.sl (Rp.int .i64) [0] c.kinds,.om zu Rp.bool 2 [0] c.names,.om zt Rp.bool 3 [0] c.numbers]),(3,.ptr 11 0),(5,.ptr 12 0),(7,.ptr 13 0),(8,.ptr 14 0),(44,kB g)],[⟨11,174,[kI c.size,.sl (Rp.int .i64) [0] c.kinds,.om zu Rp.bool 2 [0] c.names,.om zt Rp.bool 3 [0] c.numbers]⟩,⟨12,64,[kS f.Name,kI f.Number,kI f.Kind,kB f.Repeated,kB f.Packed,kI f.Of]⟩,⟨13,209,[kI message,kS f.Name]⟩,⟨14,211,[kI message,kI f.Number]⟩]⟩ ?_ ?_
 ·
  refine (rsl 3 [] 47 f.Packed (fun hc6=>?_) (fun hc6=>?_))
  ·
   replace h_g:=iteT h_g hc6
   obtain ⟨rv4,h_rv4,h_g⟩:=bnd h_g
   obtain rfl:=sj h_g
   exact (lb 0 za [] f (rl 0 [1] 13 Tryz.call125 (zpy h_rv4) (rel [] lzz)))
  replace h_g:=iteF h_g hc6
  obtain rfl:=sj h_g
  exact (rel [] lzz)
 rcases zn h with ⟨hc7,h⟩| ⟨hc7,h⟩
 ·
  refine jT hc7 ?_
  refine jp ?_
  obtain rfl:=sj h
  refine zgd ?_
  refine zbn ⟨[(0,.ag [kI c.size,.sl (Rp.int .i64) [0] c.kinds,.om zu Rp.bool 2 [0] c.names,.om zt Rp.bool 3 [0] c.numbers]),(6,kI 10)],[]⟩ (by kernel_rfl) ?_
  refine zcK 0 (.ag [.any,.any,.om zu Rp.bool 2 [0] ((10,c.names,c.numbers):(Int×(List (zp×Bool))×(List (zq×Bool)))).2.1,.om zt Rp.bool 3 [0] ((10,c.names,c.numbers):(Int×(List (zp×Bool))×(List (zq×Bool)))).2.2]) rfl (zgn ⟨zbr _,zbr _,AV.le_refl _,AV.le_refl _,trivial⟩) ?_
  exact lzz
 refine jF hc7 ?_
 obtain ⟨rv5,h_rv5,h⟩:=bnd h
 refine jr (lb 1 za [] f (rl 0 [0,2,3] 13 Tryz.call126 (zmt h_rv5) rf)) ?_
 rcases zn h with ⟨hc8,h⟩| ⟨hc8,h⟩
 ·
  refine jT hc8 ?_
  refine jp ?_
  obtain rfl:=sj h
  refine zgd ?_
  refine zbn ⟨[(0,.ag [kI c.size,.sl (Rp.int .i64) [0] c.kinds,.om zu Rp.bool 2 [0] c.names,.om zt Rp.bool 3 [0] c.numbers]),(6,kI 11)],[]⟩ (by kernel_rfl) ?_
  refine zcK 0 (.ag [.any,.any,.om zu Rp.bool 2 [0] ((11,c.names,c.numbers):(Int×(List (zp×Bool))×(List (zq×Bool)))).2.1,.om zt Rp.bool 3 [0] ((11,c.names,c.numbers):(Int×(List (zp×Bool))×(List (zq×Bool)))).2.2]) rfl (zgn ⟨zbr _,zbr _,AV.le_refl _,AV.le_refl _,trivial⟩) ?_
  exact lzz
 refine jF hc8 ?_
 refine zT ?_
 refine jr (lb 2 zu [] (⟨message,f.Name⟩:zp) (rkl 0 [] ⟨[(0,.ag [kI c.size,.sl (Rp.int .i64) [0] c.kinds,.om zu Rp.bool 2 [0] c.names,.om zt Rp.bool 3 [0] c.numbers]),(3,.ptr 11 0),(8,.ptr 14 0),(58,.om zu Rp.bool 2 [0] c.names),(59,.rc zu [] (⟨message,f.Name⟩:zp))],[⟨11,174,[kI c.size,.sl (Rp.int .i64) [0] c.kinds,.om zu Rp.bool 2 [0] c.names,.om zt Rp.bool 3 [0] c.numbers]⟩,⟨14,211,[kI message,kI f.Number]⟩]⟩ (zgh ⟨[(0,.ag [kI c.size,.sl (Rp.int .i64) [0] c.kinds,.om zu Rp.bool 2 [0] (mput c.names (⟨message,f.Name⟩:zp) true),.om zt Rp.bool 3 [0] c.numbers]),(3,.ptr 11 0),(8,.ptr 14 0),(58,.om zu Rp.bool 2 [0] (mput c.names (⟨message,f.Name⟩:zp) true)),(59,.rc zu [] (⟨message,f.Name⟩:zp))],[⟨11,174,[kI c.size,.sl (Rp.int .i64) [0] c.kinds,.om zu Rp.bool 2 [0] (mput c.names (⟨message,f.Name⟩:zp) true),.om zt Rp.bool 3 [0] c.numbers]⟩,⟨14,211,[kI message,kI f.Number]⟩]⟩ (zpB (rk:=zu) (rv:=Rp.bool) (m:=c.names) (ℓ:=2) (C:=[0]) (C1:=[]) (D:=[]) (⟨message,f.Name⟩:zp) true [0] zrK (.inl rfl) (zcX rfl) (zeb rfl rfl) rfl) rfl (by kernel_rfl) (by kernel_rfl) ⟨⟨_,rfl,zln ⟨zv rfl,zv rfl,zea 0 rfl,zv rfl,trivial⟩⟩,⟨_,rfl,zv rfl⟩,⟨_,rfl,zv rfl⟩,⟨_,rfl,zea 0 rfl⟩,⟨_,rfl,zv rfl⟩,trivial⟩ ⟨⟨_,rfl,rfl,rfl,⟨zv rfl,zv rfl,zea 0 rfl,zv rfl,trivial⟩⟩,⟨_,rfl,rfl,rfl,⟨zv rfl,zv rfl,trivial⟩⟩,trivial⟩ rf))) ?_
 refine jr (lb 2 zt [] (⟨message,f.Number⟩:zq) (rkl 0 [] ⟨[(0,.ag [kI c.size,.sl (Rp.int .i64) [0] c.kinds,.om zu Rp.bool 2 [0] (mput c.names (⟨message,f.Name⟩:zp) true),.om zt Rp.bool 3 [0] c.numbers]),(61,.om zt Rp.bool 3 [0] c.numbers),(62,.rc zt [] (⟨message,f.Number⟩:zq))],[]⟩ (zgh ⟨[(0,.ag [kI c.size,.sl (Rp.int .i64) [0] c.kinds,.om zu Rp.bool 2 [0] (mput c.names (⟨message,f.Name⟩:zp) true),.om zt Rp.bool 3 [0] (mput c.numbers (⟨message,f.Number⟩:zq) true)]),(61,.om zt Rp.bool 3 [0] (mput c.numbers (⟨message,f.Number⟩:zq) true)),(62,.rc zt [] (⟨message,f.Number⟩:zq))],[]⟩ (zpB (rk:=zt) (rv:=Rp.bool) (m:=c.numbers) (ℓ:=3) (C:=[0]) (C1:=[]) (D:=[]) (⟨message,f.Number⟩:zq) true [0] zAc (.inl rfl) (zcX rfl) (zeb rfl rfl) rfl) rfl (by kernel_rfl) (by kernel_rfl) ⟨⟨_,rfl,zln ⟨zv rfl,zv rfl,zv rfl,zea 0 rfl,trivial⟩⟩,⟨_,rfl,zea 0 rfl⟩,⟨_,rfl,zv rfl⟩,trivial⟩ trivial rf))) ?_
 refine jp ?_
 obtain rfl:=sj h
 refine zgd ?_
 refine zbn ⟨[(0,.ag [kI c.size,.sl (Rp.int .i64) [0] c.kinds,.om zu Rp.bool 2 [0] (mput c.names (⟨message,f.Name⟩:zp) true),.om zt Rp.bool 3 [0] (mput c.numbers (⟨message,f.Number⟩:zq) true)]),(6,kI 0)],[]⟩ (by kernel_rfl) ?_
 refine zcK 0 (.ag [.any,.any,.om zu Rp.bool 2 [0] ((0,(mput c.names (⟨message,f.Name⟩:zp) true),(mput c.numbers (⟨message,f.Number⟩:zq) true)):(Int×(List (zp×Bool))×(List (zq×Bool)))).2.1,.om zt Rp.bool 3 [0] ((0,(mput c.names (⟨message,f.Name⟩:zp) true),(mput c.numbers (⟨message,f.Number⟩:zq) true)):(Int×(List (zp×Bool))×(List (zq×Bool)))).2.2]) rfl (zgn ⟨zbr _,zbr _,AV.le_refl _,AV.le_refl _,trivial⟩) ?_
 exact lzz
theorem ztC {m:zh} {hv:zK} {r:zP} (h:zhe m hv=some r):FnOk Tryz.prog 111 [.rc zi [0] m,.rc zQ [0] hv] [.rc zR [] r]:=by
 refine zB (E:=⟨[(4,.ptr 2 0)],[⟨2,185,[kI r.field,kB r.run,k8 r.e]⟩]⟩) 38 Tryz.func111 rfl rfl rfl ⟨⟨_,_,rfl,rfl,rfl,rfl,⟨Tryz.isAgg185,Tryz.sizeOf185⟩⟩,trivial⟩ (fun Xt=>?_)
 refine zr ?_
 unfold zhe at h
 refine jr (ra 0 [.rc zi [0] m] rfl (zeC 14 [kS m.Name,.sl za [0] m.Fields] [0] rfl rfl rfl rfl rfl) rfl (rfl' [15,16])) ?_
 obtain ⟨rv,h_rv,h⟩:=bnd h
 refine jr (rl 3 [0] 15 Tryz.call135 (zue h_rv) rf) ?_
 refine jp ?_
 rcases zn h with ⟨hc1,h⟩| ⟨hc1,h⟩
 ·
  refine jT hc1 ?_
  refine jr (rc 0 rfl (zX (r:=zR) [kI (-1)] [] (⟨(-1),false,0⟩:zP) rfl zzn rfl rfl) rf) ?_
  obtain rfl:=sj h
  refine zx ?_
  refine lk [4] [16] 16 2 ?_
  exact lzz
 refine jF hc1 ?_
 obtain ⟨x,h_x,h⟩:=bnd h
 refine jr (ra 3 [.sl za [0] m.Fields,kI rv] rfl (zao rfl ziD.el (zI _ _ _) h_x) rfl (ra 0 [.ep za [0] x 0] rfl (zdm rfl ⟨Tryz.isAgg64,Tryz.sizeOf64⟩) rfl (rfl' [17]))) ?_
 obtain ⟨rv2,h_rv2,h⟩:=bnd h
 refine jr (lb 0 za [] x (rl 2 [1] 16 Tryz.call136 (zuf h_rv2) rf)) ?_
 obtain ⟨g,h_g,h⟩:=bnd h
 refine zS ⟨[(4,.ptr 16 0),(5,kI rv),(7,kB rv2),(33,kB g)],[⟨16,185,[kI 0,kB false,k8 0]⟩]⟩ ?_ ?_
 ·
  refine (rsl 3 [] 26 (!rv2) (fun hc2=>?_) (fun hc2=>?_))
  ·
   replace h_g:=iteT h_g hc2
   obtain ⟨rv3,h_rv3,h_g⟩:=bnd h_g
   obtain rfl:=sj h_g
   exact (rl 4 [1] 16 Tryz.call137 (zwx h_rv3) (rel [] lzz))
  replace h_g:=iteF h_g hc2
  obtain rfl:=sj h_g
  exact (rel [] lzz)
 rcases zn h with ⟨hc3,h⟩| ⟨hc3,h⟩
 ·
  refine jT hc3 ?_
  refine jr (rc 0 rfl (zX (r:=zR) [k8 6] [] (⟨0,false,6⟩:zP) rfl zzn rfl rfl) rf) ?_
  obtain rfl:=sj h
  refine zx ?_
  refine lk [4] [16] 16 2 ?_
  exact lzz
 refine jF hc3 ?_
 refine jr (rc 2 rfl (zX (r:=zR) [kI rv,kB rv2] [] (⟨rv,rv2,0⟩:zP) rfl zzn rfl rfl) rf) ?_
 obtain rfl:=sj h
 refine zx ?_
 refine lk [4] [16] 16 2 ?_
 exact lzz
theorem zwg {k:Int} {r:Int} (h:zlj k=some r):FnOk Tryz.prog 171 [kI k] [kI r]:=by
 refine zB (E:=⟨[(2,kI r)],[]⟩) 5 Tryz.func171 rfl rfl rfl ⟨rfl,trivial⟩ (fun Xt=>?_)
 refine zr ?_
 unfold zlj at h
 refine jp ?_
 obtain ⟨rv,h_rv,h⟩:=bnd h
 refine jr (rl 1 [1] 9 Tryz.call177 (zth h_rv) rf) ?_
 obtain rfl:=sj h
 exact zx lzz
theorem zwv {b:(List UInt8)} {r:Bool} (h:zjd b=some r):FnOk Tryz.prog 106 [.sl Rp.byte [0] b] [kB r]:=by
 refine zB (E:=⟨[(2,kB r)],[]⟩) 8 Tryz.func106 rfl rfl rfl ⟨rfl,trivial⟩ (fun Xt=>?_)
 refine zr ?_
 unfold zjd at h
 refine jp ?_
 obtain ⟨rv,h_rv,h⟩:=bnd h
 refine jr (rl 1 [0] 9 Tryz.call127 (zwu h_rv) rf) ?_
 obtain rfl:=sj h
 exact zx lzz
theorem zmJ {sv:(List zh)} {root:Int} {d:Int} {r:Int} (h:zeR sv root d=some r):FnOk Tryz.prog 34 [.sl zi [0] sv,kI root,kI d] [kI r]:=by
 refine zB (E:=⟨[(6,kI r)],[]⟩) 26 Tryz.func34 rfl rfl rfl ⟨rfl,trivial⟩ (fun Xt=>?_)
 refine zr ?_
 unfold zeR at h
 refine jp ?_
 obtain ⟨rv,h_rv,h⟩:=bnd h
 refine jr (rl 1 [0] 9 Tryz.call17 (zmm h_rv) rf) ?_
 rcases zn h with ⟨hc1,h⟩| ⟨hc1,h⟩
 ·
  refine jT hc1 ?_
  refine jp ?_
  obtain rfl:=sj h
  exact zx lzz
 refine jF hc1 ?_
 refine zS ⟨[(25,kB ((decide (root<0))|| ((decide (root≥(sv.length:Int)))|| ((decide (d<0))|| (decide (d>64))))))],[]⟩ ?_ ?_
 ·
  refine (rsl 3 [] 12 (decide (root<0)) (fun hc2=>?_) (fun hc2=>?_))
  · exact (rbl [] 25 true ((decide (root<0))|| ((decide (root≥(sv.length:Int)))|| ((decide (d<0))|| (decide (d>64))))) (by rw [hc2]<;>rfl))
  refine (rsl 6 [] 18 (decide (root≥(sv.length:Int))) (fun hc3=>?_) (fun hc3=>?_))
  · exact (rbl [] 25 true ((decide (root<0))|| ((decide (root≥(sv.length:Int)))|| ((decide (d<0))|| (decide (d>64))))) (by rw [hc2,hc3]<;>rfl))
  refine (rsl 4 [] 22 (decide (d<0)) (fun hc4=>?_) (fun hc4=>?_))
  · exact (rbl [] 25 true ((decide (root<0))|| ((decide (root≥(sv.length:Int)))|| ((decide (d<0))|| (decide (d>64))))) (by rw [hc2,hc3,hc4]<;>rfl))
  exact (rbl [] 25 (decide (d>64)) ((decide (root<0))|| ((decide (root≥(sv.length:Int)))|| ((decide (d<0))|| (decide (d>64))))) (by rw [hc2,hc3,hc4]<;>rfl))
 rcases zn h with ⟨hc5,h⟩| ⟨hc5,h⟩
 ·
  refine jT hc5 ?_
  refine jp ?_
  obtain rfl:=sj h
  exact zx lzz
 refine jF hc5 ?_
 refine jp ?_
 obtain rfl:=sj h
 exact zx lzz
theorem zlA {rec_darningref11_First:(List zh)→Int→(List UInt8)→Int→Option (Int×Int)} (hrec_darningref11_First:∀{sv:(List zh)} {m:Int} {b:(List UInt8)} {d:Int} {r:(Int×Int)},rec_darningref11_First sv m b d=some r→FnOk Tryz.prog 35 [.sl zi [0] sv,kI m,.sl Rp.byte [0] b,kI d] [kI r.1,kI r.2]) {sv:(List zh)} {m:Int} {b:(List UInt8)} {d:Int} {r:(Int×Int)} (h:zbX rec_darningref11_First sv m b d=some r):FnOk Tryz.prog 35 [.sl zi [0] sv,kI m,.sl Rp.byte [0] b,kI d] [kI r.1,kI r.2]:=by
 refine zB (E:=⟨[(8,kI r.1),(9,kI r.2)],[]⟩) 106 Tryz.func35 rfl rfl rfl ⟨rfl,rfl,trivial⟩ (fun Xt=>?_)
 refine zr ?_
 unfold zbX at h
 refine jp ?_
 refine jp ?_
 refine zy ?_
 obtain ⟨q,h_q,h⟩:=bnd h
 refine zah (fun s:Int=>zaw b d m rec_darningref11_First sv s) (fun s=>⟨[(0,.sl zi [0] sv),(1,kI m),(2,.sl Rp.byte [0] b),(3,kI d),(10,kI s)],[]⟩) (fun o e a w=>match o with| (.inl v_)=>e= .exit 0∧Sx ⟨⟨106,[]⟩,Xt,false,#[]⟩ ⟨[],[]⟩ a w| (.inr v_)=>e= .ret∧Sx ⟨⟨106,[]⟩,Xt,false,#[]⟩ ⟨[(8,kI v_.1),(9,kI v_.2)],[]⟩ a w) ?_ h_q lzz ?_
 ·
  clear h
  intro atv o h
  refine zr ?_
  replace h:zaw b d m rec_darningref11_First sv atv=some o:=h
  unfold zaw at h
  refine jp ?_
  rcases zn h with ⟨hc1,h⟩| ⟨hc1,h⟩
  ·
   refine jT hc1 ?_
   refine zy ?_
   obtain ⟨x,h_x,h⟩:=bnd h
   obtain ⟨rv,h_rv,h⟩:=bnd h
   refine jr (ra 2 [.sl zi [0] sv,kI m] rfl (zao rfl zgu.el (zI _ _ _) h_x) rfl (ra 0 [.ep zi [0] x 0] rfl (zdm rfl ⟨Tryz.isAgg73,Tryz.sizeOf73⟩) rfl (rl 2 [0] 10 Tryz.call63 (zij h_rv) (rfl' [12])))) ?_
   refine jp ?_
   rcases zn h with ⟨hc2,h⟩| ⟨hc2,h⟩
   ·
    refine jT hc2 ?_
    refine jp ?_
    obtain rfl:=sj h
    exact zbq lzz
   refine jF hc2 ?_
   obtain ⟨v3,h_v3,h⟩:=bnd h
   refine jr (ra 7 [.sl Rp.byte [0] b,kI rv.1.R.At,kI rv.1.R.To] rfl (zeD (some (kI rv.1.R.At)) (some (kI rv.1.R.To)) rfl zcS.el (zI _ _ _) ⟨rfl,rfl⟩ ⟨rfl,rfl⟩ h_v3) rfl rf) ?_
   refine jp ?_
   rcases zn h with ⟨hc3,h⟩| ⟨hc3,h⟩
   ·
    refine jT hc3 ?_
    obtain ⟨x2,h_x2,h⟩:=bnd h
    obtain ⟨x3,h_x3,h⟩:=bnd h
    refine jd [0,1,2,3,10,11,13,14] [12,13] zcy (by exact (lw_e (lw_e (ly [.sl zi [0] sv,kI m] (zao rfl zgu.el (zI _ _ _) h_x2) rfl (lw_e (ly [.ep zi [0] x2 1] (zga za x2.Fields rfl rfl rfl) rfl (lw_e (lw_e (ly [.sl za [0] x2.Fields,kI rv.1.Field] (zao rfl ziD.el (zI _ _ _) h_x3) rfl (ly [.ep za [0] x3 0] (zdm rfl ⟨Tryz.isAgg64,Tryz.sizeOf64⟩) rfl (lx (zkY 13 [kS [],kI 0,kI 0,kB false,kB false,kI 0] rfl Tryz.zeroValue64 rfl) (ly [.ptr 13 0,.rc za [0] x3] (zkG (r:=za) (b:=⟨13,64,[kS [],kI 0,kI 0,kB false,kB false,kI 0]⟩) (off:=0) [kS x3.Name,kI x3.Number,kI x3.Kind,kB x3.Repeated,kB x3.Packed,kI x3.Of] rfl Tryz.sizeOf64 rfl rfl rfl rfl) rfl l0)))))))))))) ?_
    refine jp ?_
    rcases zn h with ⟨hc4,h⟩| ⟨hc4,h⟩
    ·
     refine jT hc4 ?_
     obtain ⟨rv2,h_rv2,h⟩:=bnd h
     refine jr (rl 3 [0] 12 Tryz.call64 (zii h_rv2) rf) ?_
     refine jp ?_
     rcases zn h with ⟨hc5,h⟩| ⟨hc5,h⟩
     ·
      refine jT hc5 ?_
      refine jp ?_
      obtain rfl:=sj h
      exact zbq lzz
     refine jF hc5 ?_
     refine jp ?_
     refine zT ?_
     obtain rfl:=sj h
     exact zE lzz
    refine jF hc4 ?_
    obtain ⟨g,h_g,h⟩:=bnd h
    refine zS ⟨[(0,.sl zi [0] sv),(1,kI m),(2,.sl Rp.byte [0] b),(3,kI d),(10,kI atv),(11,.ptr 12 0),(13,.sl Rp.byte [0] v3),(14,.ptr 13 0),(77,kB g)],[⟨12,87,[kI rv.1.R.Number,kI rv.1.R.Wire,kI rv.1.R.From,kI rv.1.R.At,kI rv.1.R.To,kI rv.1.Field,kB rv.1.Run]⟩,⟨13,64,[kS x3.Name,kI x3.Number,kI x3.Kind,kB x3.Repeated,kB x3.Packed,kI x3.Of]⟩]⟩ ?_ ?_
    ·
     refine (rsl 4 [] 73 (x3.Kind==15) (fun hc6=>?_) (fun hc6=>?_))
     ·
      replace h_g:=iteT h_g hc6
      obtain ⟨rv3,h_rv3,h_g⟩:=bnd h_g
      obtain rfl:=sj h_g
      exact (rl 1 [0] 13 Tryz.call56 (zmi h_rv3) (rel [] lzz))
     replace h_g:=iteF h_g hc6
     obtain rfl:=sj h_g
     exact (rel [] lzz)
    rcases zn h with ⟨hc7,h⟩| ⟨hc7,h⟩
    ·
     refine jT hc7 ?_
     refine jp ?_
     obtain rfl:=sj h
     exact zbq lzz
    refine jF hc7 ?_
    refine jp ?_
    rcases zn h with ⟨hc8,h⟩| ⟨hc8,h⟩
    ·
     refine jT hc8 ?_
     refine jp ?_
     rcases zn h with ⟨hc9,h⟩| ⟨hc9,h⟩
     ·
      refine jT hc9 ?_
      refine jp ?_
      obtain rfl:=sj h
      exact zbq lzz
     refine jF hc9 ?_
     obtain ⟨rv4,h_rv4,h⟩:=bnd h
     refine jr (rl 6 [0] 13 Tryz.call35 (hrec_darningref11_First h_rv4) rf) ?_
     refine jp ?_
     rcases zn h with ⟨hc10,h⟩| ⟨hc10,h⟩
     ·
      refine jT hc10 ?_
      refine jp ?_
      obtain rfl:=sj h
      exact zbq lzz
     refine jF hc10 ?_
     refine jp ?_
     refine zT ?_
     obtain rfl:=sj h
     exact zE lzz
    refine jF hc8 ?_
    refine jp ?_
    refine zT ?_
    obtain rfl:=sj h
    exact zE lzz
   refine jF hc3 ?_
   refine jp ?_
   refine zT ?_
   obtain rfl:=sj h
   exact zE lzz
  refine jF hc1 ?_
  obtain rfl:=sj h
  exact zai rfl lzz
 rcases q with u| u2
 ·
  refine zaI _ rfl ?_
  refine jp ?_
  obtain rfl:=sj h
  exact zx lzz
 obtain rfl:=sj h
 exact zed lzz
theorem zmp {fuel:Nat} {sv:(List zh)} {m:Int} {b:(List UInt8)} {d:Int} {r:(Int×Int)} (h:zbv fuel sv m b d=some r):FnOk Tryz.prog 35 [.sl zi [0] sv,kI m,.sl Rp.byte [0] b,kI d] [kI r.1,kI r.2]:=by
  induction fuel generalizing sv m b d r with
  | zero=>exact absurd h nofun
  | succ fuel ih=>exact zlA (fun hh=>ih hh) h
theorem znS {m:zh} {b:(List UInt8)} {r:((List zG)×Int×Int)} (h:zfn m b=some r):FnOk Tryz.prog 36 [.rc zi [0] m,.sl Rp.byte [0] b] [.own zJ 87 2 [] r.1,kI r.2.1,kI r.2.2]:=by
 refine zB (E:=⟨[(4,.own zJ 87 2 [] r.1),(5,kI r.2.1),(6,kI r.2.2)],[]⟩) 34 Tryz.func36 rfl rfl rfl ⟨rfl,rfl,rfl,trivial⟩ (fun Xt=>?_)
 refine zr ?_
 unfold zfn at h
 refine jr (ra 0 [.rc zi [0] m] rfl (zeC 16 [kS m.Name,.sl za [0] m.Fields] [0] rfl rfl rfl rfl rfl) rfl rf) ?_
 refine jp ?_
 refine jp ?_
 refine zy ?_
 obtain ⟨q,h_q,h⟩:=bnd h
 refine zah (fun s:((List zG)×Int)=>zaz b m s.1 s.2) (fun s=>⟨[(1,.sl Rp.byte [0] b),(2,.ptr 16 0),(7,.own zJ 87 20 [] s.1),(8,kI s.2)],[⟨16,73,[kS m.Name,.sl za [0] m.Fields]⟩]⟩) (fun o e a w=>match o with| (.inl v_)=>e= .exit 0∧Sx ⟨⟨34,[]⟩,Xt,false,#[]⟩ ⟨[(7,.own zJ 87 20 [] v_)],[]⟩ a w| (.inr v_)=>e= .ret∧Sx ⟨⟨34,[]⟩,Xt,false,#[]⟩ ⟨[(4,kN),(5,kI v_.1),(6,kI v_.2)],[]⟩ a w) ?_ h_q ?_ ?_
 ·
  clear h
  intro s o h
  obtain ⟨out,atv⟩:=s
  refine zr ?_
  replace h:zaz b m out atv=some o:=h
  unfold zaz at h
  refine jp ?_
  rcases zn h with ⟨hc1,h⟩| ⟨hc1,h⟩
  ·
   refine jT hc1 ?_
   refine zy ?_
   obtain ⟨rv,h_rv,h⟩:=bnd h
   refine jr (rl 3 [0] 19 Tryz.call63 (zij h_rv) (rfl' [21])) ?_
   refine jp ?_
   rcases zn h with ⟨hc2,h⟩| ⟨hc2,h⟩
   ·
    refine jT hc2 ?_
    refine jp ?_
    obtain rfl:=sj h
    exact zbq lzz
   refine jF hc2 ?_
   obtain ⟨v3,h_v3,h⟩:=bnd h
   refine jr (lb 1 zJ [] rv.1 (rc 0 rfl (zcP [.rc zJ [] rv.1] 22 [] ([rv.1]:(List zG)) rfl zpP rfl rfl rfl rfl) (ra 0 [.own zJ 87 20 [] out,.own zJ 87 22 [] ([rv.1]:(List zG))] rfl (zeA 20 [] rfl zpP.el rfl (zbJ _ _ _ _ _) (zay _ _ _ _ _) h_v3 (.inl zpn) rfl) rfl rf))) ?_
   refine jp ?_
   refine zT ?_
   obtain rfl:=sj h
   exact zE lzz
  refine jF hc1 ?_
  obtain rfl:=sj h
  exact zai rfl lzz
 ·
  refine zbn ⟨[(1,.sl Rp.byte [0] b),(2,.ptr 16 0),(7,kN),(8,kI 0)],[⟨16,73,[kS m.Name,.sl za [0] m.Fields]⟩]⟩ (by kernel_rfl) ?_
  refine zcK 7 (.own zJ 87 20 [] []) rfl (zaj zJ 87 20 [] rfl) ?_
  exact lzz
 rcases q with u| u2
 ·
  refine zaI _ rfl ?_
  refine jp ?_
  obtain rfl:=sj h
  refine zx ?_
  refine lk [4,5,6] [] 20 2 ?_
  exact lzz
 obtain rfl:=sj h
 refine zed ?_
 refine zbn ⟨[(4,kN),(5,kI u2.1),(6,kI u2.2)],[]⟩ (by kernel_rfl) ?_
 refine zcK 4 (.own zJ 87 2 [] (([],u2.1,u2.2):((List zG)×Int×Int)).1) rfl (zaj zJ 87 2 [] rfl) ?_
 exact lzz
end Go.Proofs.YtcbkcblkecmjnaaGreat
