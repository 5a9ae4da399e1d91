/-
  The Go functions do what the plain functions say. No condition.
-/
import Derived.Test.YtcbkcblkecmjnaaGreatx2G7
namespace Go.Proofs.YtcbkcblkecmjnaaGreat
open Go Go.RowKit
set_option linter.unusedVariables false
set_option maxRecDepth 100000
set_option maxHeartbeats 3200000
theorem zoT {c:zbd} {message:Int} {f:ze} {r:(Int×(List (zr×Bool))×(List (zt×Bool)))} (h:zfD c message f=some r):zjj Tryz.prog 105 [.ag [kI c.size,.sl (Rp.int .i64) [0] c.kinds,.om zw Rp.bool 2 [0] c.names,.om zv Rp.bool 3 [0] c.numbers],kI message,.rc zf [0] f] [kI r.1] [.ag [.any,.any,.om zw Rp.bool 2 [0] r.2.1,.om zv Rp.bool 3 [0] r.2.2],.any,.any]:=by
 refine zlq (E:=⟨[(0,.ag [.any,.any,.om zw Rp.bool 2 [0] r.2.1,.om zv Rp.bool 3 [0] r.2.2]),(6,kI r.1)],[]⟩) 63 [0] Tryz.func105 rfl rfl rfl ⟨rfl,trivial⟩ ⟨.inr ⟨rfl,rfl⟩,.inl rfl,.inl rfl,trivial⟩ rfl (fun Xt old=>?_)
 refine zp ?_
 unfold zfD at h
 refine jq [11,12] ?_
 refine jd [0,3,5,7,8] [11,12,13,14] zcc (by exact (lw_e (lw_e (lw_e (lx (zan (r:=zw) [kI message,kS f.Name] [] (⟨message,f.Name⟩:zr) rfl zFX rfl rfl) (lw_e (lw_e (lw_e (lx (zan (r:=zv) [kI message,kI f.Number] [] (⟨message,f.Number⟩:zt) rfl zIv rfl rfl) (lx (zkB 13 [kI 0,kS []] rfl Tryz.zeroValue209 rfl) (lx (zkB 14 [kI 0,kI 0] rfl Tryz.zeroValue211 rfl) (ly [.ptr 13 0,.rc zw [] (⟨message,f.Name⟩:zr)] (zgA (r:=zw) (b:=⟨13,209,[kI 0,kS []]⟩) (off:=0) [kI message,kS f.Name] rfl Tryz.sizeOf209 rfl rfl rfl rfl) rfl (ly [.ptr 14 0,.rc zv [] (⟨message,f.Number⟩:zt)] (zgA (r:=zv) (b:=⟨14,211,[kI 0,kI 0]⟩) (off:=0) [kI message,kI f.Number] rfl Tryz.sizeOf211 rfl rfl rfl rfl) rfl l0))))))))))))) ?_
 refine zA ?_
 obtain ⟨rv,h_rv,h⟩:=bnd h
 refine jr (rl 2 [1] 13 Tryz.call122 (znH h_rv) rf) ?_
 rcases zm h with ⟨hc1,h⟩| ⟨hc1,h⟩
 ·
  refine jT hc1 ?_
  refine jp ?_
  obtain rfl:=sj h
  refine zhw ?_
  refine zbX ⟨[(0,.ag [kI c.size,.sl (Rp.int .i64) [0] c.kinds,.om zw Rp.bool 2 [0] c.names,.om zv Rp.bool 3 [0] c.numbers]),(6,kI 5)],[]⟩ (by kernel_rfl) ?_
  refine zdF 0 (.ag [.any,.any,.om zw Rp.bool 2 [0] ((5,c.names,c.numbers):(Int×(List (zr×Bool))×(List (zt×Bool)))).2.1,.om zv Rp.bool 3 [0] ((5,c.names,c.numbers):(Int×(List (zr×Bool))×(List (zt×Bool)))).2.2]) rfl (zhH ⟨zca _,zca _,AV.le_refl _,AV.le_refl _,trivial⟩) ?_
  exact lzz
 refine jF hc1 ?_
 refine jr (lb 2 zw [] (⟨message,f.Name⟩:zr) (ra 0 [.om zw Rp.bool 2 [0] c.names,.rc zw [] (⟨message,f.Name⟩:zr)] rfl (zuj (rk:=zw) (rv:=Rp.bool) (m:=c.names) (k:=(⟨message,f.Name⟩:zr)) (kB ((mget c.names (⟨message,f.Name⟩:zr)).getD false)) rfl zul (zoc _ _ _ _ _) (zdS rfl) (zyb rfl rfl rfl)) rfl rf)) ?_
 rcases zm h with ⟨hc2,h⟩| ⟨hc2,h⟩
 ·
  refine jT hc2 ?_
  refine jp ?_
  obtain rfl:=sj h
  refine zhw ?_
  refine zbX ⟨[(0,.ag [kI c.size,.sl (Rp.int .i64) [0] c.kinds,.om zw Rp.bool 2 [0] c.names,.om zv Rp.bool 3 [0] c.numbers]),(6,kI 6)],[]⟩ (by kernel_rfl) ?_
  refine zdF 0 (.ag [.any,.any,.om zw Rp.bool 2 [0] ((6,c.names,c.numbers):(Int×(List (zr×Bool))×(List (zt×Bool)))).2.1,.om zv Rp.bool 3 [0] ((6,c.names,c.numbers):(Int×(List (zr×Bool))×(List (zt×Bool)))).2.2]) rfl (zhH ⟨zca _,zca _,AV.le_refl _,AV.le_refl _,trivial⟩) ?_
  exact lzz
 refine jF hc2 ?_
 obtain ⟨rv2,h_rv2,h⟩:=bnd h
 refine jr (rl 2 [1] 13 Tryz.call123 (zrd h_rv2) rf) ?_
 rcases zm h with ⟨hc3,h⟩| ⟨hc3,h⟩
 ·
  refine jT hc3 ?_
  refine jp ?_
  obtain rfl:=sj h
  refine zhw ?_
  refine zbX ⟨[(0,.ag [kI c.size,.sl (Rp.int .i64) [0] c.kinds,.om zw Rp.bool 2 [0] c.names,.om zv Rp.bool 3 [0] c.numbers]),(6,kI 7)],[]⟩ (by kernel_rfl) ?_
  refine zdF 0 (.ag [.any,.any,.om zw Rp.bool 2 [0] ((7,c.names,c.numbers):(Int×(List (zr×Bool))×(List (zt×Bool)))).2.1,.om zv Rp.bool 3 [0] ((7,c.names,c.numbers):(Int×(List (zr×Bool))×(List (zt×Bool)))).2.2]) rfl (zhH ⟨zca _,zca _,AV.le_refl _,AV.le_refl _,trivial⟩) ?_
  exact lzz
 refine jF hc3 ?_
 refine jr (lb 2 zv [] (⟨message,f.Number⟩:zt) (ra 0 [.om zv Rp.bool 3 [0] c.numbers,.rc zv [] (⟨message,f.Number⟩:zt)] rfl (zuj (rk:=zv) (rv:=Rp.bool) (m:=c.numbers) (k:=(⟨message,f.Number⟩:zt)) (kB ((mget c.numbers (⟨message,f.Number⟩:zt)).getD false)) rfl zCI (zoc _ _ _ _ _) (zdS rfl) (zyb rfl rfl rfl)) rfl rf)) ?_
 rcases zm h with ⟨hc4,h⟩| ⟨hc4,h⟩
 ·
  refine jT hc4 ?_
  refine jp ?_
  obtain rfl:=sj h
  refine zhw ?_
  refine zbX ⟨[(0,.ag [kI c.size,.sl (Rp.int .i64) [0] c.kinds,.om zw Rp.bool 2 [0] c.names,.om zv Rp.bool 3 [0] c.numbers]),(6,kI 8)],[]⟩ (by kernel_rfl) ?_
  refine zdF 0 (.ag [.any,.any,.om zw Rp.bool 2 [0] ((8,c.names,c.numbers):(Int×(List (zr×Bool))×(List (zt×Bool)))).2.1,.om zv Rp.bool 3 [0] ((8,c.names,c.numbers):(Int×(List (zr×Bool))×(List (zt×Bool)))).2.2]) rfl (zhH ⟨zca _,zca _,AV.le_refl _,AV.le_refl _,trivial⟩) ?_
  exact lzz
 refine jF hc4 ?_
 obtain ⟨rv3,h_rv3,h⟩:=bnd h
 refine jr (rl 4 [0] 13 Tryz.call124 (zkI h_rv3) rf) ?_
 rcases zm h with ⟨hc5,h⟩| ⟨hc5,h⟩
 ·
  refine jT hc5 ?_
  refine jp ?_
  obtain rfl:=sj h
  refine zhw ?_
  refine zbX ⟨[(0,.ag [kI c.size,.sl (Rp.int .i64) [0] c.kinds,.om zw Rp.bool 2 [0] c.names,.om zv Rp.bool 3 [0] c.numbers]),(6,kI 9)],[]⟩ (by kernel_rfl) ?_
  refine zdF 0 (.ag [.any,.any,.om zw Rp.bool 2 [0] ((9,c.names,c.numbers):(Int×(List (zr×Bool))×(List (zt×Bool)))).2.1,.om zv Rp.bool 3 [0] ((9,c.names,c.numbers):(Int×(List (zr×Bool))×(List (zt×Bool)))).2.2]) rfl (zhH ⟨zca _,zca _,AV.le_refl _,AV.le_refl _,trivial⟩) ?_
  exact lzz
 refine jF hc5 ?_
 obtain ⟨g,h_g,h⟩:=bnd h
 refine zW ⟨[(0,.ag [kI c.size,.sl (Rp.int .i64) [0] c.kinds,.om zw Rp.bool 2 [0] c.names,.om zv Rp.bool 3 [0] c.numbers]),(3,.ptr 11 0),(5,.ptr 12 0),(7,.ptr 13 0),(8,.ptr 14 0),(44,kB g)],[⟨11,174,[kI c.size,.sl (Rp.int .i64) [0] c.kinds,.om zw Rp.bool 2 [0] c.names,.om zv Rp.bool 3 [0] c.numbers]⟩,⟨12,64,[kS f.Name,kI f.Number,kI f.Kind,kB f.Repeated,kB f.Packed,kI f.Of]⟩,⟨13,209,[kI message,kS f.Name]⟩,⟨14,211,[kI message,kI f.Number]⟩]⟩ ?_ ?_
 ·
  refine (rsl 3 [] 47 f.Packed (fun hc6=>?_) (fun hc6=>?_))
  ·
   replace h_g:=iteT h_g hc6
   obtain ⟨rv4,h_rv4,h_g⟩:=bnd h_g
   obtain rfl:=sj h_g
   exact (lb 0 zf [] f (rl 0 [1] 13 Tryz.call125 (zrY h_rv4) (rel [] lzz)))
  replace h_g:=iteF h_g hc6
  obtain rfl:=sj h_g
  exact (rel [] lzz)
 rcases zm h with ⟨hc7,h⟩| ⟨hc7,h⟩
 ·
  refine jT hc7 ?_
  refine jp ?_
  obtain rfl:=sj h
  refine zhw ?_
  refine zbX ⟨[(0,.ag [kI c.size,.sl (Rp.int .i64) [0] c.kinds,.om zw Rp.bool 2 [0] c.names,.om zv Rp.bool 3 [0] c.numbers]),(6,kI 10)],[]⟩ (by kernel_rfl) ?_
  refine zdF 0 (.ag [.any,.any,.om zw Rp.bool 2 [0] ((10,c.names,c.numbers):(Int×(List (zr×Bool))×(List (zt×Bool)))).2.1,.om zv Rp.bool 3 [0] ((10,c.names,c.numbers):(Int×(List (zr×Bool))×(List (zt×Bool)))).2.2]) rfl (zhH ⟨zca _,zca _,AV.le_refl _,AV.le_refl _,trivial⟩) ?_
  exact lzz
 refine jF hc7 ?_
 obtain ⟨rv5,h_rv5,h⟩:=bnd h
 refine jr (lb 1 zf [] f (rl 0 [0,2,3] 13 Tryz.call126 (zoU h_rv5) rf)) ?_
 rcases zm h with ⟨hc8,h⟩| ⟨hc8,h⟩
 ·
  refine jT hc8 ?_
  refine jp ?_
  obtain rfl:=sj h
  refine zhw ?_
  refine zbX ⟨[(0,.ag [kI c.size,.sl (Rp.int .i64) [0] c.kinds,.om zw Rp.bool 2 [0] c.names,.om zv Rp.bool 3 [0] c.numbers]),(6,kI 11)],[]⟩ (by kernel_rfl) ?_
  refine zdF 0 (.ag [.any,.any,.om zw Rp.bool 2 [0] ((11,c.names,c.numbers):(Int×(List (zr×Bool))×(List (zt×Bool)))).2.1,.om zv Rp.bool 3 [0] ((11,c.names,c.numbers):(Int×(List (zr×Bool))×(List (zt×Bool)))).2.2]) rfl (zhH ⟨zca _,zca _,AV.le_refl _,AV.le_refl _,trivial⟩) ?_
  exact lzz
 refine jF hc8 ?_
 refine zag ?_
 refine jr (lb 2 zw [] (⟨message,f.Name⟩:zr) (rkl 0 [] ⟨[(0,.ag [kI c.size,.sl (Rp.int .i64) [0] c.kinds,.om zw Rp.bool 2 [0] c.names,.om zv Rp.bool 3 [0] c.numbers]),(3,.ptr 11 0),(8,.ptr 14 0),(58,.om zw Rp.bool 2 [0] c.names),(59,.rc zw [] (⟨message,f.Name⟩:zr))],[⟨11,174,[kI c.size,.sl (Rp.int .i64) [0] c.kinds,.om zw Rp.bool 2 [0] c.names,.om zv Rp.bool 3 [0] c.numbers]⟩,⟨14,211,[kI message,kI f.Number]⟩]⟩ (zhz ⟨[(0,.ag [kI c.size,.sl (Rp.int .i64) [0] c.kinds,.om zw Rp.bool 2 [0] (mput c.names (⟨message,f.Name⟩:zr) true),.om zv Rp.bool 3 [0] c.numbers]),(3,.ptr 11 0),(8,.ptr 14 0),(58,.om zw Rp.bool 2 [0] (mput c.names (⟨message,f.Name⟩:zr) true)),(59,.rc zw [] (⟨message,f.Name⟩:zr))],[⟨11,174,[kI c.size,.sl (Rp.int .i64) [0] c.kinds,.om zw Rp.bool 2 [0] (mput c.names (⟨message,f.Name⟩:zr) true),.om zv Rp.bool 3 [0] c.numbers]⟩,⟨14,211,[kI message,kI f.Number]⟩]⟩ (zsb (rk:=zw) (rv:=Rp.bool) (m:=c.names) (ℓ:=2) (C:=[0]) (C1:=[]) (D:=[]) (⟨message,f.Name⟩:zr) true [0] zul (.inl rfl) (zdS rfl) (zfi rfl rfl) rfl) rfl (by kernel_rfl) (by kernel_rfl) ⟨⟨_,rfl,znJ ⟨zx rfl,zx rfl,zeJ 0 rfl,zx rfl,trivial⟩⟩,⟨_,rfl,zx rfl⟩,⟨_,rfl,zx rfl⟩,⟨_,rfl,zeJ 0 rfl⟩,⟨_,rfl,zx rfl⟩,trivial⟩ ⟨⟨_,rfl,rfl,rfl,⟨zx rfl,zx rfl,zeJ 0 rfl,zx rfl,trivial⟩⟩,⟨_,rfl,rfl,rfl,⟨zx rfl,zx rfl,trivial⟩⟩,trivial⟩ rf))) ?_
 refine jr (lb 2 zv [] (⟨message,f.Number⟩:zt) (rkl 0 [] ⟨[(0,.ag [kI c.size,.sl (Rp.int .i64) [0] c.kinds,.om zw Rp.bool 2 [0] (mput c.names (⟨message,f.Name⟩:zr) true),.om zv Rp.bool 3 [0] c.numbers]),(61,.om zv Rp.bool 3 [0] c.numbers),(62,.rc zv [] (⟨message,f.Number⟩:zt))],[]⟩ (zhz ⟨[(0,.ag [kI c.size,.sl (Rp.int .i64) [0] c.kinds,.om zw Rp.bool 2 [0] (mput c.names (⟨message,f.Name⟩:zr) true),.om zv Rp.bool 3 [0] (mput c.numbers (⟨message,f.Number⟩:zt) true)]),(61,.om zv Rp.bool 3 [0] (mput c.numbers (⟨message,f.Number⟩:zt) true)),(62,.rc zv [] (⟨message,f.Number⟩:zt))],[]⟩ (zsb (rk:=zv) (rv:=Rp.bool) (m:=c.numbers) (ℓ:=3) (C:=[0]) (C1:=[]) (D:=[]) (⟨message,f.Number⟩:zt) true [0] zCI (.inl rfl) (zdS rfl) (zfi rfl rfl) rfl) rfl (by kernel_rfl) (by kernel_rfl) ⟨⟨_,rfl,znJ ⟨zx rfl,zx rfl,zx rfl,zeJ 0 rfl,trivial⟩⟩,⟨_,rfl,zeJ 0 rfl⟩,⟨_,rfl,zx rfl⟩,trivial⟩ trivial rf))) ?_
 refine jp ?_
 obtain rfl:=sj h
 refine zhw ?_
 refine zbX ⟨[(0,.ag [kI c.size,.sl (Rp.int .i64) [0] c.kinds,.om zw Rp.bool 2 [0] (mput c.names (⟨message,f.Name⟩:zr) true),.om zv Rp.bool 3 [0] (mput c.numbers (⟨message,f.Number⟩:zt) true)]),(6,kI 0)],[]⟩ (by kernel_rfl) ?_
 refine zdF 0 (.ag [.any,.any,.om zw Rp.bool 2 [0] ((0,(mput c.names (⟨message,f.Name⟩:zr) true),(mput c.numbers (⟨message,f.Number⟩:zt) true)):(Int×(List (zr×Bool))×(List (zt×Bool)))).2.1,.om zv Rp.bool 3 [0] ((0,(mput c.names (⟨message,f.Name⟩:zr) true),(mput c.numbers (⟨message,f.Number⟩:zt) true)):(Int×(List (zr×Bool))×(List (zt×Bool)))).2.2]) rfl (zhH ⟨zca _,zca _,AV.le_refl _,AV.le_refl _,trivial⟩) ?_
 exact lzz
theorem zwb {m:zh} {hv:zS} {r:zX} (h:zjc m hv=some r):FnOk Tryz.prog 111 [.rc zi [0] m,.rc zad [0] hv] [.rc zaf [] r]:=by
 refine zC (E:=⟨[(4,.ptr 2 0)],[⟨2,185,[kI r.field,kB r.run,k8 r.e]⟩]⟩) 38 Tryz.func111 rfl rfl rfl ⟨⟨_,_,rfl,rfl,rfl,rfl,⟨Tryz.isAgg185,Tryz.sizeOf185⟩⟩,trivial⟩ (fun Xt=>?_)
 refine zp ?_
 unfold zjc at h
 refine jr (ra 0 [.rc zi [0] m] rfl (zcb 14 [kS m.Name,.sl zf [0] m.Fields] [0] rfl rfl rfl rfl rfl) rfl (rfl' [15,16])) ?_
 obtain ⟨rv,h_rv,h⟩:=bnd h
 refine jr (rl 3 [0] 15 Tryz.call135 (zwE h_rv) rf) ?_
 refine jp ?_
 rcases zm h with ⟨hc1,h⟩| ⟨hc1,h⟩
 ·
  refine jT hc1 ?_
  refine jr (rc 0 rfl (zan (r:=zaf) [kI (-1)] [] (⟨(-1),false,0⟩:zX) rfl zBU rfl rfl) rf) ?_
  obtain rfl:=sj h
  refine zz ?_
  refine lk [4] [16] 16 2 ?_
  exact lzz
 refine jF hc1 ?_
 obtain ⟨x,h_x,h⟩:=bnd h
 refine jr (ra 3 [.sl zf [0] m.Fields,kI rv] rfl (zao rfl zle.el (zJ _ _ _) h_x) rfl (ra 0 [.ep zf [0] x 0] rfl (zci rfl ⟨Tryz.isAgg64,Tryz.sizeOf64⟩) rfl (rfl' [17]))) ?_
 obtain ⟨rv2,h_rv2,h⟩:=bnd h
 refine jr (lb 0 zf [] x (rl 2 [1] 16 Tryz.call136 (zwF h_rv2) rf)) ?_
 obtain ⟨g,h_g,h⟩:=bnd h
 refine zW ⟨[(4,.ptr 16 0),(5,kI rv),(7,kB rv2),(33,kB g)],[⟨16,185,[kI 0,kB false,k8 0]⟩]⟩ ?_ ?_
 ·
  refine (rsl 3 [] 26 (!rv2) (fun hc2=>?_) (fun hc2=>?_))
  ·
   replace h_g:=iteT h_g hc2
   obtain ⟨rv3,h_rv3,h_g⟩:=bnd h_g
   obtain rfl:=sj h_g
   exact (rl 4 [1] 16 Tryz.call137 (zyZ h_rv3) (rel [] lzz))
  replace h_g:=iteF h_g hc2
  obtain rfl:=sj h_g
  exact (rel [] lzz)
 rcases zm h with ⟨hc3,h⟩| ⟨hc3,h⟩
 ·
  refine jT hc3 ?_
  refine jr (rc 0 rfl (zan (r:=zaf) [k8 6] [] (⟨0,false,6⟩:zX) rfl zBU rfl rfl) rf) ?_
  obtain rfl:=sj h
  refine zz ?_
  refine lk [4] [16] 16 2 ?_
  exact lzz
 refine jF hc3 ?_
 refine jr (rc 2 rfl (zan (r:=zaf) [kI rv,kB rv2] [] (⟨rv,rv2,0⟩:zX) rfl zBU rfl rfl) rf) ?_
 obtain rfl:=sj h
 refine zz ?_
 refine lk [4] [16] 16 2 ?_
 exact lzz
theorem zyL {k:Int} {r:Int} (h:znF k=some r):FnOk Tryz.prog 171 [kI k] [kI r]:=by
 refine zC (E:=⟨[(2,kI r)],[]⟩) 5 Tryz.func171 rfl rfl rfl ⟨rfl,trivial⟩ (fun Xt=>?_)
 refine zp ?_
 unfold znF at h
 refine jp ?_
 obtain ⟨rv,h_rv,h⟩:=bnd h
 refine jr (rl 1 [1] 9 Tryz.call177 (zvF h_rv) rf) ?_
 obtain rfl:=sj h
 exact zz lzz
theorem zsn {b:(List UInt8)} {r:Bool} (h:zkf b=some r):FnOk Tryz.prog 106 [.sl Rp.byte [0] b] [kB r]:=by
 refine zC (E:=⟨[(2,kB r)],[]⟩) 8 Tryz.func106 rfl rfl rfl ⟨rfl,trivial⟩ (fun Xt=>?_)
 refine zp ?_
 unfold zkf at h
 refine jp ?_
 obtain ⟨rv,h_rv,h⟩:=bnd h
 refine jr (rl 1 [0] 9 Tryz.call127 (zyX h_rv) rf) ?_
 obtain rfl:=sj h
 exact zz lzz
theorem zoQ {rec_darningref14_Fits:(List zh)→ze→zb→Option Bool} {rec_darningref14_Right:(List zh)→Int→zc→Option Bool} (hrec_darningref14_Fits:∀{sv:(List zh)} {f:ze} {v:zb} {r:Bool},rec_darningref14_Fits sv f v=some r→FnOk Tryz.prog 28 [.sl zi [0] sv,.rc zf [0] f,.rc za [0] v] [kB r]) (hrec_darningref14_Right:∀{sv:(List zh)} {root:Int} {x:zc} {r:Bool},rec_darningref14_Right sv root x=some r→FnOk Tryz.prog 18 [.sl zi [0] sv,kI root,.rc zd [0] x] [kB r]) {sv:(List zh)} {f:ze} {v:zb} {r:Bool} (h:zfb rec_darningref14_Fits rec_darningref14_Right sv f v=some r):FnOk Tryz.prog 28 [.sl zi [0] sv,.rc zf [0] f,.rc za [0] v] [kB r]:=by
 refine zC (E:=⟨[(6,kB r)],[]⟩) 111 Tryz.func28 rfl rfl rfl ⟨rfl,trivial⟩ (fun Xt=>?_)
 refine zp ?_
 unfold zfb at h
 refine jr (ral 1 [11] [.rc za [0] v] rfl (zcb 12 [kI v.Number,.sl (Rp.int .u64) [0] v.Words,.sl Rp.str [0] v.Texts,.sl zd [0] v.Subs] [0] rfl rfl rfl (by rw [zq]<;>rfl) rfl) rfl rf) ?_
 obtain ⟨g,h_g,h⟩:=bnd h
 refine zW ⟨[(0,.sl zi [0] sv),(4,.ptr 11 0),(5,.ptr 12 0),(29,kB g)],[⟨11,64,[kS f.Name,kI f.Number,kI f.Kind,kB f.Repeated,kB f.Packed,kI f.Of]⟩,⟨12,56,[kI v.Number,.sl (Rp.int .u64) [0] v.Words,.sl Rp.str [0] v.Texts,.sl zd [0] v.Subs]⟩]⟩ ?_ ?_
 ·
  obtain ⟨rv,h_rv,h_g⟩:=bnd h_g
  refine (rc 1 rfl (zG.le (ins':=[(.tmp 11,.ag [kI v.Number,.sl (Rp.int .u64) [0] v.Words,.sl Rp.str [0] v.Texts,.sl zd [0] v.Subs])]) (zae (args:=[.tmp 11]) [.rc za [0] v] [0] 11 rfl Tryz.call41 (zkv h_rv) rfl rfl rfl rfl rfl) ⟨⟨rfl,zaa za [0] v [kI v.Number,.sl (Rp.int .u64) [0] v.Words,.sl Rp.str [0] v.Texts,.sl zd [0] v.Subs] (by rw [zq]<;>rfl) rfl⟩,trivial⟩) (rsl 2 [] 14 (rv==0) (fun hc1=>?_) (fun hc1=>?_)))
  ·
   replace h_g:=iteT h_g hc1
   obtain rfl:=sj h_g
   exact (rel [] lzz)
  replace h_g:=iteF h_g hc1
  obtain ⟨rv2,h_rv2,h_g⟩:=bnd h_g
  refine (rc 1 rfl (zG.le (ins':=[(.tmp 15,.ag [kI v.Number,.sl (Rp.int .u64) [0] v.Words,.sl Rp.str [0] v.Texts,.sl zd [0] v.Subs])]) (zae (args:=[.tmp 15]) [.rc za [0] v] [0] 11 rfl Tryz.call41 (zkv h_rv2) rfl rfl rfl rfl rfl) ⟨⟨rfl,zaa za [0] v [kI v.Number,.sl (Rp.int .u64) [0] v.Words,.sl Rp.str [0] v.Texts,.sl zd [0] v.Subs] (by rw [zq]<;>rfl) rfl⟩,trivial⟩) (rsl 2 [] 18 (decide (rv2>1)) (fun hc2=>?_) (fun hc2=>?_)))
  ·
   replace h_g:=iteT h_g hc2
   refine (rsl 6 [] 24 (!f.Repeated) (fun hc3=>?_) (fun hc3=>?_))
   ·
    replace h_g:=iteT h_g hc3
    obtain rfl:=sj h_g
    exact (rel [] lzz)
   replace h_g:=iteF h_g hc3
   obtain ⟨rv3,h_rv3,h_g⟩:=bnd h_g
   obtain rfl:=sj h_g
   exact (rl 2 [1] 11 Tryz.call54 (zhp h_rv3) (rel [] lzz))
  replace h_g:=iteF h_g hc2
  obtain ⟨rv4,h_rv4,h_g⟩:=bnd h_g
  obtain rfl:=sj h_g
  exact (rl 8 [1] 11 Tryz.call54 (zhp h_rv4) (rel [] lzz))
 rcases zm h with ⟨hc4,h⟩| ⟨hc4,h⟩
 ·
  refine jT hc4 ?_
  refine jp ?_
  obtain rfl:=sj h
  exact zz lzz
 refine jF hc4 ?_
 refine jp ?_
 refine jp ?_
 refine zA ?_
 obtain ⟨q,h_q,h⟩:=bnd h
 refine zal (fun s:(Bool×Int)=>zbI f v s.1 s.2) (fun s=>⟨[(0,.sl zi [0] sv),(4,.ptr 11 0),(5,.ptr 12 0),(7,kB s.1),(8,kI s.2)],[⟨11,64,[kS f.Name,kI f.Number,kI f.Kind,kB f.Repeated,kB f.Packed,kI f.Of]⟩,⟨12,56,[kI v.Number,.sl (Rp.int .u64) [0] v.Words,.sl Rp.str [0] v.Texts,.sl zd [0] v.Subs]⟩]⟩) (fun o e a w=>e= .exit 0∧Sx ⟨⟨111,[]⟩,Xt,false,#[]⟩ ⟨[(0,.sl zi [0] sv),(4,.ptr 11 0),(5,.ptr 12 0),(7,kB o)],[⟨11,64,[kS f.Name,kI f.Number,kI f.Kind,kB f.Repeated,kB f.Packed,kI f.Of]⟩,⟨12,56,[kI v.Number,.sl (Rp.int .u64) [0] v.Words,.sl Rp.str [0] v.Texts,.sl zd [0] v.Subs]⟩]⟩ a w) ?_ h_q lzz ?_
 ·
  clear h
  intro s o h
  obtain ⟨ok,i⟩:=s
  refine zp ?_
  replace h:zbI f v ok i=some o:=h
  unfold zbI at h
  refine jp ?_
  rcases zm h with ⟨hc5,h⟩| ⟨hc5,h⟩
  ·
   refine jT hc5 ?_
   refine zA ?_
   obtain ⟨g2,h_g2,h⟩:=bnd h
   refine zcT (R:=fun e a w=>e= .normal∧Sx ⟨⟨111,[]⟩,Xt,false,#[]⟩ ⟨[(0,.sl zi [0] sv),(4,.ptr 11 0),(5,.ptr 12 0),(7,kB g2),(8,kI i)],[⟨11,64,[kS f.Name,kI f.Number,kI f.Kind,kB f.Repeated,kB f.Packed,kI f.Of]⟩,⟨12,56,[kI v.Number,.sl (Rp.int .u64) [0] v.Words,.sl Rp.str [0] v.Texts,.sl zd [0] v.Subs]⟩]⟩ a w) ?_ (zeF ?_)
   ·
    refine zp ?_
    rcases Bool.eq_false_or_eq_true ok with hc6| hc6
    ·
     replace h_g2:=iteT h_g2 hc6
     obtain ⟨rv5,h_rv5,h_g2⟩:=bnd h_g2
     rcases Bool.eq_false_or_eq_true rv5 with hc7| hc7
     ·
      replace h_g2:=iteT h_g2 hc7
      obtain ⟨x,h_x,h_g2⟩:=bnd h_g2
      obtain ⟨rv6,h_rv6,h_g2⟩:=bnd h_g2
      obtain ⟨x2,h_x2,h_g2⟩:=bnd h_g2
      obtain rfl:=sj h_g2
      refine jd [0,4,5,7,8] [11,12] zcc (by exact (lw_e (lx (zbb ⟨[(37,kB ok)],[]⟩ (by kernel_rfl) hc6) (lw_e (lw_e (lx (lf1 39 (zae [kI f.Kind] [1] 12 rfl Tryz.call39 (zgV h_rv5) rfl rfl rfl rfl rfl)) (lw_e (lx (zbb ⟨[(42,kB rv5)],[]⟩ (by kernel_rfl) hc7) (lw_e (lw_e (lw_e (lw_e (lw_e (ly [.sl (Rp.int .u64) [0] v.Words,kI i] (zao rfl zld.el (zJ _ _ _) h_x) rfl (lw_e (lx (lf1 55 (zae [kI f.Kind,kU x] [1] 12 rfl Tryz.call55 (zoM h_rv6) rfl rfl rfl rfl rfl)) (lw_e (lw_e (lw_e (ly [.sl (Rp.int .u64) [0] v.Words,kI i] (zao rfl zld.el (zJ _ _ _) h_x2) rfl l0)))))))))))))))))))) ?_
      exact zL lzz
     replace h_g2:=iteF h_g2 hc7
     obtain rfl:=sj h_g2
     refine jd [0,4,5,7,8] [11,12] zcc (by exact (lw_e (lx (zbb ⟨[(37,kB ok)],[]⟩ (by kernel_rfl) hc6) (lw_e (lw_e (lx (lf1 39 (zae [kI f.Kind] [1] 12 rfl Tryz.call39 (zgV h_rv5) rfl rfl rfl rfl rfl)) (lw_e (lx (zbb ⟨[(42,kB rv5)],[]⟩ (by kernel_rfl) hc7) l0)))))))) ?_
     exact zL lzz
    replace h_g2:=iteF h_g2 hc6
    obtain rfl:=sj h_g2
    refine jd [0,4,5,7,8] [11,12] zcc (by exact (lw_e (lx (zbb ⟨[(37,kB ok)],[]⟩ (by kernel_rfl) hc6) l0))) ?_
    exact zL lzz
   refine zag ?_
   refine jp ?_
   obtain rfl:=sj h
   exact zL lzz
  refine jF hc5 ?_
  obtain rfl:=sj h
  exact zam rfl lzz
 refine zaD _ rfl ?_
 refine jp ?_
 refine zA ?_
 obtain ⟨q2,h_q2,h⟩:=bnd h
 refine zal (fun s:(Bool×Int)=>zbJ f v s.1 s.2) (fun s=>⟨[(0,.sl zi [0] sv),(4,.ptr 11 0),(5,.ptr 12 0),(7,kB s.1),(9,kI s.2)],[⟨11,64,[kS f.Name,kI f.Number,kI f.Kind,kB f.Repeated,kB f.Packed,kI f.Of]⟩,⟨12,56,[kI v.Number,.sl (Rp.int .u64) [0] v.Words,.sl Rp.str [0] v.Texts,.sl zd [0] v.Subs]⟩]⟩) (fun o e a w=>e= .exit 2∧Sx ⟨⟨111,[]⟩,Xt,false,#[]⟩ ⟨[(0,.sl zi [0] sv),(4,.ptr 11 0),(5,.ptr 12 0),(7,kB o)],[⟨11,64,[kS f.Name,kI f.Number,kI f.Kind,kB f.Repeated,kB f.Packed,kI f.Of]⟩,⟨12,56,[kI v.Number,.sl (Rp.int .u64) [0] v.Words,.sl Rp.str [0] v.Texts,.sl zd [0] v.Subs]⟩]⟩ a w) ?_ h_q2 lzz ?_
 ·
  clear h
  intro s o h
  obtain ⟨ok4,i2⟩:=s
  refine zp ?_
  replace h:zbJ f v ok4 i2=some o:=h
  unfold zbJ at h
  refine jp ?_
  rcases zm h with ⟨hc8,h⟩| ⟨hc8,h⟩
  ·
   refine jT hc8 ?_
   refine zA ?_
   obtain ⟨g3,h_g3,h⟩:=bnd h
   refine zW ⟨[(0,.sl zi [0] sv),(4,.ptr 11 0),(5,.ptr 12 0),(7,kB g3),(9,kI i2)],[⟨11,64,[kS f.Name,kI f.Number,kI f.Kind,kB f.Repeated,kB f.Packed,kI f.Of]⟩,⟨12,56,[kI v.Number,.sl (Rp.int .u64) [0] v.Words,.sl Rp.str [0] v.Texts,.sl zd [0] v.Subs]⟩]⟩ ?_ ?_
   ·
    refine (rsl 2 [] 67 ok4 (fun hc9=>?_) (fun hc9=>?_))
    ·
     replace h_g3:=iteT h_g3 hc9
     refine (rsl 4 [] 71 (f.Kind==16) (fun hc10=>?_) (fun hc10=>?_))
     ·
      replace h_g3:=iteT h_g3 hc10
      obtain rfl:=sj h_g3
      exact (rel [] lzz)
     replace h_g3:=iteF h_g3 hc10
     refine (rsl 4 [] 75 (f.Kind==15) (fun hc11=>?_) (fun hc11=>?_))
     ·
      replace h_g3:=iteT h_g3 hc11
      obtain ⟨x3,h_x3,h_g3⟩:=bnd h_g3
      obtain ⟨v3,h_v3,h_g3⟩:=bnd h_g3
      obtain ⟨rv7,h_rv7,h_g3⟩:=bnd h_g3
      obtain rfl:=sj h_g3
      exact (ra 3 [.sl Rp.str [0] v.Texts,kI i2] rfl (zao rfl zif.el (zJ _ _ _) h_x3) rfl (ra 1 [kS x3] rfl (zuk 15 rfl Tryz.underlying9 Tryz.underlying24 Tryz.underlying5 h_v3) rfl (rl 0 [15] 14 Tryz.call56 (zoL h_rv7) (rel [] lzz))))
     replace h_g3:=iteF h_g3 hc11
     obtain rfl:=sj h_g3
     exact (rel [] lzz)
    replace h_g3:=iteF h_g3 hc9
    obtain rfl:=sj h_g3
    exact (rel [] lzz)
   refine zag ?_
   refine jp ?_
   obtain rfl:=sj h
   exact zL lzz
  refine jF hc8 ?_
  obtain rfl:=sj h
  exact zam rfl lzz
 refine zaD _ rfl ?_
 refine jp ?_
 refine zA ?_
 obtain ⟨q3,h_q3,h⟩:=bnd h
 refine zal (fun s:(Bool×Int)=>zbK f rec_darningref14_Right sv v s.1 s.2) (fun s=>⟨[(0,.sl zi [0] sv),(4,.ptr 11 0),(5,.ptr 12 0),(7,kB s.1),(10,kI s.2)],[⟨11,64,[kS f.Name,kI f.Number,kI f.Kind,kB f.Repeated,kB f.Packed,kI f.Of]⟩,⟨12,56,[kI v.Number,.sl (Rp.int .u64) [0] v.Words,.sl Rp.str [0] v.Texts,.sl zd [0] v.Subs]⟩]⟩) (fun o e a w=>e= .exit 4∧Sx ⟨⟨111,[]⟩,Xt,false,#[]⟩ ⟨[(7,kB o)],[]⟩ a w) ?_ h_q3 lzz ?_
 ·
  clear h
  intro s o h
  obtain ⟨ok7,i3⟩:=s
  refine zp ?_
  replace h:zbK f rec_darningref14_Right sv v ok7 i3=some o:=h
  unfold zbK at h
  refine jp ?_
  rcases zm h with ⟨hc12,h⟩| ⟨hc12,h⟩
  ·
   refine jT hc12 ?_
   refine zA ?_
   obtain ⟨g4,h_g4,h⟩:=bnd h
   refine zcT (R:=fun e a w=>e= .normal∧Sx ⟨⟨111,[]⟩,Xt,false,#[]⟩ ⟨[(0,.sl zi [0] sv),(4,.ptr 11 0),(5,.ptr 12 0),(7,kB g4),(10,kI i3)],[⟨11,64,[kS f.Name,kI f.Number,kI f.Kind,kB f.Repeated,kB f.Packed,kI f.Of]⟩,⟨12,56,[kI v.Number,.sl (Rp.int .u64) [0] v.Words,.sl Rp.str [0] v.Texts,.sl zd [0] v.Subs]⟩]⟩ a w) ?_ (zeF ?_)
   ·
    refine zp ?_
    rcases Bool.eq_false_or_eq_true ok7 with hc13| hc13
    ·
     replace h_g4:=iteT h_g4 hc13
     rcases Bool.eq_false_or_eq_true (f.Kind==17) with hc14| hc14
     ·
      replace h_g4:=iteT h_g4 hc14
      obtain ⟨x4,h_x4,h_g4⟩:=bnd h_g4
      obtain ⟨rv8,h_rv8,h_g4⟩:=bnd h_g4
      obtain rfl:=sj h_g4
      refine jd [0,4,5,7,10] [11,12] zcc (by exact (lw_e (lx (zbb ⟨[(93,kB ok7)],[]⟩ (by kernel_rfl) hc13) (lw_e (lw_e (lw_e (lw_e (lx (zbb ⟨[(98,kB (f.Kind==17))],[]⟩ (by kernel_rfl) hc14) (lw_e (lw_e (lw_e (lw_e (lw_e (lw_e (ly [.sl zd [0] v.Subs,kI i3] (zao rfl zxI.el (zJ _ _ _) h_x4) rfl (ly [.ep zd [0] x4 0] (zci rfl ⟨Tryz.isAgg39,Tryz.sizeOf39⟩) rfl (lx (lf1 18 (zae [.sl zi [0] sv,kI f.Of,.rc zd [0] x4] [0] 15 rfl Tryz.call18 (hrec_darningref14_Right h_rv8) rfl rfl rfl rfl rfl)) l0))))))))))))))))) ?_
      exact zL lzz
     replace h_g4:=iteF h_g4 hc14
     obtain rfl:=sj h_g4
     refine jd [0,4,5,7,10] [11,12] zcc (by exact (lw_e (lx (zbb ⟨[(93,kB ok7)],[]⟩ (by kernel_rfl) hc13) (lw_e (lw_e (lw_e (lw_e (lx (zbb ⟨[(98,kB (f.Kind==17))],[]⟩ (by kernel_rfl) hc14) l0)))))))) ?_
     exact zL lzz
    replace h_g4:=iteF h_g4 hc13
    obtain rfl:=sj h_g4
    refine jd [0,4,5,7,10] [11,12] zcc (by exact (lw_e (lx (zbb ⟨[(93,kB ok7)],[]⟩ (by kernel_rfl) hc13) l0))) ?_
    exact zL lzz
   refine zag ?_
   refine jp ?_
   obtain rfl:=sj h
   exact zL lzz
  refine jF hc12 ?_
  obtain rfl:=sj h
  exact zam rfl lzz
 refine zaD _ rfl ?_
 refine jp ?_
 obtain rfl:=sj h
 exact zz lzz
theorem znZ {rec_darningref14_Fits:(List zh)→ze→zb→Option Bool} {rec_darningref14_Right:(List zh)→Int→zc→Option Bool} (hrec_darningref14_Fits:∀{sv:(List zh)} {f:ze} {v:zb} {r:Bool},rec_darningref14_Fits sv f v=some r→FnOk Tryz.prog 28 [.sl zi [0] sv,.rc zf [0] f,.rc za [0] v] [kB r]) (hrec_darningref14_Right:∀{sv:(List zh)} {root:Int} {x:zc} {r:Bool},rec_darningref14_Right sv root x=some r→FnOk Tryz.prog 18 [.sl zi [0] sv,kI root,.rc zd [0] x] [kB r]) {sv:(List zh)} {root:Int} {x:zc} {r:Bool} (h:zeE rec_darningref14_Fits rec_darningref14_Right sv root x=some r):FnOk Tryz.prog 18 [.sl zi [0] sv,kI root,.rc zd [0] x] [kB r]:=by
 refine zC (E:=⟨[(6,kB r)],[]⟩) 118 Tryz.func18 rfl rfl rfl ⟨rfl,trivial⟩ (fun Xt=>?_)
 refine zp ?_
 unfold zeE at h
 refine jr (ra 0 [.rc zd [0] x] rfl (zcb 11 [.sl za [0] x.Values,.sl Rp.str [0] x.Unknown] [0] rfl rfl rfl (by rw [zo]<;>rfl) rfl) rfl rf) ?_
 refine zW ⟨[(0,.sl zi [0] sv),(1,kI root),(5,.ptr 11 0),(19,kB ((decide (root<0))|| (decide (root≥(sv.length:Int)))))],[⟨11,39,[.sl za [0] x.Values,.sl Rp.str [0] x.Unknown]⟩]⟩ ?_ ?_
 ·
  refine (rsl 3 [] 14 (decide (root<0)) (fun hc1=>?_) (fun hc1=>?_))
  · exact (rbl [] 19 true ((decide (root<0))|| (decide (root≥(sv.length:Int)))) (by rw [hc1]<;>rfl))
  exact (rbl [] 19 (decide (root≥(sv.length:Int))) ((decide (root<0))|| (decide (root≥(sv.length:Int)))) (by rw [hc1]<;>rfl))
 rcases zm h with ⟨hc2,h⟩| ⟨hc2,h⟩
 ·
  refine jT hc2 ?_
  refine jp ?_
  obtain rfl:=sj h
  exact zz lzz
 refine jF hc2 ?_
 refine jp ?_
 refine zA ?_
 obtain ⟨q,h_q,h⟩:=bnd h
 refine zal (fun s:Int=>zaX rec_darningref14_Fits root sv x s) (fun s=>⟨[(0,.sl zi [0] sv),(1,kI root),(5,.ptr 11 0),(7,kI s)],[⟨11,39,[.sl za [0] x.Values,.sl Rp.str [0] x.Unknown]⟩]⟩) (fun o e a w=>match o with| (.inl v_)=>e= .exit 0∧Sx ⟨⟨118,[]⟩,Xt,false,#[]⟩ ⟨[(0,.sl zi [0] sv),(1,kI root),(5,.ptr 11 0)],[⟨11,39,[.sl za [0] x.Values,.sl Rp.str [0] x.Unknown]⟩]⟩ a w| (.inr v_)=>e= .ret∧Sx ⟨⟨118,[]⟩,Xt,false,#[]⟩ ⟨[(6,kB false)],[]⟩ a w) ?_ h_q lzz ?_
 ·
  clear h
  intro i o h
  refine zp ?_
  replace h:zaX rec_darningref14_Fits root sv x i=some o:=h
  unfold zaX at h
  refine jp ?_
  rcases zm h with ⟨hc3,h⟩| ⟨hc3,h⟩
  ·
   refine jT hc3 ?_
   refine zA ?_
   obtain ⟨x2,h_x2,h⟩:=bnd h
   obtain ⟨x3,h_x3,h⟩:=bnd h
   obtain ⟨rv,h_rv,h⟩:=bnd h
   refine jd [0,1,5,7,8] [11] zcc (by exact (lw_e (lw_e (ly [.sl zi [0] sv,kI root] (zao rfl zhT.el (zJ _ _ _) h_x2) rfl (ly [.ep zi [0] x2 0] (zci rfl ⟨Tryz.isAgg73,Tryz.sizeOf73⟩) rfl (lw_e (lw_e (lw_e (ly [.sl za [0] x.Values,kI i] (zao rfl zlY.el (zJ _ _ _) h_x3) rfl (lw_e (ly [.ep za [0] x3 0] (zsL (.int .i64 x3.Number) rfl rfl (by rw [zq]<;>rfl) rfl) rfl (lx (lf1 44 (zae [.rc zi [0] x2,kI x3.Number] [0] 11 rfl Tryz.call44 (zjC h_rv) rfl rfl rfl rfl rfl)) l0)))))))))))) ?_
   obtain ⟨g,h_g,h⟩:=bnd h
   refine zcT (R:=fun e a w=>e= .normal∧Sx ⟨⟨118,[]⟩,Xt,false,#[]⟩ ⟨[(0,.sl zi [0] sv),(1,kI root),(5,.ptr 11 0),(7,kI i),(77,kB g)],[⟨11,39,[.sl za [0] x.Values,.sl Rp.str [0] x.Unknown]⟩]⟩ a w) ?_ (zeF ?_)
   ·
    refine zp ?_
    rcases Bool.eq_false_or_eq_true (decide (rv<0)) with hc4| hc4
    ·
     replace h_g:=iteT h_g hc4
     obtain rfl:=sj h_g
     refine jd [0,1,5,7,77] [11] zcc (by exact (lw_e (lw_e (lx (zbb ⟨[(39,kB (decide (rv<0)))],[]⟩ (by kernel_rfl) hc4) l0)))) ?_
     exact zL lzz
    replace h_g:=iteF h_g hc4
    rcases Bool.eq_false_or_eq_true (decide (i>0)) with hc5| hc5
    ·
     replace h_g:=iteT h_g hc5
     obtain ⟨x4,h_x4,h_g⟩:=bnd h_g
     obtain ⟨x5,h_x5,h_g⟩:=bnd h_g
     rcases Bool.eq_false_or_eq_true (decide (x4.Number≥x5.Number)) with hc6| hc6
     ·
      replace h_g:=iteT h_g hc6
      obtain rfl:=sj h_g
      refine jd [0,1,5,7,77] [11] zcc (by exact (lw_e (lw_e (lx (zbb ⟨[(39,kB (decide (rv<0)))],[]⟩ (by kernel_rfl) hc4) (lw_e (lw_e (lx (zbb ⟨[(42,kB (decide (i>0)))],[]⟩ (by kernel_rfl) hc5) (lw_e (lw_e (lw_e (lw_e (ly [.sl za [0] x.Values,kI (IntKind.i64.wrap (i - 1))] (zao rfl zlY.el (zJ _ _ _) h_x4) rfl (lw_e (ly [.ep za [0] x4 0] (zsL (.int .i64 x4.Number) rfl rfl (by rw [zq]<;>rfl) rfl) rfl (lw_e (lw_e (lw_e (ly [.sl za [0] x.Values,kI i] (zao rfl zlY.el (zJ _ _ _) h_x5) rfl (lw_e (ly [.ep za [0] x5 0] (zsL (.int .i64 x5.Number) rfl rfl (by rw [zq]<;>rfl) rfl) rfl (lw_e (lw_e (lw_e (lx (zbb ⟨[(59,kB (decide (x4.Number≥x5.Number)))],[]⟩ (by kernel_rfl) hc6) l0)))))))))))))))))))))))) ?_
      exact zL lzz
     replace h_g:=iteF h_g hc6
     obtain ⟨x6,h_x6,h_g⟩:=bnd h_g
     obtain ⟨x7,h_x7,h_g⟩:=bnd h_g
     obtain ⟨x8,h_x8,h_g⟩:=bnd h_g
     obtain ⟨rv2,h_rv2,h_g⟩:=bnd h_g
     obtain rfl:=sj h_g
     refine jd [0,1,5,7,77] [11] zcc (by exact (lw_e (lw_e (lx (zbb ⟨[(39,kB (decide (rv<0)))],[]⟩ (by kernel_rfl) hc4) (lw_e (lw_e (lx (zbb ⟨[(42,kB (decide (i>0)))],[]⟩ (by kernel_rfl) hc5) (lw_e (lw_e (lw_e (lw_e (ly [.sl za [0] x.Values,kI (IntKind.i64.wrap (i - 1))] (zao rfl zlY.el (zJ _ _ _) h_x4) rfl (lw_e (ly [.ep za [0] x4 0] (zsL (.int .i64 x4.Number) rfl rfl (by rw [zq]<;>rfl) rfl) rfl (lw_e (lw_e (lw_e (ly [.sl za [0] x.Values,kI i] (zao rfl zlY.el (zJ _ _ _) h_x5) rfl (lw_e (ly [.ep za [0] x5 0] (zsL (.int .i64 x5.Number) rfl rfl (by rw [zq]<;>rfl) rfl) rfl (lw_e (lw_e (lw_e (lx (zbb ⟨[(59,kB (decide (x4.Number≥x5.Number)))],[]⟩ (by kernel_rfl) hc6) (lw_e (lw_e (lw_e (ly [.sl zi [0] sv,kI root] (zao rfl zhT.el (zJ _ _ _) h_x6) rfl (lw_e (ly [.ep zi [0] x6 1] (zhq zf x6.Fields rfl rfl rfl) rfl (lw_e (ly [.sl zf [0] x6.Fields,kI rv] (zao rfl zle.el (zJ _ _ _) h_x7) rfl (ly [.ep zf [0] x7 0] (zci rfl ⟨Tryz.isAgg64,Tryz.sizeOf64⟩) rfl (lw_e (lw_e (lw_e (ly [.sl za [0] x.Values,kI i] (zao rfl zlY.el (zJ _ _ _) h_x8) rfl (ly [.ep za [0] x8 0] (zci rfl ⟨Tryz.isAgg56,Tryz.sizeOf56⟩) rfl (lx (lf1 28 (zae [.sl zi [0] sv,.rc zf [0] x7,.rc za [0] x8] [0] 11 rfl Tryz.call28 (hrec_darningref14_Fits h_rv2) rfl rfl rfl rfl rfl)) l0))))))))))))))))))))))))))))))))))))))) ?_
     exact zL lzz
    replace h_g:=iteF h_g hc5
    obtain ⟨x9,h_x9,h_g⟩:=bnd h_g
    obtain ⟨x10,h_x10,h_g⟩:=bnd h_g
    obtain ⟨x11,h_x11,h_g⟩:=bnd h_g
    obtain ⟨rv3,h_rv3,h_g⟩:=bnd h_g
    obtain rfl:=sj h_g
    refine jd [0,1,5,7,77] [11] zcc (by exact (lw_e (lw_e (lx (zbb ⟨[(39,kB (decide (rv<0)))],[]⟩ (by kernel_rfl) hc4) (lw_e (lw_e (lx (zbb ⟨[(42,kB (decide (i>0)))],[]⟩ (by kernel_rfl) hc5) (lw_e (lw_e (lw_e (lw_e (lw_e (lw_e (lw_e (lw_e (lw_e (lw_e (lw_e (lw_e (lw_e (lw_e (lw_e (lw_e (lw_e (lw_e (lw_e (lw_e (ly [.sl zi [0] sv,kI root] (zao rfl zhT.el (zJ _ _ _) h_x9) rfl (lw_e (ly [.ep zi [0] x9 1] (zhq zf x9.Fields rfl rfl rfl) rfl (lw_e (ly [.sl zf [0] x9.Fields,kI rv] (zao rfl zle.el (zJ _ _ _) h_x10) rfl (ly [.ep zf [0] x10 0] (zci rfl ⟨Tryz.isAgg64,Tryz.sizeOf64⟩) rfl (lw_e (lw_e (lw_e (ly [.sl za [0] x.Values,kI i] (zao rfl zlY.el (zJ _ _ _) h_x11) rfl (ly [.ep za [0] x11 0] (zci rfl ⟨Tryz.isAgg56,Tryz.sizeOf56⟩) rfl (lx (lf1 28 (zae [.sl zi [0] sv,.rc zf [0] x10,.rc za [0] x11] [0] 11 rfl Tryz.call28 (hrec_darningref14_Fits h_rv3) rfl rfl rfl rfl rfl)) l0))))))))))))))))))))))))))))))))))))))) ?_
    exact zL lzz
   rcases zm h with ⟨hc7,h⟩| ⟨hc7,h⟩
   ·
    refine jT hc7 ?_
    refine jp ?_
    obtain rfl:=sj h
    exact zaZ lzz
   refine jF hc7 ?_
   refine zag ?_
   refine jp ?_
   obtain rfl:=sj h
   exact zL lzz
  refine jF hc3 ?_
  obtain rfl:=sj h
  exact zam rfl lzz
 rcases q with u| u4
 ·
  refine zaD _ rfl ?_
  refine jp ?_
  refine zA ?_
  obtain ⟨q2,h_q2,h⟩:=bnd h
  refine zal (fun s:Int=>zaY root sv x s) (fun s=>⟨[(0,.sl zi [0] sv),(1,kI root),(5,.ptr 11 0),(9,kI s)],[⟨11,39,[.sl za [0] x.Values,.sl Rp.str [0] x.Unknown]⟩]⟩) (fun o e a w=>match o with| (.inl v_)=>e= .exit 2∧Sx ⟨⟨118,[]⟩,Xt,false,#[]⟩ ⟨[],[]⟩ a w| (.inr v_)=>e= .ret∧Sx ⟨⟨118,[]⟩,Xt,false,#[]⟩ ⟨[(6,kB false)],[]⟩ a w) ?_ h_q2 lzz ?_
  ·
   clear h
   intro i2 o h
   refine zp ?_
   replace h:zaY root sv x i2=some o:=h
   unfold zaY at h
   refine jp ?_
   rcases zm h with ⟨hc8,h⟩| ⟨hc8,h⟩
   ·
    refine jT hc8 ?_
    refine zA ?_
    obtain ⟨x12,h_x12,h⟩:=bnd h
    obtain ⟨v3,h_v3,h⟩:=bnd h
    obtain ⟨rv4,h_rv4,h⟩:=bnd h
    refine jr (ra 3 [.sl Rp.str [0] x.Unknown,kI i2] rfl (zao rfl zif.el (zJ _ _ _) h_x12) rfl (ra 1 [kS x12] rfl (zuk 14 rfl Tryz.underlying9 Tryz.underlying24 Tryz.underlying5 h_v3) rfl (rl 0 [14] 13 Tryz.call45 (zph h_rv4) (rfl' [15])))) ?_
    obtain ⟨g2,h_g2,h⟩:=bnd h
    refine zcT (R:=fun e a w=>e= .normal∧Sx ⟨⟨118,[]⟩,Xt,false,#[]⟩ ⟨[(0,.sl zi [0] sv),(1,kI root),(5,.ptr 11 0),(9,kI i2),(117,kB g2)],[⟨11,39,[.sl za [0] x.Values,.sl Rp.str [0] x.Unknown]⟩]⟩ a w) ?_ (zeF ?_)
    ·
     refine zp ?_
     rcases Bool.eq_false_or_eq_true (rv4.2 !=0) with hc9| hc9
     ·
      replace h_g2:=iteT h_g2 hc9
      obtain rfl:=sj h_g2
      refine jd [0,1,5,9,117] [11] zcc (by exact (lw_e (lw_e (lx (zbb ⟨[(96,kB (rv4.2 !=0))],[]⟩ (by kernel_rfl) hc9) l0)))) ?_
      exact zL lzz
     replace h_g2:=iteF h_g2 hc9
     obtain ⟨x13,h_x13,h_g2⟩:=bnd h_g2
     rcases Bool.eq_false_or_eq_true (rv4.1.To !=(x13.length:Int)) with hc10| hc10
     ·
      replace h_g2:=iteT h_g2 hc10
      obtain rfl:=sj h_g2
      refine jd [0,1,5,9,117] [11] zcc (by exact (lw_e (lw_e (lx (zbb ⟨[(96,kB (rv4.2 !=0))],[]⟩ (by kernel_rfl) hc9) (lw_e (lw_e (lw_e (lw_e (lw_e (ly [.sl Rp.str [0] x.Unknown,kI i2] (zao rfl zif.el (zJ _ _ _) h_x13) rfl (lw_e (lw_e (lw_e (lw_e (lx (zbb ⟨[(107,kB (rv4.1.To !=(x13.length:Int)))],[]⟩ (by kernel_rfl) hc10) l0))))))))))))))) ?_
      exact zL lzz
     replace h_g2:=iteF h_g2 hc10
     obtain ⟨x14,h_x14,h_g2⟩:=bnd h_g2
     obtain ⟨rv5,h_rv5,h_g2⟩:=bnd h_g2
     obtain rfl:=sj h_g2
     refine jd [0,1,5,9,117] [11] zcc (by exact (lw_e (lw_e (lx (zbb ⟨[(96,kB (rv4.2 !=0))],[]⟩ (by kernel_rfl) hc9) (lw_e (lw_e (lw_e (lw_e (lw_e (ly [.sl Rp.str [0] x.Unknown,kI i2] (zao rfl zif.el (zJ _ _ _) h_x13) rfl (lw_e (lw_e (lw_e (lw_e (lx (zbb ⟨[(107,kB (rv4.1.To !=(x13.length:Int)))],[]⟩ (by kernel_rfl) hc10) (lw_e (lw_e (ly [.sl zi [0] sv,kI root] (zao rfl zhT.el (zJ _ _ _) h_x14) rfl (ly [.ep zi [0] x14 0] (zci rfl ⟨Tryz.isAgg73,Tryz.sizeOf73⟩) rfl (lw_e (lw_e (lx (lf1 44 (zae [.rc zi [0] x14,kI rv4.1.Number] [0] 14 rfl Tryz.call44 (zjC h_rv5) rfl rfl rfl rfl rfl)) l0)))))))))))))))))))))) ?_
     exact zL lzz
    rcases zm h with ⟨hc11,h⟩| ⟨hc11,h⟩
    ·
     refine jT hc11 ?_
     refine jp ?_
     obtain rfl:=sj h
     exact zaZ lzz
    refine jF hc11 ?_
    refine zag ?_
    refine jp ?_
    obtain rfl:=sj h
    exact zL lzz
   refine jF hc8 ?_
   obtain rfl:=sj h
   exact zam rfl lzz
  rcases q2 with u2| u3
  ·
   refine zaD _ rfl ?_
   refine jp ?_
   obtain rfl:=sj h
   exact zz lzz
  obtain rfl:=sj h
  exact zcK lzz
 obtain rfl:=sj h
 exact zcK lzz
theorem zgM (fuel:Nat):(∀{sv:(List zh)} {f:ze} {v:zb} {r:Bool},zdX fuel sv f v=some r→FnOk Tryz.prog 28 [.sl zi [0] sv,.rc zf [0] f,.rc za [0] v] [kB r])∧(∀{sv:(List zh)} {root:Int} {x:zc} {r:Bool},zch fuel sv root x=some r→FnOk Tryz.prog 18 [.sl zi [0] sv,kI root,.rc zd [0] x] [kB r]):=by
  induction fuel with
  | zero=>exact ⟨fun h=>absurd h nofun,fun h=>absurd h nofun⟩
  | succ fuel ih=>exact ⟨fun h=>zoQ (fun hh=>ih.1 hh) (fun hh=>ih.2 hh) h,fun h=>znZ (fun hh=>ih.1 hh) (fun hh=>ih.2 hh) h⟩
theorem zoR {fuel:Nat} {sv:(List zh)} {root:Int} {x:zc} {r:Bool} (h:zch fuel sv root x=some r):FnOk Tryz.prog 18 [.sl zi [0] sv,kI root,.rc zd [0] x] [kB r]:=(zgM fuel).2 h
theorem zAE {fuel:Nat} {x:zc} {number:Int} {r:(zb×Bool)} (h:zpJ fuel x number=some r):FnOk Tryz.prog 19 [.rc zd [0] x,kI number] [.ag [kI r.1.Number,.sl (Rp.int .u64) [3,4,0,5,6] r.1.Words,.sl Rp.str [3,4,0,5,6] r.1.Texts,.sl zd [3,4,0,5,6] r.1.Subs],kB r.2]:=by
 refine zC (E:=⟨[(4,.ptr 2 0),(5,kB r.2)],[⟨2,50,[kI r.1.Number,.sl (Rp.int .u64) [3,4,0,5,6] r.1.Words,.sl Rp.str [3,4,0,5,6] r.1.Texts,.sl zd [3,4,0,5,6] r.1.Subs]⟩]⟩) 28 Tryz.func19 rfl rfl rfl ⟨⟨_,_,rfl,rfl,rfl,⟨Tryz.isAgg50,Tryz.sizeOf50⟩⟩,rfl,trivial⟩ (fun Xt=>?_)
 refine zp ?_
 unfold zpJ at h
 refine jr (ra 0 [.rc zd [0] x] rfl (zcb 20 [.sl za [0] x.Values,.sl Rp.str [0] x.Unknown] [0] rfl rfl rfl (by rw [zo]<;>rfl) rfl) rfl (rfl' [21])) ?_
 refine jp ?_
 refine zA ?_
 obtain ⟨q,h_q,h⟩:=bnd h
 refine zal (fun s:Int=>zeK fuel number x s) (fun s=>⟨[(1,kI number),(4,.ptr 21 0),(9,.sl za [0] x.Values),(10,kI (x.Values.length:Int)),(11,kI s)],[⟨21,50,[kI 0,kN,kN,kN]⟩]⟩) (fun o e a w=>match o with| (.inl v_)=>e= .exit 0∧Sx ⟨⟨28,[]⟩,Xt,false,#[]⟩ ⟨[(4,.ptr 21 0)],[⟨21,50,[kI 0,kN,kN,kN]⟩]⟩ a w| (.inr v_)=>e= .ret∧Sx ⟨⟨28,[]⟩,Xt,false,#[]⟩ ⟨[(4,.ptr 21 0),(5,kB v_.1)],[⟨21,50,[kI v_.2.1,.sl (Rp.int .u64) [26,24,0,27,28] v_.2.2.1,.sl Rp.str [26,24,0,27,28] v_.2.2.2.1,.sl zd [26,24,0,27,28] v_.2.2.2.2]⟩]⟩ a w) ?_ h_q lzz ?_
 ·
  clear h
  intro v o h
  refine zp ?_
  replace h:zeK fuel number x v=some o:=h
  unfold zeK at h
  refine jp ?_
  rcases zm h with ⟨hc1,h⟩| ⟨hc1,h⟩
  ·
   refine jT hc1 ?_
   refine zA ?_
   obtain ⟨x2,h_x2,h⟩:=bnd h
   refine jr (ra 0 [.sl za [0] x.Values,kI v] rfl (zao rfl zkQ.el (zJ _ _ _) h_x2) rfl (ra 0 [.ep za [0] x2 0] rfl (zci rfl ⟨Tryz.isAgg50,Tryz.sizeOf50⟩) rfl (ral 1 [29] [.ptr 29 0,.rc za [0] x2] rfl (zgA (r:=za) (b:=⟨29,50,[kI 0,kN,kN,kN]⟩) (off:=0) [kI x2.Number,.sl (Rp.int .u64) [0] x2.Words,.sl Rp.str [0] x2.Texts,.sl zd [0] x2.Subs] rfl Tryz.sizeOf50 rfl rfl (by rw [zq]<;>rfl) rfl) rfl rf))) ?_
   refine jp ?_
   rcases zm h with ⟨hc2,h⟩| ⟨hc2,h⟩
   ·
    refine jT hc2 ?_
    obtain ⟨rv,h_rv,h⟩:=bnd h
    obtain ⟨rv2,h_rv2,h⟩:=bnd h
    refine jr (rc 1 rfl (zG.le (ins':=[(.tmp 19,.ag [kI x2.Number,.sl (Rp.int .u64) [0] x2.Words,.sl Rp.str [0] x2.Texts,.sl zd [0] x2.Subs])]) (zfk [.rc za [0] x2] 30 [0] ([x2]:(List zb)) rfl zkQ rfl rfl rfl (by simp only [ztu,zln,zkV,zq,List.flatMap_cons,List.flatMap_nil]<;>rfl)) ⟨⟨rfl,zaa za [0] x2 [kI x2.Number,.sl (Rp.int .u64) [0] x2.Words,.sl Rp.str [0] x2.Texts,.sl zd [0] x2.Subs] (by rw [zq]<;>rfl) rfl⟩,trivial⟩) (ra 0 [.own za 50 30 [0] ([x2]:(List zb))] rfl (zeP [.own za 50 30 [0] ([x2]:(List zb))] [.own za 50 30 [0] ([x2]:(List zb)),kN] rfl zCY rfl) rfl (rc 0 rfl (zG.le (ins':=[(.tmp 21,.ag [.own za 50 30 [0] ([x2]:(List zb)),kN])]) (zae (args:=[.tmp 21]) [.rc zd [30,0] (⟨([x2]:(List zb)),[]⟩:zc)] [30,0] 29 rfl Tryz.call25 (zsc h_rv) rfl rfl rfl rfl rfl) ⟨⟨rfl,zIP (b:= .ag [.own za 50 30 [0] ([x2]:(List zb)),.sl Rp.str [] []]) (zhH ⟨AV.le_refl _,zgz _ _,trivial⟩) (zaa zd [30,0] (⟨([x2]:(List zb)),[]⟩:zc) [.own za 50 30 [0] ([x2]:(List zb)),.sl Rp.str [] []] (by rw [zo]<;>rfl) rfl)⟩,trivial⟩) (rc 0 rfl (zG.le (ins':=[(.tmp 22,.ag [.own za 50 32 [30,0,33] rv.Values,.own Rp.str 9 34 [] rv.Unknown])]) (zae (args:=[.tmp 22]) [.rc zd [32,30,0,33,34] rv] [32,30,0,33,34] 33 rfl Tryz.call46 (zwx h_rv2) rfl rfl rfl rfl rfl) ⟨⟨rfl,zaa zd [32,30,0,33,34] rv [.own za 50 32 [30,0,33] rv.Values,.own Rp.str 9 34 [] rv.Unknown] (by rw [zo]<;>rfl) rfl⟩,trivial⟩) rf)))) ?_
    obtain rfl:=sj h
    refine zaZ ?_
    refine lk [4,5] [21] 32 28 ?_
    refine lk [4,5] [21] 30 28 ?_
    refine lk [4,5] [21] 33 28 ?_
    refine lk [4,5] [21] 34 28 ?_
    refine zbX ⟨[(4,.ptr 21 0),(5,kB rv2.2)],[⟨21,50,[kI rv2.1.Number,.sl (Rp.int .u64) [28,28,0,28,28] rv2.1.Words,.sl Rp.str [28,28,0,28,28] rv2.1.Texts,.sl zd [28,28,0,28,28] rv2.1.Subs]⟩]⟩ (by kernel_rfl) ?_
    refine zdN 21 1 (.sl (Rp.int .u64) [26,24,0,27,28] rv2.1.Words) rfl rfl (zxe _ _ _ _ rfl) ?_
    refine zdN 21 2 (.sl Rp.str [26,24,0,27,28] rv2.1.Texts) rfl rfl (zxe _ _ _ _ rfl) ?_
    refine zdN 21 3 (.sl zd [26,24,0,27,28] rv2.1.Subs) rfl rfl (zxe _ _ _ _ rfl) ?_
    exact lzz
   refine jF hc2 ?_
   refine zag ?_
   refine jp ?_
   obtain rfl:=sj h
   exact zL lzz
  refine jF hc1 ?_
  obtain rfl:=sj h
  exact zam rfl lzz
 rcases q with u| u2
 ·
  refine zaD _ rfl ?_
  refine jr (ra 0 [] rfl (zeP [] [kI 0,kN,kN,kN] rfl zCZ rfl) rfl rf) ?_
  obtain rfl:=sj h
  refine zz ?_
  refine lk [4,5] [21] 21 2 ?_
  refine zbX ⟨[(4,.ptr 2 0),(5,kB false)],[⟨2,50,[kI 0,kN,kN,kN]⟩]⟩ (by kernel_rfl) ?_
  refine zdN 2 1 (.sl (Rp.int .u64) [3,4,0,5,6] (((⟨0,[],[],[]⟩:zb),false):(zb×Bool)).1.Words) rfl rfl (zgz (Rp.int .u64) [3,4,0,5,6]) ?_
  refine zdN 2 2 (.sl Rp.str [3,4,0,5,6] (((⟨0,[],[],[]⟩:zb),false):(zb×Bool)).1.Texts) rfl rfl (zgz Rp.str [3,4,0,5,6]) ?_
  refine zdN 2 3 (.sl zd [3,4,0,5,6] (((⟨0,[],[],[]⟩:zb),false):(zb×Bool)).1.Subs) rfl rfl (zgz zd [3,4,0,5,6]) ?_
  exact lzz
 obtain rfl:=sj h
 refine zcK ?_
 refine lk [4,5] [21] 21 2 ?_
 refine lk [4,5] [2] 26 6 ?_
 refine lk [4,5] [2] 24 6 ?_
 refine lk [4,5] [2] 27 6 ?_
 refine lk [4,5] [2] 28 6 ?_
 refine zbX ⟨[(4,.ptr 2 0),(5,kB u2.1)],[⟨2,50,[kI u2.2.1,.sl (Rp.int .u64) [6,6,0,6,6] u2.2.2.1,.sl Rp.str [6,6,0,6,6] u2.2.2.2.1,.sl zd [6,6,0,6,6] u2.2.2.2.2]⟩]⟩ (by kernel_rfl) ?_
 refine zdN 2 1 (.sl (Rp.int .u64) [3,4,0,5,6] (((⟨u2.2.1,u2.2.2.1,u2.2.2.2.1,u2.2.2.2.2⟩:zb),u2.1):(zb×Bool)).1.Words) rfl rfl (zxe _ _ _ _ rfl) ?_
 refine zdN 2 2 (.sl Rp.str [3,4,0,5,6] (((⟨u2.2.1,u2.2.2.1,u2.2.2.2.1,u2.2.2.2.2⟩:zb),u2.1):(zb×Bool)).1.Texts) rfl rfl (zxe _ _ _ _ rfl) ?_
 refine zdN 2 3 (.sl zd [3,4,0,5,6] (((⟨u2.2.1,u2.2.2.1,u2.2.2.2.1,u2.2.2.2.2⟩:zb),u2.1):(zb×Bool)).1.Subs) rfl rfl (zxe _ _ _ _ rfl) ?_
 exact lzz
theorem zsi {m:zh} {text:Str} {r:Bool} (h:zhO m text=some r):FnOk Tryz.prog 73 [.rc zi [0] m,kS text] [kB r]:=by
 refine zC (E:=⟨[(4,kB r)],[]⟩) 33 Tryz.func73 rfl rfl rfl ⟨rfl,trivial⟩ (fun Xt=>?_)
 refine zp ?_
 unfold zhO at h
 refine jr (ra 0 [.rc zi [0] m] rfl (zcb 11 [kS m.Name,.sl zf [0] m.Fields] [0] rfl rfl rfl rfl rfl) rfl rf) ?_
 obtain ⟨v,h_v,h⟩:=bnd h
 obtain ⟨rv,h_rv,h⟩:=bnd h
 refine jr (ra 1 [kS text] rfl (zuk 12 rfl Tryz.underlying9 Tryz.underlying24 Tryz.underlying5 h_v) rfl (rl 0 [12] 11 Tryz.call98 (zlO h_rv) (rfl' [13]))) ?_
 refine zW ⟨[(2,.ptr 11 0),(5,.ptr 13 0),(23,kB ((rv.2 !=0)|| (rv.1.To !=(text.length:Int))))],[⟨11,73,[kS m.Name,.sl zf [0] m.Fields]⟩,⟨13,111,[kI rv.1.Number,kI rv.1.Wire,kI rv.1.From,kI rv.1.At,kI rv.1.To]⟩]⟩ ?_ ?_
 ·
  refine (rsl 3 [] 17 (rv.2 !=0) (fun hc1=>?_) (fun hc1=>?_))
  · exact (rbl [] 23 true ((rv.2 !=0)|| (rv.1.To !=(text.length:Int))) (by rw [hc1]<;>rfl))
  exact (rbl [] 23 (rv.1.To !=(text.length:Int)) ((rv.2 !=0)|| (rv.1.To !=(text.length:Int))) (by rw [hc1]<;>rfl))
 rcases zm h with ⟨hc2,h⟩| ⟨hc2,h⟩
 ·
  refine jT hc2 ?_
  refine jp ?_
  obtain rfl:=sj h
  exact zz lzz
 refine jF hc2 ?_
 obtain ⟨rv2,h_rv2,h⟩:=bnd h
 refine jr (rl 3 [0] 12 Tryz.call72 (zlR h_rv2) rf) ?_
 refine jp ?_
 obtain rfl:=sj h
 exact zz lzz
end Go.Proofs.YtcbkcblkecmjnaaGreat
