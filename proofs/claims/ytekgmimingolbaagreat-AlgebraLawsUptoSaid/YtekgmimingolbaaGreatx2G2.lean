/-
  The Go functions do what the plain functions say. No condition.
-/
import Derived.Test.YtekgmimingolbaaGreatx2T
import Derived.Test.YtekgmimingolbaaGreatx2Y
set_option autoImplicit true
set_option relaxedAutoImplicit true
namespace Go.Proofs.YtekgmimingolbaaGreat
open Go Go.RowKit
set_option linter.unusedVariables false
set_option maxRecDepth 100000
set_option maxHeartbeats 3200000
theorem zpq {ways:(List (List Int))} (h:zgG ways=some r):FnOk Tryz.prog 120 [.sl wx [0] ways] [.mp wu wy [2,3,0] r]:=by
 refine zz (E:=⟨[(2,.mp wu wy [2,3,0] r)],[]⟩) 28 Tryz.func120 rfl rfl rfl ⟨rfl,trivial⟩ (fun Xt=>?_);refine zq ?_;unfold zgG at h;refine jp (jr (ra 0 [] rfl (zFt (rk:=wu) (r:=wx) (e:=53) 13 rfl) rfl rf) (jp (zB (jb h fun q uF h=>zaH (fun s:((List (Int×(List (List Int))))×Int)=>zbY ways s.1 s.2) (fun s=>⟨[(3,.mo wu wx 53 13 [14,0] s.1),(7,.sl wx [0] ways),(8,kI (ways.length:Int)),(9,kI s.2)],[]⟩) (fun o e a w=>e= .exit 0/\Sx ⟨⟨28,[]⟩,Xt,false,#[]⟩ ⟨[(3,.mo wu wx 53 13 [14,0] o)],[]⟩ a w) ?_ uF ?_ ?_))))
 ·clear h;intro s o h;obtain ⟨rests,v⟩:=s;refine zq ?_;replace h:zbY ways rests v=some o:=h;unfold zbY at h;refine jp (jI h (fun uA h=>?_) fun uA h=>?_)
  ·refine zB (jb h fun x uI h=>jr (ra 0 [.sl wx [0] ways,kI v] rfl (zbt rfl zkj.el (zV _ _ _) uI) rfl (ra 0 [.ep wx [0] x 0] rfl (zgf wu x rfl rfl rfl) rfl rf)) (jb h fun x2 uL h=>jb h fun v2 uV h=>jb h fun v3 uY h=>jk [3,5,7,8,9] [] (zoH ⟨[(3,.mo wu wx 53 13 [14,0,17] (mput rests x2 v3)),(7,.sl wx [0] ways),(8,kI (ways.length:Int)),(9,kI v)],[]⟩ [.raw [5] [] [] [.ms 13 13],.ev,.ex [] [] [] (.ep wu [0] x2 0) [],.ev,.raw [9] [] [] [.ms 17 13],.ev,.ex [] [] [] (.ep wu [0] x2 0) [],.ev,.raw [3,8,0] [] [] [.lk 21 wu wx 53 13 [14,0] rests x2],.ev,.ex [] [] [] (.sl wu [0] v2) [],.ex [] [] [17] (.own wx 53 17 [0] ([v2]:(List (List Int)))) [],.raw [3,0] [13] [] [.ap 25 wu wx 53 13 [14,0,17] rests x2 v3],.raw [0,11,8,16] [13] [] [.sl 3 (.mo wu wx 53 13 [14,0,17] (mput rests x2 v3))]] [⟨[],[],[.ms 3 13]⟩,⟨[(.tmp 14,.sl wu [0] x),(.const (.int .i64 0),kI 0)],[],[]⟩,⟨[],[],[.ms 3 13]⟩,⟨[(.tmp 18,.sl wu [0] x),(.const (.int .i64 0),kI 0)],[],[]⟩,⟨[],[],[.ms 17 13,.sl 3 (.mo wu wx 53 13 [14,0] rests),.sl 20 (kI x2)]⟩,⟨[(.tmp 22,.sl wu [0] x),(.const (.int .i64 1),kI 1)],[],[]⟩,⟨[(.tmp 23,.sl wu [0] v2)],[],[]⟩,⟨[],[],[.lk 21 wu wx 53 13 [14,0] rests x2,.sl 24 (.own wx 53 17 [0] ([v2]:(List (List Int))))]⟩,⟨[],[],[.ap 25 wu wx 53 13 [14,0,17] rests x2 v3,.ms 13 13,.sl 16 (kI x2),.ms 3 13]⟩] [3,7,8,9] [] zes (by kernel_rfl) (by exact (lw_r (zEl 3 13 13 (.inl rfl) rfl) (lw_e (lw_x (zkg (zbt rfl zlb.el (zV _ _ _) uL) rfl) (lw_e (lw_r (zEl 3 17 13 (.inl rfl) rfl) (lw_e (lw_x (zkg (zbt rfl zlb.el (zV _ _ _) uL) rfl) (lw_e (lw_r (zGO (z:= .tmp 20) 3 17 21 rfl rfl zwE (zdk rfl rfl) trivial) (lw_e (lw_x (zkg (zpD (some (kI 1)) none rfl zlb.el (zV _ _ _) ⟨rfl,rfl⟩ ⟨rfl,rfl⟩ uV) rfl) (lw_x (zkg (zeo [.sl wu [0] v2] 17 [0] ([v2]:(List (List Int))) rfl zkj rfl rfl rfl rfl) rfl) (lw_r (zGN (y:= .tmp 24) [14,0,17] 21 25 rfl rfl zkj.el rfl (zjI _ _ _ _ _) trivial uY (.inr rfl) rfl) (lw_r (zFD (z:= .tmp 16) 25 13 [3] rfl rfl zwE (zdk rfl rfl) trivial rfl) lw_0))))))))))))))) (zas (jp ?_)))));cases h;exact zal (lk [3,7,8,9] [] 17 14 (lq ⟨[(3,.mo wu wx 53 13 [14,0,14] (mput rests x2 v3)),(7,.sl wx [0] ways),(8,kI (ways.length:Int)),(9,kI (IntKind.i64.wrap (v+1)))],[]⟩ (zcW 3 (.mo wu wx 53 13 [14,0] (mput rests x2 v3)) rfl (zGb _ _ _ _ _ _ _ rfl rfl) lzz)))
  cases h;exact zaF rfl lzz
 ·exact lq ⟨[(3,.mo wu wx 53 13 [] ([]:(List (Int×(List (List Int)))))),(7,.sl wx [0] ways),(8,kI (ways.length:Int)),(9,kI 0)],[]⟩ (zcW 3 (.mo wu wx 53 13 [14,0] ([]:(List (Int×(List (List Int)))))) rfl (zGb _ _ _ _ _ _ _ rfl rfl) lzz)
 refine zbj _ rfl (jp ?_);obtain rfl:=(sj h);exact zA (lq ⟨[(2,.mo wu wx 53 13 [14,0] q)],[]⟩ (zcW 2 (.mp wu wy [13,14,0] q) rfl (zGA _ _ _ _ _ _ _ rfl) (lk [2] [] 13 3 (lk [2] [] 14 3 (lq ⟨[(2,.mp wu wy [3,3,0] q)],[]⟩ (zcW 2 (.mp wu wy [2,3,0] (q:(List (Int×(List (List Int)))))) rfl (zGc _ _ _ rfl) lzz))))))
theorem zjb (h:zfP v=some r):FnOk Tryz.prog 55 [.rc zc [0] v] [.ag (zj [0] r)]:=by
 refine zz (E:=⟨[(2,.ptr 2 0)],[⟨2,27,(zj [0] r)⟩]⟩) 12 Tryz.func55 rfl rfl rfl ⟨⟨_,_,rfl,rfl,rfl,⟨Tryz.isAgg27,Tryz.sizeOf27⟩⟩,trivial⟩ (fun Xt=>?_);refine zq ?_;unfold zfP at h;refine jr (ra 0 [.rc zc [0] v] rfl (zbw 13 (zk [0] v) [0] rfl rfl rfl (by rw [zv]<;>rfl) rfl) rfl (rfl' [14])) (jp (jI h (fun uA h=>?_) fun uA h=>?_))
 ·refine jr (ra 0 [] rfl (zcC [] [kN,kN] rfl znk rfl) rfl rf) ?_;cases h;exact zA (lk [2] [14] 14 2 (lq ⟨[(2,.ptr 2 0)],[⟨2,27,[kN,kN]⟩]⟩ (zcD 2 0 (.sl zc [0] ((⟨[],[]⟩:zb):zb).Values) rfl rfl (zcZ zc [0]) (zcD 2 1 (.sl Rp.str [0] ((⟨[],[]⟩:zb):zb).Unknown) rfl rfl (zcZ Rp.str [0]) lzz))))
 refine jb h fun x uI h=>jr (ra 2 [.sl zd [0] v.Subs,kI 0] rfl (zbt rfl zgP.el (zV _ _ _) uI) rfl (ra 0 [.ep zd [0] x 0] rfl (zeT rfl ⟨Tryz.isAgg27,Tryz.sizeOf27⟩) rfl (ra 0 [.ptr 14 0,.rc zd [0] x] rfl (zfy (r:=zd) (b:=⟨14,27,[kN,kN]⟩) (off:=0) (zj [0] x) rfl Tryz.sizeOf27 rfl rfl (by rw [zn]<;>rfl) rfl) rfl rf))) ?_;obtain rfl:=(sj h);exact zA (lk [2] [14] 14 2 lzz)
theorem zlU (h:zhW vb x=some r):FnOk Tryz.prog 89 [kI vb,.rc zd [0] x] [.ag (zbb 3 [0] r)]:=by
 refine zz (E:=⟨[(4,.ptr 2 0)],[⟨2,57,(zbb 3 [0] r)⟩]⟩) 9 Tryz.func89 rfl rfl rfl ⟨⟨_,_,rfl,rfl,rfl,⟨Tryz.isAgg57,Tryz.sizeOf57⟩⟩,trivial⟩ (fun Xt=>?_);refine zq ?_;unfold zhW at h;refine jr (ra 0 [.rc zd [0] x] rfl (zbw 14 (zj [0] x) [0] rfl rfl rfl (by rw [zn]<;>rfl) rfl) rfl (rfl' [15])) (jr (rc 2 rfl (zy.le (ins':=[(.tmp 6,.ag (zj [0] x))]) (zeo [.rc zd [0] x] 16 [0] ([x]:(List zb)) rfl zgP rfl rfl rfl (by simp only [zlh,zha,zhl,zn,xW,yI]<;>rfl)) ⟨⟨rfl,zx [0] x⟩,trivial⟩) (ra 0 [kI vb,.own zd 27 16 [0] ([x]:(List zb))] rfl (zcC [kI vb,.own zd 27 16 [0] ([x]:(List zb))] [kI vb,kN,kN,.own zd 27 16 [0] ([x]:(List zb))] rfl zyy rfl) rfl rf)) ?_);cases h;exact zA (lk [4] [15] 15 2 (lk [4] [2] 16 3 lzz))
theorem zeh (h:zbl sv=some r):FnOk Tryz.prog 109 [.sl zc [0] sv] [.own zc 57 2 [0] r]:=by
 refine zz (E:=⟨[(2,.own zc 57 2 [0] r)],[]⟩) 8 Tryz.func109 rfl rfl rfl ⟨rfl,trivial⟩ (fun Xt=>?_);refine zq ?_;unfold zbl at h;refine jp ?_;have hn1:=zmg h;refine znM 1 4 true ⟨[(0,.sl zc [0] sv),(3,.sl zc [0] sv)],[]⟩ ⟨[(0,.sl zc [0] sv),(4,kB true)],[]⟩ ⟨[(0,.sl zc [0] sv),(4,kB false)],[]⟩ (by kernel_rfl) rfl rfl rfl (by kernel_rfl) rfl Tryz.underlying24 rfl (zV _ _ _) (by kernel_rfl) (by kernel_rfl) (fun hx_=>?_) ?_
 ·replace h:=hn1.1 hx_;refine jT rfl (jp ?_);cases h;exact zA (lq ⟨[(2,kN)],[]⟩ (zcW 2 (.own zc 57 2 [0] ([]:(List za))) rfl (zch zc 57 2 [0] rfl) lzz))
 replace h:=hn1.2;refine jF rfl (jb h fun v uR h=>jr (rc 0 rfl (zeo [] 12 [] ([]:(List za)) rfl zgO rfl rfl rfl rfl) (ra 1 [.own zc 57 12 [] ([]:(List za)),.sl zc [0] sv] rfl (zji 12 [0] rfl zgO.el rfl (zfi _ _ _ _ _) (zV _ _ _) uR (.inr rfl) rfl) rfl rf)) ?_);obtain rfl:=(sj h);exact zA (lk [2] [] 12 2 lzz)
theorem zcF (h:zbF sv=some r):FnOk Tryz.prog 110 [.sl Rp.str [0] sv] [.own Rp.str 9 2 [] r]:=by
 refine zz (E:=⟨[(2,.own Rp.str 9 2 [] r)],[]⟩) 8 Tryz.func110 rfl rfl rfl ⟨rfl,trivial⟩ (fun Xt=>?_);refine zq ?_;unfold zbF at h;refine jp ?_;have hn1:=zmg h;refine znM 1 4 true ⟨[(0,.sl Rp.str [0] sv),(3,.sl Rp.str [0] sv)],[]⟩ ⟨[(0,.sl Rp.str [0] sv),(4,kB true)],[]⟩ ⟨[(0,.sl Rp.str [0] sv),(4,kB false)],[]⟩ (by kernel_rfl) rfl rfl rfl (by kernel_rfl) rfl Tryz.underlying25 rfl (zV _ _ _) (by kernel_rfl) (by kernel_rfl) (fun hx_=>?_) ?_
 ·replace h:=hn1.1 hx_;refine jT rfl (jp ?_);cases h;exact zA (lq ⟨[(2,kN)],[]⟩ (zcW 2 (.own Rp.str 9 2 [] ([]:(List Str))) rfl (zch Rp.str 9 2 [] rfl) lzz))
 replace h:=hn1.2;refine jF rfl (jb h fun v uR h=>jr (rc 0 rfl (zeo [] 12 [] ([]:(List Str)) rfl zmz rfl rfl rfl rfl) (ra 1 [.own Rp.str 9 12 [] ([]:(List Str)),.sl Rp.str [0] sv] rfl (zji 12 [] rfl zmz.el rfl (zfi _ _ _ _ _) (zV _ _ _) uR (.inl zvG) rfl) rfl rf)) ?_);obtain rfl:=(sj h);exact zA (lk [2] [] 12 2 lzz)
theorem zfJ (h:zcr sv=some r):FnOk Tryz.prog 142 [.sl wz [0] sv] [.own wz 83 2 [] r]:=by
 refine zz (E:=⟨[(2,.own wz 83 2 [] r)],[]⟩) 8 Tryz.func142 rfl rfl rfl ⟨rfl,trivial⟩ (fun Xt=>?_);refine zq ?_;unfold zcr at h;refine jp ?_;have hn1:=zmg h;refine znM 1 4 true ⟨[(0,.sl wz [0] sv),(3,.sl wz [0] sv)],[]⟩ ⟨[(0,.sl wz [0] sv),(4,kB true)],[]⟩ ⟨[(0,.sl wz [0] sv),(4,kB false)],[]⟩ (by kernel_rfl) rfl rfl rfl (by kernel_rfl) rfl Tryz.underlying54 rfl (zV _ _ _) (by kernel_rfl) (by kernel_rfl) (fun hx_=>?_) ?_
 ·replace h:=hn1.1 hx_;refine jT rfl (jp ?_);cases h;exact zA (lq ⟨[(2,kN)],[]⟩ (zcW 2 (.own wz 83 2 [] ([]:(List Int))) rfl (zch wz 83 2 [] rfl) lzz))
 replace h:=hn1.2;refine jF rfl (jb h fun v uR h=>jr (rc 0 rfl (zeo [] 12 [] ([]:(List Int)) rfl zpo rfl rfl rfl rfl) (ra 1 [.own wz 83 12 [] ([]:(List Int)),.sl wz [0] sv] rfl (zji 12 [] rfl zpo.el rfl (zfi _ _ _ _ _) (zV _ _ _) uR (.inl (zrw _)) rfl) rfl rf)) ?_);obtain rfl:=(sj h);exact zA (lk [2] [] 12 2 lzz)
theorem zeX (h:zbL sv=some r):FnOk Tryz.prog 143 [.sl zd [0] sv] [.own zd 27 2 [0] r]:=by
 refine zz (E:=⟨[(2,.own zd 27 2 [0] r)],[]⟩) 8 Tryz.func143 rfl rfl rfl ⟨rfl,trivial⟩ (fun Xt=>?_);refine zq ?_;unfold zbL at h;refine jp ?_;have hn1:=zmg h;refine znM 1 4 true ⟨[(0,.sl zd [0] sv),(3,.sl zd [0] sv)],[]⟩ ⟨[(0,.sl zd [0] sv),(4,kB true)],[]⟩ ⟨[(0,.sl zd [0] sv),(4,kB false)],[]⟩ (by kernel_rfl) rfl rfl rfl (by kernel_rfl) rfl Tryz.underlying55 rfl (zV _ _ _) (by kernel_rfl) (by kernel_rfl) (fun hx_=>?_) ?_
 ·replace h:=hn1.1 hx_;refine jT rfl (jp ?_);cases h;exact zA (lq ⟨[(2,kN)],[]⟩ (zcW 2 (.own zd 27 2 [0] ([]:(List zb))) rfl (zch zd 27 2 [0] rfl) lzz))
 replace h:=hn1.2;refine jF rfl (jb h fun v uR h=>jr (rc 0 rfl (zeo [] 12 [] ([]:(List zb)) rfl zgP rfl rfl rfl rfl) (ra 1 [.own zd 27 12 [] ([]:(List zb)),.sl zd [0] sv] rfl (zji 12 [0] rfl zgP.el rfl (zfi _ _ _ _ _) (zV _ _ _) uR (.inr rfl) rfl) rfl rf)) ?_);obtain rfl:=(sj h);exact zA (lk [2] [] 12 2 lzz)
theorem zoZ (h:zfZ x=some r):FnOk Tryz.prog 56 [.rc zd [0] x] [.om wu zc 2 [0] r]:=by
 refine zz (E:=⟨[(2,.om wu zc 2 [0] r)],[]⟩) 23 Tryz.func56 rfl rfl rfl ⟨rfl,trivial⟩ (fun Xt=>?_);refine zq ?_;unfold zfZ at h;refine jr (ra 0 [.rc zd [0] x] rfl (zbw 13 (zj [0] x) [0] rfl rfl rfl (by rw [zn]<;>rfl) rfl) rfl rf) (jr (ra 3 [kI (x.Values.length:Int)] rfl (zBU (rk:=wu) (rv:=zc) 14 rfl Tryz.underlying105) rfl rf) (jp (zB (jb h fun q uF h=>zaH (fun s:((List (Int×za))×Int)=>zbI x s.1 s.2) (fun s=>⟨[(3,.om wu zc 14 [0] s.1),(11,.sl zc [0] x.Values),(12,kI (x.Values.length:Int)),(13,kI s.2)],[]⟩) (fun o e a w=>e= .exit 0/\Sx ⟨⟨23,[]⟩,Xt,false,#[]⟩ ⟨[(3,.om wu zc 14 [0] o)],[]⟩ a w) ?_ uF ?_ ?_))))
 ·clear h;intro s o h;obtain ⟨values,v⟩:=s;refine zq ?_;replace h:zbI x values v=some o:=h;unfold zbI at h;refine jp (jI h (fun uA h=>?_) fun uA h=>?_)
  ·refine zB (jb h fun x2 uL h=>jr (ra 0 [.sl zc [0] x.Values,kI v] rfl (zbt rfl zgO.el (zV _ _ _) uL) rfl (ra 0 [.ep zc [0] x2 0] rfl (zeT rfl ⟨Tryz.isAgg57,Tryz.sizeOf57⟩) rfl (ral 1 [16] [.ptr 16 0,.rc zc [0] x2] rfl (zfy (r:=zc) (b:=⟨16,57,[kI 0,kN,kN,kN]⟩) (off:=0) (zk [0] x2) rfl Tryz.sizeOf57 rfl rfl (by rw [zv]<;>rfl) rfl) rfl rf))) (jr (rkl 4 [] ⟨[(3,.om wu zc 14 [0] values),(11,.sl zc [0] x.Values),(12,kI (x.Values.length:Int)),(13,kI v),(17,.om wu zc 14 [0] values),(19,kI x2.Number),(20,.ag (zk [0] x2))],[]⟩ (zeG (rk:=wu) (rv:=zc) (m:=values) (C:=[0]) (C1:=[]) (D:=[0]) [3,17] x2.Number x2 [0] zqy rfl (.inl rfl) rfl rfl rfl rfl (zdk rfl rfl) (zyY (zan [0] x2) (zdd rfl)) (by kernel_rfl) rfl rf)) (zas (jp ?_))));cases h;exact zal lzz
  cases h;exact zaF rfl lzz
 ·exact lq ⟨[(3,.om wu zc 14 [] ([]:(List (Int×za)))),(11,.sl zc [0] x.Values),(12,kI (x.Values.length:Int)),(13,kI 0)],[]⟩ (zcW 3 (.om wu zc 14 [0] ([]:(List (Int×za)))) rfl (zvq _ _ _ _ rfl rfl) lzz)
 refine zbj _ rfl (jp ?_);obtain rfl:=(sj h);exact zA (lk [2] [] 14 2 lzz)
theorem ziT (h:zcy n=some r):FnOk Tryz.prog 144 [kN,kI n] [.own wz 83 2 [] r]:=by
 refine zz (E:=⟨[(4,.own wz 83 2 [] r)],[]⟩) 27 Tryz.func144 rfl rfl rfl ⟨rfl,trivial⟩ (fun Xt=>?_);refine zq ?_;unfold zcy at h;refine jp (jp (jI h (fun uA h=>?_) fun uA h=>?_))
 · exact absurd h nofun
 refine jr (ra 2 [kN] rfl (zkt rfl Tryz.underlying54) rfl rf) (jp (jI h (fun uB h=>?_) fun uB h=>?_))
 ·refine jb h fun v uR h=>jb h fun v2 uV h=>jr (ra 2 [kN] rfl (zkt rfl Tryz.underlying54) rfl (ra 0 [kN,kI 0] rfl (zro rfl zpo.el) rfl (ra 1 [kN,kI (IntKind.i64.wrap (n - (IntKind.i64.wrap (0 - 0))))] rfl (zwA 12 rfl Tryz.underlying3 zpo rfl uR) rfl (ra 2 [.own wz 83 12 [] v,kI 0] rfl (zwB rfl zpo.el uV) rfl rf)))) (jp ?_);obtain rfl:=(sj h);exact zA (lk [4] [] 12 2 lzz)
 refine jp ?_;cases h;exact zA (lq ⟨[(4,kN)],[]⟩ (zcW 4 (.own wz 83 2 [] ([]:(List Int))) rfl (zch wz 83 2 [] rfl) lzz))
theorem ziS (h:zcx n=some r):FnOk Tryz.prog 116 [kN,kI n] [.own Rp.str 9 2 [] r]:=by
 refine zz (E:=⟨[(4,.own Rp.str 9 2 [] r)],[]⟩) 27 Tryz.func116 rfl rfl rfl ⟨rfl,trivial⟩ (fun Xt=>?_);refine zq ?_;unfold zcx at h;refine jp (jp (jI h (fun uA h=>?_) fun uA h=>?_))
 · exact absurd h nofun
 refine jr (ra 2 [kN] rfl (zkt rfl Tryz.underlying25) rfl rf) (jp (jI h (fun uB h=>?_) fun uB h=>?_))
 ·refine jb h fun v uR h=>jb h fun v2 uV h=>jr (ra 2 [kN] rfl (zkt rfl Tryz.underlying25) rfl (ra 0 [kN,kI 0] rfl (zro rfl zmz.el) rfl (ra 1 [kN,kI (IntKind.i64.wrap (n - (IntKind.i64.wrap (0 - 0))))] rfl (zwA 12 rfl Tryz.underlying3 zmz rfl uR) rfl (ra 2 [.own Rp.str 9 12 [] v,kI 0] rfl (zwB rfl zmz.el uV) rfl rf)))) (jp ?_);obtain rfl:=(sj h);exact zA (lk [4] [] 12 2 lzz)
 refine jp ?_;cases h;exact zA (lq ⟨[(4,kN)],[]⟩ (zcW 4 (.own Rp.str 9 2 [] ([]:(List Str))) rfl (zch Rp.str 9 2 [] rfl) lzz))
theorem zhZ (h:zbU n=some r):FnOk Tryz.prog 145 [kN,kI n] [.own zd 27 2 [] r]:=by
 refine zz (E:=⟨[(4,.own zd 27 2 [] r)],[]⟩) 27 Tryz.func145 rfl rfl rfl ⟨rfl,trivial⟩ (fun Xt=>?_);refine zq ?_;unfold zbU at h;refine jp (jp (jI h (fun uA h=>?_) fun uA h=>?_))
 · exact absurd h nofun
 refine jr (ra 2 [kN] rfl (zkt rfl Tryz.underlying55) rfl rf) (jp (jI h (fun uB h=>?_) fun uB h=>?_))
 ·refine jb h fun v uR h=>jb h fun v2 uV h=>jr (ra 2 [kN] rfl (zkt rfl Tryz.underlying55) rfl (ra 0 [kN,kI 0] rfl (zro rfl zgP.el) rfl (ra 1 [kN,kI (IntKind.i64.wrap (n - (IntKind.i64.wrap (0 - 0))))] rfl (zwA 12 rfl Tryz.underlying3 zgP rfl uR) rfl (ra 2 [.own zd 27 12 [] v,kI 0] rfl (zwB rfl zgP.el uV) rfl rf)))) (jp ?_);obtain rfl:=(sj h);exact zA (lk [4] [] 12 2 lzz)
 refine jp ?_;cases h;exact zA (lq ⟨[(4,kN)],[]⟩ (zcW 4 (.own zd 27 2 [] ([]:(List zb))) rfl (zch zd 27 2 [] rfl) lzz))
theorem zpt (h:zgH values=some r):FnOk Tryz.prog 81 [.mp wu zc [0] values] [.own zc 57 2 [3,0] r]:=by
 refine zz (E:=⟨[(2,.own zc 57 2 [3,0] r)],[]⟩) 25 Tryz.func81 rfl rfl rfl ⟨rfl,trivial⟩ (fun Xt=>?_);refine zq ?_;unfold zgH at h;refine jp (jb h fun v uR h=>jr (ra 1 [.mp wu zc [0] values] rfl (zAR (rk:=wu) (rv:=zc) (m:=values) rfl Tryz.underlying105 (zqp _ _ _ _)) rfl (ra 0 [kI 0,kI (values.length:Int)] rfl (zAO 14 rfl zgO rfl uR) rfl rf)) (jb h fun v2 uV h=>jr (rkl 1 [] ⟨[(0,.mp wu zc [0] values),(3,.own zc 57 14 [] v),(9,.mp wu zc [0] values)],[]⟩ (zyt (rv:=zc) (m:=values) 15 zCj rfl rfl rfl rfl rfl rfl Tryz.call115 Tryz.call114 rfl (zqp _ _ _ _) uV rfl rf)) (zB (jb h fun q uF h=>zaH (fun s:((List za)×Int)=>zbZ v2 values s.1 s.2) (fun s=>⟨[(0,.mp wu zc [0] values),(3,.own zc 57 14 [16,0] s.1),(11,.own wu 3 15 [] v2),(12,kI (v2.length:Int)),(13,kI s.2)],[]⟩) (fun o e a w=>e= .exit 0/\Sx ⟨⟨25,[]⟩,Xt,false,#[]⟩ ⟨[(3,.own zc 57 14 [16,0] o)],[]⟩ a w) ?_ uF ?_ ?_))))
 ·clear h;intro s o h;obtain ⟨l,v3⟩:=s;refine zq ?_;replace h:zbZ v2 values l v3=some o:=h;unfold zbZ at h;refine jp (jI h (fun uA h=>?_) fun uA h=>?_)
  ·refine zB (jb h fun x uI h=>jr (ra 0 [.own wu 3 15 [] v2,kI v3] rfl (zbt rfl zlb.el (zjI _ _ _ _ _) uI) rfl rf) (jb h fun v4 vh h=>jr (ra 3 [.mp wu zc [0] values,kI x] rfl (zAP (rk:=wu) (rv:=zc) (m:=values) (k:=x) (.rc zc [0] ((mget values x).getD (⟨0,[],[],[]⟩:za))) rfl zqy (zqp _ _ _ _) (zdk rfl rfl) (zwi rfl)) rfl (rc 0 rfl (zeo [.rc zc [0] ((mget values x).getD (⟨0,[],[],[]⟩:za))] 19 [0] ([((mget values x).getD (⟨0,[],[],[]⟩:za))]:(List za)) rfl zgO rfl rfl rfl (by simp only [zlh,zha,zhl,zv,xW,yI]<;>rfl)) (ra 0 [.own zc 57 14 [16,0] l,.own zc 57 19 [0] ([((mget values x).getD (⟨0,[],[],[]⟩:za))]:(List za))] rfl (zji 14 [16,0,19] rfl zgO.el rfl (zfi _ _ _ _ _) (zjI _ _ _ _ _) vh (.inr rfl) rfl) rfl rf))) (zas (jp ?_))));cases h;exact zal (lk [0,3,11,12,13] [] 19 16 (lq ⟨[(0,.mp wu zc [0] values),(3,.own zc 57 14 [16,0,16] v4),(11,.own wu 3 15 [] v2),(12,kI (v2.length:Int)),(13,kI (IntKind.i64.wrap (v3+1)))],[]⟩ (zcW 3 (.own zc 57 14 [16,0] v4) rfl (zeR _ _ _ _ _ _ rfl rfl) lzz)))
  cases h;exact zaF rfl lzz
 ·exact lq ⟨[(0,.mp wu zc [0] values),(3,.own zc 57 14 [] v),(11,.own wu 3 15 [] v2),(12,kI (v2.length:Int)),(13,kI 0)],[]⟩ (zcW 3 (.own zc 57 14 [16,0] v) rfl (zeR _ _ _ _ _ _ rfl rfl) lzz)
 refine zbj _ rfl (jp ?_);obtain rfl:=(sj h);exact zA (lk [2] [] 14 2 (lk [2] [] 16 3 lzz))
theorem zpd (h:zgc sv=some r):FnOk Tryz.prog 8 [.sl zi [0] sv] [kB r]:=by
 refine zz (E:=⟨[(2,kB r)],[]⟩) 54 Tryz.func8 rfl rfl rfl ⟨rfl,trivial⟩ (fun Xt=>?_);refine zq ?_;unfold zgc at h;refine jp (jp (jp (zB (jb h fun q2 uT h=>zaH (fun s:(Int×Int)=>zbJ sv s.1 s.2) (fun s=>⟨[(0,.sl zi [0] sv),(3,kI s.1),(4,kI s.2)],[]⟩) (fun o e a w=>e= .exit 0/\Sx ⟨⟨54,[]⟩,Xt,false,#[]⟩ ⟨[(3,kI o)],[]⟩ a w) ?_ uT lzz ?_))))
 ·clear h;intro s o h;obtain ⟨n,i⟩:=s;refine zq ?_;replace h:zbJ sv n i=some o:=h;unfold zbJ at h;refine jp (jI h (fun uA h=>?_) fun uA h=>?_)
  ·refine zB (jb h fun x uI h=>jb h fun x2 uL h=>jd [0,3,4] [] zes (by exact (lw_e (lw_e (lw_e (lw_e (ly [.sl zi [0] sv,kI i] (zbt rfl zqX.el (zV _ _ _) uI) rfl (lw_e (lw_e (lw_e (lw_e (lw_e (lw_e (lw_e (ly [.sl zi [0] sv,kI i] (zbt rfl zqX.el (zV _ _ _) uL) rfl (lw_e (ly [.ep zi [0] x2 1] (zgf zg x2.Fields rfl rfl rfl) rfl l0)))))))))))))))) (jp (zB (jb h fun q uF h=>zaH (fun s:(Int×Int)=>zbK i sv s.1 s.2) (fun s=>⟨[(0,.sl zi [0] sv),(3,kI s.1),(4,kI i),(5,kI s.2)],[]⟩) (fun o e a w=>e= .exit 2/\Sx ⟨⟨54,[]⟩,Xt,false,#[]⟩ ⟨[(0,.sl zi [0] sv),(3,kI o),(4,kI i)],[]⟩ a w) ?_ uF lzz ?_))))
   ·clear h;intro s o h;obtain ⟨n3,k⟩:=s;refine zq ?_;replace h:zbK i sv n3 k=some o:=h;unfold zbK at h;refine jb h fun x3 uU h=>jr (ra 3 [.sl zi [0] sv,kI i] rfl (zbt rfl zqX.el (zV _ _ _) uU) rfl (ra 1 [.ep zi [0] x3 1] rfl (zgf zg x3.Fields rfl rfl rfl) rfl rf)) (jI h (fun uB h=>?_) fun uB h=>?_)
    ·refine zB (jb h fun x4 vf h=>jb h fun x5 vC h=>jr (ra 3 [.sl zi [0] sv,kI i] rfl (zbt rfl zqX.el (zV _ _ _) vf) rfl (ra 1 [.ep zi [0] x4 1] rfl (zgf zg x4.Fields rfl rfl rfl) rfl (ra 1 [.sl zg [0] x4.Fields,kI k] rfl (zbt rfl zvV.el (zV _ _ _) vC) rfl rf))) (zas (jp ?_)));cases h;exact zal lzz
    cases h;exact zaF rfl lzz
   refine zbj _ rfl (zas (jp ?_));cases h;exact zal lzz
  cases h;exact zaF rfl lzz
 refine zbj _ rfl (jp ?_);cases h;exact zA lzz
theorem zno (vI:∀{x:zb} {deep:Int} {r:Int},xj x deep=some r->FnOk Tryz.prog 35 [.rc zd [0] x,kI deep] [kI r]) (vJ:∀{v:za} {deep:Int} {r:Int},xk v deep=some r->FnOk Tryz.prog 74 [.rc zc [0] v,kI deep] [kI r]) (h:zeV xj xk x deep=some r):FnOk Tryz.prog 35 [.rc zd [0] x,kI deep] [kI r]:=by
 refine zz (E:=⟨[(4,kI r)],[]⟩) 45 Tryz.func35 rfl rfl rfl ⟨rfl,trivial⟩ (fun Xt=>?_);refine zq ?_;unfold zeV at h;refine jr (ra 0 [.rc zd [0] x] rfl (zbw 11 (zj [0] x) [0] rfl rfl rfl (by rw [zn]<;>rfl) rfl) rfl rf) (jp (jI h (fun uA h=>?_) fun uA h=>?_))
 ·refine jp ?_;cases h;exact zA lzz
 refine jp (jp (zB (jb h fun q uF h=>zaH (fun s:(Int×Int)=>zbz x s.1 s.2) (fun s=>⟨[(1,kI deep),(2,.ptr 11 0),(5,kI s.1),(6,kI s.2)],[⟨11,27,(zj [0] x)⟩]⟩) (fun o e a w=>e= .exit 0/\Sx ⟨⟨45,[]⟩,Xt,false,#[]⟩ ⟨[(1,kI deep),(2,.ptr 11 0),(5,kI o)],[⟨11,27,(zj [0] x)⟩]⟩ a w) ?_ uF lzz ?_)))
 ·clear h;intro s o h;obtain ⟨n,i⟩:=s;refine zq ?_;replace h:zbz x n i=some o:=h;unfold zbz at h;refine jp (jI h (fun uB h=>?_) fun uB h=>?_)
  ·refine zB (jb h fun x2 uL h=>jr (ra 5 [.sl Rp.str [0] x.Unknown,kI i] rfl (zbt rfl zmz.el (zV _ _ _) uL) rfl rf) (zas (jp ?_)));cases h;exact zal lzz
  cases h;exact zaF rfl lzz
 refine zbj _ rfl (jp (zB (jb h fun q2 uT h=>zaH (fun s:(Int×Int)=>zbi deep xk x s.1 s.2) (fun s=>⟨[(1,kI deep),(2,.ptr 11 0),(5,kI s.1),(7,kI s.2)],[⟨11,27,(zj [0] x)⟩]⟩) (fun o e a w=>match o with| (.inl v_)=>e= .exit 2/\Sx ⟨⟨45,[]⟩,Xt,false,#[]⟩ ⟨[(5,kI v_)],[]⟩ a w| (.inr v_)=>e= .ret/\Sx ⟨⟨45,[]⟩,Xt,false,#[]⟩ ⟨[(4,kI 5000)],[]⟩ a w) ?_ uT lzz ?_)))
 ·clear h;intro s o h;obtain ⟨n3,i2⟩:=s;refine zq ?_;replace h:zbi deep xk x n3 i2=some o:=h;unfold zbi at h;refine jp (jI h (fun uE h=>?_) fun uE h=>?_)
  ·refine zB (jb h fun x3 uU h=>jb h fun rv uC h=>jr (ra 4 [.sl zc [0] x.Values,kI i2] rfl (zbt rfl zgO.el (zV _ _ _) uU) rfl (ra 0 [.ep zc [0] x3 0] rfl (zeT rfl ⟨Tryz.isAgg57,Tryz.sizeOf57⟩) rfl (rl 1 [0] 12 Tryz.call74 (vJ uC) rf))) (jp (jI h (fun uK h=>?_) fun uK h=>?_)))
   ·refine jp ?_;cases h;exact zcA lzz
   refine zas (jp ?_);cases h;exact zal lzz
  cases h;exact zaF rfl lzz
 rcases q2 with u| u2
 ·refine zbj _ rfl (jp ?_);obtain rfl:=(sj h);exact zA lzz
 cases h;exact zfb lzz
theorem zkF (vI:∀{x:zb} {deep:Int} {r:Int},xj x deep=some r->FnOk Tryz.prog 35 [.rc zd [0] x,kI deep] [kI r]) (vJ:∀{v:za} {deep:Int} {r:Int},xk v deep=some r->FnOk Tryz.prog 74 [.rc zc [0] v,kI deep] [kI r]) (h:zde xj xk v deep=some r):FnOk Tryz.prog 74 [.rc zc [0] v,kI deep] [kI r]:=by
 refine zz (E:=⟨[(4,kI r)],[]⟩) 48 Tryz.func74 rfl rfl rfl ⟨rfl,trivial⟩ (fun Xt=>?_);refine zq ?_;unfold zde at h;refine jr (ra 0 [.rc zc [0] v] rfl (zbw 11 (zk [0] v) [0] rfl rfl rfl (by rw [zv]<;>rfl) rfl) rfl rf) (jp (jp (zB (jb h fun q uF h=>zaH (fun s:(Int×Int)=>zaN v s.1 s.2) (fun s=>⟨[(1,kI deep),(2,.ptr 11 0),(5,kI s.1),(6,kI s.2)],[⟨11,57,(zk [0] v)⟩]⟩) (fun o e a w=>e= .exit 0/\Sx ⟨⟨48,[]⟩,Xt,false,#[]⟩ ⟨[(1,kI deep),(2,.ptr 11 0),(5,kI o)],[⟨11,57,(zk [0] v)⟩]⟩ a w) ?_ uF lzz ?_))))
 ·clear h;intro s o h;obtain ⟨n,k⟩:=s;refine zq ?_;replace h:zaN v n k=some o:=h;unfold zaN at h;refine jp (jI h (fun uA h=>?_) fun uA h=>?_)
  ·refine zB (jb h fun x uI h=>jr (ra 5 [.sl Rp.str [0] v.Texts,kI k] rfl (zbt rfl zmz.el (zV _ _ _) uI) rfl rf) (zas (jp ?_)));cases h;exact zal lzz
  cases h;exact zaF rfl lzz
 refine zbj _ rfl (jp (zB (jb h fun q2 uT h=>zaH (fun s:(Int×Int)=>zaB deep xj v s.1 s.2) (fun s=>⟨[(1,kI deep),(2,.ptr 11 0),(5,kI s.1),(7,kI s.2)],[⟨11,57,(zk [0] v)⟩]⟩) (fun o e a w=>match o with| (.inl v_)=>e= .exit 2/\Sx ⟨⟨48,[]⟩,Xt,false,#[]⟩ ⟨[(5,kI v_)],[]⟩ a w| (.inr v_)=>e= .ret/\Sx ⟨⟨48,[]⟩,Xt,false,#[]⟩ ⟨[(4,kI 5000)],[]⟩ a w) ?_ uT lzz ?_)))
 ·clear h;intro s o h;obtain ⟨n3,k2⟩:=s;refine zq ?_;replace h:zaB deep xj v n3 k2=some o:=h;unfold zaB at h;refine jp (jI h (fun uB h=>?_) fun uB h=>?_)
  ·refine zB (jb h fun x2 uL h=>jb h fun rv uC h=>jr (ra 4 [.sl zd [0] v.Subs,kI k2] rfl (zbt rfl zgP.el (zV _ _ _) uL) rfl (ra 0 [.ep zd [0] x2 0] rfl (zeT rfl ⟨Tryz.isAgg27,Tryz.sizeOf27⟩) rfl (rl 2 [0] 12 Tryz.call35 (vI uC) rf))) (jp (jI h (fun uE h=>?_) fun uE h=>?_)))
   ·refine jp ?_;cases h;exact zcA lzz
   refine zas (jp ?_);cases h;exact zal lzz
  cases h;exact zaF rfl lzz
 rcases q2 with u| u2
 ·refine zbj _ rfl (jp ?_);obtain rfl:=(sj h);exact zA lzz
 cases h;exact zfb lzz
theorem zfE (uH:Nat):(∀{x:zb} {deep:Int} {r:Int},zbT uH x deep=some r->FnOk Tryz.prog 35 [.rc zd [0] x,kI deep] [kI r])/\(∀{v:za} {deep:Int} {r:Int},zbv uH v deep=some r->FnOk Tryz.prog 74 [.rc zc [0] v,kI deep] [kI r]):=by
  induction uH with
  | zero=>exact ⟨fun h=>absurd h nofun,fun h=>absurd h nofun⟩
  | succ uH ih=>exact ⟨fun h=>zno (fun hh=>ih.1 hh) (fun hh=>ih.2 hh) h,fun h=>zkF (fun hh=>ih.1 hh) (fun hh=>ih.2 hh) h⟩
theorem znH (h:zbT uH x deep=some r):FnOk Tryz.prog 35 [.rc zd [0] x,kI deep] [kI r]:=(zfE uH).1 h
end Go.Proofs.YtekgmimingolbaaGreat
