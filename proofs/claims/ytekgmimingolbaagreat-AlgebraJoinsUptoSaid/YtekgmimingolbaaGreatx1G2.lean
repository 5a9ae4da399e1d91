/-
  The Go functions do what the plain functions say. No condition.
-/
import Derived.Test.YtekgmimingolbaaGreatx1T
import Derived.Test.YtekgmimingolbaaGreatx1Y
set_option autoImplicit true
set_option relaxedAutoImplicit true
namespace Go.Proofs.YtekgmimingolbaaGreat
open Go Go.RowKit
set_option linter.unusedVariables false
set_option maxRecDepth 100000
set_option maxHeartbeats 3200000
theorem zsC {ways:(List (List Int))} (h:zit ways=some r):FnOk Tryz.prog 120 [.sl kq [0] ways] [.mp kp kr [2,3,0] r]:=by
 refine zy (E:=⟨[(2,.mp kp kr [2,3,0] r)],[]⟩) 28 Tryz.func120 rfl rfl rfl ⟨rfl,trivial⟩ (fun Xt=>?_);refine zm ?_;unfold zit at h;refine jp (jr (ra 0 [] rfl (zJa (rk:=kp) (r:=kq) (e:=53) 13 rfl) rfl rf) (jp (zv (jb h fun q vc h=>zac (fun s:((List (Int×(List (List Int))))×Int)=>zcw ways s.1 s.2) (fun s=>⟨[(3,.mo kp kq 53 13 [14,0] s.1),(7,.sl kq [0] ways),(8,kI (ways.length:Int)),(9,kI s.2)],[]⟩) (fun o e a w=>e= .exit 0/\Sx ⟨⟨28,[]⟩,Xt,false,#[]⟩ ⟨[(3,.mo kp kq 53 13 [14,0] o)],[]⟩ a w) ?_ vc ?_ ?_))))
 ·clear h;intro s o h;obtain ⟨rests,v⟩:=s;refine zm ?_;replace h:zcw ways rests v=some o:=h;unfold zcw at h;refine jp (jI h (fun uW h=>?_) fun uW h=>?_)
  ·refine zv (jb h fun x vg h=>jr (ra 0 [.sl kq [0] ways,kI v] rfl (zai rfl zne.el (zC _ _ _) vg) rfl (ra 0 [.ep kq [0] x 0] rfl (zgf kp x rfl rfl rfl) rfl rf)) (jb h fun x2 vk h=>jb h fun v2 vz h=>jb h fun v3 vB h=>jk [3,5,7,8,9] [] (zrQ ⟨[(3,.mo kp kq 53 13 [14,0,17] (mput rests x2 v3)),(7,.sl kq [0] ways),(8,kI (ways.length:Int)),(9,kI v)],[]⟩ [.raw [5] [] [] [.ms 13 13],.ev,.ex [] [] [] (.ep kp [0] x2 0) [],.ev,.raw [9] [] [] [.ms 17 13],.ev,.ex [] [] [] (.ep kp [0] x2 0) [],.ev,.raw [3,8,0] [] [] [.lk 21 kp kq 53 13 [14,0] rests x2],.ev,.ex [] [] [] (.sl kp [0] v2) [],.ex [] [] [17] (.own kq 53 17 [0] ([v2]:(List (List Int)))) [],.raw [3,0] [13] [] [.ap 25 kp kq 53 13 [14,0,17] rests x2 v3],.raw [0,11,8,16] [13] [] [.sl 3 (.mo kp kq 53 13 [14,0,17] (mput rests x2 v3))]] [⟨[],[],[.ms 3 13]⟩,⟨[(.tmp 14,.sl kp [0] x),(.const (.int .i64 0),kI 0)],[],[]⟩,⟨[],[],[.ms 3 13]⟩,⟨[(.tmp 18,.sl kp [0] x),(.const (.int .i64 0),kI 0)],[],[]⟩,⟨[],[],[.ms 17 13,.sl 3 (.mo kp kq 53 13 [14,0] rests),.sl 20 (kI x2)]⟩,⟨[(.tmp 22,.sl kp [0] x),(.const (.int .i64 1),kI 1)],[],[]⟩,⟨[(.tmp 23,.sl kp [0] v2)],[],[]⟩,⟨[],[],[.lk 21 kp kq 53 13 [14,0] rests x2,.sl 24 (.own kq 53 17 [0] ([v2]:(List (List Int))))]⟩,⟨[],[],[.ap 25 kp kq 53 13 [14,0,17] rests x2 v3,.ms 13 13,.sl 16 (kI x2),.ms 3 13]⟩] [3,7,8,9] [] zbh (by kernel_rfl) (by exact (lw_r (zHQ 3 13 13 (.inl rfl) rfl) (lw_e (lw_x (zme (zai rfl zlP.el (zC _ _ _) vk) rfl) (lw_e (lw_r (zHQ 3 17 13 (.inl rfl) rfl) (lw_e (lw_x (zme (zai rfl zlP.el (zC _ _ _) vk) rfl) (lw_e (lw_r (zKu (z:= .tmp 20) 3 17 21 rfl rfl zAa (zei rfl rfl) trivial) (lw_e (lw_x (zme (zqV (some (kI 1)) none rfl zlP.el (zC _ _ _) ⟨rfl,rfl⟩ ⟨rfl,rfl⟩ vz) rfl) (lw_x (zme (zbX [.sl kp [0] v2] 17 [0] ([v2]:(List (List Int))) rfl zne rfl rfl rfl rfl) rfl) (lw_r (zKt (y:= .tmp 24) [14,0,17] 21 25 rfl rfl zne.el rfl (zfL _ _ _ _ _) trivial vB (.inr rfl) rfl) (lw_r (zJi (z:= .tmp 16) 25 13 [3] rfl rfl zAa (zei rfl rfl) trivial rfl) lw_0))))))))))))))) (zX (jp ?_)))));cases h;exact zH (lk [3,7,8,9] [] 17 14 (lq ⟨[(3,.mo kp kq 53 13 [14,0,14] (mput rests x2 v3)),(7,.sl kq [0] ways),(8,kI (ways.length:Int)),(9,kI (IntKind.i64.wrap (v+1)))],[]⟩ (zdE 3 (.mo kp kq 53 13 [14,0] (mput rests x2 v3)) rfl (zJH _ _ _ _ _ _ _ rfl rfl) lzz)))
  cases h;exact zad rfl lzz
 ·exact lq ⟨[(3,.mo kp kq 53 13 [] ([]:(List (Int×(List (List Int)))))),(7,.sl kq [0] ways),(8,kI (ways.length:Int)),(9,kI 0)],[]⟩ (zdE 3 (.mo kp kq 53 13 [14,0] ([]:(List (Int×(List (List Int)))))) rfl (zJH _ _ _ _ _ _ _ rfl rfl) lzz)
 refine zas _ rfl (jp ?_);obtain rfl:=(sj h);exact zw (lq ⟨[(2,.mo kp kq 53 13 [14,0] q)],[]⟩ (zdE 2 (.mp kp kr [13,14,0] q) rfl (zKg _ _ _ _ _ _ _ rfl) (lk [2] [] 13 3 (lk [2] [] 14 3 (lq ⟨[(2,.mp kp kr [3,3,0] q)],[]⟩ (zdE 2 (.mp kp kr [2,3,0] (q:(List (Int×(List (List Int)))))) rfl (zJI _ _ _ rfl) lzz))))))
theorem zkT (h:zhp v=some r):FnOk Tryz.prog 55 [.rc zb [0] v] [.ag (zh [0] r)]:=by
 refine zy (E:=⟨[(2,.ptr 2 0)],[⟨2,27,(zh [0] r)⟩]⟩) 12 Tryz.func55 rfl rfl rfl ⟨⟨_,_,rfl,rfl,rfl,⟨Tryz.isAgg27,Tryz.sizeOf27⟩⟩,trivial⟩ (fun Xt=>?_);refine zm ?_;unfold zhp at h;refine jr (ra 0 [.rc zb [0] v] rfl (zbc 13 (zi [0] v) [0] rfl rfl rfl (by rw [zn]<;>rfl) rfl) rfl (rfl' [14])) (jp (jI h (fun uW h=>?_) fun uW h=>?_))
 ·refine jr (ra 0 [] rfl (zbK [] [kN,kN] rfl zsz rfl) rfl rf) ?_;cases h;exact zw (lk [2] [14] 14 2 (lq ⟨[(2,.ptr 2 0)],[⟨2,27,[kN,kN]⟩]⟩ (zaN 2 0 (.sl zb [0] ((⟨[],[]⟩:zc):zc).Values) rfl rfl (zdX zb [0]) (zaN 2 1 (.sl Rp.str [0] ((⟨[],[]⟩:zc):zc).Unknown) rfl rfl (zdX Rp.str [0]) lzz))))
 refine jb h fun x vg h=>jr (ra 2 [.sl zd [0] v.Subs,kI 0] rfl (zai rfl zjg.el (zC _ _ _) vg) rfl (ra 0 [.ep zd [0] x 0] rfl (zcr rfl ⟨Tryz.isAgg27,Tryz.sizeOf27⟩) rfl (ra 0 [.ptr 14 0,.rc zd [0] x] rfl (zgU (r:=zd) (b:=⟨14,27,[kN,kN]⟩) (off:=0) (zh [0] x) rfl Tryz.sizeOf27 rfl rfl (by rw [zk]<;>rfl) rfl) rfl rf))) ?_;obtain rfl:=(sj h);exact zw (lk [2] [14] 14 2 lzz)
theorem zoB (h:zjL vv x=some r):FnOk Tryz.prog 89 [kI vv,.rc zd [0] x] [.ag (zbi 3 [0] r)]:=by
 refine zy (E:=⟨[(4,.ptr 2 0)],[⟨2,57,(zbi 3 [0] r)⟩]⟩) 9 Tryz.func89 rfl rfl rfl ⟨⟨_,_,rfl,rfl,rfl,⟨Tryz.isAgg57,Tryz.sizeOf57⟩⟩,trivial⟩ (fun Xt=>?_);refine zm ?_;unfold zjL at h;refine jr (ra 0 [.rc zd [0] x] rfl (zbc 14 (zh [0] x) [0] rfl rfl rfl (by rw [zk]<;>rfl) rfl) rfl (rfl' [15])) (jr (rc 2 rfl (zA.le (ins':=[(.tmp 6,.ag (zh [0] x))]) (zbX [.rc zd [0] x] 16 [0] ([x]:(List zc)) rfl zjg rfl rfl rfl (by simp only [ziL,zeJ,zfC,zk,xN,yo]<;>rfl)) ⟨⟨rfl,zM [0] x⟩,trivial⟩) (ra 0 [kI vv,.own zd 27 16 [0] ([x]:(List zc))] rfl (zbK [kI vv,.own zd 27 16 [0] ([x]:(List zc))] [kI vv,kN,kN,.own zd 27 16 [0] ([x]:(List zc))] rfl zCb rfl) rfl rf)) ?_);cases h;exact zw (lk [4] [15] 15 2 (lk [4] [2] 16 3 lzz))
theorem zfs (h:zbv sv=some r):FnOk Tryz.prog 109 [.sl zb [0] sv] [.own zb 57 2 [0] r]:=by
 refine zy (E:=⟨[(2,.own zb 57 2 [0] r)],[]⟩) 8 Tryz.func109 rfl rfl rfl ⟨rfl,trivial⟩ (fun Xt=>?_);refine zm ?_;unfold zbv at h;refine jp ?_;have hn1:=zoP h;refine zqR 1 4 true ⟨[(0,.sl zb [0] sv),(3,.sl zb [0] sv)],[]⟩ ⟨[(0,.sl zb [0] sv),(4,kB true)],[]⟩ ⟨[(0,.sl zb [0] sv),(4,kB false)],[]⟩ (by kernel_rfl) rfl rfl rfl (by kernel_rfl) rfl Tryz.underlying24 rfl (zC _ _ _) (by kernel_rfl) (by kernel_rfl) (fun hx_=>?_) ?_
 ·replace h:=hn1.1 hx_;refine jT rfl (jp ?_);cases h;exact zw (lq ⟨[(2,kN)],[]⟩ (zdE 2 (.own zb 57 2 [0] ([]:(List za))) rfl (zaT zb 57 2 [0] rfl) lzz))
 replace h:=hn1.2;refine jF rfl (jb h fun v vr h=>jr (rc 0 rfl (zbX [] 12 [] ([]:(List za)) rfl zjz rfl rfl rfl rfl) (ra 1 [.own zb 57 12 [] ([]:(List za)),.sl zb [0] sv] rfl (zeR 12 [0] rfl zjz.el rfl (zbu _ _ _ _ _) (zC _ _ _) vr (.inr rfl) rfl) rfl rf)) ?_);obtain rfl:=(sj h);exact zw (lk [2] [] 12 2 lzz)
theorem zdh (h:zca sv=some r):FnOk Tryz.prog 110 [.sl Rp.str [0] sv] [.own Rp.str 9 2 [] r]:=by
 refine zy (E:=⟨[(2,.own Rp.str 9 2 [] r)],[]⟩) 8 Tryz.func110 rfl rfl rfl ⟨rfl,trivial⟩ (fun Xt=>?_);refine zm ?_;unfold zca at h;refine jp ?_;have hn1:=zoP h;refine zqR 1 4 true ⟨[(0,.sl Rp.str [0] sv),(3,.sl Rp.str [0] sv)],[]⟩ ⟨[(0,.sl Rp.str [0] sv),(4,kB true)],[]⟩ ⟨[(0,.sl Rp.str [0] sv),(4,kB false)],[]⟩ (by kernel_rfl) rfl rfl rfl (by kernel_rfl) rfl Tryz.underlying25 rfl (zC _ _ _) (by kernel_rfl) (by kernel_rfl) (fun hx_=>?_) ?_
 ·replace h:=hn1.1 hx_;refine jT rfl (jp ?_);cases h;exact zw (lq ⟨[(2,kN)],[]⟩ (zdE 2 (.own Rp.str 9 2 [] ([]:(List Str))) rfl (zaT Rp.str 9 2 [] rfl) lzz))
 replace h:=hn1.2;refine jF rfl (jb h fun v vr h=>jr (rc 0 rfl (zbX [] 12 [] ([]:(List Str)) rfl zhX rfl rfl rfl rfl) (ra 1 [.own Rp.str 9 12 [] ([]:(List Str)),.sl Rp.str [0] sv] rfl (zeR 12 [] rfl zhX.el rfl (zbu _ _ _ _ _) (zC _ _ _) vr (.inl zlb) rfl) rfl rf)) ?_);obtain rfl:=(sj h);exact zw (lk [2] [] 12 2 lzz)
theorem zhl (h:zcO sv=some r):FnOk Tryz.prog 142 [.sl ku [0] sv] [.own ku 83 2 [] r]:=by
 refine zy (E:=⟨[(2,.own ku 83 2 [] r)],[]⟩) 8 Tryz.func142 rfl rfl rfl ⟨rfl,trivial⟩ (fun Xt=>?_);refine zm ?_;unfold zcO at h;refine jp ?_;have hn1:=zoP h;refine zqR 1 4 true ⟨[(0,.sl ku [0] sv),(3,.sl ku [0] sv)],[]⟩ ⟨[(0,.sl ku [0] sv),(4,kB true)],[]⟩ ⟨[(0,.sl ku [0] sv),(4,kB false)],[]⟩ (by kernel_rfl) rfl rfl rfl (by kernel_rfl) rfl Tryz.underlying54 rfl (zC _ _ _) (by kernel_rfl) (by kernel_rfl) (fun hx_=>?_) ?_
 ·replace h:=hn1.1 hx_;refine jT rfl (jp ?_);cases h;exact zw (lq ⟨[(2,kN)],[]⟩ (zdE 2 (.own ku 83 2 [] ([]:(List Int))) rfl (zaT ku 83 2 [] rfl) lzz))
 replace h:=hn1.2;refine jF rfl (jb h fun v vr h=>jr (rc 0 rfl (zbX [] 12 [] ([]:(List Int)) rfl znf rfl rfl rfl rfl) (ra 1 [.own ku 83 12 [] ([]:(List Int)),.sl ku [0] sv] rfl (zeR 12 [] rfl znf.el rfl (zbu _ _ _ _ _) (zC _ _ _) vr (.inl (zoT _)) rfl) rfl rf)) ?_);obtain rfl:=(sj h);exact zw (lk [2] [] 12 2 lzz)
theorem zgo (h:zcg sv=some r):FnOk Tryz.prog 143 [.sl zd [0] sv] [.own zd 27 2 [0] r]:=by
 refine zy (E:=⟨[(2,.own zd 27 2 [0] r)],[]⟩) 8 Tryz.func143 rfl rfl rfl ⟨rfl,trivial⟩ (fun Xt=>?_);refine zm ?_;unfold zcg at h;refine jp ?_;have hn1:=zoP h;refine zqR 1 4 true ⟨[(0,.sl zd [0] sv),(3,.sl zd [0] sv)],[]⟩ ⟨[(0,.sl zd [0] sv),(4,kB true)],[]⟩ ⟨[(0,.sl zd [0] sv),(4,kB false)],[]⟩ (by kernel_rfl) rfl rfl rfl (by kernel_rfl) rfl Tryz.underlying55 rfl (zC _ _ _) (by kernel_rfl) (by kernel_rfl) (fun hx_=>?_) ?_
 ·replace h:=hn1.1 hx_;refine jT rfl (jp ?_);cases h;exact zw (lq ⟨[(2,kN)],[]⟩ (zdE 2 (.own zd 27 2 [0] ([]:(List zc))) rfl (zaT zd 27 2 [0] rfl) lzz))
 replace h:=hn1.2;refine jF rfl (jb h fun v vr h=>jr (rc 0 rfl (zbX [] 12 [] ([]:(List zc)) rfl zjg rfl rfl rfl rfl) (ra 1 [.own zd 27 12 [] ([]:(List zc)),.sl zd [0] sv] rfl (zeR 12 [0] rfl zjg.el rfl (zbu _ _ _ _ _) (zC _ _ _) vr (.inr rfl) rfl) rfl rf)) ?_);obtain rfl:=(sj h);exact zw (lk [2] [] 12 2 lzz)
theorem zsh (h:zhB x=some r):FnOk Tryz.prog 56 [.rc zd [0] x] [.om kp zb 2 [0] r]:=by
 refine zy (E:=⟨[(2,.om kp zb 2 [0] r)],[]⟩) 23 Tryz.func56 rfl rfl rfl ⟨rfl,trivial⟩ (fun Xt=>?_);refine zm ?_;unfold zhB at h;refine jr (ra 0 [.rc zd [0] x] rfl (zbc 13 (zh [0] x) [0] rfl rfl rfl (by rw [zk]<;>rfl) rfl) rfl rf) (jr (ra 3 [kI (x.Values.length:Int)] rfl (zFu (rk:=kp) (rv:=zb) 14 rfl Tryz.underlying105) rfl rf) (jp (zv (jb h fun q vc h=>zac (fun s:((List (Int×za))×Int)=>zcc x s.1 s.2) (fun s=>⟨[(3,.om kp zb 14 [0] s.1),(11,.sl zb [0] x.Values),(12,kI (x.Values.length:Int)),(13,kI s.2)],[]⟩) (fun o e a w=>e= .exit 0/\Sx ⟨⟨23,[]⟩,Xt,false,#[]⟩ ⟨[(3,.om kp zb 14 [0] o)],[]⟩ a w) ?_ vc ?_ ?_))))
 ·clear h;intro s o h;obtain ⟨values,v⟩:=s;refine zm ?_;replace h:zcc x values v=some o:=h;unfold zcc at h;refine jp (jI h (fun uW h=>?_) fun uW h=>?_)
  ·refine zv (jb h fun x2 vk h=>jr (ra 0 [.sl zb [0] x.Values,kI v] rfl (zai rfl zjz.el (zC _ _ _) vk) rfl (ra 0 [.ep zb [0] x2 0] rfl (zcr rfl ⟨Tryz.isAgg57,Tryz.sizeOf57⟩) rfl (ral 1 [16] [.ptr 16 0,.rc zb [0] x2] rfl (zgU (r:=zb) (b:=⟨16,57,[kI 0,kN,kN,kN]⟩) (off:=0) (zi [0] x2) rfl Tryz.sizeOf57 rfl rfl (by rw [zn]<;>rfl) rfl) rfl rf))) (jr (rkl 4 [] ⟨[(3,.om kp zb 14 [0] values),(11,.sl zb [0] x.Values),(12,kI (x.Values.length:Int)),(13,kI v),(17,.om kp zb 14 [0] values),(19,kI x2.Number),(20,.ag (zi [0] x2))],[]⟩ (zfV (rk:=kp) (rv:=zb) (m:=values) (C:=[0]) (C1:=[]) (D:=[0]) [3,17] x2.Number x2 [0] ztM rfl (.inl rfl) rfl rfl rfl rfl (zei rfl rfl) (zCB (zV [0] x2) (zea rfl)) (by kernel_rfl) rfl rf)) (zX (jp ?_))));cases h;exact zH lzz
  cases h;exact zad rfl lzz
 ·exact lq ⟨[(3,.om kp zb 14 [] ([]:(List (Int×za)))),(11,.sl zb [0] x.Values),(12,kI (x.Values.length:Int)),(13,kI 0)],[]⟩ (zdE 3 (.om kp zb 14 [0] ([]:(List (Int×za)))) rfl (zyN _ _ _ _ rfl rfl) lzz)
 refine zas _ rfl (jp ?_);obtain rfl:=(sj h);exact zw (lk [2] [] 14 2 lzz)
theorem zkK (h:zcZ n=some r):FnOk Tryz.prog 144 [kN,kI n] [.own ku 83 2 [] r]:=by
 refine zy (E:=⟨[(4,.own ku 83 2 [] r)],[]⟩) 27 Tryz.func144 rfl rfl rfl ⟨rfl,trivial⟩ (fun Xt=>?_);refine zm ?_;unfold zcZ at h;refine jp (jp (jI h (fun uW h=>?_) fun uW h=>?_))
 · exact absurd h nofun
 refine jr (ra 2 [kN] rfl (zmt rfl Tryz.underlying54) rfl rf) (jp (jI h (fun uY h=>?_) fun uY h=>?_))
 ·refine jb h fun v vr h=>jb h fun v2 vz h=>jr (ra 2 [kN] rfl (zmt rfl Tryz.underlying54) rfl (ra 0 [kN,kI 0] rfl (zuG rfl znf.el) rfl (ra 1 [kN,kI (IntKind.i64.wrap (n - (IntKind.i64.wrap (0 - 0))))] rfl (zzW 12 rfl Tryz.underlying3 znf rfl vr) rfl (ra 2 [.own ku 83 12 [] v,kI 0] rfl (zzX rfl znf.el vz) rfl rf)))) (jp ?_);obtain rfl:=(sj h);exact zw (lk [4] [] 12 2 lzz)
 refine jp ?_;cases h;exact zw (lq ⟨[(4,kN)],[]⟩ (zdE 4 (.own ku 83 2 [] ([]:(List Int))) rfl (zaT ku 83 2 [] rfl) lzz))
theorem zkJ (h:zcY n=some r):FnOk Tryz.prog 116 [kN,kI n] [.own Rp.str 9 2 [] r]:=by
 refine zy (E:=⟨[(4,.own Rp.str 9 2 [] r)],[]⟩) 27 Tryz.func116 rfl rfl rfl ⟨rfl,trivial⟩ (fun Xt=>?_);refine zm ?_;unfold zcY at h;refine jp (jp (jI h (fun uW h=>?_) fun uW h=>?_))
 · exact absurd h nofun
 refine jr (ra 2 [kN] rfl (zmt rfl Tryz.underlying25) rfl rf) (jp (jI h (fun uY h=>?_) fun uY h=>?_))
 ·refine jb h fun v vr h=>jb h fun v2 vz h=>jr (ra 2 [kN] rfl (zmt rfl Tryz.underlying25) rfl (ra 0 [kN,kI 0] rfl (zuG rfl zhX.el) rfl (ra 1 [kN,kI (IntKind.i64.wrap (n - (IntKind.i64.wrap (0 - 0))))] rfl (zzW 12 rfl Tryz.underlying3 zhX rfl vr) rfl (ra 2 [.own Rp.str 9 12 [] v,kI 0] rfl (zzX rfl zhX.el vz) rfl rf)))) (jp ?_);obtain rfl:=(sj h);exact zw (lk [4] [] 12 2 lzz)
 refine jp ?_;cases h;exact zw (lq ⟨[(4,kN)],[]⟩ (zdE 4 (.own Rp.str 9 2 [] ([]:(List Str))) rfl (zaT Rp.str 9 2 [] rfl) lzz))
theorem zjT (h:zct n=some r):FnOk Tryz.prog 145 [kN,kI n] [.own zd 27 2 [] r]:=by
 refine zy (E:=⟨[(4,.own zd 27 2 [] r)],[]⟩) 27 Tryz.func145 rfl rfl rfl ⟨rfl,trivial⟩ (fun Xt=>?_);refine zm ?_;unfold zct at h;refine jp (jp (jI h (fun uW h=>?_) fun uW h=>?_))
 · exact absurd h nofun
 refine jr (ra 2 [kN] rfl (zmt rfl Tryz.underlying55) rfl rf) (jp (jI h (fun uY h=>?_) fun uY h=>?_))
 ·refine jb h fun v vr h=>jb h fun v2 vz h=>jr (ra 2 [kN] rfl (zmt rfl Tryz.underlying55) rfl (ra 0 [kN,kI 0] rfl (zuG rfl zjg.el) rfl (ra 1 [kN,kI (IntKind.i64.wrap (n - (IntKind.i64.wrap (0 - 0))))] rfl (zzW 12 rfl Tryz.underlying3 zjg rfl vr) rfl (ra 2 [.own zd 27 12 [] v,kI 0] rfl (zzX rfl zjg.el vz) rfl rf)))) (jp ?_);obtain rfl:=(sj h);exact zw (lk [4] [] 12 2 lzz)
 refine jp ?_;cases h;exact zw (lq ⟨[(4,kN)],[]⟩ (zdE 4 (.own zd 27 2 [] ([]:(List zc))) rfl (zaT zd 27 2 [] rfl) lzz))
theorem zsF (h:ziu values=some r):FnOk Tryz.prog 81 [.mp kp zb [0] values] [.own zb 57 2 [3,0] r]:=by
 refine zy (E:=⟨[(2,.own zb 57 2 [3,0] r)],[]⟩) 25 Tryz.func81 rfl rfl rfl ⟨rfl,trivial⟩ (fun Xt=>?_);refine zm ?_;unfold ziu at h;refine jp (jb h fun v vr h=>jr (ra 1 [.mp kp zb [0] values] rfl (zEt (rk:=kp) (rv:=zb) (m:=values) rfl Tryz.underlying105 (ztE _ _ _ _)) rfl (ra 0 [kI 0,kI (values.length:Int)] rfl (zEq 14 rfl zjz rfl vr) rfl rf)) (jb h fun v2 vz h=>jr (rkl 1 [] ⟨[(0,.mp kp zb [0] values),(3,.own zb 57 14 [] v),(9,.mp kp zb [0] values)],[]⟩ (zBV (rv:=zb) (m:=values) 15 zFK rfl rfl rfl rfl rfl rfl Tryz.call115 Tryz.call114 rfl (ztE _ _ _ _) vz rfl rf)) (zv (jb h fun q vc h=>zac (fun s:((List za)×Int)=>zcx v2 values s.1 s.2) (fun s=>⟨[(0,.mp kp zb [0] values),(3,.own zb 57 14 [16,0] s.1),(11,.own kp 3 15 [] v2),(12,kI (v2.length:Int)),(13,kI s.2)],[]⟩) (fun o e a w=>e= .exit 0/\Sx ⟨⟨25,[]⟩,Xt,false,#[]⟩ ⟨[(3,.own zb 57 14 [16,0] o)],[]⟩ a w) ?_ vc ?_ ?_))))
 ·clear h;intro s o h;obtain ⟨l,v3⟩:=s;refine zm ?_;replace h:zcx v2 values l v3=some o:=h;unfold zcx at h;refine jp (jI h (fun uW h=>?_) fun uW h=>?_)
  ·refine zv (jb h fun x vg h=>jr (ra 0 [.own kp 3 15 [] v2,kI v3] rfl (zai rfl zlP.el (zfL _ _ _ _ _) vg) rfl rf) (jb h fun v4 vO h=>jr (ra 3 [.mp kp zb [0] values,kI x] rfl (zEr (rk:=kp) (rv:=zb) (m:=values) (k:=x) (.rc zb [0] ((mget values x).getD (⟨0,[],[],[]⟩:za))) rfl ztM (ztE _ _ _ _) (zei rfl rfl) (zzD rfl)) rfl (rc 0 rfl (zbX [.rc zb [0] ((mget values x).getD (⟨0,[],[],[]⟩:za))] 19 [0] ([((mget values x).getD (⟨0,[],[],[]⟩:za))]:(List za)) rfl zjz rfl rfl rfl (by simp only [ziL,zeJ,zfC,zn,xN,yo]<;>rfl)) (ra 0 [.own zb 57 14 [16,0] l,.own zb 57 19 [0] ([((mget values x).getD (⟨0,[],[],[]⟩:za))]:(List za))] rfl (zeR 14 [16,0,19] rfl zjz.el rfl (zbu _ _ _ _ _) (zfL _ _ _ _ _) vO (.inr rfl) rfl) rfl rf))) (zX (jp ?_))));cases h;exact zH (lk [0,3,11,12,13] [] 19 16 (lq ⟨[(0,.mp kp zb [0] values),(3,.own zb 57 14 [16,0,16] v4),(11,.own kp 3 15 [] v2),(12,kI (v2.length:Int)),(13,kI (IntKind.i64.wrap (v3+1)))],[]⟩ (zdE 3 (.own zb 57 14 [16,0] v4) rfl (zdz _ _ _ _ _ _ rfl rfl) lzz)))
  cases h;exact zad rfl lzz
 ·exact lq ⟨[(0,.mp kp zb [0] values),(3,.own zb 57 14 [] v),(11,.own kp 3 15 [] v2),(12,kI (v2.length:Int)),(13,kI 0)],[]⟩ (zdE 3 (.own zb 57 14 [16,0] v) rfl (zdz _ _ _ _ _ _ rfl rfl) lzz)
 refine zas _ rfl (jp ?_);obtain rfl:=(sj h);exact zw (lk [2] [] 14 2 (lk [2] [] 16 3 lzz))
theorem zsl (h:zhF sv=some r):FnOk Tryz.prog 8 [.sl zj [0] sv] [kB r]:=by
 refine zy (E:=⟨[(2,kB r)],[]⟩) 54 Tryz.func8 rfl rfl rfl ⟨rfl,trivial⟩ (fun Xt=>?_);refine zm ?_;unfold zhF at h;refine jp (jp (jp (zv (jb h fun q2 vu h=>zac (fun s:(Int×Int)=>zcd sv s.1 s.2) (fun s=>⟨[(0,.sl zj [0] sv),(3,kI s.1),(4,kI s.2)],[]⟩) (fun o e a w=>e= .exit 0/\Sx ⟨⟨54,[]⟩,Xt,false,#[]⟩ ⟨[(3,kI o)],[]⟩ a w) ?_ vu lzz ?_))))
 ·clear h;intro s o h;obtain ⟨n,i⟩:=s;refine zm ?_;replace h:zcd sv n i=some o:=h;unfold zcd at h;refine jp (jI h (fun uW h=>?_) fun uW h=>?_)
  ·refine zv (jb h fun x vg h=>jb h fun x2 vk h=>jd [0,3,4] [] zbh (by exact (lw_e (lw_e (lw_e (lw_e (ly [.sl zj [0] sv,kI i] (zai rfl zjf.el (zC _ _ _) vg) rfl (lw_e (lw_e (lw_e (lw_e (lw_e (lw_e (lw_e (ly [.sl zj [0] sv,kI i] (zai rfl zjf.el (zC _ _ _) vk) rfl (lw_e (ly [.ep zj [0] x2 1] (zgf zg x2.Fields rfl rfl rfl) rfl l0)))))))))))))))) (jp (zv (jb h fun q vc h=>zac (fun s:(Int×Int)=>zce i sv s.1 s.2) (fun s=>⟨[(0,.sl zj [0] sv),(3,kI s.1),(4,kI i),(5,kI s.2)],[]⟩) (fun o e a w=>e= .exit 2/\Sx ⟨⟨54,[]⟩,Xt,false,#[]⟩ ⟨[(0,.sl zj [0] sv),(3,kI o),(4,kI i)],[]⟩ a w) ?_ vc lzz ?_))))
   ·clear h;intro s o h;obtain ⟨n3,k⟩:=s;refine zm ?_;replace h:zce i sv n3 k=some o:=h;unfold zce at h;refine jb h fun x3 vo h=>jr (ra 3 [.sl zj [0] sv,kI i] rfl (zai rfl zjf.el (zC _ _ _) vo) rfl (ra 1 [.ep zj [0] x3 1] rfl (zgf zg x3.Fields rfl rfl rfl) rfl rf)) (jI h (fun uY h=>?_) fun uY h=>?_)
    ·refine zv (jb h fun x4 vC h=>jb h fun x5 vK h=>jr (ra 3 [.sl zj [0] sv,kI i] rfl (zai rfl zjf.el (zC _ _ _) vC) rfl (ra 1 [.ep zj [0] x4 1] rfl (zgf zg x4.Fields rfl rfl rfl) rfl (ra 1 [.sl zg [0] x4.Fields,kI k] rfl (zai rfl zpi.el (zC _ _ _) vK) rfl rf))) (zX (jp ?_)));cases h;exact zH lzz
    cases h;exact zad rfl lzz
   refine zas _ rfl (zX (jp ?_));cases h;exact zH lzz
  cases h;exact zad rfl lzz
 refine zas _ rfl (jp ?_);cases h;exact zw lzz
theorem zqb (wF:∀{x:zc} {deep:Int} {r:Int},xj x deep=some r->FnOk Tryz.prog 35 [.rc zd [0] x,kI deep] [kI r]) (wG:∀{v:za} {deep:Int} {r:Int},xk v deep=some r->FnOk Tryz.prog 74 [.rc zb [0] v,kI deep] [kI r]) (h:zgh xj xk x deep=some r):FnOk Tryz.prog 35 [.rc zd [0] x,kI deep] [kI r]:=by
 refine zy (E:=⟨[(4,kI r)],[]⟩) 45 Tryz.func35 rfl rfl rfl ⟨rfl,trivial⟩ (fun Xt=>?_);refine zm ?_;unfold zgh at h;refine jr (ra 0 [.rc zd [0] x] rfl (zbc 11 (zh [0] x) [0] rfl rfl rfl (by rw [zk]<;>rfl) rfl) rfl rf) (jp (jI h (fun uW h=>?_) fun uW h=>?_))
 ·refine jp ?_;cases h;exact zw lzz
 refine jp (jp (zv (jb h fun q vc h=>zac (fun s:(Int×Int)=>zbN x s.1 s.2) (fun s=>⟨[(1,kI deep),(2,.ptr 11 0),(5,kI s.1),(6,kI s.2)],[⟨11,27,(zh [0] x)⟩]⟩) (fun o e a w=>e= .exit 0/\Sx ⟨⟨45,[]⟩,Xt,false,#[]⟩ ⟨[(1,kI deep),(2,.ptr 11 0),(5,kI o)],[⟨11,27,(zh [0] x)⟩]⟩ a w) ?_ vc lzz ?_)))
 ·clear h;intro s o h;obtain ⟨n,i⟩:=s;refine zm ?_;replace h:zbN x n i=some o:=h;unfold zbN at h;refine jp (jI h (fun uY h=>?_) fun uY h=>?_)
  ·refine zv (jb h fun x2 vk h=>jr (ra 5 [.sl Rp.str [0] x.Unknown,kI i] rfl (zai rfl zhX.el (zC _ _ _) vk) rfl rf) (zX (jp ?_)));cases h;exact zH lzz
  cases h;exact zad rfl lzz
 refine zas _ rfl (jp (zv (jb h fun q2 vu h=>zac (fun s:(Int×Int)=>zbp deep xk x s.1 s.2) (fun s=>⟨[(1,kI deep),(2,.ptr 11 0),(5,kI s.1),(7,kI s.2)],[⟨11,27,(zh [0] x)⟩]⟩) (fun o e a w=>match o with| (.inl v_)=>e= .exit 2/\Sx ⟨⟨45,[]⟩,Xt,false,#[]⟩ ⟨[(5,kI v_)],[]⟩ a w| (.inr v_)=>e= .ret/\Sx ⟨⟨45,[]⟩,Xt,false,#[]⟩ ⟨[(4,kI 5000)],[]⟩ a w) ?_ vu lzz ?_)))
 ·clear h;intro s o h;obtain ⟨n3,i2⟩:=s;refine zm ?_;replace h:zbp deep xk x n3 i2=some o:=h;unfold zbp at h;refine jp (jI h (fun u9 h=>?_) fun u9 h=>?_)
  ·refine zv (jb h fun x3 vo h=>jb h fun rv uZ h=>jr (ra 4 [.sl zb [0] x.Values,kI i2] rfl (zai rfl zjz.el (zC _ _ _) vo) rfl (ra 0 [.ep zb [0] x3 0] rfl (zcr rfl ⟨Tryz.isAgg57,Tryz.sizeOf57⟩) rfl (rl 1 [0] 12 Tryz.call74 (wG uZ) rf))) (jp (jI h (fun vd h=>?_) fun vd h=>?_)))
   ·refine jp ?_;cases h;exact zbf lzz
   refine zX (jp ?_);cases h;exact zH lzz
  cases h;exact zad rfl lzz
 rcases q2 with u| u2
 ·refine zas _ rfl (jp ?_);obtain rfl:=(sj h);exact zw lzz
 cases h;exact zdj lzz
theorem zmE (wF:∀{x:zc} {deep:Int} {r:Int},xj x deep=some r->FnOk Tryz.prog 35 [.rc zd [0] x,kI deep] [kI r]) (wG:∀{v:za} {deep:Int} {r:Int},xk v deep=some r->FnOk Tryz.prog 74 [.rc zb [0] v,kI deep] [kI r]) (h:zec xj xk v deep=some r):FnOk Tryz.prog 74 [.rc zb [0] v,kI deep] [kI r]:=by
 refine zy (E:=⟨[(4,kI r)],[]⟩) 48 Tryz.func74 rfl rfl rfl ⟨rfl,trivial⟩ (fun Xt=>?_);refine zm ?_;unfold zec at h;refine jr (ra 0 [.rc zb [0] v] rfl (zbc 11 (zi [0] v) [0] rfl rfl rfl (by rw [zn]<;>rfl) rfl) rfl rf) (jp (jp (zv (jb h fun q vc h=>zac (fun s:(Int×Int)=>zaJ v s.1 s.2) (fun s=>⟨[(1,kI deep),(2,.ptr 11 0),(5,kI s.1),(6,kI s.2)],[⟨11,57,(zi [0] v)⟩]⟩) (fun o e a w=>e= .exit 0/\Sx ⟨⟨48,[]⟩,Xt,false,#[]⟩ ⟨[(1,kI deep),(2,.ptr 11 0),(5,kI o)],[⟨11,57,(zi [0] v)⟩]⟩ a w) ?_ vc lzz ?_))))
 ·clear h;intro s o h;obtain ⟨n,k⟩:=s;refine zm ?_;replace h:zaJ v n k=some o:=h;unfold zaJ at h;refine jp (jI h (fun uW h=>?_) fun uW h=>?_)
  ·refine zv (jb h fun x vg h=>jr (ra 5 [.sl Rp.str [0] v.Texts,kI k] rfl (zai rfl zhX.el (zC _ _ _) vg) rfl rf) (zX (jp ?_)));cases h;exact zH lzz
  cases h;exact zad rfl lzz
 refine zas _ rfl (jp (zv (jb h fun q2 vu h=>zac (fun s:(Int×Int)=>zaA deep xj v s.1 s.2) (fun s=>⟨[(1,kI deep),(2,.ptr 11 0),(5,kI s.1),(7,kI s.2)],[⟨11,57,(zi [0] v)⟩]⟩) (fun o e a w=>match o with| (.inl v_)=>e= .exit 2/\Sx ⟨⟨48,[]⟩,Xt,false,#[]⟩ ⟨[(5,kI v_)],[]⟩ a w| (.inr v_)=>e= .ret/\Sx ⟨⟨48,[]⟩,Xt,false,#[]⟩ ⟨[(4,kI 5000)],[]⟩ a w) ?_ vu lzz ?_)))
 ·clear h;intro s o h;obtain ⟨n3,k2⟩:=s;refine zm ?_;replace h:zaA deep xj v n3 k2=some o:=h;unfold zaA at h;refine jp (jI h (fun uY h=>?_) fun uY h=>?_)
  ·refine zv (jb h fun x2 vk h=>jb h fun rv uZ h=>jr (ra 4 [.sl zd [0] v.Subs,kI k2] rfl (zai rfl zjg.el (zC _ _ _) vk) rfl (ra 0 [.ep zd [0] x2 0] rfl (zcr rfl ⟨Tryz.isAgg27,Tryz.sizeOf27⟩) rfl (rl 2 [0] 12 Tryz.call35 (wF uZ) rf))) (jp (jI h (fun u9 h=>?_) fun u9 h=>?_)))
   ·refine jp ?_;cases h;exact zbf lzz
   refine zX (jp ?_);cases h;exact zH lzz
  cases h;exact zad rfl lzz
 rcases q2 with u| u2
 ·refine zas _ rfl (jp ?_);obtain rfl:=(sj h);exact zw lzz
 cases h;exact zdj lzz
theorem zhc (vf:Nat):(∀{x:zc} {deep:Int} {r:Int},zcp vf x deep=some r->FnOk Tryz.prog 35 [.rc zd [0] x,kI deep] [kI r])/\(∀{v:za} {deep:Int} {r:Int},zbL vf v deep=some r->FnOk Tryz.prog 74 [.rc zb [0] v,kI deep] [kI r]):=by
  induction vf with
  | zero=>exact ⟨fun h=>absurd h nofun,fun h=>absurd h nofun⟩
  | succ vf ih=>exact ⟨fun h=>zqb (fun hh=>ih.1 hh) (fun hh=>ih.2 hh) h,fun h=>zmE (fun hh=>ih.1 hh) (fun hh=>ih.2 hh) h⟩
theorem zqG (h:zcp vf x deep=some r):FnOk Tryz.prog 35 [.rc zd [0] x,kI deep] [kI r]:=(zhc vf).1 h
theorem zsm (wH:∀{x:zc} {r:zc},xl x=some r->FnOk Tryz.prog 10 [.rc zd [0] x] [.ag (zr 3 [4,0] 5 [] r)]) (wI:∀{v:za} {r:za},xm v=some r->FnOk Tryz.prog 22 [.rc zb [0] v] [.ag (zaL [0] [0] 3 [4,0] r)]) (h:zhb xl xm x=some r):FnOk Tryz.prog 10 [.rc zd [0] x] [.ag (zr 3 [4,0] 5 [] r)]:=by
 refine zy (E:=⟨[(2,.ptr 2 0)],[⟨2,33,(zr 3 [4,0] 5 [] r)⟩]⟩) 29 Tryz.func10 rfl rfl rfl ⟨⟨_,_,rfl,rfl,rfl,⟨Tryz.isAgg33,Tryz.sizeOf33⟩⟩,trivial⟩ (fun Xt=>?_);refine zm ?_;unfold zhb at h;refine jr (ra 0 [.rc zd [0] x] rfl (zbc 21 (zh [0] x) [0] rfl rfl rfl (by rw [zk]<;>rfl) rfl) rfl (rfl' [22])) (jb h fun v vr h=>jr (rc 0 rfl (zbX [] 23 [] ([]:(List Str)) rfl zhX rfl rfl rfl rfl) (ra 2 [.own Rp.str 9 23 [] ([]:(List Str)),.sl Rp.str [0] x.Unknown] rfl (zeR 23 [] rfl zhX.el rfl (zbu _ _ _ _ _) (zC _ _ _) vr (.inl zlb) rfl) rfl (ra 0 [.own Rp.str 9 23 [] v] rfl (zbK [.own Rp.str 9 23 [] v] [kN,.own Rp.str 9 23 [] v] rfl zCa rfl) rfl (rfl' [24])))) (jp (zv (jb h fun q vc h=>zac (fun s:(Int×(List za))=>zcy xm x s.1 s.2) (fun s=>⟨[(1,.ptr 21 0),(2,.ptr 22 0),(3,.ptr 24 0),(4,kI s.1)],[⟨21,27,(zh [0] x)⟩,⟨22,33,[kN,kN]⟩,⟨24,33,[.own zb 59 30 [25,0] s.2,.own Rp.str 9 23 [] v]⟩]⟩) (fun o e a w=>e= .exit 0/\Sx ⟨⟨29,[]⟩,Xt,false,#[]⟩ ⟨[(2,.ptr 22 0),(3,.ptr 24 0)],[⟨22,33,[kN,kN]⟩,⟨24,33,[.own zb 59 30 [25,0] o,.own Rp.str 9 23 [] v]⟩]⟩ a w) ?_ vc ?_ ?_))))
 ·clear h;intro s o h;obtain ⟨i,f⟩:=s;refine zm ?_;replace h:zcy xm x i f=some o:=h;unfold zcy at h;refine jp (jI h (fun uW h=>?_) fun uW h=>?_)
  ·refine zv (jb h fun x2 vk h=>jb h fun rv uZ h=>jb h fun v2 vz h=>jd [1,2,3,4] [21,22,24] zbh (by exact (lw_e (lw_e (lw_e (lw_e (lw_e (ly [.sl zb [0] x.Values,kI i] (zai rfl zjz.el (zC _ _ _) vk) rfl (ly [.ep zb [0] x2 0] (zcr rfl ⟨Tryz.isAgg57,Tryz.sizeOf57⟩) rfl (lx (lf1 22 (zQ [.rc zb [0] x2] [0] 33 rfl Tryz.call22 (wI uZ) rfl rfl rfl rfl rfl)) (lx (zA.le (ins':=[(.tmp 24,.ag (zaL [0] [0] 36 [37,0] rv))]) (zbX [.rc zb [0,36,37] rv] 38 [0,36,37] ([rv]:(List za)) rfl zih rfl rfl rfl (by simp only [ziL,zeJ,zfC,zn,xN,yo]<;>rfl)) ⟨⟨rfl,zaE zb [0,36,37] rv (zaL [0] [0] 36 [37,0] rv) (by rw [zn]<;>rfl) rfl⟩,trivial⟩) (ly [.own zb 59 30 [25,0] f,.own zb 59 38 [0,36,37] ([rv]:(List za))] (zA.withBx (zeR 30 [25,0,38,36,37] rfl zih.el rfl (zbu _ _ _ _ _) (zfL _ _ _ _ _) vz (.inr rfl) rfl) ⟨24,33,[.own zb 59 30 [25,0] f,.own Rp.str 9 23 [] v]⟩ rfl rfl) rfl (lw_e (ly [.ptr 24 0,.own zb 59 30 [25,0,38,36,37] v2] (zsO (b:=⟨24,33,[.any,.own Rp.str 9 23 [] v]⟩) (off:=0) rfl Tryz.sizeOf31 rfl rfl rfl) rfl l0))))))))))))) (zX (jp ?_)));cases h;exact zH (lk [1,2,3,4] [21,22,24] 38 25 (lk [1,2,3,4] [21,22,24] 36 25 (lk [1,2,3,4] [21,22,24] 37 25 (lq ⟨[(1,.ptr 21 0),(2,.ptr 22 0),(3,.ptr 24 0),(4,kI (IntKind.i64.wrap (i+1)))],[⟨21,27,(zh [0] x)⟩,⟨22,33,[kN,kN]⟩,⟨24,33,[.own zb 59 30 [25,0,25,25,25] v2,.own Rp.str 9 23 [] v]⟩]⟩ (zaN 24 0 (.own zb 59 30 [25,0] v2) rfl rfl (zdz _ _ _ _ _ _ rfl rfl) lzz)))))
  cases h;exact zad rfl lzz
 ·exact lq ⟨[(1,.ptr 21 0),(2,.ptr 22 0),(3,.ptr 24 0),(4,kI 0)],[⟨21,27,(zh [0] x)⟩,⟨22,33,[kN,kN]⟩,⟨24,33,[kN,.own Rp.str 9 23 [] v]⟩]⟩ (zaN 24 0 (.own zb 59 30 [25,0] []) rfl rfl (zaT zb 59 30 [25,0] rfl) lzz)
 refine zas _ rfl (jp ?_);cases h;exact zw (lk [2] [22] 22 2 (lk [2] [2] 30 3 (lk [2] [2] 23 5 (lk [2] [2] 25 4 lzz))))
theorem znQ (wH:∀{x:zc} {r:zc},xl x=some r->FnOk Tryz.prog 10 [.rc zd [0] x] [.ag (zr 3 [4,0] 5 [] r)]) (wI:∀{v:za} {r:za},xm v=some r->FnOk Tryz.prog 22 [.rc zb [0] v] [.ag (zaL [0] [0] 3 [4,0] r)]) (h:zeM xl xm v=some r):FnOk Tryz.prog 22 [.rc zb [0] v] [.ag (zaL [0] [0] 3 [4,0] r)]:=by
 refine zy (E:=⟨[(2,.ptr 2 0)],[⟨2,59,(zaL [0] [0] 3 [4,0] r)⟩]⟩) 31 Tryz.func22 rfl rfl rfl ⟨⟨_,_,rfl,rfl,rfl,⟨Tryz.isAgg59,Tryz.sizeOf59⟩⟩,trivial⟩ (fun Xt=>?_);refine zm ?_;unfold zeM at h;refine jr (ra 0 [.rc zb [0] v] rfl (zbc 21 (zi [0] v) [0] rfl rfl rfl (by rw [zn]<;>rfl) rfl) rfl (rfl' [22])) (jr (ra 6 [kI v.Number,.sl ku [0] v.Words,.sl Rp.str [0] v.Texts] rfl (zbK [kI v.Number,.sl ku [0] v.Words,.sl Rp.str [0] v.Texts] (zdw [0] [0] v) rfl zEI rfl) rfl (rfl' [23])) (jp (zv (jb h fun q vc h=>zac (fun s:(Int×(List zc))=>zaV xl v s.1 s.2) (fun s=>⟨[(1,.ptr 21 0),(2,.ptr 22 0),(3,.ptr 23 0),(4,kI s.1)],[⟨21,57,(zi [0] v)⟩,⟨22,59,[kI 0,kN,kN,kN]⟩,⟨23,59,[kI v.Number,.sl ku [0] v.Words,.sl Rp.str [0] v.Texts,.own zd 33 30 [24,0] s.2]⟩]⟩) (fun o e a w=>e= .exit 0/\Sx ⟨⟨31,[]⟩,Xt,false,#[]⟩ ⟨[(2,.ptr 22 0),(3,.ptr 23 0)],[⟨22,59,[kI 0,kN,kN,kN]⟩,⟨23,59,[kI v.Number,.sl ku [0] v.Words,.sl Rp.str [0] v.Texts,.own zd 33 30 [24,0] o]⟩]⟩ a w) ?_ vc ?_ ?_))))
 ·clear h;intro s o h;obtain ⟨i,f⟩:=s;refine zm ?_;replace h:zaV xl v i f=some o:=h;unfold zaV at h;refine jp (jI h (fun uW h=>?_) fun uW h=>?_)
  ·refine zv (jb h fun x vg h=>jb h fun rv uZ h=>jb h fun v2 vz h=>jd [1,2,3,4] [21,22,23] zbh (by exact (lw_e (lw_e (lw_e (lw_e (lw_e (ly [.sl zd [0] v.Subs,kI i] (zai rfl zjg.el (zC _ _ _) vg) rfl (ly [.ep zd [0] x 0] (zcr rfl ⟨Tryz.isAgg27,Tryz.sizeOf27⟩) rfl (lx (lf1 10 (zQ [.rc zd [0] x] [0] 34 rfl Tryz.call10 (wH uZ) rfl rfl rfl rfl rfl)) (lx (zA.le (ins':=[(.tmp 26,.ag (zr 37 [38,0] 39 [] rv))]) (zbX [.rc zd [37,38,0,39] rv] 40 [37,38,0,39] ([rv]:(List zc)) rfl zlO rfl rfl rfl (by simp only [ziL,zeJ,zfC,zk,xN,yo]<;>rfl)) ⟨⟨rfl,zaE zd [37,38,0,39] rv (zr 37 [38,0] 39 [] rv) (by rw [zk]<;>rfl) rfl⟩,trivial⟩) (ly [.own zd 33 30 [24,0] f,.own zd 33 40 [37,38,0,39] ([rv]:(List zc))] (zA.withBx (zeR 30 [24,0,40,37,38,39] rfl zlO.el rfl (zbu _ _ _ _ _) (zfL _ _ _ _ _) vz (.inr rfl) rfl) ⟨23,59,[kI v.Number,.sl ku [0] v.Words,.sl Rp.str [0] v.Texts,.own zd 33 30 [24,0] f]⟩ rfl rfl) rfl (lw_e (ly [.ptr 23 3,.own zd 33 30 [24,0,40,37,38,39] v2] (zsO (b:=⟨23,59,[kI v.Number,.sl ku [0] v.Words,.sl Rp.str [0] v.Texts,.any]⟩) (off:=3) rfl Tryz.sizeOf40 rfl rfl rfl) rfl l0))))))))))))) (zX (jp ?_)));cases h;exact zH (lk [1,2,3,4] [21,22,23] 40 24 (lk [1,2,3,4] [21,22,23] 37 24 (lk [1,2,3,4] [21,22,23] 38 24 (lk [1,2,3,4] [21,22,23] 39 24 (lq ⟨[(1,.ptr 21 0),(2,.ptr 22 0),(3,.ptr 23 0),(4,kI (IntKind.i64.wrap (i+1)))],[⟨21,57,(zi [0] v)⟩,⟨22,59,[kI 0,kN,kN,kN]⟩,⟨23,59,[kI v.Number,.sl ku [0] v.Words,.sl Rp.str [0] v.Texts,.own zd 33 30 [24,0,24,24,24,24] v2]⟩]⟩ (zaN 23 3 (.own zd 33 30 [24,0] v2) rfl rfl (zdz _ _ _ _ _ _ rfl rfl) lzz))))))
  cases h;exact zad rfl lzz
 ·exact lq ⟨[(1,.ptr 21 0),(2,.ptr 22 0),(3,.ptr 23 0),(4,kI 0)],[⟨21,57,(zi [0] v)⟩,⟨22,59,[kI 0,kN,kN,kN]⟩,⟨23,59,(zdw [0] [0] v)⟩]⟩ (zaN 23 3 (.own zd 33 30 [24,0] []) rfl rfl (zaT zd 33 30 [24,0] rfl) lzz)
 refine zas _ rfl (jp ?_);cases h;exact zw (lk [2] [22] 22 2 (lk [2] [2] 30 3 (lk [2] [2] 24 4 lzz)))
theorem zhY (vf:Nat):(∀{x:zc} {r:zc},zcl vf x=some r->FnOk Tryz.prog 10 [.rc zd [0] x] [.ag (zr 3 [4,0] 5 [] r)])/\(∀{v:za} {r:za},zeo vf v=some r->FnOk Tryz.prog 22 [.rc zb [0] v] [.ag (zaL [0] [0] 3 [4,0] r)]):=by
  induction vf with
  | zero=>exact ⟨fun h=>absurd h nofun,fun h=>absurd h nofun⟩
  | succ vf ih=>exact ⟨fun h=>zsm (fun hh=>ih.1 hh) (fun hh=>ih.2 hh) h,fun h=>znQ (fun hh=>ih.1 hh) (fun hh=>ih.2 hh) h⟩
theorem zcU (h:zcl vf x=some r):FnOk Tryz.prog 10 [.rc zd [0] x] [.ag (zr 3 [4,0] 5 [] r)]:=(zhY vf).1 h
theorem zlu (h:zfR sv=some r):FnOk Tryz.prog 149 [kS sv] [kB r]:=by
 refine zy (E:=⟨[(2,kB r)],[]⟩) 55 Tryz.func149 rfl rfl rfl ⟨rfl,trivial⟩ (fun Xt=>?_);refine zm ?_;unfold zfR at h;refine jp (jp (zv (jb h fun q vc h=>zac (fun s:Int=>zbq sv s) (fun s=>⟨[(0,kS sv),(3,kI s)],[]⟩) (fun o e a w=>match o with| (.inl v_)=>e= .exit 0/\Sx ⟨⟨55,[]⟩,Xt,false,#[]⟩ ⟨[(0,kS sv)],[]⟩ a w| (.inr v_)=>e= .ret/\Sx ⟨⟨55,[]⟩,Xt,false,#[]⟩ ⟨[(2,kB false)],[]⟩ a w) ?_ vc lzz ?_)))
 ·clear h;intro i o h;refine zm ?_;replace h:zbq sv i=some o:=h;unfold zbq at h;refine jp (jI h (fun uW h=>?_) fun uW h=>?_)
  ·refine zv (jb h fun c wo h=>jr (ra 2 [kS sv,kI i] rfl (zzZ rfl Tryz.underlying9 wo) rfl rf) (zab ⟨[(0,kS sv),(3,kI i),(5,kB (if (decide ((c.toNat:Int)>=65)) then ((decide ((c.toNat:Int)<=90))|| (if (decide ((c.toNat:Int)>=97)) then ((decide ((c.toNat:Int)<=122))|| (((c.toNat:Int)==95)|| ((decide (i>0))&&((decide ((c.toNat:Int)>=48))&&(decide ((c.toNat:Int)<=57)))))) else (((c.toNat:Int)==95)|| ((decide (i>0))&&((decide ((c.toNat:Int)>=48))&&(decide ((c.toNat:Int)<=57))))))) else (if (decide ((c.toNat:Int)>=97)) then ((decide ((c.toNat:Int)<=122))|| (((c.toNat:Int)==95)|| ((decide (i>0))&&((decide ((c.toNat:Int)>=48))&&(decide ((c.toNat:Int)<=57)))))) else (((c.toNat:Int)==95)|| ((decide (i>0))&&((decide ((c.toNat:Int)>=48))&&(decide ((c.toNat:Int)<=57))))))))],[]⟩ ?_ ?_))
   ·refine (rsl 3 [] 17 (decide ((c.toNat:Int)>=65)) (fun uY=>?_) (fun uY=>?_))
    ·refine (rsl 4 [] 21 (decide ((c.toNat:Int)<=90)) (fun u9=>?_) (fun u9=>?_))
     · exact (rbl [] 5 true rfl (by rw [uY,u9]<;>rfl))
     refine (rsl 3 [] 24 (decide ((c.toNat:Int)>=97)) (fun vd=>?_) (fun vd=>?_))
     ·refine (rsl 5 [] 29 (decide ((c.toNat:Int)<=122)) (fun vh=>?_) (fun vh=>?_))
      · exact (rbl [] 5 true rfl (by rw [uY,u9,vd,vh]<;>rfl))
      refine (rsl 4 [] 33 ((c.toNat:Int)==95) (fun vi=>?_) (fun vi=>?_))
      · exact (rbl [] 5 true rfl (by rw [uY,u9,vd,vh,vi]<;>rfl))
      refine (rsl 3 [] 36 (decide (i>0)) (fun vm=>?_) (fun vm=>?_))
      ·refine (rsl 4 [] 40 (decide ((c.toNat:Int)>=48)) (fun vp=>?_) (fun vp=>?_))
       · exact (rbl [] 5 (decide ((c.toNat:Int)<=57)) rfl (by rw [uY,u9,vd,vh,vi,vm,vp]<;>rfl))
       exact (rbl [] 5 false rfl (by rw [uY,u9,vd,vh,vi,vm,vp]<;>rfl))
      exact (rbl [] 5 false rfl (by rw [uY,u9,vd,vh,vi,vm]<;>rfl))
     refine (rsl 9 [] 33 ((c.toNat:Int)==95) (fun vq=>?_) (fun vq=>?_))
     · exact (rbl [] 5 true rfl (by rw [uY,u9,vd,vq]<;>rfl))
     refine (rsl 3 [] 36 (decide (i>0)) (fun vA=>?_) (fun vA=>?_))
     ·refine (rsl 4 [] 40 (decide ((c.toNat:Int)>=48)) (fun vL=>?_) (fun vL=>?_))
      · exact (rbl [] 5 (decide ((c.toNat:Int)<=57)) rfl (by rw [uY,u9,vd,vq,vA,vL]<;>rfl))
      exact (rbl [] 5 false rfl (by rw [uY,u9,vd,vq,vA,vL]<;>rfl))
     exact (rbl [] 5 false rfl (by rw [uY,u9,vd,vq,vA]<;>rfl))
    refine (rsl 7 [] 24 (decide ((c.toNat:Int)>=97)) (fun vF=>?_) (fun vF=>?_))
    ·refine (rsl 5 [] 29 (decide ((c.toNat:Int)<=122)) (fun vE=>?_) (fun vE=>?_))
     · exact (rbl [] 5 true rfl (by rw [uY,vF,vE]<;>rfl))
     refine (rsl 4 [] 33 ((c.toNat:Int)==95) (fun vI=>?_) (fun vI=>?_))
     · exact (rbl [] 5 true rfl (by rw [uY,vF,vE,vI]<;>rfl))
     refine (rsl 3 [] 36 (decide (i>0)) (fun vM=>?_) (fun vM=>?_))
     ·refine (rsl 4 [] 40 (decide ((c.toNat:Int)>=48)) (fun vR=>?_) (fun vR=>?_))
      · exact (rbl [] 5 (decide ((c.toNat:Int)<=57)) rfl (by rw [uY,vF,vE,vI,vM,vR]<;>rfl))
      exact (rbl [] 5 false rfl (by rw [uY,vF,vE,vI,vM,vR]<;>rfl))
     exact (rbl [] 5 false rfl (by rw [uY,vF,vE,vI,vM]<;>rfl))
    refine (rsl 9 [] 33 ((c.toNat:Int)==95) (fun vP=>?_) (fun vP=>?_))
    · exact (rbl [] 5 true rfl (by rw [uY,vF,vP]<;>rfl))
    refine (rsl 3 [] 36 (decide (i>0)) (fun vS=>?_) (fun vS=>?_))
    ·refine (rsl 4 [] 40 (decide ((c.toNat:Int)>=48)) (fun vW=>?_) (fun vW=>?_))
     · exact (rbl [] 5 (decide ((c.toNat:Int)<=57)) rfl (by rw [uY,vF,vP,vS,vW]<;>rfl))
     exact (rbl [] 5 false rfl (by rw [uY,vF,vP,vS,vW]<;>rfl))
    exact (rbl [] 5 false rfl (by rw [uY,vF,vP,vS]<;>rfl))
   refine jp (jI h (fun wt h=>?_) fun wt h=>?_)
   ·refine jp ?_;cases h;exact zbf lzz
   refine zX (jp ?_);cases h;exact zH lzz
  cases h;exact zad rfl lzz
 rcases q with u| u2
 ·refine zas _ rfl (zab ⟨[(2,kB ((decide ((sv.length:Int)>=1))&&(decide ((sv.length:Int)<=60))))],[]⟩ ?_ ?_)
  ·refine (rsl 4 [] 50 (decide ((sv.length:Int)>=1)) (fun wu=>?_) (fun wu=>?_))
   · exact (rbl [] 2 (decide ((sv.length:Int)<=60)) rfl (by rw [wu]<;>rfl))
   exact (rbl [] 2 false rfl (by rw [wu]<;>rfl))
  cases h;exact zw lzz
 obtain rfl:=(sj h);exact zdj lzz
theorem ziH (h:zcV k=some r):FnOk Tryz.prog 59 [kI k] [kB r]:=by
 refine zy (E:=⟨[(2,kB r)],[]⟩) 9 Tryz.func59 rfl rfl rfl ⟨rfl,trivial⟩ (fun Xt=>?_);refine zm ?_;unfold zcV at h;refine jp (zab ⟨[(2,kB ((decide (k>=1))&&(decide (k<=17))))],[]⟩ ?_ ?_)
 ·refine (rsl 3 [] 5 (decide (k>=1)) (fun uW=>?_) (fun uW=>?_))
  · exact (rbl [] 2 (decide (k<=17)) rfl (by rw [uW]<;>rfl))
  exact (rbl [] 2 false rfl (by rw [uW]<;>rfl))
 cases h;exact zw lzz
theorem zij (h:zdJ k=some r):FnOk Tryz.prog 60 [kI k] [kB r]:=by
 refine zy (E:=⟨[(2,kB r)],[]⟩) 9 Tryz.func60 rfl rfl rfl ⟨rfl,trivial⟩ (fun Xt=>?_);refine zm ?_;unfold zdJ at h;refine jp (zab ⟨[(2,kB ((decide (k>=1))&&(decide (k<=14))))],[]⟩ ?_ ?_)
 ·refine (rsl 3 [] 5 (decide (k>=1)) (fun uW=>?_) (fun uW=>?_))
  · exact (rbl [] 2 (decide (k<=14)) rfl (by rw [uW]<;>rfl))
  exact (rbl [] 2 false rfl (by rw [uW]<;>rfl))
 cases h;exact zw lzz
theorem ziI (h:zej m vv=some r):FnOk Tryz.prog 42 [.rc zj [0] m,kI vv] [kI r]:=by
 refine zy (E:=⟨[(4,kI r)],[]⟩) 22 Tryz.func42 rfl rfl rfl ⟨rfl,trivial⟩ (fun Xt=>?_);refine zm ?_;unfold zej at h;refine jr (ra 0 [.rc zj [0] m] rfl (zbc 11 (zaK [0] m) [0] rfl rfl rfl rfl rfl) rfl rf) (jp (zv (jb h fun q vc h=>zac (fun s:Int=>zaZ m vv s) (fun s=>⟨[(1,kI vv),(2,.ptr 11 0),(5,kI s)],[⟨11,82,(zaK [0] m)⟩]⟩) (fun o e a w=>match o with| (.inl v_)=>e= .exit 0/\Sx ⟨⟨22,[]⟩,Xt,false,#[]⟩ ⟨[],[]⟩ a w| (.inr v_)=>e= .ret/\Sx ⟨⟨22,[]⟩,Xt,false,#[]⟩ ⟨[(4,kI v_)],[]⟩ a w) ?_ vc lzz ?_)))
 ·clear h;intro i o h;refine zm ?_;replace h:zaZ m vv i=some o:=h;unfold zaZ at h;refine jp (jI h (fun uW h=>?_) fun uW h=>?_)
  ·refine zv (jb h fun x vg h=>jr (ra 3 [.sl zg [0] m.Fields,kI i] rfl (zai rfl zpi.el (zC _ _ _) vg) rfl rf) (jI h (fun uY h=>?_) fun uY h=>?_))
   ·refine jp ?_;cases h;exact zbf lzz
   refine zX (jp ?_);cases h;exact zH lzz
  cases h;exact zad rfl lzz
 rcases q with u| u2
 ·refine zas _ rfl (jp ?_);cases h;exact zw lzz
 obtain rfl:=(sj h);exact zdj lzz
theorem ziU (h:zdf v=some r):FnOk Tryz.prog 26 [.rc zb [0] v] [kI r]:=by
 refine zy (E:=⟨[(2,kI r)],[]⟩) 14 Tryz.func26 rfl rfl rfl ⟨rfl,trivial⟩ (fun Xt=>?_);refine zm ?_;unfold zdf at h;refine jr (ra 0 [.rc zb [0] v] rfl (zbc 11 (zi [0] v) [0] rfl rfl rfl (by rw [zn]<;>rfl) rfl) rfl rf) (jp ?_);cases h;exact zw lzz
theorem zps (h:zgi wv=some r):FnOk Tryz.prog 93 [kU wv] [kI r]:=by
 refine zy (E:=⟨[(2,kI r)],[]⟩) 12 Tryz.func93 rfl rfl rfl ⟨rfl,trivial⟩ (fun Xt=>?_);refine zm ?_;unfold zgi at h;refine jp (jp (jp (jI h (fun uW h=>?_) fun uW h=>?_)))
 ·refine jp (jp ?_);cases h;exact zw lzz
 refine jp ?_;cases h;exact zw lzz
theorem zqH (h:zhd n=some r):FnOk Tryz.prog 92 [kI n] [kU r]:=by
 refine zy (E:=⟨[(2,kU r)],[]⟩) 12 Tryz.func92 rfl rfl rfl ⟨rfl,trivial⟩ (fun Xt=>?_);refine zm ?_;unfold zhd at h;refine jp (jp (jI h (fun uW h=>?_) fun uW h=>?_))
 ·refine jp ?_;cases h;exact zw lzz
 refine jp ?_;cases h;exact zw lzz
theorem zso (h:zhH rv=some r):FnOk Tryz.prog 156 [kI rv] [.own Rp.byte 5 2 [] r]:=by
 refine zy (E:=⟨[(2,.own Rp.byte 5 2 [] r)],[]⟩) 68 Tryz.func156 rfl rfl rfl ⟨rfl,trivial⟩ (fun Xt=>?_);refine zm ?_;unfold zhH at h;refine jp (zab ⟨[(0,kI rv),(16,kB ((decide (rv<0))|| ((decide (rv>1114111))|| ((decide (rv>=55296))&&(decide (rv<=57343))))))],[]⟩ ?_ ?_)
 ·refine (rsl 3 [] 5 (decide (rv<0)) (fun uW=>?_) (fun uW=>?_))
  · exact (rbl [] 16 true rfl (by rw [uW]<;>rfl))
  refine (rsl 4 [] 9 (decide (rv>1114111)) (fun uY=>?_) (fun uY=>?_))
  · exact (rbl [] 16 true rfl (by rw [uW,uY]<;>rfl))
  refine (rsl 3 [] 12 (decide (rv>=55296)) (fun u9=>?_) (fun u9=>?_))
  · exact (rbl [] 16 (decide (rv<=57343)) rfl (by rw [uW,uY,u9]<;>rfl))
  exact (rbl [] 16 false rfl (by rw [uW,uY,u9]<;>rfl))
 refine jI h (fun vd h=>?_) fun vd h=>?_
 ·refine jp ?_;cases h;exact zw (lq ⟨[(2,kN)],[]⟩ (zdE 2 (.own Rp.byte 5 2 [] ([]:(List UInt8))) rfl (zaT Rp.byte 5 2 [] rfl) lzz))
 refine jp (jI h (fun vh h=>?_) fun vh h=>?_)
 ·refine jb h fun y wd h=>jr (rc 2 rfl (zA.le (ins':=[(.tmp 20,.lf (.int .u8 (IntKind.u8.wrap rv)))]) (zbX [.lf (.int .u8 (y.toNat:Int))] 12 [] [y] rfl ziJ rfl rfl rfl rfl) ⟨⟨rfl,zlj wd⟩,trivial⟩) rf) ?_;cases h;exact zw (lk [2] [] 12 2 lzz)
 refine jp (jI h (fun vi h=>?_) fun vi h=>?_)
 ·refine jb h fun y2 wZ h=>jb h fun y3 w6 h=>jr (rc 8 rfl (zA.le (ins':=[(.tmp 27,.lf (.int .u8 (IntKind.u8.wrap (IntKind.i64.wrap (192+(IntKind.i64.wrap (Int.tdiv rv 64))))))),(.tmp 31,.lf (.int .u8 (IntKind.u8.wrap (IntKind.i64.wrap (128+(Int.tmod rv 64))))))]) (zbX [.lf (.int .u8 (y2.toNat:Int)),.lf (.int .u8 (y3.toNat:Int))] 13 [] [y2,y3] rfl ziJ rfl rfl rfl rfl) ⟨⟨rfl,zlj wZ⟩,⟨rfl,zlj w6⟩,trivial⟩) rf) ?_;cases h;exact zw (lk [2] [] 13 2 lzz)
 refine jp (jI h (fun vm h=>?_) fun vm h=>?_)
 ·refine jb h fun y4 w7 h=>jb h fun y5 w8 h=>jb h fun y6 w9 h=>jr (rc 13 rfl (zA.le (ins':=[(.tmp 38,.lf (.int .u8 (IntKind.u8.wrap (IntKind.i64.wrap (224+(IntKind.i64.wrap (Int.tdiv rv 4096))))))),(.tmp 43,.lf (.int .u8 (IntKind.u8.wrap (IntKind.i64.wrap (128+(Int.tmod (IntKind.i64.wrap (Int.tdiv rv 64)) 64)))))),(.tmp 47,.lf (.int .u8 (IntKind.u8.wrap (IntKind.i64.wrap (128+(Int.tmod rv 64))))))]) (zbX [.lf (.int .u8 (y4.toNat:Int)),.lf (.int .u8 (y5.toNat:Int)),.lf (.int .u8 (y6.toNat:Int))] 14 [] [y4,y5,y6] rfl ziJ rfl rfl rfl rfl) ⟨⟨rfl,zlj w7⟩,⟨rfl,zlj w8⟩,⟨rfl,zlj w9⟩,trivial⟩) rf) ?_;cases h;exact zw (lk [2] [] 14 2 lzz)
 refine jb h fun y7 ka h=>jb h fun y8 kc h=>jb h fun y9 kd h=>jb h fun y10 ke h=>jr (rc 18 rfl (zA.le (ins':=[(.tmp 52,.lf (.int .u8 (IntKind.u8.wrap (IntKind.i64.wrap (240+(IntKind.i64.wrap (Int.tdiv rv 262144))))))),(.tmp 57,.lf (.int .u8 (IntKind.u8.wrap (IntKind.i64.wrap (128+(Int.tmod (IntKind.i64.wrap (Int.tdiv rv 4096)) 64)))))),(.tmp 62,.lf (.int .u8 (IntKind.u8.wrap (IntKind.i64.wrap (128+(Int.tmod (IntKind.i64.wrap (Int.tdiv rv 64)) 64)))))),(.tmp 66,.lf (.int .u8 (IntKind.u8.wrap (IntKind.i64.wrap (128+(Int.tmod rv 64))))))]) (zbX [.lf (.int .u8 (y7.toNat:Int)),.lf (.int .u8 (y8.toNat:Int)),.lf (.int .u8 (y9.toNat:Int)),.lf (.int .u8 (y10.toNat:Int))] 15 [] [y7,y8,y9,y10] rfl ziJ rfl rfl rfl rfl) ⟨⟨rfl,zlj ka⟩,⟨rfl,zlj kc⟩,⟨rfl,zlj kd⟩,⟨rfl,zlj ke⟩,trivial⟩) rf) ?_;cases h;exact zw (lk [2] [] 15 2 lzz)
theorem ziT (h:zeN b atv=some r):FnOk Tryz.prog 119 [.sl Rp.byte [0] b,kI atv] [kU r.1,kI r.2.1,kI r.2.2]:=by
 refine zy (E:=⟨[(4,kU r.1),(5,kI r.2.1),(6,kI r.2.2)],[]⟩) 69 Tryz.func119 rfl rfl rfl ⟨rfl,rfl,rfl,trivial⟩ (fun Xt=>?_);refine zm ?_;unfold zeN at h;refine jp (jp (zv (jb h fun q vc h=>zac (fun s:Int=>zaR atv b s) (fun s=>⟨[(0,.sl Rp.byte [0] b),(1,kI atv),(7,kI s)],[]⟩) (fun o e a w=>e= .exit 0/\Sx ⟨⟨69,[]⟩,Xt,false,#[]⟩ ⟨[(0,.sl Rp.byte [0] b),(1,kI atv),(7,kI o)],[]⟩ a w) ?_ vc lzz ?_)))
 ·clear h;intro n o h;refine zm ?_;replace h:zaR atv b n=some o:=h;unfold zaR at h;refine jb h fun g uX h=>zab ⟨[(0,.sl Rp.byte [0] b),(1,kI atv),(7,kI n),(28,kB g)],[]⟩ ?_ ?_
  ·refine (rsl 7 [] 16 (decide ((IntKind.i64.wrap (atv+n))<(b.length:Int))) (fun uW=>?_) (fun uW=>?_))
   ·replace uX:=iteT uX uW;refine (rsl 4 [] 20 (decide (n<10)) (fun uY=>?_) (fun uY=>?_))
    ·replace uX:=iteT uX uY;refine jb uX fun x vg uX=>?_;cases uX;exact (ra 4 [.sl Rp.byte [0] b,kI (IntKind.i64.wrap (atv+n))] rfl (zai rfl ziJ.el (zC _ _ _) vg) rfl rgg)
    replace uX:=iteF uX uY;cases uX;exact rgg
   replace uX:=iteF uX uW;cases uX;exact rgg
  refine jI h (fun u9 h=>?_) fun u9 h=>?_
  ·refine zv (jp (zX ?_));cases h;exact zH lzz
  cases h;exact zad rfl lzz
 refine zas _ rfl (jp (jI h (fun vd h=>?_) fun vd h=>?_))
 ·refine jp ?_;cases h;exact zw lzz
 refine jp (jI h (fun vh h=>?_) fun vh h=>?_)
 ·refine jp ?_;cases h;exact zw lzz
 refine jb h fun g2 vb h=>zab ⟨[(0,.sl Rp.byte [0] b),(1,kI atv),(7,kI q),(49,kB g2)],[]⟩ ?_ ?_
 ·refine (rsl 3 [] 41 (q==9) (fun vi=>?_) (fun vi=>?_))
  ·replace vb:=iteT vb vi;refine jb vb fun x2 vk vb=>?_;cases vb;exact (ra 4 [.sl Rp.byte [0] b,kI (IntKind.i64.wrap (atv+q))] rfl (zai rfl ziJ.el (zC _ _ _) vk) rfl rgg)
  replace vb:=iteF vb vi;cases vb;exact rgg
 refine jI h (fun vm h=>?_) fun vm h=>?_
 ·refine jp ?_;cases h;exact zw lzz
 refine jp (jp (zv (jb h fun q2 vu h=>zac (fun s:(Int×Int)=>zbO atv b s.1 s.2) (fun s=>⟨[(0,.sl Rp.byte [0] b),(1,kI atv),(7,kI q),(8,kU s.1),(9,kI s.2)],[]⟩) (fun o e a w=>e= .exit 2/\Sx ⟨⟨69,[]⟩,Xt,false,#[]⟩ ⟨[(7,kI q),(8,kU o)],[]⟩ a w) ?_ vu lzz ?_)))
 ·clear h;intro s o h;obtain ⟨wv,i⟩:=s;refine zm ?_;replace h:zbO atv b wv i=some o:=h;unfold zbO at h;refine jp (jI h (fun vp h=>?_) fun vp h=>?_)
  ·refine zv (jb h fun x3 vo h=>jr (ra 6 [.sl Rp.byte [0] b,kI (IntKind.i64.wrap (atv+i))] rfl (zai rfl ziJ.el (zC _ _ _) vo) rfl rf) (zX (jp ?_)));cases h;exact zH lzz
  cases h;exact zad rfl lzz
 refine zas _ rfl (jp ?_);cases h;exact zw lzz
end Go.Proofs.YtekgmimingolbaaGreat
