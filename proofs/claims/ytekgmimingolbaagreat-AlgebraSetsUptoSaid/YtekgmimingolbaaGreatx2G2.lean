/-
  The Go functions do what the plain functions say. No condition.
-/
import Derived.Test.YtekgmimingolbaaGreatx2T
import Derived.Test.YtekgmimingolbaaGreatx2Y
set_option autoImplicit true
set_option relaxedAutoImplicit true
namespace Go.Proofs.YtekgmimingolbaaGreat
open Go Go.RowKit
set_option linter.unusedVariables false
set_option maxRecDepth 100000
set_option maxHeartbeats 3200000
theorem ztI {ways:(List (List Int))} (h:ziV ways=some r):FnOk Tryz.prog 120 [.sl (Rp.list (Rp.int .i64)) [0] ways] [.mp (Rp.int .i64) (Rp.list (Rp.list (Rp.int .i64))) [2,3,0] r]:=by
 refine zu (E:=⟨[(2,.mp (Rp.int .i64) (Rp.list (Rp.list (Rp.int .i64))) [2,3,0] r)],[]⟩) 28 Tryz.func120 rfl rfl rfl ⟨rfl,trivial⟩ (fun Xt=>?_);refine zk ?_;unfold ziV at h;refine jp (jr (ra 0 [] rfl (zLm (rk:=(Rp.int .i64)) (r:=(Rp.list (Rp.int .i64))) (e:=53) 13 rfl) rfl rf) (jp (zp ?_)));obtain ⟨q,uU,h⟩:=bnd h;refine zab (fun s:((List (Int×(List (List Int))))×Int)=>zcB ways s.1 s.2) (fun s=>⟨[(3,.mo (Rp.int .i64) (Rp.list (Rp.int .i64)) 53 13 [14,0] s.1),(7,.sl (Rp.list (Rp.int .i64)) [0] ways),(8,kI (ways.length:Int)),(9,kI s.2)],[]⟩) (fun o e a w=>e= .exit 0/\Sx ⟨⟨28,[]⟩,Xt,false,#[]⟩ ⟨[(3,.mo (Rp.int .i64) (Rp.list (Rp.int .i64)) 53 13 [14,0] o)],[]⟩ a w) ?_ uU ?_ ?_
 ·clear h;intro s o h;obtain ⟨rests,v⟩:=s;refine zk ?_;replace h:zcB ways rests v=some o:=h;unfold zcB at h;refine jp (jI h (fun uQ h=>?_) fun uQ h=>?_)
  ·refine zp ?_;obtain ⟨x,u0,h⟩:=bnd h;refine jr (ra 0 [.sl (Rp.list (Rp.int .i64)) [0] ways,kI v] rfl (zW rfl zmP.el (zy _ _ _) u0) rfl (ra 0 [.ep (Rp.list (Rp.int .i64)) [0] x 0] rfl (zeR (Rp.int .i64) x rfl rfl rfl) rfl rf)) ?_;obtain ⟨x2,va,h⟩:=bnd h;obtain ⟨v2,vp,h⟩:=bnd h;obtain ⟨v3,vr,h⟩:=bnd h;refine jk [3,5,7,8,9] [] (zuP ⟨[(3,.mo (Rp.int .i64) (Rp.list (Rp.int .i64)) 53 13 [14,0,17] (mput rests x2 v3)),(7,.sl (Rp.list (Rp.int .i64)) [0] ways),(8,kI (ways.length:Int)),(9,kI v)],[]⟩ [.raw [5] [] [] [.ms 13 13],.ev,.ex [] [] [] (.ep (Rp.int .i64) [0] x2 0) [],.ev,.raw [9] [] [] [.ms 17 13],.ev,.ex [] [] [] (.ep (Rp.int .i64) [0] x2 0) [],.ev,.raw [3,8,0] [] [] [.lk 21 (Rp.int .i64) (Rp.list (Rp.int .i64)) 53 13 [14,0] rests x2],.ev,.ex [] [] [] (.sl (Rp.int .i64) [0] v2) [],.ex [] [] [17] (.own (Rp.list (Rp.int .i64)) 53 17 [0] ([v2]:(List (List Int)))) [],.raw [3,0] [13] [] [.ap 25 (Rp.int .i64) (Rp.list (Rp.int .i64)) 53 13 [14,0,17] rests x2 v3],.raw [0,11,8,16] [13] [] [.sl 3 (.mo (Rp.int .i64) (Rp.list (Rp.int .i64)) 53 13 [14,0,17] (mput rests x2 v3))]] [⟨[],[],[.ms 3 13]⟩,⟨[(.tmp 14,.sl (Rp.int .i64) [0] x),(.const (.int .i64 0),kI 0)],[],[]⟩,⟨[],[],[.ms 3 13]⟩,⟨[(.tmp 18,.sl (Rp.int .i64) [0] x),(.const (.int .i64 0),kI 0)],[],[]⟩,⟨[],[],[.ms 17 13,.sl 3 (.mo (Rp.int .i64) (Rp.list (Rp.int .i64)) 53 13 [14,0] rests),.sl 20 (kI x2)]⟩,⟨[(.tmp 22,.sl (Rp.int .i64) [0] x),(.const (.int .i64 1),kI 1)],[],[]⟩,⟨[(.tmp 23,.sl (Rp.int .i64) [0] v2)],[],[]⟩,⟨[],[],[.lk 21 (Rp.int .i64) (Rp.list (Rp.int .i64)) 53 13 [14,0] rests x2,.sl 24 (.own (Rp.list (Rp.int .i64)) 53 17 [0] ([v2]:(List (List Int))))]⟩,⟨[],[],[.ap 25 (Rp.int .i64) (Rp.list (Rp.int .i64)) 53 13 [14,0,17] rests x2 v3,.ms 13 13,.sl 16 (kI x2),.ms 3 13]⟩] [3,7,8,9] [] zaU (by kernel_rfl) (by exact (lw_r (zKa 3 13 13 (.inl rfl) rfl) (lw_e (lw_x (znb (zW rfl zgJ.el (zy _ _ _) va) rfl) (lw_e (lw_r (zKa 3 17 13 (.inl rfl) rfl) (lw_e (lw_x (znb (zW rfl zgJ.el (zy _ _ _) va) rfl) (lw_e (lw_r (zMz (z:= .tmp 20) 3 17 21 rfl rfl zBK (zdu rfl rfl) trivial) (lw_e (lw_x (znb (zmS (some (kI 1)) none rfl zgJ.el (zy _ _ _) ⟨rfl,rfl⟩ ⟨rfl,rfl⟩ vp) rfl) (lw_x (znb (zbZ [.sl (Rp.int .i64) [0] v2] 17 [0] ([v2]:(List (List Int))) rfl zmP rfl rfl rfl rfl) rfl) (lw_r (zMy (y:= .tmp 24) [14,0,17] 21 25 rfl rfl zmP.el rfl (zeG _ _ _ _ _) trivial vr (.inr rfl) rfl) (lw_r (zLt (z:= .tmp 16) 25 13 [3] rfl rfl zBK (zdu rfl rfl) trivial rfl) lw_0))))))))))))))) (zV (jp ?_)));cases h;exact zD (lk [3,7,8,9] [] 17 14 (zaq ⟨[(3,.mo (Rp.int .i64) (Rp.list (Rp.int .i64)) 53 13 [14,0,14] (mput rests x2 v3)),(7,.sl (Rp.list (Rp.int .i64)) [0] ways),(8,kI (ways.length:Int)),(9,kI (IntKind.i64.wrap (v+1)))],[]⟩ (by kernel_rfl) (zdB 3 (.mo (Rp.int .i64) (Rp.list (Rp.int .i64)) 53 13 [14,0] (mput rests x2 v3)) rfl (zLT _ _ _ _ _ _ _ rfl rfl) lzz)))
  cases h;exact zaa rfl lzz
 ·exact zaq ⟨[(3,.mo (Rp.int .i64) (Rp.list (Rp.int .i64)) 53 13 [] ([]:(List (Int×(List (List Int)))))),(7,.sl (Rp.list (Rp.int .i64)) [0] ways),(8,kI (ways.length:Int)),(9,kI 0)],[]⟩ (by kernel_rfl) (zdB 3 (.mo (Rp.int .i64) (Rp.list (Rp.int .i64)) 53 13 [14,0] ([]:(List (Int×(List (List Int)))))) rfl (zLT _ _ _ _ _ _ _ rfl rfl) lzz)
 refine zan _ rfl (jp ?_);obtain rfl:=(sj h);exact zo (zaq ⟨[(2,.mo (Rp.int .i64) (Rp.list (Rp.int .i64)) 53 13 [14,0] q)],[]⟩ (by kernel_rfl) (zdB 2 (.mp (Rp.int .i64) (Rp.list (Rp.list (Rp.int .i64))) [13,14,0] q) rfl (zMo _ _ _ _ _ _ _ rfl) (lk [2] [] 13 3 (lk [2] [] 14 3 (zaq ⟨[(2,.mp (Rp.int .i64) (Rp.list (Rp.list (Rp.int .i64))) [3,3,0] q)],[]⟩ (by kernel_rfl) (zdB 2 (.mp (Rp.int .i64) (Rp.list (Rp.list (Rp.int .i64))) [2,3,0] (q:(List (Int×(List (List Int)))))) rfl (zLU _ _ _ rfl) lzz))))))
theorem zij (h:zfU v=some r):FnOk Tryz.prog 55 [.rc za [0] v] [.ag [.sl za [0] r.Values,.sl Rp.str [0] r.Unknown]]:=by
 refine zu (E:=⟨[(2,.ptr 2 0)],[⟨2,27,[.sl za [0] r.Values,.sl Rp.str [0] r.Unknown]⟩]⟩) 12 Tryz.func55 rfl rfl rfl ⟨⟨_,_,rfl,rfl,rfl,⟨Tryz.isAgg27,Tryz.sizeOf27⟩⟩,trivial⟩ (fun Xt=>?_);refine zk ?_;unfold zfU at h;refine jr (ra 0 [.rc za [0] v] rfl (zaR 13 [kI v.Number,.sl (Rp.int .u64) [0] v.Words,.sl Rp.str [0] v.Texts,.sl zc [0] v.Subs] [0] rfl rfl rfl (by rw [zi]<;>rfl) rfl) rfl (rfl' [14])) (jp (jI h (fun uQ h=>?_) fun uQ h=>?_))
 ·refine jr (ra 0 [] rfl (zaM [] [kN,kN] rfl zod rfl) rfl rf) ?_;cases h;exact zo (lk [2] [14] 14 2 (zaq ⟨[(2,.ptr 2 0)],[⟨2,27,[kN,kN]⟩]⟩ (by kernel_rfl) (zat 2 0 (.sl za [0] ((⟨[],[]⟩:zd):zd).Values) rfl rfl (zaz za [0]) (zat 2 1 (.sl Rp.str [0] ((⟨[],[]⟩:zd):zd).Unknown) rfl rfl (zaz Rp.str [0]) lzz))))
 obtain ⟨x,u0,h⟩:=bnd h;refine jr (ra 2 [.sl zc [0] v.Subs,kI 0] rfl (zW rfl zli.el (zy _ _ _) u0) rfl (ra 0 [.ep zc [0] x 0] rfl (zbM rfl ⟨Tryz.isAgg27,Tryz.sizeOf27⟩) rfl (ra 0 [.ptr 14 0,.rc zc [0] x] rfl (zhb (r:=zc) (b:=⟨14,27,[kN,kN]⟩) (off:=0) [.sl za [0] x.Values,.sl Rp.str [0] x.Unknown] rfl Tryz.sizeOf27 rfl rfl (by rw [zj]<;>rfl) rfl) rfl rf))) ?_;obtain rfl:=(sj h);exact zo (lk [2] [14] 14 2 lzz)
theorem zlS (h:zje vi x=some r):FnOk Tryz.prog 89 [kI vi,.rc zc [0] x] [.ag [kI r.Number,kN,kN,.own zc 27 3 [0] r.Subs]]:=by
 refine zu (E:=⟨[(4,.ptr 2 0)],[⟨2,57,[kI r.Number,kN,kN,.own zc 27 3 [0] r.Subs]⟩]⟩) 9 Tryz.func89 rfl rfl rfl ⟨⟨_,_,rfl,rfl,rfl,⟨Tryz.isAgg57,Tryz.sizeOf57⟩⟩,trivial⟩ (fun Xt=>?_);refine zk ?_;unfold zje at h;refine jr (ra 0 [.rc zc [0] x] rfl (zaR 14 [.sl za [0] x.Values,.sl Rp.str [0] x.Unknown] [0] rfl rfl rfl (by rw [zj]<;>rfl) rfl) rfl (rfl' [15])) (jr (rc 2 rfl (zw.le (ins':=[(.tmp 6,.ag [.sl za [0] x.Values,.sl Rp.str [0] x.Unknown])]) (zbZ [.rc zc [0] x] 16 [0] ([x]:(List zd)) rfl zli rfl rfl rfl (by simp only [zju,zeO,zfP,zj,xO,yp]<;>rfl)) ⟨⟨rfl,zK zc [0] x [.sl za [0] x.Values,.sl Rp.str [0] x.Unknown] (by rw [zj]<;>rfl) rfl⟩,trivial⟩) (ra 0 [kI vi,.own zc 27 16 [0] ([x]:(List zd))] rfl (zaM [kI vi,.own zc 27 16 [0] ([x]:(List zd))] [kI vi,kN,kN,.own zc 27 16 [0] ([x]:(List zd))] rfl zwR rfl) rfl rf)) ?_);cases h;exact zo (lk [4] [15] 15 2 (lk [4] [2] 16 3 lzz))
theorem zjq (h:zby sv=some r):FnOk Tryz.prog 109 [.sl za [0] sv] [.own za 57 2 [0] r]:=by
 refine zu (E:=⟨[(2,.own za 57 2 [0] r)],[]⟩) 8 Tryz.func109 rfl rfl rfl ⟨rfl,trivial⟩ (fun Xt=>?_);refine zk ?_;unfold zby at h;refine jp ?_;have hn1:=zpT h;refine zrW 1 4 true ⟨[(0,.sl za [0] sv),(3,.sl za [0] sv)],[]⟩ ⟨[(0,.sl za [0] sv),(4,kB true)],[]⟩ ⟨[(0,.sl za [0] sv),(4,kB false)],[]⟩ (by kernel_rfl) rfl rfl rfl (by kernel_rfl) rfl Tryz.underlying24 rfl (zy _ _ _) (by kernel_rfl) (by kernel_rfl) (fun hx_=>?_) ?_
 ·replace h:=hn1.1 hx_;refine jT rfl (jp ?_);cases h;exact zo (zaq ⟨[(2,kN)],[]⟩ (by kernel_rfl) (zdB 2 (.own za 57 2 [0] ([]:(List zb))) rfl (zaL za 57 2 [0] rfl) lzz))
 replace h:=hn1.2;refine jF rfl ?_;obtain ⟨v,vf,h⟩:=bnd h;refine jr (rc 0 rfl (zbZ [] 12 [] ([]:(List zb)) rfl zjx rfl rfl rfl rfl) (ra 1 [.own za 57 12 [] ([]:(List zb)),.sl za [0] sv] rfl (zhp 12 [0] rfl zjx.el rfl (zcY _ _ _ _ _) (zy _ _ _) vf (.inr rfl) rfl) rfl rf)) ?_;obtain rfl:=(sj h);exact zo (lk [2] [] 12 2 lzz)
theorem zhN (h:zcc sv=some r):FnOk Tryz.prog 110 [.sl Rp.str [0] sv] [.own Rp.str 9 2 [] r]:=by
 refine zu (E:=⟨[(2,.own Rp.str 9 2 [] r)],[]⟩) 8 Tryz.func110 rfl rfl rfl ⟨rfl,trivial⟩ (fun Xt=>?_);refine zk ?_;unfold zcc at h;refine jp ?_;have hn1:=zpT h;refine zrW 1 4 true ⟨[(0,.sl Rp.str [0] sv),(3,.sl Rp.str [0] sv)],[]⟩ ⟨[(0,.sl Rp.str [0] sv),(4,kB true)],[]⟩ ⟨[(0,.sl Rp.str [0] sv),(4,kB false)],[]⟩ (by kernel_rfl) rfl rfl rfl (by kernel_rfl) rfl Tryz.underlying25 rfl (zy _ _ _) (by kernel_rfl) (by kernel_rfl) (fun hx_=>?_) ?_
 ·replace h:=hn1.1 hx_;refine jT rfl (jp ?_);cases h;exact zo (zaq ⟨[(2,kN)],[]⟩ (by kernel_rfl) (zdB 2 (.own Rp.str 9 2 [] ([]:(List Str))) rfl (zaL Rp.str 9 2 [] rfl) lzz))
 replace h:=hn1.2;refine jF rfl ?_;obtain ⟨v,vf,h⟩:=bnd h;refine jr (rc 0 rfl (zbZ [] 12 [] ([]:(List Str)) rfl zgI rfl rfl rfl rfl) (ra 1 [.own Rp.str 9 12 [] ([]:(List Str)),.sl Rp.str [0] sv] rfl (zhp 12 [] rfl zgI.el rfl (zcY _ _ _ _ _) (zy _ _ _) vf (.inl zpX) rfl) rfl rf)) ?_;obtain rfl:=(sj h);exact zo (lk [2] [] 12 2 lzz)
theorem zlB (h:zcS sv=some r):FnOk Tryz.prog 142 [.sl (Rp.int .u64) [0] sv] [.own (Rp.int .u64) 83 2 [] r]:=by
 refine zu (E:=⟨[(2,.own (Rp.int .u64) 83 2 [] r)],[]⟩) 8 Tryz.func142 rfl rfl rfl ⟨rfl,trivial⟩ (fun Xt=>?_);refine zk ?_;unfold zcS at h;refine jp ?_;have hn1:=zpT h;refine zrW 1 4 true ⟨[(0,.sl (Rp.int .u64) [0] sv),(3,.sl (Rp.int .u64) [0] sv)],[]⟩ ⟨[(0,.sl (Rp.int .u64) [0] sv),(4,kB true)],[]⟩ ⟨[(0,.sl (Rp.int .u64) [0] sv),(4,kB false)],[]⟩ (by kernel_rfl) rfl rfl rfl (by kernel_rfl) rfl Tryz.underlying54 rfl (zy _ _ _) (by kernel_rfl) (by kernel_rfl) (fun hx_=>?_) ?_
 ·replace h:=hn1.1 hx_;refine jT rfl (jp ?_);cases h;exact zo (zaq ⟨[(2,kN)],[]⟩ (by kernel_rfl) (zdB 2 (.own (Rp.int .u64) 83 2 [] ([]:(List Int))) rfl (zaL (Rp.int .u64) 83 2 [] rfl) lzz))
 replace h:=hn1.2;refine jF rfl ?_;obtain ⟨v,vf,h⟩:=bnd h;refine jr (rc 0 rfl (zbZ [] 12 [] ([]:(List Int)) rfl zrf rfl rfl rfl rfl) (ra 1 [.own (Rp.int .u64) 83 12 [] ([]:(List Int)),.sl (Rp.int .u64) [0] sv] rfl (zhp 12 [] rfl zrf.el rfl (zcY _ _ _ _ _) (zy _ _ _) vf (.inl (zwd _)) rfl) rfl rf)) ?_;obtain rfl:=(sj h);exact zo (lk [2] [] 12 2 lzz)
theorem zkn (h:zck sv=some r):FnOk Tryz.prog 143 [.sl zc [0] sv] [.own zc 27 2 [0] r]:=by
 refine zu (E:=⟨[(2,.own zc 27 2 [0] r)],[]⟩) 8 Tryz.func143 rfl rfl rfl ⟨rfl,trivial⟩ (fun Xt=>?_);refine zk ?_;unfold zck at h;refine jp ?_;have hn1:=zpT h;refine zrW 1 4 true ⟨[(0,.sl zc [0] sv),(3,.sl zc [0] sv)],[]⟩ ⟨[(0,.sl zc [0] sv),(4,kB true)],[]⟩ ⟨[(0,.sl zc [0] sv),(4,kB false)],[]⟩ (by kernel_rfl) rfl rfl rfl (by kernel_rfl) rfl Tryz.underlying55 rfl (zy _ _ _) (by kernel_rfl) (by kernel_rfl) (fun hx_=>?_) ?_
 ·replace h:=hn1.1 hx_;refine jT rfl (jp ?_);cases h;exact zo (zaq ⟨[(2,kN)],[]⟩ (by kernel_rfl) (zdB 2 (.own zc 27 2 [0] ([]:(List zd))) rfl (zaL zc 27 2 [0] rfl) lzz))
 replace h:=hn1.2;refine jF rfl ?_;obtain ⟨v,vf,h⟩:=bnd h;refine jr (rc 0 rfl (zbZ [] 12 [] ([]:(List zd)) rfl zli rfl rfl rfl rfl) (ra 1 [.own zc 27 12 [] ([]:(List zd)),.sl zc [0] sv] rfl (zhp 12 [0] rfl zli.el rfl (zcY _ _ _ _ _) (zy _ _ _) vf (.inr rfl) rfl) rfl rf)) ?_;obtain rfl:=(sj h);exact zo (lk [2] [] 12 2 lzz)
theorem zkj (h:zfG x=some r):FnOk Tryz.prog 56 [.rc zc [0] x] [.om (Rp.int .i64) za 2 [0] r]:=by
 refine zu (E:=⟨[(2,.om (Rp.int .i64) za 2 [0] r)],[]⟩) 23 Tryz.func56 rfl rfl rfl ⟨rfl,trivial⟩ (fun Xt=>?_);refine zk ?_;unfold zfG at h;refine jr (ra 0 [.rc zc [0] x] rfl (zaR 13 [.sl za [0] x.Values,.sl Rp.str [0] x.Unknown] [0] rfl rfl rfl (by rw [zj]<;>rfl) rfl) rfl rf) (jr (ra 3 [kI (x.Values.length:Int)] rfl (zHG (rk:=(Rp.int .i64)) (rv:=za) 14 rfl Tryz.underlying105) rfl rf) (jp (zp ?_)));obtain ⟨q,uU,h⟩:=bnd h;refine zab (fun s:((List (Int×zb))×Int)=>zcf x s.1 s.2) (fun s=>⟨[(3,.om (Rp.int .i64) za 14 [0] s.1),(11,.sl za [0] x.Values),(12,kI (x.Values.length:Int)),(13,kI s.2)],[]⟩) (fun o e a w=>e= .exit 0/\Sx ⟨⟨23,[]⟩,Xt,false,#[]⟩ ⟨[(3,.om (Rp.int .i64) za 14 [0] o)],[]⟩ a w) ?_ uU ?_ ?_
 ·clear h;intro s o h;obtain ⟨values,v⟩:=s;refine zk ?_;replace h:zcf x values v=some o:=h;unfold zcf at h;refine jp (jI h (fun uQ h=>?_) fun uQ h=>?_)
  ·refine zp ?_;obtain ⟨x2,va,h⟩:=bnd h;refine jr (ra 0 [.sl za [0] x.Values,kI v] rfl (zW rfl zjx.el (zy _ _ _) va) rfl (ra 0 [.ep za [0] x2 0] rfl (zbM rfl ⟨Tryz.isAgg57,Tryz.sizeOf57⟩) rfl (ral 1 [16] [.ptr 16 0,.rc za [0] x2] rfl (zhb (r:=za) (b:=⟨16,57,[kI 0,kN,kN,kN]⟩) (off:=0) [kI x2.Number,.sl (Rp.int .u64) [0] x2.Words,.sl Rp.str [0] x2.Texts,.sl zc [0] x2.Subs] rfl Tryz.sizeOf57 rfl rfl (by rw [zi]<;>rfl) rfl) rfl rf))) (jr (rkl 4 [] ⟨[(3,.om (Rp.int .i64) za 14 [0] values),(11,.sl za [0] x.Values),(12,kI (x.Values.length:Int)),(13,kI v),(17,.om (Rp.int .i64) za 14 [0] values),(19,kI x2.Number),(20,.ag [kI x2.Number,.sl (Rp.int .u64) [0] x2.Words,.sl Rp.str [0] x2.Texts,.sl zc [0] x2.Subs])],[]⟩ (zfX (rk:=(Rp.int .i64)) (rv:=za) (m:=values) (C:=[0]) (C1:=[]) (D:=[0]) [3,17] x2.Number x2 [0] zmk rfl (.inl rfl) rfl rfl rfl rfl (zdu rfl rfl) (zxT (zK za [0] x2 [kI x2.Number,.sl (Rp.int .u64) [0] x2.Words,.sl Rp.str [0] x2.Texts,.sl zc [0] x2.Subs] (by rw [zi]<;>rfl) rfl) (zdJ rfl)) (by kernel_rfl) rfl rf)) (zV (jp ?_)));cases h;exact zD lzz
  cases h;exact zaa rfl lzz
 ·exact zaq ⟨[(3,.om (Rp.int .i64) za 14 [] ([]:(List (Int×zb)))),(11,.sl za [0] x.Values),(12,kI (x.Values.length:Int)),(13,kI 0)],[]⟩ (by kernel_rfl) (zdB 3 (.om (Rp.int .i64) za 14 [0] ([]:(List (Int×zb)))) rfl (zAy _ _ _ _ rfl rfl) lzz)
 refine zan _ rfl (jp ?_);obtain rfl:=(sj h);exact zo (lk [2] [] 14 2 lzz)
theorem zlF (h:zdg n=some r):FnOk Tryz.prog 144 [kN,kI n] [.own (Rp.int .u64) 83 2 [] r]:=by
 refine zu (E:=⟨[(4,.own (Rp.int .u64) 83 2 [] r)],[]⟩) 27 Tryz.func144 rfl rfl rfl ⟨rfl,trivial⟩ (fun Xt=>?_);refine zk ?_;unfold zdg at h;refine jp (jp (jI h (fun uQ h=>?_) fun uQ h=>?_))
 · exact absurd h nofun
 refine jr (ra 2 [kN] rfl (zns rfl Tryz.underlying54) rfl rf) (jp (jI h (fun uR h=>?_) fun uR h=>?_))
 ·obtain ⟨v,vf,h⟩:=bnd h;obtain ⟨v2,vp,h⟩:=bnd h;refine jr (ra 2 [kN] rfl (zns rfl Tryz.underlying54) rfl (ra 0 [kN,kI 0] rfl (zvT rfl zrf.el) rfl (ra 1 [kN,kI (IntKind.i64.wrap (n - (IntKind.i64.wrap (0 - 0))))] rfl (zBH 12 rfl Tryz.underlying3 zrf rfl vf) rfl (ra 2 [.own (Rp.int .u64) 83 12 [] v,kI 0] rfl (zBI rfl zrf.el vp) rfl rf)))) (jp ?_);obtain rfl:=(sj h);exact zo (lk [4] [] 12 2 lzz)
 refine jp ?_;cases h;exact zo (zaq ⟨[(4,kN)],[]⟩ (by kernel_rfl) (zdB 4 (.own (Rp.int .u64) 83 2 [] ([]:(List Int))) rfl (zaL (Rp.int .u64) 83 2 [] rfl) lzz))
theorem zlE (h:zdf n=some r):FnOk Tryz.prog 116 [kN,kI n] [.own Rp.str 9 2 [] r]:=by
 refine zu (E:=⟨[(4,.own Rp.str 9 2 [] r)],[]⟩) 27 Tryz.func116 rfl rfl rfl ⟨rfl,trivial⟩ (fun Xt=>?_);refine zk ?_;unfold zdf at h;refine jp (jp (jI h (fun uQ h=>?_) fun uQ h=>?_))
 · exact absurd h nofun
 refine jr (ra 2 [kN] rfl (zns rfl Tryz.underlying25) rfl rf) (jp (jI h (fun uR h=>?_) fun uR h=>?_))
 ·obtain ⟨v,vf,h⟩:=bnd h;obtain ⟨v2,vp,h⟩:=bnd h;refine jr (ra 2 [kN] rfl (zns rfl Tryz.underlying25) rfl (ra 0 [kN,kI 0] rfl (zvT rfl zgI.el) rfl (ra 1 [kN,kI (IntKind.i64.wrap (n - (IntKind.i64.wrap (0 - 0))))] rfl (zBH 12 rfl Tryz.underlying3 zgI rfl vf) rfl (ra 2 [.own Rp.str 9 12 [] v,kI 0] rfl (zBI rfl zgI.el vp) rfl rf)))) (jp ?_);obtain rfl:=(sj h);exact zo (lk [4] [] 12 2 lzz)
 refine jp ?_;cases h;exact zo (zaq ⟨[(4,kN)],[]⟩ (by kernel_rfl) (zdB 4 (.own Rp.str 9 2 [] ([]:(List Str))) rfl (zaL Rp.str 9 2 [] rfl) lzz))
theorem zkC (h:zcx n=some r):FnOk Tryz.prog 145 [kN,kI n] [.own zc 27 2 [] r]:=by
 refine zu (E:=⟨[(4,.own zc 27 2 [] r)],[]⟩) 27 Tryz.func145 rfl rfl rfl ⟨rfl,trivial⟩ (fun Xt=>?_);refine zk ?_;unfold zcx at h;refine jp (jp (jI h (fun uQ h=>?_) fun uQ h=>?_))
 · exact absurd h nofun
 refine jr (ra 2 [kN] rfl (zns rfl Tryz.underlying55) rfl rf) (jp (jI h (fun uR h=>?_) fun uR h=>?_))
 ·obtain ⟨v,vf,h⟩:=bnd h;obtain ⟨v2,vp,h⟩:=bnd h;refine jr (ra 2 [kN] rfl (zns rfl Tryz.underlying55) rfl (ra 0 [kN,kI 0] rfl (zvT rfl zli.el) rfl (ra 1 [kN,kI (IntKind.i64.wrap (n - (IntKind.i64.wrap (0 - 0))))] rfl (zBH 12 rfl Tryz.underlying3 zli rfl vf) rfl (ra 2 [.own zc 27 12 [] v,kI 0] rfl (zBI rfl zli.el vp) rfl rf)))) (jp ?_);obtain rfl:=(sj h);exact zo (lk [4] [] 12 2 lzz)
 refine jp ?_;cases h;exact zo (zaq ⟨[(4,kN)],[]⟩ (by kernel_rfl) (zdB 4 (.own zc 27 2 [] ([]:(List zd))) rfl (zaL zc 27 2 [] rfl) lzz))
theorem ziM (h:zdd values=some r):FnOk Tryz.prog 81 [.mp (Rp.int .i64) za [0] values] [.own za 57 2 [3,0] r]:=by
 refine zu (E:=⟨[(2,.own za 57 2 [3,0] r)],[]⟩) 25 Tryz.func81 rfl rfl rfl ⟨rfl,trivial⟩ (fun Xt=>?_);refine zk ?_;unfold zdd at h;refine jp ?_;obtain ⟨v,vf,h⟩:=bnd h;refine jr (ra 1 [.mp (Rp.int .i64) za [0] values] rfl (zGG (rk:=(Rp.int .i64)) (rv:=za) (m:=values) rfl Tryz.underlying105 (zuO _ _ _ _)) rfl (ra 0 [kI 0,kI (values.length:Int)] rfl (zuW 14 rfl zjx rfl vf) rfl rf)) ?_;obtain ⟨v2,vp,h⟩:=bnd h;refine jr (rkl 1 [] ⟨[(0,.mp (Rp.int .i64) za [0] values),(3,.own za 57 14 [] v),(9,.mp (Rp.int .i64) za [0] values)],[]⟩ (zEc (rv:=za) (m:=values) 15 zIa rfl rfl rfl rfl rfl rfl Tryz.call115 Tryz.call114 rfl (zuO _ _ _ _) vp rfl rf)) (zp ?_);obtain ⟨q,uU,h⟩:=bnd h;refine zab (fun s:((List zb)×Int)=>zcC v2 values s.1 s.2) (fun s=>⟨[(0,.mp (Rp.int .i64) za [0] values),(3,.own za 57 14 [16,0] s.1),(11,.own (Rp.int .i64) 3 15 [] v2),(12,kI (v2.length:Int)),(13,kI s.2)],[]⟩) (fun o e a w=>e= .exit 0/\Sx ⟨⟨25,[]⟩,Xt,false,#[]⟩ ⟨[(3,.own za 57 14 [16,0] o)],[]⟩ a w) ?_ uU ?_ ?_
 ·clear h;intro s o h;obtain ⟨l,v3⟩:=s;refine zk ?_;replace h:zcC v2 values l v3=some o:=h;unfold zcC at h;refine jp (jI h (fun uQ h=>?_) fun uQ h=>?_)
  ·refine zp ?_;obtain ⟨x,u0,h⟩:=bnd h;refine jr (ra 0 [.own (Rp.int .i64) 3 15 [] v2,kI v3] rfl (zW rfl zgJ.el (zeG _ _ _ _ _) u0) rfl rf) ?_;obtain ⟨v4,vH,h⟩:=bnd h;refine jr (ra 3 [.mp (Rp.int .i64) za [0] values,kI x] rfl (zGD (rk:=(Rp.int .i64)) (rv:=za) (m:=values) (k:=x) (.rc za [0] ((mget values x).getD (⟨0,[],[],[]⟩:zb))) rfl zmk (zuO _ _ _ _) (zdu rfl rfl) (zuH rfl)) rfl (rc 0 rfl (zbZ [.rc za [0] ((mget values x).getD (⟨0,[],[],[]⟩:zb))] 19 [0] ([((mget values x).getD (⟨0,[],[],[]⟩:zb))]:(List zb)) rfl zjx rfl rfl rfl (by simp only [zju,zeO,zfP,zi,xO,yp]<;>rfl)) (ra 0 [.own za 57 14 [16,0] l,.own za 57 19 [0] ([((mget values x).getD (⟨0,[],[],[]⟩:zb))]:(List zb))] rfl (zhp 14 [16,0,19] rfl zjx.el rfl (zcY _ _ _ _ _) (zeG _ _ _ _ _) vH (.inr rfl) rfl) rfl rf))) (zV (jp ?_));cases h;exact zD (lk [0,3,11,12,13] [] 19 16 (zaq ⟨[(0,.mp (Rp.int .i64) za [0] values),(3,.own za 57 14 [16,0,16] v4),(11,.own (Rp.int .i64) 3 15 [] v2),(12,kI (v2.length:Int)),(13,kI (IntKind.i64.wrap (v3+1)))],[]⟩ (by kernel_rfl) (zdB 3 (.own za 57 14 [16,0] v4) rfl (zej _ _ _ _ _ _ rfl rfl) lzz)))
  cases h;exact zaa rfl lzz
 ·exact zaq ⟨[(0,.mp (Rp.int .i64) za [0] values),(3,.own za 57 14 [] v),(11,.own (Rp.int .i64) 3 15 [] v2),(12,kI (v2.length:Int)),(13,kI 0)],[]⟩ (by kernel_rfl) (zdB 3 (.own za 57 14 [16,0] v) rfl (zej _ _ _ _ _ _ rfl rfl) lzz)
 refine zan _ rfl (jp ?_);obtain rfl:=(sj h);exact zo (lk [2] [] 14 2 (lk [2] [] 16 3 lzz))
theorem zto (h:zil sv=some r):FnOk Tryz.prog 8 [.sl zh [0] sv] [kB r]:=by
 refine zu (E:=⟨[(2,kB r)],[]⟩) 54 Tryz.func8 rfl rfl rfl ⟨rfl,trivial⟩ (fun Xt=>?_);refine zk ?_;unfold zil at h;refine jp (jp (jp (zp ?_)));obtain ⟨q2,vn,h⟩:=bnd h;refine zab (fun s:(Int×Int)=>zcg sv s.1 s.2) (fun s=>⟨[(0,.sl zh [0] sv),(3,kI s.1),(4,kI s.2)],[]⟩) (fun o e a w=>e= .exit 0/\Sx ⟨⟨54,[]⟩,Xt,false,#[]⟩ ⟨[(3,kI o)],[]⟩ a w) ?_ vn lzz ?_
 ·clear h;intro s o h;obtain ⟨n,i⟩:=s;refine zk ?_;replace h:zcg sv n i=some o:=h;unfold zcg at h;refine jp (jI h (fun uQ h=>?_) fun uQ h=>?_)
  ·refine zp ?_;obtain ⟨x,u0,h⟩:=bnd h;obtain ⟨x2,va,h⟩:=bnd h;refine jd [0,3,4] [] zaU (by exact (lw_e (lw_e (lw_e (lw_e (ly [.sl zh [0] sv,kI i] (zW rfl zhT.el (zy _ _ _) u0) rfl (lw_e (lw_e (lw_e (lw_e (lw_e (lw_e (lw_e (ly [.sl zh [0] sv,kI i] (zW rfl zhT.el (zy _ _ _) va) rfl (lw_e (ly [.ep zh [0] x2 1] (zeR zf x2.Fields rfl rfl rfl) rfl l0)))))))))))))))) (jp (zp ?_));obtain ⟨q,uU,h⟩:=bnd h;refine zab (fun s:(Int×Int)=>zch i sv s.1 s.2) (fun s=>⟨[(0,.sl zh [0] sv),(3,kI s.1),(4,kI i),(5,kI s.2)],[]⟩) (fun o e a w=>e= .exit 2/\Sx ⟨⟨54,[]⟩,Xt,false,#[]⟩ ⟨[(0,.sl zh [0] sv),(3,kI o),(4,kI i)],[]⟩ a w) ?_ uU lzz ?_
   ·clear h;intro s o h;obtain ⟨n3,k⟩:=s;refine zk ?_;replace h:zch i sv n3 k=some o:=h;unfold zch at h;obtain ⟨x3,vg,h⟩:=bnd h;refine jr (ra 3 [.sl zh [0] sv,kI i] rfl (zW rfl zhT.el (zy _ _ _) vg) rfl (ra 1 [.ep zh [0] x3 1] rfl (zeR zf x3.Fields rfl rfl rfl) rfl rf)) (jI h (fun uR h=>?_) fun uR h=>?_)
    ·refine zp ?_;obtain ⟨x4,vo,h⟩:=bnd h;obtain ⟨x5,vC,h⟩:=bnd h;refine jr (ra 3 [.sl zh [0] sv,kI i] rfl (zW rfl zhT.el (zy _ _ _) vo) rfl (ra 1 [.ep zh [0] x4 1] rfl (zeR zf x4.Fields rfl rfl rfl) rfl (ra 1 [.sl zf [0] x4.Fields,kI k] rfl (zW rfl zlP.el (zy _ _ _) vC) rfl rf))) (zV (jp ?_));cases h;exact zD lzz
    cases h;exact zaa rfl lzz
   refine zan _ rfl (zV (jp ?_));cases h;exact zD lzz
  cases h;exact zaa rfl lzz
 refine zan _ rfl (jp ?_);cases h;exact zo lzz
theorem zrg (wd:∀{x:zd} {deep:Int} {r:Int},xg x deep=some r->FnOk Tryz.prog 35 [.rc zc [0] x,kI deep] [kI r]) (we:∀{v:zb} {deep:Int} {r:Int},xh v deep=some r->FnOk Tryz.prog 74 [.rc za [0] v,kI deep] [kI r]) (h:zgv xg xh x deep=some r):FnOk Tryz.prog 35 [.rc zc [0] x,kI deep] [kI r]:=by
 refine zu (E:=⟨[(4,kI r)],[]⟩) 45 Tryz.func35 rfl rfl rfl ⟨rfl,trivial⟩ (fun Xt=>?_);refine zk ?_;unfold zgv at h;refine jr (ra 0 [.rc zc [0] x] rfl (zaR 11 [.sl za [0] x.Values,.sl Rp.str [0] x.Unknown] [0] rfl rfl rfl (by rw [zj]<;>rfl) rfl) rfl rf) (jp (jI h (fun uQ h=>?_) fun uQ h=>?_))
 ·refine jp ?_;cases h;exact zo lzz
 refine jp (jp (zp ?_));obtain ⟨q,uU,h⟩:=bnd h;refine zab (fun s:(Int×Int)=>zbP x s.1 s.2) (fun s=>⟨[(1,kI deep),(2,.ptr 11 0),(5,kI s.1),(6,kI s.2)],[⟨11,27,[.sl za [0] x.Values,.sl Rp.str [0] x.Unknown]⟩]⟩) (fun o e a w=>e= .exit 0/\Sx ⟨⟨45,[]⟩,Xt,false,#[]⟩ ⟨[(1,kI deep),(2,.ptr 11 0),(5,kI o)],[⟨11,27,[.sl za [0] x.Values,.sl Rp.str [0] x.Unknown]⟩]⟩ a w) ?_ uU lzz ?_
 ·clear h;intro s o h;obtain ⟨n,i⟩:=s;refine zk ?_;replace h:zbP x n i=some o:=h;unfold zbP at h;refine jp (jI h (fun uR h=>?_) fun uR h=>?_)
  ·refine zp ?_;obtain ⟨x2,va,h⟩:=bnd h;refine jr (ra 5 [.sl Rp.str [0] x.Unknown,kI i] rfl (zW rfl zgI.el (zy _ _ _) va) rfl rf) (zV (jp ?_));cases h;exact zD lzz
  cases h;exact zaa rfl lzz
 refine zan _ rfl (jp (zp ?_));obtain ⟨q2,vn,h⟩:=bnd h;refine zab (fun s:(Int×Int)=>zbq deep xh x s.1 s.2) (fun s=>⟨[(1,kI deep),(2,.ptr 11 0),(5,kI s.1),(7,kI s.2)],[⟨11,27,[.sl za [0] x.Values,.sl Rp.str [0] x.Unknown]⟩]⟩) (fun o e a w=>match o with| (.inl v_)=>e= .exit 2/\Sx ⟨⟨45,[]⟩,Xt,false,#[]⟩ ⟨[(5,kI v_)],[]⟩ a w| (.inr v_)=>e= .ret/\Sx ⟨⟨45,[]⟩,Xt,false,#[]⟩ ⟨[(4,kI 5000)],[]⟩ a w) ?_ vn lzz ?_
 ·clear h;intro s o h;obtain ⟨n3,i2⟩:=s;refine zk ?_;replace h:zbq deep xh x n3 i2=some o:=h;unfold zbq at h;refine jp (jI h (fun uT h=>?_) fun uT h=>?_)
  ·refine zp ?_;obtain ⟨x3,vg,h⟩:=bnd h;obtain ⟨rv,uS,h⟩:=bnd h;refine jr (ra 4 [.sl za [0] x.Values,kI i2] rfl (zW rfl zjx.el (zy _ _ _) vg) rfl (ra 0 [.ep za [0] x3 0] rfl (zbM rfl ⟨Tryz.isAgg57,Tryz.sizeOf57⟩) rfl (rl 1 [0] 12 Tryz.call74 (we uS) rf))) (jp (jI h (fun uX h=>?_) fun uX h=>?_))
   ·refine jp ?_;cases h;exact zaN lzz
   refine zV (jp ?_);cases h;exact zD lzz
  cases h;exact zaa rfl lzz
 rcases q2 with u| u2
 ·refine zan _ rfl (jp ?_);obtain rfl:=(sj h);exact zo lzz
 cases h;exact zcJ lzz
theorem znF (wd:∀{x:zd} {deep:Int} {r:Int},xg x deep=some r->FnOk Tryz.prog 35 [.rc zc [0] x,kI deep] [kI r]) (we:∀{v:zb} {deep:Int} {r:Int},xh v deep=some r->FnOk Tryz.prog 74 [.rc za [0] v,kI deep] [kI r]) (h:zef xg xh v deep=some r):FnOk Tryz.prog 74 [.rc za [0] v,kI deep] [kI r]:=by
 refine zu (E:=⟨[(4,kI r)],[]⟩) 48 Tryz.func74 rfl rfl rfl ⟨rfl,trivial⟩ (fun Xt=>?_);refine zk ?_;unfold zef at h;refine jr (ra 0 [.rc za [0] v] rfl (zaR 11 [kI v.Number,.sl (Rp.int .u64) [0] v.Words,.sl Rp.str [0] v.Texts,.sl zc [0] v.Subs] [0] rfl rfl rfl (by rw [zi]<;>rfl) rfl) rfl rf) (jp (jp (zp ?_)));obtain ⟨q,uU,h⟩:=bnd h;refine zab (fun s:(Int×Int)=>zaQ v s.1 s.2) (fun s=>⟨[(1,kI deep),(2,.ptr 11 0),(5,kI s.1),(6,kI s.2)],[⟨11,57,[kI v.Number,.sl (Rp.int .u64) [0] v.Words,.sl Rp.str [0] v.Texts,.sl zc [0] v.Subs]⟩]⟩) (fun o e a w=>e= .exit 0/\Sx ⟨⟨48,[]⟩,Xt,false,#[]⟩ ⟨[(1,kI deep),(2,.ptr 11 0),(5,kI o)],[⟨11,57,[kI v.Number,.sl (Rp.int .u64) [0] v.Words,.sl Rp.str [0] v.Texts,.sl zc [0] v.Subs]⟩]⟩ a w) ?_ uU lzz ?_
 ·clear h;intro s o h;obtain ⟨n,k⟩:=s;refine zk ?_;replace h:zaQ v n k=some o:=h;unfold zaQ at h;refine jp (jI h (fun uQ h=>?_) fun uQ h=>?_)
  ·refine zp ?_;obtain ⟨x,u0,h⟩:=bnd h;refine jr (ra 5 [.sl Rp.str [0] v.Texts,kI k] rfl (zW rfl zgI.el (zy _ _ _) u0) rfl rf) (zV (jp ?_));cases h;exact zD lzz
  cases h;exact zaa rfl lzz
 refine zan _ rfl (jp (zp ?_));obtain ⟨q2,vn,h⟩:=bnd h;refine zab (fun s:(Int×Int)=>zaB deep xg v s.1 s.2) (fun s=>⟨[(1,kI deep),(2,.ptr 11 0),(5,kI s.1),(7,kI s.2)],[⟨11,57,[kI v.Number,.sl (Rp.int .u64) [0] v.Words,.sl Rp.str [0] v.Texts,.sl zc [0] v.Subs]⟩]⟩) (fun o e a w=>match o with| (.inl v_)=>e= .exit 2/\Sx ⟨⟨48,[]⟩,Xt,false,#[]⟩ ⟨[(5,kI v_)],[]⟩ a w| (.inr v_)=>e= .ret/\Sx ⟨⟨48,[]⟩,Xt,false,#[]⟩ ⟨[(4,kI 5000)],[]⟩ a w) ?_ vn lzz ?_
 ·clear h;intro s o h;obtain ⟨n3,k2⟩:=s;refine zk ?_;replace h:zaB deep xg v n3 k2=some o:=h;unfold zaB at h;refine jp (jI h (fun uR h=>?_) fun uR h=>?_)
  ·refine zp ?_;obtain ⟨x2,va,h⟩:=bnd h;obtain ⟨rv,uS,h⟩:=bnd h;refine jr (ra 4 [.sl zc [0] v.Subs,kI k2] rfl (zW rfl zli.el (zy _ _ _) va) rfl (ra 0 [.ep zc [0] x2 0] rfl (zbM rfl ⟨Tryz.isAgg27,Tryz.sizeOf27⟩) rfl (rl 2 [0] 12 Tryz.call35 (wd uS) rf))) (jp (jI h (fun uT h=>?_) fun uT h=>?_))
   ·refine jp ?_;cases h;exact zaN lzz
   refine zV (jp ?_);cases h;exact zD lzz
  cases h;exact zaa rfl lzz
 rcases q2 with u| u2
 ·refine zan _ rfl (jp ?_);obtain rfl:=(sj h);exact zo lzz
 cases h;exact zcJ lzz
theorem zhz (uY:Nat):(∀{x:zd} {deep:Int} {r:Int},zcr uY x deep=some r->FnOk Tryz.prog 35 [.rc zc [0] x,kI deep] [kI r])/\(∀{v:zb} {deep:Int} {r:Int},zbL uY v deep=some r->FnOk Tryz.prog 74 [.rc za [0] v,kI deep] [kI r]):=by
  induction uY with
  | zero=>exact ⟨fun h=>absurd h nofun,fun h=>absurd h nofun⟩
  | succ uY ih=>exact ⟨fun h=>zrg (fun hh=>ih.1 hh) (fun hh=>ih.2 hh) h,fun h=>znF (fun hh=>ih.1 hh) (fun hh=>ih.2 hh) h⟩
theorem zrH (h:zcr uY x deep=some r):FnOk Tryz.prog 35 [.rc zc [0] x,kI deep] [kI r]:=(zhz uY).1 h
theorem ztp (wg:∀{x:zd} {r:zd},xi x=some r->FnOk Tryz.prog 10 [.rc zc [0] x] [.ag [.own za 59 3 [4,0] r.Values,.own Rp.str 9 5 [] r.Unknown]]) (wh:∀{v:zb} {r:zb},xj v=some r->FnOk Tryz.prog 22 [.rc za [0] v] [.ag [kI r.Number,.sl (Rp.int .u64) [0] r.Words,.sl Rp.str [0] r.Texts,.own zc 33 3 [4,0] r.Subs]]) (h:zhy xi xj x=some r):FnOk Tryz.prog 10 [.rc zc [0] x] [.ag [.own za 59 3 [4,0] r.Values,.own Rp.str 9 5 [] r.Unknown]]:=by
 refine zu (E:=⟨[(2,.ptr 2 0)],[⟨2,33,[.own za 59 3 [4,0] r.Values,.own Rp.str 9 5 [] r.Unknown]⟩]⟩) 29 Tryz.func10 rfl rfl rfl ⟨⟨_,_,rfl,rfl,rfl,⟨Tryz.isAgg33,Tryz.sizeOf33⟩⟩,trivial⟩ (fun Xt=>?_);refine zk ?_;unfold zhy at h;refine jr (ra 0 [.rc zc [0] x] rfl (zaR 21 [.sl za [0] x.Values,.sl Rp.str [0] x.Unknown] [0] rfl rfl rfl (by rw [zj]<;>rfl) rfl) rfl (rfl' [22])) ?_;obtain ⟨v,vf,h⟩:=bnd h;refine jr (rc 0 rfl (zbZ [] 23 [] ([]:(List Str)) rfl zgI rfl rfl rfl rfl) (ra 2 [.own Rp.str 9 23 [] ([]:(List Str)),.sl Rp.str [0] x.Unknown] rfl (zhp 23 [] rfl zgI.el rfl (zcY _ _ _ _ _) (zy _ _ _) vf (.inl zpX) rfl) rfl (ra 0 [.own Rp.str 9 23 [] v] rfl (zaM [.own Rp.str 9 23 [] v] [kN,.own Rp.str 9 23 [] v] rfl zGV rfl) rfl (rfl' [24])))) (jp (zp ?_));obtain ⟨q,uU,h⟩:=bnd h;refine zab (fun s:(Int×(List zb))=>zcD xj x s.1 s.2) (fun s=>⟨[(1,.ptr 21 0),(2,.ptr 22 0),(3,.ptr 24 0),(4,kI s.1)],[⟨21,27,[.sl za [0] x.Values,.sl Rp.str [0] x.Unknown]⟩,⟨22,33,[kN,kN]⟩,⟨24,33,[.own za 59 30 [25,0] s.2,.own Rp.str 9 23 [] v]⟩]⟩) (fun o e a w=>e= .exit 0/\Sx ⟨⟨29,[]⟩,Xt,false,#[]⟩ ⟨[(2,.ptr 22 0),(3,.ptr 24 0)],[⟨22,33,[kN,kN]⟩,⟨24,33,[.own za 59 30 [25,0] o,.own Rp.str 9 23 [] v]⟩]⟩ a w) ?_ uU ?_ ?_
 ·clear h;intro s o h;obtain ⟨i,f⟩:=s;refine zk ?_;replace h:zcD xj x i f=some o:=h;unfold zcD at h;refine jp (jI h (fun uQ h=>?_) fun uQ h=>?_)
  ·refine zp ?_;obtain ⟨x2,va,h⟩:=bnd h;obtain ⟨rv,uS,h⟩:=bnd h;obtain ⟨v2,vp,h⟩:=bnd h;refine jd [1,2,3,4] [21,22,24] zaU (by exact (lw_e (lw_e (lw_e (lw_e (lw_e (ly [.sl za [0] x.Values,kI i] (zW rfl zjx.el (zy _ _ _) va) rfl (ly [.ep za [0] x2 0] (zbM rfl ⟨Tryz.isAgg57,Tryz.sizeOf57⟩) rfl (lx (lf1 22 (zL [.rc za [0] x2] [0] 33 rfl Tryz.call22 (wh uS) rfl rfl rfl rfl rfl)) (lx (zw.le (ins':=[(.tmp 24,.ag [kI rv.Number,.sl (Rp.int .u64) [0] rv.Words,.sl Rp.str [0] rv.Texts,.own zc 33 36 [37,0] rv.Subs])]) (zbZ [.rc za [0,36,37] rv] 38 [0,36,37] ([rv]:(List zb)) rfl zjy rfl rfl rfl (by simp only [zju,zeO,zfP,zi,xO,yp]<;>rfl)) ⟨⟨rfl,zK za [0,36,37] rv [kI rv.Number,.sl (Rp.int .u64) [0] rv.Words,.sl Rp.str [0] rv.Texts,.own zc 33 36 [37,0] rv.Subs] (by rw [zi]<;>rfl) rfl⟩,trivial⟩) (ly [.own za 59 30 [25,0] f,.own za 59 38 [0,36,37] ([rv]:(List zb))] (zw.withBx (zhp 30 [25,0,38,36,37] rfl zjy.el rfl (zcY _ _ _ _ _) (zeG _ _ _ _ _) vp (.inr rfl) rfl) ⟨24,33,[.own za 59 30 [25,0] f,.own Rp.str 9 23 [] v]⟩ rfl rfl) rfl (lw_e (ly [.ptr 24 0,.own za 59 30 [25,0,38,36,37] v2] (zyy (b:=⟨24,33,[.any,.own Rp.str 9 23 [] v]⟩) (off:=0) rfl Tryz.sizeOf31 rfl rfl rfl) rfl l0))))))))))))) (zV (jp ?_));cases h;exact zD (lk [1,2,3,4] [21,22,24] 38 25 (lk [1,2,3,4] [21,22,24] 36 25 (lk [1,2,3,4] [21,22,24] 37 25 (zaq ⟨[(1,.ptr 21 0),(2,.ptr 22 0),(3,.ptr 24 0),(4,kI (IntKind.i64.wrap (i+1)))],[⟨21,27,[.sl za [0] x.Values,.sl Rp.str [0] x.Unknown]⟩,⟨22,33,[kN,kN]⟩,⟨24,33,[.own za 59 30 [25,0,25,25,25] v2,.own Rp.str 9 23 [] v]⟩]⟩ (by kernel_rfl) (zat 24 0 (.own za 59 30 [25,0] v2) rfl rfl (zej _ _ _ _ _ _ rfl rfl) lzz)))))
  cases h;exact zaa rfl lzz
 ·exact zaq ⟨[(1,.ptr 21 0),(2,.ptr 22 0),(3,.ptr 24 0),(4,kI 0)],[⟨21,27,[.sl za [0] x.Values,.sl Rp.str [0] x.Unknown]⟩,⟨22,33,[kN,kN]⟩,⟨24,33,[kN,.own Rp.str 9 23 [] v]⟩]⟩ (by kernel_rfl) (zat 24 0 (.own za 59 30 [25,0] []) rfl rfl (zaL za 59 30 [25,0] rfl) lzz)
 refine zan _ rfl (jp ?_);cases h;exact zo (lk [2] [22] 22 2 (lk [2] [2] 30 3 (lk [2] [2] 23 5 (lk [2] [2] 25 4 lzz))))
theorem zoS (wg:∀{x:zd} {r:zd},xi x=some r->FnOk Tryz.prog 10 [.rc zc [0] x] [.ag [.own za 59 3 [4,0] r.Values,.own Rp.str 9 5 [] r.Unknown]]) (wh:∀{v:zb} {r:zb},xj v=some r->FnOk Tryz.prog 22 [.rc za [0] v] [.ag [kI r.Number,.sl (Rp.int .u64) [0] r.Words,.sl Rp.str [0] r.Texts,.own zc 33 3 [4,0] r.Subs]]) (h:zfb xi xj v=some r):FnOk Tryz.prog 22 [.rc za [0] v] [.ag [kI r.Number,.sl (Rp.int .u64) [0] r.Words,.sl Rp.str [0] r.Texts,.own zc 33 3 [4,0] r.Subs]]:=by
 refine zu (E:=⟨[(2,.ptr 2 0)],[⟨2,59,[kI r.Number,.sl (Rp.int .u64) [0] r.Words,.sl Rp.str [0] r.Texts,.own zc 33 3 [4,0] r.Subs]⟩]⟩) 31 Tryz.func22 rfl rfl rfl ⟨⟨_,_,rfl,rfl,rfl,⟨Tryz.isAgg59,Tryz.sizeOf59⟩⟩,trivial⟩ (fun Xt=>?_);refine zk ?_;unfold zfb at h;refine jr (ra 0 [.rc za [0] v] rfl (zaR 21 [kI v.Number,.sl (Rp.int .u64) [0] v.Words,.sl Rp.str [0] v.Texts,.sl zc [0] v.Subs] [0] rfl rfl rfl (by rw [zi]<;>rfl) rfl) rfl (rfl' [22])) (jr (ra 6 [kI v.Number,.sl (Rp.int .u64) [0] v.Words,.sl Rp.str [0] v.Texts] rfl (zaM [kI v.Number,.sl (Rp.int .u64) [0] v.Words,.sl Rp.str [0] v.Texts] [kI v.Number,.sl (Rp.int .u64) [0] v.Words,.sl Rp.str [0] v.Texts,kN] rfl zGW rfl) rfl (rfl' [23])) (jp (zp ?_)));obtain ⟨q,uU,h⟩:=bnd h;refine zab (fun s:(Int×(List zd))=>zbc xi v s.1 s.2) (fun s=>⟨[(1,.ptr 21 0),(2,.ptr 22 0),(3,.ptr 23 0),(4,kI s.1)],[⟨21,57,[kI v.Number,.sl (Rp.int .u64) [0] v.Words,.sl Rp.str [0] v.Texts,.sl zc [0] v.Subs]⟩,⟨22,59,[kI 0,kN,kN,kN]⟩,⟨23,59,[kI v.Number,.sl (Rp.int .u64) [0] v.Words,.sl Rp.str [0] v.Texts,.own zc 33 30 [24,0] s.2]⟩]⟩) (fun o e a w=>e= .exit 0/\Sx ⟨⟨31,[]⟩,Xt,false,#[]⟩ ⟨[(2,.ptr 22 0),(3,.ptr 23 0)],[⟨22,59,[kI 0,kN,kN,kN]⟩,⟨23,59,[kI v.Number,.sl (Rp.int .u64) [0] v.Words,.sl Rp.str [0] v.Texts,.own zc 33 30 [24,0] o]⟩]⟩ a w) ?_ uU ?_ ?_
 ·clear h;intro s o h;obtain ⟨i,f⟩:=s;refine zk ?_;replace h:zbc xi v i f=some o:=h;unfold zbc at h;refine jp (jI h (fun uQ h=>?_) fun uQ h=>?_)
  ·refine zp ?_;obtain ⟨x,u0,h⟩:=bnd h;obtain ⟨rv,uS,h⟩:=bnd h;obtain ⟨v2,vp,h⟩:=bnd h;refine jd [1,2,3,4] [21,22,23] zaU (by exact (lw_e (lw_e (lw_e (lw_e (lw_e (ly [.sl zc [0] v.Subs,kI i] (zW rfl zli.el (zy _ _ _) u0) rfl (ly [.ep zc [0] x 0] (zbM rfl ⟨Tryz.isAgg27,Tryz.sizeOf27⟩) rfl (lx (lf1 10 (zL [.rc zc [0] x] [0] 34 rfl Tryz.call10 (wg uS) rfl rfl rfl rfl rfl)) (lx (zw.le (ins':=[(.tmp 26,.ag [.own za 59 37 [38,0] rv.Values,.own Rp.str 9 39 [] rv.Unknown])]) (zbZ [.rc zc [37,38,0,39] rv] 40 [37,38,0,39] ([rv]:(List zd)) rfl ztG rfl rfl rfl (by simp only [zju,zeO,zfP,zj,xO,yp]<;>rfl)) ⟨⟨rfl,zK zc [37,38,0,39] rv [.own za 59 37 [38,0] rv.Values,.own Rp.str 9 39 [] rv.Unknown] (by rw [zj]<;>rfl) rfl⟩,trivial⟩) (ly [.own zc 33 30 [24,0] f,.own zc 33 40 [37,38,0,39] ([rv]:(List zd))] (zw.withBx (zhp 30 [24,0,40,37,38,39] rfl ztG.el rfl (zcY _ _ _ _ _) (zeG _ _ _ _ _) vp (.inr rfl) rfl) ⟨23,59,[kI v.Number,.sl (Rp.int .u64) [0] v.Words,.sl Rp.str [0] v.Texts,.own zc 33 30 [24,0] f]⟩ rfl rfl) rfl (lw_e (ly [.ptr 23 3,.own zc 33 30 [24,0,40,37,38,39] v2] (zyy (b:=⟨23,59,[kI v.Number,.sl (Rp.int .u64) [0] v.Words,.sl Rp.str [0] v.Texts,.any]⟩) (off:=3) rfl Tryz.sizeOf40 rfl rfl rfl) rfl l0))))))))))))) (zV (jp ?_));cases h;exact zD (lk [1,2,3,4] [21,22,23] 40 24 (lk [1,2,3,4] [21,22,23] 37 24 (lk [1,2,3,4] [21,22,23] 38 24 (lk [1,2,3,4] [21,22,23] 39 24 (zaq ⟨[(1,.ptr 21 0),(2,.ptr 22 0),(3,.ptr 23 0),(4,kI (IntKind.i64.wrap (i+1)))],[⟨21,57,[kI v.Number,.sl (Rp.int .u64) [0] v.Words,.sl Rp.str [0] v.Texts,.sl zc [0] v.Subs]⟩,⟨22,59,[kI 0,kN,kN,kN]⟩,⟨23,59,[kI v.Number,.sl (Rp.int .u64) [0] v.Words,.sl Rp.str [0] v.Texts,.own zc 33 30 [24,0,24,24,24,24] v2]⟩]⟩ (by kernel_rfl) (zat 23 3 (.own zc 33 30 [24,0] v2) rfl rfl (zej _ _ _ _ _ _ rfl rfl) lzz))))))
  cases h;exact zaa rfl lzz
 ·exact zaq ⟨[(1,.ptr 21 0),(2,.ptr 22 0),(3,.ptr 23 0),(4,kI 0)],[⟨21,57,[kI v.Number,.sl (Rp.int .u64) [0] v.Words,.sl Rp.str [0] v.Texts,.sl zc [0] v.Subs]⟩,⟨22,59,[kI 0,kN,kN,kN]⟩,⟨23,59,[kI v.Number,.sl (Rp.int .u64) [0] v.Words,.sl Rp.str [0] v.Texts,kN]⟩]⟩ (by kernel_rfl) (zat 23 3 (.own zc 33 30 [24,0] []) rfl rfl (zaL zc 33 30 [24,0] rfl) lzz)
 refine zan _ rfl (jp ?_);cases h;exact zo (lk [2] [22] 22 2 (lk [2] [2] 30 3 (lk [2] [2] 24 4 lzz)))
theorem zeU (uY:Nat):(∀{x:zd} {r:zd},zde uY x=some r->FnOk Tryz.prog 10 [.rc zc [0] x] [.ag [.own za 59 3 [4,0] r.Values,.own Rp.str 9 5 [] r.Unknown]])/\(∀{v:zb} {r:zb},zbO uY v=some r->FnOk Tryz.prog 22 [.rc za [0] v] [.ag [kI r.Number,.sl (Rp.int .u64) [0] r.Words,.sl Rp.str [0] r.Texts,.own zc 33 3 [4,0] r.Subs]]):=by
  induction uY with
  | zero=>exact ⟨fun h=>absurd h nofun,fun h=>absurd h nofun⟩
  | succ uY ih=>exact ⟨fun h=>ztp (fun hh=>ih.1 hh) (fun hh=>ih.2 hh) h,fun h=>zoS (fun hh=>ih.1 hh) (fun hh=>ih.2 hh) h⟩
theorem zkK (h:zde uY x=some r):FnOk Tryz.prog 10 [.rc zc [0] x] [.ag [.own za 59 3 [4,0] r.Values,.own Rp.str 9 5 [] r.Unknown]]:=(zeU uY).1 h
theorem zkT (h:zbO uY v=some r):FnOk Tryz.prog 22 [.rc za [0] v] [.ag [kI r.Number,.sl (Rp.int .u64) [0] r.Words,.sl Rp.str [0] r.Texts,.own zc 33 3 [4,0] r.Subs]]:=(zeU uY).2 h
theorem zmw (h:zgj sv=some r):FnOk Tryz.prog 149 [kS sv] [kB r]:=by
 refine zu (E:=⟨[(2,kB r)],[]⟩) 55 Tryz.func149 rfl rfl rfl ⟨rfl,trivial⟩ (fun Xt=>?_);refine zk ?_;unfold zgj at h;refine jp (jp (zp ?_));obtain ⟨q,uU,h⟩:=bnd h;refine zab (fun s:Int=>zbr sv s) (fun s=>⟨[(0,kS sv),(3,kI s)],[]⟩) (fun o e a w=>match o with| (.inl v_)=>e= .exit 0/\Sx ⟨⟨55,[]⟩,Xt,false,#[]⟩ ⟨[(0,kS sv)],[]⟩ a w| (.inr v_)=>e= .ret/\Sx ⟨⟨55,[]⟩,Xt,false,#[]⟩ ⟨[(2,kB false)],[]⟩ a w) ?_ uU lzz ?_
 ·clear h;intro i o h;refine zk ?_;replace h:zbr sv i=some o:=h;unfold zbr at h;refine jp (jI h (fun uQ h=>?_) fun uQ h=>?_)
  ·refine zp ?_;obtain ⟨c,vX,h⟩:=bnd h;refine jr (ra 2 [kS sv,kI i] rfl (zBJ rfl Tryz.underlying9 vX) rfl rf) (zU ⟨[(0,kS sv),(3,kI i),(5,kB (if (decide ((c.toNat:Int)>=65)) then ((decide ((c.toNat:Int)<=90))|| (if (decide ((c.toNat:Int)>=97)) then ((decide ((c.toNat:Int)<=122))|| (((c.toNat:Int)==95)|| ((decide (i>0))&&((decide ((c.toNat:Int)>=48))&&(decide ((c.toNat:Int)<=57)))))) else (((c.toNat:Int)==95)|| ((decide (i>0))&&((decide ((c.toNat:Int)>=48))&&(decide ((c.toNat:Int)<=57))))))) else (if (decide ((c.toNat:Int)>=97)) then ((decide ((c.toNat:Int)<=122))|| (((c.toNat:Int)==95)|| ((decide (i>0))&&((decide ((c.toNat:Int)>=48))&&(decide ((c.toNat:Int)<=57)))))) else (((c.toNat:Int)==95)|| ((decide (i>0))&&((decide ((c.toNat:Int)>=48))&&(decide ((c.toNat:Int)<=57))))))))],[]⟩ ?_ ?_)
   ·refine (rsl 3 [] 17 (decide ((c.toNat:Int)>=65)) (fun uR=>?_) (fun uR=>?_))
    ·refine (rsl 4 [] 21 (decide ((c.toNat:Int)<=90)) (fun uT=>?_) (fun uT=>?_))
     · exact (rbl [] 5 true rfl (by rw [uR,uT]<;>rfl))
     refine (rsl 3 [] 24 (decide ((c.toNat:Int)>=97)) (fun uX=>?_) (fun uX=>?_))
     ·refine (rsl 5 [] 29 (decide ((c.toNat:Int)<=122)) (fun vb=>?_) (fun vb=>?_))
      · exact (rbl [] 5 true rfl (by rw [uR,uT,uX,vb]<;>rfl))
      refine (rsl 4 [] 33 ((c.toNat:Int)==95) (fun vc=>?_) (fun vc=>?_))
      · exact (rbl [] 5 true rfl (by rw [uR,uT,uX,vb,vc]<;>rfl))
      refine (rsl 3 [] 36 (decide (i>0)) (fun vh=>?_) (fun vh=>?_))
      ·refine (rsl 4 [] 40 (decide ((c.toNat:Int)>=48)) (fun vk=>?_) (fun vk=>?_))
       · exact (rbl [] 5 (decide ((c.toNat:Int)<=57)) rfl (by rw [uR,uT,uX,vb,vc,vh,vk]<;>rfl))
       exact (rbl [] 5 false rfl (by rw [uR,uT,uX,vb,vc,vh,vk]<;>rfl))
      exact (rbl [] 5 false rfl (by rw [uR,uT,uX,vb,vc,vh]<;>rfl))
     refine (rsl 9 [] 33 ((c.toNat:Int)==95) (fun vj=>?_) (fun vj=>?_))
     · exact (rbl [] 5 true rfl (by rw [uR,uT,uX,vj]<;>rfl))
     refine (rsl 3 [] 36 (decide (i>0)) (fun vq=>?_) (fun vq=>?_))
     ·refine (rsl 4 [] 40 (decide ((c.toNat:Int)>=48)) (fun vD=>?_) (fun vD=>?_))
      · exact (rbl [] 5 (decide ((c.toNat:Int)<=57)) rfl (by rw [uR,uT,uX,vj,vq,vD]<;>rfl))
      exact (rbl [] 5 false rfl (by rw [uR,uT,uX,vj,vq,vD]<;>rfl))
     exact (rbl [] 5 false rfl (by rw [uR,uT,uX,vj,vq]<;>rfl))
    refine (rsl 7 [] 24 (decide ((c.toNat:Int)>=97)) (fun vu=>?_) (fun vu=>?_))
    ·refine (rsl 5 [] 29 (decide ((c.toNat:Int)<=122)) (fun vx=>?_) (fun vx=>?_))
     · exact (rbl [] 5 true rfl (by rw [uR,vu,vx]<;>rfl))
     refine (rsl 4 [] 33 ((c.toNat:Int)==95) (fun vv=>?_) (fun vv=>?_))
     · exact (rbl [] 5 true rfl (by rw [uR,vu,vx,vv]<;>rfl))
     refine (rsl 3 [] 36 (decide (i>0)) (fun vA=>?_) (fun vA=>?_))
     ·refine (rsl 4 [] 40 (decide ((c.toNat:Int)>=48)) (fun vG=>?_) (fun vG=>?_))
      · exact (rbl [] 5 (decide ((c.toNat:Int)<=57)) rfl (by rw [uR,vu,vx,vv,vA,vG]<;>rfl))
      exact (rbl [] 5 false rfl (by rw [uR,vu,vx,vv,vA,vG]<;>rfl))
     exact (rbl [] 5 false rfl (by rw [uR,vu,vx,vv,vA]<;>rfl))
    refine (rsl 9 [] 33 ((c.toNat:Int)==95) (fun vF=>?_) (fun vF=>?_))
    · exact (rbl [] 5 true rfl (by rw [uR,vu,vF]<;>rfl))
    refine (rsl 3 [] 36 (decide (i>0)) (fun vK=>?_) (fun vK=>?_))
    ·refine (rsl 4 [] 40 (decide ((c.toNat:Int)>=48)) (fun vO=>?_) (fun vO=>?_))
     · exact (rbl [] 5 (decide ((c.toNat:Int)<=57)) rfl (by rw [uR,vu,vF,vK,vO]<;>rfl))
     exact (rbl [] 5 false rfl (by rw [uR,vu,vF,vK,vO]<;>rfl))
    exact (rbl [] 5 false rfl (by rw [uR,vu,vF,vK]<;>rfl))
   refine jp (jI h (fun vY h=>?_) fun vY h=>?_)
   ·refine jp ?_;cases h;exact zaN lzz
   refine zV (jp ?_);cases h;exact zD lzz
  cases h;exact zaa rfl lzz
 rcases q with u| u2
 ·refine zan _ rfl (zU ⟨[(2,kB ((decide ((sv.length:Int)>=1))&&(decide ((sv.length:Int)<=60))))],[]⟩ ?_ ?_)
  ·refine (rsl 4 [] 50 (decide ((sv.length:Int)>=1)) (fun vZ=>?_) (fun vZ=>?_))
   · exact (rbl [] 2 (decide ((sv.length:Int)<=60)) rfl (by rw [vZ]<;>rfl))
   exact (rbl [] 2 false rfl (by rw [vZ]<;>rfl))
  cases h;exact zo lzz
 obtain rfl:=(sj h);exact zcJ lzz
theorem zjo (h:zcZ k=some r):FnOk Tryz.prog 59 [kI k] [kB r]:=by
 refine zu (E:=⟨[(2,kB r)],[]⟩) 9 Tryz.func59 rfl rfl rfl ⟨rfl,trivial⟩ (fun Xt=>?_);refine zk ?_;unfold zcZ at h;refine jp (zU ⟨[(2,kB ((decide (k>=1))&&(decide (k<=17))))],[]⟩ ?_ ?_)
 ·refine (rsl 3 [] 5 (decide (k>=1)) (fun uQ=>?_) (fun uQ=>?_))
  · exact (rbl [] 2 (decide (k<=17)) rfl (by rw [uQ]<;>rfl))
  exact (rbl [] 2 false rfl (by rw [uQ]<;>rfl))
 cases h;exact zo lzz
theorem ziN (h:zdQ k=some r):FnOk Tryz.prog 60 [kI k] [kB r]:=by
 refine zu (E:=⟨[(2,kB r)],[]⟩) 9 Tryz.func60 rfl rfl rfl ⟨rfl,trivial⟩ (fun Xt=>?_);refine zk ?_;unfold zdQ at h;refine jp (zU ⟨[(2,kB ((decide (k>=1))&&(decide (k<=14))))],[]⟩ ?_ ?_)
 ·refine (rsl 3 [] 5 (decide (k>=1)) (fun uQ=>?_) (fun uQ=>?_))
  · exact (rbl [] 2 (decide (k<=14)) rfl (by rw [uQ]<;>rfl))
  exact (rbl [] 2 false rfl (by rw [uQ]<;>rfl))
 cases h;exact zo lzz
theorem zhh (h:zdA m vi=some r):FnOk Tryz.prog 42 [.rc zh [0] m,kI vi] [kI r]:=by
 refine zu (E:=⟨[(4,kI r)],[]⟩) 22 Tryz.func42 rfl rfl rfl ⟨rfl,trivial⟩ (fun Xt=>?_);refine zk ?_;unfold zdA at h;refine jr (ra 0 [.rc zh [0] m] rfl (zaR 11 [kS m.Name,.sl zf [0] m.Fields] [0] rfl rfl rfl rfl rfl) rfl rf) (jp (zp ?_));obtain ⟨q,uU,h⟩:=bnd h;refine zab (fun s:Int=>zbh m vi s) (fun s=>⟨[(1,kI vi),(2,.ptr 11 0),(5,kI s)],[⟨11,82,[kS m.Name,.sl zf [0] m.Fields]⟩]⟩) (fun o e a w=>match o with| (.inl v_)=>e= .exit 0/\Sx ⟨⟨22,[]⟩,Xt,false,#[]⟩ ⟨[],[]⟩ a w| (.inr v_)=>e= .ret/\Sx ⟨⟨22,[]⟩,Xt,false,#[]⟩ ⟨[(4,kI v_)],[]⟩ a w) ?_ uU lzz ?_
 ·clear h;intro i o h;refine zk ?_;replace h:zbh m vi i=some o:=h;unfold zbh at h;refine jp (jI h (fun uQ h=>?_) fun uQ h=>?_)
  ·refine zp ?_;obtain ⟨x,u0,h⟩:=bnd h;refine jr (ra 3 [.sl zf [0] m.Fields,kI i] rfl (zW rfl zlP.el (zy _ _ _) u0) rfl rf) (jI h (fun uR h=>?_) fun uR h=>?_)
   ·refine jp ?_;cases h;exact zaN lzz
   refine zV (jp ?_);cases h;exact zD lzz
  cases h;exact zaa rfl lzz
 rcases q with u| u2
 ·refine zan _ rfl (jp ?_);cases h;exact zo lzz
 obtain rfl:=(sj h);exact zcJ lzz
theorem zgb (h:zcu v=some r):FnOk Tryz.prog 26 [.rc za [0] v] [kI r]:=by
 refine zu (E:=⟨[(2,kI r)],[]⟩) 14 Tryz.func26 rfl rfl rfl ⟨rfl,trivial⟩ (fun Xt=>?_);refine zk ?_;unfold zcu at h;refine jr (ra 0 [.rc za [0] v] rfl (zaR 11 [kI v.Number,.sl (Rp.int .u64) [0] v.Words,.sl Rp.str [0] v.Texts,.sl zc [0] v.Subs] [0] rfl rfl rfl (by rw [zi]<;>rfl) rfl) rfl rf) (jp ?_);cases h;exact zo lzz
theorem zqy (h:zgw wv=some r):FnOk Tryz.prog 93 [kU wv] [kI r]:=by
 refine zu (E:=⟨[(2,kI r)],[]⟩) 12 Tryz.func93 rfl rfl rfl ⟨rfl,trivial⟩ (fun Xt=>?_);refine zk ?_;unfold zgw at h;refine jp (jp (jp (jI h (fun uQ h=>?_) fun uQ h=>?_)))
 ·refine jp (jp ?_);cases h;exact zo lzz
 refine jp ?_;cases h;exact zo lzz
theorem zrI (h:zhA n=some r):FnOk Tryz.prog 92 [kI n] [kU r]:=by
 refine zu (E:=⟨[(2,kU r)],[]⟩) 12 Tryz.func92 rfl rfl rfl ⟨rfl,trivial⟩ (fun Xt=>?_);refine zk ?_;unfold zhA at h;refine jp (jp (jI h (fun uQ h=>?_) fun uQ h=>?_))
 ·refine jp ?_;cases h;exact zo lzz
 refine jp ?_;cases h;exact zo lzz
theorem ztr (h:zin rv=some r):FnOk Tryz.prog 156 [kI rv] [.own Rp.byte 5 2 [] r]:=by
 refine zu (E:=⟨[(2,.own Rp.byte 5 2 [] r)],[]⟩) 68 Tryz.func156 rfl rfl rfl ⟨rfl,trivial⟩ (fun Xt=>?_);refine zk ?_;unfold zin at h;refine jp (zU ⟨[(0,kI rv),(16,kB ((decide (rv<0))|| ((decide (rv>1114111))|| ((decide (rv>=55296))&&(decide (rv<=57343))))))],[]⟩ ?_ ?_)
 ·refine (rsl 3 [] 5 (decide (rv<0)) (fun uQ=>?_) (fun uQ=>?_))
  · exact (rbl [] 16 true rfl (by rw [uQ]<;>rfl))
  refine (rsl 4 [] 9 (decide (rv>1114111)) (fun uR=>?_) (fun uR=>?_))
  · exact (rbl [] 16 true rfl (by rw [uQ,uR]<;>rfl))
  refine (rsl 3 [] 12 (decide (rv>=55296)) (fun uT=>?_) (fun uT=>?_))
  · exact (rbl [] 16 (decide (rv<=57343)) rfl (by rw [uQ,uR,uT]<;>rfl))
  exact (rbl [] 16 false rfl (by rw [uQ,uR,uT]<;>rfl))
 refine jI h (fun uX h=>?_) fun uX h=>?_
 ·refine jp ?_;cases h;exact zo (zaq ⟨[(2,kN)],[]⟩ (by kernel_rfl) (zdB 2 (.own Rp.byte 5 2 [] ([]:(List UInt8))) rfl (zaL Rp.byte 5 2 [] rfl) lzz))
 refine jp (jI h (fun vb h=>?_) fun vb h=>?_)
 ·obtain ⟨y,vP,h⟩:=bnd h;refine jr (rc 2 rfl (zw.le (ins':=[(.tmp 20,.lf (.int .u8 (IntKind.u8.wrap rv)))]) (zbZ [.lf (.int .u8 (y.toNat:Int))] 12 [] [y] rfl zjr rfl rfl rfl rfl) ⟨⟨rfl,zmj vP⟩,trivial⟩) rf) ?_;cases h;exact zo (lk [2] [] 12 2 lzz)
 refine jp (jI h (fun vc h=>?_) fun vc h=>?_)
 ·obtain ⟨y2,wO,h⟩:=bnd h;obtain ⟨y3,wP,h⟩:=bnd h;refine jr (rc 8 rfl (zw.le (ins':=[(.tmp 27,.lf (.int .u8 (IntKind.u8.wrap (IntKind.i64.wrap (192+(IntKind.i64.wrap (Int.tdiv rv 64))))))),(.tmp 31,.lf (.int .u8 (IntKind.u8.wrap (IntKind.i64.wrap (128+(Int.tmod rv 64))))))]) (zbZ [.lf (.int .u8 (y2.toNat:Int)),.lf (.int .u8 (y3.toNat:Int))] 13 [] [y2,y3] rfl zjr rfl rfl rfl rfl) ⟨⟨rfl,zmj wO⟩,⟨rfl,zmj wP⟩,trivial⟩) rf) ?_;cases h;exact zo (lk [2] [] 13 2 lzz)
 refine jp (jI h (fun vh h=>?_) fun vh h=>?_)
 ·obtain ⟨y4,wQ,h⟩:=bnd h;obtain ⟨y5,wR,h⟩:=bnd h;obtain ⟨y6,wS,h⟩:=bnd h;refine jr (rc 13 rfl (zw.le (ins':=[(.tmp 38,.lf (.int .u8 (IntKind.u8.wrap (IntKind.i64.wrap (224+(IntKind.i64.wrap (Int.tdiv rv 4096))))))),(.tmp 43,.lf (.int .u8 (IntKind.u8.wrap (IntKind.i64.wrap (128+(Int.tmod (IntKind.i64.wrap (Int.tdiv rv 64)) 64)))))),(.tmp 47,.lf (.int .u8 (IntKind.u8.wrap (IntKind.i64.wrap (128+(Int.tmod rv 64))))))]) (zbZ [.lf (.int .u8 (y4.toNat:Int)),.lf (.int .u8 (y5.toNat:Int)),.lf (.int .u8 (y6.toNat:Int))] 14 [] [y4,y5,y6] rfl zjr rfl rfl rfl rfl) ⟨⟨rfl,zmj wQ⟩,⟨rfl,zmj wR⟩,⟨rfl,zmj wS⟩,trivial⟩) rf) ?_;cases h;exact zo (lk [2] [] 14 2 lzz)
 obtain ⟨y7,wT,h⟩:=bnd h;obtain ⟨y8,wU,h⟩:=bnd h;obtain ⟨y9,wV,h⟩:=bnd h;obtain ⟨y10,wW,h⟩:=bnd h;refine jr (rc 18 rfl (zw.le (ins':=[(.tmp 52,.lf (.int .u8 (IntKind.u8.wrap (IntKind.i64.wrap (240+(IntKind.i64.wrap (Int.tdiv rv 262144))))))),(.tmp 57,.lf (.int .u8 (IntKind.u8.wrap (IntKind.i64.wrap (128+(Int.tmod (IntKind.i64.wrap (Int.tdiv rv 4096)) 64)))))),(.tmp 62,.lf (.int .u8 (IntKind.u8.wrap (IntKind.i64.wrap (128+(Int.tmod (IntKind.i64.wrap (Int.tdiv rv 64)) 64)))))),(.tmp 66,.lf (.int .u8 (IntKind.u8.wrap (IntKind.i64.wrap (128+(Int.tmod rv 64))))))]) (zbZ [.lf (.int .u8 (y7.toNat:Int)),.lf (.int .u8 (y8.toNat:Int)),.lf (.int .u8 (y9.toNat:Int)),.lf (.int .u8 (y10.toNat:Int))] 15 [] [y7,y8,y9,y10] rfl zjr rfl rfl rfl rfl) ⟨⟨rfl,zmj wT⟩,⟨rfl,zmj wU⟩,⟨rfl,zmj wV⟩,⟨rfl,zmj wW⟩,trivial⟩) rf) ?_;cases h;exact zo (lk [2] [] 15 2 lzz)
end Go.Proofs.YtekgmimingolbaaGreat
