/-
  The Go functions do what the plain functions say. No condition.
-/
import Derived.Test.YtekgmimingolbaaGreatx1T
import Derived.Test.YtekgmimingolbaaGreatx1Y
set_option autoImplicit true
set_option relaxedAutoImplicit true
namespace Go.Proofs.YtekgmimingolbaaGreat
open Go Go.RowKit
set_option linter.unusedVariables false
set_option maxRecDepth 100000
set_option maxHeartbeats 3200000
theorem zrO {ways:(List (List Int))} (h:zhT ways=some r):FnOk Tryz.prog 120 [.sl (Rp.list (Rp.int .i64)) [0] ways] [.mp (Rp.int .i64) (Rp.list (Rp.list (Rp.int .i64))) [2,3,0] r]:=by
 refine zu (E:=⟨[(2,.mp (Rp.int .i64) (Rp.list (Rp.list (Rp.int .i64))) [2,3,0] r)],[]⟩) 28 Tryz.func120 rfl rfl rfl ⟨rfl,trivial⟩ (fun Xt=>?_);refine zj ?_;unfold zhT at h;refine jp (jr (ra 0 [] rfl (zHI (rk:=(Rp.int .i64)) (r:=(Rp.list (Rp.int .i64))) (e:=53) 13 rfl) rfl rf) (jp (zq ?_)));obtain ⟨q,uJ,h⟩:=bnd h;refine zW (fun s:((List (Int×(List (List Int))))×Int)=>zci ways s.1 s.2) (fun s=>⟨[(3,.mo (Rp.int .i64) (Rp.list (Rp.int .i64)) 53 13 [14,0] s.1),(7,.sl (Rp.list (Rp.int .i64)) [0] ways),(8,kI (ways.length:Int)),(9,kI s.2)],[]⟩) (fun o e a w=>e= .exit 0/\Sx ⟨⟨28,[]⟩,Xt,false,#[]⟩ ⟨[(3,.mo (Rp.int .i64) (Rp.list (Rp.int .i64)) 53 13 [14,0] o)],[]⟩ a w) ?_ uJ ?_ ?_
 ·clear h;intro s o h;obtain ⟨rests,v⟩:=s;refine zj ?_;replace h:zci ways rests v=some o:=h;unfold zci at h;refine jp (jI h (fun uC h=>?_) fun uC h=>?_)
  ·refine zq ?_;obtain ⟨x,uM,h⟩:=bnd h;refine jr (ra 0 [.sl (Rp.list (Rp.int .i64)) [0] ways,kI v] rfl (zP rfl zcY.el (zw _ _ _) uM) rfl (ra 0 [.ep (Rp.list (Rp.int .i64)) [0] x 0] rfl (zbv (Rp.int .i64) x rfl rfl rfl) rfl rf)) ?_;obtain ⟨x2,uP,h⟩:=bnd h;obtain ⟨v2,vd,h⟩:=bnd h;obtain ⟨v3,vc,h⟩:=bnd h;refine jk [3,5,7,8,9] [] (zvb ⟨[(3,.mo (Rp.int .i64) (Rp.list (Rp.int .i64)) 53 13 [14,0,17] (mput rests x2 v3)),(7,.sl (Rp.list (Rp.int .i64)) [0] ways),(8,kI (ways.length:Int)),(9,kI v)],[]⟩ [.raw [5] [] [] [.ms 13 13],.ev,.ex [] [] [] (.ep (Rp.int .i64) [0] x2 0) [],.ev,.raw [9] [] [] [.ms 17 13],.ev,.ex [] [] [] (.ep (Rp.int .i64) [0] x2 0) [],.ev,.raw [3,8,0] [] [] [.lk 21 (Rp.int .i64) (Rp.list (Rp.int .i64)) 53 13 [14,0] rests x2],.ev,.ex [] [] [] (.sl (Rp.int .i64) [0] v2) [],.ex [] [] [17] (.own (Rp.list (Rp.int .i64)) 53 17 [0] ([v2]:(List (List Int)))) [],.raw [3,0] [13] [] [.ap 25 (Rp.int .i64) (Rp.list (Rp.int .i64)) 53 13 [14,0,17] rests x2 v3],.raw [0,11,8,16] [13] [] [.sl 3 (.mo (Rp.int .i64) (Rp.list (Rp.int .i64)) 53 13 [14,0,17] (mput rests x2 v3))]] [⟨[],[],[.ms 3 13]⟩,⟨[(.tmp 14,.sl (Rp.int .i64) [0] x),(.const (.int .i64 0),kI 0)],[],[]⟩,⟨[],[],[.ms 3 13]⟩,⟨[(.tmp 18,.sl (Rp.int .i64) [0] x),(.const (.int .i64 0),kI 0)],[],[]⟩,⟨[],[],[.ms 17 13,.sl 3 (.mo (Rp.int .i64) (Rp.list (Rp.int .i64)) 53 13 [14,0] rests),.sl 20 (kI x2)]⟩,⟨[(.tmp 22,.sl (Rp.int .i64) [0] x),(.const (.int .i64 1),kI 1)],[],[]⟩,⟨[(.tmp 23,.sl (Rp.int .i64) [0] v2)],[],[]⟩,⟨[],[],[.lk 21 (Rp.int .i64) (Rp.list (Rp.int .i64)) 53 13 [14,0] rests x2,.sl 24 (.own (Rp.list (Rp.int .i64)) 53 17 [0] ([v2]:(List (List Int))))]⟩,⟨[],[],[.ap 25 (Rp.int .i64) (Rp.list (Rp.int .i64)) 53 13 [14,0,17] rests x2 v3,.ms 13 13,.sl 16 (kI x2),.ms 3 13]⟩] [3,7,8,9] [] zbq (by kernel_rfl) (by exact (lw_r (zGy 3 13 13 (.inl rfl) rfl) (lw_e (lw_x (zrK (zP rfl zhz.el (zw _ _ _) uP) rfl) (lw_e (lw_r (zGy 3 17 13 (.inl rfl) rfl) (lw_e (lw_x (zrK (zP rfl zhz.el (zw _ _ _) uP) rfl) (lw_e (lw_r (zIV (z:= .tmp 20) 3 17 21 rfl rfl zze (zdK rfl rfl) trivial) (lw_e (lw_x (zrK (zlw (some (kI 1)) none rfl zhz.el (zw _ _ _) ⟨rfl,rfl⟩ ⟨rfl,rfl⟩ vd) rfl) (lw_x (zrK (zcr [.sl (Rp.int .i64) [0] v2] 17 [0] ([v2]:(List (List Int))) rfl zcY rfl rfl rfl rfl) rfl) (lw_r (zIU (y:= .tmp 24) [14,0,17] 21 25 rfl rfl zcY.el rfl (zet _ _ _ _ _) trivial vc (.inr rfl) rfl) (lw_r (zHP (z:= .tmp 16) 25 13 [3] rfl rfl zze (zdK rfl rfl) trivial rfl) lw_0))))))))))))))) (zQ (jp ?_)));cases h;exact zD (lk [3,7,8,9] [] 17 14 (zaJ ⟨[(3,.mo (Rp.int .i64) (Rp.list (Rp.int .i64)) 53 13 [14,0,14] (mput rests x2 v3)),(7,.sl (Rp.list (Rp.int .i64)) [0] ways),(8,kI (ways.length:Int)),(9,kI (IntKind.i64.wrap (v+1)))],[]⟩ (by kernel_rfl) (zdk 3 (.mo (Rp.int .i64) (Rp.list (Rp.int .i64)) 53 13 [14,0] (mput rests x2 v3)) rfl (zIm _ _ _ _ _ _ _ rfl rfl) lzz)))
  cases h;exact zX rfl lzz
 ·exact zaJ ⟨[(3,.mo (Rp.int .i64) (Rp.list (Rp.int .i64)) 53 13 [] ([]:(List (Int×(List (List Int)))))),(7,.sl (Rp.list (Rp.int .i64)) [0] ways),(8,kI (ways.length:Int)),(9,kI 0)],[]⟩ (by kernel_rfl) (zdk 3 (.mo (Rp.int .i64) (Rp.list (Rp.int .i64)) 53 13 [14,0] ([]:(List (Int×(List (List Int)))))) rfl (zIm _ _ _ _ _ _ _ rfl rfl) lzz)
 refine zaj _ rfl (jp ?_);obtain rfl:=(sj h);exact zt (zaJ ⟨[(2,.mo (Rp.int .i64) (Rp.list (Rp.int .i64)) 53 13 [14,0] q)],[]⟩ (by kernel_rfl) (zdk 2 (.mp (Rp.int .i64) (Rp.list (Rp.list (Rp.int .i64))) [13,14,0] q) rfl (zIJ _ _ _ _ _ _ _ rfl) (lk [2] [] 13 3 (lk [2] [] 14 3 (zaJ ⟨[(2,.mp (Rp.int .i64) (Rp.list (Rp.list (Rp.int .i64))) [3,3,0] q)],[]⟩ (by kernel_rfl) (zdk 2 (.mp (Rp.int .i64) (Rp.list (Rp.list (Rp.int .i64))) [2,3,0] (q:(List (Int×(List (List Int)))))) rfl (zIn _ _ _ rfl) lzz))))))
theorem zkw (h:zgZ v=some r):FnOk Tryz.prog 55 [.rc za [0] v] [.ag [.sl za [0] r.Values,.sl Rp.str [0] r.Unknown]]:=by
 refine zu (E:=⟨[(2,.ptr 2 0)],[⟨2,27,[.sl za [0] r.Values,.sl Rp.str [0] r.Unknown]⟩]⟩) 12 Tryz.func55 rfl rfl rfl ⟨⟨_,_,rfl,rfl,rfl,⟨Tryz.isAgg27,Tryz.sizeOf27⟩⟩,trivial⟩ (fun Xt=>?_);refine zj ?_;unfold zgZ at h;refine jr (ra 0 [.rc za [0] v] rfl (zbL 13 [kI v.Number,.sl (Rp.int .u64) [0] v.Words,.sl Rp.str [0] v.Texts,.sl zd [0] v.Subs] [0] rfl rfl rfl (by rw [zk]<;>rfl) rfl) rfl (rfl' [14])) (jp (jI h (fun uC h=>?_) fun uC h=>?_))
 ·refine jr (ra 0 [] rfl (zcs [] [kN,kN] rfl zwQ rfl) rfl rf) ?_;cases h;exact zt (lk [2] [14] 14 2 (zaJ ⟨[(2,.ptr 2 0)],[⟨2,27,[kN,kN]⟩]⟩ (by kernel_rfl) (zcU 2 0 (.sl za [0] ((⟨[],[]⟩:zc):zc).Values) rfl rfl (zed za [0]) (zcU 2 1 (.sl Rp.str [0] ((⟨[],[]⟩:zc):zc).Unknown) rfl rfl (zed Rp.str [0]) lzz))))
 obtain ⟨x,uM,h⟩:=bnd h;refine jr (ra 2 [.sl zd [0] v.Subs,kI 0] rfl (zP rfl zkk.el (zw _ _ _) uM) rfl (ra 0 [.ep zd [0] x 0] rfl (zcM rfl ⟨Tryz.isAgg27,Tryz.sizeOf27⟩) rfl (ra 0 [.ptr 14 0,.rc zd [0] x] rfl (zio (r:=zd) (b:=⟨14,27,[kN,kN]⟩) (off:=0) [.sl za [0] x.Values,.sl Rp.str [0] x.Unknown] rfl Tryz.sizeOf27 rfl rfl (by rw [zi]<;>rfl) rfl) rfl rf))) ?_;obtain rfl:=(sj h);exact zt (lk [2] [14] 14 2 lzz)
theorem zoc (h:zjm uV x=some r):FnOk Tryz.prog 89 [kI uV,.rc zd [0] x] [.ag [kI r.Number,kN,kN,.own zd 27 3 [0] r.Subs]]:=by
 refine zu (E:=⟨[(4,.ptr 2 0)],[⟨2,57,[kI r.Number,kN,kN,.own zd 27 3 [0] r.Subs]⟩]⟩) 9 Tryz.func89 rfl rfl rfl ⟨⟨_,_,rfl,rfl,rfl,⟨Tryz.isAgg57,Tryz.sizeOf57⟩⟩,trivial⟩ (fun Xt=>?_);refine zj ?_;unfold zjm at h;refine jr (ra 0 [.rc zd [0] x] rfl (zbL 14 [.sl za [0] x.Values,.sl Rp.str [0] x.Unknown] [0] rfl rfl rfl (by rw [zi]<;>rfl) rfl) rfl (rfl' [15])) (jr (rc 2 rfl (zx.le (ins':=[(.tmp 6,.ag [.sl za [0] x.Values,.sl Rp.str [0] x.Unknown])]) (zcr [.rc zd [0] x] 16 [0] ([x]:(List zc)) rfl zkk rfl rfl rfl (by simp only [zjZ,zfT,zgz,zi,xS,yw]<;>rfl)) ⟨⟨rfl,zT zd [0] x [.sl za [0] x.Values,.sl Rp.str [0] x.Unknown] (by rw [zi]<;>rfl) rfl⟩,trivial⟩) (ra 0 [kI uV,.own zd 27 16 [0] ([x]:(List zc))] rfl (zcs [kI uV,.own zd 27 16 [0] ([x]:(List zc))] [kI uV,kN,kN,.own zd 27 16 [0] ([x]:(List zc))] rfl zDF rfl) rfl rf)) ?_);cases h;exact zt (lk [4] [15] 15 2 (lk [4] [2] 16 3 lzz))
theorem ziq (h:zbh sv=some r):FnOk Tryz.prog 109 [.sl za [0] sv] [.own za 57 2 [0] r]:=by
 refine zu (E:=⟨[(2,.own za 57 2 [0] r)],[]⟩) 8 Tryz.func109 rfl rfl rfl ⟨rfl,trivial⟩ (fun Xt=>?_);refine zj ?_;unfold zbh at h;refine jp ?_;have hn1:=zoo h;refine zqq 1 4 true ⟨[(0,.sl za [0] sv),(3,.sl za [0] sv)],[]⟩ ⟨[(0,.sl za [0] sv),(4,kB true)],[]⟩ ⟨[(0,.sl za [0] sv),(4,kB false)],[]⟩ (by kernel_rfl) rfl rfl rfl (by kernel_rfl) rfl Tryz.underlying24 rfl (zw _ _ _) (by kernel_rfl) (by kernel_rfl) (fun hx_=>?_) ?_
 ·replace h:=hn1.1 hx_;refine jT rfl (jp ?_);cases h;exact zt (zaJ ⟨[(2,kN)],[]⟩ (by kernel_rfl) (zdk 2 (.own za 57 2 [0] ([]:(List zb))) rfl (zbJ za 57 2 [0] rfl) lzz))
 replace h:=hn1.2;refine jF rfl ?_;obtain ⟨v,uZ,h⟩:=bnd h;refine jr (rc 0 rfl (zcr [] 12 [] ([]:(List zb)) rfl zkj rfl rfl rfl rfl) (ra 1 [.own za 57 12 [] ([]:(List zb)),.sl za [0] sv] rfl (zgx 12 [0] rfl zkj.el rfl (zcI _ _ _ _ _) (zw _ _ _) uZ (.inr rfl) rfl) rfl rf)) ?_;obtain rfl:=(sj h);exact zt (lk [2] [] 12 2 lzz)
theorem zgU (h:zbN sv=some r):FnOk Tryz.prog 110 [.sl Rp.str [0] sv] [.own Rp.str 9 2 [] r]:=by
 refine zu (E:=⟨[(2,.own Rp.str 9 2 [] r)],[]⟩) 8 Tryz.func110 rfl rfl rfl ⟨rfl,trivial⟩ (fun Xt=>?_);refine zj ?_;unfold zbN at h;refine jp ?_;have hn1:=zoo h;refine zqq 1 4 true ⟨[(0,.sl Rp.str [0] sv),(3,.sl Rp.str [0] sv)],[]⟩ ⟨[(0,.sl Rp.str [0] sv),(4,kB true)],[]⟩ ⟨[(0,.sl Rp.str [0] sv),(4,kB false)],[]⟩ (by kernel_rfl) rfl rfl rfl (by kernel_rfl) rfl Tryz.underlying25 rfl (zw _ _ _) (by kernel_rfl) (by kernel_rfl) (fun hx_=>?_) ?_
 ·replace h:=hn1.1 hx_;refine jT rfl (jp ?_);cases h;exact zt (zaJ ⟨[(2,kN)],[]⟩ (by kernel_rfl) (zdk 2 (.own Rp.str 9 2 [] ([]:(List Str))) rfl (zbJ Rp.str 9 2 [] rfl) lzz))
 replace h:=hn1.2;refine jF rfl ?_;obtain ⟨v,uZ,h⟩:=bnd h;refine jr (rc 0 rfl (zcr [] 12 [] ([]:(List Str)) rfl zjA rfl rfl rfl rfl) (ra 1 [.own Rp.str 9 12 [] ([]:(List Str)),.sl Rp.str [0] sv] rfl (zgx 12 [] rfl zjA.el rfl (zcI _ _ _ _ _) (zw _ _ _) uZ (.inl zub) rfl) rfl rf)) ?_;obtain rfl:=(sj h);exact zt (lk [2] [] 12 2 lzz)
theorem zkg (h:zcB sv=some r):FnOk Tryz.prog 142 [.sl (Rp.int .u64) [0] sv] [.own (Rp.int .u64) 83 2 [] r]:=by
 refine zu (E:=⟨[(2,.own (Rp.int .u64) 83 2 [] r)],[]⟩) 8 Tryz.func142 rfl rfl rfl ⟨rfl,trivial⟩ (fun Xt=>?_);refine zj ?_;unfold zcB at h;refine jp ?_;have hn1:=zoo h;refine zqq 1 4 true ⟨[(0,.sl (Rp.int .u64) [0] sv),(3,.sl (Rp.int .u64) [0] sv)],[]⟩ ⟨[(0,.sl (Rp.int .u64) [0] sv),(4,kB true)],[]⟩ ⟨[(0,.sl (Rp.int .u64) [0] sv),(4,kB false)],[]⟩ (by kernel_rfl) rfl rfl rfl (by kernel_rfl) rfl Tryz.underlying54 rfl (zw _ _ _) (by kernel_rfl) (by kernel_rfl) (fun hx_=>?_) ?_
 ·replace h:=hn1.1 hx_;refine jT rfl (jp ?_);cases h;exact zt (zaJ ⟨[(2,kN)],[]⟩ (by kernel_rfl) (zdk 2 (.own (Rp.int .u64) 83 2 [] ([]:(List Int))) rfl (zbJ (Rp.int .u64) 83 2 [] rfl) lzz))
 replace h:=hn1.2;refine jF rfl ?_;obtain ⟨v,uZ,h⟩:=bnd h;refine jr (rc 0 rfl (zcr [] 12 [] ([]:(List Int)) rfl zpz rfl rfl rfl rfl) (ra 1 [.own (Rp.int .u64) 83 12 [] ([]:(List Int)),.sl (Rp.int .u64) [0] sv] rfl (zgx 12 [] rfl zpz.el rfl (zcI _ _ _ _ _) (zw _ _ _) uZ (.inl (zua _)) rfl) rfl rf)) ?_;obtain rfl:=(sj h);exact zt (lk [2] [] 12 2 lzz)
theorem zjk (h:zbU sv=some r):FnOk Tryz.prog 143 [.sl zd [0] sv] [.own zd 27 2 [0] r]:=by
 refine zu (E:=⟨[(2,.own zd 27 2 [0] r)],[]⟩) 8 Tryz.func143 rfl rfl rfl ⟨rfl,trivial⟩ (fun Xt=>?_);refine zj ?_;unfold zbU at h;refine jp ?_;have hn1:=zoo h;refine zqq 1 4 true ⟨[(0,.sl zd [0] sv),(3,.sl zd [0] sv)],[]⟩ ⟨[(0,.sl zd [0] sv),(4,kB true)],[]⟩ ⟨[(0,.sl zd [0] sv),(4,kB false)],[]⟩ (by kernel_rfl) rfl rfl rfl (by kernel_rfl) rfl Tryz.underlying55 rfl (zw _ _ _) (by kernel_rfl) (by kernel_rfl) (fun hx_=>?_) ?_
 ·replace h:=hn1.1 hx_;refine jT rfl (jp ?_);cases h;exact zt (zaJ ⟨[(2,kN)],[]⟩ (by kernel_rfl) (zdk 2 (.own zd 27 2 [0] ([]:(List zc))) rfl (zbJ zd 27 2 [0] rfl) lzz))
 replace h:=hn1.2;refine jF rfl ?_;obtain ⟨v,uZ,h⟩:=bnd h;refine jr (rc 0 rfl (zcr [] 12 [] ([]:(List zc)) rfl zkk rfl rfl rfl rfl) (ra 1 [.own zd 27 12 [] ([]:(List zc)),.sl zd [0] sv] rfl (zgx 12 [0] rfl zkk.el rfl (zcI _ _ _ _ _) (zw _ _ _) uZ (.inr rfl) rfl) rfl rf)) ?_;obtain rfl:=(sj h);exact zt (lk [2] [] 12 2 lzz)
theorem zrt (h:zhh x=some r):FnOk Tryz.prog 56 [.rc zd [0] x] [.om (Rp.int .i64) za 2 [0] r]:=by
 refine zu (E:=⟨[(2,.om (Rp.int .i64) za 2 [0] r)],[]⟩) 23 Tryz.func56 rfl rfl rfl ⟨rfl,trivial⟩ (fun Xt=>?_);refine zj ?_;unfold zhh at h;refine jr (ra 0 [.rc zd [0] x] rfl (zbL 13 [.sl za [0] x.Values,.sl Rp.str [0] x.Unknown] [0] rfl rfl rfl (by rw [zi]<;>rfl) rfl) rfl rf) (jr (ra 3 [kI (x.Values.length:Int)] rfl (zEm (rk:=(Rp.int .i64)) (rv:=za) 14 rfl Tryz.underlying105) rfl rf) (jp (zq ?_)));obtain ⟨q,uJ,h⟩:=bnd h;refine zW (fun s:((List (Int×zb))×Int)=>zbQ x s.1 s.2) (fun s=>⟨[(3,.om (Rp.int .i64) za 14 [0] s.1),(11,.sl za [0] x.Values),(12,kI (x.Values.length:Int)),(13,kI s.2)],[]⟩) (fun o e a w=>e= .exit 0/\Sx ⟨⟨23,[]⟩,Xt,false,#[]⟩ ⟨[(3,.om (Rp.int .i64) za 14 [0] o)],[]⟩ a w) ?_ uJ ?_ ?_
 ·clear h;intro s o h;obtain ⟨values,v⟩:=s;refine zj ?_;replace h:zbQ x values v=some o:=h;unfold zbQ at h;refine jp (jI h (fun uC h=>?_) fun uC h=>?_)
  ·refine zq ?_;obtain ⟨x2,uP,h⟩:=bnd h;refine jr (ra 0 [.sl za [0] x.Values,kI v] rfl (zP rfl zkj.el (zw _ _ _) uP) rfl (ra 0 [.ep za [0] x2 0] rfl (zcM rfl ⟨Tryz.isAgg57,Tryz.sizeOf57⟩) rfl (ral 1 [16] [.ptr 16 0,.rc za [0] x2] rfl (zio (r:=za) (b:=⟨16,57,[kI 0,kN,kN,kN]⟩) (off:=0) [kI x2.Number,.sl (Rp.int .u64) [0] x2.Words,.sl Rp.str [0] x2.Texts,.sl zd [0] x2.Subs] rfl Tryz.sizeOf57 rfl rfl (by rw [zk]<;>rfl) rfl) rfl rf))) (jr (rkl 4 [] ⟨[(3,.om (Rp.int .i64) za 14 [0] values),(11,.sl za [0] x.Values),(12,kI (x.Values.length:Int)),(13,kI v),(17,.om (Rp.int .i64) za 14 [0] values),(19,kI x2.Number),(20,.ag [kI x2.Number,.sl (Rp.int .u64) [0] x2.Words,.sl Rp.str [0] x2.Texts,.sl zd [0] x2.Subs])],[]⟩ (zfw (rk:=(Rp.int .i64)) (rv:=za) (m:=values) (C:=[0]) (C1:=[]) (D:=[0]) [3,17] x2.Number x2 [0] zsV rfl (.inl rfl) rfl rfl rfl rfl (zdK rfl rfl) (zBC (zT za [0] x2 [kI x2.Number,.sl (Rp.int .u64) [0] x2.Words,.sl Rp.str [0] x2.Texts,.sl zd [0] x2.Subs] (by rw [zk]<;>rfl) rfl) (zdD rfl)) (by kernel_rfl) rfl rf)) (zQ (jp ?_)));cases h;exact zD lzz
  cases h;exact zX rfl lzz
 ·exact zaJ ⟨[(3,.om (Rp.int .i64) za 14 [] ([]:(List (Int×zb)))),(11,.sl za [0] x.Values),(12,kI (x.Values.length:Int)),(13,kI 0)],[]⟩ (by kernel_rfl) (zdk 3 (.om (Rp.int .i64) za 14 [0] ([]:(List (Int×zb)))) rfl (zxU _ _ _ _ rfl rfl) lzz)
 refine zaj _ rfl (jp ?_);obtain rfl:=(sj h);exact zt (lk [2] [] 14 2 lzz)
theorem zkm (h:zcP n=some r):FnOk Tryz.prog 144 [kN,kI n] [.own (Rp.int .u64) 83 2 [] r]:=by
 refine zu (E:=⟨[(4,.own (Rp.int .u64) 83 2 [] r)],[]⟩) 27 Tryz.func144 rfl rfl rfl ⟨rfl,trivial⟩ (fun Xt=>?_);refine zj ?_;unfold zcP at h;refine jp (jp (jI h (fun uC h=>?_) fun uC h=>?_))
 · exact absurd h nofun
 refine jr (ra 2 [kN] rfl (zlS rfl Tryz.underlying54) rfl rf) (jp (jI h (fun uD h=>?_) fun uD h=>?_))
 ·obtain ⟨v,uZ,h⟩:=bnd h;obtain ⟨v2,vd,h⟩:=bnd h;refine jr (ra 2 [kN] rfl (zlS rfl Tryz.underlying54) rfl (ra 0 [kN,kI 0] rfl (ztQ rfl zpz.el) rfl (ra 1 [kN,kI (IntKind.i64.wrap (n - (IntKind.i64.wrap (0 - 0))))] rfl (zzb 12 rfl Tryz.underlying3 zpz rfl uZ) rfl (ra 2 [.own (Rp.int .u64) 83 12 [] v,kI 0] rfl (zzc rfl zpz.el vd) rfl rf)))) (jp ?_);obtain rfl:=(sj h);exact zt (lk [4] [] 12 2 lzz)
 refine jp ?_;cases h;exact zt (zaJ ⟨[(4,kN)],[]⟩ (by kernel_rfl) (zdk 4 (.own (Rp.int .u64) 83 2 [] ([]:(List Int))) rfl (zbJ (Rp.int .u64) 83 2 [] rfl) lzz))
theorem zkl (h:zcO n=some r):FnOk Tryz.prog 116 [kN,kI n] [.own Rp.str 9 2 [] r]:=by
 refine zu (E:=⟨[(4,.own Rp.str 9 2 [] r)],[]⟩) 27 Tryz.func116 rfl rfl rfl ⟨rfl,trivial⟩ (fun Xt=>?_);refine zj ?_;unfold zcO at h;refine jp (jp (jI h (fun uC h=>?_) fun uC h=>?_))
 · exact absurd h nofun
 refine jr (ra 2 [kN] rfl (zlS rfl Tryz.underlying25) rfl rf) (jp (jI h (fun uD h=>?_) fun uD h=>?_))
 ·obtain ⟨v,uZ,h⟩:=bnd h;obtain ⟨v2,vd,h⟩:=bnd h;refine jr (ra 2 [kN] rfl (zlS rfl Tryz.underlying25) rfl (ra 0 [kN,kI 0] rfl (ztQ rfl zjA.el) rfl (ra 1 [kN,kI (IntKind.i64.wrap (n - (IntKind.i64.wrap (0 - 0))))] rfl (zzb 12 rfl Tryz.underlying3 zjA rfl uZ) rfl (ra 2 [.own Rp.str 9 12 [] v,kI 0] rfl (zzc rfl zjA.el vd) rfl rf)))) (jp ?_);obtain rfl:=(sj h);exact zt (lk [4] [] 12 2 lzz)
 refine jp ?_;cases h;exact zt (zaJ ⟨[(4,kN)],[]⟩ (by kernel_rfl) (zdk 4 (.own Rp.str 9 2 [] ([]:(List Str))) rfl (zbJ Rp.str 9 2 [] rfl) lzz))
theorem zju (h:zcf n=some r):FnOk Tryz.prog 145 [kN,kI n] [.own zd 27 2 [] r]:=by
 refine zu (E:=⟨[(4,.own zd 27 2 [] r)],[]⟩) 27 Tryz.func145 rfl rfl rfl ⟨rfl,trivial⟩ (fun Xt=>?_);refine zj ?_;unfold zcf at h;refine jp (jp (jI h (fun uC h=>?_) fun uC h=>?_))
 · exact absurd h nofun
 refine jr (ra 2 [kN] rfl (zlS rfl Tryz.underlying55) rfl rf) (jp (jI h (fun uD h=>?_) fun uD h=>?_))
 ·obtain ⟨v,uZ,h⟩:=bnd h;obtain ⟨v2,vd,h⟩:=bnd h;refine jr (ra 2 [kN] rfl (zlS rfl Tryz.underlying55) rfl (ra 0 [kN,kI 0] rfl (ztQ rfl zkk.el) rfl (ra 1 [kN,kI (IntKind.i64.wrap (n - (IntKind.i64.wrap (0 - 0))))] rfl (zzb 12 rfl Tryz.underlying3 zkk rfl uZ) rfl (ra 2 [.own zd 27 12 [] v,kI 0] rfl (zzc rfl zkk.el vd) rfl rf)))) (jp ?_);obtain rfl:=(sj h);exact zt (lk [4] [] 12 2 lzz)
 refine jp ?_;cases h;exact zt (zaJ ⟨[(4,kN)],[]⟩ (by kernel_rfl) (zdk 4 (.own zd 27 2 [] ([]:(List zc))) rfl (zbJ zd 27 2 [] rfl) lzz))
theorem zrR (h:zhU values=some r):FnOk Tryz.prog 81 [.mp (Rp.int .i64) za [0] values] [.own za 57 2 [3,0] r]:=by
 refine zu (E:=⟨[(2,.own za 57 2 [3,0] r)],[]⟩) 25 Tryz.func81 rfl rfl rfl ⟨rfl,trivial⟩ (fun Xt=>?_);refine zj ?_;unfold zhU at h;refine jp ?_;obtain ⟨v,uZ,h⟩:=bnd h;refine jr (ra 1 [.mp (Rp.int .i64) za [0] values] rfl (zDr (rk:=(Rp.int .i64)) (rv:=za) (m:=values) rfl Tryz.underlying105 (zsN _ _ _ _)) rfl (ra 0 [kI 0,kI (values.length:Int)] rfl (zDo 14 rfl zkj rfl uZ) rfl rf)) ?_;obtain ⟨v2,vd,h⟩:=bnd h;refine jr (rkl 1 [] ⟨[(0,.mp (Rp.int .i64) za [0] values),(3,.own za 57 14 [] v),(9,.mp (Rp.int .i64) za [0] values)],[]⟩ (zAZ (rv:=za) (m:=values) 15 zEC rfl rfl rfl rfl rfl rfl Tryz.call115 Tryz.call114 rfl (zsN _ _ _ _) vd rfl rf)) (zq ?_);obtain ⟨q,uJ,h⟩:=bnd h;refine zW (fun s:((List zb)×Int)=>zcj v2 values s.1 s.2) (fun s=>⟨[(0,.mp (Rp.int .i64) za [0] values),(3,.own za 57 14 [16,0] s.1),(11,.own (Rp.int .i64) 3 15 [] v2),(12,kI (v2.length:Int)),(13,kI s.2)],[]⟩) (fun o e a w=>e= .exit 0/\Sx ⟨⟨25,[]⟩,Xt,false,#[]⟩ ⟨[(3,.own za 57 14 [16,0] o)],[]⟩ a w) ?_ uJ ?_ ?_
 ·clear h;intro s o h;obtain ⟨l,v3⟩:=s;refine zj ?_;replace h:zcj v2 values l v3=some o:=h;unfold zcj at h;refine jp (jI h (fun uC h=>?_) fun uC h=>?_)
  ·refine zq ?_;obtain ⟨x,uM,h⟩:=bnd h;refine jr (ra 0 [.own (Rp.int .i64) 3 15 [] v2,kI v3] rfl (zP rfl zhz.el (zet _ _ _ _ _) uM) rfl rf) ?_;obtain ⟨v4,vq,h⟩:=bnd h;refine jr (ra 3 [.mp (Rp.int .i64) za [0] values,kI x] rfl (zDp (rk:=(Rp.int .i64)) (rv:=za) (m:=values) (k:=x) (.rc za [0] ((mget values x).getD (⟨0,[],[],[]⟩:zb))) rfl zsV (zsN _ _ _ _) (zdK rfl rfl) (zyI rfl)) rfl (rc 0 rfl (zcr [.rc za [0] ((mget values x).getD (⟨0,[],[],[]⟩:zb))] 19 [0] ([((mget values x).getD (⟨0,[],[],[]⟩:zb))]:(List zb)) rfl zkj rfl rfl rfl (by simp only [zjZ,zfT,zgz,zk,xS,yw]<;>rfl)) (ra 0 [.own za 57 14 [16,0] l,.own za 57 19 [0] ([((mget values x).getD (⟨0,[],[],[]⟩:zb))]:(List zb))] rfl (zgx 14 [16,0,19] rfl zkj.el rfl (zcI _ _ _ _ _) (zet _ _ _ _ _) vq (.inr rfl) rfl) rfl rf))) (zQ (jp ?_));cases h;exact zD (lk [0,3,11,12,13] [] 19 16 (zaJ ⟨[(0,.mp (Rp.int .i64) za [0] values),(3,.own za 57 14 [16,0,16] v4),(11,.own (Rp.int .i64) 3 15 [] v2),(12,kI (v2.length:Int)),(13,kI (IntKind.i64.wrap (v3+1)))],[]⟩ (by kernel_rfl) (zdk 3 (.own za 57 14 [16,0] v4) rfl (zdM _ _ _ _ _ _ rfl rfl) lzz)))
  cases h;exact zX rfl lzz
 ·exact zaJ ⟨[(0,.mp (Rp.int .i64) za [0] values),(3,.own za 57 14 [] v),(11,.own (Rp.int .i64) 3 15 [] v2),(12,kI (v2.length:Int)),(13,kI 0)],[]⟩ (by kernel_rfl) (zdk 3 (.own za 57 14 [16,0] v) rfl (zdM _ _ _ _ _ _ rfl rfl) lzz)
 refine zaj _ rfl (jp ?_);obtain rfl:=(sj h);exact zt (lk [2] [] 14 2 (lk [2] [] 16 3 lzz))
theorem zrx (h:zhm sv=some r):FnOk Tryz.prog 8 [.sl zh [0] sv] [kB r]:=by
 refine zu (E:=⟨[(2,kB r)],[]⟩) 54 Tryz.func8 rfl rfl rfl ⟨rfl,trivial⟩ (fun Xt=>?_);refine zj ?_;unfold zhm at h;refine jp (jp (jp (zq ?_)));obtain ⟨q2,u0,h⟩:=bnd h;refine zW (fun s:(Int×Int)=>zbR sv s.1 s.2) (fun s=>⟨[(0,.sl zh [0] sv),(3,kI s.1),(4,kI s.2)],[]⟩) (fun o e a w=>e= .exit 0/\Sx ⟨⟨54,[]⟩,Xt,false,#[]⟩ ⟨[(3,kI o)],[]⟩ a w) ?_ u0 lzz ?_
 ·clear h;intro s o h;obtain ⟨n,i⟩:=s;refine zj ?_;replace h:zbR sv n i=some o:=h;unfold zbR at h;refine jp (jI h (fun uC h=>?_) fun uC h=>?_)
  ·refine zq ?_;obtain ⟨x,uM,h⟩:=bnd h;obtain ⟨x2,uP,h⟩:=bnd h;refine jd [0,3,4] [] zbq (by exact (lw_e (lw_e (lw_e (lw_e (ly [.sl zh [0] sv,kI i] (zP rfl ziM.el (zw _ _ _) uM) rfl (lw_e (lw_e (lw_e (lw_e (lw_e (lw_e (lw_e (ly [.sl zh [0] sv,kI i] (zP rfl ziM.el (zw _ _ _) uP) rfl (lw_e (ly [.ep zh [0] x2 1] (zbv zf x2.Fields rfl rfl rfl) rfl l0)))))))))))))))) (jp (zq ?_));obtain ⟨q,uJ,h⟩:=bnd h;refine zW (fun s:(Int×Int)=>zbS i sv s.1 s.2) (fun s=>⟨[(0,.sl zh [0] sv),(3,kI s.1),(4,kI i),(5,kI s.2)],[]⟩) (fun o e a w=>e= .exit 2/\Sx ⟨⟨54,[]⟩,Xt,false,#[]⟩ ⟨[(0,.sl zh [0] sv),(3,kI o),(4,kI i)],[]⟩ a w) ?_ uJ lzz ?_
   ·clear h;intro s o h;obtain ⟨n3,k⟩:=s;refine zj ?_;replace h:zbS i sv n3 k=some o:=h;unfold zbS at h;obtain ⟨x3,uW,h⟩:=bnd h;refine jr (ra 3 [.sl zh [0] sv,kI i] rfl (zP rfl ziM.el (zw _ _ _) uW) rfl (ra 1 [.ep zh [0] x3 1] rfl (zbv zf x3.Fields rfl rfl rfl) rfl rf)) (jI h (fun uD h=>?_) fun uD h=>?_)
    ·refine zq ?_;obtain ⟨x4,va,h⟩:=bnd h;obtain ⟨x5,vi,h⟩:=bnd h;refine jr (ra 3 [.sl zh [0] sv,kI i] rfl (zP rfl ziM.el (zw _ _ _) va) rfl (ra 1 [.ep zh [0] x4 1] rfl (zbv zf x4.Fields rfl rfl rfl) rfl (ra 1 [.sl zf [0] x4.Fields,kI k] rfl (zP rfl zoF.el (zw _ _ _) vi) rfl rf))) (zQ (jp ?_));cases h;exact zD lzz
    cases h;exact zX rfl lzz
   refine zaj _ rfl (zQ (jp ?_));cases h;exact zD lzz
  cases h;exact zX rfl lzz
 refine zaj _ rfl (jp ?_);cases h;exact zt lzz
theorem zpB (vV:∀{x:zc} {deep:Int} {r:Int},xg x deep=some r->FnOk Tryz.prog 35 [.rc zd [0] x,kI deep] [kI r]) (vW:∀{v:zb} {deep:Int} {r:Int},xh v deep=some r->FnOk Tryz.prog 74 [.rc za [0] v,kI deep] [kI r]) (h:zfJ xg xh x deep=some r):FnOk Tryz.prog 35 [.rc zd [0] x,kI deep] [kI r]:=by
 refine zu (E:=⟨[(4,kI r)],[]⟩) 45 Tryz.func35 rfl rfl rfl ⟨rfl,trivial⟩ (fun Xt=>?_);refine zj ?_;unfold zfJ at h;refine jr (ra 0 [.rc zd [0] x] rfl (zbL 11 [.sl za [0] x.Values,.sl Rp.str [0] x.Unknown] [0] rfl rfl rfl (by rw [zi]<;>rfl) rfl) rfl rf) (jp (jI h (fun uC h=>?_) fun uC h=>?_))
 ·refine jp ?_;cases h;exact zt lzz
 refine jp (jp (zq ?_));obtain ⟨q,uJ,h⟩:=bnd h;refine zW (fun s:(Int×Int)=>zby x s.1 s.2) (fun s=>⟨[(1,kI deep),(2,.ptr 11 0),(5,kI s.1),(6,kI s.2)],[⟨11,27,[.sl za [0] x.Values,.sl Rp.str [0] x.Unknown]⟩]⟩) (fun o e a w=>e= .exit 0/\Sx ⟨⟨45,[]⟩,Xt,false,#[]⟩ ⟨[(1,kI deep),(2,.ptr 11 0),(5,kI o)],[⟨11,27,[.sl za [0] x.Values,.sl Rp.str [0] x.Unknown]⟩]⟩ a w) ?_ uJ lzz ?_
 ·clear h;intro s o h;obtain ⟨n,i⟩:=s;refine zj ?_;replace h:zby x n i=some o:=h;unfold zby at h;refine jp (jI h (fun uD h=>?_) fun uD h=>?_)
  ·refine zq ?_;obtain ⟨x2,uP,h⟩:=bnd h;refine jr (ra 5 [.sl Rp.str [0] x.Unknown,kI i] rfl (zP rfl zjA.el (zw _ _ _) uP) rfl rf) (zQ (jp ?_));cases h;exact zD lzz
  cases h;exact zX rfl lzz
 refine zaj _ rfl (jp (zq ?_));obtain ⟨q2,u0,h⟩:=bnd h;refine zW (fun s:(Int×Int)=>zbb deep xh x s.1 s.2) (fun s=>⟨[(1,kI deep),(2,.ptr 11 0),(5,kI s.1),(7,kI s.2)],[⟨11,27,[.sl za [0] x.Values,.sl Rp.str [0] x.Unknown]⟩]⟩) (fun o e a w=>match o with| (.inl v_)=>e= .exit 2/\Sx ⟨⟨45,[]⟩,Xt,false,#[]⟩ ⟨[(5,kI v_)],[]⟩ a w| (.inr v_)=>e= .ret/\Sx ⟨⟨45,[]⟩,Xt,false,#[]⟩ ⟨[(4,kI 5000)],[]⟩ a w) ?_ u0 lzz ?_
 ·clear h;intro s o h;obtain ⟨n3,i2⟩:=s;refine zj ?_;replace h:zbb deep xh x n3 i2=some o:=h;unfold zbb at h;refine jp (jI h (fun uE h=>?_) fun uE h=>?_)
  ·refine zq ?_;obtain ⟨x3,uW,h⟩:=bnd h;obtain ⟨rv,uF,h⟩:=bnd h;refine jr (ra 4 [.sl za [0] x.Values,kI i2] rfl (zP rfl zkj.el (zw _ _ _) uW) rfl (ra 0 [.ep za [0] x3 0] rfl (zcM rfl ⟨Tryz.isAgg57,Tryz.sizeOf57⟩) rfl (rl 1 [0] 12 Tryz.call74 (vW uF) rf))) (jp (jI h (fun uI h=>?_) fun uI h=>?_))
   ·refine jp ?_;cases h;exact zaK lzz
   refine zQ (jp ?_);cases h;exact zD lzz
  cases h;exact zX rfl lzz
 rcases q2 with u| u2
 ·refine zaj _ rfl (jp ?_);obtain rfl:=(sj h);exact zt lzz
 cases h;exact zcN lzz
theorem zmf (vV:∀{x:zc} {deep:Int} {r:Int},xg x deep=some r->FnOk Tryz.prog 35 [.rc zd [0] x,kI deep] [kI r]) (vW:∀{v:zb} {deep:Int} {r:Int},xh v deep=some r->FnOk Tryz.prog 74 [.rc za [0] v,kI deep] [kI r]) (h:zdE xg xh v deep=some r):FnOk Tryz.prog 74 [.rc za [0] v,kI deep] [kI r]:=by
 refine zu (E:=⟨[(4,kI r)],[]⟩) 48 Tryz.func74 rfl rfl rfl ⟨rfl,trivial⟩ (fun Xt=>?_);refine zj ?_;unfold zdE at h;refine jr (ra 0 [.rc za [0] v] rfl (zbL 11 [kI v.Number,.sl (Rp.int .u64) [0] v.Words,.sl Rp.str [0] v.Texts,.sl zd [0] v.Subs] [0] rfl rfl rfl (by rw [zk]<;>rfl) rfl) rfl rf) (jp (jp (zq ?_)));obtain ⟨q,uJ,h⟩:=bnd h;refine zW (fun s:(Int×Int)=>zaA v s.1 s.2) (fun s=>⟨[(1,kI deep),(2,.ptr 11 0),(5,kI s.1),(6,kI s.2)],[⟨11,57,[kI v.Number,.sl (Rp.int .u64) [0] v.Words,.sl Rp.str [0] v.Texts,.sl zd [0] v.Subs]⟩]⟩) (fun o e a w=>e= .exit 0/\Sx ⟨⟨48,[]⟩,Xt,false,#[]⟩ ⟨[(1,kI deep),(2,.ptr 11 0),(5,kI o)],[⟨11,57,[kI v.Number,.sl (Rp.int .u64) [0] v.Words,.sl Rp.str [0] v.Texts,.sl zd [0] v.Subs]⟩]⟩ a w) ?_ uJ lzz ?_
 ·clear h;intro s o h;obtain ⟨n,k⟩:=s;refine zj ?_;replace h:zaA v n k=some o:=h;unfold zaA at h;refine jp (jI h (fun uC h=>?_) fun uC h=>?_)
  ·refine zq ?_;obtain ⟨x,uM,h⟩:=bnd h;refine jr (ra 5 [.sl Rp.str [0] v.Texts,kI k] rfl (zP rfl zjA.el (zw _ _ _) uM) rfl rf) (zQ (jp ?_));cases h;exact zD lzz
  cases h;exact zX rfl lzz
 refine zaj _ rfl (jp (zq ?_));obtain ⟨q2,u0,h⟩:=bnd h;refine zW (fun s:(Int×Int)=>zap deep xg v s.1 s.2) (fun s=>⟨[(1,kI deep),(2,.ptr 11 0),(5,kI s.1),(7,kI s.2)],[⟨11,57,[kI v.Number,.sl (Rp.int .u64) [0] v.Words,.sl Rp.str [0] v.Texts,.sl zd [0] v.Subs]⟩]⟩) (fun o e a w=>match o with| (.inl v_)=>e= .exit 2/\Sx ⟨⟨48,[]⟩,Xt,false,#[]⟩ ⟨[(5,kI v_)],[]⟩ a w| (.inr v_)=>e= .ret/\Sx ⟨⟨48,[]⟩,Xt,false,#[]⟩ ⟨[(4,kI 5000)],[]⟩ a w) ?_ u0 lzz ?_
 ·clear h;intro s o h;obtain ⟨n3,k2⟩:=s;refine zj ?_;replace h:zap deep xg v n3 k2=some o:=h;unfold zap at h;refine jp (jI h (fun uD h=>?_) fun uD h=>?_)
  ·refine zq ?_;obtain ⟨x2,uP,h⟩:=bnd h;obtain ⟨rv,uF,h⟩:=bnd h;refine jr (ra 4 [.sl zd [0] v.Subs,kI k2] rfl (zP rfl zkk.el (zw _ _ _) uP) rfl (ra 0 [.ep zd [0] x2 0] rfl (zcM rfl ⟨Tryz.isAgg27,Tryz.sizeOf27⟩) rfl (rl 2 [0] 12 Tryz.call35 (vV uF) rf))) (jp (jI h (fun uE h=>?_) fun uE h=>?_))
   ·refine jp ?_;cases h;exact zaK lzz
   refine zQ (jp ?_);cases h;exact zD lzz
  cases h;exact zX rfl lzz
 rcases q2 with u| u2
 ·refine zaj _ rfl (jp ?_);obtain rfl:=(sj h);exact zt lzz
 cases h;exact zcN lzz
theorem zgH (uO:Nat):(∀{x:zc} {deep:Int} {r:Int},zcd uO x deep=some r->FnOk Tryz.prog 35 [.rc zd [0] x,kI deep] [kI r])/\(∀{v:zb} {deep:Int} {r:Int},zbu uO v deep=some r->FnOk Tryz.prog 74 [.rc za [0] v,kI deep] [kI r]):=by
  induction uO with
  | zero=>exact ⟨fun h=>absurd h nofun,fun h=>absurd h nofun⟩
  | succ uO ih=>exact ⟨fun h=>zpB (fun hh=>ih.1 hh) (fun hh=>ih.2 hh) h,fun h=>zmf (fun hh=>ih.1 hh) (fun hh=>ih.2 hh) h⟩
theorem zqf (h:zcd uO x deep=some r):FnOk Tryz.prog 35 [.rc zd [0] x,kI deep] [kI r]:=(zgH uO).1 h
theorem zry (vX:∀{x:zc} {r:zc},xi x=some r->FnOk Tryz.prog 10 [.rc zd [0] x] [.ag [.own za 59 3 [4,0] r.Values,.own Rp.str 9 5 [] r.Unknown]]) (vY:∀{v:zb} {r:zb},xj v=some r->FnOk Tryz.prog 22 [.rc za [0] v] [.ag [kI r.Number,.sl (Rp.int .u64) [0] r.Words,.sl Rp.str [0] r.Texts,.own zd 33 3 [4,0] r.Subs]]) (h:zgG xi xj x=some r):FnOk Tryz.prog 10 [.rc zd [0] x] [.ag [.own za 59 3 [4,0] r.Values,.own Rp.str 9 5 [] r.Unknown]]:=by
 refine zu (E:=⟨[(2,.ptr 2 0)],[⟨2,33,[.own za 59 3 [4,0] r.Values,.own Rp.str 9 5 [] r.Unknown]⟩]⟩) 29 Tryz.func10 rfl rfl rfl ⟨⟨_,_,rfl,rfl,rfl,⟨Tryz.isAgg33,Tryz.sizeOf33⟩⟩,trivial⟩ (fun Xt=>?_);refine zj ?_;unfold zgG at h;refine jr (ra 0 [.rc zd [0] x] rfl (zbL 21 [.sl za [0] x.Values,.sl Rp.str [0] x.Unknown] [0] rfl rfl rfl (by rw [zi]<;>rfl) rfl) rfl (rfl' [22])) ?_;obtain ⟨v,uZ,h⟩:=bnd h;refine jr (rc 0 rfl (zcr [] 23 [] ([]:(List Str)) rfl zjA rfl rfl rfl rfl) (ra 2 [.own Rp.str 9 23 [] ([]:(List Str)),.sl Rp.str [0] x.Unknown] rfl (zgx 23 [] rfl zjA.el rfl (zcI _ _ _ _ _) (zw _ _ _) uZ (.inl zub) rfl) rfl (ra 0 [.own Rp.str 9 23 [] v] rfl (zcs [.own Rp.str 9 23 [] v] [kN,.own Rp.str 9 23 [] v] rfl zDD rfl) rfl (rfl' [24])))) (jp (zq ?_));obtain ⟨q,uJ,h⟩:=bnd h;refine zW (fun s:(Int×(List zb))=>zck xj x s.1 s.2) (fun s=>⟨[(1,.ptr 21 0),(2,.ptr 22 0),(3,.ptr 24 0),(4,kI s.1)],[⟨21,27,[.sl za [0] x.Values,.sl Rp.str [0] x.Unknown]⟩,⟨22,33,[kN,kN]⟩,⟨24,33,[.own za 59 30 [25,0] s.2,.own Rp.str 9 23 [] v]⟩]⟩) (fun o e a w=>e= .exit 0/\Sx ⟨⟨29,[]⟩,Xt,false,#[]⟩ ⟨[(2,.ptr 22 0),(3,.ptr 24 0)],[⟨22,33,[kN,kN]⟩,⟨24,33,[.own za 59 30 [25,0] o,.own Rp.str 9 23 [] v]⟩]⟩ a w) ?_ uJ ?_ ?_
 ·clear h;intro s o h;obtain ⟨i,f⟩:=s;refine zj ?_;replace h:zck xj x i f=some o:=h;unfold zck at h;refine jp (jI h (fun uC h=>?_) fun uC h=>?_)
  ·refine zq ?_;obtain ⟨x2,uP,h⟩:=bnd h;obtain ⟨rv,uF,h⟩:=bnd h;obtain ⟨v2,vd,h⟩:=bnd h;refine jd [1,2,3,4] [21,22,24] zbq (by exact (lw_e (lw_e (lw_e (lw_e (lw_e (ly [.sl za [0] x.Values,kI i] (zP rfl zkj.el (zw _ _ _) uP) rfl (ly [.ep za [0] x2 0] (zcM rfl ⟨Tryz.isAgg57,Tryz.sizeOf57⟩) rfl (lx (lf1 22 (zR [.rc za [0] x2] [0] 33 rfl Tryz.call22 (vY uF) rfl rfl rfl rfl rfl)) (lx (zx.le (ins':=[(.tmp 24,.ag [kI rv.Number,.sl (Rp.int .u64) [0] rv.Words,.sl Rp.str [0] rv.Texts,.own zd 33 36 [37,0] rv.Subs])]) (zcr [.rc za [0,36,37] rv] 38 [0,36,37] ([rv]:(List zb)) rfl zlF rfl rfl rfl (by simp only [zjZ,zfT,zgz,zk,xS,yw]<;>rfl)) ⟨⟨rfl,zT za [0,36,37] rv [kI rv.Number,.sl (Rp.int .u64) [0] rv.Words,.sl Rp.str [0] rv.Texts,.own zd 33 36 [37,0] rv.Subs] (by rw [zk]<;>rfl) rfl⟩,trivial⟩) (ly [.own za 59 30 [25,0] f,.own za 59 38 [0,36,37] ([rv]:(List zb))] (zx.withBx (zgx 30 [25,0,38,36,37] rfl zlF.el rfl (zcI _ _ _ _ _) (zet _ _ _ _ _) vd (.inr rfl) rfl) ⟨24,33,[.own za 59 30 [25,0] f,.own Rp.str 9 23 [] v]⟩ rfl rfl) rfl (lw_e (ly [.ptr 24 0,.own za 59 30 [25,0,38,36,37] v2] (zwe (b:=⟨24,33,[.any,.own Rp.str 9 23 [] v]⟩) (off:=0) rfl Tryz.sizeOf31 rfl rfl rfl) rfl l0))))))))))))) (zQ (jp ?_));cases h;exact zD (lk [1,2,3,4] [21,22,24] 38 25 (lk [1,2,3,4] [21,22,24] 36 25 (lk [1,2,3,4] [21,22,24] 37 25 (zaJ ⟨[(1,.ptr 21 0),(2,.ptr 22 0),(3,.ptr 24 0),(4,kI (IntKind.i64.wrap (i+1)))],[⟨21,27,[.sl za [0] x.Values,.sl Rp.str [0] x.Unknown]⟩,⟨22,33,[kN,kN]⟩,⟨24,33,[.own za 59 30 [25,0,25,25,25] v2,.own Rp.str 9 23 [] v]⟩]⟩ (by kernel_rfl) (zcU 24 0 (.own za 59 30 [25,0] v2) rfl rfl (zdM _ _ _ _ _ _ rfl rfl) lzz)))))
  cases h;exact zX rfl lzz
 ·exact zaJ ⟨[(1,.ptr 21 0),(2,.ptr 22 0),(3,.ptr 24 0),(4,kI 0)],[⟨21,27,[.sl za [0] x.Values,.sl Rp.str [0] x.Unknown]⟩,⟨22,33,[kN,kN]⟩,⟨24,33,[kN,.own Rp.str 9 23 [] v]⟩]⟩ (by kernel_rfl) (zcU 24 0 (.own za 59 30 [25,0] []) rfl rfl (zbJ za 59 30 [25,0] rfl) lzz)
 refine zaj _ rfl (jp ?_);cases h;exact zt (lk [2] [22] 22 2 (lk [2] [2] 30 3 (lk [2] [2] 23 5 (lk [2] [2] 25 4 lzz))))
theorem znr (vX:∀{x:zc} {r:zc},xi x=some r->FnOk Tryz.prog 10 [.rc zd [0] x] [.ag [.own za 59 3 [4,0] r.Values,.own Rp.str 9 5 [] r.Unknown]]) (vY:∀{v:zb} {r:zb},xj v=some r->FnOk Tryz.prog 22 [.rc za [0] v] [.ag [kI r.Number,.sl (Rp.int .u64) [0] r.Words,.sl Rp.str [0] r.Texts,.own zd 33 3 [4,0] r.Subs]]) (h:zeq xi xj v=some r):FnOk Tryz.prog 22 [.rc za [0] v] [.ag [kI r.Number,.sl (Rp.int .u64) [0] r.Words,.sl Rp.str [0] r.Texts,.own zd 33 3 [4,0] r.Subs]]:=by
 refine zu (E:=⟨[(2,.ptr 2 0)],[⟨2,59,[kI r.Number,.sl (Rp.int .u64) [0] r.Words,.sl Rp.str [0] r.Texts,.own zd 33 3 [4,0] r.Subs]⟩]⟩) 31 Tryz.func22 rfl rfl rfl ⟨⟨_,_,rfl,rfl,rfl,⟨Tryz.isAgg59,Tryz.sizeOf59⟩⟩,trivial⟩ (fun Xt=>?_);refine zj ?_;unfold zeq at h;refine jr (ra 0 [.rc za [0] v] rfl (zbL 21 [kI v.Number,.sl (Rp.int .u64) [0] v.Words,.sl Rp.str [0] v.Texts,.sl zd [0] v.Subs] [0] rfl rfl rfl (by rw [zk]<;>rfl) rfl) rfl (rfl' [22])) (jr (ra 6 [kI v.Number,.sl (Rp.int .u64) [0] v.Words,.sl Rp.str [0] v.Texts] rfl (zcs [kI v.Number,.sl (Rp.int .u64) [0] v.Words,.sl Rp.str [0] v.Texts] [kI v.Number,.sl (Rp.int .u64) [0] v.Words,.sl Rp.str [0] v.Texts,kN] rfl zIr rfl) rfl (rfl' [23])) (jp (zq ?_)));obtain ⟨q,uJ,h⟩:=bnd h;refine zW (fun s:(Int×(List zc))=>zaH xi v s.1 s.2) (fun s=>⟨[(1,.ptr 21 0),(2,.ptr 22 0),(3,.ptr 23 0),(4,kI s.1)],[⟨21,57,[kI v.Number,.sl (Rp.int .u64) [0] v.Words,.sl Rp.str [0] v.Texts,.sl zd [0] v.Subs]⟩,⟨22,59,[kI 0,kN,kN,kN]⟩,⟨23,59,[kI v.Number,.sl (Rp.int .u64) [0] v.Words,.sl Rp.str [0] v.Texts,.own zd 33 30 [24,0] s.2]⟩]⟩) (fun o e a w=>e= .exit 0/\Sx ⟨⟨31,[]⟩,Xt,false,#[]⟩ ⟨[(2,.ptr 22 0),(3,.ptr 23 0)],[⟨22,59,[kI 0,kN,kN,kN]⟩,⟨23,59,[kI v.Number,.sl (Rp.int .u64) [0] v.Words,.sl Rp.str [0] v.Texts,.own zd 33 30 [24,0] o]⟩]⟩ a w) ?_ uJ ?_ ?_
 ·clear h;intro s o h;obtain ⟨i,f⟩:=s;refine zj ?_;replace h:zaH xi v i f=some o:=h;unfold zaH at h;refine jp (jI h (fun uC h=>?_) fun uC h=>?_)
  ·refine zq ?_;obtain ⟨x,uM,h⟩:=bnd h;obtain ⟨rv,uF,h⟩:=bnd h;obtain ⟨v2,vd,h⟩:=bnd h;refine jd [1,2,3,4] [21,22,23] zbq (by exact (lw_e (lw_e (lw_e (lw_e (lw_e (ly [.sl zd [0] v.Subs,kI i] (zP rfl zkk.el (zw _ _ _) uM) rfl (ly [.ep zd [0] x 0] (zcM rfl ⟨Tryz.isAgg27,Tryz.sizeOf27⟩) rfl (lx (lf1 10 (zR [.rc zd [0] x] [0] 34 rfl Tryz.call10 (vX uF) rfl rfl rfl rfl rfl)) (lx (zx.le (ins':=[(.tmp 26,.ag [.own za 59 37 [38,0] rv.Values,.own Rp.str 9 39 [] rv.Unknown])]) (zcr [.rc zd [37,38,0,39] rv] 40 [37,38,0,39] ([rv]:(List zc)) rfl ztB rfl rfl rfl (by simp only [zjZ,zfT,zgz,zi,xS,yw]<;>rfl)) ⟨⟨rfl,zT zd [37,38,0,39] rv [.own za 59 37 [38,0] rv.Values,.own Rp.str 9 39 [] rv.Unknown] (by rw [zi]<;>rfl) rfl⟩,trivial⟩) (ly [.own zd 33 30 [24,0] f,.own zd 33 40 [37,38,0,39] ([rv]:(List zc))] (zx.withBx (zgx 30 [24,0,40,37,38,39] rfl ztB.el rfl (zcI _ _ _ _ _) (zet _ _ _ _ _) vd (.inr rfl) rfl) ⟨23,59,[kI v.Number,.sl (Rp.int .u64) [0] v.Words,.sl Rp.str [0] v.Texts,.own zd 33 30 [24,0] f]⟩ rfl rfl) rfl (lw_e (ly [.ptr 23 3,.own zd 33 30 [24,0,40,37,38,39] v2] (zwe (b:=⟨23,59,[kI v.Number,.sl (Rp.int .u64) [0] v.Words,.sl Rp.str [0] v.Texts,.any]⟩) (off:=3) rfl Tryz.sizeOf40 rfl rfl rfl) rfl l0))))))))))))) (zQ (jp ?_));cases h;exact zD (lk [1,2,3,4] [21,22,23] 40 24 (lk [1,2,3,4] [21,22,23] 37 24 (lk [1,2,3,4] [21,22,23] 38 24 (lk [1,2,3,4] [21,22,23] 39 24 (zaJ ⟨[(1,.ptr 21 0),(2,.ptr 22 0),(3,.ptr 23 0),(4,kI (IntKind.i64.wrap (i+1)))],[⟨21,57,[kI v.Number,.sl (Rp.int .u64) [0] v.Words,.sl Rp.str [0] v.Texts,.sl zd [0] v.Subs]⟩,⟨22,59,[kI 0,kN,kN,kN]⟩,⟨23,59,[kI v.Number,.sl (Rp.int .u64) [0] v.Words,.sl Rp.str [0] v.Texts,.own zd 33 30 [24,0,24,24,24,24] v2]⟩]⟩ (by kernel_rfl) (zcU 23 3 (.own zd 33 30 [24,0] v2) rfl rfl (zdM _ _ _ _ _ _ rfl rfl) lzz))))))
  cases h;exact zX rfl lzz
 ·exact zaJ ⟨[(1,.ptr 21 0),(2,.ptr 22 0),(3,.ptr 23 0),(4,kI 0)],[⟨21,57,[kI v.Number,.sl (Rp.int .u64) [0] v.Words,.sl Rp.str [0] v.Texts,.sl zd [0] v.Subs]⟩,⟨22,59,[kI 0,kN,kN,kN]⟩,⟨23,59,[kI v.Number,.sl (Rp.int .u64) [0] v.Words,.sl Rp.str [0] v.Texts,kN]⟩]⟩ (by kernel_rfl) (zcU 23 3 (.own zd 33 30 [24,0] []) rfl rfl (zbJ zd 33 30 [24,0] rfl) lzz)
 refine zaj _ rfl (jp ?_);cases h;exact zt (lk [2] [22] 22 2 (lk [2] [2] 30 3 (lk [2] [2] 24 4 lzz)))
theorem zhA (uO:Nat):(∀{x:zc} {r:zc},zca uO x=some r->FnOk Tryz.prog 10 [.rc zd [0] x] [.ag [.own za 59 3 [4,0] r.Values,.own Rp.str 9 5 [] r.Unknown]])/\(∀{v:zb} {r:zb},zdQ uO v=some r->FnOk Tryz.prog 22 [.rc za [0] v] [.ag [kI r.Number,.sl (Rp.int .u64) [0] r.Words,.sl Rp.str [0] r.Texts,.own zd 33 3 [4,0] r.Subs]]):=by
  induction uO with
  | zero=>exact ⟨fun h=>absurd h nofun,fun h=>absurd h nofun⟩
  | succ uO ih=>exact ⟨fun h=>zry (fun hh=>ih.1 hh) (fun hh=>ih.2 hh) h,fun h=>znr (fun hh=>ih.1 hh) (fun hh=>ih.2 hh) h⟩
theorem zeY (h:zca uO x=some r):FnOk Tryz.prog 10 [.rc zd [0] x] [.ag [.own za 59 3 [4,0] r.Values,.own Rp.str 9 5 [] r.Unknown]]:=(zhA uO).1 h
theorem zkY (h:zfu sv=some r):FnOk Tryz.prog 149 [kS sv] [kB r]:=by
 refine zu (E:=⟨[(2,kB r)],[]⟩) 55 Tryz.func149 rfl rfl rfl ⟨rfl,trivial⟩ (fun Xt=>?_);refine zj ?_;unfold zfu at h;refine jp (jp (zq ?_));obtain ⟨q,uJ,h⟩:=bnd h;refine zW (fun s:Int=>zbc sv s) (fun s=>⟨[(0,kS sv),(3,kI s)],[]⟩) (fun o e a w=>match o with| (.inl v_)=>e= .exit 0/\Sx ⟨⟨55,[]⟩,Xt,false,#[]⟩ ⟨[(0,kS sv)],[]⟩ a w| (.inr v_)=>e= .ret/\Sx ⟨⟨55,[]⟩,Xt,false,#[]⟩ ⟨[(2,kB false)],[]⟩ a w) ?_ uJ lzz ?_
 ·clear h;intro i o h;refine zj ?_;replace h:zbc sv i=some o:=h;unfold zbc at h;refine jp (jI h (fun uC h=>?_) fun uC h=>?_)
  ·refine zq ?_;obtain ⟨c,vK,h⟩:=bnd h;refine jr (ra 2 [kS sv,kI i] rfl (zzd rfl Tryz.underlying9 vK) rfl rf) (zO ⟨[(0,kS sv),(3,kI i),(5,kB (if (decide ((c.toNat:Int)>=65)) then ((decide ((c.toNat:Int)<=90))|| (if (decide ((c.toNat:Int)>=97)) then ((decide ((c.toNat:Int)<=122))|| (((c.toNat:Int)==95)|| ((decide (i>0))&&((decide ((c.toNat:Int)>=48))&&(decide ((c.toNat:Int)<=57)))))) else (((c.toNat:Int)==95)|| ((decide (i>0))&&((decide ((c.toNat:Int)>=48))&&(decide ((c.toNat:Int)<=57))))))) else (if (decide ((c.toNat:Int)>=97)) then ((decide ((c.toNat:Int)<=122))|| (((c.toNat:Int)==95)|| ((decide (i>0))&&((decide ((c.toNat:Int)>=48))&&(decide ((c.toNat:Int)<=57)))))) else (((c.toNat:Int)==95)|| ((decide (i>0))&&((decide ((c.toNat:Int)>=48))&&(decide ((c.toNat:Int)<=57))))))))],[]⟩ ?_ ?_)
   ·refine (rsl 3 [] 17 (decide ((c.toNat:Int)>=65)) (fun uD=>?_) (fun uD=>?_))
    ·refine (rsl 4 [] 21 (decide ((c.toNat:Int)<=90)) (fun uE=>?_) (fun uE=>?_))
     · exact (rbl [] 5 true rfl (by rw [uD,uE]<;>rfl))
     refine (rsl 3 [] 24 (decide ((c.toNat:Int)>=97)) (fun uI=>?_) (fun uI=>?_))
     ·refine (rsl 5 [] 29 (decide ((c.toNat:Int)<=122)) (fun uL=>?_) (fun uL=>?_))
      · exact (rbl [] 5 true rfl (by rw [uD,uE,uI,uL]<;>rfl))
      refine (rsl 4 [] 33 ((c.toNat:Int)==95) (fun uN=>?_) (fun uN=>?_))
      · exact (rbl [] 5 true rfl (by rw [uD,uE,uI,uL,uN]<;>rfl))
      refine (rsl 3 [] 36 (decide (i>0)) (fun uS=>?_) (fun uS=>?_))
      ·refine (rsl 4 [] 40 (decide ((c.toNat:Int)>=48)) (fun uX=>?_) (fun uX=>?_))
       · exact (rbl [] 5 (decide ((c.toNat:Int)<=57)) rfl (by rw [uD,uE,uI,uL,uN,uS,uX]<;>rfl))
       exact (rbl [] 5 false rfl (by rw [uD,uE,uI,uL,uN,uS,uX]<;>rfl))
      exact (rbl [] 5 false rfl (by rw [uD,uE,uI,uL,uN,uS]<;>rfl))
     refine (rsl 9 [] 33 ((c.toNat:Int)==95) (fun uU=>?_) (fun uU=>?_))
     · exact (rbl [] 5 true rfl (by rw [uD,uE,uI,uU]<;>rfl))
     refine (rsl 3 [] 36 (decide (i>0)) (fun u9=>?_) (fun u9=>?_))
     ·refine (rsl 4 [] 40 (decide ((c.toNat:Int)>=48)) (fun vl=>?_) (fun vl=>?_))
      · exact (rbl [] 5 (decide ((c.toNat:Int)<=57)) rfl (by rw [uD,uE,uI,uU,u9,vl]<;>rfl))
      exact (rbl [] 5 false rfl (by rw [uD,uE,uI,uU,u9,vl]<;>rfl))
     exact (rbl [] 5 false rfl (by rw [uD,uE,uI,uU,u9]<;>rfl))
    refine (rsl 7 [] 24 (decide ((c.toNat:Int)>=97)) (fun vg=>?_) (fun vg=>?_))
    ·refine (rsl 5 [] 29 (decide ((c.toNat:Int)<=122)) (fun ve=>?_) (fun ve=>?_))
     · exact (rbl [] 5 true rfl (by rw [uD,vg,ve]<;>rfl))
     refine (rsl 4 [] 33 ((c.toNat:Int)==95) (fun vk=>?_) (fun vk=>?_))
     · exact (rbl [] 5 true rfl (by rw [uD,vg,ve,vk]<;>rfl))
     refine (rsl 3 [] 36 (decide (i>0)) (fun vn=>?_) (fun vn=>?_))
     ·refine (rsl 4 [] 40 (decide ((c.toNat:Int)>=48)) (fun vr=>?_) (fun vr=>?_))
      · exact (rbl [] 5 (decide ((c.toNat:Int)<=57)) rfl (by rw [uD,vg,ve,vk,vn,vr]<;>rfl))
      exact (rbl [] 5 false rfl (by rw [uD,vg,ve,vk,vn,vr]<;>rfl))
     exact (rbl [] 5 false rfl (by rw [uD,vg,ve,vk,vn]<;>rfl))
    refine (rsl 9 [] 33 ((c.toNat:Int)==95) (fun vp=>?_) (fun vp=>?_))
    · exact (rbl [] 5 true rfl (by rw [uD,vg,vp]<;>rfl))
    refine (rsl 3 [] 36 (decide (i>0)) (fun vt=>?_) (fun vt=>?_))
    ·refine (rsl 4 [] 40 (decide ((c.toNat:Int)>=48)) (fun vx=>?_) (fun vx=>?_))
     · exact (rbl [] 5 (decide ((c.toNat:Int)<=57)) rfl (by rw [uD,vg,vp,vt,vx]<;>rfl))
     exact (rbl [] 5 false rfl (by rw [uD,vg,vp,vt,vx]<;>rfl))
    exact (rbl [] 5 false rfl (by rw [uD,vg,vp,vt]<;>rfl))
   refine jp (jI h (fun vL h=>?_) fun vL h=>?_)
   ·refine jp ?_;cases h;exact zaK lzz
   refine zQ (jp ?_);cases h;exact zD lzz
  cases h;exact zX rfl lzz
 rcases q with u| u2
 ·refine zaj _ rfl (zO ⟨[(2,kB ((decide ((sv.length:Int)>=1))&&(decide ((sv.length:Int)<=60))))],[]⟩ ?_ ?_)
  ·refine (rsl 4 [] 50 (decide ((sv.length:Int)>=1)) (fun vM=>?_) (fun vM=>?_))
   · exact (rbl [] 2 (decide ((sv.length:Int)<=60)) rfl (by rw [vM]<;>rfl))
   exact (rbl [] 2 false rfl (by rw [vM]<;>rfl))
  cases h;exact zt lzz
 obtain rfl:=(sj h);exact zcN lzz
theorem zim (h:zcJ k=some r):FnOk Tryz.prog 59 [kI k] [kB r]:=by
 refine zu (E:=⟨[(2,kB r)],[]⟩) 9 Tryz.func59 rfl rfl rfl ⟨rfl,trivial⟩ (fun Xt=>?_);refine zj ?_;unfold zcJ at h;refine jp (zO ⟨[(2,kB ((decide (k>=1))&&(decide (k<=17))))],[]⟩ ?_ ?_)
 ·refine (rsl 3 [] 5 (decide (k>=1)) (fun uC=>?_) (fun uC=>?_))
  · exact (rbl [] 2 (decide (k<=17)) rfl (by rw [uC]<;>rfl))
  exact (rbl [] 2 false rfl (by rw [uC]<;>rfl))
 cases h;exact zt lzz
theorem zhL (h:zdn k=some r):FnOk Tryz.prog 60 [kI k] [kB r]:=by
 refine zu (E:=⟨[(2,kB r)],[]⟩) 9 Tryz.func60 rfl rfl rfl ⟨rfl,trivial⟩ (fun Xt=>?_);refine zj ?_;unfold zdn at h;refine jp (zO ⟨[(2,kB ((decide (k>=1))&&(decide (k<=14))))],[]⟩ ?_ ?_)
 ·refine (rsl 3 [] 5 (decide (k>=1)) (fun uC=>?_) (fun uC=>?_))
  · exact (rbl [] 2 (decide (k<=14)) rfl (by rw [uC]<;>rfl))
  exact (rbl [] 2 false rfl (by rw [uC]<;>rfl))
 cases h;exact zt lzz
theorem zin (h:zdL m uV=some r):FnOk Tryz.prog 42 [.rc zh [0] m,kI uV] [kI r]:=by
 refine zu (E:=⟨[(4,kI r)],[]⟩) 22 Tryz.func42 rfl rfl rfl ⟨rfl,trivial⟩ (fun Xt=>?_);refine zj ?_;unfold zdL at h;refine jr (ra 0 [.rc zh [0] m] rfl (zbL 11 [kS m.Name,.sl zf [0] m.Fields] [0] rfl rfl rfl rfl rfl) rfl rf) (jp (zq ?_));obtain ⟨q,uJ,h⟩:=bnd h;refine zW (fun s:Int=>zaO m uV s) (fun s=>⟨[(1,kI uV),(2,.ptr 11 0),(5,kI s)],[⟨11,82,[kS m.Name,.sl zf [0] m.Fields]⟩]⟩) (fun o e a w=>match o with| (.inl v_)=>e= .exit 0/\Sx ⟨⟨22,[]⟩,Xt,false,#[]⟩ ⟨[],[]⟩ a w| (.inr v_)=>e= .ret/\Sx ⟨⟨22,[]⟩,Xt,false,#[]⟩ ⟨[(4,kI v_)],[]⟩ a w) ?_ uJ lzz ?_
 ·clear h;intro i o h;refine zj ?_;replace h:zaO m uV i=some o:=h;unfold zaO at h;refine jp (jI h (fun uC h=>?_) fun uC h=>?_)
  ·refine zq ?_;obtain ⟨x,uM,h⟩:=bnd h;refine jr (ra 3 [.sl zf [0] m.Fields,kI i] rfl (zP rfl zoF.el (zw _ _ _) uM) rfl rf) (jI h (fun uD h=>?_) fun uD h=>?_)
   ·refine jp ?_;cases h;exact zaK lzz
   refine zQ (jp ?_);cases h;exact zD lzz
  cases h;exact zX rfl lzz
 rcases q with u| u2
 ·refine zaj _ rfl (jp ?_);cases h;exact zt lzz
 obtain rfl:=(sj h);exact zcN lzz
theorem zkZ (h:zdo v=some r):FnOk Tryz.prog 26 [.rc za [0] v] [kI r]:=by
 refine zu (E:=⟨[(2,kI r)],[]⟩) 14 Tryz.func26 rfl rfl rfl ⟨rfl,trivial⟩ (fun Xt=>?_);refine zj ?_;unfold zdo at h;refine jr (ra 0 [.rc za [0] v] rfl (zbL 11 [kI v.Number,.sl (Rp.int .u64) [0] v.Words,.sl Rp.str [0] v.Texts,.sl zd [0] v.Subs] [0] rfl rfl rfl (by rw [zk]<;>rfl) rfl) rfl rf) (jp ?_);cases h;exact zt lzz
theorem zoP (h:zfK wv=some r):FnOk Tryz.prog 93 [kU wv] [kI r]:=by
 refine zu (E:=⟨[(2,kI r)],[]⟩) 12 Tryz.func93 rfl rfl rfl ⟨rfl,trivial⟩ (fun Xt=>?_);refine zj ?_;unfold zfK at h;refine jp (jp (jp (jI h (fun uC h=>?_) fun uC h=>?_)))
 ·refine jp (jp ?_);cases h;exact zt lzz
 refine jp ?_;cases h;exact zt lzz
theorem zqg (h:zgI n=some r):FnOk Tryz.prog 92 [kI n] [kU r]:=by
 refine zu (E:=⟨[(2,kU r)],[]⟩) 12 Tryz.func92 rfl rfl rfl ⟨rfl,trivial⟩ (fun Xt=>?_);refine zj ?_;unfold zgI at h;refine jp (jp (jI h (fun uC h=>?_) fun uC h=>?_))
 ·refine jp ?_;cases h;exact zt lzz
 refine jp ?_;cases h;exact zt lzz
theorem zrA (h:zho rv=some r):FnOk Tryz.prog 156 [kI rv] [.own Rp.byte 5 2 [] r]:=by
 refine zu (E:=⟨[(2,.own Rp.byte 5 2 [] r)],[]⟩) 68 Tryz.func156 rfl rfl rfl ⟨rfl,trivial⟩ (fun Xt=>?_);refine zj ?_;unfold zho at h;refine jp (zO ⟨[(0,kI rv),(16,kB ((decide (rv<0))|| ((decide (rv>1114111))|| ((decide (rv>=55296))&&(decide (rv<=57343))))))],[]⟩ ?_ ?_)
 ·refine (rsl 3 [] 5 (decide (rv<0)) (fun uC=>?_) (fun uC=>?_))
  · exact (rbl [] 16 true rfl (by rw [uC]<;>rfl))
  refine (rsl 4 [] 9 (decide (rv>1114111)) (fun uD=>?_) (fun uD=>?_))
  · exact (rbl [] 16 true rfl (by rw [uC,uD]<;>rfl))
  refine (rsl 3 [] 12 (decide (rv>=55296)) (fun uE=>?_) (fun uE=>?_))
  · exact (rbl [] 16 (decide (rv<=57343)) rfl (by rw [uC,uD,uE]<;>rfl))
  exact (rbl [] 16 false rfl (by rw [uC,uD,uE]<;>rfl))
 refine jI h (fun uI h=>?_) fun uI h=>?_
 ·refine jp ?_;cases h;exact zt (zaJ ⟨[(2,kN)],[]⟩ (by kernel_rfl) (zdk 2 (.own Rp.byte 5 2 [] ([]:(List UInt8))) rfl (zbJ Rp.byte 5 2 [] rfl) lzz))
 refine jp (jI h (fun uL h=>?_) fun uL h=>?_)
 ·obtain ⟨y,vC,h⟩:=bnd h;refine jr (rc 2 rfl (zx.le (ins':=[(.tmp 20,.lf (.int .u8 (IntKind.u8.wrap rv)))]) (zcr [.lf (.int .u8 (y.toNat:Int))] 12 [] [y] rfl zir rfl rfl rfl rfl) ⟨⟨rfl,zkO vC⟩,trivial⟩) rf) ?_;cases h;exact zt (lk [2] [] 12 2 lzz)
 refine jp (jI h (fun uN h=>?_) fun uN h=>?_)
 ·obtain ⟨y2,wy,h⟩:=bnd h;obtain ⟨y3,wz,h⟩:=bnd h;refine jr (rc 8 rfl (zx.le (ins':=[(.tmp 27,.lf (.int .u8 (IntKind.u8.wrap (IntKind.i64.wrap (192+(IntKind.i64.wrap (Int.tdiv rv 64))))))),(.tmp 31,.lf (.int .u8 (IntKind.u8.wrap (IntKind.i64.wrap (128+(Int.tmod rv 64))))))]) (zcr [.lf (.int .u8 (y2.toNat:Int)),.lf (.int .u8 (y3.toNat:Int))] 13 [] [y2,y3] rfl zir rfl rfl rfl rfl) ⟨⟨rfl,zkO wy⟩,⟨rfl,zkO wz⟩,trivial⟩) rf) ?_;cases h;exact zt (lk [2] [] 13 2 lzz)
 refine jp (jI h (fun uS h=>?_) fun uS h=>?_)
 ·obtain ⟨y4,wA,h⟩:=bnd h;obtain ⟨y5,wB,h⟩:=bnd h;obtain ⟨y6,wC,h⟩:=bnd h;refine jr (rc 13 rfl (zx.le (ins':=[(.tmp 38,.lf (.int .u8 (IntKind.u8.wrap (IntKind.i64.wrap (224+(IntKind.i64.wrap (Int.tdiv rv 4096))))))),(.tmp 43,.lf (.int .u8 (IntKind.u8.wrap (IntKind.i64.wrap (128+(Int.tmod (IntKind.i64.wrap (Int.tdiv rv 64)) 64)))))),(.tmp 47,.lf (.int .u8 (IntKind.u8.wrap (IntKind.i64.wrap (128+(Int.tmod rv 64))))))]) (zcr [.lf (.int .u8 (y4.toNat:Int)),.lf (.int .u8 (y5.toNat:Int)),.lf (.int .u8 (y6.toNat:Int))] 14 [] [y4,y5,y6] rfl zir rfl rfl rfl rfl) ⟨⟨rfl,zkO wA⟩,⟨rfl,zkO wB⟩,⟨rfl,zkO wC⟩,trivial⟩) rf) ?_;cases h;exact zt (lk [2] [] 14 2 lzz)
 obtain ⟨y7,wD,h⟩:=bnd h;obtain ⟨y8,wE,h⟩:=bnd h;obtain ⟨y9,wF,h⟩:=bnd h;obtain ⟨y10,wG,h⟩:=bnd h;refine jr (rc 18 rfl (zx.le (ins':=[(.tmp 52,.lf (.int .u8 (IntKind.u8.wrap (IntKind.i64.wrap (240+(IntKind.i64.wrap (Int.tdiv rv 262144))))))),(.tmp 57,.lf (.int .u8 (IntKind.u8.wrap (IntKind.i64.wrap (128+(Int.tmod (IntKind.i64.wrap (Int.tdiv rv 4096)) 64)))))),(.tmp 62,.lf (.int .u8 (IntKind.u8.wrap (IntKind.i64.wrap (128+(Int.tmod (IntKind.i64.wrap (Int.tdiv rv 64)) 64)))))),(.tmp 66,.lf (.int .u8 (IntKind.u8.wrap (IntKind.i64.wrap (128+(Int.tmod rv 64))))))]) (zcr [.lf (.int .u8 (y7.toNat:Int)),.lf (.int .u8 (y8.toNat:Int)),.lf (.int .u8 (y9.toNat:Int)),.lf (.int .u8 (y10.toNat:Int))] 15 [] [y7,y8,y9,y10] rfl zir rfl rfl rfl rfl) ⟨⟨rfl,zkO wD⟩,⟨rfl,zkO wE⟩,⟨rfl,zkO wF⟩,⟨rfl,zkO wG⟩,trivial⟩) rf) ?_;cases h;exact zt (lk [2] [] 15 2 lzz)
end Go.Proofs.YtekgmimingolbaaGreat
