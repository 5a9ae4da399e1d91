/-
  The Go functions do what the plain functions say. No condition.
-/
import Derived.Test.YtekgmimingolbaaGreatx2G1
import Derived.Test.YtekgmimingolbaaGreatx2G2
import Derived.Test.YtekgmimingolbaaGreatx2Y
set_option autoImplicit true
set_option relaxedAutoImplicit true
namespace Go.Proofs.YtekgmimingolbaaGreat
open Go Go.RowKit
set_option linter.unusedVariables false
set_option maxRecDepth 100000
set_option maxHeartbeats 3200000
theorem zpc (h:zgb x y=some r):FnOk Tryz.prog 106 [kI x,kI y] [kI r]:=by
 refine zz (E:=⟨[(4,kI r)],[]⟩) 20 Tryz.func106 rfl rfl rfl ⟨rfl,trivial⟩ (fun Xt=>?_);refine zq ?_;unfold zgb at h;refine jp (jb h fun rv uC h=>jr (rl 1 [1] 9 Tryz.call138 (zle uC) rf) (jb h fun rv2 uJ h=>jr (rl 1 [1] 9 Tryz.call138 (zle uJ) rf) (jp (jI h (fun uA h=>?_) fun uA h=>?_))))
 ·refine jp (jI h (fun uB h=>?_) fun uB h=>?_)
  ·refine jp ?_;cases h;exact zA lzz
  refine jp ?_;cases h;exact zA lzz
 refine jp (jI h (fun uE h=>?_) fun uE h=>?_)
 ·refine jp ?_;cases h;exact zA lzz
 refine jp (jI h (fun uK h=>?_) fun uK h=>?_)
 ·refine jp ?_;cases h;exact zA lzz
 refine jp (jI h (fun uN h=>?_) fun uN h=>?_)
 ·refine jp ?_;cases h;exact zA lzz
 refine jp ?_;cases h;exact zA lzz
theorem zwF (h:zme way other=some r):FnOk Tryz.prog 101 [.sl wu [0] way,.sl wu [0] other] [kB r]:=by
 refine zz (E:=⟨[(4,kB r)],[]⟩) 23 Tryz.func101 rfl rfl rfl ⟨rfl,trivial⟩ (fun Xt=>?_);refine zq ?_;unfold zme at h;refine jp (jb h fun g uz h=>zaG ⟨[(4,kB g)],[]⟩ ?_ ?_)
 ·refine (rsl 4 [] 8 (decide ((other.length:Int)>0)) (fun uA=>?_) (fun uA=>?_))
  ·replace uz:=iteT uz uA;refine (rsl 7 [] 15 (decide ((other.length:Int)<=(way.length:Int))) (fun uB=>?_) (fun uB=>?_))
   ·replace uz:=iteT uz uB;refine jb uz fun v uR uz=>jb uz fun rv uC uz=>?_;cases uz;exact (ra 3 [.sl wu [0] way,kI (other.length:Int)] rfl (zpD none (some (kI (other.length:Int))) rfl zlb.el (zV _ _ _) ⟨rfl,rfl⟩ ⟨rfl,rfl⟩ uR) rfl (rl 1 [0] 9 Tryz.call134 (zkV uC) rgg))
   replace uz:=iteF uz uB;cases uz;exact rgg
  replace uz:=iteF uz uA;cases uz;exact rgg
 obtain rfl:=(sj h);exact zA lzz
theorem znV {ways:(List (List Int))} (h:ziv ways=some r):FnOk Tryz.prog 68 [.sl wx [0] ways] [.own wx 53 2 [3] r]:=by
 refine zz (E:=⟨[(2,.own wx 53 2 [3] r)],[]⟩) 23 Tryz.func68 rfl rfl rfl ⟨rfl,trivial⟩ (fun Xt=>?_);refine zq ?_;unfold ziv at h;refine jp (jb h fun v uR h=>jr (ra 2 [kI (ways.length:Int),kI (ways.length:Int)] rfl (zAO 13 rfl zkj rfl uR) rfl rf) (jp (zB (jb h fun q uF h=>zaH (fun s:((List (List Int))×Int)=>zdh ways s.1 s.2) (fun s=>⟨[(3,.own wx 53 13 [14] s.1),(9,.sl wx [0] ways),(10,kI (ways.length:Int)),(11,kI s.2)],[]⟩) (fun o e a w=>e= .exit 0/\Sx ⟨⟨23,[]⟩,Xt,false,#[]⟩ ⟨[(3,.own wx 53 13 [14] o)],[]⟩ a w) ?_ uF ?_ ?_))))
 ·clear h;intro s o h;obtain ⟨l,v2⟩:=s;refine zq ?_;replace h:zdh ways l v2=some o:=h;unfold zdh at h;refine jp (jI h (fun uA h=>?_) fun uA h=>?_)
  ·refine zB (jb h fun x uI h=>jr (ra 1 [.sl wx [0] ways,kI v2] rfl (zbt rfl zkj.el (zV _ _ _) uI) rfl (ra 0 [.ep wx [0] x 0] rfl (zgf wu x rfl rfl rfl) rfl rf)) (jb h fun rv uC h=>jb h fun x2 uL h=>jr (rl 3 [0] 15 Tryz.call102 (zkU uC) (ra 0 [.own wx 53 13 [14] l,kI v2] rfl (ztz rfl zkj.el uL) rfl (rkl 0 [] ⟨[(3,.own wx 53 13 [14] l),(9,.sl wx [0] ways),(10,kI (ways.length:Int)),(11,kI v2),(19,.own wu 3 17 [] rv),(20,.ptr 13 (Int.toNat v2*wx.size))],[]⟩ (zGT (r:=wx) (e:=53) (C:=[14]) (xs:=l) [3] (Int.toNat v2) 0 x2 rv [14,17] rfl rfl rfl rfl rfl rfl Tryz.sizeOf53 rfl (by kernel_rfl) rfl (zqo uL) rfl (zwO rfl _) rfl rf)))) (zas (jp ?_))));cases h;exact zal (lk [3,9,10,11] [] 17 14 (lq ⟨[(3,.own wx 53 13 [14,14] (l.set (Int.toNat v2) rv)),(9,.sl wx [0] ways),(10,kI (ways.length:Int)),(11,kI (IntKind.i64.wrap (v2+1)))],[]⟩ (zcW 3 (.own wx 53 13 [14] (l.set (Int.toNat v2) rv)) rfl (zeR _ _ _ _ _ _ rfl rfl) lzz)))
  cases h;exact zaF rfl lzz
 ·exact lq ⟨[(3,.own wx 53 13 [] v),(9,.sl wx [0] ways),(10,kI (ways.length:Int)),(11,kI 0)],[]⟩ (zcW 3 (.own wx 53 13 [14] v) rfl (zeR _ _ _ _ _ _ rfl rfl) lzz)
 refine zbj _ rfl (jp ?_);obtain rfl:=(sj h);exact zA (lk [2] [] 13 2 (lk [2] [] 14 3 lzz))
theorem ziU (h:zdj sv=some r):FnOk Tryz.prog 70 [.sl wx [0] sv] [.fv 105 [.bp wy 45 910500 [0] r]]:=by
 refine zz (E:=⟨[(2,.fv 105 [.bp wy 45 910500 [0] r])],[]⟩) 4 Tryz.func70 rfl rfl rfl ⟨rfl,trivial⟩ (fun Xt=>?_);refine zq ?_;unfold zdj at h;refine jq [910500] (jr (ra 0 [.ptr 910500 0] rfl (zFs (g:=105) [.tmp 1] [⟨910500,45,[.sl wx [0] sv]⟩] [.bp wy 45 910500 [0] sv] rfl ⟨⟨rfl,rfl,rfl,rfl⟩,trivial⟩ rfl) rfl rf) ?_);obtain rfl:=(sj h);exact zA lzz
theorem zdn (h:zav v=some r):FnOk Tryz.prog 135 [kN,.fv 105 [.ep wy [0] v 0]] [.own wx 53 2 [3,0] r]:=by
 refine zBE (E:=⟨[(4,.own wx 53 2 [3,0] r)],[]⟩) 13 Tryz.func135 rfl rfl rfl ⟨rfl,trivial⟩ rfl rfl (fun Xt=>?_);refine zq ?_;unfold zav at h;refine jq [15] (jp (zB (jb h fun q uF h=>zxU (E':=⟨[(2,.ptr 15 0),(6,.fv 105 [.ep wy [0] v 0])],[⟨15,45,[.own wx 53 18 [16,0] []]⟩]⟩) ?_ ?_)))
 ·exact lq ⟨[(2,.ptr 15 0),(6,.fv 105 [.ep wy [0] v 0])],[⟨15,45,[kN]⟩]⟩ (zcD 15 0 (.own wx 53 18 [16,0] []) rfl rfl (zch wx 53 18 [16,0] rfl) lzz)
 refine zDx (it:=fun {σ:Type} (kf:Rnd σ (List Int)) (sg:σ)=>zaX v kf sg) (zim v) [] [2] [15] [(2,.ptr 15 0)] (fun s:(List (List Int))=>[⟨15,45,[.own wx 53 18 [16,0] s]⟩]) (fun o:Empty=>[]) (fun o:Empty=> .ret) (fun (s:(List (List Int))) (x:(List Int))=>zM s x) (fun (s:(List (List Int))) (x:(List Int))=>⟨[(2,.ptr 15 0),(5,.sl wu [0] x)],[⟨15,45,[.own wx 53 18 [16,0] s]⟩]⟩) rfl rfl Tryz.call105 rfl rfl rfl rfl rfl rfl (fun _=>rfl) (fun o=>rfl) rfl rfl (fun _=>rfl) ?_ (fun _ _=>⟨rfl,rfl⟩) ?_ uF ?_
 ·clear h;intro Xr old f x;exact zq (zxU (E':=⟨[(7,.sl wu [0] x),(2,.ptr 15 0)],[⟨15,45,[.own wx 53 18 [16,0] f]⟩]⟩) (fun _ _ _ hs=>hs) (jp (zal lzz)))
 ·clear h;intro Xr old f x o h;refine zq (zxU (E':=⟨[(2,.ptr 15 0),(5,.sl wu [0] x)],[⟨15,45,[.own wx 53 18 [16,0] f]⟩]⟩) (fun _ _ _ hs=>hs) ?_);replace h:zM f x=some o:=h;unfold zM at h;refine zB (jb h fun v2 uV h=>jr (rc 2 rfl (zeo [.sl wu [0] x] 20 [0] ([x]:(List (List Int))) rfl zkj rfl rfl rfl rfl) (ra 0 [.own wx 53 18 [16,0] f,.own wx 53 20 [0] ([x]:(List (List Int)))] rfl (zji 18 [16,0,20] rfl zkj.el rfl (zfi _ _ _ _ _) (zjI _ _ _ _ _) uV (.inr rfl) rfl) rfl rf)) (zas ?_));cases h;exact zal (lk [2] [15] 20 16 (lq ⟨[(2,.ptr 15 0)],[⟨15,45,[.own wx 53 18 [16,0,16] v2]⟩]⟩ (zcD 15 0 (.own wx 53 18 [16,0] v2) rfl rfl (zeR _ _ _ _ _ _ rfl rfl) lzz)))
 rcases q with u| j
 ·refine zxU (E':=⟨[(2,.ptr 15 0)],[⟨15,45,[.own wx 53 18 [16,0] u]⟩]⟩) (fun _ _ _ hs=>hs) (zas (jp ?_));obtain rfl:=(sj h);exact zA (lk [4] [] 18 2 (lk [4] [] 16 3 lzz))
 exact nomatch j
theorem zxX (h:znO=some r):FnOk Tryz.prog 139 [] [.own wu 3 2 [] r]:=by
 refine zz (E:=⟨[(0,.own wu 3 2 [] r)],[]⟩) 4 Tryz.func139 rfl rfl rfl ⟨rfl,trivial⟩ (fun Xt=>?_);refine zq ?_;unfold znO at h;refine jp (jb h fun rv uC h=>jb h fun v uR h=>jr (rl 0 [1] 11 Tryz.call171 (zpk uC) (rkl 0 [] ⟨[(1,.om wu zD 13 [] rv)],[]⟩ (zyt (rv:=zD) (m:=rv) 14 zCk rfl rfl rfl rfl rfl rfl Tryz.call170 Tryz.call114 rfl (zAD _ _ _ _ _) uR rfl rf))) ?_);obtain rfl:=(sj h);exact zA (lk [0] [] 14 2 lzz)
theorem zmp (h:zgU u9=some r):FnOk Tryz.prog 172 [kS u9] [kB r]:=by
 refine zz (E:=⟨[(2,kB r)],[]⟩) 34 Tryz.func172 rfl rfl rfl ⟨rfl,trivial⟩ (fun Xt=>?_);refine zq ?_;unfold zgU at h;refine jp (jb h fun g uz h=>zaG ⟨[(0,kS u9),(15,kB g)],[]⟩ ?_ ?_)
 ·refine (rsl 3 [] 6 (u9==[]) (fun uA=>?_) (fun uA=>?_))
  ·replace uz:=iteT uz uA;cases uz;exact rgg
  replace uz:=iteF uz uA;refine (rsl 5 [] 11 (decide ((u9.length:Int)>60)) (fun uB=>?_) (fun uB=>?_))
  ·replace uz:=iteT uz uB;cases uz;exact rgg
  replace uz:=iteF uz uB;refine jb uz fun c wh uz=>jb uz fun rv uC uz=>?_;cases uz;exact (ra 1 [kS u9,kI 0] rfl (zzG rfl Tryz.underlying9 wh) rfl (rl 0 [1] 9 Tryz.call195 (zlx uC) rgg))
 refine jI h (fun uE h=>?_) fun uE h=>?_
 ·refine jp ?_;obtain rfl:=(sj h);exact zA lzz
 refine jp (zB (jb h fun q uF h=>zaH (fun s:Int=>zci u9 s) (fun s=>⟨[(0,kS u9),(17,kI (u9.length:Int)),(18,kI s)],[]⟩) (fun o e a w=>match o with| (.inl v_)=>e= .exit 0/\Sx ⟨⟨34,[]⟩,Xt,false,#[]⟩ ⟨[],[]⟩ a w| (.inr v_)=>e= .ret/\Sx ⟨⟨34,[]⟩,Xt,false,#[]⟩ ⟨[(2,kB false)],[]⟩ a w) ?_ uF lzz ?_))
 ·clear h;intro v2 o h;refine zq ?_;replace h:zci u9 v2=some o:=h;unfold zci at h;refine jp (jI h (fun uK h=>?_) fun uK h=>?_)
  ·refine zB (jp (jb h fun g2 uM h=>zaG ⟨[(0,kS u9),(17,kI (u9.length:Int)),(18,kI v2),(32,kB g2)],[]⟩ ?_ ?_))
   ·refine jb uM fun c2 wj uM=>jb uM fun rv2 uJ uM=>(ra 2 [kS u9,kI v2] rfl (zzG rfl Tryz.underlying9 wj) rfl (rl 0 [1] 10 Tryz.call196 (zpS uJ) (rsl 2 [] 26 (!rv2) (fun uN=>?_) (fun uN=>?_))))
    ·replace uM:=iteT uM uN;refine jb uM fun c3 wl uM=>jb uM fun rv3 uO uM=>?_;cases uM;exact (ra 2 [kS u9,kI v2] rfl (zzG rfl Tryz.underlying9 wl) rfl (rl 0 [1] 10 Tryz.call195 (zlx uO) rgg))
    replace uM:=iteF uM uN;cases uM;exact rgg
   refine jI h (fun uQ h=>?_) fun uQ h=>?_
   ·refine jp ?_;cases h;exact zcA lzz
   refine zas (jp ?_);cases h;exact zal lzz
  cases h;exact zaF rfl lzz
 rcases q with u| u2
 ·refine zbj _ rfl (jp ?_);obtain rfl:=(sj h);exact zA lzz
 obtain rfl:=(sj h);exact zfb lzz
theorem zjT (h:zcM sv v=some r):FnOk Tryz.prog 174 [.sl wu [0] sv,kI v] [kB r]:=by
 refine zz (E:=⟨[(4,kB r)],[]⟩) 9 Tryz.func174 rfl rfl rfl ⟨rfl,trivial⟩ (fun Xt=>?_);refine zq ?_;unfold zcM at h;refine jp (jb h fun rv uC h=>jr (rl 2 [0] 9 Tryz.call197 (zkW uC) rf) ?_);cases h;exact zA lzz
theorem zwu (h:zmd k=some r):FnOk Tryz.prog 217 [kI k] [kI r.1,k8 r.2]:=by
 refine zz (E:=⟨[(2,kI r.1),(3,k8 r.2)],[]⟩) 16 Tryz.func217 rfl rfl rfl ⟨rfl,rfl,trivial⟩ (fun Xt=>?_);refine zq ?_;unfold zmd at h;refine jp (jb h fun rv uC h=>jr (rl 0 [1] 9 Tryz.call171 (zpk uC) (ra 1 [.om wu zD 11 [] rv,kI k] rfl (zrp (rk:=wu) (rv:=zD) (m:=rv) (k:=k) (.rc zD [] ((mget rv k).getD (⟨[],0⟩:zu))) rfl zfu (zdk rfl rfl) (zwi rfl)) rfl (rfl' [12]))) (jp (jI h (fun uA h=>?_) fun uA h=>?_)))
 ·refine jp ?_;cases h;exact zA lzz
 refine jp ?_;cases h;exact zA lzz
theorem zuJ (h:zkY uH x=some r):FnOk Tryz.prog 95 [.rc zd [0] x] [kI r]:=by
 refine zz (E:=⟨[(2,kI r)],[]⟩) 5 Tryz.func95 rfl rfl rfl ⟨rfl,trivial⟩ (fun Xt=>?_);refine zq ?_;unfold zkY at h;refine jr (ra 0 [.rc zd [0] x] rfl (zbw 11 (zj [0] x) [0] rfl rfl rfl (by rw [zn]<;>rfl) rfl) rfl rf) (jb h fun rv uC h=>jr (rc 1 rfl (zy.le (ins':=[(.tmp 3,.ag (zj [0] x)),(.const (.int .i64 131072),kI 131072)]) (zU (args:=[.tmp 3,.const (.int .i64 131072)]) [.rc zd [0] x,kI 131072] [0] 10 rfl Tryz.call128 (zuK uC) rfl rfl rfl rfl rfl) ⟨⟨rfl,zx [0] x⟩,⟨rfl,wC _⟩,trivial⟩) rf) ?_);obtain rfl:=(sj h);exact zA lzz
theorem zdU (h:zaA sv v=some r):FnOk Tryz.prog 157 [.sl zg [0] sv,.fv 130 [.ep wu [0] v 0]] [kI r]:=by
 refine zz (E:=⟨[(4,kI r)],[]⟩) 19 Tryz.func157 rfl rfl rfl ⟨rfl,trivial⟩ (fun Xt=>?_);refine zq ?_;unfold zaA at h;refine jp (jp (zB (jb h fun q uF h=>zaH (fun s:Int=>zC sv v s) (fun s=>⟨[(0,.sl zg [0] sv),(1,.fv 130 [.ep wu [0] v 0]),(7,kI (sv.length:Int)),(8,kI s)],[]⟩) (fun o e a w=>match o with| (.inl v_)=>e= .exit 0/\Sx ⟨⟨19,[]⟩,Xt,false,#[]⟩ ⟨[],[]⟩ a w| (.inr v_)=>e= .ret/\Sx ⟨⟨19,[]⟩,Xt,false,#[]⟩ ⟨[(4,kI v_)],[]⟩ a w) ?_ uF lzz ?_)))
 ·clear h;intro v2 o h;refine zq ?_;replace h:zC sv v v2=some o:=h;unfold zC at h;refine jp (jI h (fun uA h=>?_) fun uA h=>?_)
  ·refine zB (jp (jb h fun x uI h=>jb h fun rv uC h=>jr (ra 3 [.sl zg [0] sv,kI v2] rfl (zbt rfl zvV.el (zV _ _ _) uI) rfl (ra 0 [.ep zg [0] x 0] rfl (zeT rfl ⟨Tryz.isAgg65,Tryz.sizeOf65⟩) rfl (ra 0 [.fv 130 [.ep wu [0] v 0],.rc zg [0] x] rfl (zqw (args:=[.tmp 15]) [.rc zg [0] x] [0] 10 rfl (zAC _ _) Tryz.call130 (zom uC) rfl rfl rfl rfl rfl) rfl rf))) (jI h (fun uB h=>?_) fun uB h=>?_)))
   ·refine jp ?_;cases h;exact zcA lzz
   refine zas (jp ?_);cases h;exact zal lzz
  cases h;exact zaF rfl lzz
 rcases q with u| u2
 ·refine zbj _ rfl (jp ?_);cases h;exact zA lzz
 obtain rfl:=(sj h);exact zfb lzz
theorem zsf (h:zmx b=some r):FnOk Tryz.prog 226 [.sl Rp.byte [0] b] [kI r]:=by
 refine zz (E:=⟨[(2,kI r)],[]⟩) 48 Tryz.func226 rfl rfl rfl ⟨rfl,trivial⟩ (fun Xt=>?_);refine zq ?_;unfold zmx at h;refine jp (jp (jI h (fun uA h=>?_) fun uA h=>?_))
 ·refine jp ?_;cases h;exact zA lzz
 refine jb h fun x uI h=>jb h fun rv uC h=>jr (ra 1 [.sl Rp.byte [0] b,kI 0] rfl (zbt rfl zoB.el (zV _ _ _) uI) rfl (rl 1 [1] 9 Tryz.call232 (zyJ uC) rf)) (zaG ⟨[(0,.sl Rp.byte [0] b),(3,kI rv.1),(4,.lf (.int .u32 rv.2)),(24,kB ((rv.1==0)|| (decide (rv.1>(b.length:Int)))))],[]⟩ ?_ ?_)
 ·refine (rsl 3 [] 19 (rv.1==0) (fun uB=>?_) (fun uB=>?_))
  · exact (rbl [] 24 true rfl (by rw [uB]<;>rfl))
  exact (rbl [] 24 (decide (rv.1>(b.length:Int))) rfl (by rw [uB]<;>rfl))
 refine jI h (fun uE h=>?_) fun uE h=>?_
 ·refine jp ?_;cases h;exact zA lzz
 refine jb h fun v2 uV h=>jr (ra 2 [.sl Rp.byte [0] b,kI 1,kI rv.1] rfl (zpD (some (kI 1)) (some (kI rv.1)) rfl zoB.el (zV _ _ _) ⟨rfl,rfl⟩ ⟨rfl,rfl⟩ uV) rfl rf) (zB (jb h fun q uF h=>zaH (fun s:(Int×Int)=>zeD v2 s.1 s.2) (fun s=>⟨[(3,kI rv.1),(4,.lf (.int .u32 s.1)),(27,.sl Rp.byte [0] v2),(28,kI (v2.length:Int)),(29,kI s.2)],[]⟩) (fun o e a w=>match o with| (.inl v_)=>e= .exit 0/\Sx ⟨⟨48,[]⟩,Xt,false,#[]⟩ ⟨[(3,kI rv.1),(4,.lf (.int .u32 v_))],[]⟩ a w| (.inr v_)=>e= .ret/\Sx ⟨⟨48,[]⟩,Xt,false,#[]⟩ ⟨[(2,kI 0)],[]⟩ a w) ?_ uF lzz ?_))
 ·clear h;intro s o h;obtain ⟨wv,v3⟩:=s;refine zq ?_;replace h:zeD v2 wv v3=some o:=h;unfold zeD at h;refine jp (jI h (fun uK h=>?_) fun uK h=>?_)
  ·refine zB (jb h fun x2 uL h=>jr (ra 0 [.sl Rp.byte [0] v2,kI v3] rfl (zbt rfl zoB.el (zV _ _ _) uL) rfl rf) (jr (ra 1 [k8 (x2.toNat:Int),kU 6] rfl (zlG rfl rfl) rfl rf) (jI h (fun uN h=>?_) fun uN h=>?_)))
   ·refine jp ?_;cases h;exact zcA lzz
   refine jr (ra 1 [.lf (.int .u32 wv),kU 6] rfl (zDS rfl rfl) rfl rf) (zas (jp ?_));cases h;exact zal lzz
  cases h;exact zaF rfl lzz
 rcases q with u| u2
 ·refine zbj _ rfl (jb h fun rv2 uJ h=>jr (rl 2 [1] 10 Tryz.call233 (zyI uJ) rf) (jI h (fun uQ h=>?_) fun uQ h=>?_))
  ·refine jp ?_;cases h;exact zA lzz
  refine jp ?_;cases h;exact zA lzz
 cases h;exact zfb lzz
theorem zsR (h:zjv wv=some r):FnOk Tryz.prog 183 [kU wv] [.lf (.int .i32 r)]:=by
 refine zz (E:=⟨[(2,.lf (.int .i32 r))],[]⟩) 6 Tryz.func183 rfl rfl rfl ⟨rfl,trivial⟩ (fun Xt=>?_);refine zq ?_;unfold zjv at h;refine jp (jb h fun rv uC h=>jr (rl 1 [1] 9 Tryz.call184 (zpj uC) rf) ?_);cases h;exact zA lzz
theorem zwY (h:zmq t=some r):FnOk Tryz.prog 187 [.rc zfN [0] t] [kB r]:=by
 refine zz (E:=⟨[(2,kB r)],[]⟩) 16 Tryz.func187 rfl rfl rfl ⟨rfl,trivial⟩ (fun Xt=>?_);refine zq ?_;unfold zmq at h;refine jq [11] (jb h fun g uz h=>zaG ⟨[(2,kB g)],[]⟩ ?_ ?_)
 ·refine (rsl 4 [] 6 (decide (t.Number>=1)) (fun uA=>?_) (fun uA=>?_))
  ·replace uz:=iteT uz uA;refine (rsl 5 [] 11 (decide (t.Number<=536870911)) (fun uB=>?_) (fun uB=>?_))
   ·replace uz:=iteT uz uB;refine jb uz fun rv uC uz=>?_;cases uz;exact (rl 2 [1] 10 Tryz.call215 (zrF uC) rgg)
   replace uz:=iteF uz uB;cases uz;exact rgg
  replace uz:=iteF uz uA;cases uz;exact rgg
 obtain rfl:=(sj h);exact zA lzz
theorem zuv (h:zjX b=some r):FnOk Tryz.prog 188 [.sl Rp.byte [0] b] [kI r.1,k8 r.2]:=by
 refine zz (E:=⟨[(2,kI r.1),(3,k8 r.2)],[]⟩) 15 Tryz.func188 rfl rfl rfl ⟨rfl,rfl,trivial⟩ (fun Xt=>?_);refine zq ?_;unfold zjX at h;refine jp (jb h fun rv uC h=>jr (rl 1 [0] 9 Tryz.call186 (zla uC) rf) (jp ?_));cases h;exact zA lzz
theorem zsn (vn:∀{x:zb} {r:zb},xc x=some r->FnOk Tryz.prog 78 [.rc zd [0] x] [.ag (zh 3 [0,4] 5 [] r)]) (vo:∀{v:za} {r:za},xd v=some r->FnOk Tryz.prog 111 [.rc zc [0] v] [.ag (zap 3 [] 4 [] 5 [0,6] r)]) (h:zfU xc xd x=some r):FnOk Tryz.prog 78 [.rc zd [0] x] [.ag (zh 3 [0,4] 5 [] r)]:=by
 refine zz (E:=⟨[(2,.ptr 2 0)],[⟨2,27,(zh 3 [0,4] 5 [] r)⟩]⟩) 29 Tryz.func78 rfl rfl rfl ⟨⟨_,_,rfl,rfl,rfl,⟨Tryz.isAgg27,Tryz.sizeOf27⟩⟩,trivial⟩ (fun Xt=>?_);refine zq ?_;unfold zfU at h;refine jr (ra 0 [.rc zd [0] x] rfl (zbw 17 (zj [0] x) [0] rfl rfl rfl (by rw [zn]<;>rfl) rfl) rfl (rfl' [18])) (jb h fun rv uC h=>jb h fun rv2 uJ h=>jd [2,3] [18,21] zes (by exact (lw_e (lw_e (lx (lf1 109 (zU [.sl zc [0] x.Values] [0] 17 rfl Tryz.call109 (zeh uC) rfl rfl rfl rfl rfl)) (lw_e (lw_e (lx (lf1 110 (zU [.sl Rp.str [0] x.Unknown] [0] 18 rfl Tryz.call110 (zcF uJ) rfl rfl rfl rfl rfl)) (ly [.own zc 57 19 [0] rv,.own Rp.str 9 20 [] rv2] (zcC [.own zc 57 19 [0] rv,.own Rp.str 9 20 [] rv2] [.own zc 57 19 [0] rv,.own Rp.str 9 20 [] rv2] rfl znk rfl) rfl (lx (zjK 21 [kN,kN] rfl Tryz.zeroValue27 rfl) (ly [.ptr 21 0,.ag [.own zc 57 19 [0] rv,.own Rp.str 9 20 [] rv2]] (ziH (b:=⟨21,27,[kN,kN]⟩) (off:=0) [.own zc 57 19 [0] rv,.own Rp.str 9 20 [] rv2] rfl Tryz.sizeOf27 rfl rfl rfl) rfl l0)))))))))) (jp (zB (jb h fun q uF h=>zaH (fun s:((List za)×Int)=>zco xd rv s.1 s.2) (fun s=>⟨[(2,.ptr 18 0),(3,.ptr 21 0),(14,.own zc 57 19 [0,22] s.1),(15,kI (rv.length:Int)),(16,kI s.2)],[⟨18,27,[kN,kN]⟩,⟨21,27,[.own zc 57 19 [0,22] s.1,.own Rp.str 9 20 [] rv2]⟩]⟩) (fun o e a w=>e= .exit 0/\Sx ⟨⟨29,[]⟩,Xt,false,#[]⟩ ⟨[(2,.ptr 18 0),(3,.ptr 21 0)],[⟨18,27,[kN,kN]⟩,⟨21,27,[.own zc 57 19 [0,22] o,.own Rp.str 9 20 [] rv2]⟩]⟩ a w) ?_ uF ?_ ?_))))
 ·clear h;intro s o h;obtain ⟨v,v2⟩:=s;refine zq ?_;replace h:zco xd rv v v2=some o:=h;unfold zco at h;refine jp (jI h (fun uA h=>?_) fun uA h=>?_)
  ·refine zB (jb h fun x2 uL h=>jr (ra 1 [.own zc 57 19 [0,22] v,kI v2] rfl (ztz rfl zgO.el uL) rfl (ra 0 [.own zc 57 19 [0,22] v,.ptr 19 (Int.toNat v2*zc.size)] rfl (zAN (r:=zc) (e:=57) (ℓ:=19) (C:=[0,22]) (xs:=v) (.tmp 14) x2 rfl ⟨Tryz.isAgg57,Tryz.sizeOf57⟩ uL) rfl (ral 2 [35] [.ptr 35 0,.rc zc [0,22] x2] rfl (zfy (r:=zc) (b:=⟨35,57,[kI 0,kN,kN,kN]⟩) (off:=0) (zk [0,22] x2) rfl Tryz.sizeOf57 rfl rfl (by rw [zv]<;>rfl) rfl) rfl rf))) (jb h fun rv3 uO h=>jb h fun x3 uU h=>jk [2,3,4,5,14,15,16] [18,21,35] (zoH ⟨[(2,.ptr 18 0),(3,.ptr 21 0),(14,.own zc 57 19 [0,22,37,38,39,40] (v.set (Int.toNat v2) rv3)),(15,kI (rv.length:Int)),(16,kI v2)],[⟨18,27,[kN,kN]⟩,⟨21,27,[.own zc 57 19 [0,22,37,38,39,40] (v.set (Int.toNat v2) rv3),.own Rp.str 9 20 [] rv2]⟩]⟩ [.ev,.ev,.ev,.ex [35] [] [] (.ag (zk [0,22] x2)) [],.ex [] [] [37,38,39] (.ag (zap 37 [] 38 [] 39 [0,22,40] rv3)) [],.ex [] [] [] (.ptr 19 (Int.toNat v2*zc.size)) [],.raw [4,0,1,4,10,14] [19] [] [.sl 22 (.own zc 57 19 [0,22,37,38,39,40] (v.set (Int.toNat v2) rv3)),.sl 14 (.own zc 57 19 [0,22,37,38,39,40] (v.set (Int.toNat v2) rv3)),.bx ⟨21,27,[.own zc 57 19 [0,22,37,38,39,40] (v.set (Int.toNat v2) rv3),.own Rp.str 9 20 [] rv2]⟩]] [⟨[(.tmp 5,.ptr 35 0)],[⟨35,57,(zk [0,22] x2)⟩],[]⟩,⟨[(.func 111,.lf (.val (.func (.func 111) #[] #[]))),(.tmp 24,.ag (zk [0,22] x2))],[],[]⟩,⟨[(.tmp 22,.own zc 57 19 [0,22] v),(.tmp 23,kI v2)],[],[]⟩,⟨[],[],[.sl 22 (.own zc 57 19 [0,22] v),.sl 26 (.ptr 19 (Int.toNat v2*zc.size)),.sl 25 (.ag (zap 37 [] 38 [] 39 [0,22,40] rv3)),.sl 22 (.own zc 57 19 [0,22] v),.sl 14 (.own zc 57 19 [0,22] v),.bx ⟨21,27,[.own zc 57 19 [0,22] v,.own Rp.str 9 20 [] rv2]⟩]⟩] [2,3,14,15,16] [18,21] zes (by kernel_rfl) (by exact (lw_e (lw_e (lw_e (lw_x (zkg (zcX (b:=⟨35,57,(zk [0,22] x2)⟩) (zk [0,22] x2) rfl ⟨Tryz.isAgg57,Tryz.sizeOf57⟩ rfl rfl) rfl) (lw_x (zy.cons _ (zkg (zy.le (ins':=[(.tmp 24,.ag (zk [0,22] x2))]) (zU (args:=[.tmp 24]) [.rc zc [0,22] x2] [0,22] 34 rfl Tryz.call111 (vo uO) rfl rfl rfl rfl rfl) ⟨⟨rfl,zan [0,22] x2⟩,trivial⟩) rfl)) (lw_x (zkg (ztz rfl zgO.el uU) rfl) (lw_r (zoQ (ins:=[(.tmp 22,.own zc 57 19 [0,22] v),(.tmp 26,.ptr 19 (Int.toNat v2*zc.size)),(.tmp 25,.ag (zap 37 [] 38 [] 39 [0,22,40] rv3))]) [22,14] [(⟨21,27,[.own zc 57 19 [0,22] v,.own Rp.str 9 20 [] rv2]⟩,⟨21,27,[.own zc 57 19 [0,22,37,38,39,40] (v.set (Int.toNat v2) rv3),.own Rp.str 9 20 [] rv2]⟩)] (zEy (r:=zc) (e:=57) (ℓ:=19) (C:=[0,22]) (xs:=v) (off:=(Int.toNat v2*zc.size)) (.tmp 22) (Int.toNat v2) 0 x3 rv3 [0,22,37,38,39,40] rfl rfl Tryz.sizeOf57 rfl (zqo uU) rfl (zwO (by rw [zv]<;>rfl) _) rfl) ⟨trivial,trivial,trivial,trivial⟩ (fun _ _=>nofun) ⟨⟨rfl,rfl,rfl,⟨zgn 0 rfl,zab rfl,trivial⟩⟩,trivial⟩) lw_0)))))))) (zas (jp ?_)))));cases h;exact zal (lk [2,3,14,15,16] [18,21] 37 22 (lk [2,3,14,15,16] [18,21] 38 22 (lk [2,3,14,15,16] [18,21] 39 22 (lk [2,3,14,15,16] [18,21] 40 22 (lq ⟨[(2,.ptr 18 0),(3,.ptr 21 0),(14,.own zc 57 19 [0,22,22,22,22,22] (v.set (Int.toNat v2) rv3)),(15,kI (rv.length:Int)),(16,kI (IntKind.i64.wrap (v2+1)))],[⟨18,27,[kN,kN]⟩,⟨21,27,[.own zc 57 19 [0,22,22,22,22,22] (v.set (Int.toNat v2) rv3),.own Rp.str 9 20 [] rv2]⟩]⟩ (zcW 14 (.own zc 57 19 [0,22] (v.set (Int.toNat v2) rv3)) rfl (zeR _ _ _ _ _ _ rfl rfl) (zcD 21 0 (.own zc 57 19 [0,22] (v.set (Int.toNat v2) rv3)) rfl rfl (zeR _ _ _ _ _ _ rfl rfl) lzz)))))))
  cases h;exact zaF rfl lzz
 ·exact lq ⟨[(2,.ptr 18 0),(3,.ptr 21 0),(14,.own zc 57 19 [0] rv),(15,kI (rv.length:Int)),(16,kI 0)],[⟨18,27,[kN,kN]⟩,⟨21,27,[.own zc 57 19 [0] rv,.own Rp.str 9 20 [] rv2]⟩]⟩ (zcW 14 (.own zc 57 19 [0,22] rv) rfl (zeR _ _ _ _ _ _ rfl rfl) (zcD 21 0 (.own zc 57 19 [0,22] rv) rfl rfl (zeR _ _ _ _ _ _ rfl rfl) lzz))
 refine zbj _ rfl (jp ?_);cases h;exact zA (lk [2] [18] 18 2 (lk [2] [2] 19 3 (lk [2] [2] 20 5 (lk [2] [2] 22 4 lzz))))
theorem zov (vn:∀{x:zb} {r:zb},xc x=some r->FnOk Tryz.prog 78 [.rc zd [0] x] [.ag (zh 3 [0,4] 5 [] r)]) (vo:∀{v:za} {r:za},xd v=some r->FnOk Tryz.prog 111 [.rc zc [0] v] [.ag (zap 3 [] 4 [] 5 [0,6] r)]) (h:zdo xc xd v=some r):FnOk Tryz.prog 111 [.rc zc [0] v] [.ag (zap 3 [] 4 [] 5 [0,6] r)]:=by
 refine zz (E:=⟨[(2,.ptr 2 0)],[⟨2,57,(zap 3 [] 4 [] 5 [0,6] r)⟩]⟩) 34 Tryz.func111 rfl rfl rfl ⟨⟨_,_,rfl,rfl,rfl,⟨Tryz.isAgg57,Tryz.sizeOf57⟩⟩,trivial⟩ (fun Xt=>?_);refine zq ?_;unfold zdo at h;refine jr (ra 0 [.rc zc [0] v] rfl (zbw 18 (zk [0] v) [0] rfl rfl rfl (by rw [zv]<;>rfl) rfl) rfl (rfl' [19])) (jb h fun rv uC h=>jb h fun rv2 uJ h=>jb h fun rv3 uO h=>jd [2,3] [19,23] zes (by exact (lw_e (lw_e (lw_e (lw_e (lx (lf1 142 (zU [.sl wz [0] v.Words] [0] 18 rfl Tryz.call142 (zfJ uC) rfl rfl rfl rfl rfl)) (lw_e (lw_e (lx (lf1 110 (zU [.sl Rp.str [0] v.Texts] [0] 19 rfl Tryz.call110 (zcF uJ) rfl rfl rfl rfl rfl)) (lw_e (lw_e (lx (lf1 143 (zU [.sl zd [0] v.Subs] [0] 20 rfl Tryz.call143 (zeX uO) rfl rfl rfl rfl rfl)) (ly [kI v.Number,.own wz 83 20 [] rv,.own Rp.str 9 21 [] rv2,.own zd 27 22 [0] rv3] (zcC [kI v.Number,.own wz 83 20 [] rv,.own Rp.str 9 21 [] rv2,.own zd 27 22 [0] rv3] [kI v.Number,.own wz 83 20 [] rv,.own Rp.str 9 21 [] rv2,.own zd 27 22 [0] rv3] rfl zyy rfl) rfl (lx (zjK 23 [kI 0,kN,kN,kN] rfl Tryz.zeroValue57 rfl) (ly [.ptr 23 0,.ag [kI v.Number,.own wz 83 20 [] rv,.own Rp.str 9 21 [] rv2,.own zd 27 22 [0] rv3]] (ziH (b:=⟨23,57,[kI 0,kN,kN,kN]⟩) (off:=0) [kI v.Number,.own wz 83 20 [] rv,.own Rp.str 9 21 [] rv2,.own zd 27 22 [0] rv3] rfl Tryz.sizeOf57 rfl rfl rfl) rfl l0))))))))))))))) (jp (zB (jb h fun q uF h=>zaH (fun s:((List zb)×Int)=>zaP xc rv3 s.1 s.2) (fun s=>⟨[(2,.ptr 19 0),(3,.ptr 23 0),(19,.own zd 27 22 [0,24] s.1),(20,kI (rv3.length:Int)),(21,kI s.2)],[⟨19,57,[kI 0,kN,kN,kN]⟩,⟨23,57,[kI v.Number,.own wz 83 20 [] rv,.own Rp.str 9 21 [] rv2,.own zd 27 22 [0,24] s.1]⟩]⟩) (fun o e a w=>e= .exit 0/\Sx ⟨⟨34,[]⟩,Xt,false,#[]⟩ ⟨[(2,.ptr 19 0),(3,.ptr 23 0)],[⟨19,57,[kI 0,kN,kN,kN]⟩,⟨23,57,[kI v.Number,.own wz 83 20 [] rv,.own Rp.str 9 21 [] rv2,.own zd 27 22 [0,24] o]⟩]⟩ a w) ?_ uF ?_ ?_))))
 ·clear h;intro s o h;obtain ⟨v2,v3⟩:=s;refine zq ?_;replace h:zaP xc rv3 v2 v3=some o:=h;unfold zaP at h;refine jp (jI h (fun uA h=>?_) fun uA h=>?_)
  ·refine zB (jb h fun x uI h=>jr (ra 1 [.own zd 27 22 [0,24] v2,kI v3] rfl (ztz rfl zgP.el uI) rfl (ra 0 [.own zd 27 22 [0,24] v2,.ptr 22 (Int.toNat v3*zd.size)] rfl (zAN (r:=zd) (e:=27) (ℓ:=22) (C:=[0,24]) (xs:=v2) (.tmp 19) x rfl ⟨Tryz.isAgg27,Tryz.sizeOf27⟩ uI) rfl (ral 2 [35] [.ptr 35 0,.rc zd [0,24] x] rfl (zfy (r:=zd) (b:=⟨35,27,[kN,kN]⟩) (off:=0) (zj [0,24] x) rfl Tryz.sizeOf27 rfl rfl (by rw [zn]<;>rfl) rfl) rfl rf))) (jb h fun rv4 uS h=>jb h fun x2 uL h=>jk [2,3,4,5,19,20,21] [19,23,35] (zoH ⟨[(2,.ptr 19 0),(3,.ptr 23 0),(19,.own zd 27 22 [0,24,37,38,39] (v2.set (Int.toNat v3) rv4)),(20,kI (rv3.length:Int)),(21,kI v3)],[⟨19,57,[kI 0,kN,kN,kN]⟩,⟨23,57,[kI v.Number,.own wz 83 20 [] rv,.own Rp.str 9 21 [] rv2,.own zd 27 22 [0,24,37,38,39] (v2.set (Int.toNat v3) rv4)]⟩]⟩ [.ev,.ev,.ev,.ex [35] [] [] (.ag (zj [0,24] x)) [],.ex [] [] [37,39] (.ag (zh 37 [0,24,38] 39 [] rv4)) [],.ex [] [] [] (.ptr 22 (Int.toNat v3*zd.size)) [],.raw [4,0,1,4,10,14] [22] [] [.sl 27 (.own zd 27 22 [0,24,37,38,39] (v2.set (Int.toNat v3) rv4)),.sl 19 (.own zd 27 22 [0,24,37,38,39] (v2.set (Int.toNat v3) rv4)),.bx ⟨23,57,[kI v.Number,.own wz 83 20 [] rv,.own Rp.str 9 21 [] rv2,.own zd 27 22 [0,24,37,38,39] (v2.set (Int.toNat v3) rv4)]⟩]] [⟨[(.tmp 5,.ptr 35 0)],[⟨35,27,(zj [0,24] x)⟩],[]⟩,⟨[(.func 78,.lf (.val (.func (.func 78) #[] #[]))),(.tmp 29,.ag (zj [0,24] x))],[],[]⟩,⟨[(.tmp 27,.own zd 27 22 [0,24] v2),(.tmp 28,kI v3)],[],[]⟩,⟨[],[],[.sl 27 (.own zd 27 22 [0,24] v2),.sl 31 (.ptr 22 (Int.toNat v3*zd.size)),.sl 30 (.ag (zh 37 [0,24,38] 39 [] rv4)),.sl 27 (.own zd 27 22 [0,24] v2),.sl 19 (.own zd 27 22 [0,24] v2),.bx ⟨23,57,[kI v.Number,.own wz 83 20 [] rv,.own Rp.str 9 21 [] rv2,.own zd 27 22 [0,24] v2]⟩]⟩] [2,3,19,20,21] [19,23] zes (by kernel_rfl) (by exact (lw_e (lw_e (lw_e (lw_x (zkg (zcX (b:=⟨35,27,(zj [0,24] x)⟩) (zj [0,24] x) rfl ⟨Tryz.isAgg27,Tryz.sizeOf27⟩ rfl rfl) rfl) (lw_x (zy.cons _ (zkg (zy.le (ins':=[(.tmp 29,.ag (zj [0,24] x))]) (zU (args:=[.tmp 29]) [.rc zd [0,24] x] [0,24] 34 rfl Tryz.call78 (vn uS) rfl rfl rfl rfl rfl) ⟨⟨rfl,zx [0,24] x⟩,trivial⟩) rfl)) (lw_x (zkg (ztz rfl zgP.el uL) rfl) (lw_r (zoQ (ins:=[(.tmp 27,.own zd 27 22 [0,24] v2),(.tmp 31,.ptr 22 (Int.toNat v3*zd.size)),(.tmp 30,.ag (zh 37 [0,24,38] 39 [] rv4))]) [27,19] [(⟨23,57,[kI v.Number,.own wz 83 20 [] rv,.own Rp.str 9 21 [] rv2,.own zd 27 22 [0,24] v2]⟩,⟨23,57,[kI v.Number,.own wz 83 20 [] rv,.own Rp.str 9 21 [] rv2,.own zd 27 22 [0,24,37,38,39] (v2.set (Int.toNat v3) rv4)]⟩)] (zEy (r:=zd) (e:=27) (ℓ:=22) (C:=[0,24]) (xs:=v2) (off:=(Int.toNat v3*zd.size)) (.tmp 27) (Int.toNat v3) 0 x2 rv4 [0,24,37,38,39] rfl rfl Tryz.sizeOf27 rfl (zqo uL) rfl (zwO (by rw [zn]<;>rfl) _) rfl) ⟨trivial,trivial,trivial,trivial⟩ (fun _ _=>nofun) ⟨⟨rfl,rfl,rfl,⟨zab rfl,zab rfl,zab rfl,zgn 0 rfl,trivial⟩⟩,trivial⟩) lw_0)))))))) (zas (jp ?_)))));cases h;exact zal (lk [2,3,19,20,21] [19,23] 37 24 (lk [2,3,19,20,21] [19,23] 38 24 (lk [2,3,19,20,21] [19,23] 39 24 (lq ⟨[(2,.ptr 19 0),(3,.ptr 23 0),(19,.own zd 27 22 [0,24,24,24,24] (v2.set (Int.toNat v3) rv4)),(20,kI (rv3.length:Int)),(21,kI (IntKind.i64.wrap (v3+1)))],[⟨19,57,[kI 0,kN,kN,kN]⟩,⟨23,57,[kI v.Number,.own wz 83 20 [] rv,.own Rp.str 9 21 [] rv2,.own zd 27 22 [0,24,24,24,24] (v2.set (Int.toNat v3) rv4)]⟩]⟩ (zcW 19 (.own zd 27 22 [0,24] (v2.set (Int.toNat v3) rv4)) rfl (zeR _ _ _ _ _ _ rfl rfl) (zcD 23 3 (.own zd 27 22 [0,24] (v2.set (Int.toNat v3) rv4)) rfl rfl (zeR _ _ _ _ _ _ rfl rfl) lzz))))))
  cases h;exact zaF rfl lzz
 ·exact lq ⟨[(2,.ptr 19 0),(3,.ptr 23 0),(19,.own zd 27 22 [0] rv3),(20,kI (rv3.length:Int)),(21,kI 0)],[⟨19,57,[kI 0,kN,kN,kN]⟩,⟨23,57,[kI v.Number,.own wz 83 20 [] rv,.own Rp.str 9 21 [] rv2,.own zd 27 22 [0] rv3]⟩]⟩ (zcW 19 (.own zd 27 22 [0,24] rv3) rfl (zeR _ _ _ _ _ _ rfl rfl) (zcD 23 3 (.own zd 27 22 [0,24] rv3) rfl rfl (zeR _ _ _ _ _ _ rfl rfl) lzz))
 refine zbj _ rfl (jp ?_);cases h;exact zA (lk [2] [19] 19 2 (lk [2] [2] 20 3 (lk [2] [2] 21 4 (lk [2] [2] 22 5 (lk [2] [2] 24 6 lzz)))))
theorem zic (uH:Nat):(∀{x:zb} {r:zb},zff uH x=some r->FnOk Tryz.prog 78 [.rc zd [0] x] [.ag (zh 3 [0,4] 5 [] r)])/\(∀{v:za} {r:za},zer uH v=some r->FnOk Tryz.prog 111 [.rc zc [0] v] [.ag (zap 3 [] 4 [] 5 [0,6] r)]):=by
  induction uH with
  | zero=>exact ⟨fun h=>absurd h nofun,fun h=>absurd h nofun⟩
  | succ uH ih=>exact ⟨fun h=>zsn (fun hh=>ih.1 hh) (fun hh=>ih.2 hh) h,fun h=>zov (fun hh=>ih.1 hh) (fun hh=>ih.2 hh) h⟩
theorem zut (h:zff uH x=some r):FnOk Tryz.prog 78 [.rc zd [0] x] [.ag (zh 3 [0,4] 5 [] r)]:=(zic uH).1 h
theorem ziB (h:zcj slices=some r):FnOk Tryz.prog 112 [.sl wA [0] slices] [.own wz 83 2 [] r]:=by
 refine zz (E:=⟨[(2,.own wz 83 2 [] r)],[]⟩) 36 Tryz.func112 rfl rfl rfl ⟨rfl,trivial⟩ (fun Xt=>?_);refine zq ?_;unfold zcj at h;refine jp (jp (jp (zB (jb h fun q uF h=>zaH (fun s:(Int×Int)=>zR slices s.1 s.2) (fun s=>⟨[(0,.sl wA [0] slices),(3,kI s.1),(9,.sl wA [0] slices),(10,kI (slices.length:Int)),(11,kI s.2)],[]⟩) (fun o e a w=>e= .exit 0/\Sx ⟨⟨36,[]⟩,Xt,false,#[]⟩ ⟨[(0,.sl wA [0] slices),(3,kI o)],[]⟩ a w) ?_ uF lzz ?_))))
 ·clear h;intro s o h;obtain ⟨size,v⟩:=s;refine zq ?_;replace h:zR slices size v=some o:=h;unfold zR at h;refine jp (jI h (fun uA h=>?_) fun uA h=>?_)
  ·refine zB (jb h fun x uI h=>jr (ra 0 [.sl wA [0] slices,kI v] rfl (zbt rfl zAf.el (zV _ _ _) uI) rfl (ra 0 [.ep wA [0] x 0] rfl (zgf wz x rfl rfl rfl) rfl rf)) (jp (jp (jI h (fun uB h=>?_) fun uB h=>?_))))
   · exact absurd h nofun
   refine zas (jp ?_);cases h;exact zal lzz
  cases h;exact zaF rfl lzz
 refine zbj _ rfl (jb h fun rv uC h=>jr (rl 1 [1] 12 Tryz.call144 (ziT uC) rf) (jp (zB (jb h fun q2 uT h=>zaH (fun s:((List Int)×Int)=>zaf slices s.1 s.2) (fun s=>⟨[(6,.own wz 83 14 [] s.1),(25,.sl wA [0] slices),(26,kI (slices.length:Int)),(27,kI s.2)],[]⟩) (fun o e a w=>e= .exit 2/\Sx ⟨⟨36,[]⟩,Xt,false,#[]⟩ ⟨[(6,.own wz 83 14 [] o)],[]⟩ a w) ?_ uT lzz ?_))))
 ·clear h;intro s o h;obtain ⟨newslice,v2⟩:=s;refine zq ?_;replace h:zaf slices newslice v2=some o:=h;unfold zaf at h;refine jp (jI h (fun uE h=>?_) fun uE h=>?_)
  ·refine zB (jb h fun x2 uL h=>jr (ra 0 [.sl wA [0] slices,kI v2] rfl (zbt rfl zAf.el (zV _ _ _) uL) rfl (ra 0 [.ep wA [0] x2 0] rfl (zgf wz x2 rfl rfl rfl) rfl rf)) (jb h fun v3 uY h=>jr (ra 2 [.own wz 83 14 [] newslice,.sl wz [0] x2] rfl (zji 14 [] rfl zpo.el rfl (zfi _ _ _ _ _) (zV _ _ _) uY (.inl (zrw _)) rfl) rfl rf) (zas (jp ?_))));cases h;exact zal lzz
  cases h;exact zaF rfl lzz
 refine zbj _ rfl (jp ?_);obtain rfl:=(sj h);exact zA (lk [2] [] 14 2 lzz)
theorem zfw (h:zbB slices=some r):FnOk Tryz.prog 82 [.sl wB [0] slices] [.own Rp.str 9 2 [] r]:=by
 refine zz (E:=⟨[(2,.own Rp.str 9 2 [] r)],[]⟩) 36 Tryz.func82 rfl rfl rfl ⟨rfl,trivial⟩ (fun Xt=>?_);refine zq ?_;unfold zbB at h;refine jp (jp (jp (zB (jb h fun q uF h=>zaH (fun s:(Int×Int)=>zQ slices s.1 s.2) (fun s=>⟨[(0,.sl wB [0] slices),(3,kI s.1),(9,.sl wB [0] slices),(10,kI (slices.length:Int)),(11,kI s.2)],[]⟩) (fun o e a w=>e= .exit 0/\Sx ⟨⟨36,[]⟩,Xt,false,#[]⟩ ⟨[(0,.sl wB [0] slices),(3,kI o)],[]⟩ a w) ?_ uF lzz ?_))))
 ·clear h;intro s o h;obtain ⟨size,v⟩:=s;refine zq ?_;replace h:zQ slices size v=some o:=h;unfold zQ at h;refine jp (jI h (fun uA h=>?_) fun uA h=>?_)
  ·refine zB (jb h fun x uI h=>jr (ra 0 [.sl wB [0] slices,kI v] rfl (zbt rfl zxe.el (zV _ _ _) uI) rfl (ra 0 [.ep wB [0] x 0] rfl (zgf Rp.str x rfl rfl rfl) rfl rf)) (jp (jp (jI h (fun uB h=>?_) fun uB h=>?_))))
   · exact absurd h nofun
   refine zas (jp ?_);cases h;exact zal lzz
  cases h;exact zaF rfl lzz
 refine zbj _ rfl (jb h fun rv uC h=>jr (rl 1 [1] 12 Tryz.call116 (ziS uC) rf) (jp (zB (jb h fun q2 uT h=>zaH (fun s:((List Str)×Int)=>zae slices s.1 s.2) (fun s=>⟨[(6,.own Rp.str 9 14 [] s.1),(25,.sl wB [0] slices),(26,kI (slices.length:Int)),(27,kI s.2)],[]⟩) (fun o e a w=>e= .exit 2/\Sx ⟨⟨36,[]⟩,Xt,false,#[]⟩ ⟨[(6,.own Rp.str 9 14 [] o)],[]⟩ a w) ?_ uT lzz ?_))))
 ·clear h;intro s o h;obtain ⟨newslice,v2⟩:=s;refine zq ?_;replace h:zae slices newslice v2=some o:=h;unfold zae at h;refine jp (jI h (fun uE h=>?_) fun uE h=>?_)
  ·refine zB (jb h fun x2 uL h=>jr (ra 0 [.sl wB [0] slices,kI v2] rfl (zbt rfl zxe.el (zV _ _ _) uL) rfl (ra 0 [.ep wB [0] x2 0] rfl (zgf Rp.str x2 rfl rfl rfl) rfl rf)) (jb h fun v3 uY h=>jr (ra 2 [.own Rp.str 9 14 [] newslice,.sl Rp.str [0] x2] rfl (zji 14 [] rfl zmz.el rfl (zfi _ _ _ _ _) (zV _ _ _) uY (.inl zvG) rfl) rfl rf) (zas (jp ?_))));cases h;exact zal lzz
  cases h;exact zaF rfl lzz
 refine zbj _ rfl (jp ?_);obtain rfl:=(sj h);exact zA (lk [2] [] 14 2 lzz)
theorem zhE (h:zbD slices=some r):FnOk Tryz.prog 113 [.sl (Rp.list zd) [0] slices] [.own zd 27 2 [0] r]:=by
 refine zz (E:=⟨[(2,.own zd 27 2 [0] r)],[]⟩) 36 Tryz.func113 rfl rfl rfl ⟨rfl,trivial⟩ (fun Xt=>?_);refine zq ?_;unfold zbD at h;refine jp (jp (jp (zB (jb h fun q uF h=>zaH (fun s:(Int×Int)=>zL slices s.1 s.2) (fun s=>⟨[(0,.sl (Rp.list zd) [0] slices),(3,kI s.1),(9,.sl (Rp.list zd) [0] slices),(10,kI (slices.length:Int)),(11,kI s.2)],[]⟩) (fun o e a w=>e= .exit 0/\Sx ⟨⟨36,[]⟩,Xt,false,#[]⟩ ⟨[(0,.sl (Rp.list zd) [0] slices),(3,kI o)],[]⟩ a w) ?_ uF lzz ?_))))
 ·clear h;intro s o h;obtain ⟨size,v⟩:=s;refine zq ?_;replace h:zL slices size v=some o:=h;unfold zL at h;refine jp (jI h (fun uA h=>?_) fun uA h=>?_)
  ·refine zB (jb h fun x uI h=>jr (ra 0 [.sl (Rp.list zd) [0] slices,kI v] rfl (zbt rfl zAg.el (zV _ _ _) uI) rfl (ra 0 [.ep (Rp.list zd) [0] x 0] rfl (zgf zd x rfl rfl rfl) rfl rf)) (jp (jp (jI h (fun uB h=>?_) fun uB h=>?_))))
   · exact absurd h nofun
   refine zas (jp ?_);cases h;exact zal lzz
  cases h;exact zaF rfl lzz
 refine zbj _ rfl (jb h fun rv uC h=>jr (rl 1 [1] 12 Tryz.call145 (zhZ uC) rf) (jp (zB (jb h fun q2 uT h=>zaH (fun s:((List zb)×Int)=>zX slices s.1 s.2) (fun s=>⟨[(6,.own zd 27 14 [0] s.1),(25,.sl (Rp.list zd) [0] slices),(26,kI (slices.length:Int)),(27,kI s.2)],[]⟩) (fun o e a w=>e= .exit 2/\Sx ⟨⟨36,[]⟩,Xt,false,#[]⟩ ⟨[(6,.own zd 27 14 [0] o)],[]⟩ a w) ?_ uT ?_ ?_))))
 ·clear h;intro s o h;obtain ⟨newslice,v2⟩:=s;refine zq ?_;replace h:zX slices newslice v2=some o:=h;unfold zX at h;refine jp (jI h (fun uE h=>?_) fun uE h=>?_)
  ·refine zB (jb h fun x2 uL h=>jr (ra 0 [.sl (Rp.list zd) [0] slices,kI v2] rfl (zbt rfl zAg.el (zV _ _ _) uL) rfl (ra 0 [.ep (Rp.list zd) [0] x2 0] rfl (zgf zd x2 rfl rfl rfl) rfl rf)) (jb h fun v3 uY h=>jr (ra 2 [.own zd 27 14 [0] newslice,.sl zd [0] x2] rfl (zji 14 [0] rfl zgP.el rfl (zfi _ _ _ _ _) (zV _ _ _) uY (.inr rfl) rfl) rfl rf) (zas (jp ?_))));cases h;exact zal lzz
  cases h;exact zaF rfl lzz
 ·exact lq ⟨[(6,.own zd 27 14 [] rv),(25,.sl (Rp.list zd) [0] slices),(26,kI (slices.length:Int)),(27,kI 0)],[]⟩ (zcW 6 (.own zd 27 14 [0] rv) rfl (zeR _ _ _ _ _ _ rfl rfl) lzz)
 refine zbj _ rfl (jp ?_);obtain rfl:=(sj h);exact zA (lk [2] [] 14 2 lzz)
theorem zpe (h:zgd uH l=some r):FnOk Tryz.prog 9 [.sl zd [0] l] [kB r]:=by
 refine zz (E:=⟨[(2,kB r)],[]⟩) 16 Tryz.func9 rfl rfl rfl ⟨rfl,trivial⟩ (fun Xt=>?_);refine zq ?_;unfold zgd at h;refine jp (jp (zB (jb h fun q uF h=>zaH (fun s:Int=>zbs uH l s) (fun s=>⟨[(0,.sl zd [0] l),(3,kI s)],[]⟩) (fun o e a w=>match o with| (.inl v_)=>e= .exit 0/\Sx ⟨⟨16,[]⟩,Xt,false,#[]⟩ ⟨[],[]⟩ a w| (.inr v_)=>e= .ret/\Sx ⟨⟨16,[]⟩,Xt,false,#[]⟩ ⟨[(2,kB true)],[]⟩ a w) ?_ uF lzz ?_)))
 ·clear h;intro i o h;refine zq ?_;replace h:zbs uH l i=some o:=h;unfold zbs at h;refine jp (jI h (fun uA h=>?_) fun uA h=>?_)
  ·refine zB (jb h fun x uI h=>jb h fun rv uC h=>jr (ra 2 [.sl zd [0] l,kI i] rfl (zbt rfl zgP.el (zV _ _ _) uI) rfl (ra 0 [.ep zd [0] x 0] rfl (zeT rfl ⟨Tryz.isAgg27,Tryz.sizeOf27⟩) rfl (rl 0 [0] 10 Tryz.call35 (znH uC) rf))) (jI h (fun uB h=>?_) fun uB h=>?_))
   ·refine jp ?_;cases h;exact zcA lzz
   refine zas (jp ?_);cases h;exact zal lzz
  cases h;exact zaF rfl lzz
 rcases q with u| u2
 ·refine zbj _ rfl (jp ?_);obtain rfl:=(sj h);exact zA lzz
 obtain rfl:=(sj h);exact zfb lzz
end Go.Proofs.YtekgmimingolbaaGreat
