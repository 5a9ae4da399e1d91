/-
  The Go functions do what the plain functions say. No condition.
-/
import Derived.Test.YtekgmimingolbaaGreatx1G1
import Derived.Test.YtekgmimingolbaaGreatx1G2
import Derived.Test.YtekgmimingolbaaGreatx1Y
set_option autoImplicit true
set_option relaxedAutoImplicit true
namespace Go.Proofs.YtekgmimingolbaaGreat
open Go Go.RowKit
set_option linter.unusedVariables false
set_option maxRecDepth 100000
set_option maxHeartbeats 3200000
theorem zsk (h:zhE x y=some r):FnOk Tryz.prog 106 [kI x,kI y] [kI r]:=by
 refine zy (E:=⟨[(4,kI r)],[]⟩) 20 Tryz.func106 rfl rfl rfl ⟨rfl,trivial⟩ (fun Xt=>?_);refine zm ?_;unfold zhE at h;refine jp (jb h fun rv uZ h=>jr (rl 1 [1] 9 Tryz.call138 (znw uZ) rf) (jb h fun rv2 vj h=>jr (rl 1 [1] 9 Tryz.call138 (znw vj) rf) (jp (jI h (fun uW h=>?_) fun uW h=>?_))))
 ·refine jp (jI h (fun uY h=>?_) fun uY h=>?_)
  ·refine jp ?_;cases h;exact zw lzz
  refine jp ?_;cases h;exact zw lzz
 refine jp (jI h (fun u9 h=>?_) fun u9 h=>?_)
 ·refine jp ?_;cases h;exact zw lzz
 refine jp (jI h (fun vd h=>?_) fun vd h=>?_)
 ·refine jp ?_;cases h;exact zw lzz
 refine jp (jI h (fun vh h=>?_) fun vh h=>?_)
 ·refine jp ?_;cases h;exact zw lzz
 refine jp ?_;cases h;exact zw lzz
theorem zAb (h:zoO way other=some r):FnOk Tryz.prog 101 [.sl kp [0] way,.sl kp [0] other] [kB r]:=by
 refine zy (E:=⟨[(4,kB r)],[]⟩) 23 Tryz.func101 rfl rfl rfl ⟨rfl,trivial⟩ (fun Xt=>?_);refine zm ?_;unfold zoO at h;refine jp (jb h fun g uX h=>zab ⟨[(4,kB g)],[]⟩ ?_ ?_)
 ·refine (rsl 4 [] 8 (decide ((other.length:Int)>0)) (fun uW=>?_) (fun uW=>?_))
  ·replace uX:=iteT uX uW;refine (rsl 7 [] 15 (decide ((other.length:Int)<=(way.length:Int))) (fun uY=>?_) (fun uY=>?_))
   ·replace uX:=iteT uX uY;refine jb uX fun v vr uX=>jb uX fun rv uZ uX=>?_;cases uX;exact (ra 3 [.sl kp [0] way,kI (other.length:Int)] rfl (zqV none (some (kI (other.length:Int))) rfl zlP.el (zC _ _ _) ⟨rfl,rfl⟩ ⟨rfl,rfl⟩ vr) rfl (rl 1 [0] 9 Tryz.call134 (zmY uZ) rgg))
   replace uX:=iteF uX uY;cases uX;exact rgg
  replace uX:=iteF uX uW;cases uX;exact rgg
 obtain rfl:=(sj h);exact zw lzz
theorem zrb {ways:(List (List Int))} (h:zku ways=some r):FnOk Tryz.prog 68 [.sl kq [0] ways] [.own kq 53 2 [3] r]:=by
 refine zy (E:=⟨[(2,.own kq 53 2 [3] r)],[]⟩) 23 Tryz.func68 rfl rfl rfl ⟨rfl,trivial⟩ (fun Xt=>?_);refine zm ?_;unfold zku at h;refine jp (jb h fun v vr h=>jr (ra 2 [kI (ways.length:Int),kI (ways.length:Int)] rfl (zEq 13 rfl zne rfl vr) rfl rf) (jp (zv (jb h fun q vc h=>zac (fun s:((List (List Int))×Int)=>zef ways s.1 s.2) (fun s=>⟨[(3,.own kq 53 13 [14] s.1),(9,.sl kq [0] ways),(10,kI (ways.length:Int)),(11,kI s.2)],[]⟩) (fun o e a w=>e= .exit 0/\Sx ⟨⟨23,[]⟩,Xt,false,#[]⟩ ⟨[(3,.own kq 53 13 [14] o)],[]⟩ a w) ?_ vc ?_ ?_))))
 ·clear h;intro s o h;obtain ⟨l,v2⟩:=s;refine zm ?_;replace h:zef ways l v2=some o:=h;unfold zef at h;refine jp (jI h (fun uW h=>?_) fun uW h=>?_)
  ·refine zv (jb h fun x vg h=>jr (ra 1 [.sl kq [0] ways,kI v2] rfl (zai rfl zne.el (zC _ _ _) vg) rfl (ra 0 [.ep kq [0] x 0] rfl (zgf kp x rfl rfl rfl) rfl rf)) (jb h fun rv uZ h=>jb h fun x2 vk h=>jr (rl 3 [0] 15 Tryz.call102 (zmX uZ) (ra 0 [.own kq 53 13 [14] l,kI v2] rfl (zwU rfl zne.el vk) rfl (rkl 0 [] ⟨[(3,.own kq 53 13 [14] l),(9,.sl kq [0] ways),(10,kI (ways.length:Int)),(11,kI v2),(19,.own kp 3 17 [] rv),(20,.ptr 13 (Int.toNat v2*kq.size))],[]⟩ (zKz (r:=kq) (e:=53) (C:=[14]) (xs:=l) [3] (Int.toNat v2) 0 x2 rv [14,17] rfl rfl rfl rfl rfl rfl Tryz.sizeOf53 rfl (by kernel_rfl) rfl (ztD vk) rfl (zAm rfl _) rfl rf)))) (zX (jp ?_))));cases h;exact zH (lk [3,9,10,11] [] 17 14 (lq ⟨[(3,.own kq 53 13 [14,14] (l.set (Int.toNat v2) rv)),(9,.sl kq [0] ways),(10,kI (ways.length:Int)),(11,kI (IntKind.i64.wrap (v2+1)))],[]⟩ (zdE 3 (.own kq 53 13 [14] (l.set (Int.toNat v2) rv)) rfl (zdz _ _ _ _ _ _ rfl rfl) lzz)))
  cases h;exact zad rfl lzz
 ·exact lq ⟨[(3,.own kq 53 13 [] v),(9,.sl kq [0] ways),(10,kI (ways.length:Int)),(11,kI 0)],[]⟩ (zdE 3 (.own kq 53 13 [14] v) rfl (zdz _ _ _ _ _ _ rfl rfl) lzz)
 refine zas _ rfl (jp ?_);obtain rfl:=(sj h);exact zw (lk [2] [] 13 2 (lk [2] [] 14 3 lzz))
theorem zkL (h:zeh sv=some r):FnOk Tryz.prog 70 [.sl kq [0] sv] [.fv 105 [.bp kr 45 910500 [0] r]]:=by
 refine zy (E:=⟨[(2,.fv 105 [.bp kr 45 910500 [0] r])],[]⟩) 4 Tryz.func70 rfl rfl rfl ⟨rfl,trivial⟩ (fun Xt=>?_);refine zm ?_;unfold zeh at h;refine jq [910500] (jr (ra 0 [.ptr 910500 0] rfl (zIZ (g:=105) [.tmp 1] [⟨910500,45,[.sl kq [0] sv]⟩] [.bp kr 45 910500 [0] sv] rfl ⟨⟨rfl,rfl,rfl,rfl⟩,trivial⟩ rfl) rfl rf) ?_);obtain rfl:=(sj h);exact zw lzz
theorem zel (h:zar v=some r):FnOk Tryz.prog 135 [kN,.fv 105 [.ep kr [0] v 0]] [.own kq 53 2 [3,0] r]:=by
 refine zFe (E:=⟨[(4,.own kq 53 2 [3,0] r)],[]⟩) 13 Tryz.func135 rfl rfl rfl ⟨rfl,trivial⟩ rfl rfl (fun Xt=>?_);refine zm ?_;unfold zar at h;refine jq [15] (jp (zv (jb h fun q vc h=>zBo (E':=⟨[(2,.ptr 15 0),(6,.fv 105 [.ep kr [0] v 0])],[⟨15,45,[.own kq 53 18 [16,0] []]⟩]⟩) ?_ ?_)))
 ·exact lq ⟨[(2,.ptr 15 0),(6,.fv 105 [.ep kr [0] v 0])],[⟨15,45,[kN]⟩]⟩ (zaN 15 0 (.own kq 53 18 [16,0] []) rfl rfl (zaT kq 53 18 [16,0] rfl) lzz)
 refine zHc (it:=fun {σ:Type} (kf:Rnd σ (List Int)) (sg:σ)=>zbe v kf sg) (zkh v) [] [2] [15] [(2,.ptr 15 0)] (fun s:(List (List Int))=>[⟨15,45,[.own kq 53 18 [16,0] s]⟩]) (fun o:Empty=>[]) (fun o:Empty=> .ret) (fun (s:(List (List Int))) (x:(List Int))=>zO s x) (fun (s:(List (List Int))) (x:(List Int))=>⟨[(2,.ptr 15 0),(5,.sl kp [0] x)],[⟨15,45,[.own kq 53 18 [16,0] s]⟩]⟩) rfl rfl Tryz.call105 rfl rfl rfl rfl rfl rfl (fun _=>rfl) (fun o=>rfl) rfl rfl (fun _=>rfl) ?_ (fun _ _=>⟨rfl,rfl⟩) ?_ vc ?_
 ·clear h;intro Xr old f x;exact zm (zBo (E':=⟨[(7,.sl kp [0] x),(2,.ptr 15 0)],[⟨15,45,[.own kq 53 18 [16,0] f]⟩]⟩) (fun _ _ _ hs=>hs) (jp (zH lzz)))
 ·clear h;intro Xr old f x o h;refine zm (zBo (E':=⟨[(2,.ptr 15 0),(5,.sl kp [0] x)],[⟨15,45,[.own kq 53 18 [16,0] f]⟩]⟩) (fun _ _ _ hs=>hs) ?_);replace h:zO f x=some o:=h;unfold zO at h;refine zv (jb h fun v2 vz h=>jr (rc 2 rfl (zbX [.sl kp [0] x] 20 [0] ([x]:(List (List Int))) rfl zne rfl rfl rfl rfl) (ra 0 [.own kq 53 18 [16,0] f,.own kq 53 20 [0] ([x]:(List (List Int)))] rfl (zeR 18 [16,0,20] rfl zne.el rfl (zbu _ _ _ _ _) (zfL _ _ _ _ _) vz (.inr rfl) rfl) rfl rf)) (zX ?_));cases h;exact zH (lk [2] [15] 20 16 (lq ⟨[(2,.ptr 15 0)],[⟨15,45,[.own kq 53 18 [16,0,16] v2]⟩]⟩ (zaN 15 0 (.own kq 53 18 [16,0] v2) rfl rfl (zdz _ _ _ _ _ _ rfl rfl) lzz)))
 rcases q with u| j
 ·refine zBo (E':=⟨[(2,.ptr 15 0)],[⟨15,45,[.own kq 53 18 [16,0] u]⟩]⟩) (fun _ _ _ hs=>hs) (zX (jp ?_));obtain rfl:=(sj h);exact zw (lk [4] [] 18 2 (lk [4] [] 16 3 lzz))
 exact nomatch j
theorem zBq (h:zqT=some r):FnOk Tryz.prog 139 [] [.own kp 3 2 [] r]:=by
 refine zy (E:=⟨[(0,.own kp 3 2 [] r)],[]⟩) 4 Tryz.func139 rfl rfl rfl ⟨rfl,trivial⟩ (fun Xt=>?_);refine zm ?_;unfold zqT at h;refine jp (jb h fun rv uZ h=>jb h fun v vr h=>jr (rl 0 [1] 11 Tryz.call171 (zsv uZ) (rkl 0 [] ⟨[(1,.om kp zF 13 [] rv)],[]⟩ (zBV (rv:=zF) (m:=rv) 14 zFL rfl rfl rfl rfl rfl rfl Tryz.call170 Tryz.call114 rfl (zEf _ _ _ _ _) vr rfl rf))) ?_);obtain rfl:=(sj h);exact zw (lk [0] [] 14 2 lzz)
theorem zoY (h:ziE vG=some r):FnOk Tryz.prog 172 [kS vG] [kB r]:=by
 refine zy (E:=⟨[(2,kB r)],[]⟩) 34 Tryz.func172 rfl rfl rfl ⟨rfl,trivial⟩ (fun Xt=>?_);refine zm ?_;unfold ziE at h;refine jp (jb h fun g uX h=>zab ⟨[(0,kS vG),(15,kB g)],[]⟩ ?_ ?_)
 ·refine (rsl 3 [] 6 (vG==[]) (fun uW=>?_) (fun uW=>?_))
  ·replace uX:=iteT uX uW;cases uX;exact rgg
  replace uX:=iteF uX uW;refine (rsl 5 [] 11 (decide ((vG.length:Int)>60)) (fun uY=>?_) (fun uY=>?_))
  ·replace uX:=iteT uX uY;cases uX;exact rgg
  replace uX:=iteF uX uY;refine jb uX fun c wo uX=>jb uX fun rv uZ uX=>?_;cases uX;exact (ra 1 [kS vG,kI 0] rfl (zzZ rfl Tryz.underlying9 wo) rfl (rl 0 [1] 9 Tryz.call195 (znM uZ) rgg))
 refine jI h (fun u9 h=>?_) fun u9 h=>?_
 ·refine jp ?_;obtain rfl:=(sj h);exact zw lzz
 refine jp (zv (jb h fun q vc h=>zac (fun s:Int=>zcF vG s) (fun s=>⟨[(0,kS vG),(17,kI (vG.length:Int)),(18,kI s)],[]⟩) (fun o e a w=>match o with| (.inl v_)=>e= .exit 0/\Sx ⟨⟨34,[]⟩,Xt,false,#[]⟩ ⟨[],[]⟩ a w| (.inr v_)=>e= .ret/\Sx ⟨⟨34,[]⟩,Xt,false,#[]⟩ ⟨[(2,kB false)],[]⟩ a w) ?_ vc lzz ?_))
 ·clear h;intro v2 o h;refine zm ?_;replace h:zcF vG v2=some o:=h;unfold zcF at h;refine jp (jI h (fun vd h=>?_) fun vd h=>?_)
  ·refine zv (jp (jb h fun g2 vb h=>zab ⟨[(0,kS vG),(17,kI (vG.length:Int)),(18,kI v2),(32,kB g2)],[]⟩ ?_ ?_))
   ·refine jb vb fun c2 kh vb=>jb vb fun rv2 vj vb=>(ra 2 [kS vG,kI v2] rfl (zzZ rfl Tryz.underlying9 kh) rfl (rl 0 [1] 10 Tryz.call196 (ztd vj) (rsl 2 [] 26 (!rv2) (fun vh=>?_) (fun vh=>?_))))
    ·replace vb:=iteT vb vh;refine jb vb fun c3 ki vb=>jb vb fun rv3 vl vb=>?_;cases vb;exact (ra 2 [kS vG,kI v2] rfl (zzZ rfl Tryz.underlying9 ki) rfl (rl 0 [1] 10 Tryz.call195 (znM vl) rgg))
    replace vb:=iteF vb vh;cases vb;exact rgg
   refine jI h (fun vi h=>?_) fun vi h=>?_
   ·refine jp ?_;cases h;exact zbf lzz
   refine zX (jp ?_);cases h;exact zH lzz
  cases h;exact zad rfl lzz
 rcases q with u| u2
 ·refine zas _ rfl (jp ?_);obtain rfl:=(sj h);exact zw lzz
 obtain rfl:=(sj h);exact zdj lzz
theorem zlK (h:zdt sv v=some r):FnOk Tryz.prog 174 [.sl kp [0] sv,kI v] [kB r]:=by
 refine zy (E:=⟨[(4,kB r)],[]⟩) 9 Tryz.func174 rfl rfl rfl ⟨rfl,trivial⟩ (fun Xt=>?_);refine zm ?_;unfold zdt at h;refine jp (jb h fun rv uZ h=>jr (rl 2 [0] 9 Tryz.call197 (zmZ uZ) rf) ?_);cases h;exact zw lzz
theorem zzP (h:zoN k=some r):FnOk Tryz.prog 217 [kI k] [kI r.1,k8 r.2]:=by
 refine zy (E:=⟨[(2,kI r.1),(3,k8 r.2)],[]⟩) 16 Tryz.func217 rfl rfl rfl ⟨rfl,rfl,trivial⟩ (fun Xt=>?_);refine zm ?_;unfold zoN at h;refine jp (jb h fun rv uZ h=>jr (rl 0 [1] 9 Tryz.call171 (zsv uZ) (ra 1 [.om kp zF 11 [] rv,kI k] rfl (zuH (rk:=kp) (rv:=zF) (m:=rv) (k:=k) (.rc zF [] ((mget rv k).getD (⟨[],0⟩:zz))) rfl zgO (zei rfl rfl) (zzD rfl)) rfl (rfl' [12]))) (jp (jI h (fun uW h=>?_) fun uW h=>?_)))
 ·refine jp ?_;cases h;exact zw lzz
 refine jp ?_;cases h;exact zw lzz
theorem zyj (h:znb vf x=some r):FnOk Tryz.prog 95 [.rc zd [0] x] [kI r]:=by
 refine zy (E:=⟨[(2,kI r)],[]⟩) 5 Tryz.func95 rfl rfl rfl ⟨rfl,trivial⟩ (fun Xt=>?_);refine zm ?_;unfold znb at h;refine jr (ra 0 [.rc zd [0] x] rfl (zbc 11 (zh [0] x) [0] rfl rfl rfl (by rw [zk]<;>rfl) rfl) rfl rf) (jb h fun rv uZ h=>jr (rc 1 rfl (zA.le (ins':=[(.tmp 3,.ag (zh [0] x)),(.const (.int .i64 131072),kI 131072)]) (zQ (args:=[.tmp 3,.const (.int .i64 131072)]) [.rc zd [0] x,kI 131072] [0] 10 rfl Tryz.call128 (zyl uZ) rfl rfl rfl rfl rfl) ⟨⟨rfl,zM [0] x⟩,⟨rfl,ky _⟩,trivial⟩) rf) ?_);obtain rfl:=(sj h);exact zw lzz
theorem zfh (h:zaz sv v=some r):FnOk Tryz.prog 157 [.sl zg [0] sv,.fv 130 [.ep kp [0] v 0]] [kI r]:=by
 refine zy (E:=⟨[(4,kI r)],[]⟩) 19 Tryz.func157 rfl rfl rfl ⟨rfl,trivial⟩ (fun Xt=>?_);refine zm ?_;unfold zaz at h;refine jp (jp (zv (jb h fun q vc h=>zac (fun s:Int=>zE sv v s) (fun s=>⟨[(0,.sl zg [0] sv),(1,.fv 130 [.ep kp [0] v 0]),(7,kI (sv.length:Int)),(8,kI s)],[]⟩) (fun o e a w=>match o with| (.inl v_)=>e= .exit 0/\Sx ⟨⟨19,[]⟩,Xt,false,#[]⟩ ⟨[],[]⟩ a w| (.inr v_)=>e= .ret/\Sx ⟨⟨19,[]⟩,Xt,false,#[]⟩ ⟨[(4,kI v_)],[]⟩ a w) ?_ vc lzz ?_)))
 ·clear h;intro v2 o h;refine zm ?_;replace h:zE sv v v2=some o:=h;unfold zE at h;refine jp (jI h (fun uW h=>?_) fun uW h=>?_)
  ·refine zv (jp (jb h fun x vg h=>jb h fun rv uZ h=>jr (ra 3 [.sl zg [0] sv,kI v2] rfl (zai rfl zpi.el (zC _ _ _) vg) rfl (ra 0 [.ep zg [0] x 0] rfl (zcr rfl ⟨Tryz.isAgg65,Tryz.sizeOf65⟩) rfl (ra 0 [.fv 130 [.ep kp [0] v 0],.rc zg [0] x] rfl (zBw (args:=[.tmp 15]) [.rc zg [0] x] [0] 10 rfl (zEe _ _) Tryz.call130 (zru uZ) rfl rfl rfl rfl rfl) rfl rf))) (jI h (fun uY h=>?_) fun uY h=>?_)))
   ·refine jp ?_;cases h;exact zbf lzz
   refine zX (jp ?_);cases h;exact zH lzz
  cases h;exact zad rfl lzz
 rcases q with u| u2
 ·refine zas _ rfl (jp ?_);cases h;exact zw lzz
 obtain rfl:=(sj h);exact zdj lzz
theorem zvx (h:zpg b=some r):FnOk Tryz.prog 226 [.sl Rp.byte [0] b] [kI r]:=by
 refine zy (E:=⟨[(2,kI r)],[]⟩) 48 Tryz.func226 rfl rfl rfl ⟨rfl,trivial⟩ (fun Xt=>?_);refine zm ?_;unfold zpg at h;refine jp (jp (jI h (fun uW h=>?_) fun uW h=>?_))
 ·refine jp ?_;cases h;exact zw lzz
 refine jb h fun x vg h=>jb h fun rv uZ h=>jr (ra 1 [.sl Rp.byte [0] b,kI 0] rfl (zai rfl ziJ.el (zC _ _ _) vg) rfl (rl 1 [1] 9 Tryz.call232 (zCl uZ) rf)) (zab ⟨[(0,.sl Rp.byte [0] b),(3,kI rv.1),(4,.lf (.int .u32 rv.2)),(24,kB ((rv.1==0)|| (decide (rv.1>(b.length:Int)))))],[]⟩ ?_ ?_)
 ·refine (rsl 3 [] 19 (rv.1==0) (fun uY=>?_) (fun uY=>?_))
  · exact (rbl [] 24 true rfl (by rw [uY]<;>rfl))
  exact (rbl [] 24 (decide (rv.1>(b.length:Int))) rfl (by rw [uY]<;>rfl))
 refine jI h (fun u9 h=>?_) fun u9 h=>?_
 ·refine jp ?_;cases h;exact zw lzz
 refine jb h fun v2 vz h=>jr (ra 2 [.sl Rp.byte [0] b,kI 1,kI rv.1] rfl (zqV (some (kI 1)) (some (kI rv.1)) rfl ziJ.el (zC _ _ _) ⟨rfl,rfl⟩ ⟨rfl,rfl⟩ vz) rfl rf) (zv (jb h fun q vc h=>zac (fun s:(Int×Int)=>zfQ v2 s.1 s.2) (fun s=>⟨[(3,kI rv.1),(4,.lf (.int .u32 s.1)),(27,.sl Rp.byte [0] v2),(28,kI (v2.length:Int)),(29,kI s.2)],[]⟩) (fun o e a w=>match o with| (.inl v_)=>e= .exit 0/\Sx ⟨⟨48,[]⟩,Xt,false,#[]⟩ ⟨[(3,kI rv.1),(4,.lf (.int .u32 v_))],[]⟩ a w| (.inr v_)=>e= .ret/\Sx ⟨⟨48,[]⟩,Xt,false,#[]⟩ ⟨[(2,kI 0)],[]⟩ a w) ?_ vc lzz ?_))
 ·clear h;intro s o h;obtain ⟨wv,v3⟩:=s;refine zm ?_;replace h:zfQ v2 wv v3=some o:=h;unfold zfQ at h;refine jp (jI h (fun vd h=>?_) fun vd h=>?_)
  ·refine zv (jb h fun x2 vk h=>jr (ra 0 [.sl Rp.byte [0] v2,kI v3] rfl (zai rfl ziJ.el (zC _ _ _) vk) rfl rf) (jr (ra 1 [k8 (x2.toNat:Int),kU 6] rfl (zoo rfl rfl) rfl rf) (jI h (fun vh h=>?_) fun vh h=>?_)))
   ·refine jp ?_;cases h;exact zbf lzz
   refine jr (ra 1 [.lf (.int .u32 wv),kU 6] rfl (zHy rfl rfl) rfl rf) (zX (jp ?_));cases h;exact zH lzz
  cases h;exact zad rfl lzz
 rcases q with u| u2
 ·refine zas _ rfl (jb h fun rv2 vj h=>jr (rl 2 [1] 10 Tryz.call233 (zCk vj) rf) (jI h (fun vi h=>?_) fun vi h=>?_))
  ·refine jp ?_;cases h;exact zw lzz
  refine jp ?_;cases h;exact zw lzz
 cases h;exact zdj lzz
theorem zwo (h:zlp wv=some r):FnOk Tryz.prog 183 [kU wv] [.lf (.int .i32 r)]:=by
 refine zy (E:=⟨[(2,.lf (.int .i32 r))],[]⟩) 6 Tryz.func183 rfl rfl rfl ⟨rfl,trivial⟩ (fun Xt=>?_);refine zm ?_;unfold zlp at h;refine jp (jb h fun rv uZ h=>jr (rl 1 [1] 9 Tryz.call184 (zsu uZ) rf) ?_);cases h;exact zw lzz
theorem zAu (h:zoZ t=some r):FnOk Tryz.prog 187 [.rc zho [0] t] [kB r]:=by
 refine zy (E:=⟨[(2,kB r)],[]⟩) 16 Tryz.func187 rfl rfl rfl ⟨rfl,trivial⟩ (fun Xt=>?_);refine zm ?_;unfold zoZ at h;refine jq [11] (jb h fun g uX h=>zab ⟨[(2,kB g)],[]⟩ ?_ ?_)
 ·refine (rsl 4 [] 6 (decide (t.Number>=1)) (fun uW=>?_) (fun uW=>?_))
  ·replace uX:=iteT uX uW;refine (rsl 5 [] 11 (decide (t.Number<=536870911)) (fun uY=>?_) (fun uY=>?_))
   ·replace uX:=iteT uX uY;refine jb uX fun rv uZ uX=>?_;cases uX;exact (rl 2 [1] 10 Tryz.call215 (zuW uZ) rgg)
   replace uX:=iteF uX uY;cases uX;exact rgg
  replace uX:=iteF uX uW;cases uX;exact rgg
 obtain rfl:=(sj h);exact zw lzz
theorem zxS (h:zlN b=some r):FnOk Tryz.prog 188 [.sl Rp.byte [0] b] [kI r.1,k8 r.2]:=by
 refine zy (E:=⟨[(2,kI r.1),(3,k8 r.2)],[]⟩) 15 Tryz.func188 rfl rfl rfl ⟨rfl,rfl,trivial⟩ (fun Xt=>?_);refine zm ?_;unfold zlN at h;refine jp (jb h fun rv uZ h=>jr (rl 1 [0] 9 Tryz.call186 (znd uZ) rf) (jp ?_));cases h;exact zw lzz
theorem zvF (vZ:∀{x:zc} {r:zc},xc x=some r->FnOk Tryz.prog 78 [.rc zd [0] x] [.ag (zo 3 [0,4] 5 [] r)]) (wa:∀{v:za} {r:za},xd v=some r->FnOk Tryz.prog 111 [.rc zb [0] v] [.ag (zan 3 [] 4 [] 5 [0,6] r)]) (h:zhw xc xd x=some r):FnOk Tryz.prog 78 [.rc zd [0] x] [.ag (zo 3 [0,4] 5 [] r)]:=by
 refine zy (E:=⟨[(2,.ptr 2 0)],[⟨2,27,(zo 3 [0,4] 5 [] r)⟩]⟩) 29 Tryz.func78 rfl rfl rfl ⟨⟨_,_,rfl,rfl,rfl,⟨Tryz.isAgg27,Tryz.sizeOf27⟩⟩,trivial⟩ (fun Xt=>?_);refine zm ?_;unfold zhw at h;refine jr (ra 0 [.rc zd [0] x] rfl (zbc 17 (zh [0] x) [0] rfl rfl rfl (by rw [zk]<;>rfl) rfl) rfl (rfl' [18])) (jb h fun rv uZ h=>jb h fun rv2 vj h=>jd [2,3] [18,21] zbh (by exact (lw_e (lw_e (lx (lf1 109 (zQ [.sl zb [0] x.Values] [0] 17 rfl Tryz.call109 (zfs uZ) rfl rfl rfl rfl rfl)) (lw_e (lw_e (lx (lf1 110 (zQ [.sl Rp.str [0] x.Unknown] [0] 18 rfl Tryz.call110 (zdh vj) rfl rfl rfl rfl rfl)) (ly [.own zb 57 19 [0] rv,.own Rp.str 9 20 [] rv2] (zbK [.own zb 57 19 [0] rv,.own Rp.str 9 20 [] rv2] [.own zb 57 19 [0] rv,.own Rp.str 9 20 [] rv2] rfl zsz rfl) rfl (lx (ziW 21 [kN,kN] rfl Tryz.zeroValue27 rfl) (ly [.ptr 21 0,.ag [.own zb 57 19 [0] rv,.own Rp.str 9 20 [] rv2]] (zim (b:=⟨21,27,[kN,kN]⟩) (off:=0) [.own zb 57 19 [0] rv,.own Rp.str 9 20 [] rv2] rfl Tryz.sizeOf27 rfl rfl rfl) rfl l0)))))))))) (jp (zv (jb h fun q vc h=>zac (fun s:((List za)×Int)=>zcL xd rv s.1 s.2) (fun s=>⟨[(2,.ptr 18 0),(3,.ptr 21 0),(14,.own zb 57 19 [0,22] s.1),(15,kI (rv.length:Int)),(16,kI s.2)],[⟨18,27,[kN,kN]⟩,⟨21,27,[.own zb 57 19 [0,22] s.1,.own Rp.str 9 20 [] rv2]⟩]⟩) (fun o e a w=>e= .exit 0/\Sx ⟨⟨29,[]⟩,Xt,false,#[]⟩ ⟨[(2,.ptr 18 0),(3,.ptr 21 0)],[⟨18,27,[kN,kN]⟩,⟨21,27,[.own zb 57 19 [0,22] o,.own Rp.str 9 20 [] rv2]⟩]⟩ a w) ?_ vc ?_ ?_))))
 ·clear h;intro s o h;obtain ⟨v,v2⟩:=s;refine zm ?_;replace h:zcL xd rv v v2=some o:=h;unfold zcL at h;refine jp (jI h (fun uW h=>?_) fun uW h=>?_)
  ·refine zv (jb h fun x2 vk h=>jr (ra 1 [.own zb 57 19 [0,22] v,kI v2] rfl (zwU rfl zjz.el vk) rfl (ra 0 [.own zb 57 19 [0,22] v,.ptr 19 (Int.toNat v2*zb.size)] rfl (zEp (r:=zb) (e:=57) (ℓ:=19) (C:=[0,22]) (xs:=v) (.tmp 14) x2 rfl ⟨Tryz.isAgg57,Tryz.sizeOf57⟩ vk) rfl (ral 2 [35] [.ptr 35 0,.rc zb [0,22] x2] rfl (zgU (r:=zb) (b:=⟨35,57,[kI 0,kN,kN,kN]⟩) (off:=0) (zi [0,22] x2) rfl Tryz.sizeOf57 rfl rfl (by rw [zn]<;>rfl) rfl) rfl rf))) (jb h fun rv3 vl h=>jb h fun x3 vo h=>jk [2,3,4,5,14,15,16] [18,21,35] (zrQ ⟨[(2,.ptr 18 0),(3,.ptr 21 0),(14,.own zb 57 19 [0,22,37,38,39,40] (v.set (Int.toNat v2) rv3)),(15,kI (rv.length:Int)),(16,kI v2)],[⟨18,27,[kN,kN]⟩,⟨21,27,[.own zb 57 19 [0,22,37,38,39,40] (v.set (Int.toNat v2) rv3),.own Rp.str 9 20 [] rv2]⟩]⟩ [.ev,.ev,.ev,.ex [35] [] [] (.ag (zi [0,22] x2)) [],.ex [] [] [37,38,39] (.ag (zan 37 [] 38 [] 39 [0,22,40] rv3)) [],.ex [] [] [] (.ptr 19 (Int.toNat v2*zb.size)) [],.raw [4,0,1,4,10,14] [19] [] [.sl 22 (.own zb 57 19 [0,22,37,38,39,40] (v.set (Int.toNat v2) rv3)),.sl 14 (.own zb 57 19 [0,22,37,38,39,40] (v.set (Int.toNat v2) rv3)),.bx ⟨21,27,[.own zb 57 19 [0,22,37,38,39,40] (v.set (Int.toNat v2) rv3),.own Rp.str 9 20 [] rv2]⟩]] [⟨[(.tmp 5,.ptr 35 0)],[⟨35,57,(zi [0,22] x2)⟩],[]⟩,⟨[(.func 111,.lf (.val (.func (.func 111) #[] #[]))),(.tmp 24,.ag (zi [0,22] x2))],[],[]⟩,⟨[(.tmp 22,.own zb 57 19 [0,22] v),(.tmp 23,kI v2)],[],[]⟩,⟨[],[],[.sl 22 (.own zb 57 19 [0,22] v),.sl 26 (.ptr 19 (Int.toNat v2*zb.size)),.sl 25 (.ag (zan 37 [] 38 [] 39 [0,22,40] rv3)),.sl 22 (.own zb 57 19 [0,22] v),.sl 14 (.own zb 57 19 [0,22] v),.bx ⟨21,27,[.own zb 57 19 [0,22] v,.own Rp.str 9 20 [] rv2]⟩]⟩] [2,3,14,15,16] [18,21] zbh (by kernel_rfl) (by exact (lw_e (lw_e (lw_e (lw_x (zme (zdg (b:=⟨35,57,(zi [0,22] x2)⟩) (zi [0,22] x2) rfl ⟨Tryz.isAgg57,Tryz.sizeOf57⟩ rfl rfl) rfl) (lw_x (zA.cons _ (zme (zA.le (ins':=[(.tmp 24,.ag (zi [0,22] x2))]) (zQ (args:=[.tmp 24]) [.rc zb [0,22] x2] [0,22] 34 rfl Tryz.call111 (wa vl) rfl rfl rfl rfl rfl) ⟨⟨rfl,zV [0,22] x2⟩,trivial⟩) rfl)) (lw_x (zme (zwU rfl zjz.el vo) rfl) (lw_r (zsa (ins:=[(.tmp 22,.own zb 57 19 [0,22] v),(.tmp 26,.ptr 19 (Int.toNat v2*zb.size)),(.tmp 25,.ag (zan 37 [] 38 [] 39 [0,22,40] rv3))]) [22,14] [(⟨21,27,[.own zb 57 19 [0,22] v,.own Rp.str 9 20 [] rv2]⟩,⟨21,27,[.own zb 57 19 [0,22,37,38,39,40] (v.set (Int.toNat v2) rv3),.own Rp.str 9 20 [] rv2]⟩)] (zIf (r:=zb) (e:=57) (ℓ:=19) (C:=[0,22]) (xs:=v) (off:=(Int.toNat v2*zb.size)) (.tmp 22) (Int.toNat v2) 0 x3 rv3 [0,22,37,38,39,40] rfl rfl Tryz.sizeOf57 rfl (ztD vo) rfl (zAm (by rw [zn]<;>rfl) _) rfl) ⟨trivial,trivial,trivial,trivial⟩ (fun _ _=>nofun) ⟨⟨rfl,rfl,rfl,⟨zhR 0 rfl,zaa rfl,trivial⟩⟩,trivial⟩) lw_0)))))))) (zX (jp ?_)))));cases h;exact zH (lk [2,3,14,15,16] [18,21] 37 22 (lk [2,3,14,15,16] [18,21] 38 22 (lk [2,3,14,15,16] [18,21] 39 22 (lk [2,3,14,15,16] [18,21] 40 22 (lq ⟨[(2,.ptr 18 0),(3,.ptr 21 0),(14,.own zb 57 19 [0,22,22,22,22,22] (v.set (Int.toNat v2) rv3)),(15,kI (rv.length:Int)),(16,kI (IntKind.i64.wrap (v2+1)))],[⟨18,27,[kN,kN]⟩,⟨21,27,[.own zb 57 19 [0,22,22,22,22,22] (v.set (Int.toNat v2) rv3),.own Rp.str 9 20 [] rv2]⟩]⟩ (zdE 14 (.own zb 57 19 [0,22] (v.set (Int.toNat v2) rv3)) rfl (zdz _ _ _ _ _ _ rfl rfl) (zaN 21 0 (.own zb 57 19 [0,22] (v.set (Int.toNat v2) rv3)) rfl rfl (zdz _ _ _ _ _ _ rfl rfl) lzz)))))))
  cases h;exact zad rfl lzz
 ·exact lq ⟨[(2,.ptr 18 0),(3,.ptr 21 0),(14,.own zb 57 19 [0] rv),(15,kI (rv.length:Int)),(16,kI 0)],[⟨18,27,[kN,kN]⟩,⟨21,27,[.own zb 57 19 [0] rv,.own Rp.str 9 20 [] rv2]⟩]⟩ (zdE 14 (.own zb 57 19 [0,22] rv) rfl (zdz _ _ _ _ _ _ rfl rfl) (zaN 21 0 (.own zb 57 19 [0,22] rv) rfl rfl (zdz _ _ _ _ _ _ rfl rfl) lzz))
 refine zas _ rfl (jp ?_);cases h;exact zw (lk [2] [18] 18 2 (lk [2] [2] 19 3 (lk [2] [2] 20 5 (lk [2] [2] 22 4 lzz))))
theorem zrD (vZ:∀{x:zc} {r:zc},xc x=some r->FnOk Tryz.prog 78 [.rc zd [0] x] [.ag (zo 3 [0,4] 5 [] r)]) (wa:∀{v:za} {r:za},xd v=some r->FnOk Tryz.prog 111 [.rc zb [0] v] [.ag (zan 3 [] 4 [] 5 [0,6] r)]) (h:zem xc xd v=some r):FnOk Tryz.prog 111 [.rc zb [0] v] [.ag (zan 3 [] 4 [] 5 [0,6] r)]:=by
 refine zy (E:=⟨[(2,.ptr 2 0)],[⟨2,57,(zan 3 [] 4 [] 5 [0,6] r)⟩]⟩) 34 Tryz.func111 rfl rfl rfl ⟨⟨_,_,rfl,rfl,rfl,⟨Tryz.isAgg57,Tryz.sizeOf57⟩⟩,trivial⟩ (fun Xt=>?_);refine zm ?_;unfold zem at h;refine jr (ra 0 [.rc zb [0] v] rfl (zbc 18 (zi [0] v) [0] rfl rfl rfl (by rw [zn]<;>rfl) rfl) rfl (rfl' [19])) (jb h fun rv uZ h=>jb h fun rv2 vj h=>jb h fun rv3 vl h=>jd [2,3] [19,23] zbh (by exact (lw_e (lw_e (lw_e (lw_e (lx (lf1 142 (zQ [.sl ku [0] v.Words] [0] 18 rfl Tryz.call142 (zhl uZ) rfl rfl rfl rfl rfl)) (lw_e (lw_e (lx (lf1 110 (zQ [.sl Rp.str [0] v.Texts] [0] 19 rfl Tryz.call110 (zdh vj) rfl rfl rfl rfl rfl)) (lw_e (lw_e (lx (lf1 143 (zQ [.sl zd [0] v.Subs] [0] 20 rfl Tryz.call143 (zgo vl) rfl rfl rfl rfl rfl)) (ly [kI v.Number,.own ku 83 20 [] rv,.own Rp.str 9 21 [] rv2,.own zd 27 22 [0] rv3] (zbK [kI v.Number,.own ku 83 20 [] rv,.own Rp.str 9 21 [] rv2,.own zd 27 22 [0] rv3] [kI v.Number,.own ku 83 20 [] rv,.own Rp.str 9 21 [] rv2,.own zd 27 22 [0] rv3] rfl zCb rfl) rfl (lx (ziW 23 [kI 0,kN,kN,kN] rfl Tryz.zeroValue57 rfl) (ly [.ptr 23 0,.ag [kI v.Number,.own ku 83 20 [] rv,.own Rp.str 9 21 [] rv2,.own zd 27 22 [0] rv3]] (zim (b:=⟨23,57,[kI 0,kN,kN,kN]⟩) (off:=0) [kI v.Number,.own ku 83 20 [] rv,.own Rp.str 9 21 [] rv2,.own zd 27 22 [0] rv3] rfl Tryz.sizeOf57 rfl rfl rfl) rfl l0))))))))))))))) (jp (zv (jb h fun q vc h=>zac (fun s:((List zc)×Int)=>zaQ xc rv3 s.1 s.2) (fun s=>⟨[(2,.ptr 19 0),(3,.ptr 23 0),(19,.own zd 27 22 [0,24] s.1),(20,kI (rv3.length:Int)),(21,kI s.2)],[⟨19,57,[kI 0,kN,kN,kN]⟩,⟨23,57,[kI v.Number,.own ku 83 20 [] rv,.own Rp.str 9 21 [] rv2,.own zd 27 22 [0,24] s.1]⟩]⟩) (fun o e a w=>e= .exit 0/\Sx ⟨⟨34,[]⟩,Xt,false,#[]⟩ ⟨[(2,.ptr 19 0),(3,.ptr 23 0)],[⟨19,57,[kI 0,kN,kN,kN]⟩,⟨23,57,[kI v.Number,.own ku 83 20 [] rv,.own Rp.str 9 21 [] rv2,.own zd 27 22 [0,24] o]⟩]⟩ a w) ?_ vc ?_ ?_))))
 ·clear h;intro s o h;obtain ⟨v2,v3⟩:=s;refine zm ?_;replace h:zaQ xc rv3 v2 v3=some o:=h;unfold zaQ at h;refine jp (jI h (fun uW h=>?_) fun uW h=>?_)
  ·refine zv (jb h fun x vg h=>jr (ra 1 [.own zd 27 22 [0,24] v2,kI v3] rfl (zwU rfl zjg.el vg) rfl (ra 0 [.own zd 27 22 [0,24] v2,.ptr 22 (Int.toNat v3*zd.size)] rfl (zEp (r:=zd) (e:=27) (ℓ:=22) (C:=[0,24]) (xs:=v2) (.tmp 19) x rfl ⟨Tryz.isAgg27,Tryz.sizeOf27⟩ vg) rfl (ral 2 [35] [.ptr 35 0,.rc zd [0,24] x] rfl (zgU (r:=zd) (b:=⟨35,27,[kN,kN]⟩) (off:=0) (zh [0,24] x) rfl Tryz.sizeOf27 rfl rfl (by rw [zk]<;>rfl) rfl) rfl rf))) (jb h fun rv4 vx h=>jb h fun x2 vk h=>jk [2,3,4,5,19,20,21] [19,23,35] (zrQ ⟨[(2,.ptr 19 0),(3,.ptr 23 0),(19,.own zd 27 22 [0,24,37,38,39] (v2.set (Int.toNat v3) rv4)),(20,kI (rv3.length:Int)),(21,kI v3)],[⟨19,57,[kI 0,kN,kN,kN]⟩,⟨23,57,[kI v.Number,.own ku 83 20 [] rv,.own Rp.str 9 21 [] rv2,.own zd 27 22 [0,24,37,38,39] (v2.set (Int.toNat v3) rv4)]⟩]⟩ [.ev,.ev,.ev,.ex [35] [] [] (.ag (zh [0,24] x)) [],.ex [] [] [37,39] (.ag (zo 37 [0,24,38] 39 [] rv4)) [],.ex [] [] [] (.ptr 22 (Int.toNat v3*zd.size)) [],.raw [4,0,1,4,10,14] [22] [] [.sl 27 (.own zd 27 22 [0,24,37,38,39] (v2.set (Int.toNat v3) rv4)),.sl 19 (.own zd 27 22 [0,24,37,38,39] (v2.set (Int.toNat v3) rv4)),.bx ⟨23,57,[kI v.Number,.own ku 83 20 [] rv,.own Rp.str 9 21 [] rv2,.own zd 27 22 [0,24,37,38,39] (v2.set (Int.toNat v3) rv4)]⟩]] [⟨[(.tmp 5,.ptr 35 0)],[⟨35,27,(zh [0,24] x)⟩],[]⟩,⟨[(.func 78,.lf (.val (.func (.func 78) #[] #[]))),(.tmp 29,.ag (zh [0,24] x))],[],[]⟩,⟨[(.tmp 27,.own zd 27 22 [0,24] v2),(.tmp 28,kI v3)],[],[]⟩,⟨[],[],[.sl 27 (.own zd 27 22 [0,24] v2),.sl 31 (.ptr 22 (Int.toNat v3*zd.size)),.sl 30 (.ag (zo 37 [0,24,38] 39 [] rv4)),.sl 27 (.own zd 27 22 [0,24] v2),.sl 19 (.own zd 27 22 [0,24] v2),.bx ⟨23,57,[kI v.Number,.own ku 83 20 [] rv,.own Rp.str 9 21 [] rv2,.own zd 27 22 [0,24] v2]⟩]⟩] [2,3,19,20,21] [19,23] zbh (by kernel_rfl) (by exact (lw_e (lw_e (lw_e (lw_x (zme (zdg (b:=⟨35,27,(zh [0,24] x)⟩) (zh [0,24] x) rfl ⟨Tryz.isAgg27,Tryz.sizeOf27⟩ rfl rfl) rfl) (lw_x (zA.cons _ (zme (zA.le (ins':=[(.tmp 29,.ag (zh [0,24] x))]) (zQ (args:=[.tmp 29]) [.rc zd [0,24] x] [0,24] 34 rfl Tryz.call78 (vZ vx) rfl rfl rfl rfl rfl) ⟨⟨rfl,zM [0,24] x⟩,trivial⟩) rfl)) (lw_x (zme (zwU rfl zjg.el vk) rfl) (lw_r (zsa (ins:=[(.tmp 27,.own zd 27 22 [0,24] v2),(.tmp 31,.ptr 22 (Int.toNat v3*zd.size)),(.tmp 30,.ag (zo 37 [0,24,38] 39 [] rv4))]) [27,19] [(⟨23,57,[kI v.Number,.own ku 83 20 [] rv,.own Rp.str 9 21 [] rv2,.own zd 27 22 [0,24] v2]⟩,⟨23,57,[kI v.Number,.own ku 83 20 [] rv,.own Rp.str 9 21 [] rv2,.own zd 27 22 [0,24,37,38,39] (v2.set (Int.toNat v3) rv4)]⟩)] (zIf (r:=zd) (e:=27) (ℓ:=22) (C:=[0,24]) (xs:=v2) (off:=(Int.toNat v3*zd.size)) (.tmp 27) (Int.toNat v3) 0 x2 rv4 [0,24,37,38,39] rfl rfl Tryz.sizeOf27 rfl (ztD vk) rfl (zAm (by rw [zk]<;>rfl) _) rfl) ⟨trivial,trivial,trivial,trivial⟩ (fun _ _=>nofun) ⟨⟨rfl,rfl,rfl,⟨zaa rfl,zaa rfl,zaa rfl,zhR 0 rfl,trivial⟩⟩,trivial⟩) lw_0)))))))) (zX (jp ?_)))));cases h;exact zH (lk [2,3,19,20,21] [19,23] 37 24 (lk [2,3,19,20,21] [19,23] 38 24 (lk [2,3,19,20,21] [19,23] 39 24 (lq ⟨[(2,.ptr 19 0),(3,.ptr 23 0),(19,.own zd 27 22 [0,24,24,24,24] (v2.set (Int.toNat v3) rv4)),(20,kI (rv3.length:Int)),(21,kI (IntKind.i64.wrap (v3+1)))],[⟨19,57,[kI 0,kN,kN,kN]⟩,⟨23,57,[kI v.Number,.own ku 83 20 [] rv,.own Rp.str 9 21 [] rv2,.own zd 27 22 [0,24,24,24,24] (v2.set (Int.toNat v3) rv4)]⟩]⟩ (zdE 19 (.own zd 27 22 [0,24] (v2.set (Int.toNat v3) rv4)) rfl (zdz _ _ _ _ _ _ rfl rfl) (zaN 23 3 (.own zd 27 22 [0,24] (v2.set (Int.toNat v3) rv4)) rfl rfl (zdz _ _ _ _ _ _ rfl rfl) lzz))))))
  cases h;exact zad rfl lzz
 ·exact lq ⟨[(2,.ptr 19 0),(3,.ptr 23 0),(19,.own zd 27 22 [0] rv3),(20,kI (rv3.length:Int)),(21,kI 0)],[⟨19,57,[kI 0,kN,kN,kN]⟩,⟨23,57,[kI v.Number,.own ku 83 20 [] rv,.own Rp.str 9 21 [] rv2,.own zd 27 22 [0] rv3]⟩]⟩ (zdE 19 (.own zd 27 22 [0,24] rv3) rfl (zdz _ _ _ _ _ _ rfl rfl) (zaN 23 3 (.own zd 27 22 [0,24] rv3) rfl rfl (zdz _ _ _ _ _ _ rfl rfl) lzz))
 refine zas _ rfl (jp ?_);cases h;exact zw (lk [2] [19] 19 2 (lk [2] [2] 20 3 (lk [2] [2] 21 4 (lk [2] [2] 22 5 (lk [2] [2] 24 6 lzz)))))
theorem zjW (vf:Nat):(∀{x:zc} {r:zc},zgs vf x=some r->FnOk Tryz.prog 78 [.rc zd [0] x] [.ag (zo 3 [0,4] 5 [] r)])/\(∀{v:za} {r:za},zfE vf v=some r->FnOk Tryz.prog 111 [.rc zb [0] v] [.ag (zan 3 [] 4 [] 5 [0,6] r)]):=by
  induction vf with
  | zero=>exact ⟨fun h=>absurd h nofun,fun h=>absurd h nofun⟩
  | succ vf ih=>exact ⟨fun h=>zvF (fun hh=>ih.1 hh) (fun hh=>ih.2 hh) h,fun h=>zrD (fun hh=>ih.1 hh) (fun hh=>ih.2 hh) h⟩
theorem zxQ (h:zgs vf x=some r):FnOk Tryz.prog 78 [.rc zd [0] x] [.ag (zo 3 [0,4] 5 [] r)]:=(zjW vf).1 h
theorem zkA (h:zcG slices=some r):FnOk Tryz.prog 112 [.sl kw [0] slices] [.own ku 83 2 [] r]:=by
 refine zy (E:=⟨[(2,.own ku 83 2 [] r)],[]⟩) 36 Tryz.func112 rfl rfl rfl ⟨rfl,trivial⟩ (fun Xt=>?_);refine zm ?_;unfold zcG at h;refine jp (jp (jp (zv (jb h fun q vc h=>zac (fun s:(Int×Int)=>zU slices s.1 s.2) (fun s=>⟨[(0,.sl kw [0] slices),(3,kI s.1),(9,.sl kw [0] slices),(10,kI (slices.length:Int)),(11,kI s.2)],[]⟩) (fun o e a w=>e= .exit 0/\Sx ⟨⟨36,[]⟩,Xt,false,#[]⟩ ⟨[(0,.sl kw [0] slices),(3,kI o)],[]⟩ a w) ?_ vc lzz ?_))))
 ·clear h;intro s o h;obtain ⟨size,v⟩:=s;refine zm ?_;replace h:zU slices size v=some o:=h;unfold zU at h;refine jp (jI h (fun uW h=>?_) fun uW h=>?_)
  ·refine zv (jb h fun x vg h=>jr (ra 0 [.sl kw [0] slices,kI v] rfl (zai rfl zDI.el (zC _ _ _) vg) rfl (ra 0 [.ep kw [0] x 0] rfl (zgf ku x rfl rfl rfl) rfl rf)) (jp (jp (jI h (fun uY h=>?_) fun uY h=>?_))))
   · exact absurd h nofun
   refine zX (jp ?_);cases h;exact zH lzz
  cases h;exact zad rfl lzz
 refine zas _ rfl (jb h fun rv uZ h=>jr (rl 1 [1] 12 Tryz.call144 (zkK uZ) rf) (jp (zv (jb h fun q2 vu h=>zac (fun s:((List Int)×Int)=>zaf slices s.1 s.2) (fun s=>⟨[(6,.own ku 83 14 [] s.1),(25,.sl kw [0] slices),(26,kI (slices.length:Int)),(27,kI s.2)],[]⟩) (fun o e a w=>e= .exit 2/\Sx ⟨⟨36,[]⟩,Xt,false,#[]⟩ ⟨[(6,.own ku 83 14 [] o)],[]⟩ a w) ?_ vu lzz ?_))))
 ·clear h;intro s o h;obtain ⟨newslice,v2⟩:=s;refine zm ?_;replace h:zaf slices newslice v2=some o:=h;unfold zaf at h;refine jp (jI h (fun u9 h=>?_) fun u9 h=>?_)
  ·refine zv (jb h fun x2 vk h=>jr (ra 0 [.sl kw [0] slices,kI v2] rfl (zai rfl zDI.el (zC _ _ _) vk) rfl (ra 0 [.ep kw [0] x2 0] rfl (zgf ku x2 rfl rfl rfl) rfl rf)) (jb h fun v3 vB h=>jr (ra 2 [.own ku 83 14 [] newslice,.sl ku [0] x2] rfl (zeR 14 [] rfl znf.el rfl (zbu _ _ _ _ _) (zC _ _ _) vB (.inl (zoT _)) rfl) rfl rf) (zX (jp ?_))));cases h;exact zH lzz
  cases h;exact zad rfl lzz
 refine zas _ rfl (jp ?_);obtain rfl:=(sj h);exact zw (lk [2] [] 14 2 lzz)
theorem zgR (h:zbV slices=some r):FnOk Tryz.prog 82 [.sl kx [0] slices] [.own Rp.str 9 2 [] r]:=by
 refine zy (E:=⟨[(2,.own Rp.str 9 2 [] r)],[]⟩) 36 Tryz.func82 rfl rfl rfl ⟨rfl,trivial⟩ (fun Xt=>?_);refine zm ?_;unfold zbV at h;refine jp (jp (jp (zv (jb h fun q vc h=>zac (fun s:(Int×Int)=>zT slices s.1 s.2) (fun s=>⟨[(0,.sl kx [0] slices),(3,kI s.1),(9,.sl kx [0] slices),(10,kI (slices.length:Int)),(11,kI s.2)],[]⟩) (fun o e a w=>e= .exit 0/\Sx ⟨⟨36,[]⟩,Xt,false,#[]⟩ ⟨[(0,.sl kx [0] slices),(3,kI o)],[]⟩ a w) ?_ vc lzz ?_))))
 ·clear h;intro s o h;obtain ⟨size,v⟩:=s;refine zm ?_;replace h:zT slices size v=some o:=h;unfold zT at h;refine jp (jI h (fun uW h=>?_) fun uW h=>?_)
  ·refine zv (jb h fun x vg h=>jr (ra 0 [.sl kx [0] slices,kI v] rfl (zai rfl zAA.el (zC _ _ _) vg) rfl (ra 0 [.ep kx [0] x 0] rfl (zgf Rp.str x rfl rfl rfl) rfl rf)) (jp (jp (jI h (fun uY h=>?_) fun uY h=>?_))))
   · exact absurd h nofun
   refine zX (jp ?_);cases h;exact zH lzz
  cases h;exact zad rfl lzz
 refine zas _ rfl (jb h fun rv uZ h=>jr (rl 1 [1] 12 Tryz.call116 (zkJ uZ) rf) (jp (zv (jb h fun q2 vu h=>zac (fun s:((List Str)×Int)=>zae slices s.1 s.2) (fun s=>⟨[(6,.own Rp.str 9 14 [] s.1),(25,.sl kx [0] slices),(26,kI (slices.length:Int)),(27,kI s.2)],[]⟩) (fun o e a w=>e= .exit 2/\Sx ⟨⟨36,[]⟩,Xt,false,#[]⟩ ⟨[(6,.own Rp.str 9 14 [] o)],[]⟩ a w) ?_ vu lzz ?_))))
 ·clear h;intro s o h;obtain ⟨newslice,v2⟩:=s;refine zm ?_;replace h:zae slices newslice v2=some o:=h;unfold zae at h;refine jp (jI h (fun u9 h=>?_) fun u9 h=>?_)
  ·refine zv (jb h fun x2 vk h=>jr (ra 0 [.sl kx [0] slices,kI v2] rfl (zai rfl zAA.el (zC _ _ _) vk) rfl (ra 0 [.ep kx [0] x2 0] rfl (zgf Rp.str x2 rfl rfl rfl) rfl rf)) (jb h fun v3 vB h=>jr (ra 2 [.own Rp.str 9 14 [] newslice,.sl Rp.str [0] x2] rfl (zeR 14 [] rfl zhX.el rfl (zbu _ _ _ _ _) (zC _ _ _) vB (.inl zlb) rfl) rfl rf) (zX (jp ?_))));cases h;exact zH lzz
  cases h;exact zad rfl lzz
 refine zas _ rfl (jp ?_);obtain rfl:=(sj h);exact zw (lk [2] [] 14 2 lzz)
theorem zjp (h:zbY slices=some r):FnOk Tryz.prog 113 [.sl (Rp.list zd) [0] slices] [.own zd 27 2 [0] r]:=by
 refine zy (E:=⟨[(2,.own zd 27 2 [0] r)],[]⟩) 36 Tryz.func113 rfl rfl rfl ⟨rfl,trivial⟩ (fun Xt=>?_);refine zm ?_;unfold zbY at h;refine jp (jp (jp (zv (jb h fun q vc h=>zac (fun s:(Int×Int)=>zN slices s.1 s.2) (fun s=>⟨[(0,.sl (Rp.list zd) [0] slices),(3,kI s.1),(9,.sl (Rp.list zd) [0] slices),(10,kI (slices.length:Int)),(11,kI s.2)],[]⟩) (fun o e a w=>e= .exit 0/\Sx ⟨⟨36,[]⟩,Xt,false,#[]⟩ ⟨[(0,.sl (Rp.list zd) [0] slices),(3,kI o)],[]⟩ a w) ?_ vc lzz ?_))))
 ·clear h;intro s o h;obtain ⟨size,v⟩:=s;refine zm ?_;replace h:zN slices size v=some o:=h;unfold zN at h;refine jp (jI h (fun uW h=>?_) fun uW h=>?_)
  ·refine zv (jb h fun x vg h=>jr (ra 0 [.sl (Rp.list zd) [0] slices,kI v] rfl (zai rfl zDJ.el (zC _ _ _) vg) rfl (ra 0 [.ep (Rp.list zd) [0] x 0] rfl (zgf zd x rfl rfl rfl) rfl rf)) (jp (jp (jI h (fun uY h=>?_) fun uY h=>?_))))
   · exact absurd h nofun
   refine zX (jp ?_);cases h;exact zH lzz
  cases h;exact zad rfl lzz
 refine zas _ rfl (jb h fun rv uZ h=>jr (rl 1 [1] 12 Tryz.call145 (zjT uZ) rf) (jp (zv (jb h fun q2 vu h=>zac (fun s:((List zc)×Int)=>zY slices s.1 s.2) (fun s=>⟨[(6,.own zd 27 14 [0] s.1),(25,.sl (Rp.list zd) [0] slices),(26,kI (slices.length:Int)),(27,kI s.2)],[]⟩) (fun o e a w=>e= .exit 2/\Sx ⟨⟨36,[]⟩,Xt,false,#[]⟩ ⟨[(6,.own zd 27 14 [0] o)],[]⟩ a w) ?_ vu ?_ ?_))))
 ·clear h;intro s o h;obtain ⟨newslice,v2⟩:=s;refine zm ?_;replace h:zY slices newslice v2=some o:=h;unfold zY at h;refine jp (jI h (fun u9 h=>?_) fun u9 h=>?_)
  ·refine zv (jb h fun x2 vk h=>jr (ra 0 [.sl (Rp.list zd) [0] slices,kI v2] rfl (zai rfl zDJ.el (zC _ _ _) vk) rfl (ra 0 [.ep (Rp.list zd) [0] x2 0] rfl (zgf zd x2 rfl rfl rfl) rfl rf)) (jb h fun v3 vB h=>jr (ra 2 [.own zd 27 14 [0] newslice,.sl zd [0] x2] rfl (zeR 14 [0] rfl zjg.el rfl (zbu _ _ _ _ _) (zC _ _ _) vB (.inr rfl) rfl) rfl rf) (zX (jp ?_))));cases h;exact zH lzz
  cases h;exact zad rfl lzz
 ·exact lq ⟨[(6,.own zd 27 14 [] rv),(25,.sl (Rp.list zd) [0] slices),(26,kI (slices.length:Int)),(27,kI 0)],[]⟩ (zdE 6 (.own zd 27 14 [0] rv) rfl (zdz _ _ _ _ _ _ rfl rfl) lzz)
 refine zas _ rfl (jp ?_);obtain rfl:=(sj h);exact zw (lk [2] [] 14 2 lzz)
theorem zsn (h:zhG vf l=some r):FnOk Tryz.prog 9 [.sl zd [0] l] [kB r]:=by
 refine zy (E:=⟨[(2,kB r)],[]⟩) 16 Tryz.func9 rfl rfl rfl ⟨rfl,trivial⟩ (fun Xt=>?_);refine zm ?_;unfold zhG at h;refine jp (jp (zv (jb h fun q vc h=>zac (fun s:Int=>zbG vf l s) (fun s=>⟨[(0,.sl zd [0] l),(3,kI s)],[]⟩) (fun o e a w=>match o with| (.inl v_)=>e= .exit 0/\Sx ⟨⟨16,[]⟩,Xt,false,#[]⟩ ⟨[],[]⟩ a w| (.inr v_)=>e= .ret/\Sx ⟨⟨16,[]⟩,Xt,false,#[]⟩ ⟨[(2,kB true)],[]⟩ a w) ?_ vc lzz ?_)))
 ·clear h;intro i o h;refine zm ?_;replace h:zbG vf l i=some o:=h;unfold zbG at h;refine jp (jI h (fun uW h=>?_) fun uW h=>?_)
  ·refine zv (jb h fun x vg h=>jb h fun rv uZ h=>jr (ra 2 [.sl zd [0] l,kI i] rfl (zai rfl zjg.el (zC _ _ _) vg) rfl (ra 0 [.ep zd [0] x 0] rfl (zcr rfl ⟨Tryz.isAgg27,Tryz.sizeOf27⟩) rfl (rl 0 [0] 10 Tryz.call35 (zqG uZ) rf))) (jI h (fun uY h=>?_) fun uY h=>?_))
   ·refine jp ?_;cases h;exact zbf lzz
   refine zX (jp ?_);cases h;exact zH lzz
  cases h;exact zad rfl lzz
 rcases q with u| u2
 ·refine zas _ rfl (jp ?_);obtain rfl:=(sj h);exact zw lzz
 obtain rfl:=(sj h);exact zdj lzz
theorem zqi (h:zgF sv i k=some r):FnOk Tryz.prog 150 [.sl zj [0] sv,kI i,kI k] [kI r]:=by
 refine zy (E:=⟨[(6,kI r)],[]⟩) 119 Tryz.func150 rfl rfl rfl ⟨rfl,trivial⟩ (fun Xt=>?_);refine zm ?_;unfold zgF at h;refine jp (jb h fun x vg h=>jb h fun x2 vk h=>jr (ra 2 [.sl zj [0] sv,kI i] rfl (zai rfl zjf.el (zC _ _ _) vg) rfl (ra 1 [.ep zj [0] x 1] rfl (zgf zg x.Fields rfl rfl rfl) rfl (ra 1 [.sl zg [0] x.Fields,kI k] rfl (zai rfl zpi.el (zC _ _ _) vk) rfl (ra 0 [.ep zg [0] x2 0] rfl (zcr rfl ⟨Tryz.isAgg65,Tryz.sizeOf65⟩) rfl (rfl' [11]))))) (jp (jp (zv (jb h fun q vc h=>zac (fun s:(Bool×Bool×Int)=>zbB i k sv x2 s.1 s.2.1 s.2.2) (fun s=>⟨[(0,.sl zj [0] sv),(1,kI i),(2,kI k),(7,.ptr 11 0),(8,kB s.1),(9,kB s.2.1),(10,kI s.2.2)],[⟨11,65,(zB x2)⟩]⟩) (fun o e a w=>e= .exit 0/\Sx ⟨⟨119,[]⟩,Xt,false,#[]⟩ ⟨[(0,.sl zj [0] sv),(7,.ptr 11 0),(8,kB o.1),(9,kB o.2)],[⟨11,65,(zB x2)⟩]⟩ a w) ?_ vc lzz ?_)))))
 ·clear h;intro s o h;obtain ⟨vG,vv,j⟩:=s;refine zm ?_;replace h:zbB i k sv x2 vG vv j=some o:=h;unfold zbB at h;refine jp (jI h (fun uW h=>?_) fun uW h=>?_)
  ·refine zv (jb h fun g uX h=>zeg (R:=fun e a w=>e= .normal/\Sx ⟨⟨119,[]⟩,Xt,false,#[]⟩ ⟨[(0,.sl zj [0] sv),(1,kI i),(2,kI k),(7,.ptr 11 0),(8,kB g),(9,kB vv),(10,kI j)],[⟨11,65,(zB x2)⟩]⟩ a w) ?_ (zgp ?_))
   ·refine zm ?_;rcases yu vG with uY| uY
    ·replace uX:=iteT uX uY;cases uX;exact jd [0,1,2,7,8,9,10] [11] zbh (by exact (lw_e (lx (zbE ⟨[(24,kB vG)],[]⟩ (by kernel_rfl) uY) l0))) (zH lzz)
    replace uX:=iteF uX uY;refine jb uX fun x3 vo uX=>jb uX fun x4 vC uX=>?_;cases uX;exact jd [0,1,2,7,8,9,10] [11] zbh (by exact (lw_e (lx (zbE ⟨[(24,kB vG)],[]⟩ (by kernel_rfl) uY) (lw_e (lw_e (ly [.sl zj [0] sv,kI i] (zai rfl zjf.el (zC _ _ _) vo) rfl (lw_e (ly [.ep zj [0] x3 1] (zgf zg x3.Fields rfl rfl rfl) rfl (lw_e (ly [.sl zg [0] x3.Fields,kI j] (zai rfl zpi.el (zC _ _ _) vC) rfl l0)))))))))) (zH lzz)
   refine jb h fun g2 vb h=>zeg (R:=fun e a w=>e= .normal/\Sx ⟨⟨119,[]⟩,Xt,false,#[]⟩ ⟨[(0,.sl zj [0] sv),(1,kI i),(2,kI k),(7,.ptr 11 0),(8,kB g),(9,kB g2),(10,kI j)],[⟨11,65,(zB x2)⟩]⟩ a w) ?_ (zgp ?_)
   ·refine zm ?_;rcases yu vv with u9| u9
    ·replace vb:=iteT vb u9;cases vb;exact jd [0,1,2,7,8,9,10] [11] zbh (by exact (lw_e (lx (zbE ⟨[(39,kB vv)],[]⟩ (by kernel_rfl) u9) l0))) (zH lzz)
    replace vb:=iteF vb u9;refine jb vb fun x5 vK vb=>jb vb fun x6 vU vb=>?_;cases vb;exact jd [0,1,2,7,8,9,10] [11] zbh (by exact (lw_e (lx (zbE ⟨[(39,kB vv)],[]⟩ (by kernel_rfl) u9) (lw_e (lw_e (ly [.sl zj [0] sv,kI i] (zai rfl zjf.el (zC _ _ _) vK) rfl (lw_e (ly [.ep zj [0] x5 1] (zgf zg x5.Fields rfl rfl rfl) rfl (lw_e (ly [.sl zg [0] x5.Fields,kI j] (zai rfl zpi.el (zC _ _ _) vU) rfl l0)))))))))) (zH lzz)
   refine zX (jp ?_);cases h;exact zH lzz
  cases h;exact zad rfl lzz
 refine zas _ rfl (jb h fun rv uZ h=>jr (rl 2 [1] 11 Tryz.call149 (zlu uZ) rf) (jI h (fun vd h=>?_) fun vd h=>?_))
 ·refine jp ?_;cases h;exact zw lzz
 refine jp (jI h (fun vh h=>?_) fun vh h=>?_)
 ·refine jp ?_;cases h;exact zw lzz
 refine zab ⟨[(0,.sl zj [0] sv),(7,.ptr 11 0),(9,kB q.2),(76,kB ((decide (x2.Number<1))|| ((decide (x2.Number>536870911))|| ((decide (x2.Number>=19000))&&(decide (x2.Number<20000))))))],[⟨11,65,(zB x2)⟩]⟩ ?_ ?_
 ·refine (rsl 4 [] 62 (decide (x2.Number<1)) (fun vi=>?_) (fun vi=>?_))
  · exact (rbl [] 76 true rfl (by rw [vi]<;>rfl))
  refine (rsl 5 [] 67 (decide (x2.Number>536870911)) (fun vm=>?_) (fun vm=>?_))
  · exact (rbl [] 76 true rfl (by rw [vi,vm]<;>rfl))
  refine (rsl 4 [] 71 (decide (x2.Number>=19000)) (fun vp=>?_) (fun vp=>?_))
  · exact (rbl [] 76 (decide (x2.Number<20000)) rfl (by rw [vi,vm,vp]<;>rfl))
  exact (rbl [] 76 false rfl (by rw [vi,vm,vp]<;>rfl))
 refine jI h (fun vq h=>?_) fun vq h=>?_
 ·refine jp ?_;cases h;exact zw lzz
 refine jp (jI h (fun vA h=>?_) fun vA h=>?_)
 ·refine jp ?_;cases h;exact zw lzz
 refine jb h fun rv2 vj h=>jr (rl 2 [1] 11 Tryz.call59 (ziH vj) rf) (jI h (fun vL h=>?_) fun vL h=>?_)
 ·refine jp ?_;cases h;exact zw lzz
 refine jb h fun g3 vn h=>zab ⟨[(0,.sl zj [0] sv),(7,.ptr 11 0),(93,kB g3)],[⟨11,65,(zB x2)⟩]⟩ ?_ ?_
 ·refine (rsl 3 [] 84 x2.Packed (fun vF=>?_) (fun vF=>?_))
  ·replace vn:=iteT vn vF;refine (rsl 3 [] 87 x2.Repeated (fun vE=>?_) (fun vE=>?_))
   ·replace vn:=iteT vn vE;refine jb vn fun rv3 vl vn=>?_;cases vn;exact (rl 2 [1] 11 Tryz.call60 (zij vl) (rel [] lzz))
   replace vn:=iteF vn vE;cases vn;exact (rel [] lzz)
  replace vn:=iteF vn vF;cases vn;exact (rel [] lzz)
 refine jI h (fun vI h=>?_) fun vI h=>?_
 ·refine jp ?_;cases h;exact zw lzz
 refine zab ⟨[(118,kB (if (x2.Kind==17) then ((decide (x2.Of<0))|| ((decide (x2.Of>=(sv.length:Int)))|| ((x2.Kind !=17)&&(x2.Of !=0)))) else ((x2.Kind !=17)&&(x2.Of !=0))))],[]⟩ ?_ ?_
 ·refine (rsl 4 [] 97 (x2.Kind==17) (fun vM=>?_) (fun vM=>?_))
  ·refine (rsl 4 [] 101 (decide (x2.Of<0)) (fun vR=>?_) (fun vR=>?_))
   · exact (rbl [] 118 true rfl (by rw [vM,vR]<;>rfl))
   refine (rsl 8 [] 109 (decide (x2.Of>=(sv.length:Int))) (fun vP=>?_) (fun vP=>?_))
   · exact (rbl [] 118 true rfl (by rw [vM,vR,vP]<;>rfl))
   refine (rsl 4 [] 113 (x2.Kind !=17) (fun vS=>?_) (fun vS=>?_))
   · exact (rbl [] 118 (x2.Of !=0) rfl (by rw [vM,vR,vP,vS]<;>rfl))
   exact (rbl [] 118 false rfl (by rw [vM,vR,vP,vS]<;>rfl))
  refine (rsl 16 [] 113 (x2.Kind !=17) (fun vW=>?_) (fun vW=>?_))
  · exact (rbl [] 118 (x2.Of !=0) rfl (by rw [vM,vW]<;>rfl))
  exact (rbl [] 118 false rfl (by rw [vM,vW]<;>rfl))
 refine jI h (fun wt h=>?_) fun wt h=>?_
 ·refine jp ?_;cases h;exact zw lzz
 refine jp ?_;cases h;exact zw lzz
theorem zqg (h:zgD k wv=some r):FnOk Tryz.prog 61 [kI k,kU wv] [kU r]:=by
 refine zy (E:=⟨[(4,kU r)],[]⟩) 25 Tryz.func61 rfl rfl rfl ⟨rfl,trivial⟩ (fun Xt=>?_);refine zm ?_;unfold zgD at h;refine jp (jp (zv (jp (jb h fun p vJ h=>zeg (R:=fun e a w=>e= .normal/\Sx ⟨⟨25,[]⟩,Xt,false,#[]⟩ ⟨[(1,kU wv),(5,kI k),(6,kB p)],[]⟩ a w) ?_ ?_))))
 ·replace h:=vJ;refine zm (jI h (fun uW h=>?_) fun uW h=>?_)
  ·cases h;exact zH lzz
  refine jp ?_;cases h;exact zH lzz
 refine zgp (jI h (fun uY h=>?_) fun uY h=>?_)
 ·refine jb h fun rv uZ h=>jb h fun rv2 vj h=>jr (rl 1 [1] 9 Tryz.call93 (zps uZ) (rl 0 [1] 9 Tryz.call92 (zqH vj) rf)) ?_;obtain rfl:=(sj h);exact zw lzz
 refine jp (jb h fun p2 vV h=>zeg (R:=fun e a w=>e= .normal/\Sx ⟨⟨25,[]⟩,Xt,false,#[]⟩ ⟨[(1,kU wv),(5,kI k),(12,kB p2)],[]⟩ a w) ?_ ?_)
 ·replace h:=vV;refine zm (jI h (fun u9 h=>?_) fun u9 h=>?_)
  ·cases h;exact zH lzz
  refine jp (jI h (fun vd h=>?_) fun vd h=>?_)
  ·cases h;exact zH lzz
  refine jp (jI h (fun vh h=>?_) fun vh h=>?_)
  ·cases h;exact zH lzz
  refine jp (jI h (fun vi h=>?_) fun vi h=>?_)
  ·cases h;exact zH lzz
  refine jp ?_;cases h;exact zH lzz
 refine zgp (jI h (fun vm h=>?_) fun vm h=>?_)
 ·refine jp ?_;cases h;exact zw lzz
 refine jp (jI h (fun vp h=>?_) fun vp h=>?_)
 ·refine jp (jI h (fun vq h=>?_) fun vq h=>?_)
  ·refine jp ?_;cases h;exact zw lzz
  refine jp ?_;cases h;exact zw lzz
 refine zX (jp ?_);obtain rfl:=(sj h);exact zw lzz
theorem zqJ (h:zhf b atv=some r):FnOk Tryz.prog 127 [.sl Rp.byte [0] b,kI atv] [kI r]:=by
 refine zy (E:=⟨[(4,kI r)],[]⟩) 61 Tryz.func127 rfl rfl rfl ⟨rfl,trivial⟩ (fun Xt=>?_);refine zm ?_;unfold zhf at h;refine jp (jp (zv (jb h fun q2 vu h=>zac (fun s:Int=>zbP atv b s) (fun s=>⟨[(0,.sl Rp.byte [0] b),(1,kI atv),(5,kI s)],[]⟩) (fun o e a w=>match o with| (.inl v_)=>e= .exit 0/\Sx ⟨⟨61,[]⟩,Xt,false,#[]⟩ ⟨[],[]⟩ a w| (.inr v_)=>e= .ret/\Sx ⟨⟨61,[]⟩,Xt,false,#[]⟩ ⟨[(4,kI v_)],[]⟩ a w) ?_ vu lzz ?_)))
 ·clear h;intro n o h;refine zm ?_;replace h:zbP atv b n=some o:=h;unfold zbP at h;refine zab ⟨[(0,.sl Rp.byte [0] b),(1,kI atv),(5,kI n),(17,kB ((decide (n<=4))&&(decide ((IntKind.i64.wrap (atv+n))<=(b.length:Int)))))],[]⟩ ?_ ?_
  ·refine (rsl 3 [] 10 (decide (n<=4)) (fun uW=>?_) (fun uW=>?_))
   · exact (rbl [] 17 (decide ((IntKind.i64.wrap (atv+n))<=(b.length:Int))) rfl (by rw [uW]<;>rfl))
   exact (rbl [] 17 false rfl (by rw [uW]<;>rfl))
  refine jI h (fun uY h=>?_) fun uY h=>?_
  ·refine zv (jb h fun x vg h=>jr (ra 2 [.sl Rp.byte [0] b,kI atv] rfl (zai rfl ziJ.el (zC _ _ _) vg) rfl rf) (jp (jb h fun p vJ h=>zeg (R:=fun e a w=>e= .normal/\Sx ⟨⟨61,[]⟩,Xt,false,#[]⟩ ⟨[(0,.sl Rp.byte [0] b),(1,kI atv),(5,kI n),(6,kI p)],[]⟩ a w) ?_ ?_)))
   ·replace h:=vJ;refine zm (jI h (fun u9 h=>?_) fun u9 h=>?_)
    ·refine jb h fun x2 vk h=>jb h fun v3 vB h=>jr (rc 1 rfl (zbX [kI 0,kI 0,kI 32,kI 16,kI 8] 12 [] ([0,0,32,16,8]:(List Int)) rfl zlP rfl rfl rfl rfl) (ra 1 [.own kp 3 12 [] ([0,0,32,16,8]:(List Int)),kI n] rfl (zai rfl zlP.el (zfL _ _ _ _ _) vk) rfl (ra 1 [kI (IntKind.i64.wrap (x.toNat:Int)),kI x2] rfl (zKk rfl vB) rfl rf))) ?_;cases h;exact zH lzz
    cases h;exact zH lzz
   refine zgp (jp (zv (jb h fun q vc h=>zac (fun s:(Int×Int)=>zbQ atv b n s.1 s.2) (fun s=>⟨[(0,.sl Rp.byte [0] b),(1,kI atv),(5,kI n),(6,kI s.1),(7,kI s.2)],[]⟩) (fun o e a w=>e= .exit 2/\Sx ⟨⟨61,[]⟩,Xt,false,#[]⟩ ⟨[(0,.sl Rp.byte [0] b),(1,kI atv),(5,kI n),(6,kI o)],[]⟩ a w) ?_ vc lzz ?_)))
   ·clear h;intro s o h;obtain ⟨rv2,i⟩:=s;refine zm ?_;replace h:zbQ atv b n rv2 i=some o:=h;unfold zbQ at h;refine jp (jI h (fun vd h=>?_) fun vd h=>?_)
    ·refine zv (jb h fun x3 vo h=>jr (ra 6 [.sl Rp.byte [0] b,kI (IntKind.i64.wrap (atv+i))] rfl (zai rfl ziJ.el (zC _ _ _) vo) rfl rf) (zX (jp ?_)));cases h;exact zH lzz
    cases h;exact zad rfl lzz
   refine zas _ rfl (jb h fun rv4 vx h=>jb h fun v4 vO h=>jd [0,1,5,59] [] zbh (by exact (lw_e (lx (lf1 156 (zQ [kI q] [1] 12 rfl Tryz.call156 (zso vx) rfl rfl rfl rfl rfl)) (ly [.own Rp.byte 5 14 [] rv4] (zHv rfl Tryz.underlying114 Tryz.underlying5 Tryz.underlying9 (zfL _ _ _ _ _)) rfl (lw_e (lw_e (lw_e (lw_e (lw_e (ly [.sl Rp.byte [0] b,kI atv,kI (IntKind.i64.wrap (atv+n))] (zqV (some (kI atv)) (some (kI (IntKind.i64.wrap (atv+n)))) rfl ziJ.el (zC _ _ _) ⟨rfl,rfl⟩ ⟨rfl,rfl⟩ vO) rfl (ly [.sl Rp.byte [0] v4] (zHv rfl Tryz.underlying114 Tryz.underlying5 Tryz.underlying9 (zC _ _ _)) rfl l0))))))))))) (jI h (fun vh h=>?_) fun vh h=>?_))
   ·refine jp ?_;cases h;exact zbf lzz
   refine zX (jp ?_);cases h;exact zH lzz
  cases h;exact zad rfl lzz
 rcases q2 with u| u2
 ·refine zas _ rfl (jp ?_);cases h;exact zw lzz
 obtain rfl:=(sj h);exact zdj lzz
end Go.Proofs.YtekgmimingolbaaGreat
