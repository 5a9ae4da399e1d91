/-
  The Go functions do what the plain functions say. No condition.
-/
import Derived.Test.YtekgmimingolbaaGreatx2G1
import Derived.Test.YtekgmimingolbaaGreatx2G2
import Derived.Test.YtekgmimingolbaaGreatx2Y
set_option autoImplicit true
set_option relaxedAutoImplicit true
namespace Go.Proofs.YtekgmimingolbaaGreat
open Go Go.RowKit
set_option linter.unusedVariables false
set_option maxRecDepth 100000
set_option maxHeartbeats 3200000
theorem ztn (h:zik x y=some r):FnOk Tryz.prog 106 [kI x,kI y] [kI r]:=by
 refine zu (E:=⟨[(4,kI r)],[]⟩) 20 Tryz.func106 rfl rfl rfl ⟨rfl,trivial⟩ (fun Xt=>?_);refine zk ?_;unfold zik at h;refine jp ?_;obtain ⟨rv,uS,h⟩:=bnd h;refine jr (rl 1 [1] 9 Tryz.call138 (zoy uS) rf) ?_;obtain ⟨rv2,u9,h⟩:=bnd h;refine jr (rl 1 [1] 9 Tryz.call138 (zoy u9) rf) (jp (jI h (fun uQ h=>?_) fun uQ h=>?_))
 ·refine jp (jI h (fun uR h=>?_) fun uR h=>?_)
  ·refine jp ?_;cases h;exact zo lzz
  refine jp ?_;cases h;exact zo lzz
 refine jp (jI h (fun uT h=>?_) fun uT h=>?_)
 ·refine jp ?_;cases h;exact zo lzz
 refine jp (jI h (fun uX h=>?_) fun uX h=>?_)
 ·refine jp ?_;cases h;exact zo lzz
 refine jp (jI h (fun vb h=>?_) fun vb h=>?_)
 ·refine jp ?_;cases h;exact zo lzz
 refine jp ?_;cases h;exact zo lzz
theorem zBM (h:zpR way other=some r):FnOk Tryz.prog 101 [.sl (Rp.int .i64) [0] way,.sl (Rp.int .i64) [0] other] [kB r]:=by
 refine zu (E:=⟨[(4,kB r)],[]⟩) 23 Tryz.func101 rfl rfl rfl ⟨rfl,trivial⟩ (fun Xt=>?_);refine zk ?_;unfold zpR at h;refine jp ?_;obtain ⟨g,uP,h⟩:=bnd h;refine zU ⟨[(4,kB g)],[]⟩ ?_ ?_
 ·refine (rsl 4 [] 8 (decide ((other.length:Int)>0)) (fun uQ=>?_) (fun uQ=>?_))
  ·replace uP:=iteT uP uQ;refine (rsl 7 [] 15 (decide ((other.length:Int)<=(way.length:Int))) (fun uR=>?_) (fun uR=>?_))
   ·replace uP:=iteT uP uR;obtain ⟨v,vf,uP⟩:=bnd uP;obtain ⟨rv,uS,uP⟩:=bnd uP;cases uP;exact (ra 3 [.sl (Rp.int .i64) [0] way,kI (other.length:Int)] rfl (zmS none (some (kI (other.length:Int))) rfl zgJ.el (zy _ _ _) ⟨rfl,rfl⟩ ⟨rfl,rfl⟩ vf) rfl (rl 1 [0] 9 Tryz.call134 (zob uS) rgg))
   replace uP:=iteF uP uR;cases uP;exact rgg
  replace uP:=iteF uP uQ;cases uP;exact rgg
 obtain rfl:=(sj h);exact zo lzz
theorem zsh {ways:(List (List Int))} (h:zla ways=some r):FnOk Tryz.prog 68 [.sl (Rp.list (Rp.int .i64)) [0] ways] [.own (Rp.list (Rp.int .i64)) 53 2 [3] r]:=by
 refine zu (E:=⟨[(2,.own (Rp.list (Rp.int .i64)) 53 2 [3] r)],[]⟩) 23 Tryz.func68 rfl rfl rfl ⟨rfl,trivial⟩ (fun Xt=>?_);refine zk ?_;unfold zla at h;refine jp ?_;obtain ⟨v,vf,h⟩:=bnd h;refine jr (ra 2 [kI (ways.length:Int),kI (ways.length:Int)] rfl (zuW 13 rfl zmP rfl vf) rfl rf) (jp (zp ?_));obtain ⟨q,uU,h⟩:=bnd h;refine zab (fun s:((List (List Int))×Int)=>zek ways s.1 s.2) (fun s=>⟨[(3,.own (Rp.list (Rp.int .i64)) 53 13 [14] s.1),(9,.sl (Rp.list (Rp.int .i64)) [0] ways),(10,kI (ways.length:Int)),(11,kI s.2)],[]⟩) (fun o e a w=>e= .exit 0/\Sx ⟨⟨23,[]⟩,Xt,false,#[]⟩ ⟨[(3,.own (Rp.list (Rp.int .i64)) 53 13 [14] o)],[]⟩ a w) ?_ uU ?_ ?_
 ·clear h;intro s o h;obtain ⟨l,v2⟩:=s;refine zk ?_;replace h:zek ways l v2=some o:=h;unfold zek at h;refine jp (jI h (fun uQ h=>?_) fun uQ h=>?_)
  ·refine zp ?_;obtain ⟨x,u0,h⟩:=bnd h;refine jr (ra 1 [.sl (Rp.list (Rp.int .i64)) [0] ways,kI v2] rfl (zW rfl zmP.el (zy _ _ _) u0) rfl (ra 0 [.ep (Rp.list (Rp.int .i64)) [0] x 0] rfl (zeR (Rp.int .i64) x rfl rfl rfl) rfl rf)) ?_;obtain ⟨rv,uS,h⟩:=bnd h;obtain ⟨x2,va,h⟩:=bnd h;refine jr (rl 3 [0] 15 Tryz.call102 (zoa uS) (ra 0 [.own (Rp.list (Rp.int .i64)) 53 13 [14] l,kI v2] rfl (zsb rfl zmP.el va) rfl (rkl 0 [] ⟨[(3,.own (Rp.list (Rp.int .i64)) 53 13 [14] l),(9,.sl (Rp.list (Rp.int .i64)) [0] ways),(10,kI (ways.length:Int)),(11,kI v2),(19,.own (Rp.int .i64) 3 17 [] rv),(20,.ptr 13 (Int.toNat v2*(Rp.list (Rp.int .i64)).size))],[]⟩ (zCf (r:=(Rp.list (Rp.int .i64))) (e:=53) (C:=[14]) (xs:=l) [3] (Int.toNat v2) 0 x2 rv [14,17] rfl rfl rfl rfl rfl rfl Tryz.sizeOf53 rfl (by kernel_rfl) rfl (zsT va) rfl (zvo rfl _) rfl rf)))) (zV (jp ?_));cases h;exact zD (lk [3,9,10,11] [] 17 14 (zaq ⟨[(3,.own (Rp.list (Rp.int .i64)) 53 13 [14,14] (l.set (Int.toNat v2) rv)),(9,.sl (Rp.list (Rp.int .i64)) [0] ways),(10,kI (ways.length:Int)),(11,kI (IntKind.i64.wrap (v2+1)))],[]⟩ (by kernel_rfl) (zdB 3 (.own (Rp.list (Rp.int .i64)) 53 13 [14] (l.set (Int.toNat v2) rv)) rfl (zej _ _ _ _ _ _ rfl rfl) lzz)))
  cases h;exact zaa rfl lzz
 ·exact zaq ⟨[(3,.own (Rp.list (Rp.int .i64)) 53 13 [] v),(9,.sl (Rp.list (Rp.int .i64)) [0] ways),(10,kI (ways.length:Int)),(11,kI 0)],[]⟩ (by kernel_rfl) (zdB 3 (.own (Rp.list (Rp.int .i64)) 53 13 [14] v) rfl (zej _ _ _ _ _ _ rfl rfl) lzz)
 refine zan _ rfl (jp ?_);obtain rfl:=(sj h);exact zo (lk [2] [] 13 2 (lk [2] [] 14 3 lzz))
theorem zlH (h:zen sv=some r):FnOk Tryz.prog 70 [.sl (Rp.list (Rp.int .i64)) [0] sv] [.fv 105 [.bp (Rp.list (Rp.list (Rp.int .i64))) 45 910500 [0] r]]:=by
 refine zu (E:=⟨[(2,.fv 105 [.bp (Rp.list (Rp.list (Rp.int .i64))) 45 910500 [0] r])],[]⟩) 4 Tryz.func70 rfl rfl rfl ⟨rfl,trivial⟩ (fun Xt=>?_);refine zk ?_;unfold zen at h;refine jq [910500] (jr (ra 0 [.ptr 910500 0] rfl (zGF (g:=105) [.tmp 1] [⟨910500,45,[.sl (Rp.list (Rp.int .i64)) [0] sv]⟩] [.bp (Rp.list (Rp.list (Rp.int .i64))) 45 910500 [0] sv] rfl ⟨⟨rfl,rfl,rfl,rfl⟩,trivial⟩ rfl) rfl rf) ?_);obtain rfl:=(sj h);exact zo lzz
theorem zeq (h:zav v=some r):FnOk Tryz.prog 135 [kN,.fv 105 [.ep (Rp.list (Rp.list (Rp.int .i64))) [0] v 0]] [.own (Rp.list (Rp.int .i64)) 53 2 [3,0] r]:=by
 refine zAm (E:=⟨[(4,.own (Rp.list (Rp.int .i64)) 53 2 [3,0] r)],[]⟩) 13 Tryz.func135 rfl rfl rfl ⟨rfl,trivial⟩ rfl rfl (fun Xt=>?_);refine zk ?_;unfold zav at h;refine jq [15] (jp (zp ?_));obtain ⟨q,uU,h⟩:=bnd h;refine ztB (E':=⟨[(2,.ptr 15 0),(6,.fv 105 [.ep (Rp.list (Rp.list (Rp.int .i64))) [0] v 0])],[⟨15,45,[.own (Rp.list (Rp.int .i64)) 53 18 [16,0] []]⟩]⟩) ?_ ?_
 ·exact zaq ⟨[(2,.ptr 15 0),(6,.fv 105 [.ep (Rp.list (Rp.list (Rp.int .i64))) [0] v 0])],[⟨15,45,[kN]⟩]⟩ (by kernel_rfl) (zat 15 0 (.own (Rp.list (Rp.int .i64)) 53 18 [16,0] []) rfl rfl (zaL (Rp.list (Rp.int .i64)) 53 18 [16,0] rfl) lzz)
 refine zDt (it:=fun {σ:Type} (kf:Rnd σ (List Int)) (sg:σ)=>zbl v kf sg) (zkO v) [] [2] [15] [(2,.ptr 15 0)] (fun s:(List (List Int))=>[⟨15,45,[.own (Rp.list (Rp.int .i64)) 53 18 [16,0] s]⟩]) (fun o:Empty=>[]) (fun o:Empty=> .ret) (fun (s:(List (List Int))) (x:(List Int))=>zO s x) (fun (s:(List (List Int))) (x:(List Int))=>⟨[(2,.ptr 15 0),(5,.sl (Rp.int .i64) [0] x)],[⟨15,45,[.own (Rp.list (Rp.int .i64)) 53 18 [16,0] s]⟩]⟩) rfl rfl Tryz.call105 rfl rfl rfl rfl rfl rfl (fun _=>rfl) (fun o=>rfl) rfl rfl (fun _=>rfl) ?_ (fun _ _=>⟨rfl,rfl⟩) ?_ uU ?_
 ·clear h;intro Xr old f x;exact zk (ztB (E':=⟨[(7,.sl (Rp.int .i64) [0] x),(2,.ptr 15 0)],[⟨15,45,[.own (Rp.list (Rp.int .i64)) 53 18 [16,0] f]⟩]⟩) (fun _ _ _ hs=>hs) (jp (zD lzz)))
 ·clear h;intro Xr old f x o h;refine zk (ztB (E':=⟨[(2,.ptr 15 0),(5,.sl (Rp.int .i64) [0] x)],[⟨15,45,[.own (Rp.list (Rp.int .i64)) 53 18 [16,0] f]⟩]⟩) (fun _ _ _ hs=>hs) ?_);replace h:zO f x=some o:=h;unfold zO at h;refine zp ?_;obtain ⟨v2,vp,h⟩:=bnd h;refine jr (rc 2 rfl (zbZ [.sl (Rp.int .i64) [0] x] 20 [0] ([x]:(List (List Int))) rfl zmP rfl rfl rfl rfl) (ra 0 [.own (Rp.list (Rp.int .i64)) 53 18 [16,0] f,.own (Rp.list (Rp.int .i64)) 53 20 [0] ([x]:(List (List Int)))] rfl (zhp 18 [16,0,20] rfl zmP.el rfl (zcY _ _ _ _ _) (zeG _ _ _ _ _) vp (.inr rfl) rfl) rfl rf)) (zV ?_);cases h;exact zD (lk [2] [15] 20 16 (zaq ⟨[(2,.ptr 15 0)],[⟨15,45,[.own (Rp.list (Rp.int .i64)) 53 18 [16,0,16] v2]⟩]⟩ (by kernel_rfl) (zat 15 0 (.own (Rp.list (Rp.int .i64)) 53 18 [16,0] v2) rfl rfl (zej _ _ _ _ _ _ rfl rfl) lzz)))
 rcases q with u| j
 ·refine ztB (E':=⟨[(2,.ptr 15 0)],[⟨15,45,[.own (Rp.list (Rp.int .i64)) 53 18 [16,0] u]⟩]⟩) (fun _ _ _ hs=>hs) (zV (jp ?_));obtain rfl:=(sj h);exact zo (lk [4] [] 18 2 (lk [4] [] 16 3 lzz))
 exact nomatch j
theorem zDx (h:zrZ=some r):FnOk Tryz.prog 139 [] [.own (Rp.int .i64) 3 2 [] r]:=by
 refine zu (E:=⟨[(0,.own (Rp.int .i64) 3 2 [] r)],[]⟩) 4 Tryz.func139 rfl rfl rfl ⟨rfl,trivial⟩ (fun Xt=>?_);refine zk ?_;unfold zrZ at h;refine jp ?_;obtain ⟨rv,uS,h⟩:=bnd h;obtain ⟨v,vf,h⟩:=bnd h;refine jr (rl 0 [1] 11 Tryz.call171 (ztC uS) (rkl 0 [] ⟨[(1,.om (Rp.int .i64) zC 13 [] rv)],[]⟩ (zEc (rv:=zC) (m:=rv) 14 zIb rfl rfl rfl rfl rfl rfl Tryz.call170 Tryz.call114 rfl (zGs _ _ _ _ _) vf rfl rf))) ?_;obtain rfl:=(sj h);exact zo (lk [0] [] 14 2 lzz)
theorem zqd (h:zjk vB=some r):FnOk Tryz.prog 172 [kS vB] [kB r]:=by
 refine zu (E:=⟨[(2,kB r)],[]⟩) 34 Tryz.func172 rfl rfl rfl ⟨rfl,trivial⟩ (fun Xt=>?_);refine zk ?_;unfold zjk at h;refine jp ?_;obtain ⟨g,uP,h⟩:=bnd h;refine zU ⟨[(0,kS vB),(15,kB g)],[]⟩ ?_ ?_
 ·refine (rsl 3 [] 6 (vB==[]) (fun uQ=>?_) (fun uQ=>?_))
  ·replace uP:=iteT uP uQ;cases uP;exact rgg
  replace uP:=iteF uP uQ;refine (rsl 5 [] 11 (decide ((vB.length:Int)>60)) (fun uR=>?_) (fun uR=>?_))
  ·replace uP:=iteT uP uR;cases uP;exact rgg
  replace uP:=iteF uP uR;obtain ⟨c,vX,uP⟩:=bnd uP;obtain ⟨rv,uS,uP⟩:=bnd uP;cases uP;exact (ra 1 [kS vB,kI 0] rfl (zBJ rfl Tryz.underlying9 vX) rfl (rl 0 [1] 9 Tryz.call195 (zoL uS) rgg))
 refine jI h (fun uT h=>?_) fun uT h=>?_
 ·refine jp ?_;obtain rfl:=(sj h);exact zo lzz
 refine jp (zp ?_);obtain ⟨q,uU,h⟩:=bnd h;refine zab (fun s:Int=>zcK vB s) (fun s=>⟨[(0,kS vB),(17,kI (vB.length:Int)),(18,kI s)],[]⟩) (fun o e a w=>match o with| (.inl v_)=>e= .exit 0/\Sx ⟨⟨34,[]⟩,Xt,false,#[]⟩ ⟨[],[]⟩ a w| (.inr v_)=>e= .ret/\Sx ⟨⟨34,[]⟩,Xt,false,#[]⟩ ⟨[(2,kB false)],[]⟩ a w) ?_ uU lzz ?_
 ·clear h;intro v2 o h;refine zk ?_;replace h:zcK vB v2=some o:=h;unfold zcK at h;refine jp (jI h (fun uX h=>?_) fun uX h=>?_)
  ·refine zp (jp ?_);obtain ⟨g2,uZ,h⟩:=bnd h;refine zU ⟨[(0,kS vB),(17,kI (vB.length:Int)),(18,kI v2),(32,kB g2)],[]⟩ ?_ ?_
   ·obtain ⟨c2,wX,uZ⟩:=bnd uZ;obtain ⟨rv2,u9,uZ⟩:=bnd uZ;refine (ra 2 [kS vB,kI v2] rfl (zBJ rfl Tryz.underlying9 wX) rfl (rl 0 [1] 10 Tryz.call196 (zuk u9) (rsl 2 [] 26 (!rv2) (fun vb=>?_) (fun vb=>?_))))
    ·replace uZ:=iteT uZ vb;obtain ⟨c3,wY,uZ⟩:=bnd uZ;obtain ⟨rv3,ve,uZ⟩:=bnd uZ;cases uZ;exact (ra 2 [kS vB,kI v2] rfl (zBJ rfl Tryz.underlying9 wY) rfl (rl 0 [1] 10 Tryz.call195 (zoL ve) rgg))
    replace uZ:=iteF uZ vb;cases uZ;exact rgg
   refine jI h (fun vc h=>?_) fun vc h=>?_
   ·refine jp ?_;cases h;exact zaN lzz
   refine zV (jp ?_);cases h;exact zD lzz
  cases h;exact zaa rfl lzz
 rcases q with u| u2
 ·refine zan _ rfl (jp ?_);obtain rfl:=(sj h);exact zo lzz
 obtain rfl:=(sj h);exact zcJ lzz
theorem zmK (h:zdD sv v=some r):FnOk Tryz.prog 174 [.sl (Rp.int .i64) [0] sv,kI v] [kB r]:=by
 refine zu (E:=⟨[(4,kB r)],[]⟩) 9 Tryz.func174 rfl rfl rfl ⟨rfl,trivial⟩ (fun Xt=>?_);refine zk ?_;unfold zdD at h;refine jp ?_;obtain ⟨rv,uS,h⟩:=bnd h;refine jr (rl 2 [0] 9 Tryz.call197 (zoc uS) rf) ?_;cases h;exact zo lzz
theorem zBB (h:zpM k=some r):FnOk Tryz.prog 217 [kI k] [kI r.1,k8 r.2]:=by
 refine zu (E:=⟨[(2,kI r.1),(3,k8 r.2)],[]⟩) 16 Tryz.func217 rfl rfl rfl ⟨rfl,rfl,trivial⟩ (fun Xt=>?_);refine zk ?_;unfold zpM at h;refine jp ?_;obtain ⟨rv,uS,h⟩:=bnd h;refine jr (rl 0 [1] 9 Tryz.call171 (ztC uS) (ra 1 [.om (Rp.int .i64) zC 11 [] rv,kI k] rfl (zsZ (rk:=(Rp.int .i64)) (rv:=zC) (m:=rv) (k:=k) (.rc zC [] ((mget rv k).getD (⟨[],0⟩:zx))) rfl zhj (zdu rfl rfl) (zuH rfl)) rfl (rfl' [12]))) (jp (jI h (fun uQ h=>?_) fun uQ h=>?_))
 ·refine jp ?_;cases h;exact zo lzz
 refine jp ?_;cases h;exact zo lzz
theorem zzO (h:zof uY x=some r):FnOk Tryz.prog 95 [.rc zc [0] x] [kI r]:=by
 refine zu (E:=⟨[(2,kI r)],[]⟩) 5 Tryz.func95 rfl rfl rfl ⟨rfl,trivial⟩ (fun Xt=>?_);refine zk ?_;unfold zof at h;refine jr (ra 0 [.rc zc [0] x] rfl (zaR 11 [.sl za [0] x.Values,.sl Rp.str [0] x.Unknown] [0] rfl rfl rfl (by rw [zj]<;>rfl) rfl) rfl rf) ?_;obtain ⟨rv,uS,h⟩:=bnd h;refine jr (rc 1 rfl (zw.le (ins':=[(.tmp 3,.ag [.sl za [0] x.Values,.sl Rp.str [0] x.Unknown]),(.const (.int .i64 131072),kI 131072)]) (zL (args:=[.tmp 3,.const (.int .i64 131072)]) [.rc zc [0] x,kI 131072] [0] 10 rfl Tryz.call128 (zzQ uS) rfl rfl rfl rfl rfl) ⟨⟨rfl,zK zc [0] x [.sl za [0] x.Values,.sl Rp.str [0] x.Unknown] (by rw [zj]<;>rfl) rfl⟩,⟨rfl,AV.le_refl _⟩,trivial⟩) rf) ?_;obtain rfl:=(sj h);exact zo lzz
theorem zfs (h:zaA sv v=some r):FnOk Tryz.prog 157 [.sl zf [0] sv,.fv 130 [.ep (Rp.int .i64) [0] v 0]] [kI r]:=by
 refine zu (E:=⟨[(4,kI r)],[]⟩) 19 Tryz.func157 rfl rfl rfl ⟨rfl,trivial⟩ (fun Xt=>?_);refine zk ?_;unfold zaA at h;refine jp (jp (zp ?_));obtain ⟨q,uU,h⟩:=bnd h;refine zab (fun s:Int=>zA sv v s) (fun s=>⟨[(0,.sl zf [0] sv),(1,.fv 130 [.ep (Rp.int .i64) [0] v 0]),(7,kI (sv.length:Int)),(8,kI s)],[]⟩) (fun o e a w=>match o with| (.inl v_)=>e= .exit 0/\Sx ⟨⟨19,[]⟩,Xt,false,#[]⟩ ⟨[],[]⟩ a w| (.inr v_)=>e= .ret/\Sx ⟨⟨19,[]⟩,Xt,false,#[]⟩ ⟨[(4,kI v_)],[]⟩ a w) ?_ uU lzz ?_
 ·clear h;intro v2 o h;refine zk ?_;replace h:zA sv v v2=some o:=h;unfold zA at h;refine jp (jI h (fun uQ h=>?_) fun uQ h=>?_)
  ·refine zp (jp ?_);obtain ⟨x,u0,h⟩:=bnd h;obtain ⟨rv,uS,h⟩:=bnd h;refine jr (ra 3 [.sl zf [0] sv,kI v2] rfl (zW rfl zlP.el (zy _ _ _) u0) rfl (ra 0 [.ep zf [0] x 0] rfl (zbM rfl ⟨Tryz.isAgg65,Tryz.sizeOf65⟩) rfl (ra 0 [.fv 130 [.ep (Rp.int .i64) [0] v 0],.rc zf [0] x] rfl (zyx (args:=[.tmp 15]) [.rc zf [0] x] [0] 10 rfl (zGr _ _) Tryz.call130 (zsz uS) rfl rfl rfl rfl rfl) rfl rf))) (jI h (fun uR h=>?_) fun uR h=>?_)
   ·refine jp ?_;cases h;exact zaN lzz
   refine zV (jp ?_);cases h;exact zD lzz
  cases h;exact zaa rfl lzz
 rcases q with u| u2
 ·refine zan _ rfl (jp ?_);cases h;exact zo lzz
 obtain rfl:=(sj h);exact zcJ lzz
theorem zwT (h:zql b=some r):FnOk Tryz.prog 226 [.sl Rp.byte [0] b] [kI r]:=by
 refine zu (E:=⟨[(2,kI r)],[]⟩) 48 Tryz.func226 rfl rfl rfl ⟨rfl,trivial⟩ (fun Xt=>?_);refine zk ?_;unfold zql at h;refine jp (jp (jI h (fun uQ h=>?_) fun uQ h=>?_))
 ·refine jp ?_;cases h;exact zo lzz
 obtain ⟨x,u0,h⟩:=bnd h;obtain ⟨rv,uS,h⟩:=bnd h;refine jr (ra 1 [.sl Rp.byte [0] b,kI 0] rfl (zW rfl zjr.el (zy _ _ _) u0) rfl (rl 1 [1] 9 Tryz.call232 (zEp uS) rf)) (zU ⟨[(0,.sl Rp.byte [0] b),(3,kI rv.1),(4,.lf (.int .u32 rv.2)),(24,kB ((rv.1==0)|| (decide (rv.1>(b.length:Int)))))],[]⟩ ?_ ?_)
 ·refine (rsl 3 [] 19 (rv.1==0) (fun uR=>?_) (fun uR=>?_))
  · exact (rbl [] 24 true rfl (by rw [uR]<;>rfl))
  exact (rbl [] 24 (decide (rv.1>(b.length:Int))) rfl (by rw [uR]<;>rfl))
 refine jI h (fun uT h=>?_) fun uT h=>?_
 ·refine jp ?_;cases h;exact zo lzz
 obtain ⟨v2,vp,h⟩:=bnd h;refine jr (ra 2 [.sl Rp.byte [0] b,kI 1,kI rv.1] rfl (zmS (some (kI 1)) (some (kI rv.1)) rfl zjr.el (zy _ _ _) ⟨rfl,rfl⟩ ⟨rfl,rfl⟩ vp) rfl rf) (zp ?_);obtain ⟨q,uU,h⟩:=bnd h;refine zab (fun s:(Int×Int)=>zgi v2 s.1 s.2) (fun s=>⟨[(3,kI rv.1),(4,.lf (.int .u32 s.1)),(27,.sl Rp.byte [0] v2),(28,kI (v2.length:Int)),(29,kI s.2)],[]⟩) (fun o e a w=>match o with| (.inl v_)=>e= .exit 0/\Sx ⟨⟨48,[]⟩,Xt,false,#[]⟩ ⟨[(3,kI rv.1),(4,.lf (.int .u32 v_))],[]⟩ a w| (.inr v_)=>e= .ret/\Sx ⟨⟨48,[]⟩,Xt,false,#[]⟩ ⟨[(2,kI 0)],[]⟩ a w) ?_ uU lzz ?_
 ·clear h;intro s o h;obtain ⟨wv,v3⟩:=s;refine zk ?_;replace h:zgi v2 wv v3=some o:=h;unfold zgi at h;refine jp (jI h (fun uX h=>?_) fun uX h=>?_)
  ·refine zp ?_;obtain ⟨x2,va,h⟩:=bnd h;refine jr (ra 0 [.sl Rp.byte [0] v2,kI v3] rfl (zW rfl zjr.el (zy _ _ _) va) rfl rf) (jr (ra 1 [k8 (x2.toNat:Int),kU 6] rfl (zpr rfl rfl) rfl rf) (jI h (fun vb h=>?_) fun vb h=>?_))
   ·refine jp ?_;cases h;exact zaN lzz
   refine jr (ra 1 [.lf (.int .u32 wv),kU 6] rfl (zJK rfl rfl) rfl rf) (zV (jp ?_));cases h;exact zD lzz
  cases h;exact zaa rfl lzz
 rcases q with u| u2
 ·refine zan _ rfl ?_;obtain ⟨rv2,u9,h⟩:=bnd h;refine jr (rl 2 [1] 10 Tryz.call233 (zEo u9) rf) (jI h (fun vc h=>?_) fun vc h=>?_)
  ·refine jp ?_;cases h;exact zo lzz
  refine jp ?_;cases h;exact zo lzz
 cases h;exact zcJ lzz
theorem zxU (h:zmr wv=some r):FnOk Tryz.prog 183 [kU wv] [.lf (.int .i32 r)]:=by
 refine zu (E:=⟨[(2,.lf (.int .i32 r))],[]⟩) 6 Tryz.func183 rfl rfl rfl ⟨rfl,trivial⟩ (fun Xt=>?_);refine zk ?_;unfold zmr at h;refine jp ?_;obtain ⟨rv,uS,h⟩:=bnd h;refine jr (rl 1 [1] 9 Tryz.call184 (ztA uS) rf) ?_;cases h;exact zo lzz
theorem zCp (h:zqe t=some r):FnOk Tryz.prog 187 [.rc zhU [0] t] [kB r]:=by
 refine zu (E:=⟨[(2,kB r)],[]⟩) 16 Tryz.func187 rfl rfl rfl ⟨rfl,trivial⟩ (fun Xt=>?_);refine zk ?_;unfold zqe at h;refine jq [11] ?_;obtain ⟨g,uP,h⟩:=bnd h;refine zU ⟨[(2,kB g)],[]⟩ ?_ ?_
 ·refine (rsl 4 [] 6 (decide (t.Number>=1)) (fun uQ=>?_) (fun uQ=>?_))
  ·replace uP:=iteT uP uQ;refine (rsl 5 [] 11 (decide (t.Number<=536870911)) (fun uR=>?_) (fun uR=>?_))
   ·replace uP:=iteT uP uR;obtain ⟨rv,uS,uP⟩:=bnd uP;cases uP;exact (rl 2 [1] 10 Tryz.call215 (zwp uS) rgg)
   replace uP:=iteF uP uR;cases uP;exact rgg
  replace uP:=iteF uP uQ;cases uP;exact rgg
 obtain rfl:=(sj h);exact zo lzz
theorem zzv (h:zmN b=some r):FnOk Tryz.prog 188 [.sl Rp.byte [0] b] [kI r.1,k8 r.2]:=by
 refine zu (E:=⟨[(2,kI r.1),(3,k8 r.2)],[]⟩) 15 Tryz.func188 rfl rfl rfl ⟨rfl,rfl,trivial⟩ (fun Xt=>?_);refine zk ?_;unfold zmN at h;refine jp ?_;obtain ⟨rv,uS,h⟩:=bnd h;refine jr (rl 1 [0] 9 Tryz.call186 (zoh uS) rf) (jp ?_);cases h;exact zo lzz
theorem zxh (wk:∀{x:zd} {r:zd},xm x=some r->FnOk Tryz.prog 78 [.rc zc [0] x] [.ag [.own za 57 3 [0,4] r.Values,.own Rp.str 9 5 [] r.Unknown]]) (wl:∀{v:zb} {r:zb},xn v=some r->FnOk Tryz.prog 111 [.rc za [0] v] [.ag [kI r.Number,.own (Rp.int .u64) 83 3 [] r.Words,.own Rp.str 9 4 [] r.Texts,.own zc 27 5 [0,6] r.Subs]]) (h:zkG xm xn x=some r):FnOk Tryz.prog 78 [.rc zc [0] x] [.ag [.own za 57 3 [0,4] r.Values,.own Rp.str 9 5 [] r.Unknown]]:=by
 refine zu (E:=⟨[(2,.ptr 2 0)],[⟨2,27,[.own za 57 3 [0,4] r.Values,.own Rp.str 9 5 [] r.Unknown]⟩]⟩) 29 Tryz.func78 rfl rfl rfl ⟨⟨_,_,rfl,rfl,rfl,⟨Tryz.isAgg27,Tryz.sizeOf27⟩⟩,trivial⟩ (fun Xt=>?_);refine zk ?_;unfold zkG at h;refine jr (ra 0 [.rc zc [0] x] rfl (zaR 17 [.sl za [0] x.Values,.sl Rp.str [0] x.Unknown] [0] rfl rfl rfl (by rw [zj]<;>rfl) rfl) rfl (rfl' [18])) ?_;obtain ⟨rv,uS,h⟩:=bnd h;obtain ⟨rv2,u9,h⟩:=bnd h;refine jd [2,3] [18,21] zaU (by exact (lw_e (lw_e (lx (lf1 109 (zL [.sl za [0] x.Values] [0] 17 rfl Tryz.call109 (zjq uS) rfl rfl rfl rfl rfl)) (lw_e (lw_e (lx (lf1 110 (zL [.sl Rp.str [0] x.Unknown] [0] 18 rfl Tryz.call110 (zhN u9) rfl rfl rfl rfl rfl)) (ly [.own za 57 19 [0] rv,.own Rp.str 9 20 [] rv2] (zaM [.own za 57 19 [0] rv,.own Rp.str 9 20 [] rv2] [.own za 57 19 [0] rv,.own Rp.str 9 20 [] rv2] rfl zod rfl) rfl (lx (zls 21 [kN,kN] rfl Tryz.zeroValue27 rfl) (ly [.ptr 21 0,.ag [.own za 57 19 [0] rv,.own Rp.str 9 20 [] rv2]] (zhL (b:=⟨21,27,[kN,kN]⟩) (off:=0) [.own za 57 19 [0] rv,.own Rp.str 9 20 [] rv2] rfl Tryz.sizeOf27 rfl rfl rfl) rfl l0)))))))))) (jp (zp ?_));obtain ⟨q,uU,h⟩:=bnd h;refine zab (fun s:((List zb)×Int)=>zem xn rv s.1 s.2) (fun s=>⟨[(2,.ptr 18 0),(3,.ptr 21 0),(14,.own za 57 19 [0,22] s.1),(15,kI (rv.length:Int)),(16,kI s.2)],[⟨18,27,[kN,kN]⟩,⟨21,27,[.own za 57 19 [0,22] s.1,.own Rp.str 9 20 [] rv2]⟩]⟩) (fun o e a w=>e= .exit 0/\Sx ⟨⟨29,[]⟩,Xt,false,#[]⟩ ⟨[(2,.ptr 18 0),(3,.ptr 21 0)],[⟨18,27,[kN,kN]⟩,⟨21,27,[.own za 57 19 [0,22] o,.own Rp.str 9 20 [] rv2]⟩]⟩ a w) ?_ uU ?_ ?_
 ·clear h;intro s o h;obtain ⟨v,v2⟩:=s;refine zk ?_;replace h:zem xn rv v v2=some o:=h;unfold zem at h;refine jp (jI h (fun uQ h=>?_) fun uQ h=>?_)
  ·refine zp ?_;obtain ⟨x2,va,h⟩:=bnd h;refine jr (ra 1 [.own za 57 19 [0,22] v,kI v2] rfl (zsb rfl zjx.el va) rfl (ra 0 [.own za 57 19 [0,22] v,.ptr 19 (Int.toNat v2*za.size)] rfl (zGC (r:=za) (e:=57) (ℓ:=19) (C:=[0,22]) (xs:=v) (.tmp 14) x2 rfl ⟨Tryz.isAgg57,Tryz.sizeOf57⟩ va) rfl (ral 2 [35] [.ptr 35 0,.rc za [0,22] x2] rfl (zhb (r:=za) (b:=⟨35,57,[kI 0,kN,kN,kN]⟩) (off:=0) [kI x2.Number,.sl (Rp.int .u64) [0,22] x2.Words,.sl Rp.str [0,22] x2.Texts,.sl zc [0,22] x2.Subs] rfl Tryz.sizeOf57 rfl rfl (by rw [zi]<;>rfl) rfl) rfl rf))) ?_;obtain ⟨rv3,ve,h⟩:=bnd h;obtain ⟨x3,vg,h⟩:=bnd h;refine jk [2,3,4,5,14,15,16] [18,21,35] (zuP ⟨[(2,.ptr 18 0),(3,.ptr 21 0),(14,.own za 57 19 [0,22,37,38,39,40] (v.set (Int.toNat v2) rv3)),(15,kI (rv.length:Int)),(16,kI v2)],[⟨18,27,[kN,kN]⟩,⟨21,27,[.own za 57 19 [0,22,37,38,39,40] (v.set (Int.toNat v2) rv3),.own Rp.str 9 20 [] rv2]⟩]⟩ [.ev,.ev,.ev,.ex [35] [] [] (.ag [kI x2.Number,.sl (Rp.int .u64) [0,22] x2.Words,.sl Rp.str [0,22] x2.Texts,.sl zc [0,22] x2.Subs]) [],.ex [] [] [37,38,39] (.ag [kI rv3.Number,.own (Rp.int .u64) 83 37 [] rv3.Words,.own Rp.str 9 38 [] rv3.Texts,.own zc 27 39 [0,22,40] rv3.Subs]) [],.ex [] [] [] (.ptr 19 (Int.toNat v2*za.size)) [],.raw [4,0,1,4,10,14] [19] [] [.sl 22 (.own za 57 19 [0,22,37,38,39,40] (v.set (Int.toNat v2) rv3)),.sl 14 (.own za 57 19 [0,22,37,38,39,40] (v.set (Int.toNat v2) rv3)),.bx ⟨21,27,[.own za 57 19 [0,22,37,38,39,40] (v.set (Int.toNat v2) rv3),.own Rp.str 9 20 [] rv2]⟩]] [⟨[(.tmp 5,.ptr 35 0)],[⟨35,57,[kI x2.Number,.sl (Rp.int .u64) [0,22] x2.Words,.sl Rp.str [0,22] x2.Texts,.sl zc [0,22] x2.Subs]⟩],[]⟩,⟨[(.func 111,.lf (.val (.func (.func 111) #[] #[]))),(.tmp 24,.ag [kI x2.Number,.sl (Rp.int .u64) [0,22] x2.Words,.sl Rp.str [0,22] x2.Texts,.sl zc [0,22] x2.Subs])],[],[]⟩,⟨[(.tmp 22,.own za 57 19 [0,22] v),(.tmp 23,kI v2)],[],[]⟩,⟨[],[],[.sl 22 (.own za 57 19 [0,22] v),.sl 26 (.ptr 19 (Int.toNat v2*za.size)),.sl 25 (.ag [kI rv3.Number,.own (Rp.int .u64) 83 37 [] rv3.Words,.own Rp.str 9 38 [] rv3.Texts,.own zc 27 39 [0,22,40] rv3.Subs]),.sl 22 (.own za 57 19 [0,22] v),.sl 14 (.own za 57 19 [0,22] v),.bx ⟨21,27,[.own za 57 19 [0,22] v,.own Rp.str 9 20 [] rv2]⟩]⟩] [2,3,14,15,16] [18,21] zaU (by kernel_rfl) (by exact (lw_e (lw_e (lw_e (lw_x (znb (zdi (b:=⟨35,57,[kI x2.Number,.sl (Rp.int .u64) [0,22] x2.Words,.sl Rp.str [0,22] x2.Texts,.sl zc [0,22] x2.Subs]⟩) [kI x2.Number,.sl (Rp.int .u64) [0,22] x2.Words,.sl Rp.str [0,22] x2.Texts,.sl zc [0,22] x2.Subs] rfl ⟨Tryz.isAgg57,Tryz.sizeOf57⟩ rfl rfl) rfl) (lw_x (zw.cons _ (znb (zw.le (ins':=[(.tmp 24,.ag [kI x2.Number,.sl (Rp.int .u64) [0,22] x2.Words,.sl Rp.str [0,22] x2.Texts,.sl zc [0,22] x2.Subs])]) (zL (args:=[.tmp 24]) [.rc za [0,22] x2] [0,22] 34 rfl Tryz.call111 (wl ve) rfl rfl rfl rfl rfl) ⟨⟨rfl,zK za [0,22] x2 [kI x2.Number,.sl (Rp.int .u64) [0,22] x2.Words,.sl Rp.str [0,22] x2.Texts,.sl zc [0,22] x2.Subs] (by rw [zi]<;>rfl) rfl⟩,trivial⟩) rfl)) (lw_x (znb (zsb rfl zjx.el vg) rfl) (lw_r (zAQ (ins:=[(.tmp 22,.own za 57 19 [0,22] v),(.tmp 26,.ptr 19 (Int.toNat v2*za.size)),(.tmp 25,.ag [kI rv3.Number,.own (Rp.int .u64) 83 37 [] rv3.Words,.own Rp.str 9 38 [] rv3.Texts,.own zc 27 39 [0,22,40] rv3.Subs])]) [22,14] [(⟨21,27,[.own za 57 19 [0,22] v,.own Rp.str 9 20 [] rv2]⟩,⟨21,27,[.own za 57 19 [0,22,37,38,39,40] (v.set (Int.toNat v2) rv3),.own Rp.str 9 20 [] rv2]⟩)] (zKs (r:=za) (e:=57) (ℓ:=19) (C:=[0,22]) (xs:=v) (off:=(Int.toNat v2*za.size)) (.tmp 22) (Int.toNat v2) 0 x3 rv3 [0,22,37,38,39,40] rfl rfl Tryz.sizeOf57 rfl (zsT vg) rfl (zvo (by rw [zi]<;>rfl) _) rfl) ⟨trivial,trivial,trivial,trivial⟩ (fun _ _=>nofun) ⟨⟨rfl,rfl,rfl,⟨zhQ 0 rfl,zX rfl,trivial⟩⟩,trivial⟩) lw_0)))))))) (zV (jp ?_)));cases h;exact zD (lk [2,3,14,15,16] [18,21] 37 22 (lk [2,3,14,15,16] [18,21] 38 22 (lk [2,3,14,15,16] [18,21] 39 22 (lk [2,3,14,15,16] [18,21] 40 22 (zaq ⟨[(2,.ptr 18 0),(3,.ptr 21 0),(14,.own za 57 19 [0,22,22,22,22,22] (v.set (Int.toNat v2) rv3)),(15,kI (rv.length:Int)),(16,kI (IntKind.i64.wrap (v2+1)))],[⟨18,27,[kN,kN]⟩,⟨21,27,[.own za 57 19 [0,22,22,22,22,22] (v.set (Int.toNat v2) rv3),.own Rp.str 9 20 [] rv2]⟩]⟩ (by kernel_rfl) (zdB 14 (.own za 57 19 [0,22] (v.set (Int.toNat v2) rv3)) rfl (zej _ _ _ _ _ _ rfl rfl) (zat 21 0 (.own za 57 19 [0,22] (v.set (Int.toNat v2) rv3)) rfl rfl (zej _ _ _ _ _ _ rfl rfl) lzz)))))))
  cases h;exact zaa rfl lzz
 ·exact zaq ⟨[(2,.ptr 18 0),(3,.ptr 21 0),(14,.own za 57 19 [0] rv),(15,kI (rv.length:Int)),(16,kI 0)],[⟨18,27,[kN,kN]⟩,⟨21,27,[.own za 57 19 [0] rv,.own Rp.str 9 20 [] rv2]⟩]⟩ (by kernel_rfl) (zdB 14 (.own za 57 19 [0,22] rv) rfl (zej _ _ _ _ _ _ rfl rfl) (zat 21 0 (.own za 57 19 [0,22] rv) rfl rfl (zej _ _ _ _ _ _ rfl rfl) lzz))
 refine zan _ rfl (jp ?_);cases h;exact zo (lk [2] [18] 18 2 (lk [2] [2] 19 3 (lk [2] [2] 20 5 (lk [2] [2] 22 4 lzz))))
theorem zsJ (wk:∀{x:zd} {r:zd},xm x=some r->FnOk Tryz.prog 78 [.rc zc [0] x] [.ag [.own za 57 3 [0,4] r.Values,.own Rp.str 9 5 [] r.Unknown]]) (wl:∀{v:zb} {r:zb},xn v=some r->FnOk Tryz.prog 111 [.rc za [0] v] [.ag [kI r.Number,.own (Rp.int .u64) 83 3 [] r.Words,.own Rp.str 9 4 [] r.Texts,.own zc 27 5 [0,6] r.Subs]]) (h:zhg xm xn v=some r):FnOk Tryz.prog 111 [.rc za [0] v] [.ag [kI r.Number,.own (Rp.int .u64) 83 3 [] r.Words,.own Rp.str 9 4 [] r.Texts,.own zc 27 5 [0,6] r.Subs]]:=by
 refine zu (E:=⟨[(2,.ptr 2 0)],[⟨2,57,[kI r.Number,.own (Rp.int .u64) 83 3 [] r.Words,.own Rp.str 9 4 [] r.Texts,.own zc 27 5 [0,6] r.Subs]⟩]⟩) 34 Tryz.func111 rfl rfl rfl ⟨⟨_,_,rfl,rfl,rfl,⟨Tryz.isAgg57,Tryz.sizeOf57⟩⟩,trivial⟩ (fun Xt=>?_);refine zk ?_;unfold zhg at h;refine jr (ra 0 [.rc za [0] v] rfl (zaR 18 [kI v.Number,.sl (Rp.int .u64) [0] v.Words,.sl Rp.str [0] v.Texts,.sl zc [0] v.Subs] [0] rfl rfl rfl (by rw [zi]<;>rfl) rfl) rfl (rfl' [19])) ?_;obtain ⟨rv,uS,h⟩:=bnd h;obtain ⟨rv2,u9,h⟩:=bnd h;obtain ⟨rv3,ve,h⟩:=bnd h;refine jd [2,3] [19,23] zaU (by exact (lw_e (lw_e (lw_e (lw_e (lx (lf1 142 (zL [.sl (Rp.int .u64) [0] v.Words] [0] 18 rfl Tryz.call142 (zlB uS) rfl rfl rfl rfl rfl)) (lw_e (lw_e (lx (lf1 110 (zL [.sl Rp.str [0] v.Texts] [0] 19 rfl Tryz.call110 (zhN u9) rfl rfl rfl rfl rfl)) (lw_e (lw_e (lx (lf1 143 (zL [.sl zc [0] v.Subs] [0] 20 rfl Tryz.call143 (zkn ve) rfl rfl rfl rfl rfl)) (ly [kI v.Number,.own (Rp.int .u64) 83 20 [] rv,.own Rp.str 9 21 [] rv2,.own zc 27 22 [0] rv3] (zaM [kI v.Number,.own (Rp.int .u64) 83 20 [] rv,.own Rp.str 9 21 [] rv2,.own zc 27 22 [0] rv3] [kI v.Number,.own (Rp.int .u64) 83 20 [] rv,.own Rp.str 9 21 [] rv2,.own zc 27 22 [0] rv3] rfl zwR rfl) rfl (lx (zls 23 [kI 0,kN,kN,kN] rfl Tryz.zeroValue57 rfl) (ly [.ptr 23 0,.ag [kI v.Number,.own (Rp.int .u64) 83 20 [] rv,.own Rp.str 9 21 [] rv2,.own zc 27 22 [0] rv3]] (zhL (b:=⟨23,57,[kI 0,kN,kN,kN]⟩) (off:=0) [kI v.Number,.own (Rp.int .u64) 83 20 [] rv,.own Rp.str 9 21 [] rv2,.own zc 27 22 [0] rv3] rfl Tryz.sizeOf57 rfl rfl rfl) rfl l0))))))))))))))) (jp (zp ?_));obtain ⟨q,uU,h⟩:=bnd h;refine zab (fun s:((List zd)×Int)=>zcj xm rv3 s.1 s.2) (fun s=>⟨[(2,.ptr 19 0),(3,.ptr 23 0),(19,.own zc 27 22 [0,24] s.1),(20,kI (rv3.length:Int)),(21,kI s.2)],[⟨19,57,[kI 0,kN,kN,kN]⟩,⟨23,57,[kI v.Number,.own (Rp.int .u64) 83 20 [] rv,.own Rp.str 9 21 [] rv2,.own zc 27 22 [0,24] s.1]⟩]⟩) (fun o e a w=>e= .exit 0/\Sx ⟨⟨34,[]⟩,Xt,false,#[]⟩ ⟨[(2,.ptr 19 0),(3,.ptr 23 0)],[⟨19,57,[kI 0,kN,kN,kN]⟩,⟨23,57,[kI v.Number,.own (Rp.int .u64) 83 20 [] rv,.own Rp.str 9 21 [] rv2,.own zc 27 22 [0,24] o]⟩]⟩ a w) ?_ uU ?_ ?_
 ·clear h;intro s o h;obtain ⟨v2,v3⟩:=s;refine zk ?_;replace h:zcj xm rv3 v2 v3=some o:=h;unfold zcj at h;refine jp (jI h (fun uQ h=>?_) fun uQ h=>?_)
  ·refine zp ?_;obtain ⟨x,u0,h⟩:=bnd h;refine jr (ra 1 [.own zc 27 22 [0,24] v2,kI v3] rfl (zsb rfl zli.el u0) rfl (ra 0 [.own zc 27 22 [0,24] v2,.ptr 22 (Int.toNat v3*zc.size)] rfl (zGC (r:=zc) (e:=27) (ℓ:=22) (C:=[0,24]) (xs:=v2) (.tmp 19) x rfl ⟨Tryz.isAgg27,Tryz.sizeOf27⟩ u0) rfl (ral 2 [35] [.ptr 35 0,.rc zc [0,24] x] rfl (zhb (r:=zc) (b:=⟨35,27,[kN,kN]⟩) (off:=0) [.sl za [0,24] x.Values,.sl Rp.str [0,24] x.Unknown] rfl Tryz.sizeOf27 rfl rfl (by rw [zj]<;>rfl) rfl) rfl rf))) ?_;obtain ⟨rv4,vm,h⟩:=bnd h;obtain ⟨x2,va,h⟩:=bnd h;refine jk [2,3,4,5,19,20,21] [19,23,35] (zuP ⟨[(2,.ptr 19 0),(3,.ptr 23 0),(19,.own zc 27 22 [0,24,37,38,39] (v2.set (Int.toNat v3) rv4)),(20,kI (rv3.length:Int)),(21,kI v3)],[⟨19,57,[kI 0,kN,kN,kN]⟩,⟨23,57,[kI v.Number,.own (Rp.int .u64) 83 20 [] rv,.own Rp.str 9 21 [] rv2,.own zc 27 22 [0,24,37,38,39] (v2.set (Int.toNat v3) rv4)]⟩]⟩ [.ev,.ev,.ev,.ex [35] [] [] (.ag [.sl za [0,24] x.Values,.sl Rp.str [0,24] x.Unknown]) [],.ex [] [] [37,39] (.ag [.own za 57 37 [0,24,38] rv4.Values,.own Rp.str 9 39 [] rv4.Unknown]) [],.ex [] [] [] (.ptr 22 (Int.toNat v3*zc.size)) [],.raw [4,0,1,4,10,14] [22] [] [.sl 27 (.own zc 27 22 [0,24,37,38,39] (v2.set (Int.toNat v3) rv4)),.sl 19 (.own zc 27 22 [0,24,37,38,39] (v2.set (Int.toNat v3) rv4)),.bx ⟨23,57,[kI v.Number,.own (Rp.int .u64) 83 20 [] rv,.own Rp.str 9 21 [] rv2,.own zc 27 22 [0,24,37,38,39] (v2.set (Int.toNat v3) rv4)]⟩]] [⟨[(.tmp 5,.ptr 35 0)],[⟨35,27,[.sl za [0,24] x.Values,.sl Rp.str [0,24] x.Unknown]⟩],[]⟩,⟨[(.func 78,.lf (.val (.func (.func 78) #[] #[]))),(.tmp 29,.ag [.sl za [0,24] x.Values,.sl Rp.str [0,24] x.Unknown])],[],[]⟩,⟨[(.tmp 27,.own zc 27 22 [0,24] v2),(.tmp 28,kI v3)],[],[]⟩,⟨[],[],[.sl 27 (.own zc 27 22 [0,24] v2),.sl 31 (.ptr 22 (Int.toNat v3*zc.size)),.sl 30 (.ag [.own za 57 37 [0,24,38] rv4.Values,.own Rp.str 9 39 [] rv4.Unknown]),.sl 27 (.own zc 27 22 [0,24] v2),.sl 19 (.own zc 27 22 [0,24] v2),.bx ⟨23,57,[kI v.Number,.own (Rp.int .u64) 83 20 [] rv,.own Rp.str 9 21 [] rv2,.own zc 27 22 [0,24] v2]⟩]⟩] [2,3,19,20,21] [19,23] zaU (by kernel_rfl) (by exact (lw_e (lw_e (lw_e (lw_x (znb (zdi (b:=⟨35,27,[.sl za [0,24] x.Values,.sl Rp.str [0,24] x.Unknown]⟩) [.sl za [0,24] x.Values,.sl Rp.str [0,24] x.Unknown] rfl ⟨Tryz.isAgg27,Tryz.sizeOf27⟩ rfl rfl) rfl) (lw_x (zw.cons _ (znb (zw.le (ins':=[(.tmp 29,.ag [.sl za [0,24] x.Values,.sl Rp.str [0,24] x.Unknown])]) (zL (args:=[.tmp 29]) [.rc zc [0,24] x] [0,24] 34 rfl Tryz.call78 (wk vm) rfl rfl rfl rfl rfl) ⟨⟨rfl,zK zc [0,24] x [.sl za [0,24] x.Values,.sl Rp.str [0,24] x.Unknown] (by rw [zj]<;>rfl) rfl⟩,trivial⟩) rfl)) (lw_x (znb (zsb rfl zli.el va) rfl) (lw_r (zAQ (ins:=[(.tmp 27,.own zc 27 22 [0,24] v2),(.tmp 31,.ptr 22 (Int.toNat v3*zc.size)),(.tmp 30,.ag [.own za 57 37 [0,24,38] rv4.Values,.own Rp.str 9 39 [] rv4.Unknown])]) [27,19] [(⟨23,57,[kI v.Number,.own (Rp.int .u64) 83 20 [] rv,.own Rp.str 9 21 [] rv2,.own zc 27 22 [0,24] v2]⟩,⟨23,57,[kI v.Number,.own (Rp.int .u64) 83 20 [] rv,.own Rp.str 9 21 [] rv2,.own zc 27 22 [0,24,37,38,39] (v2.set (Int.toNat v3) rv4)]⟩)] (zKs (r:=zc) (e:=27) (ℓ:=22) (C:=[0,24]) (xs:=v2) (off:=(Int.toNat v3*zc.size)) (.tmp 27) (Int.toNat v3) 0 x2 rv4 [0,24,37,38,39] rfl rfl Tryz.sizeOf27 rfl (zsT va) rfl (zvo (by rw [zj]<;>rfl) _) rfl) ⟨trivial,trivial,trivial,trivial⟩ (fun _ _=>nofun) ⟨⟨rfl,rfl,rfl,⟨zX rfl,zX rfl,zX rfl,zhQ 0 rfl,trivial⟩⟩,trivial⟩) lw_0)))))))) (zV (jp ?_)));cases h;exact zD (lk [2,3,19,20,21] [19,23] 37 24 (lk [2,3,19,20,21] [19,23] 38 24 (lk [2,3,19,20,21] [19,23] 39 24 (zaq ⟨[(2,.ptr 19 0),(3,.ptr 23 0),(19,.own zc 27 22 [0,24,24,24,24] (v2.set (Int.toNat v3) rv4)),(20,kI (rv3.length:Int)),(21,kI (IntKind.i64.wrap (v3+1)))],[⟨19,57,[kI 0,kN,kN,kN]⟩,⟨23,57,[kI v.Number,.own (Rp.int .u64) 83 20 [] rv,.own Rp.str 9 21 [] rv2,.own zc 27 22 [0,24,24,24,24] (v2.set (Int.toNat v3) rv4)]⟩]⟩ (by kernel_rfl) (zdB 19 (.own zc 27 22 [0,24] (v2.set (Int.toNat v3) rv4)) rfl (zej _ _ _ _ _ _ rfl rfl) (zat 23 3 (.own zc 27 22 [0,24] (v2.set (Int.toNat v3) rv4)) rfl rfl (zej _ _ _ _ _ _ rfl rfl) lzz))))))
  cases h;exact zaa rfl lzz
 ·exact zaq ⟨[(2,.ptr 19 0),(3,.ptr 23 0),(19,.own zc 27 22 [0] rv3),(20,kI (rv3.length:Int)),(21,kI 0)],[⟨19,57,[kI 0,kN,kN,kN]⟩,⟨23,57,[kI v.Number,.own (Rp.int .u64) 83 20 [] rv,.own Rp.str 9 21 [] rv2,.own zc 27 22 [0] rv3]⟩]⟩ (by kernel_rfl) (zdB 19 (.own zc 27 22 [0,24] rv3) rfl (zej _ _ _ _ _ _ rfl rfl) (zat 23 3 (.own zc 27 22 [0,24] rv3) rfl rfl (zej _ _ _ _ _ _ rfl rfl) lzz))
 refine zan _ rfl (jp ?_);cases h;exact zo (lk [2] [19] 19 2 (lk [2] [2] 20 3 (lk [2] [2] 21 4 (lk [2] [2] 22 5 (lk [2] [2] 24 6 lzz)))))
theorem zkH (uY:Nat):(∀{x:zd} {r:zd},ziJ uY x=some r->FnOk Tryz.prog 78 [.rc zc [0] x] [.ag [.own za 57 3 [0,4] r.Values,.own Rp.str 9 5 [] r.Unknown]])/\(∀{v:zb} {r:zb},zgQ uY v=some r->FnOk Tryz.prog 111 [.rc za [0] v] [.ag [kI r.Number,.own (Rp.int .u64) 83 3 [] r.Words,.own Rp.str 9 4 [] r.Texts,.own zc 27 5 [0,6] r.Subs]]):=by
  induction uY with
  | zero=>exact ⟨fun h=>absurd h nofun,fun h=>absurd h nofun⟩
  | succ uY ih=>exact ⟨fun h=>zxh (fun hh=>ih.1 hh) (fun hh=>ih.2 hh) h,fun h=>zsJ (fun hh=>ih.1 hh) (fun hh=>ih.2 hh) h⟩
theorem zzs (h:ziJ uY x=some r):FnOk Tryz.prog 78 [.rc zc [0] x] [.ag [.own za 57 3 [0,4] r.Values,.own Rp.str 9 5 [] r.Unknown]]:=(zkH uY).1 h
theorem zlj (h:zcL slices=some r):FnOk Tryz.prog 112 [.sl (Rp.list (Rp.int .u64)) [0] slices] [.own (Rp.int .u64) 83 2 [] r]:=by
 refine zu (E:=⟨[(2,.own (Rp.int .u64) 83 2 [] r)],[]⟩) 36 Tryz.func112 rfl rfl rfl ⟨rfl,trivial⟩ (fun Xt=>?_);refine zk ?_;unfold zcL at h;refine jp (jp (jp (zp ?_)));obtain ⟨q,uU,h⟩:=bnd h;refine zab (fun s:(Int×Int)=>zT slices s.1 s.2) (fun s=>⟨[(0,.sl (Rp.list (Rp.int .u64)) [0] slices),(3,kI s.1),(9,.sl (Rp.list (Rp.int .u64)) [0] slices),(10,kI (slices.length:Int)),(11,kI s.2)],[]⟩) (fun o e a w=>e= .exit 0/\Sx ⟨⟨36,[]⟩,Xt,false,#[]⟩ ⟨[(0,.sl (Rp.list (Rp.int .u64)) [0] slices),(3,kI o)],[]⟩ a w) ?_ uU lzz ?_
 ·clear h;intro s o h;obtain ⟨size,v⟩:=s;refine zk ?_;replace h:zT slices size v=some o:=h;unfold zT at h;refine jp (jI h (fun uQ h=>?_) fun uQ h=>?_)
  ·refine zp ?_;obtain ⟨x,u0,h⟩:=bnd h;refine jr (ra 0 [.sl (Rp.list (Rp.int .u64)) [0] slices,kI v] rfl (zW rfl zFS.el (zy _ _ _) u0) rfl (ra 0 [.ep (Rp.list (Rp.int .u64)) [0] x 0] rfl (zeR (Rp.int .u64) x rfl rfl rfl) rfl rf)) (jp (jp (jI h (fun uR h=>?_) fun uR h=>?_)))
   · exact absurd h nofun
   refine zV (jp ?_);cases h;exact zD lzz
  cases h;exact zaa rfl lzz
 refine zan _ rfl ?_;obtain ⟨rv,uS,h⟩:=bnd h;refine jr (rl 1 [1] 12 Tryz.call144 (zlF uS) rf) (jp (zp ?_));obtain ⟨q2,vn,h⟩:=bnd h;refine zab (fun s:((List Int)×Int)=>zag slices s.1 s.2) (fun s=>⟨[(6,.own (Rp.int .u64) 83 14 [] s.1),(25,.sl (Rp.list (Rp.int .u64)) [0] slices),(26,kI (slices.length:Int)),(27,kI s.2)],[]⟩) (fun o e a w=>e= .exit 2/\Sx ⟨⟨36,[]⟩,Xt,false,#[]⟩ ⟨[(6,.own (Rp.int .u64) 83 14 [] o)],[]⟩ a w) ?_ vn lzz ?_
 ·clear h;intro s o h;obtain ⟨newslice,v2⟩:=s;refine zk ?_;replace h:zag slices newslice v2=some o:=h;unfold zag at h;refine jp (jI h (fun uT h=>?_) fun uT h=>?_)
  ·refine zp ?_;obtain ⟨x2,va,h⟩:=bnd h;refine jr (ra 0 [.sl (Rp.list (Rp.int .u64)) [0] slices,kI v2] rfl (zW rfl zFS.el (zy _ _ _) va) rfl (ra 0 [.ep (Rp.list (Rp.int .u64)) [0] x2 0] rfl (zeR (Rp.int .u64) x2 rfl rfl rfl) rfl rf)) ?_;obtain ⟨v3,vr,h⟩:=bnd h;refine jr (ra 2 [.own (Rp.int .u64) 83 14 [] newslice,.sl (Rp.int .u64) [0] x2] rfl (zhp 14 [] rfl zrf.el rfl (zcY _ _ _ _ _) (zy _ _ _) vr (.inl (zwd _)) rfl) rfl rf) (zV (jp ?_));cases h;exact zD lzz
  cases h;exact zaa rfl lzz
 refine zan _ rfl (jp ?_);obtain rfl:=(sj h);exact zo (lk [2] [] 14 2 lzz)
theorem zhm (h:zbX slices=some r):FnOk Tryz.prog 82 [.sl (Rp.list Rp.str) [0] slices] [.own Rp.str 9 2 [] r]:=by
 refine zu (E:=⟨[(2,.own Rp.str 9 2 [] r)],[]⟩) 36 Tryz.func82 rfl rfl rfl ⟨rfl,trivial⟩ (fun Xt=>?_);refine zk ?_;unfold zbX at h;refine jp (jp (jp (zp ?_)));obtain ⟨q,uU,h⟩:=bnd h;refine zab (fun s:(Int×Int)=>zS slices s.1 s.2) (fun s=>⟨[(0,.sl (Rp.list Rp.str) [0] slices),(3,kI s.1),(9,.sl (Rp.list Rp.str) [0] slices),(10,kI (slices.length:Int)),(11,kI s.2)],[]⟩) (fun o e a w=>e= .exit 0/\Sx ⟨⟨36,[]⟩,Xt,false,#[]⟩ ⟨[(0,.sl (Rp.list Rp.str) [0] slices),(3,kI o)],[]⟩ a w) ?_ uU lzz ?_
 ·clear h;intro s o h;obtain ⟨size,v⟩:=s;refine zk ?_;replace h:zS slices size v=some o:=h;unfold zS at h;refine jp (jI h (fun uQ h=>?_) fun uQ h=>?_)
  ·refine zp ?_;obtain ⟨x,u0,h⟩:=bnd h;refine jr (ra 0 [.sl (Rp.list Rp.str) [0] slices,kI v] rfl (zW rfl zCx.el (zy _ _ _) u0) rfl (ra 0 [.ep (Rp.list Rp.str) [0] x 0] rfl (zeR Rp.str x rfl rfl rfl) rfl rf)) (jp (jp (jI h (fun uR h=>?_) fun uR h=>?_)))
   · exact absurd h nofun
   refine zV (jp ?_);cases h;exact zD lzz
  cases h;exact zaa rfl lzz
 refine zan _ rfl ?_;obtain ⟨rv,uS,h⟩:=bnd h;refine jr (rl 1 [1] 12 Tryz.call116 (zlE uS) rf) (jp (zp ?_));obtain ⟨q2,vn,h⟩:=bnd h;refine zab (fun s:((List Str)×Int)=>zaf slices s.1 s.2) (fun s=>⟨[(6,.own Rp.str 9 14 [] s.1),(25,.sl (Rp.list Rp.str) [0] slices),(26,kI (slices.length:Int)),(27,kI s.2)],[]⟩) (fun o e a w=>e= .exit 2/\Sx ⟨⟨36,[]⟩,Xt,false,#[]⟩ ⟨[(6,.own Rp.str 9 14 [] o)],[]⟩ a w) ?_ vn lzz ?_
 ·clear h;intro s o h;obtain ⟨newslice,v2⟩:=s;refine zk ?_;replace h:zaf slices newslice v2=some o:=h;unfold zaf at h;refine jp (jI h (fun uT h=>?_) fun uT h=>?_)
  ·refine zp ?_;obtain ⟨x2,va,h⟩:=bnd h;refine jr (ra 0 [.sl (Rp.list Rp.str) [0] slices,kI v2] rfl (zW rfl zCx.el (zy _ _ _) va) rfl (ra 0 [.ep (Rp.list Rp.str) [0] x2 0] rfl (zeR Rp.str x2 rfl rfl rfl) rfl rf)) ?_;obtain ⟨v3,vr,h⟩:=bnd h;refine jr (ra 2 [.own Rp.str 9 14 [] newslice,.sl Rp.str [0] x2] rfl (zhp 14 [] rfl zgI.el rfl (zcY _ _ _ _ _) (zy _ _ _) vr (.inl zpX) rfl) rfl rf) (zV (jp ?_));cases h;exact zD lzz
  cases h;exact zaa rfl lzz
 refine zan _ rfl (jp ?_);obtain rfl:=(sj h);exact zo (lk [2] [] 14 2 lzz)
theorem zjV (h:zca slices=some r):FnOk Tryz.prog 113 [.sl (Rp.list zc) [0] slices] [.own zc 27 2 [0] r]:=by
 refine zu (E:=⟨[(2,.own zc 27 2 [0] r)],[]⟩) 36 Tryz.func113 rfl rfl rfl ⟨rfl,trivial⟩ (fun Xt=>?_);refine zk ?_;unfold zca at h;refine jp (jp (jp (zp ?_)));obtain ⟨q,uU,h⟩:=bnd h;refine zab (fun s:(Int×Int)=>zN slices s.1 s.2) (fun s=>⟨[(0,.sl (Rp.list zc) [0] slices),(3,kI s.1),(9,.sl (Rp.list zc) [0] slices),(10,kI (slices.length:Int)),(11,kI s.2)],[]⟩) (fun o e a w=>e= .exit 0/\Sx ⟨⟨36,[]⟩,Xt,false,#[]⟩ ⟨[(0,.sl (Rp.list zc) [0] slices),(3,kI o)],[]⟩ a w) ?_ uU lzz ?_
 ·clear h;intro s o h;obtain ⟨size,v⟩:=s;refine zk ?_;replace h:zN slices size v=some o:=h;unfold zN at h;refine jp (jI h (fun uQ h=>?_) fun uQ h=>?_)
  ·refine zp ?_;obtain ⟨x,u0,h⟩:=bnd h;refine jr (ra 0 [.sl (Rp.list zc) [0] slices,kI v] rfl (zW rfl zFT.el (zy _ _ _) u0) rfl (ra 0 [.ep (Rp.list zc) [0] x 0] rfl (zeR zc x rfl rfl rfl) rfl rf)) (jp (jp (jI h (fun uR h=>?_) fun uR h=>?_)))
   · exact absurd h nofun
   refine zV (jp ?_);cases h;exact zD lzz
  cases h;exact zaa rfl lzz
 refine zan _ rfl ?_;obtain ⟨rv,uS,h⟩:=bnd h;refine jr (rl 1 [1] 12 Tryz.call145 (zkC uS) rf) (jp (zp ?_));obtain ⟨q2,vn,h⟩:=bnd h;refine zab (fun s:((List zd)×Int)=>zY slices s.1 s.2) (fun s=>⟨[(6,.own zc 27 14 [0] s.1),(25,.sl (Rp.list zc) [0] slices),(26,kI (slices.length:Int)),(27,kI s.2)],[]⟩) (fun o e a w=>e= .exit 2/\Sx ⟨⟨36,[]⟩,Xt,false,#[]⟩ ⟨[(6,.own zc 27 14 [0] o)],[]⟩ a w) ?_ vn ?_ ?_
 ·clear h;intro s o h;obtain ⟨newslice,v2⟩:=s;refine zk ?_;replace h:zY slices newslice v2=some o:=h;unfold zY at h;refine jp (jI h (fun uT h=>?_) fun uT h=>?_)
  ·refine zp ?_;obtain ⟨x2,va,h⟩:=bnd h;refine jr (ra 0 [.sl (Rp.list zc) [0] slices,kI v2] rfl (zW rfl zFT.el (zy _ _ _) va) rfl (ra 0 [.ep (Rp.list zc) [0] x2 0] rfl (zeR zc x2 rfl rfl rfl) rfl rf)) ?_;obtain ⟨v3,vr,h⟩:=bnd h;refine jr (ra 2 [.own zc 27 14 [0] newslice,.sl zc [0] x2] rfl (zhp 14 [0] rfl zli.el rfl (zcY _ _ _ _ _) (zy _ _ _) vr (.inr rfl) rfl) rfl rf) (zV (jp ?_));cases h;exact zD lzz
  cases h;exact zaa rfl lzz
 ·exact zaq ⟨[(6,.own zc 27 14 [] rv),(25,.sl (Rp.list zc) [0] slices),(26,kI (slices.length:Int)),(27,kI 0)],[]⟩ (by kernel_rfl) (zdB 6 (.own zc 27 14 [0] rv) rfl (zej _ _ _ _ _ _ rfl rfl) lzz)
 refine zan _ rfl (jp ?_);obtain rfl:=(sj h);exact zo (lk [2] [] 14 2 lzz)
theorem ztq (h:zim uY l=some r):FnOk Tryz.prog 9 [.sl zc [0] l] [kB r]:=by
 refine zu (E:=⟨[(2,kB r)],[]⟩) 16 Tryz.func9 rfl rfl rfl ⟨rfl,trivial⟩ (fun Xt=>?_);refine zk ?_;unfold zim at h;refine jp (jp (zp ?_));obtain ⟨q,uU,h⟩:=bnd h;refine zab (fun s:Int=>zbH uY l s) (fun s=>⟨[(0,.sl zc [0] l),(3,kI s)],[]⟩) (fun o e a w=>match o with| (.inl v_)=>e= .exit 0/\Sx ⟨⟨16,[]⟩,Xt,false,#[]⟩ ⟨[],[]⟩ a w| (.inr v_)=>e= .ret/\Sx ⟨⟨16,[]⟩,Xt,false,#[]⟩ ⟨[(2,kB true)],[]⟩ a w) ?_ uU lzz ?_
 ·clear h;intro i o h;refine zk ?_;replace h:zbH uY l i=some o:=h;unfold zbH at h;refine jp (jI h (fun uQ h=>?_) fun uQ h=>?_)
  ·refine zp ?_;obtain ⟨x,u0,h⟩:=bnd h;obtain ⟨rv,uS,h⟩:=bnd h;refine jr (ra 2 [.sl zc [0] l,kI i] rfl (zW rfl zli.el (zy _ _ _) u0) rfl (ra 0 [.ep zc [0] x 0] rfl (zbM rfl ⟨Tryz.isAgg27,Tryz.sizeOf27⟩) rfl (rl 0 [0] 10 Tryz.call35 (zrH uS) rf))) (jI h (fun uR h=>?_) fun uR h=>?_)
   ·refine jp ?_;cases h;exact zaN lzz
   refine zV (jp ?_);cases h;exact zD lzz
  cases h;exact zaa rfl lzz
 rcases q with u| u2
 ·refine zan _ rfl (jp ?_);obtain rfl:=(sj h);exact zo lzz
 obtain rfl:=(sj h);exact zcJ lzz
theorem zrn (h:zgY sv i k=some r):FnOk Tryz.prog 150 [.sl zh [0] sv,kI i,kI k] [kI r]:=by
 refine zu (E:=⟨[(6,kI r)],[]⟩) 119 Tryz.func150 rfl rfl rfl ⟨rfl,trivial⟩ (fun Xt=>?_);refine zk ?_;unfold zgY at h;refine jp ?_;obtain ⟨x,u0,h⟩:=bnd h;obtain ⟨x2,va,h⟩:=bnd h;refine jr (ra 2 [.sl zh [0] sv,kI i] rfl (zW rfl zhT.el (zy _ _ _) u0) rfl (ra 1 [.ep zh [0] x 1] rfl (zeR zf x.Fields rfl rfl rfl) rfl (ra 1 [.sl zf [0] x.Fields,kI k] rfl (zW rfl zlP.el (zy _ _ _) va) rfl (ra 0 [.ep zf [0] x2 0] rfl (zbM rfl ⟨Tryz.isAgg65,Tryz.sizeOf65⟩) rfl (rfl' [11]))))) (jp (jp (zp ?_)));obtain ⟨q,uU,h⟩:=bnd h;refine zab (fun s:(Bool×Bool×Int)=>zbE i k sv x2 s.1 s.2.1 s.2.2) (fun s=>⟨[(0,.sl zh [0] sv),(1,kI i),(2,kI k),(7,.ptr 11 0),(8,kB s.1),(9,kB s.2.1),(10,kI s.2.2)],[⟨11,65,[kS x2.Name,kI x2.Number,kI x2.Kind,kB x2.Repeated,kB x2.Packed,kI x2.Of]⟩]⟩) (fun o e a w=>e= .exit 0/\Sx ⟨⟨119,[]⟩,Xt,false,#[]⟩ ⟨[(0,.sl zh [0] sv),(7,.ptr 11 0),(8,kB o.1),(9,kB o.2)],[⟨11,65,[kS x2.Name,kI x2.Number,kI x2.Kind,kB x2.Repeated,kB x2.Packed,kI x2.Of]⟩]⟩ a w) ?_ uU lzz ?_
 ·clear h;intro s o h;obtain ⟨vB,vi,j⟩:=s;refine zk ?_;replace h:zbE i k sv x2 vB vi j=some o:=h;unfold zbE at h;refine jp (jI h (fun uQ h=>?_) fun uQ h=>?_)
  ·refine zp ?_;obtain ⟨g,uP,h⟩:=bnd h;refine zdb (R:=fun e a w=>e= .normal/\Sx ⟨⟨119,[]⟩,Xt,false,#[]⟩ ⟨[(0,.sl zh [0] sv),(1,kI i),(2,kI k),(7,.ptr 11 0),(8,kB g),(9,kB vi),(10,kI j)],[⟨11,65,[kS x2.Name,kI x2.Number,kI x2.Kind,kB x2.Repeated,kB x2.Packed,kI x2.Of]⟩]⟩ a w) ?_ (zeQ ?_)
   ·refine zk ?_;rcases yv vB with uR| uR
    ·replace uP:=iteT uP uR;cases uP;exact jd [0,1,2,7,8,9,10] [11] zaU (by exact (lw_e (lx (zcv ⟨[(24,kB vB)],[]⟩ (by kernel_rfl) uR) l0))) (zD lzz)
    replace uP:=iteF uP uR;obtain ⟨x3,vg,uP⟩:=bnd uP;obtain ⟨x4,vo,uP⟩:=bnd uP;cases uP;exact jd [0,1,2,7,8,9,10] [11] zaU (by exact (lw_e (lx (zcv ⟨[(24,kB vB)],[]⟩ (by kernel_rfl) uR) (lw_e (lw_e (ly [.sl zh [0] sv,kI i] (zW rfl zhT.el (zy _ _ _) vg) rfl (lw_e (ly [.ep zh [0] x3 1] (zeR zf x3.Fields rfl rfl rfl) rfl (lw_e (ly [.sl zf [0] x3.Fields,kI j] (zW rfl zlP.el (zy _ _ _) vo) rfl l0)))))))))) (zD lzz)
   obtain ⟨g2,uZ,h⟩:=bnd h;refine zdb (R:=fun e a w=>e= .normal/\Sx ⟨⟨119,[]⟩,Xt,false,#[]⟩ ⟨[(0,.sl zh [0] sv),(1,kI i),(2,kI k),(7,.ptr 11 0),(8,kB g),(9,kB g2),(10,kI j)],[⟨11,65,[kS x2.Name,kI x2.Number,kI x2.Kind,kB x2.Repeated,kB x2.Packed,kI x2.Of]⟩]⟩ a w) ?_ (zeQ ?_)
   ·refine zk ?_;rcases yv vi with uT| uT
    ·replace uZ:=iteT uZ uT;cases uZ;exact jd [0,1,2,7,8,9,10] [11] zaU (by exact (lw_e (lx (zcv ⟨[(39,kB vi)],[]⟩ (by kernel_rfl) uT) l0))) (zD lzz)
    replace uZ:=iteF uZ uT;obtain ⟨x5,vC,uZ⟩:=bnd uZ;obtain ⟨x6,vM,uZ⟩:=bnd uZ;cases uZ;exact jd [0,1,2,7,8,9,10] [11] zaU (by exact (lw_e (lx (zcv ⟨[(39,kB vi)],[]⟩ (by kernel_rfl) uT) (lw_e (lw_e (ly [.sl zh [0] sv,kI i] (zW rfl zhT.el (zy _ _ _) vC) rfl (lw_e (ly [.ep zh [0] x5 1] (zeR zf x5.Fields rfl rfl rfl) rfl (lw_e (ly [.sl zf [0] x5.Fields,kI j] (zW rfl zlP.el (zy _ _ _) vM) rfl l0)))))))))) (zD lzz)
   refine zV (jp ?_);cases h;exact zD lzz
  cases h;exact zaa rfl lzz
 refine zan _ rfl ?_;obtain ⟨rv,uS,h⟩:=bnd h;refine jr (rl 2 [1] 11 Tryz.call149 (zmw uS) rf) (jI h (fun uX h=>?_) fun uX h=>?_)
 ·refine jp ?_;cases h;exact zo lzz
 refine jp (jI h (fun vb h=>?_) fun vb h=>?_)
 ·refine jp ?_;cases h;exact zo lzz
 refine zU ⟨[(0,.sl zh [0] sv),(7,.ptr 11 0),(9,kB q.2),(76,kB ((decide (x2.Number<1))|| ((decide (x2.Number>536870911))|| ((decide (x2.Number>=19000))&&(decide (x2.Number<20000))))))],[⟨11,65,[kS x2.Name,kI x2.Number,kI x2.Kind,kB x2.Repeated,kB x2.Packed,kI x2.Of]⟩]⟩ ?_ ?_
 ·refine (rsl 4 [] 62 (decide (x2.Number<1)) (fun vc=>?_) (fun vc=>?_))
  · exact (rbl [] 76 true rfl (by rw [vc]<;>rfl))
  refine (rsl 5 [] 67 (decide (x2.Number>536870911)) (fun vh=>?_) (fun vh=>?_))
  · exact (rbl [] 76 true rfl (by rw [vc,vh]<;>rfl))
  refine (rsl 4 [] 71 (decide (x2.Number>=19000)) (fun vk=>?_) (fun vk=>?_))
  · exact (rbl [] 76 (decide (x2.Number<20000)) rfl (by rw [vc,vh,vk]<;>rfl))
  exact (rbl [] 76 false rfl (by rw [vc,vh,vk]<;>rfl))
 refine jI h (fun vj h=>?_) fun vj h=>?_
 ·refine jp ?_;cases h;exact zo lzz
 refine jp (jI h (fun vq h=>?_) fun vq h=>?_)
 ·refine jp ?_;cases h;exact zo lzz
 obtain ⟨rv2,u9,h⟩:=bnd h;refine jr (rl 2 [1] 11 Tryz.call59 (zjo u9) rf) (jI h (fun vD h=>?_) fun vD h=>?_)
 ·refine jp ?_;cases h;exact zo lzz
 obtain ⟨g3,vd,h⟩:=bnd h;refine zU ⟨[(0,.sl zh [0] sv),(7,.ptr 11 0),(93,kB g3)],[⟨11,65,[kS x2.Name,kI x2.Number,kI x2.Kind,kB x2.Repeated,kB x2.Packed,kI x2.Of]⟩]⟩ ?_ ?_
 ·refine (rsl 3 [] 84 x2.Packed (fun vu=>?_) (fun vu=>?_))
  ·replace vd:=iteT vd vu;refine (rsl 3 [] 87 x2.Repeated (fun vx=>?_) (fun vx=>?_))
   ·replace vd:=iteT vd vx;obtain ⟨rv3,ve,vd⟩:=bnd vd;cases vd;exact (rl 2 [1] 11 Tryz.call60 (ziN ve) (rel [] lzz))
   replace vd:=iteF vd vx;cases vd;exact (rel [] lzz)
  replace vd:=iteF vd vu;cases vd;exact (rel [] lzz)
 refine jI h (fun vv h=>?_) fun vv h=>?_
 ·refine jp ?_;cases h;exact zo lzz
 refine zU ⟨[(118,kB (if (x2.Kind==17) then ((decide (x2.Of<0))|| ((decide (x2.Of>=(sv.length:Int)))|| ((x2.Kind !=17)&&(x2.Of !=0)))) else ((x2.Kind !=17)&&(x2.Of !=0))))],[]⟩ ?_ ?_
 ·refine (rsl 4 [] 97 (x2.Kind==17) (fun vA=>?_) (fun vA=>?_))
  ·refine (rsl 4 [] 101 (decide (x2.Of<0)) (fun vG=>?_) (fun vG=>?_))
   · exact (rbl [] 118 true rfl (by rw [vA,vG]<;>rfl))
   refine (rsl 8 [] 109 (decide (x2.Of>=(sv.length:Int))) (fun vF=>?_) (fun vF=>?_))
   · exact (rbl [] 118 true rfl (by rw [vA,vG,vF]<;>rfl))
   refine (rsl 4 [] 113 (x2.Kind !=17) (fun vK=>?_) (fun vK=>?_))
   · exact (rbl [] 118 (x2.Of !=0) rfl (by rw [vA,vG,vF,vK]<;>rfl))
   exact (rbl [] 118 false rfl (by rw [vA,vG,vF,vK]<;>rfl))
  refine (rsl 16 [] 113 (x2.Kind !=17) (fun vO=>?_) (fun vO=>?_))
  · exact (rbl [] 118 (x2.Of !=0) rfl (by rw [vA,vO]<;>rfl))
  exact (rbl [] 118 false rfl (by rw [vA,vO]<;>rfl))
 refine jI h (fun vY h=>?_) fun vY h=>?_
 ·refine jp ?_;cases h;exact zo lzz
 refine jp ?_;cases h;exact zo lzz
theorem zrl (h:zgW k wv=some r):FnOk Tryz.prog 61 [kI k,kU wv] [kU r]:=by
 refine zu (E:=⟨[(4,kU r)],[]⟩) 25 Tryz.func61 rfl rfl rfl ⟨rfl,trivial⟩ (fun Xt=>?_);refine zk ?_;unfold zgW at h;refine jp (jp (zp (jp ?_)));obtain ⟨p,vz,h⟩:=bnd h;refine zdb (R:=fun e a w=>e= .normal/\Sx ⟨⟨25,[]⟩,Xt,false,#[]⟩ ⟨[(1,kU wv),(5,kI k),(6,kB p)],[]⟩ a w) ?_ ?_
 ·replace h:=vz;refine zk (jI h (fun uQ h=>?_) fun uQ h=>?_)
  ·cases h;exact zD lzz
  refine jp ?_;cases h;exact zD lzz
 refine zeQ (jI h (fun uR h=>?_) fun uR h=>?_)
 ·obtain ⟨rv,uS,h⟩:=bnd h;obtain ⟨rv2,u9,h⟩:=bnd h;refine jr (rl 1 [1] 9 Tryz.call93 (zqy uS) (rl 0 [1] 9 Tryz.call92 (zrI u9) rf)) ?_;obtain rfl:=(sj h);exact zo lzz
 refine jp ?_;obtain ⟨p2,vN,h⟩:=bnd h;refine zdb (R:=fun e a w=>e= .normal/\Sx ⟨⟨25,[]⟩,Xt,false,#[]⟩ ⟨[(1,kU wv),(5,kI k),(12,kB p2)],[]⟩ a w) ?_ ?_
 ·replace h:=vN;refine zk (jI h (fun uT h=>?_) fun uT h=>?_)
  ·cases h;exact zD lzz
  refine jp (jI h (fun uX h=>?_) fun uX h=>?_)
  ·cases h;exact zD lzz
  refine jp (jI h (fun vb h=>?_) fun vb h=>?_)
  ·cases h;exact zD lzz
  refine jp (jI h (fun vc h=>?_) fun vc h=>?_)
  ·cases h;exact zD lzz
  refine jp ?_;cases h;exact zD lzz
 refine zeQ (jI h (fun vh h=>?_) fun vh h=>?_)
 ·refine jp ?_;cases h;exact zo lzz
 refine jp (jI h (fun vk h=>?_) fun vk h=>?_)
 ·refine jp (jI h (fun vj h=>?_) fun vj h=>?_)
  ·refine jp ?_;cases h;exact zo lzz
  refine jp ?_;cases h;exact zo lzz
 refine zV (jp ?_);obtain rfl:=(sj h);exact zo lzz
end Go.Proofs.YtekgmimingolbaaGreat
