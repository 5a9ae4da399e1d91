/-
  The Go functions do what the plain functions say. No condition.
-/
import Derived.Test.YtekgmimingolbaaGreatx1G1
import Derived.Test.YtekgmimingolbaaGreatx1G2
import Derived.Test.YtekgmimingolbaaGreatx1Y
set_option autoImplicit true
set_option relaxedAutoImplicit true
namespace Go.Proofs.YtekgmimingolbaaGreat
open Go Go.RowKit
set_option linter.unusedVariables false
set_option maxRecDepth 100000
set_option maxHeartbeats 3200000
theorem zrw (h:zhl x y=some r):FnOk Tryz.prog 106 [kI x,kI y] [kI r]:=by
 refine zu (E:=⟨[(4,kI r)],[]⟩) 20 Tryz.func106 rfl rfl rfl ⟨rfl,trivial⟩ (fun Xt=>?_);refine zj ?_;unfold zhl at h;refine jp ?_;obtain ⟨rv,uF,h⟩:=bnd h;refine jr (rl 1 [1] 9 Tryz.call138 (zmY uF) rf) ?_;obtain ⟨rv2,uQ,h⟩:=bnd h;refine jr (rl 1 [1] 9 Tryz.call138 (zmY uQ) rf) (jp (jI h (fun uC h=>?_) fun uC h=>?_))
 ·refine jp (jI h (fun uD h=>?_) fun uD h=>?_)
  ·refine jp ?_;cases h;exact zt lzz
  refine jp ?_;cases h;exact zt lzz
 refine jp (jI h (fun uE h=>?_) fun uE h=>?_)
 ·refine jp ?_;cases h;exact zt lzz
 refine jp (jI h (fun uI h=>?_) fun uI h=>?_)
 ·refine jp ?_;cases h;exact zt lzz
 refine jp (jI h (fun uL h=>?_) fun uL h=>?_)
 ·refine jp ?_;cases h;exact zt lzz
 refine jp ?_;cases h;exact zt lzz
theorem zzf (h:zon way other=some r):FnOk Tryz.prog 101 [.sl (Rp.int .i64) [0] way,.sl (Rp.int .i64) [0] other] [kB r]:=by
 refine zu (E:=⟨[(4,kB r)],[]⟩) 23 Tryz.func101 rfl rfl rfl ⟨rfl,trivial⟩ (fun Xt=>?_);refine zj ?_;unfold zon at h;refine jp ?_;obtain ⟨g,uB,h⟩:=bnd h;refine zO ⟨[(4,kB g)],[]⟩ ?_ ?_
 ·refine (rsl 4 [] 8 (decide ((other.length:Int)>0)) (fun uC=>?_) (fun uC=>?_))
  ·replace uB:=iteT uB uC;refine (rsl 7 [] 15 (decide ((other.length:Int)<=(way.length:Int))) (fun uD=>?_) (fun uD=>?_))
   ·replace uB:=iteT uB uD;obtain ⟨v,uZ,uB⟩:=bnd uB;obtain ⟨rv,uF,uB⟩:=bnd uB;cases uB;exact (ra 3 [.sl (Rp.int .i64) [0] way,kI (other.length:Int)] rfl (zlw none (some (kI (other.length:Int))) rfl zhz.el (zw _ _ _) ⟨rfl,rfl⟩ ⟨rfl,rfl⟩ uZ) rfl (rl 1 [0] 9 Tryz.call134 (zmB uF) rgg))
   replace uB:=iteF uB uD;cases uB;exact rgg
  replace uB:=iteF uB uC;cases uB;exact rgg
 obtain rfl:=(sj h);exact zt lzz
theorem zqx {ways:(List (List Int))} (h:zjN ways=some r):FnOk Tryz.prog 68 [.sl (Rp.list (Rp.int .i64)) [0] ways] [.own (Rp.list (Rp.int .i64)) 53 2 [3] r]:=by
 refine zu (E:=⟨[(2,.own (Rp.list (Rp.int .i64)) 53 2 [3] r)],[]⟩) 23 Tryz.func68 rfl rfl rfl ⟨rfl,trivial⟩ (fun Xt=>?_);refine zj ?_;unfold zjN at h;refine jp ?_;obtain ⟨v,uZ,h⟩:=bnd h;refine jr (ra 2 [kI (ways.length:Int),kI (ways.length:Int)] rfl (zDo 13 rfl zcY rfl uZ) rfl rf) (jp (zq ?_));obtain ⟨q,uJ,h⟩:=bnd h;refine zW (fun s:((List (List Int))×Int)=>zdH ways s.1 s.2) (fun s=>⟨[(3,.own (Rp.list (Rp.int .i64)) 53 13 [14] s.1),(9,.sl (Rp.list (Rp.int .i64)) [0] ways),(10,kI (ways.length:Int)),(11,kI s.2)],[]⟩) (fun o e a w=>e= .exit 0/\Sx ⟨⟨23,[]⟩,Xt,false,#[]⟩ ⟨[(3,.own (Rp.list (Rp.int .i64)) 53 13 [14] o)],[]⟩ a w) ?_ uJ ?_ ?_
 ·clear h;intro s o h;obtain ⟨l,v2⟩:=s;refine zj ?_;replace h:zdH ways l v2=some o:=h;unfold zdH at h;refine jp (jI h (fun uC h=>?_) fun uC h=>?_)
  ·refine zq ?_;obtain ⟨x,uM,h⟩:=bnd h;refine jr (ra 1 [.sl (Rp.list (Rp.int .i64)) [0] ways,kI v2] rfl (zP rfl zcY.el (zw _ _ _) uM) rfl (ra 0 [.ep (Rp.list (Rp.int .i64)) [0] x 0] rfl (zbv (Rp.int .i64) x rfl rfl rfl) rfl rf)) ?_;obtain ⟨rv,uF,h⟩:=bnd h;obtain ⟨x2,uP,h⟩:=bnd h;refine jr (rl 3 [0] 15 Tryz.call102 (zmA uF) (ra 0 [.own (Rp.list (Rp.int .i64)) 53 13 [14] l,kI v2] rfl (zwc rfl zcY.el uP) rfl (rkl 0 [] ⟨[(3,.own (Rp.list (Rp.int .i64)) 53 13 [14] l),(9,.sl (Rp.list (Rp.int .i64)) [0] ways),(10,kI (ways.length:Int)),(11,kI v2),(19,.own (Rp.int .i64) 3 17 [] rv),(20,.ptr 13 (Int.toNat v2*(Rp.list (Rp.int .i64)).size))],[]⟩ (zJa (r:=(Rp.list (Rp.int .i64))) (e:=53) (C:=[14]) (xs:=l) [3] (Int.toNat v2) 0 x2 rv [14,17] rfl rfl rfl rfl rfl rfl Tryz.sizeOf53 rfl (by kernel_rfl) rfl (zyP uP) rfl (zzr rfl _) rfl rf)))) (zQ (jp ?_));cases h;exact zD (lk [3,9,10,11] [] 17 14 (zaJ ⟨[(3,.own (Rp.list (Rp.int .i64)) 53 13 [14,14] (l.set (Int.toNat v2) rv)),(9,.sl (Rp.list (Rp.int .i64)) [0] ways),(10,kI (ways.length:Int)),(11,kI (IntKind.i64.wrap (v2+1)))],[]⟩ (by kernel_rfl) (zdk 3 (.own (Rp.list (Rp.int .i64)) 53 13 [14] (l.set (Int.toNat v2) rv)) rfl (zdM _ _ _ _ _ _ rfl rfl) lzz)))
  cases h;exact zX rfl lzz
 ·exact zaJ ⟨[(3,.own (Rp.list (Rp.int .i64)) 53 13 [] v),(9,.sl (Rp.list (Rp.int .i64)) [0] ways),(10,kI (ways.length:Int)),(11,kI 0)],[]⟩ (by kernel_rfl) (zdk 3 (.own (Rp.list (Rp.int .i64)) 53 13 [14] v) rfl (zdM _ _ _ _ _ _ rfl rfl) lzz)
 refine zaj _ rfl (jp ?_);obtain rfl:=(sj h);exact zt (lk [2] [] 13 2 (lk [2] [] 14 3 lzz))
theorem zkn (h:zdJ sv=some r):FnOk Tryz.prog 70 [.sl (Rp.list (Rp.int .i64)) [0] sv] [.fv 105 [.bp (Rp.list (Rp.list (Rp.int .i64))) 45 910500 [0] r]]:=by
 refine zu (E:=⟨[(2,.fv 105 [.bp (Rp.list (Rp.list (Rp.int .i64))) 45 910500 [0] r])],[]⟩) 4 Tryz.func70 rfl rfl rfl ⟨rfl,trivial⟩ (fun Xt=>?_);refine zj ?_;unfold zdJ at h;refine jq [910500] (jr (ra 0 [.ptr 910500 0] rfl (zHH (g:=105) [.tmp 1] [⟨910500,45,[.sl (Rp.list (Rp.int .i64)) [0] sv]⟩] [.bp (Rp.list (Rp.list (Rp.int .i64))) 45 910500 [0] sv] rfl ⟨⟨rfl,rfl,rfl,rfl⟩,trivial⟩ rfl) rfl rf) ?_);obtain rfl:=(sj h);exact zt lzz
theorem zdN (h:zak v=some r):FnOk Tryz.prog 135 [kN,.fv 105 [.ep (Rp.list (Rp.list (Rp.int .i64))) [0] v 0]] [.own (Rp.list (Rp.int .i64)) 53 2 [3,0] r]:=by
 refine zDW (E:=⟨[(4,.own (Rp.list (Rp.int .i64)) 53 2 [3,0] r)],[]⟩) 13 Tryz.func135 rfl rfl rfl ⟨rfl,trivial⟩ rfl rfl (fun Xt=>?_);refine zj ?_;unfold zak at h;refine jq [15] (jp (zq ?_));obtain ⟨q,uJ,h⟩:=bnd h;refine zAr (E':=⟨[(2,.ptr 15 0),(6,.fv 105 [.ep (Rp.list (Rp.list (Rp.int .i64))) [0] v 0])],[⟨15,45,[.own (Rp.list (Rp.int .i64)) 53 18 [16,0] []]⟩]⟩) ?_ ?_
 ·exact zaJ ⟨[(2,.ptr 15 0),(6,.fv 105 [.ep (Rp.list (Rp.list (Rp.int .i64))) [0] v 0])],[⟨15,45,[kN]⟩]⟩ (by kernel_rfl) (zcU 15 0 (.own (Rp.list (Rp.int .i64)) 53 18 [16,0] []) rfl rfl (zbJ (Rp.list (Rp.int .i64)) 53 18 [16,0] rfl) lzz)
 refine zFM (it:=fun {σ:Type} (kf:Rnd σ (List Int)) (sg:σ)=>zaV v kf sg) (zjG v) [] [2] [15] [(2,.ptr 15 0)] (fun s:(List (List Int))=>[⟨15,45,[.own (Rp.list (Rp.int .i64)) 53 18 [16,0] s]⟩]) (fun o:Empty=>[]) (fun o:Empty=> .ret) (fun (s:(List (List Int))) (x:(List Int))=>zJ s x) (fun (s:(List (List Int))) (x:(List Int))=>⟨[(2,.ptr 15 0),(5,.sl (Rp.int .i64) [0] x)],[⟨15,45,[.own (Rp.list (Rp.int .i64)) 53 18 [16,0] s]⟩]⟩) rfl rfl Tryz.call105 rfl rfl rfl rfl rfl rfl (fun _=>rfl) (fun o=>rfl) rfl rfl (fun _=>rfl) ?_ (fun _ _=>⟨rfl,rfl⟩) ?_ uJ ?_
 ·clear h;intro Xr old f x;exact zj (zAr (E':=⟨[(7,.sl (Rp.int .i64) [0] x),(2,.ptr 15 0)],[⟨15,45,[.own (Rp.list (Rp.int .i64)) 53 18 [16,0] f]⟩]⟩) (fun _ _ _ hs=>hs) (jp (zD lzz)))
 ·clear h;intro Xr old f x o h;refine zj (zAr (E':=⟨[(2,.ptr 15 0),(5,.sl (Rp.int .i64) [0] x)],[⟨15,45,[.own (Rp.list (Rp.int .i64)) 53 18 [16,0] f]⟩]⟩) (fun _ _ _ hs=>hs) ?_);replace h:zJ f x=some o:=h;unfold zJ at h;refine zq ?_;obtain ⟨v2,vd,h⟩:=bnd h;refine jr (rc 2 rfl (zcr [.sl (Rp.int .i64) [0] x] 20 [0] ([x]:(List (List Int))) rfl zcY rfl rfl rfl rfl) (ra 0 [.own (Rp.list (Rp.int .i64)) 53 18 [16,0] f,.own (Rp.list (Rp.int .i64)) 53 20 [0] ([x]:(List (List Int)))] rfl (zgx 18 [16,0,20] rfl zcY.el rfl (zcI _ _ _ _ _) (zet _ _ _ _ _) vd (.inr rfl) rfl) rfl rf)) (zQ ?_);cases h;exact zD (lk [2] [15] 20 16 (zaJ ⟨[(2,.ptr 15 0)],[⟨15,45,[.own (Rp.list (Rp.int .i64)) 53 18 [16,0,16] v2]⟩]⟩ (by kernel_rfl) (zcU 15 0 (.own (Rp.list (Rp.int .i64)) 53 18 [16,0] v2) rfl rfl (zdM _ _ _ _ _ _ rfl rfl) lzz)))
 rcases q with u| j
 ·refine zAr (E':=⟨[(2,.ptr 15 0)],[⟨15,45,[.own (Rp.list (Rp.int .i64)) 53 18 [16,0] u]⟩]⟩) (fun _ _ _ hs=>hs) (zQ (jp ?_));obtain rfl:=(sj h);exact zt (lk [4] [] 18 2 (lk [4] [] 16 3 lzz))
 exact nomatch j
theorem zAt (h:zqs=some r):FnOk Tryz.prog 139 [] [.own (Rp.int .i64) 3 2 [] r]:=by
 refine zu (E:=⟨[(0,.own (Rp.int .i64) 3 2 [] r)],[]⟩) 4 Tryz.func139 rfl rfl rfl ⟨rfl,trivial⟩ (fun Xt=>?_);refine zj ?_;unfold zqs at h;refine jp ?_;obtain ⟨rv,uF,h⟩:=bnd h;obtain ⟨v,uZ,h⟩:=bnd h;refine jr (rl 0 [1] 11 Tryz.call171 (zrJ uF) (rkl 0 [] ⟨[(1,.om (Rp.int .i64) zA 13 [] rv)],[]⟩ (zAZ (rv:=zA) (m:=rv) 14 zED rfl rfl rfl rfl rfl rfl Tryz.call170 Tryz.call114 rfl (zDf _ _ _ _ _) uZ rfl rf))) ?_;obtain rfl:=(sj h);exact zt (lk [0] [] 14 2 lzz)
theorem zov (h:zij vh=some r):FnOk Tryz.prog 172 [kS vh] [kB r]:=by
 refine zu (E:=⟨[(2,kB r)],[]⟩) 34 Tryz.func172 rfl rfl rfl ⟨rfl,trivial⟩ (fun Xt=>?_);refine zj ?_;unfold zij at h;refine jp ?_;obtain ⟨g,uB,h⟩:=bnd h;refine zO ⟨[(0,kS vh),(15,kB g)],[]⟩ ?_ ?_
 ·refine (rsl 3 [] 6 (vh==[]) (fun uC=>?_) (fun uC=>?_))
  ·replace uB:=iteT uB uC;cases uB;exact rgg
  replace uB:=iteF uB uC;refine (rsl 5 [] 11 (decide ((vh.length:Int)>60)) (fun uD=>?_) (fun uD=>?_))
  ·replace uB:=iteT uB uD;cases uB;exact rgg
  replace uB:=iteF uB uD;obtain ⟨c,vK,uB⟩:=bnd uB;obtain ⟨rv,uF,uB⟩:=bnd uB;cases uB;exact (ra 1 [kS vh,kI 0] rfl (zzd rfl Tryz.underlying9 vK) rfl (rl 0 [1] 9 Tryz.call195 (znl uF) rgg))
 refine jI h (fun uE h=>?_) fun uE h=>?_
 ·refine jp ?_;obtain rfl:=(sj h);exact zt lzz
 refine jp (zq ?_);obtain ⟨q,uJ,h⟩:=bnd h;refine zW (fun s:Int=>zct vh s) (fun s=>⟨[(0,kS vh),(17,kI (vh.length:Int)),(18,kI s)],[]⟩) (fun o e a w=>match o with| (.inl v_)=>e= .exit 0/\Sx ⟨⟨34,[]⟩,Xt,false,#[]⟩ ⟨[],[]⟩ a w| (.inr v_)=>e= .ret/\Sx ⟨⟨34,[]⟩,Xt,false,#[]⟩ ⟨[(2,kB false)],[]⟩ a w) ?_ uJ lzz ?_
 ·clear h;intro v2 o h;refine zj ?_;replace h:zct vh v2=some o:=h;unfold zct at h;refine jp (jI h (fun uI h=>?_) fun uI h=>?_)
  ·refine zq (jp ?_);obtain ⟨g2,uH,h⟩:=bnd h;refine zO ⟨[(0,kS vh),(17,kI (vh.length:Int)),(18,kI v2),(32,kB g2)],[]⟩ ?_ ?_
   ·obtain ⟨c2,wH,uH⟩:=bnd uH;obtain ⟨rv2,uQ,uH⟩:=bnd uH;refine (ra 2 [kS vh,kI v2] rfl (zzd rfl Tryz.underlying9 wH) rfl (rl 0 [1] 10 Tryz.call196 (zsq uQ) (rsl 2 [] 26 (!rv2) (fun uL=>?_) (fun uL=>?_))))
    ·replace uH:=iteT uH uL;obtain ⟨c3,wI,uH⟩:=bnd uH;obtain ⟨rv3,uT,uH⟩:=bnd uH;cases uH;exact (ra 2 [kS vh,kI v2] rfl (zzd rfl Tryz.underlying9 wI) rfl (rl 0 [1] 10 Tryz.call195 (znl uT) rgg))
    replace uH:=iteF uH uL;cases uH;exact rgg
   refine jI h (fun uN h=>?_) fun uN h=>?_
   ·refine jp ?_;cases h;exact zaK lzz
   refine zQ (jp ?_);cases h;exact zD lzz
  cases h;exact zX rfl lzz
 rcases q with u| u2
 ·refine zaj _ rfl (jp ?_);obtain rfl:=(sj h);exact zt lzz
 obtain rfl:=(sj h);exact zcN lzz
theorem zlo (h:zdc sv v=some r):FnOk Tryz.prog 174 [.sl (Rp.int .i64) [0] sv,kI v] [kB r]:=by
 refine zu (E:=⟨[(4,kB r)],[]⟩) 9 Tryz.func174 rfl rfl rfl ⟨rfl,trivial⟩ (fun Xt=>?_);refine zj ?_;unfold zdc at h;refine jp ?_;obtain ⟨rv,uF,h⟩:=bnd h;refine jr (rl 2 [0] 9 Tryz.call197 (zmC uF) rf) ?_;cases h;exact zt lzz
theorem zyU (h:zol k=some r):FnOk Tryz.prog 217 [kI k] [kI r.1,k8 r.2]:=by
 refine zu (E:=⟨[(2,kI r.1),(3,k8 r.2)],[]⟩) 16 Tryz.func217 rfl rfl rfl ⟨rfl,rfl,trivial⟩ (fun Xt=>?_);refine zj ?_;unfold zol at h;refine jp ?_;obtain ⟨rv,uF,h⟩:=bnd h;refine jr (rl 0 [1] 9 Tryz.call171 (zrJ uF) (ra 1 [.om (Rp.int .i64) zA 11 [] rv,kI k] rfl (ztR (rk:=(Rp.int .i64)) (rv:=zA) (m:=rv) (k:=k) (.rc zA [] ((mget rv k).getD (⟨[],0⟩:zv))) rfl zgu (zdK rfl rfl) (zyI rfl)) rfl (rfl' [12]))) (jp (jI h (fun uC h=>?_) fun uC h=>?_))
 ·refine jp ?_;cases h;exact zt lzz
 refine jp ?_;cases h;exact zt lzz
theorem zxo (h:zmF uO x=some r):FnOk Tryz.prog 95 [.rc zd [0] x] [kI r]:=by
 refine zu (E:=⟨[(2,kI r)],[]⟩) 5 Tryz.func95 rfl rfl rfl ⟨rfl,trivial⟩ (fun Xt=>?_);refine zj ?_;unfold zmF at h;refine jr (ra 0 [.rc zd [0] x] rfl (zbL 11 [.sl za [0] x.Values,.sl Rp.str [0] x.Unknown] [0] rfl rfl rfl (by rw [zi]<;>rfl) rfl) rfl rf) ?_;obtain ⟨rv,uF,h⟩:=bnd h;refine jr (rc 1 rfl (zx.le (ins':=[(.tmp 3,.ag [.sl za [0] x.Values,.sl Rp.str [0] x.Unknown]),(.const (.int .i64 131072),kI 131072)]) (zR (args:=[.tmp 3,.const (.int .i64 131072)]) [.rc zd [0] x,kI 131072] [0] 10 rfl Tryz.call128 (zxq uF) rfl rfl rfl rfl rfl) ⟨⟨rfl,zT zd [0] x [.sl za [0] x.Values,.sl Rp.str [0] x.Unknown] (by rw [zi]<;>rfl) rfl⟩,⟨rfl,AV.le_refl _⟩,trivial⟩) rf) ?_;obtain rfl:=(sj h);exact zt lzz
theorem zeJ (h:zao sv v=some r):FnOk Tryz.prog 157 [.sl zf [0] sv,.fv 130 [.ep (Rp.int .i64) [0] v 0]] [kI r]:=by
 refine zu (E:=⟨[(4,kI r)],[]⟩) 19 Tryz.func157 rfl rfl rfl ⟨rfl,trivial⟩ (fun Xt=>?_);refine zj ?_;unfold zao at h;refine jp (jp (zq ?_));obtain ⟨q,uJ,h⟩:=bnd h;refine zW (fun s:Int=>zy sv v s) (fun s=>⟨[(0,.sl zf [0] sv),(1,.fv 130 [.ep (Rp.int .i64) [0] v 0]),(7,kI (sv.length:Int)),(8,kI s)],[]⟩) (fun o e a w=>match o with| (.inl v_)=>e= .exit 0/\Sx ⟨⟨19,[]⟩,Xt,false,#[]⟩ ⟨[],[]⟩ a w| (.inr v_)=>e= .ret/\Sx ⟨⟨19,[]⟩,Xt,false,#[]⟩ ⟨[(4,kI v_)],[]⟩ a w) ?_ uJ lzz ?_
 ·clear h;intro v2 o h;refine zj ?_;replace h:zy sv v v2=some o:=h;unfold zy at h;refine jp (jI h (fun uC h=>?_) fun uC h=>?_)
  ·refine zq (jp ?_);obtain ⟨x,uM,h⟩:=bnd h;obtain ⟨rv,uF,h⟩:=bnd h;refine jr (ra 3 [.sl zf [0] sv,kI v2] rfl (zP rfl zoF.el (zw _ _ _) uM) rfl (ra 0 [.ep zf [0] x 0] rfl (zcM rfl ⟨Tryz.isAgg65,Tryz.sizeOf65⟩) rfl (ra 0 [.fv 130 [.ep (Rp.int .i64) [0] v 0],.rc zf [0] x] rfl (zAA (args:=[.tmp 15]) [.rc zf [0] x] [0] 10 rfl (zDe _ _) Tryz.call130 (zqM uF) rfl rfl rfl rfl rfl) rfl rf))) (jI h (fun uD h=>?_) fun uD h=>?_)
   ·refine jp ?_;cases h;exact zaK lzz
   refine zQ (jp ?_);cases h;exact zD lzz
  cases h;exact zX rfl lzz
 rcases q with u| u2
 ·refine zaj _ rfl (jp ?_);cases h;exact zt lzz
 obtain rfl:=(sj h);exact zcN lzz
theorem zuI (h:zoD b=some r):FnOk Tryz.prog 226 [.sl Rp.byte [0] b] [kI r]:=by
 refine zu (E:=⟨[(2,kI r)],[]⟩) 48 Tryz.func226 rfl rfl rfl ⟨rfl,trivial⟩ (fun Xt=>?_);refine zj ?_;unfold zoD at h;refine jp (jp (jI h (fun uC h=>?_) fun uC h=>?_))
 ·refine jp ?_;cases h;exact zt lzz
 obtain ⟨x,uM,h⟩:=bnd h;obtain ⟨rv,uF,h⟩:=bnd h;refine jr (ra 1 [.sl Rp.byte [0] b,kI 0] rfl (zP rfl zir.el (zw _ _ _) uM) rfl (rl 1 [1] 9 Tryz.call232 (zBo uF) rf)) (zO ⟨[(0,.sl Rp.byte [0] b),(3,kI rv.1),(4,.lf (.int .u32 rv.2)),(24,kB ((rv.1==0)|| (decide (rv.1>(b.length:Int)))))],[]⟩ ?_ ?_)
 ·refine (rsl 3 [] 19 (rv.1==0) (fun uD=>?_) (fun uD=>?_))
  · exact (rbl [] 24 true rfl (by rw [uD]<;>rfl))
  exact (rbl [] 24 (decide (rv.1>(b.length:Int))) rfl (by rw [uD]<;>rfl))
 refine jI h (fun uE h=>?_) fun uE h=>?_
 ·refine jp ?_;cases h;exact zt lzz
 obtain ⟨v2,vd,h⟩:=bnd h;refine jr (ra 2 [.sl Rp.byte [0] b,kI 1,kI rv.1] rfl (zlw (some (kI 1)) (some (kI rv.1)) rfl zir.el (zw _ _ _) ⟨rfl,rfl⟩ ⟨rfl,rfl⟩ vd) rfl rf) (zq ?_);obtain ⟨q,uJ,h⟩:=bnd h;refine zW (fun s:(Int×Int)=>zft v2 s.1 s.2) (fun s=>⟨[(3,kI rv.1),(4,.lf (.int .u32 s.1)),(27,.sl Rp.byte [0] v2),(28,kI (v2.length:Int)),(29,kI s.2)],[]⟩) (fun o e a w=>match o with| (.inl v_)=>e= .exit 0/\Sx ⟨⟨48,[]⟩,Xt,false,#[]⟩ ⟨[(3,kI rv.1),(4,.lf (.int .u32 v_))],[]⟩ a w| (.inr v_)=>e= .ret/\Sx ⟨⟨48,[]⟩,Xt,false,#[]⟩ ⟨[(2,kI 0)],[]⟩ a w) ?_ uJ lzz ?_
 ·clear h;intro s o h;obtain ⟨wv,v3⟩:=s;refine zj ?_;replace h:zft v2 wv v3=some o:=h;unfold zft at h;refine jp (jI h (fun uI h=>?_) fun uI h=>?_)
  ·refine zq ?_;obtain ⟨x2,uP,h⟩:=bnd h;refine jr (ra 0 [.sl Rp.byte [0] v2,kI v3] rfl (zP rfl zir.el (zw _ _ _) uP) rfl rf) (jr (ra 1 [k8 (x2.toNat:Int),kU 6] rfl (znQ rfl rfl) rfl rf) (jI h (fun uL h=>?_) fun uL h=>?_))
   ·refine jp ?_;cases h;exact zaK lzz
   refine jr (ra 1 [.lf (.int .u32 wv),kU 6] rfl (zGg rfl rfl) rfl rf) (zQ (jp ?_));cases h;exact zD lzz
  cases h;exact zX rfl lzz
 rcases q with u| u2
 ·refine zaj _ rfl ?_;obtain ⟨rv2,uQ,h⟩:=bnd h;refine jr (rl 2 [1] 10 Tryz.call233 (zBn uQ) rf) (jI h (fun uN h=>?_) fun uN h=>?_)
  ·refine jp ?_;cases h;exact zt lzz
  refine jp ?_;cases h;exact zt lzz
 cases h;exact zcN lzz
theorem zvy (h:zkT wv=some r):FnOk Tryz.prog 183 [kU wv] [.lf (.int .i32 r)]:=by
 refine zu (E:=⟨[(2,.lf (.int .i32 r))],[]⟩) 6 Tryz.func183 rfl rfl rfl ⟨rfl,trivial⟩ (fun Xt=>?_);refine zj ?_;unfold zkT at h;refine jp ?_;obtain ⟨rv,uF,h⟩:=bnd h;refine jr (rl 1 [1] 9 Tryz.call184 (zrH uF) rf) ?_;cases h;exact zt lzz
theorem zzz (h:zow t=some r):FnOk Tryz.prog 187 [.rc zgX [0] t] [kB r]:=by
 refine zu (E:=⟨[(2,kB r)],[]⟩) 16 Tryz.func187 rfl rfl rfl ⟨rfl,trivial⟩ (fun Xt=>?_);refine zj ?_;unfold zow at h;refine jq [11] ?_;obtain ⟨g,uB,h⟩:=bnd h;refine zO ⟨[(2,kB g)],[]⟩ ?_ ?_
 ·refine (rsl 4 [] 6 (decide (t.Number>=1)) (fun uC=>?_) (fun uC=>?_))
  ·replace uB:=iteT uB uC;refine (rsl 5 [] 11 (decide (t.Number<=536870911)) (fun uD=>?_) (fun uD=>?_))
   ·replace uB:=iteT uB uD;obtain ⟨rv,uF,uB⟩:=bnd uB;cases uB;exact (rl 2 [1] 10 Tryz.call215 (zui uF) rgg)
   replace uB:=iteF uB uD;cases uB;exact rgg
  replace uB:=iteF uB uC;cases uB;exact rgg
 obtain rfl:=(sj h);exact zt lzz
theorem zwX (h:zlr b=some r):FnOk Tryz.prog 188 [.sl Rp.byte [0] b] [kI r.1,k8 r.2]:=by
 refine zu (E:=⟨[(2,kI r.1),(3,k8 r.2)],[]⟩) 15 Tryz.func188 rfl rfl rfl ⟨rfl,rfl,trivial⟩ (fun Xt=>?_);refine zj ?_;unfold zlr at h;refine jp ?_;obtain ⟨rv,uF,h⟩:=bnd h;refine jr (rl 1 [0] 9 Tryz.call186 (zmH uF) rf) (jp ?_);cases h;exact zt lzz
theorem zuR (wa:∀{x:zc} {r:zc},xm x=some r->FnOk Tryz.prog 78 [.rc zd [0] x] [.ag [.own za 57 3 [0,4] r.Values,.own Rp.str 9 5 [] r.Unknown]]) (wb:∀{v:zb} {r:zb},xn v=some r->FnOk Tryz.prog 111 [.rc za [0] v] [.ag [kI r.Number,.own (Rp.int .u64) 83 3 [] r.Words,.own Rp.str 9 4 [] r.Texts,.own zd 27 5 [0,6] r.Subs]]) (h:zjx xm xn x=some r):FnOk Tryz.prog 78 [.rc zd [0] x] [.ag [.own za 57 3 [0,4] r.Values,.own Rp.str 9 5 [] r.Unknown]]:=by
 refine zu (E:=⟨[(2,.ptr 2 0)],[⟨2,27,[.own za 57 3 [0,4] r.Values,.own Rp.str 9 5 [] r.Unknown]⟩]⟩) 29 Tryz.func78 rfl rfl rfl ⟨⟨_,_,rfl,rfl,rfl,⟨Tryz.isAgg27,Tryz.sizeOf27⟩⟩,trivial⟩ (fun Xt=>?_);refine zj ?_;unfold zjx at h;refine jr (ra 0 [.rc zd [0] x] rfl (zbL 17 [.sl za [0] x.Values,.sl Rp.str [0] x.Unknown] [0] rfl rfl rfl (by rw [zi]<;>rfl) rfl) rfl (rfl' [18])) ?_;obtain ⟨rv,uF,h⟩:=bnd h;obtain ⟨rv2,uQ,h⟩:=bnd h;refine jd [2,3] [18,21] zbq (by exact (lw_e (lw_e (lx (lf1 109 (zR [.sl za [0] x.Values] [0] 17 rfl Tryz.call109 (ziq uF) rfl rfl rfl rfl rfl)) (lw_e (lw_e (lx (lf1 110 (zR [.sl Rp.str [0] x.Unknown] [0] 18 rfl Tryz.call110 (zgU uQ) rfl rfl rfl rfl rfl)) (ly [.own za 57 19 [0] rv,.own Rp.str 9 20 [] rv2] (zcs [.own za 57 19 [0] rv,.own Rp.str 9 20 [] rv2] [.own za 57 19 [0] rv,.own Rp.str 9 20 [] rv2] rfl zwQ rfl) rfl (lx (zmp 21 [kN,kN] rfl Tryz.zeroValue27 rfl) (ly [.ptr 21 0,.ag [.own za 57 19 [0] rv,.own Rp.str 9 20 [] rv2]] (zlK (b:=⟨21,27,[kN,kN]⟩) (off:=0) [.own za 57 19 [0] rv,.own Rp.str 9 20 [] rv2] rfl Tryz.sizeOf27 rfl rfl rfl) rfl l0)))))))))) (jp (zq ?_));obtain ⟨q,uJ,h⟩:=bnd h;refine zW (fun s:((List zb)×Int)=>zdI xn rv s.1 s.2) (fun s=>⟨[(2,.ptr 18 0),(3,.ptr 21 0),(14,.own za 57 19 [0,22] s.1),(15,kI (rv.length:Int)),(16,kI s.2)],[⟨18,27,[kN,kN]⟩,⟨21,27,[.own za 57 19 [0,22] s.1,.own Rp.str 9 20 [] rv2]⟩]⟩) (fun o e a w=>e= .exit 0/\Sx ⟨⟨29,[]⟩,Xt,false,#[]⟩ ⟨[(2,.ptr 18 0),(3,.ptr 21 0)],[⟨18,27,[kN,kN]⟩,⟨21,27,[.own za 57 19 [0,22] o,.own Rp.str 9 20 [] rv2]⟩]⟩ a w) ?_ uJ ?_ ?_
 ·clear h;intro s o h;obtain ⟨v,v2⟩:=s;refine zj ?_;replace h:zdI xn rv v v2=some o:=h;unfold zdI at h;refine jp (jI h (fun uC h=>?_) fun uC h=>?_)
  ·refine zq ?_;obtain ⟨x2,uP,h⟩:=bnd h;refine jr (ra 1 [.own za 57 19 [0,22] v,kI v2] rfl (zwc rfl zkj.el uP) rfl (ra 0 [.own za 57 19 [0,22] v,.ptr 19 (Int.toNat v2*za.size)] rfl (zDn (r:=za) (e:=57) (ℓ:=19) (C:=[0,22]) (xs:=v) (.tmp 14) x2 rfl ⟨Tryz.isAgg57,Tryz.sizeOf57⟩ uP) rfl (ral 2 [35] [.ptr 35 0,.rc za [0,22] x2] rfl (zio (r:=za) (b:=⟨35,57,[kI 0,kN,kN,kN]⟩) (off:=0) [kI x2.Number,.sl (Rp.int .u64) [0,22] x2.Words,.sl Rp.str [0,22] x2.Texts,.sl zd [0,22] x2.Subs] rfl Tryz.sizeOf57 rfl rfl (by rw [zk]<;>rfl) rfl) rfl rf))) ?_;obtain ⟨rv3,uT,h⟩:=bnd h;obtain ⟨x3,uW,h⟩:=bnd h;refine jk [2,3,4,5,14,15,16] [18,21,35] (zvb ⟨[(2,.ptr 18 0),(3,.ptr 21 0),(14,.own za 57 19 [0,22,37,38,39,40] (v.set (Int.toNat v2) rv3)),(15,kI (rv.length:Int)),(16,kI v2)],[⟨18,27,[kN,kN]⟩,⟨21,27,[.own za 57 19 [0,22,37,38,39,40] (v.set (Int.toNat v2) rv3),.own Rp.str 9 20 [] rv2]⟩]⟩ [.ev,.ev,.ev,.ex [35] [] [] (.ag [kI x2.Number,.sl (Rp.int .u64) [0,22] x2.Words,.sl Rp.str [0,22] x2.Texts,.sl zd [0,22] x2.Subs]) [],.ex [] [] [37,38,39] (.ag [kI rv3.Number,.own (Rp.int .u64) 83 37 [] rv3.Words,.own Rp.str 9 38 [] rv3.Texts,.own zd 27 39 [0,22,40] rv3.Subs]) [],.ex [] [] [] (.ptr 19 (Int.toNat v2*za.size)) [],.raw [4,0,1,4,10,14] [19] [] [.sl 22 (.own za 57 19 [0,22,37,38,39,40] (v.set (Int.toNat v2) rv3)),.sl 14 (.own za 57 19 [0,22,37,38,39,40] (v.set (Int.toNat v2) rv3)),.bx ⟨21,27,[.own za 57 19 [0,22,37,38,39,40] (v.set (Int.toNat v2) rv3),.own Rp.str 9 20 [] rv2]⟩]] [⟨[(.tmp 5,.ptr 35 0)],[⟨35,57,[kI x2.Number,.sl (Rp.int .u64) [0,22] x2.Words,.sl Rp.str [0,22] x2.Texts,.sl zd [0,22] x2.Subs]⟩],[]⟩,⟨[(.func 111,.lf (.val (.func (.func 111) #[] #[]))),(.tmp 24,.ag [kI x2.Number,.sl (Rp.int .u64) [0,22] x2.Words,.sl Rp.str [0,22] x2.Texts,.sl zd [0,22] x2.Subs])],[],[]⟩,⟨[(.tmp 22,.own za 57 19 [0,22] v),(.tmp 23,kI v2)],[],[]⟩,⟨[],[],[.sl 22 (.own za 57 19 [0,22] v),.sl 26 (.ptr 19 (Int.toNat v2*za.size)),.sl 25 (.ag [kI rv3.Number,.own (Rp.int .u64) 83 37 [] rv3.Words,.own Rp.str 9 38 [] rv3.Texts,.own zd 27 39 [0,22,40] rv3.Subs]),.sl 22 (.own za 57 19 [0,22] v),.sl 14 (.own za 57 19 [0,22] v),.bx ⟨21,27,[.own za 57 19 [0,22] v,.own Rp.str 9 20 [] rv2]⟩]⟩] [2,3,14,15,16] [18,21] zbq (by kernel_rfl) (by exact (lw_e (lw_e (lw_e (lw_x (zrK (zgR (b:=⟨35,57,[kI x2.Number,.sl (Rp.int .u64) [0,22] x2.Words,.sl Rp.str [0,22] x2.Texts,.sl zd [0,22] x2.Subs]⟩) [kI x2.Number,.sl (Rp.int .u64) [0,22] x2.Words,.sl Rp.str [0,22] x2.Texts,.sl zd [0,22] x2.Subs] rfl ⟨Tryz.isAgg57,Tryz.sizeOf57⟩ rfl rfl) rfl) (lw_x (zx.cons _ (zrK (zx.le (ins':=[(.tmp 24,.ag [kI x2.Number,.sl (Rp.int .u64) [0,22] x2.Words,.sl Rp.str [0,22] x2.Texts,.sl zd [0,22] x2.Subs])]) (zR (args:=[.tmp 24]) [.rc za [0,22] x2] [0,22] 34 rfl Tryz.call111 (wb uT) rfl rfl rfl rfl rfl) ⟨⟨rfl,zT za [0,22] x2 [kI x2.Number,.sl (Rp.int .u64) [0,22] x2.Words,.sl Rp.str [0,22] x2.Texts,.sl zd [0,22] x2.Subs] (by rw [zk]<;>rfl) rfl⟩,trivial⟩) rfl)) (lw_x (zrK (zwc rfl zkj.el uW) rfl) (lw_r (zyi (ins:=[(.tmp 22,.own za 57 19 [0,22] v),(.tmp 26,.ptr 19 (Int.toNat v2*za.size)),(.tmp 25,.ag [kI rv3.Number,.own (Rp.int .u64) 83 37 [] rv3.Words,.own Rp.str 9 38 [] rv3.Texts,.own zd 27 39 [0,22,40] rv3.Subs])]) [22,14] [(⟨21,27,[.own za 57 19 [0,22] v,.own Rp.str 9 20 [] rv2]⟩,⟨21,27,[.own za 57 19 [0,22,37,38,39,40] (v.set (Int.toNat v2) rv3),.own Rp.str 9 20 [] rv2]⟩)] (zGM (r:=za) (e:=57) (ℓ:=19) (C:=[0,22]) (xs:=v) (off:=(Int.toNat v2*za.size)) (.tmp 22) (Int.toNat v2) 0 x3 rv3 [0,22,37,38,39,40] rfl rfl Tryz.sizeOf57 rfl (zyP uW) rfl (zzr (by rw [zk]<;>rfl) _) rfl) ⟨trivial,trivial,trivial,trivial⟩ (fun _ _=>nofun) ⟨⟨rfl,rfl,rfl,⟨zic 0 rfl,zV rfl,trivial⟩⟩,trivial⟩) lw_0)))))))) (zQ (jp ?_)));cases h;exact zD (lk [2,3,14,15,16] [18,21] 37 22 (lk [2,3,14,15,16] [18,21] 38 22 (lk [2,3,14,15,16] [18,21] 39 22 (lk [2,3,14,15,16] [18,21] 40 22 (zaJ ⟨[(2,.ptr 18 0),(3,.ptr 21 0),(14,.own za 57 19 [0,22,22,22,22,22] (v.set (Int.toNat v2) rv3)),(15,kI (rv.length:Int)),(16,kI (IntKind.i64.wrap (v2+1)))],[⟨18,27,[kN,kN]⟩,⟨21,27,[.own za 57 19 [0,22,22,22,22,22] (v.set (Int.toNat v2) rv3),.own Rp.str 9 20 [] rv2]⟩]⟩ (by kernel_rfl) (zdk 14 (.own za 57 19 [0,22] (v.set (Int.toNat v2) rv3)) rfl (zdM _ _ _ _ _ _ rfl rfl) (zcU 21 0 (.own za 57 19 [0,22] (v.set (Int.toNat v2) rv3)) rfl rfl (zdM _ _ _ _ _ _ rfl rfl) lzz)))))))
  cases h;exact zX rfl lzz
 ·exact zaJ ⟨[(2,.ptr 18 0),(3,.ptr 21 0),(14,.own za 57 19 [0] rv),(15,kI (rv.length:Int)),(16,kI 0)],[⟨18,27,[kN,kN]⟩,⟨21,27,[.own za 57 19 [0] rv,.own Rp.str 9 20 [] rv2]⟩]⟩ (by kernel_rfl) (zdk 14 (.own za 57 19 [0,22] rv) rfl (zdM _ _ _ _ _ _ rfl rfl) (zcU 21 0 (.own za 57 19 [0,22] rv) rfl rfl (zdM _ _ _ _ _ _ rfl rfl) lzz))
 refine zaj _ rfl (jp ?_);cases h;exact zt (lk [2] [18] 18 2 (lk [2] [2] 19 3 (lk [2] [2] 20 5 (lk [2] [2] 22 4 lzz))))
theorem zqV (wa:∀{x:zc} {r:zc},xm x=some r->FnOk Tryz.prog 78 [.rc zd [0] x] [.ag [.own za 57 3 [0,4] r.Values,.own Rp.str 9 5 [] r.Unknown]]) (wb:∀{v:zb} {r:zb},xn v=some r->FnOk Tryz.prog 111 [.rc za [0] v] [.ag [kI r.Number,.own (Rp.int .u64) 83 3 [] r.Words,.own Rp.str 9 4 [] r.Texts,.own zd 27 5 [0,6] r.Subs]]) (h:zgs xm xn v=some r):FnOk Tryz.prog 111 [.rc za [0] v] [.ag [kI r.Number,.own (Rp.int .u64) 83 3 [] r.Words,.own Rp.str 9 4 [] r.Texts,.own zd 27 5 [0,6] r.Subs]]:=by
 refine zu (E:=⟨[(2,.ptr 2 0)],[⟨2,57,[kI r.Number,.own (Rp.int .u64) 83 3 [] r.Words,.own Rp.str 9 4 [] r.Texts,.own zd 27 5 [0,6] r.Subs]⟩]⟩) 34 Tryz.func111 rfl rfl rfl ⟨⟨_,_,rfl,rfl,rfl,⟨Tryz.isAgg57,Tryz.sizeOf57⟩⟩,trivial⟩ (fun Xt=>?_);refine zj ?_;unfold zgs at h;refine jr (ra 0 [.rc za [0] v] rfl (zbL 18 [kI v.Number,.sl (Rp.int .u64) [0] v.Words,.sl Rp.str [0] v.Texts,.sl zd [0] v.Subs] [0] rfl rfl rfl (by rw [zk]<;>rfl) rfl) rfl (rfl' [19])) ?_;obtain ⟨rv,uF,h⟩:=bnd h;obtain ⟨rv2,uQ,h⟩:=bnd h;obtain ⟨rv3,uT,h⟩:=bnd h;refine jd [2,3] [19,23] zbq (by exact (lw_e (lw_e (lw_e (lw_e (lx (lf1 142 (zR [.sl (Rp.int .u64) [0] v.Words] [0] 18 rfl Tryz.call142 (zkg uF) rfl rfl rfl rfl rfl)) (lw_e (lw_e (lx (lf1 110 (zR [.sl Rp.str [0] v.Texts] [0] 19 rfl Tryz.call110 (zgU uQ) rfl rfl rfl rfl rfl)) (lw_e (lw_e (lx (lf1 143 (zR [.sl zd [0] v.Subs] [0] 20 rfl Tryz.call143 (zjk uT) rfl rfl rfl rfl rfl)) (ly [kI v.Number,.own (Rp.int .u64) 83 20 [] rv,.own Rp.str 9 21 [] rv2,.own zd 27 22 [0] rv3] (zcs [kI v.Number,.own (Rp.int .u64) 83 20 [] rv,.own Rp.str 9 21 [] rv2,.own zd 27 22 [0] rv3] [kI v.Number,.own (Rp.int .u64) 83 20 [] rv,.own Rp.str 9 21 [] rv2,.own zd 27 22 [0] rv3] rfl zDF rfl) rfl (lx (zmp 23 [kI 0,kN,kN,kN] rfl Tryz.zeroValue57 rfl) (ly [.ptr 23 0,.ag [kI v.Number,.own (Rp.int .u64) 83 20 [] rv,.own Rp.str 9 21 [] rv2,.own zd 27 22 [0] rv3]] (zlK (b:=⟨23,57,[kI 0,kN,kN,kN]⟩) (off:=0) [kI v.Number,.own (Rp.int .u64) 83 20 [] rv,.own Rp.str 9 21 [] rv2,.own zd 27 22 [0] rv3] rfl Tryz.sizeOf57 rfl rfl rfl) rfl l0))))))))))))))) (jp (zq ?_));obtain ⟨q,uJ,h⟩:=bnd h;refine zW (fun s:((List zc)×Int)=>zbT xm rv3 s.1 s.2) (fun s=>⟨[(2,.ptr 19 0),(3,.ptr 23 0),(19,.own zd 27 22 [0,24] s.1),(20,kI (rv3.length:Int)),(21,kI s.2)],[⟨19,57,[kI 0,kN,kN,kN]⟩,⟨23,57,[kI v.Number,.own (Rp.int .u64) 83 20 [] rv,.own Rp.str 9 21 [] rv2,.own zd 27 22 [0,24] s.1]⟩]⟩) (fun o e a w=>e= .exit 0/\Sx ⟨⟨34,[]⟩,Xt,false,#[]⟩ ⟨[(2,.ptr 19 0),(3,.ptr 23 0)],[⟨19,57,[kI 0,kN,kN,kN]⟩,⟨23,57,[kI v.Number,.own (Rp.int .u64) 83 20 [] rv,.own Rp.str 9 21 [] rv2,.own zd 27 22 [0,24] o]⟩]⟩ a w) ?_ uJ ?_ ?_
 ·clear h;intro s o h;obtain ⟨v2,v3⟩:=s;refine zj ?_;replace h:zbT xm rv3 v2 v3=some o:=h;unfold zbT at h;refine jp (jI h (fun uC h=>?_) fun uC h=>?_)
  ·refine zq ?_;obtain ⟨x,uM,h⟩:=bnd h;refine jr (ra 1 [.own zd 27 22 [0,24] v2,kI v3] rfl (zwc rfl zkk.el uM) rfl (ra 0 [.own zd 27 22 [0,24] v2,.ptr 22 (Int.toNat v3*zd.size)] rfl (zDn (r:=zd) (e:=27) (ℓ:=22) (C:=[0,24]) (xs:=v2) (.tmp 19) x rfl ⟨Tryz.isAgg27,Tryz.sizeOf27⟩ uM) rfl (ral 2 [35] [.ptr 35 0,.rc zd [0,24] x] rfl (zio (r:=zd) (b:=⟨35,27,[kN,kN]⟩) (off:=0) [.sl za [0,24] x.Values,.sl Rp.str [0,24] x.Unknown] rfl Tryz.sizeOf27 rfl rfl (by rw [zi]<;>rfl) rfl) rfl rf))) ?_;obtain ⟨rv4,vb,h⟩:=bnd h;obtain ⟨x2,uP,h⟩:=bnd h;refine jk [2,3,4,5,19,20,21] [19,23,35] (zvb ⟨[(2,.ptr 19 0),(3,.ptr 23 0),(19,.own zd 27 22 [0,24,37,38,39] (v2.set (Int.toNat v3) rv4)),(20,kI (rv3.length:Int)),(21,kI v3)],[⟨19,57,[kI 0,kN,kN,kN]⟩,⟨23,57,[kI v.Number,.own (Rp.int .u64) 83 20 [] rv,.own Rp.str 9 21 [] rv2,.own zd 27 22 [0,24,37,38,39] (v2.set (Int.toNat v3) rv4)]⟩]⟩ [.ev,.ev,.ev,.ex [35] [] [] (.ag [.sl za [0,24] x.Values,.sl Rp.str [0,24] x.Unknown]) [],.ex [] [] [37,39] (.ag [.own za 57 37 [0,24,38] rv4.Values,.own Rp.str 9 39 [] rv4.Unknown]) [],.ex [] [] [] (.ptr 22 (Int.toNat v3*zd.size)) [],.raw [4,0,1,4,10,14] [22] [] [.sl 27 (.own zd 27 22 [0,24,37,38,39] (v2.set (Int.toNat v3) rv4)),.sl 19 (.own zd 27 22 [0,24,37,38,39] (v2.set (Int.toNat v3) rv4)),.bx ⟨23,57,[kI v.Number,.own (Rp.int .u64) 83 20 [] rv,.own Rp.str 9 21 [] rv2,.own zd 27 22 [0,24,37,38,39] (v2.set (Int.toNat v3) rv4)]⟩]] [⟨[(.tmp 5,.ptr 35 0)],[⟨35,27,[.sl za [0,24] x.Values,.sl Rp.str [0,24] x.Unknown]⟩],[]⟩,⟨[(.func 78,.lf (.val (.func (.func 78) #[] #[]))),(.tmp 29,.ag [.sl za [0,24] x.Values,.sl Rp.str [0,24] x.Unknown])],[],[]⟩,⟨[(.tmp 27,.own zd 27 22 [0,24] v2),(.tmp 28,kI v3)],[],[]⟩,⟨[],[],[.sl 27 (.own zd 27 22 [0,24] v2),.sl 31 (.ptr 22 (Int.toNat v3*zd.size)),.sl 30 (.ag [.own za 57 37 [0,24,38] rv4.Values,.own Rp.str 9 39 [] rv4.Unknown]),.sl 27 (.own zd 27 22 [0,24] v2),.sl 19 (.own zd 27 22 [0,24] v2),.bx ⟨23,57,[kI v.Number,.own (Rp.int .u64) 83 20 [] rv,.own Rp.str 9 21 [] rv2,.own zd 27 22 [0,24] v2]⟩]⟩] [2,3,19,20,21] [19,23] zbq (by kernel_rfl) (by exact (lw_e (lw_e (lw_e (lw_x (zrK (zgR (b:=⟨35,27,[.sl za [0,24] x.Values,.sl Rp.str [0,24] x.Unknown]⟩) [.sl za [0,24] x.Values,.sl Rp.str [0,24] x.Unknown] rfl ⟨Tryz.isAgg27,Tryz.sizeOf27⟩ rfl rfl) rfl) (lw_x (zx.cons _ (zrK (zx.le (ins':=[(.tmp 29,.ag [.sl za [0,24] x.Values,.sl Rp.str [0,24] x.Unknown])]) (zR (args:=[.tmp 29]) [.rc zd [0,24] x] [0,24] 34 rfl Tryz.call78 (wa vb) rfl rfl rfl rfl rfl) ⟨⟨rfl,zT zd [0,24] x [.sl za [0,24] x.Values,.sl Rp.str [0,24] x.Unknown] (by rw [zi]<;>rfl) rfl⟩,trivial⟩) rfl)) (lw_x (zrK (zwc rfl zkk.el uP) rfl) (lw_r (zyi (ins:=[(.tmp 27,.own zd 27 22 [0,24] v2),(.tmp 31,.ptr 22 (Int.toNat v3*zd.size)),(.tmp 30,.ag [.own za 57 37 [0,24,38] rv4.Values,.own Rp.str 9 39 [] rv4.Unknown])]) [27,19] [(⟨23,57,[kI v.Number,.own (Rp.int .u64) 83 20 [] rv,.own Rp.str 9 21 [] rv2,.own zd 27 22 [0,24] v2]⟩,⟨23,57,[kI v.Number,.own (Rp.int .u64) 83 20 [] rv,.own Rp.str 9 21 [] rv2,.own zd 27 22 [0,24,37,38,39] (v2.set (Int.toNat v3) rv4)]⟩)] (zGM (r:=zd) (e:=27) (ℓ:=22) (C:=[0,24]) (xs:=v2) (off:=(Int.toNat v3*zd.size)) (.tmp 27) (Int.toNat v3) 0 x2 rv4 [0,24,37,38,39] rfl rfl Tryz.sizeOf27 rfl (zyP uP) rfl (zzr (by rw [zi]<;>rfl) _) rfl) ⟨trivial,trivial,trivial,trivial⟩ (fun _ _=>nofun) ⟨⟨rfl,rfl,rfl,⟨zV rfl,zV rfl,zV rfl,zic 0 rfl,trivial⟩⟩,trivial⟩) lw_0)))))))) (zQ (jp ?_)));cases h;exact zD (lk [2,3,19,20,21] [19,23] 37 24 (lk [2,3,19,20,21] [19,23] 38 24 (lk [2,3,19,20,21] [19,23] 39 24 (zaJ ⟨[(2,.ptr 19 0),(3,.ptr 23 0),(19,.own zd 27 22 [0,24,24,24,24] (v2.set (Int.toNat v3) rv4)),(20,kI (rv3.length:Int)),(21,kI (IntKind.i64.wrap (v3+1)))],[⟨19,57,[kI 0,kN,kN,kN]⟩,⟨23,57,[kI v.Number,.own (Rp.int .u64) 83 20 [] rv,.own Rp.str 9 21 [] rv2,.own zd 27 22 [0,24,24,24,24] (v2.set (Int.toNat v3) rv4)]⟩]⟩ (by kernel_rfl) (zdk 19 (.own zd 27 22 [0,24] (v2.set (Int.toNat v3) rv4)) rfl (zdM _ _ _ _ _ _ rfl rfl) (zcU 23 3 (.own zd 27 22 [0,24] (v2.set (Int.toNat v3) rv4)) rfl rfl (zdM _ _ _ _ _ _ rfl rfl) lzz))))))
  cases h;exact zX rfl lzz
 ·exact zaJ ⟨[(2,.ptr 19 0),(3,.ptr 23 0),(19,.own zd 27 22 [0] rv3),(20,kI (rv3.length:Int)),(21,kI 0)],[⟨19,57,[kI 0,kN,kN,kN]⟩,⟨23,57,[kI v.Number,.own (Rp.int .u64) 83 20 [] rv,.own Rp.str 9 21 [] rv2,.own zd 27 22 [0] rv3]⟩]⟩ (by kernel_rfl) (zdk 19 (.own zd 27 22 [0,24] rv3) rfl (zdM _ _ _ _ _ _ rfl rfl) (zcU 23 3 (.own zd 27 22 [0,24] rv3) rfl rfl (zdM _ _ _ _ _ _ rfl rfl) lzz))
 refine zaj _ rfl (jp ?_);cases h;exact zt (lk [2] [19] 19 2 (lk [2] [2] 20 3 (lk [2] [2] 21 4 (lk [2] [2] 22 5 (lk [2] [2] 24 6 lzz)))))
theorem zjy (uO:Nat):(∀{x:zc} {r:zc},zhI uO x=some r->FnOk Tryz.prog 78 [.rc zd [0] x] [.ag [.own za 57 3 [0,4] r.Values,.own Rp.str 9 5 [] r.Unknown]])/\(∀{v:zb} {r:zb},zga uO v=some r->FnOk Tryz.prog 111 [.rc za [0] v] [.ag [kI r.Number,.own (Rp.int .u64) 83 3 [] r.Words,.own Rp.str 9 4 [] r.Texts,.own zd 27 5 [0,6] r.Subs]]):=by
  induction uO with
  | zero=>exact ⟨fun h=>absurd h nofun,fun h=>absurd h nofun⟩
  | succ uO ih=>exact ⟨fun h=>zuR (fun hh=>ih.1 hh) (fun hh=>ih.2 hh) h,fun h=>zqV (fun hh=>ih.1 hh) (fun hh=>ih.2 hh) h⟩
theorem zwV (h:zhI uO x=some r):FnOk Tryz.prog 78 [.rc zd [0] x] [.ag [.own za 57 3 [0,4] r.Values,.own Rp.str 9 5 [] r.Unknown]]:=(zjy uO).1 h
theorem zjR (h:zcu slices=some r):FnOk Tryz.prog 112 [.sl (Rp.list (Rp.int .u64)) [0] slices] [.own (Rp.int .u64) 83 2 [] r]:=by
 refine zu (E:=⟨[(2,.own (Rp.int .u64) 83 2 [] r)],[]⟩) 36 Tryz.func112 rfl rfl rfl ⟨rfl,trivial⟩ (fun Xt=>?_);refine zj ?_;unfold zcu at h;refine jp (jp (jp (zq ?_)));obtain ⟨q,uJ,h⟩:=bnd h;refine zW (fun s:(Int×Int)=>zM slices s.1 s.2) (fun s=>⟨[(0,.sl (Rp.list (Rp.int .u64)) [0] slices),(3,kI s.1),(9,.sl (Rp.list (Rp.int .u64)) [0] slices),(10,kI (slices.length:Int)),(11,kI s.2)],[]⟩) (fun o e a w=>e= .exit 0/\Sx ⟨⟨36,[]⟩,Xt,false,#[]⟩ ⟨[(0,.sl (Rp.list (Rp.int .u64)) [0] slices),(3,kI o)],[]⟩ a w) ?_ uJ lzz ?_
 ·clear h;intro s o h;obtain ⟨size,v⟩:=s;refine zj ?_;replace h:zM slices size v=some o:=h;unfold zM at h;refine jp (jI h (fun uC h=>?_) fun uC h=>?_)
  ·refine zq ?_;obtain ⟨x,uM,h⟩:=bnd h;refine jr (ra 0 [.sl (Rp.list (Rp.int .u64)) [0] slices,kI v] rfl (zP rfl zCJ.el (zw _ _ _) uM) rfl (ra 0 [.ep (Rp.list (Rp.int .u64)) [0] x 0] rfl (zbv (Rp.int .u64) x rfl rfl rfl) rfl rf)) (jp (jp (jI h (fun uD h=>?_) fun uD h=>?_)))
   · exact absurd h nofun
   refine zQ (jp ?_);cases h;exact zD lzz
  cases h;exact zX rfl lzz
 refine zaj _ rfl ?_;obtain ⟨rv,uF,h⟩:=bnd h;refine jr (rl 1 [1] 12 Tryz.call144 (zkm uF) rf) (jp (zq ?_));obtain ⟨q2,u0,h⟩:=bnd h;refine zW (fun s:((List Int)×Int)=>zZ slices s.1 s.2) (fun s=>⟨[(6,.own (Rp.int .u64) 83 14 [] s.1),(25,.sl (Rp.list (Rp.int .u64)) [0] slices),(26,kI (slices.length:Int)),(27,kI s.2)],[]⟩) (fun o e a w=>e= .exit 2/\Sx ⟨⟨36,[]⟩,Xt,false,#[]⟩ ⟨[(6,.own (Rp.int .u64) 83 14 [] o)],[]⟩ a w) ?_ u0 lzz ?_
 ·clear h;intro s o h;obtain ⟨newslice,v2⟩:=s;refine zj ?_;replace h:zZ slices newslice v2=some o:=h;unfold zZ at h;refine jp (jI h (fun uE h=>?_) fun uE h=>?_)
  ·refine zq ?_;obtain ⟨x2,uP,h⟩:=bnd h;refine jr (ra 0 [.sl (Rp.list (Rp.int .u64)) [0] slices,kI v2] rfl (zP rfl zCJ.el (zw _ _ _) uP) rfl (ra 0 [.ep (Rp.list (Rp.int .u64)) [0] x2 0] rfl (zbv (Rp.int .u64) x2 rfl rfl rfl) rfl rf)) ?_;obtain ⟨v3,vc,h⟩:=bnd h;refine jr (ra 2 [.own (Rp.int .u64) 83 14 [] newslice,.sl (Rp.int .u64) [0] x2] rfl (zgx 14 [] rfl zpz.el rfl (zcI _ _ _ _ _) (zw _ _ _) vc (.inl (zua _)) rfl) rfl rf) (zQ (jp ?_));cases h;exact zD lzz
  cases h;exact zX rfl lzz
 refine zaj _ rfl (jp ?_);obtain rfl:=(sj h);exact zt (lk [2] [] 14 2 lzz)
theorem zgw (h:zbG slices=some r):FnOk Tryz.prog 82 [.sl (Rp.list Rp.str) [0] slices] [.own Rp.str 9 2 [] r]:=by
 refine zu (E:=⟨[(2,.own Rp.str 9 2 [] r)],[]⟩) 36 Tryz.func82 rfl rfl rfl ⟨rfl,trivial⟩ (fun Xt=>?_);refine zj ?_;unfold zbG at h;refine jp (jp (jp (zq ?_)));obtain ⟨q,uJ,h⟩:=bnd h;refine zW (fun s:(Int×Int)=>zL slices s.1 s.2) (fun s=>⟨[(0,.sl (Rp.list Rp.str) [0] slices),(3,kI s.1),(9,.sl (Rp.list Rp.str) [0] slices),(10,kI (slices.length:Int)),(11,kI s.2)],[]⟩) (fun o e a w=>e= .exit 0/\Sx ⟨⟨36,[]⟩,Xt,false,#[]⟩ ⟨[(0,.sl (Rp.list Rp.str) [0] slices),(3,kI o)],[]⟩ a w) ?_ uJ lzz ?_
 ·clear h;intro s o h;obtain ⟨size,v⟩:=s;refine zj ?_;replace h:zL slices size v=some o:=h;unfold zL at h;refine jp (jI h (fun uC h=>?_) fun uC h=>?_)
  ·refine zq ?_;obtain ⟨x,uM,h⟩:=bnd h;refine jr (ra 0 [.sl (Rp.list Rp.str) [0] slices,kI v] rfl (zP rfl zzE.el (zw _ _ _) uM) rfl (ra 0 [.ep (Rp.list Rp.str) [0] x 0] rfl (zbv Rp.str x rfl rfl rfl) rfl rf)) (jp (jp (jI h (fun uD h=>?_) fun uD h=>?_)))
   · exact absurd h nofun
   refine zQ (jp ?_);cases h;exact zD lzz
  cases h;exact zX rfl lzz
 refine zaj _ rfl ?_;obtain ⟨rv,uF,h⟩:=bnd h;refine jr (rl 1 [1] 12 Tryz.call116 (zkl uF) rf) (jp (zq ?_));obtain ⟨q2,u0,h⟩:=bnd h;refine zW (fun s:((List Str)×Int)=>zY slices s.1 s.2) (fun s=>⟨[(6,.own Rp.str 9 14 [] s.1),(25,.sl (Rp.list Rp.str) [0] slices),(26,kI (slices.length:Int)),(27,kI s.2)],[]⟩) (fun o e a w=>e= .exit 2/\Sx ⟨⟨36,[]⟩,Xt,false,#[]⟩ ⟨[(6,.own Rp.str 9 14 [] o)],[]⟩ a w) ?_ u0 lzz ?_
 ·clear h;intro s o h;obtain ⟨newslice,v2⟩:=s;refine zj ?_;replace h:zY slices newslice v2=some o:=h;unfold zY at h;refine jp (jI h (fun uE h=>?_) fun uE h=>?_)
  ·refine zq ?_;obtain ⟨x2,uP,h⟩:=bnd h;refine jr (ra 0 [.sl (Rp.list Rp.str) [0] slices,kI v2] rfl (zP rfl zzE.el (zw _ _ _) uP) rfl (ra 0 [.ep (Rp.list Rp.str) [0] x2 0] rfl (zbv Rp.str x2 rfl rfl rfl) rfl rf)) ?_;obtain ⟨v3,vc,h⟩:=bnd h;refine jr (ra 2 [.own Rp.str 9 14 [] newslice,.sl Rp.str [0] x2] rfl (zgx 14 [] rfl zjA.el rfl (zcI _ _ _ _ _) (zw _ _ _) vc (.inl zub) rfl) rfl rf) (zQ (jp ?_));cases h;exact zD lzz
  cases h;exact zX rfl lzz
 refine zaj _ rfl (jp ?_);obtain rfl:=(sj h);exact zt (lk [2] [] 14 2 lzz)
theorem ziV (h:zbM slices=some r):FnOk Tryz.prog 113 [.sl (Rp.list zd) [0] slices] [.own zd 27 2 [0] r]:=by
 refine zu (E:=⟨[(2,.own zd 27 2 [0] r)],[]⟩) 36 Tryz.func113 rfl rfl rfl ⟨rfl,trivial⟩ (fun Xt=>?_);refine zj ?_;unfold zbM at h;refine jp (jp (jp (zq ?_)));obtain ⟨q,uJ,h⟩:=bnd h;refine zW (fun s:(Int×Int)=>zI slices s.1 s.2) (fun s=>⟨[(0,.sl (Rp.list zd) [0] slices),(3,kI s.1),(9,.sl (Rp.list zd) [0] slices),(10,kI (slices.length:Int)),(11,kI s.2)],[]⟩) (fun o e a w=>e= .exit 0/\Sx ⟨⟨36,[]⟩,Xt,false,#[]⟩ ⟨[(0,.sl (Rp.list zd) [0] slices),(3,kI o)],[]⟩ a w) ?_ uJ lzz ?_
 ·clear h;intro s o h;obtain ⟨size,v⟩:=s;refine zj ?_;replace h:zI slices size v=some o:=h;unfold zI at h;refine jp (jI h (fun uC h=>?_) fun uC h=>?_)
  ·refine zq ?_;obtain ⟨x,uM,h⟩:=bnd h;refine jr (ra 0 [.sl (Rp.list zd) [0] slices,kI v] rfl (zP rfl zCK.el (zw _ _ _) uM) rfl (ra 0 [.ep (Rp.list zd) [0] x 0] rfl (zbv zd x rfl rfl rfl) rfl rf)) (jp (jp (jI h (fun uD h=>?_) fun uD h=>?_)))
   · exact absurd h nofun
   refine zQ (jp ?_);cases h;exact zD lzz
  cases h;exact zX rfl lzz
 refine zaj _ rfl ?_;obtain ⟨rv,uF,h⟩:=bnd h;refine jr (rl 1 [1] 12 Tryz.call145 (zju uF) rf) (jp (zq ?_));obtain ⟨q2,u0,h⟩:=bnd h;refine zW (fun s:((List zc)×Int)=>zS slices s.1 s.2) (fun s=>⟨[(6,.own zd 27 14 [0] s.1),(25,.sl (Rp.list zd) [0] slices),(26,kI (slices.length:Int)),(27,kI s.2)],[]⟩) (fun o e a w=>e= .exit 2/\Sx ⟨⟨36,[]⟩,Xt,false,#[]⟩ ⟨[(6,.own zd 27 14 [0] o)],[]⟩ a w) ?_ u0 ?_ ?_
 ·clear h;intro s o h;obtain ⟨newslice,v2⟩:=s;refine zj ?_;replace h:zS slices newslice v2=some o:=h;unfold zS at h;refine jp (jI h (fun uE h=>?_) fun uE h=>?_)
  ·refine zq ?_;obtain ⟨x2,uP,h⟩:=bnd h;refine jr (ra 0 [.sl (Rp.list zd) [0] slices,kI v2] rfl (zP rfl zCK.el (zw _ _ _) uP) rfl (ra 0 [.ep (Rp.list zd) [0] x2 0] rfl (zbv zd x2 rfl rfl rfl) rfl rf)) ?_;obtain ⟨v3,vc,h⟩:=bnd h;refine jr (ra 2 [.own zd 27 14 [0] newslice,.sl zd [0] x2] rfl (zgx 14 [0] rfl zkk.el rfl (zcI _ _ _ _ _) (zw _ _ _) vc (.inr rfl) rfl) rfl rf) (zQ (jp ?_));cases h;exact zD lzz
  cases h;exact zX rfl lzz
 ·exact zaJ ⟨[(6,.own zd 27 14 [] rv),(25,.sl (Rp.list zd) [0] slices),(26,kI (slices.length:Int)),(27,kI 0)],[]⟩ (by kernel_rfl) (zdk 6 (.own zd 27 14 [0] rv) rfl (zdM _ _ _ _ _ _ rfl rfl) lzz)
 refine zaj _ rfl (jp ?_);obtain rfl:=(sj h);exact zt (lk [2] [] 14 2 lzz)
theorem zrz (h:zhn uO l=some r):FnOk Tryz.prog 9 [.sl zd [0] l] [kB r]:=by
 refine zu (E:=⟨[(2,kB r)],[]⟩) 16 Tryz.func9 rfl rfl rfl ⟨rfl,trivial⟩ (fun Xt=>?_);refine zj ?_;unfold zhn at h;refine jp (jp (zq ?_));obtain ⟨q,uJ,h⟩:=bnd h;refine zW (fun s:Int=>zbr uO l s) (fun s=>⟨[(0,.sl zd [0] l),(3,kI s)],[]⟩) (fun o e a w=>match o with| (.inl v_)=>e= .exit 0/\Sx ⟨⟨16,[]⟩,Xt,false,#[]⟩ ⟨[],[]⟩ a w| (.inr v_)=>e= .ret/\Sx ⟨⟨16,[]⟩,Xt,false,#[]⟩ ⟨[(2,kB true)],[]⟩ a w) ?_ uJ lzz ?_
 ·clear h;intro i o h;refine zj ?_;replace h:zbr uO l i=some o:=h;unfold zbr at h;refine jp (jI h (fun uC h=>?_) fun uC h=>?_)
  ·refine zq ?_;obtain ⟨x,uM,h⟩:=bnd h;obtain ⟨rv,uF,h⟩:=bnd h;refine jr (ra 2 [.sl zd [0] l,kI i] rfl (zP rfl zkk.el (zw _ _ _) uM) rfl (ra 0 [.ep zd [0] x 0] rfl (zcM rfl ⟨Tryz.isAgg27,Tryz.sizeOf27⟩) rfl (rl 0 [0] 10 Tryz.call35 (zqf uF) rf))) (jI h (fun uD h=>?_) fun uD h=>?_)
   ·refine jp ?_;cases h;exact zaK lzz
   refine zQ (jp ?_);cases h;exact zD lzz
  cases h;exact zX rfl lzz
 rcases q with u| u2
 ·refine zaj _ rfl (jp ?_);obtain rfl:=(sj h);exact zt lzz
 obtain rfl:=(sj h);exact zcN lzz
theorem zpI (h:zgi sv i k=some r):FnOk Tryz.prog 150 [.sl zh [0] sv,kI i,kI k] [kI r]:=by
 refine zu (E:=⟨[(6,kI r)],[]⟩) 119 Tryz.func150 rfl rfl rfl ⟨rfl,trivial⟩ (fun Xt=>?_);refine zj ?_;unfold zgi at h;refine jp ?_;obtain ⟨x,uM,h⟩:=bnd h;obtain ⟨x2,uP,h⟩:=bnd h;refine jr (ra 2 [.sl zh [0] sv,kI i] rfl (zP rfl ziM.el (zw _ _ _) uM) rfl (ra 1 [.ep zh [0] x 1] rfl (zbv zf x.Fields rfl rfl rfl) rfl (ra 1 [.sl zf [0] x.Fields,kI k] rfl (zP rfl zoF.el (zw _ _ _) uP) rfl (ra 0 [.ep zf [0] x2 0] rfl (zcM rfl ⟨Tryz.isAgg65,Tryz.sizeOf65⟩) rfl (rfl' [11]))))) (jp (jp (zq ?_)));obtain ⟨q,uJ,h⟩:=bnd h;refine zW (fun s:(Bool×Bool×Int)=>zbn i k sv x2 s.1 s.2.1 s.2.2) (fun s=>⟨[(0,.sl zh [0] sv),(1,kI i),(2,kI k),(7,.ptr 11 0),(8,kB s.1),(9,kB s.2.1),(10,kI s.2.2)],[⟨11,65,[kS x2.Name,kI x2.Number,kI x2.Kind,kB x2.Repeated,kB x2.Packed,kI x2.Of]⟩]⟩) (fun o e a w=>e= .exit 0/\Sx ⟨⟨119,[]⟩,Xt,false,#[]⟩ ⟨[(0,.sl zh [0] sv),(7,.ptr 11 0),(8,kB o.1),(9,kB o.2)],[⟨11,65,[kS x2.Name,kI x2.Number,kI x2.Kind,kB x2.Repeated,kB x2.Packed,kI x2.Of]⟩]⟩ a w) ?_ uJ lzz ?_
 ·clear h;intro s o h;obtain ⟨vh,uV,j⟩:=s;refine zj ?_;replace h:zbn i k sv x2 vh uV j=some o:=h;unfold zbn at h;refine jp (jI h (fun uC h=>?_) fun uC h=>?_)
  ·refine zq ?_;obtain ⟨g,uB,h⟩:=bnd h;refine zek (R:=fun e a w=>e= .normal/\Sx ⟨⟨119,[]⟩,Xt,false,#[]⟩ ⟨[(0,.sl zh [0] sv),(1,kI i),(2,kI k),(7,.ptr 11 0),(8,kB g),(9,kB uV),(10,kI j)],[⟨11,65,[kS x2.Name,kI x2.Number,kI x2.Kind,kB x2.Repeated,kB x2.Packed,kI x2.Of]⟩]⟩ a w) ?_ (zgm ?_)
   ·refine zj ?_;rcases yi vh with uD| uD
    ·replace uB:=iteT uB uD;cases uB;exact jd [0,1,2,7,8,9,10] [11] zbq (by exact (lw_e (lx (zaT ⟨[(24,kB vh)],[]⟩ (by kernel_rfl) uD) l0))) (zD lzz)
    replace uB:=iteF uB uD;obtain ⟨x3,uW,uB⟩:=bnd uB;obtain ⟨x4,va,uB⟩:=bnd uB;cases uB;exact jd [0,1,2,7,8,9,10] [11] zbq (by exact (lw_e (lx (zaT ⟨[(24,kB vh)],[]⟩ (by kernel_rfl) uD) (lw_e (lw_e (ly [.sl zh [0] sv,kI i] (zP rfl ziM.el (zw _ _ _) uW) rfl (lw_e (ly [.ep zh [0] x3 1] (zbv zf x3.Fields rfl rfl rfl) rfl (lw_e (ly [.sl zf [0] x3.Fields,kI j] (zP rfl zoF.el (zw _ _ _) va) rfl l0)))))))))) (zD lzz)
   obtain ⟨g2,uH,h⟩:=bnd h;refine zek (R:=fun e a w=>e= .normal/\Sx ⟨⟨119,[]⟩,Xt,false,#[]⟩ ⟨[(0,.sl zh [0] sv),(1,kI i),(2,kI k),(7,.ptr 11 0),(8,kB g),(9,kB g2),(10,kI j)],[⟨11,65,[kS x2.Name,kI x2.Number,kI x2.Kind,kB x2.Repeated,kB x2.Packed,kI x2.Of]⟩]⟩ a w) ?_ (zgm ?_)
   ·refine zj ?_;rcases yi uV with uE| uE
    ·replace uH:=iteT uH uE;cases uH;exact jd [0,1,2,7,8,9,10] [11] zbq (by exact (lw_e (lx (zaT ⟨[(39,kB uV)],[]⟩ (by kernel_rfl) uE) l0))) (zD lzz)
    replace uH:=iteF uH uE;obtain ⟨x5,vi,uH⟩:=bnd uH;obtain ⟨x6,vo,uH⟩:=bnd uH;cases uH;exact jd [0,1,2,7,8,9,10] [11] zbq (by exact (lw_e (lx (zaT ⟨[(39,kB uV)],[]⟩ (by kernel_rfl) uE) (lw_e (lw_e (ly [.sl zh [0] sv,kI i] (zP rfl ziM.el (zw _ _ _) vi) rfl (lw_e (ly [.ep zh [0] x5 1] (zbv zf x5.Fields rfl rfl rfl) rfl (lw_e (ly [.sl zf [0] x5.Fields,kI j] (zP rfl zoF.el (zw _ _ _) vo) rfl l0)))))))))) (zD lzz)
   refine zQ (jp ?_);cases h;exact zD lzz
  cases h;exact zX rfl lzz
 refine zaj _ rfl ?_;obtain ⟨rv,uF,h⟩:=bnd h;refine jr (rl 2 [1] 11 Tryz.call149 (zkY uF) rf) (jI h (fun uI h=>?_) fun uI h=>?_)
 ·refine jp ?_;cases h;exact zt lzz
 refine jp (jI h (fun uL h=>?_) fun uL h=>?_)
 ·refine jp ?_;cases h;exact zt lzz
 refine zO ⟨[(0,.sl zh [0] sv),(7,.ptr 11 0),(9,kB q.2),(76,kB ((decide (x2.Number<1))|| ((decide (x2.Number>536870911))|| ((decide (x2.Number>=19000))&&(decide (x2.Number<20000))))))],[⟨11,65,[kS x2.Name,kI x2.Number,kI x2.Kind,kB x2.Repeated,kB x2.Packed,kI x2.Of]⟩]⟩ ?_ ?_
 ·refine (rsl 4 [] 62 (decide (x2.Number<1)) (fun uN=>?_) (fun uN=>?_))
  · exact (rbl [] 76 true rfl (by rw [uN]<;>rfl))
  refine (rsl 5 [] 67 (decide (x2.Number>536870911)) (fun uS=>?_) (fun uS=>?_))
  · exact (rbl [] 76 true rfl (by rw [uN,uS]<;>rfl))
  refine (rsl 4 [] 71 (decide (x2.Number>=19000)) (fun uX=>?_) (fun uX=>?_))
  · exact (rbl [] 76 (decide (x2.Number<20000)) rfl (by rw [uN,uS,uX]<;>rfl))
  exact (rbl [] 76 false rfl (by rw [uN,uS,uX]<;>rfl))
 refine jI h (fun uU h=>?_) fun uU h=>?_
 ·refine jp ?_;cases h;exact zt lzz
 refine jp (jI h (fun u9 h=>?_) fun u9 h=>?_)
 ·refine jp ?_;cases h;exact zt lzz
 obtain ⟨rv2,uQ,h⟩:=bnd h;refine jr (rl 2 [1] 11 Tryz.call59 (zim uQ) rf) (jI h (fun vl h=>?_) fun vl h=>?_)
 ·refine jp ?_;cases h;exact zt lzz
 obtain ⟨g3,uR,h⟩:=bnd h;refine zO ⟨[(0,.sl zh [0] sv),(7,.ptr 11 0),(93,kB g3)],[⟨11,65,[kS x2.Name,kI x2.Number,kI x2.Kind,kB x2.Repeated,kB x2.Packed,kI x2.Of]⟩]⟩ ?_ ?_
 ·refine (rsl 3 [] 84 x2.Packed (fun vg=>?_) (fun vg=>?_))
  ·replace uR:=iteT uR vg;refine (rsl 3 [] 87 x2.Repeated (fun ve=>?_) (fun ve=>?_))
   ·replace uR:=iteT uR ve;obtain ⟨rv3,uT,uR⟩:=bnd uR;cases uR;exact (rl 2 [1] 11 Tryz.call60 (zhL uT) (rel [] lzz))
   replace uR:=iteF uR ve;cases uR;exact (rel [] lzz)
  replace uR:=iteF uR vg;cases uR;exact (rel [] lzz)
 refine jI h (fun vk h=>?_) fun vk h=>?_
 ·refine jp ?_;cases h;exact zt lzz
 refine zO ⟨[(118,kB (if (x2.Kind==17) then ((decide (x2.Of<0))|| ((decide (x2.Of>=(sv.length:Int)))|| ((x2.Kind !=17)&&(x2.Of !=0)))) else ((x2.Kind !=17)&&(x2.Of !=0))))],[]⟩ ?_ ?_
 ·refine (rsl 4 [] 97 (x2.Kind==17) (fun vn=>?_) (fun vn=>?_))
  ·refine (rsl 4 [] 101 (decide (x2.Of<0)) (fun vr=>?_) (fun vr=>?_))
   · exact (rbl [] 118 true rfl (by rw [vn,vr]<;>rfl))
   refine (rsl 8 [] 109 (decide (x2.Of>=(sv.length:Int))) (fun vp=>?_) (fun vp=>?_))
   · exact (rbl [] 118 true rfl (by rw [vn,vr,vp]<;>rfl))
   refine (rsl 4 [] 113 (x2.Kind !=17) (fun vt=>?_) (fun vt=>?_))
   · exact (rbl [] 118 (x2.Of !=0) rfl (by rw [vn,vr,vp,vt]<;>rfl))
   exact (rbl [] 118 false rfl (by rw [vn,vr,vp,vt]<;>rfl))
  refine (rsl 16 [] 113 (x2.Kind !=17) (fun vx=>?_) (fun vx=>?_))
  · exact (rbl [] 118 (x2.Of !=0) rfl (by rw [vn,vx]<;>rfl))
  exact (rbl [] 118 false rfl (by rw [vn,vx]<;>rfl))
 refine jI h (fun vL h=>?_) fun vL h=>?_
 ·refine jp ?_;cases h;exact zt lzz
 refine jp ?_;cases h;exact zt lzz
theorem zpG (h:zgg k wv=some r):FnOk Tryz.prog 61 [kI k,kU wv] [kU r]:=by
 refine zu (E:=⟨[(4,kU r)],[]⟩) 25 Tryz.func61 rfl rfl rfl ⟨rfl,trivial⟩ (fun Xt=>?_);refine zj ?_;unfold zgg at h;refine jp (jp (zq (jp ?_)));obtain ⟨p,vm,h⟩:=bnd h;refine zek (R:=fun e a w=>e= .normal/\Sx ⟨⟨25,[]⟩,Xt,false,#[]⟩ ⟨[(1,kU wv),(5,kI k),(6,kB p)],[]⟩ a w) ?_ ?_
 ·replace h:=vm;refine zj (jI h (fun uC h=>?_) fun uC h=>?_)
  ·cases h;exact zD lzz
  refine jp ?_;cases h;exact zD lzz
 refine zgm (jI h (fun uD h=>?_) fun uD h=>?_)
 ·obtain ⟨rv,uF,h⟩:=bnd h;obtain ⟨rv2,uQ,h⟩:=bnd h;refine jr (rl 1 [1] 9 Tryz.call93 (zoP uF) (rl 0 [1] 9 Tryz.call92 (zqg uQ) rf)) ?_;obtain rfl:=(sj h);exact zt lzz
 refine jp ?_;obtain ⟨p2,vB,h⟩:=bnd h;refine zek (R:=fun e a w=>e= .normal/\Sx ⟨⟨25,[]⟩,Xt,false,#[]⟩ ⟨[(1,kU wv),(5,kI k),(12,kB p2)],[]⟩ a w) ?_ ?_
 ·replace h:=vB;refine zj (jI h (fun uE h=>?_) fun uE h=>?_)
  ·cases h;exact zD lzz
  refine jp (jI h (fun uI h=>?_) fun uI h=>?_)
  ·cases h;exact zD lzz
  refine jp (jI h (fun uL h=>?_) fun uL h=>?_)
  ·cases h;exact zD lzz
  refine jp (jI h (fun uN h=>?_) fun uN h=>?_)
  ·cases h;exact zD lzz
  refine jp ?_;cases h;exact zD lzz
 refine zgm (jI h (fun uS h=>?_) fun uS h=>?_)
 ·refine jp ?_;cases h;exact zt lzz
 refine jp (jI h (fun uX h=>?_) fun uX h=>?_)
 ·refine jp (jI h (fun uU h=>?_) fun uU h=>?_)
  ·refine jp ?_;cases h;exact zt lzz
  refine jp ?_;cases h;exact zt lzz
 refine zQ (jp ?_);obtain rfl:=(sj h);exact zt lzz
end Go.Proofs.YtekgmimingolbaaGreat
