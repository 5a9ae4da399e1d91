/-
  The Go functions do what the plain functions say. No condition.
-/
import Derived.Test.YtcbkcblkecmjnaaGreatx3T
namespace Go.Proofs.YtcbkcblkecmjnaaGreat
open Go Go.RowKit
set_option linter.unusedVariables false
set_option maxRecDepth 100000
set_option maxHeartbeats 3200000
theorem zlD {wv:Int} {r:Int} (h:zdJ wv=some r):FnOk Tryz.prog 85 [kU wv] [kI r]:=by
 refine zC (E:=⟨[(2,kI r)],[]⟩) 12 Tryz.func85 rfl rfl rfl ⟨rfl,trivial⟩ (fun Xt=>?_)
 refine zr ?_
 unfold zdJ at h
 refine jp ?_
 refine jp ?_
 refine jp ?_
 rcases zn h with ⟨hc1,h⟩| ⟨hc1,h⟩
 ·
  refine jT hc1 ?_
  refine jp ?_
  refine jp ?_
  obtain rfl:=sj h
  exact zy lzz
 refine jF hc1 ?_
 refine jp ?_
 obtain rfl:=sj h
 exact zy lzz
theorem zmB {n:Int} {r:Int} (h:zez n=some r):FnOk Tryz.prog 84 [kI n] [kU r]:=by
 refine zC (E:=⟨[(2,kU r)],[]⟩) 12 Tryz.func84 rfl rfl rfl ⟨rfl,trivial⟩ (fun Xt=>?_)
 refine zr ?_
 unfold zez at h
 refine jp ?_
 refine jp ?_
 rcases zn h with ⟨hc1,h⟩| ⟨hc1,h⟩
 ·
  refine jT hc1 ?_
  refine jp ?_
  obtain rfl:=sj h
  exact zy lzz
 refine jF hc1 ?_
 refine jp ?_
 obtain rfl:=sj h
 exact zy lzz
theorem zig {v:zc} {r:Int} (h:zca v=some r):FnOk Tryz.prog 41 [.rc zd [0] v] [kI r]:=by
 refine zC (E:=⟨[(2,kI r)],[]⟩) 14 Tryz.func41 rfl rfl rfl ⟨rfl,trivial⟩ (fun Xt=>?_)
 refine zr ?_
 unfold zca at h
 refine jr (ra 0 [.rc zd [0] v] rfl (zds 11 [kI v.Number,.sl (Rp.int .u64) [0] v.Words,.sl Rp.str [0] v.Texts,.sl zj [0] v.Subs] [0] rfl rfl rfl (by rw [zx]<;>rfl) rfl) rfl rf) ?_
 refine jp ?_
 obtain rfl:=sj h
 exact zy lzz
theorem zsZ {rec_tree_depth:zf→Int→Option Int} (hrec_tree_depth:∀{x:zf} {most:Int} {r:Int},rec_tree_depth x most=some r→FnOk Tryz.prog 42 [.rc zj [0] x,kI most] [kI r]) {x:zf} {most:Int} {r:Int} (h:zhs rec_tree_depth x most=some r):FnOk Tryz.prog 42 [.rc zj [0] x,kI most] [kI r]:=by
 refine zC (E:=⟨[(4,kI r)],[]⟩) 40 Tryz.func42 rfl rfl rfl ⟨rfl,trivial⟩ (fun Xt=>?_)
 refine zr ?_
 unfold zhs at h
 refine jr (ra 0 [.rc zj [0] x] rfl (zds 11 [.sl zd [0] x.Values,.sl Rp.str [0] x.Unknown] [0] rfl rfl rfl (by rw [zab]<;>rfl) rfl) rfl rf) ?_
 refine jp ?_
 refine jp ?_
 refine zz ?_
 obtain ⟨q2,h_q2,h⟩:=bnd h
 refine zak (fun s:(Int×Int)=>zcH most rec_tree_depth x s.1 s.2) (fun s=>⟨[(1,kI most),(5,kI s.1),(11,.sl zd [0] x.Values),(12,kI (x.Values.length:Int)),(13,kI s.2)],[]⟩) (fun o e a w=>match o with| (.inl v_)=>e= .exit 0∧Sx ⟨⟨40,[]⟩,Xt,false,#[]⟩ ⟨[(5,kI v_)],[]⟩ a w| (.inr v_)=>e= .ret∧Sx ⟨⟨40,[]⟩,Xt,false,#[]⟩ ⟨[(4,kI v_)],[]⟩ a w) ?_ h_q2 lzz ?_
 ·
  clear h
  intro s o h
  obtain ⟨deep,v⟩:=s
  refine zr ?_
  replace h:zcH most rec_tree_depth x deep v=some o:=h
  unfold zcH at h
  refine jp ?_
  rcases zn h with ⟨hc1,h⟩| ⟨hc1,h⟩
  ·
   refine jT hc1 ?_
   refine zz ?_
   obtain ⟨x2,h_x2,h⟩:=bnd h
   refine jr (ra 0 [.sl zd [0] x.Values,kI v] rfl (zar rfl zpF.el (zI _ _ _) h_x2) rfl (ra 0 [.ep zd [0] x2 0] rfl (zcq rfl ⟨Tryz.isAgg50,Tryz.sizeOf50⟩) rfl (ral 1 [13] [.ptr 13 0,.rc zd [0] x2] rfl (zjn (r:=zd) (b:=⟨13,50,[kI 0,kN,kN,kN]⟩) (off:=0) [kI x2.Number,.sl (Rp.int .u64) [0] x2.Words,.sl Rp.str [0] x2.Texts,.sl zj [0] x2.Subs] rfl Tryz.sizeOf50 rfl rfl (by rw [zx]<;>rfl) rfl) rfl rf))) ?_
   refine jp ?_
   refine zz ?_
   obtain ⟨q,h_q,h⟩:=bnd h
   refine zak (fun s:(Int×Int)=>zcI most rec_tree_depth x2 s.1 s.2) (fun s=>⟨[(1,kI most),(5,kI s.1),(11,.sl zd [0] x.Values),(12,kI (x.Values.length:Int)),(13,kI v),(18,.sl zj [0] x2.Subs),(19,kI (x2.Subs.length:Int)),(20,kI s.2)],[]⟩) (fun o e a w=>match o with| (.inl v_)=>e= .exit 2∧Sx ⟨⟨40,[]⟩,Xt,false,#[]⟩ ⟨[(1,kI most),(5,kI v_),(11,.sl zd [0] x.Values),(12,kI (x.Values.length:Int)),(13,kI v)],[]⟩ a w| (.inr v_)=>e= .ret∧Sx ⟨⟨40,[]⟩,Xt,false,#[]⟩ ⟨[(4,kI v_)],[]⟩ a w) ?_ h_q lzz ?_
   ·
    clear h
    intro s o h
    obtain ⟨deep3,v3⟩:=s
    refine zr ?_
    replace h:zcI most rec_tree_depth x2 deep3 v3=some o:=h
    unfold zcI at h
    refine jp ?_
    rcases zn h with ⟨hc2,h⟩| ⟨hc2,h⟩
    ·
     refine jT hc2 ?_
     refine zz ?_
     obtain ⟨x3,h_x3,h⟩:=bnd h
     refine jr (ra 0 [.sl zj [0] x2.Subs,kI v3] rfl (zar rfl zuI.el (zI _ _ _) h_x3) rfl (ra 0 [.ep zj [0] x3 0] rfl (zcq rfl ⟨Tryz.isAgg30,Tryz.sizeOf30⟩) rfl (ral 1 [15] [.ptr 15 0,.rc zj [0] x3] rfl (zjn (r:=zj) (b:=⟨15,30,[kN,kN]⟩) (off:=0) [.sl zd [0] x3.Values,.sl Rp.str [0] x3.Unknown] rfl Tryz.sizeOf30 rfl rfl (by rw [zab]<;>rfl) rfl) rfl rf))) ?_
     refine jp ?_
     rcases zn h with ⟨hc3,h⟩| ⟨hc3,h⟩
     ·
      refine jT hc3 ?_
      refine jp ?_
      obtain rfl:=sj h
      exact zbr lzz
     refine jF hc3 ?_
     obtain ⟨rv,h_rv,h⟩:=bnd h
     refine jr (rc 4 rfl (zH.le (ins':=[(.tmp 27,.ag [.sl zd [0] x3.Values,.sl Rp.str [0] x3.Unknown]),(.tmp 29,kI (IntKind.i64.wrap (most - 1)))]) (zbz (args:=[.tmp 27,.tmp 29]) [.rc zj [0] x3,kI (IntKind.i64.wrap (most - 1))] [0] 14 rfl Tryz.call42 (hrec_tree_depth h_rv) rfl rfl rfl rfl rfl) ⟨⟨rfl,zcP zj [0] x3 [.sl zd [0] x3.Values,.sl Rp.str [0] x3.Unknown] (by rw [zab]<;>rfl) rfl⟩,⟨rfl,AV.le_refl _⟩,trivial⟩) rf) ?_
     refine jp ?_
     rcases zn h with ⟨hc4,h⟩| ⟨hc4,h⟩
     ·
      refine jT hc4 ?_
      refine jp ?_
      obtain rfl:=sj h
      exact zbr lzz
     refine jF hc4 ?_
     refine zX ?_
     refine jp ?_
     obtain rfl:=sj h
     exact zG lzz
    refine jF hc2 ?_
    obtain rfl:=sj h
    exact zal rfl lzz
   rcases q with u| u2
   ·
    refine zaM _ rfl ?_
    refine zX ?_
    refine jp ?_
    obtain rfl:=sj h
    exact zG lzz
   obtain rfl:=sj h
   exact zvn lzz
  refine jF hc1 ?_
  obtain rfl:=sj h
  exact zal rfl lzz
 rcases q2 with u3| u4
 ·
  refine zaM _ rfl ?_
  refine jp ?_
  obtain rfl:=sj h
  exact zy lzz
 obtain rfl:=sj h
 exact zdr lzz
theorem ztA {fuel:Nat} {x:zf} {most:Int} {r:Int} (h:zeT fuel x most=some r):FnOk Tryz.prog 42 [.rc zj [0] x,kI most] [kI r]:=by
  induction fuel generalizing x most r with
  | zero=>exact absurd h nofun
  | succ fuel ih=>exact zsZ (fun hh=>ih hh) h
theorem zmf {rec_darninglaw14_Size:zf→Int→Option Int} {rec_darninglaw14_SizeValue:zc→Int→Option Int} (hrec_darninglaw14_Size:∀{x:zf} {deep:Int} {r:Int},rec_darninglaw14_Size x deep=some r→FnOk Tryz.prog 16 [.rc zj [0] x,kI deep] [kI r]) (hrec_darninglaw14_SizeValue:∀{v:zc} {deep:Int} {r:Int},rec_darninglaw14_SizeValue v deep=some r→FnOk Tryz.prog 26 [.rc zd [0] v,kI deep] [kI r]) {x:zf} {deep:Int} {r:Int} (h:zdI rec_darninglaw14_Size rec_darninglaw14_SizeValue x deep=some r):FnOk Tryz.prog 16 [.rc zj [0] x,kI deep] [kI r]:=by
 refine zC (E:=⟨[(4,kI r)],[]⟩) 45 Tryz.func16 rfl rfl rfl ⟨rfl,trivial⟩ (fun Xt=>?_)
 refine zr ?_
 unfold zdI at h
 refine jr (ra 0 [.rc zj [0] x] rfl (zds 11 [.sl zd [0] x.Values,.sl Rp.str [0] x.Unknown] [0] rfl rfl rfl (by rw [zab]<;>rfl) rfl) rfl rf) ?_
 refine jp ?_
 rcases zn h with ⟨hc1,h⟩| ⟨hc1,h⟩
 ·
  refine jT hc1 ?_
  refine jp ?_
  obtain rfl:=sj h
  exact zy lzz
 refine jF hc1 ?_
 refine jp ?_
 refine jp ?_
 refine zz ?_
 obtain ⟨q,h_q,h⟩:=bnd h
 refine zak (fun s:(Int×Int)=>zaU x s.1 s.2) (fun s=>⟨[(1,kI deep),(2,.ptr 11 0),(5,kI s.1),(6,kI s.2)],[⟨11,30,[.sl zd [0] x.Values,.sl Rp.str [0] x.Unknown]⟩]⟩) (fun o e a w=>e= .exit 0∧Sx ⟨⟨45,[]⟩,Xt,false,#[]⟩ ⟨[(1,kI deep),(2,.ptr 11 0),(5,kI o)],[⟨11,30,[.sl zd [0] x.Values,.sl Rp.str [0] x.Unknown]⟩]⟩ a w) ?_ h_q lzz ?_
 ·
  clear h
  intro s o h
  obtain ⟨n,i⟩:=s
  refine zr ?_
  replace h:zaU x n i=some o:=h
  unfold zaU at h
  refine jp ?_
  rcases zn h with ⟨hc2,h⟩| ⟨hc2,h⟩
  ·
   refine jT hc2 ?_
   refine zz ?_
   obtain ⟨x2,h_x2,h⟩:=bnd h
   refine jr (ra 5 [.sl Rp.str [0] x.Unknown,kI i] rfl (zar rfl zkk.el (zI _ _ _) h_x2) rfl rf) ?_
   refine zX ?_
   refine jp ?_
   obtain rfl:=sj h
   exact zG lzz
  refine jF hc2 ?_
  obtain rfl:=sj h
  exact zal rfl lzz
 refine zaM _ rfl ?_
 refine jp ?_
 refine zz ?_
 obtain ⟨q2,h_q2,h⟩:=bnd h
 refine zak (fun s:(Int×Int)=>zaJ deep rec_darninglaw14_SizeValue x s.1 s.2) (fun s=>⟨[(1,kI deep),(2,.ptr 11 0),(5,kI s.1),(7,kI s.2)],[⟨11,30,[.sl zd [0] x.Values,.sl Rp.str [0] x.Unknown]⟩]⟩) (fun o e a w=>match o with| (.inl v_)=>e= .exit 2∧Sx ⟨⟨45,[]⟩,Xt,false,#[]⟩ ⟨[(5,kI v_)],[]⟩ a w| (.inr v_)=>e= .ret∧Sx ⟨⟨45,[]⟩,Xt,false,#[]⟩ ⟨[(4,kI 5000)],[]⟩ a w) ?_ h_q2 lzz ?_
 ·
  clear h
  intro s o h
  obtain ⟨n3,i2⟩:=s
  refine zr ?_
  replace h:zaJ deep rec_darninglaw14_SizeValue x n3 i2=some o:=h
  unfold zaJ at h
  refine jp ?_
  rcases zn h with ⟨hc3,h⟩| ⟨hc3,h⟩
  ·
   refine jT hc3 ?_
   refine zz ?_
   obtain ⟨x3,h_x3,h⟩:=bnd h
   obtain ⟨rv,h_rv,h⟩:=bnd h
   refine jr (ra 4 [.sl zd [0] x.Values,kI i2] rfl (zar rfl zpF.el (zI _ _ _) h_x3) rfl (ra 0 [.ep zd [0] x3 0] rfl (zcq rfl ⟨Tryz.isAgg50,Tryz.sizeOf50⟩) rfl (rl 1 [0] 12 Tryz.call26 (hrec_darninglaw14_SizeValue h_rv) rf))) ?_
   refine jp ?_
   rcases zn h with ⟨hc4,h⟩| ⟨hc4,h⟩
   ·
    refine jT hc4 ?_
    refine jp ?_
    obtain rfl:=sj h
    exact zbr lzz
   refine jF hc4 ?_
   refine zX ?_
   refine jp ?_
   obtain rfl:=sj h
   exact zG lzz
  refine jF hc3 ?_
  obtain rfl:=sj h
  exact zal rfl lzz
 rcases q2 with u| u2
 ·
  refine zaM _ rfl ?_
  refine jp ?_
  obtain rfl:=sj h
  exact zy lzz
 obtain rfl:=sj h
 exact zdr lzz
theorem zjg {rec_darninglaw14_Size:zf→Int→Option Int} {rec_darninglaw14_SizeValue:zc→Int→Option Int} (hrec_darninglaw14_Size:∀{x:zf} {deep:Int} {r:Int},rec_darninglaw14_Size x deep=some r→FnOk Tryz.prog 16 [.rc zj [0] x,kI deep] [kI r]) (hrec_darninglaw14_SizeValue:∀{v:zc} {deep:Int} {r:Int},rec_darninglaw14_SizeValue v deep=some r→FnOk Tryz.prog 26 [.rc zd [0] v,kI deep] [kI r]) {v:zc} {deep:Int} {r:Int} (h:zck rec_darninglaw14_Size rec_darninglaw14_SizeValue v deep=some r):FnOk Tryz.prog 26 [.rc zd [0] v,kI deep] [kI r]:=by
 refine zC (E:=⟨[(4,kI r)],[]⟩) 48 Tryz.func26 rfl rfl rfl ⟨rfl,trivial⟩ (fun Xt=>?_)
 refine zr ?_
 unfold zck at h
 refine jr (ra 0 [.rc zd [0] v] rfl (zds 11 [kI v.Number,.sl (Rp.int .u64) [0] v.Words,.sl Rp.str [0] v.Texts,.sl zj [0] v.Subs] [0] rfl rfl rfl (by rw [zx]<;>rfl) rfl) rfl rf) ?_
 refine jp ?_
 refine jp ?_
 refine zz ?_
 obtain ⟨q,h_q,h⟩:=bnd h
 refine zak (fun s:(Int×Int)=>zau v s.1 s.2) (fun s=>⟨[(1,kI deep),(2,.ptr 11 0),(5,kI s.1),(6,kI s.2)],[⟨11,50,[kI v.Number,.sl (Rp.int .u64) [0] v.Words,.sl Rp.str [0] v.Texts,.sl zj [0] v.Subs]⟩]⟩) (fun o e a w=>e= .exit 0∧Sx ⟨⟨48,[]⟩,Xt,false,#[]⟩ ⟨[(1,kI deep),(2,.ptr 11 0),(5,kI o)],[⟨11,50,[kI v.Number,.sl (Rp.int .u64) [0] v.Words,.sl Rp.str [0] v.Texts,.sl zj [0] v.Subs]⟩]⟩ a w) ?_ h_q lzz ?_
 ·
  clear h
  intro s o h
  obtain ⟨n,k⟩:=s
  refine zr ?_
  replace h:zau v n k=some o:=h
  unfold zau at h
  refine jp ?_
  rcases zn h with ⟨hc1,h⟩| ⟨hc1,h⟩
  ·
   refine jT hc1 ?_
   refine zz ?_
   obtain ⟨x,h_x,h⟩:=bnd h
   refine jr (ra 5 [.sl Rp.str [0] v.Texts,kI k] rfl (zar rfl zkk.el (zI _ _ _) h_x) rfl rf) ?_
   refine zX ?_
   refine jp ?_
   obtain rfl:=sj h
   exact zG lzz
  refine jF hc1 ?_
  obtain rfl:=sj h
  exact zal rfl lzz
 refine zaM _ rfl ?_
 refine jp ?_
 refine zz ?_
 obtain ⟨q2,h_q2,h⟩:=bnd h
 refine zak (fun s:(Int×Int)=>zah deep rec_darninglaw14_Size v s.1 s.2) (fun s=>⟨[(1,kI deep),(2,.ptr 11 0),(5,kI s.1),(7,kI s.2)],[⟨11,50,[kI v.Number,.sl (Rp.int .u64) [0] v.Words,.sl Rp.str [0] v.Texts,.sl zj [0] v.Subs]⟩]⟩) (fun o e a w=>match o with| (.inl v_)=>e= .exit 2∧Sx ⟨⟨48,[]⟩,Xt,false,#[]⟩ ⟨[(5,kI v_)],[]⟩ a w| (.inr v_)=>e= .ret∧Sx ⟨⟨48,[]⟩,Xt,false,#[]⟩ ⟨[(4,kI 5000)],[]⟩ a w) ?_ h_q2 lzz ?_
 ·
  clear h
  intro s o h
  obtain ⟨n3,k2⟩:=s
  refine zr ?_
  replace h:zah deep rec_darninglaw14_Size v n3 k2=some o:=h
  unfold zah at h
  refine jp ?_
  rcases zn h with ⟨hc2,h⟩| ⟨hc2,h⟩
  ·
   refine jT hc2 ?_
   refine zz ?_
   obtain ⟨x2,h_x2,h⟩:=bnd h
   obtain ⟨rv,h_rv,h⟩:=bnd h
   refine jr (ra 4 [.sl zj [0] v.Subs,kI k2] rfl (zar rfl zuI.el (zI _ _ _) h_x2) rfl (ra 0 [.ep zj [0] x2 0] rfl (zcq rfl ⟨Tryz.isAgg30,Tryz.sizeOf30⟩) rfl (rl 2 [0] 12 Tryz.call16 (hrec_darninglaw14_Size h_rv) rf))) ?_
   refine jp ?_
   rcases zn h with ⟨hc3,h⟩| ⟨hc3,h⟩
   ·
    refine jT hc3 ?_
    refine jp ?_
    obtain rfl:=sj h
    exact zbr lzz
   refine jF hc3 ?_
   refine zX ?_
   refine jp ?_
   obtain rfl:=sj h
   exact zG lzz
  refine jF hc2 ?_
  obtain rfl:=sj h
  exact zal rfl lzz
 rcases q2 with u| u2
 ·
  refine zaM _ rfl ?_
  refine jp ?_
  obtain rfl:=sj h
  exact zy lzz
 obtain rfl:=sj h
 exact zdr lzz
theorem zey (fuel:Nat):(∀{x:zf} {deep:Int} {r:Int},zbM fuel x deep=some r→FnOk Tryz.prog 16 [.rc zj [0] x,kI deep] [kI r])∧(∀{v:zc} {deep:Int} {r:Int},zax fuel v deep=some r→FnOk Tryz.prog 26 [.rc zd [0] v,kI deep] [kI r]):=by
  induction fuel with
  | zero=>exact ⟨fun h=>absurd h nofun,fun h=>absurd h nofun⟩
  | succ fuel ih=>exact ⟨fun h=>zmf (fun hh=>ih.1 hh) (fun hh=>ih.2 hh) h,fun h=>zjg (fun hh=>ih.1 hh) (fun hh=>ih.2 hh) h⟩
theorem zjI {fuel:Nat} {v:zc} {deep:Int} {r:Int} (h:zax fuel v deep=some r):FnOk Tryz.prog 26 [.rc zd [0] v,kI deep] [kI r]:=(zey fuel).2 h
theorem zmY {f:za} {v:Int} {r:Bool} (h:zeI f v=some r):FnOk Tryz.prog 97 [.rc zb [0] f,.ep (Rp.int .i64) [0] v 0] [kB r]:=by
 refine zC (E:=⟨[(3,kB r)],[]⟩) 8 Tryz.func97 rfl rfl rfl ⟨rfl,trivial⟩ (fun Xt=>?_)
 refine zr ?_
 unfold zeI at h
 refine jq [11] ?_
 refine jp ?_
 obtain rfl:=sj h
 exact zy lzz
end Go.Proofs.YtcbkcblkecmjnaaGreat
