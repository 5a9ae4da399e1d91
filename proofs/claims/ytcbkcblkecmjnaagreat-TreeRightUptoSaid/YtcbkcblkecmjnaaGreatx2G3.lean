/-
  The Go functions do what the plain functions say. No condition.
-/
import Derived.Test.YtcbkcblkecmjnaaGreatx2T
namespace Go.Proofs.YtcbkcblkecmjnaaGreat
open Go Go.RowKit
set_option linter.unusedVariables false
set_option maxRecDepth 100000
set_option maxHeartbeats 3200000
theorem znX {wv:Int} {r:Int} (h:zfa wv=some r):FnOk Tryz.prog 85 [kU wv] [kI r]:=by
 refine zC (E:=⟨[(2,kI r)],[]⟩) 12 Tryz.func85 rfl rfl rfl ⟨rfl,trivial⟩ (fun Xt=>?_)
 refine zp ?_
 unfold zfa at h
 refine jp ?_
 refine jp ?_
 refine jp ?_
 rcases zm h with ⟨hc1,h⟩| ⟨hc1,h⟩
 ·
  refine jT hc1 ?_
  refine jp ?_
  refine jp ?_
  obtain rfl:=sj h
  exact zz lzz
 refine jF hc1 ?_
 refine jp ?_
 obtain rfl:=sj h
 exact zz lzz
theorem zpe {n:Int} {r:Int} (h:zfV n=some r):FnOk Tryz.prog 84 [kI n] [kU r]:=by
 refine zC (E:=⟨[(2,kU r)],[]⟩) 12 Tryz.func84 rfl rfl rfl ⟨rfl,trivial⟩ (fun Xt=>?_)
 refine zp ?_
 unfold zfV at h
 refine jp ?_
 refine jp ?_
 rcases zm h with ⟨hc1,h⟩| ⟨hc1,h⟩
 ·
  refine jT hc1 ?_
  refine jp ?_
  obtain rfl:=sj h
  exact zz lzz
 refine jF hc1 ?_
 refine jp ?_
 obtain rfl:=sj h
 exact zz lzz
theorem zkv {v:zb} {r:Int} (h:zcZ v=some r):FnOk Tryz.prog 41 [.rc za [0] v] [kI r]:=by
 refine zC (E:=⟨[(2,kI r)],[]⟩) 14 Tryz.func41 rfl rfl rfl ⟨rfl,trivial⟩ (fun Xt=>?_)
 refine zp ?_
 unfold zcZ at h
 refine jr (ra 0 [.rc za [0] v] rfl (zcb 11 [kI v.Number,.sl (Rp.int .u64) [0] v.Words,.sl Rp.str [0] v.Texts,.sl zd [0] v.Subs] [0] rfl rfl rfl (by rw [zq]<;>rfl) rfl) rfl rf) ?_
 refine jp ?_
 obtain rfl:=sj h
 exact zz lzz
theorem zvV {rec_tree_depth:zc→Int→Option Int} (hrec_tree_depth:∀{x:zc} {most:Int} {r:Int},rec_tree_depth x most=some r→FnOk Tryz.prog 42 [.rc zd [0] x,kI most] [kI r]) {x:zc} {most:Int} {r:Int} (h:zjy rec_tree_depth x most=some r):FnOk Tryz.prog 42 [.rc zd [0] x,kI most] [kI r]:=by
 refine zC (E:=⟨[(4,kI r)],[]⟩) 40 Tryz.func42 rfl rfl rfl ⟨rfl,trivial⟩ (fun Xt=>?_)
 refine zp ?_
 unfold zjy at h
 refine jr (ra 0 [.rc zd [0] x] rfl (zcb 11 [.sl za [0] x.Values,.sl Rp.str [0] x.Unknown] [0] rfl rfl rfl (by rw [zo]<;>rfl) rfl) rfl rf) ?_
 refine jp ?_
 refine jp ?_
 refine zA ?_
 obtain ⟨q2,h_q2,h⟩:=bnd h
 refine zal (fun s:(Int×Int)=>zdO most rec_tree_depth x s.1 s.2) (fun s=>⟨[(1,kI most),(5,kI s.1),(11,.sl za [0] x.Values),(12,kI (x.Values.length:Int)),(13,kI s.2)],[]⟩) (fun o e a w=>match o with| (.inl v_)=>e= .exit 0∧Sx ⟨⟨40,[]⟩,Xt,false,#[]⟩ ⟨[(5,kI v_)],[]⟩ a w| (.inr v_)=>e= .ret∧Sx ⟨⟨40,[]⟩,Xt,false,#[]⟩ ⟨[(4,kI v_)],[]⟩ a w) ?_ h_q2 lzz ?_
 ·
  clear h
  intro s o h
  obtain ⟨deep,v⟩:=s
  refine zp ?_
  replace h:zdO most rec_tree_depth x deep v=some o:=h
  unfold zdO at h
  refine jp ?_
  rcases zm h with ⟨hc1,h⟩| ⟨hc1,h⟩
  ·
   refine jT hc1 ?_
   refine zA ?_
   obtain ⟨x2,h_x2,h⟩:=bnd h
   refine jr (ra 0 [.sl za [0] x.Values,kI v] rfl (zao rfl zkQ.el (zJ _ _ _) h_x2) rfl (ra 0 [.ep za [0] x2 0] rfl (zci rfl ⟨Tryz.isAgg50,Tryz.sizeOf50⟩) rfl (ral 1 [13] [.ptr 13 0,.rc za [0] x2] rfl (zgA (r:=za) (b:=⟨13,50,[kI 0,kN,kN,kN]⟩) (off:=0) [kI x2.Number,.sl (Rp.int .u64) [0] x2.Words,.sl Rp.str [0] x2.Texts,.sl zd [0] x2.Subs] rfl Tryz.sizeOf50 rfl rfl (by rw [zq]<;>rfl) rfl) rfl rf))) ?_
   refine jp ?_
   refine zA ?_
   obtain ⟨q,h_q,h⟩:=bnd h
   refine zal (fun s:(Int×Int)=>zdP most rec_tree_depth x2 s.1 s.2) (fun s=>⟨[(1,kI most),(5,kI s.1),(11,.sl za [0] x.Values),(12,kI (x.Values.length:Int)),(13,kI v),(18,.sl zd [0] x2.Subs),(19,kI (x2.Subs.length:Int)),(20,kI s.2)],[]⟩) (fun o e a w=>match o with| (.inl v_)=>e= .exit 2∧Sx ⟨⟨40,[]⟩,Xt,false,#[]⟩ ⟨[(1,kI most),(5,kI v_),(11,.sl za [0] x.Values),(12,kI (x.Values.length:Int)),(13,kI v)],[]⟩ a w| (.inr v_)=>e= .ret∧Sx ⟨⟨40,[]⟩,Xt,false,#[]⟩ ⟨[(4,kI v_)],[]⟩ a w) ?_ h_q lzz ?_
   ·
    clear h
    intro s o h
    obtain ⟨deep3,v3⟩:=s
    refine zp ?_
    replace h:zdP most rec_tree_depth x2 deep3 v3=some o:=h
    unfold zdP at h
    refine jp ?_
    rcases zm h with ⟨hc2,h⟩| ⟨hc2,h⟩
    ·
     refine jT hc2 ?_
     refine zA ?_
     obtain ⟨x3,h_x3,h⟩:=bnd h
     refine jr (ra 0 [.sl zd [0] x2.Subs,kI v3] rfl (zao rfl zoG.el (zJ _ _ _) h_x3) rfl (ra 0 [.ep zd [0] x3 0] rfl (zci rfl ⟨Tryz.isAgg30,Tryz.sizeOf30⟩) rfl (ral 1 [15] [.ptr 15 0,.rc zd [0] x3] rfl (zgA (r:=zd) (b:=⟨15,30,[kN,kN]⟩) (off:=0) [.sl za [0] x3.Values,.sl Rp.str [0] x3.Unknown] rfl Tryz.sizeOf30 rfl rfl (by rw [zo]<;>rfl) rfl) rfl rf))) ?_
     refine jp ?_
     rcases zm h with ⟨hc3,h⟩| ⟨hc3,h⟩
     ·
      refine jT hc3 ?_
      refine jp ?_
      obtain rfl:=sj h
      exact zaZ lzz
     refine jF hc3 ?_
     obtain ⟨rv,h_rv,h⟩:=bnd h
     refine jr (rc 4 rfl (zG.le (ins':=[(.tmp 27,.ag [.sl za [0] x3.Values,.sl Rp.str [0] x3.Unknown]),(.tmp 29,kI (IntKind.i64.wrap (most - 1)))]) (zae (args:=[.tmp 27,.tmp 29]) [.rc zd [0] x3,kI (IntKind.i64.wrap (most - 1))] [0] 14 rfl Tryz.call42 (hrec_tree_depth h_rv) rfl rfl rfl rfl rfl) ⟨⟨rfl,zaa zd [0] x3 [.sl za [0] x3.Values,.sl Rp.str [0] x3.Unknown] (by rw [zo]<;>rfl) rfl⟩,⟨rfl,AV.le_refl _⟩,trivial⟩) rf) ?_
     refine jp ?_
     rcases zm h with ⟨hc4,h⟩| ⟨hc4,h⟩
     ·
      refine jT hc4 ?_
      refine jp ?_
      obtain rfl:=sj h
      exact zaZ lzz
     refine jF hc4 ?_
     refine zag ?_
     refine jp ?_
     obtain rfl:=sj h
     exact zL lzz
    refine jF hc2 ?_
    obtain rfl:=sj h
    exact zam rfl lzz
   rcases q with u| u2
   ·
    refine zaD _ rfl ?_
    refine zag ?_
    refine jp ?_
    obtain rfl:=sj h
    exact zL lzz
   obtain rfl:=sj h
   exact zyn lzz
  refine jF hc1 ?_
  obtain rfl:=sj h
  exact zam rfl lzz
 rcases q2 with u3| u4
 ·
  refine zaD _ rfl ?_
  refine jp ?_
  obtain rfl:=sj h
  exact zz lzz
 obtain rfl:=sj h
 exact zcK lzz
theorem zww {fuel:Nat} {x:zc} {most:Int} {r:Int} (h:zgq fuel x most=some r):FnOk Tryz.prog 42 [.rc zd [0] x,kI most] [kI r]:=by
  induction fuel generalizing x most r with
  | zero=>exact absurd h nofun
  | succ fuel ih=>exact zvV (fun hh=>ih hh) h
theorem znY {rec_darningref14_Depth:zc→Option Int} (hrec_darningref14_Depth:∀{x:zc} {r:Int},rec_darningref14_Depth x=some r→FnOk Tryz.prog 15 [.rc zd [0] x] [kI r]) {x:zc} {r:Int} (h:zeD rec_darningref14_Depth x=some r):FnOk Tryz.prog 15 [.rc zd [0] x] [kI r]:=by
 refine zC (E:=⟨[(2,kI r)],[]⟩) 38 Tryz.func15 rfl rfl rfl ⟨rfl,trivial⟩ (fun Xt=>?_)
 refine zp ?_
 unfold zeD at h
 refine jr (ra 0 [.rc zd [0] x] rfl (zcb 11 [.sl za [0] x.Values,.sl Rp.str [0] x.Unknown] [0] rfl rfl rfl (by rw [zo]<;>rfl) rfl) rfl rf) ?_
 refine jp ?_
 refine jp ?_
 refine zA ?_
 obtain ⟨q2,h_q2,h⟩:=bnd h
 refine zal (fun s:(Int×Int)=>zbt rec_darningref14_Depth x s.1 s.2) (fun s=>⟨[(1,.ptr 11 0),(3,kI s.1),(4,kI s.2)],[⟨11,39,[.sl za [0] x.Values,.sl Rp.str [0] x.Unknown]⟩]⟩) (fun o e a w=>e= .exit 0∧Sx ⟨⟨38,[]⟩,Xt,false,#[]⟩ ⟨[(3,kI o)],[]⟩ a w) ?_ h_q2 lzz ?_
 ·
  clear h
  intro s o h
  obtain ⟨d,i⟩:=s
  refine zp ?_
  replace h:zbt rec_darningref14_Depth x d i=some o:=h
  unfold zbt at h
  refine jp ?_
  rcases zm h with ⟨hc1,h⟩| ⟨hc1,h⟩
  ·
   refine jT hc1 ?_
   refine zA ?_
   refine jp ?_
   refine zA ?_
   obtain ⟨q,h_q,h⟩:=bnd h
   refine zal (fun s:(Int×Int)=>zbu i rec_darningref14_Depth x s.1 s.2) (fun s=>⟨[(1,.ptr 11 0),(3,kI s.1),(4,kI i),(5,kI s.2)],[⟨11,39,[.sl za [0] x.Values,.sl Rp.str [0] x.Unknown]⟩]⟩) (fun o e a w=>e= .exit 2∧Sx ⟨⟨38,[]⟩,Xt,false,#[]⟩ ⟨[(1,.ptr 11 0),(3,kI o),(4,kI i)],[⟨11,39,[.sl za [0] x.Values,.sl Rp.str [0] x.Unknown]⟩]⟩ a w) ?_ h_q lzz ?_
   ·
    clear h
    intro s o h
    obtain ⟨d3,k⟩:=s
    refine zp ?_
    replace h:zbu i rec_darningref14_Depth x d3 k=some o:=h
    unfold zbu at h
    obtain ⟨x2,h_x2,h⟩:=bnd h
    refine jr (ra 4 [.sl za [0] x.Values,kI i] rfl (zao rfl zlY.el (zJ _ _ _) h_x2) rfl (ra 1 [.ep za [0] x2 3] rfl (zhq zd x2.Subs rfl rfl (by rw [zq]<;>rfl)) rfl rf)) ?_
    rcases zm h with ⟨hc2,h⟩| ⟨hc2,h⟩
    ·
     refine jT hc2 ?_
     refine zA ?_
     obtain ⟨x3,h_x3,h⟩:=bnd h
     obtain ⟨x4,h_x4,h⟩:=bnd h
     obtain ⟨rv,h_rv,h⟩:=bnd h
     refine jr (ra 4 [.sl za [0] x.Values,kI i] rfl (zao rfl zlY.el (zJ _ _ _) h_x3) rfl (ra 1 [.ep za [0] x3 3] rfl (zhq zd x3.Subs rfl rfl (by rw [zq]<;>rfl)) rfl (ra 1 [.sl zd [0] x3.Subs,kI k] rfl (zao rfl zxI.el (zJ _ _ _) h_x4) rfl (ra 0 [.ep zd [0] x4 0] rfl (zci rfl ⟨Tryz.isAgg39,Tryz.sizeOf39⟩) rfl (rl 0 [0] 12 Tryz.call15 (hrec_darningref14_Depth h_rv) rf))))) ?_
     refine zag ?_
     refine jp ?_
     obtain rfl:=sj h
     exact zL lzz
    refine jF hc2 ?_
    obtain rfl:=sj h
    exact zam rfl lzz
   refine zaD _ rfl ?_
   refine zag ?_
   refine jp ?_
   obtain rfl:=sj h
   exact zL lzz
  refine jF hc1 ?_
  obtain rfl:=sj h
  exact zam rfl lzz
 refine zaD _ rfl ?_
 refine jp ?_
 obtain rfl:=sj h
 exact zz lzz
theorem zjD {fuel:Nat} {x:zc} {r:Int} (h:zcg fuel x=some r):FnOk Tryz.prog 15 [.rc zd [0] x] [kI r]:=by
  induction fuel generalizing x r with
  | zero=>exact absurd h nofun
  | succ fuel ih=>exact znY (fun hh=>ih hh) h
theorem zoH {rec_darninglaw14_Size:zc→Int→Option Int} {rec_darninglaw14_SizeValue:zb→Int→Option Int} (hrec_darninglaw14_Size:∀{x:zc} {deep:Int} {r:Int},rec_darninglaw14_Size x deep=some r→FnOk Tryz.prog 16 [.rc zd [0] x,kI deep] [kI r]) (hrec_darninglaw14_SizeValue:∀{v:zb} {deep:Int} {r:Int},rec_darninglaw14_SizeValue v deep=some r→FnOk Tryz.prog 26 [.rc za [0] v,kI deep] [kI r]) {x:zc} {deep:Int} {r:Int} (h:zeZ rec_darninglaw14_Size rec_darninglaw14_SizeValue x deep=some r):FnOk Tryz.prog 16 [.rc zd [0] x,kI deep] [kI r]:=by
 refine zC (E:=⟨[(4,kI r)],[]⟩) 45 Tryz.func16 rfl rfl rfl ⟨rfl,trivial⟩ (fun Xt=>?_)
 refine zp ?_
 unfold zeZ at h
 refine jr (ra 0 [.rc zd [0] x] rfl (zcb 11 [.sl za [0] x.Values,.sl Rp.str [0] x.Unknown] [0] rfl rfl rfl (by rw [zo]<;>rfl) rfl) rfl rf) ?_
 refine jp ?_
 rcases zm h with ⟨hc1,h⟩| ⟨hc1,h⟩
 ·
  refine jT hc1 ?_
  refine jp ?_
  obtain rfl:=sj h
  exact zz lzz
 refine jF hc1 ?_
 refine jp ?_
 refine jp ?_
 refine zA ?_
 obtain ⟨q,h_q,h⟩:=bnd h
 refine zal (fun s:(Int×Int)=>zbE x s.1 s.2) (fun s=>⟨[(1,kI deep),(2,.ptr 11 0),(5,kI s.1),(6,kI s.2)],[⟨11,30,[.sl za [0] x.Values,.sl Rp.str [0] x.Unknown]⟩]⟩) (fun o e a w=>e= .exit 0∧Sx ⟨⟨45,[]⟩,Xt,false,#[]⟩ ⟨[(1,kI deep),(2,.ptr 11 0),(5,kI o)],[⟨11,30,[.sl za [0] x.Values,.sl Rp.str [0] x.Unknown]⟩]⟩ a w) ?_ h_q lzz ?_
 ·
  clear h
  intro s o h
  obtain ⟨n,i⟩:=s
  refine zp ?_
  replace h:zbE x n i=some o:=h
  unfold zbE at h
  refine jp ?_
  rcases zm h with ⟨hc2,h⟩| ⟨hc2,h⟩
  ·
   refine jT hc2 ?_
   refine zA ?_
   obtain ⟨x2,h_x2,h⟩:=bnd h
   refine jr (ra 5 [.sl Rp.str [0] x.Unknown,kI i] rfl (zao rfl zif.el (zJ _ _ _) h_x2) rfl rf) ?_
   refine zag ?_
   refine jp ?_
   obtain rfl:=sj h
   exact zL lzz
  refine jF hc2 ?_
  obtain rfl:=sj h
  exact zam rfl lzz
 refine zaD _ rfl ?_
 refine jp ?_
 refine zA ?_
 obtain ⟨q2,h_q2,h⟩:=bnd h
 refine zal (fun s:(Int×Int)=>zbg deep rec_darninglaw14_SizeValue x s.1 s.2) (fun s=>⟨[(1,kI deep),(2,.ptr 11 0),(5,kI s.1),(7,kI s.2)],[⟨11,30,[.sl za [0] x.Values,.sl Rp.str [0] x.Unknown]⟩]⟩) (fun o e a w=>match o with| (.inl v_)=>e= .exit 2∧Sx ⟨⟨45,[]⟩,Xt,false,#[]⟩ ⟨[(5,kI v_)],[]⟩ a w| (.inr v_)=>e= .ret∧Sx ⟨⟨45,[]⟩,Xt,false,#[]⟩ ⟨[(4,kI 5000)],[]⟩ a w) ?_ h_q2 lzz ?_
 ·
  clear h
  intro s o h
  obtain ⟨n3,i2⟩:=s
  refine zp ?_
  replace h:zbg deep rec_darninglaw14_SizeValue x n3 i2=some o:=h
  unfold zbg at h
  refine jp ?_
  rcases zm h with ⟨hc3,h⟩| ⟨hc3,h⟩
  ·
   refine jT hc3 ?_
   refine zA ?_
   obtain ⟨x3,h_x3,h⟩:=bnd h
   obtain ⟨rv,h_rv,h⟩:=bnd h
   refine jr (ra 4 [.sl za [0] x.Values,kI i2] rfl (zao rfl zkQ.el (zJ _ _ _) h_x3) rfl (ra 0 [.ep za [0] x3 0] rfl (zci rfl ⟨Tryz.isAgg50,Tryz.sizeOf50⟩) rfl (rl 1 [0] 12 Tryz.call26 (hrec_darninglaw14_SizeValue h_rv) rf))) ?_
   refine jp ?_
   rcases zm h with ⟨hc4,h⟩| ⟨hc4,h⟩
   ·
    refine jT hc4 ?_
    refine jp ?_
    obtain rfl:=sj h
    exact zaZ lzz
   refine jF hc4 ?_
   refine zag ?_
   refine jp ?_
   obtain rfl:=sj h
   exact zL lzz
  refine jF hc3 ?_
  obtain rfl:=sj h
  exact zam rfl lzz
 rcases q2 with u| u2
 ·
  refine zaD _ rfl ?_
  refine jp ?_
  obtain rfl:=sj h
  exact zz lzz
 obtain rfl:=sj h
 exact zcK lzz
theorem zlA {rec_darninglaw14_Size:zc→Int→Option Int} {rec_darninglaw14_SizeValue:zb→Int→Option Int} (hrec_darninglaw14_Size:∀{x:zc} {deep:Int} {r:Int},rec_darninglaw14_Size x deep=some r→FnOk Tryz.prog 16 [.rc zd [0] x,kI deep] [kI r]) (hrec_darninglaw14_SizeValue:∀{v:zb} {deep:Int} {r:Int},rec_darninglaw14_SizeValue v deep=some r→FnOk Tryz.prog 26 [.rc za [0] v,kI deep] [kI r]) {v:zb} {deep:Int} {r:Int} (h:zdm rec_darninglaw14_Size rec_darninglaw14_SizeValue v deep=some r):FnOk Tryz.prog 26 [.rc za [0] v,kI deep] [kI r]:=by
 refine zC (E:=⟨[(4,kI r)],[]⟩) 48 Tryz.func26 rfl rfl rfl ⟨rfl,trivial⟩ (fun Xt=>?_)
 refine zp ?_
 unfold zdm at h
 refine jr (ra 0 [.rc za [0] v] rfl (zcb 11 [kI v.Number,.sl (Rp.int .u64) [0] v.Words,.sl Rp.str [0] v.Texts,.sl zd [0] v.Subs] [0] rfl rfl rfl (by rw [zq]<;>rfl) rfl) rfl rf) ?_
 refine jp ?_
 refine jp ?_
 refine zA ?_
 obtain ⟨q,h_q,h⟩:=bnd h
 refine zal (fun s:(Int×Int)=>zaM v s.1 s.2) (fun s=>⟨[(1,kI deep),(2,.ptr 11 0),(5,kI s.1),(6,kI s.2)],[⟨11,50,[kI v.Number,.sl (Rp.int .u64) [0] v.Words,.sl Rp.str [0] v.Texts,.sl zd [0] v.Subs]⟩]⟩) (fun o e a w=>e= .exit 0∧Sx ⟨⟨48,[]⟩,Xt,false,#[]⟩ ⟨[(1,kI deep),(2,.ptr 11 0),(5,kI o)],[⟨11,50,[kI v.Number,.sl (Rp.int .u64) [0] v.Words,.sl Rp.str [0] v.Texts,.sl zd [0] v.Subs]⟩]⟩ a w) ?_ h_q lzz ?_
 ·
  clear h
  intro s o h
  obtain ⟨n,k⟩:=s
  refine zp ?_
  replace h:zaM v n k=some o:=h
  unfold zaM at h
  refine jp ?_
  rcases zm h with ⟨hc1,h⟩| ⟨hc1,h⟩
  ·
   refine jT hc1 ?_
   refine zA ?_
   obtain ⟨x,h_x,h⟩:=bnd h
   refine jr (ra 5 [.sl Rp.str [0] v.Texts,kI k] rfl (zao rfl zif.el (zJ _ _ _) h_x) rfl rf) ?_
   refine zag ?_
   refine jp ?_
   obtain rfl:=sj h
   exact zL lzz
  refine jF hc1 ?_
  obtain rfl:=sj h
  exact zam rfl lzz
 refine zaD _ rfl ?_
 refine jp ?_
 refine zA ?_
 obtain ⟨q2,h_q2,h⟩:=bnd h
 refine zal (fun s:(Int×Int)=>zaz deep rec_darninglaw14_Size v s.1 s.2) (fun s=>⟨[(1,kI deep),(2,.ptr 11 0),(5,kI s.1),(7,kI s.2)],[⟨11,50,[kI v.Number,.sl (Rp.int .u64) [0] v.Words,.sl Rp.str [0] v.Texts,.sl zd [0] v.Subs]⟩]⟩) (fun o e a w=>match o with| (.inl v_)=>e= .exit 2∧Sx ⟨⟨48,[]⟩,Xt,false,#[]⟩ ⟨[(5,kI v_)],[]⟩ a w| (.inr v_)=>e= .ret∧Sx ⟨⟨48,[]⟩,Xt,false,#[]⟩ ⟨[(4,kI 5000)],[]⟩ a w) ?_ h_q2 lzz ?_
 ·
  clear h
  intro s o h
  obtain ⟨n3,k2⟩:=s
  refine zp ?_
  replace h:zaz deep rec_darninglaw14_Size v n3 k2=some o:=h
  unfold zaz at h
  refine jp ?_
  rcases zm h with ⟨hc2,h⟩| ⟨hc2,h⟩
  ·
   refine jT hc2 ?_
   refine zA ?_
   obtain ⟨x2,h_x2,h⟩:=bnd h
   obtain ⟨rv,h_rv,h⟩:=bnd h
   refine jr (ra 4 [.sl zd [0] v.Subs,kI k2] rfl (zao rfl zoG.el (zJ _ _ _) h_x2) rfl (ra 0 [.ep zd [0] x2 0] rfl (zci rfl ⟨Tryz.isAgg30,Tryz.sizeOf30⟩) rfl (rl 2 [0] 12 Tryz.call16 (hrec_darninglaw14_Size h_rv) rf))) ?_
   refine jp ?_
   rcases zm h with ⟨hc3,h⟩| ⟨hc3,h⟩
   ·
    refine jT hc3 ?_
    refine jp ?_
    obtain rfl:=sj h
    exact zaZ lzz
   refine jF hc3 ?_
   refine zag ?_
   refine jp ?_
   obtain rfl:=sj h
   exact zL lzz
  refine jF hc2 ?_
  obtain rfl:=sj h
  exact zam rfl lzz
 rcases q2 with u| u2
 ·
  refine zaD _ rfl ?_
  refine jp ?_
  obtain rfl:=sj h
  exact zz lzz
 obtain rfl:=sj h
 exact zcK lzz
theorem zfU (fuel:Nat):(∀{x:zc} {deep:Int} {r:Int},zbL fuel x deep=some r→FnOk Tryz.prog 16 [.rc zd [0] x,kI deep] [kI r])∧(∀{v:zb} {deep:Int} {r:Int},zbA fuel v deep=some r→FnOk Tryz.prog 26 [.rc za [0] v,kI deep] [kI r]):=by
  induction fuel with
  | zero=>exact ⟨fun h=>absurd h nofun,fun h=>absurd h nofun⟩
  | succ fuel ih=>exact ⟨fun h=>zoH (fun hh=>ih.1 hh) (fun hh=>ih.2 hh) h,fun h=>zlA (fun hh=>ih.1 hh) (fun hh=>ih.2 hh) h⟩
theorem zks {fuel:Nat} {x:zc} {deep:Int} {r:Int} (h:zbL fuel x deep=some r):FnOk Tryz.prog 16 [.rc zd [0] x,kI deep] [kI r]:=(zfU fuel).1 h
theorem zhr {sv:(List zb)} {r:(List zb)} (h:zbm sv=some r):FnOk Tryz.prog 77 [.sl za [0] sv] [.own za 50 2 [0] r]:=by
 refine zC (E:=⟨[(2,.own za 50 2 [0] r)],[]⟩) 8 Tryz.func77 rfl rfl rfl ⟨rfl,trivial⟩ (fun Xt=>?_)
 refine zp ?_
 unfold zbm at h
 refine jp ?_
 have hn1:=zqe h
 refine zrB 1 4 true ⟨[(0,.sl za [0] sv),(3,.sl za [0] sv)],[]⟩ ⟨[(0,.sl za [0] sv),(4,kB true)],[]⟩ ⟨[(0,.sl za [0] sv),(4,kB false)],[]⟩ (by kernel_rfl) rfl rfl rfl (by kernel_rfl) rfl Tryz.underlying27 rfl (zJ _ _ _) (by kernel_rfl) (by kernel_rfl) (fun hx_=>?_) ?_
 ·
  replace h:=hn1.1 hx_
  refine jT rfl ?_
  refine jp ?_
  obtain rfl:=sj h
  refine zz ?_
  refine zbX ⟨[(2,kN)],[]⟩ (by kernel_rfl) ?_
  refine zdF 2 (.own za 50 2 [0] ([]:(List zb))) rfl (zbv za 50 2 [0] rfl) ?_
  exact lzz
 replace h:=hn1.2
 refine jF rfl ?_
 obtain ⟨v,h_v,h⟩:=bnd h
 refine jr (rc 0 rfl (zfk [] 12 [] ([]:(List zb)) rfl zkQ rfl rfl rfl rfl) (ra 1 [.own za 50 12 [] ([]:(List zb)),.sl za [0] sv] rfl (zjS 12 [0] rfl zkQ.el rfl (zfq _ _ _ _ _) (zJ _ _ _) h_v (.inr rfl) rfl) rfl rf)) ?_
 obtain rfl:=sj h
 refine zz ?_
 refine lk [2] [] 12 2 ?_
 exact lzz
theorem zge {sv:(List Str)} {r:(List Str)} (h:zbN sv=some r):FnOk Tryz.prog 78 [.sl Rp.str [0] sv] [.own Rp.str 9 2 [] r]:=by
 refine zC (E:=⟨[(2,.own Rp.str 9 2 [] r)],[]⟩) 8 Tryz.func78 rfl rfl rfl ⟨rfl,trivial⟩ (fun Xt=>?_)
 refine zp ?_
 unfold zbN at h
 refine jp ?_
 have hn1:=zqe h
 refine zrB 1 4 true ⟨[(0,.sl Rp.str [0] sv),(3,.sl Rp.str [0] sv)],[]⟩ ⟨[(0,.sl Rp.str [0] sv),(4,kB true)],[]⟩ ⟨[(0,.sl Rp.str [0] sv),(4,kB false)],[]⟩ (by kernel_rfl) rfl rfl rfl (by kernel_rfl) rfl Tryz.underlying28 rfl (zJ _ _ _) (by kernel_rfl) (by kernel_rfl) (fun hx_=>?_) ?_
 ·
  replace h:=hn1.1 hx_
  refine jT rfl ?_
  refine jp ?_
  obtain rfl:=sj h
  refine zz ?_
  refine zbX ⟨[(2,kN)],[]⟩ (by kernel_rfl) ?_
  refine zdF 2 (.own Rp.str 9 2 [] ([]:(List Str))) rfl (zbv Rp.str 9 2 [] rfl) ?_
  exact lzz
 replace h:=hn1.2
 refine jF rfl ?_
 obtain ⟨v,h_v,h⟩:=bnd h
 refine jr (rc 0 rfl (zfk [] 12 [] ([]:(List Str)) rfl zif rfl rfl rfl rfl) (ra 1 [.own Rp.str 9 12 [] ([]:(List Str)),.sl Rp.str [0] sv] rfl (zjS 12 [] rfl zif.el rfl (zfq _ _ _ _ _) (zJ _ _ _) h_v (.inl zsV) rfl) rfl rf)) ?_
 obtain rfl:=sj h
 refine zz ?_
 refine lk [2] [] 12 2 ?_
 exact lzz
theorem zjt {sv:(List Int)} {r:(List Int)} (h:zcv sv=some r):FnOk Tryz.prog 101 [.sl (Rp.int .u64) [0] sv] [.own (Rp.int .u64) 75 2 [] r]:=by
 refine zC (E:=⟨[(2,.own (Rp.int .u64) 75 2 [] r)],[]⟩) 8 Tryz.func101 rfl rfl rfl ⟨rfl,trivial⟩ (fun Xt=>?_)
 refine zp ?_
 unfold zcv at h
 refine jp ?_
 have hn1:=zqe h
 refine zrB 1 4 true ⟨[(0,.sl (Rp.int .u64) [0] sv),(3,.sl (Rp.int .u64) [0] sv)],[]⟩ ⟨[(0,.sl (Rp.int .u64) [0] sv),(4,kB true)],[]⟩ ⟨[(0,.sl (Rp.int .u64) [0] sv),(4,kB false)],[]⟩ (by kernel_rfl) rfl rfl rfl (by kernel_rfl) rfl Tryz.underlying47 rfl (zJ _ _ _) (by kernel_rfl) (by kernel_rfl) (fun hx_=>?_) ?_
 ·
  replace h:=hn1.1 hx_
  refine jT rfl ?_
  refine jp ?_
  obtain rfl:=sj h
  refine zz ?_
  refine zbX ⟨[(2,kN)],[]⟩ (by kernel_rfl) ?_
  refine zdF 2 (.own (Rp.int .u64) 75 2 [] ([]:(List Int))) rfl (zbv (Rp.int .u64) 75 2 [] rfl) ?_
  exact lzz
 replace h:=hn1.2
 refine jF rfl ?_
 obtain ⟨v,h_v,h⟩:=bnd h
 refine jr (rc 0 rfl (zfk [] 12 [] ([]:(List Int)) rfl zld rfl rfl rfl rfl) (ra 1 [.own (Rp.int .u64) 75 12 [] ([]:(List Int)),.sl (Rp.int .u64) [0] sv] rfl (zjS 12 [] rfl zld.el rfl (zfq _ _ _ _ _) (zJ _ _ _) h_v (.inl (zsU _)) rfl) rfl rf)) ?_
 obtain rfl:=sj h
 refine zz ?_
 refine lk [2] [] 12 2 ?_
 exact lzz
theorem zim {sv:(List zc)} {r:(List zc)} (h:zbW sv=some r):FnOk Tryz.prog 102 [.sl zd [0] sv] [.own zd 30 2 [0] r]:=by
 refine zC (E:=⟨[(2,.own zd 30 2 [0] r)],[]⟩) 8 Tryz.func102 rfl rfl rfl ⟨rfl,trivial⟩ (fun Xt=>?_)
 refine zp ?_
 unfold zbW at h
 refine jp ?_
 have hn1:=zqe h
 refine zrB 1 4 true ⟨[(0,.sl zd [0] sv),(3,.sl zd [0] sv)],[]⟩ ⟨[(0,.sl zd [0] sv),(4,kB true)],[]⟩ ⟨[(0,.sl zd [0] sv),(4,kB false)],[]⟩ (by kernel_rfl) rfl rfl rfl (by kernel_rfl) rfl Tryz.underlying48 rfl (zJ _ _ _) (by kernel_rfl) (by kernel_rfl) (fun hx_=>?_) ?_
 ·
  replace h:=hn1.1 hx_
  refine jT rfl ?_
  refine jp ?_
  obtain rfl:=sj h
  refine zz ?_
  refine zbX ⟨[(2,kN)],[]⟩ (by kernel_rfl) ?_
  refine zdF 2 (.own zd 30 2 [0] ([]:(List zc))) rfl (zbv zd 30 2 [0] rfl) ?_
  exact lzz
 replace h:=hn1.2
 refine jF rfl ?_
 obtain ⟨v,h_v,h⟩:=bnd h
 refine jr (rc 0 rfl (zfk [] 12 [] ([]:(List zc)) rfl zoG rfl rfl rfl rfl) (ra 1 [.own zd 30 12 [] ([]:(List zc)),.sl zd [0] sv] rfl (zjS 12 [0] rfl zoG.el rfl (zfq _ _ _ _ _) (zJ _ _ _) h_v (.inr rfl) rfl) rfl rf)) ?_
 obtain rfl:=sj h
 refine zz ?_
 refine lk [2] [] 12 2 ?_
 exact lzz
theorem zwx {x:zc} {r:(zb×Bool)} (h:zri x=some r):FnOk Tryz.prog 46 [.rc zd [0] x] [.ag [kI r.1.Number,.sl (Rp.int .u64) [0] r.1.Words,.sl Rp.str [0] r.1.Texts,.sl zd [0] r.1.Subs],kB r.2]:=by
 refine zC (E:=⟨[(2,.ptr 2 0),(3,kB r.2)],[⟨2,50,[kI r.1.Number,.sl (Rp.int .u64) [0] r.1.Words,.sl Rp.str [0] r.1.Texts,.sl zd [0] r.1.Subs]⟩]⟩) 13 Tryz.func46 rfl rfl rfl ⟨⟨_,_,rfl,rfl,rfl,⟨Tryz.isAgg50,Tryz.sizeOf50⟩⟩,rfl,trivial⟩ (fun Xt=>?_)
 refine zp ?_
 unfold zri at h
 refine jr (ra 0 [.rc zd [0] x] rfl (zcb 13 [.sl za [0] x.Values,.sl Rp.str [0] x.Unknown] [0] rfl rfl rfl (by rw [zo]<;>rfl) rfl) rfl (rfl' [14])) ?_
 refine jp ?_
 rcases zm h with ⟨hc1,h⟩| ⟨hc1,h⟩
 ·
  refine jT hc1 ?_
  refine jr (ra 0 [] rfl (zeP [] [kI 0,kN,kN,kN] rfl zCZ rfl) rfl rf) ?_
  obtain rfl:=sj h
  refine zz ?_
  refine lk [2,3] [14] 14 2 ?_
  refine zbX ⟨[(2,.ptr 2 0),(3,kB false)],[⟨2,50,[kI 0,kN,kN,kN]⟩]⟩ (by kernel_rfl) ?_
  refine zdN 2 1 (.sl (Rp.int .u64) [0] (((⟨0,[],[],[]⟩:zb),false):(zb×Bool)).1.Words) rfl rfl (zgz (Rp.int .u64) [0]) ?_
  refine zdN 2 2 (.sl Rp.str [0] (((⟨0,[],[],[]⟩:zb),false):(zb×Bool)).1.Texts) rfl rfl (zgz Rp.str [0]) ?_
  refine zdN 2 3 (.sl zd [0] (((⟨0,[],[],[]⟩:zb),false):(zb×Bool)).1.Subs) rfl rfl (zgz zd [0]) ?_
  exact lzz
 refine jF hc1 ?_
 obtain ⟨x2,h_x2,h⟩:=bnd h
 refine jr (ra 2 [.sl za [0] x.Values,kI 0] rfl (zao rfl zkQ.el (zJ _ _ _) h_x2) rfl (ra 0 [.ep za [0] x2 0] rfl (zci rfl ⟨Tryz.isAgg50,Tryz.sizeOf50⟩) rfl (ra 0 [.ptr 14 0,.rc za [0] x2] rfl (zgA (r:=za) (b:=⟨14,50,[kI 0,kN,kN,kN]⟩) (off:=0) [kI x2.Number,.sl (Rp.int .u64) [0] x2.Words,.sl Rp.str [0] x2.Texts,.sl zd [0] x2.Subs] rfl Tryz.sizeOf50 rfl rfl (by rw [zq]<;>rfl) rfl) rfl rf))) ?_
 obtain rfl:=sj h
 refine zz ?_
 refine lk [2,3] [14] 14 2 ?_
 exact lzz
theorem zqr {x:zc} {number:Int} {r:Int} (h:zgy x number=some r):FnOk Tryz.prog 20 [.rc zd [0] x,kI number] [kI r]:=by
 refine zC (E:=⟨[(4,kI r)],[]⟩) 22 Tryz.func20 rfl rfl rfl ⟨rfl,trivial⟩ (fun Xt=>?_)
 refine zp ?_
 unfold zgy at h
 refine jr (ra 0 [.rc zd [0] x] rfl (zcb 11 [.sl za [0] x.Values,.sl Rp.str [0] x.Unknown] [0] rfl rfl rfl (by rw [zo]<;>rfl) rfl) rfl rf) ?_
 refine jp ?_
 refine zA ?_
 obtain ⟨q,h_q,h⟩:=bnd h
 refine zal (fun s:Int=>zbx number x s) (fun s=>⟨[(1,kI number),(2,.ptr 11 0),(5,kI s)],[⟨11,39,[.sl za [0] x.Values,.sl Rp.str [0] x.Unknown]⟩]⟩) (fun o e a w=>match o with| (.inl v_)=>e= .exit 0∧Sx ⟨⟨22,[]⟩,Xt,false,#[]⟩ ⟨[],[]⟩ a w| (.inr v_)=>e= .ret∧Sx ⟨⟨22,[]⟩,Xt,false,#[]⟩ ⟨[(4,kI v_)],[]⟩ a w) ?_ h_q lzz ?_
 ·
  clear h
  intro i o h
  refine zp ?_
  replace h:zbx number x i=some o:=h
  unfold zbx at h
  refine jp ?_
  rcases zm h with ⟨hc1,h⟩| ⟨hc1,h⟩
  ·
   refine jT hc1 ?_
   refine zA ?_
   obtain ⟨x2,h_x2,h⟩:=bnd h
   refine jr (ra 3 [.sl za [0] x.Values,kI i] rfl (zao rfl zlY.el (zJ _ _ _) h_x2) rfl (ra 1 [.ep za [0] x2 0] rfl (zsL (.int .i64 x2.Number) rfl rfl (by rw [zq]<;>rfl) rfl) rfl rf)) ?_
   rcases zm h with ⟨hc2,h⟩| ⟨hc2,h⟩
   ·
    refine jT hc2 ?_
    refine jp ?_
    obtain rfl:=sj h
    exact zaZ lzz
   refine jF hc2 ?_
   refine zag ?_
   refine jp ?_
   obtain rfl:=sj h
   exact zL lzz
  refine jF hc1 ?_
  obtain rfl:=sj h
  exact zam rfl lzz
 rcases q with u| u2
 ·
  refine zaD _ rfl ?_
  refine jp ?_
  obtain rfl:=sj h
  exact zz lzz
 obtain rfl:=sj h
 exact zcK lzz
theorem zpC {f:ze} {v:Int} {r:Bool} (h:zgd f v=some r):FnOk Tryz.prog 97 [.rc zf [0] f,.ep (Rp.int .i64) [0] v 0] [kB r]:=by
 refine zC (E:=⟨[(3,kB r)],[]⟩) 8 Tryz.func97 rfl rfl rfl ⟨rfl,trivial⟩ (fun Xt=>?_)
 refine zp ?_
 unfold zgd at h
 refine jq [11] ?_
 refine jp ?_
 obtain rfl:=sj h
 exact zz lzz
theorem zju {s1:(List Int)} {s2:(List Int)} {r:Bool} (h:zcw s1 s2=some r):FnOk Tryz.prog 99 [.sl (Rp.int .u64) [0] s1,.sl (Rp.int .u64) [0] s2] [kB r]:=by
 refine zC (E:=⟨[(4,kB r)],[]⟩) 26 Tryz.func99 rfl rfl rfl ⟨rfl,trivial⟩ (fun Xt=>?_)
 refine zp ?_
 unfold zcw at h
 refine jp ?_
 refine jp ?_
 rcases zm h with ⟨hc1,h⟩| ⟨hc1,h⟩
 ·
  refine jT hc1 ?_
  refine jp ?_
  obtain rfl:=sj h
  exact zz lzz
 refine jF hc1 ?_
 refine jp ?_
 refine zA ?_
 obtain ⟨q,h_q,h⟩:=bnd h
 refine zal (fun s:Int=>zak s1 s2 s) (fun s=>⟨[(0,.sl (Rp.int .u64) [0] s1),(1,.sl (Rp.int .u64) [0] s2),(12,kI (s1.length:Int)),(13,kI s)],[]⟩) (fun o e a w=>match o with| (.inl v_)=>e= .exit 0∧Sx ⟨⟨26,[]⟩,Xt,false,#[]⟩ ⟨[],[]⟩ a w| (.inr v_)=>e= .ret∧Sx ⟨⟨26,[]⟩,Xt,false,#[]⟩ ⟨[(4,kB false)],[]⟩ a w) ?_ h_q lzz ?_
 ·
  clear h
  intro v o h
  refine zp ?_
  replace h:zak s1 s2 v=some o:=h
  unfold zak at h
  refine jp ?_
  rcases zm h with ⟨hc2,h⟩| ⟨hc2,h⟩
  ·
   refine jT hc2 ?_
   refine zA ?_
   refine jp ?_
   obtain ⟨x,h_x,h⟩:=bnd h
   obtain ⟨x2,h_x2,h⟩:=bnd h
   refine jd [0,1,12,13,24] [] zcc (by exact (lw_e (lw_e (ly [.sl (Rp.int .u64) [0] s1,kI v] (zao rfl zld.el (zJ _ _ _) h_x) rfl (lw_e (lw_e (lw_e (ly [.sl (Rp.int .u64) [0] s2,kI v] (zao rfl zld.el (zJ _ _ _) h_x2) rfl l0)))))))) ?_
   rcases zm h with ⟨hc3,h⟩| ⟨hc3,h⟩
   ·
    refine jT hc3 ?_
    refine jp ?_
    obtain rfl:=sj h
    exact zaZ lzz
   refine jF hc3 ?_
   refine zag ?_
   refine jp ?_
   obtain rfl:=sj h
   exact zL lzz
  refine jF hc2 ?_
  obtain rfl:=sj h
  exact zam rfl lzz
 rcases q with u| u2
 ·
  refine zaD _ rfl ?_
  refine jp ?_
  obtain rfl:=sj h
  exact zz lzz
 obtain rfl:=sj h
 exact zcK lzz
theorem zgf {s1:(List Str)} {s2:(List Str)} {r:Bool} (h:zbQ s1 s2=some r):FnOk Tryz.prog 76 [.sl Rp.str [0] s1,.sl Rp.str [0] s2] [kB r]:=by
 refine zC (E:=⟨[(4,kB r)],[]⟩) 26 Tryz.func76 rfl rfl rfl ⟨rfl,trivial⟩ (fun Xt=>?_)
 refine zp ?_
 unfold zbQ at h
 refine jp ?_
 refine jp ?_
 rcases zm h with ⟨hc1,h⟩| ⟨hc1,h⟩
 ·
  refine jT hc1 ?_
  refine jp ?_
  obtain rfl:=sj h
  exact zz lzz
 refine jF hc1 ?_
 refine jp ?_
 refine zA ?_
 obtain ⟨q,h_q,h⟩:=bnd h
 refine zal (fun s:Int=>zaj s1 s2 s) (fun s=>⟨[(0,.sl Rp.str [0] s1),(1,.sl Rp.str [0] s2),(12,kI (s1.length:Int)),(13,kI s)],[]⟩) (fun o e a w=>match o with| (.inl v_)=>e= .exit 0∧Sx ⟨⟨26,[]⟩,Xt,false,#[]⟩ ⟨[],[]⟩ a w| (.inr v_)=>e= .ret∧Sx ⟨⟨26,[]⟩,Xt,false,#[]⟩ ⟨[(4,kB false)],[]⟩ a w) ?_ h_q lzz ?_
 ·
  clear h
  intro v o h
  refine zp ?_
  replace h:zaj s1 s2 v=some o:=h
  unfold zaj at h
  refine jp ?_
  rcases zm h with ⟨hc2,h⟩| ⟨hc2,h⟩
  ·
   refine jT hc2 ?_
   refine zA ?_
   refine jp ?_
   obtain ⟨x,h_x,h⟩:=bnd h
   obtain ⟨x2,h_x2,h⟩:=bnd h
   refine jd [0,1,12,13,24] [] zcc (by exact (lw_e (lw_e (ly [.sl Rp.str [0] s1,kI v] (zao rfl zif.el (zJ _ _ _) h_x) rfl (lw_e (lw_e (lw_e (ly [.sl Rp.str [0] s2,kI v] (zao rfl zif.el (zJ _ _ _) h_x2) rfl l0)))))))) ?_
   rcases zm h with ⟨hc3,h⟩| ⟨hc3,h⟩
   ·
    refine jT hc3 ?_
    refine jp ?_
    obtain rfl:=sj h
    exact zaZ lzz
   refine jF hc3 ?_
   refine zag ?_
   refine jp ?_
   obtain rfl:=sj h
   exact zL lzz
  refine jF hc2 ?_
  obtain rfl:=sj h
  exact zam rfl lzz
 rcases q with u| u2
 ·
  refine zaD _ rfl ?_
  refine jp ?_
  obtain rfl:=sj h
  exact zz lzz
 obtain rfl:=sj h
 exact zcK lzz
end Go.Proofs.YtcbkcblkecmjnaaGreat
