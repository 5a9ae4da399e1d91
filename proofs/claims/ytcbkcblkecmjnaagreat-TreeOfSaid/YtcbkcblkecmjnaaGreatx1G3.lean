/-
  The Go functions do what the plain functions say. No condition.
-/
import Derived.Test.YtcbkcblkecmjnaaGreatx1T
namespace Go.Proofs.YtcbkcblkecmjnaaGreat
open Go Go.RowKit
set_option linter.unusedVariables false
set_option maxRecDepth 100000
set_option maxHeartbeats 3200000
theorem zlz {m:zh} {r:(List Int)} (h:zdV m=some r):FnOk Tryz.prog 37 [.rc zi [0] m] [.own (Rp.int .i64) 3 2 [] r]:=by
 refine zB (E:=⟨[(2,.own (Rp.int .i64) 3 2 [] r)],[]⟩) 53 Tryz.func37 rfl rfl rfl ⟨rfl,trivial⟩ (fun Xt=>?_)
 refine zr ?_
 unfold zdV at h
 refine jr (ra 0 [.rc zi [0] m] rfl (zeC 15 [kS m.Name,.sl za [0] m.Fields] [0] rfl rfl rfl rfl rfl) rfl rf) ?_
 refine jp ?_
 refine jp ?_
 refine zy ?_
 obtain ⟨q2,h_q2,h⟩:=bnd h
 refine zah (fun s:((List Int)×Int)=>zaJ m s.1 s.2) (fun s=>⟨[(1,.ptr 15 0),(3,.own (Rp.int .i64) 3 18 [] s.1),(4,kI s.2)],[⟨15,73,[kS m.Name,.sl za [0] m.Fields]⟩]⟩) (fun o e a w=>e= .exit 0∧Sx ⟨⟨53,[]⟩,Xt,false,#[]⟩ ⟨[(3,.own (Rp.int .i64) 3 18 [] o)],[]⟩ a w) ?_ h_q2 ?_ ?_
 ·
  clear h
  intro s o h
  obtain ⟨out,i⟩:=s
  refine zr ?_
  replace h:zaJ m out i=some o:=h
  unfold zaJ at h
  refine jp ?_
  rcases zn h with ⟨hc1,h⟩| ⟨hc1,h⟩
  ·
   refine jT hc1 ?_
   refine zy ?_
   refine jp ?_
   refine zy ?_
   obtain ⟨q,h_q,h⟩:=bnd h
   refine zah (fun s:Int=>zax i m out s) (fun s=>⟨[(1,.ptr 15 0),(3,.own (Rp.int .i64) 3 18 [] out),(4,kI i),(5,kI s)],[⟨15,73,[kS m.Name,.sl za [0] m.Fields]⟩]⟩) (fun o e a w=>e= .exit 2∧Sx ⟨⟨53,[]⟩,Xt,false,#[]⟩ ⟨[(1,.ptr 15 0),(3,.own (Rp.int .i64) 3 18 [] out),(4,kI i),(5,kI o)],[⟨15,73,[kS m.Name,.sl za [0] m.Fields]⟩]⟩ a w) ?_ h_q lzz ?_
   ·
    clear h
    intro k o h
    refine zr ?_
    replace h:zax i m out k=some o:=h
    unfold zax at h
    obtain ⟨g,h_g,h⟩:=bnd h
    refine zbV (R:=fun e a w=>e= .normal∧Sx ⟨⟨53,[]⟩,Xt,false,#[]⟩ ⟨[(1,.ptr 15 0),(3,.own (Rp.int .i64) 3 18 [] out),(4,kI i),(5,kI k),(35,kB g)],[⟨15,73,[kS m.Name,.sl za [0] m.Fields]⟩]⟩ a w) ?_ (zdw ?_)
    ·
     refine zr ?_
     rcases Bool.eq_false_or_eq_true (decide (k<(out.length:Int))) with hc2| hc2
     ·
      replace h_g:=iteT h_g hc2
      obtain ⟨x,h_x,h_g⟩:=bnd h_g
      obtain ⟨x2,h_x2,h_g⟩:=bnd h_g
      obtain ⟨x3,h_x3,h_g⟩:=bnd h_g
      obtain rfl:=sj h_g
      refine jd [1,3,4,5,35] [15] zcy (by exact (lw_e (lw_e (lw_e (lw_e (lx (zgT ⟨[(17,kB (decide (k<(out.length:Int))))],[]⟩ (by kernel_rfl) hc2) (lw_e (lw_e (lw_e (lw_e (ly [.own (Rp.int .i64) 3 18 [] out,kI k] (zao rfl zhD.el (zay _ _ _ _ _) h_x) rfl (lw_e (ly [.sl za [0] m.Fields,kI x] (zao rfl ziD.el (zI _ _ _) h_x2) rfl (lw_e (lw_e (lw_e (lw_e (lw_e (ly [.sl za [0] m.Fields,kI i] (zao rfl ziD.el (zI _ _ _) h_x3) rfl l0))))))))))))))))))) ?_
      exact zE lzz
     replace h_g:=iteF h_g hc2
     obtain rfl:=sj h_g
     refine jd [1,3,4,5,35] [15] zcy (by exact (lw_e (lw_e (lw_e (lw_e (lx (zgT ⟨[(17,kB (decide (k<(out.length:Int))))],[]⟩ (by kernel_rfl) hc2) l0)))))) ?_
     exact zE lzz
    rcases zn h with ⟨hc3,h⟩| ⟨hc3,h⟩
    ·
     refine jT hc3 ?_
     refine zy ?_
     refine jp ?_
     refine zT ?_
     obtain rfl:=sj h
     exact zE lzz
    refine jF hc3 ?_
    obtain rfl:=sj h
    exact zai rfl lzz
   refine zaI _ rfl ?_
   obtain ⟨v2,h_v2,h⟩:=bnd h
   obtain ⟨v3,h_v3,h⟩:=bnd h
   refine jr (rc 0 rfl (zcP [] 20 [] ([]:(List Int)) rfl zhD rfl rfl rfl rfl) (ra 2 [.own (Rp.int .i64) 3 18 [] out,kI q] rfl (zeD none (some (kI q)) rfl zhD.el (zay _ _ _ _ _) ⟨rfl,rfl⟩ ⟨rfl,rfl⟩ h_v2) rfl (ra 0 [.own (Rp.int .i64) 3 20 [] ([]:(List Int)),.sl (Rp.int .i64) [18] v2] rfl (zeA 20 [] rfl zhD.el rfl (zbJ _ _ _ _ _) (zI _ _ _) h_v3 (.inl (zgy _)) rfl) rfl rf))) ?_
   obtain ⟨v4,h_v4,h⟩:=bnd h
   refine jr (rc 2 rfl (zcP [kI i] 21 [] ([i]:(List Int)) rfl zhD rfl rfl rfl rfl) (ra 0 [.own (Rp.int .i64) 3 20 [] v3,.own (Rp.int .i64) 3 21 [] ([i]:(List Int))] rfl (zeA 20 [] rfl zhD.el rfl (zbJ _ _ _ _ _) (zay _ _ _ _ _) h_v4 (.inl (zgy _)) rfl) rfl rf)) ?_
   obtain ⟨v5,h_v5,h⟩:=bnd h
   obtain ⟨v6,h_v6,h⟩:=bnd h
   refine jr (ra 3 [.own (Rp.int .i64) 3 18 [] out,kI q] rfl (zeD (some (kI q)) none rfl zhD.el (zay _ _ _ _ _) ⟨rfl,rfl⟩ ⟨rfl,rfl⟩ h_v5) rfl (ra 0 [.own (Rp.int .i64) 3 20 [] v4,.sl (Rp.int .i64) [18] v5] rfl (zeA 20 [] rfl zhD.el rfl (zbJ _ _ _ _ _) (zI _ _ _) h_v6 (.inl (zgy _)) rfl) rfl rf)) ?_
   refine zT ?_
   refine jp ?_
   obtain rfl:=sj h
   refine zE ?_
   refine lk [1,3,4] [15] 20 18 ?_
   exact lzz
  refine jF hc1 ?_
  obtain rfl:=sj h
  exact zai rfl lzz
 ·
  refine zbn ⟨[(1,.ptr 15 0),(3,kN),(4,kI 0)],[⟨15,73,[kS m.Name,.sl za [0] m.Fields]⟩]⟩ (by kernel_rfl) ?_
  refine zcK 3 (.own (Rp.int .i64) 3 18 [] []) rfl (zaj (Rp.int .i64) 3 18 [] rfl) ?_
  exact lzz
 refine zaI _ rfl ?_
 refine jp ?_
 obtain rfl:=sj h
 refine zx ?_
 refine lk [2] [] 18 2 ?_
 exact lzz
theorem zmE {b:(List UInt8)} {r:Int} (h:zeN b=some r):FnOk Tryz.prog 67 [.sl Rp.byte [0] b] [kU r]:=by
 refine zB (E:=⟨[(2,kU r)],[]⟩) 28 Tryz.func67 rfl rfl rfl ⟨rfl,trivial⟩ (fun Xt=>?_)
 refine zr ?_
 unfold zeN at h
 refine jp ?_
 refine jp ?_
 refine jp ?_
 refine zy ?_
 obtain ⟨q,h_q,h⟩:=bnd h
 refine zah (fun s:(Int×Int×Int)=>zaY b s.1 s.2.1 s.2.2) (fun s=>⟨[(0,.sl Rp.byte [0] b),(3,kU s.1),(4,kU s.2.1),(5,kI s.2.2)],[]⟩) (fun o e a w=>e= .exit 0∧Sx ⟨⟨28,[]⟩,Xt,false,#[]⟩ ⟨[(3,kU o)],[]⟩ a w) ?_ h_q lzz ?_
 ·
  clear h
  intro s o h
  obtain ⟨wv,place,i⟩:=s
  refine zr ?_
  replace h:zaY b wv place i=some o:=h
  unfold zaY at h
  refine zS ⟨[(0,.sl Rp.byte [0] b),(3,kU wv),(4,kU place),(5,kI i),(13,kB ((decide (i<(b.length:Int)))&&(decide (i<8))))],[]⟩ ?_ ?_
  ·
   refine (rsl 5 [] 10 (decide (i<(b.length:Int))) (fun hc1=>?_) (fun hc1=>?_))
   · exact (rbl [] 13 (decide (i<8)) ((decide (i<(b.length:Int)))&&(decide (i<8))) (by rw [hc1]<;>rfl))
   exact (rbl [] 13 false ((decide (i<(b.length:Int)))&&(decide (i<8))) (by rw [hc1]<;>rfl))
  rcases zn h with ⟨hc2,h⟩| ⟨hc2,h⟩
  ·
   refine jT hc2 ?_
   refine zy ?_
   obtain ⟨x,h_x,h⟩:=bnd h
   refine jr (ra 3 [.sl Rp.byte [0] b,kI i] rfl (zao rfl zcS.el (zI _ _ _) h_x) rfl rf) ?_
   refine jp ?_
   refine zT ?_
   refine jp ?_
   obtain rfl:=sj h
   exact zE lzz
  refine jF hc2 ?_
  obtain rfl:=sj h
  exact zai rfl lzz
 refine zaI _ rfl ?_
 refine jp ?_
 obtain rfl:=sj h
 exact zx lzz
theorem zly {wv:Int} {r:Int} (h:zdU wv=some r):FnOk Tryz.prog 85 [kU wv] [kI r]:=by
 refine zB (E:=⟨[(2,kI r)],[]⟩) 12 Tryz.func85 rfl rfl rfl ⟨rfl,trivial⟩ (fun Xt=>?_)
 refine zr ?_
 unfold zdU at h
 refine jp ?_
 refine jp ?_
 refine jp ?_
 rcases zn h with ⟨hc1,h⟩| ⟨hc1,h⟩
 ·
  refine jT hc1 ?_
  refine jp ?_
  refine jp ?_
  obtain rfl:=sj h
  exact zx lzz
 refine jF hc1 ?_
 refine jp ?_
 obtain rfl:=sj h
 exact zx lzz
theorem zmD {n:Int} {r:Int} (h:zeM n=some r):FnOk Tryz.prog 84 [kI n] [kU r]:=by
 refine zB (E:=⟨[(2,kU r)],[]⟩) 12 Tryz.func84 rfl rfl rfl ⟨rfl,trivial⟩ (fun Xt=>?_)
 refine zr ?_
 unfold zeM at h
 refine jp ?_
 refine jp ?_
 rcases zn h with ⟨hc1,h⟩| ⟨hc1,h⟩
 ·
  refine jT hc1 ?_
  refine jp ?_
  obtain rfl:=sj h
  exact zx lzz
 refine jF hc1 ?_
 refine jp ?_
 obtain rfl:=sj h
 exact zx lzz
theorem zmK {v:zb} {r:Int} (h:zeS v=some r):FnOk Tryz.prog 41 [.rc zd [0] v] [kI r]:=by
 refine zB (E:=⟨[(2,kI r)],[]⟩) 14 Tryz.func41 rfl rfl rfl ⟨rfl,trivial⟩ (fun Xt=>?_)
 refine zr ?_
 unfold zeS at h
 refine jr (ra 0 [.rc zd [0] v] rfl (zeC 11 [kI v.Number,.sl (Rp.int .u64) [0] v.Words,.sl Rp.str [0] v.Texts,.sl zj [0] v.Subs] [0] rfl rfl rfl (by rw [zL]<;>rfl) rfl) rfl rf) ?_
 refine jp ?_
 obtain rfl:=sj h
 exact zx lzz
theorem ztv {rec_tree_depth:ze→Int→Option Int} (hrec_tree_depth:∀{x:ze} {most:Int} {r:Int},rec_tree_depth x most=some r→FnOk Tryz.prog 42 [.rc zj [0] x,kI most] [kI r]) {x:ze} {most:Int} {r:Int} (h:zhu rec_tree_depth x most=some r):FnOk Tryz.prog 42 [.rc zj [0] x,kI most] [kI r]:=by
 refine zB (E:=⟨[(4,kI r)],[]⟩) 40 Tryz.func42 rfl rfl rfl ⟨rfl,trivial⟩ (fun Xt=>?_)
 refine zr ?_
 unfold zhu at h
 refine jr (ra 0 [.rc zj [0] x] rfl (zeC 11 [.sl zd [0] x.Values,.sl Rp.str [0] x.Unknown] [0] rfl rfl rfl (by rw [zO]<;>rfl) rfl) rfl rf) ?_
 refine jp ?_
 refine jp ?_
 refine zy ?_
 obtain ⟨q2,h_q2,h⟩:=bnd h
 refine zah (fun s:(Int×Int)=>zcT most rec_tree_depth x s.1 s.2) (fun s=>⟨[(1,kI most),(5,kI s.1),(11,.sl zd [0] x.Values),(12,kI (x.Values.length:Int)),(13,kI s.2)],[]⟩) (fun o e a w=>match o with| (.inl v_)=>e= .exit 0∧Sx ⟨⟨40,[]⟩,Xt,false,#[]⟩ ⟨[(5,kI v_)],[]⟩ a w| (.inr v_)=>e= .ret∧Sx ⟨⟨40,[]⟩,Xt,false,#[]⟩ ⟨[(4,kI v_)],[]⟩ a w) ?_ h_q2 lzz ?_
 ·
  clear h
  intro s o h
  obtain ⟨deep,v⟩:=s
  refine zr ?_
  replace h:zcT most rec_tree_depth x deep v=some o:=h
  unfold zcT at h
  refine jp ?_
  rcases zn h with ⟨hc1,h⟩| ⟨hc1,h⟩
  ·
   refine jT hc1 ?_
   refine zy ?_
   obtain ⟨x2,h_x2,h⟩:=bnd h
   refine jr (ra 0 [.sl zd [0] x.Values,kI v] rfl (zao rfl zve.el (zI _ _ _) h_x2) rfl (ra 0 [.ep zd [0] x2 0] rfl (zdm rfl ⟨Tryz.isAgg50,Tryz.sizeOf50⟩) rfl (ral 1 [13] [.ptr 13 0,.rc zd [0] x2] rfl (zkG (r:=zd) (b:=⟨13,50,[kI 0,kN,kN,kN]⟩) (off:=0) [kI x2.Number,.sl (Rp.int .u64) [0] x2.Words,.sl Rp.str [0] x2.Texts,.sl zj [0] x2.Subs] rfl Tryz.sizeOf50 rfl rfl (by rw [zL]<;>rfl) rfl) rfl rf))) ?_
   refine jp ?_
   refine zy ?_
   obtain ⟨q,h_q,h⟩:=bnd h
   refine zah (fun s:(Int×Int)=>zcU most rec_tree_depth x2 s.1 s.2) (fun s=>⟨[(1,kI most),(5,kI s.1),(11,.sl zd [0] x.Values),(12,kI (x.Values.length:Int)),(13,kI v),(18,.sl zj [0] x2.Subs),(19,kI (x2.Subs.length:Int)),(20,kI s.2)],[]⟩) (fun o e a w=>match o with| (.inl v_)=>e= .exit 2∧Sx ⟨⟨40,[]⟩,Xt,false,#[]⟩ ⟨[(1,kI most),(5,kI v_),(11,.sl zd [0] x.Values),(12,kI (x.Values.length:Int)),(13,kI v)],[]⟩ a w| (.inr v_)=>e= .ret∧Sx ⟨⟨40,[]⟩,Xt,false,#[]⟩ ⟨[(4,kI v_)],[]⟩ a w) ?_ h_q lzz ?_
   ·
    clear h
    intro s o h
    obtain ⟨deep3,v3⟩:=s
    refine zr ?_
    replace h:zcU most rec_tree_depth x2 deep3 v3=some o:=h
    unfold zcU at h
    refine jp ?_
    rcases zn h with ⟨hc2,h⟩| ⟨hc2,h⟩
    ·
     refine jT hc2 ?_
     refine zy ?_
     obtain ⟨x3,h_x3,h⟩:=bnd h
     refine jr (ra 0 [.sl zj [0] x2.Subs,kI v3] rfl (zao rfl zAz.el (zI _ _ _) h_x3) rfl (ra 0 [.ep zj [0] x3 0] rfl (zdm rfl ⟨Tryz.isAgg30,Tryz.sizeOf30⟩) rfl (ral 1 [15] [.ptr 15 0,.rc zj [0] x3] rfl (zkG (r:=zj) (b:=⟨15,30,[kN,kN]⟩) (off:=0) [.sl zd [0] x3.Values,.sl Rp.str [0] x3.Unknown] rfl Tryz.sizeOf30 rfl rfl (by rw [zO]<;>rfl) rfl) rfl rf))) ?_
     refine jp ?_
     rcases zn h with ⟨hc3,h⟩| ⟨hc3,h⟩
     ·
      refine jT hc3 ?_
      refine jp ?_
      obtain rfl:=sj h
      exact zbq lzz
     refine jF hc3 ?_
     obtain ⟨rv,h_rv,h⟩:=bnd h
     refine jr (rc 4 rfl (zH.le (ins':=[(.tmp 27,.ag [.sl zd [0] x3.Values,.sl Rp.str [0] x3.Unknown]),(.tmp 29,kI (IntKind.i64.wrap (most - 1)))]) (zce (args:=[.tmp 27,.tmp 29]) [.rc zj [0] x3,kI (IntKind.i64.wrap (most - 1))] [0] 14 rfl Tryz.call42 (hrec_tree_depth h_rv) rfl rfl rfl rfl rfl) ⟨⟨rfl,zcw zj [0] x3 [.sl zd [0] x3.Values,.sl Rp.str [0] x3.Unknown] (by rw [zO]<;>rfl) rfl⟩,⟨rfl,AV.le_refl _⟩,trivial⟩) rf) ?_
     refine jp ?_
     rcases zn h with ⟨hc4,h⟩| ⟨hc4,h⟩
     ·
      refine jT hc4 ?_
      refine jp ?_
      obtain rfl:=sj h
      exact zbq lzz
     refine jF hc4 ?_
     refine zT ?_
     refine jp ?_
     obtain rfl:=sj h
     exact zE lzz
    refine jF hc2 ?_
    obtain rfl:=sj h
    exact zai rfl lzz
   rcases q with u| u2
   ·
    refine zaI _ rfl ?_
    refine zT ?_
    refine jp ?_
    obtain rfl:=sj h
    exact zE lzz
   obtain rfl:=sj h
   exact zrG lzz
  refine jF hc1 ?_
  obtain rfl:=sj h
  exact zai rfl lzz
 rcases q2 with u3| u4
 ·
  refine zaI _ rfl ?_
  refine jp ?_
  obtain rfl:=sj h
  exact zx lzz
 obtain rfl:=sj h
 exact zed lzz
theorem ztY {fuel:Nat} {x:ze} {most:Int} {r:Int} (h:zfh fuel x most=some r):FnOk Tryz.prog 42 [.rc zj [0] x,kI most] [kI r]:=by
  induction fuel generalizing x most r with
  | zero=>exact absurd h nofun
  | succ fuel ih=>exact ztv (fun hh=>ih hh) h
theorem zlB {rec_darningref14_Depth:ze→Option Int} (hrec_darningref14_Depth:∀{x:ze} {r:Int},rec_darningref14_Depth x=some r→FnOk Tryz.prog 15 [.rc zj [0] x] [kI r]) {x:ze} {r:Int} (h:zdH rec_darningref14_Depth x=some r):FnOk Tryz.prog 15 [.rc zj [0] x] [kI r]:=by
 refine zB (E:=⟨[(2,kI r)],[]⟩) 38 Tryz.func15 rfl rfl rfl ⟨rfl,trivial⟩ (fun Xt=>?_)
 refine zr ?_
 unfold zdH at h
 refine jr (ra 0 [.rc zj [0] x] rfl (zeC 11 [.sl zd [0] x.Values,.sl Rp.str [0] x.Unknown] [0] rfl rfl rfl (by rw [zO]<;>rfl) rfl) rfl rf) ?_
 refine jp ?_
 refine jp ?_
 refine zy ?_
 obtain ⟨q2,h_q2,h⟩:=bnd h
 refine zah (fun s:(Int×Int)=>zaT rec_darningref14_Depth x s.1 s.2) (fun s=>⟨[(1,.ptr 11 0),(3,kI s.1),(4,kI s.2)],[⟨11,39,[.sl zd [0] x.Values,.sl Rp.str [0] x.Unknown]⟩]⟩) (fun o e a w=>e= .exit 0∧Sx ⟨⟨38,[]⟩,Xt,false,#[]⟩ ⟨[(3,kI o)],[]⟩ a w) ?_ h_q2 lzz ?_
 ·
  clear h
  intro s o h
  obtain ⟨d,i⟩:=s
  refine zr ?_
  replace h:zaT rec_darningref14_Depth x d i=some o:=h
  unfold zaT at h
  refine jp ?_
  rcases zn h with ⟨hc1,h⟩| ⟨hc1,h⟩
  ·
   refine jT hc1 ?_
   refine zy ?_
   refine jp ?_
   refine zy ?_
   obtain ⟨q,h_q,h⟩:=bnd h
   refine zah (fun s:(Int×Int)=>zaU i rec_darningref14_Depth x s.1 s.2) (fun s=>⟨[(1,.ptr 11 0),(3,kI s.1),(4,kI i),(5,kI s.2)],[⟨11,39,[.sl zd [0] x.Values,.sl Rp.str [0] x.Unknown]⟩]⟩) (fun o e a w=>e= .exit 2∧Sx ⟨⟨38,[]⟩,Xt,false,#[]⟩ ⟨[(1,.ptr 11 0),(3,kI o),(4,kI i)],[⟨11,39,[.sl zd [0] x.Values,.sl Rp.str [0] x.Unknown]⟩]⟩ a w) ?_ h_q lzz ?_
   ·
    clear h
    intro s o h
    obtain ⟨d3,k⟩:=s
    refine zr ?_
    replace h:zaU i rec_darningref14_Depth x d3 k=some o:=h
    unfold zaU at h
    obtain ⟨x2,h_x2,h⟩:=bnd h
    refine jr (ra 4 [.sl zd [0] x.Values,kI i] rfl (zao rfl zrj.el (zI _ _ _) h_x2) rfl (ra 1 [.ep zd [0] x2 3] rfl (zga zj x2.Subs rfl rfl (by rw [zL]<;>rfl)) rfl rf)) ?_
    rcases zn h with ⟨hc2,h⟩| ⟨hc2,h⟩
    ·
     refine jT hc2 ?_
     refine zy ?_
     obtain ⟨x3,h_x3,h⟩:=bnd h
     obtain ⟨x4,h_x4,h⟩:=bnd h
     obtain ⟨rv,h_rv,h⟩:=bnd h
     refine jr (ra 4 [.sl zd [0] x.Values,kI i] rfl (zao rfl zrj.el (zI _ _ _) h_x3) rfl (ra 1 [.ep zd [0] x3 3] rfl (zga zj x3.Subs rfl rfl (by rw [zL]<;>rfl)) rfl (ra 1 [.sl zj [0] x3.Subs,kI k] rfl (zao rfl zrk.el (zI _ _ _) h_x4) rfl (ra 0 [.ep zj [0] x4 0] rfl (zdm rfl ⟨Tryz.isAgg39,Tryz.sizeOf39⟩) rfl (rl 0 [0] 12 Tryz.call15 (hrec_darningref14_Depth h_rv) rf))))) ?_
     refine zT ?_
     refine jp ?_
     obtain rfl:=sj h
     exact zE lzz
    refine jF hc2 ?_
    obtain rfl:=sj h
    exact zai rfl lzz
   refine zaI _ rfl ?_
   refine zT ?_
   refine jp ?_
   obtain rfl:=sj h
   exact zE lzz
  refine jF hc1 ?_
  obtain rfl:=sj h
  exact zai rfl lzz
 refine zaI _ rfl ?_
 refine jp ?_
 obtain rfl:=sj h
 exact zx lzz
theorem zmq {fuel:Nat} {x:ze} {r:Int} (h:zbK fuel x=some r):FnOk Tryz.prog 15 [.rc zj [0] x] [kI r]:=by
  induction fuel generalizing x r with
  | zero=>exact absurd h nofun
  | succ fuel ih=>exact zlB (fun hh=>ih hh) h
end Go.Proofs.YtcbkcblkecmjnaaGreat
