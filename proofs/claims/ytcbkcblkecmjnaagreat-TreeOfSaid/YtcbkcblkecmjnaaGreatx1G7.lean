/-
  The Go functions do what the plain functions say. No condition.
-/
import Derived.Test.YtcbkcblkecmjnaaGreatx1G3
import Derived.Test.YtcbkcblkecmjnaaGreatx1G6
namespace Go.Proofs.YtcbkcblkecmjnaaGreat
open Go Go.RowKit
set_option linter.unusedVariables false
set_option maxRecDepth 100000
set_option maxHeartbeats 3200000
theorem zpy {f:zc} {r:Bool} (h:zgp f=some r):FnOk Tryz.prog 125 [.rc za [0] f] [kB r]:=by
 refine zB (E:=⟨[(2,kB r)],[]⟩) 10 Tryz.func125 rfl rfl rfl ⟨rfl,trivial⟩ (fun Xt=>?_)
 refine zr ?_
 unfold zgp at h
 refine jq [11] ?_
 obtain ⟨g,h_g,h⟩:=bnd h
 refine zS ⟨[(2,kB g)],[]⟩ ?_ ?_
 ·
  refine (rsl 3 [] 5 f.Repeated (fun hc1=>?_) (fun hc1=>?_))
  ·
   replace h_g:=iteT h_g hc1
   obtain ⟨rv,h_rv,h_g⟩:=bnd h_g
   obtain rfl:=sj h_g
   exact (rl 2 [1] 10 Tryz.call159 (zmR h_rv) rgg)
  replace h_g:=iteF h_g hc1
  obtain rfl:=sj h_g
  exact rgg
 obtain rfl:=sj h
 exact zx lzz
theorem zna {b:(List UInt8)} {fromv:Int} {r:(zo×Int)} (h:zha b fromv=some r):FnOk Tryz.prog 98 [.sl Rp.byte [0] b,kI fromv] [.rc zF [] r.1,k8 r.2]:=by
 refine zB (E:=⟨[(4,.ptr 2 0),(5,k8 r.2)],[⟨2,111,[kI r.1.Number,kI r.1.Wire,kI r.1.From,kI r.1.At,kI r.1.To]⟩]⟩) 62 Tryz.func98 rfl rfl rfl ⟨⟨_,_,rfl,rfl,rfl,rfl,⟨Tryz.isAgg111,Tryz.sizeOf111⟩⟩,rfl,trivial⟩ (fun Xt=>?_)
 refine zr ?_
 unfold zha at h
 refine jq [12] ?_
 refine zS ⟨[(0,.sl Rp.byte [0] b),(1,kI fromv),(4,.ptr 12 0),(19,kB ((decide (fromv<0))|| (decide (fromv≥(b.length:Int)))))],[⟨12,111,[kI 0,kI 0,kI 0,kI 0,kI 0]⟩]⟩ ?_ ?_
 ·
  refine (rsl 3 [] 14 (decide (fromv<0)) (fun hc1=>?_) (fun hc1=>?_))
  · exact (rbl [] 19 true ((decide (fromv<0))|| (decide (fromv≥(b.length:Int)))) (by rw [hc1]<;>rfl))
  exact (rbl [] 19 (decide (fromv≥(b.length:Int))) ((decide (fromv<0))|| (decide (fromv≥(b.length:Int)))) (by rw [hc1]<;>rfl))
 rcases zn h with ⟨hc2,h⟩| ⟨hc2,h⟩
 ·
  refine jT hc2 ?_
  refine jr (rc 0 rfl (zX (r:=zF) [] [] (⟨0,0,0,0,0⟩:zo) rfl zwn rfl rfl) rf) ?_
  obtain rfl:=sj h
  refine zx ?_
  refine lk [4,5] [12] 12 2 ?_
  exact lzz
 refine jF hc2 ?_
 obtain ⟨v2,h_v2,h⟩:=bnd h
 obtain ⟨rv,h_rv,h⟩:=bnd h
 refine jr (ra 2 [.sl Rp.byte [0] b,kI fromv] rfl (zeD (some (kI fromv)) none rfl zcS.el (zI _ _ _) ⟨rfl,rfl⟩ ⟨rfl,rfl⟩ h_v2) rfl (rl 0 [0] 11 Tryz.call118 (zxZ h_rv) (rfl' [13]))) ?_
 refine jp ?_
 rcases zn h with ⟨hc3,h⟩| ⟨hc3,h⟩
 ·
  refine jT hc3 ?_
  refine jr (rc 0 rfl (zX (r:=zF) [] [] (⟨0,0,0,0,0⟩:zo) rfl zwn rfl rfl) rf) ?_
  obtain rfl:=sj h
  refine zx ?_
  refine lk [4,5] [12] 12 2 ?_
  exact lzz
 refine jF hc3 ?_
 refine jp ?_
 obtain ⟨v3,h_v3,h⟩:=bnd h
 obtain ⟨rv2,h_rv2,h⟩:=bnd h
 refine jd [1,4,6,8,9,10,11] [12,13] zcy (by exact (lw_e (lw_e (lw_e (lw_e (ly [.sl Rp.byte [0] b,kI (IntKind.i64.wrap (fromv+rv.2.1))] (zeD (some (kI (IntKind.i64.wrap (fromv+rv.2.1)))) none rfl zcS.el (zI _ _ _) ⟨rfl,rfl⟩ ⟨rfl,rfl⟩ h_v3) rfl (lx (lf1 119 (zce [kI rv.1.Wire,.sl Rp.byte [0] v3] [0] 12 rfl Tryz.call119 (zsW h_rv2) rfl rfl rfl rfl rfl)) l0))))))) ?_
 refine jp ?_
 rcases zn h with ⟨hc4,h⟩| ⟨hc4,h⟩
 ·
  refine jT hc4 ?_
  refine jr (rc 0 rfl (zX (r:=zF) [] [] (⟨0,0,0,0,0⟩:zo) rfl zwn rfl rfl) rf) ?_
  obtain rfl:=sj h
  refine zx ?_
  refine lk [4,5] [12] 12 2 ?_
  exact lzz
 refine jF hc4 ?_
 refine jr (rc 11 rfl (zX (r:=zF) [kI rv.1.Number,kI rv.1.Wire,kI fromv,kI (IntKind.i64.wrap ((IntKind.i64.wrap (fromv+rv.2.1))+rv2.1)),kI (IntKind.i64.wrap ((IntKind.i64.wrap (fromv+rv.2.1))+rv2.2.1))] [] (⟨rv.1.Number,rv.1.Wire,fromv,(IntKind.i64.wrap ((IntKind.i64.wrap (fromv+rv.2.1))+rv2.1)),(IntKind.i64.wrap ((IntKind.i64.wrap (fromv+rv.2.1))+rv2.2.1))⟩:zo) rfl zwn rfl rfl) rf) ?_
 obtain rfl:=sj h
 refine zx ?_
 refine lk [4,5] [12] 12 2 ?_
 exact lzz
theorem zuf {f:zc} {wire:Int} {r:Bool} (h:zjI f wire=some r):FnOk Tryz.prog 136 [.rc za [0] f,kI wire] [kB r]:=by
 refine zB (E:=⟨[(4,kB r)],[]⟩) 16 Tryz.func136 rfl rfl rfl ⟨rfl,trivial⟩ (fun Xt=>?_)
 refine zr ?_
 unfold zjI at h
 refine jq [11] ?_
 obtain ⟨g,h_g,h⟩:=bnd h
 refine zS ⟨[(4,kB g)],[]⟩ ?_ ?_
 ·
  refine (rsl 3 [] 7 f.Repeated (fun hc1=>?_) (fun hc1=>?_))
  ·
   replace h_g:=iteT h_g hc1
   refine (rsl 4 [] 11 (wire==2) (fun hc2=>?_) (fun hc2=>?_))
   ·
    replace h_g:=iteT h_g hc2
    obtain ⟨rv,h_rv,h_g⟩:=bnd h_g
    obtain rfl:=sj h_g
    exact (rl 2 [1] 10 Tryz.call159 (zmR h_rv) rgg)
   replace h_g:=iteF h_g hc2
   obtain rfl:=sj h_g
   exact rgg
  replace h_g:=iteF h_g hc1
  obtain rfl:=sj h_g
  exact rgg
 obtain rfl:=sj h
 exact zx lzz
theorem zth {k:Int} {wv:Int} {r:Int} (h:ziw k wv=some r):FnOk Tryz.prog 177 [kI k,kU wv] [kI r]:=by
 refine zB (E:=⟨[(4,kI r)],[]⟩) 29 Tryz.func177 rfl rfl rfl ⟨rfl,trivial⟩ (fun Xt=>?_)
 refine zr ?_
 unfold ziw at h
 refine jp ?_
 obtain ⟨rv,h_rv,h⟩:=bnd h
 refine jr (rl 1 [1] 9 Tryz.call178 (zlZ h_rv) rf) ?_
 refine zS ⟨[(0,kI k),(1,kU wv),(5,kI rv.1),(19,kB ((rv.2 !=0)|| (rv.1 !=0)))],[]⟩ ?_ ?_
 ·
  refine (rsl 3 [] 16 (rv.2 !=0) (fun hc1=>?_) (fun hc1=>?_))
  · exact (rbl [] 19 true ((rv.2 !=0)|| (rv.1 !=0)) (by rw [hc1]<;>rfl))
  exact (rbl [] 19 (rv.1 !=0) ((rv.2 !=0)|| (rv.1 !=0)) (by rw [hc1]<;>rfl))
 rcases zn h with ⟨hc2,h⟩| ⟨hc2,h⟩
 ·
  refine jT hc2 ?_
  refine jp ?_
  obtain rfl:=sj h
  exact zx lzz
 refine jF hc2 ?_
 obtain ⟨rv2,h_rv2,h⟩:=bnd h
 refine jr (rl 2 [1] 9 Tryz.call107 (zoe h_rv2) rf) ?_
 obtain ⟨rv3,h_rv3,h⟩:=bnd h
 refine jr (rl 1 [1] 9 Tryz.call183 (zwH h_rv3) rf) ?_
 obtain rfl:=sj h
 exact zx lzz
theorem zwu {b:(List UInt8)} {r:Int} (h:zlp b=some r):FnOk Tryz.prog 127 [.sl Rp.byte [0] b] [kI r]:=by
 refine zB (E:=⟨[(2,kI r)],[]⟩) 11 Tryz.func127 rfl rfl rfl ⟨rfl,trivial⟩ (fun Xt=>?_)
 refine zr ?_
 unfold zlp at h
 refine jp ?_
 obtain ⟨rv,h_rv,h⟩:=bnd h
 refine jr (rl 1 [0] 9 Tryz.call160 (zyd h_rv) rf) ?_
 refine jp ?_
 obtain rfl:=sj h
 exact zx lzz
theorem ztg {k:Int} {b:(List UInt8)} {r:(Int×Int)} (h:ziv k b=some r):FnOk Tryz.prog 151 [kI k,.sl Rp.byte [0] b] [kU r.1,k8 r.2]:=by
 refine zB (E:=⟨[(4,kU r.1),(5,k8 r.2)],[]⟩) 22 Tryz.func151 rfl rfl rfl ⟨rfl,rfl,trivial⟩ (fun Xt=>?_)
 refine zr ?_
 unfold ziv at h
 refine jp ?_
 obtain ⟨rv,h_rv,h⟩:=bnd h
 refine jr (rl 2 [0] 9 Tryz.call173 (zro h_rv) rf) ?_
 refine jp ?_
 rcases zn h with ⟨hc1,h⟩| ⟨hc1,h⟩
 ·
  refine jT hc1 ?_
  refine jp ?_
  obtain rfl:=sj h
  exact zx lzz
 refine jF hc1 ?_
 obtain ⟨rv2,h_rv2,h⟩:=bnd h
 refine jr (rl 2 [1] 9 Tryz.call107 (zoe h_rv2) rf) ?_
 obtain rfl:=sj h
 exact zx lzz
theorem zmm {sv:(List zh)} {r:Bool} (h:zeq sv=some r):FnOk Tryz.prog 17 [.sl zi [0] sv] [kB r]:=by
 refine zB (E:=⟨[(2,kB r)],[]⟩) 14 Tryz.func17 rfl rfl rfl ⟨rfl,trivial⟩ (fun Xt=>?_)
 refine zr ?_
 unfold zeq at h
 refine jp ?_
 obtain ⟨rv,h_rv,h⟩:=bnd h
 refine jr (rl 1 [0] 9 Tryz.call43 (zmj h_rv) rf) ?_
 refine jp ?_
 obtain rfl:=sj h
 exact zx lzz
theorem zij {m:zh} {b:(List UInt8)} {fromv:Int} {r:(zG×Int)} (h:zdQ m b fromv=some r):FnOk Tryz.prog 63 [.rc zi [0] m,.sl Rp.byte [0] b,kI fromv] [.rc zJ [] r.1,kI r.2]:=by
 refine zB (E:=⟨[(6,.ptr 2 0),(7,kI r.2)],[⟨2,87,[kI r.1.R.Number,kI r.1.R.Wire,kI r.1.R.From,kI r.1.R.At,kI r.1.R.To,kI r.1.Field,kB r.1.Run]⟩]⟩) 66 Tryz.func63 rfl rfl rfl ⟨⟨_,_,rfl,rfl,rfl,rfl,⟨Tryz.isAgg87,Tryz.sizeOf87⟩⟩,rfl,trivial⟩ (fun Xt=>?_)
 refine zr ?_
 unfold zdQ at h
 refine jr (ra 0 [.rc zi [0] m] rfl (zeC 13 [kS m.Name,.sl za [0] m.Fields] [0] rfl rfl rfl rfl rfl) rfl (rfl' [14])) ?_
 obtain ⟨rv,h_rv,h⟩:=bnd h
 refine jr (rl 2 [0] 13 Tryz.call45 (zmI h_rv) (rfl' [15])) ?_
 refine jp ?_
 rcases zn h with ⟨hc1,h⟩| ⟨hc1,h⟩
 ·
  refine jT hc1 ?_
  refine jr (rc 0 rfl (zX (r:=zJ) [] [] (⟨(⟨0,0,0,0,0⟩:zo),0,false⟩:zG) rfl zxX rfl rfl) rf) ?_
  obtain rfl:=sj h
  refine zx ?_
  refine lk [6,7] [14] 14 2 ?_
  exact lzz
 refine jF hc1 ?_
 obtain ⟨rv2,h_rv2,h⟩:=bnd h
 refine jr (rl 3 [0] 14 Tryz.call44 (zml h_rv2) rf) ?_
 refine jp ?_
 rcases zn h with ⟨hc2,h⟩| ⟨hc2,h⟩
 ·
  refine jT hc2 ?_
  refine jr (lb 0 zF [] rv.1 (rc 0 rfl (zX (r:=zJ) [.rc zF [] rv.1,kI (-1)] [] (⟨rv.1,(-1),false⟩:zG) rfl zxX rfl rfl) rf)) ?_
  obtain rfl:=sj h
  refine zx ?_
  refine lk [6,7] [14] 14 2 ?_
  exact lzz
 refine jF hc2 ?_
 obtain ⟨x,h_x,h⟩:=bnd h
 refine jr (ra 3 [.sl za [0] m.Fields,kI rv2] rfl (zao rfl ziD.el (zI _ _ _) h_x) rfl (ra 0 [.ep za [0] x 0] rfl (zdm rfl ⟨Tryz.isAgg64,Tryz.sizeOf64⟩) rfl (rfl' [16]))) ?_
 obtain ⟨g,h_g,h⟩:=bnd h
 refine zS ⟨[(6,.ptr 14 0),(8,.ptr 15 0),(10,kI rv2),(11,.ptr 16 0),(46,kB g)],[⟨14,87,[kI 0,kI 0,kI 0,kI 0,kI 0,kI 0,kB false]⟩,⟨15,85,[kI rv.1.Number,kI rv.1.Wire,kI rv.1.From,kI rv.1.At,kI rv.1.To]⟩,⟨16,64,[kS x.Name,kI x.Number,kI x.Kind,kB x.Repeated,kB x.Packed,kI x.Of]⟩]⟩ ?_ ?_
 ·
  refine (rsl 3 [] 37 x.Repeated (fun hc3=>?_) (fun hc3=>?_))
  ·
   replace h_g:=iteT h_g hc3
   obtain ⟨rv3,h_rv3,h_g⟩:=bnd h_g
   refine (rl 2 [1] 15 Tryz.call39 (zda h_rv3) (rsl 2 [] 42 rv3 (fun hc4=>?_) (fun hc4=>?_)))
   ·
    replace h_g:=iteT h_g hc4
    obtain rfl:=sj h_g
    exact (rel [] lzz)
   replace h_g:=iteF h_g hc4
   obtain rfl:=sj h_g
   exact (rel [] lzz)
  replace h_g:=iteF h_g hc3
  obtain rfl:=sj h_g
  exact (rel [] lzz)
 rcases zn h with ⟨hc5,h⟩| ⟨hc5,h⟩
 ·
  refine jT hc5 ?_
  refine jr (lb 0 zF [] rv.1 (rc 1 rfl (zX (r:=zJ) [.rc zF [] rv.1,kI rv2,kB true] [] (⟨rv.1,rv2,true⟩:zG) rfl zxX rfl rfl) rf)) ?_
  obtain rfl:=sj h
  refine zx ?_
  refine lk [6,7] [14] 14 2 ?_
  exact lzz
 refine jF hc5 ?_
 obtain ⟨g2,h_g2,h⟩:=bnd h
 refine zbV (R:=fun e a w=>e= .normal∧Sx ⟨⟨66,[]⟩,Xt,false,#[]⟩ ⟨[(6,.ptr 14 0),(8,.ptr 15 0),(10,kI rv2),(61,kB g2)],[⟨14,87,[kI 0,kI 0,kI 0,kI 0,kI 0,kI 0,kB false]⟩,⟨15,85,[kI rv.1.Number,kI rv.1.Wire,kI rv.1.From,kI rv.1.At,kI rv.1.To]⟩]⟩ a w) ?_ (zdw ?_)
 ·
  refine zr ?_
  obtain ⟨rv4,h_rv4,h_g2⟩:=bnd h_g2
  rcases Bool.eq_false_or_eq_true (!rv4) with hc6| hc6
  ·
   replace h_g2:=iteT h_g2 hc6
   obtain rfl:=sj h_g2
   refine jd [6,8,10,61] [14,15] zcy (by exact (lw_e (lw_e (lx (lf1 54 (zce [kI x.Kind] [1] 15 rfl Tryz.call54 (zfZ h_rv4) rfl rfl rfl rfl rfl)) (lw_e (lx (zgT ⟨[(53,kB (!rv4))],[]⟩ (by kernel_rfl) hc6) l0)))))) ?_
   exact zE lzz
  replace h_g2:=iteF h_g2 hc6
  obtain ⟨rv5,h_rv5,h_g2⟩:=bnd h_g2
  obtain rfl:=sj h_g2
  refine jd [6,8,10,61] [14,15] zcy (by exact (lw_e (lw_e (lx (lf1 54 (zce [kI x.Kind] [1] 15 rfl Tryz.call54 (zfZ h_rv4) rfl rfl rfl rfl rfl)) (lw_e (lx (zgT ⟨[(53,kB (!rv4))],[]⟩ (by kernel_rfl) hc6) (lw_e (lw_e (lx (lf1 66 (zce [kI x.Kind] [1] 15 rfl Tryz.call66 (zgk h_rv5) rfl rfl rfl rfl rfl)) l0))))))))) ?_
  exact zE lzz
 rcases zn h with ⟨hc7,h⟩| ⟨hc7,h⟩
 ·
  refine jT hc7 ?_
  refine jr (rc 0 rfl (zX (r:=zJ) [] [] (⟨(⟨0,0,0,0,0⟩:zo),0,false⟩:zG) rfl zxX rfl rfl) rf) ?_
  obtain rfl:=sj h
  refine zx ?_
  refine lk [6,7] [14] 14 2 ?_
  exact lzz
 refine jF hc7 ?_
 refine jr (lb 0 zF [] rv.1 (rc 1 rfl (zX (r:=zJ) [.rc zF [] rv.1,kI rv2] [] (⟨rv.1,rv2,false⟩:zG) rfl zxX rfl rfl) rf)) ?_
 obtain rfl:=sj h
 refine zx ?_
 refine lk [6,7] [14] 14 2 ?_
 exact lzz
theorem zmi {b:(List UInt8)} {r:Bool} (h:zcz b=some r):FnOk Tryz.prog 56 [.sl Rp.byte [0] b] [kB r]:=by
 refine zB (E:=⟨[(2,kB r)],[]⟩) 16 Tryz.func56 rfl rfl rfl ⟨rfl,trivial⟩ (fun Xt=>?_)
 refine zr ?_
 unfold zcz at h
 refine jp ?_
 obtain ⟨rv,h_rv,h⟩:=bnd h
 refine jr (rl 3 [0] 9 Tryz.call86 (zmh h_rv) rf) ?_
 refine jp ?_
 obtain rfl:=sj h
 exact zx lzz
theorem zmn {k:Int} {b:(List UInt8)} {r:((List Int)×Int)} (h:zer k b=some r):FnOk Tryz.prog 38 [kI k,.sl Rp.byte [0] b] [.own (Rp.int .u64) 75 2 [] r.1,kI r.2]:=by
 refine zB (E:=⟨[(4,.own (Rp.int .u64) 75 2 [] r.1),(5,kI r.2)],[]⟩) 50 Tryz.func38 rfl rfl rfl ⟨rfl,rfl,trivial⟩ (fun Xt=>?_)
 refine zr ?_
 unfold zer at h
 refine jp ?_
 obtain ⟨rv,h_rv,h⟩:=bnd h
 refine jr (rl 2 [0] 13 Tryz.call64 (zii h_rv) rf) ?_
 refine jp ?_
 refine jp ?_
 refine zy ?_
 obtain ⟨q,h_q,h⟩:=bnd h
 refine zah (fun s:((List Int)×Int)=>zav b k rv s.1 s.2) (fun s=>⟨[(0,kI k),(1,.sl Rp.byte [0] b),(6,.own (Rp.int .i64) 3 15 [] rv.1),(7,kI rv.2),(8,.own (Rp.int .u64) 75 18 [] s.1),(9,kI s.2)],[]⟩) (fun o e a w=>e= .exit 0∧Sx ⟨⟨50,[]⟩,Xt,false,#[]⟩ ⟨[(7,kI rv.2),(8,.own (Rp.int .u64) 75 18 [] o)],[]⟩ a w) ?_ h_q ?_ ?_
 ·
  clear h
  intro s o h
  obtain ⟨out,i⟩:=s
  refine zr ?_
  replace h:zav b k rv out i=some o:=h
  unfold zav at h
  refine jp ?_
  rcases zn h with ⟨hc1,h⟩| ⟨hc1,h⟩
  ·
   refine jT hc1 ?_
   refine zy ?_
   refine jp ?_
   refine jp ?_
   obtain ⟨p,h_p,h⟩:=bnd h
   refine zbV (R:=fun e a w=>e= .normal∧Sx ⟨⟨50,[]⟩,Xt,false,#[]⟩ ⟨[(0,kI k),(1,.sl Rp.byte [0] b),(6,.own (Rp.int .i64) 3 15 [] rv.1),(7,kI rv.2),(8,.own (Rp.int .u64) 75 18 [] out),(9,kI i),(10,kI p)],[]⟩ a w) ?_ ?_
   ·
    replace h:=h_p
    refine zr ?_
    rcases zn h with ⟨hc2,h⟩| ⟨hc2,h⟩
    ·
     refine jT hc2 ?_
     obtain ⟨x,h_x,h⟩:=bnd h
     refine jr (ra 3 [.own (Rp.int .i64) 3 15 [] rv.1,kI (IntKind.i64.wrap (i - 1))] rfl (zao rfl zhD.el (zay _ _ _ _ _) h_x) rfl rf) ?_
     obtain rfl:=sj h
     exact zE lzz
    refine jF hc2 ?_
    obtain rfl:=sj h
    exact zE lzz
   refine zdw ?_
   obtain ⟨x2,h_x2,h⟩:=bnd h
   obtain ⟨v,h_v,h⟩:=bnd h
   obtain ⟨rv2,h_rv2,h⟩:=bnd h
   refine jr (ra 5 [.own (Rp.int .i64) 3 15 [] rv.1,kI i] rfl (zao rfl zhD.el (zay _ _ _ _ _) h_x2) rfl (ra 1 [.sl Rp.byte [0] b,kI p,kI x2] rfl (zeD (some (kI p)) (some (kI x2)) rfl zcS.el (zI _ _ _) ⟨rfl,rfl⟩ ⟨rfl,rfl⟩ h_v) rfl (rl 0 [0] 17 Tryz.call40 (zih h_rv2) rf))) ?_
   obtain ⟨v2,h_v2,h⟩:=bnd h
   refine jr (rc 2 rfl (zcP [kU rv2.1] 19 [] ([rv2.1]:(List Int)) rfl zko rfl rfl rfl rfl) (ra 0 [.own (Rp.int .u64) 75 18 [] out,.own (Rp.int .u64) 75 19 [] ([rv2.1]:(List Int))] rfl (zeA 18 [] rfl zko.el rfl (zbJ _ _ _ _ _) (zay _ _ _ _ _) h_v2 (.inl (zgy _)) rfl) rfl rf)) ?_
   refine zT ?_
   refine jp ?_
   obtain rfl:=sj h
   exact zE lzz
  refine jF hc1 ?_
  obtain rfl:=sj h
  exact zai rfl lzz
 ·
  refine zbn ⟨[(0,kI k),(1,.sl Rp.byte [0] b),(6,.own (Rp.int .i64) 3 15 [] rv.1),(7,kI rv.2),(8,kN),(9,kI 0)],[]⟩ (by kernel_rfl) ?_
  refine zcK 8 (.own (Rp.int .u64) 75 18 [] []) rfl (zaj (Rp.int .u64) 75 18 [] rfl) ?_
  exact lzz
 refine zaI _ rfl ?_
 refine jp ?_
 obtain rfl:=sj h
 refine zx ?_
 refine lk [4,5] [] 18 2 ?_
 exact lzz
end Go.Proofs.YtcbkcblkecmjnaaGreat
