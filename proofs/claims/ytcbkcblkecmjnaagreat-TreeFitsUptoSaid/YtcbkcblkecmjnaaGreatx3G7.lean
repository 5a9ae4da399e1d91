/-
  The Go functions do what the plain functions say. No condition.
-/
import Derived.Test.YtcbkcblkecmjnaaGreatx3G3
import Derived.Test.YtcbkcblkecmjnaaGreatx3G6
namespace Go.Proofs.YtcbkcblkecmjnaaGreat
open Go Go.RowKit
set_option linter.unusedVariables false
set_option maxRecDepth 100000
set_option maxHeartbeats 3200000
theorem zpm {f:za} {r:Bool} (h:zfX f=some r):FnOk Tryz.prog 125 [.rc zb [0] f] [kB r]:=by
 refine zC (E:=⟨[(2,kB r)],[]⟩) 10 Tryz.func125 rfl rfl rfl ⟨rfl,trivial⟩ (fun Xt=>?_)
 refine zr ?_
 unfold zfX at h
 refine jq [11] ?_
 obtain ⟨g,h_g,h⟩:=bnd h
 refine zS ⟨[(2,kB g)],[]⟩ ?_ ?_
 ·
  refine (rsl 3 [] 5 f.Repeated (fun hc1=>?_) (fun hc1=>?_))
  ·
   replace h_g:=iteT h_g hc1
   obtain ⟨rv,h_rv,h_g⟩:=bnd h_g
   obtain rfl:=sj h_g
   exact (rl 2 [1] 10 Tryz.call159 (zmM h_rv) rgg)
  replace h_g:=iteF h_g hc1
  obtain rfl:=sj h_g
  exact rgg
 obtain rfl:=sj h
 exact zy lzz
theorem zjt {b:(List UInt8)} {fromv:Int} {r:(zq×Int)} (h:zfW b fromv=some r):FnOk Tryz.prog 98 [.sl Rp.byte [0] b,kI fromv] [.rc zN [] r.1,k8 r.2]:=by
 refine zC (E:=⟨[(4,.ptr 2 0),(5,k8 r.2)],[⟨2,111,[kI r.1.Number,kI r.1.Wire,kI r.1.From,kI r.1.At,kI r.1.To]⟩]⟩) 62 Tryz.func98 rfl rfl rfl ⟨⟨_,_,rfl,rfl,rfl,rfl,⟨Tryz.isAgg111,Tryz.sizeOf111⟩⟩,rfl,trivial⟩ (fun Xt=>?_)
 refine zr ?_
 unfold zfW at h
 refine jq [12] ?_
 refine zS ⟨[(0,.sl Rp.byte [0] b),(1,kI fromv),(4,.ptr 12 0),(19,kB ((decide (fromv<0))|| (decide (fromv≥(b.length:Int)))))],[⟨12,111,[kI 0,kI 0,kI 0,kI 0,kI 0]⟩]⟩ ?_ ?_
 ·
  refine (rsl 3 [] 14 (decide (fromv<0)) (fun hc1=>?_) (fun hc1=>?_))
  · exact (rbl [] 19 true ((decide (fromv<0))|| (decide (fromv≥(b.length:Int)))) (by rw [hc1]<;>rfl))
  exact (rbl [] 19 (decide (fromv≥(b.length:Int))) ((decide (fromv<0))|| (decide (fromv≥(b.length:Int)))) (by rw [hc1]<;>rfl))
 rcases zn h with ⟨hc2,h⟩| ⟨hc2,h⟩
 ·
  refine jT hc2 ?_
  refine jr (rc 0 rfl (zV (r:=zN) [] [] (⟨0,0,0,0,0⟩:zq) rfl zvU rfl rfl) rf) ?_
  obtain rfl:=sj h
  refine zy ?_
  refine lk [4,5] [12] 12 2 ?_
  exact lzz
 refine jF hc2 ?_
 obtain ⟨v2,h_v2,h⟩:=bnd h
 obtain ⟨rv,h_rv,h⟩:=bnd h
 refine jr (ra 2 [.sl Rp.byte [0] b,kI fromv] rfl (zgu (some (kI fromv)) none rfl zdD.el (zI _ _ _) ⟨rfl,rfl⟩ ⟨rfl,rfl⟩ h_v2) rfl (rl 0 [0] 11 Tryz.call118 (zxC h_rv) (rfl' [13]))) ?_
 refine jp ?_
 rcases zn h with ⟨hc3,h⟩| ⟨hc3,h⟩
 ·
  refine jT hc3 ?_
  refine jr (rc 0 rfl (zV (r:=zN) [] [] (⟨0,0,0,0,0⟩:zq) rfl zvU rfl rfl) rf) ?_
  obtain rfl:=sj h
  refine zy ?_
  refine lk [4,5] [12] 12 2 ?_
  exact lzz
 refine jF hc3 ?_
 refine jp ?_
 obtain ⟨v3,h_v3,h⟩:=bnd h
 obtain ⟨rv2,h_rv2,h⟩:=bnd h
 refine jd [1,4,6,8,9,10,11] [12,13] zcp (by exact (lw_e (lw_e (lw_e (lw_e (ly [.sl Rp.byte [0] b,kI (IntKind.i64.wrap (fromv+rv.2.1))] (zgu (some (kI (IntKind.i64.wrap (fromv+rv.2.1)))) none rfl zdD.el (zI _ _ _) ⟨rfl,rfl⟩ ⟨rfl,rfl⟩ h_v3) rfl (lx (lf1 119 (zbz [kI rv.1.Wire,.sl Rp.byte [0] v3] [0] 12 rfl Tryz.call119 (zsD h_rv2) rfl rfl rfl rfl rfl)) l0))))))) ?_
 refine jp ?_
 rcases zn h with ⟨hc4,h⟩| ⟨hc4,h⟩
 ·
  refine jT hc4 ?_
  refine jr (rc 0 rfl (zV (r:=zN) [] [] (⟨0,0,0,0,0⟩:zq) rfl zvU rfl rfl) rf) ?_
  obtain rfl:=sj h
  refine zy ?_
  refine lk [4,5] [12] 12 2 ?_
  exact lzz
 refine jF hc4 ?_
 refine jr (rc 11 rfl (zV (r:=zN) [kI rv.1.Number,kI rv.1.Wire,kI fromv,kI (IntKind.i64.wrap ((IntKind.i64.wrap (fromv+rv.2.1))+rv2.1)),kI (IntKind.i64.wrap ((IntKind.i64.wrap (fromv+rv.2.1))+rv2.2.1))] [] (⟨rv.1.Number,rv.1.Wire,fromv,(IntKind.i64.wrap ((IntKind.i64.wrap (fromv+rv.2.1))+rv2.1)),(IntKind.i64.wrap ((IntKind.i64.wrap (fromv+rv.2.1))+rv2.2.1))⟩:zq) rfl zvU rfl rfl) rf) ?_
 obtain rfl:=sj h
 refine zy ?_
 refine lk [4,5] [12] 12 2 ?_
 exact lzz
theorem ztI {f:za} {wire:Int} {r:Bool} (h:zjH f wire=some r):FnOk Tryz.prog 136 [.rc zb [0] f,kI wire] [kB r]:=by
 refine zC (E:=⟨[(4,kB r)],[]⟩) 16 Tryz.func136 rfl rfl rfl ⟨rfl,trivial⟩ (fun Xt=>?_)
 refine zr ?_
 unfold zjH at h
 refine jq [11] ?_
 obtain ⟨g,h_g,h⟩:=bnd h
 refine zS ⟨[(4,kB g)],[]⟩ ?_ ?_
 ·
  refine (rsl 3 [] 7 f.Repeated (fun hc1=>?_) (fun hc1=>?_))
  ·
   replace h_g:=iteT h_g hc1
   refine (rsl 4 [] 11 (wire==2) (fun hc2=>?_) (fun hc2=>?_))
   ·
    replace h_g:=iteT h_g hc2
    obtain ⟨rv,h_rv,h_g⟩:=bnd h_g
    obtain rfl:=sj h_g
    exact (rl 2 [1] 10 Tryz.call159 (zmM h_rv) rgg)
   replace h_g:=iteF h_g hc2
   obtain rfl:=sj h_g
   exact rgg
  replace h_g:=iteF h_g hc1
  obtain rfl:=sj h_g
  exact rgg
 obtain rfl:=sj h
 exact zy lzz
theorem zsM {k:Int} {wv:Int} {r:Int} (h:zim k wv=some r):FnOk Tryz.prog 177 [kI k,kU wv] [kI r]:=by
 refine zC (E:=⟨[(4,kI r)],[]⟩) 29 Tryz.func177 rfl rfl rfl ⟨rfl,trivial⟩ (fun Xt=>?_)
 refine zr ?_
 unfold zim at h
 refine jp ?_
 obtain ⟨rv,h_rv,h⟩:=bnd h
 refine jr (rl 1 [1] 9 Tryz.call178 (zlZ h_rv) rf) ?_
 refine zS ⟨[(0,kI k),(1,kU wv),(5,kI rv.1),(19,kB ((rv.2 !=0)|| (rv.1 !=0)))],[]⟩ ?_ ?_
 ·
  refine (rsl 3 [] 16 (rv.2 !=0) (fun hc1=>?_) (fun hc1=>?_))
  · exact (rbl [] 19 true ((rv.2 !=0)|| (rv.1 !=0)) (by rw [hc1]<;>rfl))
  exact (rbl [] 19 (rv.1 !=0) ((rv.2 !=0)|| (rv.1 !=0)) (by rw [hc1]<;>rfl))
 rcases zn h with ⟨hc2,h⟩| ⟨hc2,h⟩
 ·
  refine jT hc2 ?_
  refine jp ?_
  obtain rfl:=sj h
  exact zy lzz
 refine jF hc2 ?_
 obtain ⟨rv2,h_rv2,h⟩:=bnd h
 refine jr (rl 2 [1] 9 Tryz.call107 (zkG h_rv2) rf) ?_
 obtain ⟨rv3,h_rv3,h⟩:=bnd h
 refine jr (rl 1 [1] 9 Tryz.call183 (zwo h_rv3) rf) ?_
 obtain rfl:=sj h
 exact zy lzz
theorem zwd {b:(List UInt8)} {r:Int} (h:zlv b=some r):FnOk Tryz.prog 127 [.sl Rp.byte [0] b] [kI r]:=by
 refine zC (E:=⟨[(2,kI r)],[]⟩) 11 Tryz.func127 rfl rfl rfl ⟨rfl,trivial⟩ (fun Xt=>?_)
 refine zr ?_
 unfold zlv at h
 refine jp ?_
 obtain ⟨rv,h_rv,h⟩:=bnd h
 refine jr (rl 1 [0] 9 Tryz.call160 (zxH h_rv) rf) ?_
 refine jp ?_
 obtain rfl:=sj h
 exact zy lzz
theorem zsL {k:Int} {b:(List UInt8)} {r:(Int×Int)} (h:zil k b=some r):FnOk Tryz.prog 151 [kI k,.sl Rp.byte [0] b] [kU r.1,k8 r.2]:=by
 refine zC (E:=⟨[(4,kU r.1),(5,k8 r.2)],[]⟩) 22 Tryz.func151 rfl rfl rfl ⟨rfl,rfl,trivial⟩ (fun Xt=>?_)
 refine zr ?_
 unfold zil at h
 refine jp ?_
 obtain ⟨rv,h_rv,h⟩:=bnd h
 refine jr (rl 2 [0] 9 Tryz.call173 (zra h_rv) rf) ?_
 refine jp ?_
 rcases zn h with ⟨hc1,h⟩| ⟨hc1,h⟩
 ·
  refine jT hc1 ?_
  refine jp ?_
  obtain rfl:=sj h
  exact zy lzz
 refine jF hc1 ?_
 obtain ⟨rv2,h_rv2,h⟩:=bnd h
 refine jr (rl 2 [1] 9 Tryz.call107 (zkG h_rv2) rf) ?_
 obtain rfl:=sj h
 exact zy lzz
theorem zmn {sv:(List zg)} {r:Bool} (h:zef sv=some r):FnOk Tryz.prog 17 [.sl zi [0] sv] [kB r]:=by
 refine zC (E:=⟨[(2,kB r)],[]⟩) 14 Tryz.func17 rfl rfl rfl ⟨rfl,trivial⟩ (fun Xt=>?_)
 refine zr ?_
 unfold zef at h
 refine jp ?_
 obtain ⟨rv,h_rv,h⟩:=bnd h
 refine jr (rl 1 [0] 9 Tryz.call43 (zml h_rv) rf) ?_
 refine jp ?_
 obtain rfl:=sj h
 exact zy lzz
theorem zmj {b:(List UInt8)} {r:Bool} (h:zeb b=some r):FnOk Tryz.prog 56 [.sl Rp.byte [0] b] [kB r]:=by
 refine zC (E:=⟨[(2,kB r)],[]⟩) 16 Tryz.func56 rfl rfl rfl ⟨rfl,trivial⟩ (fun Xt=>?_)
 refine zr ?_
 unfold zeb at h
 refine jp ?_
 obtain ⟨rv,h_rv,h⟩:=bnd h
 refine jr (rl 3 [0] 9 Tryz.call86 (zmi h_rv) rf) ?_
 refine jp ?_
 obtain rfl:=sj h
 exact zy lzz
theorem zjx {m:zg} {number:Int} {r:(Int×Bool)} (h:zet m number=some r):FnOk Tryz.prog 72 [.rc zi [0] m,kI number] [kI r.1,kB r.2]:=by
 refine zC (E:=⟨[(4,kI r.1),(5,kB r.2)],[]⟩) 11 Tryz.func72 rfl rfl rfl ⟨rfl,rfl,trivial⟩ (fun Xt=>?_)
 refine zr ?_
 unfold zet at h
 refine jr (ra 0 [.rc zi [0] m] rfl (zds 11 [kS m.Name,.sl zb [0] m.Fields] [0] rfl rfl rfl rfl rfl) rfl (rfl' [909700])) ?_
 obtain ⟨rv,h_rv,h⟩:=bnd h
 refine jr (ra 1 [.ptr 909700 0] rfl (zzw (g:=97) [.tmp 3] [⟨909700,3,[kI number]⟩] [.ep (Rp.int .i64) [909700] number 0] rfl ⟨⟨rfl,rfl,rfl⟩,trivial⟩ rfl) rfl (rl 0 [0,909700] 10 Tryz.call96 (zgN h_rv) rf)) ?_
 obtain rfl:=sj h
 exact zy lzz
theorem zng {k:Int} {l:(List Int)} {r:Bool} (h:zeK k l=some r):FnOk Tryz.prog 83 [kI k,.sl (Rp.int .u64) [0] l] [kB r]:=by
 refine zC (E:=⟨[(4,kB r)],[]⟩) 29 Tryz.func83 rfl rfl rfl ⟨rfl,trivial⟩ (fun Xt=>?_)
 refine zr ?_
 unfold zeK at h
 refine jp ?_
 refine jp ?_
 refine zz ?_
 obtain ⟨q,h_q,h⟩:=bnd h
 refine zak (fun s:Int=>zaz k l s) (fun s=>⟨[(0,kI k),(9,.sl (Rp.int .u64) [0] l),(10,kI (l.length:Int)),(11,kI s)],[]⟩) (fun o e a w=>match o with| (.inl v_)=>e= .exit 0∧Sx ⟨⟨29,[]⟩,Xt,false,#[]⟩ ⟨[],[]⟩ a w| (.inr v_)=>e= .ret∧Sx ⟨⟨29,[]⟩,Xt,false,#[]⟩ ⟨[(4,kB false)],[]⟩ a w) ?_ h_q lzz ?_
 ·
  clear h
  intro v o h
  refine zr ?_
  replace h:zaz k l v=some o:=h
  unfold zaz at h
  refine jp ?_
  rcases zn h with ⟨hc1,h⟩| ⟨hc1,h⟩
  ·
   refine jT hc1 ?_
   refine zz ?_
   obtain ⟨x,h_x,h⟩:=bnd h
   refine jr (ra 0 [.sl (Rp.int .u64) [0] l,kI v] rfl (zar rfl zob.el (zI _ _ _) h_x) rfl rf) ?_
   obtain ⟨rv,h_rv,h⟩:=bnd h
   refine jr (rl 2 [1] 10 Tryz.call107 (zkG h_rv) rf) ?_
   refine zS ⟨[(0,kI k),(9,.sl (Rp.int .u64) [0] l),(10,kI (l.length:Int)),(11,kI v),(27,kB ((rv.2 !=0)|| (rv.1 !=x)))],[]⟩ ?_ ?_
   ·
    refine (rsl 3 [] 23 (rv.2 !=0) (fun hc2=>?_) (fun hc2=>?_))
    · exact (rbl [] 27 true ((rv.2 !=0)|| (rv.1 !=x)) (by rw [hc2]<;>rfl))
    exact (rbl [] 27 (rv.1 !=x) ((rv.2 !=0)|| (rv.1 !=x)) (by rw [hc2]<;>rfl))
   rcases zn h with ⟨hc3,h⟩| ⟨hc3,h⟩
   ·
    refine jT hc3 ?_
    refine jp ?_
    obtain rfl:=sj h
    exact zbr lzz
   refine jF hc3 ?_
   refine zX ?_
   refine jp ?_
   obtain rfl:=sj h
   exact zG lzz
  refine jF hc1 ?_
  obtain rfl:=sj h
  exact zal rfl lzz
 rcases q with u| u2
 ·
  refine zaM _ rfl ?_
  refine jp ?_
  obtain rfl:=sj h
  exact zy lzz
 obtain rfl:=sj h
 exact zdr lzz
end Go.Proofs.YtcbkcblkecmjnaaGreat
