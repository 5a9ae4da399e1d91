/-
  The Go functions do what the plain functions say. No condition.
-/
import Derived.Test.YtnfembipjdohcaaGreatG4
namespace Go.Proofs.YtnfembipjdohcaaGreat
open Go Go.RowKit
set_option linter.unusedVariables false
set_option maxRecDepth 100000
set_option maxHeartbeats 3200000
theorem zkg {f : zc} {r : Bool} (h : zdv f = some r) : FnOk Tryz.prog 50 [.rc za [0] f] [kB r] := by
 refine zx (E := ⟨[(2, kB r)], []⟩) 10 Tryz.func50 rfl rfl rfl ⟨rfl, trivial⟩ (fun Xt => ?_)
 refine zr ?_
 unfold zdv at h
 refine jq [11] ?_
 obtain ⟨g, h_g, h⟩ := bnd h
 refine zE ⟨[(2, kB g)], []⟩ ?_ ?_
 ·
  refine (rsl 3 [] 5 f.Repeated (fun hc1 => ?_) (fun hc1 => ?_))
  ·
   replace h_g := iteT h_g hc1
   obtain ⟨rv, h_rv, h_g⟩ := bnd h_g
   obtain rfl := sj h_g
   exact (rl 2 [1] 10 Tryz.call65 (zig h_rv) rgg)
  replace h_g := iteF h_g hc1
  obtain rfl := sj h_g
  exact rgg
 obtain rfl := sj h
 exact zv lzz
theorem zis {b : (List UInt8)} {fromv : Int} {r : (zj × Int)} (h : zed b fromv = some r) : FnOk Tryz.prog 39 [.sl Rp.byte [0] b, kI fromv] [.rc zy [] r.1, k8 r.2] := by
 refine zx (E := ⟨[(4, .ptr 2 0), (5, k8 r.2)], [⟨2, 66, [kI r.1.Number, kI r.1.Wire, kI r.1.From, kI r.1.At, kI r.1.To]⟩]⟩) 62 Tryz.func39 rfl rfl rfl ⟨⟨_, _, rfl, rfl, rfl, rfl, ⟨Tryz.isAgg66, Tryz.sizeOf66⟩⟩, rfl, trivial⟩ (fun Xt => ?_)
 refine zr ?_
 unfold zed at h
 refine jq [12] ?_
 refine zE ⟨[(0, .sl Rp.byte [0] b), (1, kI fromv), (4, .ptr 12 0), (19, kB ((decide (fromv < 0)) || (decide (fromv ≥ (b.length : Int)))))], [⟨12, 66, [kI 0, kI 0, kI 0, kI 0, kI 0]⟩]⟩ ?_ ?_
 ·
  refine (rsl 3 [] 14 (decide (fromv < 0)) (fun hc1 => ?_) (fun hc1 => ?_))
  · exact (rbl [] 19 true ((decide (fromv < 0)) || (decide (fromv ≥ (b.length : Int)))) (by rw [hc1] <;> rfl))
  exact (rbl [] 19 (decide (fromv ≥ (b.length : Int))) ((decide (fromv < 0)) || (decide (fromv ≥ (b.length : Int)))) (by rw [hc1] <;> rfl))
 rcases zm h with ⟨hc2, h⟩ | ⟨hc2, h⟩
 ·
  refine jT hc2 ?_
  refine jr (rc 0 rfl (zC (r := zy) [] [] (⟨0, 0, 0, 0, 0⟩ : zj) rfl zrV rfl rfl) rf) ?_
  obtain rfl := sj h
  refine zv ?_
  refine lk [4, 5] [12] 12 2 ?_
  exact lzz
 refine jF hc2 ?_
 obtain ⟨v2, h_v2, h⟩ := bnd h
 obtain ⟨rv, h_rv, h⟩ := bnd h
 refine jr (ra 2 [.sl Rp.byte [0] b, kI fromv] rfl (zfD (some (kI fromv)) none rfl zde.el (zR _ _ _) ⟨rfl, rfl⟩ ⟨rfl, rfl⟩ h_v2) rfl (rl 0 [0] 11 Tryz.call52 (zqf h_rv) (rfl' [13]))) ?_
 refine jp ?_
 rcases zm h with ⟨hc3, h⟩ | ⟨hc3, h⟩
 ·
  refine jT hc3 ?_
  refine jr (rc 0 rfl (zC (r := zy) [] [] (⟨0, 0, 0, 0, 0⟩ : zj) rfl zrV rfl rfl) rf) ?_
  obtain rfl := sj h
  refine zv ?_
  refine lk [4, 5] [12] 12 2 ?_
  exact lzz
 refine jF hc3 ?_
 refine jp ?_
 obtain ⟨v3, h_v3, h⟩ := bnd h
 obtain ⟨rv2, h_rv2, h⟩ := bnd h
 refine jd [1, 4, 6, 8, 9, 10, 11] [12, 13] zdQ (by exact (lw_e (lw_e (lw_e (lw_e (ly [.sl Rp.byte [0] b, kI (IntKind.i64.wrap (fromv + rv.2.1))] (zfD (some (kI (IntKind.i64.wrap (fromv + rv.2.1)))) none rfl zde.el (zR _ _ _) ⟨rfl, rfl⟩ ⟨rfl, rfl⟩ h_v3) rfl (lx (lf1 53 (zhk [kI rv.1.Wire, .sl Rp.byte [0] v3] [0] 12 rfl Tryz.call53 (zmD h_rv2) rfl rfl rfl rfl rfl)) l0))))))) ?_
 refine jp ?_
 rcases zm h with ⟨hc4, h⟩ | ⟨hc4, h⟩
 ·
  refine jT hc4 ?_
  refine jr (rc 0 rfl (zC (r := zy) [] [] (⟨0, 0, 0, 0, 0⟩ : zj) rfl zrV rfl rfl) rf) ?_
  obtain rfl := sj h
  refine zv ?_
  refine lk [4, 5] [12] 12 2 ?_
  exact lzz
 refine jF hc4 ?_
 refine jr (rc 11 rfl (zC (r := zy) [kI rv.1.Number, kI rv.1.Wire, kI fromv, kI (IntKind.i64.wrap ((IntKind.i64.wrap (fromv + rv.2.1)) + rv2.1)), kI (IntKind.i64.wrap ((IntKind.i64.wrap (fromv + rv.2.1)) + rv2.2.1))] [] (⟨rv.1.Number, rv.1.Wire, fromv, (IntKind.i64.wrap ((IntKind.i64.wrap (fromv + rv.2.1)) + rv2.1)), (IntKind.i64.wrap ((IntKind.i64.wrap (fromv + rv.2.1)) + rv2.2.1))⟩ : zj) rfl zrV rfl rfl) rf) ?_
 obtain rfl := sj h
 refine zv ?_
 refine lk [4, 5] [12] 12 2 ?_
 exact lzz
theorem znr {f : zc} {wire : Int} {r : Bool} (h : zfL f wire = some r) : FnOk Tryz.prog 78 [.rc za [0] f, kI wire] [kB r] := by
 refine zx (E := ⟨[(4, kB r)], []⟩) 16 Tryz.func78 rfl rfl rfl ⟨rfl, trivial⟩ (fun Xt => ?_)
 refine zr ?_
 unfold zfL at h
 refine jq [11] ?_
 obtain ⟨g, h_g, h⟩ := bnd h
 refine zE ⟨[(4, kB g)], []⟩ ?_ ?_
 ·
  refine (rsl 3 [] 7 f.Repeated (fun hc1 => ?_) (fun hc1 => ?_))
  ·
   replace h_g := iteT h_g hc1
   refine (rsl 4 [] 11 (wire == 2) (fun hc2 => ?_) (fun hc2 => ?_))
   ·
    replace h_g := iteT h_g hc2
    obtain ⟨rv, h_rv, h_g⟩ := bnd h_g
    obtain rfl := sj h_g
    exact (rl 2 [1] 10 Tryz.call65 (zig h_rv) rgg)
   replace h_g := iteF h_g hc2
   obtain rfl := sj h_g
   exact rgg
  replace h_g := iteF h_g hc1
  obtain rfl := sj h_g
  exact rgg
 obtain rfl := sj h
 exact zv lzz
theorem zmN {k : Int} {wv : Int} {r : Int} (h : zeV k wv = some r) : FnOk Tryz.prog 97 [kI k, kU wv] [kI r] := by
 refine zx (E := ⟨[(4, kI r)], []⟩) 29 Tryz.func97 rfl rfl rfl ⟨rfl, trivial⟩ (fun Xt => ?_)
 refine zr ?_
 unfold zeV at h
 refine jp ?_
 obtain ⟨rv, h_rv, h⟩ := bnd h
 refine jr (rl 1 [1] 9 Tryz.call105 (zle h_rv) rf) ?_
 refine zE ⟨[(0, kI k), (1, kU wv), (5, kI rv.1), (19, kB ((rv.2 != 0) || (rv.1 != 0)))], []⟩ ?_ ?_
 ·
  refine (rsl 3 [] 16 (rv.2 != 0) (fun hc1 => ?_) (fun hc1 => ?_))
  · exact (rbl [] 19 true ((rv.2 != 0) || (rv.1 != 0)) (by rw [hc1] <;> rfl))
  exact (rbl [] 19 (rv.1 != 0) ((rv.2 != 0) || (rv.1 != 0)) (by rw [hc1] <;> rfl))
 rcases zm h with ⟨hc2, h⟩ | ⟨hc2, h⟩
 ·
  refine jT hc2 ?_
  refine jp ?_
  obtain rfl := sj h
  exact zv lzz
 refine jF hc2 ?_
 obtain ⟨rv2, h_rv2, h⟩ := bnd h
 refine jr (rl 2 [1] 9 Tryz.call106 (znh h_rv2) rf) ?_
 obtain ⟨rv3, h_rv3, h⟩ := bnd h
 refine jr (rl 1 [1] 9 Tryz.call107 (zpg h_rv3) rf) ?_
 obtain rfl := sj h
 exact zv lzz
theorem zoX {b : (List UInt8)} {r : Int} (h : zgW b = some r) : FnOk Tryz.prog 71 [.sl Rp.byte [0] b] [kI r] := by
 refine zx (E := ⟨[(2, kI r)], []⟩) 11 Tryz.func71 rfl rfl rfl ⟨rfl, trivial⟩ (fun Xt => ?_)
 refine zr ?_
 unfold zgW at h
 refine jp ?_
 obtain ⟨rv, h_rv, h⟩ := bnd h
 refine jr (rl 1 [0] 9 Tryz.call83 (zqj h_rv) rf) ?_
 refine jp ?_
 obtain rfl := sj h
 exact zv lzz
theorem zhK {sv : (List zh)} {r : Bool} (h : zce sv = some r) : FnOk Tryz.prog 17 [.sl zd [0] sv] [kB r] := by
 refine zx (E := ⟨[(2, kB r)], []⟩) 14 Tryz.func17 rfl rfl rfl ⟨rfl, trivial⟩ (fun Xt => ?_)
 refine zr ?_
 unfold zce at h
 refine jp ?_
 obtain ⟨rv, h_rv, h⟩ := bnd h
 refine jr (rl 1 [0] 9 Tryz.call24 (zhH h_rv) rf) ?_
 refine jp ?_
 obtain rfl := sj h
 exact zv lzz
theorem zia {m : zh} {b : (List UInt8)} {fromv : Int} {r : (zaF × Int)} (h : zcx m b fromv = some r) : FnOk Tryz.prog 20 [.rc zd [0] m, .sl Rp.byte [0] b, kI fromv] [.rc zdf [] r.1, kI r.2] := by
 refine zx (E := ⟨[(6, .ptr 2 0), (7, kI r.2)], [⟨2, 53, [kI r.1.R.Number, kI r.1.R.Wire, kI r.1.R.From, kI r.1.R.At, kI r.1.R.To, kI r.1.Field, kB r.1.Run]⟩]⟩) 66 Tryz.func20 rfl rfl rfl ⟨⟨_, _, rfl, rfl, rfl, rfl, ⟨Tryz.isAgg53, Tryz.sizeOf53⟩⟩, rfl, trivial⟩ (fun Xt => ?_)
 refine zr ?_
 unfold zcx at h
 refine jr (ra 0 [.rc zd [0] m] rfl (zih 13 [kS m.Name, .sl za [0] m.Fields] [0] rfl rfl rfl rfl rfl) rfl (rfl' [14])) ?_
 obtain ⟨rv, h_rv, h⟩ := bnd h
 refine jr (rl 2 [0] 13 Tryz.call27 (zhX h_rv) (rfl' [15])) ?_
 refine jp ?_
 rcases zm h with ⟨hc1, h⟩ | ⟨hc1, h⟩
 ·
  refine jT hc1 ?_
  refine jr (rc 0 rfl (zC (r := zdf) [] [] (⟨(⟨0, 0, 0, 0, 0⟩ : zj), 0, false⟩ : zaF) rfl zqd rfl rfl) rf) ?_
  obtain rfl := sj h
  refine zv ?_
  refine lk [6, 7] [14] 14 2 ?_
  exact lzz
 refine jF hc1 ?_
 obtain ⟨rv2, h_rv2, h⟩ := bnd h
 refine jr (rl 3 [0] 14 Tryz.call28 (zhJ h_rv2) rf) ?_
 refine jp ?_
 rcases zm h with ⟨hc2, h⟩ | ⟨hc2, h⟩
 ·
  refine jT hc2 ?_
  refine jr (lb 0 zy [] rv.1 (rc 0 rfl (zC (r := zdf) [.rc zy [] rv.1, kI (-1)] [] (⟨rv.1, (-1), false⟩ : zaF) rfl zqd rfl rfl) rf)) ?_
  obtain rfl := sj h
  refine zv ?_
  refine lk [6, 7] [14] 14 2 ?_
  exact lzz
 refine jF hc2 ?_
 obtain ⟨x, h_x, h⟩ := bnd h
 refine jr (ra 3 [.sl za [0] m.Fields, kI rv2] rfl (zbx rfl zhD.el (zR _ _ _) h_x) rfl (ra 0 [.ep za [0] x 0] rfl (zgr rfl ⟨Tryz.isAgg39, Tryz.sizeOf39⟩) rfl (rfl' [16]))) ?_
 obtain ⟨g, h_g, h⟩ := bnd h
 refine zE ⟨[(6, .ptr 14 0), (8, .ptr 15 0), (10, kI rv2), (11, .ptr 16 0), (46, kB g)], [⟨14, 53, [kI 0, kI 0, kI 0, kI 0, kI 0, kI 0, kB false]⟩, ⟨15, 51, [kI rv.1.Number, kI rv.1.Wire, kI rv.1.From, kI rv.1.At, kI rv.1.To]⟩, ⟨16, 39, [kS x.Name, kI x.Number, kI x.Kind, kB x.Repeated, kB x.Packed, kI x.Of]⟩]⟩ ?_ ?_
 ·
  refine (rsl 3 [] 37 x.Repeated (fun hc3 => ?_) (fun hc3 => ?_))
  ·
   replace h_g := iteT h_g hc3
   obtain ⟨rv3, h_rv3, h_g⟩ := bnd h_g
   refine (rl 2 [1] 15 Tryz.call29 (zcS h_rv3) (rsl 2 [] 42 rv3 (fun hc4 => ?_) (fun hc4 => ?_)))
   ·
    replace h_g := iteT h_g hc4
    obtain rfl := sj h_g
    exact (rel [] lzz)
   replace h_g := iteF h_g hc4
   obtain rfl := sj h_g
   exact (rel [] lzz)
  replace h_g := iteF h_g hc3
  obtain rfl := sj h_g
  exact (rel [] lzz)
 rcases zm h with ⟨hc5, h⟩ | ⟨hc5, h⟩
 ·
  refine jT hc5 ?_
  refine jr (lb 0 zy [] rv.1 (rc 1 rfl (zC (r := zdf) [.rc zy [] rv.1, kI rv2, kB true] [] (⟨rv.1, rv2, true⟩ : zaF) rfl zqd rfl rfl) rf)) ?_
  obtain rfl := sj h
  refine zv ?_
  refine lk [6, 7] [14] 14 2 ?_
  exact lzz
 refine jF hc5 ?_
 obtain ⟨g2, h_g2, h⟩ := bnd h
 refine zcl (R := fun e a w => e = .normal ∧ Sx ⟨⟨66, []⟩, Xt, false, #[]⟩ ⟨[(6, .ptr 14 0), (8, .ptr 15 0), (10, kI rv2), (61, kB g2)], [⟨14, 53, [kI 0, kI 0, kI 0, kI 0, kI 0, kI 0, kB false]⟩, ⟨15, 51, [kI rv.1.Number, kI rv.1.Wire, kI rv.1.From, kI rv.1.At, kI rv.1.To]⟩]⟩ a w) ?_ (zdt ?_)
 ·
  refine zr ?_
  obtain ⟨rv4, h_rv4, h_g2⟩ := bnd h_g2
  rcases Bool.eq_false_or_eq_true (!rv4) with hc6 | hc6
  ·
   replace h_g2 := iteT h_g2 hc6
   obtain rfl := sj h_g2
   refine jd [6, 8, 10, 61] [14, 15] zdQ (by exact (lw_e (lw_e (lx (lf1 30 (zhk [kI x.Kind] [1] 15 rfl Tryz.call30 (zdj h_rv4) rfl rfl rfl rfl rfl)) (lw_e (lx (zii ⟨[(53, kB (!rv4))], []⟩ (by kernel_rfl) hc6) l0)))))) ?_
   exact zF lzz
  replace h_g2 := iteF h_g2 hc6
  obtain ⟨rv5, h_rv5, h_g2⟩ := bnd h_g2
  obtain rfl := sj h_g2
  refine jd [6, 8, 10, 61] [14, 15] zdQ (by exact (lw_e (lw_e (lx (lf1 30 (zhk [kI x.Kind] [1] 15 rfl Tryz.call30 (zdj h_rv4) rfl rfl rfl rfl rfl)) (lw_e (lx (zii ⟨[(53, kB (!rv4))], []⟩ (by kernel_rfl) hc6) (lw_e (lw_e (lx (lf1 31 (zhk [kI x.Kind] [1] 15 rfl Tryz.call31 (zhY h_rv5) rfl rfl rfl rfl rfl)) l0))))))))) ?_
  exact zF lzz
 rcases zm h with ⟨hc7, h⟩ | ⟨hc7, h⟩
 ·
  refine jT hc7 ?_
  refine jr (rc 0 rfl (zC (r := zdf) [] [] (⟨(⟨0, 0, 0, 0, 0⟩ : zj), 0, false⟩ : zaF) rfl zqd rfl rfl) rf) ?_
  obtain rfl := sj h
  refine zv ?_
  refine lk [6, 7] [14] 14 2 ?_
  exact lzz
 refine jF hc7 ?_
 refine jr (lb 0 zy [] rv.1 (rc 1 rfl (zC (r := zdf) [.rc zy [] rv.1, kI rv2] [] (⟨rv.1, rv2, false⟩ : zaF) rfl zqd rfl rfl) rf)) ?_
 obtain rfl := sj h
 refine zv ?_
 refine lk [6, 7] [14] 14 2 ?_
 exact lzz
theorem zhG {b : (List UInt8)} {r : Bool} (h : zbh b = some r) : FnOk Tryz.prog 22 [.sl Rp.byte [0] b] [kB r] := by
 refine zx (E := ⟨[(2, kB r)], []⟩) 16 Tryz.func22 rfl rfl rfl ⟨rfl, trivial⟩ (fun Xt => ?_)
 refine zr ?_
 unfold zbh at h
 refine jp ?_
 obtain ⟨rv, h_rv, h⟩ := bnd h
 refine jr (rl 3 [0] 9 Tryz.call33 (zhF h_rv) rf) ?_
 refine jp ?_
 obtain rfl := sj h
 exact zv lzz
theorem zhN {c : zac} {message : Int} {f : zc} {r : (Int × (List (zi × Bool)) × (List (zk × Bool)))} (h : zci c message f = some r) : zej Tryz.prog 36 [.ag [kI c.size, .sl (Rp.int .i64) [0] c.kinds, .om zo Rp.bool 2 [0] c.names, .om zn Rp.bool 3 [0] c.numbers], kI message, .rc za [0] f] [kI r.1] [.ag [.any, .any, .om zo Rp.bool 2 [0] r.2.1, .om zn Rp.bool 3 [0] r.2.2], .any, .any] := by
 refine zfq (E := ⟨[(0, .ag [.any, .any, .om zo Rp.bool 2 [0] r.2.1, .om zn Rp.bool 3 [0] r.2.2]), (6, kI r.1)], []⟩) 63 [0] Tryz.func36 rfl rfl rfl ⟨rfl, trivial⟩ ⟨.inr ⟨rfl, rfl⟩, .inl rfl, .inl rfl, trivial⟩ rfl (fun Xt old => ?_)
 refine zr ?_
 unfold zci at h
 refine jq [11, 12] ?_
 refine jd [0, 3, 5, 7, 8] [11, 12, 13, 14] zdQ (by exact (lw_e (lw_e (lw_e (lx (zC (r := zo) [kI message, kS f.Name] [] (⟨message, f.Name⟩ : zi) rfl zux rfl rfl) (lw_e (lw_e (lw_e (lx (zC (r := zn) [kI message, kI f.Number] [] (⟨message, f.Number⟩ : zk) rfl zwq rfl rfl) (lx (zjR 13 [kI 0, kS []] rfl Tryz.zeroValue108 rfl) (lx (zjR 14 [kI 0, kI 0] rfl Tryz.zeroValue110 rfl) (ly [.ptr 13 0, .rc zo [] (⟨message, f.Name⟩ : zi)] (zky (r := zo) (b := ⟨13, 108, [kI 0, kS []]⟩) (off := 0) [kI message, kS f.Name] rfl Tryz.sizeOf108 rfl rfl rfl rfl) rfl (ly [.ptr 14 0, .rc zn [] (⟨message, f.Number⟩ : zk)] (zky (r := zn) (b := ⟨14, 110, [kI 0, kI 0]⟩) (off := 0) [kI message, kI f.Number] rfl Tryz.sizeOf110 rfl rfl rfl rfl) rfl l0))))))))))))) ?_
 refine zA ?_
 obtain ⟨rv, h_rv, h⟩ := bnd h
 refine jr (rl 2 [1] 13 Tryz.call47 (zgR h_rv) rf) ?_
 rcases zm h with ⟨hc1, h⟩ | ⟨hc1, h⟩
 ·
  refine jT hc1 ?_
  refine jp ?_
  obtain rfl := sj h
  refine zdp ?_
  refine zcK ⟨[(0, .ag [kI c.size, .sl (Rp.int .i64) [0] c.kinds, .om zo Rp.bool 2 [0] c.names, .om zn Rp.bool 3 [0] c.numbers]), (6, kI 5)], []⟩ (by kernel_rfl) ?_
  refine zcQ 0 (.ag [.any, .any, .om zo Rp.bool 2 [0] ((5, c.names, c.numbers) : (Int × (List (zi × Bool)) × (List (zk × Bool)))).2.1, .om zn Rp.bool 3 [0] ((5, c.names, c.numbers) : (Int × (List (zi × Bool)) × (List (zk × Bool)))).2.2]) rfl (zdG ⟨zaw _, zaw _, AV.le_refl _, AV.le_refl _, trivial⟩) ?_
  exact lzz
 refine jF hc1 ?_
 refine jr (lb 2 zo [] (⟨message, f.Name⟩ : zi) (ra 0 [.om zo Rp.bool 2 [0] c.names, .rc zo [] (⟨message, f.Name⟩ : zi)] rfl (zoE (rk := zo) (rv := Rp.bool) (m := c.names) (k := (⟨message, f.Name⟩ : zi)) (kB ((mget c.names (⟨message, f.Name⟩ : zi)).getD false)) rfl zoF (zhf _ _ _ _ _) (zbo rfl) (zot rfl rfl rfl)) rfl rf)) ?_
 rcases zm h with ⟨hc2, h⟩ | ⟨hc2, h⟩
 ·
  refine jT hc2 ?_
  refine jp ?_
  obtain rfl := sj h
  refine zdp ?_
  refine zcK ⟨[(0, .ag [kI c.size, .sl (Rp.int .i64) [0] c.kinds, .om zo Rp.bool 2 [0] c.names, .om zn Rp.bool 3 [0] c.numbers]), (6, kI 6)], []⟩ (by kernel_rfl) ?_
  refine zcQ 0 (.ag [.any, .any, .om zo Rp.bool 2 [0] ((6, c.names, c.numbers) : (Int × (List (zi × Bool)) × (List (zk × Bool)))).2.1, .om zn Rp.bool 3 [0] ((6, c.names, c.numbers) : (Int × (List (zi × Bool)) × (List (zk × Bool)))).2.2]) rfl (zdG ⟨zaw _, zaw _, AV.le_refl _, AV.le_refl _, trivial⟩) ?_
  exact lzz
 refine jF hc2 ?_
 obtain ⟨rv2, h_rv2, h⟩ := bnd h
 refine jr (rl 2 [1] 13 Tryz.call48 (zjt h_rv2) rf) ?_
 rcases zm h with ⟨hc3, h⟩ | ⟨hc3, h⟩
 ·
  refine jT hc3 ?_
  refine jp ?_
  obtain rfl := sj h
  refine zdp ?_
  refine zcK ⟨[(0, .ag [kI c.size, .sl (Rp.int .i64) [0] c.kinds, .om zo Rp.bool 2 [0] c.names, .om zn Rp.bool 3 [0] c.numbers]), (6, kI 7)], []⟩ (by kernel_rfl) ?_
  refine zcQ 0 (.ag [.any, .any, .om zo Rp.bool 2 [0] ((7, c.names, c.numbers) : (Int × (List (zi × Bool)) × (List (zk × Bool)))).2.1, .om zn Rp.bool 3 [0] ((7, c.names, c.numbers) : (Int × (List (zi × Bool)) × (List (zk × Bool)))).2.2]) rfl (zdG ⟨zaw _, zaw _, AV.le_refl _, AV.le_refl _, trivial⟩) ?_
  exact lzz
 refine jF hc3 ?_
 refine jr (lb 2 zn [] (⟨message, f.Number⟩ : zk) (ra 0 [.om zn Rp.bool 3 [0] c.numbers, .rc zn [] (⟨message, f.Number⟩ : zk)] rfl (zoE (rk := zn) (rv := Rp.bool) (m := c.numbers) (k := (⟨message, f.Number⟩ : zk)) (kB ((mget c.numbers (⟨message, f.Number⟩ : zk)).getD false)) rfl zub (zhf _ _ _ _ _) (zbo rfl) (zot rfl rfl rfl)) rfl rf)) ?_
 rcases zm h with ⟨hc4, h⟩ | ⟨hc4, h⟩
 ·
  refine jT hc4 ?_
  refine jp ?_
  obtain rfl := sj h
  refine zdp ?_
  refine zcK ⟨[(0, .ag [kI c.size, .sl (Rp.int .i64) [0] c.kinds, .om zo Rp.bool 2 [0] c.names, .om zn Rp.bool 3 [0] c.numbers]), (6, kI 8)], []⟩ (by kernel_rfl) ?_
  refine zcQ 0 (.ag [.any, .any, .om zo Rp.bool 2 [0] ((8, c.names, c.numbers) : (Int × (List (zi × Bool)) × (List (zk × Bool)))).2.1, .om zn Rp.bool 3 [0] ((8, c.names, c.numbers) : (Int × (List (zi × Bool)) × (List (zk × Bool)))).2.2]) rfl (zdG ⟨zaw _, zaw _, AV.le_refl _, AV.le_refl _, trivial⟩) ?_
  exact lzz
 refine jF hc4 ?_
 obtain ⟨rv3, h_rv3, h⟩ := bnd h
 refine jr (rl 4 [0] 13 Tryz.call49 (zeX h_rv3) rf) ?_
 rcases zm h with ⟨hc5, h⟩ | ⟨hc5, h⟩
 ·
  refine jT hc5 ?_
  refine jp ?_
  obtain rfl := sj h
  refine zdp ?_
  refine zcK ⟨[(0, .ag [kI c.size, .sl (Rp.int .i64) [0] c.kinds, .om zo Rp.bool 2 [0] c.names, .om zn Rp.bool 3 [0] c.numbers]), (6, kI 9)], []⟩ (by kernel_rfl) ?_
  refine zcQ 0 (.ag [.any, .any, .om zo Rp.bool 2 [0] ((9, c.names, c.numbers) : (Int × (List (zi × Bool)) × (List (zk × Bool)))).2.1, .om zn Rp.bool 3 [0] ((9, c.names, c.numbers) : (Int × (List (zi × Bool)) × (List (zk × Bool)))).2.2]) rfl (zdG ⟨zaw _, zaw _, AV.le_refl _, AV.le_refl _, trivial⟩) ?_
  exact lzz
 refine jF hc5 ?_
 obtain ⟨g, h_g, h⟩ := bnd h
 refine zE ⟨[(0, .ag [kI c.size, .sl (Rp.int .i64) [0] c.kinds, .om zo Rp.bool 2 [0] c.names, .om zn Rp.bool 3 [0] c.numbers]), (3, .ptr 11 0), (5, .ptr 12 0), (7, .ptr 13 0), (8, .ptr 14 0), (44, kB g)], [⟨11, 85, [kI c.size, .sl (Rp.int .i64) [0] c.kinds, .om zo Rp.bool 2 [0] c.names, .om zn Rp.bool 3 [0] c.numbers]⟩, ⟨12, 39, [kS f.Name, kI f.Number, kI f.Kind, kB f.Repeated, kB f.Packed, kI f.Of]⟩, ⟨13, 108, [kI message, kS f.Name]⟩, ⟨14, 110, [kI message, kI f.Number]⟩]⟩ ?_ ?_
 ·
  refine (rsl 3 [] 47 f.Packed (fun hc6 => ?_) (fun hc6 => ?_))
  ·
   replace h_g := iteT h_g hc6
   obtain ⟨rv4, h_rv4, h_g⟩ := bnd h_g
   obtain rfl := sj h_g
   exact (lb 0 za [] f (rl 0 [1] 13 Tryz.call50 (zkg h_rv4) (rel [] lzz)))
  replace h_g := iteF h_g hc6
  obtain rfl := sj h_g
  exact (rel [] lzz)
 rcases zm h with ⟨hc7, h⟩ | ⟨hc7, h⟩
 ·
  refine jT hc7 ?_
  refine jp ?_
  obtain rfl := sj h
  refine zdp ?_
  refine zcK ⟨[(0, .ag [kI c.size, .sl (Rp.int .i64) [0] c.kinds, .om zo Rp.bool 2 [0] c.names, .om zn Rp.bool 3 [0] c.numbers]), (6, kI 10)], []⟩ (by kernel_rfl) ?_
  refine zcQ 0 (.ag [.any, .any, .om zo Rp.bool 2 [0] ((10, c.names, c.numbers) : (Int × (List (zi × Bool)) × (List (zk × Bool)))).2.1, .om zn Rp.bool 3 [0] ((10, c.names, c.numbers) : (Int × (List (zi × Bool)) × (List (zk × Bool)))).2.2]) rfl (zdG ⟨zaw _, zaw _, AV.le_refl _, AV.le_refl _, trivial⟩) ?_
  exact lzz
 refine jF hc7 ?_
 obtain ⟨rv5, h_rv5, h⟩ := bnd h
 refine jr (lb 1 za [] f (rl 0 [0, 2, 3] 13 Tryz.call51 (zhO h_rv5) rf)) ?_
 rcases zm h with ⟨hc8, h⟩ | ⟨hc8, h⟩
 ·
  refine jT hc8 ?_
  refine jp ?_
  obtain rfl := sj h
  refine zdp ?_
  refine zcK ⟨[(0, .ag [kI c.size, .sl (Rp.int .i64) [0] c.kinds, .om zo Rp.bool 2 [0] c.names, .om zn Rp.bool 3 [0] c.numbers]), (6, kI 11)], []⟩ (by kernel_rfl) ?_
  refine zcQ 0 (.ag [.any, .any, .om zo Rp.bool 2 [0] ((11, c.names, c.numbers) : (Int × (List (zi × Bool)) × (List (zk × Bool)))).2.1, .om zn Rp.bool 3 [0] ((11, c.names, c.numbers) : (Int × (List (zi × Bool)) × (List (zk × Bool)))).2.2]) rfl (zdG ⟨zaw _, zaw _, AV.le_refl _, AV.le_refl _, trivial⟩) ?_
  exact lzz
 refine jF hc8 ?_
 refine zap ?_
 refine jr (lb 2 zo [] (⟨message, f.Name⟩ : zi) (rkl 0 [] ⟨[(0, .ag [kI c.size, .sl (Rp.int .i64) [0] c.kinds, .om zo Rp.bool 2 [0] c.names, .om zn Rp.bool 3 [0] c.numbers]), (3, .ptr 11 0), (8, .ptr 14 0), (58, .om zo Rp.bool 2 [0] c.names), (59, .rc zo [] (⟨message, f.Name⟩ : zi))], [⟨11, 85, [kI c.size, .sl (Rp.int .i64) [0] c.kinds, .om zo Rp.bool 2 [0] c.names, .om zn Rp.bool 3 [0] c.numbers]⟩, ⟨14, 110, [kI message, kI f.Number]⟩]⟩ (zdU ⟨[(0, .ag [kI c.size, .sl (Rp.int .i64) [0] c.kinds, .om zo Rp.bool 2 [0] (mput c.names (⟨message, f.Name⟩ : zi) true), .om zn Rp.bool 3 [0] c.numbers]), (3, .ptr 11 0), (8, .ptr 14 0), (58, .om zo Rp.bool 2 [0] (mput c.names (⟨message, f.Name⟩ : zi) true)), (59, .rc zo [] (⟨message, f.Name⟩ : zi))], [⟨11, 85, [kI c.size, .sl (Rp.int .i64) [0] c.kinds, .om zo Rp.bool 2 [0] (mput c.names (⟨message, f.Name⟩ : zi) true), .om zn Rp.bool 3 [0] c.numbers]⟩, ⟨14, 110, [kI message, kI f.Number]⟩]⟩ (zki (rk := zo) (rv := Rp.bool) (m := c.names) (ℓ := 2) (C := [0]) (C1 := []) (D := []) (⟨message, f.Name⟩ : zi) true [0] zoF (.inl rfl) (zbo rfl) (zcD rfl rfl) rfl) rfl (by kernel_rfl) (by kernel_rfl) ⟨⟨_, rfl, zgU ⟨zq rfl, zq rfl, zcB 0 rfl, zq rfl, trivial⟩⟩, ⟨_, rfl, zq rfl⟩, ⟨_, rfl, zq rfl⟩, ⟨_, rfl, zcB 0 rfl⟩, ⟨_, rfl, zq rfl⟩, trivial⟩ ⟨⟨_, rfl, rfl, rfl, ⟨zq rfl, zq rfl, zcB 0 rfl, zq rfl, trivial⟩⟩, ⟨_, rfl, rfl, rfl, ⟨zq rfl, zq rfl, trivial⟩⟩, trivial⟩ rf))) ?_
 refine jr (lb 2 zn [] (⟨message, f.Number⟩ : zk) (rkl 0 [] ⟨[(0, .ag [kI c.size, .sl (Rp.int .i64) [0] c.kinds, .om zo Rp.bool 2 [0] (mput c.names (⟨message, f.Name⟩ : zi) true), .om zn Rp.bool 3 [0] c.numbers]), (61, .om zn Rp.bool 3 [0] c.numbers), (62, .rc zn [] (⟨message, f.Number⟩ : zk))], []⟩ (zdU ⟨[(0, .ag [kI c.size, .sl (Rp.int .i64) [0] c.kinds, .om zo Rp.bool 2 [0] (mput c.names (⟨message, f.Name⟩ : zi) true), .om zn Rp.bool 3 [0] (mput c.numbers (⟨message, f.Number⟩ : zk) true)]), (61, .om zn Rp.bool 3 [0] (mput c.numbers (⟨message, f.Number⟩ : zk) true)), (62, .rc zn [] (⟨message, f.Number⟩ : zk))], []⟩ (zki (rk := zn) (rv := Rp.bool) (m := c.numbers) (ℓ := 3) (C := [0]) (C1 := []) (D := []) (⟨message, f.Number⟩ : zk) true [0] zub (.inl rfl) (zbo rfl) (zcD rfl rfl) rfl) rfl (by kernel_rfl) (by kernel_rfl) ⟨⟨_, rfl, zgU ⟨zq rfl, zq rfl, zq rfl, zcB 0 rfl, trivial⟩⟩, ⟨_, rfl, zcB 0 rfl⟩, ⟨_, rfl, zq rfl⟩, trivial⟩ trivial rf))) ?_
 refine jp ?_
 obtain rfl := sj h
 refine zdp ?_
 refine zcK ⟨[(0, .ag [kI c.size, .sl (Rp.int .i64) [0] c.kinds, .om zo Rp.bool 2 [0] (mput c.names (⟨message, f.Name⟩ : zi) true), .om zn Rp.bool 3 [0] (mput c.numbers (⟨message, f.Number⟩ : zk) true)]), (6, kI 0)], []⟩ (by kernel_rfl) ?_
 refine zcQ 0 (.ag [.any, .any, .om zo Rp.bool 2 [0] ((0, (mput c.names (⟨message, f.Name⟩ : zi) true), (mput c.numbers (⟨message, f.Number⟩ : zk) true)) : (Int × (List (zi × Bool)) × (List (zk × Bool)))).2.1, .om zn Rp.bool 3 [0] ((0, (mput c.names (⟨message, f.Name⟩ : zi) true), (mput c.numbers (⟨message, f.Number⟩ : zk) true)) : (Int × (List (zi × Bool)) × (List (zk × Bool)))).2.2]) rfl (zdG ⟨zaw _, zaw _, AV.le_refl _, AV.le_refl _, trivial⟩) ?_
 exact lzz
theorem zmZ {m : zh} {hv : zD} {r : zJ} (h : zei m hv = some r) : FnOk Tryz.prog 69 [.rc zd [0] m, .rc zG [0] hv] [.rc zI [] r] := by
 refine zx (E := ⟨[(4, .ptr 2 0)], [⟨2, 135, [kI r.field, kB r.run, k8 r.e]⟩]⟩) 38 Tryz.func69 rfl rfl rfl ⟨⟨_, _, rfl, rfl, rfl, rfl, ⟨Tryz.isAgg135, Tryz.sizeOf135⟩⟩, trivial⟩ (fun Xt => ?_)
 refine zr ?_
 unfold zei at h
 refine jr (ra 0 [.rc zd [0] m] rfl (zih 14 [kS m.Name, .sl za [0] m.Fields] [0] rfl rfl rfl rfl rfl) rfl (rfl' [15, 16])) ?_
 obtain ⟨rv, h_rv, h⟩ := bnd h
 refine jr (rl 3 [0] 15 Tryz.call77 (znq h_rv) rf) ?_
 refine jp ?_
 rcases zm h with ⟨hc1, h⟩ | ⟨hc1, h⟩
 ·
  refine jT hc1 ?_
  refine jr (rc 0 rfl (zC (r := zI) [kI (-1)] [] (⟨(-1), false, 0⟩ : zJ) rfl zrh rfl rfl) rf) ?_
  obtain rfl := sj h
  refine zv ?_
  refine lk [4] [16] 16 2 ?_
  exact lzz
 refine jF hc1 ?_
 obtain ⟨x, h_x, h⟩ := bnd h
 refine jr (ra 3 [.sl za [0] m.Fields, kI rv] rfl (zbx rfl zhD.el (zR _ _ _) h_x) rfl (ra 0 [.ep za [0] x 0] rfl (zgr rfl ⟨Tryz.isAgg39, Tryz.sizeOf39⟩) rfl (rfl' [17]))) ?_
 obtain ⟨rv2, h_rv2, h⟩ := bnd h
 refine jr (lb 0 za [] x (rl 2 [1] 16 Tryz.call78 (znr h_rv2) rf)) ?_
 obtain ⟨g, h_g, h⟩ := bnd h
 refine zE ⟨[(4, .ptr 16 0), (5, kI rv), (7, kB rv2), (33, kB g)], [⟨16, 135, [kI 0, kB false, k8 0]⟩]⟩ ?_ ?_
 ·
  refine (rsl 3 [] 26 (!rv2) (fun hc2 => ?_) (fun hc2 => ?_))
  ·
   replace h_g := iteT h_g hc2
   obtain ⟨rv3, h_rv3, h_g⟩ := bnd h_g
   obtain rfl := sj h_g
   exact (rl 4 [1] 16 Tryz.call79 (zpa h_rv3) (rel [] lzz))
  replace h_g := iteF h_g hc2
  obtain rfl := sj h_g
  exact (rel [] lzz)
 rcases zm h with ⟨hc3, h⟩ | ⟨hc3, h⟩
 ·
  refine jT hc3 ?_
  refine jr (rc 0 rfl (zC (r := zI) [k8 6] [] (⟨0, false, 6⟩ : zJ) rfl zrh rfl rfl) rf) ?_
  obtain rfl := sj h
  refine zv ?_
  refine lk [4] [16] 16 2 ?_
  exact lzz
 refine jF hc3 ?_
 refine jr (rc 2 rfl (zC (r := zI) [kI rv, kB rv2] [] (⟨rv, rv2, 0⟩ : zJ) rfl zrh rfl rfl) rf) ?_
 obtain rfl := sj h
 refine zv ?_
 refine lk [4] [16] 16 2 ?_
 exact lzz
theorem zoQ {k : Int} {r : Int} (h : zgP k = some r) : FnOk Tryz.prog 81 [kI k] [kI r] := by
 refine zx (E := ⟨[(2, kI r)], []⟩) 5 Tryz.func81 rfl rfl rfl ⟨rfl, trivial⟩ (fun Xt => ?_)
 refine zr ?_
 unfold zgP at h
 refine jp ?_
 obtain ⟨rv, h_rv, h⟩ := bnd h
 refine jr (rl 1 [1] 9 Tryz.call97 (zmN h_rv) rf) ?_
 obtain rfl := sj h
 exact zv lzz
theorem zoY {b : (List UInt8)} {r : Bool} (h : zfv b = some r) : FnOk Tryz.prog 56 [.sl Rp.byte [0] b] [kB r] := by
 refine zx (E := ⟨[(2, kB r)], []⟩) 8 Tryz.func56 rfl rfl rfl ⟨rfl, trivial⟩ (fun Xt => ?_)
 refine zr ?_
 unfold zfv at h
 refine jp ?_
 obtain ⟨rv, h_rv, h⟩ := bnd h
 refine jr (rl 1 [0] 9 Tryz.call71 (zoX h_rv) rf) ?_
 obtain rfl := sj h
 exact zv lzz
theorem zeQ {sv : (List zh)} {root : Int} {d : Int} {r : Int} (h : zbP sv root d = some r) : FnOk Tryz.prog 11 [.sl zd [0] sv, kI root, kI d] [kI r] := by
 refine zx (E := ⟨[(6, kI r)], []⟩) 26 Tryz.func11 rfl rfl rfl ⟨rfl, trivial⟩ (fun Xt => ?_)
 refine zr ?_
 unfold zbP at h
 refine jp ?_
 obtain ⟨rv, h_rv, h⟩ := bnd h
 refine jr (rl 1 [0] 9 Tryz.call17 (zhK h_rv) rf) ?_
 rcases zm h with ⟨hc1, h⟩ | ⟨hc1, h⟩
 ·
  refine jT hc1 ?_
  refine jp ?_
  obtain rfl := sj h
  exact zv lzz
 refine jF hc1 ?_
 refine zE ⟨[(25, kB ((decide (root < 0)) || ((decide (root ≥ (sv.length : Int))) || ((decide (d < 0)) || (decide (d > 64))))))], []⟩ ?_ ?_
 ·
  refine (rsl 3 [] 12 (decide (root < 0)) (fun hc2 => ?_) (fun hc2 => ?_))
  · exact (rbl [] 25 true ((decide (root < 0)) || ((decide (root ≥ (sv.length : Int))) || ((decide (d < 0)) || (decide (d > 64))))) (by rw [hc2] <;> rfl))
  refine (rsl 6 [] 18 (decide (root ≥ (sv.length : Int))) (fun hc3 => ?_) (fun hc3 => ?_))
  · exact (rbl [] 25 true ((decide (root < 0)) || ((decide (root ≥ (sv.length : Int))) || ((decide (d < 0)) || (decide (d > 64))))) (by rw [hc2, hc3] <;> rfl))
  refine (rsl 4 [] 22 (decide (d < 0)) (fun hc4 => ?_) (fun hc4 => ?_))
  · exact (rbl [] 25 true ((decide (root < 0)) || ((decide (root ≥ (sv.length : Int))) || ((decide (d < 0)) || (decide (d > 64))))) (by rw [hc2, hc3, hc4] <;> rfl))
  exact (rbl [] 25 (decide (d > 64)) ((decide (root < 0)) || ((decide (root ≥ (sv.length : Int))) || ((decide (d < 0)) || (decide (d > 64))))) (by rw [hc2, hc3, hc4] <;> rfl))
 rcases zm h with ⟨hc5, h⟩ | ⟨hc5, h⟩
 ·
  refine jT hc5 ?_
  refine jp ?_
  obtain rfl := sj h
  exact zv lzz
 refine jF hc5 ?_
 refine jp ?_
 obtain rfl := sj h
 exact zv lzz
theorem zhe {rec_darningref11_First : (List zh) → Int → (List UInt8) → Int → Option (Int × Int)} (hrec_darningref11_First : ∀ {sv : (List zh)} {m : Int} {b : (List UInt8)} {d : Int} {r : (Int × Int)}, rec_darningref11_First sv m b d = some r → FnOk Tryz.prog 15 [.sl zd [0] sv, kI m, .sl Rp.byte [0] b, kI d] [kI r.1, kI r.2]) {sv : (List zh)} {m : Int} {b : (List UInt8)} {d : Int} {r : (Int × Int)} (h : zaR rec_darningref11_First sv m b d = some r) : FnOk Tryz.prog 15 [.sl zd [0] sv, kI m, .sl Rp.byte [0] b, kI d] [kI r.1, kI r.2] := by
 refine zx (E := ⟨[(8, kI r.1), (9, kI r.2)], []⟩) 106 Tryz.func15 rfl rfl rfl ⟨rfl, rfl, trivial⟩ (fun Xt => ?_)
 refine zr ?_
 unfold zaR at h
 refine jp ?_
 refine jp ?_
 refine zA ?_
 obtain ⟨q, h_q, h⟩ := bnd h
 refine zaW (fun s : Int => zT b d m rec_darningref11_First sv s) (fun s => ⟨[(0, .sl zd [0] sv), (1, kI m), (2, .sl Rp.byte [0] b), (3, kI d), (10, kI s)], []⟩) (fun o e a w => match o with | (.inl v_) => e = .exit 0 ∧ Sx ⟨⟨106, []⟩, Xt, false, #[]⟩ ⟨[], []⟩ a w | (.inr v_) => e = .ret ∧ Sx ⟨⟨106, []⟩, Xt, false, #[]⟩ ⟨[(8, kI v_.1), (9, kI v_.2)], []⟩ a w) ?_ h_q lzz ?_
 ·
  clear h
  intro atv o h
  refine zr ?_
  replace h : zT b d m rec_darningref11_First sv atv = some o := h
  unfold zT at h
  refine jp ?_
  rcases zm h with ⟨hc1, h⟩ | ⟨hc1, h⟩
  ·
   refine jT hc1 ?_
   refine zA ?_
   obtain ⟨x, h_x, h⟩ := bnd h
   obtain ⟨rv, h_rv, h⟩ := bnd h
   refine jr (ra 2 [.sl zd [0] sv, kI m] rfl (zbx rfl zet.el (zR _ _ _) h_x) rfl (ra 0 [.ep zd [0] x 0] rfl (zgr rfl ⟨Tryz.isAgg42, Tryz.sizeOf42⟩) rfl (rl 2 [0] 10 Tryz.call20 (zia h_rv) (rfl' [12])))) ?_
   refine jp ?_
   rcases zm h with ⟨hc2, h⟩ | ⟨hc2, h⟩
   ·
    refine jT hc2 ?_
    refine jp ?_
    obtain rfl := sj h
    exact zaY lzz
   refine jF hc2 ?_
   obtain ⟨v3, h_v3, h⟩ := bnd h
   refine jr (ra 7 [.sl Rp.byte [0] b, kI rv.1.R.At, kI rv.1.R.To] rfl (zfD (some (kI rv.1.R.At)) (some (kI rv.1.R.To)) rfl zde.el (zR _ _ _) ⟨rfl, rfl⟩ ⟨rfl, rfl⟩ h_v3) rfl rf) ?_
   refine jp ?_
   rcases zm h with ⟨hc3, h⟩ | ⟨hc3, h⟩
   ·
    refine jT hc3 ?_
    obtain ⟨x2, h_x2, h⟩ := bnd h
    obtain ⟨x3, h_x3, h⟩ := bnd h
    refine jd [0, 1, 2, 3, 10, 11, 13, 14] [12, 13] zdQ (by exact (lw_e (lw_e (ly [.sl zd [0] sv, kI m] (zbx rfl zet.el (zR _ _ _) h_x2) rfl (lw_e (ly [.ep zd [0] x2 1] (zgs za x2.Fields rfl rfl rfl) rfl (lw_e (lw_e (ly [.sl za [0] x2.Fields, kI rv.1.Field] (zbx rfl zhD.el (zR _ _ _) h_x3) rfl (ly [.ep za [0] x3 0] (zgr rfl ⟨Tryz.isAgg39, Tryz.sizeOf39⟩) rfl (lx (zjR 13 [kS [], kI 0, kI 0, kB false, kB false, kI 0] rfl Tryz.zeroValue39 rfl) (ly [.ptr 13 0, .rc za [0] x3] (zky (r := za) (b := ⟨13, 39, [kS [], kI 0, kI 0, kB false, kB false, kI 0]⟩) (off := 0) [kS x3.Name, kI x3.Number, kI x3.Kind, kB x3.Repeated, kB x3.Packed, kI x3.Of] rfl Tryz.sizeOf39 rfl rfl rfl rfl) rfl l0)))))))))))) ?_
    refine jp ?_
    rcases zm h with ⟨hc4, h⟩ | ⟨hc4, h⟩
    ·
     refine jT hc4 ?_
     obtain ⟨rv2, h_rv2, h⟩ := bnd h
     refine jr (rl 3 [0] 12 Tryz.call21 (zhZ h_rv2) rf) ?_
     refine jp ?_
     rcases zm h with ⟨hc5, h⟩ | ⟨hc5, h⟩
     ·
      refine jT hc5 ?_
      refine jp ?_
      obtain rfl := sj h
      exact zaY lzz
     refine jF hc5 ?_
     refine jp ?_
     refine zap ?_
     obtain rfl := sj h
     exact zF lzz
    refine jF hc4 ?_
    obtain ⟨g, h_g, h⟩ := bnd h
    refine zE ⟨[(0, .sl zd [0] sv), (1, kI m), (2, .sl Rp.byte [0] b), (3, kI d), (10, kI atv), (11, .ptr 12 0), (13, .sl Rp.byte [0] v3), (14, .ptr 13 0), (77, kB g)], [⟨12, 53, [kI rv.1.R.Number, kI rv.1.R.Wire, kI rv.1.R.From, kI rv.1.R.At, kI rv.1.R.To, kI rv.1.Field, kB rv.1.Run]⟩, ⟨13, 39, [kS x3.Name, kI x3.Number, kI x3.Kind, kB x3.Repeated, kB x3.Packed, kI x3.Of]⟩]⟩ ?_ ?_
    ·
     refine (rsl 4 [] 73 (x3.Kind == 15) (fun hc6 => ?_) (fun hc6 => ?_))
     ·
      replace h_g := iteT h_g hc6
      obtain ⟨rv3, h_rv3, h_g⟩ := bnd h_g
      obtain rfl := sj h_g
      exact (rl 1 [0] 13 Tryz.call22 (zhG h_rv3) (rel [] lzz))
     replace h_g := iteF h_g hc6
     obtain rfl := sj h_g
     exact (rel [] lzz)
    rcases zm h with ⟨hc7, h⟩ | ⟨hc7, h⟩
    ·
     refine jT hc7 ?_
     refine jp ?_
     obtain rfl := sj h
     exact zaY lzz
    refine jF hc7 ?_
    refine jp ?_
    rcases zm h with ⟨hc8, h⟩ | ⟨hc8, h⟩
    ·
     refine jT hc8 ?_
     refine jp ?_
     rcases zm h with ⟨hc9, h⟩ | ⟨hc9, h⟩
     ·
      refine jT hc9 ?_
      refine jp ?_
      obtain rfl := sj h
      exact zaY lzz
     refine jF hc9 ?_
     obtain ⟨rv4, h_rv4, h⟩ := bnd h
     refine jr (rl 6 [0] 13 Tryz.call15 (hrec_darningref11_First h_rv4) rf) ?_
     refine jp ?_
     rcases zm h with ⟨hc10, h⟩ | ⟨hc10, h⟩
     ·
      refine jT hc10 ?_
      refine jp ?_
      obtain rfl := sj h
      exact zaY lzz
     refine jF hc10 ?_
     refine jp ?_
     refine zap ?_
     obtain rfl := sj h
     exact zF lzz
    refine jF hc8 ?_
    refine jp ?_
    refine zap ?_
    obtain rfl := sj h
    exact zF lzz
   refine jF hc3 ?_
   refine jp ?_
   refine zap ?_
   obtain rfl := sj h
   exact zF lzz
  refine jF hc1 ?_
  obtain rfl := sj h
  exact zaX rfl lzz
 rcases q with u | u2
 ·
  refine zbI _ rfl ?_
  refine jp ?_
  obtain rfl := sj h
  exact zv lzz
 obtain rfl := sj h
 exact zdI lzz
theorem zhM {fuel : Nat} {sv : (List zh)} {m : Int} {b : (List UInt8)} {d : Int} {r : (Int × Int)} (h : zax fuel sv m b d = some r) : FnOk Tryz.prog 15 [.sl zd [0] sv, kI m, .sl Rp.byte [0] b, kI d] [kI r.1, kI r.2] := by
  induction fuel generalizing sv m b d r with
  | zero => exact absurd h nofun
  | succ fuel ih => exact zhe (fun hh => ih hh) h
end Go.Proofs.YtnfembipjdohcaaGreat
