/-
  The Go functions do what the plain functions say. No condition.
-/
import Derived.Test.YtnfembipjdohcaaG2
namespace Go.Proofs.Ytnfembipjdohcaa
open Go Go.RowKit
set_option linter.unusedVariables false
set_option maxRecDepth 100000
set_option maxHeartbeats 3200000
theorem zhE {f : ze} {r : Bool} (h : zbX f = some r) : FnOk Try.prog 33 [.rc za [0] f] [kB r] := by
 refine zx (E := ⟨[(2, kB r)], []⟩) 10 Try.func33 rfl rfl rfl ⟨rfl, trivial⟩ (fun Xt => ?_)
 refine zv ?_
 unfold zbX at h
 refine jq [11] ?_
 obtain ⟨g, h_g, h⟩ := bnd h
 refine zU ⟨[(2, kB g)], []⟩ ?_ ?_
 ·
  refine (rsl 3 [] 5 f.Repeated (fun hc1 => ?_) (fun hc1 => ?_))
  ·
   replace h_g := iteT h_g hc1
   obtain ⟨rv, h_rv, h_g⟩ := bnd h_g
   obtain rfl := sj h_g
   exact (rl 2 [1] 10 Try.call47 (zfK h_rv) rgg)
  replace h_g := iteF h_g hc1
  obtain rfl := sj h_g
  exact rgg
 obtain rfl := sj h
 exact zw lzz
theorem zfT {b : (List UInt8)} {fromv : Int} {r : (zo × Int)} (h : zcC b fromv = some r) : FnOk Try.prog 16 [.sl Rp.byte [0] b, kI fromv] [.rc zO [] r.1, k8 r.2] := by
 refine zx (E := ⟨[(4, .ptr 2 0), (5, k8 r.2)], [⟨2, 47, [kI r.1.Number, kI r.1.Wire, kI r.1.From, kI r.1.At, kI r.1.To]⟩]⟩) 62 Try.func16 rfl rfl rfl ⟨⟨_, _, rfl, rfl, rfl, rfl, ⟨Try.isAgg47, Try.sizeOf47⟩⟩, rfl, trivial⟩ (fun Xt => ?_)
 refine zv ?_
 unfold zcC at h
 refine jq [12] ?_
 refine zU ⟨[(0, .sl Rp.byte [0] b), (1, kI fromv), (4, .ptr 12 0), (19, kB ((decide (fromv < 0)) || (decide (fromv ≥ (b.length : Int)))))], [⟨12, 47, [kI 0, kI 0, kI 0, kI 0, kI 0]⟩]⟩ ?_ ?_
 ·
  refine (rsl 3 [] 14 (decide (fromv < 0)) (fun hc1 => ?_) (fun hc1 => ?_))
  · exact (rbl [] 19 true ((decide (fromv < 0)) || (decide (fromv ≥ (b.length : Int)))) (by rw [hc1] <;> rfl))
  exact (rbl [] 19 (decide (fromv ≥ (b.length : Int))) ((decide (fromv < 0)) || (decide (fromv ≥ (b.length : Int)))) (by rw [hc1] <;> rfl))
 rcases zq h with ⟨hc2, h⟩ | ⟨hc2, h⟩
 ·
  refine jT hc2 ?_
  refine jr (rc 0 rfl (zB (r := zO) [] [] (⟨0, 0, 0, 0, 0⟩ : zo) rfl zoY rfl rfl) rf) ?_
  obtain rfl := sj h
  refine zw ?_
  refine lk [4, 5] [12] 12 2 ?_
  exact lzz
 refine jF hc2 ?_
 obtain ⟨v2, h_v2, h⟩ := bnd h
 obtain ⟨rv, h_rv, h⟩ := bnd h
 refine jr (ra 2 [.sl Rp.byte [0] b, kI fromv] rfl (zfe (some (kI fromv)) none rfl zdz.el (zas _ _ _) ⟨rfl, rfl⟩ ⟨rfl, rfl⟩ h_v2) rfl (rl 0 [0] 11 Try.call22 (znn h_rv) (rfl' [13]))) ?_
 refine jp ?_
 rcases zq h with ⟨hc3, h⟩ | ⟨hc3, h⟩
 ·
  refine jT hc3 ?_
  refine jr (rc 0 rfl (zB (r := zO) [] [] (⟨0, 0, 0, 0, 0⟩ : zo) rfl zoY rfl rfl) rf) ?_
  obtain rfl := sj h
  refine zw ?_
  refine lk [4, 5] [12] 12 2 ?_
  exact lzz
 refine jF hc3 ?_
 refine jp ?_
 obtain ⟨v3, h_v3, h⟩ := bnd h
 obtain ⟨rv2, h_rv2, h⟩ := bnd h
 refine jd [1, 4, 6, 8, 9, 10, 11] [12, 13] zfN (by exact (lw_e (lw_e (lw_e (lw_e (ly [.sl Rp.byte [0] b, kI (IntKind.i64.wrap (fromv + rv.2.1))] (zfe (some (kI (IntKind.i64.wrap (fromv + rv.2.1)))) none rfl zdz.el (zas _ _ _) ⟨rfl, rfl⟩ ⟨rfl, rfl⟩ h_v3) rfl (lx (lf1 23 (zlX [kI rv.1.Wire, .sl Rp.byte [0] v3] [0] 12 rfl Try.call23 (zkj h_rv2) rfl rfl rfl rfl rfl)) l0))))))) ?_
 refine jp ?_
 rcases zq h with ⟨hc4, h⟩ | ⟨hc4, h⟩
 ·
  refine jT hc4 ?_
  refine jr (rc 0 rfl (zB (r := zO) [] [] (⟨0, 0, 0, 0, 0⟩ : zo) rfl zoY rfl rfl) rf) ?_
  obtain rfl := sj h
  refine zw ?_
  refine lk [4, 5] [12] 12 2 ?_
  exact lzz
 refine jF hc4 ?_
 refine jr (rc 11 rfl (zB (r := zO) [kI rv.1.Number, kI rv.1.Wire, kI fromv, kI (IntKind.i64.wrap ((IntKind.i64.wrap (fromv + rv.2.1)) + rv2.1)), kI (IntKind.i64.wrap ((IntKind.i64.wrap (fromv + rv.2.1)) + rv2.2.1))] [] (⟨rv.1.Number, rv.1.Wire, fromv, (IntKind.i64.wrap ((IntKind.i64.wrap (fromv + rv.2.1)) + rv2.1)), (IntKind.i64.wrap ((IntKind.i64.wrap (fromv + rv.2.1)) + rv2.2.1))⟩ : zo) rfl zoY rfl rfl) rf) ?_
 obtain rfl := sj h
 refine zw ?_
 refine lk [4, 5] [12] 12 2 ?_
 exact lzz
theorem zkO {f : ze} {wire : Int} {r : Bool} (h : zeg f wire = some r) : FnOk Try.prog 50 [.rc za [0] f, kI wire] [kB r] := by
 refine zx (E := ⟨[(4, kB r)], []⟩) 16 Try.func50 rfl rfl rfl ⟨rfl, trivial⟩ (fun Xt => ?_)
 refine zv ?_
 unfold zeg at h
 refine jq [11] ?_
 obtain ⟨g, h_g, h⟩ := bnd h
 refine zU ⟨[(4, kB g)], []⟩ ?_ ?_
 ·
  refine (rsl 3 [] 7 f.Repeated (fun hc1 => ?_) (fun hc1 => ?_))
  ·
   replace h_g := iteT h_g hc1
   refine (rsl 4 [] 11 (wire == 2) (fun hc2 => ?_) (fun hc2 => ?_))
   ·
    replace h_g := iteT h_g hc2
    obtain ⟨rv, h_rv, h_g⟩ := bnd h_g
    obtain rfl := sj h_g
    exact (rl 2 [1] 10 Try.call47 (zfK h_rv) rgg)
   replace h_g := iteF h_g hc2
   obtain rfl := sj h_g
   exact rgg
  replace h_g := iteF h_g hc1
  obtain rfl := sj h_g
  exact rgg
 obtain rfl := sj h
 exact zw lzz
theorem zko {k : Int} {wv : Int} {r : Int} (h : zdt k wv = some r) : FnOk Try.prog 62 [kI k, kU wv] [kI r] := by
 refine zx (E := ⟨[(4, kI r)], []⟩) 29 Try.func62 rfl rfl rfl ⟨rfl, trivial⟩ (fun Xt => ?_)
 refine zv ?_
 unfold zdt at h
 refine jp ?_
 obtain ⟨rv, h_rv, h⟩ := bnd h
 refine jr (rl 1 [1] 9 Try.call75 (ziL h_rv) rf) ?_
 refine zU ⟨[(0, kI k), (1, kU wv), (5, kI rv.1), (19, kB ((rv.2 != 0) || (rv.1 != 0)))], []⟩ ?_ ?_
 ·
  refine (rsl 3 [] 16 (rv.2 != 0) (fun hc1 => ?_) (fun hc1 => ?_))
  · exact (rbl [] 19 true ((rv.2 != 0) || (rv.1 != 0)) (by rw [hc1] <;> rfl))
  exact (rbl [] 19 (rv.1 != 0) ((rv.2 != 0) || (rv.1 != 0)) (by rw [hc1] <;> rfl))
 rcases zq h with ⟨hc2, h⟩ | ⟨hc2, h⟩
 ·
  refine jT hc2 ?_
  refine jp ?_
  obtain rfl := sj h
  exact zw lzz
 refine jF hc2 ?_
 obtain ⟨rv2, h_rv2, h⟩ := bnd h
 refine jr (rl 2 [1] 9 Try.call76 (zkI h_rv2) rf) ?_
 obtain ⟨rv3, h_rv3, h⟩ := bnd h
 refine jr (rl 1 [1] 9 Try.call77 (zmw h_rv3) rf) ?_
 obtain rfl := sj h
 exact zw lzz
theorem zmn {b : (List UInt8)} {r : Int} (h : zeR b = some r) : FnOk Try.prog 40 [.sl Rp.byte [0] b] [kI r] := by
 refine zx (E := ⟨[(2, kI r)], []⟩) 11 Try.func40 rfl rfl rfl ⟨rfl, trivial⟩ (fun Xt => ?_)
 refine zv ?_
 unfold zeR at h
 refine jp ?_
 obtain ⟨rv, h_rv, h⟩ := bnd h
 refine jr (rl 1 [0] 9 Try.call55 (zns h_rv) rf) ?_
 refine jp ?_
 obtain rfl := sj h
 exact zw lzz
theorem zfw {c : zP} {message : Int} {f : ze} {r : (Int × (List (zg × Bool)) × (List (zh × Bool)))} (h : zbi c message f = some r) : zcH Try.prog 21 [.ag [kI c.size, .sl (Rp.int .i64) [0] c.kinds, .om zk Rp.bool 2 [0] c.names, .om zj Rp.bool 3 [0] c.numbers], kI message, .rc za [0] f] [kI r.1] [.ag [.any, .any, .om zk Rp.bool 2 [0] r.2.1, .om zj Rp.bool 3 [0] r.2.2], .any, .any] := by
 refine zdJ (E := ⟨[(0, .ag [.any, .any, .om zk Rp.bool 2 [0] r.2.1, .om zj Rp.bool 3 [0] r.2.2]), (6, kI r.1)], []⟩) 63 [0] Try.func21 rfl rfl rfl ⟨rfl, trivial⟩ ⟨.inr ⟨rfl, rfl⟩, .inl rfl, .inl rfl, trivial⟩ rfl (fun Xt old => ?_)
 refine zv ?_
 unfold zbi at h
 refine jq [11, 12] ?_
 refine jd [0, 3, 5, 7, 8] [11, 12, 13, 14] zfN (by exact (lw_e (lw_e (lw_e (lx (zB (r := zk) [kI message, kS f.Name] [] (⟨message, f.Name⟩ : zg) rfl zsS rfl rfl) (lw_e (lw_e (lw_e (lx (zB (r := zj) [kI message, kI f.Number] [] (⟨message, f.Number⟩ : zh) rfl ztR rfl rfl) (lx (zjP 13 [kI 0, kS []] rfl Try.zeroValue91 rfl) (lx (zjP 14 [kI 0, kI 0] rfl Try.zeroValue94 rfl) (ly [.ptr 13 0, .rc zk [] (⟨message, f.Name⟩ : zg)] (zjS (r := zk) (b := ⟨13, 91, [kI 0, kS []]⟩) (off := 0) [kI message, kS f.Name] rfl Try.sizeOf91 rfl rfl rfl rfl) rfl (ly [.ptr 14 0, .rc zj [] (⟨message, f.Number⟩ : zh)] (zjS (r := zj) (b := ⟨14, 94, [kI 0, kI 0]⟩) (off := 0) [kI message, kI f.Number] rfl Try.sizeOf94 rfl rfl rfl rfl) rfl l0))))))))))))) ?_
 refine zN ?_
 obtain ⟨rv, h_rv, h⟩ := bnd h
 refine jr (rl 2 [1] 13 Try.call30 (zeN h_rv) rf) ?_
 rcases zq h with ⟨hc1, h⟩ | ⟨hc1, h⟩
 ·
  refine jT hc1 ?_
  refine jp ?_
  obtain rfl := sj h
  refine zbS ?_
  refine zbV ⟨[(0, .ag [kI c.size, .sl (Rp.int .i64) [0] c.kinds, .om zk Rp.bool 2 [0] c.names, .om zj Rp.bool 3 [0] c.numbers]), (6, kI 5)], []⟩ (by kernel_rfl) ?_
  refine zch 0 (.ag [.any, .any, .om zk Rp.bool 2 [0] ((5, c.names, c.numbers) : (Int × (List (zg × Bool)) × (List (zh × Bool)))).2.1, .om zj Rp.bool 3 [0] ((5, c.names, c.numbers) : (Int × (List (zg × Bool)) × (List (zh × Bool)))).2.2]) rfl (zcg ⟨zad _, zad _, AV.le_refl _, AV.le_refl _, trivial⟩) ?_
  exact lzz
 refine jF hc1 ?_
 refine jr (lb 2 zk [] (⟨message, f.Name⟩ : zg) (ra 0 [.om zk Rp.bool 2 [0] c.names, .rc zk [] (⟨message, f.Name⟩ : zg)] rfl (zlZ (rk := zk) (rv := Rp.bool) (m := c.names) (k := (⟨message, f.Name⟩ : zg)) (kB ((mget c.names (⟨message, f.Name⟩ : zg)).getD false)) rfl zma (zfa _ _ _ _ _) (zay rfl) (zlM rfl rfl rfl)) rfl rf)) ?_
 rcases zq h with ⟨hc2, h⟩ | ⟨hc2, h⟩
 ·
  refine jT hc2 ?_
  refine jp ?_
  obtain rfl := sj h
  refine zbS ?_
  refine zbV ⟨[(0, .ag [kI c.size, .sl (Rp.int .i64) [0] c.kinds, .om zk Rp.bool 2 [0] c.names, .om zj Rp.bool 3 [0] c.numbers]), (6, kI 6)], []⟩ (by kernel_rfl) ?_
  refine zch 0 (.ag [.any, .any, .om zk Rp.bool 2 [0] ((6, c.names, c.numbers) : (Int × (List (zg × Bool)) × (List (zh × Bool)))).2.1, .om zj Rp.bool 3 [0] ((6, c.names, c.numbers) : (Int × (List (zg × Bool)) × (List (zh × Bool)))).2.2]) rfl (zcg ⟨zad _, zad _, AV.le_refl _, AV.le_refl _, trivial⟩) ?_
  exact lzz
 refine jF hc2 ?_
 obtain ⟨rv2, h_rv2, h⟩ := bnd h
 refine jr (rl 2 [1] 13 Try.call31 (zgU h_rv2) rf) ?_
 rcases zq h with ⟨hc3, h⟩ | ⟨hc3, h⟩
 ·
  refine jT hc3 ?_
  refine jp ?_
  obtain rfl := sj h
  refine zbS ?_
  refine zbV ⟨[(0, .ag [kI c.size, .sl (Rp.int .i64) [0] c.kinds, .om zk Rp.bool 2 [0] c.names, .om zj Rp.bool 3 [0] c.numbers]), (6, kI 7)], []⟩ (by kernel_rfl) ?_
  refine zch 0 (.ag [.any, .any, .om zk Rp.bool 2 [0] ((7, c.names, c.numbers) : (Int × (List (zg × Bool)) × (List (zh × Bool)))).2.1, .om zj Rp.bool 3 [0] ((7, c.names, c.numbers) : (Int × (List (zg × Bool)) × (List (zh × Bool)))).2.2]) rfl (zcg ⟨zad _, zad _, AV.le_refl _, AV.le_refl _, trivial⟩) ?_
  exact lzz
 refine jF hc3 ?_
 refine jr (lb 2 zj [] (⟨message, f.Number⟩ : zh) (ra 0 [.om zj Rp.bool 3 [0] c.numbers, .rc zj [] (⟨message, f.Number⟩ : zh)] rfl (zlZ (rk := zj) (rv := Rp.bool) (m := c.numbers) (k := (⟨message, f.Number⟩ : zh)) (kB ((mget c.numbers (⟨message, f.Number⟩ : zh)).getD false)) rfl zqZ (zfa _ _ _ _ _) (zay rfl) (zlM rfl rfl rfl)) rfl rf)) ?_
 rcases zq h with ⟨hc4, h⟩ | ⟨hc4, h⟩
 ·
  refine jT hc4 ?_
  refine jp ?_
  obtain rfl := sj h
  refine zbS ?_
  refine zbV ⟨[(0, .ag [kI c.size, .sl (Rp.int .i64) [0] c.kinds, .om zk Rp.bool 2 [0] c.names, .om zj Rp.bool 3 [0] c.numbers]), (6, kI 8)], []⟩ (by kernel_rfl) ?_
  refine zch 0 (.ag [.any, .any, .om zk Rp.bool 2 [0] ((8, c.names, c.numbers) : (Int × (List (zg × Bool)) × (List (zh × Bool)))).2.1, .om zj Rp.bool 3 [0] ((8, c.names, c.numbers) : (Int × (List (zg × Bool)) × (List (zh × Bool)))).2.2]) rfl (zcg ⟨zad _, zad _, AV.le_refl _, AV.le_refl _, trivial⟩) ?_
  exact lzz
 refine jF hc4 ?_
 obtain ⟨rv3, h_rv3, h⟩ := bnd h
 refine jr (rl 4 [0] 13 Try.call32 (zdv h_rv3) rf) ?_
 rcases zq h with ⟨hc5, h⟩ | ⟨hc5, h⟩
 ·
  refine jT hc5 ?_
  refine jp ?_
  obtain rfl := sj h
  refine zbS ?_
  refine zbV ⟨[(0, .ag [kI c.size, .sl (Rp.int .i64) [0] c.kinds, .om zk Rp.bool 2 [0] c.names, .om zj Rp.bool 3 [0] c.numbers]), (6, kI 9)], []⟩ (by kernel_rfl) ?_
  refine zch 0 (.ag [.any, .any, .om zk Rp.bool 2 [0] ((9, c.names, c.numbers) : (Int × (List (zg × Bool)) × (List (zh × Bool)))).2.1, .om zj Rp.bool 3 [0] ((9, c.names, c.numbers) : (Int × (List (zg × Bool)) × (List (zh × Bool)))).2.2]) rfl (zcg ⟨zad _, zad _, AV.le_refl _, AV.le_refl _, trivial⟩) ?_
  exact lzz
 refine jF hc5 ?_
 obtain ⟨g, h_g, h⟩ := bnd h
 refine zU ⟨[(0, .ag [kI c.size, .sl (Rp.int .i64) [0] c.kinds, .om zk Rp.bool 2 [0] c.names, .om zj Rp.bool 3 [0] c.numbers]), (3, .ptr 11 0), (5, .ptr 12 0), (7, .ptr 13 0), (8, .ptr 14 0), (44, kB g)], [⟨11, 69, [kI c.size, .sl (Rp.int .i64) [0] c.kinds, .om zk Rp.bool 2 [0] c.names, .om zj Rp.bool 3 [0] c.numbers]⟩, ⟨12, 33, [kS f.Name, kI f.Number, kI f.Kind, kB f.Repeated, kB f.Packed, kI f.Of]⟩, ⟨13, 91, [kI message, kS f.Name]⟩, ⟨14, 94, [kI message, kI f.Number]⟩]⟩ ?_ ?_
 ·
  refine (rsl 3 [] 47 f.Packed (fun hc6 => ?_) (fun hc6 => ?_))
  ·
   replace h_g := iteT h_g hc6
   obtain ⟨rv4, h_rv4, h_g⟩ := bnd h_g
   obtain rfl := sj h_g
   exact (lb 0 za [] f (rl 0 [1] 13 Try.call33 (zhE h_rv4) (rel [] lzz)))
  replace h_g := iteF h_g hc6
  obtain rfl := sj h_g
  exact (rel [] lzz)
 rcases zq h with ⟨hc7, h⟩ | ⟨hc7, h⟩
 ·
  refine jT hc7 ?_
  refine jp ?_
  obtain rfl := sj h
  refine zbS ?_
  refine zbV ⟨[(0, .ag [kI c.size, .sl (Rp.int .i64) [0] c.kinds, .om zk Rp.bool 2 [0] c.names, .om zj Rp.bool 3 [0] c.numbers]), (6, kI 10)], []⟩ (by kernel_rfl) ?_
  refine zch 0 (.ag [.any, .any, .om zk Rp.bool 2 [0] ((10, c.names, c.numbers) : (Int × (List (zg × Bool)) × (List (zh × Bool)))).2.1, .om zj Rp.bool 3 [0] ((10, c.names, c.numbers) : (Int × (List (zg × Bool)) × (List (zh × Bool)))).2.2]) rfl (zcg ⟨zad _, zad _, AV.le_refl _, AV.le_refl _, trivial⟩) ?_
  exact lzz
 refine jF hc7 ?_
 obtain ⟨rv5, h_rv5, h⟩ := bnd h
 refine jr (lb 1 za [] f (rl 0 [0, 2, 3] 13 Try.call34 (zfx h_rv5) rf)) ?_
 rcases zq h with ⟨hc8, h⟩ | ⟨hc8, h⟩
 ·
  refine jT hc8 ?_
  refine jp ?_
  obtain rfl := sj h
  refine zbS ?_
  refine zbV ⟨[(0, .ag [kI c.size, .sl (Rp.int .i64) [0] c.kinds, .om zk Rp.bool 2 [0] c.names, .om zj Rp.bool 3 [0] c.numbers]), (6, kI 11)], []⟩ (by kernel_rfl) ?_
  refine zch 0 (.ag [.any, .any, .om zk Rp.bool 2 [0] ((11, c.names, c.numbers) : (Int × (List (zg × Bool)) × (List (zh × Bool)))).2.1, .om zj Rp.bool 3 [0] ((11, c.names, c.numbers) : (Int × (List (zg × Bool)) × (List (zh × Bool)))).2.2]) rfl (zcg ⟨zad _, zad _, AV.le_refl _, AV.le_refl _, trivial⟩) ?_
  exact lzz
 refine jF hc8 ?_
 refine zav ?_
 refine jr (lb 2 zk [] (⟨message, f.Name⟩ : zg) (rkl 0 [] ⟨[(0, .ag [kI c.size, .sl (Rp.int .i64) [0] c.kinds, .om zk Rp.bool 2 [0] c.names, .om zj Rp.bool 3 [0] c.numbers]), (3, .ptr 11 0), (8, .ptr 14 0), (58, .om zk Rp.bool 2 [0] c.names), (59, .rc zk [] (⟨message, f.Name⟩ : zg))], [⟨11, 69, [kI c.size, .sl (Rp.int .i64) [0] c.kinds, .om zk Rp.bool 2 [0] c.names, .om zj Rp.bool 3 [0] c.numbers]⟩, ⟨14, 94, [kI message, kI f.Number]⟩]⟩ (zct ⟨[(0, .ag [kI c.size, .sl (Rp.int .i64) [0] c.kinds, .om zk Rp.bool 2 [0] (mput c.names (⟨message, f.Name⟩ : zg) true), .om zj Rp.bool 3 [0] c.numbers]), (3, .ptr 11 0), (8, .ptr 14 0), (58, .om zk Rp.bool 2 [0] (mput c.names (⟨message, f.Name⟩ : zg) true)), (59, .rc zk [] (⟨message, f.Name⟩ : zg))], [⟨11, 69, [kI c.size, .sl (Rp.int .i64) [0] c.kinds, .om zk Rp.bool 2 [0] (mput c.names (⟨message, f.Name⟩ : zg) true), .om zj Rp.bool 3 [0] c.numbers]⟩, ⟨14, 94, [kI message, kI f.Number]⟩]⟩ (zhG (rk := zk) (rv := Rp.bool) (m := c.names) (ℓ := 2) (C := [0]) (C1 := []) (D := []) (⟨message, f.Name⟩ : zg) true [0] zma (.inl rfl) (zay rfl) (zbt rfl rfl) rfl) rfl (by kernel_rfl) (by kernel_rfl) ⟨⟨_, rfl, zeP ⟨zn rfl, zn rfl, zbr 0 rfl, zn rfl, trivial⟩⟩, ⟨_, rfl, zn rfl⟩, ⟨_, rfl, zn rfl⟩, ⟨_, rfl, zbr 0 rfl⟩, ⟨_, rfl, zn rfl⟩, trivial⟩ ⟨⟨_, rfl, rfl, rfl, ⟨zn rfl, zn rfl, zbr 0 rfl, zn rfl, trivial⟩⟩, ⟨_, rfl, rfl, rfl, ⟨zn rfl, zn rfl, trivial⟩⟩, trivial⟩ rf))) ?_
 refine jr (lb 2 zj [] (⟨message, f.Number⟩ : zh) (rkl 0 [] ⟨[(0, .ag [kI c.size, .sl (Rp.int .i64) [0] c.kinds, .om zk Rp.bool 2 [0] (mput c.names (⟨message, f.Name⟩ : zg) true), .om zj Rp.bool 3 [0] c.numbers]), (61, .om zj Rp.bool 3 [0] c.numbers), (62, .rc zj [] (⟨message, f.Number⟩ : zh))], []⟩ (zct ⟨[(0, .ag [kI c.size, .sl (Rp.int .i64) [0] c.kinds, .om zk Rp.bool 2 [0] (mput c.names (⟨message, f.Name⟩ : zg) true), .om zj Rp.bool 3 [0] (mput c.numbers (⟨message, f.Number⟩ : zh) true)]), (61, .om zj Rp.bool 3 [0] (mput c.numbers (⟨message, f.Number⟩ : zh) true)), (62, .rc zj [] (⟨message, f.Number⟩ : zh))], []⟩ (zhG (rk := zj) (rv := Rp.bool) (m := c.numbers) (ℓ := 3) (C := [0]) (C1 := []) (D := []) (⟨message, f.Number⟩ : zh) true [0] zqZ (.inl rfl) (zay rfl) (zbt rfl rfl) rfl) rfl (by kernel_rfl) (by kernel_rfl) ⟨⟨_, rfl, zeP ⟨zn rfl, zn rfl, zn rfl, zbr 0 rfl, trivial⟩⟩, ⟨_, rfl, zbr 0 rfl⟩, ⟨_, rfl, zn rfl⟩, trivial⟩ trivial rf))) ?_
 refine jp ?_
 obtain rfl := sj h
 refine zbS ?_
 refine zbV ⟨[(0, .ag [kI c.size, .sl (Rp.int .i64) [0] c.kinds, .om zk Rp.bool 2 [0] (mput c.names (⟨message, f.Name⟩ : zg) true), .om zj Rp.bool 3 [0] (mput c.numbers (⟨message, f.Number⟩ : zh) true)]), (6, kI 0)], []⟩ (by kernel_rfl) ?_
 refine zch 0 (.ag [.any, .any, .om zk Rp.bool 2 [0] ((0, (mput c.names (⟨message, f.Name⟩ : zg) true), (mput c.numbers (⟨message, f.Number⟩ : zh) true)) : (Int × (List (zg × Bool)) × (List (zh × Bool)))).2.1, .om zj Rp.bool 3 [0] ((0, (mput c.names (⟨message, f.Name⟩ : zg) true), (mput c.numbers (⟨message, f.Number⟩ : zh) true)) : (Int × (List (zg × Bool)) × (List (zh × Bool)))).2.2]) rfl (zcg ⟨zad _, zad _, AV.le_refl _, AV.le_refl _, trivial⟩) ?_
 exact lzz
theorem zkz {m : zr} {hv : zz} {r : zE} (h : zcG m hv = some r) : FnOk Try.prog 38 [.rc zi [0] m, .rc zA [0] hv] [.rc zD [] r] := by
 refine zx (E := ⟨[(4, .ptr 2 0)], [⟨2, 107, [kI r.field, kB r.run, k8 r.e]⟩]⟩) 38 Try.func38 rfl rfl rfl ⟨⟨_, _, rfl, rfl, rfl, rfl, ⟨Try.isAgg107, Try.sizeOf107⟩⟩, trivial⟩ (fun Xt => ?_)
 refine zv ?_
 unfold zcG at h
 refine jr (ra 0 [.rc zi [0] m] rfl (zhX 14 [kS m.Name, .sl za [0] m.Fields] [0] rfl rfl rfl rfl rfl) rfl (rfl' [15, 16])) ?_
 obtain ⟨rv, h_rv, h⟩ := bnd h
 refine jr (rl 3 [0] 15 Try.call49 (zkN h_rv) rf) ?_
 refine jp ?_
 rcases zq h with ⟨hc1, h⟩ | ⟨hc1, h⟩
 ·
  refine jT hc1 ?_
  refine jr (rc 0 rfl (zB (r := zD) [kI (-1)] [] (⟨(-1), false, 0⟩ : zE) rfl zoj rfl rfl) rf) ?_
  obtain rfl := sj h
  refine zw ?_
  refine lk [4] [16] 16 2 ?_
  exact lzz
 refine jF hc1 ?_
 obtain ⟨x, h_x, h⟩ := bnd h
 refine jr (ra 3 [.sl za [0] m.Fields, kI rv] rfl (zdD rfl zlB.el (zas _ _ _) h_x) rfl (ra 0 [.ep za [0] x 0] rfl (zhZ rfl ⟨Try.isAgg33, Try.sizeOf33⟩) rfl (rfl' [17]))) ?_
 obtain ⟨rv2, h_rv2, h⟩ := bnd h
 refine jr (lb 0 za [] x (rl 2 [1] 16 Try.call50 (zkO h_rv2) rf)) ?_
 obtain ⟨g, h_g, h⟩ := bnd h
 refine zU ⟨[(4, .ptr 16 0), (5, kI rv), (7, kB rv2), (33, kB g)], [⟨16, 107, [kI 0, kB false, k8 0]⟩]⟩ ?_ ?_
 ·
  refine (rsl 3 [] 26 (!rv2) (fun hc2 => ?_) (fun hc2 => ?_))
  ·
   replace h_g := iteT h_g hc2
   obtain ⟨rv3, h_rv3, h_g⟩ := bnd h_g
   obtain rfl := sj h_g
   exact (rl 4 [1] 16 Try.call51 (zmq h_rv3) (rel [] lzz))
  replace h_g := iteF h_g hc2
  obtain rfl := sj h_g
  exact (rel [] lzz)
 rcases zq h with ⟨hc3, h⟩ | ⟨hc3, h⟩
 ·
  refine jT hc3 ?_
  refine jr (rc 0 rfl (zB (r := zD) [k8 6] [] (⟨0, false, 6⟩ : zE) rfl zoj rfl rfl) rf) ?_
  obtain rfl := sj h
  refine zw ?_
  refine lk [4] [16] 16 2 ?_
  exact lzz
 refine jF hc3 ?_
 refine jr (rc 2 rfl (zB (r := zD) [kI rv, kB rv2] [] (⟨rv, rv2, 0⟩ : zE) rfl zoj rfl rfl) rf) ?_
 obtain rfl := sj h
 refine zw ?_
 refine lk [4] [16] 16 2 ?_
 exact lzz
theorem zmi {k : Int} {r : Int} (h : zeL k = some r) : FnOk Try.prog 53 [kI k] [kI r] := by
 refine zx (E := ⟨[(2, kI r)], []⟩) 5 Try.func53 rfl rfl rfl ⟨rfl, trivial⟩ (fun Xt => ?_)
 refine zv ?_
 unfold zeL at h
 refine jp ?_
 obtain ⟨rv, h_rv, h⟩ := bnd h
 refine jr (rl 1 [1] 9 Try.call62 (zko h_rv) rf) ?_
 obtain rfl := sj h
 exact zw lzz
theorem zmo {b : (List UInt8)} {r : Bool} (h : zdN b = some r) : FnOk Try.prog 26 [.sl Rp.byte [0] b] [kB r] := by
 refine zx (E := ⟨[(2, kB r)], []⟩) 8 Try.func26 rfl rfl rfl ⟨rfl, trivial⟩ (fun Xt => ?_)
 refine zv ?_
 unfold zdN at h
 refine jp ?_
 obtain ⟨rv, h_rv, h⟩ := bnd h
 refine jr (rl 1 [0] 9 Try.call40 (zmn h_rv) rf) ?_
 obtain rfl := sj h
 exact zw lzz
end Go.Proofs.Ytnfembipjdohcaa
