/-
  The Go functions do what the plain functions say. No condition.
-/
import Derived.Test.YtmghlnfhcdjbnaaGreatDoorG3
namespace Go.Proofs.YtmghlnfhcdjbnaaGreatDoor
open Go Go.RowKit
set_option linter.unusedVariables false
set_option maxRecDepth 100000
set_option maxHeartbeats 3200000
theorem zfP {sv : Str} {sep : Str} {sepSave : Int} {r : (Str × Str × Int)} (h : zcx sv sep sepSave = some r) : FnOk Tryz.prog 22 [kS sv, kS sep, kI sepSave] [.fv 33 [.bp Rp.str 9 903300 [] r.1, .bp Rp.str 9 903301 [] r.2.1, .bp (Rp.int .i64) 3 903302 [] r.2.2]] := by
 refine zr (E := ⟨[(6, .fv 33 [.bp Rp.str 9 903300 [] r.1, .bp Rp.str 9 903301 [] r.2.1, .bp (Rp.int .i64) 3 903302 [] r.2.2])], []⟩) 8 Tryz.func22 rfl rfl rfl ⟨rfl, trivial⟩ (fun Xt => ?_)
 refine zj ?_
 unfold zcx at h
 refine jq [903301, 903300, 903302] ?_
 refine jr (ra 0 [.ptr 903300 0, .ptr 903301 0, .ptr 903302 0] rfl (zmH (g := 33) [.tmp 4, .tmp 3, .tmp 5] [⟨903300, 9, [kS sep]⟩, ⟨903301, 9, [kS sv]⟩, ⟨903302, 3, [kI sepSave]⟩] [.bp Rp.str 9 903300 [] sep, .bp Rp.str 9 903301 [] sv, .bp (Rp.int .i64) 3 903302 [] sepSave] rfl ⟨⟨rfl, rfl, rfl, rfl⟩, ⟨rfl, rfl, rfl, rfl⟩, ⟨rfl, rfl, rfl, rfl⟩, trivial⟩ rfl) rfl rf) ?_
 obtain rfl := sj h
 exact zA lzz
theorem zeZ {c : zO} {message : Int} {f : zn} {r : (Int × (List (za × Bool)) × (List (zb × Bool)))} (h : zbt c message f = some r) : zfQ Tryz.prog 50 [.ag [kI c.size, .sl (Rp.int .i64) [0] c.kinds, .om zd Rp.bool 2 [0] c.names, .om zc Rp.bool 3 [0] c.numbers], kI message, .rc ze [0] f] [kI r.1] [.ag [.any, .any, .om zd Rp.bool 2 [0] r.2.1, .om zc Rp.bool 3 [0] r.2.2], .any, .any] := by
 refine zjj (E := ⟨[(0, .ag [.any, .any, .om zd Rp.bool 2 [0] r.2.1, .om zc Rp.bool 3 [0] r.2.2]), (6, kI r.1)], []⟩) 63 [0] Tryz.func50 rfl rfl rfl ⟨rfl, trivial⟩ ⟨.inr ⟨rfl, rfl⟩, .inl rfl, .inl rfl, trivial⟩ rfl (fun Xt old => ?_)
 refine zj ?_
 unfold zbt at h
 refine jq [11, 12] ?_
 refine jd [0, 3, 5, 7, 8] [11, 12, 13, 14] zfV (by exact (lw_e (lw_e (lw_e (lx (zak (r := zd) [kI message, kS f.Name] [] (⟨message, f.Name⟩ : za) rfl zoL rfl rfl) (lw_e (lw_e (lw_e (lx (zak (r := zc) [kI message, kI f.Number] [] (⟨message, f.Number⟩ : zb) rfl zqm rfl rfl) (lx (zkU 13 [kI 0, kS []] rfl Tryz.zeroValue119 rfl) (lx (zkU 14 [kI 0, kI 0] rfl Tryz.zeroValue121 rfl) (ly [.ptr 13 0, .rc zd [] (⟨message, f.Name⟩ : za)] (zlX (r := zd) (b := ⟨13, 119, [kI 0, kS []]⟩) (off := 0) [kI message, kS f.Name] rfl Tryz.sizeOf119 rfl rfl rfl rfl) rfl (ly [.ptr 14 0, .rc zc [] (⟨message, f.Number⟩ : zb)] (zlX (r := zc) (b := ⟨14, 121, [kI 0, kI 0]⟩) (off := 0) [kI message, kI f.Number] rfl Tryz.sizeOf121 rfl rfl rfl rfl) rfl l0))))))))))))) ?_
 refine zx ?_
 obtain ⟨rv, h_rv, h⟩ := bnd h
 refine jr (rl 2 [1] 13 Tryz.call71 (zeD h_rv) rf) ?_
 rcases zm h with ⟨hc1, h⟩ | ⟨hc1, h⟩
 ·
  refine jT hc1 ?_
  refine jp ?_
  obtain rfl := sj h
  refine zeR ?_
  refine zcQ ⟨[(0, .ag [kI c.size, .sl (Rp.int .i64) [0] c.kinds, .om zd Rp.bool 2 [0] c.names, .om zc Rp.bool 3 [0] c.numbers]), (6, kI 5)], []⟩ (by kernel_rfl) ?_
  refine zdP 0 (.ag [.any, .any, .om zd Rp.bool 2 [0] ((5, c.names, c.numbers) : (Int × (List (za × Bool)) × (List (zb × Bool)))).2.1, .om zc Rp.bool 3 [0] ((5, c.names, c.numbers) : (Int × (List (za × Bool)) × (List (zb × Bool)))).2.2]) rfl (zeS ⟨zbj _, zbj _, AV.le_refl _, AV.le_refl _, trivial⟩) ?_
  exact lzz
 refine jF hc1 ?_
 refine jr (lb 2 zd [] (⟨message, f.Name⟩ : za) (ra 0 [.om zd Rp.bool 2 [0] c.names, .rc zd [] (⟨message, f.Name⟩ : za)] rfl (zjY (rk := zd) (rv := Rp.bool) (m := c.names) (k := (⟨message, f.Name⟩ : za)) (kB ((mget c.names (⟨message, f.Name⟩ : za)).getD false)) rfl zjZ (zgE _ _ _ _ _) (zbo rfl) (zjQ rfl rfl rfl)) rfl rf)) ?_
 rcases zm h with ⟨hc2, h⟩ | ⟨hc2, h⟩
 ·
  refine jT hc2 ?_
  refine jp ?_
  obtain rfl := sj h
  refine zeR ?_
  refine zcQ ⟨[(0, .ag [kI c.size, .sl (Rp.int .i64) [0] c.kinds, .om zd Rp.bool 2 [0] c.names, .om zc Rp.bool 3 [0] c.numbers]), (6, kI 6)], []⟩ (by kernel_rfl) ?_
  refine zdP 0 (.ag [.any, .any, .om zd Rp.bool 2 [0] ((6, c.names, c.numbers) : (Int × (List (za × Bool)) × (List (zb × Bool)))).2.1, .om zc Rp.bool 3 [0] ((6, c.names, c.numbers) : (Int × (List (za × Bool)) × (List (zb × Bool)))).2.2]) rfl (zeS ⟨zbj _, zbj _, AV.le_refl _, AV.le_refl _, trivial⟩) ?_
  exact lzz
 refine jF hc2 ?_
 obtain ⟨rv2, h_rv2, h⟩ := bnd h
 refine jr (rl 2 [1] 13 Tryz.call72 (zgs h_rv2) rf) ?_
 rcases zm h with ⟨hc3, h⟩ | ⟨hc3, h⟩
 ·
  refine jT hc3 ?_
  refine jp ?_
  obtain rfl := sj h
  refine zeR ?_
  refine zcQ ⟨[(0, .ag [kI c.size, .sl (Rp.int .i64) [0] c.kinds, .om zd Rp.bool 2 [0] c.names, .om zc Rp.bool 3 [0] c.numbers]), (6, kI 7)], []⟩ (by kernel_rfl) ?_
  refine zdP 0 (.ag [.any, .any, .om zd Rp.bool 2 [0] ((7, c.names, c.numbers) : (Int × (List (za × Bool)) × (List (zb × Bool)))).2.1, .om zc Rp.bool 3 [0] ((7, c.names, c.numbers) : (Int × (List (za × Bool)) × (List (zb × Bool)))).2.2]) rfl (zeS ⟨zbj _, zbj _, AV.le_refl _, AV.le_refl _, trivial⟩) ?_
  exact lzz
 refine jF hc3 ?_
 refine jr (lb 2 zc [] (⟨message, f.Number⟩ : zb) (ra 0 [.om zc Rp.bool 3 [0] c.numbers, .rc zc [] (⟨message, f.Number⟩ : zb)] rfl (zjY (rk := zc) (rv := Rp.bool) (m := c.numbers) (k := (⟨message, f.Number⟩ : zb)) (kB ((mget c.numbers (⟨message, f.Number⟩ : zb)).getD false)) rfl zot (zgE _ _ _ _ _) (zbo rfl) (zjQ rfl rfl rfl)) rfl rf)) ?_
 rcases zm h with ⟨hc4, h⟩ | ⟨hc4, h⟩
 ·
  refine jT hc4 ?_
  refine jp ?_
  obtain rfl := sj h
  refine zeR ?_
  refine zcQ ⟨[(0, .ag [kI c.size, .sl (Rp.int .i64) [0] c.kinds, .om zd Rp.bool 2 [0] c.names, .om zc Rp.bool 3 [0] c.numbers]), (6, kI 8)], []⟩ (by kernel_rfl) ?_
  refine zdP 0 (.ag [.any, .any, .om zd Rp.bool 2 [0] ((8, c.names, c.numbers) : (Int × (List (za × Bool)) × (List (zb × Bool)))).2.1, .om zc Rp.bool 3 [0] ((8, c.names, c.numbers) : (Int × (List (za × Bool)) × (List (zb × Bool)))).2.2]) rfl (zeS ⟨zbj _, zbj _, AV.le_refl _, AV.le_refl _, trivial⟩) ?_
  exact lzz
 refine jF hc4 ?_
 obtain ⟨rv3, h_rv3, h⟩ := bnd h
 refine jr (rl 4 [0] 13 Tryz.call73 (zdy h_rv3) rf) ?_
 rcases zm h with ⟨hc5, h⟩ | ⟨hc5, h⟩
 ·
  refine jT hc5 ?_
  refine jp ?_
  obtain rfl := sj h
  refine zeR ?_
  refine zcQ ⟨[(0, .ag [kI c.size, .sl (Rp.int .i64) [0] c.kinds, .om zd Rp.bool 2 [0] c.names, .om zc Rp.bool 3 [0] c.numbers]), (6, kI 9)], []⟩ (by kernel_rfl) ?_
  refine zdP 0 (.ag [.any, .any, .om zd Rp.bool 2 [0] ((9, c.names, c.numbers) : (Int × (List (za × Bool)) × (List (zb × Bool)))).2.1, .om zc Rp.bool 3 [0] ((9, c.names, c.numbers) : (Int × (List (za × Bool)) × (List (zb × Bool)))).2.2]) rfl (zeS ⟨zbj _, zbj _, AV.le_refl _, AV.le_refl _, trivial⟩) ?_
  exact lzz
 refine jF hc5 ?_
 obtain ⟨g, h_g, h⟩ := bnd h
 refine zL ⟨[(0, .ag [kI c.size, .sl (Rp.int .i64) [0] c.kinds, .om zd Rp.bool 2 [0] c.names, .om zc Rp.bool 3 [0] c.numbers]), (3, .ptr 11 0), (5, .ptr 12 0), (7, .ptr 13 0), (8, .ptr 14 0), (44, kB g)], [⟨11, 86, [kI c.size, .sl (Rp.int .i64) [0] c.kinds, .om zd Rp.bool 2 [0] c.names, .om zc Rp.bool 3 [0] c.numbers]⟩, ⟨12, 89, [kS f.Name, kI f.Number, kI f.Kind, kB f.Repeated, kB f.Packed, kI f.Of]⟩, ⟨13, 119, [kI message, kS f.Name]⟩, ⟨14, 121, [kI message, kI f.Number]⟩]⟩ ?_ ?_
 ·
  refine (rsl 3 [] 47 f.Packed (fun hc6 => ?_) (fun hc6 => ?_))
  ·
   replace h_g := iteT h_g hc6
   obtain ⟨rv4, h_rv4, h_g⟩ := bnd h_g
   obtain rfl := sj h_g
   exact (lb 0 ze [] f (rl 0 [1] 13 Tryz.call74 (zgU h_rv4) (rel [] lzz)))
  replace h_g := iteF h_g hc6
  obtain rfl := sj h_g
  exact (rel [] lzz)
 rcases zm h with ⟨hc7, h⟩ | ⟨hc7, h⟩
 ·
  refine jT hc7 ?_
  refine jp ?_
  obtain rfl := sj h
  refine zeR ?_
  refine zcQ ⟨[(0, .ag [kI c.size, .sl (Rp.int .i64) [0] c.kinds, .om zd Rp.bool 2 [0] c.names, .om zc Rp.bool 3 [0] c.numbers]), (6, kI 10)], []⟩ (by kernel_rfl) ?_
  refine zdP 0 (.ag [.any, .any, .om zd Rp.bool 2 [0] ((10, c.names, c.numbers) : (Int × (List (za × Bool)) × (List (zb × Bool)))).2.1, .om zc Rp.bool 3 [0] ((10, c.names, c.numbers) : (Int × (List (za × Bool)) × (List (zb × Bool)))).2.2]) rfl (zeS ⟨zbj _, zbj _, AV.le_refl _, AV.le_refl _, trivial⟩) ?_
  exact lzz
 refine jF hc7 ?_
 obtain ⟨rv5, h_rv5, h⟩ := bnd h
 refine jr (lb 1 ze [] f (rl 0 [0, 2, 3] 13 Tryz.call75 (zfa h_rv5) rf)) ?_
 rcases zm h with ⟨hc8, h⟩ | ⟨hc8, h⟩
 ·
  refine jT hc8 ?_
  refine jp ?_
  obtain rfl := sj h
  refine zeR ?_
  refine zcQ ⟨[(0, .ag [kI c.size, .sl (Rp.int .i64) [0] c.kinds, .om zd Rp.bool 2 [0] c.names, .om zc Rp.bool 3 [0] c.numbers]), (6, kI 11)], []⟩ (by kernel_rfl) ?_
  refine zdP 0 (.ag [.any, .any, .om zd Rp.bool 2 [0] ((11, c.names, c.numbers) : (Int × (List (za × Bool)) × (List (zb × Bool)))).2.1, .om zc Rp.bool 3 [0] ((11, c.names, c.numbers) : (Int × (List (za × Bool)) × (List (zb × Bool)))).2.2]) rfl (zeS ⟨zbj _, zbj _, AV.le_refl _, AV.le_refl _, trivial⟩) ?_
  exact lzz
 refine jF hc8 ?_
 refine zaU ?_
 refine jr (lb 2 zd [] (⟨message, f.Name⟩ : za) (rkl 0 [] ⟨[(0, .ag [kI c.size, .sl (Rp.int .i64) [0] c.kinds, .om zd Rp.bool 2 [0] c.names, .om zc Rp.bool 3 [0] c.numbers]), (3, .ptr 11 0), (8, .ptr 14 0), (58, .om zd Rp.bool 2 [0] c.names), (59, .rc zd [] (⟨message, f.Name⟩ : za))], [⟨11, 86, [kI c.size, .sl (Rp.int .i64) [0] c.kinds, .om zd Rp.bool 2 [0] c.names, .om zc Rp.bool 3 [0] c.numbers]⟩, ⟨14, 121, [kI message, kI f.Number]⟩]⟩ (zfI ⟨[(0, .ag [kI c.size, .sl (Rp.int .i64) [0] c.kinds, .om zd Rp.bool 2 [0] (mput c.names (⟨message, f.Name⟩ : za) true), .om zc Rp.bool 3 [0] c.numbers]), (3, .ptr 11 0), (8, .ptr 14 0), (58, .om zd Rp.bool 2 [0] (mput c.names (⟨message, f.Name⟩ : za) true)), (59, .rc zd [] (⟨message, f.Name⟩ : za))], [⟨11, 86, [kI c.size, .sl (Rp.int .i64) [0] c.kinds, .om zd Rp.bool 2 [0] (mput c.names (⟨message, f.Name⟩ : za) true), .om zc Rp.bool 3 [0] c.numbers]⟩, ⟨14, 121, [kI message, kI f.Number]⟩]⟩ (zkj (rk := zd) (rv := Rp.bool) (m := c.names) (ℓ := 2) (C := [0]) (C1 := []) (D := []) (⟨message, f.Name⟩ : za) true [0] zjZ (.inl rfl) (zbo rfl) (zbH rfl rfl) rfl) rfl (by kernel_rfl) (by kernel_rfl) ⟨⟨_, rfl, zlm ⟨zz rfl, zz rfl, zdz 0 rfl, zz rfl, trivial⟩⟩, ⟨_, rfl, zz rfl⟩, ⟨_, rfl, zz rfl⟩, ⟨_, rfl, zdz 0 rfl⟩, ⟨_, rfl, zz rfl⟩, trivial⟩ ⟨⟨_, rfl, rfl, rfl, ⟨zz rfl, zz rfl, zdz 0 rfl, zz rfl, trivial⟩⟩, ⟨_, rfl, rfl, rfl, ⟨zz rfl, zz rfl, trivial⟩⟩, trivial⟩ rf))) ?_
 refine jr (lb 2 zc [] (⟨message, f.Number⟩ : zb) (rkl 0 [] ⟨[(0, .ag [kI c.size, .sl (Rp.int .i64) [0] c.kinds, .om zd Rp.bool 2 [0] (mput c.names (⟨message, f.Name⟩ : za) true), .om zc Rp.bool 3 [0] c.numbers]), (61, .om zc Rp.bool 3 [0] c.numbers), (62, .rc zc [] (⟨message, f.Number⟩ : zb))], []⟩ (zfI ⟨[(0, .ag [kI c.size, .sl (Rp.int .i64) [0] c.kinds, .om zd Rp.bool 2 [0] (mput c.names (⟨message, f.Name⟩ : za) true), .om zc Rp.bool 3 [0] (mput c.numbers (⟨message, f.Number⟩ : zb) true)]), (61, .om zc Rp.bool 3 [0] (mput c.numbers (⟨message, f.Number⟩ : zb) true)), (62, .rc zc [] (⟨message, f.Number⟩ : zb))], []⟩ (zkj (rk := zc) (rv := Rp.bool) (m := c.numbers) (ℓ := 3) (C := [0]) (C1 := []) (D := []) (⟨message, f.Number⟩ : zb) true [0] zot (.inl rfl) (zbo rfl) (zbH rfl rfl) rfl) rfl (by kernel_rfl) (by kernel_rfl) ⟨⟨_, rfl, zlm ⟨zz rfl, zz rfl, zz rfl, zdz 0 rfl, trivial⟩⟩, ⟨_, rfl, zdz 0 rfl⟩, ⟨_, rfl, zz rfl⟩, trivial⟩ trivial rf))) ?_
 refine jp ?_
 obtain rfl := sj h
 refine zeR ?_
 refine zcQ ⟨[(0, .ag [kI c.size, .sl (Rp.int .i64) [0] c.kinds, .om zd Rp.bool 2 [0] (mput c.names (⟨message, f.Name⟩ : za) true), .om zc Rp.bool 3 [0] (mput c.numbers (⟨message, f.Number⟩ : zb) true)]), (6, kI 0)], []⟩ (by kernel_rfl) ?_
 refine zdP 0 (.ag [.any, .any, .om zd Rp.bool 2 [0] ((0, (mput c.names (⟨message, f.Name⟩ : za) true), (mput c.numbers (⟨message, f.Number⟩ : zb) true)) : (Int × (List (za × Bool)) × (List (zb × Bool)))).2.1, .om zc Rp.bool 3 [0] ((0, (mput c.names (⟨message, f.Name⟩ : za) true), (mput c.numbers (⟨message, f.Number⟩ : zb) true)) : (Int × (List (za × Bool)) × (List (zb × Bool)))).2.2]) rfl (zeS ⟨zbj _, zbj _, AV.le_refl _, AV.le_refl _, trivial⟩) ?_
 exact lzz
theorem zfO {sv : Str} {sep : Str} {r : (Str × Str × Int)} (h : zcw sv sep = some r) : FnOk Tryz.prog 15 [kS sv, kS sep] [.fv 33 [.bp Rp.str 9 903300 [] r.1, .bp Rp.str 9 903301 [] r.2.1, .bp (Rp.int .i64) 3 903302 [] r.2.2]] := by
 refine zr (E := ⟨[(4, .fv 33 [.bp Rp.str 9 903300 [] r.1, .bp Rp.str 9 903301 [] r.2.1, .bp (Rp.int .i64) 3 903302 [] r.2.2])], []⟩) 8 Tryz.func15 rfl rfl rfl ⟨rfl, trivial⟩ (fun Xt => ?_)
 refine zj ?_
 unfold zcw at h
 refine jp ?_
 obtain ⟨rv, h_rv, h⟩ := bnd h
 refine jr (rl 2 [1] 0 Tryz.call22 (zfP h_rv) rf) ?_
 obtain rfl := sj h
 exact zA lzz
theorem zhB {sv : (List zk)} {r : (zR × Int)} (h : zcX sv = some r) : FnOk Tryz.prog 39 [.sl zt [0] sv] [.rc zaZ [] r.1, k8 r.2] := by
 refine zr (E := ⟨[(2, .ptr 2 0), (3, k8 r.2)], [⟨2, 70, [kI r.1.Message, kI r.1.Field, kI r.1.What]⟩]⟩) 62 Tryz.func39 rfl rfl rfl ⟨⟨_, _, rfl, rfl, rfl, rfl, ⟨Tryz.isAgg70, Tryz.sizeOf70⟩⟩, rfl, trivial⟩ (fun Xt => ?_)
 refine zj ?_
 unfold zcX at h
 refine jq [12] ?_
 refine zL ⟨[(0, .sl zt [0] sv), (2, .ptr 12 0), (18, kB ((decide ((sv.length : Int) < 1)) || (decide ((sv.length : Int) > 100))))], [⟨12, 70, [kI 0, kI 0, kI 0]⟩]⟩ ?_ ?_
 ·
  refine (rsl 4 [] 14 (decide ((sv.length : Int) < 1)) (fun hc1 => ?_) (fun hc1 => ?_))
  · exact (rbl [] 18 true ((decide ((sv.length : Int) < 1)) || (decide ((sv.length : Int) > 100))) (by rw [hc1] <;> rfl))
  exact (rbl [] 18 (decide ((sv.length : Int) > 100)) ((decide ((sv.length : Int) < 1)) || (decide ((sv.length : Int) > 100))) (by rw [hc1] <;> rfl))
 rcases zm h with ⟨hc2, h⟩ | ⟨hc2, h⟩
 ·
  refine jT hc2 ?_
  refine jr (rc 0 rfl (zak (r := zaZ) [kI (-1), kI (-1), kI 1] [] (⟨(-1), (-1), 1⟩ : zR) rfl zmO rfl rfl) rf) ?_
  obtain rfl := sj h
  refine zA ?_
  refine lk [2, 3] [12] 12 2 ?_
  exact lzz
 refine jF hc2 ?_
 obtain ⟨rv, h_rv, h⟩ := bnd h
 refine jr (rl 2 [1] 11 Tryz.call48 (zkQ h_rv) (rc 0 rfl (zil (rk := zd) (rv := Rp.bool) 14 rfl) (rc 0 rfl (zil (rk := zc) (rv := Rp.bool) 15 rfl) (ra 0 [kI (sv.length : Int), .own (Rp.int .i64) 3 13 [] rv, .om zd Rp.bool 14 [] ([] : (List (za × Bool))), .om zc Rp.bool 15 [] ([] : (List (zb × Bool)))] rfl (znd [kI (sv.length : Int), .own (Rp.int .i64) 3 13 [] rv, .om zd Rp.bool 14 [] ([] : (List (za × Bool))), .om zc Rp.bool 15 [] ([] : (List (zb × Bool)))] [kI (sv.length : Int), .own (Rp.int .i64) 3 13 [] rv, .om zd Rp.bool 14 [] ([] : (List (za × Bool))), .om zc Rp.bool 15 [] ([] : (List (zb × Bool)))] rfl zqB rfl) rfl (rfl' [16]))))) ?_
 refine jp ?_
 refine zx ?_
 obtain ⟨q2, h_q2, h⟩ := bnd h
 refine zbN (fun s : (Int × (List (za × Bool)) × (List (zb × Bool))) => zQ rv sv s.1 s.2.1 s.2.2) (fun s => ⟨[(2, .ptr 12 0), (4, .ptr 16 0), (26, .sl zt [0] sv), (27, kI (sv.length : Int)), (28, kI s.1)], [⟨12, 70, [kI 0, kI 0, kI 0]⟩, ⟨16, 86, [kI (sv.length : Int), .own (Rp.int .i64) 3 13 [] rv, .om zd Rp.bool 14 [13, 0] s.2.1, .om zc Rp.bool 15 [13, 0] s.2.2]⟩]⟩) (fun o e a w => match o with | (.inl v_) => e = .exit 0 ∧ Sx ⟨⟨62, []⟩, Xt, false, #[]⟩ ⟨[(2, .ptr 12 0)], [⟨12, 70, [kI 0, kI 0, kI 0]⟩]⟩ a w | (.inr v_) => e = .ret ∧ Sx ⟨⟨62, []⟩, Xt, false, #[]⟩ ⟨[(2, .ptr 12 0), (3, k8 9)], [⟨12, 70, [kI v_.1, kI v_.2.1, kI v_.2.2]⟩]⟩ a w) ?_ h_q2 ?_ ?_
 ·
  clear h
  intro s o h
  obtain ⟨v2, f, f2⟩ := s
  refine zj ?_
  replace h : zQ rv sv v2 f f2 = some o := h
  unfold zQ at h
  refine jp ?_
  rcases zm h with ⟨hc3, h⟩ | ⟨hc3, h⟩
  ·
   refine jT hc3 ?_
   refine zx ?_
   obtain ⟨x, h_x, h⟩ := bnd h
   refine jr (ra 1 [.sl zt [0] sv, kI v2] rfl (zfU rfl zoQ.el (zdG _ _ _) h_x) rfl (ra 0 [.ep zt [0] x 0] rfl (zop rfl ⟨Tryz.isAgg53, Tryz.sizeOf53⟩) rfl (ral 2 [18] [.ptr 18 0, .rc zt [0] x] rfl (zlX (r := zt) (b := ⟨18, 53, [kS [], kN]⟩) (off := 0) [kS x.Name, .sl ze [0] x.Fields] rfl Tryz.sizeOf53 rfl rfl rfl rfl) rfl rf))) ?_
   obtain ⟨rv3, h_rv3, h⟩ := bnd h
   refine jr (rkl 2 [] ⟨[(2, .ptr 12 0), (4, .ptr 16 0), (5, kI v2), (6, .ptr 18 0), (26, .sl zt [0] sv), (27, kI (sv.length : Int)), (28, kI v2), (33, .ag [kI (sv.length : Int), .own (Rp.int .i64) 3 13 [] rv, .om zd Rp.bool 14 [13, 0] f, .om zc Rp.bool 15 [13, 0] f2]), (34, .ag [kS x.Name, .sl ze [0] x.Fields])], [⟨12, 70, [kI 0, kI 0, kI 0]⟩, ⟨16, 86, [kI (sv.length : Int), .own (Rp.int .i64) 3 13 [] rv, .om zd Rp.bool 14 [13, 0] f, .om zc Rp.bool 15 [13, 0] f2]⟩, ⟨18, 53, [kS x.Name, .sl ze [0] x.Fields]⟩]⟩ (zfI ⟨[(2, .ptr 12 0), (4, .ptr 16 0), (5, kI v2), (6, .ptr 18 0), (26, .sl zt [0] sv), (27, kI (sv.length : Int)), (28, kI v2), (33, .ag [kI (sv.length : Int), .own (Rp.int .i64) 3 13 [] rv, .om zd Rp.bool 14 [13, 0] rv3.2.1, .om zc Rp.bool 15 [13, 0] rv3.2.2]), (34, .ag [kS x.Name, .sl ze [0] x.Fields])], [⟨12, 70, [kI 0, kI 0, kI 0]⟩, ⟨16, 86, [kI (sv.length : Int), .own (Rp.int .i64) 3 13 [] rv, .om zd Rp.bool 14 [13, 0] rv3.2.1, .om zc Rp.bool 15 [13, 0] rv3.2.2]⟩, ⟨18, 53, [kS x.Name, .sl ze [0] x.Fields]⟩]⟩ (zhp.le (ins' := [(.tmp 33, .ag [kI (sv.length : Int), .own (Rp.int .i64) 3 13 [] rv, .om zd Rp.bool 14 [13, 0] f, .om zc Rp.bool 15 [13, 0] f2]), (.tmp 34, .ag [kS x.Name, .sl ze [0] x.Fields])]) (zki (args := [.tmp 33, .tmp 34]) [.ag [kI (sv.length : Int), .own (Rp.int .i64) 3 13 [] rv, .om zd Rp.bool 14 [13, 0] f, .om zc Rp.bool 15 [13, 0] f2], .rc zt [0] x] [(14, 2), (15, 3)] [13, 0] 19 [] rfl Tryz.call49 (zeC h_rv3) rfl rfl (by kernel_rfl) rfl rfl rfl) ⟨⟨rfl, AV.le_refl _⟩, ⟨rfl, zmF zt [0] x [kS x.Name, .sl ze [0] x.Fields] rfl rfl⟩, trivial⟩) rfl (by kernel_rfl) (by kernel_rfl) ⟨⟨_, rfl, zz rfl⟩, ⟨_, rfl, zz rfl⟩, ⟨_, rfl, zz rfl⟩, ⟨_, rfl, zz rfl⟩, ⟨_, rfl, zz rfl⟩, ⟨_, rfl, zz rfl⟩, ⟨_, rfl, zz rfl⟩, ⟨_, rfl, zlm ⟨zz rfl, zz rfl, zdz 0 rfl, zdz 1 rfl, trivial⟩⟩, ⟨_, rfl, zz rfl⟩, trivial⟩ ⟨⟨_, rfl, rfl, rfl, ⟨zz rfl, zz rfl, zz rfl, trivial⟩⟩, ⟨_, rfl, rfl, rfl, ⟨zz rfl, zz rfl, zdz 0 rfl, zdz 1 rfl, trivial⟩⟩, ⟨_, rfl, rfl, rfl, ⟨zz rfl, zz rfl, trivial⟩⟩, trivial⟩ rf)) ?_
   refine jp ?_
   rcases zm h with ⟨hc4, h⟩ | ⟨hc4, h⟩
   ·
    refine jT hc4 ?_
    refine jr (rc 2 rfl (zak (r := zaZ) [kI v2, kI (-1), kI rv3.1] [] (⟨v2, (-1), rv3.1⟩ : zR) rfl zmO rfl rfl) rf) ?_
    obtain rfl := sj h
    exact zcu lzz
   refine jF hc4 ?_
   refine jp ?_
   refine zx ?_
   obtain ⟨q, h_q, h⟩ := bnd h
   refine zbN (fun s : (Int × (List (za × Bool)) × (List (zb × Bool))) => zY rv sv v2 x s.1 s.2.1 s.2.2) (fun s => ⟨[(2, .ptr 12 0), (4, .ptr 16 0), (5, kI v2), (26, .sl zt [0] sv), (27, kI (sv.length : Int)), (28, kI v2), (42, .sl ze [0] x.Fields), (43, kI (x.Fields.length : Int)), (44, kI s.1)], [⟨12, 70, [kI 0, kI 0, kI 0]⟩, ⟨16, 86, [kI (sv.length : Int), .own (Rp.int .i64) 3 13 [] rv, .om zd Rp.bool 14 [13, 0] s.2.1, .om zc Rp.bool 15 [13, 0] s.2.2]⟩]⟩) (fun o e a w => match o with | (.inl v_) => e = .exit 2 ∧ Sx ⟨⟨62, []⟩, Xt, false, #[]⟩ ⟨[(2, .ptr 12 0), (4, .ptr 16 0), (26, .sl zt [0] sv), (27, kI (sv.length : Int)), (28, kI v2)], [⟨12, 70, [kI 0, kI 0, kI 0]⟩, ⟨16, 86, [kI (sv.length : Int), .own (Rp.int .i64) 3 13 [] rv, .om zd Rp.bool 14 [13, 0] v_.1, .om zc Rp.bool 15 [13, 0] v_.2]⟩]⟩ a w | (.inr v_) => e = .ret ∧ Sx ⟨⟨62, []⟩, Xt, false, #[]⟩ ⟨[(2, .ptr 12 0), (3, k8 9)], [⟨12, 70, [kI v2, kI v_.1, kI v_.2]⟩]⟩ a w) ?_ h_q lzz ?_
   ·
    clear h
    intro s o h
    obtain ⟨v3, f6, f7⟩ := s
    refine zj ?_
    replace h : zY rv sv v2 x v3 f6 f7 = some o := h
    unfold zY at h
    refine jp ?_
    rcases zm h with ⟨hc5, h⟩ | ⟨hc5, h⟩
    ·
     refine jT hc5 ?_
     refine zx ?_
     obtain ⟨x2, h_x2, h⟩ := bnd h
     refine jr (ra 1 [.sl ze [0] x.Fields, kI v3] rfl (zfU rfl zqC.el (zdG _ _ _) h_x2) rfl (ra 0 [.ep ze [0] x2 0] rfl (zop rfl ⟨Tryz.isAgg89, Tryz.sizeOf89⟩) rfl (rfl' [24]))) ?_
     obtain ⟨rv5, h_rv5, h⟩ := bnd h
     refine jr (lb 2 ze [] x2 (rkl 0 [] ⟨[(2, .ptr 12 0), (4, .ptr 16 0), (5, kI v2), (8, kI v3), (26, .sl zt [0] sv), (27, kI (sv.length : Int)), (28, kI v2), (42, .sl ze [0] x.Fields), (43, kI (x.Fields.length : Int)), (44, kI v3), (49, .ag [kI (sv.length : Int), .own (Rp.int .i64) 3 13 [] rv, .om zd Rp.bool 14 [13, 0] f6, .om zc Rp.bool 15 [13, 0] f7]), (50, kI v2), (51, .rc ze [] x2)], [⟨12, 70, [kI 0, kI 0, kI 0]⟩, ⟨16, 86, [kI (sv.length : Int), .own (Rp.int .i64) 3 13 [] rv, .om zd Rp.bool 14 [13, 0] f6, .om zc Rp.bool 15 [13, 0] f7]⟩]⟩ (zfI ⟨[(2, .ptr 12 0), (4, .ptr 16 0), (5, kI v2), (8, kI v3), (26, .sl zt [0] sv), (27, kI (sv.length : Int)), (28, kI v2), (42, .sl ze [0] x.Fields), (43, kI (x.Fields.length : Int)), (44, kI v3), (49, .ag [kI (sv.length : Int), .own (Rp.int .i64) 3 13 [] rv, .om zd Rp.bool 14 [13, 0] rv5.2.1, .om zc Rp.bool 15 [13, 0] rv5.2.2]), (50, kI v2), (51, .rc ze [] x2)], [⟨12, 70, [kI 0, kI 0, kI 0]⟩, ⟨16, 86, [kI (sv.length : Int), .own (Rp.int .i64) 3 13 [] rv, .om zd Rp.bool 14 [13, 0] rv5.2.1, .om zc Rp.bool 15 [13, 0] rv5.2.2]⟩]⟩ (zki [.ag [kI (sv.length : Int), .own (Rp.int .i64) 3 13 [] rv, .om zd Rp.bool 14 [13, 0] f6, .om zc Rp.bool 15 [13, 0] f7], kI v2, .rc ze [] x2] [(14, 2), (15, 3)] [13, 0] 25 [] rfl Tryz.call50 (zeZ h_rv5) rfl rfl (by kernel_rfl) rfl rfl rfl) rfl (by kernel_rfl) (by kernel_rfl) ⟨⟨_, rfl, zz rfl⟩, ⟨_, rfl, zz rfl⟩, ⟨_, rfl, zz rfl⟩, ⟨_, rfl, zz rfl⟩, ⟨_, rfl, zz rfl⟩, ⟨_, rfl, zz rfl⟩, ⟨_, rfl, zz rfl⟩, ⟨_, rfl, zz rfl⟩, ⟨_, rfl, zz rfl⟩, ⟨_, rfl, zz rfl⟩, ⟨_, rfl, zlm ⟨zz rfl, zz rfl, zdz 0 rfl, zdz 1 rfl, trivial⟩⟩, ⟨_, rfl, zz rfl⟩, ⟨_, rfl, zz rfl⟩, trivial⟩ ⟨⟨_, rfl, rfl, rfl, ⟨zz rfl, zz rfl, zz rfl, trivial⟩⟩, ⟨_, rfl, rfl, rfl, ⟨zz rfl, zz rfl, zdz 0 rfl, zdz 1 rfl, trivial⟩⟩, trivial⟩ rf))) ?_
     refine jp ?_
     rcases zm h with ⟨hc6, h⟩ | ⟨hc6, h⟩
     ·
      refine jT hc6 ?_
      refine jr (rc 3 rfl (zak (r := zaZ) [kI v2, kI v3, kI rv5.1] [] (⟨v2, v3, rv5.1⟩ : zR) rfl zmO rfl rfl) rf) ?_
      obtain rfl := sj h
      exact zcu lzz
     refine jF hc6 ?_
     refine zaU ?_
     refine jp ?_
     obtain rfl := sj h
     exact zat lzz
    refine jF hc5 ?_
    obtain rfl := sj h
    exact zbv rfl lzz
   rcases q with u | u2
   ·
    refine zcf _ rfl ?_
    refine zaU ?_
    refine jp ?_
    obtain rfl := sj h
    exact zat lzz
   obtain rfl := sj h
   exact zpn lzz
  refine jF hc3 ?_
  obtain rfl := sj h
  exact zbv rfl lzz
 ·
  refine zcQ ⟨[(2, .ptr 12 0), (4, .ptr 16 0), (26, .sl zt [0] sv), (27, kI (sv.length : Int)), (28, kI 0)], [⟨12, 70, [kI 0, kI 0, kI 0]⟩, ⟨16, 86, [kI (sv.length : Int), .own (Rp.int .i64) 3 13 [] rv, .om zd Rp.bool 14 [] ([] : (List (za × Bool))), .om zc Rp.bool 15 [] ([] : (List (zb × Bool)))]⟩]⟩ (by kernel_rfl) ?_
  refine zjr 16 2 (.om zd Rp.bool 14 [13, 0] ([] : (List (za × Bool)))) rfl rfl (zpO _ _ _ _ rfl rfl) ?_
  refine zjr 16 3 (.om zc Rp.bool 15 [13, 0] ([] : (List (zb × Bool)))) rfl rfl (zpO _ _ _ _ rfl rfl) ?_
  exact lzz
 rcases q2 with u3 | u4
 ·
  refine zcf _ rfl ?_
  refine jr (rc 0 rfl (zak (r := zaZ) [] [] (⟨0, 0, 0⟩ : zR) rfl zmO rfl rfl) rf) ?_
  obtain rfl := sj h
  refine zA ?_
  refine lk [2, 3] [12] 12 2 ?_
  exact lzz
 obtain rfl := sj h
 refine zeH ?_
 refine lk [2, 3] [12] 12 2 ?_
 exact lzz
end Go.Proofs.YtmghlnfhcdjbnaaGreatDoor
