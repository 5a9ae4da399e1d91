/-
  The Go functions do what the plain functions say. No condition.
-/
import Derived.Test.YtnfembipjdohcaaGreatG3
namespace Go.Proofs.YtnfembipjdohcaaGreat
open Go Go.RowKit
set_option linter.unusedVariables false
set_option maxRecDepth 100000
set_option maxHeartbeats 3200000
theorem zgQ {c : zac} {m : zh} {r : (Int × (List (zi × Bool)) × (List (zk × Bool)))} (h : zbJ c m = some r) : zej Tryz.prog 35 [.ag [kI c.size, .sl (Rp.int .i64) [0] c.kinds, .om zo Rp.bool 2 [0] c.names, .om zn Rp.bool 3 [0] c.numbers], .rc zd [0] m] [kI r.1] [.ag [.any, .any, .om zo Rp.bool 2 [0] r.2.1, .om zn Rp.bool 3 [0] r.2.2], .any] := by
 refine zfq (E := ⟨[(0, .ag [.any, .any, .om zo Rp.bool 2 [0] r.2.1, .om zn Rp.bool 3 [0] r.2.2]), (4, kI r.1)], []⟩) 27 [0] Tryz.func35 rfl rfl rfl ⟨rfl, trivial⟩ ⟨.inr ⟨rfl, rfl⟩, .inl rfl, trivial⟩ rfl (fun Xt old => ?_)
 refine zr ?_
 unfold zbJ at h
 refine jr (ral 1 [11] [.rc zd [0] m] rfl (zih 12 [kS m.Name, .sl za [0] m.Fields] [0] rfl rfl rfl rfl rfl) rfl rf) ?_
 refine jr (rc 2 rfl (zC (r := zo) [kI (-1), kS m.Name] [] (⟨(-1), m.Name⟩ : zi) rfl zux rfl rfl) (rfl' [13])) ?_
 refine zA ?_
 obtain ⟨rv, h_rv, h⟩ := bnd h
 refine jr (rl 2 [1] 12 Tryz.call47 (zgR h_rv) rf) ?_
 rcases zm h with ⟨hc1, h⟩ | ⟨hc1, h⟩
 ·
  refine jT hc1 ?_
  refine jp ?_
  obtain rfl := sj h
  refine zdp ?_
  refine zcK ⟨[(0, .ag [kI c.size, .sl (Rp.int .i64) [0] c.kinds, .om zo Rp.bool 2 [0] c.names, .om zn Rp.bool 3 [0] c.numbers]), (4, kI 2)], []⟩ (by kernel_rfl) ?_
  refine zcQ 0 (.ag [.any, .any, .om zo Rp.bool 2 [0] ((2, c.names, c.numbers) : (Int × (List (zi × Bool)) × (List (zk × Bool)))).2.1, .om zn Rp.bool 3 [0] ((2, c.names, c.numbers) : (Int × (List (zi × Bool)) × (List (zk × Bool)))).2.2]) rfl (zdG ⟨zaw _, zaw _, AV.le_refl _, AV.le_refl _, trivial⟩) ?_
  exact lzz
 refine jF hc1 ?_
 refine jr (lb 2 zo [] (⟨(-1), m.Name⟩ : zi) (ra 0 [.om zo Rp.bool 2 [0] c.names, .rc zo [] (⟨(-1), m.Name⟩ : zi)] rfl (zoE (rk := zo) (rv := Rp.bool) (m := c.names) (k := (⟨(-1), m.Name⟩ : zi)) (kB ((mget c.names (⟨(-1), m.Name⟩ : zi)).getD false)) rfl zoF (zhf _ _ _ _ _) (zbo rfl) (zot rfl rfl rfl)) rfl rf)) ?_
 rcases zm h with ⟨hc2, h⟩ | ⟨hc2, h⟩
 ·
  refine jT hc2 ?_
  refine jp ?_
  obtain rfl := sj h
  refine zdp ?_
  refine zcK ⟨[(0, .ag [kI c.size, .sl (Rp.int .i64) [0] c.kinds, .om zo Rp.bool 2 [0] c.names, .om zn Rp.bool 3 [0] c.numbers]), (4, kI 3)], []⟩ (by kernel_rfl) ?_
  refine zcQ 0 (.ag [.any, .any, .om zo Rp.bool 2 [0] ((3, c.names, c.numbers) : (Int × (List (zi × Bool)) × (List (zk × Bool)))).2.1, .om zn Rp.bool 3 [0] ((3, c.names, c.numbers) : (Int × (List (zi × Bool)) × (List (zk × Bool)))).2.2]) rfl (zdG ⟨zaw _, zaw _, AV.le_refl _, AV.le_refl _, trivial⟩) ?_
  exact lzz
 refine jF hc2 ?_
 refine jp ?_
 rcases zm h with ⟨hc3, h⟩ | ⟨hc3, h⟩
 ·
  refine jT hc3 ?_
  refine jp ?_
  obtain rfl := sj h
  refine zdp ?_
  refine zcK ⟨[(0, .ag [kI c.size, .sl (Rp.int .i64) [0] c.kinds, .om zo Rp.bool 2 [0] c.names, .om zn Rp.bool 3 [0] c.numbers]), (4, kI 4)], []⟩ (by kernel_rfl) ?_
  refine zcQ 0 (.ag [.any, .any, .om zo Rp.bool 2 [0] ((4, c.names, c.numbers) : (Int × (List (zi × Bool)) × (List (zk × Bool)))).2.1, .om zn Rp.bool 3 [0] ((4, c.names, c.numbers) : (Int × (List (zi × Bool)) × (List (zk × Bool)))).2.2]) rfl (zdG ⟨zaw _, zaw _, AV.le_refl _, AV.le_refl _, trivial⟩) ?_
  exact lzz
 refine jF hc3 ?_
 refine zap ?_
 refine jr (lb 2 zo [] (⟨(-1), m.Name⟩ : zi) (rkl 0 [] ⟨[(0, .ag [kI c.size, .sl (Rp.int .i64) [0] c.kinds, .om zo Rp.bool 2 [0] c.names, .om zn Rp.bool 3 [0] c.numbers]), (25, .om zo Rp.bool 2 [0] c.names), (26, .rc zo [] (⟨(-1), m.Name⟩ : zi))], []⟩ (zdU ⟨[(0, .ag [kI c.size, .sl (Rp.int .i64) [0] c.kinds, .om zo Rp.bool 2 [0] (mput c.names (⟨(-1), m.Name⟩ : zi) true), .om zn Rp.bool 3 [0] c.numbers]), (25, .om zo Rp.bool 2 [0] (mput c.names (⟨(-1), m.Name⟩ : zi) true)), (26, .rc zo [] (⟨(-1), m.Name⟩ : zi))], []⟩ (zki (rk := zo) (rv := Rp.bool) (m := c.names) (ℓ := 2) (C := [0]) (C1 := []) (D := []) (⟨(-1), m.Name⟩ : zi) true [0] zoF (.inl rfl) (zbo rfl) (zcD rfl rfl) rfl) rfl (by kernel_rfl) (by kernel_rfl) ⟨⟨_, rfl, zgU ⟨zq rfl, zq rfl, zcB 0 rfl, zq rfl, trivial⟩⟩, ⟨_, rfl, zcB 0 rfl⟩, ⟨_, rfl, zq rfl⟩, trivial⟩ trivial rf))) ?_
 refine jp ?_
 obtain rfl := sj h
 refine zdp ?_
 refine zcK ⟨[(0, .ag [kI c.size, .sl (Rp.int .i64) [0] c.kinds, .om zo Rp.bool 2 [0] (mput c.names (⟨(-1), m.Name⟩ : zi) true), .om zn Rp.bool 3 [0] c.numbers]), (4, kI 0)], []⟩ (by kernel_rfl) ?_
 refine zcQ 0 (.ag [.any, .any, .om zo Rp.bool 2 [0] ((0, (mput c.names (⟨(-1), m.Name⟩ : zi) true), c.numbers) : (Int × (List (zi × Bool)) × (List (zk × Bool)))).2.1, .om zn Rp.bool 3 [0] ((0, (mput c.names (⟨(-1), m.Name⟩ : zi) true), c.numbers) : (Int × (List (zi × Bool)) × (List (zk × Bool)))).2.2]) rfl (zdG ⟨zaw _, zaw _, AV.le_refl _, AV.le_refl _, trivial⟩) ?_
 exact lzz
theorem zig {k : Int} {r : Bool} (h : zec k = some r) : FnOk Tryz.prog 65 [kI k] [kB r] := by
 refine zx (E := ⟨[(2, kB r)], []⟩) 16 Tryz.func65 rfl rfl rfl ⟨rfl, trivial⟩ (fun Xt => ?_)
 refine zr ?_
 unfold zec at h
 refine jp ?_
 obtain ⟨rv, h_rv, h⟩ := bnd h
 refine jr (rl 1 [1] 9 Tryz.call75 (zjL h_rv) rf) ?_
 refine zE ⟨[(2, kB ((rv.2 == 0) && (rv.1 != 2)))], []⟩ ?_ ?_
 ·
  refine (rsl 3 [] 12 (rv.2 == 0) (fun hc1 => ?_) (fun hc1 => ?_))
  · exact (rbl [] 2 (rv.1 != 2) ((rv.2 == 0) && (rv.1 != 2)) (by rw [hc1] <;> rfl))
  exact (rbl [] 2 false ((rv.2 == 0) && (rv.1 != 2)) (by rw [hc1] <;> rfl))
 obtain rfl := sj h
 exact zv lzz
theorem zqf {b : (List UInt8)} {r : (zar × Int × Int)} (h : ziu b = some r) : FnOk Tryz.prog 52 [.sl Rp.byte [0] b] [.rc zcC [] r.1, kI r.2.1, k8 r.2.2] := by
 refine zx (E := ⟨[(2, .ptr 2 0), (3, kI r.2.1), (4, k8 r.2.2)], [⟨2, 114, [kI r.1.Number, kI r.1.Wire]⟩]⟩) 35 Tryz.func52 rfl rfl rfl ⟨⟨_, _, rfl, rfl, rfl, rfl, ⟨Tryz.isAgg114, Tryz.sizeOf114⟩⟩, rfl, rfl, trivial⟩ (fun Xt => ?_)
 refine zr ?_
 unfold ziu at h
 refine jq [12] ?_
 obtain ⟨rv, h_rv, h⟩ := bnd h
 refine jr (rl 1 [0] 11 Tryz.call66 (zfJ h_rv) rf) ?_
 refine jp ?_
 rcases zm h with ⟨hc1, h⟩ | ⟨hc1, h⟩
 ·
  refine jT hc1 ?_
  refine jr (rc 0 rfl (zC (r := zcC) [] [] (⟨0, 0⟩ : zar) rfl zrg rfl rfl) rf) ?_
  obtain rfl := sj h
  refine zv ?_
  refine lk [2, 3, 4] [12] 12 2 ?_
  exact lzz
 refine jF hc1 ?_
 refine jr (ra 1 [kU rv.1, kU 3] rfl (zfd rfl rfl) rfl rf) ?_
 refine jr (rc 5 rfl (zC (r := zcC) [kI (IntKind.i64.wrap (if (536870912 : Int) < (shrI .u64 rv.1 3) then 536870912 else (shrI .u64 rv.1 3))), kI (IntKind.i64.wrap (andI .u64 rv.1 7))] [] (⟨(IntKind.i64.wrap (if (536870912 : Int) < (shrI .u64 rv.1 3) then 536870912 else (shrI .u64 rv.1 3))), (IntKind.i64.wrap (andI .u64 rv.1 7))⟩ : zar) rfl zrg rfl rfl) (rfl' [13])) ?_
 obtain ⟨rv2, h_rv2, h⟩ := bnd h
 refine jr (lb 0 zcC [] (⟨(IntKind.i64.wrap (if (536870912 : Int) < (shrI .u64 rv.1 3) then 536870912 else (shrI .u64 rv.1 3))), (IntKind.i64.wrap (andI .u64 rv.1 7))⟩ : zar) (rl 0 [1] 12 Tryz.call67 (zoV h_rv2) rf)) ?_
 rcases zm h with ⟨hc2, h⟩ | ⟨hc2, h⟩
 ·
  refine jT hc2 ?_
  refine jr (rc 0 rfl (zC (r := zcC) [] [] (⟨0, 0⟩ : zar) rfl zrg rfl rfl) rf) ?_
  obtain rfl := sj h
  refine zv ?_
  refine lk [2, 3, 4] [12] 12 2 ?_
  exact lzz
 refine jF hc2 ?_
 refine jr (lb 0 zcC [] (⟨(IntKind.i64.wrap (if (536870912 : Int) < (shrI .u64 rv.1 3) then 536870912 else (shrI .u64 rv.1 3))), (IntKind.i64.wrap (andI .u64 rv.1 7))⟩ : zar) rf) ?_
 obtain rfl := sj h
 refine zv ?_
 refine lk [2, 3, 4] [12] 12 2 ?_
 exact lzz
theorem zmD {wire : Int} {b : (List UInt8)} {r : (Int × Int × Int)} (h : zeU wire b = some r) : FnOk Tryz.prog 53 [kI wire, .sl Rp.byte [0] b] [kI r.1, kI r.2.1, k8 r.2.2] := by
 refine zx (E := ⟨[(4, kI r.1), (5, kI r.2.1), (6, k8 r.2.2)], []⟩) 45 Tryz.func53 rfl rfl rfl ⟨rfl, rfl, rfl, trivial⟩ (fun Xt => ?_)
 refine zr ?_
 unfold zeU at h
 refine jp ?_
 refine jp ?_
 refine jp ?_
 refine zA ?_
 refine jp ?_
 rcases zm h with ⟨hc1, h⟩ | ⟨hc1, h⟩
 ·
  refine jT hc1 ?_
  obtain ⟨rv, h_rv, h⟩ := bnd h
  refine jr (rl 1 [0] 9 Tryz.call68 (ziB h_rv) rf) ?_
  refine jp ?_
  obtain rfl := sj h
  exact zv lzz
 refine jF hc1 ?_
 refine jp ?_
 obtain ⟨p, h_p, h⟩ := bnd h
 refine zcl (R := fun e a w => e = .normal ∧ Sx ⟨⟨45, []⟩, Xt, false, #[]⟩ ⟨[(1, .sl Rp.byte [0] b), (4, kI p.1), (6, k8 p.2.1), (7, kU p.2.2)], []⟩ a w) ?_ ?_
 ·
  replace h := h_p
  refine zr ?_
  rcases zm h with ⟨hc2, h⟩ | ⟨hc2, h⟩
  ·
   refine jT hc2 ?_
   refine jp ?_
   obtain rfl := sj h
   exact zF lzz
  refine jF hc2 ?_
  refine jp ?_
  rcases zm h with ⟨hc3, h⟩ | ⟨hc3, h⟩
  ·
   refine jT hc3 ?_
   refine jp ?_
   obtain rfl := sj h
   exact zF lzz
  refine jF hc3 ?_
  refine jp ?_
  rcases zm h with ⟨hc4, h⟩ | ⟨hc4, h⟩
  ·
   refine jT hc4 ?_
   obtain ⟨rv2, h_rv2, h⟩ := bnd h
   refine jr (rl 1 [0] 9 Tryz.call66 (zfJ h_rv2) rf) ?_
   obtain rfl := sj h
   exact zF lzz
  refine jF hc4 ?_
  obtain rfl := sj h
  exact zF lzz
 refine zdt ?_
 refine zap ?_
 refine jp ?_
 rcases zm h with ⟨hc5, h⟩ | ⟨hc5, h⟩
 ·
  refine jT hc5 ?_
  refine jp ?_
  obtain rfl := sj h
  exact zv lzz
 refine jF hc5 ?_
 refine jp ?_
 rcases zm h with ⟨hc6, h⟩ | ⟨hc6, h⟩
 ·
  refine jT hc6 ?_
  refine jp ?_
  obtain rfl := sj h
  exact zv lzz
 refine jF hc6 ?_
 refine jp ?_
 obtain rfl := sj h
 exact zv lzz
theorem znq {m : zh} {number : Int} {r : Int} (h : zfK m number = some r) : FnOk Tryz.prog 77 [.rc zd [0] m, kI number] [kI r] := by
 refine zx (E := ⟨[(4, kI r)], []⟩) 9 Tryz.func77 rfl rfl rfl ⟨rfl, trivial⟩ (fun Xt => ?_)
 refine zr ?_
 unfold zfK at h
 refine jr (ra 0 [.rc zd [0] m] rfl (zih 11 [kS m.Name, .sl za [0] m.Fields] [0] rfl rfl rfl rfl rfl) rfl (rfl' [909600])) ?_
 obtain ⟨rv, h_rv, h⟩ := bnd h
 refine jr (ra 2 [.ptr 909600 0] rfl (zvh (g := 96) [.tmp 3] [⟨909600, 3, [kI number]⟩] [.ep (Rp.int .i64) [909600] number 0] rfl ⟨⟨rfl, rfl, rfl⟩, trivial⟩ rfl) rfl (rl 0 [0, 909600] 10 Tryz.call95 (zbK h_rv) rf)) ?_
 obtain rfl := sj h
 exact zv lzz
theorem zpa {k : Int} {wire : Int} {r : Bool} (h : zha k wire = some r) : FnOk Tryz.prog 79 [kI k, kI wire] [kB r] := by
 refine zx (E := ⟨[(4, kB r)], []⟩) 19 Tryz.func79 rfl rfl rfl ⟨rfl, trivial⟩ (fun Xt => ?_)
 refine zr ?_
 unfold zha at h
 refine jp ?_
 obtain ⟨rv, h_rv, h⟩ := bnd h
 refine jr (rl 1 [1] 9 Tryz.call75 (zjL h_rv) rf) ?_
 refine zE ⟨[(4, kB ((rv.2 == 0) && (rv.1 == wire)))], []⟩ ?_ ?_
 ·
  refine (rsl 3 [] 14 (rv.2 == 0) (fun hc1 => ?_) (fun hc1 => ?_))
  · exact (rbl [] 4 (rv.1 == wire) ((rv.2 == 0) && (rv.1 == wire)) (by rw [hc1] <;> rfl))
  exact (rbl [] 4 false ((rv.2 == 0) && (rv.1 == wire)) (by rw [hc1] <;> rfl))
 obtain rfl := sj h
 exact zv lzz
theorem znh {k : Int} {wv : Int} {r : (Int × Int)} (h : zfA k wv = some r) : FnOk Tryz.prog 106 [kI k, kU wv] [kU r.1, k8 r.2] := by
 refine zx (E := ⟨[(4, kU r.1), (5, k8 r.2)], []⟩) 34 Tryz.func106 rfl rfl rfl ⟨rfl, rfl, trivial⟩ (fun Xt => ?_)
 refine zr ?_
 unfold zfA at h
 refine jp ?_
 refine jp ?_
 refine zA ?_
 refine jp ?_
 obtain ⟨p, h_p, h⟩ := bnd h
 refine zcl (R := fun e a w => e = .normal ∧ Sx ⟨⟨34, []⟩, Xt, false, #[]⟩ ⟨[(1, kU wv), (6, kI k), (7, kB p)], []⟩ a w) ?_ ?_
 ·
  replace h := h_p
  refine zr ?_
  rcases zm h with ⟨hc1, h⟩ | ⟨hc1, h⟩
  ·
   refine jT hc1 ?_
   obtain rfl := sj h
   exact zF lzz
  refine jF hc1 ?_
  refine jp ?_
  obtain rfl := sj h
  exact zF lzz
 refine zdt ?_
 rcases zm h with ⟨hc2, h⟩ | ⟨hc2, h⟩
 ·
  refine jT hc2 ?_
  obtain ⟨rv, h_rv, h⟩ := bnd h
  obtain ⟨rv2, h_rv2, h⟩ := bnd h
  refine jr (rl 1 [1] 9 Tryz.call112 (zlI h_rv) (rl 0 [1] 9 Tryz.call111 (zlJ h_rv2) rf)) ?_
  obtain rfl := sj h
  exact zv lzz
 refine jF hc2 ?_
 refine jp ?_
 obtain ⟨p2, h_p2, h⟩ := bnd h
 refine zcl (R := fun e a w => e = .normal ∧ Sx ⟨⟨34, []⟩, Xt, false, #[]⟩ ⟨[(1, kU wv), (6, kI k), (13, kB p2)], []⟩ a w) ?_ ?_
 ·
  replace h := h_p2
  refine zr ?_
  rcases zm h with ⟨hc3, h⟩ | ⟨hc3, h⟩
  ·
   refine jT hc3 ?_
   obtain rfl := sj h
   exact zF lzz
  refine jF hc3 ?_
  refine jp ?_
  rcases zm h with ⟨hc4, h⟩ | ⟨hc4, h⟩
  ·
   refine jT hc4 ?_
   obtain rfl := sj h
   exact zF lzz
  refine jF hc4 ?_
  refine jp ?_
  rcases zm h with ⟨hc5, h⟩ | ⟨hc5, h⟩
  ·
   refine jT hc5 ?_
   obtain rfl := sj h
   exact zF lzz
  refine jF hc5 ?_
  refine jp ?_
  rcases zm h with ⟨hc6, h⟩ | ⟨hc6, h⟩
  ·
   refine jT hc6 ?_
   obtain rfl := sj h
   exact zF lzz
  refine jF hc6 ?_
  refine jp ?_
  obtain rfl := sj h
  exact zF lzz
 refine zdt ?_
 rcases zm h with ⟨hc7, h⟩ | ⟨hc7, h⟩
 ·
  refine jT hc7 ?_
  obtain ⟨rv3, h_rv3, h⟩ := bnd h
  refine jr (rl 1 [1] 9 Tryz.call113 (ziU h_rv3) rf) ?_
  obtain rfl := sj h
  exact zv lzz
 refine jF hc7 ?_
 refine jp ?_
 rcases zm h with ⟨hc8, h⟩ | ⟨hc8, h⟩
 ·
  refine jT hc8 ?_
  obtain ⟨rv4, h_rv4, h⟩ := bnd h
  refine jr (rl 1 [1] 9 Tryz.call114 (zni h_rv4) rf) ?_
  obtain rfl := sj h
  exact zv lzz
 refine jF hc8 ?_
 refine jp ?_
 obtain ⟨p3, h_p3, h⟩ := bnd h
 refine zcl (R := fun e a w => e = .normal ∧ Sx ⟨⟨34, []⟩, Xt, false, #[]⟩ ⟨[(1, kU wv), (26, kB p3)], []⟩ a w) ?_ ?_
 ·
  replace h := h_p3
  refine zr ?_
  rcases zm h with ⟨hc9, h⟩ | ⟨hc9, h⟩
  ·
   refine jT hc9 ?_
   obtain rfl := sj h
   exact zF lzz
  refine jF hc9 ?_
  refine jp ?_
  rcases zm h with ⟨hc10, h⟩ | ⟨hc10, h⟩
  ·
   refine jT hc10 ?_
   obtain rfl := sj h
   exact zF lzz
  refine jF hc10 ?_
  refine jp ?_
  rcases zm h with ⟨hc11, h⟩ | ⟨hc11, h⟩
  ·
   refine jT hc11 ?_
   obtain rfl := sj h
   exact zF lzz
  refine jF hc11 ?_
  refine jp ?_
  rcases zm h with ⟨hc12, h⟩ | ⟨hc12, h⟩
  ·
   refine jT hc12 ?_
   obtain rfl := sj h
   exact zF lzz
  refine jF hc12 ?_
  refine jp ?_
  rcases zm h with ⟨hc13, h⟩ | ⟨hc13, h⟩
  ·
   refine jT hc13 ?_
   obtain rfl := sj h
   exact zF lzz
  refine jF hc13 ?_
  refine jp ?_
  obtain rfl := sj h
  exact zF lzz
 refine zdt ?_
 rcases zm h with ⟨hc14, h⟩ | ⟨hc14, h⟩
 ·
  refine jT hc14 ?_
  refine jp ?_
  obtain rfl := sj h
  exact zv lzz
 refine jF hc14 ?_
 refine zap ?_
 refine jp ?_
 obtain rfl := sj h
 exact zv lzz
theorem zoP {wide : Int} {b : (List UInt8)} {r : (Int × Int)} (h : zgO wide b = some r) : FnOk Tryz.prog 82 [kI wide, .sl Rp.byte [0] b] [kI r.1, k8 r.2] := by
 refine zx (E := ⟨[(4, kI r.1), (5, k8 r.2)], []⟩) 19 Tryz.func82 rfl rfl rfl ⟨rfl, rfl, trivial⟩ (fun Xt => ?_)
 refine zr ?_
 unfold zgO at h
 refine jp ?_
 refine zA ?_
 refine jp ?_
 rcases zm h with ⟨hc1, h⟩ | ⟨hc1, h⟩
 ·
  refine jT hc1 ?_
  obtain ⟨rv, h_rv, h⟩ := bnd h
  refine jr (rl 1 [0] 9 Tryz.call68 (ziB h_rv) rf) ?_
  obtain rfl := sj h
  exact zv lzz
 refine jF hc1 ?_
 refine jp ?_
 rcases zm h with ⟨hc2, h⟩ | ⟨hc2, h⟩
 ·
  refine jT hc2 ?_
  refine jp ?_
  obtain rfl := sj h
  exact zv lzz
 refine jF hc2 ?_
 refine zap ?_
 refine jp ?_
 obtain rfl := sj h
 exact zv lzz
theorem zqj {b : (List UInt8)} {r : (Int × Int)} (h : ziw b = some r) : FnOk Tryz.prog 83 [.sl Rp.byte [0] b] [kI r.1, kI r.2] := by
 refine zx (E := ⟨[(2, kI r.1), (3, kI r.2)], []⟩) 20 Tryz.func83 rfl rfl rfl ⟨rfl, rfl, trivial⟩ (fun Xt => ?_)
 refine zr ?_
 unfold ziw at h
 refine jp ?_
 obtain ⟨rv, h_rv, h⟩ := bnd h
 refine jr (rl 1 [0] 9 Tryz.call98 (zkZ h_rv) rf) ?_
 refine zA ?_
 obtain ⟨q, h_q, h⟩ := bnd h
 refine zaW (fun s : (Int × Int × Int) => zbV b s.1 s.2.1 s.2.2) (fun s => ⟨[(0, .sl Rp.byte [0] b), (2, kI s.1), (3, kI s.2.1), (4, kI s.2.2)], []⟩) (fun o e a w => e = .exit 0 ∧ Sx ⟨⟨20, []⟩, Xt, false, #[]⟩ ⟨[(2, kI o.1), (3, kI o.2)], []⟩ a w) ?_ h_q lzz ?_
 ·
  clear h
  intro s o h
  obtain ⟨atv, points, size⟩ := s
  refine zr ?_
  replace h : zbV b atv points size = some o := h
  unfold zbV at h
  refine jp ?_
  rcases zm h with ⟨hc1, h⟩ | ⟨hc1, h⟩
  ·
   refine jT hc1 ?_
   refine zA ?_
   refine jp ?_
   refine jp ?_
   refine zap ?_
   obtain ⟨v, h_v, h⟩ := bnd h
   obtain ⟨rv2, h_rv2, h⟩ := bnd h
   refine jr (ra 2 [.sl Rp.byte [0] b, kI (IntKind.i64.wrap (atv + size))] rfl (zfD (some (kI (IntKind.i64.wrap (atv + size)))) none rfl zde.el (zR _ _ _) ⟨rfl, rfl⟩ ⟨rfl, rfl⟩ h_v) rfl (rl 0 [0] 10 Tryz.call98 (zkZ h_rv2) rf)) ?_
   obtain rfl := sj h
   exact zF lzz
  refine jF hc1 ?_
  obtain rfl := sj h
  exact zaX rfl lzz
 refine zbI _ rfl ?_
 refine jp ?_
 obtain rfl := sj h
 exact zv lzz
theorem zhH {sv : (List zh)} {r : (Int × Int × Int)} (h : zcb sv = some r) : FnOk Tryz.prog 24 [.sl zd [0] sv] [kI r.1, kI r.2.1, kI r.2.2] := by
 refine zx (E := ⟨[(2, kI r.1), (3, kI r.2.1), (4, kI r.2.2)], []⟩) 80 Tryz.func24 rfl rfl rfl ⟨rfl, rfl, rfl, trivial⟩ (fun Xt => ?_)
 refine zr ?_
 unfold zcb at h
 refine jp ?_
 refine zE ⟨[(0, .sl zd [0] sv), (17, kB (((sv.length : Int) == 0) || (decide ((sv.length : Int) > 100))))], []⟩ ?_ ?_
 ·
  refine (rsl 4 [] 13 ((sv.length : Int) == 0) (fun hc1 => ?_) (fun hc1 => ?_))
  · exact (rbl [] 17 true (((sv.length : Int) == 0) || (decide ((sv.length : Int) > 100))) (by rw [hc1] <;> rfl))
  exact (rbl [] 17 (decide ((sv.length : Int) > 100)) (((sv.length : Int) == 0) || (decide ((sv.length : Int) > 100))) (by rw [hc1] <;> rfl))
 rcases zm h with ⟨hc2, h⟩ | ⟨hc2, h⟩
 ·
  refine jT hc2 ?_
  refine jp ?_
  obtain rfl := sj h
  exact zv lzz
 refine jF hc2 ?_
 refine jp ?_
 refine zA ?_
 obtain ⟨q3, h_q3, h⟩ := bnd h
 refine zaW (fun s : Int => zW sv s) (fun s => ⟨[(0, .sl zd [0] sv), (5, kI s)], []⟩) (fun o e a w => match o with | (.inl v_) => e = .exit 0 ∧ Sx ⟨⟨80, []⟩, Xt, false, #[]⟩ ⟨[], []⟩ a w | (.inr v_) => e = .ret ∧ Sx ⟨⟨80, []⟩, Xt, false, #[]⟩ ⟨[(2, kI v_.1), (3, kI v_.2.1), (4, kI v_.2.2)], []⟩ a w) ?_ h_q3 lzz ?_
 ·
  clear h
  intro i o h
  refine zr ?_
  replace h : zW sv i = some o := h
  unfold zW at h
  refine jp ?_
  rcases zm h with ⟨hc3, h⟩ | ⟨hc3, h⟩
  ·
   refine jT hc3 ?_
   refine zA ?_
   refine jp ?_
   refine jp ?_
   refine zA ?_
   obtain ⟨q, h_q, h⟩ := bnd h
   refine zaW (fun s : (Bool × Int) => zah i sv s.1 s.2) (fun s => ⟨[(0, .sl zd [0] sv), (5, kI i), (6, kB s.1), (7, kI s.2)], []⟩) (fun o e a w => e = .exit 2 ∧ Sx ⟨⟨80, []⟩, Xt, false, #[]⟩ ⟨[(0, .sl zd [0] sv), (5, kI i), (6, kB o)], []⟩ a w) ?_ h_q lzz ?_
   ·
    clear h
    intro s o h
    obtain ⟨twice, k⟩ := s
    refine zr ?_
    replace h : zah i sv twice k = some o := h
    unfold zah at h
    refine jp ?_
    rcases zm h with ⟨hc4, h⟩ | ⟨hc4, h⟩
    ·
     refine jT hc4 ?_
     refine zA ?_
     obtain ⟨g, h_g, h⟩ := bnd h
     refine zcl (R := fun e a w => e = .normal ∧ Sx ⟨⟨80, []⟩, Xt, false, #[]⟩ ⟨[(0, .sl zd [0] sv), (5, kI i), (6, kB g), (7, kI k)], []⟩ a w) ?_ (zdt ?_)
     ·
      refine zr ?_
      rcases Bool.eq_false_or_eq_true twice with hc5 | hc5
      ·
       replace h_g := iteT h_g hc5
       obtain rfl := sj h_g
       refine jd [0, 5, 6, 7] [] zdQ (by exact (lw_e (lx (zii ⟨[(29, kB twice)], []⟩ (by kernel_rfl) hc5) l0))) ?_
       exact zF lzz
      replace h_g := iteF h_g hc5
      obtain ⟨x, h_x, h_g⟩ := bnd h_g
      obtain ⟨x2, h_x2, h_g⟩ := bnd h_g
      obtain rfl := sj h_g
      refine jd [0, 5, 6, 7] [] zdQ (by exact (lw_e (lx (zii ⟨[(29, kB twice)], []⟩ (by kernel_rfl) hc5) (lw_e (lw_e (ly [.sl zd [0] sv, kI k] (zbx rfl zet.el (zR _ _ _) h_x) rfl (lw_e (lw_e (lw_e (lw_e (ly [.sl zd [0] sv, kI i] (zbx rfl zet.el (zR _ _ _) h_x2) rfl l0))))))))))) ?_
      exact zF lzz
     refine zap ?_
     refine jp ?_
     obtain rfl := sj h
     exact zF lzz
    refine jF hc4 ?_
    obtain rfl := sj h
    exact zaX rfl lzz
   refine zbI _ rfl ?_
   obtain ⟨x3, h_x3, h⟩ := bnd h
   obtain ⟨rv, h_rv, h⟩ := bnd h
   refine jr (ra 2 [.sl zd [0] sv, kI i] rfl (zbx rfl zet.el (zR _ _ _) h_x3) rfl (rl 2 [1] 11 Tryz.call37 (zeP h_rv) rf)) ?_
   rcases zm h with ⟨hc6, h⟩ | ⟨hc6, h⟩
   ·
    refine jT hc6 ?_
    refine jp ?_
    obtain rfl := sj h
    exact zaY lzz
   refine jF hc6 ?_
   refine jp ?_
   rcases zm h with ⟨hc7, h⟩ | ⟨hc7, h⟩
   ·
    refine jT hc7 ?_
    refine jp ?_
    obtain rfl := sj h
    exact zaY lzz
   refine jF hc7 ?_
   obtain ⟨x4, h_x4, h⟩ := bnd h
   refine jr (ra 2 [.sl zd [0] sv, kI i] rfl (zbx rfl zet.el (zR _ _ _) h_x4) rfl (ra 1 [.ep zd [0] x4 1] rfl (zgs za x4.Fields rfl rfl rfl) rfl rf)) ?_
   rcases zm h with ⟨hc8, h⟩ | ⟨hc8, h⟩
   ·
    refine jT hc8 ?_
    refine jp ?_
    obtain rfl := sj h
    exact zaY lzz
   refine jF hc8 ?_
   refine jp ?_
   refine zA ?_
   obtain ⟨q2, h_q2, h⟩ := bnd h
   refine zaW (fun s : Int => zX i sv s) (fun s => ⟨[(0, .sl zd [0] sv), (5, kI i), (8, kI s)], []⟩) (fun o e a w => match o with | (.inl v_) => e = .exit 4 ∧ Sx ⟨⟨80, []⟩, Xt, false, #[]⟩ ⟨[(0, .sl zd [0] sv), (5, kI i)], []⟩ a w | (.inr v_) => e = .ret ∧ Sx ⟨⟨80, []⟩, Xt, false, #[]⟩ ⟨[(2, kI i), (3, kI v_.1), (4, kI v_.2)], []⟩ a w) ?_ h_q2 lzz ?_
   ·
    clear h
    intro k2 o h
    refine zr ?_
    replace h : zX i sv k2 = some o := h
    unfold zX at h
    obtain ⟨x5, h_x5, h⟩ := bnd h
    refine jr (ra 3 [.sl zd [0] sv, kI i] rfl (zbx rfl zet.el (zR _ _ _) h_x5) rfl (ra 1 [.ep zd [0] x5 1] rfl (zgs za x5.Fields rfl rfl rfl) rfl rf)) ?_
    rcases zm h with ⟨hc9, h⟩ | ⟨hc9, h⟩
    ·
     refine jT hc9 ?_
     refine zA ?_
     obtain ⟨rv2, h_rv2, h⟩ := bnd h
     refine jr (rl 3 [0] 12 Tryz.call38 (zhI h_rv2) rf) ?_
     refine jp ?_
     rcases zm h with ⟨hc10, h⟩ | ⟨hc10, h⟩
     ·
      refine jT hc10 ?_
      refine jp ?_
      obtain rfl := sj h
      exact zaY lzz
     refine jF hc10 ?_
     refine zap ?_
     refine jp ?_
     obtain rfl := sj h
     exact zF lzz
    refine jF hc9 ?_
    obtain rfl := sj h
    exact zaX rfl lzz
   rcases q2 with u | u2
   ·
    refine zbI _ rfl ?_
    refine zap ?_
    refine jp ?_
    obtain rfl := sj h
    exact zF lzz
   obtain rfl := sj h
   exact zox lzz
  refine jF hc3 ?_
  obtain rfl := sj h
  exact zaX rfl lzz
 rcases q3 with u3 | u4
 ·
  refine zbI _ rfl ?_
  refine jp ?_
  obtain rfl := sj h
  exact zv lzz
 obtain rfl := sj h
 exact zdI lzz
theorem zhX {b : (List UInt8)} {fromv : Int} {r : (zj × Int)} (h : zbN b fromv = some r) : FnOk Tryz.prog 27 [.sl Rp.byte [0] b, kI fromv] [.rc zy [] r.1, kI r.2] := by
 refine zx (E := ⟨[(4, .ptr 2 0), (5, kI r.2)], [⟨2, 51, [kI r.1.Number, kI r.1.Wire, kI r.1.From, kI r.1.At, kI r.1.To]⟩]⟩) 108 Tryz.func27 rfl rfl rfl ⟨⟨_, _, rfl, rfl, rfl, rfl, ⟨Tryz.isAgg51, Tryz.sizeOf51⟩⟩, rfl, trivial⟩ (fun Xt => ?_)
 refine zr ?_
 unfold zbN at h
 refine jq [12] ?_
 refine zE ⟨[(0, .sl Rp.byte [0] b), (1, kI fromv), (4, .ptr 12 0), (26, kB ((decide (fromv < 0)) || (decide (fromv ≥ (b.length : Int)))))], [⟨12, 51, [kI 0, kI 0, kI 0, kI 0, kI 0]⟩]⟩ ?_ ?_
 ·
  refine (rsl 3 [] 21 (decide (fromv < 0)) (fun hc1 => ?_) (fun hc1 => ?_))
  · exact (rbl [] 26 true ((decide (fromv < 0)) || (decide (fromv ≥ (b.length : Int)))) (by rw [hc1] <;> rfl))
  exact (rbl [] 26 (decide (fromv ≥ (b.length : Int))) ((decide (fromv < 0)) || (decide (fromv ≥ (b.length : Int)))) (by rw [hc1] <;> rfl))
 rcases zm h with ⟨hc2, h⟩ | ⟨hc2, h⟩
 ·
  refine jT hc2 ?_
  refine jr (rc 0 rfl (zC (r := zy) [] [] (⟨0, 0, 0, 0, 0⟩ : zj) rfl zmS rfl rfl) rf) ?_
  obtain rfl := sj h
  refine zv ?_
  refine lk [4, 5] [12] 12 2 ?_
  exact lzz
 refine jF hc2 ?_
 obtain ⟨rv, h_rv, h⟩ := bnd h
 refine jr (rl 2 [0] 11 Tryz.call42 (zhV h_rv) rf) ?_
 refine jp ?_
 rcases zm h with ⟨hc3, h⟩ | ⟨hc3, h⟩
 ·
  refine jT hc3 ?_
  refine jr (rc 0 rfl (zC (r := zy) [] [] (⟨0, 0, 0, 0, 0⟩ : zj) rfl zmS rfl rfl) rf) ?_
  obtain rfl := sj h
  refine zv ?_
  refine lk [4, 5] [12] 12 2 ?_
  exact lzz
 refine jF hc3 ?_
 refine jr (rc 6 rfl (zC (r := zy) [kI rv.1, kI rv.2.1, kI fromv, kI (IntKind.i64.wrap (fromv + rv.2.2.1))] [] (⟨rv.1, rv.2.1, fromv, (IntKind.i64.wrap (fromv + rv.2.2.1)), 0⟩ : zj) rfl zmS rfl rfl) (rfl' [13])) ?_
 refine jp ?_
 refine jp ?_
 refine jp ?_
 obtain ⟨p, h_p, h⟩ := bnd h
 refine zcl (R := fun e a w => e = .normal ∧ Sx ⟨⟨108, []⟩, Xt, false, #[]⟩ ⟨[(0, .sl Rp.byte [0] b), (4, .ptr 12 0), (7, kI rv.2.1), (10, .ptr 13 0), (11, kI (IntKind.i64.wrap ((b.length : Int) - (IntKind.i64.wrap (fromv + rv.2.2.1))))), (12, kI p)], [⟨12, 51, [kI 0, kI 0, kI 0, kI 0, kI 0]⟩, ⟨13, 51, [kI rv.1, kI rv.2.1, kI fromv, kI (IntKind.i64.wrap (fromv + rv.2.2.1)), kI 0]⟩]⟩ a w) ?_ ?_
 ·
  replace h := h_p
  refine zr ?_
  rcases zm h with ⟨hc4, h⟩ | ⟨hc4, h⟩
  ·
   refine jT hc4 ?_
   refine jp ?_
   obtain rfl := sj h
   exact zF lzz
  refine jF hc4 ?_
  obtain rfl := sj h
  exact zF lzz
 refine zdt ?_
 refine jp ?_
 obtain ⟨p2, h_p2, h⟩ := bnd h
 refine zcl (R := fun e a w => match p2 with | (.inl v_) => e = .normal ∧ Sx ⟨⟨108, []⟩, Xt, false, #[]⟩ ⟨[(0, .sl Rp.byte [0] b), (4, .ptr 12 0), (7, kI rv.2.1), (10, .ptr 13 0), (11, kI (IntKind.i64.wrap ((b.length : Int) - (IntKind.i64.wrap (fromv + rv.2.2.1))))), (12, kI v_)], [⟨12, 51, [kI 0, kI 0, kI 0, kI 0, kI 0]⟩, ⟨13, 51, [kI rv.1, kI rv.2.1, kI fromv, kI (IntKind.i64.wrap (fromv + rv.2.2.1)), kI 0]⟩]⟩ a w | (.inr v_) => e = .ret ∧ Sx ⟨⟨108, []⟩, Xt, false, #[]⟩ ⟨[(4, .ptr 12 0), (5, kI v_)], [⟨12, 51, [kI 0, kI 0, kI 0, kI 0, kI 0]⟩]⟩ a w) ?_ ?_
 ·
  replace h := h_p2
  refine zr ?_
  rcases zm h with ⟨hc5, h⟩ | ⟨hc5, h⟩
  ·
   refine jT hc5 ?_
   obtain ⟨rv2, h_rv2, h⟩ := bnd h
   refine jr (rl 3 [0] 12 Tryz.call32 (zcs h_rv2) rf) ?_
   refine jp ?_
   rcases zm h with ⟨hc6, h⟩ | ⟨hc6, h⟩
   ·
    refine jT hc6 ?_
    refine jr (rc 0 rfl (zC (r := zy) [] [] (⟨0, 0, 0, 0, 0⟩ : zj) rfl zmS rfl rfl) rf) ?_
    obtain rfl := sj h
    exact zv lzz
   refine jF hc6 ?_
   refine jp ?_
   obtain rfl := sj h
   exact zF lzz
  refine jF hc5 ?_
  obtain rfl := sj h
  exact zF lzz
 rcases p2 with u | u4
 ·
  refine zdt ?_
  refine jp ?_
  obtain ⟨p3, h_p3, h⟩ := bnd h
  refine zcl (R := fun e a w => match p3 with | (.inl v_) => e = .normal ∧ Sx ⟨⟨108, []⟩, Xt, false, #[]⟩ ⟨[(4, .ptr 12 0), (10, .ptr 13 0), (11, kI v_.1), (12, kI v_.2.1)], [⟨12, 51, [kI 0, kI 0, kI 0, kI 0, kI 0]⟩, ⟨13, 51, [kI rv.1, kI rv.2.1, kI fromv, kI v_.2.2, kI 0]⟩]⟩ a w | (.inr v_) => e = .ret ∧ Sx ⟨⟨108, []⟩, Xt, false, #[]⟩ ⟨[(4, .ptr 12 0), (5, kI v_)], [⟨12, 51, [kI 0, kI 0, kI 0, kI 0, kI 0]⟩]⟩ a w) ?_ ?_
  ·
   replace h := h_p3
   refine zr ?_
   rcases zm h with ⟨hc7, h⟩ | ⟨hc7, h⟩
   ·
    refine jT hc7 ?_
    obtain ⟨rv3, h_rv3, h⟩ := bnd h
    refine jr (rl 3 [0] 12 Tryz.call32 (zcs h_rv3) rf) ?_
    refine jp ?_
    rcases zm h with ⟨hc8, h⟩ | ⟨hc8, h⟩
    ·
     refine jT hc8 ?_
     refine jr (rc 0 rfl (zC (r := zy) [] [] (⟨0, 0, 0, 0, 0⟩ : zj) rfl zmS rfl rfl) rf) ?_
     obtain rfl := sj h
     exact zv lzz
    refine jF hc8 ?_
    refine jp ?_
    refine jp ?_
    refine jp ?_
    rcases zm h with ⟨hc9, h⟩ | ⟨hc9, h⟩
    ·
     refine jT hc9 ?_
     refine jr (rc 0 rfl (zC (r := zy) [] [] (⟨0, 0, 0, 0, 0⟩ : zj) rfl zmS rfl rfl) rf) ?_
     obtain rfl := sj h
     exact zv lzz
    refine jF hc9 ?_
    refine jp ?_
    obtain rfl := sj h
    exact zF lzz
   refine jF hc7 ?_
   obtain rfl := sj h
   exact zF lzz
  rcases p3 with u2 | u3
  ·
   refine zdt ?_
   refine jp ?_
   rcases zm h with ⟨hc10, h⟩ | ⟨hc10, h⟩
   ·
    refine jT hc10 ?_
    refine jr (rc 0 rfl (zC (r := zy) [] [] (⟨0, 0, 0, 0, 0⟩ : zj) rfl zmS rfl rfl) rf) ?_
    obtain rfl := sj h
    refine zv ?_
    refine lk [4, 5] [12] 12 2 ?_
    exact lzz
   refine jF hc10 ?_
   refine jp ?_
   refine jr (lb 0 zy [] (⟨rv.1, rv.2.1, fromv, u2.2.2, (IntKind.i64.wrap (u2.2.2 + u2.2.1))⟩ : zj) rf) ?_
   obtain rfl := sj h
   refine zv ?_
   refine lk [4, 5] [12] 12 2 ?_
   exact lzz
  obtain rfl := sj h
  refine zdI ?_
  refine lk [4, 5] [12] 12 2 ?_
  exact lzz
 obtain rfl := sj h
 refine zdI ?_
 refine lk [4, 5] [12] 12 2 ?_
 exact lzz
theorem zhF {b : (List UInt8)} {most : Int} {r : (Int × Int)} (h : zca b most = some r) : FnOk Tryz.prog 33 [.sl Rp.byte [0] b, kI most] [kI r.1, kI r.2] := by
 refine zx (E := ⟨[(4, kI r.1), (5, kI r.2)], []⟩) 28 Tryz.func33 rfl rfl rfl ⟨rfl, rfl, trivial⟩ (fun Xt => ?_)
 refine zr ?_
 unfold zca at h
 refine jp ?_
 refine jp ?_
 refine zA ?_
 obtain ⟨q, h_q, h⟩ := bnd h
 refine zaW (fun s : (Int × Int) => zag b most s.1 s.2) (fun s => ⟨[(0, .sl Rp.byte [0] b), (1, kI most), (6, kI s.1), (7, kI s.2)], []⟩) (fun o e a w => e = .ret ∧ Sx ⟨⟨28, []⟩, Xt, false, #[]⟩ ⟨[(4, kI o.1), (5, kI o.2)], []⟩ a w) ?_ h_q lzz ?_
 ·
  clear h
  intro s o h
  obtain ⟨atv, count⟩ := s
  refine zr ?_
  replace h : zag b most atv count = some o := h
  unfold zag at h
  refine zA ?_
  obtain ⟨rv, h_rv, h⟩ := bnd h
  refine jr (rl 2 [0] 10 Tryz.call43 (zhW h_rv) rf) ?_
  refine zE ⟨[(0, .sl Rp.byte [0] b), (1, kI most), (6, kI atv), (7, kI count), (8, kI rv), (20, kB ((rv == 0) || (decide ((IntKind.i64.wrap (atv + rv)) > most))))], []⟩ ?_ ?_
  ·
   refine (rsl 3 [] 14 (rv == 0) (fun hc1 => ?_) (fun hc1 => ?_))
   · exact (rbl [] 20 true ((rv == 0) || (decide ((IntKind.i64.wrap (atv + rv)) > most))) (by rw [hc1] <;> rfl))
   exact (rbl [] 20 (decide ((IntKind.i64.wrap (atv + rv)) > most)) ((rv == 0) || (decide ((IntKind.i64.wrap (atv + rv)) > most))) (by rw [hc1] <;> rfl))
  rcases zm h with ⟨hc2, h⟩ | ⟨hc2, h⟩
  ·
   refine jT hc2 ?_
   refine jp ?_
   obtain rfl := sj h
   exact zaY lzz
  refine jF hc2 ?_
  refine jp ?_
  refine jp ?_
  refine zap ?_
  obtain rfl := sj h
  exact zF lzz
 obtain rfl := sj h
 exact zdI lzz
end Go.Proofs.YtnfembipjdohcaaGreat
