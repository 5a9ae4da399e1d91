/-
  The Go functions do what the plain functions say. No condition.
-/
import Derived.Test.YtglkepeofhonlaaGreatDoorG5
namespace Go.Proofs.YtglkepeofhonlaaGreatDoor
open Go Go.RowKit
set_option linter.unusedVariables false
set_option maxRecDepth 100000
set_option maxHeartbeats 3200000
theorem zna {c : zbj} {message : Int} {f : zb} {r : (Int × (List (ze × Bool)) × (List (zf × Bool)))} (h : zfv c message f = some r) : zkj Tryz.prog 90 [.ag [kI c.size, .sl (Rp.int .i64) [0] c.kinds, .om zj Rp.bool 2 [0] c.names, .om zi Rp.bool 3 [0] c.numbers], kI message, .rc za [0] f] [kI r.1] [.ag [.any, .any, .om zj Rp.bool 2 [0] r.2.1, .om zi Rp.bool 3 [0] r.2.2], .any, .any] := by
 refine zob (E := ⟨[(0, .ag [.any, .any, .om zj Rp.bool 2 [0] r.2.1, .om zi Rp.bool 3 [0] r.2.2]), (6, kI r.1)], []⟩) 63 [0] Tryz.func90 rfl rfl rfl ⟨rfl, trivial⟩ ⟨.inr ⟨rfl, rfl⟩, .inl rfl, .inl rfl, trivial⟩ rfl (fun Xt old => ?_)
 refine zh ?_
 unfold zfv at h
 refine jq [11, 12] ?_
 refine jd [0, 3, 5, 7, 8] [11, 12, 13, 14] zcB (by exact (lw_e (lw_e (lw_e (lx (zbR (r := zj) [kI message, kS f.Name] [] (⟨message, f.Name⟩ : ze) rfl zBm rfl rfl) (lw_e (lw_e (lw_e (lx (zbR (r := zi) [kI message, kI f.Number] [] (⟨message, f.Number⟩ : zf) rfl zCO rfl rfl) (lx (zlI 13 [kI 0, kS []] rfl Tryz.zeroValue169 rfl) (lx (zlI 14 [kI 0, kI 0] rfl Tryz.zeroValue171 rfl) (ly [.ptr 13 0, .rc zj [] (⟨message, f.Name⟩ : ze)] (zsz (r := zj) (b := ⟨13, 169, [kI 0, kS []]⟩) (off := 0) [kI message, kS f.Name] rfl Tryz.sizeOf169 rfl rfl rfl rfl) rfl (ly [.ptr 14 0, .rc zi [] (⟨message, f.Number⟩ : zf)] (zsz (r := zi) (b := ⟨14, 171, [kI 0, kI 0]⟩) (off := 0) [kI message, kI f.Number] rfl Tryz.sizeOf171 rfl rfl rfl rfl) rfl l0))))))))))))) ?_
 refine zn ?_
 obtain ⟨rv, h_rv, h⟩ := bnd h
 refine jr (rl 2 [1] 13 Tryz.call113 (zlT h_rv) rf) ?_
 rcases zg h with ⟨hc1, h⟩ | ⟨hc1, h⟩
 ·
  refine jT hc1 ?_
  refine jp ?_
  obtain rfl := sj h
  refine zkU ?_
  refine zaS ⟨[(0, .ag [kI c.size, .sl (Rp.int .i64) [0] c.kinds, .om zj Rp.bool 2 [0] c.names, .om zi Rp.bool 3 [0] c.numbers]), (6, kI 5)], []⟩ (by kernel_rfl) ?_
  refine zbL 0 (.ag [.any, .any, .om zj Rp.bool 2 [0] ((5, c.names, c.numbers) : (Int × (List (ze × Bool)) × (List (zf × Bool)))).2.1, .om zi Rp.bool 3 [0] ((5, c.names, c.numbers) : (Int × (List (ze × Bool)) × (List (zf × Bool)))).2.2]) rfl (zmK ⟨zeX _, zeX _, AV.le_refl _, AV.le_refl _, trivial⟩) ?_
  exact lzz
 refine jF hc1 ?_
 refine jr (lb 2 zj [] (⟨message, f.Name⟩ : ze) (ra 0 [.om zj Rp.bool 2 [0] c.names, .rc zj [] (⟨message, f.Name⟩ : ze)] rfl (zpT (rk := zj) (rv := Rp.bool) (m := c.names) (k := (⟨message, f.Name⟩ : ze)) (kB ((mget c.names (⟨message, f.Name⟩ : ze)).getD false)) rfl zrL (zjY _ _ _ _ _) (zdH rfl) (zmh rfl rfl rfl)) rfl rf)) ?_
 rcases zg h with ⟨hc2, h⟩ | ⟨hc2, h⟩
 ·
  refine jT hc2 ?_
  refine jp ?_
  obtain rfl := sj h
  refine zkU ?_
  refine zaS ⟨[(0, .ag [kI c.size, .sl (Rp.int .i64) [0] c.kinds, .om zj Rp.bool 2 [0] c.names, .om zi Rp.bool 3 [0] c.numbers]), (6, kI 6)], []⟩ (by kernel_rfl) ?_
  refine zbL 0 (.ag [.any, .any, .om zj Rp.bool 2 [0] ((6, c.names, c.numbers) : (Int × (List (ze × Bool)) × (List (zf × Bool)))).2.1, .om zi Rp.bool 3 [0] ((6, c.names, c.numbers) : (Int × (List (ze × Bool)) × (List (zf × Bool)))).2.2]) rfl (zmK ⟨zeX _, zeX _, AV.le_refl _, AV.le_refl _, trivial⟩) ?_
  exact lzz
 refine jF hc2 ?_
 obtain ⟨rv2, h_rv2, h⟩ := bnd h
 refine jr (rl 2 [1] 13 Tryz.call114 (zps h_rv2) rf) ?_
 rcases zg h with ⟨hc3, h⟩ | ⟨hc3, h⟩
 ·
  refine jT hc3 ?_
  refine jp ?_
  obtain rfl := sj h
  refine zkU ?_
  refine zaS ⟨[(0, .ag [kI c.size, .sl (Rp.int .i64) [0] c.kinds, .om zj Rp.bool 2 [0] c.names, .om zi Rp.bool 3 [0] c.numbers]), (6, kI 7)], []⟩ (by kernel_rfl) ?_
  refine zbL 0 (.ag [.any, .any, .om zj Rp.bool 2 [0] ((7, c.names, c.numbers) : (Int × (List (ze × Bool)) × (List (zf × Bool)))).2.1, .om zi Rp.bool 3 [0] ((7, c.names, c.numbers) : (Int × (List (ze × Bool)) × (List (zf × Bool)))).2.2]) rfl (zmK ⟨zeX _, zeX _, AV.le_refl _, AV.le_refl _, trivial⟩) ?_
  exact lzz
 refine jF hc3 ?_
 refine jr (lb 2 zi [] (⟨message, f.Number⟩ : zf) (ra 0 [.om zi Rp.bool 3 [0] c.numbers, .rc zi [] (⟨message, f.Number⟩ : zf)] rfl (zpT (rk := zi) (rv := Rp.bool) (m := c.numbers) (k := (⟨message, f.Number⟩ : zf)) (kB ((mget c.numbers (⟨message, f.Number⟩ : zf)).getD false)) rfl zyI (zjY _ _ _ _ _) (zdH rfl) (zmh rfl rfl rfl)) rfl rf)) ?_
 rcases zg h with ⟨hc4, h⟩ | ⟨hc4, h⟩
 ·
  refine jT hc4 ?_
  refine jp ?_
  obtain rfl := sj h
  refine zkU ?_
  refine zaS ⟨[(0, .ag [kI c.size, .sl (Rp.int .i64) [0] c.kinds, .om zj Rp.bool 2 [0] c.names, .om zi Rp.bool 3 [0] c.numbers]), (6, kI 8)], []⟩ (by kernel_rfl) ?_
  refine zbL 0 (.ag [.any, .any, .om zj Rp.bool 2 [0] ((8, c.names, c.numbers) : (Int × (List (ze × Bool)) × (List (zf × Bool)))).2.1, .om zi Rp.bool 3 [0] ((8, c.names, c.numbers) : (Int × (List (ze × Bool)) × (List (zf × Bool)))).2.2]) rfl (zmK ⟨zeX _, zeX _, AV.le_refl _, AV.le_refl _, trivial⟩) ?_
  exact lzz
 refine jF hc4 ?_
 obtain ⟨rv3, h_rv3, h⟩ := bnd h
 refine jr (rl 4 [0] 13 Tryz.call115 (zjB h_rv3) rf) ?_
 rcases zg h with ⟨hc5, h⟩ | ⟨hc5, h⟩
 ·
  refine jT hc5 ?_
  refine jp ?_
  obtain rfl := sj h
  refine zkU ?_
  refine zaS ⟨[(0, .ag [kI c.size, .sl (Rp.int .i64) [0] c.kinds, .om zj Rp.bool 2 [0] c.names, .om zi Rp.bool 3 [0] c.numbers]), (6, kI 9)], []⟩ (by kernel_rfl) ?_
  refine zbL 0 (.ag [.any, .any, .om zj Rp.bool 2 [0] ((9, c.names, c.numbers) : (Int × (List (ze × Bool)) × (List (zf × Bool)))).2.1, .om zi Rp.bool 3 [0] ((9, c.names, c.numbers) : (Int × (List (ze × Bool)) × (List (zf × Bool)))).2.2]) rfl (zmK ⟨zeX _, zeX _, AV.le_refl _, AV.le_refl _, trivial⟩) ?_
  exact lzz
 refine jF hc5 ?_
 obtain ⟨g, h_g, h⟩ := bnd h
 refine zN ⟨[(0, .ag [kI c.size, .sl (Rp.int .i64) [0] c.kinds, .om zj Rp.bool 2 [0] c.names, .om zi Rp.bool 3 [0] c.numbers]), (3, .ptr 11 0), (5, .ptr 12 0), (7, .ptr 13 0), (8, .ptr 14 0), (44, kB g)], [⟨11, 130, [kI c.size, .sl (Rp.int .i64) [0] c.kinds, .om zj Rp.bool 2 [0] c.names, .om zi Rp.bool 3 [0] c.numbers]⟩, ⟨12, 62, [kS f.Name, kI f.Number, kI f.Kind, kB f.Repeated, kB f.Packed, kI f.Of]⟩, ⟨13, 169, [kI message, kS f.Name]⟩, ⟨14, 171, [kI message, kI f.Number]⟩]⟩ ?_ ?_
 ·
  refine (rsl 3 [] 47 f.Packed (fun hc6 => ?_) (fun hc6 => ?_))
  ·
   replace h_g := iteT h_g hc6
   obtain ⟨rv4, h_rv4, h_g⟩ := bnd h_g
   obtain rfl := sj h_g
   exact (lb 0 za [] f (rl 0 [1] 13 Tryz.call116 (zqr h_rv4) (rel [] lzz)))
  replace h_g := iteF h_g hc6
  obtain rfl := sj h_g
  exact (rel [] lzz)
 rcases zg h with ⟨hc7, h⟩ | ⟨hc7, h⟩
 ·
  refine jT hc7 ?_
  refine jp ?_
  obtain rfl := sj h
  refine zkU ?_
  refine zaS ⟨[(0, .ag [kI c.size, .sl (Rp.int .i64) [0] c.kinds, .om zj Rp.bool 2 [0] c.names, .om zi Rp.bool 3 [0] c.numbers]), (6, kI 10)], []⟩ (by kernel_rfl) ?_
  refine zbL 0 (.ag [.any, .any, .om zj Rp.bool 2 [0] ((10, c.names, c.numbers) : (Int × (List (ze × Bool)) × (List (zf × Bool)))).2.1, .om zi Rp.bool 3 [0] ((10, c.names, c.numbers) : (Int × (List (ze × Bool)) × (List (zf × Bool)))).2.2]) rfl (zmK ⟨zeX _, zeX _, AV.le_refl _, AV.le_refl _, trivial⟩) ?_
  exact lzz
 refine jF hc7 ?_
 obtain ⟨rv5, h_rv5, h⟩ := bnd h
 refine jr (lb 1 za [] f (rl 0 [0, 2, 3] 13 Tryz.call117 (znb h_rv5) rf)) ?_
 rcases zg h with ⟨hc8, h⟩ | ⟨hc8, h⟩
 ·
  refine jT hc8 ?_
  refine jp ?_
  obtain rfl := sj h
  refine zkU ?_
  refine zaS ⟨[(0, .ag [kI c.size, .sl (Rp.int .i64) [0] c.kinds, .om zj Rp.bool 2 [0] c.names, .om zi Rp.bool 3 [0] c.numbers]), (6, kI 11)], []⟩ (by kernel_rfl) ?_
  refine zbL 0 (.ag [.any, .any, .om zj Rp.bool 2 [0] ((11, c.names, c.numbers) : (Int × (List (ze × Bool)) × (List (zf × Bool)))).2.1, .om zi Rp.bool 3 [0] ((11, c.names, c.numbers) : (Int × (List (ze × Bool)) × (List (zf × Bool)))).2.2]) rfl (zmK ⟨zeX _, zeX _, AV.le_refl _, AV.le_refl _, trivial⟩) ?_
  exact lzz
 refine jF hc8 ?_
 refine zaf ?_
 refine jr (lb 2 zj [] (⟨message, f.Name⟩ : ze) (rkl 0 [] ⟨[(0, .ag [kI c.size, .sl (Rp.int .i64) [0] c.kinds, .om zj Rp.bool 2 [0] c.names, .om zi Rp.bool 3 [0] c.numbers]), (3, .ptr 11 0), (8, .ptr 14 0), (58, .om zj Rp.bool 2 [0] c.names), (59, .rc zj [] (⟨message, f.Name⟩ : ze))], [⟨11, 130, [kI c.size, .sl (Rp.int .i64) [0] c.kinds, .om zj Rp.bool 2 [0] c.names, .om zi Rp.bool 3 [0] c.numbers]⟩, ⟨14, 171, [kI message, kI f.Number]⟩]⟩ (zhu ⟨[(0, .ag [kI c.size, .sl (Rp.int .i64) [0] c.kinds, .om zj Rp.bool 2 [0] (mput c.names (⟨message, f.Name⟩ : ze) true), .om zi Rp.bool 3 [0] c.numbers]), (3, .ptr 11 0), (8, .ptr 14 0), (58, .om zj Rp.bool 2 [0] (mput c.names (⟨message, f.Name⟩ : ze) true)), (59, .rc zj [] (⟨message, f.Name⟩ : ze))], [⟨11, 130, [kI c.size, .sl (Rp.int .i64) [0] c.kinds, .om zj Rp.bool 2 [0] (mput c.names (⟨message, f.Name⟩ : ze) true), .om zi Rp.bool 3 [0] c.numbers]⟩, ⟨14, 171, [kI message, kI f.Number]⟩]⟩ (zqw (rk := zj) (rv := Rp.bool) (m := c.names) (ℓ := 2) (C := [0]) (C1 := []) (D := []) (⟨message, f.Name⟩ : ze) true [0] zrL (.inl rfl) (zdH rfl) (zfi rfl rfl) rfl) rfl (by kernel_rfl) (by kernel_rfl) ⟨⟨_, rfl, zwT ⟨zK rfl, zK rfl, zfX 0 rfl, zK rfl, trivial⟩⟩, ⟨_, rfl, zK rfl⟩, ⟨_, rfl, zK rfl⟩, ⟨_, rfl, zfX 0 rfl⟩, ⟨_, rfl, zK rfl⟩, trivial⟩ ⟨⟨_, rfl, rfl, rfl, ⟨zK rfl, zK rfl, zfX 0 rfl, zK rfl, trivial⟩⟩, ⟨_, rfl, rfl, rfl, ⟨zK rfl, zK rfl, trivial⟩⟩, trivial⟩ rf))) ?_
 refine jr (lb 2 zi [] (⟨message, f.Number⟩ : zf) (rkl 0 [] ⟨[(0, .ag [kI c.size, .sl (Rp.int .i64) [0] c.kinds, .om zj Rp.bool 2 [0] (mput c.names (⟨message, f.Name⟩ : ze) true), .om zi Rp.bool 3 [0] c.numbers]), (61, .om zi Rp.bool 3 [0] c.numbers), (62, .rc zi [] (⟨message, f.Number⟩ : zf))], []⟩ (zhu ⟨[(0, .ag [kI c.size, .sl (Rp.int .i64) [0] c.kinds, .om zj Rp.bool 2 [0] (mput c.names (⟨message, f.Name⟩ : ze) true), .om zi Rp.bool 3 [0] (mput c.numbers (⟨message, f.Number⟩ : zf) true)]), (61, .om zi Rp.bool 3 [0] (mput c.numbers (⟨message, f.Number⟩ : zf) true)), (62, .rc zi [] (⟨message, f.Number⟩ : zf))], []⟩ (zqw (rk := zi) (rv := Rp.bool) (m := c.numbers) (ℓ := 3) (C := [0]) (C1 := []) (D := []) (⟨message, f.Number⟩ : zf) true [0] zyI (.inl rfl) (zdH rfl) (zfi rfl rfl) rfl) rfl (by kernel_rfl) (by kernel_rfl) ⟨⟨_, rfl, zwT ⟨zK rfl, zK rfl, zK rfl, zfX 0 rfl, trivial⟩⟩, ⟨_, rfl, zfX 0 rfl⟩, ⟨_, rfl, zK rfl⟩, trivial⟩ trivial rf))) ?_
 refine jp ?_
 obtain rfl := sj h
 refine zkU ?_
 refine zaS ⟨[(0, .ag [kI c.size, .sl (Rp.int .i64) [0] c.kinds, .om zj Rp.bool 2 [0] (mput c.names (⟨message, f.Name⟩ : ze) true), .om zi Rp.bool 3 [0] (mput c.numbers (⟨message, f.Number⟩ : zf) true)]), (6, kI 0)], []⟩ (by kernel_rfl) ?_
 refine zbL 0 (.ag [.any, .any, .om zj Rp.bool 2 [0] ((0, (mput c.names (⟨message, f.Name⟩ : ze) true), (mput c.numbers (⟨message, f.Number⟩ : zf) true)) : (Int × (List (ze × Bool)) × (List (zf × Bool)))).2.1, .om zi Rp.bool 3 [0] ((0, (mput c.names (⟨message, f.Name⟩ : ze) true), (mput c.numbers (⟨message, f.Number⟩ : zf) true)) : (Int × (List (ze × Bool)) × (List (zf × Bool)))).2.2]) rfl (zmK ⟨zeX _, zeX _, AV.le_refl _, AV.le_refl _, trivial⟩) ?_
 exact lzz
theorem zoE {sv : Str} {sep : Str} {sepSave : Int} {r : (Str × Str × Int)} (h : zhy sv sep sepSave = some r) : FnOk Tryz.prog 91 [kS sv, kS sep, kI sepSave] [.fv 118 [.bp Rp.str 9 911800 [] r.1, .bp Rp.str 9 911801 [] r.2.1, .bp (Rp.int .i64) 3 911802 [] r.2.2]] := by
 refine zo (E := ⟨[(6, .fv 118 [.bp Rp.str 9 911800 [] r.1, .bp Rp.str 9 911801 [] r.2.1, .bp (Rp.int .i64) 3 911802 [] r.2.2])], []⟩) 8 Tryz.func91 rfl rfl rfl ⟨rfl, trivial⟩ (fun Xt => ?_)
 refine zh ?_
 unfold zhy at h
 refine jq [911801, 911800, 911802] ?_
 refine jr (ra 0 [.ptr 911800 0, .ptr 911801 0, .ptr 911802 0] rfl (zuX (g := 118) [.tmp 4, .tmp 3, .tmp 5] [⟨911800, 9, [kS sep]⟩, ⟨911801, 9, [kS sv]⟩, ⟨911802, 3, [kI sepSave]⟩] [.bp Rp.str 9 911800 [] sep, .bp Rp.str 9 911801 [] sv, .bp (Rp.int .i64) 3 911802 [] sepSave] rfl ⟨⟨rfl, rfl, rfl, rfl⟩, ⟨rfl, rfl, rfl, rfl⟩, ⟨rfl, rfl, rfl, rfl⟩, trivial⟩ rfl) rfl rf) ?_
 obtain rfl := sj h
 exact zp lzz
theorem zhs {sv : (List zc)} {root : Int} {steps : (List Str)} {r : ((List zb) × Bool)} (h : zcj sv root steps = some r) : FnOk Tryz.prog 54 [.sl zd [0] sv, kI root, .sl Rp.str [0] steps, .lf (.val (.func (.func 55) #[] #[]))] [.own za 62 2 [] r.1, kB r.2] := by
 refine zo (E := ⟨[(8, .own za 62 2 [] r.1), (9, kB r.2)], []⟩) 57 Tryz.func54 rfl rfl rfl ⟨rfl, rfl, trivial⟩ (fun Xt => ?_)
 refine zh ?_
 unfold zcj at h
 refine jp ?_
 refine jp ?_
 refine jr (rc 1 rfl (zbR (r := za) [kI 17, kI root] [] (⟨[], 0, 17, false, false, root⟩ : zb) rfl zwS rfl rfl) (rfl' [16])) ?_
 refine jp ?_
 refine zn ?_
 obtain ⟨q, h_q, h⟩ := bnd h
 refine zam (fun s : ((List zb) × Int × Str × Int × Int × Bool × Bool × Int) => zF steps sv s.1 s.2.1 s.2.2.1 s.2.2.2.1 s.2.2.2.2.1 s.2.2.2.2.2.1 s.2.2.2.2.2.2.1 s.2.2.2.2.2.2.2) (fun s => ⟨[(0, .sl zd [0] sv), (3, .lf (.val (.func (.func 55) #[] #[]))), (10, .own za 62 20 [] s.1), (11, .ptr 16 0), (19, .sl Rp.str [0] steps), (20, kI (steps.length : Int)), (21, kI s.2.1)], [⟨16, 62, [kS s.2.2.1, kI s.2.2.2.1, kI s.2.2.2.2.1, kB s.2.2.2.2.2.1, kB s.2.2.2.2.2.2.1, kI s.2.2.2.2.2.2.2]⟩]⟩) (fun o e a w => match o with | (.inl v_) => e = .exit 0 ∧ Sx ⟨⟨57, []⟩, Xt, false, #[]⟩ ⟨[(10, .own za 62 20 [] v_)], []⟩ a w | (.inr v_) => e = .ret ∧ Sx ⟨⟨57, []⟩, Xt, false, #[]⟩ ⟨[(8, kN), (9, kB false)], []⟩ a w) ?_ h_q ?_ ?_
 ·
  clear h
  intro s o h
  obtain ⟨l, v, f, f2, f3, f4, f5, f6⟩ := s
  refine zh ?_
  replace h : zF steps sv l v f f2 f3 f4 f5 f6 = some o := h
  unfold zF at h
  refine jp ?_
  rcases zg h with ⟨hc1, h⟩ | ⟨hc1, h⟩
  ·
   refine jT hc1 ?_
   refine zn ?_
   obtain ⟨x, h_x, h⟩ := bnd h
   refine jr (ra 0 [.sl Rp.str [0] steps, kI v] rfl (zW rfl zfY.el (zv _ _ _) h_x) rfl rf) ?_
   refine zN ⟨[(0, .sl zd [0] sv), (3, .lf (.val (.func (.func 55) #[] #[]))), (10, .own za 62 20 [] l), (11, .ptr 16 0), (13, kS x), (19, .sl Rp.str [0] steps), (20, kI (steps.length : Int)), (21, kI v), (31, kB ((f3 != 17) || f4))], [⟨16, 62, [kS f, kI f2, kI f3, kB f4, kB f5, kI f6]⟩]⟩ ?_ ?_
   ·
    refine (rsl 4 [] 28 (f3 != 17) (fun hc2 => ?_) (fun hc2 => ?_))
    · exact (rbl [] 31 true ((f3 != 17) || f4) (by rw [hc2] <;> rfl))
    exact (rbl [] 31 f4 ((f3 != 17) || f4) (by rw [hc2] <;> rfl))
   rcases zg h with ⟨hc3, h⟩ | ⟨hc3, h⟩
   ·
    refine jT hc3 ?_
    refine jp ?_
    obtain rfl := sj h
    exact zaW lzz
   refine jF hc3 ?_
   obtain ⟨x2, h_x2, h⟩ := bnd h
   refine jr (ra 3 [.sl zd [0] sv, kI f6] rfl (zW rfl zhD.el (zv _ _ _) h_x2) rfl (ra 0 [.ep zd [0] x2 0] rfl (zhY rfl ⟨Tryz.isAgg65, Tryz.sizeOf65⟩) rfl (ral 1 [21] [.ptr 21 0, .rc zd [0] x2] rfl (zsz (r := zd) (b := ⟨21, 65, [kS [], kN]⟩) (off := 0) [kS x2.Name, .sl za [0] x2.Fields] rfl Tryz.sizeOf65 rfl rfl rfl rfl) rfl rf))) ?_
   obtain ⟨rv, h_rv, h⟩ := bnd h
   refine jr (rc 3 rfl (zL.le (ins' := [(.tmp 38, .lf (.val (.func (.func 55) #[] #[]))), (.tmp 39, .ag [kS x2.Name, .sl za [0] x2.Fields]), (.tmp 40, kS x)]) (zjx (args := [.tmp 39, .tmp 40]) [.rc zd [0] x2, kS x] [0] 20 rfl (zwd _) Tryz.call55 (zra h_rv) rfl rfl rfl rfl rfl) ⟨⟨rfl, AV.le_refl _⟩, ⟨rfl, zcA zd [0] x2 [kS x2.Name, .sl za [0] x2.Fields] rfl rfl⟩, ⟨rfl, AV.le_refl _⟩, trivial⟩) rf) ?_
   refine jp ?_
   rcases zg h with ⟨hc4, h⟩ | ⟨hc4, h⟩
   ·
    refine jT hc4 ?_
    refine jp ?_
    obtain rfl := sj h
    exact zaW lzz
   refine jF hc4 ?_
   obtain ⟨x3, h_x3, h⟩ := bnd h
   refine jr (ra 3 [.sl za [0] x2.Fields, kI rv.1] rfl (zW rfl ziw.el (zv _ _ _) h_x3) rfl (ra 0 [.ep za [0] x3 0] rfl (zhY rfl ⟨Tryz.isAgg62, Tryz.sizeOf62⟩) rfl rf)) ?_
   obtain ⟨v3, h_v3, h⟩ := bnd h
   refine jr (lb 1 za [] x3 (rc 0 rfl (zdO [.rc za [] x3] 22 [] ([x3] : (List zb)) rfl ziw rfl rfl rfl rfl) (ra 0 [.own za 62 20 [] l, .own za 62 22 [] ([x3] : (List zb))] rfl (zes 20 [] rfl ziw.el rfl (zbA _ _ _ _ _) (zbF _ _ _ _ _) h_v3 (.inl zea) rfl) rfl rf))) ?_
   refine zaf ?_
   refine jp ?_
   obtain rfl := sj h
   exact zJ lzz
  refine jF hc1 ?_
  obtain rfl := sj h
  exact zai rfl lzz
 ·
  refine zaS ⟨[(0, .sl zd [0] sv), (3, .lf (.val (.func (.func 55) #[] #[]))), (10, kN), (11, .ptr 16 0), (19, .sl Rp.str [0] steps), (20, kI (steps.length : Int)), (21, kI 0)], [⟨16, 62, [kS [], kI 0, kI 17, kB false, kB false, kI root]⟩]⟩ (by kernel_rfl) ?_
  refine zbL 10 (.own za 62 20 [] []) rfl (zY za 62 20 [] rfl) ?_
  exact lzz
 rcases q with u | u2
 ·
  refine zaJ _ rfl ?_
  refine jp ?_
  obtain rfl := sj h
  refine zp ?_
  refine lk [8, 9] [] 20 2 ?_
  exact lzz
 obtain rfl := sj h
 refine zdi ?_
 refine zaS ⟨[(8, kN), (9, kB false)], []⟩ (by kernel_rfl) ?_
 refine zbL 8 (.own za 62 2 [] (([], false) : ((List zb) × Bool)).1) rfl (zY za 62 2 [] rfl) ?_
 exact lzz
theorem zcV {ways : (List (List Int))} {r : zO} (h : zgE ways = some r) : FnOk Tryz.prog 20 [.sl (Rp.list (Rp.int .i64)) [0] ways] [.ag [.own (Rp.list (Rp.int .i64)) 30 3 [4, 5] r.Ways]] := by
 refine zo (E := ⟨[(2, .ptr 2 0)], [⟨2, 38, [.own (Rp.list (Rp.int .i64)) 30 3 [4, 5] r.Ways]⟩]⟩) 41 Tryz.func20 rfl rfl rfl ⟨⟨_, _, rfl, rfl, rfl, ⟨Tryz.isAgg38, Tryz.sizeOf38⟩⟩, trivial⟩ (fun Xt => ?_)
 refine zh ?_
 unfold zgE at h
 refine jq [30] ?_
 obtain ⟨rv, h_rv, h⟩ := bnd h
 refine jr (rl 1 [0] 29 Tryz.call38 (znG h_rv) rf) ?_
 rcases zg h with ⟨hc1, h⟩ | ⟨hc1, h⟩
 ·
  refine jT hc1 ?_
  obtain ⟨rv2, h_rv2, h⟩ := bnd h
  refine jr (rl 1 [0] 29 Tryz.call39 (znF h_rv2) (ra 0 [.own (Rp.list (Rp.int .i64)) 30 31 [32] rv2] rfl (zet [.own (Rp.list (Rp.int .i64)) 30 31 [32] rv2] [.own (Rp.list (Rp.int .i64)) 30 31 [32] rv2] rfl zlU rfl) rfl rf)) ?_
  obtain rfl := sj h
  refine zp ?_
  refine lk [2] [30] 30 2 ?_
  refine lk [2] [2] 31 3 ?_
  refine lk [2] [2] 32 5 ?_
  refine zaS ⟨[(2, .ptr 2 0)], [⟨2, 38, [.own (Rp.list (Rp.int .i64)) 30 3 [5] rv2]⟩]⟩ (by kernel_rfl) ?_
  refine ziI 2 0 (.own (Rp.list (Rp.int .i64)) 30 3 [4, 5] ((⟨rv2⟩ : zO) : zO).Ways) rfl rfl (zgb _ _ _ _ _ _ rfl rfl) ?_
  exact lzz
 refine jF hc1 ?_
 refine jp ?_
 refine jr (rc 0 rfl (znB (rk := zae) (rv := (Rp.int .i64)) 33 rfl) rf) ?_
 obtain ⟨rv3, h_rv3, h⟩ := bnd h
 obtain ⟨rv4, h_rv4, h⟩ := bnd h
 refine jr (rl 1 [0] 0 Tryz.call41 (ziP h_rv3) (rc 0 rfl (zL.le (ins' := [(.tmp 14, .fv 65 [.bp (Rp.list (Rp.list (Rp.int .i64))) 25 906500 [0] rv3]), (.func 42, .lf (.val (.func (.func 42) #[] #[])))]) (zac (args := [.tmp 14, .func 42]) [.fv 65 [.ep (Rp.list (Rp.list (Rp.int .i64))) [906500, 0] rv3 0], .lf (.val (.func (.func 42) #[] #[]))] [906500, 0] 32 rfl Tryz.call40 (zcc h_rv4) rfl rfl rfl rfl rfl) ⟨⟨rfl, zCn ⟨zyC _ _ _ _ _ _ rfl, trivial⟩⟩, ⟨rfl, AV.le_refl _⟩, trivial⟩) rf)) ?_
 refine zn ?_
 obtain ⟨q, h_q, h⟩ := bnd h
 refine zam (fun s : ((List (List Int)) × (List (zI × Int)) × Int) => zfu rv4 s.1 s.2.1 s.2.2) (fun s => ⟨[(2, .ptr 30 0), (3, .own (Rp.list (Rp.int .i64)) 30 40 [36, 34, 35, 906500, 0] s.1), (4, .om zae (Rp.int .i64) 33 [34, 35, 906500, 0] s.2.1), (15, .own (Rp.list (Rp.int .i64)) 30 34 [35, 906500, 0] rv4), (16, kI (rv4.length : Int)), (17, kI s.2.2)], [⟨30, 38, [kN]⟩]⟩) (fun o e a w => e = .exit 0 ∧ Sx ⟨⟨41, []⟩, Xt, false, #[]⟩ ⟨[(2, .ptr 30 0), (3, .own (Rp.list (Rp.int .i64)) 30 40 [36, 34, 35, 906500, 0] o)], [⟨30, 38, [kN]⟩]⟩ a w) ?_ h_q ?_ ?_
 ·
  clear h
  intro s o h
  obtain ⟨l, t, v⟩ := s
  refine zh ?_
  replace h : zfu rv4 l t v = some o := h
  unfold zfu at h
  refine jp ?_
  rcases zg h with ⟨hc2, h⟩ | ⟨hc2, h⟩
  ·
   refine jT hc2 ?_
   refine zn ?_
   obtain ⟨x, h_x, h⟩ := bnd h
   refine jr (ra 0 [.own (Rp.list (Rp.int .i64)) 30 34 [35, 906500, 0] rv4, kI v] rfl (zW rfl zaF.el (zbF _ _ _ _ _) h_x) rfl (ra 0 [.ep (Rp.list (Rp.int .i64)) [34, 35, 906500, 0] x 0] rfl (zaK (Rp.int .i64) x rfl rfl rfl) rfl rf)) ?_
   obtain ⟨g, h_g, h⟩ := bnd h
   refine zN ⟨[(2, .ptr 30 0), (3, .own (Rp.list (Rp.int .i64)) 30 40 [36, 34, 35, 906500, 0] l), (4, .om zae (Rp.int .i64) 33 [34, 35, 906500, 0] t), (6, .sl (Rp.int .i64) [34, 35, 906500, 0] x), (15, .own (Rp.list (Rp.int .i64)) 30 34 [35, 906500, 0] rv4), (16, kI (rv4.length : Int)), (17, kI v), (29, kB g)], [⟨30, 38, [kN]⟩]⟩ ?_ ?_
   ·
    refine (rsl 4 [] 24 (decide ((x.length : Int) > 0)) (fun hc3 => ?_) (fun hc3 => ?_))
    ·
     replace h_g := iteT h_g hc3
     obtain ⟨rv5, h_rv5, h_g⟩ := bnd h_g
     obtain rfl := sj h_g
     exact (rl 2 [33, 34, 35, 906500, 0] 42 Tryz.call43 (zks h_rv5) (rel [] lzz))
    replace h_g := iteF h_g hc3
    obtain rfl := sj h_g
    exact (rel [] lzz)
   rcases zg h with ⟨hc4, h⟩ | ⟨hc4, h⟩
   ·
    refine jT hc4 ?_
    obtain ⟨rv7, h_rv7, h⟩ := bnd h
    refine jr (rkl 2 [] ⟨[(2, .ptr 30 0), (3, .own (Rp.list (Rp.int .i64)) 30 40 [36, 34, 35, 906500, 0] l), (4, .om zae (Rp.int .i64) 33 [34, 35, 906500, 0] t), (6, .sl (Rp.int .i64) [34, 35, 906500, 0] x), (15, .own (Rp.list (Rp.int .i64)) 30 34 [35, 906500, 0] rv4), (16, kI (rv4.length : Int)), (17, kI v), (30, .om zae (Rp.int .i64) 33 [34, 35, 906500, 0] t), (31, .sl (Rp.int .i64) [34, 35, 906500, 0] x)], [⟨30, 38, [kN]⟩]⟩ (zhu ⟨[(2, .ptr 30 0), (3, .own (Rp.list (Rp.int .i64)) 30 40 [36, 34, 35, 906500, 0] l), (4, .om zae (Rp.int .i64) 33 [34, 35, 906500, 0] rv7), (6, .sl (Rp.int .i64) [34, 35, 906500, 0] x), (15, .own (Rp.list (Rp.int .i64)) 30 34 [35, 906500, 0] rv4), (16, kI (rv4.length : Int)), (17, kI v), (30, .om zae (Rp.int .i64) 33 [34, 35, 906500, 0] rv7), (31, .sl (Rp.int .i64) [34, 35, 906500, 0] x)], [⟨30, 38, [kN]⟩]⟩ (zou [.om zae (Rp.int .i64) 33 [34, 35, 906500, 0] t, .sl (Rp.int .i64) [34, 35, 906500, 0] x] [(33, 2)] [34, 35, 906500, 0] 43 [] rfl Tryz.call44 (zmN h_rv7) rfl rfl (by kernel_rfl) rfl rfl rfl) rfl (by kernel_rfl) (by kernel_rfl) ⟨⟨_, rfl, zK rfl⟩, ⟨_, rfl, zK rfl⟩, ⟨_, rfl, zfX 0 rfl⟩, ⟨_, rfl, zK rfl⟩, ⟨_, rfl, zK rfl⟩, ⟨_, rfl, zK rfl⟩, ⟨_, rfl, zK rfl⟩, ⟨_, rfl, zfX 0 rfl⟩, ⟨_, rfl, zK rfl⟩, trivial⟩ ⟨⟨_, rfl, rfl, rfl, ⟨zK rfl, trivial⟩⟩, trivial⟩ rf)) ?_
    obtain ⟨v3, h_v3, h⟩ := bnd h
    refine jr (rc 2 rfl (zdO [.sl (Rp.int .i64) [34, 35, 906500, 0] x] 46 [34, 35, 906500, 0] ([x] : (List (List Int))) rfl zaF rfl rfl rfl rfl) (ra 0 [.own (Rp.list (Rp.int .i64)) 30 40 [36, 34, 35, 906500, 0] l, .own (Rp.list (Rp.int .i64)) 30 46 [34, 35, 906500, 0] ([x] : (List (List Int)))] rfl (zes 40 [36, 34, 35, 906500, 0, 46] rfl zaF.el rfl (zbA _ _ _ _ _) (zbF _ _ _ _ _) h_v3 (.inr rfl) rfl) rfl rf)) ?_
    refine zaf ?_
    refine jp ?_
    obtain rfl := sj h
    refine zJ ?_
    refine lk [2, 3, 4, 15, 16, 17] [30] 46 35 ?_
    refine zaS ⟨[(2, .ptr 30 0), (3, .own (Rp.list (Rp.int .i64)) 30 40 [36, 34, 35, 906500, 0, 35] v3), (4, .om zae (Rp.int .i64) 33 [34, 35, 906500, 0] rv7), (15, .own (Rp.list (Rp.int .i64)) 30 34 [35, 906500, 0] rv4), (16, kI (rv4.length : Int)), (17, kI (IntKind.i64.wrap (v + 1)))], [⟨30, 38, [kN]⟩]⟩ (by kernel_rfl) ?_
    refine zbL 3 (.own (Rp.list (Rp.int .i64)) 30 40 [36, 34, 35, 906500, 0] v3) rfl (zgb _ _ _ _ _ _ rfl rfl) ?_
    exact lzz
   refine jF hc4 ?_
   refine zaf ?_
   refine jp ?_
   obtain rfl := sj h
   exact zJ lzz
  refine jF hc2 ?_
  obtain rfl := sj h
  exact zai rfl lzz
 ·
  refine zaS ⟨[(2, .ptr 30 0), (3, kN), (4, .om zae (Rp.int .i64) 33 [] ([] : (List (zI × Int)))), (15, .own (Rp.list (Rp.int .i64)) 30 34 [35, 906500, 0] rv4), (16, kI (rv4.length : Int)), (17, kI 0)], [⟨30, 38, [kN]⟩]⟩ (by kernel_rfl) ?_
  refine zbL 3 (.own (Rp.list (Rp.int .i64)) 30 40 [36, 34, 35, 906500, 0] []) rfl (zY (Rp.list (Rp.int .i64)) 30 40 [36, 34, 35, 906500, 0] rfl) ?_
  refine zbL 4 (.om zae (Rp.int .i64) 33 [34, 35, 906500, 0] ([] : (List (zI × Int)))) rfl (zyD _ _ _ _ rfl rfl) ?_
  exact lzz
 refine zaJ _ rfl ?_
 obtain ⟨rv8, h_rv8, h⟩ := bnd h
 refine jr (rl 1 [40, 36, 34, 35, 906500, 0] 45 Tryz.call39 (znF h_rv8) (ra 0 [.own (Rp.list (Rp.int .i64)) 30 47 [48] rv8] rfl (zet [.own (Rp.list (Rp.int .i64)) 30 47 [48] rv8] [.own (Rp.list (Rp.int .i64)) 30 47 [48] rv8] rfl zlU rfl) rfl rf)) ?_
 obtain rfl := sj h
 refine zp ?_
 refine lk [2] [30] 30 2 ?_
 refine lk [2] [2] 47 3 ?_
 refine lk [2] [2] 48 5 ?_
 refine zaS ⟨[(2, .ptr 2 0)], [⟨2, 38, [.own (Rp.list (Rp.int .i64)) 30 3 [5] rv8]⟩]⟩ (by kernel_rfl) ?_
 refine ziI 2 0 (.own (Rp.list (Rp.int .i64)) 30 3 [4, 5] ((⟨rv8⟩ : zO) : zO).Ways) rfl rfl (zgb _ _ _ _ _ _ rfl rfl) ?_
 exact lzz
theorem zhd {sv : (List zc)} {root : Int} {r : Int} (h : zdL sv root = some r) : FnOk Tryz.prog 31 [.sl zd [0] sv, kI root] [kI r] := by
 refine zo (E := ⟨[(4, kI r)], []⟩) 16 Tryz.func31 rfl rfl rfl ⟨rfl, trivial⟩ (fun Xt => ?_)
 refine zh ?_
 unfold zdL at h
 refine jp ?_
 obtain ⟨rv, h_rv, h⟩ := bnd h
 refine jr (rl 1 [0] 9 Tryz.call56 (zmY h_rv) rf) ?_
 rcases zg h with ⟨hc1, h⟩ | ⟨hc1, h⟩
 ·
  refine jT hc1 ?_
  refine jp ?_
  obtain rfl := sj h
  exact zp lzz
 refine jF hc1 ?_
 refine zN ⟨[(15, kB ((decide (root < 0)) || (decide (root ≥ (sv.length : Int)))))], []⟩ ?_ ?_
 ·
  refine (rsl 3 [] 10 (decide (root < 0)) (fun hc2 => ?_) (fun hc2 => ?_))
  · exact (rbl [] 15 true ((decide (root < 0)) || (decide (root ≥ (sv.length : Int)))) (by rw [hc2] <;> rfl))
  exact (rbl [] 15 (decide (root ≥ (sv.length : Int))) ((decide (root < 0)) || (decide (root ≥ (sv.length : Int)))) (by rw [hc2] <;> rfl))
 rcases zg h with ⟨hc3, h⟩ | ⟨hc3, h⟩
 ·
  refine jT hc3 ?_
  refine jp ?_
  obtain rfl := sj h
  exact zp lzz
 refine jF hc3 ?_
 refine jp ?_
 obtain rfl := sj h
 exact zp lzz
theorem zhG {sv : (List zc)} {root : Int} {steps : (List Int)} {r : ((List zb) × Bool)} (h : zco sv root steps = some r) : FnOk Tryz.prog 73 [.sl zd [0] sv, kI root, .sl (Rp.int .i64) [0] steps, .lf (.val (.func (.func 74) #[] #[]))] [.own za 62 2 [] r.1, kB r.2] := by
 refine zo (E := ⟨[(8, .own za 62 2 [] r.1), (9, kB r.2)], []⟩) 57 Tryz.func73 rfl rfl rfl ⟨rfl, rfl, trivial⟩ (fun Xt => ?_)
 refine zh ?_
 unfold zco at h
 refine jp ?_
 refine jp ?_
 refine jr (rc 1 rfl (zbR (r := za) [kI 17, kI root] [] (⟨[], 0, 17, false, false, root⟩ : zb) rfl zwS rfl rfl) (rfl' [16])) ?_
 refine jp ?_
 refine zn ?_
 obtain ⟨q, h_q, h⟩ := bnd h
 refine zam (fun s : ((List zb) × Int × Str × Int × Int × Bool × Bool × Int) => zH steps sv s.1 s.2.1 s.2.2.1 s.2.2.2.1 s.2.2.2.2.1 s.2.2.2.2.2.1 s.2.2.2.2.2.2.1 s.2.2.2.2.2.2.2) (fun s => ⟨[(0, .sl zd [0] sv), (3, .lf (.val (.func (.func 74) #[] #[]))), (10, .own za 62 20 [] s.1), (11, .ptr 16 0), (19, .sl (Rp.int .i64) [0] steps), (20, kI (steps.length : Int)), (21, kI s.2.1)], [⟨16, 62, [kS s.2.2.1, kI s.2.2.2.1, kI s.2.2.2.2.1, kB s.2.2.2.2.2.1, kB s.2.2.2.2.2.2.1, kI s.2.2.2.2.2.2.2]⟩]⟩) (fun o e a w => match o with | (.inl v_) => e = .exit 0 ∧ Sx ⟨⟨57, []⟩, Xt, false, #[]⟩ ⟨[(10, .own za 62 20 [] v_)], []⟩ a w | (.inr v_) => e = .ret ∧ Sx ⟨⟨57, []⟩, Xt, false, #[]⟩ ⟨[(8, kN), (9, kB false)], []⟩ a w) ?_ h_q ?_ ?_
 ·
  clear h
  intro s o h
  obtain ⟨l, v, f, f2, f3, f4, f5, f6⟩ := s
  refine zh ?_
  replace h : zH steps sv l v f f2 f3 f4 f5 f6 = some o := h
  unfold zH at h
  refine jp ?_
  rcases zg h with ⟨hc1, h⟩ | ⟨hc1, h⟩
  ·
   refine jT hc1 ?_
   refine zn ?_
   obtain ⟨x, h_x, h⟩ := bnd h
   refine jr (ra 0 [.sl (Rp.int .i64) [0] steps, kI v] rfl (zW rfl zel.el (zv _ _ _) h_x) rfl rf) ?_
   refine zN ⟨[(0, .sl zd [0] sv), (3, .lf (.val (.func (.func 74) #[] #[]))), (10, .own za 62 20 [] l), (11, .ptr 16 0), (13, kI x), (19, .sl (Rp.int .i64) [0] steps), (20, kI (steps.length : Int)), (21, kI v), (31, kB ((f3 != 17) || f4))], [⟨16, 62, [kS f, kI f2, kI f3, kB f4, kB f5, kI f6]⟩]⟩ ?_ ?_
   ·
    refine (rsl 4 [] 28 (f3 != 17) (fun hc2 => ?_) (fun hc2 => ?_))
    · exact (rbl [] 31 true ((f3 != 17) || f4) (by rw [hc2] <;> rfl))
    exact (rbl [] 31 f4 ((f3 != 17) || f4) (by rw [hc2] <;> rfl))
   rcases zg h with ⟨hc3, h⟩ | ⟨hc3, h⟩
   ·
    refine jT hc3 ?_
    refine jp ?_
    obtain rfl := sj h
    exact zaW lzz
   refine jF hc3 ?_
   obtain ⟨x2, h_x2, h⟩ := bnd h
   refine jr (ra 3 [.sl zd [0] sv, kI f6] rfl (zW rfl zhD.el (zv _ _ _) h_x2) rfl (ra 0 [.ep zd [0] x2 0] rfl (zhY rfl ⟨Tryz.isAgg65, Tryz.sizeOf65⟩) rfl (ral 1 [21] [.ptr 21 0, .rc zd [0] x2] rfl (zsz (r := zd) (b := ⟨21, 65, [kS [], kN]⟩) (off := 0) [kS x2.Name, .sl za [0] x2.Fields] rfl Tryz.sizeOf65 rfl rfl rfl rfl) rfl rf))) ?_
   obtain ⟨rv, h_rv, h⟩ := bnd h
   refine jr (rc 3 rfl (zL.le (ins' := [(.tmp 38, .lf (.val (.func (.func 74) #[] #[]))), (.tmp 39, .ag [kS x2.Name, .sl za [0] x2.Fields]), (.tmp 40, kI x)]) (zjx (args := [.tmp 39, .tmp 40]) [.rc zd [0] x2, kI x] [0] 20 rfl (zwd _) Tryz.call74 (zpq h_rv) rfl rfl rfl rfl rfl) ⟨⟨rfl, AV.le_refl _⟩, ⟨rfl, zcA zd [0] x2 [kS x2.Name, .sl za [0] x2.Fields] rfl rfl⟩, ⟨rfl, AV.le_refl _⟩, trivial⟩) rf) ?_
   refine jp ?_
   rcases zg h with ⟨hc4, h⟩ | ⟨hc4, h⟩
   ·
    refine jT hc4 ?_
    refine jp ?_
    obtain rfl := sj h
    exact zaW lzz
   refine jF hc4 ?_
   obtain ⟨x3, h_x3, h⟩ := bnd h
   refine jr (ra 3 [.sl za [0] x2.Fields, kI rv.1] rfl (zW rfl ziw.el (zv _ _ _) h_x3) rfl (ra 0 [.ep za [0] x3 0] rfl (zhY rfl ⟨Tryz.isAgg62, Tryz.sizeOf62⟩) rfl rf)) ?_
   obtain ⟨v3, h_v3, h⟩ := bnd h
   refine jr (lb 1 za [] x3 (rc 0 rfl (zdO [.rc za [] x3] 22 [] ([x3] : (List zb)) rfl ziw rfl rfl rfl rfl) (ra 0 [.own za 62 20 [] l, .own za 62 22 [] ([x3] : (List zb))] rfl (zes 20 [] rfl ziw.el rfl (zbA _ _ _ _ _) (zbF _ _ _ _ _) h_v3 (.inl zea) rfl) rfl rf))) ?_
   refine zaf ?_
   refine jp ?_
   obtain rfl := sj h
   exact zJ lzz
  refine jF hc1 ?_
  obtain rfl := sj h
  exact zai rfl lzz
 ·
  refine zaS ⟨[(0, .sl zd [0] sv), (3, .lf (.val (.func (.func 74) #[] #[]))), (10, kN), (11, .ptr 16 0), (19, .sl (Rp.int .i64) [0] steps), (20, kI (steps.length : Int)), (21, kI 0)], [⟨16, 62, [kS [], kI 0, kI 17, kB false, kB false, kI root]⟩]⟩ (by kernel_rfl) ?_
  refine zbL 10 (.own za 62 20 [] []) rfl (zY za 62 20 [] rfl) ?_
  exact lzz
 rcases q with u | u2
 ·
  refine zaJ _ rfl ?_
  refine jp ?_
  obtain rfl := sj h
  refine zp ?_
  refine lk [8, 9] [] 20 2 ?_
  exact lzz
 obtain rfl := sj h
 refine zdi ?_
 refine zaS ⟨[(8, kN), (9, kB false)], []⟩ (by kernel_rfl) ?_
 refine zbL 8 (.own za 62 2 [] (([], false) : ((List zb) × Bool)).1) rfl (zY za 62 2 [] rfl) ?_
 exact lzz
theorem zfE {sv : (List (List Int))} {v : (List Int)} {r : Bool} (h : zbf sv v = some r) : FnOk Tryz.prog 45 [.sl (Rp.list (Rp.int .i64)) [0] sv, .fv 47 [.ep (Rp.list (Rp.int .i64)) [0] v 0]] [kB r] := by
 refine zo (E := ⟨[(4, kB r)], []⟩) 9 Tryz.func45 rfl rfl rfl ⟨rfl, trivial⟩ (fun Xt => ?_)
 refine zh ?_
 unfold zbf at h
 refine jp ?_
 obtain ⟨rv, h_rv, h⟩ := bnd h
 refine jr (rl 2 [0] 9 Tryz.call67 (zge h_rv) rf) ?_
 obtain rfl := sj h
 exact zp lzz
theorem zmM {m : zO} {other : zO} {r : (List (List Int))} (h : zhr m other = some r) : FnOk Tryz.prog 50 [.rc zat [0] m, .rc zat [0] other] [.own (Rp.list (Rp.int .i64)) 30 2 [0, 907200, 3] r] := by
 refine zo (E := ⟨[(4, .own (Rp.list (Rp.int .i64)) 30 2 [0, 907200, 3] r)], []⟩) 25 Tryz.func50 rfl rfl rfl ⟨rfl, trivial⟩ (fun Xt => ?_)
 refine zh ?_
 unfold zhr at h
 refine jr (ra 0 [.rc zat [0] m] rfl (zgW 18 [.sl (Rp.list (Rp.int .i64)) [0] m.Ways] [0] rfl rfl rfl rfl rfl) rfl (ra 0 [.rc zat [0] other] rfl (zgW 19 [.sl (Rp.list (Rp.int .i64)) [0] other.Ways] [0] rfl rfl rfl rfl rfl) rfl rf)) ?_
 refine jr (rc 0 rfl (znB (rk := zae) (rv := (Rp.int .i64)) 20 rfl) (rfl' [907200])) ?_
 refine jp ?_
 refine zn ?_
 obtain ⟨q, h_q, h⟩ := bnd h
 refine zam (fun s : (Int × (List (zI × Int))) => zcN other s.1 s.2) (fun s => ⟨[(2, .ptr 18 0), (5, .ptr 907200 0), (10, .sl (Rp.list (Rp.int .i64)) [0] other.Ways), (11, kI (other.Ways.length : Int)), (12, kI s.1)], [⟨18, 38, [.sl (Rp.list (Rp.int .i64)) [0] m.Ways]⟩, ⟨907200, 76, [.om zae (Rp.int .i64) 20 [0] s.2]⟩]⟩) (fun o e a w => e = .exit 0 ∧ Sx ⟨⟨25, []⟩, Xt, false, #[]⟩ ⟨[(2, .ptr 18 0), (5, .ptr 907200 0)], [⟨18, 38, [.sl (Rp.list (Rp.int .i64)) [0] m.Ways]⟩, ⟨907200, 76, [.om zae (Rp.int .i64) 20 [0] o]⟩]⟩ a w) ?_ h_q ?_ ?_
 ·
  clear h
  intro s o h
  obtain ⟨v, f⟩ := s
  refine zh ?_
  replace h : zcN other v f = some o := h
  unfold zcN at h
  refine jp ?_
  rcases zg h with ⟨hc1, h⟩ | ⟨hc1, h⟩
  ·
   refine jT hc1 ?_
   refine zn ?_
   obtain ⟨x, h_x, h⟩ := bnd h
   refine jr (ra 0 [.sl (Rp.list (Rp.int .i64)) [0] other.Ways, kI v] rfl (zW rfl zaF.el (zv _ _ _) h_x) rfl (ra 0 [.ep (Rp.list (Rp.int .i64)) [0] x 0] rfl (zaK (Rp.int .i64) x rfl rfl rfl) rfl rf)) ?_
   obtain ⟨rv2, h_rv2, h⟩ := bnd h
   refine jr (rkl 2 [] ⟨[(2, .ptr 18 0), (5, .ptr 907200 0), (10, .sl (Rp.list (Rp.int .i64)) [0] other.Ways), (11, kI (other.Ways.length : Int)), (12, kI v), (16, .om zae (Rp.int .i64) 20 [0] f), (17, .sl (Rp.int .i64) [0] x)], [⟨18, 38, [.sl (Rp.list (Rp.int .i64)) [0] m.Ways]⟩, ⟨907200, 76, [.om zae (Rp.int .i64) 20 [0] f]⟩]⟩ (zhu ⟨[(2, .ptr 18 0), (5, .ptr 907200 0), (10, .sl (Rp.list (Rp.int .i64)) [0] other.Ways), (11, kI (other.Ways.length : Int)), (12, kI v), (16, .om zae (Rp.int .i64) 20 [0] rv2), (17, .sl (Rp.int .i64) [0] x)], [⟨18, 38, [.sl (Rp.list (Rp.int .i64)) [0] m.Ways]⟩, ⟨907200, 76, [.om zae (Rp.int .i64) 20 [0] rv2]⟩]⟩ (zou [.om zae (Rp.int .i64) 20 [0] f, .sl (Rp.int .i64) [0] x] [(20, 2)] [0] 21 [] rfl Tryz.call44 (zmN h_rv2) rfl rfl (by kernel_rfl) rfl rfl rfl) rfl (by kernel_rfl) (by kernel_rfl) ⟨⟨_, rfl, zK rfl⟩, ⟨_, rfl, zK rfl⟩, ⟨_, rfl, zK rfl⟩, ⟨_, rfl, zK rfl⟩, ⟨_, rfl, zK rfl⟩, ⟨_, rfl, zfX 0 rfl⟩, ⟨_, rfl, zK rfl⟩, trivial⟩ ⟨⟨_, rfl, rfl, rfl, ⟨zK rfl, trivial⟩⟩, ⟨_, rfl, rfl, rfl, ⟨zfX 0 rfl, trivial⟩⟩, trivial⟩ rf)) ?_
   refine zaf ?_
   refine jp ?_
   obtain rfl := sj h
   exact zJ lzz
  refine jF hc1 ?_
  obtain rfl := sj h
  exact zai rfl lzz
 ·
  refine zaS ⟨[(2, .ptr 18 0), (5, .ptr 907200 0), (10, .sl (Rp.list (Rp.int .i64)) [0] other.Ways), (11, kI (other.Ways.length : Int)), (12, kI 0)], [⟨18, 38, [.sl (Rp.list (Rp.int .i64)) [0] m.Ways]⟩, ⟨907200, 76, [.om zae (Rp.int .i64) 20 [] ([] : (List (zI × Int)))]⟩]⟩ (by kernel_rfl) ?_
  refine ziI 907200 0 (.om zae (Rp.int .i64) 20 [0] ([] : (List (zI × Int)))) rfl rfl (zyD _ _ _ _ rfl rfl) ?_
  exact lzz
 refine zaJ _ rfl ?_
 obtain ⟨rv3, h_rv3, h⟩ := bnd h
 obtain ⟨v2, h_v2, h⟩ := bnd h
 refine jr (rl 2 [0] 22 Tryz.call71 (zjb h_rv3) (ra 0 [.ptr 907200 0] rfl (zpU (g := 72) [.tmp 5] [⟨907200, 76, [.om zae (Rp.int .i64) 20 [0] q]⟩] [.em zae (Rp.int .i64) [907200, 20, 0] q] rfl ⟨.inl ⟨20, [0], rfl, rfl⟩, trivial⟩ rfl) rfl (ra 0 [.own (Rp.list (Rp.int .i64)) 30 24 [0] rv3, .fv 72 [.em zae (Rp.int .i64) [907200, 20, 0] q]] rfl (zAL (args := [.tmp 23]) [.fv 72 [.em zae (Rp.int .i64) [907200, 20, 0] q]] [0, 907200, 20] rfl Tryz.call70 (zfh h_v2) rfl rfl rfl rfl rfl) rfl rf))) ?_
 obtain rfl := sj h
 refine zp ?_
 refine lk [4] [] 24 2 ?_
 refine lk [4] [] 20 3 ?_
 exact lzz
end Go.Proofs.YtglkepeofhonlaaGreatDoor
