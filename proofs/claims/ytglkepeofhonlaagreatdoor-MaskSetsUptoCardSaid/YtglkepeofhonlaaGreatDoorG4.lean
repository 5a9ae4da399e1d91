/-
  The Go functions do what the plain functions say. No condition.
-/
import Derived.Test.YtglkepeofhonlaaGreatDoorG3
namespace Go.Proofs.YtglkepeofhonlaaGreatDoor
open Go Go.RowKit
set_option linter.unusedVariables false
set_option maxRecDepth 100000
set_option maxHeartbeats 3200000
theorem zlS {c : zbj} {m : zc} {r : (Int × (List (ze × Bool)) × (List (zf × Bool)))} (h : zeJ c m = some r) : zkj Tryz.prog 89 [.ag [kI c.size, .sl (Rp.int .i64) [0] c.kinds, .om zj Rp.bool 2 [0] c.names, .om zi Rp.bool 3 [0] c.numbers], .rc zd [0] m] [kI r.1] [.ag [.any, .any, .om zj Rp.bool 2 [0] r.2.1, .om zi Rp.bool 3 [0] r.2.2], .any] := by
 refine zob (E := ⟨[(0, .ag [.any, .any, .om zj Rp.bool 2 [0] r.2.1, .om zi Rp.bool 3 [0] r.2.2]), (4, kI r.1)], []⟩) 27 [0] Tryz.func89 rfl rfl rfl ⟨rfl, trivial⟩ ⟨.inr ⟨rfl, rfl⟩, .inl rfl, trivial⟩ rfl (fun Xt old => ?_)
 refine zh ?_
 unfold zeJ at h
 refine jr (ral 1 [11] [.rc zd [0] m] rfl (zgW 12 [kS m.Name, .sl za [0] m.Fields] [0] rfl rfl rfl rfl rfl) rfl rf) ?_
 refine jr (rc 2 rfl (zbR (r := zj) [kI (-1), kS m.Name] [] (⟨(-1), m.Name⟩ : ze) rfl zBm rfl rfl) (rfl' [13])) ?_
 refine zn ?_
 obtain ⟨rv, h_rv, h⟩ := bnd h
 refine jr (rl 2 [1] 12 Tryz.call113 (zlT h_rv) rf) ?_
 rcases zg h with ⟨hc1, h⟩ | ⟨hc1, h⟩
 ·
  refine jT hc1 ?_
  refine jp ?_
  obtain rfl := sj h
  refine zkU ?_
  refine zaS ⟨[(0, .ag [kI c.size, .sl (Rp.int .i64) [0] c.kinds, .om zj Rp.bool 2 [0] c.names, .om zi Rp.bool 3 [0] c.numbers]), (4, kI 2)], []⟩ (by kernel_rfl) ?_
  refine zbL 0 (.ag [.any, .any, .om zj Rp.bool 2 [0] ((2, c.names, c.numbers) : (Int × (List (ze × Bool)) × (List (zf × Bool)))).2.1, .om zi Rp.bool 3 [0] ((2, c.names, c.numbers) : (Int × (List (ze × Bool)) × (List (zf × Bool)))).2.2]) rfl (zmK ⟨zeX _, zeX _, AV.le_refl _, AV.le_refl _, trivial⟩) ?_
  exact lzz
 refine jF hc1 ?_
 refine jr (lb 2 zj [] (⟨(-1), m.Name⟩ : ze) (ra 0 [.om zj Rp.bool 2 [0] c.names, .rc zj [] (⟨(-1), m.Name⟩ : ze)] rfl (zpT (rk := zj) (rv := Rp.bool) (m := c.names) (k := (⟨(-1), m.Name⟩ : ze)) (kB ((mget c.names (⟨(-1), m.Name⟩ : ze)).getD false)) rfl zrL (zjY _ _ _ _ _) (zdH rfl) (zmh rfl rfl rfl)) rfl rf)) ?_
 rcases zg h with ⟨hc2, h⟩ | ⟨hc2, h⟩
 ·
  refine jT hc2 ?_
  refine jp ?_
  obtain rfl := sj h
  refine zkU ?_
  refine zaS ⟨[(0, .ag [kI c.size, .sl (Rp.int .i64) [0] c.kinds, .om zj Rp.bool 2 [0] c.names, .om zi Rp.bool 3 [0] c.numbers]), (4, kI 3)], []⟩ (by kernel_rfl) ?_
  refine zbL 0 (.ag [.any, .any, .om zj Rp.bool 2 [0] ((3, c.names, c.numbers) : (Int × (List (ze × Bool)) × (List (zf × Bool)))).2.1, .om zi Rp.bool 3 [0] ((3, c.names, c.numbers) : (Int × (List (ze × Bool)) × (List (zf × Bool)))).2.2]) rfl (zmK ⟨zeX _, zeX _, AV.le_refl _, AV.le_refl _, trivial⟩) ?_
  exact lzz
 refine jF hc2 ?_
 refine jp ?_
 rcases zg h with ⟨hc3, h⟩ | ⟨hc3, h⟩
 ·
  refine jT hc3 ?_
  refine jp ?_
  obtain rfl := sj h
  refine zkU ?_
  refine zaS ⟨[(0, .ag [kI c.size, .sl (Rp.int .i64) [0] c.kinds, .om zj Rp.bool 2 [0] c.names, .om zi Rp.bool 3 [0] c.numbers]), (4, kI 4)], []⟩ (by kernel_rfl) ?_
  refine zbL 0 (.ag [.any, .any, .om zj Rp.bool 2 [0] ((4, c.names, c.numbers) : (Int × (List (ze × Bool)) × (List (zf × Bool)))).2.1, .om zi Rp.bool 3 [0] ((4, c.names, c.numbers) : (Int × (List (ze × Bool)) × (List (zf × Bool)))).2.2]) rfl (zmK ⟨zeX _, zeX _, AV.le_refl _, AV.le_refl _, trivial⟩) ?_
  exact lzz
 refine jF hc3 ?_
 refine zaf ?_
 refine jr (lb 2 zj [] (⟨(-1), m.Name⟩ : ze) (rkl 0 [] ⟨[(0, .ag [kI c.size, .sl (Rp.int .i64) [0] c.kinds, .om zj Rp.bool 2 [0] c.names, .om zi Rp.bool 3 [0] c.numbers]), (25, .om zj Rp.bool 2 [0] c.names), (26, .rc zj [] (⟨(-1), m.Name⟩ : ze))], []⟩ (zhu ⟨[(0, .ag [kI c.size, .sl (Rp.int .i64) [0] c.kinds, .om zj Rp.bool 2 [0] (mput c.names (⟨(-1), m.Name⟩ : ze) true), .om zi Rp.bool 3 [0] c.numbers]), (25, .om zj Rp.bool 2 [0] (mput c.names (⟨(-1), m.Name⟩ : ze) true)), (26, .rc zj [] (⟨(-1), m.Name⟩ : ze))], []⟩ (zqw (rk := zj) (rv := Rp.bool) (m := c.names) (ℓ := 2) (C := [0]) (C1 := []) (D := []) (⟨(-1), m.Name⟩ : ze) true [0] zrL (.inl rfl) (zdH rfl) (zfi rfl rfl) rfl) rfl (by kernel_rfl) (by kernel_rfl) ⟨⟨_, rfl, zwT ⟨zK rfl, zK rfl, zfX 0 rfl, zK rfl, trivial⟩⟩, ⟨_, rfl, zfX 0 rfl⟩, ⟨_, rfl, zK rfl⟩, trivial⟩ trivial rf))) ?_
 refine jp ?_
 obtain rfl := sj h
 refine zkU ?_
 refine zaS ⟨[(0, .ag [kI c.size, .sl (Rp.int .i64) [0] c.kinds, .om zj Rp.bool 2 [0] (mput c.names (⟨(-1), m.Name⟩ : ze) true), .om zi Rp.bool 3 [0] c.numbers]), (4, kI 0)], []⟩ (by kernel_rfl) ?_
 refine zbL 0 (.ag [.any, .any, .om zj Rp.bool 2 [0] ((0, (mput c.names (⟨(-1), m.Name⟩ : ze) true), c.numbers) : (Int × (List (ze × Bool)) × (List (zf × Bool)))).2.1, .om zi Rp.bool 3 [0] ((0, (mput c.names (⟨(-1), m.Name⟩ : ze) true), c.numbers) : (Int × (List (ze × Bool)) × (List (zf × Bool)))).2.2]) rfl (zmK ⟨zeX _, zeX _, AV.le_refl _, AV.le_refl _, trivial⟩) ?_
 exact lzz
theorem zsw {k : Int} {r : Bool} (h : zjw k = some r) : FnOk Tryz.prog 139 [kI k] [kB r] := by
 refine zo (E := ⟨[(2, kB r)], []⟩) 16 Tryz.func139 rfl rfl rfl ⟨rfl, trivial⟩ (fun Xt => ?_)
 refine zh ?_
 unfold zjw at h
 refine jp ?_
 obtain ⟨rv, h_rv, h⟩ := bnd h
 refine jr (rl 1 [1] 9 Tryz.call149 (zuT h_rv) rf) ?_
 refine zN ⟨[(2, kB ((rv.2 == 0) && (rv.1 != 2)))], []⟩ ?_ ?_
 ·
  refine (rsl 3 [] 12 (rv.2 == 0) (fun hc1 => ?_) (fun hc1 => ?_))
  · exact (rbl [] 2 (rv.1 != 2) ((rv.2 == 0) && (rv.1 != 2)) (by rw [hc1] <;> rfl))
  exact (rbl [] 2 false ((rv.2 == 0) && (rv.1 != 2)) (by rw [hc1] <;> rfl))
 obtain rfl := sj h
 exact zp lzz
theorem zrb {sv : Str} {substr : Str} {r : Int} (h : zhT sv substr = some r) : FnOk Tryz.prog 120 [kS sv, kS substr] [kI r] := by
 refine zo (E := ⟨[(4, kI r)], []⟩) 8 Tryz.func120 rfl rfl rfl ⟨rfl, trivial⟩ (fun Xt => ?_)
 refine zh ?_
 unfold zhT at h
 refine jp ?_
 obtain ⟨rv, h_rv, h⟩ := bnd h
 refine jr (rl 2 [1] 9 Tryz.call141 (zjv h_rv) rf) ?_
 obtain rfl := sj h
 exact zp lzz
theorem zei {v : (List Str)} {r : (List Str)} (h : zax v = some r) : FnOk Tryz.prog 121 [.fv 123 [.ep (Rp.list Rp.str) [0] v 0]] [.own Rp.str 9 2 [] r] := by
 refine zo (E := ⟨[(2, .own Rp.str 9 2 [] r)], []⟩) 5 Tryz.func121 rfl rfl rfl ⟨rfl, trivial⟩ (fun Xt => ?_)
 refine zh ?_
 unfold zax at h
 refine jp ?_
 obtain ⟨rv, h_rv, h⟩ := bnd h
 refine jr (rl 1 [0] 10 Tryz.call142 (zcW h_rv) rf) ?_
 obtain rfl := sj h
 refine zp ?_
 refine lk [2] [] 12 2 ?_
 exact lzz
theorem ziM {m : zc} {v : Str} {r : (Int × Bool)} (h : zcY m v = some r) : FnOk Tryz.prog 79 [.rc zd [0] m, .fv 80 [.ep Rp.str [0] v 0]] [kI r.1, kB r.2] := by
 refine zo (E := ⟨[(4, kI r.1), (5, kB r.2)], []⟩) 15 Tryz.func79 rfl rfl rfl ⟨rfl, rfl, trivial⟩ (fun Xt => ?_)
 refine zh ?_
 unfold zcY at h
 refine jr (ra 0 [.rc zd [0] m] rfl (zgW 11 [kS m.Name, .sl za [0] m.Fields] [0] rfl rfl rfl rfl rfl) rfl rf) ?_
 obtain ⟨rv, h_rv, h⟩ := bnd h
 refine jr (rl 3 [0] 10 Tryz.call95 (zej h_rv) rf) ?_
 refine jp ?_
 obtain rfl := sj h
 exact zp lzz
theorem zjO {s1 : (List Int)} {s2 : (List Int)} {r : Int} (h : zcS s1 s2 = some r) : FnOk Tryz.prog 42 [.sl (Rp.int .i64) [0] s1, .sl (Rp.int .i64) [0] s2] [kI r] := by
 refine zo (E := ⟨[(4, kI r)], []⟩) 36 Tryz.func42 rfl rfl rfl ⟨rfl, trivial⟩ (fun Xt => ?_)
 refine zh ?_
 unfold zcS at h
 refine jp ?_
 refine jp ?_
 refine zn ?_
 obtain ⟨q, h_q, h⟩ := bnd h
 refine zam (fun s : Int => zZ s1 s2 s) (fun s => ⟨[(0, .sl (Rp.int .i64) [0] s1), (1, .sl (Rp.int .i64) [0] s2), (9, .sl (Rp.int .i64) [0] s1), (10, kI (s1.length : Int)), (11, kI s)], []⟩) (fun o e a w => match o with | (.inl v_) => e = .exit 0 ∧ Sx ⟨⟨36, []⟩, Xt, false, #[]⟩ ⟨[(0, .sl (Rp.int .i64) [0] s1), (1, .sl (Rp.int .i64) [0] s2)], []⟩ a w | (.inr v_) => e = .ret ∧ Sx ⟨⟨36, []⟩, Xt, false, #[]⟩ ⟨[(4, kI v_)], []⟩ a w) ?_ h_q lzz ?_
 ·
  clear h
  intro v o h
  refine zh ?_
  replace h : zZ s1 s2 v = some o := h
  unfold zZ at h
  refine jp ?_
  rcases zg h with ⟨hc1, h⟩ | ⟨hc1, h⟩
  ·
   refine jT hc1 ?_
   refine zn ?_
   obtain ⟨x, h_x, h⟩ := bnd h
   refine jr (ra 1 [.sl (Rp.int .i64) [0] s1, kI v] rfl (zW rfl zel.el (zv _ _ _) h_x) rfl rf) ?_
   refine jp ?_
   rcases zg h with ⟨hc2, h⟩ | ⟨hc2, h⟩
   ·
    refine jT hc2 ?_
    refine jp ?_
    obtain rfl := sj h
    exact zaW lzz
   refine jF hc2 ?_
   obtain ⟨x2, h_x2, h⟩ := bnd h
   refine jr (ra 2 [.sl (Rp.int .i64) [0] s2, kI v] rfl (zW rfl zel.el (zv _ _ _) h_x2) rfl rf) ?_
   obtain ⟨rv, h_rv, h⟩ := bnd h
   refine jr (rl 2 [1] 10 Tryz.call66 (zov h_rv) rf) ?_
   refine jp ?_
   rcases zg h with ⟨hc3, h⟩ | ⟨hc3, h⟩
   ·
    refine jT hc3 ?_
    refine jp ?_
    obtain rfl := sj h
    exact zaW lzz
   refine jF hc3 ?_
   refine zaf ?_
   refine jp ?_
   obtain rfl := sj h
   exact zJ lzz
  refine jF hc1 ?_
  obtain rfl := sj h
  exact zai rfl lzz
 rcases q with u | u2
 ·
  refine zaJ _ rfl ?_
  refine jp ?_
  rcases zg h with ⟨hc4, h⟩ | ⟨hc4, h⟩
  ·
   refine jT hc4 ?_
   refine jp ?_
   obtain rfl := sj h
   exact zp lzz
  refine jF hc4 ?_
  refine jp ?_
  obtain rfl := sj h
  exact zp lzz
 obtain rfl := sj h
 exact zdi lzz
theorem zeK {v : (List (List Int))} {r : (List (List Int))} (h : zaG v = some r) : FnOk Tryz.prog 63 [.fv 65 [.ep (Rp.list (Rp.list (Rp.int .i64))) [0] v 0]] [.own (Rp.list (Rp.int .i64)) 30 2 [3, 0] r] := by
 refine zo (E := ⟨[(2, .own (Rp.list (Rp.int .i64)) 30 2 [3, 0] r)], []⟩) 5 Tryz.func63 rfl rfl rfl ⟨rfl, trivial⟩ (fun Xt => ?_)
 refine zh ?_
 unfold zaG at h
 refine jp ?_
 obtain ⟨rv, h_rv, h⟩ := bnd h
 refine jr (rl 1 [0] 11 Tryz.call82 (zdp h_rv) rf) ?_
 obtain rfl := sj h
 refine zp ?_
 refine lk [2] [] 13 2 ?_
 refine lk [2] [] 14 3 ?_
 exact lzz
theorem zmU {sv : (List zc)} {r : (Int × Int × Int)} (h : zfl sv = some r) : FnOk Tryz.prog 81 [.sl zd [0] sv] [kI r.1, kI r.2.1, kI r.2.2] := by
 refine zo (E := ⟨[(2, kI r.1), (3, kI r.2.1), (4, kI r.2.2)], []⟩) 80 Tryz.func81 rfl rfl rfl ⟨rfl, rfl, rfl, trivial⟩ (fun Xt => ?_)
 refine zh ?_
 unfold zfl at h
 refine jp ?_
 refine zN ⟨[(0, .sl zd [0] sv), (17, kB (((sv.length : Int) == 0) || (decide ((sv.length : Int) > 100))))], []⟩ ?_ ?_
 ·
  refine (rsl 4 [] 13 ((sv.length : Int) == 0) (fun hc1 => ?_) (fun hc1 => ?_))
  · exact (rbl [] 17 true (((sv.length : Int) == 0) || (decide ((sv.length : Int) > 100))) (by rw [hc1] <;> rfl))
  exact (rbl [] 17 (decide ((sv.length : Int) > 100)) (((sv.length : Int) == 0) || (decide ((sv.length : Int) > 100))) (by rw [hc1] <;> rfl))
 rcases zg h with ⟨hc2, h⟩ | ⟨hc2, h⟩
 ·
  refine jT hc2 ?_
  refine jp ?_
  obtain rfl := sj h
  exact zp lzz
 refine jF hc2 ?_
 refine jp ?_
 refine zn ?_
 obtain ⟨q3, h_q3, h⟩ := bnd h
 refine zam (fun s : Int => zaX sv s) (fun s => ⟨[(0, .sl zd [0] sv), (5, kI s)], []⟩) (fun o e a w => match o with | (.inl v_) => e = .exit 0 ∧ Sx ⟨⟨80, []⟩, Xt, false, #[]⟩ ⟨[], []⟩ a w | (.inr v_) => e = .ret ∧ Sx ⟨⟨80, []⟩, Xt, false, #[]⟩ ⟨[(2, kI v_.1), (3, kI v_.2.1), (4, kI v_.2.2)], []⟩ a w) ?_ h_q3 lzz ?_
 ·
  clear h
  intro i o h
  refine zh ?_
  replace h : zaX sv i = some o := h
  unfold zaX at h
  refine jp ?_
  rcases zg h with ⟨hc3, h⟩ | ⟨hc3, h⟩
  ·
   refine jT hc3 ?_
   refine zn ?_
   refine jp ?_
   refine jp ?_
   refine zn ?_
   obtain ⟨q, h_q, h⟩ := bnd h
   refine zam (fun s : (Bool × Int) => zbq i sv s.1 s.2) (fun s => ⟨[(0, .sl zd [0] sv), (5, kI i), (6, kB s.1), (7, kI s.2)], []⟩) (fun o e a w => e = .exit 2 ∧ Sx ⟨⟨80, []⟩, Xt, false, #[]⟩ ⟨[(0, .sl zd [0] sv), (5, kI i), (6, kB o)], []⟩ a w) ?_ h_q lzz ?_
   ·
    clear h
    intro s o h
    obtain ⟨twice, k⟩ := s
    refine zh ?_
    replace h : zbq i sv twice k = some o := h
    unfold zbq at h
    refine jp ?_
    rcases zg h with ⟨hc4, h⟩ | ⟨hc4, h⟩
    ·
     refine jT hc4 ?_
     refine zn ?_
     obtain ⟨g, h_g, h⟩ := bnd h
     refine zhU (R := fun e a w => e = .normal ∧ Sx ⟨⟨80, []⟩, Xt, false, #[]⟩ ⟨[(0, .sl zd [0] sv), (5, kI i), (6, kB g), (7, kI k)], []⟩ a w) ?_ (zko ?_)
     ·
      refine zh ?_
      rcases Bool.eq_false_or_eq_true twice with hc5 | hc5
      ·
       replace h_g := iteT h_g hc5
       obtain rfl := sj h_g
       refine jd [0, 5, 6, 7] [] zcB (by exact (lw_e (lx (zbv ⟨[(29, kB twice)], []⟩ (by kernel_rfl) hc5) l0))) ?_
       exact zJ lzz
      replace h_g := iteF h_g hc5
      obtain ⟨x, h_x, h_g⟩ := bnd h_g
      obtain ⟨x2, h_x2, h_g⟩ := bnd h_g
      obtain rfl := sj h_g
      refine jd [0, 5, 6, 7] [] zcB (by exact (lw_e (lx (zbv ⟨[(29, kB twice)], []⟩ (by kernel_rfl) hc5) (lw_e (lw_e (ly [.sl zd [0] sv, kI k] (zW rfl zhD.el (zv _ _ _) h_x) rfl (lw_e (lw_e (lw_e (lw_e (ly [.sl zd [0] sv, kI i] (zW rfl zhD.el (zv _ _ _) h_x2) rfl l0))))))))))) ?_
      exact zJ lzz
     refine zaf ?_
     refine jp ?_
     obtain rfl := sj h
     exact zJ lzz
    refine jF hc4 ?_
    obtain rfl := sj h
    exact zai rfl lzz
   refine zaJ _ rfl ?_
   obtain ⟨x3, h_x3, h⟩ := bnd h
   obtain ⟨rv, h_rv, h⟩ := bnd h
   refine jr (ra 2 [.sl zd [0] sv, kI i] rfl (zW rfl zhD.el (zv _ _ _) h_x3) rfl (rl 2 [1] 11 Tryz.call57 (zhb h_rv) rf)) ?_
   rcases zg h with ⟨hc6, h⟩ | ⟨hc6, h⟩
   ·
    refine jT hc6 ?_
    refine jp ?_
    obtain rfl := sj h
    exact zaW lzz
   refine jF hc6 ?_
   refine jp ?_
   rcases zg h with ⟨hc7, h⟩ | ⟨hc7, h⟩
   ·
    refine jT hc7 ?_
    refine jp ?_
    obtain rfl := sj h
    exact zaW lzz
   refine jF hc7 ?_
   obtain ⟨x4, h_x4, h⟩ := bnd h
   refine jr (ra 2 [.sl zd [0] sv, kI i] rfl (zW rfl zhD.el (zv _ _ _) h_x4) rfl (ra 1 [.ep zd [0] x4 1] rfl (zaK za x4.Fields rfl rfl rfl) rfl rf)) ?_
   rcases zg h with ⟨hc8, h⟩ | ⟨hc8, h⟩
   ·
    refine jT hc8 ?_
    refine jp ?_
    obtain rfl := sj h
    exact zaW lzz
   refine jF hc8 ?_
   refine jp ?_
   refine zn ?_
   obtain ⟨q2, h_q2, h⟩ := bnd h
   refine zam (fun s : Int => zaY i sv s) (fun s => ⟨[(0, .sl zd [0] sv), (5, kI i), (8, kI s)], []⟩) (fun o e a w => match o with | (.inl v_) => e = .exit 4 ∧ Sx ⟨⟨80, []⟩, Xt, false, #[]⟩ ⟨[(0, .sl zd [0] sv), (5, kI i)], []⟩ a w | (.inr v_) => e = .ret ∧ Sx ⟨⟨80, []⟩, Xt, false, #[]⟩ ⟨[(2, kI i), (3, kI v_.1), (4, kI v_.2)], []⟩ a w) ?_ h_q2 lzz ?_
   ·
    clear h
    intro k2 o h
    refine zh ?_
    replace h : zaY i sv k2 = some o := h
    unfold zaY at h
    obtain ⟨x5, h_x5, h⟩ := bnd h
    refine jr (ra 3 [.sl zd [0] sv, kI i] rfl (zW rfl zhD.el (zv _ _ _) h_x5) rfl (ra 1 [.ep zd [0] x5 1] rfl (zaK za x5.Fields rfl rfl rfl) rfl rf)) ?_
    rcases zg h with ⟨hc9, h⟩ | ⟨hc9, h⟩
    ·
     refine jT hc9 ?_
     refine zn ?_
     obtain ⟨rv2, h_rv2, h⟩ := bnd h
     refine jr (rl 3 [0] 12 Tryz.call96 (zmV h_rv2) rf) ?_
     refine jp ?_
     rcases zg h with ⟨hc10, h⟩ | ⟨hc10, h⟩
     ·
      refine jT hc10 ?_
      refine jp ?_
      obtain rfl := sj h
      exact zaW lzz
     refine jF hc10 ?_
     refine zaf ?_
     refine jp ?_
     obtain rfl := sj h
     exact zJ lzz
    refine jF hc9 ?_
    obtain rfl := sj h
    exact zai rfl lzz
   rcases q2 with u | u2
   ·
    refine zaJ _ rfl ?_
    refine zaf ?_
    refine jp ?_
    obtain rfl := sj h
    exact zJ lzz
   obtain rfl := sj h
   exact zyA lzz
  refine jF hc3 ?_
  obtain rfl := sj h
  exact zai rfl lzz
 rcases q3 with u3 | u4
 ·
  refine zaJ _ rfl ?_
  refine jp ?_
  obtain rfl := sj h
  exact zp lzz
 obtain rfl := sj h
 exact zdi lzz
theorem zeq {ways : (List (List Int))} {r : (List (List Int))} (h : zcL ways = some r) : FnOk Tryz.prog 18 [.sl (Rp.list (Rp.int .i64)) [0] ways] [.own (Rp.list (Rp.int .i64)) 30 2 [3, 0] r] := by
 refine zo (E := ⟨[(2, .own (Rp.list (Rp.int .i64)) 30 2 [3, 0] r)], []⟩) 104 Tryz.func18 rfl rfl rfl ⟨rfl, trivial⟩ (fun Xt => ?_)
 refine zh ?_
 unfold zcL at h
 refine jp ?_
 refine jp ?_
 refine jp ?_
 refine zn ?_
 obtain ⟨q3, h_q3, h⟩ := bnd h
 refine zam (fun s : ((List (List Int)) × Int) => zbS ways s.1 s.2) (fun s => ⟨[(0, .sl (Rp.list (Rp.int .i64)) [0] ways), (3, .own (Rp.list (Rp.int .i64)) 30 18 [15, 0] s.1), (4, kI s.2)], []⟩) (fun o e a w => e = .exit 0 ∧ Sx ⟨⟨104, []⟩, Xt, false, #[]⟩ ⟨[(3, .own (Rp.list (Rp.int .i64)) 30 18 [15, 0] o)], []⟩ a w) ?_ h_q3 ?_ ?_
 ·
  clear h
  intro s o h
  obtain ⟨out, i⟩ := s
  refine zh ?_
  replace h : zbS ways out i = some o := h
  unfold zbS at h
  refine jp ?_
  rcases zg h with ⟨hc1, h⟩ | ⟨hc1, h⟩
  ·
   refine jT hc1 ?_
   refine zn ?_
   obtain ⟨x, h_x, h⟩ := bnd h
   refine jr (ra 2 [.sl (Rp.list (Rp.int .i64)) [0] ways, kI i] rfl (zW rfl zaF.el (zv _ _ _) h_x) rfl (ra 0 [.ep (Rp.list (Rp.int .i64)) [0] x 0] rfl (zaK (Rp.int .i64) x rfl rfl rfl) rfl rf)) ?_
   refine jp ?_
   refine zn ?_
   obtain ⟨q, h_q, h⟩ := bnd h
   refine zam (fun s : (Bool × Int) => zbD i ways s.1 s.2) (fun s => ⟨[(0, .sl (Rp.list (Rp.int .i64)) [0] ways), (3, .own (Rp.list (Rp.int .i64)) 30 18 [15, 0] out), (4, kI i), (5, kB s.1), (6, kI s.2)], []⟩) (fun o e a w => e = .exit 2 ∧ Sx ⟨⟨104, []⟩, Xt, false, #[]⟩ ⟨[(0, .sl (Rp.list (Rp.int .i64)) [0] ways), (3, .own (Rp.list (Rp.int .i64)) 30 18 [15, 0] out), (4, kI i), (5, kB o)], []⟩ a w) ?_ h_q lzz ?_
   ·
    clear h
    intro s o h
    obtain ⟨ok, k⟩ := s
    refine zh ?_
    replace h : zbD i ways ok k = some o := h
    unfold zbD at h
    refine jp ?_
    rcases zg h with ⟨hc2, h⟩ | ⟨hc2, h⟩
    ·
     refine jT hc2 ?_
     refine zn ?_
     obtain ⟨g, h_g, h⟩ := bnd h
     refine zhU (R := fun e a w => e = .normal ∧ Sx ⟨⟨104, []⟩, Xt, false, #[]⟩ ⟨[(0, .sl (Rp.list (Rp.int .i64)) [0] ways), (3, .own (Rp.list (Rp.int .i64)) 30 18 [15, 0] out), (4, kI i), (5, kB ok), (6, kI k), (66, kB g)], []⟩ a w) ?_ (zko ?_)
     ·
      refine zh ?_
      rcases Bool.eq_false_or_eq_true (k != i) with hc3 | hc3
      ·
       replace h_g := iteT h_g hc3
       obtain ⟨x2, h_x2, h_g⟩ := bnd h_g
       rcases Bool.eq_false_or_eq_true (decide ((x2.length : Int) > 0)) with hc4 | hc4
       ·
        replace h_g := iteT h_g hc4
        obtain ⟨x3, h_x3, h_g⟩ := bnd h_g
        obtain ⟨x4, h_x4, h_g⟩ := bnd h_g
        obtain ⟨rv, h_rv, h_g⟩ := bnd h_g
        rcases Bool.eq_false_or_eq_true rv with hc5 | hc5
        ·
         replace h_g := iteT h_g hc5
         obtain ⟨x5, h_x5, h_g⟩ := bnd h_g
         obtain ⟨x6, h_x6, h_g⟩ := bnd h_g
         rcases Bool.eq_false_or_eq_true (decide ((x5.length : Int) < (x6.length : Int))) with hc6 | hc6
         ·
          replace h_g := iteT h_g hc6
          obtain rfl := sj h_g
          refine jd [0, 3, 4, 5, 6, 66] [] zcB (by exact (lw_e (lw_e (lw_e (lx (zbv ⟨[(29, kB (k != i))], []⟩ (by kernel_rfl) hc3) (lw_e (lw_e (ly [.sl (Rp.list (Rp.int .i64)) [0] ways, kI k] (zW rfl zaF.el (zv _ _ _) h_x2) rfl (ly [.ep (Rp.list (Rp.int .i64)) [0] x2 0] (zaK (Rp.int .i64) x2 rfl rfl rfl) rfl (lw_e (lw_e (lw_e (lx (zbv ⟨[(37, kB (decide ((x2.length : Int) > 0)))], []⟩ (by kernel_rfl) hc4) (lw_e (lw_e (ly [.sl (Rp.list (Rp.int .i64)) [0] ways, kI i] (zW rfl zaF.el (zv _ _ _) h_x3) rfl (ly [.ep (Rp.list (Rp.int .i64)) [0] x3 0] (zaK (Rp.int .i64) x3 rfl rfl rfl) rfl (lw_e (lw_e (ly [.sl (Rp.list (Rp.int .i64)) [0] ways, kI k] (zW rfl zaF.el (zv _ _ _) h_x4) rfl (ly [.ep (Rp.list (Rp.int .i64)) [0] x4 0] (zaK (Rp.int .i64) x4 rfl rfl rfl) rfl (lx (lf1 36 (zac [.sl (Rp.int .i64) [0] x3, .sl (Rp.int .i64) [0] x4] [0] 23 rfl Tryz.call36 (zeV h_rv) rfl rfl rfl rfl rfl)) (lw_e (lx (zbv ⟨[(48, kB rv)], []⟩ (by kernel_rfl) hc5) (lw_e (lw_e (ly [.sl (Rp.list (Rp.int .i64)) [0] ways, kI k] (zW rfl zaF.el (zv _ _ _) h_x5) rfl (ly [.ep (Rp.list (Rp.int .i64)) [0] x5 0] (zaK (Rp.int .i64) x5 rfl rfl rfl) rfl (lw_e (lw_e (lw_e (ly [.sl (Rp.list (Rp.int .i64)) [0] ways, kI i] (zW rfl zaF.el (zv _ _ _) h_x6) rfl (ly [.ep (Rp.list (Rp.int .i64)) [0] x6 0] (zaK (Rp.int .i64) x6 rfl rfl rfl) rfl (lw_e (lw_e (lx (zbv ⟨[(60, kB (decide ((x5.length : Int) < (x6.length : Int))))], []⟩ (by kernel_rfl) hc6) l0)))))))))))))))))))))))))))))))))))) ?_
          exact zJ lzz
         replace h_g := iteF h_g hc6
         obtain rfl := sj h_g
         refine jd [0, 3, 4, 5, 6, 66] [] zcB (by exact (lw_e (lw_e (lw_e (lx (zbv ⟨[(29, kB (k != i))], []⟩ (by kernel_rfl) hc3) (lw_e (lw_e (ly [.sl (Rp.list (Rp.int .i64)) [0] ways, kI k] (zW rfl zaF.el (zv _ _ _) h_x2) rfl (ly [.ep (Rp.list (Rp.int .i64)) [0] x2 0] (zaK (Rp.int .i64) x2 rfl rfl rfl) rfl (lw_e (lw_e (lw_e (lx (zbv ⟨[(37, kB (decide ((x2.length : Int) > 0)))], []⟩ (by kernel_rfl) hc4) (lw_e (lw_e (ly [.sl (Rp.list (Rp.int .i64)) [0] ways, kI i] (zW rfl zaF.el (zv _ _ _) h_x3) rfl (ly [.ep (Rp.list (Rp.int .i64)) [0] x3 0] (zaK (Rp.int .i64) x3 rfl rfl rfl) rfl (lw_e (lw_e (ly [.sl (Rp.list (Rp.int .i64)) [0] ways, kI k] (zW rfl zaF.el (zv _ _ _) h_x4) rfl (ly [.ep (Rp.list (Rp.int .i64)) [0] x4 0] (zaK (Rp.int .i64) x4 rfl rfl rfl) rfl (lx (lf1 36 (zac [.sl (Rp.int .i64) [0] x3, .sl (Rp.int .i64) [0] x4] [0] 23 rfl Tryz.call36 (zeV h_rv) rfl rfl rfl rfl rfl)) (lw_e (lx (zbv ⟨[(48, kB rv)], []⟩ (by kernel_rfl) hc5) (lw_e (lw_e (ly [.sl (Rp.list (Rp.int .i64)) [0] ways, kI k] (zW rfl zaF.el (zv _ _ _) h_x5) rfl (ly [.ep (Rp.list (Rp.int .i64)) [0] x5 0] (zaK (Rp.int .i64) x5 rfl rfl rfl) rfl (lw_e (lw_e (lw_e (ly [.sl (Rp.list (Rp.int .i64)) [0] ways, kI i] (zW rfl zaF.el (zv _ _ _) h_x6) rfl (ly [.ep (Rp.list (Rp.int .i64)) [0] x6 0] (zaK (Rp.int .i64) x6 rfl rfl rfl) rfl (lw_e (lw_e (lx (zbv ⟨[(60, kB (decide ((x5.length : Int) < (x6.length : Int))))], []⟩ (by kernel_rfl) hc6) l0)))))))))))))))))))))))))))))))))))) ?_
         exact zJ lzz
        replace h_g := iteF h_g hc5
        obtain rfl := sj h_g
        refine jd [0, 3, 4, 5, 6, 66] [] zcB (by exact (lw_e (lw_e (lw_e (lx (zbv ⟨[(29, kB (k != i))], []⟩ (by kernel_rfl) hc3) (lw_e (lw_e (ly [.sl (Rp.list (Rp.int .i64)) [0] ways, kI k] (zW rfl zaF.el (zv _ _ _) h_x2) rfl (ly [.ep (Rp.list (Rp.int .i64)) [0] x2 0] (zaK (Rp.int .i64) x2 rfl rfl rfl) rfl (lw_e (lw_e (lw_e (lx (zbv ⟨[(37, kB (decide ((x2.length : Int) > 0)))], []⟩ (by kernel_rfl) hc4) (lw_e (lw_e (ly [.sl (Rp.list (Rp.int .i64)) [0] ways, kI i] (zW rfl zaF.el (zv _ _ _) h_x3) rfl (ly [.ep (Rp.list (Rp.int .i64)) [0] x3 0] (zaK (Rp.int .i64) x3 rfl rfl rfl) rfl (lw_e (lw_e (ly [.sl (Rp.list (Rp.int .i64)) [0] ways, kI k] (zW rfl zaF.el (zv _ _ _) h_x4) rfl (ly [.ep (Rp.list (Rp.int .i64)) [0] x4 0] (zaK (Rp.int .i64) x4 rfl rfl rfl) rfl (lx (lf1 36 (zac [.sl (Rp.int .i64) [0] x3, .sl (Rp.int .i64) [0] x4] [0] 23 rfl Tryz.call36 (zeV h_rv) rfl rfl rfl rfl rfl)) (lw_e (lx (zbv ⟨[(48, kB rv)], []⟩ (by kernel_rfl) hc5) l0)))))))))))))))))))))))) ?_
        exact zJ lzz
       replace h_g := iteF h_g hc4
       obtain rfl := sj h_g
       refine jd [0, 3, 4, 5, 6, 66] [] zcB (by exact (lw_e (lw_e (lw_e (lx (zbv ⟨[(29, kB (k != i))], []⟩ (by kernel_rfl) hc3) (lw_e (lw_e (ly [.sl (Rp.list (Rp.int .i64)) [0] ways, kI k] (zW rfl zaF.el (zv _ _ _) h_x2) rfl (ly [.ep (Rp.list (Rp.int .i64)) [0] x2 0] (zaK (Rp.int .i64) x2 rfl rfl rfl) rfl (lw_e (lw_e (lw_e (lx (zbv ⟨[(37, kB (decide ((x2.length : Int) > 0)))], []⟩ (by kernel_rfl) hc4) l0))))))))))))) ?_
       exact zJ lzz
      replace h_g := iteF h_g hc3
      obtain rfl := sj h_g
      refine jd [0, 3, 4, 5, 6, 66] [] zcB (by exact (lw_e (lw_e (lw_e (lx (zbv ⟨[(29, kB (k != i))], []⟩ (by kernel_rfl) hc3) l0))))) ?_
      exact zJ lzz
     rcases zg h with ⟨hc7, h⟩ | ⟨hc7, h⟩
     ·
      refine jT hc7 ?_
      refine jp ?_
      refine zaf ?_
      refine jp ?_
      obtain rfl := sj h
      exact zJ lzz
     refine jF hc7 ?_
     refine zaf ?_
     refine jp ?_
     obtain rfl := sj h
     exact zJ lzz
    refine jF hc2 ?_
    obtain rfl := sj h
    exact zai rfl lzz
   refine zaJ _ rfl ?_
   refine jp ?_
   rcases zg h with ⟨hc8, h⟩ | ⟨hc8, h⟩
   ·
    refine jT hc8 ?_
    refine zyw _ rfl ?_
    refine jp ?_
    obtain rfl := sj h
    exact zJ lzz
   refine jF hc8 ?_
   refine jp ?_
   refine zn ?_
   obtain ⟨q2, h_q2, h⟩ := bnd h
   refine zam (fun s : Int => zbE i out ways s) (fun s => ⟨[(0, .sl (Rp.list (Rp.int .i64)) [0] ways), (3, .own (Rp.list (Rp.int .i64)) 30 18 [15, 0] out), (4, kI i), (7, kI s)], []⟩) (fun o e a w => e = .exit 4 ∧ Sx ⟨⟨104, []⟩, Xt, false, #[]⟩ ⟨[(0, .sl (Rp.list (Rp.int .i64)) [0] ways), (3, .own (Rp.list (Rp.int .i64)) 30 18 [15, 0] out), (4, kI i), (7, kI o)], []⟩ a w) ?_ h_q2 lzz ?_
   ·
    clear h
    intro k2 o h
    refine zh ?_
    replace h : zbE i out ways k2 = some o := h
    unfold zbE at h
    obtain ⟨g2, h_g2, h⟩ := bnd h
    refine zhU (R := fun e a w => e = .normal ∧ Sx ⟨⟨104, []⟩, Xt, false, #[]⟩ ⟨[(0, .sl (Rp.list (Rp.int .i64)) [0] ways), (3, .own (Rp.list (Rp.int .i64)) 30 18 [15, 0] out), (4, kI i), (7, kI k2), (83, kB g2)], []⟩ a w) ?_ (zko ?_)
    ·
     refine zh ?_
     rcases Bool.eq_false_or_eq_true (decide (k2 < (out.length : Int))) with hc9 | hc9
     ·
      replace h_g2 := iteT h_g2 hc9
      obtain ⟨x7, h_x7, h_g2⟩ := bnd h_g2
      obtain ⟨x8, h_x8, h_g2⟩ := bnd h_g2
      obtain ⟨rv2, h_rv2, h_g2⟩ := bnd h_g2
      obtain rfl := sj h_g2
      refine jd [0, 3, 4, 7, 83] [] zcB (by exact (lw_e (lw_e (lw_e (lw_e (lx (zbv ⟨[(72, kB (decide (k2 < (out.length : Int))))], []⟩ (by kernel_rfl) hc9) (lw_e (lw_e (ly [.own (Rp.list (Rp.int .i64)) 30 18 [15, 0] out, kI k2] (zW rfl zaF.el (zbF _ _ _ _ _) h_x7) rfl (ly [.ep (Rp.list (Rp.int .i64)) [18, 15, 0] x7 0] (zaK (Rp.int .i64) x7 rfl rfl rfl) rfl (lw_e (lw_e (ly [.sl (Rp.list (Rp.int .i64)) [0] ways, kI i] (zW rfl zaF.el (zv _ _ _) h_x8) rfl (ly [.ep (Rp.list (Rp.int .i64)) [0] x8 0] (zaK (Rp.int .i64) x8 rfl rfl rfl) rfl (lx (lf1 37 (zac [.sl (Rp.int .i64) [18, 15, 0] x7, .sl (Rp.int .i64) [0] x8] [18, 15, 0] 24 rfl Tryz.call37 (zns h_rv2) rfl rfl rfl rfl rfl)) l0))))))))))))))) ?_
      exact zJ lzz
     replace h_g2 := iteF h_g2 hc9
     obtain rfl := sj h_g2
     refine jd [0, 3, 4, 7, 83] [] zcB (by exact (lw_e (lw_e (lw_e (lw_e (lx (zbv ⟨[(72, kB (decide (k2 < (out.length : Int))))], []⟩ (by kernel_rfl) hc9) l0)))))) ?_
     exact zJ lzz
    rcases zg h with ⟨hc10, h⟩ | ⟨hc10, h⟩
    ·
     refine jT hc10 ?_
     refine zn ?_
     refine jp ?_
     refine zaf ?_
     obtain rfl := sj h
     exact zJ lzz
    refine jF hc10 ?_
    obtain rfl := sj h
    exact zai rfl lzz
   refine zaJ _ rfl ?_
   obtain ⟨v3, h_v3, h⟩ := bnd h
   obtain ⟨v4, h_v4, h⟩ := bnd h
   refine jr (rc 0 rfl (zdO [] 26 [] ([] : (List (List Int))) rfl zaF rfl rfl rfl rfl) (ra 2 [.own (Rp.list (Rp.int .i64)) 30 18 [15, 0] out, kI q2] rfl (zoX none (some (kI q2)) rfl zaF.el (zbF _ _ _ _ _) ⟨rfl, rfl⟩ ⟨rfl, rfl⟩ h_v3) rfl (ra 0 [.own (Rp.list (Rp.int .i64)) 30 26 [] ([] : (List (List Int))), .sl (Rp.list (Rp.int .i64)) [18, 15, 0] v3] rfl (zes 26 [18, 15, 0] rfl zaF.el rfl (zbA _ _ _ _ _) (zv _ _ _) h_v4 (.inr rfl) rfl) rfl rf))) ?_
   obtain ⟨x9, h_x9, h⟩ := bnd h
   obtain ⟨v5, h_v5, h⟩ := bnd h
   refine jr (ra 3 [.sl (Rp.list (Rp.int .i64)) [0] ways, kI i] rfl (zW rfl zaF.el (zv _ _ _) h_x9) rfl (ra 0 [.ep (Rp.list (Rp.int .i64)) [0] x9 0] rfl (zaK (Rp.int .i64) x9 rfl rfl rfl) rfl (rc 0 rfl (zdO [.sl (Rp.int .i64) [0] x9] 27 [0] ([x9] : (List (List Int))) rfl zaF rfl rfl rfl rfl) (ra 0 [.own (Rp.list (Rp.int .i64)) 30 26 [18, 15, 0] v4, .own (Rp.list (Rp.int .i64)) 30 27 [0] ([x9] : (List (List Int)))] rfl (zes 26 [18, 15, 0, 27] rfl zaF.el rfl (zbA _ _ _ _ _) (zbF _ _ _ _ _) h_v5 (.inr rfl) rfl) rfl rf)))) ?_
   obtain ⟨v6, h_v6, h⟩ := bnd h
   obtain ⟨v7, h_v7, h⟩ := bnd h
   refine jr (ra 3 [.own (Rp.list (Rp.int .i64)) 30 18 [15, 0] out, kI q2] rfl (zoX (some (kI q2)) none rfl zaF.el (zbF _ _ _ _ _) ⟨rfl, rfl⟩ ⟨rfl, rfl⟩ h_v6) rfl (ra 0 [.own (Rp.list (Rp.int .i64)) 30 26 [18, 15, 0, 27] v5, .sl (Rp.list (Rp.int .i64)) [18, 15, 0] v6] rfl (zes 26 [18, 15, 0, 27] rfl zaF.el rfl (zbA _ _ _ _ _) (zv _ _ _) h_v7 (.inr rfl) rfl) rfl rf)) ?_
   refine zaf ?_
   refine jp ?_
   obtain rfl := sj h
   refine zJ ?_
   refine lk [0, 3, 4] [] 18 15 ?_
   refine lk [0, 3, 4] [] 26 18 ?_
   refine lk [0, 3, 4] [] 27 15 ?_
   refine zaS ⟨[(0, .sl (Rp.list (Rp.int .i64)) [0] ways), (3, .own (Rp.list (Rp.int .i64)) 30 18 [15, 15, 0, 15] v7), (4, kI (IntKind.i64.wrap (i + 1)))], []⟩ (by kernel_rfl) ?_
   refine zbL 3 (.own (Rp.list (Rp.int .i64)) 30 18 [15, 0] v7) rfl (zgb _ _ _ _ _ _ rfl rfl) ?_
   exact lzz
  refine jF hc1 ?_
  obtain rfl := sj h
  exact zai rfl lzz
 ·
  refine zaS ⟨[(0, .sl (Rp.list (Rp.int .i64)) [0] ways), (3, kN), (4, kI 0)], []⟩ (by kernel_rfl) ?_
  refine zbL 3 (.own (Rp.list (Rp.int .i64)) 30 18 [15, 0] []) rfl (zY (Rp.list (Rp.int .i64)) 30 18 [15, 0] rfl) ?_
  exact lzz
 refine zaJ _ rfl ?_
 refine jp ?_
 obtain rfl := sj h
 refine zp ?_
 refine lk [2] [] 18 2 ?_
 refine lk [2] [] 15 3 ?_
 exact lzz
theorem zib {m : zc} {v : Int} {r : (Int × Bool)} (h : zcE m v = some r) : FnOk Tryz.prog 79 [.rc zd [0] m, .fv 86 [.ep (Rp.int .i64) [0] v 0]] [kI r.1, kB r.2] := by
 refine zo (E := ⟨[(4, kI r.1), (5, kB r.2)], []⟩) 15 Tryz.func79 rfl rfl rfl ⟨rfl, rfl, trivial⟩ (fun Xt => ?_)
 refine zh ?_
 unfold zcE at h
 refine jr (ra 0 [.rc zd [0] m] rfl (zgW 11 [kS m.Name, .sl za [0] m.Fields] [0] rfl rfl rfl rfl rfl) rfl rf) ?_
 obtain ⟨rv, h_rv, h⟩ := bnd h
 refine jr (rl 3 [0] 10 Tryz.call95 (zdW h_rv) rf) ?_
 refine jp ?_
 obtain rfl := sj h
 exact zp lzz
theorem zeL {sv : (List (List Int))} {v : Int} {r : Bool} (h : zaH sv v = some r) : FnOk Tryz.prog 45 [.sl (Rp.list (Rp.int .i64)) [0] sv, .fv 46 [.ep (Rp.int .i64) [0] v 0]] [kB r] := by
 refine zo (E := ⟨[(4, kB r)], []⟩) 9 Tryz.func45 rfl rfl rfl ⟨rfl, trivial⟩ (fun Xt => ?_)
 refine zh ?_
 unfold zaH at h
 refine jp ?_
 obtain ⟨rv, h_rv, h⟩ := bnd h
 refine jr (rl 2 [0] 9 Tryz.call67 (zeU h_rv) rf) ?_
 obtain rfl := sj h
 exact zp lzz
theorem ztz {other : (List Int)} {v : (List Int)} {r : Bool} (h : zkq other v = some r) : FnOk Tryz.prog 47 [.sl (Rp.int .i64) [0] other, .ep (Rp.list (Rp.int .i64)) [0] v 0] [kB r] := by
 refine zo (E := ⟨[(3, kB r)], []⟩) 7 Tryz.func47 rfl rfl rfl ⟨rfl, trivial⟩ (fun Xt => ?_)
 refine zh ?_
 unfold zkq at h
 refine jp ?_
 obtain ⟨rv, h_rv, h⟩ := bnd h
 refine jr (ra 0 [.ep (Rp.list (Rp.int .i64)) [0] v 0] rfl (zaK (Rp.int .i64) v rfl rfl rfl) rfl (rl 1 [0] 9 Tryz.call48 (zpX h_rv) rf)) ?_
 obtain rfl := sj h
 exact zp lzz
theorem zhF {ways : (List (List Int))} {way : (List Int)} {r : Bool} (h : zem ways way = some r) : FnOk Tryz.prog 25 [.sl (Rp.list (Rp.int .i64)) [0] ways, .sl (Rp.int .i64) [0] way] [kB r] := by
 refine zo (E := ⟨[(4, kB r)], []⟩) 26 Tryz.func25 rfl rfl rfl ⟨rfl, trivial⟩ (fun Xt => ?_)
 refine zh ?_
 unfold zem at h
 refine jp ?_
 refine jp ?_
 refine zn ?_
 obtain ⟨q, h_q, h⟩ := bnd h
 refine zam (fun s : Int => zbu way ways s) (fun s => ⟨[(0, .sl (Rp.list (Rp.int .i64)) [0] ways), (1, .sl (Rp.int .i64) [0] way), (5, kI s)], []⟩) (fun o e a w => match o with | (.inl v_) => e = .exit 0 ∧ Sx ⟨⟨26, []⟩, Xt, false, #[]⟩ ⟨[], []⟩ a w | (.inr v_) => e = .ret ∧ Sx ⟨⟨26, []⟩, Xt, false, #[]⟩ ⟨[(4, kB true)], []⟩ a w) ?_ h_q lzz ?_
 ·
  clear h
  intro i o h
  refine zh ?_
  replace h : zbu way ways i = some o := h
  unfold zbu at h
  refine jp ?_
  rcases zg h with ⟨hc1, h⟩ | ⟨hc1, h⟩
  ·
   refine jT hc1 ?_
   refine zn ?_
   obtain ⟨g, h_g, h⟩ := bnd h
   refine zN ⟨[(0, .sl (Rp.list (Rp.int .i64)) [0] ways), (1, .sl (Rp.int .i64) [0] way), (5, kI i), (25, kB g)], []⟩ ?_ ?_
   ·
    obtain ⟨x, h_x, h_g⟩ := bnd h_g
    refine (ra 2 [.sl (Rp.list (Rp.int .i64)) [0] ways, kI i] rfl (zW rfl zaF.el (zv _ _ _) h_x) rfl (ra 0 [.ep (Rp.list (Rp.int .i64)) [0] x 0] rfl (zaK (Rp.int .i64) x rfl rfl rfl) rfl (rsl 3 [] 18 (decide ((x.length : Int) > 0)) (fun hc2 => ?_) (fun hc2 => ?_))))
    ·
     replace h_g := iteT h_g hc2
     obtain ⟨x2, h_x2, h_g⟩ := bnd h_g
     obtain ⟨rv, h_rv, h_g⟩ := bnd h_g
     obtain rfl := sj h_g
     exact (ra 3 [.sl (Rp.list (Rp.int .i64)) [0] ways, kI i] rfl (zW rfl zaF.el (zv _ _ _) h_x2) rfl (ra 0 [.ep (Rp.list (Rp.int .i64)) [0] x2 0] rfl (zaK (Rp.int .i64) x2 rfl rfl rfl) rfl (rl 0 [0] 10 Tryz.call36 (zeV h_rv) rgg)))
    replace h_g := iteF h_g hc2
    obtain rfl := sj h_g
    exact rgg
   rcases zg h with ⟨hc3, h⟩ | ⟨hc3, h⟩
   ·
    refine jT hc3 ?_
    refine jp ?_
    obtain rfl := sj h
    exact zaW lzz
   refine jF hc3 ?_
   refine zaf ?_
   refine jp ?_
   obtain rfl := sj h
   exact zJ lzz
  refine jF hc1 ?_
  obtain rfl := sj h
  exact zai rfl lzz
 rcases q with u | u2
 ·
  refine zaJ _ rfl ?_
  refine jp ?_
  obtain rfl := sj h
  exact zp lzz
 obtain rfl := sj h
 exact zdi lzz
theorem zfy {sv : (List (List Int))} {v : (List (zI × Int))} {r : Int} (h : zay sv v = some r) : FnOk Tryz.prog 67 [.sl (Rp.list (Rp.int .i64)) [0] sv, .fv 72 [.em zae (Rp.int .i64) [0] v]] [kI r] := by
 refine zo (E := ⟨[(4, kI r)], []⟩) 19 Tryz.func67 rfl rfl rfl ⟨rfl, trivial⟩ (fun Xt => ?_)
 refine zh ?_
 unfold zay at h
 refine jp ?_
 refine jp ?_
 refine zn ?_
 obtain ⟨q, h_q, h⟩ := bnd h
 refine zam (fun s : Int => zx sv v s) (fun s => ⟨[(0, .sl (Rp.list (Rp.int .i64)) [0] sv), (1, .fv 72 [.em zae (Rp.int .i64) [0] v]), (7, kI (sv.length : Int)), (8, kI s)], []⟩) (fun o e a w => match o with | (.inl v_) => e = .exit 0 ∧ Sx ⟨⟨19, []⟩, Xt, false, #[]⟩ ⟨[], []⟩ a w | (.inr v_) => e = .ret ∧ Sx ⟨⟨19, []⟩, Xt, false, #[]⟩ ⟨[(4, kI v_)], []⟩ a w) ?_ h_q lzz ?_
 ·
  clear h
  intro v2 o h
  refine zh ?_
  replace h : zx sv v v2 = some o := h
  unfold zx at h
  refine jp ?_
  rcases zg h with ⟨hc1, h⟩ | ⟨hc1, h⟩
  ·
   refine jT hc1 ?_
   refine zn ?_
   refine jp ?_
   obtain ⟨x, h_x, h⟩ := bnd h
   obtain ⟨rv, h_rv, h⟩ := bnd h
   refine jr (ra 3 [.sl (Rp.list (Rp.int .i64)) [0] sv, kI v2] rfl (zW rfl zaF.el (zv _ _ _) h_x) rfl (ra 0 [.ep (Rp.list (Rp.int .i64)) [0] x 0] rfl (zaK (Rp.int .i64) x rfl rfl rfl) rfl (ra 0 [.fv 72 [.em zae (Rp.int .i64) [0] v], .sl (Rp.int .i64) [0] x] rfl (zjx (args := [.tmp 15]) [.sl (Rp.int .i64) [0] x] [0] 10 rfl (zof _ _) Tryz.call72 (zkX h_rv) rfl rfl rfl rfl rfl) rfl rf))) ?_
   rcases zg h with ⟨hc2, h⟩ | ⟨hc2, h⟩
   ·
    refine jT hc2 ?_
    refine jp ?_
    obtain rfl := sj h
    exact zaW lzz
   refine jF hc2 ?_
   refine zaf ?_
   refine jp ?_
   obtain rfl := sj h
   exact zJ lzz
  refine jF hc1 ?_
  obtain rfl := sj h
  exact zai rfl lzz
 rcases q with u | u2
 ·
  refine zaJ _ rfl ?_
  refine jp ?_
  obtain rfl := sj h
  exact zp lzz
 obtain rfl := sj h
 exact zdi lzz
end Go.Proofs.YtglkepeofhonlaaGreatDoor
