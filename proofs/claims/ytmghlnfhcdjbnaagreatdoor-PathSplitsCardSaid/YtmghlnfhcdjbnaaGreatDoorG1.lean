/-
  The Go functions do what the plain functions say. No condition.
-/
import Derived.Test.YtmghlnfhcdjbnaaGreatDoorT
import Derived.Test.YtmghlnfhcdjbnaaGreatDoorY
namespace Go.Proofs.YtmghlnfhcdjbnaaGreatDoor
open Go Go.RowKit
set_option linter.unusedVariables false
set_option maxRecDepth 100000
set_option maxHeartbeats 3200000
theorem zcs {sv : Str} {r : (Int × Int)} (h : zau sv = some r) : FnOk Tryz.prog 43 [kS sv] [.lf (.int .i32 r.1), kI r.2] := by
 refine zr (E := ⟨[(2, .lf (.int .i32 r.1)), (3, kI r.2)], []⟩) 117 Tryz.func43 rfl rfl rfl ⟨rfl, rfl, trivial⟩ (fun Xt => ?_)
 refine zj ?_
 unfold zau at h
 refine jp ?_
 refine jp ?_
 refine jp ?_
 rcases zm h with ⟨hc1, h⟩ | ⟨hc1, h⟩
 ·
  refine jT hc1 ?_
  refine jp ?_
  obtain rfl := sj h
  exact zA lzz
 refine jF hc1 ?_
 obtain ⟨c, h_c, h⟩ := bnd h
 refine jr (ra 1 [kS sv, kI 0] rfl (zcL rfl Tryz.underlying9 h_c) rfl rf) ?_
 exact absurd h nofun
theorem zcU {sv : Str} {c : Int} {r : Int} (h : zao sv c = some r) : FnOk Tryz.prog 53 [kS sv, k8 c] [kI r] := by
 refine zr (E := ⟨[(4, kI r)], []⟩) 8 Tryz.func53 rfl rfl rfl ⟨rfl, trivial⟩ (fun Xt => ?_)
 refine zj ?_
 unfold zao at h
 refine jp ?_
 refine jr (ra 2 [kS sv, k8 c] rfl (zpt rfl Tryz.func76 (by kernel_rfl) (by kernel_rfl) (by kernel_rfl) (by kernel_rfl)) rfl rf) ?_
 obtain rfl := sj h
 exact zA lzz
theorem zcB (v : (List Str)) : ItOk Tryz.prog 38 [.ep (Rp.list Rp.str) [0] v 0] (fun x : Str => [kS x]) (fun {σ : Type} (kf : Rnd σ Str) (sg : σ) => zI v kf sg) := by
 refine zkI 16 [(1, .ep (Rp.list Rp.str) [0] v 0)] [] Tryz.func38 rfl rfl rfl rfl (.ep (Rp.list Rp.str) [0] v (.nil _)) ?_
 intro σ kf sg s1 h l I hI F_ hT
 replace h : zI v kf sg = some s1 := h
 refine zj ?_
 refine zfp (E' := ⟨[(0, .lf (.val (.func (.yield l) #[] #[]))), (1, .ep (Rp.list Rp.str) [0] v 0)], []⟩) (fun _ _ _ hs => hs) ?_
 unfold zI at h
 refine jr (ra 0 [.ep (Rp.list Rp.str) [0] v 0] rfl (zqd Rp.str v rfl rfl rfl) rfl rf) ?_
 refine zx ?_
 obtain ⟨q, h_q, h⟩ := bnd h
 refine zig (fun s : (Int × σ) => zo kf v s.1 s.2) (fun s => ⟨⟨16, []⟩, itX I hI F_ s.2, false, #[]⟩) (fun s => ⟨[(0, .lf (.val (.func (.yield l) #[] #[]))), (5, .sl Rp.str [0] v), (6, kI (v.length : Int)), (7, kI s.1)], []⟩) (fun o e a w => match o with | (.inl v_) => e = .exit 0 ∧ Sx ⟨⟨16, []⟩, itX I hI F_ v_, false, #[]⟩ ⟨[], []⟩ a w | (.inr v_) => e = .ret ∧ Sx ⟨⟨16, []⟩, itX I hI F_ v_, false, #[]⟩ ⟨[], []⟩ a w) ?_ h_q rfl lzz ?_
 ·
  clear h
  intro s o h
  obtain ⟨v2, sg2⟩ := s
  refine zj ?_
  replace h : zo kf v v2 sg2 = some o := h
  unfold zo at h
  refine jp ?_
  rcases zm h with ⟨hc1, h⟩ | ⟨hc1, h⟩
  ·
   refine jT hc1 ?_
   refine zx ?_
   obtain ⟨x, h_x, h⟩ := bnd h
   refine jr (ra 0 [.sl Rp.str [0] v, kI v2] rfl (zfU rfl zef.el (zdG _ _ _) h_x) rfl rf) ?_
   obtain ⟨y, h_y, h⟩ := bnd h
   refine zgF (E' := ⟨[(0, .lf (.val (.func (.yield l) #[] #[]))), (5, .sl Rp.str [0] v), (6, kI (v.length : Int)), (7, kI v2), (14, kB (!y.1))], []⟩) (x := x) (b := y.1) (s' := y.2) 2 (some 13) [.tmp 12] [kS x] [kS x] ⟨[(0, .lf (.val (.func (.yield l) #[] #[]))), (5, .sl Rp.str [0] v), (6, kI (v.length : Int)), (7, kI v2), (11, .lf (.val (.func (.yield l) #[] #[]))), (12, kS x)], []⟩ hT rfl rfl rfl rfl rfl rgg rfl ⟨rfl, trivial⟩ rfl ⟨AV.le_refl _, trivial⟩ rfl rfl h_y rgg ?_
   rcases zm h with ⟨hc2, h⟩ | ⟨hc2, h⟩
   ·
    refine jT hc2 ?_
    obtain rfl := sj h
    exact zcu lzz
   refine jF hc2 ?_
   refine zaU ?_
   refine jp ?_
   obtain rfl := sj h
   exact zat lzz
  refine jF hc1 ?_
  obtain rfl := sj h
  exact zbv rfl lzz
 rcases q with u | u2
 ·
  refine zcf _ rfl ?_
  obtain rfl := sj h
  exact znO lzz
 obtain rfl := sj h
 exact zlI lzz
theorem zda {x : (List Str)} {r : (List Str)} (h : zbg x = some r) : zfQ Tryz.prog 37 [.own Rp.str 9 2 [0] x] [] [.own Rp.str 9 2 [] r] := zoG ls37 9 h
abbrev znX := (mput ([] : (List (Int × zf))) 1 (⟨[105, 110, 116, 51, 50], 0⟩ : zf))
abbrev znY := (mput znX 2 (⟨[105, 110, 116, 54, 52], 0⟩ : zf))
abbrev znZ := (mput znY 3 (⟨[117, 105, 110, 116, 51, 50], 0⟩ : zf))
abbrev zoa := (mput znZ 4 (⟨[117, 105, 110, 116, 54, 52], 0⟩ : zf))
abbrev zob := (mput zoa 5 (⟨[115, 105, 110, 116, 51, 50], 0⟩ : zf))
abbrev zoc := (mput zob 6 (⟨[115, 105, 110, 116, 54, 52], 0⟩ : zf))
abbrev zod := (mput zoc 7 (⟨[98, 111, 111, 108], 0⟩ : zf))
abbrev zoe := (mput zod 8 (⟨[101, 110, 117, 109], 0⟩ : zf))
abbrev zof := (mput zoe 9 (⟨[102, 105, 120, 101, 100, 51, 50], 5⟩ : zf))
abbrev zlK := (mput zof 10 (⟨[115, 102, 105, 120, 101, 100, 51, 50], 5⟩ : zf))
abbrev zlL := (mput zlK 11 (⟨[102, 108, 111, 97, 116], 5⟩ : zf))
abbrev zlM := (mput zlL 12 (⟨[102, 105, 120, 101, 100, 54, 52], 1⟩ : zf))
abbrev zlN := (mput zlM 13 (⟨[115, 102, 105, 120, 101, 100, 54, 52], 1⟩ : zf))
abbrev zlO := (mput zlN 14 (⟨[100, 111, 117, 98, 108, 101], 1⟩ : zf))
abbrev zjT := (mput zlO 15 (⟨[115, 116, 114, 105, 110, 103], 2⟩ : zf))
theorem zfS  {r : (List (Int × zf))} (h : zdO = some r) : FnOk Tryz.prog 70 [] [.om (Rp.int .i64) zg 2 [] r] := by
 refine zr (E := ⟨[(0, .om (Rp.int .i64) zg 2 [] r)], []⟩) 20 Tryz.func70 rfl rfl rfl ⟨rfl, trivial⟩ (fun Xt => ?_)
 refine zj ?_
 unfold zdO at h
 refine jp ?_
 refine jr (rc 0 rfl (zil (rk := (Rp.int .i64)) (rv := zg) 12 rfl) (rc 0 rfl (zak (r := zg) [kS [105, 110, 116, 51, 50], kI 0] [] (⟨[105, 110, 116, 51, 50], 0⟩ : zf) rfl zcr rfl rfl) (rkl 0 [] ⟨[(1, .om (Rp.int .i64) zg 12 [] ([] : (List (Int × zf)))), (2, .rc zg [] (⟨[105, 110, 116, 51, 50], 0⟩ : zf))], []⟩ (zbG (rk := (Rp.int .i64)) (rv := zg) (m := ([] : (List (Int × zf)))) (C := []) (C1 := []) (D := []) [1] 1 (⟨[105, 110, 116, 51, 50], 0⟩ : zf) [] zbw rfl (.inr rfl) rfl rfl rfl rfl (zbH rfl rfl) (zbo rfl) (by kernel_rfl) rfl (rc 0 rfl (zak (r := zg) [kS [105, 110, 116, 54, 52], kI 0] [] (⟨[105, 110, 116, 54, 52], 0⟩ : zf) rfl zcr rfl rfl) (rkl 0 [] ⟨[(1, .om (Rp.int .i64) zg 12 [] znX), (3, .rc zg [] (⟨[105, 110, 116, 54, 52], 0⟩ : zf))], []⟩ (zbG (rk := (Rp.int .i64)) (rv := zg) (m := znX) (C := []) (C1 := []) (D := []) [1] 2 (⟨[105, 110, 116, 54, 52], 0⟩ : zf) [] zbw rfl (.inr rfl) rfl rfl rfl rfl (zbH rfl rfl) (zbo rfl) (by kernel_rfl) rfl (rc 0 rfl (zak (r := zg) [kS [117, 105, 110, 116, 51, 50], kI 0] [] (⟨[117, 105, 110, 116, 51, 50], 0⟩ : zf) rfl zcr rfl rfl) (rkl 0 [] ⟨[(1, .om (Rp.int .i64) zg 12 [] znY), (4, .rc zg [] (⟨[117, 105, 110, 116, 51, 50], 0⟩ : zf))], []⟩ (zbG (rk := (Rp.int .i64)) (rv := zg) (m := znY) (C := []) (C1 := []) (D := []) [1] 3 (⟨[117, 105, 110, 116, 51, 50], 0⟩ : zf) [] zbw rfl (.inr rfl) rfl rfl rfl rfl (zbH rfl rfl) (zbo rfl) (by kernel_rfl) rfl (rc 0 rfl (zak (r := zg) [kS [117, 105, 110, 116, 54, 52], kI 0] [] (⟨[117, 105, 110, 116, 54, 52], 0⟩ : zf) rfl zcr rfl rfl) (rkl 0 [] ⟨[(1, .om (Rp.int .i64) zg 12 [] znZ), (5, .rc zg [] (⟨[117, 105, 110, 116, 54, 52], 0⟩ : zf))], []⟩ (zbG (rk := (Rp.int .i64)) (rv := zg) (m := znZ) (C := []) (C1 := []) (D := []) [1] 4 (⟨[117, 105, 110, 116, 54, 52], 0⟩ : zf) [] zbw rfl (.inr rfl) rfl rfl rfl rfl (zbH rfl rfl) (zbo rfl) (by kernel_rfl) rfl (rc 0 rfl (zak (r := zg) [kS [115, 105, 110, 116, 51, 50], kI 0] [] (⟨[115, 105, 110, 116, 51, 50], 0⟩ : zf) rfl zcr rfl rfl) (rkl 0 [] ⟨[(1, .om (Rp.int .i64) zg 12 [] zoa), (6, .rc zg [] (⟨[115, 105, 110, 116, 51, 50], 0⟩ : zf))], []⟩ (zbG (rk := (Rp.int .i64)) (rv := zg) (m := zoa) (C := []) (C1 := []) (D := []) [1] 5 (⟨[115, 105, 110, 116, 51, 50], 0⟩ : zf) [] zbw rfl (.inr rfl) rfl rfl rfl rfl (zbH rfl rfl) (zbo rfl) (by kernel_rfl) rfl (rc 0 rfl (zak (r := zg) [kS [115, 105, 110, 116, 54, 52], kI 0] [] (⟨[115, 105, 110, 116, 54, 52], 0⟩ : zf) rfl zcr rfl rfl) (rkl 0 [] ⟨[(1, .om (Rp.int .i64) zg 12 [] zob), (7, .rc zg [] (⟨[115, 105, 110, 116, 54, 52], 0⟩ : zf))], []⟩ (zbG (rk := (Rp.int .i64)) (rv := zg) (m := zob) (C := []) (C1 := []) (D := []) [1] 6 (⟨[115, 105, 110, 116, 54, 52], 0⟩ : zf) [] zbw rfl (.inr rfl) rfl rfl rfl rfl (zbH rfl rfl) (zbo rfl) (by kernel_rfl) rfl (rc 0 rfl (zak (r := zg) [kS [98, 111, 111, 108], kI 0] [] (⟨[98, 111, 111, 108], 0⟩ : zf) rfl zcr rfl rfl) (rkl 0 [] ⟨[(1, .om (Rp.int .i64) zg 12 [] zoc), (8, .rc zg [] (⟨[98, 111, 111, 108], 0⟩ : zf))], []⟩ (zbG (rk := (Rp.int .i64)) (rv := zg) (m := zoc) (C := []) (C1 := []) (D := []) [1] 7 (⟨[98, 111, 111, 108], 0⟩ : zf) [] zbw rfl (.inr rfl) rfl rfl rfl rfl (zbH rfl rfl) (zbo rfl) (by kernel_rfl) rfl (rc 0 rfl (zak (r := zg) [kS [101, 110, 117, 109], kI 0] [] (⟨[101, 110, 117, 109], 0⟩ : zf) rfl zcr rfl rfl) (rkl 0 [] ⟨[(1, .om (Rp.int .i64) zg 12 [] zod), (9, .rc zg [] (⟨[101, 110, 117, 109], 0⟩ : zf))], []⟩ (zbG (rk := (Rp.int .i64)) (rv := zg) (m := zod) (C := []) (C1 := []) (D := []) [1] 8 (⟨[101, 110, 117, 109], 0⟩ : zf) [] zbw rfl (.inr rfl) rfl rfl rfl rfl (zbH rfl rfl) (zbo rfl) (by kernel_rfl) rfl (rc 0 rfl (zak (r := zg) [kS [102, 105, 120, 101, 100, 51, 50], kI 5] [] (⟨[102, 105, 120, 101, 100, 51, 50], 5⟩ : zf) rfl zcr rfl rfl) (rkl 0 [] ⟨[(1, .om (Rp.int .i64) zg 12 [] zoe), (10, .rc zg [] (⟨[102, 105, 120, 101, 100, 51, 50], 5⟩ : zf))], []⟩ (zbG (rk := (Rp.int .i64)) (rv := zg) (m := zoe) (C := []) (C1 := []) (D := []) [1] 9 (⟨[102, 105, 120, 101, 100, 51, 50], 5⟩ : zf) [] zbw rfl (.inr rfl) rfl rfl rfl rfl (zbH rfl rfl) (zbo rfl) (by kernel_rfl) rfl (rc 0 rfl (zak (r := zg) [kS [115, 102, 105, 120, 101, 100, 51, 50], kI 5] [] (⟨[115, 102, 105, 120, 101, 100, 51, 50], 5⟩ : zf) rfl zcr rfl rfl) (rkl 0 [] ⟨[(1, .om (Rp.int .i64) zg 12 [] zof), (11, .rc zg [] (⟨[115, 102, 105, 120, 101, 100, 51, 50], 5⟩ : zf))], []⟩ (zbG (rk := (Rp.int .i64)) (rv := zg) (m := zof) (C := []) (C1 := []) (D := []) [1] 10 (⟨[115, 102, 105, 120, 101, 100, 51, 50], 5⟩ : zf) [] zbw rfl (.inr rfl) rfl rfl rfl rfl (zbH rfl rfl) (zbo rfl) (by kernel_rfl) rfl (rc 0 rfl (zak (r := zg) [kS [102, 108, 111, 97, 116], kI 5] [] (⟨[102, 108, 111, 97, 116], 5⟩ : zf) rfl zcr rfl rfl) (rkl 0 [] ⟨[(1, .om (Rp.int .i64) zg 12 [] zlK), (12, .rc zg [] (⟨[102, 108, 111, 97, 116], 5⟩ : zf))], []⟩ (zbG (rk := (Rp.int .i64)) (rv := zg) (m := zlK) (C := []) (C1 := []) (D := []) [1] 11 (⟨[102, 108, 111, 97, 116], 5⟩ : zf) [] zbw rfl (.inr rfl) rfl rfl rfl rfl (zbH rfl rfl) (zbo rfl) (by kernel_rfl) rfl (rc 0 rfl (zak (r := zg) [kS [102, 105, 120, 101, 100, 54, 52], kI 1] [] (⟨[102, 105, 120, 101, 100, 54, 52], 1⟩ : zf) rfl zcr rfl rfl) (rkl 0 [] ⟨[(1, .om (Rp.int .i64) zg 12 [] zlL), (13, .rc zg [] (⟨[102, 105, 120, 101, 100, 54, 52], 1⟩ : zf))], []⟩ (zbG (rk := (Rp.int .i64)) (rv := zg) (m := zlL) (C := []) (C1 := []) (D := []) [1] 12 (⟨[102, 105, 120, 101, 100, 54, 52], 1⟩ : zf) [] zbw rfl (.inr rfl) rfl rfl rfl rfl (zbH rfl rfl) (zbo rfl) (by kernel_rfl) rfl (rc 0 rfl (zak (r := zg) [kS [115, 102, 105, 120, 101, 100, 54, 52], kI 1] [] (⟨[115, 102, 105, 120, 101, 100, 54, 52], 1⟩ : zf) rfl zcr rfl rfl) (rkl 0 [] ⟨[(1, .om (Rp.int .i64) zg 12 [] zlM), (14, .rc zg [] (⟨[115, 102, 105, 120, 101, 100, 54, 52], 1⟩ : zf))], []⟩ (zbG (rk := (Rp.int .i64)) (rv := zg) (m := zlM) (C := []) (C1 := []) (D := []) [1] 13 (⟨[115, 102, 105, 120, 101, 100, 54, 52], 1⟩ : zf) [] zbw rfl (.inr rfl) rfl rfl rfl rfl (zbH rfl rfl) (zbo rfl) (by kernel_rfl) rfl (rc 0 rfl (zak (r := zg) [kS [100, 111, 117, 98, 108, 101], kI 1] [] (⟨[100, 111, 117, 98, 108, 101], 1⟩ : zf) rfl zcr rfl rfl) (rkl 0 [] ⟨[(1, .om (Rp.int .i64) zg 12 [] zlN), (15, .rc zg [] (⟨[100, 111, 117, 98, 108, 101], 1⟩ : zf))], []⟩ (zbG (rk := (Rp.int .i64)) (rv := zg) (m := zlN) (C := []) (C1 := []) (D := []) [1] 14 (⟨[100, 111, 117, 98, 108, 101], 1⟩ : zf) [] zbw rfl (.inr rfl) rfl rfl rfl rfl (zbH rfl rfl) (zbo rfl) (by kernel_rfl) rfl (rc 0 rfl (zak (r := zg) [kS [115, 116, 114, 105, 110, 103], kI 2] [] (⟨[115, 116, 114, 105, 110, 103], 2⟩ : zf) rfl zcr rfl rfl) (rkl 0 [] ⟨[(1, .om (Rp.int .i64) zg 12 [] zlO), (16, .rc zg [] (⟨[115, 116, 114, 105, 110, 103], 2⟩ : zf))], []⟩ (zbG (rk := (Rp.int .i64)) (rv := zg) (m := zlO) (C := []) (C1 := []) (D := []) [1] 15 (⟨[115, 116, 114, 105, 110, 103], 2⟩ : zf) [] zbw rfl (.inr rfl) rfl rfl rfl rfl (zbH rfl rfl) (zbo rfl) (by kernel_rfl) rfl (rc 0 rfl (zak (r := zg) [kS [98, 121, 116, 101, 115], kI 2] [] (⟨[98, 121, 116, 101, 115], 2⟩ : zf) rfl zcr rfl rfl) (rkl 0 [] ⟨[(1, .om (Rp.int .i64) zg 12 [] zjT), (17, .rc zg [] (⟨[98, 121, 116, 101, 115], 2⟩ : zf))], []⟩ (zbG (rk := (Rp.int .i64)) (rv := zg) (m := zjT) (C := []) (C1 := []) (D := []) [1] 16 (⟨[98, 121, 116, 101, 115], 2⟩ : zf) [] zbw rfl (.inr rfl) rfl rfl rfl rfl (zbH rfl rfl) (zbo rfl) (by kernel_rfl) rfl (rc 0 rfl (zak (r := zg) [kS [109, 101, 115, 115, 97, 103, 101], kI 2] [] (⟨[109, 101, 115, 115, 97, 103, 101], 2⟩ : zf) rfl zcr rfl rfl) (rkl 0 [] ⟨[(1, .om (Rp.int .i64) zg 12 [] (mput zjT 16 (⟨[98, 121, 116, 101, 115], 2⟩ : zf))), (18, .rc zg [] (⟨[109, 101, 115, 115, 97, 103, 101], 2⟩ : zf))], []⟩ (zbG (rk := (Rp.int .i64)) (rv := zg) (m := (mput zjT 16 (⟨[98, 121, 116, 101, 115], 2⟩ : zf))) (C := []) (C1 := []) (D := []) [1] 17 (⟨[109, 101, 115, 115, 97, 103, 101], 2⟩ : zf) [] zbw rfl (.inr rfl) rfl rfl rfl rfl (zbH rfl rfl) (zbo rfl) (by kernel_rfl) rfl rf)))))))))))))))))))))))))))))))))))))))))))))))))))) ?_
 obtain rfl := sj h
 refine zA ?_
 refine lk [0] [] 12 2 ?_
 exact lzz
theorem zed {c : Int} {r : Bool} (h : zbS c = some r) : FnOk Tryz.prog 87 [k8 c] [kB r] := by
 refine zr (E := ⟨[(2, kB r)], []⟩) 9 Tryz.func87 rfl rfl rfl ⟨rfl, trivial⟩ (fun Xt => ?_)
 refine zj ?_
 unfold zbS at h
 refine jp ?_
 refine zL ⟨[(2, kB ((decide (c ≥ 48)) && (decide (c ≤ 57))))], []⟩ ?_ ?_
 ·
  refine (rsl 3 [] 5 (decide (c ≥ 48)) (fun hc1 => ?_) (fun hc1 => ?_))
  · exact (rbl [] 2 (decide (c ≤ 57)) ((decide (c ≥ 48)) && (decide (c ≤ 57))) (by rw [hc1] <;> rfl))
  exact (rbl [] 2 false ((decide (c ≥ 48)) && (decide (c ≤ 57))) (by rw [hc1] <;> rfl))
 obtain rfl := sj h
 exact zA lzz
theorem zgr {c : Int} {r : Bool} (h : zca c = some r) : FnOk Tryz.prog 88 [k8 c] [kB r] := by
 refine zr (E := ⟨[(2, kB r)], []⟩) 21 Tryz.func88 rfl rfl rfl ⟨rfl, trivial⟩ (fun Xt => ?_)
 refine zj ?_
 unfold zca at h
 refine jp ?_
 refine zL ⟨[(2, kB (if (decide (c ≥ 97)) then ((decide (c ≤ 122)) || (if (decide (c ≥ 65)) then ((decide (c ≤ 90)) || (c == 95)) else (c == 95))) else (if (decide (c ≥ 65)) then ((decide (c ≤ 90)) || (c == 95)) else (c == 95))))], []⟩ ?_ ?_
 ·
  refine (rsl 3 [] 5 (decide (c ≥ 97)) (fun hc1 => ?_) (fun hc1 => ?_))
  ·
   refine (rsl 4 [] 9 (decide (c ≤ 122)) (fun hc2 => ?_) (fun hc2 => ?_))
   · exact (rbl [] 2 true (if (decide (c ≥ 97)) then ((decide (c ≤ 122)) || (if (decide (c ≥ 65)) then ((decide (c ≤ 90)) || (c == 95)) else (c == 95))) else (if (decide (c ≥ 65)) then ((decide (c ≤ 90)) || (c == 95)) else (c == 95))) (by rw [hc1, hc2] <;> rfl))
   refine (rsl 3 [] 12 (decide (c ≥ 65)) (fun hc3 => ?_) (fun hc3 => ?_))
   ·
    refine (rsl 5 [] 17 (decide (c ≤ 90)) (fun hc4 => ?_) (fun hc4 => ?_))
    · exact (rbl [] 2 true (if (decide (c ≥ 97)) then ((decide (c ≤ 122)) || (if (decide (c ≥ 65)) then ((decide (c ≤ 90)) || (c == 95)) else (c == 95))) else (if (decide (c ≥ 65)) then ((decide (c ≤ 90)) || (c == 95)) else (c == 95))) (by rw [hc1, hc2, hc3, hc4] <;> rfl))
    exact (rbl [] 2 (c == 95) (if (decide (c ≥ 97)) then ((decide (c ≤ 122)) || (if (decide (c ≥ 65)) then ((decide (c ≤ 90)) || (c == 95)) else (c == 95))) else (if (decide (c ≥ 65)) then ((decide (c ≤ 90)) || (c == 95)) else (c == 95))) (by rw [hc1, hc2, hc3, hc4] <;> rfl))
   exact (rbl [] 2 (c == 95) (if (decide (c ≥ 97)) then ((decide (c ≤ 122)) || (if (decide (c ≥ 65)) then ((decide (c ≤ 90)) || (c == 95)) else (c == 95))) else (if (decide (c ≥ 65)) then ((decide (c ≤ 90)) || (c == 95)) else (c == 95))) (by rw [hc1, hc2, hc3] <;> rfl))
  refine (rsl 7 [] 12 (decide (c ≥ 65)) (fun hc5 => ?_) (fun hc5 => ?_))
  ·
   refine (rsl 5 [] 17 (decide (c ≤ 90)) (fun hc6 => ?_) (fun hc6 => ?_))
   · exact (rbl [] 2 true (if (decide (c ≥ 97)) then ((decide (c ≤ 122)) || (if (decide (c ≥ 65)) then ((decide (c ≤ 90)) || (c == 95)) else (c == 95))) else (if (decide (c ≥ 65)) then ((decide (c ≤ 90)) || (c == 95)) else (c == 95))) (by rw [hc1, hc5, hc6] <;> rfl))
   exact (rbl [] 2 (c == 95) (if (decide (c ≥ 97)) then ((decide (c ≤ 122)) || (if (decide (c ≥ 65)) then ((decide (c ≤ 90)) || (c == 95)) else (c == 95))) else (if (decide (c ≥ 65)) then ((decide (c ≤ 90)) || (c == 95)) else (c == 95))) (by rw [hc1, hc5, hc6] <;> rfl))
  exact (rbl [] 2 (c == 95) (if (decide (c ≥ 97)) then ((decide (c ≤ 122)) || (if (decide (c ≥ 65)) then ((decide (c ≤ 90)) || (c == 95)) else (c == 95))) else (if (decide (c ≥ 65)) then ((decide (c ≤ 90)) || (c == 95)) else (c == 95))) (by rw [hc1, hc5] <;> rfl))
 obtain rfl := sj h
 exact zA lzz
theorem zgs {n : Int} {r : Bool} (h : zcb n = some r) : FnOk Tryz.prog 72 [kI n] [kB r] := by
 refine zr (E := ⟨[(2, kB r)], []⟩) 17 Tryz.func72 rfl rfl rfl ⟨rfl, trivial⟩ (fun Xt => ?_)
 refine zj ?_
 unfold zcb at h
 refine jp ?_
 refine zL ⟨[(2, kB ((decide (n ≥ 1)) && ((decide (n ≤ 536870911)) && ((decide (n < 19000)) || (decide (n > 19999))))))], []⟩ ?_ ?_
 ·
  refine (rsl 3 [] 5 (decide (n ≥ 1)) (fun hc1 => ?_) (fun hc1 => ?_))
  ·
   refine (rsl 4 [] 9 (decide (n ≤ 536870911)) (fun hc2 => ?_) (fun hc2 => ?_))
   ·
    refine (rsl 3 [] 12 (decide (n < 19000)) (fun hc3 => ?_) (fun hc3 => ?_))
    · exact (rbl [] 2 true ((decide (n ≥ 1)) && ((decide (n ≤ 536870911)) && ((decide (n < 19000)) || (decide (n > 19999))))) (by rw [hc1, hc2, hc3] <;> rfl))
    exact (rbl [] 2 (decide (n > 19999)) ((decide (n ≥ 1)) && ((decide (n ≤ 536870911)) && ((decide (n < 19000)) || (decide (n > 19999))))) (by rw [hc1, hc2, hc3] <;> rfl))
   exact (rbl [] 2 false ((decide (n ≥ 1)) && ((decide (n ≤ 536870911)) && ((decide (n < 19000)) || (decide (n > 19999))))) (by rw [hc1, hc2] <;> rfl))
  exact (rbl [] 2 false ((decide (n ≥ 1)) && ((decide (n ≤ 536870911)) && ((decide (n < 19000)) || (decide (n > 19999))))) (by rw [hc1] <;> rfl))
 obtain rfl := sj h
 exact zA lzz
theorem zdX {sv : (List Int)} {v : Int} {r : Int} (h : zaA sv v = some r) : FnOk Tryz.prog 89 [.sl (Rp.int .i64) [0] sv, kI v] [kI r] := by
 refine zr (E := ⟨[(4, kI r)], []⟩) 19 Tryz.func89 rfl rfl rfl ⟨rfl, trivial⟩ (fun Xt => ?_)
 refine zj ?_
 unfold zaA at h
 refine jp ?_
 refine jp ?_
 refine zx ?_
 obtain ⟨q, h_q, h⟩ := bnd h
 refine zbN (fun s : Int => zv sv v s) (fun s => ⟨[(0, .sl (Rp.int .i64) [0] sv), (1, kI v), (7, kI (sv.length : Int)), (8, kI s)], []⟩) (fun o e a w => match o with | (.inl v_) => e = .exit 0 ∧ Sx ⟨⟨19, []⟩, Xt, false, #[]⟩ ⟨[], []⟩ a w | (.inr v_) => e = .ret ∧ Sx ⟨⟨19, []⟩, Xt, false, #[]⟩ ⟨[(4, kI v_)], []⟩ a w) ?_ h_q lzz ?_
 ·
  clear h
  intro v2 o h
  refine zj ?_
  replace h : zv sv v v2 = some o := h
  unfold zv at h
  refine jp ?_
  rcases zm h with ⟨hc1, h⟩ | ⟨hc1, h⟩
  ·
   refine jT hc1 ?_
   refine zx ?_
   refine jp ?_
   obtain ⟨x, h_x, h⟩ := bnd h
   refine jr (ra 3 [.sl (Rp.int .i64) [0] sv, kI v2] rfl (zfU rfl zqD.el (zdG _ _ _) h_x) rfl rf) ?_
   rcases zm h with ⟨hc2, h⟩ | ⟨hc2, h⟩
   ·
    refine jT hc2 ?_
    refine jp ?_
    obtain rfl := sj h
    exact zcu lzz
   refine jF hc2 ?_
   refine zaU ?_
   refine jp ?_
   obtain rfl := sj h
   exact zat lzz
  refine jF hc1 ?_
  obtain rfl := sj h
  exact zbv rfl lzz
 rcases q with u | u2
 ·
  refine zcf _ rfl ?_
  refine jp ?_
  obtain rfl := sj h
  exact zA lzz
 obtain rfl := sj h
 exact zeH lzz
theorem zfa {c : zO} {f : zn} {r : Bool} (h : zbu c f = some r) : FnOk Tryz.prog 75 [.ag [kI c.size, .sl (Rp.int .i64) [0] c.kinds, .mp zd Rp.bool [0] c.names, .mp zc Rp.bool [0] c.numbers], .rc ze [0] f] [kB r] := by
 refine zr (E := ⟨[(4, kB r)], []⟩) 21 Tryz.func75 rfl rfl rfl ⟨rfl, trivial⟩ (fun Xt => ?_)
 refine zj ?_
 unfold zbu at h
 refine jq [11, 12] ?_
 refine jp ?_
 rcases zm h with ⟨hc1, h⟩ | ⟨hc1, h⟩
 ·
  refine jT hc1 ?_
  refine zL ⟨[(4, kB ((decide (f.Of ≥ 0)) && (decide (f.Of < c.size))))], []⟩ ?_ ?_
  ·
   refine (rsl 4 [] 11 (decide (f.Of ≥ 0)) (fun hc2 => ?_) (fun hc2 => ?_))
   · exact (rbl [] 4 (decide (f.Of < c.size)) ((decide (f.Of ≥ 0)) && (decide (f.Of < c.size))) (by rw [hc2] <;> rfl))
   exact (rbl [] 4 false ((decide (f.Of ≥ 0)) && (decide (f.Of < c.size))) (by rw [hc2] <;> rfl))
  obtain rfl := sj h
  exact zA lzz
 refine jF hc1 ?_
 refine jp ?_
 obtain rfl := sj h
 exact zA lzz
theorem zcT {sv : Str} {prefixv : Str} {r : Bool} (h : zaT sv prefixv = some r) : FnOk Tryz.prog 32 [kS sv, kS prefixv] [kB r] := by
 refine zr (E := ⟨[(4, kB r)], []⟩) 18 Tryz.func32 rfl rfl rfl ⟨rfl, trivial⟩ (fun Xt => ?_)
 refine zj ?_
 unfold zaT at h
 refine jp ?_
 obtain ⟨g, h_g, h⟩ := bnd h
 refine zL ⟨[(4, kB g)], []⟩ ?_ ?_
 ·
  refine (rsl 6 [] 10 (decide ((sv.length : Int) ≥ (prefixv.length : Int))) (fun hc1 => ?_) (fun hc1 => ?_))
  ·
   replace h_g := iteT h_g hc1
   obtain ⟨v, h_v, h_g⟩ := bnd h_g
   obtain rfl := sj h_g
   exact (ra 3 [kS sv, kI (prefixv.length : Int)] rfl (zdn none (some (kI (prefixv.length : Int))) rfl Tryz.underlying9 ⟨rfl, rfl⟩ ⟨rfl, rfl⟩ h_v) rfl rgg)
  replace h_g := iteF h_g hc1
  obtain rfl := sj h_g
  exact rgg
 obtain rfl := sj h
 exact zA lzz
theorem zfk {l : (List Str)} {r : Bool} (h : zbD l = some r) : FnOk Tryz.prog 5 [.sl Rp.str [0] l] [kB r] := by
 refine zr (E := ⟨[(2, kB r)], []⟩) 21 Tryz.func5 rfl rfl rfl ⟨rfl, trivial⟩ (fun Xt => ?_)
 refine zj ?_
 unfold zbD at h
 refine jp ?_
 refine jp ?_
 refine jp ?_
 refine zx ?_
 obtain ⟨q, h_q, h⟩ := bnd h
 refine zbN (fun s : (Int × Int) => zS l s.1 s.2) (fun s => ⟨[(0, .sl Rp.str [0] l), (3, kI s.1), (4, kI s.2)], []⟩) (fun o e a w => e = .exit 0 ∧ Sx ⟨⟨21, []⟩, Xt, false, #[]⟩ ⟨[(3, kI o)], []⟩ a w) ?_ h_q lzz ?_
 ·
  clear h
  intro s o h
  obtain ⟨n, i⟩ := s
  refine zj ?_
  replace h : zS l n i = some o := h
  unfold zS at h
  refine jp ?_
  rcases zm h with ⟨hc1, h⟩ | ⟨hc1, h⟩
  ·
   refine jT hc1 ?_
   refine zx ?_
   obtain ⟨x, h_x, h⟩ := bnd h
   refine jr (ra 3 [.sl Rp.str [0] l, kI i] rfl (zfU rfl zef.el (zdG _ _ _) h_x) rfl rf) ?_
   refine zaU ?_
   refine jp ?_
   obtain rfl := sj h
   exact zat lzz
  refine jF hc1 ?_
  obtain rfl := sj h
  exact zbv rfl lzz
 refine zcf _ rfl ?_
 refine jp ?_
 obtain rfl := sj h
 exact zA lzz
theorem zdp {sv : Str} {r : Bool} (h : zbe sv = some r) : FnOk Tryz.prog 17 [kS sv] [kB r] := by
 refine zr (E := ⟨[(2, kB r)], []⟩) 55 Tryz.func17 rfl rfl rfl ⟨rfl, trivial⟩ (fun Xt => ?_)
 refine zj ?_
 unfold zbe at h
 refine jp ?_
 refine jp ?_
 refine zx ?_
 obtain ⟨q, h_q, h⟩ := bnd h
 refine zbN (fun s : Int => zP sv s) (fun s => ⟨[(0, kS sv), (3, kI s)], []⟩) (fun o e a w => match o with | (.inl v_) => e = .exit 0 ∧ Sx ⟨⟨55, []⟩, Xt, false, #[]⟩ ⟨[(0, kS sv)], []⟩ a w | (.inr v_) => e = .ret ∧ Sx ⟨⟨55, []⟩, Xt, false, #[]⟩ ⟨[(2, kB false)], []⟩ a w) ?_ h_q lzz ?_
 ·
  clear h
  intro i o h
  refine zj ?_
  replace h : zP sv i = some o := h
  unfold zP at h
  refine jp ?_
  rcases zm h with ⟨hc1, h⟩ | ⟨hc1, h⟩
  ·
   refine jT hc1 ?_
   refine zx ?_
   obtain ⟨c, h_c, h⟩ := bnd h
   refine jr (ra 2 [kS sv, kI i] rfl (zcL rfl Tryz.underlying9 h_c) rfl rf) ?_
   refine zL ⟨[(0, kS sv), (3, kI i), (5, kB (if (decide ((c.toNat : Int) ≥ 65)) then ((decide ((c.toNat : Int) ≤ 90)) || (if (decide ((c.toNat : Int) ≥ 97)) then ((decide ((c.toNat : Int) ≤ 122)) || (((c.toNat : Int) == 95) || ((decide (i > 0)) && ((decide ((c.toNat : Int) ≥ 48)) && (decide ((c.toNat : Int) ≤ 57)))))) else (((c.toNat : Int) == 95) || ((decide (i > 0)) && ((decide ((c.toNat : Int) ≥ 48)) && (decide ((c.toNat : Int) ≤ 57))))))) else (if (decide ((c.toNat : Int) ≥ 97)) then ((decide ((c.toNat : Int) ≤ 122)) || (((c.toNat : Int) == 95) || ((decide (i > 0)) && ((decide ((c.toNat : Int) ≥ 48)) && (decide ((c.toNat : Int) ≤ 57)))))) else (((c.toNat : Int) == 95) || ((decide (i > 0)) && ((decide ((c.toNat : Int) ≥ 48)) && (decide ((c.toNat : Int) ≤ 57))))))))], []⟩ ?_ ?_
   ·
    refine (rsl 3 [] 17 (decide ((c.toNat : Int) ≥ 65)) (fun hc2 => ?_) (fun hc2 => ?_))
    ·
     refine (rsl 4 [] 21 (decide ((c.toNat : Int) ≤ 90)) (fun hc3 => ?_) (fun hc3 => ?_))
     · exact (rbl [] 5 true (if (decide ((c.toNat : Int) ≥ 65)) then ((decide ((c.toNat : Int) ≤ 90)) || (if (decide ((c.toNat : Int) ≥ 97)) then ((decide ((c.toNat : Int) ≤ 122)) || (((c.toNat : Int) == 95) || ((decide (i > 0)) && ((decide ((c.toNat : Int) ≥ 48)) && (decide ((c.toNat : Int) ≤ 57)))))) else (((c.toNat : Int) == 95) || ((decide (i > 0)) && ((decide ((c.toNat : Int) ≥ 48)) && (decide ((c.toNat : Int) ≤ 57))))))) else (if (decide ((c.toNat : Int) ≥ 97)) then ((decide ((c.toNat : Int) ≤ 122)) || (((c.toNat : Int) == 95) || ((decide (i > 0)) && ((decide ((c.toNat : Int) ≥ 48)) && (decide ((c.toNat : Int) ≤ 57)))))) else (((c.toNat : Int) == 95) || ((decide (i > 0)) && ((decide ((c.toNat : Int) ≥ 48)) && (decide ((c.toNat : Int) ≤ 57))))))) (by rw [hc2, hc3] <;> rfl))
     refine (rsl 3 [] 24 (decide ((c.toNat : Int) ≥ 97)) (fun hc4 => ?_) (fun hc4 => ?_))
     ·
      refine (rsl 5 [] 29 (decide ((c.toNat : Int) ≤ 122)) (fun hc5 => ?_) (fun hc5 => ?_))
      · exact (rbl [] 5 true (if (decide ((c.toNat : Int) ≥ 65)) then ((decide ((c.toNat : Int) ≤ 90)) || (if (decide ((c.toNat : Int) ≥ 97)) then ((decide ((c.toNat : Int) ≤ 122)) || (((c.toNat : Int) == 95) || ((decide (i > 0)) && ((decide ((c.toNat : Int) ≥ 48)) && (decide ((c.toNat : Int) ≤ 57)))))) else (((c.toNat : Int) == 95) || ((decide (i > 0)) && ((decide ((c.toNat : Int) ≥ 48)) && (decide ((c.toNat : Int) ≤ 57))))))) else (if (decide ((c.toNat : Int) ≥ 97)) then ((decide ((c.toNat : Int) ≤ 122)) || (((c.toNat : Int) == 95) || ((decide (i > 0)) && ((decide ((c.toNat : Int) ≥ 48)) && (decide ((c.toNat : Int) ≤ 57)))))) else (((c.toNat : Int) == 95) || ((decide (i > 0)) && ((decide ((c.toNat : Int) ≥ 48)) && (decide ((c.toNat : Int) ≤ 57))))))) (by rw [hc2, hc3, hc4, hc5] <;> rfl))
      refine (rsl 4 [] 33 ((c.toNat : Int) == 95) (fun hc6 => ?_) (fun hc6 => ?_))
      · exact (rbl [] 5 true (if (decide ((c.toNat : Int) ≥ 65)) then ((decide ((c.toNat : Int) ≤ 90)) || (if (decide ((c.toNat : Int) ≥ 97)) then ((decide ((c.toNat : Int) ≤ 122)) || (((c.toNat : Int) == 95) || ((decide (i > 0)) && ((decide ((c.toNat : Int) ≥ 48)) && (decide ((c.toNat : Int) ≤ 57)))))) else (((c.toNat : Int) == 95) || ((decide (i > 0)) && ((decide ((c.toNat : Int) ≥ 48)) && (decide ((c.toNat : Int) ≤ 57))))))) else (if (decide ((c.toNat : Int) ≥ 97)) then ((decide ((c.toNat : Int) ≤ 122)) || (((c.toNat : Int) == 95) || ((decide (i > 0)) && ((decide ((c.toNat : Int) ≥ 48)) && (decide ((c.toNat : Int) ≤ 57)))))) else (((c.toNat : Int) == 95) || ((decide (i > 0)) && ((decide ((c.toNat : Int) ≥ 48)) && (decide ((c.toNat : Int) ≤ 57))))))) (by rw [hc2, hc3, hc4, hc5, hc6] <;> rfl))
      refine (rsl 3 [] 36 (decide (i > 0)) (fun hc7 => ?_) (fun hc7 => ?_))
      ·
       refine (rsl 4 [] 40 (decide ((c.toNat : Int) ≥ 48)) (fun hc8 => ?_) (fun hc8 => ?_))
       · exact (rbl [] 5 (decide ((c.toNat : Int) ≤ 57)) (if (decide ((c.toNat : Int) ≥ 65)) then ((decide ((c.toNat : Int) ≤ 90)) || (if (decide ((c.toNat : Int) ≥ 97)) then ((decide ((c.toNat : Int) ≤ 122)) || (((c.toNat : Int) == 95) || ((decide (i > 0)) && ((decide ((c.toNat : Int) ≥ 48)) && (decide ((c.toNat : Int) ≤ 57)))))) else (((c.toNat : Int) == 95) || ((decide (i > 0)) && ((decide ((c.toNat : Int) ≥ 48)) && (decide ((c.toNat : Int) ≤ 57))))))) else (if (decide ((c.toNat : Int) ≥ 97)) then ((decide ((c.toNat : Int) ≤ 122)) || (((c.toNat : Int) == 95) || ((decide (i > 0)) && ((decide ((c.toNat : Int) ≥ 48)) && (decide ((c.toNat : Int) ≤ 57)))))) else (((c.toNat : Int) == 95) || ((decide (i > 0)) && ((decide ((c.toNat : Int) ≥ 48)) && (decide ((c.toNat : Int) ≤ 57))))))) (by rw [hc2, hc3, hc4, hc5, hc6, hc7, hc8] <;> rfl))
       exact (rbl [] 5 false (if (decide ((c.toNat : Int) ≥ 65)) then ((decide ((c.toNat : Int) ≤ 90)) || (if (decide ((c.toNat : Int) ≥ 97)) then ((decide ((c.toNat : Int) ≤ 122)) || (((c.toNat : Int) == 95) || ((decide (i > 0)) && ((decide ((c.toNat : Int) ≥ 48)) && (decide ((c.toNat : Int) ≤ 57)))))) else (((c.toNat : Int) == 95) || ((decide (i > 0)) && ((decide ((c.toNat : Int) ≥ 48)) && (decide ((c.toNat : Int) ≤ 57))))))) else (if (decide ((c.toNat : Int) ≥ 97)) then ((decide ((c.toNat : Int) ≤ 122)) || (((c.toNat : Int) == 95) || ((decide (i > 0)) && ((decide ((c.toNat : Int) ≥ 48)) && (decide ((c.toNat : Int) ≤ 57)))))) else (((c.toNat : Int) == 95) || ((decide (i > 0)) && ((decide ((c.toNat : Int) ≥ 48)) && (decide ((c.toNat : Int) ≤ 57))))))) (by rw [hc2, hc3, hc4, hc5, hc6, hc7, hc8] <;> rfl))
      exact (rbl [] 5 false (if (decide ((c.toNat : Int) ≥ 65)) then ((decide ((c.toNat : Int) ≤ 90)) || (if (decide ((c.toNat : Int) ≥ 97)) then ((decide ((c.toNat : Int) ≤ 122)) || (((c.toNat : Int) == 95) || ((decide (i > 0)) && ((decide ((c.toNat : Int) ≥ 48)) && (decide ((c.toNat : Int) ≤ 57)))))) else (((c.toNat : Int) == 95) || ((decide (i > 0)) && ((decide ((c.toNat : Int) ≥ 48)) && (decide ((c.toNat : Int) ≤ 57))))))) else (if (decide ((c.toNat : Int) ≥ 97)) then ((decide ((c.toNat : Int) ≤ 122)) || (((c.toNat : Int) == 95) || ((decide (i > 0)) && ((decide ((c.toNat : Int) ≥ 48)) && (decide ((c.toNat : Int) ≤ 57)))))) else (((c.toNat : Int) == 95) || ((decide (i > 0)) && ((decide ((c.toNat : Int) ≥ 48)) && (decide ((c.toNat : Int) ≤ 57))))))) (by rw [hc2, hc3, hc4, hc5, hc6, hc7] <;> rfl))
     refine (rsl 9 [] 33 ((c.toNat : Int) == 95) (fun hc9 => ?_) (fun hc9 => ?_))
     · exact (rbl [] 5 true (if (decide ((c.toNat : Int) ≥ 65)) then ((decide ((c.toNat : Int) ≤ 90)) || (if (decide ((c.toNat : Int) ≥ 97)) then ((decide ((c.toNat : Int) ≤ 122)) || (((c.toNat : Int) == 95) || ((decide (i > 0)) && ((decide ((c.toNat : Int) ≥ 48)) && (decide ((c.toNat : Int) ≤ 57)))))) else (((c.toNat : Int) == 95) || ((decide (i > 0)) && ((decide ((c.toNat : Int) ≥ 48)) && (decide ((c.toNat : Int) ≤ 57))))))) else (if (decide ((c.toNat : Int) ≥ 97)) then ((decide ((c.toNat : Int) ≤ 122)) || (((c.toNat : Int) == 95) || ((decide (i > 0)) && ((decide ((c.toNat : Int) ≥ 48)) && (decide ((c.toNat : Int) ≤ 57)))))) else (((c.toNat : Int) == 95) || ((decide (i > 0)) && ((decide ((c.toNat : Int) ≥ 48)) && (decide ((c.toNat : Int) ≤ 57))))))) (by rw [hc2, hc3, hc4, hc9] <;> rfl))
     refine (rsl 3 [] 36 (decide (i > 0)) (fun hc10 => ?_) (fun hc10 => ?_))
     ·
      refine (rsl 4 [] 40 (decide ((c.toNat : Int) ≥ 48)) (fun hc11 => ?_) (fun hc11 => ?_))
      · exact (rbl [] 5 (decide ((c.toNat : Int) ≤ 57)) (if (decide ((c.toNat : Int) ≥ 65)) then ((decide ((c.toNat : Int) ≤ 90)) || (if (decide ((c.toNat : Int) ≥ 97)) then ((decide ((c.toNat : Int) ≤ 122)) || (((c.toNat : Int) == 95) || ((decide (i > 0)) && ((decide ((c.toNat : Int) ≥ 48)) && (decide ((c.toNat : Int) ≤ 57)))))) else (((c.toNat : Int) == 95) || ((decide (i > 0)) && ((decide ((c.toNat : Int) ≥ 48)) && (decide ((c.toNat : Int) ≤ 57))))))) else (if (decide ((c.toNat : Int) ≥ 97)) then ((decide ((c.toNat : Int) ≤ 122)) || (((c.toNat : Int) == 95) || ((decide (i > 0)) && ((decide ((c.toNat : Int) ≥ 48)) && (decide ((c.toNat : Int) ≤ 57)))))) else (((c.toNat : Int) == 95) || ((decide (i > 0)) && ((decide ((c.toNat : Int) ≥ 48)) && (decide ((c.toNat : Int) ≤ 57))))))) (by rw [hc2, hc3, hc4, hc9, hc10, hc11] <;> rfl))
      exact (rbl [] 5 false (if (decide ((c.toNat : Int) ≥ 65)) then ((decide ((c.toNat : Int) ≤ 90)) || (if (decide ((c.toNat : Int) ≥ 97)) then ((decide ((c.toNat : Int) ≤ 122)) || (((c.toNat : Int) == 95) || ((decide (i > 0)) && ((decide ((c.toNat : Int) ≥ 48)) && (decide ((c.toNat : Int) ≤ 57)))))) else (((c.toNat : Int) == 95) || ((decide (i > 0)) && ((decide ((c.toNat : Int) ≥ 48)) && (decide ((c.toNat : Int) ≤ 57))))))) else (if (decide ((c.toNat : Int) ≥ 97)) then ((decide ((c.toNat : Int) ≤ 122)) || (((c.toNat : Int) == 95) || ((decide (i > 0)) && ((decide ((c.toNat : Int) ≥ 48)) && (decide ((c.toNat : Int) ≤ 57)))))) else (((c.toNat : Int) == 95) || ((decide (i > 0)) && ((decide ((c.toNat : Int) ≥ 48)) && (decide ((c.toNat : Int) ≤ 57))))))) (by rw [hc2, hc3, hc4, hc9, hc10, hc11] <;> rfl))
     exact (rbl [] 5 false (if (decide ((c.toNat : Int) ≥ 65)) then ((decide ((c.toNat : Int) ≤ 90)) || (if (decide ((c.toNat : Int) ≥ 97)) then ((decide ((c.toNat : Int) ≤ 122)) || (((c.toNat : Int) == 95) || ((decide (i > 0)) && ((decide ((c.toNat : Int) ≥ 48)) && (decide ((c.toNat : Int) ≤ 57)))))) else (((c.toNat : Int) == 95) || ((decide (i > 0)) && ((decide ((c.toNat : Int) ≥ 48)) && (decide ((c.toNat : Int) ≤ 57))))))) else (if (decide ((c.toNat : Int) ≥ 97)) then ((decide ((c.toNat : Int) ≤ 122)) || (((c.toNat : Int) == 95) || ((decide (i > 0)) && ((decide ((c.toNat : Int) ≥ 48)) && (decide ((c.toNat : Int) ≤ 57)))))) else (((c.toNat : Int) == 95) || ((decide (i > 0)) && ((decide ((c.toNat : Int) ≥ 48)) && (decide ((c.toNat : Int) ≤ 57))))))) (by rw [hc2, hc3, hc4, hc9, hc10] <;> rfl))
    refine (rsl 7 [] 24 (decide ((c.toNat : Int) ≥ 97)) (fun hc12 => ?_) (fun hc12 => ?_))
    ·
     refine (rsl 5 [] 29 (decide ((c.toNat : Int) ≤ 122)) (fun hc13 => ?_) (fun hc13 => ?_))
     · exact (rbl [] 5 true (if (decide ((c.toNat : Int) ≥ 65)) then ((decide ((c.toNat : Int) ≤ 90)) || (if (decide ((c.toNat : Int) ≥ 97)) then ((decide ((c.toNat : Int) ≤ 122)) || (((c.toNat : Int) == 95) || ((decide (i > 0)) && ((decide ((c.toNat : Int) ≥ 48)) && (decide ((c.toNat : Int) ≤ 57)))))) else (((c.toNat : Int) == 95) || ((decide (i > 0)) && ((decide ((c.toNat : Int) ≥ 48)) && (decide ((c.toNat : Int) ≤ 57))))))) else (if (decide ((c.toNat : Int) ≥ 97)) then ((decide ((c.toNat : Int) ≤ 122)) || (((c.toNat : Int) == 95) || ((decide (i > 0)) && ((decide ((c.toNat : Int) ≥ 48)) && (decide ((c.toNat : Int) ≤ 57)))))) else (((c.toNat : Int) == 95) || ((decide (i > 0)) && ((decide ((c.toNat : Int) ≥ 48)) && (decide ((c.toNat : Int) ≤ 57))))))) (by rw [hc2, hc12, hc13] <;> rfl))
     refine (rsl 4 [] 33 ((c.toNat : Int) == 95) (fun hc14 => ?_) (fun hc14 => ?_))
     · exact (rbl [] 5 true (if (decide ((c.toNat : Int) ≥ 65)) then ((decide ((c.toNat : Int) ≤ 90)) || (if (decide ((c.toNat : Int) ≥ 97)) then ((decide ((c.toNat : Int) ≤ 122)) || (((c.toNat : Int) == 95) || ((decide (i > 0)) && ((decide ((c.toNat : Int) ≥ 48)) && (decide ((c.toNat : Int) ≤ 57)))))) else (((c.toNat : Int) == 95) || ((decide (i > 0)) && ((decide ((c.toNat : Int) ≥ 48)) && (decide ((c.toNat : Int) ≤ 57))))))) else (if (decide ((c.toNat : Int) ≥ 97)) then ((decide ((c.toNat : Int) ≤ 122)) || (((c.toNat : Int) == 95) || ((decide (i > 0)) && ((decide ((c.toNat : Int) ≥ 48)) && (decide ((c.toNat : Int) ≤ 57)))))) else (((c.toNat : Int) == 95) || ((decide (i > 0)) && ((decide ((c.toNat : Int) ≥ 48)) && (decide ((c.toNat : Int) ≤ 57))))))) (by rw [hc2, hc12, hc13, hc14] <;> rfl))
     refine (rsl 3 [] 36 (decide (i > 0)) (fun hc15 => ?_) (fun hc15 => ?_))
     ·
      refine (rsl 4 [] 40 (decide ((c.toNat : Int) ≥ 48)) (fun hc16 => ?_) (fun hc16 => ?_))
      · exact (rbl [] 5 (decide ((c.toNat : Int) ≤ 57)) (if (decide ((c.toNat : Int) ≥ 65)) then ((decide ((c.toNat : Int) ≤ 90)) || (if (decide ((c.toNat : Int) ≥ 97)) then ((decide ((c.toNat : Int) ≤ 122)) || (((c.toNat : Int) == 95) || ((decide (i > 0)) && ((decide ((c.toNat : Int) ≥ 48)) && (decide ((c.toNat : Int) ≤ 57)))))) else (((c.toNat : Int) == 95) || ((decide (i > 0)) && ((decide ((c.toNat : Int) ≥ 48)) && (decide ((c.toNat : Int) ≤ 57))))))) else (if (decide ((c.toNat : Int) ≥ 97)) then ((decide ((c.toNat : Int) ≤ 122)) || (((c.toNat : Int) == 95) || ((decide (i > 0)) && ((decide ((c.toNat : Int) ≥ 48)) && (decide ((c.toNat : Int) ≤ 57)))))) else (((c.toNat : Int) == 95) || ((decide (i > 0)) && ((decide ((c.toNat : Int) ≥ 48)) && (decide ((c.toNat : Int) ≤ 57))))))) (by rw [hc2, hc12, hc13, hc14, hc15, hc16] <;> rfl))
      exact (rbl [] 5 false (if (decide ((c.toNat : Int) ≥ 65)) then ((decide ((c.toNat : Int) ≤ 90)) || (if (decide ((c.toNat : Int) ≥ 97)) then ((decide ((c.toNat : Int) ≤ 122)) || (((c.toNat : Int) == 95) || ((decide (i > 0)) && ((decide ((c.toNat : Int) ≥ 48)) && (decide ((c.toNat : Int) ≤ 57)))))) else (((c.toNat : Int) == 95) || ((decide (i > 0)) && ((decide ((c.toNat : Int) ≥ 48)) && (decide ((c.toNat : Int) ≤ 57))))))) else (if (decide ((c.toNat : Int) ≥ 97)) then ((decide ((c.toNat : Int) ≤ 122)) || (((c.toNat : Int) == 95) || ((decide (i > 0)) && ((decide ((c.toNat : Int) ≥ 48)) && (decide ((c.toNat : Int) ≤ 57)))))) else (((c.toNat : Int) == 95) || ((decide (i > 0)) && ((decide ((c.toNat : Int) ≥ 48)) && (decide ((c.toNat : Int) ≤ 57))))))) (by rw [hc2, hc12, hc13, hc14, hc15, hc16] <;> rfl))
     exact (rbl [] 5 false (if (decide ((c.toNat : Int) ≥ 65)) then ((decide ((c.toNat : Int) ≤ 90)) || (if (decide ((c.toNat : Int) ≥ 97)) then ((decide ((c.toNat : Int) ≤ 122)) || (((c.toNat : Int) == 95) || ((decide (i > 0)) && ((decide ((c.toNat : Int) ≥ 48)) && (decide ((c.toNat : Int) ≤ 57)))))) else (((c.toNat : Int) == 95) || ((decide (i > 0)) && ((decide ((c.toNat : Int) ≥ 48)) && (decide ((c.toNat : Int) ≤ 57))))))) else (if (decide ((c.toNat : Int) ≥ 97)) then ((decide ((c.toNat : Int) ≤ 122)) || (((c.toNat : Int) == 95) || ((decide (i > 0)) && ((decide ((c.toNat : Int) ≥ 48)) && (decide ((c.toNat : Int) ≤ 57)))))) else (((c.toNat : Int) == 95) || ((decide (i > 0)) && ((decide ((c.toNat : Int) ≥ 48)) && (decide ((c.toNat : Int) ≤ 57))))))) (by rw [hc2, hc12, hc13, hc14, hc15] <;> rfl))
    refine (rsl 9 [] 33 ((c.toNat : Int) == 95) (fun hc17 => ?_) (fun hc17 => ?_))
    · exact (rbl [] 5 true (if (decide ((c.toNat : Int) ≥ 65)) then ((decide ((c.toNat : Int) ≤ 90)) || (if (decide ((c.toNat : Int) ≥ 97)) then ((decide ((c.toNat : Int) ≤ 122)) || (((c.toNat : Int) == 95) || ((decide (i > 0)) && ((decide ((c.toNat : Int) ≥ 48)) && (decide ((c.toNat : Int) ≤ 57)))))) else (((c.toNat : Int) == 95) || ((decide (i > 0)) && ((decide ((c.toNat : Int) ≥ 48)) && (decide ((c.toNat : Int) ≤ 57))))))) else (if (decide ((c.toNat : Int) ≥ 97)) then ((decide ((c.toNat : Int) ≤ 122)) || (((c.toNat : Int) == 95) || ((decide (i > 0)) && ((decide ((c.toNat : Int) ≥ 48)) && (decide ((c.toNat : Int) ≤ 57)))))) else (((c.toNat : Int) == 95) || ((decide (i > 0)) && ((decide ((c.toNat : Int) ≥ 48)) && (decide ((c.toNat : Int) ≤ 57))))))) (by rw [hc2, hc12, hc17] <;> rfl))
    refine (rsl 3 [] 36 (decide (i > 0)) (fun hc18 => ?_) (fun hc18 => ?_))
    ·
     refine (rsl 4 [] 40 (decide ((c.toNat : Int) ≥ 48)) (fun hc19 => ?_) (fun hc19 => ?_))
     · exact (rbl [] 5 (decide ((c.toNat : Int) ≤ 57)) (if (decide ((c.toNat : Int) ≥ 65)) then ((decide ((c.toNat : Int) ≤ 90)) || (if (decide ((c.toNat : Int) ≥ 97)) then ((decide ((c.toNat : Int) ≤ 122)) || (((c.toNat : Int) == 95) || ((decide (i > 0)) && ((decide ((c.toNat : Int) ≥ 48)) && (decide ((c.toNat : Int) ≤ 57)))))) else (((c.toNat : Int) == 95) || ((decide (i > 0)) && ((decide ((c.toNat : Int) ≥ 48)) && (decide ((c.toNat : Int) ≤ 57))))))) else (if (decide ((c.toNat : Int) ≥ 97)) then ((decide ((c.toNat : Int) ≤ 122)) || (((c.toNat : Int) == 95) || ((decide (i > 0)) && ((decide ((c.toNat : Int) ≥ 48)) && (decide ((c.toNat : Int) ≤ 57)))))) else (((c.toNat : Int) == 95) || ((decide (i > 0)) && ((decide ((c.toNat : Int) ≥ 48)) && (decide ((c.toNat : Int) ≤ 57))))))) (by rw [hc2, hc12, hc17, hc18, hc19] <;> rfl))
     exact (rbl [] 5 false (if (decide ((c.toNat : Int) ≥ 65)) then ((decide ((c.toNat : Int) ≤ 90)) || (if (decide ((c.toNat : Int) ≥ 97)) then ((decide ((c.toNat : Int) ≤ 122)) || (((c.toNat : Int) == 95) || ((decide (i > 0)) && ((decide ((c.toNat : Int) ≥ 48)) && (decide ((c.toNat : Int) ≤ 57)))))) else (((c.toNat : Int) == 95) || ((decide (i > 0)) && ((decide ((c.toNat : Int) ≥ 48)) && (decide ((c.toNat : Int) ≤ 57))))))) else (if (decide ((c.toNat : Int) ≥ 97)) then ((decide ((c.toNat : Int) ≤ 122)) || (((c.toNat : Int) == 95) || ((decide (i > 0)) && ((decide ((c.toNat : Int) ≥ 48)) && (decide ((c.toNat : Int) ≤ 57)))))) else (((c.toNat : Int) == 95) || ((decide (i > 0)) && ((decide ((c.toNat : Int) ≥ 48)) && (decide ((c.toNat : Int) ≤ 57))))))) (by rw [hc2, hc12, hc17, hc18, hc19] <;> rfl))
    exact (rbl [] 5 false (if (decide ((c.toNat : Int) ≥ 65)) then ((decide ((c.toNat : Int) ≤ 90)) || (if (decide ((c.toNat : Int) ≥ 97)) then ((decide ((c.toNat : Int) ≤ 122)) || (((c.toNat : Int) == 95) || ((decide (i > 0)) && ((decide ((c.toNat : Int) ≥ 48)) && (decide ((c.toNat : Int) ≤ 57)))))) else (((c.toNat : Int) == 95) || ((decide (i > 0)) && ((decide ((c.toNat : Int) ≥ 48)) && (decide ((c.toNat : Int) ≤ 57))))))) else (if (decide ((c.toNat : Int) ≥ 97)) then ((decide ((c.toNat : Int) ≤ 122)) || (((c.toNat : Int) == 95) || ((decide (i > 0)) && ((decide ((c.toNat : Int) ≥ 48)) && (decide ((c.toNat : Int) ≤ 57)))))) else (((c.toNat : Int) == 95) || ((decide (i > 0)) && ((decide ((c.toNat : Int) ≥ 48)) && (decide ((c.toNat : Int) ≤ 57))))))) (by rw [hc2, hc12, hc17, hc18] <;> rfl))
   refine jp ?_
   rcases zm h with ⟨hc20, h⟩ | ⟨hc20, h⟩
   ·
    refine jT hc20 ?_
    refine jp ?_
    obtain rfl := sj h
    exact zcu lzz
   refine jF hc20 ?_
   refine zaU ?_
   refine jp ?_
   obtain rfl := sj h
   exact zat lzz
  refine jF hc1 ?_
  obtain rfl := sj h
  exact zbv rfl lzz
 rcases q with u | u2
 ·
  refine zcf _ rfl ?_
  refine zL ⟨[(2, kB ((decide ((sv.length : Int) ≥ 1)) && (decide ((sv.length : Int) ≤ 60))))], []⟩ ?_ ?_
  ·
   refine (rsl 4 [] 50 (decide ((sv.length : Int) ≥ 1)) (fun hc21 => ?_) (fun hc21 => ?_))
   · exact (rbl [] 2 (decide ((sv.length : Int) ≤ 60)) ((decide ((sv.length : Int) ≥ 1)) && (decide ((sv.length : Int) ≤ 60))) (by rw [hc21] <;> rfl))
   exact (rbl [] 2 false ((decide ((sv.length : Int) ≥ 1)) && (decide ((sv.length : Int) ≤ 60))) (by rw [hc21] <;> rfl))
  obtain rfl := sj h
  exact zA lzz
 obtain rfl := sj h
 exact zeH lzz
theorem zhD {elems : (List Str)} {sep : Str} {r : Str} (h : strings_Join elems sep = some r) : FnOk Tryz.prog 18 [.sl Rp.str [0] elems, kS sep] [kS r] := znT lj18 xj18 h
end Go.Proofs.YtmghlnfhcdjbnaaGreatDoor
