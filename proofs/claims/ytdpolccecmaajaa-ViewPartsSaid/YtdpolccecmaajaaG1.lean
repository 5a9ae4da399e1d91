/-
  The Go functions do what the plain functions say. No condition.
-/
import Derived.Test.YtdpolccecmaajaaT
namespace Go.Proofs.Ytdpolccecmaajaa
open Go Go.RowKit
set_option linter.unusedVariables false
set_option maxRecDepth 100000
theorem zdM {b : (List UInt8)} {r : (Int × Int × Int)} (h : zbQ b = some r) : FnOk Try.prog 37 [.sl Rp.byte [0] b] [kU r.1, kI r.2.1, k8 r.2.2] := by
 refine zz (E := ⟨[(2, kU r.1), (3, kI r.2.1), (4, k8 r.2.2)], []⟩) 38 Try.func37 rfl rfl rfl ⟨rfl, rfl, rfl, trivial⟩ (fun Xt => ?_)
 refine zr ?_
 unfold zbQ at h
 refine jp ?_
 obtain ⟨v, h_v, h⟩ := bnd h
 refine jr (ra 4 [.sl Rp.byte [0] b, kI (if (10 : Int) < (b.length : Int) then 10 else (b.length : Int))] rfl (zeE none (some (kI (if (10 : Int) < (b.length : Int) then 10 else (b.length : Int)))) rfl zcG.el (zai _ _ _) ⟨rfl, rfl⟩ ⟨rfl, rfl⟩ h_v) rfl rf) ?_
 refine zQ ?_
 obtain ⟨q, h_q, h⟩ := bnd h
 refine zbA (fun s : (Int × Int) => zag v s.1 s.2) (fun s => ⟨[(2, kU s.1), (11, .sl Rp.byte [0] v), (12, kI (v.length : Int)), (13, kI s.2)], []⟩) (fun o e a w => match o with | (.inl v_) => e = .exit 0 ∧ Sx ⟨⟨38, []⟩, Xt, false, #[]⟩ ⟨[], []⟩ a w | (.inr v_) => e = .ret ∧ Sx ⟨⟨38, []⟩, Xt, false, #[]⟩ ⟨[(2, kU v_.1), (3, kI v_.2.1), (4, k8 v_.2.2)], []⟩ a w) ?_ h_q lzz ?_
 ·
  clear h
  intro s o h
  obtain ⟨wv, v2⟩ := s
  refine zr ?_
  replace h : zag v wv v2 = some o := h
  unfold zag at h
  refine jp ?_
  rcases zm h with ⟨hc1, h⟩ | ⟨hc1, h⟩
  ·
   refine jT hc1 ?_
   refine zQ ?_
   obtain ⟨x, h_x, h⟩ := bnd h
   refine jr (ra 1 [.sl Rp.byte [0] v, kI v2] rfl (zbx rfl zcG.el (zai _ _ _) h_x) rfl rf) ?_
   refine zR ⟨[(2, kU wv), (5, kI v2), (6, k8 (x.toNat : Int)), (11, .sl Rp.byte [0] v), (12, kI (v.length : Int)), (13, kI v2), (23, kB ((v2 == 9) && (decide ((x.toNat : Int) > 1))))], []⟩ ?_ ?_
   ·
    refine (rsl 3 [] 20 (v2 == 9) (fun hc2 => ?_) (fun hc2 => ?_))
    · exact (rbl [] 23 (decide ((x.toNat : Int) > 1)) ((v2 == 9) && (decide ((x.toNat : Int) > 1))) (by rw [hc2] <;> rfl))
    exact (rbl [] 23 false ((v2 == 9) && (decide ((x.toNat : Int) > 1))) (by rw [hc2] <;> rfl))
   rcases zm h with ⟨hc3, h⟩ | ⟨hc3, h⟩
   ·
    refine jT hc3 ?_
    refine jp ?_
    obtain rfl := sj h
    exact zdW lzz
   refine jF hc3 ?_
   obtain ⟨v4, h_v4, h⟩ := bnd h
   refine jr (ra 6 [kU (IntKind.u64.wrap (andI .u8 (x.toNat : Int) 127)), kI (IntKind.i64.wrap (7 * v2))] rfl (zpM rfl h_v4) rfl rf) ?_
   refine jp ?_
   rcases zm h with ⟨hc4, h⟩ | ⟨hc4, h⟩
   ·
    refine jT hc4 ?_
    refine jp ?_
    obtain rfl := sj h
    exact zdW lzz
   refine jF hc4 ?_
   refine zaY ?_
   refine jp ?_
   obtain rfl := sj h
   exact zW lzz
  refine jF hc1 ?_
  obtain rfl := sj h
  exact zbB rfl lzz
 rcases q with u | u2
 ·
  refine zch _ rfl ?_
  refine jp ?_
  obtain rfl := sj h
  exact zv lzz
 obtain rfl := sj h
 exact zez lzz
theorem zgY {wire : Int} {r : Bool} (h : zcc wire = some r) : FnOk Try.prog 45 [kI wire] [kB r] := by
 refine zz (E := ⟨[(2, kB r)], []⟩) 9 Try.func45 rfl rfl rfl ⟨rfl, trivial⟩ (fun Xt => ?_)
 refine zr ?_
 unfold zcc at h
 refine jp ?_
 refine jp ?_
 refine zQ ?_
 refine jp ?_
 rcases zm h with ⟨hc1, h⟩ | ⟨hc1, h⟩
 ·
  refine jT hc1 ?_
  rcases zm h with ⟨hc2, h⟩ | ⟨hc2, h⟩
  ·
   refine jT hc2 ?_
   refine jp ?_
   obtain rfl := sj h
   exact zv lzz
  refine jF hc2 ?_
  refine zaY ?_
  refine jp ?_
  obtain rfl := sj h
  exact zv lzz
 refine jF hc1 ?_
 refine jp ?_
 rcases zm h with ⟨hc3, h⟩ | ⟨hc3, h⟩
 ·
  refine jT hc3 ?_
  rcases zm h with ⟨hc4, h⟩ | ⟨hc4, h⟩
  ·
   refine jT hc4 ?_
   refine jp ?_
   obtain rfl := sj h
   exact zv lzz
  refine jF hc4 ?_
  refine zaY ?_
  refine jp ?_
  obtain rfl := sj h
  exact zv lzz
 refine jF hc3 ?_
 refine jp ?_
 rcases zm h with ⟨hc5, h⟩ | ⟨hc5, h⟩
 ·
  refine jT hc5 ?_
  rcases zm h with ⟨hc6, h⟩ | ⟨hc6, h⟩
  ·
   refine jT hc6 ?_
   refine jp ?_
   obtain rfl := sj h
   exact zv lzz
  refine jF hc6 ?_
  refine zaY ?_
  refine jp ?_
  obtain rfl := sj h
  exact zv lzz
 refine jF hc5 ?_
 refine jp ?_
 rcases zm h with ⟨hc7, h⟩ | ⟨hc7, h⟩
 ·
  refine jT hc7 ?_
  refine jp ?_
  obtain rfl := sj h
  exact zv lzz
 refine jF hc7 ?_
 refine zaY ?_
 refine jp ?_
 obtain rfl := sj h
 exact zv lzz
theorem zhq {f : zd} {v : Int} {r : Bool} (h : zcA f v = some r) : FnOk Try.prog 41 [.rc za [0] f, .ep (Rp.int .i64) [0] v 0] [kB r] := by
 refine zz (E := ⟨[(3, kB r)], []⟩) 8 Try.func41 rfl rfl rfl ⟨rfl, trivial⟩ (fun Xt => ?_)
 refine zr ?_
 unfold zcA at h
 refine jq [11] ?_
 refine jp ?_
 obtain rfl := sj h
 exact zv lzz
abbrev znH := (mput ([] : (List (Int × zf))) 1 (⟨[105, 110, 116, 51, 50], 0⟩ : zf))
abbrev znI := (mput znH 2 (⟨[105, 110, 116, 54, 52], 0⟩ : zf))
abbrev znJ := (mput znI 3 (⟨[117, 105, 110, 116, 51, 50], 0⟩ : zf))
abbrev znK := (mput znJ 4 (⟨[117, 105, 110, 116, 54, 52], 0⟩ : zf))
abbrev znL := (mput znK 5 (⟨[115, 105, 110, 116, 51, 50], 0⟩ : zf))
abbrev znM := (mput znL 6 (⟨[115, 105, 110, 116, 54, 52], 0⟩ : zf))
abbrev znN := (mput znM 7 (⟨[98, 111, 111, 108], 0⟩ : zf))
abbrev znO := (mput znN 8 (⟨[101, 110, 117, 109], 0⟩ : zf))
abbrev znP := (mput znO 9 (⟨[102, 105, 120, 101, 100, 51, 50], 5⟩ : zf))
abbrev zlH := (mput znP 10 (⟨[115, 102, 105, 120, 101, 100, 51, 50], 5⟩ : zf))
abbrev zlI := (mput zlH 11 (⟨[102, 108, 111, 97, 116], 5⟩ : zf))
abbrev zlJ := (mput zlI 12 (⟨[102, 105, 120, 101, 100, 54, 52], 1⟩ : zf))
abbrev zlK := (mput zlJ 13 (⟨[115, 102, 105, 120, 101, 100, 54, 52], 1⟩ : zf))
abbrev zlL := (mput zlK 14 (⟨[100, 111, 117, 98, 108, 101], 1⟩ : zf))
abbrev zjU := (mput zlL 15 (⟨[115, 116, 114, 105, 110, 103], 2⟩ : zf))
theorem ziP  {r : (List (Int × zf))} (h : zeA = some r) : FnOk Try.prog 46 [] [.om (Rp.int .i64) zh 2 [] r] := by
 refine zz (E := ⟨[(0, .om (Rp.int .i64) zh 2 [] r)], []⟩) 20 Try.func46 rfl rfl rfl ⟨rfl, trivial⟩ (fun Xt => ?_)
 refine zr ?_
 unfold zeA at h
 refine jp ?_
 refine jr (rc 0 rfl (zhZ (rk := (Rp.int .i64)) (rv := zh) 12 rfl) (rc 0 rfl (zF (r := zh) [kS [105, 110, 116, 51, 50], kI 0] [] (⟨[105, 110, 116, 51, 50], 0⟩ : zf) rfl zdh rfl rfl) (rkl 0 [] ⟨[(1, .om (Rp.int .i64) zh 12 [] ([] : (List (Int × zf)))), (2, .rc zh [] (⟨[105, 110, 116, 51, 50], 0⟩ : zf))], []⟩ (zbh (rk := (Rp.int .i64)) (rv := zh) (m := ([] : (List (Int × zf)))) (C := []) (C1 := []) (D := []) [1] 1 (⟨[105, 110, 116, 51, 50], 0⟩ : zf) [] zbb rfl (.inr rfl) rfl rfl rfl rfl (zbE rfl rfl) (zbr rfl) (by kernel_rfl) rfl (rc 0 rfl (zF (r := zh) [kS [105, 110, 116, 54, 52], kI 0] [] (⟨[105, 110, 116, 54, 52], 0⟩ : zf) rfl zdh rfl rfl) (rkl 0 [] ⟨[(1, .om (Rp.int .i64) zh 12 [] znH), (3, .rc zh [] (⟨[105, 110, 116, 54, 52], 0⟩ : zf))], []⟩ (zbh (rk := (Rp.int .i64)) (rv := zh) (m := znH) (C := []) (C1 := []) (D := []) [1] 2 (⟨[105, 110, 116, 54, 52], 0⟩ : zf) [] zbb rfl (.inr rfl) rfl rfl rfl rfl (zbE rfl rfl) (zbr rfl) (by kernel_rfl) rfl (rc 0 rfl (zF (r := zh) [kS [117, 105, 110, 116, 51, 50], kI 0] [] (⟨[117, 105, 110, 116, 51, 50], 0⟩ : zf) rfl zdh rfl rfl) (rkl 0 [] ⟨[(1, .om (Rp.int .i64) zh 12 [] znI), (4, .rc zh [] (⟨[117, 105, 110, 116, 51, 50], 0⟩ : zf))], []⟩ (zbh (rk := (Rp.int .i64)) (rv := zh) (m := znI) (C := []) (C1 := []) (D := []) [1] 3 (⟨[117, 105, 110, 116, 51, 50], 0⟩ : zf) [] zbb rfl (.inr rfl) rfl rfl rfl rfl (zbE rfl rfl) (zbr rfl) (by kernel_rfl) rfl (rc 0 rfl (zF (r := zh) [kS [117, 105, 110, 116, 54, 52], kI 0] [] (⟨[117, 105, 110, 116, 54, 52], 0⟩ : zf) rfl zdh rfl rfl) (rkl 0 [] ⟨[(1, .om (Rp.int .i64) zh 12 [] znJ), (5, .rc zh [] (⟨[117, 105, 110, 116, 54, 52], 0⟩ : zf))], []⟩ (zbh (rk := (Rp.int .i64)) (rv := zh) (m := znJ) (C := []) (C1 := []) (D := []) [1] 4 (⟨[117, 105, 110, 116, 54, 52], 0⟩ : zf) [] zbb rfl (.inr rfl) rfl rfl rfl rfl (zbE rfl rfl) (zbr rfl) (by kernel_rfl) rfl (rc 0 rfl (zF (r := zh) [kS [115, 105, 110, 116, 51, 50], kI 0] [] (⟨[115, 105, 110, 116, 51, 50], 0⟩ : zf) rfl zdh rfl rfl) (rkl 0 [] ⟨[(1, .om (Rp.int .i64) zh 12 [] znK), (6, .rc zh [] (⟨[115, 105, 110, 116, 51, 50], 0⟩ : zf))], []⟩ (zbh (rk := (Rp.int .i64)) (rv := zh) (m := znK) (C := []) (C1 := []) (D := []) [1] 5 (⟨[115, 105, 110, 116, 51, 50], 0⟩ : zf) [] zbb rfl (.inr rfl) rfl rfl rfl rfl (zbE rfl rfl) (zbr rfl) (by kernel_rfl) rfl (rc 0 rfl (zF (r := zh) [kS [115, 105, 110, 116, 54, 52], kI 0] [] (⟨[115, 105, 110, 116, 54, 52], 0⟩ : zf) rfl zdh rfl rfl) (rkl 0 [] ⟨[(1, .om (Rp.int .i64) zh 12 [] znL), (7, .rc zh [] (⟨[115, 105, 110, 116, 54, 52], 0⟩ : zf))], []⟩ (zbh (rk := (Rp.int .i64)) (rv := zh) (m := znL) (C := []) (C1 := []) (D := []) [1] 6 (⟨[115, 105, 110, 116, 54, 52], 0⟩ : zf) [] zbb rfl (.inr rfl) rfl rfl rfl rfl (zbE rfl rfl) (zbr rfl) (by kernel_rfl) rfl (rc 0 rfl (zF (r := zh) [kS [98, 111, 111, 108], kI 0] [] (⟨[98, 111, 111, 108], 0⟩ : zf) rfl zdh rfl rfl) (rkl 0 [] ⟨[(1, .om (Rp.int .i64) zh 12 [] znM), (8, .rc zh [] (⟨[98, 111, 111, 108], 0⟩ : zf))], []⟩ (zbh (rk := (Rp.int .i64)) (rv := zh) (m := znM) (C := []) (C1 := []) (D := []) [1] 7 (⟨[98, 111, 111, 108], 0⟩ : zf) [] zbb rfl (.inr rfl) rfl rfl rfl rfl (zbE rfl rfl) (zbr rfl) (by kernel_rfl) rfl (rc 0 rfl (zF (r := zh) [kS [101, 110, 117, 109], kI 0] [] (⟨[101, 110, 117, 109], 0⟩ : zf) rfl zdh rfl rfl) (rkl 0 [] ⟨[(1, .om (Rp.int .i64) zh 12 [] znN), (9, .rc zh [] (⟨[101, 110, 117, 109], 0⟩ : zf))], []⟩ (zbh (rk := (Rp.int .i64)) (rv := zh) (m := znN) (C := []) (C1 := []) (D := []) [1] 8 (⟨[101, 110, 117, 109], 0⟩ : zf) [] zbb rfl (.inr rfl) rfl rfl rfl rfl (zbE rfl rfl) (zbr rfl) (by kernel_rfl) rfl (rc 0 rfl (zF (r := zh) [kS [102, 105, 120, 101, 100, 51, 50], kI 5] [] (⟨[102, 105, 120, 101, 100, 51, 50], 5⟩ : zf) rfl zdh rfl rfl) (rkl 0 [] ⟨[(1, .om (Rp.int .i64) zh 12 [] znO), (10, .rc zh [] (⟨[102, 105, 120, 101, 100, 51, 50], 5⟩ : zf))], []⟩ (zbh (rk := (Rp.int .i64)) (rv := zh) (m := znO) (C := []) (C1 := []) (D := []) [1] 9 (⟨[102, 105, 120, 101, 100, 51, 50], 5⟩ : zf) [] zbb rfl (.inr rfl) rfl rfl rfl rfl (zbE rfl rfl) (zbr rfl) (by kernel_rfl) rfl (rc 0 rfl (zF (r := zh) [kS [115, 102, 105, 120, 101, 100, 51, 50], kI 5] [] (⟨[115, 102, 105, 120, 101, 100, 51, 50], 5⟩ : zf) rfl zdh rfl rfl) (rkl 0 [] ⟨[(1, .om (Rp.int .i64) zh 12 [] znP), (11, .rc zh [] (⟨[115, 102, 105, 120, 101, 100, 51, 50], 5⟩ : zf))], []⟩ (zbh (rk := (Rp.int .i64)) (rv := zh) (m := znP) (C := []) (C1 := []) (D := []) [1] 10 (⟨[115, 102, 105, 120, 101, 100, 51, 50], 5⟩ : zf) [] zbb rfl (.inr rfl) rfl rfl rfl rfl (zbE rfl rfl) (zbr rfl) (by kernel_rfl) rfl (rc 0 rfl (zF (r := zh) [kS [102, 108, 111, 97, 116], kI 5] [] (⟨[102, 108, 111, 97, 116], 5⟩ : zf) rfl zdh rfl rfl) (rkl 0 [] ⟨[(1, .om (Rp.int .i64) zh 12 [] zlH), (12, .rc zh [] (⟨[102, 108, 111, 97, 116], 5⟩ : zf))], []⟩ (zbh (rk := (Rp.int .i64)) (rv := zh) (m := zlH) (C := []) (C1 := []) (D := []) [1] 11 (⟨[102, 108, 111, 97, 116], 5⟩ : zf) [] zbb rfl (.inr rfl) rfl rfl rfl rfl (zbE rfl rfl) (zbr rfl) (by kernel_rfl) rfl (rc 0 rfl (zF (r := zh) [kS [102, 105, 120, 101, 100, 54, 52], kI 1] [] (⟨[102, 105, 120, 101, 100, 54, 52], 1⟩ : zf) rfl zdh rfl rfl) (rkl 0 [] ⟨[(1, .om (Rp.int .i64) zh 12 [] zlI), (13, .rc zh [] (⟨[102, 105, 120, 101, 100, 54, 52], 1⟩ : zf))], []⟩ (zbh (rk := (Rp.int .i64)) (rv := zh) (m := zlI) (C := []) (C1 := []) (D := []) [1] 12 (⟨[102, 105, 120, 101, 100, 54, 52], 1⟩ : zf) [] zbb rfl (.inr rfl) rfl rfl rfl rfl (zbE rfl rfl) (zbr rfl) (by kernel_rfl) rfl (rc 0 rfl (zF (r := zh) [kS [115, 102, 105, 120, 101, 100, 54, 52], kI 1] [] (⟨[115, 102, 105, 120, 101, 100, 54, 52], 1⟩ : zf) rfl zdh rfl rfl) (rkl 0 [] ⟨[(1, .om (Rp.int .i64) zh 12 [] zlJ), (14, .rc zh [] (⟨[115, 102, 105, 120, 101, 100, 54, 52], 1⟩ : zf))], []⟩ (zbh (rk := (Rp.int .i64)) (rv := zh) (m := zlJ) (C := []) (C1 := []) (D := []) [1] 13 (⟨[115, 102, 105, 120, 101, 100, 54, 52], 1⟩ : zf) [] zbb rfl (.inr rfl) rfl rfl rfl rfl (zbE rfl rfl) (zbr rfl) (by kernel_rfl) rfl (rc 0 rfl (zF (r := zh) [kS [100, 111, 117, 98, 108, 101], kI 1] [] (⟨[100, 111, 117, 98, 108, 101], 1⟩ : zf) rfl zdh rfl rfl) (rkl 0 [] ⟨[(1, .om (Rp.int .i64) zh 12 [] zlK), (15, .rc zh [] (⟨[100, 111, 117, 98, 108, 101], 1⟩ : zf))], []⟩ (zbh (rk := (Rp.int .i64)) (rv := zh) (m := zlK) (C := []) (C1 := []) (D := []) [1] 14 (⟨[100, 111, 117, 98, 108, 101], 1⟩ : zf) [] zbb rfl (.inr rfl) rfl rfl rfl rfl (zbE rfl rfl) (zbr rfl) (by kernel_rfl) rfl (rc 0 rfl (zF (r := zh) [kS [115, 116, 114, 105, 110, 103], kI 2] [] (⟨[115, 116, 114, 105, 110, 103], 2⟩ : zf) rfl zdh rfl rfl) (rkl 0 [] ⟨[(1, .om (Rp.int .i64) zh 12 [] zlL), (16, .rc zh [] (⟨[115, 116, 114, 105, 110, 103], 2⟩ : zf))], []⟩ (zbh (rk := (Rp.int .i64)) (rv := zh) (m := zlL) (C := []) (C1 := []) (D := []) [1] 15 (⟨[115, 116, 114, 105, 110, 103], 2⟩ : zf) [] zbb rfl (.inr rfl) rfl rfl rfl rfl (zbE rfl rfl) (zbr rfl) (by kernel_rfl) rfl (rc 0 rfl (zF (r := zh) [kS [98, 121, 116, 101, 115], kI 2] [] (⟨[98, 121, 116, 101, 115], 2⟩ : zf) rfl zdh rfl rfl) (rkl 0 [] ⟨[(1, .om (Rp.int .i64) zh 12 [] zjU), (17, .rc zh [] (⟨[98, 121, 116, 101, 115], 2⟩ : zf))], []⟩ (zbh (rk := (Rp.int .i64)) (rv := zh) (m := zjU) (C := []) (C1 := []) (D := []) [1] 16 (⟨[98, 121, 116, 101, 115], 2⟩ : zf) [] zbb rfl (.inr rfl) rfl rfl rfl rfl (zbE rfl rfl) (zbr rfl) (by kernel_rfl) rfl (rc 0 rfl (zF (r := zh) [kS [109, 101, 115, 115, 97, 103, 101], kI 2] [] (⟨[109, 101, 115, 115, 97, 103, 101], 2⟩ : zf) rfl zdh rfl rfl) (rkl 0 [] ⟨[(1, .om (Rp.int .i64) zh 12 [] (mput zjU 16 (⟨[98, 121, 116, 101, 115], 2⟩ : zf))), (18, .rc zh [] (⟨[109, 101, 115, 115, 97, 103, 101], 2⟩ : zf))], []⟩ (zbh (rk := (Rp.int .i64)) (rv := zh) (m := (mput zjU 16 (⟨[98, 121, 116, 101, 115], 2⟩ : zf))) (C := []) (C1 := []) (D := []) [1] 17 (⟨[109, 101, 115, 115, 97, 103, 101], 2⟩ : zf) [] zbb rfl (.inr rfl) rfl rfl rfl rfl (zbE rfl rfl) (zbr rfl) (by kernel_rfl) rfl rf)))))))))))))))))))))))))))))))))))))))))))))))))))) ?_
 obtain rfl := sj h
 refine zv ?_
 refine lk [0] [] 12 2 ?_
 exact lzz
theorem zbJ {m : zi} {r : Bool} (h : zal m = some r) : FnOk Try.prog 7 [.rc zk [0] m] [kB r] := by
 refine zz (E := ⟨[(2, kB r)], []⟩) 7 Try.func7 rfl rfl rfl ⟨rfl, trivial⟩ (fun Xt => ?_)
 refine zr ?_
 unfold zal at h
 refine jr (ra 0 [.rc zk [0] m] rfl (zbO 11 [kS m.Name, .sl za [0] m.Fields] [0] rfl rfl rfl rfl rfl) rfl rf) ?_
 refine jp ?_
 obtain rfl := sj h
 exact zv lzz
theorem zbL {b : (List UInt8)} {atv : Int} {r : (Int × Int × Int)} (h : zax b atv = some r) : FnOk Try.prog 28 [.sl Rp.byte [0] b, kI atv] [kU r.1, kI r.2.1, kI r.2.2] := by
 refine zz (E := ⟨[(4, kU r.1), (5, kI r.2.1), (6, kI r.2.2)], []⟩) 69 Try.func28 rfl rfl rfl ⟨rfl, rfl, rfl, trivial⟩ (fun Xt => ?_)
 refine zr ?_
 unfold zax at h
 refine jp ?_
 refine jp ?_
 refine zQ ?_
 obtain ⟨q, h_q, h⟩ := bnd h
 refine zbA (fun s : Int => zL atv b s) (fun s => ⟨[(0, .sl Rp.byte [0] b), (1, kI atv), (7, kI s)], []⟩) (fun o e a w => e = .exit 0 ∧ Sx ⟨⟨69, []⟩, Xt, false, #[]⟩ ⟨[(0, .sl Rp.byte [0] b), (1, kI atv), (7, kI o)], []⟩ a w) ?_ h_q lzz ?_
 ·
  clear h
  intro n o h
  refine zr ?_
  replace h : zL atv b n = some o := h
  unfold zL at h
  obtain ⟨g, h_g, h⟩ := bnd h
  refine zR ⟨[(0, .sl Rp.byte [0] b), (1, kI atv), (7, kI n), (28, kB g)], []⟩ ?_ ?_
  ·
   refine (rsl 7 [] 16 (decide ((IntKind.i64.wrap (atv + n)) < (b.length : Int))) (fun hc1 => ?_) (fun hc1 => ?_))
   ·
    replace h_g := iteT h_g hc1
    refine (rsl 4 [] 20 (decide (n < 10)) (fun hc2 => ?_) (fun hc2 => ?_))
    ·
     replace h_g := iteT h_g hc2
     obtain ⟨x, h_x, h_g⟩ := bnd h_g
     obtain rfl := sj h_g
     exact (ra 4 [.sl Rp.byte [0] b, kI (IntKind.i64.wrap (atv + n))] rfl (zbx rfl zcG.el (zai _ _ _) h_x) rfl rgg)
    replace h_g := iteF h_g hc2
    obtain rfl := sj h_g
    exact rgg
   replace h_g := iteF h_g hc1
   obtain rfl := sj h_g
   exact rgg
  rcases zm h with ⟨hc3, h⟩ | ⟨hc3, h⟩
  ·
   refine jT hc3 ?_
   refine zQ ?_
   refine jp ?_
   refine zaY ?_
   obtain rfl := sj h
   exact zW lzz
  refine jF hc3 ?_
  obtain rfl := sj h
  exact zbB rfl lzz
 refine zch _ rfl ?_
 refine jp ?_
 rcases zm h with ⟨hc4, h⟩ | ⟨hc4, h⟩
 ·
  refine jT hc4 ?_
  refine jp ?_
  obtain rfl := sj h
  exact zv lzz
 refine jF hc4 ?_
 refine jp ?_
 rcases zm h with ⟨hc5, h⟩ | ⟨hc5, h⟩
 ·
  refine jT hc5 ?_
  refine jp ?_
  obtain rfl := sj h
  exact zv lzz
 refine jF hc5 ?_
 obtain ⟨g2, h_g2, h⟩ := bnd h
 refine zR ⟨[(0, .sl Rp.byte [0] b), (1, kI atv), (7, kI q), (49, kB g2)], []⟩ ?_ ?_
 ·
  refine (rsl 3 [] 41 (q == 9) (fun hc6 => ?_) (fun hc6 => ?_))
  ·
   replace h_g2 := iteT h_g2 hc6
   obtain ⟨x2, h_x2, h_g2⟩ := bnd h_g2
   obtain rfl := sj h_g2
   exact (ra 4 [.sl Rp.byte [0] b, kI (IntKind.i64.wrap (atv + q))] rfl (zbx rfl zcG.el (zai _ _ _) h_x2) rfl rgg)
  replace h_g2 := iteF h_g2 hc6
  obtain rfl := sj h_g2
  exact rgg
 rcases zm h with ⟨hc7, h⟩ | ⟨hc7, h⟩
 ·
  refine jT hc7 ?_
  refine jp ?_
  obtain rfl := sj h
  exact zv lzz
 refine jF hc7 ?_
 refine jp ?_
 refine jp ?_
 refine zQ ?_
 obtain ⟨q2, h_q2, h⟩ := bnd h
 refine zbA (fun s : (Int × Int) => zP atv b s.1 s.2) (fun s => ⟨[(0, .sl Rp.byte [0] b), (1, kI atv), (7, kI q), (8, kU s.1), (9, kI s.2)], []⟩) (fun o e a w => e = .exit 2 ∧ Sx ⟨⟨69, []⟩, Xt, false, #[]⟩ ⟨[(7, kI q), (8, kU o)], []⟩ a w) ?_ h_q2 lzz ?_
 ·
  clear h
  intro s o h
  obtain ⟨wv, i⟩ := s
  refine zr ?_
  replace h : zP atv b wv i = some o := h
  unfold zP at h
  refine jp ?_
  rcases zm h with ⟨hc8, h⟩ | ⟨hc8, h⟩
  ·
   refine jT hc8 ?_
   refine zQ ?_
   obtain ⟨x3, h_x3, h⟩ := bnd h
   refine jr (ra 6 [.sl Rp.byte [0] b, kI (IntKind.i64.wrap (atv + i))] rfl (zbx rfl zcG.el (zai _ _ _) h_x3) rfl rf) ?_
   refine zaY ?_
   refine jp ?_
   obtain rfl := sj h
   exact zW lzz
  refine jF hc8 ?_
  obtain rfl := sj h
  exact zbB rfl lzz
 refine zch _ rfl ?_
 refine jp ?_
 obtain rfl := sj h
 exact zv lzz
theorem zeT {number : Int} {wire : Int} {r : Bool} (h : zaW number wire = some r) : FnOk Try.prog 35 [kI number, kI wire] [kB r] := by
 refine zz (E := ⟨[(4, kB r)], []⟩) 27 Try.func35 rfl rfl rfl ⟨rfl, trivial⟩ (fun Xt => ?_)
 refine zr ?_
 unfold zaW at h
 refine jp ?_
 refine zR ⟨[(4, kB ((decide (number ≥ 1)) && ((decide (number ≤ 536870911)) && ((wire == 0) || ((wire == 1) || ((wire == 2) || (wire == 5)))))))], []⟩ ?_ ?_
 ·
  refine (rsl 3 [] 7 (decide (number ≥ 1)) (fun hc1 => ?_) (fun hc1 => ?_))
  ·
   refine (rsl 4 [] 11 (decide (number ≤ 536870911)) (fun hc2 => ?_) (fun hc2 => ?_))
   ·
    refine (rsl 3 [] 14 (wire == 0) (fun hc3 => ?_) (fun hc3 => ?_))
    · exact (rbl [] 4 true ((decide (number ≥ 1)) && ((decide (number ≤ 536870911)) && ((wire == 0) || ((wire == 1) || ((wire == 2) || (wire == 5)))))) (by rw [hc1, hc2, hc3] <;> rfl))
    refine (rsl 4 [] 18 (wire == 1) (fun hc4 => ?_) (fun hc4 => ?_))
    · exact (rbl [] 4 true ((decide (number ≥ 1)) && ((decide (number ≤ 536870911)) && ((wire == 0) || ((wire == 1) || ((wire == 2) || (wire == 5)))))) (by rw [hc1, hc2, hc3, hc4] <;> rfl))
    refine (rsl 4 [] 22 (wire == 2) (fun hc5 => ?_) (fun hc5 => ?_))
    · exact (rbl [] 4 true ((decide (number ≥ 1)) && ((decide (number ≤ 536870911)) && ((wire == 0) || ((wire == 1) || ((wire == 2) || (wire == 5)))))) (by rw [hc1, hc2, hc3, hc4, hc5] <;> rfl))
    exact (rbl [] 4 (wire == 5) ((decide (number ≥ 1)) && ((decide (number ≤ 536870911)) && ((wire == 0) || ((wire == 1) || ((wire == 2) || (wire == 5)))))) (by rw [hc1, hc2, hc3, hc4, hc5] <;> rfl))
   exact (rbl [] 4 false ((decide (number ≥ 1)) && ((decide (number ≤ 536870911)) && ((wire == 0) || ((wire == 1) || ((wire == 2) || (wire == 5)))))) (by rw [hc1, hc2] <;> rfl))
  exact (rbl [] 4 false ((decide (number ≥ 1)) && ((decide (number ≤ 536870911)) && ((wire == 0) || ((wire == 1) || ((wire == 2) || (wire == 5)))))) (by rw [hc1] <;> rfl))
 obtain rfl := sj h
 exact zv lzz
theorem zcC {m : zi} {number : Int} {r : Int} (h : zaq m number = some r) : FnOk Try.prog 18 [.rc zk [0] m, kI number] [kI r] := by
 refine zz (E := ⟨[(4, kI r)], []⟩) 22 Try.func18 rfl rfl rfl ⟨rfl, trivial⟩ (fun Xt => ?_)
 refine zr ?_
 unfold zaq at h
 refine jr (ra 0 [.rc zk [0] m] rfl (zbO 11 [kS m.Name, .sl za [0] m.Fields] [0] rfl rfl rfl rfl rfl) rfl rf) ?_
 refine jp ?_
 refine zQ ?_
 obtain ⟨q, h_q, h⟩ := bnd h
 refine zbA (fun s : Int => zM m number s) (fun s => ⟨[(1, kI number), (2, .ptr 11 0), (5, kI s)], [⟨11, 24, [kS m.Name, .sl za [0] m.Fields]⟩]⟩) (fun o e a w => match o with | (.inl v_) => e = .exit 0 ∧ Sx ⟨⟨22, []⟩, Xt, false, #[]⟩ ⟨[], []⟩ a w | (.inr v_) => e = .ret ∧ Sx ⟨⟨22, []⟩, Xt, false, #[]⟩ ⟨[(4, kI v_)], []⟩ a w) ?_ h_q lzz ?_
 ·
  clear h
  intro i o h
  refine zr ?_
  replace h : zM m number i = some o := h
  unfold zM at h
  refine jp ?_
  rcases zm h with ⟨hc1, h⟩ | ⟨hc1, h⟩
  ·
   refine jT hc1 ?_
   refine zQ ?_
   obtain ⟨x, h_x, h⟩ := bnd h
   refine jr (ra 3 [.sl za [0] m.Fields, kI i] rfl (zbx rfl zfp.el (zai _ _ _) h_x) rfl rf) ?_
   rcases zm h with ⟨hc2, h⟩ | ⟨hc2, h⟩
   ·
    refine jT hc2 ?_
    refine jp ?_
    obtain rfl := sj h
    exact zdW lzz
   refine jF hc2 ?_
   refine zaY ?_
   refine jp ?_
   obtain rfl := sj h
   exact zW lzz
  refine jF hc1 ?_
  obtain rfl := sj h
  exact zbB rfl lzz
 rcases q with u | u2
 ·
  refine zch _ rfl ?_
  refine jp ?_
  obtain rfl := sj h
  exact zv lzz
 obtain rfl := sj h
 exact zez lzz
theorem zex {k : Int} {r : Bool} (h : zaN k = some r) : FnOk Try.prog 21 [kI k] [kB r] := by
 refine zz (E := ⟨[(2, kB r)], []⟩) 9 Try.func21 rfl rfl rfl ⟨rfl, trivial⟩ (fun Xt => ?_)
 refine zr ?_
 unfold zaN at h
 refine jp ?_
 refine zR ⟨[(2, kB ((decide (k ≥ 1)) && (decide (k ≤ 14))))], []⟩ ?_ ?_
 ·
  refine (rsl 3 [] 5 (decide (k ≥ 1)) (fun hc1 => ?_) (fun hc1 => ?_))
  · exact (rbl [] 2 (decide (k ≤ 14)) ((decide (k ≥ 1)) && (decide (k ≤ 14))) (by rw [hc1] <;> rfl))
  exact (rbl [] 2 false ((decide (k ≥ 1)) && (decide (k ≤ 14))) (by rw [hc1] <;> rfl))
 obtain rfl := sj h
 exact zv lzz
theorem zcB {k : Int} {r : Bool} (h : zaX k = some r) : FnOk Try.prog 22 [kI k] [kB r] := by
 refine zz (E := ⟨[(2, kB r)], []⟩) 9 Try.func22 rfl rfl rfl ⟨rfl, trivial⟩ (fun Xt => ?_)
 refine zr ?_
 unfold zaX at h
 refine jp ?_
 refine zR ⟨[(2, kB ((decide (k ≥ 1)) && (decide (k ≤ 17))))], []⟩ ?_ ?_
 ·
  refine (rsl 3 [] 5 (decide (k ≥ 1)) (fun hc1 => ?_) (fun hc1 => ?_))
  · exact (rbl [] 2 (decide (k ≤ 17)) ((decide (k ≥ 1)) && (decide (k ≤ 17))) (by rw [hc1] <;> rfl))
  exact (rbl [] 2 false ((decide (k ≥ 1)) && (decide (k ≤ 17))) (by rw [hc1] <;> rfl))
 obtain rfl := sj h
 exact zv lzz
theorem zfc {k : Int} {r : Int} (h : zbf k = some r) : FnOk Try.prog 23 [kI k] [kI r] := by
 refine zz (E := ⟨[(2, kI r)], []⟩) 9 Try.func23 rfl rfl rfl ⟨rfl, trivial⟩ (fun Xt => ?_)
 refine zr ?_
 unfold zbf at h
 refine jp ?_
 refine jp ?_
 rcases zm h with ⟨hc1, h⟩ | ⟨hc1, h⟩
 ·
  refine jT hc1 ?_
  refine jp ?_
  obtain rfl := sj h
  exact zv lzz
 refine jF hc1 ?_
 refine jp ?_
 rcases zm h with ⟨hc2, h⟩ | ⟨hc2, h⟩
 ·
  refine jT hc2 ?_
  refine jp ?_
  obtain rfl := sj h
  exact zv lzz
 refine jF hc2 ?_
 refine jp ?_
 rcases zm h with ⟨hc3, h⟩ | ⟨hc3, h⟩
 ·
  refine jT hc3 ?_
  refine jp ?_
  obtain rfl := sj h
  exact zv lzz
 refine jF hc3 ?_
 refine jp ?_
 obtain rfl := sj h
 exact zv lzz
theorem zbK {av : zb} {b : zn} {r : Bool} (h : zam av b = some r) : FnOk Try.prog 12 [.rc zc [0] av, .rc zp [0] b] [kB r] := by
 refine zz (E := ⟨[(4, kB r)], []⟩) 24 Try.func12 rfl rfl rfl ⟨rfl, trivial⟩ (fun Xt => ?_)
 refine zr ?_
 unfold zam at h
 refine jq [11, 12] ?_
 refine zR ⟨[(4, kB ((decide (av.Record = b.R)) && ((av.Field == b.Field) && (av.Run == b.Run))))], []⟩ ?_ ?_
 ·
  refine (lb 1 zg [] av.Record (lb 1 zg [] b.R (ra 0 [.rc zg [] av.Record, .rc zg [] b.R] rfl (zpK rfl Try.eqGuardType35 rfl rfl (zqb _ _)) rfl (rsl 1 [] 10 (decide (av.Record = b.R)) (fun hc1 => ?_) (fun hc1 => ?_)))))
  ·
   refine (rsl 7 [] 17 (av.Field == b.Field) (fun hc2 => ?_) (fun hc2 => ?_))
   · exact (rbl [] 4 (av.Run == b.Run) ((decide (av.Record = b.R)) && ((av.Field == b.Field) && (av.Run == b.Run))) (by rw [hc1, hc2] <;> rfl))
   exact (rbl [] 4 false ((decide (av.Record = b.R)) && ((av.Field == b.Field) && (av.Run == b.Run))) (by rw [hc1, hc2] <;> rfl))
  exact (rbl [] 4 false ((decide (av.Record = b.R)) && ((av.Field == b.Field) && (av.Run == b.Run))) (by rw [hc1] <;> rfl))
 obtain rfl := sj h
 exact zv lzz
theorem zdt {n : Int} {r : (List UInt8)} (h : zao n = some r) : FnOk Try.prog 44 [kN, kI n] [.own Rp.byte 5 2 [] r] := by
 refine zz (E := ⟨[(4, .own Rp.byte 5 2 [] r)], []⟩) 27 Try.func44 rfl rfl rfl ⟨rfl, trivial⟩ (fun Xt => ?_)
 refine zr ?_
 unfold zao at h
 refine jp ?_
 refine jp ?_
 rcases zm h with ⟨hc1, h⟩ | ⟨hc1, h⟩
 ·
  refine jT hc1 ?_
  exact absurd h nofun
 refine jF hc1 ?_
 refine jr (ra 2 [kN] rfl (zjo rfl Try.underlying25) rfl rf) ?_
 refine jp ?_
 rcases zm h with ⟨hc2, h⟩ | ⟨hc2, h⟩
 ·
  refine jT hc2 ?_
  obtain ⟨v, h_v, h⟩ := bnd h
  obtain ⟨v2, h_v2, h⟩ := bnd h
  refine jr (ra 2 [kN] rfl (zjo rfl Try.underlying25) rfl (ra 0 [kN, kI 0] rfl (zmQ rfl zcG.el) rfl (ra 1 [kN, kI (IntKind.i64.wrap (n - (IntKind.i64.wrap (0 - 0))))] rfl (zpa 12 rfl Try.underlying3 zcG rfl h_v) rfl (ra 2 [.own Rp.byte 5 12 [] v, kI 0] rfl (zpc rfl zcG.el h_v2) rfl rf)))) ?_
  refine jp ?_
  obtain rfl := sj h
  refine zv ?_
  refine lk [4] [] 12 2 ?_
  exact lzz
 refine jF hc2 ?_
 refine jp ?_
 obtain rfl := sj h
 refine zv ?_
 refine zeP ⟨[(4, kN)], []⟩ (by kernel_rfl) ?_
 refine zem 4 (.own Rp.byte 5 2 [] ([] : (List UInt8))) rfl (zaZ Rp.byte 5 2 [] rfl) ?_
 exact lzz
theorem zcY {av : (List UInt8)} {b : (List UInt8)} {r : Bool} (h : zaJ av b = some r) : FnOk Try.prog 16 [.sl Rp.byte [0] av, .sl Rp.byte [0] b] [kB r] := by
 refine zz (E := ⟨[(4, kB r)], []⟩) 10 Try.func16 rfl rfl rfl ⟨rfl, trivial⟩ (fun Xt => ?_)
 refine zr ?_
 unfold zaJ at h
 refine jp ?_
 refine jr (ra 1 [.sl Rp.byte [0] av] rfl (znT rfl Try.underlying25 Try.underlying5 Try.underlying9 (zai _ _ _)) rfl (ra 1 [.sl Rp.byte [0] b] rfl (znT rfl Try.underlying25 Try.underlying5 Try.underlying9 (zai _ _ _)) rfl rf)) ?_
 obtain rfl := sj h
 exact zv lzz
end Go.Proofs.Ytdpolccecmaajaa
