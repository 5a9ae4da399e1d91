/-
  The Go functions do what the plain functions say. No condition.
-/
import Derived.Test.YtnfembipjdohcaaGreatT
namespace Go.Proofs.YtnfembipjdohcaaGreat
open Go Go.RowKit
set_option linter.unusedVariables false
set_option maxRecDepth 100000
set_option maxHeartbeats 3200000
abbrev ztE := (mput ([] : (List (Int × zp))) 1 (⟨[105, 110, 116, 51, 50], 0⟩ : zp))
abbrev ztF := (mput ztE 2 (⟨[105, 110, 116, 54, 52], 0⟩ : zp))
abbrev ztG := (mput ztF 3 (⟨[117, 105, 110, 116, 51, 50], 0⟩ : zp))
abbrev ztH := (mput ztG 4 (⟨[117, 105, 110, 116, 54, 52], 0⟩ : zp))
abbrev ztI := (mput ztH 5 (⟨[115, 105, 110, 116, 51, 50], 0⟩ : zp))
abbrev ztJ := (mput ztI 6 (⟨[115, 105, 110, 116, 54, 52], 0⟩ : zp))
abbrev ztK := (mput ztJ 7 (⟨[98, 111, 111, 108], 0⟩ : zp))
abbrev ztL := (mput ztK 8 (⟨[101, 110, 117, 109], 0⟩ : zp))
abbrev ztM := (mput ztL 9 (⟨[102, 105, 120, 101, 100, 51, 50], 5⟩ : zp))
abbrev zqL := (mput ztM 10 (⟨[115, 102, 105, 120, 101, 100, 51, 50], 5⟩ : zp))
abbrev zqM := (mput zqL 11 (⟨[102, 108, 111, 97, 116], 5⟩ : zp))
abbrev zqN := (mput zqM 12 (⟨[102, 105, 120, 101, 100, 54, 52], 1⟩ : zp))
abbrev zqO := (mput zqN 13 (⟨[115, 102, 105, 120, 101, 100, 54, 52], 1⟩ : zp))
abbrev zqP := (mput zqO 14 (⟨[100, 111, 117, 98, 108, 101], 1⟩ : zp))
abbrev zoy := (mput zqP 15 (⟨[115, 116, 114, 105, 110, 103], 2⟩ : zp))
theorem ziV  {r : (List (Int × zp))} (h : zfB = some r) : FnOk Tryz.prog 46 [] [.om (Rp.int .i64) zu 2 [] r] := by
 refine zx (E := ⟨[(0, .om (Rp.int .i64) zu 2 [] r)], []⟩) 20 Tryz.func46 rfl rfl rfl ⟨rfl, trivial⟩ (fun Xt => ?_)
 refine zr ?_
 unfold zfB at h
 refine jp ?_
 refine jr (rc 0 rfl (zij (rk := (Rp.int .i64)) (rv := zu) 12 rfl) (rc 0 rfl (zC (r := zu) [kS [105, 110, 116, 51, 50], kI 0] [] (⟨[105, 110, 116, 51, 50], 0⟩ : zp) rfl zdw rfl rfl) (rkl 0 [] ⟨[(1, .om (Rp.int .i64) zu 12 [] ([] : (List (Int × zp)))), (2, .rc zu [] (⟨[105, 110, 116, 51, 50], 0⟩ : zp))], []⟩ (zcz (rk := (Rp.int .i64)) (rv := zu) (m := ([] : (List (Int × zp)))) (C := []) (C1 := []) (D := []) [1] 1 (⟨[105, 110, 116, 51, 50], 0⟩ : zp) [] zcm rfl (.inr rfl) rfl rfl rfl rfl (zcD rfl rfl) (zbo rfl) (by kernel_rfl) rfl (rc 0 rfl (zC (r := zu) [kS [105, 110, 116, 54, 52], kI 0] [] (⟨[105, 110, 116, 54, 52], 0⟩ : zp) rfl zdw rfl rfl) (rkl 0 [] ⟨[(1, .om (Rp.int .i64) zu 12 [] ztE), (3, .rc zu [] (⟨[105, 110, 116, 54, 52], 0⟩ : zp))], []⟩ (zcz (rk := (Rp.int .i64)) (rv := zu) (m := ztE) (C := []) (C1 := []) (D := []) [1] 2 (⟨[105, 110, 116, 54, 52], 0⟩ : zp) [] zcm rfl (.inr rfl) rfl rfl rfl rfl (zcD rfl rfl) (zbo rfl) (by kernel_rfl) rfl (rc 0 rfl (zC (r := zu) [kS [117, 105, 110, 116, 51, 50], kI 0] [] (⟨[117, 105, 110, 116, 51, 50], 0⟩ : zp) rfl zdw rfl rfl) (rkl 0 [] ⟨[(1, .om (Rp.int .i64) zu 12 [] ztF), (4, .rc zu [] (⟨[117, 105, 110, 116, 51, 50], 0⟩ : zp))], []⟩ (zcz (rk := (Rp.int .i64)) (rv := zu) (m := ztF) (C := []) (C1 := []) (D := []) [1] 3 (⟨[117, 105, 110, 116, 51, 50], 0⟩ : zp) [] zcm rfl (.inr rfl) rfl rfl rfl rfl (zcD rfl rfl) (zbo rfl) (by kernel_rfl) rfl (rc 0 rfl (zC (r := zu) [kS [117, 105, 110, 116, 54, 52], kI 0] [] (⟨[117, 105, 110, 116, 54, 52], 0⟩ : zp) rfl zdw rfl rfl) (rkl 0 [] ⟨[(1, .om (Rp.int .i64) zu 12 [] ztG), (5, .rc zu [] (⟨[117, 105, 110, 116, 54, 52], 0⟩ : zp))], []⟩ (zcz (rk := (Rp.int .i64)) (rv := zu) (m := ztG) (C := []) (C1 := []) (D := []) [1] 4 (⟨[117, 105, 110, 116, 54, 52], 0⟩ : zp) [] zcm rfl (.inr rfl) rfl rfl rfl rfl (zcD rfl rfl) (zbo rfl) (by kernel_rfl) rfl (rc 0 rfl (zC (r := zu) [kS [115, 105, 110, 116, 51, 50], kI 0] [] (⟨[115, 105, 110, 116, 51, 50], 0⟩ : zp) rfl zdw rfl rfl) (rkl 0 [] ⟨[(1, .om (Rp.int .i64) zu 12 [] ztH), (6, .rc zu [] (⟨[115, 105, 110, 116, 51, 50], 0⟩ : zp))], []⟩ (zcz (rk := (Rp.int .i64)) (rv := zu) (m := ztH) (C := []) (C1 := []) (D := []) [1] 5 (⟨[115, 105, 110, 116, 51, 50], 0⟩ : zp) [] zcm rfl (.inr rfl) rfl rfl rfl rfl (zcD rfl rfl) (zbo rfl) (by kernel_rfl) rfl (rc 0 rfl (zC (r := zu) [kS [115, 105, 110, 116, 54, 52], kI 0] [] (⟨[115, 105, 110, 116, 54, 52], 0⟩ : zp) rfl zdw rfl rfl) (rkl 0 [] ⟨[(1, .om (Rp.int .i64) zu 12 [] ztI), (7, .rc zu [] (⟨[115, 105, 110, 116, 54, 52], 0⟩ : zp))], []⟩ (zcz (rk := (Rp.int .i64)) (rv := zu) (m := ztI) (C := []) (C1 := []) (D := []) [1] 6 (⟨[115, 105, 110, 116, 54, 52], 0⟩ : zp) [] zcm rfl (.inr rfl) rfl rfl rfl rfl (zcD rfl rfl) (zbo rfl) (by kernel_rfl) rfl (rc 0 rfl (zC (r := zu) [kS [98, 111, 111, 108], kI 0] [] (⟨[98, 111, 111, 108], 0⟩ : zp) rfl zdw rfl rfl) (rkl 0 [] ⟨[(1, .om (Rp.int .i64) zu 12 [] ztJ), (8, .rc zu [] (⟨[98, 111, 111, 108], 0⟩ : zp))], []⟩ (zcz (rk := (Rp.int .i64)) (rv := zu) (m := ztJ) (C := []) (C1 := []) (D := []) [1] 7 (⟨[98, 111, 111, 108], 0⟩ : zp) [] zcm rfl (.inr rfl) rfl rfl rfl rfl (zcD rfl rfl) (zbo rfl) (by kernel_rfl) rfl (rc 0 rfl (zC (r := zu) [kS [101, 110, 117, 109], kI 0] [] (⟨[101, 110, 117, 109], 0⟩ : zp) rfl zdw rfl rfl) (rkl 0 [] ⟨[(1, .om (Rp.int .i64) zu 12 [] ztK), (9, .rc zu [] (⟨[101, 110, 117, 109], 0⟩ : zp))], []⟩ (zcz (rk := (Rp.int .i64)) (rv := zu) (m := ztK) (C := []) (C1 := []) (D := []) [1] 8 (⟨[101, 110, 117, 109], 0⟩ : zp) [] zcm rfl (.inr rfl) rfl rfl rfl rfl (zcD rfl rfl) (zbo rfl) (by kernel_rfl) rfl (rc 0 rfl (zC (r := zu) [kS [102, 105, 120, 101, 100, 51, 50], kI 5] [] (⟨[102, 105, 120, 101, 100, 51, 50], 5⟩ : zp) rfl zdw rfl rfl) (rkl 0 [] ⟨[(1, .om (Rp.int .i64) zu 12 [] ztL), (10, .rc zu [] (⟨[102, 105, 120, 101, 100, 51, 50], 5⟩ : zp))], []⟩ (zcz (rk := (Rp.int .i64)) (rv := zu) (m := ztL) (C := []) (C1 := []) (D := []) [1] 9 (⟨[102, 105, 120, 101, 100, 51, 50], 5⟩ : zp) [] zcm rfl (.inr rfl) rfl rfl rfl rfl (zcD rfl rfl) (zbo rfl) (by kernel_rfl) rfl (rc 0 rfl (zC (r := zu) [kS [115, 102, 105, 120, 101, 100, 51, 50], kI 5] [] (⟨[115, 102, 105, 120, 101, 100, 51, 50], 5⟩ : zp) rfl zdw rfl rfl) (rkl 0 [] ⟨[(1, .om (Rp.int .i64) zu 12 [] ztM), (11, .rc zu [] (⟨[115, 102, 105, 120, 101, 100, 51, 50], 5⟩ : zp))], []⟩ (zcz (rk := (Rp.int .i64)) (rv := zu) (m := ztM) (C := []) (C1 := []) (D := []) [1] 10 (⟨[115, 102, 105, 120, 101, 100, 51, 50], 5⟩ : zp) [] zcm rfl (.inr rfl) rfl rfl rfl rfl (zcD rfl rfl) (zbo rfl) (by kernel_rfl) rfl (rc 0 rfl (zC (r := zu) [kS [102, 108, 111, 97, 116], kI 5] [] (⟨[102, 108, 111, 97, 116], 5⟩ : zp) rfl zdw rfl rfl) (rkl 0 [] ⟨[(1, .om (Rp.int .i64) zu 12 [] zqL), (12, .rc zu [] (⟨[102, 108, 111, 97, 116], 5⟩ : zp))], []⟩ (zcz (rk := (Rp.int .i64)) (rv := zu) (m := zqL) (C := []) (C1 := []) (D := []) [1] 11 (⟨[102, 108, 111, 97, 116], 5⟩ : zp) [] zcm rfl (.inr rfl) rfl rfl rfl rfl (zcD rfl rfl) (zbo rfl) (by kernel_rfl) rfl (rc 0 rfl (zC (r := zu) [kS [102, 105, 120, 101, 100, 54, 52], kI 1] [] (⟨[102, 105, 120, 101, 100, 54, 52], 1⟩ : zp) rfl zdw rfl rfl) (rkl 0 [] ⟨[(1, .om (Rp.int .i64) zu 12 [] zqM), (13, .rc zu [] (⟨[102, 105, 120, 101, 100, 54, 52], 1⟩ : zp))], []⟩ (zcz (rk := (Rp.int .i64)) (rv := zu) (m := zqM) (C := []) (C1 := []) (D := []) [1] 12 (⟨[102, 105, 120, 101, 100, 54, 52], 1⟩ : zp) [] zcm rfl (.inr rfl) rfl rfl rfl rfl (zcD rfl rfl) (zbo rfl) (by kernel_rfl) rfl (rc 0 rfl (zC (r := zu) [kS [115, 102, 105, 120, 101, 100, 54, 52], kI 1] [] (⟨[115, 102, 105, 120, 101, 100, 54, 52], 1⟩ : zp) rfl zdw rfl rfl) (rkl 0 [] ⟨[(1, .om (Rp.int .i64) zu 12 [] zqN), (14, .rc zu [] (⟨[115, 102, 105, 120, 101, 100, 54, 52], 1⟩ : zp))], []⟩ (zcz (rk := (Rp.int .i64)) (rv := zu) (m := zqN) (C := []) (C1 := []) (D := []) [1] 13 (⟨[115, 102, 105, 120, 101, 100, 54, 52], 1⟩ : zp) [] zcm rfl (.inr rfl) rfl rfl rfl rfl (zcD rfl rfl) (zbo rfl) (by kernel_rfl) rfl (rc 0 rfl (zC (r := zu) [kS [100, 111, 117, 98, 108, 101], kI 1] [] (⟨[100, 111, 117, 98, 108, 101], 1⟩ : zp) rfl zdw rfl rfl) (rkl 0 [] ⟨[(1, .om (Rp.int .i64) zu 12 [] zqO), (15, .rc zu [] (⟨[100, 111, 117, 98, 108, 101], 1⟩ : zp))], []⟩ (zcz (rk := (Rp.int .i64)) (rv := zu) (m := zqO) (C := []) (C1 := []) (D := []) [1] 14 (⟨[100, 111, 117, 98, 108, 101], 1⟩ : zp) [] zcm rfl (.inr rfl) rfl rfl rfl rfl (zcD rfl rfl) (zbo rfl) (by kernel_rfl) rfl (rc 0 rfl (zC (r := zu) [kS [115, 116, 114, 105, 110, 103], kI 2] [] (⟨[115, 116, 114, 105, 110, 103], 2⟩ : zp) rfl zdw rfl rfl) (rkl 0 [] ⟨[(1, .om (Rp.int .i64) zu 12 [] zqP), (16, .rc zu [] (⟨[115, 116, 114, 105, 110, 103], 2⟩ : zp))], []⟩ (zcz (rk := (Rp.int .i64)) (rv := zu) (m := zqP) (C := []) (C1 := []) (D := []) [1] 15 (⟨[115, 116, 114, 105, 110, 103], 2⟩ : zp) [] zcm rfl (.inr rfl) rfl rfl rfl rfl (zcD rfl rfl) (zbo rfl) (by kernel_rfl) rfl (rc 0 rfl (zC (r := zu) [kS [98, 121, 116, 101, 115], kI 2] [] (⟨[98, 121, 116, 101, 115], 2⟩ : zp) rfl zdw rfl rfl) (rkl 0 [] ⟨[(1, .om (Rp.int .i64) zu 12 [] zoy), (17, .rc zu [] (⟨[98, 121, 116, 101, 115], 2⟩ : zp))], []⟩ (zcz (rk := (Rp.int .i64)) (rv := zu) (m := zoy) (C := []) (C1 := []) (D := []) [1] 16 (⟨[98, 121, 116, 101, 115], 2⟩ : zp) [] zcm rfl (.inr rfl) rfl rfl rfl rfl (zcD rfl rfl) (zbo rfl) (by kernel_rfl) rfl (rc 0 rfl (zC (r := zu) [kS [109, 101, 115, 115, 97, 103, 101], kI 2] [] (⟨[109, 101, 115, 115, 97, 103, 101], 2⟩ : zp) rfl zdw rfl rfl) (rkl 0 [] ⟨[(1, .om (Rp.int .i64) zu 12 [] (mput zoy 16 (⟨[98, 121, 116, 101, 115], 2⟩ : zp))), (18, .rc zu [] (⟨[109, 101, 115, 115, 97, 103, 101], 2⟩ : zp))], []⟩ (zcz (rk := (Rp.int .i64)) (rv := zu) (m := (mput zoy 16 (⟨[98, 121, 116, 101, 115], 2⟩ : zp))) (C := []) (C1 := []) (D := []) [1] 17 (⟨[109, 101, 115, 115, 97, 103, 101], 2⟩ : zp) [] zcm rfl (.inr rfl) rfl rfl rfl rfl (zcD rfl rfl) (zbo rfl) (by kernel_rfl) rfl rf)))))))))))))))))))))))))))))))))))))))))))))))))))) ?_
 obtain rfl := sj h
 refine zv ?_
 refine lk [0] [] 12 2 ?_
 exact lzz
theorem zgc {c : Int} {r : Bool} (h : zcM c = some r) : FnOk Tryz.prog 62 [k8 c] [kB r] := by
 refine zx (E := ⟨[(2, kB r)], []⟩) 9 Tryz.func62 rfl rfl rfl ⟨rfl, trivial⟩ (fun Xt => ?_)
 refine zr ?_
 unfold zcM at h
 refine jp ?_
 refine zE ⟨[(2, kB ((decide (c ≥ 48)) && (decide (c ≤ 57))))], []⟩ ?_ ?_
 ·
  refine (rsl 3 [] 5 (decide (c ≥ 48)) (fun hc1 => ?_) (fun hc1 => ?_))
  · exact (rbl [] 2 (decide (c ≤ 57)) ((decide (c ≥ 48)) && (decide (c ≤ 57))) (by rw [hc1] <;> rfl))
  exact (rbl [] 2 false ((decide (c ≥ 48)) && (decide (c ≤ 57))) (by rw [hc1] <;> rfl))
 obtain rfl := sj h
 exact zv lzz
theorem zjs {c : Int} {r : Bool} (h : zdb c = some r) : FnOk Tryz.prog 63 [k8 c] [kB r] := by
 refine zx (E := ⟨[(2, kB r)], []⟩) 21 Tryz.func63 rfl rfl rfl ⟨rfl, trivial⟩ (fun Xt => ?_)
 refine zr ?_
 unfold zdb at h
 refine jp ?_
 refine zE ⟨[(2, kB (if (decide (c ≥ 97)) then ((decide (c ≤ 122)) || (if (decide (c ≥ 65)) then ((decide (c ≤ 90)) || (c == 95)) else (c == 95))) else (if (decide (c ≥ 65)) then ((decide (c ≤ 90)) || (c == 95)) else (c == 95))))], []⟩ ?_ ?_
 ·
  refine (rsl 3 [] 5 (decide (c ≥ 97)) (fun hc1 => ?_) (fun hc1 => ?_))
  ·
   refine (rsl 4 [] 9 (decide (c ≤ 122)) (fun hc2 => ?_) (fun hc2 => ?_))
   · exact (rbl [] 2 true (if (decide (c ≥ 97)) then ((decide (c ≤ 122)) || (if (decide (c ≥ 65)) then ((decide (c ≤ 90)) || (c == 95)) else (c == 95))) else (if (decide (c ≥ 65)) then ((decide (c ≤ 90)) || (c == 95)) else (c == 95))) (by rw [hc1, hc2] <;> rfl))
   refine (rsl 3 [] 12 (decide (c ≥ 65)) (fun hc3 => ?_) (fun hc3 => ?_))
   ·
    refine (rsl 5 [] 17 (decide (c ≤ 90)) (fun hc4 => ?_) (fun hc4 => ?_))
    · exact (rbl [] 2 true (if (decide (c ≥ 97)) then ((decide (c ≤ 122)) || (if (decide (c ≥ 65)) then ((decide (c ≤ 90)) || (c == 95)) else (c == 95))) else (if (decide (c ≥ 65)) then ((decide (c ≤ 90)) || (c == 95)) else (c == 95))) (by rw [hc1, hc2, hc3, hc4] <;> rfl))
    exact (rbl [] 2 (c == 95) (if (decide (c ≥ 97)) then ((decide (c ≤ 122)) || (if (decide (c ≥ 65)) then ((decide (c ≤ 90)) || (c == 95)) else (c == 95))) else (if (decide (c ≥ 65)) then ((decide (c ≤ 90)) || (c == 95)) else (c == 95))) (by rw [hc1, hc2, hc3, hc4] <;> rfl))
   exact (rbl [] 2 (c == 95) (if (decide (c ≥ 97)) then ((decide (c ≤ 122)) || (if (decide (c ≥ 65)) then ((decide (c ≤ 90)) || (c == 95)) else (c == 95))) else (if (decide (c ≥ 65)) then ((decide (c ≤ 90)) || (c == 95)) else (c == 95))) (by rw [hc1, hc2, hc3] <;> rfl))
  refine (rsl 7 [] 12 (decide (c ≥ 65)) (fun hc5 => ?_) (fun hc5 => ?_))
  ·
   refine (rsl 5 [] 17 (decide (c ≤ 90)) (fun hc6 => ?_) (fun hc6 => ?_))
   · exact (rbl [] 2 true (if (decide (c ≥ 97)) then ((decide (c ≤ 122)) || (if (decide (c ≥ 65)) then ((decide (c ≤ 90)) || (c == 95)) else (c == 95))) else (if (decide (c ≥ 65)) then ((decide (c ≤ 90)) || (c == 95)) else (c == 95))) (by rw [hc1, hc5, hc6] <;> rfl))
   exact (rbl [] 2 (c == 95) (if (decide (c ≥ 97)) then ((decide (c ≤ 122)) || (if (decide (c ≥ 65)) then ((decide (c ≤ 90)) || (c == 95)) else (c == 95))) else (if (decide (c ≥ 65)) then ((decide (c ≤ 90)) || (c == 95)) else (c == 95))) (by rw [hc1, hc5, hc6] <;> rfl))
  exact (rbl [] 2 (c == 95) (if (decide (c ≥ 97)) then ((decide (c ≤ 122)) || (if (decide (c ≥ 65)) then ((decide (c ≤ 90)) || (c == 95)) else (c == 95))) else (if (decide (c ≥ 65)) then ((decide (c ≤ 90)) || (c == 95)) else (c == 95))) (by rw [hc1, hc5] <;> rfl))
 obtain rfl := sj h
 exact zv lzz
theorem zjt {n : Int} {r : Bool} (h : zdc n = some r) : FnOk Tryz.prog 48 [kI n] [kB r] := by
 refine zx (E := ⟨[(2, kB r)], []⟩) 17 Tryz.func48 rfl rfl rfl ⟨rfl, trivial⟩ (fun Xt => ?_)
 refine zr ?_
 unfold zdc at h
 refine jp ?_
 refine zE ⟨[(2, kB ((decide (n ≥ 1)) && ((decide (n ≤ 536870911)) && ((decide (n < 19000)) || (decide (n > 19999))))))], []⟩ ?_ ?_
 ·
  refine (rsl 3 [] 5 (decide (n ≥ 1)) (fun hc1 => ?_) (fun hc1 => ?_))
  ·
   refine (rsl 4 [] 9 (decide (n ≤ 536870911)) (fun hc2 => ?_) (fun hc2 => ?_))
   ·
    refine (rsl 3 [] 12 (decide (n < 19000)) (fun hc3 => ?_) (fun hc3 => ?_))
    · exact (rbl [] 2 true ((decide (n ≥ 1)) && ((decide (n ≤ 536870911)) && ((decide (n < 19000)) || (decide (n > 19999))))) (by rw [hc1, hc2, hc3] <;> rfl))
    exact (rbl [] 2 (decide (n > 19999)) ((decide (n ≥ 1)) && ((decide (n ≤ 536870911)) && ((decide (n < 19000)) || (decide (n > 19999))))) (by rw [hc1, hc2, hc3] <;> rfl))
   exact (rbl [] 2 false ((decide (n ≥ 1)) && ((decide (n ≤ 536870911)) && ((decide (n < 19000)) || (decide (n > 19999))))) (by rw [hc1, hc2] <;> rfl))
  exact (rbl [] 2 false ((decide (n ≥ 1)) && ((decide (n ≤ 536870911)) && ((decide (n < 19000)) || (decide (n > 19999))))) (by rw [hc1] <;> rfl))
 obtain rfl := sj h
 exact zv lzz
theorem zfH {sv : (List Int)} {v : Int} {r : Int} (h : zbn sv v = some r) : FnOk Tryz.prog 64 [.sl (Rp.int .i64) [0] sv, kI v] [kI r] := by
 refine zx (E := ⟨[(4, kI r)], []⟩) 19 Tryz.func64 rfl rfl rfl ⟨rfl, trivial⟩ (fun Xt => ?_)
 refine zr ?_
 unfold zbn at h
 refine jp ?_
 refine jp ?_
 refine zA ?_
 obtain ⟨q, h_q, h⟩ := bnd h
 refine zaW (fun s : Int => zH sv v s) (fun s => ⟨[(0, .sl (Rp.int .i64) [0] sv), (1, kI v), (7, kI (sv.length : Int)), (8, kI s)], []⟩) (fun o e a w => match o with | (.inl v_) => e = .exit 0 ∧ Sx ⟨⟨19, []⟩, Xt, false, #[]⟩ ⟨[], []⟩ a w | (.inr v_) => e = .ret ∧ Sx ⟨⟨19, []⟩, Xt, false, #[]⟩ ⟨[(4, kI v_)], []⟩ a w) ?_ h_q lzz ?_
 ·
  clear h
  intro v2 o h
  refine zr ?_
  replace h : zH sv v v2 = some o := h
  unfold zH at h
  refine jp ?_
  rcases zm h with ⟨hc1, h⟩ | ⟨hc1, h⟩
  ·
   refine jT hc1 ?_
   refine zA ?_
   refine jp ?_
   obtain ⟨x, h_x, h⟩ := bnd h
   refine jr (ra 3 [.sl (Rp.int .i64) [0] sv, kI v2] rfl (zbx rfl zqq.el (zR _ _ _) h_x) rfl rf) ?_
   rcases zm h with ⟨hc2, h⟩ | ⟨hc2, h⟩
   ·
    refine jT hc2 ?_
    refine jp ?_
    obtain rfl := sj h
    exact zaY lzz
   refine jF hc2 ?_
   refine zap ?_
   refine jp ?_
   obtain rfl := sj h
   exact zF lzz
  refine jF hc1 ?_
  obtain rfl := sj h
  exact zaX rfl lzz
 rcases q with u | u2
 ·
  refine zbI _ rfl ?_
  refine jp ?_
  obtain rfl := sj h
  exact zv lzz
 obtain rfl := sj h
 exact zdI lzz
theorem zhO {c : zac} {f : zc} {r : Bool} (h : zcj c f = some r) : FnOk Tryz.prog 51 [.ag [kI c.size, .sl (Rp.int .i64) [0] c.kinds, .mp zo Rp.bool [0] c.names, .mp zn Rp.bool [0] c.numbers], .rc za [0] f] [kB r] := by
 refine zx (E := ⟨[(4, kB r)], []⟩) 21 Tryz.func51 rfl rfl rfl ⟨rfl, trivial⟩ (fun Xt => ?_)
 refine zr ?_
 unfold zcj at h
 refine jq [11, 12] ?_
 refine jp ?_
 rcases zm h with ⟨hc1, h⟩ | ⟨hc1, h⟩
 ·
  refine jT hc1 ?_
  refine zE ⟨[(4, kB ((decide (f.Of ≥ 0)) && (decide (f.Of < c.size))))], []⟩ ?_ ?_
  ·
   refine (rsl 4 [] 11 (decide (f.Of ≥ 0)) (fun hc2 => ?_) (fun hc2 => ?_))
   · exact (rbl [] 4 (decide (f.Of < c.size)) ((decide (f.Of ≥ 0)) && (decide (f.Of < c.size))) (by rw [hc2] <;> rfl))
   exact (rbl [] 4 false ((decide (f.Of ≥ 0)) && (decide (f.Of < c.size))) (by rw [hc2] <;> rfl))
  obtain rfl := sj h
  exact zv lzz
 refine jF hc1 ?_
 refine jp ?_
 obtain rfl := sj h
 exact zv lzz
theorem zfJ {b : (List UInt8)} {r : (Int × Int × Int)} (h : zdz b = some r) : FnOk Tryz.prog 66 [.sl Rp.byte [0] b] [kU r.1, kI r.2.1, k8 r.2.2] := by
 refine zx (E := ⟨[(2, kU r.1), (3, kI r.2.1), (4, k8 r.2.2)], []⟩) 38 Tryz.func66 rfl rfl rfl ⟨rfl, rfl, rfl, trivial⟩ (fun Xt => ?_)
 refine zr ?_
 unfold zdz at h
 refine jp ?_
 obtain ⟨v, h_v, h⟩ := bnd h
 refine jr (ra 4 [.sl Rp.byte [0] b, kI (if (10 : Int) < (b.length : Int) then 10 else (b.length : Int))] rfl (zfD none (some (kI (if (10 : Int) < (b.length : Int) then 10 else (b.length : Int)))) rfl zde.el (zR _ _ _) ⟨rfl, rfl⟩ ⟨rfl, rfl⟩ h_v) rfl rf) ?_
 refine zA ?_
 obtain ⟨q, h_q, h⟩ := bnd h
 refine zaW (fun s : (Int × Int) => zaT v s.1 s.2) (fun s => ⟨[(2, kU s.1), (11, .sl Rp.byte [0] v), (12, kI (v.length : Int)), (13, kI s.2)], []⟩) (fun o e a w => match o with | (.inl v_) => e = .exit 0 ∧ Sx ⟨⟨38, []⟩, Xt, false, #[]⟩ ⟨[], []⟩ a w | (.inr v_) => e = .ret ∧ Sx ⟨⟨38, []⟩, Xt, false, #[]⟩ ⟨[(2, kU v_.1), (3, kI v_.2.1), (4, k8 v_.2.2)], []⟩ a w) ?_ h_q lzz ?_
 ·
  clear h
  intro s o h
  obtain ⟨wv, v2⟩ := s
  refine zr ?_
  replace h : zaT v wv v2 = some o := h
  unfold zaT at h
  refine jp ?_
  rcases zm h with ⟨hc1, h⟩ | ⟨hc1, h⟩
  ·
   refine jT hc1 ?_
   refine zA ?_
   obtain ⟨x, h_x, h⟩ := bnd h
   refine jr (ra 1 [.sl Rp.byte [0] v, kI v2] rfl (zbx rfl zde.el (zR _ _ _) h_x) rfl rf) ?_
   refine zE ⟨[(2, kU wv), (5, kI v2), (6, k8 (x.toNat : Int)), (11, .sl Rp.byte [0] v), (12, kI (v.length : Int)), (13, kI v2), (23, kB ((v2 == 9) && (decide ((x.toNat : Int) > 1))))], []⟩ ?_ ?_
   ·
    refine (rsl 3 [] 20 (v2 == 9) (fun hc2 => ?_) (fun hc2 => ?_))
    · exact (rbl [] 23 (decide ((x.toNat : Int) > 1)) ((v2 == 9) && (decide ((x.toNat : Int) > 1))) (by rw [hc2] <;> rfl))
    exact (rbl [] 23 false ((v2 == 9) && (decide ((x.toNat : Int) > 1))) (by rw [hc2] <;> rfl))
   rcases zm h with ⟨hc3, h⟩ | ⟨hc3, h⟩
   ·
    refine jT hc3 ?_
    refine jp ?_
    obtain rfl := sj h
    exact zaY lzz
   refine jF hc3 ?_
   obtain ⟨v4, h_v4, h⟩ := bnd h
   refine jr (ra 6 [kU (IntKind.u64.wrap (andI .u8 (x.toNat : Int) 127)), kI (IntKind.i64.wrap (7 * v2))] rfl (ztX rfl h_v4) rfl rf) ?_
   refine jp ?_
   rcases zm h with ⟨hc4, h⟩ | ⟨hc4, h⟩
   ·
    refine jT hc4 ?_
    refine jp ?_
    obtain rfl := sj h
    exact zaY lzz
   refine jF hc4 ?_
   refine zap ?_
   refine jp ?_
   obtain rfl := sj h
   exact zF lzz
  refine jF hc1 ?_
  obtain rfl := sj h
  exact zaX rfl lzz
 rcases q with u | u2
 ·
  refine zbI _ rfl ?_
  refine jp ?_
  obtain rfl := sj h
  exact zv lzz
 obtain rfl := sj h
 exact zdI lzz
theorem zkN {wire : Int} {r : Bool} (h : zdS wire = some r) : FnOk Tryz.prog 76 [kI wire] [kB r] := by
 refine zx (E := ⟨[(2, kB r)], []⟩) 9 Tryz.func76 rfl rfl rfl ⟨rfl, trivial⟩ (fun Xt => ?_)
 refine zr ?_
 unfold zdS at h
 refine jp ?_
 refine jp ?_
 refine zA ?_
 refine jp ?_
 rcases zm h with ⟨hc1, h⟩ | ⟨hc1, h⟩
 ·
  refine jT hc1 ?_
  rcases zm h with ⟨hc2, h⟩ | ⟨hc2, h⟩
  ·
   refine jT hc2 ?_
   refine jp ?_
   obtain rfl := sj h
   exact zv lzz
  refine jF hc2 ?_
  refine zap ?_
  refine jp ?_
  obtain rfl := sj h
  exact zv lzz
 refine jF hc1 ?_
 refine jp ?_
 rcases zm h with ⟨hc3, h⟩ | ⟨hc3, h⟩
 ·
  refine jT hc3 ?_
  rcases zm h with ⟨hc4, h⟩ | ⟨hc4, h⟩
  ·
   refine jT hc4 ?_
   refine jp ?_
   obtain rfl := sj h
   exact zv lzz
  refine jF hc4 ?_
  refine zap ?_
  refine jp ?_
  obtain rfl := sj h
  exact zv lzz
 refine jF hc3 ?_
 refine jp ?_
 rcases zm h with ⟨hc5, h⟩ | ⟨hc5, h⟩
 ·
  refine jT hc5 ?_
  rcases zm h with ⟨hc6, h⟩ | ⟨hc6, h⟩
  ·
   refine jT hc6 ?_
   refine jp ?_
   obtain rfl := sj h
   exact zv lzz
  refine jF hc6 ?_
  refine zap ?_
  refine jp ?_
  obtain rfl := sj h
  exact zv lzz
 refine jF hc5 ?_
 refine jp ?_
 rcases zm h with ⟨hc7, h⟩ | ⟨hc7, h⟩
 ·
  refine jT hc7 ?_
  refine jp ?_
  obtain rfl := sj h
  exact zv lzz
 refine jF hc7 ?_
 refine zap ?_
 refine jp ?_
 obtain rfl := sj h
 exact zv lzz
theorem zlk {f : zc} {v : Int} {r : Bool} (h : zeo f v = some r) : FnOk Tryz.prog 96 [.rc za [0] f, .ep (Rp.int .i64) [0] v 0] [kB r] := by
 refine zx (E := ⟨[(3, kB r)], []⟩) 8 Tryz.func96 rfl rfl rfl ⟨rfl, trivial⟩ (fun Xt => ?_)
 refine zr ?_
 unfold zeo at h
 refine jq [11] ?_
 refine jp ?_
 obtain rfl := sj h
 exact zv lzz
theorem zle {k : Int} {r : (Int × Int)} (h : zel k = some r) : FnOk Tryz.prog 105 [kI k] [kI r.1, k8 r.2] := by
 refine zx (E := ⟨[(2, kI r.1), (3, k8 r.2)], []⟩) 22 Tryz.func105 rfl rfl rfl ⟨rfl, rfl, trivial⟩ (fun Xt => ?_)
 refine zr ?_
 unfold zel at h
 refine jp ?_
 refine jp ?_
 refine zA ?_
 refine jp ?_
 obtain ⟨p, h_p, h⟩ := bnd h
 refine zcl (R := fun e a w => e = .normal ∧ Sx ⟨⟨22, []⟩, Xt, false, #[]⟩ ⟨[(4, kI k), (5, kB p)], []⟩ a w) ?_ ?_
 ·
  replace h := h_p
  refine zr ?_
  rcases zm h with ⟨hc1, h⟩ | ⟨hc1, h⟩
  ·
   refine jT hc1 ?_
   obtain rfl := sj h
   exact zF lzz
  refine jF hc1 ?_
  refine jp ?_
  rcases zm h with ⟨hc2, h⟩ | ⟨hc2, h⟩
  ·
   refine jT hc2 ?_
   obtain rfl := sj h
   exact zF lzz
  refine jF hc2 ?_
  refine jp ?_
  rcases zm h with ⟨hc3, h⟩ | ⟨hc3, h⟩
  ·
   refine jT hc3 ?_
   obtain rfl := sj h
   exact zF lzz
  refine jF hc3 ?_
  refine jp ?_
  rcases zm h with ⟨hc4, h⟩ | ⟨hc4, h⟩
  ·
   refine jT hc4 ?_
   obtain rfl := sj h
   exact zF lzz
  refine jF hc4 ?_
  refine jp ?_
  rcases zm h with ⟨hc5, h⟩ | ⟨hc5, h⟩
  ·
   refine jT hc5 ?_
   obtain rfl := sj h
   exact zF lzz
  refine jF hc5 ?_
  refine jp ?_
  rcases zm h with ⟨hc6, h⟩ | ⟨hc6, h⟩
  ·
   refine jT hc6 ?_
   obtain rfl := sj h
   exact zF lzz
  refine jF hc6 ?_
  refine jp ?_
  rcases zm h with ⟨hc7, h⟩ | ⟨hc7, h⟩
  ·
   refine jT hc7 ?_
   obtain rfl := sj h
   exact zF lzz
  refine jF hc7 ?_
  refine jp ?_
  obtain rfl := sj h
  exact zF lzz
 refine zdt ?_
 rcases zm h with ⟨hc8, h⟩ | ⟨hc8, h⟩
 ·
  refine jT hc8 ?_
  refine jp ?_
  obtain rfl := sj h
  exact zv lzz
 refine jF hc8 ?_
 refine jp ?_
 obtain ⟨p2, h_p2, h⟩ := bnd h
 refine zcl (R := fun e a w => e = .normal ∧ Sx ⟨⟨22, []⟩, Xt, false, #[]⟩ ⟨[(4, kI k), (14, kB p2)], []⟩ a w) ?_ ?_
 ·
  replace h := h_p2
  refine zr ?_
  rcases zm h with ⟨hc9, h⟩ | ⟨hc9, h⟩
  ·
   refine jT hc9 ?_
   obtain rfl := sj h
   exact zF lzz
  refine jF hc9 ?_
  refine jp ?_
  rcases zm h with ⟨hc10, h⟩ | ⟨hc10, h⟩
  ·
   refine jT hc10 ?_
   obtain rfl := sj h
   exact zF lzz
  refine jF hc10 ?_
  refine jp ?_
  obtain rfl := sj h
  exact zF lzz
 refine zdt ?_
 rcases zm h with ⟨hc11, h⟩ | ⟨hc11, h⟩
 ·
  refine jT hc11 ?_
  refine jp ?_
  obtain rfl := sj h
  exact zv lzz
 refine jF hc11 ?_
 refine jp ?_
 rcases zm h with ⟨hc12, h⟩ | ⟨hc12, h⟩
 ·
  refine jT hc12 ?_
  rcases zm h with ⟨hc13, h⟩ | ⟨hc13, h⟩
  ·
   refine jT hc13 ?_
   refine jp ?_
   obtain rfl := sj h
   exact zv lzz
  refine jF hc13 ?_
  refine zap ?_
  refine jp ?_
  obtain rfl := sj h
  exact zv lzz
 refine jF hc12 ?_
 refine jp ?_
 rcases zm h with ⟨hc14, h⟩ | ⟨hc14, h⟩
 ·
  refine jT hc14 ?_
  rcases zm h with ⟨hc15, h⟩ | ⟨hc15, h⟩
  ·
   refine jT hc15 ?_
   refine jp ?_
   obtain rfl := sj h
   exact zv lzz
  refine jF hc15 ?_
  refine zap ?_
  refine jp ?_
  obtain rfl := sj h
  exact zv lzz
 refine jF hc14 ?_
 refine jp ?_
 rcases zm h with ⟨hc16, h⟩ | ⟨hc16, h⟩
 ·
  refine jT hc16 ?_
  refine jp ?_
  obtain rfl := sj h
  exact zv lzz
 refine jF hc16 ?_
 refine zap ?_
 refine jp ?_
 obtain rfl := sj h
 exact zv lzz
theorem ziU {wv : Int} {r : Int} (h : zew wv = some r) : FnOk Tryz.prog 113 [kU wv] [.lf (.int .u32 r)] := by
 refine zx (E := ⟨[(2, .lf (.int .u32 r))], []⟩) 5 Tryz.func113 rfl rfl rfl ⟨rfl, trivial⟩ (fun Xt => ?_)
 refine zr ?_
 unfold zew at h
 refine jp ?_
 refine jp ?_
 obtain rfl := sj h
 exact zv lzz
theorem zlJ {n : Int} {r : Int} (h : zeO n = some r) : FnOk Tryz.prog 111 [.lf (.int .i32 n)] [kU r] := by
 refine zx (E := ⟨[(2, kU r)], []⟩) 6 Tryz.func111 rfl rfl rfl ⟨rfl, trivial⟩ (fun Xt => ?_)
 refine zr ?_
 unfold zeO at h
 refine jp ?_
 refine jp ?_
 obtain rfl := sj h
 exact zv lzz
theorem zni {wv : Int} {r : Int} (h : zhg wv = some r) : FnOk Tryz.prog 114 [kU wv] [kU r] := by
 refine zx (E := ⟨[(2, kU r)], []⟩) 5 Tryz.func114 rfl rfl rfl ⟨rfl, trivial⟩ (fun Xt => ?_)
 refine zr ?_
 unfold zhg at h
 refine jp ?_
 refine jp ?_
 obtain rfl := sj h
 exact zv lzz
theorem zpg {wv : Int} {r : Int} (h : zhS wv = some r) : FnOk Tryz.prog 107 [kU wv] [kI r] := by
 refine zx (E := ⟨[(2, kI r)], []⟩) 13 Tryz.func107 rfl rfl rfl ⟨rfl, trivial⟩ (fun Xt => ?_)
 refine zr ?_
 unfold zhS at h
 refine jp ?_
 refine jp ?_
 refine jr (ra 1 [kU wv, kU 7] rfl (zfd rfl rfl) rfl rf) ?_
 refine zA ?_
 obtain ⟨q, h_q, h⟩ := bnd h
 refine zaW (fun s : (Int × Int) => zbT s.1 s.2) (fun s => ⟨[(0, kU s.1), (3, kI s.2)], []⟩) (fun o e a w => e = .exit 0 ∧ Sx ⟨⟨13, []⟩, Xt, false, #[]⟩ ⟨[(3, kI o)], []⟩ a w) ?_ h_q lzz ?_
 ·
  clear h
  intro s o h
  obtain ⟨wv2, n⟩ := s
  refine zr ?_
  replace h : zbT wv2 n = some o := h
  unfold zbT at h
  refine jp ?_
  rcases zm h with ⟨hc1, h⟩ | ⟨hc1, h⟩
  ·
   refine jT hc1 ?_
   refine zA ?_
   refine jp ?_
   refine zap ?_
   refine jr (ra 1 [kU wv2, kU 7] rfl (zfd rfl rfl) rfl rf) ?_
   obtain rfl := sj h
   exact zF lzz
  refine jF hc1 ?_
  obtain rfl := sj h
  exact zaX rfl lzz
 refine zbI _ rfl ?_
 refine jp ?_
 obtain rfl := sj h
 exact zv lzz
theorem zqi {c : Int} {r : (Int × Int)} (h : zkj c = some r) : FnOk Tryz.prog 108 [k8 c] [kI r.1, .lf (.int .u32 r.2)] := by
 refine zx (E := ⟨[(2, kI r.1), (3, .lf (.int .u32 r.2))], []⟩) 31 Tryz.func108 rfl rfl rfl ⟨rfl, rfl, trivial⟩ (fun Xt => ?_)
 refine zr ?_
 unfold zkj at h
 refine jp ?_
 refine zA ?_
 refine jr (ra 1 [k8 c, kU 7] rfl (zfd rfl rfl) rfl rf) ?_
 rcases zm h with ⟨hc1, h⟩ | ⟨hc1, h⟩
 ·
  refine jT hc1 ?_
  refine jp ?_
  obtain rfl := sj h
  exact zv lzz
 refine jF hc1 ?_
 refine jr (ra 1 [k8 c, kU 5] rfl (zfd rfl rfl) rfl rf) ?_
 rcases zm h with ⟨hc2, h⟩ | ⟨hc2, h⟩
 ·
  refine jT hc2 ?_
  refine jp ?_
  obtain rfl := sj h
  exact zv lzz
 refine jF hc2 ?_
 refine jr (ra 1 [k8 c, kU 4] rfl (zfd rfl rfl) rfl rf) ?_
 rcases zm h with ⟨hc3, h⟩ | ⟨hc3, h⟩
 ·
  refine jT hc3 ?_
  refine jp ?_
  obtain rfl := sj h
  exact zv lzz
 refine jF hc3 ?_
 refine jr (ra 1 [k8 c, kU 3] rfl (zfd rfl rfl) rfl rf) ?_
 rcases zm h with ⟨hc4, h⟩ | ⟨hc4, h⟩
 ·
  refine jT hc4 ?_
  refine jp ?_
  obtain rfl := sj h
  exact zv lzz
 refine jF hc4 ?_
 refine zap ?_
 refine jp ?_
 obtain rfl := sj h
 exact zv lzz
theorem zqh {wv : Int} {r : Int} (h : zgY wv = some r) : FnOk Tryz.prog 109 [.lf (.int .u32 wv)] [kI r] := by
 refine zx (E := ⟨[(2, kI r)], []⟩) 22 Tryz.func109 rfl rfl rfl ⟨rfl, trivial⟩ (fun Xt => ?_)
 refine zr ?_
 unfold zgY at h
 refine jp ?_
 refine zA ?_
 refine jr (ra 1 [.lf (.int .u32 wv), kU 7] rfl (zfd rfl rfl) rfl rf) ?_
 rcases zm h with ⟨hc1, h⟩ | ⟨hc1, h⟩
 ·
  refine jT hc1 ?_
  refine jp ?_
  obtain rfl := sj h
  exact zv lzz
 refine jF hc1 ?_
 refine jr (ra 1 [.lf (.int .u32 wv), kU 11] rfl (zfd rfl rfl) rfl rf) ?_
 rcases zm h with ⟨hc2, h⟩ | ⟨hc2, h⟩
 ·
  refine jT hc2 ?_
  refine jp ?_
  obtain rfl := sj h
  exact zv lzz
 refine jF hc2 ?_
 refine jr (ra 1 [.lf (.int .u32 wv), kU 11] rfl (zfd rfl rfl) rfl rf) ?_
 rcases zm h with ⟨hc3, h⟩ | ⟨hc3, h⟩
 ·
  refine jT hc3 ?_
  refine jp ?_
  obtain rfl := sj h
  exact zv lzz
 refine jF hc3 ?_
 refine jr (ra 1 [.lf (.int .u32 wv), kU 16] rfl (zfd rfl rfl) rfl rf) ?_
 rcases zm h with ⟨hc4, h⟩ | ⟨hc4, h⟩
 ·
  refine jT hc4 ?_
  refine jp ?_
  obtain rfl := sj h
  exact zv lzz
 refine jF hc4 ?_
 refine jp ?_
 rcases zm h with ⟨hc5, h⟩ | ⟨hc5, h⟩
 ·
  refine jT hc5 ?_
  refine jp ?_
  obtain rfl := sj h
  exact zv lzz
 refine jF hc5 ?_
 refine zap ?_
 refine jp ?_
 obtain rfl := sj h
 exact zv lzz
theorem zfg {sv : (List zh)} {r : Bool} (h : zbW sv = some r) : FnOk Tryz.prog 6 [.sl zd [0] sv] [kB r] := by
 refine zx (E := ⟨[(2, kB r)], []⟩) 54 Tryz.func6 rfl rfl rfl ⟨rfl, trivial⟩ (fun Xt => ?_)
 refine zr ?_
 unfold zbW at h
 refine jp ?_
 refine jp ?_
 refine jp ?_
 refine zA ?_
 obtain ⟨q2, h_q2, h⟩ := bnd h
 refine zaW (fun s : (Int × Int) => zas sv s.1 s.2) (fun s => ⟨[(0, .sl zd [0] sv), (3, kI s.1), (4, kI s.2)], []⟩) (fun o e a w => e = .exit 0 ∧ Sx ⟨⟨54, []⟩, Xt, false, #[]⟩ ⟨[(3, kI o)], []⟩ a w) ?_ h_q2 lzz ?_
 ·
  clear h
  intro s o h
  obtain ⟨n, i⟩ := s
  refine zr ?_
  replace h : zas sv n i = some o := h
  unfold zas at h
  refine jp ?_
  rcases zm h with ⟨hc1, h⟩ | ⟨hc1, h⟩
  ·
   refine jT hc1 ?_
   refine zA ?_
   obtain ⟨x, h_x, h⟩ := bnd h
   obtain ⟨x2, h_x2, h⟩ := bnd h
   refine jd [0, 3, 4] [] zdQ (by exact (lw_e (lw_e (lw_e (lw_e (ly [.sl zd [0] sv, kI i] (zbx rfl zet.el (zR _ _ _) h_x) rfl (lw_e (lw_e (lw_e (lw_e (lw_e (lw_e (lw_e (ly [.sl zd [0] sv, kI i] (zbx rfl zet.el (zR _ _ _) h_x2) rfl (lw_e (ly [.ep zd [0] x2 1] (zgs za x2.Fields rfl rfl rfl) rfl l0)))))))))))))))) ?_
   refine jp ?_
   refine zA ?_
   obtain ⟨q, h_q, h⟩ := bnd h
   refine zaW (fun s : (Int × Int) => zat i sv s.1 s.2) (fun s => ⟨[(0, .sl zd [0] sv), (3, kI s.1), (4, kI i), (5, kI s.2)], []⟩) (fun o e a w => e = .exit 2 ∧ Sx ⟨⟨54, []⟩, Xt, false, #[]⟩ ⟨[(0, .sl zd [0] sv), (3, kI o), (4, kI i)], []⟩ a w) ?_ h_q lzz ?_
   ·
    clear h
    intro s o h
    obtain ⟨n3, k⟩ := s
    refine zr ?_
    replace h : zat i sv n3 k = some o := h
    unfold zat at h
    obtain ⟨x3, h_x3, h⟩ := bnd h
    refine jr (ra 3 [.sl zd [0] sv, kI i] rfl (zbx rfl zet.el (zR _ _ _) h_x3) rfl (ra 1 [.ep zd [0] x3 1] rfl (zgs za x3.Fields rfl rfl rfl) rfl rf)) ?_
    rcases zm h with ⟨hc2, h⟩ | ⟨hc2, h⟩
    ·
     refine jT hc2 ?_
     refine zA ?_
     obtain ⟨x4, h_x4, h⟩ := bnd h
     obtain ⟨x5, h_x5, h⟩ := bnd h
     refine jr (ra 3 [.sl zd [0] sv, kI i] rfl (zbx rfl zet.el (zR _ _ _) h_x4) rfl (ra 1 [.ep zd [0] x4 1] rfl (zgs za x4.Fields rfl rfl rfl) rfl (ra 1 [.sl za [0] x4.Fields, kI k] rfl (zbx rfl zhD.el (zR _ _ _) h_x5) rfl rf))) ?_
     refine zap ?_
     refine jp ?_
     obtain rfl := sj h
     exact zF lzz
    refine jF hc2 ?_
    obtain rfl := sj h
    exact zaX rfl lzz
   refine zbI _ rfl ?_
   refine zap ?_
   refine jp ?_
   obtain rfl := sj h
   exact zF lzz
  refine jF hc1 ?_
  obtain rfl := sj h
  exact zaX rfl lzz
 refine zbI _ rfl ?_
 refine jp ?_
 obtain rfl := sj h
 exact zv lzz
end Go.Proofs.YtnfembipjdohcaaGreat
