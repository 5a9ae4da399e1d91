/-
  The Go functions do what the plain functions say. No condition.
-/
import Derived.Test.YtnfembipjdohcaaT
namespace Go.Proofs.Ytnfembipjdohcaa
open Go Go.RowKit
set_option linter.unusedVariables false
set_option maxRecDepth 100000
set_option maxHeartbeats 3200000
abbrev zqC := (mput ([] : (List (Int × zm))) 1 (⟨[105, 110, 116, 51, 50], 0⟩ : zm))
abbrev zqD := (mput zqC 2 (⟨[105, 110, 116, 54, 52], 0⟩ : zm))
abbrev zqE := (mput zqD 3 (⟨[117, 105, 110, 116, 51, 50], 0⟩ : zm))
abbrev zqF := (mput zqE 4 (⟨[117, 105, 110, 116, 54, 52], 0⟩ : zm))
abbrev zqG := (mput zqF 5 (⟨[115, 105, 110, 116, 51, 50], 0⟩ : zm))
abbrev zqH := (mput zqG 6 (⟨[115, 105, 110, 116, 54, 52], 0⟩ : zm))
abbrev zqI := (mput zqH 7 (⟨[98, 111, 111, 108], 0⟩ : zm))
abbrev zqJ := (mput zqI 8 (⟨[101, 110, 117, 109], 0⟩ : zm))
abbrev zqK := (mput zqJ 9 (⟨[102, 105, 120, 101, 100, 51, 50], 5⟩ : zm))
abbrev znQ := (mput zqK 10 (⟨[115, 102, 105, 120, 101, 100, 51, 50], 5⟩ : zm))
abbrev znR := (mput znQ 11 (⟨[102, 108, 111, 97, 116], 5⟩ : zm))
abbrev znS := (mput znR 12 (⟨[102, 105, 120, 101, 100, 54, 52], 1⟩ : zm))
abbrev znT := (mput znS 13 (⟨[115, 102, 105, 120, 101, 100, 54, 52], 1⟩ : zm))
abbrev znU := (mput znT 14 (⟨[100, 111, 117, 98, 108, 101], 1⟩ : zm))
abbrev zlU := (mput znU 15 (⟨[115, 116, 114, 105, 110, 103], 2⟩ : zm))
theorem zgx  {r : (List (Int × zm))} (h : zdU = some r) : FnOk Try.prog 29 [] [.om (Rp.int .i64) zt 2 [] r] := by
 refine zx (E := ⟨[(0, .om (Rp.int .i64) zt 2 [] r)], []⟩) 20 Try.func29 rfl rfl rfl ⟨rfl, trivial⟩ (fun Xt => ?_)
 refine zv ?_
 unfold zdU at h
 refine jp ?_
 refine jr (rc 0 rfl (zfL (rk := (Rp.int .i64)) (rv := zt) 12 rfl) (rc 0 rfl (zB (r := zt) [kS [105, 110, 116, 51, 50], kI 0] [] (⟨[105, 110, 116, 51, 50], 0⟩ : zm) rfl zdw rfl rfl) (rkl 0 [] ⟨[(1, .om (Rp.int .i64) zt 12 [] ([] : (List (Int × zm)))), (2, .rc zt [] (⟨[105, 110, 116, 51, 50], 0⟩ : zm))], []⟩ (zbp (rk := (Rp.int .i64)) (rv := zt) (m := ([] : (List (Int × zm)))) (C := []) (C1 := []) (D := []) [1] 1 (⟨[105, 110, 116, 51, 50], 0⟩ : zm) [] zbP rfl (.inr rfl) rfl rfl rfl rfl (zbt rfl rfl) (zay rfl) (by kernel_rfl) rfl (rc 0 rfl (zB (r := zt) [kS [105, 110, 116, 54, 52], kI 0] [] (⟨[105, 110, 116, 54, 52], 0⟩ : zm) rfl zdw rfl rfl) (rkl 0 [] ⟨[(1, .om (Rp.int .i64) zt 12 [] zqC), (3, .rc zt [] (⟨[105, 110, 116, 54, 52], 0⟩ : zm))], []⟩ (zbp (rk := (Rp.int .i64)) (rv := zt) (m := zqC) (C := []) (C1 := []) (D := []) [1] 2 (⟨[105, 110, 116, 54, 52], 0⟩ : zm) [] zbP rfl (.inr rfl) rfl rfl rfl rfl (zbt rfl rfl) (zay rfl) (by kernel_rfl) rfl (rc 0 rfl (zB (r := zt) [kS [117, 105, 110, 116, 51, 50], kI 0] [] (⟨[117, 105, 110, 116, 51, 50], 0⟩ : zm) rfl zdw rfl rfl) (rkl 0 [] ⟨[(1, .om (Rp.int .i64) zt 12 [] zqD), (4, .rc zt [] (⟨[117, 105, 110, 116, 51, 50], 0⟩ : zm))], []⟩ (zbp (rk := (Rp.int .i64)) (rv := zt) (m := zqD) (C := []) (C1 := []) (D := []) [1] 3 (⟨[117, 105, 110, 116, 51, 50], 0⟩ : zm) [] zbP rfl (.inr rfl) rfl rfl rfl rfl (zbt rfl rfl) (zay rfl) (by kernel_rfl) rfl (rc 0 rfl (zB (r := zt) [kS [117, 105, 110, 116, 54, 52], kI 0] [] (⟨[117, 105, 110, 116, 54, 52], 0⟩ : zm) rfl zdw rfl rfl) (rkl 0 [] ⟨[(1, .om (Rp.int .i64) zt 12 [] zqE), (5, .rc zt [] (⟨[117, 105, 110, 116, 54, 52], 0⟩ : zm))], []⟩ (zbp (rk := (Rp.int .i64)) (rv := zt) (m := zqE) (C := []) (C1 := []) (D := []) [1] 4 (⟨[117, 105, 110, 116, 54, 52], 0⟩ : zm) [] zbP rfl (.inr rfl) rfl rfl rfl rfl (zbt rfl rfl) (zay rfl) (by kernel_rfl) rfl (rc 0 rfl (zB (r := zt) [kS [115, 105, 110, 116, 51, 50], kI 0] [] (⟨[115, 105, 110, 116, 51, 50], 0⟩ : zm) rfl zdw rfl rfl) (rkl 0 [] ⟨[(1, .om (Rp.int .i64) zt 12 [] zqF), (6, .rc zt [] (⟨[115, 105, 110, 116, 51, 50], 0⟩ : zm))], []⟩ (zbp (rk := (Rp.int .i64)) (rv := zt) (m := zqF) (C := []) (C1 := []) (D := []) [1] 5 (⟨[115, 105, 110, 116, 51, 50], 0⟩ : zm) [] zbP rfl (.inr rfl) rfl rfl rfl rfl (zbt rfl rfl) (zay rfl) (by kernel_rfl) rfl (rc 0 rfl (zB (r := zt) [kS [115, 105, 110, 116, 54, 52], kI 0] [] (⟨[115, 105, 110, 116, 54, 52], 0⟩ : zm) rfl zdw rfl rfl) (rkl 0 [] ⟨[(1, .om (Rp.int .i64) zt 12 [] zqG), (7, .rc zt [] (⟨[115, 105, 110, 116, 54, 52], 0⟩ : zm))], []⟩ (zbp (rk := (Rp.int .i64)) (rv := zt) (m := zqG) (C := []) (C1 := []) (D := []) [1] 6 (⟨[115, 105, 110, 116, 54, 52], 0⟩ : zm) [] zbP rfl (.inr rfl) rfl rfl rfl rfl (zbt rfl rfl) (zay rfl) (by kernel_rfl) rfl (rc 0 rfl (zB (r := zt) [kS [98, 111, 111, 108], kI 0] [] (⟨[98, 111, 111, 108], 0⟩ : zm) rfl zdw rfl rfl) (rkl 0 [] ⟨[(1, .om (Rp.int .i64) zt 12 [] zqH), (8, .rc zt [] (⟨[98, 111, 111, 108], 0⟩ : zm))], []⟩ (zbp (rk := (Rp.int .i64)) (rv := zt) (m := zqH) (C := []) (C1 := []) (D := []) [1] 7 (⟨[98, 111, 111, 108], 0⟩ : zm) [] zbP rfl (.inr rfl) rfl rfl rfl rfl (zbt rfl rfl) (zay rfl) (by kernel_rfl) rfl (rc 0 rfl (zB (r := zt) [kS [101, 110, 117, 109], kI 0] [] (⟨[101, 110, 117, 109], 0⟩ : zm) rfl zdw rfl rfl) (rkl 0 [] ⟨[(1, .om (Rp.int .i64) zt 12 [] zqI), (9, .rc zt [] (⟨[101, 110, 117, 109], 0⟩ : zm))], []⟩ (zbp (rk := (Rp.int .i64)) (rv := zt) (m := zqI) (C := []) (C1 := []) (D := []) [1] 8 (⟨[101, 110, 117, 109], 0⟩ : zm) [] zbP rfl (.inr rfl) rfl rfl rfl rfl (zbt rfl rfl) (zay rfl) (by kernel_rfl) rfl (rc 0 rfl (zB (r := zt) [kS [102, 105, 120, 101, 100, 51, 50], kI 5] [] (⟨[102, 105, 120, 101, 100, 51, 50], 5⟩ : zm) rfl zdw rfl rfl) (rkl 0 [] ⟨[(1, .om (Rp.int .i64) zt 12 [] zqJ), (10, .rc zt [] (⟨[102, 105, 120, 101, 100, 51, 50], 5⟩ : zm))], []⟩ (zbp (rk := (Rp.int .i64)) (rv := zt) (m := zqJ) (C := []) (C1 := []) (D := []) [1] 9 (⟨[102, 105, 120, 101, 100, 51, 50], 5⟩ : zm) [] zbP rfl (.inr rfl) rfl rfl rfl rfl (zbt rfl rfl) (zay rfl) (by kernel_rfl) rfl (rc 0 rfl (zB (r := zt) [kS [115, 102, 105, 120, 101, 100, 51, 50], kI 5] [] (⟨[115, 102, 105, 120, 101, 100, 51, 50], 5⟩ : zm) rfl zdw rfl rfl) (rkl 0 [] ⟨[(1, .om (Rp.int .i64) zt 12 [] zqK), (11, .rc zt [] (⟨[115, 102, 105, 120, 101, 100, 51, 50], 5⟩ : zm))], []⟩ (zbp (rk := (Rp.int .i64)) (rv := zt) (m := zqK) (C := []) (C1 := []) (D := []) [1] 10 (⟨[115, 102, 105, 120, 101, 100, 51, 50], 5⟩ : zm) [] zbP rfl (.inr rfl) rfl rfl rfl rfl (zbt rfl rfl) (zay rfl) (by kernel_rfl) rfl (rc 0 rfl (zB (r := zt) [kS [102, 108, 111, 97, 116], kI 5] [] (⟨[102, 108, 111, 97, 116], 5⟩ : zm) rfl zdw rfl rfl) (rkl 0 [] ⟨[(1, .om (Rp.int .i64) zt 12 [] znQ), (12, .rc zt [] (⟨[102, 108, 111, 97, 116], 5⟩ : zm))], []⟩ (zbp (rk := (Rp.int .i64)) (rv := zt) (m := znQ) (C := []) (C1 := []) (D := []) [1] 11 (⟨[102, 108, 111, 97, 116], 5⟩ : zm) [] zbP rfl (.inr rfl) rfl rfl rfl rfl (zbt rfl rfl) (zay rfl) (by kernel_rfl) rfl (rc 0 rfl (zB (r := zt) [kS [102, 105, 120, 101, 100, 54, 52], kI 1] [] (⟨[102, 105, 120, 101, 100, 54, 52], 1⟩ : zm) rfl zdw rfl rfl) (rkl 0 [] ⟨[(1, .om (Rp.int .i64) zt 12 [] znR), (13, .rc zt [] (⟨[102, 105, 120, 101, 100, 54, 52], 1⟩ : zm))], []⟩ (zbp (rk := (Rp.int .i64)) (rv := zt) (m := znR) (C := []) (C1 := []) (D := []) [1] 12 (⟨[102, 105, 120, 101, 100, 54, 52], 1⟩ : zm) [] zbP rfl (.inr rfl) rfl rfl rfl rfl (zbt rfl rfl) (zay rfl) (by kernel_rfl) rfl (rc 0 rfl (zB (r := zt) [kS [115, 102, 105, 120, 101, 100, 54, 52], kI 1] [] (⟨[115, 102, 105, 120, 101, 100, 54, 52], 1⟩ : zm) rfl zdw rfl rfl) (rkl 0 [] ⟨[(1, .om (Rp.int .i64) zt 12 [] znS), (14, .rc zt [] (⟨[115, 102, 105, 120, 101, 100, 54, 52], 1⟩ : zm))], []⟩ (zbp (rk := (Rp.int .i64)) (rv := zt) (m := znS) (C := []) (C1 := []) (D := []) [1] 13 (⟨[115, 102, 105, 120, 101, 100, 54, 52], 1⟩ : zm) [] zbP rfl (.inr rfl) rfl rfl rfl rfl (zbt rfl rfl) (zay rfl) (by kernel_rfl) rfl (rc 0 rfl (zB (r := zt) [kS [100, 111, 117, 98, 108, 101], kI 1] [] (⟨[100, 111, 117, 98, 108, 101], 1⟩ : zm) rfl zdw rfl rfl) (rkl 0 [] ⟨[(1, .om (Rp.int .i64) zt 12 [] znT), (15, .rc zt [] (⟨[100, 111, 117, 98, 108, 101], 1⟩ : zm))], []⟩ (zbp (rk := (Rp.int .i64)) (rv := zt) (m := znT) (C := []) (C1 := []) (D := []) [1] 14 (⟨[100, 111, 117, 98, 108, 101], 1⟩ : zm) [] zbP rfl (.inr rfl) rfl rfl rfl rfl (zbt rfl rfl) (zay rfl) (by kernel_rfl) rfl (rc 0 rfl (zB (r := zt) [kS [115, 116, 114, 105, 110, 103], kI 2] [] (⟨[115, 116, 114, 105, 110, 103], 2⟩ : zm) rfl zdw rfl rfl) (rkl 0 [] ⟨[(1, .om (Rp.int .i64) zt 12 [] znU), (16, .rc zt [] (⟨[115, 116, 114, 105, 110, 103], 2⟩ : zm))], []⟩ (zbp (rk := (Rp.int .i64)) (rv := zt) (m := znU) (C := []) (C1 := []) (D := []) [1] 15 (⟨[115, 116, 114, 105, 110, 103], 2⟩ : zm) [] zbP rfl (.inr rfl) rfl rfl rfl rfl (zbt rfl rfl) (zay rfl) (by kernel_rfl) rfl (rc 0 rfl (zB (r := zt) [kS [98, 121, 116, 101, 115], kI 2] [] (⟨[98, 121, 116, 101, 115], 2⟩ : zm) rfl zdw rfl rfl) (rkl 0 [] ⟨[(1, .om (Rp.int .i64) zt 12 [] zlU), (17, .rc zt [] (⟨[98, 121, 116, 101, 115], 2⟩ : zm))], []⟩ (zbp (rk := (Rp.int .i64)) (rv := zt) (m := zlU) (C := []) (C1 := []) (D := []) [1] 16 (⟨[98, 121, 116, 101, 115], 2⟩ : zm) [] zbP rfl (.inr rfl) rfl rfl rfl rfl (zbt rfl rfl) (zay rfl) (by kernel_rfl) rfl (rc 0 rfl (zB (r := zt) [kS [109, 101, 115, 115, 97, 103, 101], kI 2] [] (⟨[109, 101, 115, 115, 97, 103, 101], 2⟩ : zm) rfl zdw rfl rfl) (rkl 0 [] ⟨[(1, .om (Rp.int .i64) zt 12 [] (mput zlU 16 (⟨[98, 121, 116, 101, 115], 2⟩ : zm))), (18, .rc zt [] (⟨[109, 101, 115, 115, 97, 103, 101], 2⟩ : zm))], []⟩ (zbp (rk := (Rp.int .i64)) (rv := zt) (m := (mput zlU 16 (⟨[98, 121, 116, 101, 115], 2⟩ : zm))) (C := []) (C1 := []) (D := []) [1] 17 (⟨[109, 101, 115, 115, 97, 103, 101], 2⟩ : zm) [] zbP rfl (.inr rfl) rfl rfl rfl rfl (zbt rfl rfl) (zay rfl) (by kernel_rfl) rfl rf)))))))))))))))))))))))))))))))))))))))))))))))))))) ?_
 obtain rfl := sj h
 refine zw ?_
 refine lk [0] [] 12 2 ?_
 exact lzz
theorem zen {c : Int} {r : Bool} (h : zby c = some r) : FnOk Try.prog 44 [k8 c] [kB r] := by
 refine zx (E := ⟨[(2, kB r)], []⟩) 9 Try.func44 rfl rfl rfl ⟨rfl, trivial⟩ (fun Xt => ?_)
 refine zv ?_
 unfold zby at h
 refine jp ?_
 refine zU ⟨[(2, kB ((decide (c ≥ 48)) && (decide (c ≤ 57))))], []⟩ ?_ ?_
 ·
  refine (rsl 3 [] 5 (decide (c ≥ 48)) (fun hc1 => ?_) (fun hc1 => ?_))
  · exact (rbl [] 2 (decide (c ≤ 57)) ((decide (c ≥ 48)) && (decide (c ≤ 57))) (by rw [hc1] <;> rfl))
  exact (rbl [] 2 false ((decide (c ≥ 48)) && (decide (c ≤ 57))) (by rw [hc1] <;> rfl))
 obtain rfl := sj h
 exact zw lzz
theorem zgT {c : Int} {r : Bool} (h : zbJ c = some r) : FnOk Try.prog 45 [k8 c] [kB r] := by
 refine zx (E := ⟨[(2, kB r)], []⟩) 21 Try.func45 rfl rfl rfl ⟨rfl, trivial⟩ (fun Xt => ?_)
 refine zv ?_
 unfold zbJ at h
 refine jp ?_
 refine zU ⟨[(2, kB (if (decide (c ≥ 97)) then ((decide (c ≤ 122)) || (if (decide (c ≥ 65)) then ((decide (c ≤ 90)) || (c == 95)) else (c == 95))) else (if (decide (c ≥ 65)) then ((decide (c ≤ 90)) || (c == 95)) else (c == 95))))], []⟩ ?_ ?_
 ·
  refine (rsl 3 [] 5 (decide (c ≥ 97)) (fun hc1 => ?_) (fun hc1 => ?_))
  ·
   refine (rsl 4 [] 9 (decide (c ≤ 122)) (fun hc2 => ?_) (fun hc2 => ?_))
   · exact (rbl [] 2 true (if (decide (c ≥ 97)) then ((decide (c ≤ 122)) || (if (decide (c ≥ 65)) then ((decide (c ≤ 90)) || (c == 95)) else (c == 95))) else (if (decide (c ≥ 65)) then ((decide (c ≤ 90)) || (c == 95)) else (c == 95))) (by rw [hc1, hc2] <;> rfl))
   refine (rsl 3 [] 12 (decide (c ≥ 65)) (fun hc3 => ?_) (fun hc3 => ?_))
   ·
    refine (rsl 5 [] 17 (decide (c ≤ 90)) (fun hc4 => ?_) (fun hc4 => ?_))
    · exact (rbl [] 2 true (if (decide (c ≥ 97)) then ((decide (c ≤ 122)) || (if (decide (c ≥ 65)) then ((decide (c ≤ 90)) || (c == 95)) else (c == 95))) else (if (decide (c ≥ 65)) then ((decide (c ≤ 90)) || (c == 95)) else (c == 95))) (by rw [hc1, hc2, hc3, hc4] <;> rfl))
    exact (rbl [] 2 (c == 95) (if (decide (c ≥ 97)) then ((decide (c ≤ 122)) || (if (decide (c ≥ 65)) then ((decide (c ≤ 90)) || (c == 95)) else (c == 95))) else (if (decide (c ≥ 65)) then ((decide (c ≤ 90)) || (c == 95)) else (c == 95))) (by rw [hc1, hc2, hc3, hc4] <;> rfl))
   exact (rbl [] 2 (c == 95) (if (decide (c ≥ 97)) then ((decide (c ≤ 122)) || (if (decide (c ≥ 65)) then ((decide (c ≤ 90)) || (c == 95)) else (c == 95))) else (if (decide (c ≥ 65)) then ((decide (c ≤ 90)) || (c == 95)) else (c == 95))) (by rw [hc1, hc2, hc3] <;> rfl))
  refine (rsl 7 [] 12 (decide (c ≥ 65)) (fun hc5 => ?_) (fun hc5 => ?_))
  ·
   refine (rsl 5 [] 17 (decide (c ≤ 90)) (fun hc6 => ?_) (fun hc6 => ?_))
   · exact (rbl [] 2 true (if (decide (c ≥ 97)) then ((decide (c ≤ 122)) || (if (decide (c ≥ 65)) then ((decide (c ≤ 90)) || (c == 95)) else (c == 95))) else (if (decide (c ≥ 65)) then ((decide (c ≤ 90)) || (c == 95)) else (c == 95))) (by rw [hc1, hc5, hc6] <;> rfl))
   exact (rbl [] 2 (c == 95) (if (decide (c ≥ 97)) then ((decide (c ≤ 122)) || (if (decide (c ≥ 65)) then ((decide (c ≤ 90)) || (c == 95)) else (c == 95))) else (if (decide (c ≥ 65)) then ((decide (c ≤ 90)) || (c == 95)) else (c == 95))) (by rw [hc1, hc5, hc6] <;> rfl))
  exact (rbl [] 2 (c == 95) (if (decide (c ≥ 97)) then ((decide (c ≤ 122)) || (if (decide (c ≥ 65)) then ((decide (c ≤ 90)) || (c == 95)) else (c == 95))) else (if (decide (c ≥ 65)) then ((decide (c ≤ 90)) || (c == 95)) else (c == 95))) (by rw [hc1, hc5] <;> rfl))
 obtain rfl := sj h
 exact zw lzz
theorem zgU {n : Int} {r : Bool} (h : zbK n = some r) : FnOk Try.prog 31 [kI n] [kB r] := by
 refine zx (E := ⟨[(2, kB r)], []⟩) 17 Try.func31 rfl rfl rfl ⟨rfl, trivial⟩ (fun Xt => ?_)
 refine zv ?_
 unfold zbK at h
 refine jp ?_
 refine zU ⟨[(2, kB ((decide (n ≥ 1)) && ((decide (n ≤ 536870911)) && ((decide (n < 19000)) || (decide (n > 19999))))))], []⟩ ?_ ?_
 ·
  refine (rsl 3 [] 5 (decide (n ≥ 1)) (fun hc1 => ?_) (fun hc1 => ?_))
  ·
   refine (rsl 4 [] 9 (decide (n ≤ 536870911)) (fun hc2 => ?_) (fun hc2 => ?_))
   ·
    refine (rsl 3 [] 12 (decide (n < 19000)) (fun hc3 => ?_) (fun hc3 => ?_))
    · exact (rbl [] 2 true ((decide (n ≥ 1)) && ((decide (n ≤ 536870911)) && ((decide (n < 19000)) || (decide (n > 19999))))) (by rw [hc1, hc2, hc3] <;> rfl))
    exact (rbl [] 2 (decide (n > 19999)) ((decide (n ≥ 1)) && ((decide (n ≤ 536870911)) && ((decide (n < 19000)) || (decide (n > 19999))))) (by rw [hc1, hc2, hc3] <;> rfl))
   exact (rbl [] 2 false ((decide (n ≥ 1)) && ((decide (n ≤ 536870911)) && ((decide (n < 19000)) || (decide (n > 19999))))) (by rw [hc1, hc2] <;> rfl))
  exact (rbl [] 2 false ((decide (n ≥ 1)) && ((decide (n ≤ 536870911)) && ((decide (n < 19000)) || (decide (n > 19999))))) (by rw [hc1] <;> rfl))
 obtain rfl := sj h
 exact zw lzz
theorem zeb {sv : (List Int)} {v : Int} {r : Int} (h : zaw sv v = some r) : FnOk Try.prog 46 [.sl (Rp.int .i64) [0] sv, kI v] [kI r] := by
 refine zx (E := ⟨[(4, kI r)], []⟩) 19 Try.func46 rfl rfl rfl ⟨rfl, trivial⟩ (fun Xt => ?_)
 refine zv ?_
 unfold zaw at h
 refine jp ?_
 refine jp ?_
 refine zN ?_
 obtain ⟨q, h_q, h⟩ := bnd h
 refine zcr (fun s : Int => zC sv v s) (fun s => ⟨[(0, .sl (Rp.int .i64) [0] sv), (1, kI v), (7, kI (sv.length : Int)), (8, kI s)], []⟩) (fun o e a w => match o with | (.inl v_) => e = .exit 0 ∧ Sx ⟨⟨19, []⟩, Xt, false, #[]⟩ ⟨[], []⟩ a w | (.inr v_) => e = .ret ∧ Sx ⟨⟨19, []⟩, Xt, false, #[]⟩ ⟨[(4, kI v_)], []⟩ a w) ?_ h_q lzz ?_
 ·
  clear h
  intro v2 o h
  refine zv ?_
  replace h : zC sv v v2 = some o := h
  unfold zC at h
  refine jp ?_
  rcases zq h with ⟨hc1, h⟩ | ⟨hc1, h⟩
  ·
   refine jT hc1 ?_
   refine zN ?_
   refine jp ?_
   obtain ⟨x, h_x, h⟩ := bnd h
   refine jr (ra 3 [.sl (Rp.int .i64) [0] sv, kI v2] rfl (zdD rfl ztT.el (zas _ _ _) h_x) rfl rf) ?_
   rcases zq h with ⟨hc2, h⟩ | ⟨hc2, h⟩
   ·
    refine jT hc2 ?_
    refine jp ?_
    obtain rfl := sj h
    exact zcK lzz
   refine jF hc2 ?_
   refine zav ?_
   refine jp ?_
   obtain rfl := sj h
   exact zab lzz
  refine jF hc1 ?_
  obtain rfl := sj h
  exact zce rfl lzz
 rcases q with u | u2
 ·
  refine zdc _ rfl ?_
  refine jp ?_
  obtain rfl := sj h
  exact zw lzz
 obtain rfl := sj h
 exact zhV lzz
theorem zfx {c : zP} {f : ze} {r : Bool} (h : zbj c f = some r) : FnOk Try.prog 34 [.ag [kI c.size, .sl (Rp.int .i64) [0] c.kinds, .mp zk Rp.bool [0] c.names, .mp zj Rp.bool [0] c.numbers], .rc za [0] f] [kB r] := by
 refine zx (E := ⟨[(4, kB r)], []⟩) 21 Try.func34 rfl rfl rfl ⟨rfl, trivial⟩ (fun Xt => ?_)
 refine zv ?_
 unfold zbj at h
 refine jq [11, 12] ?_
 refine jp ?_
 rcases zq h with ⟨hc1, h⟩ | ⟨hc1, h⟩
 ·
  refine jT hc1 ?_
  refine zU ⟨[(4, kB ((decide (f.Of ≥ 0)) && (decide (f.Of < c.size))))], []⟩ ?_ ?_
  ·
   refine (rsl 4 [] 11 (decide (f.Of ≥ 0)) (fun hc2 => ?_) (fun hc2 => ?_))
   · exact (rbl [] 4 (decide (f.Of < c.size)) ((decide (f.Of ≥ 0)) && (decide (f.Of < c.size))) (by rw [hc2] <;> rfl))
   exact (rbl [] 4 false ((decide (f.Of ≥ 0)) && (decide (f.Of < c.size))) (by rw [hc2] <;> rfl))
  obtain rfl := sj h
  exact zw lzz
 refine jF hc1 ?_
 refine jp ?_
 obtain rfl := sj h
 exact zw lzz
theorem zee {b : (List UInt8)} {r : (Int × Int × Int)} (h : zcb b = some r) : FnOk Try.prog 35 [.sl Rp.byte [0] b] [kU r.1, kI r.2.1, k8 r.2.2] := by
 refine zx (E := ⟨[(2, kU r.1), (3, kI r.2.1), (4, k8 r.2.2)], []⟩) 38 Try.func35 rfl rfl rfl ⟨rfl, rfl, rfl, trivial⟩ (fun Xt => ?_)
 refine zv ?_
 unfold zcb at h
 refine jp ?_
 obtain ⟨v, h_v, h⟩ := bnd h
 refine jr (ra 4 [.sl Rp.byte [0] b, kI (if (10 : Int) < (b.length : Int) then 10 else (b.length : Int))] rfl (zfe none (some (kI (if (10 : Int) < (b.length : Int) then 10 else (b.length : Int)))) rfl zdz.el (zas _ _ _) ⟨rfl, rfl⟩ ⟨rfl, rfl⟩ h_v) rfl rf) ?_
 refine zN ?_
 obtain ⟨q, h_q, h⟩ := bnd h
 refine zcr (fun s : (Int × Int) => zar v s.1 s.2) (fun s => ⟨[(2, kU s.1), (11, .sl Rp.byte [0] v), (12, kI (v.length : Int)), (13, kI s.2)], []⟩) (fun o e a w => match o with | (.inl v_) => e = .exit 0 ∧ Sx ⟨⟨38, []⟩, Xt, false, #[]⟩ ⟨[], []⟩ a w | (.inr v_) => e = .ret ∧ Sx ⟨⟨38, []⟩, Xt, false, #[]⟩ ⟨[(2, kU v_.1), (3, kI v_.2.1), (4, k8 v_.2.2)], []⟩ a w) ?_ h_q lzz ?_
 ·
  clear h
  intro s o h
  obtain ⟨wv, v2⟩ := s
  refine zv ?_
  replace h : zar v wv v2 = some o := h
  unfold zar at h
  refine jp ?_
  rcases zq h with ⟨hc1, h⟩ | ⟨hc1, h⟩
  ·
   refine jT hc1 ?_
   refine zN ?_
   obtain ⟨x, h_x, h⟩ := bnd h
   refine jr (ra 1 [.sl Rp.byte [0] v, kI v2] rfl (zdD rfl zdz.el (zas _ _ _) h_x) rfl rf) ?_
   refine zU ⟨[(2, kU wv), (5, kI v2), (6, k8 (x.toNat : Int)), (11, .sl Rp.byte [0] v), (12, kI (v.length : Int)), (13, kI v2), (23, kB ((v2 == 9) && (decide ((x.toNat : Int) > 1))))], []⟩ ?_ ?_
   ·
    refine (rsl 3 [] 20 (v2 == 9) (fun hc2 => ?_) (fun hc2 => ?_))
    · exact (rbl [] 23 (decide ((x.toNat : Int) > 1)) ((v2 == 9) && (decide ((x.toNat : Int) > 1))) (by rw [hc2] <;> rfl))
    exact (rbl [] 23 false ((v2 == 9) && (decide ((x.toNat : Int) > 1))) (by rw [hc2] <;> rfl))
   rcases zq h with ⟨hc3, h⟩ | ⟨hc3, h⟩
   ·
    refine jT hc3 ?_
    refine jp ?_
    obtain rfl := sj h
    exact zcK lzz
   refine jF hc3 ?_
   obtain ⟨v4, h_v4, h⟩ := bnd h
   refine jr (ra 6 [kU (IntKind.u64.wrap (andI .u8 (x.toNat : Int) 127)), kI (IntKind.i64.wrap (7 * v2))] rfl (zqV rfl h_v4) rfl rf) ?_
   refine jp ?_
   rcases zq h with ⟨hc4, h⟩ | ⟨hc4, h⟩
   ·
    refine jT hc4 ?_
    refine jp ?_
    obtain rfl := sj h
    exact zcK lzz
   refine jF hc4 ?_
   refine zav ?_
   refine jp ?_
   obtain rfl := sj h
   exact zab lzz
  refine jF hc1 ?_
  obtain rfl := sj h
  exact zce rfl lzz
 rcases q with u | u2
 ·
  refine zdc _ rfl ?_
  refine jp ?_
  obtain rfl := sj h
  exact zw lzz
 obtain rfl := sj h
 exact zhV lzz
theorem zir {wire : Int} {r : Bool} (h : zcq wire = some r) : FnOk Try.prog 48 [kI wire] [kB r] := by
 refine zx (E := ⟨[(2, kB r)], []⟩) 9 Try.func48 rfl rfl rfl ⟨rfl, trivial⟩ (fun Xt => ?_)
 refine zv ?_
 unfold zcq at h
 refine jp ?_
 refine jp ?_
 refine zN ?_
 refine jp ?_
 rcases zq h with ⟨hc1, h⟩ | ⟨hc1, h⟩
 ·
  refine jT hc1 ?_
  rcases zq h with ⟨hc2, h⟩ | ⟨hc2, h⟩
  ·
   refine jT hc2 ?_
   refine jp ?_
   obtain rfl := sj h
   exact zw lzz
  refine jF hc2 ?_
  refine zav ?_
  refine jp ?_
  obtain rfl := sj h
  exact zw lzz
 refine jF hc1 ?_
 refine jp ?_
 rcases zq h with ⟨hc3, h⟩ | ⟨hc3, h⟩
 ·
  refine jT hc3 ?_
  rcases zq h with ⟨hc4, h⟩ | ⟨hc4, h⟩
  ·
   refine jT hc4 ?_
   refine jp ?_
   obtain rfl := sj h
   exact zw lzz
  refine jF hc4 ?_
  refine zav ?_
  refine jp ?_
  obtain rfl := sj h
  exact zw lzz
 refine jF hc3 ?_
 refine jp ?_
 rcases zq h with ⟨hc5, h⟩ | ⟨hc5, h⟩
 ·
  refine jT hc5 ?_
  rcases zq h with ⟨hc6, h⟩ | ⟨hc6, h⟩
  ·
   refine jT hc6 ?_
   refine jp ?_
   obtain rfl := sj h
   exact zw lzz
  refine jF hc6 ?_
  refine zav ?_
  refine jp ?_
  obtain rfl := sj h
  exact zw lzz
 refine jF hc5 ?_
 refine jp ?_
 rcases zq h with ⟨hc7, h⟩ | ⟨hc7, h⟩
 ·
  refine jT hc7 ?_
  refine jp ?_
  obtain rfl := sj h
  exact zw lzz
 refine jF hc7 ?_
 refine zav ?_
 refine jp ?_
 obtain rfl := sj h
 exact zw lzz
theorem ziR {f : ze} {v : Int} {r : Bool} (h : zcP f v = some r) : FnOk Try.prog 61 [.rc za [0] f, .ep (Rp.int .i64) [0] v 0] [kB r] := by
 refine zx (E := ⟨[(3, kB r)], []⟩) 8 Try.func61 rfl rfl rfl ⟨rfl, trivial⟩ (fun Xt => ?_)
 refine zv ?_
 unfold zcP at h
 refine jq [11] ?_
 refine jp ?_
 obtain rfl := sj h
 exact zw lzz
theorem ziL {k : Int} {r : (Int × Int)} (h : zcM k = some r) : FnOk Try.prog 75 [kI k] [kI r.1, k8 r.2] := by
 refine zx (E := ⟨[(2, kI r.1), (3, k8 r.2)], []⟩) 22 Try.func75 rfl rfl rfl ⟨rfl, rfl, trivial⟩ (fun Xt => ?_)
 refine zv ?_
 unfold zcM at h
 refine jp ?_
 refine jp ?_
 refine zN ?_
 refine jp ?_
 obtain ⟨p, h_p, h⟩ := bnd h
 refine zel (R := fun e a w => e = .normal ∧ Sx ⟨⟨22, []⟩, Xt, false, #[]⟩ ⟨[(4, kI k), (5, kB p)], []⟩ a w) ?_ ?_
 ·
  replace h := h_p
  refine zv ?_
  rcases zq h with ⟨hc1, h⟩ | ⟨hc1, h⟩
  ·
   refine jT hc1 ?_
   obtain rfl := sj h
   exact zab lzz
  refine jF hc1 ?_
  refine jp ?_
  rcases zq h with ⟨hc2, h⟩ | ⟨hc2, h⟩
  ·
   refine jT hc2 ?_
   obtain rfl := sj h
   exact zab lzz
  refine jF hc2 ?_
  refine jp ?_
  rcases zq h with ⟨hc3, h⟩ | ⟨hc3, h⟩
  ·
   refine jT hc3 ?_
   obtain rfl := sj h
   exact zab lzz
  refine jF hc3 ?_
  refine jp ?_
  rcases zq h with ⟨hc4, h⟩ | ⟨hc4, h⟩
  ·
   refine jT hc4 ?_
   obtain rfl := sj h
   exact zab lzz
  refine jF hc4 ?_
  refine jp ?_
  rcases zq h with ⟨hc5, h⟩ | ⟨hc5, h⟩
  ·
   refine jT hc5 ?_
   obtain rfl := sj h
   exact zab lzz
  refine jF hc5 ?_
  refine jp ?_
  rcases zq h with ⟨hc6, h⟩ | ⟨hc6, h⟩
  ·
   refine jT hc6 ?_
   obtain rfl := sj h
   exact zab lzz
  refine jF hc6 ?_
  refine jp ?_
  rcases zq h with ⟨hc7, h⟩ | ⟨hc7, h⟩
  ·
   refine jT hc7 ?_
   obtain rfl := sj h
   exact zab lzz
  refine jF hc7 ?_
  refine jp ?_
  obtain rfl := sj h
  exact zab lzz
 refine zgM ?_
 rcases zq h with ⟨hc8, h⟩ | ⟨hc8, h⟩
 ·
  refine jT hc8 ?_
  refine jp ?_
  obtain rfl := sj h
  exact zw lzz
 refine jF hc8 ?_
 refine jp ?_
 obtain ⟨p2, h_p2, h⟩ := bnd h
 refine zel (R := fun e a w => e = .normal ∧ Sx ⟨⟨22, []⟩, Xt, false, #[]⟩ ⟨[(4, kI k), (14, kB p2)], []⟩ a w) ?_ ?_
 ·
  replace h := h_p2
  refine zv ?_
  rcases zq h with ⟨hc9, h⟩ | ⟨hc9, h⟩
  ·
   refine jT hc9 ?_
   obtain rfl := sj h
   exact zab lzz
  refine jF hc9 ?_
  refine jp ?_
  rcases zq h with ⟨hc10, h⟩ | ⟨hc10, h⟩
  ·
   refine jT hc10 ?_
   obtain rfl := sj h
   exact zab lzz
  refine jF hc10 ?_
  refine jp ?_
  obtain rfl := sj h
  exact zab lzz
 refine zgM ?_
 rcases zq h with ⟨hc11, h⟩ | ⟨hc11, h⟩
 ·
  refine jT hc11 ?_
  refine jp ?_
  obtain rfl := sj h
  exact zw lzz
 refine jF hc11 ?_
 refine jp ?_
 rcases zq h with ⟨hc12, h⟩ | ⟨hc12, h⟩
 ·
  refine jT hc12 ?_
  rcases zq h with ⟨hc13, h⟩ | ⟨hc13, h⟩
  ·
   refine jT hc13 ?_
   refine jp ?_
   obtain rfl := sj h
   exact zw lzz
  refine jF hc13 ?_
  refine zav ?_
  refine jp ?_
  obtain rfl := sj h
  exact zw lzz
 refine jF hc12 ?_
 refine jp ?_
 rcases zq h with ⟨hc14, h⟩ | ⟨hc14, h⟩
 ·
  refine jT hc14 ?_
  rcases zq h with ⟨hc15, h⟩ | ⟨hc15, h⟩
  ·
   refine jT hc15 ?_
   refine jp ?_
   obtain rfl := sj h
   exact zw lzz
  refine jF hc15 ?_
  refine zav ?_
  refine jp ?_
  obtain rfl := sj h
  exact zw lzz
 refine jF hc14 ?_
 refine jp ?_
 rcases zq h with ⟨hc16, h⟩ | ⟨hc16, h⟩
 ·
  refine jT hc16 ?_
  refine jp ?_
  obtain rfl := sj h
  exact zw lzz
 refine jF hc16 ?_
 refine zav ?_
 refine jp ?_
 obtain rfl := sj h
 exact zw lzz
theorem zgv {wv : Int} {r : Int} (h : zcX wv = some r) : FnOk Try.prog 88 [kU wv] [.lf (.int .u32 r)] := by
 refine zx (E := ⟨[(2, .lf (.int .u32 r))], []⟩) 5 Try.func88 rfl rfl rfl ⟨rfl, trivial⟩ (fun Xt => ?_)
 refine zv ?_
 unfold zcX at h
 refine jp ?_
 refine jp ?_
 obtain rfl := sj h
 exact zw lzz
theorem zjo {n : Int} {r : Int} (h : zdn n = some r) : FnOk Try.prog 86 [.lf (.int .i32 n)] [kU r] := by
 refine zx (E := ⟨[(2, kU r)], []⟩) 6 Try.func86 rfl rfl rfl ⟨rfl, trivial⟩ (fun Xt => ?_)
 refine zv ?_
 unfold zdn at h
 refine jp ?_
 refine jp ?_
 obtain rfl := sj h
 exact zw lzz
theorem zkJ {wv : Int} {r : Int} (h : zfb wv = some r) : FnOk Try.prog 89 [kU wv] [kU r] := by
 refine zx (E := ⟨[(2, kU r)], []⟩) 5 Try.func89 rfl rfl rfl ⟨rfl, trivial⟩ (fun Xt => ?_)
 refine zv ?_
 unfold zfb at h
 refine jp ?_
 refine jp ?_
 obtain rfl := sj h
 exact zw lzz
theorem zmw {wv : Int} {r : Int} (h : zfB wv = some r) : FnOk Try.prog 77 [kU wv] [kI r] := by
 refine zx (E := ⟨[(2, kI r)], []⟩) 13 Try.func77 rfl rfl rfl ⟨rfl, trivial⟩ (fun Xt => ?_)
 refine zv ?_
 unfold zfB at h
 refine jp ?_
 refine jp ?_
 refine jr (ra 1 [kU wv, kU 7] rfl (zdB rfl rfl) rfl rf) ?_
 refine zN ?_
 obtain ⟨q, h_q, h⟩ := bnd h
 refine zcr (fun s : (Int × Int) => zaZ s.1 s.2) (fun s => ⟨[(0, kU s.1), (3, kI s.2)], []⟩) (fun o e a w => e = .exit 0 ∧ Sx ⟨⟨13, []⟩, Xt, false, #[]⟩ ⟨[(3, kI o)], []⟩ a w) ?_ h_q lzz ?_
 ·
  clear h
  intro s o h
  obtain ⟨wv2, n⟩ := s
  refine zv ?_
  replace h : zaZ wv2 n = some o := h
  unfold zaZ at h
  refine jp ?_
  rcases zq h with ⟨hc1, h⟩ | ⟨hc1, h⟩
  ·
   refine jT hc1 ?_
   refine zN ?_
   refine jp ?_
   refine zav ?_
   refine jr (ra 1 [kU wv2, kU 7] rfl (zdB rfl rfl) rfl rf) ?_
   obtain rfl := sj h
   exact zab lzz
  refine jF hc1 ?_
  obtain rfl := sj h
  exact zce rfl lzz
 refine zdc _ rfl ?_
 refine jp ?_
 obtain rfl := sj h
 exact zw lzz
theorem znr {c : Int} {r : (Int × Int)} (h : zhI c = some r) : FnOk Try.prog 78 [k8 c] [kI r.1, .lf (.int .u32 r.2)] := by
 refine zx (E := ⟨[(2, kI r.1), (3, .lf (.int .u32 r.2))], []⟩) 31 Try.func78 rfl rfl rfl ⟨rfl, rfl, trivial⟩ (fun Xt => ?_)
 refine zv ?_
 unfold zhI at h
 refine jp ?_
 refine zN ?_
 refine jr (ra 1 [k8 c, kU 7] rfl (zdB rfl rfl) rfl rf) ?_
 rcases zq h with ⟨hc1, h⟩ | ⟨hc1, h⟩
 ·
  refine jT hc1 ?_
  refine jp ?_
  obtain rfl := sj h
  exact zw lzz
 refine jF hc1 ?_
 refine jr (ra 1 [k8 c, kU 5] rfl (zdB rfl rfl) rfl rf) ?_
 rcases zq h with ⟨hc2, h⟩ | ⟨hc2, h⟩
 ·
  refine jT hc2 ?_
  refine jp ?_
  obtain rfl := sj h
  exact zw lzz
 refine jF hc2 ?_
 refine jr (ra 1 [k8 c, kU 4] rfl (zdB rfl rfl) rfl rf) ?_
 rcases zq h with ⟨hc3, h⟩ | ⟨hc3, h⟩
 ·
  refine jT hc3 ?_
  refine jp ?_
  obtain rfl := sj h
  exact zw lzz
 refine jF hc3 ?_
 refine jr (ra 1 [k8 c, kU 3] rfl (zdB rfl rfl) rfl rf) ?_
 rcases zq h with ⟨hc4, h⟩ | ⟨hc4, h⟩
 ·
  refine jT hc4 ?_
  refine jp ?_
  obtain rfl := sj h
  exact zw lzz
 refine jF hc4 ?_
 refine zav ?_
 refine jp ?_
 obtain rfl := sj h
 exact zw lzz
theorem znq {wv : Int} {r : Int} (h : zeT wv = some r) : FnOk Try.prog 79 [.lf (.int .u32 wv)] [kI r] := by
 refine zx (E := ⟨[(2, kI r)], []⟩) 22 Try.func79 rfl rfl rfl ⟨rfl, trivial⟩ (fun Xt => ?_)
 refine zv ?_
 unfold zeT at h
 refine jp ?_
 refine zN ?_
 refine jr (ra 1 [.lf (.int .u32 wv), kU 7] rfl (zdB rfl rfl) rfl rf) ?_
 rcases zq h with ⟨hc1, h⟩ | ⟨hc1, h⟩
 ·
  refine jT hc1 ?_
  refine jp ?_
  obtain rfl := sj h
  exact zw lzz
 refine jF hc1 ?_
 refine jr (ra 1 [.lf (.int .u32 wv), kU 11] rfl (zdB rfl rfl) rfl rf) ?_
 rcases zq h with ⟨hc2, h⟩ | ⟨hc2, h⟩
 ·
  refine jT hc2 ?_
  refine jp ?_
  obtain rfl := sj h
  exact zw lzz
 refine jF hc2 ?_
 refine jr (ra 1 [.lf (.int .u32 wv), kU 11] rfl (zdB rfl rfl) rfl rf) ?_
 rcases zq h with ⟨hc3, h⟩ | ⟨hc3, h⟩
 ·
  refine jT hc3 ?_
  refine jp ?_
  obtain rfl := sj h
  exact zw lzz
 refine jF hc3 ?_
 refine jr (ra 1 [.lf (.int .u32 wv), kU 16] rfl (zdB rfl rfl) rfl rf) ?_
 rcases zq h with ⟨hc4, h⟩ | ⟨hc4, h⟩
 ·
  refine jT hc4 ?_
  refine jp ?_
  obtain rfl := sj h
  exact zw lzz
 refine jF hc4 ?_
 refine jp ?_
 rcases zq h with ⟨hc5, h⟩ | ⟨hc5, h⟩
 ·
  refine jT hc5 ?_
  refine jp ?_
  obtain rfl := sj h
  exact zw lzz
 refine jF hc5 ?_
 refine zav ?_
 refine jp ?_
 obtain rfl := sj h
 exact zw lzz
theorem zgp {sv : (List zr)} {r : Bool} (h : zbx sv = some r) : FnOk Try.prog 5 [.sl zi [0] sv] [kB r] := by
 refine zx (E := ⟨[(2, kB r)], []⟩) 54 Try.func5 rfl rfl rfl ⟨rfl, trivial⟩ (fun Xt => ?_)
 refine zv ?_
 unfold zbx at h
 refine jp ?_
 refine jp ?_
 refine jp ?_
 refine zN ?_
 obtain ⟨q2, h_q2, h⟩ := bnd h
 refine zcr (fun s : (Int × Int) => zZ sv s.1 s.2) (fun s => ⟨[(0, .sl zi [0] sv), (3, kI s.1), (4, kI s.2)], []⟩) (fun o e a w => e = .exit 0 ∧ Sx ⟨⟨54, []⟩, Xt, false, #[]⟩ ⟨[(3, kI o)], []⟩ a w) ?_ h_q2 lzz ?_
 ·
  clear h
  intro s o h
  obtain ⟨n, i⟩ := s
  refine zv ?_
  replace h : zZ sv n i = some o := h
  unfold zZ at h
  refine jp ?_
  rcases zq h with ⟨hc1, h⟩ | ⟨hc1, h⟩
  ·
   refine jT hc1 ?_
   refine zN ?_
   obtain ⟨x, h_x, h⟩ := bnd h
   obtain ⟨x2, h_x2, h⟩ := bnd h
   refine jd [0, 3, 4] [] zfN (by exact (lw_e (lw_e (lw_e (lw_e (ly [.sl zi [0] sv, kI i] (zdD rfl ziG.el (zas _ _ _) h_x) rfl (lw_e (lw_e (lw_e (lw_e (lw_e (lw_e (lw_e (ly [.sl zi [0] sv, kI i] (zdD rfl ziG.el (zas _ _ _) h_x2) rfl (lw_e (ly [.ep zi [0] x2 1] (zlY za x2.Fields rfl rfl rfl) rfl l0)))))))))))))))) ?_
   refine jp ?_
   refine zN ?_
   obtain ⟨q, h_q, h⟩ := bnd h
   refine zcr (fun s : (Int × Int) => zaa i sv s.1 s.2) (fun s => ⟨[(0, .sl zi [0] sv), (3, kI s.1), (4, kI i), (5, kI s.2)], []⟩) (fun o e a w => e = .exit 2 ∧ Sx ⟨⟨54, []⟩, Xt, false, #[]⟩ ⟨[(0, .sl zi [0] sv), (3, kI o), (4, kI i)], []⟩ a w) ?_ h_q lzz ?_
   ·
    clear h
    intro s o h
    obtain ⟨n3, k⟩ := s
    refine zv ?_
    replace h : zaa i sv n3 k = some o := h
    unfold zaa at h
    obtain ⟨x3, h_x3, h⟩ := bnd h
    refine jr (ra 3 [.sl zi [0] sv, kI i] rfl (zdD rfl ziG.el (zas _ _ _) h_x3) rfl (ra 1 [.ep zi [0] x3 1] rfl (zlY za x3.Fields rfl rfl rfl) rfl rf)) ?_
    rcases zq h with ⟨hc2, h⟩ | ⟨hc2, h⟩
    ·
     refine jT hc2 ?_
     refine zN ?_
     obtain ⟨x4, h_x4, h⟩ := bnd h
     obtain ⟨x5, h_x5, h⟩ := bnd h
     refine jr (ra 3 [.sl zi [0] sv, kI i] rfl (zdD rfl ziG.el (zas _ _ _) h_x4) rfl (ra 1 [.ep zi [0] x4 1] rfl (zlY za x4.Fields rfl rfl rfl) rfl (ra 1 [.sl za [0] x4.Fields, kI k] rfl (zdD rfl zlB.el (zas _ _ _) h_x5) rfl rf))) ?_
     refine zav ?_
     refine jp ?_
     obtain rfl := sj h
     exact zab lzz
    refine jF hc2 ?_
    obtain rfl := sj h
    exact zce rfl lzz
   refine zdc _ rfl ?_
   refine zav ?_
   refine jp ?_
   obtain rfl := sj h
   exact zab lzz
  refine jF hc1 ?_
  obtain rfl := sj h
  exact zce rfl lzz
 refine zdc _ rfl ?_
 refine jp ?_
 obtain rfl := sj h
 exact zw lzz
end Go.Proofs.Ytnfembipjdohcaa
