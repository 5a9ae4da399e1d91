/-
  The Go functions do what the plain functions say. No condition.
-/
import Derived.Test.YtglkepeofhonlaaGreatDoorT
import Derived.Test.YtglkepeofhonlaaGreatDoorY
namespace Go.Proofs.YtglkepeofhonlaaGreatDoor
open Go Go.RowKit
set_option linter.unusedVariables false
set_option maxRecDepth 100000
set_option maxHeartbeats 3200000
abbrev zAy := (mput ([] : (List (Int × zk))) 1 (⟨[105, 110, 116, 51, 50], 0⟩ : zk))
abbrev zAz := (mput zAy 2 (⟨[105, 110, 116, 54, 52], 0⟩ : zk))
abbrev zAA := (mput zAz 3 (⟨[117, 105, 110, 116, 51, 50], 0⟩ : zk))
abbrev zAB := (mput zAA 4 (⟨[117, 105, 110, 116, 54, 52], 0⟩ : zk))
abbrev zAC := (mput zAB 5 (⟨[115, 105, 110, 116, 51, 50], 0⟩ : zk))
abbrev zAD := (mput zAC 6 (⟨[115, 105, 110, 116, 54, 52], 0⟩ : zk))
abbrev zAE := (mput zAD 7 (⟨[98, 111, 111, 108], 0⟩ : zk))
abbrev zAF := (mput zAE 8 (⟨[101, 110, 117, 109], 0⟩ : zk))
abbrev zAG := (mput zAF 9 (⟨[102, 105, 120, 101, 100, 51, 50], 5⟩ : zk))
abbrev zxA := (mput zAG 10 (⟨[115, 102, 105, 120, 101, 100, 51, 50], 5⟩ : zk))
abbrev zxB := (mput zxA 11 (⟨[102, 108, 111, 97, 116], 5⟩ : zk))
abbrev zxC := (mput zxB 12 (⟨[102, 105, 120, 101, 100, 54, 52], 1⟩ : zk))
abbrev zxD := (mput zxC 13 (⟨[115, 102, 105, 120, 101, 100, 54, 52], 1⟩ : zk))
abbrev zxE := (mput zxD 14 (⟨[100, 111, 117, 98, 108, 101], 1⟩ : zk))
abbrev zuU := (mput zxE 15 (⟨[115, 116, 114, 105, 110, 103], 2⟩ : zk))
theorem zoI  {r : (List (Int × zk))} (h : zkp = some r) : FnOk Tryz.prog 112 [] [.om (Rp.int .i64) zr 2 [] r] := by
 refine zo (E := ⟨[(0, .om (Rp.int .i64) zr 2 [] r)], []⟩) 20 Tryz.func112 rfl rfl rfl ⟨rfl, trivial⟩ (fun Xt => ?_)
 refine zh ?_
 unfold zkp at h
 refine jp ?_
 refine jr (rc 0 rfl (znB (rk := (Rp.int .i64)) (rv := zr) 12 rfl) (rc 0 rfl (zbR (r := zr) [kS [105, 110, 116, 51, 50], kI 0] [] (⟨[105, 110, 116, 51, 50], 0⟩ : zk) rfl zhi rfl rfl) (rkl 0 [] ⟨[(1, .om (Rp.int .i64) zr 12 [] ([] : (List (Int × zk)))), (2, .rc zr [] (⟨[105, 110, 116, 51, 50], 0⟩ : zk))], []⟩ (zfV (rk := (Rp.int .i64)) (rv := zr) (m := ([] : (List (Int × zk)))) (C := []) (C1 := []) (D := []) [1] 1 (⟨[105, 110, 116, 51, 50], 0⟩ : zk) [] zfC rfl (.inr rfl) rfl rfl rfl rfl (zfi rfl rfl) (zdH rfl) (by kernel_rfl) rfl (rc 0 rfl (zbR (r := zr) [kS [105, 110, 116, 54, 52], kI 0] [] (⟨[105, 110, 116, 54, 52], 0⟩ : zk) rfl zhi rfl rfl) (rkl 0 [] ⟨[(1, .om (Rp.int .i64) zr 12 [] zAy), (3, .rc zr [] (⟨[105, 110, 116, 54, 52], 0⟩ : zk))], []⟩ (zfV (rk := (Rp.int .i64)) (rv := zr) (m := zAy) (C := []) (C1 := []) (D := []) [1] 2 (⟨[105, 110, 116, 54, 52], 0⟩ : zk) [] zfC rfl (.inr rfl) rfl rfl rfl rfl (zfi rfl rfl) (zdH rfl) (by kernel_rfl) rfl (rc 0 rfl (zbR (r := zr) [kS [117, 105, 110, 116, 51, 50], kI 0] [] (⟨[117, 105, 110, 116, 51, 50], 0⟩ : zk) rfl zhi rfl rfl) (rkl 0 [] ⟨[(1, .om (Rp.int .i64) zr 12 [] zAz), (4, .rc zr [] (⟨[117, 105, 110, 116, 51, 50], 0⟩ : zk))], []⟩ (zfV (rk := (Rp.int .i64)) (rv := zr) (m := zAz) (C := []) (C1 := []) (D := []) [1] 3 (⟨[117, 105, 110, 116, 51, 50], 0⟩ : zk) [] zfC rfl (.inr rfl) rfl rfl rfl rfl (zfi rfl rfl) (zdH rfl) (by kernel_rfl) rfl (rc 0 rfl (zbR (r := zr) [kS [117, 105, 110, 116, 54, 52], kI 0] [] (⟨[117, 105, 110, 116, 54, 52], 0⟩ : zk) rfl zhi rfl rfl) (rkl 0 [] ⟨[(1, .om (Rp.int .i64) zr 12 [] zAA), (5, .rc zr [] (⟨[117, 105, 110, 116, 54, 52], 0⟩ : zk))], []⟩ (zfV (rk := (Rp.int .i64)) (rv := zr) (m := zAA) (C := []) (C1 := []) (D := []) [1] 4 (⟨[117, 105, 110, 116, 54, 52], 0⟩ : zk) [] zfC rfl (.inr rfl) rfl rfl rfl rfl (zfi rfl rfl) (zdH rfl) (by kernel_rfl) rfl (rc 0 rfl (zbR (r := zr) [kS [115, 105, 110, 116, 51, 50], kI 0] [] (⟨[115, 105, 110, 116, 51, 50], 0⟩ : zk) rfl zhi rfl rfl) (rkl 0 [] ⟨[(1, .om (Rp.int .i64) zr 12 [] zAB), (6, .rc zr [] (⟨[115, 105, 110, 116, 51, 50], 0⟩ : zk))], []⟩ (zfV (rk := (Rp.int .i64)) (rv := zr) (m := zAB) (C := []) (C1 := []) (D := []) [1] 5 (⟨[115, 105, 110, 116, 51, 50], 0⟩ : zk) [] zfC rfl (.inr rfl) rfl rfl rfl rfl (zfi rfl rfl) (zdH rfl) (by kernel_rfl) rfl (rc 0 rfl (zbR (r := zr) [kS [115, 105, 110, 116, 54, 52], kI 0] [] (⟨[115, 105, 110, 116, 54, 52], 0⟩ : zk) rfl zhi rfl rfl) (rkl 0 [] ⟨[(1, .om (Rp.int .i64) zr 12 [] zAC), (7, .rc zr [] (⟨[115, 105, 110, 116, 54, 52], 0⟩ : zk))], []⟩ (zfV (rk := (Rp.int .i64)) (rv := zr) (m := zAC) (C := []) (C1 := []) (D := []) [1] 6 (⟨[115, 105, 110, 116, 54, 52], 0⟩ : zk) [] zfC rfl (.inr rfl) rfl rfl rfl rfl (zfi rfl rfl) (zdH rfl) (by kernel_rfl) rfl (rc 0 rfl (zbR (r := zr) [kS [98, 111, 111, 108], kI 0] [] (⟨[98, 111, 111, 108], 0⟩ : zk) rfl zhi rfl rfl) (rkl 0 [] ⟨[(1, .om (Rp.int .i64) zr 12 [] zAD), (8, .rc zr [] (⟨[98, 111, 111, 108], 0⟩ : zk))], []⟩ (zfV (rk := (Rp.int .i64)) (rv := zr) (m := zAD) (C := []) (C1 := []) (D := []) [1] 7 (⟨[98, 111, 111, 108], 0⟩ : zk) [] zfC rfl (.inr rfl) rfl rfl rfl rfl (zfi rfl rfl) (zdH rfl) (by kernel_rfl) rfl (rc 0 rfl (zbR (r := zr) [kS [101, 110, 117, 109], kI 0] [] (⟨[101, 110, 117, 109], 0⟩ : zk) rfl zhi rfl rfl) (rkl 0 [] ⟨[(1, .om (Rp.int .i64) zr 12 [] zAE), (9, .rc zr [] (⟨[101, 110, 117, 109], 0⟩ : zk))], []⟩ (zfV (rk := (Rp.int .i64)) (rv := zr) (m := zAE) (C := []) (C1 := []) (D := []) [1] 8 (⟨[101, 110, 117, 109], 0⟩ : zk) [] zfC rfl (.inr rfl) rfl rfl rfl rfl (zfi rfl rfl) (zdH rfl) (by kernel_rfl) rfl (rc 0 rfl (zbR (r := zr) [kS [102, 105, 120, 101, 100, 51, 50], kI 5] [] (⟨[102, 105, 120, 101, 100, 51, 50], 5⟩ : zk) rfl zhi rfl rfl) (rkl 0 [] ⟨[(1, .om (Rp.int .i64) zr 12 [] zAF), (10, .rc zr [] (⟨[102, 105, 120, 101, 100, 51, 50], 5⟩ : zk))], []⟩ (zfV (rk := (Rp.int .i64)) (rv := zr) (m := zAF) (C := []) (C1 := []) (D := []) [1] 9 (⟨[102, 105, 120, 101, 100, 51, 50], 5⟩ : zk) [] zfC rfl (.inr rfl) rfl rfl rfl rfl (zfi rfl rfl) (zdH rfl) (by kernel_rfl) rfl (rc 0 rfl (zbR (r := zr) [kS [115, 102, 105, 120, 101, 100, 51, 50], kI 5] [] (⟨[115, 102, 105, 120, 101, 100, 51, 50], 5⟩ : zk) rfl zhi rfl rfl) (rkl 0 [] ⟨[(1, .om (Rp.int .i64) zr 12 [] zAG), (11, .rc zr [] (⟨[115, 102, 105, 120, 101, 100, 51, 50], 5⟩ : zk))], []⟩ (zfV (rk := (Rp.int .i64)) (rv := zr) (m := zAG) (C := []) (C1 := []) (D := []) [1] 10 (⟨[115, 102, 105, 120, 101, 100, 51, 50], 5⟩ : zk) [] zfC rfl (.inr rfl) rfl rfl rfl rfl (zfi rfl rfl) (zdH rfl) (by kernel_rfl) rfl (rc 0 rfl (zbR (r := zr) [kS [102, 108, 111, 97, 116], kI 5] [] (⟨[102, 108, 111, 97, 116], 5⟩ : zk) rfl zhi rfl rfl) (rkl 0 [] ⟨[(1, .om (Rp.int .i64) zr 12 [] zxA), (12, .rc zr [] (⟨[102, 108, 111, 97, 116], 5⟩ : zk))], []⟩ (zfV (rk := (Rp.int .i64)) (rv := zr) (m := zxA) (C := []) (C1 := []) (D := []) [1] 11 (⟨[102, 108, 111, 97, 116], 5⟩ : zk) [] zfC rfl (.inr rfl) rfl rfl rfl rfl (zfi rfl rfl) (zdH rfl) (by kernel_rfl) rfl (rc 0 rfl (zbR (r := zr) [kS [102, 105, 120, 101, 100, 54, 52], kI 1] [] (⟨[102, 105, 120, 101, 100, 54, 52], 1⟩ : zk) rfl zhi rfl rfl) (rkl 0 [] ⟨[(1, .om (Rp.int .i64) zr 12 [] zxB), (13, .rc zr [] (⟨[102, 105, 120, 101, 100, 54, 52], 1⟩ : zk))], []⟩ (zfV (rk := (Rp.int .i64)) (rv := zr) (m := zxB) (C := []) (C1 := []) (D := []) [1] 12 (⟨[102, 105, 120, 101, 100, 54, 52], 1⟩ : zk) [] zfC rfl (.inr rfl) rfl rfl rfl rfl (zfi rfl rfl) (zdH rfl) (by kernel_rfl) rfl (rc 0 rfl (zbR (r := zr) [kS [115, 102, 105, 120, 101, 100, 54, 52], kI 1] [] (⟨[115, 102, 105, 120, 101, 100, 54, 52], 1⟩ : zk) rfl zhi rfl rfl) (rkl 0 [] ⟨[(1, .om (Rp.int .i64) zr 12 [] zxC), (14, .rc zr [] (⟨[115, 102, 105, 120, 101, 100, 54, 52], 1⟩ : zk))], []⟩ (zfV (rk := (Rp.int .i64)) (rv := zr) (m := zxC) (C := []) (C1 := []) (D := []) [1] 13 (⟨[115, 102, 105, 120, 101, 100, 54, 52], 1⟩ : zk) [] zfC rfl (.inr rfl) rfl rfl rfl rfl (zfi rfl rfl) (zdH rfl) (by kernel_rfl) rfl (rc 0 rfl (zbR (r := zr) [kS [100, 111, 117, 98, 108, 101], kI 1] [] (⟨[100, 111, 117, 98, 108, 101], 1⟩ : zk) rfl zhi rfl rfl) (rkl 0 [] ⟨[(1, .om (Rp.int .i64) zr 12 [] zxD), (15, .rc zr [] (⟨[100, 111, 117, 98, 108, 101], 1⟩ : zk))], []⟩ (zfV (rk := (Rp.int .i64)) (rv := zr) (m := zxD) (C := []) (C1 := []) (D := []) [1] 14 (⟨[100, 111, 117, 98, 108, 101], 1⟩ : zk) [] zfC rfl (.inr rfl) rfl rfl rfl rfl (zfi rfl rfl) (zdH rfl) (by kernel_rfl) rfl (rc 0 rfl (zbR (r := zr) [kS [115, 116, 114, 105, 110, 103], kI 2] [] (⟨[115, 116, 114, 105, 110, 103], 2⟩ : zk) rfl zhi rfl rfl) (rkl 0 [] ⟨[(1, .om (Rp.int .i64) zr 12 [] zxE), (16, .rc zr [] (⟨[115, 116, 114, 105, 110, 103], 2⟩ : zk))], []⟩ (zfV (rk := (Rp.int .i64)) (rv := zr) (m := zxE) (C := []) (C1 := []) (D := []) [1] 15 (⟨[115, 116, 114, 105, 110, 103], 2⟩ : zk) [] zfC rfl (.inr rfl) rfl rfl rfl rfl (zfi rfl rfl) (zdH rfl) (by kernel_rfl) rfl (rc 0 rfl (zbR (r := zr) [kS [98, 121, 116, 101, 115], kI 2] [] (⟨[98, 121, 116, 101, 115], 2⟩ : zk) rfl zhi rfl rfl) (rkl 0 [] ⟨[(1, .om (Rp.int .i64) zr 12 [] zuU), (17, .rc zr [] (⟨[98, 121, 116, 101, 115], 2⟩ : zk))], []⟩ (zfV (rk := (Rp.int .i64)) (rv := zr) (m := zuU) (C := []) (C1 := []) (D := []) [1] 16 (⟨[98, 121, 116, 101, 115], 2⟩ : zk) [] zfC rfl (.inr rfl) rfl rfl rfl rfl (zfi rfl rfl) (zdH rfl) (by kernel_rfl) rfl (rc 0 rfl (zbR (r := zr) [kS [109, 101, 115, 115, 97, 103, 101], kI 2] [] (⟨[109, 101, 115, 115, 97, 103, 101], 2⟩ : zk) rfl zhi rfl rfl) (rkl 0 [] ⟨[(1, .om (Rp.int .i64) zr 12 [] (mput zuU 16 (⟨[98, 121, 116, 101, 115], 2⟩ : zk))), (18, .rc zr [] (⟨[109, 101, 115, 115, 97, 103, 101], 2⟩ : zk))], []⟩ (zfV (rk := (Rp.int .i64)) (rv := zr) (m := (mput zuU 16 (⟨[98, 121, 116, 101, 115], 2⟩ : zk))) (C := []) (C1 := []) (D := []) [1] 17 (⟨[109, 101, 115, 115, 97, 103, 101], 2⟩ : zk) [] zfC rfl (.inr rfl) rfl rfl rfl rfl (zfi rfl rfl) (zdH rfl) (by kernel_rfl) rfl rf)))))))))))))))))))))))))))))))))))))))))))))))))))) ?_
 obtain rfl := sj h
 refine zp ?_
 refine lk [0] [] 12 2 ?_
 exact lzz
theorem zla {c : Int} {r : Bool} (h : zgt c = some r) : FnOk Tryz.prog 136 [k8 c] [kB r] := by
 refine zo (E := ⟨[(2, kB r)], []⟩) 9 Tryz.func136 rfl rfl rfl ⟨rfl, trivial⟩ (fun Xt => ?_)
 refine zh ?_
 unfold zgt at h
 refine jp ?_
 refine zN ⟨[(2, kB ((decide (c ≥ 48)) && (decide (c ≤ 57))))], []⟩ ?_ ?_
 ·
  refine (rsl 3 [] 5 (decide (c ≥ 48)) (fun hc1 => ?_) (fun hc1 => ?_))
  · exact (rbl [] 2 (decide (c ≤ 57)) ((decide (c ≥ 48)) && (decide (c ≤ 57))) (by rw [hc1] <;> rfl))
  exact (rbl [] 2 false ((decide (c ≥ 48)) && (decide (c ≤ 57))) (by rw [hc1] <;> rfl))
 obtain rfl := sj h
 exact zp lzz
theorem zpr {c : Int} {r : Bool} (h : zgO c = some r) : FnOk Tryz.prog 137 [k8 c] [kB r] := by
 refine zo (E := ⟨[(2, kB r)], []⟩) 21 Tryz.func137 rfl rfl rfl ⟨rfl, trivial⟩ (fun Xt => ?_)
 refine zh ?_
 unfold zgO at h
 refine jp ?_
 refine zN ⟨[(2, kB (if (decide (c ≥ 97)) then ((decide (c ≤ 122)) || (if (decide (c ≥ 65)) then ((decide (c ≤ 90)) || (c == 95)) else (c == 95))) else (if (decide (c ≥ 65)) then ((decide (c ≤ 90)) || (c == 95)) else (c == 95))))], []⟩ ?_ ?_
 ·
  refine (rsl 3 [] 5 (decide (c ≥ 97)) (fun hc1 => ?_) (fun hc1 => ?_))
  ·
   refine (rsl 4 [] 9 (decide (c ≤ 122)) (fun hc2 => ?_) (fun hc2 => ?_))
   · exact (rbl [] 2 true (if (decide (c ≥ 97)) then ((decide (c ≤ 122)) || (if (decide (c ≥ 65)) then ((decide (c ≤ 90)) || (c == 95)) else (c == 95))) else (if (decide (c ≥ 65)) then ((decide (c ≤ 90)) || (c == 95)) else (c == 95))) (by rw [hc1, hc2] <;> rfl))
   refine (rsl 3 [] 12 (decide (c ≥ 65)) (fun hc3 => ?_) (fun hc3 => ?_))
   ·
    refine (rsl 5 [] 17 (decide (c ≤ 90)) (fun hc4 => ?_) (fun hc4 => ?_))
    · exact (rbl [] 2 true (if (decide (c ≥ 97)) then ((decide (c ≤ 122)) || (if (decide (c ≥ 65)) then ((decide (c ≤ 90)) || (c == 95)) else (c == 95))) else (if (decide (c ≥ 65)) then ((decide (c ≤ 90)) || (c == 95)) else (c == 95))) (by rw [hc1, hc2, hc3, hc4] <;> rfl))
    exact (rbl [] 2 (c == 95) (if (decide (c ≥ 97)) then ((decide (c ≤ 122)) || (if (decide (c ≥ 65)) then ((decide (c ≤ 90)) || (c == 95)) else (c == 95))) else (if (decide (c ≥ 65)) then ((decide (c ≤ 90)) || (c == 95)) else (c == 95))) (by rw [hc1, hc2, hc3, hc4] <;> rfl))
   exact (rbl [] 2 (c == 95) (if (decide (c ≥ 97)) then ((decide (c ≤ 122)) || (if (decide (c ≥ 65)) then ((decide (c ≤ 90)) || (c == 95)) else (c == 95))) else (if (decide (c ≥ 65)) then ((decide (c ≤ 90)) || (c == 95)) else (c == 95))) (by rw [hc1, hc2, hc3] <;> rfl))
  refine (rsl 7 [] 12 (decide (c ≥ 65)) (fun hc5 => ?_) (fun hc5 => ?_))
  ·
   refine (rsl 5 [] 17 (decide (c ≤ 90)) (fun hc6 => ?_) (fun hc6 => ?_))
   · exact (rbl [] 2 true (if (decide (c ≥ 97)) then ((decide (c ≤ 122)) || (if (decide (c ≥ 65)) then ((decide (c ≤ 90)) || (c == 95)) else (c == 95))) else (if (decide (c ≥ 65)) then ((decide (c ≤ 90)) || (c == 95)) else (c == 95))) (by rw [hc1, hc5, hc6] <;> rfl))
   exact (rbl [] 2 (c == 95) (if (decide (c ≥ 97)) then ((decide (c ≤ 122)) || (if (decide (c ≥ 65)) then ((decide (c ≤ 90)) || (c == 95)) else (c == 95))) else (if (decide (c ≥ 65)) then ((decide (c ≤ 90)) || (c == 95)) else (c == 95))) (by rw [hc1, hc5, hc6] <;> rfl))
  exact (rbl [] 2 (c == 95) (if (decide (c ≥ 97)) then ((decide (c ≤ 122)) || (if (decide (c ≥ 65)) then ((decide (c ≤ 90)) || (c == 95)) else (c == 95))) else (if (decide (c ≥ 65)) then ((decide (c ≤ 90)) || (c == 95)) else (c == 95))) (by rw [hc1, hc5] <;> rfl))
 obtain rfl := sj h
 exact zp lzz
theorem zps {n : Int} {r : Bool} (h : zgP n = some r) : FnOk Tryz.prog 114 [kI n] [kB r] := by
 refine zo (E := ⟨[(2, kB r)], []⟩) 17 Tryz.func114 rfl rfl rfl ⟨rfl, trivial⟩ (fun Xt => ?_)
 refine zh ?_
 unfold zgP at h
 refine jp ?_
 refine zN ⟨[(2, kB ((decide (n ≥ 1)) && ((decide (n ≤ 536870911)) && ((decide (n < 19000)) || (decide (n > 19999))))))], []⟩ ?_ ?_
 ·
  refine (rsl 3 [] 5 (decide (n ≥ 1)) (fun hc1 => ?_) (fun hc1 => ?_))
  ·
   refine (rsl 4 [] 9 (decide (n ≤ 536870911)) (fun hc2 => ?_) (fun hc2 => ?_))
   ·
    refine (rsl 3 [] 12 (decide (n < 19000)) (fun hc3 => ?_) (fun hc3 => ?_))
    · exact (rbl [] 2 true ((decide (n ≥ 1)) && ((decide (n ≤ 536870911)) && ((decide (n < 19000)) || (decide (n > 19999))))) (by rw [hc1, hc2, hc3] <;> rfl))
    exact (rbl [] 2 (decide (n > 19999)) ((decide (n ≥ 1)) && ((decide (n ≤ 536870911)) && ((decide (n < 19000)) || (decide (n > 19999))))) (by rw [hc1, hc2, hc3] <;> rfl))
   exact (rbl [] 2 false ((decide (n ≥ 1)) && ((decide (n ≤ 536870911)) && ((decide (n < 19000)) || (decide (n > 19999))))) (by rw [hc1, hc2] <;> rfl))
  exact (rbl [] 2 false ((decide (n ≥ 1)) && ((decide (n ≤ 536870911)) && ((decide (n < 19000)) || (decide (n > 19999))))) (by rw [hc1] <;> rfl))
 obtain rfl := sj h
 exact zp lzz
theorem zkA {sv : (List Int)} {v : Int} {r : Int} (h : zdD sv v = some r) : FnOk Tryz.prog 138 [.sl (Rp.int .i64) [0] sv, kI v] [kI r] := by
 refine zo (E := ⟨[(4, kI r)], []⟩) 19 Tryz.func138 rfl rfl rfl ⟨rfl, trivial⟩ (fun Xt => ?_)
 refine zh ?_
 unfold zdD at h
 refine jp ?_
 refine jp ?_
 refine zn ?_
 obtain ⟨q, h_q, h⟩ := bnd h
 refine zam (fun s : Int => zaq sv v s) (fun s => ⟨[(0, .sl (Rp.int .i64) [0] sv), (1, kI v), (7, kI (sv.length : Int)), (8, kI s)], []⟩) (fun o e a w => match o with | (.inl v_) => e = .exit 0 ∧ Sx ⟨⟨19, []⟩, Xt, false, #[]⟩ ⟨[], []⟩ a w | (.inr v_) => e = .ret ∧ Sx ⟨⟨19, []⟩, Xt, false, #[]⟩ ⟨[(4, kI v_)], []⟩ a w) ?_ h_q lzz ?_
 ·
  clear h
  intro v2 o h
  refine zh ?_
  replace h : zaq sv v v2 = some o := h
  unfold zaq at h
  refine jp ?_
  rcases zg h with ⟨hc1, h⟩ | ⟨hc1, h⟩
  ·
   refine jT hc1 ?_
   refine zn ?_
   refine jp ?_
   obtain ⟨x, h_x, h⟩ := bnd h
   refine jr (ra 3 [.sl (Rp.int .i64) [0] sv, kI v2] rfl (zW rfl zel.el (zv _ _ _) h_x) rfl rf) ?_
   rcases zg h with ⟨hc2, h⟩ | ⟨hc2, h⟩
   ·
    refine jT hc2 ?_
    refine jp ?_
    obtain rfl := sj h
    exact zaW lzz
   refine jF hc2 ?_
   refine zaf ?_
   refine jp ?_
   obtain rfl := sj h
   exact zJ lzz
  refine jF hc1 ?_
  obtain rfl := sj h
  exact zai rfl lzz
 rcases q with u | u2
 ·
  refine zaJ _ rfl ?_
  refine jp ?_
  obtain rfl := sj h
  exact zp lzz
 obtain rfl := sj h
 exact zdi lzz
theorem znb {c : zbj} {f : zb} {r : Bool} (h : zfw c f = some r) : FnOk Tryz.prog 117 [.ag [kI c.size, .sl (Rp.int .i64) [0] c.kinds, .mp zj Rp.bool [0] c.names, .mp zi Rp.bool [0] c.numbers], .rc za [0] f] [kB r] := by
 refine zo (E := ⟨[(4, kB r)], []⟩) 21 Tryz.func117 rfl rfl rfl ⟨rfl, trivial⟩ (fun Xt => ?_)
 refine zh ?_
 unfold zfw at h
 refine jq [11, 12] ?_
 refine jp ?_
 rcases zg h with ⟨hc1, h⟩ | ⟨hc1, h⟩
 ·
  refine jT hc1 ?_
  refine zN ⟨[(4, kB ((decide (f.Of ≥ 0)) && (decide (f.Of < c.size))))], []⟩ ?_ ?_
  ·
   refine (rsl 4 [] 11 (decide (f.Of ≥ 0)) (fun hc2 => ?_) (fun hc2 => ?_))
   · exact (rbl [] 4 (decide (f.Of < c.size)) ((decide (f.Of ≥ 0)) && (decide (f.Of < c.size))) (by rw [hc2] <;> rfl))
   exact (rbl [] 4 false ((decide (f.Of ≥ 0)) && (decide (f.Of < c.size))) (by rw [hc2] <;> rfl))
  obtain rfl := sj h
  exact zp lzz
 refine jF hc1 ?_
 refine jp ?_
 obtain rfl := sj h
 exact zp lzz
theorem zhk {sv : Str} {r : (Int × Int)} (h : zdl sv = some r) : FnOk Tryz.prog 140 [kS sv] [.lf (.int .i32 r.1), kI r.2] := by
 refine zo (E := ⟨[(2, .lf (.int .i32 r.1)), (3, kI r.2)], []⟩) 117 Tryz.func140 rfl rfl rfl ⟨rfl, rfl, trivial⟩ (fun Xt => ?_)
 refine zh ?_
 unfold zdl at h
 refine jp ?_
 refine jp ?_
 refine jp ?_
 rcases zg h with ⟨hc1, h⟩ | ⟨hc1, h⟩
 ·
  refine jT hc1 ?_
  refine jp ?_
  obtain rfl := sj h
  exact zp lzz
 refine jF hc1 ?_
 obtain ⟨c, h_c, h⟩ := bnd h
 refine jr (ra 1 [kS sv, kI 0] rfl (zmo rfl Tryz.underlying9 h_c) rfl rf) ?_
 exact absurd h nofun
theorem zix {sv : Str} {c : Int} {r : Int} (h : zcP sv c = some r) : FnOk Tryz.prog 150 [kS sv, k8 c] [kI r] := by
 refine zo (E := ⟨[(4, kI r)], []⟩) 8 Tryz.func150 rfl rfl rfl ⟨rfl, trivial⟩ (fun Xt => ?_)
 refine zh ?_
 unfold zcP at h
 refine jp ?_
 refine jr (ra 2 [kS sv, k8 c] rfl (zBS rfl Tryz.func172 (by kernel_rfl) (by kernel_rfl) (by kernel_rfl) (by kernel_rfl)) rfl rf) ?_
 obtain rfl := sj h
 exact zp lzz
theorem zhH (v : (List Str)) : ItOk Tryz.prog 123 [.ep (Rp.list Rp.str) [0] v 0] (fun x : Str => [kS x]) (fun {σ : Type} (kf : Rnd σ Str) (sg : σ) => zaQ v kf sg) := by
 refine zss 16 [(1, .ep (Rp.list Rp.str) [0] v 0)] [] Tryz.func123 rfl rfl rfl rfl (.ep (Rp.list Rp.str) [0] v (.nil _)) ?_
 intro σ kf sg s1 h l I hI F_ hT
 replace h : zaQ v kf sg = some s1 := h
 refine zh ?_
 refine zjT (E' := ⟨[(0, .lf (.val (.func (.yield l) #[] #[]))), (1, .ep (Rp.list Rp.str) [0] v 0)], []⟩) (fun _ _ _ hs => hs) ?_
 unfold zaQ at h
 refine jr (ra 0 [.ep (Rp.list Rp.str) [0] v 0] rfl (zaK Rp.str v rfl rfl rfl) rfl rf) ?_
 refine zn ?_
 obtain ⟨q, h_q, h⟩ := bnd h
 refine zpN (fun s : (Int × σ) => zS kf v s.1 s.2) (fun s => ⟨⟨16, []⟩, itX I hI F_ s.2, false, #[]⟩) (fun s => ⟨[(0, .lf (.val (.func (.yield l) #[] #[]))), (5, .sl Rp.str [0] v), (6, kI (v.length : Int)), (7, kI s.1)], []⟩) (fun o e a w => match o with | (.inl v_) => e = .exit 0 ∧ Sx ⟨⟨16, []⟩, itX I hI F_ v_, false, #[]⟩ ⟨[], []⟩ a w | (.inr v_) => e = .ret ∧ Sx ⟨⟨16, []⟩, itX I hI F_ v_, false, #[]⟩ ⟨[], []⟩ a w) ?_ h_q rfl lzz ?_
 ·
  clear h
  intro s o h
  obtain ⟨v2, sg2⟩ := s
  refine zh ?_
  replace h : zS kf v v2 sg2 = some o := h
  unfold zS at h
  refine jp ?_
  rcases zg h with ⟨hc1, h⟩ | ⟨hc1, h⟩
  ·
   refine jT hc1 ?_
   refine zn ?_
   obtain ⟨x, h_x, h⟩ := bnd h
   refine jr (ra 0 [.sl Rp.str [0] v, kI v2] rfl (zW rfl zfY.el (zv _ _ _) h_x) rfl rf) ?_
   obtain ⟨y, h_y, h⟩ := bnd h
   refine znv (E' := ⟨[(0, .lf (.val (.func (.yield l) #[] #[]))), (5, .sl Rp.str [0] v), (6, kI (v.length : Int)), (7, kI v2), (14, kB (!y.1))], []⟩) (x := x) (b := y.1) (s' := y.2) 2 (some 13) [.tmp 12] [kS x] [kS x] ⟨[(0, .lf (.val (.func (.yield l) #[] #[]))), (5, .sl Rp.str [0] v), (6, kI (v.length : Int)), (7, kI v2), (11, .lf (.val (.func (.yield l) #[] #[]))), (12, kS x)], []⟩ hT rfl rfl rfl rfl rfl rgg rfl ⟨rfl, trivial⟩ rfl ⟨AV.le_refl _, trivial⟩ rfl rfl h_y rgg ?_
   rcases zg h with ⟨hc2, h⟩ | ⟨hc2, h⟩
   ·
    refine jT hc2 ?_
    obtain rfl := sj h
    exact zaW lzz
   refine jF hc2 ?_
   refine zaf ?_
   refine jp ?_
   obtain rfl := sj h
   exact zJ lzz
  refine jF hc1 ?_
  obtain rfl := sj h
  exact zai rfl lzz
 rcases q with u | u2
 ·
  refine zaJ _ rfl ?_
  obtain rfl := sj h
  exact zxx lzz
 obtain rfl := sj h
 exact zuS lzz
theorem ziO {x : (List Str)} {r : (List Str)} (h : zeS x = some r) : zkj Tryz.prog 122 [.own Rp.str 9 2 [0] x] [] [.own Rp.str 9 2 [] r] := zBh zDe 9 h
theorem zpp {f : zb} {v : Str} {r : Bool} (h : zgM f v = some r) : FnOk Tryz.prog 80 [.rc za [0] f, .ep Rp.str [0] v 0] [kB r] := by
 refine zo (E := ⟨[(3, kB r)], []⟩) 8 Tryz.func80 rfl rfl rfl ⟨rfl, trivial⟩ (fun Xt => ?_)
 refine zh ?_
 unfold zgM at h
 refine jq [11] ?_
 refine jp ?_
 obtain rfl := sj h
 exact zp lzz
theorem zkP {x : Int} {r : Bool} (h : zha x = some r) : FnOk Tryz.prog 85 [kI x] [kB r] := by
 refine zo (E := ⟨[(2, kB r)], []⟩) 6 Tryz.func85 rfl rfl rfl ⟨rfl, trivial⟩ (fun Xt => ?_)
 refine zh ?_
 unfold zha at h
 refine jp ?_
 refine jp ?_
 obtain rfl := sj h
 exact zp lzz
theorem zkz {s1 : (List Int)} {s2 : (List Int)} {r : Bool} (h : zdB s1 s2 = some r) : FnOk Tryz.prog 68 [.sl (Rp.int .i64) [0] s1, .sl (Rp.int .i64) [0] s2] [kB r] := by
 refine zo (E := ⟨[(4, kB r)], []⟩) 26 Tryz.func68 rfl rfl rfl ⟨rfl, trivial⟩ (fun Xt => ?_)
 refine zh ?_
 unfold zdB at h
 refine jp ?_
 refine jp ?_
 rcases zg h with ⟨hc1, h⟩ | ⟨hc1, h⟩
 ·
  refine jT hc1 ?_
  refine jp ?_
  obtain rfl := sj h
  exact zp lzz
 refine jF hc1 ?_
 refine jp ?_
 refine zn ?_
 obtain ⟨q, h_q, h⟩ := bnd h
 refine zam (fun s : Int => zaj s1 s2 s) (fun s => ⟨[(0, .sl (Rp.int .i64) [0] s1), (1, .sl (Rp.int .i64) [0] s2), (12, kI (s1.length : Int)), (13, kI s)], []⟩) (fun o e a w => match o with | (.inl v_) => e = .exit 0 ∧ Sx ⟨⟨26, []⟩, Xt, false, #[]⟩ ⟨[], []⟩ a w | (.inr v_) => e = .ret ∧ Sx ⟨⟨26, []⟩, Xt, false, #[]⟩ ⟨[(4, kB false)], []⟩ a w) ?_ h_q lzz ?_
 ·
  clear h
  intro v o h
  refine zh ?_
  replace h : zaj s1 s2 v = some o := h
  unfold zaj at h
  refine jp ?_
  rcases zg h with ⟨hc2, h⟩ | ⟨hc2, h⟩
  ·
   refine jT hc2 ?_
   refine zn ?_
   refine jp ?_
   obtain ⟨x, h_x, h⟩ := bnd h
   obtain ⟨x2, h_x2, h⟩ := bnd h
   refine jd [0, 1, 12, 13, 24] [] zcB (by exact (lw_e (lw_e (ly [.sl (Rp.int .i64) [0] s1, kI v] (zW rfl zel.el (zv _ _ _) h_x) rfl (lw_e (lw_e (lw_e (ly [.sl (Rp.int .i64) [0] s2, kI v] (zW rfl zel.el (zv _ _ _) h_x2) rfl l0)))))))) ?_
   rcases zg h with ⟨hc3, h⟩ | ⟨hc3, h⟩
   ·
    refine jT hc3 ?_
    refine jp ?_
    obtain rfl := sj h
    exact zaW lzz
   refine jF hc3 ?_
   refine zaf ?_
   refine jp ?_
   obtain rfl := sj h
   exact zJ lzz
  refine jF hc2 ?_
  obtain rfl := sj h
  exact zai rfl lzz
 rcases q with u | u2
 ·
  refine zaJ _ rfl ?_
  refine jp ?_
  obtain rfl := sj h
  exact zp lzz
 obtain rfl := sj h
 exact zdi lzz
theorem zky {sv : (List Int)} {r : (List Int)} (h : zdA sv = some r) : FnOk Tryz.prog 62 [.sl (Rp.int .i64) [0] sv] [.own (Rp.int .i64) 3 2 [] r] := by
 refine zo (E := ⟨[(2, .own (Rp.int .i64) 3 2 [] r)], []⟩) 8 Tryz.func62 rfl rfl rfl ⟨rfl, trivial⟩ (fun Xt => ?_)
 refine zh ?_
 unfold zdA at h
 refine jp ?_
 have hn1 := zun h
 refine zwk 1 4 true ⟨[(0, .sl (Rp.int .i64) [0] sv), (3, .sl (Rp.int .i64) [0] sv)], []⟩ ⟨[(0, .sl (Rp.int .i64) [0] sv), (4, kB true)], []⟩ ⟨[(0, .sl (Rp.int .i64) [0] sv), (4, kB false)], []⟩ (by kernel_rfl) rfl rfl rfl (by kernel_rfl) rfl Tryz.underlying30 rfl (zv _ _ _) (by kernel_rfl) (by kernel_rfl) (fun hx_ => ?_) ?_
 ·
  replace h := hn1.1 hx_
  refine jT rfl ?_
  refine jp ?_
  obtain rfl := sj h
  refine zp ?_
  refine zaS ⟨[(2, kN)], []⟩ (by kernel_rfl) ?_
  refine zbL 2 (.own (Rp.int .i64) 3 2 [] ([] : (List Int))) rfl (zY (Rp.int .i64) 3 2 [] rfl) ?_
  exact lzz
 replace h := hn1.2
 refine jF rfl ?_
 obtain ⟨v, h_v, h⟩ := bnd h
 refine jr (rc 0 rfl (zdO [] 12 [] ([] : (List Int)) rfl zel rfl rfl rfl rfl) (ra 1 [.own (Rp.int .i64) 3 12 [] ([] : (List Int)), .sl (Rp.int .i64) [0] sv] rfl (zes 12 [] rfl zel.el rfl (zbA _ _ _ _ _) (zv _ _ _) h_v (.inl (zkh _)) rfl) rfl rf)) ?_
 obtain rfl := sj h
 refine zp ?_
 refine lk [2] [] 12 2 ?_
 exact lzz
theorem zic (v : (List (List Int))) : ItOk Tryz.prog 65 [.ep (Rp.list (Rp.list (Rp.int .i64))) [0] v 0] (fun x : (List Int) => [.sl (Rp.int .i64) [0] x]) (fun {σ : Type} (kf : Rnd σ (List Int)) (sg : σ) => zbe v kf sg) := by
 refine zss 16 [(1, .ep (Rp.list (Rp.list (Rp.int .i64))) [0] v 0)] [] Tryz.func65 rfl rfl rfl rfl (.ep (Rp.list (Rp.list (Rp.int .i64))) [0] v (.nil _)) ?_
 intro σ kf sg s1 h l I hI F_ hT
 replace h : zbe v kf sg = some s1 := h
 refine zh ?_
 refine zjT (E' := ⟨[(0, .lf (.val (.func (.yield l) #[] #[]))), (1, .ep (Rp.list (Rp.list (Rp.int .i64))) [0] v 0)], []⟩) (fun _ _ _ hs => hs) ?_
 unfold zbe at h
 refine jr (ra 0 [.ep (Rp.list (Rp.list (Rp.int .i64))) [0] v 0] rfl (zaK (Rp.list (Rp.int .i64)) v rfl rfl rfl) rfl rf) ?_
 refine zn ?_
 obtain ⟨q, h_q, h⟩ := bnd h
 refine zpN (fun s : (Int × σ) => zT kf v s.1 s.2) (fun s => ⟨⟨16, []⟩, itX I hI F_ s.2, false, #[]⟩) (fun s => ⟨[(0, .lf (.val (.func (.yield l) #[] #[]))), (5, .sl (Rp.list (Rp.int .i64)) [0] v), (6, kI (v.length : Int)), (7, kI s.1)], []⟩) (fun o e a w => match o with | (.inl v_) => e = .exit 0 ∧ Sx ⟨⟨16, []⟩, itX I hI F_ v_, false, #[]⟩ ⟨[], []⟩ a w | (.inr v_) => e = .ret ∧ Sx ⟨⟨16, []⟩, itX I hI F_ v_, false, #[]⟩ ⟨[], []⟩ a w) ?_ h_q rfl lzz ?_
 ·
  clear h
  intro s o h
  obtain ⟨v2, sg2⟩ := s
  refine zh ?_
  replace h : zT kf v v2 sg2 = some o := h
  unfold zT at h
  refine jp ?_
  rcases zg h with ⟨hc1, h⟩ | ⟨hc1, h⟩
  ·
   refine jT hc1 ?_
   refine zn ?_
   obtain ⟨x, h_x, h⟩ := bnd h
   refine jr (ra 0 [.sl (Rp.list (Rp.int .i64)) [0] v, kI v2] rfl (zW rfl zaF.el (zv _ _ _) h_x) rfl (ra 0 [.ep (Rp.list (Rp.int .i64)) [0] x 0] rfl (zaK (Rp.int .i64) x rfl rfl rfl) rfl rf)) ?_
   obtain ⟨y, h_y, h⟩ := bnd h
   refine znv (E' := ⟨[(0, .lf (.val (.func (.yield l) #[] #[]))), (5, .sl (Rp.list (Rp.int .i64)) [0] v), (6, kI (v.length : Int)), (7, kI v2), (14, kB (!y.1))], []⟩) (x := x) (b := y.1) (s' := y.2) 2 (some 13) [.tmp 12] [.sl (Rp.int .i64) [0] x] [.sl (Rp.int .i64) [0] x] ⟨[(0, .lf (.val (.func (.yield l) #[] #[]))), (5, .sl (Rp.list (Rp.int .i64)) [0] v), (6, kI (v.length : Int)), (7, kI v2), (11, .lf (.val (.func (.yield l) #[] #[]))), (12, .sl (Rp.int .i64) [0] x)], []⟩ hT rfl rfl rfl rfl rfl rgg rfl ⟨rfl, trivial⟩ rfl ⟨AV.le_refl _, trivial⟩ rfl rfl h_y rgg ?_
   rcases zg h with ⟨hc2, h⟩ | ⟨hc2, h⟩
   ·
    refine jT hc2 ?_
    obtain rfl := sj h
    exact zaW lzz
   refine jF hc2 ?_
   refine zaf ?_
   refine jp ?_
   obtain rfl := sj h
   exact zJ lzz
  refine jF hc1 ?_
  obtain rfl := sj h
  exact zai rfl lzz
 rcases q with u | u2
 ·
  refine zaJ _ rfl ?_
  obtain rfl := sj h
  exact zxx lzz
 obtain rfl := sj h
 exact zuS lzz
theorem zks {t : (List (zI × Int))} {way : (List Int)} {r : Bool} (h : zeQ t way = some r) : FnOk Tryz.prog 43 [.mp zae (Rp.int .i64) [0] t, .sl (Rp.int .i64) [0] way] [kB r] := by
 refine zo (E := ⟨[(4, kB r)], []⟩) 30 Tryz.func43 rfl rfl rfl ⟨rfl, trivial⟩ (fun Xt => ?_)
 refine zh ?_
 unfold zeQ at h
 refine jp ?_
 refine jp ?_
 refine jp ?_
 refine zn ?_
 obtain ⟨q, h_q, h⟩ := bnd h
 refine zam (fun s : (Int × Int) => zbd t way s.1 s.2) (fun s => ⟨[(0, .mp zae (Rp.int .i64) [0] t), (5, kI s.1), (10, .sl (Rp.int .i64) [0] way), (11, kI (way.length : Int)), (12, kI s.2)], []⟩) (fun o e a w => match o with | (.inl v_) => e = .exit 0 ∧ Sx ⟨⟨30, []⟩, Xt, false, #[]⟩ ⟨[], []⟩ a w | (.inr v_) => e = .ret ∧ Sx ⟨⟨30, []⟩, Xt, false, #[]⟩ ⟨[(4, kB v_)], []⟩ a w) ?_ h_q lzz ?_
 ·
  clear h
  intro s o h
  obtain ⟨place, v⟩ := s
  refine zh ?_
  replace h : zbd t way place v = some o := h
  unfold zbd at h
  refine jp ?_
  rcases zg h with ⟨hc1, h⟩ | ⟨hc1, h⟩
  ·
   refine jT hc1 ?_
   refine zn ?_
   obtain ⟨x, h_x, h⟩ := bnd h
   refine jr (ra 0 [.sl (Rp.int .i64) [0] way, kI v] rfl (zW rfl zel.el (zv _ _ _) h_x) rfl rf) ?_
   refine jr (ra 3 [kI place, kI x] rfl (zug (r := zae) [kI place, kI x] [] (⟨place, x⟩ : zI) rfl zzU rfl rfl) rfl (ra 0 [.mp zae (Rp.int .i64) [0] t, .rc zae [] (⟨place, x⟩ : zI)] rfl (zsy (rk := zae) (rv := (Rp.int .i64)) (m := t) (k := (⟨place, x⟩ : zI)) (kI ((mget t (⟨place, x⟩ : zI)).getD 0)) rfl zqI (zBI _ _ _ _) (zdH rfl) (zmh rfl rfl rfl)) rfl rf)) ?_
   refine jp ?_
   rcases zg h with ⟨hc2, h⟩ | ⟨hc2, h⟩
   ·
    refine jT hc2 ?_
    refine jp ?_
    obtain rfl := sj h
    exact zaW lzz
   refine jF hc2 ?_
   refine jp ?_
   rcases zg h with ⟨hc3, h⟩ | ⟨hc3, h⟩
   ·
    refine jT hc3 ?_
    refine jp ?_
    obtain rfl := sj h
    exact zaW lzz
   refine jF hc3 ?_
   refine jp ?_
   refine zaf ?_
   refine jp ?_
   obtain rfl := sj h
   exact zJ lzz
  refine jF hc1 ?_
  obtain rfl := sj h
  exact zai rfl lzz
 rcases q with u | u2
 ·
  refine zaJ _ rfl ?_
  refine jp ?_
  obtain rfl := sj h
  exact zp lzz
 obtain rfl := sj h
 exact zdi lzz
theorem zmN {t : (List (zI × Int))} {way : (List Int)} {r : (List (zI × Int))} (h : zht t way = some r) : zkj Tryz.prog 44 [.om zae (Rp.int .i64) 2 [0] t, .sl (Rp.int .i64) [0] way] [] [.om zae (Rp.int .i64) 2 [0] r, .any] := by
 refine zob (E := ⟨[(0, .om zae (Rp.int .i64) 2 [0] r)], []⟩) 38 [0] Tryz.func44 rfl rfl rfl trivial ⟨.inr ⟨rfl, rfl⟩, .inl rfl, trivial⟩ rfl (fun Xt old => ?_)
 refine zh ?_
 unfold zht at h
 refine jp ?_
 refine jq [11] ?_
 refine jp ?_
 refine zn ?_
 obtain ⟨q, h_q, h⟩ := bnd h
 refine zam (fun s : ((List (zI × Int)) × Int × Int × Int × Int) => zbN way s.1 s.2.1 s.2.2.1 s.2.2.2.1 s.2.2.2.2) (fun s => ⟨[(0, .om zae (Rp.int .i64) 2 [0] s.1), (4, kI s.2.1), (5, .ptr 11 0), (10, .sl (Rp.int .i64) [0] way), (11, kI (way.length : Int)), (12, kI s.2.2.1)], [⟨11, 103, [kI s.2.2.2.1, kI s.2.2.2.2]⟩]⟩) (fun o e a w => e = .exit 0 ∧ Sx ⟨⟨38, [0]⟩, Xt, false, old⟩ ⟨[(0, .om zae (Rp.int .i64) 2 [0] o.1), (5, .ptr 11 0)], [⟨11, 103, [kI o.2.1, kI o.2.2]⟩]⟩ a w) ?_ h_q lzz ?_
 ·
  clear h
  intro s o h
  obtain ⟨t2, place, v, f, f2⟩ := s
  refine zh ?_
  replace h : zbN way t2 place v f f2 = some o := h
  unfold zbN at h
  refine jp ?_
  rcases zg h with ⟨hc1, h⟩ | ⟨hc1, h⟩
  ·
   refine jT hc1 ?_
   refine zn ?_
   obtain ⟨x, h_x, h⟩ := bnd h
   refine jr (ra 0 [.sl (Rp.int .i64) [0] way, kI v] rfl (zW rfl zel.el (zv _ _ _) h_x) rfl rf) ?_
   refine jr (ra 2 [kI place, kI x] rfl (zug (r := zae) [kI place, kI x] [] (⟨place, x⟩ : zI) rfl zzU rfl rfl) rfl rf) ?_
   refine jr (lb 1 zae [] (⟨place, x⟩ : zI) (ra 0 [.om zae (Rp.int .i64) 2 [0] t2, .rc zae [] (⟨place, x⟩ : zI)] rfl (zsy (rk := zae) (rv := (Rp.int .i64)) (m := t2) (k := (⟨place, x⟩ : zI)) (kI ((mget t2 (⟨place, x⟩ : zI)).getD 0)) rfl zqI (zjY _ _ _ _ _) (zdH rfl) (zmh rfl rfl rfl)) rfl rf)) ?_
   refine jp ?_
   rcases zg h with ⟨hc2, h⟩ | ⟨hc2, h⟩
   ·
    refine jT hc2 ?_
    refine jr (lb 1 zae [] (⟨place, x⟩ : zI) (ra 1 [.om zae (Rp.int .i64) 2 [0] t2] rfl (zBU (rk := zae) (rv := (Rp.int .i64)) (m := t2) rfl Tryz.underlying76 (zjY _ _ _ _ _)) rfl (rkl 1 [] ⟨[(0, .om zae (Rp.int .i64) 2 [0] t2), (5, .ptr 11 0), (10, .sl (Rp.int .i64) [0] way), (11, kI (way.length : Int)), (12, kI v), (27, .om zae (Rp.int .i64) 2 [0] t2), (28, .rc zae [] (⟨place, x⟩ : zI)), (31, kI (IntKind.i64.wrap ((t2.length : Int) + 1)))], [⟨11, 103, [kI place, kI x]⟩]⟩ (zhu ⟨[(0, .om zae (Rp.int .i64) 2 [0] (mput t2 (⟨place, x⟩ : zI) (IntKind.i64.wrap ((t2.length : Int) + 1)))), (5, .ptr 11 0), (10, .sl (Rp.int .i64) [0] way), (11, kI (way.length : Int)), (12, kI v), (27, .om zae (Rp.int .i64) 2 [0] (mput t2 (⟨place, x⟩ : zI) (IntKind.i64.wrap ((t2.length : Int) + 1)))), (28, .rc zae [] (⟨place, x⟩ : zI)), (31, kI (IntKind.i64.wrap ((t2.length : Int) + 1)))], [⟨11, 103, [kI place, kI x]⟩]⟩ (zqw (rk := zae) (rv := (Rp.int .i64)) (m := t2) (ℓ := 2) (C := [0]) (C1 := []) (D := []) (⟨place, x⟩ : zI) (IntKind.i64.wrap ((t2.length : Int) + 1)) [0] zqI (.inl rfl) (zdH rfl) (zfi rfl rfl) rfl) rfl (by kernel_rfl) (by kernel_rfl) ⟨⟨_, rfl, zfX 0 rfl⟩, ⟨_, rfl, zK rfl⟩, ⟨_, rfl, zK rfl⟩, ⟨_, rfl, zK rfl⟩, ⟨_, rfl, zK rfl⟩, ⟨_, rfl, zfX 0 rfl⟩, ⟨_, rfl, zK rfl⟩, ⟨_, rfl, zK rfl⟩, trivial⟩ ⟨⟨_, rfl, rfl, rfl, ⟨zK rfl, zK rfl, trivial⟩⟩, trivial⟩ rf)))) ?_
    refine jr (lb 1 zae [] (⟨place, x⟩ : zI) (ra 0 [.om zae (Rp.int .i64) 2 [0] (mput t2 (⟨place, x⟩ : zI) (IntKind.i64.wrap ((t2.length : Int) + 1))), .rc zae [] (⟨place, x⟩ : zI)] rfl (zpT (rk := zae) (rv := (Rp.int .i64)) (m := (mput t2 (⟨place, x⟩ : zI) (IntKind.i64.wrap ((t2.length : Int) + 1)))) (k := (⟨place, x⟩ : zI)) (kI ((mget (mput t2 (⟨place, x⟩ : zI) (IntKind.i64.wrap ((t2.length : Int) + 1))) (⟨place, x⟩ : zI)).getD 0)) rfl zqI (zjY _ _ _ _ _) (zdH rfl) (zmh rfl rfl rfl)) rfl rf)) ?_
    refine zaf ?_
    refine jp ?_
    obtain rfl := sj h
    exact zJ lzz
   refine jF hc2 ?_
   refine jr (lb 1 zae [] (⟨place, x⟩ : zI) (ra 0 [.om zae (Rp.int .i64) 2 [0] t2, .rc zae [] (⟨place, x⟩ : zI)] rfl (zpT (rk := zae) (rv := (Rp.int .i64)) (m := t2) (k := (⟨place, x⟩ : zI)) (kI ((mget t2 (⟨place, x⟩ : zI)).getD 0)) rfl zqI (zjY _ _ _ _ _) (zdH rfl) (zmh rfl rfl rfl)) rfl rf)) ?_
   refine zaf ?_
   refine jp ?_
   obtain rfl := sj h
   exact zJ lzz
  refine jF hc1 ?_
  obtain rfl := sj h
  exact zai rfl lzz
 refine zaJ _ rfl ?_
 refine jr (lb 1 zae [] (⟨q.2.1, q.2.2⟩ : zI) (rkl 0 [] ⟨[(0, .om zae (Rp.int .i64) 2 [0] q.1), (36, .om zae (Rp.int .i64) 2 [0] q.1), (37, .rc zae [] (⟨q.2.1, q.2.2⟩ : zI))], []⟩ (zhu ⟨[(0, .om zae (Rp.int .i64) 2 [0] (mput q.1 (⟨q.2.1, q.2.2⟩ : zI) (-1))), (36, .om zae (Rp.int .i64) 2 [0] (mput q.1 (⟨q.2.1, q.2.2⟩ : zI) (-1))), (37, .rc zae [] (⟨q.2.1, q.2.2⟩ : zI))], []⟩ (zqw (rk := zae) (rv := (Rp.int .i64)) (m := q.1) (ℓ := 2) (C := [0]) (C1 := []) (D := []) (⟨q.2.1, q.2.2⟩ : zI) (-1) [0] zqI (.inl rfl) (zdH rfl) (zfi rfl rfl) rfl) rfl (by kernel_rfl) (by kernel_rfl) ⟨⟨_, rfl, zfX 0 rfl⟩, ⟨_, rfl, zfX 0 rfl⟩, ⟨_, rfl, zK rfl⟩, trivial⟩ trivial rf))) ?_
 obtain rfl := sj h
 exact zCZ lzz
theorem zed {x : (List (List Int))} {r : (List (List Int))} (h : zbg x = some r) : zkj Tryz.prog 64 [.own (Rp.list (Rp.int .i64)) 30 2 [0] x, .lf (.val (.func (.func 42) #[] #[]))] [] [.own (Rp.list (Rp.int .i64)) 30 2 [0] r, .any] := zzE lt64 (enters_of Tryz.func42 (by kernel_rfl) rfl) zCW 30 h
theorem zey {av : (List Int)} {b : (List Int)} {r : Bool} (h : zbV av b = some r) : FnOk Tryz.prog 13 [.sl (Rp.int .i64) [0] av, .sl (Rp.int .i64) [0] b] [kB r] := by
 refine zo (E := ⟨[(4, kB r)], []⟩) 26 Tryz.func13 rfl rfl rfl ⟨rfl, trivial⟩ (fun Xt => ?_)
 refine zh ?_
 unfold zbV at h
 refine jp ?_
 refine jp ?_
 rcases zg h with ⟨hc1, h⟩ | ⟨hc1, h⟩
 ·
  refine jT hc1 ?_
  refine jp ?_
  obtain rfl := sj h
  exact zp lzz
 refine jF hc1 ?_
 refine jp ?_
 refine zn ?_
 obtain ⟨q, h_q, h⟩ := bnd h
 refine zam (fun s : Int => zaE av b s) (fun s => ⟨[(0, .sl (Rp.int .i64) [0] av), (1, .sl (Rp.int .i64) [0] b), (5, kI s)], []⟩) (fun o e a w => match o with | (.inl v_) => e = .exit 0 ∧ Sx ⟨⟨26, []⟩, Xt, false, #[]⟩ ⟨[], []⟩ a w | (.inr v_) => e = .ret ∧ Sx ⟨⟨26, []⟩, Xt, false, #[]⟩ ⟨[(4, kB false)], []⟩ a w) ?_ h_q lzz ?_
 ·
  clear h
  intro i o h
  refine zh ?_
  replace h : zaE av b i = some o := h
  unfold zaE at h
  refine jp ?_
  rcases zg h with ⟨hc2, h⟩ | ⟨hc2, h⟩
  ·
   refine jT hc2 ?_
   refine zn ?_
   obtain ⟨x, h_x, h⟩ := bnd h
   obtain ⟨x2, h_x2, h⟩ := bnd h
   refine jd [0, 1, 5, 25] [] zcB (by exact (lw_e (lw_e (ly [.sl (Rp.int .i64) [0] av, kI i] (zW rfl zel.el (zv _ _ _) h_x) rfl (lw_e (lw_e (lw_e (ly [.sl (Rp.int .i64) [0] b, kI i] (zW rfl zel.el (zv _ _ _) h_x2) rfl l0)))))))) ?_
   rcases zg h with ⟨hc3, h⟩ | ⟨hc3, h⟩
   ·
    refine jT hc3 ?_
    refine jp ?_
    obtain rfl := sj h
    exact zaW lzz
   refine jF hc3 ?_
   refine zaf ?_
   refine jp ?_
   obtain rfl := sj h
   exact zJ lzz
  refine jF hc2 ?_
  obtain rfl := sj h
  exact zai rfl lzz
 rcases q with u | u2
 ·
  refine zaJ _ rfl ?_
  refine jp ?_
  obtain rfl := sj h
  exact zp lzz
 obtain rfl := sj h
 exact zdi lzz
end Go.Proofs.YtglkepeofhonlaaGreatDoor
