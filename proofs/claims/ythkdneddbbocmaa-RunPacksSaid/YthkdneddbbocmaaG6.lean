/-
  The Go functions do what the plain functions say. No condition.
-/
import Derived.Test.YthkdneddbbocmaaG5
namespace Go.Proofs.Ythkdneddbbocmaa
open Go Go.RowKit
set_option linter.unusedVariables false
set_option maxRecDepth 100000
theorem darninglaw09_alive_ok  {r : Bool} (h : darninglaw09_alive = some r) : FnOk Try.prog 7 [] [kB r] := by
 refine fn_intro' (E := ⟨[(0, kB r)], []⟩) 16 Try.func7 rfl rfl rfl ⟨rfl, trivial⟩ (fun Xt => ?_)
 refine ji_start ?_
 refine ji_le (E' := ⟨[], []⟩) (fun _ _ _ hs => hs) ?_
 unfold darninglaw09_alive at h
 refine ji_rz ⟨[], []⟩ (by kernel_rfl) ?_
 obtain ⟨rv, h_rv, h⟩ := bnd h
 refine ji_region ⟨[(1, .own (Rp.int .u64) 32 13 [] rv.1), (2, k8 rv.2)], []⟩ (ro_o 0 [k8 1, k8 172, k8 2] ⟨[(4, .own Rp.byte 5 11 [] ([(1 : UInt8), (172 : UInt8), (2 : UInt8)] : List UInt8))], []⟩ rfl (lo_bsl [.lf (.int .u8 1), .lf (.int .u8 172), .lf (.int .u8 2)] 11 [] [(1 : UInt8), (172 : UInt8), (2 : UInt8)] rfl zet22 rfl rfl rfl rfl) rfl (by kernel_rfl) (ro_oz 0 [kI 3, .own Rp.byte 5 11 [] ([(1 : UInt8), (172 : UInt8), (2 : UInt8)] : List UInt8)] rfl (lo_call [kI 3, .own Rp.byte 5 11 [] ([(1 : UInt8), (172 : UInt8), (2 : UInt8)] : List UInt8)] [11] 10 rfl Try.call8 (run_Words_ok h_rv) rfl rfl rfl rfl rfl) rfl (by kernel_rfl))) ?_
 obtain ⟨g, h_g, h⟩ := bnd h
 refine ji_region ⟨[(0, kB g)], []⟩ ?_ ?_
 ·
  refine (ro_sp 4 11 ((IntKind.i64.wrap rv.2) == 0) ⟨[(1, .own (Rp.int .u64) 32 13 [] rv.1), (11, kB ((IntKind.i64.wrap rv.2) == 0))], []⟩ (by kernel_rfl) rfl (fun hc1 => ?_) (fun hc1 => ?_))
  ·
   replace h_g := iteT h_g hc1
   obtain ⟨rv2, h_rv2, h_g⟩ := bnd h_g
   obtain rfl := sj h_g
   exact (ro_o 1 [kU 1, kU 300] ⟨[(11, kB true), (12, .own (Rp.int .u64) 32 13 [] rv.1), (13, .own (Rp.int .u64) 32 14 [] ([1, 300] : (List Int)))], []⟩ rfl (lo_bsl [kU 1, kU 300] 14 [] ([1, 300] : (List Int)) rfl zet24 rfl rfl rfl rfl) rfl (by kernel_rfl) (ro_oz 0 [.own (Rp.int .u64) 32 13 [] rv.1, .own (Rp.int .u64) 32 14 [] ([1, 300] : (List Int))] rfl (lo_call [.own (Rp.int .u64) 32 13 [] rv.1, .own (Rp.int .u64) 32 14 [] ([1, 300] : (List Int))] [13, 14] 13 rfl Try.call12 (darningref02_Same_ok h_rv2) rfl rfl rfl rfl rfl) rfl (by kernel_rfl)))
  replace h_g := iteF h_g hc1
  obtain rfl := sj h_g
  exact (ro_z (by kernel_rfl))
 obtain rfl := sj h
 exact je_ret (le_z (by kernel_rfl))
theorem run_At_ok {k : Int} {b : (List UInt8)} {i : Int} {r : (Int × Int)} (h : run_At k b i = some r) : FnOk Try.prog 11 [kI k, .sl Rp.byte [0] b, kI i] [kU r.1, k8 r.2] := by
 refine fn_intro' (E := ⟨[(6, kU r.1), (7, k8 r.2)], []⟩) 45 Try.func11 rfl rfl rfl ⟨rfl, rfl, trivial⟩ (fun Xt => ?_)
 refine ji_start ?_
 refine ji_le (E' := ⟨[(0, kI k), (1, .sl Rp.byte [0] b), (2, kI i)], []⟩) (fun _ _ _ hs => hs) ?_
 unfold run_At at h
 refine ji_rz ⟨[(0, kI k), (1, .sl Rp.byte [0] b), (2, kI i)], []⟩ (by kernel_rfl) ?_
 obtain ⟨rv, h_rv, h⟩ := bnd h
 refine ji_region ⟨[(0, kI k), (1, .sl Rp.byte [0] b), (8, kI rv.1), (9, k8 rv.2)], []⟩ (ro_oz 3 [kI k, .sl Rp.byte [0] b, kI i] rfl (lo_call [kI k, .sl Rp.byte [0] b, kI i] [0] 9 rfl Try.call23 (run_behind_ok h_rv) rfl rfl rfl rfl rfl) rfl (by kernel_rfl)) ?_
 refine ji_rz ⟨[(0, kI k), (1, .sl Rp.byte [0] b), (8, kI rv.1), (9, k8 rv.2), (20, kB (rv.2 != 0))], []⟩ (by kernel_rfl) ?_
 rcases ite_some h with ⟨hc1, h⟩ | ⟨hc1, h⟩
 ·
  refine ji_condT rfl hc1 ?_
  refine ji_rz ⟨[(6, kU 0), (7, k8 rv.2)], []⟩ (by kernel_rfl) ?_
  obtain rfl := sj h
  exact je_ret (le_z (by kernel_rfl))
 refine ji_condF rfl hc1 ?_
 refine ji_rz ⟨[(0, kI k), (1, .sl Rp.byte [0] b), (8, kI rv.1), (25, kB (rv.1 == (b.length : Int)))], []⟩ (by kernel_rfl) ?_
 rcases ite_some h with ⟨hc2, h⟩ | ⟨hc2, h⟩
 ·
  refine ji_condT rfl hc2 ?_
  refine ji_rz ⟨[(6, kU 0), (7, k8 11)], []⟩ (by kernel_rfl) ?_
  obtain rfl := sj h
  exact je_ret (le_z (by kernel_rfl))
 refine ji_condF rfl hc2 ?_
 obtain ⟨rv2, h_rv2, h⟩ := bnd h
 obtain ⟨v, h_v, h⟩ := bnd h
 obtain ⟨rv3, h_rv3, h⟩ := bnd h
 refine ji_draw ⟨[(0, kI k), (1, .sl Rp.byte [0] b), (8, kI rv.1), (10, kI rv3.1)], []⟩ [.ev, .ex [] [] [] (kI rv2) [], .ev, .ev, .ex [] [] [] (.sl Rp.byte [0] v) [], .ex [] [] [] (.tup [kI rv3.1, k8 rv3.2]) []] [⟨[(.func 25, .lf (.val (.func (.func 25) #[] #[]))), (.tmp 27, kI k)], [], []⟩, ⟨[(.tmp 29, .sl Rp.byte [0] b), (.tmp 30, kI rv.1)], [], []⟩, ⟨[(.func 24, .lf (.val (.func (.func 24) #[] #[]))), (.tmp 28, kI rv2), (.tmp 31, .sl Rp.byte [0] v)], [], []⟩] [0, 1, 8, 10] [] mixed (by kernel_rfl) (by exact (lw_e (lw_x (LocalOk.cons _ (lo_as (lo_call (args := [.tmp 27]) [kI k] [1] 9 rfl Try.call25 (run_width_ok h_rv2) rfl rfl rfl rfl rfl) rfl)) (lw_e (lw_e (lw_x (lo_as (lo_cut (some (kI rv.1)) none rfl zet22.el (isSl_sl _ _ _) ⟨rfl, rfl⟩ ⟨rfl, rfl⟩ h_v) rfl) (lw_x (LocalOk.cons _ (lo_as (lo_call (args := [.tmp 28, .tmp 31]) [kI rv2, .sl Rp.byte [0] v] [0] 9 rfl Try.call24 (run_first_ok h_rv3) rfl rfl rfl rfl rfl) rfl)) lw_0))))))) ?_
 obtain ⟨v2, h_v2, h⟩ := bnd h
 obtain ⟨rv4, h_rv4, h⟩ := bnd h
 refine ji_region ⟨[(6, kU rv4.1), (7, k8 rv4.2)], []⟩ (ro_o 6 [.sl Rp.byte [0] b, kI rv.1, kI (IntKind.i64.wrap (rv.1 + rv3.1))] ⟨[(35, kI k), (41, .sl Rp.byte [0] v2)], []⟩ rfl (lo_cut (some (kI rv.1)) (some (kI (IntKind.i64.wrap (rv.1 + rv3.1)))) rfl zet22.el (isSl_sl _ _ _) ⟨rfl, rfl⟩ ⟨rfl, rfl⟩ h_v2) rfl (by kernel_rfl) (ro_oz 0 [kI k, .sl Rp.byte [0] v2] rfl (lo_call [kI k, .sl Rp.byte [0] v2] [0] 9 rfl Try.call21 (scalar_Read_ok h_rv4) rfl rfl rfl rfl rfl) rfl (by kernel_rfl))) ?_
 obtain rfl := sj h
 exact je_ret (le_z (by kernel_rfl))
theorem run_Cut_ok {k : Int} {b : (List UInt8)} {n : Int} {r : ((List UInt8) × (List UInt8) × Int)} (h : run_Cut k b n = some r) : FnOk Try.prog 18 [kI k, .sl Rp.byte [0] b, kI n] [.own Rp.byte 5 2 [] r.1, .own Rp.byte 5 3 [] r.2.1, k8 r.2.2] := by
 refine fn_intro' (E := ⟨[(6, .own Rp.byte 5 2 [] r.1), (7, .own Rp.byte 5 3 [] r.2.1), (8, k8 r.2.2)], []⟩) 31 Try.func18 rfl rfl rfl ⟨rfl, rfl, rfl, trivial⟩ (fun Xt => ?_)
 refine ji_start ?_
 refine ji_le (E' := ⟨[(0, kI k), (1, .sl Rp.byte [0] b), (2, kI n)], []⟩) (fun _ _ _ hs => hs) ?_
 unfold run_Cut at h
 refine ji_rz ⟨[(0, kI k), (1, .sl Rp.byte [0] b), (2, kI n)], []⟩ (by kernel_rfl) ?_
 obtain ⟨rv, h_rv, h⟩ := bnd h
 refine ji_region ⟨[(1, .sl Rp.byte [0] b), (9, kI rv.1), (10, k8 rv.2)], []⟩ (ro_oz 3 [kI k, .sl Rp.byte [0] b, kI n] rfl (lo_call [kI k, .sl Rp.byte [0] b, kI n] [0] 13 rfl Try.call23 (run_behind_ok h_rv) rfl rfl rfl rfl rfl) rfl (by kernel_rfl)) ?_
 refine ji_rz ⟨[(1, .sl Rp.byte [0] b), (9, kI rv.1), (10, k8 rv.2), (19, kB (rv.2 != 0))], []⟩ (by kernel_rfl) ?_
 rcases ite_some h with ⟨hc1, h⟩ | ⟨hc1, h⟩
 ·
  refine ji_condT rfl hc1 ?_
  refine ji_rz ⟨[(6, kN), (7, kN), (8, k8 rv.2)], []⟩ (by kernel_rfl) ?_
  obtain rfl := sj h
  refine je_ret ?_
  refine le_at 6 (.own Rp.byte 5 2 [] (([], [], rv.2) : ((List UInt8) × (List UInt8) × Int)).1) rfl (le_own_nil Rp.byte 5 2 [] rfl) ?_
  refine le_at 7 (.own Rp.byte 5 3 [] (([], [], rv.2) : ((List UInt8) × (List UInt8) × Int)).2.1) rfl (le_own_nil Rp.byte 5 3 [] rfl) ?_
  exact le_z (by kernel_rfl)
 refine ji_condF rfl hc1 ?_
 obtain ⟨v, h_v, h⟩ := bnd h
 obtain ⟨rv2, h_rv2, h⟩ := bnd h
 obtain ⟨v2, h_v2, h⟩ := bnd h
 obtain ⟨rv3, h_rv3, h⟩ := bnd h
 refine ji_draw ⟨[(6, .own Rp.byte 5 16 [] rv2), (7, .own Rp.byte 5 18 [] rv3), (8, k8 0)], []⟩ [.ev, .ev, .ex [] [] [] (.sl Rp.byte [0] v) [], .ex [] [] [15] (.own (Rp.list Rp.byte) 22 15 [0] ([v] : (List (List UInt8)))) [], .ex [] [] [16] (.own Rp.byte 5 16 [] rv2) [], .ev, .ev, .ex [] [] [] (.sl Rp.byte [0] v2) [], .ex [] [] [17] (.own (Rp.list Rp.byte) 22 17 [0] ([v2] : (List (List UInt8)))) [], .ex [] [] [18] (.own Rp.byte 5 18 [] rv3) []] [⟨[(.tmp 21, .sl Rp.byte [0] b), (.tmp 22, kI rv.1)], [], []⟩, ⟨[(.tmp 23, .sl Rp.byte [0] v)], [], []⟩, ⟨[(.func 29, .lf (.val (.func (.func 29) #[] #[]))), (.tmp 24, .own (Rp.list Rp.byte) 22 15 [0] ([v] : (List (List UInt8))))], [], []⟩, ⟨[(.tmp 26, .sl Rp.byte [0] b), (.tmp 27, kI rv.1)], [], []⟩, ⟨[(.tmp 28, .sl Rp.byte [0] v2)], [], []⟩, ⟨[(.func 29, .lf (.val (.func (.func 29) #[] #[]))), (.tmp 29, .own (Rp.list Rp.byte) 22 17 [0] ([v2] : (List (List UInt8))))], [], []⟩] [6, 7, 8] [] mixed (by kernel_rfl) (by exact (lw_e (lw_e (lw_x (lo_as (lo_cut none (some (kI rv.1)) rfl zet22.el (isSl_sl _ _ _) ⟨rfl, rfl⟩ ⟨rfl, rfl⟩ h_v) rfl) (lw_x (lo_as (lo_bsl [.sl Rp.byte [0] v] 15 [0] ([v] : (List (List UInt8))) rfl zet73 rfl rfl rfl rfl) rfl) (lw_x (LocalOk.cons _ (lo_as (lo_call (args := [.tmp 24]) [.own (Rp.list Rp.byte) 22 15 [0] ([v] : (List (List UInt8)))] [15, 0] 14 rfl Try.call29 (slices_Concat___byte_byte__ok h_rv2) rfl rfl rfl rfl rfl) rfl)) (lw_e (lw_e (lw_x (lo_as (lo_cut (some (kI rv.1)) none rfl zet22.el (isSl_sl _ _ _) ⟨rfl, rfl⟩ ⟨rfl, rfl⟩ h_v2) rfl) (lw_x (lo_as (lo_bsl [.sl Rp.byte [0] v2] 17 [0] ([v2] : (List (List UInt8))) rfl zet73 rfl rfl rfl rfl) rfl) (lw_x (LocalOk.cons _ (lo_as (lo_call (args := [.tmp 29]) [.own (Rp.list Rp.byte) 22 17 [0] ([v2] : (List (List UInt8)))] [17, 0] 16 rfl Try.call29 (slices_Concat___byte_byte__ok h_rv3) rfl rfl rfl rfl rfl) rfl)) lw_0))))))))))) ?_
 obtain rfl := sj h
 refine je_ret ?_
 refine le_px ⟨[(6, .own Rp.byte 5 16 [] rv2), (7, .own Rp.byte 5 18 [] rv3), (8, k8 0)], []⟩ (by kernel_rfl) (le_rn 16 2 rfl (le_px ⟨[(6, .own Rp.byte 5 2 [] rv2), (7, .own Rp.byte 5 18 [] rv3), (8, k8 0)], []⟩ (by kernel_rfl) ?_))
 refine le_px ⟨[(6, .own Rp.byte 5 2 [] rv2), (7, .own Rp.byte 5 18 [] rv3), (8, k8 0)], []⟩ (by kernel_rfl) (le_rn 18 3 rfl (le_px ⟨[(6, .own Rp.byte 5 2 [] rv2), (7, .own Rp.byte 5 3 [] rv3), (8, k8 0)], []⟩ (by kernel_rfl) ?_))
 exact le_z (by kernel_rfl)
theorem darninglaw09_RunWords_ok {fuel : Nat} {k : Int} {b : (List UInt8)} {i : Int} {r : Bool} (h : darninglaw09_RunWords fuel k b i = some r) : FnOk Try.prog 3 [kI k, .sl Rp.byte [0] b, kI i] [kB r] := by
 refine fn_intro' (E := ⟨[(6, kB r)], []⟩) 118 Try.func3 rfl rfl rfl ⟨rfl, trivial⟩ (fun Xt => ?_)
 refine ji_start ?_
 refine ji_le (E' := ⟨[(0, kI k), (1, .sl Rp.byte [0] b), (2, kI i)], []⟩) (fun _ _ _ hs => hs) ?_
 unfold darninglaw09_RunWords at h
 refine ji_rz ⟨[(0, kI k), (1, .sl Rp.byte [0] b), (2, kI i)], []⟩ (by kernel_rfl) ?_
 obtain ⟨rv, h_rv, h⟩ := bnd h
 refine ji_region ⟨[(0, kI k), (1, .sl Rp.byte [0] b), (2, kI i), (16, kB (!rv))], []⟩ (ro_oz 0 [] rfl (lo_call [] [1] 9 rfl Try.call7 (darninglaw09_alive_ok h_rv) rfl rfl rfl rfl rfl) rfl (by kernel_rfl)) ?_
 rcases ite_some h with ⟨hc1, h⟩ | ⟨hc1, h⟩
 ·
  refine ji_condT rfl hc1 ?_
  refine ji_rz ⟨[(6, kB false)], []⟩ (by kernel_rfl) ?_
  obtain rfl := sj h
  exact je_ret (le_z (by kernel_rfl))
 refine ji_condF rfl hc1 ?_
 refine ji_rz ⟨[(0, kI k), (1, .sl Rp.byte [0] b), (2, kI i), (19, kB (decide ((b.length : Int) > 2000)))], []⟩ (by kernel_rfl) ?_
 rcases ite_some h with ⟨hc2, h⟩ | ⟨hc2, h⟩
 ·
  refine ji_condT rfl hc2 ?_
  refine ji_rz ⟨[(6, kB true)], []⟩ (by kernel_rfl) ?_
  obtain rfl := sj h
  exact je_ret (le_z (by kernel_rfl))
 refine ji_condF rfl hc2 ?_
 obtain ⟨rv2, h_rv2, h⟩ := bnd h
 refine ji_region ⟨[(0, kI k), (1, .sl Rp.byte [0] b), (2, kI i), (7, .own (Rp.int .u64) 32 12 [] rv2.1), (8, k8 rv2.2)], []⟩ (ro_oz 2 [kI k, .sl Rp.byte [0] b] rfl (lo_call [kI k, .sl Rp.byte [0] b] [0] 9 rfl Try.call8 (run_Words_ok h_rv2) rfl rfl rfl rfl rfl) rfl (by kernel_rfl)) ?_
 obtain ⟨rv3, h_rv3, h⟩ := bnd h
 refine ji_region ⟨[(0, kI k), (1, .sl Rp.byte [0] b), (2, kI i), (7, .own (Rp.int .u64) 32 12 [] rv2.1), (8, k8 rv2.2), (9, .own (Rp.int .u64) 32 13 [] rv3.1), (10, kI rv3.2)], []⟩ (ro_oz 2 [kI k, .sl Rp.byte [0] b] rfl (lo_call [kI k, .sl Rp.byte [0] b] [0] 11 rfl Try.call9 (darningref09_Words_ok h_rv3) rfl rfl rfl rfl rfl) rfl (by kernel_rfl)) ?_
 obtain ⟨rv4, h_rv4, h⟩ := bnd h
 refine ji_region ⟨[(0, kI k), (1, .sl Rp.byte [0] b), (2, kI i), (7, .own (Rp.int .u64) 32 12 [] rv2.1), (8, k8 rv2.2), (9, .own (Rp.int .u64) 32 13 [] rv3.1), (10, kI rv3.2), (11, kI rv4.1), (12, k8 rv4.2)], []⟩ (ro_oz 2 [kI k, .sl Rp.byte [0] b] rfl (lo_call [kI k, .sl Rp.byte [0] b] [0] 12 rfl Try.call10 (run_Count_ok h_rv4) rfl rfl rfl rfl rfl) rfl (by kernel_rfl)) ?_
 obtain ⟨rv5, h_rv5, h⟩ := bnd h
 refine ji_region ⟨[(0, kI k), (1, .sl Rp.byte [0] b), (2, kI i), (7, .own (Rp.int .u64) 32 12 [] rv2.1), (8, k8 rv2.2), (9, .own (Rp.int .u64) 32 13 [] rv3.1), (10, kI rv3.2), (11, kI rv4.1), (12, k8 rv4.2), (13, kU rv5.1), (14, k8 rv5.2)], []⟩ (ro_oz 3 [kI k, .sl Rp.byte [0] b, kI i] rfl (lo_call [kI k, .sl Rp.byte [0] b, kI i] [0] 12 rfl Try.call11 (run_At_ok h_rv5) rfl rfl rfl rfl rfl) rfl (by kernel_rfl)) ?_
 obtain ⟨g, h_g, h⟩ := bnd h
 refine ji_region ⟨[(0, kI k), (1, .sl Rp.byte [0] b), (2, kI i), (9, .own (Rp.int .u64) 32 13 [] rv3.1), (10, kI rv3.2), (13, kU rv5.1), (14, k8 rv5.2), (66, kB g)], []⟩ ?_ ?_
 ·
  refine (ro_sp 5 49 ((IntKind.i64.wrap rv2.2) != rv3.2) ⟨[(0, kI k), (1, .sl Rp.byte [0] b), (2, kI i), (7, .own (Rp.int .u64) 32 12 [] rv2.1), (9, .own (Rp.int .u64) 32 13 [] rv3.1), (10, kI rv3.2), (11, kI rv4.1), (12, k8 rv4.2), (13, kU rv5.1), (14, k8 rv5.2), (49, kB ((IntKind.i64.wrap rv2.2) != rv3.2))], []⟩ (by kernel_rfl) rfl (fun hc3 => ?_) (fun hc3 => ?_))
  ·
   replace h_g := iteT h_g hc3
   obtain rfl := sj h_g
   exact (ro_z (by kernel_rfl))
  replace h_g := iteF h_g hc3
  refine (ro_sp 6 55 ((IntKind.i64.wrap rv4.2) != rv3.2) ⟨[(0, kI k), (1, .sl Rp.byte [0] b), (2, kI i), (7, .own (Rp.int .u64) 32 12 [] rv2.1), (9, .own (Rp.int .u64) 32 13 [] rv3.1), (10, kI rv3.2), (11, kI rv4.1), (13, kU rv5.1), (14, k8 rv5.2), (55, kB ((IntKind.i64.wrap rv4.2) != rv3.2))], []⟩ (by kernel_rfl) rfl (fun hc4 => ?_) (fun hc4 => ?_))
  ·
   replace h_g := iteT h_g hc4
   obtain rfl := sj h_g
   exact (ro_z (by kernel_rfl))
  replace h_g := iteF h_g hc4
  obtain ⟨rv6, h_rv6, h_g⟩ := bnd h_g
  refine (ro_o 2 [.own (Rp.int .u64) 32 12 [] rv2.1, .own (Rp.int .u64) 32 13 [] rv3.1] ⟨[(0, kI k), (1, .sl Rp.byte [0] b), (2, kI i), (9, .own (Rp.int .u64) 32 13 [] rv3.1), (10, kI rv3.2), (11, kI rv4.1), (13, kU rv5.1), (14, k8 rv5.2), (55, kB false), (58, kB rv6)], []⟩ rfl (lo_call [.own (Rp.int .u64) 32 12 [] rv2.1, .own (Rp.int .u64) 32 13 [] rv3.1] [12, 13] 12 rfl Try.call12 (darningref02_Same_ok h_rv6) rfl rfl rfl rfl rfl) rfl (by kernel_rfl) (ro_sp 3 61 (!rv6) ⟨[(0, kI k), (1, .sl Rp.byte [0] b), (2, kI i), (9, .own (Rp.int .u64) 32 13 [] rv3.1), (10, kI rv3.2), (11, kI rv4.1), (13, kU rv5.1), (14, k8 rv5.2), (61, kB (!rv6))], []⟩ (by kernel_rfl) rfl (fun hc5 => ?_) (fun hc5 => ?_)))
  ·
   replace h_g := iteT h_g hc5
   obtain rfl := sj h_g
   exact (ro_z (by kernel_rfl))
  replace h_g := iteF h_g hc5
  obtain rfl := sj h_g
  exact (ro_z (by kernel_rfl))
 rcases ite_some h with ⟨hc6, h⟩ | ⟨hc6, h⟩
 ·
  refine ji_condT rfl hc6 ?_
  refine ji_rz ⟨[(6, kB false)], []⟩ (by kernel_rfl) ?_
  obtain rfl := sj h
  exact je_ret (le_z (by kernel_rfl))
 refine ji_condF rfl hc6 ?_
 refine ji_rz ⟨[(0, kI k), (1, .sl Rp.byte [0] b), (2, kI i), (9, .own (Rp.int .u64) 32 13 [] rv3.1), (10, kI rv3.2), (13, kU rv5.1), (14, k8 rv5.2), (68, kB (rv3.2 != 0))], []⟩ (by kernel_rfl) ?_
 rcases ite_some h with ⟨hc7, h⟩ | ⟨hc7, h⟩
 ·
  refine ji_condT rfl hc7 ?_
  obtain ⟨g2, h_g2, h⟩ := bnd h
  refine ji_region ⟨[(6, kB g2)], []⟩ ?_ ?_
  ·
   refine (ro_sp 5 73 ((IntKind.i64.wrap rv5.2) == rv3.2) ⟨[(0, kI k), (1, .sl Rp.byte [0] b), (13, kU rv5.1), (73, kB ((IntKind.i64.wrap rv5.2) == rv3.2))], []⟩ (by kernel_rfl) rfl (fun hc8 => ?_) (fun hc8 => ?_))
   ·
    replace h_g2 := iteT h_g2 hc8
    refine (ro_sp 4 77 (rv5.1 == 0) ⟨[(0, kI k), (1, .sl Rp.byte [0] b), (77, kB (rv5.1 == 0))], []⟩ (by kernel_rfl) rfl (fun hc9 => ?_) (fun hc9 => ?_))
    ·
     replace h_g2 := iteT h_g2 hc9
     obtain ⟨rv7, h_rv7, h_g2⟩ := bnd h_g2
     obtain rfl := sj h_g2
     exact (ro_oz 2 [kI k, .sl Rp.byte [0] b] rfl (lo_call [kI k, .sl Rp.byte [0] b] [0] 12 rfl Try.call13 (run_Canonical_ok h_rv7) rfl rfl rfl rfl rfl) rfl (by kernel_rfl))
    replace h_g2 := iteF h_g2 hc9
    obtain rfl := sj h_g2
    exact (ro_z (by kernel_rfl))
   replace h_g2 := iteF h_g2 hc8
   obtain rfl := sj h_g2
   exact (ro_z (by kernel_rfl))
  obtain rfl := sj h
  exact je_ret (le_z (by kernel_rfl))
 refine ji_condF rfl hc7 ?_
 refine ji_region ⟨[(0, kI k), (1, .sl Rp.byte [0] b), (2, kI i), (9, .own (Rp.int .u64) 32 13 [] rv3.1), (13, kU rv5.1), (14, k8 rv5.2), (90, kB ((decide (i < 0)) || (decide (i ≥ (rv3.1.length : Int)))))], []⟩ ?_ ?_
 ·
  refine (ro_sp 3 85 (decide (i < 0)) ⟨[(0, kI k), (1, .sl Rp.byte [0] b), (2, kI i), (9, .own (Rp.int .u64) 32 13 [] rv3.1), (13, kU rv5.1), (14, k8 rv5.2), (85, kB (decide (i < 0)))], []⟩ (by kernel_rfl) rfl (fun hc10 => ?_) (fun hc10 => ?_))
  · exact (ro_zb 90 true ((decide (i < 0)) || (decide (i ≥ (rv3.1.length : Int)))) (by rw [hc10] <;> rfl) (by kernel_rfl) (by kernel_rfl))
  exact (ro_zb 90 (decide (i ≥ (rv3.1.length : Int))) ((decide (i < 0)) || (decide (i ≥ (rv3.1.length : Int)))) (by rw [hc10] <;> rfl) (by kernel_rfl) (by kernel_rfl))
 obtain ⟨p, h_p, h⟩ := bnd h
 refine ji_join (R := fun e a w => match p with | (.inl v_) => e = .normal ∧ Sx ⟨⟨118, []⟩, Xt, false, #[]⟩ ⟨[(0, kI k), (1, .sl Rp.byte [0] b), (9, .own (Rp.int .u64) 32 13 [] rv3.1)], []⟩ a w | (.inr v_) => e = .ret ∧ Sx ⟨⟨118, []⟩, Xt, false, #[]⟩ ⟨[(6, kB false)], []⟩ a w) ?_ ?_
 ·
  replace h := h_p
  refine ji_start ?_
  rcases ite_some h with ⟨hc11, h⟩ | ⟨hc11, h⟩
  ·
   refine ji_condT rfl hc11 ?_
   refine ji_region ⟨[(0, kI k), (1, .sl Rp.byte [0] b), (9, .own (Rp.int .u64) 32 13 [] rv3.1), (97, kB (((IntKind.i64.wrap rv5.2) != 11) || (rv5.1 != 0)))], []⟩ ?_ ?_
   ·
    refine (ro_sp 4 94 ((IntKind.i64.wrap rv5.2) != 11) ⟨[(0, kI k), (1, .sl Rp.byte [0] b), (9, .own (Rp.int .u64) 32 13 [] rv3.1), (13, kU rv5.1), (94, kB ((IntKind.i64.wrap rv5.2) != 11))], []⟩ (by kernel_rfl) rfl (fun hc12 => ?_) (fun hc12 => ?_))
    · exact (ro_zb 97 true (((IntKind.i64.wrap rv5.2) != 11) || (rv5.1 != 0)) (by rw [hc12] <;> rfl) (by kernel_rfl) (by kernel_rfl))
    exact (ro_zb 97 (rv5.1 != 0) (((IntKind.i64.wrap rv5.2) != 11) || (rv5.1 != 0)) (by rw [hc12] <;> rfl) (by kernel_rfl) (by kernel_rfl))
   rcases ite_some h with ⟨hc13, h⟩ | ⟨hc13, h⟩
   ·
    refine ji_condT rfl hc13 ?_
    refine ji_rz ⟨[(6, kB false)], []⟩ (by kernel_rfl) ?_
    obtain rfl := sj h
    exact je_ret (le_z (by kernel_rfl))
   refine ji_condF rfl hc13 ?_
   obtain rfl := sj h
   exact je_nil (le_z (by kernel_rfl))
  refine ji_condF rfl hc11 ?_
  obtain ⟨g3, h_g3, h⟩ := bnd h
  refine ji_region ⟨[(0, kI k), (1, .sl Rp.byte [0] b), (9, .own (Rp.int .u64) 32 13 [] rv3.1), (108, kB g3)], []⟩ ?_ ?_
  ·
   refine (ro_sp 4 101 ((IntKind.i64.wrap rv5.2) != 0) ⟨[(0, kI k), (1, .sl Rp.byte [0] b), (2, kI i), (9, .own (Rp.int .u64) 32 13 [] rv3.1), (13, kU rv5.1), (101, kB ((IntKind.i64.wrap rv5.2) != 0))], []⟩ (by kernel_rfl) rfl (fun hc14 => ?_) (fun hc14 => ?_))
   ·
    replace h_g3 := iteT h_g3 hc14
    obtain rfl := sj h_g3
    exact (ro_z (by kernel_rfl))
   replace h_g3 := iteF h_g3 hc14
   obtain ⟨x, h_x, h_g3⟩ := bnd h_g3
   obtain rfl := sj h_g3
   exact (ro_oz 3 [.own (Rp.int .u64) 32 13 [] rv3.1, kI i] rfl (lo_ix rfl zet24.el (isSl_own _ _ _ _ _) h_x) rfl (by kernel_rfl))
  rcases ite_some h with ⟨hc15, h⟩ | ⟨hc15, h⟩
  ·
   refine ji_condT rfl hc15 ?_
   refine ji_rz ⟨[(6, kB false)], []⟩ (by kernel_rfl) ?_
   obtain rfl := sj h
   exact je_ret (le_z (by kernel_rfl))
  refine ji_condF rfl hc15 ?_
  obtain rfl := sj h
  exact je_nil (le_z (by kernel_rfl))
 rcases p with u | u2
 ·
  refine k_norm ?_
  obtain ⟨rv8, h_rv8, h⟩ := bnd h
  obtain ⟨rv9, h_rv9, h⟩ := bnd h
  obtain ⟨rv10, h_rv10, h⟩ := bnd h
  refine ji_region ⟨[(6, kB (rv8 == rv10))], []⟩ (ro_o 2 [kI k, .sl Rp.byte [0] b] ⟨[(0, kI k), (1, .sl Rp.byte [0] b), (9, .own (Rp.int .u64) 32 13 [] rv3.1), (111, kB rv8)], []⟩ rfl (lo_call [kI k, .sl Rp.byte [0] b] [0] 12 rfl Try.call13 (run_Canonical_ok h_rv8) rfl rfl rfl rfl rfl) rfl (by kernel_rfl) (ro_o 2 [kI k, .own (Rp.int .u64) 32 13 [] rv3.1] ⟨[(1, .sl Rp.byte [0] b), (111, kB rv8), (114, .own Rp.byte 5 14 [] rv9)], []⟩ rfl (lo_call [kI k, .own (Rp.int .u64) 32 13 [] rv3.1] [13] 12 rfl Try.call15 (darningref09_Pack_ok h_rv9) rfl rfl rfl rfl rfl) rfl (by kernel_rfl) (ro_oz 1 [.own Rp.byte 5 14 [] rv9, .sl Rp.byte [0] b] rfl (lo_call [.own Rp.byte 5 14 [] rv9, .sl Rp.byte [0] b] [14, 0] 13 rfl Try.call14 (darningref01_Same_ok h_rv10) rfl rfl rfl rfl rfl) rfl (by kernel_rfl)))) ?_
  obtain rfl := sj h
  exact je_ret (le_z (by kernel_rfl))
 obtain rfl := sj h
 exact ke_ret (le_z (by kernel_rfl))
theorem darninglaw09_RunPacks_ok {fuel : Nat} {k : Int} {l : (List Int)} {r : Bool} (h : darninglaw09_RunPacks fuel k l = some r) : FnOk Try.prog 4 [kI k, .sl (Rp.int .u64) [0] l] [kB r] := by
 refine fn_intro' (E := ⟨[(4, kB r)], []⟩) 44 Try.func4 rfl rfl rfl ⟨rfl, trivial⟩ (fun Xt => ?_)
 refine ji_start ?_
 refine ji_le (E' := ⟨[(0, kI k), (1, .sl (Rp.int .u64) [0] l)], []⟩) (fun _ _ _ hs => hs) ?_
 unfold darninglaw09_RunPacks at h
 refine ji_rz ⟨[(0, kI k), (1, .sl (Rp.int .u64) [0] l)], []⟩ (by kernel_rfl) ?_
 obtain ⟨rv, h_rv, h⟩ := bnd h
 refine ji_region ⟨[(0, kI k), (1, .sl (Rp.int .u64) [0] l), (8, kB (!rv))], []⟩ (ro_oz 0 [] rfl (lo_call [] [1] 9 rfl Try.call7 (darninglaw09_alive_ok h_rv) rfl rfl rfl rfl rfl) rfl (by kernel_rfl)) ?_
 rcases ite_some h with ⟨hc1, h⟩ | ⟨hc1, h⟩
 ·
  refine ji_condT rfl hc1 ?_
  refine ji_rz ⟨[(4, kB false)], []⟩ (by kernel_rfl) ?_
  obtain rfl := sj h
  exact je_ret (le_z (by kernel_rfl))
 refine ji_condF rfl hc1 ?_
 refine ji_rz ⟨[(0, kI k), (1, .sl (Rp.int .u64) [0] l), (11, kB (decide ((l.length : Int) > 500)))], []⟩ (by kernel_rfl) ?_
 rcases ite_some h with ⟨hc2, h⟩ | ⟨hc2, h⟩
 ·
  refine ji_condT rfl hc2 ?_
  refine ji_rz ⟨[(4, kB true)], []⟩ (by kernel_rfl) ?_
  obtain rfl := sj h
  exact je_ret (le_z (by kernel_rfl))
 refine ji_condF rfl hc2 ?_
 obtain ⟨rv2, h_rv2, h⟩ := bnd h
 refine ji_region ⟨[(0, kI k), (1, .sl (Rp.int .u64) [0] l), (5, .own Rp.byte 5 11 [] rv2.1), (6, k8 rv2.2)], []⟩ (ro_oz 2 [kI k, .sl (Rp.int .u64) [0] l] rfl (lo_call [kI k, .sl (Rp.int .u64) [0] l] [0] 9 rfl Try.call16 (run_Pack_ok h_rv2) rfl rfl rfl rfl rfl) rfl (by kernel_rfl)) ?_
 obtain ⟨rv3, h_rv3, h⟩ := bnd h
 refine ji_region ⟨[(0, kI k), (1, .sl (Rp.int .u64) [0] l), (5, .own Rp.byte 5 11 [] rv2.1), (6, k8 rv2.2), (20, kB (!rv3))], []⟩ (ro_oz 1 [kI k] rfl (lo_call [kI k] [1] 10 rfl Try.call17 (darningref06_Number_ok h_rv3) rfl rfl rfl rfl rfl) rfl (by kernel_rfl)) ?_
 rcases ite_some h with ⟨hc3, h⟩ | ⟨hc3, h⟩
 ·
  refine ji_condT rfl hc3 ?_
  refine ji_region ⟨[(4, kB (((IntKind.i64.wrap rv2.2) == 2) && ((rv2.1.length : Int) == 0)))], []⟩ ?_ ?_
  ·
   refine (ro_sp 4 24 ((IntKind.i64.wrap rv2.2) == 2) ⟨[(5, .own Rp.byte 5 11 [] rv2.1), (24, kB ((IntKind.i64.wrap rv2.2) == 2))], []⟩ (by kernel_rfl) rfl (fun hc4 => ?_) (fun hc4 => ?_))
   · exact (ro_zb 4 ((rv2.1.length : Int) == 0) (((IntKind.i64.wrap rv2.2) == 2) && ((rv2.1.length : Int) == 0)) (by rw [hc4] <;> rfl) (by kernel_rfl) (by kernel_rfl))
   exact (ro_zb 4 false (((IntKind.i64.wrap rv2.2) == 2) && ((rv2.1.length : Int) == 0)) (by rw [hc4] <;> rfl) (by kernel_rfl) (by kernel_rfl))
  obtain rfl := sj h
  exact je_ret (le_z (by kernel_rfl))
 refine ji_condF rfl hc3 ?_
 obtain ⟨g, h_g, h⟩ := bnd h
 refine ji_region ⟨[(4, kB g)], []⟩ ?_ ?_
 ·
  refine (ro_sp 4 32 ((IntKind.i64.wrap rv2.2) == 0) ⟨[(0, kI k), (1, .sl (Rp.int .u64) [0] l), (5, .own Rp.byte 5 11 [] rv2.1), (32, kB ((IntKind.i64.wrap rv2.2) == 0))], []⟩ (by kernel_rfl) rfl (fun hc5 => ?_) (fun hc5 => ?_))
  ·
   replace h_g := iteT h_g hc5
   obtain ⟨rv4, h_rv4, h_g⟩ := bnd h_g
   obtain ⟨rv5, h_rv5, h_g⟩ := bnd h_g
   refine (ro_o 3 [kI k, .sl (Rp.int .u64) [0] l] ⟨[(0, kI k), (5, .own Rp.byte 5 11 [] rv2.1), (32, kB true), (33, .own Rp.byte 5 11 [] rv2.1), (36, .own Rp.byte 5 12 [] rv4)], []⟩ rfl (lo_call [kI k, .sl (Rp.int .u64) [0] l] [0] 10 rfl Try.call15 (darningref09_Pack_ok h_rv4) rfl rfl rfl rfl rfl) rfl (by kernel_rfl) (ro_o 0 [.own Rp.byte 5 11 [] rv2.1, .own Rp.byte 5 12 [] rv4] ⟨[(0, kI k), (5, .own Rp.byte 5 11 [] rv2.1), (32, kB true), (37, kB rv5)], []⟩ rfl (lo_call [.own Rp.byte 5 11 [] rv2.1, .own Rp.byte 5 12 [] rv4] [11, 12] 11 rfl Try.call14 (darningref01_Same_ok h_rv5) rfl rfl rfl rfl rfl) rfl (by kernel_rfl) (ro_sp 2 39 rv5 ⟨[(0, kI k), (5, .own Rp.byte 5 11 [] rv2.1), (39, kB rv5)], []⟩ (by kernel_rfl) rfl (fun hc6 => ?_) (fun hc6 => ?_))))
   ·
    replace h_g := iteT h_g hc6
    obtain ⟨rv6, h_rv6, h_g⟩ := bnd h_g
    obtain rfl := sj h_g
    exact (ro_oz 2 [kI k, .own Rp.byte 5 11 [] rv2.1] rfl (lo_call [kI k, .own Rp.byte 5 11 [] rv2.1] [11] 11 rfl Try.call13 (run_Canonical_ok h_rv6) rfl rfl rfl rfl rfl) rfl (by kernel_rfl))
   replace h_g := iteF h_g hc6
   obtain rfl := sj h_g
   exact (ro_z (by kernel_rfl))
  replace h_g := iteF h_g hc5
  obtain rfl := sj h_g
  exact (ro_z (by kernel_rfl))
 obtain rfl := sj h
 exact je_ret (le_z (by kernel_rfl))
theorem darninglaw09_RunCuts_ok {k : Int} {b : (List UInt8)} {n : Int} {r : Bool} (h : darninglaw09_RunCuts k b n = some r) : FnOk Try.prog 5 [kI k, .sl Rp.byte [0] b, kI n] [kB r] := by
 refine fn_intro' (E := ⟨[(6, kB r)], []⟩) 89 Try.func5 rfl rfl rfl ⟨rfl, trivial⟩ (fun Xt => ?_)
 refine ji_start ?_
 refine ji_le (E' := ⟨[(0, kI k), (1, .sl Rp.byte [0] b), (2, kI n)], []⟩) (fun _ _ _ hs => hs) ?_
 unfold darninglaw09_RunCuts at h
 refine ji_rz ⟨[(0, kI k), (1, .sl Rp.byte [0] b), (2, kI n)], []⟩ (by kernel_rfl) ?_
 obtain ⟨rv, h_rv, h⟩ := bnd h
 refine ji_region ⟨[(0, kI k), (1, .sl Rp.byte [0] b), (2, kI n), (14, kB (!rv))], []⟩ (ro_oz 0 [] rfl (lo_call [] [1] 9 rfl Try.call7 (darninglaw09_alive_ok h_rv) rfl rfl rfl rfl rfl) rfl (by kernel_rfl)) ?_
 rcases ite_some h with ⟨hc1, h⟩ | ⟨hc1, h⟩
 ·
  refine ji_condT rfl hc1 ?_
  refine ji_rz ⟨[(6, kB false)], []⟩ (by kernel_rfl) ?_
  obtain rfl := sj h
  exact je_ret (le_z (by kernel_rfl))
 refine ji_condF rfl hc1 ?_
 refine ji_rz ⟨[(0, kI k), (1, .sl Rp.byte [0] b), (2, kI n), (17, kB (decide ((b.length : Int) > 2000)))], []⟩ (by kernel_rfl) ?_
 rcases ite_some h with ⟨hc2, h⟩ | ⟨hc2, h⟩
 ·
  refine ji_condT rfl hc2 ?_
  refine ji_rz ⟨[(6, kB true)], []⟩ (by kernel_rfl) ?_
  obtain rfl := sj h
  exact je_ret (le_z (by kernel_rfl))
 refine ji_condF rfl hc2 ?_
 obtain ⟨rv2, h_rv2, h⟩ := bnd h
 refine ji_region ⟨[(0, kI k), (1, .sl Rp.byte [0] b), (2, kI n), (7, .own Rp.byte 5 11 [] rv2.1), (8, .own Rp.byte 5 12 [] rv2.2.1), (9, k8 rv2.2.2)], []⟩ (ro_oz 3 [kI k, .sl Rp.byte [0] b, kI n] rfl (lo_call [kI k, .sl Rp.byte [0] b, kI n] [0] 9 rfl Try.call18 (run_Cut_ok h_rv2) rfl rfl rfl rfl rfl) rfl (by kernel_rfl)) ?_
 obtain ⟨rv3, h_rv3, h⟩ := bnd h
 refine ji_region ⟨[(1, .sl Rp.byte [0] b), (2, kI n), (7, .own Rp.byte 5 11 [] rv2.1), (8, .own Rp.byte 5 12 [] rv2.2.1), (9, k8 rv2.2.2), (10, .own (Rp.int .i64) 3 13 [] rv3.1), (11, kI rv3.2)], []⟩ (ro_oz 2 [kI k, .sl Rp.byte [0] b] rfl (lo_call [kI k, .sl Rp.byte [0] b] [0] 11 rfl Try.call19 (darningref09_Ends_ok h_rv3) rfl rfl rfl rfl rfl) rfl (by kernel_rfl)) ?_
 refine ji_rz ⟨[(1, .sl Rp.byte [0] b), (2, kI n), (7, .own Rp.byte 5 11 [] rv2.1), (8, .own Rp.byte 5 12 [] rv2.2.1), (9, k8 rv2.2.2), (10, .own (Rp.int .i64) 3 13 [] rv3.1), (11, kI rv3.2), (33, kB (rv3.2 != 0))], []⟩ (by kernel_rfl) ?_
 rcases ite_some h with ⟨hc3, h⟩ | ⟨hc3, h⟩
 ·
  refine ji_condT rfl hc3 ?_
  refine ji_region ⟨[(6, kB (((IntKind.i64.wrap rv2.2.2) == rv3.2) && ((IntKind.i64.wrap ((rv2.1.length : Int) + (rv2.2.1.length : Int))) == 0)))], []⟩ ?_ ?_
  ·
   refine (ro_sp 5 38 ((IntKind.i64.wrap rv2.2.2) == rv3.2) ⟨[(7, .own Rp.byte 5 11 [] rv2.1), (8, .own Rp.byte 5 12 [] rv2.2.1), (38, kB ((IntKind.i64.wrap rv2.2.2) == rv3.2))], []⟩ (by kernel_rfl) rfl (fun hc4 => ?_) (fun hc4 => ?_))
   · exact (ro_zb 6 ((IntKind.i64.wrap ((rv2.1.length : Int) + (rv2.2.1.length : Int))) == 0) (((IntKind.i64.wrap rv2.2.2) == rv3.2) && ((IntKind.i64.wrap ((rv2.1.length : Int) + (rv2.2.1.length : Int))) == 0)) (by rw [hc4] <;> rfl) (by kernel_rfl) (by kernel_rfl))
   exact (ro_zb 6 false (((IntKind.i64.wrap rv2.2.2) == rv3.2) && ((IntKind.i64.wrap ((rv2.1.length : Int) + (rv2.2.1.length : Int))) == 0)) (by rw [hc4] <;> rfl) (by kernel_rfl) (by kernel_rfl))
  obtain rfl := sj h
  exact je_ret (le_z (by kernel_rfl))
 refine ji_condF rfl hc3 ?_
 refine ji_region ⟨[(1, .sl Rp.byte [0] b), (2, kI n), (7, .own Rp.byte 5 11 [] rv2.1), (8, .own Rp.byte 5 12 [] rv2.2.1), (9, k8 rv2.2.2), (10, .own (Rp.int .i64) 3 13 [] rv3.1), (53, kB ((decide (n < 0)) || (decide (n > (rv3.1.length : Int)))))], []⟩ ?_ ?_
 ·
  refine (ro_sp 3 48 (decide (n < 0)) ⟨[(1, .sl Rp.byte [0] b), (2, kI n), (7, .own Rp.byte 5 11 [] rv2.1), (8, .own Rp.byte 5 12 [] rv2.2.1), (9, k8 rv2.2.2), (10, .own (Rp.int .i64) 3 13 [] rv3.1), (48, kB (decide (n < 0)))], []⟩ (by kernel_rfl) rfl (fun hc5 => ?_) (fun hc5 => ?_))
  · exact (ro_zb 53 true ((decide (n < 0)) || (decide (n > (rv3.1.length : Int)))) (by rw [hc5] <;> rfl) (by kernel_rfl) (by kernel_rfl))
  exact (ro_zb 53 (decide (n > (rv3.1.length : Int))) ((decide (n < 0)) || (decide (n > (rv3.1.length : Int)))) (by rw [hc5] <;> rfl) (by kernel_rfl) (by kernel_rfl))
 rcases ite_some h with ⟨hc6, h⟩ | ⟨hc6, h⟩
 ·
  refine ji_condT rfl hc6 ?_
  refine ji_region ⟨[(6, kB (((IntKind.i64.wrap rv2.2.2) == 11) && ((IntKind.i64.wrap ((rv2.1.length : Int) + (rv2.2.1.length : Int))) == 0)))], []⟩ ?_ ?_
  ·
   refine (ro_sp 4 57 ((IntKind.i64.wrap rv2.2.2) == 11) ⟨[(7, .own Rp.byte 5 11 [] rv2.1), (8, .own Rp.byte 5 12 [] rv2.2.1), (57, kB ((IntKind.i64.wrap rv2.2.2) == 11))], []⟩ (by kernel_rfl) rfl (fun hc7 => ?_) (fun hc7 => ?_))
   · exact (ro_zb 6 ((IntKind.i64.wrap ((rv2.1.length : Int) + (rv2.2.1.length : Int))) == 0) (((IntKind.i64.wrap rv2.2.2) == 11) && ((IntKind.i64.wrap ((rv2.1.length : Int) + (rv2.2.1.length : Int))) == 0)) (by rw [hc7] <;> rfl) (by kernel_rfl) (by kernel_rfl))
   exact (ro_zb 6 false (((IntKind.i64.wrap rv2.2.2) == 11) && ((IntKind.i64.wrap ((rv2.1.length : Int) + (rv2.2.1.length : Int))) == 0)) (by rw [hc7] <;> rfl) (by kernel_rfl) (by kernel_rfl))
  obtain rfl := sj h
  exact je_ret (le_z (by kernel_rfl))
 refine ji_condF rfl hc6 ?_
 refine ji_rz ⟨[(1, .sl Rp.byte [0] b), (2, kI n), (7, .own Rp.byte 5 11 [] rv2.1), (8, .own Rp.byte 5 12 [] rv2.2.1), (9, k8 rv2.2.2), (10, .own (Rp.int .i64) 3 13 [] rv3.1), (12, kI 0)], []⟩ (by kernel_rfl) ?_
 refine ji_rz ⟨[(1, .sl Rp.byte [0] b), (2, kI n), (7, .own Rp.byte 5 11 [] rv2.1), (8, .own Rp.byte 5 12 [] rv2.2.1), (9, k8 rv2.2.2), (10, .own (Rp.int .i64) 3 13 [] rv3.1), (12, kI 0), (66, kB (decide (n > 0)))], []⟩ (by kernel_rfl) ?_
 obtain ⟨p, h_p, h⟩ := bnd h
 refine ji_join (R := fun e a w => e = .normal ∧ Sx ⟨⟨89, []⟩, Xt, false, #[]⟩ ⟨[(1, .sl Rp.byte [0] b), (7, .own Rp.byte 5 11 [] rv2.1), (8, .own Rp.byte 5 12 [] rv2.2.1), (9, k8 rv2.2.2), (12, kI p)], []⟩ a w) ?_ ?_
 ·
  replace h := h_p
  refine ji_start ?_
  rcases ite_some h with ⟨hc8, h⟩ | ⟨hc8, h⟩
  ·
   refine ji_condT rfl hc8 ?_
   obtain ⟨x, h_x, h⟩ := bnd h
   refine ji_region ⟨[(1, .sl Rp.byte [0] b), (7, .own Rp.byte 5 11 [] rv2.1), (8, .own Rp.byte 5 12 [] rv2.2.1), (9, k8 rv2.2.2), (12, kI x)], []⟩ (ro_oz 3 [.own (Rp.int .i64) 3 13 [] rv3.1, kI (IntKind.i64.wrap (n - 1))] rfl (lo_ix rfl zet46.el (isSl_own _ _ _ _ _) h_x) rfl (by kernel_rfl)) ?_
   obtain rfl := sj h
   exact je_nil (le_z (by kernel_rfl))
  refine ji_condF rfl hc8 ?_
  obtain rfl := sj h
  exact je_nil (le_z (by kernel_rfl))
 refine k_norm ?_
 obtain ⟨g, h_g, h⟩ := bnd h
 refine ji_region ⟨[(6, kB g)], []⟩ ?_ ?_
 ·
  refine (ro_sp 4 75 ((IntKind.i64.wrap rv2.2.2) == 0) ⟨[(1, .sl Rp.byte [0] b), (7, .own Rp.byte 5 11 [] rv2.1), (8, .own Rp.byte 5 12 [] rv2.2.1), (12, kI p), (75, kB ((IntKind.i64.wrap rv2.2.2) == 0))], []⟩ (by kernel_rfl) rfl (fun hc9 => ?_) (fun hc9 => ?_))
  ·
   replace h_g := iteT h_g hc9
   obtain ⟨v4, h_v4, h_g⟩ := bnd h_g
   obtain ⟨rv4, h_rv4, h_g⟩ := bnd h_g
   refine (ro_o 3 [.sl Rp.byte [0] b, kI p] ⟨[(1, .sl Rp.byte [0] b), (8, .own Rp.byte 5 12 [] rv2.2.1), (12, kI p), (75, kB true), (76, .own Rp.byte 5 11 [] rv2.1), (79, .sl Rp.byte [0] v4)], []⟩ rfl (lo_cut none (some (kI p)) rfl zet22.el (isSl_sl _ _ _) ⟨rfl, rfl⟩ ⟨rfl, rfl⟩ h_v4) rfl (by kernel_rfl) (ro_o 0 [.own Rp.byte 5 11 [] rv2.1, .sl Rp.byte [0] v4] ⟨[(1, .sl Rp.byte [0] b), (8, .own Rp.byte 5 12 [] rv2.2.1), (12, kI p), (75, kB true), (80, kB rv4)], []⟩ rfl (lo_call [.own Rp.byte 5 11 [] rv2.1, .sl Rp.byte [0] v4] [11, 0] 12 rfl Try.call14 (darningref01_Same_ok h_rv4) rfl rfl rfl rfl rfl) rfl (by kernel_rfl) (ro_sp 2 82 rv4 ⟨[(1, .sl Rp.byte [0] b), (8, .own Rp.byte 5 12 [] rv2.2.1), (12, kI p), (82, kB rv4)], []⟩ (by kernel_rfl) rfl (fun hc10 => ?_) (fun hc10 => ?_))))
   ·
    replace h_g := iteT h_g hc10
    obtain ⟨v5, h_v5, h_g⟩ := bnd h_g
    obtain ⟨rv5, h_rv5, h_g⟩ := bnd h_g
    obtain rfl := sj h_g
    exact (ro_o 3 [.sl Rp.byte [0] b, kI p] ⟨[(82, kB true), (83, .own Rp.byte 5 12 [] rv2.2.1), (86, .sl Rp.byte [0] v5)], []⟩ rfl (lo_cut (some (kI p)) none rfl zet22.el (isSl_sl _ _ _) ⟨rfl, rfl⟩ ⟨rfl, rfl⟩ h_v5) rfl (by kernel_rfl) (ro_oz 0 [.own Rp.byte 5 12 [] rv2.2.1, .sl Rp.byte [0] v5] rfl (lo_call [.own Rp.byte 5 12 [] rv2.2.1, .sl Rp.byte [0] v5] [12, 0] 12 rfl Try.call14 (darningref01_Same_ok h_rv5) rfl rfl rfl rfl rfl) rfl (by kernel_rfl)))
   replace h_g := iteF h_g hc10
   obtain rfl := sj h_g
   exact (ro_z (by kernel_rfl))
  replace h_g := iteF h_g hc9
  obtain rfl := sj h_g
  exact (ro_z (by kernel_rfl))
 obtain rfl := sj h
 exact je_ret (le_z (by kernel_rfl))
theorem darninglaw09_RunTogether_ok {k : Int} {av : (List UInt8)} {b : (List UInt8)} {r : Bool} (h : darninglaw09_RunTogether k av b = some r) : FnOk Try.prog 6 [kI k, .sl Rp.byte [0] av, .sl Rp.byte [0] b] [kB r] := by
 refine fn_intro' (E := ⟨[(6, kB r)], []⟩) 99 Try.func6 rfl rfl rfl ⟨rfl, trivial⟩ (fun Xt => ?_)
 refine ji_start ?_
 refine ji_le (E' := ⟨[(0, kI k), (1, .sl Rp.byte [0] av), (2, .sl Rp.byte [0] b)], []⟩) (fun _ _ _ hs => hs) ?_
 unfold darninglaw09_RunTogether at h
 refine ji_rz ⟨[(0, kI k), (1, .sl Rp.byte [0] av), (2, .sl Rp.byte [0] b)], []⟩ (by kernel_rfl) ?_
 obtain ⟨rv, h_rv, h⟩ := bnd h
 refine ji_region ⟨[(0, kI k), (1, .sl Rp.byte [0] av), (2, .sl Rp.byte [0] b), (18, kB (!rv))], []⟩ (ro_oz 0 [] rfl (lo_call [] [1] 9 rfl Try.call7 (darninglaw09_alive_ok h_rv) rfl rfl rfl rfl rfl) rfl (by kernel_rfl)) ?_
 rcases ite_some h with ⟨hc1, h⟩ | ⟨hc1, h⟩
 ·
  refine ji_condT rfl hc1 ?_
  refine ji_rz ⟨[(6, kB false)], []⟩ (by kernel_rfl) ?_
  obtain rfl := sj h
  exact je_ret (le_z (by kernel_rfl))
 refine ji_condF rfl hc1 ?_
 refine ji_rz ⟨[(0, kI k), (1, .sl Rp.byte [0] av), (2, .sl Rp.byte [0] b), (24, kB (decide ((IntKind.i64.wrap ((av.length : Int) + (b.length : Int))) > 2000)))], []⟩ (by kernel_rfl) ?_
 rcases ite_some h with ⟨hc2, h⟩ | ⟨hc2, h⟩
 ·
  refine ji_condT rfl hc2 ?_
  refine ji_rz ⟨[(6, kB true)], []⟩ (by kernel_rfl) ?_
  obtain rfl := sj h
  exact je_ret (le_z (by kernel_rfl))
 refine ji_condF rfl hc2 ?_
 obtain ⟨rv2, h_rv2, h⟩ := bnd h
 refine ji_region ⟨[(0, kI k), (1, .sl Rp.byte [0] av), (2, .sl Rp.byte [0] b), (7, .own (Rp.int .u64) 32 12 [] rv2.1), (8, k8 rv2.2)], []⟩ (ro_oz 2 [kI k, .sl Rp.byte [0] av] rfl (lo_call [kI k, .sl Rp.byte [0] av] [0] 9 rfl Try.call8 (run_Words_ok h_rv2) rfl rfl rfl rfl rfl) rfl (by kernel_rfl)) ?_
 obtain ⟨rv3, h_rv3, h⟩ := bnd h
 refine ji_region ⟨[(0, kI k), (1, .sl Rp.byte [0] av), (2, .sl Rp.byte [0] b), (7, .own (Rp.int .u64) 32 12 [] rv2.1), (8, k8 rv2.2), (9, .own (Rp.int .u64) 32 14 [] rv3.1), (10, k8 rv3.2)], []⟩ (ro_oz 2 [kI k, .sl Rp.byte [0] b] rfl (lo_call [kI k, .sl Rp.byte [0] b] [0] 11 rfl Try.call8 (run_Words_ok h_rv3) rfl rfl rfl rfl rfl) rfl (by kernel_rfl)) ?_
 obtain ⟨v, h_v, h⟩ := bnd h
 obtain ⟨v2, h_v2, h⟩ := bnd h
 refine ji_region ⟨[(0, kI k), (1, .sl Rp.byte [0] av), (2, .sl Rp.byte [0] b), (7, .own (Rp.int .u64) 32 12 [] rv2.1), (8, k8 rv2.2), (9, .own (Rp.int .u64) 32 14 [] rv3.1), (10, k8 rv3.2), (11, .own Rp.byte 5 15 [] v2)], []⟩ (ro_o 0 [] ⟨[(0, kI k), (1, .sl Rp.byte [0] av), (2, .sl Rp.byte [0] b), (7, .own (Rp.int .u64) 32 12 [] rv2.1), (8, k8 rv2.2), (9, .own (Rp.int .u64) 32 14 [] rv3.1), (10, k8 rv3.2), (37, .own Rp.byte 5 15 [] ([] : (List UInt8)))], []⟩ rfl (lo_bsl [] 15 [] ([] : (List UInt8)) rfl zet22 rfl rfl rfl rfl) rfl (by kernel_rfl) (ro_o 1 [.own Rp.byte 5 15 [] ([] : (List UInt8)), .sl Rp.byte [0] av] ⟨[(0, kI k), (1, .sl Rp.byte [0] av), (2, .sl Rp.byte [0] b), (7, .own (Rp.int .u64) 32 12 [] rv2.1), (8, k8 rv2.2), (9, .own (Rp.int .u64) 32 14 [] rv3.1), (10, k8 rv3.2), (39, .own Rp.byte 5 15 [] v)], []⟩ rfl (lo_app 15 [] rfl zet22.el rfl (isOwn_own _ _ _ _ _) (isSl_sl _ _ _) h_v (.inl plain_byte) rfl) rfl (by kernel_rfl) (ro_oz 1 [.own Rp.byte 5 15 [] v, .sl Rp.byte [0] b] rfl (lo_app 15 [] rfl zet22.el rfl (isOwn_own _ _ _ _ _) (isSl_sl _ _ _) h_v2 (.inl plain_byte) rfl) rfl (by kernel_rfl)))) ?_
 obtain ⟨rv4, h_rv4, h⟩ := bnd h
 refine ji_region ⟨[(0, kI k), (1, .sl Rp.byte [0] av), (2, .sl Rp.byte [0] b), (7, .own (Rp.int .u64) 32 12 [] rv2.1), (8, k8 rv2.2), (9, .own (Rp.int .u64) 32 14 [] rv3.1), (10, k8 rv3.2), (11, .own Rp.byte 5 15 [] v2), (12, .own (Rp.int .u64) 32 17 [] rv4.1), (13, k8 rv4.2)], []⟩ (ro_oz 2 [kI k, .own Rp.byte 5 15 [] v2] rfl (lo_call [kI k, .own Rp.byte 5 15 [] v2] [15] 14 rfl Try.call8 (run_Words_ok h_rv4) rfl rfl rfl rfl rfl) rfl (by kernel_rfl)) ?_
 refine ji_region ⟨[(0, kI k), (1, .sl Rp.byte [0] av), (2, .sl Rp.byte [0] b), (7, .own (Rp.int .u64) 32 12 [] rv2.1), (8, k8 rv2.2), (9, .own (Rp.int .u64) 32 14 [] rv3.1), (11, .own Rp.byte 5 15 [] v2), (12, .own (Rp.int .u64) 32 17 [] rv4.1), (13, k8 rv4.2), (55, kB (((IntKind.i64.wrap rv2.2) != 0) || ((IntKind.i64.wrap rv3.2) != 0)))], []⟩ ?_ ?_
 ·
  refine (ro_sp 4 51 ((IntKind.i64.wrap rv2.2) != 0) ⟨[(0, kI k), (1, .sl Rp.byte [0] av), (2, .sl Rp.byte [0] b), (7, .own (Rp.int .u64) 32 12 [] rv2.1), (8, k8 rv2.2), (9, .own (Rp.int .u64) 32 14 [] rv3.1), (10, k8 rv3.2), (11, .own Rp.byte 5 15 [] v2), (12, .own (Rp.int .u64) 32 17 [] rv4.1), (13, k8 rv4.2), (51, kB ((IntKind.i64.wrap rv2.2) != 0))], []⟩ (by kernel_rfl) rfl (fun hc3 => ?_) (fun hc3 => ?_))
  · exact (ro_zb 55 true (((IntKind.i64.wrap rv2.2) != 0) || ((IntKind.i64.wrap rv3.2) != 0)) (by rw [hc3] <;> rfl) (by kernel_rfl) (by kernel_rfl))
  exact (ro_zb 55 ((IntKind.i64.wrap rv3.2) != 0) (((IntKind.i64.wrap rv2.2) != 0) || ((IntKind.i64.wrap rv3.2) != 0)) (by rw [hc3] <;> rfl) (by kernel_rfl) (by kernel_rfl))
 rcases ite_some h with ⟨hc4, h⟩ | ⟨hc4, h⟩
 ·
  refine ji_condT rfl hc4 ?_
  refine ji_region ⟨[(6, kB (((IntKind.i64.wrap rv2.2) != 0) || ((IntKind.i64.wrap rv4.2) != 0)))], []⟩ ?_ ?_
  ·
   refine (ro_sp 4 59 ((IntKind.i64.wrap rv2.2) != 0) ⟨[(13, k8 rv4.2), (59, kB ((IntKind.i64.wrap rv2.2) != 0))], []⟩ (by kernel_rfl) rfl (fun hc5 => ?_) (fun hc5 => ?_))
   · exact (ro_zb 6 true (((IntKind.i64.wrap rv2.2) != 0) || ((IntKind.i64.wrap rv4.2) != 0)) (by rw [hc5] <;> rfl) (by kernel_rfl) (by kernel_rfl))
   exact (ro_zb 6 ((IntKind.i64.wrap rv4.2) != 0) (((IntKind.i64.wrap rv2.2) != 0) || ((IntKind.i64.wrap rv4.2) != 0)) (by rw [hc5] <;> rfl) (by kernel_rfl) (by kernel_rfl))
  obtain rfl := sj h
  exact je_ret (le_z (by kernel_rfl))
 refine ji_condF rfl hc4 ?_
 obtain ⟨g, h_g, h⟩ := bnd h
 refine ji_region ⟨[(0, kI k), (1, .sl Rp.byte [0] av), (2, .sl Rp.byte [0] b), (7, .own (Rp.int .u64) 32 12 [] rv2.1), (11, .own Rp.byte 5 15 [] v2), (76, kB g)], []⟩ ?_ ?_
 ·
  refine (ro_sp 4 67 ((IntKind.i64.wrap rv4.2) != 0) ⟨[(0, kI k), (1, .sl Rp.byte [0] av), (2, .sl Rp.byte [0] b), (7, .own (Rp.int .u64) 32 12 [] rv2.1), (9, .own (Rp.int .u64) 32 14 [] rv3.1), (11, .own Rp.byte 5 15 [] v2), (12, .own (Rp.int .u64) 32 17 [] rv4.1), (67, kB ((IntKind.i64.wrap rv4.2) != 0))], []⟩ (by kernel_rfl) rfl (fun hc6 => ?_) (fun hc6 => ?_))
  ·
   replace h_g := iteT h_g hc6
   obtain rfl := sj h_g
   exact (ro_z (by kernel_rfl))
  replace h_g := iteF h_g hc6
  obtain ⟨v5, h_v5, h_g⟩ := bnd h_g
  obtain ⟨v6, h_v6, h_g⟩ := bnd h_g
  obtain ⟨rv5, h_rv5, h_g⟩ := bnd h_g
  obtain rfl := sj h_g
  exact (ro_o 1 [] ⟨[(0, kI k), (1, .sl Rp.byte [0] av), (2, .sl Rp.byte [0] b), (7, .own (Rp.int .u64) 32 12 [] rv2.1), (9, .own (Rp.int .u64) 32 14 [] rv3.1), (11, .own Rp.byte 5 15 [] v2), (67, kB false), (68, .own (Rp.int .u64) 32 17 [] rv4.1), (69, .own (Rp.int .u64) 32 18 [] ([] : (List Int)))], []⟩ rfl (lo_bsl [] 18 [] ([] : (List Int)) rfl zet24 rfl rfl rfl rfl) rfl (by kernel_rfl) (ro_o 1 [.own (Rp.int .u64) 32 18 [] ([] : (List Int)), .own (Rp.int .u64) 32 12 [] rv2.1] ⟨[(0, kI k), (1, .sl Rp.byte [0] av), (2, .sl Rp.byte [0] b), (7, .own (Rp.int .u64) 32 12 [] rv2.1), (9, .own (Rp.int .u64) 32 14 [] rv3.1), (11, .own Rp.byte 5 15 [] v2), (67, kB false), (68, .own (Rp.int .u64) 32 17 [] rv4.1), (71, .own (Rp.int .u64) 32 18 [] v5)], []⟩ rfl (lo_app 18 [] rfl zet24.el rfl (isOwn_own _ _ _ _ _) (isSl_own _ _ _ _ _) h_v5 (.inl (plain_int _)) rfl) rfl (by kernel_rfl) (ro_o 1 [.own (Rp.int .u64) 32 18 [] v5, .own (Rp.int .u64) 32 14 [] rv3.1] ⟨[(0, kI k), (1, .sl Rp.byte [0] av), (2, .sl Rp.byte [0] b), (7, .own (Rp.int .u64) 32 12 [] rv2.1), (11, .own Rp.byte 5 15 [] v2), (67, kB false), (68, .own (Rp.int .u64) 32 17 [] rv4.1), (73, .own (Rp.int .u64) 32 18 [] v6)], []⟩ rfl (lo_app 18 [] rfl zet24.el rfl (isOwn_own _ _ _ _ _) (isSl_own _ _ _ _ _) h_v6 (.inl (plain_int _)) rfl) rfl (by kernel_rfl) (ro_oz 0 [.own (Rp.int .u64) 32 17 [] rv4.1, .own (Rp.int .u64) 32 18 [] v6] rfl (lo_call [.own (Rp.int .u64) 32 17 [] rv4.1, .own (Rp.int .u64) 32 18 [] v6] [17, 18] 17 rfl Try.call12 (darningref02_Same_ok h_rv5) rfl rfl rfl rfl rfl) rfl (by kernel_rfl)))))
 rcases ite_some h with ⟨hc7, h⟩ | ⟨hc7, h⟩
 ·
  refine ji_condT rfl hc7 ?_
  refine ji_rz ⟨[(6, kB false)], []⟩ (by kernel_rfl) ?_
  obtain rfl := sj h
  exact je_ret (le_z (by kernel_rfl))
 refine ji_condF rfl hc7 ?_
 obtain ⟨rv6, h_rv6, h⟩ := bnd h
 refine ji_region ⟨[(1, .sl Rp.byte [0] av), (2, .sl Rp.byte [0] b), (14, .own Rp.byte 5 19 [] rv6.1), (15, .own Rp.byte 5 20 [] rv6.2.1), (16, k8 rv6.2.2)], []⟩ (ro_oz 4 [kI k, .own Rp.byte 5 15 [] v2, kI (rv2.1.length : Int)] rfl (lo_call [kI k, .own Rp.byte 5 15 [] v2, kI (rv2.1.length : Int)] [15] 17 rfl Try.call18 (run_Cut_ok h_rv6) rfl rfl rfl rfl rfl) rfl (by kernel_rfl)) ?_
 obtain ⟨g2, h_g2, h⟩ := bnd h
 refine ji_region ⟨[(6, kB g2)], []⟩ ?_ ?_
 ·
  refine (ro_sp 4 89 ((IntKind.i64.wrap rv6.2.2) == 0) ⟨[(1, .sl Rp.byte [0] av), (2, .sl Rp.byte [0] b), (14, .own Rp.byte 5 19 [] rv6.1), (15, .own Rp.byte 5 20 [] rv6.2.1), (89, kB ((IntKind.i64.wrap rv6.2.2) == 0))], []⟩ (by kernel_rfl) rfl (fun hc8 => ?_) (fun hc8 => ?_))
  ·
   replace h_g2 := iteT h_g2 hc8
   obtain ⟨rv7, h_rv7, h_g2⟩ := bnd h_g2
   refine (ro_o 2 [.own Rp.byte 5 19 [] rv6.1, .sl Rp.byte [0] av] ⟨[(2, .sl Rp.byte [0] b), (15, .own Rp.byte 5 20 [] rv6.2.1), (89, kB true), (92, kB rv7)], []⟩ rfl (lo_call [.own Rp.byte 5 19 [] rv6.1, .sl Rp.byte [0] av] [19, 0] 19 rfl Try.call14 (darningref01_Same_ok h_rv7) rfl rfl rfl rfl rfl) rfl (by kernel_rfl) (ro_sp 2 94 rv7 ⟨[(2, .sl Rp.byte [0] b), (15, .own Rp.byte 5 20 [] rv6.2.1), (94, kB rv7)], []⟩ (by kernel_rfl) rfl (fun hc9 => ?_) (fun hc9 => ?_)))
   ·
    replace h_g2 := iteT h_g2 hc9
    obtain ⟨rv8, h_rv8, h_g2⟩ := bnd h_g2
    obtain rfl := sj h_g2
    exact (ro_oz 2 [.own Rp.byte 5 20 [] rv6.2.1, .sl Rp.byte [0] b] rfl (lo_call [.own Rp.byte 5 20 [] rv6.2.1, .sl Rp.byte [0] b] [20, 0] 19 rfl Try.call14 (darningref01_Same_ok h_rv8) rfl rfl rfl rfl rfl) rfl (by kernel_rfl))
   replace h_g2 := iteF h_g2 hc9
   obtain rfl := sj h_g2
   exact (ro_z (by kernel_rfl))
  replace h_g2 := iteF h_g2 hc8
  obtain rfl := sj h_g2
  exact (ro_z (by kernel_rfl))
 obtain rfl := sj h
 exact je_ret (le_z (by kernel_rfl))
end Go.Proofs.Ythkdneddbbocmaa
