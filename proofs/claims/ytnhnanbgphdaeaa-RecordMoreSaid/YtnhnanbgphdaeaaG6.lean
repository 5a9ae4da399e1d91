/-
  The Go functions do what the plain functions say. No condition.
-/
import Derived.Test.YtnhnanbgphdaeaaG5
namespace Go.Proofs.Ytnhnanbgphdaeaa
open Go Go.RowKit
set_option linter.unusedVariables false
set_option maxRecDepth 100000
theorem darninglaw05_RecordSplits_ok {b : (List UInt8)} {fromv : Int} {r : Bool} (h : darninglaw05_RecordSplits b fromv = some r) : FnOk Try.prog 3 [.sl Rp.byte [0] b, kI fromv] [kB r] := by
 refine fn_intro' (E := ⟨[(4, kB r)], []⟩) 87 Try.func3 rfl rfl rfl ⟨rfl, trivial⟩ (fun w0 F => ?_)
 refine ji_start ?_
 refine ji_le (E' := ⟨[(0, .sl Rp.byte [0] b), (1, kI fromv)], []⟩) (fun _ _ _ hs => hs) ?_
 unfold darninglaw05_RecordSplits at h
 refine ji_rz ⟨[(0, .sl Rp.byte [0] b), (1, kI fromv)], []⟩ (by kernel_rfl) ?_
 obtain ⟨rv, h_rv, h⟩ := bnd h
 refine ji_region ⟨[(0, .sl Rp.byte [0] b), (1, kI fromv), (17, kB (!rv))], []⟩ (ro_oz 0 [] rfl (lo_call [] [1] 9 rfl Try.call7 (darninglaw05_alive_ok h_rv) rfl rfl rfl rfl rfl) rfl (by kernel_rfl)) ?_
 rcases ite_some h with ⟨hc1, h⟩ | ⟨hc1, h⟩
 ·
  refine ji_condT rfl hc1 ?_
  refine ji_rz ⟨[(4, kB false)], []⟩ (by kernel_rfl) ?_
  obtain rfl := sj h
  exact je_ret (le_z (by kernel_rfl))
 refine ji_condF rfl hc1 ?_
 refine ji_rz ⟨[(0, .sl Rp.byte [0] b), (1, kI fromv), (20, kB (decide ((b.length : Int) > 3000)))], []⟩ (by kernel_rfl) ?_
 rcases ite_some h with ⟨hc2, h⟩ | ⟨hc2, h⟩
 ·
  refine ji_condT rfl hc2 ?_
  refine ji_rz ⟨[(4, kB true)], []⟩ (by kernel_rfl) ?_
  obtain rfl := sj h
  exact je_ret (le_z (by kernel_rfl))
 refine ji_condF rfl hc2 ?_
 obtain ⟨rv2, h_rv2, h⟩ := bnd h
 refine ji_region ⟨[(0, .sl Rp.byte [0] b), (1, kI fromv), (5, .ptr 11 0), (6, k8 rv2.2)], [⟨11, 25, [kI rv2.1.Number, kI rv2.1.Wire, kI rv2.1.From, kI rv2.1.At, kI rv2.1.To]⟩]⟩ (ro_o 2 [.sl Rp.byte [0] b, kI fromv] ⟨[(0, .sl Rp.byte [0] b), (1, kI fromv), (24, .tup [.rc R_Number_Wire_From_At_To [] rv2.1, k8 rv2.2])], []⟩ rfl (lo_call [.sl Rp.byte [0] b, kI fromv] [0] 9 rfl Try.call8 (record_Next_ok h_rv2) rfl rfl rfl rfl rfl) rfl (by kernel_rfl) (ro_o 3 [] ⟨[(0, .sl Rp.byte [0] b), (1, kI fromv), (5, .ptr 11 0), (25, .rc R_Number_Wire_From_At_To [] rv2.1), (26, k8 rv2.2)], [⟨11, 25, [kI 0, kI 0, kI 0, kI 0, kI 0]⟩]⟩ rfl (lo_alloc 11 [kI 0, kI 0, kI 0, kI 0, kI 0] rfl Try.zeroValue25 rfl) rfl (by kernel_rfl) (ro_obz 0 [.ptr 11 0, .rc R_Number_Wire_From_At_To [] rv2.1] [⟨11, 25, [kI 0, kI 0, kI 0, kI 0, kI 0]⟩] rfl (lo_str (r := R_Number_Wire_From_At_To) (b := ⟨11, 25, [kI 0, kI 0, kI 0, kI 0, kI 0]⟩) (off := 0) [kI rv2.1.Number, kI rv2.1.Wire, kI rv2.1.From, kI rv2.1.At, kI rv2.1.To] rfl Try.sizeOf25 rfl rfl rfl rfl) rfl rfl (by kernel_rfl)))) ?_
 obtain ⟨rv3, h_rv3, h⟩ := bnd h
 refine ji_region ⟨[(0, .sl Rp.byte [0] b), (5, .ptr 11 0), (6, k8 rv2.2), (7, .ptr 12 0), (8, kI rv3.2)], [⟨11, 25, [kI rv2.1.Number, kI rv2.1.Wire, kI rv2.1.From, kI rv2.1.At, kI rv2.1.To]⟩, ⟨12, 29, [kI rv3.1.Number, kI rv3.1.Wire, kI rv3.1.From, kI rv3.1.At, kI rv3.1.To]⟩]⟩ (ro_o 2 [.sl Rp.byte [0] b, kI fromv] ⟨[(0, .sl Rp.byte [0] b), (5, .ptr 11 0), (6, k8 rv2.2), (30, .tup [.rc R_Number_Wire_From_At_To [] rv3.1, kI rv3.2])], [⟨11, 25, [kI rv2.1.Number, kI rv2.1.Wire, kI rv2.1.From, kI rv2.1.At, kI rv2.1.To]⟩]⟩ rfl (lo_call [.sl Rp.byte [0] b, kI fromv] [0] 10 rfl Try.call9 (darningref05_Next_ok h_rv3) rfl rfl rfl rfl rfl) rfl (by kernel_rfl) (ro_o 3 [] ⟨[(0, .sl Rp.byte [0] b), (5, .ptr 11 0), (6, k8 rv2.2), (7, .ptr 12 0), (31, .rc R_Number_Wire_From_At_To [] rv3.1), (32, kI rv3.2)], [⟨11, 25, [kI rv2.1.Number, kI rv2.1.Wire, kI rv2.1.From, kI rv2.1.At, kI rv2.1.To]⟩, ⟨12, 29, [kI 0, kI 0, kI 0, kI 0, kI 0]⟩]⟩ rfl (lo_alloc 12 [kI 0, kI 0, kI 0, kI 0, kI 0] rfl Try.zeroValue29 rfl) rfl (by kernel_rfl) (ro_obz 0 [.ptr 12 0, .rc R_Number_Wire_From_At_To [] rv3.1] [⟨12, 29, [kI 0, kI 0, kI 0, kI 0, kI 0]⟩] rfl (lo_str (r := R_Number_Wire_From_At_To) (b := ⟨12, 29, [kI 0, kI 0, kI 0, kI 0, kI 0]⟩) (off := 0) [kI rv3.1.Number, kI rv3.1.Wire, kI rv3.1.From, kI rv3.1.At, kI rv3.1.To] rfl Try.sizeOf29 rfl rfl rfl rfl) rfl rfl (by kernel_rfl)))) ?_
 obtain ⟨rv4, h_rv4, h⟩ := bnd h
 refine ji_region ⟨[(0, .sl Rp.byte [0] b), (5, .ptr 11 0), (6, k8 rv2.2), (7, .ptr 12 0), (8, kI rv3.2), (9, .own R_Number_Wire_From_At_To 25 13 [] rv4.1), (10, kI rv4.2.1), (11, k8 rv4.2.2)], [⟨11, 25, [kI rv2.1.Number, kI rv2.1.Wire, kI rv2.1.From, kI rv2.1.At, kI rv2.1.To]⟩, ⟨12, 29, [kI rv3.1.Number, kI rv3.1.Wire, kI rv3.1.From, kI rv3.1.At, kI rv3.1.To]⟩]⟩ (ro_oz 1 [.sl Rp.byte [0] b] rfl (lo_call [.sl Rp.byte [0] b] [0] 11 rfl Try.call10 (record_Split_ok h_rv4) rfl rfl rfl rfl rfl) rfl (by kernel_rfl)) ?_
 obtain ⟨rv5, h_rv5, h⟩ := bnd h
 refine ji_region ⟨[(5, .ptr 11 0), (6, k8 rv2.2), (7, .ptr 12 0), (8, kI rv3.2), (9, .own R_Number_Wire_From_At_To 25 13 [] rv4.1), (10, kI rv4.2.1), (11, k8 rv4.2.2), (12, .own R_Number_Wire_From_At_To 29 14 [] rv5.1), (13, kI rv5.2.1), (14, kI rv5.2.2)], [⟨11, 25, [kI rv2.1.Number, kI rv2.1.Wire, kI rv2.1.From, kI rv2.1.At, kI rv2.1.To]⟩, ⟨12, 29, [kI rv3.1.Number, kI rv3.1.Wire, kI rv3.1.From, kI rv3.1.At, kI rv3.1.To]⟩]⟩ (ro_oz 1 [.sl Rp.byte [0] b] rfl (lo_call [.sl Rp.byte [0] b] [0] 12 rfl Try.call11 (darningref05_Split_ok h_rv5) rfl rfl rfl rfl rfl) rfl (by kernel_rfl)) ?_
 refine ji_region ⟨[(9, .own R_Number_Wire_From_At_To 25 13 [] rv4.1), (12, .own R_Number_Wire_From_At_To 29 14 [] rv5.1), (71, kB ((!(decide (rv2.1 = rv3.1))) || (((IntKind.i64.wrap rv2.2) != rv3.2) || ((rv4.2.1 != rv5.2.1) || (((IntKind.i64.wrap rv4.2.2) != rv5.2.2) || ((rv4.1.length : Int) != (rv5.1.length : Int)))))))], []⟩ ?_ ?_
 ·
  refine (ro_ob 0 [.ptr 11 0] [⟨11, 25, [kI rv2.1.Number, kI rv2.1.Wire, kI rv2.1.From, kI rv2.1.At, kI rv2.1.To]⟩] ⟨[(6, k8 rv2.2), (7, .ptr 12 0), (8, kI rv3.2), (9, .own R_Number_Wire_From_At_To 25 13 [] rv4.1), (10, kI rv4.2.1), (11, k8 rv4.2.2), (12, .own R_Number_Wire_From_At_To 29 14 [] rv5.1), (13, kI rv5.2.1), (14, kI rv5.2.2), (45, .rc R_Number_Wire_From_At_To [] rv2.1)], [⟨12, 29, [kI rv3.1.Number, kI rv3.1.Wire, kI rv3.1.From, kI rv3.1.At, kI rv3.1.To]⟩]⟩ rfl (lo_ldb (r := R_Number_Wire_From_At_To) rv2.1 [] rfl ⟨Try.isAgg25, Try.sizeOf25⟩ rfl rfl) rfl rfl (by kernel_rfl) (ro_ob 0 [.ptr 12 0] [⟨12, 29, [kI rv3.1.Number, kI rv3.1.Wire, kI rv3.1.From, kI rv3.1.At, kI rv3.1.To]⟩] ⟨[(6, k8 rv2.2), (8, kI rv3.2), (9, .own R_Number_Wire_From_At_To 25 13 [] rv4.1), (10, kI rv4.2.1), (11, k8 rv4.2.2), (12, .own R_Number_Wire_From_At_To 29 14 [] rv5.1), (13, kI rv5.2.1), (14, kI rv5.2.2), (45, .rc R_Number_Wire_From_At_To [] rv2.1), (46, .rc R_Number_Wire_From_At_To [] rv3.1)], []⟩ rfl (lo_ldb (r := R_Number_Wire_From_At_To) rv3.1 [] rfl ⟨Try.isAgg29, Try.sizeOf29⟩ rfl rfl) rfl rfl (by kernel_rfl) (ro_o 0 [.rc R_Number_Wire_From_At_To [] rv2.1, .rc R_Number_Wire_From_At_To [] rv3.1] ⟨[(6, k8 rv2.2), (8, kI rv3.2), (9, .own R_Number_Wire_From_At_To 25 13 [] rv4.1), (10, kI rv4.2.1), (11, k8 rv4.2.2), (12, .own R_Number_Wire_From_At_To 29 14 [] rv5.1), (13, kI rv5.2.1), (14, kI rv5.2.2), (47, kB (!(decide (rv2.1 = rv3.1))))], []⟩ rfl (lo_ner rfl Try.eqGuardType29 rfl rfl (eqt29 _ _)) rfl (by kernel_rfl) (ro_sp 1 48 (!(decide (rv2.1 = rv3.1))) ⟨[(6, k8 rv2.2), (8, kI rv3.2), (9, .own R_Number_Wire_From_At_To 25 13 [] rv4.1), (10, kI rv4.2.1), (11, k8 rv4.2.2), (12, .own R_Number_Wire_From_At_To 29 14 [] rv5.1), (13, kI rv5.2.1), (14, kI rv5.2.2), (48, kB (!(decide (rv2.1 = rv3.1))))], []⟩ (by kernel_rfl) rfl (fun hc3 => ?_) (fun hc3 => ?_)))))
  · exact (ro_zb 71 true ((!(decide (rv2.1 = rv3.1))) || (((IntKind.i64.wrap rv2.2) != rv3.2) || ((rv4.2.1 != rv5.2.1) || (((IntKind.i64.wrap rv4.2.2) != rv5.2.2) || ((rv4.1.length : Int) != (rv5.1.length : Int)))))) (by rw [hc3] <;> rfl) (by kernel_rfl) (by kernel_rfl))
  refine (ro_sp 6 54 ((IntKind.i64.wrap rv2.2) != rv3.2) ⟨[(9, .own R_Number_Wire_From_At_To 25 13 [] rv4.1), (10, kI rv4.2.1), (11, k8 rv4.2.2), (12, .own R_Number_Wire_From_At_To 29 14 [] rv5.1), (13, kI rv5.2.1), (14, kI rv5.2.2), (54, kB ((IntKind.i64.wrap rv2.2) != rv3.2))], []⟩ (by kernel_rfl) rfl (fun hc4 => ?_) (fun hc4 => ?_))
  · exact (ro_zb 71 true ((!(decide (rv2.1 = rv3.1))) || (((IntKind.i64.wrap rv2.2) != rv3.2) || ((rv4.2.1 != rv5.2.1) || (((IntKind.i64.wrap rv4.2.2) != rv5.2.2) || ((rv4.1.length : Int) != (rv5.1.length : Int)))))) (by rw [hc3, hc4] <;> rfl) (by kernel_rfl) (by kernel_rfl))
  refine (ro_sp 5 59 (rv4.2.1 != rv5.2.1) ⟨[(9, .own R_Number_Wire_From_At_To 25 13 [] rv4.1), (11, k8 rv4.2.2), (12, .own R_Number_Wire_From_At_To 29 14 [] rv5.1), (14, kI rv5.2.2), (59, kB (rv4.2.1 != rv5.2.1))], []⟩ (by kernel_rfl) rfl (fun hc5 => ?_) (fun hc5 => ?_))
  · exact (ro_zb 71 true ((!(decide (rv2.1 = rv3.1))) || (((IntKind.i64.wrap rv2.2) != rv3.2) || ((rv4.2.1 != rv5.2.1) || (((IntKind.i64.wrap rv4.2.2) != rv5.2.2) || ((rv4.1.length : Int) != (rv5.1.length : Int)))))) (by rw [hc3, hc4, hc5] <;> rfl) (by kernel_rfl) (by kernel_rfl))
  refine (ro_sp 6 65 ((IntKind.i64.wrap rv4.2.2) != rv5.2.2) ⟨[(9, .own R_Number_Wire_From_At_To 25 13 [] rv4.1), (12, .own R_Number_Wire_From_At_To 29 14 [] rv5.1), (65, kB ((IntKind.i64.wrap rv4.2.2) != rv5.2.2))], []⟩ (by kernel_rfl) rfl (fun hc6 => ?_) (fun hc6 => ?_))
  · exact (ro_zb 71 true ((!(decide (rv2.1 = rv3.1))) || (((IntKind.i64.wrap rv2.2) != rv3.2) || ((rv4.2.1 != rv5.2.1) || (((IntKind.i64.wrap rv4.2.2) != rv5.2.2) || ((rv4.1.length : Int) != (rv5.1.length : Int)))))) (by rw [hc3, hc4, hc5, hc6] <;> rfl) (by kernel_rfl) (by kernel_rfl))
  exact (ro_zb 71 ((rv4.1.length : Int) != (rv5.1.length : Int)) ((!(decide (rv2.1 = rv3.1))) || (((IntKind.i64.wrap rv2.2) != rv3.2) || ((rv4.2.1 != rv5.2.1) || (((IntKind.i64.wrap rv4.2.2) != rv5.2.2) || ((rv4.1.length : Int) != (rv5.1.length : Int)))))) (by rw [hc3, hc4, hc5, hc6] <;> rfl) (by kernel_rfl) (by kernel_rfl))
 rcases ite_some h with ⟨hc7, h⟩ | ⟨hc7, h⟩
 ·
  refine ji_condT rfl hc7 ?_
  refine ji_rz ⟨[(4, kB false)], []⟩ (by kernel_rfl) ?_
  obtain rfl := sj h
  exact je_ret (le_z (by kernel_rfl))
 refine ji_condF rfl hc7 ?_
 refine ji_rz ⟨[(9, .own R_Number_Wire_From_At_To 25 13 [] rv4.1), (12, .own R_Number_Wire_From_At_To 29 14 [] rv5.1), (15, kI 0)], []⟩ (by kernel_rfl) ?_
 refine ji_block ?_
 obtain ⟨q, h_q, h⟩ := bnd h
 refine je_loop (fun s : Int => darninglaw05_RecordSplits_b1 rv4 rv5 s) (fun s => ⟨[(9, .own R_Number_Wire_From_At_To 25 13 [] rv4.1), (12, .own R_Number_Wire_From_At_To 29 14 [] rv5.1), (15, kI s)], []⟩) (fun o e a w => match o with | (.inl v_) => e = .exit 0 ∧ Sx ⟨87, w0, F⟩ ⟨[], []⟩ a w | (.inr v_) => e = .ret ∧ Sx ⟨87, w0, F⟩ ⟨[(4, kB false)], []⟩ a w) ?_ h_q (le_z (by kernel_rfl)) ?_
 ·
  clear h
  intro i o h
  refine ji_start ?_
  refine ji_le (E' := ⟨[(9, .own R_Number_Wire_From_At_To 25 13 [] rv4.1), (12, .own R_Number_Wire_From_At_To 29 14 [] rv5.1), (15, kI i)], []⟩) (fun _ _ _ hs => hs) ?_
  replace h : darninglaw05_RecordSplits_b1 rv4 rv5 i = some o := h
  unfold darninglaw05_RecordSplits_b1 at h
  refine ji_rz ⟨[(9, .own R_Number_Wire_From_At_To 25 13 [] rv4.1), (12, .own R_Number_Wire_From_At_To 29 14 [] rv5.1), (15, kI i), (75, kB (decide (i < (rv4.1.length : Int))))], []⟩ (by kernel_rfl) ?_
  rcases ite_some h with ⟨hc8, h⟩ | ⟨hc8, h⟩
  ·
   refine ji_condT rfl hc8 ?_
   refine ji_block ?_
   obtain ⟨x, h_x, h⟩ := bnd h
   obtain ⟨x2, h_x2, h⟩ := bnd h
   refine ji_draw ⟨[(9, .own R_Number_Wire_From_At_To 25 13 [] rv4.1), (12, .own R_Number_Wire_From_At_To 29 14 [] rv5.1), (15, kI i), (86, kB (!(decide (x = x2))))], []⟩ [.ev, .ev, .ex [] [] [] (.ep R_Number_Wire_From_At_To [13] x 0) [], .ex [] [] [] (.rc R_Number_Wire_From_At_To [13] x) [], .ev, .ev, .ex [] [] [] (.ep R_Number_Wire_From_At_To [14] x2 0) [], .ex [] [] [] (.rc R_Number_Wire_From_At_To [14] x2) [], .ex [] [] [] (kB (!(decide (x = x2)))) []] [([(.tmp 78, .own R_Number_Wire_From_At_To 25 13 [] rv4.1), (.tmp 79, kI i)], []), ([(.tmp 80, .ep R_Number_Wire_From_At_To [13] x 0)], []), ([(.tmp 82, .own R_Number_Wire_From_At_To 29 14 [] rv5.1), (.tmp 83, kI i)], []), ([(.tmp 84, .ep R_Number_Wire_From_At_To [14] x2 0)], []), ([(.tmp 81, .rc R_Number_Wire_From_At_To [13] x), (.tmp 85, .rc R_Number_Wire_From_At_To [14] x2)], [])] [9, 12, 15, 86] [] mixed (by kernel_rfl) (by exact (lw_e (lw_e (lw_x (lo_as (lo_ix rfl zet32.el (isSl_own _ _ _ _ _) h_x) rfl) (lw_x (lo_as (lo_ldr rfl ⟨Try.isAgg25, Try.sizeOf25⟩) rfl) (lw_e (lw_e (lw_x (lo_as (lo_ix rfl zet35.el (isSl_own _ _ _ _ _) h_x2) rfl) (lw_x (lo_as (lo_ldr rfl ⟨Try.isAgg29, Try.sizeOf29⟩) rfl) (lw_x (lo_as (lo_ner rfl Try.eqGuardType29 rfl rfl (eqt29 _ _)) rfl) lw_0)))))))))) ?_
   rcases ite_some h with ⟨hc9, h⟩ | ⟨hc9, h⟩
   ·
    refine ji_condT rfl hc9 ?_
    refine ji_rz ⟨[(4, kB false)], []⟩ (by kernel_rfl) ?_
    obtain rfl := sj h
    exact je_ret' (le_z (by kernel_rfl))
   refine ji_condF rfl hc9 ?_
   refine ji_end ?_
   refine ji_rz ⟨[(9, .own R_Number_Wire_From_At_To 25 13 [] rv4.1), (12, .own R_Number_Wire_From_At_To 29 14 [] rv5.1), (15, kI (IntKind.i64.wrap (i + 1)))], []⟩ (by kernel_rfl) ?_
   obtain rfl := sj h
   exact je_nil (le_z (by kernel_rfl))
  refine ji_condF rfl hc8 ?_
  obtain rfl := sj h
  exact je_out' rfl (le_z (by kernel_rfl))
 rcases q with u | u2
 ·
  refine k_exit _ rfl ?_
  refine ji_rz ⟨[(4, kB true)], []⟩ (by kernel_rfl) ?_
  obtain rfl := sj h
  exact je_ret (le_z (by kernel_rfl))
 obtain rfl := sj h
 exact ke_ret (le_z (by kernel_rfl))
theorem darninglaw05_RecordPuts_ok {fuel : Nat} {b : (List UInt8)} {number : Int} {wire : Int} {value : (List UInt8)} {r : Bool} (h : darninglaw05_RecordPuts fuel b number wire value = some r) : FnOk Try.prog 4 [.sl Rp.byte [0] b, kI number, kI wire, .sl Rp.byte [0] value] [kB r] := by
 refine fn_intro' (E := ⟨[(8, kB r)], []⟩) 80 Try.func4 rfl rfl rfl ⟨rfl, trivial⟩ (fun w0 F => ?_)
 refine ji_start ?_
 refine ji_le (E' := ⟨[(0, .sl Rp.byte [0] b), (1, kI number), (2, kI wire), (3, .sl Rp.byte [0] value)], []⟩) (fun _ _ _ hs => hs) ?_
 unfold darninglaw05_RecordPuts at h
 refine ji_rz ⟨[(0, .sl Rp.byte [0] b), (1, kI number), (2, kI wire), (3, .sl Rp.byte [0] value)], []⟩ (by kernel_rfl) ?_
 obtain ⟨rv, h_rv, h⟩ := bnd h
 refine ji_region ⟨[(0, .sl Rp.byte [0] b), (1, kI number), (2, kI wire), (3, .sl Rp.byte [0] value), (14, kB (!rv))], []⟩ (ro_oz 0 [] rfl (lo_call [] [1] 9 rfl Try.call7 (darninglaw05_alive_ok h_rv) rfl rfl rfl rfl rfl) rfl (by kernel_rfl)) ?_
 rcases ite_some h with ⟨hc1, h⟩ | ⟨hc1, h⟩
 ·
  refine ji_condT rfl hc1 ?_
  refine ji_rz ⟨[(8, kB false)], []⟩ (by kernel_rfl) ?_
  obtain rfl := sj h
  exact je_ret (le_z (by kernel_rfl))
 refine ji_condF rfl hc1 ?_
 refine ji_rz ⟨[(0, .sl Rp.byte [0] b), (1, kI number), (2, kI wire), (3, .sl Rp.byte [0] value), (20, kB (decide ((IntKind.i64.wrap ((b.length : Int) + (value.length : Int))) > 3000)))], []⟩ (by kernel_rfl) ?_
 rcases ite_some h with ⟨hc2, h⟩ | ⟨hc2, h⟩
 ·
  refine ji_condT rfl hc2 ?_
  refine ji_rz ⟨[(8, kB true)], []⟩ (by kernel_rfl) ?_
  obtain rfl := sj h
  exact je_ret (le_z (by kernel_rfl))
 refine ji_condF rfl hc2 ?_
 obtain ⟨rv2, h_rv2, h⟩ := bnd h
 refine ji_region ⟨[(0, .sl Rp.byte [0] b), (1, kI number), (2, kI wire), (3, .sl Rp.byte [0] value), (9, .own Rp.byte 5 11 [] rv2.1), (10, k8 rv2.2)], []⟩ (ro_oz 4 [.sl Rp.byte [0] b, kI number, kI wire, .sl Rp.byte [0] value] rfl (lo_call [.sl Rp.byte [0] b, kI number, kI wire, .sl Rp.byte [0] value] [0] 9 rfl Try.call12 (record_Put_ok h_rv2) rfl rfl rfl rfl rfl) rfl (by kernel_rfl)) ?_
 obtain ⟨rv3, h_rv3, h⟩ := bnd h
 refine ji_region ⟨[(0, .sl Rp.byte [0] b), (1, kI number), (2, kI wire), (3, .sl Rp.byte [0] value), (9, .own Rp.byte 5 11 [] rv2.1), (10, k8 rv2.2), (11, .own Rp.byte 5 12 [] rv3)], []⟩ (ro_oz 3 [.sl Rp.byte [0] b, kI number, .sl Rp.byte [0] value] rfl (lo_call [.sl Rp.byte [0] b, kI number, .sl Rp.byte [0] value] [0] 10 rfl Try.call13 (record_Len_ok h_rv3) rfl rfl rfl rfl rfl) rfl (by kernel_rfl)) ?_
 obtain ⟨v, h_v, h⟩ := bnd h
 refine ji_region ⟨[(0, .sl Rp.byte [0] b), (1, kI number), (2, kI wire), (3, .sl Rp.byte [0] value), (9, .own Rp.byte 5 11 [] rv2.1), (10, k8 rv2.2), (11, .own Rp.byte 5 12 [] rv3), (12, .own Rp.byte 5 13 [] v)], []⟩ (ro_o 0 [] ⟨[(0, .sl Rp.byte [0] b), (1, kI number), (2, kI wire), (3, .sl Rp.byte [0] value), (9, .own Rp.byte 5 11 [] rv2.1), (10, k8 rv2.2), (11, .own Rp.byte 5 12 [] rv3), (33, .own Rp.byte 5 13 [] ([] : (List UInt8)))], []⟩ rfl (lo_bsl [] 13 [] ([] : (List UInt8)) rfl zet22 rfl rfl rfl rfl) rfl (by kernel_rfl) (ro_oz 1 [.own Rp.byte 5 13 [] ([] : (List UInt8)), .sl Rp.byte [0] b] rfl (lo_app 13 [] rfl zet22.el rfl (isOwn_own _ _ _ _ _) (isSl_sl _ _ _) h_v (.inl plain_byte) rfl) rfl (by kernel_rfl))) ?_
 obtain ⟨rv4, h_rv4, h⟩ := bnd h
 refine ji_region ⟨[(0, .sl Rp.byte [0] b), (1, kI number), (2, kI wire), (3, .sl Rp.byte [0] value), (9, .own Rp.byte 5 11 [] rv2.1), (10, k8 rv2.2), (11, .own Rp.byte 5 12 [] rv3), (12, .own Rp.byte 5 13 [] v), (37, kB rv4)], []⟩ (ro_oz 1 [kI number, kI 2] rfl (lo_call [kI number, kI 2] [1] 12 rfl Try.call14 (darningref03_Right_ok h_rv4) rfl rfl rfl rfl rfl) rfl (by kernel_rfl)) ?_
 obtain ⟨p, h_p, h⟩ := bnd h
 refine ji_join (R := fun e a w => e = .normal ∧ Sx ⟨80, w0, F⟩ ⟨[(0, .sl Rp.byte [0] b), (1, kI number), (2, kI wire), (3, .sl Rp.byte [0] value), (9, .own Rp.byte 5 11 [] rv2.1), (10, k8 rv2.2), (11, .own Rp.byte 5 12 [] rv3), (12, .own Rp.byte 5 13 [] p)], []⟩ a w) ?_ ?_
 ·
  replace h := h_p
  refine ji_start ?_
  rcases ite_some h with ⟨hc3, h⟩ | ⟨hc3, h⟩
  ·
   refine ji_condT rfl hc3 ?_
   obtain ⟨rv5, h_rv5, h⟩ := bnd h
   obtain ⟨v2, h_v2, h⟩ := bnd h
   refine ji_region ⟨[(0, .sl Rp.byte [0] b), (1, kI number), (2, kI wire), (3, .sl Rp.byte [0] value), (9, .own Rp.byte 5 11 [] rv2.1), (10, k8 rv2.2), (11, .own Rp.byte 5 12 [] rv3), (12, .own Rp.byte 5 13 [] v2)], []⟩ (ro_o 3 [kI number, kI 2, .sl Rp.byte [0] value] ⟨[(0, .sl Rp.byte [0] b), (1, kI number), (2, kI wire), (3, .sl Rp.byte [0] value), (9, .own Rp.byte 5 11 [] rv2.1), (10, k8 rv2.2), (11, .own Rp.byte 5 12 [] rv3), (38, .own Rp.byte 5 13 [] v), (41, .own Rp.byte 5 14 [] rv5)], []⟩ rfl (lo_call [kI number, kI 2, .sl Rp.byte [0] value] [0] 12 rfl Try.call15 (darningref05_Put_ok h_rv5) rfl rfl rfl rfl rfl) rfl (by kernel_rfl) (ro_oz 0 [.own Rp.byte 5 13 [] v, .own Rp.byte 5 14 [] rv5] rfl (lo_app 13 [] rfl zet22.el rfl (isOwn_own _ _ _ _ _) (isSl_own _ _ _ _ _) h_v2 (.inl plain_byte) rfl) rfl (by kernel_rfl))) ?_
   obtain rfl := sj h
   exact je_nil (le_z (by kernel_rfl))
  refine ji_condF rfl hc3 ?_
  obtain rfl := sj h
  exact je_nil (le_z (by kernel_rfl))
 refine k_norm ?_
 obtain ⟨rv6, h_rv6, h⟩ := bnd h
 refine ji_region ⟨[(0, .sl Rp.byte [0] b), (1, kI number), (2, kI wire), (3, .sl Rp.byte [0] value), (9, .own Rp.byte 5 11 [] rv2.1), (10, k8 rv2.2), (46, kB (!rv6))], []⟩ (ro_oz 2 [.own Rp.byte 5 12 [] rv3, .own Rp.byte 5 13 [] p] rfl (lo_call [.own Rp.byte 5 12 [] rv3, .own Rp.byte 5 13 [] p] [12, 13] 13 rfl Try.call16 (darningref01_Same_ok h_rv6) rfl rfl rfl rfl rfl) rfl (by kernel_rfl)) ?_
 rcases ite_some h with ⟨hc4, h⟩ | ⟨hc4, h⟩
 ·
  refine ji_condT rfl hc4 ?_
  refine ji_rz ⟨[(8, kB false)], []⟩ (by kernel_rfl) ?_
  obtain rfl := sj h
  exact je_ret (le_z (by kernel_rfl))
 refine ji_condF rfl hc4 ?_
 obtain ⟨g, h_g, h⟩ := bnd h
 refine ji_region ⟨[(0, .sl Rp.byte [0] b), (1, kI number), (2, kI wire), (3, .sl Rp.byte [0] value), (9, .own Rp.byte 5 11 [] rv2.1), (10, k8 rv2.2), (56, kB g)], []⟩ ?_ ?_
 ·
  obtain ⟨rv7, h_rv7, h_g⟩ := bnd h_g
  refine (ro_o 2 [kI number, kI wire] ⟨[(0, .sl Rp.byte [0] b), (1, kI number), (2, kI wire), (3, .sl Rp.byte [0] value), (9, .own Rp.byte 5 11 [] rv2.1), (10, k8 rv2.2), (49, kB rv7)], []⟩ rfl (lo_call [kI number, kI wire] [1] 13 rfl Try.call14 (darningref03_Right_ok h_rv7) rfl rfl rfl rfl rfl) rfl (by kernel_rfl) (ro_sp 2 51 (!rv7) ⟨[(0, .sl Rp.byte [0] b), (1, kI number), (2, kI wire), (3, .sl Rp.byte [0] value), (9, .own Rp.byte 5 11 [] rv2.1), (10, k8 rv2.2), (51, kB (!rv7))], []⟩ (by kernel_rfl) rfl (fun hc5 => ?_) (fun hc5 => ?_)))
  ·
   replace h_g := iteT h_g hc5
   obtain rfl := sj h_g
   exact (ro_z (by kernel_rfl))
  replace h_g := iteF h_g hc5
  obtain ⟨rv8, h_rv8, h_g⟩ := bnd h_g
  obtain rfl := sj h_g
  exact (ro_oz 2 [kI wire, .sl Rp.byte [0] value] rfl (lo_call [kI wire, .sl Rp.byte [0] value] [0] 13 rfl Try.call17 (darningref05_Fits_ok h_rv8) rfl rfl rfl rfl rfl) rfl (by kernel_rfl))
 rcases ite_some h with ⟨hc6, h⟩ | ⟨hc6, h⟩
 ·
  refine ji_condT rfl hc6 ?_
  refine ji_region ⟨[(8, kB (((IntKind.i64.wrap rv2.2) == 2) && ((rv2.1.length : Int) == 0)))], []⟩ ?_ ?_
  ·
   refine (ro_sp 4 60 ((IntKind.i64.wrap rv2.2) == 2) ⟨[(9, .own Rp.byte 5 11 [] rv2.1), (60, kB ((IntKind.i64.wrap rv2.2) == 2))], []⟩ (by kernel_rfl) rfl (fun hc7 => ?_) (fun hc7 => ?_))
   · exact (ro_zb 8 ((rv2.1.length : Int) == 0) (((IntKind.i64.wrap rv2.2) == 2) && ((rv2.1.length : Int) == 0)) (by rw [hc7] <;> rfl) (by kernel_rfl) (by kernel_rfl))
   exact (ro_zb 8 false (((IntKind.i64.wrap rv2.2) == 2) && ((rv2.1.length : Int) == 0)) (by rw [hc7] <;> rfl) (by kernel_rfl) (by kernel_rfl))
  obtain rfl := sj h
  exact je_ret (le_z (by kernel_rfl))
 refine ji_condF rfl hc6 ?_
 obtain ⟨g2, h_g2, h⟩ := bnd h
 refine ji_region ⟨[(8, kB g2)], []⟩ ?_ ?_
 ·
  refine (ro_sp 4 68 ((IntKind.i64.wrap rv2.2) == 0) ⟨[(0, .sl Rp.byte [0] b), (1, kI number), (2, kI wire), (3, .sl Rp.byte [0] value), (9, .own Rp.byte 5 11 [] rv2.1), (68, kB ((IntKind.i64.wrap rv2.2) == 0))], []⟩ (by kernel_rfl) rfl (fun hc8 => ?_) (fun hc8 => ?_))
  ·
   replace h_g2 := iteT h_g2 hc8
   obtain ⟨v5, h_v5, h_g2⟩ := bnd h_g2
   obtain ⟨rv9, h_rv9, h_g2⟩ := bnd h_g2
   obtain ⟨v6, h_v6, h_g2⟩ := bnd h_g2
   obtain ⟨rv10, h_rv10, h_g2⟩ := bnd h_g2
   obtain rfl := sj h_g2
   exact (ro_o 1 [] ⟨[(0, .sl Rp.byte [0] b), (1, kI number), (2, kI wire), (3, .sl Rp.byte [0] value), (68, kB true), (69, .own Rp.byte 5 11 [] rv2.1), (70, .own Rp.byte 5 15 [] ([] : (List UInt8)))], []⟩ rfl (lo_bsl [] 15 [] ([] : (List UInt8)) rfl zet22 rfl rfl rfl rfl) rfl (by kernel_rfl) (ro_o 1 [.own Rp.byte 5 15 [] ([] : (List UInt8)), .sl Rp.byte [0] b] ⟨[(1, kI number), (2, kI wire), (3, .sl Rp.byte [0] value), (68, kB true), (69, .own Rp.byte 5 11 [] rv2.1), (72, .own Rp.byte 5 15 [] v5)], []⟩ rfl (lo_app 15 [] rfl zet22.el rfl (isOwn_own _ _ _ _ _) (isSl_sl _ _ _) h_v5 (.inl plain_byte) rfl) rfl (by kernel_rfl) (ro_o 3 [kI number, kI wire, .sl Rp.byte [0] value] ⟨[(68, kB true), (69, .own Rp.byte 5 11 [] rv2.1), (72, .own Rp.byte 5 15 [] v5), (76, .own Rp.byte 5 16 [] rv9)], []⟩ rfl (lo_call [kI number, kI wire, .sl Rp.byte [0] value] [0] 14 rfl Try.call15 (darningref05_Put_ok h_rv9) rfl rfl rfl rfl rfl) rfl (by kernel_rfl) (ro_o 0 [.own Rp.byte 5 15 [] v5, .own Rp.byte 5 16 [] rv9] ⟨[(68, kB true), (69, .own Rp.byte 5 11 [] rv2.1), (77, .own Rp.byte 5 15 [] v6)], []⟩ rfl (lo_app 15 [] rfl zet22.el rfl (isOwn_own _ _ _ _ _) (isSl_own _ _ _ _ _) h_v6 (.inl plain_byte) rfl) rfl (by kernel_rfl) (ro_oz 0 [.own Rp.byte 5 11 [] rv2.1, .own Rp.byte 5 15 [] v6] rfl (lo_call [.own Rp.byte 5 11 [] rv2.1, .own Rp.byte 5 15 [] v6] [11, 15] 15 rfl Try.call16 (darningref01_Same_ok h_rv10) rfl rfl rfl rfl rfl) rfl (by kernel_rfl))))))
  replace h_g2 := iteF h_g2 hc8
  obtain rfl := sj h_g2
  exact (ro_z (by kernel_rfl))
 obtain rfl := sj h
 exact je_ret (le_z (by kernel_rfl))
theorem darninglaw05_RecordWhole_ok {b : (List UInt8)} {r : Bool} (h : darninglaw05_RecordWhole b = some r) : FnOk Try.prog 5 [.sl Rp.byte [0] b] [kB r] := by
 refine fn_intro' (E := ⟨[(2, kB r)], []⟩) 142 Try.func5 rfl rfl rfl ⟨rfl, trivial⟩ (fun w0 F => ?_)
 refine ji_start ?_
 refine ji_le (E' := ⟨[(0, .sl Rp.byte [0] b)], []⟩) (fun _ _ _ hs => hs) ?_
 unfold darninglaw05_RecordWhole at h
 refine ji_rz ⟨[(0, .sl Rp.byte [0] b)], []⟩ (by kernel_rfl) ?_
 obtain ⟨rv, h_rv, h⟩ := bnd h
 refine ji_region ⟨[(0, .sl Rp.byte [0] b), (15, kB (!rv))], []⟩ (ro_oz 0 [] rfl (lo_call [] [1] 9 rfl Try.call7 (darninglaw05_alive_ok h_rv) rfl rfl rfl rfl rfl) rfl (by kernel_rfl)) ?_
 rcases ite_some h with ⟨hc1, h⟩ | ⟨hc1, h⟩
 ·
  refine ji_condT rfl hc1 ?_
  refine ji_rz ⟨[(2, kB false)], []⟩ (by kernel_rfl) ?_
  obtain rfl := sj h
  exact je_ret (le_z (by kernel_rfl))
 refine ji_condF rfl hc1 ?_
 refine ji_rz ⟨[(0, .sl Rp.byte [0] b), (18, kB (decide ((b.length : Int) > 3000)))], []⟩ (by kernel_rfl) ?_
 rcases ite_some h with ⟨hc2, h⟩ | ⟨hc2, h⟩
 ·
  refine ji_condT rfl hc2 ?_
  refine ji_rz ⟨[(2, kB true)], []⟩ (by kernel_rfl) ?_
  obtain rfl := sj h
  exact je_ret (le_z (by kernel_rfl))
 refine ji_condF rfl hc2 ?_
 obtain ⟨rv2, h_rv2, h⟩ := bnd h
 refine ji_region ⟨[(0, .sl Rp.byte [0] b), (3, .own R_Number_Wire_From_At_To 25 11 [] rv2.1), (5, k8 rv2.2.2)], []⟩ (ro_oz 1 [.sl Rp.byte [0] b] rfl (lo_call [.sl Rp.byte [0] b] [0] 9 rfl Try.call10 (record_Split_ok h_rv2) rfl rfl rfl rfl rfl) rfl (by kernel_rfl)) ?_
 refine ji_rz ⟨[(0, .sl Rp.byte [0] b), (3, .own R_Number_Wire_From_At_To 25 11 [] rv2.1), (27, kB ((IntKind.i64.wrap rv2.2.2) != 0))], []⟩ (by kernel_rfl) ?_
 rcases ite_some h with ⟨hc3, h⟩ | ⟨hc3, h⟩
 ·
  refine ji_condT rfl hc3 ?_
  refine ji_rz ⟨[(2, kB ((rv2.1.length : Int) == 0))], []⟩ (by kernel_rfl) ?_
  obtain rfl := sj h
  exact je_ret (le_z (by kernel_rfl))
 refine ji_condF rfl hc3 ?_
 refine ji_rz ⟨[(0, .sl Rp.byte [0] b), (3, .own R_Number_Wire_From_At_To 25 11 [] rv2.1), (6, kI 0)], []⟩ (by kernel_rfl) ?_
 refine ji_rz ⟨[(0, .sl Rp.byte [0] b), (3, .own R_Number_Wire_From_At_To 25 11 [] rv2.1), (6, kI 0), (7, kI 0)], []⟩ (by kernel_rfl) ?_
 refine ji_block ?_
 obtain ⟨q, h_q, h⟩ := bnd h
 refine je_loop (fun s : (Int × Int) => darninglaw05_RecordWhole_b1 b rv2 s.1 s.2) (fun s => ⟨[(0, .sl Rp.byte [0] b), (3, .own R_Number_Wire_From_At_To 25 11 [] rv2.1), (6, kI s.1), (7, kI s.2)], []⟩) (fun o e a w => match o with | (.inl v_) => e = .exit 0 ∧ Sx ⟨142, w0, F⟩ ⟨[(0, .sl Rp.byte [0] b), (6, kI v_)], []⟩ a w | (.inr v_) => e = .ret ∧ Sx ⟨142, w0, F⟩ ⟨[(2, kB false)], []⟩ a w) ?_ h_q (le_z (by kernel_rfl)) ?_
 ·
  clear h
  intro s o h
  obtain ⟨atv, i⟩ := s
  refine ji_start ?_
  refine ji_le (E' := ⟨[(0, .sl Rp.byte [0] b), (3, .own R_Number_Wire_From_At_To 25 11 [] rv2.1), (6, kI atv), (7, kI i)], []⟩) (fun _ _ _ hs => hs) ?_
  replace h : darninglaw05_RecordWhole_b1 b rv2 atv i = some o := h
  unfold darninglaw05_RecordWhole_b1 at h
  refine ji_rz ⟨[(0, .sl Rp.byte [0] b), (3, .own R_Number_Wire_From_At_To 25 11 [] rv2.1), (6, kI atv), (7, kI i), (34, kB (decide (i < (rv2.1.length : Int))))], []⟩ (by kernel_rfl) ?_
  rcases ite_some h with ⟨hc4, h⟩ | ⟨hc4, h⟩
  ·
   refine ji_condT rfl hc4 ?_
   refine ji_block ?_
   obtain ⟨x, h_x, h⟩ := bnd h
   refine ji_region ⟨[(0, .sl Rp.byte [0] b), (3, .own R_Number_Wire_From_At_To 25 11 [] rv2.1), (6, kI atv), (7, kI i), (8, .ptr 13 0)], [⟨13, 25, [kI x.Number, kI x.Wire, kI x.From, kI x.At, kI x.To]⟩]⟩ (ro_o 2 [.own R_Number_Wire_From_At_To 25 11 [] rv2.1, kI i] ⟨[(0, .sl Rp.byte [0] b), (3, .own R_Number_Wire_From_At_To 25 11 [] rv2.1), (6, kI atv), (7, kI i), (39, .ep R_Number_Wire_From_At_To [11] x 0)], []⟩ rfl (lo_ix rfl zet32.el (isSl_own _ _ _ _ _) h_x) rfl (by kernel_rfl) (ro_o 0 [.ep R_Number_Wire_From_At_To [11] x 0] ⟨[(0, .sl Rp.byte [0] b), (3, .own R_Number_Wire_From_At_To 25 11 [] rv2.1), (6, kI atv), (7, kI i), (40, .rc R_Number_Wire_From_At_To [11] x)], []⟩ rfl (lo_ldr rfl ⟨Try.isAgg25, Try.sizeOf25⟩) rfl (by kernel_rfl) (ro_o 0 [] ⟨[(0, .sl Rp.byte [0] b), (3, .own R_Number_Wire_From_At_To 25 11 [] rv2.1), (6, kI atv), (7, kI i), (8, .ptr 13 0), (40, .rc R_Number_Wire_From_At_To [11] x)], [⟨13, 25, [kI 0, kI 0, kI 0, kI 0, kI 0]⟩]⟩ rfl (lo_alloc 13 [kI 0, kI 0, kI 0, kI 0, kI 0] rfl Try.zeroValue25 rfl) rfl (by kernel_rfl) (ro_obz 0 [.ptr 13 0, .rc R_Number_Wire_From_At_To [11] x] [⟨13, 25, [kI 0, kI 0, kI 0, kI 0, kI 0]⟩] rfl (lo_str (r := R_Number_Wire_From_At_To) (b := ⟨13, 25, [kI 0, kI 0, kI 0, kI 0, kI 0]⟩) (off := 0) [kI x.Number, kI x.Wire, kI x.From, kI x.At, kI x.To] rfl Try.sizeOf25 rfl rfl rfl rfl) rfl rfl (by kernel_rfl))))) ?_
   refine ji_region ⟨[(0, .sl Rp.byte [0] b), (3, .own R_Number_Wire_From_At_To 25 11 [] rv2.1), (7, kI i), (8, .ptr 13 0), (65, kB ((x.From != atv) || ((decide (x.At ≤ x.From)) || ((decide (x.To < x.At)) || (decide (x.To > (b.length : Int)))))))], [⟨13, 25, [kI x.Number, kI x.Wire, kI x.From, kI x.At, kI x.To]⟩]⟩ ?_ ?_
   ·
    refine (ro_sp 5 45 (x.From != atv) ⟨[(0, .sl Rp.byte [0] b), (3, .own R_Number_Wire_From_At_To 25 11 [] rv2.1), (7, kI i), (8, .ptr 13 0), (45, kB (x.From != atv))], [⟨13, 25, [kI x.Number, kI x.Wire, kI x.From, kI x.At, kI x.To]⟩]⟩ (by kernel_rfl) rfl (fun hc5 => ?_) (fun hc5 => ?_))
    · exact (ro_zb 65 true ((x.From != atv) || ((decide (x.At ≤ x.From)) || ((decide (x.To < x.At)) || (decide (x.To > (b.length : Int)))))) (by rw [hc5] <;> rfl) (by kernel_rfl) (by kernel_rfl))
    refine (ro_sp 7 52 (decide (x.At ≤ x.From)) ⟨[(0, .sl Rp.byte [0] b), (3, .own R_Number_Wire_From_At_To 25 11 [] rv2.1), (7, kI i), (8, .ptr 13 0), (52, kB (decide (x.At ≤ x.From)))], [⟨13, 25, [kI x.Number, kI x.Wire, kI x.From, kI x.At, kI x.To]⟩]⟩ (by kernel_rfl) rfl (fun hc6 => ?_) (fun hc6 => ?_))
    · exact (ro_zb 65 true ((x.From != atv) || ((decide (x.At ≤ x.From)) || ((decide (x.To < x.At)) || (decide (x.To > (b.length : Int)))))) (by rw [hc5, hc6] <;> rfl) (by kernel_rfl) (by kernel_rfl))
    refine (ro_sp 7 59 (decide (x.To < x.At)) ⟨[(0, .sl Rp.byte [0] b), (3, .own R_Number_Wire_From_At_To 25 11 [] rv2.1), (7, kI i), (8, .ptr 13 0), (59, kB (decide (x.To < x.At)))], [⟨13, 25, [kI x.Number, kI x.Wire, kI x.From, kI x.At, kI x.To]⟩]⟩ (by kernel_rfl) rfl (fun hc7 => ?_) (fun hc7 => ?_))
    · exact (ro_zb 65 true ((x.From != atv) || ((decide (x.At ≤ x.From)) || ((decide (x.To < x.At)) || (decide (x.To > (b.length : Int)))))) (by rw [hc5, hc6, hc7] <;> rfl) (by kernel_rfl) (by kernel_rfl))
    exact (ro_zb 65 (decide (x.To > (b.length : Int))) ((x.From != atv) || ((decide (x.At ≤ x.From)) || ((decide (x.To < x.At)) || (decide (x.To > (b.length : Int)))))) (by rw [hc5, hc6, hc7] <;> rfl) (by kernel_rfl) (by kernel_rfl))
   rcases ite_some h with ⟨hc8, h⟩ | ⟨hc8, h⟩
   ·
    refine ji_condT rfl hc8 ?_
    refine ji_rz ⟨[(2, kB false)], []⟩ (by kernel_rfl) ?_
    obtain rfl := sj h
    exact je_ret' (le_z (by kernel_rfl))
   refine ji_condF rfl hc8 ?_
   refine ji_rz ⟨[(0, .sl Rp.byte [0] b), (3, .own R_Number_Wire_From_At_To 25 11 [] rv2.1), (6, kI x.To), (7, kI i), (8, .ptr 13 0)], [⟨13, 25, [kI x.Number, kI x.Wire, kI x.From, kI x.At, kI x.To]⟩]⟩ (by kernel_rfl) ?_
   obtain ⟨rv3, h_rv3, h⟩ := bnd h
   obtain ⟨rv4, h_rv4, h⟩ := bnd h
   refine ji_draw ⟨[(0, .sl Rp.byte [0] b), (3, .own R_Number_Wire_From_At_To 25 11 [] rv2.1), (6, kI x.To), (7, kI i), (8, .ptr 13 0), (9, .own Rp.byte 5 15 [] rv4.1), (10, k8 rv4.2)], [⟨13, 25, [kI x.Number, kI x.Wire, kI x.From, kI x.At, kI x.To]⟩]⟩ [.ev, .ev, .ev, .ev, .ev, .ex [13] [] [] (.rc R_Number_Wire_From_At_To [] x) [], .ex [] [] [14] (.own Rp.byte 5 14 [] rv3) [], .ex [] [] [15] (.tup [.own Rp.byte 5 15 [] rv4.1, k8 rv4.2]) []] [([(.tmp 8, .ptr 13 0)], [⟨13, 25, [kI x.Number, kI x.Wire, kI x.From, kI x.At, kI x.To]⟩]), ([(.func 18, .lf (.val (.func (.func 18) #[] #[]))), (.tmp 73, .sl Rp.byte [0] b), (.tmp 74, .rc R_Number_Wire_From_At_To [] x)], []), ([(.func 12, .lf (.val (.func (.func 12) #[] #[]))), (.const (.slice none 0 0), kN), (.tmp 70, kI x.Number), (.tmp 72, kI x.Wire), (.tmp 75, .own Rp.byte 5 14 [] rv3)], [])] [0, 3, 6, 7, 8, 9, 10] [13] mixed (by kernel_rfl) (by exact (lw_e (lw_e (lw_e (lw_e (lw_e (lw_x (lo_as (lo_ldb (r := R_Number_Wire_From_At_To) x [] rfl ⟨Try.isAgg25, Try.sizeOf25⟩ rfl rfl) rfl) (lw_x (LocalOk.cons _ (lo_as (lo_call (args := [.tmp 73, .tmp 74]) [.sl Rp.byte [0] b, .rc R_Number_Wire_From_At_To [] x] [0] 12 rfl Try.call18 (record_Value_ok h_rv3) rfl rfl rfl rfl rfl) rfl)) (lw_x (LocalOk.cons _ (lo_as (lo_call (args := [.const (.slice none 0 0), .tmp 70, .tmp 72, .tmp 75]) [kN, kI x.Number, kI x.Wire, .own Rp.byte 5 14 [] rv3] [14] 13 rfl Try.call12 (FnOk.le (ins' := [kN, kI x.Number, kI x.Wire, .sl Rp.byte [0] rv3]) (record_Put_ok h_rv4) ⟨le_sl_nil _ _, AV.le_refl _, AV.le_refl _, AV.le_refl _, trivial⟩) rfl rfl rfl rfl rfl) rfl)) lw_0))))))))) ?_
   obtain ⟨rv5, h_rv5, h⟩ := bnd h
   refine ji_region ⟨[(0, .sl Rp.byte [0] b), (3, .own R_Number_Wire_From_At_To 25 11 [] rv2.1), (6, kI x.To), (7, kI i), (8, .ptr 13 0), (9, .own Rp.byte 5 15 [] rv4.1), (10, k8 rv4.2), (11, .own R_Number_Wire_From_At_To 25 16 [] rv5.1), (13, k8 rv5.2.2)], [⟨13, 25, [kI x.Number, kI x.Wire, kI x.From, kI x.At, kI x.To]⟩]⟩ (ro_oz 1 [.own Rp.byte 5 15 [] rv4.1] rfl (lo_call [.own Rp.byte 5 15 [] rv4.1] [15] 14 rfl Try.call10 (record_Split_ok h_rv5) rfl rfl rfl rfl rfl) rfl (by kernel_rfl)) ?_
   obtain ⟨g, h_g, h⟩ := bnd h
   refine ji_join (R := fun e a w => e = .normal ∧ Sx ⟨142, w0, F⟩ ⟨[(0, .sl Rp.byte [0] b), (3, .own R_Number_Wire_From_At_To 25 11 [] rv2.1), (6, kI x.To), (7, kI i), (137, kB g)], []⟩ a w) ?_ (k_norm ?_)
   ·
    refine ji_start ?_
    rcases Bool.eq_false_or_eq_true ((IntKind.i64.wrap rv4.2) != 0) with hc9 | hc9
    ·
     replace h_g := iteT h_g hc9
     obtain rfl := sj h_g
     refine ji_draw ⟨[(0, .sl Rp.byte [0] b), (3, .own R_Number_Wire_From_At_To 25 11 [] rv2.1), (6, kI x.To), (7, kI i), (137, kB true)], []⟩ [.ev, .ev, .ev, .ex [] [] [] (kB true) []] [([(.tmp 87, kB ((IntKind.i64.wrap rv4.2) != 0))], [])] [0, 3, 6, 7, 137] [] mixed (by kernel_rfl) (by exact (lw_e (lw_e (lw_e (lw_x (lo_evb ⟨[(87, kB ((IntKind.i64.wrap rv4.2) != 0))], []⟩ (by kernel_rfl) hc9) lw_0))))) ?_
     exact je_nil (le_z (by kernel_rfl))
    replace h_g := iteF h_g hc9
    rcases Bool.eq_false_or_eq_true ((IntKind.i64.wrap rv5.2.2) != 0) with hc10 | hc10
    ·
     replace h_g := iteT h_g hc10
     obtain rfl := sj h_g
     refine ji_draw ⟨[(0, .sl Rp.byte [0] b), (3, .own R_Number_Wire_From_At_To 25 11 [] rv2.1), (6, kI x.To), (7, kI i), (137, kB true)], []⟩ [.ev, .ev, .ev, .ex [] [] [] (kB false) [], .ev, .ev, .ev, .ev, .ex [] [] [] (kB true) []] [([(.tmp 87, kB ((IntKind.i64.wrap rv4.2) != 0))], []), ([(.tmp 92, kB ((IntKind.i64.wrap rv5.2.2) != 0))], [])] [0, 3, 6, 7, 137] [] mixed (by kernel_rfl) (by exact (lw_e (lw_e (lw_e (lw_x (lo_evb ⟨[(87, kB ((IntKind.i64.wrap rv4.2) != 0))], []⟩ (by kernel_rfl) hc9) (lw_e (lw_e (lw_e (lw_e (lw_x (lo_evb ⟨[(92, kB ((IntKind.i64.wrap rv5.2.2) != 0))], []⟩ (by kernel_rfl) hc10) lw_0)))))))))) ?_
     exact je_nil (le_z (by kernel_rfl))
    replace h_g := iteF h_g hc10
    rcases Bool.eq_false_or_eq_true ((rv5.1.length : Int) != 1) with hc11 | hc11
    ·
     replace h_g := iteT h_g hc11
     obtain rfl := sj h_g
     refine ji_draw ⟨[(0, .sl Rp.byte [0] b), (3, .own R_Number_Wire_From_At_To 25 11 [] rv2.1), (6, kI x.To), (7, kI i), (137, kB true)], []⟩ [.ev, .ev, .ev, .ex [] [] [] (kB false) [], .ev, .ev, .ev, .ev, .ex [] [] [] (kB false) [], .ev, .ev, .ev, .ev, .ex [] [] [] (kB true) []] [([(.tmp 87, kB ((IntKind.i64.wrap rv4.2) != 0))], []), ([(.tmp 92, kB ((IntKind.i64.wrap rv5.2.2) != 0))], []), ([(.tmp 97, kB ((rv5.1.length : Int) != 1))], [])] [0, 3, 6, 7, 137] [] mixed (by kernel_rfl) (by exact (lw_e (lw_e (lw_e (lw_x (lo_evb ⟨[(87, kB ((IntKind.i64.wrap rv4.2) != 0))], []⟩ (by kernel_rfl) hc9) (lw_e (lw_e (lw_e (lw_e (lw_x (lo_evb ⟨[(92, kB ((IntKind.i64.wrap rv5.2.2) != 0))], []⟩ (by kernel_rfl) hc10) (lw_e (lw_e (lw_e (lw_e (lw_x (lo_evb ⟨[(97, kB ((rv5.1.length : Int) != 1))], []⟩ (by kernel_rfl) hc11) lw_0))))))))))))))) ?_
     exact je_nil (le_z (by kernel_rfl))
    replace h_g := iteF h_g hc11
    obtain ⟨x2, h_x2, h_g⟩ := bnd h_g
    rcases Bool.eq_false_or_eq_true (x2.Number != x.Number) with hc12 | hc12
    ·
     replace h_g := iteT h_g hc12
     obtain rfl := sj h_g
     refine ji_draw ⟨[(0, .sl Rp.byte [0] b), (3, .own R_Number_Wire_From_At_To 25 11 [] rv2.1), (6, kI x.To), (7, kI i), (137, kB true)], []⟩ [.ev, .ev, .ev, .ex [] [] [] (kB false) [], .ev, .ev, .ev, .ev, .ex [] [] [] (kB false) [], .ev, .ev, .ev, .ev, .ex [] [] [] (kB false) [], .ev, .ex [] [] [] (.ep R_Number_Wire_From_At_To [16] x2 0) [], .ev, .ev, .ev, .ev, .ev, .ev, .ex [] [] [] (kB true) []] [([(.tmp 87, kB ((IntKind.i64.wrap rv4.2) != 0))], []), ([(.tmp 92, kB ((IntKind.i64.wrap rv5.2.2) != 0))], []), ([(.tmp 97, kB ((rv5.1.length : Int) != 1))], []), ([(.tmp 99, .own R_Number_Wire_From_At_To 25 16 [] rv5.1), (.const (.int .i64 0), kI 0)], []), ([(.tmp 106, kB (x2.Number != x.Number))], [])] [0, 3, 6, 7, 137] [] mixed (by kernel_rfl) (by exact (lw_e (lw_e (lw_e (lw_x (lo_evb ⟨[(87, kB ((IntKind.i64.wrap rv4.2) != 0))], []⟩ (by kernel_rfl) hc9) (lw_e (lw_e (lw_e (lw_e (lw_x (lo_evb ⟨[(92, kB ((IntKind.i64.wrap rv5.2.2) != 0))], []⟩ (by kernel_rfl) hc10) (lw_e (lw_e (lw_e (lw_e (lw_x (lo_evb ⟨[(97, kB ((rv5.1.length : Int) != 1))], []⟩ (by kernel_rfl) hc11) (lw_e (lw_x (lo_as (lo_ix rfl zet32.el (isSl_own _ _ _ _ _) h_x2) rfl) (lw_e (lw_e (lw_e (lw_e (lw_e (lw_e (lw_x (lo_evb ⟨[(106, kB (x2.Number != x.Number))], []⟩ (by kernel_rfl) hc12) lw_0)))))))))))))))))))))))) ?_
     exact je_nil (le_z (by kernel_rfl))
    replace h_g := iteF h_g hc12
    obtain ⟨x3, h_x3, h_g⟩ := bnd h_g
    rcases Bool.eq_false_or_eq_true (x3.Wire != x.Wire) with hc13 | hc13
    ·
     replace h_g := iteT h_g hc13
     obtain rfl := sj h_g
     refine ji_draw ⟨[(0, .sl Rp.byte [0] b), (3, .own R_Number_Wire_From_At_To 25 11 [] rv2.1), (6, kI x.To), (7, kI i), (137, kB true)], []⟩ [.ev, .ev, .ev, .ex [] [] [] (kB false) [], .ev, .ev, .ev, .ev, .ex [] [] [] (kB false) [], .ev, .ev, .ev, .ev, .ex [] [] [] (kB false) [], .ev, .ex [] [] [] (.ep R_Number_Wire_From_At_To [16] x2 0) [], .ev, .ev, .ev, .ev, .ev, .ev, .ex [] [] [] (kB false) [], .ev, .ex [] [] [] (.ep R_Number_Wire_From_At_To [16] x3 0) [], .ev, .ev, .ev, .ev, .ev, .ev, .ex [] [] [] (kB true) []] [([(.tmp 87, kB ((IntKind.i64.wrap rv4.2) != 0))], []), ([(.tmp 92, kB ((IntKind.i64.wrap rv5.2.2) != 0))], []), ([(.tmp 97, kB ((rv5.1.length : Int) != 1))], []), ([(.tmp 99, .own R_Number_Wire_From_At_To 25 16 [] rv5.1), (.const (.int .i64 0), kI 0)], []), ([(.tmp 106, kB (x2.Number != x.Number))], []), ([(.tmp 108, .own R_Number_Wire_From_At_To 25 16 [] rv5.1), (.const (.int .i64 0), kI 0)], []), ([(.tmp 115, kB (x3.Wire != x.Wire))], [])] [0, 3, 6, 7, 137] [] mixed (by kernel_rfl) (by exact (lw_e (lw_e (lw_e (lw_x (lo_evb ⟨[(87, kB ((IntKind.i64.wrap rv4.2) != 0))], []⟩ (by kernel_rfl) hc9) (lw_e (lw_e (lw_e (lw_e (lw_x (lo_evb ⟨[(92, kB ((IntKind.i64.wrap rv5.2.2) != 0))], []⟩ (by kernel_rfl) hc10) (lw_e (lw_e (lw_e (lw_e (lw_x (lo_evb ⟨[(97, kB ((rv5.1.length : Int) != 1))], []⟩ (by kernel_rfl) hc11) (lw_e (lw_x (lo_as (lo_ix rfl zet32.el (isSl_own _ _ _ _ _) h_x2) rfl) (lw_e (lw_e (lw_e (lw_e (lw_e (lw_e (lw_x (lo_evb ⟨[(106, kB (x2.Number != x.Number))], []⟩ (by kernel_rfl) hc12) (lw_e (lw_x (lo_as (lo_ix rfl zet32.el (isSl_own _ _ _ _ _) h_x3) rfl) (lw_e (lw_e (lw_e (lw_e (lw_e (lw_e (lw_x (lo_evb ⟨[(115, kB (x3.Wire != x.Wire))], []⟩ (by kernel_rfl) hc13) lw_0))))))))))))))))))))))))))))))))) ?_
     exact je_nil (le_z (by kernel_rfl))
    replace h_g := iteF h_g hc13
    obtain ⟨x4, h_x4, h_g⟩ := bnd h_g
    obtain ⟨rv6, h_rv6, h_g⟩ := bnd h_g
    obtain ⟨rv7, h_rv7, h_g⟩ := bnd h_g
    obtain ⟨rv8, h_rv8, h_g⟩ := bnd h_g
    rcases Bool.eq_false_or_eq_true (!rv8) with hc14 | hc14
    ·
     replace h_g := iteT h_g hc14
     obtain rfl := sj h_g
     refine ji_draw ⟨[(0, .sl Rp.byte [0] b), (3, .own R_Number_Wire_From_At_To 25 11 [] rv2.1), (6, kI x.To), (7, kI i), (137, kB true)], []⟩ [.ev, .ev, .ev, .ex [] [] [] (kB false) [], .ev, .ev, .ev, .ev, .ex [] [] [] (kB false) [], .ev, .ev, .ev, .ev, .ex [] [] [] (kB false) [], .ev, .ex [] [] [] (.ep R_Number_Wire_From_At_To [16] x2 0) [], .ev, .ev, .ev, .ev, .ev, .ev, .ex [] [] [] (kB false) [], .ev, .ex [] [] [] (.ep R_Number_Wire_From_At_To [16] x3 0) [], .ev, .ev, .ev, .ev, .ev, .ev, .ex [] [] [] (kB false) [], .ev, .ev, .ex [] [] [] (.ep R_Number_Wire_From_At_To [16] x4 0) [], .ex [] [] [] (.rc R_Number_Wire_From_At_To [16] x4) [], .ex [] [] [17] (.own Rp.byte 5 17 [] rv6) [], .ev, .ex [13] [] [] (.rc R_Number_Wire_From_At_To [] x) [], .ex [] [] [18] (.own Rp.byte 5 18 [] rv7) [], .ex [] [] [] (kB rv8) [], .ev, .ev, .ex [] [] [] (kB true) []] [([(.tmp 87, kB ((IntKind.i64.wrap rv4.2) != 0))], []), ([(.tmp 92, kB ((IntKind.i64.wrap rv5.2.2) != 0))], []), ([(.tmp 97, kB ((rv5.1.length : Int) != 1))], []), ([(.tmp 99, .own R_Number_Wire_From_At_To 25 16 [] rv5.1), (.const (.int .i64 0), kI 0)], []), ([(.tmp 106, kB (x2.Number != x.Number))], []), ([(.tmp 108, .own R_Number_Wire_From_At_To 25 16 [] rv5.1), (.const (.int .i64 0), kI 0)], []), ([(.tmp 115, kB (x3.Wire != x.Wire))], []), ([(.tmp 118, .own R_Number_Wire_From_At_To 25 16 [] rv5.1), (.const (.int .i64 0), kI 0)], []), ([(.tmp 119, .ep R_Number_Wire_From_At_To [16] x4 0)], []), ([(.func 18, .lf (.val (.func (.func 18) #[] #[]))), (.tmp 117, .own Rp.byte 5 15 [] rv4.1), (.tmp 120, .rc R_Number_Wire_From_At_To [16] x4)], []), ([(.tmp 8, .ptr 13 0)], [⟨13, 25, [kI x.Number, kI x.Wire, kI x.From, kI x.At, kI x.To]⟩]), ([(.func 18, .lf (.val (.func (.func 18) #[] #[]))), (.tmp 122, .sl Rp.byte [0] b), (.tmp 123, .rc R_Number_Wire_From_At_To [] x)], []), ([(.func 16, .lf (.val (.func (.func 16) #[] #[]))), (.tmp 121, .own Rp.byte 5 17 [] rv6), (.tmp 124, .own Rp.byte 5 18 [] rv7)], []), ([(.tmp 127, kB (!rv8))], [])] [0, 3, 6, 7, 137] [] mixed (by kernel_rfl) (by exact (lw_e (lw_e (lw_e (lw_x (lo_evb ⟨[(87, kB ((IntKind.i64.wrap rv4.2) != 0))], []⟩ (by kernel_rfl) hc9) (lw_e (lw_e (lw_e (lw_e (lw_x (lo_evb ⟨[(92, kB ((IntKind.i64.wrap rv5.2.2) != 0))], []⟩ (by kernel_rfl) hc10) (lw_e (lw_e (lw_e (lw_e (lw_x (lo_evb ⟨[(97, kB ((rv5.1.length : Int) != 1))], []⟩ (by kernel_rfl) hc11) (lw_e (lw_x (lo_as (lo_ix rfl zet32.el (isSl_own _ _ _ _ _) h_x2) rfl) (lw_e (lw_e (lw_e (lw_e (lw_e (lw_e (lw_x (lo_evb ⟨[(106, kB (x2.Number != x.Number))], []⟩ (by kernel_rfl) hc12) (lw_e (lw_x (lo_as (lo_ix rfl zet32.el (isSl_own _ _ _ _ _) h_x3) rfl) (lw_e (lw_e (lw_e (lw_e (lw_e (lw_e (lw_x (lo_evb ⟨[(115, kB (x3.Wire != x.Wire))], []⟩ (by kernel_rfl) hc13) (lw_e (lw_e (lw_x (lo_as (lo_ix rfl zet32.el (isSl_own _ _ _ _ _) h_x4) rfl) (lw_x (lo_as (lo_ldr rfl ⟨Try.isAgg25, Try.sizeOf25⟩) rfl) (lw_x (LocalOk.cons _ (lo_as (lo_call (args := [.tmp 117, .tmp 120]) [.own Rp.byte 5 15 [] rv4.1, .rc R_Number_Wire_From_At_To [16] x4] [15, 16] 15 rfl Try.call18 (record_Value_ok h_rv6) rfl rfl rfl rfl rfl) rfl)) (lw_e (lw_x (lo_as (lo_ldb (r := R_Number_Wire_From_At_To) x [] rfl ⟨Try.isAgg25, Try.sizeOf25⟩ rfl rfl) rfl) (lw_x (LocalOk.cons _ (lo_as (lo_call (args := [.tmp 122, .tmp 123]) [.sl Rp.byte [0] b, .rc R_Number_Wire_From_At_To [] x] [0] 16 rfl Try.call18 (record_Value_ok h_rv7) rfl rfl rfl rfl rfl) rfl)) (lw_x (LocalOk.cons _ (lo_as (lo_call (args := [.tmp 121, .tmp 124]) [.own Rp.byte 5 17 [] rv6, .own Rp.byte 5 18 [] rv7] [17, 18] 17 rfl Try.call16 (darningref01_Same_ok h_rv8) rfl rfl rfl rfl rfl) rfl)) (lw_e (lw_e (lw_x (lo_evb ⟨[(127, kB (!rv8))], []⟩ (by kernel_rfl) hc14) lw_0))))))))))))))))))))))))))))))))))))))))))))) ?_
     exact je_nil (le_z (by kernel_rfl))
    replace h_g := iteF h_g hc14
    obtain rfl := sj h_g
    refine ji_draw ⟨[(0, .sl Rp.byte [0] b), (3, .own R_Number_Wire_From_At_To 25 11 [] rv2.1), (6, kI x.To), (7, kI i), (137, kB (decide ((rv4.1.length : Int) > (IntKind.i64.wrap (x.To - x.From)))))], []⟩ [.ev, .ev, .ev, .ex [] [] [] (kB false) [], .ev, .ev, .ev, .ev, .ex [] [] [] (kB false) [], .ev, .ev, .ev, .ev, .ex [] [] [] (kB false) [], .ev, .ex [] [] [] (.ep R_Number_Wire_From_At_To [16] x2 0) [], .ev, .ev, .ev, .ev, .ev, .ev, .ex [] [] [] (kB false) [], .ev, .ex [] [] [] (.ep R_Number_Wire_From_At_To [16] x3 0) [], .ev, .ev, .ev, .ev, .ev, .ev, .ex [] [] [] (kB false) [], .ev, .ev, .ex [] [] [] (.ep R_Number_Wire_From_At_To [16] x4 0) [], .ex [] [] [] (.rc R_Number_Wire_From_At_To [16] x4) [], .ex [] [] [17] (.own Rp.byte 5 17 [] rv6) [], .ev, .ex [13] [] [] (.rc R_Number_Wire_From_At_To [] x) [], .ex [] [] [18] (.own Rp.byte 5 18 [] rv7) [], .ex [] [] [] (kB rv8) [], .ev, .ev, .ex [] [] [] (kB false) []] [([(.tmp 87, kB ((IntKind.i64.wrap rv4.2) != 0))], []), ([(.tmp 92, kB ((IntKind.i64.wrap rv5.2.2) != 0))], []), ([(.tmp 97, kB ((rv5.1.length : Int) != 1))], []), ([(.tmp 99, .own R_Number_Wire_From_At_To 25 16 [] rv5.1), (.const (.int .i64 0), kI 0)], []), ([(.tmp 106, kB (x2.Number != x.Number))], []), ([(.tmp 108, .own R_Number_Wire_From_At_To 25 16 [] rv5.1), (.const (.int .i64 0), kI 0)], []), ([(.tmp 115, kB (x3.Wire != x.Wire))], []), ([(.tmp 118, .own R_Number_Wire_From_At_To 25 16 [] rv5.1), (.const (.int .i64 0), kI 0)], []), ([(.tmp 119, .ep R_Number_Wire_From_At_To [16] x4 0)], []), ([(.func 18, .lf (.val (.func (.func 18) #[] #[]))), (.tmp 117, .own Rp.byte 5 15 [] rv4.1), (.tmp 120, .rc R_Number_Wire_From_At_To [16] x4)], []), ([(.tmp 8, .ptr 13 0)], [⟨13, 25, [kI x.Number, kI x.Wire, kI x.From, kI x.At, kI x.To]⟩]), ([(.func 18, .lf (.val (.func (.func 18) #[] #[]))), (.tmp 122, .sl Rp.byte [0] b), (.tmp 123, .rc R_Number_Wire_From_At_To [] x)], []), ([(.func 16, .lf (.val (.func (.func 16) #[] #[]))), (.tmp 121, .own Rp.byte 5 17 [] rv6), (.tmp 124, .own Rp.byte 5 18 [] rv7)], []), ([(.tmp 127, kB (!rv8))], [])] [0, 3, 6, 7, 137] [] mixed (by kernel_rfl) (by exact (lw_e (lw_e (lw_e (lw_x (lo_evb ⟨[(87, kB ((IntKind.i64.wrap rv4.2) != 0))], []⟩ (by kernel_rfl) hc9) (lw_e (lw_e (lw_e (lw_e (lw_x (lo_evb ⟨[(92, kB ((IntKind.i64.wrap rv5.2.2) != 0))], []⟩ (by kernel_rfl) hc10) (lw_e (lw_e (lw_e (lw_e (lw_x (lo_evb ⟨[(97, kB ((rv5.1.length : Int) != 1))], []⟩ (by kernel_rfl) hc11) (lw_e (lw_x (lo_as (lo_ix rfl zet32.el (isSl_own _ _ _ _ _) h_x2) rfl) (lw_e (lw_e (lw_e (lw_e (lw_e (lw_e (lw_x (lo_evb ⟨[(106, kB (x2.Number != x.Number))], []⟩ (by kernel_rfl) hc12) (lw_e (lw_x (lo_as (lo_ix rfl zet32.el (isSl_own _ _ _ _ _) h_x3) rfl) (lw_e (lw_e (lw_e (lw_e (lw_e (lw_e (lw_x (lo_evb ⟨[(115, kB (x3.Wire != x.Wire))], []⟩ (by kernel_rfl) hc13) (lw_e (lw_e (lw_x (lo_as (lo_ix rfl zet32.el (isSl_own _ _ _ _ _) h_x4) rfl) (lw_x (lo_as (lo_ldr rfl ⟨Try.isAgg25, Try.sizeOf25⟩) rfl) (lw_x (LocalOk.cons _ (lo_as (lo_call (args := [.tmp 117, .tmp 120]) [.own Rp.byte 5 15 [] rv4.1, .rc R_Number_Wire_From_At_To [16] x4] [15, 16] 15 rfl Try.call18 (record_Value_ok h_rv6) rfl rfl rfl rfl rfl) rfl)) (lw_e (lw_x (lo_as (lo_ldb (r := R_Number_Wire_From_At_To) x [] rfl ⟨Try.isAgg25, Try.sizeOf25⟩ rfl rfl) rfl) (lw_x (LocalOk.cons _ (lo_as (lo_call (args := [.tmp 122, .tmp 123]) [.sl Rp.byte [0] b, .rc R_Number_Wire_From_At_To [] x] [0] 16 rfl Try.call18 (record_Value_ok h_rv7) rfl rfl rfl rfl rfl) rfl)) (lw_x (LocalOk.cons _ (lo_as (lo_call (args := [.tmp 121, .tmp 124]) [.own Rp.byte 5 17 [] rv6, .own Rp.byte 5 18 [] rv7] [17, 18] 17 rfl Try.call16 (darningref01_Same_ok h_rv8) rfl rfl rfl rfl rfl) rfl)) (lw_e (lw_e (lw_x (lo_evb ⟨[(127, kB (!rv8))], []⟩ (by kernel_rfl) hc14) lw_0))))))))))))))))))))))))))))))))))))))))))))) ?_
    exact je_nil (le_z (by kernel_rfl))
   rcases ite_some h with ⟨hc15, h⟩ | ⟨hc15, h⟩
   ·
    refine ji_condT rfl hc15 ?_
    refine ji_rz ⟨[(2, kB false)], []⟩ (by kernel_rfl) ?_
    obtain rfl := sj h
    exact je_ret' (le_z (by kernel_rfl))
   refine ji_condF rfl hc15 ?_
   refine ji_end ?_
   refine ji_rz ⟨[(0, .sl Rp.byte [0] b), (3, .own R_Number_Wire_From_At_To 25 11 [] rv2.1), (6, kI x.To), (7, kI (IntKind.i64.wrap (i + 1)))], []⟩ (by kernel_rfl) ?_
   obtain rfl := sj h
   exact je_nil (le_z (by kernel_rfl))
  refine ji_condF rfl hc4 ?_
  obtain rfl := sj h
  exact je_out' rfl (le_z (by kernel_rfl))
 rcases q with u | u2
 ·
  refine k_exit _ rfl ?_
  refine ji_rz ⟨[(2, kB (u == (b.length : Int)))], []⟩ (by kernel_rfl) ?_
  obtain rfl := sj h
  exact je_ret (le_z (by kernel_rfl))
 obtain rfl := sj h
 exact ke_ret (le_z (by kernel_rfl))
theorem darninglaw05_RecordMore_ok {av : (List UInt8)} {b : (List UInt8)} {r : Bool} (h : darninglaw05_RecordMore av b = some r) : FnOk Try.prog 6 [.sl Rp.byte [0] av, .sl Rp.byte [0] b] [kB r] := by
 refine fn_intro' (E := ⟨[(4, kB r)], []⟩) 133 Try.func6 rfl rfl rfl ⟨rfl, trivial⟩ (fun w0 F => ?_)
 refine ji_start ?_
 refine ji_le (E' := ⟨[(0, .sl Rp.byte [0] av), (1, .sl Rp.byte [0] b)], []⟩) (fun _ _ _ hs => hs) ?_
 unfold darninglaw05_RecordMore at h
 refine ji_rz ⟨[(0, .sl Rp.byte [0] av), (1, .sl Rp.byte [0] b)], []⟩ (by kernel_rfl) ?_
 obtain ⟨rv, h_rv, h⟩ := bnd h
 refine ji_region ⟨[(0, .sl Rp.byte [0] av), (1, .sl Rp.byte [0] b), (17, kB (!rv))], []⟩ (ro_oz 0 [] rfl (lo_call [] [1] 9 rfl Try.call7 (darninglaw05_alive_ok h_rv) rfl rfl rfl rfl rfl) rfl (by kernel_rfl)) ?_
 rcases ite_some h with ⟨hc1, h⟩ | ⟨hc1, h⟩
 ·
  refine ji_condT rfl hc1 ?_
  refine ji_rz ⟨[(4, kB false)], []⟩ (by kernel_rfl) ?_
  obtain rfl := sj h
  exact je_ret (le_z (by kernel_rfl))
 refine ji_condF rfl hc1 ?_
 refine ji_rz ⟨[(0, .sl Rp.byte [0] av), (1, .sl Rp.byte [0] b), (23, kB (decide ((IntKind.i64.wrap ((av.length : Int) + (b.length : Int))) > 3000)))], []⟩ (by kernel_rfl) ?_
 rcases ite_some h with ⟨hc2, h⟩ | ⟨hc2, h⟩
 ·
  refine ji_condT rfl hc2 ?_
  refine ji_rz ⟨[(4, kB true)], []⟩ (by kernel_rfl) ?_
  obtain rfl := sj h
  exact je_ret (le_z (by kernel_rfl))
 refine ji_condF rfl hc2 ?_
 obtain ⟨rv2, h_rv2, h⟩ := bnd h
 refine ji_region ⟨[(0, .sl Rp.byte [0] av), (1, .sl Rp.byte [0] b), (5, .own R_Number_Wire_From_At_To 25 11 [] rv2.1), (7, k8 rv2.2.2)], []⟩ (ro_oz 1 [.sl Rp.byte [0] av] rfl (lo_call [.sl Rp.byte [0] av] [0] 9 rfl Try.call10 (record_Split_ok h_rv2) rfl rfl rfl rfl rfl) rfl (by kernel_rfl)) ?_
 obtain ⟨rv3, h_rv3, h⟩ := bnd h
 refine ji_region ⟨[(0, .sl Rp.byte [0] av), (1, .sl Rp.byte [0] b), (5, .own R_Number_Wire_From_At_To 25 11 [] rv2.1), (7, k8 rv2.2.2), (8, .own R_Number_Wire_From_At_To 25 12 [] rv3.1), (9, kI rv3.2.1), (10, k8 rv3.2.2)], []⟩ (ro_oz 1 [.sl Rp.byte [0] b] rfl (lo_call [.sl Rp.byte [0] b] [0] 10 rfl Try.call10 (record_Split_ok h_rv3) rfl rfl rfl rfl rfl) rfl (by kernel_rfl)) ?_
 obtain ⟨v, h_v, h⟩ := bnd h
 obtain ⟨v2, h_v2, h⟩ := bnd h
 obtain ⟨rv4, h_rv4, h⟩ := bnd h
 refine ji_region ⟨[(0, .sl Rp.byte [0] av), (5, .own R_Number_Wire_From_At_To 25 11 [] rv2.1), (7, k8 rv2.2.2), (8, .own R_Number_Wire_From_At_To 25 12 [] rv3.1), (9, kI rv3.2.1), (10, k8 rv3.2.2), (11, .own R_Number_Wire_From_At_To 25 14 [] rv4.1), (12, kI rv4.2.1), (13, k8 rv4.2.2)], []⟩ (ro_o 0 [] ⟨[(0, .sl Rp.byte [0] av), (1, .sl Rp.byte [0] b), (5, .own R_Number_Wire_From_At_To 25 11 [] rv2.1), (7, k8 rv2.2.2), (8, .own R_Number_Wire_From_At_To 25 12 [] rv3.1), (9, kI rv3.2.1), (10, k8 rv3.2.2), (37, .own Rp.byte 5 13 [] ([] : (List UInt8)))], []⟩ rfl (lo_bsl [] 13 [] ([] : (List UInt8)) rfl zet22 rfl rfl rfl rfl) rfl (by kernel_rfl) (ro_o 1 [.own Rp.byte 5 13 [] ([] : (List UInt8)), .sl Rp.byte [0] av] ⟨[(0, .sl Rp.byte [0] av), (1, .sl Rp.byte [0] b), (5, .own R_Number_Wire_From_At_To 25 11 [] rv2.1), (7, k8 rv2.2.2), (8, .own R_Number_Wire_From_At_To 25 12 [] rv3.1), (9, kI rv3.2.1), (10, k8 rv3.2.2), (39, .own Rp.byte 5 13 [] v)], []⟩ rfl (lo_app 13 [] rfl zet22.el rfl (isOwn_own _ _ _ _ _) (isSl_sl _ _ _) h_v (.inl plain_byte) rfl) rfl (by kernel_rfl) (ro_o 1 [.own Rp.byte 5 13 [] v, .sl Rp.byte [0] b] ⟨[(0, .sl Rp.byte [0] av), (5, .own R_Number_Wire_From_At_To 25 11 [] rv2.1), (7, k8 rv2.2.2), (8, .own R_Number_Wire_From_At_To 25 12 [] rv3.1), (9, kI rv3.2.1), (10, k8 rv3.2.2), (41, .own Rp.byte 5 13 [] v2)], []⟩ rfl (lo_app 13 [] rfl zet22.el rfl (isOwn_own _ _ _ _ _) (isSl_sl _ _ _) h_v2 (.inl plain_byte) rfl) rfl (by kernel_rfl) (ro_oz 0 [.own Rp.byte 5 13 [] v2] rfl (lo_call [.own Rp.byte 5 13 [] v2] [13] 12 rfl Try.call10 (record_Split_ok h_rv4) rfl rfl rfl rfl rfl) rfl (by kernel_rfl))))) ?_
 refine ji_rz ⟨[(0, .sl Rp.byte [0] av), (5, .own R_Number_Wire_From_At_To 25 11 [] rv2.1), (8, .own R_Number_Wire_From_At_To 25 12 [] rv3.1), (9, kI rv3.2.1), (10, k8 rv3.2.2), (11, .own R_Number_Wire_From_At_To 25 14 [] rv4.1), (12, kI rv4.2.1), (13, k8 rv4.2.2), (48, kB ((IntKind.i64.wrap rv2.2.2) != 0))], []⟩ (by kernel_rfl) ?_
 rcases ite_some h with ⟨hc3, h⟩ | ⟨hc3, h⟩
 ·
  refine ji_condT rfl hc3 ?_
  refine ji_rz ⟨[(4, kB true)], []⟩ (by kernel_rfl) ?_
  obtain rfl := sj h
  exact je_ret (le_z (by kernel_rfl))
 refine ji_condF rfl hc3 ?_
 refine ji_rz ⟨[(0, .sl Rp.byte [0] av), (5, .own R_Number_Wire_From_At_To 25 11 [] rv2.1), (8, .own R_Number_Wire_From_At_To 25 12 [] rv3.1), (9, kI rv3.2.1), (10, k8 rv3.2.2), (11, .own R_Number_Wire_From_At_To 25 14 [] rv4.1), (12, kI rv4.2.1), (13, k8 rv4.2.2), (51, kB ((IntKind.i64.wrap rv3.2.2) != 0))], []⟩ (by kernel_rfl) ?_
 rcases ite_some h with ⟨hc4, h⟩ | ⟨hc4, h⟩
 ·
  refine ji_condT rfl hc4 ?_
  refine ji_region ⟨[(4, kB ((rv4.2.2 == rv3.2.2) && (rv4.2.1 == (IntKind.i64.wrap ((av.length : Int) + rv3.2.1)))))], []⟩ ?_ ?_
  ·
   refine (ro_sp 4 55 (rv4.2.2 == rv3.2.2) ⟨[(0, .sl Rp.byte [0] av), (9, kI rv3.2.1), (12, kI rv4.2.1), (55, kB (rv4.2.2 == rv3.2.2))], []⟩ (by kernel_rfl) rfl (fun hc5 => ?_) (fun hc5 => ?_))
   · exact (ro_zb 4 (rv4.2.1 == (IntKind.i64.wrap ((av.length : Int) + rv3.2.1))) ((rv4.2.2 == rv3.2.2) && (rv4.2.1 == (IntKind.i64.wrap ((av.length : Int) + rv3.2.1)))) (by rw [hc5] <;> rfl) (by kernel_rfl) (by kernel_rfl))
   exact (ro_zb 4 false ((rv4.2.2 == rv3.2.2) && (rv4.2.1 == (IntKind.i64.wrap ((av.length : Int) + rv3.2.1)))) (by rw [hc5] <;> rfl) (by kernel_rfl) (by kernel_rfl))
  obtain rfl := sj h
  exact je_ret (le_z (by kernel_rfl))
 refine ji_condF rfl hc4 ?_
 refine ji_region ⟨[(0, .sl Rp.byte [0] av), (5, .own R_Number_Wire_From_At_To 25 11 [] rv2.1), (8, .own R_Number_Wire_From_At_To 25 12 [] rv3.1), (11, .own R_Number_Wire_From_At_To 25 14 [] rv4.1), (75, kB (((IntKind.i64.wrap rv4.2.2) != 0) || ((rv4.1.length : Int) != (IntKind.i64.wrap ((rv2.1.length : Int) + (rv3.1.length : Int))))))], []⟩ ?_ ?_
 ·
  refine (ro_sp 4 66 ((IntKind.i64.wrap rv4.2.2) != 0) ⟨[(0, .sl Rp.byte [0] av), (5, .own R_Number_Wire_From_At_To 25 11 [] rv2.1), (8, .own R_Number_Wire_From_At_To 25 12 [] rv3.1), (11, .own R_Number_Wire_From_At_To 25 14 [] rv4.1), (66, kB ((IntKind.i64.wrap rv4.2.2) != 0))], []⟩ (by kernel_rfl) rfl (fun hc6 => ?_) (fun hc6 => ?_))
  · exact (ro_zb 75 true (((IntKind.i64.wrap rv4.2.2) != 0) || ((rv4.1.length : Int) != (IntKind.i64.wrap ((rv2.1.length : Int) + (rv3.1.length : Int))))) (by rw [hc6] <;> rfl) (by kernel_rfl) (by kernel_rfl))
  exact (ro_zb 75 ((rv4.1.length : Int) != (IntKind.i64.wrap ((rv2.1.length : Int) + (rv3.1.length : Int)))) (((IntKind.i64.wrap rv4.2.2) != 0) || ((rv4.1.length : Int) != (IntKind.i64.wrap ((rv2.1.length : Int) + (rv3.1.length : Int))))) (by rw [hc6] <;> rfl) (by kernel_rfl) (by kernel_rfl))
 rcases ite_some h with ⟨hc7, h⟩ | ⟨hc7, h⟩
 ·
  refine ji_condT rfl hc7 ?_
  refine ji_rz ⟨[(4, kB false)], []⟩ (by kernel_rfl) ?_
  obtain rfl := sj h
  exact je_ret (le_z (by kernel_rfl))
 refine ji_condF rfl hc7 ?_
 refine ji_rz ⟨[(0, .sl Rp.byte [0] av), (5, .own R_Number_Wire_From_At_To 25 11 [] rv2.1), (8, .own R_Number_Wire_From_At_To 25 12 [] rv3.1), (11, .own R_Number_Wire_From_At_To 25 14 [] rv4.1), (14, kI 0)], []⟩ (by kernel_rfl) ?_
 refine ji_block ?_
 obtain ⟨q, h_q, h⟩ := bnd h
 refine je_loop (fun s : Int => darninglaw05_RecordMore_b1 av rv2 rv3 rv4 s) (fun s => ⟨[(0, .sl Rp.byte [0] av), (5, .own R_Number_Wire_From_At_To 25 11 [] rv2.1), (8, .own R_Number_Wire_From_At_To 25 12 [] rv3.1), (11, .own R_Number_Wire_From_At_To 25 14 [] rv4.1), (14, kI s)], []⟩) (fun o e a w => match o with | (.inl v_) => e = .exit 0 ∧ Sx ⟨133, w0, F⟩ ⟨[], []⟩ a w | (.inr v_) => e = .ret ∧ Sx ⟨133, w0, F⟩ ⟨[(4, kB false)], []⟩ a w) ?_ h_q (le_z (by kernel_rfl)) ?_
 ·
  clear h
  intro i o h
  refine ji_start ?_
  refine ji_le (E' := ⟨[(0, .sl Rp.byte [0] av), (5, .own R_Number_Wire_From_At_To 25 11 [] rv2.1), (8, .own R_Number_Wire_From_At_To 25 12 [] rv3.1), (11, .own R_Number_Wire_From_At_To 25 14 [] rv4.1), (14, kI i)], []⟩) (fun _ _ _ hs => hs) ?_
  replace h : darninglaw05_RecordMore_b1 av rv2 rv3 rv4 i = some o := h
  unfold darninglaw05_RecordMore_b1 at h
  refine ji_rz ⟨[(0, .sl Rp.byte [0] av), (5, .own R_Number_Wire_From_At_To 25 11 [] rv2.1), (8, .own R_Number_Wire_From_At_To 25 12 [] rv3.1), (11, .own R_Number_Wire_From_At_To 25 14 [] rv4.1), (14, kI i), (79, kB (decide (i < (rv4.1.length : Int))))], []⟩ (by kernel_rfl) ?_
  rcases ite_some h with ⟨hc8, h⟩ | ⟨hc8, h⟩
  ·
   refine ji_condT rfl hc8 ?_
   refine ji_block ?_
   obtain ⟨g, h_g, h⟩ := bnd h
   refine ji_join (R := fun e a w => e = .normal ∧ Sx ⟨133, w0, F⟩ ⟨[(0, .sl Rp.byte [0] av), (5, .own R_Number_Wire_From_At_To 25 11 [] rv2.1), (8, .own R_Number_Wire_From_At_To 25 12 [] rv3.1), (11, .own R_Number_Wire_From_At_To 25 14 [] rv4.1), (14, kI i), (96, kB g)], []⟩ a w) ?_ (k_norm ?_)
   ·
    refine ji_start ?_
    rcases Bool.eq_false_or_eq_true (decide (i < (rv2.1.length : Int))) with hc9 | hc9
    ·
     replace h_g := iteT h_g hc9
     obtain ⟨x, h_x, h_g⟩ := bnd h_g
     obtain ⟨x2, h_x2, h_g⟩ := bnd h_g
     obtain rfl := sj h_g
     refine ji_draw ⟨[(0, .sl Rp.byte [0] av), (5, .own R_Number_Wire_From_At_To 25 11 [] rv2.1), (8, .own R_Number_Wire_From_At_To 25 12 [] rv3.1), (11, .own R_Number_Wire_From_At_To 25 14 [] rv4.1), (14, kI i), (96, kB (!(decide (x = x2))))], []⟩ [.ev, .ev, .ev, .ev, .ex [] [] [] (kB true) [], .ev, .ev, .ex [] [] [] (.ep R_Number_Wire_From_At_To [14] x 0) [], .ex [] [] [] (.rc R_Number_Wire_From_At_To [14] x) [], .ev, .ev, .ex [] [] [] (.ep R_Number_Wire_From_At_To [11] x2 0) [], .ex [] [] [] (.rc R_Number_Wire_From_At_To [11] x2) [], .ex [] [] [] (kB (!(decide (x = x2)))) []] [([(.tmp 85, kB (decide (i < (rv2.1.length : Int))))], []), ([(.tmp 87, .own R_Number_Wire_From_At_To 25 14 [] rv4.1), (.tmp 88, kI i)], []), ([(.tmp 89, .ep R_Number_Wire_From_At_To [14] x 0)], []), ([(.tmp 91, .own R_Number_Wire_From_At_To 25 11 [] rv2.1), (.tmp 92, kI i)], []), ([(.tmp 93, .ep R_Number_Wire_From_At_To [11] x2 0)], []), ([(.tmp 90, .rc R_Number_Wire_From_At_To [14] x), (.tmp 94, .rc R_Number_Wire_From_At_To [11] x2)], [])] [0, 5, 8, 11, 14, 96] [] mixed (by kernel_rfl) (by exact (lw_e (lw_e (lw_e (lw_e (lw_x (lo_evb ⟨[(85, kB (decide (i < (rv2.1.length : Int))))], []⟩ (by kernel_rfl) hc9) (lw_e (lw_e (lw_x (lo_as (lo_ix rfl zet32.el (isSl_own _ _ _ _ _) h_x) rfl) (lw_x (lo_as (lo_ldr rfl ⟨Try.isAgg25, Try.sizeOf25⟩) rfl) (lw_e (lw_e (lw_x (lo_as (lo_ix rfl zet32.el (isSl_own _ _ _ _ _) h_x2) rfl) (lw_x (lo_as (lo_ldr rfl ⟨Try.isAgg25, Try.sizeOf25⟩) rfl) (lw_x (lo_as (lo_ner rfl Try.eqGuardType25 rfl rfl (eqt25 _ _)) rfl) lw_0))))))))))))))) ?_
     exact je_nil (le_z (by kernel_rfl))
    replace h_g := iteF h_g hc9
    obtain rfl := sj h_g
    refine ji_draw ⟨[(0, .sl Rp.byte [0] av), (5, .own R_Number_Wire_From_At_To 25 11 [] rv2.1), (8, .own R_Number_Wire_From_At_To 25 12 [] rv3.1), (11, .own R_Number_Wire_From_At_To 25 14 [] rv4.1), (14, kI i), (96, kB false)], []⟩ [.ev, .ev, .ev, .ev, .ex [] [] [] (kB false) []] [([(.tmp 85, kB (decide (i < (rv2.1.length : Int))))], [])] [0, 5, 8, 11, 14, 96] [] mixed (by kernel_rfl) (by exact (lw_e (lw_e (lw_e (lw_e (lw_x (lo_evb ⟨[(85, kB (decide (i < (rv2.1.length : Int))))], []⟩ (by kernel_rfl) hc9) lw_0)))))) ?_
    exact je_nil (le_z (by kernel_rfl))
   rcases ite_some h with ⟨hc10, h⟩ | ⟨hc10, h⟩
   ·
    refine ji_condT rfl hc10 ?_
    refine ji_rz ⟨[(4, kB false)], []⟩ (by kernel_rfl) ?_
    obtain rfl := sj h
    exact je_ret' (le_z (by kernel_rfl))
   refine ji_condF rfl hc10 ?_
   refine ji_rz ⟨[(0, .sl Rp.byte [0] av), (5, .own R_Number_Wire_From_At_To 25 11 [] rv2.1), (8, .own R_Number_Wire_From_At_To 25 12 [] rv3.1), (11, .own R_Number_Wire_From_At_To 25 14 [] rv4.1), (14, kI i), (100, kB (decide (i < (rv2.1.length : Int))))], []⟩ (by kernel_rfl) ?_
   rcases ite_some h with ⟨hc11, h⟩ | ⟨hc11, h⟩
   ·
    refine ji_condT rfl hc11 ?_
    refine ji_exit _ rfl ?_
    refine ji_rz ⟨[(0, .sl Rp.byte [0] av), (5, .own R_Number_Wire_From_At_To 25 11 [] rv2.1), (8, .own R_Number_Wire_From_At_To 25 12 [] rv3.1), (11, .own R_Number_Wire_From_At_To 25 14 [] rv4.1), (14, kI (IntKind.i64.wrap (i + 1)))], []⟩ (by kernel_rfl) ?_
    obtain rfl := sj h
    exact je_nil (le_z (by kernel_rfl))
   refine ji_condF rfl hc11 ?_
   obtain ⟨x3, h_x3, h⟩ := bnd h
   refine ji_region ⟨[(0, .sl Rp.byte [0] av), (5, .own R_Number_Wire_From_At_To 25 11 [] rv2.1), (8, .own R_Number_Wire_From_At_To 25 12 [] rv3.1), (11, .own R_Number_Wire_From_At_To 25 14 [] rv4.1), (14, kI i), (15, .ptr 16 0)], [⟨16, 25, [kI x3.Number, kI x3.Wire, kI x3.From, kI x3.At, kI x3.To]⟩]⟩ (ro_o 5 [.own R_Number_Wire_From_At_To 25 12 [] rv3.1, kI (IntKind.i64.wrap (i - (rv2.1.length : Int)))] ⟨[(0, .sl Rp.byte [0] av), (5, .own R_Number_Wire_From_At_To 25 11 [] rv2.1), (8, .own R_Number_Wire_From_At_To 25 12 [] rv3.1), (11, .own R_Number_Wire_From_At_To 25 14 [] rv4.1), (14, kI i), (106, .ep R_Number_Wire_From_At_To [12] x3 0)], []⟩ rfl (lo_ix rfl zet32.el (isSl_own _ _ _ _ _) h_x3) rfl (by kernel_rfl) (ro_o 0 [.ep R_Number_Wire_From_At_To [12] x3 0] ⟨[(0, .sl Rp.byte [0] av), (5, .own R_Number_Wire_From_At_To 25 11 [] rv2.1), (8, .own R_Number_Wire_From_At_To 25 12 [] rv3.1), (11, .own R_Number_Wire_From_At_To 25 14 [] rv4.1), (14, kI i), (107, .rc R_Number_Wire_From_At_To [12] x3)], []⟩ rfl (lo_ldr rfl ⟨Try.isAgg25, Try.sizeOf25⟩) rfl (by kernel_rfl) (ro_o 0 [] ⟨[(0, .sl Rp.byte [0] av), (5, .own R_Number_Wire_From_At_To 25 11 [] rv2.1), (8, .own R_Number_Wire_From_At_To 25 12 [] rv3.1), (11, .own R_Number_Wire_From_At_To 25 14 [] rv4.1), (14, kI i), (15, .ptr 16 0), (107, .rc R_Number_Wire_From_At_To [12] x3)], [⟨16, 25, [kI 0, kI 0, kI 0, kI 0, kI 0]⟩]⟩ rfl (lo_alloc 16 [kI 0, kI 0, kI 0, kI 0, kI 0] rfl Try.zeroValue25 rfl) rfl (by kernel_rfl) (ro_obz 0 [.ptr 16 0, .rc R_Number_Wire_From_At_To [12] x3] [⟨16, 25, [kI 0, kI 0, kI 0, kI 0, kI 0]⟩] rfl (lo_str (r := R_Number_Wire_From_At_To) (b := ⟨16, 25, [kI 0, kI 0, kI 0, kI 0, kI 0]⟩) (off := 0) [kI x3.Number, kI x3.Wire, kI x3.From, kI x3.At, kI x3.To] rfl Try.sizeOf25 rfl rfl rfl rfl) rfl rfl (by kernel_rfl))))) ?_
   obtain ⟨x4, h_x4, h⟩ := bnd h
   refine ji_draw ⟨[(0, .sl Rp.byte [0] av), (5, .own R_Number_Wire_From_At_To 25 11 [] rv2.1), (8, .own R_Number_Wire_From_At_To 25 12 [] rv3.1), (11, .own R_Number_Wire_From_At_To 25 14 [] rv4.1), (14, kI i), (132, kB (!(decide (x4 = (⟨x3.Number, x3.Wire, (IntKind.i64.wrap (x3.From + (av.length : Int))), (IntKind.i64.wrap (x3.At + (av.length : Int))), (IntKind.i64.wrap (x3.To + (av.length : Int)))⟩ : T_Number_Wire_From_At_To)))))], []⟩ [.ev, .ev, .ex [] [] [] (.ep R_Number_Wire_From_At_To [14] x4 0) [], .ex [] [] [] (.rc R_Number_Wire_From_At_To [14] x4) [], .ev, .ev, .ev, .ev, .ev, .ev, .ev, .ev, .ev, .ev, .ev, .ev, .ev, .ev, .ev, .ev, .ev, .ev, .ev, .ex [] [] [] (.rc R_Number_Wire_From_At_To [] (⟨x3.Number, x3.Wire, (IntKind.i64.wrap (x3.From + (av.length : Int))), (IntKind.i64.wrap (x3.At + (av.length : Int))), (IntKind.i64.wrap (x3.To + (av.length : Int)))⟩ : T_Number_Wire_From_At_To)) [], .ex [] [] [] (kB (!(decide (x4 = (⟨x3.Number, x3.Wire, (IntKind.i64.wrap (x3.From + (av.length : Int))), (IntKind.i64.wrap (x3.At + (av.length : Int))), (IntKind.i64.wrap (x3.To + (av.length : Int)))⟩ : T_Number_Wire_From_At_To))))) []] [([(.tmp 108, .own R_Number_Wire_From_At_To 25 14 [] rv4.1), (.tmp 109, kI i)], []), ([(.tmp 110, .ep R_Number_Wire_From_At_To [14] x4 0)], []), ([(.tmp 113, kI x3.Number), (.tmp 115, kI x3.Wire), (.tmp 120, kI (IntKind.i64.wrap (x3.From + (av.length : Int)))), (.tmp 125, kI (IntKind.i64.wrap (x3.At + (av.length : Int)))), (.tmp 130, kI (IntKind.i64.wrap (x3.To + (av.length : Int))))], []), ([(.tmp 111, .rc R_Number_Wire_From_At_To [14] x4), (.tmp 131, .rc R_Number_Wire_From_At_To [] (⟨x3.Number, x3.Wire, (IntKind.i64.wrap (x3.From + (av.length : Int))), (IntKind.i64.wrap (x3.At + (av.length : Int))), (IntKind.i64.wrap (x3.To + (av.length : Int)))⟩ : T_Number_Wire_From_At_To))], [])] [0, 5, 8, 11, 14, 132] [] mixed (by kernel_rfl) (by exact (lw_e (lw_e (lw_x (lo_as (lo_ix rfl zet32.el (isSl_own _ _ _ _ _) h_x4) rfl) (lw_x (lo_as (lo_ldr rfl ⟨Try.isAgg25, Try.sizeOf25⟩) rfl) (lw_e (lw_e (lw_e (lw_e (lw_e (lw_e (lw_e (lw_e (lw_e (lw_e (lw_e (lw_e (lw_e (lw_e (lw_e (lw_e (lw_e (lw_e (lw_e (lw_x (lo_as (lo_build (r := R_Number_Wire_From_At_To) [kI x3.Number, kI x3.Wire, kI (IntKind.i64.wrap (x3.From + (av.length : Int))), kI (IntKind.i64.wrap (x3.At + (av.length : Int))), kI (IntKind.i64.wrap (x3.To + (av.length : Int)))] [] (⟨x3.Number, x3.Wire, (IntKind.i64.wrap (x3.From + (av.length : Int))), (IntKind.i64.wrap (x3.At + (av.length : Int))), (IntKind.i64.wrap (x3.To + (av.length : Int)))⟩ : T_Number_Wire_From_At_To) rfl stt25 rfl rfl) rfl) (lw_x (lo_as (lo_ner rfl Try.eqGuardType25 rfl rfl (eqt25 _ _)) rfl) lw_0)))))))))))))))))))))))))) ?_
   rcases ite_some h with ⟨hc12, h⟩ | ⟨hc12, h⟩
   ·
    refine ji_condT rfl hc12 ?_
    refine ji_rz ⟨[(4, kB false)], []⟩ (by kernel_rfl) ?_
    obtain rfl := sj h
    exact je_ret' (le_z (by kernel_rfl))
   refine ji_condF rfl hc12 ?_
   refine ji_end ?_
   refine ji_rz ⟨[(0, .sl Rp.byte [0] av), (5, .own R_Number_Wire_From_At_To 25 11 [] rv2.1), (8, .own R_Number_Wire_From_At_To 25 12 [] rv3.1), (11, .own R_Number_Wire_From_At_To 25 14 [] rv4.1), (14, kI (IntKind.i64.wrap (i + 1)))], []⟩ (by kernel_rfl) ?_
   obtain rfl := sj h
   exact je_nil (le_z (by kernel_rfl))
  refine ji_condF rfl hc8 ?_
  obtain rfl := sj h
  exact je_out' rfl (le_z (by kernel_rfl))
 rcases q with u | u2
 ·
  refine k_exit _ rfl ?_
  refine ji_rz ⟨[(4, kB true)], []⟩ (by kernel_rfl) ?_
  obtain rfl := sj h
  exact je_ret (le_z (by kernel_rfl))
 obtain rfl := sj h
 exact ke_ret (le_z (by kernel_rfl))
end Go.Proofs.Ytnhnanbgphdaeaa
