/-
  The Go functions do what the plain functions say. No condition.
-/
import Derived.Test.YtmggggknpgokbaaG2
namespace Go.Proofs.Ytmggggknpgokbaa
open Go Go.RowKit
set_option linter.unusedVariables false
set_option maxRecDepth 100000
theorem darninglaw03_alive_ok  {r : Bool} (h : darninglaw03_alive = some r) : FnOk Try.prog 6 [] [kB r] := by
 refine fn_intro' (E := ⟨[(0, kB r)], []⟩) 39 Try.func6 rfl rfl rfl ⟨rfl, trivial⟩ (fun w0 F => ?_)
 refine ji_start ?_
 refine ji_le (E' := ⟨[], []⟩) (fun _ _ _ hs => hs) ?_
 unfold darninglaw03_alive at h
 refine ji_rz ⟨[], []⟩ (by kernel_rfl) ?_
 obtain ⟨rv, h_rv, h⟩ := bnd h
 refine ji_region ⟨[(1, .ptr 12 0), (2, kI rv.2.1), (3, k8 rv.2.2)], [⟨12, 25, [kI rv.1.Number, kI rv.1.Wire]⟩]⟩ (ro_o 0 [k8 8] ⟨[(8, .own Rp.byte 5 11 [] ([(8 : UInt8)] : List UInt8))], []⟩ rfl (lo_bsl [.lf (.int .u8 8)] 11 [] [(8 : UInt8)] rfl zet22 rfl rfl rfl rfl) rfl (by kernel_rfl) (ro_o 0 [.own Rp.byte 5 11 [] ([(8 : UInt8)] : List UInt8)] ⟨[(9, .tup [.rc R_Number_Wire [] rv.1, kI rv.2.1, k8 rv.2.2])], []⟩ rfl (lo_call [.own Rp.byte 5 11 [] ([(8 : UInt8)] : List UInt8)] [11] 10 rfl Try.call7 (tag_Read_ok h_rv) rfl rfl rfl rfl rfl) rfl (by kernel_rfl) (ro_o 4 [] ⟨[(1, .ptr 12 0), (10, .rc R_Number_Wire [] rv.1), (11, kI rv.2.1), (12, k8 rv.2.2)], [⟨12, 25, [kI 0, kI 0]⟩]⟩ rfl (lo_alloc 12 [kI 0, kI 0] rfl Try.zeroValue25 rfl) rfl (by kernel_rfl) (ro_obz 0 [.ptr 12 0, .rc R_Number_Wire [] rv.1] [⟨12, 25, [kI 0, kI 0]⟩] rfl (lo_str (r := R_Number_Wire) (b := ⟨12, 25, [kI 0, kI 0]⟩) (off := 0) [kI rv.1.Number, kI rv.1.Wire] rfl Try.sizeOf25 rfl rfl rfl rfl) rfl rfl (by kernel_rfl))))) ?_
 obtain ⟨rv2, h_rv2, h⟩ := bnd h
 refine ji_region ⟨[(1, .ptr 12 0), (2, kI rv.2.1), (3, k8 rv.2.2), (4, .ptr 14 0), (6, k8 rv2.2.2)], [⟨12, 25, [kI rv.1.Number, kI rv.1.Wire]⟩, ⟨14, 25, [kI rv2.1.Number, kI rv2.1.Wire]⟩]⟩ (ro_o 0 [k8 18] ⟨[(1, .ptr 12 0), (2, kI rv.2.1), (3, k8 rv.2.2), (14, .own Rp.byte 5 13 [] ([(18 : UInt8)] : List UInt8))], [⟨12, 25, [kI rv.1.Number, kI rv.1.Wire]⟩]⟩ rfl (lo_bsl [.lf (.int .u8 18)] 13 [] [(18 : UInt8)] rfl zet22 rfl rfl rfl rfl) rfl (by kernel_rfl) (ro_o 0 [.own Rp.byte 5 13 [] ([(18 : UInt8)] : List UInt8)] ⟨[(1, .ptr 12 0), (2, kI rv.2.1), (3, k8 rv.2.2), (15, .tup [.rc R_Number_Wire [] rv2.1, kI rv2.2.1, k8 rv2.2.2])], [⟨12, 25, [kI rv.1.Number, kI rv.1.Wire]⟩]⟩ rfl (lo_call [.own Rp.byte 5 13 [] ([(18 : UInt8)] : List UInt8)] [13] 12 rfl Try.call7 (tag_Read_ok h_rv2) rfl rfl rfl rfl rfl) rfl (by kernel_rfl) (ro_o 4 [] ⟨[(1, .ptr 12 0), (2, kI rv.2.1), (3, k8 rv.2.2), (4, .ptr 14 0), (16, .rc R_Number_Wire [] rv2.1), (17, kI rv2.2.1), (18, k8 rv2.2.2)], [⟨12, 25, [kI rv.1.Number, kI rv.1.Wire]⟩, ⟨14, 25, [kI 0, kI 0]⟩]⟩ rfl (lo_alloc 14 [kI 0, kI 0] rfl Try.zeroValue25 rfl) rfl (by kernel_rfl) (ro_obz 0 [.ptr 14 0, .rc R_Number_Wire [] rv2.1] [⟨14, 25, [kI 0, kI 0]⟩] rfl (lo_str (r := R_Number_Wire) (b := ⟨14, 25, [kI 0, kI 0]⟩) (off := 0) [kI rv2.1.Number, kI rv2.1.Wire] rfl Try.sizeOf25 rfl rfl rfl rfl) rfl rfl (by kernel_rfl))))) ?_
 refine ji_region ⟨[(0, kB ((decide (rv.1 = (⟨1, 0⟩ : T_Number_Wire))) && ((rv.2.1 == 1) && ((decide (rv2.1 = (⟨2, 2⟩ : T_Number_Wire))) && ((IntKind.i64.wrap ((IntKind.i64.wrap rv.2.2) + (IntKind.i64.wrap rv2.2.2))) == 0)))))], []⟩ ?_ ?_
 ·
  refine (ro_ob 0 [.ptr 12 0] [⟨12, 25, [kI rv.1.Number, kI rv.1.Wire]⟩] ⟨[(2, kI rv.2.1), (3, k8 rv.2.2), (4, .ptr 14 0), (6, k8 rv2.2.2), (19, .rc R_Number_Wire [] rv.1)], [⟨14, 25, [kI rv2.1.Number, kI rv2.1.Wire]⟩]⟩ rfl (lo_ldb (r := R_Number_Wire) rv.1 [] rfl ⟨Try.isAgg25, Try.sizeOf25⟩ rfl rfl) rfl rfl (by kernel_rfl) (ro_o 0 [kI 1] ⟨[(2, kI rv.2.1), (3, k8 rv.2.2), (4, .ptr 14 0), (6, k8 rv2.2.2), (19, .rc R_Number_Wire [] rv.1), (20, .rc R_Number_Wire [] (⟨1, 0⟩ : T_Number_Wire))], [⟨14, 25, [kI rv2.1.Number, kI rv2.1.Wire]⟩]⟩ rfl (lo_build (r := R_Number_Wire) [kI 1] [] (⟨1, 0⟩ : T_Number_Wire) rfl stt25 rfl rfl) rfl (by kernel_rfl) (ro_o 0 [.rc R_Number_Wire [] rv.1, .rc R_Number_Wire [] (⟨1, 0⟩ : T_Number_Wire)] ⟨[(2, kI rv.2.1), (3, k8 rv.2.2), (4, .ptr 14 0), (6, k8 rv2.2.2), (21, kB (decide (rv.1 = (⟨1, 0⟩ : T_Number_Wire))))], [⟨14, 25, [kI rv2.1.Number, kI rv2.1.Wire]⟩]⟩ rfl (lo_eqr rfl Try.eqGuardType25 rfl rfl (eqt25 _ _)) rfl (by kernel_rfl) (ro_sp 1 22 (decide (rv.1 = (⟨1, 0⟩ : T_Number_Wire))) ⟨[(2, kI rv.2.1), (3, k8 rv.2.2), (4, .ptr 14 0), (6, k8 rv2.2.2), (22, kB (decide (rv.1 = (⟨1, 0⟩ : T_Number_Wire))))], [⟨14, 25, [kI rv2.1.Number, kI rv2.1.Wire]⟩]⟩ (by kernel_rfl) rfl (fun hc1 => ?_) (fun hc1 => ?_)))))
  ·
   refine (ro_sp 4 26 (rv.2.1 == 1) ⟨[(3, k8 rv.2.2), (4, .ptr 14 0), (6, k8 rv2.2.2), (26, kB (rv.2.1 == 1))], [⟨14, 25, [kI rv2.1.Number, kI rv2.1.Wire]⟩]⟩ (by kernel_rfl) rfl (fun hc2 => ?_) (fun hc2 => ?_))
   ·
    refine (ro_ob 0 [.ptr 14 0] [⟨14, 25, [kI rv2.1.Number, kI rv2.1.Wire]⟩] ⟨[(3, k8 rv.2.2), (6, k8 rv2.2.2), (26, kB true), (27, .rc R_Number_Wire [] rv2.1)], []⟩ rfl (lo_ldb (r := R_Number_Wire) rv2.1 [] rfl ⟨Try.isAgg25, Try.sizeOf25⟩ rfl rfl) rfl rfl (by kernel_rfl) (ro_o 0 [kI 2, kI 2] ⟨[(3, k8 rv.2.2), (6, k8 rv2.2.2), (26, kB true), (27, .rc R_Number_Wire [] rv2.1), (28, .rc R_Number_Wire [] (⟨2, 2⟩ : T_Number_Wire))], []⟩ rfl (lo_build (r := R_Number_Wire) [kI 2, kI 2] [] (⟨2, 2⟩ : T_Number_Wire) rfl stt25 rfl rfl) rfl (by kernel_rfl) (ro_o 0 [.rc R_Number_Wire [] rv2.1, .rc R_Number_Wire [] (⟨2, 2⟩ : T_Number_Wire)] ⟨[(3, k8 rv.2.2), (6, k8 rv2.2.2), (26, kB true), (29, kB (decide (rv2.1 = (⟨2, 2⟩ : T_Number_Wire))))], []⟩ rfl (lo_eqr rfl Try.eqGuardType25 rfl rfl (eqt25 _ _)) rfl (by kernel_rfl) (ro_sp 2 31 (decide (rv2.1 = (⟨2, 2⟩ : T_Number_Wire))) ⟨[(3, k8 rv.2.2), (6, k8 rv2.2.2), (31, kB (decide (rv2.1 = (⟨2, 2⟩ : T_Number_Wire))))], []⟩ (by kernel_rfl) rfl (fun hc3 => ?_) (fun hc3 => ?_)))))
    · exact (ro_zb 0 ((IntKind.i64.wrap ((IntKind.i64.wrap rv.2.2) + (IntKind.i64.wrap rv2.2.2))) == 0) ((decide (rv.1 = (⟨1, 0⟩ : T_Number_Wire))) && ((rv.2.1 == 1) && ((decide (rv2.1 = (⟨2, 2⟩ : T_Number_Wire))) && ((IntKind.i64.wrap ((IntKind.i64.wrap rv.2.2) + (IntKind.i64.wrap rv2.2.2))) == 0)))) (by rw [hc1, hc2, hc3] <;> rfl) (by kernel_rfl) (by kernel_rfl))
    exact (ro_zb 0 false ((decide (rv.1 = (⟨1, 0⟩ : T_Number_Wire))) && ((rv.2.1 == 1) && ((decide (rv2.1 = (⟨2, 2⟩ : T_Number_Wire))) && ((IntKind.i64.wrap ((IntKind.i64.wrap rv.2.2) + (IntKind.i64.wrap rv2.2.2))) == 0)))) (by rw [hc1, hc2, hc3] <;> rfl) (by kernel_rfl) (by kernel_rfl))
   exact (ro_zb 0 false ((decide (rv.1 = (⟨1, 0⟩ : T_Number_Wire))) && ((rv.2.1 == 1) && ((decide (rv2.1 = (⟨2, 2⟩ : T_Number_Wire))) && ((IntKind.i64.wrap ((IntKind.i64.wrap rv.2.2) + (IntKind.i64.wrap rv2.2.2))) == 0)))) (by rw [hc1, hc2] <;> rfl) (by kernel_rfl) (by kernel_rfl))
  exact (ro_zb 0 false ((decide (rv.1 = (⟨1, 0⟩ : T_Number_Wire))) && ((rv.2.1 == 1) && ((decide (rv2.1 = (⟨2, 2⟩ : T_Number_Wire))) && ((IntKind.i64.wrap ((IntKind.i64.wrap rv.2.2) + (IntKind.i64.wrap rv2.2.2))) == 0)))) (by rw [hc1] <;> rfl) (by kernel_rfl) (by kernel_rfl))
 obtain rfl := sj h
 exact je_ret (le_z (by kernel_rfl))
theorem darninglaw03_TagReads_ok {b : (List UInt8)} {r : Bool} (h : darninglaw03_TagReads b = some r) : FnOk Try.prog 3 [.sl Rp.byte [0] b] [kB r] := by
 refine fn_intro' (E := ⟨[(2, kB r)], []⟩) 44 Try.func3 rfl rfl rfl ⟨rfl, trivial⟩ (fun w0 F => ?_)
 refine ji_start ?_
 refine ji_le (E' := ⟨[(0, .sl Rp.byte [0] b)], []⟩) (fun _ _ _ hs => hs) ?_
 unfold darninglaw03_TagReads at h
 refine ji_rz ⟨[(0, .sl Rp.byte [0] b)], []⟩ (by kernel_rfl) ?_
 obtain ⟨rv, h_rv, h⟩ := bnd h
 refine ji_region ⟨[(0, .sl Rp.byte [0] b), (11, kB (!rv))], []⟩ (ro_oz 0 [] rfl (lo_call [] [1] 9 rfl Try.call6 (darninglaw03_alive_ok h_rv) rfl rfl rfl rfl rfl) rfl (by kernel_rfl)) ?_
 rcases ite_some h with ⟨hc1, h⟩ | ⟨hc1, h⟩
 ·
  refine ji_condT rfl hc1 ?_
  refine ji_rz ⟨[(2, kB false)], []⟩ (by kernel_rfl) ?_
  obtain rfl := sj h
  exact je_ret (le_z (by kernel_rfl))
 refine ji_condF rfl hc1 ?_
 refine ji_rz ⟨[(0, .sl Rp.byte [0] b), (14, kB (decide ((b.length : Int) > 2000)))], []⟩ (by kernel_rfl) ?_
 rcases ite_some h with ⟨hc2, h⟩ | ⟨hc2, h⟩
 ·
  refine ji_condT rfl hc2 ?_
  refine ji_rz ⟨[(2, kB true)], []⟩ (by kernel_rfl) ?_
  obtain rfl := sj h
  exact je_ret (le_z (by kernel_rfl))
 refine ji_condF rfl hc2 ?_
 obtain ⟨rv2, h_rv2, h⟩ := bnd h
 refine ji_region ⟨[(0, .sl Rp.byte [0] b), (3, .ptr 11 0), (4, kI rv2.2.1), (5, k8 rv2.2.2)], [⟨11, 25, [kI rv2.1.Number, kI rv2.1.Wire]⟩]⟩ (ro_o 1 [.sl Rp.byte [0] b] ⟨[(0, .sl Rp.byte [0] b), (17, .tup [.rc R_Number_Wire [] rv2.1, kI rv2.2.1, k8 rv2.2.2])], []⟩ rfl (lo_call [.sl Rp.byte [0] b] [0] 9 rfl Try.call7 (tag_Read_ok h_rv2) rfl rfl rfl rfl rfl) rfl (by kernel_rfl) (ro_o 4 [] ⟨[(0, .sl Rp.byte [0] b), (3, .ptr 11 0), (18, .rc R_Number_Wire [] rv2.1), (19, kI rv2.2.1), (20, k8 rv2.2.2)], [⟨11, 25, [kI 0, kI 0]⟩]⟩ rfl (lo_alloc 11 [kI 0, kI 0] rfl Try.zeroValue25 rfl) rfl (by kernel_rfl) (ro_obz 0 [.ptr 11 0, .rc R_Number_Wire [] rv2.1] [⟨11, 25, [kI 0, kI 0]⟩] rfl (lo_str (r := R_Number_Wire) (b := ⟨11, 25, [kI 0, kI 0]⟩) (off := 0) [kI rv2.1.Number, kI rv2.1.Wire] rfl Try.sizeOf25 rfl rfl rfl rfl) rfl rfl (by kernel_rfl)))) ?_
 obtain ⟨rv3, h_rv3, h⟩ := bnd h
 refine ji_region ⟨[(3, .ptr 11 0), (4, kI rv2.2.1), (5, k8 rv2.2.2), (6, kI rv3.1), (7, kI rv3.2.1), (8, kI rv3.2.2.1), (9, kI rv3.2.2.2)], [⟨11, 25, [kI rv2.1.Number, kI rv2.1.Wire]⟩]⟩ (ro_oz 1 [.sl Rp.byte [0] b, kI 0] rfl (lo_call [.sl Rp.byte [0] b, kI 0] [0] 10 rfl Try.call8 (darningref03_Read_ok h_rv3) rfl rfl rfl rfl rfl) rfl (by kernel_rfl)) ?_
 refine ji_region ⟨[(2, kB ((decide (rv2.1 = (⟨rv3.1, rv3.2.1⟩ : T_Number_Wire))) && ((rv2.2.1 == rv3.2.2.1) && ((IntKind.i64.wrap rv2.2.2) == rv3.2.2.2))))], []⟩ ?_ ?_
 ·
  refine (ro_ob 0 [.ptr 11 0] [⟨11, 25, [kI rv2.1.Number, kI rv2.1.Wire]⟩] ⟨[(4, kI rv2.2.1), (5, k8 rv2.2.2), (6, kI rv3.1), (7, kI rv3.2.1), (8, kI rv3.2.2.1), (9, kI rv3.2.2.2), (28, .rc R_Number_Wire [] rv2.1)], []⟩ rfl (lo_ldb (r := R_Number_Wire) rv2.1 [] rfl ⟨Try.isAgg25, Try.sizeOf25⟩ rfl rfl) rfl rfl (by kernel_rfl) (ro_o 2 [kI rv3.1, kI rv3.2.1] ⟨[(4, kI rv2.2.1), (5, k8 rv2.2.2), (8, kI rv3.2.2.1), (9, kI rv3.2.2.2), (28, .rc R_Number_Wire [] rv2.1), (31, .rc R_Number_Wire [] (⟨rv3.1, rv3.2.1⟩ : T_Number_Wire))], []⟩ rfl (lo_build (r := R_Number_Wire) [kI rv3.1, kI rv3.2.1] [] (⟨rv3.1, rv3.2.1⟩ : T_Number_Wire) rfl stt25 rfl rfl) rfl (by kernel_rfl) (ro_o 0 [.rc R_Number_Wire [] rv2.1, .rc R_Number_Wire [] (⟨rv3.1, rv3.2.1⟩ : T_Number_Wire)] ⟨[(4, kI rv2.2.1), (5, k8 rv2.2.2), (8, kI rv3.2.2.1), (9, kI rv3.2.2.2), (32, kB (decide (rv2.1 = (⟨rv3.1, rv3.2.1⟩ : T_Number_Wire))))], []⟩ rfl (lo_eqr rfl Try.eqGuardType25 rfl rfl (eqt25 _ _)) rfl (by kernel_rfl) (ro_sp 1 33 (decide (rv2.1 = (⟨rv3.1, rv3.2.1⟩ : T_Number_Wire))) ⟨[(4, kI rv2.2.1), (5, k8 rv2.2.2), (8, kI rv3.2.2.1), (9, kI rv3.2.2.2), (33, kB (decide (rv2.1 = (⟨rv3.1, rv3.2.1⟩ : T_Number_Wire))))], []⟩ (by kernel_rfl) rfl (fun hc3 => ?_) (fun hc3 => ?_)))))
  ·
   refine (ro_sp 5 38 (rv2.2.1 == rv3.2.2.1) ⟨[(5, k8 rv2.2.2), (9, kI rv3.2.2.2), (38, kB (rv2.2.1 == rv3.2.2.1))], []⟩ (by kernel_rfl) rfl (fun hc4 => ?_) (fun hc4 => ?_))
   · exact (ro_zb 2 ((IntKind.i64.wrap rv2.2.2) == rv3.2.2.2) ((decide (rv2.1 = (⟨rv3.1, rv3.2.1⟩ : T_Number_Wire))) && ((rv2.2.1 == rv3.2.2.1) && ((IntKind.i64.wrap rv2.2.2) == rv3.2.2.2))) (by rw [hc3, hc4] <;> rfl) (by kernel_rfl) (by kernel_rfl))
   exact (ro_zb 2 false ((decide (rv2.1 = (⟨rv3.1, rv3.2.1⟩ : T_Number_Wire))) && ((rv2.2.1 == rv3.2.2.1) && ((IntKind.i64.wrap rv2.2.2) == rv3.2.2.2))) (by rw [hc3, hc4] <;> rfl) (by kernel_rfl) (by kernel_rfl))
  exact (ro_zb 2 false ((decide (rv2.1 = (⟨rv3.1, rv3.2.1⟩ : T_Number_Wire))) && ((rv2.2.1 == rv3.2.2.1) && ((IntKind.i64.wrap rv2.2.2) == rv3.2.2.2))) (by rw [hc3] <;> rfl) (by kernel_rfl) (by kernel_rfl))
 obtain rfl := sj h
 exact je_ret (le_z (by kernel_rfl))
theorem darninglaw03_TagPuts_ok {fuel : Nat} {b : (List UInt8)} {t : T_Number_Wire} {u : T_Number_Wire} {r : Bool} (h : darninglaw03_TagPuts fuel b t u = some r) : FnOk Try.prog 4 [.sl Rp.byte [0] b, .rc R_Number_Wire [0] t, .rc R_Number_Wire [0] u] [kB r] := by
 refine fn_intro' (E := ⟨[(6, kB r)], []⟩) 97 Try.func4 rfl rfl rfl ⟨rfl, trivial⟩ (fun w0 F => ?_)
 refine ji_start ?_
 refine ji_le (E' := ⟨[(0, .sl Rp.byte [0] b), (1, .rc R_Number_Wire [0] t), (2, .rc R_Number_Wire [0] u)], []⟩) (fun _ _ _ hs => hs) ?_
 unfold darninglaw03_TagPuts at h
 refine ji_region ⟨[(0, .sl Rp.byte [0] b), (4, .ptr 11 0), (5, .ptr 12 0)], [⟨11, 25, [kI t.Number, kI t.Wire]⟩, ⟨12, 25, [kI u.Number, kI u.Wire]⟩]⟩ (ro_o 0 [.rc R_Number_Wire [0] t] ⟨[(0, .sl Rp.byte [0] b), (2, .rc R_Number_Wire [0] u), (4, .ptr 11 0)], [⟨11, 25, [kI t.Number, kI t.Wire]⟩]⟩ rfl (lo_box 11 [kI t.Number, kI t.Wire] [0] rfl rfl rfl rfl rfl) rfl (by kernel_rfl) (ro_oz 0 [.rc R_Number_Wire [0] u] rfl (lo_box 12 [kI u.Number, kI u.Wire] [0] rfl rfl rfl rfl rfl) rfl (by kernel_rfl))) ?_
 obtain ⟨rv, h_rv, h⟩ := bnd h
 refine ji_region ⟨[(0, .sl Rp.byte [0] b), (4, .ptr 11 0), (5, .ptr 12 0), (13, kB (!rv))], [⟨11, 25, [kI t.Number, kI t.Wire]⟩, ⟨12, 25, [kI u.Number, kI u.Wire]⟩]⟩ (ro_oz 0 [] rfl (lo_call [] [1] 11 rfl Try.call6 (darninglaw03_alive_ok h_rv) rfl rfl rfl rfl rfl) rfl (by kernel_rfl)) ?_
 rcases ite_some h with ⟨hc1, h⟩ | ⟨hc1, h⟩
 ·
  refine ji_condT rfl hc1 ?_
  refine ji_rz ⟨[(6, kB false)], []⟩ (by kernel_rfl) ?_
  obtain rfl := sj h
  exact je_ret (le_z (by kernel_rfl))
 refine ji_condF rfl hc1 ?_
 refine ji_rz ⟨[(0, .sl Rp.byte [0] b), (4, .ptr 11 0), (5, .ptr 12 0), (16, kB (decide ((b.length : Int) > 2000)))], [⟨11, 25, [kI t.Number, kI t.Wire]⟩, ⟨12, 25, [kI u.Number, kI u.Wire]⟩]⟩ (by kernel_rfl) ?_
 rcases ite_some h with ⟨hc2, h⟩ | ⟨hc2, h⟩
 ·
  refine ji_condT rfl hc2 ?_
  refine ji_rz ⟨[(6, kB true)], []⟩ (by kernel_rfl) ?_
  obtain rfl := sj h
  exact je_ret (le_z (by kernel_rfl))
 refine ji_condF rfl hc2 ?_
 obtain ⟨rv2, h_rv2, h⟩ := bnd h
 refine ji_region ⟨[(0, .sl Rp.byte [0] b), (4, .ptr 11 0), (5, .ptr 12 0), (7, .own Rp.byte 5 13 [] rv2.1), (8, k8 rv2.2)], [⟨11, 25, [kI t.Number, kI t.Wire]⟩, ⟨12, 25, [kI u.Number, kI u.Wire]⟩]⟩ (ro_ob 1 [.ptr 11 0] [⟨11, 25, [kI t.Number, kI t.Wire]⟩] ⟨[(0, .sl Rp.byte [0] b), (4, .ptr 11 0), (5, .ptr 12 0), (18, .sl Rp.byte [0] b), (19, .rc R_Number_Wire [] t)], [⟨11, 25, [kI t.Number, kI t.Wire]⟩, ⟨12, 25, [kI u.Number, kI u.Wire]⟩]⟩ rfl (lo_ldb (r := R_Number_Wire) t [] rfl ⟨Try.isAgg25, Try.sizeOf25⟩ rfl rfl) rfl rfl (by kernel_rfl) (ro_oz 0 [.sl Rp.byte [0] b, .rc R_Number_Wire [] t] rfl (lo_call [.sl Rp.byte [0] b, .rc R_Number_Wire [] t] [0] 11 rfl Try.call9 (tag_Put_ok h_rv2) rfl rfl rfl rfl rfl) rfl (by kernel_rfl))) ?_
 obtain ⟨rv3, h_rv3, h⟩ := bnd h
 refine ji_region ⟨[(0, .sl Rp.byte [0] b), (4, .ptr 11 0), (5, .ptr 12 0), (7, .own Rp.byte 5 13 [] rv2.1), (8, k8 rv2.2), (9, kB rv3)], [⟨11, 25, [kI t.Number, kI t.Wire]⟩, ⟨12, 25, [kI u.Number, kI u.Wire]⟩]⟩ (ro_oz 4 [kI t.Number, kI t.Wire] rfl (lo_call [kI t.Number, kI t.Wire] [1] 12 rfl Try.call10 (darningref03_Right_ok h_rv3) rfl rfl rfl rfl rfl) rfl (by kernel_rfl)) ?_
 refine ji_region ⟨[(0, .sl Rp.byte [0] b), (4, .ptr 11 0), (5, .ptr 12 0), (7, .own Rp.byte 5 13 [] rv2.1), (8, k8 rv2.2), (9, kB rv3), (10, kB ((decide (t.Number < u.Number)) || ((t.Number == u.Number) && (decide (t.Wire < u.Wire)))))], [⟨11, 25, [kI t.Number, kI t.Wire]⟩, ⟨12, 25, [kI u.Number, kI u.Wire]⟩]⟩ ?_ ?_
 ·
  refine (ro_sp 6 33 (decide (t.Number < u.Number)) ⟨[(0, .sl Rp.byte [0] b), (4, .ptr 11 0), (5, .ptr 12 0), (7, .own Rp.byte 5 13 [] rv2.1), (8, k8 rv2.2), (9, kB rv3), (33, kB (decide (t.Number < u.Number)))], [⟨11, 25, [kI t.Number, kI t.Wire]⟩, ⟨12, 25, [kI u.Number, kI u.Wire]⟩]⟩ (by kernel_rfl) rfl (fun hc3 => ?_) (fun hc3 => ?_))
  · exact (ro_zb 10 true ((decide (t.Number < u.Number)) || ((t.Number == u.Number) && (decide (t.Wire < u.Wire)))) (by rw [hc3] <;> rfl) (by kernel_rfl) (by kernel_rfl))
  refine (ro_sp 6 39 (t.Number == u.Number) ⟨[(0, .sl Rp.byte [0] b), (4, .ptr 11 0), (5, .ptr 12 0), (7, .own Rp.byte 5 13 [] rv2.1), (8, k8 rv2.2), (9, kB rv3), (33, kB false), (39, kB (t.Number == u.Number))], [⟨11, 25, [kI t.Number, kI t.Wire]⟩, ⟨12, 25, [kI u.Number, kI u.Wire]⟩]⟩ (by kernel_rfl) rfl (fun hc4 => ?_) (fun hc4 => ?_))
  · exact (ro_zb 10 (decide (t.Wire < u.Wire)) ((decide (t.Number < u.Number)) || ((t.Number == u.Number) && (decide (t.Wire < u.Wire)))) (by rw [hc3, hc4] <;> rfl) (by kernel_rfl) (by kernel_rfl))
  exact (ro_zb 10 false ((decide (t.Number < u.Number)) || ((t.Number == u.Number) && (decide (t.Wire < u.Wire)))) (by rw [hc3, hc4] <;> rfl) (by kernel_rfl) (by kernel_rfl))
 obtain ⟨g, h_g, h⟩ := bnd h
 refine ji_region ⟨[(0, .sl Rp.byte [0] b), (4, .ptr 11 0), (7, .own Rp.byte 5 13 [] rv2.1), (8, k8 rv2.2), (9, kB rv3), (57, kB g)], [⟨11, 25, [kI t.Number, kI t.Wire]⟩]⟩ ?_ ?_
 ·
  obtain ⟨rv4, h_rv4, h_g⟩ := bnd h_g
  refine (ro_ob 0 [.ptr 11 0] [⟨11, 25, [kI t.Number, kI t.Wire]⟩] ⟨[(0, .sl Rp.byte [0] b), (4, .ptr 11 0), (5, .ptr 12 0), (7, .own Rp.byte 5 13 [] rv2.1), (8, k8 rv2.2), (9, kB rv3), (10, kB ((decide (t.Number < u.Number)) || ((t.Number == u.Number) && (decide (t.Wire < u.Wire))))), (47, .rc R_Number_Wire [] t)], [⟨11, 25, [kI t.Number, kI t.Wire]⟩, ⟨12, 25, [kI u.Number, kI u.Wire]⟩]⟩ rfl (lo_ldb (r := R_Number_Wire) t [] rfl ⟨Try.isAgg25, Try.sizeOf25⟩ rfl rfl) rfl rfl (by kernel_rfl) (ro_o 0 [.rc R_Number_Wire [] t] ⟨[(0, .sl Rp.byte [0] b), (4, .ptr 11 0), (5, .ptr 12 0), (7, .own Rp.byte 5 13 [] rv2.1), (8, k8 rv2.2), (9, kB rv3), (10, kB ((decide (t.Number < u.Number)) || ((t.Number == u.Number) && (decide (t.Wire < u.Wire))))), (48, kB rv4)], [⟨11, 25, [kI t.Number, kI t.Wire]⟩, ⟨12, 25, [kI u.Number, kI u.Wire]⟩]⟩ rfl (lo_call [.rc R_Number_Wire [] t] [1] 12 rfl Try.call11 (tag_Right_ok h_rv4) rfl rfl rfl rfl rfl) rfl (by kernel_rfl) (ro_sp 3 51 (!(rv4 == rv3)) ⟨[(0, .sl Rp.byte [0] b), (4, .ptr 11 0), (5, .ptr 12 0), (7, .own Rp.byte 5 13 [] rv2.1), (8, k8 rv2.2), (9, kB rv3), (10, kB ((decide (t.Number < u.Number)) || ((t.Number == u.Number) && (decide (t.Wire < u.Wire))))), (51, kB (!(rv4 == rv3)))], [⟨11, 25, [kI t.Number, kI t.Wire]⟩, ⟨12, 25, [kI u.Number, kI u.Wire]⟩]⟩ (by kernel_rfl) rfl (fun hc5 => ?_) (fun hc5 => ?_))))
  ·
   replace h_g := iteT h_g hc5
   obtain rfl := sj h_g
   refine ro_pe ⟨[(0, .sl Rp.byte [0] b), (4, .ptr 11 0), (7, .own Rp.byte 5 13 [] rv2.1), (8, k8 rv2.2), (9, kB rv3), (57, kB true)], [⟨11, 25, [kI t.Number, kI t.Wire]⟩]⟩ (by kernel_rfl) ?_
   exact le_z (by kernel_rfl)
  replace h_g := iteF h_g hc5
  obtain ⟨rv5, h_rv5, h_g⟩ := bnd h_g
  obtain rfl := sj h_g
  refine (ro_ob 0 [.ptr 11 0] [⟨11, 25, [kI t.Number, kI t.Wire]⟩] ⟨[(0, .sl Rp.byte [0] b), (4, .ptr 11 0), (5, .ptr 12 0), (7, .own Rp.byte 5 13 [] rv2.1), (8, k8 rv2.2), (9, kB rv3), (10, kB ((decide (t.Number < u.Number)) || ((t.Number == u.Number) && (decide (t.Wire < u.Wire))))), (51, kB false), (52, .rc R_Number_Wire [] t)], [⟨11, 25, [kI t.Number, kI t.Wire]⟩, ⟨12, 25, [kI u.Number, kI u.Wire]⟩]⟩ rfl (lo_ldb (r := R_Number_Wire) t [] rfl ⟨Try.isAgg25, Try.sizeOf25⟩ rfl rfl) rfl rfl (by kernel_rfl) (ro_ob 0 [.ptr 12 0] [⟨12, 25, [kI u.Number, kI u.Wire]⟩] ⟨[(0, .sl Rp.byte [0] b), (4, .ptr 11 0), (7, .own Rp.byte 5 13 [] rv2.1), (8, k8 rv2.2), (9, kB rv3), (10, kB ((decide (t.Number < u.Number)) || ((t.Number == u.Number) && (decide (t.Wire < u.Wire))))), (51, kB false), (52, .rc R_Number_Wire [] t), (53, .rc R_Number_Wire [] u)], [⟨11, 25, [kI t.Number, kI t.Wire]⟩]⟩ rfl (lo_ldb (r := R_Number_Wire) u [] rfl ⟨Try.isAgg25, Try.sizeOf25⟩ rfl rfl) rfl rfl (by kernel_rfl) (ro_o 0 [.rc R_Number_Wire [] t, .rc R_Number_Wire [] u] ⟨[(0, .sl Rp.byte [0] b), (4, .ptr 11 0), (7, .own Rp.byte 5 13 [] rv2.1), (8, k8 rv2.2), (9, kB rv3), (10, kB ((decide (t.Number < u.Number)) || ((t.Number == u.Number) && (decide (t.Wire < u.Wire))))), (51, kB false), (54, kB rv5)], [⟨11, 25, [kI t.Number, kI t.Wire]⟩]⟩ rfl (lo_call [.rc R_Number_Wire [] t, .rc R_Number_Wire [] u] [1] 12 rfl Try.call12 (tag_Less_ok h_rv5) rfl rfl rfl rfl rfl) rfl (by kernel_rfl) (ro_pe ⟨[(0, .sl Rp.byte [0] b), (4, .ptr 11 0), (7, .own Rp.byte 5 13 [] rv2.1), (8, k8 rv2.2), (9, kB rv3), (57, kB (!(rv5 == ((decide (t.Number < u.Number)) || ((t.Number == u.Number) && (decide (t.Wire < u.Wire)))))))], [⟨11, 25, [kI t.Number, kI t.Wire]⟩]⟩ (by kernel_rfl) ?_))))
  exact le_z (by kernel_rfl)
 rcases ite_some h with ⟨hc6, h⟩ | ⟨hc6, h⟩
 ·
  refine ji_condT rfl hc6 ?_
  refine ji_rz ⟨[(6, kB false)], []⟩ (by kernel_rfl) ?_
  obtain rfl := sj h
  exact je_ret (le_z (by kernel_rfl))
 refine ji_condF rfl hc6 ?_
 refine ji_rz ⟨[(0, .sl Rp.byte [0] b), (4, .ptr 11 0), (7, .own Rp.byte 5 13 [] rv2.1), (8, k8 rv2.2), (59, kB (!rv3))], [⟨11, 25, [kI t.Number, kI t.Wire]⟩]⟩ (by kernel_rfl) ?_
 rcases ite_some h with ⟨hc7, h⟩ | ⟨hc7, h⟩
 ·
  refine ji_condT rfl hc7 ?_
  obtain ⟨g2, h_g2, h⟩ := bnd h
  refine ji_region ⟨[(6, kB g2)], []⟩ ?_ ?_
  ·
   refine (ro_sp 4 63 ((IntKind.i64.wrap rv2.2) == 2) ⟨[(4, .ptr 11 0), (7, .own Rp.byte 5 13 [] rv2.1), (63, kB ((IntKind.i64.wrap rv2.2) == 2))], [⟨11, 25, [kI t.Number, kI t.Wire]⟩]⟩ (by kernel_rfl) rfl (fun hc8 => ?_) (fun hc8 => ?_))
   ·
    replace h_g2 := iteT h_g2 hc8
    refine (ro_sp 5 68 ((rv2.1.length : Int) == 0) ⟨[(4, .ptr 11 0), (68, kB ((rv2.1.length : Int) == 0))], [⟨11, 25, [kI t.Number, kI t.Wire]⟩]⟩ (by kernel_rfl) rfl (fun hc9 => ?_) (fun hc9 => ?_))
    ·
     replace h_g2 := iteT h_g2 hc9
     obtain ⟨rv6, h_rv6, h_g2⟩ := bnd h_g2
     obtain rfl := sj h_g2
     exact (ro_ob 0 [.ptr 11 0] [⟨11, 25, [kI t.Number, kI t.Wire]⟩] ⟨[(68, kB true), (69, .rc R_Number_Wire [] t)], []⟩ rfl (lo_ldb (r := R_Number_Wire) t [] rfl ⟨Try.isAgg25, Try.sizeOf25⟩ rfl rfl) rfl rfl (by kernel_rfl) (ro_oz 0 [.rc R_Number_Wire [] t] rfl (lo_call [.rc R_Number_Wire [] t] [1] 12 rfl Try.call13 (tag_Size_ok h_rv6) rfl rfl rfl rfl rfl) rfl (by kernel_rfl)))
    replace h_g2 := iteF h_g2 hc9
    obtain rfl := sj h_g2
    exact (ro_z (by kernel_rfl))
   replace h_g2 := iteF h_g2 hc8
   obtain rfl := sj h_g2
   exact (ro_z (by kernel_rfl))
  obtain rfl := sj h
  exact je_ret (le_z (by kernel_rfl))
 refine ji_condF rfl hc7 ?_
 obtain ⟨rv7, h_rv7, h⟩ := bnd h
 refine ji_region ⟨[(0, .sl Rp.byte [0] b), (4, .ptr 11 0), (7, .own Rp.byte 5 13 [] rv2.1), (8, k8 rv2.2), (11, .own Rp.byte 5 14 [] rv7)], [⟨11, 25, [kI t.Number, kI t.Wire]⟩]⟩ (ro_oz 4 [kI t.Number, kI t.Wire] rfl (lo_call [kI t.Number, kI t.Wire] [1] 12 rfl Try.call14 (darningref03_Put_ok h_rv7) rfl rfl rfl rfl rfl) rfl (by kernel_rfl)) ?_
 obtain ⟨g3, h_g3, h⟩ := bnd h
 refine ji_region ⟨[(6, kB g3)], []⟩ ?_ ?_
 ·
  refine (ro_sp 4 81 ((IntKind.i64.wrap rv2.2) == 0) ⟨[(0, .sl Rp.byte [0] b), (4, .ptr 11 0), (7, .own Rp.byte 5 13 [] rv2.1), (11, .own Rp.byte 5 14 [] rv7), (81, kB ((IntKind.i64.wrap rv2.2) == 0))], [⟨11, 25, [kI t.Number, kI t.Wire]⟩]⟩ (by kernel_rfl) rfl (fun hc10 => ?_) (fun hc10 => ?_))
  ·
   replace h_g3 := iteT h_g3 hc10
   obtain ⟨v3, h_v3, h_g3⟩ := bnd h_g3
   obtain ⟨v4, h_v4, h_g3⟩ := bnd h_g3
   obtain ⟨rv8, h_rv8, h_g3⟩ := bnd h_g3
   refine (ro_o 1 [] ⟨[(0, .sl Rp.byte [0] b), (4, .ptr 11 0), (11, .own Rp.byte 5 14 [] rv7), (81, kB true), (82, .own Rp.byte 5 13 [] rv2.1), (83, .own Rp.byte 5 15 [] ([] : (List UInt8)))], [⟨11, 25, [kI t.Number, kI t.Wire]⟩]⟩ rfl (lo_bsl [] 15 [] ([] : (List UInt8)) rfl zet22 rfl rfl rfl rfl) rfl (by kernel_rfl) (ro_o 1 [.own Rp.byte 5 15 [] ([] : (List UInt8)), .sl Rp.byte [0] b] ⟨[(4, .ptr 11 0), (11, .own Rp.byte 5 14 [] rv7), (81, kB true), (82, .own Rp.byte 5 13 [] rv2.1), (85, .own Rp.byte 5 15 [] v3)], [⟨11, 25, [kI t.Number, kI t.Wire]⟩]⟩ rfl (lo_app 15 [] rfl zet22.el rfl (isOwn_own _ _ _ _ _) (isSl_sl _ _ _) h_v3 (.inl plain_byte) rfl) rfl (by kernel_rfl) (ro_o 1 [.own Rp.byte 5 15 [] v3, .own Rp.byte 5 14 [] rv7] ⟨[(4, .ptr 11 0), (11, .own Rp.byte 5 14 [] rv7), (81, kB true), (82, .own Rp.byte 5 13 [] rv2.1), (87, .own Rp.byte 5 15 [] v4)], [⟨11, 25, [kI t.Number, kI t.Wire]⟩]⟩ rfl (lo_app 15 [] rfl zet22.el rfl (isOwn_own _ _ _ _ _) (isSl_own _ _ _ _ _) h_v4 (.inl plain_byte) rfl) rfl (by kernel_rfl) (ro_o 0 [.own Rp.byte 5 13 [] rv2.1, .own Rp.byte 5 15 [] v4] ⟨[(4, .ptr 11 0), (11, .own Rp.byte 5 14 [] rv7), (81, kB true), (88, kB rv8)], [⟨11, 25, [kI t.Number, kI t.Wire]⟩]⟩ rfl (lo_call [.own Rp.byte 5 13 [] rv2.1, .own Rp.byte 5 15 [] v4] [13, 15] 14 rfl Try.call15 (darningref01_Same_ok h_rv8) rfl rfl rfl rfl rfl) rfl (by kernel_rfl) (ro_sp 2 90 rv8 ⟨[(4, .ptr 11 0), (11, .own Rp.byte 5 14 [] rv7), (90, kB rv8)], [⟨11, 25, [kI t.Number, kI t.Wire]⟩]⟩ (by kernel_rfl) rfl (fun hc11 => ?_) (fun hc11 => ?_))))))
   ·
    replace h_g3 := iteT h_g3 hc11
    obtain ⟨rv9, h_rv9, h_g3⟩ := bnd h_g3
    obtain rfl := sj h_g3
    exact (ro_ob 0 [.ptr 11 0] [⟨11, 25, [kI t.Number, kI t.Wire]⟩] ⟨[(11, .own Rp.byte 5 14 [] rv7), (90, kB true), (91, .rc R_Number_Wire [] t)], []⟩ rfl (lo_ldb (r := R_Number_Wire) t [] rfl ⟨Try.isAgg25, Try.sizeOf25⟩ rfl rfl) rfl rfl (by kernel_rfl) (ro_oz 0 [.rc R_Number_Wire [] t] rfl (lo_call [.rc R_Number_Wire [] t] [1] 14 rfl Try.call13 (tag_Size_ok h_rv9) rfl rfl rfl rfl rfl) rfl (by kernel_rfl)))
   replace h_g3 := iteF h_g3 hc11
   obtain rfl := sj h_g3
   exact (ro_z (by kernel_rfl))
  replace h_g3 := iteF h_g3 hc10
  obtain rfl := sj h_g3
  exact (ro_z (by kernel_rfl))
 obtain rfl := sj h
 exact je_ret (le_z (by kernel_rfl))
theorem darninglaw03_TagBack_ok {t : T_Number_Wire} {more : (List UInt8)} {r : Bool} (h : darninglaw03_TagBack t more = some r) : FnOk Try.prog 5 [.rc R_Number_Wire [0] t, .sl Rp.byte [0] more] [kB r] := by
 refine fn_intro' (E := ⟨[(4, kB r)], []⟩) 77 Try.func5 rfl rfl rfl ⟨rfl, trivial⟩ (fun w0 F => ?_)
 refine ji_start ?_
 refine ji_le (E' := ⟨[(0, .rc R_Number_Wire [0] t), (1, .sl Rp.byte [0] more)], []⟩) (fun _ _ _ hs => hs) ?_
 unfold darninglaw03_TagBack at h
 refine ji_region ⟨[(1, .sl Rp.byte [0] more), (2, .ptr 11 0)], [⟨11, 25, [kI t.Number, kI t.Wire]⟩]⟩ (ro_oz 0 [.rc R_Number_Wire [0] t] rfl (lo_box 11 [kI t.Number, kI t.Wire] [0] rfl rfl rfl rfl rfl) rfl (by kernel_rfl)) ?_
 obtain ⟨rv, h_rv, h⟩ := bnd h
 refine ji_region ⟨[(1, .sl Rp.byte [0] more), (2, .ptr 11 0), (14, kB (!rv))], [⟨11, 25, [kI t.Number, kI t.Wire]⟩]⟩ (ro_oz 0 [] rfl (lo_call [] [1] 10 rfl Try.call6 (darninglaw03_alive_ok h_rv) rfl rfl rfl rfl rfl) rfl (by kernel_rfl)) ?_
 rcases ite_some h with ⟨hc1, h⟩ | ⟨hc1, h⟩
 ·
  refine ji_condT rfl hc1 ?_
  refine ji_rz ⟨[(4, kB false)], []⟩ (by kernel_rfl) ?_
  obtain rfl := sj h
  exact je_ret (le_z (by kernel_rfl))
 refine ji_condF rfl hc1 ?_
 refine ji_rz ⟨[(1, .sl Rp.byte [0] more), (2, .ptr 11 0), (17, kB (decide ((more.length : Int) > 2000)))], [⟨11, 25, [kI t.Number, kI t.Wire]⟩]⟩ (by kernel_rfl) ?_
 rcases ite_some h with ⟨hc2, h⟩ | ⟨hc2, h⟩
 ·
  refine ji_condT rfl hc2 ?_
  refine ji_rz ⟨[(4, kB true)], []⟩ (by kernel_rfl) ?_
  obtain rfl := sj h
  exact je_ret (le_z (by kernel_rfl))
 refine ji_condF rfl hc2 ?_
 obtain ⟨rv2, h_rv2, h⟩ := bnd h
 refine ji_region ⟨[(1, .sl Rp.byte [0] more), (2, .ptr 11 0), (5, .ptr 12 0), (7, k8 rv2.2.2)], [⟨11, 25, [kI t.Number, kI t.Wire]⟩, ⟨12, 25, [kI rv2.1.Number, kI rv2.1.Wire]⟩]⟩ (ro_o 1 [.sl Rp.byte [0] more] ⟨[(1, .sl Rp.byte [0] more), (2, .ptr 11 0), (20, .tup [.rc R_Number_Wire [] rv2.1, kI rv2.2.1, k8 rv2.2.2])], [⟨11, 25, [kI t.Number, kI t.Wire]⟩]⟩ rfl (lo_call [.sl Rp.byte [0] more] [0] 10 rfl Try.call7 (tag_Read_ok h_rv2) rfl rfl rfl rfl rfl) rfl (by kernel_rfl) (ro_o 4 [] ⟨[(1, .sl Rp.byte [0] more), (2, .ptr 11 0), (5, .ptr 12 0), (21, .rc R_Number_Wire [] rv2.1), (22, kI rv2.2.1), (23, k8 rv2.2.2)], [⟨11, 25, [kI t.Number, kI t.Wire]⟩, ⟨12, 25, [kI 0, kI 0]⟩]⟩ rfl (lo_alloc 12 [kI 0, kI 0] rfl Try.zeroValue25 rfl) rfl (by kernel_rfl) (ro_obz 0 [.ptr 12 0, .rc R_Number_Wire [] rv2.1] [⟨12, 25, [kI 0, kI 0]⟩] rfl (lo_str (r := R_Number_Wire) (b := ⟨12, 25, [kI 0, kI 0]⟩) (off := 0) [kI rv2.1.Number, kI rv2.1.Wire] rfl Try.sizeOf25 rfl rfl rfl rfl) rfl rfl (by kernel_rfl)))) ?_
 obtain ⟨g, h_g, h⟩ := bnd h
 refine ji_region ⟨[(1, .sl Rp.byte [0] more), (2, .ptr 11 0), (31, kB g)], [⟨11, 25, [kI t.Number, kI t.Wire]⟩]⟩ ?_ ?_
 ·
  refine (ro_sp 4 27 ((IntKind.i64.wrap rv2.2.2) == 0) ⟨[(1, .sl Rp.byte [0] more), (2, .ptr 11 0), (5, .ptr 12 0), (27, kB ((IntKind.i64.wrap rv2.2.2) == 0))], [⟨11, 25, [kI t.Number, kI t.Wire]⟩, ⟨12, 25, [kI rv2.1.Number, kI rv2.1.Wire]⟩]⟩ (by kernel_rfl) rfl (fun hc3 => ?_) (fun hc3 => ?_))
  ·
   replace h_g := iteT h_g hc3
   obtain ⟨rv3, h_rv3, h_g⟩ := bnd h_g
   obtain rfl := sj h_g
   refine (ro_ob 0 [.ptr 12 0] [⟨12, 25, [kI rv2.1.Number, kI rv2.1.Wire]⟩] ⟨[(1, .sl Rp.byte [0] more), (2, .ptr 11 0), (27, kB true), (28, .rc R_Number_Wire [] rv2.1)], [⟨11, 25, [kI t.Number, kI t.Wire]⟩]⟩ rfl (lo_ldb (r := R_Number_Wire) rv2.1 [] rfl ⟨Try.isAgg25, Try.sizeOf25⟩ rfl rfl) rfl rfl (by kernel_rfl) (ro_o 0 [.rc R_Number_Wire [] rv2.1] ⟨[(1, .sl Rp.byte [0] more), (2, .ptr 11 0), (27, kB true), (29, kB rv3)], [⟨11, 25, [kI t.Number, kI t.Wire]⟩]⟩ rfl (lo_call [.rc R_Number_Wire [] rv2.1] [1] 11 rfl Try.call11 (tag_Right_ok h_rv3) rfl rfl rfl rfl rfl) rfl (by kernel_rfl) (ro_pe ⟨[(1, .sl Rp.byte [0] more), (2, .ptr 11 0), (31, kB (!rv3))], [⟨11, 25, [kI t.Number, kI t.Wire]⟩]⟩ (by kernel_rfl) ?_)))
   exact le_z (by kernel_rfl)
  replace h_g := iteF h_g hc3
  obtain rfl := sj h_g
  refine ro_pe ⟨[(1, .sl Rp.byte [0] more), (2, .ptr 11 0), (31, kB false)], [⟨11, 25, [kI t.Number, kI t.Wire]⟩]⟩ (by kernel_rfl) ?_
  exact le_z (by kernel_rfl)
 rcases ite_some h with ⟨hc4, h⟩ | ⟨hc4, h⟩
 ·
  refine ji_condT rfl hc4 ?_
  refine ji_rz ⟨[(4, kB false)], []⟩ (by kernel_rfl) ?_
  obtain rfl := sj h
  exact je_ret (le_z (by kernel_rfl))
 refine ji_condF rfl hc4 ?_
 obtain ⟨rv4, h_rv4, h⟩ := bnd h
 refine ji_region ⟨[(1, .sl Rp.byte [0] more), (2, .ptr 11 0), (8, .own Rp.byte 5 13 [] rv4.1), (9, k8 rv4.2)], [⟨11, 25, [kI t.Number, kI t.Wire]⟩]⟩ (ro_ob 0 [.ptr 11 0] [⟨11, 25, [kI t.Number, kI t.Wire]⟩] ⟨[(1, .sl Rp.byte [0] more), (2, .ptr 11 0), (33, .rc R_Number_Wire [] t)], [⟨11, 25, [kI t.Number, kI t.Wire]⟩]⟩ rfl (lo_ldb (r := R_Number_Wire) t [] rfl ⟨Try.isAgg25, Try.sizeOf25⟩ rfl rfl) rfl rfl (by kernel_rfl) (ro_oz 0 [kN, .rc R_Number_Wire [] t] rfl (lo_call [kN, .rc R_Number_Wire [] t] [1] 11 rfl Try.call9 (FnOk.le (ins' := [kN, .rc R_Number_Wire [0] t]) (tag_Put_ok h_rv4) ⟨le_sl_nil _ _, AV.le_refl _, trivial⟩) rfl rfl rfl rfl rfl) rfl (by kernel_rfl))) ?_
 refine ji_rz ⟨[(1, .sl Rp.byte [0] more), (2, .ptr 11 0), (8, .own Rp.byte 5 13 [] rv4.1), (39, kB ((IntKind.i64.wrap rv4.2) != 0))], [⟨11, 25, [kI t.Number, kI t.Wire]⟩]⟩ (by kernel_rfl) ?_
 rcases ite_some h with ⟨hc5, h⟩ | ⟨hc5, h⟩
 ·
  refine ji_condT rfl hc5 ?_
  obtain ⟨rv5, h_rv5, h⟩ := bnd h
  refine ji_region ⟨[(4, kB (!rv5))], []⟩ (ro_ob 0 [.ptr 11 0] [⟨11, 25, [kI t.Number, kI t.Wire]⟩] ⟨[(40, .rc R_Number_Wire [] t)], []⟩ rfl (lo_ldb (r := R_Number_Wire) t [] rfl ⟨Try.isAgg25, Try.sizeOf25⟩ rfl rfl) rfl rfl (by kernel_rfl) (ro_oz 0 [.rc R_Number_Wire [] t] rfl (lo_call [.rc R_Number_Wire [] t] [1] 12 rfl Try.call11 (tag_Right_ok h_rv5) rfl rfl rfl rfl rfl) rfl (by kernel_rfl))) ?_
  obtain rfl := sj h
  exact je_ret (le_z (by kernel_rfl))
 refine ji_condF rfl hc5 ?_
 obtain ⟨v2, h_v2, h⟩ := bnd h
 obtain ⟨v3, h_v3, h⟩ := bnd h
 obtain ⟨rv6, h_rv6, h⟩ := bnd h
 refine ji_region ⟨[(2, .ptr 11 0), (8, .own Rp.byte 5 13 [] rv4.1), (10, .ptr 15 0), (11, kI rv6.2.1), (12, k8 rv6.2.2)], [⟨11, 25, [kI t.Number, kI t.Wire]⟩, ⟨15, 25, [kI rv6.1.Number, kI rv6.1.Wire]⟩]⟩ (ro_o 0 [] ⟨[(1, .sl Rp.byte [0] more), (2, .ptr 11 0), (8, .own Rp.byte 5 13 [] rv4.1), (44, .own Rp.byte 5 14 [] ([] : (List UInt8)))], [⟨11, 25, [kI t.Number, kI t.Wire]⟩]⟩ rfl (lo_bsl [] 14 [] ([] : (List UInt8)) rfl zet22 rfl rfl rfl rfl) rfl (by kernel_rfl) (ro_o 1 [.own Rp.byte 5 14 [] ([] : (List UInt8)), .own Rp.byte 5 13 [] rv4.1] ⟨[(1, .sl Rp.byte [0] more), (2, .ptr 11 0), (8, .own Rp.byte 5 13 [] rv4.1), (46, .own Rp.byte 5 14 [] v2)], [⟨11, 25, [kI t.Number, kI t.Wire]⟩]⟩ rfl (lo_app 14 [] rfl zet22.el rfl (isOwn_own _ _ _ _ _) (isSl_own _ _ _ _ _) h_v2 (.inl plain_byte) rfl) rfl (by kernel_rfl) (ro_o 1 [.own Rp.byte 5 14 [] v2, .sl Rp.byte [0] more] ⟨[(2, .ptr 11 0), (8, .own Rp.byte 5 13 [] rv4.1), (48, .own Rp.byte 5 14 [] v3)], [⟨11, 25, [kI t.Number, kI t.Wire]⟩]⟩ rfl (lo_app 14 [] rfl zet22.el rfl (isOwn_own _ _ _ _ _) (isSl_sl _ _ _) h_v3 (.inl plain_byte) rfl) rfl (by kernel_rfl) (ro_o 0 [.own Rp.byte 5 14 [] v3] ⟨[(2, .ptr 11 0), (8, .own Rp.byte 5 13 [] rv4.1), (49, .tup [.rc R_Number_Wire [] rv6.1, kI rv6.2.1, k8 rv6.2.2])], [⟨11, 25, [kI t.Number, kI t.Wire]⟩]⟩ rfl (lo_call [.own Rp.byte 5 14 [] v3] [14] 13 rfl Try.call7 (tag_Read_ok h_rv6) rfl rfl rfl rfl rfl) rfl (by kernel_rfl) (ro_o 4 [] ⟨[(2, .ptr 11 0), (8, .own Rp.byte 5 13 [] rv4.1), (10, .ptr 15 0), (50, .rc R_Number_Wire [] rv6.1), (51, kI rv6.2.1), (52, k8 rv6.2.2)], [⟨11, 25, [kI t.Number, kI t.Wire]⟩, ⟨15, 25, [kI 0, kI 0]⟩]⟩ rfl (lo_alloc 15 [kI 0, kI 0] rfl Try.zeroValue25 rfl) rfl (by kernel_rfl) (ro_obz 0 [.ptr 15 0, .rc R_Number_Wire [] rv6.1] [⟨15, 25, [kI 0, kI 0]⟩] rfl (lo_str (r := R_Number_Wire) (b := ⟨15, 25, [kI 0, kI 0]⟩) (off := 0) [kI rv6.1.Number, kI rv6.1.Wire] rfl Try.sizeOf25 rfl rfl rfl rfl) rfl rfl (by kernel_rfl))))))) ?_
 obtain ⟨g2, h_g2, h⟩ := bnd h
 refine ji_region ⟨[(4, kB g2)], []⟩ ?_ ?_
 ·
  refine (ro_sp 4 56 ((IntKind.i64.wrap rv6.2.2) == 0) ⟨[(2, .ptr 11 0), (8, .own Rp.byte 5 13 [] rv4.1), (10, .ptr 15 0), (11, kI rv6.2.1), (56, kB ((IntKind.i64.wrap rv6.2.2) == 0))], [⟨11, 25, [kI t.Number, kI t.Wire]⟩, ⟨15, 25, [kI rv6.1.Number, kI rv6.1.Wire]⟩]⟩ (by kernel_rfl) rfl (fun hc6 => ?_) (fun hc6 => ?_))
  ·
   replace h_g2 := iteT h_g2 hc6
   refine (ro_ob 0 [.ptr 15 0] [⟨15, 25, [kI rv6.1.Number, kI rv6.1.Wire]⟩] ⟨[(2, .ptr 11 0), (8, .own Rp.byte 5 13 [] rv4.1), (11, kI rv6.2.1), (56, kB true), (57, .rc R_Number_Wire [] rv6.1)], [⟨11, 25, [kI t.Number, kI t.Wire]⟩]⟩ rfl (lo_ldb (r := R_Number_Wire) rv6.1 [] rfl ⟨Try.isAgg25, Try.sizeOf25⟩ rfl rfl) rfl rfl (by kernel_rfl) (ro_ob 0 [.ptr 11 0] [⟨11, 25, [kI t.Number, kI t.Wire]⟩] ⟨[(2, .ptr 11 0), (8, .own Rp.byte 5 13 [] rv4.1), (11, kI rv6.2.1), (56, kB true), (57, .rc R_Number_Wire [] rv6.1), (58, .rc R_Number_Wire [] t)], [⟨11, 25, [kI t.Number, kI t.Wire]⟩]⟩ rfl (lo_ldb (r := R_Number_Wire) t [] rfl ⟨Try.isAgg25, Try.sizeOf25⟩ rfl rfl) rfl rfl (by kernel_rfl) (ro_o 0 [.rc R_Number_Wire [] rv6.1, .rc R_Number_Wire [] t] ⟨[(2, .ptr 11 0), (8, .own Rp.byte 5 13 [] rv4.1), (11, kI rv6.2.1), (56, kB true), (59, kB (decide (rv6.1 = t)))], [⟨11, 25, [kI t.Number, kI t.Wire]⟩]⟩ rfl (lo_eqr rfl Try.eqGuardType25 rfl rfl (eqt25 _ _)) rfl (by kernel_rfl) (ro_sp 2 61 (decide (rv6.1 = t)) ⟨[(2, .ptr 11 0), (8, .own Rp.byte 5 13 [] rv4.1), (11, kI rv6.2.1), (61, kB (decide (rv6.1 = t)))], [⟨11, 25, [kI t.Number, kI t.Wire]⟩]⟩ (by kernel_rfl) rfl (fun hc7 => ?_) (fun hc7 => ?_)))))
   ·
    replace h_g2 := iteT h_g2 hc7
    refine (ro_sp 6 67 (rv6.2.1 == (rv4.1.length : Int)) ⟨[(2, .ptr 11 0), (11, kI rv6.2.1), (67, kB (rv6.2.1 == (rv4.1.length : Int)))], [⟨11, 25, [kI t.Number, kI t.Wire]⟩]⟩ (by kernel_rfl) rfl (fun hc8 => ?_) (fun hc8 => ?_))
    ·
     replace h_g2 := iteT h_g2 hc8
     obtain ⟨rv7, h_rv7, h_g2⟩ := bnd h_g2
     refine (ro_ob 1 [.ptr 11 0] [⟨11, 25, [kI t.Number, kI t.Wire]⟩] ⟨[(11, kI rv6.2.1), (67, kB true), (68, kI rv6.2.1), (69, .rc R_Number_Wire [] t)], []⟩ rfl (lo_ldb (r := R_Number_Wire) t [] rfl ⟨Try.isAgg25, Try.sizeOf25⟩ rfl rfl) rfl rfl (by kernel_rfl) (ro_o 0 [.rc R_Number_Wire [] t] ⟨[(11, kI rv6.2.1), (67, kB true), (68, kI rv6.2.1), (70, kI rv7)], []⟩ rfl (lo_call [.rc R_Number_Wire [] t] [1] 14 rfl Try.call13 (tag_Size_ok h_rv7) rfl rfl rfl rfl rfl) rfl (by kernel_rfl) (ro_sp 3 73 (rv6.2.1 == rv7) ⟨[(11, kI rv6.2.1), (73, kB (rv6.2.1 == rv7))], []⟩ (by kernel_rfl) rfl (fun hc9 => ?_) (fun hc9 => ?_))))
     ·
      replace h_g2 := iteT h_g2 hc9
      obtain rfl := sj h_g2
      exact (ro_z (by kernel_rfl))
     replace h_g2 := iteF h_g2 hc9
     obtain rfl := sj h_g2
     exact (ro_z (by kernel_rfl))
    replace h_g2 := iteF h_g2 hc8
    obtain rfl := sj h_g2
    exact (ro_z (by kernel_rfl))
   replace h_g2 := iteF h_g2 hc7
   obtain rfl := sj h_g2
   exact (ro_z (by kernel_rfl))
  replace h_g2 := iteF h_g2 hc6
  obtain rfl := sj h_g2
  exact (ro_z (by kernel_rfl))
 obtain rfl := sj h
 exact je_ret (le_z (by kernel_rfl))
end Go.Proofs.Ytmggggknpgokbaa
