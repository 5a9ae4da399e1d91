/-
  The Go functions do what the plain functions say. No condition.
-/
import Derived.Test.YtbhlonecfdknaaaG2
namespace Go.Proofs.Ytbhlonecfdknaaa
open Go Go.RowKit
set_option linter.unusedVariables false
set_option maxRecDepth 100000
theorem kind_Canon_ok {k : Int} {wv : Int} {r : (Int × Int)} (h : kind_Canon k wv = some r) : FnOk Try.prog 17 [kI k, kU wv] [kU r.1, k8 r.2] := by
 refine fn_intro' (E := ⟨[(4, kU r.1), (5, k8 r.2)], []⟩) 34 Try.func17 rfl rfl rfl ⟨rfl, rfl, trivial⟩ (fun Xt => ?_)
 refine ji_start ?_
 refine ji_le (E' := ⟨[(0, kI k), (1, kU wv)], []⟩) (fun _ _ _ hs => hs) ?_
 unfold kind_Canon at h
 refine ji_rz ⟨[(0, kI k), (1, kU wv)], []⟩ (by kernel_rfl) ?_
 refine ji_rz ⟨[(1, kU wv), (6, kI k)], []⟩ (by kernel_rfl) ?_
 refine ji_block ?_
 refine ji_rz ⟨[(1, kU wv), (6, kI k), (7, kB (k == 1))], []⟩ (by kernel_rfl) ?_
 obtain ⟨p, h_p, h⟩ := bnd h
 refine ji_join (R := fun e a w => e = .normal ∧ Sx ⟨⟨34, []⟩, Xt, false, #[]⟩ ⟨[(1, kU wv), (6, kI k), (7, kB p)], []⟩ a w) ?_ ?_
 ·
  replace h := h_p
  refine ji_start ?_
  rcases ite_some h with ⟨hc1, h⟩ | ⟨hc1, h⟩
  ·
   refine ji_condT rfl hc1 ?_
   obtain rfl := sj h
   exact je_nil (le_z (by kernel_rfl))
  refine ji_condF rfl hc1 ?_
  refine ji_rz ⟨[(1, kU wv), (6, kI k), (7, kB (k == 8))], []⟩ (by kernel_rfl) ?_
  obtain rfl := sj h
  exact je_nil (le_z (by kernel_rfl))
 refine k_norm ?_
 rcases ite_some h with ⟨hc2, h⟩ | ⟨hc2, h⟩
 ·
  refine ji_condT rfl hc2 ?_
  obtain ⟨rv, h_rv, h⟩ := bnd h
  obtain ⟨rv2, h_rv2, h⟩ := bnd h
  refine ji_region ⟨[(4, kU rv2), (5, k8 0)], []⟩ (ro_o 1 [kU wv] ⟨[(11, .lf (.int .i32 rv))], []⟩ rfl (lo_call [kU wv] [1] 9 rfl Try.call25 (bits_Sign32_ok h_rv) rfl rfl rfl rfl rfl) rfl (by kernel_rfl) (ro_oz 0 [.lf (.int .i32 rv)] rfl (lo_call [.lf (.int .i32 rv)] [1] 9 rfl Try.call24 (bits_Wide32_ok h_rv2) rfl rfl rfl rfl rfl) rfl (by kernel_rfl))) ?_
  obtain rfl := sj h
  exact je_ret (le_z (by kernel_rfl))
 refine ji_condF rfl hc2 ?_
 refine ji_rz ⟨[(1, kU wv), (6, kI k), (13, kB (k == 3))], []⟩ (by kernel_rfl) ?_
 obtain ⟨p2, h_p2, h⟩ := bnd h
 refine ji_join (R := fun e a w => e = .normal ∧ Sx ⟨⟨34, []⟩, Xt, false, #[]⟩ ⟨[(1, kU wv), (6, kI k), (13, kB p2)], []⟩ a w) ?_ ?_
 ·
  replace h := h_p2
  refine ji_start ?_
  rcases ite_some h with ⟨hc3, h⟩ | ⟨hc3, h⟩
  ·
   refine ji_condT rfl hc3 ?_
   obtain rfl := sj h
   exact je_nil (le_z (by kernel_rfl))
  refine ji_condF rfl hc3 ?_
  refine ji_rz ⟨[(1, kU wv), (6, kI k), (13, kB (k == 5))], []⟩ (by kernel_rfl) ?_
  rcases ite_some h with ⟨hc4, h⟩ | ⟨hc4, h⟩
  ·
   refine ji_condT rfl hc4 ?_
   obtain rfl := sj h
   exact je_nil (le_z (by kernel_rfl))
  refine ji_condF rfl hc4 ?_
  refine ji_rz ⟨[(1, kU wv), (6, kI k), (13, kB (k == 9))], []⟩ (by kernel_rfl) ?_
  rcases ite_some h with ⟨hc5, h⟩ | ⟨hc5, h⟩
  ·
   refine ji_condT rfl hc5 ?_
   obtain rfl := sj h
   exact je_nil (le_z (by kernel_rfl))
  refine ji_condF rfl hc5 ?_
  refine ji_rz ⟨[(1, kU wv), (6, kI k), (13, kB (k == 10))], []⟩ (by kernel_rfl) ?_
  rcases ite_some h with ⟨hc6, h⟩ | ⟨hc6, h⟩
  ·
   refine ji_condT rfl hc6 ?_
   obtain rfl := sj h
   exact je_nil (le_z (by kernel_rfl))
  refine ji_condF rfl hc6 ?_
  refine ji_rz ⟨[(1, kU wv), (6, kI k), (13, kB (k == 11))], []⟩ (by kernel_rfl) ?_
  obtain rfl := sj h
  exact je_nil (le_z (by kernel_rfl))
 refine k_norm ?_
 rcases ite_some h with ⟨hc7, h⟩ | ⟨hc7, h⟩
 ·
  refine ji_condT rfl hc7 ?_
  obtain ⟨rv3, h_rv3, h⟩ := bnd h
  refine ji_region ⟨[(4, kU (IntKind.u64.wrap rv3)), (5, k8 0)], []⟩ (ro_oz 1 [kU wv] rfl (lo_call [kU wv] [1] 9 rfl Try.call26 (bits_Low32_ok h_rv3) rfl rfl rfl rfl rfl) rfl (by kernel_rfl)) ?_
  obtain rfl := sj h
  exact je_ret (le_z (by kernel_rfl))
 refine ji_condF rfl hc7 ?_
 refine ji_rz ⟨[(1, kU wv), (6, kI k), (22, kB (k == 7))], []⟩ (by kernel_rfl) ?_
 rcases ite_some h with ⟨hc8, h⟩ | ⟨hc8, h⟩
 ·
  refine ji_condT rfl hc8 ?_
  obtain ⟨rv4, h_rv4, h⟩ := bnd h
  refine ji_region ⟨[(4, kU rv4), (5, k8 0)], []⟩ (ro_oz 1 [kU wv] rfl (lo_call [kU wv] [1] 9 rfl Try.call27 (kind_truth_ok h_rv4) rfl rfl rfl rfl rfl) rfl (by kernel_rfl)) ?_
  obtain rfl := sj h
  exact je_ret (le_z (by kernel_rfl))
 refine ji_condF rfl hc8 ?_
 refine ji_rz ⟨[(1, kU wv), (6, kI k), (26, kB (k == 2))], []⟩ (by kernel_rfl) ?_
 obtain ⟨p3, h_p3, h⟩ := bnd h
 refine ji_join (R := fun e a w => e = .normal ∧ Sx ⟨⟨34, []⟩, Xt, false, #[]⟩ ⟨[(1, kU wv), (26, kB p3)], []⟩ a w) ?_ ?_
 ·
  replace h := h_p3
  refine ji_start ?_
  rcases ite_some h with ⟨hc9, h⟩ | ⟨hc9, h⟩
  ·
   refine ji_condT rfl hc9 ?_
   obtain rfl := sj h
   exact je_nil (le_z (by kernel_rfl))
  refine ji_condF rfl hc9 ?_
  refine ji_rz ⟨[(1, kU wv), (6, kI k), (26, kB (k == 4))], []⟩ (by kernel_rfl) ?_
  rcases ite_some h with ⟨hc10, h⟩ | ⟨hc10, h⟩
  ·
   refine ji_condT rfl hc10 ?_
   obtain rfl := sj h
   exact je_nil (le_z (by kernel_rfl))
  refine ji_condF rfl hc10 ?_
  refine ji_rz ⟨[(1, kU wv), (6, kI k), (26, kB (k == 6))], []⟩ (by kernel_rfl) ?_
  rcases ite_some h with ⟨hc11, h⟩ | ⟨hc11, h⟩
  ·
   refine ji_condT rfl hc11 ?_
   obtain rfl := sj h
   exact je_nil (le_z (by kernel_rfl))
  refine ji_condF rfl hc11 ?_
  refine ji_rz ⟨[(1, kU wv), (6, kI k), (26, kB (k == 12))], []⟩ (by kernel_rfl) ?_
  rcases ite_some h with ⟨hc12, h⟩ | ⟨hc12, h⟩
  ·
   refine ji_condT rfl hc12 ?_
   obtain rfl := sj h
   exact je_nil (le_z (by kernel_rfl))
  refine ji_condF rfl hc12 ?_
  refine ji_rz ⟨[(1, kU wv), (6, kI k), (26, kB (k == 13))], []⟩ (by kernel_rfl) ?_
  rcases ite_some h with ⟨hc13, h⟩ | ⟨hc13, h⟩
  ·
   refine ji_condT rfl hc13 ?_
   obtain rfl := sj h
   exact je_nil (le_z (by kernel_rfl))
  refine ji_condF rfl hc13 ?_
  refine ji_rz ⟨[(1, kU wv), (26, kB (k == 14))], []⟩ (by kernel_rfl) ?_
  obtain rfl := sj h
  exact je_nil (le_z (by kernel_rfl))
 refine k_norm ?_
 rcases ite_some h with ⟨hc14, h⟩ | ⟨hc14, h⟩
 ·
  refine ji_condT rfl hc14 ?_
  refine ji_rz ⟨[(4, kU wv), (5, k8 0)], []⟩ (by kernel_rfl) ?_
  obtain rfl := sj h
  exact je_ret (le_z (by kernel_rfl))
 refine ji_condF rfl hc14 ?_
 refine ji_end ?_
 refine ji_rz ⟨[(4, kU 0), (5, k8 2)], []⟩ (by kernel_rfl) ?_
 obtain rfl := sj h
 exact je_ret (le_z (by kernel_rfl))
theorem kind_Number_ok {k : Int} {r : Bool} (h : kind_Number k = some r) : FnOk Try.prog 14 [kI k] [kB r] := by
 refine fn_intro' (E := ⟨[(2, kB r)], []⟩) 16 Try.func14 rfl rfl rfl ⟨rfl, trivial⟩ (fun Xt => ?_)
 refine ji_start ?_
 refine ji_le (E' := ⟨[(0, kI k)], []⟩) (fun _ _ _ hs => hs) ?_
 unfold kind_Number at h
 refine ji_rz ⟨[(0, kI k)], []⟩ (by kernel_rfl) ?_
 obtain ⟨rv, h_rv, h⟩ := bnd h
 refine ji_region ⟨[(3, kI rv.1), (4, k8 rv.2)], []⟩ (ro_oz 1 [kI k] rfl (lo_call [kI k] [1] 9 rfl Try.call10 (kind_Wire_ok h_rv) rfl rfl rfl rfl rfl) rfl (by kernel_rfl)) ?_
 refine ji_region ⟨[(2, kB ((rv.2 == 0) && (rv.1 != 2)))], []⟩ ?_ ?_
 ·
  refine (ro_sp 3 12 (rv.2 == 0) ⟨[(3, kI rv.1), (12, kB (rv.2 == 0))], []⟩ (by kernel_rfl) rfl (fun hc1 => ?_) (fun hc1 => ?_))
  · exact (ro_zb 2 (rv.1 != 2) ((rv.2 == 0) && (rv.1 != 2)) (by rw [hc1] <;> rfl) (by kernel_rfl) (by kernel_rfl))
  exact (ro_zb 2 false ((rv.2 == 0) && (rv.1 != 2)) (by rw [hc1] <;> rfl) (by kernel_rfl) (by kernel_rfl))
 obtain rfl := sj h
 exact je_ret (le_z (by kernel_rfl))
theorem darninglaw06_alive_ok  {r : Bool} (h : darninglaw06_alive = some r) : FnOk Try.prog 6 [] [kB r] := by
 refine fn_intro' (E := ⟨[(0, kB r)], []⟩) 27 Try.func6 rfl rfl rfl ⟨rfl, trivial⟩ (fun Xt => ?_)
 refine ji_start ?_
 refine ji_le (E' := ⟨[], []⟩) (fun _ _ _ hs => hs) ?_
 unfold darninglaw06_alive at h
 refine ji_rz ⟨[], []⟩ (by kernel_rfl) ?_
 obtain ⟨rv, h_rv, h⟩ := bnd h
 refine ji_region ⟨[(1, kU rv.1), (2, k8 rv.2)], []⟩ (ro_oz 0 [kI 1, kU 4294967295] rfl (lo_call [kI 1, kU 4294967295] [1] 9 rfl Try.call17 (kind_Canon_ok h_rv) rfl rfl rfl rfl rfl) rfl (by kernel_rfl)) ?_
 obtain ⟨rv2, h_rv2, h⟩ := bnd h
 refine ji_region ⟨[(1, kU rv.1), (2, k8 rv.2), (3, kU rv2.1), (4, k8 rv2.2)], []⟩ (ro_oz 0 [kI 7, kU 7] rfl (lo_call [kI 7, kU 7] [1] 9 rfl Try.call17 (kind_Canon_ok h_rv2) rfl rfl rfl rfl rfl) rfl (by kernel_rfl)) ?_
 refine ji_region ⟨[(0, kB (((IntKind.i64.wrap ((IntKind.i64.wrap rv.2) + (IntKind.i64.wrap rv2.2))) == 0) && ((rv.1 == 18446744073709551615) && (rv2.1 == 1))))], []⟩ ?_ ?_
 ·
  refine (ro_sp 7 19 ((IntKind.i64.wrap ((IntKind.i64.wrap rv.2) + (IntKind.i64.wrap rv2.2))) == 0) ⟨[(1, kU rv.1), (3, kU rv2.1), (19, kB ((IntKind.i64.wrap ((IntKind.i64.wrap rv.2) + (IntKind.i64.wrap rv2.2))) == 0))], []⟩ (by kernel_rfl) rfl (fun hc1 => ?_) (fun hc1 => ?_))
  ·
   refine (ro_sp 4 23 (rv.1 == 18446744073709551615) ⟨[(3, kU rv2.1), (23, kB (rv.1 == 18446744073709551615))], []⟩ (by kernel_rfl) rfl (fun hc2 => ?_) (fun hc2 => ?_))
   · exact (ro_zb 0 (rv2.1 == 1) (((IntKind.i64.wrap ((IntKind.i64.wrap rv.2) + (IntKind.i64.wrap rv2.2))) == 0) && ((rv.1 == 18446744073709551615) && (rv2.1 == 1))) (by rw [hc1, hc2] <;> rfl) (by kernel_rfl) (by kernel_rfl))
   exact (ro_zb 0 false (((IntKind.i64.wrap ((IntKind.i64.wrap rv.2) + (IntKind.i64.wrap rv2.2))) == 0) && ((rv.1 == 18446744073709551615) && (rv2.1 == 1))) (by rw [hc1, hc2] <;> rfl) (by kernel_rfl) (by kernel_rfl))
  exact (ro_zb 0 false (((IntKind.i64.wrap ((IntKind.i64.wrap rv.2) + (IntKind.i64.wrap rv2.2))) == 0) && ((rv.1 == 18446744073709551615) && (rv2.1 == 1))) (by rw [hc1] <;> rfl) (by kernel_rfl) (by kernel_rfl))
 obtain rfl := sj h
 exact je_ret (le_z (by kernel_rfl))
theorem kind_Signed_ok {k : Int} {wv : Int} {r : (Int × Int)} (h : kind_Signed k wv = some r) : FnOk Try.prog 18 [kI k, kU wv] [kI r.1, k8 r.2] := by
 refine fn_intro' (E := ⟨[(4, kI r.1), (5, k8 r.2)], []⟩) 32 Try.func18 rfl rfl rfl ⟨rfl, rfl, trivial⟩ (fun Xt => ?_)
 refine ji_start ?_
 refine ji_le (E' := ⟨[(0, kI k), (1, kU wv)], []⟩) (fun _ _ _ hs => hs) ?_
 unfold kind_Signed at h
 refine ji_rz ⟨[(0, kI k), (1, kU wv)], []⟩ (by kernel_rfl) ?_
 obtain ⟨rv, h_rv, h⟩ := bnd h
 refine ji_region ⟨[(0, kI k), (6, kU rv.1)], []⟩ (ro_oz 2 [kI k, kU wv] rfl (lo_call [kI k, kU wv] [1] 9 rfl Try.call17 (kind_Canon_ok h_rv) rfl rfl rfl rfl rfl) rfl (by kernel_rfl)) ?_
 refine ji_rz ⟨[(6, kU rv.1), (14, kI k)], []⟩ (by kernel_rfl) ?_
 refine ji_block ?_
 refine ji_rz ⟨[(6, kU rv.1), (14, kI k), (15, kB (k == 1))], []⟩ (by kernel_rfl) ?_
 obtain ⟨p, h_p, h⟩ := bnd h
 refine ji_join (R := fun e a w => e = .normal ∧ Sx ⟨⟨32, []⟩, Xt, false, #[]⟩ ⟨[(6, kU rv.1), (14, kI k), (15, kB p)], []⟩ a w) ?_ ?_
 ·
  replace h := h_p
  refine ji_start ?_
  rcases ite_some h with ⟨hc1, h⟩ | ⟨hc1, h⟩
  ·
   refine ji_condT rfl hc1 ?_
   obtain rfl := sj h
   exact je_nil (le_z (by kernel_rfl))
  refine ji_condF rfl hc1 ?_
  refine ji_rz ⟨[(6, kU rv.1), (14, kI k), (15, kB (k == 2))], []⟩ (by kernel_rfl) ?_
  rcases ite_some h with ⟨hc2, h⟩ | ⟨hc2, h⟩
  ·
   refine ji_condT rfl hc2 ?_
   obtain rfl := sj h
   exact je_nil (le_z (by kernel_rfl))
  refine ji_condF rfl hc2 ?_
  refine ji_rz ⟨[(6, kU rv.1), (14, kI k), (15, kB (k == 8))], []⟩ (by kernel_rfl) ?_
  rcases ite_some h with ⟨hc3, h⟩ | ⟨hc3, h⟩
  ·
   refine ji_condT rfl hc3 ?_
   obtain rfl := sj h
   exact je_nil (le_z (by kernel_rfl))
  refine ji_condF rfl hc3 ?_
  refine ji_rz ⟨[(6, kU rv.1), (14, kI k), (15, kB (k == 13))], []⟩ (by kernel_rfl) ?_
  obtain rfl := sj h
  exact je_nil (le_z (by kernel_rfl))
 refine k_norm ?_
 rcases ite_some h with ⟨hc4, h⟩ | ⟨hc4, h⟩
 ·
  refine ji_condT rfl hc4 ?_
  refine ji_rz ⟨[(4, kI (IntKind.i64.wrap rv.1)), (5, k8 0)], []⟩ (by kernel_rfl) ?_
  obtain rfl := sj h
  exact je_ret (le_z (by kernel_rfl))
 refine ji_condF rfl hc4 ?_
 refine ji_rz ⟨[(6, kU rv.1), (14, kI k), (22, kB (k == 10))], []⟩ (by kernel_rfl) ?_
 rcases ite_some h with ⟨hc5, h⟩ | ⟨hc5, h⟩
 ·
  refine ji_condT rfl hc5 ?_
  obtain ⟨rv2, h_rv2, h⟩ := bnd h
  refine ji_region ⟨[(4, kI (IntKind.i64.wrap rv2)), (5, k8 0)], []⟩ (ro_oz 1 [kU rv.1] rfl (lo_call [kU rv.1] [1] 9 rfl Try.call25 (bits_Sign32_ok h_rv2) rfl rfl rfl rfl rfl) rfl (by kernel_rfl)) ?_
  obtain rfl := sj h
  exact je_ret (le_z (by kernel_rfl))
 refine ji_condF rfl hc5 ?_
 refine ji_rz ⟨[(6, kU rv.1), (14, kI k), (27, kB (k == 5))], []⟩ (by kernel_rfl) ?_
 obtain ⟨p2, h_p2, h⟩ := bnd h
 refine ji_join (R := fun e a w => e = .normal ∧ Sx ⟨⟨32, []⟩, Xt, false, #[]⟩ ⟨[(6, kU rv.1), (27, kB p2)], []⟩ a w) ?_ ?_
 ·
  replace h := h_p2
  refine ji_start ?_
  rcases ite_some h with ⟨hc6, h⟩ | ⟨hc6, h⟩
  ·
   refine ji_condT rfl hc6 ?_
   obtain rfl := sj h
   exact je_nil (le_z (by kernel_rfl))
  refine ji_condF rfl hc6 ?_
  refine ji_rz ⟨[(6, kU rv.1), (27, kB (k == 6))], []⟩ (by kernel_rfl) ?_
  obtain rfl := sj h
  exact je_nil (le_z (by kernel_rfl))
 refine k_norm ?_
 rcases ite_some h with ⟨hc7, h⟩ | ⟨hc7, h⟩
 ·
  refine ji_condT rfl hc7 ?_
  obtain ⟨rv3, h_rv3, h⟩ := bnd h
  refine ji_region ⟨[(4, kI rv3), (5, k8 0)], []⟩ (ro_oz 1 [kU rv.1] rfl (lo_call [kU rv.1] [1] 9 rfl Try.call28 (bits_Zag_ok h_rv3) rfl rfl rfl rfl rfl) rfl (by kernel_rfl)) ?_
  obtain rfl := sj h
  exact je_ret (le_z (by kernel_rfl))
 refine ji_condF rfl hc7 ?_
 refine ji_end ?_
 refine ji_rz ⟨[(4, kI 0), (5, k8 2)], []⟩ (by kernel_rfl) ?_
 obtain rfl := sj h
 exact je_ret (le_z (by kernel_rfl))
theorem darninglaw06_KindForms_ok {k : Int} {name : Str} {r : Bool} (h : darninglaw06_KindForms k name = some r) : FnOk Try.prog 3 [kI k, kS name] [kB r] := by
 refine fn_intro' (E := ⟨[(4, kB r)], []⟩) 129 Try.func3 rfl rfl rfl ⟨rfl, trivial⟩ (fun Xt => ?_)
 refine ji_start ?_
 refine ji_le (E' := ⟨[(0, kI k), (1, kS name)], []⟩) (fun _ _ _ hs => hs) ?_
 unfold darninglaw06_KindForms at h
 refine ji_rz ⟨[(0, kI k), (1, kS name)], []⟩ (by kernel_rfl) ?_
 obtain ⟨rv, h_rv, h⟩ := bnd h
 refine ji_region ⟨[(0, kI k), (1, kS name), (12, kB (!rv))], []⟩ (ro_oz 0 [] rfl (lo_call [] [1] 9 rfl Try.call6 (darninglaw06_alive_ok h_rv) rfl rfl rfl rfl rfl) rfl (by kernel_rfl)) ?_
 rcases ite_some h with ⟨hc1, h⟩ | ⟨hc1, h⟩
 ·
  refine ji_condT rfl hc1 ?_
  refine ji_rz ⟨[(4, kB false)], []⟩ (by kernel_rfl) ?_
  obtain rfl := sj h
  exact je_ret (le_z (by kernel_rfl))
 refine ji_condF rfl hc1 ?_
 refine ji_rz ⟨[(0, kI k), (1, kS name), (15, kB (decide ((name.length : Int) > 500)))], []⟩ (by kernel_rfl) ?_
 rcases ite_some h with ⟨hc2, h⟩ | ⟨hc2, h⟩
 ·
  refine ji_condT rfl hc2 ?_
  refine ji_rz ⟨[(4, kB true)], []⟩ (by kernel_rfl) ?_
  obtain rfl := sj h
  exact je_ret (le_z (by kernel_rfl))
 refine ji_condF rfl hc2 ?_
 obtain ⟨rv2, h_rv2, h⟩ := bnd h
 refine ji_region ⟨[(0, kI k), (1, kS name), (5, kI rv2.1), (6, k8 rv2.2)], []⟩ (ro_oz 1 [kS name] rfl (lo_call [kS name] [1] 9 rfl Try.call7 (kind_Parse_ok h_rv2) rfl rfl rfl rfl rfl) rfl (by kernel_rfl)) ?_
 refine ji_rz ⟨[(0, kI k), (1, kS name), (5, kI rv2.1), (6, k8 rv2.2), (7, kI 0)], []⟩ (by kernel_rfl) ?_
 refine ji_rz ⟨[(0, kI k), (1, kS name), (5, kI rv2.1), (6, k8 rv2.2), (7, kI 0), (8, kI 1)], []⟩ (by kernel_rfl) ?_
 refine ji_block ?_
 obtain ⟨q, h_q, h⟩ := bnd h
 refine je_loop (fun s : (Int × Int) => darninglaw06_KindForms_b1 name s.1 s.2) (fun s => ⟨[(0, kI k), (1, kS name), (5, kI rv2.1), (6, k8 rv2.2), (7, kI s.1), (8, kI s.2)], []⟩) (fun o e a w => e = .exit 0 ∧ Sx ⟨⟨129, []⟩, Xt, false, #[]⟩ ⟨[(0, kI k), (5, kI rv2.1), (6, k8 rv2.2), (7, kI o)], []⟩ a w) ?_ h_q (le_z (by kernel_rfl)) ?_
 ·
  clear h
  intro s o h
  obtain ⟨want, i⟩ := s
  refine ji_start ?_
  refine ji_le (E' := ⟨[(0, kI k), (1, kS name), (5, kI rv2.1), (6, k8 rv2.2), (7, kI want), (8, kI i)], []⟩) (fun _ _ _ hs => hs) ?_
  replace h : darninglaw06_KindForms_b1 name want i = some o := h
  unfold darninglaw06_KindForms_b1 at h
  refine ji_rz ⟨[(0, kI k), (1, kS name), (5, kI rv2.1), (6, k8 rv2.2), (7, kI want), (8, kI i), (22, kB (decide (i ≤ 17)))], []⟩ (by kernel_rfl) ?_
  rcases ite_some h with ⟨hc3, h⟩ | ⟨hc3, h⟩
  ·
   refine ji_condT rfl hc3 ?_
   refine ji_block ?_
   obtain ⟨rv3, h_rv3, h⟩ := bnd h
   obtain ⟨x, h_x, h⟩ := bnd h
   refine ji_region ⟨[(0, kI k), (1, kS name), (5, kI rv2.1), (6, k8 rv2.2), (7, kI want), (8, kI i), (30, kB (x == name))], []⟩ (ro_o 0 [] ⟨[(0, kI k), (1, kS name), (5, kI rv2.1), (6, k8 rv2.2), (7, kI want), (8, kI i), (25, .own Rp.str 9 12 [] rv3)], []⟩ rfl (lo_call [] [1] 10 rfl Try.call8 (darningref06_Names_ok h_rv3) rfl rfl rfl rfl rfl) rfl (by kernel_rfl) (ro_oz 1 [.own Rp.str 9 12 [] rv3, kI i] rfl (lo_ix rfl zet26.el (isSl_own _ _ _ _ _) h_x) rfl (by kernel_rfl))) ?_
   rcases ite_some h with ⟨hc4, h⟩ | ⟨hc4, h⟩
   ·
    refine ji_condT rfl hc4 ?_
    refine ji_rz ⟨[(0, kI k), (1, kS name), (5, kI rv2.1), (6, k8 rv2.2), (7, kI i), (8, kI i)], []⟩ (by kernel_rfl) ?_
    refine ji_end ?_
    refine ji_rz ⟨[(0, kI k), (1, kS name), (5, kI rv2.1), (6, k8 rv2.2), (7, kI i), (8, kI (IntKind.i64.wrap (i + 1)))], []⟩ (by kernel_rfl) ?_
    obtain rfl := sj h
    exact je_nil (le_z (by kernel_rfl))
   refine ji_condF rfl hc4 ?_
   refine ji_end ?_
   refine ji_rz ⟨[(0, kI k), (1, kS name), (5, kI rv2.1), (6, k8 rv2.2), (7, kI want), (8, kI (IntKind.i64.wrap (i + 1)))], []⟩ (by kernel_rfl) ?_
   obtain rfl := sj h
   exact je_nil (le_z (by kernel_rfl))
  refine ji_condF rfl hc3 ?_
  obtain rfl := sj h
  exact je_out' rfl (le_z (by kernel_rfl))
 refine k_exit _ rfl ?_
 obtain ⟨g, h_g, h⟩ := bnd h
 refine ji_region ⟨[(0, kI k), (69, kB g)], []⟩ ?_ ?_
 ·
  refine (ro_sp 4 35 (rv2.1 != q) ⟨[(0, kI k), (6, k8 rv2.2), (7, kI q), (35, kB (rv2.1 != q))], []⟩ (by kernel_rfl) rfl (fun hc5 => ?_) (fun hc5 => ?_))
  ·
   replace h_g := iteT h_g hc5
   obtain rfl := sj h_g
   exact (ro_z (by kernel_rfl))
  replace h_g := iteF h_g hc5
  refine (ro_sp 8 43 (!(((IntKind.i64.wrap rv2.2) == 0) == (decide (q > 0)))) ⟨[(0, kI k), (6, k8 rv2.2), (43, kB (!(((IntKind.i64.wrap rv2.2) == 0) == (decide (q > 0)))))], []⟩ (by kernel_rfl) rfl (fun hc6 => ?_) (fun hc6 => ?_))
  ·
   replace h_g := iteT h_g hc6
   obtain rfl := sj h_g
   exact (ro_z (by kernel_rfl))
  replace h_g := iteF h_g hc6
  refine (ro_sp 4 47 ((IntKind.i64.wrap rv2.2) != 0) ⟨[(0, kI k), (6, k8 rv2.2), (43, kB false), (47, kB ((IntKind.i64.wrap rv2.2) != 0))], []⟩ (by kernel_rfl) rfl (fun hc7 => ?_) (fun hc7 => ?_))
  ·
   replace h_g := iteT h_g hc7
   refine (ro_sp 6 53 ((IntKind.i64.wrap rv2.2) != 11) ⟨[(0, kI k), (53, kB ((IntKind.i64.wrap rv2.2) != 11))], []⟩ (by kernel_rfl) rfl (fun hc8 => ?_) (fun hc8 => ?_))
   ·
    replace h_g := iteT h_g hc8
    obtain rfl := sj h_g
    exact (ro_z (by kernel_rfl))
   replace h_g := iteF h_g hc8
   obtain ⟨rv4, h_rv4, h_g⟩ := bnd h_g
   refine (ro_o 0 [] ⟨[(0, kI k), (53, kB false), (54, .own (Rp.int .i64) 3 13 [] rv4)], []⟩ rfl (lo_call [] [1] 11 rfl Try.call9 (kind_All_ok h_rv4) rfl rfl rfl rfl rfl) rfl (by kernel_rfl) (ro_sp 4 58 ((rv4.length : Int) != 17) ⟨[(0, kI k), (58, kB ((rv4.length : Int) != 17))], []⟩ (by kernel_rfl) rfl (fun hc9 => ?_) (fun hc9 => ?_)))
   ·
    replace h_g := iteT h_g hc9
    obtain rfl := sj h_g
    exact (ro_z (by kernel_rfl))
   replace h_g := iteF h_g hc9
   obtain ⟨rv5, h_rv5, h_g⟩ := bnd h_g
   obtain ⟨x2, h_x2, h_g⟩ := bnd h_g
   refine (ro_o 0 [] ⟨[(0, kI k), (58, kB false), (59, .own (Rp.int .i64) 3 14 [] rv5)], []⟩ rfl (lo_call [] [1] 12 rfl Try.call9 (kind_All_ok h_rv5) rfl rfl rfl rfl rfl) rfl (by kernel_rfl) (ro_o 0 [.own (Rp.int .i64) 3 14 [] rv5, kI 16] ⟨[(0, kI k), (58, kB false), (60, .ep (Rp.int .i64) [14] x2 0)], []⟩ rfl (lo_ix rfl zet28.el (isSl_own _ _ _ _ _) h_x2) rfl (by kernel_rfl) (ro_sp 4 64 (x2 != 17) ⟨[(0, kI k), (64, kB (x2 != 17))], []⟩ (by kernel_rfl) rfl (fun hc10 => ?_) (fun hc10 => ?_))))
   ·
    replace h_g := iteT h_g hc10
    obtain rfl := sj h_g
    exact (ro_z (by kernel_rfl))
   replace h_g := iteF h_g hc10
   obtain ⟨rv6, h_rv6, h_g⟩ := bnd h_g
   obtain ⟨x3, h_x3, h_g⟩ := bnd h_g
   obtain rfl := sj h_g
   exact (ro_o 0 [] ⟨[(0, kI k), (64, kB false), (65, .own (Rp.int .i64) 3 15 [] rv6)], []⟩ rfl (lo_call [] [1] 13 rfl Try.call9 (kind_All_ok h_rv6) rfl rfl rfl rfl rfl) rfl (by kernel_rfl) (ro_oz 0 [.own (Rp.int .i64) 3 15 [] rv6, kI 0] rfl (lo_ix rfl zet28.el (isSl_own _ _ _ _ _) h_x3) rfl (by kernel_rfl)))
  replace h_g := iteF h_g hc7
  obtain ⟨rv7, h_rv7, h_g⟩ := bnd h_g
  refine (ro_o 6 [] ⟨[(0, kI k), (53, kB false), (54, .own (Rp.int .i64) 3 16 [] rv7)], []⟩ rfl (lo_call [] [1] 14 rfl Try.call9 (kind_All_ok h_rv7) rfl rfl rfl rfl rfl) rfl (by kernel_rfl) (ro_sp 4 58 ((rv7.length : Int) != 17) ⟨[(0, kI k), (58, kB ((rv7.length : Int) != 17))], []⟩ (by kernel_rfl) rfl (fun hc11 => ?_) (fun hc11 => ?_)))
  ·
   replace h_g := iteT h_g hc11
   obtain rfl := sj h_g
   exact (ro_z (by kernel_rfl))
  replace h_g := iteF h_g hc11
  obtain ⟨rv8, h_rv8, h_g⟩ := bnd h_g
  obtain ⟨x4, h_x4, h_g⟩ := bnd h_g
  refine (ro_o 0 [] ⟨[(0, kI k), (58, kB false), (59, .own (Rp.int .i64) 3 17 [] rv8)], []⟩ rfl (lo_call [] [1] 15 rfl Try.call9 (kind_All_ok h_rv8) rfl rfl rfl rfl rfl) rfl (by kernel_rfl) (ro_o 0 [.own (Rp.int .i64) 3 17 [] rv8, kI 16] ⟨[(0, kI k), (58, kB false), (60, .ep (Rp.int .i64) [17] x4 0)], []⟩ rfl (lo_ix rfl zet28.el (isSl_own _ _ _ _ _) h_x4) rfl (by kernel_rfl) (ro_sp 4 64 (x4 != 17) ⟨[(0, kI k), (64, kB (x4 != 17))], []⟩ (by kernel_rfl) rfl (fun hc12 => ?_) (fun hc12 => ?_))))
  ·
   replace h_g := iteT h_g hc12
   obtain rfl := sj h_g
   exact (ro_z (by kernel_rfl))
  replace h_g := iteF h_g hc12
  obtain ⟨rv9, h_rv9, h_g⟩ := bnd h_g
  obtain ⟨x5, h_x5, h_g⟩ := bnd h_g
  obtain rfl := sj h_g
  exact (ro_o 0 [] ⟨[(0, kI k), (64, kB false), (65, .own (Rp.int .i64) 3 18 [] rv9)], []⟩ rfl (lo_call [] [1] 16 rfl Try.call9 (kind_All_ok h_rv9) rfl rfl rfl rfl rfl) rfl (by kernel_rfl) (ro_oz 0 [.own (Rp.int .i64) 3 18 [] rv9, kI 0] rfl (lo_ix rfl zet28.el (isSl_own _ _ _ _ _) h_x5) rfl (by kernel_rfl)))
 rcases ite_some h with ⟨hc13, h⟩ | ⟨hc13, h⟩
 ·
  refine ji_condT rfl hc13 ?_
  refine ji_rz ⟨[(4, kB false)], []⟩ (by kernel_rfl) ?_
  obtain rfl := sj h
  exact je_ret (le_z (by kernel_rfl))
 refine ji_condF rfl hc13 ?_
 obtain ⟨rv10, h_rv10, h⟩ := bnd h
 refine ji_region ⟨[(0, kI k), (9, kI rv10.1), (10, k8 rv10.2)], []⟩ (ro_oz 1 [kI k] rfl (lo_call [kI k] [1] 17 rfl Try.call10 (kind_Wire_ok h_rv10) rfl rfl rfl rfl rfl) rfl (by kernel_rfl)) ?_
 obtain ⟨rv11, h_rv11, h⟩ := bnd h
 refine ji_region ⟨[(0, kI k), (9, kI rv10.1), (10, k8 rv10.2), (77, kB (!rv11))], []⟩ (ro_oz 1 [kI k] rfl (lo_call [kI k] [1] 17 rfl Try.call11 (darningref06_Right_ok h_rv11) rfl rfl rfl rfl rfl) rfl (by kernel_rfl)) ?_
 rcases ite_some h with ⟨hc14, h⟩ | ⟨hc14, h⟩
 ·
  refine ji_condT rfl hc14 ?_
  obtain ⟨g2, h_g2, h⟩ := bnd h
  refine ji_region ⟨[(4, kB g2)], []⟩ ?_ ?_
  ·
   obtain ⟨rv12, h_rv12, h_g2⟩ := bnd h_g2
   refine (ro_o 1 [kI k] ⟨[(0, kI k), (9, kI rv10.1), (10, k8 rv10.2), (79, kB rv12)], []⟩ rfl (lo_call [kI k] [1] 17 rfl Try.call12 (kind_Right_ok h_rv12) rfl rfl rfl rfl rfl) rfl (by kernel_rfl) (ro_sp 2 81 (!rv12) ⟨[(0, kI k), (9, kI rv10.1), (10, k8 rv10.2), (81, kB (!rv12))], []⟩ (by kernel_rfl) rfl (fun hc15 => ?_) (fun hc15 => ?_)))
   ·
    replace h_g2 := iteT h_g2 hc15
    obtain ⟨rv13, h_rv13, h_g2⟩ := bnd h_g2
    refine (ro_o 1 [kI k] ⟨[(0, kI k), (9, kI rv10.1), (10, k8 rv10.2), (81, kB true), (83, kS rv13)], []⟩ rfl (lo_call [kI k] [1] 17 rfl Try.call13 (kind_Name_ok h_rv13) rfl rfl rfl rfl rfl) rfl (by kernel_rfl) (ro_sp 3 86 (rv13 == []) ⟨[(0, kI k), (9, kI rv10.1), (10, k8 rv10.2), (86, kB (rv13 == []))], []⟩ (by kernel_rfl) rfl (fun hc16 => ?_) (fun hc16 => ?_)))
    ·
     replace h_g2 := iteT h_g2 hc16
     refine (ro_sp 5 91 ((IntKind.i64.wrap rv10.2) == 2) ⟨[(0, kI k), (9, kI rv10.1), (91, kB ((IntKind.i64.wrap rv10.2) == 2))], []⟩ (by kernel_rfl) rfl (fun hc17 => ?_) (fun hc17 => ?_))
     ·
      replace h_g2 := iteT h_g2 hc17
      refine (ro_sp 4 95 (rv10.1 == 0) ⟨[(0, kI k), (95, kB (rv10.1 == 0))], []⟩ (by kernel_rfl) rfl (fun hc18 => ?_) (fun hc18 => ?_))
      ·
       replace h_g2 := iteT h_g2 hc18
       obtain ⟨rv14, h_rv14, h_g2⟩ := bnd h_g2
       obtain rfl := sj h_g2
       exact (ro_oz 1 [kI k] rfl (lo_call [kI k] [1] 17 rfl Try.call14 (kind_Number_ok h_rv14) rfl rfl rfl rfl rfl) rfl (by kernel_rfl))
      replace h_g2 := iteF h_g2 hc18
      obtain rfl := sj h_g2
      exact (ro_z (by kernel_rfl))
     replace h_g2 := iteF h_g2 hc17
     obtain rfl := sj h_g2
     exact (ro_z (by kernel_rfl))
    replace h_g2 := iteF h_g2 hc16
    obtain rfl := sj h_g2
    exact (ro_z (by kernel_rfl))
   replace h_g2 := iteF h_g2 hc15
   obtain rfl := sj h_g2
   exact (ro_z (by kernel_rfl))
  obtain rfl := sj h
  exact je_ret (le_z (by kernel_rfl))
 refine ji_condF rfl hc14 ?_
 obtain ⟨g3, h_g3, h⟩ := bnd h
 refine ji_region ⟨[(4, kB g3)], []⟩ ?_ ?_
 ·
  obtain ⟨rv15, h_rv15, h_g3⟩ := bnd h_g3
  refine (ro_o 1 [kI k] ⟨[(0, kI k), (9, kI rv10.1), (10, k8 rv10.2), (101, kB rv15)], []⟩ rfl (lo_call [kI k] [1] 17 rfl Try.call12 (kind_Right_ok h_rv15) rfl rfl rfl rfl rfl) rfl (by kernel_rfl) (ro_sp 1 102 rv15 ⟨[(0, kI k), (9, kI rv10.1), (10, k8 rv10.2), (102, kB rv15)], []⟩ (by kernel_rfl) rfl (fun hc19 => ?_) (fun hc19 => ?_)))
  ·
   replace h_g3 := iteT h_g3 hc19
   obtain ⟨rv16, h_rv16, h_g3⟩ := bnd h_g3
   obtain ⟨rv17, h_rv17, h_g3⟩ := bnd h_g3
   obtain ⟨x6, h_x6, h_g3⟩ := bnd h_g3
   refine (ro_o 1 [kI k] ⟨[(0, kI k), (9, kI rv10.1), (10, k8 rv10.2), (102, kB true), (104, kS rv16)], []⟩ rfl (lo_call [kI k] [1] 17 rfl Try.call13 (kind_Name_ok h_rv16) rfl rfl rfl rfl rfl) rfl (by kernel_rfl) (ro_o 0 [] ⟨[(0, kI k), (9, kI rv10.1), (10, k8 rv10.2), (102, kB true), (104, kS rv16), (105, .own Rp.str 9 19 [] rv17)], []⟩ rfl (lo_call [] [1] 17 rfl Try.call8 (darningref06_Names_ok h_rv17) rfl rfl rfl rfl rfl) rfl (by kernel_rfl) (ro_o 1 [.own Rp.str 9 19 [] rv17, kI k] ⟨[(0, kI k), (9, kI rv10.1), (10, k8 rv10.2), (102, kB true), (104, kS rv16), (107, .ep Rp.str [19] x6 0)], []⟩ rfl (lo_ix rfl zet26.el (isSl_own _ _ _ _ _) h_x6) rfl (by kernel_rfl) (ro_sp 4 111 (rv16 == x6) ⟨[(0, kI k), (9, kI rv10.1), (10, k8 rv10.2), (111, kB (rv16 == x6))], []⟩ (by kernel_rfl) rfl (fun hc20 => ?_) (fun hc20 => ?_)))))
   ·
    replace h_g3 := iteT h_g3 hc20
    refine (ro_sp 5 116 ((IntKind.i64.wrap rv10.2) == 0) ⟨[(0, kI k), (9, kI rv10.1), (116, kB ((IntKind.i64.wrap rv10.2) == 0))], []⟩ (by kernel_rfl) rfl (fun hc21 => ?_) (fun hc21 => ?_))
    ·
     replace h_g3 := iteT h_g3 hc21
     obtain ⟨rv18, h_rv18, h_g3⟩ := bnd h_g3
     refine (ro_o 2 [kI k] ⟨[(0, kI k), (116, kB true), (117, kI rv10.1), (119, kI rv18)], []⟩ rfl (lo_call [kI k] [1] 18 rfl Try.call15 (darningref06_Wire_ok h_rv18) rfl rfl rfl rfl rfl) rfl (by kernel_rfl) (ro_sp 3 122 (rv10.1 == rv18) ⟨[(0, kI k), (122, kB (rv10.1 == rv18))], []⟩ (by kernel_rfl) rfl (fun hc22 => ?_) (fun hc22 => ?_)))
     ·
      replace h_g3 := iteT h_g3 hc22
      obtain ⟨rv19, h_rv19, h_g3⟩ := bnd h_g3
      obtain ⟨rv20, h_rv20, h_g3⟩ := bnd h_g3
      obtain rfl := sj h_g3
      exact (ro_o 1 [kI k] ⟨[(0, kI k), (122, kB true), (124, kB rv19)], []⟩ rfl (lo_call [kI k] [1] 18 rfl Try.call14 (kind_Number_ok h_rv19) rfl rfl rfl rfl rfl) rfl (by kernel_rfl) (ro_oz 1 [kI k] rfl (lo_call [kI k] [1] 18 rfl Try.call16 (darningref06_Number_ok h_rv20) rfl rfl rfl rfl rfl) rfl (by kernel_rfl)))
     replace h_g3 := iteF h_g3 hc22
     obtain rfl := sj h_g3
     exact (ro_z (by kernel_rfl))
    replace h_g3 := iteF h_g3 hc21
    obtain rfl := sj h_g3
    exact (ro_z (by kernel_rfl))
   replace h_g3 := iteF h_g3 hc20
   obtain rfl := sj h_g3
   exact (ro_z (by kernel_rfl))
  replace h_g3 := iteF h_g3 hc19
  obtain rfl := sj h_g3
  exact (ro_z (by kernel_rfl))
 obtain rfl := sj h
 exact je_ret (le_z (by kernel_rfl))
theorem darninglaw06_KindWords_ok {k : Int} {wv : Int} {r : Bool} (h : darninglaw06_KindWords k wv = some r) : FnOk Try.prog 4 [kI k, kU wv] [kB r] := by
 refine fn_intro' (E := ⟨[(4, kB r)], []⟩) 82 Try.func4 rfl rfl rfl ⟨rfl, trivial⟩ (fun Xt => ?_)
 refine ji_start ?_
 refine ji_le (E' := ⟨[(0, kI k), (1, kU wv)], []⟩) (fun _ _ _ hs => hs) ?_
 unfold darninglaw06_KindWords at h
 refine ji_rz ⟨[(0, kI k), (1, kU wv)], []⟩ (by kernel_rfl) ?_
 obtain ⟨rv, h_rv, h⟩ := bnd h
 refine ji_region ⟨[(0, kI k), (1, kU wv), (12, kB (!rv))], []⟩ (ro_oz 0 [] rfl (lo_call [] [1] 9 rfl Try.call6 (darninglaw06_alive_ok h_rv) rfl rfl rfl rfl rfl) rfl (by kernel_rfl)) ?_
 rcases ite_some h with ⟨hc1, h⟩ | ⟨hc1, h⟩
 ·
  refine ji_condT rfl hc1 ?_
  refine ji_rz ⟨[(4, kB false)], []⟩ (by kernel_rfl) ?_
  obtain rfl := sj h
  exact je_ret (le_z (by kernel_rfl))
 refine ji_condF rfl hc1 ?_
 obtain ⟨rv2, h_rv2, h⟩ := bnd h
 refine ji_region ⟨[(0, kI k), (1, kU wv), (5, kU rv2.1), (6, k8 rv2.2)], []⟩ (ro_oz 2 [kI k, kU wv] rfl (lo_call [kI k, kU wv] [1] 9 rfl Try.call17 (kind_Canon_ok h_rv2) rfl rfl rfl rfl rfl) rfl (by kernel_rfl)) ?_
 obtain ⟨rv3, h_rv3, h⟩ := bnd h
 refine ji_region ⟨[(0, kI k), (1, kU wv), (5, kU rv2.1), (6, k8 rv2.2), (7, kI rv3.1), (8, k8 rv3.2)], []⟩ (ro_oz 2 [kI k, kU wv] rfl (lo_call [kI k, kU wv] [1] 9 rfl Try.call18 (kind_Signed_ok h_rv3) rfl rfl rfl rfl rfl) rfl (by kernel_rfl)) ?_
 obtain ⟨rv4, h_rv4, h⟩ := bnd h
 refine ji_region ⟨[(0, kI k), (1, kU wv), (5, kU rv2.1), (6, k8 rv2.2), (7, kI rv3.1), (8, k8 rv3.2), (9, kI rv4.1), (10, kB rv4.2)], []⟩ (ro_oz 2 [kI k, kU wv] rfl (lo_call [kI k, kU wv] [1] 9 rfl Try.call19 (darningref06_Signed_ok h_rv4) rfl rfl rfl rfl rfl) rfl (by kernel_rfl)) ?_
 obtain ⟨rv5, h_rv5, h⟩ := bnd h
 refine ji_region ⟨[(0, kI k), (1, kU wv), (5, kU rv2.1), (6, k8 rv2.2), (7, kI rv3.1), (8, k8 rv3.2), (9, kI rv4.1), (10, kB rv4.2), (33, kB (!rv5))], []⟩ (ro_oz 1 [kI k] rfl (lo_call [kI k] [1] 9 rfl Try.call16 (darningref06_Number_ok h_rv5) rfl rfl rfl rfl rfl) rfl (by kernel_rfl)) ?_
 rcases ite_some h with ⟨hc2, h⟩ | ⟨hc2, h⟩
 ·
  refine ji_condT rfl hc2 ?_
  refine ji_region ⟨[(4, kB (((IntKind.i64.wrap rv2.2) == 2) && ((rv2.1 == 0) && (((IntKind.i64.wrap rv3.2) == 2) && (rv3.1 == 0)))))], []⟩ ?_ ?_
  ·
   refine (ro_sp 4 37 ((IntKind.i64.wrap rv2.2) == 2) ⟨[(5, kU rv2.1), (7, kI rv3.1), (8, k8 rv3.2), (37, kB ((IntKind.i64.wrap rv2.2) == 2))], []⟩ (by kernel_rfl) rfl (fun hc3 => ?_) (fun hc3 => ?_))
   ·
    refine (ro_sp 4 41 (rv2.1 == 0) ⟨[(7, kI rv3.1), (8, k8 rv3.2), (41, kB (rv2.1 == 0))], []⟩ (by kernel_rfl) rfl (fun hc4 => ?_) (fun hc4 => ?_))
    ·
     refine (ro_sp 5 46 ((IntKind.i64.wrap rv3.2) == 2) ⟨[(7, kI rv3.1), (46, kB ((IntKind.i64.wrap rv3.2) == 2))], []⟩ (by kernel_rfl) rfl (fun hc5 => ?_) (fun hc5 => ?_))
     · exact (ro_zb 4 (rv3.1 == 0) (((IntKind.i64.wrap rv2.2) == 2) && ((rv2.1 == 0) && (((IntKind.i64.wrap rv3.2) == 2) && (rv3.1 == 0)))) (by rw [hc3, hc4, hc5] <;> rfl) (by kernel_rfl) (by kernel_rfl))
     exact (ro_zb 4 false (((IntKind.i64.wrap rv2.2) == 2) && ((rv2.1 == 0) && (((IntKind.i64.wrap rv3.2) == 2) && (rv3.1 == 0)))) (by rw [hc3, hc4, hc5] <;> rfl) (by kernel_rfl) (by kernel_rfl))
    exact (ro_zb 4 false (((IntKind.i64.wrap rv2.2) == 2) && ((rv2.1 == 0) && (((IntKind.i64.wrap rv3.2) == 2) && (rv3.1 == 0)))) (by rw [hc3, hc4] <;> rfl) (by kernel_rfl) (by kernel_rfl))
   exact (ro_zb 4 false (((IntKind.i64.wrap rv2.2) == 2) && ((rv2.1 == 0) && (((IntKind.i64.wrap rv3.2) == 2) && (rv3.1 == 0)))) (by rw [hc3] <;> rfl) (by kernel_rfl) (by kernel_rfl))
  obtain rfl := sj h
  exact je_ret (le_z (by kernel_rfl))
 refine ji_condF rfl hc2 ?_
 obtain ⟨g, h_g, h⟩ := bnd h
 refine ji_region ⟨[(4, kB g)], []⟩ ?_ ?_
 ·
  refine (ro_sp 4 53 ((IntKind.i64.wrap rv2.2) == 0) ⟨[(0, kI k), (1, kU wv), (5, kU rv2.1), (7, kI rv3.1), (8, k8 rv3.2), (9, kI rv4.1), (10, kB rv4.2), (53, kB ((IntKind.i64.wrap rv2.2) == 0))], []⟩ (by kernel_rfl) rfl (fun hc6 => ?_) (fun hc6 => ?_))
  ·
   replace h_g := iteT h_g hc6
   obtain ⟨rv6, h_rv6, h_g⟩ := bnd h_g
   refine (ro_o 3 [kI k, kU wv] ⟨[(7, kI rv3.1), (8, k8 rv3.2), (9, kI rv4.1), (10, kB rv4.2), (53, kB true), (54, kU rv2.1), (57, kU rv6)], []⟩ rfl (lo_call [kI k, kU wv] [1] 9 rfl Try.call20 (darningref06_Canon_ok h_rv6) rfl rfl rfl rfl rfl) rfl (by kernel_rfl) (ro_sp 3 60 (rv2.1 == rv6) ⟨[(7, kI rv3.1), (8, k8 rv3.2), (9, kI rv4.1), (10, kB rv4.2), (60, kB (rv2.1 == rv6))], []⟩ (by kernel_rfl) rfl (fun hc7 => ?_) (fun hc7 => ?_)))
   ·
    replace h_g := iteT h_g hc7
    refine (ro_sp 5 65 (rv3.1 == rv4.1) ⟨[(8, k8 rv3.2), (10, kB rv4.2), (65, kB (rv3.1 == rv4.1))], []⟩ (by kernel_rfl) rfl (fun hc8 => ?_) (fun hc8 => ?_))
    ·
     replace h_g := iteT h_g hc8
     refine (ro_sp 2 67 rv4.2 ⟨[(8, k8 rv3.2), (10, kB rv4.2), (65, kB true), (67, kB rv4.2)], []⟩ (by kernel_rfl) rfl (fun hc9 => ?_) (fun hc9 => ?_))
     ·
      replace h_g := iteT h_g hc9
      refine (ro_sp 5 72 ((IntKind.i64.wrap rv3.2) == 0) ⟨[(8, k8 rv3.2), (10, kB rv4.2), (65, kB true), (72, kB ((IntKind.i64.wrap rv3.2) == 0))], []⟩ (by kernel_rfl) rfl (fun hc10 => ?_) (fun hc10 => ?_))
      ·
       replace h_g := iteT h_g hc10
       obtain rfl := sj h_g
       exact (ro_z (by kernel_rfl))
      replace h_g := iteF h_g hc10
      refine (ro_sp 3 75 (!rv4.2) ⟨[(8, k8 rv3.2), (65, kB true), (72, kB false), (75, kB (!rv4.2))], []⟩ (by kernel_rfl) rfl (fun hc11 => ?_) (fun hc11 => ?_))
      ·
       replace h_g := iteT h_g hc11
       obtain rfl := sj h_g
       exact (ro_z (by kernel_rfl))
      replace h_g := iteF h_g hc11
      obtain rfl := sj h_g
      exact (ro_z (by kernel_rfl))
     replace h_g := iteF h_g hc9
     refine (ro_sp 8 75 (!rv4.2) ⟨[(8, k8 rv3.2), (65, kB true), (72, kB false), (75, kB (!rv4.2))], []⟩ (by kernel_rfl) rfl (fun hc12 => ?_) (fun hc12 => ?_))
     ·
      replace h_g := iteT h_g hc12
      obtain rfl := sj h_g
      exact (ro_z (by kernel_rfl))
     replace h_g := iteF h_g hc12
     obtain rfl := sj h_g
     exact (ro_z (by kernel_rfl))
    replace h_g := iteF h_g hc8
    obtain rfl := sj h_g
    exact (ro_z (by kernel_rfl))
   replace h_g := iteF h_g hc7
   obtain rfl := sj h_g
   exact (ro_z (by kernel_rfl))
  replace h_g := iteF h_g hc6
  obtain rfl := sj h_g
  exact (ro_z (by kernel_rfl))
 obtain rfl := sj h
 exact je_ret (le_z (by kernel_rfl))
theorem darninglaw06_KindStays_ok {k : Int} {l : Int} {wv : Int} {r : Bool} (h : darninglaw06_KindStays k l wv = some r) : FnOk Try.prog 5 [kI k, kI l, kU wv] [kB r] := by
 refine fn_intro' (E := ⟨[(6, kB r)], []⟩) 97 Try.func5 rfl rfl rfl ⟨rfl, trivial⟩ (fun Xt => ?_)
 refine ji_start ?_
 refine ji_le (E' := ⟨[(0, kI k), (1, kI l), (2, kU wv)], []⟩) (fun _ _ _ hs => hs) ?_
 unfold darninglaw06_KindStays at h
 refine ji_rz ⟨[(0, kI k), (1, kI l), (2, kU wv)], []⟩ (by kernel_rfl) ?_
 obtain ⟨rv, h_rv, h⟩ := bnd h
 refine ji_region ⟨[(0, kI k), (1, kI l), (2, kU wv), (18, kB (!rv))], []⟩ (ro_oz 0 [] rfl (lo_call [] [1] 9 rfl Try.call6 (darninglaw06_alive_ok h_rv) rfl rfl rfl rfl rfl) rfl (by kernel_rfl)) ?_
 rcases ite_some h with ⟨hc1, h⟩ | ⟨hc1, h⟩
 ·
  refine ji_condT rfl hc1 ?_
  refine ji_rz ⟨[(6, kB false)], []⟩ (by kernel_rfl) ?_
  obtain rfl := sj h
  exact je_ret (le_z (by kernel_rfl))
 refine ji_condF rfl hc1 ?_
 obtain ⟨rv2, h_rv2, h⟩ := bnd h
 refine ji_region ⟨[(0, kI k), (1, kI l), (2, kU wv), (7, kU rv2.1), (8, k8 rv2.2)], []⟩ (ro_oz 2 [kI k, kU wv] rfl (lo_call [kI k, kU wv] [1] 9 rfl Try.call17 (kind_Canon_ok h_rv2) rfl rfl rfl rfl rfl) rfl (by kernel_rfl)) ?_
 refine ji_rz ⟨[(0, kI k), (1, kI l), (2, kU wv), (7, kU rv2.1), (27, kB ((IntKind.i64.wrap rv2.2) == 0))], []⟩ (by kernel_rfl) ?_
 obtain ⟨p, h_p, h⟩ := bnd h
 refine ji_join (R := fun e a w => match p with | (.inl v_) => e = .normal ∧ Sx ⟨⟨97, []⟩, Xt, false, #[]⟩ ⟨[(0, kI k), (1, kI l)], []⟩ a w | (.inr v_) => e = .ret ∧ Sx ⟨⟨97, []⟩, Xt, false, #[]⟩ ⟨[(6, kB false)], []⟩ a w) ?_ ?_
 ·
  replace h := h_p
  refine ji_start ?_
  rcases ite_some h with ⟨hc2, h⟩ | ⟨hc2, h⟩
  ·
   refine ji_condT rfl hc2 ?_
   obtain ⟨rv3, h_rv3, h⟩ := bnd h
   refine ji_region ⟨[(0, kI k), (1, kI l), (2, kU wv), (7, kU rv2.1), (9, kU rv3.1), (10, k8 rv3.2)], []⟩ (ro_oz 2 [kI k, kU rv2.1] rfl (lo_call [kI k, kU rv2.1] [1] 9 rfl Try.call17 (kind_Canon_ok h_rv3) rfl rfl rfl rfl rfl) rfl (by kernel_rfl)) ?_
   obtain ⟨rv4, h_rv4, h⟩ := bnd h
   refine ji_region ⟨[(0, kI k), (1, kI l), (7, kU rv2.1), (9, kU rv3.1), (10, k8 rv3.2), (11, kI rv4.1), (12, k8 rv4.2)], []⟩ (ro_oz 2 [kI k, kU wv] rfl (lo_call [kI k, kU wv] [1] 9 rfl Try.call18 (kind_Signed_ok h_rv4) rfl rfl rfl rfl rfl) rfl (by kernel_rfl)) ?_
   obtain ⟨rv5, h_rv5, h⟩ := bnd h
   refine ji_region ⟨[(0, kI k), (1, kI l), (7, kU rv2.1), (9, kU rv3.1), (10, k8 rv3.2), (11, kI rv4.1), (12, k8 rv4.2), (13, kI rv5.1), (14, k8 rv5.2)], []⟩ (ro_oz 2 [kI k, kU rv2.1] rfl (lo_call [kI k, kU rv2.1] [1] 9 rfl Try.call18 (kind_Signed_ok h_rv5) rfl rfl rfl rfl rfl) rfl (by kernel_rfl)) ?_
   refine ji_region ⟨[(0, kI k), (1, kI l), (63, kB (((IntKind.i64.wrap rv3.2) != 0) || ((rv3.1 != rv2.1) || ((rv4.1 != rv5.1) || (rv4.2 != rv5.2)))))], []⟩ ?_ ?_
   ·
    refine (ro_sp 4 49 ((IntKind.i64.wrap rv3.2) != 0) ⟨[(0, kI k), (1, kI l), (7, kU rv2.1), (9, kU rv3.1), (11, kI rv4.1), (12, k8 rv4.2), (13, kI rv5.1), (14, k8 rv5.2), (49, kB ((IntKind.i64.wrap rv3.2) != 0))], []⟩ (by kernel_rfl) rfl (fun hc3 => ?_) (fun hc3 => ?_))
    · exact (ro_zb 63 true (((IntKind.i64.wrap rv3.2) != 0) || ((rv3.1 != rv2.1) || ((rv4.1 != rv5.1) || (rv4.2 != rv5.2)))) (by rw [hc3] <;> rfl) (by kernel_rfl) (by kernel_rfl))
    refine (ro_sp 5 54 (rv3.1 != rv2.1) ⟨[(0, kI k), (1, kI l), (11, kI rv4.1), (12, k8 rv4.2), (13, kI rv5.1), (14, k8 rv5.2), (54, kB (rv3.1 != rv2.1))], []⟩ (by kernel_rfl) rfl (fun hc4 => ?_) (fun hc4 => ?_))
    · exact (ro_zb 63 true (((IntKind.i64.wrap rv3.2) != 0) || ((rv3.1 != rv2.1) || ((rv4.1 != rv5.1) || (rv4.2 != rv5.2)))) (by rw [hc3, hc4] <;> rfl) (by kernel_rfl) (by kernel_rfl))
    refine (ro_sp 5 59 (rv4.1 != rv5.1) ⟨[(0, kI k), (1, kI l), (12, k8 rv4.2), (14, k8 rv5.2), (59, kB (rv4.1 != rv5.1))], []⟩ (by kernel_rfl) rfl (fun hc5 => ?_) (fun hc5 => ?_))
    · exact (ro_zb 63 true (((IntKind.i64.wrap rv3.2) != 0) || ((rv3.1 != rv2.1) || ((rv4.1 != rv5.1) || (rv4.2 != rv5.2)))) (by rw [hc3, hc4, hc5] <;> rfl) (by kernel_rfl) (by kernel_rfl))
    exact (ro_zb 63 (rv4.2 != rv5.2) (((IntKind.i64.wrap rv3.2) != 0) || ((rv3.1 != rv2.1) || ((rv4.1 != rv5.1) || (rv4.2 != rv5.2)))) (by rw [hc3, hc4, hc5] <;> rfl) (by kernel_rfl) (by kernel_rfl))
   rcases ite_some h with ⟨hc6, h⟩ | ⟨hc6, h⟩
   ·
    refine ji_condT rfl hc6 ?_
    refine ji_rz ⟨[(6, kB false)], []⟩ (by kernel_rfl) ?_
    obtain rfl := sj h
    exact je_ret (le_z (by kernel_rfl))
   refine ji_condF rfl hc6 ?_
   obtain rfl := sj h
   exact je_nil (le_z (by kernel_rfl))
  refine ji_condF rfl hc2 ?_
  obtain rfl := sj h
  exact je_nil (le_z (by kernel_rfl))
 rcases p with u | u2
 ·
  refine k_norm ?_
  obtain ⟨g, h_g, h⟩ := bnd h
  refine ji_region ⟨[(0, kI k), (1, kI l), (71, kB g)], []⟩ ?_ ?_
  ·
   obtain ⟨rv6, h_rv6, h_g⟩ := bnd h_g
   refine (ro_o 1 [kI k] ⟨[(0, kI k), (1, kI l), (65, kB rv6)], []⟩ rfl (lo_call [kI k] [1] 9 rfl Try.call12 (kind_Right_ok h_rv6) rfl rfl rfl rfl rfl) rfl (by kernel_rfl) (ro_sp 2 67 (!rv6) ⟨[(0, kI k), (1, kI l), (67, kB (!rv6))], []⟩ (by kernel_rfl) rfl (fun hc7 => ?_) (fun hc7 => ?_)))
   ·
    replace h_g := iteT h_g hc7
    obtain rfl := sj h_g
    exact (ro_z (by kernel_rfl))
   replace h_g := iteF h_g hc7
   obtain ⟨rv7, h_rv7, h_g⟩ := bnd h_g
   obtain rfl := sj h_g
   exact (ro_oz 1 [kI l] rfl (lo_call [kI l] [1] 9 rfl Try.call12 (kind_Right_ok h_rv7) rfl rfl rfl rfl rfl) rfl (by kernel_rfl))
  rcases ite_some h with ⟨hc8, h⟩ | ⟨hc8, h⟩
  ·
   refine ji_condT rfl hc8 ?_
   refine ji_rz ⟨[(6, kB true)], []⟩ (by kernel_rfl) ?_
   obtain rfl := sj h
   exact je_ret (le_z (by kernel_rfl))
  refine ji_condF rfl hc8 ?_
  obtain ⟨rv8, h_rv8, h⟩ := bnd h
  obtain ⟨rv9, h_rv9, h⟩ := bnd h
  refine ji_region ⟨[(0, kI k), (1, kI l), (15, kI rv9.1), (16, k8 rv9.2)], []⟩ (ro_o 1 [kI k] ⟨[(0, kI k), (1, kI l), (74, kS rv8)], []⟩ rfl (lo_call [kI k] [1] 9 rfl Try.call13 (kind_Name_ok h_rv8) rfl rfl rfl rfl rfl) rfl (by kernel_rfl) (ro_oz 0 [kS rv8] rfl (lo_call [kS rv8] [1] 9 rfl Try.call7 (kind_Parse_ok h_rv9) rfl rfl rfl rfl rfl) rfl (by kernel_rfl))) ?_
  obtain ⟨g2, h_g2, h⟩ := bnd h
  refine ji_region ⟨[(6, kB g2)], []⟩ ?_ ?_
  ·
   refine (ro_sp 4 81 ((IntKind.i64.wrap rv9.2) == 0) ⟨[(0, kI k), (1, kI l), (15, kI rv9.1), (81, kB ((IntKind.i64.wrap rv9.2) == 0))], []⟩ (by kernel_rfl) rfl (fun hc9 => ?_) (fun hc9 => ?_))
   ·
    replace h_g2 := iteT h_g2 hc9
    refine (ro_sp 5 86 (rv9.1 == k) ⟨[(0, kI k), (1, kI l), (86, kB (rv9.1 == k))], []⟩ (by kernel_rfl) rfl (fun hc10 => ?_) (fun hc10 => ?_))
    ·
     replace h_g2 := iteT h_g2 hc10
     obtain ⟨rv10, h_rv10, h_g2⟩ := bnd h_g2
     obtain ⟨rv11, h_rv11, h_g2⟩ := bnd h_g2
     obtain rfl := sj h_g2
     exact (ro_o 1 [kI k] ⟨[(0, kI k), (1, kI l), (86, kB true), (88, kS rv10)], []⟩ rfl (lo_call [kI k] [1] 9 rfl Try.call13 (kind_Name_ok h_rv10) rfl rfl rfl rfl rfl) rfl (by kernel_rfl) (ro_oz 1 [kI l] rfl (lo_call [kI l] [1] 9 rfl Try.call13 (kind_Name_ok h_rv11) rfl rfl rfl rfl rfl) rfl (by kernel_rfl)))
    replace h_g2 := iteF h_g2 hc10
    obtain rfl := sj h_g2
    exact (ro_z (by kernel_rfl))
   replace h_g2 := iteF h_g2 hc9
   obtain rfl := sj h_g2
   exact (ro_z (by kernel_rfl))
  obtain rfl := sj h
  exact je_ret (le_z (by kernel_rfl))
 obtain rfl := sj h
 exact ke_ret (le_z (by kernel_rfl))
end Go.Proofs.Ytbhlonecfdknaaa
