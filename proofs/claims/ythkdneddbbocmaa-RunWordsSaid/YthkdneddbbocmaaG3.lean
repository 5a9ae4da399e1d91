/-
  The Go functions do what the plain functions say. No condition.
-/
import Derived.Test.YthkdneddbbocmaaG2
namespace Go.Proofs.Ythkdneddbbocmaa
open Go Go.RowKit
set_option linter.unusedVariables false
set_option maxRecDepth 100000
theorem kind_Canon_ok {k : Int} {wv : Int} {r : (Int × Int)} (h : kind_Canon k wv = some r) : FnOk Try.prog 33 [kI k, kU wv] [kU r.1, k8 r.2] := by
 refine fn_intro' (E := ⟨[(4, kU r.1), (5, k8 r.2)], []⟩) 34 Try.func33 rfl rfl rfl ⟨rfl, rfl, trivial⟩ (fun Xt => ?_)
 refine ji_start ?_
 refine ji_le (E' := ⟨[(0, kI k), (1, kU wv)], []⟩) (fun _ _ _ hs => hs) ?_
 unfold kind_Canon at h
 refine ji_rz ⟨[(0, kI k), (1, kU wv)], []⟩ (by kernel_rfl) ?_
 refine ji_rz ⟨[(1, kU wv), (6, kI k)], []⟩ (by kernel_rfl) ?_
 refine ji_block ?_
 refine ji_rz ⟨[(1, kU wv), (6, kI k), (7, kB (k == 1))], []⟩ (by kernel_rfl) ?_
 obtain ⟨p, h_p, h⟩ := bnd h
 refine ji_join (R := fun e a w => e = .normal ∧ Sx ⟨⟨34, []⟩, Xt, false, #[]⟩ ⟨[(1, kU wv), (6, kI k), (7, kB p)], []⟩ a w) ?_ ?_
 ·
  replace h := h_p
  refine ji_start ?_
  rcases ite_some h with ⟨hc1, h⟩ | ⟨hc1, h⟩
  ·
   refine ji_condT rfl hc1 ?_
   obtain rfl := sj h
   exact je_nil (le_z (by kernel_rfl))
  refine ji_condF rfl hc1 ?_
  refine ji_rz ⟨[(1, kU wv), (6, kI k), (7, kB (k == 8))], []⟩ (by kernel_rfl) ?_
  obtain rfl := sj h
  exact je_nil (le_z (by kernel_rfl))
 refine k_norm ?_
 rcases ite_some h with ⟨hc2, h⟩ | ⟨hc2, h⟩
 ·
  refine ji_condT rfl hc2 ?_
  obtain ⟨rv, h_rv, h⟩ := bnd h
  obtain ⟨rv2, h_rv2, h⟩ := bnd h
  refine ji_region ⟨[(4, kU rv2), (5, k8 0)], []⟩ (ro_o 1 [kU wv] ⟨[(11, .lf (.int .i32 rv))], []⟩ rfl (lo_call [kU wv] [1] 9 rfl Try.call49 (bits_Sign32_ok h_rv) rfl rfl rfl rfl rfl) rfl (by kernel_rfl) (ro_oz 0 [.lf (.int .i32 rv)] rfl (lo_call [.lf (.int .i32 rv)] [1] 9 rfl Try.call48 (bits_Wide32_ok h_rv2) rfl rfl rfl rfl rfl) rfl (by kernel_rfl))) ?_
  obtain rfl := sj h
  exact je_ret (le_z (by kernel_rfl))
 refine ji_condF rfl hc2 ?_
 refine ji_rz ⟨[(1, kU wv), (6, kI k), (13, kB (k == 3))], []⟩ (by kernel_rfl) ?_
 obtain ⟨p2, h_p2, h⟩ := bnd h
 refine ji_join (R := fun e a w => e = .normal ∧ Sx ⟨⟨34, []⟩, Xt, false, #[]⟩ ⟨[(1, kU wv), (6, kI k), (13, kB p2)], []⟩ a w) ?_ ?_
 ·
  replace h := h_p2
  refine ji_start ?_
  rcases ite_some h with ⟨hc3, h⟩ | ⟨hc3, h⟩
  ·
   refine ji_condT rfl hc3 ?_
   obtain rfl := sj h
   exact je_nil (le_z (by kernel_rfl))
  refine ji_condF rfl hc3 ?_
  refine ji_rz ⟨[(1, kU wv), (6, kI k), (13, kB (k == 5))], []⟩ (by kernel_rfl) ?_
  rcases ite_some h with ⟨hc4, h⟩ | ⟨hc4, h⟩
  ·
   refine ji_condT rfl hc4 ?_
   obtain rfl := sj h
   exact je_nil (le_z (by kernel_rfl))
  refine ji_condF rfl hc4 ?_
  refine ji_rz ⟨[(1, kU wv), (6, kI k), (13, kB (k == 9))], []⟩ (by kernel_rfl) ?_
  rcases ite_some h with ⟨hc5, h⟩ | ⟨hc5, h⟩
  ·
   refine ji_condT rfl hc5 ?_
   obtain rfl := sj h
   exact je_nil (le_z (by kernel_rfl))
  refine ji_condF rfl hc5 ?_
  refine ji_rz ⟨[(1, kU wv), (6, kI k), (13, kB (k == 10))], []⟩ (by kernel_rfl) ?_
  rcases ite_some h with ⟨hc6, h⟩ | ⟨hc6, h⟩
  ·
   refine ji_condT rfl hc6 ?_
   obtain rfl := sj h
   exact je_nil (le_z (by kernel_rfl))
  refine ji_condF rfl hc6 ?_
  refine ji_rz ⟨[(1, kU wv), (6, kI k), (13, kB (k == 11))], []⟩ (by kernel_rfl) ?_
  obtain rfl := sj h
  exact je_nil (le_z (by kernel_rfl))
 refine k_norm ?_
 rcases ite_some h with ⟨hc7, h⟩ | ⟨hc7, h⟩
 ·
  refine ji_condT rfl hc7 ?_
  obtain ⟨rv3, h_rv3, h⟩ := bnd h
  refine ji_region ⟨[(4, kU (IntKind.u64.wrap rv3)), (5, k8 0)], []⟩ (ro_oz 1 [kU wv] rfl (lo_call [kU wv] [1] 9 rfl Try.call50 (bits_Low32_ok h_rv3) rfl rfl rfl rfl rfl) rfl (by kernel_rfl)) ?_
  obtain rfl := sj h
  exact je_ret (le_z (by kernel_rfl))
 refine ji_condF rfl hc7 ?_
 refine ji_rz ⟨[(1, kU wv), (6, kI k), (22, kB (k == 7))], []⟩ (by kernel_rfl) ?_
 rcases ite_some h with ⟨hc8, h⟩ | ⟨hc8, h⟩
 ·
  refine ji_condT rfl hc8 ?_
  obtain ⟨rv4, h_rv4, h⟩ := bnd h
  refine ji_region ⟨[(4, kU rv4), (5, k8 0)], []⟩ (ro_oz 1 [kU wv] rfl (lo_call [kU wv] [1] 9 rfl Try.call51 (kind_truth_ok h_rv4) rfl rfl rfl rfl rfl) rfl (by kernel_rfl)) ?_
  obtain rfl := sj h
  exact je_ret (le_z (by kernel_rfl))
 refine ji_condF rfl hc8 ?_
 refine ji_rz ⟨[(1, kU wv), (6, kI k), (26, kB (k == 2))], []⟩ (by kernel_rfl) ?_
 obtain ⟨p3, h_p3, h⟩ := bnd h
 refine ji_join (R := fun e a w => e = .normal ∧ Sx ⟨⟨34, []⟩, Xt, false, #[]⟩ ⟨[(1, kU wv), (26, kB p3)], []⟩ a w) ?_ ?_
 ·
  replace h := h_p3
  refine ji_start ?_
  rcases ite_some h with ⟨hc9, h⟩ | ⟨hc9, h⟩
  ·
   refine ji_condT rfl hc9 ?_
   obtain rfl := sj h
   exact je_nil (le_z (by kernel_rfl))
  refine ji_condF rfl hc9 ?_
  refine ji_rz ⟨[(1, kU wv), (6, kI k), (26, kB (k == 4))], []⟩ (by kernel_rfl) ?_
  rcases ite_some h with ⟨hc10, h⟩ | ⟨hc10, h⟩
  ·
   refine ji_condT rfl hc10 ?_
   obtain rfl := sj h
   exact je_nil (le_z (by kernel_rfl))
  refine ji_condF rfl hc10 ?_
  refine ji_rz ⟨[(1, kU wv), (6, kI k), (26, kB (k == 6))], []⟩ (by kernel_rfl) ?_
  rcases ite_some h with ⟨hc11, h⟩ | ⟨hc11, h⟩
  ·
   refine ji_condT rfl hc11 ?_
   obtain rfl := sj h
   exact je_nil (le_z (by kernel_rfl))
  refine ji_condF rfl hc11 ?_
  refine ji_rz ⟨[(1, kU wv), (6, kI k), (26, kB (k == 12))], []⟩ (by kernel_rfl) ?_
  rcases ite_some h with ⟨hc12, h⟩ | ⟨hc12, h⟩
  ·
   refine ji_condT rfl hc12 ?_
   obtain rfl := sj h
   exact je_nil (le_z (by kernel_rfl))
  refine ji_condF rfl hc12 ?_
  refine ji_rz ⟨[(1, kU wv), (6, kI k), (26, kB (k == 13))], []⟩ (by kernel_rfl) ?_
  rcases ite_some h with ⟨hc13, h⟩ | ⟨hc13, h⟩
  ·
   refine ji_condT rfl hc13 ?_
   obtain rfl := sj h
   exact je_nil (le_z (by kernel_rfl))
  refine ji_condF rfl hc13 ?_
  refine ji_rz ⟨[(1, kU wv), (26, kB (k == 14))], []⟩ (by kernel_rfl) ?_
  obtain rfl := sj h
  exact je_nil (le_z (by kernel_rfl))
 refine k_norm ?_
 rcases ite_some h with ⟨hc14, h⟩ | ⟨hc14, h⟩
 ·
  refine ji_condT rfl hc14 ?_
  refine ji_rz ⟨[(4, kU wv), (5, k8 0)], []⟩ (by kernel_rfl) ?_
  obtain rfl := sj h
  exact je_ret (le_z (by kernel_rfl))
 refine ji_condF rfl hc14 ?_
 refine ji_end ?_
 refine ji_rz ⟨[(4, kU 0), (5, k8 2)], []⟩ (by kernel_rfl) ?_
 obtain rfl := sj h
 exact je_ret (le_z (by kernel_rfl))
theorem run_first_ok {wide : Int} {b : (List UInt8)} {r : (Int × Int)} (h : run_first wide b = some r) : FnOk Try.prog 24 [kI wide, .sl Rp.byte [0] b] [kI r.1, k8 r.2] := by
 refine fn_intro' (E := ⟨[(4, kI r.1), (5, k8 r.2)], []⟩) 19 Try.func24 rfl rfl rfl ⟨rfl, rfl, trivial⟩ (fun Xt => ?_)
 refine ji_start ?_
 refine ji_le (E' := ⟨[(0, kI wide), (1, .sl Rp.byte [0] b)], []⟩) (fun _ _ _ hs => hs) ?_
 unfold run_first at h
 refine ji_rz ⟨[(0, kI wide), (1, .sl Rp.byte [0] b)], []⟩ (by kernel_rfl) ?_
 refine ji_block ?_
 refine ji_rz ⟨[(0, kI wide), (1, .sl Rp.byte [0] b), (6, kB (wide == 1))], []⟩ (by kernel_rfl) ?_
 rcases ite_some h with ⟨hc1, h⟩ | ⟨hc1, h⟩
 ·
  refine ji_condT rfl hc1 ?_
  obtain ⟨rv, h_rv, h⟩ := bnd h
  refine ji_region ⟨[(4, kI rv.1), (5, k8 rv.2)], []⟩ (ro_oz 1 [.sl Rp.byte [0] b] rfl (lo_call [.sl Rp.byte [0] b] [0] 9 rfl Try.call38 (varint_Skip_ok h_rv) rfl rfl rfl rfl rfl) rfl (by kernel_rfl)) ?_
  obtain rfl := sj h
  exact je_ret (le_z (by kernel_rfl))
 refine ji_condF rfl hc1 ?_
 refine ji_rz ⟨[(0, kI wide), (13, kB (decide (wide > (b.length : Int))))], []⟩ (by kernel_rfl) ?_
 rcases ite_some h with ⟨hc2, h⟩ | ⟨hc2, h⟩
 ·
  refine ji_condT rfl hc2 ?_
  refine ji_rz ⟨[(4, kI 0), (5, k8 3)], []⟩ (by kernel_rfl) ?_
  obtain rfl := sj h
  exact je_ret (le_z (by kernel_rfl))
 refine ji_condF rfl hc2 ?_
 refine ji_end ?_
 refine ji_rz ⟨[(4, kI wide), (5, k8 0)], []⟩ (by kernel_rfl) ?_
 obtain rfl := sj h
 exact je_ret (le_z (by kernel_rfl))
theorem scalar_plain_ok {k : Int} {b : (List UInt8)} {r : (Int × Int)} (h : scalar_plain k b = some r) : FnOk Try.prog 32 [kI k, .sl Rp.byte [0] b] [kU r.1, k8 r.2] := by
 refine fn_intro' (E := ⟨[(4, kU r.1), (5, k8 r.2)], []⟩) 31 Try.func32 rfl rfl rfl ⟨rfl, rfl, trivial⟩ (fun Xt => ?_)
 refine ji_start ?_
 refine ji_le (E' := ⟨[(0, kI k), (1, .sl Rp.byte [0] b)], []⟩) (fun _ _ _ hs => hs) ?_
 unfold scalar_plain at h
 refine ji_rz ⟨[(0, kI k), (1, .sl Rp.byte [0] b)], []⟩ (by kernel_rfl) ?_
 obtain ⟨rv, h_rv, h⟩ := bnd h
 refine ji_region ⟨[(1, .sl Rp.byte [0] b), (6, kI rv.1), (7, k8 rv.2)], []⟩ (ro_oz 1 [kI k] rfl (lo_call [kI k] [1] 9 rfl Try.call42 (scalar_width_ok h_rv) rfl rfl rfl rfl rfl) rfl (by kernel_rfl)) ?_
 refine ji_block ?_
 refine ji_rz ⟨[(1, .sl Rp.byte [0] b), (6, kI rv.1), (7, k8 rv.2), (13, kB (rv.2 != 0))], []⟩ (by kernel_rfl) ?_
 rcases ite_some h with ⟨hc1, h⟩ | ⟨hc1, h⟩
 ·
  refine ji_condT rfl hc1 ?_
  refine ji_rz ⟨[(4, kU 0), (5, k8 rv.2)], []⟩ (by kernel_rfl) ?_
  obtain rfl := sj h
  exact je_ret (le_z (by kernel_rfl))
 refine ji_condF rfl hc1 ?_
 refine ji_rz ⟨[(1, .sl Rp.byte [0] b), (6, kI rv.1), (17, kB (rv.1 == 0))], []⟩ (by kernel_rfl) ?_
 rcases ite_some h with ⟨hc2, h⟩ | ⟨hc2, h⟩
 ·
  refine ji_condT rfl hc2 ?_
  obtain ⟨rv2, h_rv2, h⟩ := bnd h
  refine ji_region ⟨[(4, kU rv2.1), (5, k8 rv2.2)], []⟩ (ro_oz 1 [.sl Rp.byte [0] b] rfl (lo_call [.sl Rp.byte [0] b] [0] 9 rfl Try.call46 (scalar_whole_ok h_rv2) rfl rfl rfl rfl rfl) rfl (by kernel_rfl)) ?_
  obtain rfl := sj h
  exact je_ret (le_z (by kernel_rfl))
 refine ji_condF rfl hc2 ?_
 refine ji_rz ⟨[(1, .sl Rp.byte [0] b), (24, kB (rv.1 != (b.length : Int)))], []⟩ (by kernel_rfl) ?_
 rcases ite_some h with ⟨hc3, h⟩ | ⟨hc3, h⟩
 ·
  refine ji_condT rfl hc3 ?_
  refine ji_rz ⟨[(4, kU 0), (5, k8 12)], []⟩ (by kernel_rfl) ?_
  obtain rfl := sj h
  exact je_ret (le_z (by kernel_rfl))
 refine ji_condF rfl hc3 ?_
 refine ji_end ?_
 obtain ⟨rv3, h_rv3, h⟩ := bnd h
 refine ji_region ⟨[(4, kU rv3), (5, k8 0)], []⟩ (ro_oz 1 [.sl Rp.byte [0] b] rfl (lo_call [.sl Rp.byte [0] b] [0] 9 rfl Try.call47 (bits_Word_ok h_rv3) rfl rfl rfl rfl rfl) rfl (by kernel_rfl)) ?_
 obtain rfl := sj h
 exact je_ret (le_z (by kernel_rfl))
theorem darningref08_Read_ok {k : Int} {b : (List UInt8)} {r : (Int × Int)} (h : darningref08_Read k b = some r) : FnOk Try.prog 22 [kI k, .sl Rp.byte [0] b] [kU r.1, kI r.2] := by
 refine fn_intro' (E := ⟨[(4, kU r.1), (5, kI r.2)], []⟩) 29 Try.func22 rfl rfl rfl ⟨rfl, rfl, trivial⟩ (fun Xt => ?_)
 refine ji_start ?_
 refine ji_le (E' := ⟨[(0, kI k), (1, .sl Rp.byte [0] b)], []⟩) (fun _ _ _ hs => hs) ?_
 unfold darningref08_Read at h
 refine ji_rz ⟨[(0, kI k), (1, .sl Rp.byte [0] b)], []⟩ (by kernel_rfl) ?_
 obtain ⟨rv, h_rv, h⟩ := bnd h
 refine ji_region ⟨[(0, kI k), (1, .sl Rp.byte [0] b), (9, kB (!rv))], []⟩ (ro_oz 1 [kI k] rfl (lo_call [kI k] [1] 9 rfl Try.call17 (darningref06_Number_ok h_rv) rfl rfl rfl rfl rfl) rfl (by kernel_rfl)) ?_
 rcases ite_some h with ⟨hc1, h⟩ | ⟨hc1, h⟩
 ·
  refine ji_condT rfl hc1 ?_
  refine ji_rz ⟨[(4, kU 0), (5, kI 2)], []⟩ (by kernel_rfl) ?_
  obtain rfl := sj h
  exact je_ret (le_z (by kernel_rfl))
 refine ji_condF rfl hc1 ?_
 obtain ⟨rv2, h_rv2, h⟩ := bnd h
 obtain ⟨rv3, h_rv3, h⟩ := bnd h
 refine ji_region ⟨[(0, kI k), (1, .sl Rp.byte [0] b), (14, kB (!rv3))], []⟩ (ro_o 1 [kI k] ⟨[(0, kI k), (1, .sl Rp.byte [0] b), (11, kI rv2)], []⟩ rfl (lo_call [kI k] [1] 9 rfl Try.call35 (darningref06_Wire_ok h_rv2) rfl rfl rfl rfl rfl) rfl (by kernel_rfl) (ro_oz 1 [kI rv2, .sl Rp.byte [0] b] rfl (lo_call [kI rv2, .sl Rp.byte [0] b] [0] 9 rfl Try.call34 (darningref05_Fits_ok h_rv3) rfl rfl rfl rfl rfl) rfl (by kernel_rfl))) ?_
 rcases ite_some h with ⟨hc2, h⟩ | ⟨hc2, h⟩
 ·
  refine ji_condT rfl hc2 ?_
  refine ji_rz ⟨[(4, kU 0), (5, kI 12)], []⟩ (by kernel_rfl) ?_
  obtain rfl := sj h
  exact je_ret (le_z (by kernel_rfl))
 refine ji_condF rfl hc2 ?_
 obtain ⟨rv4, h_rv4, h⟩ := bnd h
 refine ji_region ⟨[(0, kI k), (1, .sl Rp.byte [0] b), (6, kU rv4)], []⟩ (ro_oz 1 [.sl Rp.byte [0] b] rfl (lo_call [.sl Rp.byte [0] b] [0] 9 rfl Try.call36 (darningref01_Word_ok h_rv4) rfl rfl rfl rfl rfl) rfl (by kernel_rfl)) ?_
 obtain ⟨rv5, h_rv5, h⟩ := bnd h
 refine ji_region ⟨[(0, kI k), (1, .sl Rp.byte [0] b), (6, kU rv4), (19, kB (rv5 == 0))], []⟩ (ro_oz 1 [kI k] rfl (lo_call [kI k] [1] 9 rfl Try.call35 (darningref06_Wire_ok h_rv5) rfl rfl rfl rfl rfl) rfl (by kernel_rfl)) ?_
 rcases ite_some h with ⟨hc3, h⟩ | ⟨hc3, h⟩
 ·
  refine ji_condT rfl hc3 ?_
  obtain ⟨rv6, h_rv6, h⟩ := bnd h
  refine ji_region ⟨[(0, kI k), (6, kU rv6.1)], []⟩ (ro_oz 1 [.sl Rp.byte [0] b, kI 0] rfl (lo_call [.sl Rp.byte [0] b, kI 0] [0] 9 rfl Try.call30 (darningref02_Read_ok h_rv6) rfl rfl rfl rfl rfl) rfl (by kernel_rfl)) ?_
  obtain ⟨rv7, h_rv7, h⟩ := bnd h
  refine ji_region ⟨[(4, kU rv7), (5, kI 0)], []⟩ (ro_oz 2 [kI k, kU rv6.1] rfl (lo_call [kI k, kU rv6.1] [1] 9 rfl Try.call37 (darningref06_Canon_ok h_rv7) rfl rfl rfl rfl rfl) rfl (by kernel_rfl)) ?_
  obtain rfl := sj h
  exact je_ret (le_z (by kernel_rfl))
 refine ji_condF rfl hc3 ?_
 obtain ⟨rv8, h_rv8, h⟩ := bnd h
 refine ji_region ⟨[(4, kU rv8), (5, kI 0)], []⟩ (ro_oz 2 [kI k, kU rv4] rfl (lo_call [kI k, kU rv4] [1] 9 rfl Try.call37 (darningref06_Canon_ok h_rv8) rfl rfl rfl rfl rfl) rfl (by kernel_rfl)) ?_
 obtain rfl := sj h
 exact je_ret (le_z (by kernel_rfl))
theorem darningref08_Put_ok {fuel : Nat} {k : Int} {wv : Int} {r : (List UInt8)} (h : darningref08_Put fuel k wv = some r) : FnOk Try.prog 27 [kI k, kU wv] [.own Rp.byte 5 2 [] r] := by
 refine fn_intro' (E := ⟨[(4, .own Rp.byte 5 2 [] r)], []⟩) 18 Try.func27 rfl rfl rfl ⟨rfl, trivial⟩ (fun Xt => ?_)
 refine ji_start ?_
 refine ji_le (E' := ⟨[(0, kI k), (1, kU wv)], []⟩) (fun _ _ _ hs => hs) ?_
 unfold darningref08_Put at h
 refine ji_rz ⟨[(0, kI k), (1, kU wv)], []⟩ (by kernel_rfl) ?_
 obtain ⟨rv, h_rv, h⟩ := bnd h
 refine ji_region ⟨[(0, kI k), (1, kU rv)], []⟩ (ro_oz 2 [kI k, kU wv] rfl (lo_call [kI k, kU wv] [1] 10 rfl Try.call37 (darningref06_Canon_ok h_rv) rfl rfl rfl rfl rfl) rfl (by kernel_rfl)) ?_
 refine ji_rz ⟨[(0, kI k), (1, kU rv), (9, kB (decide (k ≥ 12)))], []⟩ (by kernel_rfl) ?_
 rcases ite_some h with ⟨hc1, h⟩ | ⟨hc1, h⟩
 ·
  refine ji_condT rfl hc1 ?_
  obtain ⟨rv2, h_rv2, h⟩ := bnd h
  refine ji_region ⟨[(4, .own Rp.byte 5 12 [] rv2)], []⟩ (ro_oz 1 [kU rv, kI 8] rfl (lo_call [kU rv, kI 8] [1] 10 rfl Try.call40 (darningref01_Little_ok h_rv2) rfl rfl rfl rfl rfl) rfl (by kernel_rfl)) ?_
  obtain rfl := sj h
  refine je_ret ?_
  refine le_px ⟨[(4, .own Rp.byte 5 12 [] rv2)], []⟩ (by kernel_rfl) (le_rn 12 2 rfl (le_px ⟨[(4, .own Rp.byte 5 2 [] rv2)], []⟩ (by kernel_rfl) ?_))
  exact le_z (by kernel_rfl)
 refine ji_condF rfl hc1 ?_
 refine ji_rz ⟨[(1, kU rv), (13, kB (decide (k ≥ 9)))], []⟩ (by kernel_rfl) ?_
 rcases ite_some h with ⟨hc2, h⟩ | ⟨hc2, h⟩
 ·
  refine ji_condT rfl hc2 ?_
  obtain ⟨rv3, h_rv3, h⟩ := bnd h
  refine ji_region ⟨[(4, .own Rp.byte 5 13 [] rv3)], []⟩ (ro_oz 1 [kU rv, kI 4] rfl (lo_call [kU rv, kI 4] [1] 11 rfl Try.call40 (darningref01_Little_ok h_rv3) rfl rfl rfl rfl rfl) rfl (by kernel_rfl)) ?_
  obtain rfl := sj h
  refine je_ret ?_
  refine le_px ⟨[(4, .own Rp.byte 5 13 [] rv3)], []⟩ (by kernel_rfl) (le_rn 13 2 rfl (le_px ⟨[(4, .own Rp.byte 5 2 [] rv3)], []⟩ (by kernel_rfl) ?_))
  exact le_z (by kernel_rfl)
 refine ji_condF rfl hc2 ?_
 obtain ⟨rv4, h_rv4, h⟩ := bnd h
 refine ji_region ⟨[(4, .own Rp.byte 5 14 [] rv4)], []⟩ (ro_oz 1 [kU rv] rfl (lo_call [kU rv] [1] 12 rfl Try.call41 (darningref02_Put_ok h_rv4) rfl rfl rfl rfl rfl) rfl (by kernel_rfl)) ?_
 obtain rfl := sj h
 refine je_ret ?_
 refine le_px ⟨[(4, .own Rp.byte 5 14 [] rv4)], []⟩ (by kernel_rfl) (le_rn 14 2 rfl (le_px ⟨[(4, .own Rp.byte 5 2 [] rv4)], []⟩ (by kernel_rfl) ?_))
 exact le_z (by kernel_rfl)
end Go.Proofs.Ythkdneddbbocmaa
