/-
  The Go functions do what the plain functions say. No condition.
-/
import Derived.Test.YtceeeodooljgpaaG3
namespace Go.Proofs.Ytceeeodooljgpaa
open Go Go.RowKit
set_option linter.unusedVariables false
set_option maxRecDepth 100000
theorem darninglaw08_alive_ok  {r : Bool} (h : darninglaw08_alive = some r) : FnOk Try.prog 6 [] [kB r] := by
 refine fn_intro' (E := ⟨[(0, kB r)], []⟩) 30 Try.func6 rfl rfl rfl ⟨rfl, trivial⟩ (fun Xt => ?_)
 refine ji_start ?_
 refine ji_le (E' := ⟨[], []⟩) (fun _ _ _ hs => hs) ?_
 unfold darninglaw08_alive at h
 refine ji_rz ⟨[], []⟩ (by kernel_rfl) ?_
 obtain ⟨rv, h_rv, h⟩ := bnd h
 refine ji_region ⟨[(1, kU rv.1), (2, k8 rv.2)], []⟩ (ro_o 0 [k8 255, k8 255, k8 255, k8 255, k8 15] ⟨[(6, .own Rp.byte 5 11 [] ([(255 : UInt8), (255 : UInt8), (255 : UInt8), (255 : UInt8), (15 : UInt8)] : List UInt8))], []⟩ rfl (lo_bsl [.lf (.int .u8 255), .lf (.int .u8 255), .lf (.int .u8 255), .lf (.int .u8 255), .lf (.int .u8 15)] 11 [] [(255 : UInt8), (255 : UInt8), (255 : UInt8), (255 : UInt8), (15 : UInt8)] rfl zet22 rfl rfl rfl rfl) rfl (by kernel_rfl) (ro_oz 0 [kI 1, .own Rp.byte 5 11 [] ([(255 : UInt8), (255 : UInt8), (255 : UInt8), (255 : UInt8), (15 : UInt8)] : List UInt8)] rfl (lo_call [kI 1, .own Rp.byte 5 11 [] ([(255 : UInt8), (255 : UInt8), (255 : UInt8), (255 : UInt8), (15 : UInt8)] : List UInt8)] [11] 10 rfl Try.call7 (scalar_Read_ok h_rv) rfl rfl rfl rfl rfl) rfl (by kernel_rfl))) ?_
 obtain ⟨rv2, h_rv2, h⟩ := bnd h
 refine ji_region ⟨[(1, kU rv.1), (2, k8 rv.2), (3, .own Rp.byte 5 12 [] rv2.1), (4, k8 rv2.2)], []⟩ (ro_oz 1 [kI 1, kU rv.1] rfl (lo_call [kI 1, kU rv.1] [1] 10 rfl Try.call12 (scalar_Put_ok h_rv2) rfl rfl rfl rfl rfl) rfl (by kernel_rfl)) ?_
 refine ji_region ⟨[(0, kB (((IntKind.i64.wrap ((IntKind.i64.wrap rv.2) + (IntKind.i64.wrap rv2.2))) == 0) && ((rv.1 == 18446744073709551615) && ((rv2.1.length : Int) == 10))))], []⟩ ?_ ?_
 ·
  refine (ro_sp 7 21 ((IntKind.i64.wrap ((IntKind.i64.wrap rv.2) + (IntKind.i64.wrap rv2.2))) == 0) ⟨[(1, kU rv.1), (3, .own Rp.byte 5 12 [] rv2.1), (21, kB ((IntKind.i64.wrap ((IntKind.i64.wrap rv.2) + (IntKind.i64.wrap rv2.2))) == 0))], []⟩ (by kernel_rfl) rfl (fun hc1 => ?_) (fun hc1 => ?_))
  ·
   refine (ro_sp 4 25 (rv.1 == 18446744073709551615) ⟨[(3, .own Rp.byte 5 12 [] rv2.1), (25, kB (rv.1 == 18446744073709551615))], []⟩ (by kernel_rfl) rfl (fun hc2 => ?_) (fun hc2 => ?_))
   · exact (ro_zb 0 ((rv2.1.length : Int) == 10) (((IntKind.i64.wrap ((IntKind.i64.wrap rv.2) + (IntKind.i64.wrap rv2.2))) == 0) && ((rv.1 == 18446744073709551615) && ((rv2.1.length : Int) == 10))) (by rw [hc1, hc2] <;> rfl) (by kernel_rfl) (by kernel_rfl))
   exact (ro_zb 0 false (((IntKind.i64.wrap ((IntKind.i64.wrap rv.2) + (IntKind.i64.wrap rv2.2))) == 0) && ((rv.1 == 18446744073709551615) && ((rv2.1.length : Int) == 10))) (by rw [hc1, hc2] <;> rfl) (by kernel_rfl) (by kernel_rfl))
  exact (ro_zb 0 false (((IntKind.i64.wrap ((IntKind.i64.wrap rv.2) + (IntKind.i64.wrap rv2.2))) == 0) && ((rv.1 == 18446744073709551615) && ((rv2.1.length : Int) == 10))) (by rw [hc1] <;> rfl) (by kernel_rfl) (by kernel_rfl))
 obtain rfl := sj h
 exact je_ret (le_z (by kernel_rfl))
theorem scalar_Canonical_ok {k : Int} {b : (List UInt8)} {r : Bool} (h : scalar_Canonical k b = some r) : FnOk Try.prog 11 [kI k, .sl Rp.byte [0] b] [kB r] := by
 refine fn_intro' (E := ⟨[(4, kB r)], []⟩) 34 Try.func11 rfl rfl rfl ⟨rfl, trivial⟩ (fun Xt => ?_)
 refine ji_start ?_
 refine ji_le (E' := ⟨[(0, kI k), (1, .sl Rp.byte [0] b)], []⟩) (fun _ _ _ hs => hs) ?_
 unfold scalar_Canonical at h
 refine ji_rz ⟨[(0, kI k), (1, .sl Rp.byte [0] b)], []⟩ (by kernel_rfl) ?_
 obtain ⟨rv, h_rv, h⟩ := bnd h
 refine ji_region ⟨[(0, kI k), (1, .sl Rp.byte [0] b), (5, kU rv.1), (6, k8 rv.2)], []⟩ (ro_oz 2 [kI k, .sl Rp.byte [0] b] rfl (lo_call [kI k, .sl Rp.byte [0] b] [0] 9 rfl Try.call17 (scalar_plain_ok h_rv) rfl rfl rfl rfl rfl) rfl (by kernel_rfl)) ?_
 refine ji_rz ⟨[(0, kI k), (1, .sl Rp.byte [0] b), (5, kU rv.1), (16, kB (rv.2 != 0))], []⟩ (by kernel_rfl) ?_
 rcases ite_some h with ⟨hc1, h⟩ | ⟨hc1, h⟩
 ·
  refine ji_condT rfl hc1 ?_
  refine ji_rz ⟨[(4, kB false)], []⟩ (by kernel_rfl) ?_
  obtain rfl := sj h
  exact je_ret (le_z (by kernel_rfl))
 refine ji_condF rfl hc1 ?_
 obtain ⟨rv2, h_rv2, h⟩ := bnd h
 refine ji_region ⟨[(0, kI k), (1, .sl Rp.byte [0] b), (5, kU rv.1), (7, kU rv2.1)], []⟩ (ro_oz 2 [kI k, kU rv.1] rfl (lo_call [kI k, kU rv.1] [1] 9 rfl Try.call18 (kind_Canon_ok h_rv2) rfl rfl rfl rfl rfl) rfl (by kernel_rfl)) ?_
 obtain ⟨g, h_g, h⟩ := bnd h
 refine ji_region ⟨[(4, kB g)], []⟩ ?_ ?_
 ·
  refine (ro_sp 4 26 (rv.1 == rv2.1) ⟨[(0, kI k), (1, .sl Rp.byte [0] b), (5, kU rv.1), (26, kB (rv.1 == rv2.1))], []⟩ (by kernel_rfl) rfl (fun hc2 => ?_) (fun hc2 => ?_))
  ·
   replace h_g := iteT h_g hc2
   obtain ⟨rv3, h_rv3, h_g⟩ := bnd h_g
   obtain rfl := sj h_g
   exact (ro_oz 4 [kI k, kU rv.1] rfl (lo_call [kI k, kU rv.1] [1] 9 rfl Try.call14 (scalar_Size_ok h_rv3) rfl rfl rfl rfl rfl) rfl (by kernel_rfl))
  replace h_g := iteF h_g hc2
  obtain rfl := sj h_g
  exact (ro_z (by kernel_rfl))
 obtain rfl := sj h
 exact je_ret (le_z (by kernel_rfl))
theorem scalar_Same_ok {k : Int} {av : (List UInt8)} {b : (List UInt8)} {r : Bool} (h : scalar_Same k av b = some r) : FnOk Try.prog 15 [kI k, .sl Rp.byte [0] av, .sl Rp.byte [0] b] [kB r] := by
 refine fn_intro' (E := ⟨[(6, kB r)], []⟩) 31 Try.func15 rfl rfl rfl ⟨rfl, trivial⟩ (fun Xt => ?_)
 refine ji_start ?_
 refine ji_le (E' := ⟨[(0, kI k), (1, .sl Rp.byte [0] av), (2, .sl Rp.byte [0] b)], []⟩) (fun _ _ _ hs => hs) ?_
 unfold scalar_Same at h
 refine ji_rz ⟨[(0, kI k), (1, .sl Rp.byte [0] av), (2, .sl Rp.byte [0] b)], []⟩ (by kernel_rfl) ?_
 obtain ⟨rv, h_rv, h⟩ := bnd h
 refine ji_region ⟨[(0, kI k), (2, .sl Rp.byte [0] b), (7, kU rv.1), (8, k8 rv.2)], []⟩ (ro_oz 2 [kI k, .sl Rp.byte [0] av] rfl (lo_call [kI k, .sl Rp.byte [0] av] [0] 9 rfl Try.call7 (scalar_Read_ok h_rv) rfl rfl rfl rfl rfl) rfl (by kernel_rfl)) ?_
 refine ji_rz ⟨[(0, kI k), (2, .sl Rp.byte [0] b), (7, kU rv.1), (17, kB (rv.2 != 0))], []⟩ (by kernel_rfl) ?_
 rcases ite_some h with ⟨hc1, h⟩ | ⟨hc1, h⟩
 ·
  refine ji_condT rfl hc1 ?_
  refine ji_rz ⟨[(6, kB false)], []⟩ (by kernel_rfl) ?_
  obtain rfl := sj h
  exact je_ret (le_z (by kernel_rfl))
 refine ji_condF rfl hc1 ?_
 obtain ⟨rv2, h_rv2, h⟩ := bnd h
 refine ji_region ⟨[(7, kU rv.1), (8, k8 rv2.2), (9, kU rv2.1)], []⟩ (ro_oz 2 [kI k, .sl Rp.byte [0] b] rfl (lo_call [kI k, .sl Rp.byte [0] b] [0] 9 rfl Try.call7 (scalar_Read_ok h_rv2) rfl rfl rfl rfl rfl) rfl (by kernel_rfl)) ?_
 refine ji_region ⟨[(6, kB ((rv2.2 == 0) && (rv.1 == rv2.1)))], []⟩ ?_ ?_
 ·
  refine (ro_sp 3 26 (rv2.2 == 0) ⟨[(7, kU rv.1), (9, kU rv2.1), (26, kB (rv2.2 == 0))], []⟩ (by kernel_rfl) rfl (fun hc2 => ?_) (fun hc2 => ?_))
  · exact (ro_zb 6 (rv.1 == rv2.1) ((rv2.2 == 0) && (rv.1 == rv2.1)) (by rw [hc2] <;> rfl) (by kernel_rfl) (by kernel_rfl))
  exact (ro_zb 6 false ((rv2.2 == 0) && (rv.1 == rv2.1)) (by rw [hc2] <;> rfl) (by kernel_rfl) (by kernel_rfl))
 obtain rfl := sj h
 exact je_ret (le_z (by kernel_rfl))
theorem darninglaw08_ScalarReads_ok {fuel : Nat} {k : Int} {b : (List UInt8)} {r : Bool} (h : darninglaw08_ScalarReads fuel k b = some r) : FnOk Try.prog 3 [kI k, .sl Rp.byte [0] b] [kB r] := by
 refine fn_intro' (E := ⟨[(4, kB r)], []⟩) 52 Try.func3 rfl rfl rfl ⟨rfl, trivial⟩ (fun Xt => ?_)
 refine ji_start ?_
 refine ji_le (E' := ⟨[(0, kI k), (1, .sl Rp.byte [0] b)], []⟩) (fun _ _ _ hs => hs) ?_
 unfold darninglaw08_ScalarReads at h
 refine ji_rz ⟨[(0, kI k), (1, .sl Rp.byte [0] b)], []⟩ (by kernel_rfl) ?_
 obtain ⟨rv, h_rv, h⟩ := bnd h
 refine ji_region ⟨[(0, kI k), (1, .sl Rp.byte [0] b), (11, kB (!rv))], []⟩ (ro_oz 0 [] rfl (lo_call [] [1] 9 rfl Try.call6 (darninglaw08_alive_ok h_rv) rfl rfl rfl rfl rfl) rfl (by kernel_rfl)) ?_
 rcases ite_some h with ⟨hc1, h⟩ | ⟨hc1, h⟩
 ·
  refine ji_condT rfl hc1 ?_
  refine ji_rz ⟨[(4, kB false)], []⟩ (by kernel_rfl) ?_
  obtain rfl := sj h
  exact je_ret (le_z (by kernel_rfl))
 refine ji_condF rfl hc1 ?_
 refine ji_rz ⟨[(0, kI k), (1, .sl Rp.byte [0] b), (14, kB (decide ((b.length : Int) > 1000)))], []⟩ (by kernel_rfl) ?_
 rcases ite_some h with ⟨hc2, h⟩ | ⟨hc2, h⟩
 ·
  refine ji_condT rfl hc2 ?_
  refine ji_rz ⟨[(4, kB true)], []⟩ (by kernel_rfl) ?_
  obtain rfl := sj h
  exact je_ret (le_z (by kernel_rfl))
 refine ji_condF rfl hc2 ?_
 obtain ⟨rv2, h_rv2, h⟩ := bnd h
 refine ji_region ⟨[(0, kI k), (1, .sl Rp.byte [0] b), (5, kU rv2.1), (6, k8 rv2.2)], []⟩ (ro_oz 2 [kI k, .sl Rp.byte [0] b] rfl (lo_call [kI k, .sl Rp.byte [0] b] [0] 9 rfl Try.call7 (scalar_Read_ok h_rv2) rfl rfl rfl rfl rfl) rfl (by kernel_rfl)) ?_
 obtain ⟨rv3, h_rv3, h⟩ := bnd h
 refine ji_region ⟨[(0, kI k), (1, .sl Rp.byte [0] b), (5, kU rv2.1), (6, k8 rv2.2), (7, kU rv3.1), (8, kI rv3.2)], []⟩ (ro_oz 2 [kI k, .sl Rp.byte [0] b] rfl (lo_call [kI k, .sl Rp.byte [0] b] [0] 9 rfl Try.call8 (darningref08_Read_ok h_rv3) rfl rfl rfl rfl rfl) rfl (by kernel_rfl)) ?_
 obtain ⟨g, h_g, h⟩ := bnd h
 refine ji_region ⟨[(0, kI k), (1, .sl Rp.byte [0] b), (5, kU rv2.1), (6, k8 rv2.2), (7, kU rv3.1), (8, kI rv3.2), (9, kB g)], []⟩ ?_ ?_
 ·
  refine (ro_sp 3 29 (rv3.2 == 0) ⟨[(0, kI k), (1, .sl Rp.byte [0] b), (5, kU rv2.1), (6, k8 rv2.2), (7, kU rv3.1), (8, kI rv3.2), (29, kB (rv3.2 == 0))], []⟩ (by kernel_rfl) rfl (fun hc3 => ?_) (fun hc3 => ?_))
  ·
   replace h_g := iteT h_g hc3
   obtain ⟨rv4, h_rv4, h_g⟩ := bnd h_g
   obtain ⟨rv5, h_rv5, h_g⟩ := bnd h_g
   obtain rfl := sj h_g
   exact (ro_o 2 [kI k, kU rv3.1] ⟨[(0, kI k), (1, .sl Rp.byte [0] b), (5, kU rv2.1), (6, k8 rv2.2), (7, kU rv3.1), (8, kI rv3.2), (29, kB true), (32, .own Rp.byte 5 11 [] rv4)], []⟩ rfl (lo_call [kI k, kU rv3.1] [1] 9 rfl Try.call10 (darningref08_Put_ok h_rv4) rfl rfl rfl rfl rfl) rfl (by kernel_rfl) (ro_oz 1 [.own Rp.byte 5 11 [] rv4, .sl Rp.byte [0] b] rfl (lo_call [.own Rp.byte 5 11 [] rv4, .sl Rp.byte [0] b] [11, 0] 10 rfl Try.call9 (darningref01_Same_ok h_rv5) rfl rfl rfl rfl rfl) rfl (by kernel_rfl)))
  replace h_g := iteF h_g hc3
  obtain rfl := sj h_g
  exact (ro_z (by kernel_rfl))
 obtain ⟨g2, h_g2, h⟩ := bnd h
 refine ji_region ⟨[(4, kB g2)], []⟩ ?_ ?_
 ·
  refine (ro_sp 4 39 (rv2.1 == rv3.1) ⟨[(0, kI k), (1, .sl Rp.byte [0] b), (6, k8 rv2.2), (8, kI rv3.2), (9, kB g), (39, kB (rv2.1 == rv3.1))], []⟩ (by kernel_rfl) rfl (fun hc4 => ?_) (fun hc4 => ?_))
  ·
   replace h_g2 := iteT h_g2 hc4
   refine (ro_sp 6 45 ((IntKind.i64.wrap rv2.2) == rv3.2) ⟨[(0, kI k), (1, .sl Rp.byte [0] b), (9, kB g), (45, kB ((IntKind.i64.wrap rv2.2) == rv3.2))], []⟩ (by kernel_rfl) rfl (fun hc5 => ?_) (fun hc5 => ?_))
   ·
    replace h_g2 := iteT h_g2 hc5
    obtain ⟨rv6, h_rv6, h_g2⟩ := bnd h_g2
    obtain rfl := sj h_g2
    exact (ro_oz 2 [kI k, .sl Rp.byte [0] b] rfl (lo_call [kI k, .sl Rp.byte [0] b] [0] 10 rfl Try.call11 (scalar_Canonical_ok h_rv6) rfl rfl rfl rfl rfl) rfl (by kernel_rfl))
   replace h_g2 := iteF h_g2 hc5
   obtain rfl := sj h_g2
   exact (ro_z (by kernel_rfl))
  replace h_g2 := iteF h_g2 hc4
  obtain rfl := sj h_g2
  exact (ro_z (by kernel_rfl))
 obtain rfl := sj h
 exact je_ret (le_z (by kernel_rfl))
theorem darninglaw08_ScalarPuts_ok {fuel : Nat} {k : Int} {wv : Int} {r : Bool} (h : darninglaw08_ScalarPuts fuel k wv = some r) : FnOk Try.prog 4 [kI k, kU wv] [kB r] := by
 refine fn_intro' (E := ⟨[(4, kB r)], []⟩) 52 Try.func4 rfl rfl rfl ⟨rfl, trivial⟩ (fun Xt => ?_)
 refine ji_start ?_
 refine ji_le (E' := ⟨[(0, kI k), (1, kU wv)], []⟩) (fun _ _ _ hs => hs) ?_
 unfold darninglaw08_ScalarPuts at h
 refine ji_rz ⟨[(0, kI k), (1, kU wv)], []⟩ (by kernel_rfl) ?_
 obtain ⟨rv, h_rv, h⟩ := bnd h
 refine ji_region ⟨[(0, kI k), (1, kU wv), (9, kB (!rv))], []⟩ (ro_oz 0 [] rfl (lo_call [] [1] 9 rfl Try.call6 (darninglaw08_alive_ok h_rv) rfl rfl rfl rfl rfl) rfl (by kernel_rfl)) ?_
 rcases ite_some h with ⟨hc1, h⟩ | ⟨hc1, h⟩
 ·
  refine ji_condT rfl hc1 ?_
  refine ji_rz ⟨[(4, kB false)], []⟩ (by kernel_rfl) ?_
  obtain rfl := sj h
  exact je_ret (le_z (by kernel_rfl))
 refine ji_condF rfl hc1 ?_
 obtain ⟨rv2, h_rv2, h⟩ := bnd h
 refine ji_region ⟨[(0, kI k), (1, kU wv), (5, .own Rp.byte 5 11 [] rv2.1), (6, k8 rv2.2)], []⟩ (ro_oz 2 [kI k, kU wv] rfl (lo_call [kI k, kU wv] [1] 9 rfl Try.call12 (scalar_Put_ok h_rv2) rfl rfl rfl rfl rfl) rfl (by kernel_rfl)) ?_
 obtain ⟨rv3, h_rv3, h⟩ := bnd h
 refine ji_region ⟨[(0, kI k), (1, kU wv), (5, .own Rp.byte 5 11 [] rv2.1), (6, k8 rv2.2), (18, kB (!rv3))], []⟩ (ro_oz 1 [kI k] rfl (lo_call [kI k] [1] 10 rfl Try.call13 (darningref06_Number_ok h_rv3) rfl rfl rfl rfl rfl) rfl (by kernel_rfl)) ?_
 rcases ite_some h with ⟨hc2, h⟩ | ⟨hc2, h⟩
 ·
  refine ji_condT rfl hc2 ?_
  obtain ⟨g, h_g, h⟩ := bnd h
  refine ji_region ⟨[(4, kB g)], []⟩ ?_ ?_
  ·
   refine (ro_sp 4 22 ((IntKind.i64.wrap rv2.2) == 2) ⟨[(0, kI k), (1, kU wv), (5, .own Rp.byte 5 11 [] rv2.1), (22, kB ((IntKind.i64.wrap rv2.2) == 2))], []⟩ (by kernel_rfl) rfl (fun hc3 => ?_) (fun hc3 => ?_))
   ·
    replace h_g := iteT h_g hc3
    refine (ro_sp 5 27 ((rv2.1.length : Int) == 0) ⟨[(0, kI k), (1, kU wv), (27, kB ((rv2.1.length : Int) == 0))], []⟩ (by kernel_rfl) rfl (fun hc4 => ?_) (fun hc4 => ?_))
    ·
     replace h_g := iteT h_g hc4
     obtain ⟨rv4, h_rv4, h_g⟩ := bnd h_g
     obtain rfl := sj h_g
     exact (ro_oz 2 [kI k, kU wv] rfl (lo_call [kI k, kU wv] [1] 10 rfl Try.call14 (scalar_Size_ok h_rv4) rfl rfl rfl rfl rfl) rfl (by kernel_rfl))
    replace h_g := iteF h_g hc4
    obtain rfl := sj h_g
    exact (ro_z (by kernel_rfl))
   replace h_g := iteF h_g hc3
   obtain rfl := sj h_g
   exact (ro_z (by kernel_rfl))
  obtain rfl := sj h
  exact je_ret (le_z (by kernel_rfl))
 refine ji_condF rfl hc2 ?_
 obtain ⟨rv5, h_rv5, h⟩ := bnd h
 refine ji_region ⟨[(0, kI k), (1, kU wv), (5, .own Rp.byte 5 11 [] rv2.1), (6, k8 rv2.2), (7, .own Rp.byte 5 12 [] rv5)], []⟩ (ro_oz 2 [kI k, kU wv] rfl (lo_call [kI k, kU wv] [1] 10 rfl Try.call10 (darningref08_Put_ok h_rv5) rfl rfl rfl rfl rfl) rfl (by kernel_rfl)) ?_
 obtain ⟨g2, h_g2, h⟩ := bnd h
 refine ji_region ⟨[(4, kB g2)], []⟩ ?_ ?_
 ·
  refine (ro_sp 4 39 ((IntKind.i64.wrap rv2.2) == 0) ⟨[(0, kI k), (1, kU wv), (5, .own Rp.byte 5 11 [] rv2.1), (7, .own Rp.byte 5 12 [] rv5), (39, kB ((IntKind.i64.wrap rv2.2) == 0))], []⟩ (by kernel_rfl) rfl (fun hc5 => ?_) (fun hc5 => ?_))
  ·
   replace h_g2 := iteT h_g2 hc5
   obtain ⟨rv6, h_rv6, h_g2⟩ := bnd h_g2
   refine (ro_o 2 [.own Rp.byte 5 11 [] rv2.1, .own Rp.byte 5 12 [] rv5] ⟨[(0, kI k), (1, kU wv), (7, .own Rp.byte 5 12 [] rv5), (39, kB true), (42, kB rv6)], []⟩ rfl (lo_call [.own Rp.byte 5 11 [] rv2.1, .own Rp.byte 5 12 [] rv5] [11, 12] 11 rfl Try.call9 (darningref01_Same_ok h_rv6) rfl rfl rfl rfl rfl) rfl (by kernel_rfl) (ro_sp 2 44 rv6 ⟨[(0, kI k), (1, kU wv), (7, .own Rp.byte 5 12 [] rv5), (44, kB rv6)], []⟩ (by kernel_rfl) rfl (fun hc6 => ?_) (fun hc6 => ?_)))
   ·
    replace h_g2 := iteT h_g2 hc6
    obtain ⟨rv7, h_rv7, h_g2⟩ := bnd h_g2
    obtain rfl := sj h_g2
    exact (ro_oz 2 [kI k, kU wv] rfl (lo_call [kI k, kU wv] [1] 11 rfl Try.call14 (scalar_Size_ok h_rv7) rfl rfl rfl rfl rfl) rfl (by kernel_rfl))
   replace h_g2 := iteF h_g2 hc6
   obtain rfl := sj h_g2
   exact (ro_z (by kernel_rfl))
  replace h_g2 := iteF h_g2 hc5
  obtain rfl := sj h_g2
  exact (ro_z (by kernel_rfl))
 obtain rfl := sj h
 exact je_ret (le_z (by kernel_rfl))
theorem darninglaw08_ScalarSame_ok {k : Int} {v : Int} {wv : Int} {av : (List UInt8)} {b : (List UInt8)} {r : Bool} (h : darninglaw08_ScalarSame k v wv av b = some r) : FnOk Try.prog 5 [kI k, kU v, kU wv, .sl Rp.byte [0] av, .sl Rp.byte [0] b] [kB r] := by
 refine fn_intro' (E := ⟨[(10, kB r)], []⟩) 123 Try.func5 rfl rfl rfl ⟨rfl, trivial⟩ (fun Xt => ?_)
 refine ji_start ?_
 refine ji_le (E' := ⟨[(0, kI k), (1, kU v), (2, kU wv), (3, .sl Rp.byte [0] av), (4, .sl Rp.byte [0] b)], []⟩) (fun _ _ _ hs => hs) ?_
 unfold darninglaw08_ScalarSame at h
 refine ji_rz ⟨[(0, kI k), (1, kU v), (2, kU wv), (3, .sl Rp.byte [0] av), (4, .sl Rp.byte [0] b)], []⟩ (by kernel_rfl) ?_
 obtain ⟨rv, h_rv, h⟩ := bnd h
 refine ji_region ⟨[(0, kI k), (1, kU v), (2, kU wv), (3, .sl Rp.byte [0] av), (4, .sl Rp.byte [0] b), (24, kB (!rv))], []⟩ (ro_oz 0 [] rfl (lo_call [] [1] 9 rfl Try.call6 (darninglaw08_alive_ok h_rv) rfl rfl rfl rfl rfl) rfl (by kernel_rfl)) ?_
 rcases ite_some h with ⟨hc1, h⟩ | ⟨hc1, h⟩
 ·
  refine ji_condT rfl hc1 ?_
  refine ji_rz ⟨[(10, kB false)], []⟩ (by kernel_rfl) ?_
  obtain rfl := sj h
  exact je_ret (le_z (by kernel_rfl))
 refine ji_condF rfl hc1 ?_
 refine ji_rz ⟨[(0, kI k), (1, kU v), (2, kU wv), (3, .sl Rp.byte [0] av), (4, .sl Rp.byte [0] b), (30, kB (decide ((IntKind.i64.wrap ((av.length : Int) + (b.length : Int))) > 1000)))], []⟩ (by kernel_rfl) ?_
 rcases ite_some h with ⟨hc2, h⟩ | ⟨hc2, h⟩
 ·
  refine ji_condT rfl hc2 ?_
  refine ji_rz ⟨[(10, kB true)], []⟩ (by kernel_rfl) ?_
  obtain rfl := sj h
  exact je_ret (le_z (by kernel_rfl))
 refine ji_condF rfl hc2 ?_
 obtain ⟨rv2, h_rv2, h⟩ := bnd h
 refine ji_region ⟨[(0, kI k), (1, kU v), (2, kU wv), (3, .sl Rp.byte [0] av), (4, .sl Rp.byte [0] b), (11, kU rv2.1), (12, k8 rv2.2)], []⟩ (ro_oz 2 [kI k, .sl Rp.byte [0] av] rfl (lo_call [kI k, .sl Rp.byte [0] av] [0] 9 rfl Try.call7 (scalar_Read_ok h_rv2) rfl rfl rfl rfl rfl) rfl (by kernel_rfl)) ?_
 obtain ⟨rv3, h_rv3, h⟩ := bnd h
 refine ji_region ⟨[(0, kI k), (1, kU v), (2, kU wv), (3, .sl Rp.byte [0] av), (4, .sl Rp.byte [0] b), (11, kU rv2.1), (12, k8 rv2.2), (13, kU rv3.1), (14, k8 rv3.2)], []⟩ (ro_oz 2 [kI k, .sl Rp.byte [0] b] rfl (lo_call [kI k, .sl Rp.byte [0] b] [0] 9 rfl Try.call7 (scalar_Read_ok h_rv3) rfl rfl rfl rfl rfl) rfl (by kernel_rfl)) ?_
 obtain ⟨rv4, h_rv4, h⟩ := bnd h
 refine ji_region ⟨[(0, kI k), (1, kU v), (2, kU wv), (60, kB (if ((IntKind.i64.wrap rv2.2) == 0) then (if ((IntKind.i64.wrap rv3.2) == 0) then (!(rv4 == (rv2.1 == rv3.1))) else (!(rv4 == false))) else (!(rv4 == false))))], []⟩ ?_ ?_
 ·
  refine (ro_o 3 [kI k, .sl Rp.byte [0] av, .sl Rp.byte [0] b] ⟨[(0, kI k), (1, kU v), (2, kU wv), (11, kU rv2.1), (12, k8 rv2.2), (13, kU rv3.1), (14, k8 rv3.2), (46, kB rv4)], []⟩ rfl (lo_call [kI k, .sl Rp.byte [0] av, .sl Rp.byte [0] b] [0] 9 rfl Try.call15 (scalar_Same_ok h_rv4) rfl rfl rfl rfl rfl) rfl (by kernel_rfl) (ro_sp 4 50 ((IntKind.i64.wrap rv2.2) == 0) ⟨[(0, kI k), (1, kU v), (2, kU wv), (11, kU rv2.1), (13, kU rv3.1), (14, k8 rv3.2), (46, kB rv4), (50, kB ((IntKind.i64.wrap rv2.2) == 0))], []⟩ (by kernel_rfl) rfl (fun hc3 => ?_) (fun hc3 => ?_)))
  ·
   refine (ro_sp 5 55 ((IntKind.i64.wrap rv3.2) == 0) ⟨[(0, kI k), (1, kU v), (2, kU wv), (11, kU rv2.1), (13, kU rv3.1), (46, kB rv4), (55, kB ((IntKind.i64.wrap rv3.2) == 0))], []⟩ (by kernel_rfl) rfl (fun hc4 => ?_) (fun hc4 => ?_))
   · exact (ro_zb 60 (!(rv4 == (rv2.1 == rv3.1))) (if ((IntKind.i64.wrap rv2.2) == 0) then (if ((IntKind.i64.wrap rv3.2) == 0) then (!(rv4 == (rv2.1 == rv3.1))) else (!(rv4 == false))) else (!(rv4 == false))) (by rw [hc3, hc4] <;> rfl) (by kernel_rfl) (by kernel_rfl))
   exact (ro_zb 60 (!(rv4 == false)) (if ((IntKind.i64.wrap rv2.2) == 0) then (if ((IntKind.i64.wrap rv3.2) == 0) then (!(rv4 == (rv2.1 == rv3.1))) else (!(rv4 == false))) else (!(rv4 == false))) (by rw [hc3, hc4] <;> rfl) (by kernel_rfl) (by kernel_rfl))
  exact (ro_zb 60 (!(rv4 == false)) (if ((IntKind.i64.wrap rv2.2) == 0) then (if ((IntKind.i64.wrap rv3.2) == 0) then (!(rv4 == (rv2.1 == rv3.1))) else (!(rv4 == false))) else (!(rv4 == false))) (by rw [hc3] <;> rfl) (by kernel_rfl) (by kernel_rfl))
 rcases ite_some h with ⟨hc5, h⟩ | ⟨hc5, h⟩
 ·
  refine ji_condT rfl hc5 ?_
  refine ji_rz ⟨[(10, kB false)], []⟩ (by kernel_rfl) ?_
  obtain rfl := sj h
  exact je_ret (le_z (by kernel_rfl))
 refine ji_condF rfl hc5 ?_
 obtain ⟨rv5, h_rv5, h⟩ := bnd h
 refine ji_region ⟨[(0, kI k), (1, kU v), (2, kU wv), (15, .own Rp.byte 5 11 [] rv5.1), (16, k8 rv5.2)], []⟩ (ro_oz 2 [kI k, kU v] rfl (lo_call [kI k, kU v] [1] 9 rfl Try.call12 (scalar_Put_ok h_rv5) rfl rfl rfl rfl rfl) rfl (by kernel_rfl)) ?_
 obtain ⟨rv6, h_rv6, h⟩ := bnd h
 refine ji_region ⟨[(0, kI k), (1, kU v), (15, .own Rp.byte 5 11 [] rv5.1), (16, k8 rv5.2), (17, .own Rp.byte 5 12 [] rv6.1)], []⟩ (ro_oz 2 [kI k, kU wv] rfl (lo_call [kI k, kU wv] [1] 10 rfl Try.call12 (scalar_Put_ok h_rv6) rfl rfl rfl rfl rfl) rfl (by kernel_rfl)) ?_
 refine ji_rz ⟨[(0, kI k), (1, kU v), (15, .own Rp.byte 5 11 [] rv5.1), (17, .own Rp.byte 5 12 [] rv6.1), (75, kB ((IntKind.i64.wrap rv5.2) != 0))], []⟩ (by kernel_rfl) ?_
 rcases ite_some h with ⟨hc6, h⟩ | ⟨hc6, h⟩
 ·
  refine ji_condT rfl hc6 ?_
  refine ji_rz ⟨[(10, kB true)], []⟩ (by kernel_rfl) ?_
  obtain rfl := sj h
  exact je_ret (le_z (by kernel_rfl))
 refine ji_condF rfl hc6 ?_
 obtain ⟨rv7, h_rv7, h⟩ := bnd h
 refine ji_region ⟨[(0, kI k), (1, kU v), (15, .own Rp.byte 5 11 [] rv5.1), (17, .own Rp.byte 5 12 [] rv6.1), (19, kU rv7.1), (20, k8 rv7.2)], []⟩ (ro_oz 2 [kI k, .own Rp.byte 5 11 [] rv5.1] rfl (lo_call [kI k, .own Rp.byte 5 11 [] rv5.1] [11] 11 rfl Try.call7 (scalar_Read_ok h_rv7) rfl rfl rfl rfl rfl) rfl (by kernel_rfl)) ?_
 obtain ⟨rv8, h_rv8, h⟩ := bnd h
 refine ji_region ⟨[(0, kI k), (1, kU v), (15, .own Rp.byte 5 11 [] rv5.1), (17, .own Rp.byte 5 12 [] rv6.1), (19, kU rv7.1), (20, k8 rv7.2), (21, kU rv8.1), (22, k8 rv8.2)], []⟩ (ro_oz 2 [kI k, .own Rp.byte 5 12 [] rv6.1] rfl (lo_call [kI k, .own Rp.byte 5 12 [] rv6.1] [12] 11 rfl Try.call7 (scalar_Read_ok h_rv8) rfl rfl rfl rfl rfl) rfl (by kernel_rfl)) ?_
 obtain ⟨g, h_g, h⟩ := bnd h
 refine ji_region ⟨[(10, kB g)], []⟩ ?_ ?_
 ·
  refine (ro_sp 4 91 ((IntKind.i64.wrap rv7.2) == 0) ⟨[(0, kI k), (1, kU v), (15, .own Rp.byte 5 11 [] rv5.1), (17, .own Rp.byte 5 12 [] rv6.1), (19, kU rv7.1), (21, kU rv8.1), (22, k8 rv8.2), (91, kB ((IntKind.i64.wrap rv7.2) == 0))], []⟩ (by kernel_rfl) rfl (fun hc7 => ?_) (fun hc7 => ?_))
  ·
   replace h_g := iteT h_g hc7
   refine (ro_sp 5 96 ((IntKind.i64.wrap rv8.2) == 0) ⟨[(0, kI k), (1, kU v), (15, .own Rp.byte 5 11 [] rv5.1), (17, .own Rp.byte 5 12 [] rv6.1), (19, kU rv7.1), (21, kU rv8.1), (96, kB ((IntKind.i64.wrap rv8.2) == 0))], []⟩ (by kernel_rfl) rfl (fun hc8 => ?_) (fun hc8 => ?_))
   ·
    replace h_g := iteT h_g hc8
    obtain ⟨rv9, h_rv9, h_g⟩ := bnd h_g
    refine (ro_o 2 [.own Rp.byte 5 11 [] rv5.1, .own Rp.byte 5 12 [] rv6.1] ⟨[(0, kI k), (1, kU v), (15, .own Rp.byte 5 11 [] rv5.1), (19, kU rv7.1), (21, kU rv8.1), (96, kB true), (99, kB rv9)], []⟩ rfl (lo_call [.own Rp.byte 5 11 [] rv5.1, .own Rp.byte 5 12 [] rv6.1] [11, 12] 11 rfl Try.call9 (darningref01_Same_ok h_rv9) rfl rfl rfl rfl rfl) rfl (by kernel_rfl) (ro_sp 6 105 (rv9 == (rv7.1 == rv8.1)) ⟨[(0, kI k), (1, kU v), (15, .own Rp.byte 5 11 [] rv5.1), (19, kU rv7.1), (105, kB (rv9 == (rv7.1 == rv8.1)))], []⟩ (by kernel_rfl) rfl (fun hc9 => ?_) (fun hc9 => ?_)))
    ·
     replace h_g := iteT h_g hc9
     obtain ⟨rv10, h_rv10, h_g⟩ := bnd h_g
     refine (ro_o 2 [kI k, .own Rp.byte 5 11 [] rv5.1] ⟨[(0, kI k), (1, kU v), (15, .own Rp.byte 5 11 [] rv5.1), (19, kU rv7.1), (105, kB true), (108, kB rv10)], []⟩ rfl (lo_call [kI k, .own Rp.byte 5 11 [] rv5.1] [11] 11 rfl Try.call11 (scalar_Canonical_ok h_rv10) rfl rfl rfl rfl rfl) rfl (by kernel_rfl) (ro_sp 2 110 rv10 ⟨[(0, kI k), (1, kU v), (15, .own Rp.byte 5 11 [] rv5.1), (19, kU rv7.1), (110, kB rv10)], []⟩ (by kernel_rfl) rfl (fun hc10 => ?_) (fun hc10 => ?_)))
     ·
      replace h_g := iteT h_g hc10
      obtain ⟨rv11, h_rv11, h_g⟩ := bnd h_g
      refine (ro_o 3 [kI k, .own Rp.byte 5 11 [] rv5.1, .own Rp.byte 5 11 [] rv5.1] ⟨[(0, kI k), (1, kU v), (19, kU rv7.1), (110, kB true), (114, kB rv11)], []⟩ rfl (lo_call [kI k, .own Rp.byte 5 11 [] rv5.1, .own Rp.byte 5 11 [] rv5.1] [11] 11 rfl Try.call15 (scalar_Same_ok h_rv11) rfl rfl rfl rfl rfl) rfl (by kernel_rfl) (ro_sp 2 116 rv11 ⟨[(0, kI k), (1, kU v), (19, kU rv7.1), (116, kB rv11)], []⟩ (by kernel_rfl) rfl (fun hc11 => ?_) (fun hc11 => ?_)))
      ·
       replace h_g := iteT h_g hc11
       obtain ⟨rv12, h_rv12, h_g⟩ := bnd h_g
       obtain rfl := sj h_g
       exact (ro_oz 3 [kI k, kU v] rfl (lo_call [kI k, kU v] [1] 11 rfl Try.call16 (darningref06_Canon_ok h_rv12) rfl rfl rfl rfl rfl) rfl (by kernel_rfl))
      replace h_g := iteF h_g hc11
      obtain rfl := sj h_g
      exact (ro_z (by kernel_rfl))
     replace h_g := iteF h_g hc10
     obtain rfl := sj h_g
     exact (ro_z (by kernel_rfl))
    replace h_g := iteF h_g hc9
    obtain rfl := sj h_g
    exact (ro_z (by kernel_rfl))
   replace h_g := iteF h_g hc8
   obtain rfl := sj h_g
   exact (ro_z (by kernel_rfl))
  replace h_g := iteF h_g hc7
  obtain rfl := sj h_g
  exact (ro_z (by kernel_rfl))
 obtain rfl := sj h
 exact je_ret (le_z (by kernel_rfl))
end Go.Proofs.Ytceeeodooljgpaa
