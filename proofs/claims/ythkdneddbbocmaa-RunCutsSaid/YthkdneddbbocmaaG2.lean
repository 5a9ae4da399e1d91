/-
  The Go functions do what the plain functions say. No condition.
-/
import Derived.Test.YthkdneddbbocmaaG1
namespace Go.Proofs.Ythkdneddbbocmaa
open Go Go.RowKit
set_option linter.unusedVariables false
set_option maxRecDepth 100000
theorem bits_Sign32_ok {wv : Int} {r : Int} (h : bits_Sign32 wv = some r) : FnOk Try.prog 49 [kU wv] [.lf (.int .i32 r)] := by
 refine fn_intro' (E := ⟨[(2, .lf (.int .i32 r))], []⟩) 6 Try.func49 rfl rfl rfl ⟨rfl, trivial⟩ (fun Xt => ?_)
 refine ji_start ?_
 refine ji_le (E' := ⟨[(0, kU wv)], []⟩) (fun _ _ _ hs => hs) ?_
 unfold bits_Sign32 at h
 refine ji_rz ⟨[(0, kU wv)], []⟩ (by kernel_rfl) ?_
 obtain ⟨rv, h_rv, h⟩ := bnd h
 refine ji_region ⟨[(2, .lf (.int .i32 (IntKind.i32.wrap rv)))], []⟩ (ro_oz 1 [kU wv] rfl (lo_call [kU wv] [1] 9 rfl Try.call50 (bits_Low32_ok h_rv) rfl rfl rfl rfl rfl) rfl (by kernel_rfl)) ?_
 obtain rfl := sj h
 exact je_ret (le_z (by kernel_rfl))
theorem varint_Skip_ok {b : (List UInt8)} {r : (Int × Int)} (h : varint_Skip b = some r) : FnOk Try.prog 38 [.sl Rp.byte [0] b] [kI r.1, k8 r.2] := by
 refine fn_intro' (E := ⟨[(2, kI r.1), (3, k8 r.2)], []⟩) 15 Try.func38 rfl rfl rfl ⟨rfl, rfl, trivial⟩ (fun Xt => ?_)
 refine ji_start ?_
 refine ji_le (E' := ⟨[(0, .sl Rp.byte [0] b)], []⟩) (fun _ _ _ hs => hs) ?_
 unfold varint_Skip at h
 refine ji_rz ⟨[(0, .sl Rp.byte [0] b)], []⟩ (by kernel_rfl) ?_
 obtain ⟨rv, h_rv, h⟩ := bnd h
 refine ji_region ⟨[(5, kI rv.2.1), (6, k8 rv.2.2)], []⟩ (ro_oz 1 [.sl Rp.byte [0] b] rfl (lo_call [.sl Rp.byte [0] b] [0] 9 rfl Try.call54 (varint_Read_ok h_rv) rfl rfl rfl rfl rfl) rfl (by kernel_rfl)) ?_
 refine ji_rz ⟨[(2, kI rv.2.1), (3, k8 rv.2.2)], []⟩ (by kernel_rfl) ?_
 obtain rfl := sj h
 exact je_ret (le_z (by kernel_rfl))
theorem scalar_whole_ok {b : (List UInt8)} {r : (Int × Int)} (h : scalar_whole b = some r) : FnOk Try.prog 46 [.sl Rp.byte [0] b] [kU r.1, k8 r.2] := by
 refine fn_intro' (E := ⟨[(2, kU r.1), (3, k8 r.2)], []⟩) 22 Try.func46 rfl rfl rfl ⟨rfl, rfl, trivial⟩ (fun Xt => ?_)
 refine ji_start ?_
 refine ji_le (E' := ⟨[(0, .sl Rp.byte [0] b)], []⟩) (fun _ _ _ hs => hs) ?_
 unfold scalar_whole at h
 refine ji_rz ⟨[(0, .sl Rp.byte [0] b)], []⟩ (by kernel_rfl) ?_
 obtain ⟨rv, h_rv, h⟩ := bnd h
 refine ji_region ⟨[(0, .sl Rp.byte [0] b), (4, kU rv.1), (5, kI rv.2.1), (6, k8 rv.2.2)], []⟩ (ro_oz 1 [.sl Rp.byte [0] b] rfl (lo_call [.sl Rp.byte [0] b] [0] 9 rfl Try.call54 (varint_Read_ok h_rv) rfl rfl rfl rfl rfl) rfl (by kernel_rfl)) ?_
 refine ji_region ⟨[(4, kU rv.1), (20, kB ((rv.2.2 != 0) || (rv.2.1 != (b.length : Int))))], []⟩ ?_ ?_
 ·
  refine (ro_sp 3 15 (rv.2.2 != 0) ⟨[(0, .sl Rp.byte [0] b), (4, kU rv.1), (5, kI rv.2.1), (15, kB (rv.2.2 != 0))], []⟩ (by kernel_rfl) rfl (fun hc1 => ?_) (fun hc1 => ?_))
  · exact (ro_zb 20 true ((rv.2.2 != 0) || (rv.2.1 != (b.length : Int))) (by rw [hc1] <;> rfl) (by kernel_rfl) (by kernel_rfl))
  exact (ro_zb 20 (rv.2.1 != (b.length : Int)) ((rv.2.2 != 0) || (rv.2.1 != (b.length : Int))) (by rw [hc1] <;> rfl) (by kernel_rfl) (by kernel_rfl))
 rcases ite_some h with ⟨hc2, h⟩ | ⟨hc2, h⟩
 ·
  refine ji_condT rfl hc2 ?_
  refine ji_rz ⟨[(2, kU 0), (3, k8 12)], []⟩ (by kernel_rfl) ?_
  obtain rfl := sj h
  exact je_ret (le_z (by kernel_rfl))
 refine ji_condF rfl hc2 ?_
 refine ji_rz ⟨[(2, kU rv.1), (3, k8 0)], []⟩ (by kernel_rfl) ?_
 obtain rfl := sj h
 exact je_ret (le_z (by kernel_rfl))
theorem darningref09_Ends_ok {k : Int} {b : (List UInt8)} {r : ((List Int) × Int)} (h : darningref09_Ends k b = some r) : FnOk Try.prog 19 [kI k, .sl Rp.byte [0] b] [.own (Rp.int .i64) 3 2 [] r.1, kI r.2] := by
 refine fn_intro' (E := ⟨[(4, .own (Rp.int .i64) 3 2 [] r.1), (5, kI r.2)], []⟩) 48 Try.func19 rfl rfl rfl ⟨rfl, rfl, trivial⟩ (fun Xt => ?_)
 refine ji_start ?_
 refine ji_le (E' := ⟨[(0, kI k), (1, .sl Rp.byte [0] b)], []⟩) (fun _ _ _ hs => hs) ?_
 unfold darningref09_Ends at h
 refine ji_rz ⟨[(0, kI k), (1, .sl Rp.byte [0] b)], []⟩ (by kernel_rfl) ?_
 obtain ⟨rv, h_rv, h⟩ := bnd h
 refine ji_region ⟨[(0, kI k), (1, .sl Rp.byte [0] b), (14, kB (!rv))], []⟩ (ro_oz 1 [kI k] rfl (lo_call [kI k] [1] 12 rfl Try.call17 (darningref06_Number_ok h_rv) rfl rfl rfl rfl rfl) rfl (by kernel_rfl)) ?_
 rcases ite_some h with ⟨hc1, h⟩ | ⟨hc1, h⟩
 ·
  refine ji_condT rfl hc1 ?_
  refine ji_rz ⟨[(4, kN), (5, kI 2)], []⟩ (by kernel_rfl) ?_
  obtain rfl := sj h
  refine je_ret ?_
  refine le_at 4 (.own (Rp.int .i64) 3 2 [] (([], 2) : ((List Int) × Int)).1) rfl (le_own_nil (Rp.int .i64) 3 2 [] rfl) ?_
  exact le_z (by kernel_rfl)
 refine ji_condF rfl hc1 ?_
 refine ji_rz ⟨[(0, kI k), (1, .sl Rp.byte [0] b), (6, kN)], []⟩ (by kernel_rfl) ?_
 refine ji_rz ⟨[(0, kI k), (1, .sl Rp.byte [0] b), (6, kN), (7, kI 0)], []⟩ (by kernel_rfl) ?_
 refine ji_block ?_
 obtain ⟨q, h_q, h⟩ := bnd h
 refine je_loop (fun s : ((List Int) × Int) => darningref09_Ends_b1 b k s.1 s.2) (fun s => ⟨[(0, kI k), (1, .sl Rp.byte [0] b), (6, .own (Rp.int .i64) 3 16 [] s.1), (7, kI s.2)], []⟩) (fun o e a w => match o with | (.inl v_) => e = .exit 0 ∧ Sx ⟨⟨48, []⟩, Xt, false, #[]⟩ ⟨[(6, .own (Rp.int .i64) 3 16 [] v_)], []⟩ a w | (.inr v_) => e = .ret ∧ Sx ⟨⟨48, []⟩, Xt, false, #[]⟩ ⟨[(4, kN), (5, kI v_)], []⟩ a w) ?_ h_q ?_ ?_
 ·
  clear h
  intro s o h
  obtain ⟨out, atv⟩ := s
  refine ji_start ?_
  refine ji_le (E' := ⟨[(0, kI k), (1, .sl Rp.byte [0] b), (6, .own (Rp.int .i64) 3 16 [] out), (7, kI atv)], []⟩) (fun _ _ _ hs => hs) ?_
  replace h : darningref09_Ends_b1 b k out atv = some o := h
  unfold darningref09_Ends_b1 at h
  refine ji_rz ⟨[(0, kI k), (1, .sl Rp.byte [0] b), (6, .own (Rp.int .i64) 3 16 [] out), (7, kI atv), (18, kB (decide (atv < (b.length : Int))))], []⟩ (by kernel_rfl) ?_
  rcases ite_some h with ⟨hc2, h⟩ | ⟨hc2, h⟩
  ·
   refine ji_condT rfl hc2 ?_
   refine ji_block ?_
   refine ji_rz ⟨[(0, kI k), (1, .sl Rp.byte [0] b), (6, .own (Rp.int .i64) 3 16 [] out), (7, kI atv), (8, kI 8)], []⟩ (by kernel_rfl) ?_
   refine ji_rz ⟨[(0, kI k), (1, .sl Rp.byte [0] b), (6, .own (Rp.int .i64) 3 16 [] out), (7, kI atv), (8, kI 8), (20, kB (decide (k < 12)))], []⟩ (by kernel_rfl) ?_
   obtain ⟨p, h_p, h⟩ := bnd h
   refine ji_join (R := fun e a w => e = .normal ∧ Sx ⟨⟨48, []⟩, Xt, false, #[]⟩ ⟨[(0, kI k), (1, .sl Rp.byte [0] b), (6, .own (Rp.int .i64) 3 16 [] out), (7, kI atv), (8, kI p)], []⟩ a w) ?_ ?_
   ·
    replace h := h_p
    refine ji_start ?_
    rcases ite_some h with ⟨hc3, h⟩ | ⟨hc3, h⟩
    ·
     refine ji_condT rfl hc3 ?_
     refine ji_rz ⟨[(0, kI k), (1, .sl Rp.byte [0] b), (6, .own (Rp.int .i64) 3 16 [] out), (7, kI atv), (8, kI 4)], []⟩ (by kernel_rfl) ?_
     obtain rfl := sj h
     exact je_nil (le_z (by kernel_rfl))
    refine ji_condF rfl hc3 ?_
    obtain rfl := sj h
    exact je_nil (le_z (by kernel_rfl))
   refine k_norm ?_
   refine ji_rz ⟨[(0, kI k), (1, .sl Rp.byte [0] b), (6, .own (Rp.int .i64) 3 16 [] out), (7, kI atv), (8, kI p), (22, kB (decide (k < 9)))], []⟩ (by kernel_rfl) ?_
   obtain ⟨p2, h_p2, h⟩ := bnd h
   refine ji_join (R := fun e a w => match p2 with | (.inl v_) => e = .normal ∧ Sx ⟨⟨48, []⟩, Xt, false, #[]⟩ ⟨[(0, kI k), (1, .sl Rp.byte [0] b), (6, .own (Rp.int .i64) 3 16 [] out), (7, kI atv), (8, kI v_)], []⟩ a w | (.inr v_) => e = .ret ∧ Sx ⟨⟨48, []⟩, Xt, false, #[]⟩ ⟨[(4, kN), (5, kI v_)], []⟩ a w) ?_ ?_
   ·
    replace h := h_p2
    refine ji_start ?_
    rcases ite_some h with ⟨hc4, h⟩ | ⟨hc4, h⟩
    ·
     refine ji_condT rfl hc4 ?_
     obtain ⟨rv2, h_rv2, h⟩ := bnd h
     refine ji_region ⟨[(0, kI k), (1, .sl Rp.byte [0] b), (6, .own (Rp.int .i64) 3 16 [] out), (7, kI atv), (10, kI rv2.2.1), (11, kI rv2.2.2)], []⟩ (ro_oz 2 [.sl Rp.byte [0] b, kI atv] rfl (lo_call [.sl Rp.byte [0] b, kI atv] [0] 15 rfl Try.call30 (darningref02_Read_ok h_rv2) rfl rfl rfl rfl rfl) rfl (by kernel_rfl)) ?_
     refine ji_rz ⟨[(0, kI k), (1, .sl Rp.byte [0] b), (6, .own (Rp.int .i64) 3 16 [] out), (7, kI atv), (10, kI rv2.2.1), (11, kI rv2.2.2), (31, kB (rv2.2.2 != 0))], []⟩ (by kernel_rfl) ?_
     rcases ite_some h with ⟨hc5, h⟩ | ⟨hc5, h⟩
     ·
      refine ji_condT rfl hc5 ?_
      refine ji_rz ⟨[(4, kN), (5, kI rv2.2.2)], []⟩ (by kernel_rfl) ?_
      obtain rfl := sj h
      exact je_ret (le_z (by kernel_rfl))
     refine ji_condF rfl hc5 ?_
     refine ji_rz ⟨[(0, kI k), (1, .sl Rp.byte [0] b), (6, .own (Rp.int .i64) 3 16 [] out), (7, kI atv), (8, kI rv2.2.1)], []⟩ (by kernel_rfl) ?_
     obtain rfl := sj h
     exact je_nil (le_z (by kernel_rfl))
    refine ji_condF rfl hc4 ?_
    obtain rfl := sj h
    exact je_nil (le_z (by kernel_rfl))
   rcases p2 with u | u2
   ·
    refine k_norm ?_
    refine ji_rz ⟨[(0, kI k), (1, .sl Rp.byte [0] b), (6, .own (Rp.int .i64) 3 16 [] out), (7, kI atv), (8, kI u), (39, kB (decide ((IntKind.i64.wrap (atv + u)) > (b.length : Int))))], []⟩ (by kernel_rfl) ?_
    rcases ite_some h with ⟨hc6, h⟩ | ⟨hc6, h⟩
    ·
     refine ji_condT rfl hc6 ?_
     refine ji_rz ⟨[(4, kN), (5, kI 3)], []⟩ (by kernel_rfl) ?_
     obtain rfl := sj h
     exact je_ret' (le_z (by kernel_rfl))
    refine ji_condF rfl hc6 ?_
    refine ji_rz ⟨[(0, kI k), (1, .sl Rp.byte [0] b), (6, .own (Rp.int .i64) 3 16 [] out), (7, kI (IntKind.i64.wrap (atv + u)))], []⟩ (by kernel_rfl) ?_
    obtain ⟨v3, h_v3, h⟩ := bnd h
    refine ji_region ⟨[(0, kI k), (1, .sl Rp.byte [0] b), (6, .own (Rp.int .i64) 3 16 [] v3), (7, kI (IntKind.i64.wrap (atv + u)))], []⟩ (ro_o 2 [kI (IntKind.i64.wrap (atv + u))] ⟨[(0, kI k), (1, .sl Rp.byte [0] b), (7, kI (IntKind.i64.wrap (atv + u))), (43, .own (Rp.int .i64) 3 16 [] out), (45, .own (Rp.int .i64) 3 17 [] ([(IntKind.i64.wrap (atv + u))] : (List Int)))], []⟩ rfl (lo_bsl [kI (IntKind.i64.wrap (atv + u))] 17 [] ([(IntKind.i64.wrap (atv + u))] : (List Int)) rfl zet46 rfl rfl rfl rfl) rfl (by kernel_rfl) (ro_oz 0 [.own (Rp.int .i64) 3 16 [] out, .own (Rp.int .i64) 3 17 [] ([(IntKind.i64.wrap (atv + u))] : (List Int))] rfl (lo_app 16 [] rfl zet46.el rfl (isOwn_own _ _ _ _ _) (isSl_own _ _ _ _ _) h_v3 (.inl (plain_int _)) rfl) rfl (by kernel_rfl))) ?_
    refine ji_end ?_
    obtain rfl := sj h
    exact je_nil (le_z (by kernel_rfl))
   obtain rfl := sj h
   exact ke_ret' (le_z (by kernel_rfl))
  refine ji_condF rfl hc2 ?_
  obtain rfl := sj h
  exact je_out' rfl (le_z (by kernel_rfl))
 ·
  refine le_at 6 (.own (Rp.int .i64) 3 16 [] []) rfl (le_own_nil (Rp.int .i64) 3 16 [] rfl) ?_
  exact le_z (by kernel_rfl)
 rcases q with u3 | u4
 ·
  refine k_exit _ rfl ?_
  refine ji_rz ⟨[(4, .own (Rp.int .i64) 3 16 [] u3), (5, kI 0)], []⟩ (by kernel_rfl) ?_
  obtain rfl := sj h
  refine je_ret ?_
  refine le_px ⟨[(4, .own (Rp.int .i64) 3 16 [] u3), (5, kI 0)], []⟩ (by kernel_rfl) (le_rn 16 2 rfl (le_px ⟨[(4, .own (Rp.int .i64) 3 2 [] u3), (5, kI 0)], []⟩ (by kernel_rfl) ?_))
  exact le_z (by kernel_rfl)
 obtain rfl := sj h
 refine ke_ret ?_
 refine le_at 4 (.own (Rp.int .i64) 3 2 [] (([], u4) : ((List Int) × Int)).1) rfl (le_own_nil (Rp.int .i64) 3 2 [] rfl) ?_
 exact le_z (by kernel_rfl)
theorem darningref05_Fits_ok {wire : Int} {value : (List UInt8)} {r : Bool} (h : darningref05_Fits wire value = some r) : FnOk Try.prog 34 [kI wire, .sl Rp.byte [0] value] [kB r] := by
 refine fn_intro' (E := ⟨[(4, kB r)], []⟩) 44 Try.func34 rfl rfl rfl ⟨rfl, trivial⟩ (fun Xt => ?_)
 refine ji_start ?_
 refine ji_le (E' := ⟨[(0, kI wire), (1, .sl Rp.byte [0] value)], []⟩) (fun _ _ _ hs => hs) ?_
 unfold darningref05_Fits at h
 refine ji_rz ⟨[(0, kI wire), (1, .sl Rp.byte [0] value)], []⟩ (by kernel_rfl) ?_
 refine ji_rz ⟨[(0, kI wire), (1, .sl Rp.byte [0] value), (9, kB (wire == 0))], []⟩ (by kernel_rfl) ?_
 rcases ite_some h with ⟨hc1, h⟩ | ⟨hc1, h⟩
 ·
  refine ji_condT rfl hc1 ?_
  obtain ⟨rv, h_rv, h⟩ := bnd h
  refine ji_region ⟨[(1, .sl Rp.byte [0] value), (6, kI rv.2.1), (7, kI rv.2.2)], []⟩ (ro_oz 1 [.sl Rp.byte [0] value, kI 0] rfl (lo_call [.sl Rp.byte [0] value, kI 0] [0] 9 rfl Try.call30 (darningref02_Read_ok h_rv) rfl rfl rfl rfl rfl) rfl (by kernel_rfl)) ?_
  refine ji_region ⟨[(4, kB ((rv.2.2 == 0) && (rv.2.1 == (value.length : Int))))], []⟩ ?_ ?_
  ·
   refine (ro_sp 3 18 (rv.2.2 == 0) ⟨[(1, .sl Rp.byte [0] value), (6, kI rv.2.1), (18, kB (rv.2.2 == 0))], []⟩ (by kernel_rfl) rfl (fun hc2 => ?_) (fun hc2 => ?_))
   · exact (ro_zb 4 (rv.2.1 == (value.length : Int)) ((rv.2.2 == 0) && (rv.2.1 == (value.length : Int))) (by rw [hc2] <;> rfl) (by kernel_rfl) (by kernel_rfl))
   exact (ro_zb 4 false ((rv.2.2 == 0) && (rv.2.1 == (value.length : Int))) (by rw [hc2] <;> rfl) (by kernel_rfl) (by kernel_rfl))
  obtain rfl := sj h
  exact je_ret (le_z (by kernel_rfl))
 refine ji_condF rfl hc1 ?_
 refine ji_region ⟨[(4, kB ((wire == 2) || (if (wire == 1) then (((value.length : Int) == 8) || ((wire == 5) && ((value.length : Int) == 4))) else ((wire == 5) && ((value.length : Int) == 4)))))], []⟩ ?_ ?_
 ·
  refine (ro_sp 3 26 (wire == 2) ⟨[(0, kI wire), (1, .sl Rp.byte [0] value), (26, kB (wire == 2))], []⟩ (by kernel_rfl) rfl (fun hc3 => ?_) (fun hc3 => ?_))
  · exact (ro_zb 4 true ((wire == 2) || (if (wire == 1) then (((value.length : Int) == 8) || ((wire == 5) && ((value.length : Int) == 4))) else ((wire == 5) && ((value.length : Int) == 4)))) (by rw [hc3] <;> rfl) (by kernel_rfl) (by kernel_rfl))
  refine (ro_sp 3 29 (wire == 1) ⟨[(0, kI wire), (1, .sl Rp.byte [0] value), (26, kB false), (29, kB (wire == 1))], []⟩ (by kernel_rfl) rfl (fun hc4 => ?_) (fun hc4 => ?_))
  ·
   refine (ro_sp 6 35 ((value.length : Int) == 8) ⟨[(0, kI wire), (1, .sl Rp.byte [0] value), (35, kB ((value.length : Int) == 8))], []⟩ (by kernel_rfl) rfl (fun hc5 => ?_) (fun hc5 => ?_))
   · exact (ro_zb 4 true ((wire == 2) || (if (wire == 1) then (((value.length : Int) == 8) || ((wire == 5) && ((value.length : Int) == 4))) else ((wire == 5) && ((value.length : Int) == 4)))) (by rw [hc3, hc4, hc5] <;> rfl) (by kernel_rfl) (by kernel_rfl))
   refine (ro_sp 3 38 (wire == 5) ⟨[(1, .sl Rp.byte [0] value), (35, kB false), (38, kB (wire == 5))], []⟩ (by kernel_rfl) rfl (fun hc6 => ?_) (fun hc6 => ?_))
   · exact (ro_zb 4 ((value.length : Int) == 4) ((wire == 2) || (if (wire == 1) then (((value.length : Int) == 8) || ((wire == 5) && ((value.length : Int) == 4))) else ((wire == 5) && ((value.length : Int) == 4)))) (by rw [hc3, hc4, hc5, hc6] <;> rfl) (by kernel_rfl) (by kernel_rfl))
   exact (ro_zb 4 false ((wire == 2) || (if (wire == 1) then (((value.length : Int) == 8) || ((wire == 5) && ((value.length : Int) == 4))) else ((wire == 5) && ((value.length : Int) == 4)))) (by rw [hc3, hc4, hc5, hc6] <;> rfl) (by kernel_rfl) (by kernel_rfl))
  refine (ro_sp 9 38 (wire == 5) ⟨[(1, .sl Rp.byte [0] value), (35, kB false), (38, kB (wire == 5))], []⟩ (by kernel_rfl) rfl (fun hc7 => ?_) (fun hc7 => ?_))
  · exact (ro_zb 4 ((value.length : Int) == 4) ((wire == 2) || (if (wire == 1) then (((value.length : Int) == 8) || ((wire == 5) && ((value.length : Int) == 4))) else ((wire == 5) && ((value.length : Int) == 4)))) (by rw [hc3, hc4, hc7] <;> rfl) (by kernel_rfl) (by kernel_rfl))
  exact (ro_zb 4 false ((wire == 2) || (if (wire == 1) then (((value.length : Int) == 8) || ((wire == 5) && ((value.length : Int) == 4))) else ((wire == 5) && ((value.length : Int) == 4)))) (by rw [hc3, hc4, hc7] <;> rfl) (by kernel_rfl) (by kernel_rfl))
 obtain rfl := sj h
 exact je_ret (le_z (by kernel_rfl))
theorem darningref06_Canon_ok {k : Int} {wv : Int} {r : Int} (h : darningref06_Canon k wv = some r) : FnOk Try.prog 37 [kI k, kU wv] [kU r] := by
 refine fn_intro' (E := ⟨[(4, kU r)], []⟩) 25 Try.func37 rfl rfl rfl ⟨rfl, trivial⟩ (fun Xt => ?_)
 refine ji_start ?_
 refine ji_le (E' := ⟨[(0, kI k), (1, kU wv)], []⟩) (fun _ _ _ hs => hs) ?_
 unfold darningref06_Canon at h
 refine ji_rz ⟨[(0, kI k), (1, kU wv)], []⟩ (by kernel_rfl) ?_
 refine ji_rz ⟨[(1, kU wv), (5, kI k)], []⟩ (by kernel_rfl) ?_
 refine ji_block ?_
 refine ji_rz ⟨[(1, kU wv), (5, kI k), (6, kB (k == 1))], []⟩ (by kernel_rfl) ?_
 obtain ⟨p, h_p, h⟩ := bnd h
 refine ji_join (R := fun e a w => e = .normal ∧ Sx ⟨⟨25, []⟩, Xt, false, #[]⟩ ⟨[(1, kU wv), (5, kI k), (6, kB p)], []⟩ a w) ?_ ?_
 ·
  replace h := h_p
  refine ji_start ?_
  rcases ite_some h with ⟨hc1, h⟩ | ⟨hc1, h⟩
  ·
   refine ji_condT rfl hc1 ?_
   obtain rfl := sj h
   exact je_nil (le_z (by kernel_rfl))
  refine ji_condF rfl hc1 ?_
  refine ji_rz ⟨[(1, kU wv), (5, kI k), (6, kB (k == 8))], []⟩ (by kernel_rfl) ?_
  obtain rfl := sj h
  exact je_nil (le_z (by kernel_rfl))
 refine k_norm ?_
 rcases ite_some h with ⟨hc2, h⟩ | ⟨hc2, h⟩
 ·
  refine ji_condT rfl hc2 ?_
  obtain ⟨rv, h_rv, h⟩ := bnd h
  obtain ⟨rv2, h_rv2, h⟩ := bnd h
  refine ji_region ⟨[(4, kU rv2)], []⟩ (ro_o 1 [kU wv] ⟨[(10, kI rv)], []⟩ rfl (lo_call [kU wv] [1] 9 rfl Try.call53 (darningref01_Sign32_ok h_rv) rfl rfl rfl rfl rfl) rfl (by kernel_rfl) (ro_oz 0 [kI rv] rfl (lo_call [kI rv] [1] 9 rfl Try.call52 (darningref01_Wide_ok h_rv2) rfl rfl rfl rfl rfl) rfl (by kernel_rfl))) ?_
  obtain rfl := sj h
  exact je_ret (le_z (by kernel_rfl))
 refine ji_condF rfl hc2 ?_
 refine ji_rz ⟨[(1, kU wv), (5, kI k), (12, kB (k == 3))], []⟩ (by kernel_rfl) ?_
 obtain ⟨p2, h_p2, h⟩ := bnd h
 refine ji_join (R := fun e a w => e = .normal ∧ Sx ⟨⟨25, []⟩, Xt, false, #[]⟩ ⟨[(1, kU wv), (5, kI k), (12, kB p2)], []⟩ a w) ?_ ?_
 ·
  replace h := h_p2
  refine ji_start ?_
  rcases ite_some h with ⟨hc3, h⟩ | ⟨hc3, h⟩
  ·
   refine ji_condT rfl hc3 ?_
   obtain rfl := sj h
   exact je_nil (le_z (by kernel_rfl))
  refine ji_condF rfl hc3 ?_
  refine ji_rz ⟨[(1, kU wv), (5, kI k), (12, kB (k == 5))], []⟩ (by kernel_rfl) ?_
  rcases ite_some h with ⟨hc4, h⟩ | ⟨hc4, h⟩
  ·
   refine ji_condT rfl hc4 ?_
   obtain rfl := sj h
   exact je_nil (le_z (by kernel_rfl))
  refine ji_condF rfl hc4 ?_
  refine ji_rz ⟨[(1, kU wv), (5, kI k), (12, kB (k == 9))], []⟩ (by kernel_rfl) ?_
  rcases ite_some h with ⟨hc5, h⟩ | ⟨hc5, h⟩
  ·
   refine ji_condT rfl hc5 ?_
   obtain rfl := sj h
   exact je_nil (le_z (by kernel_rfl))
  refine ji_condF rfl hc5 ?_
  refine ji_rz ⟨[(1, kU wv), (5, kI k), (12, kB (k == 10))], []⟩ (by kernel_rfl) ?_
  rcases ite_some h with ⟨hc6, h⟩ | ⟨hc6, h⟩
  ·
   refine ji_condT rfl hc6 ?_
   obtain rfl := sj h
   exact je_nil (le_z (by kernel_rfl))
  refine ji_condF rfl hc6 ?_
  refine ji_rz ⟨[(1, kU wv), (5, kI k), (12, kB (k == 11))], []⟩ (by kernel_rfl) ?_
  obtain rfl := sj h
  exact je_nil (le_z (by kernel_rfl))
 refine k_norm ?_
 rcases ite_some h with ⟨hc7, h⟩ | ⟨hc7, h⟩
 ·
  refine ji_condT rfl hc7 ?_
  refine ji_rz ⟨[(4, kU (Int.tmod wv 4294967296))], []⟩ (by kernel_rfl) ?_
  obtain rfl := sj h
  exact je_ret (le_z (by kernel_rfl))
 refine ji_condF rfl hc7 ?_
 refine ji_rz ⟨[(1, kU wv), (20, kB (k == 7))], []⟩ (by kernel_rfl) ?_
 rcases ite_some h with ⟨hc8, h⟩ | ⟨hc8, h⟩
 ·
  refine ji_condT rfl hc8 ?_
  refine ji_rz ⟨[(23, kB (decide (wv > 0)))], []⟩ (by kernel_rfl) ?_
  rcases ite_some h with ⟨hc9, h⟩ | ⟨hc9, h⟩
  ·
   refine ji_condT rfl hc9 ?_
   refine ji_rz ⟨[(4, kU 1)], []⟩ (by kernel_rfl) ?_
   obtain rfl := sj h
   exact je_ret (le_z (by kernel_rfl))
  refine ji_condF rfl hc9 ?_
  refine ji_rz ⟨[(4, kU 0)], []⟩ (by kernel_rfl) ?_
  obtain rfl := sj h
  exact je_ret (le_z (by kernel_rfl))
 refine ji_condF rfl hc8 ?_
 refine ji_end ?_
 refine ji_rz ⟨[(4, kU wv)], []⟩ (by kernel_rfl) ?_
 obtain rfl := sj h
 exact je_ret (le_z (by kernel_rfl))
theorem varint_Put_ok {b : (List UInt8)} {wv : Int} {r : (List UInt8)} (h : varint_Put b wv = some r) : FnOk Try.prog 43 [.sl Rp.byte [0] b, kU wv] [.own Rp.byte 5 2 [] r] := by
 refine fn_intro' (E := ⟨[(4, .own Rp.byte 5 2 [] r)], []⟩) 30 Try.func43 rfl rfl rfl ⟨rfl, trivial⟩ (fun Xt => ?_)
 refine ji_start ?_
 refine ji_le (E' := ⟨[(0, .sl Rp.byte [0] b), (1, kU wv)], []⟩) (fun _ _ _ hs => hs) ?_
 unfold varint_Put at h
 refine ji_rz ⟨[(0, .sl Rp.byte [0] b), (1, kU wv)], []⟩ (by kernel_rfl) ?_
 obtain ⟨rv, h_rv, h⟩ := bnd h
 obtain ⟨v, h_v, h⟩ := bnd h
 refine ji_region ⟨[(0, .sl Rp.byte [0] b), (1, kU wv), (5, .own Rp.byte 5 12 [] v)], []⟩ (ro_o 3 [kU wv] ⟨[(0, .sl Rp.byte [0] b), (1, kU wv), (7, kI (b.length : Int)), (9, kI rv)], []⟩ rfl (lo_call [kU wv] [1] 10 rfl Try.call55 (bits_Len_ok h_rv) rfl rfl rfl rfl rfl) rfl (by kernel_rfl) (ro_oz 1 [kI 0, kI (IntKind.i64.wrap ((b.length : Int) + rv))] rfl (lo_make 12 rfl zet22 rfl h_v) rfl (by kernel_rfl))) ?_
 obtain ⟨v2, h_v2, h⟩ := bnd h
 refine ji_region ⟨[(1, kU wv), (5, .own Rp.byte 5 12 [] v2)], []⟩ (ro_oz 2 [.own Rp.byte 5 12 [] v, .sl Rp.byte [0] b] rfl (lo_app 12 [] rfl zet22.el rfl (isOwn_own _ _ _ _ _) (isSl_sl _ _ _) h_v2 (.inl plain_byte) rfl) rfl (by kernel_rfl)) ?_
 refine ji_block ?_
 obtain ⟨q, h_q, h⟩ := bnd h
 refine je_loop (fun s : (Int × (List UInt8)) => varint_Put_b1 s.1 s.2) (fun s => ⟨[(1, kU s.1), (5, .own Rp.byte 5 12 [] s.2)], []⟩) (fun o e a w => e = .exit 0 ∧ Sx ⟨⟨30, []⟩, Xt, false, #[]⟩ ⟨[(1, kU o.1), (5, .own Rp.byte 5 12 [] o.2)], []⟩ a w) ?_ h_q (le_z (by kernel_rfl)) ?_
 ·
  clear h
  intro s o h
  obtain ⟨wv2, l⟩ := s
  refine ji_start ?_
  refine ji_le (E' := ⟨[(1, kU wv2), (5, .own Rp.byte 5 12 [] l)], []⟩) (fun _ _ _ hs => hs) ?_
  replace h : varint_Put_b1 wv2 l = some o := h
  unfold varint_Put_b1 at h
  refine ji_rz ⟨[(1, kU wv2), (5, .own Rp.byte 5 12 [] l), (16, kB (decide (wv2 ≥ 128)))], []⟩ (by kernel_rfl) ?_
  rcases ite_some h with ⟨hc1, h⟩ | ⟨hc1, h⟩
  ·
   refine ji_condT rfl hc1 ?_
   refine ji_block ?_
   obtain ⟨y, h_y, h⟩ := bnd h
   obtain ⟨v3, h_v3, h⟩ := bnd h
   refine ji_region ⟨[(1, kU wv2), (5, .own Rp.byte 5 12 [] v3)], []⟩ (ro_o 4 [k8 (orI .u8 (IntKind.u8.wrap wv2) 128)] ⟨[(1, kU wv2), (19, .own Rp.byte 5 12 [] l), (23, .own Rp.byte 5 14 [] ([y] : List UInt8))], []⟩ rfl (LocalOk.le (ins' := [(.tmp 22, .lf (.int .u8 (orI .u8 (IntKind.u8.wrap wv2) 128)))]) (lo_bsl [.lf (.int .u8 (y.toNat : Int))] 14 [] [y] rfl zet22 rfl rfl rfl rfl) ⟨⟨rfl, le_byte h_y⟩, trivial⟩) rfl (by kernel_rfl) (ro_oz 0 [.own Rp.byte 5 12 [] l, .own Rp.byte 5 14 [] ([y] : List UInt8)] rfl (lo_app 12 [] rfl zet22.el rfl (isOwn_own _ _ _ _ _) (isSl_own _ _ _ _ _) h_v3 (.inl plain_byte) rfl) rfl (by kernel_rfl))) ?_
   refine ji_end ?_
   refine ji_region ⟨[(1, kU (shrI .u64 wv2 7)), (5, .own Rp.byte 5 12 [] v3)], []⟩ (ro_oz 1 [kU wv2, kU 7] rfl (lo_shr rfl rfl) rfl (by kernel_rfl)) ?_
   obtain rfl := sj h
   exact je_nil (le_z (by kernel_rfl))
  refine ji_condF rfl hc1 ?_
  obtain rfl := sj h
  exact je_out' rfl (le_z (by kernel_rfl))
 refine k_exit _ rfl ?_
 obtain ⟨y2, h_y2, h⟩ := bnd h
 obtain ⟨v4, h_v4, h⟩ := bnd h
 refine ji_region ⟨[(4, .own Rp.byte 5 12 [] v4)], []⟩ (ro_o 3 [k8 (IntKind.u8.wrap q.1)] ⟨[(25, .own Rp.byte 5 12 [] q.2), (28, .own Rp.byte 5 15 [] ([y2] : List UInt8))], []⟩ rfl (LocalOk.le (ins' := [(.tmp 27, .lf (.int .u8 (IntKind.u8.wrap q.1)))]) (lo_bsl [.lf (.int .u8 (y2.toNat : Int))] 15 [] [y2] rfl zet22 rfl rfl rfl rfl) ⟨⟨rfl, le_byte h_y2⟩, trivial⟩) rfl (by kernel_rfl) (ro_oz 0 [.own Rp.byte 5 12 [] q.2, .own Rp.byte 5 15 [] ([y2] : List UInt8)] rfl (lo_app 12 [] rfl zet22.el rfl (isOwn_own _ _ _ _ _) (isSl_own _ _ _ _ _) h_v4 (.inl plain_byte) rfl) rfl (by kernel_rfl))) ?_
 obtain rfl := sj h
 refine je_ret ?_
 refine le_px ⟨[(4, .own Rp.byte 5 12 [] v4)], []⟩ (by kernel_rfl) (le_rn 12 2 rfl (le_px ⟨[(4, .own Rp.byte 5 2 [] v4)], []⟩ (by kernel_rfl) ?_))
 exact le_z (by kernel_rfl)
theorem slices_Concat___byte_byte__ok {slices : (List (List UInt8))} {r : (List UInt8)} (h : slices_Concat___byte_byte_ slices = some r) : FnOk Try.prog 29 [.sl (Rp.list Rp.byte) [0] slices] [.own Rp.byte 5 2 [] r] := by
 refine fn_intro' (E := ⟨[(2, .own Rp.byte 5 2 [] r)], []⟩) 36 Try.func29 rfl rfl rfl ⟨rfl, trivial⟩ (fun Xt => ?_)
 refine ji_start ?_
 refine ji_le (E' := ⟨[(0, .sl (Rp.list Rp.byte) [0] slices)], []⟩) (fun _ _ _ hs => hs) ?_
 unfold slices_Concat___byte_byte_ at h
 refine ji_rz ⟨[(0, .sl (Rp.list Rp.byte) [0] slices)], []⟩ (by kernel_rfl) ?_
 refine ji_rz ⟨[(0, .sl (Rp.list Rp.byte) [0] slices), (3, kI 0)], []⟩ (by kernel_rfl) ?_
 refine ji_rz ⟨[(0, .sl (Rp.list Rp.byte) [0] slices), (3, kI 0), (9, .sl (Rp.list Rp.byte) [0] slices), (10, kI (slices.length : Int)), (11, kI 0)], []⟩ (by kernel_rfl) ?_
 refine ji_block ?_
 obtain ⟨q, h_q, h⟩ := bnd h
 refine je_loop (fun s : (Int × Int) => slices_Concat___byte_byte__b1 slices s.1 s.2) (fun s => ⟨[(0, .sl (Rp.list Rp.byte) [0] slices), (3, kI s.1), (9, .sl (Rp.list Rp.byte) [0] slices), (10, kI (slices.length : Int)), (11, kI s.2)], []⟩) (fun o e a w => e = .exit 0 ∧ Sx ⟨⟨36, []⟩, Xt, false, #[]⟩ ⟨[(0, .sl (Rp.list Rp.byte) [0] slices), (3, kI o)], []⟩ a w) ?_ h_q (le_z (by kernel_rfl)) ?_
 ·
  clear h
  intro s o h
  obtain ⟨size, v⟩ := s
  refine ji_start ?_
  refine ji_le (E' := ⟨[(0, .sl (Rp.list Rp.byte) [0] slices), (3, kI size), (9, .sl (Rp.list Rp.byte) [0] slices), (10, kI (slices.length : Int)), (11, kI v)], []⟩) (fun _ _ _ hs => hs) ?_
  replace h : slices_Concat___byte_byte__b1 slices size v = some o := h
  unfold slices_Concat___byte_byte__b1 at h
  refine ji_rz ⟨[(0, .sl (Rp.list Rp.byte) [0] slices), (3, kI size), (9, .sl (Rp.list Rp.byte) [0] slices), (10, kI (slices.length : Int)), (11, kI v), (12, kB (decide (v < (slices.length : Int))))], []⟩ (by kernel_rfl) ?_
  rcases ite_some h with ⟨hc1, h⟩ | ⟨hc1, h⟩
  ·
   refine ji_condT rfl hc1 ?_
   refine ji_block ?_
   obtain ⟨x, h_x, h⟩ := bnd h
   refine ji_region ⟨[(0, .sl (Rp.list Rp.byte) [0] slices), (3, kI size), (5, .sl Rp.byte [0] x), (9, .sl (Rp.list Rp.byte) [0] slices), (10, kI (slices.length : Int)), (11, kI v)], []⟩ (ro_o 0 [.sl (Rp.list Rp.byte) [0] slices, kI v] ⟨[(0, .sl (Rp.list Rp.byte) [0] slices), (3, kI size), (9, .sl (Rp.list Rp.byte) [0] slices), (10, kI (slices.length : Int)), (11, kI v), (13, .ep (Rp.list Rp.byte) [0] x 0)], []⟩ rfl (lo_ix rfl zet73.el (isSl_sl _ _ _) h_x) rfl (by kernel_rfl) (ro_oz 0 [.ep (Rp.list Rp.byte) [0] x 0] rfl (lo_lds Rp.byte x rfl rfl rfl) rfl (by kernel_rfl))) ?_
   refine ji_rz ⟨[(0, .sl (Rp.list Rp.byte) [0] slices), (3, kI (IntKind.i64.wrap (size + (x.length : Int)))), (9, .sl (Rp.list Rp.byte) [0] slices), (10, kI (slices.length : Int)), (11, kI v)], []⟩ (by kernel_rfl) ?_
   refine ji_rz ⟨[(0, .sl (Rp.list Rp.byte) [0] slices), (3, kI (IntKind.i64.wrap (size + (x.length : Int)))), (9, .sl (Rp.list Rp.byte) [0] slices), (10, kI (slices.length : Int)), (11, kI v), (20, kB (decide ((IntKind.i64.wrap (size + (x.length : Int))) < 0)))], []⟩ (by kernel_rfl) ?_
   rcases ite_some h with ⟨hc2, h⟩ | ⟨hc2, h⟩
   ·
    refine ji_condT rfl hc2 ?_
    exact absurd h nofun
   refine ji_condF rfl hc2 ?_
   refine ji_end ?_
   refine ji_rz ⟨[(0, .sl (Rp.list Rp.byte) [0] slices), (3, kI (IntKind.i64.wrap (size + (x.length : Int)))), (9, .sl (Rp.list Rp.byte) [0] slices), (10, kI (slices.length : Int)), (11, kI (IntKind.i64.wrap (v + 1)))], []⟩ (by kernel_rfl) ?_
   obtain rfl := sj h
   exact je_nil (le_z (by kernel_rfl))
  refine ji_condF rfl hc1 ?_
  obtain rfl := sj h
  exact je_out' rfl (le_z (by kernel_rfl))
 refine k_exit _ rfl ?_
 obtain ⟨rv, h_rv, h⟩ := bnd h
 refine ji_region ⟨[(0, .sl (Rp.list Rp.byte) [0] slices), (6, .own Rp.byte 5 14 [] rv)], []⟩ (ro_oz 1 [kN, kI q] rfl (lo_call [kN, kI q] [1] 12 rfl Try.call45 (slices_Grow___byte_byte__ok h_rv) rfl rfl rfl rfl rfl) rfl (by kernel_rfl)) ?_
 refine ji_rz ⟨[(6, .own Rp.byte 5 14 [] rv), (25, .sl (Rp.list Rp.byte) [0] slices), (26, kI (slices.length : Int)), (27, kI 0)], []⟩ (by kernel_rfl) ?_
 refine ji_block ?_
 obtain ⟨q2, h_q2, h⟩ := bnd h
 refine je_loop (fun s : ((List UInt8) × Int) => slices_Concat___byte_byte__b2 slices s.1 s.2) (fun s => ⟨[(6, .own Rp.byte 5 14 [] s.1), (25, .sl (Rp.list Rp.byte) [0] slices), (26, kI (slices.length : Int)), (27, kI s.2)], []⟩) (fun o e a w => e = .exit 2 ∧ Sx ⟨⟨36, []⟩, Xt, false, #[]⟩ ⟨[(6, .own Rp.byte 5 14 [] o)], []⟩ a w) ?_ h_q2 (le_z (by kernel_rfl)) ?_
 ·
  clear h
  intro s o h
  obtain ⟨newslice, v2⟩ := s
  refine ji_start ?_
  refine ji_le (E' := ⟨[(6, .own Rp.byte 5 14 [] newslice), (25, .sl (Rp.list Rp.byte) [0] slices), (26, kI (slices.length : Int)), (27, kI v2)], []⟩) (fun _ _ _ hs => hs) ?_
  replace h : slices_Concat___byte_byte__b2 slices newslice v2 = some o := h
  unfold slices_Concat___byte_byte__b2 at h
  refine ji_rz ⟨[(6, .own Rp.byte 5 14 [] newslice), (25, .sl (Rp.list Rp.byte) [0] slices), (26, kI (slices.length : Int)), (27, kI v2), (28, kB (decide (v2 < (slices.length : Int))))], []⟩ (by kernel_rfl) ?_
  rcases ite_some h with ⟨hc3, h⟩ | ⟨hc3, h⟩
  ·
   refine ji_condT rfl hc3 ?_
   refine ji_block ?_
   obtain ⟨x2, h_x2, h⟩ := bnd h
   refine ji_region ⟨[(6, .own Rp.byte 5 14 [] newslice), (8, .sl Rp.byte [0] x2), (25, .sl (Rp.list Rp.byte) [0] slices), (26, kI (slices.length : Int)), (27, kI v2)], []⟩ (ro_o 0 [.sl (Rp.list Rp.byte) [0] slices, kI v2] ⟨[(6, .own Rp.byte 5 14 [] newslice), (25, .sl (Rp.list Rp.byte) [0] slices), (26, kI (slices.length : Int)), (27, kI v2), (29, .ep (Rp.list Rp.byte) [0] x2 0)], []⟩ rfl (lo_ix rfl zet73.el (isSl_sl _ _ _) h_x2) rfl (by kernel_rfl) (ro_oz 0 [.ep (Rp.list Rp.byte) [0] x2 0] rfl (lo_lds Rp.byte x2 rfl rfl rfl) rfl (by kernel_rfl))) ?_
   obtain ⟨v3, h_v3, h⟩ := bnd h
   refine ji_region ⟨[(6, .own Rp.byte 5 14 [] v3), (25, .sl (Rp.list Rp.byte) [0] slices), (26, kI (slices.length : Int)), (27, kI v2)], []⟩ (ro_oz 2 [.own Rp.byte 5 14 [] newslice, .sl Rp.byte [0] x2] rfl (lo_app 14 [] rfl zet22.el rfl (isOwn_own _ _ _ _ _) (isSl_sl _ _ _) h_v3 (.inl plain_byte) rfl) rfl (by kernel_rfl)) ?_
   refine ji_end ?_
   refine ji_rz ⟨[(6, .own Rp.byte 5 14 [] v3), (25, .sl (Rp.list Rp.byte) [0] slices), (26, kI (slices.length : Int)), (27, kI (IntKind.i64.wrap (v2 + 1)))], []⟩ (by kernel_rfl) ?_
   obtain rfl := sj h
   exact je_nil (le_z (by kernel_rfl))
  refine ji_condF rfl hc3 ?_
  obtain rfl := sj h
  exact je_out' rfl (le_z (by kernel_rfl))
 refine k_exit _ rfl ?_
 refine ji_rz ⟨[(2, .own Rp.byte 5 14 [] q2)], []⟩ (by kernel_rfl) ?_
 obtain rfl := sj h
 refine je_ret ?_
 refine le_px ⟨[(2, .own Rp.byte 5 14 [] q2)], []⟩ (by kernel_rfl) (le_rn 14 2 rfl (le_px ⟨[(2, .own Rp.byte 5 2 [] q2)], []⟩ (by kernel_rfl) ?_))
 exact le_z (by kernel_rfl)
end Go.Proofs.Ythkdneddbbocmaa
