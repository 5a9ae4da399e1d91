/-
  The Go functions do what the plain functions say. No condition.
-/
import Derived.Test.YtnchbppkppbflaaG9
namespace Go.Proofs.Ytnchbppkppbflaa
open Go Go.RowKit
set_option linter.unusedVariables false
set_option maxRecDepth 100000
theorem darninglaw07_SchemaChecks_ok {sv : (List T_Name_Fields)} {r : Bool} (h : darninglaw07_SchemaChecks sv = some r) : FnOk Try.prog 3 [.sl R_Name_Fields [0] sv] [kB r] := by
 refine fn_intro' (E := ⟨[(2, kB r)], []⟩) 55 Try.func3 rfl rfl rfl ⟨rfl, trivial⟩ (fun Xt => ?_)
 refine ji_start ?_
 refine ji_le (E' := ⟨[(0, .sl R_Name_Fields [0] sv)], []⟩) (fun _ _ _ hs => hs) ?_
 unfold darninglaw07_SchemaChecks at h
 refine ji_rz ⟨[(0, .sl R_Name_Fields [0] sv)], []⟩ (by kernel_rfl) ?_
 obtain ⟨rv, h_rv, h⟩ := bnd h
 refine ji_region ⟨[(0, .sl R_Name_Fields [0] sv), (9, kB (!rv))], []⟩ (ro_oz 0 [] rfl (lo_call [] [1] 9 rfl Try.call6 (darninglaw07_alive_ok h_rv) rfl rfl rfl rfl rfl) rfl (by kernel_rfl)) ?_
 rcases ite_some h with ⟨hc1, h⟩ | ⟨hc1, h⟩
 ·
  refine ji_condT rfl hc1 ?_
  refine ji_rz ⟨[(2, kB false)], []⟩ (by kernel_rfl) ?_
  obtain rfl := sj h
  exact je_ret (le_z (by kernel_rfl))
 refine ji_condF rfl hc1 ?_
 obtain ⟨rv2, h_rv2, h⟩ := bnd h
 refine ji_region ⟨[(0, .sl R_Name_Fields [0] sv), (12, kB (!rv2))], []⟩ (ro_oz 1 [.sl R_Name_Fields [0] sv] rfl (lo_call [.sl R_Name_Fields [0] sv] [0] 9 rfl Try.call7 (darninglaw07_Few_ok h_rv2) rfl rfl rfl rfl rfl) rfl (by kernel_rfl)) ?_
 rcases ite_some h with ⟨hc2, h⟩ | ⟨hc2, h⟩
 ·
  refine ji_condT rfl hc2 ?_
  refine ji_rz ⟨[(2, kB true)], []⟩ (by kernel_rfl) ?_
  obtain rfl := sj h
  exact je_ret (le_z (by kernel_rfl))
 refine ji_condF rfl hc2 ?_
 obtain ⟨rv3, h_rv3, h⟩ := bnd h
 refine ji_region ⟨[(0, .sl R_Name_Fields [0] sv), (3, .ptr 11 0), (4, k8 rv3.2)], [⟨11, 27, [kI rv3.1.Message, kI rv3.1.Field, kI rv3.1.What]⟩]⟩ (ro_o 1 [.sl R_Name_Fields [0] sv] ⟨[(0, .sl R_Name_Fields [0] sv), (15, .tup [.rc R_Message_Field_What [] rv3.1, k8 rv3.2])], []⟩ rfl (lo_call [.sl R_Name_Fields [0] sv] [0] 9 rfl Try.call8 (schema_Check_ok h_rv3) rfl rfl rfl rfl rfl) rfl (by kernel_rfl) (ro_o 3 [] ⟨[(0, .sl R_Name_Fields [0] sv), (3, .ptr 11 0), (16, .rc R_Message_Field_What [] rv3.1), (17, k8 rv3.2)], [⟨11, 27, [kI 0, kI 0, kI 0]⟩]⟩ rfl (lo_alloc 11 [kI 0, kI 0, kI 0] rfl Try.zeroValue27 rfl) rfl (by kernel_rfl) (ro_obz 0 [.ptr 11 0, .rc R_Message_Field_What [] rv3.1] [⟨11, 27, [kI 0, kI 0, kI 0]⟩] rfl (lo_str (r := R_Message_Field_What) (b := ⟨11, 27, [kI 0, kI 0, kI 0]⟩) (off := 0) [kI rv3.1.Message, kI rv3.1.Field, kI rv3.1.What] rfl Try.sizeOf27 rfl rfl rfl rfl) rfl rfl (by kernel_rfl)))) ?_
 obtain ⟨rv4, h_rv4, h⟩ := bnd h
 refine ji_region ⟨[(0, .sl R_Name_Fields [0] sv), (3, .ptr 11 0), (4, k8 rv3.2), (5, kI rv4.1), (6, kI rv4.2.1), (7, kI rv4.2.2)], [⟨11, 27, [kI rv3.1.Message, kI rv3.1.Field, kI rv3.1.What]⟩]⟩ (ro_oz 1 [.sl R_Name_Fields [0] sv] rfl (lo_call [.sl R_Name_Fields [0] sv] [0] 10 rfl Try.call9 (darningref07_Check_ok h_rv4) rfl rfl rfl rfl rfl) rfl (by kernel_rfl)) ?_
 obtain ⟨g, h_g, h⟩ := bnd h
 refine ji_region ⟨[(2, kB g)], []⟩ ?_ ?_
 ·
  refine (ro_ob 0 [.ptr 11 0] [⟨11, 27, [kI rv3.1.Message, kI rv3.1.Field, kI rv3.1.What]⟩] ⟨[(0, .sl R_Name_Fields [0] sv), (4, k8 rv3.2), (5, kI rv4.1), (6, kI rv4.2.1), (7, kI rv4.2.2), (24, .rc R_Message_Field_What [] rv3.1)], []⟩ rfl (lo_ldb (r := R_Message_Field_What) rv3.1 [] rfl ⟨Try.isAgg27, Try.sizeOf27⟩ rfl rfl) rfl rfl (by kernel_rfl) (ro_o 3 [kI rv4.1, kI rv4.2.1, kI rv4.2.2] ⟨[(0, .sl R_Name_Fields [0] sv), (4, k8 rv3.2), (7, kI rv4.2.2), (24, .rc R_Message_Field_What [] rv3.1), (28, .rc R_Message_Field_What [] (⟨rv4.1, rv4.2.1, rv4.2.2⟩ : T_Message_Field_What))], []⟩ rfl (lo_build (r := R_Message_Field_What) [kI rv4.1, kI rv4.2.1, kI rv4.2.2] [] (⟨rv4.1, rv4.2.1, rv4.2.2⟩ : T_Message_Field_What) rfl stt27 rfl rfl) rfl (by kernel_rfl) (ro_o 0 [.rc R_Message_Field_What [] rv3.1, .rc R_Message_Field_What [] (⟨rv4.1, rv4.2.1, rv4.2.2⟩ : T_Message_Field_What)] ⟨[(0, .sl R_Name_Fields [0] sv), (4, k8 rv3.2), (7, kI rv4.2.2), (29, kB (decide (rv3.1 = (⟨rv4.1, rv4.2.1, rv4.2.2⟩ : T_Message_Field_What))))], []⟩ rfl (lo_eqr rfl Try.eqGuardType27 rfl rfl (eqt27 _ _)) rfl (by kernel_rfl) (ro_sp 1 30 (decide (rv3.1 = (⟨rv4.1, rv4.2.1, rv4.2.2⟩ : T_Message_Field_What))) ⟨[(0, .sl R_Name_Fields [0] sv), (4, k8 rv3.2), (7, kI rv4.2.2), (30, kB (decide (rv3.1 = (⟨rv4.1, rv4.2.1, rv4.2.2⟩ : T_Message_Field_What))))], []⟩ (by kernel_rfl) rfl (fun hc3 => ?_) (fun hc3 => ?_)))))
  ·
   replace h_g := iteT h_g hc3
   refine (ro_sp 8 38 (((IntKind.i64.wrap rv3.2) == 0) == (rv4.2.2 == 0)) ⟨[(0, .sl R_Name_Fields [0] sv), (4, k8 rv3.2), (7, kI rv4.2.2), (38, kB (((IntKind.i64.wrap rv3.2) == 0) == (rv4.2.2 == 0)))], []⟩ (by kernel_rfl) rfl (fun hc4 => ?_) (fun hc4 => ?_))
   ·
    replace h_g := iteT h_g hc4
    refine (ro_sp 4 42 ((IntKind.i64.wrap rv3.2) == 0) ⟨[(0, .sl R_Name_Fields [0] sv), (4, k8 rv3.2), (7, kI rv4.2.2), (38, kB true), (42, kB ((IntKind.i64.wrap rv3.2) == 0))], []⟩ (by kernel_rfl) rfl (fun hc5 => ?_) (fun hc5 => ?_))
    ·
     replace h_g := iteT h_g hc5
     obtain ⟨rv5, h_rv5, h_g⟩ := bnd h_g
     obtain rfl := sj h_g
     exact (ro_oz 7 [.sl R_Name_Fields [0] sv] rfl (lo_call [.sl R_Name_Fields [0] sv] [0] 10 rfl Try.call10 (schema_Right_ok h_rv5) rfl rfl rfl rfl rfl) rfl (by kernel_rfl))
    replace h_g := iteF h_g hc5
    refine (ro_sp 6 48 ((IntKind.i64.wrap rv3.2) == 9) ⟨[(0, .sl R_Name_Fields [0] sv), (7, kI rv4.2.2), (48, kB ((IntKind.i64.wrap rv3.2) == 9))], []⟩ (by kernel_rfl) rfl (fun hc6 => ?_) (fun hc6 => ?_))
    ·
     replace h_g := iteT h_g hc6
     obtain ⟨rv6, h_rv6, h_g⟩ := bnd h_g
     obtain rfl := sj h_g
     exact (ro_oz 1 [.sl R_Name_Fields [0] sv] rfl (lo_call [.sl R_Name_Fields [0] sv] [0] 10 rfl Try.call10 (schema_Right_ok h_rv6) rfl rfl rfl rfl rfl) rfl (by kernel_rfl))
    replace h_g := iteF h_g hc6
    obtain rfl := sj h_g
    exact (ro_z (by kernel_rfl))
   replace h_g := iteF h_g hc4
   obtain rfl := sj h_g
   exact (ro_z (by kernel_rfl))
  replace h_g := iteF h_g hc3
  obtain rfl := sj h_g
  exact (ro_z (by kernel_rfl))
 obtain rfl := sj h
 exact je_ret (le_z (by kernel_rfl))
theorem darninglaw07_SchemaEach_ok {sv : (List T_Name_Fields)} {r : Bool} (h : darninglaw07_SchemaEach sv = some r) : FnOk Try.prog 5 [.sl R_Name_Fields [0] sv] [kB r] := by
 refine fn_intro' (E := ⟨[(2, kB r)], []⟩) 133 Try.func5 rfl rfl rfl ⟨rfl, trivial⟩ (fun Xt => ?_)
 refine ji_start ?_
 refine ji_le (E' := ⟨[(0, .sl R_Name_Fields [0] sv)], []⟩) (fun _ _ _ hs => hs) ?_
 unfold darninglaw07_SchemaEach at h
 refine ji_rz ⟨[(0, .sl R_Name_Fields [0] sv)], []⟩ (by kernel_rfl) ?_
 obtain ⟨rv, h_rv, h⟩ := bnd h
 refine ji_region ⟨[(0, .sl R_Name_Fields [0] sv), (15, kB (!rv))], []⟩ (ro_oz 0 [] rfl (lo_call [] [1] 9 rfl Try.call6 (darninglaw07_alive_ok h_rv) rfl rfl rfl rfl rfl) rfl (by kernel_rfl)) ?_
 rcases ite_some h with ⟨hc1, h⟩ | ⟨hc1, h⟩
 ·
  refine ji_condT rfl hc1 ?_
  refine ji_rz ⟨[(2, kB false)], []⟩ (by kernel_rfl) ?_
  obtain rfl := sj h
  exact je_ret (le_z (by kernel_rfl))
 refine ji_condF rfl hc1 ?_
 obtain ⟨g, h_g, h⟩ := bnd h
 refine ji_region ⟨[(0, .sl R_Name_Fields [0] sv), (23, kB g)], []⟩ ?_ ?_
 ·
  obtain ⟨rv2, h_rv2, h_g⟩ := bnd h_g
  refine (ro_o 1 [.sl R_Name_Fields [0] sv] ⟨[(0, .sl R_Name_Fields [0] sv), (17, kB rv2)], []⟩ rfl (lo_call [.sl R_Name_Fields [0] sv] [0] 9 rfl Try.call7 (darninglaw07_Few_ok h_rv2) rfl rfl rfl rfl rfl) rfl (by kernel_rfl) (ro_sp 2 19 (!rv2) ⟨[(0, .sl R_Name_Fields [0] sv), (19, kB (!rv2))], []⟩ (by kernel_rfl) rfl (fun hc2 => ?_) (fun hc2 => ?_)))
  ·
   replace h_g := iteT h_g hc2
   obtain rfl := sj h_g
   exact (ro_z (by kernel_rfl))
  replace h_g := iteF h_g hc2
  obtain ⟨rv3, h_rv3, h_g⟩ := bnd h_g
  obtain rfl := sj h_g
  exact (ro_oz 1 [.sl R_Name_Fields [0] sv] rfl (lo_call [.sl R_Name_Fields [0] sv] [0] 9 rfl Try.call10 (schema_Right_ok h_rv3) rfl rfl rfl rfl rfl) rfl (by kernel_rfl))
 rcases ite_some h with ⟨hc3, h⟩ | ⟨hc3, h⟩
 ·
  refine ji_condT rfl hc3 ?_
  refine ji_rz ⟨[(2, kB true)], []⟩ (by kernel_rfl) ?_
  obtain rfl := sj h
  exact je_ret (le_z (by kernel_rfl))
 refine ji_condF rfl hc3 ?_
 refine ji_rz ⟨[(0, .sl R_Name_Fields [0] sv), (3, kI (IntKind.i64.wrap ((sv.length : Int) - 1)))], []⟩ (by kernel_rfl) ?_
 refine ji_rz ⟨[(0, .sl R_Name_Fields [0] sv), (3, kI (IntKind.i64.wrap ((sv.length : Int) - 1))), (4, kB false)], []⟩ (by kernel_rfl) ?_
 refine ji_rz ⟨[(0, .sl R_Name_Fields [0] sv), (3, kI (IntKind.i64.wrap ((sv.length : Int) - 1))), (4, kB false), (5, kI 0)], []⟩ (by kernel_rfl) ?_
 refine ji_block ?_
 obtain ⟨q2, h_q2, h⟩ := bnd h
 refine je_loop (fun s : (Bool × Int) => darninglaw07_SchemaEach_b1 sv s.1 s.2) (fun s => ⟨[(0, .sl R_Name_Fields [0] sv), (3, kI (IntKind.i64.wrap ((sv.length : Int) - 1))), (4, kB s.1), (5, kI s.2)], []⟩) (fun o e a w => match o with | (.inl v_) => e = .exit 0 ∧ Sx ⟨⟨133, []⟩, Xt, false, #[]⟩ ⟨[(0, .sl R_Name_Fields [0] sv), (3, kI (IntKind.i64.wrap ((sv.length : Int) - 1))), (4, kB v_)], []⟩ a w | (.inr v_) => e = .ret ∧ Sx ⟨⟨133, []⟩, Xt, false, #[]⟩ ⟨[(2, kB false)], []⟩ a w) ?_ h_q2 (le_z (by kernel_rfl)) ?_
 ·
  clear h
  intro s o h
  obtain ⟨used, i⟩ := s
  refine ji_start ?_
  refine ji_le (E' := ⟨[(0, .sl R_Name_Fields [0] sv), (3, kI (IntKind.i64.wrap ((sv.length : Int) - 1))), (4, kB used), (5, kI i)], []⟩) (fun _ _ _ hs => hs) ?_
  replace h : darninglaw07_SchemaEach_b1 sv used i = some o := h
  unfold darninglaw07_SchemaEach_b1 at h
  refine ji_rz ⟨[(0, .sl R_Name_Fields [0] sv), (3, kI (IntKind.i64.wrap ((sv.length : Int) - 1))), (4, kB used), (5, kI i), (30, kB (decide (i < (sv.length : Int))))], []⟩ (by kernel_rfl) ?_
  rcases ite_some h with ⟨hc4, h⟩ | ⟨hc4, h⟩
  ·
   refine ji_condT rfl hc4 ?_
   refine ji_block ?_
   obtain ⟨x, h_x, h⟩ := bnd h
   obtain ⟨rv4, h_rv4, h⟩ := bnd h
   refine ji_region ⟨[(0, .sl R_Name_Fields [0] sv), (3, kI (IntKind.i64.wrap ((sv.length : Int) - 1))), (4, kB used), (5, kI i), (6, kI rv4.1), (7, k8 rv4.2)], []⟩ (ro_o 3 [.sl R_Name_Fields [0] sv, kI i] ⟨[(0, .sl R_Name_Fields [0] sv), (3, kI (IntKind.i64.wrap ((sv.length : Int) - 1))), (4, kB used), (5, kI i), (34, .sl R_Name_Fields [0] sv), (37, .ep R_Name_Fields [0] x 0)], []⟩ rfl (lo_ix rfl zet23.el (isSl_sl _ _ _) h_x) rfl (by kernel_rfl) (ro_oz 2 [.sl R_Name_Fields [0] sv, kS x.Name] rfl (lo_call [.sl R_Name_Fields [0] sv, kS x.Name] [0] 10 rfl Try.call11 (schema_Message_ok h_rv4) rfl rfl rfl rfl rfl) rfl (by kernel_rfl))) ?_
   refine ji_region ⟨[(0, .sl R_Name_Fields [0] sv), (3, kI (IntKind.i64.wrap ((sv.length : Int) - 1))), (4, kB used), (5, kI i), (50, kB ((rv4.1 != i) || ((IntKind.i64.wrap rv4.2) != 0)))], []⟩ ?_ ?_
   ·
    refine (ro_sp 4 46 (rv4.1 != i) ⟨[(0, .sl R_Name_Fields [0] sv), (3, kI (IntKind.i64.wrap ((sv.length : Int) - 1))), (4, kB used), (5, kI i), (7, k8 rv4.2), (46, kB (rv4.1 != i))], []⟩ (by kernel_rfl) rfl (fun hc5 => ?_) (fun hc5 => ?_))
    · exact (ro_zb 50 true ((rv4.1 != i) || ((IntKind.i64.wrap rv4.2) != 0)) (by rw [hc5] <;> rfl) (by kernel_rfl) (by kernel_rfl))
    exact (ro_zb 50 ((IntKind.i64.wrap rv4.2) != 0) ((rv4.1 != i) || ((IntKind.i64.wrap rv4.2) != 0)) (by rw [hc5] <;> rfl) (by kernel_rfl) (by kernel_rfl))
   rcases ite_some h with ⟨hc6, h⟩ | ⟨hc6, h⟩
   ·
    refine ji_condT rfl hc6 ?_
    refine ji_rz ⟨[(2, kB false)], []⟩ (by kernel_rfl) ?_
    obtain rfl := sj h
    exact je_ret' (le_z (by kernel_rfl))
   refine ji_condF rfl hc6 ?_
   refine ji_rz ⟨[(0, .sl R_Name_Fields [0] sv), (3, kI (IntKind.i64.wrap ((sv.length : Int) - 1))), (4, kB used), (5, kI i), (8, kI 0)], []⟩ (by kernel_rfl) ?_
   refine ji_block ?_
   obtain ⟨q, h_q, h⟩ := bnd h
   refine je_loop (fun s : (Bool × Int) => darninglaw07_SchemaEach_b2 i sv s.1 s.2) (fun s => ⟨[(0, .sl R_Name_Fields [0] sv), (3, kI (IntKind.i64.wrap ((sv.length : Int) - 1))), (4, kB s.1), (5, kI i), (8, kI s.2)], []⟩) (fun o e a w => match o with | (.inl v_) => e = .exit 2 ∧ Sx ⟨⟨133, []⟩, Xt, false, #[]⟩ ⟨[(0, .sl R_Name_Fields [0] sv), (3, kI (IntKind.i64.wrap ((sv.length : Int) - 1))), (4, kB v_), (5, kI i)], []⟩ a w | (.inr v_) => e = .ret ∧ Sx ⟨⟨133, []⟩, Xt, false, #[]⟩ ⟨[(2, kB false)], []⟩ a w) ?_ h_q (le_z (by kernel_rfl)) ?_
   ·
    clear h
    intro s o h
    obtain ⟨used3, j⟩ := s
    refine ji_start ?_
    refine ji_le (E' := ⟨[(0, .sl R_Name_Fields [0] sv), (3, kI (IntKind.i64.wrap ((sv.length : Int) - 1))), (4, kB used3), (5, kI i), (8, kI j)], []⟩) (fun _ _ _ hs => hs) ?_
    replace h : darninglaw07_SchemaEach_b2 i sv used3 j = some o := h
    unfold darninglaw07_SchemaEach_b2 at h
    obtain ⟨x2, h_x2, h⟩ := bnd h
    refine ji_region ⟨[(0, .sl R_Name_Fields [0] sv), (3, kI (IntKind.i64.wrap ((sv.length : Int) - 1))), (4, kB used3), (5, kI i), (8, kI j), (58, kB (decide (j < (x2.Fields.length : Int))))], []⟩ (ro_o 3 [.sl R_Name_Fields [0] sv, kI i] ⟨[(0, .sl R_Name_Fields [0] sv), (3, kI (IntKind.i64.wrap ((sv.length : Int) - 1))), (4, kB used3), (5, kI i), (8, kI j), (51, kI j), (54, .ep R_Name_Fields [0] x2 0)], []⟩ rfl (lo_ix rfl zet23.el (isSl_sl _ _ _) h_x2) rfl (by kernel_rfl) (ro_oz 1 [.ep R_Name_Fields [0] x2 1] rfl (lo_lds R_Name_Number_Kind_Repeated_Packed_Of x2.Fields rfl rfl rfl) rfl (by kernel_rfl))) ?_
    rcases ite_some h with ⟨hc7, h⟩ | ⟨hc7, h⟩
    ·
     refine ji_condT rfl hc7 ?_
     refine ji_block ?_
     obtain ⟨x3, h_x3, h⟩ := bnd h
     obtain ⟨x4, h_x4, h⟩ := bnd h
     refine ji_region ⟨[(0, .sl R_Name_Fields [0] sv), (3, kI (IntKind.i64.wrap ((sv.length : Int) - 1))), (4, kB used3), (5, kI i), (8, kI j), (9, .ptr 13 0)], [⟨13, 50, [kS x4.Name, kI x4.Number, kI x4.Kind, kB x4.Repeated, kB x4.Packed, kI x4.Of]⟩]⟩ (ro_o 2 [.sl R_Name_Fields [0] sv, kI i] ⟨[(0, .sl R_Name_Fields [0] sv), (3, kI (IntKind.i64.wrap ((sv.length : Int) - 1))), (4, kB used3), (5, kI i), (8, kI j), (63, .ep R_Name_Fields [0] x3 0)], []⟩ rfl (lo_ix rfl zet23.el (isSl_sl _ _ _) h_x3) rfl (by kernel_rfl) (ro_o 1 [.ep R_Name_Fields [0] x3 1] ⟨[(0, .sl R_Name_Fields [0] sv), (3, kI (IntKind.i64.wrap ((sv.length : Int) - 1))), (4, kB used3), (5, kI i), (8, kI j), (65, .sl R_Name_Number_Kind_Repeated_Packed_Of [0] x3.Fields)], []⟩ rfl (lo_lds R_Name_Number_Kind_Repeated_Packed_Of x3.Fields rfl rfl rfl) rfl (by kernel_rfl) (ro_o 1 [.sl R_Name_Number_Kind_Repeated_Packed_Of [0] x3.Fields, kI j] ⟨[(0, .sl R_Name_Fields [0] sv), (3, kI (IntKind.i64.wrap ((sv.length : Int) - 1))), (4, kB used3), (5, kI i), (8, kI j), (67, .ep R_Name_Number_Kind_Repeated_Packed_Of [0] x4 0)], []⟩ rfl (lo_ix rfl zet33.el (isSl_sl _ _ _) h_x4) rfl (by kernel_rfl) (ro_o 0 [.ep R_Name_Number_Kind_Repeated_Packed_Of [0] x4 0] ⟨[(0, .sl R_Name_Fields [0] sv), (3, kI (IntKind.i64.wrap ((sv.length : Int) - 1))), (4, kB used3), (5, kI i), (8, kI j), (68, .rc R_Name_Number_Kind_Repeated_Packed_Of [0] x4)], []⟩ rfl (lo_ldr rfl ⟨Try.isAgg50, Try.sizeOf50⟩) rfl (by kernel_rfl) (ro_o 0 [] ⟨[(0, .sl R_Name_Fields [0] sv), (3, kI (IntKind.i64.wrap ((sv.length : Int) - 1))), (4, kB used3), (5, kI i), (8, kI j), (9, .ptr 13 0), (68, .rc R_Name_Number_Kind_Repeated_Packed_Of [0] x4)], [⟨13, 50, [kS [], kI 0, kI 0, kB false, kB false, kI 0]⟩]⟩ rfl (lo_alloc 13 [kS [], kI 0, kI 0, kB false, kB false, kI 0] rfl Try.zeroValue50 rfl) rfl (by kernel_rfl) (ro_obz 0 [.ptr 13 0, .rc R_Name_Number_Kind_Repeated_Packed_Of [0] x4] [⟨13, 50, [kS [], kI 0, kI 0, kB false, kB false, kI 0]⟩] rfl (lo_str (r := R_Name_Number_Kind_Repeated_Packed_Of) (b := ⟨13, 50, [kS [], kI 0, kI 0, kB false, kB false, kI 0]⟩) (off := 0) [kS x4.Name, kI x4.Number, kI x4.Kind, kB x4.Repeated, kB x4.Packed, kI x4.Of] rfl Try.sizeOf50 rfl rfl rfl rfl) rfl rfl (by kernel_rfl))))))) ?_
     obtain ⟨x5, h_x5, h⟩ := bnd h
     obtain ⟨rv5, h_rv5, h⟩ := bnd h
     refine ji_draw ⟨[(0, .sl R_Name_Fields [0] sv), (3, kI (IntKind.i64.wrap ((sv.length : Int) - 1))), (4, kB used3), (5, kI i), (8, kI j), (9, .ptr 13 0), (10, kI rv5.1), (11, kB rv5.2)], [⟨13, 50, [kS x4.Name, kI x4.Number, kI x4.Kind, kB x4.Repeated, kB x4.Packed, kI x4.Of]⟩]⟩ [.ev, .ev, .ex [] [] [] (.ep R_Name_Fields [0] x5 0) [], .ex [] [] [] (.rc R_Name_Fields [0] x5) [], .ev, .ev, .ex [] [] [] (.tup [kI rv5.1, kB rv5.2]) []] [⟨[(.tmp 70, .sl R_Name_Fields [0] sv), (.tmp 71, kI i)], [], []⟩, ⟨[(.tmp 72, .ep R_Name_Fields [0] x5 0)], [], []⟩, ⟨[(.func 12, .lf (.val (.func (.func 12) #[] #[]))), (.tmp 73, .rc R_Name_Fields [0] x5), (.tmp 75, kI x4.Number)], [], []⟩] [0, 3, 4, 5, 8, 9, 10, 11] [13] mixed (by kernel_rfl) (by exact (lw_e (lw_e (lw_x (lo_as (lo_ix rfl zet23.el (isSl_sl _ _ _) h_x5) rfl) (lw_x (lo_as (lo_ldr rfl ⟨Try.isAgg35, Try.sizeOf35⟩) rfl) (lw_e (lw_e (lw_x (LocalOk.cons _ (lo_as (lo_call (args := [.tmp 73, .tmp 75]) [.rc R_Name_Fields [0] x5, kI x4.Number] [0] 12 rfl Try.call12 (schema_ByNumber_ok h_rv5) rfl rfl rfl rfl rfl) rfl)) lw_0)))))))) ?_
     obtain ⟨x6, h_x6, h⟩ := bnd h
     obtain ⟨rv6, h_rv6, h⟩ := bnd h
     refine ji_draw ⟨[(0, .sl R_Name_Fields [0] sv), (3, kI (IntKind.i64.wrap ((sv.length : Int) - 1))), (4, kB used3), (5, kI i), (8, kI j), (9, .ptr 13 0), (10, kI rv5.1), (11, kB rv5.2), (12, kI rv6.1), (13, kB rv6.2)], [⟨13, 50, [kS x4.Name, kI x4.Number, kI x4.Kind, kB x4.Repeated, kB x4.Packed, kI x4.Of]⟩]⟩ [.ev, .ev, .ex [] [] [] (.ep R_Name_Fields [0] x6 0) [], .ex [] [] [] (.rc R_Name_Fields [0] x6) [], .ev, .ev, .ex [] [] [] (.tup [kI rv6.1, kB rv6.2]) []] [⟨[(.tmp 80, .sl R_Name_Fields [0] sv), (.tmp 81, kI i)], [], []⟩, ⟨[(.tmp 82, .ep R_Name_Fields [0] x6 0)], [], []⟩, ⟨[(.func 13, .lf (.val (.func (.func 13) #[] #[]))), (.tmp 83, .rc R_Name_Fields [0] x6), (.tmp 85, kS x4.Name)], [], []⟩] [0, 3, 4, 5, 8, 9, 10, 11, 12, 13] [13] mixed (by kernel_rfl) (by exact (lw_e (lw_e (lw_x (lo_as (lo_ix rfl zet23.el (isSl_sl _ _ _) h_x6) rfl) (lw_x (lo_as (lo_ldr rfl ⟨Try.isAgg35, Try.sizeOf35⟩) rfl) (lw_e (lw_e (lw_x (LocalOk.cons _ (lo_as (lo_call (args := [.tmp 83, .tmp 85]) [.rc R_Name_Fields [0] x6, kS x4.Name] [0] 12 rfl Try.call13 (schema_ByName_ok h_rv6) rfl rfl rfl rfl rfl) rfl)) lw_0)))))))) ?_
     refine ji_region ⟨[(0, .sl R_Name_Fields [0] sv), (3, kI (IntKind.i64.wrap ((sv.length : Int) - 1))), (4, kB used3), (5, kI i), (8, kI j), (9, .ptr 13 0), (104, kB ((rv5.1 != j) || ((rv6.1 != j) || ((!rv5.2) || (!rv6.2)))))], [⟨13, 50, [kS x4.Name, kI x4.Number, kI x4.Kind, kB x4.Repeated, kB x4.Packed, kI x4.Of]⟩]⟩ ?_ ?_
     ·
      refine (ro_sp 4 92 (rv5.1 != j) ⟨[(0, .sl R_Name_Fields [0] sv), (3, kI (IntKind.i64.wrap ((sv.length : Int) - 1))), (4, kB used3), (5, kI i), (8, kI j), (9, .ptr 13 0), (11, kB rv5.2), (12, kI rv6.1), (13, kB rv6.2), (92, kB (rv5.1 != j))], [⟨13, 50, [kS x4.Name, kI x4.Number, kI x4.Kind, kB x4.Repeated, kB x4.Packed, kI x4.Of]⟩]⟩ (by kernel_rfl) rfl (fun hc8 => ?_) (fun hc8 => ?_))
      · exact (ro_zb 104 true ((rv5.1 != j) || ((rv6.1 != j) || ((!rv5.2) || (!rv6.2)))) (by rw [hc8] <;> rfl) (by kernel_rfl) (by kernel_rfl))
      refine (ro_sp 5 97 (rv6.1 != j) ⟨[(0, .sl R_Name_Fields [0] sv), (3, kI (IntKind.i64.wrap ((sv.length : Int) - 1))), (4, kB used3), (5, kI i), (8, kI j), (9, .ptr 13 0), (11, kB rv5.2), (13, kB rv6.2), (97, kB (rv6.1 != j))], [⟨13, 50, [kS x4.Name, kI x4.Number, kI x4.Kind, kB x4.Repeated, kB x4.Packed, kI x4.Of]⟩]⟩ (by kernel_rfl) rfl (fun hc9 => ?_) (fun hc9 => ?_))
      · exact (ro_zb 104 true ((rv5.1 != j) || ((rv6.1 != j) || ((!rv5.2) || (!rv6.2)))) (by rw [hc8, hc9] <;> rfl) (by kernel_rfl) (by kernel_rfl))
      refine (ro_sp 4 101 (!rv5.2) ⟨[(0, .sl R_Name_Fields [0] sv), (3, kI (IntKind.i64.wrap ((sv.length : Int) - 1))), (4, kB used3), (5, kI i), (8, kI j), (9, .ptr 13 0), (13, kB rv6.2), (101, kB (!rv5.2))], [⟨13, 50, [kS x4.Name, kI x4.Number, kI x4.Kind, kB x4.Repeated, kB x4.Packed, kI x4.Of]⟩]⟩ (by kernel_rfl) rfl (fun hc10 => ?_) (fun hc10 => ?_))
      · exact (ro_zb 104 true ((rv5.1 != j) || ((rv6.1 != j) || ((!rv5.2) || (!rv6.2)))) (by rw [hc8, hc9, hc10] <;> rfl) (by kernel_rfl) (by kernel_rfl))
      exact (ro_zb 104 (!rv6.2) ((rv5.1 != j) || ((rv6.1 != j) || ((!rv5.2) || (!rv6.2)))) (by rw [hc8, hc9, hc10] <;> rfl) (by kernel_rfl) (by kernel_rfl))
     rcases ite_some h with ⟨hc11, h⟩ | ⟨hc11, h⟩
     ·
      refine ji_condT rfl hc11 ?_
      refine ji_rz ⟨[(2, kB false)], []⟩ (by kernel_rfl) ?_
      obtain rfl := sj h
      exact je_ret' (le_z (by kernel_rfl))
     refine ji_condF rfl hc11 ?_
     refine ji_region ⟨[(0, .sl R_Name_Fields [0] sv), (3, kI (IntKind.i64.wrap ((sv.length : Int) - 1))), (4, kB (used3 || ((decide (i < (IntKind.i64.wrap ((sv.length : Int) - 1)))) && ((x4.Kind == 17) && (x4.Of == (IntKind.i64.wrap ((sv.length : Int) - 1))))))), (5, kI i), (8, kI j)], []⟩ ?_ ?_
     ·
      refine (ro_sp 2 106 used3 ⟨[(0, .sl R_Name_Fields [0] sv), (3, kI (IntKind.i64.wrap ((sv.length : Int) - 1))), (5, kI i), (8, kI j), (9, .ptr 13 0), (106, kB used3)], [⟨13, 50, [kS x4.Name, kI x4.Number, kI x4.Kind, kB x4.Repeated, kB x4.Packed, kI x4.Of]⟩]⟩ (by kernel_rfl) rfl (fun hc12 => ?_) (fun hc12 => ?_))
      · exact (ro_zb 4 true (used3 || ((decide (i < (IntKind.i64.wrap ((sv.length : Int) - 1)))) && ((x4.Kind == 17) && (x4.Of == (IntKind.i64.wrap ((sv.length : Int) - 1)))))) (by rw [hc12] <;> rfl) (by kernel_rfl) (by kernel_rfl))
      refine (ro_sp 4 110 (decide (i < (IntKind.i64.wrap ((sv.length : Int) - 1)))) ⟨[(0, .sl R_Name_Fields [0] sv), (3, kI (IntKind.i64.wrap ((sv.length : Int) - 1))), (5, kI i), (8, kI j), (9, .ptr 13 0), (106, kB false), (110, kB (decide (i < (IntKind.i64.wrap ((sv.length : Int) - 1)))))], [⟨13, 50, [kS x4.Name, kI x4.Number, kI x4.Kind, kB x4.Repeated, kB x4.Packed, kI x4.Of]⟩]⟩ (by kernel_rfl) rfl (fun hc13 => ?_) (fun hc13 => ?_))
      ·
       refine (ro_sp 5 115 (x4.Kind == 17) ⟨[(0, .sl R_Name_Fields [0] sv), (3, kI (IntKind.i64.wrap ((sv.length : Int) - 1))), (5, kI i), (8, kI j), (9, .ptr 13 0), (106, kB false), (115, kB (x4.Kind == 17))], [⟨13, 50, [kS x4.Name, kI x4.Number, kI x4.Kind, kB x4.Repeated, kB x4.Packed, kI x4.Of]⟩]⟩ (by kernel_rfl) rfl (fun hc14 => ?_) (fun hc14 => ?_))
       · exact (ro_zb 4 (x4.Of == (IntKind.i64.wrap ((sv.length : Int) - 1))) (used3 || ((decide (i < (IntKind.i64.wrap ((sv.length : Int) - 1)))) && ((x4.Kind == 17) && (x4.Of == (IntKind.i64.wrap ((sv.length : Int) - 1)))))) (by rw [hc12, hc13, hc14] <;> rfl) (by kernel_rfl) (by kernel_rfl))
       exact (ro_zb 4 false (used3 || ((decide (i < (IntKind.i64.wrap ((sv.length : Int) - 1)))) && ((x4.Kind == 17) && (x4.Of == (IntKind.i64.wrap ((sv.length : Int) - 1)))))) (by rw [hc12, hc13, hc14] <;> rfl) (by kernel_rfl) (by kernel_rfl))
      exact (ro_zb 4 false (used3 || ((decide (i < (IntKind.i64.wrap ((sv.length : Int) - 1)))) && ((x4.Kind == 17) && (x4.Of == (IntKind.i64.wrap ((sv.length : Int) - 1)))))) (by rw [hc12, hc13] <;> rfl) (by kernel_rfl) (by kernel_rfl))
     refine ji_end ?_
     refine ji_rz ⟨[(0, .sl R_Name_Fields [0] sv), (3, kI (IntKind.i64.wrap ((sv.length : Int) - 1))), (4, kB (used3 || ((decide (i < (IntKind.i64.wrap ((sv.length : Int) - 1)))) && ((x4.Kind == 17) && (x4.Of == (IntKind.i64.wrap ((sv.length : Int) - 1))))))), (5, kI i), (8, kI (IntKind.i64.wrap (j + 1)))], []⟩ (by kernel_rfl) ?_
     obtain rfl := sj h
     exact je_nil (le_z (by kernel_rfl))
    refine ji_condF rfl hc7 ?_
    obtain rfl := sj h
    exact je_out' rfl (le_z (by kernel_rfl))
   rcases q with u | u2
   ·
    refine k_exit _ rfl ?_
    refine ji_end ?_
    refine ji_rz ⟨[(0, .sl R_Name_Fields [0] sv), (3, kI (IntKind.i64.wrap ((sv.length : Int) - 1))), (4, kB u), (5, kI (IntKind.i64.wrap (i + 1)))], []⟩ (by kernel_rfl) ?_
    obtain rfl := sj h
    exact je_nil (le_z (by kernel_rfl))
   obtain rfl := sj h
   exact ke_ret' (le_z (by kernel_rfl))
  refine ji_condF rfl hc4 ?_
  obtain rfl := sj h
  exact je_out' rfl (le_z (by kernel_rfl))
 rcases q2 with u3 | u4
 ·
  refine k_exit _ rfl ?_
  obtain ⟨g2, h_g2, h⟩ := bnd h
  refine ji_region ⟨[(2, kB g2)], []⟩ ?_ ?_
  ·
   refine (ro_sp 2 123 u3 ⟨[(0, .sl R_Name_Fields [0] sv), (3, kI (IntKind.i64.wrap ((sv.length : Int) - 1))), (123, kB u3)], []⟩ (by kernel_rfl) rfl (fun hc15 => ?_) (fun hc15 => ?_))
   ·
    replace h_g2 := iteT h_g2 hc15
    obtain rfl := sj h_g2
    exact (ro_z (by kernel_rfl))
   replace h_g2 := iteF h_g2 hc15
   refine (ro_sp 4 127 ((IntKind.i64.wrap ((sv.length : Int) - 1)) == 0) ⟨[(0, .sl R_Name_Fields [0] sv), (3, kI (IntKind.i64.wrap ((sv.length : Int) - 1))), (127, kB ((IntKind.i64.wrap ((sv.length : Int) - 1)) == 0))], []⟩ (by kernel_rfl) rfl (fun hc16 => ?_) (fun hc16 => ?_))
   ·
    replace h_g2 := iteT h_g2 hc16
    obtain rfl := sj h_g2
    exact (ro_z (by kernel_rfl))
   replace h_g2 := iteF h_g2 hc16
   obtain ⟨v4, h_v4, h_g2⟩ := bnd h_g2
   obtain ⟨rv7, h_rv7, h_g2⟩ := bnd h_g2
   obtain rfl := sj h_g2
   exact (ro_o 2 [.sl R_Name_Fields [0] sv, kI (IntKind.i64.wrap ((sv.length : Int) - 1))] ⟨[(127, kB false), (130, .sl R_Name_Fields [0] v4)], []⟩ rfl (lo_cut none (some (kI (IntKind.i64.wrap ((sv.length : Int) - 1)))) rfl zet23.el (isSl_sl _ _ _) ⟨rfl, rfl⟩ ⟨rfl, rfl⟩ h_v4) rfl (by kernel_rfl) (ro_oz 0 [.sl R_Name_Fields [0] v4] rfl (lo_call [.sl R_Name_Fields [0] v4] [0] 12 rfl Try.call10 (schema_Right_ok h_rv7) rfl rfl rfl rfl rfl) rfl (by kernel_rfl)))
  obtain rfl := sj h
  exact je_ret (le_z (by kernel_rfl))
 obtain rfl := sj h
 exact ke_ret (le_z (by kernel_rfl))
end Go.Proofs.Ytnchbppkppbflaa
