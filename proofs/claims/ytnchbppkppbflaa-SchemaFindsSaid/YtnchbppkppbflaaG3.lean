/-
  The Go functions do what the plain functions say. No condition.
-/
import Derived.Test.YtnchbppkppbflaaG1
import Derived.Test.YtnchbppkppbflaaG2
import Derived.Test.YtnchbppkppbflaaY
namespace Go.Proofs.Ytnchbppkppbflaa
open Go Go.RowKit
set_option linter.unusedVariables false
set_option maxRecDepth 100000
theorem slices_Clone___api_Field_api_Field__ok {sv : (List T_Name_Number_Kind_Repeated_Packed_Of)} {r : (List T_Name_Number_Kind_Repeated_Packed_Of)} (h : slices_Clone___api_Field_api_Field_ sv = some r) : FnOk Try.prog 38 [.sl R_Name_Number_Kind_Repeated_Packed_Of [0] sv] [.own R_Name_Number_Kind_Repeated_Packed_Of 50 2 [] r] := by
 refine fn_intro' (E := ⟨[(2, .own R_Name_Number_Kind_Repeated_Packed_Of 50 2 [] r)], []⟩) 8 Try.func38 rfl rfl rfl ⟨rfl, trivial⟩ (fun Xt => ?_)
 refine ji_start ?_
 refine ji_le (E' := ⟨[(0, .sl R_Name_Number_Kind_Repeated_Packed_Of [0] sv)], []⟩) (fun _ _ _ hs => hs) ?_
 unfold slices_Clone___api_Field_api_Field_ at h
 refine ji_rz ⟨[(0, .sl R_Name_Number_Kind_Repeated_Packed_Of [0] sv)], []⟩ (by kernel_rfl) ?_
 have hn1 := nilO_some h
 refine ji_isnil 1 4 true ⟨[(0, .sl R_Name_Number_Kind_Repeated_Packed_Of [0] sv), (3, .sl R_Name_Number_Kind_Repeated_Packed_Of [0] sv)], []⟩ ⟨[(0, .sl R_Name_Number_Kind_Repeated_Packed_Of [0] sv), (4, kB true)], []⟩ ⟨[(0, .sl R_Name_Number_Kind_Repeated_Packed_Of [0] sv), (4, kB false)], []⟩ (by kernel_rfl) rfl rfl rfl (by kernel_rfl) rfl Try.underlying33 rfl (isSl_sl _ _ _) (by kernel_rfl) (by kernel_rfl) (fun hx_ => ?_) ?_
 ·
  replace h := hn1.1 hx_
  refine ji_condT rfl rfl ?_
  refine ji_rz ⟨[(2, kN)], []⟩ (by kernel_rfl) ?_
  obtain rfl := sj h
  refine je_ret ?_
  refine le_at 2 (.own R_Name_Number_Kind_Repeated_Packed_Of 50 2 [] ([] : (List T_Name_Number_Kind_Repeated_Packed_Of))) rfl (le_own_nil R_Name_Number_Kind_Repeated_Packed_Of 50 2 [] rfl) ?_
  exact le_z (by kernel_rfl)
 replace h := hn1.2
 refine ji_condF rfl rfl ?_
 obtain ⟨v, h_v, h⟩ := bnd h
 refine ji_region ⟨[(2, .own R_Name_Number_Kind_Repeated_Packed_Of 50 12 [] v)], []⟩ (ro_o 0 [] ⟨[(0, .sl R_Name_Number_Kind_Repeated_Packed_Of [0] sv), (5, .own R_Name_Number_Kind_Repeated_Packed_Of 50 12 [] ([] : (List T_Name_Number_Kind_Repeated_Packed_Of)))], []⟩ rfl (lo_bsl [] 12 [] ([] : (List T_Name_Number_Kind_Repeated_Packed_Of)) rfl zet33 rfl rfl rfl rfl) rfl (by kernel_rfl) (ro_oz 1 [.own R_Name_Number_Kind_Repeated_Packed_Of 50 12 [] ([] : (List T_Name_Number_Kind_Repeated_Packed_Of)), .sl R_Name_Number_Kind_Repeated_Packed_Of [0] sv] rfl (lo_app 12 [] rfl zet33.el rfl (isOwn_own _ _ _ _ _) (isSl_sl _ _ _) h_v (.inl plain_Name_Number_Kind_Repeated_Packed_Of) rfl) rfl (by kernel_rfl))) ?_
 obtain rfl := sj h
 refine je_ret ?_
 refine le_px ⟨[(2, .own R_Name_Number_Kind_Repeated_Packed_Of 50 12 [] v)], []⟩ (by kernel_rfl) (le_rn 12 2 rfl (le_px ⟨[(2, .own R_Name_Number_Kind_Repeated_Packed_Of 50 2 [] v)], []⟩ (by kernel_rfl) ?_))
 exact le_z (by kernel_rfl)
theorem kind_All_ok  {r : (List Int)} (h : kind_All = some r) : FnOk Try.prog 22 [] [.own (Rp.int .i64) 3 2 [] r] := by
 refine fn_intro' (E := ⟨[(0, .own (Rp.int .i64) 3 2 [] r)], []⟩) 4 Try.func22 rfl rfl rfl ⟨rfl, trivial⟩ (fun Xt => ?_)
 refine ji_start ?_
 refine ji_le (E' := ⟨[], []⟩) (fun _ _ _ hs => hs) ?_
 unfold kind_All at h
 refine ji_rz ⟨[], []⟩ (by kernel_rfl) ?_
 obtain ⟨rv, h_rv, h⟩ := bnd h
 obtain ⟨v, h_v, h⟩ := bnd h
 refine ji_region ⟨[(0, .own (Rp.int .i64) 3 14 [] v)], []⟩ (ro_o 0 [] ⟨[(1, .om (Rp.int .i64) R_name_wire 13 [] rv)], []⟩ rfl (lo_call [] [1] 11 rfl Try.call41 (kind_kinds_ok h_rv) rfl rfl rfl rfl rfl) rfl (by kernel_rfl) (ro_pk 0 ⟨[(1, .om (Rp.int .i64) R_name_wire 13 [] rv)], []⟩ (by kernel_rfl) (ro_skeys (rv := R_name_wire) (m := rv) 14 sk40_39 rfl rfl rfl rfl rfl rfl Try.call40 Try.call39 rfl (isMp_om _ _ _ _ _) h_v rfl (ro_z (by kernel_rfl))))) ?_
 obtain rfl := sj h
 refine je_ret ?_
 refine le_px ⟨[(0, .own (Rp.int .i64) 3 14 [] v)], []⟩ (by kernel_rfl) (le_rn 14 2 rfl (le_px ⟨[(0, .own (Rp.int .i64) 3 2 [] v)], []⟩ (by kernel_rfl) ?_))
 exact le_z (by kernel_rfl)
theorem schema_isName_ok {name : Str} {r : Bool} (h : schema_isName name = some r) : FnOk Try.prog 42 [kS name] [kB r] := by
 refine fn_intro' (E := ⟨[(2, kB r)], []⟩) 34 Try.func42 rfl rfl rfl ⟨rfl, trivial⟩ (fun Xt => ?_)
 refine ji_start ?_
 refine ji_le (E' := ⟨[(0, kS name)], []⟩) (fun _ _ _ hs => hs) ?_
 unfold schema_isName at h
 refine ji_rz ⟨[(0, kS name)], []⟩ (by kernel_rfl) ?_
 obtain ⟨g, h_g, h⟩ := bnd h
 refine ji_region ⟨[(0, kS name), (15, kB g)], []⟩ ?_ ?_
 ·
  refine (ro_sp 3 6 (name == []) ⟨[(0, kS name), (6, kB (name == []))], []⟩ (by kernel_rfl) rfl (fun hc1 => ?_) (fun hc1 => ?_))
  ·
   replace h_g := iteT h_g hc1
   obtain rfl := sj h_g
   exact (ro_z (by kernel_rfl))
  replace h_g := iteF h_g hc1
  refine (ro_sp 5 11 (decide ((name.length : Int) > 60)) ⟨[(0, kS name), (11, kB (decide ((name.length : Int) > 60)))], []⟩ (by kernel_rfl) rfl (fun hc2 => ?_) (fun hc2 => ?_))
  ·
   replace h_g := iteT h_g hc2
   obtain rfl := sj h_g
   exact (ro_z (by kernel_rfl))
  replace h_g := iteF h_g hc2
  obtain ⟨c, h_c, h_g⟩ := bnd h_g
  obtain ⟨rv, h_rv, h_g⟩ := bnd h_g
  obtain rfl := sj h_g
  exact (ro_o 1 [kS name, kI 0] ⟨[(0, kS name), (11, kB false), (13, k8 (c.toNat : Int))], []⟩ rfl (lo_ixs rfl Try.underlying9 h_c) rfl (by kernel_rfl) (ro_oz 0 [k8 (c.toNat : Int)] rfl (lo_call [k8 (c.toNat : Int)] [1] 9 rfl Try.call56 (schema_isDigit_ok h_rv) rfl rfl rfl rfl rfl) rfl (by kernel_rfl)))
 rcases ite_some h with ⟨hc3, h⟩ | ⟨hc3, h⟩
 ·
  refine ji_condT rfl hc3 ?_
  refine ji_rz ⟨[(2, kB false)], []⟩ (by kernel_rfl) ?_
  obtain rfl := sj h
  exact je_ret (le_z (by kernel_rfl))
 refine ji_condF rfl hc3 ?_
 refine ji_rz ⟨[(0, kS name), (17, kI (name.length : Int)), (18, kI 0)], []⟩ (by kernel_rfl) ?_
 refine ji_block ?_
 obtain ⟨q, h_q, h⟩ := bnd h
 refine je_loop (fun s : Int => schema_isName_b1 name s) (fun s => ⟨[(0, kS name), (17, kI (name.length : Int)), (18, kI s)], []⟩) (fun o e a w => match o with | (.inl v_) => e = .exit 0 ∧ Sx ⟨⟨34, []⟩, Xt, false, #[]⟩ ⟨[], []⟩ a w | (.inr v_) => e = .ret ∧ Sx ⟨⟨34, []⟩, Xt, false, #[]⟩ ⟨[(2, kB false)], []⟩ a w) ?_ h_q (le_z (by kernel_rfl)) ?_
 ·
  clear h
  intro v2 o h
  refine ji_start ?_
  refine ji_le (E' := ⟨[(0, kS name), (17, kI (name.length : Int)), (18, kI v2)], []⟩) (fun _ _ _ hs => hs) ?_
  replace h : schema_isName_b1 name v2 = some o := h
  unfold schema_isName_b1 at h
  refine ji_rz ⟨[(0, kS name), (17, kI (name.length : Int)), (18, kI v2), (19, kB (decide (v2 < (name.length : Int))))], []⟩ (by kernel_rfl) ?_
  rcases ite_some h with ⟨hc4, h⟩ | ⟨hc4, h⟩
  ·
   refine ji_condT rfl hc4 ?_
   refine ji_block ?_
   refine ji_rz ⟨[(0, kS name), (3, kI v2), (17, kI (name.length : Int)), (18, kI v2)], []⟩ (by kernel_rfl) ?_
   obtain ⟨g2, h_g2, h⟩ := bnd h
   refine ji_region ⟨[(0, kS name), (17, kI (name.length : Int)), (18, kI v2), (32, kB g2)], []⟩ ?_ ?_
   ·
    obtain ⟨c2, h_c2, h_g2⟩ := bnd h_g2
    obtain ⟨rv2, h_rv2, h_g2⟩ := bnd h_g2
    refine (ro_o 2 [kS name, kI v2] ⟨[(0, kS name), (3, kI v2), (17, kI (name.length : Int)), (18, kI v2), (23, k8 (c2.toNat : Int))], []⟩ rfl (lo_ixs rfl Try.underlying9 h_c2) rfl (by kernel_rfl) (ro_o 0 [k8 (c2.toNat : Int)] ⟨[(0, kS name), (3, kI v2), (17, kI (name.length : Int)), (18, kI v2), (24, kB rv2)], []⟩ rfl (lo_call [k8 (c2.toNat : Int)] [1] 10 rfl Try.call57 (schema_isLetter_ok h_rv2) rfl rfl rfl rfl rfl) rfl (by kernel_rfl) (ro_sp 2 26 (!rv2) ⟨[(0, kS name), (3, kI v2), (17, kI (name.length : Int)), (18, kI v2), (26, kB (!rv2))], []⟩ (by kernel_rfl) rfl (fun hc5 => ?_) (fun hc5 => ?_))))
    ·
     replace h_g2 := iteT h_g2 hc5
     obtain ⟨c3, h_c3, h_g2⟩ := bnd h_g2
     obtain ⟨rv3, h_rv3, h_g2⟩ := bnd h_g2
     obtain rfl := sj h_g2
     exact (ro_o 2 [kS name, kI v2] ⟨[(0, kS name), (17, kI (name.length : Int)), (18, kI v2), (26, kB true), (29, k8 (c3.toNat : Int))], []⟩ rfl (lo_ixs rfl Try.underlying9 h_c3) rfl (by kernel_rfl) (ro_oz 0 [k8 (c3.toNat : Int)] rfl (lo_call [k8 (c3.toNat : Int)] [1] 10 rfl Try.call56 (schema_isDigit_ok h_rv3) rfl rfl rfl rfl rfl) rfl (by kernel_rfl)))
    replace h_g2 := iteF h_g2 hc5
    obtain rfl := sj h_g2
    exact (ro_z (by kernel_rfl))
   rcases ite_some h with ⟨hc6, h⟩ | ⟨hc6, h⟩
   ·
    refine ji_condT rfl hc6 ?_
    refine ji_rz ⟨[(2, kB false)], []⟩ (by kernel_rfl) ?_
    obtain rfl := sj h
    exact je_ret' (le_z (by kernel_rfl))
   refine ji_condF rfl hc6 ?_
   refine ji_end ?_
   refine ji_rz ⟨[(0, kS name), (17, kI (name.length : Int)), (18, kI (IntKind.i64.wrap (v2 + 1)))], []⟩ (by kernel_rfl) ?_
   obtain rfl := sj h
   exact je_nil (le_z (by kernel_rfl))
  refine ji_condF rfl hc4 ?_
  obtain rfl := sj h
  exact je_out' rfl (le_z (by kernel_rfl))
 rcases q with u | u2
 ·
  refine k_exit _ rfl ?_
  refine ji_rz ⟨[(2, kB true)], []⟩ (by kernel_rfl) ?_
  obtain rfl := sj h
  exact je_ret (le_z (by kernel_rfl))
 obtain rfl := sj h
 exact ke_ret (le_z (by kernel_rfl))
theorem slices_Contains___int_int__ok {sv : (List Int)} {v : Int} {r : Bool} (h : slices_Contains___int_int_ sv v = some r) : FnOk Try.prog 44 [.sl (Rp.int .i64) [0] sv, kI v] [kB r] := by
 refine fn_intro' (E := ⟨[(4, kB r)], []⟩) 9 Try.func44 rfl rfl rfl ⟨rfl, trivial⟩ (fun Xt => ?_)
 refine ji_start ?_
 refine ji_le (E' := ⟨[(0, .sl (Rp.int .i64) [0] sv), (1, kI v)], []⟩) (fun _ _ _ hs => hs) ?_
 unfold slices_Contains___int_int_ at h
 refine ji_rz ⟨[(0, .sl (Rp.int .i64) [0] sv), (1, kI v)], []⟩ (by kernel_rfl) ?_
 obtain ⟨rv, h_rv, h⟩ := bnd h
 refine ji_region ⟨[(4, kB (decide (rv ≥ 0)))], []⟩ (ro_oz 2 [.sl (Rp.int .i64) [0] sv, kI v] rfl (lo_call [.sl (Rp.int .i64) [0] sv, kI v] [0] 9 rfl Try.call58 (slices_Index___int_int__ok h_rv) rfl rfl rfl rfl rfl) rfl (by kernel_rfl)) ?_
 obtain rfl := sj h
 exact je_ret (le_z (by kernel_rfl))
theorem kind_Wire_ok {k : Int} {r : (Int × Int)} (h : kind_Wire k = some r) : FnOk Try.prog 65 [kI k] [kI r.1, k8 r.2] := by
 refine fn_intro' (E := ⟨[(2, kI r.1), (3, k8 r.2)], []⟩) 16 Try.func65 rfl rfl rfl ⟨rfl, rfl, trivial⟩ (fun Xt => ?_)
 refine ji_start ?_
 refine ji_le (E' := ⟨[(0, kI k)], []⟩) (fun _ _ _ hs => hs) ?_
 unfold kind_Wire at h
 refine ji_rz ⟨[(0, kI k)], []⟩ (by kernel_rfl) ?_
 obtain ⟨rv, h_rv, h⟩ := bnd h
 refine ji_region ⟨[(4, .ptr 12 0), (5, kB ((mget rv k).isSome))], [⟨12, 75, [kS (((mget rv k).getD (⟨[], 0⟩ : T_name_wire)).name), kI (((mget rv k).getD (⟨[], 0⟩ : T_name_wire)).wire)]⟩]⟩ (ro_o 0 [] ⟨[(0, kI k), (7, .om (Rp.int .i64) R_name_wire 11 [] rv)], []⟩ rfl (lo_call [] [1] 9 rfl Try.call41 (kind_kinds_ok h_rv) rfl rfl rfl rfl rfl) rfl (by kernel_rfl) (ro_o 1 [.om (Rp.int .i64) R_name_wire 11 [] rv, kI k] ⟨[(9, .tup [.rc R_name_wire [11] ((mget rv k).getD (⟨[], 0⟩ : T_name_wire)), kB ((mget rv k).isSome)])], []⟩ rfl (lo_mget2 (rk := (Rp.int .i64)) (rv := R_name_wire) (m := rv) (k := k) (.rc R_name_wire [11] ((mget rv k).getD (⟨[], 0⟩ : T_name_wire))) rfl mapt73 (isMp_om _ _ _ _ _) (asV_lf rfl rfl) (elAV_rc rfl)) rfl (by kernel_rfl) (ro_o 3 [] ⟨[(4, .ptr 12 0), (10, .rc R_name_wire [11] ((mget rv k).getD (⟨[], 0⟩ : T_name_wire))), (11, kB ((mget rv k).isSome))], [⟨12, 75, [kS [], kI 0]⟩]⟩ rfl (lo_alloc 12 [kS [], kI 0] rfl Try.zeroValue75 rfl) rfl (by kernel_rfl) (ro_obz 0 [.ptr 12 0, .rc R_name_wire [11] ((mget rv k).getD (⟨[], 0⟩ : T_name_wire))] [⟨12, 75, [kS [], kI 0]⟩] rfl (lo_str (r := R_name_wire) (b := ⟨12, 75, [kS [], kI 0]⟩) (off := 0) [kS (((mget rv k).getD (⟨[], 0⟩ : T_name_wire)).name), kI (((mget rv k).getD (⟨[], 0⟩ : T_name_wire)).wire)] rfl Try.sizeOf75 rfl rfl rfl rfl) rfl rfl (by kernel_rfl))))) ?_
 refine ji_rz ⟨[(4, .ptr 12 0), (13, kB (!(mget rv k).isSome))], [⟨12, 75, [kS (((mget rv k).getD (⟨[], 0⟩ : T_name_wire)).name), kI (((mget rv k).getD (⟨[], 0⟩ : T_name_wire)).wire)]⟩]⟩ (by kernel_rfl) ?_
 rcases ite_some h with ⟨hc1, h⟩ | ⟨hc1, h⟩
 ·
  refine ji_condT rfl hc1 ?_
  refine ji_rz ⟨[(2, kI 0), (3, k8 2)], []⟩ (by kernel_rfl) ?_
  obtain rfl := sj h
  exact je_ret (le_z (by kernel_rfl))
 refine ji_condF rfl hc1 ?_
 refine ji_rz ⟨[(2, kI (((mget rv k).getD (⟨[], 0⟩ : T_name_wire)).wire)), (3, k8 0)], []⟩ (by kernel_rfl) ?_
 obtain rfl := sj h
 exact je_ret (le_z (by kernel_rfl))
theorem slices_IndexFunc_api_Schema_api_Message___schema_Message_1_ok {sv : (List T_Name_Fields)} {v : Str} {r : Int} (h : slices_IndexFunc_api_Schema_api_Message___schema_Message_1 sv v = some r) : FnOk Try.prog 27 [.sl R_Name_Fields [0] sv, .fv 28 [.ep Rp.str [0] v 0]] [kI r] := by
 refine fn_intro' (E := ⟨[(4, kI r)], []⟩) 19 Try.func27 rfl rfl rfl ⟨rfl, trivial⟩ (fun Xt => ?_)
 refine ji_start ?_
 refine ji_le (E' := ⟨[(0, .sl R_Name_Fields [0] sv), (1, .fv 28 [.ep Rp.str [0] v 0])], []⟩) (fun _ _ _ hs => hs) ?_
 unfold slices_IndexFunc_api_Schema_api_Message___schema_Message_1 at h
 refine ji_rz ⟨[(0, .sl R_Name_Fields [0] sv), (1, .fv 28 [.ep Rp.str [0] v 0])], []⟩ (by kernel_rfl) ?_
 refine ji_rz ⟨[(0, .sl R_Name_Fields [0] sv), (1, .fv 28 [.ep Rp.str [0] v 0]), (7, kI (sv.length : Int)), (8, kI 0)], []⟩ (by kernel_rfl) ?_
 refine ji_block ?_
 obtain ⟨q, h_q, h⟩ := bnd h
 refine je_loop (fun s : Int => slices_IndexFunc_api_Schema_api_Message___schema_Message_1_b1 sv v s) (fun s => ⟨[(0, .sl R_Name_Fields [0] sv), (1, .fv 28 [.ep Rp.str [0] v 0]), (7, kI (sv.length : Int)), (8, kI s)], []⟩) (fun o e a w => match o with | (.inl v_) => e = .exit 0 ∧ Sx ⟨⟨19, []⟩, Xt, false, #[]⟩ ⟨[], []⟩ a w | (.inr v_) => e = .ret ∧ Sx ⟨⟨19, []⟩, Xt, false, #[]⟩ ⟨[(4, kI v_)], []⟩ a w) ?_ h_q (le_z (by kernel_rfl)) ?_
 ·
  clear h
  intro v2 o h
  refine ji_start ?_
  refine ji_le (E' := ⟨[(0, .sl R_Name_Fields [0] sv), (1, .fv 28 [.ep Rp.str [0] v 0]), (7, kI (sv.length : Int)), (8, kI v2)], []⟩) (fun _ _ _ hs => hs) ?_
  replace h : slices_IndexFunc_api_Schema_api_Message___schema_Message_1_b1 sv v v2 = some o := h
  unfold slices_IndexFunc_api_Schema_api_Message___schema_Message_1_b1 at h
  refine ji_rz ⟨[(0, .sl R_Name_Fields [0] sv), (1, .fv 28 [.ep Rp.str [0] v 0]), (7, kI (sv.length : Int)), (8, kI v2), (9, kB (decide (v2 < (sv.length : Int))))], []⟩ (by kernel_rfl) ?_
  rcases ite_some h with ⟨hc1, h⟩ | ⟨hc1, h⟩
  ·
   refine ji_condT rfl hc1 ?_
   refine ji_block ?_
   refine ji_rz ⟨[(0, .sl R_Name_Fields [0] sv), (1, .fv 28 [.ep Rp.str [0] v 0]), (5, kI v2), (7, kI (sv.length : Int)), (8, kI v2)], []⟩ (by kernel_rfl) ?_
   obtain ⟨x, h_x, h⟩ := bnd h
   obtain ⟨rv, h_rv, h⟩ := bnd h
   refine ji_region ⟨[(0, .sl R_Name_Fields [0] sv), (1, .fv 28 [.ep Rp.str [0] v 0]), (5, kI v2), (7, kI (sv.length : Int)), (8, kI v2), (16, kB rv)], []⟩ (ro_o 3 [.sl R_Name_Fields [0] sv, kI v2] ⟨[(0, .sl R_Name_Fields [0] sv), (1, .fv 28 [.ep Rp.str [0] v 0]), (5, kI v2), (7, kI (sv.length : Int)), (8, kI v2), (11, .fv 28 [.ep Rp.str [0] v 0]), (14, .ep R_Name_Fields [0] x 0)], []⟩ rfl (lo_ix rfl zet23.el (isSl_sl _ _ _) h_x) rfl (by kernel_rfl) (ro_o 0 [.ep R_Name_Fields [0] x 0] ⟨[(0, .sl R_Name_Fields [0] sv), (1, .fv 28 [.ep Rp.str [0] v 0]), (5, kI v2), (7, kI (sv.length : Int)), (8, kI v2), (11, .fv 28 [.ep Rp.str [0] v 0]), (15, .rc R_Name_Fields [0] x)], []⟩ rfl (lo_ldr rfl ⟨Try.isAgg35, Try.sizeOf35⟩) rfl (by kernel_rfl) (ro_oz 0 [.fv 28 [.ep Rp.str [0] v 0], .rc R_Name_Fields [0] x] rfl (lo_callv (args := [.tmp 15]) [.rc R_Name_Fields [0] x] [0] 10 rfl (isFv_fv _ _) Try.call28 (schema_Message_1_ok h_rv) rfl rfl rfl rfl rfl) rfl (by kernel_rfl)))) ?_
   rcases ite_some h with ⟨hc2, h⟩ | ⟨hc2, h⟩
   ·
    refine ji_condT rfl hc2 ?_
    refine ji_rz ⟨[(4, kI v2)], []⟩ (by kernel_rfl) ?_
    obtain rfl := sj h
    exact je_ret' (le_z (by kernel_rfl))
   refine ji_condF rfl hc2 ?_
   refine ji_end ?_
   refine ji_rz ⟨[(0, .sl R_Name_Fields [0] sv), (1, .fv 28 [.ep Rp.str [0] v 0]), (7, kI (sv.length : Int)), (8, kI (IntKind.i64.wrap (v2 + 1)))], []⟩ (by kernel_rfl) ?_
   obtain rfl := sj h
   exact je_nil (le_z (by kernel_rfl))
  refine ji_condF rfl hc1 ?_
  obtain rfl := sj h
  exact je_out' rfl (le_z (by kernel_rfl))
 rcases q with u | u2
 ·
  refine k_exit _ rfl ?_
  refine ji_rz ⟨[(4, kI (-1))], []⟩ (by kernel_rfl) ?_
  obtain rfl := sj h
  exact je_ret (le_z (by kernel_rfl))
 obtain rfl := sj h
 exact ke_ret (le_z (by kernel_rfl))
theorem slices_IndexFunc___api_Field_api_Field___schema_ByNumber_1_ok {sv : (List T_Name_Number_Kind_Repeated_Packed_Of)} {v : Int} {r : Int} (h : slices_IndexFunc___api_Field_api_Field___schema_ByNumber_1 sv v = some r) : FnOk Try.prog 49 [.sl R_Name_Number_Kind_Repeated_Packed_Of [0] sv, .fv 30 [.ep (Rp.int .i64) [0] v 0]] [kI r] := by
 refine fn_intro' (E := ⟨[(4, kI r)], []⟩) 19 Try.func49 rfl rfl rfl ⟨rfl, trivial⟩ (fun Xt => ?_)
 refine ji_start ?_
 refine ji_le (E' := ⟨[(0, .sl R_Name_Number_Kind_Repeated_Packed_Of [0] sv), (1, .fv 30 [.ep (Rp.int .i64) [0] v 0])], []⟩) (fun _ _ _ hs => hs) ?_
 unfold slices_IndexFunc___api_Field_api_Field___schema_ByNumber_1 at h
 refine ji_rz ⟨[(0, .sl R_Name_Number_Kind_Repeated_Packed_Of [0] sv), (1, .fv 30 [.ep (Rp.int .i64) [0] v 0])], []⟩ (by kernel_rfl) ?_
 refine ji_rz ⟨[(0, .sl R_Name_Number_Kind_Repeated_Packed_Of [0] sv), (1, .fv 30 [.ep (Rp.int .i64) [0] v 0]), (7, kI (sv.length : Int)), (8, kI 0)], []⟩ (by kernel_rfl) ?_
 refine ji_block ?_
 obtain ⟨q, h_q, h⟩ := bnd h
 refine je_loop (fun s : Int => slices_IndexFunc___api_Field_api_Field___schema_ByNumber_1_b1 sv v s) (fun s => ⟨[(0, .sl R_Name_Number_Kind_Repeated_Packed_Of [0] sv), (1, .fv 30 [.ep (Rp.int .i64) [0] v 0]), (7, kI (sv.length : Int)), (8, kI s)], []⟩) (fun o e a w => match o with | (.inl v_) => e = .exit 0 ∧ Sx ⟨⟨19, []⟩, Xt, false, #[]⟩ ⟨[], []⟩ a w | (.inr v_) => e = .ret ∧ Sx ⟨⟨19, []⟩, Xt, false, #[]⟩ ⟨[(4, kI v_)], []⟩ a w) ?_ h_q (le_z (by kernel_rfl)) ?_
 ·
  clear h
  intro v2 o h
  refine ji_start ?_
  refine ji_le (E' := ⟨[(0, .sl R_Name_Number_Kind_Repeated_Packed_Of [0] sv), (1, .fv 30 [.ep (Rp.int .i64) [0] v 0]), (7, kI (sv.length : Int)), (8, kI v2)], []⟩) (fun _ _ _ hs => hs) ?_
  replace h : slices_IndexFunc___api_Field_api_Field___schema_ByNumber_1_b1 sv v v2 = some o := h
  unfold slices_IndexFunc___api_Field_api_Field___schema_ByNumber_1_b1 at h
  refine ji_rz ⟨[(0, .sl R_Name_Number_Kind_Repeated_Packed_Of [0] sv), (1, .fv 30 [.ep (Rp.int .i64) [0] v 0]), (7, kI (sv.length : Int)), (8, kI v2), (9, kB (decide (v2 < (sv.length : Int))))], []⟩ (by kernel_rfl) ?_
  rcases ite_some h with ⟨hc1, h⟩ | ⟨hc1, h⟩
  ·
   refine ji_condT rfl hc1 ?_
   refine ji_block ?_
   refine ji_rz ⟨[(0, .sl R_Name_Number_Kind_Repeated_Packed_Of [0] sv), (1, .fv 30 [.ep (Rp.int .i64) [0] v 0]), (5, kI v2), (7, kI (sv.length : Int)), (8, kI v2)], []⟩ (by kernel_rfl) ?_
   obtain ⟨x, h_x, h⟩ := bnd h
   obtain ⟨rv, h_rv, h⟩ := bnd h
   refine ji_region ⟨[(0, .sl R_Name_Number_Kind_Repeated_Packed_Of [0] sv), (1, .fv 30 [.ep (Rp.int .i64) [0] v 0]), (5, kI v2), (7, kI (sv.length : Int)), (8, kI v2), (16, kB rv)], []⟩ (ro_o 3 [.sl R_Name_Number_Kind_Repeated_Packed_Of [0] sv, kI v2] ⟨[(0, .sl R_Name_Number_Kind_Repeated_Packed_Of [0] sv), (1, .fv 30 [.ep (Rp.int .i64) [0] v 0]), (5, kI v2), (7, kI (sv.length : Int)), (8, kI v2), (11, .fv 30 [.ep (Rp.int .i64) [0] v 0]), (14, .ep R_Name_Number_Kind_Repeated_Packed_Of [0] x 0)], []⟩ rfl (lo_ix rfl zet33.el (isSl_sl _ _ _) h_x) rfl (by kernel_rfl) (ro_o 0 [.ep R_Name_Number_Kind_Repeated_Packed_Of [0] x 0] ⟨[(0, .sl R_Name_Number_Kind_Repeated_Packed_Of [0] sv), (1, .fv 30 [.ep (Rp.int .i64) [0] v 0]), (5, kI v2), (7, kI (sv.length : Int)), (8, kI v2), (11, .fv 30 [.ep (Rp.int .i64) [0] v 0]), (15, .rc R_Name_Number_Kind_Repeated_Packed_Of [0] x)], []⟩ rfl (lo_ldr rfl ⟨Try.isAgg50, Try.sizeOf50⟩) rfl (by kernel_rfl) (ro_oz 0 [.fv 30 [.ep (Rp.int .i64) [0] v 0], .rc R_Name_Number_Kind_Repeated_Packed_Of [0] x] rfl (lo_callv (args := [.tmp 15]) [.rc R_Name_Number_Kind_Repeated_Packed_Of [0] x] [0] 10 rfl (isFv_fv _ _) Try.call30 (schema_ByNumber_1_ok h_rv) rfl rfl rfl rfl rfl) rfl (by kernel_rfl)))) ?_
   rcases ite_some h with ⟨hc2, h⟩ | ⟨hc2, h⟩
   ·
    refine ji_condT rfl hc2 ?_
    refine ji_rz ⟨[(4, kI v2)], []⟩ (by kernel_rfl) ?_
    obtain rfl := sj h
    exact je_ret' (le_z (by kernel_rfl))
   refine ji_condF rfl hc2 ?_
   refine ji_end ?_
   refine ji_rz ⟨[(0, .sl R_Name_Number_Kind_Repeated_Packed_Of [0] sv), (1, .fv 30 [.ep (Rp.int .i64) [0] v 0]), (7, kI (sv.length : Int)), (8, kI (IntKind.i64.wrap (v2 + 1)))], []⟩ (by kernel_rfl) ?_
   obtain rfl := sj h
   exact je_nil (le_z (by kernel_rfl))
  refine ji_condF rfl hc1 ?_
  obtain rfl := sj h
  exact je_out' rfl (le_z (by kernel_rfl))
 rcases q with u | u2
 ·
  refine k_exit _ rfl ?_
  refine ji_rz ⟨[(4, kI (-1))], []⟩ (by kernel_rfl) ?_
  obtain rfl := sj h
  exact je_ret (le_z (by kernel_rfl))
 obtain rfl := sj h
 exact ke_ret (le_z (by kernel_rfl))
theorem slices_IndexFunc___api_Field_api_Field___schema_ByName_1_ok {sv : (List T_Name_Number_Kind_Repeated_Packed_Of)} {v : Str} {r : Int} (h : slices_IndexFunc___api_Field_api_Field___schema_ByName_1 sv v = some r) : FnOk Try.prog 49 [.sl R_Name_Number_Kind_Repeated_Packed_Of [0] sv, .fv 31 [.ep Rp.str [0] v 0]] [kI r] := by
 refine fn_intro' (E := ⟨[(4, kI r)], []⟩) 19 Try.func49 rfl rfl rfl ⟨rfl, trivial⟩ (fun Xt => ?_)
 refine ji_start ?_
 refine ji_le (E' := ⟨[(0, .sl R_Name_Number_Kind_Repeated_Packed_Of [0] sv), (1, .fv 31 [.ep Rp.str [0] v 0])], []⟩) (fun _ _ _ hs => hs) ?_
 unfold slices_IndexFunc___api_Field_api_Field___schema_ByName_1 at h
 refine ji_rz ⟨[(0, .sl R_Name_Number_Kind_Repeated_Packed_Of [0] sv), (1, .fv 31 [.ep Rp.str [0] v 0])], []⟩ (by kernel_rfl) ?_
 refine ji_rz ⟨[(0, .sl R_Name_Number_Kind_Repeated_Packed_Of [0] sv), (1, .fv 31 [.ep Rp.str [0] v 0]), (7, kI (sv.length : Int)), (8, kI 0)], []⟩ (by kernel_rfl) ?_
 refine ji_block ?_
 obtain ⟨q, h_q, h⟩ := bnd h
 refine je_loop (fun s : Int => slices_IndexFunc___api_Field_api_Field___schema_ByName_1_b1 sv v s) (fun s => ⟨[(0, .sl R_Name_Number_Kind_Repeated_Packed_Of [0] sv), (1, .fv 31 [.ep Rp.str [0] v 0]), (7, kI (sv.length : Int)), (8, kI s)], []⟩) (fun o e a w => match o with | (.inl v_) => e = .exit 0 ∧ Sx ⟨⟨19, []⟩, Xt, false, #[]⟩ ⟨[], []⟩ a w | (.inr v_) => e = .ret ∧ Sx ⟨⟨19, []⟩, Xt, false, #[]⟩ ⟨[(4, kI v_)], []⟩ a w) ?_ h_q (le_z (by kernel_rfl)) ?_
 ·
  clear h
  intro v2 o h
  refine ji_start ?_
  refine ji_le (E' := ⟨[(0, .sl R_Name_Number_Kind_Repeated_Packed_Of [0] sv), (1, .fv 31 [.ep Rp.str [0] v 0]), (7, kI (sv.length : Int)), (8, kI v2)], []⟩) (fun _ _ _ hs => hs) ?_
  replace h : slices_IndexFunc___api_Field_api_Field___schema_ByName_1_b1 sv v v2 = some o := h
  unfold slices_IndexFunc___api_Field_api_Field___schema_ByName_1_b1 at h
  refine ji_rz ⟨[(0, .sl R_Name_Number_Kind_Repeated_Packed_Of [0] sv), (1, .fv 31 [.ep Rp.str [0] v 0]), (7, kI (sv.length : Int)), (8, kI v2), (9, kB (decide (v2 < (sv.length : Int))))], []⟩ (by kernel_rfl) ?_
  rcases ite_some h with ⟨hc1, h⟩ | ⟨hc1, h⟩
  ·
   refine ji_condT rfl hc1 ?_
   refine ji_block ?_
   refine ji_rz ⟨[(0, .sl R_Name_Number_Kind_Repeated_Packed_Of [0] sv), (1, .fv 31 [.ep Rp.str [0] v 0]), (5, kI v2), (7, kI (sv.length : Int)), (8, kI v2)], []⟩ (by kernel_rfl) ?_
   obtain ⟨x, h_x, h⟩ := bnd h
   obtain ⟨rv, h_rv, h⟩ := bnd h
   refine ji_region ⟨[(0, .sl R_Name_Number_Kind_Repeated_Packed_Of [0] sv), (1, .fv 31 [.ep Rp.str [0] v 0]), (5, kI v2), (7, kI (sv.length : Int)), (8, kI v2), (16, kB rv)], []⟩ (ro_o 3 [.sl R_Name_Number_Kind_Repeated_Packed_Of [0] sv, kI v2] ⟨[(0, .sl R_Name_Number_Kind_Repeated_Packed_Of [0] sv), (1, .fv 31 [.ep Rp.str [0] v 0]), (5, kI v2), (7, kI (sv.length : Int)), (8, kI v2), (11, .fv 31 [.ep Rp.str [0] v 0]), (14, .ep R_Name_Number_Kind_Repeated_Packed_Of [0] x 0)], []⟩ rfl (lo_ix rfl zet33.el (isSl_sl _ _ _) h_x) rfl (by kernel_rfl) (ro_o 0 [.ep R_Name_Number_Kind_Repeated_Packed_Of [0] x 0] ⟨[(0, .sl R_Name_Number_Kind_Repeated_Packed_Of [0] sv), (1, .fv 31 [.ep Rp.str [0] v 0]), (5, kI v2), (7, kI (sv.length : Int)), (8, kI v2), (11, .fv 31 [.ep Rp.str [0] v 0]), (15, .rc R_Name_Number_Kind_Repeated_Packed_Of [0] x)], []⟩ rfl (lo_ldr rfl ⟨Try.isAgg50, Try.sizeOf50⟩) rfl (by kernel_rfl) (ro_oz 0 [.fv 31 [.ep Rp.str [0] v 0], .rc R_Name_Number_Kind_Repeated_Packed_Of [0] x] rfl (lo_callv (args := [.tmp 15]) [.rc R_Name_Number_Kind_Repeated_Packed_Of [0] x] [0] 10 rfl (isFv_fv _ _) Try.call31 (schema_ByName_1_ok h_rv) rfl rfl rfl rfl rfl) rfl (by kernel_rfl)))) ?_
   rcases ite_some h with ⟨hc2, h⟩ | ⟨hc2, h⟩
   ·
    refine ji_condT rfl hc2 ?_
    refine ji_rz ⟨[(4, kI v2)], []⟩ (by kernel_rfl) ?_
    obtain rfl := sj h
    exact je_ret' (le_z (by kernel_rfl))
   refine ji_condF rfl hc2 ?_
   refine ji_end ?_
   refine ji_rz ⟨[(0, .sl R_Name_Number_Kind_Repeated_Packed_Of [0] sv), (1, .fv 31 [.ep Rp.str [0] v 0]), (7, kI (sv.length : Int)), (8, kI (IntKind.i64.wrap (v2 + 1)))], []⟩ (by kernel_rfl) ?_
   obtain rfl := sj h
   exact je_nil (le_z (by kernel_rfl))
  refine ji_condF rfl hc1 ?_
  obtain rfl := sj h
  exact je_out' rfl (le_z (by kernel_rfl))
 rcases q with u | u2
 ·
  refine k_exit _ rfl ?_
  refine ji_rz ⟨[(4, kI (-1))], []⟩ (by kernel_rfl) ?_
  obtain rfl := sj h
  exact je_ret (le_z (by kernel_rfl))
 obtain rfl := sj h
 exact ke_ret (le_z (by kernel_rfl))
theorem cmp_Compare_int__ok {x : Int} {y : Int} {r : Int} (h : cmp_Compare_int_ x y = some r) : FnOk Try.prog 34 [kI x, kI y] [kI r] := by
 refine fn_intro' (E := ⟨[(4, kI r)], []⟩) 20 Try.func34 rfl rfl rfl ⟨rfl, trivial⟩ (fun Xt => ?_)
 refine ji_start ?_
 refine ji_le (E' := ⟨[(0, kI x), (1, kI y)], []⟩) (fun _ _ _ hs => hs) ?_
 unfold cmp_Compare_int_ at h
 refine ji_rz ⟨[(0, kI x), (1, kI y)], []⟩ (by kernel_rfl) ?_
 obtain ⟨rv, h_rv, h⟩ := bnd h
 refine ji_region ⟨[(0, kI x), (1, kI y), (5, kB rv)], []⟩ (ro_oz 1 [kI x] rfl (lo_call [kI x] [1] 9 rfl Try.call51 (cmp_isNaN_int__ok h_rv) rfl rfl rfl rfl rfl) rfl (by kernel_rfl)) ?_
 obtain ⟨rv2, h_rv2, h⟩ := bnd h
 refine ji_region ⟨[(0, kI x), (1, kI y), (5, kB rv), (6, kB rv2)], []⟩ (ro_oz 1 [kI y] rfl (lo_call [kI y] [1] 9 rfl Try.call51 (cmp_isNaN_int__ok h_rv2) rfl rfl rfl rfl rfl) rfl (by kernel_rfl)) ?_
 refine ji_rz ⟨[(0, kI x), (1, kI y), (6, kB rv2), (11, kB rv)], []⟩ (by kernel_rfl) ?_
 rcases ite_some h with ⟨hc1, h⟩ | ⟨hc1, h⟩
 ·
  refine ji_condT rfl hc1 ?_
  refine ji_rz ⟨[(12, kB rv2)], []⟩ (by kernel_rfl) ?_
  rcases ite_some h with ⟨hc2, h⟩ | ⟨hc2, h⟩
  ·
   refine ji_condT rfl hc2 ?_
   refine ji_rz ⟨[(4, kI 0)], []⟩ (by kernel_rfl) ?_
   obtain rfl := sj h
   exact je_ret (le_z (by kernel_rfl))
  refine ji_condF rfl hc2 ?_
  refine ji_rz ⟨[(4, kI (-1))], []⟩ (by kernel_rfl) ?_
  obtain rfl := sj h
  exact je_ret (le_z (by kernel_rfl))
 refine ji_condF rfl hc1 ?_
 refine ji_rz ⟨[(0, kI x), (1, kI y), (13, kB rv2)], []⟩ (by kernel_rfl) ?_
 rcases ite_some h with ⟨hc3, h⟩ | ⟨hc3, h⟩
 ·
  refine ji_condT rfl hc3 ?_
  refine ji_rz ⟨[(4, kI 1)], []⟩ (by kernel_rfl) ?_
  obtain rfl := sj h
  exact je_ret (le_z (by kernel_rfl))
 refine ji_condF rfl hc3 ?_
 refine ji_rz ⟨[(0, kI x), (1, kI y), (16, kB (decide (x < y)))], []⟩ (by kernel_rfl) ?_
 rcases ite_some h with ⟨hc4, h⟩ | ⟨hc4, h⟩
 ·
  refine ji_condT rfl hc4 ?_
  refine ji_rz ⟨[(4, kI (-1))], []⟩ (by kernel_rfl) ?_
  obtain rfl := sj h
  exact je_ret (le_z (by kernel_rfl))
 refine ji_condF rfl hc4 ?_
 refine ji_rz ⟨[(19, kB (decide (x > y)))], []⟩ (by kernel_rfl) ?_
 rcases ite_some h with ⟨hc5, h⟩ | ⟨hc5, h⟩
 ·
  refine ji_condT rfl hc5 ?_
  refine ji_rz ⟨[(4, kI 1)], []⟩ (by kernel_rfl) ?_
  obtain rfl := sj h
  exact je_ret (le_z (by kernel_rfl))
 refine ji_condF rfl hc5 ?_
 refine ji_rz ⟨[(4, kI 0)], []⟩ (by kernel_rfl) ?_
 obtain rfl := sj h
 exact je_ret (le_z (by kernel_rfl))
theorem schema_sameMessage_ok {av : T_Name_Fields} {b : T_Name_Fields} {r : Bool} (h : schema_sameMessage av b = some r) : FnOk Try.prog 36 [.rc R_Name_Fields [0] av, .rc R_Name_Fields [0] b] [kB r] := by
 refine fn_intro' (E := ⟨[(4, kB r)], []⟩) 17 Try.func36 rfl rfl rfl ⟨rfl, trivial⟩ (fun Xt => ?_)
 refine ji_start ?_
 refine ji_le (E' := ⟨[(0, .rc R_Name_Fields [0] av), (1, .rc R_Name_Fields [0] b)], []⟩) (fun _ _ _ hs => hs) ?_
 unfold schema_sameMessage at h
 refine ji_region ⟨[(2, .ptr 11 0), (3, .ptr 12 0)], [⟨11, 35, [kS av.Name, .sl R_Name_Number_Kind_Repeated_Packed_Of [0] av.Fields]⟩, ⟨12, 35, [kS b.Name, .sl R_Name_Number_Kind_Repeated_Packed_Of [0] b.Fields]⟩]⟩ (ro_o 0 [.rc R_Name_Fields [0] av] ⟨[(1, .rc R_Name_Fields [0] b), (2, .ptr 11 0)], [⟨11, 35, [kS av.Name, .sl R_Name_Number_Kind_Repeated_Packed_Of [0] av.Fields]⟩]⟩ rfl (lo_box 11 [kS av.Name, .sl R_Name_Number_Kind_Repeated_Packed_Of [0] av.Fields] [0] rfl rfl rfl rfl rfl) rfl (by kernel_rfl) (ro_oz 0 [.rc R_Name_Fields [0] b] rfl (lo_box 12 [kS b.Name, .sl R_Name_Number_Kind_Repeated_Packed_Of [0] b.Fields] [0] rfl rfl rfl rfl rfl) rfl (by kernel_rfl))) ?_
 obtain ⟨g, h_g, h⟩ := bnd h
 refine ji_region ⟨[(4, kB g)], []⟩ ?_ ?_
 ·
  refine (ro_sp 6 10 (av.Name == b.Name) ⟨[(2, .ptr 11 0), (3, .ptr 12 0), (10, kB (av.Name == b.Name))], [⟨11, 35, [kS av.Name, .sl R_Name_Number_Kind_Repeated_Packed_Of [0] av.Fields]⟩, ⟨12, 35, [kS b.Name, .sl R_Name_Number_Kind_Repeated_Packed_Of [0] b.Fields]⟩]⟩ (by kernel_rfl) rfl (fun hc1 => ?_) (fun hc1 => ?_))
  ·
   replace h_g := iteT h_g hc1
   obtain ⟨rv, h_rv, h_g⟩ := bnd h_g
   obtain rfl := sj h_g
   exact (ro_oz 4 [.sl R_Name_Number_Kind_Repeated_Packed_Of [0] av.Fields, .sl R_Name_Number_Kind_Repeated_Packed_Of [0] b.Fields] rfl (lo_call [.sl R_Name_Number_Kind_Repeated_Packed_Of [0] av.Fields, .sl R_Name_Number_Kind_Repeated_Packed_Of [0] b.Fields] [0] 11 rfl Try.call52 (slices_Equal___api_Field_api_Field__ok h_rv) rfl rfl rfl rfl rfl) rfl (by kernel_rfl))
  replace h_g := iteF h_g hc1
  obtain rfl := sj h_g
  exact (ro_z (by kernel_rfl))
 obtain rfl := sj h
 exact je_ret (le_z (by kernel_rfl))
theorem schema_Copy_ok {sv : (List T_Name_Fields)} {r : (List T_Name_Fields)} (h : schema_Copy sv = some r) : FnOk Try.prog 21 [.sl R_Name_Fields [0] sv] [.own R_Name_Fields 35 2 [0, 3] r] := by
 refine fn_intro' (E := ⟨[(2, .own R_Name_Fields 35 2 [0, 3] r)], []⟩) 24 Try.func21 rfl rfl rfl ⟨rfl, trivial⟩ (fun Xt => ?_)
 refine ji_start ?_
 refine ji_le (E' := ⟨[(0, .sl R_Name_Fields [0] sv)], []⟩) (fun _ _ _ hs => hs) ?_
 unfold schema_Copy at h
 refine ji_rz ⟨[(0, .sl R_Name_Fields [0] sv)], []⟩ (by kernel_rfl) ?_
 obtain ⟨rv, h_rv, h⟩ := bnd h
 refine ji_region ⟨[(3, .own R_Name_Fields 35 13 [0] rv)], []⟩ (ro_oz 1 [.sl R_Name_Fields [0] sv] rfl (lo_call [.sl R_Name_Fields [0] sv] [0] 11 rfl Try.call37 (slices_Clone_api_Schema_api_Message__ok h_rv) rfl rfl rfl rfl rfl) rfl (by kernel_rfl)) ?_
 refine ji_rz ⟨[(3, .own R_Name_Fields 35 13 [0] rv), (8, .own R_Name_Fields 35 13 [0] rv), (9, kI (rv.length : Int)), (10, kI 0)], []⟩ (by kernel_rfl) ?_
 refine ji_block ?_
 obtain ⟨q, h_q, h⟩ := bnd h
 refine je_loop (fun s : ((List T_Name_Fields) × Int) => schema_Copy_b1 rv s.1 s.2) (fun s => ⟨[(3, .own R_Name_Fields 35 13 [0, 14] s.1), (8, .own R_Name_Fields 35 13 [0, 14] s.1), (9, kI (rv.length : Int)), (10, kI s.2)], []⟩) (fun o e a w => e = .exit 0 ∧ Sx ⟨⟨24, []⟩, Xt, false, #[]⟩ ⟨[(3, .own R_Name_Fields 35 13 [0, 14] o)], []⟩ a w) ?_ h_q ?_ ?_
 ·
  clear h
  intro s o h
  obtain ⟨c, v⟩ := s
  refine ji_start ?_
  refine ji_le (E' := ⟨[(3, .own R_Name_Fields 35 13 [0, 14] c), (8, .own R_Name_Fields 35 13 [0, 14] c), (9, kI (rv.length : Int)), (10, kI v)], []⟩) (fun _ _ _ hs => hs) ?_
  replace h : schema_Copy_b1 rv c v = some o := h
  unfold schema_Copy_b1 at h
  refine ji_rz ⟨[(3, .own R_Name_Fields 35 13 [0, 14] c), (8, .own R_Name_Fields 35 13 [0, 14] c), (9, kI (rv.length : Int)), (10, kI v), (11, kB (decide (v < (rv.length : Int))))], []⟩ (by kernel_rfl) ?_
  rcases ite_some h with ⟨hc1, h⟩ | ⟨hc1, h⟩
  ·
   refine ji_condT rfl hc1 ?_
   refine ji_block ?_
   obtain ⟨x, h_x, h⟩ := bnd h
   refine ji_region ⟨[(3, .own R_Name_Fields 35 13 [0, 14] c), (4, kI v), (5, .ptr 19 0), (8, .own R_Name_Fields 35 13 [0, 14] c), (9, kI (rv.length : Int)), (10, kI v)], [⟨19, 35, [kS x.Name, .sl R_Name_Number_Kind_Repeated_Packed_Of [13, 0, 14] x.Fields]⟩]⟩ (ro_o 1 [.own R_Name_Fields 35 13 [0, 14] c, kI v] ⟨[(3, .own R_Name_Fields 35 13 [0, 14] c), (8, .own R_Name_Fields 35 13 [0, 14] c), (9, kI (rv.length : Int)), (10, kI v), (12, kI v), (13, .ep R_Name_Fields [13, 0, 14] x 0)], []⟩ rfl (lo_ix rfl zet23.el (isSl_own _ _ _ _ _) h_x) rfl (by kernel_rfl) (ro_o 0 [.ep R_Name_Fields [13, 0, 14] x 0] ⟨[(3, .own R_Name_Fields 35 13 [0, 14] c), (8, .own R_Name_Fields 35 13 [0, 14] c), (9, kI (rv.length : Int)), (10, kI v), (12, kI v), (14, .rc R_Name_Fields [13, 0, 14] x)], []⟩ rfl (lo_ldr rfl ⟨Try.isAgg35, Try.sizeOf35⟩) rfl (by kernel_rfl) (ro_o 0 [] ⟨[(3, .own R_Name_Fields 35 13 [0, 14] c), (5, .ptr 19 0), (8, .own R_Name_Fields 35 13 [0, 14] c), (9, kI (rv.length : Int)), (10, kI v), (12, kI v), (14, .rc R_Name_Fields [13, 0, 14] x)], [⟨19, 35, [kS [], kN]⟩]⟩ rfl (lo_alloc 19 [kS [], kN] rfl Try.zeroValue35 rfl) rfl (by kernel_rfl) (ro_obz 1 [.ptr 19 0, .rc R_Name_Fields [13, 0, 14] x] [⟨19, 35, [kS [], kN]⟩] rfl (lo_str (r := R_Name_Fields) (b := ⟨19, 35, [kS [], kN]⟩) (off := 0) [kS x.Name, .sl R_Name_Number_Kind_Repeated_Packed_Of [13, 0, 14] x.Fields] rfl Try.sizeOf35 rfl rfl rfl rfl) rfl rfl (by kernel_rfl))))) ?_
   obtain ⟨rv2, h_rv2, h⟩ := bnd h
   obtain ⟨x2, h_x2, h⟩ := bnd h
   refine ji_region ⟨[(3, .own R_Name_Fields 35 13 [0, 14, 20] (c.set (Int.toNat v) (⟨x2.Name, rv2⟩ : T_Name_Fields))), (8, .own R_Name_Fields 35 13 [0, 14, 20] (c.set (Int.toNat v) (⟨x2.Name, rv2⟩ : T_Name_Fields))), (9, kI (rv.length : Int)), (10, kI v)], []⟩ (ro_o 4 [.sl R_Name_Number_Kind_Repeated_Packed_Of [13, 0, 14] x.Fields] ⟨[(3, .own R_Name_Fields 35 13 [0, 14] c), (8, .own R_Name_Fields 35 13 [0, 14] c), (9, kI (rv.length : Int)), (10, kI v), (15, .own R_Name_Fields 35 13 [0, 14] c), (16, kI v), (19, .own R_Name_Number_Kind_Repeated_Packed_Of 50 20 [] rv2)], []⟩ rfl (lo_call [.sl R_Name_Number_Kind_Repeated_Packed_Of [13, 0, 14] x.Fields] [13, 0, 14] 18 rfl Try.call38 (slices_Clone___api_Field_api_Field__ok h_rv2) rfl rfl rfl rfl rfl) rfl (by kernel_rfl) (ro_o 0 [.own R_Name_Fields 35 13 [0, 14] c, kI v] ⟨[(3, .own R_Name_Fields 35 13 [0, 14] c), (8, .own R_Name_Fields 35 13 [0, 14] c), (9, kI (rv.length : Int)), (10, kI v), (19, .own R_Name_Number_Kind_Repeated_Packed_Of 50 20 [] rv2), (20, .ptr 13 (Int.toNat v * R_Name_Fields.size))], []⟩ rfl (lo_ixo rfl zet23.el h_x2) rfl (by kernel_rfl) (ro_pk 1 ⟨[(3, .own R_Name_Fields 35 13 [0, 14] c), (8, .own R_Name_Fields 35 13 [0, 14] c), (9, kI (rv.length : Int)), (10, kI v), (19, .own R_Name_Number_Kind_Repeated_Packed_Of 50 20 [] rv2), (21, .ptr 13 ((Int.toNat v * R_Name_Fields.size) + 1))], []⟩ (by kernel_rfl) (ro_set (r := R_Name_Fields) (e := 35) (C := [0, 14]) (xs := c) [3, 8] (Int.toNat v) 1 x2 (⟨x2.Name, rv2⟩ : T_Name_Fields) [0, 14, 20] rfl rfl rfl rfl rfl rfl Try.sizeOf33 rfl (by kernel_rfl) rfl (idx_get h_x2) rfl rfl rfl (ro_z (by kernel_rfl)))))) ?_
   refine ji_end ?_
   refine ji_rz ⟨[(3, .own R_Name_Fields 35 13 [0, 14, 20] (c.set (Int.toNat v) (⟨x2.Name, rv2⟩ : T_Name_Fields))), (8, .own R_Name_Fields 35 13 [0, 14, 20] (c.set (Int.toNat v) (⟨x2.Name, rv2⟩ : T_Name_Fields))), (9, kI (rv.length : Int)), (10, kI (IntKind.i64.wrap (v + 1)))], []⟩ (by kernel_rfl) ?_
   obtain rfl := sj h
   refine je_nil ?_
   refine le_px ⟨[(3, .own R_Name_Fields 35 13 [0, 14, 20] (c.set (Int.toNat v) (⟨x2.Name, rv2⟩ : T_Name_Fields))), (8, .own R_Name_Fields 35 13 [0, 14, 20] (c.set (Int.toNat v) (⟨x2.Name, rv2⟩ : T_Name_Fields))), (9, kI (rv.length : Int)), (10, kI (IntKind.i64.wrap (v + 1)))], []⟩ (by kernel_rfl) (le_rn 20 14 rfl (le_px ⟨[(3, .own R_Name_Fields 35 13 [0, 14, 14] (c.set (Int.toNat v) (⟨x2.Name, rv2⟩ : T_Name_Fields))), (8, .own R_Name_Fields 35 13 [0, 14, 14] (c.set (Int.toNat v) (⟨x2.Name, rv2⟩ : T_Name_Fields))), (9, kI (rv.length : Int)), (10, kI (IntKind.i64.wrap (v + 1)))], []⟩ (by kernel_rfl) ?_))
   refine le_at 3 (.own R_Name_Fields 35 13 [0, 14] (c.set (Int.toNat v) (⟨x2.Name, rv2⟩ : T_Name_Fields))) rfl (le_own _ _ _ _ _ _ rfl rfl) ?_
   refine le_at 8 (.own R_Name_Fields 35 13 [0, 14] (c.set (Int.toNat v) (⟨x2.Name, rv2⟩ : T_Name_Fields))) rfl (le_own _ _ _ _ _ _ rfl rfl) ?_
   exact le_z (by kernel_rfl)
  refine ji_condF rfl hc1 ?_
  obtain rfl := sj h
  exact je_out' rfl (le_z (by kernel_rfl))
 ·
  refine le_at 3 (.own R_Name_Fields 35 13 [0, 14] rv) rfl (le_own _ _ _ _ _ _ rfl rfl) ?_
  refine le_at 8 (.own R_Name_Fields 35 13 [0, 14] rv) rfl (le_own _ _ _ _ _ _ rfl rfl) ?_
  exact le_z (by kernel_rfl)
 refine k_exit _ rfl ?_
 refine ji_rz ⟨[(2, .own R_Name_Fields 35 13 [0, 14] q)], []⟩ (by kernel_rfl) ?_
 obtain rfl := sj h
 refine je_ret ?_
 refine le_px ⟨[(2, .own R_Name_Fields 35 13 [0, 14] q)], []⟩ (by kernel_rfl) (le_rn 13 2 rfl (le_px ⟨[(2, .own R_Name_Fields 35 2 [0, 14] q)], []⟩ (by kernel_rfl) ?_))
 refine le_px ⟨[(2, .own R_Name_Fields 35 2 [0, 14] q)], []⟩ (by kernel_rfl) (le_rn 14 3 rfl (le_px ⟨[(2, .own R_Name_Fields 35 2 [0, 3] q)], []⟩ (by kernel_rfl) ?_))
 exact le_z (by kernel_rfl)
end Go.Proofs.Ytnchbppkppbflaa
