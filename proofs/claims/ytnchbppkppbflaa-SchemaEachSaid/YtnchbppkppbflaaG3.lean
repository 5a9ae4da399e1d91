/-
  The Go functions do what the plain functions say. No condition.
-/
import Derived.Test.YtnchbppkppbflaaG1
import Derived.Test.YtnchbppkppbflaaG2
import Derived.Test.YtnchbppkppbflaaY
namespace Go.Proofs.Ytnchbppkppbflaa
open Go Go.RowKit
set_option linter.unusedVariables false
set_option maxRecDepth 100000
theorem kind_All_ok  {r : (List Int)} (h : kind_All = some r) : FnOk Try.prog 22 [] [.own (Rp.int .i64) 3 2 [] r] := by
 refine fn_intro' (E := ⟨[(0, .own (Rp.int .i64) 3 2 [] r)], []⟩) 4 Try.func22 rfl rfl rfl ⟨rfl, trivial⟩ (fun Xt => ?_)
 refine ji_start ?_
 refine ji_le (E' := ⟨[], []⟩) (fun _ _ _ hs => hs) ?_
 unfold kind_All at h
 refine ji_rz ⟨[], []⟩ (by kernel_rfl) ?_
 obtain ⟨rv, h_rv, h⟩ := bnd h
 obtain ⟨v, h_v, h⟩ := bnd h
 refine ji_region ⟨[(0, .own (Rp.int .i64) 3 14 [] v)], []⟩ (ro_o 0 [] ⟨[(1, .om (Rp.int .i64) R_name_wire 13 [] rv)], []⟩ rfl (lo_call [] [1] 11 rfl Try.call41 (kind_kinds_ok h_rv) rfl rfl rfl rfl rfl) rfl (by kernel_rfl) (ro_pk 0 ⟨[(1, .om (Rp.int .i64) R_name_wire 13 [] rv)], []⟩ (by kernel_rfl) (ro_skeys (rv := R_name_wire) (m := rv) 14 sk40_39 rfl rfl rfl rfl rfl rfl Try.call40 Try.call39 rfl (isMp_om _ _ _ _ _) h_v rfl (ro_z (by kernel_rfl))))) ?_
 obtain rfl := sj h
 refine je_ret ?_
 refine le_px ⟨[(0, .own (Rp.int .i64) 3 14 [] v)], []⟩ (by kernel_rfl) (le_rn 14 2 rfl (le_px ⟨[(0, .own (Rp.int .i64) 3 2 [] v)], []⟩ (by kernel_rfl) ?_))
 exact le_z (by kernel_rfl)
theorem schema_isName_ok {name : Str} {r : Bool} (h : schema_isName name = some r) : FnOk Try.prog 42 [kS name] [kB r] := by
 refine fn_intro' (E := ⟨[(2, kB r)], []⟩) 34 Try.func42 rfl rfl rfl ⟨rfl, trivial⟩ (fun Xt => ?_)
 refine ji_start ?_
 refine ji_le (E' := ⟨[(0, kS name)], []⟩) (fun _ _ _ hs => hs) ?_
 unfold schema_isName at h
 refine ji_rz ⟨[(0, kS name)], []⟩ (by kernel_rfl) ?_
 obtain ⟨g, h_g, h⟩ := bnd h
 refine ji_region ⟨[(0, kS name), (15, kB g)], []⟩ ?_ ?_
 ·
  refine (ro_sp 3 6 (name == []) ⟨[(0, kS name), (6, kB (name == []))], []⟩ (by kernel_rfl) rfl (fun hc1 => ?_) (fun hc1 => ?_))
  ·
   replace h_g := iteT h_g hc1
   obtain rfl := sj h_g
   exact (ro_z (by kernel_rfl))
  replace h_g := iteF h_g hc1
  refine (ro_sp 5 11 (decide ((name.length : Int) > 60)) ⟨[(0, kS name), (11, kB (decide ((name.length : Int) > 60)))], []⟩ (by kernel_rfl) rfl (fun hc2 => ?_) (fun hc2 => ?_))
  ·
   replace h_g := iteT h_g hc2
   obtain rfl := sj h_g
   exact (ro_z (by kernel_rfl))
  replace h_g := iteF h_g hc2
  obtain ⟨c, h_c, h_g⟩ := bnd h_g
  obtain ⟨rv, h_rv, h_g⟩ := bnd h_g
  obtain rfl := sj h_g
  exact (ro_o 1 [kS name, kI 0] ⟨[(0, kS name), (11, kB false), (13, k8 (c.toNat : Int))], []⟩ rfl (lo_ixs rfl Try.underlying9 h_c) rfl (by kernel_rfl) (ro_oz 0 [k8 (c.toNat : Int)] rfl (lo_call [k8 (c.toNat : Int)] [1] 9 rfl Try.call56 (schema_isDigit_ok h_rv) rfl rfl rfl rfl rfl) rfl (by kernel_rfl)))
 rcases ite_some h with ⟨hc3, h⟩ | ⟨hc3, h⟩
 ·
  refine ji_condT rfl hc3 ?_
  refine ji_rz ⟨[(2, kB false)], []⟩ (by kernel_rfl) ?_
  obtain rfl := sj h
  exact je_ret (le_z (by kernel_rfl))
 refine ji_condF rfl hc3 ?_
 refine ji_rz ⟨[(0, kS name), (17, kI (name.length : Int)), (18, kI 0)], []⟩ (by kernel_rfl) ?_
 refine ji_block ?_
 obtain ⟨q, h_q, h⟩ := bnd h
 refine je_loop (fun s : Int => schema_isName_b1 name s) (fun s => ⟨[(0, kS name), (17, kI (name.length : Int)), (18, kI s)], []⟩) (fun o e a w => match o with | (.inl v_) => e = .exit 0 ∧ Sx ⟨⟨34, []⟩, Xt, false, #[]⟩ ⟨[], []⟩ a w | (.inr v_) => e = .ret ∧ Sx ⟨⟨34, []⟩, Xt, false, #[]⟩ ⟨[(2, kB false)], []⟩ a w) ?_ h_q (le_z (by kernel_rfl)) ?_
 ·
  clear h
  intro v2 o h
  refine ji_start ?_
  refine ji_le (E' := ⟨[(0, kS name), (17, kI (name.length : Int)), (18, kI v2)], []⟩) (fun _ _ _ hs => hs) ?_
  replace h : schema_isName_b1 name v2 = some o := h
  unfold schema_isName_b1 at h
  refine ji_rz ⟨[(0, kS name), (17, kI (name.length : Int)), (18, kI v2), (19, kB (decide (v2 < (name.length : Int))))], []⟩ (by kernel_rfl) ?_
  rcases ite_some h with ⟨hc4, h⟩ | ⟨hc4, h⟩
  ·
   refine ji_condT rfl hc4 ?_
   refine ji_block ?_
   refine ji_rz ⟨[(0, kS name), (3, kI v2), (17, kI (name.length : Int)), (18, kI v2)], []⟩ (by kernel_rfl) ?_
   obtain ⟨g2, h_g2, h⟩ := bnd h
   refine ji_region ⟨[(0, kS name), (17, kI (name.length : Int)), (18, kI v2), (32, kB g2)], []⟩ ?_ ?_
   ·
    obtain ⟨c2, h_c2, h_g2⟩ := bnd h_g2
    obtain ⟨rv2, h_rv2, h_g2⟩ := bnd h_g2
    refine (ro_o 2 [kS name, kI v2] ⟨[(0, kS name), (3, kI v2), (17, kI (name.length : Int)), (18, kI v2), (23, k8 (c2.toNat : Int))], []⟩ rfl (lo_ixs rfl Try.underlying9 h_c2) rfl (by kernel_rfl) (ro_o 0 [k8 (c2.toNat : Int)] ⟨[(0, kS name), (3, kI v2), (17, kI (name.length : Int)), (18, kI v2), (24, kB rv2)], []⟩ rfl (lo_call [k8 (c2.toNat : Int)] [1] 10 rfl Try.call57 (schema_isLetter_ok h_rv2) rfl rfl rfl rfl rfl) rfl (by kernel_rfl) (ro_sp 2 26 (!rv2) ⟨[(0, kS name), (3, kI v2), (17, kI (name.length : Int)), (18, kI v2), (26, kB (!rv2))], []⟩ (by kernel_rfl) rfl (fun hc5 => ?_) (fun hc5 => ?_))))
    ·
     replace h_g2 := iteT h_g2 hc5
     obtain ⟨c3, h_c3, h_g2⟩ := bnd h_g2
     obtain ⟨rv3, h_rv3, h_g2⟩ := bnd h_g2
     obtain rfl := sj h_g2
     exact (ro_o 2 [kS name, kI v2] ⟨[(0, kS name), (17, kI (name.length : Int)), (18, kI v2), (26, kB true), (29, k8 (c3.toNat : Int))], []⟩ rfl (lo_ixs rfl Try.underlying9 h_c3) rfl (by kernel_rfl) (ro_oz 0 [k8 (c3.toNat : Int)] rfl (lo_call [k8 (c3.toNat : Int)] [1] 10 rfl Try.call56 (schema_isDigit_ok h_rv3) rfl rfl rfl rfl rfl) rfl (by kernel_rfl)))
    replace h_g2 := iteF h_g2 hc5
    obtain rfl := sj h_g2
    exact (ro_z (by kernel_rfl))
   rcases ite_some h with ⟨hc6, h⟩ | ⟨hc6, h⟩
   ·
    refine ji_condT rfl hc6 ?_
    refine ji_rz ⟨[(2, kB false)], []⟩ (by kernel_rfl) ?_
    obtain rfl := sj h
    exact je_ret' (le_z (by kernel_rfl))
   refine ji_condF rfl hc6 ?_
   refine ji_end ?_
   refine ji_rz ⟨[(0, kS name), (17, kI (name.length : Int)), (18, kI (IntKind.i64.wrap (v2 + 1)))], []⟩ (by kernel_rfl) ?_
   obtain rfl := sj h
   exact je_nil (le_z (by kernel_rfl))
  refine ji_condF rfl hc4 ?_
  obtain rfl := sj h
  exact je_out' rfl (le_z (by kernel_rfl))
 rcases q with u | u2
 ·
  refine k_exit _ rfl ?_
  refine ji_rz ⟨[(2, kB true)], []⟩ (by kernel_rfl) ?_
  obtain rfl := sj h
  exact je_ret (le_z (by kernel_rfl))
 obtain rfl := sj h
 exact ke_ret (le_z (by kernel_rfl))
theorem slices_Contains___int_int__ok {sv : (List Int)} {v : Int} {r : Bool} (h : slices_Contains___int_int_ sv v = some r) : FnOk Try.prog 44 [.sl (Rp.int .i64) [0] sv, kI v] [kB r] := by
 refine fn_intro' (E := ⟨[(4, kB r)], []⟩) 9 Try.func44 rfl rfl rfl ⟨rfl, trivial⟩ (fun Xt => ?_)
 refine ji_start ?_
 refine ji_le (E' := ⟨[(0, .sl (Rp.int .i64) [0] sv), (1, kI v)], []⟩) (fun _ _ _ hs => hs) ?_
 unfold slices_Contains___int_int_ at h
 refine ji_rz ⟨[(0, .sl (Rp.int .i64) [0] sv), (1, kI v)], []⟩ (by kernel_rfl) ?_
 obtain ⟨rv, h_rv, h⟩ := bnd h
 refine ji_region ⟨[(4, kB (decide (rv ≥ 0)))], []⟩ (ro_oz 2 [.sl (Rp.int .i64) [0] sv, kI v] rfl (lo_call [.sl (Rp.int .i64) [0] sv, kI v] [0] 9 rfl Try.call58 (slices_Index___int_int__ok h_rv) rfl rfl rfl rfl rfl) rfl (by kernel_rfl)) ?_
 obtain rfl := sj h
 exact je_ret (le_z (by kernel_rfl))
theorem kind_Wire_ok {k : Int} {r : (Int × Int)} (h : kind_Wire k = some r) : FnOk Try.prog 65 [kI k] [kI r.1, k8 r.2] := by
 refine fn_intro' (E := ⟨[(2, kI r.1), (3, k8 r.2)], []⟩) 16 Try.func65 rfl rfl rfl ⟨rfl, rfl, trivial⟩ (fun Xt => ?_)
 refine ji_start ?_
 refine ji_le (E' := ⟨[(0, kI k)], []⟩) (fun _ _ _ hs => hs) ?_
 unfold kind_Wire at h
 refine ji_rz ⟨[(0, kI k)], []⟩ (by kernel_rfl) ?_
 obtain ⟨rv, h_rv, h⟩ := bnd h
 refine ji_region ⟨[(4, .ptr 12 0), (5, kB ((mget rv k).isSome))], [⟨12, 75, [kS (((mget rv k).getD (⟨[], 0⟩ : T_name_wire)).name), kI (((mget rv k).getD (⟨[], 0⟩ : T_name_wire)).wire)]⟩]⟩ (ro_o 0 [] ⟨[(0, kI k), (7, .om (Rp.int .i64) R_name_wire 11 [] rv)], []⟩ rfl (lo_call [] [1] 9 rfl Try.call41 (kind_kinds_ok h_rv) rfl rfl rfl rfl rfl) rfl (by kernel_rfl) (ro_o 1 [.om (Rp.int .i64) R_name_wire 11 [] rv, kI k] ⟨[(9, .tup [.rc R_name_wire [11] ((mget rv k).getD (⟨[], 0⟩ : T_name_wire)), kB ((mget rv k).isSome)])], []⟩ rfl (lo_mget2 (rk := (Rp.int .i64)) (rv := R_name_wire) (m := rv) (k := k) (.rc R_name_wire [11] ((mget rv k).getD (⟨[], 0⟩ : T_name_wire))) rfl mapt73 (isMp_om _ _ _ _ _) (asV_lf rfl rfl) (elAV_rc rfl)) rfl (by kernel_rfl) (ro_o 3 [] ⟨[(4, .ptr 12 0), (10, .rc R_name_wire [11] ((mget rv k).getD (⟨[], 0⟩ : T_name_wire))), (11, kB ((mget rv k).isSome))], [⟨12, 75, [kS [], kI 0]⟩]⟩ rfl (lo_alloc 12 [kS [], kI 0] rfl Try.zeroValue75 rfl) rfl (by kernel_rfl) (ro_obz 0 [.ptr 12 0, .rc R_name_wire [11] ((mget rv k).getD (⟨[], 0⟩ : T_name_wire))] [⟨12, 75, [kS [], kI 0]⟩] rfl (lo_str (r := R_name_wire) (b := ⟨12, 75, [kS [], kI 0]⟩) (off := 0) [kS (((mget rv k).getD (⟨[], 0⟩ : T_name_wire)).name), kI (((mget rv k).getD (⟨[], 0⟩ : T_name_wire)).wire)] rfl Try.sizeOf75 rfl rfl rfl rfl) rfl rfl (by kernel_rfl))))) ?_
 refine ji_rz ⟨[(4, .ptr 12 0), (13, kB (!(mget rv k).isSome))], [⟨12, 75, [kS (((mget rv k).getD (⟨[], 0⟩ : T_name_wire)).name), kI (((mget rv k).getD (⟨[], 0⟩ : T_name_wire)).wire)]⟩]⟩ (by kernel_rfl) ?_
 rcases ite_some h with ⟨hc1, h⟩ | ⟨hc1, h⟩
 ·
  refine ji_condT rfl hc1 ?_
  refine ji_rz ⟨[(2, kI 0), (3, k8 2)], []⟩ (by kernel_rfl) ?_
  obtain rfl := sj h
  exact je_ret (le_z (by kernel_rfl))
 refine ji_condF rfl hc1 ?_
 refine ji_rz ⟨[(2, kI (((mget rv k).getD (⟨[], 0⟩ : T_name_wire)).wire)), (3, k8 0)], []⟩ (by kernel_rfl) ?_
 obtain rfl := sj h
 exact je_ret (le_z (by kernel_rfl))
theorem darningref07_Fault_ok {sv : (List T_Name_Fields)} {i : Int} {k : Int} {r : Int} (h : darningref07_Fault sv i k = some r) : FnOk Try.prog 26 [.sl R_Name_Fields [0] sv, kI i, kI k] [kI r] := by
 refine fn_intro' (E := ⟨[(6, kI r)], []⟩) 119 Try.func26 rfl rfl rfl ⟨rfl, trivial⟩ (fun Xt => ?_)
 refine ji_start ?_
 refine ji_le (E' := ⟨[(0, .sl R_Name_Fields [0] sv), (1, kI i), (2, kI k)], []⟩) (fun _ _ _ hs => hs) ?_
 unfold darningref07_Fault at h
 refine ji_rz ⟨[(0, .sl R_Name_Fields [0] sv), (1, kI i), (2, kI k)], []⟩ (by kernel_rfl) ?_
 obtain ⟨x, h_x, h⟩ := bnd h
 obtain ⟨x2, h_x2, h⟩ := bnd h
 refine ji_region ⟨[(0, .sl R_Name_Fields [0] sv), (1, kI i), (2, kI k), (7, .ptr 11 0)], [⟨11, 50, [kS x2.Name, kI x2.Number, kI x2.Kind, kB x2.Repeated, kB x2.Packed, kI x2.Of]⟩]⟩ (ro_o 2 [.sl R_Name_Fields [0] sv, kI i] ⟨[(0, .sl R_Name_Fields [0] sv), (1, kI i), (2, kI k), (13, .ep R_Name_Fields [0] x 0)], []⟩ rfl (lo_ix rfl zet23.el (isSl_sl _ _ _) h_x) rfl (by kernel_rfl) (ro_o 1 [.ep R_Name_Fields [0] x 1] ⟨[(0, .sl R_Name_Fields [0] sv), (1, kI i), (2, kI k), (15, .sl R_Name_Number_Kind_Repeated_Packed_Of [0] x.Fields)], []⟩ rfl (lo_lds R_Name_Number_Kind_Repeated_Packed_Of x.Fields rfl rfl rfl) rfl (by kernel_rfl) (ro_o 1 [.sl R_Name_Number_Kind_Repeated_Packed_Of [0] x.Fields, kI k] ⟨[(0, .sl R_Name_Fields [0] sv), (1, kI i), (2, kI k), (17, .ep R_Name_Number_Kind_Repeated_Packed_Of [0] x2 0)], []⟩ rfl (lo_ix rfl zet33.el (isSl_sl _ _ _) h_x2) rfl (by kernel_rfl) (ro_o 0 [.ep R_Name_Number_Kind_Repeated_Packed_Of [0] x2 0] ⟨[(0, .sl R_Name_Fields [0] sv), (1, kI i), (2, kI k), (18, .rc R_Name_Number_Kind_Repeated_Packed_Of [0] x2)], []⟩ rfl (lo_ldr rfl ⟨Try.isAgg50, Try.sizeOf50⟩) rfl (by kernel_rfl) (ro_o 0 [] ⟨[(0, .sl R_Name_Fields [0] sv), (1, kI i), (2, kI k), (7, .ptr 11 0), (18, .rc R_Name_Number_Kind_Repeated_Packed_Of [0] x2)], [⟨11, 50, [kS [], kI 0, kI 0, kB false, kB false, kI 0]⟩]⟩ rfl (lo_alloc 11 [kS [], kI 0, kI 0, kB false, kB false, kI 0] rfl Try.zeroValue50 rfl) rfl (by kernel_rfl) (ro_obz 0 [.ptr 11 0, .rc R_Name_Number_Kind_Repeated_Packed_Of [0] x2] [⟨11, 50, [kS [], kI 0, kI 0, kB false, kB false, kI 0]⟩] rfl (lo_str (r := R_Name_Number_Kind_Repeated_Packed_Of) (b := ⟨11, 50, [kS [], kI 0, kI 0, kB false, kB false, kI 0]⟩) (off := 0) [kS x2.Name, kI x2.Number, kI x2.Kind, kB x2.Repeated, kB x2.Packed, kI x2.Of] rfl Try.sizeOf50 rfl rfl rfl rfl) rfl rfl (by kernel_rfl))))))) ?_
 refine ji_rz ⟨[(0, .sl R_Name_Fields [0] sv), (1, kI i), (2, kI k), (7, .ptr 11 0), (8, kB false), (9, kB false)], [⟨11, 50, [kS x2.Name, kI x2.Number, kI x2.Kind, kB x2.Repeated, kB x2.Packed, kI x2.Of]⟩]⟩ (by kernel_rfl) ?_
 refine ji_rz ⟨[(0, .sl R_Name_Fields [0] sv), (1, kI i), (2, kI k), (7, .ptr 11 0), (8, kB false), (9, kB false), (10, kI 0)], [⟨11, 50, [kS x2.Name, kI x2.Number, kI x2.Kind, kB x2.Repeated, kB x2.Packed, kI x2.Of]⟩]⟩ (by kernel_rfl) ?_
 refine ji_block ?_
 obtain ⟨q, h_q, h⟩ := bnd h
 refine je_loop (fun s : (Bool × Bool × Int) => darningref07_Fault_b1 i k sv x2 s.1 s.2.1 s.2.2) (fun s => ⟨[(0, .sl R_Name_Fields [0] sv), (1, kI i), (2, kI k), (7, .ptr 11 0), (8, kB s.1), (9, kB s.2.1), (10, kI s.2.2)], [⟨11, 50, [kS x2.Name, kI x2.Number, kI x2.Kind, kB x2.Repeated, kB x2.Packed, kI x2.Of]⟩]⟩) (fun o e a w => e = .exit 0 ∧ Sx ⟨⟨119, []⟩, Xt, false, #[]⟩ ⟨[(0, .sl R_Name_Fields [0] sv), (7, .ptr 11 0), (8, kB o.1), (9, kB o.2)], [⟨11, 50, [kS x2.Name, kI x2.Number, kI x2.Kind, kB x2.Repeated, kB x2.Packed, kI x2.Of]⟩]⟩ a w) ?_ h_q (le_z (by kernel_rfl)) ?_
 ·
  clear h
  intro s o h
  obtain ⟨name, number, j⟩ := s
  refine ji_start ?_
  refine ji_le (E' := ⟨[(0, .sl R_Name_Fields [0] sv), (1, kI i), (2, kI k), (7, .ptr 11 0), (8, kB name), (9, kB number), (10, kI j)], [⟨11, 50, [kS x2.Name, kI x2.Number, kI x2.Kind, kB x2.Repeated, kB x2.Packed, kI x2.Of]⟩]⟩) (fun _ _ _ hs => hs) ?_
  replace h : darningref07_Fault_b1 i k sv x2 name number j = some o := h
  unfold darningref07_Fault_b1 at h
  refine ji_rz ⟨[(0, .sl R_Name_Fields [0] sv), (1, kI i), (2, kI k), (7, .ptr 11 0), (8, kB name), (9, kB number), (10, kI j), (21, kB (decide (j < k)))], [⟨11, 50, [kS x2.Name, kI x2.Number, kI x2.Kind, kB x2.Repeated, kB x2.Packed, kI x2.Of]⟩]⟩ (by kernel_rfl) ?_
  rcases ite_some h with ⟨hc1, h⟩ | ⟨hc1, h⟩
  ·
   refine ji_condT rfl hc1 ?_
   refine ji_block ?_
   obtain ⟨g, h_g, h⟩ := bnd h
   refine ji_join (R := fun e a w => e = .normal ∧ Sx ⟨⟨119, []⟩, Xt, false, #[]⟩ ⟨[(0, .sl R_Name_Fields [0] sv), (1, kI i), (2, kI k), (7, .ptr 11 0), (8, kB g), (9, kB number), (10, kI j)], [⟨11, 50, [kS x2.Name, kI x2.Number, kI x2.Kind, kB x2.Repeated, kB x2.Packed, kI x2.Of]⟩]⟩ a w) ?_ (k_norm ?_)
   ·
    refine ji_start ?_
    rcases Bool.eq_false_or_eq_true name with hc2 | hc2
    ·
     replace h_g := iteT h_g hc2
     obtain rfl := sj h_g
     refine ji_draw ⟨[(0, .sl R_Name_Fields [0] sv), (1, kI i), (2, kI k), (7, .ptr 11 0), (8, kB true), (9, kB number), (10, kI j)], [⟨11, 50, [kS x2.Name, kI x2.Number, kI x2.Kind, kB x2.Repeated, kB x2.Packed, kI x2.Of]⟩]⟩ [.ev, .ex [] [] [] (kB true) []] [⟨[(.tmp 24, kB name)], [], []⟩] [0, 1, 2, 7, 8, 9, 10] [11] mixed (by kernel_rfl) (by exact (lw_e (lw_x (lo_evb ⟨[(24, kB name)], []⟩ (by kernel_rfl) hc2) lw_0))) ?_
     exact je_nil (le_z (by kernel_rfl))
    replace h_g := iteF h_g hc2
    obtain ⟨x3, h_x3, h_g⟩ := bnd h_g
    obtain ⟨x4, h_x4, h_g⟩ := bnd h_g
    obtain rfl := sj h_g
    refine ji_draw ⟨[(0, .sl R_Name_Fields [0] sv), (1, kI i), (2, kI k), (7, .ptr 11 0), (8, kB (x4.Name == x2.Name)), (9, kB number), (10, kI j)], [⟨11, 50, [kS x2.Name, kI x2.Number, kI x2.Kind, kB x2.Repeated, kB x2.Packed, kI x2.Of]⟩]⟩ [.ev, .ex [] [] [] (kB false) [], .ev, .ev, .ex [] [] [] (.ep R_Name_Fields [0] x3 0) [], .ev, .ex [] [] [] (.sl R_Name_Number_Kind_Repeated_Packed_Of [0] x3.Fields) [], .ev, .ex [] [] [] (.ep R_Name_Number_Kind_Repeated_Packed_Of [0] x4 0) []] [⟨[(.tmp 24, kB name)], [], []⟩, ⟨[(.tmp 26, .sl R_Name_Fields [0] sv), (.tmp 27, kI i)], [], []⟩, ⟨[(.tmp 29, .ep R_Name_Fields [0] x3 1)], [], []⟩, ⟨[(.tmp 30, .sl R_Name_Number_Kind_Repeated_Packed_Of [0] x3.Fields), (.tmp 31, kI j)], [], []⟩] [0, 1, 2, 7, 8, 9, 10] [11] mixed (by kernel_rfl) (by exact (lw_e (lw_x (lo_evb ⟨[(24, kB name)], []⟩ (by kernel_rfl) hc2) (lw_e (lw_e (lw_x (lo_as (lo_ix rfl zet23.el (isSl_sl _ _ _) h_x3) rfl) (lw_e (lw_x (lo_as (lo_lds R_Name_Number_Kind_Repeated_Packed_Of x3.Fields rfl rfl rfl) rfl) (lw_e (lw_x (lo_as (lo_ix rfl zet33.el (isSl_sl _ _ _) h_x4) rfl) lw_0)))))))))) ?_
    exact je_nil (le_z (by kernel_rfl))
   obtain ⟨g2, h_g2, h⟩ := bnd h
   refine ji_join (R := fun e a w => e = .normal ∧ Sx ⟨⟨119, []⟩, Xt, false, #[]⟩ ⟨[(0, .sl R_Name_Fields [0] sv), (1, kI i), (2, kI k), (7, .ptr 11 0), (8, kB g), (9, kB g2), (10, kI j)], [⟨11, 50, [kS x2.Name, kI x2.Number, kI x2.Kind, kB x2.Repeated, kB x2.Packed, kI x2.Of]⟩]⟩ a w) ?_ (k_norm ?_)
   ·
    refine ji_start ?_
    rcases Bool.eq_false_or_eq_true number with hc3 | hc3
    ·
     replace h_g2 := iteT h_g2 hc3
     obtain rfl := sj h_g2
     refine ji_draw ⟨[(0, .sl R_Name_Fields [0] sv), (1, kI i), (2, kI k), (7, .ptr 11 0), (8, kB g), (9, kB true), (10, kI j)], [⟨11, 50, [kS x2.Name, kI x2.Number, kI x2.Kind, kB x2.Repeated, kB x2.Packed, kI x2.Of]⟩]⟩ [.ev, .ex [] [] [] (kB true) []] [⟨[(.tmp 39, kB number)], [], []⟩] [0, 1, 2, 7, 8, 9, 10] [11] mixed (by kernel_rfl) (by exact (lw_e (lw_x (lo_evb ⟨[(39, kB number)], []⟩ (by kernel_rfl) hc3) lw_0))) ?_
     exact je_nil (le_z (by kernel_rfl))
    replace h_g2 := iteF h_g2 hc3
    obtain ⟨x5, h_x5, h_g2⟩ := bnd h_g2
    obtain ⟨x6, h_x6, h_g2⟩ := bnd h_g2
    obtain rfl := sj h_g2
    refine ji_draw ⟨[(0, .sl R_Name_Fields [0] sv), (1, kI i), (2, kI k), (7, .ptr 11 0), (8, kB g), (9, kB (x6.Number == x2.Number)), (10, kI j)], [⟨11, 50, [kS x2.Name, kI x2.Number, kI x2.Kind, kB x2.Repeated, kB x2.Packed, kI x2.Of]⟩]⟩ [.ev, .ex [] [] [] (kB false) [], .ev, .ev, .ex [] [] [] (.ep R_Name_Fields [0] x5 0) [], .ev, .ex [] [] [] (.sl R_Name_Number_Kind_Repeated_Packed_Of [0] x5.Fields) [], .ev, .ex [] [] [] (.ep R_Name_Number_Kind_Repeated_Packed_Of [0] x6 0) []] [⟨[(.tmp 39, kB number)], [], []⟩, ⟨[(.tmp 41, .sl R_Name_Fields [0] sv), (.tmp 42, kI i)], [], []⟩, ⟨[(.tmp 44, .ep R_Name_Fields [0] x5 1)], [], []⟩, ⟨[(.tmp 45, .sl R_Name_Number_Kind_Repeated_Packed_Of [0] x5.Fields), (.tmp 46, kI j)], [], []⟩] [0, 1, 2, 7, 8, 9, 10] [11] mixed (by kernel_rfl) (by exact (lw_e (lw_x (lo_evb ⟨[(39, kB number)], []⟩ (by kernel_rfl) hc3) (lw_e (lw_e (lw_x (lo_as (lo_ix rfl zet23.el (isSl_sl _ _ _) h_x5) rfl) (lw_e (lw_x (lo_as (lo_lds R_Name_Number_Kind_Repeated_Packed_Of x5.Fields rfl rfl rfl) rfl) (lw_e (lw_x (lo_as (lo_ix rfl zet33.el (isSl_sl _ _ _) h_x6) rfl) lw_0)))))))))) ?_
    exact je_nil (le_z (by kernel_rfl))
   refine ji_end ?_
   refine ji_rz ⟨[(0, .sl R_Name_Fields [0] sv), (1, kI i), (2, kI k), (7, .ptr 11 0), (8, kB g), (9, kB g2), (10, kI (IntKind.i64.wrap (j + 1)))], [⟨11, 50, [kS x2.Name, kI x2.Number, kI x2.Kind, kB x2.Repeated, kB x2.Packed, kI x2.Of]⟩]⟩ (by kernel_rfl) ?_
   obtain rfl := sj h
   exact je_nil (le_z (by kernel_rfl))
  refine ji_condF rfl hc1 ?_
  obtain rfl := sj h
  exact je_out' rfl (le_z (by kernel_rfl))
 refine k_exit _ rfl ?_
 obtain ⟨rv, h_rv, h⟩ := bnd h
 refine ji_region ⟨[(0, .sl R_Name_Fields [0] sv), (7, .ptr 11 0), (8, kB q.1), (9, kB q.2), (57, kB (!rv))], [⟨11, 50, [kS x2.Name, kI x2.Number, kI x2.Kind, kB x2.Repeated, kB x2.Packed, kI x2.Of]⟩]⟩ (ro_oz 2 [kS x2.Name] rfl (lo_call [kS x2.Name] [1] 11 rfl Try.call25 (darningref07_Name_ok h_rv) rfl rfl rfl rfl rfl) rfl (by kernel_rfl)) ?_
 rcases ite_some h with ⟨hc4, h⟩ | ⟨hc4, h⟩
 ·
  refine ji_condT rfl hc4 ?_
  refine ji_rz ⟨[(6, kI 5)], []⟩ (by kernel_rfl) ?_
  obtain rfl := sj h
  exact je_ret (le_z (by kernel_rfl))
 refine ji_condF rfl hc4 ?_
 refine ji_rz ⟨[(0, .sl R_Name_Fields [0] sv), (7, .ptr 11 0), (9, kB q.2), (58, kB q.1)], [⟨11, 50, [kS x2.Name, kI x2.Number, kI x2.Kind, kB x2.Repeated, kB x2.Packed, kI x2.Of]⟩]⟩ (by kernel_rfl) ?_
 rcases ite_some h with ⟨hc5, h⟩ | ⟨hc5, h⟩
 ·
  refine ji_condT rfl hc5 ?_
  refine ji_rz ⟨[(6, kI 6)], []⟩ (by kernel_rfl) ?_
  obtain rfl := sj h
  exact je_ret (le_z (by kernel_rfl))
 refine ji_condF rfl hc5 ?_
 refine ji_region ⟨[(0, .sl R_Name_Fields [0] sv), (7, .ptr 11 0), (9, kB q.2), (76, kB ((decide (x2.Number < 1)) || ((decide (x2.Number > 536870911)) || ((decide (x2.Number ≥ 19000)) && (decide (x2.Number < 20000))))))], [⟨11, 50, [kS x2.Name, kI x2.Number, kI x2.Kind, kB x2.Repeated, kB x2.Packed, kI x2.Of]⟩]⟩ ?_ ?_
 ·
  refine (ro_sp 4 62 (decide (x2.Number < 1)) ⟨[(0, .sl R_Name_Fields [0] sv), (7, .ptr 11 0), (9, kB q.2), (62, kB (decide (x2.Number < 1)))], [⟨11, 50, [kS x2.Name, kI x2.Number, kI x2.Kind, kB x2.Repeated, kB x2.Packed, kI x2.Of]⟩]⟩ (by kernel_rfl) rfl (fun hc6 => ?_) (fun hc6 => ?_))
  · exact (ro_zb 76 true ((decide (x2.Number < 1)) || ((decide (x2.Number > 536870911)) || ((decide (x2.Number ≥ 19000)) && (decide (x2.Number < 20000))))) (by rw [hc6] <;> rfl) (by kernel_rfl) (by kernel_rfl))
  refine (ro_sp 5 67 (decide (x2.Number > 536870911)) ⟨[(0, .sl R_Name_Fields [0] sv), (7, .ptr 11 0), (9, kB q.2), (67, kB (decide (x2.Number > 536870911)))], [⟨11, 50, [kS x2.Name, kI x2.Number, kI x2.Kind, kB x2.Repeated, kB x2.Packed, kI x2.Of]⟩]⟩ (by kernel_rfl) rfl (fun hc7 => ?_) (fun hc7 => ?_))
  · exact (ro_zb 76 true ((decide (x2.Number < 1)) || ((decide (x2.Number > 536870911)) || ((decide (x2.Number ≥ 19000)) && (decide (x2.Number < 20000))))) (by rw [hc6, hc7] <;> rfl) (by kernel_rfl) (by kernel_rfl))
  refine (ro_sp 4 71 (decide (x2.Number ≥ 19000)) ⟨[(0, .sl R_Name_Fields [0] sv), (7, .ptr 11 0), (9, kB q.2), (67, kB false), (71, kB (decide (x2.Number ≥ 19000)))], [⟨11, 50, [kS x2.Name, kI x2.Number, kI x2.Kind, kB x2.Repeated, kB x2.Packed, kI x2.Of]⟩]⟩ (by kernel_rfl) rfl (fun hc8 => ?_) (fun hc8 => ?_))
  · exact (ro_zb 76 (decide (x2.Number < 20000)) ((decide (x2.Number < 1)) || ((decide (x2.Number > 536870911)) || ((decide (x2.Number ≥ 19000)) && (decide (x2.Number < 20000))))) (by rw [hc6, hc7, hc8] <;> rfl) (by kernel_rfl) (by kernel_rfl))
  exact (ro_zb 76 false ((decide (x2.Number < 1)) || ((decide (x2.Number > 536870911)) || ((decide (x2.Number ≥ 19000)) && (decide (x2.Number < 20000))))) (by rw [hc6, hc7, hc8] <;> rfl) (by kernel_rfl) (by kernel_rfl))
 rcases ite_some h with ⟨hc9, h⟩ | ⟨hc9, h⟩
 ·
  refine ji_condT rfl hc9 ?_
  refine ji_rz ⟨[(6, kI 7)], []⟩ (by kernel_rfl) ?_
  obtain rfl := sj h
  exact je_ret (le_z (by kernel_rfl))
 refine ji_condF rfl hc9 ?_
 refine ji_rz ⟨[(0, .sl R_Name_Fields [0] sv), (7, .ptr 11 0), (77, kB q.2)], [⟨11, 50, [kS x2.Name, kI x2.Number, kI x2.Kind, kB x2.Repeated, kB x2.Packed, kI x2.Of]⟩]⟩ (by kernel_rfl) ?_
 rcases ite_some h with ⟨hc10, h⟩ | ⟨hc10, h⟩
 ·
  refine ji_condT rfl hc10 ?_
  refine ji_rz ⟨[(6, kI 8)], []⟩ (by kernel_rfl) ?_
  obtain rfl := sj h
  exact je_ret (le_z (by kernel_rfl))
 refine ji_condF rfl hc10 ?_
 obtain ⟨rv2, h_rv2, h⟩ := bnd h
 refine ji_region ⟨[(0, .sl R_Name_Fields [0] sv), (7, .ptr 11 0), (81, kB (!rv2))], [⟨11, 50, [kS x2.Name, kI x2.Number, kI x2.Kind, kB x2.Repeated, kB x2.Packed, kI x2.Of]⟩]⟩ (ro_oz 2 [kI x2.Kind] rfl (lo_call [kI x2.Kind] [1] 11 rfl Try.call47 (darningref06_Right_ok h_rv2) rfl rfl rfl rfl rfl) rfl (by kernel_rfl)) ?_
 rcases ite_some h with ⟨hc11, h⟩ | ⟨hc11, h⟩
 ·
  refine ji_condT rfl hc11 ?_
  refine ji_rz ⟨[(6, kI 9)], []⟩ (by kernel_rfl) ?_
  obtain rfl := sj h
  exact je_ret (le_z (by kernel_rfl))
 refine ji_condF rfl hc11 ?_
 obtain ⟨g3, h_g3, h⟩ := bnd h
 refine ji_region ⟨[(0, .sl R_Name_Fields [0] sv), (7, .ptr 11 0), (93, kB g3)], [⟨11, 50, [kS x2.Name, kI x2.Number, kI x2.Kind, kB x2.Repeated, kB x2.Packed, kI x2.Of]⟩]⟩ ?_ ?_
 ·
  refine (ro_sp 3 84 x2.Packed ⟨[(0, .sl R_Name_Fields [0] sv), (7, .ptr 11 0), (84, kB x2.Packed)], [⟨11, 50, [kS x2.Name, kI x2.Number, kI x2.Kind, kB x2.Repeated, kB x2.Packed, kI x2.Of]⟩]⟩ (by kernel_rfl) rfl (fun hc12 => ?_) (fun hc12 => ?_))
  ·
   replace h_g3 := iteT h_g3 hc12
   refine (ro_sp 3 87 x2.Repeated ⟨[(0, .sl R_Name_Fields [0] sv), (7, .ptr 11 0), (84, kB true), (87, kB x2.Repeated)], [⟨11, 50, [kS x2.Name, kI x2.Number, kI x2.Kind, kB x2.Repeated, kB x2.Packed, kI x2.Of]⟩]⟩ (by kernel_rfl) rfl (fun hc13 => ?_) (fun hc13 => ?_))
   ·
    replace h_g3 := iteT h_g3 hc13
    obtain ⟨rv3, h_rv3, h_g3⟩ := bnd h_g3
    obtain rfl := sj h_g3
    refine (ro_o 2 [kI x2.Kind] ⟨[(0, .sl R_Name_Fields [0] sv), (7, .ptr 11 0), (84, kB true), (87, kB true), (90, kB rv3)], [⟨11, 50, [kS x2.Name, kI x2.Number, kI x2.Kind, kB x2.Repeated, kB x2.Packed, kI x2.Of]⟩]⟩ rfl (lo_call [kI x2.Kind] [1] 11 rfl Try.call48 (darningref06_Number_ok h_rv3) rfl rfl rfl rfl rfl) rfl (by kernel_rfl) (ro_pe ⟨[(0, .sl R_Name_Fields [0] sv), (7, .ptr 11 0), (93, kB (!rv3))], [⟨11, 50, [kS x2.Name, kI x2.Number, kI x2.Kind, kB x2.Repeated, kB x2.Packed, kI x2.Of]⟩]⟩ (by kernel_rfl) ?_))
    exact le_z (by kernel_rfl)
   replace h_g3 := iteF h_g3 hc13
   obtain rfl := sj h_g3
   refine ro_pe ⟨[(0, .sl R_Name_Fields [0] sv), (7, .ptr 11 0), (93, kB (!false))], [⟨11, 50, [kS x2.Name, kI x2.Number, kI x2.Kind, kB x2.Repeated, kB x2.Packed, kI x2.Of]⟩]⟩ (by kernel_rfl) ?_
   exact le_z (by kernel_rfl)
  replace h_g3 := iteF h_g3 hc12
  obtain rfl := sj h_g3
  refine ro_pe ⟨[(0, .sl R_Name_Fields [0] sv), (7, .ptr 11 0), (93, kB false)], [⟨11, 50, [kS x2.Name, kI x2.Number, kI x2.Kind, kB x2.Repeated, kB x2.Packed, kI x2.Of]⟩]⟩ (by kernel_rfl) ?_
  exact le_z (by kernel_rfl)
 rcases ite_some h with ⟨hc14, h⟩ | ⟨hc14, h⟩
 ·
  refine ji_condT rfl hc14 ?_
  refine ji_rz ⟨[(6, kI 10)], []⟩ (by kernel_rfl) ?_
  obtain rfl := sj h
  exact je_ret (le_z (by kernel_rfl))
 refine ji_condF rfl hc14 ?_
 refine ji_region ⟨[(118, kB (if (x2.Kind == 17) then ((decide (x2.Of < 0)) || ((decide (x2.Of ≥ (sv.length : Int))) || ((x2.Kind != 17) && (x2.Of != 0)))) else ((x2.Kind != 17) && (x2.Of != 0))))], []⟩ ?_ ?_
 ·
  refine (ro_sp 4 97 (x2.Kind == 17) ⟨[(0, .sl R_Name_Fields [0] sv), (7, .ptr 11 0), (97, kB (x2.Kind == 17))], [⟨11, 50, [kS x2.Name, kI x2.Number, kI x2.Kind, kB x2.Repeated, kB x2.Packed, kI x2.Of]⟩]⟩ (by kernel_rfl) rfl (fun hc15 => ?_) (fun hc15 => ?_))
  ·
   refine (ro_sp 4 101 (decide (x2.Of < 0)) ⟨[(0, .sl R_Name_Fields [0] sv), (7, .ptr 11 0), (97, kB true), (101, kB (decide (x2.Of < 0)))], [⟨11, 50, [kS x2.Name, kI x2.Number, kI x2.Kind, kB x2.Repeated, kB x2.Packed, kI x2.Of]⟩]⟩ (by kernel_rfl) rfl (fun hc16 => ?_) (fun hc16 => ?_))
   · exact (ro_zb 118 true (if (x2.Kind == 17) then ((decide (x2.Of < 0)) || ((decide (x2.Of ≥ (sv.length : Int))) || ((x2.Kind != 17) && (x2.Of != 0)))) else ((x2.Kind != 17) && (x2.Of != 0))) (by rw [hc15, hc16] <;> rfl) (by kernel_rfl) (by kernel_rfl))
   refine (ro_sp 8 109 (decide (x2.Of ≥ (sv.length : Int))) ⟨[(7, .ptr 11 0), (109, kB (decide (x2.Of ≥ (sv.length : Int))))], [⟨11, 50, [kS x2.Name, kI x2.Number, kI x2.Kind, kB x2.Repeated, kB x2.Packed, kI x2.Of]⟩]⟩ (by kernel_rfl) rfl (fun hc17 => ?_) (fun hc17 => ?_))
   · exact (ro_zb 118 true (if (x2.Kind == 17) then ((decide (x2.Of < 0)) || ((decide (x2.Of ≥ (sv.length : Int))) || ((x2.Kind != 17) && (x2.Of != 0)))) else ((x2.Kind != 17) && (x2.Of != 0))) (by rw [hc15, hc16, hc17] <;> rfl) (by kernel_rfl) (by kernel_rfl))
   refine (ro_sp 4 113 (x2.Kind != 17) ⟨[(7, .ptr 11 0), (109, kB false), (113, kB (x2.Kind != 17))], [⟨11, 50, [kS x2.Name, kI x2.Number, kI x2.Kind, kB x2.Repeated, kB x2.Packed, kI x2.Of]⟩]⟩ (by kernel_rfl) rfl (fun hc18 => ?_) (fun hc18 => ?_))
   · exact (ro_zb 118 (x2.Of != 0) (if (x2.Kind == 17) then ((decide (x2.Of < 0)) || ((decide (x2.Of ≥ (sv.length : Int))) || ((x2.Kind != 17) && (x2.Of != 0)))) else ((x2.Kind != 17) && (x2.Of != 0))) (by rw [hc15, hc16, hc17, hc18] <;> rfl) (by kernel_rfl) (by kernel_rfl))
   exact (ro_zb 118 false (if (x2.Kind == 17) then ((decide (x2.Of < 0)) || ((decide (x2.Of ≥ (sv.length : Int))) || ((x2.Kind != 17) && (x2.Of != 0)))) else ((x2.Kind != 17) && (x2.Of != 0))) (by rw [hc15, hc16, hc17, hc18] <;> rfl) (by kernel_rfl) (by kernel_rfl))
  refine (ro_sp 16 113 (x2.Kind != 17) ⟨[(7, .ptr 11 0), (109, kB false), (113, kB (x2.Kind != 17))], [⟨11, 50, [kS x2.Name, kI x2.Number, kI x2.Kind, kB x2.Repeated, kB x2.Packed, kI x2.Of]⟩]⟩ (by kernel_rfl) rfl (fun hc19 => ?_) (fun hc19 => ?_))
  · exact (ro_zb 118 (x2.Of != 0) (if (x2.Kind == 17) then ((decide (x2.Of < 0)) || ((decide (x2.Of ≥ (sv.length : Int))) || ((x2.Kind != 17) && (x2.Of != 0)))) else ((x2.Kind != 17) && (x2.Of != 0))) (by rw [hc15, hc19] <;> rfl) (by kernel_rfl) (by kernel_rfl))
  exact (ro_zb 118 false (if (x2.Kind == 17) then ((decide (x2.Of < 0)) || ((decide (x2.Of ≥ (sv.length : Int))) || ((x2.Kind != 17) && (x2.Of != 0)))) else ((x2.Kind != 17) && (x2.Of != 0))) (by rw [hc15, hc19] <;> rfl) (by kernel_rfl) (by kernel_rfl))
 rcases ite_some h with ⟨hc20, h⟩ | ⟨hc20, h⟩
 ·
  refine ji_condT rfl hc20 ?_
  refine ji_rz ⟨[(6, kI 11)], []⟩ (by kernel_rfl) ?_
  obtain rfl := sj h
  exact je_ret (le_z (by kernel_rfl))
 refine ji_condF rfl hc20 ?_
 refine ji_rz ⟨[(6, kI 0)], []⟩ (by kernel_rfl) ?_
 obtain rfl := sj h
 exact je_ret (le_z (by kernel_rfl))
theorem slices_IndexFunc_api_Schema_api_Message___schema_Message_1_ok {sv : (List T_Name_Fields)} {v : Str} {r : Int} (h : slices_IndexFunc_api_Schema_api_Message___schema_Message_1 sv v = some r) : FnOk Try.prog 27 [.sl R_Name_Fields [0] sv, .fv 28 [.ep Rp.str [0] v 0]] [kI r] := by
 refine fn_intro' (E := ⟨[(4, kI r)], []⟩) 19 Try.func27 rfl rfl rfl ⟨rfl, trivial⟩ (fun Xt => ?_)
 refine ji_start ?_
 refine ji_le (E' := ⟨[(0, .sl R_Name_Fields [0] sv), (1, .fv 28 [.ep Rp.str [0] v 0])], []⟩) (fun _ _ _ hs => hs) ?_
 unfold slices_IndexFunc_api_Schema_api_Message___schema_Message_1 at h
 refine ji_rz ⟨[(0, .sl R_Name_Fields [0] sv), (1, .fv 28 [.ep Rp.str [0] v 0])], []⟩ (by kernel_rfl) ?_
 refine ji_rz ⟨[(0, .sl R_Name_Fields [0] sv), (1, .fv 28 [.ep Rp.str [0] v 0]), (7, kI (sv.length : Int)), (8, kI 0)], []⟩ (by kernel_rfl) ?_
 refine ji_block ?_
 obtain ⟨q, h_q, h⟩ := bnd h
 refine je_loop (fun s : Int => slices_IndexFunc_api_Schema_api_Message___schema_Message_1_b1 sv v s) (fun s => ⟨[(0, .sl R_Name_Fields [0] sv), (1, .fv 28 [.ep Rp.str [0] v 0]), (7, kI (sv.length : Int)), (8, kI s)], []⟩) (fun o e a w => match o with | (.inl v_) => e = .exit 0 ∧ Sx ⟨⟨19, []⟩, Xt, false, #[]⟩ ⟨[], []⟩ a w | (.inr v_) => e = .ret ∧ Sx ⟨⟨19, []⟩, Xt, false, #[]⟩ ⟨[(4, kI v_)], []⟩ a w) ?_ h_q (le_z (by kernel_rfl)) ?_
 ·
  clear h
  intro v2 o h
  refine ji_start ?_
  refine ji_le (E' := ⟨[(0, .sl R_Name_Fields [0] sv), (1, .fv 28 [.ep Rp.str [0] v 0]), (7, kI (sv.length : Int)), (8, kI v2)], []⟩) (fun _ _ _ hs => hs) ?_
  replace h : slices_IndexFunc_api_Schema_api_Message___schema_Message_1_b1 sv v v2 = some o := h
  unfold slices_IndexFunc_api_Schema_api_Message___schema_Message_1_b1 at h
  refine ji_rz ⟨[(0, .sl R_Name_Fields [0] sv), (1, .fv 28 [.ep Rp.str [0] v 0]), (7, kI (sv.length : Int)), (8, kI v2), (9, kB (decide (v2 < (sv.length : Int))))], []⟩ (by kernel_rfl) ?_
  rcases ite_some h with ⟨hc1, h⟩ | ⟨hc1, h⟩
  ·
   refine ji_condT rfl hc1 ?_
   refine ji_block ?_
   refine ji_rz ⟨[(0, .sl R_Name_Fields [0] sv), (1, .fv 28 [.ep Rp.str [0] v 0]), (5, kI v2), (7, kI (sv.length : Int)), (8, kI v2)], []⟩ (by kernel_rfl) ?_
   obtain ⟨x, h_x, h⟩ := bnd h
   obtain ⟨rv, h_rv, h⟩ := bnd h
   refine ji_region ⟨[(0, .sl R_Name_Fields [0] sv), (1, .fv 28 [.ep Rp.str [0] v 0]), (5, kI v2), (7, kI (sv.length : Int)), (8, kI v2), (16, kB rv)], []⟩ (ro_o 3 [.sl R_Name_Fields [0] sv, kI v2] ⟨[(0, .sl R_Name_Fields [0] sv), (1, .fv 28 [.ep Rp.str [0] v 0]), (5, kI v2), (7, kI (sv.length : Int)), (8, kI v2), (11, .fv 28 [.ep Rp.str [0] v 0]), (14, .ep R_Name_Fields [0] x 0)], []⟩ rfl (lo_ix rfl zet23.el (isSl_sl _ _ _) h_x) rfl (by kernel_rfl) (ro_o 0 [.ep R_Name_Fields [0] x 0] ⟨[(0, .sl R_Name_Fields [0] sv), (1, .fv 28 [.ep Rp.str [0] v 0]), (5, kI v2), (7, kI (sv.length : Int)), (8, kI v2), (11, .fv 28 [.ep Rp.str [0] v 0]), (15, .rc R_Name_Fields [0] x)], []⟩ rfl (lo_ldr rfl ⟨Try.isAgg35, Try.sizeOf35⟩) rfl (by kernel_rfl) (ro_oz 0 [.fv 28 [.ep Rp.str [0] v 0], .rc R_Name_Fields [0] x] rfl (lo_callv (args := [.tmp 15]) [.rc R_Name_Fields [0] x] [0] 10 rfl (isFv_fv _ _) Try.call28 (schema_Message_1_ok h_rv) rfl rfl rfl rfl rfl) rfl (by kernel_rfl)))) ?_
   rcases ite_some h with ⟨hc2, h⟩ | ⟨hc2, h⟩
   ·
    refine ji_condT rfl hc2 ?_
    refine ji_rz ⟨[(4, kI v2)], []⟩ (by kernel_rfl) ?_
    obtain rfl := sj h
    exact je_ret' (le_z (by kernel_rfl))
   refine ji_condF rfl hc2 ?_
   refine ji_end ?_
   refine ji_rz ⟨[(0, .sl R_Name_Fields [0] sv), (1, .fv 28 [.ep Rp.str [0] v 0]), (7, kI (sv.length : Int)), (8, kI (IntKind.i64.wrap (v2 + 1)))], []⟩ (by kernel_rfl) ?_
   obtain rfl := sj h
   exact je_nil (le_z (by kernel_rfl))
  refine ji_condF rfl hc1 ?_
  obtain rfl := sj h
  exact je_out' rfl (le_z (by kernel_rfl))
 rcases q with u | u2
 ·
  refine k_exit _ rfl ?_
  refine ji_rz ⟨[(4, kI (-1))], []⟩ (by kernel_rfl) ?_
  obtain rfl := sj h
  exact je_ret (le_z (by kernel_rfl))
 obtain rfl := sj h
 exact ke_ret (le_z (by kernel_rfl))
theorem slices_IndexFunc___api_Field_api_Field___schema_ByNumber_1_ok {sv : (List T_Name_Number_Kind_Repeated_Packed_Of)} {v : Int} {r : Int} (h : slices_IndexFunc___api_Field_api_Field___schema_ByNumber_1 sv v = some r) : FnOk Try.prog 49 [.sl R_Name_Number_Kind_Repeated_Packed_Of [0] sv, .fv 30 [.ep (Rp.int .i64) [0] v 0]] [kI r] := by
 refine fn_intro' (E := ⟨[(4, kI r)], []⟩) 19 Try.func49 rfl rfl rfl ⟨rfl, trivial⟩ (fun Xt => ?_)
 refine ji_start ?_
 refine ji_le (E' := ⟨[(0, .sl R_Name_Number_Kind_Repeated_Packed_Of [0] sv), (1, .fv 30 [.ep (Rp.int .i64) [0] v 0])], []⟩) (fun _ _ _ hs => hs) ?_
 unfold slices_IndexFunc___api_Field_api_Field___schema_ByNumber_1 at h
 refine ji_rz ⟨[(0, .sl R_Name_Number_Kind_Repeated_Packed_Of [0] sv), (1, .fv 30 [.ep (Rp.int .i64) [0] v 0])], []⟩ (by kernel_rfl) ?_
 refine ji_rz ⟨[(0, .sl R_Name_Number_Kind_Repeated_Packed_Of [0] sv), (1, .fv 30 [.ep (Rp.int .i64) [0] v 0]), (7, kI (sv.length : Int)), (8, kI 0)], []⟩ (by kernel_rfl) ?_
 refine ji_block ?_
 obtain ⟨q, h_q, h⟩ := bnd h
 refine je_loop (fun s : Int => slices_IndexFunc___api_Field_api_Field___schema_ByNumber_1_b1 sv v s) (fun s => ⟨[(0, .sl R_Name_Number_Kind_Repeated_Packed_Of [0] sv), (1, .fv 30 [.ep (Rp.int .i64) [0] v 0]), (7, kI (sv.length : Int)), (8, kI s)], []⟩) (fun o e a w => match o with | (.inl v_) => e = .exit 0 ∧ Sx ⟨⟨19, []⟩, Xt, false, #[]⟩ ⟨[], []⟩ a w | (.inr v_) => e = .ret ∧ Sx ⟨⟨19, []⟩, Xt, false, #[]⟩ ⟨[(4, kI v_)], []⟩ a w) ?_ h_q (le_z (by kernel_rfl)) ?_
 ·
  clear h
  intro v2 o h
  refine ji_start ?_
  refine ji_le (E' := ⟨[(0, .sl R_Name_Number_Kind_Repeated_Packed_Of [0] sv), (1, .fv 30 [.ep (Rp.int .i64) [0] v 0]), (7, kI (sv.length : Int)), (8, kI v2)], []⟩) (fun _ _ _ hs => hs) ?_
  replace h : slices_IndexFunc___api_Field_api_Field___schema_ByNumber_1_b1 sv v v2 = some o := h
  unfold slices_IndexFunc___api_Field_api_Field___schema_ByNumber_1_b1 at h
  refine ji_rz ⟨[(0, .sl R_Name_Number_Kind_Repeated_Packed_Of [0] sv), (1, .fv 30 [.ep (Rp.int .i64) [0] v 0]), (7, kI (sv.length : Int)), (8, kI v2), (9, kB (decide (v2 < (sv.length : Int))))], []⟩ (by kernel_rfl) ?_
  rcases ite_some h with ⟨hc1, h⟩ | ⟨hc1, h⟩
  ·
   refine ji_condT rfl hc1 ?_
   refine ji_block ?_
   refine ji_rz ⟨[(0, .sl R_Name_Number_Kind_Repeated_Packed_Of [0] sv), (1, .fv 30 [.ep (Rp.int .i64) [0] v 0]), (5, kI v2), (7, kI (sv.length : Int)), (8, kI v2)], []⟩ (by kernel_rfl) ?_
   obtain ⟨x, h_x, h⟩ := bnd h
   obtain ⟨rv, h_rv, h⟩ := bnd h
   refine ji_region ⟨[(0, .sl R_Name_Number_Kind_Repeated_Packed_Of [0] sv), (1, .fv 30 [.ep (Rp.int .i64) [0] v 0]), (5, kI v2), (7, kI (sv.length : Int)), (8, kI v2), (16, kB rv)], []⟩ (ro_o 3 [.sl R_Name_Number_Kind_Repeated_Packed_Of [0] sv, kI v2] ⟨[(0, .sl R_Name_Number_Kind_Repeated_Packed_Of [0] sv), (1, .fv 30 [.ep (Rp.int .i64) [0] v 0]), (5, kI v2), (7, kI (sv.length : Int)), (8, kI v2), (11, .fv 30 [.ep (Rp.int .i64) [0] v 0]), (14, .ep R_Name_Number_Kind_Repeated_Packed_Of [0] x 0)], []⟩ rfl (lo_ix rfl zet33.el (isSl_sl _ _ _) h_x) rfl (by kernel_rfl) (ro_o 0 [.ep R_Name_Number_Kind_Repeated_Packed_Of [0] x 0] ⟨[(0, .sl R_Name_Number_Kind_Repeated_Packed_Of [0] sv), (1, .fv 30 [.ep (Rp.int .i64) [0] v 0]), (5, kI v2), (7, kI (sv.length : Int)), (8, kI v2), (11, .fv 30 [.ep (Rp.int .i64) [0] v 0]), (15, .rc R_Name_Number_Kind_Repeated_Packed_Of [0] x)], []⟩ rfl (lo_ldr rfl ⟨Try.isAgg50, Try.sizeOf50⟩) rfl (by kernel_rfl) (ro_oz 0 [.fv 30 [.ep (Rp.int .i64) [0] v 0], .rc R_Name_Number_Kind_Repeated_Packed_Of [0] x] rfl (lo_callv (args := [.tmp 15]) [.rc R_Name_Number_Kind_Repeated_Packed_Of [0] x] [0] 10 rfl (isFv_fv _ _) Try.call30 (schema_ByNumber_1_ok h_rv) rfl rfl rfl rfl rfl) rfl (by kernel_rfl)))) ?_
   rcases ite_some h with ⟨hc2, h⟩ | ⟨hc2, h⟩
   ·
    refine ji_condT rfl hc2 ?_
    refine ji_rz ⟨[(4, kI v2)], []⟩ (by kernel_rfl) ?_
    obtain rfl := sj h
    exact je_ret' (le_z (by kernel_rfl))
   refine ji_condF rfl hc2 ?_
   refine ji_end ?_
   refine ji_rz ⟨[(0, .sl R_Name_Number_Kind_Repeated_Packed_Of [0] sv), (1, .fv 30 [.ep (Rp.int .i64) [0] v 0]), (7, kI (sv.length : Int)), (8, kI (IntKind.i64.wrap (v2 + 1)))], []⟩ (by kernel_rfl) ?_
   obtain rfl := sj h
   exact je_nil (le_z (by kernel_rfl))
  refine ji_condF rfl hc1 ?_
  obtain rfl := sj h
  exact je_out' rfl (le_z (by kernel_rfl))
 rcases q with u | u2
 ·
  refine k_exit _ rfl ?_
  refine ji_rz ⟨[(4, kI (-1))], []⟩ (by kernel_rfl) ?_
  obtain rfl := sj h
  exact je_ret (le_z (by kernel_rfl))
 obtain rfl := sj h
 exact ke_ret (le_z (by kernel_rfl))
theorem slices_IndexFunc___api_Field_api_Field___schema_ByName_1_ok {sv : (List T_Name_Number_Kind_Repeated_Packed_Of)} {v : Str} {r : Int} (h : slices_IndexFunc___api_Field_api_Field___schema_ByName_1 sv v = some r) : FnOk Try.prog 49 [.sl R_Name_Number_Kind_Repeated_Packed_Of [0] sv, .fv 31 [.ep Rp.str [0] v 0]] [kI r] := by
 refine fn_intro' (E := ⟨[(4, kI r)], []⟩) 19 Try.func49 rfl rfl rfl ⟨rfl, trivial⟩ (fun Xt => ?_)
 refine ji_start ?_
 refine ji_le (E' := ⟨[(0, .sl R_Name_Number_Kind_Repeated_Packed_Of [0] sv), (1, .fv 31 [.ep Rp.str [0] v 0])], []⟩) (fun _ _ _ hs => hs) ?_
 unfold slices_IndexFunc___api_Field_api_Field___schema_ByName_1 at h
 refine ji_rz ⟨[(0, .sl R_Name_Number_Kind_Repeated_Packed_Of [0] sv), (1, .fv 31 [.ep Rp.str [0] v 0])], []⟩ (by kernel_rfl) ?_
 refine ji_rz ⟨[(0, .sl R_Name_Number_Kind_Repeated_Packed_Of [0] sv), (1, .fv 31 [.ep Rp.str [0] v 0]), (7, kI (sv.length : Int)), (8, kI 0)], []⟩ (by kernel_rfl) ?_
 refine ji_block ?_
 obtain ⟨q, h_q, h⟩ := bnd h
 refine je_loop (fun s : Int => slices_IndexFunc___api_Field_api_Field___schema_ByName_1_b1 sv v s) (fun s => ⟨[(0, .sl R_Name_Number_Kind_Repeated_Packed_Of [0] sv), (1, .fv 31 [.ep Rp.str [0] v 0]), (7, kI (sv.length : Int)), (8, kI s)], []⟩) (fun o e a w => match o with | (.inl v_) => e = .exit 0 ∧ Sx ⟨⟨19, []⟩, Xt, false, #[]⟩ ⟨[], []⟩ a w | (.inr v_) => e = .ret ∧ Sx ⟨⟨19, []⟩, Xt, false, #[]⟩ ⟨[(4, kI v_)], []⟩ a w) ?_ h_q (le_z (by kernel_rfl)) ?_
 ·
  clear h
  intro v2 o h
  refine ji_start ?_
  refine ji_le (E' := ⟨[(0, .sl R_Name_Number_Kind_Repeated_Packed_Of [0] sv), (1, .fv 31 [.ep Rp.str [0] v 0]), (7, kI (sv.length : Int)), (8, kI v2)], []⟩) (fun _ _ _ hs => hs) ?_
  replace h : slices_IndexFunc___api_Field_api_Field___schema_ByName_1_b1 sv v v2 = some o := h
  unfold slices_IndexFunc___api_Field_api_Field___schema_ByName_1_b1 at h
  refine ji_rz ⟨[(0, .sl R_Name_Number_Kind_Repeated_Packed_Of [0] sv), (1, .fv 31 [.ep Rp.str [0] v 0]), (7, kI (sv.length : Int)), (8, kI v2), (9, kB (decide (v2 < (sv.length : Int))))], []⟩ (by kernel_rfl) ?_
  rcases ite_some h with ⟨hc1, h⟩ | ⟨hc1, h⟩
  ·
   refine ji_condT rfl hc1 ?_
   refine ji_block ?_
   refine ji_rz ⟨[(0, .sl R_Name_Number_Kind_Repeated_Packed_Of [0] sv), (1, .fv 31 [.ep Rp.str [0] v 0]), (5, kI v2), (7, kI (sv.length : Int)), (8, kI v2)], []⟩ (by kernel_rfl) ?_
   obtain ⟨x, h_x, h⟩ := bnd h
   obtain ⟨rv, h_rv, h⟩ := bnd h
   refine ji_region ⟨[(0, .sl R_Name_Number_Kind_Repeated_Packed_Of [0] sv), (1, .fv 31 [.ep Rp.str [0] v 0]), (5, kI v2), (7, kI (sv.length : Int)), (8, kI v2), (16, kB rv)], []⟩ (ro_o 3 [.sl R_Name_Number_Kind_Repeated_Packed_Of [0] sv, kI v2] ⟨[(0, .sl R_Name_Number_Kind_Repeated_Packed_Of [0] sv), (1, .fv 31 [.ep Rp.str [0] v 0]), (5, kI v2), (7, kI (sv.length : Int)), (8, kI v2), (11, .fv 31 [.ep Rp.str [0] v 0]), (14, .ep R_Name_Number_Kind_Repeated_Packed_Of [0] x 0)], []⟩ rfl (lo_ix rfl zet33.el (isSl_sl _ _ _) h_x) rfl (by kernel_rfl) (ro_o 0 [.ep R_Name_Number_Kind_Repeated_Packed_Of [0] x 0] ⟨[(0, .sl R_Name_Number_Kind_Repeated_Packed_Of [0] sv), (1, .fv 31 [.ep Rp.str [0] v 0]), (5, kI v2), (7, kI (sv.length : Int)), (8, kI v2), (11, .fv 31 [.ep Rp.str [0] v 0]), (15, .rc R_Name_Number_Kind_Repeated_Packed_Of [0] x)], []⟩ rfl (lo_ldr rfl ⟨Try.isAgg50, Try.sizeOf50⟩) rfl (by kernel_rfl) (ro_oz 0 [.fv 31 [.ep Rp.str [0] v 0], .rc R_Name_Number_Kind_Repeated_Packed_Of [0] x] rfl (lo_callv (args := [.tmp 15]) [.rc R_Name_Number_Kind_Repeated_Packed_Of [0] x] [0] 10 rfl (isFv_fv _ _) Try.call31 (schema_ByName_1_ok h_rv) rfl rfl rfl rfl rfl) rfl (by kernel_rfl)))) ?_
   rcases ite_some h with ⟨hc2, h⟩ | ⟨hc2, h⟩
   ·
    refine ji_condT rfl hc2 ?_
    refine ji_rz ⟨[(4, kI v2)], []⟩ (by kernel_rfl) ?_
    obtain rfl := sj h
    exact je_ret' (le_z (by kernel_rfl))
   refine ji_condF rfl hc2 ?_
   refine ji_end ?_
   refine ji_rz ⟨[(0, .sl R_Name_Number_Kind_Repeated_Packed_Of [0] sv), (1, .fv 31 [.ep Rp.str [0] v 0]), (7, kI (sv.length : Int)), (8, kI (IntKind.i64.wrap (v2 + 1)))], []⟩ (by kernel_rfl) ?_
   obtain rfl := sj h
   exact je_nil (le_z (by kernel_rfl))
  refine ji_condF rfl hc1 ?_
  obtain rfl := sj h
  exact je_out' rfl (le_z (by kernel_rfl))
 rcases q with u | u2
 ·
  refine k_exit _ rfl ?_
  refine ji_rz ⟨[(4, kI (-1))], []⟩ (by kernel_rfl) ?_
  obtain rfl := sj h
  exact je_ret (le_z (by kernel_rfl))
 obtain rfl := sj h
 exact ke_ret (le_z (by kernel_rfl))
end Go.Proofs.Ytnchbppkppbflaa
