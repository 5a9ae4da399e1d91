/-
  The Go functions do what the plain functions say. No condition.
-/
import Derived.Test.YtnchbppkppbflaaG3
namespace Go.Proofs.Ytnchbppkppbflaa
open Go Go.RowKit
set_option linter.unusedVariables false
set_option maxRecDepth 100000
theorem schema_check_message_ok {c : T_size_kinds_names_numbers} {m : T_Name_Fields} {r : (Int × (List (T_message_name × Bool)) × (List (T_message_number × Bool)))} (h : schema_check_message c m = some r) : FnOkW Try.prog 23 [.ag [kI c.size, .sl (Rp.int .i64) [0] c.kinds, .om R_message_name Rp.bool 2 [0] c.names, .om R_message_number Rp.bool 3 [0] c.numbers], .rc R_Name_Fields [0] m] [kI r.1] [.ag [.any, .any, .om R_message_name Rp.bool 2 [0] r.2.1, .om R_message_number Rp.bool 3 [0] r.2.2], .any] := by
 refine fn_introW (E := ⟨[(0, .ag [.any, .any, .om R_message_name Rp.bool 2 [0] r.2.1, .om R_message_number Rp.bool 3 [0] r.2.2]), (4, kI r.1)], []⟩) 27 [0] Try.func23 rfl rfl rfl ⟨rfl, trivial⟩ ⟨.inr ⟨rfl, rfl⟩, .inl rfl, trivial⟩ rfl (fun Xt old => ?_)
 refine ji_start ?_
 refine ji_le (E' := ⟨[(0, .ag [kI c.size, .sl (Rp.int .i64) [0] c.kinds, .om R_message_name Rp.bool 2 [0] c.names, .om R_message_number Rp.bool 3 [0] c.numbers]), (1, .rc R_Name_Fields [0] m)], []⟩) (fun _ _ _ hs => hs) ?_
 unfold schema_check_message at h
 refine ji_region ⟨[(0, .ag [kI c.size, .sl (Rp.int .i64) [0] c.kinds, .om R_message_name Rp.bool 2 [0] c.names, .om R_message_number Rp.bool 3 [0] c.numbers]), (2, .ptr 11 0), (3, .ptr 12 0)], [⟨11, 55, [kI c.size, .sl (Rp.int .i64) [0] c.kinds, .om R_message_name Rp.bool 2 [0] c.names, .om R_message_number Rp.bool 3 [0] c.numbers]⟩, ⟨12, 35, [kS m.Name, .sl R_Name_Number_Kind_Repeated_Packed_Of [0] m.Fields]⟩]⟩ (ro_o 0 [.ag [kI c.size, .sl (Rp.int .i64) [0] c.kinds, .om R_message_name Rp.bool 2 [0] c.names, .om R_message_number Rp.bool 3 [0] c.numbers]] ⟨[(0, .ag [kI c.size, .sl (Rp.int .i64) [0] c.kinds, .om R_message_name Rp.bool 2 [0] c.names, .om R_message_number Rp.bool 3 [0] c.numbers]), (1, .rc R_Name_Fields [0] m), (2, .ptr 11 0)], [⟨11, 55, [kI c.size, .sl (Rp.int .i64) [0] c.kinds, .om R_message_name Rp.bool 2 [0] c.names, .om R_message_number Rp.bool 3 [0] c.numbers]⟩]⟩ rfl (lo_boxa 11 rfl rfl) rfl (by kernel_rfl) (ro_oz 0 [.rc R_Name_Fields [0] m] rfl (lo_box 12 [kS m.Name, .sl R_Name_Number_Kind_Repeated_Packed_Of [0] m.Fields] [0] rfl rfl rfl rfl rfl) rfl (by kernel_rfl))) ?_
 refine ji_region ⟨[(0, .ag [kI c.size, .sl (Rp.int .i64) [0] c.kinds, .om R_message_name Rp.bool 2 [0] c.names, .om R_message_number Rp.bool 3 [0] c.numbers]), (2, .ptr 11 0), (3, .ptr 12 0), (5, .ptr 13 0)], [⟨11, 55, [kI c.size, .sl (Rp.int .i64) [0] c.kinds, .om R_message_name Rp.bool 2 [0] c.names, .om R_message_number Rp.bool 3 [0] c.numbers]⟩, ⟨12, 35, [kS m.Name, .sl R_Name_Number_Kind_Repeated_Packed_Of [0] m.Fields]⟩, ⟨13, 78, [kI (-1), kS m.Name]⟩]⟩ (ro_o 2 [kI (-1), kS m.Name] ⟨[(0, .ag [kI c.size, .sl (Rp.int .i64) [0] c.kinds, .om R_message_name Rp.bool 2 [0] c.names, .om R_message_number Rp.bool 3 [0] c.numbers]), (2, .ptr 11 0), (3, .ptr 12 0), (8, .rc R_message_name [] (⟨(-1), m.Name⟩ : T_message_name))], [⟨11, 55, [kI c.size, .sl (Rp.int .i64) [0] c.kinds, .om R_message_name Rp.bool 2 [0] c.names, .om R_message_number Rp.bool 3 [0] c.numbers]⟩, ⟨12, 35, [kS m.Name, .sl R_Name_Number_Kind_Repeated_Packed_Of [0] m.Fields]⟩]⟩ rfl (lo_build (r := R_message_name) [kI (-1), kS m.Name] [] (⟨(-1), m.Name⟩ : T_message_name) rfl stt78 rfl rfl) rfl (by kernel_rfl) (ro_o 0 [] ⟨[(0, .ag [kI c.size, .sl (Rp.int .i64) [0] c.kinds, .om R_message_name Rp.bool 2 [0] c.names, .om R_message_number Rp.bool 3 [0] c.numbers]), (2, .ptr 11 0), (3, .ptr 12 0), (5, .ptr 13 0), (8, .rc R_message_name [] (⟨(-1), m.Name⟩ : T_message_name))], [⟨11, 55, [kI c.size, .sl (Rp.int .i64) [0] c.kinds, .om R_message_name Rp.bool 2 [0] c.names, .om R_message_number Rp.bool 3 [0] c.numbers]⟩, ⟨12, 35, [kS m.Name, .sl R_Name_Number_Kind_Repeated_Packed_Of [0] m.Fields]⟩, ⟨13, 78, [kI 0, kS []]⟩]⟩ rfl (lo_alloc 13 [kI 0, kS []] rfl Try.zeroValue78 rfl) rfl (by kernel_rfl) (ro_obz 0 [.ptr 13 0, .rc R_message_name [] (⟨(-1), m.Name⟩ : T_message_name)] [⟨13, 78, [kI 0, kS []]⟩] rfl (lo_str (r := R_message_name) (b := ⟨13, 78, [kI 0, kS []]⟩) (off := 0) [kI (-1), kS m.Name] rfl Try.sizeOf78 rfl rfl rfl rfl) rfl rfl (by kernel_rfl)))) ?_
 refine ji_block ?_
 obtain ⟨rv, h_rv, h⟩ := bnd h
 refine ji_region ⟨[(0, .ag [kI c.size, .sl (Rp.int .i64) [0] c.kinds, .om R_message_name Rp.bool 2 [0] c.names, .om R_message_number Rp.bool 3 [0] c.numbers]), (2, .ptr 11 0), (3, .ptr 12 0), (5, .ptr 13 0), (9, kB (!rv))], [⟨11, 55, [kI c.size, .sl (Rp.int .i64) [0] c.kinds, .om R_message_name Rp.bool 2 [0] c.names, .om R_message_number Rp.bool 3 [0] c.numbers]⟩, ⟨12, 35, [kS m.Name, .sl R_Name_Number_Kind_Repeated_Packed_Of [0] m.Fields]⟩, ⟨13, 78, [kI (-1), kS m.Name]⟩]⟩ (ro_oz 2 [kS m.Name] rfl (lo_call [kS m.Name] [1] 12 rfl Try.call42 (schema_isName_ok h_rv) rfl rfl rfl rfl rfl) rfl (by kernel_rfl)) ?_
 rcases ite_some h with ⟨hc1, h⟩ | ⟨hc1, h⟩
 ·
  refine ji_condT rfl hc1 ?_
  refine ji_rz ⟨[(0, .ag [kI c.size, .sl (Rp.int .i64) [0] c.kinds, .om R_message_name Rp.bool 2 [0] c.names, .om R_message_number Rp.bool 3 [0] c.numbers]), (4, kI 2)], []⟩ (by kernel_rfl) ?_
  obtain rfl := sj h
  refine je_wr ?_
  refine le_at 0 (.ag [.any, .any, .om R_message_name Rp.bool 2 [0] ((2, c.names, c.numbers) : (Int × (List (T_message_name × Bool)) × (List (T_message_number × Bool)))).2.1, .om R_message_number Rp.bool 3 [0] ((2, c.names, c.numbers) : (Int × (List (T_message_name × Bool)) × (List (T_message_number × Bool)))).2.2]) rfl (le_ag ⟨le_any _, le_any _, AV.le_refl _, AV.le_refl _, trivial⟩) ?_
  exact le_z (by kernel_rfl)
 refine ji_condF rfl hc1 ?_
 refine ji_region ⟨[(0, .ag [kI c.size, .sl (Rp.int .i64) [0] c.kinds, .om R_message_name Rp.bool 2 [0] c.names, .om R_message_number Rp.bool 3 [0] c.numbers]), (2, .ptr 11 0), (3, .ptr 12 0), (5, .ptr 13 0), (14, kB ((mget c.names (⟨(-1), m.Name⟩ : T_message_name)).getD false))], [⟨11, 55, [kI c.size, .sl (Rp.int .i64) [0] c.kinds, .om R_message_name Rp.bool 2 [0] c.names, .om R_message_number Rp.bool 3 [0] c.numbers]⟩, ⟨12, 35, [kS m.Name, .sl R_Name_Number_Kind_Repeated_Packed_Of [0] m.Fields]⟩, ⟨13, 78, [kI (-1), kS m.Name]⟩]⟩ (ro_ob 2 [.ptr 13 0] [⟨13, 78, [kI (-1), kS m.Name]⟩] ⟨[(0, .ag [kI c.size, .sl (Rp.int .i64) [0] c.kinds, .om R_message_name Rp.bool 2 [0] c.names, .om R_message_number Rp.bool 3 [0] c.numbers]), (2, .ptr 11 0), (3, .ptr 12 0), (5, .ptr 13 0), (16, .om R_message_name Rp.bool 2 [0] c.names), (17, .rc R_message_name [] (⟨(-1), m.Name⟩ : T_message_name))], [⟨11, 55, [kI c.size, .sl (Rp.int .i64) [0] c.kinds, .om R_message_name Rp.bool 2 [0] c.names, .om R_message_number Rp.bool 3 [0] c.numbers]⟩, ⟨12, 35, [kS m.Name, .sl R_Name_Number_Kind_Repeated_Packed_Of [0] m.Fields]⟩, ⟨13, 78, [kI (-1), kS m.Name]⟩]⟩ rfl (lo_ldb (r := R_message_name) (⟨(-1), m.Name⟩ : T_message_name) [] rfl ⟨Try.isAgg78, Try.sizeOf78⟩ rfl rfl) rfl rfl (by kernel_rfl) (ro_oz 0 [.om R_message_name Rp.bool 2 [0] c.names, .rc R_message_name [] (⟨(-1), m.Name⟩ : T_message_name)] rfl (lo_mget (rk := R_message_name) (rv := Rp.bool) (m := c.names) (k := (⟨(-1), m.Name⟩ : T_message_name)) (kB ((mget c.names (⟨(-1), m.Name⟩ : T_message_name)).getD false)) rfl mapt52 (isMp_om _ _ _ _ _) (asV_rc rfl) (elAV_lf rfl rfl rfl)) rfl (by kernel_rfl))) ?_
 rcases ite_some h with ⟨hc2, h⟩ | ⟨hc2, h⟩
 ·
  refine ji_condT rfl hc2 ?_
  refine ji_rz ⟨[(0, .ag [kI c.size, .sl (Rp.int .i64) [0] c.kinds, .om R_message_name Rp.bool 2 [0] c.names, .om R_message_number Rp.bool 3 [0] c.numbers]), (4, kI 3)], []⟩ (by kernel_rfl) ?_
  obtain rfl := sj h
  refine je_wr ?_
  refine le_at 0 (.ag [.any, .any, .om R_message_name Rp.bool 2 [0] ((3, c.names, c.numbers) : (Int × (List (T_message_name × Bool)) × (List (T_message_number × Bool)))).2.1, .om R_message_number Rp.bool 3 [0] ((3, c.names, c.numbers) : (Int × (List (T_message_name × Bool)) × (List (T_message_number × Bool)))).2.2]) rfl (le_ag ⟨le_any _, le_any _, AV.le_refl _, AV.le_refl _, trivial⟩) ?_
  exact le_z (by kernel_rfl)
 refine ji_condF rfl hc2 ?_
 refine ji_rz ⟨[(0, .ag [kI c.size, .sl (Rp.int .i64) [0] c.kinds, .om R_message_name Rp.bool 2 [0] c.names, .om R_message_number Rp.bool 3 [0] c.numbers]), (2, .ptr 11 0), (5, .ptr 13 0), (19, kB (decide ((m.Fields.length : Int) > 200)))], [⟨11, 55, [kI c.size, .sl (Rp.int .i64) [0] c.kinds, .om R_message_name Rp.bool 2 [0] c.names, .om R_message_number Rp.bool 3 [0] c.numbers]⟩, ⟨13, 78, [kI (-1), kS m.Name]⟩]⟩ (by kernel_rfl) ?_
 rcases ite_some h with ⟨hc3, h⟩ | ⟨hc3, h⟩
 ·
  refine ji_condT rfl hc3 ?_
  refine ji_rz ⟨[(0, .ag [kI c.size, .sl (Rp.int .i64) [0] c.kinds, .om R_message_name Rp.bool 2 [0] c.names, .om R_message_number Rp.bool 3 [0] c.numbers]), (4, kI 4)], []⟩ (by kernel_rfl) ?_
  obtain rfl := sj h
  refine je_wr ?_
  refine le_at 0 (.ag [.any, .any, .om R_message_name Rp.bool 2 [0] ((4, c.names, c.numbers) : (Int × (List (T_message_name × Bool)) × (List (T_message_number × Bool)))).2.1, .om R_message_number Rp.bool 3 [0] ((4, c.names, c.numbers) : (Int × (List (T_message_name × Bool)) × (List (T_message_number × Bool)))).2.2]) rfl (le_ag ⟨le_any _, le_any _, AV.le_refl _, AV.le_refl _, trivial⟩) ?_
  exact le_z (by kernel_rfl)
 refine ji_condF rfl hc3 ?_
 refine ji_end ?_
 refine ji_region ⟨[(0, .ag [kI c.size, .sl (Rp.int .i64) [0] c.kinds, .om R_message_name Rp.bool 2 [0] (mput c.names (⟨(-1), m.Name⟩ : T_message_name) true), .om R_message_number Rp.bool 3 [0] c.numbers])], []⟩ (ro_ob 2 [.ptr 13 0] [⟨13, 78, [kI (-1), kS m.Name]⟩] ⟨[(0, .ag [kI c.size, .sl (Rp.int .i64) [0] c.kinds, .om R_message_name Rp.bool 2 [0] c.names, .om R_message_number Rp.bool 3 [0] c.numbers]), (25, .om R_message_name Rp.bool 2 [0] c.names), (26, .rc R_message_name [] (⟨(-1), m.Name⟩ : T_message_name))], []⟩ rfl (lo_ldb (r := R_message_name) (⟨(-1), m.Name⟩ : T_message_name) [] rfl ⟨Try.isAgg78, Try.sizeOf78⟩ rfl rfl) rfl rfl (by kernel_rfl) (ro_pk 0 ⟨[(0, .ag [kI c.size, .sl (Rp.int .i64) [0] c.kinds, .om R_message_name Rp.bool 2 [0] c.names, .om R_message_number Rp.bool 3 [0] c.numbers]), (25, .om R_message_name Rp.bool 2 [0] c.names), (26, .rc R_message_name [] (⟨(-1), m.Name⟩ : T_message_name))], []⟩ (by kernel_rfl) (ro_turn ⟨[(0, .ag [kI c.size, .sl (Rp.int .i64) [0] c.kinds, .om R_message_name Rp.bool 2 [0] (mput c.names (⟨(-1), m.Name⟩ : T_message_name) true), .om R_message_number Rp.bool 3 [0] c.numbers]), (25, .om R_message_name Rp.bool 2 [0] (mput c.names (⟨(-1), m.Name⟩ : T_message_name) true)), (26, .rc R_message_name [] (⟨(-1), m.Name⟩ : T_message_name))], []⟩ (st_mset (rk := R_message_name) (rv := Rp.bool) (m := c.names) (ℓ := 2) (C := [0]) (C1 := []) (D := []) (⟨(-1), m.Name⟩ : T_message_name) true [0] mapt52 (.inl rfl) (asV_rc rfl) (asV_lf rfl rfl) rfl) rfl (by kernel_rfl) (by kernel_rfl) ⟨⟨_, rfl, tn_ag ⟨tn_keep rfl, tn_keep rfl, tn_at 0 rfl, tn_keep rfl, trivial⟩⟩, ⟨_, rfl, tn_at 0 rfl⟩, ⟨_, rfl, tn_keep rfl⟩, trivial⟩ trivial (ro_z (by kernel_rfl))))) ?_
 refine ji_rz ⟨[(0, .ag [kI c.size, .sl (Rp.int .i64) [0] c.kinds, .om R_message_name Rp.bool 2 [0] (mput c.names (⟨(-1), m.Name⟩ : T_message_name) true), .om R_message_number Rp.bool 3 [0] c.numbers]), (4, kI 0)], []⟩ (by kernel_rfl) ?_
 obtain rfl := sj h
 refine je_wr ?_
 refine le_at 0 (.ag [.any, .any, .om R_message_name Rp.bool 2 [0] ((0, (mput c.names (⟨(-1), m.Name⟩ : T_message_name) true), c.numbers) : (Int × (List (T_message_name × Bool)) × (List (T_message_number × Bool)))).2.1, .om R_message_number Rp.bool 3 [0] ((0, (mput c.names (⟨(-1), m.Name⟩ : T_message_name) true), c.numbers) : (Int × (List (T_message_name × Bool)) × (List (T_message_number × Bool)))).2.2]) rfl (le_ag ⟨le_any _, le_any _, AV.le_refl _, AV.le_refl _, trivial⟩) ?_
 exact le_z (by kernel_rfl)
theorem kind_Number_ok {k : Int} {r : Bool} (h : kind_Number k = some r) : FnOk Try.prog 59 [kI k] [kB r] := by
 refine fn_intro' (E := ⟨[(2, kB r)], []⟩) 16 Try.func59 rfl rfl rfl ⟨rfl, trivial⟩ (fun Xt => ?_)
 refine ji_start ?_
 refine ji_le (E' := ⟨[(0, kI k)], []⟩) (fun _ _ _ hs => hs) ?_
 unfold kind_Number at h
 refine ji_rz ⟨[(0, kI k)], []⟩ (by kernel_rfl) ?_
 obtain ⟨rv, h_rv, h⟩ := bnd h
 refine ji_region ⟨[(3, kI rv.1), (4, k8 rv.2)], []⟩ (ro_oz 1 [kI k] rfl (lo_call [kI k] [1] 9 rfl Try.call65 (kind_Wire_ok h_rv) rfl rfl rfl rfl rfl) rfl (by kernel_rfl)) ?_
 refine ji_region ⟨[(2, kB ((rv.2 == 0) && (rv.1 != 2)))], []⟩ ?_ ?_
 ·
  refine (ro_sp 3 12 (rv.2 == 0) ⟨[(3, kI rv.1), (12, kB (rv.2 == 0))], []⟩ (by kernel_rfl) rfl (fun hc1 => ?_) (fun hc1 => ?_))
  · exact (ro_zb 2 (rv.1 != 2) ((rv.2 == 0) && (rv.1 != 2)) (by rw [hc1] <;> rfl) (by kernel_rfl) (by kernel_rfl))
  exact (ro_zb 2 false ((rv.2 == 0) && (rv.1 != 2)) (by rw [hc1] <;> rfl) (by kernel_rfl) (by kernel_rfl))
 obtain rfl := sj h
 exact je_ret (le_z (by kernel_rfl))
theorem darningref07_Check_ok {sv : (List T_Name_Fields)} {r : (Int × Int × Int)} (h : darningref07_Check sv = some r) : FnOk Try.prog 9 [.sl R_Name_Fields [0] sv] [kI r.1, kI r.2.1, kI r.2.2] := by
 refine fn_intro' (E := ⟨[(2, kI r.1), (3, kI r.2.1), (4, kI r.2.2)], []⟩) 80 Try.func9 rfl rfl rfl ⟨rfl, rfl, rfl, trivial⟩ (fun Xt => ?_)
 refine ji_start ?_
 refine ji_le (E' := ⟨[(0, .sl R_Name_Fields [0] sv)], []⟩) (fun _ _ _ hs => hs) ?_
 unfold darningref07_Check at h
 refine ji_rz ⟨[(0, .sl R_Name_Fields [0] sv)], []⟩ (by kernel_rfl) ?_
 refine ji_region ⟨[(0, .sl R_Name_Fields [0] sv), (17, kB (((sv.length : Int) == 0) || (decide ((sv.length : Int) > 100))))], []⟩ ?_ ?_
 ·
  refine (ro_sp 4 13 ((sv.length : Int) == 0) ⟨[(0, .sl R_Name_Fields [0] sv), (13, kB ((sv.length : Int) == 0))], []⟩ (by kernel_rfl) rfl (fun hc1 => ?_) (fun hc1 => ?_))
  · exact (ro_zb 17 true (((sv.length : Int) == 0) || (decide ((sv.length : Int) > 100))) (by rw [hc1] <;> rfl) (by kernel_rfl) (by kernel_rfl))
  exact (ro_zb 17 (decide ((sv.length : Int) > 100)) (((sv.length : Int) == 0) || (decide ((sv.length : Int) > 100))) (by rw [hc1] <;> rfl) (by kernel_rfl) (by kernel_rfl))
 rcases ite_some h with ⟨hc2, h⟩ | ⟨hc2, h⟩
 ·
  refine ji_condT rfl hc2 ?_
  refine ji_rz ⟨[(2, kI (-1)), (3, kI (-1)), (4, kI 1)], []⟩ (by kernel_rfl) ?_
  obtain rfl := sj h
  exact je_ret (le_z (by kernel_rfl))
 refine ji_condF rfl hc2 ?_
 refine ji_rz ⟨[(0, .sl R_Name_Fields [0] sv), (5, kI 0)], []⟩ (by kernel_rfl) ?_
 refine ji_block ?_
 obtain ⟨q3, h_q3, h⟩ := bnd h
 refine je_loop (fun s : Int => darningref07_Check_b1 sv s) (fun s => ⟨[(0, .sl R_Name_Fields [0] sv), (5, kI s)], []⟩) (fun o e a w => match o with | (.inl v_) => e = .exit 0 ∧ Sx ⟨⟨80, []⟩, Xt, false, #[]⟩ ⟨[], []⟩ a w | (.inr v_) => e = .ret ∧ Sx ⟨⟨80, []⟩, Xt, false, #[]⟩ ⟨[(2, kI v_.1), (3, kI v_.2.1), (4, kI v_.2.2)], []⟩ a w) ?_ h_q3 (le_z (by kernel_rfl)) ?_
 ·
  clear h
  intro i o h
  refine ji_start ?_
  refine ji_le (E' := ⟨[(0, .sl R_Name_Fields [0] sv), (5, kI i)], []⟩) (fun _ _ _ hs => hs) ?_
  replace h : darningref07_Check_b1 sv i = some o := h
  unfold darningref07_Check_b1 at h
  refine ji_rz ⟨[(0, .sl R_Name_Fields [0] sv), (5, kI i), (21, kB (decide (i < (sv.length : Int))))], []⟩ (by kernel_rfl) ?_
  rcases ite_some h with ⟨hc3, h⟩ | ⟨hc3, h⟩
  ·
   refine ji_condT rfl hc3 ?_
   refine ji_block ?_
   refine ji_rz ⟨[(0, .sl R_Name_Fields [0] sv), (5, kI i), (6, kB false)], []⟩ (by kernel_rfl) ?_
   refine ji_rz ⟨[(0, .sl R_Name_Fields [0] sv), (5, kI i), (6, kB false), (7, kI 0)], []⟩ (by kernel_rfl) ?_
   refine ji_block ?_
   obtain ⟨q, h_q, h⟩ := bnd h
   refine je_loop (fun s : (Bool × Int) => darningref07_Check_b2 i sv s.1 s.2) (fun s => ⟨[(0, .sl R_Name_Fields [0] sv), (5, kI i), (6, kB s.1), (7, kI s.2)], []⟩) (fun o e a w => e = .exit 2 ∧ Sx ⟨⟨80, []⟩, Xt, false, #[]⟩ ⟨[(0, .sl R_Name_Fields [0] sv), (5, kI i), (6, kB o)], []⟩ a w) ?_ h_q (le_z (by kernel_rfl)) ?_
   ·
    clear h
    intro s o h
    obtain ⟨twice, k⟩ := s
    refine ji_start ?_
    refine ji_le (E' := ⟨[(0, .sl R_Name_Fields [0] sv), (5, kI i), (6, kB twice), (7, kI k)], []⟩) (fun _ _ _ hs => hs) ?_
    replace h : darningref07_Check_b2 i sv twice k = some o := h
    unfold darningref07_Check_b2 at h
    refine ji_rz ⟨[(0, .sl R_Name_Fields [0] sv), (5, kI i), (6, kB twice), (7, kI k), (26, kB (decide (k < i)))], []⟩ (by kernel_rfl) ?_
    rcases ite_some h with ⟨hc4, h⟩ | ⟨hc4, h⟩
    ·
     refine ji_condT rfl hc4 ?_
     refine ji_block ?_
     obtain ⟨g, h_g, h⟩ := bnd h
     refine ji_join (R := fun e a w => e = .normal ∧ Sx ⟨⟨80, []⟩, Xt, false, #[]⟩ ⟨[(0, .sl R_Name_Fields [0] sv), (5, kI i), (6, kB g), (7, kI k)], []⟩ a w) ?_ (k_norm ?_)
     ·
      refine ji_start ?_
      rcases Bool.eq_false_or_eq_true twice with hc5 | hc5
      ·
       replace h_g := iteT h_g hc5
       obtain rfl := sj h_g
       refine ji_draw ⟨[(0, .sl R_Name_Fields [0] sv), (5, kI i), (6, kB true), (7, kI k)], []⟩ [.ev, .ex [] [] [] (kB true) []] [⟨[(.tmp 29, kB twice)], [], []⟩] [0, 5, 6, 7] [] mixed (by kernel_rfl) (by exact (lw_e (lw_x (lo_evb ⟨[(29, kB twice)], []⟩ (by kernel_rfl) hc5) lw_0))) ?_
       exact je_nil (le_z (by kernel_rfl))
      replace h_g := iteF h_g hc5
      obtain ⟨x, h_x, h_g⟩ := bnd h_g
      obtain ⟨x2, h_x2, h_g⟩ := bnd h_g
      obtain rfl := sj h_g
      refine ji_draw ⟨[(0, .sl R_Name_Fields [0] sv), (5, kI i), (6, kB (x.Name == x2.Name)), (7, kI k)], []⟩ [.ev, .ex [] [] [] (kB false) [], .ev, .ev, .ex [] [] [] (.ep R_Name_Fields [0] x 0) [], .ev, .ev, .ev, .ev, .ex [] [] [] (.ep R_Name_Fields [0] x2 0) []] [⟨[(.tmp 29, kB twice)], [], []⟩, ⟨[(.tmp 31, .sl R_Name_Fields [0] sv), (.tmp 32, kI k)], [], []⟩, ⟨[(.tmp 36, .sl R_Name_Fields [0] sv), (.tmp 37, kI i)], [], []⟩] [0, 5, 6, 7] [] mixed (by kernel_rfl) (by exact (lw_e (lw_x (lo_evb ⟨[(29, kB twice)], []⟩ (by kernel_rfl) hc5) (lw_e (lw_e (lw_x (lo_as (lo_ix rfl zet23.el (isSl_sl _ _ _) h_x) rfl) (lw_e (lw_e (lw_e (lw_e (lw_x (lo_as (lo_ix rfl zet23.el (isSl_sl _ _ _) h_x2) rfl) lw_0))))))))))) ?_
      exact je_nil (le_z (by kernel_rfl))
     refine ji_end ?_
     refine ji_rz ⟨[(0, .sl R_Name_Fields [0] sv), (5, kI i), (6, kB g), (7, kI (IntKind.i64.wrap (k + 1)))], []⟩ (by kernel_rfl) ?_
     obtain rfl := sj h
     exact je_nil (le_z (by kernel_rfl))
    refine ji_condF rfl hc4 ?_
    obtain rfl := sj h
    exact je_out' rfl (le_z (by kernel_rfl))
   refine k_exit _ rfl ?_
   obtain ⟨x3, h_x3, h⟩ := bnd h
   obtain ⟨rv, h_rv, h⟩ := bnd h
   refine ji_region ⟨[(0, .sl R_Name_Fields [0] sv), (5, kI i), (6, kB q), (49, kB (!rv))], []⟩ (ro_o 2 [.sl R_Name_Fields [0] sv, kI i] ⟨[(0, .sl R_Name_Fields [0] sv), (5, kI i), (6, kB q), (45, .ep R_Name_Fields [0] x3 0)], []⟩ rfl (lo_ix rfl zet23.el (isSl_sl _ _ _) h_x3) rfl (by kernel_rfl) (ro_oz 2 [kS x3.Name] rfl (lo_call [kS x3.Name] [1] 11 rfl Try.call25 (darningref07_Name_ok h_rv) rfl rfl rfl rfl rfl) rfl (by kernel_rfl))) ?_
   rcases ite_some h with ⟨hc6, h⟩ | ⟨hc6, h⟩
   ·
    refine ji_condT rfl hc6 ?_
    refine ji_rz ⟨[(2, kI i), (3, kI (-1)), (4, kI 2)], []⟩ (by kernel_rfl) ?_
    obtain rfl := sj h
    exact je_ret' (le_z (by kernel_rfl))
   refine ji_condF rfl hc6 ?_
   refine ji_rz ⟨[(0, .sl R_Name_Fields [0] sv), (5, kI i), (51, kB q)], []⟩ (by kernel_rfl) ?_
   rcases ite_some h with ⟨hc7, h⟩ | ⟨hc7, h⟩
   ·
    refine ji_condT rfl hc7 ?_
    refine ji_rz ⟨[(2, kI i), (3, kI (-1)), (4, kI 3)], []⟩ (by kernel_rfl) ?_
    obtain rfl := sj h
    exact je_ret' (le_z (by kernel_rfl))
   refine ji_condF rfl hc7 ?_
   obtain ⟨x4, h_x4, h⟩ := bnd h
   refine ji_region ⟨[(0, .sl R_Name_Fields [0] sv), (5, kI i), (59, kB (decide ((x4.Fields.length : Int) > 200)))], []⟩ (ro_o 2 [.sl R_Name_Fields [0] sv, kI i] ⟨[(0, .sl R_Name_Fields [0] sv), (5, kI i), (55, .ep R_Name_Fields [0] x4 0)], []⟩ rfl (lo_ix rfl zet23.el (isSl_sl _ _ _) h_x4) rfl (by kernel_rfl) (ro_oz 1 [.ep R_Name_Fields [0] x4 1] rfl (lo_lds R_Name_Number_Kind_Repeated_Packed_Of x4.Fields rfl rfl rfl) rfl (by kernel_rfl))) ?_
   rcases ite_some h with ⟨hc8, h⟩ | ⟨hc8, h⟩
   ·
    refine ji_condT rfl hc8 ?_
    refine ji_rz ⟨[(2, kI i), (3, kI (-1)), (4, kI 4)], []⟩ (by kernel_rfl) ?_
    obtain rfl := sj h
    exact je_ret' (le_z (by kernel_rfl))
   refine ji_condF rfl hc8 ?_
   refine ji_rz ⟨[(0, .sl R_Name_Fields [0] sv), (5, kI i), (8, kI 0)], []⟩ (by kernel_rfl) ?_
   refine ji_block ?_
   obtain ⟨q2, h_q2, h⟩ := bnd h
   refine je_loop (fun s : Int => darningref07_Check_b3 i sv s) (fun s => ⟨[(0, .sl R_Name_Fields [0] sv), (5, kI i), (8, kI s)], []⟩) (fun o e a w => match o with | (.inl v_) => e = .exit 4 ∧ Sx ⟨⟨80, []⟩, Xt, false, #[]⟩ ⟨[(0, .sl R_Name_Fields [0] sv), (5, kI i)], []⟩ a w | (.inr v_) => e = .ret ∧ Sx ⟨⟨80, []⟩, Xt, false, #[]⟩ ⟨[(2, kI i), (3, kI v_.1), (4, kI v_.2)], []⟩ a w) ?_ h_q2 (le_z (by kernel_rfl)) ?_
   ·
    clear h
    intro k2 o h
    refine ji_start ?_
    refine ji_le (E' := ⟨[(0, .sl R_Name_Fields [0] sv), (5, kI i), (8, kI k2)], []⟩) (fun _ _ _ hs => hs) ?_
    replace h : darningref07_Check_b3 i sv k2 = some o := h
    unfold darningref07_Check_b3 at h
    obtain ⟨x5, h_x5, h⟩ := bnd h
    refine ji_region ⟨[(0, .sl R_Name_Fields [0] sv), (5, kI i), (8, kI k2), (68, kB (decide (k2 < (x5.Fields.length : Int))))], []⟩ (ro_o 3 [.sl R_Name_Fields [0] sv, kI i] ⟨[(0, .sl R_Name_Fields [0] sv), (5, kI i), (8, kI k2), (61, kI k2), (64, .ep R_Name_Fields [0] x5 0)], []⟩ rfl (lo_ix rfl zet23.el (isSl_sl _ _ _) h_x5) rfl (by kernel_rfl) (ro_oz 1 [.ep R_Name_Fields [0] x5 1] rfl (lo_lds R_Name_Number_Kind_Repeated_Packed_Of x5.Fields rfl rfl rfl) rfl (by kernel_rfl))) ?_
    rcases ite_some h with ⟨hc9, h⟩ | ⟨hc9, h⟩
    ·
     refine ji_condT rfl hc9 ?_
     refine ji_block ?_
     obtain ⟨rv2, h_rv2, h⟩ := bnd h
     refine ji_region ⟨[(0, .sl R_Name_Fields [0] sv), (5, kI i), (8, kI k2), (9, kI rv2)], []⟩ (ro_oz 3 [.sl R_Name_Fields [0] sv, kI i, kI k2] rfl (lo_call [.sl R_Name_Fields [0] sv, kI i, kI k2] [0] 12 rfl Try.call26 (darningref07_Fault_ok h_rv2) rfl rfl rfl rfl rfl) rfl (by kernel_rfl)) ?_
     refine ji_rz ⟨[(0, .sl R_Name_Fields [0] sv), (5, kI i), (8, kI k2), (9, kI rv2), (76, kB (decide (rv2 > 0)))], []⟩ (by kernel_rfl) ?_
     rcases ite_some h with ⟨hc10, h⟩ | ⟨hc10, h⟩
     ·
      refine ji_condT rfl hc10 ?_
      refine ji_rz ⟨[(2, kI i), (3, kI k2), (4, kI rv2)], []⟩ (by kernel_rfl) ?_
      obtain rfl := sj h
      exact je_ret' (le_z (by kernel_rfl))
     refine ji_condF rfl hc10 ?_
     refine ji_end ?_
     refine ji_rz ⟨[(0, .sl R_Name_Fields [0] sv), (5, kI i), (8, kI (IntKind.i64.wrap (k2 + 1)))], []⟩ (by kernel_rfl) ?_
     obtain rfl := sj h
     exact je_nil (le_z (by kernel_rfl))
    refine ji_condF rfl hc9 ?_
    obtain rfl := sj h
    exact je_out' rfl (le_z (by kernel_rfl))
   rcases q2 with u | u2
   ·
    refine k_exit _ rfl ?_
    refine ji_end ?_
    refine ji_rz ⟨[(0, .sl R_Name_Fields [0] sv), (5, kI (IntKind.i64.wrap (i + 1)))], []⟩ (by kernel_rfl) ?_
    obtain rfl := sj h
    exact je_nil (le_z (by kernel_rfl))
   obtain rfl := sj h
   exact ke_ret' (le_z (by kernel_rfl))
  refine ji_condF rfl hc3 ?_
  obtain rfl := sj h
  exact je_out' rfl (le_z (by kernel_rfl))
 rcases q3 with u3 | u4
 ·
  refine k_exit _ rfl ?_
  refine ji_rz ⟨[(2, kI 0), (3, kI 0), (4, kI 0)], []⟩ (by kernel_rfl) ?_
  obtain rfl := sj h
  exact je_ret (le_z (by kernel_rfl))
 obtain rfl := sj h
 exact ke_ret (le_z (by kernel_rfl))
theorem schema_Message_ok {sv : (List T_Name_Fields)} {name : Str} {r : (Int × Int)} (h : schema_Message sv name = some r) : FnOk Try.prog 11 [.sl R_Name_Fields [0] sv, kS name] [kI r.1, k8 r.2] := by
 refine fn_intro' (E := ⟨[(4, kI r.1), (5, k8 r.2)], []⟩) 13 Try.func11 rfl rfl rfl ⟨rfl, rfl, trivial⟩ (fun Xt => ?_)
 refine ji_start ?_
 refine ji_le (E' := ⟨[(0, .sl R_Name_Fields [0] sv), (1, kS name)], []⟩) (fun _ _ _ hs => hs) ?_
 unfold schema_Message at h
 refine ji_region ⟨[(0, .sl R_Name_Fields [0] sv), (3, .ptr 902800 0)], [⟨902800, 9, [kS name]⟩]⟩ (ro_oz 0 [kS name] rfl (lo_box 902800 [kS name] [] rfl rfl rfl rfl rfl) rfl (by kernel_rfl)) ?_
 obtain ⟨rv, h_rv, h⟩ := bnd h
 refine ji_region ⟨[(6, kI rv)], []⟩ (ro_ob 1 [.ptr 902800 0] [⟨902800, 9, [kS name]⟩] ⟨[(7, .sl R_Name_Fields [0] sv), (8, .fv 28 [.ep Rp.str [902800] name 0])], []⟩ rfl (lo_mkcl (g := 28) [.tmp 3] [⟨902800, 9, [kS name]⟩] [.ep Rp.str [902800] name 0] rfl ⟨⟨rfl, rfl, rfl⟩, trivial⟩ rfl) rfl rfl (by kernel_rfl) (ro_oz 0 [.sl R_Name_Fields [0] sv, .fv 28 [.ep Rp.str [902800] name 0]] rfl (lo_call [.sl R_Name_Fields [0] sv, .fv 28 [.ep Rp.str [902800] name 0]] [0, 902800] 9 rfl Try.call27 (slices_IndexFunc_api_Schema_api_Message___schema_Message_1_ok h_rv) rfl rfl rfl rfl rfl) rfl (by kernel_rfl))) ?_
 refine ji_rz ⟨[(6, kI rv), (11, kB (decide (rv < 0)))], []⟩ (by kernel_rfl) ?_
 rcases ite_some h with ⟨hc1, h⟩ | ⟨hc1, h⟩
 ·
  refine ji_condT rfl hc1 ?_
  refine ji_rz ⟨[(4, kI 0), (5, k8 11)], []⟩ (by kernel_rfl) ?_
  obtain rfl := sj h
  exact je_ret (le_z (by kernel_rfl))
 refine ji_condF rfl hc1 ?_
 refine ji_rz ⟨[(4, kI rv), (5, k8 0)], []⟩ (by kernel_rfl) ?_
 obtain rfl := sj h
 exact je_ret (le_z (by kernel_rfl))
theorem schema_first__schema_ByNumber_1_ok {m : T_Name_Fields} {v : Int} {r : (Int × Bool)} (h : schema_first__schema_ByNumber_1 m v = some r) : FnOk Try.prog 29 [.rc R_Name_Fields [0] m, .fv 30 [.ep (Rp.int .i64) [0] v 0]] [kI r.1, kB r.2] := by
 refine fn_intro' (E := ⟨[(4, kI r.1), (5, kB r.2)], []⟩) 15 Try.func29 rfl rfl rfl ⟨rfl, rfl, trivial⟩ (fun Xt => ?_)
 refine ji_start ?_
 refine ji_le (E' := ⟨[(0, .rc R_Name_Fields [0] m), (1, .fv 30 [.ep (Rp.int .i64) [0] v 0])], []⟩) (fun _ _ _ hs => hs) ?_
 unfold schema_first__schema_ByNumber_1 at h
 refine ji_region ⟨[(1, .fv 30 [.ep (Rp.int .i64) [0] v 0]), (2, .ptr 11 0)], [⟨11, 35, [kS m.Name, .sl R_Name_Number_Kind_Repeated_Packed_Of [0] m.Fields]⟩]⟩ (ro_oz 0 [.rc R_Name_Fields [0] m] rfl (lo_box 11 [kS m.Name, .sl R_Name_Number_Kind_Repeated_Packed_Of [0] m.Fields] [0] rfl rfl rfl rfl rfl) rfl (by kernel_rfl)) ?_
 obtain ⟨rv, h_rv, h⟩ := bnd h
 refine ji_region ⟨[(6, kI rv)], []⟩ (ro_oz 3 [.sl R_Name_Number_Kind_Repeated_Packed_Of [0] m.Fields, .fv 30 [.ep (Rp.int .i64) [0] v 0]] rfl (lo_call [.sl R_Name_Number_Kind_Repeated_Packed_Of [0] m.Fields, .fv 30 [.ep (Rp.int .i64) [0] v 0]] [0] 10 rfl Try.call49 (slices_IndexFunc___api_Field_api_Field___schema_ByNumber_1_ok h_rv) rfl rfl rfl rfl rfl) rfl (by kernel_rfl)) ?_
 refine ji_rz ⟨[(4, kI (if rv < 0 then 0 else rv)), (5, kB (decide (rv ≥ 0)))], []⟩ (by kernel_rfl) ?_
 obtain rfl := sj h
 exact je_ret (le_z (by kernel_rfl))
theorem schema_first__schema_ByName_1_ok {m : T_Name_Fields} {v : Str} {r : (Int × Bool)} (h : schema_first__schema_ByName_1 m v = some r) : FnOk Try.prog 29 [.rc R_Name_Fields [0] m, .fv 31 [.ep Rp.str [0] v 0]] [kI r.1, kB r.2] := by
 refine fn_intro' (E := ⟨[(4, kI r.1), (5, kB r.2)], []⟩) 15 Try.func29 rfl rfl rfl ⟨rfl, rfl, trivial⟩ (fun Xt => ?_)
 refine ji_start ?_
 refine ji_le (E' := ⟨[(0, .rc R_Name_Fields [0] m), (1, .fv 31 [.ep Rp.str [0] v 0])], []⟩) (fun _ _ _ hs => hs) ?_
 unfold schema_first__schema_ByName_1 at h
 refine ji_region ⟨[(1, .fv 31 [.ep Rp.str [0] v 0]), (2, .ptr 11 0)], [⟨11, 35, [kS m.Name, .sl R_Name_Number_Kind_Repeated_Packed_Of [0] m.Fields]⟩]⟩ (ro_oz 0 [.rc R_Name_Fields [0] m] rfl (lo_box 11 [kS m.Name, .sl R_Name_Number_Kind_Repeated_Packed_Of [0] m.Fields] [0] rfl rfl rfl rfl rfl) rfl (by kernel_rfl)) ?_
 obtain ⟨rv, h_rv, h⟩ := bnd h
 refine ji_region ⟨[(6, kI rv)], []⟩ (ro_oz 3 [.sl R_Name_Number_Kind_Repeated_Packed_Of [0] m.Fields, .fv 31 [.ep Rp.str [0] v 0]] rfl (lo_call [.sl R_Name_Number_Kind_Repeated_Packed_Of [0] m.Fields, .fv 31 [.ep Rp.str [0] v 0]] [0] 10 rfl Try.call49 (slices_IndexFunc___api_Field_api_Field___schema_ByName_1_ok h_rv) rfl rfl rfl rfl rfl) rfl (by kernel_rfl)) ?_
 refine ji_rz ⟨[(4, kI (if rv < 0 then 0 else rv)), (5, kB (decide (rv ≥ 0)))], []⟩ (by kernel_rfl) ?_
 obtain rfl := sj h
 exact je_ret (le_z (by kernel_rfl))
end Go.Proofs.Ytnchbppkppbflaa
