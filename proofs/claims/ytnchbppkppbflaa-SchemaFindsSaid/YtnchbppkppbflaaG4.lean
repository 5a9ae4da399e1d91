/-
  The Go functions do what the plain functions say. No condition.
-/
import Derived.Test.YtnchbppkppbflaaG3
namespace Go.Proofs.Ytnchbppkppbflaa
open Go Go.RowKit
set_option linter.unusedVariables false
set_option maxRecDepth 100000
theorem schema_check_message_ok {c : T_size_kinds_names_numbers} {m : T_Name_Fields} {r : (Int × (List (T_message_name × Bool)) × (List (T_message_number × Bool)))} (h : schema_check_message c m = some r) : FnOkW Try.prog 23 [.ag [kI c.size, .sl (Rp.int .i64) [0] c.kinds, .om R_message_name Rp.bool 2 [0] c.names, .om R_message_number Rp.bool 3 [0] c.numbers], .rc R_Name_Fields [0] m] [kI r.1] [.ag [.any, .any, .om R_message_name Rp.bool 2 [0] r.2.1, .om R_message_number Rp.bool 3 [0] r.2.2], .any] := by
 refine fn_introW (E := ⟨[(0, .ag [.any, .any, .om R_message_name Rp.bool 2 [0] r.2.1, .om R_message_number Rp.bool 3 [0] r.2.2]), (4, kI r.1)], []⟩) 27 [0] Try.func23 rfl rfl rfl ⟨rfl, trivial⟩ ⟨.inr ⟨rfl, rfl⟩, .inl rfl, trivial⟩ rfl (fun Xt old => ?_)
 refine ji_start ?_
 refine ji_le (E' := ⟨[(0, .ag [kI c.size, .sl (Rp.int .i64) [0] c.kinds, .om R_message_name Rp.bool 2 [0] c.names, .om R_message_number Rp.bool 3 [0] c.numbers]), (1, .rc R_Name_Fields [0] m)], []⟩) (fun _ _ _ hs => hs) ?_
 unfold schema_check_message at h
 refine ji_region ⟨[(0, .ag [kI c.size, .sl (Rp.int .i64) [0] c.kinds, .om R_message_name Rp.bool 2 [0] c.names, .om R_message_number Rp.bool 3 [0] c.numbers]), (2, .ptr 11 0), (3, .ptr 12 0)], [⟨11, 55, [kI c.size, .sl (Rp.int .i64) [0] c.kinds, .om R_message_name Rp.bool 2 [0] c.names, .om R_message_number Rp.bool 3 [0] c.numbers]⟩, ⟨12, 35, [kS m.Name, .sl R_Name_Number_Kind_Repeated_Packed_Of [0] m.Fields]⟩]⟩ (ro_o 0 [.ag [kI c.size, .sl (Rp.int .i64) [0] c.kinds, .om R_message_name Rp.bool 2 [0] c.names, .om R_message_number Rp.bool 3 [0] c.numbers]] ⟨[(0, .ag [kI c.size, .sl (Rp.int .i64) [0] c.kinds, .om R_message_name Rp.bool 2 [0] c.names, .om R_message_number Rp.bool 3 [0] c.numbers]), (1, .rc R_Name_Fields [0] m), (2, .ptr 11 0)], [⟨11, 55, [kI c.size, .sl (Rp.int .i64) [0] c.kinds, .om R_message_name Rp.bool 2 [0] c.names, .om R_message_number Rp.bool 3 [0] c.numbers]⟩]⟩ rfl (lo_boxa 11 rfl rfl) rfl (by kernel_rfl) (ro_oz 0 [.rc R_Name_Fields [0] m] rfl (lo_box 12 [kS m.Name, .sl R_Name_Number_Kind_Repeated_Packed_Of [0] m.Fields] [0] rfl rfl rfl rfl rfl) rfl (by kernel_rfl))) ?_
 refine ji_region ⟨[(0, .ag [kI c.size, .sl (Rp.int .i64) [0] c.kinds, .om R_message_name Rp.bool 2 [0] c.names, .om R_message_number Rp.bool 3 [0] c.numbers]), (2, .ptr 11 0), (3, .ptr 12 0), (5, .ptr 13 0)], [⟨11, 55, [kI c.size, .sl (Rp.int .i64) [0] c.kinds, .om R_message_name Rp.bool 2 [0] c.names, .om R_message_number Rp.bool 3 [0] c.numbers]⟩, ⟨12, 35, [kS m.Name, .sl R_Name_Number_Kind_Repeated_Packed_Of [0] m.Fields]⟩, ⟨13, 78, [kI (-1), kS m.Name]⟩]⟩ (ro_o 2 [kI (-1), kS m.Name] ⟨[(0, .ag [kI c.size, .sl (Rp.int .i64) [0] c.kinds, .om R_message_name Rp.bool 2 [0] c.names, .om R_message_number Rp.bool 3 [0] c.numbers]), (2, .ptr 11 0), (3, .ptr 12 0), (8, .rc R_message_name [] (⟨(-1), m.Name⟩ : T_message_name))], [⟨11, 55, [kI c.size, .sl (Rp.int .i64) [0] c.kinds, .om R_message_name Rp.bool 2 [0] c.names, .om R_message_number Rp.bool 3 [0] c.numbers]⟩, ⟨12, 35, [kS m.Name, .sl R_Name_Number_Kind_Repeated_Packed_Of [0] m.Fields]⟩]⟩ rfl (lo_build (r := R_message_name) [kI (-1), kS m.Name] [] (⟨(-1), m.Name⟩ : T_message_name) rfl stt78 rfl rfl) rfl (by kernel_rfl) (ro_o 0 [] ⟨[(0, .ag [kI c.size, .sl (Rp.int .i64) [0] c.kinds, .om R_message_name Rp.bool 2 [0] c.names, .om R_message_number Rp.bool 3 [0] c.numbers]), (2, .ptr 11 0), (3, .ptr 12 0), (5, .ptr 13 0), (8, .rc R_message_name [] (⟨(-1), m.Name⟩ : T_message_name))], [⟨11, 55, [kI c.size, .sl (Rp.int .i64) [0] c.kinds, .om R_message_name Rp.bool 2 [0] c.names, .om R_message_number Rp.bool 3 [0] c.numbers]⟩, ⟨12, 35, [kS m.Name, .sl R_Name_Number_Kind_Repeated_Packed_Of [0] m.Fields]⟩, ⟨13, 78, [kI 0, kS []]⟩]⟩ rfl (lo_alloc 13 [kI 0, kS []] rfl Try.zeroValue78 rfl) rfl (by kernel_rfl) (ro_obz 0 [.ptr 13 0, .rc R_message_name [] (⟨(-1), m.Name⟩ : T_message_name)] [⟨13, 78, [kI 0, kS []]⟩] rfl (lo_str (r := R_message_name) (b := ⟨13, 78, [kI 0, kS []]⟩) (off := 0) [kI (-1), kS m.Name] rfl Try.sizeOf78 rfl rfl rfl rfl) rfl rfl (by kernel_rfl)))) ?_
 refine ji_block ?_
 obtain ⟨rv, h_rv, h⟩ := bnd h
 refine ji_region ⟨[(0, .ag [kI c.size, .sl (Rp.int .i64) [0] c.kinds, .om R_message_name Rp.bool 2 [0] c.names, .om R_message_number Rp.bool 3 [0] c.numbers]), (2, .ptr 11 0), (3, .ptr 12 0), (5, .ptr 13 0), (9, kB (!rv))], [⟨11, 55, [kI c.size, .sl (Rp.int .i64) [0] c.kinds, .om R_message_name Rp.bool 2 [0] c.names, .om R_message_number Rp.bool 3 [0] c.numbers]⟩, ⟨12, 35, [kS m.Name, .sl R_Name_Number_Kind_Repeated_Packed_Of [0] m.Fields]⟩, ⟨13, 78, [kI (-1), kS m.Name]⟩]⟩ (ro_oz 2 [kS m.Name] rfl (lo_call [kS m.Name] [1] 12 rfl Try.call42 (schema_isName_ok h_rv) rfl rfl rfl rfl rfl) rfl (by kernel_rfl)) ?_
 rcases ite_some h with ⟨hc1, h⟩ | ⟨hc1, h⟩
 ·
  refine ji_condT rfl hc1 ?_
  refine ji_rz ⟨[(0, .ag [kI c.size, .sl (Rp.int .i64) [0] c.kinds, .om R_message_name Rp.bool 2 [0] c.names, .om R_message_number Rp.bool 3 [0] c.numbers]), (4, kI 2)], []⟩ (by kernel_rfl) ?_
  obtain rfl := sj h
  refine je_wr ?_
  refine le_at 0 (.ag [.any, .any, .om R_message_name Rp.bool 2 [0] ((2, c.names, c.numbers) : (Int × (List (T_message_name × Bool)) × (List (T_message_number × Bool)))).2.1, .om R_message_number Rp.bool 3 [0] ((2, c.names, c.numbers) : (Int × (List (T_message_name × Bool)) × (List (T_message_number × Bool)))).2.2]) rfl (le_ag ⟨le_any _, le_any _, AV.le_refl _, AV.le_refl _, trivial⟩) ?_
  exact le_z (by kernel_rfl)
 refine ji_condF rfl hc1 ?_
 refine ji_region ⟨[(0, .ag [kI c.size, .sl (Rp.int .i64) [0] c.kinds, .om R_message_name Rp.bool 2 [0] c.names, .om R_message_number Rp.bool 3 [0] c.numbers]), (2, .ptr 11 0), (3, .ptr 12 0), (5, .ptr 13 0), (14, kB ((mget c.names (⟨(-1), m.Name⟩ : T_message_name)).getD false))], [⟨11, 55, [kI c.size, .sl (Rp.int .i64) [0] c.kinds, .om R_message_name Rp.bool 2 [0] c.names, .om R_message_number Rp.bool 3 [0] c.numbers]⟩, ⟨12, 35, [kS m.Name, .sl R_Name_Number_Kind_Repeated_Packed_Of [0] m.Fields]⟩, ⟨13, 78, [kI (-1), kS m.Name]⟩]⟩ (ro_ob 2 [.ptr 13 0] [⟨13, 78, [kI (-1), kS m.Name]⟩] ⟨[(0, .ag [kI c.size, .sl (Rp.int .i64) [0] c.kinds, .om R_message_name Rp.bool 2 [0] c.names, .om R_message_number Rp.bool 3 [0] c.numbers]), (2, .ptr 11 0), (3, .ptr 12 0), (5, .ptr 13 0), (16, .om R_message_name Rp.bool 2 [0] c.names), (17, .rc R_message_name [] (⟨(-1), m.Name⟩ : T_message_name))], [⟨11, 55, [kI c.size, .sl (Rp.int .i64) [0] c.kinds, .om R_message_name Rp.bool 2 [0] c.names, .om R_message_number Rp.bool 3 [0] c.numbers]⟩, ⟨12, 35, [kS m.Name, .sl R_Name_Number_Kind_Repeated_Packed_Of [0] m.Fields]⟩, ⟨13, 78, [kI (-1), kS m.Name]⟩]⟩ rfl (lo_ldb (r := R_message_name) (⟨(-1), m.Name⟩ : T_message_name) [] rfl ⟨Try.isAgg78, Try.sizeOf78⟩ rfl rfl) rfl rfl (by kernel_rfl) (ro_oz 0 [.om R_message_name Rp.bool 2 [0] c.names, .rc R_message_name [] (⟨(-1), m.Name⟩ : T_message_name)] rfl (lo_mget (rk := R_message_name) (rv := Rp.bool) (m := c.names) (k := (⟨(-1), m.Name⟩ : T_message_name)) (kB ((mget c.names (⟨(-1), m.Name⟩ : T_message_name)).getD false)) rfl mapt52 (isMp_om _ _ _ _ _) (asV_rc rfl) (elAV_lf rfl rfl rfl)) rfl (by kernel_rfl))) ?_
 rcases ite_some h with ⟨hc2, h⟩ | ⟨hc2, h⟩
 ·
  refine ji_condT rfl hc2 ?_
  refine ji_rz ⟨[(0, .ag [kI c.size, .sl (Rp.int .i64) [0] c.kinds, .om R_message_name Rp.bool 2 [0] c.names, .om R_message_number Rp.bool 3 [0] c.numbers]), (4, kI 3)], []⟩ (by kernel_rfl) ?_
  obtain rfl := sj h
  refine je_wr ?_
  refine le_at 0 (.ag [.any, .any, .om R_message_name Rp.bool 2 [0] ((3, c.names, c.numbers) : (Int × (List (T_message_name × Bool)) × (List (T_message_number × Bool)))).2.1, .om R_message_number Rp.bool 3 [0] ((3, c.names, c.numbers) : (Int × (List (T_message_name × Bool)) × (List (T_message_number × Bool)))).2.2]) rfl (le_ag ⟨le_any _, le_any _, AV.le_refl _, AV.le_refl _, trivial⟩) ?_
  exact le_z (by kernel_rfl)
 refine ji_condF rfl hc2 ?_
 refine ji_rz ⟨[(0, .ag [kI c.size, .sl (Rp.int .i64) [0] c.kinds, .om R_message_name Rp.bool 2 [0] c.names, .om R_message_number Rp.bool 3 [0] c.numbers]), (2, .ptr 11 0), (5, .ptr 13 0), (19, kB (decide ((m.Fields.length : Int) > 200)))], [⟨11, 55, [kI c.size, .sl (Rp.int .i64) [0] c.kinds, .om R_message_name Rp.bool 2 [0] c.names, .om R_message_number Rp.bool 3 [0] c.numbers]⟩, ⟨13, 78, [kI (-1), kS m.Name]⟩]⟩ (by kernel_rfl) ?_
 rcases ite_some h with ⟨hc3, h⟩ | ⟨hc3, h⟩
 ·
  refine ji_condT rfl hc3 ?_
  refine ji_rz ⟨[(0, .ag [kI c.size, .sl (Rp.int .i64) [0] c.kinds, .om R_message_name Rp.bool 2 [0] c.names, .om R_message_number Rp.bool 3 [0] c.numbers]), (4, kI 4)], []⟩ (by kernel_rfl) ?_
  obtain rfl := sj h
  refine je_wr ?_
  refine le_at 0 (.ag [.any, .any, .om R_message_name Rp.bool 2 [0] ((4, c.names, c.numbers) : (Int × (List (T_message_name × Bool)) × (List (T_message_number × Bool)))).2.1, .om R_message_number Rp.bool 3 [0] ((4, c.names, c.numbers) : (Int × (List (T_message_name × Bool)) × (List (T_message_number × Bool)))).2.2]) rfl (le_ag ⟨le_any _, le_any _, AV.le_refl _, AV.le_refl _, trivial⟩) ?_
  exact le_z (by kernel_rfl)
 refine ji_condF rfl hc3 ?_
 refine ji_end ?_
 refine ji_region ⟨[(0, .ag [kI c.size, .sl (Rp.int .i64) [0] c.kinds, .om R_message_name Rp.bool 2 [0] (mput c.names (⟨(-1), m.Name⟩ : T_message_name) true), .om R_message_number Rp.bool 3 [0] c.numbers])], []⟩ (ro_ob 2 [.ptr 13 0] [⟨13, 78, [kI (-1), kS m.Name]⟩] ⟨[(0, .ag [kI c.size, .sl (Rp.int .i64) [0] c.kinds, .om R_message_name Rp.bool 2 [0] c.names, .om R_message_number Rp.bool 3 [0] c.numbers]), (25, .om R_message_name Rp.bool 2 [0] c.names), (26, .rc R_message_name [] (⟨(-1), m.Name⟩ : T_message_name))], []⟩ rfl (lo_ldb (r := R_message_name) (⟨(-1), m.Name⟩ : T_message_name) [] rfl ⟨Try.isAgg78, Try.sizeOf78⟩ rfl rfl) rfl rfl (by kernel_rfl) (ro_pk 0 ⟨[(0, .ag [kI c.size, .sl (Rp.int .i64) [0] c.kinds, .om R_message_name Rp.bool 2 [0] c.names, .om R_message_number Rp.bool 3 [0] c.numbers]), (25, .om R_message_name Rp.bool 2 [0] c.names), (26, .rc R_message_name [] (⟨(-1), m.Name⟩ : T_message_name))], []⟩ (by kernel_rfl) (ro_turn ⟨[(0, .ag [kI c.size, .sl (Rp.int .i64) [0] c.kinds, .om R_message_name Rp.bool 2 [0] (mput c.names (⟨(-1), m.Name⟩ : T_message_name) true), .om R_message_number Rp.bool 3 [0] c.numbers]), (25, .om R_message_name Rp.bool 2 [0] (mput c.names (⟨(-1), m.Name⟩ : T_message_name) true)), (26, .rc R_message_name [] (⟨(-1), m.Name⟩ : T_message_name))], []⟩ (st_mset (rk := R_message_name) (rv := Rp.bool) (m := c.names) (ℓ := 2) (C := [0]) (C1 := []) (D := []) (⟨(-1), m.Name⟩ : T_message_name) true [0] mapt52 (.inl rfl) (asV_rc rfl) (asV_lf rfl rfl) rfl) rfl (by kernel_rfl) (by kernel_rfl) ⟨⟨_, rfl, tn_ag ⟨tn_keep rfl, tn_keep rfl, tn_at 0 rfl, tn_keep rfl, trivial⟩⟩, ⟨_, rfl, tn_at 0 rfl⟩, ⟨_, rfl, tn_keep rfl⟩, trivial⟩ trivial (ro_z (by kernel_rfl))))) ?_
 refine ji_rz ⟨[(0, .ag [kI c.size, .sl (Rp.int .i64) [0] c.kinds, .om R_message_name Rp.bool 2 [0] (mput c.names (⟨(-1), m.Name⟩ : T_message_name) true), .om R_message_number Rp.bool 3 [0] c.numbers]), (4, kI 0)], []⟩ (by kernel_rfl) ?_
 obtain rfl := sj h
 refine je_wr ?_
 refine le_at 0 (.ag [.any, .any, .om R_message_name Rp.bool 2 [0] ((0, (mput c.names (⟨(-1), m.Name⟩ : T_message_name) true), c.numbers) : (Int × (List (T_message_name × Bool)) × (List (T_message_number × Bool)))).2.1, .om R_message_number Rp.bool 3 [0] ((0, (mput c.names (⟨(-1), m.Name⟩ : T_message_name) true), c.numbers) : (Int × (List (T_message_name × Bool)) × (List (T_message_number × Bool)))).2.2]) rfl (le_ag ⟨le_any _, le_any _, AV.le_refl _, AV.le_refl _, trivial⟩) ?_
 exact le_z (by kernel_rfl)
theorem kind_Number_ok {k : Int} {r : Bool} (h : kind_Number k = some r) : FnOk Try.prog 59 [kI k] [kB r] := by
 refine fn_intro' (E := ⟨[(2, kB r)], []⟩) 16 Try.func59 rfl rfl rfl ⟨rfl, trivial⟩ (fun Xt => ?_)
 refine ji_start ?_
 refine ji_le (E' := ⟨[(0, kI k)], []⟩) (fun _ _ _ hs => hs) ?_
 unfold kind_Number at h
 refine ji_rz ⟨[(0, kI k)], []⟩ (by kernel_rfl) ?_
 obtain ⟨rv, h_rv, h⟩ := bnd h
 refine ji_region ⟨[(3, kI rv.1), (4, k8 rv.2)], []⟩ (ro_oz 1 [kI k] rfl (lo_call [kI k] [1] 9 rfl Try.call65 (kind_Wire_ok h_rv) rfl rfl rfl rfl rfl) rfl (by kernel_rfl)) ?_
 refine ji_region ⟨[(2, kB ((rv.2 == 0) && (rv.1 != 2)))], []⟩ ?_ ?_
 ·
  refine (ro_sp 3 12 (rv.2 == 0) ⟨[(3, kI rv.1), (12, kB (rv.2 == 0))], []⟩ (by kernel_rfl) rfl (fun hc1 => ?_) (fun hc1 => ?_))
  · exact (ro_zb 2 (rv.1 != 2) ((rv.2 == 0) && (rv.1 != 2)) (by rw [hc1] <;> rfl) (by kernel_rfl) (by kernel_rfl))
  exact (ro_zb 2 false ((rv.2 == 0) && (rv.1 != 2)) (by rw [hc1] <;> rfl) (by kernel_rfl) (by kernel_rfl))
 obtain rfl := sj h
 exact je_ret (le_z (by kernel_rfl))
theorem schema_Message_ok {sv : (List T_Name_Fields)} {name : Str} {r : (Int × Int)} (h : schema_Message sv name = some r) : FnOk Try.prog 11 [.sl R_Name_Fields [0] sv, kS name] [kI r.1, k8 r.2] := by
 refine fn_intro' (E := ⟨[(4, kI r.1), (5, k8 r.2)], []⟩) 13 Try.func11 rfl rfl rfl ⟨rfl, rfl, trivial⟩ (fun Xt => ?_)
 refine ji_start ?_
 refine ji_le (E' := ⟨[(0, .sl R_Name_Fields [0] sv), (1, kS name)], []⟩) (fun _ _ _ hs => hs) ?_
 unfold schema_Message at h
 refine ji_region ⟨[(0, .sl R_Name_Fields [0] sv), (3, .ptr 902800 0)], [⟨902800, 9, [kS name]⟩]⟩ (ro_oz 0 [kS name] rfl (lo_box 902800 [kS name] [] rfl rfl rfl rfl rfl) rfl (by kernel_rfl)) ?_
 obtain ⟨rv, h_rv, h⟩ := bnd h
 refine ji_region ⟨[(6, kI rv)], []⟩ (ro_ob 1 [.ptr 902800 0] [⟨902800, 9, [kS name]⟩] ⟨[(7, .sl R_Name_Fields [0] sv), (8, .fv 28 [.ep Rp.str [902800] name 0])], []⟩ rfl (lo_mkcl (g := 28) [.tmp 3] [⟨902800, 9, [kS name]⟩] [.ep Rp.str [902800] name 0] rfl ⟨⟨rfl, rfl, rfl⟩, trivial⟩ rfl) rfl rfl (by kernel_rfl) (ro_oz 0 [.sl R_Name_Fields [0] sv, .fv 28 [.ep Rp.str [902800] name 0]] rfl (lo_call [.sl R_Name_Fields [0] sv, .fv 28 [.ep Rp.str [902800] name 0]] [0, 902800] 9 rfl Try.call27 (slices_IndexFunc_api_Schema_api_Message___schema_Message_1_ok h_rv) rfl rfl rfl rfl rfl) rfl (by kernel_rfl))) ?_
 refine ji_rz ⟨[(6, kI rv), (11, kB (decide (rv < 0)))], []⟩ (by kernel_rfl) ?_
 rcases ite_some h with ⟨hc1, h⟩ | ⟨hc1, h⟩
 ·
  refine ji_condT rfl hc1 ?_
  refine ji_rz ⟨[(4, kI 0), (5, k8 11)], []⟩ (by kernel_rfl) ?_
  obtain rfl := sj h
  exact je_ret (le_z (by kernel_rfl))
 refine ji_condF rfl hc1 ?_
 refine ji_rz ⟨[(4, kI rv), (5, k8 0)], []⟩ (by kernel_rfl) ?_
 obtain rfl := sj h
 exact je_ret (le_z (by kernel_rfl))
theorem schema_first__schema_ByNumber_1_ok {m : T_Name_Fields} {v : Int} {r : (Int × Bool)} (h : schema_first__schema_ByNumber_1 m v = some r) : FnOk Try.prog 29 [.rc R_Name_Fields [0] m, .fv 30 [.ep (Rp.int .i64) [0] v 0]] [kI r.1, kB r.2] := by
 refine fn_intro' (E := ⟨[(4, kI r.1), (5, kB r.2)], []⟩) 15 Try.func29 rfl rfl rfl ⟨rfl, rfl, trivial⟩ (fun Xt => ?_)
 refine ji_start ?_
 refine ji_le (E' := ⟨[(0, .rc R_Name_Fields [0] m), (1, .fv 30 [.ep (Rp.int .i64) [0] v 0])], []⟩) (fun _ _ _ hs => hs) ?_
 unfold schema_first__schema_ByNumber_1 at h
 refine ji_region ⟨[(1, .fv 30 [.ep (Rp.int .i64) [0] v 0]), (2, .ptr 11 0)], [⟨11, 35, [kS m.Name, .sl R_Name_Number_Kind_Repeated_Packed_Of [0] m.Fields]⟩]⟩ (ro_oz 0 [.rc R_Name_Fields [0] m] rfl (lo_box 11 [kS m.Name, .sl R_Name_Number_Kind_Repeated_Packed_Of [0] m.Fields] [0] rfl rfl rfl rfl rfl) rfl (by kernel_rfl)) ?_
 obtain ⟨rv, h_rv, h⟩ := bnd h
 refine ji_region ⟨[(6, kI rv)], []⟩ (ro_oz 3 [.sl R_Name_Number_Kind_Repeated_Packed_Of [0] m.Fields, .fv 30 [.ep (Rp.int .i64) [0] v 0]] rfl (lo_call [.sl R_Name_Number_Kind_Repeated_Packed_Of [0] m.Fields, .fv 30 [.ep (Rp.int .i64) [0] v 0]] [0] 10 rfl Try.call49 (slices_IndexFunc___api_Field_api_Field___schema_ByNumber_1_ok h_rv) rfl rfl rfl rfl rfl) rfl (by kernel_rfl)) ?_
 refine ji_rz ⟨[(4, kI (if rv < 0 then 0 else rv)), (5, kB (decide (rv ≥ 0)))], []⟩ (by kernel_rfl) ?_
 obtain rfl := sj h
 exact je_ret (le_z (by kernel_rfl))
theorem schema_first__schema_ByName_1_ok {m : T_Name_Fields} {v : Str} {r : (Int × Bool)} (h : schema_first__schema_ByName_1 m v = some r) : FnOk Try.prog 29 [.rc R_Name_Fields [0] m, .fv 31 [.ep Rp.str [0] v 0]] [kI r.1, kB r.2] := by
 refine fn_intro' (E := ⟨[(4, kI r.1), (5, kB r.2)], []⟩) 15 Try.func29 rfl rfl rfl ⟨rfl, rfl, trivial⟩ (fun Xt => ?_)
 refine ji_start ?_
 refine ji_le (E' := ⟨[(0, .rc R_Name_Fields [0] m), (1, .fv 31 [.ep Rp.str [0] v 0])], []⟩) (fun _ _ _ hs => hs) ?_
 unfold schema_first__schema_ByName_1 at h
 refine ji_region ⟨[(1, .fv 31 [.ep Rp.str [0] v 0]), (2, .ptr 11 0)], [⟨11, 35, [kS m.Name, .sl R_Name_Number_Kind_Repeated_Packed_Of [0] m.Fields]⟩]⟩ (ro_oz 0 [.rc R_Name_Fields [0] m] rfl (lo_box 11 [kS m.Name, .sl R_Name_Number_Kind_Repeated_Packed_Of [0] m.Fields] [0] rfl rfl rfl rfl rfl) rfl (by kernel_rfl)) ?_
 obtain ⟨rv, h_rv, h⟩ := bnd h
 refine ji_region ⟨[(6, kI rv)], []⟩ (ro_oz 3 [.sl R_Name_Number_Kind_Repeated_Packed_Of [0] m.Fields, .fv 31 [.ep Rp.str [0] v 0]] rfl (lo_call [.sl R_Name_Number_Kind_Repeated_Packed_Of [0] m.Fields, .fv 31 [.ep Rp.str [0] v 0]] [0] 10 rfl Try.call49 (slices_IndexFunc___api_Field_api_Field___schema_ByName_1_ok h_rv) rfl rfl rfl rfl rfl) rfl (by kernel_rfl)) ?_
 refine ji_rz ⟨[(4, kI (if rv < 0 then 0 else rv)), (5, kB (decide (rv ≥ 0)))], []⟩ (by kernel_rfl) ?_
 obtain rfl := sj h
 exact je_ret (le_z (by kernel_rfl))
theorem schema_Sorted_1_ok {i : Int} {j : Int} {v : T_Name_Fields} {r : Int} (h : schema_Sorted_1 i j v = some r) : FnOk Try.prog 33 [kI i, kI j, .ep R_Name_Fields [0] v 0] [kI r] := by
 refine fn_intro' (E := ⟨[(5, kI r)], []⟩) 19 Try.func33 rfl rfl rfl ⟨rfl, trivial⟩ (fun Xt => ?_)
 refine ji_start ?_
 refine ji_le (E' := ⟨[(0, kI i), (1, kI j), (2, .ep R_Name_Fields [0] v 0)], []⟩) (fun _ _ _ hs => hs) ?_
 unfold schema_Sorted_1 at h
 refine ji_rz ⟨[(0, kI i), (1, kI j), (2, .ep R_Name_Fields [0] v 0)], []⟩ (by kernel_rfl) ?_
 obtain ⟨x, h_x, h⟩ := bnd h
 obtain ⟨x2, h_x2, h⟩ := bnd h
 obtain ⟨rv, h_rv, h⟩ := bnd h
 refine ji_draw ⟨[(5, kI rv)], []⟩ [.ev, .ex [] [] [] (.sl R_Name_Number_Kind_Repeated_Packed_Of [0] v.Fields) [], .ev, .ex [] [] [] (.ep R_Name_Number_Kind_Repeated_Packed_Of [0] x 0) [], .ev, .ev, .ev, .ex [] [] [] (.sl R_Name_Number_Kind_Repeated_Packed_Of [0] v.Fields) [], .ev, .ex [] [] [] (.ep R_Name_Number_Kind_Repeated_Packed_Of [0] x2 0) [], .ev, .ev, .ex [] [] [] (kI rv) []] [⟨[(.tmp 6, .ep R_Name_Fields [0] v 1)], [], []⟩, ⟨[(.tmp 7, .sl R_Name_Number_Kind_Repeated_Packed_Of [0] v.Fields), (.tmp 8, kI i)], [], []⟩, ⟨[(.tmp 12, .ep R_Name_Fields [0] v 1)], [], []⟩, ⟨[(.tmp 13, .sl R_Name_Number_Kind_Repeated_Packed_Of [0] v.Fields), (.tmp 14, kI j)], [], []⟩, ⟨[(.func 34, .lf (.val (.func (.func 34) #[] #[]))), (.tmp 11, kI x.Number), (.tmp 17, kI x2.Number)], [], []⟩] [5] [] mixed (by kernel_rfl) (by exact (lw_e (lw_x (lo_as (lo_lds R_Name_Number_Kind_Repeated_Packed_Of v.Fields rfl rfl rfl) rfl) (lw_e (lw_x (lo_as (lo_ix rfl zet33.el (isSl_sl _ _ _) h_x) rfl) (lw_e (lw_e (lw_e (lw_x (lo_as (lo_lds R_Name_Number_Kind_Repeated_Packed_Of v.Fields rfl rfl rfl) rfl) (lw_e (lw_x (lo_as (lo_ix rfl zet33.el (isSl_sl _ _ _) h_x2) rfl) (lw_e (lw_e (lw_x (LocalOk.cons _ (lo_as (lo_call (args := [.tmp 11, .tmp 17]) [kI x.Number, kI x2.Number] [1] 9 rfl Try.call34 (cmp_Compare_int__ok h_rv) rfl rfl rfl rfl rfl) rfl)) lw_0)))))))))))))) ?_
 obtain rfl := sj h
 exact je_ret (le_z (by kernel_rfl))
theorem slices_EqualFunc_api_Schema_api_Schema_api_Message_api_Message___schema_sameMessage_ok {s1 : (List T_Name_Fields)} {s2 : (List T_Name_Fields)} {r : Bool} (h : slices_EqualFunc_api_Schema_api_Schema_api_Message_api_Message___schema_sameMessage s1 s2 = some r) : FnOk Try.prog 35 [.sl R_Name_Fields [0] s1, .sl R_Name_Fields [0] s2, .lf (.val (.func (.func 36) #[] #[]))] [kB r] := by
 refine fn_intro' (E := ⟨[(6, kB r)], []⟩) 32 Try.func35 rfl rfl rfl ⟨rfl, trivial⟩ (fun Xt => ?_)
 refine ji_start ?_
 refine ji_le (E' := ⟨[(0, .sl R_Name_Fields [0] s1), (1, .sl R_Name_Fields [0] s2), (2, .lf (.val (.func (.func 36) #[] #[])))], []⟩) (fun _ _ _ hs => hs) ?_
 unfold slices_EqualFunc_api_Schema_api_Schema_api_Message_api_Message___schema_sameMessage at h
 refine ji_rz ⟨[(0, .sl R_Name_Fields [0] s1), (1, .sl R_Name_Fields [0] s2), (2, .lf (.val (.func (.func 36) #[] #[])))], []⟩ (by kernel_rfl) ?_
 refine ji_rz ⟨[(0, .sl R_Name_Fields [0] s1), (1, .sl R_Name_Fields [0] s2), (2, .lf (.val (.func (.func 36) #[] #[]))), (14, kB ((s1.length : Int) != (s2.length : Int)))], []⟩ (by kernel_rfl) ?_
 rcases ite_some h with ⟨hc1, h⟩ | ⟨hc1, h⟩
 ·
  refine ji_condT rfl hc1 ?_
  refine ji_rz ⟨[(6, kB false)], []⟩ (by kernel_rfl) ?_
  obtain rfl := sj h
  exact je_ret (le_z (by kernel_rfl))
 refine ji_condF rfl hc1 ?_
 refine ji_rz ⟨[(1, .sl R_Name_Fields [0] s2), (2, .lf (.val (.func (.func 36) #[] #[]))), (15, .sl R_Name_Fields [0] s1), (16, kI (s1.length : Int)), (17, kI 0)], []⟩ (by kernel_rfl) ?_
 refine ji_block ?_
 obtain ⟨q, h_q, h⟩ := bnd h
 refine je_loop (fun s : Int => slices_EqualFunc_api_Schema_api_Schema_api_Message_api_Message___schema_sameMessage_b1 s1 s2 s) (fun s => ⟨[(1, .sl R_Name_Fields [0] s2), (2, .lf (.val (.func (.func 36) #[] #[]))), (15, .sl R_Name_Fields [0] s1), (16, kI (s1.length : Int)), (17, kI s)], []⟩) (fun o e a w => match o with | (.inl v_) => e = .exit 0 ∧ Sx ⟨⟨32, []⟩, Xt, false, #[]⟩ ⟨[], []⟩ a w | (.inr v_) => e = .ret ∧ Sx ⟨⟨32, []⟩, Xt, false, #[]⟩ ⟨[(6, kB false)], []⟩ a w) ?_ h_q (le_z (by kernel_rfl)) ?_
 ·
  clear h
  intro v o h
  refine ji_start ?_
  refine ji_le (E' := ⟨[(1, .sl R_Name_Fields [0] s2), (2, .lf (.val (.func (.func 36) #[] #[]))), (15, .sl R_Name_Fields [0] s1), (16, kI (s1.length : Int)), (17, kI v)], []⟩) (fun _ _ _ hs => hs) ?_
  replace h : slices_EqualFunc_api_Schema_api_Schema_api_Message_api_Message___schema_sameMessage_b1 s1 s2 v = some o := h
  unfold slices_EqualFunc_api_Schema_api_Schema_api_Message_api_Message___schema_sameMessage_b1 at h
  refine ji_rz ⟨[(1, .sl R_Name_Fields [0] s2), (2, .lf (.val (.func (.func 36) #[] #[]))), (15, .sl R_Name_Fields [0] s1), (16, kI (s1.length : Int)), (17, kI v), (18, kB (decide (v < (s1.length : Int))))], []⟩ (by kernel_rfl) ?_
  rcases ite_some h with ⟨hc2, h⟩ | ⟨hc2, h⟩
  ·
   refine ji_condT rfl hc2 ?_
   refine ji_block ?_
   obtain ⟨x, h_x, h⟩ := bnd h
   refine ji_region ⟨[(1, .sl R_Name_Fields [0] s2), (2, .lf (.val (.func (.func 36) #[] #[]))), (7, kI v), (8, .ptr 12 0), (15, .sl R_Name_Fields [0] s1), (16, kI (s1.length : Int)), (17, kI v)], [⟨12, 35, [kS x.Name, .sl R_Name_Number_Kind_Repeated_Packed_Of [0] x.Fields]⟩]⟩ (ro_o 1 [.sl R_Name_Fields [0] s1, kI v] ⟨[(1, .sl R_Name_Fields [0] s2), (2, .lf (.val (.func (.func 36) #[] #[]))), (15, .sl R_Name_Fields [0] s1), (16, kI (s1.length : Int)), (17, kI v), (19, kI v), (20, .ep R_Name_Fields [0] x 0)], []⟩ rfl (lo_ix rfl zet23.el (isSl_sl _ _ _) h_x) rfl (by kernel_rfl) (ro_o 0 [.ep R_Name_Fields [0] x 0] ⟨[(1, .sl R_Name_Fields [0] s2), (2, .lf (.val (.func (.func 36) #[] #[]))), (15, .sl R_Name_Fields [0] s1), (16, kI (s1.length : Int)), (17, kI v), (19, kI v), (21, .rc R_Name_Fields [0] x)], []⟩ rfl (lo_ldr rfl ⟨Try.isAgg35, Try.sizeOf35⟩) rfl (by kernel_rfl) (ro_o 0 [] ⟨[(1, .sl R_Name_Fields [0] s2), (2, .lf (.val (.func (.func 36) #[] #[]))), (8, .ptr 12 0), (15, .sl R_Name_Fields [0] s1), (16, kI (s1.length : Int)), (17, kI v), (19, kI v), (21, .rc R_Name_Fields [0] x)], [⟨12, 35, [kS [], kN]⟩]⟩ rfl (lo_alloc 12 [kS [], kN] rfl Try.zeroValue35 rfl) rfl (by kernel_rfl) (ro_obz 1 [.ptr 12 0, .rc R_Name_Fields [0] x] [⟨12, 35, [kS [], kN]⟩] rfl (lo_str (r := R_Name_Fields) (b := ⟨12, 35, [kS [], kN]⟩) (off := 0) [kS x.Name, .sl R_Name_Number_Kind_Repeated_Packed_Of [0] x.Fields] rfl Try.sizeOf35 rfl rfl rfl rfl) rfl rfl (by kernel_rfl))))) ?_
   obtain ⟨x2, h_x2, h⟩ := bnd h
   refine ji_region ⟨[(1, .sl R_Name_Fields [0] s2), (2, .lf (.val (.func (.func 36) #[] #[]))), (8, .ptr 12 0), (9, .ptr 13 0), (15, .sl R_Name_Fields [0] s1), (16, kI (s1.length : Int)), (17, kI v)], [⟨12, 35, [kS x.Name, .sl R_Name_Number_Kind_Repeated_Packed_Of [0] x.Fields]⟩, ⟨13, 35, [kS x2.Name, .sl R_Name_Number_Kind_Repeated_Packed_Of [0] x2.Fields]⟩]⟩ (ro_o 2 [.sl R_Name_Fields [0] s2, kI v] ⟨[(1, .sl R_Name_Fields [0] s2), (2, .lf (.val (.func (.func 36) #[] #[]))), (8, .ptr 12 0), (15, .sl R_Name_Fields [0] s1), (16, kI (s1.length : Int)), (17, kI v), (24, .ep R_Name_Fields [0] x2 0)], [⟨12, 35, [kS x.Name, .sl R_Name_Number_Kind_Repeated_Packed_Of [0] x.Fields]⟩]⟩ rfl (lo_ix rfl zet23.el (isSl_sl _ _ _) h_x2) rfl (by kernel_rfl) (ro_o 0 [.ep R_Name_Fields [0] x2 0] ⟨[(1, .sl R_Name_Fields [0] s2), (2, .lf (.val (.func (.func 36) #[] #[]))), (8, .ptr 12 0), (15, .sl R_Name_Fields [0] s1), (16, kI (s1.length : Int)), (17, kI v), (25, .rc R_Name_Fields [0] x2)], [⟨12, 35, [kS x.Name, .sl R_Name_Number_Kind_Repeated_Packed_Of [0] x.Fields]⟩]⟩ rfl (lo_ldr rfl ⟨Try.isAgg35, Try.sizeOf35⟩) rfl (by kernel_rfl) (ro_o 0 [] ⟨[(1, .sl R_Name_Fields [0] s2), (2, .lf (.val (.func (.func 36) #[] #[]))), (8, .ptr 12 0), (9, .ptr 13 0), (15, .sl R_Name_Fields [0] s1), (16, kI (s1.length : Int)), (17, kI v), (25, .rc R_Name_Fields [0] x2)], [⟨12, 35, [kS x.Name, .sl R_Name_Number_Kind_Repeated_Packed_Of [0] x.Fields]⟩, ⟨13, 35, [kS [], kN]⟩]⟩ rfl (lo_alloc 13 [kS [], kN] rfl Try.zeroValue35 rfl) rfl (by kernel_rfl) (ro_obz 0 [.ptr 13 0, .rc R_Name_Fields [0] x2] [⟨13, 35, [kS [], kN]⟩] rfl (lo_str (r := R_Name_Fields) (b := ⟨13, 35, [kS [], kN]⟩) (off := 0) [kS x2.Name, .sl R_Name_Number_Kind_Repeated_Packed_Of [0] x2.Fields] rfl Try.sizeOf35 rfl rfl rfl rfl) rfl rfl (by kernel_rfl))))) ?_
   obtain ⟨rv, h_rv, h⟩ := bnd h
   refine ji_region ⟨[(1, .sl R_Name_Fields [0] s2), (2, .lf (.val (.func (.func 36) #[] #[]))), (15, .sl R_Name_Fields [0] s1), (16, kI (s1.length : Int)), (17, kI v), (30, kB (!rv))], []⟩ (ro_ob 1 [.ptr 12 0] [⟨12, 35, [kS x.Name, .sl R_Name_Number_Kind_Repeated_Packed_Of [0] x.Fields]⟩] ⟨[(1, .sl R_Name_Fields [0] s2), (2, .lf (.val (.func (.func 36) #[] #[]))), (9, .ptr 13 0), (15, .sl R_Name_Fields [0] s1), (16, kI (s1.length : Int)), (17, kI v), (26, .lf (.val (.func (.func 36) #[] #[]))), (27, .ag [kS x.Name, .sl R_Name_Number_Kind_Repeated_Packed_Of [0] x.Fields])], [⟨13, 35, [kS x2.Name, .sl R_Name_Number_Kind_Repeated_Packed_Of [0] x2.Fields]⟩]⟩ rfl (lo_ldba (b := ⟨12, 35, [kS x.Name, .sl R_Name_Number_Kind_Repeated_Packed_Of [0] x.Fields]⟩) [kS x.Name, .sl R_Name_Number_Kind_Repeated_Packed_Of [0] x.Fields] rfl ⟨Try.isAgg35, Try.sizeOf35⟩ rfl rfl) rfl rfl (by kernel_rfl) (ro_ob 0 [.ptr 13 0] [⟨13, 35, [kS x2.Name, .sl R_Name_Number_Kind_Repeated_Packed_Of [0] x2.Fields]⟩] ⟨[(1, .sl R_Name_Fields [0] s2), (2, .lf (.val (.func (.func 36) #[] #[]))), (15, .sl R_Name_Fields [0] s1), (16, kI (s1.length : Int)), (17, kI v), (26, .lf (.val (.func (.func 36) #[] #[]))), (27, .ag [kS x.Name, .sl R_Name_Number_Kind_Repeated_Packed_Of [0] x.Fields]), (28, .ag [kS x2.Name, .sl R_Name_Number_Kind_Repeated_Packed_Of [0] x2.Fields])], []⟩ rfl (lo_ldba (b := ⟨13, 35, [kS x2.Name, .sl R_Name_Number_Kind_Repeated_Packed_Of [0] x2.Fields]⟩) [kS x2.Name, .sl R_Name_Number_Kind_Repeated_Packed_Of [0] x2.Fields] rfl ⟨Try.isAgg35, Try.sizeOf35⟩ rfl rfl) rfl rfl (by kernel_rfl) (ro_oz 0 [.lf (.val (.func (.func 36) #[] #[])), .ag [kS x.Name, .sl R_Name_Number_Kind_Repeated_Packed_Of [0] x.Fields], .ag [kS x2.Name, .sl R_Name_Number_Kind_Repeated_Packed_Of [0] x2.Fields]] rfl (LocalOk.le (ins' := [(.tmp 26, .lf (.val (.func (.func 36) #[] #[]))), (.tmp 27, .ag [kS x.Name, .sl R_Name_Number_Kind_Repeated_Packed_Of [0] x.Fields]), (.tmp 28, .ag [kS x2.Name, .sl R_Name_Number_Kind_Repeated_Packed_Of [0] x2.Fields])]) (lo_callv (args := [.tmp 27, .tmp 28]) [.rc R_Name_Fields [0] x, .rc R_Name_Fields [0] x2] [0] 12 rfl (isFv_val _) Try.call36 (schema_sameMessage_ok h_rv) rfl rfl rfl rfl rfl) ⟨⟨rfl, AV.le_refl _⟩, ⟨rfl, le_agrc R_Name_Fields [0] x [kS x.Name, .sl R_Name_Number_Kind_Repeated_Packed_Of [0] x.Fields] rfl rfl⟩, ⟨rfl, le_agrc R_Name_Fields [0] x2 [kS x2.Name, .sl R_Name_Number_Kind_Repeated_Packed_Of [0] x2.Fields] rfl rfl⟩, trivial⟩) rfl (by kernel_rfl)))) ?_
   rcases ite_some h with ⟨hc3, h⟩ | ⟨hc3, h⟩
   ·
    refine ji_condT rfl hc3 ?_
    refine ji_rz ⟨[(6, kB false)], []⟩ (by kernel_rfl) ?_
    obtain rfl := sj h
    exact je_ret' (le_z (by kernel_rfl))
   refine ji_condF rfl hc3 ?_
   refine ji_end ?_
   refine ji_rz ⟨[(1, .sl R_Name_Fields [0] s2), (2, .lf (.val (.func (.func 36) #[] #[]))), (15, .sl R_Name_Fields [0] s1), (16, kI (s1.length : Int)), (17, kI (IntKind.i64.wrap (v + 1)))], []⟩ (by kernel_rfl) ?_
   obtain rfl := sj h
   exact je_nil (le_z (by kernel_rfl))
  refine ji_condF rfl hc2 ?_
  obtain rfl := sj h
  exact je_out' rfl (le_z (by kernel_rfl))
 rcases q with u | u2
 ·
  refine k_exit _ rfl ?_
  refine ji_rz ⟨[(6, kB true)], []⟩ (by kernel_rfl) ?_
  obtain rfl := sj h
  exact je_ret (le_z (by kernel_rfl))
 obtain rfl := sj h
 exact ke_ret (le_z (by kernel_rfl))
end Go.Proofs.Ytnchbppkppbflaa
