/-
  The Go functions do what the plain functions say. No condition.
-/
import Derived.Test.YtnchbppkppbflaaG7
import Derived.Test.YtnchbppkppbflaaG6
namespace Go.Proofs.Ytnchbppkppbflaa
open Go Go.RowKit
set_option linter.unusedVariables false
set_option maxRecDepth 100000
theorem schema_Right_ok {sv : (List T_Name_Fields)} {r : Bool} (h : schema_Right sv = some r) : FnOk Try.prog 10 [.sl R_Name_Fields [0] sv] [kB r] := by
 refine fn_intro' (E := ⟨[(2, kB r)], []⟩) 12 Try.func10 rfl rfl rfl ⟨rfl, trivial⟩ (fun Xt => ?_)
 refine ji_start ?_
 refine ji_le (E' := ⟨[(0, .sl R_Name_Fields [0] sv)], []⟩) (fun _ _ _ hs => hs) ?_
 unfold schema_Right at h
 refine ji_rz ⟨[(0, .sl R_Name_Fields [0] sv)], []⟩ (by kernel_rfl) ?_
 obtain ⟨rv, h_rv, h⟩ := bnd h
 refine ji_region ⟨[(4, k8 rv.2)], []⟩ (ro_o 1 [.sl R_Name_Fields [0] sv] ⟨[(7, .tup [.rc R_Message_Field_What [] rv.1, k8 rv.2])], []⟩ rfl (lo_call [.sl R_Name_Fields [0] sv] [0] 9 rfl Try.call8 (schema_Check_ok h_rv) rfl rfl rfl rfl rfl) rfl (by kernel_rfl) (ro_o 3 [] ⟨[(3, .ptr 11 0), (8, .rc R_Message_Field_What [] rv.1), (9, k8 rv.2)], [⟨11, 27, [kI 0, kI 0, kI 0]⟩]⟩ rfl (lo_alloc 11 [kI 0, kI 0, kI 0] rfl Try.zeroValue27 rfl) rfl (by kernel_rfl) (ro_obz 0 [.ptr 11 0, .rc R_Message_Field_What [] rv.1] [⟨11, 27, [kI 0, kI 0, kI 0]⟩] rfl (lo_str (r := R_Message_Field_What) (b := ⟨11, 27, [kI 0, kI 0, kI 0]⟩) (off := 0) [kI rv.1.Message, kI rv.1.Field, kI rv.1.What] rfl Try.sizeOf27 rfl rfl rfl rfl) rfl rfl (by kernel_rfl)))) ?_
 refine ji_rz ⟨[(2, kB (rv.2 == 0))], []⟩ (by kernel_rfl) ?_
 obtain rfl := sj h
 exact je_ret (le_z (by kernel_rfl))
theorem darninglaw07_alive_ok  {r : Bool} (h : darninglaw07_alive = some r) : FnOk Try.prog 6 [] [kB r] := by
 refine fn_intro' (E := ⟨[(0, kB r)], []⟩) 8 Try.func6 rfl rfl rfl ⟨rfl, trivial⟩ (fun Xt => ?_)
 refine ji_start ?_
 refine ji_le (E' := ⟨[], []⟩) (fun _ _ _ hs => hs) ?_
 unfold darninglaw07_alive at h
 refine ji_rz ⟨[], []⟩ (by kernel_rfl) ?_
 obtain ⟨g, h_g, h⟩ := bnd h
 refine ji_region ⟨[(0, kB g)], []⟩ ?_ ?_
 ·
  obtain ⟨rv, h_rv, h_g⟩ := bnd h_g
  refine (ro_o 0 [kS [97]] ⟨[(1, .ag [kS [97], kN])], []⟩ rfl (lo_builda [kS [97]] [kS [97], kN] rfl sta35 rfl) rfl (by kernel_rfl) (ro_o 0 [.ag [kS [97], kN]] ⟨[(2, .own R_Name_Fields 35 11 [] ([(⟨[97], []⟩ : T_Name_Fields)] : (List T_Name_Fields)))], []⟩ rfl (LocalOk.le (ins' := [(.tmp 1, .ag [kS [97], kN])]) (lo_bsl [.rc R_Name_Fields [] (⟨[97], []⟩ : T_Name_Fields)] 11 [] ([(⟨[97], []⟩ : T_Name_Fields)] : (List T_Name_Fields)) rfl zet23 rfl rfl rfl rfl) ⟨⟨rfl, le_tr (b := .ag [kS [97], .sl R_Name_Number_Kind_Repeated_Packed_Of [] []]) (le_ag ⟨AV.le_refl _, le_sl_nil _ _, trivial⟩) (le_agrc R_Name_Fields [] (⟨[97], []⟩ : T_Name_Fields) [kS [97], .sl R_Name_Number_Kind_Repeated_Packed_Of [] []] rfl rfl)⟩, trivial⟩) rfl (by kernel_rfl) (ro_o 0 [.own R_Name_Fields 35 11 [] ([(⟨[97], []⟩ : T_Name_Fields)] : (List T_Name_Fields))] ⟨[(3, kB rv)], []⟩ rfl (lo_call [.own R_Name_Fields 35 11 [] ([(⟨[97], []⟩ : T_Name_Fields)] : (List T_Name_Fields))] [11] 10 rfl Try.call10 (schema_Right_ok h_rv) rfl rfl rfl rfl rfl) rfl (by kernel_rfl) (ro_sp 1 4 rv ⟨[(4, kB rv)], []⟩ (by kernel_rfl) rfl (fun hc1 => ?_) (fun hc1 => ?_)))))
  ·
   replace h_g := iteT h_g hc1
   obtain ⟨rv2, h_rv2, h_g⟩ := bnd h_g
   obtain rfl := sj h_g
   exact (ro_oz 0 [kN] rfl (lo_call [kN] [1] 10 rfl Try.call10 (FnOk.le (ins' := [kN]) (schema_Right_ok h_rv2) ⟨le_sl_nil _ _, trivial⟩) rfl rfl rfl rfl rfl) rfl (by kernel_rfl))
  replace h_g := iteF h_g hc1
  obtain rfl := sj h_g
  exact (ro_z (by kernel_rfl))
 obtain rfl := sj h
 exact je_ret (le_z (by kernel_rfl))
end Go.Proofs.Ytnchbppkppbflaa
