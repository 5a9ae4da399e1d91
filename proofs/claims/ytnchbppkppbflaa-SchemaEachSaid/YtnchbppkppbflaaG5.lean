/-
  The Go functions do what the plain functions say. No condition.
-/
import Derived.Test.YtnchbppkppbflaaG4
namespace Go.Proofs.Ytnchbppkppbflaa
open Go Go.RowKit
set_option linter.unusedVariables false
set_option maxRecDepth 100000
theorem schema_mayPack_ok {f : T_Name_Number_Kind_Repeated_Packed_Of} {r : Bool} (h : schema_mayPack f = some r) : FnOk Try.prog 45 [.rc R_Name_Number_Kind_Repeated_Packed_Of [0] f] [kB r] := by
 refine fn_intro' (E := ⟨[(2, kB r)], []⟩) 10 Try.func45 rfl rfl rfl ⟨rfl, trivial⟩ (fun Xt => ?_)
 refine ji_start ?_
 refine ji_le (E' := ⟨[(0, .rc R_Name_Number_Kind_Repeated_Packed_Of [0] f)], []⟩) (fun _ _ _ hs => hs) ?_
 unfold schema_mayPack at h
 refine ji_region ⟨[(1, .ptr 11 0)], [⟨11, 50, [kS f.Name, kI f.Number, kI f.Kind, kB f.Repeated, kB f.Packed, kI f.Of]⟩]⟩ (ro_oz 0 [.rc R_Name_Number_Kind_Repeated_Packed_Of [0] f] rfl (lo_box 11 [kS f.Name, kI f.Number, kI f.Kind, kB f.Repeated, kB f.Packed, kI f.Of] [0] rfl rfl rfl rfl rfl) rfl (by kernel_rfl)) ?_
 obtain ⟨g, h_g, h⟩ := bnd h
 refine ji_region ⟨[(2, kB g)], []⟩ ?_ ?_
 ·
  refine (ro_sp 3 5 f.Repeated ⟨[(1, .ptr 11 0), (5, kB f.Repeated)], [⟨11, 50, [kS f.Name, kI f.Number, kI f.Kind, kB f.Repeated, kB f.Packed, kI f.Of]⟩]⟩ (by kernel_rfl) rfl (fun hc1 => ?_) (fun hc1 => ?_))
  ·
   replace h_g := iteT h_g hc1
   obtain ⟨rv, h_rv, h_g⟩ := bnd h_g
   obtain rfl := sj h_g
   exact (ro_oz 2 [kI f.Kind] rfl (lo_call [kI f.Kind] [1] 10 rfl Try.call59 (kind_Number_ok h_rv) rfl rfl rfl rfl rfl) rfl (by kernel_rfl))
  replace h_g := iteF h_g hc1
  obtain rfl := sj h_g
  exact (ro_z (by kernel_rfl))
 obtain rfl := sj h
 exact je_ret (le_z (by kernel_rfl))
theorem schema_ByNumber_ok {m : T_Name_Fields} {number : Int} {r : (Int × Bool)} (h : schema_ByNumber m number = some r) : FnOk Try.prog 12 [.rc R_Name_Fields [0] m, kI number] [kI r.1, kB r.2] := by
 refine fn_intro' (E := ⟨[(4, kI r.1), (5, kB r.2)], []⟩) 11 Try.func12 rfl rfl rfl ⟨rfl, rfl, trivial⟩ (fun Xt => ?_)
 refine ji_start ?_
 refine ji_le (E' := ⟨[(0, .rc R_Name_Fields [0] m), (1, kI number)], []⟩) (fun _ _ _ hs => hs) ?_
 unfold schema_ByNumber at h
 refine ji_region ⟨[(2, .ptr 11 0), (3, .ptr 903000 0)], [⟨11, 35, [kS m.Name, .sl R_Name_Number_Kind_Repeated_Packed_Of [0] m.Fields]⟩, ⟨903000, 3, [kI number]⟩]⟩ (ro_o 0 [.rc R_Name_Fields [0] m] ⟨[(1, kI number), (2, .ptr 11 0)], [⟨11, 35, [kS m.Name, .sl R_Name_Number_Kind_Repeated_Packed_Of [0] m.Fields]⟩]⟩ rfl (lo_box 11 [kS m.Name, .sl R_Name_Number_Kind_Repeated_Packed_Of [0] m.Fields] [0] rfl rfl rfl rfl rfl) rfl (by kernel_rfl) (ro_oz 0 [kI number] rfl (lo_box 903000 [kI number] [] rfl rfl rfl rfl rfl) rfl (by kernel_rfl))) ?_
 obtain ⟨rv, h_rv, h⟩ := bnd h
 refine ji_region ⟨[(4, kI rv.1), (5, kB rv.2)], []⟩ (ro_ob 0 [.ptr 11 0] [⟨11, 35, [kS m.Name, .sl R_Name_Number_Kind_Repeated_Packed_Of [0] m.Fields]⟩] ⟨[(3, .ptr 903000 0), (6, .ag [kS m.Name, .sl R_Name_Number_Kind_Repeated_Packed_Of [0] m.Fields])], [⟨903000, 3, [kI number]⟩]⟩ rfl (lo_ldba (b := ⟨11, 35, [kS m.Name, .sl R_Name_Number_Kind_Repeated_Packed_Of [0] m.Fields]⟩) [kS m.Name, .sl R_Name_Number_Kind_Repeated_Packed_Of [0] m.Fields] rfl ⟨Try.isAgg35, Try.sizeOf35⟩ rfl rfl) rfl rfl (by kernel_rfl) (ro_ob 0 [.ptr 903000 0] [⟨903000, 3, [kI number]⟩] ⟨[(6, .ag [kS m.Name, .sl R_Name_Number_Kind_Repeated_Packed_Of [0] m.Fields]), (7, .fv 30 [.ep (Rp.int .i64) [903000] number 0])], []⟩ rfl (lo_mkcl (g := 30) [.tmp 3] [⟨903000, 3, [kI number]⟩] [.ep (Rp.int .i64) [903000] number 0] rfl ⟨⟨rfl, rfl, rfl⟩, trivial⟩ rfl) rfl rfl (by kernel_rfl) (ro_oz 0 [.ag [kS m.Name, .sl R_Name_Number_Kind_Repeated_Packed_Of [0] m.Fields], .fv 30 [.ep (Rp.int .i64) [903000] number 0]] rfl (LocalOk.le (ins' := [(.tmp 6, .ag [kS m.Name, .sl R_Name_Number_Kind_Repeated_Packed_Of [0] m.Fields]), (.tmp 7, .fv 30 [.ep (Rp.int .i64) [903000] number 0])]) (lo_call (args := [.tmp 6, .tmp 7]) [.rc R_Name_Fields [0] m, .fv 30 [.ep (Rp.int .i64) [903000] number 0]] [0, 903000] 10 rfl Try.call29 (schema_first__schema_ByNumber_1_ok h_rv) rfl rfl rfl rfl rfl) ⟨⟨rfl, le_agrc R_Name_Fields [0] m [kS m.Name, .sl R_Name_Number_Kind_Repeated_Packed_Of [0] m.Fields] rfl rfl⟩, ⟨rfl, AV.le_refl _⟩, trivial⟩) rfl (by kernel_rfl)))) ?_
 obtain rfl := sj h
 exact je_ret (le_z (by kernel_rfl))
theorem schema_ByName_ok {m : T_Name_Fields} {name : Str} {r : (Int × Bool)} (h : schema_ByName m name = some r) : FnOk Try.prog 13 [.rc R_Name_Fields [0] m, kS name] [kI r.1, kB r.2] := by
 refine fn_intro' (E := ⟨[(4, kI r.1), (5, kB r.2)], []⟩) 11 Try.func13 rfl rfl rfl ⟨rfl, rfl, trivial⟩ (fun Xt => ?_)
 refine ji_start ?_
 refine ji_le (E' := ⟨[(0, .rc R_Name_Fields [0] m), (1, kS name)], []⟩) (fun _ _ _ hs => hs) ?_
 unfold schema_ByName at h
 refine ji_region ⟨[(2, .ptr 11 0), (3, .ptr 903100 0)], [⟨11, 35, [kS m.Name, .sl R_Name_Number_Kind_Repeated_Packed_Of [0] m.Fields]⟩, ⟨903100, 9, [kS name]⟩]⟩ (ro_o 0 [.rc R_Name_Fields [0] m] ⟨[(1, kS name), (2, .ptr 11 0)], [⟨11, 35, [kS m.Name, .sl R_Name_Number_Kind_Repeated_Packed_Of [0] m.Fields]⟩]⟩ rfl (lo_box 11 [kS m.Name, .sl R_Name_Number_Kind_Repeated_Packed_Of [0] m.Fields] [0] rfl rfl rfl rfl rfl) rfl (by kernel_rfl) (ro_oz 0 [kS name] rfl (lo_box 903100 [kS name] [] rfl rfl rfl rfl rfl) rfl (by kernel_rfl))) ?_
 obtain ⟨rv, h_rv, h⟩ := bnd h
 refine ji_region ⟨[(4, kI rv.1), (5, kB rv.2)], []⟩ (ro_ob 0 [.ptr 11 0] [⟨11, 35, [kS m.Name, .sl R_Name_Number_Kind_Repeated_Packed_Of [0] m.Fields]⟩] ⟨[(3, .ptr 903100 0), (6, .ag [kS m.Name, .sl R_Name_Number_Kind_Repeated_Packed_Of [0] m.Fields])], [⟨903100, 9, [kS name]⟩]⟩ rfl (lo_ldba (b := ⟨11, 35, [kS m.Name, .sl R_Name_Number_Kind_Repeated_Packed_Of [0] m.Fields]⟩) [kS m.Name, .sl R_Name_Number_Kind_Repeated_Packed_Of [0] m.Fields] rfl ⟨Try.isAgg35, Try.sizeOf35⟩ rfl rfl) rfl rfl (by kernel_rfl) (ro_ob 0 [.ptr 903100 0] [⟨903100, 9, [kS name]⟩] ⟨[(6, .ag [kS m.Name, .sl R_Name_Number_Kind_Repeated_Packed_Of [0] m.Fields]), (7, .fv 31 [.ep Rp.str [903100] name 0])], []⟩ rfl (lo_mkcl (g := 31) [.tmp 3] [⟨903100, 9, [kS name]⟩] [.ep Rp.str [903100] name 0] rfl ⟨⟨rfl, rfl, rfl⟩, trivial⟩ rfl) rfl rfl (by kernel_rfl) (ro_oz 0 [.ag [kS m.Name, .sl R_Name_Number_Kind_Repeated_Packed_Of [0] m.Fields], .fv 31 [.ep Rp.str [903100] name 0]] rfl (LocalOk.le (ins' := [(.tmp 6, .ag [kS m.Name, .sl R_Name_Number_Kind_Repeated_Packed_Of [0] m.Fields]), (.tmp 7, .fv 31 [.ep Rp.str [903100] name 0])]) (lo_call (args := [.tmp 6, .tmp 7]) [.rc R_Name_Fields [0] m, .fv 31 [.ep Rp.str [903100] name 0]] [0, 903100] 10 rfl Try.call29 (schema_first__schema_ByName_1_ok h_rv) rfl rfl rfl rfl rfl) ⟨⟨rfl, le_agrc R_Name_Fields [0] m [kS m.Name, .sl R_Name_Number_Kind_Repeated_Packed_Of [0] m.Fields] rfl rfl⟩, ⟨rfl, AV.le_refl _⟩, trivial⟩) rfl (by kernel_rfl)))) ?_
 obtain rfl := sj h
 exact je_ret (le_z (by kernel_rfl))
end Go.Proofs.Ytnchbppkppbflaa
