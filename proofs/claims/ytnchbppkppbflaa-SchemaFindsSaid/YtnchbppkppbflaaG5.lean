/-
  The Go functions do what the plain functions say. No condition.
-/
import Derived.Test.YtnchbppkppbflaaG4
namespace Go.Proofs.Ytnchbppkppbflaa
open Go Go.RowKit
set_option linter.unusedVariables false
set_option maxRecDepth 100000
theorem schema_mayPack_ok {f : T_Name_Number_Kind_Repeated_Packed_Of} {r : Bool} (h : schema_mayPack f = some r) : FnOk Try.prog 45 [.rc R_Name_Number_Kind_Repeated_Packed_Of [0] f] [kB r] := by
 refine fn_intro' (E := ⟨[(2, kB r)], []⟩) 10 Try.func45 rfl rfl rfl ⟨rfl, trivial⟩ (fun Xt => ?_)
 refine ji_start ?_
 refine ji_le (E' := ⟨[(0, .rc R_Name_Number_Kind_Repeated_Packed_Of [0] f)], []⟩) (fun _ _ _ hs => hs) ?_
 unfold schema_mayPack at h
 refine ji_region ⟨[(1, .ptr 11 0)], [⟨11, 50, [kS f.Name, kI f.Number, kI f.Kind, kB f.Repeated, kB f.Packed, kI f.Of]⟩]⟩ (ro_oz 0 [.rc R_Name_Number_Kind_Repeated_Packed_Of [0] f] rfl (lo_box 11 [kS f.Name, kI f.Number, kI f.Kind, kB f.Repeated, kB f.Packed, kI f.Of] [0] rfl rfl rfl rfl rfl) rfl (by kernel_rfl)) ?_
 obtain ⟨g, h_g, h⟩ := bnd h
 refine ji_region ⟨[(2, kB g)], []⟩ ?_ ?_
 ·
  refine (ro_sp 3 5 f.Repeated ⟨[(1, .ptr 11 0), (5, kB f.Repeated)], [⟨11, 50, [kS f.Name, kI f.Number, kI f.Kind, kB f.Repeated, kB f.Packed, kI f.Of]⟩]⟩ (by kernel_rfl) rfl (fun hc1 => ?_) (fun hc1 => ?_))
  ·
   replace h_g := iteT h_g hc1
   obtain ⟨rv, h_rv, h_g⟩ := bnd h_g
   obtain rfl := sj h_g
   exact (ro_oz 2 [kI f.Kind] rfl (lo_call [kI f.Kind] [1] 10 rfl Try.call59 (kind_Number_ok h_rv) rfl rfl rfl rfl rfl) rfl (by kernel_rfl))
  replace h_g := iteF h_g hc1
  obtain rfl := sj h_g
  exact (ro_z (by kernel_rfl))
 obtain rfl := sj h
 exact je_ret (le_z (by kernel_rfl))
theorem schema_ByNumber_ok {m : T_Name_Fields} {number : Int} {r : (Int × Bool)} (h : schema_ByNumber m number = some r) : FnOk Try.prog 12 [.rc R_Name_Fields [0] m, kI number] [kI r.1, kB r.2] := by
 refine fn_intro' (E := ⟨[(4, kI r.1), (5, kB r.2)], []⟩) 11 Try.func12 rfl rfl rfl ⟨rfl, rfl, trivial⟩ (fun Xt => ?_)
 refine ji_start ?_
 refine ji_le (E' := ⟨[(0, .rc R_Name_Fields [0] m), (1, kI number)], []⟩) (fun _ _ _ hs => hs) ?_
 unfold schema_ByNumber at h
 refine ji_region ⟨[(2, .ptr 11 0), (3, .ptr 903000 0)], [⟨11, 35, [kS m.Name, .sl R_Name_Number_Kind_Repeated_Packed_Of [0] m.Fields]⟩, ⟨903000, 3, [kI number]⟩]⟩ (ro_o 0 [.rc R_Name_Fields [0] m] ⟨[(1, kI number), (2, .ptr 11 0)], [⟨11, 35, [kS m.Name, .sl R_Name_Number_Kind_Repeated_Packed_Of [0] m.Fields]⟩]⟩ rfl (lo_box 11 [kS m.Name, .sl R_Name_Number_Kind_Repeated_Packed_Of [0] m.Fields] [0] rfl rfl rfl rfl rfl) rfl (by kernel_rfl) (ro_oz 0 [kI number] rfl (lo_box 903000 [kI number] [] rfl rfl rfl rfl rfl) rfl (by kernel_rfl))) ?_
 obtain ⟨rv, h_rv, h⟩ := bnd h
 refine ji_region ⟨[(4, kI rv.1), (5, kB rv.2)], []⟩ (ro_ob 0 [.ptr 11 0] [⟨11, 35, [kS m.Name, .sl R_Name_Number_Kind_Repeated_Packed_Of [0] m.Fields]⟩] ⟨[(3, .ptr 903000 0), (6, .ag [kS m.Name, .sl R_Name_Number_Kind_Repeated_Packed_Of [0] m.Fields])], [⟨903000, 3, [kI number]⟩]⟩ rfl (lo_ldba (b := ⟨11, 35, [kS m.Name, .sl R_Name_Number_Kind_Repeated_Packed_Of [0] m.Fields]⟩) [kS m.Name, .sl R_Name_Number_Kind_Repeated_Packed_Of [0] m.Fields] rfl ⟨Try.isAgg35, Try.sizeOf35⟩ rfl rfl) rfl rfl (by kernel_rfl) (ro_ob 0 [.ptr 903000 0] [⟨903000, 3, [kI number]⟩] ⟨[(6, .ag [kS m.Name, .sl R_Name_Number_Kind_Repeated_Packed_Of [0] m.Fields]), (7, .fv 30 [.ep (Rp.int .i64) [903000] number 0])], []⟩ rfl (lo_mkcl (g := 30) [.tmp 3] [⟨903000, 3, [kI number]⟩] [.ep (Rp.int .i64) [903000] number 0] rfl ⟨⟨rfl, rfl, rfl⟩, trivial⟩ rfl) rfl rfl (by kernel_rfl) (ro_oz 0 [.ag [kS m.Name, .sl R_Name_Number_Kind_Repeated_Packed_Of [0] m.Fields], .fv 30 [.ep (Rp.int .i64) [903000] number 0]] rfl (LocalOk.le (ins' := [(.tmp 6, .ag [kS m.Name, .sl R_Name_Number_Kind_Repeated_Packed_Of [0] m.Fields]), (.tmp 7, .fv 30 [.ep (Rp.int .i64) [903000] number 0])]) (lo_call (args := [.tmp 6, .tmp 7]) [.rc R_Name_Fields [0] m, .fv 30 [.ep (Rp.int .i64) [903000] number 0]] [0, 903000] 10 rfl Try.call29 (schema_first__schema_ByNumber_1_ok h_rv) rfl rfl rfl rfl rfl) ⟨⟨rfl, le_agrc R_Name_Fields [0] m [kS m.Name, .sl R_Name_Number_Kind_Repeated_Packed_Of [0] m.Fields] rfl rfl⟩, ⟨rfl, AV.le_refl _⟩, trivial⟩) rfl (by kernel_rfl)))) ?_
 obtain rfl := sj h
 exact je_ret (le_z (by kernel_rfl))
theorem schema_ByName_ok {m : T_Name_Fields} {name : Str} {r : (Int × Bool)} (h : schema_ByName m name = some r) : FnOk Try.prog 13 [.rc R_Name_Fields [0] m, kS name] [kI r.1, kB r.2] := by
 refine fn_intro' (E := ⟨[(4, kI r.1), (5, kB r.2)], []⟩) 11 Try.func13 rfl rfl rfl ⟨rfl, rfl, trivial⟩ (fun Xt => ?_)
 refine ji_start ?_
 refine ji_le (E' := ⟨[(0, .rc R_Name_Fields [0] m), (1, kS name)], []⟩) (fun _ _ _ hs => hs) ?_
 unfold schema_ByName at h
 refine ji_region ⟨[(2, .ptr 11 0), (3, .ptr 903100 0)], [⟨11, 35, [kS m.Name, .sl R_Name_Number_Kind_Repeated_Packed_Of [0] m.Fields]⟩, ⟨903100, 9, [kS name]⟩]⟩ (ro_o 0 [.rc R_Name_Fields [0] m] ⟨[(1, kS name), (2, .ptr 11 0)], [⟨11, 35, [kS m.Name, .sl R_Name_Number_Kind_Repeated_Packed_Of [0] m.Fields]⟩]⟩ rfl (lo_box 11 [kS m.Name, .sl R_Name_Number_Kind_Repeated_Packed_Of [0] m.Fields] [0] rfl rfl rfl rfl rfl) rfl (by kernel_rfl) (ro_oz 0 [kS name] rfl (lo_box 903100 [kS name] [] rfl rfl rfl rfl rfl) rfl (by kernel_rfl))) ?_
 obtain ⟨rv, h_rv, h⟩ := bnd h
 refine ji_region ⟨[(4, kI rv.1), (5, kB rv.2)], []⟩ (ro_ob 0 [.ptr 11 0] [⟨11, 35, [kS m.Name, .sl R_Name_Number_Kind_Repeated_Packed_Of [0] m.Fields]⟩] ⟨[(3, .ptr 903100 0), (6, .ag [kS m.Name, .sl R_Name_Number_Kind_Repeated_Packed_Of [0] m.Fields])], [⟨903100, 9, [kS name]⟩]⟩ rfl (lo_ldba (b := ⟨11, 35, [kS m.Name, .sl R_Name_Number_Kind_Repeated_Packed_Of [0] m.Fields]⟩) [kS m.Name, .sl R_Name_Number_Kind_Repeated_Packed_Of [0] m.Fields] rfl ⟨Try.isAgg35, Try.sizeOf35⟩ rfl rfl) rfl rfl (by kernel_rfl) (ro_ob 0 [.ptr 903100 0] [⟨903100, 9, [kS name]⟩] ⟨[(6, .ag [kS m.Name, .sl R_Name_Number_Kind_Repeated_Packed_Of [0] m.Fields]), (7, .fv 31 [.ep Rp.str [903100] name 0])], []⟩ rfl (lo_mkcl (g := 31) [.tmp 3] [⟨903100, 9, [kS name]⟩] [.ep Rp.str [903100] name 0] rfl ⟨⟨rfl, rfl, rfl⟩, trivial⟩ rfl) rfl rfl (by kernel_rfl) (ro_oz 0 [.ag [kS m.Name, .sl R_Name_Number_Kind_Repeated_Packed_Of [0] m.Fields], .fv 31 [.ep Rp.str [903100] name 0]] rfl (LocalOk.le (ins' := [(.tmp 6, .ag [kS m.Name, .sl R_Name_Number_Kind_Repeated_Packed_Of [0] m.Fields]), (.tmp 7, .fv 31 [.ep Rp.str [903100] name 0])]) (lo_call (args := [.tmp 6, .tmp 7]) [.rc R_Name_Fields [0] m, .fv 31 [.ep Rp.str [903100] name 0]] [0, 903100] 10 rfl Try.call29 (schema_first__schema_ByName_1_ok h_rv) rfl rfl rfl rfl rfl) ⟨⟨rfl, le_agrc R_Name_Fields [0] m [kS m.Name, .sl R_Name_Number_Kind_Repeated_Packed_Of [0] m.Fields] rfl rfl⟩, ⟨rfl, AV.le_refl _⟩, trivial⟩) rfl (by kernel_rfl)))) ?_
 obtain rfl := sj h
 exact je_ret (le_z (by kernel_rfl))
theorem slices_insertionSortCmpFunc_int___schema_Sorted_1_ok {data : (List Int)} {av : Int} {b : Int} {v : T_Name_Fields} {r : (List Int)} (h : slices_insertionSortCmpFunc_int___schema_Sorted_1 data av b v = some r) : FnOkW Try.prog 60 [.own (Rp.int .i64) 3 2 [0] data, kI av, kI b, .fv 33 [.ep R_Name_Fields [0] v 0]] [] [.own (Rp.int .i64) 3 2 [0] r, .any, .any, .any] := by
 refine fn_introW (E := ⟨[(0, .own (Rp.int .i64) 3 2 [0] r)], []⟩) 53 [0] Try.func60 rfl rfl rfl trivial ⟨.inr ⟨rfl, rfl⟩, .inl rfl, .inl rfl, .inl rfl, trivial⟩ rfl (fun Xt old => ?_)
 refine ji_start ?_
 refine ji_le (E' := ⟨[(0, .own (Rp.int .i64) 3 2 [0] data), (1, kI av), (2, kI b), (3, .fv 33 [.ep R_Name_Fields [0] v 0])], []⟩) (fun _ _ _ hs => hs) ?_
 unfold slices_insertionSortCmpFunc_int___schema_Sorted_1 at h
 refine ji_rz ⟨[(0, .own (Rp.int .i64) 3 2 [0] data), (1, kI av), (2, kI b), (3, .fv 33 [.ep R_Name_Fields [0] v 0]), (8, kI (IntKind.i64.wrap (av + 1)))], []⟩ (by kernel_rfl) ?_
 refine ji_block ?_
 obtain ⟨q2, h_q2, h⟩ := bnd h
 refine je_loop (fun s : ((List Int) × Int) => slices_insertionSortCmpFunc_int___schema_Sorted_1_b1 av b v s.1 s.2) (fun s => ⟨[(0, .own (Rp.int .i64) 3 2 [0] s.1), (1, kI av), (2, kI b), (3, .fv 33 [.ep R_Name_Fields [0] v 0]), (8, kI s.2)], []⟩) (fun o e a w => e = .exit 0 ∧ Sx ⟨⟨53, [0]⟩, Xt, false, old⟩ ⟨[(0, .own (Rp.int .i64) 3 2 [0] o)], []⟩ a w) ?_ h_q2 (le_z (by kernel_rfl)) ?_
 ·
  clear h
  intro s o h
  obtain ⟨data2, i⟩ := s
  refine ji_start ?_
  refine ji_le (E' := ⟨[(0, .own (Rp.int .i64) 3 2 [0] data2), (1, kI av), (2, kI b), (3, .fv 33 [.ep R_Name_Fields [0] v 0]), (8, kI i)], []⟩) (fun _ _ _ hs => hs) ?_
  replace h : slices_insertionSortCmpFunc_int___schema_Sorted_1_b1 av b v data2 i = some o := h
  unfold slices_insertionSortCmpFunc_int___schema_Sorted_1_b1 at h
  refine ji_rz ⟨[(0, .own (Rp.int .i64) 3 2 [0] data2), (1, kI av), (2, kI b), (3, .fv 33 [.ep R_Name_Fields [0] v 0]), (8, kI i), (14, kB (decide (i < b)))], []⟩ (by kernel_rfl) ?_
  rcases ite_some h with ⟨hc1, h⟩ | ⟨hc1, h⟩
  ·
   refine ji_condT rfl hc1 ?_
   refine ji_block ?_
   refine ji_rz ⟨[(0, .own (Rp.int .i64) 3 2 [0] data2), (1, kI av), (2, kI b), (3, .fv 33 [.ep R_Name_Fields [0] v 0]), (8, kI i), (9, kI i)], []⟩ (by kernel_rfl) ?_
   refine ji_block ?_
   obtain ⟨q, h_q, h⟩ := bnd h
   refine je_loop (fun s : ((List Int) × Int) => slices_insertionSortCmpFunc_int___schema_Sorted_1_b2 av v s.1 s.2) (fun s => ⟨[(0, .own (Rp.int .i64) 3 2 [0] s.1), (1, kI av), (2, kI b), (3, .fv 33 [.ep R_Name_Fields [0] v 0]), (8, kI i), (9, kI s.2)], []⟩) (fun o e a w => e = .exit 2 ∧ Sx ⟨⟨53, [0]⟩, Xt, false, old⟩ ⟨[(0, .own (Rp.int .i64) 3 2 [0] o), (1, kI av), (2, kI b), (3, .fv 33 [.ep R_Name_Fields [0] v 0]), (8, kI i)], []⟩ a w) ?_ h_q (le_z (by kernel_rfl)) ?_
   ·
    clear h
    intro s o h
    obtain ⟨data4, j⟩ := s
    refine ji_start ?_
    refine ji_le (E' := ⟨[(0, .own (Rp.int .i64) 3 2 [0] data4), (1, kI av), (2, kI b), (3, .fv 33 [.ep R_Name_Fields [0] v 0]), (8, kI i), (9, kI j)], []⟩) (fun _ _ _ hs => hs) ?_
    replace h : slices_insertionSortCmpFunc_int___schema_Sorted_1_b2 av v data4 j = some o := h
    unfold slices_insertionSortCmpFunc_int___schema_Sorted_1_b2 at h
    obtain ⟨g, h_g, h⟩ := bnd h
    refine ji_join (R := fun e a w => e = .normal ∧ Sx ⟨⟨53, [0]⟩, Xt, false, old⟩ ⟨[(0, .own (Rp.int .i64) 3 2 [0] data4), (1, kI av), (2, kI b), (3, .fv 33 [.ep R_Name_Fields [0] v 0]), (8, kI i), (9, kI j), (34, kB g)], []⟩ a w) ?_ (k_norm ?_)
    ·
     refine ji_start ?_
     rcases Bool.eq_false_or_eq_true (decide (j > av)) with hc2 | hc2
     ·
      replace h_g := iteT h_g hc2
      obtain ⟨x, h_x, h_g⟩ := bnd h_g
      obtain ⟨x2, h_x2, h_g⟩ := bnd h_g
      obtain ⟨rv, h_rv, h_g⟩ := bnd h_g
      obtain rfl := sj h_g
      refine ji_draw ⟨[(0, .own (Rp.int .i64) 3 2 [0] data4), (1, kI av), (2, kI b), (3, .fv 33 [.ep R_Name_Fields [0] v 0]), (8, kI i), (9, kI j), (34, kB (decide (rv < 0)))], []⟩ [.ev, .ev, .ev, .ex [] [] [] (kB true) [], .ev, .ev, .ev, .ex [] [] [] (.ep (Rp.int .i64) [2, 0] x 0) [], .ev, .ev, .ev, .ev, .ex [] [] [] (.ep (Rp.int .i64) [2, 0] x2 0) [], .ev, .ex [] [] [] (kI rv) []] [⟨[(.tmp 20, kB (decide (j > av)))], [], []⟩, ⟨[(.tmp 23, .own (Rp.int .i64) 3 2 [0] data4), (.tmp 24, kI j)], [], []⟩, ⟨[(.tmp 27, .own (Rp.int .i64) 3 2 [0] data4), (.tmp 29, kI (IntKind.i64.wrap (j - 1)))], [], []⟩, ⟨[(.tmp 22, .fv 33 [.ep R_Name_Fields [0] v 0]), (.tmp 26, kI x), (.tmp 31, kI x2)], [], []⟩] [0, 1, 2, 3, 8, 9, 34] [] mixed (by kernel_rfl) (by exact (lw_e (lw_e (lw_e (lw_x (lo_evb ⟨[(20, kB (decide (j > av)))], []⟩ (by kernel_rfl) hc2) (lw_e (lw_e (lw_e (lw_x (lo_as (lo_ix rfl zet44.el (isSl_own _ _ _ _ _) h_x) rfl) (lw_e (lw_e (lw_e (lw_e (lw_x (lo_as (lo_ix rfl zet44.el (isSl_own _ _ _ _ _) h_x2) rfl) (lw_e (lw_x (lo_as (lo_callv (args := [.tmp 26, .tmp 31]) [kI x, kI x2] [0] 11 rfl (isFv_fv _ _) Try.call33 (schema_Sorted_1_ok h_rv) rfl rfl rfl rfl rfl) rfl) lw_0)))))))))))))))) ?_
      exact je_nil (le_z (by kernel_rfl))
     replace h_g := iteF h_g hc2
     obtain rfl := sj h_g
     refine ji_draw ⟨[(0, .own (Rp.int .i64) 3 2 [0] data4), (1, kI av), (2, kI b), (3, .fv 33 [.ep R_Name_Fields [0] v 0]), (8, kI i), (9, kI j), (34, kB false)], []⟩ [.ev, .ev, .ev, .ex [] [] [] (kB false) []] [⟨[(.tmp 20, kB (decide (j > av)))], [], []⟩] [0, 1, 2, 3, 8, 9, 34] [] mixed (by kernel_rfl) (by exact (lw_e (lw_e (lw_e (lw_x (lo_evb ⟨[(20, kB (decide (j > av)))], []⟩ (by kernel_rfl) hc2) lw_0))))) ?_
     exact je_nil (le_z (by kernel_rfl))
    rcases ite_some h with ⟨hc3, h⟩ | ⟨hc3, h⟩
    ·
     refine ji_condT rfl hc3 ?_
     refine ji_block ?_
     obtain ⟨x3, h_x3, h⟩ := bnd h
     obtain ⟨x4, h_x4, h⟩ := bnd h
     obtain ⟨x5, h_x5, h⟩ := bnd h
     obtain ⟨x6, h_x6, h⟩ := bnd h
     obtain ⟨x7, h_x7, h⟩ := bnd h
     refine ji_draw ⟨[(0, .own (Rp.int .i64) 3 2 [0] ((data4.set (Int.toNat j) x3).set (Int.toNat (IntKind.i64.wrap (j - 1))) x4)), (1, kI av), (2, kI b), (3, .fv 33 [.ep R_Name_Fields [0] v 0]), (8, kI i), (9, kI j)], []⟩ [.raw [7] [] [] [.rs 37 2 data4.length], .ev, .raw [9] [] [] [.rs 39 2 data4.length], .ev, .ev, .raw [12] [] [] [.rs 42 2 data4.length], .ev, .ev, .raw [2, 0] [] [] [.sl 45 (.ptr 2 (Int.toNat (IntKind.i64.wrap (j - 1)) * (Rp.int .i64).size))], .raw [0, 9] [] [] [.sl 46 (kI x3)], .raw [17] [] [] [.rs 47 2 data4.length], .ev, .raw [1, 0] [] [] [.sl 49 (.ptr 2 (Int.toNat j * (Rp.int .i64).size))], .raw [0, 13] [] [] [.sl 50 (kI x4)], .raw [13, 12] [] [] [.sl 51 (.ptr 2 (Int.toNat j * (Rp.int .i64).size))], .raw [15, 0, 5, 15] [2] [] [.sl 0 (.own (Rp.int .i64) 3 2 [0] (data4.set (Int.toNat j) x3))], .raw [13, 11] [] [] [.sl 52 (.ptr 2 (Int.toNat (IntKind.i64.wrap (j - 1)) * (Rp.int .i64).size))], .raw [1, 0, 3, 1] [2] [] [.sl 0 (.own (Rp.int .i64) 3 2 [0] ((data4.set (Int.toNat j) x3).set (Int.toNat (IntKind.i64.wrap (j - 1))) x4))]] [⟨[], [], [.rs 0 2 data4.length]⟩, ⟨[], [], [.rs 0 2 data4.length]⟩, ⟨[], [], [.rs 0 2 data4.length]⟩, ⟨[], [], [.rs 42 2 data4.length, .sl 44 (kI (IntKind.i64.wrap (j - 1)))]⟩, ⟨[], [], [.sl 45 (.ptr 2 (Int.toNat (IntKind.i64.wrap (j - 1)) * (Rp.int .i64).size)), .sl 0 (.own (Rp.int .i64) 3 2 [0] data4)]⟩, ⟨[], [], [.rs 0 2 data4.length]⟩, ⟨[], [], [.rs 47 2 data4.length, .sl 48 (kI j)]⟩, ⟨[], [], [.sl 49 (.ptr 2 (Int.toNat j * (Rp.int .i64).size)), .sl 0 (.own (Rp.int .i64) 3 2 [0] data4)]⟩, ⟨[], [], [.rs 37 2 data4.length, .sl 38 (kI j)]⟩, ⟨[], [], [.sl 0 (.own (Rp.int .i64) 3 2 [0] data4), .sl 51 (.ptr 2 (Int.toNat j * (Rp.int .i64).size)), .sl 46 (kI x3), .sl 0 (.own (Rp.int .i64) 3 2 [0] data4)]⟩, ⟨[], [], [.rs 39 2 data4.length, .sl 41 (kI (IntKind.i64.wrap (j - 1)))]⟩, ⟨[], [], [.sl 0 (.own (Rp.int .i64) 3 2 [0] (data4.set (Int.toNat j) x3)), .sl 52 (.ptr 2 (Int.toNat (IntKind.i64.wrap (j - 1)) * (Rp.int .i64).size)), .sl 50 (kI x4), .sl 0 (.own (Rp.int .i64) 3 2 [0] (data4.set (Int.toNat j) x3))]⟩] [0, 1, 2, 3, 8, 9] [] mixed (by kernel_rfl) (by exact (lw_r (raw_mv 0 37 2 _ (.inl rfl) rfl) (lw_e (lw_r (raw_mv 0 39 2 _ (.inl rfl) rfl) (lw_e (lw_e (lw_r (raw_mv 0 42 2 _ (.inl rfl) rfl) (lw_e (lw_e (lw_r (raw_ix (kk := .i64) (z := .tmp 44) 42 45 2 rfl rfl zet44.el h_x3 trivial) (lw_r (raw_ld1 (f := 0) (.int .i64 x3) 45 0 rfl h_x3 rfl rfl rfl rfl) (lw_r (raw_mv 0 47 2 _ (.inl rfl) rfl) (lw_e (lw_r (raw_ix (kk := .i64) (z := .tmp 48) 47 49 2 rfl rfl zet44.el h_x4 trivial) (lw_r (raw_ld1 (f := 0) (.int .i64 x4) 49 0 rfl h_x4 rfl rfl rfl rfl) (lw_r (raw_ix (kk := .i64) (z := .tmp 38) 37 51 2 rfl rfl zet44.el h_x5 trivial) (lw_r (raw_turn (ins := [(.tmp 0, .own (Rp.int .i64) 3 2 [0] data4), (.tmp 51, .ptr 2 (Int.toNat j * (Rp.int .i64).size)), (.tmp 46, kI x3)]) [0] (st_set (r := (Rp.int .i64)) (e := 3) (ℓ := 2) (C := [0]) (xs := data4) (off := (Int.toNat j * (Rp.int .i64).size)) (.tmp 0) (Int.toNat j) 0 x5 x3 [0] rfl rfl Try.sizeOf3 rfl (idx_get h_x5) rfl (set_all rfl _) rfl) ⟨trivial, trivial, trivial, trivial⟩ (fun _ _ => nofun)) (lw_r (raw_ix (kk := .i64) (z := .tmp 41) 39 52 2 rfl rfl zet44.el h_x6 trivial) (lw_r (raw_turn (ins := [(.tmp 0, .own (Rp.int .i64) 3 2 [0] (data4.set (Int.toNat j) x3)), (.tmp 52, .ptr 2 (Int.toNat (IntKind.i64.wrap (j - 1)) * (Rp.int .i64).size)), (.tmp 50, kI x4)]) [0] (st_set (r := (Rp.int .i64)) (e := 3) (ℓ := 2) (C := [0]) (xs := (data4.set (Int.toNat j) x3)) (off := (Int.toNat (IntKind.i64.wrap (j - 1)) * (Rp.int .i64).size)) (.tmp 0) (Int.toNat (IntKind.i64.wrap (j - 1))) 0 x7 x4 [0] rfl rfl Try.sizeOf3 rfl (idx_get h_x7) rfl (set_all rfl _) rfl) ⟨trivial, trivial, trivial, trivial⟩ (fun _ _ => nofun)) lw_0))))))))))))))))))) ?_
     refine ji_end ?_
     refine ji_rz ⟨[(0, .own (Rp.int .i64) 3 2 [0] ((data4.set (Int.toNat j) x3).set (Int.toNat (IntKind.i64.wrap (j - 1))) x4)), (1, kI av), (2, kI b), (3, .fv 33 [.ep R_Name_Fields [0] v 0]), (8, kI i), (9, kI (IntKind.i64.wrap (j - 1)))], []⟩ (by kernel_rfl) ?_
     obtain rfl := sj h
     exact je_nil (le_z (by kernel_rfl))
    refine ji_condF rfl hc3 ?_
    obtain rfl := sj h
    exact je_out' rfl (le_z (by kernel_rfl))
   refine k_exit _ rfl ?_
   refine ji_end ?_
   refine ji_rz ⟨[(0, .own (Rp.int .i64) 3 2 [0] q), (1, kI av), (2, kI b), (3, .fv 33 [.ep R_Name_Fields [0] v 0]), (8, kI (IntKind.i64.wrap (i + 1)))], []⟩ (by kernel_rfl) ?_
   obtain rfl := sj h
   exact je_nil (le_z (by kernel_rfl))
  refine ji_condF rfl hc1 ?_
  obtain rfl := sj h
  exact je_out' rfl (le_z (by kernel_rfl))
 refine k_exit _ rfl ?_
 obtain rfl := sj h
 exact je_wn (le_z (by kernel_rfl))
theorem slices_swapRangeCmpFunc_int___schema_Sorted_1_ok {data : (List Int)} {av : Int} {b : Int} {n : Int} {v : T_Name_Fields} {r : (List Int)} (h : slices_swapRangeCmpFunc_int___schema_Sorted_1 data av b n v = some r) : FnOkW Try.prog 78 [.own (Rp.int .i64) 3 2 [0] data, kI av, kI b, kI n, .fv 33 [.ep R_Name_Fields [0] v 0]] [] [.own (Rp.int .i64) 3 2 [0] r, .any, .any, .any, .any] := by
 refine fn_introW (E := ⟨[(0, .own (Rp.int .i64) 3 2 [0] r)], []⟩) 38 [0] Try.func78 rfl rfl rfl trivial ⟨.inr ⟨rfl, rfl⟩, .inl rfl, .inl rfl, .inl rfl, .inl rfl, trivial⟩ rfl (fun Xt old => ?_)
 refine ji_start ?_
 refine ji_le (E' := ⟨[(0, .own (Rp.int .i64) 3 2 [0] data), (1, kI av), (2, kI b), (3, kI n), (4, .fv 33 [.ep R_Name_Fields [0] v 0])], []⟩) (fun _ _ _ hs => hs) ?_
 unfold slices_swapRangeCmpFunc_int___schema_Sorted_1 at h
 refine ji_rz ⟨[(0, .own (Rp.int .i64) 3 2 [0] data), (1, kI av), (2, kI b), (3, kI n), (10, kI 0)], []⟩ (by kernel_rfl) ?_
 refine ji_block ?_
 obtain ⟨q, h_q, h⟩ := bnd h
 refine je_loop (fun s : ((List Int) × Int) => slices_swapRangeCmpFunc_int___schema_Sorted_1_b1 av b n s.1 s.2) (fun s => ⟨[(0, .own (Rp.int .i64) 3 2 [0] s.1), (1, kI av), (2, kI b), (3, kI n), (10, kI s.2)], []⟩) (fun o e a w => e = .exit 0 ∧ Sx ⟨⟨38, [0]⟩, Xt, false, old⟩ ⟨[(0, .own (Rp.int .i64) 3 2 [0] o)], []⟩ a w) ?_ h_q (le_z (by kernel_rfl)) ?_
 ·
  clear h
  intro s o h
  obtain ⟨data2, i⟩ := s
  refine ji_start ?_
  refine ji_le (E' := ⟨[(0, .own (Rp.int .i64) 3 2 [0] data2), (1, kI av), (2, kI b), (3, kI n), (10, kI i)], []⟩) (fun _ _ _ hs => hs) ?_
  replace h : slices_swapRangeCmpFunc_int___schema_Sorted_1_b1 av b n data2 i = some o := h
  unfold slices_swapRangeCmpFunc_int___schema_Sorted_1_b1 at h
  refine ji_rz ⟨[(0, .own (Rp.int .i64) 3 2 [0] data2), (1, kI av), (2, kI b), (3, kI n), (10, kI i), (13, kB (decide (i < n)))], []⟩ (by kernel_rfl) ?_
  rcases ite_some h with ⟨hc1, h⟩ | ⟨hc1, h⟩
  ·
   refine ji_condT rfl hc1 ?_
   refine ji_block ?_
   obtain ⟨x, h_x, h⟩ := bnd h
   obtain ⟨x2, h_x2, h⟩ := bnd h
   obtain ⟨x3, h_x3, h⟩ := bnd h
   obtain ⟨x4, h_x4, h⟩ := bnd h
   obtain ⟨x5, h_x5, h⟩ := bnd h
   refine ji_draw ⟨[(0, .own (Rp.int .i64) 3 2 [0] ((data2.set (Int.toNat (IntKind.i64.wrap (av + i))) x).set (Int.toNat (IntKind.i64.wrap (b + i))) x2)), (1, kI av), (2, kI b), (3, kI n), (10, kI i)], []⟩ [.raw [6] [] [] [.rs 16 2 data2.length], .ev, .ev, .ev, .raw [10] [] [] [.rs 20 2 data2.length], .ev, .ev, .ev, .raw [14] [] [] [.rs 24 2 data2.length], .ev, .ev, .ev, .raw [3, 0] [] [] [.sl 28 (.ptr 2 (Int.toNat (IntKind.i64.wrap (b + i)) * (Rp.int .i64).size))], .raw [0, 13] [] [] [.sl 29 (kI x)], .raw [20] [] [] [.rs 30 2 data2.length], .ev, .ev, .ev, .raw [3, 0] [] [] [.sl 34 (.ptr 2 (Int.toNat (IntKind.i64.wrap (av + i)) * (Rp.int .i64).size))], .raw [0, 19] [] [] [.sl 35 (kI x2)], .raw [19, 16] [] [] [.sl 36 (.ptr 2 (Int.toNat (IntKind.i64.wrap (av + i)) * (Rp.int .i64).size))], .raw [21, 0, 7, 21] [2] [] [.sl 0 (.own (Rp.int .i64) 3 2 [0] (data2.set (Int.toNat (IntKind.i64.wrap (av + i))) x))], .raw [17, 14] [] [] [.sl 37 (.ptr 2 (Int.toNat (IntKind.i64.wrap (b + i)) * (Rp.int .i64).size))], .raw [1, 0, 3, 1] [2] [] [.sl 0 (.own (Rp.int .i64) 3 2 [0] ((data2.set (Int.toNat (IntKind.i64.wrap (av + i))) x).set (Int.toNat (IntKind.i64.wrap (b + i))) x2))]] [⟨[], [], [.rs 0 2 data2.length]⟩, ⟨[], [], [.rs 0 2 data2.length]⟩, ⟨[], [], [.rs 0 2 data2.length]⟩, ⟨[], [], [.rs 24 2 data2.length, .sl 27 (kI (IntKind.i64.wrap (b + i)))]⟩, ⟨[], [], [.sl 28 (.ptr 2 (Int.toNat (IntKind.i64.wrap (b + i)) * (Rp.int .i64).size)), .sl 0 (.own (Rp.int .i64) 3 2 [0] data2)]⟩, ⟨[], [], [.rs 0 2 data2.length]⟩, ⟨[], [], [.rs 30 2 data2.length, .sl 33 (kI (IntKind.i64.wrap (av + i)))]⟩, ⟨[], [], [.sl 34 (.ptr 2 (Int.toNat (IntKind.i64.wrap (av + i)) * (Rp.int .i64).size)), .sl 0 (.own (Rp.int .i64) 3 2 [0] data2)]⟩, ⟨[], [], [.rs 16 2 data2.length, .sl 19 (kI (IntKind.i64.wrap (av + i)))]⟩, ⟨[], [], [.sl 0 (.own (Rp.int .i64) 3 2 [0] data2), .sl 36 (.ptr 2 (Int.toNat (IntKind.i64.wrap (av + i)) * (Rp.int .i64).size)), .sl 29 (kI x), .sl 0 (.own (Rp.int .i64) 3 2 [0] data2)]⟩, ⟨[], [], [.rs 20 2 data2.length, .sl 23 (kI (IntKind.i64.wrap (b + i)))]⟩, ⟨[], [], [.sl 0 (.own (Rp.int .i64) 3 2 [0] (data2.set (Int.toNat (IntKind.i64.wrap (av + i))) x)), .sl 37 (.ptr 2 (Int.toNat (IntKind.i64.wrap (b + i)) * (Rp.int .i64).size)), .sl 35 (kI x2), .sl 0 (.own (Rp.int .i64) 3 2 [0] (data2.set (Int.toNat (IntKind.i64.wrap (av + i))) x))]⟩] [0, 1, 2, 3, 10] [] mixed (by kernel_rfl) (by exact (lw_r (raw_mv 0 16 2 _ (.inl rfl) rfl) (lw_e (lw_e (lw_e (lw_r (raw_mv 0 20 2 _ (.inl rfl) rfl) (lw_e (lw_e (lw_e (lw_r (raw_mv 0 24 2 _ (.inl rfl) rfl) (lw_e (lw_e (lw_e (lw_r (raw_ix (kk := .i64) (z := .tmp 27) 24 28 2 rfl rfl zet44.el h_x trivial) (lw_r (raw_ld1 (f := 0) (.int .i64 x) 28 0 rfl h_x rfl rfl rfl rfl) (lw_r (raw_mv 0 30 2 _ (.inl rfl) rfl) (lw_e (lw_e (lw_e (lw_r (raw_ix (kk := .i64) (z := .tmp 33) 30 34 2 rfl rfl zet44.el h_x2 trivial) (lw_r (raw_ld1 (f := 0) (.int .i64 x2) 34 0 rfl h_x2 rfl rfl rfl rfl) (lw_r (raw_ix (kk := .i64) (z := .tmp 19) 16 36 2 rfl rfl zet44.el h_x3 trivial) (lw_r (raw_turn (ins := [(.tmp 0, .own (Rp.int .i64) 3 2 [0] data2), (.tmp 36, .ptr 2 (Int.toNat (IntKind.i64.wrap (av + i)) * (Rp.int .i64).size)), (.tmp 29, kI x)]) [0] (st_set (r := (Rp.int .i64)) (e := 3) (ℓ := 2) (C := [0]) (xs := data2) (off := (Int.toNat (IntKind.i64.wrap (av + i)) * (Rp.int .i64).size)) (.tmp 0) (Int.toNat (IntKind.i64.wrap (av + i))) 0 x3 x [0] rfl rfl Try.sizeOf3 rfl (idx_get h_x3) rfl (set_all rfl _) rfl) ⟨trivial, trivial, trivial, trivial⟩ (fun _ _ => nofun)) (lw_r (raw_ix (kk := .i64) (z := .tmp 23) 20 37 2 rfl rfl zet44.el h_x4 trivial) (lw_r (raw_turn (ins := [(.tmp 0, .own (Rp.int .i64) 3 2 [0] (data2.set (Int.toNat (IntKind.i64.wrap (av + i))) x)), (.tmp 37, .ptr 2 (Int.toNat (IntKind.i64.wrap (b + i)) * (Rp.int .i64).size)), (.tmp 35, kI x2)]) [0] (st_set (r := (Rp.int .i64)) (e := 3) (ℓ := 2) (C := [0]) (xs := (data2.set (Int.toNat (IntKind.i64.wrap (av + i))) x)) (off := (Int.toNat (IntKind.i64.wrap (b + i)) * (Rp.int .i64).size)) (.tmp 0) (Int.toNat (IntKind.i64.wrap (b + i))) 0 x5 x2 [0] rfl rfl Try.sizeOf3 rfl (idx_get h_x5) rfl (set_all rfl _) rfl) ⟨trivial, trivial, trivial, trivial⟩ (fun _ _ => nofun)) lw_0))))))))))))))))))))))))) ?_
   refine ji_end ?_
   refine ji_rz ⟨[(0, .own (Rp.int .i64) 3 2 [0] ((data2.set (Int.toNat (IntKind.i64.wrap (av + i))) x).set (Int.toNat (IntKind.i64.wrap (b + i))) x2)), (1, kI av), (2, kI b), (3, kI n), (10, kI (IntKind.i64.wrap (i + 1)))], []⟩ (by kernel_rfl) ?_
   obtain rfl := sj h
   exact je_nil (le_z (by kernel_rfl))
  refine ji_condF rfl hc1 ?_
  obtain rfl := sj h
  exact je_out' rfl (le_z (by kernel_rfl))
 refine k_exit _ rfl ?_
 obtain rfl := sj h
 exact je_wn (le_z (by kernel_rfl))
theorem schema_Same_ok {av : (List T_Name_Fields)} {b : (List T_Name_Fields)} {r : Bool} (h : schema_Same av b = some r) : FnOk Try.prog 19 [.sl R_Name_Fields [0] av, .sl R_Name_Fields [0] b] [kB r] := by
 refine fn_intro' (E := ⟨[(4, kB r)], []⟩) 8 Try.func19 rfl rfl rfl ⟨rfl, trivial⟩ (fun Xt => ?_)
 refine ji_start ?_
 refine ji_le (E' := ⟨[(0, .sl R_Name_Fields [0] av), (1, .sl R_Name_Fields [0] b)], []⟩) (fun _ _ _ hs => hs) ?_
 unfold schema_Same at h
 refine ji_rz ⟨[(0, .sl R_Name_Fields [0] av), (1, .sl R_Name_Fields [0] b)], []⟩ (by kernel_rfl) ?_
 obtain ⟨rv, h_rv, h⟩ := bnd h
 refine ji_region ⟨[(4, kB rv)], []⟩ (ro_oz 2 [.sl R_Name_Fields [0] av, .sl R_Name_Fields [0] b, .lf (.val (.func (.func 36) #[] #[]))] rfl (lo_call [.sl R_Name_Fields [0] av, .sl R_Name_Fields [0] b, .lf (.val (.func (.func 36) #[] #[]))] [0] 9 rfl Try.call35 (slices_EqualFunc_api_Schema_api_Schema_api_Message_api_Message___schema_sameMessage_ok h_rv) rfl rfl rfl rfl rfl) rfl (by kernel_rfl)) ?_
 obtain rfl := sj h
 exact je_ret (le_z (by kernel_rfl))
end Go.Proofs.Ytnchbppkppbflaa
