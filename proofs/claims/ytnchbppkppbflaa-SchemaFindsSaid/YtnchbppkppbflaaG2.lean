/-
  The Go functions do what the plain functions say. No condition.
-/
import Derived.Test.YtnchbppkppbflaaT
namespace Go.Proofs.Ytnchbppkppbflaa
open Go Go.RowKit
set_option linter.unusedVariables false
set_option maxRecDepth 100000
theorem schema_Message_1_ok {m : T_Name_Fields} {v : Str} {r : Bool} (h : schema_Message_1 m v = some r) : FnOk Try.prog 28 [.rc R_Name_Fields [0] m, .ep Rp.str [0] v 0] [kB r] := by
 refine fn_intro' (E := ⟨[(3, kB r)], []⟩) 8 Try.func28 rfl rfl rfl ⟨rfl, trivial⟩ (fun Xt => ?_)
 refine ji_start ?_
 refine ji_le (E' := ⟨[(0, .rc R_Name_Fields [0] m), (1, .ep Rp.str [0] v 0)], []⟩) (fun _ _ _ hs => hs) ?_
 unfold schema_Message_1 at h
 refine ji_region ⟨[(1, .ep Rp.str [0] v 0), (2, .ptr 11 0)], [⟨11, 35, [kS m.Name, .sl R_Name_Number_Kind_Repeated_Packed_Of [0] m.Fields]⟩]⟩ (ro_oz 0 [.rc R_Name_Fields [0] m] rfl (lo_box 11 [kS m.Name, .sl R_Name_Number_Kind_Repeated_Packed_Of [0] m.Fields] [0] rfl rfl rfl rfl rfl) rfl (by kernel_rfl)) ?_
 refine ji_rz ⟨[(3, kB (m.Name == v))], []⟩ (by kernel_rfl) ?_
 obtain rfl := sj h
 exact je_ret (le_z (by kernel_rfl))
theorem schema_ByNumber_1_ok {f : T_Name_Number_Kind_Repeated_Packed_Of} {v : Int} {r : Bool} (h : schema_ByNumber_1 f v = some r) : FnOk Try.prog 30 [.rc R_Name_Number_Kind_Repeated_Packed_Of [0] f, .ep (Rp.int .i64) [0] v 0] [kB r] := by
 refine fn_intro' (E := ⟨[(3, kB r)], []⟩) 8 Try.func30 rfl rfl rfl ⟨rfl, trivial⟩ (fun Xt => ?_)
 refine ji_start ?_
 refine ji_le (E' := ⟨[(0, .rc R_Name_Number_Kind_Repeated_Packed_Of [0] f), (1, .ep (Rp.int .i64) [0] v 0)], []⟩) (fun _ _ _ hs => hs) ?_
 unfold schema_ByNumber_1 at h
 refine ji_region ⟨[(1, .ep (Rp.int .i64) [0] v 0), (2, .ptr 11 0)], [⟨11, 50, [kS f.Name, kI f.Number, kI f.Kind, kB f.Repeated, kB f.Packed, kI f.Of]⟩]⟩ (ro_oz 0 [.rc R_Name_Number_Kind_Repeated_Packed_Of [0] f] rfl (lo_box 11 [kS f.Name, kI f.Number, kI f.Kind, kB f.Repeated, kB f.Packed, kI f.Of] [0] rfl rfl rfl rfl rfl) rfl (by kernel_rfl)) ?_
 refine ji_rz ⟨[(3, kB (f.Number == v))], []⟩ (by kernel_rfl) ?_
 obtain rfl := sj h
 exact je_ret (le_z (by kernel_rfl))
theorem schema_ByName_1_ok {f : T_Name_Number_Kind_Repeated_Packed_Of} {v : Str} {r : Bool} (h : schema_ByName_1 f v = some r) : FnOk Try.prog 31 [.rc R_Name_Number_Kind_Repeated_Packed_Of [0] f, .ep Rp.str [0] v 0] [kB r] := by
 refine fn_intro' (E := ⟨[(3, kB r)], []⟩) 8 Try.func31 rfl rfl rfl ⟨rfl, trivial⟩ (fun Xt => ?_)
 refine ji_start ?_
 refine ji_le (E' := ⟨[(0, .rc R_Name_Number_Kind_Repeated_Packed_Of [0] f), (1, .ep Rp.str [0] v 0)], []⟩) (fun _ _ _ hs => hs) ?_
 unfold schema_ByName_1 at h
 refine ji_region ⟨[(1, .ep Rp.str [0] v 0), (2, .ptr 11 0)], [⟨11, 50, [kS f.Name, kI f.Number, kI f.Kind, kB f.Repeated, kB f.Packed, kI f.Of]⟩]⟩ (ro_oz 0 [.rc R_Name_Number_Kind_Repeated_Packed_Of [0] f] rfl (lo_box 11 [kS f.Name, kI f.Number, kI f.Kind, kB f.Repeated, kB f.Packed, kI f.Of] [0] rfl rfl rfl rfl rfl) rfl (by kernel_rfl)) ?_
 refine ji_rz ⟨[(3, kB (f.Name == v))], []⟩ (by kernel_rfl) ?_
 obtain rfl := sj h
 exact je_ret (le_z (by kernel_rfl))
theorem darningref07_Field_ok {m : T_Name_Fields} {number : Int} {r : Int} (h : darningref07_Field m number = some r) : FnOk Try.prog 14 [.rc R_Name_Fields [0] m, kI number] [kI r] := by
 refine fn_intro' (E := ⟨[(4, kI r)], []⟩) 22 Try.func14 rfl rfl rfl ⟨rfl, trivial⟩ (fun Xt => ?_)
 refine ji_start ?_
 refine ji_le (E' := ⟨[(0, .rc R_Name_Fields [0] m), (1, kI number)], []⟩) (fun _ _ _ hs => hs) ?_
 unfold darningref07_Field at h
 refine ji_region ⟨[(1, kI number), (2, .ptr 11 0)], [⟨11, 35, [kS m.Name, .sl R_Name_Number_Kind_Repeated_Packed_Of [0] m.Fields]⟩]⟩ (ro_oz 0 [.rc R_Name_Fields [0] m] rfl (lo_box 11 [kS m.Name, .sl R_Name_Number_Kind_Repeated_Packed_Of [0] m.Fields] [0] rfl rfl rfl rfl rfl) rfl (by kernel_rfl)) ?_
 refine ji_rz ⟨[(1, kI number), (2, .ptr 11 0), (5, kI 0)], [⟨11, 35, [kS m.Name, .sl R_Name_Number_Kind_Repeated_Packed_Of [0] m.Fields]⟩]⟩ (by kernel_rfl) ?_
 refine ji_block ?_
 obtain ⟨q, h_q, h⟩ := bnd h
 refine je_loop (fun s : Int => darningref07_Field_b1 m number s) (fun s => ⟨[(1, kI number), (2, .ptr 11 0), (5, kI s)], [⟨11, 35, [kS m.Name, .sl R_Name_Number_Kind_Repeated_Packed_Of [0] m.Fields]⟩]⟩) (fun o e a w => match o with | (.inl v_) => e = .exit 0 ∧ Sx ⟨⟨22, []⟩, Xt, false, #[]⟩ ⟨[], []⟩ a w | (.inr v_) => e = .ret ∧ Sx ⟨⟨22, []⟩, Xt, false, #[]⟩ ⟨[(4, kI v_)], []⟩ a w) ?_ h_q (le_z (by kernel_rfl)) ?_
 ·
  clear h
  intro i o h
  refine ji_start ?_
  refine ji_le (E' := ⟨[(1, kI number), (2, .ptr 11 0), (5, kI i)], [⟨11, 35, [kS m.Name, .sl R_Name_Number_Kind_Repeated_Packed_Of [0] m.Fields]⟩]⟩) (fun _ _ _ hs => hs) ?_
  replace h : darningref07_Field_b1 m number i = some o := h
  unfold darningref07_Field_b1 at h
  refine ji_rz ⟨[(1, kI number), (2, .ptr 11 0), (5, kI i), (10, kB (decide (i < (m.Fields.length : Int))))], [⟨11, 35, [kS m.Name, .sl R_Name_Number_Kind_Repeated_Packed_Of [0] m.Fields]⟩]⟩ (by kernel_rfl) ?_
  rcases ite_some h with ⟨hc1, h⟩ | ⟨hc1, h⟩
  ·
   refine ji_condT rfl hc1 ?_
   refine ji_block ?_
   obtain ⟨x, h_x, h⟩ := bnd h
   refine ji_region ⟨[(1, kI number), (2, .ptr 11 0), (5, kI i), (20, kB (x.Number == number))], [⟨11, 35, [kS m.Name, .sl R_Name_Number_Kind_Repeated_Packed_Of [0] m.Fields]⟩]⟩ (ro_oz 3 [.sl R_Name_Number_Kind_Repeated_Packed_Of [0] m.Fields, kI i] rfl (lo_ix rfl zet33.el (isSl_sl _ _ _) h_x) rfl (by kernel_rfl)) ?_
   rcases ite_some h with ⟨hc2, h⟩ | ⟨hc2, h⟩
   ·
    refine ji_condT rfl hc2 ?_
    refine ji_rz ⟨[(4, kI i)], []⟩ (by kernel_rfl) ?_
    obtain rfl := sj h
    exact je_ret' (le_z (by kernel_rfl))
   refine ji_condF rfl hc2 ?_
   refine ji_end ?_
   refine ji_rz ⟨[(1, kI number), (2, .ptr 11 0), (5, kI (IntKind.i64.wrap (i + 1)))], [⟨11, 35, [kS m.Name, .sl R_Name_Number_Kind_Repeated_Packed_Of [0] m.Fields]⟩]⟩ (by kernel_rfl) ?_
   obtain rfl := sj h
   exact je_nil (le_z (by kernel_rfl))
  refine ji_condF rfl hc1 ?_
  obtain rfl := sj h
  exact je_out' rfl (le_z (by kernel_rfl))
 rcases q with u | u2
 ·
  refine k_exit _ rfl ?_
  refine ji_rz ⟨[(4, kI (-1))], []⟩ (by kernel_rfl) ?_
  obtain rfl := sj h
  exact je_ret (le_z (by kernel_rfl))
 obtain rfl := sj h
 exact ke_ret (le_z (by kernel_rfl))
theorem darningref07_Named_ok {m : T_Name_Fields} {name : Str} {r : Int} (h : darningref07_Named m name = some r) : FnOk Try.prog 15 [.rc R_Name_Fields [0] m, kS name] [kI r] := by
 refine fn_intro' (E := ⟨[(4, kI r)], []⟩) 22 Try.func15 rfl rfl rfl ⟨rfl, trivial⟩ (fun Xt => ?_)
 refine ji_start ?_
 refine ji_le (E' := ⟨[(0, .rc R_Name_Fields [0] m), (1, kS name)], []⟩) (fun _ _ _ hs => hs) ?_
 unfold darningref07_Named at h
 refine ji_region ⟨[(1, kS name), (2, .ptr 11 0)], [⟨11, 35, [kS m.Name, .sl R_Name_Number_Kind_Repeated_Packed_Of [0] m.Fields]⟩]⟩ (ro_oz 0 [.rc R_Name_Fields [0] m] rfl (lo_box 11 [kS m.Name, .sl R_Name_Number_Kind_Repeated_Packed_Of [0] m.Fields] [0] rfl rfl rfl rfl rfl) rfl (by kernel_rfl)) ?_
 refine ji_rz ⟨[(1, kS name), (2, .ptr 11 0), (5, kI 0)], [⟨11, 35, [kS m.Name, .sl R_Name_Number_Kind_Repeated_Packed_Of [0] m.Fields]⟩]⟩ (by kernel_rfl) ?_
 refine ji_block ?_
 obtain ⟨q, h_q, h⟩ := bnd h
 refine je_loop (fun s : Int => darningref07_Named_b1 m name s) (fun s => ⟨[(1, kS name), (2, .ptr 11 0), (5, kI s)], [⟨11, 35, [kS m.Name, .sl R_Name_Number_Kind_Repeated_Packed_Of [0] m.Fields]⟩]⟩) (fun o e a w => match o with | (.inl v_) => e = .exit 0 ∧ Sx ⟨⟨22, []⟩, Xt, false, #[]⟩ ⟨[], []⟩ a w | (.inr v_) => e = .ret ∧ Sx ⟨⟨22, []⟩, Xt, false, #[]⟩ ⟨[(4, kI v_)], []⟩ a w) ?_ h_q (le_z (by kernel_rfl)) ?_
 ·
  clear h
  intro i o h
  refine ji_start ?_
  refine ji_le (E' := ⟨[(1, kS name), (2, .ptr 11 0), (5, kI i)], [⟨11, 35, [kS m.Name, .sl R_Name_Number_Kind_Repeated_Packed_Of [0] m.Fields]⟩]⟩) (fun _ _ _ hs => hs) ?_
  replace h : darningref07_Named_b1 m name i = some o := h
  unfold darningref07_Named_b1 at h
  refine ji_rz ⟨[(1, kS name), (2, .ptr 11 0), (5, kI i), (10, kB (decide (i < (m.Fields.length : Int))))], [⟨11, 35, [kS m.Name, .sl R_Name_Number_Kind_Repeated_Packed_Of [0] m.Fields]⟩]⟩ (by kernel_rfl) ?_
  rcases ite_some h with ⟨hc1, h⟩ | ⟨hc1, h⟩
  ·
   refine ji_condT rfl hc1 ?_
   refine ji_block ?_
   obtain ⟨x, h_x, h⟩ := bnd h
   refine ji_region ⟨[(1, kS name), (2, .ptr 11 0), (5, kI i), (20, kB (x.Name == name))], [⟨11, 35, [kS m.Name, .sl R_Name_Number_Kind_Repeated_Packed_Of [0] m.Fields]⟩]⟩ (ro_oz 3 [.sl R_Name_Number_Kind_Repeated_Packed_Of [0] m.Fields, kI i] rfl (lo_ix rfl zet33.el (isSl_sl _ _ _) h_x) rfl (by kernel_rfl)) ?_
   rcases ite_some h with ⟨hc2, h⟩ | ⟨hc2, h⟩
   ·
    refine ji_condT rfl hc2 ?_
    refine ji_rz ⟨[(4, kI i)], []⟩ (by kernel_rfl) ?_
    obtain rfl := sj h
    exact je_ret' (le_z (by kernel_rfl))
   refine ji_condF rfl hc2 ?_
   refine ji_end ?_
   refine ji_rz ⟨[(1, kS name), (2, .ptr 11 0), (5, kI (IntKind.i64.wrap (i + 1)))], [⟨11, 35, [kS m.Name, .sl R_Name_Number_Kind_Repeated_Packed_Of [0] m.Fields]⟩]⟩ (by kernel_rfl) ?_
   obtain rfl := sj h
   exact je_nil (le_z (by kernel_rfl))
  refine ji_condF rfl hc1 ?_
  obtain rfl := sj h
  exact je_out' rfl (le_z (by kernel_rfl))
 rcases q with u | u2
 ·
  refine k_exit _ rfl ?_
  refine ji_rz ⟨[(4, kI (-1))], []⟩ (by kernel_rfl) ?_
  obtain rfl := sj h
  exact je_ret (le_z (by kernel_rfl))
 obtain rfl := sj h
 exact ke_ret (le_z (by kernel_rfl))
theorem cmp_isNaN_int__ok {x : Int} {r : Bool} (h : cmp_isNaN_int_ x = some r) : FnOk Try.prog 51 [kI x] [kB r] := by
 refine fn_intro' (E := ⟨[(2, kB r)], []⟩) 6 Try.func51 rfl rfl rfl ⟨rfl, trivial⟩ (fun Xt => ?_)
 refine ji_start ?_
 refine ji_le (E' := ⟨[(0, kI x)], []⟩) (fun _ _ _ hs => hs) ?_
 unfold cmp_isNaN_int_ at h
 refine ji_rz ⟨[(0, kI x)], []⟩ (by kernel_rfl) ?_
 refine ji_rz ⟨[(2, kB (x != x))], []⟩ (by kernel_rfl) ?_
 obtain rfl := sj h
 exact je_ret (le_z (by kernel_rfl))
theorem darningref07_Sorted_ok {m : T_Name_Fields} {r : (List Int)} (h : darningref07_Sorted m = some r) : FnOk Try.prog 18 [.rc R_Name_Fields [0] m] [.own (Rp.int .i64) 3 2 [] r] := by
 refine fn_intro' (E := ⟨[(2, .own (Rp.int .i64) 3 2 [] r)], []⟩) 53 Try.func18 rfl rfl rfl ⟨rfl, trivial⟩ (fun Xt => ?_)
 refine ji_start ?_
 refine ji_le (E' := ⟨[(0, .rc R_Name_Fields [0] m)], []⟩) (fun _ _ _ hs => hs) ?_
 unfold darningref07_Sorted at h
 refine ji_region ⟨[(1, .ptr 15 0)], [⟨15, 35, [kS m.Name, .sl R_Name_Number_Kind_Repeated_Packed_Of [0] m.Fields]⟩]⟩ (ro_oz 0 [.rc R_Name_Fields [0] m] rfl (lo_box 15 [kS m.Name, .sl R_Name_Number_Kind_Repeated_Packed_Of [0] m.Fields] [0] rfl rfl rfl rfl rfl) rfl (by kernel_rfl)) ?_
 refine ji_rz ⟨[(1, .ptr 15 0), (3, kN)], [⟨15, 35, [kS m.Name, .sl R_Name_Number_Kind_Repeated_Packed_Of [0] m.Fields]⟩]⟩ (by kernel_rfl) ?_
 refine ji_rz ⟨[(1, .ptr 15 0), (3, kN), (4, kI 0)], [⟨15, 35, [kS m.Name, .sl R_Name_Number_Kind_Repeated_Packed_Of [0] m.Fields]⟩]⟩ (by kernel_rfl) ?_
 refine ji_block ?_
 obtain ⟨q2, h_q2, h⟩ := bnd h
 refine je_loop (fun s : ((List Int) × Int) => darningref07_Sorted_b1 m s.1 s.2) (fun s => ⟨[(1, .ptr 15 0), (3, .own (Rp.int .i64) 3 18 [] s.1), (4, kI s.2)], [⟨15, 35, [kS m.Name, .sl R_Name_Number_Kind_Repeated_Packed_Of [0] m.Fields]⟩]⟩) (fun o e a w => e = .exit 0 ∧ Sx ⟨⟨53, []⟩, Xt, false, #[]⟩ ⟨[(3, .own (Rp.int .i64) 3 18 [] o)], []⟩ a w) ?_ h_q2 ?_ ?_
 ·
  clear h
  intro s o h
  obtain ⟨out, i⟩ := s
  refine ji_start ?_
  refine ji_le (E' := ⟨[(1, .ptr 15 0), (3, .own (Rp.int .i64) 3 18 [] out), (4, kI i)], [⟨15, 35, [kS m.Name, .sl R_Name_Number_Kind_Repeated_Packed_Of [0] m.Fields]⟩]⟩) (fun _ _ _ hs => hs) ?_
  replace h : darningref07_Sorted_b1 m out i = some o := h
  unfold darningref07_Sorted_b1 at h
  refine ji_rz ⟨[(1, .ptr 15 0), (3, .own (Rp.int .i64) 3 18 [] out), (4, kI i), (11, kB (decide (i < (m.Fields.length : Int))))], [⟨15, 35, [kS m.Name, .sl R_Name_Number_Kind_Repeated_Packed_Of [0] m.Fields]⟩]⟩ (by kernel_rfl) ?_
  rcases ite_some h with ⟨hc1, h⟩ | ⟨hc1, h⟩
  ·
   refine ji_condT rfl hc1 ?_
   refine ji_block ?_
   refine ji_rz ⟨[(1, .ptr 15 0), (3, .own (Rp.int .i64) 3 18 [] out), (4, kI i), (5, kI 0)], [⟨15, 35, [kS m.Name, .sl R_Name_Number_Kind_Repeated_Packed_Of [0] m.Fields]⟩]⟩ (by kernel_rfl) ?_
   refine ji_block ?_
   obtain ⟨q, h_q, h⟩ := bnd h
   refine je_loop (fun s : Int => darningref07_Sorted_b2 i m out s) (fun s => ⟨[(1, .ptr 15 0), (3, .own (Rp.int .i64) 3 18 [] out), (4, kI i), (5, kI s)], [⟨15, 35, [kS m.Name, .sl R_Name_Number_Kind_Repeated_Packed_Of [0] m.Fields]⟩]⟩) (fun o e a w => e = .exit 2 ∧ Sx ⟨⟨53, []⟩, Xt, false, #[]⟩ ⟨[(1, .ptr 15 0), (3, .own (Rp.int .i64) 3 18 [] out), (4, kI i), (5, kI o)], [⟨15, 35, [kS m.Name, .sl R_Name_Number_Kind_Repeated_Packed_Of [0] m.Fields]⟩]⟩ a w) ?_ h_q (le_z (by kernel_rfl)) ?_
   ·
    clear h
    intro k o h
    refine ji_start ?_
    refine ji_le (E' := ⟨[(1, .ptr 15 0), (3, .own (Rp.int .i64) 3 18 [] out), (4, kI i), (5, kI k)], [⟨15, 35, [kS m.Name, .sl R_Name_Number_Kind_Repeated_Packed_Of [0] m.Fields]⟩]⟩) (fun _ _ _ hs => hs) ?_
    replace h : darningref07_Sorted_b2 i m out k = some o := h
    unfold darningref07_Sorted_b2 at h
    obtain ⟨g, h_g, h⟩ := bnd h
    refine ji_join (R := fun e a w => e = .normal ∧ Sx ⟨⟨53, []⟩, Xt, false, #[]⟩ ⟨[(1, .ptr 15 0), (3, .own (Rp.int .i64) 3 18 [] out), (4, kI i), (5, kI k), (35, kB g)], [⟨15, 35, [kS m.Name, .sl R_Name_Number_Kind_Repeated_Packed_Of [0] m.Fields]⟩]⟩ a w) ?_ (k_norm ?_)
    ·
     refine ji_start ?_
     rcases Bool.eq_false_or_eq_true (decide (k < (out.length : Int))) with hc2 | hc2
     ·
      replace h_g := iteT h_g hc2
      obtain ⟨x, h_x, h_g⟩ := bnd h_g
      obtain ⟨x2, h_x2, h_g⟩ := bnd h_g
      obtain ⟨x3, h_x3, h_g⟩ := bnd h_g
      obtain rfl := sj h_g
      refine ji_draw ⟨[(1, .ptr 15 0), (3, .own (Rp.int .i64) 3 18 [] out), (4, kI i), (5, kI k), (35, kB (decide (x2.Number ≤ x3.Number)))], [⟨15, 35, [kS m.Name, .sl R_Name_Number_Kind_Repeated_Packed_Of [0] m.Fields]⟩]⟩ [.ev, .ev, .ev, .ev, .ex [] [] [] (kB true) [], .ev, .ev, .ev, .ev, .ex [] [] [] (.ep (Rp.int .i64) [18] x 0) [], .ev, .ex [] [] [] (.ep R_Name_Number_Kind_Repeated_Packed_Of [0] x2 0) [], .ev, .ev, .ev, .ev, .ev, .ex [] [] [] (.ep R_Name_Number_Kind_Repeated_Packed_Of [0] x3 0) []] [⟨[(.tmp 17, kB (decide (k < (out.length : Int))))], [], []⟩, ⟨[(.tmp 21, .own (Rp.int .i64) 3 18 [] out), (.tmp 22, kI k)], [], []⟩, ⟨[(.tmp 20, .sl R_Name_Number_Kind_Repeated_Packed_Of [0] m.Fields), (.tmp 24, kI x)], [], []⟩, ⟨[(.tmp 29, .sl R_Name_Number_Kind_Repeated_Packed_Of [0] m.Fields), (.tmp 30, kI i)], [], []⟩] [1, 3, 4, 5, 35] [15] mixed (by kernel_rfl) (by exact (lw_e (lw_e (lw_e (lw_e (lw_x (lo_evb ⟨[(17, kB (decide (k < (out.length : Int))))], []⟩ (by kernel_rfl) hc2) (lw_e (lw_e (lw_e (lw_e (lw_x (lo_as (lo_ix rfl zet44.el (isSl_own _ _ _ _ _) h_x) rfl) (lw_e (lw_x (lo_as (lo_ix rfl zet33.el (isSl_sl _ _ _) h_x2) rfl) (lw_e (lw_e (lw_e (lw_e (lw_e (lw_x (lo_as (lo_ix rfl zet33.el (isSl_sl _ _ _) h_x3) rfl) lw_0))))))))))))))))))) ?_
      exact je_nil (le_z (by kernel_rfl))
     replace h_g := iteF h_g hc2
     obtain rfl := sj h_g
     refine ji_draw ⟨[(1, .ptr 15 0), (3, .own (Rp.int .i64) 3 18 [] out), (4, kI i), (5, kI k), (35, kB false)], [⟨15, 35, [kS m.Name, .sl R_Name_Number_Kind_Repeated_Packed_Of [0] m.Fields]⟩]⟩ [.ev, .ev, .ev, .ev, .ex [] [] [] (kB false) []] [⟨[(.tmp 17, kB (decide (k < (out.length : Int))))], [], []⟩] [1, 3, 4, 5, 35] [15] mixed (by kernel_rfl) (by exact (lw_e (lw_e (lw_e (lw_e (lw_x (lo_evb ⟨[(17, kB (decide (k < (out.length : Int))))], []⟩ (by kernel_rfl) hc2) lw_0)))))) ?_
     exact je_nil (le_z (by kernel_rfl))
    rcases ite_some h with ⟨hc3, h⟩ | ⟨hc3, h⟩
    ·
     refine ji_condT rfl hc3 ?_
     refine ji_block ?_
     refine ji_rz ⟨[(1, .ptr 15 0), (3, .own (Rp.int .i64) 3 18 [] out), (4, kI i), (5, kI (IntKind.i64.wrap (k + 1)))], [⟨15, 35, [kS m.Name, .sl R_Name_Number_Kind_Repeated_Packed_Of [0] m.Fields]⟩]⟩ (by kernel_rfl) ?_
     refine ji_end ?_
     obtain rfl := sj h
     exact je_nil (le_z (by kernel_rfl))
    refine ji_condF rfl hc3 ?_
    obtain rfl := sj h
    exact je_out' rfl (le_z (by kernel_rfl))
   refine k_exit _ rfl ?_
   obtain ⟨v2, h_v2, h⟩ := bnd h
   obtain ⟨v3, h_v3, h⟩ := bnd h
   refine ji_region ⟨[(1, .ptr 15 0), (3, .own (Rp.int .i64) 3 18 [] out), (4, kI i), (5, kI q), (6, .own (Rp.int .i64) 3 20 [] v3)], [⟨15, 35, [kS m.Name, .sl R_Name_Number_Kind_Repeated_Packed_Of [0] m.Fields]⟩]⟩ (ro_o 0 [] ⟨[(1, .ptr 15 0), (3, .own (Rp.int .i64) 3 18 [] out), (4, kI i), (5, kI q), (38, .own (Rp.int .i64) 3 20 [] ([] : (List Int)))], [⟨15, 35, [kS m.Name, .sl R_Name_Number_Kind_Repeated_Packed_Of [0] m.Fields]⟩]⟩ rfl (lo_bsl [] 20 [] ([] : (List Int)) rfl zet44 rfl rfl rfl rfl) rfl (by kernel_rfl) (ro_o 2 [.own (Rp.int .i64) 3 18 [] out, kI q] ⟨[(1, .ptr 15 0), (3, .own (Rp.int .i64) 3 18 [] out), (4, kI i), (5, kI q), (38, .own (Rp.int .i64) 3 20 [] ([] : (List Int))), (41, .sl (Rp.int .i64) [18] v2)], [⟨15, 35, [kS m.Name, .sl R_Name_Number_Kind_Repeated_Packed_Of [0] m.Fields]⟩]⟩ rfl (lo_cut none (some (kI q)) rfl zet44.el (isSl_own _ _ _ _ _) ⟨rfl, rfl⟩ ⟨rfl, rfl⟩ h_v2) rfl (by kernel_rfl) (ro_oz 0 [.own (Rp.int .i64) 3 20 [] ([] : (List Int)), .sl (Rp.int .i64) [18] v2] rfl (lo_app 20 [] rfl zet44.el rfl (isOwn_own _ _ _ _ _) (isSl_sl _ _ _) h_v3 (.inl (plain_int _)) rfl) rfl (by kernel_rfl)))) ?_
   obtain ⟨v4, h_v4, h⟩ := bnd h
   refine ji_region ⟨[(1, .ptr 15 0), (3, .own (Rp.int .i64) 3 18 [] out), (4, kI i), (5, kI q), (6, .own (Rp.int .i64) 3 20 [] v4)], [⟨15, 35, [kS m.Name, .sl R_Name_Number_Kind_Repeated_Packed_Of [0] m.Fields]⟩]⟩ (ro_o 2 [kI i] ⟨[(1, .ptr 15 0), (3, .own (Rp.int .i64) 3 18 [] out), (4, kI i), (5, kI q), (43, .own (Rp.int .i64) 3 20 [] v3), (45, .own (Rp.int .i64) 3 21 [] ([i] : (List Int)))], [⟨15, 35, [kS m.Name, .sl R_Name_Number_Kind_Repeated_Packed_Of [0] m.Fields]⟩]⟩ rfl (lo_bsl [kI i] 21 [] ([i] : (List Int)) rfl zet44 rfl rfl rfl rfl) rfl (by kernel_rfl) (ro_oz 0 [.own (Rp.int .i64) 3 20 [] v3, .own (Rp.int .i64) 3 21 [] ([i] : (List Int))] rfl (lo_app 20 [] rfl zet44.el rfl (isOwn_own _ _ _ _ _) (isSl_own _ _ _ _ _) h_v4 (.inl (plain_int _)) rfl) rfl (by kernel_rfl))) ?_
   obtain ⟨v5, h_v5, h⟩ := bnd h
   obtain ⟨v6, h_v6, h⟩ := bnd h
   refine ji_region ⟨[(1, .ptr 15 0), (3, .own (Rp.int .i64) 3 20 [] v6), (4, kI i)], [⟨15, 35, [kS m.Name, .sl R_Name_Number_Kind_Repeated_Packed_Of [0] m.Fields]⟩]⟩ (ro_o 3 [.own (Rp.int .i64) 3 18 [] out, kI q] ⟨[(1, .ptr 15 0), (4, kI i), (47, .own (Rp.int .i64) 3 20 [] v4), (50, .sl (Rp.int .i64) [18] v5)], [⟨15, 35, [kS m.Name, .sl R_Name_Number_Kind_Repeated_Packed_Of [0] m.Fields]⟩]⟩ rfl (lo_cut (some (kI q)) none rfl zet44.el (isSl_own _ _ _ _ _) ⟨rfl, rfl⟩ ⟨rfl, rfl⟩ h_v5) rfl (by kernel_rfl) (ro_oz 0 [.own (Rp.int .i64) 3 20 [] v4, .sl (Rp.int .i64) [18] v5] rfl (lo_app 20 [] rfl zet44.el rfl (isOwn_own _ _ _ _ _) (isSl_sl _ _ _) h_v6 (.inl (plain_int _)) rfl) rfl (by kernel_rfl))) ?_
   refine ji_end ?_
   refine ji_rz ⟨[(1, .ptr 15 0), (3, .own (Rp.int .i64) 3 20 [] v6), (4, kI (IntKind.i64.wrap (i + 1)))], [⟨15, 35, [kS m.Name, .sl R_Name_Number_Kind_Repeated_Packed_Of [0] m.Fields]⟩]⟩ (by kernel_rfl) ?_
   obtain rfl := sj h
   refine je_nil ?_
   refine le_px ⟨[(1, .ptr 15 0), (3, .own (Rp.int .i64) 3 20 [] v6), (4, kI (IntKind.i64.wrap (i + 1)))], [⟨15, 35, [kS m.Name, .sl R_Name_Number_Kind_Repeated_Packed_Of [0] m.Fields]⟩]⟩ (by kernel_rfl) (le_rn 20 18 rfl (le_px ⟨[(1, .ptr 15 0), (3, .own (Rp.int .i64) 3 18 [] v6), (4, kI (IntKind.i64.wrap (i + 1)))], [⟨15, 35, [kS m.Name, .sl R_Name_Number_Kind_Repeated_Packed_Of [0] m.Fields]⟩]⟩ (by kernel_rfl) ?_))
   exact le_z (by kernel_rfl)
  refine ji_condF rfl hc1 ?_
  obtain rfl := sj h
  exact je_out' rfl (le_z (by kernel_rfl))
 ·
  refine le_at 3 (.own (Rp.int .i64) 3 18 [] []) rfl (le_own_nil (Rp.int .i64) 3 18 [] rfl) ?_
  exact le_z (by kernel_rfl)
 refine k_exit _ rfl ?_
 refine ji_rz ⟨[(2, .own (Rp.int .i64) 3 18 [] q2)], []⟩ (by kernel_rfl) ?_
 obtain rfl := sj h
 refine je_ret ?_
 refine le_px ⟨[(2, .own (Rp.int .i64) 3 18 [] q2)], []⟩ (by kernel_rfl) (le_rn 18 2 rfl (le_px ⟨[(2, .own (Rp.int .i64) 3 2 [] q2)], []⟩ (by kernel_rfl) ?_))
 exact le_z (by kernel_rfl)
theorem darningref07_SameInts_ok {av : (List Int)} {b : (List Int)} {r : Bool} (h : darningref07_SameInts av b = some r) : FnOk Try.prog 16 [.sl (Rp.int .i64) [0] av, .sl (Rp.int .i64) [0] b] [kB r] := by
 refine fn_intro' (E := ⟨[(4, kB r)], []⟩) 26 Try.func16 rfl rfl rfl ⟨rfl, trivial⟩ (fun Xt => ?_)
 refine ji_start ?_
 refine ji_le (E' := ⟨[(0, .sl (Rp.int .i64) [0] av), (1, .sl (Rp.int .i64) [0] b)], []⟩) (fun _ _ _ hs => hs) ?_
 unfold darningref07_SameInts at h
 refine ji_rz ⟨[(0, .sl (Rp.int .i64) [0] av), (1, .sl (Rp.int .i64) [0] b)], []⟩ (by kernel_rfl) ?_
 refine ji_rz ⟨[(0, .sl (Rp.int .i64) [0] av), (1, .sl (Rp.int .i64) [0] b), (10, kB ((av.length : Int) != (b.length : Int)))], []⟩ (by kernel_rfl) ?_
 rcases ite_some h with ⟨hc1, h⟩ | ⟨hc1, h⟩
 ·
  refine ji_condT rfl hc1 ?_
  refine ji_rz ⟨[(4, kB false)], []⟩ (by kernel_rfl) ?_
  obtain rfl := sj h
  exact je_ret (le_z (by kernel_rfl))
 refine ji_condF rfl hc1 ?_
 refine ji_rz ⟨[(0, .sl (Rp.int .i64) [0] av), (1, .sl (Rp.int .i64) [0] b), (5, kI 0)], []⟩ (by kernel_rfl) ?_
 refine ji_block ?_
 obtain ⟨q, h_q, h⟩ := bnd h
 refine je_loop (fun s : Int => darningref07_SameInts_b1 av b s) (fun s => ⟨[(0, .sl (Rp.int .i64) [0] av), (1, .sl (Rp.int .i64) [0] b), (5, kI s)], []⟩) (fun o e a w => match o with | (.inl v_) => e = .exit 0 ∧ Sx ⟨⟨26, []⟩, Xt, false, #[]⟩ ⟨[], []⟩ a w | (.inr v_) => e = .ret ∧ Sx ⟨⟨26, []⟩, Xt, false, #[]⟩ ⟨[(4, kB false)], []⟩ a w) ?_ h_q (le_z (by kernel_rfl)) ?_
 ·
  clear h
  intro i o h
  refine ji_start ?_
  refine ji_le (E' := ⟨[(0, .sl (Rp.int .i64) [0] av), (1, .sl (Rp.int .i64) [0] b), (5, kI i)], []⟩) (fun _ _ _ hs => hs) ?_
  replace h : darningref07_SameInts_b1 av b i = some o := h
  unfold darningref07_SameInts_b1 at h
  refine ji_rz ⟨[(0, .sl (Rp.int .i64) [0] av), (1, .sl (Rp.int .i64) [0] b), (5, kI i), (14, kB (decide (i < (av.length : Int))))], []⟩ (by kernel_rfl) ?_
  rcases ite_some h with ⟨hc2, h⟩ | ⟨hc2, h⟩
  ·
   refine ji_condT rfl hc2 ?_
   refine ji_block ?_
   obtain ⟨x, h_x, h⟩ := bnd h
   obtain ⟨x2, h_x2, h⟩ := bnd h
   refine ji_draw ⟨[(0, .sl (Rp.int .i64) [0] av), (1, .sl (Rp.int .i64) [0] b), (5, kI i), (25, kB (x != x2))], []⟩ [.ev, .ev, .ex [] [] [] (.ep (Rp.int .i64) [0] x 0) [], .ev, .ev, .ev, .ex [] [] [] (.ep (Rp.int .i64) [0] x2 0) []] [⟨[(.tmp 17, .sl (Rp.int .i64) [0] av), (.tmp 18, kI i)], [], []⟩, ⟨[(.tmp 21, .sl (Rp.int .i64) [0] b), (.tmp 22, kI i)], [], []⟩] [0, 1, 5, 25] [] mixed (by kernel_rfl) (by exact (lw_e (lw_e (lw_x (lo_as (lo_ix rfl zet44.el (isSl_sl _ _ _) h_x) rfl) (lw_e (lw_e (lw_e (lw_x (lo_as (lo_ix rfl zet44.el (isSl_sl _ _ _) h_x2) rfl) lw_0)))))))) ?_
   rcases ite_some h with ⟨hc3, h⟩ | ⟨hc3, h⟩
   ·
    refine ji_condT rfl hc3 ?_
    refine ji_rz ⟨[(4, kB false)], []⟩ (by kernel_rfl) ?_
    obtain rfl := sj h
    exact je_ret' (le_z (by kernel_rfl))
   refine ji_condF rfl hc3 ?_
   refine ji_end ?_
   refine ji_rz ⟨[(0, .sl (Rp.int .i64) [0] av), (1, .sl (Rp.int .i64) [0] b), (5, kI (IntKind.i64.wrap (i + 1)))], []⟩ (by kernel_rfl) ?_
   obtain rfl := sj h
   exact je_nil (le_z (by kernel_rfl))
  refine ji_condF rfl hc2 ?_
  obtain rfl := sj h
  exact je_out' rfl (le_z (by kernel_rfl))
 rcases q with u | u2
 ·
  refine k_exit _ rfl ?_
  refine ji_rz ⟨[(4, kB true)], []⟩ (by kernel_rfl) ?_
  obtain rfl := sj h
  exact je_ret (le_z (by kernel_rfl))
 obtain rfl := sj h
 exact ke_ret (le_z (by kernel_rfl))
theorem slices_Equal___api_Field_api_Field__ok {s1 : (List T_Name_Number_Kind_Repeated_Packed_Of)} {s2 : (List T_Name_Number_Kind_Repeated_Packed_Of)} {r : Bool} (h : slices_Equal___api_Field_api_Field_ s1 s2 = some r) : FnOk Try.prog 52 [.sl R_Name_Number_Kind_Repeated_Packed_Of [0] s1, .sl R_Name_Number_Kind_Repeated_Packed_Of [0] s2] [kB r] := by
 refine fn_intro' (E := ⟨[(4, kB r)], []⟩) 26 Try.func52 rfl rfl rfl ⟨rfl, trivial⟩ (fun Xt => ?_)
 refine ji_start ?_
 refine ji_le (E' := ⟨[(0, .sl R_Name_Number_Kind_Repeated_Packed_Of [0] s1), (1, .sl R_Name_Number_Kind_Repeated_Packed_Of [0] s2)], []⟩) (fun _ _ _ hs => hs) ?_
 unfold slices_Equal___api_Field_api_Field_ at h
 refine ji_rz ⟨[(0, .sl R_Name_Number_Kind_Repeated_Packed_Of [0] s1), (1, .sl R_Name_Number_Kind_Repeated_Packed_Of [0] s2)], []⟩ (by kernel_rfl) ?_
 refine ji_rz ⟨[(0, .sl R_Name_Number_Kind_Repeated_Packed_Of [0] s1), (1, .sl R_Name_Number_Kind_Repeated_Packed_Of [0] s2), (10, kB ((s1.length : Int) != (s2.length : Int)))], []⟩ (by kernel_rfl) ?_
 rcases ite_some h with ⟨hc1, h⟩ | ⟨hc1, h⟩
 ·
  refine ji_condT rfl hc1 ?_
  refine ji_rz ⟨[(4, kB false)], []⟩ (by kernel_rfl) ?_
  obtain rfl := sj h
  exact je_ret (le_z (by kernel_rfl))
 refine ji_condF rfl hc1 ?_
 refine ji_rz ⟨[(0, .sl R_Name_Number_Kind_Repeated_Packed_Of [0] s1), (1, .sl R_Name_Number_Kind_Repeated_Packed_Of [0] s2), (12, kI (s1.length : Int)), (13, kI 0)], []⟩ (by kernel_rfl) ?_
 refine ji_block ?_
 obtain ⟨q, h_q, h⟩ := bnd h
 refine je_loop (fun s : Int => slices_Equal___api_Field_api_Field__b1 s1 s2 s) (fun s => ⟨[(0, .sl R_Name_Number_Kind_Repeated_Packed_Of [0] s1), (1, .sl R_Name_Number_Kind_Repeated_Packed_Of [0] s2), (12, kI (s1.length : Int)), (13, kI s)], []⟩) (fun o e a w => match o with | (.inl v_) => e = .exit 0 ∧ Sx ⟨⟨26, []⟩, Xt, false, #[]⟩ ⟨[], []⟩ a w | (.inr v_) => e = .ret ∧ Sx ⟨⟨26, []⟩, Xt, false, #[]⟩ ⟨[(4, kB false)], []⟩ a w) ?_ h_q (le_z (by kernel_rfl)) ?_
 ·
  clear h
  intro v o h
  refine ji_start ?_
  refine ji_le (E' := ⟨[(0, .sl R_Name_Number_Kind_Repeated_Packed_Of [0] s1), (1, .sl R_Name_Number_Kind_Repeated_Packed_Of [0] s2), (12, kI (s1.length : Int)), (13, kI v)], []⟩) (fun _ _ _ hs => hs) ?_
  replace h : slices_Equal___api_Field_api_Field__b1 s1 s2 v = some o := h
  unfold slices_Equal___api_Field_api_Field__b1 at h
  refine ji_rz ⟨[(0, .sl R_Name_Number_Kind_Repeated_Packed_Of [0] s1), (1, .sl R_Name_Number_Kind_Repeated_Packed_Of [0] s2), (12, kI (s1.length : Int)), (13, kI v), (14, kB (decide (v < (s1.length : Int))))], []⟩ (by kernel_rfl) ?_
  rcases ite_some h with ⟨hc2, h⟩ | ⟨hc2, h⟩
  ·
   refine ji_condT rfl hc2 ?_
   refine ji_block ?_
   refine ji_rz ⟨[(0, .sl R_Name_Number_Kind_Repeated_Packed_Of [0] s1), (1, .sl R_Name_Number_Kind_Repeated_Packed_Of [0] s2), (5, kI v), (12, kI (s1.length : Int)), (13, kI v)], []⟩ (by kernel_rfl) ?_
   obtain ⟨x, h_x, h⟩ := bnd h
   obtain ⟨x2, h_x2, h⟩ := bnd h
   refine ji_draw ⟨[(0, .sl R_Name_Number_Kind_Repeated_Packed_Of [0] s1), (1, .sl R_Name_Number_Kind_Repeated_Packed_Of [0] s2), (12, kI (s1.length : Int)), (13, kI v), (24, kB (!(decide (x = x2))))], []⟩ [.ev, .ev, .ex [] [] [] (.ep R_Name_Number_Kind_Repeated_Packed_Of [0] x 0) [], .ex [] [] [] (.rc R_Name_Number_Kind_Repeated_Packed_Of [0] x) [], .ev, .ev, .ex [] [] [] (.ep R_Name_Number_Kind_Repeated_Packed_Of [0] x2 0) [], .ex [] [] [] (.rc R_Name_Number_Kind_Repeated_Packed_Of [0] x2) [], .ex [] [] [] (kB (!(decide (x = x2)))) []] [⟨[(.tmp 16, .sl R_Name_Number_Kind_Repeated_Packed_Of [0] s1), (.tmp 17, kI v)], [], []⟩, ⟨[(.tmp 18, .ep R_Name_Number_Kind_Repeated_Packed_Of [0] x 0)], [], []⟩, ⟨[(.tmp 20, .sl R_Name_Number_Kind_Repeated_Packed_Of [0] s2), (.tmp 21, kI v)], [], []⟩, ⟨[(.tmp 22, .ep R_Name_Number_Kind_Repeated_Packed_Of [0] x2 0)], [], []⟩, ⟨[(.tmp 19, .rc R_Name_Number_Kind_Repeated_Packed_Of [0] x), (.tmp 23, .rc R_Name_Number_Kind_Repeated_Packed_Of [0] x2)], [], []⟩] [0, 1, 12, 13, 24] [] mixed (by kernel_rfl) (by exact (lw_e (lw_e (lw_x (lo_as (lo_ix rfl zet33.el (isSl_sl _ _ _) h_x) rfl) (lw_x (lo_as (lo_ldr rfl ⟨Try.isAgg50, Try.sizeOf50⟩) rfl) (lw_e (lw_e (lw_x (lo_as (lo_ix rfl zet33.el (isSl_sl _ _ _) h_x2) rfl) (lw_x (lo_as (lo_ldr rfl ⟨Try.isAgg50, Try.sizeOf50⟩) rfl) (lw_x (lo_as (lo_ner rfl Try.eqGuardType50 rfl rfl (eqt50 _ _)) rfl) lw_0)))))))))) ?_
   rcases ite_some h with ⟨hc3, h⟩ | ⟨hc3, h⟩
   ·
    refine ji_condT rfl hc3 ?_
    refine ji_rz ⟨[(4, kB false)], []⟩ (by kernel_rfl) ?_
    obtain rfl := sj h
    exact je_ret' (le_z (by kernel_rfl))
   refine ji_condF rfl hc3 ?_
   refine ji_end ?_
   refine ji_rz ⟨[(0, .sl R_Name_Number_Kind_Repeated_Packed_Of [0] s1), (1, .sl R_Name_Number_Kind_Repeated_Packed_Of [0] s2), (12, kI (s1.length : Int)), (13, kI (IntKind.i64.wrap (v + 1)))], []⟩ (by kernel_rfl) ?_
   obtain rfl := sj h
   exact je_nil (le_z (by kernel_rfl))
  refine ji_condF rfl hc2 ?_
  obtain rfl := sj h
  exact je_out' rfl (le_z (by kernel_rfl))
 rcases q with u | u2
 ·
  refine k_exit _ rfl ?_
  refine ji_rz ⟨[(4, kB true)], []⟩ (by kernel_rfl) ?_
  obtain rfl := sj h
  exact je_ret (le_z (by kernel_rfl))
 obtain rfl := sj h
 exact ke_ret (le_z (by kernel_rfl))
theorem darningref07_Same_ok {av : (List T_Name_Fields)} {b : (List T_Name_Fields)} {r : Bool} (h : darningref07_Same av b = some r) : FnOk Try.prog 20 [.sl R_Name_Fields [0] av, .sl R_Name_Fields [0] b] [kB r] := by
 refine fn_intro' (E := ⟨[(4, kB r)], []⟩) 71 Try.func20 rfl rfl rfl ⟨rfl, trivial⟩ (fun Xt => ?_)
 refine ji_start ?_
 refine ji_le (E' := ⟨[(0, .sl R_Name_Fields [0] av), (1, .sl R_Name_Fields [0] b)], []⟩) (fun _ _ _ hs => hs) ?_
 unfold darningref07_Same at h
 refine ji_rz ⟨[(0, .sl R_Name_Fields [0] av), (1, .sl R_Name_Fields [0] b)], []⟩ (by kernel_rfl) ?_
 refine ji_rz ⟨[(0, .sl R_Name_Fields [0] av), (1, .sl R_Name_Fields [0] b), (11, kB ((av.length : Int) != (b.length : Int)))], []⟩ (by kernel_rfl) ?_
 rcases ite_some h with ⟨hc1, h⟩ | ⟨hc1, h⟩
 ·
  refine ji_condT rfl hc1 ?_
  refine ji_rz ⟨[(4, kB false)], []⟩ (by kernel_rfl) ?_
  obtain rfl := sj h
  exact je_ret (le_z (by kernel_rfl))
 refine ji_condF rfl hc1 ?_
 refine ji_rz ⟨[(0, .sl R_Name_Fields [0] av), (1, .sl R_Name_Fields [0] b), (5, kI 0)], []⟩ (by kernel_rfl) ?_
 refine ji_block ?_
 obtain ⟨q2, h_q2, h⟩ := bnd h
 refine je_loop (fun s : Int => darningref07_Same_b1 av b s) (fun s => ⟨[(0, .sl R_Name_Fields [0] av), (1, .sl R_Name_Fields [0] b), (5, kI s)], []⟩) (fun o e a w => match o with | (.inl v_) => e = .exit 0 ∧ Sx ⟨⟨71, []⟩, Xt, false, #[]⟩ ⟨[], []⟩ a w | (.inr v_) => e = .ret ∧ Sx ⟨⟨71, []⟩, Xt, false, #[]⟩ ⟨[(4, kB false)], []⟩ a w) ?_ h_q2 (le_z (by kernel_rfl)) ?_
 ·
  clear h
  intro i o h
  refine ji_start ?_
  refine ji_le (E' := ⟨[(0, .sl R_Name_Fields [0] av), (1, .sl R_Name_Fields [0] b), (5, kI i)], []⟩) (fun _ _ _ hs => hs) ?_
  replace h : darningref07_Same_b1 av b i = some o := h
  unfold darningref07_Same_b1 at h
  refine ji_rz ⟨[(0, .sl R_Name_Fields [0] av), (1, .sl R_Name_Fields [0] b), (5, kI i), (15, kB (decide (i < (av.length : Int))))], []⟩ (by kernel_rfl) ?_
  rcases ite_some h with ⟨hc2, h⟩ | ⟨hc2, h⟩
  ·
   refine ji_condT rfl hc2 ?_
   refine ji_block ?_
   obtain ⟨g, h_g, h⟩ := bnd h
   refine ji_join (R := fun e a w => e = .normal ∧ Sx ⟨⟨71, []⟩, Xt, false, #[]⟩ ⟨[(0, .sl R_Name_Fields [0] av), (1, .sl R_Name_Fields [0] b), (5, kI i), (43, kB g)], []⟩ a w) ?_ (k_norm ?_)
   ·
    refine ji_start ?_
    obtain ⟨x, h_x, h_g⟩ := bnd h_g
    obtain ⟨x2, h_x2, h_g⟩ := bnd h_g
    rcases Bool.eq_false_or_eq_true (!(x.Name == x2.Name)) with hc3 | hc3
    ·
     replace h_g := iteT h_g hc3
     obtain rfl := sj h_g
     refine ji_draw ⟨[(0, .sl R_Name_Fields [0] av), (1, .sl R_Name_Fields [0] b), (5, kI i), (43, kB true)], []⟩ [.ev, .ev, .ex [] [] [] (.ep R_Name_Fields [0] x 0) [], .ev, .ev, .ev, .ev, .ex [] [] [] (.ep R_Name_Fields [0] x2 0) [], .ev, .ev, .ev, .ex [] [] [] (kB true) []] [⟨[(.tmp 18, .sl R_Name_Fields [0] av), (.tmp 19, kI i)], [], []⟩, ⟨[(.tmp 23, .sl R_Name_Fields [0] b), (.tmp 24, kI i)], [], []⟩, ⟨[(.tmp 28, kB (!(x.Name == x2.Name)))], [], []⟩] [0, 1, 5, 43] [] mixed (by kernel_rfl) (by exact (lw_e (lw_e (lw_x (lo_as (lo_ix rfl zet23.el (isSl_sl _ _ _) h_x) rfl) (lw_e (lw_e (lw_e (lw_e (lw_x (lo_as (lo_ix rfl zet23.el (isSl_sl _ _ _) h_x2) rfl) (lw_e (lw_e (lw_e (lw_x (lo_evb ⟨[(28, kB (!(x.Name == x2.Name)))], []⟩ (by kernel_rfl) hc3) lw_0))))))))))))) ?_
     exact je_nil (le_z (by kernel_rfl))
    replace h_g := iteF h_g hc3
    obtain ⟨x3, h_x3, h_g⟩ := bnd h_g
    obtain ⟨x4, h_x4, h_g⟩ := bnd h_g
    obtain rfl := sj h_g
    refine ji_draw ⟨[(0, .sl R_Name_Fields [0] av), (1, .sl R_Name_Fields [0] b), (5, kI i), (43, kB ((x3.Fields.length : Int) != (x4.Fields.length : Int)))], []⟩ [.ev, .ev, .ex [] [] [] (.ep R_Name_Fields [0] x 0) [], .ev, .ev, .ev, .ev, .ex [] [] [] (.ep R_Name_Fields [0] x2 0) [], .ev, .ev, .ev, .ex [] [] [] (kB false) [], .ev, .ev, .ex [] [] [] (.ep R_Name_Fields [0] x3 0) [], .ev, .ex [] [] [] (.sl R_Name_Number_Kind_Repeated_Packed_Of [0] x3.Fields) [], .ev, .ev, .ev, .ex [] [] [] (.ep R_Name_Fields [0] x4 0) [], .ev, .ex [] [] [] (.sl R_Name_Number_Kind_Repeated_Packed_Of [0] x4.Fields) []] [⟨[(.tmp 18, .sl R_Name_Fields [0] av), (.tmp 19, kI i)], [], []⟩, ⟨[(.tmp 23, .sl R_Name_Fields [0] b), (.tmp 24, kI i)], [], []⟩, ⟨[(.tmp 28, kB (!(x.Name == x2.Name)))], [], []⟩, ⟨[(.tmp 30, .sl R_Name_Fields [0] av), (.tmp 31, kI i)], [], []⟩, ⟨[(.tmp 33, .ep R_Name_Fields [0] x3 1)], [], []⟩, ⟨[(.tmp 36, .sl R_Name_Fields [0] b), (.tmp 37, kI i)], [], []⟩, ⟨[(.tmp 39, .ep R_Name_Fields [0] x4 1)], [], []⟩] [0, 1, 5, 43] [] mixed (by kernel_rfl) (by exact (lw_e (lw_e (lw_x (lo_as (lo_ix rfl zet23.el (isSl_sl _ _ _) h_x) rfl) (lw_e (lw_e (lw_e (lw_e (lw_x (lo_as (lo_ix rfl zet23.el (isSl_sl _ _ _) h_x2) rfl) (lw_e (lw_e (lw_e (lw_x (lo_evb ⟨[(28, kB (!(x.Name == x2.Name)))], []⟩ (by kernel_rfl) hc3) (lw_e (lw_e (lw_x (lo_as (lo_ix rfl zet23.el (isSl_sl _ _ _) h_x3) rfl) (lw_e (lw_x (lo_as (lo_lds R_Name_Number_Kind_Repeated_Packed_Of x3.Fields rfl rfl rfl) rfl) (lw_e (lw_e (lw_e (lw_x (lo_as (lo_ix rfl zet23.el (isSl_sl _ _ _) h_x4) rfl) (lw_e (lw_x (lo_as (lo_lds R_Name_Number_Kind_Repeated_Packed_Of x4.Fields rfl rfl rfl) rfl) lw_0)))))))))))))))))))))))) ?_
    exact je_nil (le_z (by kernel_rfl))
   rcases ite_some h with ⟨hc4, h⟩ | ⟨hc4, h⟩
   ·
    refine ji_condT rfl hc4 ?_
    refine ji_rz ⟨[(4, kB false)], []⟩ (by kernel_rfl) ?_
    obtain rfl := sj h
    exact je_ret' (le_z (by kernel_rfl))
   refine ji_condF rfl hc4 ?_
   refine ji_rz ⟨[(0, .sl R_Name_Fields [0] av), (1, .sl R_Name_Fields [0] b), (5, kI i), (6, kI 0)], []⟩ (by kernel_rfl) ?_
   refine ji_block ?_
   obtain ⟨q, h_q, h⟩ := bnd h
   refine je_loop (fun s : Int => darningref07_Same_b2 av b i s) (fun s => ⟨[(0, .sl R_Name_Fields [0] av), (1, .sl R_Name_Fields [0] b), (5, kI i), (6, kI s)], []⟩) (fun o e a w => match o with | (.inl v_) => e = .exit 2 ∧ Sx ⟨⟨71, []⟩, Xt, false, #[]⟩ ⟨[(0, .sl R_Name_Fields [0] av), (1, .sl R_Name_Fields [0] b), (5, kI i)], []⟩ a w | (.inr v_) => e = .ret ∧ Sx ⟨⟨71, []⟩, Xt, false, #[]⟩ ⟨[(4, kB false)], []⟩ a w) ?_ h_q (le_z (by kernel_rfl)) ?_
   ·
    clear h
    intro k o h
    refine ji_start ?_
    refine ji_le (E' := ⟨[(0, .sl R_Name_Fields [0] av), (1, .sl R_Name_Fields [0] b), (5, kI i), (6, kI k)], []⟩) (fun _ _ _ hs => hs) ?_
    replace h : darningref07_Same_b2 av b i k = some o := h
    unfold darningref07_Same_b2 at h
    obtain ⟨x5, h_x5, h⟩ := bnd h
    refine ji_region ⟨[(0, .sl R_Name_Fields [0] av), (1, .sl R_Name_Fields [0] b), (5, kI i), (6, kI k), (51, kB (decide (k < (x5.Fields.length : Int))))], []⟩ (ro_o 3 [.sl R_Name_Fields [0] av, kI i] ⟨[(0, .sl R_Name_Fields [0] av), (1, .sl R_Name_Fields [0] b), (5, kI i), (6, kI k), (44, kI k), (47, .ep R_Name_Fields [0] x5 0)], []⟩ rfl (lo_ix rfl zet23.el (isSl_sl _ _ _) h_x5) rfl (by kernel_rfl) (ro_oz 1 [.ep R_Name_Fields [0] x5 1] rfl (lo_lds R_Name_Number_Kind_Repeated_Packed_Of x5.Fields rfl rfl rfl) rfl (by kernel_rfl))) ?_
    rcases ite_some h with ⟨hc5, h⟩ | ⟨hc5, h⟩
    ·
     refine ji_condT rfl hc5 ?_
     refine ji_block ?_
     obtain ⟨x6, h_x6, h⟩ := bnd h
     obtain ⟨x7, h_x7, h⟩ := bnd h
     obtain ⟨x8, h_x8, h⟩ := bnd h
     obtain ⟨x9, h_x9, h⟩ := bnd h
     refine ji_draw ⟨[(0, .sl R_Name_Fields [0] av), (1, .sl R_Name_Fields [0] b), (5, kI i), (6, kI k), (70, kB (!(decide (x7 = x9))))], []⟩ [.ev, .ev, .ex [] [] [] (.ep R_Name_Fields [0] x6 0) [], .ev, .ex [] [] [] (.sl R_Name_Number_Kind_Repeated_Packed_Of [0] x6.Fields) [], .ev, .ex [] [] [] (.ep R_Name_Number_Kind_Repeated_Packed_Of [0] x7 0) [], .ex [] [] [] (.rc R_Name_Number_Kind_Repeated_Packed_Of [0] x7) [], .ev, .ev, .ex [] [] [] (.ep R_Name_Fields [0] x8 0) [], .ev, .ex [] [] [] (.sl R_Name_Number_Kind_Repeated_Packed_Of [0] x8.Fields) [], .ev, .ex [] [] [] (.ep R_Name_Number_Kind_Repeated_Packed_Of [0] x9 0) [], .ex [] [] [] (.rc R_Name_Number_Kind_Repeated_Packed_Of [0] x9) [], .ex [] [] [] (kB (!(decide (x7 = x9)))) []] [⟨[(.tmp 54, .sl R_Name_Fields [0] av), (.tmp 55, kI i)], [], []⟩, ⟨[(.tmp 57, .ep R_Name_Fields [0] x6 1)], [], []⟩, ⟨[(.tmp 58, .sl R_Name_Number_Kind_Repeated_Packed_Of [0] x6.Fields), (.tmp 59, kI k)], [], []⟩, ⟨[(.tmp 60, .ep R_Name_Number_Kind_Repeated_Packed_Of [0] x7 0)], [], []⟩, ⟨[(.tmp 62, .sl R_Name_Fields [0] b), (.tmp 63, kI i)], [], []⟩, ⟨[(.tmp 65, .ep R_Name_Fields [0] x8 1)], [], []⟩, ⟨[(.tmp 66, .sl R_Name_Number_Kind_Repeated_Packed_Of [0] x8.Fields), (.tmp 67, kI k)], [], []⟩, ⟨[(.tmp 68, .ep R_Name_Number_Kind_Repeated_Packed_Of [0] x9 0)], [], []⟩, ⟨[(.tmp 61, .rc R_Name_Number_Kind_Repeated_Packed_Of [0] x7), (.tmp 69, .rc R_Name_Number_Kind_Repeated_Packed_Of [0] x9)], [], []⟩] [0, 1, 5, 6, 70] [] mixed (by kernel_rfl) (by exact (lw_e (lw_e (lw_x (lo_as (lo_ix rfl zet23.el (isSl_sl _ _ _) h_x6) rfl) (lw_e (lw_x (lo_as (lo_lds R_Name_Number_Kind_Repeated_Packed_Of x6.Fields rfl rfl rfl) rfl) (lw_e (lw_x (lo_as (lo_ix rfl zet33.el (isSl_sl _ _ _) h_x7) rfl) (lw_x (lo_as (lo_ldr rfl ⟨Try.isAgg50, Try.sizeOf50⟩) rfl) (lw_e (lw_e (lw_x (lo_as (lo_ix rfl zet23.el (isSl_sl _ _ _) h_x8) rfl) (lw_e (lw_x (lo_as (lo_lds R_Name_Number_Kind_Repeated_Packed_Of x8.Fields rfl rfl rfl) rfl) (lw_e (lw_x (lo_as (lo_ix rfl zet33.el (isSl_sl _ _ _) h_x9) rfl) (lw_x (lo_as (lo_ldr rfl ⟨Try.isAgg50, Try.sizeOf50⟩) rfl) (lw_x (lo_as (lo_ner rfl Try.eqGuardType50 rfl rfl (eqt50 _ _)) rfl) lw_0)))))))))))))))))) ?_
     rcases ite_some h with ⟨hc6, h⟩ | ⟨hc6, h⟩
     ·
      refine ji_condT rfl hc6 ?_
      refine ji_rz ⟨[(4, kB false)], []⟩ (by kernel_rfl) ?_
      obtain rfl := sj h
      exact je_ret' (le_z (by kernel_rfl))
     refine ji_condF rfl hc6 ?_
     refine ji_end ?_
     refine ji_rz ⟨[(0, .sl R_Name_Fields [0] av), (1, .sl R_Name_Fields [0] b), (5, kI i), (6, kI (IntKind.i64.wrap (k + 1)))], []⟩ (by kernel_rfl) ?_
     obtain rfl := sj h
     exact je_nil (le_z (by kernel_rfl))
    refine ji_condF rfl hc5 ?_
    obtain rfl := sj h
    exact je_out' rfl (le_z (by kernel_rfl))
   rcases q with u | u2
   ·
    refine k_exit _ rfl ?_
    refine ji_end ?_
    refine ji_rz ⟨[(0, .sl R_Name_Fields [0] av), (1, .sl R_Name_Fields [0] b), (5, kI (IntKind.i64.wrap (i + 1)))], []⟩ (by kernel_rfl) ?_
    obtain rfl := sj h
    exact je_nil (le_z (by kernel_rfl))
   obtain rfl := sj h
   exact ke_ret' (le_z (by kernel_rfl))
  refine ji_condF rfl hc2 ?_
  obtain rfl := sj h
  exact je_out' rfl (le_z (by kernel_rfl))
 rcases q2 with u3 | u4
 ·
  refine k_exit _ rfl ?_
  refine ji_rz ⟨[(4, kB true)], []⟩ (by kernel_rfl) ?_
  obtain rfl := sj h
  exact je_ret (le_z (by kernel_rfl))
 obtain rfl := sj h
 exact ke_ret (le_z (by kernel_rfl))
theorem slices_Clone_api_Schema_api_Message__ok {sv : (List T_Name_Fields)} {r : (List T_Name_Fields)} (h : slices_Clone_api_Schema_api_Message_ sv = some r) : FnOk Try.prog 37 [.sl R_Name_Fields [0] sv] [.own R_Name_Fields 35 2 [0] r] := by
 refine fn_intro' (E := ⟨[(2, .own R_Name_Fields 35 2 [0] r)], []⟩) 8 Try.func37 rfl rfl rfl ⟨rfl, trivial⟩ (fun Xt => ?_)
 refine ji_start ?_
 refine ji_le (E' := ⟨[(0, .sl R_Name_Fields [0] sv)], []⟩) (fun _ _ _ hs => hs) ?_
 unfold slices_Clone_api_Schema_api_Message_ at h
 refine ji_rz ⟨[(0, .sl R_Name_Fields [0] sv)], []⟩ (by kernel_rfl) ?_
 have hn1 := nilO_some h
 refine ji_isnil 1 4 true ⟨[(0, .sl R_Name_Fields [0] sv), (3, .sl R_Name_Fields [0] sv)], []⟩ ⟨[(0, .sl R_Name_Fields [0] sv), (4, kB true)], []⟩ ⟨[(0, .sl R_Name_Fields [0] sv), (4, kB false)], []⟩ (by kernel_rfl) rfl rfl rfl (by kernel_rfl) rfl Try.underlying23 rfl (isSl_sl _ _ _) (by kernel_rfl) (by kernel_rfl) (fun hx_ => ?_) ?_
 ·
  replace h := hn1.1 hx_
  refine ji_condT rfl rfl ?_
  refine ji_rz ⟨[(2, kN)], []⟩ (by kernel_rfl) ?_
  obtain rfl := sj h
  refine je_ret ?_
  refine le_at 2 (.own R_Name_Fields 35 2 [0] ([] : (List T_Name_Fields))) rfl (le_own_nil R_Name_Fields 35 2 [0] rfl) ?_
  exact le_z (by kernel_rfl)
 replace h := hn1.2
 refine ji_condF rfl rfl ?_
 obtain ⟨v, h_v, h⟩ := bnd h
 refine ji_region ⟨[(2, .own R_Name_Fields 35 12 [0] v)], []⟩ (ro_o 0 [] ⟨[(0, .sl R_Name_Fields [0] sv), (5, .own R_Name_Fields 35 12 [] ([] : (List T_Name_Fields)))], []⟩ rfl (lo_bsl [] 12 [] ([] : (List T_Name_Fields)) rfl zet23 rfl rfl rfl rfl) rfl (by kernel_rfl) (ro_oz 1 [.own R_Name_Fields 35 12 [] ([] : (List T_Name_Fields)), .sl R_Name_Fields [0] sv] rfl (lo_app 12 [0] rfl zet23.el rfl (isOwn_own _ _ _ _ _) (isSl_sl _ _ _) h_v (.inr rfl) rfl) rfl (by kernel_rfl))) ?_
 obtain rfl := sj h
 refine je_ret ?_
 refine le_px ⟨[(2, .own R_Name_Fields 35 12 [0] v)], []⟩ (by kernel_rfl) (le_rn 12 2 rfl (le_px ⟨[(2, .own R_Name_Fields 35 2 [0] v)], []⟩ (by kernel_rfl) ?_))
 exact le_z (by kernel_rfl)
end Go.Proofs.Ytnchbppkppbflaa
