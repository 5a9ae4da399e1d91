/-
  The Go functions do what the plain functions say. No condition.
-/
import Derived.Test.YtnchbppkppbflaaG9
namespace Go.Proofs.Ytnchbppkppbflaa
open Go Go.RowKit
set_option linter.unusedVariables false
set_option maxRecDepth 100000
theorem schema_Sorted_ok {fuel : Nat} {m : T_Name_Fields} {r : (List Int)} (h : schema_Sorted fuel m = some r) : FnOk Try.prog 17 [.rc R_Name_Fields [0] m] [.own (Rp.int .i64) 3 2 [3, 0] r] := by
 refine fn_intro' (E := ⟨[(2, .own (Rp.int .i64) 3 2 [3, 0] r)], []⟩) 23 Try.func17 rfl rfl rfl ⟨rfl, trivial⟩ (fun Xt => ?_)
 refine ji_start ?_
 refine ji_le (E' := ⟨[(0, .rc R_Name_Fields [0] m)], []⟩) (fun _ _ _ hs => hs) ?_
 unfold schema_Sorted at h
 refine ji_region ⟨[(1, .ptr 903300 0)], [⟨903300, 35, [kS m.Name, .sl R_Name_Number_Kind_Repeated_Packed_Of [0] m.Fields]⟩]⟩ (ro_oz 0 [.rc R_Name_Fields [0] m] rfl (lo_box 903300 [kS m.Name, .sl R_Name_Number_Kind_Repeated_Packed_Of [0] m.Fields] [0] rfl rfl rfl rfl rfl) rfl (by kernel_rfl)) ?_
 obtain ⟨v, h_v, h⟩ := bnd h
 refine ji_region ⟨[(1, .ptr 903300 0), (3, .own (Rp.int .i64) 3 12 [] v)], [⟨903300, 35, [kS m.Name, .sl R_Name_Number_Kind_Repeated_Packed_Of [0] m.Fields]⟩]⟩ (ro_oz 3 [kI (m.Fields.length : Int), kI (m.Fields.length : Int)] rfl (lo_make 12 rfl zet44 rfl h_v) rfl (by kernel_rfl)) ?_
 refine ji_rz ⟨[(1, .ptr 903300 0), (3, .own (Rp.int .i64) 3 12 [] v), (10, kI (v.length : Int)), (11, kI 0)], [⟨903300, 35, [kS m.Name, .sl R_Name_Number_Kind_Repeated_Packed_Of [0] m.Fields]⟩]⟩ (by kernel_rfl) ?_
 refine ji_block ?_
 obtain ⟨q, h_q, h⟩ := bnd h
 refine je_loop (fun s : ((List Int) × Int) => schema_Sorted_b1 v s.1 s.2) (fun s => ⟨[(1, .ptr 903300 0), (3, .own (Rp.int .i64) 3 12 [] s.1), (10, kI (v.length : Int)), (11, kI s.2)], [⟨903300, 35, [kS m.Name, .sl R_Name_Number_Kind_Repeated_Packed_Of [0] m.Fields]⟩]⟩) (fun o e a w => e = .exit 0 ∧ Sx ⟨⟨23, []⟩, Xt, false, #[]⟩ ⟨[(1, .ptr 903300 0), (3, .own (Rp.int .i64) 3 12 [] o)], [⟨903300, 35, [kS m.Name, .sl R_Name_Number_Kind_Repeated_Packed_Of [0] m.Fields]⟩]⟩ a w) ?_ h_q (le_z (by kernel_rfl)) ?_
 ·
  clear h
  intro s o h
  obtain ⟨l, v2⟩ := s
  refine ji_start ?_
  refine ji_le (E' := ⟨[(1, .ptr 903300 0), (3, .own (Rp.int .i64) 3 12 [] l), (10, kI (v.length : Int)), (11, kI v2)], [⟨903300, 35, [kS m.Name, .sl R_Name_Number_Kind_Repeated_Packed_Of [0] m.Fields]⟩]⟩) (fun _ _ _ hs => hs) ?_
  replace h : schema_Sorted_b1 v l v2 = some o := h
  unfold schema_Sorted_b1 at h
  refine ji_rz ⟨[(1, .ptr 903300 0), (3, .own (Rp.int .i64) 3 12 [] l), (10, kI (v.length : Int)), (11, kI v2), (12, kB (decide (v2 < (v.length : Int))))], [⟨903300, 35, [kS m.Name, .sl R_Name_Number_Kind_Repeated_Packed_Of [0] m.Fields]⟩]⟩ (by kernel_rfl) ?_
  rcases ite_some h with ⟨hc1, h⟩ | ⟨hc1, h⟩
  ·
   refine ji_condT rfl hc1 ?_
   refine ji_block ?_
   refine ji_rz ⟨[(1, .ptr 903300 0), (3, .own (Rp.int .i64) 3 12 [] l), (4, kI v2), (10, kI (v.length : Int)), (11, kI v2)], [⟨903300, 35, [kS m.Name, .sl R_Name_Number_Kind_Repeated_Packed_Of [0] m.Fields]⟩]⟩ (by kernel_rfl) ?_
   obtain ⟨x, h_x, h⟩ := bnd h
   refine ji_region ⟨[(1, .ptr 903300 0), (3, .own (Rp.int .i64) 3 12 [] (l.set (Int.toNat v2) v2)), (10, kI (v.length : Int)), (11, kI v2)], [⟨903300, 35, [kS m.Name, .sl R_Name_Number_Kind_Repeated_Packed_Of [0] m.Fields]⟩]⟩ (ro_o 3 [.own (Rp.int .i64) 3 12 [] l, kI v2] ⟨[(1, .ptr 903300 0), (3, .own (Rp.int .i64) 3 12 [] l), (10, kI (v.length : Int)), (11, kI v2), (16, kI v2), (17, .ptr 12 (Int.toNat v2 * (Rp.int .i64).size))], [⟨903300, 35, [kS m.Name, .sl R_Name_Number_Kind_Repeated_Packed_Of [0] m.Fields]⟩]⟩ rfl (lo_ixo rfl zet44.el h_x) rfl (by kernel_rfl) (ro_pk 0 ⟨[(1, .ptr 903300 0), (3, .own (Rp.int .i64) 3 12 [] l), (10, kI (v.length : Int)), (11, kI v2), (16, kI v2), (17, .ptr 12 (Int.toNat v2 * (Rp.int .i64).size))], [⟨903300, 35, [kS m.Name, .sl R_Name_Number_Kind_Repeated_Packed_Of [0] m.Fields]⟩]⟩ (by kernel_rfl) (ro_set (r := (Rp.int .i64)) (e := 3) (C := []) (xs := l) [3] (Int.toNat v2) 0 x v2 [] rfl rfl rfl rfl rfl rfl Try.sizeOf3 rfl (by kernel_rfl) rfl (idx_get h_x) rfl (set_all rfl _) rfl (ro_z (by kernel_rfl))))) ?_
   refine ji_end ?_
   refine ji_rz ⟨[(1, .ptr 903300 0), (3, .own (Rp.int .i64) 3 12 [] (l.set (Int.toNat v2) v2)), (10, kI (v.length : Int)), (11, kI (IntKind.i64.wrap (v2 + 1)))], [⟨903300, 35, [kS m.Name, .sl R_Name_Number_Kind_Repeated_Packed_Of [0] m.Fields]⟩]⟩ (by kernel_rfl) ?_
   obtain rfl := sj h
   exact je_nil (le_z (by kernel_rfl))
  refine ji_condF rfl hc1 ?_
  obtain rfl := sj h
  exact je_out' rfl (le_z (by kernel_rfl))
 refine k_exit _ rfl ?_
 obtain ⟨rv2, h_rv2, h⟩ := bnd h
 refine ji_region ⟨[(3, .own (Rp.int .i64) 3 12 [903300, 0] rv2)], []⟩ (ro_ob 1 [.ptr 903300 0] [⟨903300, 35, [kS m.Name, .sl R_Name_Number_Kind_Repeated_Packed_Of [0] m.Fields]⟩] ⟨[(3, .own (Rp.int .i64) 3 12 [] q), (19, .own (Rp.int .i64) 3 12 [] q), (20, .fv 33 [.ep R_Name_Fields [903300, 0] m 0])], []⟩ rfl (lo_mkcl (g := 33) [.tmp 1] [⟨903300, 35, [kS m.Name, .sl R_Name_Number_Kind_Repeated_Packed_Of [0] m.Fields]⟩] [.ep R_Name_Fields [903300, 0] m 0] rfl ⟨⟨rfl, rfl, rfl⟩, trivial⟩ rfl) rfl rfl (by kernel_rfl) (ro_pk 0 ⟨[(3, .own (Rp.int .i64) 3 12 [] q), (19, .own (Rp.int .i64) 3 12 [] q), (20, .fv 33 [.ep R_Name_Fields [903300, 0] m 0])], []⟩ (by kernel_rfl) (ro_turn ⟨[(3, .own (Rp.int .i64) 3 12 [903300, 0] rv2), (19, .own (Rp.int .i64) 3 12 [903300, 0] rv2), (20, .fv 33 [.ep R_Name_Fields [903300, 0] m 0])], []⟩ (st_call [.own (Rp.int .i64) 3 12 [] q, .fv 33 [.ep R_Name_Fields [903300, 0] m 0]] [(12, 2)] [903300, 0] 13 [] rfl Try.call32 (slices_SortStableFunc___int_int___schema_Sorted_1_ok h_rv2) rfl rfl (by kernel_rfl) rfl rfl rfl) rfl (by kernel_rfl) (by kernel_rfl) ⟨⟨_, rfl, tn_at 0 rfl⟩, ⟨_, rfl, tn_at 0 rfl⟩, ⟨_, rfl, tn_keep rfl⟩, trivial⟩ trivial (ro_z (by kernel_rfl))))) ?_
 refine ji_rz ⟨[(2, .own (Rp.int .i64) 3 12 [903300, 0] rv2)], []⟩ (by kernel_rfl) ?_
 obtain rfl := sj h
 refine je_ret ?_
 refine le_px ⟨[(2, .own (Rp.int .i64) 3 12 [903300, 0] rv2)], []⟩ (by kernel_rfl) (le_rn 12 2 rfl (le_px ⟨[(2, .own (Rp.int .i64) 3 2 [903300, 0] rv2)], []⟩ (by kernel_rfl) ?_))
 refine le_px ⟨[(2, .own (Rp.int .i64) 3 2 [903300, 0] rv2)], []⟩ (by kernel_rfl) (le_rn 903300 3 rfl (le_px ⟨[(2, .own (Rp.int .i64) 3 2 [3, 0] rv2)], []⟩ (by kernel_rfl) ?_))
 exact le_z (by kernel_rfl)
end Go.Proofs.Ytnchbppkppbflaa
