/-
  The Go functions do what the plain functions say. No condition.
-/
import Derived.Test.YtnchbppkppbflaaG7
import Derived.Test.YtnchbppkppbflaaG8
namespace Go.Proofs.Ytnchbppkppbflaa
open Go Go.RowKit
set_option linter.unusedVariables false
set_option maxRecDepth 100000
theorem schema_Right_ok {sv : (List T_Name_Fields)} {r : Bool} (h : schema_Right sv = some r) : FnOk Try.prog 10 [.sl R_Name_Fields [0] sv] [kB r] := by
 refine fn_intro' (E := ⟨[(2, kB r)], []⟩) 12 Try.func10 rfl rfl rfl ⟨rfl, trivial⟩ (fun Xt => ?_)
 refine ji_start ?_
 refine ji_le (E' := ⟨[(0, .sl R_Name_Fields [0] sv)], []⟩) (fun _ _ _ hs => hs) ?_
 unfold schema_Right at h
 refine ji_rz ⟨[(0, .sl R_Name_Fields [0] sv)], []⟩ (by kernel_rfl) ?_
 obtain ⟨rv, h_rv, h⟩ := bnd h
 refine ji_region ⟨[(4, k8 rv.2)], []⟩ (ro_o 1 [.sl R_Name_Fields [0] sv] ⟨[(7, .tup [.rc R_Message_Field_What [] rv.1, k8 rv.2])], []⟩ rfl (lo_call [.sl R_Name_Fields [0] sv] [0] 9 rfl Try.call8 (schema_Check_ok h_rv) rfl rfl rfl rfl rfl) rfl (by kernel_rfl) (ro_o 3 [] ⟨[(3, .ptr 11 0), (8, .rc R_Message_Field_What [] rv.1), (9, k8 rv.2)], [⟨11, 27, [kI 0, kI 0, kI 0]⟩]⟩ rfl (lo_alloc 11 [kI 0, kI 0, kI 0] rfl Try.zeroValue27 rfl) rfl (by kernel_rfl) (ro_obz 0 [.ptr 11 0, .rc R_Message_Field_What [] rv.1] [⟨11, 27, [kI 0, kI 0, kI 0]⟩] rfl (lo_str (r := R_Message_Field_What) (b := ⟨11, 27, [kI 0, kI 0, kI 0]⟩) (off := 0) [kI rv.1.Message, kI rv.1.Field, kI rv.1.What] rfl Try.sizeOf27 rfl rfl rfl rfl) rfl rfl (by kernel_rfl)))) ?_
 refine ji_rz ⟨[(2, kB (rv.2 == 0))], []⟩ (by kernel_rfl) ?_
 obtain rfl := sj h
 exact je_ret (le_z (by kernel_rfl))
theorem slices_stableCmpFunc_int___schema_Sorted_1_ok {fuel : Nat} {data : (List Int)} {n : Int} {v : T_Name_Fields} {r : (List Int)} (h : slices_stableCmpFunc_int___schema_Sorted_1 fuel data n v = some r) : FnOkW Try.prog 50 [.own (Rp.int .i64) 3 2 [0] data, kI n, .fv 33 [.ep R_Name_Fields [0] v 0]] [] [.own (Rp.int .i64) 3 2 [0] r, .any, .any] := by
 refine fn_introW (E := ⟨[(0, .own (Rp.int .i64) 3 2 [0] r)], []⟩) 63 [0] Try.func50 rfl rfl rfl trivial ⟨.inr ⟨rfl, rfl⟩, .inl rfl, .inl rfl, trivial⟩ rfl (fun Xt old => ?_)
 refine ji_start ?_
 refine ji_le (E' := ⟨[(0, .own (Rp.int .i64) 3 2 [0] data), (1, kI n), (2, .fv 33 [.ep R_Name_Fields [0] v 0])], []⟩) (fun _ _ _ hs => hs) ?_
 unfold slices_stableCmpFunc_int___schema_Sorted_1 at h
 refine ji_rz ⟨[(0, .own (Rp.int .i64) 3 2 [0] data), (1, kI n), (2, .fv 33 [.ep R_Name_Fields [0] v 0]), (6, kI 20)], []⟩ (by kernel_rfl) ?_
 refine ji_rz ⟨[(0, .own (Rp.int .i64) 3 2 [0] data), (1, kI n), (2, .fv 33 [.ep R_Name_Fields [0] v 0]), (6, kI 20), (7, kI 0), (8, kI 20)], []⟩ (by kernel_rfl) ?_
 refine ji_block ?_
 obtain ⟨q, h_q, h⟩ := bnd h
 refine je_loop (fun s : ((List Int) × Int × Int) => slices_stableCmpFunc_int___schema_Sorted_1_b1 n v s.1 s.2.1 s.2.2) (fun s => ⟨[(0, .own (Rp.int .i64) 3 2 [0] s.1), (1, kI n), (2, .fv 33 [.ep R_Name_Fields [0] v 0]), (6, kI 20), (7, kI s.2.1), (8, kI s.2.2)], []⟩) (fun o e a w => e = .exit 0 ∧ Sx ⟨⟨63, [0]⟩, Xt, false, old⟩ ⟨[(0, .own (Rp.int .i64) 3 2 [0] o.1), (1, kI n), (2, .fv 33 [.ep R_Name_Fields [0] v 0]), (6, kI 20), (7, kI o.2)], []⟩ a w) ?_ h_q (le_z (by kernel_rfl)) ?_
 ·
  clear h
  intro s o h
  obtain ⟨data2, av, b⟩ := s
  refine ji_start ?_
  refine ji_le (E' := ⟨[(0, .own (Rp.int .i64) 3 2 [0] data2), (1, kI n), (2, .fv 33 [.ep R_Name_Fields [0] v 0]), (6, kI 20), (7, kI av), (8, kI b)], []⟩) (fun _ _ _ hs => hs) ?_
  replace h : slices_stableCmpFunc_int___schema_Sorted_1_b1 n v data2 av b = some o := h
  unfold slices_stableCmpFunc_int___schema_Sorted_1_b1 at h
  refine ji_rz ⟨[(0, .own (Rp.int .i64) 3 2 [0] data2), (1, kI n), (2, .fv 33 [.ep R_Name_Fields [0] v 0]), (6, kI 20), (7, kI av), (8, kI b), (13, kB (decide (b ≤ n)))], []⟩ (by kernel_rfl) ?_
  rcases ite_some h with ⟨hc1, h⟩ | ⟨hc1, h⟩
  ·
   refine ji_condT rfl hc1 ?_
   refine ji_block ?_
   obtain ⟨rv2, h_rv2, h⟩ := bnd h
   refine ji_region ⟨[(0, .own (Rp.int .i64) 3 2 [0] rv2), (1, kI n), (2, .fv 33 [.ep R_Name_Fields [0] v 0]), (6, kI 20), (8, kI b)], []⟩ (ro_pk 4 ⟨[(0, .own (Rp.int .i64) 3 2 [0] data2), (1, kI n), (2, .fv 33 [.ep R_Name_Fields [0] v 0]), (6, kI 20), (8, kI b), (14, .own (Rp.int .i64) 3 2 [0] data2), (15, kI av), (16, kI b), (17, .fv 33 [.ep R_Name_Fields [0] v 0])], []⟩ (by kernel_rfl) (ro_turn ⟨[(0, .own (Rp.int .i64) 3 2 [0] rv2), (1, kI n), (2, .fv 33 [.ep R_Name_Fields [0] v 0]), (6, kI 20), (8, kI b), (14, .own (Rp.int .i64) 3 2 [0] rv2), (15, kI av), (16, kI b), (17, .fv 33 [.ep R_Name_Fields [0] v 0])], []⟩ (st_call [.own (Rp.int .i64) 3 2 [0] data2, kI av, kI b, .fv 33 [.ep R_Name_Fields [0] v 0]] [(2, 2)] [0] 11 [] rfl Try.call60 (slices_insertionSortCmpFunc_int___schema_Sorted_1_ok h_rv2) rfl rfl (by kernel_rfl) rfl rfl rfl) rfl (by kernel_rfl) (by kernel_rfl) ⟨⟨_, rfl, tn_at 0 rfl⟩, ⟨_, rfl, tn_keep rfl⟩, ⟨_, rfl, tn_keep rfl⟩, ⟨_, rfl, tn_keep rfl⟩, ⟨_, rfl, tn_keep rfl⟩, ⟨_, rfl, tn_at 0 rfl⟩, ⟨_, rfl, tn_keep rfl⟩, ⟨_, rfl, tn_keep rfl⟩, ⟨_, rfl, tn_keep rfl⟩, trivial⟩ trivial (ro_z (by kernel_rfl)))) ?_
   refine ji_rz ⟨[(0, .own (Rp.int .i64) 3 2 [0] rv2), (1, kI n), (2, .fv 33 [.ep R_Name_Fields [0] v 0]), (6, kI 20), (7, kI b), (8, kI b)], []⟩ (by kernel_rfl) ?_
   refine ji_rz ⟨[(0, .own (Rp.int .i64) 3 2 [0] rv2), (1, kI n), (2, .fv 33 [.ep R_Name_Fields [0] v 0]), (6, kI 20), (7, kI b), (8, kI (IntKind.i64.wrap (b + 20)))], []⟩ (by kernel_rfl) ?_
   refine ji_end ?_
   obtain rfl := sj h
   exact je_nil (le_z (by kernel_rfl))
  refine ji_condF rfl hc1 ?_
  obtain rfl := sj h
  exact je_out' rfl (le_z (by kernel_rfl))
 refine k_exit _ rfl ?_
 obtain ⟨rv4, h_rv4, h⟩ := bnd h
 refine ji_region ⟨[(0, .own (Rp.int .i64) 3 2 [0] rv4), (1, kI n), (2, .fv 33 [.ep R_Name_Fields [0] v 0]), (6, kI 20)], []⟩ (ro_pk 4 ⟨[(0, .own (Rp.int .i64) 3 2 [0] q.1), (1, kI n), (2, .fv 33 [.ep R_Name_Fields [0] v 0]), (6, kI 20), (23, .own (Rp.int .i64) 3 2 [0] q.1), (24, kI q.2), (25, kI n), (26, .fv 33 [.ep R_Name_Fields [0] v 0])], []⟩ (by kernel_rfl) (ro_turn ⟨[(0, .own (Rp.int .i64) 3 2 [0] rv4), (1, kI n), (2, .fv 33 [.ep R_Name_Fields [0] v 0]), (6, kI 20), (23, .own (Rp.int .i64) 3 2 [0] rv4), (24, kI q.2), (25, kI n), (26, .fv 33 [.ep R_Name_Fields [0] v 0])], []⟩ (st_call [.own (Rp.int .i64) 3 2 [0] q.1, kI q.2, kI n, .fv 33 [.ep R_Name_Fields [0] v 0]] [(2, 2)] [0] 13 [] rfl Try.call60 (slices_insertionSortCmpFunc_int___schema_Sorted_1_ok h_rv4) rfl rfl (by kernel_rfl) rfl rfl rfl) rfl (by kernel_rfl) (by kernel_rfl) ⟨⟨_, rfl, tn_at 0 rfl⟩, ⟨_, rfl, tn_keep rfl⟩, ⟨_, rfl, tn_keep rfl⟩, ⟨_, rfl, tn_keep rfl⟩, ⟨_, rfl, tn_at 0 rfl⟩, ⟨_, rfl, tn_keep rfl⟩, ⟨_, rfl, tn_keep rfl⟩, ⟨_, rfl, tn_keep rfl⟩, trivial⟩ trivial (ro_z (by kernel_rfl)))) ?_
 refine ji_block ?_
 obtain ⟨q3, h_q3, h⟩ := bnd h
 refine je_loop (fun s : ((List Int) × Int) => slices_stableCmpFunc_int___schema_Sorted_1_b2 fuel n v s.1 s.2) (fun s => ⟨[(0, .own (Rp.int .i64) 3 2 [0] s.1), (1, kI n), (2, .fv 33 [.ep R_Name_Fields [0] v 0]), (6, kI s.2)], []⟩) (fun o e a w => e = .exit 2 ∧ Sx ⟨⟨63, [0]⟩, Xt, false, old⟩ ⟨[(0, .own (Rp.int .i64) 3 2 [0] o)], []⟩ a w) ?_ h_q3 (le_z (by kernel_rfl)) ?_
 ·
  clear h
  intro s o h
  obtain ⟨data4, blockSize⟩ := s
  refine ji_start ?_
  refine ji_le (E' := ⟨[(0, .own (Rp.int .i64) 3 2 [0] data4), (1, kI n), (2, .fv 33 [.ep R_Name_Fields [0] v 0]), (6, kI blockSize)], []⟩) (fun _ _ _ hs => hs) ?_
  replace h : slices_stableCmpFunc_int___schema_Sorted_1_b2 fuel n v data4 blockSize = some o := h
  unfold slices_stableCmpFunc_int___schema_Sorted_1_b2 at h
  refine ji_rz ⟨[(0, .own (Rp.int .i64) 3 2 [0] data4), (1, kI n), (2, .fv 33 [.ep R_Name_Fields [0] v 0]), (6, kI blockSize), (30, kB (decide (blockSize < n)))], []⟩ (by kernel_rfl) ?_
  rcases ite_some h with ⟨hc2, h⟩ | ⟨hc2, h⟩
  ·
   refine ji_condT rfl hc2 ?_
   refine ji_block ?_
   refine ji_rz ⟨[(0, .own (Rp.int .i64) 3 2 [0] data4), (1, kI n), (2, .fv 33 [.ep R_Name_Fields [0] v 0]), (6, kI blockSize), (7, kI 0), (8, kI (IntKind.i64.wrap (2 * blockSize)))], []⟩ (by kernel_rfl) ?_
   refine ji_block ?_
   obtain ⟨q2, h_q2, h⟩ := bnd h
   refine je_loop (fun s : ((List Int) × Int × Int) => slices_stableCmpFunc_int___schema_Sorted_1_b3 fuel blockSize n v s.1 s.2.1 s.2.2) (fun s => ⟨[(0, .own (Rp.int .i64) 3 2 [0] s.1), (1, kI n), (2, .fv 33 [.ep R_Name_Fields [0] v 0]), (6, kI blockSize), (7, kI s.2.1), (8, kI s.2.2)], []⟩) (fun o e a w => e = .exit 4 ∧ Sx ⟨⟨63, [0]⟩, Xt, false, old⟩ ⟨[(0, .own (Rp.int .i64) 3 2 [0] o.1), (1, kI n), (2, .fv 33 [.ep R_Name_Fields [0] v 0]), (6, kI blockSize), (7, kI o.2)], []⟩ a w) ?_ h_q2 (le_z (by kernel_rfl)) ?_
   ·
    clear h
    intro s o h
    obtain ⟨data6, av3, b2⟩ := s
    refine ji_start ?_
    refine ji_le (E' := ⟨[(0, .own (Rp.int .i64) 3 2 [0] data6), (1, kI n), (2, .fv 33 [.ep R_Name_Fields [0] v 0]), (6, kI blockSize), (7, kI av3), (8, kI b2)], []⟩) (fun _ _ _ hs => hs) ?_
    replace h : slices_stableCmpFunc_int___schema_Sorted_1_b3 fuel blockSize n v data6 av3 b2 = some o := h
    unfold slices_stableCmpFunc_int___schema_Sorted_1_b3 at h
    refine ji_rz ⟨[(0, .own (Rp.int .i64) 3 2 [0] data6), (1, kI n), (2, .fv 33 [.ep R_Name_Fields [0] v 0]), (6, kI blockSize), (7, kI av3), (8, kI b2), (35, kB (decide (b2 ≤ n)))], []⟩ (by kernel_rfl) ?_
    rcases ite_some h with ⟨hc3, h⟩ | ⟨hc3, h⟩
    ·
     refine ji_condT rfl hc3 ?_
     refine ji_block ?_
     obtain ⟨rv6, h_rv6, h⟩ := bnd h
     refine ji_region ⟨[(0, .own (Rp.int .i64) 3 2 [0] rv6), (1, kI n), (2, .fv 33 [.ep R_Name_Fields [0] v 0]), (6, kI blockSize), (8, kI b2)], []⟩ (ro_pk 7 ⟨[(0, .own (Rp.int .i64) 3 2 [0] data6), (1, kI n), (2, .fv 33 [.ep R_Name_Fields [0] v 0]), (6, kI blockSize), (8, kI b2), (36, .own (Rp.int .i64) 3 2 [0] data6), (37, kI av3), (40, kI (IntKind.i64.wrap (av3 + blockSize))), (41, kI b2), (42, .fv 33 [.ep R_Name_Fields [0] v 0])], []⟩ (by kernel_rfl) (ro_turn ⟨[(0, .own (Rp.int .i64) 3 2 [0] rv6), (1, kI n), (2, .fv 33 [.ep R_Name_Fields [0] v 0]), (6, kI blockSize), (8, kI b2), (36, .own (Rp.int .i64) 3 2 [0] rv6), (37, kI av3), (40, kI (IntKind.i64.wrap (av3 + blockSize))), (41, kI b2), (42, .fv 33 [.ep R_Name_Fields [0] v 0])], []⟩ (st_call [.own (Rp.int .i64) 3 2 [0] data6, kI av3, kI (IntKind.i64.wrap (av3 + blockSize)), kI b2, .fv 33 [.ep R_Name_Fields [0] v 0]] [(2, 2)] [0] 17 [] rfl Try.call61 (slices_symMergeCmpFunc_int___schema_Sorted_1_ok h_rv6) rfl rfl (by kernel_rfl) rfl rfl rfl) rfl (by kernel_rfl) (by kernel_rfl) ⟨⟨_, rfl, tn_at 0 rfl⟩, ⟨_, rfl, tn_keep rfl⟩, ⟨_, rfl, tn_keep rfl⟩, ⟨_, rfl, tn_keep rfl⟩, ⟨_, rfl, tn_keep rfl⟩, ⟨_, rfl, tn_at 0 rfl⟩, ⟨_, rfl, tn_keep rfl⟩, ⟨_, rfl, tn_keep rfl⟩, ⟨_, rfl, tn_keep rfl⟩, ⟨_, rfl, tn_keep rfl⟩, trivial⟩ trivial (ro_z (by kernel_rfl)))) ?_
     refine ji_rz ⟨[(0, .own (Rp.int .i64) 3 2 [0] rv6), (1, kI n), (2, .fv 33 [.ep R_Name_Fields [0] v 0]), (6, kI blockSize), (7, kI b2), (8, kI b2)], []⟩ (by kernel_rfl) ?_
     refine ji_rz ⟨[(0, .own (Rp.int .i64) 3 2 [0] rv6), (1, kI n), (2, .fv 33 [.ep R_Name_Fields [0] v 0]), (6, kI blockSize), (7, kI b2), (8, kI (IntKind.i64.wrap (b2 + (IntKind.i64.wrap (2 * blockSize)))))], []⟩ (by kernel_rfl) ?_
     refine ji_end ?_
     obtain rfl := sj h
     exact je_nil (le_z (by kernel_rfl))
    refine ji_condF rfl hc3 ?_
    obtain rfl := sj h
    exact je_out' rfl (le_z (by kernel_rfl))
   refine k_exit _ rfl ?_
   refine ji_rz ⟨[(0, .own (Rp.int .i64) 3 2 [0] q2.1), (1, kI n), (2, .fv 33 [.ep R_Name_Fields [0] v 0]), (6, kI blockSize), (7, kI q2.2), (9, kI (IntKind.i64.wrap (q2.2 + blockSize)))], []⟩ (by kernel_rfl) ?_
   refine ji_rz ⟨[(0, .own (Rp.int .i64) 3 2 [0] q2.1), (1, kI n), (2, .fv 33 [.ep R_Name_Fields [0] v 0]), (6, kI blockSize), (7, kI q2.2), (9, kI (IntKind.i64.wrap (q2.2 + blockSize))), (54, kB (decide ((IntKind.i64.wrap (q2.2 + blockSize)) < n)))], []⟩ (by kernel_rfl) ?_
   rcases ite_some h with ⟨hc4, h⟩ | ⟨hc4, h⟩
   ·
    refine ji_condT rfl hc4 ?_
    obtain ⟨rv8, h_rv8, h⟩ := bnd h
    refine ji_region ⟨[(0, .own (Rp.int .i64) 3 2 [0] rv8), (1, kI n), (2, .fv 33 [.ep R_Name_Fields [0] v 0]), (6, kI blockSize)], []⟩ (ro_pk 5 ⟨[(0, .own (Rp.int .i64) 3 2 [0] q2.1), (1, kI n), (2, .fv 33 [.ep R_Name_Fields [0] v 0]), (6, kI blockSize), (55, .own (Rp.int .i64) 3 2 [0] q2.1), (56, kI q2.2), (57, kI (IntKind.i64.wrap (q2.2 + blockSize))), (58, kI n), (59, .fv 33 [.ep R_Name_Fields [0] v 0])], []⟩ (by kernel_rfl) (ro_turn ⟨[(0, .own (Rp.int .i64) 3 2 [0] rv8), (1, kI n), (2, .fv 33 [.ep R_Name_Fields [0] v 0]), (6, kI blockSize), (55, .own (Rp.int .i64) 3 2 [0] rv8), (56, kI q2.2), (57, kI (IntKind.i64.wrap (q2.2 + blockSize))), (58, kI n), (59, .fv 33 [.ep R_Name_Fields [0] v 0])], []⟩ (st_call [.own (Rp.int .i64) 3 2 [0] q2.1, kI q2.2, kI (IntKind.i64.wrap (q2.2 + blockSize)), kI n, .fv 33 [.ep R_Name_Fields [0] v 0]] [(2, 2)] [0] 19 [] rfl Try.call61 (slices_symMergeCmpFunc_int___schema_Sorted_1_ok h_rv8) rfl rfl (by kernel_rfl) rfl rfl rfl) rfl (by kernel_rfl) (by kernel_rfl) ⟨⟨_, rfl, tn_at 0 rfl⟩, ⟨_, rfl, tn_keep rfl⟩, ⟨_, rfl, tn_keep rfl⟩, ⟨_, rfl, tn_keep rfl⟩, ⟨_, rfl, tn_at 0 rfl⟩, ⟨_, rfl, tn_keep rfl⟩, ⟨_, rfl, tn_keep rfl⟩, ⟨_, rfl, tn_keep rfl⟩, ⟨_, rfl, tn_keep rfl⟩, trivial⟩ trivial (ro_z (by kernel_rfl)))) ?_
    refine ji_rz ⟨[(0, .own (Rp.int .i64) 3 2 [0] rv8), (1, kI n), (2, .fv 33 [.ep R_Name_Fields [0] v 0]), (6, kI (IntKind.i64.wrap (blockSize * 2)))], []⟩ (by kernel_rfl) ?_
    refine ji_end ?_
    obtain rfl := sj h
    exact je_nil (le_z (by kernel_rfl))
   refine ji_condF rfl hc4 ?_
   refine ji_rz ⟨[(0, .own (Rp.int .i64) 3 2 [0] q2.1), (1, kI n), (2, .fv 33 [.ep R_Name_Fields [0] v 0]), (6, kI (IntKind.i64.wrap (blockSize * 2)))], []⟩ (by kernel_rfl) ?_
   refine ji_end ?_
   obtain rfl := sj h
   exact je_nil (le_z (by kernel_rfl))
  refine ji_condF rfl hc2 ?_
  obtain rfl := sj h
  exact je_out' rfl (le_z (by kernel_rfl))
 refine k_exit _ rfl ?_
 obtain rfl := sj h
 exact je_wn (le_z (by kernel_rfl))
theorem darninglaw07_alive_ok  {r : Bool} (h : darninglaw07_alive = some r) : FnOk Try.prog 6 [] [kB r] := by
 refine fn_intro' (E := ⟨[(0, kB r)], []⟩) 8 Try.func6 rfl rfl rfl ⟨rfl, trivial⟩ (fun Xt => ?_)
 refine ji_start ?_
 refine ji_le (E' := ⟨[], []⟩) (fun _ _ _ hs => hs) ?_
 unfold darninglaw07_alive at h
 refine ji_rz ⟨[], []⟩ (by kernel_rfl) ?_
 obtain ⟨g, h_g, h⟩ := bnd h
 refine ji_region ⟨[(0, kB g)], []⟩ ?_ ?_
 ·
  obtain ⟨rv, h_rv, h_g⟩ := bnd h_g
  refine (ro_o 0 [kS [97]] ⟨[(1, .ag [kS [97], kN])], []⟩ rfl (lo_builda [kS [97]] [kS [97], kN] rfl sta35 rfl) rfl (by kernel_rfl) (ro_o 0 [.ag [kS [97], kN]] ⟨[(2, .own R_Name_Fields 35 11 [] ([(⟨[97], []⟩ : T_Name_Fields)] : (List T_Name_Fields)))], []⟩ rfl (LocalOk.le (ins' := [(.tmp 1, .ag [kS [97], kN])]) (lo_bsl [.rc R_Name_Fields [] (⟨[97], []⟩ : T_Name_Fields)] 11 [] ([(⟨[97], []⟩ : T_Name_Fields)] : (List T_Name_Fields)) rfl zet23 rfl rfl rfl rfl) ⟨⟨rfl, le_tr (b := .ag [kS [97], .sl R_Name_Number_Kind_Repeated_Packed_Of [] []]) (le_ag ⟨AV.le_refl _, le_sl_nil _ _, trivial⟩) (le_agrc R_Name_Fields [] (⟨[97], []⟩ : T_Name_Fields) [kS [97], .sl R_Name_Number_Kind_Repeated_Packed_Of [] []] rfl rfl)⟩, trivial⟩) rfl (by kernel_rfl) (ro_o 0 [.own R_Name_Fields 35 11 [] ([(⟨[97], []⟩ : T_Name_Fields)] : (List T_Name_Fields))] ⟨[(3, kB rv)], []⟩ rfl (lo_call [.own R_Name_Fields 35 11 [] ([(⟨[97], []⟩ : T_Name_Fields)] : (List T_Name_Fields))] [11] 10 rfl Try.call10 (schema_Right_ok h_rv) rfl rfl rfl rfl rfl) rfl (by kernel_rfl) (ro_sp 1 4 rv ⟨[(4, kB rv)], []⟩ (by kernel_rfl) rfl (fun hc1 => ?_) (fun hc1 => ?_)))))
  ·
   replace h_g := iteT h_g hc1
   obtain ⟨rv2, h_rv2, h_g⟩ := bnd h_g
   obtain rfl := sj h_g
   exact (ro_oz 0 [kN] rfl (lo_call [kN] [1] 10 rfl Try.call10 (FnOk.le (ins' := [kN]) (schema_Right_ok h_rv2) ⟨le_sl_nil _ _, trivial⟩) rfl rfl rfl rfl rfl) rfl (by kernel_rfl))
  replace h_g := iteF h_g hc1
  obtain rfl := sj h_g
  exact (ro_z (by kernel_rfl))
 obtain rfl := sj h
 exact je_ret (le_z (by kernel_rfl))
theorem slices_SortStableFunc___int_int___schema_Sorted_1_ok {fuel : Nat} {x : (List Int)} {v : T_Name_Fields} {r : (List Int)} (h : slices_SortStableFunc___int_int___schema_Sorted_1 fuel x v = some r) : FnOkW Try.prog 32 [.own (Rp.int .i64) 3 2 [0] x, .fv 33 [.ep R_Name_Fields [0] v 0]] [] [.own (Rp.int .i64) 3 2 [0] r, .any] := by
 refine fn_introW (E := ⟨[(0, .own (Rp.int .i64) 3 2 [0] r)], []⟩) 9 [0] Try.func32 rfl rfl rfl trivial ⟨.inr ⟨rfl, rfl⟩, .inl rfl, trivial⟩ rfl (fun Xt old => ?_)
 refine ji_start ?_
 refine ji_le (E' := ⟨[(0, .own (Rp.int .i64) 3 2 [0] x), (1, .fv 33 [.ep R_Name_Fields [0] v 0])], []⟩) (fun _ _ _ hs => hs) ?_
 unfold slices_SortStableFunc___int_int___schema_Sorted_1 at h
 obtain ⟨rv2, h_rv2, h⟩ := bnd h
 refine ji_region ⟨[(0, .own (Rp.int .i64) 3 2 [0] rv2)], []⟩ (ro_pk 4 ⟨[(0, .own (Rp.int .i64) 3 2 [0] x), (4, .own (Rp.int .i64) 3 2 [0] x), (6, kI (x.length : Int)), (7, .fv 33 [.ep R_Name_Fields [0] v 0])], []⟩ (by kernel_rfl) (ro_turn ⟨[(0, .own (Rp.int .i64) 3 2 [0] rv2), (4, .own (Rp.int .i64) 3 2 [0] rv2), (6, kI (x.length : Int)), (7, .fv 33 [.ep R_Name_Fields [0] v 0])], []⟩ (st_call [.own (Rp.int .i64) 3 2 [0] x, kI (x.length : Int), .fv 33 [.ep R_Name_Fields [0] v 0]] [(2, 2)] [0] 10 [] rfl Try.call50 (slices_stableCmpFunc_int___schema_Sorted_1_ok h_rv2) rfl rfl (by kernel_rfl) rfl rfl rfl) rfl (by kernel_rfl) (by kernel_rfl) ⟨⟨_, rfl, tn_at 0 rfl⟩, ⟨_, rfl, tn_at 0 rfl⟩, ⟨_, rfl, tn_keep rfl⟩, ⟨_, rfl, tn_keep rfl⟩, trivial⟩ trivial (ro_z (by kernel_rfl)))) ?_
 obtain rfl := sj h
 exact je_wn (le_z (by kernel_rfl))
end Go.Proofs.Ytnchbppkppbflaa
