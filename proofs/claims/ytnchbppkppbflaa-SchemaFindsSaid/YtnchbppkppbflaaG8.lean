/-
  The Go functions do what the plain functions say. No condition.
-/
import Derived.Test.YtnchbppkppbflaaG6
namespace Go.Proofs.Ytnchbppkppbflaa
open Go Go.RowKit
set_option linter.unusedVariables false
set_option maxRecDepth 100000
theorem slices_symMergeCmpFunc_int___schema_Sorted_1_fok {rec_slices_symMergeCmpFunc_int___schema_Sorted_1 : (List Int) → Int → Int → Int → T_Name_Fields → Option (List Int)} (hrec_slices_symMergeCmpFunc_int___schema_Sorted_1 : ∀ {data : (List Int)} {av : Int} {m : Int} {b : Int} {v : T_Name_Fields} {r : (List Int)}, rec_slices_symMergeCmpFunc_int___schema_Sorted_1 data av m b v = some r → FnOkW Try.prog 61 [.own (Rp.int .i64) 3 2 [0] data, kI av, kI m, kI b, .fv 33 [.ep R_Name_Fields [0] v 0]] [] [.own (Rp.int .i64) 3 2 [0] r, .any, .any, .any, .any]) {data : (List Int)} {av : Int} {m : Int} {b : Int} {v : T_Name_Fields} {r : (List Int)} (h : slices_symMergeCmpFunc_int___schema_Sorted_1_f rec_slices_symMergeCmpFunc_int___schema_Sorted_1 data av m b v = some r) : FnOkW Try.prog 61 [.own (Rp.int .i64) 3 2 [0] data, kI av, kI m, kI b, .fv 33 [.ep R_Name_Fields [0] v 0]] [] [.own (Rp.int .i64) 3 2 [0] r, .any, .any, .any, .any] := by
 refine fn_introW (E := ⟨[(0, .own (Rp.int .i64) 3 2 [0] r)], []⟩) 220 [0] Try.func61 rfl rfl rfl trivial ⟨.inr ⟨rfl, rfl⟩, .inl rfl, .inl rfl, .inl rfl, .inl rfl, trivial⟩ rfl (fun Xt old => ?_)
 refine ji_start ?_
 refine ji_le (E' := ⟨[(0, .own (Rp.int .i64) 3 2 [0] data), (1, kI av), (2, kI m), (3, kI b), (4, .fv 33 [.ep R_Name_Fields [0] v 0])], []⟩) (fun _ _ _ hs => hs) ?_
 unfold slices_symMergeCmpFunc_int___schema_Sorted_1_f at h
 refine ji_rz ⟨[(0, .own (Rp.int .i64) 3 2 [0] data), (1, kI av), (2, kI m), (3, kI b), (4, .fv 33 [.ep R_Name_Fields [0] v 0]), (28, kB ((IntKind.i64.wrap (m - av)) == 1))], []⟩ (by kernel_rfl) ?_
 rcases ite_some h with ⟨hc1, h⟩ | ⟨hc1, h⟩
 ·
  refine ji_condT rfl hc1 ?_
  refine ji_rz ⟨[(0, .own (Rp.int .i64) 3 2 [0] data), (1, kI av), (3, kI b), (4, .fv 33 [.ep R_Name_Fields [0] v 0]), (10, kI m)], []⟩ (by kernel_rfl) ?_
  refine ji_rz ⟨[(0, .own (Rp.int .i64) 3 2 [0] data), (1, kI av), (4, .fv 33 [.ep R_Name_Fields [0] v 0]), (10, kI m), (11, kI b)], []⟩ (by kernel_rfl) ?_
  refine ji_block ?_
  obtain ⟨q, h_q, h⟩ := bnd h
  refine je_loop (fun s : (Int × Int) => slices_symMergeCmpFunc_int___schema_Sorted_1_b1 av data v s.1 s.2) (fun s => ⟨[(0, .own (Rp.int .i64) 3 2 [0] data), (1, kI av), (4, .fv 33 [.ep R_Name_Fields [0] v 0]), (10, kI s.1), (11, kI s.2)], []⟩) (fun o e a w => e = .exit 0 ∧ Sx ⟨⟨220, [0]⟩, Xt, false, old⟩ ⟨[(0, .own (Rp.int .i64) 3 2 [0] data), (1, kI av), (10, kI o)], []⟩ a w) ?_ h_q (le_z (by kernel_rfl)) ?_
  ·
   clear h
   intro s o h
   obtain ⟨i, j⟩ := s
   refine ji_start ?_
   refine ji_le (E' := ⟨[(0, .own (Rp.int .i64) 3 2 [0] data), (1, kI av), (4, .fv 33 [.ep R_Name_Fields [0] v 0]), (10, kI i), (11, kI j)], []⟩) (fun _ _ _ hs => hs) ?_
   replace h : slices_symMergeCmpFunc_int___schema_Sorted_1_b1 av data v i j = some o := h
   unfold slices_symMergeCmpFunc_int___schema_Sorted_1_b1 at h
   refine ji_rz ⟨[(0, .own (Rp.int .i64) 3 2 [0] data), (1, kI av), (4, .fv 33 [.ep R_Name_Fields [0] v 0]), (10, kI i), (11, kI j), (33, kB (decide (i < j)))], []⟩ (by kernel_rfl) ?_
   rcases ite_some h with ⟨hc2, h⟩ | ⟨hc2, h⟩
   ·
    refine ji_condT rfl hc2 ?_
    refine ji_block ?_
    refine ji_region ⟨[(0, .own (Rp.int .i64) 3 2 [0] data), (1, kI av), (4, .fv 33 [.ep R_Name_Fields [0] v 0]), (10, kI i), (11, kI j), (12, kI (IntKind.i64.wrap (shrI .u64 (IntKind.u64.wrap (IntKind.i64.wrap (i + j))) 1)))], []⟩ (ro_oz 4 [kU (IntKind.u64.wrap (IntKind.i64.wrap (i + j))), kU 1] rfl (lo_shr rfl rfl) rfl (by kernel_rfl)) ?_
    obtain ⟨x, h_x, h⟩ := bnd h
    obtain ⟨x2, h_x2, h⟩ := bnd h
    obtain ⟨rv, h_rv, h⟩ := bnd h
    refine ji_draw ⟨[(0, .own (Rp.int .i64) 3 2 [0] data), (1, kI av), (4, .fv 33 [.ep R_Name_Fields [0] v 0]), (10, kI i), (11, kI j), (12, kI (IntKind.i64.wrap (shrI .u64 (IntKind.u64.wrap (IntKind.i64.wrap (i + j))) 1))), (50, kB (decide (rv < 0)))], []⟩ [.ev, .ev, .ev, .ex [] [] [] (.ep (Rp.int .i64) [2, 0] x 0) [], .ev, .ev, .ev, .ex [] [] [] (.ep (Rp.int .i64) [2, 0] x2 0) [], .ev, .ex [] [] [] (kI rv) []] [⟨[(.tmp 41, .own (Rp.int .i64) 3 2 [0] data), (.tmp 42, kI (IntKind.i64.wrap (shrI .u64 (IntKind.u64.wrap (IntKind.i64.wrap (i + j))) 1)))], [], []⟩, ⟨[(.tmp 45, .own (Rp.int .i64) 3 2 [0] data), (.tmp 46, kI av)], [], []⟩, ⟨[(.tmp 40, .fv 33 [.ep R_Name_Fields [0] v 0]), (.tmp 44, kI x), (.tmp 48, kI x2)], [], []⟩] [0, 1, 4, 10, 11, 12, 50] [] mixed (by kernel_rfl) (by exact (lw_e (lw_e (lw_e (lw_x (lo_as (lo_ix rfl zet44.el (isSl_own _ _ _ _ _) h_x) rfl) (lw_e (lw_e (lw_e (lw_x (lo_as (lo_ix rfl zet44.el (isSl_own _ _ _ _ _) h_x2) rfl) (lw_e (lw_x (lo_as (lo_callv (args := [.tmp 44, .tmp 48]) [kI x, kI x2] [0] 10 rfl (isFv_fv _ _) Try.call33 (schema_Sorted_1_ok h_rv) rfl rfl rfl rfl rfl) rfl) lw_0))))))))))) ?_
    rcases ite_some h with ⟨hc3, h⟩ | ⟨hc3, h⟩
    ·
     refine ji_condT rfl hc3 ?_
     refine ji_rz ⟨[(0, .own (Rp.int .i64) 3 2 [0] data), (1, kI av), (4, .fv 33 [.ep R_Name_Fields [0] v 0]), (10, kI (IntKind.i64.wrap ((IntKind.i64.wrap (shrI .u64 (IntKind.u64.wrap (IntKind.i64.wrap (i + j))) 1)) + 1))), (11, kI j)], []⟩ (by kernel_rfl) ?_
     refine ji_end ?_
     obtain rfl := sj h
     exact je_nil (le_z (by kernel_rfl))
    refine ji_condF rfl hc3 ?_
    refine ji_rz ⟨[(0, .own (Rp.int .i64) 3 2 [0] data), (1, kI av), (4, .fv 33 [.ep R_Name_Fields [0] v 0]), (10, kI i), (11, kI (IntKind.i64.wrap (shrI .u64 (IntKind.u64.wrap (IntKind.i64.wrap (i + j))) 1)))], []⟩ (by kernel_rfl) ?_
    refine ji_end ?_
    obtain rfl := sj h
    exact je_nil (le_z (by kernel_rfl))
   refine ji_condF rfl hc2 ?_
   obtain rfl := sj h
   exact je_out' rfl (le_z (by kernel_rfl))
  refine k_exit _ rfl ?_
  refine ji_rz ⟨[(0, .own (Rp.int .i64) 3 2 [0] data), (10, kI q), (13, kI av)], []⟩ (by kernel_rfl) ?_
  refine ji_block ?_
  obtain ⟨q2, h_q2, h⟩ := bnd h
  refine je_loop (fun s : ((List Int) × Int) => slices_symMergeCmpFunc_int___schema_Sorted_1_b2 q s.1 s.2) (fun s => ⟨[(0, .own (Rp.int .i64) 3 2 [0] s.1), (10, kI q), (13, kI s.2)], []⟩) (fun o e a w => e = .exit 2 ∧ Sx ⟨⟨220, [0]⟩, Xt, false, old⟩ ⟨[(0, .own (Rp.int .i64) 3 2 [0] o)], []⟩ a w) ?_ h_q2 (le_z (by kernel_rfl)) ?_
  ·
   clear h
   intro s o h
   obtain ⟨data2, k⟩ := s
   refine ji_start ?_
   refine ji_le (E' := ⟨[(0, .own (Rp.int .i64) 3 2 [0] data2), (10, kI q), (13, kI k)], []⟩) (fun _ _ _ hs => hs) ?_
   replace h : slices_symMergeCmpFunc_int___schema_Sorted_1_b2 q data2 k = some o := h
   unfold slices_symMergeCmpFunc_int___schema_Sorted_1_b2 at h
   refine ji_rz ⟨[(0, .own (Rp.int .i64) 3 2 [0] data2), (10, kI q), (13, kI k), (58, kB (decide (k < (IntKind.i64.wrap (q - 1)))))], []⟩ (by kernel_rfl) ?_
   rcases ite_some h with ⟨hc4, h⟩ | ⟨hc4, h⟩
   ·
    refine ji_condT rfl hc4 ?_
    refine ji_block ?_
    obtain ⟨x3, h_x3, h⟩ := bnd h
    obtain ⟨x4, h_x4, h⟩ := bnd h
    obtain ⟨x5, h_x5, h⟩ := bnd h
    obtain ⟨x6, h_x6, h⟩ := bnd h
    obtain ⟨x7, h_x7, h⟩ := bnd h
    refine ji_draw ⟨[(0, .own (Rp.int .i64) 3 2 [0] ((data2.set (Int.toNat k) x3).set (Int.toNat (IntKind.i64.wrap (k + 1))) x4)), (10, kI q), (13, kI k)], []⟩ [.raw [4] [] [] [.rs 61 2 data2.length], .ev, .raw [6] [] [] [.rs 63 2 data2.length], .ev, .ev, .raw [9] [] [] [.rs 66 2 data2.length], .ev, .ev, .raw [2, 0] [] [] [.sl 69 (.ptr 2 (Int.toNat (IntKind.i64.wrap (k + 1)) * (Rp.int .i64).size))], .raw [0, 9] [] [] [.sl 70 (kI x3)], .raw [14] [] [] [.rs 71 2 data2.length], .ev, .raw [1, 0] [] [] [.sl 73 (.ptr 2 (Int.toNat k * (Rp.int .i64).size))], .raw [0, 13] [] [] [.sl 74 (kI x4)], .raw [13, 12] [] [] [.sl 75 (.ptr 2 (Int.toNat k * (Rp.int .i64).size))], .raw [15, 0, 5, 15] [2] [] [.sl 0 (.own (Rp.int .i64) 3 2 [0] (data2.set (Int.toNat k) x3))], .raw [13, 11] [] [] [.sl 76 (.ptr 2 (Int.toNat (IntKind.i64.wrap (k + 1)) * (Rp.int .i64).size))], .raw [1, 0, 3, 1] [2] [] [.sl 0 (.own (Rp.int .i64) 3 2 [0] ((data2.set (Int.toNat k) x3).set (Int.toNat (IntKind.i64.wrap (k + 1))) x4))]] [⟨[], [], [.rs 0 2 data2.length]⟩, ⟨[], [], [.rs 0 2 data2.length]⟩, ⟨[], [], [.rs 0 2 data2.length]⟩, ⟨[], [], [.rs 66 2 data2.length, .sl 68 (kI (IntKind.i64.wrap (k + 1)))]⟩, ⟨[], [], [.sl 69 (.ptr 2 (Int.toNat (IntKind.i64.wrap (k + 1)) * (Rp.int .i64).size)), .sl 0 (.own (Rp.int .i64) 3 2 [0] data2)]⟩, ⟨[], [], [.rs 0 2 data2.length]⟩, ⟨[], [], [.rs 71 2 data2.length, .sl 72 (kI k)]⟩, ⟨[], [], [.sl 73 (.ptr 2 (Int.toNat k * (Rp.int .i64).size)), .sl 0 (.own (Rp.int .i64) 3 2 [0] data2)]⟩, ⟨[], [], [.rs 61 2 data2.length, .sl 62 (kI k)]⟩, ⟨[], [], [.sl 0 (.own (Rp.int .i64) 3 2 [0] data2), .sl 75 (.ptr 2 (Int.toNat k * (Rp.int .i64).size)), .sl 70 (kI x3), .sl 0 (.own (Rp.int .i64) 3 2 [0] data2)]⟩, ⟨[], [], [.rs 63 2 data2.length, .sl 65 (kI (IntKind.i64.wrap (k + 1)))]⟩, ⟨[], [], [.sl 0 (.own (Rp.int .i64) 3 2 [0] (data2.set (Int.toNat k) x3)), .sl 76 (.ptr 2 (Int.toNat (IntKind.i64.wrap (k + 1)) * (Rp.int .i64).size)), .sl 74 (kI x4), .sl 0 (.own (Rp.int .i64) 3 2 [0] (data2.set (Int.toNat k) x3))]⟩] [0, 10, 13] [] mixed (by kernel_rfl) (by exact (lw_r (raw_mv 0 61 2 _ (.inl rfl) rfl) (lw_e (lw_r (raw_mv 0 63 2 _ (.inl rfl) rfl) (lw_e (lw_e (lw_r (raw_mv 0 66 2 _ (.inl rfl) rfl) (lw_e (lw_e (lw_r (raw_ix (kk := .i64) (z := .tmp 68) 66 69 2 rfl rfl zet44.el h_x3 trivial) (lw_r (raw_ld1 (f := 0) (.int .i64 x3) 69 0 rfl h_x3 rfl rfl rfl rfl) (lw_r (raw_mv 0 71 2 _ (.inl rfl) rfl) (lw_e (lw_r (raw_ix (kk := .i64) (z := .tmp 72) 71 73 2 rfl rfl zet44.el h_x4 trivial) (lw_r (raw_ld1 (f := 0) (.int .i64 x4) 73 0 rfl h_x4 rfl rfl rfl rfl) (lw_r (raw_ix (kk := .i64) (z := .tmp 62) 61 75 2 rfl rfl zet44.el h_x5 trivial) (lw_r (raw_turn (ins := [(.tmp 0, .own (Rp.int .i64) 3 2 [0] data2), (.tmp 75, .ptr 2 (Int.toNat k * (Rp.int .i64).size)), (.tmp 70, kI x3)]) [0] (st_set (r := (Rp.int .i64)) (e := 3) (ℓ := 2) (C := [0]) (xs := data2) (off := (Int.toNat k * (Rp.int .i64).size)) (.tmp 0) (Int.toNat k) 0 x5 x3 [0] rfl rfl Try.sizeOf3 rfl (idx_get h_x5) rfl (set_all rfl _) rfl) ⟨trivial, trivial, trivial, trivial⟩ (fun _ _ => nofun)) (lw_r (raw_ix (kk := .i64) (z := .tmp 65) 63 76 2 rfl rfl zet44.el h_x6 trivial) (lw_r (raw_turn (ins := [(.tmp 0, .own (Rp.int .i64) 3 2 [0] (data2.set (Int.toNat k) x3)), (.tmp 76, .ptr 2 (Int.toNat (IntKind.i64.wrap (k + 1)) * (Rp.int .i64).size)), (.tmp 74, kI x4)]) [0] (st_set (r := (Rp.int .i64)) (e := 3) (ℓ := 2) (C := [0]) (xs := (data2.set (Int.toNat k) x3)) (off := (Int.toNat (IntKind.i64.wrap (k + 1)) * (Rp.int .i64).size)) (.tmp 0) (Int.toNat (IntKind.i64.wrap (k + 1))) 0 x7 x4 [0] rfl rfl Try.sizeOf3 rfl (idx_get h_x7) rfl (set_all rfl _) rfl) ⟨trivial, trivial, trivial, trivial⟩ (fun _ _ => nofun)) lw_0))))))))))))))))))) ?_
    refine ji_end ?_
    refine ji_rz ⟨[(0, .own (Rp.int .i64) 3 2 [0] ((data2.set (Int.toNat k) x3).set (Int.toNat (IntKind.i64.wrap (k + 1))) x4)), (10, kI q), (13, kI (IntKind.i64.wrap (k + 1)))], []⟩ (by kernel_rfl) ?_
    obtain rfl := sj h
    exact je_nil (le_z (by kernel_rfl))
   refine ji_condF rfl hc4 ?_
   obtain rfl := sj h
   exact je_out' rfl (le_z (by kernel_rfl))
  refine k_exit _ rfl ?_
  obtain rfl := sj h
  exact je_wr (le_z (by kernel_rfl))
 refine ji_condF rfl hc1 ?_
 refine ji_rz ⟨[(0, .own (Rp.int .i64) 3 2 [0] data), (1, kI av), (2, kI m), (3, kI b), (4, .fv 33 [.ep R_Name_Fields [0] v 0]), (80, kB ((IntKind.i64.wrap (b - m)) == 1))], []⟩ (by kernel_rfl) ?_
 rcases ite_some h with ⟨hc5, h⟩ | ⟨hc5, h⟩
 ·
  refine ji_condT rfl hc5 ?_
  refine ji_rz ⟨[(0, .own (Rp.int .i64) 3 2 [0] data), (2, kI m), (4, .fv 33 [.ep R_Name_Fields [0] v 0]), (14, kI av)], []⟩ (by kernel_rfl) ?_
  refine ji_rz ⟨[(0, .own (Rp.int .i64) 3 2 [0] data), (2, kI m), (4, .fv 33 [.ep R_Name_Fields [0] v 0]), (14, kI av), (15, kI m)], []⟩ (by kernel_rfl) ?_
  refine ji_block ?_
  obtain ⟨q3, h_q3, h⟩ := bnd h
  refine je_loop (fun s : (Int × Int) => slices_symMergeCmpFunc_int___schema_Sorted_1_b3 data m v s.1 s.2) (fun s => ⟨[(0, .own (Rp.int .i64) 3 2 [0] data), (2, kI m), (4, .fv 33 [.ep R_Name_Fields [0] v 0]), (14, kI s.1), (15, kI s.2)], []⟩) (fun o e a w => e = .exit 4 ∧ Sx ⟨⟨220, [0]⟩, Xt, false, old⟩ ⟨[(0, .own (Rp.int .i64) 3 2 [0] data), (2, kI m), (14, kI o)], []⟩ a w) ?_ h_q3 (le_z (by kernel_rfl)) ?_
  ·
   clear h
   intro s o h
   obtain ⟨i3, j2⟩ := s
   refine ji_start ?_
   refine ji_le (E' := ⟨[(0, .own (Rp.int .i64) 3 2 [0] data), (2, kI m), (4, .fv 33 [.ep R_Name_Fields [0] v 0]), (14, kI i3), (15, kI j2)], []⟩) (fun _ _ _ hs => hs) ?_
   replace h : slices_symMergeCmpFunc_int___schema_Sorted_1_b3 data m v i3 j2 = some o := h
   unfold slices_symMergeCmpFunc_int___schema_Sorted_1_b3 at h
   refine ji_rz ⟨[(0, .own (Rp.int .i64) 3 2 [0] data), (2, kI m), (4, .fv 33 [.ep R_Name_Fields [0] v 0]), (14, kI i3), (15, kI j2), (85, kB (decide (i3 < j2)))], []⟩ (by kernel_rfl) ?_
   rcases ite_some h with ⟨hc6, h⟩ | ⟨hc6, h⟩
   ·
    refine ji_condT rfl hc6 ?_
    refine ji_block ?_
    refine ji_region ⟨[(0, .own (Rp.int .i64) 3 2 [0] data), (2, kI m), (4, .fv 33 [.ep R_Name_Fields [0] v 0]), (14, kI i3), (15, kI j2), (16, kI (IntKind.i64.wrap (shrI .u64 (IntKind.u64.wrap (IntKind.i64.wrap (i3 + j2))) 1)))], []⟩ (ro_oz 4 [kU (IntKind.u64.wrap (IntKind.i64.wrap (i3 + j2))), kU 1] rfl (lo_shr rfl rfl) rfl (by kernel_rfl)) ?_
    obtain ⟨x8, h_x8, h⟩ := bnd h
    obtain ⟨x9, h_x9, h⟩ := bnd h
    obtain ⟨rv2, h_rv2, h⟩ := bnd h
    refine ji_draw ⟨[(0, .own (Rp.int .i64) 3 2 [0] data), (2, kI m), (4, .fv 33 [.ep R_Name_Fields [0] v 0]), (14, kI i3), (15, kI j2), (16, kI (IntKind.i64.wrap (shrI .u64 (IntKind.u64.wrap (IntKind.i64.wrap (i3 + j2))) 1))), (103, kB (!(decide (rv2 < 0))))], []⟩ [.ev, .ev, .ev, .ex [] [] [] (.ep (Rp.int .i64) [2, 0] x8 0) [], .ev, .ev, .ev, .ex [] [] [] (.ep (Rp.int .i64) [2, 0] x9 0) [], .ev, .ex [] [] [] (kI rv2) []] [⟨[(.tmp 93, .own (Rp.int .i64) 3 2 [0] data), (.tmp 94, kI m)], [], []⟩, ⟨[(.tmp 97, .own (Rp.int .i64) 3 2 [0] data), (.tmp 98, kI (IntKind.i64.wrap (shrI .u64 (IntKind.u64.wrap (IntKind.i64.wrap (i3 + j2))) 1)))], [], []⟩, ⟨[(.tmp 92, .fv 33 [.ep R_Name_Fields [0] v 0]), (.tmp 96, kI x8), (.tmp 100, kI x9)], [], []⟩] [0, 2, 4, 14, 15, 16, 103] [] mixed (by kernel_rfl) (by exact (lw_e (lw_e (lw_e (lw_x (lo_as (lo_ix rfl zet44.el (isSl_own _ _ _ _ _) h_x8) rfl) (lw_e (lw_e (lw_e (lw_x (lo_as (lo_ix rfl zet44.el (isSl_own _ _ _ _ _) h_x9) rfl) (lw_e (lw_x (lo_as (lo_callv (args := [.tmp 96, .tmp 100]) [kI x8, kI x9] [0] 12 rfl (isFv_fv _ _) Try.call33 (schema_Sorted_1_ok h_rv2) rfl rfl rfl rfl rfl) rfl) lw_0))))))))))) ?_
    rcases ite_some h with ⟨hc7, h⟩ | ⟨hc7, h⟩
    ·
     refine ji_condT rfl hc7 ?_
     refine ji_rz ⟨[(0, .own (Rp.int .i64) 3 2 [0] data), (2, kI m), (4, .fv 33 [.ep R_Name_Fields [0] v 0]), (14, kI (IntKind.i64.wrap ((IntKind.i64.wrap (shrI .u64 (IntKind.u64.wrap (IntKind.i64.wrap (i3 + j2))) 1)) + 1))), (15, kI j2)], []⟩ (by kernel_rfl) ?_
     refine ji_end ?_
     obtain rfl := sj h
     exact je_nil (le_z (by kernel_rfl))
    refine ji_condF rfl hc7 ?_
    refine ji_rz ⟨[(0, .own (Rp.int .i64) 3 2 [0] data), (2, kI m), (4, .fv 33 [.ep R_Name_Fields [0] v 0]), (14, kI i3), (15, kI (IntKind.i64.wrap (shrI .u64 (IntKind.u64.wrap (IntKind.i64.wrap (i3 + j2))) 1)))], []⟩ (by kernel_rfl) ?_
    refine ji_end ?_
    obtain rfl := sj h
    exact je_nil (le_z (by kernel_rfl))
   refine ji_condF rfl hc6 ?_
   obtain rfl := sj h
   exact je_out' rfl (le_z (by kernel_rfl))
  refine k_exit _ rfl ?_
  refine ji_rz ⟨[(0, .own (Rp.int .i64) 3 2 [0] data), (14, kI q3), (17, kI m)], []⟩ (by kernel_rfl) ?_
  refine ji_block ?_
  obtain ⟨q4, h_q4, h⟩ := bnd h
  refine je_loop (fun s : ((List Int) × Int) => slices_symMergeCmpFunc_int___schema_Sorted_1_b4 q3 s.1 s.2) (fun s => ⟨[(0, .own (Rp.int .i64) 3 2 [0] s.1), (14, kI q3), (17, kI s.2)], []⟩) (fun o e a w => e = .exit 6 ∧ Sx ⟨⟨220, [0]⟩, Xt, false, old⟩ ⟨[(0, .own (Rp.int .i64) 3 2 [0] o)], []⟩ a w) ?_ h_q4 (le_z (by kernel_rfl)) ?_
  ·
   clear h
   intro s o h
   obtain ⟨data4, k2⟩ := s
   refine ji_start ?_
   refine ji_le (E' := ⟨[(0, .own (Rp.int .i64) 3 2 [0] data4), (14, kI q3), (17, kI k2)], []⟩) (fun _ _ _ hs => hs) ?_
   replace h : slices_symMergeCmpFunc_int___schema_Sorted_1_b4 q3 data4 k2 = some o := h
   unfold slices_symMergeCmpFunc_int___schema_Sorted_1_b4 at h
   refine ji_rz ⟨[(0, .own (Rp.int .i64) 3 2 [0] data4), (14, kI q3), (17, kI k2), (110, kB (decide (k2 > q3)))], []⟩ (by kernel_rfl) ?_
   rcases ite_some h with ⟨hc8, h⟩ | ⟨hc8, h⟩
   ·
    refine ji_condT rfl hc8 ?_
    refine ji_block ?_
    obtain ⟨x10, h_x10, h⟩ := bnd h
    obtain ⟨x11, h_x11, h⟩ := bnd h
    obtain ⟨x12, h_x12, h⟩ := bnd h
    obtain ⟨x13, h_x13, h⟩ := bnd h
    obtain ⟨x14, h_x14, h⟩ := bnd h
    refine ji_draw ⟨[(0, .own (Rp.int .i64) 3 2 [0] ((data4.set (Int.toNat k2) x10).set (Int.toNat (IntKind.i64.wrap (k2 - 1))) x11)), (14, kI q3), (17, kI k2)], []⟩ [.raw [4] [] [] [.rs 113 2 data4.length], .ev, .raw [6] [] [] [.rs 115 2 data4.length], .ev, .ev, .raw [9] [] [] [.rs 118 2 data4.length], .ev, .ev, .raw [2, 0] [] [] [.sl 121 (.ptr 2 (Int.toNat (IntKind.i64.wrap (k2 - 1)) * (Rp.int .i64).size))], .raw [0, 9] [] [] [.sl 122 (kI x10)], .raw [14] [] [] [.rs 123 2 data4.length], .ev, .raw [1, 0] [] [] [.sl 125 (.ptr 2 (Int.toNat k2 * (Rp.int .i64).size))], .raw [0, 13] [] [] [.sl 126 (kI x11)], .raw [13, 12] [] [] [.sl 127 (.ptr 2 (Int.toNat k2 * (Rp.int .i64).size))], .raw [15, 0, 5, 15] [2] [] [.sl 0 (.own (Rp.int .i64) 3 2 [0] (data4.set (Int.toNat k2) x10))], .raw [13, 11] [] [] [.sl 128 (.ptr 2 (Int.toNat (IntKind.i64.wrap (k2 - 1)) * (Rp.int .i64).size))], .raw [1, 0, 3, 1] [2] [] [.sl 0 (.own (Rp.int .i64) 3 2 [0] ((data4.set (Int.toNat k2) x10).set (Int.toNat (IntKind.i64.wrap (k2 - 1))) x11))]] [⟨[], [], [.rs 0 2 data4.length]⟩, ⟨[], [], [.rs 0 2 data4.length]⟩, ⟨[], [], [.rs 0 2 data4.length]⟩, ⟨[], [], [.rs 118 2 data4.length, .sl 120 (kI (IntKind.i64.wrap (k2 - 1)))]⟩, ⟨[], [], [.sl 121 (.ptr 2 (Int.toNat (IntKind.i64.wrap (k2 - 1)) * (Rp.int .i64).size)), .sl 0 (.own (Rp.int .i64) 3 2 [0] data4)]⟩, ⟨[], [], [.rs 0 2 data4.length]⟩, ⟨[], [], [.rs 123 2 data4.length, .sl 124 (kI k2)]⟩, ⟨[], [], [.sl 125 (.ptr 2 (Int.toNat k2 * (Rp.int .i64).size)), .sl 0 (.own (Rp.int .i64) 3 2 [0] data4)]⟩, ⟨[], [], [.rs 113 2 data4.length, .sl 114 (kI k2)]⟩, ⟨[], [], [.sl 0 (.own (Rp.int .i64) 3 2 [0] data4), .sl 127 (.ptr 2 (Int.toNat k2 * (Rp.int .i64).size)), .sl 122 (kI x10), .sl 0 (.own (Rp.int .i64) 3 2 [0] data4)]⟩, ⟨[], [], [.rs 115 2 data4.length, .sl 117 (kI (IntKind.i64.wrap (k2 - 1)))]⟩, ⟨[], [], [.sl 0 (.own (Rp.int .i64) 3 2 [0] (data4.set (Int.toNat k2) x10)), .sl 128 (.ptr 2 (Int.toNat (IntKind.i64.wrap (k2 - 1)) * (Rp.int .i64).size)), .sl 126 (kI x11), .sl 0 (.own (Rp.int .i64) 3 2 [0] (data4.set (Int.toNat k2) x10))]⟩] [0, 14, 17] [] mixed (by kernel_rfl) (by exact (lw_r (raw_mv 0 113 2 _ (.inl rfl) rfl) (lw_e (lw_r (raw_mv 0 115 2 _ (.inl rfl) rfl) (lw_e (lw_e (lw_r (raw_mv 0 118 2 _ (.inl rfl) rfl) (lw_e (lw_e (lw_r (raw_ix (kk := .i64) (z := .tmp 120) 118 121 2 rfl rfl zet44.el h_x10 trivial) (lw_r (raw_ld1 (f := 0) (.int .i64 x10) 121 0 rfl h_x10 rfl rfl rfl rfl) (lw_r (raw_mv 0 123 2 _ (.inl rfl) rfl) (lw_e (lw_r (raw_ix (kk := .i64) (z := .tmp 124) 123 125 2 rfl rfl zet44.el h_x11 trivial) (lw_r (raw_ld1 (f := 0) (.int .i64 x11) 125 0 rfl h_x11 rfl rfl rfl rfl) (lw_r (raw_ix (kk := .i64) (z := .tmp 114) 113 127 2 rfl rfl zet44.el h_x12 trivial) (lw_r (raw_turn (ins := [(.tmp 0, .own (Rp.int .i64) 3 2 [0] data4), (.tmp 127, .ptr 2 (Int.toNat k2 * (Rp.int .i64).size)), (.tmp 122, kI x10)]) [0] (st_set (r := (Rp.int .i64)) (e := 3) (ℓ := 2) (C := [0]) (xs := data4) (off := (Int.toNat k2 * (Rp.int .i64).size)) (.tmp 0) (Int.toNat k2) 0 x12 x10 [0] rfl rfl Try.sizeOf3 rfl (idx_get h_x12) rfl (set_all rfl _) rfl) ⟨trivial, trivial, trivial, trivial⟩ (fun _ _ => nofun)) (lw_r (raw_ix (kk := .i64) (z := .tmp 117) 115 128 2 rfl rfl zet44.el h_x13 trivial) (lw_r (raw_turn (ins := [(.tmp 0, .own (Rp.int .i64) 3 2 [0] (data4.set (Int.toNat k2) x10)), (.tmp 128, .ptr 2 (Int.toNat (IntKind.i64.wrap (k2 - 1)) * (Rp.int .i64).size)), (.tmp 126, kI x11)]) [0] (st_set (r := (Rp.int .i64)) (e := 3) (ℓ := 2) (C := [0]) (xs := (data4.set (Int.toNat k2) x10)) (off := (Int.toNat (IntKind.i64.wrap (k2 - 1)) * (Rp.int .i64).size)) (.tmp 0) (Int.toNat (IntKind.i64.wrap (k2 - 1))) 0 x14 x11 [0] rfl rfl Try.sizeOf3 rfl (idx_get h_x14) rfl (set_all rfl _) rfl) ⟨trivial, trivial, trivial, trivial⟩ (fun _ _ => nofun)) lw_0))))))))))))))))))) ?_
    refine ji_end ?_
    refine ji_rz ⟨[(0, .own (Rp.int .i64) 3 2 [0] ((data4.set (Int.toNat k2) x10).set (Int.toNat (IntKind.i64.wrap (k2 - 1))) x11)), (14, kI q3), (17, kI (IntKind.i64.wrap (k2 - 1)))], []⟩ (by kernel_rfl) ?_
    obtain rfl := sj h
    exact je_nil (le_z (by kernel_rfl))
   refine ji_condF rfl hc8 ?_
   obtain rfl := sj h
   exact je_out' rfl (le_z (by kernel_rfl))
  refine k_exit _ rfl ?_
  obtain rfl := sj h
  exact je_wr (le_z (by kernel_rfl))
 refine ji_condF rfl hc5 ?_
 refine ji_region ⟨[(0, .own (Rp.int .i64) 3 2 [0] data), (1, kI av), (2, kI m), (3, kI b), (4, .fv 33 [.ep R_Name_Fields [0] v 0]), (18, kI (IntKind.i64.wrap (shrI .u64 (IntKind.u64.wrap (IntKind.i64.wrap (av + b))) 1)))], []⟩ (ro_oz 4 [kU (IntKind.u64.wrap (IntKind.i64.wrap (av + b))), kU 1] rfl (lo_shr rfl rfl) rfl (by kernel_rfl)) ?_
 refine ji_rz ⟨[(0, .own (Rp.int .i64) 3 2 [0] data), (1, kI av), (2, kI m), (3, kI b), (4, .fv 33 [.ep R_Name_Fields [0] v 0]), (18, kI (IntKind.i64.wrap (shrI .u64 (IntKind.u64.wrap (IntKind.i64.wrap (av + b))) 1))), (19, kI (IntKind.i64.wrap ((IntKind.i64.wrap (shrI .u64 (IntKind.u64.wrap (IntKind.i64.wrap (av + b))) 1)) + m)))], []⟩ (by kernel_rfl) ?_
 refine ji_rz ⟨[(0, .own (Rp.int .i64) 3 2 [0] data), (1, kI av), (2, kI m), (3, kI b), (4, .fv 33 [.ep R_Name_Fields [0] v 0]), (18, kI (IntKind.i64.wrap (shrI .u64 (IntKind.u64.wrap (IntKind.i64.wrap (av + b))) 1))), (19, kI (IntKind.i64.wrap ((IntKind.i64.wrap (shrI .u64 (IntKind.u64.wrap (IntKind.i64.wrap (av + b))) 1)) + m)))], []⟩ (by kernel_rfl) ?_
 refine ji_rz ⟨[(0, .own (Rp.int .i64) 3 2 [0] data), (1, kI av), (2, kI m), (3, kI b), (4, .fv 33 [.ep R_Name_Fields [0] v 0]), (18, kI (IntKind.i64.wrap (shrI .u64 (IntKind.u64.wrap (IntKind.i64.wrap (av + b))) 1))), (19, kI (IntKind.i64.wrap ((IntKind.i64.wrap (shrI .u64 (IntKind.u64.wrap (IntKind.i64.wrap (av + b))) 1)) + m))), (140, kB (decide (m > (IntKind.i64.wrap (shrI .u64 (IntKind.u64.wrap (IntKind.i64.wrap (av + b))) 1)))))], []⟩ (by kernel_rfl) ?_
 obtain ⟨p, h_p, h⟩ := bnd h
 refine ji_join (R := fun e a w => e = .normal ∧ Sx ⟨⟨220, [0]⟩, Xt, false, old⟩ ⟨[(0, .own (Rp.int .i64) 3 2 [0] data), (1, kI av), (2, kI m), (3, kI b), (4, .fv 33 [.ep R_Name_Fields [0] v 0]), (18, kI (IntKind.i64.wrap (shrI .u64 (IntKind.u64.wrap (IntKind.i64.wrap (av + b))) 1))), (19, kI (IntKind.i64.wrap ((IntKind.i64.wrap (shrI .u64 (IntKind.u64.wrap (IntKind.i64.wrap (av + b))) 1)) + m))), (20, kI p.1), (21, kI p.2)], []⟩ a w) ?_ ?_
 ·
  replace h := h_p
  refine ji_start ?_
  rcases ite_some h with ⟨hc9, h⟩ | ⟨hc9, h⟩
  ·
   refine ji_condT rfl hc9 ?_
   refine ji_rz ⟨[(0, .own (Rp.int .i64) 3 2 [0] data), (1, kI av), (2, kI m), (3, kI b), (4, .fv 33 [.ep R_Name_Fields [0] v 0]), (18, kI (IntKind.i64.wrap (shrI .u64 (IntKind.u64.wrap (IntKind.i64.wrap (av + b))) 1))), (19, kI (IntKind.i64.wrap ((IntKind.i64.wrap (shrI .u64 (IntKind.u64.wrap (IntKind.i64.wrap (av + b))) 1)) + m))), (20, kI (IntKind.i64.wrap ((IntKind.i64.wrap ((IntKind.i64.wrap (shrI .u64 (IntKind.u64.wrap (IntKind.i64.wrap (av + b))) 1)) + m)) - b)))], []⟩ (by kernel_rfl) ?_
   refine ji_rz ⟨[(0, .own (Rp.int .i64) 3 2 [0] data), (1, kI av), (2, kI m), (3, kI b), (4, .fv 33 [.ep R_Name_Fields [0] v 0]), (18, kI (IntKind.i64.wrap (shrI .u64 (IntKind.u64.wrap (IntKind.i64.wrap (av + b))) 1))), (19, kI (IntKind.i64.wrap ((IntKind.i64.wrap (shrI .u64 (IntKind.u64.wrap (IntKind.i64.wrap (av + b))) 1)) + m))), (20, kI (IntKind.i64.wrap ((IntKind.i64.wrap ((IntKind.i64.wrap (shrI .u64 (IntKind.u64.wrap (IntKind.i64.wrap (av + b))) 1)) + m)) - b))), (21, kI (IntKind.i64.wrap (shrI .u64 (IntKind.u64.wrap (IntKind.i64.wrap (av + b))) 1)))], []⟩ (by kernel_rfl) ?_
   obtain rfl := sj h
   exact je_nil (le_z (by kernel_rfl))
  refine ji_condF rfl hc9 ?_
  refine ji_rz ⟨[(0, .own (Rp.int .i64) 3 2 [0] data), (1, kI av), (2, kI m), (3, kI b), (4, .fv 33 [.ep R_Name_Fields [0] v 0]), (18, kI (IntKind.i64.wrap (shrI .u64 (IntKind.u64.wrap (IntKind.i64.wrap (av + b))) 1))), (19, kI (IntKind.i64.wrap ((IntKind.i64.wrap (shrI .u64 (IntKind.u64.wrap (IntKind.i64.wrap (av + b))) 1)) + m))), (20, kI av)], []⟩ (by kernel_rfl) ?_
  refine ji_rz ⟨[(0, .own (Rp.int .i64) 3 2 [0] data), (1, kI av), (2, kI m), (3, kI b), (4, .fv 33 [.ep R_Name_Fields [0] v 0]), (18, kI (IntKind.i64.wrap (shrI .u64 (IntKind.u64.wrap (IntKind.i64.wrap (av + b))) 1))), (19, kI (IntKind.i64.wrap ((IntKind.i64.wrap (shrI .u64 (IntKind.u64.wrap (IntKind.i64.wrap (av + b))) 1)) + m))), (20, kI av), (21, kI m)], []⟩ (by kernel_rfl) ?_
  obtain rfl := sj h
  exact je_nil (le_z (by kernel_rfl))
 refine k_norm ?_
 refine ji_rz ⟨[(0, .own (Rp.int .i64) 3 2 [0] data), (1, kI av), (2, kI m), (3, kI b), (4, .fv 33 [.ep R_Name_Fields [0] v 0]), (18, kI (IntKind.i64.wrap (shrI .u64 (IntKind.u64.wrap (IntKind.i64.wrap (av + b))) 1))), (19, kI (IntKind.i64.wrap ((IntKind.i64.wrap (shrI .u64 (IntKind.u64.wrap (IntKind.i64.wrap (av + b))) 1)) + m))), (20, kI p.1), (21, kI p.2), (22, kI (IntKind.i64.wrap ((IntKind.i64.wrap ((IntKind.i64.wrap (shrI .u64 (IntKind.u64.wrap (IntKind.i64.wrap (av + b))) 1)) + m)) - 1)))], []⟩ (by kernel_rfl) ?_
 refine ji_block ?_
 obtain ⟨q5, h_q5, h⟩ := bnd h
 refine je_loop (fun s : (Int × Int) => slices_symMergeCmpFunc_int___schema_Sorted_1_b5 av b data m v s.1 s.2) (fun s => ⟨[(0, .own (Rp.int .i64) 3 2 [0] data), (1, kI av), (2, kI m), (3, kI b), (4, .fv 33 [.ep R_Name_Fields [0] v 0]), (18, kI (IntKind.i64.wrap (shrI .u64 (IntKind.u64.wrap (IntKind.i64.wrap (av + b))) 1))), (19, kI (IntKind.i64.wrap ((IntKind.i64.wrap (shrI .u64 (IntKind.u64.wrap (IntKind.i64.wrap (av + b))) 1)) + m))), (20, kI s.1), (21, kI s.2), (22, kI (IntKind.i64.wrap ((IntKind.i64.wrap ((IntKind.i64.wrap (shrI .u64 (IntKind.u64.wrap (IntKind.i64.wrap (av + b))) 1)) + m)) - 1)))], []⟩) (fun o e a w => e = .exit 8 ∧ Sx ⟨⟨220, [0]⟩, Xt, false, old⟩ ⟨[(0, .own (Rp.int .i64) 3 2 [0] data), (1, kI av), (2, kI m), (3, kI b), (4, .fv 33 [.ep R_Name_Fields [0] v 0]), (18, kI (IntKind.i64.wrap (shrI .u64 (IntKind.u64.wrap (IntKind.i64.wrap (av + b))) 1))), (19, kI (IntKind.i64.wrap ((IntKind.i64.wrap (shrI .u64 (IntKind.u64.wrap (IntKind.i64.wrap (av + b))) 1)) + m))), (20, kI o)], []⟩ a w) ?_ h_q5 (le_z (by kernel_rfl)) ?_
 ·
  clear h
  intro s o h
  obtain ⟨start2, rv4⟩ := s
  refine ji_start ?_
  refine ji_le (E' := ⟨[(0, .own (Rp.int .i64) 3 2 [0] data), (1, kI av), (2, kI m), (3, kI b), (4, .fv 33 [.ep R_Name_Fields [0] v 0]), (18, kI (IntKind.i64.wrap (shrI .u64 (IntKind.u64.wrap (IntKind.i64.wrap (av + b))) 1))), (19, kI (IntKind.i64.wrap ((IntKind.i64.wrap (shrI .u64 (IntKind.u64.wrap (IntKind.i64.wrap (av + b))) 1)) + m))), (20, kI start2), (21, kI rv4), (22, kI (IntKind.i64.wrap ((IntKind.i64.wrap ((IntKind.i64.wrap (shrI .u64 (IntKind.u64.wrap (IntKind.i64.wrap (av + b))) 1)) + m)) - 1)))], []⟩) (fun _ _ _ hs => hs) ?_
  replace h : slices_symMergeCmpFunc_int___schema_Sorted_1_b5 av b data m v start2 rv4 = some o := h
  unfold slices_symMergeCmpFunc_int___schema_Sorted_1_b5 at h
  refine ji_rz ⟨[(0, .own (Rp.int .i64) 3 2 [0] data), (1, kI av), (2, kI m), (3, kI b), (4, .fv 33 [.ep R_Name_Fields [0] v 0]), (18, kI (IntKind.i64.wrap (shrI .u64 (IntKind.u64.wrap (IntKind.i64.wrap (av + b))) 1))), (19, kI (IntKind.i64.wrap ((IntKind.i64.wrap (shrI .u64 (IntKind.u64.wrap (IntKind.i64.wrap (av + b))) 1)) + m))), (20, kI start2), (21, kI rv4), (22, kI (IntKind.i64.wrap ((IntKind.i64.wrap ((IntKind.i64.wrap (shrI .u64 (IntKind.u64.wrap (IntKind.i64.wrap (av + b))) 1)) + m)) - 1))), (151, kB (decide (start2 < rv4)))], []⟩ (by kernel_rfl) ?_
  rcases ite_some h with ⟨hc10, h⟩ | ⟨hc10, h⟩
  ·
   refine ji_condT rfl hc10 ?_
   refine ji_block ?_
   refine ji_region ⟨[(0, .own (Rp.int .i64) 3 2 [0] data), (1, kI av), (2, kI m), (3, kI b), (4, .fv 33 [.ep R_Name_Fields [0] v 0]), (18, kI (IntKind.i64.wrap (shrI .u64 (IntKind.u64.wrap (IntKind.i64.wrap (av + b))) 1))), (19, kI (IntKind.i64.wrap ((IntKind.i64.wrap (shrI .u64 (IntKind.u64.wrap (IntKind.i64.wrap (av + b))) 1)) + m))), (20, kI start2), (21, kI rv4), (22, kI (IntKind.i64.wrap ((IntKind.i64.wrap ((IntKind.i64.wrap (shrI .u64 (IntKind.u64.wrap (IntKind.i64.wrap (av + b))) 1)) + m)) - 1))), (23, kI (IntKind.i64.wrap (shrI .u64 (IntKind.u64.wrap (IntKind.i64.wrap (start2 + rv4))) 1)))], []⟩ (ro_oz 4 [kU (IntKind.u64.wrap (IntKind.i64.wrap (start2 + rv4))), kU 1] rfl (lo_shr rfl rfl) rfl (by kernel_rfl)) ?_
   obtain ⟨x15, h_x15, h⟩ := bnd h
   obtain ⟨x16, h_x16, h⟩ := bnd h
   obtain ⟨rv5, h_rv5, h⟩ := bnd h
   refine ji_draw ⟨[(0, .own (Rp.int .i64) 3 2 [0] data), (1, kI av), (2, kI m), (3, kI b), (4, .fv 33 [.ep R_Name_Fields [0] v 0]), (18, kI (IntKind.i64.wrap (shrI .u64 (IntKind.u64.wrap (IntKind.i64.wrap (av + b))) 1))), (19, kI (IntKind.i64.wrap ((IntKind.i64.wrap (shrI .u64 (IntKind.u64.wrap (IntKind.i64.wrap (av + b))) 1)) + m))), (20, kI start2), (21, kI rv4), (22, kI (IntKind.i64.wrap ((IntKind.i64.wrap ((IntKind.i64.wrap (shrI .u64 (IntKind.u64.wrap (IntKind.i64.wrap (av + b))) 1)) + m)) - 1))), (23, kI (IntKind.i64.wrap (shrI .u64 (IntKind.u64.wrap (IntKind.i64.wrap (start2 + rv4))) 1))), (171, kB (!(decide (rv5 < 0))))], []⟩ [.ev, .ev, .ev, .ev, .ev, .ex [] [] [] (.ep (Rp.int .i64) [2, 0] x15 0) [], .ev, .ev, .ev, .ex [] [] [] (.ep (Rp.int .i64) [2, 0] x16 0) [], .ev, .ex [] [] [] (kI rv5) []] [⟨[(.tmp 159, .own (Rp.int .i64) 3 2 [0] data), (.tmp 162, kI (IntKind.i64.wrap ((IntKind.i64.wrap ((IntKind.i64.wrap ((IntKind.i64.wrap (shrI .u64 (IntKind.u64.wrap (IntKind.i64.wrap (av + b))) 1)) + m)) - 1)) - (IntKind.i64.wrap (shrI .u64 (IntKind.u64.wrap (IntKind.i64.wrap (start2 + rv4))) 1)))))], [], []⟩, ⟨[(.tmp 165, .own (Rp.int .i64) 3 2 [0] data), (.tmp 166, kI (IntKind.i64.wrap (shrI .u64 (IntKind.u64.wrap (IntKind.i64.wrap (start2 + rv4))) 1)))], [], []⟩, ⟨[(.tmp 158, .fv 33 [.ep R_Name_Fields [0] v 0]), (.tmp 164, kI x15), (.tmp 168, kI x16)], [], []⟩] [0, 1, 2, 3, 4, 18, 19, 20, 21, 22, 23, 171] [] mixed (by kernel_rfl) (by exact (lw_e (lw_e (lw_e (lw_e (lw_e (lw_x (lo_as (lo_ix rfl zet44.el (isSl_own _ _ _ _ _) h_x15) rfl) (lw_e (lw_e (lw_e (lw_x (lo_as (lo_ix rfl zet44.el (isSl_own _ _ _ _ _) h_x16) rfl) (lw_e (lw_x (lo_as (lo_callv (args := [.tmp 164, .tmp 168]) [kI x15, kI x16] [0] 14 rfl (isFv_fv _ _) Try.call33 (schema_Sorted_1_ok h_rv5) rfl rfl rfl rfl rfl) rfl) lw_0))))))))))))) ?_
   rcases ite_some h with ⟨hc11, h⟩ | ⟨hc11, h⟩
   ·
    refine ji_condT rfl hc11 ?_
    refine ji_rz ⟨[(0, .own (Rp.int .i64) 3 2 [0] data), (1, kI av), (2, kI m), (3, kI b), (4, .fv 33 [.ep R_Name_Fields [0] v 0]), (18, kI (IntKind.i64.wrap (shrI .u64 (IntKind.u64.wrap (IntKind.i64.wrap (av + b))) 1))), (19, kI (IntKind.i64.wrap ((IntKind.i64.wrap (shrI .u64 (IntKind.u64.wrap (IntKind.i64.wrap (av + b))) 1)) + m))), (20, kI (IntKind.i64.wrap ((IntKind.i64.wrap (shrI .u64 (IntKind.u64.wrap (IntKind.i64.wrap (start2 + rv4))) 1)) + 1))), (21, kI rv4), (22, kI (IntKind.i64.wrap ((IntKind.i64.wrap ((IntKind.i64.wrap (shrI .u64 (IntKind.u64.wrap (IntKind.i64.wrap (av + b))) 1)) + m)) - 1)))], []⟩ (by kernel_rfl) ?_
    refine ji_end ?_
    obtain rfl := sj h
    exact je_nil (le_z (by kernel_rfl))
   refine ji_condF rfl hc11 ?_
   refine ji_rz ⟨[(0, .own (Rp.int .i64) 3 2 [0] data), (1, kI av), (2, kI m), (3, kI b), (4, .fv 33 [.ep R_Name_Fields [0] v 0]), (18, kI (IntKind.i64.wrap (shrI .u64 (IntKind.u64.wrap (IntKind.i64.wrap (av + b))) 1))), (19, kI (IntKind.i64.wrap ((IntKind.i64.wrap (shrI .u64 (IntKind.u64.wrap (IntKind.i64.wrap (av + b))) 1)) + m))), (20, kI start2), (21, kI (IntKind.i64.wrap (shrI .u64 (IntKind.u64.wrap (IntKind.i64.wrap (start2 + rv4))) 1))), (22, kI (IntKind.i64.wrap ((IntKind.i64.wrap ((IntKind.i64.wrap (shrI .u64 (IntKind.u64.wrap (IntKind.i64.wrap (av + b))) 1)) + m)) - 1)))], []⟩ (by kernel_rfl) ?_
   refine ji_end ?_
   obtain rfl := sj h
   exact je_nil (le_z (by kernel_rfl))
  refine ji_condF rfl hc10 ?_
  obtain rfl := sj h
  exact je_out' rfl (le_z (by kernel_rfl))
 refine k_exit _ rfl ?_
 refine ji_rz ⟨[(0, .own (Rp.int .i64) 3 2 [0] data), (1, kI av), (2, kI m), (3, kI b), (4, .fv 33 [.ep R_Name_Fields [0] v 0]), (18, kI (IntKind.i64.wrap (shrI .u64 (IntKind.u64.wrap (IntKind.i64.wrap (av + b))) 1))), (20, kI q5), (24, kI (IntKind.i64.wrap ((IntKind.i64.wrap ((IntKind.i64.wrap (shrI .u64 (IntKind.u64.wrap (IntKind.i64.wrap (av + b))) 1)) + m)) - q5)))], []⟩ (by kernel_rfl) ?_
 refine ji_region ⟨[(0, .own (Rp.int .i64) 3 2 [0] data), (1, kI av), (2, kI m), (3, kI b), (4, .fv 33 [.ep R_Name_Fields [0] v 0]), (18, kI (IntKind.i64.wrap (shrI .u64 (IntKind.u64.wrap (IntKind.i64.wrap (av + b))) 1))), (20, kI q5), (24, kI (IntKind.i64.wrap ((IntKind.i64.wrap ((IntKind.i64.wrap (shrI .u64 (IntKind.u64.wrap (IntKind.i64.wrap (av + b))) 1)) + m)) - q5))), (185, kB ((decide (q5 < m)) && (decide (m < (IntKind.i64.wrap ((IntKind.i64.wrap ((IntKind.i64.wrap (shrI .u64 (IntKind.u64.wrap (IntKind.i64.wrap (av + b))) 1)) + m)) - q5))))))], []⟩ ?_ ?_
 ·
  refine (ro_sp 4 181 (decide (q5 < m)) ⟨[(0, .own (Rp.int .i64) 3 2 [0] data), (1, kI av), (2, kI m), (3, kI b), (4, .fv 33 [.ep R_Name_Fields [0] v 0]), (18, kI (IntKind.i64.wrap (shrI .u64 (IntKind.u64.wrap (IntKind.i64.wrap (av + b))) 1))), (20, kI q5), (24, kI (IntKind.i64.wrap ((IntKind.i64.wrap ((IntKind.i64.wrap (shrI .u64 (IntKind.u64.wrap (IntKind.i64.wrap (av + b))) 1)) + m)) - q5))), (181, kB (decide (q5 < m)))], []⟩ (by kernel_rfl) rfl (fun hc12 => ?_) (fun hc12 => ?_))
  · exact (ro_zb 185 (decide (m < (IntKind.i64.wrap ((IntKind.i64.wrap ((IntKind.i64.wrap (shrI .u64 (IntKind.u64.wrap (IntKind.i64.wrap (av + b))) 1)) + m)) - q5)))) ((decide (q5 < m)) && (decide (m < (IntKind.i64.wrap ((IntKind.i64.wrap ((IntKind.i64.wrap (shrI .u64 (IntKind.u64.wrap (IntKind.i64.wrap (av + b))) 1)) + m)) - q5))))) (by rw [hc12] <;> rfl) (by kernel_rfl) (by kernel_rfl))
  exact (ro_zb 185 false ((decide (q5 < m)) && (decide (m < (IntKind.i64.wrap ((IntKind.i64.wrap ((IntKind.i64.wrap (shrI .u64 (IntKind.u64.wrap (IntKind.i64.wrap (av + b))) 1)) + m)) - q5))))) (by rw [hc12] <;> rfl) (by kernel_rfl) (by kernel_rfl))
 obtain ⟨p2, h_p2, h⟩ := bnd h
 refine ji_join (R := fun e a w => e = .normal ∧ Sx ⟨⟨220, [0]⟩, Xt, false, old⟩ ⟨[(0, .own (Rp.int .i64) 3 2 [0] p2), (1, kI av), (3, kI b), (4, .fv 33 [.ep R_Name_Fields [0] v 0]), (18, kI (IntKind.i64.wrap (shrI .u64 (IntKind.u64.wrap (IntKind.i64.wrap (av + b))) 1))), (20, kI q5), (24, kI (IntKind.i64.wrap ((IntKind.i64.wrap ((IntKind.i64.wrap (shrI .u64 (IntKind.u64.wrap (IntKind.i64.wrap (av + b))) 1)) + m)) - q5)))], []⟩ a w) ?_ ?_
 ·
  replace h := h_p2
  refine ji_start ?_
  rcases ite_some h with ⟨hc13, h⟩ | ⟨hc13, h⟩
  ·
   refine ji_condT rfl hc13 ?_
   obtain ⟨rv7, h_rv7, h⟩ := bnd h
   refine ji_region ⟨[(0, .own (Rp.int .i64) 3 2 [0] rv7), (1, kI av), (3, kI b), (4, .fv 33 [.ep R_Name_Fields [0] v 0]), (18, kI (IntKind.i64.wrap (shrI .u64 (IntKind.u64.wrap (IntKind.i64.wrap (av + b))) 1))), (20, kI q5), (24, kI (IntKind.i64.wrap ((IntKind.i64.wrap ((IntKind.i64.wrap (shrI .u64 (IntKind.u64.wrap (IntKind.i64.wrap (av + b))) 1)) + m)) - q5)))], []⟩ (ro_pk 5 ⟨[(0, .own (Rp.int .i64) 3 2 [0] data), (1, kI av), (3, kI b), (4, .fv 33 [.ep R_Name_Fields [0] v 0]), (18, kI (IntKind.i64.wrap (shrI .u64 (IntKind.u64.wrap (IntKind.i64.wrap (av + b))) 1))), (20, kI q5), (24, kI (IntKind.i64.wrap ((IntKind.i64.wrap ((IntKind.i64.wrap (shrI .u64 (IntKind.u64.wrap (IntKind.i64.wrap (av + b))) 1)) + m)) - q5))), (186, .own (Rp.int .i64) 3 2 [0] data), (187, kI q5), (188, kI m), (189, kI (IntKind.i64.wrap ((IntKind.i64.wrap ((IntKind.i64.wrap (shrI .u64 (IntKind.u64.wrap (IntKind.i64.wrap (av + b))) 1)) + m)) - q5))), (190, .fv 33 [.ep R_Name_Fields [0] v 0])], []⟩ (by kernel_rfl) (ro_turn ⟨[(0, .own (Rp.int .i64) 3 2 [0] rv7), (1, kI av), (3, kI b), (4, .fv 33 [.ep R_Name_Fields [0] v 0]), (18, kI (IntKind.i64.wrap (shrI .u64 (IntKind.u64.wrap (IntKind.i64.wrap (av + b))) 1))), (20, kI q5), (24, kI (IntKind.i64.wrap ((IntKind.i64.wrap ((IntKind.i64.wrap (shrI .u64 (IntKind.u64.wrap (IntKind.i64.wrap (av + b))) 1)) + m)) - q5))), (186, .own (Rp.int .i64) 3 2 [0] rv7), (187, kI q5), (188, kI m), (189, kI (IntKind.i64.wrap ((IntKind.i64.wrap ((IntKind.i64.wrap (shrI .u64 (IntKind.u64.wrap (IntKind.i64.wrap (av + b))) 1)) + m)) - q5))), (190, .fv 33 [.ep R_Name_Fields [0] v 0])], []⟩ (st_call [.own (Rp.int .i64) 3 2 [0] data, kI q5, kI m, kI (IntKind.i64.wrap ((IntKind.i64.wrap ((IntKind.i64.wrap (shrI .u64 (IntKind.u64.wrap (IntKind.i64.wrap (av + b))) 1)) + m)) - q5)), .fv 33 [.ep R_Name_Fields [0] v 0]] [(2, 2)] [0] 15 [] rfl Try.call66 (slices_rotateCmpFunc_int___schema_Sorted_1_ok h_rv7) rfl rfl (by kernel_rfl) rfl rfl rfl) rfl (by kernel_rfl) (by kernel_rfl) ⟨⟨_, rfl, tn_at 0 rfl⟩, ⟨_, rfl, tn_keep rfl⟩, ⟨_, rfl, tn_keep rfl⟩, ⟨_, rfl, tn_keep rfl⟩, ⟨_, rfl, tn_keep rfl⟩, ⟨_, rfl, tn_keep rfl⟩, ⟨_, rfl, tn_keep rfl⟩, ⟨_, rfl, tn_at 0 rfl⟩, ⟨_, rfl, tn_keep rfl⟩, ⟨_, rfl, tn_keep rfl⟩, ⟨_, rfl, tn_keep rfl⟩, ⟨_, rfl, tn_keep rfl⟩, trivial⟩ trivial (ro_z (by kernel_rfl)))) ?_
   obtain rfl := sj h
   exact je_nil (le_z (by kernel_rfl))
  refine ji_condF rfl hc13 ?_
  obtain rfl := sj h
  exact je_nil (le_z (by kernel_rfl))
 refine k_norm ?_
 refine ji_region ⟨[(0, .own (Rp.int .i64) 3 2 [0] p2), (1, kI av), (3, kI b), (4, .fv 33 [.ep R_Name_Fields [0] v 0]), (18, kI (IntKind.i64.wrap (shrI .u64 (IntKind.u64.wrap (IntKind.i64.wrap (av + b))) 1))), (20, kI q5), (24, kI (IntKind.i64.wrap ((IntKind.i64.wrap ((IntKind.i64.wrap (shrI .u64 (IntKind.u64.wrap (IntKind.i64.wrap (av + b))) 1)) + m)) - q5))), (199, kB ((decide (av < q5)) && (decide (q5 < (IntKind.i64.wrap (shrI .u64 (IntKind.u64.wrap (IntKind.i64.wrap (av + b))) 1))))))], []⟩ ?_ ?_
 ·
  refine (ro_sp 4 195 (decide (av < q5)) ⟨[(0, .own (Rp.int .i64) 3 2 [0] p2), (1, kI av), (3, kI b), (4, .fv 33 [.ep R_Name_Fields [0] v 0]), (18, kI (IntKind.i64.wrap (shrI .u64 (IntKind.u64.wrap (IntKind.i64.wrap (av + b))) 1))), (20, kI q5), (24, kI (IntKind.i64.wrap ((IntKind.i64.wrap ((IntKind.i64.wrap (shrI .u64 (IntKind.u64.wrap (IntKind.i64.wrap (av + b))) 1)) + m)) - q5))), (195, kB (decide (av < q5)))], []⟩ (by kernel_rfl) rfl (fun hc14 => ?_) (fun hc14 => ?_))
  · exact (ro_zb 199 (decide (q5 < (IntKind.i64.wrap (shrI .u64 (IntKind.u64.wrap (IntKind.i64.wrap (av + b))) 1)))) ((decide (av < q5)) && (decide (q5 < (IntKind.i64.wrap (shrI .u64 (IntKind.u64.wrap (IntKind.i64.wrap (av + b))) 1))))) (by rw [hc14] <;> rfl) (by kernel_rfl) (by kernel_rfl))
  exact (ro_zb 199 false ((decide (av < q5)) && (decide (q5 < (IntKind.i64.wrap (shrI .u64 (IntKind.u64.wrap (IntKind.i64.wrap (av + b))) 1))))) (by rw [hc14] <;> rfl) (by kernel_rfl) (by kernel_rfl))
 obtain ⟨p3, h_p3, h⟩ := bnd h
 refine ji_join (R := fun e a w => e = .normal ∧ Sx ⟨⟨220, [0]⟩, Xt, false, old⟩ ⟨[(0, .own (Rp.int .i64) 3 2 [0] p3), (3, kI b), (4, .fv 33 [.ep R_Name_Fields [0] v 0]), (18, kI (IntKind.i64.wrap (shrI .u64 (IntKind.u64.wrap (IntKind.i64.wrap (av + b))) 1))), (24, kI (IntKind.i64.wrap ((IntKind.i64.wrap ((IntKind.i64.wrap (shrI .u64 (IntKind.u64.wrap (IntKind.i64.wrap (av + b))) 1)) + m)) - q5)))], []⟩ a w) ?_ ?_
 ·
  replace h := h_p3
  refine ji_start ?_
  rcases ite_some h with ⟨hc15, h⟩ | ⟨hc15, h⟩
  ·
   refine ji_condT rfl hc15 ?_
   obtain ⟨rv9, h_rv9, h⟩ := bnd h
   refine ji_region ⟨[(0, .own (Rp.int .i64) 3 2 [0] rv9), (3, kI b), (4, .fv 33 [.ep R_Name_Fields [0] v 0]), (18, kI (IntKind.i64.wrap (shrI .u64 (IntKind.u64.wrap (IntKind.i64.wrap (av + b))) 1))), (24, kI (IntKind.i64.wrap ((IntKind.i64.wrap ((IntKind.i64.wrap (shrI .u64 (IntKind.u64.wrap (IntKind.i64.wrap (av + b))) 1)) + m)) - q5)))], []⟩ (ro_pk 5 ⟨[(0, .own (Rp.int .i64) 3 2 [0] p2), (3, kI b), (4, .fv 33 [.ep R_Name_Fields [0] v 0]), (18, kI (IntKind.i64.wrap (shrI .u64 (IntKind.u64.wrap (IntKind.i64.wrap (av + b))) 1))), (24, kI (IntKind.i64.wrap ((IntKind.i64.wrap ((IntKind.i64.wrap (shrI .u64 (IntKind.u64.wrap (IntKind.i64.wrap (av + b))) 1)) + m)) - q5))), (200, .own (Rp.int .i64) 3 2 [0] p2), (201, kI av), (202, kI q5), (203, kI (IntKind.i64.wrap (shrI .u64 (IntKind.u64.wrap (IntKind.i64.wrap (av + b))) 1))), (204, .fv 33 [.ep R_Name_Fields [0] v 0])], []⟩ (by kernel_rfl) (ro_turn ⟨[(0, .own (Rp.int .i64) 3 2 [0] rv9), (3, kI b), (4, .fv 33 [.ep R_Name_Fields [0] v 0]), (18, kI (IntKind.i64.wrap (shrI .u64 (IntKind.u64.wrap (IntKind.i64.wrap (av + b))) 1))), (24, kI (IntKind.i64.wrap ((IntKind.i64.wrap ((IntKind.i64.wrap (shrI .u64 (IntKind.u64.wrap (IntKind.i64.wrap (av + b))) 1)) + m)) - q5))), (200, .own (Rp.int .i64) 3 2 [0] rv9), (201, kI av), (202, kI q5), (203, kI (IntKind.i64.wrap (shrI .u64 (IntKind.u64.wrap (IntKind.i64.wrap (av + b))) 1))), (204, .fv 33 [.ep R_Name_Fields [0] v 0])], []⟩ (st_call [.own (Rp.int .i64) 3 2 [0] p2, kI av, kI q5, kI (IntKind.i64.wrap (shrI .u64 (IntKind.u64.wrap (IntKind.i64.wrap (av + b))) 1)), .fv 33 [.ep R_Name_Fields [0] v 0]] [(2, 2)] [0] 17 [] rfl Try.call61 (hrec_slices_symMergeCmpFunc_int___schema_Sorted_1 h_rv9) rfl rfl (by kernel_rfl) rfl rfl rfl) rfl (by kernel_rfl) (by kernel_rfl) ⟨⟨_, rfl, tn_at 0 rfl⟩, ⟨_, rfl, tn_keep rfl⟩, ⟨_, rfl, tn_keep rfl⟩, ⟨_, rfl, tn_keep rfl⟩, ⟨_, rfl, tn_keep rfl⟩, ⟨_, rfl, tn_at 0 rfl⟩, ⟨_, rfl, tn_keep rfl⟩, ⟨_, rfl, tn_keep rfl⟩, ⟨_, rfl, tn_keep rfl⟩, ⟨_, rfl, tn_keep rfl⟩, trivial⟩ trivial (ro_z (by kernel_rfl)))) ?_
   obtain rfl := sj h
   exact je_nil (le_z (by kernel_rfl))
  refine ji_condF rfl hc15 ?_
  obtain rfl := sj h
  exact je_nil (le_z (by kernel_rfl))
 refine k_norm ?_
 refine ji_region ⟨[(0, .own (Rp.int .i64) 3 2 [0] p3), (3, kI b), (4, .fv 33 [.ep R_Name_Fields [0] v 0]), (18, kI (IntKind.i64.wrap (shrI .u64 (IntKind.u64.wrap (IntKind.i64.wrap (av + b))) 1))), (24, kI (IntKind.i64.wrap ((IntKind.i64.wrap ((IntKind.i64.wrap (shrI .u64 (IntKind.u64.wrap (IntKind.i64.wrap (av + b))) 1)) + m)) - q5))), (213, kB ((decide ((IntKind.i64.wrap (shrI .u64 (IntKind.u64.wrap (IntKind.i64.wrap (av + b))) 1)) < (IntKind.i64.wrap ((IntKind.i64.wrap ((IntKind.i64.wrap (shrI .u64 (IntKind.u64.wrap (IntKind.i64.wrap (av + b))) 1)) + m)) - q5)))) && (decide ((IntKind.i64.wrap ((IntKind.i64.wrap ((IntKind.i64.wrap (shrI .u64 (IntKind.u64.wrap (IntKind.i64.wrap (av + b))) 1)) + m)) - q5)) < b))))], []⟩ ?_ ?_
 ·
  refine (ro_sp 4 209 (decide ((IntKind.i64.wrap (shrI .u64 (IntKind.u64.wrap (IntKind.i64.wrap (av + b))) 1)) < (IntKind.i64.wrap ((IntKind.i64.wrap ((IntKind.i64.wrap (shrI .u64 (IntKind.u64.wrap (IntKind.i64.wrap (av + b))) 1)) + m)) - q5)))) ⟨[(0, .own (Rp.int .i64) 3 2 [0] p3), (3, kI b), (4, .fv 33 [.ep R_Name_Fields [0] v 0]), (18, kI (IntKind.i64.wrap (shrI .u64 (IntKind.u64.wrap (IntKind.i64.wrap (av + b))) 1))), (24, kI (IntKind.i64.wrap ((IntKind.i64.wrap ((IntKind.i64.wrap (shrI .u64 (IntKind.u64.wrap (IntKind.i64.wrap (av + b))) 1)) + m)) - q5))), (209, kB (decide ((IntKind.i64.wrap (shrI .u64 (IntKind.u64.wrap (IntKind.i64.wrap (av + b))) 1)) < (IntKind.i64.wrap ((IntKind.i64.wrap ((IntKind.i64.wrap (shrI .u64 (IntKind.u64.wrap (IntKind.i64.wrap (av + b))) 1)) + m)) - q5)))))], []⟩ (by kernel_rfl) rfl (fun hc16 => ?_) (fun hc16 => ?_))
  · exact (ro_zb 213 (decide ((IntKind.i64.wrap ((IntKind.i64.wrap ((IntKind.i64.wrap (shrI .u64 (IntKind.u64.wrap (IntKind.i64.wrap (av + b))) 1)) + m)) - q5)) < b)) ((decide ((IntKind.i64.wrap (shrI .u64 (IntKind.u64.wrap (IntKind.i64.wrap (av + b))) 1)) < (IntKind.i64.wrap ((IntKind.i64.wrap ((IntKind.i64.wrap (shrI .u64 (IntKind.u64.wrap (IntKind.i64.wrap (av + b))) 1)) + m)) - q5)))) && (decide ((IntKind.i64.wrap ((IntKind.i64.wrap ((IntKind.i64.wrap (shrI .u64 (IntKind.u64.wrap (IntKind.i64.wrap (av + b))) 1)) + m)) - q5)) < b))) (by rw [hc16] <;> rfl) (by kernel_rfl) (by kernel_rfl))
  exact (ro_zb 213 false ((decide ((IntKind.i64.wrap (shrI .u64 (IntKind.u64.wrap (IntKind.i64.wrap (av + b))) 1)) < (IntKind.i64.wrap ((IntKind.i64.wrap ((IntKind.i64.wrap (shrI .u64 (IntKind.u64.wrap (IntKind.i64.wrap (av + b))) 1)) + m)) - q5)))) && (decide ((IntKind.i64.wrap ((IntKind.i64.wrap ((IntKind.i64.wrap (shrI .u64 (IntKind.u64.wrap (IntKind.i64.wrap (av + b))) 1)) + m)) - q5)) < b))) (by rw [hc16] <;> rfl) (by kernel_rfl) (by kernel_rfl))
 rcases ite_some h with ⟨hc17, h⟩ | ⟨hc17, h⟩
 ·
  refine ji_condT rfl hc17 ?_
  obtain ⟨rv11, h_rv11, h⟩ := bnd h
  refine ji_region ⟨[(0, .own (Rp.int .i64) 3 2 [0] rv11)], []⟩ (ro_pk 5 ⟨[(0, .own (Rp.int .i64) 3 2 [0] p3), (214, .own (Rp.int .i64) 3 2 [0] p3), (215, kI (IntKind.i64.wrap (shrI .u64 (IntKind.u64.wrap (IntKind.i64.wrap (av + b))) 1))), (216, kI (IntKind.i64.wrap ((IntKind.i64.wrap ((IntKind.i64.wrap (shrI .u64 (IntKind.u64.wrap (IntKind.i64.wrap (av + b))) 1)) + m)) - q5))), (217, kI b), (218, .fv 33 [.ep R_Name_Fields [0] v 0])], []⟩ (by kernel_rfl) (ro_turn ⟨[(0, .own (Rp.int .i64) 3 2 [0] rv11), (214, .own (Rp.int .i64) 3 2 [0] rv11), (215, kI (IntKind.i64.wrap (shrI .u64 (IntKind.u64.wrap (IntKind.i64.wrap (av + b))) 1))), (216, kI (IntKind.i64.wrap ((IntKind.i64.wrap ((IntKind.i64.wrap (shrI .u64 (IntKind.u64.wrap (IntKind.i64.wrap (av + b))) 1)) + m)) - q5))), (217, kI b), (218, .fv 33 [.ep R_Name_Fields [0] v 0])], []⟩ (st_call [.own (Rp.int .i64) 3 2 [0] p3, kI (IntKind.i64.wrap (shrI .u64 (IntKind.u64.wrap (IntKind.i64.wrap (av + b))) 1)), kI (IntKind.i64.wrap ((IntKind.i64.wrap ((IntKind.i64.wrap (shrI .u64 (IntKind.u64.wrap (IntKind.i64.wrap (av + b))) 1)) + m)) - q5)), kI b, .fv 33 [.ep R_Name_Fields [0] v 0]] [(2, 2)] [0] 19 [] rfl Try.call61 (hrec_slices_symMergeCmpFunc_int___schema_Sorted_1 h_rv11) rfl rfl (by kernel_rfl) rfl rfl rfl) rfl (by kernel_rfl) (by kernel_rfl) ⟨⟨_, rfl, tn_at 0 rfl⟩, ⟨_, rfl, tn_at 0 rfl⟩, ⟨_, rfl, tn_keep rfl⟩, ⟨_, rfl, tn_keep rfl⟩, ⟨_, rfl, tn_keep rfl⟩, ⟨_, rfl, tn_keep rfl⟩, trivial⟩ trivial (ro_z (by kernel_rfl)))) ?_
  obtain rfl := sj h
  exact je_wn (le_z (by kernel_rfl))
 refine ji_condF rfl hc17 ?_
 obtain rfl := sj h
 exact je_wn (le_z (by kernel_rfl))
theorem slices_symMergeCmpFunc_int___schema_Sorted_1_ok {fuel : Nat} {data : (List Int)} {av : Int} {m : Int} {b : Int} {v : T_Name_Fields} {r : (List Int)} (h : slices_symMergeCmpFunc_int___schema_Sorted_1 fuel data av m b v = some r) : FnOkW Try.prog 61 [.own (Rp.int .i64) 3 2 [0] data, kI av, kI m, kI b, .fv 33 [.ep R_Name_Fields [0] v 0]] [] [.own (Rp.int .i64) 3 2 [0] r, .any, .any, .any, .any] := by
  induction fuel generalizing data av m b v r with
  | zero => exact absurd h nofun
  | succ fuel ih => exact slices_symMergeCmpFunc_int___schema_Sorted_1_fok (fun hh => ih hh) h
end Go.Proofs.Ytnchbppkppbflaa
