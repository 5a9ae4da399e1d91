/-
  The Go functions do what the plain functions say. No condition.
-/
import Derived.Test.YtdpolccecmaajaaG2
namespace Go.Proofs.Ytdpolccecmaajaa
open Go Go.RowKit
set_option linter.unusedVariables false
set_option maxRecDepth 100000
theorem tag_Read_ok {b : (List UInt8)} {r : (T_Number_Wire × Int × Int)} (h : tag_Read b = some r) : FnOk Try.prog 30 [.sl Rp.byte [0] b] [.rc R_Number_Wire [] r.1, kI r.2.1, k8 r.2.2] := by
 refine fn_intro' (E := ⟨[(2, .ptr 2 0), (3, kI r.2.1), (4, k8 r.2.2)], [⟨2, 79, [kI r.1.Number, kI r.1.Wire]⟩]⟩) 35 Try.func30 rfl rfl rfl ⟨⟨_, _, rfl, rfl, rfl, rfl, ⟨Try.isAgg79, Try.sizeOf79⟩⟩, rfl, rfl, trivial⟩ (fun Xt => ?_)
 refine ji_start ?_
 refine ji_le (E' := ⟨[(0, .sl Rp.byte [0] b)], []⟩) (fun _ _ _ hs => hs) ?_
 unfold tag_Read at h
 refine ji_region ⟨[(0, .sl Rp.byte [0] b), (2, .ptr 12 0)], [⟨12, 79, [kI 0, kI 0]⟩]⟩ (ro_oz 0 [] rfl (lo_alloc 12 [kI 0, kI 0] rfl Try.zeroValue79 rfl) rfl (by kernel_rfl)) ?_
 obtain ⟨rv, h_rv, h⟩ := bnd h
 refine ji_region ⟨[(2, .ptr 12 0), (5, kU rv.1), (6, kI rv.2.1), (7, k8 rv.2.2)], [⟨12, 79, [kI 0, kI 0]⟩]⟩ (ro_oz 1 [.sl Rp.byte [0] b] rfl (lo_call [.sl Rp.byte [0] b] [0] 11 rfl Try.call37 (varint_Read_ok h_rv) rfl rfl rfl rfl rfl) rfl (by kernel_rfl)) ?_
 refine ji_rz ⟨[(2, .ptr 12 0), (5, kU rv.1), (6, kI rv.2.1), (7, k8 rv.2.2), (17, kB (rv.2.2 != 0))], [⟨12, 79, [kI 0, kI 0]⟩]⟩ (by kernel_rfl) ?_
 rcases ite_some h with ⟨hc1, h⟩ | ⟨hc1, h⟩
 ·
  refine ji_condT rfl hc1 ?_
  refine ji_region ⟨[(2, .ptr 12 0), (3, kI 0), (4, k8 rv.2.2)], [⟨12, 79, [kI 0, kI 0]⟩]⟩ (ro_o 0 [] ⟨[(2, .ptr 12 0), (7, k8 rv.2.2), (18, .rc R_Number_Wire [] (⟨0, 0⟩ : T_Number_Wire))], [⟨12, 79, [kI 0, kI 0]⟩]⟩ rfl (lo_build (r := R_Number_Wire) [] [] (⟨0, 0⟩ : T_Number_Wire) rfl stt79 rfl rfl) rfl (by kernel_rfl) (ro_obz 1 [.ptr 12 0, .rc R_Number_Wire [] (⟨0, 0⟩ : T_Number_Wire)] [⟨12, 79, [kI 0, kI 0]⟩] rfl (lo_str (r := R_Number_Wire) (b := ⟨12, 79, [kI 0, kI 0]⟩) (off := 0) [kI 0, kI 0] rfl Try.sizeOf79 rfl rfl rfl rfl) rfl rfl (by kernel_rfl))) ?_
  obtain rfl := sj h
  refine je_ret ?_
  refine le_px ⟨[(2, .ptr 12 0), (3, kI 0), (4, k8 rv.2.2)], [⟨12, 79, [kI 0, kI 0]⟩]⟩ (by kernel_rfl) (le_rn 12 2 rfl (le_px ⟨[(2, .ptr 2 0), (3, kI 0), (4, k8 rv.2.2)], [⟨2, 79, [kI 0, kI 0]⟩]⟩ (by kernel_rfl) ?_))
  exact le_z (by kernel_rfl)
 refine ji_condF rfl hc1 ?_
 refine ji_region ⟨[(2, .ptr 12 0), (5, kU rv.1), (6, kI rv.2.1), (8, kU (if (536870912 : Int) < (shrI .u64 rv.1 3) then 536870912 else (shrI .u64 rv.1 3)))], [⟨12, 79, [kI 0, kI 0]⟩]⟩ (ro_oz 1 [kU rv.1, kU 3] rfl (lo_shr rfl rfl) rfl (by kernel_rfl)) ?_
 refine ji_region ⟨[(2, .ptr 12 0), (6, kI rv.2.1), (9, .ptr 13 0)], [⟨12, 79, [kI 0, kI 0]⟩, ⟨13, 79, [kI (IntKind.i64.wrap (if (536870912 : Int) < (shrI .u64 rv.1 3) then 536870912 else (shrI .u64 rv.1 3))), kI (IntKind.i64.wrap (andI .u64 rv.1 7))]⟩]⟩ (ro_o 5 [kI (IntKind.i64.wrap (if (536870912 : Int) < (shrI .u64 rv.1 3) then 536870912 else (shrI .u64 rv.1 3))), kI (IntKind.i64.wrap (andI .u64 rv.1 7))] ⟨[(2, .ptr 12 0), (6, kI rv.2.1), (28, .rc R_Number_Wire [] (⟨(IntKind.i64.wrap (if (536870912 : Int) < (shrI .u64 rv.1 3) then 536870912 else (shrI .u64 rv.1 3))), (IntKind.i64.wrap (andI .u64 rv.1 7))⟩ : T_Number_Wire))], [⟨12, 79, [kI 0, kI 0]⟩]⟩ rfl (lo_build (r := R_Number_Wire) [kI (IntKind.i64.wrap (if (536870912 : Int) < (shrI .u64 rv.1 3) then 536870912 else (shrI .u64 rv.1 3))), kI (IntKind.i64.wrap (andI .u64 rv.1 7))] [] (⟨(IntKind.i64.wrap (if (536870912 : Int) < (shrI .u64 rv.1 3) then 536870912 else (shrI .u64 rv.1 3))), (IntKind.i64.wrap (andI .u64 rv.1 7))⟩ : T_Number_Wire) rfl stt79 rfl rfl) rfl (by kernel_rfl) (ro_o 0 [] ⟨[(2, .ptr 12 0), (6, kI rv.2.1), (9, .ptr 13 0), (28, .rc R_Number_Wire [] (⟨(IntKind.i64.wrap (if (536870912 : Int) < (shrI .u64 rv.1 3) then 536870912 else (shrI .u64 rv.1 3))), (IntKind.i64.wrap (andI .u64 rv.1 7))⟩ : T_Number_Wire))], [⟨12, 79, [kI 0, kI 0]⟩, ⟨13, 79, [kI 0, kI 0]⟩]⟩ rfl (lo_alloc 13 [kI 0, kI 0] rfl Try.zeroValue79 rfl) rfl (by kernel_rfl) (ro_obz 0 [.ptr 13 0, .rc R_Number_Wire [] (⟨(IntKind.i64.wrap (if (536870912 : Int) < (shrI .u64 rv.1 3) then 536870912 else (shrI .u64 rv.1 3))), (IntKind.i64.wrap (andI .u64 rv.1 7))⟩ : T_Number_Wire)] [⟨13, 79, [kI 0, kI 0]⟩] rfl (lo_str (r := R_Number_Wire) (b := ⟨13, 79, [kI 0, kI 0]⟩) (off := 0) [kI (IntKind.i64.wrap (if (536870912 : Int) < (shrI .u64 rv.1 3) then 536870912 else (shrI .u64 rv.1 3))), kI (IntKind.i64.wrap (andI .u64 rv.1 7))] rfl Try.sizeOf79 rfl rfl rfl rfl) rfl rfl (by kernel_rfl)))) ?_
 obtain ⟨rv2, h_rv2, h⟩ := bnd h
 refine ji_region ⟨[(2, .ptr 12 0), (6, kI rv.2.1), (9, .ptr 13 0), (31, kB (!rv2))], [⟨12, 79, [kI 0, kI 0]⟩, ⟨13, 79, [kI (IntKind.i64.wrap (if (536870912 : Int) < (shrI .u64 rv.1 3) then 536870912 else (shrI .u64 rv.1 3))), kI (IntKind.i64.wrap (andI .u64 rv.1 7))]⟩]⟩ (ro_ob 0 [.ptr 13 0] [⟨13, 79, [kI (IntKind.i64.wrap (if (536870912 : Int) < (shrI .u64 rv.1 3) then 536870912 else (shrI .u64 rv.1 3))), kI (IntKind.i64.wrap (andI .u64 rv.1 7))]⟩] ⟨[(2, .ptr 12 0), (6, kI rv.2.1), (9, .ptr 13 0), (29, .rc R_Number_Wire [] (⟨(IntKind.i64.wrap (if (536870912 : Int) < (shrI .u64 rv.1 3) then 536870912 else (shrI .u64 rv.1 3))), (IntKind.i64.wrap (andI .u64 rv.1 7))⟩ : T_Number_Wire))], [⟨12, 79, [kI 0, kI 0]⟩, ⟨13, 79, [kI (IntKind.i64.wrap (if (536870912 : Int) < (shrI .u64 rv.1 3) then 536870912 else (shrI .u64 rv.1 3))), kI (IntKind.i64.wrap (andI .u64 rv.1 7))]⟩]⟩ rfl (lo_ldb (r := R_Number_Wire) (⟨(IntKind.i64.wrap (if (536870912 : Int) < (shrI .u64 rv.1 3) then 536870912 else (shrI .u64 rv.1 3))), (IntKind.i64.wrap (andI .u64 rv.1 7))⟩ : T_Number_Wire) [] rfl ⟨Try.isAgg79, Try.sizeOf79⟩ rfl rfl) rfl rfl (by kernel_rfl) (ro_oz 0 [.rc R_Number_Wire [] (⟨(IntKind.i64.wrap (if (536870912 : Int) < (shrI .u64 rv.1 3) then 536870912 else (shrI .u64 rv.1 3))), (IntKind.i64.wrap (andI .u64 rv.1 7))⟩ : T_Number_Wire)] rfl (lo_call [.rc R_Number_Wire [] (⟨(IntKind.i64.wrap (if (536870912 : Int) < (shrI .u64 rv.1 3) then 536870912 else (shrI .u64 rv.1 3))), (IntKind.i64.wrap (andI .u64 rv.1 7))⟩ : T_Number_Wire)] [1] 12 rfl Try.call38 (tag_Right_ok h_rv2) rfl rfl rfl rfl rfl) rfl (by kernel_rfl))) ?_
 rcases ite_some h with ⟨hc2, h⟩ | ⟨hc2, h⟩
 ·
  refine ji_condT rfl hc2 ?_
  refine ji_region ⟨[(2, .ptr 12 0), (3, kI 0), (4, k8 5)], [⟨12, 79, [kI 0, kI 0]⟩]⟩ (ro_o 0 [] ⟨[(2, .ptr 12 0), (32, .rc R_Number_Wire [] (⟨0, 0⟩ : T_Number_Wire))], [⟨12, 79, [kI 0, kI 0]⟩]⟩ rfl (lo_build (r := R_Number_Wire) [] [] (⟨0, 0⟩ : T_Number_Wire) rfl stt79 rfl rfl) rfl (by kernel_rfl) (ro_obz 0 [.ptr 12 0, .rc R_Number_Wire [] (⟨0, 0⟩ : T_Number_Wire)] [⟨12, 79, [kI 0, kI 0]⟩] rfl (lo_str (r := R_Number_Wire) (b := ⟨12, 79, [kI 0, kI 0]⟩) (off := 0) [kI 0, kI 0] rfl Try.sizeOf79 rfl rfl rfl rfl) rfl rfl (by kernel_rfl))) ?_
  obtain rfl := sj h
  refine je_ret ?_
  refine le_px ⟨[(2, .ptr 12 0), (3, kI 0), (4, k8 5)], [⟨12, 79, [kI 0, kI 0]⟩]⟩ (by kernel_rfl) (le_rn 12 2 rfl (le_px ⟨[(2, .ptr 2 0), (3, kI 0), (4, k8 5)], [⟨2, 79, [kI 0, kI 0]⟩]⟩ (by kernel_rfl) ?_))
  exact le_z (by kernel_rfl)
 refine ji_condF rfl hc2 ?_
 refine ji_region ⟨[(2, .ptr 12 0), (3, kI rv.2.1), (4, k8 0)], [⟨12, 79, [kI (IntKind.i64.wrap (if (536870912 : Int) < (shrI .u64 rv.1 3) then 536870912 else (shrI .u64 rv.1 3))), kI (IntKind.i64.wrap (andI .u64 rv.1 7))]⟩]⟩ (ro_ob 0 [.ptr 13 0] [⟨13, 79, [kI (IntKind.i64.wrap (if (536870912 : Int) < (shrI .u64 rv.1 3) then 536870912 else (shrI .u64 rv.1 3))), kI (IntKind.i64.wrap (andI .u64 rv.1 7))]⟩] ⟨[(2, .ptr 12 0), (6, kI rv.2.1), (33, .rc R_Number_Wire [] (⟨(IntKind.i64.wrap (if (536870912 : Int) < (shrI .u64 rv.1 3) then 536870912 else (shrI .u64 rv.1 3))), (IntKind.i64.wrap (andI .u64 rv.1 7))⟩ : T_Number_Wire))], [⟨12, 79, [kI 0, kI 0]⟩]⟩ rfl (lo_ldb (r := R_Number_Wire) (⟨(IntKind.i64.wrap (if (536870912 : Int) < (shrI .u64 rv.1 3) then 536870912 else (shrI .u64 rv.1 3))), (IntKind.i64.wrap (andI .u64 rv.1 7))⟩ : T_Number_Wire) [] rfl ⟨Try.isAgg79, Try.sizeOf79⟩ rfl rfl) rfl rfl (by kernel_rfl) (ro_obz 1 [.ptr 12 0, .rc R_Number_Wire [] (⟨(IntKind.i64.wrap (if (536870912 : Int) < (shrI .u64 rv.1 3) then 536870912 else (shrI .u64 rv.1 3))), (IntKind.i64.wrap (andI .u64 rv.1 7))⟩ : T_Number_Wire)] [⟨12, 79, [kI 0, kI 0]⟩] rfl (lo_str (r := R_Number_Wire) (b := ⟨12, 79, [kI 0, kI 0]⟩) (off := 0) [kI (IntKind.i64.wrap (if (536870912 : Int) < (shrI .u64 rv.1 3) then 536870912 else (shrI .u64 rv.1 3))), kI (IntKind.i64.wrap (andI .u64 rv.1 7))] rfl Try.sizeOf79 rfl rfl rfl rfl) rfl rfl (by kernel_rfl))) ?_
 obtain rfl := sj h
 refine je_ret ?_
 refine le_px ⟨[(2, .ptr 12 0), (3, kI rv.2.1), (4, k8 0)], [⟨12, 79, [kI (IntKind.i64.wrap (if (536870912 : Int) < (shrI .u64 rv.1 3) then 536870912 else (shrI .u64 rv.1 3))), kI (IntKind.i64.wrap (andI .u64 rv.1 7))]⟩]⟩ (by kernel_rfl) (le_rn 12 2 rfl (le_px ⟨[(2, .ptr 2 0), (3, kI rv.2.1), (4, k8 0)], [⟨2, 79, [kI (IntKind.i64.wrap (if (536870912 : Int) < (shrI .u64 rv.1 3) then 536870912 else (shrI .u64 rv.1 3))), kI (IntKind.i64.wrap (andI .u64 rv.1 7))]⟩]⟩ (by kernel_rfl) ?_))
 exact le_z (by kernel_rfl)
theorem record_span_ok {wire : Int} {b : (List UInt8)} {r : (Int × Int × Int)} (h : record_span wire b = some r) : FnOk Try.prog 31 [kI wire, .sl Rp.byte [0] b] [kI r.1, kI r.2.1, k8 r.2.2] := by
 refine fn_intro' (E := ⟨[(4, kI r.1), (5, kI r.2.1), (6, k8 r.2.2)], []⟩) 45 Try.func31 rfl rfl rfl ⟨rfl, rfl, rfl, trivial⟩ (fun Xt => ?_)
 refine ji_start ?_
 refine ji_le (E' := ⟨[(0, kI wire), (1, .sl Rp.byte [0] b)], []⟩) (fun _ _ _ hs => hs) ?_
 unfold record_span at h
 refine ji_rz ⟨[(0, kI wire), (1, .sl Rp.byte [0] b), (4, kI 0), (6, k8 0)], []⟩ (by kernel_rfl) ?_
 refine ji_rz ⟨[(0, kI wire), (1, .sl Rp.byte [0] b), (4, kI 0), (6, k8 0), (7, kU 0)], []⟩ (by kernel_rfl) ?_
 refine ji_rz ⟨[(1, .sl Rp.byte [0] b), (4, kI 0), (6, k8 0), (7, kU 0), (8, kI wire)], []⟩ (by kernel_rfl) ?_
 refine ji_block ?_
 refine ji_rz ⟨[(1, .sl Rp.byte [0] b), (4, kI 0), (6, k8 0), (7, kU 0), (8, kI wire), (9, kB (wire == 0))], []⟩ (by kernel_rfl) ?_
 rcases ite_some h with ⟨hc1, h⟩ | ⟨hc1, h⟩
 ·
  refine ji_condT rfl hc1 ?_
  obtain ⟨rv, h_rv, h⟩ := bnd h
  refine ji_region ⟨[(5, kI rv.1), (6, k8 rv.2)], []⟩ (ro_oz 1 [.sl Rp.byte [0] b] rfl (lo_call [.sl Rp.byte [0] b] [0] 9 rfl Try.call39 (varint_Skip_ok h_rv) rfl rfl rfl rfl rfl) rfl (by kernel_rfl)) ?_
  refine ji_rz ⟨[(4, kI 0), (5, kI rv.1), (6, k8 rv.2)], []⟩ (by kernel_rfl) ?_
  obtain rfl := sj h
  exact je_ret (le_z (by kernel_rfl))
 refine ji_condF rfl hc1 ?_
 refine ji_rz ⟨[(1, .sl Rp.byte [0] b), (4, kI 0), (6, k8 0), (7, kU 0), (8, kI wire), (18, kB (wire == 1))], []⟩ (by kernel_rfl) ?_
 obtain ⟨p, h_p, h⟩ := bnd h
 refine ji_join (R := fun e a w => e = .normal ∧ Sx ⟨⟨45, []⟩, Xt, false, #[]⟩ ⟨[(1, .sl Rp.byte [0] b), (4, kI p.1), (6, k8 p.2.1), (7, kU p.2.2)], []⟩ a w) ?_ ?_
 ·
  replace h := h_p
  refine ji_start ?_
  rcases ite_some h with ⟨hc2, h⟩ | ⟨hc2, h⟩
  ·
   refine ji_condT rfl hc2 ?_
   refine ji_rz ⟨[(1, .sl Rp.byte [0] b), (4, kI 0), (6, k8 0), (7, kU 8)], []⟩ (by kernel_rfl) ?_
   obtain rfl := sj h
   exact je_nil (le_z (by kernel_rfl))
  refine ji_condF rfl hc2 ?_
  refine ji_rz ⟨[(1, .sl Rp.byte [0] b), (4, kI 0), (6, k8 0), (7, kU 0), (8, kI wire), (20, kB (wire == 5))], []⟩ (by kernel_rfl) ?_
  rcases ite_some h with ⟨hc3, h⟩ | ⟨hc3, h⟩
  ·
   refine ji_condT rfl hc3 ?_
   refine ji_rz ⟨[(1, .sl Rp.byte [0] b), (4, kI 0), (6, k8 0), (7, kU 4)], []⟩ (by kernel_rfl) ?_
   obtain rfl := sj h
   exact je_nil (le_z (by kernel_rfl))
  refine ji_condF rfl hc3 ?_
  refine ji_rz ⟨[(1, .sl Rp.byte [0] b), (4, kI 0), (6, k8 0), (7, kU 0), (22, kB (wire == 2))], []⟩ (by kernel_rfl) ?_
  rcases ite_some h with ⟨hc4, h⟩ | ⟨hc4, h⟩
  ·
   refine ji_condT rfl hc4 ?_
   obtain ⟨rv2, h_rv2, h⟩ := bnd h
   refine ji_region ⟨[(1, .sl Rp.byte [0] b), (4, kI rv2.2.1), (6, k8 rv2.2.2), (7, kU rv2.1)], []⟩ (ro_oz 1 [.sl Rp.byte [0] b] rfl (lo_call [.sl Rp.byte [0] b] [0] 9 rfl Try.call37 (varint_Read_ok h_rv2) rfl rfl rfl rfl rfl) rfl (by kernel_rfl)) ?_
   obtain rfl := sj h
   exact je_nil (le_z (by kernel_rfl))
  refine ji_condF rfl hc4 ?_
  obtain rfl := sj h
  exact je_nil (le_z (by kernel_rfl))
 refine k_norm ?_
 refine ji_end ?_
 refine ji_rz ⟨[(1, .sl Rp.byte [0] b), (4, kI p.1), (6, k8 p.2.1), (7, kU p.2.2), (31, kB (p.2.1 != 0))], []⟩ (by kernel_rfl) ?_
 rcases ite_some h with ⟨hc5, h⟩ | ⟨hc5, h⟩
 ·
  refine ji_condT rfl hc5 ?_
  refine ji_rz ⟨[(4, kI 0), (5, kI 0), (6, k8 p.2.1)], []⟩ (by kernel_rfl) ?_
  obtain rfl := sj h
  exact je_ret (le_z (by kernel_rfl))
 refine ji_condF rfl hc5 ?_
 refine ji_rz ⟨[(4, kI p.1), (7, kU p.2.2), (39, kB (decide (p.2.2 > (IntKind.u64.wrap (IntKind.i64.wrap ((b.length : Int) - p.1))))))], []⟩ (by kernel_rfl) ?_
 rcases ite_some h with ⟨hc6, h⟩ | ⟨hc6, h⟩
 ·
  refine ji_condT rfl hc6 ?_
  refine ji_rz ⟨[(4, kI 0), (5, kI 0), (6, k8 3)], []⟩ (by kernel_rfl) ?_
  obtain rfl := sj h
  exact je_ret (le_z (by kernel_rfl))
 refine ji_condF rfl hc6 ?_
 refine ji_rz ⟨[(4, kI p.1), (5, kI (IntKind.i64.wrap (p.1 + (IntKind.i64.wrap p.2.2)))), (6, k8 0)], []⟩ (by kernel_rfl) ?_
 obtain rfl := sj h
 exact je_ret (le_z (by kernel_rfl))
theorem view_first_ok {m : T_Name_Fields} {number : Int} {r : Int} (h : view_first m number = some r) : FnOk Try.prog 32 [.rc R_Name_Fields [0] m, kI number] [kI r] := by
 refine fn_intro' (E := ⟨[(4, kI r)], []⟩) 9 Try.func32 rfl rfl rfl ⟨rfl, trivial⟩ (fun Xt => ?_)
 refine ji_start ?_
 refine ji_le (E' := ⟨[(0, .rc R_Name_Fields [0] m), (1, kI number)], []⟩) (fun _ _ _ hs => hs) ?_
 unfold view_first at h
 refine ji_region ⟨[(2, .ptr 11 0), (3, .ptr 904100 0)], [⟨11, 24, [kS m.Name, .sl R_Name_Number_Kind_Repeated_Packed_Of [0] m.Fields]⟩, ⟨904100, 3, [kI number]⟩]⟩ (ro_o 0 [.rc R_Name_Fields [0] m] ⟨[(1, kI number), (2, .ptr 11 0)], [⟨11, 24, [kS m.Name, .sl R_Name_Number_Kind_Repeated_Packed_Of [0] m.Fields]⟩]⟩ rfl (lo_box 11 [kS m.Name, .sl R_Name_Number_Kind_Repeated_Packed_Of [0] m.Fields] [0] rfl rfl rfl rfl rfl) rfl (by kernel_rfl) (ro_oz 0 [kI number] rfl (lo_box 904100 [kI number] [] rfl rfl rfl rfl rfl) rfl (by kernel_rfl))) ?_
 obtain ⟨rv, h_rv, h⟩ := bnd h
 refine ji_region ⟨[(4, kI rv)], []⟩ (ro_ob 2 [.ptr 904100 0] [⟨904100, 3, [kI number]⟩] ⟨[(6, .sl R_Name_Number_Kind_Repeated_Packed_Of [0] m.Fields), (7, .fv 41 [.ep (Rp.int .i64) [904100] number 0])], []⟩ rfl (lo_mkcl (g := 41) [.tmp 3] [⟨904100, 3, [kI number]⟩] [.ep (Rp.int .i64) [904100] number 0] rfl ⟨⟨rfl, rfl, rfl⟩, trivial⟩ rfl) rfl rfl (by kernel_rfl) (ro_oz 0 [.sl R_Name_Number_Kind_Repeated_Packed_Of [0] m.Fields, .fv 41 [.ep (Rp.int .i64) [904100] number 0]] rfl (lo_call [.sl R_Name_Number_Kind_Repeated_Packed_Of [0] m.Fields, .fv 41 [.ep (Rp.int .i64) [904100] number 0]] [0, 904100] 10 rfl Try.call40 (slices_IndexFunc___api_Field_api_Field___view_first_1_ok h_rv) rfl rfl rfl rfl rfl) rfl (by kernel_rfl))) ?_
 obtain rfl := sj h
 exact je_ret (le_z (by kernel_rfl))
theorem kind_Number_ok {k : Int} {r : Bool} (h : kind_Number k = some r) : FnOk Try.prog 42 [kI k] [kB r] := by
 refine fn_intro' (E := ⟨[(2, kB r)], []⟩) 16 Try.func42 rfl rfl rfl ⟨rfl, trivial⟩ (fun Xt => ?_)
 refine ji_start ?_
 refine ji_le (E' := ⟨[(0, kI k)], []⟩) (fun _ _ _ hs => hs) ?_
 unfold kind_Number at h
 refine ji_rz ⟨[(0, kI k)], []⟩ (by kernel_rfl) ?_
 obtain ⟨rv, h_rv, h⟩ := bnd h
 refine ji_region ⟨[(3, kI rv.1), (4, k8 rv.2)], []⟩ (ro_oz 1 [kI k] rfl (lo_call [kI k] [1] 9 rfl Try.call43 (kind_Wire_ok h_rv) rfl rfl rfl rfl rfl) rfl (by kernel_rfl)) ?_
 refine ji_region ⟨[(2, kB ((rv.2 == 0) && (rv.1 != 2)))], []⟩ ?_ ?_
 ·
  refine (ro_sp 3 12 (rv.2 == 0) ⟨[(3, kI rv.1), (12, kB (rv.2 == 0))], []⟩ (by kernel_rfl) rfl (fun hc1 => ?_) (fun hc1 => ?_))
  · exact (ro_zb 2 (rv.1 != 2) ((rv.2 == 0) && (rv.1 != 2)) (by rw [hc1] <;> rfl) (by kernel_rfl) (by kernel_rfl))
  exact (ro_zb 2 false ((rv.2 == 0) && (rv.1 != 2)) (by rw [hc1] <;> rfl) (by kernel_rfl) (by kernel_rfl))
 obtain rfl := sj h
 exact je_ret (le_z (by kernel_rfl))
theorem view_fits_ok {k : Int} {wire : Int} {r : Bool} (h : view_fits k wire = some r) : FnOk Try.prog 34 [kI k, kI wire] [kB r] := by
 refine fn_intro' (E := ⟨[(4, kB r)], []⟩) 19 Try.func34 rfl rfl rfl ⟨rfl, trivial⟩ (fun Xt => ?_)
 refine ji_start ?_
 refine ji_le (E' := ⟨[(0, kI k), (1, kI wire)], []⟩) (fun _ _ _ hs => hs) ?_
 unfold view_fits at h
 refine ji_rz ⟨[(0, kI k), (1, kI wire)], []⟩ (by kernel_rfl) ?_
 obtain ⟨rv, h_rv, h⟩ := bnd h
 refine ji_region ⟨[(1, kI wire), (5, kI rv.1), (6, k8 rv.2)], []⟩ (ro_oz 1 [kI k] rfl (lo_call [kI k] [1] 9 rfl Try.call43 (kind_Wire_ok h_rv) rfl rfl rfl rfl rfl) rfl (by kernel_rfl)) ?_
 refine ji_region ⟨[(4, kB ((rv.2 == 0) && (rv.1 == wire)))], []⟩ ?_ ?_
 ·
  refine (ro_sp 3 14 (rv.2 == 0) ⟨[(1, kI wire), (5, kI rv.1), (14, kB (rv.2 == 0))], []⟩ (by kernel_rfl) rfl (fun hc1 => ?_) (fun hc1 => ?_))
  · exact (ro_zb 4 (rv.1 == wire) ((rv.2 == 0) && (rv.1 == wire)) (by rw [hc1] <;> rfl) (by kernel_rfl) (by kernel_rfl))
  exact (ro_zb 4 false ((rv.2 == 0) && (rv.1 == wire)) (by rw [hc1] <;> rfl) (by kernel_rfl) (by kernel_rfl))
 obtain rfl := sj h
 exact je_ret (le_z (by kernel_rfl))
theorem darningref05_Next_ok {b : (List UInt8)} {fromv : Int} {r : (T_Number_Wire_From_At_To × Int)} (h : darningref05_Next b fromv = some r) : FnOk Try.prog 20 [.sl Rp.byte [0] b, kI fromv] [.rc R_Number_Wire_From_At_To [] r.1, kI r.2] := by
 refine fn_intro' (E := ⟨[(4, .ptr 2 0), (5, kI r.2)], [⟨2, 35, [kI r.1.Number, kI r.1.Wire, kI r.1.From, kI r.1.At, kI r.1.To]⟩]⟩) 108 Try.func20 rfl rfl rfl ⟨⟨_, _, rfl, rfl, rfl, rfl, ⟨Try.isAgg35, Try.sizeOf35⟩⟩, rfl, trivial⟩ (fun Xt => ?_)
 refine ji_start ?_
 refine ji_le (E' := ⟨[(0, .sl Rp.byte [0] b), (1, kI fromv)], []⟩) (fun _ _ _ hs => hs) ?_
 unfold darningref05_Next at h
 refine ji_region ⟨[(0, .sl Rp.byte [0] b), (1, kI fromv), (4, .ptr 12 0)], [⟨12, 35, [kI 0, kI 0, kI 0, kI 0, kI 0]⟩]⟩ (ro_oz 0 [] rfl (lo_alloc 12 [kI 0, kI 0, kI 0, kI 0, kI 0] rfl Try.zeroValue35 rfl) rfl (by kernel_rfl)) ?_
 refine ji_region ⟨[(0, .sl Rp.byte [0] b), (1, kI fromv), (4, .ptr 12 0), (26, kB ((decide (fromv < 0)) || (decide (fromv ≥ (b.length : Int)))))], [⟨12, 35, [kI 0, kI 0, kI 0, kI 0, kI 0]⟩]⟩ ?_ ?_
 ·
  refine (ro_sp 3 21 (decide (fromv < 0)) ⟨[(0, .sl Rp.byte [0] b), (1, kI fromv), (4, .ptr 12 0), (21, kB (decide (fromv < 0)))], [⟨12, 35, [kI 0, kI 0, kI 0, kI 0, kI 0]⟩]⟩ (by kernel_rfl) rfl (fun hc1 => ?_) (fun hc1 => ?_))
  · exact (ro_zb 26 true ((decide (fromv < 0)) || (decide (fromv ≥ (b.length : Int)))) (by rw [hc1] <;> rfl) (by kernel_rfl) (by kernel_rfl))
  exact (ro_zb 26 (decide (fromv ≥ (b.length : Int))) ((decide (fromv < 0)) || (decide (fromv ≥ (b.length : Int)))) (by rw [hc1] <;> rfl) (by kernel_rfl) (by kernel_rfl))
 rcases ite_some h with ⟨hc2, h⟩ | ⟨hc2, h⟩
 ·
  refine ji_condT rfl hc2 ?_
  refine ji_region ⟨[(4, .ptr 12 0), (5, kI 2)], [⟨12, 35, [kI 0, kI 0, kI 0, kI 0, kI 0]⟩]⟩ (ro_o 0 [] ⟨[(4, .ptr 12 0), (27, .rc R_Number_Wire_From_At_To [] (⟨0, 0, 0, 0, 0⟩ : T_Number_Wire_From_At_To))], [⟨12, 35, [kI 0, kI 0, kI 0, kI 0, kI 0]⟩]⟩ rfl (lo_build (r := R_Number_Wire_From_At_To) [] [] (⟨0, 0, 0, 0, 0⟩ : T_Number_Wire_From_At_To) rfl stt35 rfl rfl) rfl (by kernel_rfl) (ro_obz 0 [.ptr 12 0, .rc R_Number_Wire_From_At_To [] (⟨0, 0, 0, 0, 0⟩ : T_Number_Wire_From_At_To)] [⟨12, 35, [kI 0, kI 0, kI 0, kI 0, kI 0]⟩] rfl (lo_str (r := R_Number_Wire_From_At_To) (b := ⟨12, 35, [kI 0, kI 0, kI 0, kI 0, kI 0]⟩) (off := 0) [kI 0, kI 0, kI 0, kI 0, kI 0] rfl Try.sizeOf35 rfl rfl rfl rfl) rfl rfl (by kernel_rfl))) ?_
  obtain rfl := sj h
  refine je_ret ?_
  refine le_px ⟨[(4, .ptr 12 0), (5, kI 2)], [⟨12, 35, [kI 0, kI 0, kI 0, kI 0, kI 0]⟩]⟩ (by kernel_rfl) (le_rn 12 2 rfl (le_px ⟨[(4, .ptr 2 0), (5, kI 2)], [⟨2, 35, [kI 0, kI 0, kI 0, kI 0, kI 0]⟩]⟩ (by kernel_rfl) ?_))
  exact le_z (by kernel_rfl)
 refine ji_condF rfl hc2 ?_
 obtain ⟨rv, h_rv, h⟩ := bnd h
 refine ji_region ⟨[(0, .sl Rp.byte [0] b), (1, kI fromv), (4, .ptr 12 0), (6, kI rv.1), (7, kI rv.2.1), (8, kI rv.2.2.1), (9, kI rv.2.2.2)], [⟨12, 35, [kI 0, kI 0, kI 0, kI 0, kI 0]⟩]⟩ (ro_oz 2 [.sl Rp.byte [0] b, kI fromv] rfl (lo_call [.sl Rp.byte [0] b, kI fromv] [0] 11 rfl Try.call27 (darningref03_Read_ok h_rv) rfl rfl rfl rfl rfl) rfl (by kernel_rfl)) ?_
 refine ji_rz ⟨[(0, .sl Rp.byte [0] b), (1, kI fromv), (4, .ptr 12 0), (6, kI rv.1), (7, kI rv.2.1), (8, kI rv.2.2.1), (9, kI rv.2.2.2), (37, kB (rv.2.2.2 != 0))], [⟨12, 35, [kI 0, kI 0, kI 0, kI 0, kI 0]⟩]⟩ (by kernel_rfl) ?_
 rcases ite_some h with ⟨hc3, h⟩ | ⟨hc3, h⟩
 ·
  refine ji_condT rfl hc3 ?_
  refine ji_region ⟨[(4, .ptr 12 0), (5, kI rv.2.2.2)], [⟨12, 35, [kI 0, kI 0, kI 0, kI 0, kI 0]⟩]⟩ (ro_o 0 [] ⟨[(4, .ptr 12 0), (9, kI rv.2.2.2), (38, .rc R_Number_Wire_From_At_To [] (⟨0, 0, 0, 0, 0⟩ : T_Number_Wire_From_At_To))], [⟨12, 35, [kI 0, kI 0, kI 0, kI 0, kI 0]⟩]⟩ rfl (lo_build (r := R_Number_Wire_From_At_To) [] [] (⟨0, 0, 0, 0, 0⟩ : T_Number_Wire_From_At_To) rfl stt35 rfl rfl) rfl (by kernel_rfl) (ro_obz 1 [.ptr 12 0, .rc R_Number_Wire_From_At_To [] (⟨0, 0, 0, 0, 0⟩ : T_Number_Wire_From_At_To)] [⟨12, 35, [kI 0, kI 0, kI 0, kI 0, kI 0]⟩] rfl (lo_str (r := R_Number_Wire_From_At_To) (b := ⟨12, 35, [kI 0, kI 0, kI 0, kI 0, kI 0]⟩) (off := 0) [kI 0, kI 0, kI 0, kI 0, kI 0] rfl Try.sizeOf35 rfl rfl rfl rfl) rfl rfl (by kernel_rfl))) ?_
  obtain rfl := sj h
  refine je_ret ?_
  refine le_px ⟨[(4, .ptr 12 0), (5, kI rv.2.2.2)], [⟨12, 35, [kI 0, kI 0, kI 0, kI 0, kI 0]⟩]⟩ (by kernel_rfl) (le_rn 12 2 rfl (le_px ⟨[(4, .ptr 2 0), (5, kI rv.2.2.2)], [⟨2, 35, [kI 0, kI 0, kI 0, kI 0, kI 0]⟩]⟩ (by kernel_rfl) ?_))
  exact le_z (by kernel_rfl)
 refine ji_condF rfl hc3 ?_
 refine ji_region ⟨[(0, .sl Rp.byte [0] b), (4, .ptr 12 0), (7, kI rv.2.1), (10, .ptr 13 0)], [⟨12, 35, [kI 0, kI 0, kI 0, kI 0, kI 0]⟩, ⟨13, 35, [kI rv.1, kI rv.2.1, kI fromv, kI (IntKind.i64.wrap (fromv + rv.2.2.1)), kI 0]⟩]⟩ (ro_o 6 [kI rv.1, kI rv.2.1, kI fromv, kI (IntKind.i64.wrap (fromv + rv.2.2.1))] ⟨[(0, .sl Rp.byte [0] b), (4, .ptr 12 0), (7, kI rv.2.1), (46, .rc R_Number_Wire_From_At_To [] (⟨rv.1, rv.2.1, fromv, (IntKind.i64.wrap (fromv + rv.2.2.1)), 0⟩ : T_Number_Wire_From_At_To))], [⟨12, 35, [kI 0, kI 0, kI 0, kI 0, kI 0]⟩]⟩ rfl (lo_build (r := R_Number_Wire_From_At_To) [kI rv.1, kI rv.2.1, kI fromv, kI (IntKind.i64.wrap (fromv + rv.2.2.1))] [] (⟨rv.1, rv.2.1, fromv, (IntKind.i64.wrap (fromv + rv.2.2.1)), 0⟩ : T_Number_Wire_From_At_To) rfl stt35 rfl rfl) rfl (by kernel_rfl) (ro_o 0 [] ⟨[(0, .sl Rp.byte [0] b), (4, .ptr 12 0), (7, kI rv.2.1), (10, .ptr 13 0), (46, .rc R_Number_Wire_From_At_To [] (⟨rv.1, rv.2.1, fromv, (IntKind.i64.wrap (fromv + rv.2.2.1)), 0⟩ : T_Number_Wire_From_At_To))], [⟨12, 35, [kI 0, kI 0, kI 0, kI 0, kI 0]⟩, ⟨13, 35, [kI 0, kI 0, kI 0, kI 0, kI 0]⟩]⟩ rfl (lo_alloc 13 [kI 0, kI 0, kI 0, kI 0, kI 0] rfl Try.zeroValue35 rfl) rfl (by kernel_rfl) (ro_obz 0 [.ptr 13 0, .rc R_Number_Wire_From_At_To [] (⟨rv.1, rv.2.1, fromv, (IntKind.i64.wrap (fromv + rv.2.2.1)), 0⟩ : T_Number_Wire_From_At_To)] [⟨13, 35, [kI 0, kI 0, kI 0, kI 0, kI 0]⟩] rfl (lo_str (r := R_Number_Wire_From_At_To) (b := ⟨13, 35, [kI 0, kI 0, kI 0, kI 0, kI 0]⟩) (off := 0) [kI rv.1, kI rv.2.1, kI fromv, kI (IntKind.i64.wrap (fromv + rv.2.2.1)), kI 0] rfl Try.sizeOf35 rfl rfl rfl rfl) rfl rfl (by kernel_rfl)))) ?_
 refine ji_rz ⟨[(0, .sl Rp.byte [0] b), (4, .ptr 12 0), (7, kI rv.2.1), (10, .ptr 13 0), (11, kI (IntKind.i64.wrap ((b.length : Int) - (IntKind.i64.wrap (fromv + rv.2.2.1)))))], [⟨12, 35, [kI 0, kI 0, kI 0, kI 0, kI 0]⟩, ⟨13, 35, [kI rv.1, kI rv.2.1, kI fromv, kI (IntKind.i64.wrap (fromv + rv.2.2.1)), kI 0]⟩]⟩ (by kernel_rfl) ?_
 refine ji_rz ⟨[(0, .sl Rp.byte [0] b), (4, .ptr 12 0), (7, kI rv.2.1), (10, .ptr 13 0), (11, kI (IntKind.i64.wrap ((b.length : Int) - (IntKind.i64.wrap (fromv + rv.2.2.1))))), (12, kI 8)], [⟨12, 35, [kI 0, kI 0, kI 0, kI 0, kI 0]⟩, ⟨13, 35, [kI rv.1, kI rv.2.1, kI fromv, kI (IntKind.i64.wrap (fromv + rv.2.2.1)), kI 0]⟩]⟩ (by kernel_rfl) ?_
 refine ji_rz ⟨[(0, .sl Rp.byte [0] b), (4, .ptr 12 0), (7, kI rv.2.1), (10, .ptr 13 0), (11, kI (IntKind.i64.wrap ((b.length : Int) - (IntKind.i64.wrap (fromv + rv.2.2.1))))), (12, kI 8), (53, kB (rv.2.1 == 5))], [⟨12, 35, [kI 0, kI 0, kI 0, kI 0, kI 0]⟩, ⟨13, 35, [kI rv.1, kI rv.2.1, kI fromv, kI (IntKind.i64.wrap (fromv + rv.2.2.1)), kI 0]⟩]⟩ (by kernel_rfl) ?_
 obtain ⟨p, h_p, h⟩ := bnd h
 refine ji_join (R := fun e a w => e = .normal ∧ Sx ⟨⟨108, []⟩, Xt, false, #[]⟩ ⟨[(0, .sl Rp.byte [0] b), (4, .ptr 12 0), (7, kI rv.2.1), (10, .ptr 13 0), (11, kI (IntKind.i64.wrap ((b.length : Int) - (IntKind.i64.wrap (fromv + rv.2.2.1))))), (12, kI p)], [⟨12, 35, [kI 0, kI 0, kI 0, kI 0, kI 0]⟩, ⟨13, 35, [kI rv.1, kI rv.2.1, kI fromv, kI (IntKind.i64.wrap (fromv + rv.2.2.1)), kI 0]⟩]⟩ a w) ?_ ?_
 ·
  replace h := h_p
  refine ji_start ?_
  rcases ite_some h with ⟨hc4, h⟩ | ⟨hc4, h⟩
  ·
   refine ji_condT rfl hc4 ?_
   refine ji_rz ⟨[(0, .sl Rp.byte [0] b), (4, .ptr 12 0), (7, kI rv.2.1), (10, .ptr 13 0), (11, kI (IntKind.i64.wrap ((b.length : Int) - (IntKind.i64.wrap (fromv + rv.2.2.1))))), (12, kI 4)], [⟨12, 35, [kI 0, kI 0, kI 0, kI 0, kI 0]⟩, ⟨13, 35, [kI rv.1, kI rv.2.1, kI fromv, kI (IntKind.i64.wrap (fromv + rv.2.2.1)), kI 0]⟩]⟩ (by kernel_rfl) ?_
   obtain rfl := sj h
   exact je_nil (le_z (by kernel_rfl))
  refine ji_condF rfl hc4 ?_
  obtain rfl := sj h
  exact je_nil (le_z (by kernel_rfl))
 refine k_norm ?_
 refine ji_rz ⟨[(0, .sl Rp.byte [0] b), (4, .ptr 12 0), (7, kI rv.2.1), (10, .ptr 13 0), (11, kI (IntKind.i64.wrap ((b.length : Int) - (IntKind.i64.wrap (fromv + rv.2.2.1))))), (12, kI p), (55, kB (rv.2.1 == 0))], [⟨12, 35, [kI 0, kI 0, kI 0, kI 0, kI 0]⟩, ⟨13, 35, [kI rv.1, kI rv.2.1, kI fromv, kI (IntKind.i64.wrap (fromv + rv.2.2.1)), kI 0]⟩]⟩ (by kernel_rfl) ?_
 obtain ⟨p2, h_p2, h⟩ := bnd h
 refine ji_join (R := fun e a w => match p2 with | (.inl v_) => e = .normal ∧ Sx ⟨⟨108, []⟩, Xt, false, #[]⟩ ⟨[(0, .sl Rp.byte [0] b), (4, .ptr 12 0), (7, kI rv.2.1), (10, .ptr 13 0), (11, kI (IntKind.i64.wrap ((b.length : Int) - (IntKind.i64.wrap (fromv + rv.2.2.1))))), (12, kI v_)], [⟨12, 35, [kI 0, kI 0, kI 0, kI 0, kI 0]⟩, ⟨13, 35, [kI rv.1, kI rv.2.1, kI fromv, kI (IntKind.i64.wrap (fromv + rv.2.2.1)), kI 0]⟩]⟩ a w | (.inr v_) => e = .ret ∧ Sx ⟨⟨108, []⟩, Xt, false, #[]⟩ ⟨[(4, .ptr 12 0), (5, kI v_)], [⟨12, 35, [kI 0, kI 0, kI 0, kI 0, kI 0]⟩]⟩ a w) ?_ ?_
 ·
  replace h := h_p2
  refine ji_start ?_
  rcases ite_some h with ⟨hc5, h⟩ | ⟨hc5, h⟩
  ·
   refine ji_condT rfl hc5 ?_
   obtain ⟨rv2, h_rv2, h⟩ := bnd h
   refine ji_region ⟨[(0, .sl Rp.byte [0] b), (4, .ptr 12 0), (7, kI rv.2.1), (10, .ptr 13 0), (11, kI (IntKind.i64.wrap ((b.length : Int) - (IntKind.i64.wrap (fromv + rv.2.2.1))))), (14, kI rv2.2.1), (15, kI rv2.2.2)], [⟨12, 35, [kI 0, kI 0, kI 0, kI 0, kI 0]⟩, ⟨13, 35, [kI rv.1, kI rv.2.1, kI fromv, kI (IntKind.i64.wrap (fromv + rv.2.2.1)), kI 0]⟩]⟩ (ro_oz 3 [.sl Rp.byte [0] b, kI (IntKind.i64.wrap (fromv + rv.2.2.1))] rfl (lo_call [.sl Rp.byte [0] b, kI (IntKind.i64.wrap (fromv + rv.2.2.1))] [0] 12 rfl Try.call28 (darningref02_Read_ok h_rv2) rfl rfl rfl rfl rfl) rfl (by kernel_rfl)) ?_
   refine ji_rz ⟨[(0, .sl Rp.byte [0] b), (4, .ptr 12 0), (7, kI rv.2.1), (10, .ptr 13 0), (11, kI (IntKind.i64.wrap ((b.length : Int) - (IntKind.i64.wrap (fromv + rv.2.2.1))))), (14, kI rv2.2.1), (15, kI rv2.2.2), (65, kB (rv2.2.2 != 0))], [⟨12, 35, [kI 0, kI 0, kI 0, kI 0, kI 0]⟩, ⟨13, 35, [kI rv.1, kI rv.2.1, kI fromv, kI (IntKind.i64.wrap (fromv + rv.2.2.1)), kI 0]⟩]⟩ (by kernel_rfl) ?_
   rcases ite_some h with ⟨hc6, h⟩ | ⟨hc6, h⟩
   ·
    refine ji_condT rfl hc6 ?_
    refine ji_region ⟨[(4, .ptr 12 0), (5, kI rv2.2.2)], [⟨12, 35, [kI 0, kI 0, kI 0, kI 0, kI 0]⟩]⟩ (ro_o 0 [] ⟨[(4, .ptr 12 0), (15, kI rv2.2.2), (66, .rc R_Number_Wire_From_At_To [] (⟨0, 0, 0, 0, 0⟩ : T_Number_Wire_From_At_To))], [⟨12, 35, [kI 0, kI 0, kI 0, kI 0, kI 0]⟩]⟩ rfl (lo_build (r := R_Number_Wire_From_At_To) [] [] (⟨0, 0, 0, 0, 0⟩ : T_Number_Wire_From_At_To) rfl stt35 rfl rfl) rfl (by kernel_rfl) (ro_obz 1 [.ptr 12 0, .rc R_Number_Wire_From_At_To [] (⟨0, 0, 0, 0, 0⟩ : T_Number_Wire_From_At_To)] [⟨12, 35, [kI 0, kI 0, kI 0, kI 0, kI 0]⟩] rfl (lo_str (r := R_Number_Wire_From_At_To) (b := ⟨12, 35, [kI 0, kI 0, kI 0, kI 0, kI 0]⟩) (off := 0) [kI 0, kI 0, kI 0, kI 0, kI 0] rfl Try.sizeOf35 rfl rfl rfl rfl) rfl rfl (by kernel_rfl))) ?_
    obtain rfl := sj h
    exact je_ret (le_z (by kernel_rfl))
   refine ji_condF rfl hc6 ?_
   refine ji_rz ⟨[(0, .sl Rp.byte [0] b), (4, .ptr 12 0), (7, kI rv.2.1), (10, .ptr 13 0), (11, kI (IntKind.i64.wrap ((b.length : Int) - (IntKind.i64.wrap (fromv + rv.2.2.1))))), (12, kI rv2.2.1)], [⟨12, 35, [kI 0, kI 0, kI 0, kI 0, kI 0]⟩, ⟨13, 35, [kI rv.1, kI rv.2.1, kI fromv, kI (IntKind.i64.wrap (fromv + rv.2.2.1)), kI 0]⟩]⟩ (by kernel_rfl) ?_
   obtain rfl := sj h
   exact je_nil (le_z (by kernel_rfl))
  refine ji_condF rfl hc5 ?_
  obtain rfl := sj h
  exact je_nil (le_z (by kernel_rfl))
 rcases p2 with u | u4
 ·
  refine k_norm ?_
  refine ji_rz ⟨[(0, .sl Rp.byte [0] b), (4, .ptr 12 0), (10, .ptr 13 0), (11, kI (IntKind.i64.wrap ((b.length : Int) - (IntKind.i64.wrap (fromv + rv.2.2.1))))), (12, kI u), (70, kB (rv.2.1 == 2))], [⟨12, 35, [kI 0, kI 0, kI 0, kI 0, kI 0]⟩, ⟨13, 35, [kI rv.1, kI rv.2.1, kI fromv, kI (IntKind.i64.wrap (fromv + rv.2.2.1)), kI 0]⟩]⟩ (by kernel_rfl) ?_
  obtain ⟨p3, h_p3, h⟩ := bnd h
  refine ji_join (R := fun e a w => match p3 with | (.inl v_) => e = .normal ∧ Sx ⟨⟨108, []⟩, Xt, false, #[]⟩ ⟨[(4, .ptr 12 0), (10, .ptr 13 0), (11, kI v_.1), (12, kI v_.2.1)], [⟨12, 35, [kI 0, kI 0, kI 0, kI 0, kI 0]⟩, ⟨13, 35, [kI rv.1, kI rv.2.1, kI fromv, kI v_.2.2, kI 0]⟩]⟩ a w | (.inr v_) => e = .ret ∧ Sx ⟨⟨108, []⟩, Xt, false, #[]⟩ ⟨[(4, .ptr 12 0), (5, kI v_)], [⟨12, 35, [kI 0, kI 0, kI 0, kI 0, kI 0]⟩]⟩ a w) ?_ ?_
  ·
   replace h := h_p3
   refine ji_start ?_
   rcases ite_some h with ⟨hc7, h⟩ | ⟨hc7, h⟩
   ·
    refine ji_condT rfl hc7 ?_
    obtain ⟨rv3, h_rv3, h⟩ := bnd h
    refine ji_region ⟨[(4, .ptr 12 0), (10, .ptr 13 0), (11, kI (IntKind.i64.wrap ((b.length : Int) - (IntKind.i64.wrap (fromv + rv.2.2.1))))), (16, kU rv3.1), (17, kI rv3.2.1), (18, kI rv3.2.2)], [⟨12, 35, [kI 0, kI 0, kI 0, kI 0, kI 0]⟩, ⟨13, 35, [kI rv.1, kI rv.2.1, kI fromv, kI (IntKind.i64.wrap (fromv + rv.2.2.1)), kI 0]⟩]⟩ (ro_oz 3 [.sl Rp.byte [0] b, kI (IntKind.i64.wrap (fromv + rv.2.2.1))] rfl (lo_call [.sl Rp.byte [0] b, kI (IntKind.i64.wrap (fromv + rv.2.2.1))] [0] 12 rfl Try.call28 (darningref02_Read_ok h_rv3) rfl rfl rfl rfl rfl) rfl (by kernel_rfl)) ?_
    refine ji_rz ⟨[(4, .ptr 12 0), (10, .ptr 13 0), (11, kI (IntKind.i64.wrap ((b.length : Int) - (IntKind.i64.wrap (fromv + rv.2.2.1))))), (16, kU rv3.1), (17, kI rv3.2.1), (18, kI rv3.2.2), (80, kB (rv3.2.2 != 0))], [⟨12, 35, [kI 0, kI 0, kI 0, kI 0, kI 0]⟩, ⟨13, 35, [kI rv.1, kI rv.2.1, kI fromv, kI (IntKind.i64.wrap (fromv + rv.2.2.1)), kI 0]⟩]⟩ (by kernel_rfl) ?_
    rcases ite_some h with ⟨hc8, h⟩ | ⟨hc8, h⟩
    ·
     refine ji_condT rfl hc8 ?_
     refine ji_region ⟨[(4, .ptr 12 0), (5, kI rv3.2.2)], [⟨12, 35, [kI 0, kI 0, kI 0, kI 0, kI 0]⟩]⟩ (ro_o 0 [] ⟨[(4, .ptr 12 0), (18, kI rv3.2.2), (81, .rc R_Number_Wire_From_At_To [] (⟨0, 0, 0, 0, 0⟩ : T_Number_Wire_From_At_To))], [⟨12, 35, [kI 0, kI 0, kI 0, kI 0, kI 0]⟩]⟩ rfl (lo_build (r := R_Number_Wire_From_At_To) [] [] (⟨0, 0, 0, 0, 0⟩ : T_Number_Wire_From_At_To) rfl stt35 rfl rfl) rfl (by kernel_rfl) (ro_obz 1 [.ptr 12 0, .rc R_Number_Wire_From_At_To [] (⟨0, 0, 0, 0, 0⟩ : T_Number_Wire_From_At_To)] [⟨12, 35, [kI 0, kI 0, kI 0, kI 0, kI 0]⟩] rfl (lo_str (r := R_Number_Wire_From_At_To) (b := ⟨12, 35, [kI 0, kI 0, kI 0, kI 0, kI 0]⟩) (off := 0) [kI 0, kI 0, kI 0, kI 0, kI 0] rfl Try.sizeOf35 rfl rfl rfl rfl) rfl rfl (by kernel_rfl))) ?_
     obtain rfl := sj h
     exact je_ret (le_z (by kernel_rfl))
    refine ji_condF rfl hc8 ?_
    refine ji_region ⟨[(4, .ptr 12 0), (10, .ptr 13 0), (11, kI (IntKind.i64.wrap ((b.length : Int) - (IntKind.i64.wrap (fromv + rv.2.2.1))))), (16, kU rv3.1), (17, kI rv3.2.1)], [⟨12, 35, [kI 0, kI 0, kI 0, kI 0, kI 0]⟩, ⟨13, 35, [kI rv.1, kI rv.2.1, kI fromv, kI (IntKind.i64.wrap ((IntKind.i64.wrap (fromv + rv.2.2.1)) + rv3.2.1)), kI 0]⟩]⟩ (ro_obz 5 [.ptr 13 3, kI (IntKind.i64.wrap ((IntKind.i64.wrap (fromv + rv.2.2.1)) + rv3.2.1))] [⟨13, 35, [kI rv.1, kI rv.2.1, kI fromv, kI (IntKind.i64.wrap (fromv + rv.2.2.1)), kI 0]⟩] rfl (lo_st1 (b := ⟨13, 35, [kI rv.1, kI rv.2.1, kI fromv, kI (IntKind.i64.wrap (fromv + rv.2.2.1)), kI 0]⟩) (off := 3) rfl Try.sizeOf3 rfl rfl rfl) rfl rfl (by kernel_rfl)) ?_
    refine ji_rz ⟨[(4, .ptr 12 0), (10, .ptr 13 0), (11, kI (IntKind.i64.wrap ((IntKind.i64.wrap ((b.length : Int) - (IntKind.i64.wrap (fromv + rv.2.2.1)))) - rv3.2.1))), (16, kU rv3.1)], [⟨12, 35, [kI 0, kI 0, kI 0, kI 0, kI 0]⟩, ⟨13, 35, [kI rv.1, kI rv.2.1, kI fromv, kI (IntKind.i64.wrap ((IntKind.i64.wrap (fromv + rv.2.2.1)) + rv3.2.1)), kI 0]⟩]⟩ (by kernel_rfl) ?_
    refine ji_rz ⟨[(4, .ptr 12 0), (10, .ptr 13 0), (11, kI (IntKind.i64.wrap ((IntKind.i64.wrap ((b.length : Int) - (IntKind.i64.wrap (fromv + rv.2.2.1)))) - rv3.2.1))), (16, kU rv3.1), (94, kB (decide (rv3.1 > (IntKind.u64.wrap (IntKind.i64.wrap ((IntKind.i64.wrap ((b.length : Int) - (IntKind.i64.wrap (fromv + rv.2.2.1)))) - rv3.2.1))))))], [⟨12, 35, [kI 0, kI 0, kI 0, kI 0, kI 0]⟩, ⟨13, 35, [kI rv.1, kI rv.2.1, kI fromv, kI (IntKind.i64.wrap ((IntKind.i64.wrap (fromv + rv.2.2.1)) + rv3.2.1)), kI 0]⟩]⟩ (by kernel_rfl) ?_
    rcases ite_some h with ⟨hc9, h⟩ | ⟨hc9, h⟩
    ·
     refine ji_condT rfl hc9 ?_
     refine ji_region ⟨[(4, .ptr 12 0), (5, kI 3)], [⟨12, 35, [kI 0, kI 0, kI 0, kI 0, kI 0]⟩]⟩ (ro_o 0 [] ⟨[(4, .ptr 12 0), (95, .rc R_Number_Wire_From_At_To [] (⟨0, 0, 0, 0, 0⟩ : T_Number_Wire_From_At_To))], [⟨12, 35, [kI 0, kI 0, kI 0, kI 0, kI 0]⟩]⟩ rfl (lo_build (r := R_Number_Wire_From_At_To) [] [] (⟨0, 0, 0, 0, 0⟩ : T_Number_Wire_From_At_To) rfl stt35 rfl rfl) rfl (by kernel_rfl) (ro_obz 0 [.ptr 12 0, .rc R_Number_Wire_From_At_To [] (⟨0, 0, 0, 0, 0⟩ : T_Number_Wire_From_At_To)] [⟨12, 35, [kI 0, kI 0, kI 0, kI 0, kI 0]⟩] rfl (lo_str (r := R_Number_Wire_From_At_To) (b := ⟨12, 35, [kI 0, kI 0, kI 0, kI 0, kI 0]⟩) (off := 0) [kI 0, kI 0, kI 0, kI 0, kI 0] rfl Try.sizeOf35 rfl rfl rfl rfl) rfl rfl (by kernel_rfl))) ?_
     obtain rfl := sj h
     exact je_ret (le_z (by kernel_rfl))
    refine ji_condF rfl hc9 ?_
    refine ji_rz ⟨[(4, .ptr 12 0), (10, .ptr 13 0), (11, kI (IntKind.i64.wrap ((IntKind.i64.wrap ((b.length : Int) - (IntKind.i64.wrap (fromv + rv.2.2.1)))) - rv3.2.1))), (12, kI (IntKind.i64.wrap rv3.1))], [⟨12, 35, [kI 0, kI 0, kI 0, kI 0, kI 0]⟩, ⟨13, 35, [kI rv.1, kI rv.2.1, kI fromv, kI (IntKind.i64.wrap ((IntKind.i64.wrap (fromv + rv.2.2.1)) + rv3.2.1)), kI 0]⟩]⟩ (by kernel_rfl) ?_
    obtain rfl := sj h
    exact je_nil (le_z (by kernel_rfl))
   refine ji_condF rfl hc7 ?_
   obtain rfl := sj h
   exact je_nil (le_z (by kernel_rfl))
  rcases p3 with u2 | u3
  ·
   refine k_norm ?_
   refine ji_rz ⟨[(4, .ptr 12 0), (10, .ptr 13 0), (12, kI u2.2.1), (100, kB (decide (u2.2.1 > u2.1)))], [⟨12, 35, [kI 0, kI 0, kI 0, kI 0, kI 0]⟩, ⟨13, 35, [kI rv.1, kI rv.2.1, kI fromv, kI u2.2.2, kI 0]⟩]⟩ (by kernel_rfl) ?_
   rcases ite_some h with ⟨hc10, h⟩ | ⟨hc10, h⟩
   ·
    refine ji_condT rfl hc10 ?_
    refine ji_region ⟨[(4, .ptr 12 0), (5, kI 3)], [⟨12, 35, [kI 0, kI 0, kI 0, kI 0, kI 0]⟩]⟩ (ro_o 0 [] ⟨[(4, .ptr 12 0), (101, .rc R_Number_Wire_From_At_To [] (⟨0, 0, 0, 0, 0⟩ : T_Number_Wire_From_At_To))], [⟨12, 35, [kI 0, kI 0, kI 0, kI 0, kI 0]⟩]⟩ rfl (lo_build (r := R_Number_Wire_From_At_To) [] [] (⟨0, 0, 0, 0, 0⟩ : T_Number_Wire_From_At_To) rfl stt35 rfl rfl) rfl (by kernel_rfl) (ro_obz 0 [.ptr 12 0, .rc R_Number_Wire_From_At_To [] (⟨0, 0, 0, 0, 0⟩ : T_Number_Wire_From_At_To)] [⟨12, 35, [kI 0, kI 0, kI 0, kI 0, kI 0]⟩] rfl (lo_str (r := R_Number_Wire_From_At_To) (b := ⟨12, 35, [kI 0, kI 0, kI 0, kI 0, kI 0]⟩) (off := 0) [kI 0, kI 0, kI 0, kI 0, kI 0] rfl Try.sizeOf35 rfl rfl rfl rfl) rfl rfl (by kernel_rfl))) ?_
    obtain rfl := sj h
    refine je_ret ?_
    refine le_px ⟨[(4, .ptr 12 0), (5, kI 3)], [⟨12, 35, [kI 0, kI 0, kI 0, kI 0, kI 0]⟩]⟩ (by kernel_rfl) (le_rn 12 2 rfl (le_px ⟨[(4, .ptr 2 0), (5, kI 3)], [⟨2, 35, [kI 0, kI 0, kI 0, kI 0, kI 0]⟩]⟩ (by kernel_rfl) ?_))
    exact le_z (by kernel_rfl)
   refine ji_condF rfl hc10 ?_
   refine ji_region ⟨[(4, .ptr 12 0), (10, .ptr 13 0)], [⟨12, 35, [kI 0, kI 0, kI 0, kI 0, kI 0]⟩, ⟨13, 35, [kI rv.1, kI rv.2.1, kI fromv, kI u2.2.2, kI (IntKind.i64.wrap (u2.2.2 + u2.2.1))]⟩]⟩ (ro_obz 5 [.ptr 13 4, kI (IntKind.i64.wrap (u2.2.2 + u2.2.1))] [⟨13, 35, [kI rv.1, kI rv.2.1, kI fromv, kI u2.2.2, kI 0]⟩] rfl (lo_st1 (b := ⟨13, 35, [kI rv.1, kI rv.2.1, kI fromv, kI u2.2.2, kI 0]⟩) (off := 4) rfl Try.sizeOf3 rfl rfl rfl) rfl rfl (by kernel_rfl)) ?_
   refine ji_region ⟨[(4, .ptr 12 0), (5, kI 0)], [⟨12, 35, [kI rv.1, kI rv.2.1, kI fromv, kI u2.2.2, kI (IntKind.i64.wrap (u2.2.2 + u2.2.1))]⟩]⟩ (ro_ob 0 [.ptr 13 0] [⟨13, 35, [kI rv.1, kI rv.2.1, kI fromv, kI u2.2.2, kI (IntKind.i64.wrap (u2.2.2 + u2.2.1))]⟩] ⟨[(4, .ptr 12 0), (107, .rc R_Number_Wire_From_At_To [] (⟨rv.1, rv.2.1, fromv, u2.2.2, (IntKind.i64.wrap (u2.2.2 + u2.2.1))⟩ : T_Number_Wire_From_At_To))], [⟨12, 35, [kI 0, kI 0, kI 0, kI 0, kI 0]⟩]⟩ rfl (lo_ldb (r := R_Number_Wire_From_At_To) (⟨rv.1, rv.2.1, fromv, u2.2.2, (IntKind.i64.wrap (u2.2.2 + u2.2.1))⟩ : T_Number_Wire_From_At_To) [] rfl ⟨Try.isAgg35, Try.sizeOf35⟩ rfl rfl) rfl rfl (by kernel_rfl) (ro_obz 0 [.ptr 12 0, .rc R_Number_Wire_From_At_To [] (⟨rv.1, rv.2.1, fromv, u2.2.2, (IntKind.i64.wrap (u2.2.2 + u2.2.1))⟩ : T_Number_Wire_From_At_To)] [⟨12, 35, [kI 0, kI 0, kI 0, kI 0, kI 0]⟩] rfl (lo_str (r := R_Number_Wire_From_At_To) (b := ⟨12, 35, [kI 0, kI 0, kI 0, kI 0, kI 0]⟩) (off := 0) [kI rv.1, kI rv.2.1, kI fromv, kI u2.2.2, kI (IntKind.i64.wrap (u2.2.2 + u2.2.1))] rfl Try.sizeOf35 rfl rfl rfl rfl) rfl rfl (by kernel_rfl))) ?_
   obtain rfl := sj h
   refine je_ret ?_
   refine le_px ⟨[(4, .ptr 12 0), (5, kI 0)], [⟨12, 35, [kI rv.1, kI rv.2.1, kI fromv, kI u2.2.2, kI (IntKind.i64.wrap (u2.2.2 + u2.2.1))]⟩]⟩ (by kernel_rfl) (le_rn 12 2 rfl (le_px ⟨[(4, .ptr 2 0), (5, kI 0)], [⟨2, 35, [kI rv.1, kI rv.2.1, kI fromv, kI u2.2.2, kI (IntKind.i64.wrap (u2.2.2 + u2.2.1))]⟩]⟩ (by kernel_rfl) ?_))
   exact le_z (by kernel_rfl)
  obtain rfl := sj h
  refine ke_ret ?_
  refine le_px ⟨[(4, .ptr 12 0), (5, kI u3)], [⟨12, 35, [kI 0, kI 0, kI 0, kI 0, kI 0]⟩]⟩ (by kernel_rfl) (le_rn 12 2 rfl (le_px ⟨[(4, .ptr 2 0), (5, kI u3)], [⟨2, 35, [kI 0, kI 0, kI 0, kI 0, kI 0]⟩]⟩ (by kernel_rfl) ?_))
  exact le_z (by kernel_rfl)
 obtain rfl := sj h
 refine ke_ret ?_
 refine le_px ⟨[(4, .ptr 12 0), (5, kI u4)], [⟨12, 35, [kI 0, kI 0, kI 0, kI 0, kI 0]⟩]⟩ (by kernel_rfl) (le_rn 12 2 rfl (le_px ⟨[(4, .ptr 2 0), (5, kI u4)], [⟨2, 35, [kI 0, kI 0, kI 0, kI 0, kI 0]⟩]⟩ (by kernel_rfl) ?_))
 exact le_z (by kernel_rfl)
theorem record_piece_ok {b : (List UInt8)} {fromv : Int} {tov : Int} {r : (List UInt8)} (h : record_piece b fromv tov = some r) : FnOk Try.prog 29 [.sl Rp.byte [0] b, kI fromv, kI tov] [.own Rp.byte 5 2 [] r] := by
 refine fn_intro' (E := ⟨[(6, .own Rp.byte 5 2 [] r)], []⟩) 26 Try.func29 rfl rfl rfl ⟨rfl, trivial⟩ (fun Xt => ?_)
 refine ji_start ?_
 refine ji_le (E' := ⟨[(0, .sl Rp.byte [0] b), (1, kI fromv), (2, kI tov)], []⟩) (fun _ _ _ hs => hs) ?_
 unfold record_piece at h
 refine ji_rz ⟨[(0, .sl Rp.byte [0] b), (1, kI fromv), (2, kI tov)], []⟩ (by kernel_rfl) ?_
 refine ji_region ⟨[(0, .sl Rp.byte [0] b), (1, kI fromv), (2, kI tov), (19, kB ((decide (fromv < 0)) || ((decide (fromv > tov)) || (decide (tov > (b.length : Int))))))], []⟩ ?_ ?_
 ·
  refine (ro_sp 3 9 (decide (fromv < 0)) ⟨[(0, .sl Rp.byte [0] b), (1, kI fromv), (2, kI tov), (9, kB (decide (fromv < 0)))], []⟩ (by kernel_rfl) rfl (fun hc1 => ?_) (fun hc1 => ?_))
  · exact (ro_zb 19 true ((decide (fromv < 0)) || ((decide (fromv > tov)) || (decide (tov > (b.length : Int))))) (by rw [hc1] <;> rfl) (by kernel_rfl) (by kernel_rfl))
  refine (ro_sp 5 14 (decide (fromv > tov)) ⟨[(0, .sl Rp.byte [0] b), (1, kI fromv), (2, kI tov), (14, kB (decide (fromv > tov)))], []⟩ (by kernel_rfl) rfl (fun hc2 => ?_) (fun hc2 => ?_))
  · exact (ro_zb 19 true ((decide (fromv < 0)) || ((decide (fromv > tov)) || (decide (tov > (b.length : Int))))) (by rw [hc1, hc2] <;> rfl) (by kernel_rfl) (by kernel_rfl))
  exact (ro_zb 19 (decide (tov > (b.length : Int))) ((decide (fromv < 0)) || ((decide (fromv > tov)) || (decide (tov > (b.length : Int))))) (by rw [hc1, hc2] <;> rfl) (by kernel_rfl) (by kernel_rfl))
 rcases ite_some h with ⟨hc3, h⟩ | ⟨hc3, h⟩
 ·
  refine ji_condT rfl hc3 ?_
  refine ji_rz ⟨[(6, kN)], []⟩ (by kernel_rfl) ?_
  obtain rfl := sj h
  refine je_ret ?_
  refine le_at 6 (.own Rp.byte 5 2 [] ([] : (List UInt8))) rfl (le_own_nil Rp.byte 5 2 [] rfl) ?_
  exact le_z (by kernel_rfl)
 refine ji_condF rfl hc3 ?_
 obtain ⟨v2, h_v2, h⟩ := bnd h
 obtain ⟨rv, h_rv, h⟩ := bnd h
 refine ji_region ⟨[(6, .own Rp.byte 5 14 [] rv)], []⟩ (ro_o 3 [.sl Rp.byte [0] b, kI fromv, kI tov] ⟨[(23, .sl Rp.byte [0] v2)], []⟩ rfl (lo_cut (some (kI fromv)) (some (kI tov)) rfl zet25.el (isSl_sl _ _ _) ⟨rfl, rfl⟩ ⟨rfl, rfl⟩ h_v2) rfl (by kernel_rfl) (ro_o 0 [.sl Rp.byte [0] v2] ⟨[(24, .own (Rp.list Rp.byte) 25 13 [0] ([v2] : (List (List UInt8))))], []⟩ rfl (lo_bsl [.sl Rp.byte [0] v2] 13 [0] ([v2] : (List (List UInt8))) rfl zet49 rfl rfl rfl rfl) rfl (by kernel_rfl) (ro_oz 0 [.own (Rp.list Rp.byte) 25 13 [0] ([v2] : (List (List UInt8)))] rfl (lo_call [.own (Rp.list Rp.byte) 25 13 [0] ([v2] : (List (List UInt8)))] [13, 0] 12 rfl Try.call36 (slices_Concat___byte_byte__ok h_rv) rfl rfl rfl rfl rfl) rfl (by kernel_rfl)))) ?_
 obtain rfl := sj h
 refine je_ret ?_
 refine le_px ⟨[(6, .own Rp.byte 5 14 [] rv)], []⟩ (by kernel_rfl) (le_rn 14 2 rfl (le_px ⟨[(6, .own Rp.byte 5 2 [] rv)], []⟩ (by kernel_rfl) ?_))
 exact le_z (by kernel_rfl)
end Go.Proofs.Ytdpolccecmaajaa
