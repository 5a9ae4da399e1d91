/-
  The Go functions do what the plain functions say. No condition.
-/
import Derived.Test.YtnhnanbgphdaeaaG3
namespace Go.Proofs.Ytnhnanbgphdaeaa
open Go Go.RowKit
set_option linter.unusedVariables false
set_option maxRecDepth 100000
theorem record_Next_ok {b : (List UInt8)} {fromv : Int} {r : (T_Number_Wire_From_At_To × Int)} (h : record_Next b fromv = some r) : FnOk Try.prog 8 [.sl Rp.byte [0] b, kI fromv] [.rc R_Number_Wire_From_At_To [] r.1, k8 r.2] := by
 refine fn_intro' (E := ⟨[(4, .ptr 2 0), (5, k8 r.2)], [⟨2, 25, [kI r.1.Number, kI r.1.Wire, kI r.1.From, kI r.1.At, kI r.1.To]⟩]⟩) 62 Try.func8 rfl rfl rfl ⟨⟨_, _, rfl, rfl, rfl, rfl, ⟨Try.isAgg25, Try.sizeOf25⟩⟩, rfl, trivial⟩ (fun w0 F => ?_)
 refine ji_start ?_
 refine ji_le (E' := ⟨[(0, .sl Rp.byte [0] b), (1, kI fromv)], []⟩) (fun _ _ _ hs => hs) ?_
 unfold record_Next at h
 refine ji_region ⟨[(0, .sl Rp.byte [0] b), (1, kI fromv), (4, .ptr 12 0)], [⟨12, 25, [kI 0, kI 0, kI 0, kI 0, kI 0]⟩]⟩ (ro_oz 0 [] rfl (lo_alloc 12 [kI 0, kI 0, kI 0, kI 0, kI 0] rfl Try.zeroValue25 rfl) rfl (by kernel_rfl)) ?_
 refine ji_region ⟨[(0, .sl Rp.byte [0] b), (1, kI fromv), (4, .ptr 12 0), (19, kB ((decide (fromv < 0)) || (decide (fromv ≥ (b.length : Int)))))], [⟨12, 25, [kI 0, kI 0, kI 0, kI 0, kI 0]⟩]⟩ ?_ ?_
 ·
  refine (ro_sp 3 14 (decide (fromv < 0)) ⟨[(0, .sl Rp.byte [0] b), (1, kI fromv), (4, .ptr 12 0), (14, kB (decide (fromv < 0)))], [⟨12, 25, [kI 0, kI 0, kI 0, kI 0, kI 0]⟩]⟩ (by kernel_rfl) rfl (fun hc1 => ?_) (fun hc1 => ?_))
  · exact (ro_zb 19 true ((decide (fromv < 0)) || (decide (fromv ≥ (b.length : Int)))) (by rw [hc1] <;> rfl) (by kernel_rfl) (by kernel_rfl))
  exact (ro_zb 19 (decide (fromv ≥ (b.length : Int))) ((decide (fromv < 0)) || (decide (fromv ≥ (b.length : Int)))) (by rw [hc1] <;> rfl) (by kernel_rfl) (by kernel_rfl))
 rcases ite_some h with ⟨hc2, h⟩ | ⟨hc2, h⟩
 ·
  refine ji_condT rfl hc2 ?_
  refine ji_region ⟨[(4, .ptr 12 0), (5, k8 2)], [⟨12, 25, [kI 0, kI 0, kI 0, kI 0, kI 0]⟩]⟩ (ro_o 0 [] ⟨[(4, .ptr 12 0), (20, .rc R_Number_Wire_From_At_To [] (⟨0, 0, 0, 0, 0⟩ : T_Number_Wire_From_At_To))], [⟨12, 25, [kI 0, kI 0, kI 0, kI 0, kI 0]⟩]⟩ rfl (lo_build (r := R_Number_Wire_From_At_To) [] [] (⟨0, 0, 0, 0, 0⟩ : T_Number_Wire_From_At_To) rfl stt25 rfl rfl) rfl (by kernel_rfl) (ro_obz 0 [.ptr 12 0, .rc R_Number_Wire_From_At_To [] (⟨0, 0, 0, 0, 0⟩ : T_Number_Wire_From_At_To)] [⟨12, 25, [kI 0, kI 0, kI 0, kI 0, kI 0]⟩] rfl (lo_str (r := R_Number_Wire_From_At_To) (b := ⟨12, 25, [kI 0, kI 0, kI 0, kI 0, kI 0]⟩) (off := 0) [kI 0, kI 0, kI 0, kI 0, kI 0] rfl Try.sizeOf25 rfl rfl rfl rfl) rfl rfl (by kernel_rfl))) ?_
  obtain rfl := sj h
  refine je_ret ?_
  refine le_px ⟨[(4, .ptr 12 0), (5, k8 2)], [⟨12, 25, [kI 0, kI 0, kI 0, kI 0, kI 0]⟩]⟩ (by kernel_rfl) (le_rn 12 2 rfl (le_px ⟨[(4, .ptr 2 0), (5, k8 2)], [⟨2, 25, [kI 0, kI 0, kI 0, kI 0, kI 0]⟩]⟩ (by kernel_rfl) ?_))
  exact le_z (by kernel_rfl)
 refine ji_condF rfl hc2 ?_
 obtain ⟨v2, h_v2, h⟩ := bnd h
 obtain ⟨rv, h_rv, h⟩ := bnd h
 refine ji_region ⟨[(0, .sl Rp.byte [0] b), (1, kI fromv), (4, .ptr 12 0), (6, .ptr 13 0), (7, kI rv.2.1), (8, k8 rv.2.2)], [⟨12, 25, [kI 0, kI 0, kI 0, kI 0, kI 0]⟩, ⟨13, 50, [kI rv.1.Number, kI rv.1.Wire]⟩]⟩ (ro_o 2 [.sl Rp.byte [0] b, kI fromv] ⟨[(0, .sl Rp.byte [0] b), (1, kI fromv), (4, .ptr 12 0), (24, .sl Rp.byte [0] v2)], [⟨12, 25, [kI 0, kI 0, kI 0, kI 0, kI 0]⟩]⟩ rfl (lo_cut (some (kI fromv)) none rfl zet22.el (isSl_sl _ _ _) ⟨rfl, rfl⟩ ⟨rfl, rfl⟩ h_v2) rfl (by kernel_rfl) (ro_o 0 [.sl Rp.byte [0] v2] ⟨[(0, .sl Rp.byte [0] b), (1, kI fromv), (4, .ptr 12 0), (25, .tup [.rc R_Number_Wire [] rv.1, kI rv.2.1, k8 rv.2.2])], [⟨12, 25, [kI 0, kI 0, kI 0, kI 0, kI 0]⟩]⟩ rfl (lo_call [.sl Rp.byte [0] v2] [0] 11 rfl Try.call19 (tag_Read_ok h_rv) rfl rfl rfl rfl rfl) rfl (by kernel_rfl) (ro_o 4 [] ⟨[(0, .sl Rp.byte [0] b), (1, kI fromv), (4, .ptr 12 0), (6, .ptr 13 0), (26, .rc R_Number_Wire [] rv.1), (27, kI rv.2.1), (28, k8 rv.2.2)], [⟨12, 25, [kI 0, kI 0, kI 0, kI 0, kI 0]⟩, ⟨13, 50, [kI 0, kI 0]⟩]⟩ rfl (lo_alloc 13 [kI 0, kI 0] rfl Try.zeroValue50 rfl) rfl (by kernel_rfl) (ro_obz 0 [.ptr 13 0, .rc R_Number_Wire [] rv.1] [⟨13, 50, [kI 0, kI 0]⟩] rfl (lo_str (r := R_Number_Wire) (b := ⟨13, 50, [kI 0, kI 0]⟩) (off := 0) [kI rv.1.Number, kI rv.1.Wire] rfl Try.sizeOf50 rfl rfl rfl rfl) rfl rfl (by kernel_rfl))))) ?_
 refine ji_rz ⟨[(0, .sl Rp.byte [0] b), (1, kI fromv), (4, .ptr 12 0), (6, .ptr 13 0), (7, kI rv.2.1), (8, k8 rv.2.2), (30, kB (rv.2.2 != 0))], [⟨12, 25, [kI 0, kI 0, kI 0, kI 0, kI 0]⟩, ⟨13, 50, [kI rv.1.Number, kI rv.1.Wire]⟩]⟩ (by kernel_rfl) ?_
 rcases ite_some h with ⟨hc3, h⟩ | ⟨hc3, h⟩
 ·
  refine ji_condT rfl hc3 ?_
  refine ji_region ⟨[(4, .ptr 12 0), (5, k8 rv.2.2)], [⟨12, 25, [kI 0, kI 0, kI 0, kI 0, kI 0]⟩]⟩ (ro_o 0 [] ⟨[(4, .ptr 12 0), (8, k8 rv.2.2), (31, .rc R_Number_Wire_From_At_To [] (⟨0, 0, 0, 0, 0⟩ : T_Number_Wire_From_At_To))], [⟨12, 25, [kI 0, kI 0, kI 0, kI 0, kI 0]⟩]⟩ rfl (lo_build (r := R_Number_Wire_From_At_To) [] [] (⟨0, 0, 0, 0, 0⟩ : T_Number_Wire_From_At_To) rfl stt25 rfl rfl) rfl (by kernel_rfl) (ro_obz 1 [.ptr 12 0, .rc R_Number_Wire_From_At_To [] (⟨0, 0, 0, 0, 0⟩ : T_Number_Wire_From_At_To)] [⟨12, 25, [kI 0, kI 0, kI 0, kI 0, kI 0]⟩] rfl (lo_str (r := R_Number_Wire_From_At_To) (b := ⟨12, 25, [kI 0, kI 0, kI 0, kI 0, kI 0]⟩) (off := 0) [kI 0, kI 0, kI 0, kI 0, kI 0] rfl Try.sizeOf25 rfl rfl rfl rfl) rfl rfl (by kernel_rfl))) ?_
  obtain rfl := sj h
  refine je_ret ?_
  refine le_px ⟨[(4, .ptr 12 0), (5, k8 rv.2.2)], [⟨12, 25, [kI 0, kI 0, kI 0, kI 0, kI 0]⟩]⟩ (by kernel_rfl) (le_rn 12 2 rfl (le_px ⟨[(4, .ptr 2 0), (5, k8 rv.2.2)], [⟨2, 25, [kI 0, kI 0, kI 0, kI 0, kI 0]⟩]⟩ (by kernel_rfl) ?_))
  exact le_z (by kernel_rfl)
 refine ji_condF rfl hc3 ?_
 refine ji_rz ⟨[(0, .sl Rp.byte [0] b), (1, kI fromv), (4, .ptr 12 0), (6, .ptr 13 0), (9, kI (IntKind.i64.wrap (fromv + rv.2.1)))], [⟨12, 25, [kI 0, kI 0, kI 0, kI 0, kI 0]⟩, ⟨13, 50, [kI rv.1.Number, kI rv.1.Wire]⟩]⟩ (by kernel_rfl) ?_
 obtain ⟨v3, h_v3, h⟩ := bnd h
 obtain ⟨rv2, h_rv2, h⟩ := bnd h
 refine ji_draw ⟨[(1, kI fromv), (4, .ptr 12 0), (6, .ptr 13 0), (8, k8 rv2.2.2), (9, kI (IntKind.i64.wrap (fromv + rv.2.1))), (10, kI rv2.1), (11, kI rv2.2.1)], [⟨12, 25, [kI 0, kI 0, kI 0, kI 0, kI 0]⟩, ⟨13, 50, [kI rv.1.Number, kI rv.1.Wire]⟩]⟩ [.ev, .ev, .ev, .ev, .ex [] [] [] (.sl Rp.byte [0] v3) [], .ex [] [] [] (.tup [kI rv2.1, kI rv2.2.1, k8 rv2.2.2]) []] [([(.tmp 39, .sl Rp.byte [0] b), (.tmp 40, kI (IntKind.i64.wrap (fromv + rv.2.1)))], []), ([(.func 20, .lf (.val (.func (.func 20) #[] #[]))), (.tmp 38, kI rv.1.Wire), (.tmp 41, .sl Rp.byte [0] v3)], [])] [1, 4, 6, 8, 9, 10, 11] [12, 13] mixed (by kernel_rfl) (by exact (lw_e (lw_e (lw_e (lw_e (lw_x (lo_as (lo_cut (some (kI (IntKind.i64.wrap (fromv + rv.2.1)))) none rfl zet22.el (isSl_sl _ _ _) ⟨rfl, rfl⟩ ⟨rfl, rfl⟩ h_v3) rfl) (lw_x (LocalOk.cons _ (lo_as (lo_call (args := [.tmp 38, .tmp 41]) [kI rv.1.Wire, .sl Rp.byte [0] v3] [0] 12 rfl Try.call20 (record_span_ok h_rv2) rfl rfl rfl rfl rfl) rfl)) lw_0))))))) ?_
 refine ji_rz ⟨[(1, kI fromv), (4, .ptr 12 0), (6, .ptr 13 0), (8, k8 rv2.2.2), (9, kI (IntKind.i64.wrap (fromv + rv.2.1))), (10, kI rv2.1), (11, kI rv2.2.1), (47, kB (rv2.2.2 != 0))], [⟨12, 25, [kI 0, kI 0, kI 0, kI 0, kI 0]⟩, ⟨13, 50, [kI rv.1.Number, kI rv.1.Wire]⟩]⟩ (by kernel_rfl) ?_
 rcases ite_some h with ⟨hc4, h⟩ | ⟨hc4, h⟩
 ·
  refine ji_condT rfl hc4 ?_
  refine ji_region ⟨[(4, .ptr 12 0), (5, k8 rv2.2.2)], [⟨12, 25, [kI 0, kI 0, kI 0, kI 0, kI 0]⟩]⟩ (ro_o 0 [] ⟨[(4, .ptr 12 0), (8, k8 rv2.2.2), (48, .rc R_Number_Wire_From_At_To [] (⟨0, 0, 0, 0, 0⟩ : T_Number_Wire_From_At_To))], [⟨12, 25, [kI 0, kI 0, kI 0, kI 0, kI 0]⟩]⟩ rfl (lo_build (r := R_Number_Wire_From_At_To) [] [] (⟨0, 0, 0, 0, 0⟩ : T_Number_Wire_From_At_To) rfl stt25 rfl rfl) rfl (by kernel_rfl) (ro_obz 1 [.ptr 12 0, .rc R_Number_Wire_From_At_To [] (⟨0, 0, 0, 0, 0⟩ : T_Number_Wire_From_At_To)] [⟨12, 25, [kI 0, kI 0, kI 0, kI 0, kI 0]⟩] rfl (lo_str (r := R_Number_Wire_From_At_To) (b := ⟨12, 25, [kI 0, kI 0, kI 0, kI 0, kI 0]⟩) (off := 0) [kI 0, kI 0, kI 0, kI 0, kI 0] rfl Try.sizeOf25 rfl rfl rfl rfl) rfl rfl (by kernel_rfl))) ?_
  obtain rfl := sj h
  refine je_ret ?_
  refine le_px ⟨[(4, .ptr 12 0), (5, k8 rv2.2.2)], [⟨12, 25, [kI 0, kI 0, kI 0, kI 0, kI 0]⟩]⟩ (by kernel_rfl) (le_rn 12 2 rfl (le_px ⟨[(4, .ptr 2 0), (5, k8 rv2.2.2)], [⟨2, 25, [kI 0, kI 0, kI 0, kI 0, kI 0]⟩]⟩ (by kernel_rfl) ?_))
  exact le_z (by kernel_rfl)
 refine ji_condF rfl hc4 ?_
 refine ji_region ⟨[(4, .ptr 12 0), (5, k8 0)], [⟨12, 25, [kI rv.1.Number, kI rv.1.Wire, kI fromv, kI (IntKind.i64.wrap ((IntKind.i64.wrap (fromv + rv.2.1)) + rv2.1)), kI (IntKind.i64.wrap ((IntKind.i64.wrap (fromv + rv.2.1)) + rv2.2.1))]⟩]⟩ (ro_o 11 [kI rv.1.Number, kI rv.1.Wire, kI fromv, kI (IntKind.i64.wrap ((IntKind.i64.wrap (fromv + rv.2.1)) + rv2.1)), kI (IntKind.i64.wrap ((IntKind.i64.wrap (fromv + rv.2.1)) + rv2.2.1))] ⟨[(4, .ptr 12 0), (61, .rc R_Number_Wire_From_At_To [] (⟨rv.1.Number, rv.1.Wire, fromv, (IntKind.i64.wrap ((IntKind.i64.wrap (fromv + rv.2.1)) + rv2.1)), (IntKind.i64.wrap ((IntKind.i64.wrap (fromv + rv.2.1)) + rv2.2.1))⟩ : T_Number_Wire_From_At_To))], [⟨12, 25, [kI 0, kI 0, kI 0, kI 0, kI 0]⟩]⟩ rfl (lo_build (r := R_Number_Wire_From_At_To) [kI rv.1.Number, kI rv.1.Wire, kI fromv, kI (IntKind.i64.wrap ((IntKind.i64.wrap (fromv + rv.2.1)) + rv2.1)), kI (IntKind.i64.wrap ((IntKind.i64.wrap (fromv + rv.2.1)) + rv2.2.1))] [] (⟨rv.1.Number, rv.1.Wire, fromv, (IntKind.i64.wrap ((IntKind.i64.wrap (fromv + rv.2.1)) + rv2.1)), (IntKind.i64.wrap ((IntKind.i64.wrap (fromv + rv.2.1)) + rv2.2.1))⟩ : T_Number_Wire_From_At_To) rfl stt25 rfl rfl) rfl (by kernel_rfl) (ro_obz 0 [.ptr 12 0, .rc R_Number_Wire_From_At_To [] (⟨rv.1.Number, rv.1.Wire, fromv, (IntKind.i64.wrap ((IntKind.i64.wrap (fromv + rv.2.1)) + rv2.1)), (IntKind.i64.wrap ((IntKind.i64.wrap (fromv + rv.2.1)) + rv2.2.1))⟩ : T_Number_Wire_From_At_To)] [⟨12, 25, [kI 0, kI 0, kI 0, kI 0, kI 0]⟩] rfl (lo_str (r := R_Number_Wire_From_At_To) (b := ⟨12, 25, [kI 0, kI 0, kI 0, kI 0, kI 0]⟩) (off := 0) [kI rv.1.Number, kI rv.1.Wire, kI fromv, kI (IntKind.i64.wrap ((IntKind.i64.wrap (fromv + rv.2.1)) + rv2.1)), kI (IntKind.i64.wrap ((IntKind.i64.wrap (fromv + rv.2.1)) + rv2.2.1))] rfl Try.sizeOf25 rfl rfl rfl rfl) rfl rfl (by kernel_rfl))) ?_
 obtain rfl := sj h
 refine je_ret ?_
 refine le_px ⟨[(4, .ptr 12 0), (5, k8 0)], [⟨12, 25, [kI rv.1.Number, kI rv.1.Wire, kI fromv, kI (IntKind.i64.wrap ((IntKind.i64.wrap (fromv + rv.2.1)) + rv2.1)), kI (IntKind.i64.wrap ((IntKind.i64.wrap (fromv + rv.2.1)) + rv2.2.1))]⟩]⟩ (by kernel_rfl) (le_rn 12 2 rfl (le_px ⟨[(4, .ptr 2 0), (5, k8 0)], [⟨2, 25, [kI rv.1.Number, kI rv.1.Wire, kI fromv, kI (IntKind.i64.wrap ((IntKind.i64.wrap (fromv + rv.2.1)) + rv2.1)), kI (IntKind.i64.wrap ((IntKind.i64.wrap (fromv + rv.2.1)) + rv2.2.1))]⟩]⟩ (by kernel_rfl) ?_))
 exact le_z (by kernel_rfl)
theorem darningref05_Split_ok {b : (List UInt8)} {r : ((List T_Number_Wire_From_At_To) × Int × Int)} (h : darningref05_Split b = some r) : FnOk Try.prog 11 [.sl Rp.byte [0] b] [.own R_Number_Wire_From_At_To 29 2 [] r.1, kI r.2.1, kI r.2.2] := by
 refine fn_intro' (E := ⟨[(2, .own R_Number_Wire_From_At_To 29 2 [] r.1), (3, kI r.2.1), (4, kI r.2.2)], []⟩) 30 Try.func11 rfl rfl rfl ⟨rfl, rfl, rfl, trivial⟩ (fun w0 F => ?_)
 refine ji_start ?_
 refine ji_le (E' := ⟨[(0, .sl Rp.byte [0] b)], []⟩) (fun _ _ _ hs => hs) ?_
 unfold darningref05_Split at h
 refine ji_rz ⟨[(0, .sl Rp.byte [0] b)], []⟩ (by kernel_rfl) ?_
 refine ji_rz ⟨[(0, .sl Rp.byte [0] b), (5, kN)], []⟩ (by kernel_rfl) ?_
 refine ji_rz ⟨[(0, .sl Rp.byte [0] b), (5, kN), (6, kI 0)], []⟩ (by kernel_rfl) ?_
 refine ji_block ?_
 obtain ⟨q, h_q, h⟩ := bnd h
 refine je_loop (fun s : ((List T_Number_Wire_From_At_To) × Int) => darningref05_Split_b1 b s.1 s.2) (fun s => ⟨[(0, .sl Rp.byte [0] b), (5, .own R_Number_Wire_From_At_To 29 18 [] s.1), (6, kI s.2)], []⟩) (fun o e a w => match o with | (.inl v_) => e = .exit 0 ∧ Sx ⟨30, w0, F⟩ ⟨[(5, .own R_Number_Wire_From_At_To 29 18 [] v_)], []⟩ a w | (.inr v_) => e = .ret ∧ Sx ⟨30, w0, F⟩ ⟨[(2, kN), (3, kI v_.1), (4, kI v_.2)], []⟩ a w) ?_ h_q ?_ ?_
 ·
  clear h
  intro s o h
  obtain ⟨out, atv⟩ := s
  refine ji_start ?_
  refine ji_le (E' := ⟨[(0, .sl Rp.byte [0] b), (5, .own R_Number_Wire_From_At_To 29 18 [] out), (6, kI atv)], []⟩) (fun _ _ _ hs => hs) ?_
  replace h : darningref05_Split_b1 b out atv = some o := h
  unfold darningref05_Split_b1 at h
  refine ji_rz ⟨[(0, .sl Rp.byte [0] b), (5, .own R_Number_Wire_From_At_To 29 18 [] out), (6, kI atv), (12, kB (decide (atv < (b.length : Int))))], []⟩ (by kernel_rfl) ?_
  rcases ite_some h with ⟨hc1, h⟩ | ⟨hc1, h⟩
  ·
   refine ji_condT rfl hc1 ?_
   refine ji_block ?_
   obtain ⟨rv, h_rv, h⟩ := bnd h
   refine ji_region ⟨[(0, .sl Rp.byte [0] b), (5, .own R_Number_Wire_From_At_To 29 18 [] out), (6, kI atv), (7, .ptr 19 0), (8, kI rv.2)], [⟨19, 29, [kI rv.1.Number, kI rv.1.Wire, kI rv.1.From, kI rv.1.At, kI rv.1.To]⟩]⟩ (ro_o 2 [.sl Rp.byte [0] b, kI atv] ⟨[(0, .sl Rp.byte [0] b), (5, .own R_Number_Wire_From_At_To 29 18 [] out), (6, kI atv), (16, .tup [.rc R_Number_Wire_From_At_To [] rv.1, kI rv.2])], []⟩ rfl (lo_call [.sl Rp.byte [0] b, kI atv] [0] 17 rfl Try.call9 (darningref05_Next_ok h_rv) rfl rfl rfl rfl rfl) rfl (by kernel_rfl) (ro_o 3 [] ⟨[(0, .sl Rp.byte [0] b), (5, .own R_Number_Wire_From_At_To 29 18 [] out), (6, kI atv), (7, .ptr 19 0), (17, .rc R_Number_Wire_From_At_To [] rv.1), (18, kI rv.2)], [⟨19, 29, [kI 0, kI 0, kI 0, kI 0, kI 0]⟩]⟩ rfl (lo_alloc 19 [kI 0, kI 0, kI 0, kI 0, kI 0] rfl Try.zeroValue29 rfl) rfl (by kernel_rfl) (ro_obz 0 [.ptr 19 0, .rc R_Number_Wire_From_At_To [] rv.1] [⟨19, 29, [kI 0, kI 0, kI 0, kI 0, kI 0]⟩] rfl (lo_str (r := R_Number_Wire_From_At_To) (b := ⟨19, 29, [kI 0, kI 0, kI 0, kI 0, kI 0]⟩) (off := 0) [kI rv.1.Number, kI rv.1.Wire, kI rv.1.From, kI rv.1.At, kI rv.1.To] rfl Try.sizeOf29 rfl rfl rfl rfl) rfl rfl (by kernel_rfl)))) ?_
   refine ji_rz ⟨[(0, .sl Rp.byte [0] b), (5, .own R_Number_Wire_From_At_To 29 18 [] out), (6, kI atv), (7, .ptr 19 0), (8, kI rv.2), (20, kB (rv.2 != 0))], [⟨19, 29, [kI rv.1.Number, kI rv.1.Wire, kI rv.1.From, kI rv.1.At, kI rv.1.To]⟩]⟩ (by kernel_rfl) ?_
   rcases ite_some h with ⟨hc2, h⟩ | ⟨hc2, h⟩
   ·
    refine ji_condT rfl hc2 ?_
    refine ji_rz ⟨[(2, kN), (3, kI atv), (4, kI rv.2)], []⟩ (by kernel_rfl) ?_
    obtain rfl := sj h
    exact je_ret' (le_z (by kernel_rfl))
   refine ji_condF rfl hc2 ?_
   obtain ⟨v3, h_v3, h⟩ := bnd h
   refine ji_region ⟨[(0, .sl Rp.byte [0] b), (5, .own R_Number_Wire_From_At_To 29 18 [] v3), (7, .ptr 19 0)], [⟨19, 29, [kI rv.1.Number, kI rv.1.Wire, kI rv.1.From, kI rv.1.At, kI rv.1.To]⟩]⟩ (ro_ob 1 [.ptr 19 0] [⟨19, 29, [kI rv.1.Number, kI rv.1.Wire, kI rv.1.From, kI rv.1.At, kI rv.1.To]⟩] ⟨[(0, .sl Rp.byte [0] b), (7, .ptr 19 0), (23, .own R_Number_Wire_From_At_To 29 18 [] out), (24, .rc R_Number_Wire_From_At_To [] rv.1)], [⟨19, 29, [kI rv.1.Number, kI rv.1.Wire, kI rv.1.From, kI rv.1.At, kI rv.1.To]⟩]⟩ rfl (lo_ldb (r := R_Number_Wire_From_At_To) rv.1 [] rfl ⟨Try.isAgg29, Try.sizeOf29⟩ rfl rfl) rfl rfl (by kernel_rfl) (ro_o 0 [.rc R_Number_Wire_From_At_To [] rv.1] ⟨[(0, .sl Rp.byte [0] b), (7, .ptr 19 0), (23, .own R_Number_Wire_From_At_To 29 18 [] out), (25, .own R_Number_Wire_From_At_To 29 20 [] ([rv.1] : (List T_Number_Wire_From_At_To)))], [⟨19, 29, [kI rv.1.Number, kI rv.1.Wire, kI rv.1.From, kI rv.1.At, kI rv.1.To]⟩]⟩ rfl (lo_bsl [.rc R_Number_Wire_From_At_To [] rv.1] 20 [] ([rv.1] : (List T_Number_Wire_From_At_To)) rfl zet35 rfl rfl rfl rfl) rfl (by kernel_rfl) (ro_oz 0 [.own R_Number_Wire_From_At_To 29 18 [] out, .own R_Number_Wire_From_At_To 29 20 [] ([rv.1] : (List T_Number_Wire_From_At_To))] rfl (lo_app 18 [] rfl zet35.el rfl (isOwn_own _ _ _ _ _) (isSl_own _ _ _ _ _) h_v3 (.inl plain_Number_Wire_From_At_To) rfl) rfl (by kernel_rfl)))) ?_
   refine ji_rz ⟨[(0, .sl Rp.byte [0] b), (5, .own R_Number_Wire_From_At_To 29 18 [] v3), (6, kI rv.1.To)], []⟩ (by kernel_rfl) ?_
   refine ji_end ?_
   obtain rfl := sj h
   exact je_nil (le_z (by kernel_rfl))
  refine ji_condF rfl hc1 ?_
  obtain rfl := sj h
  exact je_out' rfl (le_z (by kernel_rfl))
 ·
  refine le_at 5 (.own R_Number_Wire_From_At_To 29 18 [] []) rfl (le_own_nil R_Number_Wire_From_At_To 29 18 [] rfl) ?_
  exact le_z (by kernel_rfl)
 rcases q with u | u2
 ·
  refine k_exit _ rfl ?_
  refine ji_rz ⟨[(2, .own R_Number_Wire_From_At_To 29 18 [] u), (3, kI 0), (4, kI 0)], []⟩ (by kernel_rfl) ?_
  obtain rfl := sj h
  refine je_ret ?_
  refine le_px ⟨[(2, .own R_Number_Wire_From_At_To 29 18 [] u), (3, kI 0), (4, kI 0)], []⟩ (by kernel_rfl) (le_rn 18 2 rfl (le_px ⟨[(2, .own R_Number_Wire_From_At_To 29 2 [] u), (3, kI 0), (4, kI 0)], []⟩ (by kernel_rfl) ?_))
  exact le_z (by kernel_rfl)
 obtain rfl := sj h
 refine ke_ret ?_
 refine le_at 2 (.own R_Number_Wire_From_At_To 29 2 [] (([], u2.1, u2.2) : ((List T_Number_Wire_From_At_To) × Int × Int)).1) rfl (le_own_nil R_Number_Wire_From_At_To 29 2 [] rfl) ?_
 exact le_z (by kernel_rfl)
theorem record_fits_ok {wire : Int} {value : (List UInt8)} {r : Bool} (h : record_fits wire value = some r) : FnOk Try.prog 24 [kI wire, .sl Rp.byte [0] value] [kB r] := by
 refine fn_intro' (E := ⟨[(4, kB r)], []⟩) 25 Try.func24 rfl rfl rfl ⟨rfl, trivial⟩ (fun w0 F => ?_)
 refine ji_start ?_
 refine ji_le (E' := ⟨[(0, kI wire), (1, .sl Rp.byte [0] value)], []⟩) (fun _ _ _ hs => hs) ?_
 unfold record_fits at h
 refine ji_rz ⟨[(0, kI wire), (1, .sl Rp.byte [0] value)], []⟩ (by kernel_rfl) ?_
 refine ji_rz ⟨[(0, kI wire), (1, .sl Rp.byte [0] value), (9, kB (wire == 2))], []⟩ (by kernel_rfl) ?_
 rcases ite_some h with ⟨hc1, h⟩ | ⟨hc1, h⟩
 ·
  refine ji_condT rfl hc1 ?_
  refine ji_rz ⟨[(4, kB true)], []⟩ (by kernel_rfl) ?_
  obtain rfl := sj h
  exact je_ret (le_z (by kernel_rfl))
 refine ji_condF rfl hc1 ?_
 obtain ⟨rv, h_rv, h⟩ := bnd h
 refine ji_region ⟨[(1, .sl Rp.byte [0] value), (6, kI rv.2.1), (7, k8 rv.2.2)], []⟩ (ro_oz 2 [kI wire, .sl Rp.byte [0] value] rfl (lo_call [kI wire, .sl Rp.byte [0] value] [0] 9 rfl Try.call20 (record_span_ok h_rv) rfl rfl rfl rfl rfl) rfl (by kernel_rfl)) ?_
 refine ji_region ⟨[(4, kB ((rv.2.2 == 0) && (rv.2.1 == (value.length : Int))))], []⟩ ?_ ?_
 ·
  refine (ro_sp 3 19 (rv.2.2 == 0) ⟨[(1, .sl Rp.byte [0] value), (6, kI rv.2.1), (19, kB (rv.2.2 == 0))], []⟩ (by kernel_rfl) rfl (fun hc2 => ?_) (fun hc2 => ?_))
  · exact (ro_zb 4 (rv.2.1 == (value.length : Int)) ((rv.2.2 == 0) && (rv.2.1 == (value.length : Int))) (by rw [hc2] <;> rfl) (by kernel_rfl) (by kernel_rfl))
  exact (ro_zb 4 false ((rv.2.2 == 0) && (rv.2.1 == (value.length : Int))) (by rw [hc2] <;> rfl) (by kernel_rfl) (by kernel_rfl))
 obtain rfl := sj h
 exact je_ret (le_z (by kernel_rfl))
theorem record_Value_ok {b : (List UInt8)} {rv : T_Number_Wire_From_At_To} {r : (List UInt8)} (h : record_Value b rv = some r) : FnOk Try.prog 18 [.sl Rp.byte [0] b, .rc R_Number_Wire_From_At_To [0] rv] [.own Rp.byte 5 2 [] r] := by
 refine fn_intro' (E := ⟨[(4, .own Rp.byte 5 2 [] r)], []⟩) 11 Try.func18 rfl rfl rfl ⟨rfl, trivial⟩ (fun w0 F => ?_)
 refine ji_start ?_
 refine ji_le (E' := ⟨[(0, .sl Rp.byte [0] b), (1, .rc R_Number_Wire_From_At_To [0] rv)], []⟩) (fun _ _ _ hs => hs) ?_
 unfold record_Value at h
 refine ji_region ⟨[(0, .sl Rp.byte [0] b), (3, .ptr 13 0)], [⟨13, 25, [kI rv.Number, kI rv.Wire, kI rv.From, kI rv.At, kI rv.To]⟩]⟩ (ro_oz 0 [.rc R_Number_Wire_From_At_To [0] rv] rfl (lo_box 13 [kI rv.Number, kI rv.Wire, kI rv.From, kI rv.At, kI rv.To] [0] rfl rfl rfl rfl rfl) rfl (by kernel_rfl)) ?_
 obtain ⟨rv2, h_rv2, h⟩ := bnd h
 refine ji_region ⟨[(4, .own Rp.byte 5 14 [] rv2)], []⟩ (ro_oz 5 [.sl Rp.byte [0] b, kI rv.At, kI rv.To] rfl (lo_call [.sl Rp.byte [0] b, kI rv.At, kI rv.To] [0] 12 rfl Try.call29 (record_piece_ok h_rv2) rfl rfl rfl rfl rfl) rfl (by kernel_rfl)) ?_
 obtain rfl := sj h
 refine je_ret ?_
 refine le_px ⟨[(4, .own Rp.byte 5 14 [] rv2)], []⟩ (by kernel_rfl) (le_rn 14 2 rfl (le_px ⟨[(4, .own Rp.byte 5 2 [] rv2)], []⟩ (by kernel_rfl) ?_))
 exact le_z (by kernel_rfl)
end Go.Proofs.Ytnhnanbgphdaeaa
