/-
  The Go functions do what the plain functions say. No condition.
-/
import Derived.Test.YtdpolccecmaajaaG3
namespace Go.Proofs.Ytdpolccecmaajaa
open Go Go.RowKit
set_option linter.unusedVariables false
set_option maxRecDepth 100000
theorem record_Next_ok {b : (List UInt8)} {fromv : Int} {r : (T_Number_Wire_From_At_To × Int)} (h : record_Next b fromv = some r) : FnOk Try.prog 25 [.sl Rp.byte [0] b, kI fromv] [.rc R_Number_Wire_From_At_To [] r.1, k8 r.2] := by
 refine fn_intro' (E := ⟨[(4, .ptr 2 0), (5, k8 r.2)], [⟨2, 29, [kI r.1.Number, kI r.1.Wire, kI r.1.From, kI r.1.At, kI r.1.To]⟩]⟩) 62 Try.func25 rfl rfl rfl ⟨⟨_, _, rfl, rfl, rfl, rfl, ⟨Try.isAgg29, Try.sizeOf29⟩⟩, rfl, trivial⟩ (fun Xt => ?_)
 refine ji_start ?_
 refine ji_le (E' := ⟨[(0, .sl Rp.byte [0] b), (1, kI fromv)], []⟩) (fun _ _ _ hs => hs) ?_
 unfold record_Next at h
 refine ji_region ⟨[(0, .sl Rp.byte [0] b), (1, kI fromv), (4, .ptr 12 0)], [⟨12, 29, [kI 0, kI 0, kI 0, kI 0, kI 0]⟩]⟩ (ro_oz 0 [] rfl (lo_alloc 12 [kI 0, kI 0, kI 0, kI 0, kI 0] rfl Try.zeroValue29 rfl) rfl (by kernel_rfl)) ?_
 refine ji_region ⟨[(0, .sl Rp.byte [0] b), (1, kI fromv), (4, .ptr 12 0), (19, kB ((decide (fromv < 0)) || (decide (fromv ≥ (b.length : Int)))))], [⟨12, 29, [kI 0, kI 0, kI 0, kI 0, kI 0]⟩]⟩ ?_ ?_
 ·
  refine (ro_sp 3 14 (decide (fromv < 0)) ⟨[(0, .sl Rp.byte [0] b), (1, kI fromv), (4, .ptr 12 0), (14, kB (decide (fromv < 0)))], [⟨12, 29, [kI 0, kI 0, kI 0, kI 0, kI 0]⟩]⟩ (by kernel_rfl) rfl (fun hc1 => ?_) (fun hc1 => ?_))
  · exact (ro_zb 19 true ((decide (fromv < 0)) || (decide (fromv ≥ (b.length : Int)))) (by rw [hc1] <;> rfl) (by kernel_rfl) (by kernel_rfl))
  exact (ro_zb 19 (decide (fromv ≥ (b.length : Int))) ((decide (fromv < 0)) || (decide (fromv ≥ (b.length : Int)))) (by rw [hc1] <;> rfl) (by kernel_rfl) (by kernel_rfl))
 rcases ite_some h with ⟨hc2, h⟩ | ⟨hc2, h⟩
 ·
  refine ji_condT rfl hc2 ?_
  refine ji_region ⟨[(4, .ptr 12 0), (5, k8 2)], [⟨12, 29, [kI 0, kI 0, kI 0, kI 0, kI 0]⟩]⟩ (ro_o 0 [] ⟨[(4, .ptr 12 0), (20, .rc R_Number_Wire_From_At_To [] (⟨0, 0, 0, 0, 0⟩ : T_Number_Wire_From_At_To))], [⟨12, 29, [kI 0, kI 0, kI 0, kI 0, kI 0]⟩]⟩ rfl (lo_build (r := R_Number_Wire_From_At_To) [] [] (⟨0, 0, 0, 0, 0⟩ : T_Number_Wire_From_At_To) rfl stt29 rfl rfl) rfl (by kernel_rfl) (ro_obz 0 [.ptr 12 0, .rc R_Number_Wire_From_At_To [] (⟨0, 0, 0, 0, 0⟩ : T_Number_Wire_From_At_To)] [⟨12, 29, [kI 0, kI 0, kI 0, kI 0, kI 0]⟩] rfl (lo_str (r := R_Number_Wire_From_At_To) (b := ⟨12, 29, [kI 0, kI 0, kI 0, kI 0, kI 0]⟩) (off := 0) [kI 0, kI 0, kI 0, kI 0, kI 0] rfl Try.sizeOf29 rfl rfl rfl rfl) rfl rfl (by kernel_rfl))) ?_
  obtain rfl := sj h
  refine je_ret ?_
  refine le_px ⟨[(4, .ptr 12 0), (5, k8 2)], [⟨12, 29, [kI 0, kI 0, kI 0, kI 0, kI 0]⟩]⟩ (by kernel_rfl) (le_rn 12 2 rfl (le_px ⟨[(4, .ptr 2 0), (5, k8 2)], [⟨2, 29, [kI 0, kI 0, kI 0, kI 0, kI 0]⟩]⟩ (by kernel_rfl) ?_))
  exact le_z (by kernel_rfl)
 refine ji_condF rfl hc2 ?_
 obtain ⟨v2, h_v2, h⟩ := bnd h
 obtain ⟨rv, h_rv, h⟩ := bnd h
 refine ji_region ⟨[(0, .sl Rp.byte [0] b), (1, kI fromv), (4, .ptr 12 0), (6, .ptr 13 0), (7, kI rv.2.1), (8, k8 rv.2.2)], [⟨12, 29, [kI 0, kI 0, kI 0, kI 0, kI 0]⟩, ⟨13, 79, [kI rv.1.Number, kI rv.1.Wire]⟩]⟩ (ro_o 2 [.sl Rp.byte [0] b, kI fromv] ⟨[(0, .sl Rp.byte [0] b), (1, kI fromv), (4, .ptr 12 0), (24, .sl Rp.byte [0] v2)], [⟨12, 29, [kI 0, kI 0, kI 0, kI 0, kI 0]⟩]⟩ rfl (lo_cut (some (kI fromv)) none rfl zet25.el (isSl_sl _ _ _) ⟨rfl, rfl⟩ ⟨rfl, rfl⟩ h_v2) rfl (by kernel_rfl) (ro_o 0 [.sl Rp.byte [0] v2] ⟨[(0, .sl Rp.byte [0] b), (1, kI fromv), (4, .ptr 12 0), (25, .tup [.rc R_Number_Wire [] rv.1, kI rv.2.1, k8 rv.2.2])], [⟨12, 29, [kI 0, kI 0, kI 0, kI 0, kI 0]⟩]⟩ rfl (lo_call [.sl Rp.byte [0] v2] [0] 11 rfl Try.call30 (tag_Read_ok h_rv) rfl rfl rfl rfl rfl) rfl (by kernel_rfl) (ro_o 4 [] ⟨[(0, .sl Rp.byte [0] b), (1, kI fromv), (4, .ptr 12 0), (6, .ptr 13 0), (26, .rc R_Number_Wire [] rv.1), (27, kI rv.2.1), (28, k8 rv.2.2)], [⟨12, 29, [kI 0, kI 0, kI 0, kI 0, kI 0]⟩, ⟨13, 79, [kI 0, kI 0]⟩]⟩ rfl (lo_alloc 13 [kI 0, kI 0] rfl Try.zeroValue79 rfl) rfl (by kernel_rfl) (ro_obz 0 [.ptr 13 0, .rc R_Number_Wire [] rv.1] [⟨13, 79, [kI 0, kI 0]⟩] rfl (lo_str (r := R_Number_Wire) (b := ⟨13, 79, [kI 0, kI 0]⟩) (off := 0) [kI rv.1.Number, kI rv.1.Wire] rfl Try.sizeOf79 rfl rfl rfl rfl) rfl rfl (by kernel_rfl))))) ?_
 refine ji_rz ⟨[(0, .sl Rp.byte [0] b), (1, kI fromv), (4, .ptr 12 0), (6, .ptr 13 0), (7, kI rv.2.1), (8, k8 rv.2.2), (30, kB (rv.2.2 != 0))], [⟨12, 29, [kI 0, kI 0, kI 0, kI 0, kI 0]⟩, ⟨13, 79, [kI rv.1.Number, kI rv.1.Wire]⟩]⟩ (by kernel_rfl) ?_
 rcases ite_some h with ⟨hc3, h⟩ | ⟨hc3, h⟩
 ·
  refine ji_condT rfl hc3 ?_
  refine ji_region ⟨[(4, .ptr 12 0), (5, k8 rv.2.2)], [⟨12, 29, [kI 0, kI 0, kI 0, kI 0, kI 0]⟩]⟩ (ro_o 0 [] ⟨[(4, .ptr 12 0), (8, k8 rv.2.2), (31, .rc R_Number_Wire_From_At_To [] (⟨0, 0, 0, 0, 0⟩ : T_Number_Wire_From_At_To))], [⟨12, 29, [kI 0, kI 0, kI 0, kI 0, kI 0]⟩]⟩ rfl (lo_build (r := R_Number_Wire_From_At_To) [] [] (⟨0, 0, 0, 0, 0⟩ : T_Number_Wire_From_At_To) rfl stt29 rfl rfl) rfl (by kernel_rfl) (ro_obz 1 [.ptr 12 0, .rc R_Number_Wire_From_At_To [] (⟨0, 0, 0, 0, 0⟩ : T_Number_Wire_From_At_To)] [⟨12, 29, [kI 0, kI 0, kI 0, kI 0, kI 0]⟩] rfl (lo_str (r := R_Number_Wire_From_At_To) (b := ⟨12, 29, [kI 0, kI 0, kI 0, kI 0, kI 0]⟩) (off := 0) [kI 0, kI 0, kI 0, kI 0, kI 0] rfl Try.sizeOf29 rfl rfl rfl rfl) rfl rfl (by kernel_rfl))) ?_
  obtain rfl := sj h
  refine je_ret ?_
  refine le_px ⟨[(4, .ptr 12 0), (5, k8 rv.2.2)], [⟨12, 29, [kI 0, kI 0, kI 0, kI 0, kI 0]⟩]⟩ (by kernel_rfl) (le_rn 12 2 rfl (le_px ⟨[(4, .ptr 2 0), (5, k8 rv.2.2)], [⟨2, 29, [kI 0, kI 0, kI 0, kI 0, kI 0]⟩]⟩ (by kernel_rfl) ?_))
  exact le_z (by kernel_rfl)
 refine ji_condF rfl hc3 ?_
 refine ji_rz ⟨[(0, .sl Rp.byte [0] b), (1, kI fromv), (4, .ptr 12 0), (6, .ptr 13 0), (9, kI (IntKind.i64.wrap (fromv + rv.2.1)))], [⟨12, 29, [kI 0, kI 0, kI 0, kI 0, kI 0]⟩, ⟨13, 79, [kI rv.1.Number, kI rv.1.Wire]⟩]⟩ (by kernel_rfl) ?_
 obtain ⟨v3, h_v3, h⟩ := bnd h
 obtain ⟨rv2, h_rv2, h⟩ := bnd h
 refine ji_draw ⟨[(1, kI fromv), (4, .ptr 12 0), (6, .ptr 13 0), (8, k8 rv2.2.2), (9, kI (IntKind.i64.wrap (fromv + rv.2.1))), (10, kI rv2.1), (11, kI rv2.2.1)], [⟨12, 29, [kI 0, kI 0, kI 0, kI 0, kI 0]⟩, ⟨13, 79, [kI rv.1.Number, kI rv.1.Wire]⟩]⟩ [.ev, .ev, .ev, .ev, .ex [] [] [] (.sl Rp.byte [0] v3) [], .ex [] [] [] (.tup [kI rv2.1, kI rv2.2.1, k8 rv2.2.2]) []] [⟨[(.tmp 39, .sl Rp.byte [0] b), (.tmp 40, kI (IntKind.i64.wrap (fromv + rv.2.1)))], [], []⟩, ⟨[(.func 31, .lf (.val (.func (.func 31) #[] #[]))), (.tmp 38, kI rv.1.Wire), (.tmp 41, .sl Rp.byte [0] v3)], [], []⟩] [1, 4, 6, 8, 9, 10, 11] [12, 13] mixed (by kernel_rfl) (by exact (lw_e (lw_e (lw_e (lw_e (lw_x (lo_as (lo_cut (some (kI (IntKind.i64.wrap (fromv + rv.2.1)))) none rfl zet25.el (isSl_sl _ _ _) ⟨rfl, rfl⟩ ⟨rfl, rfl⟩ h_v3) rfl) (lw_x (LocalOk.cons _ (lo_as (lo_call (args := [.tmp 38, .tmp 41]) [kI rv.1.Wire, .sl Rp.byte [0] v3] [0] 12 rfl Try.call31 (record_span_ok h_rv2) rfl rfl rfl rfl rfl) rfl)) lw_0))))))) ?_
 refine ji_rz ⟨[(1, kI fromv), (4, .ptr 12 0), (6, .ptr 13 0), (8, k8 rv2.2.2), (9, kI (IntKind.i64.wrap (fromv + rv.2.1))), (10, kI rv2.1), (11, kI rv2.2.1), (47, kB (rv2.2.2 != 0))], [⟨12, 29, [kI 0, kI 0, kI 0, kI 0, kI 0]⟩, ⟨13, 79, [kI rv.1.Number, kI rv.1.Wire]⟩]⟩ (by kernel_rfl) ?_
 rcases ite_some h with ⟨hc4, h⟩ | ⟨hc4, h⟩
 ·
  refine ji_condT rfl hc4 ?_
  refine ji_region ⟨[(4, .ptr 12 0), (5, k8 rv2.2.2)], [⟨12, 29, [kI 0, kI 0, kI 0, kI 0, kI 0]⟩]⟩ (ro_o 0 [] ⟨[(4, .ptr 12 0), (8, k8 rv2.2.2), (48, .rc R_Number_Wire_From_At_To [] (⟨0, 0, 0, 0, 0⟩ : T_Number_Wire_From_At_To))], [⟨12, 29, [kI 0, kI 0, kI 0, kI 0, kI 0]⟩]⟩ rfl (lo_build (r := R_Number_Wire_From_At_To) [] [] (⟨0, 0, 0, 0, 0⟩ : T_Number_Wire_From_At_To) rfl stt29 rfl rfl) rfl (by kernel_rfl) (ro_obz 1 [.ptr 12 0, .rc R_Number_Wire_From_At_To [] (⟨0, 0, 0, 0, 0⟩ : T_Number_Wire_From_At_To)] [⟨12, 29, [kI 0, kI 0, kI 0, kI 0, kI 0]⟩] rfl (lo_str (r := R_Number_Wire_From_At_To) (b := ⟨12, 29, [kI 0, kI 0, kI 0, kI 0, kI 0]⟩) (off := 0) [kI 0, kI 0, kI 0, kI 0, kI 0] rfl Try.sizeOf29 rfl rfl rfl rfl) rfl rfl (by kernel_rfl))) ?_
  obtain rfl := sj h
  refine je_ret ?_
  refine le_px ⟨[(4, .ptr 12 0), (5, k8 rv2.2.2)], [⟨12, 29, [kI 0, kI 0, kI 0, kI 0, kI 0]⟩]⟩ (by kernel_rfl) (le_rn 12 2 rfl (le_px ⟨[(4, .ptr 2 0), (5, k8 rv2.2.2)], [⟨2, 29, [kI 0, kI 0, kI 0, kI 0, kI 0]⟩]⟩ (by kernel_rfl) ?_))
  exact le_z (by kernel_rfl)
 refine ji_condF rfl hc4 ?_
 refine ji_region ⟨[(4, .ptr 12 0), (5, k8 0)], [⟨12, 29, [kI rv.1.Number, kI rv.1.Wire, kI fromv, kI (IntKind.i64.wrap ((IntKind.i64.wrap (fromv + rv.2.1)) + rv2.1)), kI (IntKind.i64.wrap ((IntKind.i64.wrap (fromv + rv.2.1)) + rv2.2.1))]⟩]⟩ (ro_o 11 [kI rv.1.Number, kI rv.1.Wire, kI fromv, kI (IntKind.i64.wrap ((IntKind.i64.wrap (fromv + rv.2.1)) + rv2.1)), kI (IntKind.i64.wrap ((IntKind.i64.wrap (fromv + rv.2.1)) + rv2.2.1))] ⟨[(4, .ptr 12 0), (61, .rc R_Number_Wire_From_At_To [] (⟨rv.1.Number, rv.1.Wire, fromv, (IntKind.i64.wrap ((IntKind.i64.wrap (fromv + rv.2.1)) + rv2.1)), (IntKind.i64.wrap ((IntKind.i64.wrap (fromv + rv.2.1)) + rv2.2.1))⟩ : T_Number_Wire_From_At_To))], [⟨12, 29, [kI 0, kI 0, kI 0, kI 0, kI 0]⟩]⟩ rfl (lo_build (r := R_Number_Wire_From_At_To) [kI rv.1.Number, kI rv.1.Wire, kI fromv, kI (IntKind.i64.wrap ((IntKind.i64.wrap (fromv + rv.2.1)) + rv2.1)), kI (IntKind.i64.wrap ((IntKind.i64.wrap (fromv + rv.2.1)) + rv2.2.1))] [] (⟨rv.1.Number, rv.1.Wire, fromv, (IntKind.i64.wrap ((IntKind.i64.wrap (fromv + rv.2.1)) + rv2.1)), (IntKind.i64.wrap ((IntKind.i64.wrap (fromv + rv.2.1)) + rv2.2.1))⟩ : T_Number_Wire_From_At_To) rfl stt29 rfl rfl) rfl (by kernel_rfl) (ro_obz 0 [.ptr 12 0, .rc R_Number_Wire_From_At_To [] (⟨rv.1.Number, rv.1.Wire, fromv, (IntKind.i64.wrap ((IntKind.i64.wrap (fromv + rv.2.1)) + rv2.1)), (IntKind.i64.wrap ((IntKind.i64.wrap (fromv + rv.2.1)) + rv2.2.1))⟩ : T_Number_Wire_From_At_To)] [⟨12, 29, [kI 0, kI 0, kI 0, kI 0, kI 0]⟩] rfl (lo_str (r := R_Number_Wire_From_At_To) (b := ⟨12, 29, [kI 0, kI 0, kI 0, kI 0, kI 0]⟩) (off := 0) [kI rv.1.Number, kI rv.1.Wire, kI fromv, kI (IntKind.i64.wrap ((IntKind.i64.wrap (fromv + rv.2.1)) + rv2.1)), kI (IntKind.i64.wrap ((IntKind.i64.wrap (fromv + rv.2.1)) + rv2.2.1))] rfl Try.sizeOf29 rfl rfl rfl rfl) rfl rfl (by kernel_rfl))) ?_
 obtain rfl := sj h
 refine je_ret ?_
 refine le_px ⟨[(4, .ptr 12 0), (5, k8 0)], [⟨12, 29, [kI rv.1.Number, kI rv.1.Wire, kI fromv, kI (IntKind.i64.wrap ((IntKind.i64.wrap (fromv + rv.2.1)) + rv2.1)), kI (IntKind.i64.wrap ((IntKind.i64.wrap (fromv + rv.2.1)) + rv2.2.1))]⟩]⟩ (by kernel_rfl) (le_rn 12 2 rfl (le_px ⟨[(4, .ptr 2 0), (5, k8 0)], [⟨2, 29, [kI rv.1.Number, kI rv.1.Wire, kI fromv, kI (IntKind.i64.wrap ((IntKind.i64.wrap (fromv + rv.2.1)) + rv2.1)), kI (IntKind.i64.wrap ((IntKind.i64.wrap (fromv + rv.2.1)) + rv2.2.1))]⟩]⟩ (by kernel_rfl) ?_))
 exact le_z (by kernel_rfl)
theorem view_isRun_ok {f : T_Name_Number_Kind_Repeated_Packed_Of} {wire : Int} {r : Bool} (h : view_isRun f wire = some r) : FnOk Try.prog 33 [.rc R_Name_Number_Kind_Repeated_Packed_Of [0] f, kI wire] [kB r] := by
 refine fn_intro' (E := ⟨[(4, kB r)], []⟩) 16 Try.func33 rfl rfl rfl ⟨rfl, trivial⟩ (fun Xt => ?_)
 refine ji_start ?_
 refine ji_le (E' := ⟨[(0, .rc R_Name_Number_Kind_Repeated_Packed_Of [0] f), (1, kI wire)], []⟩) (fun _ _ _ hs => hs) ?_
 unfold view_isRun at h
 refine ji_region ⟨[(1, kI wire), (2, .ptr 11 0)], [⟨11, 55, [kS f.Name, kI f.Number, kI f.Kind, kB f.Repeated, kB f.Packed, kI f.Of]⟩]⟩ (ro_oz 0 [.rc R_Name_Number_Kind_Repeated_Packed_Of [0] f] rfl (lo_box 11 [kS f.Name, kI f.Number, kI f.Kind, kB f.Repeated, kB f.Packed, kI f.Of] [0] rfl rfl rfl rfl rfl) rfl (by kernel_rfl)) ?_
 obtain ⟨g, h_g, h⟩ := bnd h
 refine ji_region ⟨[(4, kB g)], []⟩ ?_ ?_
 ·
  refine (ro_sp 3 7 f.Repeated ⟨[(1, kI wire), (2, .ptr 11 0), (7, kB f.Repeated)], [⟨11, 55, [kS f.Name, kI f.Number, kI f.Kind, kB f.Repeated, kB f.Packed, kI f.Of]⟩]⟩ (by kernel_rfl) rfl (fun hc1 => ?_) (fun hc1 => ?_))
  ·
   replace h_g := iteT h_g hc1
   refine (ro_sp 4 11 (wire == 2) ⟨[(2, .ptr 11 0), (11, kB (wire == 2))], [⟨11, 55, [kS f.Name, kI f.Number, kI f.Kind, kB f.Repeated, kB f.Packed, kI f.Of]⟩]⟩ (by kernel_rfl) rfl (fun hc2 => ?_) (fun hc2 => ?_))
   ·
    replace h_g := iteT h_g hc2
    obtain ⟨rv, h_rv, h_g⟩ := bnd h_g
    obtain rfl := sj h_g
    exact (ro_oz 2 [kI f.Kind] rfl (lo_call [kI f.Kind] [1] 10 rfl Try.call42 (kind_Number_ok h_rv) rfl rfl rfl rfl rfl) rfl (by kernel_rfl))
   replace h_g := iteF h_g hc2
   obtain rfl := sj h_g
   exact (ro_z (by kernel_rfl))
  replace h_g := iteF h_g hc1
  obtain rfl := sj h_g
  exact (ro_z (by kernel_rfl))
 obtain rfl := sj h
 exact je_ret (le_z (by kernel_rfl))
theorem darningref10_Look_ok {m : T_Name_Fields} {b : (List UInt8)} {fromv : Int} {r : (T_R_Field_Run × Int)} (h : darningref10_Look m b fromv = some r) : FnOk Try.prog 9 [.rc R_Name_Fields [0] m, .sl Rp.byte [0] b, kI fromv] [.rc R_R_Field_Run [] r.1, kI r.2] := by
 refine fn_intro' (E := ⟨[(6, .ptr 2 0), (7, kI r.2)], [⟨2, 37, [kI r.1.R.Number, kI r.1.R.Wire, kI r.1.R.From, kI r.1.R.At, kI r.1.R.To, kI r.1.Field, kB r.1.Run]⟩]⟩) 66 Try.func9 rfl rfl rfl ⟨⟨_, _, rfl, rfl, rfl, rfl, ⟨Try.isAgg37, Try.sizeOf37⟩⟩, rfl, trivial⟩ (fun Xt => ?_)
 refine ji_start ?_
 refine ji_le (E' := ⟨[(0, .rc R_Name_Fields [0] m), (1, .sl Rp.byte [0] b), (2, kI fromv)], []⟩) (fun _ _ _ hs => hs) ?_
 unfold darningref10_Look at h
 refine ji_region ⟨[(1, .sl Rp.byte [0] b), (2, kI fromv), (3, .ptr 13 0), (6, .ptr 14 0)], [⟨13, 24, [kS m.Name, .sl R_Name_Number_Kind_Repeated_Packed_Of [0] m.Fields]⟩, ⟨14, 37, [kI 0, kI 0, kI 0, kI 0, kI 0, kI 0, kB false]⟩]⟩ (ro_o 0 [.rc R_Name_Fields [0] m] ⟨[(1, .sl Rp.byte [0] b), (2, kI fromv), (3, .ptr 13 0)], [⟨13, 24, [kS m.Name, .sl R_Name_Number_Kind_Repeated_Packed_Of [0] m.Fields]⟩]⟩ rfl (lo_box 13 [kS m.Name, .sl R_Name_Number_Kind_Repeated_Packed_Of [0] m.Fields] [0] rfl rfl rfl rfl rfl) rfl (by kernel_rfl) (ro_oz 0 [] rfl (lo_alloc 14 [kI 0, kI 0, kI 0, kI 0, kI 0, kI 0, kB false] rfl Try.zeroValue37 rfl) rfl (by kernel_rfl))) ?_
 obtain ⟨rv, h_rv, h⟩ := bnd h
 refine ji_region ⟨[(3, .ptr 13 0), (6, .ptr 14 0), (8, .ptr 15 0), (9, kI rv.2)], [⟨13, 24, [kS m.Name, .sl R_Name_Number_Kind_Repeated_Packed_Of [0] m.Fields]⟩, ⟨14, 37, [kI 0, kI 0, kI 0, kI 0, kI 0, kI 0, kB false]⟩, ⟨15, 35, [kI rv.1.Number, kI rv.1.Wire, kI rv.1.From, kI rv.1.At, kI rv.1.To]⟩]⟩ (ro_o 2 [.sl Rp.byte [0] b, kI fromv] ⟨[(3, .ptr 13 0), (6, .ptr 14 0), (15, .tup [.rc R_Number_Wire_From_At_To [] rv.1, kI rv.2])], [⟨13, 24, [kS m.Name, .sl R_Name_Number_Kind_Repeated_Packed_Of [0] m.Fields]⟩, ⟨14, 37, [kI 0, kI 0, kI 0, kI 0, kI 0, kI 0, kB false]⟩]⟩ rfl (lo_call [.sl Rp.byte [0] b, kI fromv] [0] 13 rfl Try.call20 (darningref05_Next_ok h_rv) rfl rfl rfl rfl rfl) rfl (by kernel_rfl) (ro_o 3 [] ⟨[(3, .ptr 13 0), (6, .ptr 14 0), (8, .ptr 15 0), (16, .rc R_Number_Wire_From_At_To [] rv.1), (17, kI rv.2)], [⟨13, 24, [kS m.Name, .sl R_Name_Number_Kind_Repeated_Packed_Of [0] m.Fields]⟩, ⟨14, 37, [kI 0, kI 0, kI 0, kI 0, kI 0, kI 0, kB false]⟩, ⟨15, 35, [kI 0, kI 0, kI 0, kI 0, kI 0]⟩]⟩ rfl (lo_alloc 15 [kI 0, kI 0, kI 0, kI 0, kI 0] rfl Try.zeroValue35 rfl) rfl (by kernel_rfl) (ro_obz 0 [.ptr 15 0, .rc R_Number_Wire_From_At_To [] rv.1] [⟨15, 35, [kI 0, kI 0, kI 0, kI 0, kI 0]⟩] rfl (lo_str (r := R_Number_Wire_From_At_To) (b := ⟨15, 35, [kI 0, kI 0, kI 0, kI 0, kI 0]⟩) (off := 0) [kI rv.1.Number, kI rv.1.Wire, kI rv.1.From, kI rv.1.At, kI rv.1.To] rfl Try.sizeOf35 rfl rfl rfl rfl) rfl rfl (by kernel_rfl)))) ?_
 refine ji_rz ⟨[(3, .ptr 13 0), (6, .ptr 14 0), (8, .ptr 15 0), (9, kI rv.2), (19, kB (rv.2 != 0))], [⟨13, 24, [kS m.Name, .sl R_Name_Number_Kind_Repeated_Packed_Of [0] m.Fields]⟩, ⟨14, 37, [kI 0, kI 0, kI 0, kI 0, kI 0, kI 0, kB false]⟩, ⟨15, 35, [kI rv.1.Number, kI rv.1.Wire, kI rv.1.From, kI rv.1.At, kI rv.1.To]⟩]⟩ (by kernel_rfl) ?_
 rcases ite_some h with ⟨hc1, h⟩ | ⟨hc1, h⟩
 ·
  refine ji_condT rfl hc1 ?_
  refine ji_region ⟨[(6, .ptr 14 0), (7, kI rv.2)], [⟨14, 37, [kI 0, kI 0, kI 0, kI 0, kI 0, kI 0, kB false]⟩]⟩ (ro_o 0 [] ⟨[(6, .ptr 14 0), (9, kI rv.2), (20, .rc R_R_Field_Run [] (⟨(⟨0, 0, 0, 0, 0⟩ : T_Number_Wire_From_At_To), 0, false⟩ : T_R_Field_Run))], [⟨14, 37, [kI 0, kI 0, kI 0, kI 0, kI 0, kI 0, kB false]⟩]⟩ rfl (lo_build (r := R_R_Field_Run) [] [] (⟨(⟨0, 0, 0, 0, 0⟩ : T_Number_Wire_From_At_To), 0, false⟩ : T_R_Field_Run) rfl stt37 rfl rfl) rfl (by kernel_rfl) (ro_obz 1 [.ptr 14 0, .rc R_R_Field_Run [] (⟨(⟨0, 0, 0, 0, 0⟩ : T_Number_Wire_From_At_To), 0, false⟩ : T_R_Field_Run)] [⟨14, 37, [kI 0, kI 0, kI 0, kI 0, kI 0, kI 0, kB false]⟩] rfl (lo_str (r := R_R_Field_Run) (b := ⟨14, 37, [kI 0, kI 0, kI 0, kI 0, kI 0, kI 0, kB false]⟩) (off := 0) [kI 0, kI 0, kI 0, kI 0, kI 0, kI 0, kB false] rfl Try.sizeOf37 rfl rfl rfl rfl) rfl rfl (by kernel_rfl))) ?_
  obtain rfl := sj h
  refine je_ret ?_
  refine le_px ⟨[(6, .ptr 14 0), (7, kI rv.2)], [⟨14, 37, [kI 0, kI 0, kI 0, kI 0, kI 0, kI 0, kB false]⟩]⟩ (by kernel_rfl) (le_rn 14 2 rfl (le_px ⟨[(6, .ptr 2 0), (7, kI rv.2)], [⟨2, 37, [kI 0, kI 0, kI 0, kI 0, kI 0, kI 0, kB false]⟩]⟩ (by kernel_rfl) ?_))
  exact le_z (by kernel_rfl)
 refine ji_condF rfl hc1 ?_
 obtain ⟨rv2, h_rv2, h⟩ := bnd h
 refine ji_region ⟨[(3, .ptr 13 0), (6, .ptr 14 0), (8, .ptr 15 0), (10, kI rv2)], [⟨13, 24, [kS m.Name, .sl R_Name_Number_Kind_Repeated_Packed_Of [0] m.Fields]⟩, ⟨14, 37, [kI 0, kI 0, kI 0, kI 0, kI 0, kI 0, kB false]⟩, ⟨15, 35, [kI rv.1.Number, kI rv.1.Wire, kI rv.1.From, kI rv.1.At, kI rv.1.To]⟩]⟩ (ro_ob 0 [.ptr 13 0] [⟨13, 24, [kS m.Name, .sl R_Name_Number_Kind_Repeated_Packed_Of [0] m.Fields]⟩] ⟨[(3, .ptr 13 0), (6, .ptr 14 0), (8, .ptr 15 0), (22, .ag [kS m.Name, .sl R_Name_Number_Kind_Repeated_Packed_Of [0] m.Fields])], [⟨13, 24, [kS m.Name, .sl R_Name_Number_Kind_Repeated_Packed_Of [0] m.Fields]⟩, ⟨14, 37, [kI 0, kI 0, kI 0, kI 0, kI 0, kI 0, kB false]⟩, ⟨15, 35, [kI rv.1.Number, kI rv.1.Wire, kI rv.1.From, kI rv.1.At, kI rv.1.To]⟩]⟩ rfl (lo_ldba (b := ⟨13, 24, [kS m.Name, .sl R_Name_Number_Kind_Repeated_Packed_Of [0] m.Fields]⟩) [kS m.Name, .sl R_Name_Number_Kind_Repeated_Packed_Of [0] m.Fields] rfl ⟨Try.isAgg24, Try.sizeOf24⟩ rfl rfl) rfl rfl (by kernel_rfl) (ro_oz 2 [.ag [kS m.Name, .sl R_Name_Number_Kind_Repeated_Packed_Of [0] m.Fields], kI rv.1.Number] rfl (LocalOk.le (ins' := [(.tmp 22, .ag [kS m.Name, .sl R_Name_Number_Kind_Repeated_Packed_Of [0] m.Fields]), (.tmp 24, kI rv.1.Number)]) (lo_call (args := [.tmp 22, .tmp 24]) [.rc R_Name_Fields [0] m, kI rv.1.Number] [0] 14 rfl Try.call18 (darningref07_Field_ok h_rv2) rfl rfl rfl rfl rfl) ⟨⟨rfl, le_agrc R_Name_Fields [0] m [kS m.Name, .sl R_Name_Number_Kind_Repeated_Packed_Of [0] m.Fields] rfl rfl⟩, ⟨rfl, AV.le_refl _⟩, trivial⟩) rfl (by kernel_rfl))) ?_
 refine ji_rz ⟨[(3, .ptr 13 0), (6, .ptr 14 0), (8, .ptr 15 0), (10, kI rv2), (27, kB (decide (rv2 < 0)))], [⟨13, 24, [kS m.Name, .sl R_Name_Number_Kind_Repeated_Packed_Of [0] m.Fields]⟩, ⟨14, 37, [kI 0, kI 0, kI 0, kI 0, kI 0, kI 0, kB false]⟩, ⟨15, 35, [kI rv.1.Number, kI rv.1.Wire, kI rv.1.From, kI rv.1.At, kI rv.1.To]⟩]⟩ (by kernel_rfl) ?_
 rcases ite_some h with ⟨hc2, h⟩ | ⟨hc2, h⟩
 ·
  refine ji_condT rfl hc2 ?_
  refine ji_region ⟨[(6, .ptr 14 0), (7, kI 0)], [⟨14, 37, [kI rv.1.Number, kI rv.1.Wire, kI rv.1.From, kI rv.1.At, kI rv.1.To, kI (-1), kB false]⟩]⟩ (ro_ob 0 [.ptr 15 0] [⟨15, 35, [kI rv.1.Number, kI rv.1.Wire, kI rv.1.From, kI rv.1.At, kI rv.1.To]⟩] ⟨[(6, .ptr 14 0), (28, .rc R_Number_Wire_From_At_To [] rv.1)], [⟨14, 37, [kI 0, kI 0, kI 0, kI 0, kI 0, kI 0, kB false]⟩]⟩ rfl (lo_ldb (r := R_Number_Wire_From_At_To) rv.1 [] rfl ⟨Try.isAgg35, Try.sizeOf35⟩ rfl rfl) rfl rfl (by kernel_rfl) (ro_o 0 [.rc R_Number_Wire_From_At_To [] rv.1, kI (-1)] ⟨[(6, .ptr 14 0), (29, .rc R_R_Field_Run [] (⟨rv.1, (-1), false⟩ : T_R_Field_Run))], [⟨14, 37, [kI 0, kI 0, kI 0, kI 0, kI 0, kI 0, kB false]⟩]⟩ rfl (lo_build (r := R_R_Field_Run) [.rc R_Number_Wire_From_At_To [] rv.1, kI (-1)] [] (⟨rv.1, (-1), false⟩ : T_R_Field_Run) rfl stt37 rfl rfl) rfl (by kernel_rfl) (ro_obz 0 [.ptr 14 0, .rc R_R_Field_Run [] (⟨rv.1, (-1), false⟩ : T_R_Field_Run)] [⟨14, 37, [kI 0, kI 0, kI 0, kI 0, kI 0, kI 0, kB false]⟩] rfl (lo_str (r := R_R_Field_Run) (b := ⟨14, 37, [kI 0, kI 0, kI 0, kI 0, kI 0, kI 0, kB false]⟩) (off := 0) [kI rv.1.Number, kI rv.1.Wire, kI rv.1.From, kI rv.1.At, kI rv.1.To, kI (-1), kB false] rfl Try.sizeOf37 rfl rfl rfl rfl) rfl rfl (by kernel_rfl)))) ?_
  obtain rfl := sj h
  refine je_ret ?_
  refine le_px ⟨[(6, .ptr 14 0), (7, kI 0)], [⟨14, 37, [kI rv.1.Number, kI rv.1.Wire, kI rv.1.From, kI rv.1.At, kI rv.1.To, kI (-1), kB false]⟩]⟩ (by kernel_rfl) (le_rn 14 2 rfl (le_px ⟨[(6, .ptr 2 0), (7, kI 0)], [⟨2, 37, [kI rv.1.Number, kI rv.1.Wire, kI rv.1.From, kI rv.1.At, kI rv.1.To, kI (-1), kB false]⟩]⟩ (by kernel_rfl) ?_))
  exact le_z (by kernel_rfl)
 refine ji_condF rfl hc2 ?_
 obtain ⟨x, h_x, h⟩ := bnd h
 refine ji_region ⟨[(6, .ptr 14 0), (8, .ptr 15 0), (10, kI rv2), (11, .ptr 16 0)], [⟨14, 37, [kI 0, kI 0, kI 0, kI 0, kI 0, kI 0, kB false]⟩, ⟨15, 35, [kI rv.1.Number, kI rv.1.Wire, kI rv.1.From, kI rv.1.At, kI rv.1.To]⟩, ⟨16, 55, [kS x.Name, kI x.Number, kI x.Kind, kB x.Repeated, kB x.Packed, kI x.Of]⟩]⟩ (ro_o 3 [.sl R_Name_Number_Kind_Repeated_Packed_Of [0] m.Fields, kI rv2] ⟨[(6, .ptr 14 0), (8, .ptr 15 0), (10, kI rv2), (33, .ep R_Name_Number_Kind_Repeated_Packed_Of [0] x 0)], [⟨14, 37, [kI 0, kI 0, kI 0, kI 0, kI 0, kI 0, kB false]⟩, ⟨15, 35, [kI rv.1.Number, kI rv.1.Wire, kI rv.1.From, kI rv.1.At, kI rv.1.To]⟩]⟩ rfl (lo_ix rfl zet22.el (isSl_sl _ _ _) h_x) rfl (by kernel_rfl) (ro_o 0 [.ep R_Name_Number_Kind_Repeated_Packed_Of [0] x 0] ⟨[(6, .ptr 14 0), (8, .ptr 15 0), (10, kI rv2), (34, .rc R_Name_Number_Kind_Repeated_Packed_Of [0] x)], [⟨14, 37, [kI 0, kI 0, kI 0, kI 0, kI 0, kI 0, kB false]⟩, ⟨15, 35, [kI rv.1.Number, kI rv.1.Wire, kI rv.1.From, kI rv.1.At, kI rv.1.To]⟩]⟩ rfl (lo_ldr rfl ⟨Try.isAgg55, Try.sizeOf55⟩) rfl (by kernel_rfl) (ro_o 0 [] ⟨[(6, .ptr 14 0), (8, .ptr 15 0), (10, kI rv2), (11, .ptr 16 0), (34, .rc R_Name_Number_Kind_Repeated_Packed_Of [0] x)], [⟨14, 37, [kI 0, kI 0, kI 0, kI 0, kI 0, kI 0, kB false]⟩, ⟨15, 35, [kI rv.1.Number, kI rv.1.Wire, kI rv.1.From, kI rv.1.At, kI rv.1.To]⟩, ⟨16, 55, [kS [], kI 0, kI 0, kB false, kB false, kI 0]⟩]⟩ rfl (lo_alloc 16 [kS [], kI 0, kI 0, kB false, kB false, kI 0] rfl Try.zeroValue55 rfl) rfl (by kernel_rfl) (ro_obz 0 [.ptr 16 0, .rc R_Name_Number_Kind_Repeated_Packed_Of [0] x] [⟨16, 55, [kS [], kI 0, kI 0, kB false, kB false, kI 0]⟩] rfl (lo_str (r := R_Name_Number_Kind_Repeated_Packed_Of) (b := ⟨16, 55, [kS [], kI 0, kI 0, kB false, kB false, kI 0]⟩) (off := 0) [kS x.Name, kI x.Number, kI x.Kind, kB x.Repeated, kB x.Packed, kI x.Of] rfl Try.sizeOf55 rfl rfl rfl rfl) rfl rfl (by kernel_rfl))))) ?_
 obtain ⟨g, h_g, h⟩ := bnd h
 refine ji_region ⟨[(6, .ptr 14 0), (8, .ptr 15 0), (10, kI rv2), (11, .ptr 16 0), (46, kB g)], [⟨14, 37, [kI 0, kI 0, kI 0, kI 0, kI 0, kI 0, kB false]⟩, ⟨15, 35, [kI rv.1.Number, kI rv.1.Wire, kI rv.1.From, kI rv.1.At, kI rv.1.To]⟩, ⟨16, 55, [kS x.Name, kI x.Number, kI x.Kind, kB x.Repeated, kB x.Packed, kI x.Of]⟩]⟩ ?_ ?_
 ·
  refine (ro_sp 3 37 x.Repeated ⟨[(6, .ptr 14 0), (8, .ptr 15 0), (10, kI rv2), (11, .ptr 16 0), (37, kB x.Repeated)], [⟨14, 37, [kI 0, kI 0, kI 0, kI 0, kI 0, kI 0, kB false]⟩, ⟨15, 35, [kI rv.1.Number, kI rv.1.Wire, kI rv.1.From, kI rv.1.At, kI rv.1.To]⟩, ⟨16, 55, [kS x.Name, kI x.Number, kI x.Kind, kB x.Repeated, kB x.Packed, kI x.Of]⟩]⟩ (by kernel_rfl) rfl (fun hc3 => ?_) (fun hc3 => ?_))
  ·
   replace h_g := iteT h_g hc3
   obtain ⟨rv3, h_rv3, h_g⟩ := bnd h_g
   refine (ro_o 2 [kI x.Kind] ⟨[(6, .ptr 14 0), (8, .ptr 15 0), (10, kI rv2), (11, .ptr 16 0), (37, kB true), (40, kB rv3)], [⟨14, 37, [kI 0, kI 0, kI 0, kI 0, kI 0, kI 0, kB false]⟩, ⟨15, 35, [kI rv.1.Number, kI rv.1.Wire, kI rv.1.From, kI rv.1.At, kI rv.1.To]⟩, ⟨16, 55, [kS x.Name, kI x.Number, kI x.Kind, kB x.Repeated, kB x.Packed, kI x.Of]⟩]⟩ rfl (lo_call [kI x.Kind] [1] 15 rfl Try.call21 (darningref06_Number_ok h_rv3) rfl rfl rfl rfl rfl) rfl (by kernel_rfl) (ro_sp 2 42 rv3 ⟨[(6, .ptr 14 0), (8, .ptr 15 0), (10, kI rv2), (11, .ptr 16 0), (42, kB rv3)], [⟨14, 37, [kI 0, kI 0, kI 0, kI 0, kI 0, kI 0, kB false]⟩, ⟨15, 35, [kI rv.1.Number, kI rv.1.Wire, kI rv.1.From, kI rv.1.At, kI rv.1.To]⟩, ⟨16, 55, [kS x.Name, kI x.Number, kI x.Kind, kB x.Repeated, kB x.Packed, kI x.Of]⟩]⟩ (by kernel_rfl) rfl (fun hc4 => ?_) (fun hc4 => ?_)))
   ·
    replace h_g := iteT h_g hc4
    obtain rfl := sj h_g
    refine ro_pe ⟨[(6, .ptr 14 0), (8, .ptr 15 0), (10, kI rv2), (11, .ptr 16 0), (46, kB (rv.1.Wire == 2))], [⟨14, 37, [kI 0, kI 0, kI 0, kI 0, kI 0, kI 0, kB false]⟩, ⟨15, 35, [kI rv.1.Number, kI rv.1.Wire, kI rv.1.From, kI rv.1.At, kI rv.1.To]⟩, ⟨16, 55, [kS x.Name, kI x.Number, kI x.Kind, kB x.Repeated, kB x.Packed, kI x.Of]⟩]⟩ (by kernel_rfl) ?_
    exact le_z (by kernel_rfl)
   replace h_g := iteF h_g hc4
   obtain rfl := sj h_g
   refine ro_pe ⟨[(6, .ptr 14 0), (8, .ptr 15 0), (10, kI rv2), (11, .ptr 16 0), (46, kB false)], [⟨14, 37, [kI 0, kI 0, kI 0, kI 0, kI 0, kI 0, kB false]⟩, ⟨15, 35, [kI rv.1.Number, kI rv.1.Wire, kI rv.1.From, kI rv.1.At, kI rv.1.To]⟩, ⟨16, 55, [kS x.Name, kI x.Number, kI x.Kind, kB x.Repeated, kB x.Packed, kI x.Of]⟩]⟩ (by kernel_rfl) ?_
   exact le_z (by kernel_rfl)
  replace h_g := iteF h_g hc3
  obtain rfl := sj h_g
  refine ro_pe ⟨[(6, .ptr 14 0), (8, .ptr 15 0), (10, kI rv2), (11, .ptr 16 0), (46, kB false)], [⟨14, 37, [kI 0, kI 0, kI 0, kI 0, kI 0, kI 0, kB false]⟩, ⟨15, 35, [kI rv.1.Number, kI rv.1.Wire, kI rv.1.From, kI rv.1.At, kI rv.1.To]⟩, ⟨16, 55, [kS x.Name, kI x.Number, kI x.Kind, kB x.Repeated, kB x.Packed, kI x.Of]⟩]⟩ (by kernel_rfl) ?_
  exact le_z (by kernel_rfl)
 rcases ite_some h with ⟨hc5, h⟩ | ⟨hc5, h⟩
 ·
  refine ji_condT rfl hc5 ?_
  refine ji_region ⟨[(6, .ptr 14 0), (7, kI 0)], [⟨14, 37, [kI rv.1.Number, kI rv.1.Wire, kI rv.1.From, kI rv.1.At, kI rv.1.To, kI rv2, kB true]⟩]⟩ (ro_ob 0 [.ptr 15 0] [⟨15, 35, [kI rv.1.Number, kI rv.1.Wire, kI rv.1.From, kI rv.1.At, kI rv.1.To]⟩] ⟨[(6, .ptr 14 0), (10, kI rv2), (47, .rc R_Number_Wire_From_At_To [] rv.1)], [⟨14, 37, [kI 0, kI 0, kI 0, kI 0, kI 0, kI 0, kB false]⟩]⟩ rfl (lo_ldb (r := R_Number_Wire_From_At_To) rv.1 [] rfl ⟨Try.isAgg35, Try.sizeOf35⟩ rfl rfl) rfl rfl (by kernel_rfl) (ro_o 1 [.rc R_Number_Wire_From_At_To [] rv.1, kI rv2, kB true] ⟨[(6, .ptr 14 0), (49, .rc R_R_Field_Run [] (⟨rv.1, rv2, true⟩ : T_R_Field_Run))], [⟨14, 37, [kI 0, kI 0, kI 0, kI 0, kI 0, kI 0, kB false]⟩]⟩ rfl (lo_build (r := R_R_Field_Run) [.rc R_Number_Wire_From_At_To [] rv.1, kI rv2, kB true] [] (⟨rv.1, rv2, true⟩ : T_R_Field_Run) rfl stt37 rfl rfl) rfl (by kernel_rfl) (ro_obz 0 [.ptr 14 0, .rc R_R_Field_Run [] (⟨rv.1, rv2, true⟩ : T_R_Field_Run)] [⟨14, 37, [kI 0, kI 0, kI 0, kI 0, kI 0, kI 0, kB false]⟩] rfl (lo_str (r := R_R_Field_Run) (b := ⟨14, 37, [kI 0, kI 0, kI 0, kI 0, kI 0, kI 0, kB false]⟩) (off := 0) [kI rv.1.Number, kI rv.1.Wire, kI rv.1.From, kI rv.1.At, kI rv.1.To, kI rv2, kB true] rfl Try.sizeOf37 rfl rfl rfl rfl) rfl rfl (by kernel_rfl)))) ?_
  obtain rfl := sj h
  refine je_ret ?_
  refine le_px ⟨[(6, .ptr 14 0), (7, kI 0)], [⟨14, 37, [kI rv.1.Number, kI rv.1.Wire, kI rv.1.From, kI rv.1.At, kI rv.1.To, kI rv2, kB true]⟩]⟩ (by kernel_rfl) (le_rn 14 2 rfl (le_px ⟨[(6, .ptr 2 0), (7, kI 0)], [⟨2, 37, [kI rv.1.Number, kI rv.1.Wire, kI rv.1.From, kI rv.1.At, kI rv.1.To, kI rv2, kB true]⟩]⟩ (by kernel_rfl) ?_))
  exact le_z (by kernel_rfl)
 refine ji_condF rfl hc5 ?_
 obtain ⟨g2, h_g2, h⟩ := bnd h
 refine ji_join (R := fun e a w => e = .normal ∧ Sx ⟨⟨66, []⟩, Xt, false, #[]⟩ ⟨[(6, .ptr 14 0), (8, .ptr 15 0), (10, kI rv2), (61, kB g2)], [⟨14, 37, [kI 0, kI 0, kI 0, kI 0, kI 0, kI 0, kB false]⟩, ⟨15, 35, [kI rv.1.Number, kI rv.1.Wire, kI rv.1.From, kI rv.1.At, kI rv.1.To]⟩]⟩ a w) ?_ (k_norm ?_)
 ·
  refine ji_start ?_
  obtain ⟨rv4, h_rv4, h_g2⟩ := bnd h_g2
  rcases Bool.eq_false_or_eq_true (!rv4) with hc6 | hc6
  ·
   replace h_g2 := iteT h_g2 hc6
   obtain rfl := sj h_g2
   refine ji_draw ⟨[(6, .ptr 14 0), (8, .ptr 15 0), (10, kI rv2), (61, kB true)], [⟨14, 37, [kI 0, kI 0, kI 0, kI 0, kI 0, kI 0, kB false]⟩, ⟨15, 35, [kI rv.1.Number, kI rv.1.Wire, kI rv.1.From, kI rv.1.At, kI rv.1.To]⟩]⟩ [.ev, .ev, .ex [] [] [] (kB rv4) [], .ev, .ex [] [] [] (kB true) []] [⟨[(.func 22, .lf (.val (.func (.func 22) #[] #[]))), (.tmp 51, kI x.Kind)], [], []⟩, ⟨[(.tmp 53, kB (!rv4))], [], []⟩] [6, 8, 10, 61] [14, 15] mixed (by kernel_rfl) (by exact (lw_e (lw_e (lw_x (LocalOk.cons _ (lo_as (lo_call (args := [.tmp 51]) [kI x.Kind] [1] 15 rfl Try.call22 (darningref06_Right_ok h_rv4) rfl rfl rfl rfl rfl) rfl)) (lw_e (lw_x (lo_evb ⟨[(53, kB (!rv4))], []⟩ (by kernel_rfl) hc6) lw_0)))))) ?_
   exact je_nil (le_z (by kernel_rfl))
  replace h_g2 := iteF h_g2 hc6
  obtain ⟨rv5, h_rv5, h_g2⟩ := bnd h_g2
  obtain rfl := sj h_g2
  refine ji_draw ⟨[(6, .ptr 14 0), (8, .ptr 15 0), (10, kI rv2), (61, kB (rv5 != rv.1.Wire))], [⟨14, 37, [kI 0, kI 0, kI 0, kI 0, kI 0, kI 0, kB false]⟩, ⟨15, 35, [kI rv.1.Number, kI rv.1.Wire, kI rv.1.From, kI rv.1.At, kI rv.1.To]⟩]⟩ [.ev, .ev, .ex [] [] [] (kB rv4) [], .ev, .ex [] [] [] (kB false) [], .ev, .ev, .ex [] [] [] (kI rv5) []] [⟨[(.func 22, .lf (.val (.func (.func 22) #[] #[]))), (.tmp 51, kI x.Kind)], [], []⟩, ⟨[(.tmp 53, kB (!rv4))], [], []⟩, ⟨[(.func 23, .lf (.val (.func (.func 23) #[] #[]))), (.tmp 56, kI x.Kind)], [], []⟩] [6, 8, 10, 61] [14, 15] mixed (by kernel_rfl) (by exact (lw_e (lw_e (lw_x (LocalOk.cons _ (lo_as (lo_call (args := [.tmp 51]) [kI x.Kind] [1] 15 rfl Try.call22 (darningref06_Right_ok h_rv4) rfl rfl rfl rfl rfl) rfl)) (lw_e (lw_x (lo_evb ⟨[(53, kB (!rv4))], []⟩ (by kernel_rfl) hc6) (lw_e (lw_e (lw_x (LocalOk.cons _ (lo_as (lo_call (args := [.tmp 56]) [kI x.Kind] [1] 15 rfl Try.call23 (darningref06_Wire_ok h_rv5) rfl rfl rfl rfl rfl) rfl)) lw_0))))))))) ?_
  exact je_nil (le_z (by kernel_rfl))
 rcases ite_some h with ⟨hc7, h⟩ | ⟨hc7, h⟩
 ·
  refine ji_condT rfl hc7 ?_
  refine ji_region ⟨[(6, .ptr 14 0), (7, kI 6)], [⟨14, 37, [kI 0, kI 0, kI 0, kI 0, kI 0, kI 0, kB false]⟩]⟩ (ro_o 0 [] ⟨[(6, .ptr 14 0), (62, .rc R_R_Field_Run [] (⟨(⟨0, 0, 0, 0, 0⟩ : T_Number_Wire_From_At_To), 0, false⟩ : T_R_Field_Run))], [⟨14, 37, [kI 0, kI 0, kI 0, kI 0, kI 0, kI 0, kB false]⟩]⟩ rfl (lo_build (r := R_R_Field_Run) [] [] (⟨(⟨0, 0, 0, 0, 0⟩ : T_Number_Wire_From_At_To), 0, false⟩ : T_R_Field_Run) rfl stt37 rfl rfl) rfl (by kernel_rfl) (ro_obz 0 [.ptr 14 0, .rc R_R_Field_Run [] (⟨(⟨0, 0, 0, 0, 0⟩ : T_Number_Wire_From_At_To), 0, false⟩ : T_R_Field_Run)] [⟨14, 37, [kI 0, kI 0, kI 0, kI 0, kI 0, kI 0, kB false]⟩] rfl (lo_str (r := R_R_Field_Run) (b := ⟨14, 37, [kI 0, kI 0, kI 0, kI 0, kI 0, kI 0, kB false]⟩) (off := 0) [kI 0, kI 0, kI 0, kI 0, kI 0, kI 0, kB false] rfl Try.sizeOf37 rfl rfl rfl rfl) rfl rfl (by kernel_rfl))) ?_
  obtain rfl := sj h
  refine je_ret ?_
  refine le_px ⟨[(6, .ptr 14 0), (7, kI 6)], [⟨14, 37, [kI 0, kI 0, kI 0, kI 0, kI 0, kI 0, kB false]⟩]⟩ (by kernel_rfl) (le_rn 14 2 rfl (le_px ⟨[(6, .ptr 2 0), (7, kI 6)], [⟨2, 37, [kI 0, kI 0, kI 0, kI 0, kI 0, kI 0, kB false]⟩]⟩ (by kernel_rfl) ?_))
  exact le_z (by kernel_rfl)
 refine ji_condF rfl hc7 ?_
 refine ji_region ⟨[(6, .ptr 14 0), (7, kI 0)], [⟨14, 37, [kI rv.1.Number, kI rv.1.Wire, kI rv.1.From, kI rv.1.At, kI rv.1.To, kI rv2, kB false]⟩]⟩ (ro_ob 0 [.ptr 15 0] [⟨15, 35, [kI rv.1.Number, kI rv.1.Wire, kI rv.1.From, kI rv.1.At, kI rv.1.To]⟩] ⟨[(6, .ptr 14 0), (10, kI rv2), (63, .rc R_Number_Wire_From_At_To [] rv.1)], [⟨14, 37, [kI 0, kI 0, kI 0, kI 0, kI 0, kI 0, kB false]⟩]⟩ rfl (lo_ldb (r := R_Number_Wire_From_At_To) rv.1 [] rfl ⟨Try.isAgg35, Try.sizeOf35⟩ rfl rfl) rfl rfl (by kernel_rfl) (ro_o 1 [.rc R_Number_Wire_From_At_To [] rv.1, kI rv2] ⟨[(6, .ptr 14 0), (65, .rc R_R_Field_Run [] (⟨rv.1, rv2, false⟩ : T_R_Field_Run))], [⟨14, 37, [kI 0, kI 0, kI 0, kI 0, kI 0, kI 0, kB false]⟩]⟩ rfl (lo_build (r := R_R_Field_Run) [.rc R_Number_Wire_From_At_To [] rv.1, kI rv2] [] (⟨rv.1, rv2, false⟩ : T_R_Field_Run) rfl stt37 rfl rfl) rfl (by kernel_rfl) (ro_obz 0 [.ptr 14 0, .rc R_R_Field_Run [] (⟨rv.1, rv2, false⟩ : T_R_Field_Run)] [⟨14, 37, [kI 0, kI 0, kI 0, kI 0, kI 0, kI 0, kB false]⟩] rfl (lo_str (r := R_R_Field_Run) (b := ⟨14, 37, [kI 0, kI 0, kI 0, kI 0, kI 0, kI 0, kB false]⟩) (off := 0) [kI rv.1.Number, kI rv.1.Wire, kI rv.1.From, kI rv.1.At, kI rv.1.To, kI rv2, kB false] rfl Try.sizeOf37 rfl rfl rfl rfl) rfl rfl (by kernel_rfl)))) ?_
 obtain rfl := sj h
 refine je_ret ?_
 refine le_px ⟨[(6, .ptr 14 0), (7, kI 0)], [⟨14, 37, [kI rv.1.Number, kI rv.1.Wire, kI rv.1.From, kI rv.1.At, kI rv.1.To, kI rv2, kB false]⟩]⟩ (by kernel_rfl) (le_rn 14 2 rfl (le_px ⟨[(6, .ptr 2 0), (7, kI 0)], [⟨2, 37, [kI rv.1.Number, kI rv.1.Wire, kI rv.1.From, kI rv.1.At, kI rv.1.To, kI rv2, kB false]⟩]⟩ (by kernel_rfl) ?_))
 exact le_z (by kernel_rfl)
theorem record_Whole_ok {b : (List UInt8)} {rv : T_Number_Wire_From_At_To} {r : (List UInt8)} (h : record_Whole b rv = some r) : FnOk Try.prog 24 [.sl Rp.byte [0] b, .rc R_Number_Wire_From_At_To [0] rv] [.own Rp.byte 5 2 [] r] := by
 refine fn_intro' (E := ⟨[(4, .own Rp.byte 5 2 [] r)], []⟩) 11 Try.func24 rfl rfl rfl ⟨rfl, trivial⟩ (fun Xt => ?_)
 refine ji_start ?_
 refine ji_le (E' := ⟨[(0, .sl Rp.byte [0] b), (1, .rc R_Number_Wire_From_At_To [0] rv)], []⟩) (fun _ _ _ hs => hs) ?_
 unfold record_Whole at h
 refine ji_region ⟨[(0, .sl Rp.byte [0] b), (3, .ptr 13 0)], [⟨13, 29, [kI rv.Number, kI rv.Wire, kI rv.From, kI rv.At, kI rv.To]⟩]⟩ (ro_oz 0 [.rc R_Number_Wire_From_At_To [0] rv] rfl (lo_box 13 [kI rv.Number, kI rv.Wire, kI rv.From, kI rv.At, kI rv.To] [0] rfl rfl rfl rfl rfl) rfl (by kernel_rfl)) ?_
 obtain ⟨rv2, h_rv2, h⟩ := bnd h
 refine ji_region ⟨[(4, .own Rp.byte 5 14 [] rv2)], []⟩ (ro_oz 5 [.sl Rp.byte [0] b, kI rv.From, kI rv.To] rfl (lo_call [.sl Rp.byte [0] b, kI rv.From, kI rv.To] [0] 12 rfl Try.call29 (record_piece_ok h_rv2) rfl rfl rfl rfl rfl) rfl (by kernel_rfl)) ?_
 obtain rfl := sj h
 refine je_ret ?_
 refine le_px ⟨[(4, .own Rp.byte 5 14 [] rv2)], []⟩ (by kernel_rfl) (le_rn 14 2 rfl (le_px ⟨[(4, .own Rp.byte 5 2 [] rv2)], []⟩ (by kernel_rfl) ?_))
 exact le_z (by kernel_rfl)
end Go.Proofs.Ytdpolccecmaajaa
