/-
  The Go functions do what the plain functions say. No condition.
-/
import Derived.Test.YtdpolccecmaajaaG4
namespace Go.Proofs.Ytdpolccecmaajaa
open Go Go.RowKit
set_option linter.unusedVariables false
set_option maxRecDepth 100000
theorem view_assign_ok {m : T_Name_Fields} {hv : T_number_wire} {r : T_field_run_e} (h : view_assign m hv = some r) : FnOk Try.prog 26 [.rc R_Name_Fields [0] m, .rc R_number_wire [0] hv] [.rc R_field_run_e [] r] := by
 refine fn_intro' (E := ⟨[(4, .ptr 2 0)], [⟨2, 69, [kI r.field, kB r.run, k8 r.e]⟩]⟩) 38 Try.func26 rfl rfl rfl ⟨⟨_, _, rfl, rfl, rfl, rfl, ⟨Try.isAgg69, Try.sizeOf69⟩⟩, trivial⟩ (fun Xt => ?_)
 refine ji_start ?_
 refine ji_le (E' := ⟨[(0, .rc R_Name_Fields [0] m), (1, .rc R_number_wire [0] hv)], []⟩) (fun _ _ _ hs => hs) ?_
 unfold view_assign at h
 refine ji_region ⟨[(2, .ptr 14 0), (3, .ptr 15 0), (4, .ptr 16 0)], [⟨14, 24, [kS m.Name, .sl R_Name_Number_Kind_Repeated_Packed_Of [0] m.Fields]⟩, ⟨15, 67, [kI hv.number, kI hv.wire]⟩, ⟨16, 69, [kI 0, kB false, k8 0]⟩]⟩ (ro_o 0 [.rc R_Name_Fields [0] m] ⟨[(1, .rc R_number_wire [0] hv), (2, .ptr 14 0)], [⟨14, 24, [kS m.Name, .sl R_Name_Number_Kind_Repeated_Packed_Of [0] m.Fields]⟩]⟩ rfl (lo_box 14 [kS m.Name, .sl R_Name_Number_Kind_Repeated_Packed_Of [0] m.Fields] [0] rfl rfl rfl rfl rfl) rfl (by kernel_rfl) (ro_o 0 [.rc R_number_wire [0] hv] ⟨[(2, .ptr 14 0), (3, .ptr 15 0)], [⟨14, 24, [kS m.Name, .sl R_Name_Number_Kind_Repeated_Packed_Of [0] m.Fields]⟩, ⟨15, 67, [kI hv.number, kI hv.wire]⟩]⟩ rfl (lo_box 15 [kI hv.number, kI hv.wire] [0] rfl rfl rfl rfl rfl) rfl (by kernel_rfl) (ro_oz 0 [] rfl (lo_alloc 16 [kI 0, kB false, k8 0] rfl Try.zeroValue69 rfl) rfl (by kernel_rfl)))) ?_
 obtain ⟨rv, h_rv, h⟩ := bnd h
 refine ji_region ⟨[(2, .ptr 14 0), (3, .ptr 15 0), (4, .ptr 16 0), (5, kI rv)], [⟨14, 24, [kS m.Name, .sl R_Name_Number_Kind_Repeated_Packed_Of [0] m.Fields]⟩, ⟨15, 67, [kI hv.number, kI hv.wire]⟩, ⟨16, 69, [kI 0, kB false, k8 0]⟩]⟩ (ro_ob 0 [.ptr 14 0] [⟨14, 24, [kS m.Name, .sl R_Name_Number_Kind_Repeated_Packed_Of [0] m.Fields]⟩] ⟨[(2, .ptr 14 0), (3, .ptr 15 0), (4, .ptr 16 0), (8, .ag [kS m.Name, .sl R_Name_Number_Kind_Repeated_Packed_Of [0] m.Fields])], [⟨14, 24, [kS m.Name, .sl R_Name_Number_Kind_Repeated_Packed_Of [0] m.Fields]⟩, ⟨15, 67, [kI hv.number, kI hv.wire]⟩, ⟨16, 69, [kI 0, kB false, k8 0]⟩]⟩ rfl (lo_ldba (b := ⟨14, 24, [kS m.Name, .sl R_Name_Number_Kind_Repeated_Packed_Of [0] m.Fields]⟩) [kS m.Name, .sl R_Name_Number_Kind_Repeated_Packed_Of [0] m.Fields] rfl ⟨Try.isAgg24, Try.sizeOf24⟩ rfl rfl) rfl rfl (by kernel_rfl) (ro_oz 2 [.ag [kS m.Name, .sl R_Name_Number_Kind_Repeated_Packed_Of [0] m.Fields], kI hv.number] rfl (LocalOk.le (ins' := [(.tmp 8, .ag [kS m.Name, .sl R_Name_Number_Kind_Repeated_Packed_Of [0] m.Fields]), (.tmp 10, kI hv.number)]) (lo_call (args := [.tmp 8, .tmp 10]) [.rc R_Name_Fields [0] m, kI hv.number] [0] 15 rfl Try.call32 (view_first_ok h_rv) rfl rfl rfl rfl rfl) ⟨⟨rfl, le_agrc R_Name_Fields [0] m [kS m.Name, .sl R_Name_Number_Kind_Repeated_Packed_Of [0] m.Fields] rfl rfl⟩, ⟨rfl, AV.le_refl _⟩, trivial⟩) rfl (by kernel_rfl))) ?_
 refine ji_rz ⟨[(2, .ptr 14 0), (3, .ptr 15 0), (4, .ptr 16 0), (5, kI rv), (13, kB (rv == (-1)))], [⟨14, 24, [kS m.Name, .sl R_Name_Number_Kind_Repeated_Packed_Of [0] m.Fields]⟩, ⟨15, 67, [kI hv.number, kI hv.wire]⟩, ⟨16, 69, [kI 0, kB false, k8 0]⟩]⟩ (by kernel_rfl) ?_
 rcases ite_some h with ⟨hc1, h⟩ | ⟨hc1, h⟩
 ·
  refine ji_condT rfl hc1 ?_
  refine ji_region ⟨[(4, .ptr 16 0)], [⟨16, 69, [kI (-1), kB false, k8 0]⟩]⟩ (ro_o 0 [kI (-1)] ⟨[(4, .ptr 16 0), (14, .rc R_field_run_e [] (⟨(-1), false, 0⟩ : T_field_run_e))], [⟨16, 69, [kI 0, kB false, k8 0]⟩]⟩ rfl (lo_build (r := R_field_run_e) [kI (-1)] [] (⟨(-1), false, 0⟩ : T_field_run_e) rfl stt69 rfl rfl) rfl (by kernel_rfl) (ro_obz 0 [.ptr 16 0, .rc R_field_run_e [] (⟨(-1), false, 0⟩ : T_field_run_e)] [⟨16, 69, [kI 0, kB false, k8 0]⟩] rfl (lo_str (r := R_field_run_e) (b := ⟨16, 69, [kI 0, kB false, k8 0]⟩) (off := 0) [kI (-1), kB false, k8 0] rfl Try.sizeOf69 rfl rfl rfl rfl) rfl rfl (by kernel_rfl))) ?_
  obtain rfl := sj h
  refine je_ret ?_
  refine le_px ⟨[(4, .ptr 16 0)], [⟨16, 69, [kI (-1), kB false, k8 0]⟩]⟩ (by kernel_rfl) (le_rn 16 2 rfl (le_px ⟨[(4, .ptr 2 0)], [⟨2, 69, [kI (-1), kB false, k8 0]⟩]⟩ (by kernel_rfl) ?_))
  exact le_z (by kernel_rfl)
 refine ji_condF rfl hc1 ?_
 obtain ⟨x, h_x, h⟩ := bnd h
 refine ji_region ⟨[(3, .ptr 15 0), (4, .ptr 16 0), (5, kI rv), (6, .ptr 17 0)], [⟨15, 67, [kI hv.number, kI hv.wire]⟩, ⟨16, 69, [kI 0, kB false, k8 0]⟩, ⟨17, 55, [kS x.Name, kI x.Number, kI x.Kind, kB x.Repeated, kB x.Packed, kI x.Of]⟩]⟩ (ro_o 3 [.sl R_Name_Number_Kind_Repeated_Packed_Of [0] m.Fields, kI rv] ⟨[(3, .ptr 15 0), (4, .ptr 16 0), (5, kI rv), (18, .ep R_Name_Number_Kind_Repeated_Packed_Of [0] x 0)], [⟨15, 67, [kI hv.number, kI hv.wire]⟩, ⟨16, 69, [kI 0, kB false, k8 0]⟩]⟩ rfl (lo_ix rfl zet22.el (isSl_sl _ _ _) h_x) rfl (by kernel_rfl) (ro_o 0 [.ep R_Name_Number_Kind_Repeated_Packed_Of [0] x 0] ⟨[(3, .ptr 15 0), (4, .ptr 16 0), (5, kI rv), (19, .rc R_Name_Number_Kind_Repeated_Packed_Of [0] x)], [⟨15, 67, [kI hv.number, kI hv.wire]⟩, ⟨16, 69, [kI 0, kB false, k8 0]⟩]⟩ rfl (lo_ldr rfl ⟨Try.isAgg55, Try.sizeOf55⟩) rfl (by kernel_rfl) (ro_o 0 [] ⟨[(3, .ptr 15 0), (4, .ptr 16 0), (5, kI rv), (6, .ptr 17 0), (19, .rc R_Name_Number_Kind_Repeated_Packed_Of [0] x)], [⟨15, 67, [kI hv.number, kI hv.wire]⟩, ⟨16, 69, [kI 0, kB false, k8 0]⟩, ⟨17, 55, [kS [], kI 0, kI 0, kB false, kB false, kI 0]⟩]⟩ rfl (lo_alloc 17 [kS [], kI 0, kI 0, kB false, kB false, kI 0] rfl Try.zeroValue55 rfl) rfl (by kernel_rfl) (ro_obz 0 [.ptr 17 0, .rc R_Name_Number_Kind_Repeated_Packed_Of [0] x] [⟨17, 55, [kS [], kI 0, kI 0, kB false, kB false, kI 0]⟩] rfl (lo_str (r := R_Name_Number_Kind_Repeated_Packed_Of) (b := ⟨17, 55, [kS [], kI 0, kI 0, kB false, kB false, kI 0]⟩) (off := 0) [kS x.Name, kI x.Number, kI x.Kind, kB x.Repeated, kB x.Packed, kI x.Of] rfl Try.sizeOf55 rfl rfl rfl rfl) rfl rfl (by kernel_rfl))))) ?_
 obtain ⟨rv2, h_rv2, h⟩ := bnd h
 refine ji_region ⟨[(3, .ptr 15 0), (4, .ptr 16 0), (5, kI rv), (6, .ptr 17 0), (7, kB rv2)], [⟨15, 67, [kI hv.number, kI hv.wire]⟩, ⟨16, 69, [kI 0, kB false, k8 0]⟩, ⟨17, 55, [kS x.Name, kI x.Number, kI x.Kind, kB x.Repeated, kB x.Packed, kI x.Of]⟩]⟩ (ro_ob 0 [.ptr 17 0] [⟨17, 55, [kS x.Name, kI x.Number, kI x.Kind, kB x.Repeated, kB x.Packed, kI x.Of]⟩] ⟨[(3, .ptr 15 0), (4, .ptr 16 0), (5, kI rv), (6, .ptr 17 0), (20, .rc R_Name_Number_Kind_Repeated_Packed_Of [] x)], [⟨15, 67, [kI hv.number, kI hv.wire]⟩, ⟨16, 69, [kI 0, kB false, k8 0]⟩, ⟨17, 55, [kS x.Name, kI x.Number, kI x.Kind, kB x.Repeated, kB x.Packed, kI x.Of]⟩]⟩ rfl (lo_ldb (r := R_Name_Number_Kind_Repeated_Packed_Of) x [] rfl ⟨Try.isAgg55, Try.sizeOf55⟩ rfl rfl) rfl rfl (by kernel_rfl) (ro_oz 2 [.rc R_Name_Number_Kind_Repeated_Packed_Of [] x, kI hv.wire] rfl (lo_call [.rc R_Name_Number_Kind_Repeated_Packed_Of [] x, kI hv.wire] [1] 16 rfl Try.call33 (view_isRun_ok h_rv2) rfl rfl rfl rfl rfl) rfl (by kernel_rfl))) ?_
 obtain ⟨g, h_g, h⟩ := bnd h
 refine ji_region ⟨[(4, .ptr 16 0), (5, kI rv), (7, kB rv2), (33, kB g)], [⟨16, 69, [kI 0, kB false, k8 0]⟩]⟩ ?_ ?_
 ·
  refine (ro_sp 3 26 (!rv2) ⟨[(3, .ptr 15 0), (4, .ptr 16 0), (5, kI rv), (6, .ptr 17 0), (7, kB rv2), (26, kB (!rv2))], [⟨15, 67, [kI hv.number, kI hv.wire]⟩, ⟨16, 69, [kI 0, kB false, k8 0]⟩, ⟨17, 55, [kS x.Name, kI x.Number, kI x.Kind, kB x.Repeated, kB x.Packed, kI x.Of]⟩]⟩ (by kernel_rfl) rfl (fun hc2 => ?_) (fun hc2 => ?_))
  ·
   replace h_g := iteT h_g hc2
   obtain ⟨rv3, h_rv3, h_g⟩ := bnd h_g
   obtain rfl := sj h_g
   refine (ro_o 4 [kI x.Kind, kI hv.wire] ⟨[(4, .ptr 16 0), (5, kI rv), (7, kB rv2), (26, kB true), (31, kB rv3)], [⟨16, 69, [kI 0, kB false, k8 0]⟩]⟩ rfl (lo_call [kI x.Kind, kI hv.wire] [1] 16 rfl Try.call34 (view_fits_ok h_rv3) rfl rfl rfl rfl rfl) rfl (by kernel_rfl) (ro_pe ⟨[(4, .ptr 16 0), (5, kI rv), (7, kB rv2), (33, kB (!rv3))], [⟨16, 69, [kI 0, kB false, k8 0]⟩]⟩ (by kernel_rfl) ?_))
   exact le_z (by kernel_rfl)
  replace h_g := iteF h_g hc2
  obtain rfl := sj h_g
  refine ro_pe ⟨[(4, .ptr 16 0), (5, kI rv), (7, kB rv2), (33, kB false)], [⟨16, 69, [kI 0, kB false, k8 0]⟩]⟩ (by kernel_rfl) ?_
  exact le_z (by kernel_rfl)
 rcases ite_some h with ⟨hc3, h⟩ | ⟨hc3, h⟩
 ·
  refine ji_condT rfl hc3 ?_
  refine ji_region ⟨[(4, .ptr 16 0)], [⟨16, 69, [kI 0, kB false, k8 6]⟩]⟩ (ro_o 0 [k8 6] ⟨[(4, .ptr 16 0), (34, .rc R_field_run_e [] (⟨0, false, 6⟩ : T_field_run_e))], [⟨16, 69, [kI 0, kB false, k8 0]⟩]⟩ rfl (lo_build (r := R_field_run_e) [k8 6] [] (⟨0, false, 6⟩ : T_field_run_e) rfl stt69 rfl rfl) rfl (by kernel_rfl) (ro_obz 0 [.ptr 16 0, .rc R_field_run_e [] (⟨0, false, 6⟩ : T_field_run_e)] [⟨16, 69, [kI 0, kB false, k8 0]⟩] rfl (lo_str (r := R_field_run_e) (b := ⟨16, 69, [kI 0, kB false, k8 0]⟩) (off := 0) [kI 0, kB false, k8 6] rfl Try.sizeOf69 rfl rfl rfl rfl) rfl rfl (by kernel_rfl))) ?_
  obtain rfl := sj h
  refine je_ret ?_
  refine le_px ⟨[(4, .ptr 16 0)], [⟨16, 69, [kI 0, kB false, k8 6]⟩]⟩ (by kernel_rfl) (le_rn 16 2 rfl (le_px ⟨[(4, .ptr 2 0)], [⟨2, 69, [kI 0, kB false, k8 6]⟩]⟩ (by kernel_rfl) ?_))
  exact le_z (by kernel_rfl)
 refine ji_condF rfl hc3 ?_
 refine ji_region ⟨[(4, .ptr 16 0)], [⟨16, 69, [kI rv, kB rv2, k8 0]⟩]⟩ (ro_o 2 [kI rv, kB rv2] ⟨[(4, .ptr 16 0), (37, .rc R_field_run_e [] (⟨rv, rv2, 0⟩ : T_field_run_e))], [⟨16, 69, [kI 0, kB false, k8 0]⟩]⟩ rfl (lo_build (r := R_field_run_e) [kI rv, kB rv2] [] (⟨rv, rv2, 0⟩ : T_field_run_e) rfl stt69 rfl rfl) rfl (by kernel_rfl) (ro_obz 0 [.ptr 16 0, .rc R_field_run_e [] (⟨rv, rv2, 0⟩ : T_field_run_e)] [⟨16, 69, [kI 0, kB false, k8 0]⟩] rfl (lo_str (r := R_field_run_e) (b := ⟨16, 69, [kI 0, kB false, k8 0]⟩) (off := 0) [kI rv, kB rv2, k8 0] rfl Try.sizeOf69 rfl rfl rfl rfl) rfl rfl (by kernel_rfl))) ?_
 obtain rfl := sj h
 refine je_ret ?_
 refine le_px ⟨[(4, .ptr 16 0)], [⟨16, 69, [kI rv, kB rv2, k8 0]⟩]⟩ (by kernel_rfl) (le_rn 16 2 rfl (le_px ⟨[(4, .ptr 2 0)], [⟨2, 69, [kI rv, kB rv2, k8 0]⟩]⟩ (by kernel_rfl) ?_))
 exact le_z (by kernel_rfl)
theorem darningref10_All_ok {m : T_Name_Fields} {b : (List UInt8)} {r : ((List T_R_Field_Run) × Int × Int)} (h : darningref10_All m b = some r) : FnOk Try.prog 11 [.rc R_Name_Fields [0] m, .sl Rp.byte [0] b] [.own R_R_Field_Run 37 2 [] r.1, kI r.2.1, kI r.2.2] := by
 refine fn_intro' (E := ⟨[(4, .own R_R_Field_Run 37 2 [] r.1), (5, kI r.2.1), (6, kI r.2.2)], []⟩) 34 Try.func11 rfl rfl rfl ⟨rfl, rfl, rfl, trivial⟩ (fun Xt => ?_)
 refine ji_start ?_
 refine ji_le (E' := ⟨[(0, .rc R_Name_Fields [0] m), (1, .sl Rp.byte [0] b)], []⟩) (fun _ _ _ hs => hs) ?_
 unfold darningref10_All at h
 refine ji_region ⟨[(1, .sl Rp.byte [0] b), (2, .ptr 16 0)], [⟨16, 24, [kS m.Name, .sl R_Name_Number_Kind_Repeated_Packed_Of [0] m.Fields]⟩]⟩ (ro_oz 0 [.rc R_Name_Fields [0] m] rfl (lo_box 16 [kS m.Name, .sl R_Name_Number_Kind_Repeated_Packed_Of [0] m.Fields] [0] rfl rfl rfl rfl rfl) rfl (by kernel_rfl)) ?_
 refine ji_rz ⟨[(1, .sl Rp.byte [0] b), (2, .ptr 16 0), (7, kN)], [⟨16, 24, [kS m.Name, .sl R_Name_Number_Kind_Repeated_Packed_Of [0] m.Fields]⟩]⟩ (by kernel_rfl) ?_
 refine ji_rz ⟨[(1, .sl Rp.byte [0] b), (2, .ptr 16 0), (7, kN), (8, kI 0)], [⟨16, 24, [kS m.Name, .sl R_Name_Number_Kind_Repeated_Packed_Of [0] m.Fields]⟩]⟩ (by kernel_rfl) ?_
 refine ji_block ?_
 obtain ⟨q, h_q, h⟩ := bnd h
 refine je_loop (fun s : ((List T_R_Field_Run) × Int) => darningref10_All_b1 b m s.1 s.2) (fun s => ⟨[(1, .sl Rp.byte [0] b), (2, .ptr 16 0), (7, .own R_R_Field_Run 37 20 [] s.1), (8, kI s.2)], [⟨16, 24, [kS m.Name, .sl R_Name_Number_Kind_Repeated_Packed_Of [0] m.Fields]⟩]⟩) (fun o e a w => match o with | (.inl v_) => e = .exit 0 ∧ Sx ⟨⟨34, []⟩, Xt, false, #[]⟩ ⟨[(7, .own R_R_Field_Run 37 20 [] v_)], []⟩ a w | (.inr v_) => e = .ret ∧ Sx ⟨⟨34, []⟩, Xt, false, #[]⟩ ⟨[(4, kN), (5, kI v_.1), (6, kI v_.2)], []⟩ a w) ?_ h_q ?_ ?_
 ·
  clear h
  intro s o h
  obtain ⟨out, atv⟩ := s
  refine ji_start ?_
  refine ji_le (E' := ⟨[(1, .sl Rp.byte [0] b), (2, .ptr 16 0), (7, .own R_R_Field_Run 37 20 [] out), (8, kI atv)], [⟨16, 24, [kS m.Name, .sl R_Name_Number_Kind_Repeated_Packed_Of [0] m.Fields]⟩]⟩) (fun _ _ _ hs => hs) ?_
  replace h : darningref10_All_b1 b m out atv = some o := h
  unfold darningref10_All_b1 at h
  refine ji_rz ⟨[(1, .sl Rp.byte [0] b), (2, .ptr 16 0), (7, .own R_R_Field_Run 37 20 [] out), (8, kI atv), (14, kB (decide (atv < (b.length : Int))))], [⟨16, 24, [kS m.Name, .sl R_Name_Number_Kind_Repeated_Packed_Of [0] m.Fields]⟩]⟩ (by kernel_rfl) ?_
  rcases ite_some h with ⟨hc1, h⟩ | ⟨hc1, h⟩
  ·
   refine ji_condT rfl hc1 ?_
   refine ji_block ?_
   obtain ⟨rv, h_rv, h⟩ := bnd h
   refine ji_region ⟨[(1, .sl Rp.byte [0] b), (2, .ptr 16 0), (7, .own R_R_Field_Run 37 20 [] out), (8, kI atv), (9, .ptr 21 0), (10, kI rv.2)], [⟨16, 24, [kS m.Name, .sl R_Name_Number_Kind_Repeated_Packed_Of [0] m.Fields]⟩, ⟨21, 37, [kI rv.1.R.Number, kI rv.1.R.Wire, kI rv.1.R.From, kI rv.1.R.At, kI rv.1.R.To, kI rv.1.Field, kB rv.1.Run]⟩]⟩ (ro_ob 0 [.ptr 16 0] [⟨16, 24, [kS m.Name, .sl R_Name_Number_Kind_Repeated_Packed_Of [0] m.Fields]⟩] ⟨[(1, .sl Rp.byte [0] b), (2, .ptr 16 0), (7, .own R_R_Field_Run 37 20 [] out), (8, kI atv), (16, .ag [kS m.Name, .sl R_Name_Number_Kind_Repeated_Packed_Of [0] m.Fields])], [⟨16, 24, [kS m.Name, .sl R_Name_Number_Kind_Repeated_Packed_Of [0] m.Fields]⟩]⟩ rfl (lo_ldba (b := ⟨16, 24, [kS m.Name, .sl R_Name_Number_Kind_Repeated_Packed_Of [0] m.Fields]⟩) [kS m.Name, .sl R_Name_Number_Kind_Repeated_Packed_Of [0] m.Fields] rfl ⟨Try.isAgg24, Try.sizeOf24⟩ rfl rfl) rfl rfl (by kernel_rfl) (ro_o 2 [.ag [kS m.Name, .sl R_Name_Number_Kind_Repeated_Packed_Of [0] m.Fields], .sl Rp.byte [0] b, kI atv] ⟨[(1, .sl Rp.byte [0] b), (2, .ptr 16 0), (7, .own R_R_Field_Run 37 20 [] out), (8, kI atv), (19, .tup [.rc R_R_Field_Run [] rv.1, kI rv.2])], [⟨16, 24, [kS m.Name, .sl R_Name_Number_Kind_Repeated_Packed_Of [0] m.Fields]⟩]⟩ rfl (LocalOk.le (ins' := [(.tmp 16, .ag [kS m.Name, .sl R_Name_Number_Kind_Repeated_Packed_Of [0] m.Fields]), (.tmp 17, .sl Rp.byte [0] b), (.tmp 18, kI atv)]) (lo_call (args := [.tmp 16, .tmp 17, .tmp 18]) [.rc R_Name_Fields [0] m, .sl Rp.byte [0] b, kI atv] [0] 19 rfl Try.call9 (darningref10_Look_ok h_rv) rfl rfl rfl rfl rfl) ⟨⟨rfl, le_agrc R_Name_Fields [0] m [kS m.Name, .sl R_Name_Number_Kind_Repeated_Packed_Of [0] m.Fields] rfl rfl⟩, ⟨rfl, AV.le_refl _⟩, ⟨rfl, AV.le_refl _⟩, trivial⟩) rfl (by kernel_rfl) (ro_o 3 [] ⟨[(1, .sl Rp.byte [0] b), (2, .ptr 16 0), (7, .own R_R_Field_Run 37 20 [] out), (8, kI atv), (9, .ptr 21 0), (20, .rc R_R_Field_Run [] rv.1), (21, kI rv.2)], [⟨16, 24, [kS m.Name, .sl R_Name_Number_Kind_Repeated_Packed_Of [0] m.Fields]⟩, ⟨21, 37, [kI 0, kI 0, kI 0, kI 0, kI 0, kI 0, kB false]⟩]⟩ rfl (lo_alloc 21 [kI 0, kI 0, kI 0, kI 0, kI 0, kI 0, kB false] rfl Try.zeroValue37 rfl) rfl (by kernel_rfl) (ro_obz 0 [.ptr 21 0, .rc R_R_Field_Run [] rv.1] [⟨21, 37, [kI 0, kI 0, kI 0, kI 0, kI 0, kI 0, kB false]⟩] rfl (lo_str (r := R_R_Field_Run) (b := ⟨21, 37, [kI 0, kI 0, kI 0, kI 0, kI 0, kI 0, kB false]⟩) (off := 0) [kI rv.1.R.Number, kI rv.1.R.Wire, kI rv.1.R.From, kI rv.1.R.At, kI rv.1.R.To, kI rv.1.Field, kB rv.1.Run] rfl Try.sizeOf37 rfl rfl rfl rfl) rfl rfl (by kernel_rfl))))) ?_
   refine ji_rz ⟨[(1, .sl Rp.byte [0] b), (2, .ptr 16 0), (7, .own R_R_Field_Run 37 20 [] out), (8, kI atv), (9, .ptr 21 0), (10, kI rv.2), (23, kB (rv.2 != 0))], [⟨16, 24, [kS m.Name, .sl R_Name_Number_Kind_Repeated_Packed_Of [0] m.Fields]⟩, ⟨21, 37, [kI rv.1.R.Number, kI rv.1.R.Wire, kI rv.1.R.From, kI rv.1.R.At, kI rv.1.R.To, kI rv.1.Field, kB rv.1.Run]⟩]⟩ (by kernel_rfl) ?_
   rcases ite_some h with ⟨hc2, h⟩ | ⟨hc2, h⟩
   ·
    refine ji_condT rfl hc2 ?_
    refine ji_rz ⟨[(4, kN), (5, kI atv), (6, kI rv.2)], []⟩ (by kernel_rfl) ?_
    obtain rfl := sj h
    exact je_ret' (le_z (by kernel_rfl))
   refine ji_condF rfl hc2 ?_
   obtain ⟨v3, h_v3, h⟩ := bnd h
   refine ji_region ⟨[(1, .sl Rp.byte [0] b), (2, .ptr 16 0), (7, .own R_R_Field_Run 37 20 [] v3), (9, .ptr 21 0)], [⟨16, 24, [kS m.Name, .sl R_Name_Number_Kind_Repeated_Packed_Of [0] m.Fields]⟩, ⟨21, 37, [kI rv.1.R.Number, kI rv.1.R.Wire, kI rv.1.R.From, kI rv.1.R.At, kI rv.1.R.To, kI rv.1.Field, kB rv.1.Run]⟩]⟩ (ro_ob 1 [.ptr 21 0] [⟨21, 37, [kI rv.1.R.Number, kI rv.1.R.Wire, kI rv.1.R.From, kI rv.1.R.At, kI rv.1.R.To, kI rv.1.Field, kB rv.1.Run]⟩] ⟨[(1, .sl Rp.byte [0] b), (2, .ptr 16 0), (9, .ptr 21 0), (26, .own R_R_Field_Run 37 20 [] out), (27, .rc R_R_Field_Run [] rv.1)], [⟨16, 24, [kS m.Name, .sl R_Name_Number_Kind_Repeated_Packed_Of [0] m.Fields]⟩, ⟨21, 37, [kI rv.1.R.Number, kI rv.1.R.Wire, kI rv.1.R.From, kI rv.1.R.At, kI rv.1.R.To, kI rv.1.Field, kB rv.1.Run]⟩]⟩ rfl (lo_ldb (r := R_R_Field_Run) rv.1 [] rfl ⟨Try.isAgg37, Try.sizeOf37⟩ rfl rfl) rfl rfl (by kernel_rfl) (ro_o 0 [.rc R_R_Field_Run [] rv.1] ⟨[(1, .sl Rp.byte [0] b), (2, .ptr 16 0), (9, .ptr 21 0), (26, .own R_R_Field_Run 37 20 [] out), (28, .own R_R_Field_Run 37 22 [] ([rv.1] : (List T_R_Field_Run)))], [⟨16, 24, [kS m.Name, .sl R_Name_Number_Kind_Repeated_Packed_Of [0] m.Fields]⟩, ⟨21, 37, [kI rv.1.R.Number, kI rv.1.R.Wire, kI rv.1.R.From, kI rv.1.R.At, kI rv.1.R.To, kI rv.1.Field, kB rv.1.Run]⟩]⟩ rfl (lo_bsl [.rc R_R_Field_Run [] rv.1] 22 [] ([rv.1] : (List T_R_Field_Run)) rfl zet43 rfl rfl rfl rfl) rfl (by kernel_rfl) (ro_oz 0 [.own R_R_Field_Run 37 20 [] out, .own R_R_Field_Run 37 22 [] ([rv.1] : (List T_R_Field_Run))] rfl (lo_app 20 [] rfl zet43.el rfl (isOwn_own _ _ _ _ _) (isSl_own _ _ _ _ _) h_v3 (.inl plain_R_Field_Run) rfl) rfl (by kernel_rfl)))) ?_
   refine ji_rz ⟨[(1, .sl Rp.byte [0] b), (2, .ptr 16 0), (7, .own R_R_Field_Run 37 20 [] v3), (8, kI rv.1.R.To)], [⟨16, 24, [kS m.Name, .sl R_Name_Number_Kind_Repeated_Packed_Of [0] m.Fields]⟩]⟩ (by kernel_rfl) ?_
   refine ji_end ?_
   obtain rfl := sj h
   exact je_nil (le_z (by kernel_rfl))
  refine ji_condF rfl hc1 ?_
  obtain rfl := sj h
  exact je_out' rfl (le_z (by kernel_rfl))
 ·
  refine le_at 7 (.own R_R_Field_Run 37 20 [] []) rfl (le_own_nil R_R_Field_Run 37 20 [] rfl) ?_
  exact le_z (by kernel_rfl)
 rcases q with u | u2
 ·
  refine k_exit _ rfl ?_
  refine ji_rz ⟨[(4, .own R_R_Field_Run 37 20 [] u), (5, kI 0), (6, kI 0)], []⟩ (by kernel_rfl) ?_
  obtain rfl := sj h
  refine je_ret ?_
  refine le_px ⟨[(4, .own R_R_Field_Run 37 20 [] u), (5, kI 0), (6, kI 0)], []⟩ (by kernel_rfl) (le_rn 20 2 rfl (le_px ⟨[(4, .own R_R_Field_Run 37 2 [] u), (5, kI 0), (6, kI 0)], []⟩ (by kernel_rfl) ?_))
  exact le_z (by kernel_rfl)
 obtain rfl := sj h
 refine ke_ret ?_
 refine le_at 4 (.own R_R_Field_Run 37 2 [] (([], u2.1, u2.2) : ((List T_R_Field_Run) × Int × Int)).1) rfl (le_own_nil R_R_Field_Run 37 2 [] rfl) ?_
 exact le_z (by kernel_rfl)
end Go.Proofs.Ytdpolccecmaajaa
