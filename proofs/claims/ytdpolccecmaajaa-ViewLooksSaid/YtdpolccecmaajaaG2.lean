/-
  The Go functions do what the plain functions say. No condition.
-/
import Derived.Test.YtdpolccecmaajaaG1
namespace Go.Proofs.Ytdpolccecmaajaa
open Go Go.RowKit
set_option linter.unusedVariables false
set_option maxRecDepth 100000
theorem darninglaw10_same_ok {av : T_Record_Field_Run} {b : T_R_Field_Run} {r : Bool} (h : darninglaw10_same av b = some r) : FnOk Try.prog 12 [.rc R_Record_Field_Run [0] av, .rc R_R_Field_Run [0] b] [kB r] := by
 refine fn_intro' (E := ⟨[(4, kB r)], []⟩) 24 Try.func12 rfl rfl rfl ⟨rfl, trivial⟩ (fun Xt => ?_)
 refine ji_start ?_
 refine ji_le (E' := ⟨[(0, .rc R_Record_Field_Run [0] av), (1, .rc R_R_Field_Run [0] b)], []⟩) (fun _ _ _ hs => hs) ?_
 unfold darninglaw10_same at h
 refine ji_region ⟨[(2, .ptr 11 0), (3, .ptr 12 0)], [⟨11, 31, [kI av.Record.Number, kI av.Record.Wire, kI av.Record.From, kI av.Record.At, kI av.Record.To, kI av.Field, kB av.Run]⟩, ⟨12, 37, [kI b.R.Number, kI b.R.Wire, kI b.R.From, kI b.R.At, kI b.R.To, kI b.Field, kB b.Run]⟩]⟩ (ro_o 0 [.rc R_Record_Field_Run [0] av] ⟨[(1, .rc R_R_Field_Run [0] b), (2, .ptr 11 0)], [⟨11, 31, [kI av.Record.Number, kI av.Record.Wire, kI av.Record.From, kI av.Record.At, kI av.Record.To, kI av.Field, kB av.Run]⟩]⟩ rfl (lo_box 11 [kI av.Record.Number, kI av.Record.Wire, kI av.Record.From, kI av.Record.At, kI av.Record.To, kI av.Field, kB av.Run] [0] rfl rfl rfl rfl rfl) rfl (by kernel_rfl) (ro_oz 0 [.rc R_R_Field_Run [0] b] rfl (lo_box 12 [kI b.R.Number, kI b.R.Wire, kI b.R.From, kI b.R.At, kI b.R.To, kI b.Field, kB b.Run] [0] rfl rfl rfl rfl rfl) rfl (by kernel_rfl))) ?_
 refine ji_region ⟨[(4, kB ((decide (av.Record = b.R)) && ((av.Field == b.Field) && (av.Run == b.Run))))], []⟩ ?_ ?_
 ·
  refine (ro_ob 1 [.ptr 11 0] [⟨11, 31, [kI av.Record.Number, kI av.Record.Wire, kI av.Record.From, kI av.Record.At, kI av.Record.To, kI av.Field, kB av.Run]⟩] ⟨[(2, .ptr 11 0), (3, .ptr 12 0), (6, .rc R_Number_Wire_From_At_To [] av.Record)], [⟨11, 31, [kI av.Record.Number, kI av.Record.Wire, kI av.Record.From, kI av.Record.At, kI av.Record.To, kI av.Field, kB av.Run]⟩, ⟨12, 37, [kI b.R.Number, kI b.R.Wire, kI b.R.From, kI b.R.At, kI b.R.To, kI b.Field, kB b.Run]⟩]⟩ rfl (lo_ldb (r := R_Number_Wire_From_At_To) av.Record [] rfl ⟨Try.isAgg29, Try.sizeOf29⟩ rfl rfl) rfl rfl (by kernel_rfl) (ro_ob 1 [.ptr 12 0] [⟨12, 37, [kI b.R.Number, kI b.R.Wire, kI b.R.From, kI b.R.At, kI b.R.To, kI b.Field, kB b.Run]⟩] ⟨[(2, .ptr 11 0), (3, .ptr 12 0), (6, .rc R_Number_Wire_From_At_To [] av.Record), (8, .rc R_Number_Wire_From_At_To [] b.R)], [⟨11, 31, [kI av.Record.Number, kI av.Record.Wire, kI av.Record.From, kI av.Record.At, kI av.Record.To, kI av.Field, kB av.Run]⟩, ⟨12, 37, [kI b.R.Number, kI b.R.Wire, kI b.R.From, kI b.R.At, kI b.R.To, kI b.Field, kB b.Run]⟩]⟩ rfl (lo_ldb (r := R_Number_Wire_From_At_To) b.R [] rfl ⟨Try.isAgg35, Try.sizeOf35⟩ rfl rfl) rfl rfl (by kernel_rfl) (ro_o 0 [.rc R_Number_Wire_From_At_To [] av.Record, .rc R_Number_Wire_From_At_To [] b.R] ⟨[(2, .ptr 11 0), (3, .ptr 12 0), (9, kB (decide (av.Record = b.R)))], [⟨11, 31, [kI av.Record.Number, kI av.Record.Wire, kI av.Record.From, kI av.Record.At, kI av.Record.To, kI av.Field, kB av.Run]⟩, ⟨12, 37, [kI b.R.Number, kI b.R.Wire, kI b.R.From, kI b.R.At, kI b.R.To, kI b.Field, kB b.Run]⟩]⟩ rfl (lo_eqr rfl Try.eqGuardType35 rfl rfl (eqt35 _ _)) rfl (by kernel_rfl) (ro_sp 1 10 (decide (av.Record = b.R)) ⟨[(2, .ptr 11 0), (3, .ptr 12 0), (10, kB (decide (av.Record = b.R)))], [⟨11, 31, [kI av.Record.Number, kI av.Record.Wire, kI av.Record.From, kI av.Record.At, kI av.Record.To, kI av.Field, kB av.Run]⟩, ⟨12, 37, [kI b.R.Number, kI b.R.Wire, kI b.R.From, kI b.R.At, kI b.R.To, kI b.Field, kB b.Run]⟩]⟩ (by kernel_rfl) rfl (fun hc1 => ?_) (fun hc1 => ?_)))))
  ·
   refine (ro_sp 7 17 (av.Field == b.Field) ⟨[(2, .ptr 11 0), (3, .ptr 12 0), (17, kB (av.Field == b.Field))], [⟨11, 31, [kI av.Record.Number, kI av.Record.Wire, kI av.Record.From, kI av.Record.At, kI av.Record.To, kI av.Field, kB av.Run]⟩, ⟨12, 37, [kI b.R.Number, kI b.R.Wire, kI b.R.From, kI b.R.At, kI b.R.To, kI b.Field, kB b.Run]⟩]⟩ (by kernel_rfl) rfl (fun hc2 => ?_) (fun hc2 => ?_))
   · exact (ro_zb 4 (av.Run == b.Run) ((decide (av.Record = b.R)) && ((av.Field == b.Field) && (av.Run == b.Run))) (by rw [hc1, hc2] <;> rfl) (by kernel_rfl) (by kernel_rfl))
   exact (ro_zb 4 false ((decide (av.Record = b.R)) && ((av.Field == b.Field) && (av.Run == b.Run))) (by rw [hc1, hc2] <;> rfl) (by kernel_rfl) (by kernel_rfl))
  exact (ro_zb 4 false ((decide (av.Record = b.R)) && ((av.Field == b.Field) && (av.Run == b.Run))) (by rw [hc1] <;> rfl) (by kernel_rfl) (by kernel_rfl))
 obtain rfl := sj h
 exact je_ret (le_z (by kernel_rfl))
theorem slices_Grow___byte_byte__ok {n : Int} {r : (List UInt8)} (h : slices_Grow___byte_byte_ n = some r) : FnOk Try.prog 44 [kN, kI n] [.own Rp.byte 5 2 [] r] := by
 refine fn_intro' (E := ⟨[(4, .own Rp.byte 5 2 [] r)], []⟩) 27 Try.func44 rfl rfl rfl ⟨rfl, trivial⟩ (fun Xt => ?_)
 refine ji_start ?_
 refine ji_le (E' := ⟨[(0, kN), (1, kI n)], []⟩) (fun _ _ _ hs => hs) ?_
 unfold slices_Grow___byte_byte_ at h
 refine ji_rz ⟨[(0, kN), (1, kI n)], []⟩ (by kernel_rfl) ?_
 refine ji_rz ⟨[(0, kN), (1, kI n), (6, kB (decide (n < 0)))], []⟩ (by kernel_rfl) ?_
 rcases ite_some h with ⟨hc1, h⟩ | ⟨hc1, h⟩
 ·
  refine ji_condT rfl hc1 ?_
  exact absurd h nofun
 refine ji_condF rfl hc1 ?_
 refine ji_region ⟨[(0, kN), (1, kI (IntKind.i64.wrap (n - (IntKind.i64.wrap (0 - 0)))))], []⟩ (ro_oz 2 [kN] rfl (lo_capnil rfl Try.underlying25) rfl (by kernel_rfl)) ?_
 refine ji_rz ⟨[(0, kN), (1, kI (IntKind.i64.wrap (n - (IntKind.i64.wrap (0 - 0))))), (16, kB (decide ((IntKind.i64.wrap (n - (IntKind.i64.wrap (0 - 0)))) > 0)))], []⟩ (by kernel_rfl) ?_
 rcases ite_some h with ⟨hc2, h⟩ | ⟨hc2, h⟩
 ·
  refine ji_condT rfl hc2 ?_
  obtain ⟨v, h_v, h⟩ := bnd h
  obtain ⟨v2, h_v2, h⟩ := bnd h
  refine ji_region ⟨[(0, .own Rp.byte 5 12 [] v2)], []⟩ (ro_o 2 [kN] ⟨[(0, kN), (1, kI (IntKind.i64.wrap (n - (IntKind.i64.wrap (0 - 0))))), (17, kN), (19, kI 0)], []⟩ rfl (lo_capnil rfl Try.underlying25) rfl (by kernel_rfl) (ro_o 0 [kN, kI 0] ⟨[(0, kN), (1, kI (IntKind.i64.wrap (n - (IntKind.i64.wrap (0 - 0))))), (20, kN)], []⟩ rfl (lo_cutnil rfl zet25.el) rfl (by kernel_rfl) (ro_o 1 [kN, kI (IntKind.i64.wrap (n - (IntKind.i64.wrap (0 - 0))))] ⟨[(0, kN), (22, .own Rp.byte 5 12 [] v)], []⟩ rfl (lo_appz 12 rfl Try.underlying3 zet25 rfl h_v) rfl (by kernel_rfl) (ro_oz 2 [.own Rp.byte 5 12 [] v, kI 0] rfl (lo_cuto rfl zet25.el h_v2) rfl (by kernel_rfl))))) ?_
  refine ji_rz ⟨[(4, .own Rp.byte 5 12 [] v2)], []⟩ (by kernel_rfl) ?_
  obtain rfl := sj h
  refine je_ret ?_
  refine le_px ⟨[(4, .own Rp.byte 5 12 [] v2)], []⟩ (by kernel_rfl) (le_rn 12 2 rfl (le_px ⟨[(4, .own Rp.byte 5 2 [] v2)], []⟩ (by kernel_rfl) ?_))
  exact le_z (by kernel_rfl)
 refine ji_condF rfl hc2 ?_
 refine ji_rz ⟨[(4, kN)], []⟩ (by kernel_rfl) ?_
 obtain rfl := sj h
 refine je_ret ?_
 refine le_at 4 (.own Rp.byte 5 2 [] ([] : (List UInt8))) rfl (le_own_nil Rp.byte 5 2 [] rfl) ?_
 exact le_z (by kernel_rfl)
theorem darningref01_Same_ok {av : (List UInt8)} {b : (List UInt8)} {r : Bool} (h : darningref01_Same av b = some r) : FnOk Try.prog 16 [.sl Rp.byte [0] av, .sl Rp.byte [0] b] [kB r] := by
 refine fn_intro' (E := ⟨[(4, kB r)], []⟩) 10 Try.func16 rfl rfl rfl ⟨rfl, trivial⟩ (fun Xt => ?_)
 refine ji_start ?_
 refine ji_le (E' := ⟨[(0, .sl Rp.byte [0] av), (1, .sl Rp.byte [0] b)], []⟩) (fun _ _ _ hs => hs) ?_
 unfold darningref01_Same at h
 refine ji_rz ⟨[(0, .sl Rp.byte [0] av), (1, .sl Rp.byte [0] b)], []⟩ (by kernel_rfl) ?_
 refine ji_region ⟨[(4, kB (av == b))], []⟩ (ro_o 1 [.sl Rp.byte [0] av] ⟨[(1, .sl Rp.byte [0] b), (6, kS av)], []⟩ rfl (lo_b2s rfl Try.underlying25 Try.underlying5 Try.underlying9 (isSl_sl _ _ _)) rfl (by kernel_rfl) (ro_oz 1 [.sl Rp.byte [0] b] rfl (lo_b2s rfl Try.underlying25 Try.underlying5 Try.underlying9 (isSl_sl _ _ _)) rfl (by kernel_rfl))) ?_
 obtain rfl := sj h
 exact je_ret (le_z (by kernel_rfl))
theorem tag_Right_ok {t : T_Number_Wire} {r : Bool} (h : tag_Right t = some r) : FnOk Try.prog 38 [.rc R_Number_Wire [0] t] [kB r] := by
 refine fn_intro' (E := ⟨[(2, kB r)], []⟩) 16 Try.func38 rfl rfl rfl ⟨rfl, trivial⟩ (fun Xt => ?_)
 refine ji_start ?_
 refine ji_le (E' := ⟨[(0, .rc R_Number_Wire [0] t)], []⟩) (fun _ _ _ hs => hs) ?_
 unfold tag_Right at h
 refine ji_region ⟨[(1, .ptr 11 0)], [⟨11, 79, [kI t.Number, kI t.Wire]⟩]⟩ (ro_oz 0 [.rc R_Number_Wire [0] t] rfl (lo_box 11 [kI t.Number, kI t.Wire] [0] rfl rfl rfl rfl rfl) rfl (by kernel_rfl)) ?_
 obtain ⟨g, h_g, h⟩ := bnd h
 refine ji_region ⟨[(2, kB g)], []⟩ ?_ ?_
 ·
  refine (ro_sp 4 6 (decide (t.Number ≥ 1)) ⟨[(1, .ptr 11 0), (6, kB (decide (t.Number ≥ 1)))], [⟨11, 79, [kI t.Number, kI t.Wire]⟩]⟩ (by kernel_rfl) rfl (fun hc1 => ?_) (fun hc1 => ?_))
  ·
   replace h_g := iteT h_g hc1
   refine (ro_sp 5 11 (decide (t.Number ≤ 536870911)) ⟨[(1, .ptr 11 0), (11, kB (decide (t.Number ≤ 536870911)))], [⟨11, 79, [kI t.Number, kI t.Wire]⟩]⟩ (by kernel_rfl) rfl (fun hc2 => ?_) (fun hc2 => ?_))
   ·
    replace h_g := iteT h_g hc2
    obtain ⟨rv, h_rv, h_g⟩ := bnd h_g
    obtain rfl := sj h_g
    exact (ro_oz 2 [kI t.Wire] rfl (lo_call [kI t.Wire] [1] 10 rfl Try.call45 (tag_rightWire_ok h_rv) rfl rfl rfl rfl rfl) rfl (by kernel_rfl))
   replace h_g := iteF h_g hc2
   obtain rfl := sj h_g
   exact (ro_z (by kernel_rfl))
  replace h_g := iteF h_g hc1
  obtain rfl := sj h_g
  exact (ro_z (by kernel_rfl))
 obtain rfl := sj h
 exact je_ret (le_z (by kernel_rfl))
theorem varint_Skip_ok {b : (List UInt8)} {r : (Int × Int)} (h : varint_Skip b = some r) : FnOk Try.prog 39 [.sl Rp.byte [0] b] [kI r.1, k8 r.2] := by
 refine fn_intro' (E := ⟨[(2, kI r.1), (3, k8 r.2)], []⟩) 15 Try.func39 rfl rfl rfl ⟨rfl, rfl, trivial⟩ (fun Xt => ?_)
 refine ji_start ?_
 refine ji_le (E' := ⟨[(0, .sl Rp.byte [0] b)], []⟩) (fun _ _ _ hs => hs) ?_
 unfold varint_Skip at h
 refine ji_rz ⟨[(0, .sl Rp.byte [0] b)], []⟩ (by kernel_rfl) ?_
 obtain ⟨rv, h_rv, h⟩ := bnd h
 refine ji_region ⟨[(5, kI rv.2.1), (6, k8 rv.2.2)], []⟩ (ro_oz 1 [.sl Rp.byte [0] b] rfl (lo_call [.sl Rp.byte [0] b] [0] 9 rfl Try.call37 (varint_Read_ok h_rv) rfl rfl rfl rfl rfl) rfl (by kernel_rfl)) ?_
 refine ji_rz ⟨[(2, kI rv.2.1), (3, k8 rv.2.2)], []⟩ (by kernel_rfl) ?_
 obtain rfl := sj h
 exact je_ret (le_z (by kernel_rfl))
theorem slices_IndexFunc___api_Field_api_Field___view_first_1_ok {sv : (List T_Name_Number_Kind_Repeated_Packed_Of)} {v : Int} {r : Int} (h : slices_IndexFunc___api_Field_api_Field___view_first_1 sv v = some r) : FnOk Try.prog 40 [.sl R_Name_Number_Kind_Repeated_Packed_Of [0] sv, .fv 41 [.ep (Rp.int .i64) [0] v 0]] [kI r] := by
 refine fn_intro' (E := ⟨[(4, kI r)], []⟩) 19 Try.func40 rfl rfl rfl ⟨rfl, trivial⟩ (fun Xt => ?_)
 refine ji_start ?_
 refine ji_le (E' := ⟨[(0, .sl R_Name_Number_Kind_Repeated_Packed_Of [0] sv), (1, .fv 41 [.ep (Rp.int .i64) [0] v 0])], []⟩) (fun _ _ _ hs => hs) ?_
 unfold slices_IndexFunc___api_Field_api_Field___view_first_1 at h
 refine ji_rz ⟨[(0, .sl R_Name_Number_Kind_Repeated_Packed_Of [0] sv), (1, .fv 41 [.ep (Rp.int .i64) [0] v 0])], []⟩ (by kernel_rfl) ?_
 refine ji_rz ⟨[(0, .sl R_Name_Number_Kind_Repeated_Packed_Of [0] sv), (1, .fv 41 [.ep (Rp.int .i64) [0] v 0]), (7, kI (sv.length : Int)), (8, kI 0)], []⟩ (by kernel_rfl) ?_
 refine ji_block ?_
 obtain ⟨q, h_q, h⟩ := bnd h
 refine je_loop (fun s : Int => slices_IndexFunc___api_Field_api_Field___view_first_1_b1 sv v s) (fun s => ⟨[(0, .sl R_Name_Number_Kind_Repeated_Packed_Of [0] sv), (1, .fv 41 [.ep (Rp.int .i64) [0] v 0]), (7, kI (sv.length : Int)), (8, kI s)], []⟩) (fun o e a w => match o with | (.inl v_) => e = .exit 0 ∧ Sx ⟨⟨19, []⟩, Xt, false, #[]⟩ ⟨[], []⟩ a w | (.inr v_) => e = .ret ∧ Sx ⟨⟨19, []⟩, Xt, false, #[]⟩ ⟨[(4, kI v_)], []⟩ a w) ?_ h_q (le_z (by kernel_rfl)) ?_
 ·
  clear h
  intro v2 o h
  refine ji_start ?_
  refine ji_le (E' := ⟨[(0, .sl R_Name_Number_Kind_Repeated_Packed_Of [0] sv), (1, .fv 41 [.ep (Rp.int .i64) [0] v 0]), (7, kI (sv.length : Int)), (8, kI v2)], []⟩) (fun _ _ _ hs => hs) ?_
  replace h : slices_IndexFunc___api_Field_api_Field___view_first_1_b1 sv v v2 = some o := h
  unfold slices_IndexFunc___api_Field_api_Field___view_first_1_b1 at h
  refine ji_rz ⟨[(0, .sl R_Name_Number_Kind_Repeated_Packed_Of [0] sv), (1, .fv 41 [.ep (Rp.int .i64) [0] v 0]), (7, kI (sv.length : Int)), (8, kI v2), (9, kB (decide (v2 < (sv.length : Int))))], []⟩ (by kernel_rfl) ?_
  rcases ite_some h with ⟨hc1, h⟩ | ⟨hc1, h⟩
  ·
   refine ji_condT rfl hc1 ?_
   refine ji_block ?_
   refine ji_rz ⟨[(0, .sl R_Name_Number_Kind_Repeated_Packed_Of [0] sv), (1, .fv 41 [.ep (Rp.int .i64) [0] v 0]), (5, kI v2), (7, kI (sv.length : Int)), (8, kI v2)], []⟩ (by kernel_rfl) ?_
   obtain ⟨x, h_x, h⟩ := bnd h
   obtain ⟨rv, h_rv, h⟩ := bnd h
   refine ji_region ⟨[(0, .sl R_Name_Number_Kind_Repeated_Packed_Of [0] sv), (1, .fv 41 [.ep (Rp.int .i64) [0] v 0]), (5, kI v2), (7, kI (sv.length : Int)), (8, kI v2), (16, kB rv)], []⟩ (ro_o 3 [.sl R_Name_Number_Kind_Repeated_Packed_Of [0] sv, kI v2] ⟨[(0, .sl R_Name_Number_Kind_Repeated_Packed_Of [0] sv), (1, .fv 41 [.ep (Rp.int .i64) [0] v 0]), (5, kI v2), (7, kI (sv.length : Int)), (8, kI v2), (11, .fv 41 [.ep (Rp.int .i64) [0] v 0]), (14, .ep R_Name_Number_Kind_Repeated_Packed_Of [0] x 0)], []⟩ rfl (lo_ix rfl zet22.el (isSl_sl _ _ _) h_x) rfl (by kernel_rfl) (ro_o 0 [.ep R_Name_Number_Kind_Repeated_Packed_Of [0] x 0] ⟨[(0, .sl R_Name_Number_Kind_Repeated_Packed_Of [0] sv), (1, .fv 41 [.ep (Rp.int .i64) [0] v 0]), (5, kI v2), (7, kI (sv.length : Int)), (8, kI v2), (11, .fv 41 [.ep (Rp.int .i64) [0] v 0]), (15, .rc R_Name_Number_Kind_Repeated_Packed_Of [0] x)], []⟩ rfl (lo_ldr rfl ⟨Try.isAgg55, Try.sizeOf55⟩) rfl (by kernel_rfl) (ro_oz 0 [.fv 41 [.ep (Rp.int .i64) [0] v 0], .rc R_Name_Number_Kind_Repeated_Packed_Of [0] x] rfl (lo_callv (args := [.tmp 15]) [.rc R_Name_Number_Kind_Repeated_Packed_Of [0] x] [0] 10 rfl (isFv_fv _ _) Try.call41 (view_first_1_ok h_rv) rfl rfl rfl rfl rfl) rfl (by kernel_rfl)))) ?_
   rcases ite_some h with ⟨hc2, h⟩ | ⟨hc2, h⟩
   ·
    refine ji_condT rfl hc2 ?_
    refine ji_rz ⟨[(4, kI v2)], []⟩ (by kernel_rfl) ?_
    obtain rfl := sj h
    exact je_ret' (le_z (by kernel_rfl))
   refine ji_condF rfl hc2 ?_
   refine ji_end ?_
   refine ji_rz ⟨[(0, .sl R_Name_Number_Kind_Repeated_Packed_Of [0] sv), (1, .fv 41 [.ep (Rp.int .i64) [0] v 0]), (7, kI (sv.length : Int)), (8, kI (IntKind.i64.wrap (v2 + 1)))], []⟩ (by kernel_rfl) ?_
   obtain rfl := sj h
   exact je_nil (le_z (by kernel_rfl))
  refine ji_condF rfl hc1 ?_
  obtain rfl := sj h
  exact je_out' rfl (le_z (by kernel_rfl))
 rcases q with u | u2
 ·
  refine k_exit _ rfl ?_
  refine ji_rz ⟨[(4, kI (-1))], []⟩ (by kernel_rfl) ?_
  obtain rfl := sj h
  exact je_ret (le_z (by kernel_rfl))
 obtain rfl := sj h
 exact ke_ret (le_z (by kernel_rfl))
theorem kind_Wire_ok {k : Int} {r : (Int × Int)} (h : kind_Wire k = some r) : FnOk Try.prog 43 [kI k] [kI r.1, k8 r.2] := by
 refine fn_intro' (E := ⟨[(2, kI r.1), (3, k8 r.2)], []⟩) 16 Try.func43 rfl rfl rfl ⟨rfl, rfl, trivial⟩ (fun Xt => ?_)
 refine ji_start ?_
 refine ji_le (E' := ⟨[(0, kI k)], []⟩) (fun _ _ _ hs => hs) ?_
 unfold kind_Wire at h
 refine ji_rz ⟨[(0, kI k)], []⟩ (by kernel_rfl) ?_
 obtain ⟨rv, h_rv, h⟩ := bnd h
 refine ji_region ⟨[(4, .ptr 12 0), (5, kB ((mget rv k).isSome))], [⟨12, 98, [kS (((mget rv k).getD (⟨[], 0⟩ : T_name_wire)).name), kI (((mget rv k).getD (⟨[], 0⟩ : T_name_wire)).wire)]⟩]⟩ (ro_o 0 [] ⟨[(0, kI k), (7, .om (Rp.int .i64) R_name_wire 11 [] rv)], []⟩ rfl (lo_call [] [1] 9 rfl Try.call46 (kind_kinds_ok h_rv) rfl rfl rfl rfl rfl) rfl (by kernel_rfl) (ro_o 1 [.om (Rp.int .i64) R_name_wire 11 [] rv, kI k] ⟨[(9, .tup [.rc R_name_wire [11] ((mget rv k).getD (⟨[], 0⟩ : T_name_wire)), kB ((mget rv k).isSome)])], []⟩ rfl (lo_mget2 (rk := (Rp.int .i64)) (rv := R_name_wire) (m := rv) (k := k) (.rc R_name_wire [11] ((mget rv k).getD (⟨[], 0⟩ : T_name_wire))) rfl mapt100 (isMp_om _ _ _ _ _) (asV_lf rfl rfl) (elAV_rc rfl)) rfl (by kernel_rfl) (ro_o 3 [] ⟨[(4, .ptr 12 0), (10, .rc R_name_wire [11] ((mget rv k).getD (⟨[], 0⟩ : T_name_wire))), (11, kB ((mget rv k).isSome))], [⟨12, 98, [kS [], kI 0]⟩]⟩ rfl (lo_alloc 12 [kS [], kI 0] rfl Try.zeroValue98 rfl) rfl (by kernel_rfl) (ro_obz 0 [.ptr 12 0, .rc R_name_wire [11] ((mget rv k).getD (⟨[], 0⟩ : T_name_wire))] [⟨12, 98, [kS [], kI 0]⟩] rfl (lo_str (r := R_name_wire) (b := ⟨12, 98, [kS [], kI 0]⟩) (off := 0) [kS (((mget rv k).getD (⟨[], 0⟩ : T_name_wire)).name), kI (((mget rv k).getD (⟨[], 0⟩ : T_name_wire)).wire)] rfl Try.sizeOf98 rfl rfl rfl rfl) rfl rfl (by kernel_rfl))))) ?_
 refine ji_rz ⟨[(4, .ptr 12 0), (13, kB (!(mget rv k).isSome))], [⟨12, 98, [kS (((mget rv k).getD (⟨[], 0⟩ : T_name_wire)).name), kI (((mget rv k).getD (⟨[], 0⟩ : T_name_wire)).wire)]⟩]⟩ (by kernel_rfl) ?_
 rcases ite_some h with ⟨hc1, h⟩ | ⟨hc1, h⟩
 ·
  refine ji_condT rfl hc1 ?_
  refine ji_rz ⟨[(2, kI 0), (3, k8 2)], []⟩ (by kernel_rfl) ?_
  obtain rfl := sj h
  exact je_ret (le_z (by kernel_rfl))
 refine ji_condF rfl hc1 ?_
 refine ji_rz ⟨[(2, kI (((mget rv k).getD (⟨[], 0⟩ : T_name_wire)).wire)), (3, k8 0)], []⟩ (by kernel_rfl) ?_
 obtain rfl := sj h
 exact je_ret (le_z (by kernel_rfl))
theorem darningref03_Read_ok {b : (List UInt8)} {atv : Int} {r : (Int × Int × Int × Int)} (h : darningref03_Read b atv = some r) : FnOk Try.prog 27 [.sl Rp.byte [0] b, kI atv] [kI r.1, kI r.2.1, kI r.2.2.1, kI r.2.2.2] := by
 refine fn_intro' (E := ⟨[(4, kI r.1), (5, kI r.2.1), (6, kI r.2.2.1), (7, kI r.2.2.2)], []⟩) 40 Try.func27 rfl rfl rfl ⟨rfl, rfl, rfl, rfl, trivial⟩ (fun Xt => ?_)
 refine ji_start ?_
 refine ji_le (E' := ⟨[(0, .sl Rp.byte [0] b), (1, kI atv)], []⟩) (fun _ _ _ hs => hs) ?_
 unfold darningref03_Read at h
 refine ji_rz ⟨[(0, .sl Rp.byte [0] b), (1, kI atv)], []⟩ (by kernel_rfl) ?_
 obtain ⟨rv, h_rv, h⟩ := bnd h
 refine ji_region ⟨[(8, kU rv.1), (9, kI rv.2.1), (10, kI rv.2.2)], []⟩ (ro_oz 2 [.sl Rp.byte [0] b, kI atv] rfl (lo_call [.sl Rp.byte [0] b, kI atv] [0] 9 rfl Try.call28 (darningref02_Read_ok h_rv) rfl rfl rfl rfl rfl) rfl (by kernel_rfl)) ?_
 refine ji_rz ⟨[(8, kU rv.1), (9, kI rv.2.1), (10, kI rv.2.2), (19, kB (rv.2.2 != 0))], []⟩ (by kernel_rfl) ?_
 rcases ite_some h with ⟨hc1, h⟩ | ⟨hc1, h⟩
 ·
  refine ji_condT rfl hc1 ?_
  refine ji_rz ⟨[(4, kI 0), (5, kI 0), (6, kI 0), (7, kI rv.2.2)], []⟩ (by kernel_rfl) ?_
  obtain rfl := sj h
  exact je_ret (le_z (by kernel_rfl))
 refine ji_condF rfl hc1 ?_
 obtain ⟨g, h_g, h⟩ := bnd h
 refine ji_region ⟨[(8, kU rv.1), (9, kI rv.2.1), (32, kB g)], []⟩ ?_ ?_
 ·
  refine (ro_sp 3 23 (decide (rv.1 > 4294967295)) ⟨[(8, kU rv.1), (9, kI rv.2.1), (23, kB (decide (rv.1 > 4294967295)))], []⟩ (by kernel_rfl) rfl (fun hc2 => ?_) (fun hc2 => ?_))
  ·
   replace h_g := iteT h_g hc2
   obtain rfl := sj h_g
   exact (ro_z (by kernel_rfl))
  replace h_g := iteF h_g hc2
  obtain ⟨rv2, h_rv2, h_g⟩ := bnd h_g
  obtain rfl := sj h_g
  exact (ro_oz 6 [kI (IntKind.i64.wrap (IntKind.u64.wrap (Int.tdiv rv.1 8))), kI (IntKind.i64.wrap (Int.tmod rv.1 8))] rfl (lo_call [kI (IntKind.i64.wrap (IntKind.u64.wrap (Int.tdiv rv.1 8))), kI (IntKind.i64.wrap (Int.tmod rv.1 8))] [1] 9 rfl Try.call35 (darningref03_Right_ok h_rv2) rfl rfl rfl rfl rfl) rfl (by kernel_rfl))
 rcases ite_some h with ⟨hc3, h⟩ | ⟨hc3, h⟩
 ·
  refine ji_condT rfl hc3 ?_
  refine ji_rz ⟨[(4, kI 0), (5, kI 0), (6, kI 0), (7, kI 5)], []⟩ (by kernel_rfl) ?_
  obtain rfl := sj h
  exact je_ret (le_z (by kernel_rfl))
 refine ji_condF rfl hc3 ?_
 refine ji_rz ⟨[(4, kI (IntKind.i64.wrap (IntKind.u64.wrap (Int.tdiv rv.1 8)))), (5, kI (IntKind.i64.wrap (Int.tmod rv.1 8))), (6, kI rv.2.1), (7, kI 0)], []⟩ (by kernel_rfl) ?_
 obtain rfl := sj h
 exact je_ret (le_z (by kernel_rfl))
theorem slices_Concat___byte_byte__ok {slices : (List (List UInt8))} {r : (List UInt8)} (h : slices_Concat___byte_byte_ slices = some r) : FnOk Try.prog 36 [.sl (Rp.list Rp.byte) [0] slices] [.own Rp.byte 5 2 [] r] := by
 refine fn_intro' (E := ⟨[(2, .own Rp.byte 5 2 [] r)], []⟩) 36 Try.func36 rfl rfl rfl ⟨rfl, trivial⟩ (fun Xt => ?_)
 refine ji_start ?_
 refine ji_le (E' := ⟨[(0, .sl (Rp.list Rp.byte) [0] slices)], []⟩) (fun _ _ _ hs => hs) ?_
 unfold slices_Concat___byte_byte_ at h
 refine ji_rz ⟨[(0, .sl (Rp.list Rp.byte) [0] slices)], []⟩ (by kernel_rfl) ?_
 refine ji_rz ⟨[(0, .sl (Rp.list Rp.byte) [0] slices), (3, kI 0)], []⟩ (by kernel_rfl) ?_
 refine ji_rz ⟨[(0, .sl (Rp.list Rp.byte) [0] slices), (3, kI 0), (9, .sl (Rp.list Rp.byte) [0] slices), (10, kI (slices.length : Int)), (11, kI 0)], []⟩ (by kernel_rfl) ?_
 refine ji_block ?_
 obtain ⟨q, h_q, h⟩ := bnd h
 refine je_loop (fun s : (Int × Int) => slices_Concat___byte_byte__b1 slices s.1 s.2) (fun s => ⟨[(0, .sl (Rp.list Rp.byte) [0] slices), (3, kI s.1), (9, .sl (Rp.list Rp.byte) [0] slices), (10, kI (slices.length : Int)), (11, kI s.2)], []⟩) (fun o e a w => e = .exit 0 ∧ Sx ⟨⟨36, []⟩, Xt, false, #[]⟩ ⟨[(0, .sl (Rp.list Rp.byte) [0] slices), (3, kI o)], []⟩ a w) ?_ h_q (le_z (by kernel_rfl)) ?_
 ·
  clear h
  intro s o h
  obtain ⟨size, v⟩ := s
  refine ji_start ?_
  refine ji_le (E' := ⟨[(0, .sl (Rp.list Rp.byte) [0] slices), (3, kI size), (9, .sl (Rp.list Rp.byte) [0] slices), (10, kI (slices.length : Int)), (11, kI v)], []⟩) (fun _ _ _ hs => hs) ?_
  replace h : slices_Concat___byte_byte__b1 slices size v = some o := h
  unfold slices_Concat___byte_byte__b1 at h
  refine ji_rz ⟨[(0, .sl (Rp.list Rp.byte) [0] slices), (3, kI size), (9, .sl (Rp.list Rp.byte) [0] slices), (10, kI (slices.length : Int)), (11, kI v), (12, kB (decide (v < (slices.length : Int))))], []⟩ (by kernel_rfl) ?_
  rcases ite_some h with ⟨hc1, h⟩ | ⟨hc1, h⟩
  ·
   refine ji_condT rfl hc1 ?_
   refine ji_block ?_
   obtain ⟨x, h_x, h⟩ := bnd h
   refine ji_region ⟨[(0, .sl (Rp.list Rp.byte) [0] slices), (3, kI size), (5, .sl Rp.byte [0] x), (9, .sl (Rp.list Rp.byte) [0] slices), (10, kI (slices.length : Int)), (11, kI v)], []⟩ (ro_o 0 [.sl (Rp.list Rp.byte) [0] slices, kI v] ⟨[(0, .sl (Rp.list Rp.byte) [0] slices), (3, kI size), (9, .sl (Rp.list Rp.byte) [0] slices), (10, kI (slices.length : Int)), (11, kI v), (13, .ep (Rp.list Rp.byte) [0] x 0)], []⟩ rfl (lo_ix rfl zet49.el (isSl_sl _ _ _) h_x) rfl (by kernel_rfl) (ro_oz 0 [.ep (Rp.list Rp.byte) [0] x 0] rfl (lo_lds Rp.byte x rfl rfl rfl) rfl (by kernel_rfl))) ?_
   refine ji_rz ⟨[(0, .sl (Rp.list Rp.byte) [0] slices), (3, kI (IntKind.i64.wrap (size + (x.length : Int)))), (9, .sl (Rp.list Rp.byte) [0] slices), (10, kI (slices.length : Int)), (11, kI v)], []⟩ (by kernel_rfl) ?_
   refine ji_rz ⟨[(0, .sl (Rp.list Rp.byte) [0] slices), (3, kI (IntKind.i64.wrap (size + (x.length : Int)))), (9, .sl (Rp.list Rp.byte) [0] slices), (10, kI (slices.length : Int)), (11, kI v), (20, kB (decide ((IntKind.i64.wrap (size + (x.length : Int))) < 0)))], []⟩ (by kernel_rfl) ?_
   rcases ite_some h with ⟨hc2, h⟩ | ⟨hc2, h⟩
   ·
    refine ji_condT rfl hc2 ?_
    exact absurd h nofun
   refine ji_condF rfl hc2 ?_
   refine ji_end ?_
   refine ji_rz ⟨[(0, .sl (Rp.list Rp.byte) [0] slices), (3, kI (IntKind.i64.wrap (size + (x.length : Int)))), (9, .sl (Rp.list Rp.byte) [0] slices), (10, kI (slices.length : Int)), (11, kI (IntKind.i64.wrap (v + 1)))], []⟩ (by kernel_rfl) ?_
   obtain rfl := sj h
   exact je_nil (le_z (by kernel_rfl))
  refine ji_condF rfl hc1 ?_
  obtain rfl := sj h
  exact je_out' rfl (le_z (by kernel_rfl))
 refine k_exit _ rfl ?_
 obtain ⟨rv, h_rv, h⟩ := bnd h
 refine ji_region ⟨[(0, .sl (Rp.list Rp.byte) [0] slices), (6, .own Rp.byte 5 14 [] rv)], []⟩ (ro_oz 1 [kN, kI q] rfl (lo_call [kN, kI q] [1] 12 rfl Try.call44 (slices_Grow___byte_byte__ok h_rv) rfl rfl rfl rfl rfl) rfl (by kernel_rfl)) ?_
 refine ji_rz ⟨[(6, .own Rp.byte 5 14 [] rv), (25, .sl (Rp.list Rp.byte) [0] slices), (26, kI (slices.length : Int)), (27, kI 0)], []⟩ (by kernel_rfl) ?_
 refine ji_block ?_
 obtain ⟨q2, h_q2, h⟩ := bnd h
 refine je_loop (fun s : ((List UInt8) × Int) => slices_Concat___byte_byte__b2 slices s.1 s.2) (fun s => ⟨[(6, .own Rp.byte 5 14 [] s.1), (25, .sl (Rp.list Rp.byte) [0] slices), (26, kI (slices.length : Int)), (27, kI s.2)], []⟩) (fun o e a w => e = .exit 2 ∧ Sx ⟨⟨36, []⟩, Xt, false, #[]⟩ ⟨[(6, .own Rp.byte 5 14 [] o)], []⟩ a w) ?_ h_q2 (le_z (by kernel_rfl)) ?_
 ·
  clear h
  intro s o h
  obtain ⟨newslice, v2⟩ := s
  refine ji_start ?_
  refine ji_le (E' := ⟨[(6, .own Rp.byte 5 14 [] newslice), (25, .sl (Rp.list Rp.byte) [0] slices), (26, kI (slices.length : Int)), (27, kI v2)], []⟩) (fun _ _ _ hs => hs) ?_
  replace h : slices_Concat___byte_byte__b2 slices newslice v2 = some o := h
  unfold slices_Concat___byte_byte__b2 at h
  refine ji_rz ⟨[(6, .own Rp.byte 5 14 [] newslice), (25, .sl (Rp.list Rp.byte) [0] slices), (26, kI (slices.length : Int)), (27, kI v2), (28, kB (decide (v2 < (slices.length : Int))))], []⟩ (by kernel_rfl) ?_
  rcases ite_some h with ⟨hc3, h⟩ | ⟨hc3, h⟩
  ·
   refine ji_condT rfl hc3 ?_
   refine ji_block ?_
   obtain ⟨x2, h_x2, h⟩ := bnd h
   refine ji_region ⟨[(6, .own Rp.byte 5 14 [] newslice), (8, .sl Rp.byte [0] x2), (25, .sl (Rp.list Rp.byte) [0] slices), (26, kI (slices.length : Int)), (27, kI v2)], []⟩ (ro_o 0 [.sl (Rp.list Rp.byte) [0] slices, kI v2] ⟨[(6, .own Rp.byte 5 14 [] newslice), (25, .sl (Rp.list Rp.byte) [0] slices), (26, kI (slices.length : Int)), (27, kI v2), (29, .ep (Rp.list Rp.byte) [0] x2 0)], []⟩ rfl (lo_ix rfl zet49.el (isSl_sl _ _ _) h_x2) rfl (by kernel_rfl) (ro_oz 0 [.ep (Rp.list Rp.byte) [0] x2 0] rfl (lo_lds Rp.byte x2 rfl rfl rfl) rfl (by kernel_rfl))) ?_
   obtain ⟨v3, h_v3, h⟩ := bnd h
   refine ji_region ⟨[(6, .own Rp.byte 5 14 [] v3), (25, .sl (Rp.list Rp.byte) [0] slices), (26, kI (slices.length : Int)), (27, kI v2)], []⟩ (ro_oz 2 [.own Rp.byte 5 14 [] newslice, .sl Rp.byte [0] x2] rfl (lo_app 14 [] rfl zet25.el rfl (isOwn_own _ _ _ _ _) (isSl_sl _ _ _) h_v3 (.inl plain_byte) rfl) rfl (by kernel_rfl)) ?_
   refine ji_end ?_
   refine ji_rz ⟨[(6, .own Rp.byte 5 14 [] v3), (25, .sl (Rp.list Rp.byte) [0] slices), (26, kI (slices.length : Int)), (27, kI (IntKind.i64.wrap (v2 + 1)))], []⟩ (by kernel_rfl) ?_
   obtain rfl := sj h
   exact je_nil (le_z (by kernel_rfl))
  refine ji_condF rfl hc3 ?_
  obtain rfl := sj h
  exact je_out' rfl (le_z (by kernel_rfl))
 refine k_exit _ rfl ?_
 refine ji_rz ⟨[(2, .own Rp.byte 5 14 [] q2)], []⟩ (by kernel_rfl) ?_
 obtain rfl := sj h
 refine je_ret ?_
 refine le_px ⟨[(2, .own Rp.byte 5 14 [] q2)], []⟩ (by kernel_rfl) (le_rn 14 2 rfl (le_px ⟨[(2, .own Rp.byte 5 2 [] q2)], []⟩ (by kernel_rfl) ?_))
 exact le_z (by kernel_rfl)
end Go.Proofs.Ytdpolccecmaajaa
