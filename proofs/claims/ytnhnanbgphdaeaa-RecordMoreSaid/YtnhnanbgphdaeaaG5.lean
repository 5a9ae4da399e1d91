/-
  The Go functions do what the plain functions say. No condition.
-/
import Derived.Test.YtnhnanbgphdaeaaG4
namespace Go.Proofs.Ytnhnanbgphdaeaa
open Go Go.RowKit
set_option linter.unusedVariables false
set_option maxRecDepth 100000
theorem record_Split_ok {b : (List UInt8)} {r : ((List T_Number_Wire_From_At_To) × Int × Int)} (h : record_Split b = some r) : FnOk Try.prog 10 [.sl Rp.byte [0] b] [.own R_Number_Wire_From_At_To 25 2 [] r.1, kI r.2.1, k8 r.2.2] := by
 refine fn_intro' (E := ⟨[(2, .own R_Number_Wire_From_At_To 25 2 [] r.1), (3, kI r.2.1), (4, k8 r.2.2)], []⟩) 29 Try.func10 rfl rfl rfl ⟨rfl, rfl, rfl, trivial⟩ (fun w0 F => ?_)
 refine ji_start ?_
 refine ji_le (E' := ⟨[(0, .sl Rp.byte [0] b)], []⟩) (fun _ _ _ hs => hs) ?_
 unfold record_Split at h
 refine ji_rz ⟨[(0, .sl Rp.byte [0] b), (2, kN)], []⟩ (by kernel_rfl) ?_
 refine ji_rz ⟨[(0, .sl Rp.byte [0] b), (2, kN), (5, kI 0)], []⟩ (by kernel_rfl) ?_
 refine ji_block ?_
 obtain ⟨q, h_q, h⟩ := bnd h
 refine je_loop (fun s : ((List T_Number_Wire_From_At_To) × Int) => record_Split_b1 b s.1 s.2) (fun s => ⟨[(0, .sl Rp.byte [0] b), (2, .own R_Number_Wire_From_At_To 25 18 [] s.1), (5, kI s.2)], []⟩) (fun o e a w => match o with | (.inl v_) => e = .exit 0 ∧ Sx ⟨29, w0, F⟩ ⟨[(2, .own R_Number_Wire_From_At_To 25 18 [] v_)], []⟩ a w | (.inr v_) => e = .ret ∧ Sx ⟨29, w0, F⟩ ⟨[(2, kN), (3, kI v_.1), (4, k8 v_.2)], []⟩ a w) ?_ h_q ?_ ?_
 ·
  clear h
  intro s o h
  obtain ⟨l, fromv⟩ := s
  refine ji_start ?_
  refine ji_le (E' := ⟨[(0, .sl Rp.byte [0] b), (2, .own R_Number_Wire_From_At_To 25 18 [] l), (5, kI fromv)], []⟩) (fun _ _ _ hs => hs) ?_
  replace h : record_Split_b1 b l fromv = some o := h
  unfold record_Split_b1 at h
  refine ji_rz ⟨[(0, .sl Rp.byte [0] b), (2, .own R_Number_Wire_From_At_To 25 18 [] l), (5, kI fromv), (11, kB (decide (fromv < (b.length : Int))))], []⟩ (by kernel_rfl) ?_
  rcases ite_some h with ⟨hc1, h⟩ | ⟨hc1, h⟩
  ·
   refine ji_condT rfl hc1 ?_
   refine ji_block ?_
   obtain ⟨rv, h_rv, h⟩ := bnd h
   refine ji_region ⟨[(0, .sl Rp.byte [0] b), (2, .own R_Number_Wire_From_At_To 25 18 [] l), (5, kI fromv), (6, .ptr 19 0), (7, k8 rv.2)], [⟨19, 25, [kI rv.1.Number, kI rv.1.Wire, kI rv.1.From, kI rv.1.At, kI rv.1.To]⟩]⟩ (ro_o 2 [.sl Rp.byte [0] b, kI fromv] ⟨[(0, .sl Rp.byte [0] b), (2, .own R_Number_Wire_From_At_To 25 18 [] l), (5, kI fromv), (15, .tup [.rc R_Number_Wire_From_At_To [] rv.1, k8 rv.2])], []⟩ rfl (lo_call [.sl Rp.byte [0] b, kI fromv] [0] 17 rfl Try.call8 (record_Next_ok h_rv) rfl rfl rfl rfl rfl) rfl (by kernel_rfl) (ro_o 3 [] ⟨[(0, .sl Rp.byte [0] b), (2, .own R_Number_Wire_From_At_To 25 18 [] l), (5, kI fromv), (6, .ptr 19 0), (16, .rc R_Number_Wire_From_At_To [] rv.1), (17, k8 rv.2)], [⟨19, 25, [kI 0, kI 0, kI 0, kI 0, kI 0]⟩]⟩ rfl (lo_alloc 19 [kI 0, kI 0, kI 0, kI 0, kI 0] rfl Try.zeroValue25 rfl) rfl (by kernel_rfl) (ro_obz 0 [.ptr 19 0, .rc R_Number_Wire_From_At_To [] rv.1] [⟨19, 25, [kI 0, kI 0, kI 0, kI 0, kI 0]⟩] rfl (lo_str (r := R_Number_Wire_From_At_To) (b := ⟨19, 25, [kI 0, kI 0, kI 0, kI 0, kI 0]⟩) (off := 0) [kI rv.1.Number, kI rv.1.Wire, kI rv.1.From, kI rv.1.At, kI rv.1.To] rfl Try.sizeOf25 rfl rfl rfl rfl) rfl rfl (by kernel_rfl)))) ?_
   refine ji_rz ⟨[(0, .sl Rp.byte [0] b), (2, .own R_Number_Wire_From_At_To 25 18 [] l), (5, kI fromv), (6, .ptr 19 0), (7, k8 rv.2), (19, kB (rv.2 != 0))], [⟨19, 25, [kI rv.1.Number, kI rv.1.Wire, kI rv.1.From, kI rv.1.At, kI rv.1.To]⟩]⟩ (by kernel_rfl) ?_
   rcases ite_some h with ⟨hc2, h⟩ | ⟨hc2, h⟩
   ·
    refine ji_condT rfl hc2 ?_
    refine ji_rz ⟨[(2, kN), (3, kI fromv), (4, k8 rv.2)], []⟩ (by kernel_rfl) ?_
    obtain rfl := sj h
    exact je_ret' (le_z (by kernel_rfl))
   refine ji_condF rfl hc2 ?_
   obtain ⟨v, h_v, h⟩ := bnd h
   refine ji_region ⟨[(0, .sl Rp.byte [0] b), (2, .own R_Number_Wire_From_At_To 25 18 [] v), (6, .ptr 19 0)], [⟨19, 25, [kI rv.1.Number, kI rv.1.Wire, kI rv.1.From, kI rv.1.At, kI rv.1.To]⟩]⟩ (ro_ob 1 [.ptr 19 0] [⟨19, 25, [kI rv.1.Number, kI rv.1.Wire, kI rv.1.From, kI rv.1.At, kI rv.1.To]⟩] ⟨[(0, .sl Rp.byte [0] b), (6, .ptr 19 0), (22, .own R_Number_Wire_From_At_To 25 18 [] l), (23, .rc R_Number_Wire_From_At_To [] rv.1)], [⟨19, 25, [kI rv.1.Number, kI rv.1.Wire, kI rv.1.From, kI rv.1.At, kI rv.1.To]⟩]⟩ rfl (lo_ldb (r := R_Number_Wire_From_At_To) rv.1 [] rfl ⟨Try.isAgg25, Try.sizeOf25⟩ rfl rfl) rfl rfl (by kernel_rfl) (ro_o 0 [.rc R_Number_Wire_From_At_To [] rv.1] ⟨[(0, .sl Rp.byte [0] b), (6, .ptr 19 0), (22, .own R_Number_Wire_From_At_To 25 18 [] l), (24, .own R_Number_Wire_From_At_To 25 20 [] ([rv.1] : (List T_Number_Wire_From_At_To)))], [⟨19, 25, [kI rv.1.Number, kI rv.1.Wire, kI rv.1.From, kI rv.1.At, kI rv.1.To]⟩]⟩ rfl (lo_bsl [.rc R_Number_Wire_From_At_To [] rv.1] 20 [] ([rv.1] : (List T_Number_Wire_From_At_To)) rfl zet32 rfl rfl rfl rfl) rfl (by kernel_rfl) (ro_oz 0 [.own R_Number_Wire_From_At_To 25 18 [] l, .own R_Number_Wire_From_At_To 25 20 [] ([rv.1] : (List T_Number_Wire_From_At_To))] rfl (lo_app 18 [] rfl zet32.el rfl (isOwn_own _ _ _ _ _) (isSl_own _ _ _ _ _) h_v (.inl plain_Number_Wire_From_At_To) rfl) rfl (by kernel_rfl)))) ?_
   refine ji_rz ⟨[(0, .sl Rp.byte [0] b), (2, .own R_Number_Wire_From_At_To 25 18 [] v), (5, kI rv.1.To)], []⟩ (by kernel_rfl) ?_
   refine ji_end ?_
   obtain rfl := sj h
   exact je_nil (le_z (by kernel_rfl))
  refine ji_condF rfl hc1 ?_
  obtain rfl := sj h
  exact je_out' rfl (le_z (by kernel_rfl))
 ·
  refine le_at 2 (.own R_Number_Wire_From_At_To 25 18 [] []) rfl (le_own_nil R_Number_Wire_From_At_To 25 18 [] rfl) ?_
  exact le_z (by kernel_rfl)
 rcases q with u | u2
 ·
  refine k_exit _ rfl ?_
  refine ji_rz ⟨[(2, .own R_Number_Wire_From_At_To 25 18 [] u), (3, kI 0), (4, k8 0)], []⟩ (by kernel_rfl) ?_
  obtain rfl := sj h
  refine je_ret ?_
  refine le_px ⟨[(2, .own R_Number_Wire_From_At_To 25 18 [] u), (3, kI 0), (4, k8 0)], []⟩ (by kernel_rfl) (le_rn 18 2 rfl (le_px ⟨[(2, .own R_Number_Wire_From_At_To 25 2 [] u), (3, kI 0), (4, k8 0)], []⟩ (by kernel_rfl) ?_))
  exact le_z (by kernel_rfl)
 obtain rfl := sj h
 refine ke_ret ?_
 refine le_at 2 (.own R_Number_Wire_From_At_To 25 2 [] (([], u2.1, u2.2) : ((List T_Number_Wire_From_At_To) × Int × Int)).1) rfl (le_own_nil R_Number_Wire_From_At_To 25 2 [] rfl) ?_
 exact le_z (by kernel_rfl)
theorem record_Put_ok {b : (List UInt8)} {number : Int} {wire : Int} {value : (List UInt8)} {r : ((List UInt8) × Int)} (h : record_Put b number wire value = some r) : FnOk Try.prog 12 [.sl Rp.byte [0] b, kI number, kI wire, .sl Rp.byte [0] value] [.own Rp.byte 5 2 [] r.1, k8 r.2] := by
 refine fn_intro' (E := ⟨[(8, .own Rp.byte 5 2 [] r.1), (9, k8 r.2)], []⟩) 39 Try.func12 rfl rfl rfl ⟨rfl, rfl, trivial⟩ (fun w0 F => ?_)
 refine ji_start ?_
 refine ji_le (E' := ⟨[(0, .sl Rp.byte [0] b), (1, kI number), (2, kI wire), (3, .sl Rp.byte [0] value)], []⟩) (fun _ _ _ hs => hs) ?_
 unfold record_Put at h
 refine ji_rz ⟨[(0, .sl Rp.byte [0] b), (1, kI number), (2, kI wire), (3, .sl Rp.byte [0] value)], []⟩ (by kernel_rfl) ?_
 obtain ⟨rv, h_rv, h⟩ := bnd h
 refine ji_region ⟨[(0, .sl Rp.byte [0] b), (2, kI wire), (3, .sl Rp.byte [0] value), (10, .own Rp.byte 5 15 [] rv.1), (11, k8 rv.2)], []⟩ (ro_o 2 [kI number, kI wire] ⟨[(0, .sl Rp.byte [0] b), (2, kI wire), (3, .sl Rp.byte [0] value), (15, .rc R_Number_Wire [] (⟨number, wire⟩ : T_Number_Wire))], []⟩ rfl (lo_build (r := R_Number_Wire) [kI number, kI wire] [] (⟨number, wire⟩ : T_Number_Wire) rfl stt50 rfl rfl) rfl (by kernel_rfl) (ro_oz 0 [kN, .rc R_Number_Wire [] (⟨number, wire⟩ : T_Number_Wire)] rfl (lo_call [kN, .rc R_Number_Wire [] (⟨number, wire⟩ : T_Number_Wire)] [1] 13 rfl Try.call23 (FnOk.le (ins' := [kN, .rc R_Number_Wire [0] (⟨number, wire⟩ : T_Number_Wire)]) (tag_Put_ok h_rv) ⟨le_sl_nil _ _, AV.le_refl _, trivial⟩) rfl rfl rfl rfl rfl) rfl (by kernel_rfl))) ?_
 obtain ⟨g, h_g, h⟩ := bnd h
 refine ji_region ⟨[(0, .sl Rp.byte [0] b), (2, kI wire), (3, .sl Rp.byte [0] value), (10, .own Rp.byte 5 15 [] rv.1), (26, kB g)], []⟩ ?_ ?_
 ·
  refine (ro_sp 3 21 (rv.2 != 0) ⟨[(0, .sl Rp.byte [0] b), (2, kI wire), (3, .sl Rp.byte [0] value), (10, .own Rp.byte 5 15 [] rv.1), (21, kB (rv.2 != 0))], []⟩ (by kernel_rfl) rfl (fun hc1 => ?_) (fun hc1 => ?_))
  ·
   replace h_g := iteT h_g hc1
   obtain rfl := sj h_g
   exact (ro_z (by kernel_rfl))
  replace h_g := iteF h_g hc1
  obtain ⟨rv2, h_rv2, h_g⟩ := bnd h_g
  obtain rfl := sj h_g
  exact (ro_oz 2 [kI wire, .sl Rp.byte [0] value] rfl (lo_call [kI wire, .sl Rp.byte [0] value] [0] 14 rfl Try.call24 (record_fits_ok h_rv2) rfl rfl rfl rfl rfl) rfl (by kernel_rfl))
 rcases ite_some h with ⟨hc2, h⟩ | ⟨hc2, h⟩
 ·
  refine ji_condT rfl hc2 ?_
  refine ji_rz ⟨[(8, kN), (9, k8 2)], []⟩ (by kernel_rfl) ?_
  obtain rfl := sj h
  refine je_ret ?_
  refine le_at 8 (.own Rp.byte 5 2 [] (([], 2) : ((List UInt8) × Int)).1) rfl (le_own_nil Rp.byte 5 2 [] rfl) ?_
  exact le_z (by kernel_rfl)
 refine ji_condF rfl hc2 ?_
 refine ji_rz ⟨[(0, .sl Rp.byte [0] b), (3, .sl Rp.byte [0] value), (10, .own Rp.byte 5 15 [] rv.1), (28, kB (wire == 2))], []⟩ (by kernel_rfl) ?_
 rcases ite_some h with ⟨hc3, h⟩ | ⟨hc3, h⟩
 ·
  refine ji_condT rfl hc3 ?_
  obtain ⟨rv3, h_rv3, h⟩ := bnd h
  refine ji_region ⟨[(0, .sl Rp.byte [0] b), (3, .sl Rp.byte [0] value), (10, .own Rp.byte 5 16 [] rv3)], []⟩ (ro_oz 4 [.own Rp.byte 5 15 [] rv.1, kU (IntKind.u64.wrap (value.length : Int))] rfl (lo_call [.own Rp.byte 5 15 [] rv.1, kU (IntKind.u64.wrap (value.length : Int))] [15] 14 rfl Try.call25 (varint_Put_ok h_rv3) rfl rfl rfl rfl rfl) rfl (by kernel_rfl)) ?_
  obtain ⟨rv4, h_rv4, h⟩ := bnd h
  refine ji_region ⟨[(8, .own Rp.byte 5 18 [] rv4), (9, k8 0)], []⟩ (ro_o 3 [.sl Rp.byte [0] b, .own Rp.byte 5 16 [] rv3, .sl Rp.byte [0] value] ⟨[(37, .own (Rp.list Rp.byte) 22 17 [0, 16] ([b, rv3, value] : (List (List UInt8))))], []⟩ rfl (lo_bsl [.sl Rp.byte [0] b, .own Rp.byte 5 16 [] rv3, .sl Rp.byte [0] value] 17 [0, 16] ([b, rv3, value] : (List (List UInt8))) rfl zet74 rfl rfl rfl rfl) rfl (by kernel_rfl) (ro_oz 0 [.own (Rp.list Rp.byte) 22 17 [0, 16] ([b, rv3, value] : (List (List UInt8)))] rfl (lo_call [.own (Rp.list Rp.byte) 22 17 [0, 16] ([b, rv3, value] : (List (List UInt8)))] [17, 0, 16] 16 rfl Try.call26 (slices_Concat___byte_byte__ok h_rv4) rfl rfl rfl rfl rfl) rfl (by kernel_rfl))) ?_
  obtain rfl := sj h
  refine je_ret ?_
  refine le_px ⟨[(8, .own Rp.byte 5 18 [] rv4), (9, k8 0)], []⟩ (by kernel_rfl) (le_rn 18 2 rfl (le_px ⟨[(8, .own Rp.byte 5 2 [] rv4), (9, k8 0)], []⟩ (by kernel_rfl) ?_))
  exact le_z (by kernel_rfl)
 refine ji_condF rfl hc3 ?_
 obtain ⟨rv5, h_rv5, h⟩ := bnd h
 refine ji_region ⟨[(8, .own Rp.byte 5 20 [] rv5), (9, k8 0)], []⟩ (ro_o 3 [.sl Rp.byte [0] b, .own Rp.byte 5 15 [] rv.1, .sl Rp.byte [0] value] ⟨[(37, .own (Rp.list Rp.byte) 22 19 [0, 15] ([b, rv.1, value] : (List (List UInt8))))], []⟩ rfl (lo_bsl [.sl Rp.byte [0] b, .own Rp.byte 5 15 [] rv.1, .sl Rp.byte [0] value] 19 [0, 15] ([b, rv.1, value] : (List (List UInt8))) rfl zet74 rfl rfl rfl rfl) rfl (by kernel_rfl) (ro_oz 0 [.own (Rp.list Rp.byte) 22 19 [0, 15] ([b, rv.1, value] : (List (List UInt8)))] rfl (lo_call [.own (Rp.list Rp.byte) 22 19 [0, 15] ([b, rv.1, value] : (List (List UInt8)))] [19, 0, 15] 18 rfl Try.call26 (slices_Concat___byte_byte__ok h_rv5) rfl rfl rfl rfl rfl) rfl (by kernel_rfl))) ?_
 obtain rfl := sj h
 refine je_ret ?_
 refine le_px ⟨[(8, .own Rp.byte 5 20 [] rv5), (9, k8 0)], []⟩ (by kernel_rfl) (le_rn 20 2 rfl (le_px ⟨[(8, .own Rp.byte 5 2 [] rv5), (9, k8 0)], []⟩ (by kernel_rfl) ?_))
 exact le_z (by kernel_rfl)
theorem darninglaw05_alive_ok  {r : Bool} (h : darninglaw05_alive = some r) : FnOk Try.prog 7 [] [kB r] := by
 refine fn_intro' (E := ⟨[(0, kB r)], []⟩) 32 Try.func7 rfl rfl rfl ⟨rfl, trivial⟩ (fun w0 F => ?_)
 refine ji_start ?_
 refine ji_le (E' := ⟨[], []⟩) (fun _ _ _ hs => hs) ?_
 unfold darninglaw05_alive at h
 refine ji_rz ⟨[], []⟩ (by kernel_rfl) ?_
 obtain ⟨rv, h_rv, h⟩ := bnd h
 refine ji_region ⟨[(1, .own R_Number_Wire_From_At_To 25 12 [] rv.1), (3, k8 rv.2.2)], []⟩ (ro_o 0 [k8 8, k8 1, k8 18, k8 1, k8 97] ⟨[(5, .own Rp.byte 5 11 [] ([(8 : UInt8), (1 : UInt8), (18 : UInt8), (1 : UInt8), (97 : UInt8)] : List UInt8))], []⟩ rfl (lo_bsl [.lf (.int .u8 8), .lf (.int .u8 1), .lf (.int .u8 18), .lf (.int .u8 1), .lf (.int .u8 97)] 11 [] [(8 : UInt8), (1 : UInt8), (18 : UInt8), (1 : UInt8), (97 : UInt8)] rfl zet22 rfl rfl rfl rfl) rfl (by kernel_rfl) (ro_oz 0 [.own Rp.byte 5 11 [] ([(8 : UInt8), (1 : UInt8), (18 : UInt8), (1 : UInt8), (97 : UInt8)] : List UInt8)] rfl (lo_call [.own Rp.byte 5 11 [] ([(8 : UInt8), (1 : UInt8), (18 : UInt8), (1 : UInt8), (97 : UInt8)] : List UInt8)] [11] 10 rfl Try.call10 (record_Split_ok h_rv) rfl rfl rfl rfl rfl) rfl (by kernel_rfl))) ?_
 obtain ⟨g, h_g, h⟩ := bnd h
 refine ji_region ⟨[(0, kB g)], []⟩ ?_ ?_
 ·
  refine (ro_sp 4 13 ((IntKind.i64.wrap rv.2.2) == 0) ⟨[(1, .own R_Number_Wire_From_At_To 25 12 [] rv.1), (13, kB ((IntKind.i64.wrap rv.2.2) == 0))], []⟩ (by kernel_rfl) rfl (fun hc1 => ?_) (fun hc1 => ?_))
  ·
   replace h_g := iteT h_g hc1
   refine (ro_sp 5 18 ((rv.1.length : Int) == 2) ⟨[(1, .own R_Number_Wire_From_At_To 25 12 [] rv.1), (18, kB ((rv.1.length : Int) == 2))], []⟩ (by kernel_rfl) rfl (fun hc2 => ?_) (fun hc2 => ?_))
   ·
    replace h_g := iteT h_g hc2
    obtain ⟨x, h_x, h_g⟩ := bnd h_g
    refine (ro_o 1 [.own R_Number_Wire_From_At_To 25 12 [] rv.1, kI 0] ⟨[(1, .own R_Number_Wire_From_At_To 25 12 [] rv.1), (18, kB true), (20, .ep R_Number_Wire_From_At_To [12] x 0)], []⟩ rfl (lo_ix rfl zet32.el (isSl_own _ _ _ _ _) h_x) rfl (by kernel_rfl) (ro_o 0 [.ep R_Number_Wire_From_At_To [12] x 0] ⟨[(1, .own R_Number_Wire_From_At_To 25 12 [] rv.1), (18, kB true), (21, .rc R_Number_Wire_From_At_To [12] x)], []⟩ rfl (lo_ldr rfl ⟨Try.isAgg25, Try.sizeOf25⟩) rfl (by kernel_rfl) (ro_o 0 [kI 1, kI 2, kI 1] ⟨[(1, .own R_Number_Wire_From_At_To 25 12 [] rv.1), (18, kB true), (21, .rc R_Number_Wire_From_At_To [12] x), (22, .rc R_Number_Wire_From_At_To [] (⟨1, 0, 0, 1, 2⟩ : T_Number_Wire_From_At_To))], []⟩ rfl (lo_build (r := R_Number_Wire_From_At_To) [kI 1, kI 2, kI 1] [] (⟨1, 0, 0, 1, 2⟩ : T_Number_Wire_From_At_To) rfl stt25 rfl rfl) rfl (by kernel_rfl) (ro_o 0 [.rc R_Number_Wire_From_At_To [12] x, .rc R_Number_Wire_From_At_To [] (⟨1, 0, 0, 1, 2⟩ : T_Number_Wire_From_At_To)] ⟨[(1, .own R_Number_Wire_From_At_To 25 12 [] rv.1), (18, kB true), (23, kB (decide (x = (⟨1, 0, 0, 1, 2⟩ : T_Number_Wire_From_At_To))))], []⟩ rfl (lo_eqr rfl Try.eqGuardType25 rfl rfl (eqt25 _ _)) rfl (by kernel_rfl) (ro_sp 2 25 (decide (x = (⟨1, 0, 0, 1, 2⟩ : T_Number_Wire_From_At_To))) ⟨[(1, .own R_Number_Wire_From_At_To 25 12 [] rv.1), (25, kB (decide (x = (⟨1, 0, 0, 1, 2⟩ : T_Number_Wire_From_At_To))))], []⟩ (by kernel_rfl) rfl (fun hc3 => ?_) (fun hc3 => ?_))))))
    ·
     replace h_g := iteT h_g hc3
     obtain ⟨x2, h_x2, h_g⟩ := bnd h_g
     obtain rfl := sj h_g
     exact (ro_o 1 [.own R_Number_Wire_From_At_To 25 12 [] rv.1, kI 1] ⟨[(25, kB true), (27, .ep R_Number_Wire_From_At_To [12] x2 0)], []⟩ rfl (lo_ix rfl zet32.el (isSl_own _ _ _ _ _) h_x2) rfl (by kernel_rfl) (ro_o 0 [.ep R_Number_Wire_From_At_To [12] x2 0] ⟨[(25, kB true), (28, .rc R_Number_Wire_From_At_To [12] x2)], []⟩ rfl (lo_ldr rfl ⟨Try.isAgg25, Try.sizeOf25⟩) rfl (by kernel_rfl) (ro_o 0 [kI 2, kI 2, kI 2, kI 4, kI 5] ⟨[(25, kB true), (28, .rc R_Number_Wire_From_At_To [12] x2), (29, .rc R_Number_Wire_From_At_To [] (⟨2, 2, 2, 4, 5⟩ : T_Number_Wire_From_At_To))], []⟩ rfl (lo_build (r := R_Number_Wire_From_At_To) [kI 2, kI 2, kI 2, kI 4, kI 5] [] (⟨2, 2, 2, 4, 5⟩ : T_Number_Wire_From_At_To) rfl stt25 rfl rfl) rfl (by kernel_rfl) (ro_oz 0 [.rc R_Number_Wire_From_At_To [12] x2, .rc R_Number_Wire_From_At_To [] (⟨2, 2, 2, 4, 5⟩ : T_Number_Wire_From_At_To)] rfl (lo_eqr rfl Try.eqGuardType25 rfl rfl (eqt25 _ _)) rfl (by kernel_rfl)))))
    replace h_g := iteF h_g hc3
    obtain rfl := sj h_g
    exact (ro_z (by kernel_rfl))
   replace h_g := iteF h_g hc2
   obtain rfl := sj h_g
   exact (ro_z (by kernel_rfl))
  replace h_g := iteF h_g hc1
  obtain rfl := sj h_g
  exact (ro_z (by kernel_rfl))
 obtain rfl := sj h
 exact je_ret (le_z (by kernel_rfl))
theorem record_Len_ok {b : (List UInt8)} {number : Int} {value : (List UInt8)} {r : (List UInt8)} (h : record_Len b number value = some r) : FnOk Try.prog 13 [.sl Rp.byte [0] b, kI number, .sl Rp.byte [0] value] [.own Rp.byte 5 2 [] r] := by
 refine fn_intro' (E := ⟨[(6, .own Rp.byte 5 2 [] r)], []⟩) 22 Try.func13 rfl rfl rfl ⟨rfl, trivial⟩ (fun w0 F => ?_)
 refine ji_start ?_
 refine ji_le (E' := ⟨[(0, .sl Rp.byte [0] b), (1, kI number), (2, .sl Rp.byte [0] value)], []⟩) (fun _ _ _ hs => hs) ?_
 unfold record_Len at h
 refine ji_rz ⟨[(0, .sl Rp.byte [0] b), (1, kI number), (2, .sl Rp.byte [0] value)], []⟩ (by kernel_rfl) ?_
 obtain ⟨rv, h_rv, h⟩ := bnd h
 refine ji_region ⟨[(0, .sl Rp.byte [0] b), (7, .own Rp.byte 5 14 [] rv.1), (8, k8 rv.2)], []⟩ (ro_oz 3 [.sl Rp.byte [0] b, kI number, kI 2, .sl Rp.byte [0] value] rfl (lo_call [.sl Rp.byte [0] b, kI number, kI 2, .sl Rp.byte [0] value] [0] 12 rfl Try.call12 (record_Put_ok h_rv) rfl rfl rfl rfl rfl) rfl (by kernel_rfl)) ?_
 refine ji_rz ⟨[(0, .sl Rp.byte [0] b), (7, .own Rp.byte 5 14 [] rv.1), (17, kB (rv.2 != 0))], []⟩ (by kernel_rfl) ?_
 rcases ite_some h with ⟨hc1, h⟩ | ⟨hc1, h⟩
 ·
  refine ji_condT rfl hc1 ?_
  obtain ⟨rv2, h_rv2, h⟩ := bnd h
  refine ji_region ⟨[(6, .own Rp.byte 5 16 [] rv2)], []⟩ (ro_o 1 [.sl Rp.byte [0] b] ⟨[(19, .own (Rp.list Rp.byte) 22 15 [0] ([b] : (List (List UInt8))))], []⟩ rfl (lo_bsl [.sl Rp.byte [0] b] 15 [0] ([b] : (List (List UInt8))) rfl zet74 rfl rfl rfl rfl) rfl (by kernel_rfl) (ro_oz 0 [.own (Rp.list Rp.byte) 22 15 [0] ([b] : (List (List UInt8)))] rfl (lo_call [.own (Rp.list Rp.byte) 22 15 [0] ([b] : (List (List UInt8)))] [15, 0] 14 rfl Try.call26 (slices_Concat___byte_byte__ok h_rv2) rfl rfl rfl rfl rfl) rfl (by kernel_rfl))) ?_
  obtain rfl := sj h
  refine je_ret ?_
  refine le_px ⟨[(6, .own Rp.byte 5 16 [] rv2)], []⟩ (by kernel_rfl) (le_rn 16 2 rfl (le_px ⟨[(6, .own Rp.byte 5 2 [] rv2)], []⟩ (by kernel_rfl) ?_))
  exact le_z (by kernel_rfl)
 refine ji_condF rfl hc1 ?_
 refine ji_rz ⟨[(6, .own Rp.byte 5 14 [] rv.1)], []⟩ (by kernel_rfl) ?_
 obtain rfl := sj h
 refine je_ret ?_
 refine le_px ⟨[(6, .own Rp.byte 5 14 [] rv.1)], []⟩ (by kernel_rfl) (le_rn 14 2 rfl (le_px ⟨[(6, .own Rp.byte 5 2 [] rv.1)], []⟩ (by kernel_rfl) ?_))
 exact le_z (by kernel_rfl)
end Go.Proofs.Ytnhnanbgphdaeaa
