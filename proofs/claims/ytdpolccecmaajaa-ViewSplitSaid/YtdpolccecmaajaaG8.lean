/-
  The Go functions do what the plain functions say. No condition.
-/
import Derived.Test.YtdpolccecmaajaaG7
namespace Go.Proofs.Ytdpolccecmaajaa
open Go Go.RowKit
set_option linter.unusedVariables false
set_option maxRecDepth 100000
theorem darninglaw10_alive_ok  {r : Bool} (h : darninglaw10_alive = some r) : FnOk Try.prog 6 [] [kB r] := by
 refine fn_intro' (E := ⟨[(0, kB r)], []⟩) 50 Try.func6 rfl rfl rfl ⟨rfl, trivial⟩ (fun Xt => ?_)
 refine ji_start ?_
 refine ji_le (E' := ⟨[], []⟩) (fun _ _ _ hs => hs) ?_
 unfold darninglaw10_alive at h
 refine ji_rz ⟨[], []⟩ (by kernel_rfl) ?_
 refine ji_region ⟨[(1, .ptr 12 0)], [⟨12, 24, [kS [], .own R_Name_Number_Kind_Repeated_Packed_Of 55 11 [] ([(⟨[], 1, 1, true, false, 0⟩ : T_Name_Number_Kind_Repeated_Packed_Of)] : (List T_Name_Number_Kind_Repeated_Packed_Of))]⟩]⟩ (ro_o 0 [kI 1, kI 1, kB true] ⟨[(5, .rc R_Name_Number_Kind_Repeated_Packed_Of [] (⟨[], 1, 1, true, false, 0⟩ : T_Name_Number_Kind_Repeated_Packed_Of))], []⟩ rfl (lo_build (r := R_Name_Number_Kind_Repeated_Packed_Of) [kI 1, kI 1, kB true] [] (⟨[], 1, 1, true, false, 0⟩ : T_Name_Number_Kind_Repeated_Packed_Of) rfl stt55 rfl rfl) rfl (by kernel_rfl) (ro_o 0 [.rc R_Name_Number_Kind_Repeated_Packed_Of [] (⟨[], 1, 1, true, false, 0⟩ : T_Name_Number_Kind_Repeated_Packed_Of)] ⟨[(6, .own R_Name_Number_Kind_Repeated_Packed_Of 55 11 [] ([(⟨[], 1, 1, true, false, 0⟩ : T_Name_Number_Kind_Repeated_Packed_Of)] : (List T_Name_Number_Kind_Repeated_Packed_Of)))], []⟩ rfl (lo_bsl [.rc R_Name_Number_Kind_Repeated_Packed_Of [] (⟨[], 1, 1, true, false, 0⟩ : T_Name_Number_Kind_Repeated_Packed_Of)] 11 [] ([(⟨[], 1, 1, true, false, 0⟩ : T_Name_Number_Kind_Repeated_Packed_Of)] : (List T_Name_Number_Kind_Repeated_Packed_Of)) rfl zet22 rfl rfl rfl rfl) rfl (by kernel_rfl) (ro_o 0 [.own R_Name_Number_Kind_Repeated_Packed_Of 55 11 [] ([(⟨[], 1, 1, true, false, 0⟩ : T_Name_Number_Kind_Repeated_Packed_Of)] : (List T_Name_Number_Kind_Repeated_Packed_Of))] ⟨[(7, .ag [kS [], .own R_Name_Number_Kind_Repeated_Packed_Of 55 11 [] ([(⟨[], 1, 1, true, false, 0⟩ : T_Name_Number_Kind_Repeated_Packed_Of)] : (List T_Name_Number_Kind_Repeated_Packed_Of))])], []⟩ rfl (lo_builda [.own R_Name_Number_Kind_Repeated_Packed_Of 55 11 [] ([(⟨[], 1, 1, true, false, 0⟩ : T_Name_Number_Kind_Repeated_Packed_Of)] : (List T_Name_Number_Kind_Repeated_Packed_Of))] [kS [], .own R_Name_Number_Kind_Repeated_Packed_Of 55 11 [] ([(⟨[], 1, 1, true, false, 0⟩ : T_Name_Number_Kind_Repeated_Packed_Of)] : (List T_Name_Number_Kind_Repeated_Packed_Of))] rfl sta24 rfl) rfl (by kernel_rfl) (ro_o 0 [] ⟨[(1, .ptr 12 0), (7, .ag [kS [], .own R_Name_Number_Kind_Repeated_Packed_Of 55 11 [] ([(⟨[], 1, 1, true, false, 0⟩ : T_Name_Number_Kind_Repeated_Packed_Of)] : (List T_Name_Number_Kind_Repeated_Packed_Of))])], [⟨12, 24, [kS [], kN]⟩]⟩ rfl (lo_alloc 12 [kS [], kN] rfl Try.zeroValue24 rfl) rfl (by kernel_rfl) (ro_obz 0 [.ptr 12 0, .ag [kS [], .own R_Name_Number_Kind_Repeated_Packed_Of 55 11 [] ([(⟨[], 1, 1, true, false, 0⟩ : T_Name_Number_Kind_Repeated_Packed_Of)] : (List T_Name_Number_Kind_Repeated_Packed_Of))]] [⟨12, 24, [kS [], kN]⟩] rfl (lo_stra (b := ⟨12, 24, [kS [], kN]⟩) (off := 0) [kS [], .own R_Name_Number_Kind_Repeated_Packed_Of 55 11 [] ([(⟨[], 1, 1, true, false, 0⟩ : T_Name_Number_Kind_Repeated_Packed_Of)] : (List T_Name_Number_Kind_Repeated_Packed_Of))] rfl Try.sizeOf24 rfl rfl rfl) rfl rfl (by kernel_rfl)))))) ?_
 obtain ⟨rv, h_rv, h⟩ := bnd h
 refine ji_region ⟨[(2, .own R_Record_Field_Run 31 14 [] rv.1), (4, k8 rv.2.2)], []⟩ (ro_ob 0 [.ptr 12 0] [⟨12, 24, [kS [], .own R_Name_Number_Kind_Repeated_Packed_Of 55 11 [] ([(⟨[], 1, 1, true, false, 0⟩ : T_Name_Number_Kind_Repeated_Packed_Of)] : (List T_Name_Number_Kind_Repeated_Packed_Of))]⟩] ⟨[(9, .ag [kS [], .own R_Name_Number_Kind_Repeated_Packed_Of 55 11 [] ([(⟨[], 1, 1, true, false, 0⟩ : T_Name_Number_Kind_Repeated_Packed_Of)] : (List T_Name_Number_Kind_Repeated_Packed_Of))])], []⟩ rfl (lo_ldba (b := ⟨12, 24, [kS [], .own R_Name_Number_Kind_Repeated_Packed_Of 55 11 [] ([(⟨[], 1, 1, true, false, 0⟩ : T_Name_Number_Kind_Repeated_Packed_Of)] : (List T_Name_Number_Kind_Repeated_Packed_Of))]⟩) [kS [], .own R_Name_Number_Kind_Repeated_Packed_Of 55 11 [] ([(⟨[], 1, 1, true, false, 0⟩ : T_Name_Number_Kind_Repeated_Packed_Of)] : (List T_Name_Number_Kind_Repeated_Packed_Of))] rfl ⟨Try.isAgg24, Try.sizeOf24⟩ rfl rfl) rfl rfl (by kernel_rfl) (ro_o 0 [k8 8, k8 1, k8 10, k8 1, k8 1, k8 16, k8 1] ⟨[(9, .ag [kS [], .own R_Name_Number_Kind_Repeated_Packed_Of 55 11 [] ([(⟨[], 1, 1, true, false, 0⟩ : T_Name_Number_Kind_Repeated_Packed_Of)] : (List T_Name_Number_Kind_Repeated_Packed_Of))]), (10, .own Rp.byte 5 13 [] ([(8 : UInt8), (1 : UInt8), (10 : UInt8), (1 : UInt8), (1 : UInt8), (16 : UInt8), (1 : UInt8)] : List UInt8))], []⟩ rfl (lo_bsl [.lf (.int .u8 8), .lf (.int .u8 1), .lf (.int .u8 10), .lf (.int .u8 1), .lf (.int .u8 1), .lf (.int .u8 16), .lf (.int .u8 1)] 13 [] [(8 : UInt8), (1 : UInt8), (10 : UInt8), (1 : UInt8), (1 : UInt8), (16 : UInt8), (1 : UInt8)] rfl zet25 rfl rfl rfl rfl) rfl (by kernel_rfl) (ro_oz 0 [.ag [kS [], .own R_Name_Number_Kind_Repeated_Packed_Of 55 11 [] ([(⟨[], 1, 1, true, false, 0⟩ : T_Name_Number_Kind_Repeated_Packed_Of)] : (List T_Name_Number_Kind_Repeated_Packed_Of))], .own Rp.byte 5 13 [] ([(8 : UInt8), (1 : UInt8), (10 : UInt8), (1 : UInt8), (1 : UInt8), (16 : UInt8), (1 : UInt8)] : List UInt8)] rfl (LocalOk.le (ins' := [(.tmp 9, .ag [kS [], .own R_Name_Number_Kind_Repeated_Packed_Of 55 11 [] ([(⟨[], 1, 1, true, false, 0⟩ : T_Name_Number_Kind_Repeated_Packed_Of)] : (List T_Name_Number_Kind_Repeated_Packed_Of))]), (.tmp 10, .own Rp.byte 5 13 [] ([(8 : UInt8), (1 : UInt8), (10 : UInt8), (1 : UInt8), (1 : UInt8), (16 : UInt8), (1 : UInt8)] : List UInt8))]) (lo_call (args := [.tmp 9, .tmp 10]) [.rc R_Name_Fields [11] (⟨[], ([(⟨[], 1, 1, true, false, 0⟩ : T_Name_Number_Kind_Repeated_Packed_Of)] : (List T_Name_Number_Kind_Repeated_Packed_Of))⟩ : T_Name_Fields), .own Rp.byte 5 13 [] ([(8 : UInt8), (1 : UInt8), (10 : UInt8), (1 : UInt8), (1 : UInt8), (16 : UInt8), (1 : UInt8)] : List UInt8)] [11, 13] 12 rfl Try.call10 (view_All_ok h_rv) rfl rfl rfl rfl rfl) ⟨⟨rfl, le_agrc R_Name_Fields [11] (⟨[], ([(⟨[], 1, 1, true, false, 0⟩ : T_Name_Number_Kind_Repeated_Packed_Of)] : (List T_Name_Number_Kind_Repeated_Packed_Of))⟩ : T_Name_Fields) [kS [], .own R_Name_Number_Kind_Repeated_Packed_Of 55 11 [] ([(⟨[], 1, 1, true, false, 0⟩ : T_Name_Number_Kind_Repeated_Packed_Of)] : (List T_Name_Number_Kind_Repeated_Packed_Of))] rfl rfl⟩, ⟨rfl, AV.le_refl _⟩, trivial⟩) rfl (by kernel_rfl)))) ?_
 obtain ⟨g, h_g, h⟩ := bnd h
 refine ji_region ⟨[(0, kB g)], []⟩ ?_ ?_
 ·
  refine (ro_sp 4 18 ((IntKind.i64.wrap rv.2.2) == 0) ⟨[(2, .own R_Record_Field_Run 31 14 [] rv.1), (18, kB ((IntKind.i64.wrap rv.2.2) == 0))], []⟩ (by kernel_rfl) rfl (fun hc1 => ?_) (fun hc1 => ?_))
  ·
   replace h_g := iteT h_g hc1
   refine (ro_sp 5 23 ((rv.1.length : Int) == 3) ⟨[(2, .own R_Record_Field_Run 31 14 [] rv.1), (23, kB ((rv.1.length : Int) == 3))], []⟩ (by kernel_rfl) rfl (fun hc2 => ?_) (fun hc2 => ?_))
   ·
    replace h_g := iteT h_g hc2
    obtain ⟨x, h_x, h_g⟩ := bnd h_g
    refine (ro_o 1 [.own R_Record_Field_Run 31 14 [] rv.1, kI 0] ⟨[(2, .own R_Record_Field_Run 31 14 [] rv.1), (23, kB true), (25, .ep R_Record_Field_Run [14] x 0)], []⟩ rfl (lo_ix rfl zet40.el (isSl_own _ _ _ _ _) h_x) rfl (by kernel_rfl) (ro_sp 5 30 (x.Field == 0) ⟨[(2, .own R_Record_Field_Run 31 14 [] rv.1), (30, kB (x.Field == 0))], []⟩ (by kernel_rfl) rfl (fun hc3 => ?_) (fun hc3 => ?_)))
    ·
     replace h_g := iteT h_g hc3
     obtain ⟨x2, h_x2, h_g⟩ := bnd h_g
     refine (ro_o 1 [.own R_Record_Field_Run 31 14 [] rv.1, kI 0] ⟨[(2, .own R_Record_Field_Run 31 14 [] rv.1), (30, kB true), (32, .ep R_Record_Field_Run [14] x2 0)], []⟩ rfl (lo_ix rfl zet40.el (isSl_own _ _ _ _ _) h_x2) rfl (by kernel_rfl) (ro_sp 5 37 (!x2.Run) ⟨[(2, .own R_Record_Field_Run 31 14 [] rv.1), (37, kB (!x2.Run))], []⟩ (by kernel_rfl) rfl (fun hc4 => ?_) (fun hc4 => ?_)))
     ·
      replace h_g := iteT h_g hc4
      obtain ⟨x3, h_x3, h_g⟩ := bnd h_g
      refine (ro_o 1 [.own R_Record_Field_Run 31 14 [] rv.1, kI 1] ⟨[(2, .own R_Record_Field_Run 31 14 [] rv.1), (37, kB true), (39, .ep R_Record_Field_Run [14] x3 0)], []⟩ rfl (lo_ix rfl zet40.el (isSl_own _ _ _ _ _) h_x3) rfl (by kernel_rfl) (ro_sp 4 43 x3.Run ⟨[(2, .own R_Record_Field_Run 31 14 [] rv.1), (43, kB x3.Run)], []⟩ (by kernel_rfl) rfl (fun hc5 => ?_) (fun hc5 => ?_)))
      ·
       replace h_g := iteT h_g hc5
       obtain ⟨x4, h_x4, h_g⟩ := bnd h_g
       obtain rfl := sj h_g
       exact (ro_oz 1 [.own R_Record_Field_Run 31 14 [] rv.1, kI 2] rfl (lo_ix rfl zet40.el (isSl_own _ _ _ _ _) h_x4) rfl (by kernel_rfl))
      replace h_g := iteF h_g hc5
      obtain rfl := sj h_g
      exact (ro_z (by kernel_rfl))
     replace h_g := iteF h_g hc4
     obtain rfl := sj h_g
     exact (ro_z (by kernel_rfl))
    replace h_g := iteF h_g hc3
    obtain rfl := sj h_g
    exact (ro_z (by kernel_rfl))
   replace h_g := iteF h_g hc2
   obtain rfl := sj h_g
   exact (ro_z (by kernel_rfl))
  replace h_g := iteF h_g hc1
  obtain rfl := sj h_g
  exact (ro_z (by kernel_rfl))
 obtain rfl := sj h
 exact je_ret (le_z (by kernel_rfl))
theorem view_Of_ok {m : T_Name_Fields} {b : (List UInt8)} {number : Int} {r : (List T_Record_Field_Run)} (h : view_Of m b number = some r) : FnOk Try.prog 13 [.rc R_Name_Fields [0] m, .sl Rp.byte [0] b, kI number] [.own R_Record_Field_Run 31 2 [] r] := by
 refine fn_intro' (E := ⟨[(6, .own R_Record_Field_Run 31 2 [] r)], []⟩) 37 Try.func13 rfl rfl rfl ⟨rfl, trivial⟩ (fun Xt => ?_)
 refine ji_start ?_
 refine ji_le (E' := ⟨[(0, .rc R_Name_Fields [0] m), (1, .sl Rp.byte [0] b), (2, kI number)], []⟩) (fun _ _ _ hs => hs) ?_
 unfold view_Of at h
 refine ji_region ⟨[(1, .sl Rp.byte [0] b), (2, kI number), (3, .ptr 17 0)], [⟨17, 24, [kS m.Name, .sl R_Name_Number_Kind_Repeated_Packed_Of [0] m.Fields]⟩]⟩ (ro_oz 0 [.rc R_Name_Fields [0] m] rfl (lo_box 17 [kS m.Name, .sl R_Name_Number_Kind_Repeated_Packed_Of [0] m.Fields] [0] rfl rfl rfl rfl rfl) rfl (by kernel_rfl)) ?_
 obtain ⟨rv, h_rv, h⟩ := bnd h
 refine ji_region ⟨[(2, kI number), (7, .own R_Record_Field_Run 31 18 [] rv.1)], []⟩ (ro_ob 0 [.ptr 17 0] [⟨17, 24, [kS m.Name, .sl R_Name_Number_Kind_Repeated_Packed_Of [0] m.Fields]⟩] ⟨[(1, .sl Rp.byte [0] b), (2, kI number), (14, .ag [kS m.Name, .sl R_Name_Number_Kind_Repeated_Packed_Of [0] m.Fields])], []⟩ rfl (lo_ldba (b := ⟨17, 24, [kS m.Name, .sl R_Name_Number_Kind_Repeated_Packed_Of [0] m.Fields]⟩) [kS m.Name, .sl R_Name_Number_Kind_Repeated_Packed_Of [0] m.Fields] rfl ⟨Try.isAgg24, Try.sizeOf24⟩ rfl rfl) rfl rfl (by kernel_rfl) (ro_oz 1 [.ag [kS m.Name, .sl R_Name_Number_Kind_Repeated_Packed_Of [0] m.Fields], .sl Rp.byte [0] b] rfl (LocalOk.le (ins' := [(.tmp 14, .ag [kS m.Name, .sl R_Name_Number_Kind_Repeated_Packed_Of [0] m.Fields]), (.tmp 15, .sl Rp.byte [0] b)]) (lo_call (args := [.tmp 14, .tmp 15]) [.rc R_Name_Fields [0] m, .sl Rp.byte [0] b] [0] 16 rfl Try.call10 (view_All_ok h_rv) rfl rfl rfl rfl rfl) ⟨⟨rfl, le_agrc R_Name_Fields [0] m [kS m.Name, .sl R_Name_Number_Kind_Repeated_Packed_Of [0] m.Fields] rfl rfl⟩, ⟨rfl, AV.le_refl _⟩, trivial⟩) rfl (by kernel_rfl))) ?_
 refine ji_rz ⟨[(2, kI number), (7, .own R_Record_Field_Run 31 18 [] rv.1), (10, kN)], []⟩ (by kernel_rfl) ?_
 refine ji_rz ⟨[(2, kI number), (10, kN), (20, .own R_Record_Field_Run 31 18 [] rv.1), (21, kI (rv.1.length : Int)), (22, kI 0)], []⟩ (by kernel_rfl) ?_
 refine ji_block ?_
 obtain ⟨q, h_q, h⟩ := bnd h
 refine je_loop (fun s : ((List T_Record_Field_Run) × Int) => view_Of_b1 number rv s.1 s.2) (fun s => ⟨[(2, kI number), (10, .own R_Record_Field_Run 31 22 [] s.1), (20, .own R_Record_Field_Run 31 18 [] rv.1), (21, kI (rv.1.length : Int)), (22, kI s.2)], []⟩) (fun o e a w => e = .exit 0 ∧ Sx ⟨⟨37, []⟩, Xt, false, #[]⟩ ⟨[(10, .own R_Record_Field_Run 31 22 [] o)], []⟩ a w) ?_ h_q ?_ ?_
 ·
  clear h
  intro s o h
  obtain ⟨l, v⟩ := s
  refine ji_start ?_
  refine ji_le (E' := ⟨[(2, kI number), (10, .own R_Record_Field_Run 31 22 [] l), (20, .own R_Record_Field_Run 31 18 [] rv.1), (21, kI (rv.1.length : Int)), (22, kI v)], []⟩) (fun _ _ _ hs => hs) ?_
  replace h : view_Of_b1 number rv l v = some o := h
  unfold view_Of_b1 at h
  refine ji_rz ⟨[(2, kI number), (10, .own R_Record_Field_Run 31 22 [] l), (20, .own R_Record_Field_Run 31 18 [] rv.1), (21, kI (rv.1.length : Int)), (22, kI v), (23, kB (decide (v < (rv.1.length : Int))))], []⟩ (by kernel_rfl) ?_
  rcases ite_some h with ⟨hc1, h⟩ | ⟨hc1, h⟩
  ·
   refine ji_condT rfl hc1 ?_
   refine ji_block ?_
   obtain ⟨x, h_x, h⟩ := bnd h
   refine ji_region ⟨[(2, kI number), (10, .own R_Record_Field_Run 31 22 [] l), (12, .ptr 23 0), (20, .own R_Record_Field_Run 31 18 [] rv.1), (21, kI (rv.1.length : Int)), (22, kI v)], [⟨23, 31, [kI x.Record.Number, kI x.Record.Wire, kI x.Record.From, kI x.Record.At, kI x.Record.To, kI x.Field, kB x.Run]⟩]⟩ (ro_o 0 [.own R_Record_Field_Run 31 18 [] rv.1, kI v] ⟨[(2, kI number), (10, .own R_Record_Field_Run 31 22 [] l), (20, .own R_Record_Field_Run 31 18 [] rv.1), (21, kI (rv.1.length : Int)), (22, kI v), (24, .ep R_Record_Field_Run [18] x 0)], []⟩ rfl (lo_ix rfl zet40.el (isSl_own _ _ _ _ _) h_x) rfl (by kernel_rfl) (ro_o 0 [.ep R_Record_Field_Run [18] x 0] ⟨[(2, kI number), (10, .own R_Record_Field_Run 31 22 [] l), (20, .own R_Record_Field_Run 31 18 [] rv.1), (21, kI (rv.1.length : Int)), (22, kI v), (25, .rc R_Record_Field_Run [18] x)], []⟩ rfl (lo_ldr rfl ⟨Try.isAgg31, Try.sizeOf31⟩) rfl (by kernel_rfl) (ro_o 0 [] ⟨[(2, kI number), (10, .own R_Record_Field_Run 31 22 [] l), (12, .ptr 23 0), (20, .own R_Record_Field_Run 31 18 [] rv.1), (21, kI (rv.1.length : Int)), (22, kI v), (25, .rc R_Record_Field_Run [18] x)], [⟨23, 31, [kI 0, kI 0, kI 0, kI 0, kI 0, kI 0, kB false]⟩]⟩ rfl (lo_alloc 23 [kI 0, kI 0, kI 0, kI 0, kI 0, kI 0, kB false] rfl Try.zeroValue31 rfl) rfl (by kernel_rfl) (ro_obz 0 [.ptr 23 0, .rc R_Record_Field_Run [18] x] [⟨23, 31, [kI 0, kI 0, kI 0, kI 0, kI 0, kI 0, kB false]⟩] rfl (lo_str (r := R_Record_Field_Run) (b := ⟨23, 31, [kI 0, kI 0, kI 0, kI 0, kI 0, kI 0, kB false]⟩) (off := 0) [kI x.Record.Number, kI x.Record.Wire, kI x.Record.From, kI x.Record.At, kI x.Record.To, kI x.Field, kB x.Run] rfl Try.sizeOf31 rfl rfl rfl rfl) rfl rfl (by kernel_rfl))))) ?_
   refine ji_rz ⟨[(2, kI number), (10, .own R_Record_Field_Run 31 22 [] l), (12, .ptr 23 0), (20, .own R_Record_Field_Run 31 18 [] rv.1), (21, kI (rv.1.length : Int)), (22, kI v), (30, kB (x.Record.Number == number))], [⟨23, 31, [kI x.Record.Number, kI x.Record.Wire, kI x.Record.From, kI x.Record.At, kI x.Record.To, kI x.Field, kB x.Run]⟩]⟩ (by kernel_rfl) ?_
   rcases ite_some h with ⟨hc2, h⟩ | ⟨hc2, h⟩
   ·
    refine ji_condT rfl hc2 ?_
    obtain ⟨v2, h_v2, h⟩ := bnd h
    refine ji_region ⟨[(2, kI number), (10, .own R_Record_Field_Run 31 22 [] v2), (20, .own R_Record_Field_Run 31 18 [] rv.1), (21, kI (rv.1.length : Int)), (22, kI v)], []⟩ (ro_ob 1 [.ptr 23 0] [⟨23, 31, [kI x.Record.Number, kI x.Record.Wire, kI x.Record.From, kI x.Record.At, kI x.Record.To, kI x.Field, kB x.Run]⟩] ⟨[(2, kI number), (20, .own R_Record_Field_Run 31 18 [] rv.1), (21, kI (rv.1.length : Int)), (22, kI v), (31, .own R_Record_Field_Run 31 22 [] l), (32, .rc R_Record_Field_Run [] x)], []⟩ rfl (lo_ldb (r := R_Record_Field_Run) x [] rfl ⟨Try.isAgg31, Try.sizeOf31⟩ rfl rfl) rfl rfl (by kernel_rfl) (ro_o 0 [.rc R_Record_Field_Run [] x] ⟨[(2, kI number), (20, .own R_Record_Field_Run 31 18 [] rv.1), (21, kI (rv.1.length : Int)), (22, kI v), (31, .own R_Record_Field_Run 31 22 [] l), (33, .own R_Record_Field_Run 31 24 [] ([x] : (List T_Record_Field_Run)))], []⟩ rfl (lo_bsl [.rc R_Record_Field_Run [] x] 24 [] ([x] : (List T_Record_Field_Run)) rfl zet40 rfl rfl rfl rfl) rfl (by kernel_rfl) (ro_oz 0 [.own R_Record_Field_Run 31 22 [] l, .own R_Record_Field_Run 31 24 [] ([x] : (List T_Record_Field_Run))] rfl (lo_app 22 [] rfl zet40.el rfl (isOwn_own _ _ _ _ _) (isSl_own _ _ _ _ _) h_v2 (.inl plain_Record_Field_Run) rfl) rfl (by kernel_rfl)))) ?_
    refine ji_end ?_
    refine ji_rz ⟨[(2, kI number), (10, .own R_Record_Field_Run 31 22 [] v2), (20, .own R_Record_Field_Run 31 18 [] rv.1), (21, kI (rv.1.length : Int)), (22, kI (IntKind.i64.wrap (v + 1)))], []⟩ (by kernel_rfl) ?_
    obtain rfl := sj h
    exact je_nil (le_z (by kernel_rfl))
   refine ji_condF rfl hc2 ?_
   refine ji_end ?_
   refine ji_rz ⟨[(2, kI number), (10, .own R_Record_Field_Run 31 22 [] l), (20, .own R_Record_Field_Run 31 18 [] rv.1), (21, kI (rv.1.length : Int)), (22, kI (IntKind.i64.wrap (v + 1)))], []⟩ (by kernel_rfl) ?_
   obtain rfl := sj h
   exact je_nil (le_z (by kernel_rfl))
  refine ji_condF rfl hc1 ?_
  obtain rfl := sj h
  exact je_out' rfl (le_z (by kernel_rfl))
 ·
  refine le_at 10 (.own R_Record_Field_Run 31 22 [] []) rfl (le_own_nil R_Record_Field_Run 31 22 [] rfl) ?_
  exact le_z (by kernel_rfl)
 refine k_exit _ rfl ?_
 refine ji_rz ⟨[(6, .own R_Record_Field_Run 31 22 [] q)], []⟩ (by kernel_rfl) ?_
 obtain rfl := sj h
 refine je_ret ?_
 refine le_px ⟨[(6, .own R_Record_Field_Run 31 22 [] q)], []⟩ (by kernel_rfl) (le_rn 22 2 rfl (le_px ⟨[(6, .own R_Record_Field_Run 31 2 [] q)], []⟩ (by kernel_rfl) ?_))
 exact le_z (by kernel_rfl)
theorem view_Unknown_ok {m : T_Name_Fields} {b : (List UInt8)} {r : (List (List UInt8))} (h : view_Unknown m b = some r) : FnOk Try.prog 14 [.rc R_Name_Fields [0] m, .sl Rp.byte [0] b] [.own (Rp.list Rp.byte) 25 2 [3] r] := by
 refine fn_intro' (E := ⟨[(4, .own (Rp.list Rp.byte) 25 2 [3] r)], []⟩) 36 Try.func14 rfl rfl rfl ⟨rfl, trivial⟩ (fun Xt => ?_)
 refine ji_start ?_
 refine ji_le (E' := ⟨[(0, .rc R_Name_Fields [0] m), (1, .sl Rp.byte [0] b)], []⟩) (fun _ _ _ hs => hs) ?_
 unfold view_Unknown at h
 refine ji_region ⟨[(1, .sl Rp.byte [0] b), (2, .ptr 18 0)], [⟨18, 24, [kS m.Name, .sl R_Name_Number_Kind_Repeated_Packed_Of [0] m.Fields]⟩]⟩ (ro_oz 0 [.rc R_Name_Fields [0] m] rfl (lo_box 18 [kS m.Name, .sl R_Name_Number_Kind_Repeated_Packed_Of [0] m.Fields] [0] rfl rfl rfl rfl rfl) rfl (by kernel_rfl)) ?_
 obtain ⟨rv, h_rv, h⟩ := bnd h
 refine ji_region ⟨[(1, .sl Rp.byte [0] b), (5, .own R_Record_Field_Run 31 19 [] rv.1)], []⟩ (ro_ob 0 [.ptr 18 0] [⟨18, 24, [kS m.Name, .sl R_Name_Number_Kind_Repeated_Packed_Of [0] m.Fields]⟩] ⟨[(1, .sl Rp.byte [0] b), (12, .ag [kS m.Name, .sl R_Name_Number_Kind_Repeated_Packed_Of [0] m.Fields])], []⟩ rfl (lo_ldba (b := ⟨18, 24, [kS m.Name, .sl R_Name_Number_Kind_Repeated_Packed_Of [0] m.Fields]⟩) [kS m.Name, .sl R_Name_Number_Kind_Repeated_Packed_Of [0] m.Fields] rfl ⟨Try.isAgg24, Try.sizeOf24⟩ rfl rfl) rfl rfl (by kernel_rfl) (ro_oz 1 [.ag [kS m.Name, .sl R_Name_Number_Kind_Repeated_Packed_Of [0] m.Fields], .sl Rp.byte [0] b] rfl (LocalOk.le (ins' := [(.tmp 12, .ag [kS m.Name, .sl R_Name_Number_Kind_Repeated_Packed_Of [0] m.Fields]), (.tmp 13, .sl Rp.byte [0] b)]) (lo_call (args := [.tmp 12, .tmp 13]) [.rc R_Name_Fields [0] m, .sl Rp.byte [0] b] [0] 17 rfl Try.call10 (view_All_ok h_rv) rfl rfl rfl rfl rfl) ⟨⟨rfl, le_agrc R_Name_Fields [0] m [kS m.Name, .sl R_Name_Number_Kind_Repeated_Packed_Of [0] m.Fields] rfl rfl⟩, ⟨rfl, AV.le_refl _⟩, trivial⟩) rfl (by kernel_rfl))) ?_
 refine ji_rz ⟨[(1, .sl Rp.byte [0] b), (5, .own R_Record_Field_Run 31 19 [] rv.1), (8, kN)], []⟩ (by kernel_rfl) ?_
 refine ji_rz ⟨[(1, .sl Rp.byte [0] b), (8, kN), (18, .own R_Record_Field_Run 31 19 [] rv.1), (19, kI (rv.1.length : Int)), (20, kI 0)], []⟩ (by kernel_rfl) ?_
 refine ji_block ?_
 obtain ⟨q, h_q, h⟩ := bnd h
 refine je_loop (fun s : ((List (List UInt8)) × Int) => view_Unknown_b1 b rv s.1 s.2) (fun s => ⟨[(1, .sl Rp.byte [0] b), (8, .own (Rp.list Rp.byte) 25 24 [20] s.1), (18, .own R_Record_Field_Run 31 19 [] rv.1), (19, kI (rv.1.length : Int)), (20, kI s.2)], []⟩) (fun o e a w => e = .exit 0 ∧ Sx ⟨⟨36, []⟩, Xt, false, #[]⟩ ⟨[(8, .own (Rp.list Rp.byte) 25 24 [20] o)], []⟩ a w) ?_ h_q ?_ ?_
 ·
  clear h
  intro s o h
  obtain ⟨l, v⟩ := s
  refine ji_start ?_
  refine ji_le (E' := ⟨[(1, .sl Rp.byte [0] b), (8, .own (Rp.list Rp.byte) 25 24 [20] l), (18, .own R_Record_Field_Run 31 19 [] rv.1), (19, kI (rv.1.length : Int)), (20, kI v)], []⟩) (fun _ _ _ hs => hs) ?_
  replace h : view_Unknown_b1 b rv l v = some o := h
  unfold view_Unknown_b1 at h
  refine ji_rz ⟨[(1, .sl Rp.byte [0] b), (8, .own (Rp.list Rp.byte) 25 24 [20] l), (18, .own R_Record_Field_Run 31 19 [] rv.1), (19, kI (rv.1.length : Int)), (20, kI v), (21, kB (decide (v < (rv.1.length : Int))))], []⟩ (by kernel_rfl) ?_
  rcases ite_some h with ⟨hc1, h⟩ | ⟨hc1, h⟩
  ·
   refine ji_condT rfl hc1 ?_
   refine ji_block ?_
   obtain ⟨x, h_x, h⟩ := bnd h
   refine ji_region ⟨[(1, .sl Rp.byte [0] b), (8, .own (Rp.list Rp.byte) 25 24 [20] l), (10, .ptr 28 0), (18, .own R_Record_Field_Run 31 19 [] rv.1), (19, kI (rv.1.length : Int)), (20, kI v)], [⟨28, 31, [kI x.Record.Number, kI x.Record.Wire, kI x.Record.From, kI x.Record.At, kI x.Record.To, kI x.Field, kB x.Run]⟩]⟩ (ro_o 0 [.own R_Record_Field_Run 31 19 [] rv.1, kI v] ⟨[(1, .sl Rp.byte [0] b), (8, .own (Rp.list Rp.byte) 25 24 [20] l), (18, .own R_Record_Field_Run 31 19 [] rv.1), (19, kI (rv.1.length : Int)), (20, kI v), (22, .ep R_Record_Field_Run [19] x 0)], []⟩ rfl (lo_ix rfl zet40.el (isSl_own _ _ _ _ _) h_x) rfl (by kernel_rfl) (ro_o 0 [.ep R_Record_Field_Run [19] x 0] ⟨[(1, .sl Rp.byte [0] b), (8, .own (Rp.list Rp.byte) 25 24 [20] l), (18, .own R_Record_Field_Run 31 19 [] rv.1), (19, kI (rv.1.length : Int)), (20, kI v), (23, .rc R_Record_Field_Run [19] x)], []⟩ rfl (lo_ldr rfl ⟨Try.isAgg31, Try.sizeOf31⟩) rfl (by kernel_rfl) (ro_o 0 [] ⟨[(1, .sl Rp.byte [0] b), (8, .own (Rp.list Rp.byte) 25 24 [20] l), (10, .ptr 28 0), (18, .own R_Record_Field_Run 31 19 [] rv.1), (19, kI (rv.1.length : Int)), (20, kI v), (23, .rc R_Record_Field_Run [19] x)], [⟨28, 31, [kI 0, kI 0, kI 0, kI 0, kI 0, kI 0, kB false]⟩]⟩ rfl (lo_alloc 28 [kI 0, kI 0, kI 0, kI 0, kI 0, kI 0, kB false] rfl Try.zeroValue31 rfl) rfl (by kernel_rfl) (ro_obz 0 [.ptr 28 0, .rc R_Record_Field_Run [19] x] [⟨28, 31, [kI 0, kI 0, kI 0, kI 0, kI 0, kI 0, kB false]⟩] rfl (lo_str (r := R_Record_Field_Run) (b := ⟨28, 31, [kI 0, kI 0, kI 0, kI 0, kI 0, kI 0, kB false]⟩) (off := 0) [kI x.Record.Number, kI x.Record.Wire, kI x.Record.From, kI x.Record.At, kI x.Record.To, kI x.Field, kB x.Run] rfl Try.sizeOf31 rfl rfl rfl rfl) rfl rfl (by kernel_rfl))))) ?_
   refine ji_rz ⟨[(1, .sl Rp.byte [0] b), (8, .own (Rp.list Rp.byte) 25 24 [20] l), (10, .ptr 28 0), (18, .own R_Record_Field_Run 31 19 [] rv.1), (19, kI (rv.1.length : Int)), (20, kI v), (26, kB (x.Field == (-1)))], [⟨28, 31, [kI x.Record.Number, kI x.Record.Wire, kI x.Record.From, kI x.Record.At, kI x.Record.To, kI x.Field, kB x.Run]⟩]⟩ (by kernel_rfl) ?_
   rcases ite_some h with ⟨hc2, h⟩ | ⟨hc2, h⟩
   ·
    refine ji_condT rfl hc2 ?_
    obtain ⟨rv2, h_rv2, h⟩ := bnd h
    obtain ⟨v2, h_v2, h⟩ := bnd h
    refine ji_region ⟨[(1, .sl Rp.byte [0] b), (8, .own (Rp.list Rp.byte) 25 24 [20, 30, 29] v2), (18, .own R_Record_Field_Run 31 19 [] rv.1), (19, kI (rv.1.length : Int)), (20, kI v)], []⟩ (ro_ob 3 [.ptr 28 0] [⟨28, 31, [kI x.Record.Number, kI x.Record.Wire, kI x.Record.From, kI x.Record.At, kI x.Record.To, kI x.Field, kB x.Run]⟩] ⟨[(1, .sl Rp.byte [0] b), (18, .own R_Record_Field_Run 31 19 [] rv.1), (19, kI (rv.1.length : Int)), (20, kI v), (27, .own (Rp.list Rp.byte) 25 24 [20] l), (28, .sl Rp.byte [0] b), (30, .rc R_Number_Wire_From_At_To [] x.Record)], []⟩ rfl (lo_ldb (r := R_Number_Wire_From_At_To) x.Record [] rfl ⟨Try.isAgg29, Try.sizeOf29⟩ rfl rfl) rfl rfl (by kernel_rfl) (ro_o 0 [.sl Rp.byte [0] b, .rc R_Number_Wire_From_At_To [] x.Record] ⟨[(1, .sl Rp.byte [0] b), (18, .own R_Record_Field_Run 31 19 [] rv.1), (19, kI (rv.1.length : Int)), (20, kI v), (27, .own (Rp.list Rp.byte) 25 24 [20] l), (31, .own Rp.byte 5 29 [] rv2)], []⟩ rfl (lo_call [.sl Rp.byte [0] b, .rc R_Number_Wire_From_At_To [] x.Record] [0] 27 rfl Try.call24 (record_Whole_ok h_rv2) rfl rfl rfl rfl rfl) rfl (by kernel_rfl) (ro_o 0 [.own Rp.byte 5 29 [] rv2] ⟨[(1, .sl Rp.byte [0] b), (18, .own R_Record_Field_Run 31 19 [] rv.1), (19, kI (rv.1.length : Int)), (20, kI v), (27, .own (Rp.list Rp.byte) 25 24 [20] l), (32, .own (Rp.list Rp.byte) 25 30 [29] ([rv2] : (List (List UInt8))))], []⟩ rfl (lo_bsl [.own Rp.byte 5 29 [] rv2] 30 [29] ([rv2] : (List (List UInt8))) rfl zet49 rfl rfl rfl rfl) rfl (by kernel_rfl) (ro_oz 0 [.own (Rp.list Rp.byte) 25 24 [20] l, .own (Rp.list Rp.byte) 25 30 [29] ([rv2] : (List (List UInt8)))] rfl (lo_app 24 [20, 30, 29] rfl zet49.el rfl (isOwn_own _ _ _ _ _) (isSl_own _ _ _ _ _) h_v2 (.inr rfl) rfl) rfl (by kernel_rfl))))) ?_
    refine ji_end ?_
    refine ji_rz ⟨[(1, .sl Rp.byte [0] b), (8, .own (Rp.list Rp.byte) 25 24 [20, 30, 29] v2), (18, .own R_Record_Field_Run 31 19 [] rv.1), (19, kI (rv.1.length : Int)), (20, kI (IntKind.i64.wrap (v + 1)))], []⟩ (by kernel_rfl) ?_
    obtain rfl := sj h
    refine je_nil ?_
    refine le_px ⟨[(1, .sl Rp.byte [0] b), (8, .own (Rp.list Rp.byte) 25 24 [20, 30, 29] v2), (18, .own R_Record_Field_Run 31 19 [] rv.1), (19, kI (rv.1.length : Int)), (20, kI (IntKind.i64.wrap (v + 1)))], []⟩ (by kernel_rfl) (le_rn 30 20 rfl (le_px ⟨[(1, .sl Rp.byte [0] b), (8, .own (Rp.list Rp.byte) 25 24 [20, 20, 29] v2), (18, .own R_Record_Field_Run 31 19 [] rv.1), (19, kI (rv.1.length : Int)), (20, kI (IntKind.i64.wrap (v + 1)))], []⟩ (by kernel_rfl) ?_))
    refine le_px ⟨[(1, .sl Rp.byte [0] b), (8, .own (Rp.list Rp.byte) 25 24 [20, 20, 29] v2), (18, .own R_Record_Field_Run 31 19 [] rv.1), (19, kI (rv.1.length : Int)), (20, kI (IntKind.i64.wrap (v + 1)))], []⟩ (by kernel_rfl) (le_rn 29 20 rfl (le_px ⟨[(1, .sl Rp.byte [0] b), (8, .own (Rp.list Rp.byte) 25 24 [20, 20, 20] v2), (18, .own R_Record_Field_Run 31 19 [] rv.1), (19, kI (rv.1.length : Int)), (20, kI (IntKind.i64.wrap (v + 1)))], []⟩ (by kernel_rfl) ?_))
    refine le_at 8 (.own (Rp.list Rp.byte) 25 24 [20] v2) rfl (le_own _ _ _ _ _ _ rfl rfl) ?_
    exact le_z (by kernel_rfl)
   refine ji_condF rfl hc2 ?_
   refine ji_end ?_
   refine ji_rz ⟨[(1, .sl Rp.byte [0] b), (8, .own (Rp.list Rp.byte) 25 24 [20] l), (18, .own R_Record_Field_Run 31 19 [] rv.1), (19, kI (rv.1.length : Int)), (20, kI (IntKind.i64.wrap (v + 1)))], []⟩ (by kernel_rfl) ?_
   obtain rfl := sj h
   exact je_nil (le_z (by kernel_rfl))
  refine ji_condF rfl hc1 ?_
  obtain rfl := sj h
  exact je_out' rfl (le_z (by kernel_rfl))
 ·
  refine le_at 8 (.own (Rp.list Rp.byte) 25 24 [20] []) rfl (le_own_nil (Rp.list Rp.byte) 25 24 [20] rfl) ?_
  exact le_z (by kernel_rfl)
 refine k_exit _ rfl ?_
 refine ji_rz ⟨[(4, .own (Rp.list Rp.byte) 25 24 [20] q)], []⟩ (by kernel_rfl) ?_
 obtain rfl := sj h
 refine je_ret ?_
 refine le_px ⟨[(4, .own (Rp.list Rp.byte) 25 24 [20] q)], []⟩ (by kernel_rfl) (le_rn 24 2 rfl (le_px ⟨[(4, .own (Rp.list Rp.byte) 25 2 [20] q)], []⟩ (by kernel_rfl) ?_))
 refine le_px ⟨[(4, .own (Rp.list Rp.byte) 25 2 [20] q)], []⟩ (by kernel_rfl) (le_rn 20 3 rfl (le_px ⟨[(4, .own (Rp.list Rp.byte) 25 2 [3] q)], []⟩ (by kernel_rfl) ?_))
 exact le_z (by kernel_rfl)
theorem view_Drop_ok {m : T_Name_Fields} {b : (List UInt8)} {r : ((List UInt8) × Int)} (h : view_Drop m b = some r) : FnOk Try.prog 15 [.rc R_Name_Fields [0] m, .sl Rp.byte [0] b] [.own Rp.byte 5 2 [] r.1, k8 r.2] := by
 refine fn_intro' (E := ⟨[(4, .own Rp.byte 5 2 [] r.1), (5, k8 r.2)], []⟩) 43 Try.func15 rfl rfl rfl ⟨rfl, rfl, trivial⟩ (fun Xt => ?_)
 refine ji_start ?_
 refine ji_le (E' := ⟨[(0, .rc R_Name_Fields [0] m), (1, .sl Rp.byte [0] b)], []⟩) (fun _ _ _ hs => hs) ?_
 unfold view_Drop at h
 refine ji_region ⟨[(1, .sl Rp.byte [0] b), (2, .ptr 16 0)], [⟨16, 24, [kS m.Name, .sl R_Name_Number_Kind_Repeated_Packed_Of [0] m.Fields]⟩]⟩ (ro_oz 0 [.rc R_Name_Fields [0] m] rfl (lo_box 16 [kS m.Name, .sl R_Name_Number_Kind_Repeated_Packed_Of [0] m.Fields] [0] rfl rfl rfl rfl rfl) rfl (by kernel_rfl)) ?_
 obtain ⟨rv, h_rv, h⟩ := bnd h
 refine ji_region ⟨[(1, .sl Rp.byte [0] b), (6, .own R_Record_Field_Run 31 17 [] rv.1), (8, k8 rv.2.2)], []⟩ (ro_ob 0 [.ptr 16 0] [⟨16, 24, [kS m.Name, .sl R_Name_Number_Kind_Repeated_Packed_Of [0] m.Fields]⟩] ⟨[(1, .sl Rp.byte [0] b), (13, .ag [kS m.Name, .sl R_Name_Number_Kind_Repeated_Packed_Of [0] m.Fields])], []⟩ rfl (lo_ldba (b := ⟨16, 24, [kS m.Name, .sl R_Name_Number_Kind_Repeated_Packed_Of [0] m.Fields]⟩) [kS m.Name, .sl R_Name_Number_Kind_Repeated_Packed_Of [0] m.Fields] rfl ⟨Try.isAgg24, Try.sizeOf24⟩ rfl rfl) rfl rfl (by kernel_rfl) (ro_oz 1 [.ag [kS m.Name, .sl R_Name_Number_Kind_Repeated_Packed_Of [0] m.Fields], .sl Rp.byte [0] b] rfl (LocalOk.le (ins' := [(.tmp 13, .ag [kS m.Name, .sl R_Name_Number_Kind_Repeated_Packed_Of [0] m.Fields]), (.tmp 14, .sl Rp.byte [0] b)]) (lo_call (args := [.tmp 13, .tmp 14]) [.rc R_Name_Fields [0] m, .sl Rp.byte [0] b] [0] 15 rfl Try.call10 (view_All_ok h_rv) rfl rfl rfl rfl rfl) ⟨⟨rfl, le_agrc R_Name_Fields [0] m [kS m.Name, .sl R_Name_Number_Kind_Repeated_Packed_Of [0] m.Fields] rfl rfl⟩, ⟨rfl, AV.le_refl _⟩, trivial⟩) rfl (by kernel_rfl))) ?_
 refine ji_rz ⟨[(1, .sl Rp.byte [0] b), (6, .own R_Record_Field_Run 31 17 [] rv.1), (8, k8 rv.2.2), (20, kB (rv.2.2 != 0))], []⟩ (by kernel_rfl) ?_
 rcases ite_some h with ⟨hc1, h⟩ | ⟨hc1, h⟩
 ·
  refine ji_condT rfl hc1 ?_
  refine ji_rz ⟨[(4, kN), (5, k8 rv.2.2)], []⟩ (by kernel_rfl) ?_
  obtain rfl := sj h
  refine je_ret ?_
  refine le_at 4 (.own Rp.byte 5 2 [] (([], rv.2.2) : ((List UInt8) × Int)).1) rfl (le_own_nil Rp.byte 5 2 [] rfl) ?_
  exact le_z (by kernel_rfl)
 refine ji_condF rfl hc1 ?_
 refine ji_rz ⟨[(1, .sl Rp.byte [0] b), (6, .own R_Record_Field_Run 31 17 [] rv.1), (9, kN)], []⟩ (by kernel_rfl) ?_
 refine ji_rz ⟨[(1, .sl Rp.byte [0] b), (9, kN), (22, .own R_Record_Field_Run 31 17 [] rv.1), (23, kI (rv.1.length : Int)), (24, kI 0)], []⟩ (by kernel_rfl) ?_
 refine ji_block ?_
 obtain ⟨q, h_q, h⟩ := bnd h
 refine je_loop (fun s : ((List UInt8) × Int) => view_Drop_b1 b rv s.1 s.2) (fun s => ⟨[(1, .sl Rp.byte [0] b), (9, .own Rp.byte 5 20 [] s.1), (22, .own R_Record_Field_Run 31 17 [] rv.1), (23, kI (rv.1.length : Int)), (24, kI s.2)], []⟩) (fun o e a w => e = .exit 0 ∧ Sx ⟨⟨43, []⟩, Xt, false, #[]⟩ ⟨[(9, .own Rp.byte 5 20 [] o)], []⟩ a w) ?_ h_q ?_ ?_
 ·
  clear h
  intro s o h
  obtain ⟨c, v⟩ := s
  refine ji_start ?_
  refine ji_le (E' := ⟨[(1, .sl Rp.byte [0] b), (9, .own Rp.byte 5 20 [] c), (22, .own R_Record_Field_Run 31 17 [] rv.1), (23, kI (rv.1.length : Int)), (24, kI v)], []⟩) (fun _ _ _ hs => hs) ?_
  replace h : view_Drop_b1 b rv c v = some o := h
  unfold view_Drop_b1 at h
  refine ji_rz ⟨[(1, .sl Rp.byte [0] b), (9, .own Rp.byte 5 20 [] c), (22, .own R_Record_Field_Run 31 17 [] rv.1), (23, kI (rv.1.length : Int)), (24, kI v), (25, kB (decide (v < (rv.1.length : Int))))], []⟩ (by kernel_rfl) ?_
  rcases ite_some h with ⟨hc2, h⟩ | ⟨hc2, h⟩
  ·
   refine ji_condT rfl hc2 ?_
   refine ji_block ?_
   obtain ⟨x, h_x, h⟩ := bnd h
   refine ji_region ⟨[(1, .sl Rp.byte [0] b), (9, .own Rp.byte 5 20 [] c), (11, .ptr 21 0), (22, .own R_Record_Field_Run 31 17 [] rv.1), (23, kI (rv.1.length : Int)), (24, kI v)], [⟨21, 31, [kI x.Record.Number, kI x.Record.Wire, kI x.Record.From, kI x.Record.At, kI x.Record.To, kI x.Field, kB x.Run]⟩]⟩ (ro_o 0 [.own R_Record_Field_Run 31 17 [] rv.1, kI v] ⟨[(1, .sl Rp.byte [0] b), (9, .own Rp.byte 5 20 [] c), (22, .own R_Record_Field_Run 31 17 [] rv.1), (23, kI (rv.1.length : Int)), (24, kI v), (26, .ep R_Record_Field_Run [17] x 0)], []⟩ rfl (lo_ix rfl zet40.el (isSl_own _ _ _ _ _) h_x) rfl (by kernel_rfl) (ro_o 0 [.ep R_Record_Field_Run [17] x 0] ⟨[(1, .sl Rp.byte [0] b), (9, .own Rp.byte 5 20 [] c), (22, .own R_Record_Field_Run 31 17 [] rv.1), (23, kI (rv.1.length : Int)), (24, kI v), (27, .rc R_Record_Field_Run [17] x)], []⟩ rfl (lo_ldr rfl ⟨Try.isAgg31, Try.sizeOf31⟩) rfl (by kernel_rfl) (ro_o 0 [] ⟨[(1, .sl Rp.byte [0] b), (9, .own Rp.byte 5 20 [] c), (11, .ptr 21 0), (22, .own R_Record_Field_Run 31 17 [] rv.1), (23, kI (rv.1.length : Int)), (24, kI v), (27, .rc R_Record_Field_Run [17] x)], [⟨21, 31, [kI 0, kI 0, kI 0, kI 0, kI 0, kI 0, kB false]⟩]⟩ rfl (lo_alloc 21 [kI 0, kI 0, kI 0, kI 0, kI 0, kI 0, kB false] rfl Try.zeroValue31 rfl) rfl (by kernel_rfl) (ro_obz 0 [.ptr 21 0, .rc R_Record_Field_Run [17] x] [⟨21, 31, [kI 0, kI 0, kI 0, kI 0, kI 0, kI 0, kB false]⟩] rfl (lo_str (r := R_Record_Field_Run) (b := ⟨21, 31, [kI 0, kI 0, kI 0, kI 0, kI 0, kI 0, kB false]⟩) (off := 0) [kI x.Record.Number, kI x.Record.Wire, kI x.Record.From, kI x.Record.At, kI x.Record.To, kI x.Field, kB x.Run] rfl Try.sizeOf31 rfl rfl rfl rfl) rfl rfl (by kernel_rfl))))) ?_
   refine ji_rz ⟨[(1, .sl Rp.byte [0] b), (9, .own Rp.byte 5 20 [] c), (11, .ptr 21 0), (22, .own R_Record_Field_Run 31 17 [] rv.1), (23, kI (rv.1.length : Int)), (24, kI v), (30, kB (x.Field != (-1)))], [⟨21, 31, [kI x.Record.Number, kI x.Record.Wire, kI x.Record.From, kI x.Record.At, kI x.Record.To, kI x.Field, kB x.Run]⟩]⟩ (by kernel_rfl) ?_
   rcases ite_some h with ⟨hc3, h⟩ | ⟨hc3, h⟩
   ·
    refine ji_condT rfl hc3 ?_
    obtain ⟨v2, h_v2, h⟩ := bnd h
    obtain ⟨v3, h_v3, h⟩ := bnd h
    refine ji_region ⟨[(1, .sl Rp.byte [0] b), (9, .own Rp.byte 5 20 [] v3), (22, .own R_Record_Field_Run 31 17 [] rv.1), (23, kI (rv.1.length : Int)), (24, kI v)], []⟩ (ro_o 8 [.sl Rp.byte [0] b, kI x.Record.From, kI x.Record.To] ⟨[(1, .sl Rp.byte [0] b), (22, .own R_Record_Field_Run 31 17 [] rv.1), (23, kI (rv.1.length : Int)), (24, kI v), (31, .own Rp.byte 5 20 [] c), (39, .sl Rp.byte [0] v2)], []⟩ rfl (lo_cut (some (kI x.Record.From)) (some (kI x.Record.To)) rfl zet25.el (isSl_sl _ _ _) ⟨rfl, rfl⟩ ⟨rfl, rfl⟩ h_v2) rfl (by kernel_rfl) (ro_oz 0 [.own Rp.byte 5 20 [] c, .sl Rp.byte [0] v2] rfl (lo_app 20 [] rfl zet25.el rfl (isOwn_own _ _ _ _ _) (isSl_sl _ _ _) h_v3 (.inl plain_byte) rfl) rfl (by kernel_rfl))) ?_
    refine ji_end ?_
    refine ji_rz ⟨[(1, .sl Rp.byte [0] b), (9, .own Rp.byte 5 20 [] v3), (22, .own R_Record_Field_Run 31 17 [] rv.1), (23, kI (rv.1.length : Int)), (24, kI (IntKind.i64.wrap (v + 1)))], []⟩ (by kernel_rfl) ?_
    obtain rfl := sj h
    exact je_nil (le_z (by kernel_rfl))
   refine ji_condF rfl hc3 ?_
   refine ji_end ?_
   refine ji_rz ⟨[(1, .sl Rp.byte [0] b), (9, .own Rp.byte 5 20 [] c), (22, .own R_Record_Field_Run 31 17 [] rv.1), (23, kI (rv.1.length : Int)), (24, kI (IntKind.i64.wrap (v + 1)))], []⟩ (by kernel_rfl) ?_
   obtain rfl := sj h
   exact je_nil (le_z (by kernel_rfl))
  refine ji_condF rfl hc2 ?_
  obtain rfl := sj h
  exact je_out' rfl (le_z (by kernel_rfl))
 ·
  refine le_at 9 (.own Rp.byte 5 20 [] []) rfl (le_own_nil Rp.byte 5 20 [] rfl) ?_
  exact le_z (by kernel_rfl)
 refine k_exit _ rfl ?_
 refine ji_rz ⟨[(4, .own Rp.byte 5 20 [] q), (5, k8 0)], []⟩ (by kernel_rfl) ?_
 obtain rfl := sj h
 refine je_ret ?_
 refine le_px ⟨[(4, .own Rp.byte 5 20 [] q), (5, k8 0)], []⟩ (by kernel_rfl) (le_rn 20 2 rfl (le_px ⟨[(4, .own Rp.byte 5 2 [] q), (5, k8 0)], []⟩ (by kernel_rfl) ?_))
 exact le_z (by kernel_rfl)
end Go.Proofs.Ytdpolccecmaajaa
