/-
  The Go functions do what the plain functions say. No condition.
-/
import Derived.Test.YtdpolccecmaajaaG9
namespace Go.Proofs.Ytdpolccecmaajaa
open Go Go.RowKit
set_option linter.unusedVariables false
set_option maxRecDepth 100000
theorem darninglaw10_ViewParts_ok {m : T_Name_Fields} {b : (List UInt8)} {number : Int} {r : Bool} (h : darninglaw10_ViewParts m b number = some r) : FnOk Try.prog 4 [.rc R_Name_Fields [0] m, .sl Rp.byte [0] b, kI number] [kB r] := by
 refine fn_intro' (E := ⟨[(6, kB r)], []⟩) 145 Try.func4 rfl rfl rfl ⟨rfl, trivial⟩ (fun Xt => ?_)
 refine ji_start ?_
 refine ji_le (E' := ⟨[(0, .rc R_Name_Fields [0] m), (1, .sl Rp.byte [0] b), (2, kI number)], []⟩) (fun _ _ _ hs => hs) ?_
 unfold darninglaw10_ViewParts at h
 refine ji_region ⟨[(1, .sl Rp.byte [0] b), (2, kI number), (3, .ptr 11 0)], [⟨11, 24, [kS m.Name, .sl R_Name_Number_Kind_Repeated_Packed_Of [0] m.Fields]⟩]⟩ (ro_oz 0 [.rc R_Name_Fields [0] m] rfl (lo_box 11 [kS m.Name, .sl R_Name_Number_Kind_Repeated_Packed_Of [0] m.Fields] [0] rfl rfl rfl rfl rfl) rfl (by kernel_rfl)) ?_
 obtain ⟨rv, h_rv, h⟩ := bnd h
 refine ji_region ⟨[(1, .sl Rp.byte [0] b), (2, kI number), (3, .ptr 11 0), (20, kB (!rv))], [⟨11, 24, [kS m.Name, .sl R_Name_Number_Kind_Repeated_Packed_Of [0] m.Fields]⟩]⟩ (ro_oz 0 [] rfl (lo_call [] [1] 10 rfl Try.call6 (darninglaw10_alive_ok h_rv) rfl rfl rfl rfl rfl) rfl (by kernel_rfl)) ?_
 rcases ite_some h with ⟨hc1, h⟩ | ⟨hc1, h⟩
 ·
  refine ji_condT rfl hc1 ?_
  refine ji_rz ⟨[(6, kB false)], []⟩ (by kernel_rfl) ?_
  obtain rfl := sj h
  exact je_ret (le_z (by kernel_rfl))
 refine ji_condF rfl hc1 ?_
 obtain ⟨rv2, h_rv2, h⟩ := bnd h
 refine ji_region ⟨[(1, .sl Rp.byte [0] b), (2, kI number), (3, .ptr 11 0), (27, kB (rv2 || (decide ((b.length : Int) > 2000))))], [⟨11, 24, [kS m.Name, .sl R_Name_Number_Kind_Repeated_Packed_Of [0] m.Fields]⟩]⟩ ?_ ?_
 ·
  refine (ro_ob 0 [.ptr 11 0] [⟨11, 24, [kS m.Name, .sl R_Name_Number_Kind_Repeated_Packed_Of [0] m.Fields]⟩] ⟨[(1, .sl Rp.byte [0] b), (2, kI number), (3, .ptr 11 0), (21, .ag [kS m.Name, .sl R_Name_Number_Kind_Repeated_Packed_Of [0] m.Fields])], [⟨11, 24, [kS m.Name, .sl R_Name_Number_Kind_Repeated_Packed_Of [0] m.Fields]⟩]⟩ rfl (lo_ldba (b := ⟨11, 24, [kS m.Name, .sl R_Name_Number_Kind_Repeated_Packed_Of [0] m.Fields]⟩) [kS m.Name, .sl R_Name_Number_Kind_Repeated_Packed_Of [0] m.Fields] rfl ⟨Try.isAgg24, Try.sizeOf24⟩ rfl rfl) rfl rfl (by kernel_rfl) (ro_o 0 [.ag [kS m.Name, .sl R_Name_Number_Kind_Repeated_Packed_Of [0] m.Fields]] ⟨[(1, .sl Rp.byte [0] b), (2, kI number), (3, .ptr 11 0), (22, kB rv2)], [⟨11, 24, [kS m.Name, .sl R_Name_Number_Kind_Repeated_Packed_Of [0] m.Fields]⟩]⟩ rfl (LocalOk.le (ins' := [(.tmp 21, .ag [kS m.Name, .sl R_Name_Number_Kind_Repeated_Packed_Of [0] m.Fields])]) (lo_call (args := [.tmp 21]) [.rc R_Name_Fields [0] m] [0] 10 rfl Try.call7 (darninglaw10_Wide_ok h_rv2) rfl rfl rfl rfl rfl) ⟨⟨rfl, le_agrc R_Name_Fields [0] m [kS m.Name, .sl R_Name_Number_Kind_Repeated_Packed_Of [0] m.Fields] rfl rfl⟩, trivial⟩) rfl (by kernel_rfl) (ro_sp 1 23 rv2 ⟨[(1, .sl Rp.byte [0] b), (2, kI number), (3, .ptr 11 0), (23, kB rv2)], [⟨11, 24, [kS m.Name, .sl R_Name_Number_Kind_Repeated_Packed_Of [0] m.Fields]⟩]⟩ (by kernel_rfl) rfl (fun hc2 => ?_) (fun hc2 => ?_))))
  · exact (ro_zb 27 true (rv2 || (decide ((b.length : Int) > 2000))) (by rw [hc2] <;> rfl) (by kernel_rfl) (by kernel_rfl))
  exact (ro_zb 27 (decide ((b.length : Int) > 2000)) (rv2 || (decide ((b.length : Int) > 2000))) (by rw [hc2] <;> rfl) (by kernel_rfl) (by kernel_rfl))
 rcases ite_some h with ⟨hc3, h⟩ | ⟨hc3, h⟩
 ·
  refine ji_condT rfl hc3 ?_
  refine ji_rz ⟨[(6, kB true)], []⟩ (by kernel_rfl) ?_
  obtain rfl := sj h
  exact je_ret (le_z (by kernel_rfl))
 refine ji_condF rfl hc3 ?_
 obtain ⟨rv3, h_rv3, h⟩ := bnd h
 refine ji_region ⟨[(1, .sl Rp.byte [0] b), (2, kI number), (3, .ptr 11 0), (7, .own R_R_Field_Run 37 12 [] rv3.1), (9, kI rv3.2.2)], [⟨11, 24, [kS m.Name, .sl R_Name_Number_Kind_Repeated_Packed_Of [0] m.Fields]⟩]⟩ (ro_ob 0 [.ptr 11 0] [⟨11, 24, [kS m.Name, .sl R_Name_Number_Kind_Repeated_Packed_Of [0] m.Fields]⟩] ⟨[(1, .sl Rp.byte [0] b), (2, kI number), (3, .ptr 11 0), (29, .ag [kS m.Name, .sl R_Name_Number_Kind_Repeated_Packed_Of [0] m.Fields])], [⟨11, 24, [kS m.Name, .sl R_Name_Number_Kind_Repeated_Packed_Of [0] m.Fields]⟩]⟩ rfl (lo_ldba (b := ⟨11, 24, [kS m.Name, .sl R_Name_Number_Kind_Repeated_Packed_Of [0] m.Fields]⟩) [kS m.Name, .sl R_Name_Number_Kind_Repeated_Packed_Of [0] m.Fields] rfl ⟨Try.isAgg24, Try.sizeOf24⟩ rfl rfl) rfl rfl (by kernel_rfl) (ro_oz 1 [.ag [kS m.Name, .sl R_Name_Number_Kind_Repeated_Packed_Of [0] m.Fields], .sl Rp.byte [0] b] rfl (LocalOk.le (ins' := [(.tmp 29, .ag [kS m.Name, .sl R_Name_Number_Kind_Repeated_Packed_Of [0] m.Fields]), (.tmp 30, .sl Rp.byte [0] b)]) (lo_call (args := [.tmp 29, .tmp 30]) [.rc R_Name_Fields [0] m, .sl Rp.byte [0] b] [0] 10 rfl Try.call11 (darningref10_All_ok h_rv3) rfl rfl rfl rfl rfl) ⟨⟨rfl, le_agrc R_Name_Fields [0] m [kS m.Name, .sl R_Name_Number_Kind_Repeated_Packed_Of [0] m.Fields] rfl rfl⟩, ⟨rfl, AV.le_refl _⟩, trivial⟩) rfl (by kernel_rfl))) ?_
 obtain ⟨rv4, h_rv4, h⟩ := bnd h
 obtain ⟨rv5, h_rv5, h⟩ := bnd h
 refine ji_draw ⟨[(1, .sl Rp.byte [0] b), (2, kI number), (3, .ptr 11 0), (7, .own R_R_Field_Run 37 12 [] rv3.1), (9, kI rv3.2.2), (10, .own R_Record_Field_Run 31 13 [] rv4), (11, .own (Rp.list Rp.byte) 25 14 [15] rv5)], [⟨11, 24, [kS m.Name, .sl R_Name_Number_Kind_Repeated_Packed_Of [0] m.Fields]⟩]⟩ [.ex [11] [] [] (.ag [kS m.Name, .sl R_Name_Number_Kind_Repeated_Packed_Of [0] m.Fields]) [], .ev, .ev, .ex [] [] [13] (.own R_Record_Field_Run 31 13 [] rv4) [], .ex [11] [] [] (.ag [kS m.Name, .sl R_Name_Number_Kind_Repeated_Packed_Of [0] m.Fields]) [], .ev, .ex [] [] [14] (.own (Rp.list Rp.byte) 25 14 [15] rv5) []] [⟨[(.tmp 3, .ptr 11 0)], [⟨11, 24, [kS m.Name, .sl R_Name_Number_Kind_Repeated_Packed_Of [0] m.Fields]⟩], []⟩, ⟨[(.func 13, .lf (.val (.func (.func 13) #[] #[]))), (.tmp 35, .ag [kS m.Name, .sl R_Name_Number_Kind_Repeated_Packed_Of [0] m.Fields]), (.tmp 36, .sl Rp.byte [0] b), (.tmp 37, kI number)], [], []⟩, ⟨[(.tmp 3, .ptr 11 0)], [⟨11, 24, [kS m.Name, .sl R_Name_Number_Kind_Repeated_Packed_Of [0] m.Fields]⟩], []⟩, ⟨[(.func 14, .lf (.val (.func (.func 14) #[] #[]))), (.tmp 39, .ag [kS m.Name, .sl R_Name_Number_Kind_Repeated_Packed_Of [0] m.Fields]), (.tmp 40, .sl Rp.byte [0] b)], [], []⟩] [1, 2, 3, 7, 9, 10, 11] [11] mixed (by kernel_rfl) (by exact (lw_x (lo_as (lo_ldba (b := ⟨11, 24, [kS m.Name, .sl R_Name_Number_Kind_Repeated_Packed_Of [0] m.Fields]⟩) [kS m.Name, .sl R_Name_Number_Kind_Repeated_Packed_Of [0] m.Fields] rfl ⟨Try.isAgg24, Try.sizeOf24⟩ rfl rfl) rfl) (lw_e (lw_e (lw_x (LocalOk.cons _ (lo_as (LocalOk.le (ins' := [(.tmp 35, .ag [kS m.Name, .sl R_Name_Number_Kind_Repeated_Packed_Of [0] m.Fields]), (.tmp 36, .sl Rp.byte [0] b), (.tmp 37, kI number)]) (lo_call (args := [.tmp 35, .tmp 36, .tmp 37]) [.rc R_Name_Fields [0] m, .sl Rp.byte [0] b, kI number] [0] 11 rfl Try.call13 (view_Of_ok h_rv4) rfl rfl rfl rfl rfl) ⟨⟨rfl, le_agrc R_Name_Fields [0] m [kS m.Name, .sl R_Name_Number_Kind_Repeated_Packed_Of [0] m.Fields] rfl rfl⟩, ⟨rfl, AV.le_refl _⟩, ⟨rfl, AV.le_refl _⟩, trivial⟩) rfl)) (lw_x (lo_as (lo_ldba (b := ⟨11, 24, [kS m.Name, .sl R_Name_Number_Kind_Repeated_Packed_Of [0] m.Fields]⟩) [kS m.Name, .sl R_Name_Number_Kind_Repeated_Packed_Of [0] m.Fields] rfl ⟨Try.isAgg24, Try.sizeOf24⟩ rfl rfl) rfl) (lw_e (lw_x (LocalOk.cons _ (lo_as (LocalOk.le (ins' := [(.tmp 39, .ag [kS m.Name, .sl R_Name_Number_Kind_Repeated_Packed_Of [0] m.Fields]), (.tmp 40, .sl Rp.byte [0] b)]) (lo_call (args := [.tmp 39, .tmp 40]) [.rc R_Name_Fields [0] m, .sl Rp.byte [0] b] [0] 12 rfl Try.call14 (view_Unknown_ok h_rv5) rfl rfl rfl rfl rfl) ⟨⟨rfl, le_agrc R_Name_Fields [0] m [kS m.Name, .sl R_Name_Number_Kind_Repeated_Packed_Of [0] m.Fields] rfl rfl⟩, ⟨rfl, AV.le_refl _⟩, trivial⟩) rfl)) lw_0)))))))) ?_
 obtain ⟨rv6, h_rv6, h⟩ := bnd h
 refine ji_region ⟨[(1, .sl Rp.byte [0] b), (2, kI number), (3, .ptr 11 0), (7, .own R_R_Field_Run 37 12 [] rv3.1), (9, kI rv3.2.2), (10, .own R_Record_Field_Run 31 13 [] rv4), (11, .own (Rp.list Rp.byte) 25 14 [15] rv5), (12, .own Rp.byte 5 16 [] rv6.1), (13, k8 rv6.2)], [⟨11, 24, [kS m.Name, .sl R_Name_Number_Kind_Repeated_Packed_Of [0] m.Fields]⟩]⟩ (ro_ob 0 [.ptr 11 0] [⟨11, 24, [kS m.Name, .sl R_Name_Number_Kind_Repeated_Packed_Of [0] m.Fields]⟩] ⟨[(1, .sl Rp.byte [0] b), (2, kI number), (3, .ptr 11 0), (7, .own R_R_Field_Run 37 12 [] rv3.1), (9, kI rv3.2.2), (10, .own R_Record_Field_Run 31 13 [] rv4), (11, .own (Rp.list Rp.byte) 25 14 [15] rv5), (43, .ag [kS m.Name, .sl R_Name_Number_Kind_Repeated_Packed_Of [0] m.Fields])], [⟨11, 24, [kS m.Name, .sl R_Name_Number_Kind_Repeated_Packed_Of [0] m.Fields]⟩]⟩ rfl (lo_ldba (b := ⟨11, 24, [kS m.Name, .sl R_Name_Number_Kind_Repeated_Packed_Of [0] m.Fields]⟩) [kS m.Name, .sl R_Name_Number_Kind_Repeated_Packed_Of [0] m.Fields] rfl ⟨Try.isAgg24, Try.sizeOf24⟩ rfl rfl) rfl rfl (by kernel_rfl) (ro_oz 1 [.ag [kS m.Name, .sl R_Name_Number_Kind_Repeated_Packed_Of [0] m.Fields], .sl Rp.byte [0] b] rfl (LocalOk.le (ins' := [(.tmp 43, .ag [kS m.Name, .sl R_Name_Number_Kind_Repeated_Packed_Of [0] m.Fields]), (.tmp 44, .sl Rp.byte [0] b)]) (lo_call (args := [.tmp 43, .tmp 44]) [.rc R_Name_Fields [0] m, .sl Rp.byte [0] b] [0] 14 rfl Try.call15 (view_Drop_ok h_rv6) rfl rfl rfl rfl rfl) ⟨⟨rfl, le_agrc R_Name_Fields [0] m [kS m.Name, .sl R_Name_Number_Kind_Repeated_Packed_Of [0] m.Fields] rfl rfl⟩, ⟨rfl, AV.le_refl _⟩, trivial⟩) rfl (by kernel_rfl))) ?_
 refine ji_rz ⟨[(1, .sl Rp.byte [0] b), (2, kI number), (3, .ptr 11 0), (7, .own R_R_Field_Run 37 12 [] rv3.1), (9, kI rv3.2.2), (10, .own R_Record_Field_Run 31 13 [] rv4), (11, .own (Rp.list Rp.byte) 25 14 [15] rv5), (12, .own Rp.byte 5 16 [] rv6.1), (13, k8 rv6.2), (14, kI 0), (15, kI 0)], [⟨11, 24, [kS m.Name, .sl R_Name_Number_Kind_Repeated_Packed_Of [0] m.Fields]⟩]⟩ (by kernel_rfl) ?_
 refine ji_rz ⟨[(1, .sl Rp.byte [0] b), (2, kI number), (3, .ptr 11 0), (7, .own R_R_Field_Run 37 12 [] rv3.1), (9, kI rv3.2.2), (10, .own R_Record_Field_Run 31 13 [] rv4), (11, .own (Rp.list Rp.byte) 25 14 [15] rv5), (12, .own Rp.byte 5 16 [] rv6.1), (13, k8 rv6.2), (14, kI 0), (15, kI 0), (16, kN)], [⟨11, 24, [kS m.Name, .sl R_Name_Number_Kind_Repeated_Packed_Of [0] m.Fields]⟩]⟩ (by kernel_rfl) ?_
 refine ji_rz ⟨[(1, .sl Rp.byte [0] b), (2, kI number), (3, .ptr 11 0), (7, .own R_R_Field_Run 37 12 [] rv3.1), (9, kI rv3.2.2), (10, .own R_Record_Field_Run 31 13 [] rv4), (11, .own (Rp.list Rp.byte) 25 14 [15] rv5), (12, .own Rp.byte 5 16 [] rv6.1), (13, k8 rv6.2), (14, kI 0), (15, kI 0), (16, kN), (17, kI 0)], [⟨11, 24, [kS m.Name, .sl R_Name_Number_Kind_Repeated_Packed_Of [0] m.Fields]⟩]⟩ (by kernel_rfl) ?_
 refine ji_block ?_
 obtain ⟨q, h_q, h⟩ := bnd h
 refine je_loop (fun s : (Int × Int × (List UInt8) × Int) => darninglaw10_ViewParts_b1 b number rv3 rv4 rv5 s.1 s.2.1 s.2.2.1 s.2.2.2) (fun s => ⟨[(1, .sl Rp.byte [0] b), (2, kI number), (3, .ptr 11 0), (7, .own R_R_Field_Run 37 12 [] rv3.1), (9, kI rv3.2.2), (10, .own R_Record_Field_Run 31 13 [] rv4), (11, .own (Rp.list Rp.byte) 25 14 [15] rv5), (12, .own Rp.byte 5 16 [] rv6.1), (13, k8 rv6.2), (14, kI s.1), (15, kI s.2.1), (16, .own Rp.byte 5 19 [] s.2.2.1), (17, kI s.2.2.2)], [⟨11, 24, [kS m.Name, .sl R_Name_Number_Kind_Repeated_Packed_Of [0] m.Fields]⟩]⟩) (fun o e a w => match o with | (.inl v_) => e = .exit 0 ∧ Sx ⟨⟨145, []⟩, Xt, false, #[]⟩ ⟨[(1, .sl Rp.byte [0] b), (2, kI number), (3, .ptr 11 0), (9, kI rv3.2.2), (10, .own R_Record_Field_Run 31 13 [] rv4), (11, .own (Rp.list Rp.byte) 25 14 [15] rv5), (12, .own Rp.byte 5 16 [] rv6.1), (13, k8 rv6.2), (14, kI v_.1), (15, kI v_.2.1), (16, .own Rp.byte 5 19 [] v_.2.2)], [⟨11, 24, [kS m.Name, .sl R_Name_Number_Kind_Repeated_Packed_Of [0] m.Fields]⟩]⟩ a w | (.inr v_) => e = .ret ∧ Sx ⟨⟨145, []⟩, Xt, false, #[]⟩ ⟨[(6, kB false)], []⟩ a w) ?_ h_q ?_ ?_
 ·
  clear h
  intro s o h
  obtain ⟨n, k, want, i⟩ := s
  refine ji_start ?_
  refine ji_le (E' := ⟨[(1, .sl Rp.byte [0] b), (2, kI number), (3, .ptr 11 0), (7, .own R_R_Field_Run 37 12 [] rv3.1), (9, kI rv3.2.2), (10, .own R_Record_Field_Run 31 13 [] rv4), (11, .own (Rp.list Rp.byte) 25 14 [15] rv5), (12, .own Rp.byte 5 16 [] rv6.1), (13, k8 rv6.2), (14, kI n), (15, kI k), (16, .own Rp.byte 5 19 [] want), (17, kI i)], [⟨11, 24, [kS m.Name, .sl R_Name_Number_Kind_Repeated_Packed_Of [0] m.Fields]⟩]⟩) (fun _ _ _ hs => hs) ?_
  replace h : darninglaw10_ViewParts_b1 b number rv3 rv4 rv5 n k want i = some o := h
  unfold darninglaw10_ViewParts_b1 at h
  refine ji_rz ⟨[(1, .sl Rp.byte [0] b), (2, kI number), (3, .ptr 11 0), (7, .own R_R_Field_Run 37 12 [] rv3.1), (9, kI rv3.2.2), (10, .own R_Record_Field_Run 31 13 [] rv4), (11, .own (Rp.list Rp.byte) 25 14 [15] rv5), (12, .own Rp.byte 5 16 [] rv6.1), (13, k8 rv6.2), (14, kI n), (15, kI k), (16, .own Rp.byte 5 19 [] want), (17, kI i), (51, kB (decide (i < (rv3.1.length : Int))))], [⟨11, 24, [kS m.Name, .sl R_Name_Number_Kind_Repeated_Packed_Of [0] m.Fields]⟩]⟩ (by kernel_rfl) ?_
  rcases ite_some h with ⟨hc4, h⟩ | ⟨hc4, h⟩
  ·
   refine ji_condT rfl hc4 ?_
   refine ji_block ?_
   obtain ⟨x, h_x, h⟩ := bnd h
   refine ji_region ⟨[(1, .sl Rp.byte [0] b), (2, kI number), (3, .ptr 11 0), (7, .own R_R_Field_Run 37 12 [] rv3.1), (9, kI rv3.2.2), (10, .own R_Record_Field_Run 31 13 [] rv4), (11, .own (Rp.list Rp.byte) 25 14 [15] rv5), (12, .own Rp.byte 5 16 [] rv6.1), (13, k8 rv6.2), (14, kI n), (15, kI k), (16, .own Rp.byte 5 19 [] want), (17, kI i), (18, .ptr 20 0)], [⟨11, 24, [kS m.Name, .sl R_Name_Number_Kind_Repeated_Packed_Of [0] m.Fields]⟩, ⟨20, 35, [kI x.R.Number, kI x.R.Wire, kI x.R.From, kI x.R.At, kI x.R.To]⟩]⟩ (ro_o 2 [.own R_R_Field_Run 37 12 [] rv3.1, kI i] ⟨[(1, .sl Rp.byte [0] b), (2, kI number), (3, .ptr 11 0), (7, .own R_R_Field_Run 37 12 [] rv3.1), (9, kI rv3.2.2), (10, .own R_Record_Field_Run 31 13 [] rv4), (11, .own (Rp.list Rp.byte) 25 14 [15] rv5), (12, .own Rp.byte 5 16 [] rv6.1), (13, k8 rv6.2), (14, kI n), (15, kI k), (16, .own Rp.byte 5 19 [] want), (17, kI i), (56, .ep R_R_Field_Run [12] x 0)], [⟨11, 24, [kS m.Name, .sl R_Name_Number_Kind_Repeated_Packed_Of [0] m.Fields]⟩]⟩ rfl (lo_ix rfl zet43.el (isSl_own _ _ _ _ _) h_x) rfl (by kernel_rfl) (ro_o 1 [.ep R_R_Field_Run [12] x 0] ⟨[(1, .sl Rp.byte [0] b), (2, kI number), (3, .ptr 11 0), (7, .own R_R_Field_Run 37 12 [] rv3.1), (9, kI rv3.2.2), (10, .own R_Record_Field_Run 31 13 [] rv4), (11, .own (Rp.list Rp.byte) 25 14 [15] rv5), (12, .own Rp.byte 5 16 [] rv6.1), (13, k8 rv6.2), (14, kI n), (15, kI k), (16, .own Rp.byte 5 19 [] want), (17, kI i), (58, .rc R_Number_Wire_From_At_To [12] x.R)], [⟨11, 24, [kS m.Name, .sl R_Name_Number_Kind_Repeated_Packed_Of [0] m.Fields]⟩]⟩ rfl (lo_ldr' R_Number_Wire_From_At_To x.R rfl ⟨Try.isAgg35, Try.sizeOf35⟩ rfl) rfl (by kernel_rfl) (ro_o 0 [] ⟨[(1, .sl Rp.byte [0] b), (2, kI number), (3, .ptr 11 0), (7, .own R_R_Field_Run 37 12 [] rv3.1), (9, kI rv3.2.2), (10, .own R_Record_Field_Run 31 13 [] rv4), (11, .own (Rp.list Rp.byte) 25 14 [15] rv5), (12, .own Rp.byte 5 16 [] rv6.1), (13, k8 rv6.2), (14, kI n), (15, kI k), (16, .own Rp.byte 5 19 [] want), (17, kI i), (18, .ptr 20 0), (58, .rc R_Number_Wire_From_At_To [12] x.R)], [⟨11, 24, [kS m.Name, .sl R_Name_Number_Kind_Repeated_Packed_Of [0] m.Fields]⟩, ⟨20, 35, [kI 0, kI 0, kI 0, kI 0, kI 0]⟩]⟩ rfl (lo_alloc 20 [kI 0, kI 0, kI 0, kI 0, kI 0] rfl Try.zeroValue35 rfl) rfl (by kernel_rfl) (ro_obz 0 [.ptr 20 0, .rc R_Number_Wire_From_At_To [12] x.R] [⟨20, 35, [kI 0, kI 0, kI 0, kI 0, kI 0]⟩] rfl (lo_str (r := R_Number_Wire_From_At_To) (b := ⟨20, 35, [kI 0, kI 0, kI 0, kI 0, kI 0]⟩) (off := 0) [kI x.R.Number, kI x.R.Wire, kI x.R.From, kI x.R.At, kI x.R.To] rfl Try.sizeOf35 rfl rfl rfl rfl) rfl rfl (by kernel_rfl))))) ?_
   refine ji_rz ⟨[(1, .sl Rp.byte [0] b), (2, kI number), (3, .ptr 11 0), (7, .own R_R_Field_Run 37 12 [] rv3.1), (9, kI rv3.2.2), (10, .own R_Record_Field_Run 31 13 [] rv4), (11, .own (Rp.list Rp.byte) 25 14 [15] rv5), (12, .own Rp.byte 5 16 [] rv6.1), (13, k8 rv6.2), (14, kI n), (15, kI k), (16, .own Rp.byte 5 19 [] want), (17, kI i), (18, .ptr 20 0), (62, kB (x.R.Number == number))], [⟨11, 24, [kS m.Name, .sl R_Name_Number_Kind_Repeated_Packed_Of [0] m.Fields]⟩, ⟨20, 35, [kI x.R.Number, kI x.R.Wire, kI x.R.From, kI x.R.At, kI x.R.To]⟩]⟩ (by kernel_rfl) ?_
   obtain ⟨p, h_p, h⟩ := bnd h
   refine ji_join (R := fun e a w => match p with | (.inl v_) => e = .normal ∧ Sx ⟨⟨145, []⟩, Xt, false, #[]⟩ ⟨[(1, .sl Rp.byte [0] b), (2, kI number), (3, .ptr 11 0), (7, .own R_R_Field_Run 37 12 [] rv3.1), (9, kI rv3.2.2), (10, .own R_Record_Field_Run 31 13 [] rv4), (11, .own (Rp.list Rp.byte) 25 14 [15] rv5), (12, .own Rp.byte 5 16 [] rv6.1), (13, k8 rv6.2), (14, kI v_), (15, kI k), (16, .own Rp.byte 5 19 [] want), (17, kI i), (18, .ptr 20 0)], [⟨11, 24, [kS m.Name, .sl R_Name_Number_Kind_Repeated_Packed_Of [0] m.Fields]⟩, ⟨20, 35, [kI x.R.Number, kI x.R.Wire, kI x.R.From, kI x.R.At, kI x.R.To]⟩]⟩ a w | (.inr v_) => e = .ret ∧ Sx ⟨⟨145, []⟩, Xt, false, #[]⟩ ⟨[(6, kB false)], []⟩ a w) ?_ ?_
   ·
    replace h := h_p
    refine ji_start ?_
    rcases ite_some h with ⟨hc5, h⟩ | ⟨hc5, h⟩
    ·
     refine ji_condT rfl hc5 ?_
     obtain ⟨g, h_g, h⟩ := bnd h
     refine ji_join (R := fun e a w => e = .normal ∧ Sx ⟨⟨145, []⟩, Xt, false, #[]⟩ ⟨[(1, .sl Rp.byte [0] b), (2, kI number), (3, .ptr 11 0), (7, .own R_R_Field_Run 37 12 [] rv3.1), (9, kI rv3.2.2), (10, .own R_Record_Field_Run 31 13 [] rv4), (11, .own (Rp.list Rp.byte) 25 14 [15] rv5), (12, .own Rp.byte 5 16 [] rv6.1), (13, k8 rv6.2), (14, kI n), (15, kI k), (16, .own Rp.byte 5 19 [] want), (17, kI i), (18, .ptr 20 0), (78, kB g)], [⟨11, 24, [kS m.Name, .sl R_Name_Number_Kind_Repeated_Packed_Of [0] m.Fields]⟩, ⟨20, 35, [kI x.R.Number, kI x.R.Wire, kI x.R.From, kI x.R.At, kI x.R.To]⟩]⟩ a w) ?_ (k_norm ?_)
     ·
      refine ji_start ?_
      rcases Bool.eq_false_or_eq_true (decide (n ≥ (rv4.length : Int))) with hc6 | hc6
      ·
       replace h_g := iteT h_g hc6
       obtain rfl := sj h_g
       refine ji_draw ⟨[(1, .sl Rp.byte [0] b), (2, kI number), (3, .ptr 11 0), (7, .own R_R_Field_Run 37 12 [] rv3.1), (9, kI rv3.2.2), (10, .own R_Record_Field_Run 31 13 [] rv4), (11, .own (Rp.list Rp.byte) 25 14 [15] rv5), (12, .own Rp.byte 5 16 [] rv6.1), (13, k8 rv6.2), (14, kI n), (15, kI k), (16, .own Rp.byte 5 19 [] want), (17, kI i), (18, .ptr 20 0), (78, kB true)], [⟨11, 24, [kS m.Name, .sl R_Name_Number_Kind_Repeated_Packed_Of [0] m.Fields]⟩, ⟨20, 35, [kI x.R.Number, kI x.R.Wire, kI x.R.From, kI x.R.At, kI x.R.To]⟩]⟩ [.ev, .ev, .ev, .ev, .ex [] [] [] (kB true) []] [⟨[(.tmp 66, kB (decide (n ≥ (rv4.length : Int))))], [], []⟩] [1, 2, 3, 7, 9, 10, 11, 12, 13, 14, 15, 16, 17, 18, 78] [11, 20] mixed (by kernel_rfl) (by exact (lw_e (lw_e (lw_e (lw_e (lw_x (lo_evb ⟨[(66, kB (decide (n ≥ (rv4.length : Int))))], []⟩ (by kernel_rfl) hc6) lw_0)))))) ?_
       exact je_nil (le_z (by kernel_rfl))
      replace h_g := iteF h_g hc6
      obtain ⟨x2, h_x2, h_g⟩ := bnd h_g
      obtain ⟨x3, h_x3, h_g⟩ := bnd h_g
      obtain ⟨rv7, h_rv7, h_g⟩ := bnd h_g
      obtain rfl := sj h_g
      refine ji_draw ⟨[(1, .sl Rp.byte [0] b), (2, kI number), (3, .ptr 11 0), (7, .own R_R_Field_Run 37 12 [] rv3.1), (9, kI rv3.2.2), (10, .own R_Record_Field_Run 31 13 [] rv4), (11, .own (Rp.list Rp.byte) 25 14 [15] rv5), (12, .own Rp.byte 5 16 [] rv6.1), (13, k8 rv6.2), (14, kI n), (15, kI k), (16, .own Rp.byte 5 19 [] want), (17, kI i), (18, .ptr 20 0), (78, kB (!rv7))], [⟨11, 24, [kS m.Name, .sl R_Name_Number_Kind_Repeated_Packed_Of [0] m.Fields]⟩, ⟨20, 35, [kI x.R.Number, kI x.R.Wire, kI x.R.From, kI x.R.At, kI x.R.To]⟩]⟩ [.ev, .ev, .ev, .ev, .ex [] [] [] (kB false) [], .ev, .ev, .ex [] [] [] (.ep R_Record_Field_Run [13] x2 0) [], .ex [] [] [] (.rc R_Record_Field_Run [13] x2) [], .ev, .ev, .ex [] [] [] (.ep R_R_Field_Run [12] x3 0) [], .ex [] [] [] (.rc R_R_Field_Run [12] x3) [], .ex [] [] [] (kB rv7) []] [⟨[(.tmp 66, kB (decide (n ≥ (rv4.length : Int))))], [], []⟩, ⟨[(.tmp 68, .own R_Record_Field_Run 31 13 [] rv4), (.tmp 69, kI n)], [], []⟩, ⟨[(.tmp 70, .ep R_Record_Field_Run [13] x2 0)], [], []⟩, ⟨[(.tmp 72, .own R_R_Field_Run 37 12 [] rv3.1), (.tmp 73, kI i)], [], []⟩, ⟨[(.tmp 74, .ep R_R_Field_Run [12] x3 0)], [], []⟩, ⟨[(.func 12, .lf (.val (.func (.func 12) #[] #[]))), (.tmp 71, .rc R_Record_Field_Run [13] x2), (.tmp 75, .rc R_R_Field_Run [12] x3)], [], []⟩] [1, 2, 3, 7, 9, 10, 11, 12, 13, 14, 15, 16, 17, 18, 78] [11, 20] mixed (by kernel_rfl) (by exact (lw_e (lw_e (lw_e (lw_e (lw_x (lo_evb ⟨[(66, kB (decide (n ≥ (rv4.length : Int))))], []⟩ (by kernel_rfl) hc6) (lw_e (lw_e (lw_x (lo_as (lo_ix rfl zet40.el (isSl_own _ _ _ _ _) h_x2) rfl) (lw_x (lo_as (lo_ldr rfl ⟨Try.isAgg31, Try.sizeOf31⟩) rfl) (lw_e (lw_e (lw_x (lo_as (lo_ix rfl zet43.el (isSl_own _ _ _ _ _) h_x3) rfl) (lw_x (lo_as (lo_ldr rfl ⟨Try.isAgg37, Try.sizeOf37⟩) rfl) (lw_x (LocalOk.cons _ (lo_as (lo_call (args := [.tmp 71, .tmp 75]) [.rc R_Record_Field_Run [13] x2, .rc R_R_Field_Run [12] x3] [13, 12] 19 rfl Try.call12 (darninglaw10_same_ok h_rv7) rfl rfl rfl rfl rfl) rfl)) lw_0))))))))))))))) ?_
      exact je_nil (le_z (by kernel_rfl))
     rcases ite_some h with ⟨hc7, h⟩ | ⟨hc7, h⟩
     ·
      refine ji_condT rfl hc7 ?_
      refine ji_rz ⟨[(6, kB false)], []⟩ (by kernel_rfl) ?_
      obtain rfl := sj h
      exact je_ret (le_z (by kernel_rfl))
     refine ji_condF rfl hc7 ?_
     refine ji_rz ⟨[(1, .sl Rp.byte [0] b), (2, kI number), (3, .ptr 11 0), (7, .own R_R_Field_Run 37 12 [] rv3.1), (9, kI rv3.2.2), (10, .own R_Record_Field_Run 31 13 [] rv4), (11, .own (Rp.list Rp.byte) 25 14 [15] rv5), (12, .own Rp.byte 5 16 [] rv6.1), (13, k8 rv6.2), (14, kI (IntKind.i64.wrap (n + 1))), (15, kI k), (16, .own Rp.byte 5 19 [] want), (17, kI i), (18, .ptr 20 0)], [⟨11, 24, [kS m.Name, .sl R_Name_Number_Kind_Repeated_Packed_Of [0] m.Fields]⟩, ⟨20, 35, [kI x.R.Number, kI x.R.Wire, kI x.R.From, kI x.R.At, kI x.R.To]⟩]⟩ (by kernel_rfl) ?_
     obtain rfl := sj h
     exact je_nil (le_z (by kernel_rfl))
    refine ji_condF rfl hc5 ?_
    obtain rfl := sj h
    exact je_nil (le_z (by kernel_rfl))
   rcases p with u | u2
   ·
    refine k_norm ?_
    obtain ⟨x4, h_x4, h⟩ := bnd h
    refine ji_region ⟨[(1, .sl Rp.byte [0] b), (2, kI number), (3, .ptr 11 0), (7, .own R_R_Field_Run 37 12 [] rv3.1), (9, kI rv3.2.2), (10, .own R_Record_Field_Run 31 13 [] rv4), (11, .own (Rp.list Rp.byte) 25 14 [15] rv5), (12, .own Rp.byte 5 16 [] rv6.1), (13, k8 rv6.2), (14, kI u), (15, kI k), (16, .own Rp.byte 5 19 [] want), (17, kI i), (18, .ptr 20 0), (86, kB (decide (x4.Field ≥ 0)))], [⟨11, 24, [kS m.Name, .sl R_Name_Number_Kind_Repeated_Packed_Of [0] m.Fields]⟩, ⟨20, 35, [kI x.R.Number, kI x.R.Wire, kI x.R.From, kI x.R.At, kI x.R.To]⟩]⟩ (ro_oz 2 [.own R_R_Field_Run 37 12 [] rv3.1, kI i] rfl (lo_ix rfl zet43.el (isSl_own _ _ _ _ _) h_x4) rfl (by kernel_rfl)) ?_
    rcases ite_some h with ⟨hc8, h⟩ | ⟨hc8, h⟩
    ·
     refine ji_condT rfl hc8 ?_
     obtain ⟨v3, h_v3, h⟩ := bnd h
     obtain ⟨v4, h_v4, h⟩ := bnd h
     refine ji_region ⟨[(1, .sl Rp.byte [0] b), (2, kI number), (3, .ptr 11 0), (7, .own R_R_Field_Run 37 12 [] rv3.1), (9, kI rv3.2.2), (10, .own R_Record_Field_Run 31 13 [] rv4), (11, .own (Rp.list Rp.byte) 25 14 [15] rv5), (12, .own Rp.byte 5 16 [] rv6.1), (13, k8 rv6.2), (14, kI u), (15, kI k), (16, .own Rp.byte 5 19 [] v4), (17, kI i)], [⟨11, 24, [kS m.Name, .sl R_Name_Number_Kind_Repeated_Packed_Of [0] m.Fields]⟩]⟩ (ro_o 6 [.sl Rp.byte [0] b, kI x.R.From, kI x.R.To] ⟨[(1, .sl Rp.byte [0] b), (2, kI number), (3, .ptr 11 0), (7, .own R_R_Field_Run 37 12 [] rv3.1), (9, kI rv3.2.2), (10, .own R_Record_Field_Run 31 13 [] rv4), (11, .own (Rp.list Rp.byte) 25 14 [15] rv5), (12, .own Rp.byte 5 16 [] rv6.1), (13, k8 rv6.2), (14, kI u), (15, kI k), (17, kI i), (87, .own Rp.byte 5 19 [] want), (93, .sl Rp.byte [0] v3)], [⟨11, 24, [kS m.Name, .sl R_Name_Number_Kind_Repeated_Packed_Of [0] m.Fields]⟩]⟩ rfl (lo_cut (some (kI x.R.From)) (some (kI x.R.To)) rfl zet25.el (isSl_sl _ _ _) ⟨rfl, rfl⟩ ⟨rfl, rfl⟩ h_v3) rfl (by kernel_rfl) (ro_oz 0 [.own Rp.byte 5 19 [] want, .sl Rp.byte [0] v3] rfl (lo_app 19 [] rfl zet25.el rfl (isOwn_own _ _ _ _ _) (isSl_sl _ _ _) h_v4 (.inl plain_byte) rfl) rfl (by kernel_rfl))) ?_
     refine ji_exit _ rfl ?_
     refine ji_rz ⟨[(1, .sl Rp.byte [0] b), (2, kI number), (3, .ptr 11 0), (7, .own R_R_Field_Run 37 12 [] rv3.1), (9, kI rv3.2.2), (10, .own R_Record_Field_Run 31 13 [] rv4), (11, .own (Rp.list Rp.byte) 25 14 [15] rv5), (12, .own Rp.byte 5 16 [] rv6.1), (13, k8 rv6.2), (14, kI u), (15, kI k), (16, .own Rp.byte 5 19 [] v4), (17, kI (IntKind.i64.wrap (i + 1)))], [⟨11, 24, [kS m.Name, .sl R_Name_Number_Kind_Repeated_Packed_Of [0] m.Fields]⟩]⟩ (by kernel_rfl) ?_
     obtain rfl := sj h
     exact je_nil (le_z (by kernel_rfl))
    refine ji_condF rfl hc8 ?_
    obtain ⟨g2, h_g2, h⟩ := bnd h
    refine ji_join (R := fun e a w => e = .normal ∧ Sx ⟨⟨145, []⟩, Xt, false, #[]⟩ ⟨[(1, .sl Rp.byte [0] b), (2, kI number), (3, .ptr 11 0), (7, .own R_R_Field_Run 37 12 [] rv3.1), (9, kI rv3.2.2), (10, .own R_Record_Field_Run 31 13 [] rv4), (11, .own (Rp.list Rp.byte) 25 14 [15] rv5), (12, .own Rp.byte 5 16 [] rv6.1), (13, k8 rv6.2), (14, kI u), (15, kI k), (16, .own Rp.byte 5 19 [] want), (17, kI i), (112, kB g2)], [⟨11, 24, [kS m.Name, .sl R_Name_Number_Kind_Repeated_Packed_Of [0] m.Fields]⟩]⟩ a w) ?_ (k_norm ?_)
    ·
     refine ji_start ?_
     rcases Bool.eq_false_or_eq_true (decide (k ≥ (rv5.length : Int))) with hc9 | hc9
     ·
      replace h_g2 := iteT h_g2 hc9
      obtain rfl := sj h_g2
      refine ji_draw ⟨[(1, .sl Rp.byte [0] b), (2, kI number), (3, .ptr 11 0), (7, .own R_R_Field_Run 37 12 [] rv3.1), (9, kI rv3.2.2), (10, .own R_Record_Field_Run 31 13 [] rv4), (11, .own (Rp.list Rp.byte) 25 14 [15] rv5), (12, .own Rp.byte 5 16 [] rv6.1), (13, k8 rv6.2), (14, kI u), (15, kI k), (16, .own Rp.byte 5 19 [] want), (17, kI i), (112, kB true)], [⟨11, 24, [kS m.Name, .sl R_Name_Number_Kind_Repeated_Packed_Of [0] m.Fields]⟩]⟩ [.ev, .ev, .ev, .ev, .ex [] [] [] (kB true) []] [⟨[(.tmp 98, kB (decide (k ≥ (rv5.length : Int))))], [], []⟩] [1, 2, 3, 7, 9, 10, 11, 12, 13, 14, 15, 16, 17, 112] [11] mixed (by kernel_rfl) (by exact (lw_e (lw_e (lw_e (lw_e (lw_x (lo_evb ⟨[(98, kB (decide (k ≥ (rv5.length : Int))))], []⟩ (by kernel_rfl) hc9) lw_0)))))) ?_
      exact je_nil (le_z (by kernel_rfl))
     replace h_g2 := iteF h_g2 hc9
     obtain ⟨x5, h_x5, h_g2⟩ := bnd h_g2
     obtain ⟨v5, h_v5, h_g2⟩ := bnd h_g2
     obtain ⟨rv8, h_rv8, h_g2⟩ := bnd h_g2
     obtain rfl := sj h_g2
     refine ji_draw ⟨[(1, .sl Rp.byte [0] b), (2, kI number), (3, .ptr 11 0), (7, .own R_R_Field_Run 37 12 [] rv3.1), (9, kI rv3.2.2), (10, .own R_Record_Field_Run 31 13 [] rv4), (11, .own (Rp.list Rp.byte) 25 14 [15] rv5), (12, .own Rp.byte 5 16 [] rv6.1), (13, k8 rv6.2), (14, kI u), (15, kI k), (16, .own Rp.byte 5 19 [] want), (17, kI i), (112, kB (!rv8))], [⟨11, 24, [kS m.Name, .sl R_Name_Number_Kind_Repeated_Packed_Of [0] m.Fields]⟩]⟩ [.ev, .ev, .ev, .ev, .ex [] [] [] (kB false) [], .ev, .ev, .ex [] [] [] (.ep (Rp.list Rp.byte) [14, 15] x5 0) [], .ex [] [] [] (.sl Rp.byte [14, 15] x5) [], .ev, .ev, .ev, .ev, .ev, .ex [] [] [] (.sl Rp.byte [0] v5) [], .ex [] [] [] (kB rv8) []] [⟨[(.tmp 98, kB (decide (k ≥ (rv5.length : Int))))], [], []⟩, ⟨[(.tmp 100, .own (Rp.list Rp.byte) 25 14 [15] rv5), (.tmp 101, kI k)], [], []⟩, ⟨[(.tmp 102, .ep (Rp.list Rp.byte) [14, 15] x5 0)], [], []⟩, ⟨[(.tmp 104, .sl Rp.byte [0] b), (.tmp 106, kI x.R.From), (.tmp 108, kI x.R.To)], [], []⟩, ⟨[(.func 16, .lf (.val (.func (.func 16) #[] #[]))), (.tmp 103, .sl Rp.byte [14, 15] x5), (.tmp 109, .sl Rp.byte [0] v5)], [], []⟩] [1, 2, 3, 7, 9, 10, 11, 12, 13, 14, 15, 16, 17, 112] [11] mixed (by kernel_rfl) (by exact (lw_e (lw_e (lw_e (lw_e (lw_x (lo_evb ⟨[(98, kB (decide (k ≥ (rv5.length : Int))))], []⟩ (by kernel_rfl) hc9) (lw_e (lw_e (lw_x (lo_as (lo_ix rfl zet49.el (isSl_own _ _ _ _ _) h_x5) rfl) (lw_x (lo_as (lo_lds Rp.byte x5 rfl rfl rfl) rfl) (lw_e (lw_e (lw_e (lw_e (lw_e (lw_x (lo_as (lo_cut (some (kI x.R.From)) (some (kI x.R.To)) rfl zet25.el (isSl_sl _ _ _) ⟨rfl, rfl⟩ ⟨rfl, rfl⟩ h_v5) rfl) (lw_x (LocalOk.cons _ (lo_as (lo_call (args := [.tmp 103, .tmp 109]) [.sl Rp.byte [14, 15] x5, .sl Rp.byte [0] v5] [14, 15, 0] 19 rfl Try.call16 (darningref01_Same_ok h_rv8) rfl rfl rfl rfl rfl) rfl)) lw_0))))))))))))))))) ?_
     exact je_nil (le_z (by kernel_rfl))
    rcases ite_some h with ⟨hc10, h⟩ | ⟨hc10, h⟩
    ·
     refine ji_condT rfl hc10 ?_
     refine ji_rz ⟨[(6, kB false)], []⟩ (by kernel_rfl) ?_
     obtain rfl := sj h
     exact je_ret' (le_z (by kernel_rfl))
    refine ji_condF rfl hc10 ?_
    refine ji_rz ⟨[(1, .sl Rp.byte [0] b), (2, kI number), (3, .ptr 11 0), (7, .own R_R_Field_Run 37 12 [] rv3.1), (9, kI rv3.2.2), (10, .own R_Record_Field_Run 31 13 [] rv4), (11, .own (Rp.list Rp.byte) 25 14 [15] rv5), (12, .own Rp.byte 5 16 [] rv6.1), (13, k8 rv6.2), (14, kI u), (15, kI (IntKind.i64.wrap (k + 1))), (16, .own Rp.byte 5 19 [] want), (17, kI i)], [⟨11, 24, [kS m.Name, .sl R_Name_Number_Kind_Repeated_Packed_Of [0] m.Fields]⟩]⟩ (by kernel_rfl) ?_
    refine ji_end ?_
    refine ji_rz ⟨[(1, .sl Rp.byte [0] b), (2, kI number), (3, .ptr 11 0), (7, .own R_R_Field_Run 37 12 [] rv3.1), (9, kI rv3.2.2), (10, .own R_Record_Field_Run 31 13 [] rv4), (11, .own (Rp.list Rp.byte) 25 14 [15] rv5), (12, .own Rp.byte 5 16 [] rv6.1), (13, k8 rv6.2), (14, kI u), (15, kI (IntKind.i64.wrap (k + 1))), (16, .own Rp.byte 5 19 [] want), (17, kI (IntKind.i64.wrap (i + 1)))], [⟨11, 24, [kS m.Name, .sl R_Name_Number_Kind_Repeated_Packed_Of [0] m.Fields]⟩]⟩ (by kernel_rfl) ?_
    obtain rfl := sj h
    exact je_nil (le_z (by kernel_rfl))
   obtain rfl := sj h
   exact ke_ret' (le_z (by kernel_rfl))
  refine ji_condF rfl hc4 ?_
  obtain rfl := sj h
  exact je_out' rfl (le_z (by kernel_rfl))
 ·
  refine le_at 16 (.own Rp.byte 5 19 [] []) rfl (le_own_nil Rp.byte 5 19 [] rfl) ?_
  exact le_z (by kernel_rfl)
 rcases q with u3 | u4
 ·
  refine k_exit _ rfl ?_
  obtain ⟨g3, h_g3, h⟩ := bnd h
  refine ji_region ⟨[(6, kB g3)], []⟩ ?_ ?_
  ·
   refine (ro_sp 5 119 (u3.1 == (rv4.length : Int)) ⟨[(1, .sl Rp.byte [0] b), (2, kI number), (3, .ptr 11 0), (9, kI rv3.2.2), (11, .own (Rp.list Rp.byte) 25 14 [15] rv5), (12, .own Rp.byte 5 16 [] rv6.1), (13, k8 rv6.2), (14, kI u3.1), (15, kI u3.2.1), (16, .own Rp.byte 5 19 [] u3.2.2), (119, kB (u3.1 == (rv4.length : Int)))], [⟨11, 24, [kS m.Name, .sl R_Name_Number_Kind_Repeated_Packed_Of [0] m.Fields]⟩]⟩ (by kernel_rfl) rfl (fun hc11 => ?_) (fun hc11 => ?_))
   ·
    replace h_g3 := iteT h_g3 hc11
    refine (ro_sp 6 125 (u3.2.1 == (rv5.length : Int)) ⟨[(1, .sl Rp.byte [0] b), (2, kI number), (3, .ptr 11 0), (9, kI rv3.2.2), (12, .own Rp.byte 5 16 [] rv6.1), (13, k8 rv6.2), (14, kI u3.1), (16, .own Rp.byte 5 19 [] u3.2.2), (125, kB (u3.2.1 == (rv5.length : Int)))], [⟨11, 24, [kS m.Name, .sl R_Name_Number_Kind_Repeated_Packed_Of [0] m.Fields]⟩]⟩ (by kernel_rfl) rfl (fun hc12 => ?_) (fun hc12 => ?_))
    ·
     replace h_g3 := iteT h_g3 hc12
     obtain ⟨rv9, h_rv9, h_g3⟩ := bnd h_g3
     refine (ro_ob 0 [.ptr 11 0] [⟨11, 24, [kS m.Name, .sl R_Name_Number_Kind_Repeated_Packed_Of [0] m.Fields]⟩] ⟨[(1, .sl Rp.byte [0] b), (2, kI number), (9, kI rv3.2.2), (12, .own Rp.byte 5 16 [] rv6.1), (13, k8 rv6.2), (14, kI u3.1), (16, .own Rp.byte 5 19 [] u3.2.2), (125, kB true), (126, .ag [kS m.Name, .sl R_Name_Number_Kind_Repeated_Packed_Of [0] m.Fields])], []⟩ rfl (lo_ldba (b := ⟨11, 24, [kS m.Name, .sl R_Name_Number_Kind_Repeated_Packed_Of [0] m.Fields]⟩) [kS m.Name, .sl R_Name_Number_Kind_Repeated_Packed_Of [0] m.Fields] rfl ⟨Try.isAgg24, Try.sizeOf24⟩ rfl rfl) rfl rfl (by kernel_rfl) (ro_o 2 [.ag [kS m.Name, .sl R_Name_Number_Kind_Repeated_Packed_Of [0] m.Fields], .sl Rp.byte [0] b, kI number] ⟨[(9, kI rv3.2.2), (12, .own Rp.byte 5 16 [] rv6.1), (13, k8 rv6.2), (14, kI u3.1), (16, .own Rp.byte 5 19 [] u3.2.2), (125, kB true), (129, kB rv9)], []⟩ rfl (LocalOk.le (ins' := [(.tmp 126, .ag [kS m.Name, .sl R_Name_Number_Kind_Repeated_Packed_Of [0] m.Fields]), (.tmp 127, .sl Rp.byte [0] b), (.tmp 128, kI number)]) (lo_call (args := [.tmp 126, .tmp 127, .tmp 128]) [.rc R_Name_Fields [0] m, .sl Rp.byte [0] b, kI number] [0] 19 rfl Try.call17 (view_Has_ok h_rv9) rfl rfl rfl rfl rfl) ⟨⟨rfl, le_agrc R_Name_Fields [0] m [kS m.Name, .sl R_Name_Number_Kind_Repeated_Packed_Of [0] m.Fields] rfl rfl⟩, ⟨rfl, AV.le_refl _⟩, ⟨rfl, AV.le_refl _⟩, trivial⟩) rfl (by kernel_rfl) (ro_sp 5 134 (rv9 == (decide (u3.1 > 0))) ⟨[(9, kI rv3.2.2), (12, .own Rp.byte 5 16 [] rv6.1), (13, k8 rv6.2), (16, .own Rp.byte 5 19 [] u3.2.2), (134, kB (rv9 == (decide (u3.1 > 0))))], []⟩ (by kernel_rfl) rfl (fun hc13 => ?_) (fun hc13 => ?_))))
     ·
      replace h_g3 := iteT h_g3 hc13
      refine (ro_sp 6 140 ((IntKind.i64.wrap rv6.2) == rv3.2.2) ⟨[(12, .own Rp.byte 5 16 [] rv6.1), (16, .own Rp.byte 5 19 [] u3.2.2), (140, kB ((IntKind.i64.wrap rv6.2) == rv3.2.2))], []⟩ (by kernel_rfl) rfl (fun hc14 => ?_) (fun hc14 => ?_))
      ·
       replace h_g3 := iteT h_g3 hc14
       obtain ⟨rv10, h_rv10, h_g3⟩ := bnd h_g3
       obtain rfl := sj h_g3
       exact (ro_oz 2 [.own Rp.byte 5 16 [] rv6.1, .own Rp.byte 5 19 [] u3.2.2] rfl (lo_call [.own Rp.byte 5 16 [] rv6.1, .own Rp.byte 5 19 [] u3.2.2] [16, 19] 19 rfl Try.call16 (darningref01_Same_ok h_rv10) rfl rfl rfl rfl rfl) rfl (by kernel_rfl))
      replace h_g3 := iteF h_g3 hc14
      obtain rfl := sj h_g3
      exact (ro_z (by kernel_rfl))
     replace h_g3 := iteF h_g3 hc13
     obtain rfl := sj h_g3
     exact (ro_z (by kernel_rfl))
    replace h_g3 := iteF h_g3 hc12
    obtain rfl := sj h_g3
    exact (ro_z (by kernel_rfl))
   replace h_g3 := iteF h_g3 hc11
   obtain rfl := sj h_g3
   exact (ro_z (by kernel_rfl))
  obtain rfl := sj h
  exact je_ret (le_z (by kernel_rfl))
 obtain rfl := sj h
 exact ke_ret (le_z (by kernel_rfl))
end Go.Proofs.Ytdpolccecmaajaa
