/-
  The Go functions do what the plain functions say. No condition.
-/
import Derived.Test.YtdpolccecmaajaaT
namespace Go.Proofs.Ytdpolccecmaajaa
open Go Go.RowKit
set_option linter.unusedVariables false
set_option maxRecDepth 100000
theorem varint_Read_ok {b : (List UInt8)} {r : (Int × Int × Int)} (h : varint_Read b = some r) : FnOk Try.prog 37 [.sl Rp.byte [0] b] [kU r.1, kI r.2.1, k8 r.2.2] := by
 refine fn_intro' (E := ⟨[(2, kU r.1), (3, kI r.2.1), (4, k8 r.2.2)], []⟩) 38 Try.func37 rfl rfl rfl ⟨rfl, rfl, rfl, trivial⟩ (fun Xt => ?_)
 refine ji_start ?_
 refine ji_le (E' := ⟨[(0, .sl Rp.byte [0] b)], []⟩) (fun _ _ _ hs => hs) ?_
 unfold varint_Read at h
 refine ji_rz ⟨[(0, .sl Rp.byte [0] b), (2, kU 0)], []⟩ (by kernel_rfl) ?_
 obtain ⟨v, h_v, h⟩ := bnd h
 refine ji_region ⟨[(2, kU 0), (11, .sl Rp.byte [0] v), (12, kI (v.length : Int)), (13, kI 0)], []⟩ (ro_oz 4 [.sl Rp.byte [0] b, kI (if (10 : Int) < (b.length : Int) then 10 else (b.length : Int))] rfl (lo_cut none (some (kI (if (10 : Int) < (b.length : Int) then 10 else (b.length : Int)))) rfl zet25.el (isSl_sl _ _ _) ⟨rfl, rfl⟩ ⟨rfl, rfl⟩ h_v) rfl (by kernel_rfl)) ?_
 refine ji_block ?_
 obtain ⟨q, h_q, h⟩ := bnd h
 refine je_loop (fun s : (Int × Int) => varint_Read_b1 v s.1 s.2) (fun s => ⟨[(2, kU s.1), (11, .sl Rp.byte [0] v), (12, kI (v.length : Int)), (13, kI s.2)], []⟩) (fun o e a w => match o with | (.inl v_) => e = .exit 0 ∧ Sx ⟨⟨38, []⟩, Xt, false, #[]⟩ ⟨[], []⟩ a w | (.inr v_) => e = .ret ∧ Sx ⟨⟨38, []⟩, Xt, false, #[]⟩ ⟨[(2, kU v_.1), (3, kI v_.2.1), (4, k8 v_.2.2)], []⟩ a w) ?_ h_q (le_z (by kernel_rfl)) ?_
 ·
  clear h
  intro s o h
  obtain ⟨wv, v2⟩ := s
  refine ji_start ?_
  refine ji_le (E' := ⟨[(2, kU wv), (11, .sl Rp.byte [0] v), (12, kI (v.length : Int)), (13, kI v2)], []⟩) (fun _ _ _ hs => hs) ?_
  replace h : varint_Read_b1 v wv v2 = some o := h
  unfold varint_Read_b1 at h
  refine ji_rz ⟨[(2, kU wv), (11, .sl Rp.byte [0] v), (12, kI (v.length : Int)), (13, kI v2), (14, kB (decide (v2 < (v.length : Int))))], []⟩ (by kernel_rfl) ?_
  rcases ite_some h with ⟨hc1, h⟩ | ⟨hc1, h⟩
  ·
   refine ji_condT rfl hc1 ?_
   refine ji_block ?_
   obtain ⟨x, h_x, h⟩ := bnd h
   refine ji_region ⟨[(2, kU wv), (5, kI v2), (6, k8 (x.toNat : Int)), (11, .sl Rp.byte [0] v), (12, kI (v.length : Int)), (13, kI v2)], []⟩ (ro_oz 1 [.sl Rp.byte [0] v, kI v2] rfl (lo_ix rfl zet25.el (isSl_sl _ _ _) h_x) rfl (by kernel_rfl)) ?_
   refine ji_region ⟨[(2, kU wv), (5, kI v2), (6, k8 (x.toNat : Int)), (11, .sl Rp.byte [0] v), (12, kI (v.length : Int)), (13, kI v2), (23, kB ((v2 == 9) && (decide ((x.toNat : Int) > 1))))], []⟩ ?_ ?_
   ·
    refine (ro_sp 3 20 (v2 == 9) ⟨[(2, kU wv), (5, kI v2), (6, k8 (x.toNat : Int)), (11, .sl Rp.byte [0] v), (12, kI (v.length : Int)), (13, kI v2), (20, kB (v2 == 9))], []⟩ (by kernel_rfl) rfl (fun hc2 => ?_) (fun hc2 => ?_))
    · exact (ro_zb 23 (decide ((x.toNat : Int) > 1)) ((v2 == 9) && (decide ((x.toNat : Int) > 1))) (by rw [hc2] <;> rfl) (by kernel_rfl) (by kernel_rfl))
    exact (ro_zb 23 false ((v2 == 9) && (decide ((x.toNat : Int) > 1))) (by rw [hc2] <;> rfl) (by kernel_rfl) (by kernel_rfl))
   rcases ite_some h with ⟨hc3, h⟩ | ⟨hc3, h⟩
   ·
    refine ji_condT rfl hc3 ?_
    refine ji_rz ⟨[(2, kU 0), (3, kI 0), (4, k8 4)], []⟩ (by kernel_rfl) ?_
    obtain rfl := sj h
    exact je_ret' (le_z (by kernel_rfl))
   refine ji_condF rfl hc3 ?_
   obtain ⟨v4, h_v4, h⟩ := bnd h
   refine ji_region ⟨[(2, kU (orI .u64 wv v4)), (5, kI v2), (6, k8 (x.toNat : Int)), (11, .sl Rp.byte [0] v), (12, kI (v.length : Int)), (13, kI v2)], []⟩ (ro_oz 6 [kU (IntKind.u64.wrap (andI .u8 (x.toNat : Int) 127)), kI (IntKind.i64.wrap (7 * v2))] rfl (lo_shl rfl h_v4) rfl (by kernel_rfl)) ?_
   refine ji_rz ⟨[(2, kU (orI .u64 wv v4)), (5, kI v2), (11, .sl Rp.byte [0] v), (12, kI (v.length : Int)), (13, kI v2), (33, kB (decide ((x.toNat : Int) < 128)))], []⟩ (by kernel_rfl) ?_
   rcases ite_some h with ⟨hc4, h⟩ | ⟨hc4, h⟩
   ·
    refine ji_condT rfl hc4 ?_
    refine ji_rz ⟨[(2, kU (orI .u64 wv v4)), (3, kI (IntKind.i64.wrap (v2 + 1))), (4, k8 0)], []⟩ (by kernel_rfl) ?_
    obtain rfl := sj h
    exact je_ret' (le_z (by kernel_rfl))
   refine ji_condF rfl hc4 ?_
   refine ji_end ?_
   refine ji_rz ⟨[(2, kU (orI .u64 wv v4)), (11, .sl Rp.byte [0] v), (12, kI (v.length : Int)), (13, kI (IntKind.i64.wrap (v2 + 1)))], []⟩ (by kernel_rfl) ?_
   obtain rfl := sj h
   exact je_nil (le_z (by kernel_rfl))
  refine ji_condF rfl hc1 ?_
  obtain rfl := sj h
  exact je_out' rfl (le_z (by kernel_rfl))
 rcases q with u | u2
 ·
  refine k_exit _ rfl ?_
  refine ji_rz ⟨[(2, kU 0), (3, kI 0), (4, k8 3)], []⟩ (by kernel_rfl) ?_
  obtain rfl := sj h
  exact je_ret (le_z (by kernel_rfl))
 obtain rfl := sj h
 exact ke_ret (le_z (by kernel_rfl))
theorem tag_rightWire_ok {wire : Int} {r : Bool} (h : tag_rightWire wire = some r) : FnOk Try.prog 45 [kI wire] [kB r] := by
 refine fn_intro' (E := ⟨[(2, kB r)], []⟩) 9 Try.func45 rfl rfl rfl ⟨rfl, trivial⟩ (fun Xt => ?_)
 refine ji_start ?_
 refine ji_le (E' := ⟨[(0, kI wire)], []⟩) (fun _ _ _ hs => hs) ?_
 unfold tag_rightWire at h
 refine ji_rz ⟨[(0, kI wire)], []⟩ (by kernel_rfl) ?_
 refine ji_rz ⟨[(3, kI wire)], []⟩ (by kernel_rfl) ?_
 refine ji_block ?_
 refine ji_rz ⟨[(3, kI wire), (4, kB (wire == 0))], []⟩ (by kernel_rfl) ?_
 rcases ite_some h with ⟨hc1, h⟩ | ⟨hc1, h⟩
 ·
  refine ji_condT rfl hc1 ?_
  rcases ite_some h with ⟨hc2, h⟩ | ⟨hc2, h⟩
  ·
   refine ji_condT rfl hc2 ?_
   refine ji_rz ⟨[(2, kB true)], []⟩ (by kernel_rfl) ?_
   obtain rfl := sj h
   exact je_ret (le_z (by kernel_rfl))
  refine ji_condF rfl hc2 ?_
  refine ji_end ?_
  refine ji_rz ⟨[(2, kB false)], []⟩ (by kernel_rfl) ?_
  obtain rfl := sj h
  exact je_ret (le_z (by kernel_rfl))
 refine ji_condF rfl hc1 ?_
 refine ji_rz ⟨[(3, kI wire), (4, kB (wire == 1))], []⟩ (by kernel_rfl) ?_
 rcases ite_some h with ⟨hc3, h⟩ | ⟨hc3, h⟩
 ·
  refine ji_condT rfl hc3 ?_
  rcases ite_some h with ⟨hc4, h⟩ | ⟨hc4, h⟩
  ·
   refine ji_condT rfl hc4 ?_
   refine ji_rz ⟨[(2, kB true)], []⟩ (by kernel_rfl) ?_
   obtain rfl := sj h
   exact je_ret (le_z (by kernel_rfl))
  refine ji_condF rfl hc4 ?_
  refine ji_end ?_
  refine ji_rz ⟨[(2, kB false)], []⟩ (by kernel_rfl) ?_
  obtain rfl := sj h
  exact je_ret (le_z (by kernel_rfl))
 refine ji_condF rfl hc3 ?_
 refine ji_rz ⟨[(3, kI wire), (4, kB (wire == 2))], []⟩ (by kernel_rfl) ?_
 rcases ite_some h with ⟨hc5, h⟩ | ⟨hc5, h⟩
 ·
  refine ji_condT rfl hc5 ?_
  rcases ite_some h with ⟨hc6, h⟩ | ⟨hc6, h⟩
  ·
   refine ji_condT rfl hc6 ?_
   refine ji_rz ⟨[(2, kB true)], []⟩ (by kernel_rfl) ?_
   obtain rfl := sj h
   exact je_ret (le_z (by kernel_rfl))
  refine ji_condF rfl hc6 ?_
  refine ji_end ?_
  refine ji_rz ⟨[(2, kB false)], []⟩ (by kernel_rfl) ?_
  obtain rfl := sj h
  exact je_ret (le_z (by kernel_rfl))
 refine ji_condF rfl hc5 ?_
 refine ji_rz ⟨[(4, kB (wire == 5))], []⟩ (by kernel_rfl) ?_
 rcases ite_some h with ⟨hc7, h⟩ | ⟨hc7, h⟩
 ·
  refine ji_condT rfl hc7 ?_
  refine ji_rz ⟨[(2, kB true)], []⟩ (by kernel_rfl) ?_
  obtain rfl := sj h
  exact je_ret (le_z (by kernel_rfl))
 refine ji_condF rfl hc7 ?_
 refine ji_end ?_
 refine ji_rz ⟨[(2, kB false)], []⟩ (by kernel_rfl) ?_
 obtain rfl := sj h
 exact je_ret (le_z (by kernel_rfl))
theorem view_first_1_ok {f : T_Name_Number_Kind_Repeated_Packed_Of} {v : Int} {r : Bool} (h : view_first_1 f v = some r) : FnOk Try.prog 41 [.rc R_Name_Number_Kind_Repeated_Packed_Of [0] f, .ep (Rp.int .i64) [0] v 0] [kB r] := by
 refine fn_intro' (E := ⟨[(3, kB r)], []⟩) 8 Try.func41 rfl rfl rfl ⟨rfl, trivial⟩ (fun Xt => ?_)
 refine ji_start ?_
 refine ji_le (E' := ⟨[(0, .rc R_Name_Number_Kind_Repeated_Packed_Of [0] f), (1, .ep (Rp.int .i64) [0] v 0)], []⟩) (fun _ _ _ hs => hs) ?_
 unfold view_first_1 at h
 refine ji_region ⟨[(1, .ep (Rp.int .i64) [0] v 0), (2, .ptr 11 0)], [⟨11, 55, [kS f.Name, kI f.Number, kI f.Kind, kB f.Repeated, kB f.Packed, kI f.Of]⟩]⟩ (ro_oz 0 [.rc R_Name_Number_Kind_Repeated_Packed_Of [0] f] rfl (lo_box 11 [kS f.Name, kI f.Number, kI f.Kind, kB f.Repeated, kB f.Packed, kI f.Of] [0] rfl rfl rfl rfl rfl) rfl (by kernel_rfl)) ?_
 refine ji_rz ⟨[(3, kB (f.Number == v))], []⟩ (by kernel_rfl) ?_
 obtain rfl := sj h
 exact je_ret (le_z (by kernel_rfl))
theorem kind_kinds_ok  {r : (List (Int × T_name_wire))} (h : kind_kinds = some r) : FnOk Try.prog 46 [] [.om (Rp.int .i64) R_name_wire 2 [] r] := by
 refine fn_intro' (E := ⟨[(0, .om (Rp.int .i64) R_name_wire 2 [] r)], []⟩) 20 Try.func46 rfl rfl rfl ⟨rfl, trivial⟩ (fun Xt => ?_)
 refine ji_start ?_
 refine ji_le (E' := ⟨[], []⟩) (fun _ _ _ hs => hs) ?_
 unfold kind_kinds at h
 refine ji_rz ⟨[], []⟩ (by kernel_rfl) ?_
 refine ji_region ⟨[(0, .om (Rp.int .i64) R_name_wire 12 [] (mput (mput (mput (mput (mput (mput (mput (mput (mput (mput (mput (mput (mput (mput (mput (mput (mput ([] : (List (Int × T_name_wire))) 1 (⟨[105, 110, 116, 51, 50], 0⟩ : T_name_wire)) 2 (⟨[105, 110, 116, 54, 52], 0⟩ : T_name_wire)) 3 (⟨[117, 105, 110, 116, 51, 50], 0⟩ : T_name_wire)) 4 (⟨[117, 105, 110, 116, 54, 52], 0⟩ : T_name_wire)) 5 (⟨[115, 105, 110, 116, 51, 50], 0⟩ : T_name_wire)) 6 (⟨[115, 105, 110, 116, 54, 52], 0⟩ : T_name_wire)) 7 (⟨[98, 111, 111, 108], 0⟩ : T_name_wire)) 8 (⟨[101, 110, 117, 109], 0⟩ : T_name_wire)) 9 (⟨[102, 105, 120, 101, 100, 51, 50], 5⟩ : T_name_wire)) 10 (⟨[115, 102, 105, 120, 101, 100, 51, 50], 5⟩ : T_name_wire)) 11 (⟨[102, 108, 111, 97, 116], 5⟩ : T_name_wire)) 12 (⟨[102, 105, 120, 101, 100, 54, 52], 1⟩ : T_name_wire)) 13 (⟨[115, 102, 105, 120, 101, 100, 54, 52], 1⟩ : T_name_wire)) 14 (⟨[100, 111, 117, 98, 108, 101], 1⟩ : T_name_wire)) 15 (⟨[115, 116, 114, 105, 110, 103], 2⟩ : T_name_wire)) 16 (⟨[98, 121, 116, 101, 115], 2⟩ : T_name_wire)) 17 (⟨[109, 101, 115, 115, 97, 103, 101], 2⟩ : T_name_wire)))], []⟩ (ro_o 0 [] ⟨[(1, .om (Rp.int .i64) R_name_wire 12 [] ([] : (List (Int × T_name_wire))))], []⟩ rfl (lo_mkmap (rk := (Rp.int .i64)) (rv := R_name_wire) 12 rfl) rfl (by kernel_rfl) (ro_o 0 [kS [105, 110, 116, 51, 50], kI 0] ⟨[(1, .om (Rp.int .i64) R_name_wire 12 [] ([] : (List (Int × T_name_wire)))), (2, .rc R_name_wire [] (⟨[105, 110, 116, 51, 50], 0⟩ : T_name_wire))], []⟩ rfl (lo_build (r := R_name_wire) [kS [105, 110, 116, 51, 50], kI 0] [] (⟨[105, 110, 116, 51, 50], 0⟩ : T_name_wire) rfl stt98 rfl rfl) rfl (by kernel_rfl) (ro_pk 0 ⟨[(1, .om (Rp.int .i64) R_name_wire 12 [] ([] : (List (Int × T_name_wire)))), (2, .rc R_name_wire [] (⟨[105, 110, 116, 51, 50], 0⟩ : T_name_wire))], []⟩ (by kernel_rfl) (ro_mset (rk := (Rp.int .i64)) (rv := R_name_wire) (m := ([] : (List (Int × T_name_wire)))) (C := []) (C1 := []) (D := []) [1] 1 (⟨[105, 110, 116, 51, 50], 0⟩ : T_name_wire) [] mapt100 rfl (.inr rfl) rfl rfl rfl rfl (asV_lf rfl rfl) (asV_rc rfl) (by kernel_rfl) rfl (ro_o 0 [kS [105, 110, 116, 54, 52], kI 0] ⟨[(1, .om (Rp.int .i64) R_name_wire 12 [] (mput ([] : (List (Int × T_name_wire))) 1 (⟨[105, 110, 116, 51, 50], 0⟩ : T_name_wire))), (3, .rc R_name_wire [] (⟨[105, 110, 116, 54, 52], 0⟩ : T_name_wire))], []⟩ rfl (lo_build (r := R_name_wire) [kS [105, 110, 116, 54, 52], kI 0] [] (⟨[105, 110, 116, 54, 52], 0⟩ : T_name_wire) rfl stt98 rfl rfl) rfl (by kernel_rfl) (ro_pk 0 ⟨[(1, .om (Rp.int .i64) R_name_wire 12 [] (mput ([] : (List (Int × T_name_wire))) 1 (⟨[105, 110, 116, 51, 50], 0⟩ : T_name_wire))), (3, .rc R_name_wire [] (⟨[105, 110, 116, 54, 52], 0⟩ : T_name_wire))], []⟩ (by kernel_rfl) (ro_mset (rk := (Rp.int .i64)) (rv := R_name_wire) (m := (mput ([] : (List (Int × T_name_wire))) 1 (⟨[105, 110, 116, 51, 50], 0⟩ : T_name_wire))) (C := []) (C1 := []) (D := []) [1] 2 (⟨[105, 110, 116, 54, 52], 0⟩ : T_name_wire) [] mapt100 rfl (.inr rfl) rfl rfl rfl rfl (asV_lf rfl rfl) (asV_rc rfl) (by kernel_rfl) rfl (ro_o 0 [kS [117, 105, 110, 116, 51, 50], kI 0] ⟨[(1, .om (Rp.int .i64) R_name_wire 12 [] (mput (mput ([] : (List (Int × T_name_wire))) 1 (⟨[105, 110, 116, 51, 50], 0⟩ : T_name_wire)) 2 (⟨[105, 110, 116, 54, 52], 0⟩ : T_name_wire))), (4, .rc R_name_wire [] (⟨[117, 105, 110, 116, 51, 50], 0⟩ : T_name_wire))], []⟩ rfl (lo_build (r := R_name_wire) [kS [117, 105, 110, 116, 51, 50], kI 0] [] (⟨[117, 105, 110, 116, 51, 50], 0⟩ : T_name_wire) rfl stt98 rfl rfl) rfl (by kernel_rfl) (ro_pk 0 ⟨[(1, .om (Rp.int .i64) R_name_wire 12 [] (mput (mput ([] : (List (Int × T_name_wire))) 1 (⟨[105, 110, 116, 51, 50], 0⟩ : T_name_wire)) 2 (⟨[105, 110, 116, 54, 52], 0⟩ : T_name_wire))), (4, .rc R_name_wire [] (⟨[117, 105, 110, 116, 51, 50], 0⟩ : T_name_wire))], []⟩ (by kernel_rfl) (ro_mset (rk := (Rp.int .i64)) (rv := R_name_wire) (m := (mput (mput ([] : (List (Int × T_name_wire))) 1 (⟨[105, 110, 116, 51, 50], 0⟩ : T_name_wire)) 2 (⟨[105, 110, 116, 54, 52], 0⟩ : T_name_wire))) (C := []) (C1 := []) (D := []) [1] 3 (⟨[117, 105, 110, 116, 51, 50], 0⟩ : T_name_wire) [] mapt100 rfl (.inr rfl) rfl rfl rfl rfl (asV_lf rfl rfl) (asV_rc rfl) (by kernel_rfl) rfl (ro_o 0 [kS [117, 105, 110, 116, 54, 52], kI 0] ⟨[(1, .om (Rp.int .i64) R_name_wire 12 [] (mput (mput (mput ([] : (List (Int × T_name_wire))) 1 (⟨[105, 110, 116, 51, 50], 0⟩ : T_name_wire)) 2 (⟨[105, 110, 116, 54, 52], 0⟩ : T_name_wire)) 3 (⟨[117, 105, 110, 116, 51, 50], 0⟩ : T_name_wire))), (5, .rc R_name_wire [] (⟨[117, 105, 110, 116, 54, 52], 0⟩ : T_name_wire))], []⟩ rfl (lo_build (r := R_name_wire) [kS [117, 105, 110, 116, 54, 52], kI 0] [] (⟨[117, 105, 110, 116, 54, 52], 0⟩ : T_name_wire) rfl stt98 rfl rfl) rfl (by kernel_rfl) (ro_pk 0 ⟨[(1, .om (Rp.int .i64) R_name_wire 12 [] (mput (mput (mput ([] : (List (Int × T_name_wire))) 1 (⟨[105, 110, 116, 51, 50], 0⟩ : T_name_wire)) 2 (⟨[105, 110, 116, 54, 52], 0⟩ : T_name_wire)) 3 (⟨[117, 105, 110, 116, 51, 50], 0⟩ : T_name_wire))), (5, .rc R_name_wire [] (⟨[117, 105, 110, 116, 54, 52], 0⟩ : T_name_wire))], []⟩ (by kernel_rfl) (ro_mset (rk := (Rp.int .i64)) (rv := R_name_wire) (m := (mput (mput (mput ([] : (List (Int × T_name_wire))) 1 (⟨[105, 110, 116, 51, 50], 0⟩ : T_name_wire)) 2 (⟨[105, 110, 116, 54, 52], 0⟩ : T_name_wire)) 3 (⟨[117, 105, 110, 116, 51, 50], 0⟩ : T_name_wire))) (C := []) (C1 := []) (D := []) [1] 4 (⟨[117, 105, 110, 116, 54, 52], 0⟩ : T_name_wire) [] mapt100 rfl (.inr rfl) rfl rfl rfl rfl (asV_lf rfl rfl) (asV_rc rfl) (by kernel_rfl) rfl (ro_o 0 [kS [115, 105, 110, 116, 51, 50], kI 0] ⟨[(1, .om (Rp.int .i64) R_name_wire 12 [] (mput (mput (mput (mput ([] : (List (Int × T_name_wire))) 1 (⟨[105, 110, 116, 51, 50], 0⟩ : T_name_wire)) 2 (⟨[105, 110, 116, 54, 52], 0⟩ : T_name_wire)) 3 (⟨[117, 105, 110, 116, 51, 50], 0⟩ : T_name_wire)) 4 (⟨[117, 105, 110, 116, 54, 52], 0⟩ : T_name_wire))), (6, .rc R_name_wire [] (⟨[115, 105, 110, 116, 51, 50], 0⟩ : T_name_wire))], []⟩ rfl (lo_build (r := R_name_wire) [kS [115, 105, 110, 116, 51, 50], kI 0] [] (⟨[115, 105, 110, 116, 51, 50], 0⟩ : T_name_wire) rfl stt98 rfl rfl) rfl (by kernel_rfl) (ro_pk 0 ⟨[(1, .om (Rp.int .i64) R_name_wire 12 [] (mput (mput (mput (mput ([] : (List (Int × T_name_wire))) 1 (⟨[105, 110, 116, 51, 50], 0⟩ : T_name_wire)) 2 (⟨[105, 110, 116, 54, 52], 0⟩ : T_name_wire)) 3 (⟨[117, 105, 110, 116, 51, 50], 0⟩ : T_name_wire)) 4 (⟨[117, 105, 110, 116, 54, 52], 0⟩ : T_name_wire))), (6, .rc R_name_wire [] (⟨[115, 105, 110, 116, 51, 50], 0⟩ : T_name_wire))], []⟩ (by kernel_rfl) (ro_mset (rk := (Rp.int .i64)) (rv := R_name_wire) (m := (mput (mput (mput (mput ([] : (List (Int × T_name_wire))) 1 (⟨[105, 110, 116, 51, 50], 0⟩ : T_name_wire)) 2 (⟨[105, 110, 116, 54, 52], 0⟩ : T_name_wire)) 3 (⟨[117, 105, 110, 116, 51, 50], 0⟩ : T_name_wire)) 4 (⟨[117, 105, 110, 116, 54, 52], 0⟩ : T_name_wire))) (C := []) (C1 := []) (D := []) [1] 5 (⟨[115, 105, 110, 116, 51, 50], 0⟩ : T_name_wire) [] mapt100 rfl (.inr rfl) rfl rfl rfl rfl (asV_lf rfl rfl) (asV_rc rfl) (by kernel_rfl) rfl (ro_o 0 [kS [115, 105, 110, 116, 54, 52], kI 0] ⟨[(1, .om (Rp.int .i64) R_name_wire 12 [] (mput (mput (mput (mput (mput ([] : (List (Int × T_name_wire))) 1 (⟨[105, 110, 116, 51, 50], 0⟩ : T_name_wire)) 2 (⟨[105, 110, 116, 54, 52], 0⟩ : T_name_wire)) 3 (⟨[117, 105, 110, 116, 51, 50], 0⟩ : T_name_wire)) 4 (⟨[117, 105, 110, 116, 54, 52], 0⟩ : T_name_wire)) 5 (⟨[115, 105, 110, 116, 51, 50], 0⟩ : T_name_wire))), (7, .rc R_name_wire [] (⟨[115, 105, 110, 116, 54, 52], 0⟩ : T_name_wire))], []⟩ rfl (lo_build (r := R_name_wire) [kS [115, 105, 110, 116, 54, 52], kI 0] [] (⟨[115, 105, 110, 116, 54, 52], 0⟩ : T_name_wire) rfl stt98 rfl rfl) rfl (by kernel_rfl) (ro_pk 0 ⟨[(1, .om (Rp.int .i64) R_name_wire 12 [] (mput (mput (mput (mput (mput ([] : (List (Int × T_name_wire))) 1 (⟨[105, 110, 116, 51, 50], 0⟩ : T_name_wire)) 2 (⟨[105, 110, 116, 54, 52], 0⟩ : T_name_wire)) 3 (⟨[117, 105, 110, 116, 51, 50], 0⟩ : T_name_wire)) 4 (⟨[117, 105, 110, 116, 54, 52], 0⟩ : T_name_wire)) 5 (⟨[115, 105, 110, 116, 51, 50], 0⟩ : T_name_wire))), (7, .rc R_name_wire [] (⟨[115, 105, 110, 116, 54, 52], 0⟩ : T_name_wire))], []⟩ (by kernel_rfl) (ro_mset (rk := (Rp.int .i64)) (rv := R_name_wire) (m := (mput (mput (mput (mput (mput ([] : (List (Int × T_name_wire))) 1 (⟨[105, 110, 116, 51, 50], 0⟩ : T_name_wire)) 2 (⟨[105, 110, 116, 54, 52], 0⟩ : T_name_wire)) 3 (⟨[117, 105, 110, 116, 51, 50], 0⟩ : T_name_wire)) 4 (⟨[117, 105, 110, 116, 54, 52], 0⟩ : T_name_wire)) 5 (⟨[115, 105, 110, 116, 51, 50], 0⟩ : T_name_wire))) (C := []) (C1 := []) (D := []) [1] 6 (⟨[115, 105, 110, 116, 54, 52], 0⟩ : T_name_wire) [] mapt100 rfl (.inr rfl) rfl rfl rfl rfl (asV_lf rfl rfl) (asV_rc rfl) (by kernel_rfl) rfl (ro_o 0 [kS [98, 111, 111, 108], kI 0] ⟨[(1, .om (Rp.int .i64) R_name_wire 12 [] (mput (mput (mput (mput (mput (mput ([] : (List (Int × T_name_wire))) 1 (⟨[105, 110, 116, 51, 50], 0⟩ : T_name_wire)) 2 (⟨[105, 110, 116, 54, 52], 0⟩ : T_name_wire)) 3 (⟨[117, 105, 110, 116, 51, 50], 0⟩ : T_name_wire)) 4 (⟨[117, 105, 110, 116, 54, 52], 0⟩ : T_name_wire)) 5 (⟨[115, 105, 110, 116, 51, 50], 0⟩ : T_name_wire)) 6 (⟨[115, 105, 110, 116, 54, 52], 0⟩ : T_name_wire))), (8, .rc R_name_wire [] (⟨[98, 111, 111, 108], 0⟩ : T_name_wire))], []⟩ rfl (lo_build (r := R_name_wire) [kS [98, 111, 111, 108], kI 0] [] (⟨[98, 111, 111, 108], 0⟩ : T_name_wire) rfl stt98 rfl rfl) rfl (by kernel_rfl) (ro_pk 0 ⟨[(1, .om (Rp.int .i64) R_name_wire 12 [] (mput (mput (mput (mput (mput (mput ([] : (List (Int × T_name_wire))) 1 (⟨[105, 110, 116, 51, 50], 0⟩ : T_name_wire)) 2 (⟨[105, 110, 116, 54, 52], 0⟩ : T_name_wire)) 3 (⟨[117, 105, 110, 116, 51, 50], 0⟩ : T_name_wire)) 4 (⟨[117, 105, 110, 116, 54, 52], 0⟩ : T_name_wire)) 5 (⟨[115, 105, 110, 116, 51, 50], 0⟩ : T_name_wire)) 6 (⟨[115, 105, 110, 116, 54, 52], 0⟩ : T_name_wire))), (8, .rc R_name_wire [] (⟨[98, 111, 111, 108], 0⟩ : T_name_wire))], []⟩ (by kernel_rfl) (ro_mset (rk := (Rp.int .i64)) (rv := R_name_wire) (m := (mput (mput (mput (mput (mput (mput ([] : (List (Int × T_name_wire))) 1 (⟨[105, 110, 116, 51, 50], 0⟩ : T_name_wire)) 2 (⟨[105, 110, 116, 54, 52], 0⟩ : T_name_wire)) 3 (⟨[117, 105, 110, 116, 51, 50], 0⟩ : T_name_wire)) 4 (⟨[117, 105, 110, 116, 54, 52], 0⟩ : T_name_wire)) 5 (⟨[115, 105, 110, 116, 51, 50], 0⟩ : T_name_wire)) 6 (⟨[115, 105, 110, 116, 54, 52], 0⟩ : T_name_wire))) (C := []) (C1 := []) (D := []) [1] 7 (⟨[98, 111, 111, 108], 0⟩ : T_name_wire) [] mapt100 rfl (.inr rfl) rfl rfl rfl rfl (asV_lf rfl rfl) (asV_rc rfl) (by kernel_rfl) rfl (ro_o 0 [kS [101, 110, 117, 109], kI 0] ⟨[(1, .om (Rp.int .i64) R_name_wire 12 [] (mput (mput (mput (mput (mput (mput (mput ([] : (List (Int × T_name_wire))) 1 (⟨[105, 110, 116, 51, 50], 0⟩ : T_name_wire)) 2 (⟨[105, 110, 116, 54, 52], 0⟩ : T_name_wire)) 3 (⟨[117, 105, 110, 116, 51, 50], 0⟩ : T_name_wire)) 4 (⟨[117, 105, 110, 116, 54, 52], 0⟩ : T_name_wire)) 5 (⟨[115, 105, 110, 116, 51, 50], 0⟩ : T_name_wire)) 6 (⟨[115, 105, 110, 116, 54, 52], 0⟩ : T_name_wire)) 7 (⟨[98, 111, 111, 108], 0⟩ : T_name_wire))), (9, .rc R_name_wire [] (⟨[101, 110, 117, 109], 0⟩ : T_name_wire))], []⟩ rfl (lo_build (r := R_name_wire) [kS [101, 110, 117, 109], kI 0] [] (⟨[101, 110, 117, 109], 0⟩ : T_name_wire) rfl stt98 rfl rfl) rfl (by kernel_rfl) (ro_pk 0 ⟨[(1, .om (Rp.int .i64) R_name_wire 12 [] (mput (mput (mput (mput (mput (mput (mput ([] : (List (Int × T_name_wire))) 1 (⟨[105, 110, 116, 51, 50], 0⟩ : T_name_wire)) 2 (⟨[105, 110, 116, 54, 52], 0⟩ : T_name_wire)) 3 (⟨[117, 105, 110, 116, 51, 50], 0⟩ : T_name_wire)) 4 (⟨[117, 105, 110, 116, 54, 52], 0⟩ : T_name_wire)) 5 (⟨[115, 105, 110, 116, 51, 50], 0⟩ : T_name_wire)) 6 (⟨[115, 105, 110, 116, 54, 52], 0⟩ : T_name_wire)) 7 (⟨[98, 111, 111, 108], 0⟩ : T_name_wire))), (9, .rc R_name_wire [] (⟨[101, 110, 117, 109], 0⟩ : T_name_wire))], []⟩ (by kernel_rfl) (ro_mset (rk := (Rp.int .i64)) (rv := R_name_wire) (m := (mput (mput (mput (mput (mput (mput (mput ([] : (List (Int × T_name_wire))) 1 (⟨[105, 110, 116, 51, 50], 0⟩ : T_name_wire)) 2 (⟨[105, 110, 116, 54, 52], 0⟩ : T_name_wire)) 3 (⟨[117, 105, 110, 116, 51, 50], 0⟩ : T_name_wire)) 4 (⟨[117, 105, 110, 116, 54, 52], 0⟩ : T_name_wire)) 5 (⟨[115, 105, 110, 116, 51, 50], 0⟩ : T_name_wire)) 6 (⟨[115, 105, 110, 116, 54, 52], 0⟩ : T_name_wire)) 7 (⟨[98, 111, 111, 108], 0⟩ : T_name_wire))) (C := []) (C1 := []) (D := []) [1] 8 (⟨[101, 110, 117, 109], 0⟩ : T_name_wire) [] mapt100 rfl (.inr rfl) rfl rfl rfl rfl (asV_lf rfl rfl) (asV_rc rfl) (by kernel_rfl) rfl (ro_o 0 [kS [102, 105, 120, 101, 100, 51, 50], kI 5] ⟨[(1, .om (Rp.int .i64) R_name_wire 12 [] (mput (mput (mput (mput (mput (mput (mput (mput ([] : (List (Int × T_name_wire))) 1 (⟨[105, 110, 116, 51, 50], 0⟩ : T_name_wire)) 2 (⟨[105, 110, 116, 54, 52], 0⟩ : T_name_wire)) 3 (⟨[117, 105, 110, 116, 51, 50], 0⟩ : T_name_wire)) 4 (⟨[117, 105, 110, 116, 54, 52], 0⟩ : T_name_wire)) 5 (⟨[115, 105, 110, 116, 51, 50], 0⟩ : T_name_wire)) 6 (⟨[115, 105, 110, 116, 54, 52], 0⟩ : T_name_wire)) 7 (⟨[98, 111, 111, 108], 0⟩ : T_name_wire)) 8 (⟨[101, 110, 117, 109], 0⟩ : T_name_wire))), (10, .rc R_name_wire [] (⟨[102, 105, 120, 101, 100, 51, 50], 5⟩ : T_name_wire))], []⟩ rfl (lo_build (r := R_name_wire) [kS [102, 105, 120, 101, 100, 51, 50], kI 5] [] (⟨[102, 105, 120, 101, 100, 51, 50], 5⟩ : T_name_wire) rfl stt98 rfl rfl) rfl (by kernel_rfl) (ro_pk 0 ⟨[(1, .om (Rp.int .i64) R_name_wire 12 [] (mput (mput (mput (mput (mput (mput (mput (mput ([] : (List (Int × T_name_wire))) 1 (⟨[105, 110, 116, 51, 50], 0⟩ : T_name_wire)) 2 (⟨[105, 110, 116, 54, 52], 0⟩ : T_name_wire)) 3 (⟨[117, 105, 110, 116, 51, 50], 0⟩ : T_name_wire)) 4 (⟨[117, 105, 110, 116, 54, 52], 0⟩ : T_name_wire)) 5 (⟨[115, 105, 110, 116, 51, 50], 0⟩ : T_name_wire)) 6 (⟨[115, 105, 110, 116, 54, 52], 0⟩ : T_name_wire)) 7 (⟨[98, 111, 111, 108], 0⟩ : T_name_wire)) 8 (⟨[101, 110, 117, 109], 0⟩ : T_name_wire))), (10, .rc R_name_wire [] (⟨[102, 105, 120, 101, 100, 51, 50], 5⟩ : T_name_wire))], []⟩ (by kernel_rfl) (ro_mset (rk := (Rp.int .i64)) (rv := R_name_wire) (m := (mput (mput (mput (mput (mput (mput (mput (mput ([] : (List (Int × T_name_wire))) 1 (⟨[105, 110, 116, 51, 50], 0⟩ : T_name_wire)) 2 (⟨[105, 110, 116, 54, 52], 0⟩ : T_name_wire)) 3 (⟨[117, 105, 110, 116, 51, 50], 0⟩ : T_name_wire)) 4 (⟨[117, 105, 110, 116, 54, 52], 0⟩ : T_name_wire)) 5 (⟨[115, 105, 110, 116, 51, 50], 0⟩ : T_name_wire)) 6 (⟨[115, 105, 110, 116, 54, 52], 0⟩ : T_name_wire)) 7 (⟨[98, 111, 111, 108], 0⟩ : T_name_wire)) 8 (⟨[101, 110, 117, 109], 0⟩ : T_name_wire))) (C := []) (C1 := []) (D := []) [1] 9 (⟨[102, 105, 120, 101, 100, 51, 50], 5⟩ : T_name_wire) [] mapt100 rfl (.inr rfl) rfl rfl rfl rfl (asV_lf rfl rfl) (asV_rc rfl) (by kernel_rfl) rfl (ro_o 0 [kS [115, 102, 105, 120, 101, 100, 51, 50], kI 5] ⟨[(1, .om (Rp.int .i64) R_name_wire 12 [] (mput (mput (mput (mput (mput (mput (mput (mput (mput ([] : (List (Int × T_name_wire))) 1 (⟨[105, 110, 116, 51, 50], 0⟩ : T_name_wire)) 2 (⟨[105, 110, 116, 54, 52], 0⟩ : T_name_wire)) 3 (⟨[117, 105, 110, 116, 51, 50], 0⟩ : T_name_wire)) 4 (⟨[117, 105, 110, 116, 54, 52], 0⟩ : T_name_wire)) 5 (⟨[115, 105, 110, 116, 51, 50], 0⟩ : T_name_wire)) 6 (⟨[115, 105, 110, 116, 54, 52], 0⟩ : T_name_wire)) 7 (⟨[98, 111, 111, 108], 0⟩ : T_name_wire)) 8 (⟨[101, 110, 117, 109], 0⟩ : T_name_wire)) 9 (⟨[102, 105, 120, 101, 100, 51, 50], 5⟩ : T_name_wire))), (11, .rc R_name_wire [] (⟨[115, 102, 105, 120, 101, 100, 51, 50], 5⟩ : T_name_wire))], []⟩ rfl (lo_build (r := R_name_wire) [kS [115, 102, 105, 120, 101, 100, 51, 50], kI 5] [] (⟨[115, 102, 105, 120, 101, 100, 51, 50], 5⟩ : T_name_wire) rfl stt98 rfl rfl) rfl (by kernel_rfl) (ro_pk 0 ⟨[(1, .om (Rp.int .i64) R_name_wire 12 [] (mput (mput (mput (mput (mput (mput (mput (mput (mput ([] : (List (Int × T_name_wire))) 1 (⟨[105, 110, 116, 51, 50], 0⟩ : T_name_wire)) 2 (⟨[105, 110, 116, 54, 52], 0⟩ : T_name_wire)) 3 (⟨[117, 105, 110, 116, 51, 50], 0⟩ : T_name_wire)) 4 (⟨[117, 105, 110, 116, 54, 52], 0⟩ : T_name_wire)) 5 (⟨[115, 105, 110, 116, 51, 50], 0⟩ : T_name_wire)) 6 (⟨[115, 105, 110, 116, 54, 52], 0⟩ : T_name_wire)) 7 (⟨[98, 111, 111, 108], 0⟩ : T_name_wire)) 8 (⟨[101, 110, 117, 109], 0⟩ : T_name_wire)) 9 (⟨[102, 105, 120, 101, 100, 51, 50], 5⟩ : T_name_wire))), (11, .rc R_name_wire [] (⟨[115, 102, 105, 120, 101, 100, 51, 50], 5⟩ : T_name_wire))], []⟩ (by kernel_rfl) (ro_mset (rk := (Rp.int .i64)) (rv := R_name_wire) (m := (mput (mput (mput (mput (mput (mput (mput (mput (mput ([] : (List (Int × T_name_wire))) 1 (⟨[105, 110, 116, 51, 50], 0⟩ : T_name_wire)) 2 (⟨[105, 110, 116, 54, 52], 0⟩ : T_name_wire)) 3 (⟨[117, 105, 110, 116, 51, 50], 0⟩ : T_name_wire)) 4 (⟨[117, 105, 110, 116, 54, 52], 0⟩ : T_name_wire)) 5 (⟨[115, 105, 110, 116, 51, 50], 0⟩ : T_name_wire)) 6 (⟨[115, 105, 110, 116, 54, 52], 0⟩ : T_name_wire)) 7 (⟨[98, 111, 111, 108], 0⟩ : T_name_wire)) 8 (⟨[101, 110, 117, 109], 0⟩ : T_name_wire)) 9 (⟨[102, 105, 120, 101, 100, 51, 50], 5⟩ : T_name_wire))) (C := []) (C1 := []) (D := []) [1] 10 (⟨[115, 102, 105, 120, 101, 100, 51, 50], 5⟩ : T_name_wire) [] mapt100 rfl (.inr rfl) rfl rfl rfl rfl (asV_lf rfl rfl) (asV_rc rfl) (by kernel_rfl) rfl (ro_o 0 [kS [102, 108, 111, 97, 116], kI 5] ⟨[(1, .om (Rp.int .i64) R_name_wire 12 [] (mput (mput (mput (mput (mput (mput (mput (mput (mput (mput ([] : (List (Int × T_name_wire))) 1 (⟨[105, 110, 116, 51, 50], 0⟩ : T_name_wire)) 2 (⟨[105, 110, 116, 54, 52], 0⟩ : T_name_wire)) 3 (⟨[117, 105, 110, 116, 51, 50], 0⟩ : T_name_wire)) 4 (⟨[117, 105, 110, 116, 54, 52], 0⟩ : T_name_wire)) 5 (⟨[115, 105, 110, 116, 51, 50], 0⟩ : T_name_wire)) 6 (⟨[115, 105, 110, 116, 54, 52], 0⟩ : T_name_wire)) 7 (⟨[98, 111, 111, 108], 0⟩ : T_name_wire)) 8 (⟨[101, 110, 117, 109], 0⟩ : T_name_wire)) 9 (⟨[102, 105, 120, 101, 100, 51, 50], 5⟩ : T_name_wire)) 10 (⟨[115, 102, 105, 120, 101, 100, 51, 50], 5⟩ : T_name_wire))), (12, .rc R_name_wire [] (⟨[102, 108, 111, 97, 116], 5⟩ : T_name_wire))], []⟩ rfl (lo_build (r := R_name_wire) [kS [102, 108, 111, 97, 116], kI 5] [] (⟨[102, 108, 111, 97, 116], 5⟩ : T_name_wire) rfl stt98 rfl rfl) rfl (by kernel_rfl) (ro_pk 0 ⟨[(1, .om (Rp.int .i64) R_name_wire 12 [] (mput (mput (mput (mput (mput (mput (mput (mput (mput (mput ([] : (List (Int × T_name_wire))) 1 (⟨[105, 110, 116, 51, 50], 0⟩ : T_name_wire)) 2 (⟨[105, 110, 116, 54, 52], 0⟩ : T_name_wire)) 3 (⟨[117, 105, 110, 116, 51, 50], 0⟩ : T_name_wire)) 4 (⟨[117, 105, 110, 116, 54, 52], 0⟩ : T_name_wire)) 5 (⟨[115, 105, 110, 116, 51, 50], 0⟩ : T_name_wire)) 6 (⟨[115, 105, 110, 116, 54, 52], 0⟩ : T_name_wire)) 7 (⟨[98, 111, 111, 108], 0⟩ : T_name_wire)) 8 (⟨[101, 110, 117, 109], 0⟩ : T_name_wire)) 9 (⟨[102, 105, 120, 101, 100, 51, 50], 5⟩ : T_name_wire)) 10 (⟨[115, 102, 105, 120, 101, 100, 51, 50], 5⟩ : T_name_wire))), (12, .rc R_name_wire [] (⟨[102, 108, 111, 97, 116], 5⟩ : T_name_wire))], []⟩ (by kernel_rfl) (ro_mset (rk := (Rp.int .i64)) (rv := R_name_wire) (m := (mput (mput (mput (mput (mput (mput (mput (mput (mput (mput ([] : (List (Int × T_name_wire))) 1 (⟨[105, 110, 116, 51, 50], 0⟩ : T_name_wire)) 2 (⟨[105, 110, 116, 54, 52], 0⟩ : T_name_wire)) 3 (⟨[117, 105, 110, 116, 51, 50], 0⟩ : T_name_wire)) 4 (⟨[117, 105, 110, 116, 54, 52], 0⟩ : T_name_wire)) 5 (⟨[115, 105, 110, 116, 51, 50], 0⟩ : T_name_wire)) 6 (⟨[115, 105, 110, 116, 54, 52], 0⟩ : T_name_wire)) 7 (⟨[98, 111, 111, 108], 0⟩ : T_name_wire)) 8 (⟨[101, 110, 117, 109], 0⟩ : T_name_wire)) 9 (⟨[102, 105, 120, 101, 100, 51, 50], 5⟩ : T_name_wire)) 10 (⟨[115, 102, 105, 120, 101, 100, 51, 50], 5⟩ : T_name_wire))) (C := []) (C1 := []) (D := []) [1] 11 (⟨[102, 108, 111, 97, 116], 5⟩ : T_name_wire) [] mapt100 rfl (.inr rfl) rfl rfl rfl rfl (asV_lf rfl rfl) (asV_rc rfl) (by kernel_rfl) rfl (ro_o 0 [kS [102, 105, 120, 101, 100, 54, 52], kI 1] ⟨[(1, .om (Rp.int .i64) R_name_wire 12 [] (mput (mput (mput (mput (mput (mput (mput (mput (mput (mput (mput ([] : (List (Int × T_name_wire))) 1 (⟨[105, 110, 116, 51, 50], 0⟩ : T_name_wire)) 2 (⟨[105, 110, 116, 54, 52], 0⟩ : T_name_wire)) 3 (⟨[117, 105, 110, 116, 51, 50], 0⟩ : T_name_wire)) 4 (⟨[117, 105, 110, 116, 54, 52], 0⟩ : T_name_wire)) 5 (⟨[115, 105, 110, 116, 51, 50], 0⟩ : T_name_wire)) 6 (⟨[115, 105, 110, 116, 54, 52], 0⟩ : T_name_wire)) 7 (⟨[98, 111, 111, 108], 0⟩ : T_name_wire)) 8 (⟨[101, 110, 117, 109], 0⟩ : T_name_wire)) 9 (⟨[102, 105, 120, 101, 100, 51, 50], 5⟩ : T_name_wire)) 10 (⟨[115, 102, 105, 120, 101, 100, 51, 50], 5⟩ : T_name_wire)) 11 (⟨[102, 108, 111, 97, 116], 5⟩ : T_name_wire))), (13, .rc R_name_wire [] (⟨[102, 105, 120, 101, 100, 54, 52], 1⟩ : T_name_wire))], []⟩ rfl (lo_build (r := R_name_wire) [kS [102, 105, 120, 101, 100, 54, 52], kI 1] [] (⟨[102, 105, 120, 101, 100, 54, 52], 1⟩ : T_name_wire) rfl stt98 rfl rfl) rfl (by kernel_rfl) (ro_pk 0 ⟨[(1, .om (Rp.int .i64) R_name_wire 12 [] (mput (mput (mput (mput (mput (mput (mput (mput (mput (mput (mput ([] : (List (Int × T_name_wire))) 1 (⟨[105, 110, 116, 51, 50], 0⟩ : T_name_wire)) 2 (⟨[105, 110, 116, 54, 52], 0⟩ : T_name_wire)) 3 (⟨[117, 105, 110, 116, 51, 50], 0⟩ : T_name_wire)) 4 (⟨[117, 105, 110, 116, 54, 52], 0⟩ : T_name_wire)) 5 (⟨[115, 105, 110, 116, 51, 50], 0⟩ : T_name_wire)) 6 (⟨[115, 105, 110, 116, 54, 52], 0⟩ : T_name_wire)) 7 (⟨[98, 111, 111, 108], 0⟩ : T_name_wire)) 8 (⟨[101, 110, 117, 109], 0⟩ : T_name_wire)) 9 (⟨[102, 105, 120, 101, 100, 51, 50], 5⟩ : T_name_wire)) 10 (⟨[115, 102, 105, 120, 101, 100, 51, 50], 5⟩ : T_name_wire)) 11 (⟨[102, 108, 111, 97, 116], 5⟩ : T_name_wire))), (13, .rc R_name_wire [] (⟨[102, 105, 120, 101, 100, 54, 52], 1⟩ : T_name_wire))], []⟩ (by kernel_rfl) (ro_mset (rk := (Rp.int .i64)) (rv := R_name_wire) (m := (mput (mput (mput (mput (mput (mput (mput (mput (mput (mput (mput ([] : (List (Int × T_name_wire))) 1 (⟨[105, 110, 116, 51, 50], 0⟩ : T_name_wire)) 2 (⟨[105, 110, 116, 54, 52], 0⟩ : T_name_wire)) 3 (⟨[117, 105, 110, 116, 51, 50], 0⟩ : T_name_wire)) 4 (⟨[117, 105, 110, 116, 54, 52], 0⟩ : T_name_wire)) 5 (⟨[115, 105, 110, 116, 51, 50], 0⟩ : T_name_wire)) 6 (⟨[115, 105, 110, 116, 54, 52], 0⟩ : T_name_wire)) 7 (⟨[98, 111, 111, 108], 0⟩ : T_name_wire)) 8 (⟨[101, 110, 117, 109], 0⟩ : T_name_wire)) 9 (⟨[102, 105, 120, 101, 100, 51, 50], 5⟩ : T_name_wire)) 10 (⟨[115, 102, 105, 120, 101, 100, 51, 50], 5⟩ : T_name_wire)) 11 (⟨[102, 108, 111, 97, 116], 5⟩ : T_name_wire))) (C := []) (C1 := []) (D := []) [1] 12 (⟨[102, 105, 120, 101, 100, 54, 52], 1⟩ : T_name_wire) [] mapt100 rfl (.inr rfl) rfl rfl rfl rfl (asV_lf rfl rfl) (asV_rc rfl) (by kernel_rfl) rfl (ro_o 0 [kS [115, 102, 105, 120, 101, 100, 54, 52], kI 1] ⟨[(1, .om (Rp.int .i64) R_name_wire 12 [] (mput (mput (mput (mput (mput (mput (mput (mput (mput (mput (mput (mput ([] : (List (Int × T_name_wire))) 1 (⟨[105, 110, 116, 51, 50], 0⟩ : T_name_wire)) 2 (⟨[105, 110, 116, 54, 52], 0⟩ : T_name_wire)) 3 (⟨[117, 105, 110, 116, 51, 50], 0⟩ : T_name_wire)) 4 (⟨[117, 105, 110, 116, 54, 52], 0⟩ : T_name_wire)) 5 (⟨[115, 105, 110, 116, 51, 50], 0⟩ : T_name_wire)) 6 (⟨[115, 105, 110, 116, 54, 52], 0⟩ : T_name_wire)) 7 (⟨[98, 111, 111, 108], 0⟩ : T_name_wire)) 8 (⟨[101, 110, 117, 109], 0⟩ : T_name_wire)) 9 (⟨[102, 105, 120, 101, 100, 51, 50], 5⟩ : T_name_wire)) 10 (⟨[115, 102, 105, 120, 101, 100, 51, 50], 5⟩ : T_name_wire)) 11 (⟨[102, 108, 111, 97, 116], 5⟩ : T_name_wire)) 12 (⟨[102, 105, 120, 101, 100, 54, 52], 1⟩ : T_name_wire))), (14, .rc R_name_wire [] (⟨[115, 102, 105, 120, 101, 100, 54, 52], 1⟩ : T_name_wire))], []⟩ rfl (lo_build (r := R_name_wire) [kS [115, 102, 105, 120, 101, 100, 54, 52], kI 1] [] (⟨[115, 102, 105, 120, 101, 100, 54, 52], 1⟩ : T_name_wire) rfl stt98 rfl rfl) rfl (by kernel_rfl) (ro_pk 0 ⟨[(1, .om (Rp.int .i64) R_name_wire 12 [] (mput (mput (mput (mput (mput (mput (mput (mput (mput (mput (mput (mput ([] : (List (Int × T_name_wire))) 1 (⟨[105, 110, 116, 51, 50], 0⟩ : T_name_wire)) 2 (⟨[105, 110, 116, 54, 52], 0⟩ : T_name_wire)) 3 (⟨[117, 105, 110, 116, 51, 50], 0⟩ : T_name_wire)) 4 (⟨[117, 105, 110, 116, 54, 52], 0⟩ : T_name_wire)) 5 (⟨[115, 105, 110, 116, 51, 50], 0⟩ : T_name_wire)) 6 (⟨[115, 105, 110, 116, 54, 52], 0⟩ : T_name_wire)) 7 (⟨[98, 111, 111, 108], 0⟩ : T_name_wire)) 8 (⟨[101, 110, 117, 109], 0⟩ : T_name_wire)) 9 (⟨[102, 105, 120, 101, 100, 51, 50], 5⟩ : T_name_wire)) 10 (⟨[115, 102, 105, 120, 101, 100, 51, 50], 5⟩ : T_name_wire)) 11 (⟨[102, 108, 111, 97, 116], 5⟩ : T_name_wire)) 12 (⟨[102, 105, 120, 101, 100, 54, 52], 1⟩ : T_name_wire))), (14, .rc R_name_wire [] (⟨[115, 102, 105, 120, 101, 100, 54, 52], 1⟩ : T_name_wire))], []⟩ (by kernel_rfl) (ro_mset (rk := (Rp.int .i64)) (rv := R_name_wire) (m := (mput (mput (mput (mput (mput (mput (mput (mput (mput (mput (mput (mput ([] : (List (Int × T_name_wire))) 1 (⟨[105, 110, 116, 51, 50], 0⟩ : T_name_wire)) 2 (⟨[105, 110, 116, 54, 52], 0⟩ : T_name_wire)) 3 (⟨[117, 105, 110, 116, 51, 50], 0⟩ : T_name_wire)) 4 (⟨[117, 105, 110, 116, 54, 52], 0⟩ : T_name_wire)) 5 (⟨[115, 105, 110, 116, 51, 50], 0⟩ : T_name_wire)) 6 (⟨[115, 105, 110, 116, 54, 52], 0⟩ : T_name_wire)) 7 (⟨[98, 111, 111, 108], 0⟩ : T_name_wire)) 8 (⟨[101, 110, 117, 109], 0⟩ : T_name_wire)) 9 (⟨[102, 105, 120, 101, 100, 51, 50], 5⟩ : T_name_wire)) 10 (⟨[115, 102, 105, 120, 101, 100, 51, 50], 5⟩ : T_name_wire)) 11 (⟨[102, 108, 111, 97, 116], 5⟩ : T_name_wire)) 12 (⟨[102, 105, 120, 101, 100, 54, 52], 1⟩ : T_name_wire))) (C := []) (C1 := []) (D := []) [1] 13 (⟨[115, 102, 105, 120, 101, 100, 54, 52], 1⟩ : T_name_wire) [] mapt100 rfl (.inr rfl) rfl rfl rfl rfl (asV_lf rfl rfl) (asV_rc rfl) (by kernel_rfl) rfl (ro_o 0 [kS [100, 111, 117, 98, 108, 101], kI 1] ⟨[(1, .om (Rp.int .i64) R_name_wire 12 [] (mput (mput (mput (mput (mput (mput (mput (mput (mput (mput (mput (mput (mput ([] : (List (Int × T_name_wire))) 1 (⟨[105, 110, 116, 51, 50], 0⟩ : T_name_wire)) 2 (⟨[105, 110, 116, 54, 52], 0⟩ : T_name_wire)) 3 (⟨[117, 105, 110, 116, 51, 50], 0⟩ : T_name_wire)) 4 (⟨[117, 105, 110, 116, 54, 52], 0⟩ : T_name_wire)) 5 (⟨[115, 105, 110, 116, 51, 50], 0⟩ : T_name_wire)) 6 (⟨[115, 105, 110, 116, 54, 52], 0⟩ : T_name_wire)) 7 (⟨[98, 111, 111, 108], 0⟩ : T_name_wire)) 8 (⟨[101, 110, 117, 109], 0⟩ : T_name_wire)) 9 (⟨[102, 105, 120, 101, 100, 51, 50], 5⟩ : T_name_wire)) 10 (⟨[115, 102, 105, 120, 101, 100, 51, 50], 5⟩ : T_name_wire)) 11 (⟨[102, 108, 111, 97, 116], 5⟩ : T_name_wire)) 12 (⟨[102, 105, 120, 101, 100, 54, 52], 1⟩ : T_name_wire)) 13 (⟨[115, 102, 105, 120, 101, 100, 54, 52], 1⟩ : T_name_wire))), (15, .rc R_name_wire [] (⟨[100, 111, 117, 98, 108, 101], 1⟩ : T_name_wire))], []⟩ rfl (lo_build (r := R_name_wire) [kS [100, 111, 117, 98, 108, 101], kI 1] [] (⟨[100, 111, 117, 98, 108, 101], 1⟩ : T_name_wire) rfl stt98 rfl rfl) rfl (by kernel_rfl) (ro_pk 0 ⟨[(1, .om (Rp.int .i64) R_name_wire 12 [] (mput (mput (mput (mput (mput (mput (mput (mput (mput (mput (mput (mput (mput ([] : (List (Int × T_name_wire))) 1 (⟨[105, 110, 116, 51, 50], 0⟩ : T_name_wire)) 2 (⟨[105, 110, 116, 54, 52], 0⟩ : T_name_wire)) 3 (⟨[117, 105, 110, 116, 51, 50], 0⟩ : T_name_wire)) 4 (⟨[117, 105, 110, 116, 54, 52], 0⟩ : T_name_wire)) 5 (⟨[115, 105, 110, 116, 51, 50], 0⟩ : T_name_wire)) 6 (⟨[115, 105, 110, 116, 54, 52], 0⟩ : T_name_wire)) 7 (⟨[98, 111, 111, 108], 0⟩ : T_name_wire)) 8 (⟨[101, 110, 117, 109], 0⟩ : T_name_wire)) 9 (⟨[102, 105, 120, 101, 100, 51, 50], 5⟩ : T_name_wire)) 10 (⟨[115, 102, 105, 120, 101, 100, 51, 50], 5⟩ : T_name_wire)) 11 (⟨[102, 108, 111, 97, 116], 5⟩ : T_name_wire)) 12 (⟨[102, 105, 120, 101, 100, 54, 52], 1⟩ : T_name_wire)) 13 (⟨[115, 102, 105, 120, 101, 100, 54, 52], 1⟩ : T_name_wire))), (15, .rc R_name_wire [] (⟨[100, 111, 117, 98, 108, 101], 1⟩ : T_name_wire))], []⟩ (by kernel_rfl) (ro_mset (rk := (Rp.int .i64)) (rv := R_name_wire) (m := (mput (mput (mput (mput (mput (mput (mput (mput (mput (mput (mput (mput (mput ([] : (List (Int × T_name_wire))) 1 (⟨[105, 110, 116, 51, 50], 0⟩ : T_name_wire)) 2 (⟨[105, 110, 116, 54, 52], 0⟩ : T_name_wire)) 3 (⟨[117, 105, 110, 116, 51, 50], 0⟩ : T_name_wire)) 4 (⟨[117, 105, 110, 116, 54, 52], 0⟩ : T_name_wire)) 5 (⟨[115, 105, 110, 116, 51, 50], 0⟩ : T_name_wire)) 6 (⟨[115, 105, 110, 116, 54, 52], 0⟩ : T_name_wire)) 7 (⟨[98, 111, 111, 108], 0⟩ : T_name_wire)) 8 (⟨[101, 110, 117, 109], 0⟩ : T_name_wire)) 9 (⟨[102, 105, 120, 101, 100, 51, 50], 5⟩ : T_name_wire)) 10 (⟨[115, 102, 105, 120, 101, 100, 51, 50], 5⟩ : T_name_wire)) 11 (⟨[102, 108, 111, 97, 116], 5⟩ : T_name_wire)) 12 (⟨[102, 105, 120, 101, 100, 54, 52], 1⟩ : T_name_wire)) 13 (⟨[115, 102, 105, 120, 101, 100, 54, 52], 1⟩ : T_name_wire))) (C := []) (C1 := []) (D := []) [1] 14 (⟨[100, 111, 117, 98, 108, 101], 1⟩ : T_name_wire) [] mapt100 rfl (.inr rfl) rfl rfl rfl rfl (asV_lf rfl rfl) (asV_rc rfl) (by kernel_rfl) rfl (ro_o 0 [kS [115, 116, 114, 105, 110, 103], kI 2] ⟨[(1, .om (Rp.int .i64) R_name_wire 12 [] (mput (mput (mput (mput (mput (mput (mput (mput (mput (mput (mput (mput (mput (mput ([] : (List (Int × T_name_wire))) 1 (⟨[105, 110, 116, 51, 50], 0⟩ : T_name_wire)) 2 (⟨[105, 110, 116, 54, 52], 0⟩ : T_name_wire)) 3 (⟨[117, 105, 110, 116, 51, 50], 0⟩ : T_name_wire)) 4 (⟨[117, 105, 110, 116, 54, 52], 0⟩ : T_name_wire)) 5 (⟨[115, 105, 110, 116, 51, 50], 0⟩ : T_name_wire)) 6 (⟨[115, 105, 110, 116, 54, 52], 0⟩ : T_name_wire)) 7 (⟨[98, 111, 111, 108], 0⟩ : T_name_wire)) 8 (⟨[101, 110, 117, 109], 0⟩ : T_name_wire)) 9 (⟨[102, 105, 120, 101, 100, 51, 50], 5⟩ : T_name_wire)) 10 (⟨[115, 102, 105, 120, 101, 100, 51, 50], 5⟩ : T_name_wire)) 11 (⟨[102, 108, 111, 97, 116], 5⟩ : T_name_wire)) 12 (⟨[102, 105, 120, 101, 100, 54, 52], 1⟩ : T_name_wire)) 13 (⟨[115, 102, 105, 120, 101, 100, 54, 52], 1⟩ : T_name_wire)) 14 (⟨[100, 111, 117, 98, 108, 101], 1⟩ : T_name_wire))), (16, .rc R_name_wire [] (⟨[115, 116, 114, 105, 110, 103], 2⟩ : T_name_wire))], []⟩ rfl (lo_build (r := R_name_wire) [kS [115, 116, 114, 105, 110, 103], kI 2] [] (⟨[115, 116, 114, 105, 110, 103], 2⟩ : T_name_wire) rfl stt98 rfl rfl) rfl (by kernel_rfl) (ro_pk 0 ⟨[(1, .om (Rp.int .i64) R_name_wire 12 [] (mput (mput (mput (mput (mput (mput (mput (mput (mput (mput (mput (mput (mput (mput ([] : (List (Int × T_name_wire))) 1 (⟨[105, 110, 116, 51, 50], 0⟩ : T_name_wire)) 2 (⟨[105, 110, 116, 54, 52], 0⟩ : T_name_wire)) 3 (⟨[117, 105, 110, 116, 51, 50], 0⟩ : T_name_wire)) 4 (⟨[117, 105, 110, 116, 54, 52], 0⟩ : T_name_wire)) 5 (⟨[115, 105, 110, 116, 51, 50], 0⟩ : T_name_wire)) 6 (⟨[115, 105, 110, 116, 54, 52], 0⟩ : T_name_wire)) 7 (⟨[98, 111, 111, 108], 0⟩ : T_name_wire)) 8 (⟨[101, 110, 117, 109], 0⟩ : T_name_wire)) 9 (⟨[102, 105, 120, 101, 100, 51, 50], 5⟩ : T_name_wire)) 10 (⟨[115, 102, 105, 120, 101, 100, 51, 50], 5⟩ : T_name_wire)) 11 (⟨[102, 108, 111, 97, 116], 5⟩ : T_name_wire)) 12 (⟨[102, 105, 120, 101, 100, 54, 52], 1⟩ : T_name_wire)) 13 (⟨[115, 102, 105, 120, 101, 100, 54, 52], 1⟩ : T_name_wire)) 14 (⟨[100, 111, 117, 98, 108, 101], 1⟩ : T_name_wire))), (16, .rc R_name_wire [] (⟨[115, 116, 114, 105, 110, 103], 2⟩ : T_name_wire))], []⟩ (by kernel_rfl) (ro_mset (rk := (Rp.int .i64)) (rv := R_name_wire) (m := (mput (mput (mput (mput (mput (mput (mput (mput (mput (mput (mput (mput (mput (mput ([] : (List (Int × T_name_wire))) 1 (⟨[105, 110, 116, 51, 50], 0⟩ : T_name_wire)) 2 (⟨[105, 110, 116, 54, 52], 0⟩ : T_name_wire)) 3 (⟨[117, 105, 110, 116, 51, 50], 0⟩ : T_name_wire)) 4 (⟨[117, 105, 110, 116, 54, 52], 0⟩ : T_name_wire)) 5 (⟨[115, 105, 110, 116, 51, 50], 0⟩ : T_name_wire)) 6 (⟨[115, 105, 110, 116, 54, 52], 0⟩ : T_name_wire)) 7 (⟨[98, 111, 111, 108], 0⟩ : T_name_wire)) 8 (⟨[101, 110, 117, 109], 0⟩ : T_name_wire)) 9 (⟨[102, 105, 120, 101, 100, 51, 50], 5⟩ : T_name_wire)) 10 (⟨[115, 102, 105, 120, 101, 100, 51, 50], 5⟩ : T_name_wire)) 11 (⟨[102, 108, 111, 97, 116], 5⟩ : T_name_wire)) 12 (⟨[102, 105, 120, 101, 100, 54, 52], 1⟩ : T_name_wire)) 13 (⟨[115, 102, 105, 120, 101, 100, 54, 52], 1⟩ : T_name_wire)) 14 (⟨[100, 111, 117, 98, 108, 101], 1⟩ : T_name_wire))) (C := []) (C1 := []) (D := []) [1] 15 (⟨[115, 116, 114, 105, 110, 103], 2⟩ : T_name_wire) [] mapt100 rfl (.inr rfl) rfl rfl rfl rfl (asV_lf rfl rfl) (asV_rc rfl) (by kernel_rfl) rfl (ro_o 0 [kS [98, 121, 116, 101, 115], kI 2] ⟨[(1, .om (Rp.int .i64) R_name_wire 12 [] (mput (mput (mput (mput (mput (mput (mput (mput (mput (mput (mput (mput (mput (mput (mput ([] : (List (Int × T_name_wire))) 1 (⟨[105, 110, 116, 51, 50], 0⟩ : T_name_wire)) 2 (⟨[105, 110, 116, 54, 52], 0⟩ : T_name_wire)) 3 (⟨[117, 105, 110, 116, 51, 50], 0⟩ : T_name_wire)) 4 (⟨[117, 105, 110, 116, 54, 52], 0⟩ : T_name_wire)) 5 (⟨[115, 105, 110, 116, 51, 50], 0⟩ : T_name_wire)) 6 (⟨[115, 105, 110, 116, 54, 52], 0⟩ : T_name_wire)) 7 (⟨[98, 111, 111, 108], 0⟩ : T_name_wire)) 8 (⟨[101, 110, 117, 109], 0⟩ : T_name_wire)) 9 (⟨[102, 105, 120, 101, 100, 51, 50], 5⟩ : T_name_wire)) 10 (⟨[115, 102, 105, 120, 101, 100, 51, 50], 5⟩ : T_name_wire)) 11 (⟨[102, 108, 111, 97, 116], 5⟩ : T_name_wire)) 12 (⟨[102, 105, 120, 101, 100, 54, 52], 1⟩ : T_name_wire)) 13 (⟨[115, 102, 105, 120, 101, 100, 54, 52], 1⟩ : T_name_wire)) 14 (⟨[100, 111, 117, 98, 108, 101], 1⟩ : T_name_wire)) 15 (⟨[115, 116, 114, 105, 110, 103], 2⟩ : T_name_wire))), (17, .rc R_name_wire [] (⟨[98, 121, 116, 101, 115], 2⟩ : T_name_wire))], []⟩ rfl (lo_build (r := R_name_wire) [kS [98, 121, 116, 101, 115], kI 2] [] (⟨[98, 121, 116, 101, 115], 2⟩ : T_name_wire) rfl stt98 rfl rfl) rfl (by kernel_rfl) (ro_pk 0 ⟨[(1, .om (Rp.int .i64) R_name_wire 12 [] (mput (mput (mput (mput (mput (mput (mput (mput (mput (mput (mput (mput (mput (mput (mput ([] : (List (Int × T_name_wire))) 1 (⟨[105, 110, 116, 51, 50], 0⟩ : T_name_wire)) 2 (⟨[105, 110, 116, 54, 52], 0⟩ : T_name_wire)) 3 (⟨[117, 105, 110, 116, 51, 50], 0⟩ : T_name_wire)) 4 (⟨[117, 105, 110, 116, 54, 52], 0⟩ : T_name_wire)) 5 (⟨[115, 105, 110, 116, 51, 50], 0⟩ : T_name_wire)) 6 (⟨[115, 105, 110, 116, 54, 52], 0⟩ : T_name_wire)) 7 (⟨[98, 111, 111, 108], 0⟩ : T_name_wire)) 8 (⟨[101, 110, 117, 109], 0⟩ : T_name_wire)) 9 (⟨[102, 105, 120, 101, 100, 51, 50], 5⟩ : T_name_wire)) 10 (⟨[115, 102, 105, 120, 101, 100, 51, 50], 5⟩ : T_name_wire)) 11 (⟨[102, 108, 111, 97, 116], 5⟩ : T_name_wire)) 12 (⟨[102, 105, 120, 101, 100, 54, 52], 1⟩ : T_name_wire)) 13 (⟨[115, 102, 105, 120, 101, 100, 54, 52], 1⟩ : T_name_wire)) 14 (⟨[100, 111, 117, 98, 108, 101], 1⟩ : T_name_wire)) 15 (⟨[115, 116, 114, 105, 110, 103], 2⟩ : T_name_wire))), (17, .rc R_name_wire [] (⟨[98, 121, 116, 101, 115], 2⟩ : T_name_wire))], []⟩ (by kernel_rfl) (ro_mset (rk := (Rp.int .i64)) (rv := R_name_wire) (m := (mput (mput (mput (mput (mput (mput (mput (mput (mput (mput (mput (mput (mput (mput (mput ([] : (List (Int × T_name_wire))) 1 (⟨[105, 110, 116, 51, 50], 0⟩ : T_name_wire)) 2 (⟨[105, 110, 116, 54, 52], 0⟩ : T_name_wire)) 3 (⟨[117, 105, 110, 116, 51, 50], 0⟩ : T_name_wire)) 4 (⟨[117, 105, 110, 116, 54, 52], 0⟩ : T_name_wire)) 5 (⟨[115, 105, 110, 116, 51, 50], 0⟩ : T_name_wire)) 6 (⟨[115, 105, 110, 116, 54, 52], 0⟩ : T_name_wire)) 7 (⟨[98, 111, 111, 108], 0⟩ : T_name_wire)) 8 (⟨[101, 110, 117, 109], 0⟩ : T_name_wire)) 9 (⟨[102, 105, 120, 101, 100, 51, 50], 5⟩ : T_name_wire)) 10 (⟨[115, 102, 105, 120, 101, 100, 51, 50], 5⟩ : T_name_wire)) 11 (⟨[102, 108, 111, 97, 116], 5⟩ : T_name_wire)) 12 (⟨[102, 105, 120, 101, 100, 54, 52], 1⟩ : T_name_wire)) 13 (⟨[115, 102, 105, 120, 101, 100, 54, 52], 1⟩ : T_name_wire)) 14 (⟨[100, 111, 117, 98, 108, 101], 1⟩ : T_name_wire)) 15 (⟨[115, 116, 114, 105, 110, 103], 2⟩ : T_name_wire))) (C := []) (C1 := []) (D := []) [1] 16 (⟨[98, 121, 116, 101, 115], 2⟩ : T_name_wire) [] mapt100 rfl (.inr rfl) rfl rfl rfl rfl (asV_lf rfl rfl) (asV_rc rfl) (by kernel_rfl) rfl (ro_o 0 [kS [109, 101, 115, 115, 97, 103, 101], kI 2] ⟨[(1, .om (Rp.int .i64) R_name_wire 12 [] (mput (mput (mput (mput (mput (mput (mput (mput (mput (mput (mput (mput (mput (mput (mput (mput ([] : (List (Int × T_name_wire))) 1 (⟨[105, 110, 116, 51, 50], 0⟩ : T_name_wire)) 2 (⟨[105, 110, 116, 54, 52], 0⟩ : T_name_wire)) 3 (⟨[117, 105, 110, 116, 51, 50], 0⟩ : T_name_wire)) 4 (⟨[117, 105, 110, 116, 54, 52], 0⟩ : T_name_wire)) 5 (⟨[115, 105, 110, 116, 51, 50], 0⟩ : T_name_wire)) 6 (⟨[115, 105, 110, 116, 54, 52], 0⟩ : T_name_wire)) 7 (⟨[98, 111, 111, 108], 0⟩ : T_name_wire)) 8 (⟨[101, 110, 117, 109], 0⟩ : T_name_wire)) 9 (⟨[102, 105, 120, 101, 100, 51, 50], 5⟩ : T_name_wire)) 10 (⟨[115, 102, 105, 120, 101, 100, 51, 50], 5⟩ : T_name_wire)) 11 (⟨[102, 108, 111, 97, 116], 5⟩ : T_name_wire)) 12 (⟨[102, 105, 120, 101, 100, 54, 52], 1⟩ : T_name_wire)) 13 (⟨[115, 102, 105, 120, 101, 100, 54, 52], 1⟩ : T_name_wire)) 14 (⟨[100, 111, 117, 98, 108, 101], 1⟩ : T_name_wire)) 15 (⟨[115, 116, 114, 105, 110, 103], 2⟩ : T_name_wire)) 16 (⟨[98, 121, 116, 101, 115], 2⟩ : T_name_wire))), (18, .rc R_name_wire [] (⟨[109, 101, 115, 115, 97, 103, 101], 2⟩ : T_name_wire))], []⟩ rfl (lo_build (r := R_name_wire) [kS [109, 101, 115, 115, 97, 103, 101], kI 2] [] (⟨[109, 101, 115, 115, 97, 103, 101], 2⟩ : T_name_wire) rfl stt98 rfl rfl) rfl (by kernel_rfl) (ro_pk 0 ⟨[(1, .om (Rp.int .i64) R_name_wire 12 [] (mput (mput (mput (mput (mput (mput (mput (mput (mput (mput (mput (mput (mput (mput (mput (mput ([] : (List (Int × T_name_wire))) 1 (⟨[105, 110, 116, 51, 50], 0⟩ : T_name_wire)) 2 (⟨[105, 110, 116, 54, 52], 0⟩ : T_name_wire)) 3 (⟨[117, 105, 110, 116, 51, 50], 0⟩ : T_name_wire)) 4 (⟨[117, 105, 110, 116, 54, 52], 0⟩ : T_name_wire)) 5 (⟨[115, 105, 110, 116, 51, 50], 0⟩ : T_name_wire)) 6 (⟨[115, 105, 110, 116, 54, 52], 0⟩ : T_name_wire)) 7 (⟨[98, 111, 111, 108], 0⟩ : T_name_wire)) 8 (⟨[101, 110, 117, 109], 0⟩ : T_name_wire)) 9 (⟨[102, 105, 120, 101, 100, 51, 50], 5⟩ : T_name_wire)) 10 (⟨[115, 102, 105, 120, 101, 100, 51, 50], 5⟩ : T_name_wire)) 11 (⟨[102, 108, 111, 97, 116], 5⟩ : T_name_wire)) 12 (⟨[102, 105, 120, 101, 100, 54, 52], 1⟩ : T_name_wire)) 13 (⟨[115, 102, 105, 120, 101, 100, 54, 52], 1⟩ : T_name_wire)) 14 (⟨[100, 111, 117, 98, 108, 101], 1⟩ : T_name_wire)) 15 (⟨[115, 116, 114, 105, 110, 103], 2⟩ : T_name_wire)) 16 (⟨[98, 121, 116, 101, 115], 2⟩ : T_name_wire))), (18, .rc R_name_wire [] (⟨[109, 101, 115, 115, 97, 103, 101], 2⟩ : T_name_wire))], []⟩ (by kernel_rfl) (ro_mset (rk := (Rp.int .i64)) (rv := R_name_wire) (m := (mput (mput (mput (mput (mput (mput (mput (mput (mput (mput (mput (mput (mput (mput (mput (mput ([] : (List (Int × T_name_wire))) 1 (⟨[105, 110, 116, 51, 50], 0⟩ : T_name_wire)) 2 (⟨[105, 110, 116, 54, 52], 0⟩ : T_name_wire)) 3 (⟨[117, 105, 110, 116, 51, 50], 0⟩ : T_name_wire)) 4 (⟨[117, 105, 110, 116, 54, 52], 0⟩ : T_name_wire)) 5 (⟨[115, 105, 110, 116, 51, 50], 0⟩ : T_name_wire)) 6 (⟨[115, 105, 110, 116, 54, 52], 0⟩ : T_name_wire)) 7 (⟨[98, 111, 111, 108], 0⟩ : T_name_wire)) 8 (⟨[101, 110, 117, 109], 0⟩ : T_name_wire)) 9 (⟨[102, 105, 120, 101, 100, 51, 50], 5⟩ : T_name_wire)) 10 (⟨[115, 102, 105, 120, 101, 100, 51, 50], 5⟩ : T_name_wire)) 11 (⟨[102, 108, 111, 97, 116], 5⟩ : T_name_wire)) 12 (⟨[102, 105, 120, 101, 100, 54, 52], 1⟩ : T_name_wire)) 13 (⟨[115, 102, 105, 120, 101, 100, 54, 52], 1⟩ : T_name_wire)) 14 (⟨[100, 111, 117, 98, 108, 101], 1⟩ : T_name_wire)) 15 (⟨[115, 116, 114, 105, 110, 103], 2⟩ : T_name_wire)) 16 (⟨[98, 121, 116, 101, 115], 2⟩ : T_name_wire))) (C := []) (C1 := []) (D := []) [1] 17 (⟨[109, 101, 115, 115, 97, 103, 101], 2⟩ : T_name_wire) [] mapt100 rfl (.inr rfl) rfl rfl rfl rfl (asV_lf rfl rfl) (asV_rc rfl) (by kernel_rfl) rfl (ro_z (by kernel_rfl)))))))))))))))))))))))))))))))))))))))))))))))))))))) ?_
 obtain rfl := sj h
 refine je_ret ?_
 refine le_px ⟨[(0, .om (Rp.int .i64) R_name_wire 12 [] (mput (mput (mput (mput (mput (mput (mput (mput (mput (mput (mput (mput (mput (mput (mput (mput (mput ([] : (List (Int × T_name_wire))) 1 (⟨[105, 110, 116, 51, 50], 0⟩ : T_name_wire)) 2 (⟨[105, 110, 116, 54, 52], 0⟩ : T_name_wire)) 3 (⟨[117, 105, 110, 116, 51, 50], 0⟩ : T_name_wire)) 4 (⟨[117, 105, 110, 116, 54, 52], 0⟩ : T_name_wire)) 5 (⟨[115, 105, 110, 116, 51, 50], 0⟩ : T_name_wire)) 6 (⟨[115, 105, 110, 116, 54, 52], 0⟩ : T_name_wire)) 7 (⟨[98, 111, 111, 108], 0⟩ : T_name_wire)) 8 (⟨[101, 110, 117, 109], 0⟩ : T_name_wire)) 9 (⟨[102, 105, 120, 101, 100, 51, 50], 5⟩ : T_name_wire)) 10 (⟨[115, 102, 105, 120, 101, 100, 51, 50], 5⟩ : T_name_wire)) 11 (⟨[102, 108, 111, 97, 116], 5⟩ : T_name_wire)) 12 (⟨[102, 105, 120, 101, 100, 54, 52], 1⟩ : T_name_wire)) 13 (⟨[115, 102, 105, 120, 101, 100, 54, 52], 1⟩ : T_name_wire)) 14 (⟨[100, 111, 117, 98, 108, 101], 1⟩ : T_name_wire)) 15 (⟨[115, 116, 114, 105, 110, 103], 2⟩ : T_name_wire)) 16 (⟨[98, 121, 116, 101, 115], 2⟩ : T_name_wire)) 17 (⟨[109, 101, 115, 115, 97, 103, 101], 2⟩ : T_name_wire)))], []⟩ (by kernel_rfl) (le_rn 12 2 rfl (le_px ⟨[(0, .om (Rp.int .i64) R_name_wire 2 [] (mput (mput (mput (mput (mput (mput (mput (mput (mput (mput (mput (mput (mput (mput (mput (mput (mput ([] : (List (Int × T_name_wire))) 1 (⟨[105, 110, 116, 51, 50], 0⟩ : T_name_wire)) 2 (⟨[105, 110, 116, 54, 52], 0⟩ : T_name_wire)) 3 (⟨[117, 105, 110, 116, 51, 50], 0⟩ : T_name_wire)) 4 (⟨[117, 105, 110, 116, 54, 52], 0⟩ : T_name_wire)) 5 (⟨[115, 105, 110, 116, 51, 50], 0⟩ : T_name_wire)) 6 (⟨[115, 105, 110, 116, 54, 52], 0⟩ : T_name_wire)) 7 (⟨[98, 111, 111, 108], 0⟩ : T_name_wire)) 8 (⟨[101, 110, 117, 109], 0⟩ : T_name_wire)) 9 (⟨[102, 105, 120, 101, 100, 51, 50], 5⟩ : T_name_wire)) 10 (⟨[115, 102, 105, 120, 101, 100, 51, 50], 5⟩ : T_name_wire)) 11 (⟨[102, 108, 111, 97, 116], 5⟩ : T_name_wire)) 12 (⟨[102, 105, 120, 101, 100, 54, 52], 1⟩ : T_name_wire)) 13 (⟨[115, 102, 105, 120, 101, 100, 54, 52], 1⟩ : T_name_wire)) 14 (⟨[100, 111, 117, 98, 108, 101], 1⟩ : T_name_wire)) 15 (⟨[115, 116, 114, 105, 110, 103], 2⟩ : T_name_wire)) 16 (⟨[98, 121, 116, 101, 115], 2⟩ : T_name_wire)) 17 (⟨[109, 101, 115, 115, 97, 103, 101], 2⟩ : T_name_wire)))], []⟩ (by kernel_rfl) ?_))
 exact le_z (by kernel_rfl)
theorem darninglaw10_Wide_ok {m : T_Name_Fields} {r : Bool} (h : darninglaw10_Wide m = some r) : FnOk Try.prog 7 [.rc R_Name_Fields [0] m] [kB r] := by
 refine fn_intro' (E := ⟨[(2, kB r)], []⟩) 7 Try.func7 rfl rfl rfl ⟨rfl, trivial⟩ (fun Xt => ?_)
 refine ji_start ?_
 refine ji_le (E' := ⟨[(0, .rc R_Name_Fields [0] m)], []⟩) (fun _ _ _ hs => hs) ?_
 unfold darninglaw10_Wide at h
 refine ji_region ⟨[(1, .ptr 11 0)], [⟨11, 24, [kS m.Name, .sl R_Name_Number_Kind_Repeated_Packed_Of [0] m.Fields]⟩]⟩ (ro_oz 0 [.rc R_Name_Fields [0] m] rfl (lo_box 11 [kS m.Name, .sl R_Name_Number_Kind_Repeated_Packed_Of [0] m.Fields] [0] rfl rfl rfl rfl rfl) rfl (by kernel_rfl)) ?_
 refine ji_rz ⟨[(2, kB (decide ((m.Fields.length : Int) > 300)))], []⟩ (by kernel_rfl) ?_
 obtain rfl := sj h
 exact je_ret (le_z (by kernel_rfl))
theorem darningref02_Read_ok {b : (List UInt8)} {atv : Int} {r : (Int × Int × Int)} (h : darningref02_Read b atv = some r) : FnOk Try.prog 28 [.sl Rp.byte [0] b, kI atv] [kU r.1, kI r.2.1, kI r.2.2] := by
 refine fn_intro' (E := ⟨[(4, kU r.1), (5, kI r.2.1), (6, kI r.2.2)], []⟩) 69 Try.func28 rfl rfl rfl ⟨rfl, rfl, rfl, trivial⟩ (fun Xt => ?_)
 refine ji_start ?_
 refine ji_le (E' := ⟨[(0, .sl Rp.byte [0] b), (1, kI atv)], []⟩) (fun _ _ _ hs => hs) ?_
 unfold darningref02_Read at h
 refine ji_rz ⟨[(0, .sl Rp.byte [0] b), (1, kI atv)], []⟩ (by kernel_rfl) ?_
 refine ji_rz ⟨[(0, .sl Rp.byte [0] b), (1, kI atv), (7, kI 0)], []⟩ (by kernel_rfl) ?_
 refine ji_block ?_
 obtain ⟨q, h_q, h⟩ := bnd h
 refine je_loop (fun s : Int => darningref02_Read_b1 atv b s) (fun s => ⟨[(0, .sl Rp.byte [0] b), (1, kI atv), (7, kI s)], []⟩) (fun o e a w => e = .exit 0 ∧ Sx ⟨⟨69, []⟩, Xt, false, #[]⟩ ⟨[(0, .sl Rp.byte [0] b), (1, kI atv), (7, kI o)], []⟩ a w) ?_ h_q (le_z (by kernel_rfl)) ?_
 ·
  clear h
  intro n o h
  refine ji_start ?_
  refine ji_le (E' := ⟨[(0, .sl Rp.byte [0] b), (1, kI atv), (7, kI n)], []⟩) (fun _ _ _ hs => hs) ?_
  replace h : darningref02_Read_b1 atv b n = some o := h
  unfold darningref02_Read_b1 at h
  obtain ⟨g, h_g, h⟩ := bnd h
  refine ji_region ⟨[(0, .sl Rp.byte [0] b), (1, kI atv), (7, kI n), (28, kB g)], []⟩ ?_ ?_
  ·
   refine (ro_sp 7 16 (decide ((IntKind.i64.wrap (atv + n)) < (b.length : Int))) ⟨[(0, .sl Rp.byte [0] b), (1, kI atv), (7, kI n), (16, kB (decide ((IntKind.i64.wrap (atv + n)) < (b.length : Int))))], []⟩ (by kernel_rfl) rfl (fun hc1 => ?_) (fun hc1 => ?_))
   ·
    replace h_g := iteT h_g hc1
    refine (ro_sp 4 20 (decide (n < 10)) ⟨[(0, .sl Rp.byte [0] b), (1, kI atv), (7, kI n), (20, kB (decide (n < 10)))], []⟩ (by kernel_rfl) rfl (fun hc2 => ?_) (fun hc2 => ?_))
    ·
     replace h_g := iteT h_g hc2
     obtain ⟨x, h_x, h_g⟩ := bnd h_g
     obtain rfl := sj h_g
     exact (ro_oz 4 [.sl Rp.byte [0] b, kI (IntKind.i64.wrap (atv + n))] rfl (lo_ix rfl zet25.el (isSl_sl _ _ _) h_x) rfl (by kernel_rfl))
    replace h_g := iteF h_g hc2
    obtain rfl := sj h_g
    exact (ro_z (by kernel_rfl))
   replace h_g := iteF h_g hc1
   obtain rfl := sj h_g
   exact (ro_z (by kernel_rfl))
  rcases ite_some h with ⟨hc3, h⟩ | ⟨hc3, h⟩
  ·
   refine ji_condT rfl hc3 ?_
   refine ji_block ?_
   refine ji_rz ⟨[(0, .sl Rp.byte [0] b), (1, kI atv), (7, kI (IntKind.i64.wrap (n + 1)))], []⟩ (by kernel_rfl) ?_
   refine ji_end ?_
   obtain rfl := sj h
   exact je_nil (le_z (by kernel_rfl))
  refine ji_condF rfl hc3 ?_
  obtain rfl := sj h
  exact je_out' rfl (le_z (by kernel_rfl))
 refine k_exit _ rfl ?_
 refine ji_rz ⟨[(0, .sl Rp.byte [0] b), (1, kI atv), (7, kI q), (32, kB (q == 10))], []⟩ (by kernel_rfl) ?_
 rcases ite_some h with ⟨hc4, h⟩ | ⟨hc4, h⟩
 ·
  refine ji_condT rfl hc4 ?_
  refine ji_rz ⟨[(4, kU 0), (5, kI 0), (6, kI 4)], []⟩ (by kernel_rfl) ?_
  obtain rfl := sj h
  exact je_ret (le_z (by kernel_rfl))
 refine ji_condF rfl hc4 ?_
 refine ji_rz ⟨[(0, .sl Rp.byte [0] b), (1, kI atv), (7, kI q), (38, kB ((IntKind.i64.wrap (atv + q)) == (b.length : Int)))], []⟩ (by kernel_rfl) ?_
 rcases ite_some h with ⟨hc5, h⟩ | ⟨hc5, h⟩
 ·
  refine ji_condT rfl hc5 ?_
  refine ji_rz ⟨[(4, kU 0), (5, kI 0), (6, kI 3)], []⟩ (by kernel_rfl) ?_
  obtain rfl := sj h
  exact je_ret (le_z (by kernel_rfl))
 refine ji_condF rfl hc5 ?_
 obtain ⟨g2, h_g2, h⟩ := bnd h
 refine ji_region ⟨[(0, .sl Rp.byte [0] b), (1, kI atv), (7, kI q), (49, kB g2)], []⟩ ?_ ?_
 ·
  refine (ro_sp 3 41 (q == 9) ⟨[(0, .sl Rp.byte [0] b), (1, kI atv), (7, kI q), (41, kB (q == 9))], []⟩ (by kernel_rfl) rfl (fun hc6 => ?_) (fun hc6 => ?_))
  ·
   replace h_g2 := iteT h_g2 hc6
   obtain ⟨x2, h_x2, h_g2⟩ := bnd h_g2
   obtain rfl := sj h_g2
   exact (ro_oz 4 [.sl Rp.byte [0] b, kI (IntKind.i64.wrap (atv + q))] rfl (lo_ix rfl zet25.el (isSl_sl _ _ _) h_x2) rfl (by kernel_rfl))
  replace h_g2 := iteF h_g2 hc6
  obtain rfl := sj h_g2
  exact (ro_z (by kernel_rfl))
 rcases ite_some h with ⟨hc7, h⟩ | ⟨hc7, h⟩
 ·
  refine ji_condT rfl hc7 ?_
  refine ji_rz ⟨[(4, kU 0), (5, kI 0), (6, kI 4)], []⟩ (by kernel_rfl) ?_
  obtain rfl := sj h
  exact je_ret (le_z (by kernel_rfl))
 refine ji_condF rfl hc7 ?_
 refine ji_rz ⟨[(0, .sl Rp.byte [0] b), (1, kI atv), (7, kI q), (8, kU 0)], []⟩ (by kernel_rfl) ?_
 refine ji_rz ⟨[(0, .sl Rp.byte [0] b), (1, kI atv), (7, kI q), (8, kU 0), (9, kI q)], []⟩ (by kernel_rfl) ?_
 refine ji_block ?_
 obtain ⟨q2, h_q2, h⟩ := bnd h
 refine je_loop (fun s : (Int × Int) => darningref02_Read_b2 atv b s.1 s.2) (fun s => ⟨[(0, .sl Rp.byte [0] b), (1, kI atv), (7, kI q), (8, kU s.1), (9, kI s.2)], []⟩) (fun o e a w => e = .exit 2 ∧ Sx ⟨⟨69, []⟩, Xt, false, #[]⟩ ⟨[(7, kI q), (8, kU o)], []⟩ a w) ?_ h_q2 (le_z (by kernel_rfl)) ?_
 ·
  clear h
  intro s o h
  obtain ⟨wv, i⟩ := s
  refine ji_start ?_
  refine ji_le (E' := ⟨[(0, .sl Rp.byte [0] b), (1, kI atv), (7, kI q), (8, kU wv), (9, kI i)], []⟩) (fun _ _ _ hs => hs) ?_
  replace h : darningref02_Read_b2 atv b wv i = some o := h
  unfold darningref02_Read_b2 at h
  refine ji_rz ⟨[(0, .sl Rp.byte [0] b), (1, kI atv), (7, kI q), (8, kU wv), (9, kI i), (52, kB (decide (i ≥ 0)))], []⟩ (by kernel_rfl) ?_
  rcases ite_some h with ⟨hc8, h⟩ | ⟨hc8, h⟩
  ·
   refine ji_condT rfl hc8 ?_
   refine ji_block ?_
   obtain ⟨x3, h_x3, h⟩ := bnd h
   refine ji_region ⟨[(0, .sl Rp.byte [0] b), (1, kI atv), (7, kI q), (8, kU (IntKind.u64.wrap ((IntKind.u64.wrap (128 * wv)) + (IntKind.u64.wrap (Int.tmod (x3.toNat : Int) 128))))), (9, kI i)], []⟩ (ro_oz 6 [.sl Rp.byte [0] b, kI (IntKind.i64.wrap (atv + i))] rfl (lo_ix rfl zet25.el (isSl_sl _ _ _) h_x3) rfl (by kernel_rfl)) ?_
   refine ji_end ?_
   refine ji_rz ⟨[(0, .sl Rp.byte [0] b), (1, kI atv), (7, kI q), (8, kU (IntKind.u64.wrap ((IntKind.u64.wrap (128 * wv)) + (IntKind.u64.wrap (Int.tmod (x3.toNat : Int) 128))))), (9, kI (IntKind.i64.wrap (i - 1)))], []⟩ (by kernel_rfl) ?_
   obtain rfl := sj h
   exact je_nil (le_z (by kernel_rfl))
  refine ji_condF rfl hc8 ?_
  obtain rfl := sj h
  exact je_out' rfl (le_z (by kernel_rfl))
 refine k_exit _ rfl ?_
 refine ji_rz ⟨[(4, kU q2), (5, kI (IntKind.i64.wrap (q + 1))), (6, kI 0)], []⟩ (by kernel_rfl) ?_
 obtain rfl := sj h
 exact je_ret (le_z (by kernel_rfl))
theorem darningref03_Right_ok {number : Int} {wire : Int} {r : Bool} (h : darningref03_Right number wire = some r) : FnOk Try.prog 35 [kI number, kI wire] [kB r] := by
 refine fn_intro' (E := ⟨[(4, kB r)], []⟩) 27 Try.func35 rfl rfl rfl ⟨rfl, trivial⟩ (fun Xt => ?_)
 refine ji_start ?_
 refine ji_le (E' := ⟨[(0, kI number), (1, kI wire)], []⟩) (fun _ _ _ hs => hs) ?_
 unfold darningref03_Right at h
 refine ji_rz ⟨[(0, kI number), (1, kI wire)], []⟩ (by kernel_rfl) ?_
 refine ji_region ⟨[(4, kB ((decide (number ≥ 1)) && ((decide (number ≤ 536870911)) && ((wire == 0) || ((wire == 1) || ((wire == 2) || (wire == 5)))))))], []⟩ ?_ ?_
 ·
  refine (ro_sp 3 7 (decide (number ≥ 1)) ⟨[(0, kI number), (1, kI wire), (7, kB (decide (number ≥ 1)))], []⟩ (by kernel_rfl) rfl (fun hc1 => ?_) (fun hc1 => ?_))
  ·
   refine (ro_sp 4 11 (decide (number ≤ 536870911)) ⟨[(1, kI wire), (11, kB (decide (number ≤ 536870911)))], []⟩ (by kernel_rfl) rfl (fun hc2 => ?_) (fun hc2 => ?_))
   ·
    refine (ro_sp 3 14 (wire == 0) ⟨[(1, kI wire), (11, kB true), (14, kB (wire == 0))], []⟩ (by kernel_rfl) rfl (fun hc3 => ?_) (fun hc3 => ?_))
    · exact (ro_zb 4 true ((decide (number ≥ 1)) && ((decide (number ≤ 536870911)) && ((wire == 0) || ((wire == 1) || ((wire == 2) || (wire == 5)))))) (by rw [hc1, hc2, hc3] <;> rfl) (by kernel_rfl) (by kernel_rfl))
    refine (ro_sp 4 18 (wire == 1) ⟨[(1, kI wire), (11, kB true), (18, kB (wire == 1))], []⟩ (by kernel_rfl) rfl (fun hc4 => ?_) (fun hc4 => ?_))
    · exact (ro_zb 4 true ((decide (number ≥ 1)) && ((decide (number ≤ 536870911)) && ((wire == 0) || ((wire == 1) || ((wire == 2) || (wire == 5)))))) (by rw [hc1, hc2, hc3, hc4] <;> rfl) (by kernel_rfl) (by kernel_rfl))
    refine (ro_sp 4 22 (wire == 2) ⟨[(1, kI wire), (11, kB true), (22, kB (wire == 2))], []⟩ (by kernel_rfl) rfl (fun hc5 => ?_) (fun hc5 => ?_))
    · exact (ro_zb 4 true ((decide (number ≥ 1)) && ((decide (number ≤ 536870911)) && ((wire == 0) || ((wire == 1) || ((wire == 2) || (wire == 5)))))) (by rw [hc1, hc2, hc3, hc4, hc5] <;> rfl) (by kernel_rfl) (by kernel_rfl))
    exact (ro_zb 4 (wire == 5) ((decide (number ≥ 1)) && ((decide (number ≤ 536870911)) && ((wire == 0) || ((wire == 1) || ((wire == 2) || (wire == 5)))))) (by rw [hc1, hc2, hc3, hc4, hc5] <;> rfl) (by kernel_rfl) (by kernel_rfl))
   exact (ro_zb 4 false ((decide (number ≥ 1)) && ((decide (number ≤ 536870911)) && ((wire == 0) || ((wire == 1) || ((wire == 2) || (wire == 5)))))) (by rw [hc1, hc2] <;> rfl) (by kernel_rfl) (by kernel_rfl))
  exact (ro_zb 4 false ((decide (number ≥ 1)) && ((decide (number ≤ 536870911)) && ((wire == 0) || ((wire == 1) || ((wire == 2) || (wire == 5)))))) (by rw [hc1] <;> rfl) (by kernel_rfl) (by kernel_rfl))
 obtain rfl := sj h
 exact je_ret (le_z (by kernel_rfl))
theorem darningref07_Field_ok {m : T_Name_Fields} {number : Int} {r : Int} (h : darningref07_Field m number = some r) : FnOk Try.prog 18 [.rc R_Name_Fields [0] m, kI number] [kI r] := by
 refine fn_intro' (E := ⟨[(4, kI r)], []⟩) 22 Try.func18 rfl rfl rfl ⟨rfl, trivial⟩ (fun Xt => ?_)
 refine ji_start ?_
 refine ji_le (E' := ⟨[(0, .rc R_Name_Fields [0] m), (1, kI number)], []⟩) (fun _ _ _ hs => hs) ?_
 unfold darningref07_Field at h
 refine ji_region ⟨[(1, kI number), (2, .ptr 11 0)], [⟨11, 24, [kS m.Name, .sl R_Name_Number_Kind_Repeated_Packed_Of [0] m.Fields]⟩]⟩ (ro_oz 0 [.rc R_Name_Fields [0] m] rfl (lo_box 11 [kS m.Name, .sl R_Name_Number_Kind_Repeated_Packed_Of [0] m.Fields] [0] rfl rfl rfl rfl rfl) rfl (by kernel_rfl)) ?_
 refine ji_rz ⟨[(1, kI number), (2, .ptr 11 0), (5, kI 0)], [⟨11, 24, [kS m.Name, .sl R_Name_Number_Kind_Repeated_Packed_Of [0] m.Fields]⟩]⟩ (by kernel_rfl) ?_
 refine ji_block ?_
 obtain ⟨q, h_q, h⟩ := bnd h
 refine je_loop (fun s : Int => darningref07_Field_b1 m number s) (fun s => ⟨[(1, kI number), (2, .ptr 11 0), (5, kI s)], [⟨11, 24, [kS m.Name, .sl R_Name_Number_Kind_Repeated_Packed_Of [0] m.Fields]⟩]⟩) (fun o e a w => match o with | (.inl v_) => e = .exit 0 ∧ Sx ⟨⟨22, []⟩, Xt, false, #[]⟩ ⟨[], []⟩ a w | (.inr v_) => e = .ret ∧ Sx ⟨⟨22, []⟩, Xt, false, #[]⟩ ⟨[(4, kI v_)], []⟩ a w) ?_ h_q (le_z (by kernel_rfl)) ?_
 ·
  clear h
  intro i o h
  refine ji_start ?_
  refine ji_le (E' := ⟨[(1, kI number), (2, .ptr 11 0), (5, kI i)], [⟨11, 24, [kS m.Name, .sl R_Name_Number_Kind_Repeated_Packed_Of [0] m.Fields]⟩]⟩) (fun _ _ _ hs => hs) ?_
  replace h : darningref07_Field_b1 m number i = some o := h
  unfold darningref07_Field_b1 at h
  refine ji_rz ⟨[(1, kI number), (2, .ptr 11 0), (5, kI i), (10, kB (decide (i < (m.Fields.length : Int))))], [⟨11, 24, [kS m.Name, .sl R_Name_Number_Kind_Repeated_Packed_Of [0] m.Fields]⟩]⟩ (by kernel_rfl) ?_
  rcases ite_some h with ⟨hc1, h⟩ | ⟨hc1, h⟩
  ·
   refine ji_condT rfl hc1 ?_
   refine ji_block ?_
   obtain ⟨x, h_x, h⟩ := bnd h
   refine ji_region ⟨[(1, kI number), (2, .ptr 11 0), (5, kI i), (20, kB (x.Number == number))], [⟨11, 24, [kS m.Name, .sl R_Name_Number_Kind_Repeated_Packed_Of [0] m.Fields]⟩]⟩ (ro_oz 3 [.sl R_Name_Number_Kind_Repeated_Packed_Of [0] m.Fields, kI i] rfl (lo_ix rfl zet22.el (isSl_sl _ _ _) h_x) rfl (by kernel_rfl)) ?_
   rcases ite_some h with ⟨hc2, h⟩ | ⟨hc2, h⟩
   ·
    refine ji_condT rfl hc2 ?_
    refine ji_rz ⟨[(4, kI i)], []⟩ (by kernel_rfl) ?_
    obtain rfl := sj h
    exact je_ret' (le_z (by kernel_rfl))
   refine ji_condF rfl hc2 ?_
   refine ji_end ?_
   refine ji_rz ⟨[(1, kI number), (2, .ptr 11 0), (5, kI (IntKind.i64.wrap (i + 1)))], [⟨11, 24, [kS m.Name, .sl R_Name_Number_Kind_Repeated_Packed_Of [0] m.Fields]⟩]⟩ (by kernel_rfl) ?_
   obtain rfl := sj h
   exact je_nil (le_z (by kernel_rfl))
  refine ji_condF rfl hc1 ?_
  obtain rfl := sj h
  exact je_out' rfl (le_z (by kernel_rfl))
 rcases q with u | u2
 ·
  refine k_exit _ rfl ?_
  refine ji_rz ⟨[(4, kI (-1))], []⟩ (by kernel_rfl) ?_
  obtain rfl := sj h
  exact je_ret (le_z (by kernel_rfl))
 obtain rfl := sj h
 exact ke_ret (le_z (by kernel_rfl))
theorem darningref06_Number_ok {k : Int} {r : Bool} (h : darningref06_Number k = some r) : FnOk Try.prog 21 [kI k] [kB r] := by
 refine fn_intro' (E := ⟨[(2, kB r)], []⟩) 9 Try.func21 rfl rfl rfl ⟨rfl, trivial⟩ (fun Xt => ?_)
 refine ji_start ?_
 refine ji_le (E' := ⟨[(0, kI k)], []⟩) (fun _ _ _ hs => hs) ?_
 unfold darningref06_Number at h
 refine ji_rz ⟨[(0, kI k)], []⟩ (by kernel_rfl) ?_
 refine ji_region ⟨[(2, kB ((decide (k ≥ 1)) && (decide (k ≤ 14))))], []⟩ ?_ ?_
 ·
  refine (ro_sp 3 5 (decide (k ≥ 1)) ⟨[(0, kI k), (5, kB (decide (k ≥ 1)))], []⟩ (by kernel_rfl) rfl (fun hc1 => ?_) (fun hc1 => ?_))
  · exact (ro_zb 2 (decide (k ≤ 14)) ((decide (k ≥ 1)) && (decide (k ≤ 14))) (by rw [hc1] <;> rfl) (by kernel_rfl) (by kernel_rfl))
  exact (ro_zb 2 false ((decide (k ≥ 1)) && (decide (k ≤ 14))) (by rw [hc1] <;> rfl) (by kernel_rfl) (by kernel_rfl))
 obtain rfl := sj h
 exact je_ret (le_z (by kernel_rfl))
theorem darningref06_Right_ok {k : Int} {r : Bool} (h : darningref06_Right k = some r) : FnOk Try.prog 22 [kI k] [kB r] := by
 refine fn_intro' (E := ⟨[(2, kB r)], []⟩) 9 Try.func22 rfl rfl rfl ⟨rfl, trivial⟩ (fun Xt => ?_)
 refine ji_start ?_
 refine ji_le (E' := ⟨[(0, kI k)], []⟩) (fun _ _ _ hs => hs) ?_
 unfold darningref06_Right at h
 refine ji_rz ⟨[(0, kI k)], []⟩ (by kernel_rfl) ?_
 refine ji_region ⟨[(2, kB ((decide (k ≥ 1)) && (decide (k ≤ 17))))], []⟩ ?_ ?_
 ·
  refine (ro_sp 3 5 (decide (k ≥ 1)) ⟨[(0, kI k), (5, kB (decide (k ≥ 1)))], []⟩ (by kernel_rfl) rfl (fun hc1 => ?_) (fun hc1 => ?_))
  · exact (ro_zb 2 (decide (k ≤ 17)) ((decide (k ≥ 1)) && (decide (k ≤ 17))) (by rw [hc1] <;> rfl) (by kernel_rfl) (by kernel_rfl))
  exact (ro_zb 2 false ((decide (k ≥ 1)) && (decide (k ≤ 17))) (by rw [hc1] <;> rfl) (by kernel_rfl) (by kernel_rfl))
 obtain rfl := sj h
 exact je_ret (le_z (by kernel_rfl))
theorem darningref06_Wire_ok {k : Int} {r : Int} (h : darningref06_Wire k = some r) : FnOk Try.prog 23 [kI k] [kI r] := by
 refine fn_intro' (E := ⟨[(2, kI r)], []⟩) 9 Try.func23 rfl rfl rfl ⟨rfl, trivial⟩ (fun Xt => ?_)
 refine ji_start ?_
 refine ji_le (E' := ⟨[(0, kI k)], []⟩) (fun _ _ _ hs => hs) ?_
 unfold darningref06_Wire at h
 refine ji_rz ⟨[(0, kI k)], []⟩ (by kernel_rfl) ?_
 refine ji_rz ⟨[(0, kI k), (4, kB (decide (k ≥ 15)))], []⟩ (by kernel_rfl) ?_
 rcases ite_some h with ⟨hc1, h⟩ | ⟨hc1, h⟩
 ·
  refine ji_condT rfl hc1 ?_
  refine ji_rz ⟨[(2, kI 2)], []⟩ (by kernel_rfl) ?_
  obtain rfl := sj h
  exact je_ret (le_z (by kernel_rfl))
 refine ji_condF rfl hc1 ?_
 refine ji_rz ⟨[(0, kI k), (6, kB (decide (k ≥ 12)))], []⟩ (by kernel_rfl) ?_
 rcases ite_some h with ⟨hc2, h⟩ | ⟨hc2, h⟩
 ·
  refine ji_condT rfl hc2 ?_
  refine ji_rz ⟨[(2, kI 1)], []⟩ (by kernel_rfl) ?_
  obtain rfl := sj h
  exact je_ret (le_z (by kernel_rfl))
 refine ji_condF rfl hc2 ?_
 refine ji_rz ⟨[(8, kB (decide (k ≥ 9)))], []⟩ (by kernel_rfl) ?_
 rcases ite_some h with ⟨hc3, h⟩ | ⟨hc3, h⟩
 ·
  refine ji_condT rfl hc3 ?_
  refine ji_rz ⟨[(2, kI 5)], []⟩ (by kernel_rfl) ?_
  obtain rfl := sj h
  exact je_ret (le_z (by kernel_rfl))
 refine ji_condF rfl hc3 ?_
 refine ji_rz ⟨[(2, kI 0)], []⟩ (by kernel_rfl) ?_
 obtain rfl := sj h
 exact je_ret (le_z (by kernel_rfl))
end Go.Proofs.Ytdpolccecmaajaa
