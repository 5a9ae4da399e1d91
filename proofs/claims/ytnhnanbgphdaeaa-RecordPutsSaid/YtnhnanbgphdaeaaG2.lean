/-
  The Go functions do what the plain functions say. No condition.
-/
import Derived.Test.YtnhnanbgphdaeaaG1
namespace Go.Proofs.Ytnhnanbgphdaeaa
open Go Go.RowKit
set_option linter.unusedVariables false
set_option maxRecDepth 100000
theorem tag_Right_ok {t : T_Number_Wire} {r : Bool} (h : tag_Right t = some r) : FnOk Try.prog 31 [.rc R_Number_Wire [0] t] [kB r] := by
 refine fn_intro' (E := ⟨[(2, kB r)], []⟩) 16 Try.func31 rfl rfl rfl ⟨rfl, trivial⟩ (fun w0 F => ?_)
 refine ji_start ?_
 refine ji_le (E' := ⟨[(0, .rc R_Number_Wire [0] t)], []⟩) (fun _ _ _ hs => hs) ?_
 unfold tag_Right at h
 refine ji_region ⟨[(1, .ptr 11 0)], [⟨11, 50, [kI t.Number, kI t.Wire]⟩]⟩ (ro_oz 0 [.rc R_Number_Wire [0] t] rfl (lo_box 11 [kI t.Number, kI t.Wire] [0] rfl rfl rfl rfl rfl) rfl (by kernel_rfl)) ?_
 obtain ⟨g, h_g, h⟩ := bnd h
 refine ji_region ⟨[(2, kB g)], []⟩ ?_ ?_
 ·
  refine (ro_sp 4 6 (decide (t.Number ≥ 1)) ⟨[(1, .ptr 11 0), (6, kB (decide (t.Number ≥ 1)))], [⟨11, 50, [kI t.Number, kI t.Wire]⟩]⟩ (by kernel_rfl) rfl (fun hc1 => ?_) (fun hc1 => ?_))
  ·
   replace h_g := iteT h_g hc1
   refine (ro_sp 5 11 (decide (t.Number ≤ 536870911)) ⟨[(1, .ptr 11 0), (11, kB (decide (t.Number ≤ 536870911)))], [⟨11, 50, [kI t.Number, kI t.Wire]⟩]⟩ (by kernel_rfl) rfl (fun hc2 => ?_) (fun hc2 => ?_))
   ·
    replace h_g := iteT h_g hc2
    obtain ⟨rv, h_rv, h_g⟩ := bnd h_g
    obtain rfl := sj h_g
    exact (ro_oz 2 [kI t.Wire] rfl (lo_call [kI t.Wire] [1] 10 rfl Try.call36 (tag_rightWire_ok h_rv) rfl rfl rfl rfl rfl) rfl (by kernel_rfl))
   replace h_g := iteF h_g hc2
   obtain rfl := sj h_g
   exact (ro_z (by kernel_rfl))
  replace h_g := iteF h_g hc1
  obtain rfl := sj h_g
  exact (ro_z (by kernel_rfl))
 obtain rfl := sj h
 exact je_ret (le_z (by kernel_rfl))
theorem varint_Skip_ok {b : (List UInt8)} {r : (Int × Int)} (h : varint_Skip b = some r) : FnOk Try.prog 32 [.sl Rp.byte [0] b] [kI r.1, k8 r.2] := by
 refine fn_intro' (E := ⟨[(2, kI r.1), (3, k8 r.2)], []⟩) 15 Try.func32 rfl rfl rfl ⟨rfl, rfl, trivial⟩ (fun w0 F => ?_)
 refine ji_start ?_
 refine ji_le (E' := ⟨[(0, .sl Rp.byte [0] b)], []⟩) (fun _ _ _ hs => hs) ?_
 unfold varint_Skip at h
 refine ji_rz ⟨[(0, .sl Rp.byte [0] b)], []⟩ (by kernel_rfl) ?_
 obtain ⟨rv, h_rv, h⟩ := bnd h
 refine ji_region ⟨[(5, kI rv.2.1), (6, k8 rv.2.2)], []⟩ (ro_oz 1 [.sl Rp.byte [0] b] rfl (lo_call [.sl Rp.byte [0] b] [0] 9 rfl Try.call30 (varint_Read_ok h_rv) rfl rfl rfl rfl rfl) rfl (by kernel_rfl)) ?_
 refine ji_rz ⟨[(2, kI rv.2.1), (3, k8 rv.2.2)], []⟩ (by kernel_rfl) ?_
 obtain rfl := sj h
 exact je_ret (le_z (by kernel_rfl))
theorem darningref03_Read_ok {b : (List UInt8)} {atv : Int} {r : (Int × Int × Int × Int)} (h : darningref03_Read b atv = some r) : FnOk Try.prog 21 [.sl Rp.byte [0] b, kI atv] [kI r.1, kI r.2.1, kI r.2.2.1, kI r.2.2.2] := by
 refine fn_intro' (E := ⟨[(4, kI r.1), (5, kI r.2.1), (6, kI r.2.2.1), (7, kI r.2.2.2)], []⟩) 40 Try.func21 rfl rfl rfl ⟨rfl, rfl, rfl, rfl, trivial⟩ (fun w0 F => ?_)
 refine ji_start ?_
 refine ji_le (E' := ⟨[(0, .sl Rp.byte [0] b), (1, kI atv)], []⟩) (fun _ _ _ hs => hs) ?_
 unfold darningref03_Read at h
 refine ji_rz ⟨[(0, .sl Rp.byte [0] b), (1, kI atv)], []⟩ (by kernel_rfl) ?_
 obtain ⟨rv, h_rv, h⟩ := bnd h
 refine ji_region ⟨[(8, kU rv.1), (9, kI rv.2.1), (10, kI rv.2.2)], []⟩ (ro_oz 2 [.sl Rp.byte [0] b, kI atv] rfl (lo_call [.sl Rp.byte [0] b, kI atv] [0] 9 rfl Try.call22 (darningref02_Read_ok h_rv) rfl rfl rfl rfl rfl) rfl (by kernel_rfl)) ?_
 refine ji_rz ⟨[(8, kU rv.1), (9, kI rv.2.1), (10, kI rv.2.2), (19, kB (rv.2.2 != 0))], []⟩ (by kernel_rfl) ?_
 rcases ite_some h with ⟨hc1, h⟩ | ⟨hc1, h⟩
 ·
  refine ji_condT rfl hc1 ?_
  refine ji_rz ⟨[(4, kI 0), (5, kI 0), (6, kI 0), (7, kI rv.2.2)], []⟩ (by kernel_rfl) ?_
  obtain rfl := sj h
  exact je_ret (le_z (by kernel_rfl))
 refine ji_condF rfl hc1 ?_
 obtain ⟨g, h_g, h⟩ := bnd h
 refine ji_region ⟨[(8, kU rv.1), (9, kI rv.2.1), (32, kB g)], []⟩ ?_ ?_
 ·
  refine (ro_sp 3 23 (decide (rv.1 > 4294967295)) ⟨[(8, kU rv.1), (9, kI rv.2.1), (23, kB (decide (rv.1 > 4294967295)))], []⟩ (by kernel_rfl) rfl (fun hc2 => ?_) (fun hc2 => ?_))
  ·
   replace h_g := iteT h_g hc2
   obtain rfl := sj h_g
   exact (ro_z (by kernel_rfl))
  replace h_g := iteF h_g hc2
  obtain ⟨rv2, h_rv2, h_g⟩ := bnd h_g
  obtain rfl := sj h_g
  exact (ro_oz 6 [kI (IntKind.i64.wrap (IntKind.u64.wrap (Int.tdiv rv.1 8))), kI (IntKind.i64.wrap (Int.tmod rv.1 8))] rfl (lo_call [kI (IntKind.i64.wrap (IntKind.u64.wrap (Int.tdiv rv.1 8))), kI (IntKind.i64.wrap (Int.tmod rv.1 8))] [1] 9 rfl Try.call14 (darningref03_Right_ok h_rv2) rfl rfl rfl rfl rfl) rfl (by kernel_rfl))
 rcases ite_some h with ⟨hc3, h⟩ | ⟨hc3, h⟩
 ·
  refine ji_condT rfl hc3 ?_
  refine ji_rz ⟨[(4, kI 0), (5, kI 0), (6, kI 0), (7, kI 5)], []⟩ (by kernel_rfl) ?_
  obtain rfl := sj h
  exact je_ret (le_z (by kernel_rfl))
 refine ji_condF rfl hc3 ?_
 refine ji_rz ⟨[(4, kI (IntKind.i64.wrap (IntKind.u64.wrap (Int.tdiv rv.1 8)))), (5, kI (IntKind.i64.wrap (Int.tmod rv.1 8))), (6, kI rv.2.1), (7, kI 0)], []⟩ (by kernel_rfl) ?_
 obtain rfl := sj h
 exact je_ret (le_z (by kernel_rfl))
theorem varint_Put_ok {b : (List UInt8)} {wv : Int} {r : (List UInt8)} (h : varint_Put b wv = some r) : FnOk Try.prog 25 [.sl Rp.byte [0] b, kU wv] [.own Rp.byte 5 2 [] r] := by
 refine fn_intro' (E := ⟨[(4, .own Rp.byte 5 2 [] r)], []⟩) 30 Try.func25 rfl rfl rfl ⟨rfl, trivial⟩ (fun w0 F => ?_)
 refine ji_start ?_
 refine ji_le (E' := ⟨[(0, .sl Rp.byte [0] b), (1, kU wv)], []⟩) (fun _ _ _ hs => hs) ?_
 unfold varint_Put at h
 refine ji_rz ⟨[(0, .sl Rp.byte [0] b), (1, kU wv)], []⟩ (by kernel_rfl) ?_
 obtain ⟨rv, h_rv, h⟩ := bnd h
 obtain ⟨v, h_v, h⟩ := bnd h
 refine ji_region ⟨[(0, .sl Rp.byte [0] b), (1, kU wv), (5, .own Rp.byte 5 12 [] v)], []⟩ (ro_o 3 [kU wv] ⟨[(0, .sl Rp.byte [0] b), (1, kU wv), (7, kI (b.length : Int)), (9, kI rv)], []⟩ rfl (lo_call [kU wv] [1] 10 rfl Try.call34 (bits_Len_ok h_rv) rfl rfl rfl rfl rfl) rfl (by kernel_rfl) (ro_oz 1 [kI 0, kI (IntKind.i64.wrap ((b.length : Int) + rv))] rfl (lo_make 12 rfl zet22 rfl h_v) rfl (by kernel_rfl))) ?_
 obtain ⟨v2, h_v2, h⟩ := bnd h
 refine ji_region ⟨[(1, kU wv), (5, .own Rp.byte 5 12 [] v2)], []⟩ (ro_oz 2 [.own Rp.byte 5 12 [] v, .sl Rp.byte [0] b] rfl (lo_app 12 [] rfl zet22.el rfl (isOwn_own _ _ _ _ _) (isSl_sl _ _ _) h_v2 (.inl plain_byte) rfl) rfl (by kernel_rfl)) ?_
 refine ji_block ?_
 obtain ⟨q, h_q, h⟩ := bnd h
 refine je_loop (fun s : (Int × (List UInt8)) => varint_Put_b1 s.1 s.2) (fun s => ⟨[(1, kU s.1), (5, .own Rp.byte 5 12 [] s.2)], []⟩) (fun o e a w => e = .exit 0 ∧ Sx ⟨30, w0, F⟩ ⟨[(1, kU o.1), (5, .own Rp.byte 5 12 [] o.2)], []⟩ a w) ?_ h_q (le_z (by kernel_rfl)) ?_
 ·
  clear h
  intro s o h
  obtain ⟨wv2, l⟩ := s
  refine ji_start ?_
  refine ji_le (E' := ⟨[(1, kU wv2), (5, .own Rp.byte 5 12 [] l)], []⟩) (fun _ _ _ hs => hs) ?_
  replace h : varint_Put_b1 wv2 l = some o := h
  unfold varint_Put_b1 at h
  refine ji_rz ⟨[(1, kU wv2), (5, .own Rp.byte 5 12 [] l), (16, kB (decide (wv2 ≥ 128)))], []⟩ (by kernel_rfl) ?_
  rcases ite_some h with ⟨hc1, h⟩ | ⟨hc1, h⟩
  ·
   refine ji_condT rfl hc1 ?_
   refine ji_block ?_
   obtain ⟨y, h_y, h⟩ := bnd h
   obtain ⟨v3, h_v3, h⟩ := bnd h
   refine ji_region ⟨[(1, kU wv2), (5, .own Rp.byte 5 12 [] v3)], []⟩ (ro_o 4 [k8 (orI .u8 (IntKind.u8.wrap wv2) 128)] ⟨[(1, kU wv2), (19, .own Rp.byte 5 12 [] l), (23, .own Rp.byte 5 14 [] ([y] : List UInt8))], []⟩ rfl (LocalOk.le (ins' := [(.tmp 22, .lf (.int .u8 (orI .u8 (IntKind.u8.wrap wv2) 128)))]) (lo_bsl [.lf (.int .u8 (y.toNat : Int))] 14 [] [y] rfl zet22 rfl rfl rfl rfl) ⟨⟨rfl, le_byte h_y⟩, trivial⟩) rfl (by kernel_rfl) (ro_oz 0 [.own Rp.byte 5 12 [] l, .own Rp.byte 5 14 [] ([y] : List UInt8)] rfl (lo_app 12 [] rfl zet22.el rfl (isOwn_own _ _ _ _ _) (isSl_own _ _ _ _ _) h_v3 (.inl plain_byte) rfl) rfl (by kernel_rfl))) ?_
   refine ji_end ?_
   refine ji_region ⟨[(1, kU (shrI .u64 wv2 7)), (5, .own Rp.byte 5 12 [] v3)], []⟩ (ro_oz 1 [kU wv2, kU 7] rfl (lo_shr rfl rfl) rfl (by kernel_rfl)) ?_
   obtain rfl := sj h
   exact je_nil (le_z (by kernel_rfl))
  refine ji_condF rfl hc1 ?_
  obtain rfl := sj h
  exact je_out' rfl (le_z (by kernel_rfl))
 refine k_exit _ rfl ?_
 obtain ⟨y2, h_y2, h⟩ := bnd h
 obtain ⟨v4, h_v4, h⟩ := bnd h
 refine ji_region ⟨[(4, .own Rp.byte 5 12 [] v4)], []⟩ (ro_o 3 [k8 (IntKind.u8.wrap q.1)] ⟨[(25, .own Rp.byte 5 12 [] q.2), (28, .own Rp.byte 5 15 [] ([y2] : List UInt8))], []⟩ rfl (LocalOk.le (ins' := [(.tmp 27, .lf (.int .u8 (IntKind.u8.wrap q.1)))]) (lo_bsl [.lf (.int .u8 (y2.toNat : Int))] 15 [] [y2] rfl zet22 rfl rfl rfl rfl) ⟨⟨rfl, le_byte h_y2⟩, trivial⟩) rfl (by kernel_rfl) (ro_oz 0 [.own Rp.byte 5 12 [] q.2, .own Rp.byte 5 15 [] ([y2] : List UInt8)] rfl (lo_app 12 [] rfl zet22.el rfl (isOwn_own _ _ _ _ _) (isSl_own _ _ _ _ _) h_v4 (.inl plain_byte) rfl) rfl (by kernel_rfl))) ?_
 obtain rfl := sj h
 refine je_ret ?_
 refine le_px ⟨[(4, .own Rp.byte 5 12 [] v4)], []⟩ (by kernel_rfl) (le_rn 12 2 rfl (le_px ⟨[(4, .own Rp.byte 5 2 [] v4)], []⟩ (by kernel_rfl) ?_))
 exact le_z (by kernel_rfl)
theorem slices_Concat___byte_byte__ok {slices : (List (List UInt8))} {r : (List UInt8)} (h : slices_Concat___byte_byte_ slices = some r) : FnOk Try.prog 26 [.sl (Rp.list Rp.byte) [0] slices] [.own Rp.byte 5 2 [] r] := by
 refine fn_intro' (E := ⟨[(2, .own Rp.byte 5 2 [] r)], []⟩) 36 Try.func26 rfl rfl rfl ⟨rfl, trivial⟩ (fun w0 F => ?_)
 refine ji_start ?_
 refine ji_le (E' := ⟨[(0, .sl (Rp.list Rp.byte) [0] slices)], []⟩) (fun _ _ _ hs => hs) ?_
 unfold slices_Concat___byte_byte_ at h
 refine ji_rz ⟨[(0, .sl (Rp.list Rp.byte) [0] slices)], []⟩ (by kernel_rfl) ?_
 refine ji_rz ⟨[(0, .sl (Rp.list Rp.byte) [0] slices), (3, kI 0)], []⟩ (by kernel_rfl) ?_
 refine ji_rz ⟨[(0, .sl (Rp.list Rp.byte) [0] slices), (3, kI 0), (9, .sl (Rp.list Rp.byte) [0] slices), (10, kI (slices.length : Int)), (11, kI 0)], []⟩ (by kernel_rfl) ?_
 refine ji_block ?_
 obtain ⟨q, h_q, h⟩ := bnd h
 refine je_loop (fun s : (Int × Int) => slices_Concat___byte_byte__b1 slices s.1 s.2) (fun s => ⟨[(0, .sl (Rp.list Rp.byte) [0] slices), (3, kI s.1), (9, .sl (Rp.list Rp.byte) [0] slices), (10, kI (slices.length : Int)), (11, kI s.2)], []⟩) (fun o e a w => e = .exit 0 ∧ Sx ⟨36, w0, F⟩ ⟨[(0, .sl (Rp.list Rp.byte) [0] slices), (3, kI o)], []⟩ a w) ?_ h_q (le_z (by kernel_rfl)) ?_
 ·
  clear h
  intro s o h
  obtain ⟨size, v⟩ := s
  refine ji_start ?_
  refine ji_le (E' := ⟨[(0, .sl (Rp.list Rp.byte) [0] slices), (3, kI size), (9, .sl (Rp.list Rp.byte) [0] slices), (10, kI (slices.length : Int)), (11, kI v)], []⟩) (fun _ _ _ hs => hs) ?_
  replace h : slices_Concat___byte_byte__b1 slices size v = some o := h
  unfold slices_Concat___byte_byte__b1 at h
  refine ji_rz ⟨[(0, .sl (Rp.list Rp.byte) [0] slices), (3, kI size), (9, .sl (Rp.list Rp.byte) [0] slices), (10, kI (slices.length : Int)), (11, kI v), (12, kB (decide (v < (slices.length : Int))))], []⟩ (by kernel_rfl) ?_
  rcases ite_some h with ⟨hc1, h⟩ | ⟨hc1, h⟩
  ·
   refine ji_condT rfl hc1 ?_
   refine ji_block ?_
   obtain ⟨x, h_x, h⟩ := bnd h
   refine ji_region ⟨[(0, .sl (Rp.list Rp.byte) [0] slices), (3, kI size), (5, .sl Rp.byte [0] x), (9, .sl (Rp.list Rp.byte) [0] slices), (10, kI (slices.length : Int)), (11, kI v)], []⟩ (ro_o 0 [.sl (Rp.list Rp.byte) [0] slices, kI v] ⟨[(0, .sl (Rp.list Rp.byte) [0] slices), (3, kI size), (9, .sl (Rp.list Rp.byte) [0] slices), (10, kI (slices.length : Int)), (11, kI v), (13, .ep (Rp.list Rp.byte) [0] x 0)], []⟩ rfl (lo_ix rfl zet74.el (isSl_sl _ _ _) h_x) rfl (by kernel_rfl) (ro_oz 0 [.ep (Rp.list Rp.byte) [0] x 0] rfl (lo_lds Rp.byte x rfl rfl rfl) rfl (by kernel_rfl))) ?_
   refine ji_rz ⟨[(0, .sl (Rp.list Rp.byte) [0] slices), (3, kI (IntKind.i64.wrap (size + (x.length : Int)))), (9, .sl (Rp.list Rp.byte) [0] slices), (10, kI (slices.length : Int)), (11, kI v)], []⟩ (by kernel_rfl) ?_
   refine ji_rz ⟨[(0, .sl (Rp.list Rp.byte) [0] slices), (3, kI (IntKind.i64.wrap (size + (x.length : Int)))), (9, .sl (Rp.list Rp.byte) [0] slices), (10, kI (slices.length : Int)), (11, kI v), (20, kB (decide ((IntKind.i64.wrap (size + (x.length : Int))) < 0)))], []⟩ (by kernel_rfl) ?_
   rcases ite_some h with ⟨hc2, h⟩ | ⟨hc2, h⟩
   ·
    refine ji_condT rfl hc2 ?_
    exact absurd h nofun
   refine ji_condF rfl hc2 ?_
   refine ji_end ?_
   refine ji_rz ⟨[(0, .sl (Rp.list Rp.byte) [0] slices), (3, kI (IntKind.i64.wrap (size + (x.length : Int)))), (9, .sl (Rp.list Rp.byte) [0] slices), (10, kI (slices.length : Int)), (11, kI (IntKind.i64.wrap (v + 1)))], []⟩ (by kernel_rfl) ?_
   obtain rfl := sj h
   exact je_nil (le_z (by kernel_rfl))
  refine ji_condF rfl hc1 ?_
  obtain rfl := sj h
  exact je_out' rfl (le_z (by kernel_rfl))
 refine k_exit _ rfl ?_
 obtain ⟨rv, h_rv, h⟩ := bnd h
 refine ji_region ⟨[(0, .sl (Rp.list Rp.byte) [0] slices), (6, .own Rp.byte 5 14 [] rv)], []⟩ (ro_oz 1 [kN, kI q] rfl (lo_call [kN, kI q] [1] 12 rfl Try.call35 (slices_Grow___byte_byte__ok h_rv) rfl rfl rfl rfl rfl) rfl (by kernel_rfl)) ?_
 refine ji_rz ⟨[(6, .own Rp.byte 5 14 [] rv), (25, .sl (Rp.list Rp.byte) [0] slices), (26, kI (slices.length : Int)), (27, kI 0)], []⟩ (by kernel_rfl) ?_
 refine ji_block ?_
 obtain ⟨q2, h_q2, h⟩ := bnd h
 refine je_loop (fun s : ((List UInt8) × Int) => slices_Concat___byte_byte__b2 slices s.1 s.2) (fun s => ⟨[(6, .own Rp.byte 5 14 [] s.1), (25, .sl (Rp.list Rp.byte) [0] slices), (26, kI (slices.length : Int)), (27, kI s.2)], []⟩) (fun o e a w => e = .exit 2 ∧ Sx ⟨36, w0, F⟩ ⟨[(6, .own Rp.byte 5 14 [] o)], []⟩ a w) ?_ h_q2 (le_z (by kernel_rfl)) ?_
 ·
  clear h
  intro s o h
  obtain ⟨newslice, v2⟩ := s
  refine ji_start ?_
  refine ji_le (E' := ⟨[(6, .own Rp.byte 5 14 [] newslice), (25, .sl (Rp.list Rp.byte) [0] slices), (26, kI (slices.length : Int)), (27, kI v2)], []⟩) (fun _ _ _ hs => hs) ?_
  replace h : slices_Concat___byte_byte__b2 slices newslice v2 = some o := h
  unfold slices_Concat___byte_byte__b2 at h
  refine ji_rz ⟨[(6, .own Rp.byte 5 14 [] newslice), (25, .sl (Rp.list Rp.byte) [0] slices), (26, kI (slices.length : Int)), (27, kI v2), (28, kB (decide (v2 < (slices.length : Int))))], []⟩ (by kernel_rfl) ?_
  rcases ite_some h with ⟨hc3, h⟩ | ⟨hc3, h⟩
  ·
   refine ji_condT rfl hc3 ?_
   refine ji_block ?_
   obtain ⟨x2, h_x2, h⟩ := bnd h
   refine ji_region ⟨[(6, .own Rp.byte 5 14 [] newslice), (8, .sl Rp.byte [0] x2), (25, .sl (Rp.list Rp.byte) [0] slices), (26, kI (slices.length : Int)), (27, kI v2)], []⟩ (ro_o 0 [.sl (Rp.list Rp.byte) [0] slices, kI v2] ⟨[(6, .own Rp.byte 5 14 [] newslice), (25, .sl (Rp.list Rp.byte) [0] slices), (26, kI (slices.length : Int)), (27, kI v2), (29, .ep (Rp.list Rp.byte) [0] x2 0)], []⟩ rfl (lo_ix rfl zet74.el (isSl_sl _ _ _) h_x2) rfl (by kernel_rfl) (ro_oz 0 [.ep (Rp.list Rp.byte) [0] x2 0] rfl (lo_lds Rp.byte x2 rfl rfl rfl) rfl (by kernel_rfl))) ?_
   obtain ⟨v3, h_v3, h⟩ := bnd h
   refine ji_region ⟨[(6, .own Rp.byte 5 14 [] v3), (25, .sl (Rp.list Rp.byte) [0] slices), (26, kI (slices.length : Int)), (27, kI v2)], []⟩ (ro_oz 2 [.own Rp.byte 5 14 [] newslice, .sl Rp.byte [0] x2] rfl (lo_app 14 [] rfl zet22.el rfl (isOwn_own _ _ _ _ _) (isSl_sl _ _ _) h_v3 (.inl plain_byte) rfl) rfl (by kernel_rfl)) ?_
   refine ji_end ?_
   refine ji_rz ⟨[(6, .own Rp.byte 5 14 [] v3), (25, .sl (Rp.list Rp.byte) [0] slices), (26, kI (slices.length : Int)), (27, kI (IntKind.i64.wrap (v2 + 1)))], []⟩ (by kernel_rfl) ?_
   obtain rfl := sj h
   exact je_nil (le_z (by kernel_rfl))
  refine ji_condF rfl hc3 ?_
  obtain rfl := sj h
  exact je_out' rfl (le_z (by kernel_rfl))
 refine k_exit _ rfl ?_
 refine ji_rz ⟨[(2, .own Rp.byte 5 14 [] q2)], []⟩ (by kernel_rfl) ?_
 obtain rfl := sj h
 refine je_ret ?_
 refine le_px ⟨[(2, .own Rp.byte 5 14 [] q2)], []⟩ (by kernel_rfl) (le_rn 14 2 rfl (le_px ⟨[(2, .own Rp.byte 5 2 [] q2)], []⟩ (by kernel_rfl) ?_))
 exact le_z (by kernel_rfl)
theorem darningref03_Put_ok {fuel : Nat} {number : Int} {wire : Int} {r : (List UInt8)} (h : darningref03_Put fuel number wire = some r) : FnOk Try.prog 27 [kI number, kI wire] [.own Rp.byte 5 2 [] r] := by
 refine fn_intro' (E := ⟨[(4, .own Rp.byte 5 2 [] r)], []⟩) 11 Try.func27 rfl rfl rfl ⟨rfl, trivial⟩ (fun w0 F => ?_)
 refine ji_start ?_
 refine ji_le (E' := ⟨[(0, kI number), (1, kI wire)], []⟩) (fun _ _ _ hs => hs) ?_
 unfold darningref03_Put at h
 refine ji_rz ⟨[(0, kI number), (1, kI wire)], []⟩ (by kernel_rfl) ?_
 obtain ⟨rv, h_rv, h⟩ := bnd h
 refine ji_region ⟨[(4, .own Rp.byte 5 12 [] rv)], []⟩ (ro_oz 5 [kU (IntKind.u64.wrap (IntKind.i64.wrap ((IntKind.i64.wrap (8 * number)) + wire)))] rfl (lo_call [kU (IntKind.u64.wrap (IntKind.i64.wrap ((IntKind.i64.wrap (8 * number)) + wire)))] [1] 10 rfl Try.call28 (darningref02_Put_ok h_rv) rfl rfl rfl rfl rfl) rfl (by kernel_rfl)) ?_
 obtain rfl := sj h
 refine je_ret ?_
 refine le_px ⟨[(4, .own Rp.byte 5 12 [] rv)], []⟩ (by kernel_rfl) (le_rn 12 2 rfl (le_px ⟨[(4, .own Rp.byte 5 2 [] rv)], []⟩ (by kernel_rfl) ?_))
 exact le_z (by kernel_rfl)
theorem darningref05_Fits_ok {wire : Int} {value : (List UInt8)} {r : Bool} (h : darningref05_Fits wire value = some r) : FnOk Try.prog 17 [kI wire, .sl Rp.byte [0] value] [kB r] := by
 refine fn_intro' (E := ⟨[(4, kB r)], []⟩) 44 Try.func17 rfl rfl rfl ⟨rfl, trivial⟩ (fun w0 F => ?_)
 refine ji_start ?_
 refine ji_le (E' := ⟨[(0, kI wire), (1, .sl Rp.byte [0] value)], []⟩) (fun _ _ _ hs => hs) ?_
 unfold darningref05_Fits at h
 refine ji_rz ⟨[(0, kI wire), (1, .sl Rp.byte [0] value)], []⟩ (by kernel_rfl) ?_
 refine ji_rz ⟨[(0, kI wire), (1, .sl Rp.byte [0] value), (9, kB (wire == 0))], []⟩ (by kernel_rfl) ?_
 rcases ite_some h with ⟨hc1, h⟩ | ⟨hc1, h⟩
 ·
  refine ji_condT rfl hc1 ?_
  obtain ⟨rv, h_rv, h⟩ := bnd h
  refine ji_region ⟨[(1, .sl Rp.byte [0] value), (6, kI rv.2.1), (7, kI rv.2.2)], []⟩ (ro_oz 1 [.sl Rp.byte [0] value, kI 0] rfl (lo_call [.sl Rp.byte [0] value, kI 0] [0] 9 rfl Try.call22 (darningref02_Read_ok h_rv) rfl rfl rfl rfl rfl) rfl (by kernel_rfl)) ?_
  refine ji_region ⟨[(4, kB ((rv.2.2 == 0) && (rv.2.1 == (value.length : Int))))], []⟩ ?_ ?_
  ·
   refine (ro_sp 3 18 (rv.2.2 == 0) ⟨[(1, .sl Rp.byte [0] value), (6, kI rv.2.1), (18, kB (rv.2.2 == 0))], []⟩ (by kernel_rfl) rfl (fun hc2 => ?_) (fun hc2 => ?_))
   · exact (ro_zb 4 (rv.2.1 == (value.length : Int)) ((rv.2.2 == 0) && (rv.2.1 == (value.length : Int))) (by rw [hc2] <;> rfl) (by kernel_rfl) (by kernel_rfl))
   exact (ro_zb 4 false ((rv.2.2 == 0) && (rv.2.1 == (value.length : Int))) (by rw [hc2] <;> rfl) (by kernel_rfl) (by kernel_rfl))
  obtain rfl := sj h
  exact je_ret (le_z (by kernel_rfl))
 refine ji_condF rfl hc1 ?_
 refine ji_region ⟨[(4, kB ((wire == 2) || (if (wire == 1) then (((value.length : Int) == 8) || ((wire == 5) && ((value.length : Int) == 4))) else ((wire == 5) && ((value.length : Int) == 4)))))], []⟩ ?_ ?_
 ·
  refine (ro_sp 3 26 (wire == 2) ⟨[(0, kI wire), (1, .sl Rp.byte [0] value), (26, kB (wire == 2))], []⟩ (by kernel_rfl) rfl (fun hc3 => ?_) (fun hc3 => ?_))
  · exact (ro_zb 4 true ((wire == 2) || (if (wire == 1) then (((value.length : Int) == 8) || ((wire == 5) && ((value.length : Int) == 4))) else ((wire == 5) && ((value.length : Int) == 4)))) (by rw [hc3] <;> rfl) (by kernel_rfl) (by kernel_rfl))
  refine (ro_sp 3 29 (wire == 1) ⟨[(0, kI wire), (1, .sl Rp.byte [0] value), (26, kB false), (29, kB (wire == 1))], []⟩ (by kernel_rfl) rfl (fun hc4 => ?_) (fun hc4 => ?_))
  ·
   refine (ro_sp 6 35 ((value.length : Int) == 8) ⟨[(0, kI wire), (1, .sl Rp.byte [0] value), (35, kB ((value.length : Int) == 8))], []⟩ (by kernel_rfl) rfl (fun hc5 => ?_) (fun hc5 => ?_))
   · exact (ro_zb 4 true ((wire == 2) || (if (wire == 1) then (((value.length : Int) == 8) || ((wire == 5) && ((value.length : Int) == 4))) else ((wire == 5) && ((value.length : Int) == 4)))) (by rw [hc3, hc4, hc5] <;> rfl) (by kernel_rfl) (by kernel_rfl))
   refine (ro_sp 3 38 (wire == 5) ⟨[(1, .sl Rp.byte [0] value), (35, kB false), (38, kB (wire == 5))], []⟩ (by kernel_rfl) rfl (fun hc6 => ?_) (fun hc6 => ?_))
   · exact (ro_zb 4 ((value.length : Int) == 4) ((wire == 2) || (if (wire == 1) then (((value.length : Int) == 8) || ((wire == 5) && ((value.length : Int) == 4))) else ((wire == 5) && ((value.length : Int) == 4)))) (by rw [hc3, hc4, hc5, hc6] <;> rfl) (by kernel_rfl) (by kernel_rfl))
   exact (ro_zb 4 false ((wire == 2) || (if (wire == 1) then (((value.length : Int) == 8) || ((wire == 5) && ((value.length : Int) == 4))) else ((wire == 5) && ((value.length : Int) == 4)))) (by rw [hc3, hc4, hc5, hc6] <;> rfl) (by kernel_rfl) (by kernel_rfl))
  refine (ro_sp 9 38 (wire == 5) ⟨[(1, .sl Rp.byte [0] value), (35, kB false), (38, kB (wire == 5))], []⟩ (by kernel_rfl) rfl (fun hc7 => ?_) (fun hc7 => ?_))
  · exact (ro_zb 4 ((value.length : Int) == 4) ((wire == 2) || (if (wire == 1) then (((value.length : Int) == 8) || ((wire == 5) && ((value.length : Int) == 4))) else ((wire == 5) && ((value.length : Int) == 4)))) (by rw [hc3, hc4, hc7] <;> rfl) (by kernel_rfl) (by kernel_rfl))
  exact (ro_zb 4 false ((wire == 2) || (if (wire == 1) then (((value.length : Int) == 8) || ((wire == 5) && ((value.length : Int) == 4))) else ((wire == 5) && ((value.length : Int) == 4)))) (by rw [hc3, hc4, hc7] <;> rfl) (by kernel_rfl) (by kernel_rfl))
 obtain rfl := sj h
 exact je_ret (le_z (by kernel_rfl))
end Go.Proofs.Ytnhnanbgphdaeaa
