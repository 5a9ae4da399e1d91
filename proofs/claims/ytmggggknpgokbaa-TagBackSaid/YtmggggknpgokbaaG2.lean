/-
  The Go functions do what the plain functions say. No condition.
-/
import Derived.Test.YtmggggknpgokbaaG1
namespace Go.Proofs.Ytmggggknpgokbaa
open Go Go.RowKit
set_option linter.unusedVariables false
set_option maxRecDepth 100000
theorem tag_Right_ok {t : T_Number_Wire} {r : Bool} (h : tag_Right t = some r) : FnOk Try.prog 11 [.rc R_Number_Wire [0] t] [kB r] := by
 refine fn_intro' (E := ⟨[(2, kB r)], []⟩) 16 Try.func11 rfl rfl rfl ⟨rfl, trivial⟩ (fun w0 F => ?_)
 refine ji_start ?_
 refine ji_le (E' := ⟨[(0, .rc R_Number_Wire [0] t)], []⟩) (fun _ _ _ hs => hs) ?_
 unfold tag_Right at h
 refine ji_region ⟨[(1, .ptr 11 0)], [⟨11, 25, [kI t.Number, kI t.Wire]⟩]⟩ (ro_oz 0 [.rc R_Number_Wire [0] t] rfl (lo_box 11 [kI t.Number, kI t.Wire] [0] rfl rfl rfl rfl rfl) rfl (by kernel_rfl)) ?_
 obtain ⟨g, h_g, h⟩ := bnd h
 refine ji_region ⟨[(2, kB g)], []⟩ ?_ ?_
 ·
  refine (ro_sp 4 6 (decide (t.Number ≥ 1)) ⟨[(1, .ptr 11 0), (6, kB (decide (t.Number ≥ 1)))], [⟨11, 25, [kI t.Number, kI t.Wire]⟩]⟩ (by kernel_rfl) rfl (fun hc1 => ?_) (fun hc1 => ?_))
  ·
   replace h_g := iteT h_g hc1
   refine (ro_sp 5 11 (decide (t.Number ≤ 536870911)) ⟨[(1, .ptr 11 0), (11, kB (decide (t.Number ≤ 536870911)))], [⟨11, 25, [kI t.Number, kI t.Wire]⟩]⟩ (by kernel_rfl) rfl (fun hc2 => ?_) (fun hc2 => ?_))
   ·
    replace h_g := iteT h_g hc2
    obtain ⟨rv, h_rv, h_g⟩ := bnd h_g
    obtain rfl := sj h_g
    exact (ro_oz 2 [kI t.Wire] rfl (lo_call [kI t.Wire] [1] 10 rfl Try.call20 (tag_rightWire_ok h_rv) rfl rfl rfl rfl rfl) rfl (by kernel_rfl))
   replace h_g := iteF h_g hc2
   obtain rfl := sj h_g
   exact (ro_z (by kernel_rfl))
  replace h_g := iteF h_g hc1
  obtain rfl := sj h_g
  exact (ro_z (by kernel_rfl))
 obtain rfl := sj h
 exact je_ret (le_z (by kernel_rfl))
theorem darningref03_Read_ok {b : (List UInt8)} {atv : Int} {r : (Int × Int × Int × Int)} (h : darningref03_Read b atv = some r) : FnOk Try.prog 8 [.sl Rp.byte [0] b, kI atv] [kI r.1, kI r.2.1, kI r.2.2.1, kI r.2.2.2] := by
 refine fn_intro' (E := ⟨[(4, kI r.1), (5, kI r.2.1), (6, kI r.2.2.1), (7, kI r.2.2.2)], []⟩) 40 Try.func8 rfl rfl rfl ⟨rfl, rfl, rfl, rfl, trivial⟩ (fun w0 F => ?_)
 refine ji_start ?_
 refine ji_le (E' := ⟨[(0, .sl Rp.byte [0] b), (1, kI atv)], []⟩) (fun _ _ _ hs => hs) ?_
 unfold darningref03_Read at h
 refine ji_rz ⟨[(0, .sl Rp.byte [0] b), (1, kI atv)], []⟩ (by kernel_rfl) ?_
 obtain ⟨rv, h_rv, h⟩ := bnd h
 refine ji_region ⟨[(8, kU rv.1), (9, kI rv.2.1), (10, kI rv.2.2)], []⟩ (ro_oz 2 [.sl Rp.byte [0] b, kI atv] rfl (lo_call [.sl Rp.byte [0] b, kI atv] [0] 9 rfl Try.call17 (darningref02_Read_ok h_rv) rfl rfl rfl rfl rfl) rfl (by kernel_rfl)) ?_
 refine ji_rz ⟨[(8, kU rv.1), (9, kI rv.2.1), (10, kI rv.2.2), (19, kB (rv.2.2 != 0))], []⟩ (by kernel_rfl) ?_
 rcases ite_some h with ⟨hc1, h⟩ | ⟨hc1, h⟩
 ·
  refine ji_condT rfl hc1 ?_
  refine ji_rz ⟨[(4, kI 0), (5, kI 0), (6, kI 0), (7, kI rv.2.2)], []⟩ (by kernel_rfl) ?_
  obtain rfl := sj h
  exact je_ret (le_z (by kernel_rfl))
 refine ji_condF rfl hc1 ?_
 obtain ⟨g, h_g, h⟩ := bnd h
 refine ji_region ⟨[(8, kU rv.1), (9, kI rv.2.1), (32, kB g)], []⟩ ?_ ?_
 ·
  refine (ro_sp 3 23 (decide (rv.1 > 4294967295)) ⟨[(8, kU rv.1), (9, kI rv.2.1), (23, kB (decide (rv.1 > 4294967295)))], []⟩ (by kernel_rfl) rfl (fun hc2 => ?_) (fun hc2 => ?_))
  ·
   replace h_g := iteT h_g hc2
   obtain rfl := sj h_g
   exact (ro_z (by kernel_rfl))
  replace h_g := iteF h_g hc2
  obtain ⟨rv2, h_rv2, h_g⟩ := bnd h_g
  obtain rfl := sj h_g
  exact (ro_oz 6 [kI (IntKind.i64.wrap (IntKind.u64.wrap (Int.tdiv rv.1 8))), kI (IntKind.i64.wrap (Int.tmod rv.1 8))] rfl (lo_call [kI (IntKind.i64.wrap (IntKind.u64.wrap (Int.tdiv rv.1 8))), kI (IntKind.i64.wrap (Int.tmod rv.1 8))] [1] 9 rfl Try.call10 (darningref03_Right_ok h_rv2) rfl rfl rfl rfl rfl) rfl (by kernel_rfl))
 rcases ite_some h with ⟨hc3, h⟩ | ⟨hc3, h⟩
 ·
  refine ji_condT rfl hc3 ?_
  refine ji_rz ⟨[(4, kI 0), (5, kI 0), (6, kI 0), (7, kI 5)], []⟩ (by kernel_rfl) ?_
  obtain rfl := sj h
  exact je_ret (le_z (by kernel_rfl))
 refine ji_condF rfl hc3 ?_
 refine ji_rz ⟨[(4, kI (IntKind.i64.wrap (IntKind.u64.wrap (Int.tdiv rv.1 8)))), (5, kI (IntKind.i64.wrap (Int.tmod rv.1 8))), (6, kI rv.2.1), (7, kI 0)], []⟩ (by kernel_rfl) ?_
 obtain rfl := sj h
 exact je_ret (le_z (by kernel_rfl))
theorem varint_Put_ok {b : (List UInt8)} {wv : Int} {r : (List UInt8)} (h : varint_Put b wv = some r) : FnOk Try.prog 18 [.sl Rp.byte [0] b, kU wv] [.own Rp.byte 5 2 [] r] := by
 refine fn_intro' (E := ⟨[(4, .own Rp.byte 5 2 [] r)], []⟩) 30 Try.func18 rfl rfl rfl ⟨rfl, trivial⟩ (fun w0 F => ?_)
 refine ji_start ?_
 refine ji_le (E' := ⟨[(0, .sl Rp.byte [0] b), (1, kU wv)], []⟩) (fun _ _ _ hs => hs) ?_
 unfold varint_Put at h
 refine ji_rz ⟨[(0, .sl Rp.byte [0] b), (1, kU wv)], []⟩ (by kernel_rfl) ?_
 obtain ⟨rv, h_rv, h⟩ := bnd h
 obtain ⟨v, h_v, h⟩ := bnd h
 refine ji_region ⟨[(0, .sl Rp.byte [0] b), (1, kU wv), (5, .own Rp.byte 5 12 [] v)], []⟩ (ro_o 3 [kU wv] ⟨[(0, .sl Rp.byte [0] b), (1, kU wv), (7, kI (b.length : Int)), (9, kI rv)], []⟩ rfl (lo_call [kU wv] [1] 10 rfl Try.call22 (bits_Len_ok h_rv) rfl rfl rfl rfl rfl) rfl (by kernel_rfl) (ro_oz 1 [kI 0, kI (IntKind.i64.wrap ((b.length : Int) + rv))] rfl (lo_make 12 rfl zet22 rfl h_v) rfl (by kernel_rfl))) ?_
 obtain ⟨v2, h_v2, h⟩ := bnd h
 refine ji_region ⟨[(1, kU wv), (5, .own Rp.byte 5 12 [] v2)], []⟩ (ro_oz 2 [.own Rp.byte 5 12 [] v, .sl Rp.byte [0] b] rfl (lo_app 12 [] rfl zet22.el rfl (isOwn_own _ _ _ _ _) (isSl_sl _ _ _) h_v2 (.inl plain_byte) rfl) rfl (by kernel_rfl)) ?_
 refine ji_block ?_
 obtain ⟨q, h_q, h⟩ := bnd h
 refine je_loop (fun s : (Int × (List UInt8)) => varint_Put_b1 s.1 s.2) (fun s => ⟨[(1, kU s.1), (5, .own Rp.byte 5 12 [] s.2)], []⟩) (fun o e a w => e = .exit 0 ∧ Sx ⟨30, w0, F⟩ ⟨[(1, kU o.1), (5, .own Rp.byte 5 12 [] o.2)], []⟩ a w) ?_ h_q (le_z (by kernel_rfl)) ?_
 ·
  clear h
  intro s o h
  obtain ⟨wv2, l⟩ := s
  refine ji_start ?_
  refine ji_le (E' := ⟨[(1, kU wv2), (5, .own Rp.byte 5 12 [] l)], []⟩) (fun _ _ _ hs => hs) ?_
  replace h : varint_Put_b1 wv2 l = some o := h
  unfold varint_Put_b1 at h
  refine ji_rz ⟨[(1, kU wv2), (5, .own Rp.byte 5 12 [] l), (16, kB (decide (wv2 ≥ 128)))], []⟩ (by kernel_rfl) ?_
  rcases ite_some h with ⟨hc1, h⟩ | ⟨hc1, h⟩
  ·
   refine ji_condT rfl hc1 ?_
   refine ji_block ?_
   obtain ⟨y, h_y, h⟩ := bnd h
   obtain ⟨v3, h_v3, h⟩ := bnd h
   refine ji_region ⟨[(1, kU wv2), (5, .own Rp.byte 5 12 [] v3)], []⟩ (ro_o 4 [k8 (orI .u8 (IntKind.u8.wrap wv2) 128)] ⟨[(1, kU wv2), (19, .own Rp.byte 5 12 [] l), (23, .own Rp.byte 5 14 [] ([y] : List UInt8))], []⟩ rfl (LocalOk.le (ins' := [(.tmp 22, .lf (.int .u8 (orI .u8 (IntKind.u8.wrap wv2) 128)))]) (lo_bsl [.lf (.int .u8 (y.toNat : Int))] 14 [] [y] rfl zet22 rfl rfl rfl rfl) ⟨⟨rfl, le_byte h_y⟩, trivial⟩) rfl (by kernel_rfl) (ro_oz 0 [.own Rp.byte 5 12 [] l, .own Rp.byte 5 14 [] ([y] : List UInt8)] rfl (lo_app 12 [] rfl zet22.el rfl (isOwn_own _ _ _ _ _) (isSl_own _ _ _ _ _) h_v3 (.inl plain_byte) rfl) rfl (by kernel_rfl))) ?_
   refine ji_end ?_
   refine ji_region ⟨[(1, kU (shrI .u64 wv2 7)), (5, .own Rp.byte 5 12 [] v3)], []⟩ (ro_oz 1 [kU wv2, kU 7] rfl (lo_shr rfl rfl) rfl (by kernel_rfl)) ?_
   obtain rfl := sj h
   exact je_nil (le_z (by kernel_rfl))
  refine ji_condF rfl hc1 ?_
  obtain rfl := sj h
  exact je_out' rfl (le_z (by kernel_rfl))
 refine k_exit _ rfl ?_
 obtain ⟨y2, h_y2, h⟩ := bnd h
 obtain ⟨v4, h_v4, h⟩ := bnd h
 refine ji_region ⟨[(4, .own Rp.byte 5 12 [] v4)], []⟩ (ro_o 3 [k8 (IntKind.u8.wrap q.1)] ⟨[(25, .own Rp.byte 5 12 [] q.2), (28, .own Rp.byte 5 15 [] ([y2] : List UInt8))], []⟩ rfl (LocalOk.le (ins' := [(.tmp 27, .lf (.int .u8 (IntKind.u8.wrap q.1)))]) (lo_bsl [.lf (.int .u8 (y2.toNat : Int))] 15 [] [y2] rfl zet22 rfl rfl rfl rfl) ⟨⟨rfl, le_byte h_y2⟩, trivial⟩) rfl (by kernel_rfl) (ro_oz 0 [.own Rp.byte 5 12 [] q.2, .own Rp.byte 5 15 [] ([y2] : List UInt8)] rfl (lo_app 12 [] rfl zet22.el rfl (isOwn_own _ _ _ _ _) (isSl_own _ _ _ _ _) h_v4 (.inl plain_byte) rfl) rfl (by kernel_rfl))) ?_
 obtain rfl := sj h
 refine je_ret ?_
 refine le_px ⟨[(4, .own Rp.byte 5 12 [] v4)], []⟩ (by kernel_rfl) (le_rn 12 2 rfl (le_px ⟨[(4, .own Rp.byte 5 2 [] v4)], []⟩ (by kernel_rfl) ?_))
 exact le_z (by kernel_rfl)
theorem darningref03_Put_ok {fuel : Nat} {number : Int} {wire : Int} {r : (List UInt8)} (h : darningref03_Put fuel number wire = some r) : FnOk Try.prog 14 [kI number, kI wire] [.own Rp.byte 5 2 [] r] := by
 refine fn_intro' (E := ⟨[(4, .own Rp.byte 5 2 [] r)], []⟩) 11 Try.func14 rfl rfl rfl ⟨rfl, trivial⟩ (fun w0 F => ?_)
 refine ji_start ?_
 refine ji_le (E' := ⟨[(0, kI number), (1, kI wire)], []⟩) (fun _ _ _ hs => hs) ?_
 unfold darningref03_Put at h
 refine ji_rz ⟨[(0, kI number), (1, kI wire)], []⟩ (by kernel_rfl) ?_
 obtain ⟨rv, h_rv, h⟩ := bnd h
 refine ji_region ⟨[(4, .own Rp.byte 5 12 [] rv)], []⟩ (ro_oz 5 [kU (IntKind.u64.wrap (IntKind.i64.wrap ((IntKind.i64.wrap (8 * number)) + wire)))] rfl (lo_call [kU (IntKind.u64.wrap (IntKind.i64.wrap ((IntKind.i64.wrap (8 * number)) + wire)))] [1] 10 rfl Try.call21 (darningref02_Put_ok h_rv) rfl rfl rfl rfl rfl) rfl (by kernel_rfl)) ?_
 obtain rfl := sj h
 refine je_ret ?_
 refine le_px ⟨[(4, .own Rp.byte 5 12 [] rv)], []⟩ (by kernel_rfl) (le_rn 12 2 rfl (le_px ⟨[(4, .own Rp.byte 5 2 [] rv)], []⟩ (by kernel_rfl) ?_))
 exact le_z (by kernel_rfl)
theorem tag_Read_ok {b : (List UInt8)} {r : (T_Number_Wire × Int × Int)} (h : tag_Read b = some r) : FnOk Try.prog 7 [.sl Rp.byte [0] b] [.rc R_Number_Wire [] r.1, kI r.2.1, k8 r.2.2] := by
 refine fn_intro' (E := ⟨[(2, .ptr 2 0), (3, kI r.2.1), (4, k8 r.2.2)], [⟨2, 25, [kI r.1.Number, kI r.1.Wire]⟩]⟩) 35 Try.func7 rfl rfl rfl ⟨⟨_, _, rfl, rfl, rfl, rfl, ⟨Try.isAgg25, Try.sizeOf25⟩⟩, rfl, rfl, trivial⟩ (fun w0 F => ?_)
 refine ji_start ?_
 refine ji_le (E' := ⟨[(0, .sl Rp.byte [0] b)], []⟩) (fun _ _ _ hs => hs) ?_
 unfold tag_Read at h
 refine ji_region ⟨[(0, .sl Rp.byte [0] b), (2, .ptr 12 0)], [⟨12, 25, [kI 0, kI 0]⟩]⟩ (ro_oz 0 [] rfl (lo_alloc 12 [kI 0, kI 0] rfl Try.zeroValue25 rfl) rfl (by kernel_rfl)) ?_
 obtain ⟨rv, h_rv, h⟩ := bnd h
 refine ji_region ⟨[(2, .ptr 12 0), (5, kU rv.1), (6, kI rv.2.1), (7, k8 rv.2.2)], [⟨12, 25, [kI 0, kI 0]⟩]⟩ (ro_oz 1 [.sl Rp.byte [0] b] rfl (lo_call [.sl Rp.byte [0] b] [0] 11 rfl Try.call16 (varint_Read_ok h_rv) rfl rfl rfl rfl rfl) rfl (by kernel_rfl)) ?_
 refine ji_rz ⟨[(2, .ptr 12 0), (5, kU rv.1), (6, kI rv.2.1), (7, k8 rv.2.2), (17, kB (rv.2.2 != 0))], [⟨12, 25, [kI 0, kI 0]⟩]⟩ (by kernel_rfl) ?_
 rcases ite_some h with ⟨hc1, h⟩ | ⟨hc1, h⟩
 ·
  refine ji_condT rfl hc1 ?_
  refine ji_region ⟨[(2, .ptr 12 0), (3, kI 0), (4, k8 rv.2.2)], [⟨12, 25, [kI 0, kI 0]⟩]⟩ (ro_o 0 [] ⟨[(2, .ptr 12 0), (7, k8 rv.2.2), (18, .rc R_Number_Wire [] (⟨0, 0⟩ : T_Number_Wire))], [⟨12, 25, [kI 0, kI 0]⟩]⟩ rfl (lo_build (r := R_Number_Wire) [] [] (⟨0, 0⟩ : T_Number_Wire) rfl stt25 rfl rfl) rfl (by kernel_rfl) (ro_obz 1 [.ptr 12 0, .rc R_Number_Wire [] (⟨0, 0⟩ : T_Number_Wire)] [⟨12, 25, [kI 0, kI 0]⟩] rfl (lo_str (r := R_Number_Wire) (b := ⟨12, 25, [kI 0, kI 0]⟩) (off := 0) [kI 0, kI 0] rfl Try.sizeOf25 rfl rfl rfl rfl) rfl rfl (by kernel_rfl))) ?_
  obtain rfl := sj h
  refine je_ret ?_
  refine le_px ⟨[(2, .ptr 12 0), (3, kI 0), (4, k8 rv.2.2)], [⟨12, 25, [kI 0, kI 0]⟩]⟩ (by kernel_rfl) (le_rn 12 2 rfl (le_px ⟨[(2, .ptr 2 0), (3, kI 0), (4, k8 rv.2.2)], [⟨2, 25, [kI 0, kI 0]⟩]⟩ (by kernel_rfl) ?_))
  exact le_z (by kernel_rfl)
 refine ji_condF rfl hc1 ?_
 refine ji_region ⟨[(2, .ptr 12 0), (5, kU rv.1), (6, kI rv.2.1), (8, kU (if (536870912 : Int) < (shrI .u64 rv.1 3) then 536870912 else (shrI .u64 rv.1 3)))], [⟨12, 25, [kI 0, kI 0]⟩]⟩ (ro_oz 1 [kU rv.1, kU 3] rfl (lo_shr rfl rfl) rfl (by kernel_rfl)) ?_
 refine ji_region ⟨[(2, .ptr 12 0), (6, kI rv.2.1), (9, .ptr 13 0)], [⟨12, 25, [kI 0, kI 0]⟩, ⟨13, 25, [kI (IntKind.i64.wrap (if (536870912 : Int) < (shrI .u64 rv.1 3) then 536870912 else (shrI .u64 rv.1 3))), kI (IntKind.i64.wrap (andI .u64 rv.1 7))]⟩]⟩ (ro_o 5 [kI (IntKind.i64.wrap (if (536870912 : Int) < (shrI .u64 rv.1 3) then 536870912 else (shrI .u64 rv.1 3))), kI (IntKind.i64.wrap (andI .u64 rv.1 7))] ⟨[(2, .ptr 12 0), (6, kI rv.2.1), (28, .rc R_Number_Wire [] (⟨(IntKind.i64.wrap (if (536870912 : Int) < (shrI .u64 rv.1 3) then 536870912 else (shrI .u64 rv.1 3))), (IntKind.i64.wrap (andI .u64 rv.1 7))⟩ : T_Number_Wire))], [⟨12, 25, [kI 0, kI 0]⟩]⟩ rfl (lo_build (r := R_Number_Wire) [kI (IntKind.i64.wrap (if (536870912 : Int) < (shrI .u64 rv.1 3) then 536870912 else (shrI .u64 rv.1 3))), kI (IntKind.i64.wrap (andI .u64 rv.1 7))] [] (⟨(IntKind.i64.wrap (if (536870912 : Int) < (shrI .u64 rv.1 3) then 536870912 else (shrI .u64 rv.1 3))), (IntKind.i64.wrap (andI .u64 rv.1 7))⟩ : T_Number_Wire) rfl stt25 rfl rfl) rfl (by kernel_rfl) (ro_o 0 [] ⟨[(2, .ptr 12 0), (6, kI rv.2.1), (9, .ptr 13 0), (28, .rc R_Number_Wire [] (⟨(IntKind.i64.wrap (if (536870912 : Int) < (shrI .u64 rv.1 3) then 536870912 else (shrI .u64 rv.1 3))), (IntKind.i64.wrap (andI .u64 rv.1 7))⟩ : T_Number_Wire))], [⟨12, 25, [kI 0, kI 0]⟩, ⟨13, 25, [kI 0, kI 0]⟩]⟩ rfl (lo_alloc 13 [kI 0, kI 0] rfl Try.zeroValue25 rfl) rfl (by kernel_rfl) (ro_obz 0 [.ptr 13 0, .rc R_Number_Wire [] (⟨(IntKind.i64.wrap (if (536870912 : Int) < (shrI .u64 rv.1 3) then 536870912 else (shrI .u64 rv.1 3))), (IntKind.i64.wrap (andI .u64 rv.1 7))⟩ : T_Number_Wire)] [⟨13, 25, [kI 0, kI 0]⟩] rfl (lo_str (r := R_Number_Wire) (b := ⟨13, 25, [kI 0, kI 0]⟩) (off := 0) [kI (IntKind.i64.wrap (if (536870912 : Int) < (shrI .u64 rv.1 3) then 536870912 else (shrI .u64 rv.1 3))), kI (IntKind.i64.wrap (andI .u64 rv.1 7))] rfl Try.sizeOf25 rfl rfl rfl rfl) rfl rfl (by kernel_rfl)))) ?_
 obtain ⟨rv2, h_rv2, h⟩ := bnd h
 refine ji_region ⟨[(2, .ptr 12 0), (6, kI rv.2.1), (9, .ptr 13 0), (31, kB (!rv2))], [⟨12, 25, [kI 0, kI 0]⟩, ⟨13, 25, [kI (IntKind.i64.wrap (if (536870912 : Int) < (shrI .u64 rv.1 3) then 536870912 else (shrI .u64 rv.1 3))), kI (IntKind.i64.wrap (andI .u64 rv.1 7))]⟩]⟩ (ro_ob 0 [.ptr 13 0] [⟨13, 25, [kI (IntKind.i64.wrap (if (536870912 : Int) < (shrI .u64 rv.1 3) then 536870912 else (shrI .u64 rv.1 3))), kI (IntKind.i64.wrap (andI .u64 rv.1 7))]⟩] ⟨[(2, .ptr 12 0), (6, kI rv.2.1), (9, .ptr 13 0), (29, .rc R_Number_Wire [] (⟨(IntKind.i64.wrap (if (536870912 : Int) < (shrI .u64 rv.1 3) then 536870912 else (shrI .u64 rv.1 3))), (IntKind.i64.wrap (andI .u64 rv.1 7))⟩ : T_Number_Wire))], [⟨12, 25, [kI 0, kI 0]⟩, ⟨13, 25, [kI (IntKind.i64.wrap (if (536870912 : Int) < (shrI .u64 rv.1 3) then 536870912 else (shrI .u64 rv.1 3))), kI (IntKind.i64.wrap (andI .u64 rv.1 7))]⟩]⟩ rfl (lo_ldb (r := R_Number_Wire) (⟨(IntKind.i64.wrap (if (536870912 : Int) < (shrI .u64 rv.1 3) then 536870912 else (shrI .u64 rv.1 3))), (IntKind.i64.wrap (andI .u64 rv.1 7))⟩ : T_Number_Wire) [] rfl ⟨Try.isAgg25, Try.sizeOf25⟩ rfl rfl) rfl rfl (by kernel_rfl) (ro_oz 0 [.rc R_Number_Wire [] (⟨(IntKind.i64.wrap (if (536870912 : Int) < (shrI .u64 rv.1 3) then 536870912 else (shrI .u64 rv.1 3))), (IntKind.i64.wrap (andI .u64 rv.1 7))⟩ : T_Number_Wire)] rfl (lo_call [.rc R_Number_Wire [] (⟨(IntKind.i64.wrap (if (536870912 : Int) < (shrI .u64 rv.1 3) then 536870912 else (shrI .u64 rv.1 3))), (IntKind.i64.wrap (andI .u64 rv.1 7))⟩ : T_Number_Wire)] [1] 12 rfl Try.call11 (tag_Right_ok h_rv2) rfl rfl rfl rfl rfl) rfl (by kernel_rfl))) ?_
 rcases ite_some h with ⟨hc2, h⟩ | ⟨hc2, h⟩
 ·
  refine ji_condT rfl hc2 ?_
  refine ji_region ⟨[(2, .ptr 12 0), (3, kI 0), (4, k8 5)], [⟨12, 25, [kI 0, kI 0]⟩]⟩ (ro_o 0 [] ⟨[(2, .ptr 12 0), (32, .rc R_Number_Wire [] (⟨0, 0⟩ : T_Number_Wire))], [⟨12, 25, [kI 0, kI 0]⟩]⟩ rfl (lo_build (r := R_Number_Wire) [] [] (⟨0, 0⟩ : T_Number_Wire) rfl stt25 rfl rfl) rfl (by kernel_rfl) (ro_obz 0 [.ptr 12 0, .rc R_Number_Wire [] (⟨0, 0⟩ : T_Number_Wire)] [⟨12, 25, [kI 0, kI 0]⟩] rfl (lo_str (r := R_Number_Wire) (b := ⟨12, 25, [kI 0, kI 0]⟩) (off := 0) [kI 0, kI 0] rfl Try.sizeOf25 rfl rfl rfl rfl) rfl rfl (by kernel_rfl))) ?_
  obtain rfl := sj h
  refine je_ret ?_
  refine le_px ⟨[(2, .ptr 12 0), (3, kI 0), (4, k8 5)], [⟨12, 25, [kI 0, kI 0]⟩]⟩ (by kernel_rfl) (le_rn 12 2 rfl (le_px ⟨[(2, .ptr 2 0), (3, kI 0), (4, k8 5)], [⟨2, 25, [kI 0, kI 0]⟩]⟩ (by kernel_rfl) ?_))
  exact le_z (by kernel_rfl)
 refine ji_condF rfl hc2 ?_
 refine ji_region ⟨[(2, .ptr 12 0), (3, kI rv.2.1), (4, k8 0)], [⟨12, 25, [kI (IntKind.i64.wrap (if (536870912 : Int) < (shrI .u64 rv.1 3) then 536870912 else (shrI .u64 rv.1 3))), kI (IntKind.i64.wrap (andI .u64 rv.1 7))]⟩]⟩ (ro_ob 0 [.ptr 13 0] [⟨13, 25, [kI (IntKind.i64.wrap (if (536870912 : Int) < (shrI .u64 rv.1 3) then 536870912 else (shrI .u64 rv.1 3))), kI (IntKind.i64.wrap (andI .u64 rv.1 7))]⟩] ⟨[(2, .ptr 12 0), (6, kI rv.2.1), (33, .rc R_Number_Wire [] (⟨(IntKind.i64.wrap (if (536870912 : Int) < (shrI .u64 rv.1 3) then 536870912 else (shrI .u64 rv.1 3))), (IntKind.i64.wrap (andI .u64 rv.1 7))⟩ : T_Number_Wire))], [⟨12, 25, [kI 0, kI 0]⟩]⟩ rfl (lo_ldb (r := R_Number_Wire) (⟨(IntKind.i64.wrap (if (536870912 : Int) < (shrI .u64 rv.1 3) then 536870912 else (shrI .u64 rv.1 3))), (IntKind.i64.wrap (andI .u64 rv.1 7))⟩ : T_Number_Wire) [] rfl ⟨Try.isAgg25, Try.sizeOf25⟩ rfl rfl) rfl rfl (by kernel_rfl) (ro_obz 1 [.ptr 12 0, .rc R_Number_Wire [] (⟨(IntKind.i64.wrap (if (536870912 : Int) < (shrI .u64 rv.1 3) then 536870912 else (shrI .u64 rv.1 3))), (IntKind.i64.wrap (andI .u64 rv.1 7))⟩ : T_Number_Wire)] [⟨12, 25, [kI 0, kI 0]⟩] rfl (lo_str (r := R_Number_Wire) (b := ⟨12, 25, [kI 0, kI 0]⟩) (off := 0) [kI (IntKind.i64.wrap (if (536870912 : Int) < (shrI .u64 rv.1 3) then 536870912 else (shrI .u64 rv.1 3))), kI (IntKind.i64.wrap (andI .u64 rv.1 7))] rfl Try.sizeOf25 rfl rfl rfl rfl) rfl rfl (by kernel_rfl))) ?_
 obtain rfl := sj h
 refine je_ret ?_
 refine le_px ⟨[(2, .ptr 12 0), (3, kI rv.2.1), (4, k8 0)], [⟨12, 25, [kI (IntKind.i64.wrap (if (536870912 : Int) < (shrI .u64 rv.1 3) then 536870912 else (shrI .u64 rv.1 3))), kI (IntKind.i64.wrap (andI .u64 rv.1 7))]⟩]⟩ (by kernel_rfl) (le_rn 12 2 rfl (le_px ⟨[(2, .ptr 2 0), (3, kI rv.2.1), (4, k8 0)], [⟨2, 25, [kI (IntKind.i64.wrap (if (536870912 : Int) < (shrI .u64 rv.1 3) then 536870912 else (shrI .u64 rv.1 3))), kI (IntKind.i64.wrap (andI .u64 rv.1 7))]⟩]⟩ (by kernel_rfl) ?_))
 exact le_z (by kernel_rfl)
theorem tag_Put_ok {b : (List UInt8)} {t : T_Number_Wire} {r : ((List UInt8) × Int)} (h : tag_Put b t = some r) : FnOk Try.prog 9 [.sl Rp.byte [0] b, .rc R_Number_Wire [0] t] [.own Rp.byte 5 2 [] r.1, k8 r.2] := by
 refine fn_intro' (E := ⟨[(4, .own Rp.byte 5 2 [] r.1), (5, k8 r.2)], []⟩) 13 Try.func9 rfl rfl rfl ⟨rfl, rfl, trivial⟩ (fun w0 F => ?_)
 refine ji_start ?_
 refine ji_le (E' := ⟨[(0, .sl Rp.byte [0] b), (1, .rc R_Number_Wire [0] t)], []⟩) (fun _ _ _ hs => hs) ?_
 unfold tag_Put at h
 refine ji_region ⟨[(0, .sl Rp.byte [0] b), (3, .ptr 13 0)], [⟨13, 25, [kI t.Number, kI t.Wire]⟩]⟩ (ro_oz 0 [.rc R_Number_Wire [0] t] rfl (lo_box 13 [kI t.Number, kI t.Wire] [0] rfl rfl rfl rfl rfl) rfl (by kernel_rfl)) ?_
 obtain ⟨rv, h_rv, h⟩ := bnd h
 refine ji_region ⟨[(0, .sl Rp.byte [0] b), (3, .ptr 13 0), (8, kB (!rv))], [⟨13, 25, [kI t.Number, kI t.Wire]⟩]⟩ (ro_ob 0 [.ptr 13 0] [⟨13, 25, [kI t.Number, kI t.Wire]⟩] ⟨[(0, .sl Rp.byte [0] b), (3, .ptr 13 0), (6, .rc R_Number_Wire [] t)], [⟨13, 25, [kI t.Number, kI t.Wire]⟩]⟩ rfl (lo_ldb (r := R_Number_Wire) t [] rfl ⟨Try.isAgg25, Try.sizeOf25⟩ rfl rfl) rfl rfl (by kernel_rfl) (ro_oz 0 [.rc R_Number_Wire [] t] rfl (lo_call [.rc R_Number_Wire [] t] [1] 12 rfl Try.call11 (tag_Right_ok h_rv) rfl rfl rfl rfl rfl) rfl (by kernel_rfl))) ?_
 rcases ite_some h with ⟨hc1, h⟩ | ⟨hc1, h⟩
 ·
  refine ji_condT rfl hc1 ?_
  refine ji_rz ⟨[(4, kN), (5, k8 2)], []⟩ (by kernel_rfl) ?_
  obtain rfl := sj h
  refine je_ret ?_
  refine le_at 4 (.own Rp.byte 5 2 [] (([], 2) : ((List UInt8) × Int)).1) rfl (le_own_nil Rp.byte 5 2 [] rfl) ?_
  exact le_z (by kernel_rfl)
 refine ji_condF rfl hc1 ?_
 obtain ⟨rv2, h_rv2, h⟩ := bnd h
 obtain ⟨rv3, h_rv3, h⟩ := bnd h
 refine ji_region ⟨[(4, .own Rp.byte 5 14 [] rv3), (5, k8 0)], []⟩ (ro_ob 1 [.ptr 13 0] [⟨13, 25, [kI t.Number, kI t.Wire]⟩] ⟨[(9, .sl Rp.byte [0] b), (10, .rc R_Number_Wire [] t)], []⟩ rfl (lo_ldb (r := R_Number_Wire) t [] rfl ⟨Try.isAgg25, Try.sizeOf25⟩ rfl rfl) rfl rfl (by kernel_rfl) (ro_o 0 [.rc R_Number_Wire [] t] ⟨[(9, .sl Rp.byte [0] b), (11, kU rv2)], []⟩ rfl (lo_call [.rc R_Number_Wire [] t] [1] 12 rfl Try.call19 (tag_word_ok h_rv2) rfl rfl rfl rfl rfl) rfl (by kernel_rfl) (ro_oz 0 [.sl Rp.byte [0] b, kU rv2] rfl (lo_call [.sl Rp.byte [0] b, kU rv2] [0] 12 rfl Try.call18 (varint_Put_ok h_rv3) rfl rfl rfl rfl rfl) rfl (by kernel_rfl)))) ?_
 obtain rfl := sj h
 refine je_ret ?_
 refine le_px ⟨[(4, .own Rp.byte 5 14 [] rv3), (5, k8 0)], []⟩ (by kernel_rfl) (le_rn 14 2 rfl (le_px ⟨[(4, .own Rp.byte 5 2 [] rv3), (5, k8 0)], []⟩ (by kernel_rfl) ?_))
 exact le_z (by kernel_rfl)
theorem tag_Size_ok {t : T_Number_Wire} {r : Int} (h : tag_Size t = some r) : FnOk Try.prog 13 [.rc R_Number_Wire [0] t] [kI r] := by
 refine fn_intro' (E := ⟨[(2, kI r)], []⟩) 10 Try.func13 rfl rfl rfl ⟨rfl, trivial⟩ (fun w0 F => ?_)
 refine ji_start ?_
 refine ji_le (E' := ⟨[(0, .rc R_Number_Wire [0] t)], []⟩) (fun _ _ _ hs => hs) ?_
 unfold tag_Size at h
 refine ji_region ⟨[(1, .ptr 11 0)], [⟨11, 25, [kI t.Number, kI t.Wire]⟩]⟩ (ro_oz 0 [.rc R_Number_Wire [0] t] rfl (lo_box 11 [kI t.Number, kI t.Wire] [0] rfl rfl rfl rfl rfl) rfl (by kernel_rfl)) ?_
 obtain ⟨rv, h_rv, h⟩ := bnd h
 refine ji_region ⟨[(1, .ptr 11 0), (5, kB (!rv))], [⟨11, 25, [kI t.Number, kI t.Wire]⟩]⟩ (ro_ob 0 [.ptr 11 0] [⟨11, 25, [kI t.Number, kI t.Wire]⟩] ⟨[(1, .ptr 11 0), (3, .rc R_Number_Wire [] t)], [⟨11, 25, [kI t.Number, kI t.Wire]⟩]⟩ rfl (lo_ldb (r := R_Number_Wire) t [] rfl ⟨Try.isAgg25, Try.sizeOf25⟩ rfl rfl) rfl rfl (by kernel_rfl) (ro_oz 0 [.rc R_Number_Wire [] t] rfl (lo_call [.rc R_Number_Wire [] t] [1] 10 rfl Try.call11 (tag_Right_ok h_rv) rfl rfl rfl rfl rfl) rfl (by kernel_rfl))) ?_
 rcases ite_some h with ⟨hc1, h⟩ | ⟨hc1, h⟩
 ·
  refine ji_condT rfl hc1 ?_
  refine ji_rz ⟨[(2, kI 0)], []⟩ (by kernel_rfl) ?_
  obtain rfl := sj h
  exact je_ret (le_z (by kernel_rfl))
 refine ji_condF rfl hc1 ?_
 obtain ⟨rv2, h_rv2, h⟩ := bnd h
 obtain ⟨rv3, h_rv3, h⟩ := bnd h
 refine ji_region ⟨[(2, kI (rv3.length : Int))], []⟩ (ro_ob 0 [.ptr 11 0] [⟨11, 25, [kI t.Number, kI t.Wire]⟩] ⟨[(6, .rc R_Number_Wire [] t)], []⟩ rfl (lo_ldb (r := R_Number_Wire) t [] rfl ⟨Try.isAgg25, Try.sizeOf25⟩ rfl rfl) rfl rfl (by kernel_rfl) (ro_o 0 [.rc R_Number_Wire [] t] ⟨[(7, kU rv2)], []⟩ rfl (lo_call [.rc R_Number_Wire [] t] [1] 10 rfl Try.call19 (tag_word_ok h_rv2) rfl rfl rfl rfl rfl) rfl (by kernel_rfl) (ro_oz 0 [kN, kU rv2] rfl (lo_call [kN, kU rv2] [1] 10 rfl Try.call18 (FnOk.le (ins' := [kN, kU rv2]) (varint_Put_ok h_rv3) ⟨le_sl_nil _ _, AV.le_refl _, trivial⟩) rfl rfl rfl rfl rfl) rfl (by kernel_rfl)))) ?_
 obtain rfl := sj h
 exact je_ret (le_z (by kernel_rfl))
end Go.Proofs.Ytmggggknpgokbaa
