/-
  The Go functions do what the plain functions say. No condition.
-/
import Derived.Test.YtceeeodooljgpaaG1
namespace Go.Proofs.Ytceeeodooljgpaa
open Go Go.RowKit
set_option linter.unusedVariables false
set_option maxRecDepth 100000
theorem scalar_whole_ok {b : (List UInt8)} {r : (Int × Int)} (h : scalar_whole b = some r) : FnOk Try.prog 31 [.sl Rp.byte [0] b] [kU r.1, k8 r.2] := by
 refine fn_intro' (E := ⟨[(2, kU r.1), (3, k8 r.2)], []⟩) 22 Try.func31 rfl rfl rfl ⟨rfl, rfl, trivial⟩ (fun Xt => ?_)
 refine ji_start ?_
 refine ji_le (E' := ⟨[(0, .sl Rp.byte [0] b)], []⟩) (fun _ _ _ hs => hs) ?_
 unfold scalar_whole at h
 refine ji_rz ⟨[(0, .sl Rp.byte [0] b)], []⟩ (by kernel_rfl) ?_
 obtain ⟨rv, h_rv, h⟩ := bnd h
 refine ji_region ⟨[(0, .sl Rp.byte [0] b), (4, kU rv.1), (5, kI rv.2.1), (6, k8 rv.2.2)], []⟩ (ro_oz 1 [.sl Rp.byte [0] b] rfl (lo_call [.sl Rp.byte [0] b] [0] 9 rfl Try.call37 (varint_Read_ok h_rv) rfl rfl rfl rfl rfl) rfl (by kernel_rfl)) ?_
 refine ji_region ⟨[(4, kU rv.1), (20, kB ((rv.2.2 != 0) || (rv.2.1 != (b.length : Int))))], []⟩ ?_ ?_
 ·
  refine (ro_sp 3 15 (rv.2.2 != 0) ⟨[(0, .sl Rp.byte [0] b), (4, kU rv.1), (5, kI rv.2.1), (15, kB (rv.2.2 != 0))], []⟩ (by kernel_rfl) rfl (fun hc1 => ?_) (fun hc1 => ?_))
  · exact (ro_zb 20 true ((rv.2.2 != 0) || (rv.2.1 != (b.length : Int))) (by rw [hc1] <;> rfl) (by kernel_rfl) (by kernel_rfl))
  exact (ro_zb 20 (rv.2.1 != (b.length : Int)) ((rv.2.2 != 0) || (rv.2.1 != (b.length : Int))) (by rw [hc1] <;> rfl) (by kernel_rfl) (by kernel_rfl))
 rcases ite_some h with ⟨hc2, h⟩ | ⟨hc2, h⟩
 ·
  refine ji_condT rfl hc2 ?_
  refine ji_rz ⟨[(2, kU 0), (3, k8 12)], []⟩ (by kernel_rfl) ?_
  obtain rfl := sj h
  exact je_ret (le_z (by kernel_rfl))
 refine ji_condF rfl hc2 ?_
 refine ji_rz ⟨[(2, kU rv.1), (3, k8 0)], []⟩ (by kernel_rfl) ?_
 obtain rfl := sj h
 exact je_ret (le_z (by kernel_rfl))
theorem bits_Sign32_ok {wv : Int} {r : Int} (h : bits_Sign32 wv = some r) : FnOk Try.prog 34 [kU wv] [.lf (.int .i32 r)] := by
 refine fn_intro' (E := ⟨[(2, .lf (.int .i32 r))], []⟩) 6 Try.func34 rfl rfl rfl ⟨rfl, trivial⟩ (fun Xt => ?_)
 refine ji_start ?_
 refine ji_le (E' := ⟨[(0, kU wv)], []⟩) (fun _ _ _ hs => hs) ?_
 unfold bits_Sign32 at h
 refine ji_rz ⟨[(0, kU wv)], []⟩ (by kernel_rfl) ?_
 obtain ⟨rv, h_rv, h⟩ := bnd h
 refine ji_region ⟨[(2, .lf (.int .i32 (IntKind.i32.wrap rv)))], []⟩ (ro_oz 1 [kU wv] rfl (lo_call [kU wv] [1] 9 rfl Try.call35 (bits_Low32_ok h_rv) rfl rfl rfl rfl rfl) rfl (by kernel_rfl)) ?_
 obtain rfl := sj h
 exact je_ret (le_z (by kernel_rfl))
theorem varint_Put_ok {b : (List UInt8)} {wv : Int} {r : (List UInt8)} (h : varint_Put b wv = some r) : FnOk Try.prog 26 [.sl Rp.byte [0] b, kU wv] [.own Rp.byte 5 2 [] r] := by
 refine fn_intro' (E := ⟨[(4, .own Rp.byte 5 2 [] r)], []⟩) 30 Try.func26 rfl rfl rfl ⟨rfl, trivial⟩ (fun Xt => ?_)
 refine ji_start ?_
 refine ji_le (E' := ⟨[(0, .sl Rp.byte [0] b), (1, kU wv)], []⟩) (fun _ _ _ hs => hs) ?_
 unfold varint_Put at h
 refine ji_rz ⟨[(0, .sl Rp.byte [0] b), (1, kU wv)], []⟩ (by kernel_rfl) ?_
 obtain ⟨rv, h_rv, h⟩ := bnd h
 obtain ⟨v, h_v, h⟩ := bnd h
 refine ji_region ⟨[(0, .sl Rp.byte [0] b), (1, kU wv), (5, .own Rp.byte 5 12 [] v)], []⟩ (ro_o 3 [kU wv] ⟨[(0, .sl Rp.byte [0] b), (1, kU wv), (7, kI (b.length : Int)), (9, kI rv)], []⟩ rfl (lo_call [kU wv] [1] 10 rfl Try.call28 (bits_Len_ok h_rv) rfl rfl rfl rfl rfl) rfl (by kernel_rfl) (ro_oz 1 [kI 0, kI (IntKind.i64.wrap ((b.length : Int) + rv))] rfl (lo_make 12 rfl zet22 rfl h_v) rfl (by kernel_rfl))) ?_
 obtain ⟨v2, h_v2, h⟩ := bnd h
 refine ji_region ⟨[(1, kU wv), (5, .own Rp.byte 5 12 [] v2)], []⟩ (ro_oz 2 [.own Rp.byte 5 12 [] v, .sl Rp.byte [0] b] rfl (lo_app 12 [] rfl zet22.el rfl (isOwn_own _ _ _ _ _) (isSl_sl _ _ _) h_v2 (.inl plain_byte) rfl) rfl (by kernel_rfl)) ?_
 refine ji_block ?_
 obtain ⟨q, h_q, h⟩ := bnd h
 refine je_loop (fun s : (Int × (List UInt8)) => varint_Put_b1 s.1 s.2) (fun s => ⟨[(1, kU s.1), (5, .own Rp.byte 5 12 [] s.2)], []⟩) (fun o e a w => e = .exit 0 ∧ Sx ⟨⟨30, []⟩, Xt, false, #[]⟩ ⟨[(1, kU o.1), (5, .own Rp.byte 5 12 [] o.2)], []⟩ a w) ?_ h_q (le_z (by kernel_rfl)) ?_
 ·
  clear h
  intro s o h
  obtain ⟨wv2, l⟩ := s
  refine ji_start ?_
  refine ji_le (E' := ⟨[(1, kU wv2), (5, .own Rp.byte 5 12 [] l)], []⟩) (fun _ _ _ hs => hs) ?_
  replace h : varint_Put_b1 wv2 l = some o := h
  unfold varint_Put_b1 at h
  refine ji_rz ⟨[(1, kU wv2), (5, .own Rp.byte 5 12 [] l), (16, kB (decide (wv2 ≥ 128)))], []⟩ (by kernel_rfl) ?_
  rcases ite_some h with ⟨hc1, h⟩ | ⟨hc1, h⟩
  ·
   refine ji_condT rfl hc1 ?_
   refine ji_block ?_
   obtain ⟨y, h_y, h⟩ := bnd h
   obtain ⟨v3, h_v3, h⟩ := bnd h
   refine ji_region ⟨[(1, kU wv2), (5, .own Rp.byte 5 12 [] v3)], []⟩ (ro_o 4 [k8 (orI .u8 (IntKind.u8.wrap wv2) 128)] ⟨[(1, kU wv2), (19, .own Rp.byte 5 12 [] l), (23, .own Rp.byte 5 14 [] ([y] : List UInt8))], []⟩ rfl (LocalOk.le (ins' := [(.tmp 22, .lf (.int .u8 (orI .u8 (IntKind.u8.wrap wv2) 128)))]) (lo_bsl [.lf (.int .u8 (y.toNat : Int))] 14 [] [y] rfl zet22 rfl rfl rfl rfl) ⟨⟨rfl, le_byte h_y⟩, trivial⟩) rfl (by kernel_rfl) (ro_oz 0 [.own Rp.byte 5 12 [] l, .own Rp.byte 5 14 [] ([y] : List UInt8)] rfl (lo_app 12 [] rfl zet22.el rfl (isOwn_own _ _ _ _ _) (isSl_own _ _ _ _ _) h_v3 (.inl plain_byte) rfl) rfl (by kernel_rfl))) ?_
   refine ji_end ?_
   refine ji_region ⟨[(1, kU (shrI .u64 wv2 7)), (5, .own Rp.byte 5 12 [] v3)], []⟩ (ro_oz 1 [kU wv2, kU 7] rfl (lo_shr rfl rfl) rfl (by kernel_rfl)) ?_
   obtain rfl := sj h
   exact je_nil (le_z (by kernel_rfl))
  refine ji_condF rfl hc1 ?_
  obtain rfl := sj h
  exact je_out' rfl (le_z (by kernel_rfl))
 refine k_exit _ rfl ?_
 obtain ⟨y2, h_y2, h⟩ := bnd h
 obtain ⟨v4, h_v4, h⟩ := bnd h
 refine ji_region ⟨[(4, .own Rp.byte 5 12 [] v4)], []⟩ (ro_o 3 [k8 (IntKind.u8.wrap q.1)] ⟨[(25, .own Rp.byte 5 12 [] q.2), (28, .own Rp.byte 5 15 [] ([y2] : List UInt8))], []⟩ rfl (LocalOk.le (ins' := [(.tmp 27, .lf (.int .u8 (IntKind.u8.wrap q.1)))]) (lo_bsl [.lf (.int .u8 (y2.toNat : Int))] 15 [] [y2] rfl zet22 rfl rfl rfl rfl) ⟨⟨rfl, le_byte h_y2⟩, trivial⟩) rfl (by kernel_rfl) (ro_oz 0 [.own Rp.byte 5 12 [] q.2, .own Rp.byte 5 15 [] ([y2] : List UInt8)] rfl (lo_app 12 [] rfl zet22.el rfl (isOwn_own _ _ _ _ _) (isSl_own _ _ _ _ _) h_v4 (.inl plain_byte) rfl) rfl (by kernel_rfl))) ?_
 obtain rfl := sj h
 refine je_ret ?_
 refine le_px ⟨[(4, .own Rp.byte 5 12 [] v4)], []⟩ (by kernel_rfl) (le_rn 12 2 rfl (le_px ⟨[(4, .own Rp.byte 5 2 [] v4)], []⟩ (by kernel_rfl) ?_))
 exact le_z (by kernel_rfl)
theorem darningref05_Fits_ok {wire : Int} {value : (List UInt8)} {r : Bool} (h : darningref05_Fits wire value = some r) : FnOk Try.prog 19 [kI wire, .sl Rp.byte [0] value] [kB r] := by
 refine fn_intro' (E := ⟨[(4, kB r)], []⟩) 44 Try.func19 rfl rfl rfl ⟨rfl, trivial⟩ (fun Xt => ?_)
 refine ji_start ?_
 refine ji_le (E' := ⟨[(0, kI wire), (1, .sl Rp.byte [0] value)], []⟩) (fun _ _ _ hs => hs) ?_
 unfold darningref05_Fits at h
 refine ji_rz ⟨[(0, kI wire), (1, .sl Rp.byte [0] value)], []⟩ (by kernel_rfl) ?_
 refine ji_rz ⟨[(0, kI wire), (1, .sl Rp.byte [0] value), (9, kB (wire == 0))], []⟩ (by kernel_rfl) ?_
 rcases ite_some h with ⟨hc1, h⟩ | ⟨hc1, h⟩
 ·
  refine ji_condT rfl hc1 ?_
  obtain ⟨rv, h_rv, h⟩ := bnd h
  refine ji_region ⟨[(1, .sl Rp.byte [0] value), (6, kI rv.2.1), (7, kI rv.2.2)], []⟩ (ro_oz 1 [.sl Rp.byte [0] value, kI 0] rfl (lo_call [.sl Rp.byte [0] value, kI 0] [0] 9 rfl Try.call22 (darningref02_Read_ok h_rv) rfl rfl rfl rfl rfl) rfl (by kernel_rfl)) ?_
  refine ji_region ⟨[(4, kB ((rv.2.2 == 0) && (rv.2.1 == (value.length : Int))))], []⟩ ?_ ?_
  ·
   refine (ro_sp 3 18 (rv.2.2 == 0) ⟨[(1, .sl Rp.byte [0] value), (6, kI rv.2.1), (18, kB (rv.2.2 == 0))], []⟩ (by kernel_rfl) rfl (fun hc2 => ?_) (fun hc2 => ?_))
   · exact (ro_zb 4 (rv.2.1 == (value.length : Int)) ((rv.2.2 == 0) && (rv.2.1 == (value.length : Int))) (by rw [hc2] <;> rfl) (by kernel_rfl) (by kernel_rfl))
   exact (ro_zb 4 false ((rv.2.2 == 0) && (rv.2.1 == (value.length : Int))) (by rw [hc2] <;> rfl) (by kernel_rfl) (by kernel_rfl))
  obtain rfl := sj h
  exact je_ret (le_z (by kernel_rfl))
 refine ji_condF rfl hc1 ?_
 refine ji_region ⟨[(4, kB ((wire == 2) || (if (wire == 1) then (((value.length : Int) == 8) || ((wire == 5) && ((value.length : Int) == 4))) else ((wire == 5) && ((value.length : Int) == 4)))))], []⟩ ?_ ?_
 ·
  refine (ro_sp 3 26 (wire == 2) ⟨[(0, kI wire), (1, .sl Rp.byte [0] value), (26, kB (wire == 2))], []⟩ (by kernel_rfl) rfl (fun hc3 => ?_) (fun hc3 => ?_))
  · exact (ro_zb 4 true ((wire == 2) || (if (wire == 1) then (((value.length : Int) == 8) || ((wire == 5) && ((value.length : Int) == 4))) else ((wire == 5) && ((value.length : Int) == 4)))) (by rw [hc3] <;> rfl) (by kernel_rfl) (by kernel_rfl))
  refine (ro_sp 3 29 (wire == 1) ⟨[(0, kI wire), (1, .sl Rp.byte [0] value), (26, kB false), (29, kB (wire == 1))], []⟩ (by kernel_rfl) rfl (fun hc4 => ?_) (fun hc4 => ?_))
  ·
   refine (ro_sp 6 35 ((value.length : Int) == 8) ⟨[(0, kI wire), (1, .sl Rp.byte [0] value), (35, kB ((value.length : Int) == 8))], []⟩ (by kernel_rfl) rfl (fun hc5 => ?_) (fun hc5 => ?_))
   · exact (ro_zb 4 true ((wire == 2) || (if (wire == 1) then (((value.length : Int) == 8) || ((wire == 5) && ((value.length : Int) == 4))) else ((wire == 5) && ((value.length : Int) == 4)))) (by rw [hc3, hc4, hc5] <;> rfl) (by kernel_rfl) (by kernel_rfl))
   refine (ro_sp 3 38 (wire == 5) ⟨[(1, .sl Rp.byte [0] value), (35, kB false), (38, kB (wire == 5))], []⟩ (by kernel_rfl) rfl (fun hc6 => ?_) (fun hc6 => ?_))
   · exact (ro_zb 4 ((value.length : Int) == 4) ((wire == 2) || (if (wire == 1) then (((value.length : Int) == 8) || ((wire == 5) && ((value.length : Int) == 4))) else ((wire == 5) && ((value.length : Int) == 4)))) (by rw [hc3, hc4, hc5, hc6] <;> rfl) (by kernel_rfl) (by kernel_rfl))
   exact (ro_zb 4 false ((wire == 2) || (if (wire == 1) then (((value.length : Int) == 8) || ((wire == 5) && ((value.length : Int) == 4))) else ((wire == 5) && ((value.length : Int) == 4)))) (by rw [hc3, hc4, hc5, hc6] <;> rfl) (by kernel_rfl) (by kernel_rfl))
  refine (ro_sp 9 38 (wire == 5) ⟨[(1, .sl Rp.byte [0] value), (35, kB false), (38, kB (wire == 5))], []⟩ (by kernel_rfl) rfl (fun hc7 => ?_) (fun hc7 => ?_))
  · exact (ro_zb 4 ((value.length : Int) == 4) ((wire == 2) || (if (wire == 1) then (((value.length : Int) == 8) || ((wire == 5) && ((value.length : Int) == 4))) else ((wire == 5) && ((value.length : Int) == 4)))) (by rw [hc3, hc4, hc7] <;> rfl) (by kernel_rfl) (by kernel_rfl))
  exact (ro_zb 4 false ((wire == 2) || (if (wire == 1) then (((value.length : Int) == 8) || ((wire == 5) && ((value.length : Int) == 4))) else ((wire == 5) && ((value.length : Int) == 4)))) (by rw [hc3, hc4, hc7] <;> rfl) (by kernel_rfl) (by kernel_rfl))
 obtain rfl := sj h
 exact je_ret (le_z (by kernel_rfl))
theorem darningref06_Canon_ok {k : Int} {wv : Int} {r : Int} (h : darningref06_Canon k wv = some r) : FnOk Try.prog 16 [kI k, kU wv] [kU r] := by
 refine fn_intro' (E := ⟨[(4, kU r)], []⟩) 25 Try.func16 rfl rfl rfl ⟨rfl, trivial⟩ (fun Xt => ?_)
 refine ji_start ?_
 refine ji_le (E' := ⟨[(0, kI k), (1, kU wv)], []⟩) (fun _ _ _ hs => hs) ?_
 unfold darningref06_Canon at h
 refine ji_rz ⟨[(0, kI k), (1, kU wv)], []⟩ (by kernel_rfl) ?_
 refine ji_rz ⟨[(1, kU wv), (5, kI k)], []⟩ (by kernel_rfl) ?_
 refine ji_block ?_
 refine ji_rz ⟨[(1, kU wv), (5, kI k), (6, kB (k == 1))], []⟩ (by kernel_rfl) ?_
 obtain ⟨p, h_p, h⟩ := bnd h
 refine ji_join (R := fun e a w => e = .normal ∧ Sx ⟨⟨25, []⟩, Xt, false, #[]⟩ ⟨[(1, kU wv), (5, kI k), (6, kB p)], []⟩ a w) ?_ ?_
 ·
  replace h := h_p
  refine ji_start ?_
  rcases ite_some h with ⟨hc1, h⟩ | ⟨hc1, h⟩
  ·
   refine ji_condT rfl hc1 ?_
   obtain rfl := sj h
   exact je_nil (le_z (by kernel_rfl))
  refine ji_condF rfl hc1 ?_
  refine ji_rz ⟨[(1, kU wv), (5, kI k), (6, kB (k == 8))], []⟩ (by kernel_rfl) ?_
  obtain rfl := sj h
  exact je_nil (le_z (by kernel_rfl))
 refine k_norm ?_
 rcases ite_some h with ⟨hc2, h⟩ | ⟨hc2, h⟩
 ·
  refine ji_condT rfl hc2 ?_
  obtain ⟨rv, h_rv, h⟩ := bnd h
  obtain ⟨rv2, h_rv2, h⟩ := bnd h
  refine ji_region ⟨[(4, kU rv2)], []⟩ (ro_o 1 [kU wv] ⟨[(10, kI rv)], []⟩ rfl (lo_call [kU wv] [1] 9 rfl Try.call30 (darningref01_Sign32_ok h_rv) rfl rfl rfl rfl rfl) rfl (by kernel_rfl) (ro_oz 0 [kI rv] rfl (lo_call [kI rv] [1] 9 rfl Try.call29 (darningref01_Wide_ok h_rv2) rfl rfl rfl rfl rfl) rfl (by kernel_rfl))) ?_
  obtain rfl := sj h
  exact je_ret (le_z (by kernel_rfl))
 refine ji_condF rfl hc2 ?_
 refine ji_rz ⟨[(1, kU wv), (5, kI k), (12, kB (k == 3))], []⟩ (by kernel_rfl) ?_
 obtain ⟨p2, h_p2, h⟩ := bnd h
 refine ji_join (R := fun e a w => e = .normal ∧ Sx ⟨⟨25, []⟩, Xt, false, #[]⟩ ⟨[(1, kU wv), (5, kI k), (12, kB p2)], []⟩ a w) ?_ ?_
 ·
  replace h := h_p2
  refine ji_start ?_
  rcases ite_some h with ⟨hc3, h⟩ | ⟨hc3, h⟩
  ·
   refine ji_condT rfl hc3 ?_
   obtain rfl := sj h
   exact je_nil (le_z (by kernel_rfl))
  refine ji_condF rfl hc3 ?_
  refine ji_rz ⟨[(1, kU wv), (5, kI k), (12, kB (k == 5))], []⟩ (by kernel_rfl) ?_
  rcases ite_some h with ⟨hc4, h⟩ | ⟨hc4, h⟩
  ·
   refine ji_condT rfl hc4 ?_
   obtain rfl := sj h
   exact je_nil (le_z (by kernel_rfl))
  refine ji_condF rfl hc4 ?_
  refine ji_rz ⟨[(1, kU wv), (5, kI k), (12, kB (k == 9))], []⟩ (by kernel_rfl) ?_
  rcases ite_some h with ⟨hc5, h⟩ | ⟨hc5, h⟩
  ·
   refine ji_condT rfl hc5 ?_
   obtain rfl := sj h
   exact je_nil (le_z (by kernel_rfl))
  refine ji_condF rfl hc5 ?_
  refine ji_rz ⟨[(1, kU wv), (5, kI k), (12, kB (k == 10))], []⟩ (by kernel_rfl) ?_
  rcases ite_some h with ⟨hc6, h⟩ | ⟨hc6, h⟩
  ·
   refine ji_condT rfl hc6 ?_
   obtain rfl := sj h
   exact je_nil (le_z (by kernel_rfl))
  refine ji_condF rfl hc6 ?_
  refine ji_rz ⟨[(1, kU wv), (5, kI k), (12, kB (k == 11))], []⟩ (by kernel_rfl) ?_
  obtain rfl := sj h
  exact je_nil (le_z (by kernel_rfl))
 refine k_norm ?_
 rcases ite_some h with ⟨hc7, h⟩ | ⟨hc7, h⟩
 ·
  refine ji_condT rfl hc7 ?_
  refine ji_rz ⟨[(4, kU (Int.tmod wv 4294967296))], []⟩ (by kernel_rfl) ?_
  obtain rfl := sj h
  exact je_ret (le_z (by kernel_rfl))
 refine ji_condF rfl hc7 ?_
 refine ji_rz ⟨[(1, kU wv), (20, kB (k == 7))], []⟩ (by kernel_rfl) ?_
 rcases ite_some h with ⟨hc8, h⟩ | ⟨hc8, h⟩
 ·
  refine ji_condT rfl hc8 ?_
  refine ji_rz ⟨[(23, kB (decide (wv > 0)))], []⟩ (by kernel_rfl) ?_
  rcases ite_some h with ⟨hc9, h⟩ | ⟨hc9, h⟩
  ·
   refine ji_condT rfl hc9 ?_
   refine ji_rz ⟨[(4, kU 1)], []⟩ (by kernel_rfl) ?_
   obtain rfl := sj h
   exact je_ret (le_z (by kernel_rfl))
  refine ji_condF rfl hc9 ?_
  refine ji_rz ⟨[(4, kU 0)], []⟩ (by kernel_rfl) ?_
  obtain rfl := sj h
  exact je_ret (le_z (by kernel_rfl))
 refine ji_condF rfl hc8 ?_
 refine ji_end ?_
 refine ji_rz ⟨[(4, kU wv)], []⟩ (by kernel_rfl) ?_
 obtain rfl := sj h
 exact je_ret (le_z (by kernel_rfl))
end Go.Proofs.Ytceeeodooljgpaa
