/-
  The Go functions do what the plain functions say. No condition.
-/
import Derived.Test.YthkdneddbbocmaaT
namespace Go.Proofs.Ythkdneddbbocmaa
open Go Go.RowKit
set_option linter.unusedVariables false
set_option maxRecDepth 100000
theorem scalar_width_ok {k : Int} {r : (Int × Int)} (h : scalar_width k = some r) : FnOk Try.prog 42 [kI k] [kI r.1, k8 r.2] := by
 refine fn_intro' (E := ⟨[(2, kI r.1), (3, k8 r.2)], []⟩) 22 Try.func42 rfl rfl rfl ⟨rfl, rfl, trivial⟩ (fun Xt => ?_)
 refine ji_start ?_
 refine ji_le (E' := ⟨[(0, kI k)], []⟩) (fun _ _ _ hs => hs) ?_
 unfold scalar_width at h
 refine ji_rz ⟨[(0, kI k)], []⟩ (by kernel_rfl) ?_
 refine ji_rz ⟨[(4, kI k)], []⟩ (by kernel_rfl) ?_
 refine ji_block ?_
 refine ji_rz ⟨[(4, kI k), (5, kB (k == 1))], []⟩ (by kernel_rfl) ?_
 obtain ⟨p, h_p, h⟩ := bnd h
 refine ji_join (R := fun e a w => e = .normal ∧ Sx ⟨⟨22, []⟩, Xt, false, #[]⟩ ⟨[(4, kI k), (5, kB p)], []⟩ a w) ?_ ?_
 ·
  replace h := h_p
  refine ji_start ?_
  rcases ite_some h with ⟨hc1, h⟩ | ⟨hc1, h⟩
  ·
   refine ji_condT rfl hc1 ?_
   obtain rfl := sj h
   exact je_nil (le_z (by kernel_rfl))
  refine ji_condF rfl hc1 ?_
  refine ji_rz ⟨[(4, kI k), (5, kB (k == 2))], []⟩ (by kernel_rfl) ?_
  rcases ite_some h with ⟨hc2, h⟩ | ⟨hc2, h⟩
  ·
   refine ji_condT rfl hc2 ?_
   obtain rfl := sj h
   exact je_nil (le_z (by kernel_rfl))
  refine ji_condF rfl hc2 ?_
  refine ji_rz ⟨[(4, kI k), (5, kB (k == 3))], []⟩ (by kernel_rfl) ?_
  rcases ite_some h with ⟨hc3, h⟩ | ⟨hc3, h⟩
  ·
   refine ji_condT rfl hc3 ?_
   obtain rfl := sj h
   exact je_nil (le_z (by kernel_rfl))
  refine ji_condF rfl hc3 ?_
  refine ji_rz ⟨[(4, kI k), (5, kB (k == 4))], []⟩ (by kernel_rfl) ?_
  rcases ite_some h with ⟨hc4, h⟩ | ⟨hc4, h⟩
  ·
   refine ji_condT rfl hc4 ?_
   obtain rfl := sj h
   exact je_nil (le_z (by kernel_rfl))
  refine ji_condF rfl hc4 ?_
  refine ji_rz ⟨[(4, kI k), (5, kB (k == 5))], []⟩ (by kernel_rfl) ?_
  rcases ite_some h with ⟨hc5, h⟩ | ⟨hc5, h⟩
  ·
   refine ji_condT rfl hc5 ?_
   obtain rfl := sj h
   exact je_nil (le_z (by kernel_rfl))
  refine ji_condF rfl hc5 ?_
  refine ji_rz ⟨[(4, kI k), (5, kB (k == 6))], []⟩ (by kernel_rfl) ?_
  rcases ite_some h with ⟨hc6, h⟩ | ⟨hc6, h⟩
  ·
   refine ji_condT rfl hc6 ?_
   obtain rfl := sj h
   exact je_nil (le_z (by kernel_rfl))
  refine ji_condF rfl hc6 ?_
  refine ji_rz ⟨[(4, kI k), (5, kB (k == 7))], []⟩ (by kernel_rfl) ?_
  rcases ite_some h with ⟨hc7, h⟩ | ⟨hc7, h⟩
  ·
   refine ji_condT rfl hc7 ?_
   obtain rfl := sj h
   exact je_nil (le_z (by kernel_rfl))
  refine ji_condF rfl hc7 ?_
  refine ji_rz ⟨[(4, kI k), (5, kB (k == 8))], []⟩ (by kernel_rfl) ?_
  obtain rfl := sj h
  exact je_nil (le_z (by kernel_rfl))
 refine k_norm ?_
 rcases ite_some h with ⟨hc8, h⟩ | ⟨hc8, h⟩
 ·
  refine ji_condT rfl hc8 ?_
  refine ji_rz ⟨[(2, kI 0), (3, k8 0)], []⟩ (by kernel_rfl) ?_
  obtain rfl := sj h
  exact je_ret (le_z (by kernel_rfl))
 refine ji_condF rfl hc8 ?_
 refine ji_rz ⟨[(4, kI k), (14, kB (k == 9))], []⟩ (by kernel_rfl) ?_
 obtain ⟨p2, h_p2, h⟩ := bnd h
 refine ji_join (R := fun e a w => e = .normal ∧ Sx ⟨⟨22, []⟩, Xt, false, #[]⟩ ⟨[(4, kI k), (14, kB p2)], []⟩ a w) ?_ ?_
 ·
  replace h := h_p2
  refine ji_start ?_
  rcases ite_some h with ⟨hc9, h⟩ | ⟨hc9, h⟩
  ·
   refine ji_condT rfl hc9 ?_
   obtain rfl := sj h
   exact je_nil (le_z (by kernel_rfl))
  refine ji_condF rfl hc9 ?_
  refine ji_rz ⟨[(4, kI k), (14, kB (k == 10))], []⟩ (by kernel_rfl) ?_
  rcases ite_some h with ⟨hc10, h⟩ | ⟨hc10, h⟩
  ·
   refine ji_condT rfl hc10 ?_
   obtain rfl := sj h
   exact je_nil (le_z (by kernel_rfl))
  refine ji_condF rfl hc10 ?_
  refine ji_rz ⟨[(4, kI k), (14, kB (k == 11))], []⟩ (by kernel_rfl) ?_
  obtain rfl := sj h
  exact je_nil (le_z (by kernel_rfl))
 refine k_norm ?_
 rcases ite_some h with ⟨hc11, h⟩ | ⟨hc11, h⟩
 ·
  refine ji_condT rfl hc11 ?_
  refine ji_rz ⟨[(2, kI 4), (3, k8 0)], []⟩ (by kernel_rfl) ?_
  obtain rfl := sj h
  exact je_ret (le_z (by kernel_rfl))
 refine ji_condF rfl hc11 ?_
 refine ji_rz ⟨[(4, kI k), (18, kB (k == 12))], []⟩ (by kernel_rfl) ?_
 rcases ite_some h with ⟨hc12, h⟩ | ⟨hc12, h⟩
 ·
  refine ji_condT rfl hc12 ?_
  rcases ite_some h with ⟨hc13, h⟩ | ⟨hc13, h⟩
  ·
   refine ji_condT rfl hc13 ?_
   refine ji_rz ⟨[(2, kI 8), (3, k8 0)], []⟩ (by kernel_rfl) ?_
   obtain rfl := sj h
   exact je_ret (le_z (by kernel_rfl))
  refine ji_condF rfl hc13 ?_
  refine ji_end ?_
  refine ji_rz ⟨[(2, kI 0), (3, k8 2)], []⟩ (by kernel_rfl) ?_
  obtain rfl := sj h
  exact je_ret (le_z (by kernel_rfl))
 refine ji_condF rfl hc12 ?_
 refine ji_rz ⟨[(4, kI k), (18, kB (k == 13))], []⟩ (by kernel_rfl) ?_
 rcases ite_some h with ⟨hc14, h⟩ | ⟨hc14, h⟩
 ·
  refine ji_condT rfl hc14 ?_
  rcases ite_some h with ⟨hc15, h⟩ | ⟨hc15, h⟩
  ·
   refine ji_condT rfl hc15 ?_
   refine ji_rz ⟨[(2, kI 8), (3, k8 0)], []⟩ (by kernel_rfl) ?_
   obtain rfl := sj h
   exact je_ret (le_z (by kernel_rfl))
  refine ji_condF rfl hc15 ?_
  refine ji_end ?_
  refine ji_rz ⟨[(2, kI 0), (3, k8 2)], []⟩ (by kernel_rfl) ?_
  obtain rfl := sj h
  exact je_ret (le_z (by kernel_rfl))
 refine ji_condF rfl hc14 ?_
 refine ji_rz ⟨[(18, kB (k == 14))], []⟩ (by kernel_rfl) ?_
 rcases ite_some h with ⟨hc16, h⟩ | ⟨hc16, h⟩
 ·
  refine ji_condT rfl hc16 ?_
  refine ji_rz ⟨[(2, kI 8), (3, k8 0)], []⟩ (by kernel_rfl) ?_
  obtain rfl := sj h
  exact je_ret (le_z (by kernel_rfl))
 refine ji_condF rfl hc16 ?_
 refine ji_end ?_
 refine ji_rz ⟨[(2, kI 0), (3, k8 2)], []⟩ (by kernel_rfl) ?_
 obtain rfl := sj h
 exact je_ret (le_z (by kernel_rfl))
theorem bits_Low32_ok {wv : Int} {r : Int} (h : bits_Low32 wv = some r) : FnOk Try.prog 50 [kU wv] [.lf (.int .u32 r)] := by
 refine fn_intro' (E := ⟨[(2, .lf (.int .u32 r))], []⟩) 5 Try.func50 rfl rfl rfl ⟨rfl, trivial⟩ (fun Xt => ?_)
 refine ji_start ?_
 refine ji_le (E' := ⟨[(0, kU wv)], []⟩) (fun _ _ _ hs => hs) ?_
 unfold bits_Low32 at h
 refine ji_rz ⟨[(0, kU wv)], []⟩ (by kernel_rfl) ?_
 refine ji_rz ⟨[(2, .lf (.int .u32 (IntKind.u32.wrap wv)))], []⟩ (by kernel_rfl) ?_
 obtain rfl := sj h
 exact je_ret (le_z (by kernel_rfl))
theorem bits_Wide32_ok {n : Int} {r : Int} (h : bits_Wide32 n = some r) : FnOk Try.prog 48 [.lf (.int .i32 n)] [kU r] := by
 refine fn_intro' (E := ⟨[(2, kU r)], []⟩) 6 Try.func48 rfl rfl rfl ⟨rfl, trivial⟩ (fun Xt => ?_)
 refine ji_start ?_
 refine ji_le (E' := ⟨[(0, .lf (.int .i32 n))], []⟩) (fun _ _ _ hs => hs) ?_
 unfold bits_Wide32 at h
 refine ji_rz ⟨[(0, .lf (.int .i32 n))], []⟩ (by kernel_rfl) ?_
 refine ji_rz ⟨[(2, kU (IntKind.u64.wrap (IntKind.i64.wrap n)))], []⟩ (by kernel_rfl) ?_
 obtain rfl := sj h
 exact je_ret (le_z (by kernel_rfl))
theorem kind_truth_ok {wv : Int} {r : Int} (h : kind_truth wv = some r) : FnOk Try.prog 51 [kU wv] [kU r] := by
 refine fn_intro' (E := ⟨[(2, kU r)], []⟩) 5 Try.func51 rfl rfl rfl ⟨rfl, trivial⟩ (fun Xt => ?_)
 refine ji_start ?_
 refine ji_le (E' := ⟨[(0, kU wv)], []⟩) (fun _ _ _ hs => hs) ?_
 unfold kind_truth at h
 refine ji_rz ⟨[(0, kU wv)], []⟩ (by kernel_rfl) ?_
 refine ji_rz ⟨[(2, kU (if (1 : Int) < wv then 1 else wv))], []⟩ (by kernel_rfl) ?_
 obtain rfl := sj h
 exact je_ret (le_z (by kernel_rfl))
theorem bits_Len_ok {wv : Int} {r : Int} (h : bits_Len wv = some r) : FnOk Try.prog 55 [kU wv] [kI r] := by
 refine fn_intro' (E := ⟨[(2, kI r)], []⟩) 13 Try.func55 rfl rfl rfl ⟨rfl, trivial⟩ (fun Xt => ?_)
 refine ji_start ?_
 refine ji_le (E' := ⟨[(0, kU wv)], []⟩) (fun _ _ _ hs => hs) ?_
 unfold bits_Len at h
 refine ji_rz ⟨[(0, kU wv)], []⟩ (by kernel_rfl) ?_
 refine ji_rz ⟨[(0, kU wv), (3, kI 1)], []⟩ (by kernel_rfl) ?_
 refine ji_region ⟨[(0, kU (shrI .u64 wv 7)), (3, kI 1)], []⟩ (ro_oz 1 [kU wv, kU 7] rfl (lo_shr rfl rfl) rfl (by kernel_rfl)) ?_
 refine ji_block ?_
 obtain ⟨q, h_q, h⟩ := bnd h
 refine je_loop (fun s : (Int × Int) => bits_Len_b1 s.1 s.2) (fun s => ⟨[(0, kU s.1), (3, kI s.2)], []⟩) (fun o e a w => e = .exit 0 ∧ Sx ⟨⟨13, []⟩, Xt, false, #[]⟩ ⟨[(3, kI o)], []⟩ a w) ?_ h_q (le_z (by kernel_rfl)) ?_
 ·
  clear h
  intro s o h
  obtain ⟨wv2, n⟩ := s
  refine ji_start ?_
  refine ji_le (E' := ⟨[(0, kU wv2), (3, kI n)], []⟩) (fun _ _ _ hs => hs) ?_
  replace h : bits_Len_b1 wv2 n = some o := h
  unfold bits_Len_b1 at h
  refine ji_rz ⟨[(0, kU wv2), (3, kI n), (7, kB (wv2 != 0))], []⟩ (by kernel_rfl) ?_
  rcases ite_some h with ⟨hc1, h⟩ | ⟨hc1, h⟩
  ·
   refine ji_condT rfl hc1 ?_
   refine ji_block ?_
   refine ji_rz ⟨[(0, kU wv2), (3, kI (IntKind.i64.wrap (n + 1)))], []⟩ (by kernel_rfl) ?_
   refine ji_end ?_
   refine ji_region ⟨[(0, kU (shrI .u64 wv2 7)), (3, kI (IntKind.i64.wrap (n + 1)))], []⟩ (ro_oz 1 [kU wv2, kU 7] rfl (lo_shr rfl rfl) rfl (by kernel_rfl)) ?_
   obtain rfl := sj h
   exact je_nil (le_z (by kernel_rfl))
  refine ji_condF rfl hc1 ?_
  obtain rfl := sj h
  exact je_out' rfl (le_z (by kernel_rfl))
 refine k_exit _ rfl ?_
 refine ji_rz ⟨[(2, kI q)], []⟩ (by kernel_rfl) ?_
 obtain rfl := sj h
 exact je_ret (le_z (by kernel_rfl))
theorem varint_Read_ok {b : (List UInt8)} {r : (Int × Int × Int)} (h : varint_Read b = some r) : FnOk Try.prog 54 [.sl Rp.byte [0] b] [kU r.1, kI r.2.1, k8 r.2.2] := by
 refine fn_intro' (E := ⟨[(2, kU r.1), (3, kI r.2.1), (4, k8 r.2.2)], []⟩) 38 Try.func54 rfl rfl rfl ⟨rfl, rfl, rfl, trivial⟩ (fun Xt => ?_)
 refine ji_start ?_
 refine ji_le (E' := ⟨[(0, .sl Rp.byte [0] b)], []⟩) (fun _ _ _ hs => hs) ?_
 unfold varint_Read at h
 refine ji_rz ⟨[(0, .sl Rp.byte [0] b), (2, kU 0)], []⟩ (by kernel_rfl) ?_
 obtain ⟨v, h_v, h⟩ := bnd h
 refine ji_region ⟨[(2, kU 0), (11, .sl Rp.byte [0] v), (12, kI (v.length : Int)), (13, kI 0)], []⟩ (ro_oz 4 [.sl Rp.byte [0] b, kI (if (10 : Int) < (b.length : Int) then 10 else (b.length : Int))] rfl (lo_cut none (some (kI (if (10 : Int) < (b.length : Int) then 10 else (b.length : Int)))) rfl zet22.el (isSl_sl _ _ _) ⟨rfl, rfl⟩ ⟨rfl, rfl⟩ h_v) rfl (by kernel_rfl)) ?_
 refine ji_block ?_
 obtain ⟨q, h_q, h⟩ := bnd h
 refine je_loop (fun s : (Int × Int) => varint_Read_b1 v s.1 s.2) (fun s => ⟨[(2, kU s.1), (11, .sl Rp.byte [0] v), (12, kI (v.length : Int)), (13, kI s.2)], []⟩) (fun o e a w => match o with | (.inl v_) => e = .exit 0 ∧ Sx ⟨⟨38, []⟩, Xt, false, #[]⟩ ⟨[], []⟩ a w | (.inr v_) => e = .ret ∧ Sx ⟨⟨38, []⟩, Xt, false, #[]⟩ ⟨[(2, kU v_.1), (3, kI v_.2.1), (4, k8 v_.2.2)], []⟩ a w) ?_ h_q (le_z (by kernel_rfl)) ?_
 ·
  clear h
  intro s o h
  obtain ⟨wv, v2⟩ := s
  refine ji_start ?_
  refine ji_le (E' := ⟨[(2, kU wv), (11, .sl Rp.byte [0] v), (12, kI (v.length : Int)), (13, kI v2)], []⟩) (fun _ _ _ hs => hs) ?_
  replace h : varint_Read_b1 v wv v2 = some o := h
  unfold varint_Read_b1 at h
  refine ji_rz ⟨[(2, kU wv), (11, .sl Rp.byte [0] v), (12, kI (v.length : Int)), (13, kI v2), (14, kB (decide (v2 < (v.length : Int))))], []⟩ (by kernel_rfl) ?_
  rcases ite_some h with ⟨hc1, h⟩ | ⟨hc1, h⟩
  ·
   refine ji_condT rfl hc1 ?_
   refine ji_block ?_
   obtain ⟨x, h_x, h⟩ := bnd h
   refine ji_region ⟨[(2, kU wv), (5, kI v2), (6, k8 (x.toNat : Int)), (11, .sl Rp.byte [0] v), (12, kI (v.length : Int)), (13, kI v2)], []⟩ (ro_oz 1 [.sl Rp.byte [0] v, kI v2] rfl (lo_ix rfl zet22.el (isSl_sl _ _ _) h_x) rfl (by kernel_rfl)) ?_
   refine ji_region ⟨[(2, kU wv), (5, kI v2), (6, k8 (x.toNat : Int)), (11, .sl Rp.byte [0] v), (12, kI (v.length : Int)), (13, kI v2), (23, kB ((v2 == 9) && (decide ((x.toNat : Int) > 1))))], []⟩ ?_ ?_
   ·
    refine (ro_sp 3 20 (v2 == 9) ⟨[(2, kU wv), (5, kI v2), (6, k8 (x.toNat : Int)), (11, .sl Rp.byte [0] v), (12, kI (v.length : Int)), (13, kI v2), (20, kB (v2 == 9))], []⟩ (by kernel_rfl) rfl (fun hc2 => ?_) (fun hc2 => ?_))
    · exact (ro_zb 23 (decide ((x.toNat : Int) > 1)) ((v2 == 9) && (decide ((x.toNat : Int) > 1))) (by rw [hc2] <;> rfl) (by kernel_rfl) (by kernel_rfl))
    exact (ro_zb 23 false ((v2 == 9) && (decide ((x.toNat : Int) > 1))) (by rw [hc2] <;> rfl) (by kernel_rfl) (by kernel_rfl))
   rcases ite_some h with ⟨hc3, h⟩ | ⟨hc3, h⟩
   ·
    refine ji_condT rfl hc3 ?_
    refine ji_rz ⟨[(2, kU 0), (3, kI 0), (4, k8 4)], []⟩ (by kernel_rfl) ?_
    obtain rfl := sj h
    exact je_ret' (le_z (by kernel_rfl))
   refine ji_condF rfl hc3 ?_
   obtain ⟨v4, h_v4, h⟩ := bnd h
   refine ji_region ⟨[(2, kU (orI .u64 wv v4)), (5, kI v2), (6, k8 (x.toNat : Int)), (11, .sl Rp.byte [0] v), (12, kI (v.length : Int)), (13, kI v2)], []⟩ (ro_oz 6 [kU (IntKind.u64.wrap (andI .u8 (x.toNat : Int) 127)), kI (IntKind.i64.wrap (7 * v2))] rfl (lo_shl rfl h_v4) rfl (by kernel_rfl)) ?_
   refine ji_rz ⟨[(2, kU (orI .u64 wv v4)), (5, kI v2), (11, .sl Rp.byte [0] v), (12, kI (v.length : Int)), (13, kI v2), (33, kB (decide ((x.toNat : Int) < 128)))], []⟩ (by kernel_rfl) ?_
   rcases ite_some h with ⟨hc4, h⟩ | ⟨hc4, h⟩
   ·
    refine ji_condT rfl hc4 ?_
    refine ji_rz ⟨[(2, kU (orI .u64 wv v4)), (3, kI (IntKind.i64.wrap (v2 + 1))), (4, k8 0)], []⟩ (by kernel_rfl) ?_
    obtain rfl := sj h
    exact je_ret' (le_z (by kernel_rfl))
   refine ji_condF rfl hc4 ?_
   refine ji_end ?_
   refine ji_rz ⟨[(2, kU (orI .u64 wv v4)), (11, .sl Rp.byte [0] v), (12, kI (v.length : Int)), (13, kI (IntKind.i64.wrap (v2 + 1)))], []⟩ (by kernel_rfl) ?_
   obtain rfl := sj h
   exact je_nil (le_z (by kernel_rfl))
  refine ji_condF rfl hc1 ?_
  obtain rfl := sj h
  exact je_out' rfl (le_z (by kernel_rfl))
 rcases q with u | u2
 ·
  refine k_exit _ rfl ?_
  refine ji_rz ⟨[(2, kU 0), (3, kI 0), (4, k8 3)], []⟩ (by kernel_rfl) ?_
  obtain rfl := sj h
  exact je_ret (le_z (by kernel_rfl))
 obtain rfl := sj h
 exact ke_ret (le_z (by kernel_rfl))
theorem bits_Word_ok {b : (List UInt8)} {r : Int} (h : bits_Word b = some r) : FnOk Try.prog 47 [.sl Rp.byte [0] b] [kU r] := by
 refine fn_intro' (E := ⟨[(2, kU r)], []⟩) 26 Try.func47 rfl rfl rfl ⟨rfl, trivial⟩ (fun Xt => ?_)
 refine ji_start ?_
 refine ji_le (E' := ⟨[(0, .sl Rp.byte [0] b)], []⟩) (fun _ _ _ hs => hs) ?_
 unfold bits_Word at h
 refine ji_rz ⟨[(0, .sl Rp.byte [0] b)], []⟩ (by kernel_rfl) ?_
 refine ji_rz ⟨[(0, .sl Rp.byte [0] b), (3, kU 0)], []⟩ (by kernel_rfl) ?_
 obtain ⟨v, h_v, h⟩ := bnd h
 refine ji_region ⟨[(3, kU 0), (10, .sl Rp.byte [0] v), (11, kI (v.length : Int)), (12, kI 0)], []⟩ (ro_oz 4 [.sl Rp.byte [0] b, kI (if (8 : Int) < (b.length : Int) then 8 else (b.length : Int))] rfl (lo_cut none (some (kI (if (8 : Int) < (b.length : Int) then 8 else (b.length : Int)))) rfl zet22.el (isSl_sl _ _ _) ⟨rfl, rfl⟩ ⟨rfl, rfl⟩ h_v) rfl (by kernel_rfl)) ?_
 refine ji_block ?_
 obtain ⟨q, h_q, h⟩ := bnd h
 refine je_loop (fun s : (Int × Int) => bits_Word_b1 v s.1 s.2) (fun s => ⟨[(3, kU s.1), (10, .sl Rp.byte [0] v), (11, kI (v.length : Int)), (12, kI s.2)], []⟩) (fun o e a w => e = .exit 0 ∧ Sx ⟨⟨26, []⟩, Xt, false, #[]⟩ ⟨[(3, kU o)], []⟩ a w) ?_ h_q (le_z (by kernel_rfl)) ?_
 ·
  clear h
  intro s o h
  obtain ⟨wv, v2⟩ := s
  refine ji_start ?_
  refine ji_le (E' := ⟨[(3, kU wv), (10, .sl Rp.byte [0] v), (11, kI (v.length : Int)), (12, kI v2)], []⟩) (fun _ _ _ hs => hs) ?_
  replace h : bits_Word_b1 v wv v2 = some o := h
  unfold bits_Word_b1 at h
  refine ji_rz ⟨[(3, kU wv), (10, .sl Rp.byte [0] v), (11, kI (v.length : Int)), (12, kI v2), (13, kB (decide (v2 < (v.length : Int))))], []⟩ (by kernel_rfl) ?_
  rcases ite_some h with ⟨hc1, h⟩ | ⟨hc1, h⟩
  ·
   refine ji_condT rfl hc1 ?_
   refine ji_block ?_
   obtain ⟨x, h_x, h⟩ := bnd h
   refine ji_region ⟨[(3, kU wv), (4, kI v2), (5, k8 (x.toNat : Int)), (10, .sl Rp.byte [0] v), (11, kI (v.length : Int)), (12, kI v2)], []⟩ (ro_oz 1 [.sl Rp.byte [0] v, kI v2] rfl (lo_ix rfl zet22.el (isSl_sl _ _ _) h_x) rfl (by kernel_rfl)) ?_
   obtain ⟨v3, h_v3, h⟩ := bnd h
   refine ji_region ⟨[(3, kU (orI .u64 wv v3)), (10, .sl Rp.byte [0] v), (11, kI (v.length : Int)), (12, kI v2)], []⟩ (ro_oz 5 [kU (IntKind.u64.wrap (x.toNat : Int)), kI (IntKind.i64.wrap (8 * v2))] rfl (lo_shl rfl h_v3) rfl (by kernel_rfl)) ?_
   refine ji_end ?_
   refine ji_rz ⟨[(3, kU (orI .u64 wv v3)), (10, .sl Rp.byte [0] v), (11, kI (v.length : Int)), (12, kI (IntKind.i64.wrap (v2 + 1)))], []⟩ (by kernel_rfl) ?_
   obtain rfl := sj h
   exact je_nil (le_z (by kernel_rfl))
  refine ji_condF rfl hc1 ?_
  obtain rfl := sj h
  exact je_out' rfl (le_z (by kernel_rfl))
 refine k_exit _ rfl ?_
 refine ji_rz ⟨[(2, kU q)], []⟩ (by kernel_rfl) ?_
 obtain rfl := sj h
 exact je_ret (le_z (by kernel_rfl))
theorem darningref02_Same_ok {av : (List Int)} {b : (List Int)} {r : Bool} (h : darningref02_Same av b = some r) : FnOk Try.prog 12 [.sl (Rp.int .u64) [0] av, .sl (Rp.int .u64) [0] b] [kB r] := by
 refine fn_intro' (E := ⟨[(4, kB r)], []⟩) 26 Try.func12 rfl rfl rfl ⟨rfl, trivial⟩ (fun Xt => ?_)
 refine ji_start ?_
 refine ji_le (E' := ⟨[(0, .sl (Rp.int .u64) [0] av), (1, .sl (Rp.int .u64) [0] b)], []⟩) (fun _ _ _ hs => hs) ?_
 unfold darningref02_Same at h
 refine ji_rz ⟨[(0, .sl (Rp.int .u64) [0] av), (1, .sl (Rp.int .u64) [0] b)], []⟩ (by kernel_rfl) ?_
 refine ji_rz ⟨[(0, .sl (Rp.int .u64) [0] av), (1, .sl (Rp.int .u64) [0] b), (10, kB ((av.length : Int) != (b.length : Int)))], []⟩ (by kernel_rfl) ?_
 rcases ite_some h with ⟨hc1, h⟩ | ⟨hc1, h⟩
 ·
  refine ji_condT rfl hc1 ?_
  refine ji_rz ⟨[(4, kB false)], []⟩ (by kernel_rfl) ?_
  obtain rfl := sj h
  exact je_ret (le_z (by kernel_rfl))
 refine ji_condF rfl hc1 ?_
 refine ji_rz ⟨[(0, .sl (Rp.int .u64) [0] av), (1, .sl (Rp.int .u64) [0] b), (5, kI 0)], []⟩ (by kernel_rfl) ?_
 refine ji_block ?_
 obtain ⟨q, h_q, h⟩ := bnd h
 refine je_loop (fun s : Int => darningref02_Same_b1 av b s) (fun s => ⟨[(0, .sl (Rp.int .u64) [0] av), (1, .sl (Rp.int .u64) [0] b), (5, kI s)], []⟩) (fun o e a w => match o with | (.inl v_) => e = .exit 0 ∧ Sx ⟨⟨26, []⟩, Xt, false, #[]⟩ ⟨[], []⟩ a w | (.inr v_) => e = .ret ∧ Sx ⟨⟨26, []⟩, Xt, false, #[]⟩ ⟨[(4, kB false)], []⟩ a w) ?_ h_q (le_z (by kernel_rfl)) ?_
 ·
  clear h
  intro i o h
  refine ji_start ?_
  refine ji_le (E' := ⟨[(0, .sl (Rp.int .u64) [0] av), (1, .sl (Rp.int .u64) [0] b), (5, kI i)], []⟩) (fun _ _ _ hs => hs) ?_
  replace h : darningref02_Same_b1 av b i = some o := h
  unfold darningref02_Same_b1 at h
  refine ji_rz ⟨[(0, .sl (Rp.int .u64) [0] av), (1, .sl (Rp.int .u64) [0] b), (5, kI i), (14, kB (decide (i < (av.length : Int))))], []⟩ (by kernel_rfl) ?_
  rcases ite_some h with ⟨hc2, h⟩ | ⟨hc2, h⟩
  ·
   refine ji_condT rfl hc2 ?_
   refine ji_block ?_
   obtain ⟨x, h_x, h⟩ := bnd h
   obtain ⟨x2, h_x2, h⟩ := bnd h
   refine ji_draw ⟨[(0, .sl (Rp.int .u64) [0] av), (1, .sl (Rp.int .u64) [0] b), (5, kI i), (25, kB (x != x2))], []⟩ [.ev, .ev, .ex [] [] [] (.ep (Rp.int .u64) [0] x 0) [], .ev, .ev, .ev, .ex [] [] [] (.ep (Rp.int .u64) [0] x2 0) []] [⟨[(.tmp 17, .sl (Rp.int .u64) [0] av), (.tmp 18, kI i)], [], []⟩, ⟨[(.tmp 21, .sl (Rp.int .u64) [0] b), (.tmp 22, kI i)], [], []⟩] [0, 1, 5, 25] [] mixed (by kernel_rfl) (by exact (lw_e (lw_e (lw_x (lo_as (lo_ix rfl zet24.el (isSl_sl _ _ _) h_x) rfl) (lw_e (lw_e (lw_e (lw_x (lo_as (lo_ix rfl zet24.el (isSl_sl _ _ _) h_x2) rfl) lw_0)))))))) ?_
   rcases ite_some h with ⟨hc3, h⟩ | ⟨hc3, h⟩
   ·
    refine ji_condT rfl hc3 ?_
    refine ji_rz ⟨[(4, kB false)], []⟩ (by kernel_rfl) ?_
    obtain rfl := sj h
    exact je_ret' (le_z (by kernel_rfl))
   refine ji_condF rfl hc3 ?_
   refine ji_end ?_
   refine ji_rz ⟨[(0, .sl (Rp.int .u64) [0] av), (1, .sl (Rp.int .u64) [0] b), (5, kI (IntKind.i64.wrap (i + 1)))], []⟩ (by kernel_rfl) ?_
   obtain rfl := sj h
   exact je_nil (le_z (by kernel_rfl))
  refine ji_condF rfl hc2 ?_
  obtain rfl := sj h
  exact je_out' rfl (le_z (by kernel_rfl))
 rcases q with u | u2
 ·
  refine k_exit _ rfl ?_
  refine ji_rz ⟨[(4, kB true)], []⟩ (by kernel_rfl) ?_
  obtain rfl := sj h
  exact je_ret (le_z (by kernel_rfl))
 obtain rfl := sj h
 exact ke_ret (le_z (by kernel_rfl))
theorem darningref06_Number_ok {k : Int} {r : Bool} (h : darningref06_Number k = some r) : FnOk Try.prog 17 [kI k] [kB r] := by
 refine fn_intro' (E := ⟨[(2, kB r)], []⟩) 9 Try.func17 rfl rfl rfl ⟨rfl, trivial⟩ (fun Xt => ?_)
 refine ji_start ?_
 refine ji_le (E' := ⟨[(0, kI k)], []⟩) (fun _ _ _ hs => hs) ?_
 unfold darningref06_Number at h
 refine ji_rz ⟨[(0, kI k)], []⟩ (by kernel_rfl) ?_
 refine ji_region ⟨[(2, kB ((decide (k ≥ 1)) && (decide (k ≤ 14))))], []⟩ ?_ ?_
 ·
  refine (ro_sp 3 5 (decide (k ≥ 1)) ⟨[(0, kI k), (5, kB (decide (k ≥ 1)))], []⟩ (by kernel_rfl) rfl (fun hc1 => ?_) (fun hc1 => ?_))
  · exact (ro_zb 2 (decide (k ≤ 14)) ((decide (k ≥ 1)) && (decide (k ≤ 14))) (by rw [hc1] <;> rfl) (by kernel_rfl) (by kernel_rfl))
  exact (ro_zb 2 false ((decide (k ≥ 1)) && (decide (k ≤ 14))) (by rw [hc1] <;> rfl) (by kernel_rfl) (by kernel_rfl))
 obtain rfl := sj h
 exact je_ret (le_z (by kernel_rfl))
theorem darningref02_Read_ok {b : (List UInt8)} {atv : Int} {r : (Int × Int × Int)} (h : darningref02_Read b atv = some r) : FnOk Try.prog 30 [.sl Rp.byte [0] b, kI atv] [kU r.1, kI r.2.1, kI r.2.2] := by
 refine fn_intro' (E := ⟨[(4, kU r.1), (5, kI r.2.1), (6, kI r.2.2)], []⟩) 69 Try.func30 rfl rfl rfl ⟨rfl, rfl, rfl, trivial⟩ (fun Xt => ?_)
 refine ji_start ?_
 refine ji_le (E' := ⟨[(0, .sl Rp.byte [0] b), (1, kI atv)], []⟩) (fun _ _ _ hs => hs) ?_
 unfold darningref02_Read at h
 refine ji_rz ⟨[(0, .sl Rp.byte [0] b), (1, kI atv)], []⟩ (by kernel_rfl) ?_
 refine ji_rz ⟨[(0, .sl Rp.byte [0] b), (1, kI atv), (7, kI 0)], []⟩ (by kernel_rfl) ?_
 refine ji_block ?_
 obtain ⟨q, h_q, h⟩ := bnd h
 refine je_loop (fun s : Int => darningref02_Read_b1 atv b s) (fun s => ⟨[(0, .sl Rp.byte [0] b), (1, kI atv), (7, kI s)], []⟩) (fun o e a w => e = .exit 0 ∧ Sx ⟨⟨69, []⟩, Xt, false, #[]⟩ ⟨[(0, .sl Rp.byte [0] b), (1, kI atv), (7, kI o)], []⟩ a w) ?_ h_q (le_z (by kernel_rfl)) ?_
 ·
  clear h
  intro n o h
  refine ji_start ?_
  refine ji_le (E' := ⟨[(0, .sl Rp.byte [0] b), (1, kI atv), (7, kI n)], []⟩) (fun _ _ _ hs => hs) ?_
  replace h : darningref02_Read_b1 atv b n = some o := h
  unfold darningref02_Read_b1 at h
  obtain ⟨g, h_g, h⟩ := bnd h
  refine ji_region ⟨[(0, .sl Rp.byte [0] b), (1, kI atv), (7, kI n), (28, kB g)], []⟩ ?_ ?_
  ·
   refine (ro_sp 7 16 (decide ((IntKind.i64.wrap (atv + n)) < (b.length : Int))) ⟨[(0, .sl Rp.byte [0] b), (1, kI atv), (7, kI n), (16, kB (decide ((IntKind.i64.wrap (atv + n)) < (b.length : Int))))], []⟩ (by kernel_rfl) rfl (fun hc1 => ?_) (fun hc1 => ?_))
   ·
    replace h_g := iteT h_g hc1
    refine (ro_sp 4 20 (decide (n < 10)) ⟨[(0, .sl Rp.byte [0] b), (1, kI atv), (7, kI n), (20, kB (decide (n < 10)))], []⟩ (by kernel_rfl) rfl (fun hc2 => ?_) (fun hc2 => ?_))
    ·
     replace h_g := iteT h_g hc2
     obtain ⟨x, h_x, h_g⟩ := bnd h_g
     obtain rfl := sj h_g
     exact (ro_oz 4 [.sl Rp.byte [0] b, kI (IntKind.i64.wrap (atv + n))] rfl (lo_ix rfl zet22.el (isSl_sl _ _ _) h_x) rfl (by kernel_rfl))
    replace h_g := iteF h_g hc2
    obtain rfl := sj h_g
    exact (ro_z (by kernel_rfl))
   replace h_g := iteF h_g hc1
   obtain rfl := sj h_g
   exact (ro_z (by kernel_rfl))
  rcases ite_some h with ⟨hc3, h⟩ | ⟨hc3, h⟩
  ·
   refine ji_condT rfl hc3 ?_
   refine ji_block ?_
   refine ji_rz ⟨[(0, .sl Rp.byte [0] b), (1, kI atv), (7, kI (IntKind.i64.wrap (n + 1)))], []⟩ (by kernel_rfl) ?_
   refine ji_end ?_
   obtain rfl := sj h
   exact je_nil (le_z (by kernel_rfl))
  refine ji_condF rfl hc3 ?_
  obtain rfl := sj h
  exact je_out' rfl (le_z (by kernel_rfl))
 refine k_exit _ rfl ?_
 refine ji_rz ⟨[(0, .sl Rp.byte [0] b), (1, kI atv), (7, kI q), (32, kB (q == 10))], []⟩ (by kernel_rfl) ?_
 rcases ite_some h with ⟨hc4, h⟩ | ⟨hc4, h⟩
 ·
  refine ji_condT rfl hc4 ?_
  refine ji_rz ⟨[(4, kU 0), (5, kI 0), (6, kI 4)], []⟩ (by kernel_rfl) ?_
  obtain rfl := sj h
  exact je_ret (le_z (by kernel_rfl))
 refine ji_condF rfl hc4 ?_
 refine ji_rz ⟨[(0, .sl Rp.byte [0] b), (1, kI atv), (7, kI q), (38, kB ((IntKind.i64.wrap (atv + q)) == (b.length : Int)))], []⟩ (by kernel_rfl) ?_
 rcases ite_some h with ⟨hc5, h⟩ | ⟨hc5, h⟩
 ·
  refine ji_condT rfl hc5 ?_
  refine ji_rz ⟨[(4, kU 0), (5, kI 0), (6, kI 3)], []⟩ (by kernel_rfl) ?_
  obtain rfl := sj h
  exact je_ret (le_z (by kernel_rfl))
 refine ji_condF rfl hc5 ?_
 obtain ⟨g2, h_g2, h⟩ := bnd h
 refine ji_region ⟨[(0, .sl Rp.byte [0] b), (1, kI atv), (7, kI q), (49, kB g2)], []⟩ ?_ ?_
 ·
  refine (ro_sp 3 41 (q == 9) ⟨[(0, .sl Rp.byte [0] b), (1, kI atv), (7, kI q), (41, kB (q == 9))], []⟩ (by kernel_rfl) rfl (fun hc6 => ?_) (fun hc6 => ?_))
  ·
   replace h_g2 := iteT h_g2 hc6
   obtain ⟨x2, h_x2, h_g2⟩ := bnd h_g2
   obtain rfl := sj h_g2
   exact (ro_oz 4 [.sl Rp.byte [0] b, kI (IntKind.i64.wrap (atv + q))] rfl (lo_ix rfl zet22.el (isSl_sl _ _ _) h_x2) rfl (by kernel_rfl))
  replace h_g2 := iteF h_g2 hc6
  obtain rfl := sj h_g2
  exact (ro_z (by kernel_rfl))
 rcases ite_some h with ⟨hc7, h⟩ | ⟨hc7, h⟩
 ·
  refine ji_condT rfl hc7 ?_
  refine ji_rz ⟨[(4, kU 0), (5, kI 0), (6, kI 4)], []⟩ (by kernel_rfl) ?_
  obtain rfl := sj h
  exact je_ret (le_z (by kernel_rfl))
 refine ji_condF rfl hc7 ?_
 refine ji_rz ⟨[(0, .sl Rp.byte [0] b), (1, kI atv), (7, kI q), (8, kU 0)], []⟩ (by kernel_rfl) ?_
 refine ji_rz ⟨[(0, .sl Rp.byte [0] b), (1, kI atv), (7, kI q), (8, kU 0), (9, kI q)], []⟩ (by kernel_rfl) ?_
 refine ji_block ?_
 obtain ⟨q2, h_q2, h⟩ := bnd h
 refine je_loop (fun s : (Int × Int) => darningref02_Read_b2 atv b s.1 s.2) (fun s => ⟨[(0, .sl Rp.byte [0] b), (1, kI atv), (7, kI q), (8, kU s.1), (9, kI s.2)], []⟩) (fun o e a w => e = .exit 2 ∧ Sx ⟨⟨69, []⟩, Xt, false, #[]⟩ ⟨[(7, kI q), (8, kU o)], []⟩ a w) ?_ h_q2 (le_z (by kernel_rfl)) ?_
 ·
  clear h
  intro s o h
  obtain ⟨wv, i⟩ := s
  refine ji_start ?_
  refine ji_le (E' := ⟨[(0, .sl Rp.byte [0] b), (1, kI atv), (7, kI q), (8, kU wv), (9, kI i)], []⟩) (fun _ _ _ hs => hs) ?_
  replace h : darningref02_Read_b2 atv b wv i = some o := h
  unfold darningref02_Read_b2 at h
  refine ji_rz ⟨[(0, .sl Rp.byte [0] b), (1, kI atv), (7, kI q), (8, kU wv), (9, kI i), (52, kB (decide (i ≥ 0)))], []⟩ (by kernel_rfl) ?_
  rcases ite_some h with ⟨hc8, h⟩ | ⟨hc8, h⟩
  ·
   refine ji_condT rfl hc8 ?_
   refine ji_block ?_
   obtain ⟨x3, h_x3, h⟩ := bnd h
   refine ji_region ⟨[(0, .sl Rp.byte [0] b), (1, kI atv), (7, kI q), (8, kU (IntKind.u64.wrap ((IntKind.u64.wrap (128 * wv)) + (IntKind.u64.wrap (Int.tmod (x3.toNat : Int) 128))))), (9, kI i)], []⟩ (ro_oz 6 [.sl Rp.byte [0] b, kI (IntKind.i64.wrap (atv + i))] rfl (lo_ix rfl zet22.el (isSl_sl _ _ _) h_x3) rfl (by kernel_rfl)) ?_
   refine ji_end ?_
   refine ji_rz ⟨[(0, .sl Rp.byte [0] b), (1, kI atv), (7, kI q), (8, kU (IntKind.u64.wrap ((IntKind.u64.wrap (128 * wv)) + (IntKind.u64.wrap (Int.tmod (x3.toNat : Int) 128))))), (9, kI (IntKind.i64.wrap (i - 1)))], []⟩ (by kernel_rfl) ?_
   obtain rfl := sj h
   exact je_nil (le_z (by kernel_rfl))
  refine ji_condF rfl hc8 ?_
  obtain rfl := sj h
  exact je_out' rfl (le_z (by kernel_rfl))
 refine k_exit _ rfl ?_
 refine ji_rz ⟨[(4, kU q2), (5, kI (IntKind.i64.wrap (q + 1))), (6, kI 0)], []⟩ (by kernel_rfl) ?_
 obtain rfl := sj h
 exact je_ret (le_z (by kernel_rfl))
theorem darningref06_Wire_ok {k : Int} {r : Int} (h : darningref06_Wire k = some r) : FnOk Try.prog 35 [kI k] [kI r] := by
 refine fn_intro' (E := ⟨[(2, kI r)], []⟩) 9 Try.func35 rfl rfl rfl ⟨rfl, trivial⟩ (fun Xt => ?_)
 refine ji_start ?_
 refine ji_le (E' := ⟨[(0, kI k)], []⟩) (fun _ _ _ hs => hs) ?_
 unfold darningref06_Wire at h
 refine ji_rz ⟨[(0, kI k)], []⟩ (by kernel_rfl) ?_
 refine ji_rz ⟨[(0, kI k), (4, kB (decide (k ≥ 15)))], []⟩ (by kernel_rfl) ?_
 rcases ite_some h with ⟨hc1, h⟩ | ⟨hc1, h⟩
 ·
  refine ji_condT rfl hc1 ?_
  refine ji_rz ⟨[(2, kI 2)], []⟩ (by kernel_rfl) ?_
  obtain rfl := sj h
  exact je_ret (le_z (by kernel_rfl))
 refine ji_condF rfl hc1 ?_
 refine ji_rz ⟨[(0, kI k), (6, kB (decide (k ≥ 12)))], []⟩ (by kernel_rfl) ?_
 rcases ite_some h with ⟨hc2, h⟩ | ⟨hc2, h⟩
 ·
  refine ji_condT rfl hc2 ?_
  refine ji_rz ⟨[(2, kI 1)], []⟩ (by kernel_rfl) ?_
  obtain rfl := sj h
  exact je_ret (le_z (by kernel_rfl))
 refine ji_condF rfl hc2 ?_
 refine ji_rz ⟨[(8, kB (decide (k ≥ 9)))], []⟩ (by kernel_rfl) ?_
 rcases ite_some h with ⟨hc3, h⟩ | ⟨hc3, h⟩
 ·
  refine ji_condT rfl hc3 ?_
  refine ji_rz ⟨[(2, kI 5)], []⟩ (by kernel_rfl) ?_
  obtain rfl := sj h
  exact je_ret (le_z (by kernel_rfl))
 refine ji_condF rfl hc3 ?_
 refine ji_rz ⟨[(2, kI 0)], []⟩ (by kernel_rfl) ?_
 obtain rfl := sj h
 exact je_ret (le_z (by kernel_rfl))
theorem darningref01_Word_ok {b : (List UInt8)} {r : Int} (h : darningref01_Word b = some r) : FnOk Try.prog 36 [.sl Rp.byte [0] b] [kU r] := by
 refine fn_intro' (E := ⟨[(2, kU r)], []⟩) 28 Try.func36 rfl rfl rfl ⟨rfl, trivial⟩ (fun Xt => ?_)
 refine ji_start ?_
 refine ji_le (E' := ⟨[(0, .sl Rp.byte [0] b)], []⟩) (fun _ _ _ hs => hs) ?_
 unfold darningref01_Word at h
 refine ji_rz ⟨[(0, .sl Rp.byte [0] b)], []⟩ (by kernel_rfl) ?_
 refine ji_rz ⟨[(0, .sl Rp.byte [0] b), (3, kU 0), (4, kU 1)], []⟩ (by kernel_rfl) ?_
 refine ji_rz ⟨[(0, .sl Rp.byte [0] b), (3, kU 0), (4, kU 1), (5, kI 0)], []⟩ (by kernel_rfl) ?_
 refine ji_block ?_
 obtain ⟨q, h_q, h⟩ := bnd h
 refine je_loop (fun s : (Int × Int × Int) => darningref01_Word_b1 b s.1 s.2.1 s.2.2) (fun s => ⟨[(0, .sl Rp.byte [0] b), (3, kU s.1), (4, kU s.2.1), (5, kI s.2.2)], []⟩) (fun o e a w => e = .exit 0 ∧ Sx ⟨⟨28, []⟩, Xt, false, #[]⟩ ⟨[(3, kU o)], []⟩ a w) ?_ h_q (le_z (by kernel_rfl)) ?_
 ·
  clear h
  intro s o h
  obtain ⟨wv, place, i⟩ := s
  refine ji_start ?_
  refine ji_le (E' := ⟨[(0, .sl Rp.byte [0] b), (3, kU wv), (4, kU place), (5, kI i)], []⟩) (fun _ _ _ hs => hs) ?_
  replace h : darningref01_Word_b1 b wv place i = some o := h
  unfold darningref01_Word_b1 at h
  refine ji_region ⟨[(0, .sl Rp.byte [0] b), (3, kU wv), (4, kU place), (5, kI i), (13, kB ((decide (i < (b.length : Int))) && (decide (i < 8))))], []⟩ ?_ ?_
  ·
   refine (ro_sp 5 10 (decide (i < (b.length : Int))) ⟨[(0, .sl Rp.byte [0] b), (3, kU wv), (4, kU place), (5, kI i), (10, kB (decide (i < (b.length : Int))))], []⟩ (by kernel_rfl) rfl (fun hc1 => ?_) (fun hc1 => ?_))
   · exact (ro_zb 13 (decide (i < 8)) ((decide (i < (b.length : Int))) && (decide (i < 8))) (by rw [hc1] <;> rfl) (by kernel_rfl) (by kernel_rfl))
   exact (ro_zb 13 false ((decide (i < (b.length : Int))) && (decide (i < 8))) (by rw [hc1] <;> rfl) (by kernel_rfl) (by kernel_rfl))
  rcases ite_some h with ⟨hc2, h⟩ | ⟨hc2, h⟩
  ·
   refine ji_condT rfl hc2 ?_
   refine ji_block ?_
   obtain ⟨x, h_x, h⟩ := bnd h
   refine ji_region ⟨[(0, .sl Rp.byte [0] b), (3, kU (IntKind.u64.wrap (wv + (IntKind.u64.wrap ((IntKind.u64.wrap (x.toNat : Int)) * place))))), (4, kU place), (5, kI i)], []⟩ (ro_oz 3 [.sl Rp.byte [0] b, kI i] rfl (lo_ix rfl zet22.el (isSl_sl _ _ _) h_x) rfl (by kernel_rfl)) ?_
   refine ji_rz ⟨[(0, .sl Rp.byte [0] b), (3, kU (IntKind.u64.wrap (wv + (IntKind.u64.wrap ((IntKind.u64.wrap (x.toNat : Int)) * place))))), (4, kU (IntKind.u64.wrap (place * 256))), (5, kI i)], []⟩ (by kernel_rfl) ?_
   refine ji_end ?_
   refine ji_rz ⟨[(0, .sl Rp.byte [0] b), (3, kU (IntKind.u64.wrap (wv + (IntKind.u64.wrap ((IntKind.u64.wrap (x.toNat : Int)) * place))))), (4, kU (IntKind.u64.wrap (place * 256))), (5, kI (IntKind.i64.wrap (i + 1)))], []⟩ (by kernel_rfl) ?_
   obtain rfl := sj h
   exact je_nil (le_z (by kernel_rfl))
  refine ji_condF rfl hc2 ?_
  obtain rfl := sj h
  exact je_out' rfl (le_z (by kernel_rfl))
 refine k_exit _ rfl ?_
 refine ji_rz ⟨[(2, kU q)], []⟩ (by kernel_rfl) ?_
 obtain rfl := sj h
 exact je_ret (le_z (by kernel_rfl))
theorem darningref01_Sign32_ok {wv : Int} {r : Int} (h : darningref01_Sign32 wv = some r) : FnOk Try.prog 53 [kU wv] [kI r] := by
 refine fn_intro' (E := ⟨[(2, kI r)], []⟩) 12 Try.func53 rfl rfl rfl ⟨rfl, trivial⟩ (fun Xt => ?_)
 refine ji_start ?_
 refine ji_le (E' := ⟨[(0, kU wv)], []⟩) (fun _ _ _ hs => hs) ?_
 unfold darningref01_Sign32 at h
 refine ji_rz ⟨[(0, kU wv)], []⟩ (by kernel_rfl) ?_
 refine ji_rz ⟨[(3, kI (IntKind.i64.wrap (Int.tmod wv 4294967296)))], []⟩ (by kernel_rfl) ?_
 refine ji_rz ⟨[(3, kI (IntKind.i64.wrap (Int.tmod wv 4294967296))), (8, kB (decide ((IntKind.i64.wrap (Int.tmod wv 4294967296)) ≥ 2147483648)))], []⟩ (by kernel_rfl) ?_
 rcases ite_some h with ⟨hc1, h⟩ | ⟨hc1, h⟩
 ·
  refine ji_condT rfl hc1 ?_
  refine ji_rz ⟨[(3, kI (IntKind.i64.wrap ((IntKind.i64.wrap (Int.tmod wv 4294967296)) - 4294967296)))], []⟩ (by kernel_rfl) ?_
  refine ji_rz ⟨[(2, kI (IntKind.i64.wrap ((IntKind.i64.wrap (Int.tmod wv 4294967296)) - 4294967296)))], []⟩ (by kernel_rfl) ?_
  obtain rfl := sj h
  exact je_ret (le_z (by kernel_rfl))
 refine ji_condF rfl hc1 ?_
 refine ji_rz ⟨[(2, kI (IntKind.i64.wrap (Int.tmod wv 4294967296)))], []⟩ (by kernel_rfl) ?_
 obtain rfl := sj h
 exact je_ret (le_z (by kernel_rfl))
theorem darningref01_Wide_ok {n : Int} {r : Int} (h : darningref01_Wide n = some r) : FnOk Try.prog 52 [kI n] [kU r] := by
 refine fn_intro' (E := ⟨[(2, kU r)], []⟩) 12 Try.func52 rfl rfl rfl ⟨rfl, trivial⟩ (fun Xt => ?_)
 refine ji_start ?_
 refine ji_le (E' := ⟨[(0, kI n)], []⟩) (fun _ _ _ hs => hs) ?_
 unfold darningref01_Wide at h
 refine ji_rz ⟨[(0, kI n)], []⟩ (by kernel_rfl) ?_
 refine ji_rz ⟨[(0, kI n), (4, kB (decide (n ≥ 0)))], []⟩ (by kernel_rfl) ?_
 rcases ite_some h with ⟨hc1, h⟩ | ⟨hc1, h⟩
 ·
  refine ji_condT rfl hc1 ?_
  refine ji_rz ⟨[(2, kU (IntKind.u64.wrap n))], []⟩ (by kernel_rfl) ?_
  obtain rfl := sj h
  exact je_ret (le_z (by kernel_rfl))
 refine ji_condF rfl hc1 ?_
 refine ji_rz ⟨[(2, kU (IntKind.u64.wrap (18446744073709551615 - (IntKind.u64.wrap (IntKind.i64.wrap (0 - (IntKind.i64.wrap (n + 1))))))))], []⟩ (by kernel_rfl) ?_
 obtain rfl := sj h
 exact je_ret (le_z (by kernel_rfl))
theorem darningref01_Little_ok {wv : Int} {n : Int} {r : (List UInt8)} (h : darningref01_Little wv n = some r) : FnOk Try.prog 40 [kU wv, kI n] [.own Rp.byte 5 2 [] r] := by
 refine fn_intro' (E := ⟨[(4, .own Rp.byte 5 2 [] r)], []⟩) 25 Try.func40 rfl rfl rfl ⟨rfl, trivial⟩ (fun Xt => ?_)
 refine ji_start ?_
 refine ji_le (E' := ⟨[(0, kU wv), (1, kI n)], []⟩) (fun _ _ _ hs => hs) ?_
 unfold darningref01_Little at h
 refine ji_rz ⟨[(0, kU wv), (1, kI n)], []⟩ (by kernel_rfl) ?_
 refine ji_rz ⟨[(0, kU wv), (1, kI n), (5, kN)], []⟩ (by kernel_rfl) ?_
 refine ji_rz ⟨[(0, kU wv), (1, kI n), (5, kN), (6, kI 0)], []⟩ (by kernel_rfl) ?_
 refine ji_block ?_
 obtain ⟨q, h_q, h⟩ := bnd h
 refine je_loop (fun s : (Int × (List UInt8) × Int) => darningref01_Little_b1 n s.1 s.2.1 s.2.2) (fun s => ⟨[(0, kU s.1), (1, kI n), (5, .own Rp.byte 5 16 [] s.2.1), (6, kI s.2.2)], []⟩) (fun o e a w => e = .exit 0 ∧ Sx ⟨⟨25, []⟩, Xt, false, #[]⟩ ⟨[(5, .own Rp.byte 5 16 [] o)], []⟩ a w) ?_ h_q ?_ ?_
 ·
  clear h
  intro s o h
  obtain ⟨wv2, out, i⟩ := s
  refine ji_start ?_
  refine ji_le (E' := ⟨[(0, kU wv2), (1, kI n), (5, .own Rp.byte 5 16 [] out), (6, kI i)], []⟩) (fun _ _ _ hs => hs) ?_
  replace h : darningref01_Little_b1 n wv2 out i = some o := h
  unfold darningref01_Little_b1 at h
  refine ji_region ⟨[(0, kU wv2), (1, kI n), (5, .own Rp.byte 5 16 [] out), (6, kI i), (13, kB ((decide (i < n)) && (decide (i < 8))))], []⟩ ?_ ?_
  ·
   refine (ro_sp 4 10 (decide (i < n)) ⟨[(0, kU wv2), (1, kI n), (5, .own Rp.byte 5 16 [] out), (6, kI i), (10, kB (decide (i < n)))], []⟩ (by kernel_rfl) rfl (fun hc1 => ?_) (fun hc1 => ?_))
   · exact (ro_zb 13 (decide (i < 8)) ((decide (i < n)) && (decide (i < 8))) (by rw [hc1] <;> rfl) (by kernel_rfl) (by kernel_rfl))
   exact (ro_zb 13 false ((decide (i < n)) && (decide (i < 8))) (by rw [hc1] <;> rfl) (by kernel_rfl) (by kernel_rfl))
  rcases ite_some h with ⟨hc2, h⟩ | ⟨hc2, h⟩
  ·
   refine ji_condT rfl hc2 ?_
   refine ji_block ?_
   obtain ⟨y, h_y, h⟩ := bnd h
   obtain ⟨v2, h_v2, h⟩ := bnd h
   refine ji_region ⟨[(0, kU wv2), (1, kI n), (5, .own Rp.byte 5 16 [] v2), (6, kI i)], []⟩ (ro_o 4 [k8 (IntKind.u8.wrap (Int.tmod wv2 256))] ⟨[(0, kU wv2), (1, kI n), (6, kI i), (16, .own Rp.byte 5 16 [] out), (20, .own Rp.byte 5 17 [] ([y] : List UInt8))], []⟩ rfl (LocalOk.le (ins' := [(.tmp 19, .lf (.int .u8 (IntKind.u8.wrap (Int.tmod wv2 256))))]) (lo_bsl [.lf (.int .u8 (y.toNat : Int))] 17 [] [y] rfl zet22 rfl rfl rfl rfl) ⟨⟨rfl, le_byte h_y⟩, trivial⟩) rfl (by kernel_rfl) (ro_oz 0 [.own Rp.byte 5 16 [] out, .own Rp.byte 5 17 [] ([y] : List UInt8)] rfl (lo_app 16 [] rfl zet22.el rfl (isOwn_own _ _ _ _ _) (isSl_own _ _ _ _ _) h_v2 (.inl plain_byte) rfl) rfl (by kernel_rfl))) ?_
   refine ji_rz ⟨[(0, kU (IntKind.u64.wrap (Int.tdiv wv2 256))), (1, kI n), (5, .own Rp.byte 5 16 [] v2), (6, kI i)], []⟩ (by kernel_rfl) ?_
   refine ji_end ?_
   refine ji_rz ⟨[(0, kU (IntKind.u64.wrap (Int.tdiv wv2 256))), (1, kI n), (5, .own Rp.byte 5 16 [] v2), (6, kI (IntKind.i64.wrap (i + 1)))], []⟩ (by kernel_rfl) ?_
   obtain rfl := sj h
   exact je_nil (le_z (by kernel_rfl))
  refine ji_condF rfl hc2 ?_
  obtain rfl := sj h
  exact je_out' rfl (le_z (by kernel_rfl))
 ·
  refine le_at 5 (.own Rp.byte 5 16 [] []) rfl (le_own_nil Rp.byte 5 16 [] rfl) ?_
  exact le_z (by kernel_rfl)
 refine k_exit _ rfl ?_
 refine ji_rz ⟨[(4, .own Rp.byte 5 16 [] q)], []⟩ (by kernel_rfl) ?_
 obtain rfl := sj h
 refine je_ret ?_
 refine le_px ⟨[(4, .own Rp.byte 5 16 [] q)], []⟩ (by kernel_rfl) (le_rn 16 2 rfl (le_px ⟨[(4, .own Rp.byte 5 2 [] q)], []⟩ (by kernel_rfl) ?_))
 exact le_z (by kernel_rfl)
theorem darningref02_Put_fok {rec_darningref02_Put : Int → Option (List UInt8)} (hrec_darningref02_Put : ∀ {wv : Int} {r : (List UInt8)}, rec_darningref02_Put wv = some r → FnOk Try.prog 41 [kU wv] [.own Rp.byte 5 2 [] r]) {wv : Int} {r : (List UInt8)} (h : darningref02_Put_f rec_darningref02_Put wv = some r) : FnOk Try.prog 41 [kU wv] [.own Rp.byte 5 2 [] r] := by
 refine fn_intro' (E := ⟨[(2, .own Rp.byte 5 2 [] r)], []⟩) 17 Try.func41 rfl rfl rfl ⟨rfl, trivial⟩ (fun Xt => ?_)
 refine ji_start ?_
 refine ji_le (E' := ⟨[(0, kU wv)], []⟩) (fun _ _ _ hs => hs) ?_
 unfold darningref02_Put_f at h
 refine ji_rz ⟨[(0, kU wv)], []⟩ (by kernel_rfl) ?_
 refine ji_rz ⟨[(0, kU wv), (4, kB (decide (wv < 128)))], []⟩ (by kernel_rfl) ?_
 rcases ite_some h with ⟨hc1, h⟩ | ⟨hc1, h⟩
 ·
  refine ji_condT rfl hc1 ?_
  obtain ⟨y, h_y, h⟩ := bnd h
  refine ji_region ⟨[(2, .own Rp.byte 5 12 [] ([y] : List UInt8))], []⟩ (ro_oz 2 [k8 (IntKind.u8.wrap wv)] rfl (LocalOk.le (ins' := [(.tmp 6, .lf (.int .u8 (IntKind.u8.wrap wv)))]) (lo_bsl [.lf (.int .u8 (y.toNat : Int))] 12 [] [y] rfl zet22 rfl rfl rfl rfl) ⟨⟨rfl, le_byte h_y⟩, trivial⟩) rfl (by kernel_rfl)) ?_
  obtain rfl := sj h
  refine je_ret ?_
  refine le_px ⟨[(2, .own Rp.byte 5 12 [] ([y] : List UInt8))], []⟩ (by kernel_rfl) (le_rn 12 2 rfl (le_px ⟨[(2, .own Rp.byte 5 2 [] ([y] : List UInt8))], []⟩ (by kernel_rfl) ?_))
  exact le_z (by kernel_rfl)
 refine ji_condF rfl hc1 ?_
 obtain ⟨y2, h_y2, h⟩ := bnd h
 obtain ⟨rv, h_rv, h⟩ := bnd h
 obtain ⟨v, h_v, h⟩ := bnd h
 refine ji_region ⟨[(2, .own Rp.byte 5 13 [] v)], []⟩ (ro_o 4 [k8 (IntKind.u8.wrap (IntKind.u64.wrap (128 + (Int.tmod wv 128))))] ⟨[(0, kU wv), (12, .own Rp.byte 5 13 [] ([y2] : List UInt8))], []⟩ rfl (LocalOk.le (ins' := [(.tmp 11, .lf (.int .u8 (IntKind.u8.wrap (IntKind.u64.wrap (128 + (Int.tmod wv 128))))))]) (lo_bsl [.lf (.int .u8 (y2.toNat : Int))] 13 [] [y2] rfl zet22 rfl rfl rfl rfl) ⟨⟨rfl, le_byte h_y2⟩, trivial⟩) rfl (by kernel_rfl) (ro_o 2 [kU (IntKind.u64.wrap (Int.tdiv wv 128))] ⟨[(12, .own Rp.byte 5 13 [] ([y2] : List UInt8)), (15, .own Rp.byte 5 14 [] rv)], []⟩ rfl (lo_call [kU (IntKind.u64.wrap (Int.tdiv wv 128))] [1] 12 rfl Try.call41 (hrec_darningref02_Put h_rv) rfl rfl rfl rfl rfl) rfl (by kernel_rfl) (ro_oz 0 [.own Rp.byte 5 13 [] ([y2] : List UInt8), .own Rp.byte 5 14 [] rv] rfl (lo_app 13 [] rfl zet22.el rfl (isOwn_own _ _ _ _ _) (isSl_own _ _ _ _ _) h_v (.inl plain_byte) rfl) rfl (by kernel_rfl)))) ?_
 obtain rfl := sj h
 refine je_ret ?_
 refine le_px ⟨[(2, .own Rp.byte 5 13 [] v)], []⟩ (by kernel_rfl) (le_rn 13 2 rfl (le_px ⟨[(2, .own Rp.byte 5 2 [] v)], []⟩ (by kernel_rfl) ?_))
 exact le_z (by kernel_rfl)
theorem darningref02_Put_ok {fuel : Nat} {wv : Int} {r : (List UInt8)} (h : darningref02_Put fuel wv = some r) : FnOk Try.prog 41 [kU wv] [.own Rp.byte 5 2 [] r] := by
  induction fuel generalizing wv r with
  | zero => exact absurd h nofun
  | succ fuel ih => exact darningref02_Put_fok (fun hh => ih hh) h
theorem darningref01_Same_ok {av : (List UInt8)} {b : (List UInt8)} {r : Bool} (h : darningref01_Same av b = some r) : FnOk Try.prog 14 [.sl Rp.byte [0] av, .sl Rp.byte [0] b] [kB r] := by
 refine fn_intro' (E := ⟨[(4, kB r)], []⟩) 10 Try.func14 rfl rfl rfl ⟨rfl, trivial⟩ (fun Xt => ?_)
 refine ji_start ?_
 refine ji_le (E' := ⟨[(0, .sl Rp.byte [0] av), (1, .sl Rp.byte [0] b)], []⟩) (fun _ _ _ hs => hs) ?_
 unfold darningref01_Same at h
 refine ji_rz ⟨[(0, .sl Rp.byte [0] av), (1, .sl Rp.byte [0] b)], []⟩ (by kernel_rfl) ?_
 refine ji_region ⟨[(4, kB (av == b))], []⟩ (ro_o 1 [.sl Rp.byte [0] av] ⟨[(1, .sl Rp.byte [0] b), (6, kS av)], []⟩ rfl (lo_b2s rfl Try.underlying22 Try.underlying5 Try.underlying9 (isSl_sl _ _ _)) rfl (by kernel_rfl) (ro_oz 1 [.sl Rp.byte [0] b] rfl (lo_b2s rfl Try.underlying22 Try.underlying5 Try.underlying9 (isSl_sl _ _ _)) rfl (by kernel_rfl))) ?_
 obtain rfl := sj h
 exact je_ret (le_z (by kernel_rfl))
theorem bits_Little_ok {wv : Int} {n : Int} {r : (List UInt8)} (h : bits_Little wv n = some r) : FnOk Try.prog 44 [kU wv, kI n] [.own Rp.byte 5 2 [] r] := by
 refine fn_intro' (E := ⟨[(4, .own Rp.byte 5 2 [] r)], []⟩) 26 Try.func44 rfl rfl rfl ⟨rfl, trivial⟩ (fun Xt => ?_)
 refine ji_start ?_
 refine ji_le (E' := ⟨[(0, kU wv), (1, kI n)], []⟩) (fun _ _ _ hs => hs) ?_
 unfold bits_Little at h
 refine ji_rz ⟨[(0, kU wv), (1, kI n)], []⟩ (by kernel_rfl) ?_
 obtain ⟨v, h_v, h⟩ := bnd h
 refine ji_region ⟨[(0, kU wv), (5, .own Rp.byte 5 12 [] v)], []⟩ (ro_oz 3 [kI (if (8 : Int) < (if n < 0 then 0 else n) then 8 else (if n < 0 then 0 else n)), kI (if (8 : Int) < (if n < 0 then 0 else n) then 8 else (if n < 0 then 0 else n))] rfl (lo_make 12 rfl zet22 rfl h_v) rfl (by kernel_rfl)) ?_
 refine ji_rz ⟨[(0, kU wv), (5, .own Rp.byte 5 12 [] v), (12, kI (v.length : Int)), (13, kI 0)], []⟩ (by kernel_rfl) ?_
 refine ji_block ?_
 obtain ⟨q, h_q, h⟩ := bnd h
 refine je_loop (fun s : ((List UInt8) × Int) => bits_Little_b1 v wv s.1 s.2) (fun s => ⟨[(0, kU wv), (5, .own Rp.byte 5 12 [] s.1), (12, kI (v.length : Int)), (13, kI s.2)], []⟩) (fun o e a w => e = .exit 0 ∧ Sx ⟨⟨26, []⟩, Xt, false, #[]⟩ ⟨[(5, .own Rp.byte 5 12 [] o)], []⟩ a w) ?_ h_q (le_z (by kernel_rfl)) ?_
 ·
  clear h
  intro s o h
  obtain ⟨b, v2⟩ := s
  refine ji_start ?_
  refine ji_le (E' := ⟨[(0, kU wv), (5, .own Rp.byte 5 12 [] b), (12, kI (v.length : Int)), (13, kI v2)], []⟩) (fun _ _ _ hs => hs) ?_
  replace h : bits_Little_b1 v wv b v2 = some o := h
  unfold bits_Little_b1 at h
  refine ji_rz ⟨[(0, kU wv), (5, .own Rp.byte 5 12 [] b), (12, kI (v.length : Int)), (13, kI v2), (14, kB (decide (v2 < (v.length : Int))))], []⟩ (by kernel_rfl) ?_
  rcases ite_some h with ⟨hc1, h⟩ | ⟨hc1, h⟩
  ·
   refine ji_condT rfl hc1 ?_
   refine ji_block ?_
   refine ji_rz ⟨[(0, kU wv), (5, .own Rp.byte 5 12 [] b), (6, kI v2), (12, kI (v.length : Int)), (13, kI v2)], []⟩ (by kernel_rfl) ?_
   obtain ⟨v3, h_v3, h⟩ := bnd h
   obtain ⟨x, h_x, h⟩ := bnd h
   obtain ⟨y2, h_y2, h⟩ := bnd h
   refine ji_region ⟨[(0, kU wv), (5, .own Rp.byte 5 12 [] (b.set (Int.toNat v2) y2)), (12, kI (v.length : Int)), (13, kI v2)], []⟩ (ro_o 5 [kU wv, kI (IntKind.i64.wrap (8 * v2))] ⟨[(0, kU wv), (5, .own Rp.byte 5 12 [] b), (12, kI (v.length : Int)), (13, kI v2), (16, .own Rp.byte 5 12 [] b), (17, kI v2), (21, kU v3)], []⟩ rfl (lo_shr rfl h_v3) rfl (by kernel_rfl) (ro_o 1 [.own Rp.byte 5 12 [] b, kI v2] ⟨[(0, kU wv), (5, .own Rp.byte 5 12 [] b), (12, kI (v.length : Int)), (13, kI v2), (22, k8 (IntKind.u8.wrap v3)), (23, .ptr 12 (Int.toNat v2 * Rp.byte.size))], []⟩ rfl (lo_ixo rfl zet22.el h_x) rfl (by kernel_rfl) (ro_pk 0 ⟨[(0, kU wv), (5, .own Rp.byte 5 12 [] b), (12, kI (v.length : Int)), (13, kI v2), (22, k8 (IntKind.u8.wrap v3)), (23, .ptr 12 (Int.toNat v2 * Rp.byte.size))], []⟩ (by kernel_rfl) (ro_set (r := Rp.byte) (e := 5) (C := []) (xs := b) [5] (Int.toNat v2) 0 x y2 [] rfl rfl rfl rfl rfl rfl Try.sizeOf5 rfl (by kernel_rfl) rfl (idx_get h_x) rfl (set_byte h_y2 _) rfl (ro_z (by kernel_rfl)))))) ?_
   refine ji_end ?_
   refine ji_rz ⟨[(0, kU wv), (5, .own Rp.byte 5 12 [] (b.set (Int.toNat v2) y2)), (12, kI (v.length : Int)), (13, kI (IntKind.i64.wrap (v2 + 1)))], []⟩ (by kernel_rfl) ?_
   obtain rfl := sj h
   exact je_nil (le_z (by kernel_rfl))
  refine ji_condF rfl hc1 ?_
  obtain rfl := sj h
  exact je_out' rfl (le_z (by kernel_rfl))
 refine k_exit _ rfl ?_
 refine ji_rz ⟨[(4, .own Rp.byte 5 12 [] q)], []⟩ (by kernel_rfl) ?_
 obtain rfl := sj h
 refine je_ret ?_
 refine le_px ⟨[(4, .own Rp.byte 5 12 [] q)], []⟩ (by kernel_rfl) (le_rn 12 2 rfl (le_px ⟨[(4, .own Rp.byte 5 2 [] q)], []⟩ (by kernel_rfl) ?_))
 exact le_z (by kernel_rfl)
theorem slices_Grow___byte_byte__ok {n : Int} {r : (List UInt8)} (h : slices_Grow___byte_byte_ n = some r) : FnOk Try.prog 45 [kN, kI n] [.own Rp.byte 5 2 [] r] := by
 refine fn_intro' (E := ⟨[(4, .own Rp.byte 5 2 [] r)], []⟩) 27 Try.func45 rfl rfl rfl ⟨rfl, trivial⟩ (fun Xt => ?_)
 refine ji_start ?_
 refine ji_le (E' := ⟨[(0, kN), (1, kI n)], []⟩) (fun _ _ _ hs => hs) ?_
 unfold slices_Grow___byte_byte_ at h
 refine ji_rz ⟨[(0, kN), (1, kI n)], []⟩ (by kernel_rfl) ?_
 refine ji_rz ⟨[(0, kN), (1, kI n), (6, kB (decide (n < 0)))], []⟩ (by kernel_rfl) ?_
 rcases ite_some h with ⟨hc1, h⟩ | ⟨hc1, h⟩
 ·
  refine ji_condT rfl hc1 ?_
  exact absurd h nofun
 refine ji_condF rfl hc1 ?_
 refine ji_region ⟨[(0, kN), (1, kI (IntKind.i64.wrap (n - (IntKind.i64.wrap (0 - 0)))))], []⟩ (ro_oz 2 [kN] rfl (lo_capnil rfl Try.underlying22) rfl (by kernel_rfl)) ?_
 refine ji_rz ⟨[(0, kN), (1, kI (IntKind.i64.wrap (n - (IntKind.i64.wrap (0 - 0))))), (16, kB (decide ((IntKind.i64.wrap (n - (IntKind.i64.wrap (0 - 0)))) > 0)))], []⟩ (by kernel_rfl) ?_
 rcases ite_some h with ⟨hc2, h⟩ | ⟨hc2, h⟩
 ·
  refine ji_condT rfl hc2 ?_
  obtain ⟨v, h_v, h⟩ := bnd h
  obtain ⟨v2, h_v2, h⟩ := bnd h
  refine ji_region ⟨[(0, .own Rp.byte 5 12 [] v2)], []⟩ (ro_o 2 [kN] ⟨[(0, kN), (1, kI (IntKind.i64.wrap (n - (IntKind.i64.wrap (0 - 0))))), (17, kN), (19, kI 0)], []⟩ rfl (lo_capnil rfl Try.underlying22) rfl (by kernel_rfl) (ro_o 0 [kN, kI 0] ⟨[(0, kN), (1, kI (IntKind.i64.wrap (n - (IntKind.i64.wrap (0 - 0))))), (20, kN)], []⟩ rfl (lo_cutnil rfl zet22.el) rfl (by kernel_rfl) (ro_o 1 [kN, kI (IntKind.i64.wrap (n - (IntKind.i64.wrap (0 - 0))))] ⟨[(0, kN), (22, .own Rp.byte 5 12 [] v)], []⟩ rfl (lo_appz 12 rfl Try.underlying3 zet22 rfl h_v) rfl (by kernel_rfl) (ro_oz 2 [.own Rp.byte 5 12 [] v, kI 0] rfl (lo_cuto rfl zet22.el h_v2) rfl (by kernel_rfl))))) ?_
  refine ji_rz ⟨[(4, .own Rp.byte 5 12 [] v2)], []⟩ (by kernel_rfl) ?_
  obtain rfl := sj h
  refine je_ret ?_
  refine le_px ⟨[(4, .own Rp.byte 5 12 [] v2)], []⟩ (by kernel_rfl) (le_rn 12 2 rfl (le_px ⟨[(4, .own Rp.byte 5 2 [] v2)], []⟩ (by kernel_rfl) ?_))
  exact le_z (by kernel_rfl)
 refine ji_condF rfl hc2 ?_
 refine ji_rz ⟨[(4, kN)], []⟩ (by kernel_rfl) ?_
 obtain rfl := sj h
 refine je_ret ?_
 refine le_at 4 (.own Rp.byte 5 2 [] ([] : (List UInt8))) rfl (le_own_nil Rp.byte 5 2 [] rfl) ?_
 exact le_z (by kernel_rfl)
end Go.Proofs.Ythkdneddbbocmaa
