/-
  The Go functions do what the plain functions say. No condition.
-/
import Derived.Test.YtnhnanbgphdaeaaT
namespace Go.Proofs.Ytnhnanbgphdaeaa
open Go Go.RowKit
set_option linter.unusedVariables false
set_option maxRecDepth 100000
theorem varint_Read_ok {b : (List UInt8)} {r : (Int × Int × Int)} (h : varint_Read b = some r) : FnOk Try.prog 30 [.sl Rp.byte [0] b] [kU r.1, kI r.2.1, k8 r.2.2] := by
 refine fn_intro' (E := ⟨[(2, kU r.1), (3, kI r.2.1), (4, k8 r.2.2)], []⟩) 38 Try.func30 rfl rfl rfl ⟨rfl, rfl, rfl, trivial⟩ (fun w0 F => ?_)
 refine ji_start ?_
 refine ji_le (E' := ⟨[(0, .sl Rp.byte [0] b)], []⟩) (fun _ _ _ hs => hs) ?_
 unfold varint_Read at h
 refine ji_rz ⟨[(0, .sl Rp.byte [0] b), (2, kU 0)], []⟩ (by kernel_rfl) ?_
 obtain ⟨v, h_v, h⟩ := bnd h
 refine ji_region ⟨[(2, kU 0), (11, .sl Rp.byte [0] v), (12, kI (v.length : Int)), (13, kI 0)], []⟩ (ro_oz 4 [.sl Rp.byte [0] b, kI (if (10 : Int) < (b.length : Int) then 10 else (b.length : Int))] rfl (lo_cut none (some (kI (if (10 : Int) < (b.length : Int) then 10 else (b.length : Int)))) rfl zet22.el (isSl_sl _ _ _) ⟨rfl, rfl⟩ ⟨rfl, rfl⟩ h_v) rfl (by kernel_rfl)) ?_
 refine ji_block ?_
 obtain ⟨q, h_q, h⟩ := bnd h
 refine je_loop (fun s : (Int × Int) => varint_Read_b1 v s.1 s.2) (fun s => ⟨[(2, kU s.1), (11, .sl Rp.byte [0] v), (12, kI (v.length : Int)), (13, kI s.2)], []⟩) (fun o e a w => match o with | (.inl v_) => e = .exit 0 ∧ Sx ⟨38, w0, F⟩ ⟨[], []⟩ a w | (.inr v_) => e = .ret ∧ Sx ⟨38, w0, F⟩ ⟨[(2, kU v_.1), (3, kI v_.2.1), (4, k8 v_.2.2)], []⟩ a w) ?_ h_q (le_z (by kernel_rfl)) ?_
 ·
  clear h
  intro s o h
  obtain ⟨wv, v2⟩ := s
  refine ji_start ?_
  refine ji_le (E' := ⟨[(2, kU wv), (11, .sl Rp.byte [0] v), (12, kI (v.length : Int)), (13, kI v2)], []⟩) (fun _ _ _ hs => hs) ?_
  replace h : varint_Read_b1 v wv v2 = some o := h
  unfold varint_Read_b1 at h
  refine ji_rz ⟨[(2, kU wv), (11, .sl Rp.byte [0] v), (12, kI (v.length : Int)), (13, kI v2), (14, kB (decide (v2 < (v.length : Int))))], []⟩ (by kernel_rfl) ?_
  rcases ite_some h with ⟨hc1, h⟩ | ⟨hc1, h⟩
  ·
   refine ji_condT rfl hc1 ?_
   refine ji_block ?_
   obtain ⟨x, h_x, h⟩ := bnd h
   refine ji_region ⟨[(2, kU wv), (5, kI v2), (6, k8 (x.toNat : Int)), (11, .sl Rp.byte [0] v), (12, kI (v.length : Int)), (13, kI v2)], []⟩ (ro_oz 1 [.sl Rp.byte [0] v, kI v2] rfl (lo_ix rfl zet22.el (isSl_sl _ _ _) h_x) rfl (by kernel_rfl)) ?_
   refine ji_region ⟨[(2, kU wv), (5, kI v2), (6, k8 (x.toNat : Int)), (11, .sl Rp.byte [0] v), (12, kI (v.length : Int)), (13, kI v2), (23, kB ((v2 == 9) && (decide ((x.toNat : Int) > 1))))], []⟩ ?_ ?_
   ·
    refine (ro_sp 3 20 (v2 == 9) ⟨[(2, kU wv), (5, kI v2), (6, k8 (x.toNat : Int)), (11, .sl Rp.byte [0] v), (12, kI (v.length : Int)), (13, kI v2), (20, kB (v2 == 9))], []⟩ (by kernel_rfl) rfl (fun hc2 => ?_) (fun hc2 => ?_))
    · exact (ro_zb 23 (decide ((x.toNat : Int) > 1)) ((v2 == 9) && (decide ((x.toNat : Int) > 1))) (by rw [hc2] <;> rfl) (by kernel_rfl) (by kernel_rfl))
    exact (ro_zb 23 false ((v2 == 9) && (decide ((x.toNat : Int) > 1))) (by rw [hc2] <;> rfl) (by kernel_rfl) (by kernel_rfl))
   rcases ite_some h with ⟨hc3, h⟩ | ⟨hc3, h⟩
   ·
    refine ji_condT rfl hc3 ?_
    refine ji_rz ⟨[(2, kU 0), (3, kI 0), (4, k8 4)], []⟩ (by kernel_rfl) ?_
    obtain rfl := sj h
    exact je_ret' (le_z (by kernel_rfl))
   refine ji_condF rfl hc3 ?_
   obtain ⟨v4, h_v4, h⟩ := bnd h
   refine ji_region ⟨[(2, kU (orI .u64 wv v4)), (5, kI v2), (6, k8 (x.toNat : Int)), (11, .sl Rp.byte [0] v), (12, kI (v.length : Int)), (13, kI v2)], []⟩ (ro_oz 6 [kU (IntKind.u64.wrap (andI .u8 (x.toNat : Int) 127)), kI (IntKind.i64.wrap (7 * v2))] rfl (lo_shl rfl h_v4) rfl (by kernel_rfl)) ?_
   refine ji_rz ⟨[(2, kU (orI .u64 wv v4)), (5, kI v2), (11, .sl Rp.byte [0] v), (12, kI (v.length : Int)), (13, kI v2), (33, kB (decide ((x.toNat : Int) < 128)))], []⟩ (by kernel_rfl) ?_
   rcases ite_some h with ⟨hc4, h⟩ | ⟨hc4, h⟩
   ·
    refine ji_condT rfl hc4 ?_
    refine ji_rz ⟨[(2, kU (orI .u64 wv v4)), (3, kI (IntKind.i64.wrap (v2 + 1))), (4, k8 0)], []⟩ (by kernel_rfl) ?_
    obtain rfl := sj h
    exact je_ret' (le_z (by kernel_rfl))
   refine ji_condF rfl hc4 ?_
   refine ji_end ?_
   refine ji_rz ⟨[(2, kU (orI .u64 wv v4)), (11, .sl Rp.byte [0] v), (12, kI (v.length : Int)), (13, kI (IntKind.i64.wrap (v2 + 1)))], []⟩ (by kernel_rfl) ?_
   obtain rfl := sj h
   exact je_nil (le_z (by kernel_rfl))
  refine ji_condF rfl hc1 ?_
  obtain rfl := sj h
  exact je_out' rfl (le_z (by kernel_rfl))
 rcases q with u | u2
 ·
  refine k_exit _ rfl ?_
  refine ji_rz ⟨[(2, kU 0), (3, kI 0), (4, k8 3)], []⟩ (by kernel_rfl) ?_
  obtain rfl := sj h
  exact je_ret (le_z (by kernel_rfl))
 obtain rfl := sj h
 exact ke_ret (le_z (by kernel_rfl))
theorem tag_rightWire_ok {wire : Int} {r : Bool} (h : tag_rightWire wire = some r) : FnOk Try.prog 36 [kI wire] [kB r] := by
 refine fn_intro' (E := ⟨[(2, kB r)], []⟩) 9 Try.func36 rfl rfl rfl ⟨rfl, trivial⟩ (fun w0 F => ?_)
 refine ji_start ?_
 refine ji_le (E' := ⟨[(0, kI wire)], []⟩) (fun _ _ _ hs => hs) ?_
 unfold tag_rightWire at h
 refine ji_rz ⟨[(0, kI wire)], []⟩ (by kernel_rfl) ?_
 refine ji_rz ⟨[(3, kI wire)], []⟩ (by kernel_rfl) ?_
 refine ji_block ?_
 refine ji_rz ⟨[(3, kI wire), (4, kB (wire == 0))], []⟩ (by kernel_rfl) ?_
 rcases ite_some h with ⟨hc1, h⟩ | ⟨hc1, h⟩
 ·
  refine ji_condT rfl hc1 ?_
  rcases ite_some h with ⟨hc2, h⟩ | ⟨hc2, h⟩
  ·
   refine ji_condT rfl hc2 ?_
   refine ji_rz ⟨[(2, kB true)], []⟩ (by kernel_rfl) ?_
   obtain rfl := sj h
   exact je_ret (le_z (by kernel_rfl))
  refine ji_condF rfl hc2 ?_
  refine ji_end ?_
  refine ji_rz ⟨[(2, kB false)], []⟩ (by kernel_rfl) ?_
  obtain rfl := sj h
  exact je_ret (le_z (by kernel_rfl))
 refine ji_condF rfl hc1 ?_
 refine ji_rz ⟨[(3, kI wire), (4, kB (wire == 1))], []⟩ (by kernel_rfl) ?_
 rcases ite_some h with ⟨hc3, h⟩ | ⟨hc3, h⟩
 ·
  refine ji_condT rfl hc3 ?_
  rcases ite_some h with ⟨hc4, h⟩ | ⟨hc4, h⟩
  ·
   refine ji_condT rfl hc4 ?_
   refine ji_rz ⟨[(2, kB true)], []⟩ (by kernel_rfl) ?_
   obtain rfl := sj h
   exact je_ret (le_z (by kernel_rfl))
  refine ji_condF rfl hc4 ?_
  refine ji_end ?_
  refine ji_rz ⟨[(2, kB false)], []⟩ (by kernel_rfl) ?_
  obtain rfl := sj h
  exact je_ret (le_z (by kernel_rfl))
 refine ji_condF rfl hc3 ?_
 refine ji_rz ⟨[(3, kI wire), (4, kB (wire == 2))], []⟩ (by kernel_rfl) ?_
 rcases ite_some h with ⟨hc5, h⟩ | ⟨hc5, h⟩
 ·
  refine ji_condT rfl hc5 ?_
  rcases ite_some h with ⟨hc6, h⟩ | ⟨hc6, h⟩
  ·
   refine ji_condT rfl hc6 ?_
   refine ji_rz ⟨[(2, kB true)], []⟩ (by kernel_rfl) ?_
   obtain rfl := sj h
   exact je_ret (le_z (by kernel_rfl))
  refine ji_condF rfl hc6 ?_
  refine ji_end ?_
  refine ji_rz ⟨[(2, kB false)], []⟩ (by kernel_rfl) ?_
  obtain rfl := sj h
  exact je_ret (le_z (by kernel_rfl))
 refine ji_condF rfl hc5 ?_
 refine ji_rz ⟨[(4, kB (wire == 5))], []⟩ (by kernel_rfl) ?_
 rcases ite_some h with ⟨hc7, h⟩ | ⟨hc7, h⟩
 ·
  refine ji_condT rfl hc7 ?_
  refine ji_rz ⟨[(2, kB true)], []⟩ (by kernel_rfl) ?_
  obtain rfl := sj h
  exact je_ret (le_z (by kernel_rfl))
 refine ji_condF rfl hc7 ?_
 refine ji_end ?_
 refine ji_rz ⟨[(2, kB false)], []⟩ (by kernel_rfl) ?_
 obtain rfl := sj h
 exact je_ret (le_z (by kernel_rfl))
theorem darningref02_Read_ok {b : (List UInt8)} {atv : Int} {r : (Int × Int × Int)} (h : darningref02_Read b atv = some r) : FnOk Try.prog 22 [.sl Rp.byte [0] b, kI atv] [kU r.1, kI r.2.1, kI r.2.2] := by
 refine fn_intro' (E := ⟨[(4, kU r.1), (5, kI r.2.1), (6, kI r.2.2)], []⟩) 69 Try.func22 rfl rfl rfl ⟨rfl, rfl, rfl, trivial⟩ (fun w0 F => ?_)
 refine ji_start ?_
 refine ji_le (E' := ⟨[(0, .sl Rp.byte [0] b), (1, kI atv)], []⟩) (fun _ _ _ hs => hs) ?_
 unfold darningref02_Read at h
 refine ji_rz ⟨[(0, .sl Rp.byte [0] b), (1, kI atv)], []⟩ (by kernel_rfl) ?_
 refine ji_rz ⟨[(0, .sl Rp.byte [0] b), (1, kI atv), (7, kI 0)], []⟩ (by kernel_rfl) ?_
 refine ji_block ?_
 obtain ⟨q, h_q, h⟩ := bnd h
 refine je_loop (fun s : Int => darningref02_Read_b1 atv b s) (fun s => ⟨[(0, .sl Rp.byte [0] b), (1, kI atv), (7, kI s)], []⟩) (fun o e a w => e = .exit 0 ∧ Sx ⟨69, w0, F⟩ ⟨[(0, .sl Rp.byte [0] b), (1, kI atv), (7, kI o)], []⟩ a w) ?_ h_q (le_z (by kernel_rfl)) ?_
 ·
  clear h
  intro n o h
  refine ji_start ?_
  refine ji_le (E' := ⟨[(0, .sl Rp.byte [0] b), (1, kI atv), (7, kI n)], []⟩) (fun _ _ _ hs => hs) ?_
  replace h : darningref02_Read_b1 atv b n = some o := h
  unfold darningref02_Read_b1 at h
  obtain ⟨g, h_g, h⟩ := bnd h
  refine ji_region ⟨[(0, .sl Rp.byte [0] b), (1, kI atv), (7, kI n), (28, kB g)], []⟩ ?_ ?_
  ·
   refine (ro_sp 7 16 (decide ((IntKind.i64.wrap (atv + n)) < (b.length : Int))) ⟨[(0, .sl Rp.byte [0] b), (1, kI atv), (7, kI n), (16, kB (decide ((IntKind.i64.wrap (atv + n)) < (b.length : Int))))], []⟩ (by kernel_rfl) rfl (fun hc1 => ?_) (fun hc1 => ?_))
   ·
    replace h_g := iteT h_g hc1
    refine (ro_sp 4 20 (decide (n < 10)) ⟨[(0, .sl Rp.byte [0] b), (1, kI atv), (7, kI n), (20, kB (decide (n < 10)))], []⟩ (by kernel_rfl) rfl (fun hc2 => ?_) (fun hc2 => ?_))
    ·
     replace h_g := iteT h_g hc2
     obtain ⟨x, h_x, h_g⟩ := bnd h_g
     obtain rfl := sj h_g
     exact (ro_oz 4 [.sl Rp.byte [0] b, kI (IntKind.i64.wrap (atv + n))] rfl (lo_ix rfl zet22.el (isSl_sl _ _ _) h_x) rfl (by kernel_rfl))
    replace h_g := iteF h_g hc2
    obtain rfl := sj h_g
    exact (ro_z (by kernel_rfl))
   replace h_g := iteF h_g hc1
   obtain rfl := sj h_g
   exact (ro_z (by kernel_rfl))
  rcases ite_some h with ⟨hc3, h⟩ | ⟨hc3, h⟩
  ·
   refine ji_condT rfl hc3 ?_
   refine ji_block ?_
   refine ji_rz ⟨[(0, .sl Rp.byte [0] b), (1, kI atv), (7, kI (IntKind.i64.wrap (n + 1)))], []⟩ (by kernel_rfl) ?_
   refine ji_end ?_
   obtain rfl := sj h
   exact je_nil (le_z (by kernel_rfl))
  refine ji_condF rfl hc3 ?_
  obtain rfl := sj h
  exact je_out' rfl (le_z (by kernel_rfl))
 refine k_exit _ rfl ?_
 refine ji_rz ⟨[(0, .sl Rp.byte [0] b), (1, kI atv), (7, kI q), (32, kB (q == 10))], []⟩ (by kernel_rfl) ?_
 rcases ite_some h with ⟨hc4, h⟩ | ⟨hc4, h⟩
 ·
  refine ji_condT rfl hc4 ?_
  refine ji_rz ⟨[(4, kU 0), (5, kI 0), (6, kI 4)], []⟩ (by kernel_rfl) ?_
  obtain rfl := sj h
  exact je_ret (le_z (by kernel_rfl))
 refine ji_condF rfl hc4 ?_
 refine ji_rz ⟨[(0, .sl Rp.byte [0] b), (1, kI atv), (7, kI q), (38, kB ((IntKind.i64.wrap (atv + q)) == (b.length : Int)))], []⟩ (by kernel_rfl) ?_
 rcases ite_some h with ⟨hc5, h⟩ | ⟨hc5, h⟩
 ·
  refine ji_condT rfl hc5 ?_
  refine ji_rz ⟨[(4, kU 0), (5, kI 0), (6, kI 3)], []⟩ (by kernel_rfl) ?_
  obtain rfl := sj h
  exact je_ret (le_z (by kernel_rfl))
 refine ji_condF rfl hc5 ?_
 obtain ⟨g2, h_g2, h⟩ := bnd h
 refine ji_region ⟨[(0, .sl Rp.byte [0] b), (1, kI atv), (7, kI q), (49, kB g2)], []⟩ ?_ ?_
 ·
  refine (ro_sp 3 41 (q == 9) ⟨[(0, .sl Rp.byte [0] b), (1, kI atv), (7, kI q), (41, kB (q == 9))], []⟩ (by kernel_rfl) rfl (fun hc6 => ?_) (fun hc6 => ?_))
  ·
   replace h_g2 := iteT h_g2 hc6
   obtain ⟨x2, h_x2, h_g2⟩ := bnd h_g2
   obtain rfl := sj h_g2
   exact (ro_oz 4 [.sl Rp.byte [0] b, kI (IntKind.i64.wrap (atv + q))] rfl (lo_ix rfl zet22.el (isSl_sl _ _ _) h_x2) rfl (by kernel_rfl))
  replace h_g2 := iteF h_g2 hc6
  obtain rfl := sj h_g2
  exact (ro_z (by kernel_rfl))
 rcases ite_some h with ⟨hc7, h⟩ | ⟨hc7, h⟩
 ·
  refine ji_condT rfl hc7 ?_
  refine ji_rz ⟨[(4, kU 0), (5, kI 0), (6, kI 4)], []⟩ (by kernel_rfl) ?_
  obtain rfl := sj h
  exact je_ret (le_z (by kernel_rfl))
 refine ji_condF rfl hc7 ?_
 refine ji_rz ⟨[(0, .sl Rp.byte [0] b), (1, kI atv), (7, kI q), (8, kU 0)], []⟩ (by kernel_rfl) ?_
 refine ji_rz ⟨[(0, .sl Rp.byte [0] b), (1, kI atv), (7, kI q), (8, kU 0), (9, kI q)], []⟩ (by kernel_rfl) ?_
 refine ji_block ?_
 obtain ⟨q2, h_q2, h⟩ := bnd h
 refine je_loop (fun s : (Int × Int) => darningref02_Read_b2 atv b s.1 s.2) (fun s => ⟨[(0, .sl Rp.byte [0] b), (1, kI atv), (7, kI q), (8, kU s.1), (9, kI s.2)], []⟩) (fun o e a w => e = .exit 2 ∧ Sx ⟨69, w0, F⟩ ⟨[(7, kI q), (8, kU o)], []⟩ a w) ?_ h_q2 (le_z (by kernel_rfl)) ?_
 ·
  clear h
  intro s o h
  obtain ⟨wv, i⟩ := s
  refine ji_start ?_
  refine ji_le (E' := ⟨[(0, .sl Rp.byte [0] b), (1, kI atv), (7, kI q), (8, kU wv), (9, kI i)], []⟩) (fun _ _ _ hs => hs) ?_
  replace h : darningref02_Read_b2 atv b wv i = some o := h
  unfold darningref02_Read_b2 at h
  refine ji_rz ⟨[(0, .sl Rp.byte [0] b), (1, kI atv), (7, kI q), (8, kU wv), (9, kI i), (52, kB (decide (i ≥ 0)))], []⟩ (by kernel_rfl) ?_
  rcases ite_some h with ⟨hc8, h⟩ | ⟨hc8, h⟩
  ·
   refine ji_condT rfl hc8 ?_
   refine ji_block ?_
   obtain ⟨x3, h_x3, h⟩ := bnd h
   refine ji_region ⟨[(0, .sl Rp.byte [0] b), (1, kI atv), (7, kI q), (8, kU (IntKind.u64.wrap ((IntKind.u64.wrap (128 * wv)) + (IntKind.u64.wrap (Int.tmod (x3.toNat : Int) 128))))), (9, kI i)], []⟩ (ro_oz 6 [.sl Rp.byte [0] b, kI (IntKind.i64.wrap (atv + i))] rfl (lo_ix rfl zet22.el (isSl_sl _ _ _) h_x3) rfl (by kernel_rfl)) ?_
   refine ji_end ?_
   refine ji_rz ⟨[(0, .sl Rp.byte [0] b), (1, kI atv), (7, kI q), (8, kU (IntKind.u64.wrap ((IntKind.u64.wrap (128 * wv)) + (IntKind.u64.wrap (Int.tmod (x3.toNat : Int) 128))))), (9, kI (IntKind.i64.wrap (i - 1)))], []⟩ (by kernel_rfl) ?_
   obtain rfl := sj h
   exact je_nil (le_z (by kernel_rfl))
  refine ji_condF rfl hc8 ?_
  obtain rfl := sj h
  exact je_out' rfl (le_z (by kernel_rfl))
 refine k_exit _ rfl ?_
 refine ji_rz ⟨[(4, kU q2), (5, kI (IntKind.i64.wrap (q + 1))), (6, kI 0)], []⟩ (by kernel_rfl) ?_
 obtain rfl := sj h
 exact je_ret (le_z (by kernel_rfl))
theorem darningref03_Right_ok {number : Int} {wire : Int} {r : Bool} (h : darningref03_Right number wire = some r) : FnOk Try.prog 14 [kI number, kI wire] [kB r] := by
 refine fn_intro' (E := ⟨[(4, kB r)], []⟩) 27 Try.func14 rfl rfl rfl ⟨rfl, trivial⟩ (fun w0 F => ?_)
 refine ji_start ?_
 refine ji_le (E' := ⟨[(0, kI number), (1, kI wire)], []⟩) (fun _ _ _ hs => hs) ?_
 unfold darningref03_Right at h
 refine ji_rz ⟨[(0, kI number), (1, kI wire)], []⟩ (by kernel_rfl) ?_
 refine ji_region ⟨[(4, kB ((decide (number ≥ 1)) && ((decide (number ≤ 536870911)) && ((wire == 0) || ((wire == 1) || ((wire == 2) || (wire == 5)))))))], []⟩ ?_ ?_
 ·
  refine (ro_sp 3 7 (decide (number ≥ 1)) ⟨[(0, kI number), (1, kI wire), (7, kB (decide (number ≥ 1)))], []⟩ (by kernel_rfl) rfl (fun hc1 => ?_) (fun hc1 => ?_))
  ·
   refine (ro_sp 4 11 (decide (number ≤ 536870911)) ⟨[(1, kI wire), (11, kB (decide (number ≤ 536870911)))], []⟩ (by kernel_rfl) rfl (fun hc2 => ?_) (fun hc2 => ?_))
   ·
    refine (ro_sp 3 14 (wire == 0) ⟨[(1, kI wire), (11, kB true), (14, kB (wire == 0))], []⟩ (by kernel_rfl) rfl (fun hc3 => ?_) (fun hc3 => ?_))
    · exact (ro_zb 4 true ((decide (number ≥ 1)) && ((decide (number ≤ 536870911)) && ((wire == 0) || ((wire == 1) || ((wire == 2) || (wire == 5)))))) (by rw [hc1, hc2, hc3] <;> rfl) (by kernel_rfl) (by kernel_rfl))
    refine (ro_sp 4 18 (wire == 1) ⟨[(1, kI wire), (11, kB true), (18, kB (wire == 1))], []⟩ (by kernel_rfl) rfl (fun hc4 => ?_) (fun hc4 => ?_))
    · exact (ro_zb 4 true ((decide (number ≥ 1)) && ((decide (number ≤ 536870911)) && ((wire == 0) || ((wire == 1) || ((wire == 2) || (wire == 5)))))) (by rw [hc1, hc2, hc3, hc4] <;> rfl) (by kernel_rfl) (by kernel_rfl))
    refine (ro_sp 4 22 (wire == 2) ⟨[(1, kI wire), (11, kB true), (22, kB (wire == 2))], []⟩ (by kernel_rfl) rfl (fun hc5 => ?_) (fun hc5 => ?_))
    · exact (ro_zb 4 true ((decide (number ≥ 1)) && ((decide (number ≤ 536870911)) && ((wire == 0) || ((wire == 1) || ((wire == 2) || (wire == 5)))))) (by rw [hc1, hc2, hc3, hc4, hc5] <;> rfl) (by kernel_rfl) (by kernel_rfl))
    exact (ro_zb 4 (wire == 5) ((decide (number ≥ 1)) && ((decide (number ≤ 536870911)) && ((wire == 0) || ((wire == 1) || ((wire == 2) || (wire == 5)))))) (by rw [hc1, hc2, hc3, hc4, hc5] <;> rfl) (by kernel_rfl) (by kernel_rfl))
   exact (ro_zb 4 false ((decide (number ≥ 1)) && ((decide (number ≤ 536870911)) && ((wire == 0) || ((wire == 1) || ((wire == 2) || (wire == 5)))))) (by rw [hc1, hc2] <;> rfl) (by kernel_rfl) (by kernel_rfl))
  exact (ro_zb 4 false ((decide (number ≥ 1)) && ((decide (number ≤ 536870911)) && ((wire == 0) || ((wire == 1) || ((wire == 2) || (wire == 5)))))) (by rw [hc1] <;> rfl) (by kernel_rfl) (by kernel_rfl))
 obtain rfl := sj h
 exact je_ret (le_z (by kernel_rfl))
theorem tag_word_ok {t : T_Number_Wire} {r : Int} (h : tag_word t = some r) : FnOk Try.prog 33 [.rc R_Number_Wire [0] t] [kU r] := by
 refine fn_intro' (E := ⟨[(2, kU r)], []⟩) 11 Try.func33 rfl rfl rfl ⟨rfl, trivial⟩ (fun w0 F => ?_)
 refine ji_start ?_
 refine ji_le (E' := ⟨[(0, .rc R_Number_Wire [0] t)], []⟩) (fun _ _ _ hs => hs) ?_
 unfold tag_word at h
 refine ji_region ⟨[(1, .ptr 11 0)], [⟨11, 50, [kI t.Number, kI t.Wire]⟩]⟩ (ro_oz 0 [.rc R_Number_Wire [0] t] rfl (lo_box 11 [kI t.Number, kI t.Wire] [0] rfl rfl rfl rfl rfl) rfl (by kernel_rfl)) ?_
 refine ji_region ⟨[(2, kU (orI .u64 (shlI .u64 (IntKind.u64.wrap t.Number) 3) (IntKind.u64.wrap t.Wire)))], []⟩ (ro_oz 3 [kU (IntKind.u64.wrap t.Number), kU 3] rfl (lo_shl rfl rfl) rfl (by kernel_rfl)) ?_
 obtain rfl := sj h
 exact je_ret (le_z (by kernel_rfl))
theorem bits_Len_ok {wv : Int} {r : Int} (h : bits_Len wv = some r) : FnOk Try.prog 34 [kU wv] [kI r] := by
 refine fn_intro' (E := ⟨[(2, kI r)], []⟩) 13 Try.func34 rfl rfl rfl ⟨rfl, trivial⟩ (fun w0 F => ?_)
 refine ji_start ?_
 refine ji_le (E' := ⟨[(0, kU wv)], []⟩) (fun _ _ _ hs => hs) ?_
 unfold bits_Len at h
 refine ji_rz ⟨[(0, kU wv)], []⟩ (by kernel_rfl) ?_
 refine ji_rz ⟨[(0, kU wv), (3, kI 1)], []⟩ (by kernel_rfl) ?_
 refine ji_region ⟨[(0, kU (shrI .u64 wv 7)), (3, kI 1)], []⟩ (ro_oz 1 [kU wv, kU 7] rfl (lo_shr rfl rfl) rfl (by kernel_rfl)) ?_
 refine ji_block ?_
 obtain ⟨q, h_q, h⟩ := bnd h
 refine je_loop (fun s : (Int × Int) => bits_Len_b1 s.1 s.2) (fun s => ⟨[(0, kU s.1), (3, kI s.2)], []⟩) (fun o e a w => e = .exit 0 ∧ Sx ⟨13, w0, F⟩ ⟨[(3, kI o)], []⟩ a w) ?_ h_q (le_z (by kernel_rfl)) ?_
 ·
  clear h
  intro s o h
  obtain ⟨wv2, n⟩ := s
  refine ji_start ?_
  refine ji_le (E' := ⟨[(0, kU wv2), (3, kI n)], []⟩) (fun _ _ _ hs => hs) ?_
  replace h : bits_Len_b1 wv2 n = some o := h
  unfold bits_Len_b1 at h
  refine ji_rz ⟨[(0, kU wv2), (3, kI n), (7, kB (wv2 != 0))], []⟩ (by kernel_rfl) ?_
  rcases ite_some h with ⟨hc1, h⟩ | ⟨hc1, h⟩
  ·
   refine ji_condT rfl hc1 ?_
   refine ji_block ?_
   refine ji_rz ⟨[(0, kU wv2), (3, kI (IntKind.i64.wrap (n + 1)))], []⟩ (by kernel_rfl) ?_
   refine ji_end ?_
   refine ji_region ⟨[(0, kU (shrI .u64 wv2 7)), (3, kI (IntKind.i64.wrap (n + 1)))], []⟩ (ro_oz 1 [kU wv2, kU 7] rfl (lo_shr rfl rfl) rfl (by kernel_rfl)) ?_
   obtain rfl := sj h
   exact je_nil (le_z (by kernel_rfl))
  refine ji_condF rfl hc1 ?_
  obtain rfl := sj h
  exact je_out' rfl (le_z (by kernel_rfl))
 refine k_exit _ rfl ?_
 refine ji_rz ⟨[(2, kI q)], []⟩ (by kernel_rfl) ?_
 obtain rfl := sj h
 exact je_ret (le_z (by kernel_rfl))
theorem slices_Grow___byte_byte__ok {n : Int} {r : (List UInt8)} (h : slices_Grow___byte_byte_ n = some r) : FnOk Try.prog 35 [kN, kI n] [.own Rp.byte 5 2 [] r] := by
 refine fn_intro' (E := ⟨[(4, .own Rp.byte 5 2 [] r)], []⟩) 27 Try.func35 rfl rfl rfl ⟨rfl, trivial⟩ (fun w0 F => ?_)
 refine ji_start ?_
 refine ji_le (E' := ⟨[(0, kN), (1, kI n)], []⟩) (fun _ _ _ hs => hs) ?_
 unfold slices_Grow___byte_byte_ at h
 refine ji_rz ⟨[(0, kN), (1, kI n)], []⟩ (by kernel_rfl) ?_
 refine ji_rz ⟨[(0, kN), (1, kI n), (6, kB (decide (n < 0)))], []⟩ (by kernel_rfl) ?_
 rcases ite_some h with ⟨hc1, h⟩ | ⟨hc1, h⟩
 ·
  refine ji_condT rfl hc1 ?_
  exact absurd h nofun
 refine ji_condF rfl hc1 ?_
 refine ji_region ⟨[(0, kN), (1, kI (IntKind.i64.wrap (n - (IntKind.i64.wrap (0 - 0)))))], []⟩ (ro_oz 2 [kN] rfl (lo_capnil rfl Try.underlying22) rfl (by kernel_rfl)) ?_
 refine ji_rz ⟨[(0, kN), (1, kI (IntKind.i64.wrap (n - (IntKind.i64.wrap (0 - 0))))), (16, kB (decide ((IntKind.i64.wrap (n - (IntKind.i64.wrap (0 - 0)))) > 0)))], []⟩ (by kernel_rfl) ?_
 rcases ite_some h with ⟨hc2, h⟩ | ⟨hc2, h⟩
 ·
  refine ji_condT rfl hc2 ?_
  obtain ⟨v, h_v, h⟩ := bnd h
  obtain ⟨v2, h_v2, h⟩ := bnd h
  refine ji_region ⟨[(0, .own Rp.byte 5 12 [] v2)], []⟩ (ro_o 2 [kN] ⟨[(0, kN), (1, kI (IntKind.i64.wrap (n - (IntKind.i64.wrap (0 - 0))))), (17, kN), (19, kI 0)], []⟩ rfl (lo_capnil rfl Try.underlying22) rfl (by kernel_rfl) (ro_o 0 [kN, kI 0] ⟨[(0, kN), (1, kI (IntKind.i64.wrap (n - (IntKind.i64.wrap (0 - 0))))), (20, kN)], []⟩ rfl (lo_cutnil rfl zet22.el) rfl (by kernel_rfl) (ro_o 1 [kN, kI (IntKind.i64.wrap (n - (IntKind.i64.wrap (0 - 0))))] ⟨[(0, kN), (22, .own Rp.byte 5 12 [] v)], []⟩ rfl (lo_appz 12 rfl Try.underlying3 zet22 rfl h_v) rfl (by kernel_rfl) (ro_oz 2 [.own Rp.byte 5 12 [] v, kI 0] rfl (lo_cuto rfl zet22.el h_v2) rfl (by kernel_rfl))))) ?_
  refine ji_rz ⟨[(4, .own Rp.byte 5 12 [] v2)], []⟩ (by kernel_rfl) ?_
  obtain rfl := sj h
  refine je_ret ?_
  refine le_px ⟨[(4, .own Rp.byte 5 12 [] v2)], []⟩ (by kernel_rfl) (le_rn 12 2 rfl (le_px ⟨[(4, .own Rp.byte 5 2 [] v2)], []⟩ (by kernel_rfl) ?_))
  exact le_z (by kernel_rfl)
 refine ji_condF rfl hc2 ?_
 refine ji_rz ⟨[(4, kN)], []⟩ (by kernel_rfl) ?_
 obtain rfl := sj h
 refine je_ret ?_
 refine le_at 4 (.own Rp.byte 5 2 [] ([] : (List UInt8))) rfl (le_own_nil Rp.byte 5 2 [] rfl) ?_
 exact le_z (by kernel_rfl)
theorem darningref02_Put_fok {rec_darningref02_Put : Int → Option (List UInt8)} (hrec_darningref02_Put : ∀ {wv : Int} {r : (List UInt8)}, rec_darningref02_Put wv = some r → FnOk Try.prog 28 [kU wv] [.own Rp.byte 5 2 [] r]) {wv : Int} {r : (List UInt8)} (h : darningref02_Put_f rec_darningref02_Put wv = some r) : FnOk Try.prog 28 [kU wv] [.own Rp.byte 5 2 [] r] := by
 refine fn_intro' (E := ⟨[(2, .own Rp.byte 5 2 [] r)], []⟩) 17 Try.func28 rfl rfl rfl ⟨rfl, trivial⟩ (fun w0 F => ?_)
 refine ji_start ?_
 refine ji_le (E' := ⟨[(0, kU wv)], []⟩) (fun _ _ _ hs => hs) ?_
 unfold darningref02_Put_f at h
 refine ji_rz ⟨[(0, kU wv)], []⟩ (by kernel_rfl) ?_
 refine ji_rz ⟨[(0, kU wv), (4, kB (decide (wv < 128)))], []⟩ (by kernel_rfl) ?_
 rcases ite_some h with ⟨hc1, h⟩ | ⟨hc1, h⟩
 ·
  refine ji_condT rfl hc1 ?_
  obtain ⟨y, h_y, h⟩ := bnd h
  refine ji_region ⟨[(2, .own Rp.byte 5 12 [] ([y] : List UInt8))], []⟩ (ro_oz 2 [k8 (IntKind.u8.wrap wv)] rfl (LocalOk.le (ins' := [(.tmp 6, .lf (.int .u8 (IntKind.u8.wrap wv)))]) (lo_bsl [.lf (.int .u8 (y.toNat : Int))] 12 [] [y] rfl zet22 rfl rfl rfl rfl) ⟨⟨rfl, le_byte h_y⟩, trivial⟩) rfl (by kernel_rfl)) ?_
  obtain rfl := sj h
  refine je_ret ?_
  refine le_px ⟨[(2, .own Rp.byte 5 12 [] ([y] : List UInt8))], []⟩ (by kernel_rfl) (le_rn 12 2 rfl (le_px ⟨[(2, .own Rp.byte 5 2 [] ([y] : List UInt8))], []⟩ (by kernel_rfl) ?_))
  exact le_z (by kernel_rfl)
 refine ji_condF rfl hc1 ?_
 obtain ⟨y2, h_y2, h⟩ := bnd h
 obtain ⟨rv, h_rv, h⟩ := bnd h
 obtain ⟨v, h_v, h⟩ := bnd h
 refine ji_region ⟨[(2, .own Rp.byte 5 13 [] v)], []⟩ (ro_o 4 [k8 (IntKind.u8.wrap (IntKind.u64.wrap (128 + (Int.tmod wv 128))))] ⟨[(0, kU wv), (12, .own Rp.byte 5 13 [] ([y2] : List UInt8))], []⟩ rfl (LocalOk.le (ins' := [(.tmp 11, .lf (.int .u8 (IntKind.u8.wrap (IntKind.u64.wrap (128 + (Int.tmod wv 128))))))]) (lo_bsl [.lf (.int .u8 (y2.toNat : Int))] 13 [] [y2] rfl zet22 rfl rfl rfl rfl) ⟨⟨rfl, le_byte h_y2⟩, trivial⟩) rfl (by kernel_rfl) (ro_o 2 [kU (IntKind.u64.wrap (Int.tdiv wv 128))] ⟨[(12, .own Rp.byte 5 13 [] ([y2] : List UInt8)), (15, .own Rp.byte 5 14 [] rv)], []⟩ rfl (lo_call [kU (IntKind.u64.wrap (Int.tdiv wv 128))] [1] 12 rfl Try.call28 (hrec_darningref02_Put h_rv) rfl rfl rfl rfl rfl) rfl (by kernel_rfl) (ro_oz 0 [.own Rp.byte 5 13 [] ([y2] : List UInt8), .own Rp.byte 5 14 [] rv] rfl (lo_app 13 [] rfl zet22.el rfl (isOwn_own _ _ _ _ _) (isSl_own _ _ _ _ _) h_v (.inl plain_byte) rfl) rfl (by kernel_rfl)))) ?_
 obtain rfl := sj h
 refine je_ret ?_
 refine le_px ⟨[(2, .own Rp.byte 5 13 [] v)], []⟩ (by kernel_rfl) (le_rn 13 2 rfl (le_px ⟨[(2, .own Rp.byte 5 2 [] v)], []⟩ (by kernel_rfl) ?_))
 exact le_z (by kernel_rfl)
theorem darningref02_Put_ok {fuel : Nat} {wv : Int} {r : (List UInt8)} (h : darningref02_Put fuel wv = some r) : FnOk Try.prog 28 [kU wv] [.own Rp.byte 5 2 [] r] := by
  induction fuel generalizing wv r with
  | zero => exact absurd h nofun
  | succ fuel ih => exact darningref02_Put_fok (fun hh => ih hh) h
theorem darningref01_Same_ok {av : (List UInt8)} {b : (List UInt8)} {r : Bool} (h : darningref01_Same av b = some r) : FnOk Try.prog 16 [.sl Rp.byte [0] av, .sl Rp.byte [0] b] [kB r] := by
 refine fn_intro' (E := ⟨[(4, kB r)], []⟩) 10 Try.func16 rfl rfl rfl ⟨rfl, trivial⟩ (fun w0 F => ?_)
 refine ji_start ?_
 refine ji_le (E' := ⟨[(0, .sl Rp.byte [0] av), (1, .sl Rp.byte [0] b)], []⟩) (fun _ _ _ hs => hs) ?_
 unfold darningref01_Same at h
 refine ji_rz ⟨[(0, .sl Rp.byte [0] av), (1, .sl Rp.byte [0] b)], []⟩ (by kernel_rfl) ?_
 refine ji_region ⟨[(4, kB (av == b))], []⟩ (ro_o 1 [.sl Rp.byte [0] av] ⟨[(1, .sl Rp.byte [0] b), (6, kS av)], []⟩ rfl (lo_b2s rfl Try.underlying22 Try.underlying5 Try.underlying9 (isSl_sl _ _ _)) rfl (by kernel_rfl) (ro_oz 1 [.sl Rp.byte [0] b] rfl (lo_b2s rfl Try.underlying22 Try.underlying5 Try.underlying9 (isSl_sl _ _ _)) rfl (by kernel_rfl))) ?_
 obtain rfl := sj h
 exact je_ret (le_z (by kernel_rfl))
end Go.Proofs.Ytnhnanbgphdaeaa
