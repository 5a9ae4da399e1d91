/-
  The Go functions do what the plain functions say. No condition.
-/
import Derived.Test.YthkdneddbbocmaaG3
namespace Go.Proofs.Ythkdneddbbocmaa
open Go Go.RowKit
set_option linter.unusedVariables false
set_option maxRecDepth 100000
theorem scalar_Size_ok {k : Int} {wv : Int} {r : Int} (h : scalar_Size k wv = some r) : FnOk Try.prog 39 [kI k, kU wv] [kI r] := by
 refine fn_intro' (E := ⟨[(4, kI r)], []⟩) 29 Try.func39 rfl rfl rfl ⟨rfl, trivial⟩ (fun Xt => ?_)
 refine ji_start ?_
 refine ji_le (E' := ⟨[(0, kI k), (1, kU wv)], []⟩) (fun _ _ _ hs => hs) ?_
 unfold scalar_Size at h
 refine ji_rz ⟨[(0, kI k), (1, kU wv)], []⟩ (by kernel_rfl) ?_
 obtain ⟨rv, h_rv, h⟩ := bnd h
 refine ji_region ⟨[(0, kI k), (1, kU wv), (5, kI rv.1), (6, k8 rv.2)], []⟩ (ro_oz 1 [kI k] rfl (lo_call [kI k] [1] 9 rfl Try.call42 (scalar_width_ok h_rv) rfl rfl rfl rfl rfl) rfl (by kernel_rfl)) ?_
 refine ji_region ⟨[(0, kI k), (1, kU wv), (5, kI rv.1), (19, kB ((rv.2 != 0) || (rv.1 != 0)))], []⟩ ?_ ?_
 ·
  refine (ro_sp 3 16 (rv.2 != 0) ⟨[(0, kI k), (1, kU wv), (5, kI rv.1), (16, kB (rv.2 != 0))], []⟩ (by kernel_rfl) rfl (fun hc1 => ?_) (fun hc1 => ?_))
  · exact (ro_zb 19 true ((rv.2 != 0) || (rv.1 != 0)) (by rw [hc1] <;> rfl) (by kernel_rfl) (by kernel_rfl))
  exact (ro_zb 19 (rv.1 != 0) ((rv.2 != 0) || (rv.1 != 0)) (by rw [hc1] <;> rfl) (by kernel_rfl) (by kernel_rfl))
 rcases ite_some h with ⟨hc2, h⟩ | ⟨hc2, h⟩
 ·
  refine ji_condT rfl hc2 ?_
  refine ji_rz ⟨[(4, kI rv.1)], []⟩ (by kernel_rfl) ?_
  obtain rfl := sj h
  exact je_ret (le_z (by kernel_rfl))
 refine ji_condF rfl hc2 ?_
 obtain ⟨rv2, h_rv2, h⟩ := bnd h
 refine ji_region ⟨[(7, kU rv2.1)], []⟩ (ro_oz 2 [kI k, kU wv] rfl (lo_call [kI k, kU wv] [1] 9 rfl Try.call33 (kind_Canon_ok h_rv2) rfl rfl rfl rfl rfl) rfl (by kernel_rfl)) ?_
 obtain ⟨rv3, h_rv3, h⟩ := bnd h
 refine ji_region ⟨[(4, kI rv3)], []⟩ (ro_oz 1 [kU rv2.1] rfl (lo_call [kU rv2.1] [1] 9 rfl Try.call55 (bits_Len_ok h_rv3) rfl rfl rfl rfl rfl) rfl (by kernel_rfl)) ?_
 obtain rfl := sj h
 exact je_ret (le_z (by kernel_rfl))
theorem scalar_Read_ok {k : Int} {b : (List UInt8)} {r : (Int × Int)} (h : scalar_Read k b = some r) : FnOk Try.prog 21 [kI k, .sl Rp.byte [0] b] [kU r.1, k8 r.2] := by
 refine fn_intro' (E := ⟨[(4, kU r.1), (5, k8 r.2)], []⟩) 22 Try.func21 rfl rfl rfl ⟨rfl, rfl, trivial⟩ (fun Xt => ?_)
 refine ji_start ?_
 refine ji_le (E' := ⟨[(0, kI k), (1, .sl Rp.byte [0] b)], []⟩) (fun _ _ _ hs => hs) ?_
 unfold scalar_Read at h
 refine ji_rz ⟨[(0, kI k), (1, .sl Rp.byte [0] b)], []⟩ (by kernel_rfl) ?_
 obtain ⟨rv, h_rv, h⟩ := bnd h
 refine ji_region ⟨[(0, kI k), (6, kU rv.1), (7, k8 rv.2)], []⟩ (ro_oz 2 [kI k, .sl Rp.byte [0] b] rfl (lo_call [kI k, .sl Rp.byte [0] b] [0] 9 rfl Try.call32 (scalar_plain_ok h_rv) rfl rfl rfl rfl rfl) rfl (by kernel_rfl)) ?_
 refine ji_rz ⟨[(0, kI k), (6, kU rv.1), (7, k8 rv.2), (15, kB (rv.2 != 0))], []⟩ (by kernel_rfl) ?_
 rcases ite_some h with ⟨hc1, h⟩ | ⟨hc1, h⟩
 ·
  refine ji_condT rfl hc1 ?_
  refine ji_rz ⟨[(4, kU 0), (5, k8 rv.2)], []⟩ (by kernel_rfl) ?_
  obtain rfl := sj h
  exact je_ret (le_z (by kernel_rfl))
 refine ji_condF rfl hc1 ?_
 obtain ⟨rv2, h_rv2, h⟩ := bnd h
 refine ji_region ⟨[(4, kU rv2.1), (5, k8 rv2.2)], []⟩ (ro_oz 2 [kI k, kU rv.1] rfl (lo_call [kI k, kU rv.1] [1] 9 rfl Try.call33 (kind_Canon_ok h_rv2) rfl rfl rfl rfl rfl) rfl (by kernel_rfl)) ?_
 obtain rfl := sj h
 exact je_ret (le_z (by kernel_rfl))
theorem darningref09_Words_ok {k : Int} {b : (List UInt8)} {r : ((List Int) × Int)} (h : darningref09_Words k b = some r) : FnOk Try.prog 9 [kI k, .sl Rp.byte [0] b] [.own (Rp.int .u64) 32 2 [] r.1, kI r.2] := by
 refine fn_intro' (E := ⟨[(4, .own (Rp.int .u64) 32 2 [] r.1), (5, kI r.2)], []⟩) 50 Try.func9 rfl rfl rfl ⟨rfl, rfl, trivial⟩ (fun Xt => ?_)
 refine ji_start ?_
 refine ji_le (E' := ⟨[(0, kI k), (1, .sl Rp.byte [0] b)], []⟩) (fun _ _ _ hs => hs) ?_
 unfold darningref09_Words at h
 refine ji_rz ⟨[(0, kI k), (1, .sl Rp.byte [0] b)], []⟩ (by kernel_rfl) ?_
 obtain ⟨rv, h_rv, h⟩ := bnd h
 refine ji_region ⟨[(0, kI k), (1, .sl Rp.byte [0] b), (6, .own (Rp.int .i64) 3 15 [] rv.1), (7, kI rv.2)], []⟩ (ro_oz 2 [kI k, .sl Rp.byte [0] b] rfl (lo_call [kI k, .sl Rp.byte [0] b] [0] 13 rfl Try.call19 (darningref09_Ends_ok h_rv) rfl rfl rfl rfl rfl) rfl (by kernel_rfl)) ?_
 refine ji_rz ⟨[(0, kI k), (1, .sl Rp.byte [0] b), (6, .own (Rp.int .i64) 3 15 [] rv.1), (7, kI rv.2), (8, kN)], []⟩ (by kernel_rfl) ?_
 refine ji_rz ⟨[(0, kI k), (1, .sl Rp.byte [0] b), (6, .own (Rp.int .i64) 3 15 [] rv.1), (7, kI rv.2), (8, kN), (9, kI 0)], []⟩ (by kernel_rfl) ?_
 refine ji_block ?_
 obtain ⟨q, h_q, h⟩ := bnd h
 refine je_loop (fun s : ((List Int) × Int) => darningref09_Words_b1 b k rv s.1 s.2) (fun s => ⟨[(0, kI k), (1, .sl Rp.byte [0] b), (6, .own (Rp.int .i64) 3 15 [] rv.1), (7, kI rv.2), (8, .own (Rp.int .u64) 32 18 [] s.1), (9, kI s.2)], []⟩) (fun o e a w => e = .exit 0 ∧ Sx ⟨⟨50, []⟩, Xt, false, #[]⟩ ⟨[(7, kI rv.2), (8, .own (Rp.int .u64) 32 18 [] o)], []⟩ a w) ?_ h_q ?_ ?_
 ·
  clear h
  intro s o h
  obtain ⟨out, i⟩ := s
  refine ji_start ?_
  refine ji_le (E' := ⟨[(0, kI k), (1, .sl Rp.byte [0] b), (6, .own (Rp.int .i64) 3 15 [] rv.1), (7, kI rv.2), (8, .own (Rp.int .u64) 32 18 [] out), (9, kI i)], []⟩) (fun _ _ _ hs => hs) ?_
  replace h : darningref09_Words_b1 b k rv out i = some o := h
  unfold darningref09_Words_b1 at h
  refine ji_rz ⟨[(0, kI k), (1, .sl Rp.byte [0] b), (6, .own (Rp.int .i64) 3 15 [] rv.1), (7, kI rv.2), (8, .own (Rp.int .u64) 32 18 [] out), (9, kI i), (22, kB (decide (i < (rv.1.length : Int))))], []⟩ (by kernel_rfl) ?_
  rcases ite_some h with ⟨hc1, h⟩ | ⟨hc1, h⟩
  ·
   refine ji_condT rfl hc1 ?_
   refine ji_block ?_
   refine ji_rz ⟨[(0, kI k), (1, .sl Rp.byte [0] b), (6, .own (Rp.int .i64) 3 15 [] rv.1), (7, kI rv.2), (8, .own (Rp.int .u64) 32 18 [] out), (9, kI i), (10, kI 0)], []⟩ (by kernel_rfl) ?_
   refine ji_rz ⟨[(0, kI k), (1, .sl Rp.byte [0] b), (6, .own (Rp.int .i64) 3 15 [] rv.1), (7, kI rv.2), (8, .own (Rp.int .u64) 32 18 [] out), (9, kI i), (10, kI 0), (26, kB (decide (i > 0)))], []⟩ (by kernel_rfl) ?_
   obtain ⟨p, h_p, h⟩ := bnd h
   refine ji_join (R := fun e a w => e = .normal ∧ Sx ⟨⟨50, []⟩, Xt, false, #[]⟩ ⟨[(0, kI k), (1, .sl Rp.byte [0] b), (6, .own (Rp.int .i64) 3 15 [] rv.1), (7, kI rv.2), (8, .own (Rp.int .u64) 32 18 [] out), (9, kI i), (10, kI p)], []⟩ a w) ?_ ?_
   ·
    replace h := h_p
    refine ji_start ?_
    rcases ite_some h with ⟨hc2, h⟩ | ⟨hc2, h⟩
    ·
     refine ji_condT rfl hc2 ?_
     obtain ⟨x, h_x, h⟩ := bnd h
     refine ji_region ⟨[(0, kI k), (1, .sl Rp.byte [0] b), (6, .own (Rp.int .i64) 3 15 [] rv.1), (7, kI rv.2), (8, .own (Rp.int .u64) 32 18 [] out), (9, kI i), (10, kI x)], []⟩ (ro_oz 3 [.own (Rp.int .i64) 3 15 [] rv.1, kI (IntKind.i64.wrap (i - 1))] rfl (lo_ix rfl zet46.el (isSl_own _ _ _ _ _) h_x) rfl (by kernel_rfl)) ?_
     obtain rfl := sj h
     exact je_nil (le_z (by kernel_rfl))
    refine ji_condF rfl hc2 ?_
    obtain rfl := sj h
    exact je_nil (le_z (by kernel_rfl))
   refine k_norm ?_
   obtain ⟨x2, h_x2, h⟩ := bnd h
   obtain ⟨v, h_v, h⟩ := bnd h
   obtain ⟨rv2, h_rv2, h⟩ := bnd h
   refine ji_region ⟨[(0, kI k), (1, .sl Rp.byte [0] b), (6, .own (Rp.int .i64) 3 15 [] rv.1), (7, kI rv.2), (8, .own (Rp.int .u64) 32 18 [] out), (9, kI i), (11, kU rv2.1)], []⟩ (ro_o 5 [.own (Rp.int .i64) 3 15 [] rv.1, kI i] ⟨[(0, kI k), (1, .sl Rp.byte [0] b), (6, .own (Rp.int .i64) 3 15 [] rv.1), (7, kI rv.2), (8, .own (Rp.int .u64) 32 18 [] out), (9, kI i), (33, kI k), (34, .sl Rp.byte [0] b), (35, kI p), (38, .ep (Rp.int .i64) [15] x2 0)], []⟩ rfl (lo_ix rfl zet46.el (isSl_own _ _ _ _ _) h_x2) rfl (by kernel_rfl) (ro_o 1 [.sl Rp.byte [0] b, kI p, kI x2] ⟨[(0, kI k), (1, .sl Rp.byte [0] b), (6, .own (Rp.int .i64) 3 15 [] rv.1), (7, kI rv.2), (8, .own (Rp.int .u64) 32 18 [] out), (9, kI i), (33, kI k), (40, .sl Rp.byte [0] v)], []⟩ rfl (lo_cut (some (kI p)) (some (kI x2)) rfl zet22.el (isSl_sl _ _ _) ⟨rfl, rfl⟩ ⟨rfl, rfl⟩ h_v) rfl (by kernel_rfl) (ro_oz 0 [kI k, .sl Rp.byte [0] v] rfl (lo_call [kI k, .sl Rp.byte [0] v] [0] 17 rfl Try.call22 (darningref08_Read_ok h_rv2) rfl rfl rfl rfl rfl) rfl (by kernel_rfl)))) ?_
   obtain ⟨v2, h_v2, h⟩ := bnd h
   refine ji_region ⟨[(0, kI k), (1, .sl Rp.byte [0] b), (6, .own (Rp.int .i64) 3 15 [] rv.1), (7, kI rv.2), (8, .own (Rp.int .u64) 32 18 [] v2), (9, kI i)], []⟩ (ro_o 2 [kU rv2.1] ⟨[(0, kI k), (1, .sl Rp.byte [0] b), (6, .own (Rp.int .i64) 3 15 [] rv.1), (7, kI rv.2), (9, kI i), (44, .own (Rp.int .u64) 32 18 [] out), (46, .own (Rp.int .u64) 32 19 [] ([rv2.1] : (List Int)))], []⟩ rfl (lo_bsl [kU rv2.1] 19 [] ([rv2.1] : (List Int)) rfl zet24 rfl rfl rfl rfl) rfl (by kernel_rfl) (ro_oz 0 [.own (Rp.int .u64) 32 18 [] out, .own (Rp.int .u64) 32 19 [] ([rv2.1] : (List Int))] rfl (lo_app 18 [] rfl zet24.el rfl (isOwn_own _ _ _ _ _) (isSl_own _ _ _ _ _) h_v2 (.inl (plain_int _)) rfl) rfl (by kernel_rfl))) ?_
   refine ji_end ?_
   refine ji_rz ⟨[(0, kI k), (1, .sl Rp.byte [0] b), (6, .own (Rp.int .i64) 3 15 [] rv.1), (7, kI rv.2), (8, .own (Rp.int .u64) 32 18 [] v2), (9, kI (IntKind.i64.wrap (i + 1)))], []⟩ (by kernel_rfl) ?_
   obtain rfl := sj h
   exact je_nil (le_z (by kernel_rfl))
  refine ji_condF rfl hc1 ?_
  obtain rfl := sj h
  exact je_out' rfl (le_z (by kernel_rfl))
 ·
  refine le_at 8 (.own (Rp.int .u64) 32 18 [] []) rfl (le_own_nil (Rp.int .u64) 32 18 [] rfl) ?_
  exact le_z (by kernel_rfl)
 refine k_exit _ rfl ?_
 refine ji_rz ⟨[(4, .own (Rp.int .u64) 32 18 [] q), (5, kI rv.2)], []⟩ (by kernel_rfl) ?_
 obtain rfl := sj h
 refine je_ret ?_
 refine le_px ⟨[(4, .own (Rp.int .u64) 32 18 [] q), (5, kI rv.2)], []⟩ (by kernel_rfl) (le_rn 18 2 rfl (le_px ⟨[(4, .own (Rp.int .u64) 32 2 [] q), (5, kI rv.2)], []⟩ (by kernel_rfl) ?_))
 exact le_z (by kernel_rfl)
theorem darningref09_Pack_ok {fuel : Nat} {k : Int} {l : (List Int)} {r : (List UInt8)} (h : darningref09_Pack fuel k l = some r) : FnOk Try.prog 15 [kI k, .sl (Rp.int .u64) [0] l] [.own Rp.byte 5 2 [] r] := by
 refine fn_intro' (E := ⟨[(4, .own Rp.byte 5 2 [] r)], []⟩) 22 Try.func15 rfl rfl rfl ⟨rfl, trivial⟩ (fun Xt => ?_)
 refine ji_start ?_
 refine ji_le (E' := ⟨[(0, kI k), (1, .sl (Rp.int .u64) [0] l)], []⟩) (fun _ _ _ hs => hs) ?_
 unfold darningref09_Pack at h
 refine ji_rz ⟨[(0, kI k), (1, .sl (Rp.int .u64) [0] l)], []⟩ (by kernel_rfl) ?_
 refine ji_rz ⟨[(0, kI k), (1, .sl (Rp.int .u64) [0] l), (5, kN)], []⟩ (by kernel_rfl) ?_
 refine ji_rz ⟨[(0, kI k), (1, .sl (Rp.int .u64) [0] l), (5, kN), (6, kI 0)], []⟩ (by kernel_rfl) ?_
 refine ji_block ?_
 obtain ⟨q, h_q, h⟩ := bnd h
 refine je_loop (fun s : ((List UInt8) × Int) => darningref09_Pack_b1 fuel k l s.1 s.2) (fun s => ⟨[(0, kI k), (1, .sl (Rp.int .u64) [0] l), (5, .own Rp.byte 5 16 [] s.1), (6, kI s.2)], []⟩) (fun o e a w => e = .exit 0 ∧ Sx ⟨⟨22, []⟩, Xt, false, #[]⟩ ⟨[(5, .own Rp.byte 5 16 [] o)], []⟩ a w) ?_ h_q ?_ ?_
 ·
  clear h
  intro s o h
  obtain ⟨out, i⟩ := s
  refine ji_start ?_
  refine ji_le (E' := ⟨[(0, kI k), (1, .sl (Rp.int .u64) [0] l), (5, .own Rp.byte 5 16 [] out), (6, kI i)], []⟩) (fun _ _ _ hs => hs) ?_
  replace h : darningref09_Pack_b1 fuel k l out i = some o := h
  unfold darningref09_Pack_b1 at h
  refine ji_rz ⟨[(0, kI k), (1, .sl (Rp.int .u64) [0] l), (5, .own Rp.byte 5 16 [] out), (6, kI i), (10, kB (decide (i < (l.length : Int))))], []⟩ (by kernel_rfl) ?_
  rcases ite_some h with ⟨hc1, h⟩ | ⟨hc1, h⟩
  ·
   refine ji_condT rfl hc1 ?_
   refine ji_block ?_
   obtain ⟨x, h_x, h⟩ := bnd h
   obtain ⟨rv, h_rv, h⟩ := bnd h
   obtain ⟨v, h_v, h⟩ := bnd h
   refine ji_region ⟨[(0, kI k), (1, .sl (Rp.int .u64) [0] l), (5, .own Rp.byte 5 16 [] v), (6, kI i)], []⟩ (ro_o 4 [.sl (Rp.int .u64) [0] l, kI i] ⟨[(0, kI k), (1, .sl (Rp.int .u64) [0] l), (6, kI i), (13, .own Rp.byte 5 16 [] out), (14, kI k), (17, .ep (Rp.int .u64) [0] x 0)], []⟩ rfl (lo_ix rfl zet24.el (isSl_sl _ _ _) h_x) rfl (by kernel_rfl) (ro_o 1 [kI k, kU x] ⟨[(0, kI k), (1, .sl (Rp.int .u64) [0] l), (6, kI i), (13, .own Rp.byte 5 16 [] out), (19, .own Rp.byte 5 17 [] rv)], []⟩ rfl (lo_call [kI k, kU x] [1] 15 rfl Try.call27 (darningref08_Put_ok h_rv) rfl rfl rfl rfl rfl) rfl (by kernel_rfl) (ro_oz 0 [.own Rp.byte 5 16 [] out, .own Rp.byte 5 17 [] rv] rfl (lo_app 16 [] rfl zet22.el rfl (isOwn_own _ _ _ _ _) (isSl_own _ _ _ _ _) h_v (.inl plain_byte) rfl) rfl (by kernel_rfl)))) ?_
   refine ji_end ?_
   refine ji_rz ⟨[(0, kI k), (1, .sl (Rp.int .u64) [0] l), (5, .own Rp.byte 5 16 [] v), (6, kI (IntKind.i64.wrap (i + 1)))], []⟩ (by kernel_rfl) ?_
   obtain rfl := sj h
   exact je_nil (le_z (by kernel_rfl))
  refine ji_condF rfl hc1 ?_
  obtain rfl := sj h
  exact je_out' rfl (le_z (by kernel_rfl))
 ·
  refine le_at 5 (.own Rp.byte 5 16 [] []) rfl (le_own_nil Rp.byte 5 16 [] rfl) ?_
  exact le_z (by kernel_rfl)
 refine k_exit _ rfl ?_
 refine ji_rz ⟨[(4, .own Rp.byte 5 16 [] q)], []⟩ (by kernel_rfl) ?_
 obtain rfl := sj h
 refine je_ret ?_
 refine le_px ⟨[(4, .own Rp.byte 5 16 [] q)], []⟩ (by kernel_rfl) (le_rn 16 2 rfl (le_px ⟨[(4, .own Rp.byte 5 2 [] q)], []⟩ (by kernel_rfl) ?_))
 exact le_z (by kernel_rfl)
theorem scalar_Put_ok {k : Int} {wv : Int} {r : ((List UInt8) × Int)} (h : scalar_Put k wv = some r) : FnOk Try.prog 28 [kI k, kU wv] [.own Rp.byte 5 2 [] r.1, k8 r.2] := by
 refine fn_intro' (E := ⟨[(4, .own Rp.byte 5 2 [] r.1), (5, k8 r.2)], []⟩) 32 Try.func28 rfl rfl rfl ⟨rfl, rfl, trivial⟩ (fun Xt => ?_)
 refine ji_start ?_
 refine ji_le (E' := ⟨[(0, kI k), (1, kU wv)], []⟩) (fun _ _ _ hs => hs) ?_
 unfold scalar_Put at h
 refine ji_rz ⟨[(0, kI k), (1, kU wv)], []⟩ (by kernel_rfl) ?_
 obtain ⟨rv, h_rv, h⟩ := bnd h
 refine ji_region ⟨[(0, kI k), (1, kU wv), (6, kI rv.1), (7, k8 rv.2)], []⟩ (ro_oz 1 [kI k] rfl (lo_call [kI k] [1] 10 rfl Try.call42 (scalar_width_ok h_rv) rfl rfl rfl rfl rfl) rfl (by kernel_rfl)) ?_
 refine ji_rz ⟨[(0, kI k), (1, kU wv), (6, kI rv.1), (7, k8 rv.2), (15, kB (rv.2 != 0))], []⟩ (by kernel_rfl) ?_
 rcases ite_some h with ⟨hc1, h⟩ | ⟨hc1, h⟩
 ·
  refine ji_condT rfl hc1 ?_
  refine ji_rz ⟨[(4, kN), (5, k8 rv.2)], []⟩ (by kernel_rfl) ?_
  obtain rfl := sj h
  refine je_ret ?_
  refine le_at 4 (.own Rp.byte 5 2 [] (([], rv.2) : ((List UInt8) × Int)).1) rfl (le_own_nil Rp.byte 5 2 [] rfl) ?_
  exact le_z (by kernel_rfl)
 refine ji_condF rfl hc1 ?_
 obtain ⟨rv2, h_rv2, h⟩ := bnd h
 refine ji_region ⟨[(6, kI rv.1), (7, k8 rv2.2), (8, kU rv2.1)], []⟩ (ro_oz 2 [kI k, kU wv] rfl (lo_call [kI k, kU wv] [1] 10 rfl Try.call33 (kind_Canon_ok h_rv2) rfl rfl rfl rfl rfl) rfl (by kernel_rfl)) ?_
 refine ji_rz ⟨[(6, kI rv.1), (7, k8 rv2.2), (8, kU rv2.1), (24, kB (rv.1 == 0))], []⟩ (by kernel_rfl) ?_
 rcases ite_some h with ⟨hc2, h⟩ | ⟨hc2, h⟩
 ·
  refine ji_condT rfl hc2 ?_
  obtain ⟨rv3, h_rv3, h⟩ := bnd h
  refine ji_region ⟨[(4, .own Rp.byte 5 12 [] rv3), (5, k8 rv2.2)], []⟩ (ro_oz 1 [kN, kU rv2.1] rfl (lo_call [kN, kU rv2.1] [1] 10 rfl Try.call43 (FnOk.le (ins' := [kN, kU rv2.1]) (varint_Put_ok h_rv3) ⟨le_sl_nil _ _, AV.le_refl _, trivial⟩) rfl rfl rfl rfl rfl) rfl (by kernel_rfl)) ?_
  obtain rfl := sj h
  refine je_ret ?_
  refine le_px ⟨[(4, .own Rp.byte 5 12 [] rv3), (5, k8 rv2.2)], []⟩ (by kernel_rfl) (le_rn 12 2 rfl (le_px ⟨[(4, .own Rp.byte 5 2 [] rv3), (5, k8 rv2.2)], []⟩ (by kernel_rfl) ?_))
  exact le_z (by kernel_rfl)
 refine ji_condF rfl hc2 ?_
 obtain ⟨rv4, h_rv4, h⟩ := bnd h
 refine ji_region ⟨[(4, .own Rp.byte 5 13 [] rv4), (5, k8 rv2.2)], []⟩ (ro_oz 2 [kU rv2.1, kI rv.1] rfl (lo_call [kU rv2.1, kI rv.1] [1] 11 rfl Try.call44 (bits_Little_ok h_rv4) rfl rfl rfl rfl rfl) rfl (by kernel_rfl)) ?_
 obtain rfl := sj h
 refine je_ret ?_
 refine le_px ⟨[(4, .own Rp.byte 5 13 [] rv4), (5, k8 rv2.2)], []⟩ (by kernel_rfl) (le_rn 13 2 rfl (le_px ⟨[(4, .own Rp.byte 5 2 [] rv4), (5, k8 rv2.2)], []⟩ (by kernel_rfl) ?_))
 exact le_z (by kernel_rfl)
end Go.Proofs.Ythkdneddbbocmaa
