/-
  The Go functions do what the plain functions say. No condition.
-/
import Derived.Test.YtfcmlcegeiphdaaG1
namespace Go.Proofs.Ytfcmlcegeiphdaa
open Go Go.RowKit
set_option linter.unusedVariables false
set_option maxRecDepth 100000
theorem utf_walk_ok {b : (List UInt8)} {r : (Int × Int)} (h : utf_walk b = some r) : FnOk Try.prog 15 [.sl Rp.byte [0] b] [kI r.1, kI r.2] := by
 refine fn_intro' (E := ⟨[(2, kI r.1), (3, kI r.2)], []⟩) 20 Try.func15 rfl rfl rfl ⟨rfl, rfl, trivial⟩ (fun w0 F => ?_)
 refine ji_start ?_
 refine ji_le (E' := ⟨[(0, .sl Rp.byte [0] b)], []⟩) (fun _ _ _ hs => hs) ?_
 unfold utf_walk at h
 refine ji_rz ⟨[(0, .sl Rp.byte [0] b), (2, kI 0), (3, kI 0)], []⟩ (by kernel_rfl) ?_
 obtain ⟨rv, h_rv, h⟩ := bnd h
 refine ji_region ⟨[(0, .sl Rp.byte [0] b), (2, kI 0), (3, kI 0), (4, kI rv)], []⟩ (ro_oz 1 [.sl Rp.byte [0] b] rfl (lo_call [.sl Rp.byte [0] b] [0] 9 rfl Try.call16 (utf_lead_ok h_rv) rfl rfl rfl rfl rfl) rfl (by kernel_rfl)) ?_
 refine ji_block ?_
 obtain ⟨q, h_q, h⟩ := bnd h
 refine je_loop (fun s : (Int × Int × Int) => utf_walk_b1 b s.1 s.2.1 s.2.2) (fun s => ⟨[(0, .sl Rp.byte [0] b), (2, kI s.1), (3, kI s.2.1), (4, kI s.2.2)], []⟩) (fun o e a w => e = .exit 0 ∧ Sx ⟨20, w0, F⟩ ⟨[(2, kI o.1), (3, kI o.2)], []⟩ a w) ?_ h_q (le_z (by kernel_rfl)) ?_
 ·
  clear h
  intro s o h
  obtain ⟨atv, points, size⟩ := s
  refine ji_start ?_
  refine ji_le (E' := ⟨[(0, .sl Rp.byte [0] b), (2, kI atv), (3, kI points), (4, kI size)], []⟩) (fun _ _ _ hs => hs) ?_
  replace h : utf_walk_b1 b atv points size = some o := h
  unfold utf_walk_b1 at h
  refine ji_rz ⟨[(0, .sl Rp.byte [0] b), (2, kI atv), (3, kI points), (4, kI size), (8, kB (decide (size > 0)))], []⟩ (by kernel_rfl) ?_
  rcases ite_some h with ⟨hc1, h⟩ | ⟨hc1, h⟩
  ·
   refine ji_condT rfl hc1 ?_
   refine ji_block ?_
   refine ji_rz ⟨[(0, .sl Rp.byte [0] b), (2, kI (IntKind.i64.wrap (atv + size))), (3, kI points)], []⟩ (by kernel_rfl) ?_
   refine ji_rz ⟨[(0, .sl Rp.byte [0] b), (2, kI (IntKind.i64.wrap (atv + size))), (3, kI (IntKind.i64.wrap (points + 1)))], []⟩ (by kernel_rfl) ?_
   refine ji_end ?_
   obtain ⟨v, h_v, h⟩ := bnd h
   obtain ⟨rv2, h_rv2, h⟩ := bnd h
   refine ji_region ⟨[(0, .sl Rp.byte [0] b), (2, kI (IntKind.i64.wrap (atv + size))), (3, kI (IntKind.i64.wrap (points + 1))), (4, kI rv2)], []⟩ (ro_o 2 [.sl Rp.byte [0] b, kI (IntKind.i64.wrap (atv + size))] ⟨[(0, .sl Rp.byte [0] b), (2, kI (IntKind.i64.wrap (atv + size))), (3, kI (IntKind.i64.wrap (points + 1))), (11, .sl Rp.byte [0] v)], []⟩ rfl (lo_cut (some (kI (IntKind.i64.wrap (atv + size)))) none rfl zet22.el (isSl_sl _ _ _) ⟨rfl, rfl⟩ ⟨rfl, rfl⟩ h_v) rfl (by kernel_rfl) (ro_oz 0 [.sl Rp.byte [0] v] rfl (lo_call [.sl Rp.byte [0] v] [0] 10 rfl Try.call16 (utf_lead_ok h_rv2) rfl rfl rfl rfl rfl) rfl (by kernel_rfl))) ?_
   obtain rfl := sj h
   exact je_nil (le_z (by kernel_rfl))
  refine ji_condF rfl hc1 ?_
  obtain rfl := sj h
  exact je_out' rfl (le_z (by kernel_rfl))
 refine k_exit _ rfl ?_
 refine ji_rz ⟨[(2, kI q.1), (3, kI q.2)], []⟩ (by kernel_rfl) ?_
 obtain rfl := sj h
 exact je_ret (le_z (by kernel_rfl))
theorem darningref04_First_ok {b : (List UInt8)} {most : Int} {r : (Int × Int)} (h : darningref04_First b most = some r) : FnOk Try.prog 7 [.sl Rp.byte [0] b, kI most] [kI r.1, kI r.2] := by
 refine fn_intro' (E := ⟨[(4, kI r.1), (5, kI r.2)], []⟩) 28 Try.func7 rfl rfl rfl ⟨rfl, rfl, trivial⟩ (fun w0 F => ?_)
 refine ji_start ?_
 refine ji_le (E' := ⟨[(0, .sl Rp.byte [0] b), (1, kI most)], []⟩) (fun _ _ _ hs => hs) ?_
 unfold darningref04_First at h
 refine ji_rz ⟨[(0, .sl Rp.byte [0] b), (1, kI most)], []⟩ (by kernel_rfl) ?_
 refine ji_rz ⟨[(0, .sl Rp.byte [0] b), (1, kI most), (6, kI 0), (7, kI 0)], []⟩ (by kernel_rfl) ?_
 refine ji_block ?_
 obtain ⟨q, h_q, h⟩ := bnd h
 refine je_loop (fun s : (Int × Int) => darningref04_First_b1 b most s.1 s.2) (fun s => ⟨[(0, .sl Rp.byte [0] b), (1, kI most), (6, kI s.1), (7, kI s.2)], []⟩) (fun o e a w => e = .ret ∧ Sx ⟨28, w0, F⟩ ⟨[(4, kI o.1), (5, kI o.2)], []⟩ a w) ?_ h_q (le_z (by kernel_rfl)) ?_
 ·
  clear h
  intro s o h
  obtain ⟨atv, count⟩ := s
  refine ji_start ?_
  refine ji_le (E' := ⟨[(0, .sl Rp.byte [0] b), (1, kI most), (6, kI atv), (7, kI count)], []⟩) (fun _ _ _ hs => hs) ?_
  replace h : darningref04_First_b1 b most atv count = some o := h
  unfold darningref04_First_b1 at h
  refine ji_block ?_
  obtain ⟨rv, h_rv, h⟩ := bnd h
  refine ji_region ⟨[(0, .sl Rp.byte [0] b), (1, kI most), (6, kI atv), (7, kI count), (8, kI rv)], []⟩ (ro_oz 2 [.sl Rp.byte [0] b, kI atv] rfl (lo_call [.sl Rp.byte [0] b, kI atv] [0] 10 rfl Try.call14 (darningref04_Next_ok h_rv) rfl rfl rfl rfl rfl) rfl (by kernel_rfl)) ?_
  refine ji_region ⟨[(0, .sl Rp.byte [0] b), (1, kI most), (6, kI atv), (7, kI count), (8, kI rv), (20, kB ((rv == 0) || (decide ((IntKind.i64.wrap (atv + rv)) > most))))], []⟩ ?_ ?_
  ·
   refine (ro_sp 3 14 (rv == 0) ⟨[(0, .sl Rp.byte [0] b), (1, kI most), (6, kI atv), (7, kI count), (8, kI rv), (14, kB (rv == 0))], []⟩ (by kernel_rfl) rfl (fun hc1 => ?_) (fun hc1 => ?_))
   · exact (ro_zb 20 true ((rv == 0) || (decide ((IntKind.i64.wrap (atv + rv)) > most))) (by rw [hc1] <;> rfl) (by kernel_rfl) (by kernel_rfl))
   exact (ro_zb 20 (decide ((IntKind.i64.wrap (atv + rv)) > most)) ((rv == 0) || (decide ((IntKind.i64.wrap (atv + rv)) > most))) (by rw [hc1] <;> rfl) (by kernel_rfl) (by kernel_rfl))
  rcases ite_some h with ⟨hc2, h⟩ | ⟨hc2, h⟩
  ·
   refine ji_condT rfl hc2 ?_
   refine ji_rz ⟨[(4, kI atv), (5, kI count)], []⟩ (by kernel_rfl) ?_
   obtain rfl := sj h
   exact je_ret' (le_z (by kernel_rfl))
  refine ji_condF rfl hc2 ?_
  refine ji_rz ⟨[(0, .sl Rp.byte [0] b), (1, kI most), (6, kI (IntKind.i64.wrap (atv + rv))), (7, kI count)], []⟩ (by kernel_rfl) ?_
  refine ji_rz ⟨[(0, .sl Rp.byte [0] b), (1, kI most), (6, kI (IntKind.i64.wrap (atv + rv))), (7, kI (IntKind.i64.wrap (count + 1)))], []⟩ (by kernel_rfl) ?_
  refine ji_end ?_
  obtain rfl := sj h
  exact je_nil (le_z (by kernel_rfl))
 obtain rfl := sj h
 exact ke_ret (le_z (by kernel_rfl))
theorem utf_First_ok {b : (List UInt8)} {r : Int} (h : utf_First b = some r) : FnOk Try.prog 8 [.sl Rp.byte [0] b] [kI r] := by
 refine fn_intro' (E := ⟨[(2, kI r)], []⟩) 11 Try.func8 rfl rfl rfl ⟨rfl, trivial⟩ (fun w0 F => ?_)
 refine ji_start ?_
 refine ji_le (E' := ⟨[(0, .sl Rp.byte [0] b)], []⟩) (fun _ _ _ hs => hs) ?_
 unfold utf_First at h
 refine ji_rz ⟨[(0, .sl Rp.byte [0] b)], []⟩ (by kernel_rfl) ?_
 obtain ⟨rv, h_rv, h⟩ := bnd h
 refine ji_region ⟨[(3, kI rv.1)], []⟩ (ro_oz 1 [.sl Rp.byte [0] b] rfl (lo_call [.sl Rp.byte [0] b] [0] 9 rfl Try.call15 (utf_walk_ok h_rv) rfl rfl rfl rfl rfl) rfl (by kernel_rfl)) ?_
 refine ji_rz ⟨[(2, kI rv.1)], []⟩ (by kernel_rfl) ?_
 obtain rfl := sj h
 exact je_ret (le_z (by kernel_rfl))
theorem utf_Count_ok {b : (List UInt8)} {r : Int} (h : utf_Count b = some r) : FnOk Try.prog 9 [.sl Rp.byte [0] b] [kI r] := by
 refine fn_intro' (E := ⟨[(2, kI r)], []⟩) 11 Try.func9 rfl rfl rfl ⟨rfl, trivial⟩ (fun w0 F => ?_)
 refine ji_start ?_
 refine ji_le (E' := ⟨[(0, .sl Rp.byte [0] b)], []⟩) (fun _ _ _ hs => hs) ?_
 unfold utf_Count at h
 refine ji_rz ⟨[(0, .sl Rp.byte [0] b)], []⟩ (by kernel_rfl) ?_
 obtain ⟨rv, h_rv, h⟩ := bnd h
 refine ji_region ⟨[(4, kI rv.2)], []⟩ (ro_oz 1 [.sl Rp.byte [0] b] rfl (lo_call [.sl Rp.byte [0] b] [0] 9 rfl Try.call15 (utf_walk_ok h_rv) rfl rfl rfl rfl rfl) rfl (by kernel_rfl)) ?_
 refine ji_rz ⟨[(2, kI rv.2)], []⟩ (by kernel_rfl) ?_
 obtain rfl := sj h
 exact je_ret (le_z (by kernel_rfl))
theorem utf_Right_ok {b : (List UInt8)} {r : Bool} (h : utf_Right b = some r) : FnOk Try.prog 10 [.sl Rp.byte [0] b] [kB r] := by
 refine fn_intro' (E := ⟨[(2, kB r)], []⟩) 8 Try.func10 rfl rfl rfl ⟨rfl, trivial⟩ (fun w0 F => ?_)
 refine ji_start ?_
 refine ji_le (E' := ⟨[(0, .sl Rp.byte [0] b)], []⟩) (fun _ _ _ hs => hs) ?_
 unfold utf_Right at h
 refine ji_rz ⟨[(0, .sl Rp.byte [0] b)], []⟩ (by kernel_rfl) ?_
 obtain ⟨rv, h_rv, h⟩ := bnd h
 refine ji_region ⟨[(2, kB (rv == (b.length : Int)))], []⟩ (ro_oz 1 [.sl Rp.byte [0] b] rfl (lo_call [.sl Rp.byte [0] b] [0] 9 rfl Try.call8 (utf_First_ok h_rv) rfl rfl rfl rfl rfl) rfl (by kernel_rfl)) ?_
 obtain rfl := sj h
 exact je_ret (le_z (by kernel_rfl))
theorem utf_Cut_ok {b : (List UInt8)} {n : Int} {r : (List UInt8)} (h : utf_Cut b n = some r) : FnOk Try.prog 12 [.sl Rp.byte [0] b, kI n] [.own Rp.byte 5 2 [] r] := by
 refine fn_intro' (E := ⟨[(4, .own Rp.byte 5 2 [] r)], []⟩) 18 Try.func12 rfl rfl rfl ⟨rfl, trivial⟩ (fun w0 F => ?_)
 refine ji_start ?_
 refine ji_le (E' := ⟨[(0, .sl Rp.byte [0] b), (1, kI n)], []⟩) (fun _ _ _ hs => hs) ?_
 unfold utf_Cut at h
 refine ji_rz ⟨[(0, .sl Rp.byte [0] b), (1, kI n)], []⟩ (by kernel_rfl) ?_
 obtain ⟨v, h_v, h⟩ := bnd h
 obtain ⟨rv, h_rv, h⟩ := bnd h
 refine ji_region ⟨[(0, .sl Rp.byte [0] b), (5, kI rv)], []⟩ (ro_o 6 [.sl Rp.byte [0] b, kI (if (b.length : Int) < (if n < 0 then 0 else n) then (b.length : Int) else (if n < 0 then 0 else n))] ⟨[(0, .sl Rp.byte [0] b), (12, .sl Rp.byte [0] v)], []⟩ rfl (lo_cut none (some (kI (if (b.length : Int) < (if n < 0 then 0 else n) then (b.length : Int) else (if n < 0 then 0 else n)))) rfl zet22.el (isSl_sl _ _ _) ⟨rfl, rfl⟩ ⟨rfl, rfl⟩ h_v) rfl (by kernel_rfl) (ro_oz 0 [.sl Rp.byte [0] v] rfl (lo_call [.sl Rp.byte [0] v] [0] 10 rfl Try.call8 (utf_First_ok h_rv) rfl rfl rfl rfl rfl) rfl (by kernel_rfl))) ?_
 obtain ⟨v2, h_v2, h⟩ := bnd h
 obtain ⟨v3, h_v3, h⟩ := bnd h
 refine ji_region ⟨[(4, .own Rp.byte 5 12 [] v3)], []⟩ (ro_o 2 [.sl Rp.byte [0] b, kI rv] ⟨[(16, .sl Rp.byte [0] v2)], []⟩ rfl (lo_cut none (some (kI rv)) rfl zet22.el (isSl_sl _ _ _) ⟨rfl, rfl⟩ ⟨rfl, rfl⟩ h_v2) rfl (by kernel_rfl) (ro_oz 0 [kN, .sl Rp.byte [0] v2] rfl (lo_app 12 [] rfl zet22.el rfl (isOwn_nil Rp.byte 5 12 [] rfl) (isSl_sl _ _ _) h_v3 (.inl plain_byte) rfl) rfl (by kernel_rfl))) ?_
 obtain rfl := sj h
 refine je_ret ?_
 refine le_px ⟨[(4, .own Rp.byte 5 12 [] v3)], []⟩ (by kernel_rfl) (le_rn 12 2 rfl (le_px ⟨[(4, .own Rp.byte 5 2 [] v3)], []⟩ (by kernel_rfl) ?_))
 exact le_z (by kernel_rfl)
theorem darninglaw04_alive_ok  {r : Bool} (h : darninglaw04_alive = some r) : FnOk Try.prog 6 [] [kB r] := by
 refine fn_intro' (E := ⟨[(0, kB r)], []⟩) 14 Try.func6 rfl rfl rfl ⟨rfl, trivial⟩ (fun w0 F => ?_)
 refine ji_start ?_
 refine ji_le (E' := ⟨[], []⟩) (fun _ _ _ hs => hs) ?_
 unfold darninglaw04_alive at h
 refine ji_rz ⟨[], []⟩ (by kernel_rfl) ?_
 obtain ⟨g, h_g, h⟩ := bnd h
 refine ji_region ⟨[(0, kB g)], []⟩ ?_ ?_
 ·
  obtain ⟨rv, h_rv, h_g⟩ := bnd h_g
  refine (ro_o 0 [k8 97, k8 195] ⟨[(1, .own Rp.byte 5 11 [] ([(97 : UInt8), (195 : UInt8)] : List UInt8))], []⟩ rfl (lo_bsl [.lf (.int .u8 97), .lf (.int .u8 195)] 11 [] [(97 : UInt8), (195 : UInt8)] rfl zet22 rfl rfl rfl rfl) rfl (by kernel_rfl) (ro_o 0 [.own Rp.byte 5 11 [] ([(97 : UInt8), (195 : UInt8)] : List UInt8)] ⟨[(2, kI rv)], []⟩ rfl (lo_call [.own Rp.byte 5 11 [] ([(97 : UInt8), (195 : UInt8)] : List UInt8)] [11] 10 rfl Try.call8 (utf_First_ok h_rv) rfl rfl rfl rfl rfl) rfl (by kernel_rfl) (ro_sp 2 4 (rv == 1) ⟨[(4, kB (rv == 1))], []⟩ (by kernel_rfl) rfl (fun hc1 => ?_) (fun hc1 => ?_))))
  ·
   replace h_g := iteT h_g hc1
   obtain ⟨rv2, h_rv2, h_g⟩ := bnd h_g
   refine (ro_o 0 [k8 97, k8 195, k8 169] ⟨[(4, kB true), (5, .own Rp.byte 5 12 [] ([(97 : UInt8), (195 : UInt8), (169 : UInt8)] : List UInt8))], []⟩ rfl (lo_bsl [.lf (.int .u8 97), .lf (.int .u8 195), .lf (.int .u8 169)] 12 [] [(97 : UInt8), (195 : UInt8), (169 : UInt8)] rfl zet22 rfl rfl rfl rfl) rfl (by kernel_rfl) (ro_o 0 [.own Rp.byte 5 12 [] ([(97 : UInt8), (195 : UInt8), (169 : UInt8)] : List UInt8)] ⟨[(4, kB true), (6, kI rv2)], []⟩ rfl (lo_call [.own Rp.byte 5 12 [] ([(97 : UInt8), (195 : UInt8), (169 : UInt8)] : List UInt8)] [12] 11 rfl Try.call8 (utf_First_ok h_rv2) rfl rfl rfl rfl rfl) rfl (by kernel_rfl) (ro_sp 3 9 (rv2 == 3) ⟨[(9, kB (rv2 == 3))], []⟩ (by kernel_rfl) rfl (fun hc2 => ?_) (fun hc2 => ?_))))
   ·
    replace h_g := iteT h_g hc2
    obtain ⟨rv3, h_rv3, h_g⟩ := bnd h_g
    obtain rfl := sj h_g
    exact (ro_o 0 [k8 97] ⟨[(9, kB true), (10, .own Rp.byte 5 13 [] ([(97 : UInt8)] : List UInt8))], []⟩ rfl (lo_bsl [.lf (.int .u8 97)] 13 [] [(97 : UInt8)] rfl zet22 rfl rfl rfl rfl) rfl (by kernel_rfl) (ro_o 0 [.own Rp.byte 5 13 [] ([(97 : UInt8)] : List UInt8)] ⟨[(9, kB true), (11, .sl Rp.byte [13] ([(97 : UInt8)] : List UInt8))], []⟩ rfl (lo_mark rfl Try.underlying22 Try.underlying5 rfl) rfl (by kernel_rfl) (ro_oz 0 [.sl Rp.byte [13] ([(97 : UInt8)] : List UInt8)] rfl (lo_call [.sl Rp.byte [13] ([(97 : UInt8)] : List UInt8)] [13] 12 rfl Try.call10 (utf_Right_ok h_rv3) rfl rfl rfl rfl rfl) rfl (by kernel_rfl))))
   replace h_g := iteF h_g hc2
   obtain rfl := sj h_g
   exact (ro_z (by kernel_rfl))
  replace h_g := iteF h_g hc1
  obtain rfl := sj h_g
  exact (ro_z (by kernel_rfl))
 obtain rfl := sj h
 exact je_ret (le_z (by kernel_rfl))
theorem darninglaw04_UtfFirst_ok {b : (List UInt8)} {r : Bool} (h : darninglaw04_UtfFirst b = some r) : FnOk Try.prog 3 [.sl Rp.byte [0] b] [kB r] := by
 refine fn_intro' (E := ⟨[(2, kB r)], []⟩) 36 Try.func3 rfl rfl rfl ⟨rfl, trivial⟩ (fun w0 F => ?_)
 refine ji_start ?_
 refine ji_le (E' := ⟨[(0, .sl Rp.byte [0] b)], []⟩) (fun _ _ _ hs => hs) ?_
 unfold darninglaw04_UtfFirst at h
 refine ji_rz ⟨[(0, .sl Rp.byte [0] b)], []⟩ (by kernel_rfl) ?_
 obtain ⟨rv, h_rv, h⟩ := bnd h
 refine ji_region ⟨[(0, .sl Rp.byte [0] b), (6, kB (!rv))], []⟩ (ro_oz 0 [] rfl (lo_call [] [1] 9 rfl Try.call6 (darninglaw04_alive_ok h_rv) rfl rfl rfl rfl rfl) rfl (by kernel_rfl)) ?_
 rcases ite_some h with ⟨hc1, h⟩ | ⟨hc1, h⟩
 ·
  refine ji_condT rfl hc1 ?_
  refine ji_rz ⟨[(2, kB false)], []⟩ (by kernel_rfl) ?_
  obtain rfl := sj h
  exact je_ret (le_z (by kernel_rfl))
 refine ji_condF rfl hc1 ?_
 refine ji_rz ⟨[(0, .sl Rp.byte [0] b), (9, kB (decide ((b.length : Int) > 2000)))], []⟩ (by kernel_rfl) ?_
 rcases ite_some h with ⟨hc2, h⟩ | ⟨hc2, h⟩
 ·
  refine ji_condT rfl hc2 ?_
  refine ji_rz ⟨[(2, kB true)], []⟩ (by kernel_rfl) ?_
  obtain rfl := sj h
  exact je_ret (le_z (by kernel_rfl))
 refine ji_condF rfl hc2 ?_
 obtain ⟨rv2, h_rv2, h⟩ := bnd h
 refine ji_region ⟨[(0, .sl Rp.byte [0] b), (3, kI rv2.1), (4, kI rv2.2)], []⟩ (ro_oz 3 [.sl Rp.byte [0] b, kI (b.length : Int)] rfl (lo_call [.sl Rp.byte [0] b, kI (b.length : Int)] [0] 9 rfl Try.call7 (darningref04_First_ok h_rv2) rfl rfl rfl rfl rfl) rfl (by kernel_rfl)) ?_
 obtain ⟨g, h_g, h⟩ := bnd h
 refine ji_region ⟨[(2, kB g)], []⟩ ?_ ?_
 ·
  obtain ⟨rv3, h_rv3, h_g⟩ := bnd h_g
  refine (ro_o 1 [.sl Rp.byte [0] b] ⟨[(0, .sl Rp.byte [0] b), (3, kI rv2.1), (4, kI rv2.2), (18, kI rv3)], []⟩ rfl (lo_call [.sl Rp.byte [0] b] [0] 9 rfl Try.call8 (utf_First_ok h_rv3) rfl rfl rfl rfl rfl) rfl (by kernel_rfl) (ro_sp 3 21 (rv3 == rv2.1) ⟨[(0, .sl Rp.byte [0] b), (3, kI rv2.1), (4, kI rv2.2), (21, kB (rv3 == rv2.1))], []⟩ (by kernel_rfl) rfl (fun hc3 => ?_) (fun hc3 => ?_)))
  ·
   replace h_g := iteT h_g hc3
   obtain ⟨rv4, h_rv4, h_g⟩ := bnd h_g
   refine (ro_o 1 [.sl Rp.byte [0] b] ⟨[(0, .sl Rp.byte [0] b), (3, kI rv2.1), (4, kI rv2.2), (21, kB true), (23, kI rv4)], []⟩ rfl (lo_call [.sl Rp.byte [0] b] [0] 9 rfl Try.call9 (utf_Count_ok h_rv4) rfl rfl rfl rfl rfl) rfl (by kernel_rfl) (ro_sp 4 27 (rv4 == rv2.2) ⟨[(0, .sl Rp.byte [0] b), (3, kI rv2.1), (27, kB (rv4 == rv2.2))], []⟩ (by kernel_rfl) rfl (fun hc4 => ?_) (fun hc4 => ?_)))
   ·
    replace h_g := iteT h_g hc4
    obtain ⟨rv5, h_rv5, h_g⟩ := bnd h_g
    obtain rfl := sj h_g
    exact (ro_oz 1 [.sl Rp.byte [0] b] rfl (lo_call [.sl Rp.byte [0] b] [0] 9 rfl Try.call10 (utf_Right_ok h_rv5) rfl rfl rfl rfl rfl) rfl (by kernel_rfl))
   replace h_g := iteF h_g hc4
   obtain rfl := sj h_g
   exact (ro_z (by kernel_rfl))
  replace h_g := iteF h_g hc3
  obtain rfl := sj h_g
  exact (ro_z (by kernel_rfl))
 obtain rfl := sj h
 exact je_ret (le_z (by kernel_rfl))
theorem darninglaw04_UtfCuts_ok {b : (List UInt8)} {n : Int} {r : Bool} (h : darninglaw04_UtfCuts b n = some r) : FnOk Try.prog 4 [.sl Rp.byte [0] b, kI n] [kB r] := by
 refine fn_intro' (E := ⟨[(4, kB r)], []⟩) 25 Try.func4 rfl rfl rfl ⟨rfl, trivial⟩ (fun w0 F => ?_)
 refine ji_start ?_
 refine ji_le (E' := ⟨[(0, .sl Rp.byte [0] b), (1, kI n)], []⟩) (fun _ _ _ hs => hs) ?_
 unfold darninglaw04_UtfCuts at h
 refine ji_rz ⟨[(0, .sl Rp.byte [0] b), (1, kI n)], []⟩ (by kernel_rfl) ?_
 obtain ⟨rv, h_rv, h⟩ := bnd h
 refine ji_region ⟨[(0, .sl Rp.byte [0] b), (1, kI n), (8, kB (!rv))], []⟩ (ro_oz 0 [] rfl (lo_call [] [1] 9 rfl Try.call6 (darninglaw04_alive_ok h_rv) rfl rfl rfl rfl rfl) rfl (by kernel_rfl)) ?_
 rcases ite_some h with ⟨hc1, h⟩ | ⟨hc1, h⟩
 ·
  refine ji_condT rfl hc1 ?_
  refine ji_rz ⟨[(4, kB false)], []⟩ (by kernel_rfl) ?_
  obtain rfl := sj h
  exact je_ret (le_z (by kernel_rfl))
 refine ji_condF rfl hc1 ?_
 refine ji_rz ⟨[(0, .sl Rp.byte [0] b), (1, kI n), (11, kB (decide ((b.length : Int) > 2000)))], []⟩ (by kernel_rfl) ?_
 rcases ite_some h with ⟨hc2, h⟩ | ⟨hc2, h⟩
 ·
  refine ji_condT rfl hc2 ?_
  refine ji_rz ⟨[(4, kB true)], []⟩ (by kernel_rfl) ?_
  obtain rfl := sj h
  exact je_ret (le_z (by kernel_rfl))
 refine ji_condF rfl hc2 ?_
 obtain ⟨rv2, h_rv2, h⟩ := bnd h
 refine ji_region ⟨[(0, .sl Rp.byte [0] b), (1, kI n), (5, kI rv2.1)], []⟩ (ro_oz 2 [.sl Rp.byte [0] b, kI n] rfl (lo_call [.sl Rp.byte [0] b, kI n] [0] 9 rfl Try.call7 (darningref04_First_ok h_rv2) rfl rfl rfl rfl rfl) rfl (by kernel_rfl)) ?_
 obtain ⟨rv3, h_rv3, h⟩ := bnd h
 obtain ⟨v, h_v, h⟩ := bnd h
 obtain ⟨rv4, h_rv4, h⟩ := bnd h
 refine ji_draw ⟨[(4, kB rv4)], []⟩ [.ev, .ev, .ex [] [] [11] (.own Rp.byte 5 11 [] rv3) [], .ev, .ev, .ex [] [] [] (.sl Rp.byte [0] v) [], .ex [] [] [] (kB rv4) []] [([(.func 12, .lf (.val (.func (.func 12) #[] #[]))), (.tmp 18, .sl Rp.byte [0] b), (.tmp 19, kI n)], []), ([(.tmp 21, .sl Rp.byte [0] b), (.tmp 22, kI rv2.1)], []), ([(.func 11, .lf (.val (.func (.func 11) #[] #[]))), (.tmp 20, .own Rp.byte 5 11 [] rv3), (.tmp 23, .sl Rp.byte [0] v)], [])] [4] [] mixed (by kernel_rfl) (by exact (lw_e (lw_e (lw_x (LocalOk.cons _ (lo_as (lo_call (args := [.tmp 18, .tmp 19]) [.sl Rp.byte [0] b, kI n] [0] 9 rfl Try.call12 (utf_Cut_ok h_rv3) rfl rfl rfl rfl rfl) rfl)) (lw_e (lw_e (lw_x (lo_as (lo_cut none (some (kI rv2.1)) rfl zet22.el (isSl_sl _ _ _) ⟨rfl, rfl⟩ ⟨rfl, rfl⟩ h_v) rfl) (lw_x (LocalOk.cons _ (lo_as (lo_call (args := [.tmp 20, .tmp 23]) [.own Rp.byte 5 11 [] rv3, .sl Rp.byte [0] v] [11, 0] 10 rfl Try.call11 (darningref01_Same_ok h_rv4) rfl rfl rfl rfl rfl) rfl)) lw_0)))))))) ?_
 obtain rfl := sj h
 exact je_ret (le_z (by kernel_rfl))
theorem darninglaw04_UtfTogether_ok {b : (List UInt8)} {c : (List UInt8)} {rv : Int} {n : Int} {r : Bool} (h : darninglaw04_UtfTogether b c rv n = some r) : FnOk Try.prog 5 [.sl Rp.byte [0] b, .sl Rp.byte [0] c, kI rv, kI n] [kB r] := by
 refine fn_intro' (E := ⟨[(8, kB r)], []⟩) 88 Try.func5 rfl rfl rfl ⟨rfl, trivial⟩ (fun w0 F => ?_)
 refine ji_start ?_
 refine ji_le (E' := ⟨[(0, .sl Rp.byte [0] b), (1, .sl Rp.byte [0] c), (2, kI rv), (3, kI n)], []⟩) (fun _ _ _ hs => hs) ?_
 unfold darninglaw04_UtfTogether at h
 refine ji_rz ⟨[(0, .sl Rp.byte [0] b), (1, .sl Rp.byte [0] c), (2, kI rv), (3, kI n)], []⟩ (by kernel_rfl) ?_
 obtain ⟨rv2, h_rv2, h⟩ := bnd h
 refine ji_region ⟨[(0, .sl Rp.byte [0] b), (1, .sl Rp.byte [0] c), (2, kI rv), (3, kI n), (13, kB (!rv2))], []⟩ (ro_oz 0 [] rfl (lo_call [] [1] 9 rfl Try.call6 (darninglaw04_alive_ok h_rv2) rfl rfl rfl rfl rfl) rfl (by kernel_rfl)) ?_
 rcases ite_some h with ⟨hc1, h⟩ | ⟨hc1, h⟩
 ·
  refine ji_condT rfl hc1 ?_
  refine ji_rz ⟨[(8, kB false)], []⟩ (by kernel_rfl) ?_
  obtain rfl := sj h
  exact je_ret (le_z (by kernel_rfl))
 refine ji_condF rfl hc1 ?_
 refine ji_rz ⟨[(0, .sl Rp.byte [0] b), (1, .sl Rp.byte [0] c), (2, kI rv), (3, kI n), (19, kB (decide ((IntKind.i64.wrap ((b.length : Int) + (c.length : Int))) > 2000)))], []⟩ (by kernel_rfl) ?_
 rcases ite_some h with ⟨hc2, h⟩ | ⟨hc2, h⟩
 ·
  refine ji_condT rfl hc2 ?_
  refine ji_rz ⟨[(8, kB true)], []⟩ (by kernel_rfl) ?_
  obtain rfl := sj h
  exact je_ret (le_z (by kernel_rfl))
 refine ji_condF rfl hc2 ?_
 obtain ⟨rv3, h_rv3, h⟩ := bnd h
 refine ji_region ⟨[(0, .sl Rp.byte [0] b), (1, .sl Rp.byte [0] c), (2, kI rv), (3, kI n), (9, .own Rp.byte 5 11 [] rv3)], []⟩ (ro_oz 2 [.sl Rp.byte [0] b, kI n] rfl (lo_call [.sl Rp.byte [0] b, kI n] [0] 9 rfl Try.call12 (utf_Cut_ok h_rv3) rfl rfl rfl rfl rfl) rfl (by kernel_rfl)) ?_
 obtain ⟨rv4, h_rv4, h⟩ := bnd h
 refine ji_region ⟨[(0, .sl Rp.byte [0] b), (1, .sl Rp.byte [0] c), (2, kI rv), (32, kB ((!rv4) || (decide ((rv3.length : Int) > (if n < 0 then 0 else n)))))], []⟩ ?_ ?_
 ·
  refine (ro_o 1 [.own Rp.byte 5 11 [] rv3] ⟨[(0, .sl Rp.byte [0] b), (1, .sl Rp.byte [0] c), (2, kI rv), (3, kI n), (9, .own Rp.byte 5 11 [] rv3), (24, kB rv4)], []⟩ rfl (lo_call [.own Rp.byte 5 11 [] rv3] [11] 10 rfl Try.call10 (utf_Right_ok h_rv4) rfl rfl rfl rfl rfl) rfl (by kernel_rfl) (ro_sp 2 26 (!rv4) ⟨[(0, .sl Rp.byte [0] b), (1, .sl Rp.byte [0] c), (2, kI rv), (3, kI n), (9, .own Rp.byte 5 11 [] rv3), (26, kB (!rv4))], []⟩ (by kernel_rfl) rfl (fun hc3 => ?_) (fun hc3 => ?_)))
  · exact (ro_zb 32 true ((!rv4) || (decide ((rv3.length : Int) > (if n < 0 then 0 else n)))) (by rw [hc3] <;> rfl) (by kernel_rfl) (by kernel_rfl))
  exact (ro_zb 32 (decide ((rv3.length : Int) > (if n < 0 then 0 else n))) ((!rv4) || (decide ((rv3.length : Int) > (if n < 0 then 0 else n)))) (by rw [hc3] <;> rfl) (by kernel_rfl) (by kernel_rfl))
 rcases ite_some h with ⟨hc4, h⟩ | ⟨hc4, h⟩
 ·
  refine ji_condT rfl hc4 ?_
  refine ji_rz ⟨[(8, kB false)], []⟩ (by kernel_rfl) ?_
  obtain rfl := sj h
  exact je_ret (le_z (by kernel_rfl))
 refine ji_condF rfl hc4 ?_
 obtain ⟨rv5, h_rv5, h⟩ := bnd h
 refine ji_region ⟨[(0, .sl Rp.byte [0] b), (1, .sl Rp.byte [0] c), (10, .own Rp.byte 5 12 [] rv5)], []⟩ (ro_oz 1 [kI rv] rfl (lo_call [kI rv] [1] 10 rfl Try.call13 (darningref04_Put_ok h_rv5) rfl rfl rfl rfl rfl) rfl (by kernel_rfl)) ?_
 obtain ⟨g, h_g, h⟩ := bnd h
 refine ji_region ⟨[(0, .sl Rp.byte [0] b), (1, .sl Rp.byte [0] c), (56, kB g)], []⟩ ?_ ?_
 ·
  refine (ro_sp 4 38 (decide ((rv5.length : Int) > 0)) ⟨[(0, .sl Rp.byte [0] b), (1, .sl Rp.byte [0] c), (10, .own Rp.byte 5 12 [] rv5), (38, kB (decide ((rv5.length : Int) > 0)))], []⟩ (by kernel_rfl) rfl (fun hc5 => ?_) (fun hc5 => ?_))
  ·
   replace h_g := iteT h_g hc5
   obtain ⟨rv6, h_rv6, h_g⟩ := bnd h_g
   refine (ro_o 1 [.own Rp.byte 5 12 [] rv5] ⟨[(0, .sl Rp.byte [0] b), (1, .sl Rp.byte [0] c), (10, .own Rp.byte 5 12 [] rv5), (38, kB true), (40, kB rv6)], []⟩ rfl (lo_call [.own Rp.byte 5 12 [] rv5] [12] 11 rfl Try.call10 (utf_Right_ok h_rv6) rfl rfl rfl rfl rfl) rfl (by kernel_rfl) (ro_sp 2 42 (!rv6) ⟨[(0, .sl Rp.byte [0] b), (1, .sl Rp.byte [0] c), (10, .own Rp.byte 5 12 [] rv5), (38, kB true), (42, kB (!rv6))], []⟩ (by kernel_rfl) rfl (fun hc6 => ?_) (fun hc6 => ?_)))
   ·
    replace h_g := iteT h_g hc6
    obtain rfl := sj h_g
    exact (ro_z (by kernel_rfl))
   replace h_g := iteF h_g hc6
   obtain ⟨rv7, h_rv7, h_g⟩ := bnd h_g
   refine (ro_o 1 [.own Rp.byte 5 12 [] rv5] ⟨[(0, .sl Rp.byte [0] b), (1, .sl Rp.byte [0] c), (10, .own Rp.byte 5 12 [] rv5), (38, kB true), (42, kB false), (44, kI rv7)], []⟩ rfl (lo_call [.own Rp.byte 5 12 [] rv5] [12] 11 rfl Try.call9 (utf_Count_ok h_rv7) rfl rfl rfl rfl rfl) rfl (by kernel_rfl) (ro_sp 3 47 (rv7 != 1) ⟨[(0, .sl Rp.byte [0] b), (1, .sl Rp.byte [0] c), (10, .own Rp.byte 5 12 [] rv5), (38, kB true), (47, kB (rv7 != 1))], []⟩ (by kernel_rfl) rfl (fun hc7 => ?_) (fun hc7 => ?_)))
   ·
    replace h_g := iteT h_g hc7
    obtain rfl := sj h_g
    exact (ro_z (by kernel_rfl))
   replace h_g := iteF h_g hc7
   obtain ⟨rv8, h_rv8, h_g⟩ := bnd h_g
   obtain rfl := sj h_g
   exact (ro_oz 4 [.own Rp.byte 5 12 [] rv5, kI (IntKind.i64.wrap ((rv5.length : Int) - 1))] rfl (lo_call [.own Rp.byte 5 12 [] rv5, kI (IntKind.i64.wrap ((rv5.length : Int) - 1))] [12] 11 rfl Try.call12 (utf_Cut_ok h_rv8) rfl rfl rfl rfl rfl) rfl (by kernel_rfl))
  replace h_g := iteF h_g hc5
  obtain rfl := sj h_g
  exact (ro_z (by kernel_rfl))
 rcases ite_some h with ⟨hc8, h⟩ | ⟨hc8, h⟩
 ·
  refine ji_condT rfl hc8 ?_
  refine ji_rz ⟨[(8, kB false)], []⟩ (by kernel_rfl) ?_
  obtain rfl := sj h
  exact je_ret (le_z (by kernel_rfl))
 refine ji_condF rfl hc8 ?_
 obtain ⟨v3, h_v3, h⟩ := bnd h
 obtain ⟨v4, h_v4, h⟩ := bnd h
 refine ji_region ⟨[(0, .sl Rp.byte [0] b), (1, .sl Rp.byte [0] c), (11, .own Rp.byte 5 14 [] v4)], []⟩ (ro_o 0 [] ⟨[(0, .sl Rp.byte [0] b), (1, .sl Rp.byte [0] c), (57, .own Rp.byte 5 14 [] ([] : (List UInt8)))], []⟩ rfl (lo_bsl [] 14 [] ([] : (List UInt8)) rfl zet22 rfl rfl rfl rfl) rfl (by kernel_rfl) (ro_o 1 [.own Rp.byte 5 14 [] ([] : (List UInt8)), .sl Rp.byte [0] b] ⟨[(0, .sl Rp.byte [0] b), (1, .sl Rp.byte [0] c), (59, .own Rp.byte 5 14 [] v3)], []⟩ rfl (lo_app 14 [] rfl zet22.el rfl (isOwn_own _ _ _ _ _) (isSl_sl _ _ _) h_v3 (.inl plain_byte) rfl) rfl (by kernel_rfl) (ro_oz 1 [.own Rp.byte 5 14 [] v3, .sl Rp.byte [0] c] rfl (lo_app 14 [] rfl zet22.el rfl (isOwn_own _ _ _ _ _) (isSl_sl _ _ _) h_v4 (.inl plain_byte) rfl) rfl (by kernel_rfl)))) ?_
 obtain ⟨g2, h_g2, h⟩ := bnd h
 refine ji_region ⟨[(0, .sl Rp.byte [0] b), (1, .sl Rp.byte [0] c), (11, .own Rp.byte 5 14 [] v4), (67, kB g2)], []⟩ ?_ ?_
 ·
  obtain ⟨rv9, h_rv9, h_g2⟩ := bnd h_g2
  refine (ro_o 1 [.sl Rp.byte [0] b] ⟨[(0, .sl Rp.byte [0] b), (1, .sl Rp.byte [0] c), (11, .own Rp.byte 5 14 [] v4), (63, kB rv9)], []⟩ rfl (lo_call [.sl Rp.byte [0] b] [0] 13 rfl Try.call10 (utf_Right_ok h_rv9) rfl rfl rfl rfl rfl) rfl (by kernel_rfl) (ro_sp 1 64 rv9 ⟨[(0, .sl Rp.byte [0] b), (1, .sl Rp.byte [0] c), (11, .own Rp.byte 5 14 [] v4), (64, kB rv9)], []⟩ (by kernel_rfl) rfl (fun hc9 => ?_) (fun hc9 => ?_)))
  ·
   replace h_g2 := iteT h_g2 hc9
   obtain ⟨rv10, h_rv10, h_g2⟩ := bnd h_g2
   obtain rfl := sj h_g2
   exact (ro_oz 1 [.sl Rp.byte [0] c] rfl (lo_call [.sl Rp.byte [0] c] [0] 13 rfl Try.call10 (utf_Right_ok h_rv10) rfl rfl rfl rfl rfl) rfl (by kernel_rfl))
  replace h_g2 := iteF h_g2 hc9
  obtain rfl := sj h_g2
  exact (ro_z (by kernel_rfl))
 rcases ite_some h with ⟨hc10, h⟩ | ⟨hc10, h⟩
 ·
  refine ji_condT rfl hc10 ?_
  obtain ⟨g3, h_g3, h⟩ := bnd h
  refine ji_region ⟨[(8, kB g3)], []⟩ ?_ ?_
  ·
   obtain ⟨rv11, h_rv11, h_g3⟩ := bnd h_g3
   refine (ro_o 1 [.own Rp.byte 5 14 [] v4] ⟨[(0, .sl Rp.byte [0] b), (1, .sl Rp.byte [0] c), (11, .own Rp.byte 5 14 [] v4), (69, kB rv11)], []⟩ rfl (lo_call [.own Rp.byte 5 14 [] v4] [14] 13 rfl Try.call10 (utf_Right_ok h_rv11) rfl rfl rfl rfl rfl) rfl (by kernel_rfl) (ro_sp 1 70 rv11 ⟨[(0, .sl Rp.byte [0] b), (1, .sl Rp.byte [0] c), (11, .own Rp.byte 5 14 [] v4), (70, kB rv11)], []⟩ (by kernel_rfl) rfl (fun hc11 => ?_) (fun hc11 => ?_)))
   ·
    replace h_g3 := iteT h_g3 hc11
    obtain ⟨rv12, h_rv12, h_g3⟩ := bnd h_g3
    obtain ⟨rv13, h_rv13, h_g3⟩ := bnd h_g3
    obtain ⟨rv14, h_rv14, h_g3⟩ := bnd h_g3
    obtain rfl := sj h_g3
    exact (ro_o 1 [.own Rp.byte 5 14 [] v4] ⟨[(0, .sl Rp.byte [0] b), (1, .sl Rp.byte [0] c), (70, kB true), (72, kI rv12)], []⟩ rfl (lo_call [.own Rp.byte 5 14 [] v4] [14] 13 rfl Try.call9 (utf_Count_ok h_rv12) rfl rfl rfl rfl rfl) rfl (by kernel_rfl) (ro_o 1 [.sl Rp.byte [0] b] ⟨[(1, .sl Rp.byte [0] c), (70, kB true), (72, kI rv12), (74, kI rv13)], []⟩ rfl (lo_call [.sl Rp.byte [0] b] [0] 13 rfl Try.call9 (utf_Count_ok h_rv13) rfl rfl rfl rfl rfl) rfl (by kernel_rfl) (ro_oz 1 [.sl Rp.byte [0] c] rfl (lo_call [.sl Rp.byte [0] c] [0] 13 rfl Try.call9 (utf_Count_ok h_rv14) rfl rfl rfl rfl rfl) rfl (by kernel_rfl))))
   replace h_g3 := iteF h_g3 hc11
   obtain rfl := sj h_g3
   exact (ro_z (by kernel_rfl))
  obtain rfl := sj h
  exact je_ret (le_z (by kernel_rfl))
 refine ji_condF rfl hc10 ?_
 obtain ⟨g4, h_g4, h⟩ := bnd h
 refine ji_region ⟨[(8, kB g4)], []⟩ ?_ ?_
 ·
  obtain ⟨rv15, h_rv15, h_g4⟩ := bnd h_g4
  refine (ro_o 1 [.sl Rp.byte [0] b] ⟨[(11, .own Rp.byte 5 14 [] v4), (81, kB rv15)], []⟩ rfl (lo_call [.sl Rp.byte [0] b] [0] 13 rfl Try.call10 (utf_Right_ok h_rv15) rfl rfl rfl rfl rfl) rfl (by kernel_rfl) (ro_sp 2 83 (!rv15) ⟨[(11, .own Rp.byte 5 14 [] v4), (83, kB (!rv15))], []⟩ (by kernel_rfl) rfl (fun hc12 => ?_) (fun hc12 => ?_)))
  ·
   replace h_g4 := iteT h_g4 hc12
   obtain rfl := sj h_g4
   exact (ro_z (by kernel_rfl))
  replace h_g4 := iteF h_g4 hc12
  obtain ⟨rv16, h_rv16, h_g4⟩ := bnd h_g4
  obtain rfl := sj h_g4
  exact (ro_oz 1 [.own Rp.byte 5 14 [] v4] rfl (lo_call [.own Rp.byte 5 14 [] v4] [14] 13 rfl Try.call10 (utf_Right_ok h_rv16) rfl rfl rfl rfl rfl) rfl (by kernel_rfl))
 obtain rfl := sj h
 exact je_ret (le_z (by kernel_rfl))
end Go.Proofs.Ytfcmlcegeiphdaa
