/-
  The Go functions do what the plain functions say. No condition.
-/
import Derived.Test.YtbhlonecfdknaaaG1
import Derived.Test.YtbhlonecfdknaaaY
namespace Go.Proofs.Ytbhlonecfdknaaa
open Go Go.RowKit
set_option linter.unusedVariables false
set_option maxRecDepth 100000
theorem bits_Sign32_ok {wv : Int} {r : Int} (h : bits_Sign32 wv = some r) : FnOk Try.prog 25 [kU wv] [.lf (.int .i32 r)] := by
 refine fn_intro' (E := ⟨[(2, .lf (.int .i32 r))], []⟩) 6 Try.func25 rfl rfl rfl ⟨rfl, trivial⟩ (fun Xt => ?_)
 refine ji_start ?_
 refine ji_le (E' := ⟨[(0, kU wv)], []⟩) (fun _ _ _ hs => hs) ?_
 unfold bits_Sign32 at h
 refine ji_rz ⟨[(0, kU wv)], []⟩ (by kernel_rfl) ?_
 obtain ⟨rv, h_rv, h⟩ := bnd h
 refine ji_region ⟨[(2, .lf (.int .i32 (IntKind.i32.wrap rv)))], []⟩ (ro_oz 1 [kU wv] rfl (lo_call [kU wv] [1] 9 rfl Try.call26 (bits_Low32_ok h_rv) rfl rfl rfl rfl rfl) rfl (by kernel_rfl)) ?_
 obtain rfl := sj h
 exact je_ret (le_z (by kernel_rfl))
theorem kind_Parse_ok {name : Str} {r : (Int × Int)} (h : kind_Parse name = some r) : FnOk Try.prog 7 [kS name] [kI r.1, k8 r.2] := by
 refine fn_intro' (E := ⟨[(2, kI r.1), (3, k8 r.2)], []⟩) 18 Try.func7 rfl rfl rfl ⟨rfl, rfl, trivial⟩ (fun Xt => ?_)
 refine ji_start ?_
 refine ji_le (E' := ⟨[(0, kS name)], []⟩) (fun _ _ _ hs => hs) ?_
 unfold kind_Parse at h
 refine ji_rz ⟨[(0, kS name)], []⟩ (by kernel_rfl) ?_
 obtain ⟨rv, h_rv, h⟩ := bnd h
 refine ji_region ⟨[(0, kS name), (7, .it (Rp.int .i64) R_name_wire 12 [11] [] rv)], []⟩ (ro_o 0 [] ⟨[(0, kS name), (6, .om (Rp.int .i64) R_name_wire 11 [] rv)], []⟩ rfl (lo_call [] [1] 9 rfl Try.call21 (kind_kinds_ok h_rv) rfl rfl rfl rfl rfl) rfl (by kernel_rfl) (ro_oz 0 [.om (Rp.int .i64) R_name_wire 11 [] rv] rfl (lo_range (rk := (Rp.int .i64)) (rv := R_name_wire) (m := rv) 12 rfl Try.underlying45 (isMp_om _ _ _ _ _) rfl) rfl (by kernel_rfl))) ?_
 refine ji_block ?_
 have hq := orders_some h
 refine je_rloop (rk := (Rp.int .i64)) (rv := R_name_wire) (ℓ := 12) (C := [11]) (t7 := 7) (t8 := 8) (t9 := 9) (m0 := rv) (s := ()) (fun s : Unit => kind_Parse_e1 name) (fun (s : Unit) (ev : (Int × T_name_wire)) => kind_Parse_b1 name ev) (fun s => ⟨[(0, kS name)], []⟩) (fun o e a w => match o with | (.inl v_) => e = .exit 0 ∧ Sx ⟨⟨18, []⟩, Xt, false, #[]⟩ ⟨[], []⟩ a w | (.inr v_) => e = .ret ∧ Sx ⟨⟨18, []⟩, Xt, false, #[]⟩ ⟨[(2, kI v_), (3, k8 0)], []⟩ a w) rfl rfl ⟨rfl, rfl, rfl⟩ ⟨rfl, rfl, rfl⟩ rfl (fun _ => rfl) ?_ ?_ (fun q hp => (bnd (hq q hp)).imp fun _ hh => hh.1) ?_ ?_
 ·
  clear hq h
  intro s a w hs
  refine ⟨rfl, EnvLe.go (E := ⟨[(0, kS name)], []⟩) ?_ hs⟩
  exact le_z (by kernel_rfl)
 ·
  clear hq h
  intro s ev left o h
  refine ji_le (E' := ⟨[(7, .it (Rp.int .i64) R_name_wire 12 [11] [ev] left), (0, kS name)], []⟩) (fun _ _ _ hs => hs) ?_
  replace h : kind_Parse_b1 name ev = some o := h
  unfold kind_Parse_b1 at h
  refine ji_block ?_
  refine ji_region ⟨[(0, kS name), (4, kI ev.1), (5, .ptr 14 0), (7, .it (Rp.int .i64) R_name_wire 12 [11] [ev] left)], [⟨14, 48, [kS ev.2.name, kI ev.2.wire]⟩]⟩ (ro_o 0 [.it (Rp.int .i64) R_name_wire 12 [11] [ev] left] ⟨[(0, kS name), (7, .it (Rp.int .i64) R_name_wire 12 [11] [ev] left), (10, .tup [kI ev.1, .rc R_name_wire [11] ev.2])], []⟩ rfl (lo_entry (rk := (Rp.int .i64)) (rv := R_name_wire) (p := ev) (q := left) (kI ev.1) (.rc R_name_wire [11] ev.2) rfl (elAV_lf rfl rfl rfl) (elAV_rc rfl)) rfl (by kernel_rfl) (ro_o 2 [] ⟨[(0, kS name), (5, .ptr 14 0), (7, .it (Rp.int .i64) R_name_wire 12 [11] [ev] left), (11, kI ev.1), (12, .rc R_name_wire [11] ev.2)], [⟨14, 48, [kS [], kI 0]⟩]⟩ rfl (lo_alloc 14 [kS [], kI 0] rfl Try.zeroValue48 rfl) rfl (by kernel_rfl) (ro_obz 1 [.ptr 14 0, .rc R_name_wire [11] ev.2] [⟨14, 48, [kS [], kI 0]⟩] rfl (lo_str (r := R_name_wire) (b := ⟨14, 48, [kS [], kI 0]⟩) (off := 0) [kS ev.2.name, kI ev.2.wire] rfl Try.sizeOf48 rfl rfl rfl rfl) rfl rfl (by kernel_rfl)))) ?_
  refine ji_rz ⟨[(0, kS name), (4, kI ev.1), (7, .it (Rp.int .i64) R_name_wire 12 [11] [ev] left), (16, kB (ev.2.name == name))], []⟩ (by kernel_rfl) ?_
  rcases ite_some h with ⟨hc1, h⟩ | ⟨hc1, h⟩
  ·
   refine ji_condT rfl hc1 ?_
   refine ji_rz ⟨[(2, kI ev.1), (3, k8 0)], []⟩ (by kernel_rfl) ?_
   obtain rfl := sj h
   exact je_ret' (le_z (by kernel_rfl))
  refine ji_condF rfl hc1 ?_
  refine ji_end ?_
  obtain rfl := sj h
  refine je_nil ?_
  refine le_at 7 (.it (Rp.int .i64) R_name_wire 12 [11] [] left) rfl (le_it _ _ _ _) ?_
  exact le_z (by kernel_rfl)
 ·
  clear hq h
  exact le_z (by kernel_rfl)
 clear h
 intro left q hp_ h_q
 obtain ⟨V_, hV_, h⟩ := bnd (hq left hp_)
 cases sj (h_q.symm.trans hV_)
 rcases q with u | u2
 ·
  refine k_exit _ rfl ?_
  refine ji_rz ⟨[(2, kI 0), (3, k8 11)], []⟩ (by kernel_rfl) ?_
  obtain rfl := sj h
  exact je_ret (le_z (by kernel_rfl))
 obtain rfl := sj h
 exact ke_ret (le_z (by kernel_rfl))
theorem kind_All_ok  {r : (List Int)} (h : kind_All = some r) : FnOk Try.prog 9 [] [.own (Rp.int .i64) 3 2 [] r] := by
 refine fn_intro' (E := ⟨[(0, .own (Rp.int .i64) 3 2 [] r)], []⟩) 4 Try.func9 rfl rfl rfl ⟨rfl, trivial⟩ (fun Xt => ?_)
 refine ji_start ?_
 refine ji_le (E' := ⟨[], []⟩) (fun _ _ _ hs => hs) ?_
 unfold kind_All at h
 refine ji_rz ⟨[], []⟩ (by kernel_rfl) ?_
 obtain ⟨rv, h_rv, h⟩ := bnd h
 obtain ⟨v, h_v, h⟩ := bnd h
 refine ji_region ⟨[(0, .own (Rp.int .i64) 3 14 [] v)], []⟩ (ro_o 0 [] ⟨[(1, .om (Rp.int .i64) R_name_wire 13 [] rv)], []⟩ rfl (lo_call [] [1] 11 rfl Try.call21 (kind_kinds_ok h_rv) rfl rfl rfl rfl rfl) rfl (by kernel_rfl) (ro_pk 0 ⟨[(1, .om (Rp.int .i64) R_name_wire 13 [] rv)], []⟩ (by kernel_rfl) (ro_skeys (rv := R_name_wire) (m := rv) 14 sk23_22 rfl rfl rfl rfl rfl rfl Try.call23 Try.call22 rfl (isMp_om _ _ _ _ _) h_v rfl (ro_z (by kernel_rfl))))) ?_
 obtain rfl := sj h
 refine je_ret ?_
 refine le_px ⟨[(0, .own (Rp.int .i64) 3 14 [] v)], []⟩ (by kernel_rfl) (le_rn 14 2 rfl (le_px ⟨[(0, .own (Rp.int .i64) 3 2 [] v)], []⟩ (by kernel_rfl) ?_))
 exact le_z (by kernel_rfl)
theorem kind_Wire_ok {k : Int} {r : (Int × Int)} (h : kind_Wire k = some r) : FnOk Try.prog 10 [kI k] [kI r.1, k8 r.2] := by
 refine fn_intro' (E := ⟨[(2, kI r.1), (3, k8 r.2)], []⟩) 16 Try.func10 rfl rfl rfl ⟨rfl, rfl, trivial⟩ (fun Xt => ?_)
 refine ji_start ?_
 refine ji_le (E' := ⟨[(0, kI k)], []⟩) (fun _ _ _ hs => hs) ?_
 unfold kind_Wire at h
 refine ji_rz ⟨[(0, kI k)], []⟩ (by kernel_rfl) ?_
 obtain ⟨rv, h_rv, h⟩ := bnd h
 refine ji_region ⟨[(4, .ptr 12 0), (5, kB ((mget rv k).isSome))], [⟨12, 48, [kS (((mget rv k).getD (⟨[], 0⟩ : T_name_wire)).name), kI (((mget rv k).getD (⟨[], 0⟩ : T_name_wire)).wire)]⟩]⟩ (ro_o 0 [] ⟨[(0, kI k), (7, .om (Rp.int .i64) R_name_wire 11 [] rv)], []⟩ rfl (lo_call [] [1] 9 rfl Try.call21 (kind_kinds_ok h_rv) rfl rfl rfl rfl rfl) rfl (by kernel_rfl) (ro_o 1 [.om (Rp.int .i64) R_name_wire 11 [] rv, kI k] ⟨[(9, .tup [.rc R_name_wire [11] ((mget rv k).getD (⟨[], 0⟩ : T_name_wire)), kB ((mget rv k).isSome)])], []⟩ rfl (lo_mget2 (rk := (Rp.int .i64)) (rv := R_name_wire) (m := rv) (k := k) (.rc R_name_wire [11] ((mget rv k).getD (⟨[], 0⟩ : T_name_wire))) rfl mapt45 (isMp_om _ _ _ _ _) (asV_lf rfl rfl) (elAV_rc rfl)) rfl (by kernel_rfl) (ro_o 3 [] ⟨[(4, .ptr 12 0), (10, .rc R_name_wire [11] ((mget rv k).getD (⟨[], 0⟩ : T_name_wire))), (11, kB ((mget rv k).isSome))], [⟨12, 48, [kS [], kI 0]⟩]⟩ rfl (lo_alloc 12 [kS [], kI 0] rfl Try.zeroValue48 rfl) rfl (by kernel_rfl) (ro_obz 0 [.ptr 12 0, .rc R_name_wire [11] ((mget rv k).getD (⟨[], 0⟩ : T_name_wire))] [⟨12, 48, [kS [], kI 0]⟩] rfl (lo_str (r := R_name_wire) (b := ⟨12, 48, [kS [], kI 0]⟩) (off := 0) [kS (((mget rv k).getD (⟨[], 0⟩ : T_name_wire)).name), kI (((mget rv k).getD (⟨[], 0⟩ : T_name_wire)).wire)] rfl Try.sizeOf48 rfl rfl rfl rfl) rfl rfl (by kernel_rfl))))) ?_
 refine ji_rz ⟨[(4, .ptr 12 0), (13, kB (!(mget rv k).isSome))], [⟨12, 48, [kS (((mget rv k).getD (⟨[], 0⟩ : T_name_wire)).name), kI (((mget rv k).getD (⟨[], 0⟩ : T_name_wire)).wire)]⟩]⟩ (by kernel_rfl) ?_
 rcases ite_some h with ⟨hc1, h⟩ | ⟨hc1, h⟩
 ·
  refine ji_condT rfl hc1 ?_
  refine ji_rz ⟨[(2, kI 0), (3, k8 2)], []⟩ (by kernel_rfl) ?_
  obtain rfl := sj h
  exact je_ret (le_z (by kernel_rfl))
 refine ji_condF rfl hc1 ?_
 refine ji_rz ⟨[(2, kI (((mget rv k).getD (⟨[], 0⟩ : T_name_wire)).wire)), (3, k8 0)], []⟩ (by kernel_rfl) ?_
 obtain rfl := sj h
 exact je_ret (le_z (by kernel_rfl))
theorem kind_Right_ok {k : Int} {r : Bool} (h : kind_Right k = some r) : FnOk Try.prog 12 [kI k] [kB r] := by
 refine fn_intro' (E := ⟨[(2, kB r)], []⟩) 12 Try.func12 rfl rfl rfl ⟨rfl, trivial⟩ (fun Xt => ?_)
 refine ji_start ?_
 refine ji_le (E' := ⟨[(0, kI k)], []⟩) (fun _ _ _ hs => hs) ?_
 unfold kind_Right at h
 refine ji_rz ⟨[(0, kI k)], []⟩ (by kernel_rfl) ?_
 obtain ⟨rv, h_rv, h⟩ := bnd h
 refine ji_region ⟨[(4, kB ((mget rv k).isSome))], []⟩ (ro_o 0 [] ⟨[(0, kI k), (6, .om (Rp.int .i64) R_name_wire 11 [] rv)], []⟩ rfl (lo_call [] [1] 9 rfl Try.call21 (kind_kinds_ok h_rv) rfl rfl rfl rfl rfl) rfl (by kernel_rfl) (ro_o 1 [.om (Rp.int .i64) R_name_wire 11 [] rv, kI k] ⟨[(8, .tup [.rc R_name_wire [11] ((mget rv k).getD (⟨[], 0⟩ : T_name_wire)), kB ((mget rv k).isSome)])], []⟩ rfl (lo_mget2 (rk := (Rp.int .i64)) (rv := R_name_wire) (m := rv) (k := k) (.rc R_name_wire [11] ((mget rv k).getD (⟨[], 0⟩ : T_name_wire))) rfl mapt45 (isMp_om _ _ _ _ _) (asV_lf rfl rfl) (elAV_rc rfl)) rfl (by kernel_rfl) (ro_o 3 [] ⟨[(3, .ptr 12 0), (9, .rc R_name_wire [11] ((mget rv k).getD (⟨[], 0⟩ : T_name_wire))), (10, kB ((mget rv k).isSome))], [⟨12, 48, [kS [], kI 0]⟩]⟩ rfl (lo_alloc 12 [kS [], kI 0] rfl Try.zeroValue48 rfl) rfl (by kernel_rfl) (ro_obz 0 [.ptr 12 0, .rc R_name_wire [11] ((mget rv k).getD (⟨[], 0⟩ : T_name_wire))] [⟨12, 48, [kS [], kI 0]⟩] rfl (lo_str (r := R_name_wire) (b := ⟨12, 48, [kS [], kI 0]⟩) (off := 0) [kS (((mget rv k).getD (⟨[], 0⟩ : T_name_wire)).name), kI (((mget rv k).getD (⟨[], 0⟩ : T_name_wire)).wire)] rfl Try.sizeOf48 rfl rfl rfl rfl) rfl rfl (by kernel_rfl))))) ?_
 refine ji_rz ⟨[(2, kB ((mget rv k).isSome))], []⟩ (by kernel_rfl) ?_
 obtain rfl := sj h
 exact je_ret (le_z (by kernel_rfl))
theorem kind_Name_ok {k : Int} {r : Str} (h : kind_Name k = some r) : FnOk Try.prog 13 [kI k] [kS r] := by
 refine fn_intro' (E := ⟨[(2, kS r)], []⟩) 7 Try.func13 rfl rfl rfl ⟨rfl, trivial⟩ (fun Xt => ?_)
 refine ji_start ?_
 refine ji_le (E' := ⟨[(0, kI k)], []⟩) (fun _ _ _ hs => hs) ?_
 unfold kind_Name at h
 refine ji_rz ⟨[(0, kI k)], []⟩ (by kernel_rfl) ?_
 obtain ⟨rv, h_rv, h⟩ := bnd h
 refine ji_region ⟨[(2, kS (((mget rv k).getD (⟨[], 0⟩ : T_name_wire)).name))], []⟩ (ro_o 0 [] ⟨[(0, kI k), (3, .om (Rp.int .i64) R_name_wire 11 [] rv)], []⟩ rfl (lo_call [] [1] 9 rfl Try.call21 (kind_kinds_ok h_rv) rfl rfl rfl rfl rfl) rfl (by kernel_rfl) (ro_o 1 [.om (Rp.int .i64) R_name_wire 11 [] rv, kI k] ⟨[(5, .rc R_name_wire [11] ((mget rv k).getD (⟨[], 0⟩ : T_name_wire)))], []⟩ rfl (lo_mget (rk := (Rp.int .i64)) (rv := R_name_wire) (m := rv) (k := k) (.rc R_name_wire [11] ((mget rv k).getD (⟨[], 0⟩ : T_name_wire))) rfl mapt45 (isMp_om _ _ _ _ _) (asV_lf rfl rfl) (elAV_rc rfl)) rfl (by kernel_rfl) (ro_oz 0 [.rc R_name_wire [11] ((mget rv k).getD (⟨[], 0⟩ : T_name_wire))] rfl (lo_fld (kS (((mget rv k).getD (⟨[], 0⟩ : T_name_wire)).name)) rfl Try.underlying48 rfl Try.isAgg9 rfl rfl rfl) rfl (by kernel_rfl)))) ?_
 obtain rfl := sj h
 exact je_ret (le_z (by kernel_rfl))
theorem darningref06_Signed_ok {k : Int} {wv : Int} {r : (Int × Bool)} (h : darningref06_Signed k wv = some r) : FnOk Try.prog 19 [kI k, kU wv] [kI r.1, kB r.2] := by
 refine fn_intro' (E := ⟨[(4, kI r.1), (5, kB r.2)], []⟩) 34 Try.func19 rfl rfl rfl ⟨rfl, rfl, trivial⟩ (fun Xt => ?_)
 refine ji_start ?_
 refine ji_le (E' := ⟨[(0, kI k), (1, kU wv)], []⟩) (fun _ _ _ hs => hs) ?_
 unfold darningref06_Signed at h
 refine ji_rz ⟨[(0, kI k), (1, kU wv)], []⟩ (by kernel_rfl) ?_
 refine ji_rz ⟨[(1, kU wv), (6, kI k)], []⟩ (by kernel_rfl) ?_
 refine ji_block ?_
 refine ji_rz ⟨[(1, kU wv), (6, kI k), (7, kB (k == 1))], []⟩ (by kernel_rfl) ?_
 obtain ⟨p, h_p, h⟩ := bnd h
 refine ji_join (R := fun e a w => e = .normal ∧ Sx ⟨⟨34, []⟩, Xt, false, #[]⟩ ⟨[(1, kU wv), (6, kI k), (7, kB p)], []⟩ a w) ?_ ?_
 ·
  replace h := h_p
  refine ji_start ?_
  rcases ite_some h with ⟨hc1, h⟩ | ⟨hc1, h⟩
  ·
   refine ji_condT rfl hc1 ?_
   obtain rfl := sj h
   exact je_nil (le_z (by kernel_rfl))
  refine ji_condF rfl hc1 ?_
  refine ji_rz ⟨[(1, kU wv), (6, kI k), (7, kB (k == 8))], []⟩ (by kernel_rfl) ?_
  rcases ite_some h with ⟨hc2, h⟩ | ⟨hc2, h⟩
  ·
   refine ji_condT rfl hc2 ?_
   obtain rfl := sj h
   exact je_nil (le_z (by kernel_rfl))
  refine ji_condF rfl hc2 ?_
  refine ji_rz ⟨[(1, kU wv), (6, kI k), (7, kB (k == 10))], []⟩ (by kernel_rfl) ?_
  obtain rfl := sj h
  exact je_nil (le_z (by kernel_rfl))
 refine k_norm ?_
 rcases ite_some h with ⟨hc3, h⟩ | ⟨hc3, h⟩
 ·
  refine ji_condT rfl hc3 ?_
  obtain ⟨rv, h_rv, h⟩ := bnd h
  refine ji_region ⟨[(4, kI rv), (5, kB true)], []⟩ (ro_oz 1 [kU wv] rfl (lo_call [kU wv] [1] 9 rfl Try.call29 (darningref01_Sign32_ok h_rv) rfl rfl rfl rfl rfl) rfl (by kernel_rfl)) ?_
  obtain rfl := sj h
  exact je_ret (le_z (by kernel_rfl))
 refine ji_condF rfl hc3 ?_
 refine ji_rz ⟨[(1, kU wv), (6, kI k), (13, kB (k == 2))], []⟩ (by kernel_rfl) ?_
 obtain ⟨p2, h_p2, h⟩ := bnd h
 refine ji_join (R := fun e a w => e = .normal ∧ Sx ⟨⟨34, []⟩, Xt, false, #[]⟩ ⟨[(1, kU wv), (6, kI k), (13, kB p2)], []⟩ a w) ?_ ?_
 ·
  replace h := h_p2
  refine ji_start ?_
  rcases ite_some h with ⟨hc4, h⟩ | ⟨hc4, h⟩
  ·
   refine ji_condT rfl hc4 ?_
   obtain rfl := sj h
   exact je_nil (le_z (by kernel_rfl))
  refine ji_condF rfl hc4 ?_
  refine ji_rz ⟨[(1, kU wv), (6, kI k), (13, kB (k == 13))], []⟩ (by kernel_rfl) ?_
  obtain rfl := sj h
  exact je_nil (le_z (by kernel_rfl))
 refine k_norm ?_
 rcases ite_some h with ⟨hc5, h⟩ | ⟨hc5, h⟩
 ·
  refine ji_condT rfl hc5 ?_
  refine ji_rz ⟨[(1, kU wv), (17, kB (decide (wv < 9223372036854775808)))], []⟩ (by kernel_rfl) ?_
  rcases ite_some h with ⟨hc6, h⟩ | ⟨hc6, h⟩
  ·
   refine ji_condT rfl hc6 ?_
   refine ji_rz ⟨[(4, kI (IntKind.i64.wrap wv)), (5, kB true)], []⟩ (by kernel_rfl) ?_
   obtain rfl := sj h
   exact je_ret (le_z (by kernel_rfl))
  refine ji_condF rfl hc6 ?_
  refine ji_rz ⟨[(4, kI (IntKind.i64.wrap ((IntKind.i64.wrap (0 - (IntKind.i64.wrap (IntKind.u64.wrap (18446744073709551615 - wv))))) - 1))), (5, kB true)], []⟩ (by kernel_rfl) ?_
  obtain rfl := sj h
  exact je_ret (le_z (by kernel_rfl))
 refine ji_condF rfl hc5 ?_
 refine ji_rz ⟨[(1, kU wv), (6, kI k), (25, kB (k == 5))], []⟩ (by kernel_rfl) ?_
 rcases ite_some h with ⟨hc7, h⟩ | ⟨hc7, h⟩
 ·
  refine ji_condT rfl hc7 ?_
  obtain ⟨rv2, h_rv2, h⟩ := bnd h
  refine ji_region ⟨[(4, kI rv2), (5, kB true)], []⟩ (ro_oz 2 [kU (Int.tmod wv 4294967296)] rfl (lo_call [kU (Int.tmod wv 4294967296)] [1] 9 rfl Try.call30 (darningref01_Zag_ok h_rv2) rfl rfl rfl rfl rfl) rfl (by kernel_rfl)) ?_
  obtain rfl := sj h
  exact je_ret (le_z (by kernel_rfl))
 refine ji_condF rfl hc7 ?_
 refine ji_rz ⟨[(1, kU wv), (30, kB (k == 6))], []⟩ (by kernel_rfl) ?_
 rcases ite_some h with ⟨hc8, h⟩ | ⟨hc8, h⟩
 ·
  refine ji_condT rfl hc8 ?_
  obtain ⟨rv3, h_rv3, h⟩ := bnd h
  refine ji_region ⟨[(4, kI rv3), (5, kB true)], []⟩ (ro_oz 1 [kU wv] rfl (lo_call [kU wv] [1] 9 rfl Try.call30 (darningref01_Zag_ok h_rv3) rfl rfl rfl rfl rfl) rfl (by kernel_rfl)) ?_
  obtain rfl := sj h
  exact je_ret (le_z (by kernel_rfl))
 refine ji_condF rfl hc8 ?_
 refine ji_end ?_
 refine ji_rz ⟨[(4, kI 0), (5, kB false)], []⟩ (by kernel_rfl) ?_
 obtain rfl := sj h
 exact je_ret (le_z (by kernel_rfl))
theorem darningref06_Canon_ok {k : Int} {wv : Int} {r : Int} (h : darningref06_Canon k wv = some r) : FnOk Try.prog 20 [kI k, kU wv] [kU r] := by
 refine fn_intro' (E := ⟨[(4, kU r)], []⟩) 25 Try.func20 rfl rfl rfl ⟨rfl, trivial⟩ (fun Xt => ?_)
 refine ji_start ?_
 refine ji_le (E' := ⟨[(0, kI k), (1, kU wv)], []⟩) (fun _ _ _ hs => hs) ?_
 unfold darningref06_Canon at h
 refine ji_rz ⟨[(0, kI k), (1, kU wv)], []⟩ (by kernel_rfl) ?_
 refine ji_rz ⟨[(1, kU wv), (5, kI k)], []⟩ (by kernel_rfl) ?_
 refine ji_block ?_
 refine ji_rz ⟨[(1, kU wv), (5, kI k), (6, kB (k == 1))], []⟩ (by kernel_rfl) ?_
 obtain ⟨p, h_p, h⟩ := bnd h
 refine ji_join (R := fun e a w => e = .normal ∧ Sx ⟨⟨25, []⟩, Xt, false, #[]⟩ ⟨[(1, kU wv), (5, kI k), (6, kB p)], []⟩ a w) ?_ ?_
 ·
  replace h := h_p
  refine ji_start ?_
  rcases ite_some h with ⟨hc1, h⟩ | ⟨hc1, h⟩
  ·
   refine ji_condT rfl hc1 ?_
   obtain rfl := sj h
   exact je_nil (le_z (by kernel_rfl))
  refine ji_condF rfl hc1 ?_
  refine ji_rz ⟨[(1, kU wv), (5, kI k), (6, kB (k == 8))], []⟩ (by kernel_rfl) ?_
  obtain rfl := sj h
  exact je_nil (le_z (by kernel_rfl))
 refine k_norm ?_
 rcases ite_some h with ⟨hc2, h⟩ | ⟨hc2, h⟩
 ·
  refine ji_condT rfl hc2 ?_
  obtain ⟨rv, h_rv, h⟩ := bnd h
  obtain ⟨rv2, h_rv2, h⟩ := bnd h
  refine ji_region ⟨[(4, kU rv2)], []⟩ (ro_o 1 [kU wv] ⟨[(10, kI rv)], []⟩ rfl (lo_call [kU wv] [1] 9 rfl Try.call29 (darningref01_Sign32_ok h_rv) rfl rfl rfl rfl rfl) rfl (by kernel_rfl) (ro_oz 0 [kI rv] rfl (lo_call [kI rv] [1] 9 rfl Try.call31 (darningref01_Wide_ok h_rv2) rfl rfl rfl rfl rfl) rfl (by kernel_rfl))) ?_
  obtain rfl := sj h
  exact je_ret (le_z (by kernel_rfl))
 refine ji_condF rfl hc2 ?_
 refine ji_rz ⟨[(1, kU wv), (5, kI k), (12, kB (k == 3))], []⟩ (by kernel_rfl) ?_
 obtain ⟨p2, h_p2, h⟩ := bnd h
 refine ji_join (R := fun e a w => e = .normal ∧ Sx ⟨⟨25, []⟩, Xt, false, #[]⟩ ⟨[(1, kU wv), (5, kI k), (12, kB p2)], []⟩ a w) ?_ ?_
 ·
  replace h := h_p2
  refine ji_start ?_
  rcases ite_some h with ⟨hc3, h⟩ | ⟨hc3, h⟩
  ·
   refine ji_condT rfl hc3 ?_
   obtain rfl := sj h
   exact je_nil (le_z (by kernel_rfl))
  refine ji_condF rfl hc3 ?_
  refine ji_rz ⟨[(1, kU wv), (5, kI k), (12, kB (k == 5))], []⟩ (by kernel_rfl) ?_
  rcases ite_some h with ⟨hc4, h⟩ | ⟨hc4, h⟩
  ·
   refine ji_condT rfl hc4 ?_
   obtain rfl := sj h
   exact je_nil (le_z (by kernel_rfl))
  refine ji_condF rfl hc4 ?_
  refine ji_rz ⟨[(1, kU wv), (5, kI k), (12, kB (k == 9))], []⟩ (by kernel_rfl) ?_
  rcases ite_some h with ⟨hc5, h⟩ | ⟨hc5, h⟩
  ·
   refine ji_condT rfl hc5 ?_
   obtain rfl := sj h
   exact je_nil (le_z (by kernel_rfl))
  refine ji_condF rfl hc5 ?_
  refine ji_rz ⟨[(1, kU wv), (5, kI k), (12, kB (k == 10))], []⟩ (by kernel_rfl) ?_
  rcases ite_some h with ⟨hc6, h⟩ | ⟨hc6, h⟩
  ·
   refine ji_condT rfl hc6 ?_
   obtain rfl := sj h
   exact je_nil (le_z (by kernel_rfl))
  refine ji_condF rfl hc6 ?_
  refine ji_rz ⟨[(1, kU wv), (5, kI k), (12, kB (k == 11))], []⟩ (by kernel_rfl) ?_
  obtain rfl := sj h
  exact je_nil (le_z (by kernel_rfl))
 refine k_norm ?_
 rcases ite_some h with ⟨hc7, h⟩ | ⟨hc7, h⟩
 ·
  refine ji_condT rfl hc7 ?_
  refine ji_rz ⟨[(4, kU (Int.tmod wv 4294967296))], []⟩ (by kernel_rfl) ?_
  obtain rfl := sj h
  exact je_ret (le_z (by kernel_rfl))
 refine ji_condF rfl hc7 ?_
 refine ji_rz ⟨[(1, kU wv), (20, kB (k == 7))], []⟩ (by kernel_rfl) ?_
 rcases ite_some h with ⟨hc8, h⟩ | ⟨hc8, h⟩
 ·
  refine ji_condT rfl hc8 ?_
  refine ji_rz ⟨[(23, kB (decide (wv > 0)))], []⟩ (by kernel_rfl) ?_
  rcases ite_some h with ⟨hc9, h⟩ | ⟨hc9, h⟩
  ·
   refine ji_condT rfl hc9 ?_
   refine ji_rz ⟨[(4, kU 1)], []⟩ (by kernel_rfl) ?_
   obtain rfl := sj h
   exact je_ret (le_z (by kernel_rfl))
  refine ji_condF rfl hc9 ?_
  refine ji_rz ⟨[(4, kU 0)], []⟩ (by kernel_rfl) ?_
  obtain rfl := sj h
  exact je_ret (le_z (by kernel_rfl))
 refine ji_condF rfl hc8 ?_
 refine ji_end ?_
 refine ji_rz ⟨[(4, kU wv)], []⟩ (by kernel_rfl) ?_
 obtain rfl := sj h
 exact je_ret (le_z (by kernel_rfl))
end Go.Proofs.Ytbhlonecfdknaaa
