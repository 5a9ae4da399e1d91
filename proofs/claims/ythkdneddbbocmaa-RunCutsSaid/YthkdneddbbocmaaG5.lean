/-
  The Go functions do what the plain functions say. No condition.
-/
import Derived.Test.YthkdneddbbocmaaG4
namespace Go.Proofs.Ythkdneddbbocmaa
open Go Go.RowKit
set_option linter.unusedVariables false
set_option maxRecDepth 100000
theorem run_width_ok {k : Int} {r : Int} (h : run_width k = some r) : FnOk Try.prog 25 [kI k] [kI r] := by
 refine fn_intro' (E := ⟨[(2, kI r)], []⟩) 5 Try.func25 rfl rfl rfl ⟨rfl, trivial⟩ (fun Xt => ?_)
 refine ji_start ?_
 refine ji_le (E' := ⟨[(0, kI k)], []⟩) (fun _ _ _ hs => hs) ?_
 unfold run_width at h
 refine ji_rz ⟨[(0, kI k)], []⟩ (by kernel_rfl) ?_
 obtain ⟨rv, h_rv, h⟩ := bnd h
 refine ji_region ⟨[(2, kI rv)], []⟩ (ro_oz 1 [kI k, kU 0] rfl (lo_call [kI k, kU 0] [1] 9 rfl Try.call39 (scalar_Size_ok h_rv) rfl rfl rfl rfl rfl) rfl (by kernel_rfl)) ?_
 obtain rfl := sj h
 exact je_ret (le_z (by kernel_rfl))
theorem scalar_Canonical_ok {k : Int} {b : (List UInt8)} {r : Bool} (h : scalar_Canonical k b = some r) : FnOk Try.prog 26 [kI k, .sl Rp.byte [0] b] [kB r] := by
 refine fn_intro' (E := ⟨[(4, kB r)], []⟩) 34 Try.func26 rfl rfl rfl ⟨rfl, trivial⟩ (fun Xt => ?_)
 refine ji_start ?_
 refine ji_le (E' := ⟨[(0, kI k), (1, .sl Rp.byte [0] b)], []⟩) (fun _ _ _ hs => hs) ?_
 unfold scalar_Canonical at h
 refine ji_rz ⟨[(0, kI k), (1, .sl Rp.byte [0] b)], []⟩ (by kernel_rfl) ?_
 obtain ⟨rv, h_rv, h⟩ := bnd h
 refine ji_region ⟨[(0, kI k), (1, .sl Rp.byte [0] b), (5, kU rv.1), (6, k8 rv.2)], []⟩ (ro_oz 2 [kI k, .sl Rp.byte [0] b] rfl (lo_call [kI k, .sl Rp.byte [0] b] [0] 9 rfl Try.call32 (scalar_plain_ok h_rv) rfl rfl rfl rfl rfl) rfl (by kernel_rfl)) ?_
 refine ji_rz ⟨[(0, kI k), (1, .sl Rp.byte [0] b), (5, kU rv.1), (16, kB (rv.2 != 0))], []⟩ (by kernel_rfl) ?_
 rcases ite_some h with ⟨hc1, h⟩ | ⟨hc1, h⟩
 ·
  refine ji_condT rfl hc1 ?_
  refine ji_rz ⟨[(4, kB false)], []⟩ (by kernel_rfl) ?_
  obtain rfl := sj h
  exact je_ret (le_z (by kernel_rfl))
 refine ji_condF rfl hc1 ?_
 obtain ⟨rv2, h_rv2, h⟩ := bnd h
 refine ji_region ⟨[(0, kI k), (1, .sl Rp.byte [0] b), (5, kU rv.1), (7, kU rv2.1)], []⟩ (ro_oz 2 [kI k, kU rv.1] rfl (lo_call [kI k, kU rv.1] [1] 9 rfl Try.call33 (kind_Canon_ok h_rv2) rfl rfl rfl rfl rfl) rfl (by kernel_rfl)) ?_
 obtain ⟨g, h_g, h⟩ := bnd h
 refine ji_region ⟨[(4, kB g)], []⟩ ?_ ?_
 ·
  refine (ro_sp 4 26 (rv.1 == rv2.1) ⟨[(0, kI k), (1, .sl Rp.byte [0] b), (5, kU rv.1), (26, kB (rv.1 == rv2.1))], []⟩ (by kernel_rfl) rfl (fun hc2 => ?_) (fun hc2 => ?_))
  ·
   replace h_g := iteT h_g hc2
   obtain ⟨rv3, h_rv3, h_g⟩ := bnd h_g
   obtain rfl := sj h_g
   exact (ro_oz 4 [kI k, kU rv.1] rfl (lo_call [kI k, kU rv.1] [1] 9 rfl Try.call39 (scalar_Size_ok h_rv3) rfl rfl rfl rfl rfl) rfl (by kernel_rfl))
  replace h_g := iteF h_g hc2
  obtain rfl := sj h_g
  exact (ro_z (by kernel_rfl))
 obtain rfl := sj h
 exact je_ret (le_z (by kernel_rfl))
theorem run_values_1_it (v : Int) (v2 : (List UInt8)) : ItOk Try.prog 31 [.bp (Rp.int .i64) 3 903100 [] v, .bp (Rp.list Rp.byte) 22 903101 [0] v2] (fun x : ((List UInt8) × Int) => [.sl Rp.byte [0] x.1, k8 x.2]) (fun {σ : Type} (kf : Rnd σ ((List UInt8) × Int)) (sg : σ) => run_values_1 v v2 kf sg) := by
 refine it_intro 38 [(1, .ptr 903100 0), (2, .ptr 903101 0)] [⟨903100, 3, [kI v]⟩, ⟨903101, 22, [.sl Rp.byte [0] v2]⟩] Try.func31 rfl rfl rfl rfl (.cons (Rp.int .i64) 3 903100 [] v [kI v] rfl rfl (.cons (Rp.list Rp.byte) 22 903101 [0] v2 [.sl Rp.byte [0] v2] rfl rfl (.nil _))) ?_
 intro σ kf sg s1 h l I hI F_ hT
 replace h : run_values_1 v v2 kf sg = some s1 := h
 refine ji_start ?_
 refine ji_le (E' := ⟨[(0, .lf (.val (.func (.yield l) #[] #[]))), (1, .ptr 903100 0), (2, .ptr 903101 0)], [⟨903100, 3, [kI v]⟩, ⟨903101, 22, [.sl Rp.byte [0] v2]⟩]⟩) (fun _ _ _ hs => hs) ?_
 unfold run_values_1 at h
 obtain ⟨rv, h_rv, h⟩ := bnd h
 refine ji_region ⟨[(0, .lf (.val (.func (.yield l) #[] #[]))), (2, .ptr 903101 0), (4, kI rv)], [⟨903101, 22, [.sl Rp.byte [0] v2]⟩]⟩ (ro_oz 1 [kI v] rfl (lo_call [kI v] [1] 9 rfl Try.call25 (run_width_ok h_rv) rfl rfl rfl rfl rfl) rfl (by kernel_rfl)) ?_
 refine ji_rz ⟨[(0, .lf (.val (.func (.yield l) #[] #[]))), (2, .ptr 903101 0), (4, kI rv), (11, kB (rv == 0))], [⟨903101, 22, [.sl Rp.byte [0] v2]⟩]⟩ (by kernel_rfl) ?_
 rcases ite_some h with ⟨hc1, h⟩ | ⟨hc1, h⟩
 ·
  refine ji_condT rfl hc1 ?_
  obtain ⟨y, h_y, h⟩ := bnd h
  refine ji_yield (E' := ⟨[], []⟩) (x := (([] : (List UInt8)), 2)) (b := y.1) (s' := y.2) 1 (some 13) [.const (.slice none 0 0), .const (.int .u8 2)] [kN, k8 2] [.sl Rp.byte [0] ([] : (List UInt8)), k8 2] ⟨[(12, .lf (.val (.func (.yield l) #[] #[])))], []⟩ hT rfl rfl rfl rfl rfl (ro_z (by kernel_rfl)) rfl ⟨rfl, ⟨rfl, trivial⟩⟩ rfl ⟨le_sl_nil _ _, AV.le_refl _, trivial⟩ rfl rfl h_y (ro_z (by kernel_rfl)) ?_
  obtain rfl := sj h
  exact je_itr (le_z (by kernel_rfl))
 refine ji_condF rfl hc1 ?_
 refine ji_rz ⟨[(0, .lf (.val (.func (.yield l) #[] #[]))), (4, kI rv), (5, .sl Rp.byte [0] v2)], []⟩ (by kernel_rfl) ?_
 refine ji_block ?_
 obtain ⟨q, h_q, h⟩ := bnd h
 refine je_loopC (fun s : ((List UInt8) × σ) => run_values_1_b1 kf rv s.1 s.2) (fun s => ⟨⟨38, []⟩, itX I hI F_ s.2, false, #[]⟩) (fun s => ⟨[(0, .lf (.val (.func (.yield l) #[] #[]))), (4, kI rv), (5, .sl Rp.byte [0] s.1)], []⟩) (fun o e a w => match o with | (.inl v_) => e = .exit 0 ∧ Sx ⟨⟨38, []⟩, itX I hI F_ v_, false, #[]⟩ ⟨[], []⟩ a w | (.inr v_) => e = .ret ∧ Sx ⟨⟨38, []⟩, itX I hI F_ v_, false, #[]⟩ ⟨[], []⟩ a w) ?_ h_q rfl (le_z (by kernel_rfl)) ?_
 ·
  clear h
  intro s o h
  obtain ⟨rest, sg2⟩ := s
  refine ji_start ?_
  refine ji_le (E' := ⟨[(0, .lf (.val (.func (.yield l) #[] #[]))), (4, kI rv), (5, .sl Rp.byte [0] rest)], []⟩) (fun _ _ _ hs => hs) ?_
  replace h : run_values_1_b1 kf rv rest sg2 = some o := h
  unfold run_values_1_b1 at h
  refine ji_rz ⟨[(0, .lf (.val (.func (.yield l) #[] #[]))), (4, kI rv), (5, .sl Rp.byte [0] rest), (17, kB (decide ((rest.length : Int) > 0)))], []⟩ (by kernel_rfl) ?_
  rcases ite_some h with ⟨hc2, h⟩ | ⟨hc2, h⟩
  ·
   refine ji_condT rfl hc2 ?_
   refine ji_block ?_
   obtain ⟨rv2, h_rv2, h⟩ := bnd h
   refine ji_region ⟨[(0, .lf (.val (.func (.yield l) #[] #[]))), (4, kI rv), (5, .sl Rp.byte [0] rest), (6, kI rv2.1), (7, k8 rv2.2)], []⟩ (ro_oz 2 [kI rv, .sl Rp.byte [0] rest] rfl (lo_call [kI rv, .sl Rp.byte [0] rest] [0] 10 rfl Try.call24 (run_first_ok h_rv2) rfl rfl rfl rfl rfl) rfl (by kernel_rfl)) ?_
   obtain ⟨v3, h_v3, h⟩ := bnd h
   obtain ⟨y2, h_y2, h⟩ := bnd h
   refine ji_yield (E' := ⟨[(0, .lf (.val (.func (.yield l) #[] #[]))), (4, kI rv), (5, .sl Rp.byte [0] rest), (6, kI rv2.1), (34, kB ((!y2.1) || (rv2.2 != 0)))], []⟩) (x := (v3, rv2.2)) (b := y2.1) (s' := y2.2) 5 (some 29) [.tmp 27, .tmp 28] [.sl Rp.byte [0] v3, k8 rv2.2] [.sl Rp.byte [0] v3, k8 rv2.2] ⟨[(0, .lf (.val (.func (.yield l) #[] #[]))), (4, kI rv), (5, .sl Rp.byte [0] rest), (6, kI rv2.1), (7, k8 rv2.2), (24, .lf (.val (.func (.yield l) #[] #[]))), (27, .sl Rp.byte [0] v3), (28, k8 rv2.2)], []⟩ hT rfl rfl rfl rfl rfl (ro_oz 3 [.sl Rp.byte [0] rest, kI rv2.1] rfl (lo_cut none (some (kI rv2.1)) rfl zet22.el (isSl_sl _ _ _) ⟨rfl, rfl⟩ ⟨rfl, rfl⟩ h_v3) rfl (by kernel_rfl)) rfl ⟨rfl, ⟨rfl, trivial⟩⟩ rfl ⟨AV.le_refl _, AV.le_refl _, trivial⟩ rfl rfl h_y2 ?_ ?_
   ·
    refine (ro_sp 2 31 (!y2.1) ⟨[(0, .lf (.val (.func (.yield l) #[] #[]))), (4, kI rv), (5, .sl Rp.byte [0] rest), (6, kI rv2.1), (7, k8 rv2.2), (31, kB (!y2.1))], []⟩ (by kernel_rfl) rfl (fun hc3 => ?_) (fun hc3 => ?_))
    · exact (ro_zb 34 true ((!y2.1) || (rv2.2 != 0)) (by rw [hc3] <;> rfl) (by kernel_rfl) (by kernel_rfl))
    exact (ro_zb 34 (rv2.2 != 0) ((!y2.1) || (rv2.2 != 0)) (by rw [hc3] <;> rfl) (by kernel_rfl) (by kernel_rfl))
   rcases ite_some h with ⟨hc4, h⟩ | ⟨hc4, h⟩
   ·
    refine ji_condT rfl hc4 ?_
    obtain rfl := sj h
    exact je_ret' (le_z (by kernel_rfl))
   refine ji_condF rfl hc4 ?_
   obtain ⟨v5, h_v5, h⟩ := bnd h
   refine ji_region ⟨[(0, .lf (.val (.func (.yield l) #[] #[]))), (4, kI rv), (5, .sl Rp.byte [0] v5)], []⟩ (ro_oz 2 [.sl Rp.byte [0] rest, kI rv2.1] rfl (lo_cut (some (kI rv2.1)) none rfl zet22.el (isSl_sl _ _ _) ⟨rfl, rfl⟩ ⟨rfl, rfl⟩ h_v5) rfl (by kernel_rfl)) ?_
   refine ji_end ?_
   obtain rfl := sj h
   exact je_nil (le_z (by kernel_rfl))
  refine ji_condF rfl hc2 ?_
  obtain rfl := sj h
  exact je_out' rfl (le_z (by kernel_rfl))
 rcases q with u | u2
 ·
  refine k_exit _ rfl ?_
  obtain rfl := sj h
  exact je_itn (le_z (by kernel_rfl))
 obtain rfl := sj h
 exact ke_itr (le_z (by kernel_rfl))
theorem run_Pack_ok {k : Int} {l : (List Int)} {r : ((List UInt8) × Int)} (h : run_Pack k l = some r) : FnOk Try.prog 16 [kI k, .sl (Rp.int .u64) [0] l] [.own Rp.byte 5 2 [] r.1, k8 r.2] := by
 refine fn_intro' (E := ⟨[(4, .own Rp.byte 5 2 [] r.1), (5, k8 r.2)], []⟩) 31 Try.func16 rfl rfl rfl ⟨rfl, rfl, trivial⟩ (fun Xt => ?_)
 refine ji_start ?_
 refine ji_le (E' := ⟨[(0, kI k), (1, .sl (Rp.int .u64) [0] l)], []⟩) (fun _ _ _ hs => hs) ?_
 unfold run_Pack at h
 refine ji_rz ⟨[(0, kI k), (1, .sl (Rp.int .u64) [0] l)], []⟩ (by kernel_rfl) ?_
 obtain ⟨rv, h_rv, h⟩ := bnd h
 refine ji_region ⟨[(0, kI k), (1, .sl (Rp.int .u64) [0] l), (13, kB (rv == 0))], []⟩ (ro_oz 1 [kI k] rfl (lo_call [kI k] [1] 12 rfl Try.call25 (run_width_ok h_rv) rfl rfl rfl rfl rfl) rfl (by kernel_rfl)) ?_
 rcases ite_some h with ⟨hc1, h⟩ | ⟨hc1, h⟩
 ·
  refine ji_condT rfl hc1 ?_
  refine ji_rz ⟨[(4, kN), (5, k8 2)], []⟩ (by kernel_rfl) ?_
  obtain rfl := sj h
  refine je_ret ?_
  refine le_at 4 (.own Rp.byte 5 2 [] (([], 2) : ((List UInt8) × Int)).1) rfl (le_own_nil Rp.byte 5 2 [] rfl) ?_
  exact le_z (by kernel_rfl)
 refine ji_condF rfl hc1 ?_
 refine ji_rz ⟨[(0, kI k), (1, .sl (Rp.int .u64) [0] l), (6, kN)], []⟩ (by kernel_rfl) ?_
 refine ji_rz ⟨[(0, kI k), (6, kN), (14, .sl (Rp.int .u64) [0] l), (15, kI (l.length : Int)), (16, kI 0)], []⟩ (by kernel_rfl) ?_
 refine ji_block ?_
 obtain ⟨q, h_q, h⟩ := bnd h
 refine je_loop (fun s : ((List UInt8) × Int) => run_Pack_b1 k l s.1 s.2) (fun s => ⟨[(0, kI k), (6, .own Rp.byte 5 16 [] s.1), (14, .sl (Rp.int .u64) [0] l), (15, kI (l.length : Int)), (16, kI s.2)], []⟩) (fun o e a w => e = .exit 0 ∧ Sx ⟨⟨31, []⟩, Xt, false, #[]⟩ ⟨[(6, .own Rp.byte 5 16 [] o)], []⟩ a w) ?_ h_q ?_ ?_
 ·
  clear h
  intro s o h
  obtain ⟨b, v⟩ := s
  refine ji_start ?_
  refine ji_le (E' := ⟨[(0, kI k), (6, .own Rp.byte 5 16 [] b), (14, .sl (Rp.int .u64) [0] l), (15, kI (l.length : Int)), (16, kI v)], []⟩) (fun _ _ _ hs => hs) ?_
  replace h : run_Pack_b1 k l b v = some o := h
  unfold run_Pack_b1 at h
  refine ji_rz ⟨[(0, kI k), (6, .own Rp.byte 5 16 [] b), (14, .sl (Rp.int .u64) [0] l), (15, kI (l.length : Int)), (16, kI v), (17, kB (decide (v < (l.length : Int))))], []⟩ (by kernel_rfl) ?_
  rcases ite_some h with ⟨hc2, h⟩ | ⟨hc2, h⟩
  ·
   refine ji_condT rfl hc2 ?_
   refine ji_block ?_
   obtain ⟨x, h_x, h⟩ := bnd h
   refine ji_region ⟨[(0, kI k), (6, .own Rp.byte 5 16 [] b), (8, kU x), (14, .sl (Rp.int .u64) [0] l), (15, kI (l.length : Int)), (16, kI v)], []⟩ (ro_oz 0 [.sl (Rp.int .u64) [0] l, kI v] rfl (lo_ix rfl zet24.el (isSl_sl _ _ _) h_x) rfl (by kernel_rfl)) ?_
   obtain ⟨rv2, h_rv2, h⟩ := bnd h
   refine ji_region ⟨[(0, kI k), (6, .own Rp.byte 5 16 [] b), (9, .own Rp.byte 5 17 [] rv2.1), (14, .sl (Rp.int .u64) [0] l), (15, kI (l.length : Int)), (16, kI v)], []⟩ (ro_oz 2 [kI k, kU x] rfl (lo_call [kI k, kU x] [1] 15 rfl Try.call28 (scalar_Put_ok h_rv2) rfl rfl rfl rfl rfl) rfl (by kernel_rfl)) ?_
   obtain ⟨v2, h_v2, h⟩ := bnd h
   refine ji_region ⟨[(0, kI k), (6, .own Rp.byte 5 16 [] v2), (14, .sl (Rp.int .u64) [0] l), (15, kI (l.length : Int)), (16, kI v)], []⟩ (ro_oz 2 [.own Rp.byte 5 16 [] b, .own Rp.byte 5 17 [] rv2.1] rfl (lo_app 16 [] rfl zet22.el rfl (isOwn_own _ _ _ _ _) (isSl_own _ _ _ _ _) h_v2 (.inl plain_byte) rfl) rfl (by kernel_rfl)) ?_
   refine ji_end ?_
   refine ji_rz ⟨[(0, kI k), (6, .own Rp.byte 5 16 [] v2), (14, .sl (Rp.int .u64) [0] l), (15, kI (l.length : Int)), (16, kI (IntKind.i64.wrap (v + 1)))], []⟩ (by kernel_rfl) ?_
   obtain rfl := sj h
   exact je_nil (le_z (by kernel_rfl))
  refine ji_condF rfl hc2 ?_
  obtain rfl := sj h
  exact je_out' rfl (le_z (by kernel_rfl))
 ·
  refine le_at 6 (.own Rp.byte 5 16 [] []) rfl (le_own_nil Rp.byte 5 16 [] rfl) ?_
  exact le_z (by kernel_rfl)
 refine k_exit _ rfl ?_
 refine ji_rz ⟨[(4, .own Rp.byte 5 16 [] q), (5, k8 0)], []⟩ (by kernel_rfl) ?_
 obtain rfl := sj h
 refine je_ret ?_
 refine le_px ⟨[(4, .own Rp.byte 5 16 [] q), (5, k8 0)], []⟩ (by kernel_rfl) (le_rn 16 2 rfl (le_px ⟨[(4, .own Rp.byte 5 2 [] q), (5, k8 0)], []⟩ (by kernel_rfl) ?_))
 exact le_z (by kernel_rfl)
theorem run_values_ok {k : Int} {b : (List UInt8)} {r : (Int × (List UInt8))} (h : run_values k b = some r) : FnOk Try.prog 20 [kI k, .sl Rp.byte [0] b] [.fv 31 [.bp (Rp.int .i64) 3 903100 [] r.1, .bp (Rp.list Rp.byte) 22 903101 [0] r.2]] := by
 refine fn_intro' (E := ⟨[(4, .fv 31 [.bp (Rp.int .i64) 3 903100 [] r.1, .bp (Rp.list Rp.byte) 22 903101 [0] r.2])], []⟩) 6 Try.func20 rfl rfl rfl ⟨rfl, trivial⟩ (fun Xt => ?_)
 refine ji_start ?_
 refine ji_le (E' := ⟨[(0, kI k), (1, .sl Rp.byte [0] b)], []⟩) (fun _ _ _ hs => hs) ?_
 unfold run_values at h
 refine ji_region ⟨[(2, .ptr 903100 0), (3, .ptr 903101 0)], [⟨903100, 3, [kI k]⟩, ⟨903101, 22, [.sl Rp.byte [0] b]⟩]⟩ (ro_o 0 [kI k] ⟨[(1, .sl Rp.byte [0] b), (2, .ptr 903100 0)], [⟨903100, 3, [kI k]⟩]⟩ rfl (lo_box 903100 [kI k] [] rfl rfl rfl rfl rfl) rfl (by kernel_rfl) (ro_oz 0 [.sl Rp.byte [0] b] rfl (lo_box 903101 [.sl Rp.byte [0] b] [0] rfl rfl rfl rfl rfl) rfl (by kernel_rfl))) ?_
 refine ji_region ⟨[(4, .fv 31 [.bp (Rp.int .i64) 3 903100 [] k, .bp (Rp.list Rp.byte) 22 903101 [0] b])], [⟨903100, 3, [kI k]⟩, ⟨903101, 22, [.sl Rp.byte [0] b]⟩]⟩ (ro_obz 0 [.ptr 903100 0, .ptr 903101 0] [⟨903100, 3, [kI k]⟩, ⟨903101, 22, [.sl Rp.byte [0] b]⟩] rfl (lo_mkfn (g := 31) [.tmp 2, .tmp 3] [⟨903100, 3, [kI k]⟩, ⟨903101, 22, [.sl Rp.byte [0] b]⟩] [.bp (Rp.int .i64) 3 903100 [] k, .bp (Rp.list Rp.byte) 22 903101 [0] b] rfl ⟨⟨rfl, rfl, rfl, rfl⟩, ⟨rfl, rfl, rfl, rfl⟩, trivial⟩ rfl) rfl rfl (by kernel_rfl)) ?_
 obtain rfl := sj h
 exact je_ret (le_z (by kernel_rfl))
theorem run_Words_ok {k : Int} {b : (List UInt8)} {r : ((List Int) × Int)} (h : run_Words k b = some r) : FnOk Try.prog 8 [kI k, .sl Rp.byte [0] b] [.own (Rp.int .u64) 32 3 [] r.1, k8 r.2] := by
 refine fn_introM (E := ⟨[(4, .ptr 2 0), (5, .ptr 4 0)], [⟨2, 24, [.own (Rp.int .u64) 32 3 [] r.1]⟩, ⟨4, 25, [k8 r.2]⟩]⟩) 30 Try.func8 rfl rfl rfl ⟨⟨_, _, rfl, rfl, rfl, rfl⟩, ⟨_, _, rfl, rfl, rfl, rfl⟩, trivial⟩ rfl rfl (fun Xt => ?_)
 refine ji_start ?_
 refine ji_le (E' := ⟨[(0, kI k), (1, .sl Rp.byte [0] b)], []⟩) (fun _ _ _ hs => hs) ?_
 unfold run_Words at h
 refine ji_region ⟨[(1, .sl Rp.byte [0] b), (2, .ptr 18 0), (4, .ptr 19 0), (5, .ptr 20 0)], [⟨18, 3, [kI k]⟩, ⟨19, 24, [kN]⟩, ⟨20, 25, [k8 0]⟩]⟩ (ro_o 0 [kI k] ⟨[(1, .sl Rp.byte [0] b), (2, .ptr 18 0)], [⟨18, 3, [kI k]⟩]⟩ rfl (lo_box 18 [kI k] [] rfl rfl rfl rfl rfl) rfl (by kernel_rfl) (ro_o 0 [] ⟨[(1, .sl Rp.byte [0] b), (2, .ptr 18 0), (4, .ptr 19 0)], [⟨18, 3, [kI k]⟩, ⟨19, 24, [kN]⟩]⟩ rfl (lo_alloc 19 [kN] rfl Try.zeroValue24 rfl) rfl (by kernel_rfl) (ro_oz 0 [] rfl (lo_alloc 20 [k8 0] rfl Try.zeroValue25 rfl) rfl (by kernel_rfl)))) ?_
 refine ji_region ⟨[(1, .sl Rp.byte [0] b), (2, .ptr 18 0), (4, .ptr 19 0), (5, .ptr 20 0), (6, .ptr 21 0)], [⟨18, 3, [kI k]⟩, ⟨19, 24, [kN]⟩, ⟨20, 25, [k8 0]⟩, ⟨21, 24, [kN]⟩]⟩ (ro_oz 0 [] rfl (lo_alloc 21 [kN] rfl Try.zeroValue24 rfl) rfl (by kernel_rfl)) ?_
 obtain ⟨rv, h_rv, h⟩ := bnd h
 refine ji_region ⟨[(2, .ptr 18 0), (4, .ptr 19 0), (5, .ptr 20 0), (6, .ptr 21 0), (13, .fv 31 [.bp (Rp.int .i64) 3 903100 [] rv.1, .bp (Rp.list Rp.byte) 22 903101 [0] rv.2])], [⟨18, 3, [kI k]⟩, ⟨19, 24, [kN]⟩, ⟨20, 25, [k8 0]⟩, ⟨21, 24, [kN]⟩]⟩ (ro_oz 2 [kI k, .sl Rp.byte [0] b] rfl (lo_call [kI k, .sl Rp.byte [0] b] [0] 0 rfl Try.call20 (run_values_ok h_rv) rfl rfl rfl rfl rfl) rfl (by kernel_rfl)) ?_
 refine ji_block ?_
 obtain ⟨q, h_q, h⟩ := bnd h
 refine ji_le (E' := ⟨[(2, .ptr 18 0), (4, .ptr 19 0), (5, .ptr 20 0), (6, .ptr 21 0), (13, .fv 31 [.bp (Rp.int .i64) 3 903100 [] rv.1, .bp (Rp.list Rp.byte) 22 903101 [0] rv.2])], [⟨18, 3, [kI k]⟩, ⟨19, 24, [kN]⟩, ⟨20, 25, [k8 0]⟩, ⟨21, 24, [.own (Rp.int .u64) 32 24 [] []]⟩]⟩) ?_ ?_
 ·
  refine le_bt 21 0 (.own (Rp.int .u64) 32 24 [] []) rfl rfl (le_own_nil (Rp.int .u64) 32 24 [] rfl) ?_
  exact le_z (by kernel_rfl)
 refine ji_range (it := fun {σ : Type} (kf : Rnd σ ((List UInt8) × Int)) (sg : σ) => run_values_1 rv.1 rv.2 kf sg) (run_values_1_it rv.1 rv.2) [903100, 903101] [2, 4, 5, 6] [18, 19, 20, 21] [(2, .ptr 18 0), (4, .ptr 19 0), (5, .ptr 20 0), (6, .ptr 21 0)] (fun s : (List Int) => [⟨18, 3, [kI k]⟩, ⟨19, 24, [kN]⟩, ⟨20, 25, [k8 0]⟩, ⟨21, 24, [.own (Rp.int .u64) 32 24 [] s]⟩]) (fun o : (Int × (List Int)) => [⟨18, 3, [kI k]⟩, ⟨19, 24, [kN]⟩, ⟨20, 25, [k8 o.1]⟩, ⟨21, 24, [.own (Rp.int .u64) 32 24 [] o.2]⟩]) (fun o : (Int × (List Int)) => .ret) (fun (s : (List Int)) (x : ((List UInt8) × Int)) => run_Words_r1 k s x.1 x.2) (fun (s : (List Int)) (x : ((List UInt8) × Int)) => ⟨[(2, .ptr 18 0), (4, .ptr 19 0), (5, .ptr 20 0), (6, .ptr 21 0), (7, .sl Rp.byte [0] x.1), (8, k8 x.2)], [⟨18, 3, [kI k]⟩, ⟨19, 24, [kN]⟩, ⟨20, 25, [k8 0]⟩, ⟨21, 24, [.own (Rp.int .u64) 32 24 [] s]⟩]⟩) rfl rfl Try.call31 rfl rfl rfl rfl rfl rfl (fun _ => rfl) (fun o => rfl) rfl rfl (fun _ => rfl) ?_ (fun _ _ => ⟨rfl, rfl⟩) ?_ h_q ?_
 ·
  clear h
  intro Xr old f x
  obtain ⟨x, x2⟩ := x
  refine ji_start ?_
  refine ji_le (E' := ⟨[(15, k8 x2), (14, .sl Rp.byte [0] x), (2, .ptr 18 0), (4, .ptr 19 0), (5, .ptr 20 0), (6, .ptr 21 0)], [⟨18, 3, [kI k]⟩, ⟨19, 24, [kN]⟩, ⟨20, 25, [k8 0]⟩, ⟨21, 24, [.own (Rp.int .u64) 32 24 [] f]⟩]⟩) (fun _ _ _ hs => hs) ?_
  refine ji_rz ⟨[(2, .ptr 18 0), (4, .ptr 19 0), (5, .ptr 20 0), (6, .ptr 21 0), (7, .sl Rp.byte [0] x), (15, k8 x2)], [⟨18, 3, [kI k]⟩, ⟨19, 24, [kN]⟩, ⟨20, 25, [k8 0]⟩, ⟨21, 24, [.own (Rp.int .u64) 32 24 [] f]⟩]⟩ (by kernel_rfl) ?_
  refine ji_rz ⟨[(2, .ptr 18 0), (4, .ptr 19 0), (5, .ptr 20 0), (6, .ptr 21 0), (7, .sl Rp.byte [0] x), (8, k8 x2)], [⟨18, 3, [kI k]⟩, ⟨19, 24, [kN]⟩, ⟨20, 25, [k8 0]⟩, ⟨21, 24, [.own (Rp.int .u64) 32 24 [] f]⟩]⟩ (by kernel_rfl) ?_
  exact je_nil (le_z (by kernel_rfl))
 ·
  clear h
  intro Xr old f x o h
  obtain ⟨x, x2⟩ := x
  refine ji_start ?_
  refine ji_le (E' := ⟨[(2, .ptr 18 0), (4, .ptr 19 0), (5, .ptr 20 0), (6, .ptr 21 0), (7, .sl Rp.byte [0] x), (8, k8 x2)], [⟨18, 3, [kI k]⟩, ⟨19, 24, [kN]⟩, ⟨20, 25, [k8 0]⟩, ⟨21, 24, [.own (Rp.int .u64) 32 24 [] f]⟩]⟩) (fun _ _ _ hs => hs) ?_
  replace h : run_Words_r1 k f x x2 = some o := h
  unfold run_Words_r1 at h
  refine ji_block ?_
  refine ji_rz ⟨[(2, .ptr 18 0), (4, .ptr 19 0), (5, .ptr 20 0), (6, .ptr 21 0), (7, .sl Rp.byte [0] x), (8, k8 x2), (17, kB (x2 != 0))], [⟨18, 3, [kI k]⟩, ⟨19, 24, [kN]⟩, ⟨20, 25, [k8 0]⟩, ⟨21, 24, [.own (Rp.int .u64) 32 24 [] f]⟩]⟩ (by kernel_rfl) ?_
  rcases ite_some h with ⟨hc1, h⟩ | ⟨hc1, h⟩
  ·
   refine ji_condT rfl hc1 ?_
   refine ji_region ⟨[(2, .ptr 18 0), (4, .ptr 19 0), (5, .ptr 20 0), (6, .ptr 21 0)], [⟨18, 3, [kI k]⟩, ⟨19, 24, [kN]⟩, ⟨20, 25, [k8 x2]⟩, ⟨21, 24, [.own (Rp.int .u64) 32 24 [] f]⟩]⟩ (ro_ob 1 [.ptr 19 0, kN] [⟨19, 24, [kN]⟩] ⟨[(2, .ptr 18 0), (4, .ptr 19 0), (5, .ptr 20 0), (6, .ptr 21 0), (18, k8 x2)], [⟨18, 3, [kI k]⟩, ⟨19, 24, [kN]⟩, ⟨20, 25, [k8 0]⟩, ⟨21, 24, [.own (Rp.int .u64) 32 24 [] f]⟩]⟩ rfl (lo_st1 (b := ⟨19, 24, [kN]⟩) (off := 0) rfl Try.sizeOf24 rfl rfl rfl) rfl rfl (by kernel_rfl) (ro_obz 0 [.ptr 20 0, k8 x2] [⟨20, 25, [k8 0]⟩] rfl (lo_st1 (b := ⟨20, 25, [k8 0]⟩) (off := 0) rfl Try.sizeOf25 rfl rfl rfl) rfl rfl (by kernel_rfl))) ?_
   obtain rfl := sj h
   exact je_retR (le_z (by kernel_rfl))
  refine ji_condF rfl hc1 ?_
  obtain ⟨rv2, h_rv2, h⟩ := bnd h
  refine ji_region ⟨[(2, .ptr 18 0), (4, .ptr 19 0), (5, .ptr 20 0), (6, .ptr 21 0), (9, kU rv2.1)], [⟨18, 3, [kI k]⟩, ⟨19, 24, [kN]⟩, ⟨20, 25, [k8 0]⟩, ⟨21, 24, [.own (Rp.int .u64) 32 24 [] f]⟩]⟩ (ro_oz 2 [kI k, .sl Rp.byte [0] x] rfl (lo_call [kI k, .sl Rp.byte [0] x] [0] 23 rfl Try.call21 (scalar_Read_ok h_rv2) rfl rfl rfl rfl rfl) rfl (by kernel_rfl)) ?_
  obtain ⟨v, h_v, h⟩ := bnd h
  refine ji_region ⟨[(2, .ptr 18 0), (4, .ptr 19 0), (5, .ptr 20 0), (6, .ptr 21 0)], [⟨18, 3, [kI k]⟩, ⟨19, 24, [kN]⟩, ⟨20, 25, [k8 0]⟩, ⟨21, 24, [.own (Rp.int .u64) 32 24 [] v]⟩]⟩ (ro_o 2 [kU rv2.1] ⟨[(2, .ptr 18 0), (4, .ptr 19 0), (5, .ptr 20 0), (6, .ptr 21 0), (25, .own (Rp.int .u64) 32 24 [] f), (27, .own (Rp.int .u64) 32 25 [] ([rv2.1] : (List Int)))], [⟨18, 3, [kI k]⟩, ⟨19, 24, [kN]⟩, ⟨20, 25, [k8 0]⟩, ⟨21, 24, [.own (Rp.int .u64) 32 24 [] f]⟩]⟩ rfl (lo_bsl [kU rv2.1] 25 [] ([rv2.1] : (List Int)) rfl zet24 rfl rfl rfl rfl) rfl (by kernel_rfl) (ro_o 0 [.own (Rp.int .u64) 32 24 [] f, .own (Rp.int .u64) 32 25 [] ([rv2.1] : (List Int))] ⟨[(2, .ptr 18 0), (4, .ptr 19 0), (5, .ptr 20 0), (6, .ptr 21 0), (28, .own (Rp.int .u64) 32 24 [] v)], [⟨18, 3, [kI k]⟩, ⟨19, 24, [kN]⟩, ⟨20, 25, [k8 0]⟩, ⟨21, 24, [.any]⟩]⟩ rfl (lo_app 24 [] rfl zet24.el rfl (isOwn_own _ _ _ _ _) (isSl_own _ _ _ _ _) h_v (.inl (plain_int _)) rfl) rfl (by kernel_rfl) (ro_obz 0 [.ptr 21 0, .own (Rp.int .u64) 32 24 [] v] [⟨21, 24, [.any]⟩] rfl (lo_st1 (b := ⟨21, 24, [.any]⟩) (off := 0) rfl Try.sizeOf24 rfl rfl rfl) rfl rfl (by kernel_rfl)))) ?_
  refine ji_end ?_
  obtain rfl := sj h
  exact je_nil (le_z (by kernel_rfl))
 rcases q with u | j
 ·
  refine ji_le (E' := ⟨[(2, .ptr 18 0), (4, .ptr 19 0), (5, .ptr 20 0), (6, .ptr 21 0)], [⟨18, 3, [kI k]⟩, ⟨19, 24, [kN]⟩, ⟨20, 25, [k8 0]⟩, ⟨21, 24, [.own (Rp.int .u64) 32 24 [] u]⟩]⟩) (fun _ _ _ hs => hs) ?_
  refine ji_end ?_
  refine ji_region ⟨[(4, .ptr 19 0), (5, .ptr 20 0)], [⟨19, 24, [.own (Rp.int .u64) 32 24 [] u]⟩, ⟨20, 25, [k8 0]⟩]⟩ (ro_ob 1 [.ptr 19 0, .own (Rp.int .u64) 32 24 [] u] [⟨19, 24, [kN]⟩] ⟨[(4, .ptr 19 0), (5, .ptr 20 0)], [⟨19, 24, [.own (Rp.int .u64) 32 24 [] u]⟩, ⟨20, 25, [k8 0]⟩]⟩ rfl (lo_st1 (b := ⟨19, 24, [kN]⟩) (off := 0) rfl Try.sizeOf24 rfl rfl rfl) rfl rfl (by kernel_rfl) (ro_obz 0 [.ptr 20 0, k8 0] [⟨20, 25, [k8 0]⟩] rfl (lo_st1 (b := ⟨20, 25, [k8 0]⟩) (off := 0) rfl Try.sizeOf25 rfl rfl rfl) rfl rfl (by kernel_rfl))) ?_
  obtain rfl := sj h
  refine je_ret ?_
  refine le_px ⟨[(4, .ptr 19 0), (5, .ptr 20 0)], [⟨19, 24, [.own (Rp.int .u64) 32 24 [] u]⟩, ⟨20, 25, [k8 0]⟩]⟩ (by kernel_rfl) (le_rn 19 2 rfl (le_px ⟨[(4, .ptr 2 0), (5, .ptr 20 0)], [⟨2, 24, [.own (Rp.int .u64) 32 24 [] u]⟩, ⟨20, 25, [k8 0]⟩]⟩ (by kernel_rfl) ?_))
  refine le_px ⟨[(4, .ptr 2 0), (5, .ptr 20 0)], [⟨2, 24, [.own (Rp.int .u64) 32 24 [] u]⟩, ⟨20, 25, [k8 0]⟩]⟩ (by kernel_rfl) (le_rn 20 4 rfl (le_px ⟨[(4, .ptr 2 0), (5, .ptr 4 0)], [⟨2, 24, [.own (Rp.int .u64) 32 24 [] u]⟩, ⟨4, 25, [k8 0]⟩]⟩ (by kernel_rfl) ?_))
  refine le_px ⟨[(4, .ptr 2 0), (5, .ptr 4 0)], [⟨2, 24, [.own (Rp.int .u64) 32 24 [] u]⟩, ⟨4, 25, [k8 0]⟩]⟩ (by kernel_rfl) (le_rn 24 3 rfl (le_px ⟨[(4, .ptr 2 0), (5, .ptr 4 0)], [⟨2, 24, [.own (Rp.int .u64) 32 3 [] u]⟩, ⟨4, 25, [k8 0]⟩]⟩ (by kernel_rfl) ?_))
  exact le_z (by kernel_rfl)
 refine ji_le (E' := ⟨[(2, .ptr 18 0), (4, .ptr 19 0), (5, .ptr 20 0), (6, .ptr 21 0)], [⟨18, 3, [kI k]⟩, ⟨19, 24, [kN]⟩, ⟨20, 25, [k8 j.1]⟩, ⟨21, 24, [.own (Rp.int .u64) 32 24 [] j.2]⟩]⟩) (fun _ _ _ hs => hs) ?_
 obtain rfl := sj h
 refine je_ret ?_
 refine le_px ⟨[(4, .ptr 19 0), (5, .ptr 20 0)], [⟨19, 24, [kN]⟩, ⟨20, 25, [k8 j.1]⟩]⟩ (by kernel_rfl) (le_rn 19 2 rfl (le_px ⟨[(4, .ptr 2 0), (5, .ptr 20 0)], [⟨2, 24, [kN]⟩, ⟨20, 25, [k8 j.1]⟩]⟩ (by kernel_rfl) ?_))
 refine le_px ⟨[(4, .ptr 2 0), (5, .ptr 20 0)], [⟨2, 24, [kN]⟩, ⟨20, 25, [k8 j.1]⟩]⟩ (by kernel_rfl) (le_rn 20 4 rfl (le_px ⟨[(4, .ptr 2 0), (5, .ptr 4 0)], [⟨2, 24, [kN]⟩, ⟨4, 25, [k8 j.1]⟩]⟩ (by kernel_rfl) ?_))
 refine le_bt 2 0 (.own (Rp.int .u64) 32 3 [] (([], j.1) : ((List Int) × Int)).1) rfl rfl (le_own_nil (Rp.int .u64) 32 3 [] rfl) ?_
 exact le_z (by kernel_rfl)
theorem run_Count_ok {k : Int} {b : (List UInt8)} {r : (Int × Int)} (h : run_Count k b = some r) : FnOk Try.prog 10 [kI k, .sl Rp.byte [0] b] [kI r.1, k8 r.2] := by
 refine fn_introM (E := ⟨[(4, .ptr 2 0), (5, .ptr 3 0)], [⟨2, 3, [kI r.1]⟩, ⟨3, 25, [k8 r.2]⟩]⟩) 20 Try.func10 rfl rfl rfl ⟨⟨_, _, rfl, rfl, rfl, rfl⟩, ⟨_, _, rfl, rfl, rfl, rfl⟩, trivial⟩ rfl rfl (fun Xt => ?_)
 refine ji_start ?_
 refine ji_le (E' := ⟨[(0, kI k), (1, .sl Rp.byte [0] b)], []⟩) (fun _ _ _ hs => hs) ?_
 unfold run_Count at h
 refine ji_region ⟨[(0, kI k), (1, .sl Rp.byte [0] b), (4, .ptr 13 0), (5, .ptr 14 0)], [⟨13, 3, [kI 0]⟩, ⟨14, 25, [k8 0]⟩]⟩ (ro_o 0 [] ⟨[(0, kI k), (1, .sl Rp.byte [0] b), (4, .ptr 13 0)], [⟨13, 3, [kI 0]⟩]⟩ rfl (lo_alloc 13 [kI 0] rfl Try.zeroValue3 rfl) rfl (by kernel_rfl) (ro_oz 0 [] rfl (lo_alloc 14 [k8 0] rfl Try.zeroValue25 rfl) rfl (by kernel_rfl))) ?_
 refine ji_region ⟨[(0, kI k), (1, .sl Rp.byte [0] b), (4, .ptr 13 0), (5, .ptr 14 0), (6, .ptr 15 0)], [⟨13, 3, [kI 0]⟩, ⟨14, 25, [k8 0]⟩, ⟨15, 3, [kI 0]⟩]⟩ (ro_o 0 [] ⟨[(0, kI k), (1, .sl Rp.byte [0] b), (4, .ptr 13 0), (5, .ptr 14 0), (6, .ptr 15 0)], [⟨13, 3, [kI 0]⟩, ⟨14, 25, [k8 0]⟩, ⟨15, 3, [kI 0]⟩]⟩ rfl (lo_alloc 15 [kI 0] rfl Try.zeroValue3 rfl) rfl (by kernel_rfl) (ro_obz 0 [.ptr 15 0, kI 0] [⟨15, 3, [kI 0]⟩] rfl (lo_st1 (b := ⟨15, 3, [kI 0]⟩) (off := 0) rfl Try.sizeOf3 rfl rfl rfl) rfl rfl (by kernel_rfl))) ?_
 obtain ⟨rv, h_rv, h⟩ := bnd h
 refine ji_region ⟨[(4, .ptr 13 0), (5, .ptr 14 0), (6, .ptr 15 0), (11, .fv 31 [.bp (Rp.int .i64) 3 903100 [] rv.1, .bp (Rp.list Rp.byte) 22 903101 [0] rv.2])], [⟨13, 3, [kI 0]⟩, ⟨14, 25, [k8 0]⟩, ⟨15, 3, [kI 0]⟩]⟩ (ro_oz 2 [kI k, .sl Rp.byte [0] b] rfl (lo_call [kI k, .sl Rp.byte [0] b] [0] 0 rfl Try.call20 (run_values_ok h_rv) rfl rfl rfl rfl rfl) rfl (by kernel_rfl)) ?_
 refine ji_block ?_
 obtain ⟨q, h_q, h⟩ := bnd h
 refine ji_le (E' := ⟨[(4, .ptr 13 0), (5, .ptr 14 0), (6, .ptr 15 0), (11, .fv 31 [.bp (Rp.int .i64) 3 903100 [] rv.1, .bp (Rp.list Rp.byte) 22 903101 [0] rv.2])], [⟨13, 3, [kI 0]⟩, ⟨14, 25, [k8 0]⟩, ⟨15, 3, [kI 0]⟩]⟩) ?_ ?_
 · exact le_z (by kernel_rfl)
 refine ji_range (it := fun {σ : Type} (kf : Rnd σ ((List UInt8) × Int)) (sg : σ) => run_values_1 rv.1 rv.2 kf sg) (run_values_1_it rv.1 rv.2) [903100, 903101] [4, 5, 6] [13, 14, 15] [(4, .ptr 13 0), (5, .ptr 14 0), (6, .ptr 15 0)] (fun s : Int => [⟨13, 3, [kI 0]⟩, ⟨14, 25, [k8 0]⟩, ⟨15, 3, [kI s]⟩]) (fun o : (Int × Int) => [⟨13, 3, [kI 0]⟩, ⟨14, 25, [k8 o.1]⟩, ⟨15, 3, [kI o.2]⟩]) (fun o : (Int × Int) => .ret) (fun (s : Int) (x : ((List UInt8) × Int)) => run_Count_r1 s x.1 x.2) (fun (s : Int) (x : ((List UInt8) × Int)) => ⟨[(4, .ptr 13 0), (5, .ptr 14 0), (6, .ptr 15 0), (8, k8 x.2)], [⟨13, 3, [kI 0]⟩, ⟨14, 25, [k8 0]⟩, ⟨15, 3, [kI s]⟩]⟩) rfl rfl Try.call31 rfl rfl rfl rfl rfl rfl (fun _ => rfl) (fun o => rfl) rfl rfl (fun _ => rfl) ?_ (fun _ _ => ⟨rfl, rfl⟩) ?_ h_q ?_
 ·
  clear h
  intro Xr old f x
  obtain ⟨x, x2⟩ := x
  refine ji_start ?_
  refine ji_le (E' := ⟨[(13, k8 x2), (12, .sl Rp.byte [0] x), (4, .ptr 13 0), (5, .ptr 14 0), (6, .ptr 15 0)], [⟨13, 3, [kI 0]⟩, ⟨14, 25, [k8 0]⟩, ⟨15, 3, [kI f]⟩]⟩) (fun _ _ _ hs => hs) ?_
  refine ji_rz ⟨[(4, .ptr 13 0), (5, .ptr 14 0), (6, .ptr 15 0), (8, k8 x2)], [⟨13, 3, [kI 0]⟩, ⟨14, 25, [k8 0]⟩, ⟨15, 3, [kI f]⟩]⟩ (by kernel_rfl) ?_
  exact je_nil (le_z (by kernel_rfl))
 ·
  clear h
  intro Xr old f x o h
  obtain ⟨x, x2⟩ := x
  refine ji_start ?_
  refine ji_le (E' := ⟨[(4, .ptr 13 0), (5, .ptr 14 0), (6, .ptr 15 0), (8, k8 x2)], [⟨13, 3, [kI 0]⟩, ⟨14, 25, [k8 0]⟩, ⟨15, 3, [kI f]⟩]⟩) (fun _ _ _ hs => hs) ?_
  replace h : run_Count_r1 f x x2 = some o := h
  unfold run_Count_r1 at h
  refine ji_block ?_
  refine ji_rz ⟨[(4, .ptr 13 0), (5, .ptr 14 0), (6, .ptr 15 0), (8, k8 x2), (15, kB (x2 != 0))], [⟨13, 3, [kI 0]⟩, ⟨14, 25, [k8 0]⟩, ⟨15, 3, [kI f]⟩]⟩ (by kernel_rfl) ?_
  rcases ite_some h with ⟨hc1, h⟩ | ⟨hc1, h⟩
  ·
   refine ji_condT rfl hc1 ?_
   refine ji_region ⟨[(4, .ptr 13 0), (5, .ptr 14 0), (6, .ptr 15 0)], [⟨13, 3, [kI 0]⟩, ⟨14, 25, [k8 x2]⟩, ⟨15, 3, [kI f]⟩]⟩ (ro_ob 1 [.ptr 13 0, kI 0] [⟨13, 3, [kI 0]⟩] ⟨[(4, .ptr 13 0), (5, .ptr 14 0), (6, .ptr 15 0), (16, k8 x2)], [⟨13, 3, [kI 0]⟩, ⟨14, 25, [k8 0]⟩, ⟨15, 3, [kI f]⟩]⟩ rfl (lo_st1 (b := ⟨13, 3, [kI 0]⟩) (off := 0) rfl Try.sizeOf3 rfl rfl rfl) rfl rfl (by kernel_rfl) (ro_obz 0 [.ptr 14 0, k8 x2] [⟨14, 25, [k8 0]⟩] rfl (lo_st1 (b := ⟨14, 25, [k8 0]⟩) (off := 0) rfl Try.sizeOf25 rfl rfl rfl) rfl rfl (by kernel_rfl))) ?_
   obtain rfl := sj h
   exact je_retR (le_z (by kernel_rfl))
  refine ji_condF rfl hc1 ?_
  refine ji_region ⟨[(4, .ptr 13 0), (5, .ptr 14 0), (6, .ptr 15 0)], [⟨13, 3, [kI 0]⟩, ⟨14, 25, [k8 0]⟩, ⟨15, 3, [kI (IntKind.i64.wrap (f + 1))]⟩]⟩ (ro_obz 2 [.ptr 15 0, kI (IntKind.i64.wrap (f + 1))] [⟨15, 3, [kI f]⟩] rfl (lo_st1 (b := ⟨15, 3, [kI f]⟩) (off := 0) rfl Try.sizeOf3 rfl rfl rfl) rfl rfl (by kernel_rfl)) ?_
  refine ji_end ?_
  obtain rfl := sj h
  exact je_nil (le_z (by kernel_rfl))
 rcases q with u | j
 ·
  refine ji_le (E' := ⟨[(4, .ptr 13 0), (5, .ptr 14 0), (6, .ptr 15 0)], [⟨13, 3, [kI 0]⟩, ⟨14, 25, [k8 0]⟩, ⟨15, 3, [kI u]⟩]⟩) (fun _ _ _ hs => hs) ?_
  refine ji_end ?_
  refine ji_region ⟨[(4, .ptr 13 0), (5, .ptr 14 0)], [⟨13, 3, [kI u]⟩, ⟨14, 25, [k8 0]⟩]⟩ (ro_ob 1 [.ptr 13 0, kI u] [⟨13, 3, [kI 0]⟩] ⟨[(4, .ptr 13 0), (5, .ptr 14 0)], [⟨13, 3, [kI u]⟩, ⟨14, 25, [k8 0]⟩]⟩ rfl (lo_st1 (b := ⟨13, 3, [kI 0]⟩) (off := 0) rfl Try.sizeOf3 rfl rfl rfl) rfl rfl (by kernel_rfl) (ro_obz 0 [.ptr 14 0, k8 0] [⟨14, 25, [k8 0]⟩] rfl (lo_st1 (b := ⟨14, 25, [k8 0]⟩) (off := 0) rfl Try.sizeOf25 rfl rfl rfl) rfl rfl (by kernel_rfl))) ?_
  obtain rfl := sj h
  refine je_ret ?_
  refine le_px ⟨[(4, .ptr 13 0), (5, .ptr 14 0)], [⟨13, 3, [kI u]⟩, ⟨14, 25, [k8 0]⟩]⟩ (by kernel_rfl) (le_rn 13 2 rfl (le_px ⟨[(4, .ptr 2 0), (5, .ptr 14 0)], [⟨2, 3, [kI u]⟩, ⟨14, 25, [k8 0]⟩]⟩ (by kernel_rfl) ?_))
  refine le_px ⟨[(4, .ptr 2 0), (5, .ptr 14 0)], [⟨2, 3, [kI u]⟩, ⟨14, 25, [k8 0]⟩]⟩ (by kernel_rfl) (le_rn 14 3 rfl (le_px ⟨[(4, .ptr 2 0), (5, .ptr 3 0)], [⟨2, 3, [kI u]⟩, ⟨3, 25, [k8 0]⟩]⟩ (by kernel_rfl) ?_))
  exact le_z (by kernel_rfl)
 refine ji_le (E' := ⟨[(4, .ptr 13 0), (5, .ptr 14 0), (6, .ptr 15 0)], [⟨13, 3, [kI 0]⟩, ⟨14, 25, [k8 j.1]⟩, ⟨15, 3, [kI j.2]⟩]⟩) (fun _ _ _ hs => hs) ?_
 obtain rfl := sj h
 refine je_ret ?_
 refine le_px ⟨[(4, .ptr 13 0), (5, .ptr 14 0)], [⟨13, 3, [kI 0]⟩, ⟨14, 25, [k8 j.1]⟩]⟩ (by kernel_rfl) (le_rn 13 2 rfl (le_px ⟨[(4, .ptr 2 0), (5, .ptr 14 0)], [⟨2, 3, [kI 0]⟩, ⟨14, 25, [k8 j.1]⟩]⟩ (by kernel_rfl) ?_))
 refine le_px ⟨[(4, .ptr 2 0), (5, .ptr 14 0)], [⟨2, 3, [kI 0]⟩, ⟨14, 25, [k8 j.1]⟩]⟩ (by kernel_rfl) (le_rn 14 3 rfl (le_px ⟨[(4, .ptr 2 0), (5, .ptr 3 0)], [⟨2, 3, [kI 0]⟩, ⟨3, 25, [k8 j.1]⟩]⟩ (by kernel_rfl) ?_))
 exact le_z (by kernel_rfl)
theorem run_behind_ok {k : Int} {b : (List UInt8)} {n : Int} {r : (Int × Int)} (h : run_behind k b n = some r) : FnOk Try.prog 23 [kI k, .sl Rp.byte [0] b, kI n] [kI r.1, k8 r.2] := by
 refine fn_introM (E := ⟨[(6, .ptr 2 0), (7, .ptr 3 0)], [⟨2, 3, [kI r.1]⟩, ⟨3, 25, [k8 r.2]⟩]⟩) 37 Try.func23 rfl rfl rfl ⟨⟨_, _, rfl, rfl, rfl, rfl⟩, ⟨_, _, rfl, rfl, rfl, rfl⟩, trivial⟩ rfl rfl (fun Xt => ?_)
 refine ji_start ?_
 refine ji_le (E' := ⟨[(0, kI k), (1, .sl Rp.byte [0] b), (2, kI n)], []⟩) (fun _ _ _ hs => hs) ?_
 unfold run_behind at h
 refine ji_region ⟨[(0, kI k), (1, .sl Rp.byte [0] b), (5, .ptr 14 0), (6, .ptr 15 0), (7, .ptr 16 0)], [⟨14, 3, [kI n]⟩, ⟨15, 3, [kI 0]⟩, ⟨16, 25, [k8 0]⟩]⟩ (ro_o 0 [kI n] ⟨[(0, kI k), (1, .sl Rp.byte [0] b), (5, .ptr 14 0)], [⟨14, 3, [kI n]⟩]⟩ rfl (lo_box 14 [kI n] [] rfl rfl rfl rfl rfl) rfl (by kernel_rfl) (ro_o 0 [] ⟨[(0, kI k), (1, .sl Rp.byte [0] b), (5, .ptr 14 0), (6, .ptr 15 0)], [⟨14, 3, [kI n]⟩, ⟨15, 3, [kI 0]⟩]⟩ rfl (lo_alloc 15 [kI 0] rfl Try.zeroValue3 rfl) rfl (by kernel_rfl) (ro_oz 0 [] rfl (lo_alloc 16 [k8 0] rfl Try.zeroValue25 rfl) rfl (by kernel_rfl)))) ?_
 refine ji_region ⟨[(0, kI k), (1, .sl Rp.byte [0] b), (5, .ptr 14 0), (6, .ptr 15 0), (7, .ptr 16 0), (8, .ptr 17 0), (9, .ptr 18 0)], [⟨14, 3, [kI n]⟩, ⟨15, 3, [kI 0]⟩, ⟨16, 25, [k8 0]⟩, ⟨17, 3, [kI 0]⟩, ⟨18, 3, [kI 0]⟩]⟩ (ro_o 0 [] ⟨[(0, kI k), (1, .sl Rp.byte [0] b), (5, .ptr 14 0), (6, .ptr 15 0), (7, .ptr 16 0), (8, .ptr 17 0)], [⟨14, 3, [kI n]⟩, ⟨15, 3, [kI 0]⟩, ⟨16, 25, [k8 0]⟩, ⟨17, 3, [kI 0]⟩]⟩ rfl (lo_alloc 17 [kI 0] rfl Try.zeroValue3 rfl) rfl (by kernel_rfl) (ro_o 0 [] ⟨[(0, kI k), (1, .sl Rp.byte [0] b), (5, .ptr 14 0), (6, .ptr 15 0), (7, .ptr 16 0), (8, .ptr 17 0), (9, .ptr 18 0)], [⟨14, 3, [kI n]⟩, ⟨15, 3, [kI 0]⟩, ⟨16, 25, [k8 0]⟩, ⟨17, 3, [kI 0]⟩, ⟨18, 3, [kI 0]⟩]⟩ rfl (lo_alloc 18 [kI 0] rfl Try.zeroValue3 rfl) rfl (by kernel_rfl) (ro_ob 0 [.ptr 17 0, kI 0] [⟨17, 3, [kI 0]⟩] ⟨[(0, kI k), (1, .sl Rp.byte [0] b), (5, .ptr 14 0), (6, .ptr 15 0), (7, .ptr 16 0), (8, .ptr 17 0), (9, .ptr 18 0)], [⟨14, 3, [kI n]⟩, ⟨15, 3, [kI 0]⟩, ⟨16, 25, [k8 0]⟩, ⟨17, 3, [kI 0]⟩, ⟨18, 3, [kI 0]⟩]⟩ rfl (lo_st1 (b := ⟨17, 3, [kI 0]⟩) (off := 0) rfl Try.sizeOf3 rfl rfl rfl) rfl rfl (by kernel_rfl) (ro_obz 0 [.ptr 18 0, kI 0] [⟨18, 3, [kI 0]⟩] rfl (lo_st1 (b := ⟨18, 3, [kI 0]⟩) (off := 0) rfl Try.sizeOf3 rfl rfl rfl) rfl rfl (by kernel_rfl))))) ?_
 obtain ⟨rv, h_rv, h⟩ := bnd h
 refine ji_region ⟨[(5, .ptr 14 0), (6, .ptr 15 0), (7, .ptr 16 0), (8, .ptr 17 0), (9, .ptr 18 0), (14, .fv 31 [.bp (Rp.int .i64) 3 903100 [] rv.1, .bp (Rp.list Rp.byte) 22 903101 [0] rv.2])], [⟨14, 3, [kI n]⟩, ⟨15, 3, [kI 0]⟩, ⟨16, 25, [k8 0]⟩, ⟨17, 3, [kI 0]⟩, ⟨18, 3, [kI 0]⟩]⟩ (ro_oz 2 [kI k, .sl Rp.byte [0] b] rfl (lo_call [kI k, .sl Rp.byte [0] b] [0] 0 rfl Try.call20 (run_values_ok h_rv) rfl rfl rfl rfl rfl) rfl (by kernel_rfl)) ?_
 refine ji_block ?_
 obtain ⟨q, h_q, h⟩ := bnd h
 refine ji_le (E' := ⟨[(5, .ptr 14 0), (6, .ptr 15 0), (7, .ptr 16 0), (8, .ptr 17 0), (9, .ptr 18 0), (14, .fv 31 [.bp (Rp.int .i64) 3 903100 [] rv.1, .bp (Rp.list Rp.byte) 22 903101 [0] rv.2])], [⟨14, 3, [kI n]⟩, ⟨15, 3, [kI 0]⟩, ⟨16, 25, [k8 0]⟩, ⟨17, 3, [kI 0]⟩, ⟨18, 3, [kI 0]⟩]⟩) ?_ ?_
 · exact le_z (by kernel_rfl)
 refine ji_range (it := fun {σ : Type} (kf : Rnd σ ((List UInt8) × Int)) (sg : σ) => run_values_1 rv.1 rv.2 kf sg) (run_values_1_it rv.1 rv.2) [903100, 903101] [5, 6, 7, 8, 9] [14, 15, 16, 17, 18] [(5, .ptr 14 0), (6, .ptr 15 0), (7, .ptr 16 0), (8, .ptr 17 0), (9, .ptr 18 0)] (fun s : (Int × Int) => [⟨14, 3, [kI n]⟩, ⟨15, 3, [kI 0]⟩, ⟨16, 25, [k8 0]⟩, ⟨17, 3, [kI s.1]⟩, ⟨18, 3, [kI s.2]⟩]) (fun o : (Int × Int × Int) => [⟨14, 3, [kI n]⟩, ⟨15, 3, [kI 0]⟩, ⟨16, 25, [k8 o.1]⟩, ⟨17, 3, [kI o.2.1]⟩, ⟨18, 3, [kI o.2.2]⟩]) (fun o : (Int × Int × Int) => .ret) (fun (s : (Int × Int)) (x : ((List UInt8) × Int)) => run_behind_r1 n s.1 s.2 x.1 x.2) (fun (s : (Int × Int)) (x : ((List UInt8) × Int)) => ⟨[(5, .ptr 14 0), (6, .ptr 15 0), (7, .ptr 16 0), (8, .ptr 17 0), (9, .ptr 18 0), (10, .sl Rp.byte [0] x.1), (11, k8 x.2)], [⟨14, 3, [kI n]⟩, ⟨15, 3, [kI 0]⟩, ⟨16, 25, [k8 0]⟩, ⟨17, 3, [kI s.1]⟩, ⟨18, 3, [kI s.2]⟩]⟩) rfl rfl Try.call31 rfl rfl rfl rfl rfl rfl (fun _ => rfl) (fun o => rfl) rfl rfl (fun _ => rfl) ?_ (fun _ _ => ⟨rfl, rfl⟩) ?_ h_q ?_
 ·
  clear h
  intro Xr old s x
  obtain ⟨f, f2⟩ := s
  obtain ⟨x, x2⟩ := x
  refine ji_start ?_
  refine ji_le (E' := ⟨[(16, k8 x2), (15, .sl Rp.byte [0] x), (5, .ptr 14 0), (6, .ptr 15 0), (7, .ptr 16 0), (8, .ptr 17 0), (9, .ptr 18 0)], [⟨14, 3, [kI n]⟩, ⟨15, 3, [kI 0]⟩, ⟨16, 25, [k8 0]⟩, ⟨17, 3, [kI f]⟩, ⟨18, 3, [kI f2]⟩]⟩) (fun _ _ _ hs => hs) ?_
  refine ji_rz ⟨[(5, .ptr 14 0), (6, .ptr 15 0), (7, .ptr 16 0), (8, .ptr 17 0), (9, .ptr 18 0), (10, .sl Rp.byte [0] x), (16, k8 x2)], [⟨14, 3, [kI n]⟩, ⟨15, 3, [kI 0]⟩, ⟨16, 25, [k8 0]⟩, ⟨17, 3, [kI f]⟩, ⟨18, 3, [kI f2]⟩]⟩ (by kernel_rfl) ?_
  refine ji_rz ⟨[(5, .ptr 14 0), (6, .ptr 15 0), (7, .ptr 16 0), (8, .ptr 17 0), (9, .ptr 18 0), (10, .sl Rp.byte [0] x), (11, k8 x2)], [⟨14, 3, [kI n]⟩, ⟨15, 3, [kI 0]⟩, ⟨16, 25, [k8 0]⟩, ⟨17, 3, [kI f]⟩, ⟨18, 3, [kI f2]⟩]⟩ (by kernel_rfl) ?_
  exact je_nil (le_z (by kernel_rfl))
 ·
  clear h
  intro Xr old s x o h
  obtain ⟨f, f2⟩ := s
  obtain ⟨x, x2⟩ := x
  refine ji_start ?_
  refine ji_le (E' := ⟨[(5, .ptr 14 0), (6, .ptr 15 0), (7, .ptr 16 0), (8, .ptr 17 0), (9, .ptr 18 0), (10, .sl Rp.byte [0] x), (11, k8 x2)], [⟨14, 3, [kI n]⟩, ⟨15, 3, [kI 0]⟩, ⟨16, 25, [k8 0]⟩, ⟨17, 3, [kI f]⟩, ⟨18, 3, [kI f2]⟩]⟩) (fun _ _ _ hs => hs) ?_
  replace h : run_behind_r1 n f f2 x x2 = some o := h
  unfold run_behind_r1 at h
  refine ji_block ?_
  refine ji_rz ⟨[(5, .ptr 14 0), (6, .ptr 15 0), (7, .ptr 16 0), (8, .ptr 17 0), (9, .ptr 18 0), (10, .sl Rp.byte [0] x), (11, k8 x2), (18, kB (x2 != 0))], [⟨14, 3, [kI n]⟩, ⟨15, 3, [kI 0]⟩, ⟨16, 25, [k8 0]⟩, ⟨17, 3, [kI f]⟩, ⟨18, 3, [kI f2]⟩]⟩ (by kernel_rfl) ?_
  rcases ite_some h with ⟨hc1, h⟩ | ⟨hc1, h⟩
  ·
   refine ji_condT rfl hc1 ?_
   refine ji_region ⟨[(5, .ptr 14 0), (6, .ptr 15 0), (7, .ptr 16 0), (8, .ptr 17 0), (9, .ptr 18 0)], [⟨14, 3, [kI n]⟩, ⟨15, 3, [kI 0]⟩, ⟨16, 25, [k8 x2]⟩, ⟨17, 3, [kI f]⟩, ⟨18, 3, [kI f2]⟩]⟩ (ro_ob 1 [.ptr 15 0, kI 0] [⟨15, 3, [kI 0]⟩] ⟨[(5, .ptr 14 0), (6, .ptr 15 0), (7, .ptr 16 0), (8, .ptr 17 0), (9, .ptr 18 0), (19, k8 x2)], [⟨14, 3, [kI n]⟩, ⟨15, 3, [kI 0]⟩, ⟨16, 25, [k8 0]⟩, ⟨17, 3, [kI f]⟩, ⟨18, 3, [kI f2]⟩]⟩ rfl (lo_st1 (b := ⟨15, 3, [kI 0]⟩) (off := 0) rfl Try.sizeOf3 rfl rfl rfl) rfl rfl (by kernel_rfl) (ro_obz 0 [.ptr 16 0, k8 x2] [⟨16, 25, [k8 0]⟩] rfl (lo_st1 (b := ⟨16, 25, [k8 0]⟩) (off := 0) rfl Try.sizeOf25 rfl rfl rfl) rfl rfl (by kernel_rfl))) ?_
   obtain rfl := sj h
   exact je_retR (le_z (by kernel_rfl))
  refine ji_condF rfl hc1 ?_
  refine ji_rz ⟨[(5, .ptr 14 0), (6, .ptr 15 0), (7, .ptr 16 0), (8, .ptr 17 0), (9, .ptr 18 0), (10, .sl Rp.byte [0] x), (22, kB (decide (f2 < n)))], [⟨14, 3, [kI n]⟩, ⟨15, 3, [kI 0]⟩, ⟨16, 25, [k8 0]⟩, ⟨17, 3, [kI f]⟩, ⟨18, 3, [kI f2]⟩]⟩ (by kernel_rfl) ?_
  rcases ite_some h with ⟨hc2, h⟩ | ⟨hc2, h⟩
  ·
   refine ji_condT rfl hc2 ?_
   refine ji_region ⟨[(5, .ptr 14 0), (6, .ptr 15 0), (7, .ptr 16 0), (8, .ptr 17 0), (9, .ptr 18 0)], [⟨14, 3, [kI n]⟩, ⟨15, 3, [kI 0]⟩, ⟨16, 25, [k8 0]⟩, ⟨17, 3, [kI (IntKind.i64.wrap (f + (x.length : Int)))]⟩, ⟨18, 3, [kI f2]⟩]⟩ (ro_obz 4 [.ptr 17 0, kI (IntKind.i64.wrap (f + (x.length : Int)))] [⟨17, 3, [kI f]⟩] rfl (lo_st1 (b := ⟨17, 3, [kI f]⟩) (off := 0) rfl Try.sizeOf3 rfl rfl rfl) rfl rfl (by kernel_rfl)) ?_
   refine ji_region ⟨[(5, .ptr 14 0), (6, .ptr 15 0), (7, .ptr 16 0), (8, .ptr 17 0), (9, .ptr 18 0)], [⟨14, 3, [kI n]⟩, ⟨15, 3, [kI 0]⟩, ⟨16, 25, [k8 0]⟩, ⟨17, 3, [kI (IntKind.i64.wrap (f + (x.length : Int)))]⟩, ⟨18, 3, [kI (IntKind.i64.wrap (f2 + 1))]⟩]⟩ (ro_obz 2 [.ptr 18 0, kI (IntKind.i64.wrap (f2 + 1))] [⟨18, 3, [kI f2]⟩] rfl (lo_st1 (b := ⟨18, 3, [kI f2]⟩) (off := 0) rfl Try.sizeOf3 rfl rfl rfl) rfl rfl (by kernel_rfl)) ?_
   refine ji_end ?_
   obtain rfl := sj h
   exact je_nil (le_z (by kernel_rfl))
  refine ji_condF rfl hc2 ?_
  refine ji_region ⟨[(5, .ptr 14 0), (6, .ptr 15 0), (7, .ptr 16 0), (8, .ptr 17 0), (9, .ptr 18 0)], [⟨14, 3, [kI n]⟩, ⟨15, 3, [kI 0]⟩, ⟨16, 25, [k8 0]⟩, ⟨17, 3, [kI f]⟩, ⟨18, 3, [kI (IntKind.i64.wrap (f2 + 1))]⟩]⟩ (ro_obz 2 [.ptr 18 0, kI (IntKind.i64.wrap (f2 + 1))] [⟨18, 3, [kI f2]⟩] rfl (lo_st1 (b := ⟨18, 3, [kI f2]⟩) (off := 0) rfl Try.sizeOf3 rfl rfl rfl) rfl rfl (by kernel_rfl)) ?_
  refine ji_end ?_
  obtain rfl := sj h
  exact je_nil (le_z (by kernel_rfl))
 rcases q with u | j
 ·
  refine ji_le (E' := ⟨[(5, .ptr 14 0), (6, .ptr 15 0), (7, .ptr 16 0), (8, .ptr 17 0), (9, .ptr 18 0)], [⟨14, 3, [kI n]⟩, ⟨15, 3, [kI 0]⟩, ⟨16, 25, [k8 0]⟩, ⟨17, 3, [kI u.1]⟩, ⟨18, 3, [kI u.2]⟩]⟩) (fun _ _ _ hs => hs) ?_
  refine ji_end ?_
  refine ji_region ⟨[(6, .ptr 15 0), (7, .ptr 16 0), (8, .ptr 17 0), (35, kB ((decide (n < 0)) || (decide (n > u.2))))], [⟨15, 3, [kI 0]⟩, ⟨16, 25, [k8 0]⟩, ⟨17, 3, [kI u.1]⟩]⟩ ?_ ?_
  ·
   refine (ro_sp 3 31 (decide (n < 0)) ⟨[(5, .ptr 14 0), (6, .ptr 15 0), (7, .ptr 16 0), (8, .ptr 17 0), (9, .ptr 18 0), (31, kB (decide (n < 0)))], [⟨14, 3, [kI n]⟩, ⟨15, 3, [kI 0]⟩, ⟨16, 25, [k8 0]⟩, ⟨17, 3, [kI u.1]⟩, ⟨18, 3, [kI u.2]⟩]⟩ (by kernel_rfl) rfl (fun hc3 => ?_) (fun hc3 => ?_))
   · exact (ro_zb 35 true ((decide (n < 0)) || (decide (n > u.2))) (by rw [hc3] <;> rfl) (by kernel_rfl) (by kernel_rfl))
   exact (ro_zb 35 (decide (n > u.2)) ((decide (n < 0)) || (decide (n > u.2))) (by rw [hc3] <;> rfl) (by kernel_rfl) (by kernel_rfl))
  rcases ite_some h with ⟨hc4, h⟩ | ⟨hc4, h⟩
  ·
   refine ji_condT rfl hc4 ?_
   refine ji_region ⟨[(6, .ptr 15 0), (7, .ptr 16 0)], [⟨15, 3, [kI 0]⟩, ⟨16, 25, [k8 11]⟩]⟩ (ro_ob 0 [.ptr 15 0, kI 0] [⟨15, 3, [kI 0]⟩] ⟨[(6, .ptr 15 0), (7, .ptr 16 0)], [⟨15, 3, [kI 0]⟩, ⟨16, 25, [k8 0]⟩]⟩ rfl (lo_st1 (b := ⟨15, 3, [kI 0]⟩) (off := 0) rfl Try.sizeOf3 rfl rfl rfl) rfl rfl (by kernel_rfl) (ro_obz 0 [.ptr 16 0, k8 11] [⟨16, 25, [k8 0]⟩] rfl (lo_st1 (b := ⟨16, 25, [k8 0]⟩) (off := 0) rfl Try.sizeOf25 rfl rfl rfl) rfl rfl (by kernel_rfl))) ?_
   obtain rfl := sj h
   refine je_ret ?_
   refine le_px ⟨[(6, .ptr 15 0), (7, .ptr 16 0)], [⟨15, 3, [kI 0]⟩, ⟨16, 25, [k8 11]⟩]⟩ (by kernel_rfl) (le_rn 15 2 rfl (le_px ⟨[(6, .ptr 2 0), (7, .ptr 16 0)], [⟨2, 3, [kI 0]⟩, ⟨16, 25, [k8 11]⟩]⟩ (by kernel_rfl) ?_))
   refine le_px ⟨[(6, .ptr 2 0), (7, .ptr 16 0)], [⟨2, 3, [kI 0]⟩, ⟨16, 25, [k8 11]⟩]⟩ (by kernel_rfl) (le_rn 16 3 rfl (le_px ⟨[(6, .ptr 2 0), (7, .ptr 3 0)], [⟨2, 3, [kI 0]⟩, ⟨3, 25, [k8 11]⟩]⟩ (by kernel_rfl) ?_))
   exact le_z (by kernel_rfl)
  refine ji_condF rfl hc4 ?_
  refine ji_region ⟨[(6, .ptr 15 0), (7, .ptr 16 0)], [⟨15, 3, [kI u.1]⟩, ⟨16, 25, [k8 0]⟩]⟩ (ro_ob 1 [.ptr 15 0, kI u.1] [⟨15, 3, [kI 0]⟩] ⟨[(6, .ptr 15 0), (7, .ptr 16 0)], [⟨15, 3, [kI u.1]⟩, ⟨16, 25, [k8 0]⟩]⟩ rfl (lo_st1 (b := ⟨15, 3, [kI 0]⟩) (off := 0) rfl Try.sizeOf3 rfl rfl rfl) rfl rfl (by kernel_rfl) (ro_obz 0 [.ptr 16 0, k8 0] [⟨16, 25, [k8 0]⟩] rfl (lo_st1 (b := ⟨16, 25, [k8 0]⟩) (off := 0) rfl Try.sizeOf25 rfl rfl rfl) rfl rfl (by kernel_rfl))) ?_
  obtain rfl := sj h
  refine je_ret ?_
  refine le_px ⟨[(6, .ptr 15 0), (7, .ptr 16 0)], [⟨15, 3, [kI u.1]⟩, ⟨16, 25, [k8 0]⟩]⟩ (by kernel_rfl) (le_rn 15 2 rfl (le_px ⟨[(6, .ptr 2 0), (7, .ptr 16 0)], [⟨2, 3, [kI u.1]⟩, ⟨16, 25, [k8 0]⟩]⟩ (by kernel_rfl) ?_))
  refine le_px ⟨[(6, .ptr 2 0), (7, .ptr 16 0)], [⟨2, 3, [kI u.1]⟩, ⟨16, 25, [k8 0]⟩]⟩ (by kernel_rfl) (le_rn 16 3 rfl (le_px ⟨[(6, .ptr 2 0), (7, .ptr 3 0)], [⟨2, 3, [kI u.1]⟩, ⟨3, 25, [k8 0]⟩]⟩ (by kernel_rfl) ?_))
  exact le_z (by kernel_rfl)
 refine ji_le (E' := ⟨[(5, .ptr 14 0), (6, .ptr 15 0), (7, .ptr 16 0), (8, .ptr 17 0), (9, .ptr 18 0)], [⟨14, 3, [kI n]⟩, ⟨15, 3, [kI 0]⟩, ⟨16, 25, [k8 j.1]⟩, ⟨17, 3, [kI j.2.1]⟩, ⟨18, 3, [kI j.2.2]⟩]⟩) (fun _ _ _ hs => hs) ?_
 obtain rfl := sj h
 refine je_ret ?_
 refine le_px ⟨[(6, .ptr 15 0), (7, .ptr 16 0)], [⟨15, 3, [kI 0]⟩, ⟨16, 25, [k8 j.1]⟩]⟩ (by kernel_rfl) (le_rn 15 2 rfl (le_px ⟨[(6, .ptr 2 0), (7, .ptr 16 0)], [⟨2, 3, [kI 0]⟩, ⟨16, 25, [k8 j.1]⟩]⟩ (by kernel_rfl) ?_))
 refine le_px ⟨[(6, .ptr 2 0), (7, .ptr 16 0)], [⟨2, 3, [kI 0]⟩, ⟨16, 25, [k8 j.1]⟩]⟩ (by kernel_rfl) (le_rn 16 3 rfl (le_px ⟨[(6, .ptr 2 0), (7, .ptr 3 0)], [⟨2, 3, [kI 0]⟩, ⟨3, 25, [k8 j.1]⟩]⟩ (by kernel_rfl) ?_))
 exact le_z (by kernel_rfl)
theorem run_Canonical_ok {k : Int} {b : (List UInt8)} {r : Bool} (h : run_Canonical k b = some r) : FnOk Try.prog 13 [kI k, .sl Rp.byte [0] b] [kB r] := by
 refine fn_introM (E := ⟨[(4, .ptr 2 0)], [⟨2, 4, [kB r]⟩]⟩) 20 Try.func13 rfl rfl rfl ⟨⟨_, _, rfl, rfl, rfl, rfl⟩, trivial⟩ rfl rfl (fun Xt => ?_)
 refine ji_start ?_
 refine ji_le (E' := ⟨[(0, kI k), (1, .sl Rp.byte [0] b)], []⟩) (fun _ _ _ hs => hs) ?_
 unfold run_Canonical at h
 refine ji_region ⟨[(1, .sl Rp.byte [0] b), (2, .ptr 13 0), (4, .ptr 14 0)], [⟨13, 3, [kI k]⟩, ⟨14, 4, [kB false]⟩]⟩ (ro_o 0 [kI k] ⟨[(1, .sl Rp.byte [0] b), (2, .ptr 13 0)], [⟨13, 3, [kI k]⟩]⟩ rfl (lo_box 13 [kI k] [] rfl rfl rfl rfl rfl) rfl (by kernel_rfl) (ro_oz 0 [] rfl (lo_alloc 14 [kB false] rfl Try.zeroValue4 rfl) rfl (by kernel_rfl))) ?_
 obtain ⟨rv, h_rv, h⟩ := bnd h
 refine ji_region ⟨[(2, .ptr 13 0), (4, .ptr 14 0), (9, .fv 31 [.bp (Rp.int .i64) 3 903100 [] rv.1, .bp (Rp.list Rp.byte) 22 903101 [0] rv.2])], [⟨13, 3, [kI k]⟩, ⟨14, 4, [kB false]⟩]⟩ (ro_oz 2 [kI k, .sl Rp.byte [0] b] rfl (lo_call [kI k, .sl Rp.byte [0] b] [0] 0 rfl Try.call20 (run_values_ok h_rv) rfl rfl rfl rfl rfl) rfl (by kernel_rfl)) ?_
 refine ji_block ?_
 obtain ⟨q, h_q, h⟩ := bnd h
 refine ji_le (E' := ⟨[(2, .ptr 13 0), (4, .ptr 14 0), (9, .fv 31 [.bp (Rp.int .i64) 3 903100 [] rv.1, .bp (Rp.list Rp.byte) 22 903101 [0] rv.2])], [⟨13, 3, [kI k]⟩, ⟨14, 4, [kB false]⟩]⟩) ?_ ?_
 · exact le_z (by kernel_rfl)
 refine ji_range (it := fun {σ : Type} (kf : Rnd σ ((List UInt8) × Int)) (sg : σ) => run_values_1 rv.1 rv.2 kf sg) (run_values_1_it rv.1 rv.2) [903100, 903101] [2, 4] [13, 14] [(2, .ptr 13 0), (4, .ptr 14 0)] (fun s : Unit => [⟨13, 3, [kI k]⟩, ⟨14, 4, [kB false]⟩]) (fun o : Unit => [⟨13, 3, [kI k]⟩, ⟨14, 4, [kB false]⟩]) (fun o : Unit => .ret) (fun (s : Unit) (x : ((List UInt8) × Int)) => run_Canonical_r1 k x.1 x.2) (fun (s : Unit) (x : ((List UInt8) × Int)) => ⟨[(2, .ptr 13 0), (4, .ptr 14 0), (5, .sl Rp.byte [0] x.1), (6, k8 x.2)], [⟨13, 3, [kI k]⟩, ⟨14, 4, [kB false]⟩]⟩) rfl rfl Try.call31 rfl rfl rfl rfl rfl rfl (fun _ => rfl) (fun o => rfl) rfl rfl (fun _ => rfl) ?_ (fun _ _ => ⟨rfl, rfl⟩) ?_ h_q ?_
 ·
  clear h
  intro Xr old s x
  obtain ⟨x, x2⟩ := x
  refine ji_start ?_
  refine ji_le (E' := ⟨[(11, k8 x2), (10, .sl Rp.byte [0] x), (2, .ptr 13 0), (4, .ptr 14 0)], [⟨13, 3, [kI k]⟩, ⟨14, 4, [kB false]⟩]⟩) (fun _ _ _ hs => hs) ?_
  refine ji_rz ⟨[(2, .ptr 13 0), (4, .ptr 14 0), (5, .sl Rp.byte [0] x), (11, k8 x2)], [⟨13, 3, [kI k]⟩, ⟨14, 4, [kB false]⟩]⟩ (by kernel_rfl) ?_
  refine ji_rz ⟨[(2, .ptr 13 0), (4, .ptr 14 0), (5, .sl Rp.byte [0] x), (6, k8 x2)], [⟨13, 3, [kI k]⟩, ⟨14, 4, [kB false]⟩]⟩ (by kernel_rfl) ?_
  exact je_nil (le_z (by kernel_rfl))
 ·
  clear h
  intro Xr old s x o h
  obtain ⟨x, x2⟩ := x
  refine ji_start ?_
  refine ji_le (E' := ⟨[(2, .ptr 13 0), (4, .ptr 14 0), (5, .sl Rp.byte [0] x), (6, k8 x2)], [⟨13, 3, [kI k]⟩, ⟨14, 4, [kB false]⟩]⟩) (fun _ _ _ hs => hs) ?_
  replace h : run_Canonical_r1 k x x2 = some o := h
  unfold run_Canonical_r1 at h
  refine ji_block ?_
  obtain ⟨g, h_g, h⟩ := bnd h
  refine ji_region ⟨[(2, .ptr 13 0), (4, .ptr 14 0), (19, kB g)], [⟨13, 3, [kI k]⟩, ⟨14, 4, [kB false]⟩]⟩ ?_ ?_
  ·
   refine (ro_sp 3 14 (x2 != 0) ⟨[(2, .ptr 13 0), (4, .ptr 14 0), (5, .sl Rp.byte [0] x), (14, kB (x2 != 0))], [⟨13, 3, [kI k]⟩, ⟨14, 4, [kB false]⟩]⟩ (by kernel_rfl) rfl (fun hc1 => ?_) (fun hc1 => ?_))
   ·
    replace h_g := iteT h_g hc1
    obtain rfl := sj h_g
    refine ro_pe ⟨[(2, .ptr 13 0), (4, .ptr 14 0), (19, kB true)], [⟨13, 3, [kI k]⟩, ⟨14, 4, [kB false]⟩]⟩ (by kernel_rfl) ?_
    exact le_z (by kernel_rfl)
   replace h_g := iteF h_g hc1
   obtain ⟨rv2, h_rv2, h_g⟩ := bnd h_g
   obtain rfl := sj h_g
   refine (ro_o 2 [kI k, .sl Rp.byte [0] x] ⟨[(2, .ptr 13 0), (4, .ptr 14 0), (14, kB false), (17, kB rv2)], [⟨13, 3, [kI k]⟩, ⟨14, 4, [kB false]⟩]⟩ rfl (lo_call [kI k, .sl Rp.byte [0] x] [0] 14 rfl Try.call26 (scalar_Canonical_ok h_rv2) rfl rfl rfl rfl rfl) rfl (by kernel_rfl) (ro_pe ⟨[(2, .ptr 13 0), (4, .ptr 14 0), (19, kB (!rv2))], [⟨13, 3, [kI k]⟩, ⟨14, 4, [kB false]⟩]⟩ (by kernel_rfl) ?_))
   exact le_z (by kernel_rfl)
  rcases ite_some h with ⟨hc2, h⟩ | ⟨hc2, h⟩
  ·
   refine ji_condT rfl hc2 ?_
   refine ji_region ⟨[(2, .ptr 13 0), (4, .ptr 14 0)], [⟨13, 3, [kI k]⟩, ⟨14, 4, [kB false]⟩]⟩ (ro_obz 0 [.ptr 14 0, kB false] [⟨14, 4, [kB false]⟩] rfl (lo_st1 (b := ⟨14, 4, [kB false]⟩) (off := 0) rfl Try.sizeOf4 rfl rfl rfl) rfl rfl (by kernel_rfl)) ?_
   obtain rfl := sj h
   exact je_retR (le_z (by kernel_rfl))
  refine ji_condF rfl hc2 ?_
  refine ji_end ?_
  obtain rfl := sj h
  exact je_nil (le_z (by kernel_rfl))
 rcases q with u | j
 ·
  refine ji_le (E' := ⟨[(2, .ptr 13 0), (4, .ptr 14 0)], [⟨13, 3, [kI k]⟩, ⟨14, 4, [kB false]⟩]⟩) (fun _ _ _ hs => hs) ?_
  refine ji_end ?_
  refine ji_region ⟨[(4, .ptr 14 0)], [⟨14, 4, [kB true]⟩]⟩ (ro_obz 0 [.ptr 14 0, kB true] [⟨14, 4, [kB false]⟩] rfl (lo_st1 (b := ⟨14, 4, [kB false]⟩) (off := 0) rfl Try.sizeOf4 rfl rfl rfl) rfl rfl (by kernel_rfl)) ?_
  obtain rfl := sj h
  refine je_ret ?_
  refine le_px ⟨[(4, .ptr 14 0)], [⟨14, 4, [kB true]⟩]⟩ (by kernel_rfl) (le_rn 14 2 rfl (le_px ⟨[(4, .ptr 2 0)], [⟨2, 4, [kB true]⟩]⟩ (by kernel_rfl) ?_))
  exact le_z (by kernel_rfl)
 refine ji_le (E' := ⟨[(2, .ptr 13 0), (4, .ptr 14 0)], [⟨13, 3, [kI k]⟩, ⟨14, 4, [kB false]⟩]⟩) (fun _ _ _ hs => hs) ?_
 obtain rfl := sj h
 refine je_ret ?_
 refine le_px ⟨[(4, .ptr 14 0)], [⟨14, 4, [kB false]⟩]⟩ (by kernel_rfl) (le_rn 14 2 rfl (le_px ⟨[(4, .ptr 2 0)], [⟨2, 4, [kB false]⟩]⟩ (by kernel_rfl) ?_))
 exact le_z (by kernel_rfl)
end Go.Proofs.Ythkdneddbbocmaa
