/-
  The Go functions do what the plain functions say. No condition.
-/
import Derived.Test.YtfcmlcegeiphdaaT
namespace Go.Proofs.Ytfcmlcegeiphdaa
open Go Go.RowKit
set_option linter.unusedVariables false
set_option maxRecDepth 100000
theorem utf_open_ok {c : Int} {r : (Int × Int)} (h : utf_open c = some r) : FnOk Try.prog 17 [k8 c] [kI r.1, .lf (.int .u32 r.2)] := by
 refine fn_intro' (E := ⟨[(2, kI r.1), (3, .lf (.int .u32 r.2))], []⟩) 31 Try.func17 rfl rfl rfl ⟨rfl, rfl, trivial⟩ (fun w0 F => ?_)
 refine ji_start ?_
 refine ji_le (E' := ⟨[(0, k8 c)], []⟩) (fun _ _ _ hs => hs) ?_
 unfold utf_open at h
 refine ji_rz ⟨[(0, k8 c)], []⟩ (by kernel_rfl) ?_
 refine ji_block ?_
 refine ji_region ⟨[(0, k8 c), (4, kB ((shrI .u8 c 7) == 0))], []⟩ (ro_oz 1 [k8 c, kU 7] rfl (lo_shr rfl rfl) rfl (by kernel_rfl)) ?_
 rcases ite_some h with ⟨hc1, h⟩ | ⟨hc1, h⟩
 ·
  refine ji_condT rfl hc1 ?_
  refine ji_rz ⟨[(2, kI 1), (3, .lf (.int .u32 (IntKind.u32.wrap c)))], []⟩ (by kernel_rfl) ?_
  obtain rfl := sj h
  exact je_ret (le_z (by kernel_rfl))
 refine ji_condF rfl hc1 ?_
 refine ji_region ⟨[(0, k8 c), (10, kB ((shrI .u8 c 5) == 6))], []⟩ (ro_oz 1 [k8 c, kU 5] rfl (lo_shr rfl rfl) rfl (by kernel_rfl)) ?_
 rcases ite_some h with ⟨hc2, h⟩ | ⟨hc2, h⟩
 ·
  refine ji_condT rfl hc2 ?_
  refine ji_rz ⟨[(2, kI 2), (3, .lf (.int .u32 (IntKind.u32.wrap (andI .u8 c 31))))], []⟩ (by kernel_rfl) ?_
  obtain rfl := sj h
  exact je_ret (le_z (by kernel_rfl))
 refine ji_condF rfl hc2 ?_
 refine ji_region ⟨[(0, k8 c), (17, kB ((shrI .u8 c 4) == 14))], []⟩ (ro_oz 1 [k8 c, kU 4] rfl (lo_shr rfl rfl) rfl (by kernel_rfl)) ?_
 rcases ite_some h with ⟨hc3, h⟩ | ⟨hc3, h⟩
 ·
  refine ji_condT rfl hc3 ?_
  refine ji_rz ⟨[(2, kI 3), (3, .lf (.int .u32 (IntKind.u32.wrap (andI .u8 c 15))))], []⟩ (by kernel_rfl) ?_
  obtain rfl := sj h
  exact je_ret (le_z (by kernel_rfl))
 refine ji_condF rfl hc3 ?_
 refine ji_region ⟨[(0, k8 c), (24, kB ((shrI .u8 c 3) == 30))], []⟩ (ro_oz 1 [k8 c, kU 3] rfl (lo_shr rfl rfl) rfl (by kernel_rfl)) ?_
 rcases ite_some h with ⟨hc4, h⟩ | ⟨hc4, h⟩
 ·
  refine ji_condT rfl hc4 ?_
  refine ji_rz ⟨[(2, kI 4), (3, .lf (.int .u32 (IntKind.u32.wrap (andI .u8 c 7))))], []⟩ (by kernel_rfl) ?_
  obtain rfl := sj h
  exact je_ret (le_z (by kernel_rfl))
 refine ji_condF rfl hc4 ?_
 refine ji_end ?_
 refine ji_rz ⟨[(2, kI 0), (3, .lf (.int .u32 0))], []⟩ (by kernel_rfl) ?_
 obtain rfl := sj h
 exact je_ret (le_z (by kernel_rfl))
theorem utf_need_ok {wv : Int} {r : Int} (h : utf_need wv = some r) : FnOk Try.prog 18 [.lf (.int .u32 wv)] [kI r] := by
 refine fn_intro' (E := ⟨[(2, kI r)], []⟩) 22 Try.func18 rfl rfl rfl ⟨rfl, trivial⟩ (fun w0 F => ?_)
 refine ji_start ?_
 refine ji_le (E' := ⟨[(0, .lf (.int .u32 wv))], []⟩) (fun _ _ _ hs => hs) ?_
 unfold utf_need at h
 refine ji_rz ⟨[(0, .lf (.int .u32 wv))], []⟩ (by kernel_rfl) ?_
 refine ji_block ?_
 refine ji_region ⟨[(0, .lf (.int .u32 wv)), (3, kB ((shrI .u32 wv 7) == 0))], []⟩ (ro_oz 1 [.lf (.int .u32 wv), kU 7] rfl (lo_shr rfl rfl) rfl (by kernel_rfl)) ?_
 rcases ite_some h with ⟨hc1, h⟩ | ⟨hc1, h⟩
 ·
  refine ji_condT rfl hc1 ?_
  refine ji_rz ⟨[(2, kI 1)], []⟩ (by kernel_rfl) ?_
  obtain rfl := sj h
  exact je_ret (le_z (by kernel_rfl))
 refine ji_condF rfl hc1 ?_
 refine ji_region ⟨[(0, .lf (.int .u32 wv)), (7, kB ((shrI .u32 wv 11) == 0))], []⟩ (ro_oz 1 [.lf (.int .u32 wv), kU 11] rfl (lo_shr rfl rfl) rfl (by kernel_rfl)) ?_
 rcases ite_some h with ⟨hc2, h⟩ | ⟨hc2, h⟩
 ·
  refine ji_condT rfl hc2 ?_
  refine ji_rz ⟨[(2, kI 2)], []⟩ (by kernel_rfl) ?_
  obtain rfl := sj h
  exact je_ret (le_z (by kernel_rfl))
 refine ji_condF rfl hc2 ?_
 refine ji_region ⟨[(0, .lf (.int .u32 wv)), (11, kB ((shrI .u32 wv 11) == 27))], []⟩ (ro_oz 1 [.lf (.int .u32 wv), kU 11] rfl (lo_shr rfl rfl) rfl (by kernel_rfl)) ?_
 rcases ite_some h with ⟨hc3, h⟩ | ⟨hc3, h⟩
 ·
  refine ji_condT rfl hc3 ?_
  refine ji_rz ⟨[(2, kI 0)], []⟩ (by kernel_rfl) ?_
  obtain rfl := sj h
  exact je_ret (le_z (by kernel_rfl))
 refine ji_condF rfl hc3 ?_
 refine ji_region ⟨[(0, .lf (.int .u32 wv)), (15, kB ((shrI .u32 wv 16) == 0))], []⟩ (ro_oz 1 [.lf (.int .u32 wv), kU 16] rfl (lo_shr rfl rfl) rfl (by kernel_rfl)) ?_
 rcases ite_some h with ⟨hc4, h⟩ | ⟨hc4, h⟩
 ·
  refine ji_condT rfl hc4 ?_
  refine ji_rz ⟨[(2, kI 3)], []⟩ (by kernel_rfl) ?_
  obtain rfl := sj h
  exact je_ret (le_z (by kernel_rfl))
 refine ji_condF rfl hc4 ?_
 refine ji_rz ⟨[(19, kB (decide (wv ≤ 1114111)))], []⟩ (by kernel_rfl) ?_
 rcases ite_some h with ⟨hc5, h⟩ | ⟨hc5, h⟩
 ·
  refine ji_condT rfl hc5 ?_
  refine ji_rz ⟨[(2, kI 4)], []⟩ (by kernel_rfl) ?_
  obtain rfl := sj h
  exact je_ret (le_z (by kernel_rfl))
 refine ji_condF rfl hc5 ?_
 refine ji_end ?_
 refine ji_rz ⟨[(2, kI 0)], []⟩ (by kernel_rfl) ?_
 obtain rfl := sj h
 exact je_ret (le_z (by kernel_rfl))
theorem darningref04_Put_ok {rv : Int} {r : (List UInt8)} (h : darningref04_Put rv = some r) : FnOk Try.prog 13 [kI rv] [.own Rp.byte 5 2 [] r] := by
 refine fn_intro' (E := ⟨[(2, .own Rp.byte 5 2 [] r)], []⟩) 68 Try.func13 rfl rfl rfl ⟨rfl, trivial⟩ (fun w0 F => ?_)
 refine ji_start ?_
 refine ji_le (E' := ⟨[(0, kI rv)], []⟩) (fun _ _ _ hs => hs) ?_
 unfold darningref04_Put at h
 refine ji_rz ⟨[(0, kI rv)], []⟩ (by kernel_rfl) ?_
 refine ji_region ⟨[(0, kI rv), (16, kB ((decide (rv < 0)) || ((decide (rv > 1114111)) || ((decide (rv ≥ 55296)) && (decide (rv ≤ 57343))))))], []⟩ ?_ ?_
 ·
  refine (ro_sp 3 5 (decide (rv < 0)) ⟨[(0, kI rv), (5, kB (decide (rv < 0)))], []⟩ (by kernel_rfl) rfl (fun hc1 => ?_) (fun hc1 => ?_))
  · exact (ro_zb 16 true ((decide (rv < 0)) || ((decide (rv > 1114111)) || ((decide (rv ≥ 55296)) && (decide (rv ≤ 57343))))) (by rw [hc1] <;> rfl) (by kernel_rfl) (by kernel_rfl))
  refine (ro_sp 4 9 (decide (rv > 1114111)) ⟨[(0, kI rv), (9, kB (decide (rv > 1114111)))], []⟩ (by kernel_rfl) rfl (fun hc2 => ?_) (fun hc2 => ?_))
  · exact (ro_zb 16 true ((decide (rv < 0)) || ((decide (rv > 1114111)) || ((decide (rv ≥ 55296)) && (decide (rv ≤ 57343))))) (by rw [hc1, hc2] <;> rfl) (by kernel_rfl) (by kernel_rfl))
  refine (ro_sp 3 12 (decide (rv ≥ 55296)) ⟨[(0, kI rv), (9, kB false), (12, kB (decide (rv ≥ 55296)))], []⟩ (by kernel_rfl) rfl (fun hc3 => ?_) (fun hc3 => ?_))
  · exact (ro_zb 16 (decide (rv ≤ 57343)) ((decide (rv < 0)) || ((decide (rv > 1114111)) || ((decide (rv ≥ 55296)) && (decide (rv ≤ 57343))))) (by rw [hc1, hc2, hc3] <;> rfl) (by kernel_rfl) (by kernel_rfl))
  exact (ro_zb 16 false ((decide (rv < 0)) || ((decide (rv > 1114111)) || ((decide (rv ≥ 55296)) && (decide (rv ≤ 57343))))) (by rw [hc1, hc2, hc3] <;> rfl) (by kernel_rfl) (by kernel_rfl))
 rcases ite_some h with ⟨hc4, h⟩ | ⟨hc4, h⟩
 ·
  refine ji_condT rfl hc4 ?_
  refine ji_rz ⟨[(2, kN)], []⟩ (by kernel_rfl) ?_
  obtain rfl := sj h
  refine je_ret ?_
  refine le_at 2 (.own Rp.byte 5 2 [] ([] : (List UInt8))) rfl (le_own_nil Rp.byte 5 2 [] rfl) ?_
  exact le_z (by kernel_rfl)
 refine ji_condF rfl hc4 ?_
 refine ji_rz ⟨[(0, kI rv), (18, kB (decide (rv < 128)))], []⟩ (by kernel_rfl) ?_
 rcases ite_some h with ⟨hc5, h⟩ | ⟨hc5, h⟩
 ·
  refine ji_condT rfl hc5 ?_
  obtain ⟨y, h_y, h⟩ := bnd h
  refine ji_region ⟨[(2, .own Rp.byte 5 12 [] ([y] : List UInt8))], []⟩ (ro_oz 2 [k8 (IntKind.u8.wrap rv)] rfl (LocalOk.le (ins' := [(.tmp 20, .lf (.int .u8 (IntKind.u8.wrap rv)))]) (lo_bsl [.lf (.int .u8 (y.toNat : Int))] 12 [] [y] rfl zet22 rfl rfl rfl rfl) ⟨⟨rfl, le_byte h_y⟩, trivial⟩) rfl (by kernel_rfl)) ?_
  obtain rfl := sj h
  refine je_ret ?_
  refine le_px ⟨[(2, .own Rp.byte 5 12 [] ([y] : List UInt8))], []⟩ (by kernel_rfl) (le_rn 12 2 rfl (le_px ⟨[(2, .own Rp.byte 5 2 [] ([y] : List UInt8))], []⟩ (by kernel_rfl) ?_))
  exact le_z (by kernel_rfl)
 refine ji_condF rfl hc5 ?_
 refine ji_rz ⟨[(0, kI rv), (23, kB (decide (rv < 2048)))], []⟩ (by kernel_rfl) ?_
 rcases ite_some h with ⟨hc6, h⟩ | ⟨hc6, h⟩
 ·
  refine ji_condT rfl hc6 ?_
  obtain ⟨y2, h_y2, h⟩ := bnd h
  obtain ⟨y3, h_y3, h⟩ := bnd h
  refine ji_region ⟨[(2, .own Rp.byte 5 13 [] ([y2, y3] : List UInt8))], []⟩ (ro_oz 8 [k8 (IntKind.u8.wrap (IntKind.i64.wrap (192 + (IntKind.i64.wrap (Int.tdiv rv 64))))), k8 (IntKind.u8.wrap (IntKind.i64.wrap (128 + (Int.tmod rv 64))))] rfl (LocalOk.le (ins' := [(.tmp 27, .lf (.int .u8 (IntKind.u8.wrap (IntKind.i64.wrap (192 + (IntKind.i64.wrap (Int.tdiv rv 64))))))), (.tmp 31, .lf (.int .u8 (IntKind.u8.wrap (IntKind.i64.wrap (128 + (Int.tmod rv 64))))))]) (lo_bsl [.lf (.int .u8 (y2.toNat : Int)), .lf (.int .u8 (y3.toNat : Int))] 13 [] [y2, y3] rfl zet22 rfl rfl rfl rfl) ⟨⟨rfl, le_byte h_y2⟩, ⟨rfl, le_byte h_y3⟩, trivial⟩) rfl (by kernel_rfl)) ?_
  obtain rfl := sj h
  refine je_ret ?_
  refine le_px ⟨[(2, .own Rp.byte 5 13 [] ([y2, y3] : List UInt8))], []⟩ (by kernel_rfl) (le_rn 13 2 rfl (le_px ⟨[(2, .own Rp.byte 5 2 [] ([y2, y3] : List UInt8))], []⟩ (by kernel_rfl) ?_))
  exact le_z (by kernel_rfl)
 refine ji_condF rfl hc6 ?_
 refine ji_rz ⟨[(0, kI rv), (34, kB (decide (rv < 65536)))], []⟩ (by kernel_rfl) ?_
 rcases ite_some h with ⟨hc7, h⟩ | ⟨hc7, h⟩
 ·
  refine ji_condT rfl hc7 ?_
  obtain ⟨y4, h_y4, h⟩ := bnd h
  obtain ⟨y5, h_y5, h⟩ := bnd h
  obtain ⟨y6, h_y6, h⟩ := bnd h
  refine ji_region ⟨[(2, .own Rp.byte 5 14 [] ([y4, y5, y6] : List UInt8))], []⟩ (ro_oz 13 [k8 (IntKind.u8.wrap (IntKind.i64.wrap (224 + (IntKind.i64.wrap (Int.tdiv rv 4096))))), k8 (IntKind.u8.wrap (IntKind.i64.wrap (128 + (Int.tmod (IntKind.i64.wrap (Int.tdiv rv 64)) 64)))), k8 (IntKind.u8.wrap (IntKind.i64.wrap (128 + (Int.tmod rv 64))))] rfl (LocalOk.le (ins' := [(.tmp 38, .lf (.int .u8 (IntKind.u8.wrap (IntKind.i64.wrap (224 + (IntKind.i64.wrap (Int.tdiv rv 4096))))))), (.tmp 43, .lf (.int .u8 (IntKind.u8.wrap (IntKind.i64.wrap (128 + (Int.tmod (IntKind.i64.wrap (Int.tdiv rv 64)) 64)))))), (.tmp 47, .lf (.int .u8 (IntKind.u8.wrap (IntKind.i64.wrap (128 + (Int.tmod rv 64))))))]) (lo_bsl [.lf (.int .u8 (y4.toNat : Int)), .lf (.int .u8 (y5.toNat : Int)), .lf (.int .u8 (y6.toNat : Int))] 14 [] [y4, y5, y6] rfl zet22 rfl rfl rfl rfl) ⟨⟨rfl, le_byte h_y4⟩, ⟨rfl, le_byte h_y5⟩, ⟨rfl, le_byte h_y6⟩, trivial⟩) rfl (by kernel_rfl)) ?_
  obtain rfl := sj h
  refine je_ret ?_
  refine le_px ⟨[(2, .own Rp.byte 5 14 [] ([y4, y5, y6] : List UInt8))], []⟩ (by kernel_rfl) (le_rn 14 2 rfl (le_px ⟨[(2, .own Rp.byte 5 2 [] ([y4, y5, y6] : List UInt8))], []⟩ (by kernel_rfl) ?_))
  exact le_z (by kernel_rfl)
 refine ji_condF rfl hc7 ?_
 obtain ⟨y7, h_y7, h⟩ := bnd h
 obtain ⟨y8, h_y8, h⟩ := bnd h
 obtain ⟨y9, h_y9, h⟩ := bnd h
 obtain ⟨y10, h_y10, h⟩ := bnd h
 refine ji_region ⟨[(2, .own Rp.byte 5 15 [] ([y7, y8, y9, y10] : List UInt8))], []⟩ (ro_oz 18 [k8 (IntKind.u8.wrap (IntKind.i64.wrap (240 + (IntKind.i64.wrap (Int.tdiv rv 262144))))), k8 (IntKind.u8.wrap (IntKind.i64.wrap (128 + (Int.tmod (IntKind.i64.wrap (Int.tdiv rv 4096)) 64)))), k8 (IntKind.u8.wrap (IntKind.i64.wrap (128 + (Int.tmod (IntKind.i64.wrap (Int.tdiv rv 64)) 64)))), k8 (IntKind.u8.wrap (IntKind.i64.wrap (128 + (Int.tmod rv 64))))] rfl (LocalOk.le (ins' := [(.tmp 52, .lf (.int .u8 (IntKind.u8.wrap (IntKind.i64.wrap (240 + (IntKind.i64.wrap (Int.tdiv rv 262144))))))), (.tmp 57, .lf (.int .u8 (IntKind.u8.wrap (IntKind.i64.wrap (128 + (Int.tmod (IntKind.i64.wrap (Int.tdiv rv 4096)) 64)))))), (.tmp 62, .lf (.int .u8 (IntKind.u8.wrap (IntKind.i64.wrap (128 + (Int.tmod (IntKind.i64.wrap (Int.tdiv rv 64)) 64)))))), (.tmp 66, .lf (.int .u8 (IntKind.u8.wrap (IntKind.i64.wrap (128 + (Int.tmod rv 64))))))]) (lo_bsl [.lf (.int .u8 (y7.toNat : Int)), .lf (.int .u8 (y8.toNat : Int)), .lf (.int .u8 (y9.toNat : Int)), .lf (.int .u8 (y10.toNat : Int))] 15 [] [y7, y8, y9, y10] rfl zet22 rfl rfl rfl rfl) ⟨⟨rfl, le_byte h_y7⟩, ⟨rfl, le_byte h_y8⟩, ⟨rfl, le_byte h_y9⟩, ⟨rfl, le_byte h_y10⟩, trivial⟩) rfl (by kernel_rfl)) ?_
 obtain rfl := sj h
 refine je_ret ?_
 refine le_px ⟨[(2, .own Rp.byte 5 15 [] ([y7, y8, y9, y10] : List UInt8))], []⟩ (by kernel_rfl) (le_rn 15 2 rfl (le_px ⟨[(2, .own Rp.byte 5 2 [] ([y7, y8, y9, y10] : List UInt8))], []⟩ (by kernel_rfl) ?_))
 exact le_z (by kernel_rfl)
theorem darningref01_Same_ok {av : (List UInt8)} {b : (List UInt8)} {r : Bool} (h : darningref01_Same av b = some r) : FnOk Try.prog 11 [.sl Rp.byte [0] av, .sl Rp.byte [0] b] [kB r] := by
 refine fn_intro' (E := ⟨[(4, kB r)], []⟩) 10 Try.func11 rfl rfl rfl ⟨rfl, trivial⟩ (fun w0 F => ?_)
 refine ji_start ?_
 refine ji_le (E' := ⟨[(0, .sl Rp.byte [0] av), (1, .sl Rp.byte [0] b)], []⟩) (fun _ _ _ hs => hs) ?_
 unfold darningref01_Same at h
 refine ji_rz ⟨[(0, .sl Rp.byte [0] av), (1, .sl Rp.byte [0] b)], []⟩ (by kernel_rfl) ?_
 refine ji_region ⟨[(4, kB (av == b))], []⟩ (ro_o 1 [.sl Rp.byte [0] av] ⟨[(1, .sl Rp.byte [0] b), (6, kS av)], []⟩ rfl (lo_b2s rfl Try.underlying22 Try.underlying5 Try.underlying9 (isSl_sl _ _ _)) rfl (by kernel_rfl) (ro_oz 1 [.sl Rp.byte [0] b] rfl (lo_b2s rfl Try.underlying22 Try.underlying5 Try.underlying9 (isSl_sl _ _ _)) rfl (by kernel_rfl))) ?_
 obtain rfl := sj h
 exact je_ret (le_z (by kernel_rfl))
theorem utf_lead_ok {b : (List UInt8)} {r : Int} (h : utf_lead b = some r) : FnOk Try.prog 16 [.sl Rp.byte [0] b] [kI r] := by
 refine fn_intro' (E := ⟨[(2, kI r)], []⟩) 48 Try.func16 rfl rfl rfl ⟨rfl, trivial⟩ (fun w0 F => ?_)
 refine ji_start ?_
 refine ji_le (E' := ⟨[(0, .sl Rp.byte [0] b)], []⟩) (fun _ _ _ hs => hs) ?_
 unfold utf_lead at h
 refine ji_rz ⟨[(0, .sl Rp.byte [0] b)], []⟩ (by kernel_rfl) ?_
 refine ji_rz ⟨[(0, .sl Rp.byte [0] b), (9, kB ((b.length : Int) == 0))], []⟩ (by kernel_rfl) ?_
 rcases ite_some h with ⟨hc1, h⟩ | ⟨hc1, h⟩
 ·
  refine ji_condT rfl hc1 ?_
  refine ji_rz ⟨[(2, kI 0)], []⟩ (by kernel_rfl) ?_
  obtain rfl := sj h
  exact je_ret (le_z (by kernel_rfl))
 refine ji_condF rfl hc1 ?_
 obtain ⟨x, h_x, h⟩ := bnd h
 obtain ⟨rv, h_rv, h⟩ := bnd h
 refine ji_region ⟨[(0, .sl Rp.byte [0] b), (3, kI rv.1), (4, .lf (.int .u32 rv.2))], []⟩ (ro_o 1 [.sl Rp.byte [0] b, kI 0] ⟨[(0, .sl Rp.byte [0] b), (12, .ep Rp.byte [0] x 0)], []⟩ rfl (lo_ix rfl zet22.el (isSl_sl _ _ _) h_x) rfl (by kernel_rfl) (ro_oz 1 [k8 (x.toNat : Int)] rfl (lo_call [k8 (x.toNat : Int)] [1] 9 rfl Try.call17 (utf_open_ok h_rv) rfl rfl rfl rfl rfl) rfl (by kernel_rfl))) ?_
 refine ji_region ⟨[(0, .sl Rp.byte [0] b), (3, kI rv.1), (4, .lf (.int .u32 rv.2)), (24, kB ((rv.1 == 0) || (decide (rv.1 > (b.length : Int)))))], []⟩ ?_ ?_
 ·
  refine (ro_sp 3 19 (rv.1 == 0) ⟨[(0, .sl Rp.byte [0] b), (3, kI rv.1), (4, .lf (.int .u32 rv.2)), (19, kB (rv.1 == 0))], []⟩ (by kernel_rfl) rfl (fun hc2 => ?_) (fun hc2 => ?_))
  · exact (ro_zb 24 true ((rv.1 == 0) || (decide (rv.1 > (b.length : Int)))) (by rw [hc2] <;> rfl) (by kernel_rfl) (by kernel_rfl))
  exact (ro_zb 24 (decide (rv.1 > (b.length : Int))) ((rv.1 == 0) || (decide (rv.1 > (b.length : Int)))) (by rw [hc2] <;> rfl) (by kernel_rfl) (by kernel_rfl))
 rcases ite_some h with ⟨hc3, h⟩ | ⟨hc3, h⟩
 ·
  refine ji_condT rfl hc3 ?_
  refine ji_rz ⟨[(2, kI 0)], []⟩ (by kernel_rfl) ?_
  obtain rfl := sj h
  exact je_ret (le_z (by kernel_rfl))
 refine ji_condF rfl hc3 ?_
 obtain ⟨v2, h_v2, h⟩ := bnd h
 refine ji_region ⟨[(3, kI rv.1), (4, .lf (.int .u32 rv.2)), (27, .sl Rp.byte [0] v2), (28, kI (v2.length : Int)), (29, kI 0)], []⟩ (ro_oz 2 [.sl Rp.byte [0] b, kI 1, kI rv.1] rfl (lo_cut (some (kI 1)) (some (kI rv.1)) rfl zet22.el (isSl_sl _ _ _) ⟨rfl, rfl⟩ ⟨rfl, rfl⟩ h_v2) rfl (by kernel_rfl)) ?_
 refine ji_block ?_
 obtain ⟨q, h_q, h⟩ := bnd h
 refine je_loop (fun s : (Int × Int) => utf_lead_b1 v2 s.1 s.2) (fun s => ⟨[(3, kI rv.1), (4, .lf (.int .u32 s.1)), (27, .sl Rp.byte [0] v2), (28, kI (v2.length : Int)), (29, kI s.2)], []⟩) (fun o e a w => match o with | (.inl v_) => e = .exit 0 ∧ Sx ⟨48, w0, F⟩ ⟨[(3, kI rv.1), (4, .lf (.int .u32 v_))], []⟩ a w | (.inr v_) => e = .ret ∧ Sx ⟨48, w0, F⟩ ⟨[(2, kI 0)], []⟩ a w) ?_ h_q (le_z (by kernel_rfl)) ?_
 ·
  clear h
  intro s o h
  obtain ⟨wv, v3⟩ := s
  refine ji_start ?_
  refine ji_le (E' := ⟨[(3, kI rv.1), (4, .lf (.int .u32 wv)), (27, .sl Rp.byte [0] v2), (28, kI (v2.length : Int)), (29, kI v3)], []⟩) (fun _ _ _ hs => hs) ?_
  replace h : utf_lead_b1 v2 wv v3 = some o := h
  unfold utf_lead_b1 at h
  refine ji_rz ⟨[(3, kI rv.1), (4, .lf (.int .u32 wv)), (27, .sl Rp.byte [0] v2), (28, kI (v2.length : Int)), (29, kI v3), (30, kB (decide (v3 < (v2.length : Int))))], []⟩ (by kernel_rfl) ?_
  rcases ite_some h with ⟨hc4, h⟩ | ⟨hc4, h⟩
  ·
   refine ji_condT rfl hc4 ?_
   refine ji_block ?_
   obtain ⟨x2, h_x2, h⟩ := bnd h
   refine ji_region ⟨[(3, kI rv.1), (4, .lf (.int .u32 wv)), (6, k8 (x2.toNat : Int)), (27, .sl Rp.byte [0] v2), (28, kI (v2.length : Int)), (29, kI v3)], []⟩ (ro_oz 0 [.sl Rp.byte [0] v2, kI v3] rfl (lo_ix rfl zet22.el (isSl_sl _ _ _) h_x2) rfl (by kernel_rfl)) ?_
   refine ji_region ⟨[(3, kI rv.1), (4, .lf (.int .u32 wv)), (6, k8 (x2.toNat : Int)), (27, .sl Rp.byte [0] v2), (28, kI (v2.length : Int)), (29, kI v3), (35, kB ((shrI .u8 (x2.toNat : Int) 6) != 2))], []⟩ (ro_oz 1 [k8 (x2.toNat : Int), kU 6] rfl (lo_shr rfl rfl) rfl (by kernel_rfl)) ?_
   rcases ite_some h with ⟨hc5, h⟩ | ⟨hc5, h⟩
   ·
    refine ji_condT rfl hc5 ?_
    refine ji_rz ⟨[(2, kI 0)], []⟩ (by kernel_rfl) ?_
    obtain rfl := sj h
    exact je_ret' (le_z (by kernel_rfl))
   refine ji_condF rfl hc5 ?_
   refine ji_region ⟨[(3, kI rv.1), (4, .lf (.int .u32 (orI .u32 (shlI .u32 wv 6) (IntKind.u32.wrap (andI .u8 (x2.toNat : Int) 63))))), (27, .sl Rp.byte [0] v2), (28, kI (v2.length : Int)), (29, kI v3)], []⟩ (ro_oz 1 [.lf (.int .u32 wv), kU 6] rfl (lo_shl rfl rfl) rfl (by kernel_rfl)) ?_
   refine ji_end ?_
   refine ji_rz ⟨[(3, kI rv.1), (4, .lf (.int .u32 (orI .u32 (shlI .u32 wv 6) (IntKind.u32.wrap (andI .u8 (x2.toNat : Int) 63))))), (27, .sl Rp.byte [0] v2), (28, kI (v2.length : Int)), (29, kI (IntKind.i64.wrap (v3 + 1)))], []⟩ (by kernel_rfl) ?_
   obtain rfl := sj h
   exact je_nil (le_z (by kernel_rfl))
  refine ji_condF rfl hc4 ?_
  obtain rfl := sj h
  exact je_out' rfl (le_z (by kernel_rfl))
 rcases q with u | u2
 ·
  refine k_exit _ rfl ?_
  obtain ⟨rv2, h_rv2, h⟩ := bnd h
  refine ji_region ⟨[(3, kI rv.1), (46, kB (rv.1 != rv2))], []⟩ (ro_oz 2 [.lf (.int .u32 u)] rfl (lo_call [.lf (.int .u32 u)] [1] 10 rfl Try.call18 (utf_need_ok h_rv2) rfl rfl rfl rfl rfl) rfl (by kernel_rfl)) ?_
  rcases ite_some h with ⟨hc6, h⟩ | ⟨hc6, h⟩
  ·
   refine ji_condT rfl hc6 ?_
   refine ji_rz ⟨[(2, kI 0)], []⟩ (by kernel_rfl) ?_
   obtain rfl := sj h
   exact je_ret (le_z (by kernel_rfl))
  refine ji_condF rfl hc6 ?_
  refine ji_rz ⟨[(2, kI rv.1)], []⟩ (by kernel_rfl) ?_
  obtain rfl := sj h
  exact je_ret (le_z (by kernel_rfl))
 obtain rfl := sj h
 exact ke_ret (le_z (by kernel_rfl))
theorem darningref04_Next_ok {b : (List UInt8)} {atv : Int} {r : Int} (h : darningref04_Next b atv = some r) : FnOk Try.prog 14 [.sl Rp.byte [0] b, kI atv] [kI r] := by
 refine fn_intro' (E := ⟨[(4, kI r)], []⟩) 61 Try.func14 rfl rfl rfl ⟨rfl, trivial⟩ (fun w0 F => ?_)
 refine ji_start ?_
 refine ji_le (E' := ⟨[(0, .sl Rp.byte [0] b), (1, kI atv)], []⟩) (fun _ _ _ hs => hs) ?_
 unfold darningref04_Next at h
 refine ji_rz ⟨[(0, .sl Rp.byte [0] b), (1, kI atv)], []⟩ (by kernel_rfl) ?_
 refine ji_rz ⟨[(0, .sl Rp.byte [0] b), (1, kI atv), (5, kI 1)], []⟩ (by kernel_rfl) ?_
 refine ji_block ?_
 obtain ⟨q2, h_q2, h⟩ := bnd h
 refine je_loop (fun s : Int => darningref04_Next_b1 atv b s) (fun s => ⟨[(0, .sl Rp.byte [0] b), (1, kI atv), (5, kI s)], []⟩) (fun o e a w => match o with | (.inl v_) => e = .exit 0 ∧ Sx ⟨61, w0, F⟩ ⟨[], []⟩ a w | (.inr v_) => e = .ret ∧ Sx ⟨61, w0, F⟩ ⟨[(4, kI v_)], []⟩ a w) ?_ h_q2 (le_z (by kernel_rfl)) ?_
 ·
  clear h
  intro n o h
  refine ji_start ?_
  refine ji_le (E' := ⟨[(0, .sl Rp.byte [0] b), (1, kI atv), (5, kI n)], []⟩) (fun _ _ _ hs => hs) ?_
  replace h : darningref04_Next_b1 atv b n = some o := h
  unfold darningref04_Next_b1 at h
  refine ji_region ⟨[(0, .sl Rp.byte [0] b), (1, kI atv), (5, kI n), (17, kB ((decide (n ≤ 4)) && (decide ((IntKind.i64.wrap (atv + n)) ≤ (b.length : Int)))))], []⟩ ?_ ?_
  ·
   refine (ro_sp 3 10 (decide (n ≤ 4)) ⟨[(0, .sl Rp.byte [0] b), (1, kI atv), (5, kI n), (10, kB (decide (n ≤ 4)))], []⟩ (by kernel_rfl) rfl (fun hc1 => ?_) (fun hc1 => ?_))
   · exact (ro_zb 17 (decide ((IntKind.i64.wrap (atv + n)) ≤ (b.length : Int))) ((decide (n ≤ 4)) && (decide ((IntKind.i64.wrap (atv + n)) ≤ (b.length : Int)))) (by rw [hc1] <;> rfl) (by kernel_rfl) (by kernel_rfl))
   exact (ro_zb 17 false ((decide (n ≤ 4)) && (decide ((IntKind.i64.wrap (atv + n)) ≤ (b.length : Int)))) (by rw [hc1] <;> rfl) (by kernel_rfl) (by kernel_rfl))
  rcases ite_some h with ⟨hc2, h⟩ | ⟨hc2, h⟩
  ·
   refine ji_condT rfl hc2 ?_
   refine ji_block ?_
   obtain ⟨x, h_x, h⟩ := bnd h
   refine ji_region ⟨[(0, .sl Rp.byte [0] b), (1, kI atv), (5, kI n), (6, kI (IntKind.i64.wrap (x.toNat : Int)))], []⟩ (ro_oz 2 [.sl Rp.byte [0] b, kI atv] rfl (lo_ix rfl zet22.el (isSl_sl _ _ _) h_x) rfl (by kernel_rfl)) ?_
   refine ji_rz ⟨[(0, .sl Rp.byte [0] b), (1, kI atv), (5, kI n), (6, kI (IntKind.i64.wrap (x.toNat : Int))), (26, kB (decide (n > 1)))], []⟩ (by kernel_rfl) ?_
   obtain ⟨p, h_p, h⟩ := bnd h
   refine ji_join (R := fun e a w => e = .normal ∧ Sx ⟨61, w0, F⟩ ⟨[(0, .sl Rp.byte [0] b), (1, kI atv), (5, kI n), (6, kI p)], []⟩ a w) ?_ ?_
   ·
    replace h := h_p
    refine ji_start ?_
    rcases ite_some h with ⟨hc3, h⟩ | ⟨hc3, h⟩
    ·
     refine ji_condT rfl hc3 ?_
     obtain ⟨x2, h_x2, h⟩ := bnd h
     obtain ⟨v3, h_v3, h⟩ := bnd h
     refine ji_region ⟨[(0, .sl Rp.byte [0] b), (1, kI atv), (5, kI n), (6, kI v3)], []⟩ (ro_o 1 [kI 0, kI 0, kI 32, kI 16, kI 8] ⟨[(0, .sl Rp.byte [0] b), (1, kI atv), (5, kI n), (27, kI (IntKind.i64.wrap (x.toNat : Int))), (28, .own (Rp.int .i64) 3 12 [] ([0, 0, 32, 16, 8] : (List Int)))], []⟩ rfl (lo_bsl [kI 0, kI 0, kI 32, kI 16, kI 8] 12 [] ([0, 0, 32, 16, 8] : (List Int)) rfl zet35 rfl rfl rfl rfl) rfl (by kernel_rfl) (ro_o 1 [.own (Rp.int .i64) 3 12 [] ([0, 0, 32, 16, 8] : (List Int)), kI n] ⟨[(0, .sl Rp.byte [0] b), (1, kI atv), (5, kI n), (27, kI (IntKind.i64.wrap (x.toNat : Int))), (30, .ep (Rp.int .i64) [12] x2 0)], []⟩ rfl (lo_ix rfl zet35.el (isSl_own _ _ _ _ _) h_x2) rfl (by kernel_rfl) (ro_oz 1 [kI (IntKind.i64.wrap (x.toNat : Int)), kI x2] rfl (lo_rem rfl h_v3) rfl (by kernel_rfl)))) ?_
     obtain rfl := sj h
     exact je_nil (le_z (by kernel_rfl))
    refine ji_condF rfl hc3 ?_
    obtain rfl := sj h
    exact je_nil (le_z (by kernel_rfl))
   refine k_norm ?_
   refine ji_rz ⟨[(0, .sl Rp.byte [0] b), (1, kI atv), (5, kI n), (6, kI p), (7, kI 1)], []⟩ (by kernel_rfl) ?_
   refine ji_block ?_
   obtain ⟨q, h_q, h⟩ := bnd h
   refine je_loop (fun s : (Int × Int) => darningref04_Next_b2 atv b n s.1 s.2) (fun s => ⟨[(0, .sl Rp.byte [0] b), (1, kI atv), (5, kI n), (6, kI s.1), (7, kI s.2)], []⟩) (fun o e a w => e = .exit 2 ∧ Sx ⟨61, w0, F⟩ ⟨[(0, .sl Rp.byte [0] b), (1, kI atv), (5, kI n), (6, kI o)], []⟩ a w) ?_ h_q (le_z (by kernel_rfl)) ?_
   ·
    clear h
    intro s o h
    obtain ⟨rv2, i⟩ := s
    refine ji_start ?_
    refine ji_le (E' := ⟨[(0, .sl Rp.byte [0] b), (1, kI atv), (5, kI n), (6, kI rv2), (7, kI i)], []⟩) (fun _ _ _ hs => hs) ?_
    replace h : darningref04_Next_b2 atv b n rv2 i = some o := h
    unfold darningref04_Next_b2 at h
    refine ji_rz ⟨[(0, .sl Rp.byte [0] b), (1, kI atv), (5, kI n), (6, kI rv2), (7, kI i), (35, kB (decide (i < n)))], []⟩ (by kernel_rfl) ?_
    rcases ite_some h with ⟨hc4, h⟩ | ⟨hc4, h⟩
    ·
     refine ji_condT rfl hc4 ?_
     refine ji_block ?_
     obtain ⟨x3, h_x3, h⟩ := bnd h
     refine ji_region ⟨[(0, .sl Rp.byte [0] b), (1, kI atv), (5, kI n), (6, kI (IntKind.i64.wrap ((IntKind.i64.wrap (64 * rv2)) + (Int.tmod (IntKind.i64.wrap (x3.toNat : Int)) 64)))), (7, kI i)], []⟩ (ro_oz 6 [.sl Rp.byte [0] b, kI (IntKind.i64.wrap (atv + i))] rfl (lo_ix rfl zet22.el (isSl_sl _ _ _) h_x3) rfl (by kernel_rfl)) ?_
     refine ji_end ?_
     refine ji_rz ⟨[(0, .sl Rp.byte [0] b), (1, kI atv), (5, kI n), (6, kI (IntKind.i64.wrap ((IntKind.i64.wrap (64 * rv2)) + (Int.tmod (IntKind.i64.wrap (x3.toNat : Int)) 64)))), (7, kI (IntKind.i64.wrap (i + 1)))], []⟩ (by kernel_rfl) ?_
     obtain rfl := sj h
     exact je_nil (le_z (by kernel_rfl))
    refine ji_condF rfl hc4 ?_
    obtain rfl := sj h
    exact je_out' rfl (le_z (by kernel_rfl))
   refine k_exit _ rfl ?_
   obtain ⟨rv4, h_rv4, h⟩ := bnd h
   obtain ⟨v4, h_v4, h⟩ := bnd h
   refine ji_draw ⟨[(0, .sl Rp.byte [0] b), (1, kI atv), (5, kI n), (59, kB (rv4 == v4))], []⟩ [.ev, .ex [] [] [14] (.own Rp.byte 5 14 [] rv4) [], .ex [] [] [] (kS rv4) [], .ev, .ev, .ev, .ev, .ev, .ex [] [] [] (.sl Rp.byte [0] v4) [], .ex [] [] [] (kS v4) []] [([(.func 13, .lf (.val (.func (.func 13) #[] #[]))), (.tmp 49, kI q)], []), ([(.tmp 50, .own Rp.byte 5 14 [] rv4)], []), ([(.tmp 52, .sl Rp.byte [0] b), (.tmp 53, kI atv), (.tmp 56, kI (IntKind.i64.wrap (atv + n)))], []), ([(.tmp 57, .sl Rp.byte [0] v4)], [])] [0, 1, 5, 59] [] mixed (by kernel_rfl) (by exact (lw_e (lw_x (LocalOk.cons _ (lo_as (lo_call (args := [.tmp 49]) [kI q] [1] 12 rfl Try.call13 (darningref04_Put_ok h_rv4) rfl rfl rfl rfl rfl) rfl)) (lw_x (lo_as (lo_b2s rfl Try.underlying22 Try.underlying5 Try.underlying9 (isSl_own _ _ _ _ _)) rfl) (lw_e (lw_e (lw_e (lw_e (lw_e (lw_x (lo_as (lo_cut (some (kI atv)) (some (kI (IntKind.i64.wrap (atv + n)))) rfl zet22.el (isSl_sl _ _ _) ⟨rfl, rfl⟩ ⟨rfl, rfl⟩ h_v4) rfl) (lw_x (lo_as (lo_b2s rfl Try.underlying22 Try.underlying5 Try.underlying9 (isSl_sl _ _ _)) rfl) lw_0))))))))))) ?_
   rcases ite_some h with ⟨hc5, h⟩ | ⟨hc5, h⟩
   ·
    refine ji_condT rfl hc5 ?_
    refine ji_rz ⟨[(4, kI n)], []⟩ (by kernel_rfl) ?_
    obtain rfl := sj h
    exact je_ret' (le_z (by kernel_rfl))
   refine ji_condF rfl hc5 ?_
   refine ji_end ?_
   refine ji_rz ⟨[(0, .sl Rp.byte [0] b), (1, kI atv), (5, kI (IntKind.i64.wrap (n + 1)))], []⟩ (by kernel_rfl) ?_
   obtain rfl := sj h
   exact je_nil (le_z (by kernel_rfl))
  refine ji_condF rfl hc2 ?_
  obtain rfl := sj h
  exact je_out' rfl (le_z (by kernel_rfl))
 rcases q2 with u | u2
 ·
  refine k_exit _ rfl ?_
  refine ji_rz ⟨[(4, kI 0)], []⟩ (by kernel_rfl) ?_
  obtain rfl := sj h
  exact je_ret (le_z (by kernel_rfl))
 obtain rfl := sj h
 exact ke_ret (le_z (by kernel_rfl))
end Go.Proofs.Ytfcmlcegeiphdaa
