/-
  The Go functions do what the plain functions say. No condition.
-/
import Derived.Test.YtnpfdmlfeealgaaT
namespace Go.Proofs.Ytnpfdmlfeealgaa
open Go Go.RowKit
set_option linter.unusedVariables false
theorem varint_Read_ok {b : (List UInt8)} {r : (Int × Int × Int)} (h : varint_Read b = some r) : FnOk Try.prog 8 [.sl Rp.byte [0] b] [.lf (.int .u64 r.1), .lf (.int .i64 r.2.1), .lf (.int .u8 r.2.2)] := by
  refine fn_intro' (E := ⟨[(2, .lf (.int .u64 r.1)), (3, .lf (.int .i64 r.2.1)), (4, .lf (.int .u8 r.2.2))], []⟩) 38 Try.func8 rfl rfl rfl ⟨rfl, rfl, rfl, trivial⟩ (fun w0 F => ?_)
  refine ji_start ?_
  refine ji_le (E' := ⟨[(0, .sl Rp.byte [0] b)], []⟩) (fun _ _ _ hs => hs) ?_
  unfold varint_Read at h
  refine ji_region ⟨[(0, .sl Rp.byte [0] b), (2, .lf (.int .u64 0))], []⟩ ?_ ?_
  · exact ro_fin' [0, 2] [] (by kernel_rfl)
  · obtain ⟨v, h_v, h⟩ := bind_some' h
    refine ji_region ⟨[(2, .lf (.int .u64 0)), (11, .sl Rp.byte [0] v), (12, .lf (.int .i64 (v.length : Int))), (13, .lf (.int .i64 0))], []⟩ ?_ ?_
    · refine ro_runp 4 [2, 7, 10] [] ⟨[(2, .lf (.int .u64 0)), (7, .sl Rp.byte [0] b), (10, .lf (.int .i64 (if (10 : Int) < (b.length : Int) then 10 else (b.length : Int))))], []⟩ (by kernel_rfl) ?_
      refine ro_step rfl (lo_cut none (some (.lf (.int .i64 (if (10 : Int) < (b.length : Int) then 10 else (b.length : Int))))) rfl zet22.el (isSl_sl _ _ _) ⟨rfl, rfl⟩ ⟨rfl, rfl⟩ h_v) ⟨rfl, rfl, trivial⟩ trivial rfl rfl ?_
      exact ro_fin' [2, 11, 12, 13] [] (by kernel_rfl)
    · refine ji_block ?_
      obtain ⟨q, h_q, h⟩ := bind_some' h
      refine ji_loop (fun s : (Int × Int) => varint_Read_b1 v s.1 s.2) (fun s => Sx ⟨38, w0, F⟩ ⟨[(2, .lf (.int .u64 s.1)), (11, .sl Rp.byte [0] v), (12, .lf (.int .i64 (v.length : Int))), (13, .lf (.int .i64 s.2))], []⟩) (fun o e a w => match o with | (.inl v_) => e = .exit 0 ∧ Sx ⟨38, w0, F⟩ ⟨[], []⟩ a w | (.inr v_) => e = .ret ∧ Sx ⟨38, w0, F⟩ ⟨[(2, .lf (.int .u64 v_.1)), (3, .lf (.int .i64 v_.2.1)), (4, .lf (.int .u8 v_.2.2))], []⟩ a w) ?_ h_q (fun a w hs => EnvLe.go ?_ hs) ?_
      · clear h
        intro s o h
        obtain ⟨wv, v2⟩ := s
        refine ji_start ?_
        refine ji_le (E' := ⟨[(2, .lf (.int .u64 wv)), (11, .sl Rp.byte [0] v), (12, .lf (.int .i64 (v.length : Int))), (13, .lf (.int .i64 v2))], []⟩) (fun _ _ _ hs => hs) ?_
        replace h : varint_Read_b1 v wv v2 = some o := h
        unfold varint_Read_b1 at h
        refine ji_region ⟨[(2, .lf (.int .u64 wv)), (11, .sl Rp.byte [0] v), (12, .lf (.int .i64 (v.length : Int))), (13, .lf (.int .i64 v2)), (14, .lf (.bool (decide (v2 < (v.length : Int)))))], []⟩ ?_ ?_
        · exact ro_fin' [2, 11, 12, 13, 14] [] (by kernel_rfl)
        · rcases ite_some h with ⟨hc1, h⟩ | ⟨hc1, h⟩
          · refine ji_condT rfl hc1 ?_
            refine ji_block ?_
            obtain ⟨x, h_x, h⟩ := bind_some' h
            refine ji_region ⟨[(2, .lf (.int .u64 wv)), (5, .lf (.int .i64 v2)), (6, .lf (.int .u8 (x.toNat : Int))), (11, .sl Rp.byte [0] v), (12, .lf (.int .i64 (v.length : Int))), (13, .lf (.int .i64 v2))], []⟩ ?_ ?_
            · refine ro_runp 1 [2, 11, 12, 13, 15] [] ⟨[(2, .lf (.int .u64 wv)), (11, .sl Rp.byte [0] v), (12, .lf (.int .i64 (v.length : Int))), (13, .lf (.int .i64 v2)), (15, .lf (.int .i64 v2))], []⟩ (by kernel_rfl) ?_
              refine ro_step rfl (lo_ix rfl zet22.el (isSl_sl _ _ _) h_x) ⟨rfl, rfl, trivial⟩ trivial rfl rfl ?_
              exact ro_fin' [2, 5, 6, 11, 12, 13] [] (by kernel_rfl)
            · refine ji_region ⟨[(2, .lf (.int .u64 wv)), (5, .lf (.int .i64 v2)), (6, .lf (.int .u8 (x.toNat : Int))), (11, .sl Rp.byte [0] v), (12, .lf (.int .i64 (v.length : Int))), (13, .lf (.int .i64 v2)), (23, .lf (.bool ((v2 == 9) && (decide ((x.toNat : Int) > 1)))))], []⟩ ?_ ?_
              · refine ro_runp 3 [2, 5, 6, 11, 12, 13, 20] [] ⟨[(2, .lf (.int .u64 wv)), (5, .lf (.int .i64 v2)), (6, .lf (.int .u8 (x.toNat : Int))), (11, .sl Rp.byte [0] v), (12, .lf (.int .i64 (v.length : Int))), (13, .lf (.int .i64 v2)), (20, .lf (.bool (v2 == 9)))], []⟩ (by kernel_rfl) ?_
                refine ro_split 20 (v2 == 9) rfl (fun hc2 => ?_) (fun hc2 => ?_)
                · refine ro_runp 3 [2, 5, 6, 11, 12, 13, 23] [] ⟨[(2, .lf (.int .u64 wv)), (5, .lf (.int .i64 v2)), (6, .lf (.int .u8 (x.toNat : Int))), (11, .sl Rp.byte [0] v), (12, .lf (.int .i64 (v.length : Int))), (13, .lf (.int .i64 v2)), (23, .lf (.bool (decide ((x.toNat : Int) > 1))))], []⟩ (by kernel_rfl) ?_
                  refine ro_le ?_ ro_nil
                  refine EnvLe.trans (le_as 23 (.lf (.bool ((v2 == 9) && (decide ((x.toNat : Int) > 1))))) rfl (le_bool (by rw [hc2] <;> rfl))) ?_
                  exact le_pick [2, 5, 6, 11, 12, 13, 23] [] (by kernel_rfl)
                · refine ro_runp 3 [2, 5, 6, 11, 12, 13, 23] [] ⟨[(2, .lf (.int .u64 wv)), (5, .lf (.int .i64 v2)), (6, .lf (.int .u8 (x.toNat : Int))), (11, .sl Rp.byte [0] v), (12, .lf (.int .i64 (v.length : Int))), (13, .lf (.int .i64 v2)), (23, .lf (.bool false))], []⟩ (by kernel_rfl) ?_
                  refine ro_le ?_ ro_nil
                  refine EnvLe.trans (le_as 23 (.lf (.bool ((v2 == 9) && (decide ((x.toNat : Int) > 1))))) rfl (le_bool (by rw [hc2] <;> rfl))) ?_
                  exact le_pick [2, 5, 6, 11, 12, 13, 23] [] (by kernel_rfl)
              · rcases ite_some h with ⟨hc3, h⟩ | ⟨hc3, h⟩
                · refine ji_condT rfl hc3 ?_
                  refine ji_region ⟨[(2, .lf (.int .u64 0)), (3, .lf (.int .i64 0)), (4, .lf (.int .u8 4))], []⟩ ?_ ?_
                  · exact ro_fin' [2, 3, 4] [] (by kernel_rfl)
                  · have hr := Option.some.inj h
                    subst hr
                    refine ji_ret fun a w hs => ⟨nofun, rfl, EnvLe.go ?_ hs⟩
                    exact le_pick [2, 3, 4] [] (by kernel_rfl)
                · refine ji_condF rfl hc3 ?_
                  obtain ⟨v4, h_v4, h⟩ := bind_some' h
                  refine ji_region ⟨[(2, .lf (.int .u64 (orI .u64 wv v4))), (5, .lf (.int .i64 v2)), (6, .lf (.int .u8 (x.toNat : Int))), (11, .sl Rp.byte [0] v), (12, .lf (.int .i64 (v.length : Int))), (13, .lf (.int .i64 v2))], []⟩ ?_ ?_
                  · refine ro_runp 6 [5, 6, 11, 12, 13, 24, 27, 29] [] ⟨[(5, .lf (.int .i64 v2)), (6, .lf (.int .u8 (x.toNat : Int))), (11, .sl Rp.byte [0] v), (12, .lf (.int .i64 (v.length : Int))), (13, .lf (.int .i64 v2)), (24, .lf (.int .u64 wv)), (27, .lf (.int .u64 (IntKind.u64.wrap (andI .u8 (x.toNat : Int) 127)))), (29, .lf (.int .i64 (IntKind.i64.wrap (7 * v2))))], []⟩ (by kernel_rfl) ?_
                    refine ro_step rfl (lo_shl rfl h_v4) ⟨rfl, rfl, trivial⟩ trivial rfl rfl ?_
                    exact ro_fin' [2, 5, 6, 11, 12, 13] [] (by kernel_rfl)
                  · refine ji_region ⟨[(2, .lf (.int .u64 (orI .u64 wv v4))), (5, .lf (.int .i64 v2)), (11, .sl Rp.byte [0] v), (12, .lf (.int .i64 (v.length : Int))), (13, .lf (.int .i64 v2)), (33, .lf (.bool (decide ((x.toNat : Int) < 128))))], []⟩ ?_ ?_
                    · exact ro_fin' [2, 5, 11, 12, 13, 33] [] (by kernel_rfl)
                    · rcases ite_some h with ⟨hc4, h⟩ | ⟨hc4, h⟩
                      · refine ji_condT rfl hc4 ?_
                        refine ji_region ⟨[(2, .lf (.int .u64 (orI .u64 wv v4))), (3, .lf (.int .i64 (IntKind.i64.wrap (v2 + 1)))), (4, .lf (.int .u8 0))], []⟩ ?_ ?_
                        · exact ro_fin' [2, 3, 4] [] (by kernel_rfl)
                        · have hr := Option.some.inj h
                          subst hr
                          refine ji_ret fun a w hs => ⟨nofun, rfl, EnvLe.go ?_ hs⟩
                          exact le_pick [2, 3, 4] [] (by kernel_rfl)
                      · refine ji_condF rfl hc4 ?_
                        refine ji_end ?_
                        refine ji_region ⟨[(2, .lf (.int .u64 (orI .u64 wv v4))), (11, .sl Rp.byte [0] v), (12, .lf (.int .i64 (v.length : Int))), (13, .lf (.int .i64 (IntKind.i64.wrap (v2 + 1))))], []⟩ ?_ ?_
                        · exact ro_fin' [2, 11, 12, 13] [] (by kernel_rfl)
                        · have hr := Option.some.inj h
                          subst hr
                          refine ji_nil fun a w hs => ⟨rfl, EnvLe.go ?_ hs⟩
                          exact le_pick [2, 11, 12, 13] [] (by kernel_rfl)
          · refine ji_condF rfl hc1 ?_
            have hr := Option.some.inj h
            subst hr
            refine ji_exitO rfl fun a w hs => ⟨nofun, rfl, EnvLe.go ?_ hs⟩
            exact le_pick [] [] (by kernel_rfl)
      · exact le_pick [2, 11, 12, 13] [] (by kernel_rfl)
      · cases q with
        | inl u =>
          refine k_exit _ rfl ?_
          refine ji_region ⟨[(2, .lf (.int .u64 0)), (3, .lf (.int .i64 0)), (4, .lf (.int .u8 3))], []⟩ ?_ ?_
          · exact ro_fin' [2, 3, 4] [] (by kernel_rfl)
          · have hr := Option.some.inj h
            subst hr
            refine ji_ret fun a w hs => ⟨rfl, EnvLe.go ?_ hs⟩
            exact le_pick [2, 3, 4] [] (by kernel_rfl)
        | inr u2 =>
          have hr := Option.some.inj h
          subst hr
          refine k_ret fun a w hs => ⟨rfl, EnvLe.go ?_ hs⟩
          exact le_pick [2, 3, 4] [] (by kernel_rfl)
theorem varint_Minimal_ok {b : (List UInt8)} {r : Bool} (h : varint_Minimal b = some r) : FnOk Try.prog 16 [.sl Rp.byte [0] b] [.lf (.bool r)] := by
  refine fn_intro' (E := ⟨[(2, .lf (.bool r))], []⟩) 32 Try.func16 rfl rfl rfl ⟨rfl, trivial⟩ (fun w0 F => ?_)
  refine ji_start ?_
  refine ji_le (E' := ⟨[(0, .sl Rp.byte [0] b)], []⟩) (fun _ _ _ hs => hs) ?_
  unfold varint_Minimal at h
  refine ji_region ⟨[(0, .sl Rp.byte [0] b)], []⟩ ?_ ?_
  · exact ro_fin' [0] [] (by kernel_rfl)
  · obtain ⟨rv, h_rv, h⟩ := bind_some' h
    refine ji_region ⟨[(0, .sl Rp.byte [0] b), (4, .lf (.int .i64 rv.2.1)), (5, .lf (.int .u8 rv.2.2))], []⟩ ?_ ?_
    · refine ro_runp 1 [0, 7] [] ⟨[(0, .sl Rp.byte [0] b), (7, .sl Rp.byte [0] b)], []⟩ (by kernel_rfl) ?_
      refine ro_step rfl (lo_call [.sl Rp.byte [0] b] [0] 9 rfl Try.call8 (varint_Read_ok h_rv) rfl rfl rfl rfl rfl) ⟨rfl, trivial⟩ trivial rfl rfl ?_
      exact ro_fin' [0, 4, 5] [] (by kernel_rfl)
    · obtain ⟨g, h_g, h⟩ := bind_some' h
      refine ji_region ⟨[(2, .lf (.bool g))], []⟩ ?_ ?_
      · refine ro_runp 3 [0, 4, 14] [] ⟨[(0, .sl Rp.byte [0] b), (4, .lf (.int .i64 rv.2.1)), (14, .lf (.bool (rv.2.2 == 0)))], []⟩ (by kernel_rfl) ?_
        refine ro_split 14 (rv.2.2 == 0) rfl (fun hc1 => ?_) (fun hc1 => ?_)
        · replace h_g := iteT h_g hc1
          refine ro_runp 6 [0, 4, 20] [] ⟨[(0, .sl Rp.byte [0] b), (4, .lf (.int .i64 rv.2.1)), (20, .lf (.bool (rv.2.1 == (b.length : Int))))], []⟩ (by kernel_rfl) ?_
          refine ro_split 20 (rv.2.1 == (b.length : Int)) rfl (fun hc2 => ?_) (fun hc2 => ?_)
          · replace h_g := iteT h_g hc2
            refine ro_runp 3 [0, 4, 20, 23] [] ⟨[(0, .sl Rp.byte [0] b), (4, .lf (.int .i64 rv.2.1)), (20, .lf (.bool true)), (23, .lf (.bool (rv.2.1 == 1)))], []⟩ (by kernel_rfl) ?_
            refine ro_split 23 (rv.2.1 == 1) rfl (fun hc3 => ?_) (fun hc3 => ?_)
            · replace h_g := iteT h_g hc3
              have hr := Option.some.inj h_g
              subst hr
              refine ro_runp 9 [2] [] ⟨[(2, .lf (.bool true))], []⟩ (by kernel_rfl) ?_
              refine ro_le ?_ ro_nil
              exact le_pick [2] [] (by kernel_rfl)
            · replace h_g := iteF h_g hc3
              obtain ⟨x, h_x, h_g⟩ := bind_some' h_g
              have hr := Option.some.inj h_g
              subst hr
              refine ro_runp 3 [20, 23, 24, 26] [] ⟨[(20, .lf (.bool true)), (23, .lf (.bool false)), (24, .sl Rp.byte [0] b), (26, .lf (.int .i64 (IntKind.i64.wrap (rv.2.1 - 1))))], []⟩ (by kernel_rfl) ?_
              refine ro_step rfl (lo_ix rfl zet22.el (isSl_sl _ _ _) h_x) ⟨rfl, rfl, trivial⟩ trivial rfl rfl ?_
              refine ro_runp 5 [2] [] ⟨[(2, .lf (.bool ((x.toNat : Int) != 0)))], []⟩ (by kernel_rfl) ?_
              refine ro_le ?_ ro_nil
              exact le_pick [2] [] (by kernel_rfl)
          · replace h_g := iteF h_g hc2
            have hr := Option.some.inj h_g
            subst hr
            refine ro_runp 12 [2] [] ⟨[(2, .lf (.bool false))], []⟩ (by kernel_rfl) ?_
            refine ro_le ?_ ro_nil
            exact le_pick [2] [] (by kernel_rfl)
        · replace h_g := iteF h_g hc1
          have hr := Option.some.inj h_g
          subst hr
          refine ro_runp 18 [2] [] ⟨[(2, .lf (.bool false))], []⟩ (by kernel_rfl) ?_
          refine ro_le ?_ ro_nil
          exact le_pick [2] [] (by kernel_rfl)
      · have hr := Option.some.inj h
        subst hr
        refine ji_ret fun a w hs => ⟨rfl, EnvLe.go ?_ hs⟩
        exact le_pick [2] [] (by kernel_rfl)
theorem darninglaw02_alive_ok  {r : Bool} (h : darninglaw02_alive = some r) : FnOk Try.prog 7 [] [.lf (.bool r)] := by
  refine fn_intro' (E := ⟨[(0, .lf (.bool r))], []⟩) 30 Try.func7 rfl rfl rfl ⟨rfl, trivial⟩ (fun w0 F => ?_)
  refine ji_start ?_
  refine ji_le (E' := ⟨[], []⟩) (fun _ _ _ hs => hs) ?_
  unfold darninglaw02_alive at h
  refine ji_region ⟨[], []⟩ ?_ ?_
  · exact ro_fin' [] [] (by kernel_rfl)
  · obtain ⟨rv, h_rv, h⟩ := bind_some' h
    refine ji_region ⟨[(1, .lf (.int .u64 rv.1)), (2, .lf (.int .i64 rv.2.1)), (3, .lf (.int .u8 rv.2.2))], []⟩ ?_ ?_
    · refine ro_step rfl (lo_bsl [.lf (.int .u8 128), .lf (.int .u8 1)] 11 [] [(128 : UInt8), (1 : UInt8)] rfl zet22 rfl rfl rfl rfl) ⟨rfl, rfl, trivial⟩ trivial rfl rfl ?_
      refine ro_runp 0 [5] [] ⟨[(5, .own Rp.byte 5 11 [] ([(128 : UInt8), (1 : UInt8)] : List UInt8))], []⟩ (by kernel_rfl) ?_
      refine ro_step rfl (lo_call [.own Rp.byte 5 11 [] ([(128 : UInt8), (1 : UInt8)] : List UInt8)] [11] 10 rfl Try.call8 (varint_Read_ok h_rv) rfl rfl rfl rfl rfl) ⟨rfl, trivial⟩ trivial rfl rfl ?_
      exact ro_fin' [1, 2, 3] [] (by kernel_rfl)
    · obtain ⟨g, h_g, h⟩ := bind_some' h
      refine ji_region ⟨[(0, .lf (.bool g))], []⟩ ?_ ?_
      · refine ro_runp 3 [2, 3, 12] [] ⟨[(2, .lf (.int .i64 rv.2.1)), (3, .lf (.int .u8 rv.2.2)), (12, .lf (.bool (rv.1 == 128)))], []⟩ (by kernel_rfl) ?_
        refine ro_split 12 (rv.1 == 128) rfl (fun hc1 => ?_) (fun hc1 => ?_)
        · replace h_g := iteT h_g hc1
          refine ro_runp 4 [3, 16] [] ⟨[(3, .lf (.int .u8 rv.2.2)), (16, .lf (.bool (rv.2.1 == 2)))], []⟩ (by kernel_rfl) ?_
          refine ro_split 16 (rv.2.1 == 2) rfl (fun hc2 => ?_) (fun hc2 => ?_)
          · replace h_g := iteT h_g hc2
            refine ro_runp 5 [21] [] ⟨[(21, .lf (.bool ((IntKind.i64.wrap rv.2.2) == 0)))], []⟩ (by kernel_rfl) ?_
            refine ro_split 21 ((IntKind.i64.wrap rv.2.2) == 0) rfl (fun hc3 => ?_) (fun hc3 => ?_)
            · replace h_g := iteT h_g hc3
              obtain ⟨rv2, h_rv2, h_g⟩ := bind_some' h_g
              refine ro_runp 0 [21] [] ⟨[(21, .lf (.bool true))], []⟩ (by kernel_rfl) ?_
              refine ro_step rfl (lo_bsl [.lf (.int .u8 128), .lf (.int .u8 0)] 12 [] [(128 : UInt8), (0 : UInt8)] rfl zet22 rfl rfl rfl rfl) ⟨rfl, rfl, trivial⟩ trivial rfl rfl ?_
              refine ro_runp 0 [21, 22] [] ⟨[(21, .lf (.bool true)), (22, .own Rp.byte 5 12 [] ([(128 : UInt8), (0 : UInt8)] : List UInt8))], []⟩ (by kernel_rfl) ?_
              refine ro_step rfl (lo_call [.own Rp.byte 5 12 [] ([(128 : UInt8), (0 : UInt8)] : List UInt8)] [12] 11 rfl Try.call16 (varint_Minimal_ok h_rv2) rfl rfl rfl rfl rfl) ⟨rfl, trivial⟩ trivial rfl rfl ?_
              refine ro_runp 3 [26] [] ⟨[(26, .lf (.bool (!rv2)))], []⟩ (by kernel_rfl) ?_
              refine ro_split 26 (!rv2) rfl (fun hc4 => ?_) (fun hc4 => ?_)
              · replace h_g := iteT h_g hc4
                obtain ⟨rv3, h_rv3, h_g⟩ := bind_some' h_g
                have hr := Option.some.inj h_g
                subst hr
                refine ro_runp 0 [26] [] ⟨[(26, .lf (.bool true))], []⟩ (by kernel_rfl) ?_
                refine ro_step rfl (lo_bsl [.lf (.int .u8 0)] 13 [] [(0 : UInt8)] rfl zet22 rfl rfl rfl rfl) ⟨rfl, trivial⟩ trivial rfl rfl ?_
                refine ro_runp 0 [26, 27] [] ⟨[(26, .lf (.bool true)), (27, .own Rp.byte 5 13 [] ([(0 : UInt8)] : List UInt8))], []⟩ (by kernel_rfl) ?_
                refine ro_step rfl (lo_call [.own Rp.byte 5 13 [] ([(0 : UInt8)] : List UInt8)] [13] 12 rfl Try.call16 (varint_Minimal_ok h_rv3) rfl rfl rfl rfl rfl) ⟨rfl, trivial⟩ trivial rfl rfl ?_
                refine ro_runp 2 [0] [] ⟨[(0, .lf (.bool rv3))], []⟩ (by kernel_rfl) ?_
                refine ro_le ?_ ro_nil
                exact le_pick [0] [] (by kernel_rfl)
              · replace h_g := iteF h_g hc4
                have hr := Option.some.inj h_g
                subst hr
                refine ro_runp 4 [0] [] ⟨[(0, .lf (.bool false))], []⟩ (by kernel_rfl) ?_
                refine ro_le ?_ ro_nil
                exact le_pick [0] [] (by kernel_rfl)
            · replace h_g := iteF h_g hc3
              have hr := Option.some.inj h_g
              subst hr
              refine ro_runp 9 [0] [] ⟨[(0, .lf (.bool false))], []⟩ (by kernel_rfl) ?_
              refine ro_le ?_ ro_nil
              exact le_pick [0] [] (by kernel_rfl)
          · replace h_g := iteF h_g hc2
            have hr := Option.some.inj h_g
            subst hr
            refine ro_runp 14 [0] [] ⟨[(0, .lf (.bool false))], []⟩ (by kernel_rfl) ?_
            refine ro_le ?_ ro_nil
            exact le_pick [0] [] (by kernel_rfl)
        · replace h_g := iteF h_g hc1
          have hr := Option.some.inj h_g
          subst hr
          refine ro_runp 18 [0] [] ⟨[(0, .lf (.bool false))], []⟩ (by kernel_rfl) ?_
          refine ro_le ?_ ro_nil
          exact le_pick [0] [] (by kernel_rfl)
      · have hr := Option.some.inj h
        subst hr
        refine ji_ret fun a w hs => ⟨rfl, EnvLe.go ?_ hs⟩
        exact le_pick [0] [] (by kernel_rfl)
theorem darningref02_Read_ok {b : (List UInt8)} {atv : Int} {r : (Int × Int × Int)} (h : darningref02_Read b atv = some r) : FnOk Try.prog 9 [.sl Rp.byte [0] b, .lf (.int .i64 atv)] [.lf (.int .u64 r.1), .lf (.int .i64 r.2.1), .lf (.int .i64 r.2.2)] := by
  refine fn_intro' (E := ⟨[(4, .lf (.int .u64 r.1)), (5, .lf (.int .i64 r.2.1)), (6, .lf (.int .i64 r.2.2))], []⟩) 69 Try.func9 rfl rfl rfl ⟨rfl, rfl, rfl, trivial⟩ (fun w0 F => ?_)
  refine ji_start ?_
  refine ji_le (E' := ⟨[(0, .sl Rp.byte [0] b), (1, .lf (.int .i64 atv))], []⟩) (fun _ _ _ hs => hs) ?_
  unfold darningref02_Read at h
  refine ji_region ⟨[(0, .sl Rp.byte [0] b), (1, .lf (.int .i64 atv))], []⟩ ?_ ?_
  · exact ro_fin' [0, 1] [] (by kernel_rfl)
  · refine ji_region ⟨[(0, .sl Rp.byte [0] b), (1, .lf (.int .i64 atv)), (7, .lf (.int .i64 0))], []⟩ ?_ ?_
    · exact ro_fin' [0, 1, 7] [] (by kernel_rfl)
    · refine ji_block ?_
      obtain ⟨q, h_q, h⟩ := bind_some' h
      refine ji_loop (fun s : Int => darningref02_Read_b1 atv b s) (fun s => Sx ⟨69, w0, F⟩ ⟨[(0, .sl Rp.byte [0] b), (1, .lf (.int .i64 atv)), (7, .lf (.int .i64 s))], []⟩) (fun o e a w => e = .exit 0 ∧ Sx ⟨69, w0, F⟩ ⟨[(0, .sl Rp.byte [0] b), (1, .lf (.int .i64 atv)), (7, .lf (.int .i64 o))], []⟩ a w) ?_ h_q (fun a w hs => EnvLe.go ?_ hs) ?_
      · clear h
        intro n o h
        refine ji_start ?_
        refine ji_le (E' := ⟨[(0, .sl Rp.byte [0] b), (1, .lf (.int .i64 atv)), (7, .lf (.int .i64 n))], []⟩) (fun _ _ _ hs => hs) ?_
        replace h : darningref02_Read_b1 atv b n = some o := h
        unfold darningref02_Read_b1 at h
        obtain ⟨g, h_g, h⟩ := bind_some' h
        refine ji_region ⟨[(0, .sl Rp.byte [0] b), (1, .lf (.int .i64 atv)), (7, .lf (.int .i64 n)), (28, .lf (.bool g))], []⟩ ?_ ?_
        · refine ro_runp 7 [0, 1, 7, 16] [] ⟨[(0, .sl Rp.byte [0] b), (1, .lf (.int .i64 atv)), (7, .lf (.int .i64 n)), (16, .lf (.bool (decide ((IntKind.i64.wrap (atv + n)) < (b.length : Int)))))], []⟩ (by kernel_rfl) ?_
          refine ro_split 16 (decide ((IntKind.i64.wrap (atv + n)) < (b.length : Int))) rfl (fun hc1 => ?_) (fun hc1 => ?_)
          · replace h_g := iteT h_g hc1
            refine ro_runp 4 [0, 1, 7, 20] [] ⟨[(0, .sl Rp.byte [0] b), (1, .lf (.int .i64 atv)), (7, .lf (.int .i64 n)), (20, .lf (.bool (decide (n < 10))))], []⟩ (by kernel_rfl) ?_
            refine ro_split 20 (decide (n < 10)) rfl (fun hc2 => ?_) (fun hc2 => ?_)
            · replace h_g := iteT h_g hc2
              obtain ⟨x, h_x, h_g⟩ := bind_some' h_g
              have hr := Option.some.inj h_g
              subst hr
              refine ro_runp 4 [0, 1, 7, 20, 21, 24] [] ⟨[(0, .sl Rp.byte [0] b), (1, .lf (.int .i64 atv)), (7, .lf (.int .i64 n)), (20, .lf (.bool true)), (21, .sl Rp.byte [0] b), (24, .lf (.int .i64 (IntKind.i64.wrap (atv + n))))], []⟩ (by kernel_rfl) ?_
              refine ro_step rfl (lo_ix rfl zet22.el (isSl_sl _ _ _) h_x) ⟨rfl, rfl, trivial⟩ trivial rfl rfl ?_
              refine ro_runp 3 [0, 1, 7, 28] [] ⟨[(0, .sl Rp.byte [0] b), (1, .lf (.int .i64 atv)), (7, .lf (.int .i64 n)), (28, .lf (.bool (decide ((x.toNat : Int) ≥ 128))))], []⟩ (by kernel_rfl) ?_
              refine ro_le ?_ ro_nil
              exact le_pick [0, 1, 7, 28] [] (by kernel_rfl)
            · replace h_g := iteF h_g hc2
              have hr := Option.some.inj h_g
              subst hr
              refine ro_runp 8 [0, 1, 7, 28] [] ⟨[(0, .sl Rp.byte [0] b), (1, .lf (.int .i64 atv)), (7, .lf (.int .i64 n)), (28, .lf (.bool false))], []⟩ (by kernel_rfl) ?_
              refine ro_le ?_ ro_nil
              exact le_pick [0, 1, 7, 28] [] (by kernel_rfl)
          · replace h_g := iteF h_g hc1
            have hr := Option.some.inj h_g
            subst hr
            refine ro_runp 12 [0, 1, 7, 28] [] ⟨[(0, .sl Rp.byte [0] b), (1, .lf (.int .i64 atv)), (7, .lf (.int .i64 n)), (28, .lf (.bool false))], []⟩ (by kernel_rfl) ?_
            refine ro_le ?_ ro_nil
            exact le_pick [0, 1, 7, 28] [] (by kernel_rfl)
        · rcases ite_some h with ⟨hc3, h⟩ | ⟨hc3, h⟩
          · refine ji_condT rfl hc3 ?_
            refine ji_block ?_
            refine ji_region ⟨[(0, .sl Rp.byte [0] b), (1, .lf (.int .i64 atv)), (7, .lf (.int .i64 (IntKind.i64.wrap (n + 1))))], []⟩ ?_ ?_
            · exact ro_fin' [0, 1, 7] [] (by kernel_rfl)
            · refine ji_end ?_
              have hr := Option.some.inj h
              subst hr
              refine ji_nil fun a w hs => ⟨rfl, EnvLe.go ?_ hs⟩
              exact le_pick [0, 1, 7] [] (by kernel_rfl)
          · refine ji_condF rfl hc3 ?_
            have hr := Option.some.inj h
            subst hr
            refine ji_exitO rfl fun a w hs => ⟨nofun, rfl, EnvLe.go ?_ hs⟩
            exact le_pick [0, 1, 7] [] (by kernel_rfl)
      · exact le_pick [0, 1, 7] [] (by kernel_rfl)
      · refine k_exit _ rfl ?_
        refine ji_region ⟨[(0, .sl Rp.byte [0] b), (1, .lf (.int .i64 atv)), (7, .lf (.int .i64 q)), (32, .lf (.bool (q == 10)))], []⟩ ?_ ?_
        · exact ro_fin' [0, 1, 7, 32] [] (by kernel_rfl)
        · rcases ite_some h with ⟨hc4, h⟩ | ⟨hc4, h⟩
          · refine ji_condT rfl hc4 ?_
            refine ji_region ⟨[(4, .lf (.int .u64 0)), (5, .lf (.int .i64 0)), (6, .lf (.int .i64 4))], []⟩ ?_ ?_
            · exact ro_fin' [4, 5, 6] [] (by kernel_rfl)
            · have hr := Option.some.inj h
              subst hr
              refine ji_ret fun a w hs => ⟨rfl, EnvLe.go ?_ hs⟩
              exact le_pick [4, 5, 6] [] (by kernel_rfl)
          · refine ji_condF rfl hc4 ?_
            refine ji_region ⟨[(0, .sl Rp.byte [0] b), (1, .lf (.int .i64 atv)), (7, .lf (.int .i64 q)), (38, .lf (.bool ((IntKind.i64.wrap (atv + q)) == (b.length : Int))))], []⟩ ?_ ?_
            · exact ro_fin' [0, 1, 7, 38] [] (by kernel_rfl)
            · rcases ite_some h with ⟨hc5, h⟩ | ⟨hc5, h⟩
              · refine ji_condT rfl hc5 ?_
                refine ji_region ⟨[(4, .lf (.int .u64 0)), (5, .lf (.int .i64 0)), (6, .lf (.int .i64 3))], []⟩ ?_ ?_
                · exact ro_fin' [4, 5, 6] [] (by kernel_rfl)
                · have hr := Option.some.inj h
                  subst hr
                  refine ji_ret fun a w hs => ⟨rfl, EnvLe.go ?_ hs⟩
                  exact le_pick [4, 5, 6] [] (by kernel_rfl)
              · refine ji_condF rfl hc5 ?_
                obtain ⟨g2, h_g2, h⟩ := bind_some' h
                refine ji_region ⟨[(0, .sl Rp.byte [0] b), (1, .lf (.int .i64 atv)), (7, .lf (.int .i64 q)), (49, .lf (.bool g2))], []⟩ ?_ ?_
                · refine ro_runp 3 [0, 1, 7, 41] [] ⟨[(0, .sl Rp.byte [0] b), (1, .lf (.int .i64 atv)), (7, .lf (.int .i64 q)), (41, .lf (.bool (q == 9)))], []⟩ (by kernel_rfl) ?_
                  refine ro_split 41 (q == 9) rfl (fun hc6 => ?_) (fun hc6 => ?_)
                  · replace h_g2 := iteT h_g2 hc6
                    obtain ⟨x2, h_x2, h_g2⟩ := bind_some' h_g2
                    have hr := Option.some.inj h_g2
                    subst hr
                    refine ro_runp 4 [0, 1, 7, 41, 42, 45] [] ⟨[(0, .sl Rp.byte [0] b), (1, .lf (.int .i64 atv)), (7, .lf (.int .i64 q)), (41, .lf (.bool true)), (42, .sl Rp.byte [0] b), (45, .lf (.int .i64 (IntKind.i64.wrap (atv + q))))], []⟩ (by kernel_rfl) ?_
                    refine ro_step rfl (lo_ix rfl zet22.el (isSl_sl _ _ _) h_x2) ⟨rfl, rfl, trivial⟩ trivial rfl rfl ?_
                    refine ro_runp 3 [0, 1, 7, 49] [] ⟨[(0, .sl Rp.byte [0] b), (1, .lf (.int .i64 atv)), (7, .lf (.int .i64 q)), (49, .lf (.bool (decide ((x2.toNat : Int) > 1))))], []⟩ (by kernel_rfl) ?_
                    refine ro_le ?_ ro_nil
                    exact le_pick [0, 1, 7, 49] [] (by kernel_rfl)
                  · replace h_g2 := iteF h_g2 hc6
                    have hr := Option.some.inj h_g2
                    subst hr
                    refine ro_runp 8 [0, 1, 7, 49] [] ⟨[(0, .sl Rp.byte [0] b), (1, .lf (.int .i64 atv)), (7, .lf (.int .i64 q)), (49, .lf (.bool false))], []⟩ (by kernel_rfl) ?_
                    refine ro_le ?_ ro_nil
                    exact le_pick [0, 1, 7, 49] [] (by kernel_rfl)
                · rcases ite_some h with ⟨hc7, h⟩ | ⟨hc7, h⟩
                  · refine ji_condT rfl hc7 ?_
                    refine ji_region ⟨[(4, .lf (.int .u64 0)), (5, .lf (.int .i64 0)), (6, .lf (.int .i64 4))], []⟩ ?_ ?_
                    · exact ro_fin' [4, 5, 6] [] (by kernel_rfl)
                    · have hr := Option.some.inj h
                      subst hr
                      refine ji_ret fun a w hs => ⟨rfl, EnvLe.go ?_ hs⟩
                      exact le_pick [4, 5, 6] [] (by kernel_rfl)
                  · refine ji_condF rfl hc7 ?_
                    refine ji_region ⟨[(0, .sl Rp.byte [0] b), (1, .lf (.int .i64 atv)), (7, .lf (.int .i64 q)), (8, .lf (.int .u64 0))], []⟩ ?_ ?_
                    · exact ro_fin' [0, 1, 7, 8] [] (by kernel_rfl)
                    · refine ji_region ⟨[(0, .sl Rp.byte [0] b), (1, .lf (.int .i64 atv)), (7, .lf (.int .i64 q)), (8, .lf (.int .u64 0)), (9, .lf (.int .i64 q))], []⟩ ?_ ?_
                      · exact ro_fin' [0, 1, 7, 8, 9] [] (by kernel_rfl)
                      · refine ji_block ?_
                        obtain ⟨q2, h_q2, h⟩ := bind_some' h
                        refine ji_loop (fun s : (Int × Int) => darningref02_Read_b2 atv b s.1 s.2) (fun s => Sx ⟨69, w0, F⟩ ⟨[(0, .sl Rp.byte [0] b), (1, .lf (.int .i64 atv)), (7, .lf (.int .i64 q)), (8, .lf (.int .u64 s.1)), (9, .lf (.int .i64 s.2))], []⟩) (fun o e a w => e = .exit 2 ∧ Sx ⟨69, w0, F⟩ ⟨[(7, .lf (.int .i64 q)), (8, .lf (.int .u64 o))], []⟩ a w) ?_ h_q2 (fun a w hs => EnvLe.go ?_ hs) ?_
                        · clear h
                          intro s o h
                          obtain ⟨wv, i⟩ := s
                          refine ji_start ?_
                          refine ji_le (E' := ⟨[(0, .sl Rp.byte [0] b), (1, .lf (.int .i64 atv)), (7, .lf (.int .i64 q)), (8, .lf (.int .u64 wv)), (9, .lf (.int .i64 i))], []⟩) (fun _ _ _ hs => hs) ?_
                          replace h : darningref02_Read_b2 atv b wv i = some o := h
                          unfold darningref02_Read_b2 at h
                          refine ji_region ⟨[(0, .sl Rp.byte [0] b), (1, .lf (.int .i64 atv)), (7, .lf (.int .i64 q)), (8, .lf (.int .u64 wv)), (9, .lf (.int .i64 i)), (52, .lf (.bool (decide (i ≥ 0))))], []⟩ ?_ ?_
                          · exact ro_fin' [0, 1, 7, 8, 9, 52] [] (by kernel_rfl)
                          · rcases ite_some h with ⟨hc8, h⟩ | ⟨hc8, h⟩
                            · refine ji_condT rfl hc8 ?_
                              refine ji_block ?_
                              obtain ⟨x3, h_x3, h⟩ := bind_some' h
                              refine ji_region ⟨[(0, .sl Rp.byte [0] b), (1, .lf (.int .i64 atv)), (7, .lf (.int .i64 q)), (8, .lf (.int .u64 (IntKind.u64.wrap ((IntKind.u64.wrap (128 * wv)) + (IntKind.u64.wrap (Int.tmod (x3.toNat : Int) 128)))))), (9, .lf (.int .i64 i))], []⟩ ?_ ?_
                              · refine ro_runp 6 [0, 1, 7, 9, 56, 57, 60] [] ⟨[(0, .sl Rp.byte [0] b), (1, .lf (.int .i64 atv)), (7, .lf (.int .i64 q)), (9, .lf (.int .i64 i)), (56, .lf (.int .u64 (IntKind.u64.wrap (128 * wv)))), (57, .sl Rp.byte [0] b), (60, .lf (.int .i64 (IntKind.i64.wrap (atv + i))))], []⟩ (by kernel_rfl) ?_
                                refine ro_step rfl (lo_ix rfl zet22.el (isSl_sl _ _ _) h_x3) ⟨rfl, rfl, trivial⟩ trivial rfl rfl ?_
                                exact ro_fin' [0, 1, 7, 8, 9] [] (by kernel_rfl)
                              · refine ji_end ?_
                                refine ji_region ⟨[(0, .sl Rp.byte [0] b), (1, .lf (.int .i64 atv)), (7, .lf (.int .i64 q)), (8, .lf (.int .u64 (IntKind.u64.wrap ((IntKind.u64.wrap (128 * wv)) + (IntKind.u64.wrap (Int.tmod (x3.toNat : Int) 128)))))), (9, .lf (.int .i64 (IntKind.i64.wrap (i - 1))))], []⟩ ?_ ?_
                                · exact ro_fin' [0, 1, 7, 8, 9] [] (by kernel_rfl)
                                · have hr := Option.some.inj h
                                  subst hr
                                  refine ji_nil fun a w hs => ⟨rfl, EnvLe.go ?_ hs⟩
                                  exact le_pick [0, 1, 7, 8, 9] [] (by kernel_rfl)
                            · refine ji_condF rfl hc8 ?_
                              have hr := Option.some.inj h
                              subst hr
                              refine ji_exitO rfl fun a w hs => ⟨nofun, rfl, EnvLe.go ?_ hs⟩
                              exact le_pick [7, 8] [] (by kernel_rfl)
                        · exact le_pick [0, 1, 7, 8, 9] [] (by kernel_rfl)
                        · refine k_exit _ rfl ?_
                          refine ji_region ⟨[(4, .lf (.int .u64 q2)), (5, .lf (.int .i64 (IntKind.i64.wrap (q + 1)))), (6, .lf (.int .i64 0))], []⟩ ?_ ?_
                          · exact ro_fin' [4, 5, 6] [] (by kernel_rfl)
                          · have hr := Option.some.inj h
                            subst hr
                            refine ji_ret fun a w hs => ⟨rfl, EnvLe.go ?_ hs⟩
                            exact le_pick [4, 5, 6] [] (by kernel_rfl)
theorem varint_Skip_ok {b : (List UInt8)} {r : (Int × Int)} (h : varint_Skip b = some r) : FnOk Try.prog 10 [.sl Rp.byte [0] b] [.lf (.int .i64 r.1), .lf (.int .u8 r.2)] := by
  refine fn_intro' (E := ⟨[(2, .lf (.int .i64 r.1)), (3, .lf (.int .u8 r.2))], []⟩) 15 Try.func10 rfl rfl rfl ⟨rfl, rfl, trivial⟩ (fun w0 F => ?_)
  refine ji_start ?_
  refine ji_le (E' := ⟨[(0, .sl Rp.byte [0] b)], []⟩) (fun _ _ _ hs => hs) ?_
  unfold varint_Skip at h
  refine ji_region ⟨[(0, .sl Rp.byte [0] b)], []⟩ ?_ ?_
  · exact ro_fin' [0] [] (by kernel_rfl)
  · obtain ⟨rv, h_rv, h⟩ := bind_some' h
    refine ji_region ⟨[(5, .lf (.int .i64 rv.2.1)), (6, .lf (.int .u8 rv.2.2))], []⟩ ?_ ?_
    · refine ro_runp 1 [8] [] ⟨[(8, .sl Rp.byte [0] b)], []⟩ (by kernel_rfl) ?_
      refine ro_step rfl (lo_call [.sl Rp.byte [0] b] [0] 9 rfl Try.call8 (varint_Read_ok h_rv) rfl rfl rfl rfl rfl) ⟨rfl, trivial⟩ trivial rfl rfl ?_
      exact ro_fin' [5, 6] [] (by kernel_rfl)
    · refine ji_region ⟨[(2, .lf (.int .i64 rv.2.1)), (3, .lf (.int .u8 rv.2.2))], []⟩ ?_ ?_
      · exact ro_fin' [2, 3] [] (by kernel_rfl)
      · have hr := Option.some.inj h
        subst hr
        refine ji_ret fun a w hs => ⟨rfl, EnvLe.go ?_ hs⟩
        exact le_pick [2, 3] [] (by kernel_rfl)
theorem varint_All_ok {b : (List UInt8)} {r : ((List Int) × Int)} (h : varint_All b = some r) : FnOk Try.prog 11 [.sl Rp.byte [0] b] [.own (Rp.int .u64) 24 2 [] r.1, .lf (.int .u8 r.2)] := by
  refine fn_intro' (E := ⟨[(2, .own (Rp.int .u64) 24 2 [] r.1), (3, .lf (.int .u8 r.2))], []⟩) 28 Try.func11 rfl rfl rfl ⟨rfl, rfl, trivial⟩ (fun w0 F => ?_)
  refine ji_start ?_
  refine ji_le (E' := ⟨[(0, .sl Rp.byte [0] b)], []⟩) (fun _ _ _ hs => hs) ?_
  unfold varint_All at h
  refine ji_region ⟨[(0, .sl Rp.byte [0] b)], []⟩ ?_ ?_
  · exact ro_fin' [0] [] (by kernel_rfl)
  · refine ji_region ⟨[(0, .sl Rp.byte [0] b), (4, .lf (.val (.slice none 0 0)))], []⟩ ?_ ?_
    · exact ro_fin' [0, 4] [] (by kernel_rfl)
    · refine ji_block ?_
      obtain ⟨q, h_q, h⟩ := bind_some' h
      refine ji_loop (fun s : ((List UInt8) × (List Int)) => varint_All_b1 s.1 s.2) (fun s => Sx ⟨28, w0, F⟩ ⟨[(0, .sl Rp.byte [0] s.1), (4, .own (Rp.int .u64) 24 12 [] s.2)], []⟩) (fun o e a w => match o with | (.inl v_) => e = .exit 0 ∧ Sx ⟨28, w0, F⟩ ⟨[(4, .own (Rp.int .u64) 24 12 [] v_)], []⟩ a w | (.inr v_) => e = .ret ∧ Sx ⟨28, w0, F⟩ ⟨[(2, .lf (.val (.slice none 0 0))), (3, .lf (.int .u8 v_))], []⟩ a w) ?_ h_q (fun a w hs => EnvLe.go ?_ hs) ?_
      · clear h
        intro s o h
        obtain ⟨b2, l⟩ := s
        refine ji_start ?_
        refine ji_le (E' := ⟨[(0, .sl Rp.byte [0] b2), (4, .own (Rp.int .u64) 24 12 [] l)], []⟩) (fun _ _ _ hs => hs) ?_
        replace h : varint_All_b1 b2 l = some o := h
        unfold varint_All_b1 at h
        refine ji_region ⟨[(0, .sl Rp.byte [0] b2), (4, .own (Rp.int .u64) 24 12 [] l), (10, .lf (.bool (decide ((b2.length : Int) > 0))))], []⟩ ?_ ?_
        · exact ro_fin' [0, 4, 10] [] (by kernel_rfl)
        · rcases ite_some h with ⟨hc1, h⟩ | ⟨hc1, h⟩
          · refine ji_condT rfl hc1 ?_
            refine ji_block ?_
            obtain ⟨rv, h_rv, h⟩ := bind_some' h
            refine ji_region ⟨[(0, .sl Rp.byte [0] b2), (4, .own (Rp.int .u64) 24 12 [] l), (5, .lf (.int .u64 rv.1)), (6, .lf (.int .i64 rv.2.1)), (7, .lf (.int .u8 rv.2.2))], []⟩ ?_ ?_
            · refine ro_runp 1 [0, 4, 12] [] ⟨[(0, .sl Rp.byte [0] b2), (4, .own (Rp.int .u64) 24 12 [] l), (12, .sl Rp.byte [0] b2)], []⟩ (by kernel_rfl) ?_
              refine ro_step rfl (lo_call [.sl Rp.byte [0] b2] [0] 9 rfl Try.call8 (varint_Read_ok h_rv) rfl rfl rfl rfl rfl) ⟨rfl, trivial⟩ trivial rfl rfl ?_
              exact ro_fin' [0, 4, 5, 6, 7] [] (by kernel_rfl)
            · refine ji_region ⟨[(0, .sl Rp.byte [0] b2), (4, .own (Rp.int .u64) 24 12 [] l), (5, .lf (.int .u64 rv.1)), (6, .lf (.int .i64 rv.2.1)), (7, .lf (.int .u8 rv.2.2)), (18, .lf (.bool (rv.2.2 != 0)))], []⟩ ?_ ?_
              · exact ro_fin' [0, 4, 5, 6, 7, 18] [] (by kernel_rfl)
              · rcases ite_some h with ⟨hc2, h⟩ | ⟨hc2, h⟩
                · refine ji_condT rfl hc2 ?_
                  refine ji_region ⟨[(2, .lf (.val (.slice none 0 0))), (3, .lf (.int .u8 rv.2.2))], []⟩ ?_ ?_
                  · exact ro_fin' [2, 3] [] (by kernel_rfl)
                  · have hr := Option.some.inj h
                    subst hr
                    refine ji_ret fun a w hs => ⟨nofun, rfl, EnvLe.go ?_ hs⟩
                    exact le_pick [2, 3] [] (by kernel_rfl)
                · refine ji_condF rfl hc2 ?_
                  obtain ⟨v2, h_v2, h⟩ := bind_some' h
                  refine ji_region ⟨[(0, .sl Rp.byte [0] b2), (4, .own (Rp.int .u64) 24 12 [] v2), (6, .lf (.int .i64 rv.2.1))], []⟩ ?_ ?_
                  · refine ro_runp 2 [0, 6, 20, 21] [] ⟨[(0, .sl Rp.byte [0] b2), (6, .lf (.int .i64 rv.2.1)), (20, .own (Rp.int .u64) 24 12 [] l), (21, .lf (.int .u64 rv.1))], []⟩ (by kernel_rfl) ?_
                    refine ro_step rfl (lo_bsl [.lf (.int .u64 rv.1)] 11 [] ([rv.1] : (List Int)) rfl zet32 rfl rfl rfl rfl) ⟨rfl, trivial⟩ trivial rfl rfl ?_
                    refine ro_runp 0 [0, 6, 20, 22] [] ⟨[(0, .sl Rp.byte [0] b2), (6, .lf (.int .i64 rv.2.1)), (20, .own (Rp.int .u64) 24 12 [] l), (22, .own (Rp.int .u64) 24 11 [] ([rv.1] : (List Int)))], []⟩ (by kernel_rfl) ?_
                    refine ro_step rfl (lo_app 12 [] rfl zet32.el rfl (isOwn_own _ _ _ _ _) (isSl_own _ _ _ _ _) h_v2 (.inl (plain_int _)) rfl) ⟨rfl, rfl, trivial⟩ trivial rfl rfl ?_
                    exact ro_fin' [0, 4, 6] [] (by kernel_rfl)
                  · obtain ⟨v3, h_v3, h⟩ := bind_some' h
                    refine ji_region ⟨[(0, .sl Rp.byte [0] v3), (4, .own (Rp.int .u64) 24 12 [] v2)], []⟩ ?_ ?_
                    · refine ro_runp 2 [4, 24, 25] [] ⟨[(4, .own (Rp.int .u64) 24 12 [] v2), (24, .sl Rp.byte [0] b2), (25, .lf (.int .i64 rv.2.1))], []⟩ (by kernel_rfl) ?_
                      refine ro_step rfl (lo_cut (some (.lf (.int .i64 rv.2.1))) none rfl zet22.el (isSl_sl _ _ _) ⟨rfl, rfl⟩ ⟨rfl, rfl⟩ h_v3) ⟨rfl, rfl, trivial⟩ trivial rfl rfl ?_
                      exact ro_fin' [0, 4] [] (by kernel_rfl)
                    · refine ji_end ?_
                      have hr := Option.some.inj h
                      subst hr
                      refine ji_nil fun a w hs => ⟨rfl, EnvLe.go ?_ hs⟩
                      exact le_pick [0, 4] [] (by kernel_rfl)
          · refine ji_condF rfl hc1 ?_
            have hr := Option.some.inj h
            subst hr
            refine ji_exitO rfl fun a w hs => ⟨nofun, rfl, EnvLe.go ?_ hs⟩
            exact le_pick [4] [] (by kernel_rfl)
      · refine EnvLe.trans (le_as 4 (.own (Rp.int .u64) 24 12 [] []) rfl (le_own_nil (Rp.int .u64) 24 12 [] rfl)) ?_
        exact le_pick [0, 4] [] (by kernel_rfl)
      · cases q with
        | inl u =>
          refine k_exit _ rfl ?_
          refine ji_region ⟨[(2, .own (Rp.int .u64) 24 12 [] u), (3, .lf (.int .u8 0))], []⟩ ?_ ?_
          · exact ro_fin' [2, 3] [] (by kernel_rfl)
          · have hr := Option.some.inj h
            subst hr
            refine ji_ret fun a w hs => ⟨rfl, EnvLe.go ?_ hs⟩
            refine EnvLe.trans (le_pick (E' := ⟨[(2, .own (Rp.int .u64) 24 12 [] u), (3, .lf (.int .u8 0))], []⟩) [2, 3] [] (by kernel_rfl)) ?_
            refine EnvLe.trans (le_ren 12 2 rfl) ?_
            refine EnvLe.trans (le_pick (E' := ⟨[(2, .own (Rp.int .u64) 24 2 [] u), (3, .lf (.int .u8 0))], []⟩) [2, 3] [] (by kernel_rfl)) ?_
            exact le_pick [2, 3] [] (by kernel_rfl)
        | inr u2 =>
          have hr := Option.some.inj h
          subst hr
          refine k_ret fun a w hs => ⟨rfl, EnvLe.go ?_ hs⟩
          refine EnvLe.trans (le_as 2 (.own (Rp.int .u64) 24 2 [] (([], u2) : ((List Int) × Int)).1) rfl (le_own_nil (Rp.int .u64) 24 2 [] rfl)) ?_
          exact le_pick [2, 3] [] (by kernel_rfl)
end Go.Proofs.Ytnpfdmlfeealgaa
