/-
  The Go functions do what the plain functions say. No condition.
-/
import Derived.Test.YtnpfdmlfeealgaaG2
namespace Go.Proofs.Ytnpfdmlfeealgaa
open Go Go.RowKit
set_option linter.unusedVariables false
theorem varint_Put_ok {b : (List UInt8)} {wv : Int} {r : (List UInt8)} (h : varint_Put b wv = some r) : FnOk Try.prog 17 [.sl Rp.byte [0] b, .lf (.int .u64 wv)] [.own Rp.byte 5 2 [] r] := by
  refine fn_intro' (E := ⟨[(4, .own Rp.byte 5 2 [] r)], []⟩) 30 Try.func17 rfl rfl rfl ⟨rfl, trivial⟩ (fun w0 F => ?_)
  refine ji_start ?_
  refine ji_le (E' := ⟨[(0, .sl Rp.byte [0] b), (1, .lf (.int .u64 wv))], []⟩) (fun _ _ _ hs => hs) ?_
  unfold varint_Put at h
  refine ji_region ⟨[(0, .sl Rp.byte [0] b), (1, .lf (.int .u64 wv))], []⟩ ?_ ?_
  · exact ro_fin' [0, 1] [] (by kernel_rfl)
  · obtain ⟨rv, h_rv, h⟩ := bind_some' h
    obtain ⟨v, h_v, h⟩ := bind_some' h
    refine ji_region ⟨[(0, .sl Rp.byte [0] b), (1, .lf (.int .u64 wv)), (5, .own Rp.byte 5 11 [] v)], []⟩ ?_ ?_
    · refine ro_runp 3 [0, 1, 7, 8] [] ⟨[(0, .sl Rp.byte [0] b), (1, .lf (.int .u64 wv)), (7, .lf (.int .i64 (b.length : Int))), (8, .lf (.int .u64 wv))], []⟩ (by kernel_rfl) ?_
      refine ro_step rfl (lo_call [.lf (.int .u64 wv)] [1] 9 rfl Try.call18 (bits_Len_ok h_rv) rfl rfl rfl rfl rfl) ⟨rfl, trivial⟩ trivial rfl rfl ?_
      refine ro_runp 1 [0, 1, 10] [] ⟨[(0, .sl Rp.byte [0] b), (1, .lf (.int .u64 wv)), (10, .lf (.int .i64 (IntKind.i64.wrap ((b.length : Int) + rv))))], []⟩ (by kernel_rfl) ?_
      refine ro_step rfl (lo_make 11 rfl zet22 rfl h_v) ⟨rfl, rfl, trivial⟩ trivial rfl rfl ?_
      exact ro_fin' [0, 1, 5] [] (by kernel_rfl)
    · obtain ⟨v2, h_v2, h⟩ := bind_some' h
      refine ji_region ⟨[(1, .lf (.int .u64 wv)), (5, .own Rp.byte 5 11 [] v2)], []⟩ ?_ ?_
      · refine ro_runp 2 [1, 12, 13] [] ⟨[(1, .lf (.int .u64 wv)), (12, .own Rp.byte 5 11 [] v), (13, .sl Rp.byte [0] b)], []⟩ (by kernel_rfl) ?_
        refine ro_step rfl (lo_app 11 [] rfl zet22.el rfl (isOwn_own _ _ _ _ _) (isSl_sl _ _ _) h_v2 (.inl plain_byte) rfl) ⟨rfl, rfl, trivial⟩ trivial rfl rfl ?_
        exact ro_fin' [1, 5] [] (by kernel_rfl)
      · refine ji_block ?_
        obtain ⟨q, h_q, h⟩ := bind_some' h
        refine ji_loop (fun s : (Int × (List UInt8)) => varint_Put_b1 s.1 s.2) (fun s => Sx ⟨30, w0, F⟩ ⟨[(1, .lf (.int .u64 s.1)), (5, .own Rp.byte 5 11 [] s.2)], []⟩) (fun o e a w => e = .exit 0 ∧ Sx ⟨30, w0, F⟩ ⟨[(1, .lf (.int .u64 o.1)), (5, .own Rp.byte 5 11 [] o.2)], []⟩ a w) ?_ h_q (fun a w hs => EnvLe.go ?_ hs) ?_
        · clear h
          intro s o h
          obtain ⟨wv2, l⟩ := s
          refine ji_start ?_
          refine ji_le (E' := ⟨[(1, .lf (.int .u64 wv2)), (5, .own Rp.byte 5 11 [] l)], []⟩) (fun _ _ _ hs => hs) ?_
          replace h : varint_Put_b1 wv2 l = some o := h
          unfold varint_Put_b1 at h
          refine ji_region ⟨[(1, .lf (.int .u64 wv2)), (5, .own Rp.byte 5 11 [] l), (16, .lf (.bool (decide (wv2 ≥ 128))))], []⟩ ?_ ?_
          · exact ro_fin' [1, 5, 16] [] (by kernel_rfl)
          · rcases ite_some h with ⟨hc1, h⟩ | ⟨hc1, h⟩
            · refine ji_condT rfl hc1 ?_
              refine ji_block ?_
              obtain ⟨y, h_y, h⟩ := bind_some' h
              obtain ⟨v3, h_v3, h⟩ := bind_some' h
              refine ji_region ⟨[(1, .lf (.int .u64 wv2)), (5, .own Rp.byte 5 11 [] v3)], []⟩ ?_ ?_
              · refine ro_runp 4 [1, 19, 22] [] ⟨[(1, .lf (.int .u64 wv2)), (19, .own Rp.byte 5 11 [] l), (22, .lf (.int .u8 (orI .u8 (IntKind.u8.wrap wv2) 128)))], []⟩ (by kernel_rfl) ?_
                refine ro_step rfl (LocalOk.le (ins' := [(.tmp 22, .lf (.int .u8 (orI .u8 (IntKind.u8.wrap wv2) 128)))]) (lo_bsl [.lf (.int .u8 (y.toNat : Int))] 12 [] [y] rfl zet22 rfl rfl rfl rfl) ⟨⟨rfl, le_byte h_y⟩, trivial⟩) ⟨rfl, trivial⟩ trivial rfl rfl ?_
                refine ro_runp 0 [1, 19, 23] [] ⟨[(1, .lf (.int .u64 wv2)), (19, .own Rp.byte 5 11 [] l), (23, .own Rp.byte 5 12 [] ([y] : List UInt8))], []⟩ (by kernel_rfl) ?_
                refine ro_step rfl (lo_app 11 [] rfl zet22.el rfl (isOwn_own _ _ _ _ _) (isSl_own _ _ _ _ _) h_v3 (.inl plain_byte) rfl) ⟨rfl, rfl, trivial⟩ trivial rfl rfl ?_
                exact ro_fin' [1, 5] [] (by kernel_rfl)
              · refine ji_end ?_
                refine ji_region ⟨[(1, .lf (.int .u64 (shrI .u64 wv2 7))), (5, .own Rp.byte 5 11 [] v3)], []⟩ ?_ ?_
                · refine ro_runp 1 [5, 17] [] ⟨[(5, .own Rp.byte 5 11 [] v3), (17, .lf (.int .u64 wv2))], []⟩ (by kernel_rfl) ?_
                  refine ro_step rfl (lo_shr rfl rfl) ⟨rfl, rfl, trivial⟩ trivial rfl rfl ?_
                  exact ro_fin' [1, 5] [] (by kernel_rfl)
                · have hr := Option.some.inj h
                  subst hr
                  refine ji_nil fun a w hs => ⟨rfl, EnvLe.go ?_ hs⟩
                  exact le_pick [1, 5] [] (by kernel_rfl)
            · refine ji_condF rfl hc1 ?_
              have hr := Option.some.inj h
              subst hr
              refine ji_exitO rfl fun a w hs => ⟨nofun, rfl, EnvLe.go ?_ hs⟩
              exact le_pick [1, 5] [] (by kernel_rfl)
        · exact le_pick [1, 5] [] (by kernel_rfl)
        · refine k_exit _ rfl ?_
          obtain ⟨y2, h_y2, h⟩ := bind_some' h
          obtain ⟨v4, h_v4, h⟩ := bind_some' h
          refine ji_region ⟨[(4, .own Rp.byte 5 11 [] v4)], []⟩ ?_ ?_
          · refine ro_runp 3 [25, 27] [] ⟨[(25, .own Rp.byte 5 11 [] q.2), (27, .lf (.int .u8 (IntKind.u8.wrap q.1)))], []⟩ (by kernel_rfl) ?_
            refine ro_step rfl (LocalOk.le (ins' := [(.tmp 27, .lf (.int .u8 (IntKind.u8.wrap q.1)))]) (lo_bsl [.lf (.int .u8 (y2.toNat : Int))] 13 [] [y2] rfl zet22 rfl rfl rfl rfl) ⟨⟨rfl, le_byte h_y2⟩, trivial⟩) ⟨rfl, trivial⟩ trivial rfl rfl ?_
            refine ro_runp 0 [25, 28] [] ⟨[(25, .own Rp.byte 5 11 [] q.2), (28, .own Rp.byte 5 13 [] ([y2] : List UInt8))], []⟩ (by kernel_rfl) ?_
            refine ro_step rfl (lo_app 11 [] rfl zet22.el rfl (isOwn_own _ _ _ _ _) (isSl_own _ _ _ _ _) h_v4 (.inl plain_byte) rfl) ⟨rfl, rfl, trivial⟩ trivial rfl rfl ?_
            exact ro_fin' [4] [] (by kernel_rfl)
          · have hr := Option.some.inj h
            subst hr
            refine ji_ret fun a w hs => ⟨rfl, EnvLe.go ?_ hs⟩
            refine EnvLe.trans (le_pick (E' := ⟨[(4, .own Rp.byte 5 11 [] v4)], []⟩) [4] [] (by kernel_rfl)) ?_
            refine EnvLe.trans (le_ren 11 2 rfl) ?_
            refine EnvLe.trans (le_pick (E' := ⟨[(4, .own Rp.byte 5 2 [] v4)], []⟩) [4] [] (by kernel_rfl)) ?_
            exact le_pick [4] [] (by kernel_rfl)
theorem darninglaw02_VarintPuts_ok {fuel : Nat} {b : (List UInt8)} {wv : Int} {r : Bool} (h : darninglaw02_VarintPuts fuel b wv = some r) : FnOk Try.prog 4 [.sl Rp.byte [0] b, .lf (.int .u64 wv)] [.lf (.bool r)] := by
  refine fn_intro' (E := ⟨[(4, .lf (.bool r))], []⟩) 31 Try.func4 rfl rfl rfl ⟨rfl, trivial⟩ (fun w0 F => ?_)
  refine ji_start ?_
  refine ji_le (E' := ⟨[(0, .sl Rp.byte [0] b), (1, .lf (.int .u64 wv))], []⟩) (fun _ _ _ hs => hs) ?_
  unfold darninglaw02_VarintPuts at h
  refine ji_region ⟨[(0, .sl Rp.byte [0] b), (1, .lf (.int .u64 wv))], []⟩ ?_ ?_
  · exact ro_fin' [0, 1] [] (by kernel_rfl)
  · obtain ⟨rv, h_rv, h⟩ := bind_some' h
    refine ji_region ⟨[(0, .sl Rp.byte [0] b), (1, .lf (.int .u64 wv)), (8, .lf (.bool (!rv)))], []⟩ ?_ ?_
    · refine ro_step rfl (lo_call [] [1] 9 rfl Try.call7 (darninglaw02_alive_ok h_rv) rfl rfl rfl rfl rfl) trivial trivial rfl rfl ?_
      exact ro_fin' [0, 1, 8] [] (by kernel_rfl)
    · rcases ite_some h with ⟨hc1, h⟩ | ⟨hc1, h⟩
      · refine ji_condT rfl hc1 ?_
        refine ji_region ⟨[(4, .lf (.bool false))], []⟩ ?_ ?_
        · exact ro_fin' [4] [] (by kernel_rfl)
        · have hr := Option.some.inj h
          subst hr
          refine ji_ret fun a w hs => ⟨rfl, EnvLe.go ?_ hs⟩
          exact le_pick [4] [] (by kernel_rfl)
      · refine ji_condF rfl hc1 ?_
        refine ji_region ⟨[(0, .sl Rp.byte [0] b), (1, .lf (.int .u64 wv)), (11, .lf (.bool (decide ((b.length : Int) > 2000))))], []⟩ ?_ ?_
        · exact ro_fin' [0, 1, 11] [] (by kernel_rfl)
        · rcases ite_some h with ⟨hc2, h⟩ | ⟨hc2, h⟩
          · refine ji_condT rfl hc2 ?_
            refine ji_region ⟨[(4, .lf (.bool true))], []⟩ ?_ ?_
            · exact ro_fin' [4] [] (by kernel_rfl)
            · have hr := Option.some.inj h
              subst hr
              refine ji_ret fun a w hs => ⟨rfl, EnvLe.go ?_ hs⟩
              exact le_pick [4] [] (by kernel_rfl)
          · refine ji_condF rfl hc2 ?_
            obtain ⟨v, h_v, h⟩ := bind_some' h
            refine ji_region ⟨[(0, .sl Rp.byte [0] b), (1, .lf (.int .u64 wv)), (5, .own Rp.byte 5 11 [] v)], []⟩ ?_ ?_
            · refine ro_step rfl (lo_bsl [] 11 [] ([] : (List UInt8)) rfl zet22 rfl rfl rfl rfl) trivial trivial rfl rfl ?_
              refine ro_runp 1 [0, 1, 12, 13] [] ⟨[(0, .sl Rp.byte [0] b), (1, .lf (.int .u64 wv)), (12, .own Rp.byte 5 11 [] ([] : (List UInt8))), (13, .sl Rp.byte [0] b)], []⟩ (by kernel_rfl) ?_
              refine ro_step rfl (lo_app 11 [] rfl zet22.el rfl (isOwn_own _ _ _ _ _) (isSl_sl _ _ _) h_v (.inl plain_byte) rfl) ⟨rfl, rfl, trivial⟩ trivial rfl rfl ?_
              exact ro_fin' [0, 1, 5] [] (by kernel_rfl)
            · obtain ⟨rv2, h_rv2, h⟩ := bind_some' h
              refine ji_region ⟨[(0, .sl Rp.byte [0] b), (1, .lf (.int .u64 wv)), (5, .own Rp.byte 5 11 [] v), (6, .own Rp.byte 5 12 [] rv2)], []⟩ ?_ ?_
              · refine ro_runp 2 [0, 1, 5, 15, 16] [] ⟨[(0, .sl Rp.byte [0] b), (1, .lf (.int .u64 wv)), (5, .own Rp.byte 5 11 [] v), (15, .sl Rp.byte [0] b), (16, .lf (.int .u64 wv))], []⟩ (by kernel_rfl) ?_
                refine ro_step rfl (lo_call [.sl Rp.byte [0] b, .lf (.int .u64 wv)] [0] 10 rfl Try.call17 (varint_Put_ok h_rv2) rfl rfl rfl rfl rfl) ⟨rfl, rfl, trivial⟩ trivial rfl rfl ?_
                exact ro_fin' [0, 1, 5, 6] [] (by kernel_rfl)
              · obtain ⟨g, h_g, h⟩ := bind_some' h
                refine ji_region ⟨[(4, .lf (.bool g))], []⟩ ?_ ?_
                · obtain ⟨v2, h_v2, h_g⟩ := bind_some' h_g
                  obtain ⟨rv3, h_rv3, h_g⟩ := bind_some' h_g
                  obtain ⟨v3, h_v3, h_g⟩ := bind_some' h_g
                  obtain ⟨rv4, h_rv4, h_g⟩ := bind_some' h_g
                  refine ro_runp 1 [0, 1, 5, 18] [] ⟨[(0, .sl Rp.byte [0] b), (1, .lf (.int .u64 wv)), (5, .own Rp.byte 5 11 [] v), (18, .own Rp.byte 5 12 [] rv2)], []⟩ (by kernel_rfl) ?_
                  refine ro_step rfl (lo_bsl [] 13 [] ([] : (List UInt8)) rfl zet22 rfl rfl rfl rfl) trivial trivial rfl rfl ?_
                  refine ro_runp 1 [0, 1, 5, 18, 19, 20] [] ⟨[(0, .sl Rp.byte [0] b), (1, .lf (.int .u64 wv)), (5, .own Rp.byte 5 11 [] v), (18, .own Rp.byte 5 12 [] rv2), (19, .own Rp.byte 5 13 [] ([] : (List UInt8))), (20, .own Rp.byte 5 11 [] v)], []⟩ (by kernel_rfl) ?_
                  refine ro_step rfl (lo_app 13 [] rfl zet22.el rfl (isOwn_own _ _ _ _ _) (isSl_own _ _ _ _ _) h_v2 (.inl plain_byte) rfl) ⟨rfl, rfl, trivial⟩ trivial rfl rfl ?_
                  refine ro_runp 1 [0, 5, 18, 21, 22] [] ⟨[(0, .sl Rp.byte [0] b), (5, .own Rp.byte 5 11 [] v), (18, .own Rp.byte 5 12 [] rv2), (21, .own Rp.byte 5 13 [] v2), (22, .lf (.int .u64 wv))], []⟩ (by kernel_rfl) ?_
                  refine ro_step rfl (lo_call [.lf (.int .u64 wv)] [1] 12 rfl Try.call14 (darningref02_Put_ok h_rv3) rfl rfl rfl rfl rfl) ⟨rfl, trivial⟩ trivial rfl rfl ?_
                  refine ro_runp 0 [0, 5, 18, 21, 23] [] ⟨[(0, .sl Rp.byte [0] b), (5, .own Rp.byte 5 11 [] v), (18, .own Rp.byte 5 12 [] rv2), (21, .own Rp.byte 5 13 [] v2), (23, .own Rp.byte 5 14 [] rv3)], []⟩ (by kernel_rfl) ?_
                  refine ro_step rfl (lo_app 13 [] rfl zet22.el rfl (isOwn_own _ _ _ _ _) (isSl_own _ _ _ _ _) h_v3 (.inl plain_byte) rfl) ⟨rfl, rfl, trivial⟩ trivial rfl rfl ?_
                  refine ro_runp 0 [0, 5, 18, 24] [] ⟨[(0, .sl Rp.byte [0] b), (5, .own Rp.byte 5 11 [] v), (18, .own Rp.byte 5 12 [] rv2), (24, .own Rp.byte 5 13 [] v3)], []⟩ (by kernel_rfl) ?_
                  refine ro_step rfl (lo_call [.own Rp.byte 5 12 [] rv2, .own Rp.byte 5 13 [] v3] [12, 13] 13 rfl Try.call13 (darningref01_Same_ok h_rv4) rfl rfl rfl rfl rfl) ⟨rfl, rfl, trivial⟩ trivial rfl rfl ?_
                  refine ro_runp 1 [0, 5, 26] [] ⟨[(0, .sl Rp.byte [0] b), (5, .own Rp.byte 5 11 [] v), (26, .lf (.bool rv4))], []⟩ (by kernel_rfl) ?_
                  refine ro_split 26 rv4 rfl (fun hc3 => ?_) (fun hc3 => ?_)
                  · replace h_g := iteT h_g hc3
                    obtain ⟨rv5, h_rv5, h_g⟩ := bind_some' h_g
                    have hr := Option.some.inj h_g
                    subst hr
                    refine ro_runp 2 [26, 27, 28] [] ⟨[(26, .lf (.bool true)), (27, .sl Rp.byte [0] b), (28, .own Rp.byte 5 11 [] v)], []⟩ (by kernel_rfl) ?_
                    refine ro_step rfl (lo_call [.sl Rp.byte [0] b, .own Rp.byte 5 11 [] v] [0, 11] 13 rfl Try.call13 (darningref01_Same_ok h_rv5) rfl rfl rfl rfl rfl) ⟨rfl, rfl, trivial⟩ trivial rfl rfl ?_
                    refine ro_runp 2 [4] [] ⟨[(4, .lf (.bool rv5))], []⟩ (by kernel_rfl) ?_
                    refine ro_le ?_ ro_nil
                    exact le_pick [4] [] (by kernel_rfl)
                  · replace h_g := iteF h_g hc3
                    have hr := Option.some.inj h_g
                    subst hr
                    refine ro_runp 5 [4] [] ⟨[(4, .lf (.bool false))], []⟩ (by kernel_rfl) ?_
                    refine ro_le ?_ ro_nil
                    exact le_pick [4] [] (by kernel_rfl)
                · have hr := Option.some.inj h
                  subst hr
                  refine ji_ret fun a w hs => ⟨rfl, EnvLe.go ?_ hs⟩
                  exact le_pick [4] [] (by kernel_rfl)
theorem darninglaw02_VarintBack_ok {wv : Int} {more : (List UInt8)} {r : Bool} (h : darninglaw02_VarintBack wv more = some r) : FnOk Try.prog 5 [.lf (.int .u64 wv), .sl Rp.byte [0] more] [.lf (.bool r)] := by
  refine fn_intro' (E := ⟨[(4, .lf (.bool r))], []⟩) 68 Try.func5 rfl rfl rfl ⟨rfl, trivial⟩ (fun w0 F => ?_)
  refine ji_start ?_
  refine ji_le (E' := ⟨[(0, .lf (.int .u64 wv)), (1, .sl Rp.byte [0] more)], []⟩) (fun _ _ _ hs => hs) ?_
  unfold darninglaw02_VarintBack at h
  refine ji_region ⟨[(0, .lf (.int .u64 wv)), (1, .sl Rp.byte [0] more)], []⟩ ?_ ?_
  · exact ro_fin' [0, 1] [] (by kernel_rfl)
  · obtain ⟨rv, h_rv, h⟩ := bind_some' h
    refine ji_region ⟨[(0, .lf (.int .u64 wv)), (1, .sl Rp.byte [0] more), (13, .lf (.bool (!rv)))], []⟩ ?_ ?_
    · refine ro_step rfl (lo_call [] [1] 9 rfl Try.call7 (darninglaw02_alive_ok h_rv) rfl rfl rfl rfl rfl) trivial trivial rfl rfl ?_
      exact ro_fin' [0, 1, 13] [] (by kernel_rfl)
    · rcases ite_some h with ⟨hc1, h⟩ | ⟨hc1, h⟩
      · refine ji_condT rfl hc1 ?_
        refine ji_region ⟨[(4, .lf (.bool false))], []⟩ ?_ ?_
        · exact ro_fin' [4] [] (by kernel_rfl)
        · have hr := Option.some.inj h
          subst hr
          refine ji_ret fun a w hs => ⟨rfl, EnvLe.go ?_ hs⟩
          exact le_pick [4] [] (by kernel_rfl)
      · refine ji_condF rfl hc1 ?_
        refine ji_region ⟨[(0, .lf (.int .u64 wv)), (1, .sl Rp.byte [0] more), (16, .lf (.bool (decide ((more.length : Int) > 2000))))], []⟩ ?_ ?_
        · exact ro_fin' [0, 1, 16] [] (by kernel_rfl)
        · rcases ite_some h with ⟨hc2, h⟩ | ⟨hc2, h⟩
          · refine ji_condT rfl hc2 ?_
            refine ji_region ⟨[(4, .lf (.bool true))], []⟩ ?_ ?_
            · exact ro_fin' [4] [] (by kernel_rfl)
            · have hr := Option.some.inj h
              subst hr
              refine ji_ret fun a w hs => ⟨rfl, EnvLe.go ?_ hs⟩
              exact le_pick [4] [] (by kernel_rfl)
          · refine ji_condF rfl hc2 ?_
            obtain ⟨rv2, h_rv2, h⟩ := bind_some' h
            refine ji_region ⟨[(0, .lf (.int .u64 wv)), (1, .sl Rp.byte [0] more), (5, .own Rp.byte 5 11 [] rv2)], []⟩ ?_ ?_
            · refine ro_runp 1 [0, 1, 17] [] ⟨[(0, .lf (.int .u64 wv)), (1, .sl Rp.byte [0] more), (17, .lf (.int .u64 wv))], []⟩ (by kernel_rfl) ?_
              refine ro_step rfl (lo_call [.lf (.val (.slice none 0 0)), .lf (.int .u64 wv)] [1] 9 rfl Try.call17 (FnOk.le (ins' := [.lf (.val (.slice none 0 0)), .lf (.int .u64 wv)]) (varint_Put_ok h_rv2) ⟨le_sl_nil _ _, AV.le_refl _, trivial⟩) rfl rfl rfl rfl rfl) ⟨rfl, rfl, trivial⟩ trivial rfl rfl ?_
              exact ro_fin' [0, 1, 5] [] (by kernel_rfl)
            · obtain ⟨v, h_v, h⟩ := bind_some' h
              obtain ⟨v2, h_v2, h⟩ := bind_some' h
              obtain ⟨rv3, h_rv3, h⟩ := bind_some' h
              refine ji_region ⟨[(0, .lf (.int .u64 wv)), (5, .own Rp.byte 5 11 [] rv2), (6, .lf (.int .u64 rv3.1)), (7, .lf (.int .i64 rv3.2.1)), (8, .lf (.int .u8 rv3.2.2))], []⟩ ?_ ?_
              · refine ro_step rfl (lo_bsl [] 12 [] ([] : (List UInt8)) rfl zet22 rfl rfl rfl rfl) trivial trivial rfl rfl ?_
                refine ro_runp 1 [0, 1, 5, 20, 21] [] ⟨[(0, .lf (.int .u64 wv)), (1, .sl Rp.byte [0] more), (5, .own Rp.byte 5 11 [] rv2), (20, .own Rp.byte 5 12 [] ([] : (List UInt8))), (21, .own Rp.byte 5 11 [] rv2)], []⟩ (by kernel_rfl) ?_
                refine ro_step rfl (lo_app 12 [] rfl zet22.el rfl (isOwn_own _ _ _ _ _) (isSl_own _ _ _ _ _) h_v (.inl plain_byte) rfl) ⟨rfl, rfl, trivial⟩ trivial rfl rfl ?_
                refine ro_runp 1 [0, 5, 22, 23] [] ⟨[(0, .lf (.int .u64 wv)), (5, .own Rp.byte 5 11 [] rv2), (22, .own Rp.byte 5 12 [] v), (23, .sl Rp.byte [0] more)], []⟩ (by kernel_rfl) ?_
                refine ro_step rfl (lo_app 12 [] rfl zet22.el rfl (isOwn_own _ _ _ _ _) (isSl_sl _ _ _) h_v2 (.inl plain_byte) rfl) ⟨rfl, rfl, trivial⟩ trivial rfl rfl ?_
                refine ro_runp 0 [0, 5, 24] [] ⟨[(0, .lf (.int .u64 wv)), (5, .own Rp.byte 5 11 [] rv2), (24, .own Rp.byte 5 12 [] v2)], []⟩ (by kernel_rfl) ?_
                refine ro_step rfl (lo_call [.own Rp.byte 5 12 [] v2] [12] 11 rfl Try.call8 (varint_Read_ok h_rv3) rfl rfl rfl rfl rfl) ⟨rfl, trivial⟩ trivial rfl rfl ?_
                exact ro_fin' [0, 5, 6, 7, 8] [] (by kernel_rfl)
              · obtain ⟨g, h_g, h⟩ := bind_some' h
                refine ji_region ⟨[(5, .own Rp.byte 5 11 [] rv2), (54, .lf (.bool g))], []⟩ ?_ ?_
                · refine ro_runp 4 [0, 5, 7, 8, 32] [] ⟨[(0, .lf (.int .u64 wv)), (5, .own Rp.byte 5 11 [] rv2), (7, .lf (.int .i64 rv3.2.1)), (8, .lf (.int .u8 rv3.2.2)), (32, .lf (.bool (rv3.1 != wv)))], []⟩ (by kernel_rfl) ?_
                  refine ro_split 32 (rv3.1 != wv) rfl (fun hc3 => ?_) (fun hc3 => ?_)
                  · replace h_g := iteT h_g hc3
                    have hr := Option.some.inj h_g
                    subst hr
                    refine ro_runp 22 [5, 54] [] ⟨[(5, .own Rp.byte 5 11 [] rv2), (54, .lf (.bool true))], []⟩ (by kernel_rfl) ?_
                    refine ro_le ?_ ro_nil
                    exact le_pick [5, 54] [] (by kernel_rfl)
                  · replace h_g := iteF h_g hc3
                    refine ro_runp 6 [0, 5, 8, 38] [] ⟨[(0, .lf (.int .u64 wv)), (5, .own Rp.byte 5 11 [] rv2), (8, .lf (.int .u8 rv3.2.2)), (38, .lf (.bool (rv3.2.1 != (rv2.length : Int))))], []⟩ (by kernel_rfl) ?_
                    refine ro_split 38 (rv3.2.1 != (rv2.length : Int)) rfl (fun hc4 => ?_) (fun hc4 => ?_)
                    · replace h_g := iteT h_g hc4
                      have hr := Option.some.inj h_g
                      subst hr
                      refine ro_runp 16 [5, 54] [] ⟨[(5, .own Rp.byte 5 11 [] rv2), (54, .lf (.bool true))], []⟩ (by kernel_rfl) ?_
                      refine ro_le ?_ ro_nil
                      exact le_pick [5, 54] [] (by kernel_rfl)
                    · replace h_g := iteF h_g hc4
                      refine ro_runp 5 [0, 5, 43] [] ⟨[(0, .lf (.int .u64 wv)), (5, .own Rp.byte 5 11 [] rv2), (43, .lf (.bool ((IntKind.i64.wrap rv3.2.2) != 0)))], []⟩ (by kernel_rfl) ?_
                      refine ro_split 43 ((IntKind.i64.wrap rv3.2.2) != 0) rfl (fun hc5 => ?_) (fun hc5 => ?_)
                      · replace h_g := iteT h_g hc5
                        have hr := Option.some.inj h_g
                        subst hr
                        refine ro_runp 11 [5, 54] [] ⟨[(5, .own Rp.byte 5 11 [] rv2), (54, .lf (.bool true))], []⟩ (by kernel_rfl) ?_
                        refine ro_le ?_ ro_nil
                        exact le_pick [5, 54] [] (by kernel_rfl)
                      · replace h_g := iteF h_g hc5
                        obtain ⟨rv4, h_rv4, h_g⟩ := bind_some' h_g
                        refine ro_runp 1 [0, 5, 43, 44] [] ⟨[(0, .lf (.int .u64 wv)), (5, .own Rp.byte 5 11 [] rv2), (43, .lf (.bool false)), (44, .own Rp.byte 5 11 [] rv2)], []⟩ (by kernel_rfl) ?_
                        refine ro_step rfl (lo_call [.own Rp.byte 5 11 [] rv2] [11] 11 rfl Try.call16 (varint_Minimal_ok h_rv4) rfl rfl rfl rfl rfl) ⟨rfl, trivial⟩ trivial rfl rfl ?_
                        refine ro_runp 3 [0, 5, 48] [] ⟨[(0, .lf (.int .u64 wv)), (5, .own Rp.byte 5 11 [] rv2), (48, .lf (.bool (!rv4)))], []⟩ (by kernel_rfl) ?_
                        refine ro_split 48 (!rv4) rfl (fun hc6 => ?_) (fun hc6 => ?_)
                        · replace h_g := iteT h_g hc6
                          have hr := Option.some.inj h_g
                          subst hr
                          refine ro_runp 6 [5, 54] [] ⟨[(5, .own Rp.byte 5 11 [] rv2), (54, .lf (.bool true))], []⟩ (by kernel_rfl) ?_
                          refine ro_le ?_ ro_nil
                          exact le_pick [5, 54] [] (by kernel_rfl)
                        · replace h_g := iteF h_g hc6
                          obtain ⟨rv5, h_rv5, h_g⟩ := bind_some' h_g
                          have hr := Option.some.inj h_g
                          subst hr
                          refine ro_runp 3 [5, 48, 50, 51] [] ⟨[(5, .own Rp.byte 5 11 [] rv2), (48, .lf (.bool false)), (50, .lf (.int .i64 (rv2.length : Int))), (51, .lf (.int .u64 wv))], []⟩ (by kernel_rfl) ?_
                          refine ro_step rfl (lo_call [.lf (.int .u64 wv)] [1] 11 rfl Try.call18 (bits_Len_ok h_rv5) rfl rfl rfl rfl rfl) ⟨rfl, trivial⟩ trivial rfl rfl ?_
                          refine ro_runp 2 [5, 54] [] ⟨[(5, .own Rp.byte 5 11 [] rv2), (54, .lf (.bool ((rv2.length : Int) != rv5)))], []⟩ (by kernel_rfl) ?_
                          refine ro_le ?_ ro_nil
                          exact le_pick [5, 54] [] (by kernel_rfl)
                · rcases ite_some h with ⟨hc7, h⟩ | ⟨hc7, h⟩
                  · refine ji_condT rfl hc7 ?_
                    refine ji_region ⟨[(4, .lf (.bool false))], []⟩ ?_ ?_
                    · exact ro_fin' [4] [] (by kernel_rfl)
                    · have hr := Option.some.inj h
                      subst hr
                      refine ji_ret fun a w hs => ⟨rfl, EnvLe.go ?_ hs⟩
                      exact le_pick [4] [] (by kernel_rfl)
                  · refine ji_condF rfl hc7 ?_
                    obtain ⟨v4, h_v4, h⟩ := bind_some' h
                    obtain ⟨rv6, h_rv6, h⟩ := bind_some' h
                    refine ji_region ⟨[(11, .lf (.int .u8 rv6.2.2))], []⟩ ?_ ?_
                    · refine ro_runp 4 [56, 59] [] ⟨[(56, .own Rp.byte 5 11 [] rv2), (59, .lf (.int .i64 (IntKind.i64.wrap ((rv2.length : Int) - 1))))], []⟩ (by kernel_rfl) ?_
                      refine ro_step rfl (lo_cut none (some (.lf (.int .i64 (IntKind.i64.wrap ((rv2.length : Int) - 1))))) rfl zet22.el (isSl_own _ _ _ _ _) ⟨rfl, rfl⟩ ⟨rfl, rfl⟩ h_v4) ⟨rfl, rfl, trivial⟩ trivial rfl rfl ?_
                      refine ro_runp 0 [60] [] ⟨[(60, .sl Rp.byte [11] v4)], []⟩ (by kernel_rfl) ?_
                      refine ro_step rfl (lo_call [.sl Rp.byte [11] v4] [11] 11 rfl Try.call8 (varint_Read_ok h_rv6) rfl rfl rfl rfl rfl) ⟨rfl, trivial⟩ trivial rfl rfl ?_
                      exact ro_fin' [11] [] (by kernel_rfl)
                    · refine ji_region ⟨[(4, .lf (.bool ((IntKind.i64.wrap rv6.2.2) == 3)))], []⟩ ?_ ?_
                      · exact ro_fin' [4] [] (by kernel_rfl)
                      · have hr := Option.some.inj h
                        subst hr
                        refine ji_ret fun a w hs => ⟨rfl, EnvLe.go ?_ hs⟩
                        exact le_pick [4] [] (by kernel_rfl)
theorem darninglaw02_VarintList_ok {l : (List Int)} {r : Bool} (h : darninglaw02_VarintList l = some r) : FnOk Try.prog 6 [.sl (Rp.int .u64) [0] l] [.lf (.bool r)] := by
  refine fn_intro' (E := ⟨[(2, .lf (.bool r))], []⟩) 64 Try.func6 rfl rfl rfl ⟨rfl, trivial⟩ (fun w0 F => ?_)
  refine ji_start ?_
  refine ji_le (E' := ⟨[(0, .sl (Rp.int .u64) [0] l)], []⟩) (fun _ _ _ hs => hs) ?_
  unfold darninglaw02_VarintList at h
  refine ji_region ⟨[(0, .sl (Rp.int .u64) [0] l)], []⟩ ?_ ?_
  · exact ro_fin' [0] [] (by kernel_rfl)
  · obtain ⟨rv, h_rv, h⟩ := bind_some' h
    refine ji_region ⟨[(0, .sl (Rp.int .u64) [0] l), (10, .lf (.bool (!rv)))], []⟩ ?_ ?_
    · refine ro_step rfl (lo_call [] [1] 9 rfl Try.call7 (darninglaw02_alive_ok h_rv) rfl rfl rfl rfl rfl) trivial trivial rfl rfl ?_
      exact ro_fin' [0, 10] [] (by kernel_rfl)
    · rcases ite_some h with ⟨hc1, h⟩ | ⟨hc1, h⟩
      · refine ji_condT rfl hc1 ?_
        refine ji_region ⟨[(2, .lf (.bool false))], []⟩ ?_ ?_
        · exact ro_fin' [2] [] (by kernel_rfl)
        · have hr := Option.some.inj h
          subst hr
          refine ji_ret fun a w hs => ⟨rfl, EnvLe.go ?_ hs⟩
          exact le_pick [2] [] (by kernel_rfl)
      · refine ji_condF rfl hc1 ?_
        refine ji_region ⟨[(0, .sl (Rp.int .u64) [0] l), (13, .lf (.bool (decide ((l.length : Int) > 300))))], []⟩ ?_ ?_
        · exact ro_fin' [0, 13] [] (by kernel_rfl)
        · rcases ite_some h with ⟨hc2, h⟩ | ⟨hc2, h⟩
          · refine ji_condT rfl hc2 ?_
            refine ji_region ⟨[(2, .lf (.bool true))], []⟩ ?_ ?_
            · exact ro_fin' [2] [] (by kernel_rfl)
            · have hr := Option.some.inj h
              subst hr
              refine ji_ret fun a w hs => ⟨rfl, EnvLe.go ?_ hs⟩
              exact le_pick [2] [] (by kernel_rfl)
          · refine ji_condF rfl hc2 ?_
            refine ji_region ⟨[(0, .sl (Rp.int .u64) [0] l), (3, .lf (.val (.slice none 0 0)))], []⟩ ?_ ?_
            · exact ro_fin' [0, 3] [] (by kernel_rfl)
            · refine ji_region ⟨[(0, .sl (Rp.int .u64) [0] l), (3, .lf (.val (.slice none 0 0))), (4, .lf (.int .i64 0))], []⟩ ?_ ?_
              · exact ro_fin' [0, 3, 4] [] (by kernel_rfl)
              · refine ji_block ?_
                obtain ⟨q, h_q, h⟩ := bind_some' h
                refine ji_loop (fun s : ((List UInt8) × Int) => darninglaw02_VarintList_b1 l s.1 s.2) (fun s => Sx ⟨64, w0, F⟩ ⟨[(0, .sl (Rp.int .u64) [0] l), (3, .own Rp.byte 5 11 [] s.1), (4, .lf (.int .i64 s.2))], []⟩) (fun o e a w => e = .exit 0 ∧ Sx ⟨64, w0, F⟩ ⟨[(0, .sl (Rp.int .u64) [0] l), (3, .own Rp.byte 5 11 [] o)], []⟩ a w) ?_ h_q (fun a w hs => EnvLe.go ?_ hs) ?_
                · clear h
                  intro s o h
                  obtain ⟨b, i⟩ := s
                  refine ji_start ?_
                  refine ji_le (E' := ⟨[(0, .sl (Rp.int .u64) [0] l), (3, .own Rp.byte 5 11 [] b), (4, .lf (.int .i64 i))], []⟩) (fun _ _ _ hs => hs) ?_
                  replace h : darninglaw02_VarintList_b1 l b i = some o := h
                  unfold darninglaw02_VarintList_b1 at h
                  refine ji_region ⟨[(0, .sl (Rp.int .u64) [0] l), (3, .own Rp.byte 5 11 [] b), (4, .lf (.int .i64 i)), (17, .lf (.bool (decide (i < (l.length : Int)))))], []⟩ ?_ ?_
                  · exact ro_fin' [0, 3, 4, 17] [] (by kernel_rfl)
                  · rcases ite_some h with ⟨hc3, h⟩ | ⟨hc3, h⟩
                    · refine ji_condT rfl hc3 ?_
                      refine ji_block ?_
                      obtain ⟨x, h_x, h⟩ := bind_some' h
                      obtain ⟨rv2, h_rv2, h⟩ := bind_some' h
                      refine ji_region ⟨[(0, .sl (Rp.int .u64) [0] l), (3, .own Rp.byte 5 11 [] rv2), (4, .lf (.int .i64 i))], []⟩ ?_ ?_
                      · refine ro_runp 3 [0, 4, 20, 21, 22] [] ⟨[(0, .sl (Rp.int .u64) [0] l), (4, .lf (.int .i64 i)), (20, .own Rp.byte 5 11 [] b), (21, .sl (Rp.int .u64) [0] l), (22, .lf (.int .i64 i))], []⟩ (by kernel_rfl) ?_
                        refine ro_step rfl (lo_ix rfl zet32.el (isSl_sl _ _ _) h_x) ⟨rfl, rfl, trivial⟩ trivial rfl rfl ?_
                        refine ro_runp 1 [0, 4, 20, 24] [] ⟨[(0, .sl (Rp.int .u64) [0] l), (4, .lf (.int .i64 i)), (20, .own Rp.byte 5 11 [] b), (24, .lf (.int .u64 x))], []⟩ (by kernel_rfl) ?_
                        refine ro_step rfl (lo_call [.own Rp.byte 5 11 [] b, .lf (.int .u64 x)] [11] 9 rfl Try.call17 (varint_Put_ok h_rv2) rfl rfl rfl rfl rfl) ⟨rfl, rfl, trivial⟩ trivial rfl rfl ?_
                        exact ro_fin' [0, 3, 4] [] (by kernel_rfl)
                      · refine ji_end ?_
                        refine ji_region ⟨[(0, .sl (Rp.int .u64) [0] l), (3, .own Rp.byte 5 11 [] rv2), (4, .lf (.int .i64 (IntKind.i64.wrap (i + 1))))], []⟩ ?_ ?_
                        · exact ro_fin' [0, 3, 4] [] (by kernel_rfl)
                        · have hr := Option.some.inj h
                          subst hr
                          refine ji_nil fun a w hs => ⟨rfl, EnvLe.go ?_ hs⟩
                          exact le_pick [0, 3, 4] [] (by kernel_rfl)
                    · refine ji_condF rfl hc3 ?_
                      have hr := Option.some.inj h
                      subst hr
                      refine ji_exitO rfl fun a w hs => ⟨nofun, rfl, EnvLe.go ?_ hs⟩
                      exact le_pick [0, 3] [] (by kernel_rfl)
                · refine EnvLe.trans (le_as 3 (.own Rp.byte 5 11 [] []) rfl (le_own_nil Rp.byte 5 11 [] rfl)) ?_
                  exact le_pick [0, 3, 4] [] (by kernel_rfl)
                · refine k_exit _ rfl ?_
                  obtain ⟨rv3, h_rv3, h⟩ := bind_some' h
                  refine ji_region ⟨[(0, .sl (Rp.int .u64) [0] l), (3, .own Rp.byte 5 11 [] q), (5, .own (Rp.int .u64) 24 12 [] rv3.1), (6, .lf (.int .u8 rv3.2))], []⟩ ?_ ?_
                  · refine ro_runp 1 [0, 3, 27] [] ⟨[(0, .sl (Rp.int .u64) [0] l), (3, .own Rp.byte 5 11 [] q), (27, .own Rp.byte 5 11 [] q)], []⟩ (by kernel_rfl) ?_
                    refine ro_step rfl (lo_call [.own Rp.byte 5 11 [] q] [11] 10 rfl Try.call11 (varint_All_ok h_rv3) rfl rfl rfl rfl rfl) ⟨rfl, trivial⟩ trivial rfl rfl ?_
                    exact ro_fin' [0, 3, 5, 6] [] (by kernel_rfl)
                  · obtain ⟨g, h_g, h⟩ := bind_some' h
                    refine ji_region ⟨[(0, .sl (Rp.int .u64) [0] l), (3, .own Rp.byte 5 11 [] q), (39, .lf (.bool g))], []⟩ ?_ ?_
                    · refine ro_runp 4 [0, 3, 5, 34] [] ⟨[(0, .sl (Rp.int .u64) [0] l), (3, .own Rp.byte 5 11 [] q), (5, .own (Rp.int .u64) 24 12 [] rv3.1), (34, .lf (.bool ((IntKind.i64.wrap rv3.2) != 0)))], []⟩ (by kernel_rfl) ?_
                      refine ro_split 34 ((IntKind.i64.wrap rv3.2) != 0) rfl (fun hc4 => ?_) (fun hc4 => ?_)
                      · replace h_g := iteT h_g hc4
                        have hr := Option.some.inj h_g
                        subst hr
                        refine ro_runp 5 [0, 3, 39] [] ⟨[(0, .sl (Rp.int .u64) [0] l), (3, .own Rp.byte 5 11 [] q), (39, .lf (.bool true))], []⟩ (by kernel_rfl) ?_
                        refine ro_le ?_ ro_nil
                        exact le_pick [0, 3, 39] [] (by kernel_rfl)
                      · replace h_g := iteF h_g hc4
                        obtain ⟨rv4, h_rv4, h_g⟩ := bind_some' h_g
                        have hr := Option.some.inj h_g
                        subst hr
                        refine ro_runp 2 [0, 3, 34, 35, 36] [] ⟨[(0, .sl (Rp.int .u64) [0] l), (3, .own Rp.byte 5 11 [] q), (34, .lf (.bool false)), (35, .own (Rp.int .u64) 24 12 [] rv3.1), (36, .sl (Rp.int .u64) [0] l)], []⟩ (by kernel_rfl) ?_
                        refine ro_step rfl (lo_call [.own (Rp.int .u64) 24 12 [] rv3.1, .sl (Rp.int .u64) [0] l] [12, 0] 11 rfl Try.call15 (darningref02_Same_ok h_rv4) rfl rfl rfl rfl rfl) ⟨rfl, rfl, trivial⟩ trivial rfl rfl ?_
                        refine ro_runp 2 [0, 3, 39] [] ⟨[(0, .sl (Rp.int .u64) [0] l), (3, .own Rp.byte 5 11 [] q), (39, .lf (.bool (!rv4)))], []⟩ (by kernel_rfl) ?_
                        refine ro_le ?_ ro_nil
                        exact le_pick [0, 3, 39] [] (by kernel_rfl)
                    · rcases ite_some h with ⟨hc5, h⟩ | ⟨hc5, h⟩
                      · refine ji_condT rfl hc5 ?_
                        refine ji_region ⟨[(2, .lf (.bool false))], []⟩ ?_ ?_
                        · exact ro_fin' [2] [] (by kernel_rfl)
                        · have hr := Option.some.inj h
                          subst hr
                          refine ji_ret fun a w hs => ⟨rfl, EnvLe.go ?_ hs⟩
                          exact le_pick [2] [] (by kernel_rfl)
                      · refine ji_condF rfl hc5 ?_
                        obtain ⟨g2, h_g2, h⟩ := bind_some' h
                        refine ji_region ⟨[(3, .own Rp.byte 5 11 [] q), (51, .lf (.bool g2))], []⟩ ?_ ?_
                        · refine ro_runp 4 [0, 3, 43] [] ⟨[(0, .sl (Rp.int .u64) [0] l), (3, .own Rp.byte 5 11 [] q), (43, .lf (.bool ((l.length : Int) == 0)))], []⟩ (by kernel_rfl) ?_
                          refine ro_split 43 ((l.length : Int) == 0) rfl (fun hc6 => ?_) (fun hc6 => ?_)
                          · replace h_g2 := iteT h_g2 hc6
                            have hr := Option.some.inj h_g2
                            subst hr
                            refine ro_runp 8 [3, 51] [] ⟨[(3, .own Rp.byte 5 11 [] q), (51, .lf (.bool true))], []⟩ (by kernel_rfl) ?_
                            refine ro_le ?_ ro_nil
                            exact le_pick [3, 51] [] (by kernel_rfl)
                          · replace h_g2 := iteF h_g2 hc6
                            obtain ⟨x2, h_x2, h_g2⟩ := bind_some' h_g2
                            have hr := Option.some.inj h_g2
                            subst hr
                            refine ro_runp 4 [3, 43, 44, 47] [] ⟨[(3, .own Rp.byte 5 11 [] q), (43, .lf (.bool false)), (44, .sl (Rp.int .u64) [0] l), (47, .lf (.int .i64 (IntKind.i64.wrap ((l.length : Int) - 1))))], []⟩ (by kernel_rfl) ?_
                            refine ro_step rfl (lo_ix rfl zet32.el (isSl_sl _ _ _) h_x2) ⟨rfl, rfl, trivial⟩ trivial rfl rfl ?_
                            refine ro_runp 3 [3, 51] [] ⟨[(3, .own Rp.byte 5 11 [] q), (51, .lf (.bool (decide (x2 < 128))))], []⟩ (by kernel_rfl) ?_
                            refine ro_le ?_ ro_nil
                            exact le_pick [3, 51] [] (by kernel_rfl)
                        · rcases ite_some h with ⟨hc7, h⟩ | ⟨hc7, h⟩
                          · refine ji_condT rfl hc7 ?_
                            refine ji_region ⟨[(2, .lf (.bool true))], []⟩ ?_ ?_
                            · exact ro_fin' [2] [] (by kernel_rfl)
                            · have hr := Option.some.inj h
                              subst hr
                              refine ji_ret fun a w hs => ⟨rfl, EnvLe.go ?_ hs⟩
                              exact le_pick [2] [] (by kernel_rfl)
                          · refine ji_condF rfl hc7 ?_
                            obtain ⟨v3, h_v3, h⟩ := bind_some' h
                            obtain ⟨rv5, h_rv5, h⟩ := bind_some' h
                            refine ji_region ⟨[(8, .lf (.int .u8 rv5.2))], []⟩ ?_ ?_
                            · refine ro_runp 4 [53, 56] [] ⟨[(53, .own Rp.byte 5 11 [] q), (56, .lf (.int .i64 (IntKind.i64.wrap ((q.length : Int) - 1))))], []⟩ (by kernel_rfl) ?_
                              refine ro_step rfl (lo_cut none (some (.lf (.int .i64 (IntKind.i64.wrap ((q.length : Int) - 1))))) rfl zet22.el (isSl_own _ _ _ _ _) ⟨rfl, rfl⟩ ⟨rfl, rfl⟩ h_v3) ⟨rfl, rfl, trivial⟩ trivial rfl rfl ?_
                              refine ro_runp 0 [57] [] ⟨[(57, .sl Rp.byte [11] v3)], []⟩ (by kernel_rfl) ?_
                              refine ro_step rfl (lo_call [.sl Rp.byte [11] v3] [11] 11 rfl Try.call11 (varint_All_ok h_rv5) rfl rfl rfl rfl rfl) ⟨rfl, trivial⟩ trivial rfl rfl ?_
                              exact ro_fin' [8] [] (by kernel_rfl)
                            · refine ji_region ⟨[(2, .lf (.bool ((IntKind.i64.wrap rv5.2) == 3)))], []⟩ ?_ ?_
                              · exact ro_fin' [2] [] (by kernel_rfl)
                              · have hr := Option.some.inj h
                                subst hr
                                refine ji_ret fun a w hs => ⟨rfl, EnvLe.go ?_ hs⟩
                                exact le_pick [2] [] (by kernel_rfl)
end Go.Proofs.Ytnpfdmlfeealgaa
