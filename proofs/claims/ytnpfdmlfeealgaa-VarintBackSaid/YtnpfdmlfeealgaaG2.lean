/-
  The Go functions do what the plain functions say. No condition.
-/
import Derived.Test.YtnpfdmlfeealgaaG1
namespace Go.Proofs.Ytnpfdmlfeealgaa
open Go Go.RowKit
set_option linter.unusedVariables false
theorem darningref02_All_ok {b : (List UInt8)} {r : ((List Int) × Int)} (h : darningref02_All b = some r) : FnOk Try.prog 12 [.sl Rp.byte [0] b] [.own (Rp.int .u64) 24 2 [] r.1, .lf (.int .i64 r.2)] := by
  refine fn_intro' (E := ⟨[(2, .own (Rp.int .u64) 24 2 [] r.1), (3, .lf (.int .i64 r.2))], []⟩) 31 Try.func12 rfl rfl rfl ⟨rfl, rfl, trivial⟩ (fun w0 F => ?_)
  refine ji_start ?_
  refine ji_le (E' := ⟨[(0, .sl Rp.byte [0] b)], []⟩) (fun _ _ _ hs => hs) ?_
  unfold darningref02_All at h
  refine ji_region ⟨[(0, .sl Rp.byte [0] b)], []⟩ ?_ ?_
  · exact ro_fin' [0] [] (by kernel_rfl)
  · refine ji_region ⟨[(0, .sl Rp.byte [0] b), (4, .lf (.val (.slice none 0 0)))], []⟩ ?_ ?_
    · exact ro_fin' [0, 4] [] (by kernel_rfl)
    · refine ji_region ⟨[(0, .sl Rp.byte [0] b), (4, .lf (.val (.slice none 0 0))), (5, .lf (.int .i64 0))], []⟩ ?_ ?_
      · exact ro_fin' [0, 4, 5] [] (by kernel_rfl)
      · refine ji_block ?_
        obtain ⟨q, h_q, h⟩ := bind_some' h
        refine ji_loop (fun s : ((List Int) × Int) => darningref02_All_b1 b s.1 s.2) (fun s => Sx ⟨31, w0, F⟩ ⟨[(0, .sl Rp.byte [0] b), (4, .own (Rp.int .u64) 24 12 [] s.1), (5, .lf (.int .i64 s.2))], []⟩) (fun o e a w => match o with | (.inl v_) => e = .exit 0 ∧ Sx ⟨31, w0, F⟩ ⟨[(4, .own (Rp.int .u64) 24 12 [] v_)], []⟩ a w | (.inr v_) => e = .ret ∧ Sx ⟨31, w0, F⟩ ⟨[(2, .lf (.val (.slice none 0 0))), (3, .lf (.int .i64 v_))], []⟩ a w) ?_ h_q (fun a w hs => EnvLe.go ?_ hs) ?_
        · clear h
          intro s o h
          obtain ⟨out, atv⟩ := s
          refine ji_start ?_
          refine ji_le (E' := ⟨[(0, .sl Rp.byte [0] b), (4, .own (Rp.int .u64) 24 12 [] out), (5, .lf (.int .i64 atv))], []⟩) (fun _ _ _ hs => hs) ?_
          replace h : darningref02_All_b1 b out atv = some o := h
          unfold darningref02_All_b1 at h
          refine ji_region ⟨[(0, .sl Rp.byte [0] b), (4, .own (Rp.int .u64) 24 12 [] out), (5, .lf (.int .i64 atv)), (12, .lf (.bool (decide (atv < (b.length : Int)))))], []⟩ ?_ ?_
          · exact ro_fin' [0, 4, 5, 12] [] (by kernel_rfl)
          · rcases ite_some h with ⟨hc1, h⟩ | ⟨hc1, h⟩
            · refine ji_condT rfl hc1 ?_
              refine ji_block ?_
              obtain ⟨rv, h_rv, h⟩ := bind_some' h
              refine ji_region ⟨[(0, .sl Rp.byte [0] b), (4, .own (Rp.int .u64) 24 12 [] out), (5, .lf (.int .i64 atv)), (6, .lf (.int .u64 rv.1)), (7, .lf (.int .i64 rv.2.1)), (8, .lf (.int .i64 rv.2.2))], []⟩ ?_ ?_
              · refine ro_runp 2 [0, 4, 5, 14, 15] [] ⟨[(0, .sl Rp.byte [0] b), (4, .own (Rp.int .u64) 24 12 [] out), (5, .lf (.int .i64 atv)), (14, .sl Rp.byte [0] b), (15, .lf (.int .i64 atv))], []⟩ (by kernel_rfl) ?_
                refine ro_step rfl (lo_call [.sl Rp.byte [0] b, .lf (.int .i64 atv)] [0] 9 rfl Try.call9 (darningref02_Read_ok h_rv) rfl rfl rfl rfl rfl) ⟨rfl, rfl, trivial⟩ trivial rfl rfl ?_
                exact ro_fin' [0, 4, 5, 6, 7, 8] [] (by kernel_rfl)
              · refine ji_region ⟨[(0, .sl Rp.byte [0] b), (4, .own (Rp.int .u64) 24 12 [] out), (5, .lf (.int .i64 atv)), (6, .lf (.int .u64 rv.1)), (7, .lf (.int .i64 rv.2.1)), (8, .lf (.int .i64 rv.2.2)), (21, .lf (.bool (rv.2.2 != 0)))], []⟩ ?_ ?_
                · exact ro_fin' [0, 4, 5, 6, 7, 8, 21] [] (by kernel_rfl)
                · rcases ite_some h with ⟨hc2, h⟩ | ⟨hc2, h⟩
                  · refine ji_condT rfl hc2 ?_
                    refine ji_region ⟨[(2, .lf (.val (.slice none 0 0))), (3, .lf (.int .i64 rv.2.2))], []⟩ ?_ ?_
                    · exact ro_fin' [2, 3] [] (by kernel_rfl)
                    · have hr := Option.some.inj h
                      subst hr
                      refine ji_ret fun a w hs => ⟨nofun, rfl, EnvLe.go ?_ hs⟩
                      exact le_pick [2, 3] [] (by kernel_rfl)
                  · refine ji_condF rfl hc2 ?_
                    obtain ⟨v2, h_v2, h⟩ := bind_some' h
                    refine ji_region ⟨[(0, .sl Rp.byte [0] b), (4, .own (Rp.int .u64) 24 12 [] v2), (5, .lf (.int .i64 atv)), (7, .lf (.int .i64 rv.2.1))], []⟩ ?_ ?_
                    · refine ro_runp 2 [0, 5, 7, 23, 24] [] ⟨[(0, .sl Rp.byte [0] b), (5, .lf (.int .i64 atv)), (7, .lf (.int .i64 rv.2.1)), (23, .own (Rp.int .u64) 24 12 [] out), (24, .lf (.int .u64 rv.1))], []⟩ (by kernel_rfl) ?_
                      refine ro_step rfl (lo_bsl [.lf (.int .u64 rv.1)] 11 [] ([rv.1] : (List Int)) rfl zet32 rfl rfl rfl rfl) ⟨rfl, trivial⟩ trivial rfl rfl ?_
                      refine ro_runp 0 [0, 5, 7, 23, 25] [] ⟨[(0, .sl Rp.byte [0] b), (5, .lf (.int .i64 atv)), (7, .lf (.int .i64 rv.2.1)), (23, .own (Rp.int .u64) 24 12 [] out), (25, .own (Rp.int .u64) 24 11 [] ([rv.1] : (List Int)))], []⟩ (by kernel_rfl) ?_
                      refine ro_step rfl (lo_app 12 [] rfl zet32.el rfl (isOwn_own _ _ _ _ _) (isSl_own _ _ _ _ _) h_v2 (.inl (plain_int _)) rfl) ⟨rfl, rfl, trivial⟩ trivial rfl rfl ?_
                      exact ro_fin' [0, 4, 5, 7] [] (by kernel_rfl)
                    · refine ji_region ⟨[(0, .sl Rp.byte [0] b), (4, .own (Rp.int .u64) 24 12 [] v2), (5, .lf (.int .i64 (IntKind.i64.wrap (atv + rv.2.1))))], []⟩ ?_ ?_
                      · exact ro_fin' [0, 4, 5] [] (by kernel_rfl)
                      · refine ji_end ?_
                        have hr := Option.some.inj h
                        subst hr
                        refine ji_nil fun a w hs => ⟨rfl, EnvLe.go ?_ hs⟩
                        exact le_pick [0, 4, 5] [] (by kernel_rfl)
            · refine ji_condF rfl hc1 ?_
              have hr := Option.some.inj h
              subst hr
              refine ji_exitO rfl fun a w hs => ⟨nofun, rfl, EnvLe.go ?_ hs⟩
              exact le_pick [4] [] (by kernel_rfl)
        · refine EnvLe.trans (le_as 4 (.own (Rp.int .u64) 24 12 [] []) rfl (le_own_nil (Rp.int .u64) 24 12 [] rfl)) ?_
          exact le_pick [0, 4, 5] [] (by kernel_rfl)
        · cases q with
          | inl u =>
            refine k_exit _ rfl ?_
            refine ji_region ⟨[(2, .own (Rp.int .u64) 24 12 [] u), (3, .lf (.int .i64 0))], []⟩ ?_ ?_
            · exact ro_fin' [2, 3] [] (by kernel_rfl)
            · have hr := Option.some.inj h
              subst hr
              refine ji_ret fun a w hs => ⟨rfl, EnvLe.go ?_ hs⟩
              refine EnvLe.trans (le_pick (E' := ⟨[(2, .own (Rp.int .u64) 24 12 [] u), (3, .lf (.int .i64 0))], []⟩) [2, 3] [] (by kernel_rfl)) ?_
              refine EnvLe.trans (le_ren 12 2 rfl) ?_
              refine EnvLe.trans (le_pick (E' := ⟨[(2, .own (Rp.int .u64) 24 2 [] u), (3, .lf (.int .i64 0))], []⟩) [2, 3] [] (by kernel_rfl)) ?_
              exact le_pick [2, 3] [] (by kernel_rfl)
          | inr u2 =>
            have hr := Option.some.inj h
            subst hr
            refine k_ret fun a w hs => ⟨rfl, EnvLe.go ?_ hs⟩
            refine EnvLe.trans (le_as 2 (.own (Rp.int .u64) 24 2 [] (([], u2) : ((List Int) × Int)).1) rfl (le_own_nil (Rp.int .u64) 24 2 [] rfl)) ?_
            exact le_pick [2, 3] [] (by kernel_rfl)
theorem darningref02_Put_fok {rec_darningref02_Put : Int → Option (List UInt8)} (hrec_darningref02_Put : ∀ {wv : Int} {r : (List UInt8)}, rec_darningref02_Put wv = some r → FnOk Try.prog 14 [.lf (.int .u64 wv)] [.own Rp.byte 5 2 [] r]) {wv : Int} {r : (List UInt8)} (h : darningref02_Put_f rec_darningref02_Put wv = some r) : FnOk Try.prog 14 [.lf (.int .u64 wv)] [.own Rp.byte 5 2 [] r] := by
  refine fn_intro' (E := ⟨[(2, .own Rp.byte 5 2 [] r)], []⟩) 17 Try.func14 rfl rfl rfl ⟨rfl, trivial⟩ (fun w0 F => ?_)
  refine ji_start ?_
  refine ji_le (E' := ⟨[(0, .lf (.int .u64 wv))], []⟩) (fun _ _ _ hs => hs) ?_
  unfold darningref02_Put_f at h
  refine ji_region ⟨[(0, .lf (.int .u64 wv))], []⟩ ?_ ?_
  · exact ro_fin' [0] [] (by kernel_rfl)
  · refine ji_region ⟨[(0, .lf (.int .u64 wv)), (4, .lf (.bool (decide (wv < 128))))], []⟩ ?_ ?_
    · exact ro_fin' [0, 4] [] (by kernel_rfl)
    · rcases ite_some h with ⟨hc1, h⟩ | ⟨hc1, h⟩
      · refine ji_condT rfl hc1 ?_
        obtain ⟨y, h_y, h⟩ := bind_some' h
        refine ji_region ⟨[(2, .own Rp.byte 5 11 [] ([y] : List UInt8))], []⟩ ?_ ?_
        · refine ro_runp 2 [6] [] ⟨[(6, .lf (.int .u8 (IntKind.u8.wrap wv)))], []⟩ (by kernel_rfl) ?_
          refine ro_step rfl (LocalOk.le (ins' := [(.tmp 6, .lf (.int .u8 (IntKind.u8.wrap wv)))]) (lo_bsl [.lf (.int .u8 (y.toNat : Int))] 11 [] [y] rfl zet22 rfl rfl rfl rfl) ⟨⟨rfl, le_byte h_y⟩, trivial⟩) ⟨rfl, trivial⟩ trivial rfl rfl ?_
          exact ro_fin' [2] [] (by kernel_rfl)
        · have hr := Option.some.inj h
          subst hr
          refine ji_ret fun a w hs => ⟨rfl, EnvLe.go ?_ hs⟩
          refine EnvLe.trans (le_pick (E' := ⟨[(2, .own Rp.byte 5 11 [] ([y] : List UInt8))], []⟩) [2] [] (by kernel_rfl)) ?_
          refine EnvLe.trans (le_ren 11 2 rfl) ?_
          refine EnvLe.trans (le_pick (E' := ⟨[(2, .own Rp.byte 5 2 [] ([y] : List UInt8))], []⟩) [2] [] (by kernel_rfl)) ?_
          exact le_pick [2] [] (by kernel_rfl)
      · refine ji_condF rfl hc1 ?_
        obtain ⟨y2, h_y2, h⟩ := bind_some' h
        obtain ⟨rv, h_rv, h⟩ := bind_some' h
        obtain ⟨v, h_v, h⟩ := bind_some' h
        refine ji_region ⟨[(2, .own Rp.byte 5 12 [] v)], []⟩ ?_ ?_
        · refine ro_runp 4 [0, 11] [] ⟨[(0, .lf (.int .u64 wv)), (11, .lf (.int .u8 (IntKind.u8.wrap (IntKind.u64.wrap (128 + (Int.tmod wv 128))))))], []⟩ (by kernel_rfl) ?_
          refine ro_step rfl (LocalOk.le (ins' := [(.tmp 11, .lf (.int .u8 (IntKind.u8.wrap (IntKind.u64.wrap (128 + (Int.tmod wv 128))))))]) (lo_bsl [.lf (.int .u8 (y2.toNat : Int))] 12 [] [y2] rfl zet22 rfl rfl rfl rfl) ⟨⟨rfl, le_byte h_y2⟩, trivial⟩) ⟨rfl, trivial⟩ trivial rfl rfl ?_
          refine ro_runp 2 [12, 14] [] ⟨[(12, .own Rp.byte 5 12 [] ([y2] : List UInt8)), (14, .lf (.int .u64 (IntKind.u64.wrap (Int.tdiv wv 128))))], []⟩ (by kernel_rfl) ?_
          refine ro_step rfl (lo_call [.lf (.int .u64 (IntKind.u64.wrap (Int.tdiv wv 128)))] [1] 11 rfl Try.call14 (hrec_darningref02_Put h_rv) rfl rfl rfl rfl rfl) ⟨rfl, trivial⟩ trivial rfl rfl ?_
          refine ro_runp 0 [12, 15] [] ⟨[(12, .own Rp.byte 5 12 [] ([y2] : List UInt8)), (15, .own Rp.byte 5 13 [] rv)], []⟩ (by kernel_rfl) ?_
          refine ro_step rfl (lo_app 12 [] rfl zet22.el rfl (isOwn_own _ _ _ _ _) (isSl_own _ _ _ _ _) h_v (.inl plain_byte) rfl) ⟨rfl, rfl, trivial⟩ trivial rfl rfl ?_
          exact ro_fin' [2] [] (by kernel_rfl)
        · have hr := Option.some.inj h
          subst hr
          refine ji_ret fun a w hs => ⟨rfl, EnvLe.go ?_ hs⟩
          refine EnvLe.trans (le_pick (E' := ⟨[(2, .own Rp.byte 5 12 [] v)], []⟩) [2] [] (by kernel_rfl)) ?_
          refine EnvLe.trans (le_ren 12 2 rfl) ?_
          refine EnvLe.trans (le_pick (E' := ⟨[(2, .own Rp.byte 5 2 [] v)], []⟩) [2] [] (by kernel_rfl)) ?_
          exact le_pick [2] [] (by kernel_rfl)
theorem darningref02_Put_ok {fuel : Nat} {wv : Int} {r : (List UInt8)} (h : darningref02_Put fuel wv = some r) : FnOk Try.prog 14 [.lf (.int .u64 wv)] [.own Rp.byte 5 2 [] r] := by
  induction fuel generalizing wv r with
  | zero => exact absurd h nofun
  | succ fuel ih => exact darningref02_Put_fok (fun hh => ih hh) h
theorem darningref01_Same_ok {av : (List UInt8)} {b : (List UInt8)} {r : Bool} (h : darningref01_Same av b = some r) : FnOk Try.prog 13 [.sl Rp.byte [0] av, .sl Rp.byte [0] b] [.lf (.bool r)] := by
  refine fn_intro' (E := ⟨[(4, .lf (.bool r))], []⟩) 10 Try.func13 rfl rfl rfl ⟨rfl, trivial⟩ (fun w0 F => ?_)
  refine ji_start ?_
  refine ji_le (E' := ⟨[(0, .sl Rp.byte [0] av), (1, .sl Rp.byte [0] b)], []⟩) (fun _ _ _ hs => hs) ?_
  unfold darningref01_Same at h
  refine ji_region ⟨[(0, .sl Rp.byte [0] av), (1, .sl Rp.byte [0] b)], []⟩ ?_ ?_
  · exact ro_fin' [0, 1] [] (by kernel_rfl)
  · refine ji_region ⟨[(4, .lf (.bool (av == b)))], []⟩ ?_ ?_
    · refine ro_runp 1 [1, 5] [] ⟨[(1, .sl Rp.byte [0] b), (5, .sl Rp.byte [0] av)], []⟩ (by kernel_rfl) ?_
      refine ro_step rfl (lo_b2s rfl Try.underlying22 Try.underlying5 Try.underlying9 (isSl_sl _ _ _)) ⟨rfl, trivial⟩ trivial rfl rfl ?_
      refine ro_runp 1 [6, 7] [] ⟨[(6, .lf (.str av)), (7, .sl Rp.byte [0] b)], []⟩ (by kernel_rfl) ?_
      refine ro_step rfl (lo_b2s rfl Try.underlying22 Try.underlying5 Try.underlying9 (isSl_sl _ _ _)) ⟨rfl, trivial⟩ trivial rfl rfl ?_
      exact ro_fin' [4] [] (by kernel_rfl)
    · have hr := Option.some.inj h
      subst hr
      refine ji_ret fun a w hs => ⟨rfl, EnvLe.go ?_ hs⟩
      exact le_pick [4] [] (by kernel_rfl)
theorem darningref02_Same_ok {av : (List Int)} {b : (List Int)} {r : Bool} (h : darningref02_Same av b = some r) : FnOk Try.prog 15 [.sl (Rp.int .u64) [0] av, .sl (Rp.int .u64) [0] b] [.lf (.bool r)] := by
  refine fn_intro' (E := ⟨[(4, .lf (.bool r))], []⟩) 26 Try.func15 rfl rfl rfl ⟨rfl, trivial⟩ (fun w0 F => ?_)
  refine ji_start ?_
  refine ji_le (E' := ⟨[(0, .sl (Rp.int .u64) [0] av), (1, .sl (Rp.int .u64) [0] b)], []⟩) (fun _ _ _ hs => hs) ?_
  unfold darningref02_Same at h
  refine ji_region ⟨[(0, .sl (Rp.int .u64) [0] av), (1, .sl (Rp.int .u64) [0] b)], []⟩ ?_ ?_
  · exact ro_fin' [0, 1] [] (by kernel_rfl)
  · refine ji_region ⟨[(0, .sl (Rp.int .u64) [0] av), (1, .sl (Rp.int .u64) [0] b), (10, .lf (.bool ((av.length : Int) != (b.length : Int))))], []⟩ ?_ ?_
    · exact ro_fin' [0, 1, 10] [] (by kernel_rfl)
    · rcases ite_some h with ⟨hc1, h⟩ | ⟨hc1, h⟩
      · refine ji_condT rfl hc1 ?_
        refine ji_region ⟨[(4, .lf (.bool false))], []⟩ ?_ ?_
        · exact ro_fin' [4] [] (by kernel_rfl)
        · have hr := Option.some.inj h
          subst hr
          refine ji_ret fun a w hs => ⟨rfl, EnvLe.go ?_ hs⟩
          exact le_pick [4] [] (by kernel_rfl)
      · refine ji_condF rfl hc1 ?_
        refine ji_region ⟨[(0, .sl (Rp.int .u64) [0] av), (1, .sl (Rp.int .u64) [0] b), (5, .lf (.int .i64 0))], []⟩ ?_ ?_
        · exact ro_fin' [0, 1, 5] [] (by kernel_rfl)
        · refine ji_block ?_
          obtain ⟨q, h_q, h⟩ := bind_some' h
          refine ji_loop (fun s : Int => darningref02_Same_b1 av b s) (fun s => Sx ⟨26, w0, F⟩ ⟨[(0, .sl (Rp.int .u64) [0] av), (1, .sl (Rp.int .u64) [0] b), (5, .lf (.int .i64 s))], []⟩) (fun o e a w => match o with | (.inl v_) => e = .exit 0 ∧ Sx ⟨26, w0, F⟩ ⟨[], []⟩ a w | (.inr v_) => e = .ret ∧ Sx ⟨26, w0, F⟩ ⟨[(4, .lf (.bool false))], []⟩ a w) ?_ h_q (fun a w hs => EnvLe.go ?_ hs) ?_
          · clear h
            intro i o h
            refine ji_start ?_
            refine ji_le (E' := ⟨[(0, .sl (Rp.int .u64) [0] av), (1, .sl (Rp.int .u64) [0] b), (5, .lf (.int .i64 i))], []⟩) (fun _ _ _ hs => hs) ?_
            replace h : darningref02_Same_b1 av b i = some o := h
            unfold darningref02_Same_b1 at h
            refine ji_region ⟨[(0, .sl (Rp.int .u64) [0] av), (1, .sl (Rp.int .u64) [0] b), (5, .lf (.int .i64 i)), (14, .lf (.bool (decide (i < (av.length : Int)))))], []⟩ ?_ ?_
            · exact ro_fin' [0, 1, 5, 14] [] (by kernel_rfl)
            · rcases ite_some h with ⟨hc2, h⟩ | ⟨hc2, h⟩
              · refine ji_condT rfl hc2 ?_
                refine ji_block ?_
                obtain ⟨x, h_x, h⟩ := bind_some' h
                obtain ⟨x2, h_x2, h⟩ := bind_some' h
                refine ji_draw ⟨[(0, .sl (Rp.int .u64) [0] av), (1, .sl (Rp.int .u64) [0] b), (5, .lf (.int .i64 i)), (25, .lf (.bool (x != x2)))], []⟩ [.ev, .ev, .ex [] [] [] (.ep (Rp.int .u64) [0] x 0) [], .ev, .ev, .ev, .ex [] [] [] (.ep (Rp.int .u64) [0] x2 0) []] [([(.tmp 17, .sl (Rp.int .u64) [0] av), (.tmp 18, .lf (.int .i64 i))], []), ([(.tmp 21, .sl (Rp.int .u64) [0] b), (.tmp 22, .lf (.int .i64 i))], [])] [0, 1, 5, 25] [] mixed (by kernel_rfl) (And.intro (lo_ix rfl zet32.el (isSl_sl _ _ _) h_x) (And.intro (lo_ix rfl zet32.el (isSl_sl _ _ _) h_x2) True.intro)) ?_
                rcases ite_some h with ⟨hc3, h⟩ | ⟨hc3, h⟩
                · refine ji_condT rfl hc3 ?_
                  refine ji_region ⟨[(4, .lf (.bool false))], []⟩ ?_ ?_
                  · exact ro_fin' [4] [] (by kernel_rfl)
                  · have hr := Option.some.inj h
                    subst hr
                    refine ji_ret fun a w hs => ⟨nofun, rfl, EnvLe.go ?_ hs⟩
                    exact le_pick [4] [] (by kernel_rfl)
                · refine ji_condF rfl hc3 ?_
                  refine ji_end ?_
                  refine ji_region ⟨[(0, .sl (Rp.int .u64) [0] av), (1, .sl (Rp.int .u64) [0] b), (5, .lf (.int .i64 (IntKind.i64.wrap (i + 1))))], []⟩ ?_ ?_
                  · exact ro_fin' [0, 1, 5] [] (by kernel_rfl)
                  · have hr := Option.some.inj h
                    subst hr
                    refine ji_nil fun a w hs => ⟨rfl, EnvLe.go ?_ hs⟩
                    exact le_pick [0, 1, 5] [] (by kernel_rfl)
              · refine ji_condF rfl hc2 ?_
                have hr := Option.some.inj h
                subst hr
                refine ji_exitO rfl fun a w hs => ⟨nofun, rfl, EnvLe.go ?_ hs⟩
                exact le_pick [] [] (by kernel_rfl)
          · exact le_pick [0, 1, 5] [] (by kernel_rfl)
          · cases q with
            | inl u =>
              refine k_exit _ rfl ?_
              refine ji_region ⟨[(4, .lf (.bool true))], []⟩ ?_ ?_
              · exact ro_fin' [4] [] (by kernel_rfl)
              · have hr := Option.some.inj h
                subst hr
                refine ji_ret fun a w hs => ⟨rfl, EnvLe.go ?_ hs⟩
                exact le_pick [4] [] (by kernel_rfl)
            | inr u2 =>
              have hr := Option.some.inj h
              subst hr
              refine k_ret fun a w hs => ⟨rfl, EnvLe.go ?_ hs⟩
              exact le_pick [4] [] (by kernel_rfl)
theorem darninglaw02_VarintReads_ok {fuel : Nat} {b : (List UInt8)} {r : Bool} (h : darninglaw02_VarintReads fuel b = some r) : FnOk Try.prog 3 [.sl Rp.byte [0] b] [.lf (.bool r)] := by
  refine fn_intro' (E := ⟨[(2, .lf (.bool r))], []⟩) 104 Try.func3 rfl rfl rfl ⟨rfl, trivial⟩ (fun w0 F => ?_)
  refine ji_start ?_
  refine ji_le (E' := ⟨[(0, .sl Rp.byte [0] b)], []⟩) (fun _ _ _ hs => hs) ?_
  unfold darninglaw02_VarintReads at h
  refine ji_region ⟨[(0, .sl Rp.byte [0] b)], []⟩ ?_ ?_
  · exact ro_fin' [0] [] (by kernel_rfl)
  · obtain ⟨rv, h_rv, h⟩ := bind_some' h
    refine ji_region ⟨[(0, .sl Rp.byte [0] b), (17, .lf (.bool (!rv)))], []⟩ ?_ ?_
    · refine ro_step rfl (lo_call [] [1] 9 rfl Try.call7 (darninglaw02_alive_ok h_rv) rfl rfl rfl rfl rfl) trivial trivial rfl rfl ?_
      exact ro_fin' [0, 17] [] (by kernel_rfl)
    · rcases ite_some h with ⟨hc1, h⟩ | ⟨hc1, h⟩
      · refine ji_condT rfl hc1 ?_
        refine ji_region ⟨[(2, .lf (.bool false))], []⟩ ?_ ?_
        · exact ro_fin' [2] [] (by kernel_rfl)
        · have hr := Option.some.inj h
          subst hr
          refine ji_ret fun a w hs => ⟨rfl, EnvLe.go ?_ hs⟩
          exact le_pick [2] [] (by kernel_rfl)
      · refine ji_condF rfl hc1 ?_
        refine ji_region ⟨[(0, .sl Rp.byte [0] b), (20, .lf (.bool (decide ((b.length : Int) > 2000))))], []⟩ ?_ ?_
        · exact ro_fin' [0, 20] [] (by kernel_rfl)
        · rcases ite_some h with ⟨hc2, h⟩ | ⟨hc2, h⟩
          · refine ji_condT rfl hc2 ?_
            refine ji_region ⟨[(2, .lf (.bool true))], []⟩ ?_ ?_
            · exact ro_fin' [2] [] (by kernel_rfl)
            · have hr := Option.some.inj h
              subst hr
              refine ji_ret fun a w hs => ⟨rfl, EnvLe.go ?_ hs⟩
              exact le_pick [2] [] (by kernel_rfl)
          · refine ji_condF rfl hc2 ?_
            obtain ⟨rv2, h_rv2, h⟩ := bind_some' h
            refine ji_region ⟨[(0, .sl Rp.byte [0] b), (3, .lf (.int .u64 rv2.1)), (4, .lf (.int .i64 rv2.2.1)), (5, .lf (.int .u8 rv2.2.2))], []⟩ ?_ ?_
            · refine ro_runp 1 [0, 22] [] ⟨[(0, .sl Rp.byte [0] b), (22, .sl Rp.byte [0] b)], []⟩ (by kernel_rfl) ?_
              refine ro_step rfl (lo_call [.sl Rp.byte [0] b] [0] 9 rfl Try.call8 (varint_Read_ok h_rv2) rfl rfl rfl rfl rfl) ⟨rfl, trivial⟩ trivial rfl rfl ?_
              exact ro_fin' [0, 3, 4, 5] [] (by kernel_rfl)
            · obtain ⟨rv3, h_rv3, h⟩ := bind_some' h
              refine ji_region ⟨[(0, .sl Rp.byte [0] b), (3, .lf (.int .u64 rv2.1)), (4, .lf (.int .i64 rv2.2.1)), (5, .lf (.int .u8 rv2.2.2)), (6, .lf (.int .u64 rv3.1)), (7, .lf (.int .i64 rv3.2.1)), (8, .lf (.int .i64 rv3.2.2))], []⟩ ?_ ?_
              · refine ro_runp 1 [0, 3, 4, 5, 28] [] ⟨[(0, .sl Rp.byte [0] b), (3, .lf (.int .u64 rv2.1)), (4, .lf (.int .i64 rv2.2.1)), (5, .lf (.int .u8 rv2.2.2)), (28, .sl Rp.byte [0] b)], []⟩ (by kernel_rfl) ?_
                refine ro_step rfl (lo_call [.sl Rp.byte [0] b, .lf (.int .i64 0)] [0] 9 rfl Try.call9 (darningref02_Read_ok h_rv3) rfl rfl rfl rfl rfl) ⟨rfl, rfl, trivial⟩ trivial rfl rfl ?_
                exact ro_fin' [0, 3, 4, 5, 6, 7, 8] [] (by kernel_rfl)
              · obtain ⟨rv4, h_rv4, h⟩ := bind_some' h
                refine ji_region ⟨[(0, .sl Rp.byte [0] b), (3, .lf (.int .u64 rv2.1)), (4, .lf (.int .i64 rv2.2.1)), (5, .lf (.int .u8 rv2.2.2)), (6, .lf (.int .u64 rv3.1)), (7, .lf (.int .i64 rv3.2.1)), (8, .lf (.int .i64 rv3.2.2)), (9, .lf (.int .i64 rv4.1)), (10, .lf (.int .u8 rv4.2))], []⟩ ?_ ?_
                · refine ro_runp 1 [0, 3, 4, 5, 6, 7, 8, 34] [] ⟨[(0, .sl Rp.byte [0] b), (3, .lf (.int .u64 rv2.1)), (4, .lf (.int .i64 rv2.2.1)), (5, .lf (.int .u8 rv2.2.2)), (6, .lf (.int .u64 rv3.1)), (7, .lf (.int .i64 rv3.2.1)), (8, .lf (.int .i64 rv3.2.2)), (34, .sl Rp.byte [0] b)], []⟩ (by kernel_rfl) ?_
                  refine ro_step rfl (lo_call [.sl Rp.byte [0] b] [0] 9 rfl Try.call10 (varint_Skip_ok h_rv4) rfl rfl rfl rfl rfl) ⟨rfl, trivial⟩ trivial rfl rfl ?_
                  exact ro_fin' [0, 3, 4, 5, 6, 7, 8, 9, 10] [] (by kernel_rfl)
                · obtain ⟨rv5, h_rv5, h⟩ := bind_some' h
                  refine ji_region ⟨[(0, .sl Rp.byte [0] b), (3, .lf (.int .u64 rv2.1)), (4, .lf (.int .i64 rv2.2.1)), (5, .lf (.int .u8 rv2.2.2)), (6, .lf (.int .u64 rv3.1)), (7, .lf (.int .i64 rv3.2.1)), (8, .lf (.int .i64 rv3.2.2)), (9, .lf (.int .i64 rv4.1)), (10, .lf (.int .u8 rv4.2)), (11, .own (Rp.int .u64) 24 11 [] rv5.1), (12, .lf (.int .u8 rv5.2))], []⟩ ?_ ?_
                  · refine ro_runp 1 [0, 3, 4, 5, 6, 7, 8, 9, 10, 39] [] ⟨[(0, .sl Rp.byte [0] b), (3, .lf (.int .u64 rv2.1)), (4, .lf (.int .i64 rv2.2.1)), (5, .lf (.int .u8 rv2.2.2)), (6, .lf (.int .u64 rv3.1)), (7, .lf (.int .i64 rv3.2.1)), (8, .lf (.int .i64 rv3.2.2)), (9, .lf (.int .i64 rv4.1)), (10, .lf (.int .u8 rv4.2)), (39, .sl Rp.byte [0] b)], []⟩ (by kernel_rfl) ?_
                    refine ro_step rfl (lo_call [.sl Rp.byte [0] b] [0] 9 rfl Try.call11 (varint_All_ok h_rv5) rfl rfl rfl rfl rfl) ⟨rfl, trivial⟩ trivial rfl rfl ?_
                    exact ro_fin' [0, 3, 4, 5, 6, 7, 8, 9, 10, 11, 12] [] (by kernel_rfl)
                  · obtain ⟨rv6, h_rv6, h⟩ := bind_some' h
                    refine ji_region ⟨[(0, .sl Rp.byte [0] b), (3, .lf (.int .u64 rv2.1)), (4, .lf (.int .i64 rv2.2.1)), (5, .lf (.int .u8 rv2.2.2)), (6, .lf (.int .u64 rv3.1)), (7, .lf (.int .i64 rv3.2.1)), (8, .lf (.int .i64 rv3.2.2)), (9, .lf (.int .i64 rv4.1)), (10, .lf (.int .u8 rv4.2)), (11, .own (Rp.int .u64) 24 11 [] rv5.1), (12, .lf (.int .u8 rv5.2)), (13, .own (Rp.int .u64) 24 12 [] rv6.1), (14, .lf (.int .i64 rv6.2))], []⟩ ?_ ?_
                    · refine ro_runp 1 [0, 3, 4, 5, 6, 7, 8, 9, 10, 11, 12, 44] [] ⟨[(0, .sl Rp.byte [0] b), (3, .lf (.int .u64 rv2.1)), (4, .lf (.int .i64 rv2.2.1)), (5, .lf (.int .u8 rv2.2.2)), (6, .lf (.int .u64 rv3.1)), (7, .lf (.int .i64 rv3.2.1)), (8, .lf (.int .i64 rv3.2.2)), (9, .lf (.int .i64 rv4.1)), (10, .lf (.int .u8 rv4.2)), (11, .own (Rp.int .u64) 24 11 [] rv5.1), (12, .lf (.int .u8 rv5.2)), (44, .sl Rp.byte [0] b)], []⟩ (by kernel_rfl) ?_
                      refine ro_step rfl (lo_call [.sl Rp.byte [0] b] [0] 10 rfl Try.call12 (darningref02_All_ok h_rv6) rfl rfl rfl rfl rfl) ⟨rfl, trivial⟩ trivial rfl rfl ?_
                      exact ro_fin' [0, 3, 4, 5, 6, 7, 8, 9, 10, 11, 12, 13, 14] [] (by kernel_rfl)
                    · obtain ⟨g, h_g, h⟩ := bind_some' h
                      refine ji_region ⟨[(0, .sl Rp.byte [0] b), (3, .lf (.int .u64 rv2.1)), (4, .lf (.int .i64 rv2.2.1)), (5, .lf (.int .u8 rv2.2.2)), (6, .lf (.int .u64 rv3.1)), (7, .lf (.int .i64 rv3.2.1)), (8, .lf (.int .i64 rv3.2.2)), (9, .lf (.int .i64 rv4.1)), (10, .lf (.int .u8 rv4.2)), (11, .own (Rp.int .u64) 24 11 [] rv5.1), (12, .lf (.int .u8 rv5.2)), (13, .own (Rp.int .u64) 24 12 [] rv6.1), (14, .lf (.int .i64 rv6.2)), (15, .lf (.bool g))], []⟩ ?_ ?_
                      · refine ro_runp 3 [0, 3, 4, 5, 6, 7, 8, 9, 10, 11, 12, 13, 14, 50] [] ⟨[(0, .sl Rp.byte [0] b), (3, .lf (.int .u64 rv2.1)), (4, .lf (.int .i64 rv2.2.1)), (5, .lf (.int .u8 rv2.2.2)), (6, .lf (.int .u64 rv3.1)), (7, .lf (.int .i64 rv3.2.1)), (8, .lf (.int .i64 rv3.2.2)), (9, .lf (.int .i64 rv4.1)), (10, .lf (.int .u8 rv4.2)), (11, .own (Rp.int .u64) 24 11 [] rv5.1), (12, .lf (.int .u8 rv5.2)), (13, .own (Rp.int .u64) 24 12 [] rv6.1), (14, .lf (.int .i64 rv6.2)), (50, .lf (.bool (rv3.2.2 == 0)))], []⟩ (by kernel_rfl) ?_
                        refine ro_split 50 (rv3.2.2 == 0) rfl (fun hc3 => ?_) (fun hc3 => ?_)
                        · replace h_g := iteT h_g hc3
                          refine ro_runp 6 [0, 3, 4, 5, 6, 7, 8, 9, 10, 11, 12, 13, 14, 56] [] ⟨[(0, .sl Rp.byte [0] b), (3, .lf (.int .u64 rv2.1)), (4, .lf (.int .i64 rv2.2.1)), (5, .lf (.int .u8 rv2.2.2)), (6, .lf (.int .u64 rv3.1)), (7, .lf (.int .i64 rv3.2.1)), (8, .lf (.int .i64 rv3.2.2)), (9, .lf (.int .i64 rv4.1)), (10, .lf (.int .u8 rv4.2)), (11, .own (Rp.int .u64) 24 11 [] rv5.1), (12, .lf (.int .u8 rv5.2)), (13, .own (Rp.int .u64) 24 12 [] rv6.1), (14, .lf (.int .i64 rv6.2)), (56, .lf (.bool (rv3.2.1 == (b.length : Int))))], []⟩ (by kernel_rfl) ?_
                          refine ro_split 56 (rv3.2.1 == (b.length : Int)) rfl (fun hc4 => ?_) (fun hc4 => ?_)
                          · replace h_g := iteT h_g hc4
                            obtain ⟨rv7, h_rv7, h_g⟩ := bind_some' h_g
                            obtain ⟨rv8, h_rv8, h_g⟩ := bind_some' h_g
                            have hr := Option.some.inj h_g
                            subst hr
                            refine ro_runp 2 [0, 3, 4, 5, 6, 7, 8, 9, 10, 11, 12, 13, 14, 56, 57, 58] [] ⟨[(0, .sl Rp.byte [0] b), (3, .lf (.int .u64 rv2.1)), (4, .lf (.int .i64 rv2.2.1)), (5, .lf (.int .u8 rv2.2.2)), (6, .lf (.int .u64 rv3.1)), (7, .lf (.int .i64 rv3.2.1)), (8, .lf (.int .i64 rv3.2.2)), (9, .lf (.int .i64 rv4.1)), (10, .lf (.int .u8 rv4.2)), (11, .own (Rp.int .u64) 24 11 [] rv5.1), (12, .lf (.int .u8 rv5.2)), (13, .own (Rp.int .u64) 24 12 [] rv6.1), (14, .lf (.int .i64 rv6.2)), (56, .lf (.bool true)), (57, .sl Rp.byte [0] b), (58, .lf (.int .u64 rv3.1))], []⟩ (by kernel_rfl) ?_
                            refine ro_step rfl (lo_call [.lf (.int .u64 rv3.1)] [1] 11 rfl Try.call14 (darningref02_Put_ok h_rv7) rfl rfl rfl rfl rfl) ⟨rfl, trivial⟩ trivial rfl rfl ?_
                            refine ro_runp 0 [0, 3, 4, 5, 6, 7, 8, 9, 10, 11, 12, 13, 14, 56, 57, 59] [] ⟨[(0, .sl Rp.byte [0] b), (3, .lf (.int .u64 rv2.1)), (4, .lf (.int .i64 rv2.2.1)), (5, .lf (.int .u8 rv2.2.2)), (6, .lf (.int .u64 rv3.1)), (7, .lf (.int .i64 rv3.2.1)), (8, .lf (.int .i64 rv3.2.2)), (9, .lf (.int .i64 rv4.1)), (10, .lf (.int .u8 rv4.2)), (11, .own (Rp.int .u64) 24 11 [] rv5.1), (12, .lf (.int .u8 rv5.2)), (13, .own (Rp.int .u64) 24 12 [] rv6.1), (14, .lf (.int .i64 rv6.2)), (56, .lf (.bool true)), (57, .sl Rp.byte [0] b), (59, .own Rp.byte 5 13 [] rv7)], []⟩ (by kernel_rfl) ?_
                            refine ro_step rfl (lo_call [.sl Rp.byte [0] b, .own Rp.byte 5 13 [] rv7] [0, 13] 12 rfl Try.call13 (darningref01_Same_ok h_rv8) rfl rfl rfl rfl rfl) ⟨rfl, rfl, trivial⟩ trivial rfl rfl ?_
                            refine ro_runp 2 [0, 3, 4, 5, 6, 7, 8, 9, 10, 11, 12, 13, 14, 15] [] ⟨[(0, .sl Rp.byte [0] b), (3, .lf (.int .u64 rv2.1)), (4, .lf (.int .i64 rv2.2.1)), (5, .lf (.int .u8 rv2.2.2)), (6, .lf (.int .u64 rv3.1)), (7, .lf (.int .i64 rv3.2.1)), (8, .lf (.int .i64 rv3.2.2)), (9, .lf (.int .i64 rv4.1)), (10, .lf (.int .u8 rv4.2)), (11, .own (Rp.int .u64) 24 11 [] rv5.1), (12, .lf (.int .u8 rv5.2)), (13, .own (Rp.int .u64) 24 12 [] rv6.1), (14, .lf (.int .i64 rv6.2)), (15, .lf (.bool rv8))], []⟩ (by kernel_rfl) ?_
                            refine ro_le ?_ ro_nil
                            exact le_pick [0, 3, 4, 5, 6, 7, 8, 9, 10, 11, 12, 13, 14, 15] [] (by kernel_rfl)
                          · replace h_g := iteF h_g hc4
                            have hr := Option.some.inj h_g
                            subst hr
                            refine ro_runp 6 [0, 3, 4, 5, 6, 7, 8, 9, 10, 11, 12, 13, 14, 15] [] ⟨[(0, .sl Rp.byte [0] b), (3, .lf (.int .u64 rv2.1)), (4, .lf (.int .i64 rv2.2.1)), (5, .lf (.int .u8 rv2.2.2)), (6, .lf (.int .u64 rv3.1)), (7, .lf (.int .i64 rv3.2.1)), (8, .lf (.int .i64 rv3.2.2)), (9, .lf (.int .i64 rv4.1)), (10, .lf (.int .u8 rv4.2)), (11, .own (Rp.int .u64) 24 11 [] rv5.1), (12, .lf (.int .u8 rv5.2)), (13, .own (Rp.int .u64) 24 12 [] rv6.1), (14, .lf (.int .i64 rv6.2)), (15, .lf (.bool false))], []⟩ (by kernel_rfl) ?_
                            refine ro_le ?_ ro_nil
                            exact le_pick [0, 3, 4, 5, 6, 7, 8, 9, 10, 11, 12, 13, 14, 15] [] (by kernel_rfl)
                        · replace h_g := iteF h_g hc3
                          have hr := Option.some.inj h_g
                          subst hr
                          refine ro_runp 12 [0, 3, 4, 5, 6, 7, 8, 9, 10, 11, 12, 13, 14, 15] [] ⟨[(0, .sl Rp.byte [0] b), (3, .lf (.int .u64 rv2.1)), (4, .lf (.int .i64 rv2.2.1)), (5, .lf (.int .u8 rv2.2.2)), (6, .lf (.int .u64 rv3.1)), (7, .lf (.int .i64 rv3.2.1)), (8, .lf (.int .i64 rv3.2.2)), (9, .lf (.int .i64 rv4.1)), (10, .lf (.int .u8 rv4.2)), (11, .own (Rp.int .u64) 24 11 [] rv5.1), (12, .lf (.int .u8 rv5.2)), (13, .own (Rp.int .u64) 24 12 [] rv6.1), (14, .lf (.int .i64 rv6.2)), (15, .lf (.bool false))], []⟩ (by kernel_rfl) ?_
                          refine ro_le ?_ ro_nil
                          exact le_pick [0, 3, 4, 5, 6, 7, 8, 9, 10, 11, 12, 13, 14, 15] [] (by kernel_rfl)
                      · obtain ⟨g2, h_g2, h⟩ := bind_some' h
                        refine ji_region ⟨[(2, .lf (.bool g2))], []⟩ ?_ ?_
                        · refine ro_runp 4 [0, 4, 5, 7, 8, 9, 10, 11, 12, 13, 14, 15, 65] [] ⟨[(0, .sl Rp.byte [0] b), (4, .lf (.int .i64 rv2.2.1)), (5, .lf (.int .u8 rv2.2.2)), (7, .lf (.int .i64 rv3.2.1)), (8, .lf (.int .i64 rv3.2.2)), (9, .lf (.int .i64 rv4.1)), (10, .lf (.int .u8 rv4.2)), (11, .own (Rp.int .u64) 24 11 [] rv5.1), (12, .lf (.int .u8 rv5.2)), (13, .own (Rp.int .u64) 24 12 [] rv6.1), (14, .lf (.int .i64 rv6.2)), (15, .lf (.bool g)), (65, .lf (.bool (rv2.1 == rv3.1)))], []⟩ (by kernel_rfl) ?_
                          refine ro_split 65 (rv2.1 == rv3.1) rfl (fun hc5 => ?_) (fun hc5 => ?_)
                          · replace h_g2 := iteT h_g2 hc5
                            refine ro_runp 5 [0, 5, 7, 8, 9, 10, 11, 12, 13, 14, 15, 70] [] ⟨[(0, .sl Rp.byte [0] b), (5, .lf (.int .u8 rv2.2.2)), (7, .lf (.int .i64 rv3.2.1)), (8, .lf (.int .i64 rv3.2.2)), (9, .lf (.int .i64 rv4.1)), (10, .lf (.int .u8 rv4.2)), (11, .own (Rp.int .u64) 24 11 [] rv5.1), (12, .lf (.int .u8 rv5.2)), (13, .own (Rp.int .u64) 24 12 [] rv6.1), (14, .lf (.int .i64 rv6.2)), (15, .lf (.bool g)), (70, .lf (.bool (rv2.2.1 == rv3.2.1)))], []⟩ (by kernel_rfl) ?_
                            refine ro_split 70 (rv2.2.1 == rv3.2.1) rfl (fun hc6 => ?_) (fun hc6 => ?_)
                            · replace h_g2 := iteT h_g2 hc6
                              refine ro_runp 6 [0, 7, 8, 9, 10, 11, 12, 13, 14, 15, 76] [] ⟨[(0, .sl Rp.byte [0] b), (7, .lf (.int .i64 rv3.2.1)), (8, .lf (.int .i64 rv3.2.2)), (9, .lf (.int .i64 rv4.1)), (10, .lf (.int .u8 rv4.2)), (11, .own (Rp.int .u64) 24 11 [] rv5.1), (12, .lf (.int .u8 rv5.2)), (13, .own (Rp.int .u64) 24 12 [] rv6.1), (14, .lf (.int .i64 rv6.2)), (15, .lf (.bool g)), (76, .lf (.bool ((IntKind.i64.wrap rv2.2.2) == rv3.2.2)))], []⟩ (by kernel_rfl) ?_
                              refine ro_split 76 ((IntKind.i64.wrap rv2.2.2) == rv3.2.2) rfl (fun hc7 => ?_) (fun hc7 => ?_)
                              · replace h_g2 := iteT h_g2 hc7
                                refine ro_runp 5 [0, 8, 10, 11, 12, 13, 14, 15, 81] [] ⟨[(0, .sl Rp.byte [0] b), (8, .lf (.int .i64 rv3.2.2)), (10, .lf (.int .u8 rv4.2)), (11, .own (Rp.int .u64) 24 11 [] rv5.1), (12, .lf (.int .u8 rv5.2)), (13, .own (Rp.int .u64) 24 12 [] rv6.1), (14, .lf (.int .i64 rv6.2)), (15, .lf (.bool g)), (81, .lf (.bool (rv4.1 == rv3.2.1)))], []⟩ (by kernel_rfl) ?_
                                refine ro_split 81 (rv4.1 == rv3.2.1) rfl (fun hc8 => ?_) (fun hc8 => ?_)
                                · replace h_g2 := iteT h_g2 hc8
                                  refine ro_runp 6 [0, 11, 12, 13, 14, 15, 87] [] ⟨[(0, .sl Rp.byte [0] b), (11, .own (Rp.int .u64) 24 11 [] rv5.1), (12, .lf (.int .u8 rv5.2)), (13, .own (Rp.int .u64) 24 12 [] rv6.1), (14, .lf (.int .i64 rv6.2)), (15, .lf (.bool g)), (87, .lf (.bool ((IntKind.i64.wrap rv4.2) == rv3.2.2)))], []⟩ (by kernel_rfl) ?_
                                  refine ro_split 87 ((IntKind.i64.wrap rv4.2) == rv3.2.2) rfl (fun hc9 => ?_) (fun hc9 => ?_)
                                  · replace h_g2 := iteT h_g2 hc9
                                    refine ro_runp 6 [0, 11, 13, 15, 93] [] ⟨[(0, .sl Rp.byte [0] b), (11, .own (Rp.int .u64) 24 11 [] rv5.1), (13, .own (Rp.int .u64) 24 12 [] rv6.1), (15, .lf (.bool g)), (93, .lf (.bool ((IntKind.i64.wrap rv5.2) == rv6.2)))], []⟩ (by kernel_rfl) ?_
                                    refine ro_split 93 ((IntKind.i64.wrap rv5.2) == rv6.2) rfl (fun hc10 => ?_) (fun hc10 => ?_)
                                    · replace h_g2 := iteT h_g2 hc10
                                      obtain ⟨rv9, h_rv9, h_g2⟩ := bind_some' h_g2
                                      refine ro_runp 2 [0, 15, 93, 94, 95] [] ⟨[(0, .sl Rp.byte [0] b), (15, .lf (.bool g)), (93, .lf (.bool true)), (94, .own (Rp.int .u64) 24 11 [] rv5.1), (95, .own (Rp.int .u64) 24 12 [] rv6.1)], []⟩ (by kernel_rfl) ?_
                                      refine ro_step rfl (lo_call [.own (Rp.int .u64) 24 11 [] rv5.1, .own (Rp.int .u64) 24 12 [] rv6.1] [11, 12] 12 rfl Try.call15 (darningref02_Same_ok h_rv9) rfl rfl rfl rfl rfl) ⟨rfl, rfl, trivial⟩ trivial rfl rfl ?_
                                      refine ro_runp 2 [0, 15, 98] [] ⟨[(0, .sl Rp.byte [0] b), (15, .lf (.bool g)), (98, .lf (.bool rv9))], []⟩ (by kernel_rfl) ?_
                                      refine ro_split 98 rv9 rfl (fun hc11 => ?_) (fun hc11 => ?_)
                                      · replace h_g2 := iteT h_g2 hc11
                                        obtain ⟨rv10, h_rv10, h_g2⟩ := bind_some' h_g2
                                        have hr := Option.some.inj h_g2
                                        subst hr
                                        refine ro_runp 1 [15, 98, 99] [] ⟨[(15, .lf (.bool g)), (98, .lf (.bool true)), (99, .sl Rp.byte [0] b)], []⟩ (by kernel_rfl) ?_
                                        refine ro_step rfl (lo_call [.sl Rp.byte [0] b] [0] 12 rfl Try.call16 (varint_Minimal_ok h_rv10) rfl rfl rfl rfl rfl) ⟨rfl, trivial⟩ trivial rfl rfl ?_
                                        refine ro_runp 4 [2] [] ⟨[(2, .lf (.bool (rv10 == g)))], []⟩ (by kernel_rfl) ?_
                                        refine ro_le ?_ ro_nil
                                        exact le_pick [2] [] (by kernel_rfl)
                                      · replace h_g2 := iteF h_g2 hc11
                                        have hr := Option.some.inj h_g2
                                        subst hr
                                        refine ro_runp 6 [2] [] ⟨[(2, .lf (.bool false))], []⟩ (by kernel_rfl) ?_
                                        refine ro_le ?_ ro_nil
                                        exact le_pick [2] [] (by kernel_rfl)
                                    · replace h_g2 := iteF h_g2 hc10
                                      have hr := Option.some.inj h_g2
                                      subst hr
                                      refine ro_runp 11 [2] [] ⟨[(2, .lf (.bool false))], []⟩ (by kernel_rfl) ?_
                                      refine ro_le ?_ ro_nil
                                      exact le_pick [2] [] (by kernel_rfl)
                                  · replace h_g2 := iteF h_g2 hc9
                                    have hr := Option.some.inj h_g2
                                    subst hr
                                    refine ro_runp 17 [2] [] ⟨[(2, .lf (.bool false))], []⟩ (by kernel_rfl) ?_
                                    refine ro_le ?_ ro_nil
                                    exact le_pick [2] [] (by kernel_rfl)
                                · replace h_g2 := iteF h_g2 hc8
                                  have hr := Option.some.inj h_g2
                                  subst hr
                                  refine ro_runp 23 [2] [] ⟨[(2, .lf (.bool false))], []⟩ (by kernel_rfl) ?_
                                  refine ro_le ?_ ro_nil
                                  exact le_pick [2] [] (by kernel_rfl)
                              · replace h_g2 := iteF h_g2 hc7
                                have hr := Option.some.inj h_g2
                                subst hr
                                refine ro_runp 28 [2] [] ⟨[(2, .lf (.bool false))], []⟩ (by kernel_rfl) ?_
                                refine ro_le ?_ ro_nil
                                exact le_pick [2] [] (by kernel_rfl)
                            · replace h_g2 := iteF h_g2 hc6
                              have hr := Option.some.inj h_g2
                              subst hr
                              refine ro_runp 34 [2] [] ⟨[(2, .lf (.bool false))], []⟩ (by kernel_rfl) ?_
                              refine ro_le ?_ ro_nil
                              exact le_pick [2] [] (by kernel_rfl)
                          · replace h_g2 := iteF h_g2 hc5
                            have hr := Option.some.inj h_g2
                            subst hr
                            refine ro_runp 39 [2] [] ⟨[(2, .lf (.bool false))], []⟩ (by kernel_rfl) ?_
                            refine ro_le ?_ ro_nil
                            exact le_pick [2] [] (by kernel_rfl)
                        · have hr := Option.some.inj h
                          subst hr
                          refine ji_ret fun a w hs => ⟨rfl, EnvLe.go ?_ hs⟩
                          exact le_pick [2] [] (by kernel_rfl)
theorem bits_Len_ok {wv : Int} {r : Int} (h : bits_Len wv = some r) : FnOk Try.prog 18 [.lf (.int .u64 wv)] [.lf (.int .i64 r)] := by
  refine fn_intro' (E := ⟨[(2, .lf (.int .i64 r))], []⟩) 13 Try.func18 rfl rfl rfl ⟨rfl, trivial⟩ (fun w0 F => ?_)
  refine ji_start ?_
  refine ji_le (E' := ⟨[(0, .lf (.int .u64 wv))], []⟩) (fun _ _ _ hs => hs) ?_
  unfold bits_Len at h
  refine ji_region ⟨[(0, .lf (.int .u64 wv))], []⟩ ?_ ?_
  · exact ro_fin' [0] [] (by kernel_rfl)
  · refine ji_region ⟨[(0, .lf (.int .u64 wv)), (3, .lf (.int .i64 1))], []⟩ ?_ ?_
    · exact ro_fin' [0, 3] [] (by kernel_rfl)
    · refine ji_region ⟨[(0, .lf (.int .u64 (shrI .u64 wv 7))), (3, .lf (.int .i64 1))], []⟩ ?_ ?_
      · refine ro_runp 1 [3, 4] [] ⟨[(3, .lf (.int .i64 1)), (4, .lf (.int .u64 wv))], []⟩ (by kernel_rfl) ?_
        refine ro_step rfl (lo_shr rfl rfl) ⟨rfl, rfl, trivial⟩ trivial rfl rfl ?_
        exact ro_fin' [0, 3] [] (by kernel_rfl)
      · refine ji_block ?_
        obtain ⟨q, h_q, h⟩ := bind_some' h
        refine ji_loop (fun s : (Int × Int) => bits_Len_b1 s.1 s.2) (fun s => Sx ⟨13, w0, F⟩ ⟨[(0, .lf (.int .u64 s.1)), (3, .lf (.int .i64 s.2))], []⟩) (fun o e a w => e = .exit 0 ∧ Sx ⟨13, w0, F⟩ ⟨[(3, .lf (.int .i64 o))], []⟩ a w) ?_ h_q (fun a w hs => EnvLe.go ?_ hs) ?_
        · clear h
          intro s o h
          obtain ⟨wv2, n⟩ := s
          refine ji_start ?_
          refine ji_le (E' := ⟨[(0, .lf (.int .u64 wv2)), (3, .lf (.int .i64 n))], []⟩) (fun _ _ _ hs => hs) ?_
          replace h : bits_Len_b1 wv2 n = some o := h
          unfold bits_Len_b1 at h
          refine ji_region ⟨[(0, .lf (.int .u64 wv2)), (3, .lf (.int .i64 n)), (7, .lf (.bool (wv2 != 0)))], []⟩ ?_ ?_
          · exact ro_fin' [0, 3, 7] [] (by kernel_rfl)
          · rcases ite_some h with ⟨hc1, h⟩ | ⟨hc1, h⟩
            · refine ji_condT rfl hc1 ?_
              refine ji_block ?_
              refine ji_region ⟨[(0, .lf (.int .u64 wv2)), (3, .lf (.int .i64 (IntKind.i64.wrap (n + 1))))], []⟩ ?_ ?_
              · exact ro_fin' [0, 3] [] (by kernel_rfl)
              · refine ji_end ?_
                refine ji_region ⟨[(0, .lf (.int .u64 (shrI .u64 wv2 7))), (3, .lf (.int .i64 (IntKind.i64.wrap (n + 1))))], []⟩ ?_ ?_
                · refine ro_runp 1 [3, 8] [] ⟨[(3, .lf (.int .i64 (IntKind.i64.wrap (n + 1)))), (8, .lf (.int .u64 wv2))], []⟩ (by kernel_rfl) ?_
                  refine ro_step rfl (lo_shr rfl rfl) ⟨rfl, rfl, trivial⟩ trivial rfl rfl ?_
                  exact ro_fin' [0, 3] [] (by kernel_rfl)
                · have hr := Option.some.inj h
                  subst hr
                  refine ji_nil fun a w hs => ⟨rfl, EnvLe.go ?_ hs⟩
                  exact le_pick [0, 3] [] (by kernel_rfl)
            · refine ji_condF rfl hc1 ?_
              have hr := Option.some.inj h
              subst hr
              refine ji_exitO rfl fun a w hs => ⟨nofun, rfl, EnvLe.go ?_ hs⟩
              exact le_pick [3] [] (by kernel_rfl)
        · exact le_pick [0, 3] [] (by kernel_rfl)
        · refine k_exit _ rfl ?_
          refine ji_region ⟨[(2, .lf (.int .i64 q))], []⟩ ?_ ?_
          · exact ro_fin' [2] [] (by kernel_rfl)
          · have hr := Option.some.inj h
            subst hr
            refine ji_ret fun a w hs => ⟨rfl, EnvLe.go ?_ hs⟩
            exact le_pick [2] [] (by kernel_rfl)
end Go.Proofs.Ytnpfdmlfeealgaa
