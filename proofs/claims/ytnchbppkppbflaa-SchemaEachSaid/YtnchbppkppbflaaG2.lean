/-
  The Go functions do what the plain functions say. No condition.
-/
import Derived.Test.YtnchbppkppbflaaT
namespace Go.Proofs.Ytnchbppkppbflaa
open Go Go.RowKit
set_option linter.unusedVariables false
set_option maxRecDepth 100000
theorem darningref07_Name_ok {sv : Str} {r : Bool} (h : darningref07_Name sv = some r) : FnOk Try.prog 25 [kS sv] [kB r] := by
 refine fn_intro' (E := ⟨[(2, kB r)], []⟩) 55 Try.func25 rfl rfl rfl ⟨rfl, trivial⟩ (fun Xt => ?_)
 refine ji_start ?_
 refine ji_le (E' := ⟨[(0, kS sv)], []⟩) (fun _ _ _ hs => hs) ?_
 unfold darningref07_Name at h
 refine ji_rz ⟨[(0, kS sv)], []⟩ (by kernel_rfl) ?_
 refine ji_rz ⟨[(0, kS sv), (3, kI 0)], []⟩ (by kernel_rfl) ?_
 refine ji_block ?_
 obtain ⟨q, h_q, h⟩ := bnd h
 refine je_loop (fun s : Int => darningref07_Name_b1 sv s) (fun s => ⟨[(0, kS sv), (3, kI s)], []⟩) (fun o e a w => match o with | (.inl v_) => e = .exit 0 ∧ Sx ⟨⟨55, []⟩, Xt, false, #[]⟩ ⟨[(0, kS sv)], []⟩ a w | (.inr v_) => e = .ret ∧ Sx ⟨⟨55, []⟩, Xt, false, #[]⟩ ⟨[(2, kB false)], []⟩ a w) ?_ h_q (le_z (by kernel_rfl)) ?_
 ·
  clear h
  intro i o h
  refine ji_start ?_
  refine ji_le (E' := ⟨[(0, kS sv), (3, kI i)], []⟩) (fun _ _ _ hs => hs) ?_
  replace h : darningref07_Name_b1 sv i = some o := h
  unfold darningref07_Name_b1 at h
  refine ji_rz ⟨[(0, kS sv), (3, kI i), (9, kB (decide (i < (sv.length : Int))))], []⟩ (by kernel_rfl) ?_
  rcases ite_some h with ⟨hc1, h⟩ | ⟨hc1, h⟩
  ·
   refine ji_condT rfl hc1 ?_
   refine ji_block ?_
   obtain ⟨c, h_c, h⟩ := bnd h
   refine ji_region ⟨[(0, kS sv), (3, kI i), (4, k8 (c.toNat : Int))], []⟩ (ro_oz 2 [kS sv, kI i] rfl (lo_ixs rfl Try.underlying9 h_c) rfl (by kernel_rfl)) ?_
   refine ji_region ⟨[(0, kS sv), (3, kI i), (5, kB (if (decide ((c.toNat : Int) ≥ 65)) then ((decide ((c.toNat : Int) ≤ 90)) || (if (decide ((c.toNat : Int) ≥ 97)) then ((decide ((c.toNat : Int) ≤ 122)) || (((c.toNat : Int) == 95) || ((decide (i > 0)) && ((decide ((c.toNat : Int) ≥ 48)) && (decide ((c.toNat : Int) ≤ 57)))))) else (((c.toNat : Int) == 95) || ((decide (i > 0)) && ((decide ((c.toNat : Int) ≥ 48)) && (decide ((c.toNat : Int) ≤ 57))))))) else (if (decide ((c.toNat : Int) ≥ 97)) then ((decide ((c.toNat : Int) ≤ 122)) || (((c.toNat : Int) == 95) || ((decide (i > 0)) && ((decide ((c.toNat : Int) ≥ 48)) && (decide ((c.toNat : Int) ≤ 57)))))) else (((c.toNat : Int) == 95) || ((decide (i > 0)) && ((decide ((c.toNat : Int) ≥ 48)) && (decide ((c.toNat : Int) ≤ 57))))))))], []⟩ ?_ ?_
   ·
    refine (ro_sp 3 17 (decide ((c.toNat : Int) ≥ 65)) ⟨[(0, kS sv), (3, kI i), (4, k8 (c.toNat : Int)), (17, kB (decide ((c.toNat : Int) ≥ 65)))], []⟩ (by kernel_rfl) rfl (fun hc2 => ?_) (fun hc2 => ?_))
    ·
     refine (ro_sp 4 21 (decide ((c.toNat : Int) ≤ 90)) ⟨[(0, kS sv), (3, kI i), (4, k8 (c.toNat : Int)), (21, kB (decide ((c.toNat : Int) ≤ 90)))], []⟩ (by kernel_rfl) rfl (fun hc3 => ?_) (fun hc3 => ?_))
     · exact (ro_zb 5 true (if (decide ((c.toNat : Int) ≥ 65)) then ((decide ((c.toNat : Int) ≤ 90)) || (if (decide ((c.toNat : Int) ≥ 97)) then ((decide ((c.toNat : Int) ≤ 122)) || (((c.toNat : Int) == 95) || ((decide (i > 0)) && ((decide ((c.toNat : Int) ≥ 48)) && (decide ((c.toNat : Int) ≤ 57)))))) else (((c.toNat : Int) == 95) || ((decide (i > 0)) && ((decide ((c.toNat : Int) ≥ 48)) && (decide ((c.toNat : Int) ≤ 57))))))) else (if (decide ((c.toNat : Int) ≥ 97)) then ((decide ((c.toNat : Int) ≤ 122)) || (((c.toNat : Int) == 95) || ((decide (i > 0)) && ((decide ((c.toNat : Int) ≥ 48)) && (decide ((c.toNat : Int) ≤ 57)))))) else (((c.toNat : Int) == 95) || ((decide (i > 0)) && ((decide ((c.toNat : Int) ≥ 48)) && (decide ((c.toNat : Int) ≤ 57))))))) (by rw [hc2, hc3] <;> rfl) (by kernel_rfl) (by kernel_rfl))
     refine (ro_sp 3 24 (decide ((c.toNat : Int) ≥ 97)) ⟨[(0, kS sv), (3, kI i), (4, k8 (c.toNat : Int)), (21, kB false), (24, kB (decide ((c.toNat : Int) ≥ 97)))], []⟩ (by kernel_rfl) rfl (fun hc4 => ?_) (fun hc4 => ?_))
     ·
      refine (ro_sp 5 29 (decide ((c.toNat : Int) ≤ 122)) ⟨[(0, kS sv), (3, kI i), (4, k8 (c.toNat : Int)), (29, kB (decide ((c.toNat : Int) ≤ 122)))], []⟩ (by kernel_rfl) rfl (fun hc5 => ?_) (fun hc5 => ?_))
      · exact (ro_zb 5 true (if (decide ((c.toNat : Int) ≥ 65)) then ((decide ((c.toNat : Int) ≤ 90)) || (if (decide ((c.toNat : Int) ≥ 97)) then ((decide ((c.toNat : Int) ≤ 122)) || (((c.toNat : Int) == 95) || ((decide (i > 0)) && ((decide ((c.toNat : Int) ≥ 48)) && (decide ((c.toNat : Int) ≤ 57)))))) else (((c.toNat : Int) == 95) || ((decide (i > 0)) && ((decide ((c.toNat : Int) ≥ 48)) && (decide ((c.toNat : Int) ≤ 57))))))) else (if (decide ((c.toNat : Int) ≥ 97)) then ((decide ((c.toNat : Int) ≤ 122)) || (((c.toNat : Int) == 95) || ((decide (i > 0)) && ((decide ((c.toNat : Int) ≥ 48)) && (decide ((c.toNat : Int) ≤ 57)))))) else (((c.toNat : Int) == 95) || ((decide (i > 0)) && ((decide ((c.toNat : Int) ≥ 48)) && (decide ((c.toNat : Int) ≤ 57))))))) (by rw [hc2, hc3, hc4, hc5] <;> rfl) (by kernel_rfl) (by kernel_rfl))
      refine (ro_sp 4 33 ((c.toNat : Int) == 95) ⟨[(0, kS sv), (3, kI i), (4, k8 (c.toNat : Int)), (33, kB ((c.toNat : Int) == 95))], []⟩ (by kernel_rfl) rfl (fun hc6 => ?_) (fun hc6 => ?_))
      · exact (ro_zb 5 true (if (decide ((c.toNat : Int) ≥ 65)) then ((decide ((c.toNat : Int) ≤ 90)) || (if (decide ((c.toNat : Int) ≥ 97)) then ((decide ((c.toNat : Int) ≤ 122)) || (((c.toNat : Int) == 95) || ((decide (i > 0)) && ((decide ((c.toNat : Int) ≥ 48)) && (decide ((c.toNat : Int) ≤ 57)))))) else (((c.toNat : Int) == 95) || ((decide (i > 0)) && ((decide ((c.toNat : Int) ≥ 48)) && (decide ((c.toNat : Int) ≤ 57))))))) else (if (decide ((c.toNat : Int) ≥ 97)) then ((decide ((c.toNat : Int) ≤ 122)) || (((c.toNat : Int) == 95) || ((decide (i > 0)) && ((decide ((c.toNat : Int) ≥ 48)) && (decide ((c.toNat : Int) ≤ 57)))))) else (((c.toNat : Int) == 95) || ((decide (i > 0)) && ((decide ((c.toNat : Int) ≥ 48)) && (decide ((c.toNat : Int) ≤ 57))))))) (by rw [hc2, hc3, hc4, hc5, hc6] <;> rfl) (by kernel_rfl) (by kernel_rfl))
      refine (ro_sp 3 36 (decide (i > 0)) ⟨[(0, kS sv), (3, kI i), (4, k8 (c.toNat : Int)), (33, kB false), (36, kB (decide (i > 0)))], []⟩ (by kernel_rfl) rfl (fun hc7 => ?_) (fun hc7 => ?_))
      ·
       refine (ro_sp 4 40 (decide ((c.toNat : Int) ≥ 48)) ⟨[(0, kS sv), (3, kI i), (4, k8 (c.toNat : Int)), (33, kB false), (40, kB (decide ((c.toNat : Int) ≥ 48)))], []⟩ (by kernel_rfl) rfl (fun hc8 => ?_) (fun hc8 => ?_))
       · exact (ro_zb 5 (decide ((c.toNat : Int) ≤ 57)) (if (decide ((c.toNat : Int) ≥ 65)) then ((decide ((c.toNat : Int) ≤ 90)) || (if (decide ((c.toNat : Int) ≥ 97)) then ((decide ((c.toNat : Int) ≤ 122)) || (((c.toNat : Int) == 95) || ((decide (i > 0)) && ((decide ((c.toNat : Int) ≥ 48)) && (decide ((c.toNat : Int) ≤ 57)))))) else (((c.toNat : Int) == 95) || ((decide (i > 0)) && ((decide ((c.toNat : Int) ≥ 48)) && (decide ((c.toNat : Int) ≤ 57))))))) else (if (decide ((c.toNat : Int) ≥ 97)) then ((decide ((c.toNat : Int) ≤ 122)) || (((c.toNat : Int) == 95) || ((decide (i > 0)) && ((decide ((c.toNat : Int) ≥ 48)) && (decide ((c.toNat : Int) ≤ 57)))))) else (((c.toNat : Int) == 95) || ((decide (i > 0)) && ((decide ((c.toNat : Int) ≥ 48)) && (decide ((c.toNat : Int) ≤ 57))))))) (by rw [hc2, hc3, hc4, hc5, hc6, hc7, hc8] <;> rfl) (by kernel_rfl) (by kernel_rfl))
       exact (ro_zb 5 false (if (decide ((c.toNat : Int) ≥ 65)) then ((decide ((c.toNat : Int) ≤ 90)) || (if (decide ((c.toNat : Int) ≥ 97)) then ((decide ((c.toNat : Int) ≤ 122)) || (((c.toNat : Int) == 95) || ((decide (i > 0)) && ((decide ((c.toNat : Int) ≥ 48)) && (decide ((c.toNat : Int) ≤ 57)))))) else (((c.toNat : Int) == 95) || ((decide (i > 0)) && ((decide ((c.toNat : Int) ≥ 48)) && (decide ((c.toNat : Int) ≤ 57))))))) else (if (decide ((c.toNat : Int) ≥ 97)) then ((decide ((c.toNat : Int) ≤ 122)) || (((c.toNat : Int) == 95) || ((decide (i > 0)) && ((decide ((c.toNat : Int) ≥ 48)) && (decide ((c.toNat : Int) ≤ 57)))))) else (((c.toNat : Int) == 95) || ((decide (i > 0)) && ((decide ((c.toNat : Int) ≥ 48)) && (decide ((c.toNat : Int) ≤ 57))))))) (by rw [hc2, hc3, hc4, hc5, hc6, hc7, hc8] <;> rfl) (by kernel_rfl) (by kernel_rfl))
      exact (ro_zb 5 false (if (decide ((c.toNat : Int) ≥ 65)) then ((decide ((c.toNat : Int) ≤ 90)) || (if (decide ((c.toNat : Int) ≥ 97)) then ((decide ((c.toNat : Int) ≤ 122)) || (((c.toNat : Int) == 95) || ((decide (i > 0)) && ((decide ((c.toNat : Int) ≥ 48)) && (decide ((c.toNat : Int) ≤ 57)))))) else (((c.toNat : Int) == 95) || ((decide (i > 0)) && ((decide ((c.toNat : Int) ≥ 48)) && (decide ((c.toNat : Int) ≤ 57))))))) else (if (decide ((c.toNat : Int) ≥ 97)) then ((decide ((c.toNat : Int) ≤ 122)) || (((c.toNat : Int) == 95) || ((decide (i > 0)) && ((decide ((c.toNat : Int) ≥ 48)) && (decide ((c.toNat : Int) ≤ 57)))))) else (((c.toNat : Int) == 95) || ((decide (i > 0)) && ((decide ((c.toNat : Int) ≥ 48)) && (decide ((c.toNat : Int) ≤ 57))))))) (by rw [hc2, hc3, hc4, hc5, hc6, hc7] <;> rfl) (by kernel_rfl) (by kernel_rfl))
     refine (ro_sp 9 33 ((c.toNat : Int) == 95) ⟨[(0, kS sv), (3, kI i), (4, k8 (c.toNat : Int)), (33, kB ((c.toNat : Int) == 95))], []⟩ (by kernel_rfl) rfl (fun hc9 => ?_) (fun hc9 => ?_))
     · exact (ro_zb 5 true (if (decide ((c.toNat : Int) ≥ 65)) then ((decide ((c.toNat : Int) ≤ 90)) || (if (decide ((c.toNat : Int) ≥ 97)) then ((decide ((c.toNat : Int) ≤ 122)) || (((c.toNat : Int) == 95) || ((decide (i > 0)) && ((decide ((c.toNat : Int) ≥ 48)) && (decide ((c.toNat : Int) ≤ 57)))))) else (((c.toNat : Int) == 95) || ((decide (i > 0)) && ((decide ((c.toNat : Int) ≥ 48)) && (decide ((c.toNat : Int) ≤ 57))))))) else (if (decide ((c.toNat : Int) ≥ 97)) then ((decide ((c.toNat : Int) ≤ 122)) || (((c.toNat : Int) == 95) || ((decide (i > 0)) && ((decide ((c.toNat : Int) ≥ 48)) && (decide ((c.toNat : Int) ≤ 57)))))) else (((c.toNat : Int) == 95) || ((decide (i > 0)) && ((decide ((c.toNat : Int) ≥ 48)) && (decide ((c.toNat : Int) ≤ 57))))))) (by rw [hc2, hc3, hc4, hc9] <;> rfl) (by kernel_rfl) (by kernel_rfl))
     refine (ro_sp 3 36 (decide (i > 0)) ⟨[(0, kS sv), (3, kI i), (4, k8 (c.toNat : Int)), (33, kB false), (36, kB (decide (i > 0)))], []⟩ (by kernel_rfl) rfl (fun hc10 => ?_) (fun hc10 => ?_))
     ·
      refine (ro_sp 4 40 (decide ((c.toNat : Int) ≥ 48)) ⟨[(0, kS sv), (3, kI i), (4, k8 (c.toNat : Int)), (33, kB false), (40, kB (decide ((c.toNat : Int) ≥ 48)))], []⟩ (by kernel_rfl) rfl (fun hc11 => ?_) (fun hc11 => ?_))
      · exact (ro_zb 5 (decide ((c.toNat : Int) ≤ 57)) (if (decide ((c.toNat : Int) ≥ 65)) then ((decide ((c.toNat : Int) ≤ 90)) || (if (decide ((c.toNat : Int) ≥ 97)) then ((decide ((c.toNat : Int) ≤ 122)) || (((c.toNat : Int) == 95) || ((decide (i > 0)) && ((decide ((c.toNat : Int) ≥ 48)) && (decide ((c.toNat : Int) ≤ 57)))))) else (((c.toNat : Int) == 95) || ((decide (i > 0)) && ((decide ((c.toNat : Int) ≥ 48)) && (decide ((c.toNat : Int) ≤ 57))))))) else (if (decide ((c.toNat : Int) ≥ 97)) then ((decide ((c.toNat : Int) ≤ 122)) || (((c.toNat : Int) == 95) || ((decide (i > 0)) && ((decide ((c.toNat : Int) ≥ 48)) && (decide ((c.toNat : Int) ≤ 57)))))) else (((c.toNat : Int) == 95) || ((decide (i > 0)) && ((decide ((c.toNat : Int) ≥ 48)) && (decide ((c.toNat : Int) ≤ 57))))))) (by rw [hc2, hc3, hc4, hc9, hc10, hc11] <;> rfl) (by kernel_rfl) (by kernel_rfl))
      exact (ro_zb 5 false (if (decide ((c.toNat : Int) ≥ 65)) then ((decide ((c.toNat : Int) ≤ 90)) || (if (decide ((c.toNat : Int) ≥ 97)) then ((decide ((c.toNat : Int) ≤ 122)) || (((c.toNat : Int) == 95) || ((decide (i > 0)) && ((decide ((c.toNat : Int) ≥ 48)) && (decide ((c.toNat : Int) ≤ 57)))))) else (((c.toNat : Int) == 95) || ((decide (i > 0)) && ((decide ((c.toNat : Int) ≥ 48)) && (decide ((c.toNat : Int) ≤ 57))))))) else (if (decide ((c.toNat : Int) ≥ 97)) then ((decide ((c.toNat : Int) ≤ 122)) || (((c.toNat : Int) == 95) || ((decide (i > 0)) && ((decide ((c.toNat : Int) ≥ 48)) && (decide ((c.toNat : Int) ≤ 57)))))) else (((c.toNat : Int) == 95) || ((decide (i > 0)) && ((decide ((c.toNat : Int) ≥ 48)) && (decide ((c.toNat : Int) ≤ 57))))))) (by rw [hc2, hc3, hc4, hc9, hc10, hc11] <;> rfl) (by kernel_rfl) (by kernel_rfl))
     exact (ro_zb 5 false (if (decide ((c.toNat : Int) ≥ 65)) then ((decide ((c.toNat : Int) ≤ 90)) || (if (decide ((c.toNat : Int) ≥ 97)) then ((decide ((c.toNat : Int) ≤ 122)) || (((c.toNat : Int) == 95) || ((decide (i > 0)) && ((decide ((c.toNat : Int) ≥ 48)) && (decide ((c.toNat : Int) ≤ 57)))))) else (((c.toNat : Int) == 95) || ((decide (i > 0)) && ((decide ((c.toNat : Int) ≥ 48)) && (decide ((c.toNat : Int) ≤ 57))))))) else (if (decide ((c.toNat : Int) ≥ 97)) then ((decide ((c.toNat : Int) ≤ 122)) || (((c.toNat : Int) == 95) || ((decide (i > 0)) && ((decide ((c.toNat : Int) ≥ 48)) && (decide ((c.toNat : Int) ≤ 57)))))) else (((c.toNat : Int) == 95) || ((decide (i > 0)) && ((decide ((c.toNat : Int) ≥ 48)) && (decide ((c.toNat : Int) ≤ 57))))))) (by rw [hc2, hc3, hc4, hc9, hc10] <;> rfl) (by kernel_rfl) (by kernel_rfl))
    refine (ro_sp 7 24 (decide ((c.toNat : Int) ≥ 97)) ⟨[(0, kS sv), (3, kI i), (4, k8 (c.toNat : Int)), (21, kB false), (24, kB (decide ((c.toNat : Int) ≥ 97)))], []⟩ (by kernel_rfl) rfl (fun hc12 => ?_) (fun hc12 => ?_))
    ·
     refine (ro_sp 5 29 (decide ((c.toNat : Int) ≤ 122)) ⟨[(0, kS sv), (3, kI i), (4, k8 (c.toNat : Int)), (29, kB (decide ((c.toNat : Int) ≤ 122)))], []⟩ (by kernel_rfl) rfl (fun hc13 => ?_) (fun hc13 => ?_))
     · exact (ro_zb 5 true (if (decide ((c.toNat : Int) ≥ 65)) then ((decide ((c.toNat : Int) ≤ 90)) || (if (decide ((c.toNat : Int) ≥ 97)) then ((decide ((c.toNat : Int) ≤ 122)) || (((c.toNat : Int) == 95) || ((decide (i > 0)) && ((decide ((c.toNat : Int) ≥ 48)) && (decide ((c.toNat : Int) ≤ 57)))))) else (((c.toNat : Int) == 95) || ((decide (i > 0)) && ((decide ((c.toNat : Int) ≥ 48)) && (decide ((c.toNat : Int) ≤ 57))))))) else (if (decide ((c.toNat : Int) ≥ 97)) then ((decide ((c.toNat : Int) ≤ 122)) || (((c.toNat : Int) == 95) || ((decide (i > 0)) && ((decide ((c.toNat : Int) ≥ 48)) && (decide ((c.toNat : Int) ≤ 57)))))) else (((c.toNat : Int) == 95) || ((decide (i > 0)) && ((decide ((c.toNat : Int) ≥ 48)) && (decide ((c.toNat : Int) ≤ 57))))))) (by rw [hc2, hc12, hc13] <;> rfl) (by kernel_rfl) (by kernel_rfl))
     refine (ro_sp 4 33 ((c.toNat : Int) == 95) ⟨[(0, kS sv), (3, kI i), (4, k8 (c.toNat : Int)), (33, kB ((c.toNat : Int) == 95))], []⟩ (by kernel_rfl) rfl (fun hc14 => ?_) (fun hc14 => ?_))
     · exact (ro_zb 5 true (if (decide ((c.toNat : Int) ≥ 65)) then ((decide ((c.toNat : Int) ≤ 90)) || (if (decide ((c.toNat : Int) ≥ 97)) then ((decide ((c.toNat : Int) ≤ 122)) || (((c.toNat : Int) == 95) || ((decide (i > 0)) && ((decide ((c.toNat : Int) ≥ 48)) && (decide ((c.toNat : Int) ≤ 57)))))) else (((c.toNat : Int) == 95) || ((decide (i > 0)) && ((decide ((c.toNat : Int) ≥ 48)) && (decide ((c.toNat : Int) ≤ 57))))))) else (if (decide ((c.toNat : Int) ≥ 97)) then ((decide ((c.toNat : Int) ≤ 122)) || (((c.toNat : Int) == 95) || ((decide (i > 0)) && ((decide ((c.toNat : Int) ≥ 48)) && (decide ((c.toNat : Int) ≤ 57)))))) else (((c.toNat : Int) == 95) || ((decide (i > 0)) && ((decide ((c.toNat : Int) ≥ 48)) && (decide ((c.toNat : Int) ≤ 57))))))) (by rw [hc2, hc12, hc13, hc14] <;> rfl) (by kernel_rfl) (by kernel_rfl))
     refine (ro_sp 3 36 (decide (i > 0)) ⟨[(0, kS sv), (3, kI i), (4, k8 (c.toNat : Int)), (33, kB false), (36, kB (decide (i > 0)))], []⟩ (by kernel_rfl) rfl (fun hc15 => ?_) (fun hc15 => ?_))
     ·
      refine (ro_sp 4 40 (decide ((c.toNat : Int) ≥ 48)) ⟨[(0, kS sv), (3, kI i), (4, k8 (c.toNat : Int)), (33, kB false), (40, kB (decide ((c.toNat : Int) ≥ 48)))], []⟩ (by kernel_rfl) rfl (fun hc16 => ?_) (fun hc16 => ?_))
      · exact (ro_zb 5 (decide ((c.toNat : Int) ≤ 57)) (if (decide ((c.toNat : Int) ≥ 65)) then ((decide ((c.toNat : Int) ≤ 90)) || (if (decide ((c.toNat : Int) ≥ 97)) then ((decide ((c.toNat : Int) ≤ 122)) || (((c.toNat : Int) == 95) || ((decide (i > 0)) && ((decide ((c.toNat : Int) ≥ 48)) && (decide ((c.toNat : Int) ≤ 57)))))) else (((c.toNat : Int) == 95) || ((decide (i > 0)) && ((decide ((c.toNat : Int) ≥ 48)) && (decide ((c.toNat : Int) ≤ 57))))))) else (if (decide ((c.toNat : Int) ≥ 97)) then ((decide ((c.toNat : Int) ≤ 122)) || (((c.toNat : Int) == 95) || ((decide (i > 0)) && ((decide ((c.toNat : Int) ≥ 48)) && (decide ((c.toNat : Int) ≤ 57)))))) else (((c.toNat : Int) == 95) || ((decide (i > 0)) && ((decide ((c.toNat : Int) ≥ 48)) && (decide ((c.toNat : Int) ≤ 57))))))) (by rw [hc2, hc12, hc13, hc14, hc15, hc16] <;> rfl) (by kernel_rfl) (by kernel_rfl))
      exact (ro_zb 5 false (if (decide ((c.toNat : Int) ≥ 65)) then ((decide ((c.toNat : Int) ≤ 90)) || (if (decide ((c.toNat : Int) ≥ 97)) then ((decide ((c.toNat : Int) ≤ 122)) || (((c.toNat : Int) == 95) || ((decide (i > 0)) && ((decide ((c.toNat : Int) ≥ 48)) && (decide ((c.toNat : Int) ≤ 57)))))) else (((c.toNat : Int) == 95) || ((decide (i > 0)) && ((decide ((c.toNat : Int) ≥ 48)) && (decide ((c.toNat : Int) ≤ 57))))))) else (if (decide ((c.toNat : Int) ≥ 97)) then ((decide ((c.toNat : Int) ≤ 122)) || (((c.toNat : Int) == 95) || ((decide (i > 0)) && ((decide ((c.toNat : Int) ≥ 48)) && (decide ((c.toNat : Int) ≤ 57)))))) else (((c.toNat : Int) == 95) || ((decide (i > 0)) && ((decide ((c.toNat : Int) ≥ 48)) && (decide ((c.toNat : Int) ≤ 57))))))) (by rw [hc2, hc12, hc13, hc14, hc15, hc16] <;> rfl) (by kernel_rfl) (by kernel_rfl))
     exact (ro_zb 5 false (if (decide ((c.toNat : Int) ≥ 65)) then ((decide ((c.toNat : Int) ≤ 90)) || (if (decide ((c.toNat : Int) ≥ 97)) then ((decide ((c.toNat : Int) ≤ 122)) || (((c.toNat : Int) == 95) || ((decide (i > 0)) && ((decide ((c.toNat : Int) ≥ 48)) && (decide ((c.toNat : Int) ≤ 57)))))) else (((c.toNat : Int) == 95) || ((decide (i > 0)) && ((decide ((c.toNat : Int) ≥ 48)) && (decide ((c.toNat : Int) ≤ 57))))))) else (if (decide ((c.toNat : Int) ≥ 97)) then ((decide ((c.toNat : Int) ≤ 122)) || (((c.toNat : Int) == 95) || ((decide (i > 0)) && ((decide ((c.toNat : Int) ≥ 48)) && (decide ((c.toNat : Int) ≤ 57)))))) else (((c.toNat : Int) == 95) || ((decide (i > 0)) && ((decide ((c.toNat : Int) ≥ 48)) && (decide ((c.toNat : Int) ≤ 57))))))) (by rw [hc2, hc12, hc13, hc14, hc15] <;> rfl) (by kernel_rfl) (by kernel_rfl))
    refine (ro_sp 9 33 ((c.toNat : Int) == 95) ⟨[(0, kS sv), (3, kI i), (4, k8 (c.toNat : Int)), (33, kB ((c.toNat : Int) == 95))], []⟩ (by kernel_rfl) rfl (fun hc17 => ?_) (fun hc17 => ?_))
    · exact (ro_zb 5 true (if (decide ((c.toNat : Int) ≥ 65)) then ((decide ((c.toNat : Int) ≤ 90)) || (if (decide ((c.toNat : Int) ≥ 97)) then ((decide ((c.toNat : Int) ≤ 122)) || (((c.toNat : Int) == 95) || ((decide (i > 0)) && ((decide ((c.toNat : Int) ≥ 48)) && (decide ((c.toNat : Int) ≤ 57)))))) else (((c.toNat : Int) == 95) || ((decide (i > 0)) && ((decide ((c.toNat : Int) ≥ 48)) && (decide ((c.toNat : Int) ≤ 57))))))) else (if (decide ((c.toNat : Int) ≥ 97)) then ((decide ((c.toNat : Int) ≤ 122)) || (((c.toNat : Int) == 95) || ((decide (i > 0)) && ((decide ((c.toNat : Int) ≥ 48)) && (decide ((c.toNat : Int) ≤ 57)))))) else (((c.toNat : Int) == 95) || ((decide (i > 0)) && ((decide ((c.toNat : Int) ≥ 48)) && (decide ((c.toNat : Int) ≤ 57))))))) (by rw [hc2, hc12, hc17] <;> rfl) (by kernel_rfl) (by kernel_rfl))
    refine (ro_sp 3 36 (decide (i > 0)) ⟨[(0, kS sv), (3, kI i), (4, k8 (c.toNat : Int)), (33, kB false), (36, kB (decide (i > 0)))], []⟩ (by kernel_rfl) rfl (fun hc18 => ?_) (fun hc18 => ?_))
    ·
     refine (ro_sp 4 40 (decide ((c.toNat : Int) ≥ 48)) ⟨[(0, kS sv), (3, kI i), (4, k8 (c.toNat : Int)), (33, kB false), (40, kB (decide ((c.toNat : Int) ≥ 48)))], []⟩ (by kernel_rfl) rfl (fun hc19 => ?_) (fun hc19 => ?_))
     · exact (ro_zb 5 (decide ((c.toNat : Int) ≤ 57)) (if (decide ((c.toNat : Int) ≥ 65)) then ((decide ((c.toNat : Int) ≤ 90)) || (if (decide ((c.toNat : Int) ≥ 97)) then ((decide ((c.toNat : Int) ≤ 122)) || (((c.toNat : Int) == 95) || ((decide (i > 0)) && ((decide ((c.toNat : Int) ≥ 48)) && (decide ((c.toNat : Int) ≤ 57)))))) else (((c.toNat : Int) == 95) || ((decide (i > 0)) && ((decide ((c.toNat : Int) ≥ 48)) && (decide ((c.toNat : Int) ≤ 57))))))) else (if (decide ((c.toNat : Int) ≥ 97)) then ((decide ((c.toNat : Int) ≤ 122)) || (((c.toNat : Int) == 95) || ((decide (i > 0)) && ((decide ((c.toNat : Int) ≥ 48)) && (decide ((c.toNat : Int) ≤ 57)))))) else (((c.toNat : Int) == 95) || ((decide (i > 0)) && ((decide ((c.toNat : Int) ≥ 48)) && (decide ((c.toNat : Int) ≤ 57))))))) (by rw [hc2, hc12, hc17, hc18, hc19] <;> rfl) (by kernel_rfl) (by kernel_rfl))
     exact (ro_zb 5 false (if (decide ((c.toNat : Int) ≥ 65)) then ((decide ((c.toNat : Int) ≤ 90)) || (if (decide ((c.toNat : Int) ≥ 97)) then ((decide ((c.toNat : Int) ≤ 122)) || (((c.toNat : Int) == 95) || ((decide (i > 0)) && ((decide ((c.toNat : Int) ≥ 48)) && (decide ((c.toNat : Int) ≤ 57)))))) else (((c.toNat : Int) == 95) || ((decide (i > 0)) && ((decide ((c.toNat : Int) ≥ 48)) && (decide ((c.toNat : Int) ≤ 57))))))) else (if (decide ((c.toNat : Int) ≥ 97)) then ((decide ((c.toNat : Int) ≤ 122)) || (((c.toNat : Int) == 95) || ((decide (i > 0)) && ((decide ((c.toNat : Int) ≥ 48)) && (decide ((c.toNat : Int) ≤ 57)))))) else (((c.toNat : Int) == 95) || ((decide (i > 0)) && ((decide ((c.toNat : Int) ≥ 48)) && (decide ((c.toNat : Int) ≤ 57))))))) (by rw [hc2, hc12, hc17, hc18, hc19] <;> rfl) (by kernel_rfl) (by kernel_rfl))
    exact (ro_zb 5 false (if (decide ((c.toNat : Int) ≥ 65)) then ((decide ((c.toNat : Int) ≤ 90)) || (if (decide ((c.toNat : Int) ≥ 97)) then ((decide ((c.toNat : Int) ≤ 122)) || (((c.toNat : Int) == 95) || ((decide (i > 0)) && ((decide ((c.toNat : Int) ≥ 48)) && (decide ((c.toNat : Int) ≤ 57)))))) else (((c.toNat : Int) == 95) || ((decide (i > 0)) && ((decide ((c.toNat : Int) ≥ 48)) && (decide ((c.toNat : Int) ≤ 57))))))) else (if (decide ((c.toNat : Int) ≥ 97)) then ((decide ((c.toNat : Int) ≤ 122)) || (((c.toNat : Int) == 95) || ((decide (i > 0)) && ((decide ((c.toNat : Int) ≥ 48)) && (decide ((c.toNat : Int) ≤ 57)))))) else (((c.toNat : Int) == 95) || ((decide (i > 0)) && ((decide ((c.toNat : Int) ≥ 48)) && (decide ((c.toNat : Int) ≤ 57))))))) (by rw [hc2, hc12, hc17, hc18] <;> rfl) (by kernel_rfl) (by kernel_rfl))
   refine ji_rz ⟨[(0, kS sv), (3, kI i), (46, kB (!(if (decide ((c.toNat : Int) ≥ 65)) then ((decide ((c.toNat : Int) ≤ 90)) || (if (decide ((c.toNat : Int) ≥ 97)) then ((decide ((c.toNat : Int) ≤ 122)) || (((c.toNat : Int) == 95) || ((decide (i > 0)) && ((decide ((c.toNat : Int) ≥ 48)) && (decide ((c.toNat : Int) ≤ 57)))))) else (((c.toNat : Int) == 95) || ((decide (i > 0)) && ((decide ((c.toNat : Int) ≥ 48)) && (decide ((c.toNat : Int) ≤ 57))))))) else (if (decide ((c.toNat : Int) ≥ 97)) then ((decide ((c.toNat : Int) ≤ 122)) || (((c.toNat : Int) == 95) || ((decide (i > 0)) && ((decide ((c.toNat : Int) ≥ 48)) && (decide ((c.toNat : Int) ≤ 57)))))) else (((c.toNat : Int) == 95) || ((decide (i > 0)) && ((decide ((c.toNat : Int) ≥ 48)) && (decide ((c.toNat : Int) ≤ 57)))))))))], []⟩ (by kernel_rfl) ?_
   rcases ite_some h with ⟨hc20, h⟩ | ⟨hc20, h⟩
   ·
    refine ji_condT rfl hc20 ?_
    refine ji_rz ⟨[(2, kB false)], []⟩ (by kernel_rfl) ?_
    obtain rfl := sj h
    exact je_ret' (le_z (by kernel_rfl))
   refine ji_condF rfl hc20 ?_
   refine ji_end ?_
   refine ji_rz ⟨[(0, kS sv), (3, kI (IntKind.i64.wrap (i + 1)))], []⟩ (by kernel_rfl) ?_
   obtain rfl := sj h
   exact je_nil (le_z (by kernel_rfl))
  refine ji_condF rfl hc1 ?_
  obtain rfl := sj h
  exact je_out' rfl (le_z (by kernel_rfl))
 rcases q with u | u2
 ·
  refine k_exit _ rfl ?_
  refine ji_region ⟨[(2, kB ((decide ((sv.length : Int) ≥ 1)) && (decide ((sv.length : Int) ≤ 60))))], []⟩ ?_ ?_
  ·
   refine (ro_sp 4 50 (decide ((sv.length : Int) ≥ 1)) ⟨[(0, kS sv), (50, kB (decide ((sv.length : Int) ≥ 1)))], []⟩ (by kernel_rfl) rfl (fun hc21 => ?_) (fun hc21 => ?_))
   · exact (ro_zb 2 (decide ((sv.length : Int) ≤ 60)) ((decide ((sv.length : Int) ≥ 1)) && (decide ((sv.length : Int) ≤ 60))) (by rw [hc21] <;> rfl) (by kernel_rfl) (by kernel_rfl))
   exact (ro_zb 2 false ((decide ((sv.length : Int) ≥ 1)) && (decide ((sv.length : Int) ≤ 60))) (by rw [hc21] <;> rfl) (by kernel_rfl) (by kernel_rfl))
  obtain rfl := sj h
  exact je_ret (le_z (by kernel_rfl))
 obtain rfl := sj h
 exact ke_ret (le_z (by kernel_rfl))
theorem darningref06_Right_ok {k : Int} {r : Bool} (h : darningref06_Right k = some r) : FnOk Try.prog 47 [kI k] [kB r] := by
 refine fn_intro' (E := ⟨[(2, kB r)], []⟩) 9 Try.func47 rfl rfl rfl ⟨rfl, trivial⟩ (fun Xt => ?_)
 refine ji_start ?_
 refine ji_le (E' := ⟨[(0, kI k)], []⟩) (fun _ _ _ hs => hs) ?_
 unfold darningref06_Right at h
 refine ji_rz ⟨[(0, kI k)], []⟩ (by kernel_rfl) ?_
 refine ji_region ⟨[(2, kB ((decide (k ≥ 1)) && (decide (k ≤ 17))))], []⟩ ?_ ?_
 ·
  refine (ro_sp 3 5 (decide (k ≥ 1)) ⟨[(0, kI k), (5, kB (decide (k ≥ 1)))], []⟩ (by kernel_rfl) rfl (fun hc1 => ?_) (fun hc1 => ?_))
  · exact (ro_zb 2 (decide (k ≤ 17)) ((decide (k ≥ 1)) && (decide (k ≤ 17))) (by rw [hc1] <;> rfl) (by kernel_rfl) (by kernel_rfl))
  exact (ro_zb 2 false ((decide (k ≥ 1)) && (decide (k ≤ 17))) (by rw [hc1] <;> rfl) (by kernel_rfl) (by kernel_rfl))
 obtain rfl := sj h
 exact je_ret (le_z (by kernel_rfl))
theorem darningref06_Number_ok {k : Int} {r : Bool} (h : darningref06_Number k = some r) : FnOk Try.prog 48 [kI k] [kB r] := by
 refine fn_intro' (E := ⟨[(2, kB r)], []⟩) 9 Try.func48 rfl rfl rfl ⟨rfl, trivial⟩ (fun Xt => ?_)
 refine ji_start ?_
 refine ji_le (E' := ⟨[(0, kI k)], []⟩) (fun _ _ _ hs => hs) ?_
 unfold darningref06_Number at h
 refine ji_rz ⟨[(0, kI k)], []⟩ (by kernel_rfl) ?_
 refine ji_region ⟨[(2, kB ((decide (k ≥ 1)) && (decide (k ≤ 14))))], []⟩ ?_ ?_
 ·
  refine (ro_sp 3 5 (decide (k ≥ 1)) ⟨[(0, kI k), (5, kB (decide (k ≥ 1)))], []⟩ (by kernel_rfl) rfl (fun hc1 => ?_) (fun hc1 => ?_))
  · exact (ro_zb 2 (decide (k ≤ 14)) ((decide (k ≥ 1)) && (decide (k ≤ 14))) (by rw [hc1] <;> rfl) (by kernel_rfl) (by kernel_rfl))
  exact (ro_zb 2 false ((decide (k ≥ 1)) && (decide (k ≤ 14))) (by rw [hc1] <;> rfl) (by kernel_rfl) (by kernel_rfl))
 obtain rfl := sj h
 exact je_ret (le_z (by kernel_rfl))
theorem schema_Message_1_ok {m : T_Name_Fields} {v : Str} {r : Bool} (h : schema_Message_1 m v = some r) : FnOk Try.prog 28 [.rc R_Name_Fields [0] m, .ep Rp.str [0] v 0] [kB r] := by
 refine fn_intro' (E := ⟨[(3, kB r)], []⟩) 8 Try.func28 rfl rfl rfl ⟨rfl, trivial⟩ (fun Xt => ?_)
 refine ji_start ?_
 refine ji_le (E' := ⟨[(0, .rc R_Name_Fields [0] m), (1, .ep Rp.str [0] v 0)], []⟩) (fun _ _ _ hs => hs) ?_
 unfold schema_Message_1 at h
 refine ji_region ⟨[(1, .ep Rp.str [0] v 0), (2, .ptr 11 0)], [⟨11, 35, [kS m.Name, .sl R_Name_Number_Kind_Repeated_Packed_Of [0] m.Fields]⟩]⟩ (ro_oz 0 [.rc R_Name_Fields [0] m] rfl (lo_box 11 [kS m.Name, .sl R_Name_Number_Kind_Repeated_Packed_Of [0] m.Fields] [0] rfl rfl rfl rfl rfl) rfl (by kernel_rfl)) ?_
 refine ji_rz ⟨[(3, kB (m.Name == v))], []⟩ (by kernel_rfl) ?_
 obtain rfl := sj h
 exact je_ret (le_z (by kernel_rfl))
theorem schema_ByNumber_1_ok {f : T_Name_Number_Kind_Repeated_Packed_Of} {v : Int} {r : Bool} (h : schema_ByNumber_1 f v = some r) : FnOk Try.prog 30 [.rc R_Name_Number_Kind_Repeated_Packed_Of [0] f, .ep (Rp.int .i64) [0] v 0] [kB r] := by
 refine fn_intro' (E := ⟨[(3, kB r)], []⟩) 8 Try.func30 rfl rfl rfl ⟨rfl, trivial⟩ (fun Xt => ?_)
 refine ji_start ?_
 refine ji_le (E' := ⟨[(0, .rc R_Name_Number_Kind_Repeated_Packed_Of [0] f), (1, .ep (Rp.int .i64) [0] v 0)], []⟩) (fun _ _ _ hs => hs) ?_
 unfold schema_ByNumber_1 at h
 refine ji_region ⟨[(1, .ep (Rp.int .i64) [0] v 0), (2, .ptr 11 0)], [⟨11, 50, [kS f.Name, kI f.Number, kI f.Kind, kB f.Repeated, kB f.Packed, kI f.Of]⟩]⟩ (ro_oz 0 [.rc R_Name_Number_Kind_Repeated_Packed_Of [0] f] rfl (lo_box 11 [kS f.Name, kI f.Number, kI f.Kind, kB f.Repeated, kB f.Packed, kI f.Of] [0] rfl rfl rfl rfl rfl) rfl (by kernel_rfl)) ?_
 refine ji_rz ⟨[(3, kB (f.Number == v))], []⟩ (by kernel_rfl) ?_
 obtain rfl := sj h
 exact je_ret (le_z (by kernel_rfl))
theorem schema_ByName_1_ok {f : T_Name_Number_Kind_Repeated_Packed_Of} {v : Str} {r : Bool} (h : schema_ByName_1 f v = some r) : FnOk Try.prog 31 [.rc R_Name_Number_Kind_Repeated_Packed_Of [0] f, .ep Rp.str [0] v 0] [kB r] := by
 refine fn_intro' (E := ⟨[(3, kB r)], []⟩) 8 Try.func31 rfl rfl rfl ⟨rfl, trivial⟩ (fun Xt => ?_)
 refine ji_start ?_
 refine ji_le (E' := ⟨[(0, .rc R_Name_Number_Kind_Repeated_Packed_Of [0] f), (1, .ep Rp.str [0] v 0)], []⟩) (fun _ _ _ hs => hs) ?_
 unfold schema_ByName_1 at h
 refine ji_region ⟨[(1, .ep Rp.str [0] v 0), (2, .ptr 11 0)], [⟨11, 50, [kS f.Name, kI f.Number, kI f.Kind, kB f.Repeated, kB f.Packed, kI f.Of]⟩]⟩ (ro_oz 0 [.rc R_Name_Number_Kind_Repeated_Packed_Of [0] f] rfl (lo_box 11 [kS f.Name, kI f.Number, kI f.Kind, kB f.Repeated, kB f.Packed, kI f.Of] [0] rfl rfl rfl rfl rfl) rfl (by kernel_rfl)) ?_
 refine ji_rz ⟨[(3, kB (f.Name == v))], []⟩ (by kernel_rfl) ?_
 obtain rfl := sj h
 exact je_ret (le_z (by kernel_rfl))
end Go.Proofs.Ytnchbppkppbflaa
