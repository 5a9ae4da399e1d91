/-
  The Go functions do what the plain functions say. No condition.
-/
import Derived.Test.YtnfembipjdohcaaGreatT
namespace Go.Proofs.YtnfembipjdohcaaGreat
open Go Go.RowKit
set_option linter.unusedVariables false
set_option maxRecDepth 100000
set_option maxHeartbeats 3200000
theorem zeP {sv : Str} {r : Bool} (h : zbO sv = some r) : FnOk Tryz.prog 37 [kS sv] [kB r] := by
 refine zx (E := ⟨[(2, kB r)], []⟩) 55 Tryz.func37 rfl rfl rfl ⟨rfl, trivial⟩ (fun Xt => ?_)
 refine zr ?_
 unfold zbO at h
 refine jp ?_
 refine jp ?_
 refine zA ?_
 obtain ⟨q, h_q, h⟩ := bnd h
 refine zaW (fun s : Int => zad sv s) (fun s => ⟨[(0, kS sv), (3, kI s)], []⟩) (fun o e a w => match o with | (.inl v_) => e = .exit 0 ∧ Sx ⟨⟨55, []⟩, Xt, false, #[]⟩ ⟨[(0, kS sv)], []⟩ a w | (.inr v_) => e = .ret ∧ Sx ⟨⟨55, []⟩, Xt, false, #[]⟩ ⟨[(2, kB false)], []⟩ a w) ?_ h_q lzz ?_
 ·
  clear h
  intro i o h
  refine zr ?_
  replace h : zad sv i = some o := h
  unfold zad at h
  refine jp ?_
  rcases zm h with ⟨hc1, h⟩ | ⟨hc1, h⟩
  ·
   refine jT hc1 ?_
   refine zA ?_
   obtain ⟨c, h_c, h⟩ := bnd h
   refine jr (ra 2 [kS sv, kI i] rfl (zoD rfl Tryz.underlying9 h_c) rfl rf) ?_
   refine zE ⟨[(0, kS sv), (3, kI i), (5, kB (if (decide ((c.toNat : Int) ≥ 65)) then ((decide ((c.toNat : Int) ≤ 90)) || (if (decide ((c.toNat : Int) ≥ 97)) then ((decide ((c.toNat : Int) ≤ 122)) || (((c.toNat : Int) == 95) || ((decide (i > 0)) && ((decide ((c.toNat : Int) ≥ 48)) && (decide ((c.toNat : Int) ≤ 57)))))) else (((c.toNat : Int) == 95) || ((decide (i > 0)) && ((decide ((c.toNat : Int) ≥ 48)) && (decide ((c.toNat : Int) ≤ 57))))))) else (if (decide ((c.toNat : Int) ≥ 97)) then ((decide ((c.toNat : Int) ≤ 122)) || (((c.toNat : Int) == 95) || ((decide (i > 0)) && ((decide ((c.toNat : Int) ≥ 48)) && (decide ((c.toNat : Int) ≤ 57)))))) else (((c.toNat : Int) == 95) || ((decide (i > 0)) && ((decide ((c.toNat : Int) ≥ 48)) && (decide ((c.toNat : Int) ≤ 57))))))))], []⟩ ?_ ?_
   ·
    refine (rsl 3 [] 17 (decide ((c.toNat : Int) ≥ 65)) (fun hc2 => ?_) (fun hc2 => ?_))
    ·
     refine (rsl 4 [] 21 (decide ((c.toNat : Int) ≤ 90)) (fun hc3 => ?_) (fun hc3 => ?_))
     · exact (rbl [] 5 true (if (decide ((c.toNat : Int) ≥ 65)) then ((decide ((c.toNat : Int) ≤ 90)) || (if (decide ((c.toNat : Int) ≥ 97)) then ((decide ((c.toNat : Int) ≤ 122)) || (((c.toNat : Int) == 95) || ((decide (i > 0)) && ((decide ((c.toNat : Int) ≥ 48)) && (decide ((c.toNat : Int) ≤ 57)))))) else (((c.toNat : Int) == 95) || ((decide (i > 0)) && ((decide ((c.toNat : Int) ≥ 48)) && (decide ((c.toNat : Int) ≤ 57))))))) else (if (decide ((c.toNat : Int) ≥ 97)) then ((decide ((c.toNat : Int) ≤ 122)) || (((c.toNat : Int) == 95) || ((decide (i > 0)) && ((decide ((c.toNat : Int) ≥ 48)) && (decide ((c.toNat : Int) ≤ 57)))))) else (((c.toNat : Int) == 95) || ((decide (i > 0)) && ((decide ((c.toNat : Int) ≥ 48)) && (decide ((c.toNat : Int) ≤ 57))))))) (by rw [hc2, hc3] <;> rfl))
     refine (rsl 3 [] 24 (decide ((c.toNat : Int) ≥ 97)) (fun hc4 => ?_) (fun hc4 => ?_))
     ·
      refine (rsl 5 [] 29 (decide ((c.toNat : Int) ≤ 122)) (fun hc5 => ?_) (fun hc5 => ?_))
      · exact (rbl [] 5 true (if (decide ((c.toNat : Int) ≥ 65)) then ((decide ((c.toNat : Int) ≤ 90)) || (if (decide ((c.toNat : Int) ≥ 97)) then ((decide ((c.toNat : Int) ≤ 122)) || (((c.toNat : Int) == 95) || ((decide (i > 0)) && ((decide ((c.toNat : Int) ≥ 48)) && (decide ((c.toNat : Int) ≤ 57)))))) else (((c.toNat : Int) == 95) || ((decide (i > 0)) && ((decide ((c.toNat : Int) ≥ 48)) && (decide ((c.toNat : Int) ≤ 57))))))) else (if (decide ((c.toNat : Int) ≥ 97)) then ((decide ((c.toNat : Int) ≤ 122)) || (((c.toNat : Int) == 95) || ((decide (i > 0)) && ((decide ((c.toNat : Int) ≥ 48)) && (decide ((c.toNat : Int) ≤ 57)))))) else (((c.toNat : Int) == 95) || ((decide (i > 0)) && ((decide ((c.toNat : Int) ≥ 48)) && (decide ((c.toNat : Int) ≤ 57))))))) (by rw [hc2, hc3, hc4, hc5] <;> rfl))
      refine (rsl 4 [] 33 ((c.toNat : Int) == 95) (fun hc6 => ?_) (fun hc6 => ?_))
      · exact (rbl [] 5 true (if (decide ((c.toNat : Int) ≥ 65)) then ((decide ((c.toNat : Int) ≤ 90)) || (if (decide ((c.toNat : Int) ≥ 97)) then ((decide ((c.toNat : Int) ≤ 122)) || (((c.toNat : Int) == 95) || ((decide (i > 0)) && ((decide ((c.toNat : Int) ≥ 48)) && (decide ((c.toNat : Int) ≤ 57)))))) else (((c.toNat : Int) == 95) || ((decide (i > 0)) && ((decide ((c.toNat : Int) ≥ 48)) && (decide ((c.toNat : Int) ≤ 57))))))) else (if (decide ((c.toNat : Int) ≥ 97)) then ((decide ((c.toNat : Int) ≤ 122)) || (((c.toNat : Int) == 95) || ((decide (i > 0)) && ((decide ((c.toNat : Int) ≥ 48)) && (decide ((c.toNat : Int) ≤ 57)))))) else (((c.toNat : Int) == 95) || ((decide (i > 0)) && ((decide ((c.toNat : Int) ≥ 48)) && (decide ((c.toNat : Int) ≤ 57))))))) (by rw [hc2, hc3, hc4, hc5, hc6] <;> rfl))
      refine (rsl 3 [] 36 (decide (i > 0)) (fun hc7 => ?_) (fun hc7 => ?_))
      ·
       refine (rsl 4 [] 40 (decide ((c.toNat : Int) ≥ 48)) (fun hc8 => ?_) (fun hc8 => ?_))
       · exact (rbl [] 5 (decide ((c.toNat : Int) ≤ 57)) (if (decide ((c.toNat : Int) ≥ 65)) then ((decide ((c.toNat : Int) ≤ 90)) || (if (decide ((c.toNat : Int) ≥ 97)) then ((decide ((c.toNat : Int) ≤ 122)) || (((c.toNat : Int) == 95) || ((decide (i > 0)) && ((decide ((c.toNat : Int) ≥ 48)) && (decide ((c.toNat : Int) ≤ 57)))))) else (((c.toNat : Int) == 95) || ((decide (i > 0)) && ((decide ((c.toNat : Int) ≥ 48)) && (decide ((c.toNat : Int) ≤ 57))))))) else (if (decide ((c.toNat : Int) ≥ 97)) then ((decide ((c.toNat : Int) ≤ 122)) || (((c.toNat : Int) == 95) || ((decide (i > 0)) && ((decide ((c.toNat : Int) ≥ 48)) && (decide ((c.toNat : Int) ≤ 57)))))) else (((c.toNat : Int) == 95) || ((decide (i > 0)) && ((decide ((c.toNat : Int) ≥ 48)) && (decide ((c.toNat : Int) ≤ 57))))))) (by rw [hc2, hc3, hc4, hc5, hc6, hc7, hc8] <;> rfl))
       exact (rbl [] 5 false (if (decide ((c.toNat : Int) ≥ 65)) then ((decide ((c.toNat : Int) ≤ 90)) || (if (decide ((c.toNat : Int) ≥ 97)) then ((decide ((c.toNat : Int) ≤ 122)) || (((c.toNat : Int) == 95) || ((decide (i > 0)) && ((decide ((c.toNat : Int) ≥ 48)) && (decide ((c.toNat : Int) ≤ 57)))))) else (((c.toNat : Int) == 95) || ((decide (i > 0)) && ((decide ((c.toNat : Int) ≥ 48)) && (decide ((c.toNat : Int) ≤ 57))))))) else (if (decide ((c.toNat : Int) ≥ 97)) then ((decide ((c.toNat : Int) ≤ 122)) || (((c.toNat : Int) == 95) || ((decide (i > 0)) && ((decide ((c.toNat : Int) ≥ 48)) && (decide ((c.toNat : Int) ≤ 57)))))) else (((c.toNat : Int) == 95) || ((decide (i > 0)) && ((decide ((c.toNat : Int) ≥ 48)) && (decide ((c.toNat : Int) ≤ 57))))))) (by rw [hc2, hc3, hc4, hc5, hc6, hc7, hc8] <;> rfl))
      exact (rbl [] 5 false (if (decide ((c.toNat : Int) ≥ 65)) then ((decide ((c.toNat : Int) ≤ 90)) || (if (decide ((c.toNat : Int) ≥ 97)) then ((decide ((c.toNat : Int) ≤ 122)) || (((c.toNat : Int) == 95) || ((decide (i > 0)) && ((decide ((c.toNat : Int) ≥ 48)) && (decide ((c.toNat : Int) ≤ 57)))))) else (((c.toNat : Int) == 95) || ((decide (i > 0)) && ((decide ((c.toNat : Int) ≥ 48)) && (decide ((c.toNat : Int) ≤ 57))))))) else (if (decide ((c.toNat : Int) ≥ 97)) then ((decide ((c.toNat : Int) ≤ 122)) || (((c.toNat : Int) == 95) || ((decide (i > 0)) && ((decide ((c.toNat : Int) ≥ 48)) && (decide ((c.toNat : Int) ≤ 57)))))) else (((c.toNat : Int) == 95) || ((decide (i > 0)) && ((decide ((c.toNat : Int) ≥ 48)) && (decide ((c.toNat : Int) ≤ 57))))))) (by rw [hc2, hc3, hc4, hc5, hc6, hc7] <;> rfl))
     refine (rsl 9 [] 33 ((c.toNat : Int) == 95) (fun hc9 => ?_) (fun hc9 => ?_))
     · exact (rbl [] 5 true (if (decide ((c.toNat : Int) ≥ 65)) then ((decide ((c.toNat : Int) ≤ 90)) || (if (decide ((c.toNat : Int) ≥ 97)) then ((decide ((c.toNat : Int) ≤ 122)) || (((c.toNat : Int) == 95) || ((decide (i > 0)) && ((decide ((c.toNat : Int) ≥ 48)) && (decide ((c.toNat : Int) ≤ 57)))))) else (((c.toNat : Int) == 95) || ((decide (i > 0)) && ((decide ((c.toNat : Int) ≥ 48)) && (decide ((c.toNat : Int) ≤ 57))))))) else (if (decide ((c.toNat : Int) ≥ 97)) then ((decide ((c.toNat : Int) ≤ 122)) || (((c.toNat : Int) == 95) || ((decide (i > 0)) && ((decide ((c.toNat : Int) ≥ 48)) && (decide ((c.toNat : Int) ≤ 57)))))) else (((c.toNat : Int) == 95) || ((decide (i > 0)) && ((decide ((c.toNat : Int) ≥ 48)) && (decide ((c.toNat : Int) ≤ 57))))))) (by rw [hc2, hc3, hc4, hc9] <;> rfl))
     refine (rsl 3 [] 36 (decide (i > 0)) (fun hc10 => ?_) (fun hc10 => ?_))
     ·
      refine (rsl 4 [] 40 (decide ((c.toNat : Int) ≥ 48)) (fun hc11 => ?_) (fun hc11 => ?_))
      · exact (rbl [] 5 (decide ((c.toNat : Int) ≤ 57)) (if (decide ((c.toNat : Int) ≥ 65)) then ((decide ((c.toNat : Int) ≤ 90)) || (if (decide ((c.toNat : Int) ≥ 97)) then ((decide ((c.toNat : Int) ≤ 122)) || (((c.toNat : Int) == 95) || ((decide (i > 0)) && ((decide ((c.toNat : Int) ≥ 48)) && (decide ((c.toNat : Int) ≤ 57)))))) else (((c.toNat : Int) == 95) || ((decide (i > 0)) && ((decide ((c.toNat : Int) ≥ 48)) && (decide ((c.toNat : Int) ≤ 57))))))) else (if (decide ((c.toNat : Int) ≥ 97)) then ((decide ((c.toNat : Int) ≤ 122)) || (((c.toNat : Int) == 95) || ((decide (i > 0)) && ((decide ((c.toNat : Int) ≥ 48)) && (decide ((c.toNat : Int) ≤ 57)))))) else (((c.toNat : Int) == 95) || ((decide (i > 0)) && ((decide ((c.toNat : Int) ≥ 48)) && (decide ((c.toNat : Int) ≤ 57))))))) (by rw [hc2, hc3, hc4, hc9, hc10, hc11] <;> rfl))
      exact (rbl [] 5 false (if (decide ((c.toNat : Int) ≥ 65)) then ((decide ((c.toNat : Int) ≤ 90)) || (if (decide ((c.toNat : Int) ≥ 97)) then ((decide ((c.toNat : Int) ≤ 122)) || (((c.toNat : Int) == 95) || ((decide (i > 0)) && ((decide ((c.toNat : Int) ≥ 48)) && (decide ((c.toNat : Int) ≤ 57)))))) else (((c.toNat : Int) == 95) || ((decide (i > 0)) && ((decide ((c.toNat : Int) ≥ 48)) && (decide ((c.toNat : Int) ≤ 57))))))) else (if (decide ((c.toNat : Int) ≥ 97)) then ((decide ((c.toNat : Int) ≤ 122)) || (((c.toNat : Int) == 95) || ((decide (i > 0)) && ((decide ((c.toNat : Int) ≥ 48)) && (decide ((c.toNat : Int) ≤ 57)))))) else (((c.toNat : Int) == 95) || ((decide (i > 0)) && ((decide ((c.toNat : Int) ≥ 48)) && (decide ((c.toNat : Int) ≤ 57))))))) (by rw [hc2, hc3, hc4, hc9, hc10, hc11] <;> rfl))
     exact (rbl [] 5 false (if (decide ((c.toNat : Int) ≥ 65)) then ((decide ((c.toNat : Int) ≤ 90)) || (if (decide ((c.toNat : Int) ≥ 97)) then ((decide ((c.toNat : Int) ≤ 122)) || (((c.toNat : Int) == 95) || ((decide (i > 0)) && ((decide ((c.toNat : Int) ≥ 48)) && (decide ((c.toNat : Int) ≤ 57)))))) else (((c.toNat : Int) == 95) || ((decide (i > 0)) && ((decide ((c.toNat : Int) ≥ 48)) && (decide ((c.toNat : Int) ≤ 57))))))) else (if (decide ((c.toNat : Int) ≥ 97)) then ((decide ((c.toNat : Int) ≤ 122)) || (((c.toNat : Int) == 95) || ((decide (i > 0)) && ((decide ((c.toNat : Int) ≥ 48)) && (decide ((c.toNat : Int) ≤ 57)))))) else (((c.toNat : Int) == 95) || ((decide (i > 0)) && ((decide ((c.toNat : Int) ≥ 48)) && (decide ((c.toNat : Int) ≤ 57))))))) (by rw [hc2, hc3, hc4, hc9, hc10] <;> rfl))
    refine (rsl 7 [] 24 (decide ((c.toNat : Int) ≥ 97)) (fun hc12 => ?_) (fun hc12 => ?_))
    ·
     refine (rsl 5 [] 29 (decide ((c.toNat : Int) ≤ 122)) (fun hc13 => ?_) (fun hc13 => ?_))
     · exact (rbl [] 5 true (if (decide ((c.toNat : Int) ≥ 65)) then ((decide ((c.toNat : Int) ≤ 90)) || (if (decide ((c.toNat : Int) ≥ 97)) then ((decide ((c.toNat : Int) ≤ 122)) || (((c.toNat : Int) == 95) || ((decide (i > 0)) && ((decide ((c.toNat : Int) ≥ 48)) && (decide ((c.toNat : Int) ≤ 57)))))) else (((c.toNat : Int) == 95) || ((decide (i > 0)) && ((decide ((c.toNat : Int) ≥ 48)) && (decide ((c.toNat : Int) ≤ 57))))))) else (if (decide ((c.toNat : Int) ≥ 97)) then ((decide ((c.toNat : Int) ≤ 122)) || (((c.toNat : Int) == 95) || ((decide (i > 0)) && ((decide ((c.toNat : Int) ≥ 48)) && (decide ((c.toNat : Int) ≤ 57)))))) else (((c.toNat : Int) == 95) || ((decide (i > 0)) && ((decide ((c.toNat : Int) ≥ 48)) && (decide ((c.toNat : Int) ≤ 57))))))) (by rw [hc2, hc12, hc13] <;> rfl))
     refine (rsl 4 [] 33 ((c.toNat : Int) == 95) (fun hc14 => ?_) (fun hc14 => ?_))
     · exact (rbl [] 5 true (if (decide ((c.toNat : Int) ≥ 65)) then ((decide ((c.toNat : Int) ≤ 90)) || (if (decide ((c.toNat : Int) ≥ 97)) then ((decide ((c.toNat : Int) ≤ 122)) || (((c.toNat : Int) == 95) || ((decide (i > 0)) && ((decide ((c.toNat : Int) ≥ 48)) && (decide ((c.toNat : Int) ≤ 57)))))) else (((c.toNat : Int) == 95) || ((decide (i > 0)) && ((decide ((c.toNat : Int) ≥ 48)) && (decide ((c.toNat : Int) ≤ 57))))))) else (if (decide ((c.toNat : Int) ≥ 97)) then ((decide ((c.toNat : Int) ≤ 122)) || (((c.toNat : Int) == 95) || ((decide (i > 0)) && ((decide ((c.toNat : Int) ≥ 48)) && (decide ((c.toNat : Int) ≤ 57)))))) else (((c.toNat : Int) == 95) || ((decide (i > 0)) && ((decide ((c.toNat : Int) ≥ 48)) && (decide ((c.toNat : Int) ≤ 57))))))) (by rw [hc2, hc12, hc13, hc14] <;> rfl))
     refine (rsl 3 [] 36 (decide (i > 0)) (fun hc15 => ?_) (fun hc15 => ?_))
     ·
      refine (rsl 4 [] 40 (decide ((c.toNat : Int) ≥ 48)) (fun hc16 => ?_) (fun hc16 => ?_))
      · exact (rbl [] 5 (decide ((c.toNat : Int) ≤ 57)) (if (decide ((c.toNat : Int) ≥ 65)) then ((decide ((c.toNat : Int) ≤ 90)) || (if (decide ((c.toNat : Int) ≥ 97)) then ((decide ((c.toNat : Int) ≤ 122)) || (((c.toNat : Int) == 95) || ((decide (i > 0)) && ((decide ((c.toNat : Int) ≥ 48)) && (decide ((c.toNat : Int) ≤ 57)))))) else (((c.toNat : Int) == 95) || ((decide (i > 0)) && ((decide ((c.toNat : Int) ≥ 48)) && (decide ((c.toNat : Int) ≤ 57))))))) else (if (decide ((c.toNat : Int) ≥ 97)) then ((decide ((c.toNat : Int) ≤ 122)) || (((c.toNat : Int) == 95) || ((decide (i > 0)) && ((decide ((c.toNat : Int) ≥ 48)) && (decide ((c.toNat : Int) ≤ 57)))))) else (((c.toNat : Int) == 95) || ((decide (i > 0)) && ((decide ((c.toNat : Int) ≥ 48)) && (decide ((c.toNat : Int) ≤ 57))))))) (by rw [hc2, hc12, hc13, hc14, hc15, hc16] <;> rfl))
      exact (rbl [] 5 false (if (decide ((c.toNat : Int) ≥ 65)) then ((decide ((c.toNat : Int) ≤ 90)) || (if (decide ((c.toNat : Int) ≥ 97)) then ((decide ((c.toNat : Int) ≤ 122)) || (((c.toNat : Int) == 95) || ((decide (i > 0)) && ((decide ((c.toNat : Int) ≥ 48)) && (decide ((c.toNat : Int) ≤ 57)))))) else (((c.toNat : Int) == 95) || ((decide (i > 0)) && ((decide ((c.toNat : Int) ≥ 48)) && (decide ((c.toNat : Int) ≤ 57))))))) else (if (decide ((c.toNat : Int) ≥ 97)) then ((decide ((c.toNat : Int) ≤ 122)) || (((c.toNat : Int) == 95) || ((decide (i > 0)) && ((decide ((c.toNat : Int) ≥ 48)) && (decide ((c.toNat : Int) ≤ 57)))))) else (((c.toNat : Int) == 95) || ((decide (i > 0)) && ((decide ((c.toNat : Int) ≥ 48)) && (decide ((c.toNat : Int) ≤ 57))))))) (by rw [hc2, hc12, hc13, hc14, hc15, hc16] <;> rfl))
     exact (rbl [] 5 false (if (decide ((c.toNat : Int) ≥ 65)) then ((decide ((c.toNat : Int) ≤ 90)) || (if (decide ((c.toNat : Int) ≥ 97)) then ((decide ((c.toNat : Int) ≤ 122)) || (((c.toNat : Int) == 95) || ((decide (i > 0)) && ((decide ((c.toNat : Int) ≥ 48)) && (decide ((c.toNat : Int) ≤ 57)))))) else (((c.toNat : Int) == 95) || ((decide (i > 0)) && ((decide ((c.toNat : Int) ≥ 48)) && (decide ((c.toNat : Int) ≤ 57))))))) else (if (decide ((c.toNat : Int) ≥ 97)) then ((decide ((c.toNat : Int) ≤ 122)) || (((c.toNat : Int) == 95) || ((decide (i > 0)) && ((decide ((c.toNat : Int) ≥ 48)) && (decide ((c.toNat : Int) ≤ 57)))))) else (((c.toNat : Int) == 95) || ((decide (i > 0)) && ((decide ((c.toNat : Int) ≥ 48)) && (decide ((c.toNat : Int) ≤ 57))))))) (by rw [hc2, hc12, hc13, hc14, hc15] <;> rfl))
    refine (rsl 9 [] 33 ((c.toNat : Int) == 95) (fun hc17 => ?_) (fun hc17 => ?_))
    · exact (rbl [] 5 true (if (decide ((c.toNat : Int) ≥ 65)) then ((decide ((c.toNat : Int) ≤ 90)) || (if (decide ((c.toNat : Int) ≥ 97)) then ((decide ((c.toNat : Int) ≤ 122)) || (((c.toNat : Int) == 95) || ((decide (i > 0)) && ((decide ((c.toNat : Int) ≥ 48)) && (decide ((c.toNat : Int) ≤ 57)))))) else (((c.toNat : Int) == 95) || ((decide (i > 0)) && ((decide ((c.toNat : Int) ≥ 48)) && (decide ((c.toNat : Int) ≤ 57))))))) else (if (decide ((c.toNat : Int) ≥ 97)) then ((decide ((c.toNat : Int) ≤ 122)) || (((c.toNat : Int) == 95) || ((decide (i > 0)) && ((decide ((c.toNat : Int) ≥ 48)) && (decide ((c.toNat : Int) ≤ 57)))))) else (((c.toNat : Int) == 95) || ((decide (i > 0)) && ((decide ((c.toNat : Int) ≥ 48)) && (decide ((c.toNat : Int) ≤ 57))))))) (by rw [hc2, hc12, hc17] <;> rfl))
    refine (rsl 3 [] 36 (decide (i > 0)) (fun hc18 => ?_) (fun hc18 => ?_))
    ·
     refine (rsl 4 [] 40 (decide ((c.toNat : Int) ≥ 48)) (fun hc19 => ?_) (fun hc19 => ?_))
     · exact (rbl [] 5 (decide ((c.toNat : Int) ≤ 57)) (if (decide ((c.toNat : Int) ≥ 65)) then ((decide ((c.toNat : Int) ≤ 90)) || (if (decide ((c.toNat : Int) ≥ 97)) then ((decide ((c.toNat : Int) ≤ 122)) || (((c.toNat : Int) == 95) || ((decide (i > 0)) && ((decide ((c.toNat : Int) ≥ 48)) && (decide ((c.toNat : Int) ≤ 57)))))) else (((c.toNat : Int) == 95) || ((decide (i > 0)) && ((decide ((c.toNat : Int) ≥ 48)) && (decide ((c.toNat : Int) ≤ 57))))))) else (if (decide ((c.toNat : Int) ≥ 97)) then ((decide ((c.toNat : Int) ≤ 122)) || (((c.toNat : Int) == 95) || ((decide (i > 0)) && ((decide ((c.toNat : Int) ≥ 48)) && (decide ((c.toNat : Int) ≤ 57)))))) else (((c.toNat : Int) == 95) || ((decide (i > 0)) && ((decide ((c.toNat : Int) ≥ 48)) && (decide ((c.toNat : Int) ≤ 57))))))) (by rw [hc2, hc12, hc17, hc18, hc19] <;> rfl))
     exact (rbl [] 5 false (if (decide ((c.toNat : Int) ≥ 65)) then ((decide ((c.toNat : Int) ≤ 90)) || (if (decide ((c.toNat : Int) ≥ 97)) then ((decide ((c.toNat : Int) ≤ 122)) || (((c.toNat : Int) == 95) || ((decide (i > 0)) && ((decide ((c.toNat : Int) ≥ 48)) && (decide ((c.toNat : Int) ≤ 57)))))) else (((c.toNat : Int) == 95) || ((decide (i > 0)) && ((decide ((c.toNat : Int) ≥ 48)) && (decide ((c.toNat : Int) ≤ 57))))))) else (if (decide ((c.toNat : Int) ≥ 97)) then ((decide ((c.toNat : Int) ≤ 122)) || (((c.toNat : Int) == 95) || ((decide (i > 0)) && ((decide ((c.toNat : Int) ≥ 48)) && (decide ((c.toNat : Int) ≤ 57)))))) else (((c.toNat : Int) == 95) || ((decide (i > 0)) && ((decide ((c.toNat : Int) ≥ 48)) && (decide ((c.toNat : Int) ≤ 57))))))) (by rw [hc2, hc12, hc17, hc18, hc19] <;> rfl))
    exact (rbl [] 5 false (if (decide ((c.toNat : Int) ≥ 65)) then ((decide ((c.toNat : Int) ≤ 90)) || (if (decide ((c.toNat : Int) ≥ 97)) then ((decide ((c.toNat : Int) ≤ 122)) || (((c.toNat : Int) == 95) || ((decide (i > 0)) && ((decide ((c.toNat : Int) ≥ 48)) && (decide ((c.toNat : Int) ≤ 57)))))) else (((c.toNat : Int) == 95) || ((decide (i > 0)) && ((decide ((c.toNat : Int) ≥ 48)) && (decide ((c.toNat : Int) ≤ 57))))))) else (if (decide ((c.toNat : Int) ≥ 97)) then ((decide ((c.toNat : Int) ≤ 122)) || (((c.toNat : Int) == 95) || ((decide (i > 0)) && ((decide ((c.toNat : Int) ≥ 48)) && (decide ((c.toNat : Int) ≤ 57)))))) else (((c.toNat : Int) == 95) || ((decide (i > 0)) && ((decide ((c.toNat : Int) ≥ 48)) && (decide ((c.toNat : Int) ≤ 57))))))) (by rw [hc2, hc12, hc17, hc18] <;> rfl))
   refine jp ?_
   rcases zm h with ⟨hc20, h⟩ | ⟨hc20, h⟩
   ·
    refine jT hc20 ?_
    refine jp ?_
    obtain rfl := sj h
    exact zaY lzz
   refine jF hc20 ?_
   refine zap ?_
   refine jp ?_
   obtain rfl := sj h
   exact zF lzz
  refine jF hc1 ?_
  obtain rfl := sj h
  exact zaX rfl lzz
 rcases q with u | u2
 ·
  refine zbI _ rfl ?_
  refine zE ⟨[(2, kB ((decide ((sv.length : Int) ≥ 1)) && (decide ((sv.length : Int) ≤ 60))))], []⟩ ?_ ?_
  ·
   refine (rsl 4 [] 50 (decide ((sv.length : Int) ≥ 1)) (fun hc21 => ?_) (fun hc21 => ?_))
   · exact (rbl [] 2 (decide ((sv.length : Int) ≤ 60)) ((decide ((sv.length : Int) ≥ 1)) && (decide ((sv.length : Int) ≤ 60))) (by rw [hc21] <;> rfl))
   exact (rbl [] 2 false ((decide ((sv.length : Int) ≥ 1)) && (decide ((sv.length : Int) ≤ 60))) (by rw [hc21] <;> rfl))
  obtain rfl := sj h
  exact zv lzz
 obtain rfl := sj h
 exact zdI lzz
theorem zdj {k : Int} {r : Bool} (h : zbC k = some r) : FnOk Tryz.prog 30 [kI k] [kB r] := by
 refine zx (E := ⟨[(2, kB r)], []⟩) 9 Tryz.func30 rfl rfl rfl ⟨rfl, trivial⟩ (fun Xt => ?_)
 refine zr ?_
 unfold zbC at h
 refine jp ?_
 refine zE ⟨[(2, kB ((decide (k ≥ 1)) && (decide (k ≤ 17))))], []⟩ ?_ ?_
 ·
  refine (rsl 3 [] 5 (decide (k ≥ 1)) (fun hc1 => ?_) (fun hc1 => ?_))
  · exact (rbl [] 2 (decide (k ≤ 17)) ((decide (k ≥ 1)) && (decide (k ≤ 17))) (by rw [hc1] <;> rfl))
  exact (rbl [] 2 false ((decide (k ≥ 1)) && (decide (k ≤ 17))) (by rw [hc1] <;> rfl))
 obtain rfl := sj h
 exact zv lzz
theorem zcS {k : Int} {r : Bool} (h : zaL k = some r) : FnOk Tryz.prog 29 [kI k] [kB r] := by
 refine zx (E := ⟨[(2, kB r)], []⟩) 9 Tryz.func29 rfl rfl rfl ⟨rfl, trivial⟩ (fun Xt => ?_)
 refine zr ?_
 unfold zaL at h
 refine jp ?_
 refine zE ⟨[(2, kB ((decide (k ≥ 1)) && (decide (k ≤ 14))))], []⟩ ?_ ?_
 ·
  refine (rsl 3 [] 5 (decide (k ≥ 1)) (fun hc1 => ?_) (fun hc1 => ?_))
  · exact (rbl [] 2 (decide (k ≤ 14)) ((decide (k ≥ 1)) && (decide (k ≤ 14))) (by rw [hc1] <;> rfl))
  exact (rbl [] 2 false ((decide (k ≥ 1)) && (decide (k ≤ 14))) (by rw [hc1] <;> rfl))
 obtain rfl := sj h
 exact zv lzz
theorem zcs {b : (List UInt8)} {atv : Int} {r : (Int × Int × Int)} (h : zaV b atv = some r) : FnOk Tryz.prog 32 [.sl Rp.byte [0] b, kI atv] [kU r.1, kI r.2.1, kI r.2.2] := by
 refine zx (E := ⟨[(4, kU r.1), (5, kI r.2.1), (6, kI r.2.2)], []⟩) 69 Tryz.func32 rfl rfl rfl ⟨rfl, rfl, rfl, trivial⟩ (fun Xt => ?_)
 refine zr ?_
 unfold zaV at h
 refine jp ?_
 refine jp ?_
 refine zA ?_
 obtain ⟨q, h_q, h⟩ := bnd h
 refine zaW (fun s : Int => zU atv b s) (fun s => ⟨[(0, .sl Rp.byte [0] b), (1, kI atv), (7, kI s)], []⟩) (fun o e a w => e = .exit 0 ∧ Sx ⟨⟨69, []⟩, Xt, false, #[]⟩ ⟨[(0, .sl Rp.byte [0] b), (1, kI atv), (7, kI o)], []⟩ a w) ?_ h_q lzz ?_
 ·
  clear h
  intro n o h
  refine zr ?_
  replace h : zU atv b n = some o := h
  unfold zU at h
  obtain ⟨g, h_g, h⟩ := bnd h
  refine zE ⟨[(0, .sl Rp.byte [0] b), (1, kI atv), (7, kI n), (28, kB g)], []⟩ ?_ ?_
  ·
   refine (rsl 7 [] 16 (decide ((IntKind.i64.wrap (atv + n)) < (b.length : Int))) (fun hc1 => ?_) (fun hc1 => ?_))
   ·
    replace h_g := iteT h_g hc1
    refine (rsl 4 [] 20 (decide (n < 10)) (fun hc2 => ?_) (fun hc2 => ?_))
    ·
     replace h_g := iteT h_g hc2
     obtain ⟨x, h_x, h_g⟩ := bnd h_g
     obtain rfl := sj h_g
     exact (ra 4 [.sl Rp.byte [0] b, kI (IntKind.i64.wrap (atv + n))] rfl (zbx rfl zde.el (zR _ _ _) h_x) rfl rgg)
    replace h_g := iteF h_g hc2
    obtain rfl := sj h_g
    exact rgg
   replace h_g := iteF h_g hc1
   obtain rfl := sj h_g
   exact rgg
  rcases zm h with ⟨hc3, h⟩ | ⟨hc3, h⟩
  ·
   refine jT hc3 ?_
   refine zA ?_
   refine jp ?_
   refine zap ?_
   obtain rfl := sj h
   exact zF lzz
  refine jF hc3 ?_
  obtain rfl := sj h
  exact zaX rfl lzz
 refine zbI _ rfl ?_
 refine jp ?_
 rcases zm h with ⟨hc4, h⟩ | ⟨hc4, h⟩
 ·
  refine jT hc4 ?_
  refine jp ?_
  obtain rfl := sj h
  exact zv lzz
 refine jF hc4 ?_
 refine jp ?_
 rcases zm h with ⟨hc5, h⟩ | ⟨hc5, h⟩
 ·
  refine jT hc5 ?_
  refine jp ?_
  obtain rfl := sj h
  exact zv lzz
 refine jF hc5 ?_
 obtain ⟨g2, h_g2, h⟩ := bnd h
 refine zE ⟨[(0, .sl Rp.byte [0] b), (1, kI atv), (7, kI q), (49, kB g2)], []⟩ ?_ ?_
 ·
  refine (rsl 3 [] 41 (q == 9) (fun hc6 => ?_) (fun hc6 => ?_))
  ·
   replace h_g2 := iteT h_g2 hc6
   obtain ⟨x2, h_x2, h_g2⟩ := bnd h_g2
   obtain rfl := sj h_g2
   exact (ra 4 [.sl Rp.byte [0] b, kI (IntKind.i64.wrap (atv + q))] rfl (zbx rfl zde.el (zR _ _ _) h_x2) rfl rgg)
  replace h_g2 := iteF h_g2 hc6
  obtain rfl := sj h_g2
  exact rgg
 rcases zm h with ⟨hc7, h⟩ | ⟨hc7, h⟩
 ·
  refine jT hc7 ?_
  refine jp ?_
  obtain rfl := sj h
  exact zv lzz
 refine jF hc7 ?_
 refine jp ?_
 refine jp ?_
 refine zA ?_
 obtain ⟨q2, h_q2, h⟩ := bnd h
 refine zaW (fun s : (Int × Int) => zam atv b s.1 s.2) (fun s => ⟨[(0, .sl Rp.byte [0] b), (1, kI atv), (7, kI q), (8, kU s.1), (9, kI s.2)], []⟩) (fun o e a w => e = .exit 2 ∧ Sx ⟨⟨69, []⟩, Xt, false, #[]⟩ ⟨[(7, kI q), (8, kU o)], []⟩ a w) ?_ h_q2 lzz ?_
 ·
  clear h
  intro s o h
  obtain ⟨wv, i⟩ := s
  refine zr ?_
  replace h : zam atv b wv i = some o := h
  unfold zam at h
  refine jp ?_
  rcases zm h with ⟨hc8, h⟩ | ⟨hc8, h⟩
  ·
   refine jT hc8 ?_
   refine zA ?_
   obtain ⟨x3, h_x3, h⟩ := bnd h
   refine jr (ra 6 [.sl Rp.byte [0] b, kI (IntKind.i64.wrap (atv + i))] rfl (zbx rfl zde.el (zR _ _ _) h_x3) rfl rf) ?_
   refine zap ?_
   refine jp ?_
   obtain rfl := sj h
   exact zF lzz
  refine jF hc8 ?_
  obtain rfl := sj h
  exact zaX rfl lzz
 refine zbI _ rfl ?_
 refine jp ?_
 obtain rfl := sj h
 exact zv lzz
theorem zhE {number : Int} {wire : Int} {r : Bool} (h : zbZ number wire = some r) : FnOk Tryz.prog 57 [kI number, kI wire] [kB r] := by
 refine zx (E := ⟨[(4, kB r)], []⟩) 27 Tryz.func57 rfl rfl rfl ⟨rfl, trivial⟩ (fun Xt => ?_)
 refine zr ?_
 unfold zbZ at h
 refine jp ?_
 refine zE ⟨[(4, kB ((decide (number ≥ 1)) && ((decide (number ≤ 536870911)) && ((wire == 0) || ((wire == 1) || ((wire == 2) || (wire == 5)))))))], []⟩ ?_ ?_
 ·
  refine (rsl 3 [] 7 (decide (number ≥ 1)) (fun hc1 => ?_) (fun hc1 => ?_))
  ·
   refine (rsl 4 [] 11 (decide (number ≤ 536870911)) (fun hc2 => ?_) (fun hc2 => ?_))
   ·
    refine (rsl 3 [] 14 (wire == 0) (fun hc3 => ?_) (fun hc3 => ?_))
    · exact (rbl [] 4 true ((decide (number ≥ 1)) && ((decide (number ≤ 536870911)) && ((wire == 0) || ((wire == 1) || ((wire == 2) || (wire == 5)))))) (by rw [hc1, hc2, hc3] <;> rfl))
    refine (rsl 4 [] 18 (wire == 1) (fun hc4 => ?_) (fun hc4 => ?_))
    · exact (rbl [] 4 true ((decide (number ≥ 1)) && ((decide (number ≤ 536870911)) && ((wire == 0) || ((wire == 1) || ((wire == 2) || (wire == 5)))))) (by rw [hc1, hc2, hc3, hc4] <;> rfl))
    refine (rsl 4 [] 22 (wire == 2) (fun hc5 => ?_) (fun hc5 => ?_))
    · exact (rbl [] 4 true ((decide (number ≥ 1)) && ((decide (number ≤ 536870911)) && ((wire == 0) || ((wire == 1) || ((wire == 2) || (wire == 5)))))) (by rw [hc1, hc2, hc3, hc4, hc5] <;> rfl))
    exact (rbl [] 4 (wire == 5) ((decide (number ≥ 1)) && ((decide (number ≤ 536870911)) && ((wire == 0) || ((wire == 1) || ((wire == 2) || (wire == 5)))))) (by rw [hc1, hc2, hc3, hc4, hc5] <;> rfl))
   exact (rbl [] 4 false ((decide (number ≥ 1)) && ((decide (number ≤ 536870911)) && ((wire == 0) || ((wire == 1) || ((wire == 2) || (wire == 5)))))) (by rw [hc1, hc2] <;> rfl))
  exact (rbl [] 4 false ((decide (number ≥ 1)) && ((decide (number ≤ 536870911)) && ((wire == 0) || ((wire == 1) || ((wire == 2) || (wire == 5)))))) (by rw [hc1] <;> rfl))
 obtain rfl := sj h
 exact zv lzz
theorem zhJ {m : zh} {number : Int} {r : Int} (h : zcd m number = some r) : FnOk Tryz.prog 28 [.rc zd [0] m, kI number] [kI r] := by
 refine zx (E := ⟨[(4, kI r)], []⟩) 22 Tryz.func28 rfl rfl rfl ⟨rfl, trivial⟩ (fun Xt => ?_)
 refine zr ?_
 unfold zcd at h
 refine jr (ra 0 [.rc zd [0] m] rfl (zih 11 [kS m.Name, .sl za [0] m.Fields] [0] rfl rfl rfl rfl rfl) rfl rf) ?_
 refine jp ?_
 refine zA ?_
 obtain ⟨q, h_q, h⟩ := bnd h
 refine zaW (fun s : Int => zY m number s) (fun s => ⟨[(1, kI number), (2, .ptr 11 0), (5, kI s)], [⟨11, 42, [kS m.Name, .sl za [0] m.Fields]⟩]⟩) (fun o e a w => match o with | (.inl v_) => e = .exit 0 ∧ Sx ⟨⟨22, []⟩, Xt, false, #[]⟩ ⟨[], []⟩ a w | (.inr v_) => e = .ret ∧ Sx ⟨⟨22, []⟩, Xt, false, #[]⟩ ⟨[(4, kI v_)], []⟩ a w) ?_ h_q lzz ?_
 ·
  clear h
  intro i o h
  refine zr ?_
  replace h : zY m number i = some o := h
  unfold zY at h
  refine jp ?_
  rcases zm h with ⟨hc1, h⟩ | ⟨hc1, h⟩
  ·
   refine jT hc1 ?_
   refine zA ?_
   obtain ⟨x, h_x, h⟩ := bnd h
   refine jr (ra 3 [.sl za [0] m.Fields, kI i] rfl (zbx rfl zhD.el (zR _ _ _) h_x) rfl rf) ?_
   rcases zm h with ⟨hc2, h⟩ | ⟨hc2, h⟩
   ·
    refine jT hc2 ?_
    refine jp ?_
    obtain rfl := sj h
    exact zaY lzz
   refine jF hc2 ?_
   refine zap ?_
   refine jp ?_
   obtain rfl := sj h
   exact zF lzz
  refine jF hc1 ?_
  obtain rfl := sj h
  exact zaX rfl lzz
 rcases q with u | u2
 ·
  refine zbI _ rfl ?_
  refine jp ?_
  obtain rfl := sj h
  exact zv lzz
 obtain rfl := sj h
 exact zdI lzz
theorem zhY {k : Int} {r : Int} (h : zcv k = some r) : FnOk Tryz.prog 31 [kI k] [kI r] := by
 refine zx (E := ⟨[(2, kI r)], []⟩) 9 Tryz.func31 rfl rfl rfl ⟨rfl, trivial⟩ (fun Xt => ?_)
 refine zr ?_
 unfold zcv at h
 refine jp ?_
 refine jp ?_
 rcases zm h with ⟨hc1, h⟩ | ⟨hc1, h⟩
 ·
  refine jT hc1 ?_
  refine jp ?_
  obtain rfl := sj h
  exact zv lzz
 refine jF hc1 ?_
 refine jp ?_
 rcases zm h with ⟨hc2, h⟩ | ⟨hc2, h⟩
 ·
  refine jT hc2 ?_
  refine jp ?_
  obtain rfl := sj h
  exact zv lzz
 refine jF hc2 ?_
 refine jp ?_
 rcases zm h with ⟨hc3, h⟩ | ⟨hc3, h⟩
 ·
  refine jT hc3 ?_
  refine jp ?_
  obtain rfl := sj h
  exact zv lzz
 refine jF hc3 ?_
 refine jp ?_
 obtain rfl := sj h
 exact zv lzz
theorem ziO {rv : Int} {r : (List UInt8)} (h : zcJ rv = some r) : FnOk Tryz.prog 58 [kI rv] [.own Rp.byte 5 2 [] r] := by
 refine zx (E := ⟨[(2, .own Rp.byte 5 2 [] r)], []⟩) 68 Tryz.func58 rfl rfl rfl ⟨rfl, trivial⟩ (fun Xt => ?_)
 refine zr ?_
 unfold zcJ at h
 refine jp ?_
 refine zE ⟨[(0, kI rv), (16, kB ((decide (rv < 0)) || ((decide (rv > 1114111)) || ((decide (rv ≥ 55296)) && (decide (rv ≤ 57343))))))], []⟩ ?_ ?_
 ·
  refine (rsl 3 [] 5 (decide (rv < 0)) (fun hc1 => ?_) (fun hc1 => ?_))
  · exact (rbl [] 16 true ((decide (rv < 0)) || ((decide (rv > 1114111)) || ((decide (rv ≥ 55296)) && (decide (rv ≤ 57343))))) (by rw [hc1] <;> rfl))
  refine (rsl 4 [] 9 (decide (rv > 1114111)) (fun hc2 => ?_) (fun hc2 => ?_))
  · exact (rbl [] 16 true ((decide (rv < 0)) || ((decide (rv > 1114111)) || ((decide (rv ≥ 55296)) && (decide (rv ≤ 57343))))) (by rw [hc1, hc2] <;> rfl))
  refine (rsl 3 [] 12 (decide (rv ≥ 55296)) (fun hc3 => ?_) (fun hc3 => ?_))
  · exact (rbl [] 16 (decide (rv ≤ 57343)) ((decide (rv < 0)) || ((decide (rv > 1114111)) || ((decide (rv ≥ 55296)) && (decide (rv ≤ 57343))))) (by rw [hc1, hc2, hc3] <;> rfl))
  exact (rbl [] 16 false ((decide (rv < 0)) || ((decide (rv > 1114111)) || ((decide (rv ≥ 55296)) && (decide (rv ≤ 57343))))) (by rw [hc1, hc2, hc3] <;> rfl))
 rcases zm h with ⟨hc4, h⟩ | ⟨hc4, h⟩
 ·
  refine jT hc4 ?_
  refine jp ?_
  obtain rfl := sj h
  refine zv ?_
  refine zcK ⟨[(2, kN)], []⟩ (by kernel_rfl) ?_
  refine zcQ 2 (.own Rp.byte 5 2 [] ([] : (List UInt8))) rfl (zhh Rp.byte 5 2 [] rfl) ?_
  exact lzz
 refine jF hc4 ?_
 refine jp ?_
 rcases zm h with ⟨hc5, h⟩ | ⟨hc5, h⟩
 ·
  refine jT hc5 ?_
  obtain ⟨y, h_y, h⟩ := bnd h
  refine jr (rc 2 rfl (zL.le (ins' := [(.tmp 20, .lf (.int .u8 (IntKind.u8.wrap rv)))]) (zgq [.lf (.int .u8 (y.toNat : Int))] 12 [] [y] rfl zde rfl rfl rfl rfl) ⟨⟨rfl, zeL h_y⟩, trivial⟩) rf) ?_
  obtain rfl := sj h
  refine zv ?_
  refine lk [2] [] 12 2 ?_
  exact lzz
 refine jF hc5 ?_
 refine jp ?_
 rcases zm h with ⟨hc6, h⟩ | ⟨hc6, h⟩
 ·
  refine jT hc6 ?_
  obtain ⟨y2, h_y2, h⟩ := bnd h
  obtain ⟨y3, h_y3, h⟩ := bnd h
  refine jr (rc 8 rfl (zL.le (ins' := [(.tmp 27, .lf (.int .u8 (IntKind.u8.wrap (IntKind.i64.wrap (192 + (IntKind.i64.wrap (Int.tdiv rv 64))))))), (.tmp 31, .lf (.int .u8 (IntKind.u8.wrap (IntKind.i64.wrap (128 + (Int.tmod rv 64))))))]) (zgq [.lf (.int .u8 (y2.toNat : Int)), .lf (.int .u8 (y3.toNat : Int))] 13 [] [y2, y3] rfl zde rfl rfl rfl rfl) ⟨⟨rfl, zeL h_y2⟩, ⟨rfl, zeL h_y3⟩, trivial⟩) rf) ?_
  obtain rfl := sj h
  refine zv ?_
  refine lk [2] [] 13 2 ?_
  exact lzz
 refine jF hc6 ?_
 refine jp ?_
 rcases zm h with ⟨hc7, h⟩ | ⟨hc7, h⟩
 ·
  refine jT hc7 ?_
  obtain ⟨y4, h_y4, h⟩ := bnd h
  obtain ⟨y5, h_y5, h⟩ := bnd h
  obtain ⟨y6, h_y6, h⟩ := bnd h
  refine jr (rc 13 rfl (zL.le (ins' := [(.tmp 38, .lf (.int .u8 (IntKind.u8.wrap (IntKind.i64.wrap (224 + (IntKind.i64.wrap (Int.tdiv rv 4096))))))), (.tmp 43, .lf (.int .u8 (IntKind.u8.wrap (IntKind.i64.wrap (128 + (Int.tmod (IntKind.i64.wrap (Int.tdiv rv 64)) 64)))))), (.tmp 47, .lf (.int .u8 (IntKind.u8.wrap (IntKind.i64.wrap (128 + (Int.tmod rv 64))))))]) (zgq [.lf (.int .u8 (y4.toNat : Int)), .lf (.int .u8 (y5.toNat : Int)), .lf (.int .u8 (y6.toNat : Int))] 14 [] [y4, y5, y6] rfl zde rfl rfl rfl rfl) ⟨⟨rfl, zeL h_y4⟩, ⟨rfl, zeL h_y5⟩, ⟨rfl, zeL h_y6⟩, trivial⟩) rf) ?_
  obtain rfl := sj h
  refine zv ?_
  refine lk [2] [] 14 2 ?_
  exact lzz
 refine jF hc7 ?_
 obtain ⟨y7, h_y7, h⟩ := bnd h
 obtain ⟨y8, h_y8, h⟩ := bnd h
 obtain ⟨y9, h_y9, h⟩ := bnd h
 obtain ⟨y10, h_y10, h⟩ := bnd h
 refine jr (rc 18 rfl (zL.le (ins' := [(.tmp 52, .lf (.int .u8 (IntKind.u8.wrap (IntKind.i64.wrap (240 + (IntKind.i64.wrap (Int.tdiv rv 262144))))))), (.tmp 57, .lf (.int .u8 (IntKind.u8.wrap (IntKind.i64.wrap (128 + (Int.tmod (IntKind.i64.wrap (Int.tdiv rv 4096)) 64)))))), (.tmp 62, .lf (.int .u8 (IntKind.u8.wrap (IntKind.i64.wrap (128 + (Int.tmod (IntKind.i64.wrap (Int.tdiv rv 64)) 64)))))), (.tmp 66, .lf (.int .u8 (IntKind.u8.wrap (IntKind.i64.wrap (128 + (Int.tmod rv 64))))))]) (zgq [.lf (.int .u8 (y7.toNat : Int)), .lf (.int .u8 (y8.toNat : Int)), .lf (.int .u8 (y9.toNat : Int)), .lf (.int .u8 (y10.toNat : Int))] 15 [] [y7, y8, y9, y10] rfl zde rfl rfl rfl rfl) ⟨⟨rfl, zeL h_y7⟩, ⟨rfl, zeL h_y8⟩, ⟨rfl, zeL h_y9⟩, ⟨rfl, zeL h_y10⟩, trivial⟩) rf) ?_
 obtain rfl := sj h
 refine zv ?_
 refine lk [2] [] 15 2 ?_
 exact lzz
end Go.Proofs.YtnfembipjdohcaaGreat
