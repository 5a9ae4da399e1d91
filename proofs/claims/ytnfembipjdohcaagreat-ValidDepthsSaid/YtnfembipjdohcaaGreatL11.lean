/-
  The laws as plain functions. No condition.
-/
import Derived.Test.YtnfembipjdohcaaGreatP1
import Derived.Test.YtnfembipjdohcaaGreatO
namespace Go.Proofs.YtnfembipjdohcaaGreat
open Go
set_option linter.unusedVariables false
theorem zrX {s : List Mes} (w : s.length * 40 ≤ 140737488351232 ∧ ∀ m ∈ s, zdM m) : WS s :=
 ⟨by omega, fun m hm => ⟨(w.2 m hm).1, by have := (w.2 m hm).2.1; omega, fun f hf => ((w.2 m hm).2.2 f hf).1⟩⟩
theorem zmY {fuel : Nat} (hf : 130 ≤ fuel) : zbB fuel = some true := by
 have hw : WS [(⟨[109], [⟨[97], 1, 17, false, false, 0⟩]⟩ : Mes)] := by
  refine ⟨by simp, fun m hm => ?_⟩
  rw [List.mem_singleton.1 hm]
  exact ⟨by simp, by simp, fun f hf => by rw [List.mem_singleton.1 hf]; simp⟩
 have r1 : rec5 [(10 : UInt8), (2 : UInt8), (10 : UInt8), (0 : UInt8)] = .inr (1, 2, 2, 4) := by decide
 have r2 : rec5 [(10 : UInt8), (0 : UInt8)] = .inr (1, 2, 2, 2) := by decide
 have s1 : spl 0 [(10 : UInt8), (2 : UInt8), (10 : UInt8), (0 : UInt8)] = ([⟨1, 2, 0, 2, 4⟩], none) := by
  rw [zgS (by simp) r1]
  have e : ([(10 : UInt8), (2 : UInt8), (10 : UInt8), (0 : UInt8)] : List UInt8).drop 4 = [] := rfl
  rw [e, ziM]; rfl
 have s2 : spl 0 [(10 : UInt8), (0 : UInt8)] = ([⟨1, 2, 0, 2, 2⟩], none) := by
  rw [zgS (by simp) r2]
  have e : ([(10 : UInt8), (0 : UInt8)] : List UInt8).drop 2 = [] := rfl
  rw [e, ziM]; rfl
 have hvw : vw (zak [⟨[109], [⟨[97], 1, 17, false, false, 0⟩]⟩] 0) 1 2 = .inr (0, false) := by decide
 have hfa : zcn (zak [⟨[109], [⟨[97], 1, 17, false, false, 0⟩]⟩] 0) 0 = ⟨[97], 1, 17, false, false, 0⟩ := rfl
 have hsome : ∀ (g : Int → List UInt8 → Option (Int × Int)) (b v : List UInt8) (f a t : Int), valB b ⟨1, 2, f, a, t⟩ = v → zaG (zak [⟨[109], [⟨[97], 1, 17, false, false, 0⟩]⟩] 0) (some g) b ([⟨1, 2, f, a, t⟩], none) = match g 0 v with
   | some (p, c) => some (a + p, c)
   | none => none := by
  intro g b v f a t hv
  subst hv
  have : zbr (zak [⟨[109], [⟨[97], 1, 17, false, false, 0⟩]⟩] 0) (some g) b ⟨1, 2, f, a, t⟩ = match g 0 (valB b ⟨1, 2, f, a, t⟩) with
   | some (p, c) => some (a + p, c)
   | none => none := by
   unfold zbr
   simp only [hvw]
   rw [if_neg (by omega), hfa]
   unfold zhi
   rw [if_neg (by simp), if_neg (by simp), if_pos rfl]
   simp only
   cases g 0 (valB b ⟨1, 2, f, a, t⟩) <;> rfl
  unfold zaG
  simp only [List.findSome?_cons, List.findSome?_nil, this]
  cases g 0 (valB b ⟨1, 2, f, a, t⟩) with
  | none => rfl
  | some q => rfl
 have n0 : zaf [⟨[109], [⟨[97], 1, 17, false, false, 0⟩]⟩] 0 0 [] = none := by
  show zaG _ none [] (spl 0 []) = none
  rw [ziM]; rfl
 have f0 : zaf [⟨[109], [⟨[97], 1, 17, false, false, 0⟩]⟩] 0 0 [(10 : UInt8), (0 : UInt8)] = some (0, 8) := by
  show zaG _ none _ (spl 0 _) = _
  rw [s2]
  rfl
 have f1 : zaf [⟨[109], [⟨[97], 1, 17, false, false, 0⟩]⟩] 1 0 [(10 : UInt8), (0 : UInt8)] = none := by
  show zaG _ (some (zaf _ 0)) _ (spl 0 _) = _
  rw [s2, hsome _ _ [] 0 2 2 (by decide), n0]
 have h2 : is11 [⟨[109], [⟨[97], 1, 17, false, false, 0⟩]⟩] 0 [(10 : UInt8), (2 : UInt8), (10 : UInt8), (0 : UInt8)] 2 = true := by
  refine zgH.2 ⟨by decide, ?_⟩
  show zaG _ (some (zaf _ 1)) _ (spl 0 _) = none
  rw [s1, hsome _ _ [(10 : UInt8), (0 : UInt8)] 0 2 4 (by decide), f1]
 have h1 : is11 [⟨[109], [⟨[97], 1, 17, false, false, 0⟩]⟩] 0 [(10 : UInt8), (2 : UInt8), (10 : UInt8), (0 : UInt8)] 1 = false := by
  cases h : is11 [⟨[109], [⟨[97], 1, 17, false, false, 0⟩]⟩] 0 [(10 : UInt8), (2 : UInt8), (10 : UInt8), (0 : UInt8)] 1 with
  | false => rfl
  | true =>
   have h' : zaG (zak [⟨[109], [⟨[97], 1, 17, false, false, 0⟩]⟩] 0) (some (zaf [⟨[109], [⟨[97], 1, 17, false, false, 0⟩]⟩] 0)) [(10 : UInt8), (2 : UInt8), (10 : UInt8), (0 : UInt8)] (spl 0 [(10 : UInt8), (2 : UInt8), (10 : UInt8), (0 : UInt8)]) = none := (zgH.1 h).2
   rw [s1, hsome _ _ [(10 : UInt8), (0 : UInt8)] 0 2 4 (by decide), f0] at h'
   cases h'
 unfold zbB
 rw [zro hw 0 (by simp) 2 hf, sb, h2, itT (by rfl), zro hw 0 (by simp) 1 hf, sb, h1]
 rfl
theorem zko (a0 : (List zh)) (a1 : Int) (a2 : (List UInt8)) (a3 : Int) (w0 : a0.length * 40 ≤ 140737488351232 ∧ ∀ a0' ∈ a0, zdM a0') (_w1 : (Lit.int .i64 a1).wf = true) (w2 : a2.length * 1 ≤ 140737488351232 ∧ ∀ a2' ∈ a2, True) (_w3 : (Lit.int .i64 a3).wf = true) : ∃ fuel, zbF fuel a0 a1 a2 a3 = some true := by
 have hw := zrX w0
 refine ⟨130, ?_⟩
 unfold zbF
 rw [zmY (Nat.le_refl _), sb, itF (by rfl)]
 obtain ⟨f, hf⟩ := zti hw
 rw [hf, sb]
 by_cases hl : f = false ∨ 1500 < a2.length
 ·rw [itT (by
   rcases hl with h | h
   ·simp [h]
   ·rw [Bool.or_eq_true]; exact .inr (decide_eq_true (by omega)))]
 ·have hb : a2.length ≤ 1048576 := by omega
  have hF : (!f || decide ((a2.length : Int) > 1500)) = false := by
   rw [Bool.or_eq_false_iff]; exact ⟨by cases f <;> simp_all, decide_eq_false (by omega)⟩
  have c1 := zjB a0 a1 a2 a3
  have c2 := zlG a0 a1 a3
  rw [itF hF, zof hw a1 hb _ (Nat.le_refl _), sb, zgu hw a1 hb a3 (by omega), sb, zz (x := (zck a0 a1 a2 a3).2) (by omega), itT (by simp), itT (by simp), zro hw a1 hb _ (Nat.le_refl _), sb, itT (by unfold is11; simp), zql hw, sb, zmE hw, sb, zz (by omega)]
  simp
theorem zkp (a0 : (List zh)) (a1 : Int) (a2 : (List UInt8)) (w0 : a0.length * 40 ≤ 140737488351232 ∧ ∀ a0' ∈ a0, zdM a0') (_w1 : (Lit.int .i64 a1).wf = true) (w2 : a2.length * 1 ≤ 140737488351232 ∧ ∀ a2' ∈ a2, True) : ∃ fuel, zbG fuel a0 a1 a2 = some true := by
 have hw := zrX w0
 refine ⟨130, ?_⟩
 unfold zbG
 rw [zmY (Nat.le_refl _), sb, itF (by rfl)]
 obtain ⟨f, hf⟩ := zti hw
 rw [hf, sb]
 by_cases hl : f = false ∨ 700 < a2.length
 ·rw [itT (by
   rcases hl with h | h
   ·simp [h]
   ·rw [Bool.or_eq_true]; exact .inr (decide_eq_true (by omega)))]
 ·have hb : a2.length ≤ 1048576 := by omega
  have hF : (!f || decide ((a2.length : Int) > 700)) = false := by
   rw [Bool.or_eq_false_iff]; exact ⟨by cases f <;> simp_all, decide_eq_false (by omega)⟩
  have c1 := zjB a0 a1 a2 64
  rw [itF hF, zsK hw a1 hb (Nat.le_refl _), sb, zgu hw a1 hb 64 (by omega), sb]
  by_cases h : (zck a0 a1 a2 64).2 = 0
  ·have hd : znB a0 a1 a2 = (((zfl a0 a1 a2 : Nat) : Int), 0) := by unfold znB; rw [if_neg (by simpa using h)]
   rw [itF (by simpa using h), hd, itT (by rfl), znk hw a1 hb (by omega), sb, sb]
   simp
  ·have hd : znB a0 a1 a2 = (0, (zck a0 a1 a2 64).2) := by unfold znB; rw [if_pos h]
   rw [itT (by simpa using h), hd]
   simp only
   rw [zz (by omega)]
   simp
end Go.Proofs.YtnfembipjdohcaaGreat
