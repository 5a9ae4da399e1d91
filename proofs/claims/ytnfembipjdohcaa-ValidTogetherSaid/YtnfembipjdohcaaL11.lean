/-
  The laws as plain functions. No condition.
-/
import Derived.Test.YtnfembipjdohcaaP1
import Derived.Test.YtnfembipjdohcaaO
namespace Go.Proofs.Ytnfembipjdohcaa
open Go
set_option linter.unusedVariables false
theorem zsG {s : List Mes} (w : s.length * 40 ≤ 140737488351232 ∧ ∀ m ∈ s, zdh m) : WS s :=
 ⟨by omega, fun m hm => ⟨(w.2 m hm).1, by have := (w.2 m hm).2.1; omega, fun f hf => ((w.2 m hm).2.2 f hf).1⟩⟩
theorem zor {fuel : Nat} (hf : 130 ≤ fuel) : zbf fuel = some true := by
 have hw : WS [(⟨[109], [⟨[97], 1, 17, false, false, 0⟩]⟩ : Mes)] := by
  refine ⟨by simp, fun m hm => ?_⟩
  rw [List.mem_singleton.1 hm]
  exact ⟨by simp, by simp, fun f hf => by rw [List.mem_singleton.1 hf]; simp⟩
 have r1 : rec5 [(10 : UInt8), (2 : UInt8), (10 : UInt8), (0 : UInt8)] = .inr (1, 2, 2, 4) := by decide
 have r2 : rec5 [(10 : UInt8), (0 : UInt8)] = .inr (1, 2, 2, 2) := by decide
 have s1 : spl 0 [(10 : UInt8), (2 : UInt8), (10 : UInt8), (0 : UInt8)] = ([⟨1, 2, 0, 2, 4⟩], none) := by
  rw [zcp (by simp) r1]
  have e : ([(10 : UInt8), (2 : UInt8), (10 : UInt8), (0 : UInt8)] : List UInt8).drop 4 = [] := rfl
  rw [e, zdl]; rfl
 have s2 : spl 0 [(10 : UInt8), (0 : UInt8)] = ([⟨1, 2, 0, 2, 2⟩], none) := by
  rw [zcp (by simp) r2]
  have e : ([(10 : UInt8), (0 : UInt8)] : List UInt8).drop 2 = [] := rfl
  rw [e, zdl]; rfl
 have hvw : vw (zT [⟨[109], [⟨[97], 1, 17, false, false, 0⟩]⟩] 0) 1 2 = .inr (0, false) := by decide
 have hfa : zba (zT [⟨[109], [⟨[97], 1, 17, false, false, 0⟩]⟩] 0) 0 = ⟨[97], 1, 17, false, false, 0⟩ := rfl
 have hsome : ∀ (g : Int → List UInt8 → Option (Int × Int)) (b v : List UInt8) (f a t : Int), valB b ⟨1, 2, f, a, t⟩ = v → zap (zT [⟨[109], [⟨[97], 1, 17, false, false, 0⟩]⟩] 0) (some g) b ([⟨1, 2, f, a, t⟩], none) = match g 0 v with
   | some (p, c) => some (a + p, c)
   | none => none := by
  intro g b v f a t hv
  subst hv
  have : zaM (zT [⟨[109], [⟨[97], 1, 17, false, false, 0⟩]⟩] 0) (some g) b ⟨1, 2, f, a, t⟩ = match g 0 (valB b ⟨1, 2, f, a, t⟩) with
   | some (p, c) => some (a + p, c)
   | none => none := by
   unfold zaM
   simp only [hvw]
   rw [if_neg (by omega), hfa]
   unfold zfc
   rw [if_neg (by simp), if_neg (by simp), if_pos rfl]
   simp only
   cases g 0 (valB b ⟨1, 2, f, a, t⟩) <;> rfl
  unfold zap
  simp only [List.findSome?_cons, List.findSome?_nil, this]
  cases g 0 (valB b ⟨1, 2, f, a, t⟩) with
  | none => rfl
  | some q => rfl
 have n0 : zR [⟨[109], [⟨[97], 1, 17, false, false, 0⟩]⟩] 0 0 [] = none := by
  show zap _ none [] (spl 0 []) = none
  rw [zdl]; rfl
 have f0 : zR [⟨[109], [⟨[97], 1, 17, false, false, 0⟩]⟩] 0 0 [(10 : UInt8), (0 : UInt8)] = some (0, 8) := by
  show zap _ none _ (spl 0 _) = _
  rw [s2]
  rfl
 have f1 : zR [⟨[109], [⟨[97], 1, 17, false, false, 0⟩]⟩] 1 0 [(10 : UInt8), (0 : UInt8)] = none := by
  show zap _ (some (zR _ 0)) _ (spl 0 _) = _
  rw [s2, hsome _ _ [] 0 2 2 (by decide), n0]
 have h2 : is11 [⟨[109], [⟨[97], 1, 17, false, false, 0⟩]⟩] 0 [(10 : UInt8), (2 : UInt8), (10 : UInt8), (0 : UInt8)] 2 = true := by
  refine zaS.2 ⟨by decide, ?_⟩
  show zap _ (some (zR _ 1)) _ (spl 0 _) = none
  rw [s1, hsome _ _ [(10 : UInt8), (0 : UInt8)] 0 2 4 (by decide), f1]
 have h1 : is11 [⟨[109], [⟨[97], 1, 17, false, false, 0⟩]⟩] 0 [(10 : UInt8), (2 : UInt8), (10 : UInt8), (0 : UInt8)] 1 = false := by
  cases h : is11 [⟨[109], [⟨[97], 1, 17, false, false, 0⟩]⟩] 0 [(10 : UInt8), (2 : UInt8), (10 : UInt8), (0 : UInt8)] 1 with
  | false => rfl
  | true =>
   have h' : zap (zT [⟨[109], [⟨[97], 1, 17, false, false, 0⟩]⟩] 0) (some (zR [⟨[109], [⟨[97], 1, 17, false, false, 0⟩]⟩] 0)) [(10 : UInt8), (2 : UInt8), (10 : UInt8), (0 : UInt8)] (spl 0 [(10 : UInt8), (2 : UInt8), (10 : UInt8), (0 : UInt8)]) = none := (zaS.1 h).2
   rw [s1, hsome _ _ [(10 : UInt8), (0 : UInt8)] 0 2 4 (by decide), f0] at h'
   cases h'
 unfold zbf
 rw [zgZ hw 0 (by simp) 2 hf, sb, h2, itT (by rfl), zgZ hw 0 (by simp) 1 hf, sb, h1]
 rfl
theorem zgF (a0 : (List zr)) (a1 : Int) (a2 : (List UInt8)) (a3 : (List UInt8)) (a4 : Int) (w0 : a0.length * 40 ≤ 140737488351232 ∧ ∀ a0' ∈ a0, zdh a0') (_w1 : (Lit.int .i64 a1).wf = true) (w2 : a2.length * 1 ≤ 140737488351232 ∧ ∀ a2' ∈ a2, True) (w3 : a3.length * 1 ≤ 140737488351232 ∧ ∀ a3' ∈ a3, True) (_w4 : (Lit.int .i64 a4).wf = true) : ∃ fuel, zaA fuel a0 a1 a2 a3 a4 = some true := by
 have hw := zsG w0
 refine ⟨130, ?_⟩
 unfold zaA
 rw [zor (Nat.le_refl _), sb, itF (by rfl)]
 obtain ⟨f, hf⟩ := zta hw
 rw [hf, sb, zX (x := (a2.length : Int) + a3.length) (by omega)]
 by_cases hl : f = false ∨ 1500 < a2.length + a3.length
 ·rw [itT (by
   rcases hl with h | h
   ·simp [h]
   ·rw [Bool.or_eq_true]; exact .inr (decide_eq_true (by omega)))]
 ·have hb2 : a2.length ≤ 1048576 := by omega
  have hb3 : a3.length ≤ 1048576 := by omega
  have hb : (a2 ++ a3).length ≤ 1048576 := by simp; omega
  have hF : (!f || decide ((a2.length : Int) + a3.length > 1500)) = false := by
   rw [Bool.or_eq_false_iff]; exact ⟨by cases f <;> simp_all, decide_eq_false (by omega)⟩
  rw [itF hF, zpZ (by simp; omega), sb, zpZ (by simp; omega), sb, List.nil_append, zgZ hw a1 hb2 _ (Nat.le_refl _), sb, zgZ hw a1 hb3 _ (Nat.le_refl _), sb, zgZ hw a1 hb _ (Nat.le_refl _), sb]
  cases hx : is11 a0 a1 a2 a4 with
  | false =>
   cases hy : is11 a0 a1 a3 a4 with
   | false => cases is11 a0 a1 (a2 ++ a3) a4 <;> rfl
   | true =>
    cases hz : is11 a0 a1 (a2 ++ a3) a4 with
    | false => rfl
    | true =>
     have hne : ((a2.length : Int) == 0) = false := by
      cases h : ((a2.length : Int) == 0) with
      | false => rfl
      | true =>
       have : a2 = [] := List.eq_nil_of_length_eq_zero (by simpa using h)
       subst this
       have := (zaS.1 hy)
       have h2 : is11 a0 a1 [] a4 = true := zaS.2 ⟨this.1, zjA a0 _ _ (z := a3) (by rw [zdl]) this.2⟩
       rw [hx] at h2; cases h2
     simp [hne]
  | true =>
   have hz : is11 a0 a1 (a2 ++ a3) a4 = is11 a0 a1 a3 a4 := zek a3 hx
   have ha := zhN (zaS.1 hx).1
   have hmore : (if (decide (a4 < 64)) then (zaD 130 a0 a1 a2 (IntKind.i64.wrap (a4 + 1)) >>= fun rv => some (!rv)) else some false) = some false := by
    by_cases h : a4 < 64
    ·rw [itT (by simpa using h), zX (by omega), zgZ hw a1 hb2 _ (Nat.le_refl _), sb, zhU hx (by omega) (by omega)]
     rfl
    ·rw [itF (by simpa using h)]
   rw [hz]
   cases hy : is11 a0 a1 a3 a4 with
   | false =>
    simp only [hmore, if_true, Bool.not_true, Bool.not_false, Bool.false_eq_true, if_false, beq_self_eq_true]
    rfl
   | true =>
    have x64 := zhU hx ha.2.2.2.2 (Int.le_refl 64)
    have y64 := zhU hy ha.2.2.2.2 (Int.le_refl 64)
    obtain ⟨z64, hmx⟩ := zlL x64 y64
    rw [hy] at hz
    obtain ⟨e, he⟩ : ∃ e : Nat, a4 = e := ⟨a4.toNat, by omega⟩
    have l1 := zcZ (s := a0) (root := a1) (b := a2)
    have l2 := zcZ (s := a0) (root := a1) (b := a3)
    have hle : zax a0 a1 (a2 ++ a3) ≤ e := (zbT z64 (by omega)).1 (by rw [← he]; exact hz)
    simp only [hmore, if_true, Bool.not_true, Bool.false_eq_true, if_false, beq_self_eq_true, sb, Bool.or_self]
    rw [zis hw a1 hb2 (Nat.le_refl _), sb, zis hw a1 hb3 (Nat.le_refl _), sb, zis hw a1 hb (Nat.le_refl _), sb, zju x64, zju y64, zju z64]
    simp only
    have hm2 : (if ((zax a0 a1 a2 : Nat) : Int) < ((zax a0 a1 a3 : Nat) : Int) then ((zax a0 a1 a3 : Nat) : Int) else ((zax a0 a1 a2 : Nat) : Int)) = ((zax a0 a1 (a2 ++ a3) : Nat) : Int) := by
     rw [hmx]; split <;> omega
    rw [itT (by decide), hm2, itT (by simp), itT (decide_eq_true (by omega))]
    by_cases h0 : zax a0 a1 (a2 ++ a3) = 0
    ·rw [h0, itT (by rfl), sb]
    ·obtain ⟨n, hn⟩ : ∃ n, zax a0 a1 (a2 ++ a3) = n + 1 := ⟨zax a0 a1 (a2 ++ a3) - 1, by omega⟩
     have hno : is11 a0 a1 (a2 ++ a3) (n : Nat) = false := by
      cases h : is11 a0 a1 (a2 ++ a3) (n : Nat) with
      | false => rfl
      | true => have := (zbT z64 (by omega)).1 h; omega
     rw [hn, itF (by simp; omega), zX (by omega), show (((n + 1 : Nat) : Int) - 1) = (n : Int) by omega, zgZ hw a1 hb _ (Nat.le_refl _), sb, hno]
     rfl
end Go.Proofs.Ytnfembipjdohcaa
