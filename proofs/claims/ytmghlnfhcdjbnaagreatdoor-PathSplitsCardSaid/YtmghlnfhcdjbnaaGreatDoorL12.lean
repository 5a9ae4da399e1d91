/-
  The laws as plain functions. No condition.
-/
import Derived.Test.YtmghlnfhcdjbnaaGreatDoorP1
import Derived.Test.YtmghlnfhcdjbnaaGreatDoorO
namespace Go.Proofs.YtmghlnfhcdjbnaaGreatDoor
open Go
set_option linter.unusedVariables false
theorem zli {p : List UInt8} (h : (zy p).2 = false) : (zy p).1 = [] := by
 unfold zy at h ⊢
 split
 ·rename_i h1; rw [if_pos h1] at h; cases h
 ·rfl
theorem zlh (p : List UInt8) : (zy p).1.length ≤ 65 := by
 unfold zy
 split
 ·rename_i h1; simp only [Bool.and_eq_true, decide_eq_true_eq] at h1; exact h1.2
 ·simp
theorem zlj (p : List UInt8) : ∀ x ∈ (zy p).1, x.length ≤ p.length := by
 unfold zy
 split
 ·exact zjF p
 ·intro x hx; cases hx
theorem zkM {l : List (List UInt8)} {m : Nat} (h : ∀ x ∈ l, x.length ≤ m) : (zbQ l).length ≤ l.length * (m + 1) := by
 have key : ∀ (l : List (List UInt8)) (out : List UInt8) (f : Bool), (∀ x ∈ l, x.length ≤ m) → (zdD out f l).length ≤ out.length + l.length * (m + 1) := by
  intro l
  induction l with
  | nil => intro out f _; simp [zdD]
  | cons x l ih =>
   intro out f hx
   have h1 := hx x List.mem_cons_self
   have h2 := ih ((if f then out else out ++ [46]) ++ x) false (fun y hy => hx y (List.mem_cons_of_mem _ hy))
   have h3 : (zdD out f (x :: l)) = zdD ((if f then out else out ++ [46]) ++ x) false l := by cases f <;> simp [zdD]
   rw [h3]
   have h4 : ((if f then out else out ++ [46]) ++ x).length ≤ out.length + (m + 1) := by
    cases f <;> simp <;> omega
   simp only [List.length_cons, Nat.succ_mul]
   omega
 have := key l [] true h
 rw [zkL] at this
 simpa using this
theorem zmd {x : List UInt8} (h : zV x = true) : x.length ≤ 60 := by
 unfold zV at h
 simp only [Bool.and_eq_true, decide_eq_true_eq] at h
 exact h.2.2
theorem ziV {l : List (List UInt8)} (h : zcI l = true) : l.length ≤ 65 ∧ ∀ x ∈ l, x.length ≤ 60 := by
 unfold zcI at h
 simp only [Bool.and_eq_true, decide_eq_true_eq, List.all_eq_true] at h
 exact ⟨h.2.2, fun x hx => zmd (h.1 x hx)⟩
theorem zhz (a0 : List UInt8) (a1 : List (List UInt8)) (w0 : a0.length ≤ 140737488351232) (w1 : a1.length * 16 ≤ 140737488351232 ∧ ∀ a1' ∈ a1, a1'.length ≤ 140737488351232) : zbd a0 a1 = some true := by
 unfold zbd
 rw [znj, sb, itF (by rfl)]
 by_cases hl : 6000 < a0.length
 ·rw [itT (by simp; omega), sb, itT (by rfl)]
 ·obtain ⟨b, hb⟩ := zpx (l := a1) (by omega)
  have hp : a0.length ≤ 6000 := by omega
  rw [itF (by simp; omega), hb, sb, sb]
  cases b with
  | true => rfl
  | false =>
   have hlen := zlh a0
   have hsub := zlj a0
   rw [itF (by rfl), zjA (by omega), sb, ziX (by omega), sb, zoy w1.1 w1.2, sb, zmj (by omega), sb]
   have hs1 : (if (zy a0).2 = true then ((zy a0).1, (0 : Int)) else ([], 12)).1 = (zy a0).1 := by
    cases h : (zy a0).2 with
    | true => rfl
    | false => rw [zli h]; rfl
   rw [hs1, zkd (by omega), sb, itF (by simp), zdK (by omega), sb, itF (by simp)]
   have hg : (if (zy a0).2 = true then (if ((IntKind.i64.wrap (if (zy a0).2 = true then ((zy a0).1, (0 : Int)) else ([], 12)).2) != 0) = true then some true else (if (!(zy a0).2) = true then some ((IntKind.i64.wrap (if (zy a0).2 = true then ((zy a0).1, (0 : Int)) else ([], 12)).2) != 12) else some false)) else (if (!(zy a0).2) = true then some ((IntKind.i64.wrap (if (zy a0).2 = true then ((zy a0).1, (0 : Int)) else ([], 12)).2) != 12) else some false)) = some false := by
    cases h : (zy a0).2 <;> rfl
   rw [hg, sb, itF (by rfl)]
   have hup : ((if (decide (((zy a0).1.length : Int) > 1)) = true then (cut (zy a0).1 0 (IntKind.i64.wrap (((zy a0).1.length : Int) - 1)) >>= fun v3 => zaF v3 >>= fun rv9 => some rv9) else some []) : Option (List UInt8)) = some (if 1 < (zy a0).1.length then zbQ (zy a0).1.dropLast else []) := by
    by_cases h1 : 1 < (zy a0).1.length
    ·rw [itT (by simp; omega), if_pos h1, zaB (by omega), zhW (i := 0) (a := 0) (b := (zy a0).1.length - 1) rfl (by omega) (by omega) (by omega), sb, List.drop_zero, Nat.sub_zero, ← List.dropLast_eq_take]
     have hd : ∀ x ∈ (zy a0).1.dropLast, x.length ≤ 6000 := fun x hx => by have := hsub x (List.dropLast_subset _ hx); omega
     have hj := zkM hd
     have hdl : (zy a0).1.dropLast.length ≤ 65 := by rw [List.length_dropLast]; omega
     rw [zgQ (by omega) (by
      have : (zy a0).1.dropLast.length * 6001 ≤ 65 * 6001 := Nat.mul_le_mul_right _ hdl
      omega), sb]
    ·rw [itF (by simp; omega), if_neg h1]
   rw [hup, sb]
   have hpar : ((!((if 1 < (zy a0).1.length then (zbQ (zy a0).1.dropLast, true) else ([], false)).1 == (if 1 < (zy a0).1.length then zbQ (zy a0).1.dropLast else []))) || (!((if 1 < (zy a0).1.length then (zbQ (zy a0).1.dropLast, true) else ([], false)).2 == (decide (((zy a0).1.length : Int) > 1))))) = false := by
    by_cases h1 : 1 < (zy a0).1.length
    ·rw [if_pos h1, if_pos h1]
     simp; omega
    ·rw [if_neg h1, if_neg h1]
     simp; omega
   rw [itF hpar, ziW (by omega) (fun x hx => by have := w1.2 x hx; omega), sb]
   cases hn : zcI a1 with
   | false => rw [itT (by rfl)]; rfl
   | true =>
    obtain ⟨n1, n2⟩ := ziV hn
    have hj := zkM n2
    have : a1.length * 61 ≤ 65 * 61 := Nat.mul_le_mul_right _ n1
    rw [itF (by rfl)]
    simp only [if_true]
    rw [itT (by rfl), zgQ (by omega) (by omega), sb, sb]
    simp
end Go.Proofs.YtmghlnfhcdjbnaaGreatDoor
