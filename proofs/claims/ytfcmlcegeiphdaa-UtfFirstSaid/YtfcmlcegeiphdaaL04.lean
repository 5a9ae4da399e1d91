/-
  The laws of layer 4 (utf), as plain functions: always true. No condition.
-/
import Derived.Test.YtfcmlcegeiphdaaQ04
import Derived.Test.YtfcmlcegeiphdaaP02
import Derived.Test.YtfcmlcegeiphdaaO
namespace Go.Proofs.Ytfcmlcegeiphdaa
open Go

theorem alive04_is : darninglaw04_alive = some true := by
  unfold darninglaw04_alive
  rw [ufirst_is (by simp), sb, itT (by decide +kernel), ufirst_is (by simp), sb, itT (by decide +kernel), uright_is (by simp), sb, sb]
  decide +kernel
theorem UtfFirst_true (a0 : (List UInt8)) (_w0 : a0.length * 1 ≤ 140737488351232 ∧ ∀ a0' ∈ a0, True) : darninglaw04_UtfFirst a0 = some true := by
  unfold darninglaw04_UtfFirst
  rw [alive04_is, sb, itF (by rfl)]
  by_cases hlen : a0.length ≤ 2000
  · rw [itF (by simp; omega), reffirst_is (by omega), sb, ufirst_is (by omega), sb]
    have e : fst4 (a0.length : Int) a0 = pre4 a0 := rfl
    rw [e, itT (by simp), ucount_is (by omega), sb, itT (by simp), uright_is (by omega), sb, sb]
    unfold right4
    rw [beq_nat]; simp
  · rw [itT (by simp; omega)]
theorem UtfCuts_true (a0 : (List UInt8)) (a1 : Int) (_w0 : a0.length * 1 ≤ 140737488351232 ∧ ∀ a0' ∈ a0, True) (_w1 : (Lit.int .i64 a1).wf = true) : darninglaw04_UtfCuts a0 a1 = some true := by
  unfold darninglaw04_UtfCuts
  rw [alive04_is, sb, itF (by rfl)]
  by_cases hlen : a0.length ≤ 2000
  · have := fst4_le a1 a0
    rw [itF (by simp; omega), reffirst_is (by omega), sb, ucut_is (by omega), sb, cut_take rfl this.1, sb, same_bytes, sb]
    simp [cut4]
  · rw [itT (by simp; omega)]
theorem cut4_right (n : Int) (l : List UInt8) : right4 (cut4 n l) = true ∧ ((cut4 n l).length : Int) ≤ (if n < 0 then 0 else n) := by
  have h := pre4_take n l
  have h2 := fst4_le n l
  unfold right4 cut4
  rw [h, List.length_take]
  constructor
  · simp; omega
  · split <;> omega
theorem UtfTogether_true (a0 : (List UInt8)) (a1 : (List UInt8)) (a2 : Int) (a3 : Int) (_w0 : a0.length * 1 ≤ 140737488351232 ∧ ∀ a0' ∈ a0, True) (_w1 : a1.length * 1 ≤ 140737488351232 ∧ ∀ a1' ∈ a1, True) (_w2 : (Lit.int .i64 a2).wf = true) (_w3 : (Lit.int .i64 a3).wf = true) : darninglaw04_UtfTogether a0 a1 a2 a3 = some true := by
  unfold darninglaw04_UtfTogether
  rw [alive04_is, sb, itF (by rfl), wrap_i64 (by omega)]
  by_cases hlen : a0.length + a1.length ≤ 2000
  · obtain ⟨r1, r2⟩ := cut4_right a3 a0
    have hcl : (cut4 a3 a0).length ≤ a0.length := by unfold cut4; rw [List.length_take]; omega
    rw [itF (by simp; omega), ucut_is (by omega), sb, uright_is (by omega), sb, itF (by rw [r1]; simpa using r2), refcp_is, sb]
    have hg : ∀ p : List UInt8, (p = [] ∨ ∃ r, p = cpB r ∧ cpB r ≠ []) → (if (decide ((p.length : Int) > 0)) then (utf_Right p >>= fun rv6 => if (!rv6) then some true else (utf_Count p >>= fun rv7 => if (rv7 != 1) then some true else (utf_Cut p (IntKind.i64.wrap ((p.length : Int) - 1)) >>= fun rv8 => some ((rv8.length : Int) != 0)))) else some false) = some false := by
      intro p hp
      rcases hp with rfl | ⟨r, rfl, hr⟩
      · rfl
      · obtain ⟨c1, c2⟩ := cp_pre r hr
        obtain ⟨c3, c4⟩ := cp_nxt r hr
        have h4 := nxt_le4 (cpB r)
        have e : right4 (cpB r) = true := by unfold right4; rw [c1]; simp
        rw [itT (by simp; omega), uright_is (by omega), sb, e, itF (by rfl), ucount_is (by omega), sb, c1, itF (by rfl), wrap_i64 (by omega), ucut_is (by omega), sb]
        unfold cut4
        rw [c2]; rfl
    rw [hg _ (by
      by_cases h : a2 < 0
      · exact .inl (if_pos h)
      · rw [if_neg h]
        by_cases h2 : cpB a2.toNat = []
        · exact .inl h2
        · exact .inr ⟨_, rfl, h2⟩), sb, itF (by rfl), app_of (by simp; omega), sb, List.nil_append, app_of (by simp; omega), sb,
      uright_is (b := a0) (by omega), sb, uright_is (b := a1) (by omega), uright_is (b := a0 ++ a1) (by simp; omega),
      ucount_is (b := a0) (by omega), ucount_is (b := a1) (by omega), ucount_is (b := a0 ++ a1) (by simp; omega)]
    cases hr : right4 a0
    · rfl
    · have hap := right4_append a0 a1 hr
      rw [hap]
      have h2 : (pre4 a0).1 = a0.length := by simpa [right4] using hr
      have hc := pre4_append a1 a0 h2
      have g0 := (pre4_le a0)
      have g1 := (pre4_le a1)
      cases hr1 : right4 a1
      · rfl
      · simp only [sb]
        rw [hc, wrap_i64 (by omega)]
        simp
  · rw [itT (by simp; omega)]
end Go.Proofs.Ytfcmlcegeiphdaa
