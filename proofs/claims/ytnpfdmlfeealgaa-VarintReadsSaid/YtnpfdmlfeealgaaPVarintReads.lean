/-
  The law VarintReads as a plain function: always true. No condition.
-/
import Derived.Test.YtnpfdmlfeealgaaPVarint
namespace Go.Proofs.Ytnpfdmlfeealgaa
open Go

theorem VarintReads_true (a0 : (List UInt8)) (_w0 : a0.length ≤ maxLen ∧ ∀ a0' ∈ a0, True) : ∃ fuel, darninglaw02_VarintReads fuel a0 = some true := by
  refine ⟨10, ?_⟩
  unfold darninglaw02_VarintReads
  rw [alive_is, sb, itF (by rfl)]
  by_cases hlen : a0.length ≤ 2000
  · rw [itF (by simp; omega), read_is, sb]
    have href : darningref02_Read a0 0 = some (rd a0) := ref_is a0 0 (by omega) (Nat.zero_le _)
    obtain ⟨r, hr1, hr2, hr3, hr4, hr5⟩ := all_both a0 (by omega)
    rw [href, sb, skip_is, sb, hr1, sb, hr2, sb]
    have hg : (if ((rd a0).2.2 == 0) = true then (if ((rd a0).2.1 == (a0.length : Int)) = true then (darningref02_Put 10 (rd a0).1 >>= fun rv7 => darningref01_Same a0 rv7 >>= fun rv8 => some rv8) else some false) else some false) = some (isMin a0) := by
      unfold isMin
      rcases rd_cases a0 with h | ⟨h, _⟩ | ⟨x, c, y, e, hx, hc, hl, hv, h⟩
      · rw [h]; rfl
      · rw [h]; rfl
      · rw [h, itT (by rfl)]
        simp only [Int.toNat_natCast, true_and]
        by_cases hn : ((x.length + 1 : Nat) : Int) = (a0.length : Int)
        · rw [itT (by simpa using hn), refput_u64 hv, sb, same_bytes, sb]
          simp [hn]
        · rw [itF (by simpa using hn), decide_eq_false hn, Bool.false_and]
    have hc : IntKind.i64.wrap (rd a0).2.2 = (rd a0).2.2 := by
      rcases rd_cases a0 with h | ⟨h, _⟩ | ⟨x, c, y, e, hx, hc, hl, hv, h⟩ <;> rw [h] <;> rfl
    rw [hg, sb, itT (by simp), itT (by simp), hc, itT (by simp), itT (by simp), itT (by simp), wrap_i64 (by omega), itT (by simp), same_is _ _ (by omega), sb, itT (by simp), min_is _ (by omega), sb, sb]
    simp
  · rw [itT (by simp; omega)]
end Go.Proofs.Ytnpfdmlfeealgaa
