/-
  The law VarintPuts as a plain function: always true. No condition.
-/
import Derived.Test.YtnpfdmlfeealgaaPVarint
namespace Go.Proofs.Ytnpfdmlfeealgaa
open Go

theorem VarintPuts_true (a0 : (List UInt8)) (a1 : Int) (_w0 : a0.length ≤ maxLen ∧ ∀ a0' ∈ a0, True) (w1 : (Lit.int .u64 a1).wf = true) : ∃ fuel, darninglaw02_VarintPuts fuel a0 a1 = some true := by
  obtain ⟨h0, h1⟩ := bd_u64 w1
  obtain ⟨v, rfl⟩ : ∃ v : Nat, a1 = v := ⟨a1.toNat, by omega⟩
  have hv : v < 18446744073709551616 := by omega
  have hen := (enc_le hv).2
  refine ⟨10, ?_⟩
  unfold darninglaw02_VarintPuts
  rw [alive_is, sb, itF (by rfl)]
  by_cases hlen : a0.length ≤ 2000
  · rw [itF (by simp; omega), app_of (by simp; omega), sb, List.nil_append, put_is _ hv (by omega), sb, app_of (by simp; omega), sb, refput_u64 hv, sb, List.nil_append, app_of (by simp; omega), sb, same_bytes, sb, itT (by simp), same_bytes, sb, sb]
    simp
  · rw [itT (by simp; omega)]
end Go.Proofs.Ytnpfdmlfeealgaa
