/-
  The law VarintBack as a plain function: always true. No condition.
-/
import Derived.Test.YtnpfdmlfeealgaaPVarint
namespace Go.Proofs.Ytnpfdmlfeealgaa
open Go

theorem isMin_enc {v : Nat} (h : v < 18446744073709551616) : isMin (enc v) = true := by
  have := rd_enc [] h
  rw [List.append_nil] at this
  unfold isMin
  rw [this]
  simp
theorem VarintBack_true (a0 : Int) (a1 : (List UInt8)) (w0 : (Lit.int .u64 a0).wf = true) (_w1 : a1.length ≤ maxLen ∧ ∀ a1' ∈ a1, True) : darninglaw02_VarintBack a0 a1 = some true := by
  obtain ⟨h0, h1⟩ := bd_u64 w0
  obtain ⟨v, rfl⟩ : ∃ v : Nat, a0 = v := ⟨a0.toNat, by omega⟩
  have hv : v < 18446744073709551616 := by omega
  have hen := enc_le hv
  unfold darninglaw02_VarintBack
  rw [alive_is, sb, itF (by rfl)]
  by_cases hlen : a1.length ≤ 2000
  · have hp : varint_Put [] (v : Int) = some (enc v) := by rw [put_is _ hv (by simp)]; rfl
    rw [itF (by simp; omega), hp, sb, app_of (by simp; omega), sb, List.nil_append, app_of (by simp; omega), sb, read_is, sb, rd_enc _ hv, itF (by simp), itF (by simp), itF (by rfl), min_is _ (by omega), sb, isMin_enc hv, itF (by rfl), len_is hv, sb, ← enc_len, sb,
      itF (by simp), wrap_i64 (by omega), cut_take (b := (enc v).length - 1) (by omega) (by omega), sb, read_is, sb, rd_short hv]
    rfl
  · rw [itT (by simp; omega)]
end Go.Proofs.Ytnpfdmlfeealgaa
