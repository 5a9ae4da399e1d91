/-
  The laws as plain functions. No condition.
-/
import Derived.Test.YtceeeodooljgpaaP1
import Derived.Test.YtceeeodooljgpaaO
namespace Go.Proofs.Ytceeeodooljgpaa
open Go
set_option linter.unusedVariables false
theorem sRead_code (k : Int) (b : List UInt8) : (sRead k b).2 = 0 ∨ (sRead k b).2 = 2 ∨ (sRead k b).2 = 12 := by
  unfold sRead; split
  · simp
  · split <;> simp
theorem sRead_bd (k : Int) (b : List UInt8) : 0 ≤ (sRead k b).1 ∧ (sRead k b).1 ≤ 18446744073709551615 := by
  unfold sRead; split
  · simp
  · split
    · simp
    · exact canon_bd k (rawW_bd k)
theorem salive_is : darninglaw08_alive = some true := by
  have h : sRead 1 [(255 : UInt8), (255 : UInt8), (255 : UInt8), (255 : UInt8), (15 : UInt8)] = (18446744073709551615, 0) := by decide
  have h2 : (sPut 1 18446744073709551615).length = 10 := by
    have : canonS 1 18446744073709551615 = 18446744073709551615 := by decide
    unfold sPut
    rw [this]
    show (enc (18446744073709551615 : Int).toNat).length = 10
    rw [enc_len]
    show lenN 18446744073709551615 = 10
    simp [lenN]
  unfold darninglaw08_alive
  rw [sread_is, sb, h, sput_is (by decide), sb]
  simp [show kNum 1 = true from rfl, h2, wrap_i64]
theorem ScalarReads_true (a0 : Int) (a1 : (List UInt8)) (_w0 : (Lit.int .i64 a0).wf = true) (w1 : a1.length * 1 ≤ 140737488351232 ∧ ∀ a1' ∈ a1, True) : ∃ fuel, darninglaw08_ScalarReads fuel a0 a1 = some true := by
  refine ⟨10, ?_⟩
  unfold darninglaw08_ScalarReads
  rw [salive_is, sb, itF (by rfl)]
  by_cases hl : 1000 < a1.length
  · rw [itT (by simp; omega)]
  · rw [itF (by simp; omega), sread_is, sb, refSRead_is a0 (by omega), sb]
    have hb := sRead_bd a0 a1
    have e : (if ((sRead a0 a1).2 == 0) = true then darningref08_Put 10 a0 (sRead a0 a1).1 >>= fun rv4 => darningref01_Same rv4 a1 >>= fun rv5 => some rv5 else some false) = some (sCanon a0 a1) := by
      unfold sCanon
      by_cases h0 : (sRead a0 a1).2 = 0
      · rw [itT (by simpa using h0), refSPut_is hb, sb, same_bytes, sb]
        simp [h0, Bool.beq_eq_decide_eq]
      · rw [itF (by simpa using h0)]
        simp [h0]
    rw [e, sb, itT (by simp), itT (by
      rcases sRead_code a0 a1 with h | h | h <;> simp [h, wrap_i64]), scanon_is a0 a1 (by omega), sb, sb]
    simp
theorem ScalarPuts_true (a0 : Int) (a1 : Int) (_w0 : (Lit.int .i64 a0).wf = true) (w1 : (Lit.int .u64 a1).wf = true) : ∃ fuel, darninglaw08_ScalarPuts fuel a0 a1 = some true := by
  have hw : 0 ≤ a1 ∧ a1 ≤ 18446744073709551615 := bd_u64 w1
  refine ⟨10, ?_⟩
  unfold darninglaw08_ScalarPuts
  rw [salive_is, sb, itF (by rfl), sput_is hw, sb, refKNum_is, sb, ssize_is hw]
  cases hn : kNum a0 with
  | false => rfl
  | true =>
    simp only [if_true]
    rw [itF (by rfl), refSPut_is hw, sb, itT (by rfl), same_bytes, sb, itT (by simp), sb, sb]
    simp
theorem ScalarSame_true (a0 : Int) (a1 : Int) (a2 : Int) (a3 : (List UInt8)) (a4 : (List UInt8)) (_w0 : (Lit.int .i64 a0).wf = true) (w1 : (Lit.int .u64 a1).wf = true) (w2 : (Lit.int .u64 a2).wf = true) (w3 : a3.length * 1 ≤ 140737488351232 ∧ ∀ a3' ∈ a3, True) (w4 : a4.length * 1 ≤ 140737488351232 ∧ ∀ a4' ∈ a4, True) : darninglaw08_ScalarSame a0 a1 a2 a3 a4 = some true := by
  have hv : 0 ≤ a1 ∧ a1 ≤ 18446744073709551615 := bd_u64 w1
  have hw : 0 ≤ a2 ∧ a2 ≤ 18446744073709551615 := bd_u64 w2
  unfold darninglaw08_ScalarSame
  rw [salive_is, sb, itF (by rfl)]
  by_cases hl : (1000 : Int) < IntKind.i64.wrap ((a3.length : Int) + (a4.length : Int))
  · rw [itT (by simpa using hl)]
  · rw [itF (by simpa using hl), sread_is, sb, sread_is, sb, ssame_is, sb]
    have hc3 := sRead_code a0 a3
    have hc4 := sRead_code a0 a4
    have e1 : IntKind.i64.wrap (sRead a0 a3).2 = (sRead a0 a3).2 := wrap_i64 (by omega)
    have e2 : IntKind.i64.wrap (sRead a0 a4).2 = (sRead a0 a4).2 := wrap_i64 (by omega)
    rw [e1, e2, itF (by
      by_cases h3 : (sRead a0 a3).2 = 0
      · by_cases h4 : (sRead a0 a4).2 = 0
        · simp [h3, h4, Bool.beq_eq_decide_eq]
        · simp [h3, h4]
      · simp [h3]), sput_is hv, sb, sput_is hw, sb]
    cases hn : kNum a0 with
    | false => rfl
    | true =>
      simp only [if_true]
      have h1 := sPut_len (k := a0) hv
      have hc1 : sCanon a0 (sPut a0 a1) = true := by
        unfold sCanon
        rw [sRead_sPut hn hv]
        exact decide_eq_true ⟨rfl, sPut_canon hv⟩
      rw [itF (by rfl), sread_is, sb, sread_is, sb, sRead_sPut hn hv, sRead_sPut hn hw, itT (by rfl), itT (by rfl), same_bytes, sb]
      have e3 : ((sPut a0 a1 == sPut a0 a2) == (canonS a0 a1 == canonS a0 a2)) = true := by
        by_cases h : canonS a0 a1 = canonS a0 a2
        · have := (sPut_inj hn hv hw).2 h
          simp [h, this]
        · have h' : ¬ sPut a0 a1 = sPut a0 a2 := fun e => h ((sPut_inj hn hv hw).1 e)
          have b1 : (sPut a0 a1 == sPut a0 a2) = false := by simpa using h'
          have b2 : (canonS a0 a1 == canonS a0 a2) = false := by simpa using h
          rw [b1, b2]; rfl
      rw [itT e3, scanon_is a0 _ (by omega), sb, hc1, itT (by rfl), ssame_is, sb, itT (by simp [sRead_sPut hn hv]), refCanon_is a0 hv, sb, sb]
      simp
end Go.Proofs.Ytceeeodooljgpaa
