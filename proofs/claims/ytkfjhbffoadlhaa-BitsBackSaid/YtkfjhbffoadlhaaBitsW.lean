/-
  What the Go functions on numbers of package bits and of the document's answers for layer 1 return, at every number; the world is left as it was. No condition but that a number fits its kind.
-/
import Derived.Test.YtkfjhbffoadlhaaProg
import Derived.Test.YtkfjhbffoadlhaaBitsM
import Derived.WalkKit
import Derived.Lib.Hide
namespace Go.Proofs.Ytkfjhbffoadlhaa
open Go.RowKit

theorem ret_int {k : IntKind} {a b : Int} (h : a = b) : Ending.returned (.int k a) = .returned (.int k b) := by rw [h]
theorem ret_bool {a b : Bool} (h : a = b) : Ending.returned (.bool a) = .returned (.bool b) := by rw [h]

theorem low32_any (x : Int) (w : World) (h : 0 ≤ x ∧ x ≤ 18446744073709551615) : Calls Try.prog 7 #[.int .u64 x] w fun e w' => e = .returned (.int .u32 (x % 4294967296)) ∧ w = w' := by
  obtain ⟨h0, h1⟩ := h
  go_enter Try.func7, Try.ntmps7
  go_wp2
  go_ret
  exact ⟨rfl, rfl⟩
theorem sign32_any (x : Int) (w : World) (h : 0 ≤ x ∧ x ≤ 18446744073709551615) : Calls Try.prog 8 #[.int .u64 x] w fun e w' => e = .returned (.int .i32 (sgnS x)) ∧ w = w' := by
  obtain ⟨h0, h1⟩ := h
  go_enter Try.func8, Try.ntmps8
  go_wp2_with (go_at_call 7; refine (low32_any _ _ (by omega)).mono ?_; rintro e w' ⟨rfl, rfl⟩)
  go_ret
  exact ⟨ret_int (by unfold wrap32 sgnS; split <;> omega), rfl⟩
theorem rsign32_any (x : Int) (w : World) (h : 0 ≤ x ∧ x ≤ 18446744073709551615) : Calls Try.prog 9 #[.int .u64 x] w fun e w' => e = .returned (.int .i64 (sgnS x)) ∧ w = w' := by
  obtain ⟨h0, h1⟩ := h
  by_cases hx : x % 4294967296 < 2147483648
  all_goals
    go_enter Try.func9, Try.ntmps9
    go_wp2
    go_ret
    exact ⟨ret_int (by unfold sgnS; split <;> omega), rfl⟩
theorem wide32_any (x : Int) (w : World) (h : -2147483648 ≤ x ∧ x ≤ 2147483647) : Calls Try.prog 10 #[.int .i32 x] w fun e w' => e = .returned (.int .u64 (wideS x)) ∧ w = w' := by
  obtain ⟨h0, h1⟩ := h
  go_enter Try.func10, Try.ntmps10
  go_wp2
  go_ret
  exact ⟨ret_int (by unfold wideS; rw [IntKind.wrap_u64]; split <;> omega), rfl⟩
theorem rwide_any (x : Int) (w : World) (h : -9223372036854775808 ≤ x ∧ x ≤ 9223372036854775807) : Calls Try.prog 11 #[.int .i64 x] w fun e w' => e = .returned (.int .u64 (wideS x)) ∧ w = w' := by
  obtain ⟨h0, h1⟩ := h
  by_cases hx : 0 ≤ x
  all_goals
    go_enter Try.func11, Try.ntmps11
    go_wp2
    go_ret
    exact ⟨ret_int (by unfold wideS; first | (rw [IntKind.wrap_u64]; split <;> omega) | (split <;> omega)), rfl⟩
theorem zig_any (x : Int) (w : World) (h : -9223372036854775808 ≤ x ∧ x ≤ 9223372036854775807) : Calls Try.prog 12 #[.int .i64 x] w fun e w' => e = .returned (.int .u64 (zigS x)) ∧ w = w' := by
  have hz := Lib.hid (zig_bits h)
  obtain ⟨h0, h1⟩ := h
  go_enter Try.func12, Try.ntmps12
  go_wp2
  go_ret
  exact ⟨ret_int hz.out, rfl⟩
theorem rzig_any (x : Int) (w : World) (h : -9223372036854775808 ≤ x ∧ x ≤ 9223372036854775807) : Calls Try.prog 13 #[.int .i64 x] w fun e w' => e = .returned (.int .u64 (zigS x)) ∧ w = w' := by
  obtain ⟨h0, h1⟩ := h
  by_cases hx : 0 ≤ x
  all_goals
    go_enter Try.func13, Try.ntmps13
    go_wp2
    go_ret
    exact ⟨ret_int (by unfold zigS; first | (split <;> omega) | (simp only [IntKind.wrap_u64]; split <;> omega)), rfl⟩
theorem zag_any (x : Int) (w : World) (h : 0 ≤ x ∧ x ≤ 18446744073709551615) : Calls Try.prog 14 #[.int .u64 x] w fun e w' => e = .returned (.int .i64 (zagS x)) ∧ w = w' := by
  have hz := Lib.hid (zag_bits h)
  obtain ⟨h0, h1⟩ := h
  go_enter Try.func14, Try.ntmps14
  go_wp2
  go_ret
  exact ⟨ret_int hz.out, rfl⟩
theorem rzag_any (x : Int) (w : World) (h : 0 ≤ x ∧ x ≤ 18446744073709551615) : Calls Try.prog 15 #[.int .u64 x] w fun e w' => e = .returned (.int .i64 (zagS x)) ∧ w = w' := by
  obtain ⟨h0, h1⟩ := h
  by_cases hx : x % 2 = 0
  · have hb : (x % 2 == 1) = false := by simp; omega
    have H := Lib.hid hx
    clear hx
    go_enter Try.func15, Try.ntmps15
    go_wp2
    go_ret
    have := H.out
    exact ⟨ret_int (by unfold zagS; split <;> omega), rfl⟩
  · have hb : (x % 2 == 1) = true := by simp; omega
    have H := Lib.hid hx
    clear hx
    go_enter Try.func15, Try.ntmps15
    go_wp2
    go_ret
    have := H.out
    exact ⟨ret_int (by unfold zagS; split <;> omega), rfl⟩
theorem zag32_any (x : Int) (w : World) (h : 0 ≤ x ∧ x ≤ 18446744073709551615) : Calls Try.prog 16 #[.int .u64 x] w fun e w' => e = .returned (.int .i32 (zagS (x % 4294967296))) ∧ w = w' := by
  have hz := Lib.hid (zag32_bits (x := x % 4294967296) (by omega))
  obtain ⟨h0, h1⟩ := h
  go_enter Try.func16, Try.ntmps16
  go_wp2_with (go_at_call 7; refine (low32_any _ _ (by omega)).mono ?_; rintro e w' ⟨rfl, rfl⟩)
  go_ret
  exact ⟨ret_int hz.out, rfl⟩

theorem len_any (x : Int) (w : World) (h : 0 ≤ x ∧ x ≤ 18446744073709551615) : Calls Try.prog 17 #[.int .u64 x] w fun e w' => e = .returned (.int .i64 (lenN x.toNat : Int)) ∧ w = w' := by
  obtain ⟨n, rfl⟩ := Int.eq_ofNat_of_zero_le h.1
  rw [Int.toNat_natCast]
  have hn : n < 18446744073709551616 := by omega
  clear h
  have hl := lenN_u64 hn
  have hp := lenN_pos n
  go_enter Try.func17, Try.ntmps17
  go_wp2_with fail
  go_loop [0, 3] (fun a b => ∃ m k : Nat, m < 18446744073709551616 ∧ 1 ≤ k ∧ k ≤ lenN n ∧ Hid (lenN n = k + lz m) ∧ a = .int .u64 m ∧ b = .int .i64 k) (fun a _ => (intOf a).toNat)
  case atStart =>
    exact ⟨n / 128, 1, by omega, by omega, by omega, Lib.hid (lz_div n), by simp, rfl⟩
  case round =>
    obtain ⟨m, k, hm, hk, hkl, H, rfl, rfl⟩ := hrel
    by_cases h0 : m = 0
    · have hb : ((m : Int) != 0) = false := by simp; omega
      subst h0
      go_wp2
      go_ret
      exact ⟨ret_int (by rw [H.out, lz_zero]; rfl), rfl⟩
    · have hb : ((m : Int) != 0) = true := by simp; omega
      have hkk : k + 1 ≤ lenN n := by have := H.out; rw [lz_pos h0] at this; omega
      have H0 := Lib.hid h0
      clear h0
      go_wp2
      go_round
      case rel =>
        exact ⟨m / 128, k + 1, by omega, by omega, hkk, Lib.hid (by have := H.out; rw [lz_pos H0.out] at this; omega), by go_num, by go_num⟩
      case measure => have := H0.out; simp [intOf]; omega
set_option maxRecDepth 100000 in
theorem rlen_any (x : Int) (w : World) (h : 0 ≤ x ∧ x ≤ 18446744073709551615) : Calls Try.prog 18 #[.int .u64 x] w fun e w' => e = .returned (.int .i64 (lenN x.toNat : Int)) ∧ w = w' := by
  obtain ⟨n, rfl⟩ := Int.eq_ofNat_of_zero_le h.1
  rw [Int.toNat_natCast]
  have hn : n < 18446744073709551616 := by omega
  clear h
  have hl := lenN_u64 hn
  have hp := lenN_pos n
  go_enter Try.func18, Try.ntmps18
  go_wp2_with fail
  go_loop [0, 3] (fun a b => ∃ m k : Nat, m < 18446744073709551616 ∧ 1 ≤ k ∧ k ≤ lenN n ∧ Hid (lenN n + 1 = k + lenN m) ∧ a = .int .u64 m ∧ b = .int .i64 k) (fun a _ => (intOf a).toNat)
  case atStart => exact ⟨n, 1, by omega, by omega, by omega, Lib.hid (by omega), by simp, rfl⟩
  case round =>
    obtain ⟨m, k, hm, hk, hkl, H, rfl, rfl⟩ := hrel
    by_cases h0 : m < 128
    · go_wp2
      go_ret
      exact ⟨ret_int (by have := H.out; rw [lenN_lt h0] at this; omega), rfl⟩
    · have hlm := lenN_pos (m / 128)
      have H1 := H.out
      rw [lenN_ge h0] at H1
      have hkk : k + 1 ≤ lenN n := by omega
      have H2 := Lib.hid H1
      clear H1
      go_wp2
      go_round
      case rel => exact ⟨m / 128, k + 1, by omega, by omega, hkk, Lib.hid (by have := H2.out; omega), by go_num, by go_num⟩
      case measure => simp [intOf]; omega
theorem bit_any (x i : Int) (w : World) (h : 0 ≤ x ∧ x ≤ 18446744073709551615) (hi : -9223372036854775808 ≤ i ∧ i ≤ 9223372036854775807) : Calls Try.prog 24 #[.int .u64 x, .int .i64 i] w fun e w' => e = .returned (.bool (bitS x.toNat i)) ∧ w = w' := by
  obtain ⟨n, rfl⟩ := Int.eq_ofNat_of_zero_le h.1
  rw [Int.toNat_natCast]
  have hn : n < 18446744073709551616 := by omega
  obtain ⟨i0, i1⟩ := hi
  clear h
  by_cases h0 : 0 ≤ i
  · by_cases h1 : i < 64
    · go_enter Try.func24, Try.ntmps24
      go_wp2
      go_ret
      exact ⟨ret_bool (by rw [bit_and n _ hn, bitS, if_pos ⟨h0, h1⟩]), rfl⟩
    · go_enter Try.func24, Try.ntmps24
      go_wp2
      go_ret
      exact ⟨ret_bool (by rw [bitS, if_neg (by omega)]), rfl⟩
  · go_enter Try.func24, Try.ntmps24
    go_wp2
    go_ret
    exact ⟨ret_bool (by rw [bitS, if_neg (by omega)]), rfl⟩
theorem rbit_any (x i : Int) (w : World) (h : 0 ≤ x ∧ x ≤ 18446744073709551615) (hi : -9223372036854775808 ≤ i ∧ i ≤ 9223372036854775807) : Calls Try.prog 25 #[.int .u64 x, .int .i64 i] w fun e w' => e = .returned (.bool (bitS x.toNat i)) ∧ w = w' := by
  obtain ⟨n, rfl⟩ := Int.eq_ofNat_of_zero_le h.1
  rw [Int.toNat_natCast]
  have hn : n < 18446744073709551616 := by omega
  obtain ⟨i0, i1⟩ := hi
  clear h
  by_cases h0 : i < 0
  · go_enter Try.func25, Try.ntmps25
    go_wp2
    go_ret
    exact ⟨ret_bool (by rw [bitS, if_neg (by omega)]), rfl⟩
  · by_cases h1 : 63 < i
    · go_enter Try.func25, Try.ntmps25
      go_wp2
      go_ret
      exact ⟨ret_bool (by rw [bitS, if_neg (by omega)]), rfl⟩
    · obtain ⟨j, rfl⟩ := Int.eq_ofNat_of_zero_le (show 0 ≤ i by omega)
      go_enter Try.func25, Try.ntmps25
      go_wp2
      go_loop [0, 1] (fun a b => ∃ m k : Nat, m < 18446744073709551616 ∧ k ≤ j ∧ Hid (n / 2 ^ j = m / 2 ^ k) ∧ a = .int .u64 m ∧ b = .int .i64 k) (fun _ b => (intOf b).toNat)
      case atStart => exact ⟨n, j, hn, by omega, Lib.hid rfl, rfl, rfl⟩
      case round =>
        obtain ⟨m, k, hm, hk, H, rfl, rfl⟩ := hrel
        by_cases hk0 : 0 < k
        · go_wp2
          go_round
          case rel => exact ⟨m / 2, k - 1, by omega, by omega, Lib.hid (by rw [H.out, Nat.div_div_eq_div_mul, ← Nat.pow_succ', show (k - 1).succ = k from by omega]), by go_num, by go_num⟩
          case measure => simp [intOf]; omega
        · have : k = 0 := by omega
          subst this
          go_wp2
          go_ret
          refine ⟨ret_bool ?_, rfl⟩
          have := H.out
          simp at this
          rw [bitS, if_pos (by omega), Int.toNat_natCast, this]
          rw [Bool.eq_iff_iff]
          simp
          omega
end Go.Proofs.Ytkfjhbffoadlhaa
