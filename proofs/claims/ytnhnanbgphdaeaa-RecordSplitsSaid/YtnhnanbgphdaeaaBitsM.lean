/-
  Plain facts on numbers, words, zigzags and bytes that the proofs on layer 1 (bits) use. No condition.
-/
import Derived.Laws.Bits64b
import Derived.IntWalk
import Derived.RowKit
namespace Go.Proofs.Ytnhnanbgphdaeaa
open Go.RowKit (wrap32 wrap64)

def zigS (x : Int) : Int := if 0 ≤ x then 2 * x else -2 * x - 1
def zagS (x : Int) : Int := if x % 2 = 0 then x / 2 else -(x / 2) - 1
def sgnS (x : Int) : Int := if x % 4294967296 < 2147483648 then x % 4294967296 else x % 4294967296 - 4294967296
def wideS (x : Int) : Int := if 0 ≤ x then x else x + 18446744073709551616
def lenN (n : Nat) : Nat := if n < 128 then 1 else lenN (n / 128) + 1
termination_by n
decreasing_by omega
def little : Nat → Nat → List UInt8
  | 0, _ => []
  | k + 1, w => UInt8.ofNat (w % 256) :: little k (w / 256)
def word : List UInt8 → Nat
  | [] => 0
  | c :: r => c.toNat + 256 * word r
def bitS (n : Nat) (i : Int) : Bool := if 0 ≤ i ∧ i < 64 then n / 2 ^ i.toNat % 2 == 1 else false

theorem zig_bd {x : Int} (h : -9223372036854775808 ≤ x ∧ x ≤ 9223372036854775807) : 0 ≤ zigS x ∧ zigS x ≤ 18446744073709551615 := by unfold zigS; split <;> omega
theorem zag_bd {x : Int} (h : 0 ≤ x ∧ x ≤ 18446744073709551615) : -9223372036854775808 ≤ zagS x ∧ zagS x ≤ 9223372036854775807 := by unfold zagS; split <;> omega
theorem zag_bd32 (x : Int) : -2147483648 ≤ zagS (x % 4294967296) ∧ zagS (x % 4294967296) ≤ 2147483647 := by unfold zagS; split <;> omega
theorem zag_zig (x : Int) : zagS (zigS x) = x := by unfold zagS zigS; split <;> split <;> omega
theorem zig_zag {x : Int} (h : 0 ≤ x) : zigS (zagS x) = x := by unfold zagS zigS; split <;> split <;> omega
theorem sgn_bd (x : Int) : -2147483648 ≤ sgnS x ∧ sgnS x ≤ 2147483647 := by unfold sgnS; split <;> omega
theorem wide_bd {x : Int} (h : -9223372036854775808 ≤ x ∧ x ≤ 9223372036854775807) : 0 ≤ wideS x ∧ wideS x ≤ 18446744073709551615 := by unfold wideS; split <;> omega
theorem sgn_wide {x : Int} (h : -2147483648 ≤ x ∧ x ≤ 2147483647) : sgnS (wideS x) = x := by unfold sgnS wideS; split <;> split <;> omega
theorem zag_zig32 {x : Int} (h : -2147483648 ≤ x ∧ x ≤ 2147483647) : zagS (zigS x % 4294967296) = x := by
  have : zigS x % 4294967296 = zigS x := by unfold zigS; split <;> omega
  rw [this, zag_zig]

theorem lenN_pos (n : Nat) : 1 ≤ lenN n := by unfold lenN; split <;> omega
theorem lenN_lt {n : Nat} (h : n < 128) : lenN n = 1 := by rw [lenN, if_pos h]
theorem lenN_ge {n : Nat} (h : ¬ n < 128) : lenN n = lenN (n / 128) + 1 := by rw [lenN, if_neg h]
theorem lenN_le : ∀ (k n : Nat), n < 128 ^ k → 0 < k → lenN n ≤ k := by
  intro k
  induction k with
  | zero => intro n _ h; omega
  | succ k ih =>
    intro n hn _
    by_cases h : n < 128
    · rw [lenN_lt h]; omega
    · rw [lenN_ge h]
      have h1 : n / 128 < 128 ^ k := by rw [Nat.pow_succ] at hn; exact Nat.div_lt_of_lt_mul (by omega)
      have h2 : 0 < k := by
        rcases Nat.eq_zero_or_pos k with rfl | h
        · simp at h1; omega
        · exact h
      have := ih _ h1 h2
      omega
theorem lenN_u64 {n : Nat} (h : n < 18446744073709551616) : lenN n ≤ 10 := lenN_le 10 n (by omega) (by omega)

def lz (m : Nat) : Nat := if m = 0 then 0 else lenN m
theorem lz_zero : lz 0 = 0 := rfl
theorem lz_pos {m : Nat} (h : m ≠ 0) : lz m = lz (m / 128) + 1 := by
  unfold lz
  rw [if_neg h]
  split
  · rw [lenN_lt (by omega)]
  · rw [lenN_ge (by omega)]
theorem lz_div (n : Nat) : lenN n = 1 + lz (n / 128) := by
  unfold lz
  split
  · rw [lenN_lt (by omega)]
  · rw [lenN_ge (by omega), Nat.add_comm]
theorem bit_and (n i : Nat) (h : n < 18446744073709551616) : (bits .and .u64 ((n : Int) / 2 ^ i) 1 == 1) = (n / 2 ^ i % 2 == 1) := by
  have hd : n / 2 ^ i < 18446744073709551616 := Nat.lt_of_le_of_lt (Nat.div_le_self _ _) h
  have e : ((n : Int) / 2 ^ i) = ((n / 2 ^ i : Nat) : Int) := by
    rw [Int.natCast_ediv, Int.natCast_pow]; rfl
  have := bits_and_u64_nat (n / 2 ^ i) 1 hd (by omega)
  rw [e, show (1 : Int) = ((1 : Nat) : Int) from rfl, this, Nat.and_one_is_mod]
  rw [Bool.eq_iff_iff]
  simp
  omega
theorem little_length : ∀ (k n : Nat), (little k n).length = k
  | 0, _ => rfl
  | k + 1, n => by simp [little, little_length k]
theorem little_get : ∀ (k n i : Nat) (h : i < (little k n).length), ((little k n)[i]).toNat = n / 256 ^ i % 256
  | 0, n, i, h => by simp [little] at h
  | k + 1, n, 0, h => by simp [little]
  | k + 1, n, i + 1, h => by
    have := little_get k (n / 256) i (by simpa [little] using h)
    simp only [little, List.getElem_cons_succ, this]
    rw [Nat.div_div_eq_div_mul, Nat.pow_succ, Nat.mul_comm (256 ^ i)]
theorem word_little : ∀ (k n : Nat), word (little k n) = n % 256 ^ k
  | 0, n => by simp [little, word, Nat.mod_one]
  | k + 1, n => by
    rw [little, word, word_little k]
    have : (UInt8.ofNat (n % 256)).toNat = n % 256 := by simp
    rw [this, Nat.pow_succ, Nat.mul_comm (256 ^ k), Nat.mod_mul]
theorem little_succ : ∀ (k n : Nat), little (k + 1) n = little k n ++ [UInt8.ofNat (n / 256 ^ k % 256)]
  | 0, n => by simp [little]
  | k + 1, n => by
    rw [little, little_succ k, little]
    simp only [List.cons_append, List.cons.injEq, List.append_cancel_left_eq, and_true, true_and]
    rw [Nat.div_div_eq_div_mul, Nat.pow_succ, Nat.mul_comm (256 ^ k)]
/-- The first j of n bytes of a word, and 0 behind. -/
def littleZ (n m j : Nat) : List UInt8 := little j m ++ List.replicate (n - j) 0
theorem littleZ_zero (n m : Nat) : littleZ n m 0 = List.replicate n 0 := by simp [littleZ, little]
theorem littleZ_all (n m : Nat) : littleZ n m n = little n m := by simp [littleZ]
theorem littleZ_length {n m j : Nat} (h : j ≤ n) : (littleZ n m j).length = n := by simp [littleZ, little_length]; omega
theorem littleZ_set {n m j : Nat} (h : j < n) : (littleZ n m j).set j (UInt8.ofNat (m / 256 ^ j % 256)) = littleZ n m (j + 1) := by
  unfold littleZ
  rw [little_succ, List.set_append, if_neg (by rw [little_length]; omega), little_length, Nat.sub_self, show n - j = (n - (j + 1)) + 1 from by omega, List.replicate_succ, List.set_cons_zero, List.append_assoc]
  rfl
theorem pow_256 (j : Nat) : 2 ^ (8 * j) = 256 ^ j := by rw [Nat.pow_mul]
theorem little_val (m j : Nat) : (m : Int) / 2 ^ (8 * j) % 256 = ((UInt8.ofNat (m / 256 ^ j % 256)).toNat : Int) := by
  have e : (UInt8.ofNat (m / 256 ^ j % 256)).toNat = m / 256 ^ j % 256 := by simp
  rw [e, ← pow_256, Int.natCast_emod, Int.natCast_ediv, Int.natCast_pow]
  rfl
theorem little_val' (m j : Nat) : ((m / 256 ^ j : Nat) : Int) % 256 = ((UInt8.ofNat (m / 256 ^ j % 256)).toNat : Int) := by
  have e : (UInt8.ofNat (m / 256 ^ j % 256)).toNat = m / 256 ^ j % 256 := by simp
  rw [e, Int.natCast_emod]
  rfl
theorem word_lt : ∀ (l : List UInt8), word l < 256 ^ l.length
  | [] => by simp [word]
  | c :: r => by
    have h1 := word_lt r
    have h2 := c.toNat_lt
    simp only [word, List.length_cons, Nat.pow_succ]
    omega
theorem word_snoc : ∀ (l : List UInt8) (c : UInt8), word (l ++ [c]) = word l + c.toNat * 256 ^ l.length
  | [], c => by simp [word]
  | d :: r, c => by
    simp only [List.cons_append, word, List.length_cons, word_snoc r c, Nat.pow_succ]
    rw [Nat.mul_add, ← Nat.mul_assoc, Nat.mul_comm 256 c.toNat, Nat.mul_assoc c.toNat, Nat.mul_comm (256 ^ r.length)]
    omega

/-! ### what the operations on bits come to -/
theorem xor_u64_ones (a : Int) (h : 0 ≤ a ∧ a ≤ 18446744073709551615) : bits .xor .u64 a 18446744073709551615 = 18446744073709551615 - a := by
  obtain ⟨n, rfl⟩ := Int.eq_ofNat_of_zero_le h.1
  have e : (BitVec.ofInt 64 (18446744073709551615 : Int)) = BitVec.allOnes 64 := by decide
  have h1 : (BitVec.ofInt 64 (n : Int)).toNat = n := by rw [BitVec.ofInt_natCast, BitVec.toNat_ofNat]; exact Nat.mod_eq_of_lt (by omega)
  show IntKind.u64.wrap ((BitVec.ofInt 64 (n : Int) ^^^ BitVec.ofInt 64 (18446744073709551615 : Int)).toNat : Int) = _
  rw [e, BitVec.xor_allOnes, BitVec.toNat_not, h1, IntKind.wrap_u64]
  omega
theorem xor_u64_zero (a : Int) (h : 0 ≤ a ∧ a ≤ 18446744073709551615) : bits .xor .u64 a 0 = a := by
  obtain ⟨n, rfl⟩ := Int.eq_ofNat_of_zero_le h.1
  have := bits_xor_u64_nat n 0 (by omega) (by omega)
  simpa using this
theorem xor_i64_zero (a : Int) (h : 0 ≤ a ∧ a ≤ 9223372036854775807) : bits .xor .i64 a 0 = a := by
  obtain ⟨n, rfl⟩ := Int.eq_ofNat_of_zero_le h.1
  have h1 : (BitVec.ofInt 64 (n : Int)).toNat = n := by rw [BitVec.ofInt_natCast, BitVec.toNat_ofNat]; exact Nat.mod_eq_of_lt (by omega)
  show IntKind.i64.wrap ((BitVec.ofInt 64 (n : Int) ^^^ BitVec.ofInt 64 (0 : Int)).toNat : Int) = _
  rw [show (BitVec.ofInt 64 (0 : Int)) = 0#64 from by decide, BitVec.xor_zero, h1, IntKind.wrap_i64]
  omega
theorem xor_i64_ones (a : Int) (h : 0 ≤ a ∧ a ≤ 9223372036854775807) : bits .xor .i64 a (-1) = -a - 1 := by
  obtain ⟨n, rfl⟩ := Int.eq_ofNat_of_zero_le h.1
  have e : (BitVec.ofInt 64 (-1 : Int)) = BitVec.allOnes 64 := by decide
  have h1 : (BitVec.ofInt 64 (n : Int)).toNat = n := by rw [BitVec.ofInt_natCast, BitVec.toNat_ofNat]; exact Nat.mod_eq_of_lt (by omega)
  show IntKind.i64.wrap ((BitVec.ofInt 64 (n : Int) ^^^ BitVec.ofInt 64 (-1 : Int)).toNat : Int) = _
  rw [e, BitVec.xor_allOnes, BitVec.toNat_not, h1, IntKind.wrap_i64]
  omega
theorem xor_i32_zero (a : Int) (h : 0 ≤ a ∧ a ≤ 2147483647) : bits .xor .i32 a 0 = a := by
  obtain ⟨n, rfl⟩ := Int.eq_ofNat_of_zero_le h.1
  have h1 : (BitVec.ofInt 32 (n : Int)).toNat = n := by rw [BitVec.ofInt_natCast, BitVec.toNat_ofNat]; exact Nat.mod_eq_of_lt (by omega)
  show IntKind.i32.wrap ((BitVec.ofInt 32 (n : Int) ^^^ BitVec.ofInt 32 (0 : Int)).toNat : Int) = _
  rw [show (BitVec.ofInt 32 (0 : Int)) = 0#32 from by decide, BitVec.xor_zero, h1, IntKind.wrap_i32]
  omega
theorem xor_i32_ones (a : Int) (h : 0 ≤ a ∧ a ≤ 2147483647) : bits .xor .i32 a (-1) = -a - 1 := by
  obtain ⟨n, rfl⟩ := Int.eq_ofNat_of_zero_le h.1
  have e : (BitVec.ofInt 32 (-1 : Int)) = BitVec.allOnes 32 := by decide
  have h1 : (BitVec.ofInt 32 (n : Int)).toNat = n := by rw [BitVec.ofInt_natCast, BitVec.toNat_ofNat]; exact Nat.mod_eq_of_lt (by omega)
  show IntKind.i32.wrap ((BitVec.ofInt 32 (n : Int) ^^^ BitVec.ofInt 32 (-1 : Int)).toNat : Int) = _
  rw [e, BitVec.xor_allOnes, BitVec.toNat_not, h1, IntKind.wrap_i32]
  omega
theorem zig_bits {x : Int} (h : -9223372036854775808 ≤ x ∧ x ≤ 9223372036854775807) :
    bits .xor .u64 (IntKind.u64.wrap (IntKind.u64.wrap x * 2)) (IntKind.u64.wrap (x / 9223372036854775808)) = zigS x := by
  unfold zigS
  split
  · have e1 : IntKind.u64.wrap (x / 9223372036854775808) = 0 := by rw [IntKind.wrap_u64]; omega
    have e2 : IntKind.u64.wrap (IntKind.u64.wrap x * 2) = 2 * x := by rw [IntKind.wrap_u64, IntKind.wrap_u64]; omega
    rw [e1, e2, xor_u64_zero _ (by omega)]
  · have e1 : IntKind.u64.wrap (x / 9223372036854775808) = 18446744073709551615 := by rw [IntKind.wrap_u64]; omega
    have e2 : IntKind.u64.wrap (IntKind.u64.wrap x * 2) = 2 * x + 18446744073709551616 := by rw [IntKind.wrap_u64, IntKind.wrap_u64]; omega
    rw [e1, e2, xor_u64_ones _ (by omega)]
    omega
theorem zag_bits {x : Int} (h : 0 ≤ x ∧ x ≤ 18446744073709551615) :
    bits .xor .i64 (x / 2) (wrap64 (IntKind.u64.wrap (x * 9223372036854775808)) / 9223372036854775808) = zagS x := by
  unfold zagS wrap64
  split
  · rw [show ((IntKind.u64.wrap (x * 9223372036854775808) + 9223372036854775808) % 18446744073709551616 - 9223372036854775808) / 9223372036854775808 = 0 from by rw [IntKind.wrap_u64]; omega, xor_i64_zero _ (by omega)]
  · rw [show ((IntKind.u64.wrap (x * 9223372036854775808) + 9223372036854775808) % 18446744073709551616 - 9223372036854775808) / 9223372036854775808 = -1 from by rw [IntKind.wrap_u64]; omega, xor_i64_ones _ (by omega)]
theorem zag32_bits {x : Int} (h : 0 ≤ x ∧ x ≤ 4294967295) :
    bits .xor .i32 (x / 2) (wrap32 (x * 2147483648 % 4294967296) / 2147483648) = zagS x := by
  unfold zagS wrap32
  split
  · rw [show ((x * 2147483648 % 4294967296 + 2147483648) % 4294967296 - 2147483648) / 2147483648 = 0 from by omega, xor_i32_zero _ (by omega)]
  · rw [show ((x * 2147483648 % 4294967296 + 2147483648) % 4294967296 - 2147483648) / 2147483648 = -1 from by omega, xor_i32_ones _ (by omega)]
theorem or_high (a c k : Nat) (h : a < 2 ^ k) : a ||| (c * 2 ^ k) = a + c * 2 ^ k := by
  have := Nat.shiftLeft_add_eq_or_of_lt h c
  rw [Nat.shiftLeft_eq] at this
  rw [Nat.or_comm, ← this, Nat.add_comm]
theorem pow_256_le {j : Nat} (h : j ≤ 7) : 256 ^ j ≤ 72057594037927936 := by
  have := Nat.pow_le_pow_right (n := 256) (by omega) h
  simpa using this
theorem word_or (a d j : Nat) (hj : j < 8) (hd : d < 256) (ha : a < 256 ^ j) :
    bits .or .u64 (a : Int) (IntKind.u64.wrap ((d : Int) * 2 ^ (8 * j))) = ((a + d * 256 ^ j : Nat) : Int) := by
  have hp := pow_256_le (show j ≤ 7 by omega)
  have hm : d * 256 ^ j ≤ 255 * 72057594037927936 := Nat.mul_le_mul (by omega) hp
  have e : ((d : Int) * 2 ^ (8 * j)) = ((d * 256 ^ j : Nat) : Int) := by
    rw [← pow_256, Int.natCast_mul, Int.natCast_pow]; rfl
  rw [e, IntKind.wrap_u64, Int.emod_eq_of_lt (by omega) (by omega), bits_or_u64_nat _ _ (by omega) (by omega), ← pow_256, or_high _ _ _ (by rw [pow_256]; exact ha)]
theorem word_add (a d j : Nat) (hj : j < 8) (hd : d < 256) (ha : a < 256 ^ j) :
    IntKind.u64.wrap ((a : Int) + IntKind.u64.wrap ((d : Int) * ((256 ^ j % 18446744073709551616 : Nat) : Int))) = ((a + d * 256 ^ j : Nat) : Int) := by
  have hp := pow_256_le (show j ≤ 7 by omega)
  have hm : d * 256 ^ j ≤ 255 * 72057594037927936 := Nat.mul_le_mul (by omega) hp
  rw [Nat.mod_eq_of_lt (by omega)]
  have e : ((d : Int) * ((256 ^ j : Nat) : Int)) = ((d * 256 ^ j : Nat) : Int) := by rw [Int.natCast_mul]
  have hs : a + d * 256 ^ j < 18446744073709551616 := by
    have : a + d * 256 ^ j < 256 ^ j + 255 * 256 ^ j := Nat.add_lt_add_of_lt_of_le ha (Nat.mul_le_mul_right _ (by omega))
    omega
  rw [e, IntKind.wrap_u64, IntKind.wrap_u64]
  omega
theorem place_step (j : Nat) : ((256 ^ (j + 1) % 18446744073709551616 : Nat) : Int) = IntKind.u64.wrap (((256 ^ j % 18446744073709551616 : Nat) : Int) * 256) := by
  rw [IntKind.wrap_u64, Nat.pow_succ]
  omega
theorem bd_u64 {x : Int} (h : (Lit.int .u64 x).wf = true) : 0 ≤ x ∧ x ≤ 18446744073709551615 := by simpa [Lit.wf, IntKind.min, IntKind.max, IntKind.bits, IntKind.signed] using h
theorem bd_i64 {x : Int} (h : (Lit.int .i64 x).wf = true) : -9223372036854775808 ≤ x ∧ x ≤ 9223372036854775807 := by simpa [Lit.wf, IntKind.min, IntKind.max, IntKind.bits, IntKind.signed] using h
theorem bd_i32 {x : Int} (h : (Lit.int .i32 x).wf = true) : -2147483648 ≤ x ∧ x ≤ 2147483647 := by simpa [Lit.wf, IntKind.min, IntKind.max, IntKind.bits, IntKind.signed] using h
end Go.Proofs.Ytnhnanbgphdaeaa
