/-
  Small facts for reckoning with plain functions: numbers that fit their kind, places of lists, bytes. No condition.
-/
import Derived.Test.YtnhnanbgphdaeaaMore
namespace Go.Proofs.Ytnhnanbgphdaeaa
open Go

/-! ### numbers -/
theorem wrap_u8 (x : Int) : IntKind.u8.wrap x = x % 256 := by simp [IntKind.wrap, IntKind.bits, IntKind.signed]
theorem wrap_u16 (x : Int) : IntKind.u16.wrap x = x % 65536 := by simp [IntKind.wrap, IntKind.bits, IntKind.signed]
theorem wrap_u32 (x : Int) : IntKind.u32.wrap x = x % 4294967296 := by simp [IntKind.wrap, IntKind.bits, IntKind.signed]
theorem wrap_u64 (x : Int) : IntKind.u64.wrap x = x % 18446744073709551616 := by simp [IntKind.wrap, IntKind.bits, IntKind.signed]
theorem wrap_i64 {x : Int} (h : -9223372036854775808 ≤ x ∧ x ≤ 9223372036854775807) : IntKind.i64.wrap x = x := by
  simp [IntKind.wrap, IntKind.bits, IntKind.signed]
  split <;> omega
theorem wrap_i64' (x : Int) : IntKind.i64.wrap x = if x % 18446744073709551616 < 9223372036854775808 then x % 18446744073709551616 else x % 18446744073709551616 - 18446744073709551616 := by
  simp [IntKind.wrap, IntKind.bits, IntKind.signed]
  split <;> split <;> omega
theorem wrap_i32 {x : Int} (h : -2147483648 ≤ x ∧ x ≤ 2147483647) : IntKind.i32.wrap x = x := by
  simp [IntKind.wrap, IntKind.bits, IntKind.signed]
  split <;> omega
theorem wrap_i32' (x : Int) : IntKind.i32.wrap x = if x % 4294967296 < 2147483648 then x % 4294967296 else x % 4294967296 - 4294967296 := by
  simp [IntKind.wrap, IntKind.bits, IntKind.signed]
  split <;> split <;> omega
theorem wrap_nat {k : IntKind} (hk : k.signed = false) {n : Nat} (h : n < 2 ^ k.bits) : k.wrap (n : Int) = n := by
  have h2 : (n : Int) % (2 ^ k.bits : Int) = n := Int.emod_eq_of_lt (by omega) (by exact_mod_cast h)
  simp only [IntKind.wrap, hk, Bool.false_and, h2]
  simp
theorem ofInt_nat {b n : Nat} (h : n < 2 ^ b) : (BitVec.ofInt b (n : Int)).toNat = n := by
  rw [BitVec.toNat_ofInt]
  have h2 : (n : Int) % ((2 ^ b : Nat) : Int) = n := Int.emod_eq_of_lt (by omega) (by exact_mod_cast h)
  rw [h2]; rfl
theorem andI_nat {k : IntKind} (hk : k.signed = false) {a b : Nat} (ha : a < 2 ^ k.bits) (hb : b < 2 ^ k.bits) : andI k a b = ((a &&& b : Nat) : Int) := by
  unfold andI
  rw [BitVec.toNat_and, ofInt_nat ha, ofInt_nat hb]
  exact wrap_nat hk (Nat.lt_of_le_of_lt Nat.and_le_left ha)
theorem orI_nat {k : IntKind} (hk : k.signed = false) {a b : Nat} (ha : a < 2 ^ k.bits) (hb : b < 2 ^ k.bits) : orI k a b = ((a ||| b : Nat) : Int) := by
  unfold orI
  rw [BitVec.toNat_or, ofInt_nat ha, ofInt_nat hb]
  exact wrap_nat hk (Nat.or_lt_two_pow ha hb)
theorem xorI_nat {k : IntKind} (hk : k.signed = false) {a b : Nat} (ha : a < 2 ^ k.bits) (hb : b < 2 ^ k.bits) : xorI k a b = ((a ^^^ b : Nat) : Int) := by
  unfold xorI
  rw [BitVec.toNat_xor, ofInt_nat ha, ofInt_nat hb]
  exact wrap_nat hk (Nat.xor_lt_two_pow ha hb)
theorem shrI_nat {k : IntKind} {a b : Nat} (hb : b ≤ k.bits) : shrI k a b = ((a / 2 ^ b : Nat) : Int) := by
  unfold shrI
  have h2 : (2 : Int) ^ b = ((2 ^ b : Nat) : Int) := by simp
  rw [Int.toNat_natCast, Nat.min_eq_left hb, h2, Int.fdiv_eq_ediv_of_nonneg _ (Int.natCast_nonneg (2 ^ b)), Int.natCast_ediv]
theorem or_high' (a c k : Nat) (h : a < 2 ^ k) : a ||| (c * 2 ^ k) = a + c * 2 ^ k := by
  rw [Nat.or_comm, Nat.mul_comm, ← Nat.two_pow_add_eq_or_of_lt h, Nat.add_comm]
theorem beq_nat (n m : Nat) : ((n : Int) == (m : Int)) = decide (n = m) := by
  by_cases h : n = m
  · simp [h]
  · have : ¬ ((n : Int) = m) := by omega
    simp [h, this]
/-! ### places -/
theorem idx_of {α : Type} {xs : List α} {i : Int} {n : Nat} (h : i = n) (hn : n < xs.length) : idx xs i = some xs[n] := by
  unfold idx
  subst h
  rw [if_pos (by omega), Int.toNat_natCast, List.getElem?_eq_getElem hn]
theorem cut_of {α : Type} {xs : List α} {i j : Int} {a b : Nat} (hi : i = a) (hj : j = b) (h : a ≤ b) (hb : b ≤ xs.length) : cut xs i j = some ((xs.drop a).take (b - a)) := by
  unfold cut
  subst hi hj
  rw [if_pos (by omega), Int.toNat_natCast, Int.toNat_natCast]
theorem cut_drop {α : Type} {xs : List α} {i j : Int} {a : Nat} (hi : i = a) (hj : j = (xs.length : Int)) (h : a ≤ xs.length) : cut xs i j = some (xs.drop a) := by
  rw [cut_of hi hj h (Nat.le_refl _), List.take_of_length_le (by simp)]
theorem cut_take {α : Type} {xs : List α} {j : Int} {b : Nat} (hj : j = b) (hb : b ≤ xs.length) : cut xs 0 j = some (xs.take b) := by
  have := cut_of (xs := xs) (i := 0) (a := 0) rfl hj (Nat.zero_le _) hb
  simpa using this
theorem app_of {α : Type} {bytes : Nat} {xs ys : List α} (h : (xs.length + ys.length) * bytes ≤ 140737488355328) : app bytes xs ys = some (xs ++ ys) := by
  unfold app LIM
  rw [if_pos h]
theorem mkO_of {α : Type} {bytes : Nat} {x0 : α} {n m : Int} {a : Nat} (hn : n = a) (h : n ≤ m) (hm : m * bytes ≤ 140737488355328) : mkO bytes x0 n m = some (List.replicate a x0) := by
  unfold mkO LIM
  subst hn
  rw [if_pos ⟨by omega, h, hm⟩, Int.toNat_natCast]
theorem mkO_nil {α : Type} {bytes : Nat} {x0 : α} {m : Int} (h : 0 ≤ m) (hm : m * bytes ≤ 140737488355328) : mkO bytes x0 0 m = some [] := by
  have := mkO_of (x0 := x0) (n := 0) (a := 0) rfl h hm
  simpa using this
theorem byteO_of {x : Int} {c : UInt8} (h : x = (c.toNat : Int)) : byteO x = some c := by
  unfold byteO
  subst h
  have := c.toNat_lt
  rw [if_pos (by omega), Int.toNat_natCast, UInt8.ofNat_toNat]
theorem byteO_nat {x : Int} {n : Nat} (h : x = n) (hn : n < 256) : byteO x = some (UInt8.ofNat n) := by
  refine byteO_of ?_
  rw [h, UInt8.toNat_ofNat']
  congr 1
  omega
theorem lenO_of {l : List UInt8} (h : l.length ≤ 9223372036854775807) : lenO l = some l := by unfold lenO; rw [if_pos h]
theorem cat_of {x y : List UInt8} (h : x.length + y.length ≤ 9223372036854775807) : cat x y = some (x ++ y) := by unfold cat; rw [if_pos h]
theorem shlO_nat {k : IntKind} {x : Int} {n : Nat} : shlO k x n = some (shlI k x n) := by unfold shlO; rw [if_neg (by omega)]
theorem shrO_nat {k : IntKind} {x : Int} {n : Nat} : shrO k x n = some (shrI k x n) := by unfold shrO; rw [if_neg (by omega)]
/-! ### programs -/
theorem sb {α β : Type} {a : α} {f : α → Option β} : ((some a : Option α) >>= f) = f a := rfl
theorem sbind {α β : Type} {x : Option α} {a : α} {f : α → Option β} (h : x = some a) : (x >>= f) = f a := by rw [h]; rfl
theorem itT {α : Type} {c : Bool} {x y : α} (h : c = true) : (if c then x else y) = x := by rw [h]; rfl
theorem itF {α : Type} {c : Bool} {x y : α} (h : c = false) : (if c then x else y) = y := by rw [h]; rfl
end Go.Proofs.Ytnhnanbgphdaeaa
