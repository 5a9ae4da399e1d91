/-
  What the plain functions of layer 3 (tag) are. No condition.
-/
import Derived.Test.YtnhnanbgphdaeaaS03
import Derived.Test.YtnhnanbgphdaeaaP02
namespace Go.Proofs.Ytnhnanbgphdaeaa
open Go

/-! ### the words of the layer -/
/-- Can it be a tag? -/
def tRight (n w : Int) : Bool := decide (1 ≤ n ∧ n ≤ 536870911 ∧ (w = 0 ∨ w = 1 ∨ w = 2 ∨ w = 5))
/-- A tag, of what reading a varint answers: number, wire type, how many bytes, 0; or a fault. -/
def tgR (r : Int × Int × Int) : Int × Int × Int × Int :=
  if r.2.2 ≠ 0 then (0, 0, 0, r.2.2) else if 4294967295 < r.1 ∨ tRight (r.1 / 8) (r.1 % 8) = false then (0, 0, 0, 5) else (r.1 / 8, r.1 % 8, r.2.1, 0)
def tg (l : List UInt8) : Int × Int × Int × Int := tgR (rd l)
/-- The word of a tag. -/
def tW (n w : Int) : Nat := (8 * n + w).toNat
theorem tRight_iff {n w : Int} : tRight n w = true ↔ 1 ≤ n ∧ n ≤ 536870911 ∧ (w = 0 ∨ w = 1 ∨ w = 2 ∨ w = 5) := by simp [tRight]
theorem refRight_is (n w : Int) : darningref03_Right n w = some (tRight n w) := by
  unfold darningref03_Right tRight
  simp [Bool.decide_and, Bool.decide_or, Bool.beq_eq_decide_eq]
theorem rd_bounds (l : List UInt8) : 0 ≤ (rd l).1 ∧ (rd l).1 < 18446744073709551616 ∧ 0 ≤ (rd l).2.1 ∧ (rd l).2.1 ≤ 10 ∧ (rd l).2.1 ≤ l.length ∧ ((rd l).2.2 = 0 ∨ (rd l).2.2 = 3 ∨ (rd l).2.2 = 4) ∧ ((rd l).2.2 = 0 → 1 ≤ (rd l).2.1) := by
  rcases rd_cases l with h | ⟨h, _⟩ | ⟨x, c, y, e, _, _, hl, hv, h⟩
  · rw [h]; simp
  · rw [h]; simp
  · have : l.length = x.length + 1 + y.length := by rw [e]; simp; omega
    rw [h]
    refine ⟨?_, ?_, ?_, ?_, ?_, .inl rfl, fun _ => ?_⟩ <;> simp only <;> omega
/-- What is read, told by its bytes. -/
theorem rd_of (x : List UInt8) (c : UInt8) (y : List UInt8) (hx : ∀ z ∈ x, 128 ≤ z.toNat) (hc : c.toNat < 128) (hl : x.length ≤ 9) (hv : hor (x ++ [c]) < 18446744073709551616) :
    rd (x ++ c :: y) = (((hor (x ++ [c]) : Nat) : Int), ((x.length + 1 : Nat) : Int), 0) := by
  have key : ∀ (x : List UInt8) (z : List UInt8) (i acc : Nat), (∀ z ∈ x, 128 ≤ z.toNat) → i + x.length ≤ 9 → acc + hor (x ++ [c]) * 128 ^ i < 18446744073709551616 → scan i acc (x ++ c :: z) = .inr (((acc + hor (x ++ [c]) * 128 ^ i : Nat) : Int), ((i + x.length + 1 : Nat) : Int), 0) := by
    intro x
    induction x with
    | nil =>
      intro z i acc _ hi hv
      have e1 : hor ([] ++ [c]) = c.toNat := by simp [hor]; omega
      rw [e1] at hv ⊢
      rw [List.nil_append, scan, if_neg, if_pos hc, Nat.mod_eq_of_lt hc]
      · rfl
      · rintro ⟨rfl, h2⟩
        have := Nat.mul_le_mul_right (128 ^ 9) (show 2 ≤ c.toNat by omega)
        omega
    | cons d x ih =>
      intro z i acc hx hi hv
      simp only [List.length_cons] at hi
      have hd := hx d List.mem_cons_self
      have e5 : acc + hor ((d :: x) ++ [c]) * 128 ^ i = acc + d.toNat % 128 * 128 ^ i + hor (x ++ [c]) * 128 ^ (i + 1) := by
        rw [List.cons_append, hor, Nat.pow_succ, Nat.add_mul, Nat.mul_comm (128 ^ i) 128, ← Nat.mul_assoc, Nat.mul_comm (hor (x ++ [c])) 128]; omega
      rw [e5] at hv ⊢
      rw [List.cons_append, scan, if_neg (by omega), if_neg (by omega), ih z (i + 1) _ (fun z hz => hx z (List.mem_cons_of_mem _ hz)) (by omega) hv, List.length_cons]
      congr 3
      omega
  unfold rd
  have e2 : (x ++ c :: y).take 10 = x ++ c :: y.take (9 - x.length) := by
    rw [List.take_append, List.take_of_length_le (by omega), show 10 - x.length = (9 - x.length) + 1 by omega, List.take_succ_cons]
  rw [e2, key x _ 0 0 hx (by omega) (by simpa using hv)]
  simp [rdR]
/-- What begins as another list does, reads alike, if it can be read at all. -/
theorem rd_append (l m : List UInt8) (h : (rd l).2.2 = 0) : rd (l ++ m) = rd l := by
  rcases rd_cases l with h' | ⟨h', _⟩ | ⟨x, c, y, e, hx, hc, hl, hv, h'⟩
  · rw [h'] at h; cases h
  · rw [h'] at h; cases h
  · rw [h', e, List.append_assoc, List.cons_append, rd_of x c _ hx hc hl hv]
theorem tg_append (l m : List UInt8) (h : (rd l).2.2 = 0) : tg (l ++ m) = tg l := by unfold tg; rw [rd_append l m h]
theorem tgR_err {r : Int × Int × Int} (h : r.2.2 ≠ 0) : tgR r = (0, 0, 0, r.2.2) := if_pos h
theorem tgR_none {r : Int × Int × Int} (h : r.2.2 = 0) (h2 : 4294967295 < r.1 ∨ tRight (r.1 / 8) (r.1 % 8) = false) : tgR r = (0, 0, 0, 5) := by unfold tgR; rw [if_neg (by simp [h]), if_pos h2]
theorem tgR_ok {r : Int × Int × Int} (h : r.2.2 = 0) (h2 : ¬ (4294967295 < r.1 ∨ tRight (r.1 / 8) (r.1 % 8) = false)) : tgR r = (r.1 / 8, r.1 % 8, r.2.1, 0) := by unfold tgR; rw [if_neg (by simp [h]), if_neg h2]
/-- The answers of reading a tag. -/
theorem tg_cases (l : List UInt8) : (∃ c, tg l = (0, 0, 0, c) ∧ (c = 3 ∨ c = 4 ∨ c = 5)) ∨ ∃ n w k, tg l = (n, w, k, 0) ∧ tRight n w = true ∧ 1 ≤ k ∧ k ≤ 10 ∧ k ≤ l.length ∧ rd l = (8 * n + w, k, 0) := by
  obtain ⟨h1, h2, h3, h4, h5, h6, h7⟩ := rd_bounds l
  unfold tg
  by_cases h : (rd l).2.2 = 0
  · by_cases hg : 4294967295 < (rd l).1 ∨ tRight ((rd l).1 / 8) ((rd l).1 % 8) = false
    · exact .inl ⟨5, tgR_none h hg, by omega⟩
    · refine .inr ⟨_, _, _, tgR_ok h hg, ?_, h7 h, h4, h5, ?_⟩
      · cases ht : tRight ((rd l).1 / 8) ((rd l).1 % 8)
        · exact absurd (.inr ht) hg
        · rfl
      · refine Prod.ext ?_ (Prod.ext rfl h)
        simp only; omega
  · exact .inl ⟨_, tgR_err h, by omega⟩
theorem ref03Read_is (b : List UInt8) (a : Nat) (hb : b.length ≤ 1152921504606846976) (ha : a ≤ b.length) : darningref03_Read b a = some (tg (b.drop a)) := by
  unfold darningref03_Read tg
  obtain ⟨h1, h2, h3, h4, h5, h6, h7⟩ := rd_bounds (b.drop a)
  rw [ref_is b a hb ha, sb]
  by_cases h : (rd (b.drop a)).2.2 = 0
  · rw [itF (by simpa using h)]
    have e1 : IntKind.i64.wrap (IntKind.u64.wrap (Int.tdiv (rd (b.drop a)).1 8)) = (rd (b.drop a)).1 / 8 := by
      rw [Int.tdiv_eq_ediv_of_nonneg h1, wrap_u64, Int.emod_eq_of_lt (by omega) (by omega), wrap_i64 (by omega)]
    have e2 : IntKind.i64.wrap (Int.tmod (rd (b.drop a)).1 8) = (rd (b.drop a)).1 % 8 := by
      rw [Int.tmod_eq_emod_of_nonneg h1, wrap_i64 (by omega)]
    simp only [e1, e2, refRight_is, sb]
    by_cases hg : 4294967295 < (rd (b.drop a)).1
    · rw [itT (by simpa using hg), sb, itT (by rfl), tgR_none h (.inl hg)]
    · rw [itF (by simpa using hg), sb]
      cases ht : tRight ((rd (b.drop a)).1 / 8) ((rd (b.drop a)).1 % 8)
      · rw [itT (by rfl), tgR_none h (.inr ht)]
      · rw [itF (by rfl), tgR_ok h (by simp [ht]; omega)]
  · rw [itT (by simpa using h), tgR_err h]
theorem tW_of {n w : Int} (h : tRight n w = true) : ((tW n w : Nat) : Int) = 8 * n + w ∧ tW n w < 4294967296 := by
  have := tRight_iff.1 h
  unfold tW; omega
theorem ref03Put_is {n w : Int} (h : tRight n w = true) : darningref03_Put 10 n w = some (enc (tW n w)) := by
  have hr := tRight_iff.1 h
  obtain ⟨e, hlt⟩ := tW_of h
  unfold darningref03_Put
  have e2 : IntKind.u64.wrap (IntKind.i64.wrap ((IntKind.i64.wrap (8 * n)) + w)) = ((tW n w : Nat) : Int) := by
    rw [wrap_i64 (x := 8 * n) (by omega), wrap_i64 (by omega), wrap_u64, Int.emod_eq_of_lt (by omega) (by omega), e]
  rw [e2, refput_u64 (by omega), sb]
theorem lenN_32 {v : Nat} (h : v < 34359738368) : lenN v ≤ 5 := by
  by_cases h1 : v < 128
  · rw [lenN_lt h1]; omega
  · rw [lenN_ge h1]
    by_cases h2 : v / 128 < 128
    · rw [lenN_lt h2]; omega
    · rw [lenN_ge h2]
      by_cases h3 : v / 128 / 128 < 128
      · rw [lenN_lt h3]; omega
      · rw [lenN_ge h3]
        by_cases h4 : v / 128 / 128 / 128 < 128
        · rw [lenN_lt h4]; omega
        · rw [lenN_ge h4, lenN_lt (by omega)]; omega
/-- What is put is read. -/
theorem tg_enc {n w : Int} (more : List UInt8) (h : tRight n w = true) : tg (enc (tW n w) ++ more) = (n, w, ((enc (tW n w)).length : Int), 0) := by
  have hr := tRight_iff.1 h
  obtain ⟨e, hlt⟩ := tW_of h
  unfold tg
  rw [rd_enc more (by omega)]
  have e1 : ((tW n w : Nat) : Int) / 8 = n := by omega
  have e2 : ((tW n w : Nat) : Int) % 8 = w := by omega
  rw [tgR_ok rfl (by simp only [e1, e2, h]; simp; omega)]
  simp only [e1, e2]
end Go.Proofs.Ytnhnanbgphdaeaa
