/-
  The project's functions of layer 3 (tag), as plain functions. No condition.
-/
import Derived.Test.YtnhnanbgphdaeaaP03
namespace Go.Proofs.Ytnhnanbgphdaeaa
open Go

theorem right_is (t : T_Number_Wire) : tag_Right t = some (tRight t.Number t.Wire) := by
  have e : tag_rightWire t.Wire = some (decide (t.Wire = 0 ∨ t.Wire = 1 ∨ t.Wire = 2 ∨ t.Wire = 5)) := by
    unfold tag_rightWire
    by_cases h0 : t.Wire = 0
    · simp [h0]
    by_cases h1 : t.Wire = 1
    · simp [h1]
    by_cases h2 : t.Wire = 2
    · simp [h2]
    by_cases h5 : t.Wire = 5
    · simp [h5]
    simp [h0, h1, h2, h5]
  unfold tag_Right tRight
  rw [e]
  by_cases h1 : 1 ≤ t.Number
  · by_cases h2 : t.Number ≤ 536870911
    · rw [itT (by simpa using h1), itT (by simpa using h2), sb, sb]; simp [h1, h2]
    · rw [itT (by simpa using h1), itF (by simpa using h2), sb]; simp [h2]
  · rw [itF (by simpa using h1), sb]; simp [h1]
theorem and_7 (w : Nat) (h : w < 18446744073709551616) : andI .u64 (w : Int) 7 = ((w % 8 : Nat) : Int) := by
  have e := andI_nat (k := .u64) rfl (a := w) (b := 7) (by simpa [IntKind.bits] using h) (by simp [IntKind.bits])
  have e2 : w &&& 7 = w % 8 := Nat.and_two_pow_sub_one_eq_mod w 3
  rw [e2] at e; exact e
theorem shr_3 (w : Nat) : shrI .u64 (w : Int) 3 = ((w / 8 : Nat) : Int) := shrI_nat (k := .u64) (a := w) (b := 3) (by simp [IntKind.bits])
theorem tread_is (b : List UInt8) : tag_Read b = some ((⟨(tg b).1, (tg b).2.1⟩ : T_Number_Wire), (tg b).2.2.1, (tg b).2.2.2) := by
  obtain ⟨h1, h2, h3, h4, h5, h6, h7⟩ := rd_bounds b
  unfold tag_Read tg
  rw [read_is, sb]
  by_cases h : (rd b).2.2 = 0
  · rw [itF (by simpa using h)]
    obtain ⟨w, hw⟩ : ∃ w : Nat, (rd b).1 = w := ⟨(rd b).1.toNat, by omega⟩
    rw [hw] at h2 ⊢
    rw [shr_3, and_7 w (by omega)]
    have e0 : IntKind.i64.wrap ((w % 8 : Nat) : Int) = (w : Int) % 8 := by rw [wrap_i64 (by omega)]; omega
    by_cases hg : 4294967295 < w
    · have e1 : IntKind.i64.wrap (if (536870912 : Int) < ((w / 8 : Nat) : Int) then 536870912 else ((w / 8 : Nat) : Int)) = 536870912 := by
        split
        · rfl
        · rw [wrap_i64 (by omega)]; omega
      rw [e0, e1, right_is, sb]
      have e2 : tRight 536870912 ((w : Int) % 8) = false := by simp [tRight]
      simp only [e2]
      rw [itT (by rfl), tgR_none h (.inl (by rw [hw]; omega))]
    · have e1 : IntKind.i64.wrap (if (536870912 : Int) < ((w / 8 : Nat) : Int) then 536870912 else ((w / 8 : Nat) : Int)) = (w : Int) / 8 := by
        rw [if_neg (by omega), wrap_i64 (by omega)]; omega
      rw [e0, e1, right_is, sb]
      simp only
      cases ht : tRight ((w : Int) / 8) ((w : Int) % 8)
      · rw [itT (by rfl), tgR_none h (.inr (by rw [hw]; exact ht))]
      · rw [itF (by rfl), tgR_ok h (by rw [hw, ht]; simp; omega), hw]
  · rw [itT (by simpa using h), tgR_err h]
theorem word_is {t : T_Number_Wire} (h : tRight t.Number t.Wire = true) : tag_word t = some ((tW t.Number t.Wire : Nat) : Int) := by
  have hr := tRight_iff.1 h
  obtain ⟨e, hlt⟩ := tW_of h
  unfold tag_word
  congr 1
  obtain ⟨n, hn⟩ : ∃ n : Nat, t.Number = n := ⟨t.Number.toNat, by omega⟩
  obtain ⟨w, hw⟩ : ∃ w : Nat, t.Wire = w := ⟨t.Wire.toNat, by omega⟩
  have e3 : tW t.Number t.Wire = 8 * n + w := by omega
  rw [e3, hn, hw, wrap_u64, wrap_u64, Int.emod_eq_of_lt (by omega) (by omega), Int.emod_eq_of_lt (by omega) (by omega)]
  have e4 : shlI .u64 (n : Int) 3 = ((n * 8 : Nat) : Int) := by
    have h3 : shlI .u64 (n : Int) 3 = ((n * 8 % 18446744073709551616 : Nat) : Int) := by
      simp [shlI, IntKind.bits, wrap_u64]
    rw [h3, Nat.mod_eq_of_lt (by omega)]
  rw [e4, orI_nat rfl (by simp [IntKind.bits]; omega) (by simp [IntKind.bits]; omega), Nat.or_comm, or_high' w n 3 (by omega)]
  congr 1; omega
theorem tput_is {t : T_Number_Wire} (b : List UInt8) (hb : b.length ≤ 1099511627776) (h : tRight t.Number t.Wire = true) : tag_Put b t = some (b ++ enc (tW t.Number t.Wire), 0) := by
  obtain ⟨_, hlt⟩ := tW_of h
  unfold tag_Put
  rw [right_is, sb, h, itF (by rfl), word_is h, sb, put_is b (by omega) hb, sb]
theorem tput_no {t : T_Number_Wire} (b : List UInt8) (h : tRight t.Number t.Wire = false) : tag_Put b t = some ([], 2) := by
  unfold tag_Put
  rw [right_is, sb, h, itT (by rfl)]
theorem tsize_is {t : T_Number_Wire} (h : tRight t.Number t.Wire = true) : tag_Size t = some ((enc (tW t.Number t.Wire)).length : Int) := by
  obtain ⟨_, hlt⟩ := tW_of h
  unfold tag_Size
  rw [right_is, sb, h, itF (by rfl), word_is h, sb, put_is [] (by omega) (by simp), sb, List.nil_append]
theorem tsize_no {t : T_Number_Wire} (h : tRight t.Number t.Wire = false) : tag_Size t = some 0 := by
  unfold tag_Size
  rw [right_is, sb, h, itT (by rfl)]
end Go.Proofs.Ytnhnanbgphdaeaa
