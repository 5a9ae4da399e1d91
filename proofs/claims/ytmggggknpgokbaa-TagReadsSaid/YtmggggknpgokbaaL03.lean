/-
  The project's functions of layer 3 (tag), and the laws of the layer, as plain functions: always true. No condition.
-/
import Derived.Test.YtmggggknpgokbaaP03
import Derived.Test.YtmggggknpgokbaaO
namespace Go.Proofs.Ytmggggknpgokbaa
open Go

theorem right_is (t : T_Number_Wire) : tag_Right t = some (tRight t.Number t.Wire) := by
  have e : tag_rightWire t.Wire = some (decide (t.Wire = 0 ∨ t.Wire = 1 ∨ t.Wire = 2 ∨ t.Wire = 5)) := by
    unfold tag_rightWire
    by_cases h0 : t.Wire = 0
    · simp [h0]
    by_cases h1 : t.Wire = 1
    · simp [h1]
    by_cases h2 : t.Wire = 2
    · simp [h2]
    by_cases h5 : t.Wire = 5
    · simp [h5]
    simp [h0, h1, h2, h5]
  unfold tag_Right tRight
  rw [e]
  by_cases h1 : 1 ≤ t.Number
  · by_cases h2 : t.Number ≤ 536870911
    · rw [itT (by simpa using h1), itT (by simpa using h2), sb, sb]; simp [h1, h2]
    · rw [itT (by simpa using h1), itF (by simpa using h2), sb]; simp [h2]
  · rw [itF (by simpa using h1), sb]; simp [h1]
theorem and_7 (w : Nat) (h : w < 18446744073709551616) : andI .u64 (w : Int) 7 = ((w % 8 : Nat) : Int) := by
  have e := andI_nat (k := .u64) rfl (a := w) (b := 7) (by simpa [IntKind.bits] using h) (by simp [IntKind.bits])
  have e2 : w &&& 7 = w % 8 := Nat.and_two_pow_sub_one_eq_mod w 3
  rw [e2] at e; exact e
theorem shr_3 (w : Nat) : shrI .u64 (w : Int) 3 = ((w / 8 : Nat) : Int) := shrI_nat (k := .u64) (a := w) (b := 3) (by simp [IntKind.bits])
theorem tread_is (b : List UInt8) : tag_Read b = some ((⟨(tg b).1, (tg b).2.1⟩ : T_Number_Wire), (tg b).2.2.1, (tg b).2.2.2) := by
  obtain ⟨h1, h2, h3, h4, h5, h6, h7⟩ := rd_bounds b
  unfold tag_Read tg
  rw [read_is, sb]
  by_cases h : (rd b).2.2 = 0
  · rw [itF (by simpa using h)]
    obtain ⟨w, hw⟩ : ∃ w : Nat, (rd b).1 = w := ⟨(rd b).1.toNat, by omega⟩
    rw [hw] at h2 ⊢
    rw [shr_3, and_7 w (by omega)]
    have e0 : IntKind.i64.wrap ((w % 8 : Nat) : Int) = (w : Int) % 8 := by rw [wrap_i64 (by omega)]; omega
    by_cases hg : 4294967295 < w
    · have e1 : IntKind.i64.wrap (if (536870912 : Int) < ((w / 8 : Nat) : Int) then 536870912 else ((w / 8 : Nat) : Int)) = 536870912 := by
        split
        · rfl
        · rw [wrap_i64 (by omega)]; omega
      rw [e0, e1, right_is, sb]
      have e2 : tRight 536870912 ((w : Int) % 8) = false := by simp [tRight]
      simp only [e2]
      rw [itT (by rfl), tgR_none h (.inl (by rw [hw]; omega))]
    · have e1 : IntKind.i64.wrap (if (536870912 : Int) < ((w / 8 : Nat) : Int) then 536870912 else ((w / 8 : Nat) : Int)) = (w : Int) / 8 := by
        rw [if_neg (by omega), wrap_i64 (by omega)]; omega
      rw [e0, e1, right_is, sb]
      simp only
      cases ht : tRight ((w : Int) / 8) ((w : Int) % 8)
      · rw [itT (by rfl), tgR_none h (.inr (by rw [hw]; exact ht))]
      · rw [itF (by rfl), tgR_ok h (by rw [hw, ht]; simp; omega), hw]
  · rw [itT (by simpa using h), tgR_err h]
theorem word_is {t : T_Number_Wire} (h : tRight t.Number t.Wire = true) : tag_word t = some ((tW t.Number t.Wire : Nat) : Int) := by
  have hr := tRight_iff.1 h
  obtain ⟨e, hlt⟩ := tW_of h
  unfold tag_word
  congr 1
  obtain ⟨n, hn⟩ : ∃ n : Nat, t.Number = n := ⟨t.Number.toNat, by omega⟩
  obtain ⟨w, hw⟩ : ∃ w : Nat, t.Wire = w := ⟨t.Wire.toNat, by omega⟩
  have e3 : tW t.Number t.Wire = 8 * n + w := by omega
  rw [e3, hn, hw, wrap_u64, wrap_u64, Int.emod_eq_of_lt (by omega) (by omega), Int.emod_eq_of_lt (by omega) (by omega)]
  have e4 : shlI .u64 (n : Int) 3 = ((n * 8 : Nat) : Int) := by
    have h3 : shlI .u64 (n : Int) 3 = ((n * 8 % 18446744073709551616 : Nat) : Int) := by
      simp [shlI, IntKind.bits, wrap_u64]
    rw [h3, Nat.mod_eq_of_lt (by omega)]
  rw [e4, orI_nat rfl (by simp [IntKind.bits]; omega) (by simp [IntKind.bits]; omega), Nat.or_comm, or_high' w n 3 (by omega)]
  congr 1; omega
theorem tput_is {t : T_Number_Wire} (b : List UInt8) (hb : b.length ≤ 1099511627776) (h : tRight t.Number t.Wire = true) : tag_Put b t = some (b ++ enc (tW t.Number t.Wire), 0) := by
  obtain ⟨_, hlt⟩ := tW_of h
  unfold tag_Put
  rw [right_is, sb, h, itF (by rfl), word_is h, sb, put_is b (by omega) hb, sb]
theorem tput_no {t : T_Number_Wire} (b : List UInt8) (h : tRight t.Number t.Wire = false) : tag_Put b t = some ([], 2) := by
  unfold tag_Put
  rw [right_is, sb, h, itT (by rfl)]
theorem tsize_is {t : T_Number_Wire} (h : tRight t.Number t.Wire = true) : tag_Size t = some ((enc (tW t.Number t.Wire)).length : Int) := by
  obtain ⟨_, hlt⟩ := tW_of h
  unfold tag_Size
  rw [right_is, sb, h, itF (by rfl), word_is h, sb, put_is [] (by omega) (by simp), sb, List.nil_append]
theorem tsize_no {t : T_Number_Wire} (h : tRight t.Number t.Wire = false) : tag_Size t = some 0 := by
  unfold tag_Size
  rw [right_is, sb, h, itT (by rfl)]
theorem alive03_is : darninglaw03_alive = some true := by
  unfold darninglaw03_alive
  have h1 : tg [8] = (1, 0, 1, 0) := by decide
  have h2 : tg [18] = (2, 2, 1, 0) := by decide
  rw [tread_is, sb, tread_is, sb, h1, h2]
  decide
theorem tg_code (b : List UInt8) : 0 ≤ (tg b).2.2.2 ∧ (tg b).2.2.2 ≤ 5 := by
  rcases tg_cases b with ⟨c, h, hc⟩ | ⟨n, w, k, h, _⟩
  · rw [h]; simp only; omega
  · rw [h]; simp
theorem TagReads_true (a0 : (List UInt8)) (_w0 : a0.length ≤ maxLen ∧ ∀ a0' ∈ a0, True) : darninglaw03_TagReads a0 = some true := by
  unfold darninglaw03_TagReads
  rw [alive03_is, sb, itF (by rfl)]
  by_cases hlen : a0.length ≤ 2000
  · have hr := ref03Read_is a0 0 (by omega) (Nat.zero_le _)
    rw [List.drop_zero] at hr
    have hr' : darningref03_Read a0 0 = some (tg a0) := hr
    have := tg_code a0
    rw [itF (by simp; omega), tread_is, sb, hr', sb]
    simp only [wrap_i64 (x := (tg a0).2.2.2) (by omega)]
    simp
  · rw [itT (by simp; omega)]
theorem less_is (t u : T_Number_Wire) : tag_Less t u = some ((decide (t.Number < u.Number)) || ((t.Number == u.Number) && (decide (t.Wire < u.Wire)))) := rfl
theorem TagPuts_true (a0 : (List UInt8)) (a1 : T_Number_Wire) (a2 : T_Number_Wire) (_w0 : a0.length ≤ maxLen ∧ ∀ a0' ∈ a0, True) (_w1 : W_Number_Wire a1) (_w2 : W_Number_Wire a2) : ∃ fuel, darninglaw03_TagPuts fuel a0 a1 a2 = some true := by
  refine ⟨10, ?_⟩
  unfold darninglaw03_TagPuts
  rw [alive03_is, sb, itF (by rfl)]
  by_cases hlen : a0.length ≤ 2000
  · rw [itF (by simp; omega)]
    cases h : tRight a1.Number a1.Wire
    · rw [tput_no a0 h, sb, refRight_is, sb, right_is, sb, h, itF (by rfl), less_is, sb, sb, itF (by simp), itT (by rfl), itT (by rfl), itT (by rfl), tsize_no h, sb, sb]
      rfl
    · obtain ⟨_, hlt⟩ := tW_of h
      have hen := enc_le (v := tW a1.Number a1.Wire) (by omega)
      rw [tput_is a0 (by omega) h, sb, refRight_is, sb, right_is, sb, h, itF (by rfl), less_is, sb, sb, itF (by simp), itF (by rfl), ref03Put_is h, sb, itT (by rfl),
        app_of (by simp; omega), sb, List.nil_append, app_of (by simp; omega), sb, same_bytes, sb, itT (by simp), tsize_is h, sb, sb]
      simp
  · rw [itT (by simp; omega)]
theorem TagBack_true (a0 : T_Number_Wire) (a1 : (List UInt8)) (_w0 : W_Number_Wire a0) (_w1 : a1.length ≤ maxLen ∧ ∀ a1' ∈ a1, True) : darninglaw03_TagBack a0 a1 = some true := by
  unfold darninglaw03_TagBack
  rw [alive03_is, sb, itF (by rfl)]
  by_cases hlen : a1.length ≤ 2000
  · rw [itF (by simp; omega), tread_is, sb]
    have hg : (if ((IntKind.i64.wrap (tg a1).2.2.2) == 0) = true then (tag_Right (⟨(tg a1).1, (tg a1).2.1⟩ : T_Number_Wire) >>= fun rv3 => some (!rv3)) else some false) = some false := by
      rcases tg_cases a1 with ⟨c, h, hc⟩ | ⟨n, w, k, h, hr, _⟩
      · rw [h]
        rw [itF (by rcases hc with rfl | rfl | rfl <;> rfl)]
      · rw [h, itT (by rfl), right_is, sb, hr]; rfl
    simp only
    rw [hg, sb, itF (by rfl)]
    cases h : tRight a0.Number a0.Wire
    · rw [tput_no [] h, sb, itT (by rfl), right_is, sb, h]; rfl
    · obtain ⟨_, hlt⟩ := tW_of h
      have hen := enc_le (v := tW a0.Number a0.Wire) (by omega)
      have h5 := lenN_32 (v := tW a0.Number a0.Wire) (by omega)
      rw [← enc_len] at h5
      rw [tput_is [] (by simp) h, sb, itF (by rfl), List.nil_append, app_of (by simp; omega), sb, List.nil_append, app_of (by simp; omega), sb, tread_is, sb, tg_enc a1 h, itT (by rfl),
        itT (by simp), itT (by simp), tsize_is h, sb, itT (by simp), sb]
      simp; omega
  · rw [itT (by simp; omega)]
end Go.Proofs.Ytmggggknpgokbaa
