/-
  Library functions as plain functions: slices.Concat of bytes. Condition: what comes of it is at most 2^40 bytes.
-/
import Derived.Test.YtnhnanbgphdaeaaS00
import Derived.Test.YtnhnanbgphdaeaaPure
namespace Go.Proofs.Ytnhnanbgphdaeaa
open Go

theorem drop_cons {α : Type} {l t : List α} {x : α} {k : Nat} (h : l.drop k = x :: t) : ∃ hk : k < l.length, l[k] = x ∧ l.drop (k + 1) = t := by
  have hk : k < l.length := by
    rcases Nat.lt_or_ge k l.length with h' | h'
    · exact h'
    · rw [List.drop_eq_nil_of_le h'] at h; cases h
  rw [List.drop_eq_getElem_cons hk] at h
  injection h with h1 h2
  exact ⟨hk, h1, h2⟩
theorem concat_loop1 (l : List (List UInt8)) (hl : l.length ≤ 1099511627776) : ∀ (t : List (List UInt8)) (k s : Nat), l.drop k = t → s + t.flatten.length ≤ 1099511627776 →
    slices_Concat___byte_byte__l1 l s k = some ((s + t.flatten.length : Nat) : Int) := by
  intro t
  induction t with
  | nil =>
    intro k s hd _
    have hk : l.length ≤ k := by have := congrArg List.length hd; simp at this; omega
    refine slices_Concat___byte_byte__l1_inr ?_
    unfold slices_Concat___byte_byte__b1
    rw [itF (by simp; omega)]
    simp
  | cons x t ih =>
    intro k s hd hs
    obtain ⟨hk, hx, hd'⟩ := drop_cons hd
    simp only [List.flatten_cons, List.length_append] at hs
    refine (slices_Concat___byte_byte__l1_inl (size' := ((s + x.length : Nat) : Int)) (v' := ((k + 1 : Nat) : Int)) ?_).trans ?_
    · unfold slices_Concat___byte_byte__b1
      rw [itT (by simp; omega), idx_of rfl hk, sb, hx, wrap_i64 (by omega), itF (by simp; omega), wrap_i64 (by omega)]
      push_cast; rfl
    · rw [ih _ _ hd' (by omega)]
      simp only [List.flatten_cons, List.length_append]
      congr 2; omega
theorem concat_loop2 (l : List (List UInt8)) (hl : l.length ≤ 1099511627776) : ∀ (t : List (List UInt8)) (k : Nat) (acc : List UInt8), l.drop k = t → acc.length + t.flatten.length ≤ 1099511627776 →
    slices_Concat___byte_byte__l2 l acc k = some (acc ++ t.flatten) := by
  intro t
  induction t with
  | nil =>
    intro k acc hd _
    have hk : l.length ≤ k := by have := congrArg List.length hd; simp at this; omega
    refine slices_Concat___byte_byte__l2_inr ?_
    unfold slices_Concat___byte_byte__b2
    rw [itF (by simp; omega)]
    simp
  | cons x t ih =>
    intro k acc hd hs
    obtain ⟨hk, hx, hd'⟩ := drop_cons hd
    simp only [List.flatten_cons, List.length_append] at hs
    refine (slices_Concat___byte_byte__l2_inl (newslice' := acc ++ x) (v2' := ((k + 1 : Nat) : Int)) ?_).trans ?_
    · unfold slices_Concat___byte_byte__b2
      rw [itT (by simp; omega), idx_of rfl hk, sb, hx, app_of (by omega), sb, wrap_i64 (by omega)]
      push_cast; rfl
    · rw [ih _ _ hd' (by rw [List.length_append]; omega)]
      simp
theorem grow_is {n : Nat} (h : n ≤ 1099511627776) : slices_Grow___byte_byte_ (n : Int) = some [] := by
  unfold slices_Grow___byte_byte_
  have e : IntKind.i64.wrap ((n : Int) - IntKind.i64.wrap (0 - 0)) = n := by rw [wrap_i64 (x := 0 - 0) (by omega), wrap_i64 (by omega)]; omega
  rw [itF (by simp), e]
  by_cases h0 : (n : Int) > 0
  · rw [itT (by simpa using h0), mkO_of (a := n) rfl (Int.le_refl _) (by omega), sb]
    have e0 : cut (List.replicate n (0 : UInt8)) 0 0 = some [] := cut_take (b := 0) rfl (Nat.zero_le _)
    rw [e0, sb]
  · rw [itF (by simpa using h0)]
theorem concat_is {l : List (List UInt8)} (hl : l.length ≤ 1099511627776) (h : l.flatten.length ≤ 1099511627776) : slices_Concat___byte_byte_ l = some l.flatten := by
  unfold slices_Concat___byte_byte_
  have h1 := concat_loop1 l hl l 0 0 rfl (by omega)
  have h1' : slices_Concat___byte_byte__l1 l 0 0 = _ := h1
  have h2 := concat_loop2 l hl l 0 [] rfl (by simpa using h)
  have h2' : slices_Concat___byte_byte__l2 l [] 0 = _ := h2
  rw [h1', sb, grow_is (by omega), sb, h2', sb]
  simp
end Go.Proofs.Ytnhnanbgphdaeaa
