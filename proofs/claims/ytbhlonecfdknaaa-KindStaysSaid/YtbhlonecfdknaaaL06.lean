/-
  The laws as plain functions. No condition.
-/
import Derived.Test.YtbhlonecfdknaaaP1
import Derived.Test.YtbhlonecfdknaaaT
import Derived.Test.YtbhlonecfdknaaaK1
import Derived.KernelRfl
namespace Go.Proofs.Ytbhlonecfdknaaa
open Go
set_option linter.unusedVariables false
theorem sign_cases (k w : Int) : (kNum k = false → signS k w = (0, false)) ∧ ((signS k w).2 = false → (signS k w).1 = 0) := by
  refine ⟨fun h => ?_, fun h => ?_⟩
  · have hk := of_decide_eq_false h
    unfold signS
    rw [if_neg (by omega), if_neg (by omega), if_neg (by omega), if_neg (by omega)]
  · revert h
    unfold signS
    split
    · intro h; cases h
    · split
      · intro h; cases h
      · split
        · intro h; cases h
        · split
          · intro h; cases h
          · intro _; rfl
theorem KindWords_true (a0 : Int) (a1 : Int) (_w0 : (Lit.int .i64 a0).wf = true) (w1 : (Lit.int .u64 a1).wf = true) : darninglaw06_KindWords a0 a1 = some true := by
  have hw : 0 ≤ a1 ∧ a1 ≤ 18446744073709551615 := bd_u64 w1
  obtain ⟨s1, s2⟩ := sign_cases a0 a1
  unfold darninglaw06_KindWords
  rw [kalive_is, sb, itF (by rfl), kcanon_is a0 hw, sb, ksigned_is a0 hw, sb, refSigned_is a0 hw, sb, refKNum_is, sb]
  cases hn : kNum a0 with
  | false =>
    rw [itT (by rfl)]
    unfold kSgn
    rw [s1 hn]
    rfl
  | true =>
    rw [itF (by rfl), refCanon_is a0 hw]
    unfold kSgn
    cases h2 : (signS a0 a1).2 with
    | true => simp [sb, wrap_i64]
    | false => simp [sb, s2 h2, wrap_i64]
theorem forms_step {name : Str} {want : Int} {i : Nat} (h : i ≤ 17) : darninglaw06_KindForms_l1 name want i = darninglaw06_KindForms_l1 name (if kName i = name then (i : Int) else want) ((i + 1 : Nat) : Int) := by
  have hl : i < namesL.length := by show i < 18; omega
  have hk : kName i = namesL[i] := by unfold kName; rw [Int.toNat_natCast, List.getElem?_eq_getElem hl]; rfl
  have hw : IntKind.i64.wrap ((i : Int) + 1) = ((i + 1 : Nat) : Int) := by rw [wrap_i64 (by omega)]; omega
  refine darninglaw06_KindForms_l1_inl ?_
  unfold darninglaw06_KindForms_b1
  rw [itT (by simp; omega), names_is, sb, idx_of rfl hl, sb, hw, ← hk]
  by_cases hm : kName i = name
  · rw [itT (by simpa using hm), if_pos hm]
  · rw [itF (by simpa using hm), if_neg hm]
theorem forms_end {name : Str} {want : Int} : darninglaw06_KindForms_l1 name want ((18 : Nat) : Int) = some want := darninglaw06_KindForms_l1_inr (by unfold darninglaw06_KindForms_b1; rw [itF (by decide)])
theorem forms_none {name : Str} : ∀ (d i : Nat) (want : Int), i + d = 18 → (∀ j : Nat, i ≤ j → j ≤ 17 → kName j ≠ name) → darninglaw06_KindForms_l1 name want i = some want
  | 0, i, want, h, _ => by
    obtain rfl : i = 18 := by omega
    exact forms_end
  | d + 1, i, want, h, hn => by
    rw [forms_step (by omega), if_neg (hn i (Nat.le_refl _) (by omega))]
    exact forms_none d (i + 1) want (by omega) fun j h1 h2 => hn j (by omega) h2
theorem forms_one {name : Str} {k : Nat} (hk : k ≤ 17) (hm : kName k = name) (hu : ∀ j : Nat, j ≤ 17 → 1 ≤ j → kName j = name → j = k) : ∀ (d i : Nat) (want : Int), 1 ≤ i → i + d = k → darninglaw06_KindForms_l1 name want i = some (k : Int)
  | 0, i, want, h1, h => by
    obtain rfl : i = k := by omega
    rw [forms_step hk, if_pos hm]
    exact forms_none (17 - i) (i + 1) _ (by omega) fun j h1 h2 e => by have := hu j h2 (by omega) e; omega
  | d + 1, i, want, h1, h => by
    rw [forms_step (by omega), if_neg (fun e => by have := hu i (by omega) h1 e; omega)]
    exact forms_one hk hm hu d (i + 1) want (by omega) (by omega)
theorem parse_forms (name : Str) : ∃ k c : Int, kind_Parse name = some (k, c) ∧ darninglaw06_KindForms_l1 name 0 1 = some k ∧ ((c = 0 ∧ 1 ≤ k ∧ k ≤ 17) ∨ (c = 11 ∧ k = 0)) := by
  by_cases h : ∃ k, kRight k = true ∧ kName k = name
  · obtain ⟨k, hk, hm⟩ := h
    have h1 := of_decide_eq_true hk
    obtain ⟨n, rfl⟩ : ∃ n : Nat, k = n := ⟨k.toNat, by omega⟩
    refine ⟨n, 0, by rw [← hm]; exact parse_name hk, ?_, .inl ⟨rfl, h1.1, h1.2⟩⟩
    have := forms_one (name := name) (k := n) (by omega) hm (fun j j1 j2 e => by
      have := kName_inj (k := (j : Int)) (l := (n : Int)) (decide_eq_true (by omega)) hk (e.trans hm.symm)
      omega) (n - 1) 1 0 (Nat.le_refl _) (by omega)
    exact this
  · refine ⟨0, 11, parse_no fun k hk e => h ⟨k, hk, e⟩, ?_, .inr ⟨rfl, rfl⟩⟩
    have := forms_none (name := name) 17 1 0 rfl fun j j1 j2 e => h ⟨(j : Int), decide_eq_true (by omega), e⟩
    exact this
theorem KindForms_true (a0 : Int) (a1 : Str) (_w0 : (Lit.int .i64 a0).wf = true) (_w1 : a1.length ≤ 140737488351232) : darninglaw06_KindForms a0 a1 = some true := by
  unfold darninglaw06_KindForms
  rw [kalive_is, sb, itF (by rfl)]
  by_cases hlen : a1.length ≤ 500
  · rw [itF (by simp; omega)]
    obtain ⟨k, c, hp, hf, hc⟩ := parse_forms a1
    rw [hp, sb, hf, sb]
    have e : (if (k != k) = true then some true else if (!((IntKind.i64.wrap c == 0) == decide (k > 0))) = true then some true else if (IntKind.i64.wrap c != 0) = true then
        if (IntKind.i64.wrap c != 11) = true then some true else kind_All >>= fun rv4 => if ((rv4.length : Int) != 17) = true then some true else kind_All >>= fun rv5 => idx rv5 16 >>= fun x2 => if (x2 != 17) = true then some true else kind_All >>= fun rv6 => idx rv6 0 >>= fun x3 => some (x3 != 1)
        else kind_All >>= fun rv7 => if ((rv7.length : Int) != 17) = true then some true else kind_All >>= fun rv8 => idx rv8 16 >>= fun x4 => if (x4 != 17) = true then some true else kind_All >>= fun rv9 => idx rv9 0 >>= fun x5 => some (x5 != 1)) = some false := by
      have ha : (kind_All >>= fun rv4 => if ((rv4.length : Int) != 17) = true then some true else kind_All >>= fun rv5 => idx rv5 16 >>= fun x2 => if (x2 != 17) = true then some true else kind_All >>= fun rv6 => idx rv6 0 >>= fun x3 => some (x3 != 1)) = some false := by
        rw [kall_is, sb, itF (by decide), sb]
        rfl
      rw [itF (by simp)]
      rcases hc with ⟨rfl, h1, h2⟩ | ⟨rfl, rfl⟩
      · rw [itF (by rw [wrap_i64 (by omega)]; simp; omega), itF (by rw [wrap_i64 (by omega)]; rfl)]
        exact ha
      · rw [itF (by rw [wrap_i64 (by omega)]; rfl), itT (by rw [wrap_i64 (by omega)]; rfl), itF (by rw [wrap_i64 (by omega)]; rfl)]
        exact ha
    rw [e, sb, itF (by rfl), kwire_is, sb, refKRight_is, sb]
    cases hr : kRight a0 with
    | false =>
      have h1 := of_decide_eq_false hr
      have hn : kNum a0 = false := decide_eq_false (by omega)
      rw [itT (by rfl), kright_is, sb, hr, itT (by rfl), kname_is, sb, hr, knumber_is, hn]
      rfl
    | true =>
      have h1 := of_decide_eq_true hr
      obtain ⟨n, rfl⟩ : ∃ n : Nat, a0 = n := ⟨a0.toNat, by omega⟩
      have hl : n < namesL.length := by show n < 18; omega
      have hk : kName n = namesL[n] := by unfold kName; rw [Int.toNat_natCast, List.getElem?_eq_getElem hl]; rfl
      rw [itF (by rfl), kright_is, sb, hr, itT (by rfl), kname_is, sb, hr, names_is, sb, idx_of rfl hl, sb, ← hk, itT (by simp), itT (by rfl), refKWire_is, sb, itT (by simp), knumber_is, sb, refKNum_is, sb, sb]
      simp
  · rw [itT (by simp; omega)]
theorem KindStays_true (a0 : Int) (a1 : Int) (a2 : Int) (_w0 : (Lit.int .i64 a0).wf = true) (_w1 : (Lit.int .i64 a1).wf = true) (w2 : (Lit.int .u64 a2).wf = true) : darninglaw06_KindStays a0 a1 a2 = some true := by
  have hw : 0 ≤ a2 ∧ a2 ≤ 18446744073709551615 := bd_u64 w2
  unfold darninglaw06_KindStays
  rw [kalive_is, sb, itF (by rfl), kcanon_is a0 hw, sb]
  have first : ∀ {β : Type} (f : Unit ⊕ Unit → Option β), ((if (IntKind.i64.wrap (if kNum a0 = true then (canonS a0 a2, (0 : Int)) else (0, 2)).2 == 0) = true then
      kind_Canon a0 (if kNum a0 = true then (canonS a0 a2, (0 : Int)) else (0, 2)).1 >>= fun rv3 => kind_Signed a0 a2 >>= fun rv4 => kind_Signed a0 (if kNum a0 = true then (canonS a0 a2, (0 : Int)) else (0, 2)).1 >>= fun rv5 =>
        if ((IntKind.i64.wrap rv3.2 != 0) || ((rv3.1 != (if kNum a0 = true then (canonS a0 a2, (0 : Int)) else (0, 2)).1) || ((rv4.1 != rv5.1) || (rv4.2 != rv5.2)))) = true then some (.inr ()) else some (.inl ())
      else some (.inl ()) : Option (Unit ⊕ Unit)) >>= f) = f (.inl ()) := by
    intro β f
    cases hn : kNum a0 with
    | false => rw [itF (by rfl), sb]
    | true =>
      simp only [if_true]
      rw [itT (by rfl), kcanon_is a0 (canon_bd a0 hw), sb, ksigned_is a0 hw, sb, ksigned_is a0 (canon_bd a0 hw), sb, hn]
      have e1 := canon_canon a0 hw
      have e2 : kSgn a0 (canonS a0 a2) = kSgn a0 a2 := by unfold kSgn; rw [sign_canon a0 hw]
      rw [e2]
      simp only [if_true, e1]
      rw [itF (by simp [wrap_i64]), sb]
  rw [first]
  show ((kind_Right a0 >>= fun rv6 => if (!rv6) = true then some true else kind_Right a1 >>= fun rv7 => some (!rv7)) >>= fun g => _) = _
  rw [kright_is, sb]
  cases h0 : kRight a0 with
  | false => rfl
  | true =>
    rw [itF (by rfl), kright_is, sb, sb]
    cases h1 : kRight a1 with
    | false => rfl
    | true =>
      rw [itF (by rfl), kname_is, sb, h0, if_pos rfl, parse_name h0, sb, itT (by rfl), itT (by simp), sb, kname_is, sb, h1, if_pos rfl, sb]
      by_cases h : a0 = a1
      · subst h; simp
      · have : kName a0 ≠ kName a1 := fun e => h (kName_inj h0 h1 e)
        have b1 : (kName a0 == kName a1) = false := by simpa using this
        have b2 : (a0 == a1) = false := by simpa using h
        rw [b1, b2]
        rfl
end Go.Proofs.Ytbhlonecfdknaaa
