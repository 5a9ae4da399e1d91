/-
  The laws as plain functions. No condition.
-/
import Derived.Test.YthkdneddbbocmaaP1
import Derived.Test.YthkdneddbbocmaaO
namespace Go.Proofs.Ythkdneddbbocmaa
open Go
set_option linter.unusedVariables false
section
theorem code9 (k : Int) (b : List UInt8) : 0 ≤ (wordsS k b).2 ∧ (wordsS k b).2 ≤ 4 := by
  by_cases h : (wordsS k b).2 = 0
  · omega
  · have := (wordsS_bad h).2; omega
theorem ralive_is : darninglaw09_alive = some true := by
  have h : wordsS 3 [(1 : UInt8), (172 : UInt8), (2 : UInt8)] = ([1, 300], 0) := by
    have hn : kNum 3 = true := by decide
    have e1 : unit9 3 [(1 : UInt8), (172 : UInt8), (2 : UInt8)] = .inr 1 := by decide
    have e2 : unit9 3 [(172 : UInt8), (2 : UInt8)] = .inr 2 := by decide
    have hp : pcs 3 [(1 : UInt8), (172 : UInt8), (2 : UInt8)] = ([[(1 : UInt8)], [(172 : UInt8), (2 : UInt8)]], 0) := by
      rw [pcs_cons (by simp) e1]
      show ([(1 : UInt8)] :: (pcs 3 [(172 : UInt8), (2 : UInt8)]).1, (pcs 3 [(172 : UInt8), (2 : UInt8)]).2) = _
      rw [pcs_cons (by simp) e2]
      show ([(1 : UInt8)] :: [(172 : UInt8), (2 : UInt8)] :: (pcs 3 []).1, (pcs 3 []).2) = _
      rw [pcs_nil]
    rw [wordsS_of hn (by rw [hp]), hp]
    simp only [List.map]
    have w1 : wordOf 3 [(1 : UInt8)] = 1 := by decide
    have w2 : wordOf 3 [(172 : UInt8), (2 : UInt8)] = 300 := by decide
    rw [w1, w2]
  unfold darninglaw09_alive
  rw [rwords_is _ (by simp), sb, h, itT (by decide), same_is _ _ (by simp), sb]
  rfl
theorem RunWords_true (a0 : Int) (a1 : (List UInt8)) (a2 : Int) (_w0 : (Lit.int .i64 a0).wf = true) (w1 : a1.length * 1 ≤ 140737488351232 ∧ ∀ a1' ∈ a1, True) (_w2 : (Lit.int .i64 a2).wf = true) : ∃ fuel, darninglaw09_RunWords fuel a0 a1 a2 = some true := by
  refine ⟨10, ?_⟩
  unfold darninglaw09_RunWords
  rw [ralive_is, sb, itF (by rfl)]
  by_cases hl : 2000 < a1.length
  · rw [itT (by simp; omega)]
  · have hb : a1.length ≤ 1048576 := by omega
    have hc := code9 a0 a1
    have hn := wordsS_len a0 a1
    rw [itF (by simp; omega), rwords_is a0 hb, sb, refWords_is a0 hb, sb, rcount_is a0 hb, sb, rat_is a0 a2 hb, sb]
    simp only
    rw [wrap_i64 (x := (wordsS a0 a1).2) (by omega), itF (by simp), itF (by simp), same_is _ _ (by omega), sb, itF (by simp), sb, itF (by simp)]
    by_cases h0 : (wordsS a0 a1).2 = 0
    · rw [itF (by simp [h0])]
      have he : can9 a0 a1 = ((wordsS a0 a1).1.flatMap (sPut a0) == a1) := by
        unfold can9
        rw [Bool.beq_eq_decide_eq]
        exact decide_eq_decide.2 ⟨fun h => h.2, fun h => ⟨h0, h⟩⟩
      have hrest : (run_Canonical a0 a1 >>= fun rv8 => darningref09_Pack 10 a0 (wordsS a0 a1).1 >>= fun rv9 => darningref01_Same rv9 a1 >>= fun rv10 => some (rv8 == rv10)) = some true := by
        rw [rcan_is a0 hb, sb, refPack_is wordsS_bd (by omega), sb, same_bytes, sb, he]
        simp
      by_cases hi : a2 < 0 ∨ a2 ≥ (wordsS a0 a1).1.length
      · have hA : at9 a0 a1 a2 = (0, 11) := by unfold at9; rw [if_neg (by simp [h0]), if_pos hi]
        have hi' : (decide (a2 < 0) || decide (a2 ≥ ((wordsS a0 a1).1.length : Int))) = true := by simpa using hi
        rw [hA, itT hi', itF (by decide), sb]
        exact hrest
      · have hi' : (decide (a2 < 0) || decide (a2 ≥ ((wordsS a0 a1).1.length : Int))) = false := by
          rw [Bool.or_eq_false_iff]; exact ⟨decide_eq_false (by omega), decide_eq_false (by omega)⟩
        have hA : at9 a0 a1 a2 = ((wordsS a0 a1).1.getD a2.toNat 0, 0) := by unfold at9; rw [if_neg (by simp [h0]), if_neg hi]
        rw [hA, itF hi']
        obtain ⟨i, rfl⟩ : ∃ i : Nat, a2 = i := ⟨a2.toNat, by omega⟩
        have hlt : i < (wordsS a0 a1).1.length := by omega
        have e : (wordsS a0 a1).1.getD (i : Int).toNat 0 = (wordsS a0 a1).1[i] := by simp [List.getD_eq_getElem?_getD, hlt]
        rw [e, itF (show (IntKind.i64.wrap (0 : Int) != 0) = false by decide), idx_of rfl hlt, sb, sb, itF (by simp), sb]
        exact hrest
    · rw [itT (by simpa using h0)]
      have hA : at9 a0 a1 a2 = (0, (wordsS a0 a1).2) := by unfold at9; rw [if_pos h0]
      rw [hA]
      simp only
      rw [wrap_i64 (by omega), itT (by simp), itT (by rfl), rcan_is a0 hb, sb]
      have : can9 a0 a1 = false := by unfold can9; exact decide_eq_false fun h => h0 h.1
      rw [this]
      rfl
theorem RunPacks_true (a0 : Int) (a1 : (List Int)) (_w0 : (Lit.int .i64 a0).wf = true) (w1 : a1.length * 8 ≤ 140737488351232 ∧ ∀ a1' ∈ a1, (Lit.int .u64 a1').wf = true) : ∃ fuel, darninglaw09_RunPacks fuel a0 a1 = some true := by
  have hw : ∀ w ∈ a1, 0 ≤ w ∧ w ≤ 18446744073709551615 := fun w h => bd_u64 (w1.2 w h)
  refine ⟨10, ?_⟩
  unfold darninglaw09_RunPacks
  rw [ralive_is, sb, itF (by rfl)]
  by_cases hl : 500 < a1.length
  · rw [itT (by simp; omega)]
  · rw [itF (by simp; omega), rpack_is a0 hw (by omega), sb, refKNum_is, sb]
    cases hn : kNum a0 with
    | false => rfl
    | true =>
      have hlen : (a1.flatMap (sPut a0)).length ≤ 10 * a1.length := by
        clear hl w1
        induction a1 with
        | nil => simp
        | cons x l ih =>
          have h1 := sPut_len (k := a0) (hw x List.mem_cons_self)
          have h2 := ih (fun w h => hw w (List.mem_cons_of_mem _ h))
          simp only [List.flatMap_cons, List.length_append, List.length_cons]
          omega
      rw [itF (by rfl)]
      simp only [if_true]
      rw [itT (by rfl), refPack_is hw (by omega), sb, same_bytes, sb, itT (by simp), rcan_is a0 (by omega), sb, can_pack hn hw, sb]
theorem RunCuts_true (a0 : Int) (a1 : (List UInt8)) (a2 : Int) (_w0 : (Lit.int .i64 a0).wf = true) (w1 : a1.length * 1 ≤ 140737488351232 ∧ ∀ a1' ∈ a1, True) (_w2 : (Lit.int .i64 a2).wf = true) : darninglaw09_RunCuts a0 a1 a2 = some true := by
  unfold darninglaw09_RunCuts
  rw [ralive_is, sb, itF (by rfl)]
  by_cases hl : 2000 < a1.length
  · rw [itT (by simp; omega)]
  · have hb : a1.length ≤ 1048576 := by omega
    have hc := code9 a0 a1
    obtain ⟨hE, hE1⟩ := endsS_words (k := a0) (b := a1)
    rw [itF (by simp; omega), rcut_is a0 a2 hb, sb, refEnds_is a0 hb, sb]
    by_cases h0 : (wordsS a0 a1).2 = 0
    · obtain ⟨hn, hp0, hw⟩ := wordsS_zero h0
      have hfl := pcs_flat a0 a1 hp0
      have hpl := pcs_len a0 a1
      rw [itF (by rw [hE]; simp [h0]), hE1 h0]
      simp only [ends_length]
      by_cases hi : a2 < 0 ∨ a2 > (pcs a0 a1).1.length
      · have hC : cut9 a0 a1 a2 = ([], [], 11) := by unfold cut9; rw [if_neg (by simp [h0]), if_pos hi]
        have hi' : (decide (a2 < 0) || decide (a2 > ((pcs a0 a1).1.length : Int))) = true := by simpa using hi
        rw [hC, itT hi']
        rfl
      · have hC : cut9 a0 a1 a2 = (((pcs a0 a1).1.take a2.toNat).flatten, ((pcs a0 a1).1.drop a2.toNat).flatten, 0) := by unfold cut9; rw [if_neg (by simp [h0]), if_neg hi]
        have hi' : (decide (a2 < 0) || decide (a2 > ((pcs a0 a1).1.length : Int))) = false := by
          rw [Bool.or_eq_false_iff]; exact ⟨decide_eq_false (by omega), decide_eq_false (by omega)⟩
        rw [hC, itF hi']
        obtain ⟨n, rfl⟩ : ∃ n : Nat, a2 = n := ⟨a2.toNat, by omega⟩
        have hle : n ≤ (pcs a0 a1).1.length := by omega
        simp only [Int.toNat_natCast]
        obtain ⟨x, hx⟩ : ∃ x, x = ((pcs a0 a1).1.take n).flatten := ⟨_, rfl⟩
        obtain ⟨y, hy⟩ : ∃ y, y = ((pcs a0 a1).1.drop n).flatten := ⟨_, rfl⟩
        have hsplit : x ++ y = a1 := by rw [hx, hy, ← List.flatten_append, List.take_append_drop]; exact hfl
        have hat : (if (decide ((n : Int) > 0)) then (idx (ends 0 (pcs a0 a1).1) (IntKind.i64.wrap ((n : Int) - 1)) >>= fun x => some x) else some 0) = some ((x.length : Nat) : Int) := by
          cases n with
          | zero => rw [itF (by simp), hx]; simp
          | succ m =>
            have hm : m < (ends 0 (pcs a0 a1).1).length := by rw [ends_length]; omega
            have e : IntKind.i64.wrap (((m + 1 : Nat) : Int) - 1) = (m : Int) := by rw [wrap_i64 (by omega)]; omega
            rw [itT (by simp), e, idx_of rfl hm, sb]
            have := ends_get (pcs a0 a1).1 0 m (by omega)
            rw [List.getElem?_eq_getElem hm, Nat.zero_add] at this
            rw [hx, Option.some.inj this]
        rw [← hx, ← hy, hat, sb, itT (show (IntKind.i64.wrap (0 : Int) == 0) = true by decide)]
        subst hsplit
        rw [cut_of (i := 0) (j := (x.length : Int)) (a := 0) (b := x.length) rfl rfl (by omega) (by simp), sb, same_bytes, sb, itT (by simp), cut_of (a := x.length) (b := (x ++ y).length) rfl rfl (by simp) (Nat.le_refl _), sb, same_bytes, sb, sb]
        simp
    · obtain ⟨_, h4⟩ := wordsS_bad h0
      rw [itT (by rw [hE]; simpa using h0)]
      unfold cut9
      rw [if_pos h0, hE]
      simp only
      rw [wrap_i64 (by omega)]
      simp [wrap_i64]
theorem RunTogether_true (a0 : Int) (a1 : (List UInt8)) (a2 : (List UInt8)) (_w0 : (Lit.int .i64 a0).wf = true) (w1 : a1.length * 1 ≤ 140737488351232 ∧ ∀ a1' ∈ a1, True) (w2 : a2.length * 1 ≤ 140737488351232 ∧ ∀ a2' ∈ a2, True) : darninglaw09_RunTogether a0 a1 a2 = some true := by
  unfold darninglaw09_RunTogether
  rw [ralive_is, sb, itF (by rfl), wrap_i64 (by omega)]
  by_cases hl : (2000 : Int) < (a1.length : Int) + a2.length
  · rw [itT (by simpa using hl)]
  · have hb1 : a1.length ≤ 1048576 := by omega
    have hb2 : a2.length ≤ 1048576 := by omega
    have c1 := code9 a0 a1
    have c2 := code9 a0 a2
    have c3 := code9 a0 (a1 ++ a2)
    have n1 := wordsS_len a0 a1
    have n2 := wordsS_len a0 a2
    rw [itF (by simpa using hl), rwords_is a0 hb1, sb, rwords_is a0 hb2, sb, app_of (by simp; omega), sb, app_of (by simp; omega), sb, List.nil_append, rwords_is a0 (by simp; omega), sb]
    rw [wrap_i64 (x := (wordsS a0 a1).2) (by omega), wrap_i64 (x := (wordsS a0 a2).2) (by omega), wrap_i64 (x := (wordsS a0 (a1 ++ a2)).2) (by omega)]
    by_cases h1 : (wordsS a0 a1).2 = 0
    · obtain ⟨e1, e2⟩ := words_append (b := a2) h1
      by_cases h2 : (wordsS a0 a2).2 = 0
      · rw [itF (by simp [h1, h2]), itF (by rw [e1]; simp [h2]), app_of (by simp; omega), sb, app_of (by simp; omega), sb, List.nil_append, e2 h2, same_is _ _ (by simp; omega), sb, sb, itF (by simp), rcut_is a0 _ (by simp; omega), sb, cut_append h1 h2, itT (by rfl), same_bytes, sb, itT (by simp), same_bytes, sb]
        simp
      · rw [itT (by simp [h2]), e1]
        simp [h1, h2]
    · rw [itT (by simp [h1])]
      simp [h1]
end
end Go.Proofs.Ythkdneddbbocmaa
