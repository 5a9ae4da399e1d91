/-
  What the plain functions are. No condition.
-/
import Derived.Test.YtbhlonecfdknaaaS1
import Derived.Test.YtbhlonecfdknaaaK1
namespace Go.Proofs.Ytbhlonecfdknaaa
open Go
set_option linter.unusedVariables false
theorem xorI_bits (k : IntKind) (a b : Int) : xorI k a b = bits .xor k a b := rfl
theorem fdiv_pos (x : Int) (n : Nat) (h : 0 < n) : x.fdiv (n : Int) = x / n := Int.fdiv_eq_ediv_of_nonneg _ (by omega)
theorem low32_is (w : Int) : bits_Low32 w = some (w % 4294967296) := by unfold bits_Low32; rw [wrap_u32]
theorem sign32_is (w : Int) : bits_Sign32 w = some (sgnS w) := by
  unfold bits_Sign32
  rw [low32_is, sb, wrap_i32']
  unfold sgnS
  congr 1
  split <;> split <;> omega
theorem wide32_is {n : Int} (h : -2147483648 ≤ n ∧ n ≤ 2147483647) : bits_Wide32 n = some (wideS n) := by
  unfold bits_Wide32
  rw [wrap_i64 (by omega), wrap_u64]
  unfold wideS
  congr 1
  split <;> omega
theorem zag_is {w : Int} (h : 0 ≤ w ∧ w ≤ 18446744073709551615) : bits_Zag w = some (zagS w) := by
  unfold bits_Zag
  have e1 : shrI .u64 w 1 = w / 2 := fdiv_pos w 2 (by omega)
  have e2 : shlI .u64 w 63 = IntKind.u64.wrap (w * 9223372036854775808) := rfl
  have e3 : ∀ x : Int, shrI .i64 x 63 = x / 9223372036854775808 := fun x => fdiv_pos x 9223372036854775808 (by omega)
  have e4 : ∀ x : Int, IntKind.i64.wrap x = Go.RowKit.wrap64 x := fun x => by rw [wrap_i64']; unfold Go.RowKit.wrap64; split <;> omega
  rw [e1, e2, e3, wrap_i64 (x := w / 2) (by omega), e4, xorI_bits, zag_bits h]
theorem rsign32_is {w : Int} (h : 0 ≤ w ∧ w ≤ 18446744073709551615) : darningref01_Sign32 w = some (sgnS w) := by
  unfold darningref01_Sign32
  rw [Int.tmod_eq_emod_of_nonneg h.1, wrap_i64 (x := w % 4294967296) (by omega)]
  unfold sgnS
  by_cases h2 : w % 4294967296 < 2147483648
  · rw [itF (by simp; omega), if_pos h2]
  · rw [itT (by simp; omega), if_neg h2, wrap_i64 (by omega)]
theorem rwide_is {n : Int} (h : -9223372036854775808 ≤ n ∧ n ≤ 9223372036854775807) : darningref01_Wide n = some (wideS n) := by
  unfold darningref01_Wide wideS
  by_cases h0 : 0 ≤ n
  · rw [itT (by simp; omega), if_pos h0, wrap_u64, Int.emod_eq_of_lt (by omega) (by omega)]
  · rw [itF (by simp; omega), if_neg h0]
    simp (disch := omega) only [wrap_i64, wrap_u64]
    congr 1
    omega
theorem rzag_is {w : Int} (h : 0 ≤ w ∧ w ≤ 18446744073709551615) : darningref01_Zag w = some (zagS w) := by
  unfold darningref01_Zag zagS
  rw [Int.tdiv_eq_ediv_of_nonneg h.1, Int.tmod_eq_emod_of_nonneg h.1, wrap_u64, Int.emod_eq_of_lt (a := w / 2) (by omega) (by omega), wrap_i64 (x := w / 2) (by omega)]
  by_cases h2 : w % 2 = 0
  · rw [itF (by simp; omega), if_pos h2]
  · rw [itT (by simp; omega), if_neg h2, wrap_i64 (x := 0 - w / 2) (by omega), wrap_i64 (by omega)]
    congr 1
    omega
end Go.Proofs.Ytbhlonecfdknaaa
namespace Go.Proofs.Ytbhlonecfdknaaa
open Go
set_option linter.unusedVariables false
def kRight (k : Int) : Bool := decide (1 ≤ k ∧ k ≤ 17)
def kNum (k : Int) : Bool := decide (1 ≤ k ∧ k ≤ 14)
def kWire (k : Int) : Int := if 15 ≤ k then 2 else if 12 ≤ k then 1 else if 9 ≤ k then 5 else 0
def canonS (k w : Int) : Int :=
  if k = 1 ∨ k = 8 then wideS (sgnS w) else if k = 3 ∨ k = 5 ∨ k = 9 ∨ k = 10 ∨ k = 11 then w % 4294967296 else if k = 7 then (if 0 < w then 1 else 0) else w
def signS (k w : Int) : Int × Bool :=
  if k = 1 ∨ k = 8 ∨ k = 10 then (sgnS w, true) else if k = 2 ∨ k = 13 then (if w < 9223372036854775808 then w else w - 18446744073709551616, true)
  else if k = 5 then (zagS (w % 4294967296), true) else if k = 6 then (zagS w, true) else (0, false)
theorem refKRight_is (k : Int) : darningref06_Right k = some (kRight k) := by unfold darningref06_Right kRight; simp [Bool.decide_and]
theorem refKNum_is (k : Int) : darningref06_Number k = some (kNum k) := by unfold darningref06_Number kNum; simp [Bool.decide_and]
theorem refKWire_is (k : Int) : darningref06_Wire k = some (kWire k) := by
  unfold darningref06_Wire kWire
  by_cases h1 : 15 ≤ k
  · rw [itT (by simpa using h1), if_pos h1]
  · rw [itF (by simpa using h1), if_neg h1]
    by_cases h2 : 12 ≤ k
    · rw [itT (by simpa using h2), if_pos h2]
    · rw [itF (by simpa using h2), if_neg h2]
      by_cases h3 : 9 ≤ k
      · rw [itT (by simpa using h3), if_pos h3]
      · rw [itF (by simpa using h3), if_neg h3]
theorem refCanon_is (k : Int) {w : Int} (h : 0 ≤ w ∧ w ≤ 18446744073709551615) : darningref06_Canon k w = some (canonS k w) := by
  have hs := sgn_bd w
  unfold darningref06_Canon canonS
  by_cases h1 : k = 1 ∨ k = 8
  · rw [if_pos h1]
    have e : (if (k == 1) = true then some (k == 1) else some (k == 8)) = some true := by rcases h1 with rfl | rfl <;> rfl
    rw [e, sb, itT rfl, rsign32_is h, sb, rwide_is (by omega), sb]
  · rw [if_neg h1]
    have e : (if (k == 1) = true then some (k == 1) else some (k == 8)) = some false := by rw [itF (by simp; omega)]; simp; omega
    rw [e, sb, itF rfl]
    by_cases h2 : k = 3 ∨ k = 5 ∨ k = 9 ∨ k = 10 ∨ k = 11
    · rw [if_pos h2]
      have e2 : (if (k == 3) = true then some (k == 3) else if (k == 5) = true then some (k == 5) else if (k == 9) = true then some (k == 9) else if (k == 10) = true then some (k == 10) else some (k == 11)) = some true := by
        rcases h2 with rfl | rfl | rfl | rfl | rfl <;> rfl
      rw [e2, sb, itT rfl, Int.tmod_eq_emod_of_nonneg h.1]
    · rw [if_neg h2]
      have e2 : (if (k == 3) = true then some (k == 3) else if (k == 5) = true then some (k == 5) else if (k == 9) = true then some (k == 9) else if (k == 10) = true then some (k == 10) else some (k == 11)) = some false := by
        rw [itF (by simp; omega), itF (by simp; omega), itF (by simp; omega), itF (by simp; omega)]; simp; omega
      rw [e2, sb, itF rfl]
      by_cases h7 : k = 7
      · rw [itT (by simpa using h7), if_pos h7]
        by_cases h0 : 0 < w
        · rw [itT (by simpa using h0), if_pos h0]
        · rw [itF (by simpa using h0), if_neg h0]
      · rw [itF (by simpa using h7), if_neg h7]
theorem refSigned_is (k : Int) {w : Int} (h : 0 ≤ w ∧ w ≤ 18446744073709551615) : darningref06_Signed k w = some (signS k w) := by
  unfold darningref06_Signed signS
  by_cases h1 : k = 1 ∨ k = 8 ∨ k = 10
  · rw [if_pos h1]
    have e : (if (k == 1) = true then some (k == 1) else if (k == 8) = true then some (k == 8) else some (k == 10)) = some true := by rcases h1 with rfl | rfl | rfl <;> rfl
    rw [e, sb, itT rfl, rsign32_is h, sb]
  · rw [if_neg h1]
    have e : (if (k == 1) = true then some (k == 1) else if (k == 8) = true then some (k == 8) else some (k == 10)) = some false := by rw [itF (by simp; omega), itF (by simp; omega)]; simp; omega
    rw [e, sb, itF rfl]
    by_cases h2 : k = 2 ∨ k = 13
    · rw [if_pos h2]
      have e2 : (if (k == 2) = true then some (k == 2) else some (k == 13)) = some true := by rcases h2 with rfl | rfl <;> rfl
      rw [e2, sb, itT rfl]
      by_cases h3 : w < 9223372036854775808
      · rw [itT (by simpa using h3), if_pos h3, wrap_i64 (by omega)]
      · rw [itF (by simpa using h3), if_neg h3]
        have e3 : IntKind.u64.wrap (18446744073709551615 - w) = 18446744073709551615 - w := by rw [wrap_u64, Int.emod_eq_of_lt (by omega) (by omega)]
        rw [e3]
        simp (disch := omega) only [wrap_i64]
        congr 2
        omega
    · rw [if_neg h2]
      have e2 : (if (k == 2) = true then some (k == 2) else some (k == 13)) = some false := by rw [itF (by simp; omega)]; simp; omega
      rw [e2, sb, itF rfl]
      by_cases h5 : k = 5
      · rw [itT (by simpa using h5), if_pos h5, Int.tmod_eq_emod_of_nonneg h.1, rzag_is (by omega), sb]
      · rw [itF (by simpa using h5), if_neg h5]
        by_cases h6 : k = 6
        · rw [itT (by simpa using h6), if_pos h6, rzag_is h, sb]
        · rw [itF (by simpa using h6), if_neg h6]
theorem canon_bd (k : Int) {w : Int} (h : 0 ≤ w ∧ w ≤ 18446744073709551615) : 0 ≤ canonS k w ∧ canonS k w ≤ 18446744073709551615 := by
  have hs := sgn_bd w
  unfold canonS
  split
  · exact wide_bd (by omega)
  · split
    · omega
    · split
      · split <;> omega
      · exact h
theorem canon_canon (k : Int) {w : Int} (h : 0 ≤ w ∧ w ≤ 18446744073709551615) : canonS k (canonS k w) = canonS k w := by
  have hs := sgn_bd w
  unfold canonS
  by_cases h1 : k = 1 ∨ k = 8
  · simp only [if_pos h1]; rw [sgn_wide hs]
  · simp only [if_neg h1]
    by_cases h2 : k = 3 ∨ k = 5 ∨ k = 9 ∨ k = 10 ∨ k = 11
    · simp only [if_pos h2]; omega
    · simp only [if_neg h2]
      by_cases h7 : k = 7
      · simp only [if_pos h7]; split <;> simp
      · simp only [if_neg h7]
theorem sign_canon (k : Int) {w : Int} (h : 0 ≤ w ∧ w ≤ 18446744073709551615) : signS k (canonS k w) = signS k w := by
  have hs := sgn_bd w
  unfold signS
  by_cases h1 : k = 1 ∨ k = 8 ∨ k = 10
  · rw [if_pos h1, if_pos h1]
    congr 1
    unfold canonS
    by_cases h18 : k = 1 ∨ k = 8
    · rw [if_pos h18, sgn_wide hs]
    · rw [if_neg h18, if_pos (by omega)]
      unfold sgnS
      rw [Int.emod_emod_of_dvd _ (Int.dvd_refl _)]
  · rw [if_neg h1, if_neg h1]
    by_cases h2 : k = 2 ∨ k = 13
    · have e : canonS k w = w := by unfold canonS; rw [if_neg (by omega), if_neg (by omega), if_neg (by omega)]
      rw [if_pos h2, if_pos h2, e]
    · rw [if_neg h2, if_neg h2]
      by_cases h5 : k = 5
      · have e : canonS k w = w % 4294967296 := by unfold canonS; rw [if_neg (by omega), if_pos (by omega)]
        rw [if_pos h5, if_pos h5, e, Int.emod_emod_of_dvd _ (Int.dvd_refl _)]
      · rw [if_neg h5, if_neg h5]
        by_cases h6 : k = 6
        · have e : canonS k w = w := by unfold canonS; rw [if_neg (by omega), if_neg (by omega), if_neg (by omega)]
          rw [if_pos h6, if_pos h6, e]
        · rw [if_neg h6, if_neg h6]
end Go.Proofs.Ytbhlonecfdknaaa
namespace Go.Proofs.Ytbhlonecfdknaaa
open Go
set_option linter.unusedVariables false
def namesL : List Str := [[], [105, 110, 116, 51, 50], [105, 110, 116, 54, 52], [117, 105, 110, 116, 51, 50], [117, 105, 110, 116, 54, 52], [115, 105, 110, 116, 51, 50], [115, 105, 110, 116, 54, 52], [98, 111, 111, 108], [101, 110, 117, 109], [102, 105, 120, 101, 100, 51, 50], [115, 102, 105, 120, 101, 100, 51, 50], [102, 108, 111, 97, 116], [102, 105, 120, 101, 100, 54, 52], [115, 102, 105, 120, 101, 100, 54, 52], [100, 111, 117, 98, 108, 101], [115, 116, 114, 105, 110, 103], [98, 121, 116, 101, 115], [109, 101, 115, 115, 97, 103, 101]]
def kName (k : Int) : Str := (namesL[k.toNat]?).getD []
def kT : List (Int × T_name_wire) := [(1, ⟨[105, 110, 116, 51, 50], 0⟩), (2, ⟨[105, 110, 116, 54, 52], 0⟩), (3, ⟨[117, 105, 110, 116, 51, 50], 0⟩), (4, ⟨[117, 105, 110, 116, 54, 52], 0⟩), (5, ⟨[115, 105, 110, 116, 51, 50], 0⟩), (6, ⟨[115, 105, 110, 116, 54, 52], 0⟩), (7, ⟨[98, 111, 111, 108], 0⟩), (8, ⟨[101, 110, 117, 109], 0⟩), (9, ⟨[102, 105, 120, 101, 100, 51, 50], 5⟩), (10, ⟨[115, 102, 105, 120, 101, 100, 51, 50], 5⟩), (11, ⟨[102, 108, 111, 97, 116], 5⟩), (12, ⟨[102, 105, 120, 101, 100, 54, 52], 1⟩), (13, ⟨[115, 102, 105, 120, 101, 100, 54, 52], 1⟩), (14, ⟨[100, 111, 117, 98, 108, 101], 1⟩), (15, ⟨[115, 116, 114, 105, 110, 103], 2⟩), (16, ⟨[98, 121, 116, 101, 115], 2⟩), (17, ⟨[109, 101, 115, 115, 97, 103, 101], 2⟩)]
theorem kinds_is : kind_kinds = some kT := rfl
theorem names_is : darningref06_Names = some namesL := rfl
theorem right_cases {k : Int} (h : kRight k = true) : k = 1 ∨ k = 2 ∨ k = 3 ∨ k = 4 ∨ k = 5 ∨ k = 6 ∨ k = 7 ∨ k = 8 ∨ k = 9 ∨ k = 10 ∨ k = 11 ∨ k = 12 ∨ k = 13 ∨ k = 14 ∨ k = 15 ∨ k = 16 ∨ k = 17 := by
  have := of_decide_eq_true h
  omega
theorem kT_get {k : Int} (h : kRight k = true) : mget kT k = some ⟨kName k, kWire k⟩ := by
  rcases right_cases h with rfl | rfl | rfl | rfl | rfl | rfl | rfl | rfl | rfl | rfl | rfl | rfl | rfl | rfl | rfl | rfl | rfl <;> rfl
theorem kT_keys {e : Int × T_name_wire} (h : e ∈ kT) : kRight e.1 = true ∧ e.2 = ⟨kName e.1, kWire e.1⟩ := by
  have : kT.all (fun e => kRight e.1 && decide (e.2 = ⟨kName e.1, kWire e.1⟩)) = true := by decide
  have h1 := List.all_eq_true.1 this e h
  simp only [Bool.and_eq_true, decide_eq_true_eq] at h1
  exact h1
theorem kT_mem {k : Int} (h : kRight k = true) : (k, (⟨kName k, kWire k⟩ : T_name_wire)) ∈ kT := by
  have mem : ∀ {m : List (Int × T_name_wire)} {x : T_name_wire}, mget m k = some x → (k, x) ∈ m := fun {m x} hg => by
    induction m with
    | nil => cases hg
    | cons p m ih =>
      rw [mget] at hg
      split at hg
      · rename_i e; cases hg; rw [e]; exact List.mem_cons_self
      · exact List.mem_cons_of_mem _ (ih hg)
  exact mem (kT_get h)
theorem kT_none {k : Int} (h : kRight k = false) : mget kT k = none := by
  cases hg : mget kT k with
  | none => rfl
  | some x =>
    have mem : ∀ {m : List (Int × T_name_wire)} {x : T_name_wire}, mget m k = some x → (k, x) ∈ m := fun {m x} hg => by
      induction m with
      | nil => cases hg
      | cons p m ih =>
        rw [mget] at hg
        split at hg
        · rename_i e; cases hg; rw [e]; exact List.mem_cons_self
        · exact List.mem_cons_of_mem _ (ih hg)
    have h1 := (kT_keys (mem hg)).1
    simp only at h1
    rw [h] at h1
    cases h1
theorem names_apart : ∀ i, i < 18 → ∀ j, j < 18 → namesL[i]? = namesL[j]? → i = j := by decide
theorem kName_inj {k l : Int} (hk : kRight k = true) (hl : kRight l = true) (h : kName k = kName l) : k = l := by
  have h1 := of_decide_eq_true hk
  have h2 := of_decide_eq_true hl
  have e1 : namesL[k.toNat]? = some (kName k) := by unfold kName; rw [List.getElem?_eq_getElem (show k.toNat < namesL.length by show k.toNat < 18; omega)]; rfl
  have e2 : namesL[l.toNat]? = some (kName l) := by unfold kName; rw [List.getElem?_eq_getElem (show l.toNat < namesL.length by show l.toNat < 18; omega)]; rfl
  have := names_apart k.toNat (by omega) l.toNat (by omega) (by rw [e1, e2, h])
  omega
theorem kright_is (k : Int) : kind_Right k = some (kRight k) := by
  unfold kind_Right
  rw [kinds_is, sb]
  cases h : kRight k with
  | true => rw [kT_get h]; rfl
  | false => rw [kT_none h]; rfl
theorem kname_is (k : Int) : kind_Name k = some (if kRight k then kName k else []) := by
  unfold kind_Name
  rw [kinds_is, sb]
  cases h : kRight k with
  | true => rw [kT_get h]; rfl
  | false => rw [kT_none h]; rfl
theorem kwire_is (k : Int) : kind_Wire k = some (if kRight k then (kWire k, 0) else (0, 2)) := by
  unfold kind_Wire
  rw [kinds_is, sb]
  cases h : kRight k with
  | true => rw [kT_get h]; rfl
  | false => rw [kT_none h]; rfl
theorem knumber_is (k : Int) : kind_Number k = some (kNum k) := by
  unfold kind_Number
  rw [kwire_is, sb]
  cases h : kRight k with
  | true =>
    rcases right_cases h with rfl | rfl | rfl | rfl | rfl | rfl | rfl | rfl | rfl | rfl | rfl | rfl | rfl | rfl | rfl | rfl | rfl <;> rfl
  | false =>
    have h1 := of_decide_eq_false h
    have : kNum k = false := decide_eq_false (by omega)
    rw [this]
    rfl
theorem keys_kT : kT.map Prod.fst = [1, 2, 3, 4, 5, 6, 7, 8, 9, 10, 11, 12, 13, 14, 15, 16, 17] := rfl
theorem kall_is : kind_All = some [1, 2, 3, 4, 5, 6, 7, 8, 9, 10, 11, 12, 13, 14, 15, 16, 17] := by
  have e : keysO kT = some [1, 2, 3, 4, 5, 6, 7, 8, 9, 10, 11, 12, 13, 14, 15, 16, 17] := by
    unfold keysO
    rw [if_pos ⟨by decide, by decide⟩, keys_kT, List.mergeSort_of_pairwise (by decide)]
  unfold kind_All
  rw [kinds_is, sb, e, sb]
theorem parse_loop (name : Str) : ∀ p : List (Int × T_name_wire), kind_Parse_l1 name p = some (match p.find? fun e => e.2.name == name with
    | none => .inl ()
    | some e => .inr e.1)
  | [] => rfl
  | e :: p => by
    by_cases h : e.2.name = name
    · rw [kind_Parse_l1_inr (oo_ := .inr e.1) (by unfold kind_Parse_b1; rw [itT (by simpa using h)]), List.find?_cons_of_pos (by simpa using h)]
    · rw [kind_Parse_l1_inl (by unfold kind_Parse_b1; rw [itF (by simpa using h)]), List.find?_cons_of_neg (by simpa using h)]
      exact parse_loop name p
theorem parse_name {k : Int} (h : kRight k = true) : kind_Parse (kName k) = some (k, 0) := by
  unfold kind_Parse
  rw [kinds_is, sb]
  refine orders_of fun p hp => ?_
  rw [parse_loop, sb]
  cases hf : p.find? fun e => e.2.name == kName k with
  | none =>
    have := List.find?_eq_none.1 hf _ (hp.mem_iff.2 (kT_mem h))
    simp at this
  | some e =>
    obtain ⟨h1, h2⟩ := kT_keys (hp.mem_iff.1 (List.mem_of_find?_eq_some hf))
    have h3 := List.find?_some hf
    rw [h2] at h3
    have : e.1 = k := kName_inj h1 h (by simpa using h3)
    simp [this]
theorem parse_no {name : Str} (h : ∀ k, kRight k = true → kName k ≠ name) : kind_Parse name = some (0, 11) := by
  unfold kind_Parse
  rw [kinds_is, sb]
  refine orders_of fun p hp => ?_
  rw [parse_loop, sb]
  cases hf : p.find? fun e => e.2.name == name with
  | none => rfl
  | some e =>
    obtain ⟨h1, h2⟩ := kT_keys (hp.mem_iff.1 (List.mem_of_find?_eq_some hf))
    have h3 := List.find?_some hf
    rw [h2] at h3
    exact absurd (by simpa using h3) (h e.1 h1)
theorem kcanon_is (k : Int) {w : Int} (h : 0 ≤ w ∧ w ≤ 18446744073709551615) : kind_Canon k w = some (if kNum k then (canonS k w, 0) else (0, 2)) := by
  have hs := sgn_bd w
  have hc := canon_bd k h
  unfold kind_Canon
  by_cases h1 : k = 1 ∨ k = 8
  · have e : (if (k == 1) = true then some (k == 1) else some (k == 8)) = some true := by rcases h1 with rfl | rfl <;> rfl
    have hn : kNum k = true := decide_eq_true (by omega)
    rw [e, sb, itT rfl, sign32_is, sb, wide32_is (by omega), sb, hn]
    unfold canonS
    rw [if_pos h1]
    rfl
  · have e : (if (k == 1) = true then some (k == 1) else some (k == 8)) = some false := by rw [itF (by simp; omega)]; simp; omega
    rw [e, sb, itF rfl]
    by_cases h2 : k = 3 ∨ k = 5 ∨ k = 9 ∨ k = 10 ∨ k = 11
    · have e2 : (if (k == 3) = true then some (k == 3) else if (k == 5) = true then some (k == 5) else if (k == 9) = true then some (k == 9) else if (k == 10) = true then some (k == 10) else some (k == 11)) = some true := by
        rcases h2 with rfl | rfl | rfl | rfl | rfl <;> rfl
      have hn : kNum k = true := decide_eq_true (by omega)
      have hw : IntKind.u64.wrap (w % 4294967296) = w % 4294967296 := by rw [wrap_u64]; omega
      rw [e2, sb, itT rfl, low32_is, sb, hn, hw]
      unfold canonS
      rw [if_neg h1, if_pos h2]
      rfl
    · have e2 : (if (k == 3) = true then some (k == 3) else if (k == 5) = true then some (k == 5) else if (k == 9) = true then some (k == 9) else if (k == 10) = true then some (k == 10) else some (k == 11)) = some false := by
        rw [itF (by simp; omega), itF (by simp; omega), itF (by simp; omega), itF (by simp; omega)]; simp; omega
      rw [e2, sb, itF rfl]
      by_cases h7 : k = 7
      · have hn : kNum k = true := decide_eq_true (by omega)
        rw [itT (by simpa using h7), hn]
        unfold kind_truth canonS
        rw [sb, if_neg h1, if_neg h2, if_pos h7]
        by_cases h0 : 0 < w
        · rw [if_pos h0]
          by_cases h10 : 1 < w
          · rw [if_pos h10]; rfl
          · rw [if_neg h10, show w = 1 by omega]; rfl
        · rw [if_neg h0, if_neg (by omega), show w = 0 by omega]; rfl
      · rw [itF (by simpa using h7)]
        by_cases hn : kNum k = true
        · have hk := of_decide_eq_true hn
          have e3 : (if (k == 2) = true then some (k == 2) else if (k == 4) = true then some (k == 4) else if (k == 6) = true then some (k == 6) else if (k == 12) = true then some (k == 12) else if (k == 13) = true then some (k == 13) else some (k == 14)) = some true := by
            have : k = 2 ∨ k = 4 ∨ k = 6 ∨ k = 12 ∨ k = 13 ∨ k = 14 := by omega
            rcases this with rfl | rfl | rfl | rfl | rfl | rfl <;> rfl
          rw [e3, sb, itT rfl, hn]
          unfold canonS
          rw [if_neg h1, if_neg h2, if_neg h7]
          rfl
        · have hn : kNum k = false := by simpa using hn
          have hk := of_decide_eq_false hn
          have e3 : (if (k == 2) = true then some (k == 2) else if (k == 4) = true then some (k == 4) else if (k == 6) = true then some (k == 6) else if (k == 12) = true then some (k == 12) else if (k == 13) = true then some (k == 13) else some (k == 14)) = some false := by
            rw [itF (by simp; omega), itF (by simp; omega), itF (by simp; omega), itF (by simp; omega), itF (by simp; omega)]; simp; omega
          rw [e3, sb, itF rfl, hn]
          rfl
def kSgn (k w : Int) : Int × Int := if (signS k w).2 then ((signS k w).1, 0) else (0, 2)
theorem ksigned_is (k : Int) {w : Int} (h : 0 ≤ w ∧ w ≤ 18446744073709551615) : kind_Signed k w = some (kSgn k w) := by
  have hs := sgn_bd w
  have hc := canon_bd k h
  unfold kind_Signed kSgn
  rw [kcanon_is k h, sb]
  by_cases h1 : k = 1 ∨ k = 2 ∨ k = 8 ∨ k = 13
  · have e : (if (k == 1) = true then some (k == 1) else if (k == 2) = true then some (k == 2) else if (k == 8) = true then some (k == 8) else some (k == 13)) = some true := by rcases h1 with rfl | rfl | rfl | rfl <;> rfl
    have hn : kNum k = true := decide_eq_true (by omega)
    rw [e, sb, itT rfl, hn]
    simp only [if_true]
    by_cases h18 : k = 1 ∨ k = 8
    · have hS : signS k w = (sgnS w, true) := by unfold signS; rw [if_pos (by omega)]
      have hC : canonS k w = wideS (sgnS w) := by unfold canonS; rw [if_pos h18]
      rw [hS, hC, wrap_i64']
      simp only [if_true]
      unfold wideS
      congr 2
      split <;> split <;> omega
    · have hS : signS k w = (if w < 9223372036854775808 then w else w - 18446744073709551616, true) := by unfold signS; rw [if_neg (by omega), if_pos (by omega)]
      have hC : canonS k w = w := by unfold canonS; rw [if_neg h18, if_neg (by omega), if_neg (by omega)]
      rw [hS, hC, wrap_i64']
      simp only [if_true]
      congr 2
      split <;> split <;> omega
  · have e : (if (k == 1) = true then some (k == 1) else if (k == 2) = true then some (k == 2) else if (k == 8) = true then some (k == 8) else some (k == 13)) = some false := by
      rw [itF (by simp; omega), itF (by simp; omega), itF (by simp; omega)]; simp; omega
    rw [e, sb, itF rfl]
    by_cases h10 : k = 10
    · subst h10
      rw [itT (c := (10 : Int) == 10) rfl, sign32_is, sb]
      have hC : canonS 10 w = w % 4294967296 := by unfold canonS; rw [if_neg (by omega), if_pos (by omega)]
      have e2 : sgnS (canonS 10 w) = sgnS w := by rw [hC]; unfold sgnS; rw [Int.emod_emod_of_dvd _ (Int.dvd_refl _)]
      show some (IntKind.i64.wrap (sgnS (canonS 10 w)), (0 : Int)) = _
      rw [e2, wrap_i64 (by omega)]
      rfl
    · rw [itF (by simpa using h10)]
      by_cases h5 : k = 5 ∨ k = 6
      · have e2 : (if (k == 5) = true then some (k == 5) else some (k == 6)) = some true := by rcases h5 with rfl | rfl <;> rfl
        have hn : kNum k = true := decide_eq_true (by omega)
        rw [e2, sb, itT rfl, hn]
        simp only [if_true]
        rw [zag_is hc, sb]
        rcases h5 with rfl | rfl <;> rfl
      · have e2 : (if (k == 5) = true then some (k == 5) else some (k == 6)) = some false := by rw [itF (by simp; omega)]; simp; omega
        rw [e2, sb, itF rfl]
        have hS : signS k w = (0, false) := by unfold signS; rw [if_neg (by omega), if_neg (by omega), if_neg (by omega), if_neg (by omega)]
        rw [hS]
        rfl
theorem kalive_is : darninglaw06_alive = some true := by
  unfold darninglaw06_alive
  rw [kcanon_is 1 (by omega), sb, kcanon_is 7 (by omega), sb]
  rfl
end Go.Proofs.Ytbhlonecfdknaaa
