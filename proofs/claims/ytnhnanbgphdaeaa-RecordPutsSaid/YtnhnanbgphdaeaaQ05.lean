/-
  The project's functions of layer 5 (record), as plain functions. Condition: bytes of at most 2^20.
-/
import Derived.Test.YtnhnanbgphdaeaaP05
import Derived.Test.YtnhnanbgphdaeaaQ03
import Derived.Test.YtnhnanbgphdaeaaQ00
namespace Go.Proofs.Ytnhnanbgphdaeaa
open Go

/-- What span tells of the bytes behind a tag. -/
theorem span_is {w : Int} {b : List UInt8} (hw : w = 0 ∨ w = 1 ∨ w = 2 ∨ w = 5) (hb : b.length ≤ 1048576) :
    record_span w b = some (match body5 w 0 b with | .inl c => (0, (if w = 0 then (rd b).2.1 else 0), c) | .inr (a, t) => ((a : Int), (t : Int), 0)) := by
  obtain ⟨h1, h2, h3, h4, h5, h6, h7⟩ := rd_bounds b
  unfold record_span body5
  rcases hw with rfl | rfl | rfl | rfl
  · rw [itT (by rfl), skip_is, sb, if_pos rfl]
    by_cases h : (rd b).2.2 = 0
    · rw [if_neg (by simpa using h)]
      simp only [h, Nat.zero_add]
      congr 3
      simp; omega
    · rw [if_pos h]; rfl
  · rw [itF (by rfl), itT (by rfl), sb, itF (by rfl), if_neg (show ¬ ((1 : Int) = 0) by omega), if_neg (show ¬ ((1 : Int) = 2) by omega)]
    simp only
    have e : IntKind.u64.wrap (IntKind.i64.wrap ((b.length : Int) - 0)) = (b.length : Int) := by rw [wrap_i64 (by omega), wrap_u64]; omega
    rw [e]
    by_cases g : b.length < 8
    · rw [itT (by simp; omega), if_pos (by simpa using g)]; rfl
    · rw [itF (by simp; omega), if_neg (by simpa using g)]; rfl
  · rw [itF (by rfl), itF (by rfl), itF (by rfl), itT (by rfl), read_is, sb, sb, if_neg (show ¬ ((2 : Int) = 0) by omega), if_pos (show (2 : Int) = 2 from rfl)]
    by_cases h : (rd b).2.2 = 0
    · have hk := h7 h
      rw [itF (by simpa using h), if_neg (show ¬ ((rd b).2.2 ≠ 0) from fun g => g h)]
      simp only
      have e : IntKind.u64.wrap (IntKind.i64.wrap ((b.length : Int) - (rd b).2.1)) = (b.length : Int) - (rd b).2.1 := by rw [wrap_i64 (by omega), wrap_u64]; omega
      rw [e]
      by_cases g : (b.length : Int) - (rd b).2.1 < (rd b).1
      · rw [itT (by simpa using g), if_pos g]; rfl
      · rw [itF (by simpa using g), if_neg g, wrap_i64 (x := (rd b).1) (by omega), wrap_i64 (by omega)]
        simp; omega
    · rw [itT (by simpa using h), if_pos h]; rfl
  · rw [itF (by rfl), itF (by rfl), itT (by rfl), sb, itF (by rfl), if_neg (show ¬ ((5 : Int) = 0) by omega), if_neg (show ¬ ((5 : Int) = 2) by omega)]
    simp only
    have e : IntKind.u64.wrap (IntKind.i64.wrap ((b.length : Int) - 0)) = (b.length : Int) := by rw [wrap_i64 (by omega), wrap_u64]; omega
    rw [e]
    by_cases g : b.length < 4
    · rw [itT (by simp; omega), if_pos (by simpa using g)]; rfl
    · rw [itF (by simp; omega), if_neg (by simpa using g)]; rfl
theorem body5_shift (w : Int) (k : Nat) (m : List UInt8) : body5 w k m = match body5 w 0 m with | .inl c => .inl c | .inr (a, t) => .inr (k + a, k + t) := by
  unfold body5
  repeat' split
  all_goals first
    | rfl
    | (rename_i h1 h2; injection h2 with h3; injection h3 with h4 h5; subst h4 h5; simp <;> omega)
    | simp_all <;> omega
theorem next_is {b : List UInt8} (hb : b.length ≤ 1048576) (at5 : Int) : record_Next b at5 = some (next5 b at5) := by
  unfold record_Next next5
  by_cases h : at5 < 0 ∨ at5 ≥ b.length
  · rw [itT (by simpa using h), if_pos h]; rfl
  · rw [itF (by simpa using h), if_neg h]
    obtain ⟨p, rfl⟩ : ∃ p : Nat, at5 = p := ⟨at5.toNat, by omega⟩
    rw [cut_drop rfl rfl (by omega), sb, tread_is, sb, Int.toNat_natCast]
    have hdl : (b.drop p).length = b.length - p := by simp
    rcases tg_cases (b.drop p) with ⟨c, ht, hc⟩ | ⟨n, w, k, ht, hr, k1, k2, k3, hrd⟩
    · have e : rec5 (b.drop p) = .inl c := by unfold rec5; rw [ht, if_pos (by simp only; omega)]
      rw [e, ht, itT (by simp; omega)]; rfl
    · obtain ⟨k, rfl⟩ : ∃ j : Nat, k = j := ⟨k.toNat, by omega⟩
      have e : rec5 (b.drop p) = match body5 w k ((b.drop p).drop k) with
        | .inl c => .inl c
        | .inr p => .inr (n, w, p.1, p.2) := by unfold rec5; rw [ht]; simp; rfl
      have hdd : (b.drop p).drop k = b.drop (p + k) := by rw [List.drop_drop]
      have hml : (b.drop (p + k)).length = b.length - (p + k) := by simp
      have ew : IntKind.i64.wrap ((p : Int) + k) = ((p + k : Nat) : Int) := by rw [wrap_i64 (by omega)]; push_cast; rfl
      rw [e, ht, itF (by simp), hdd]
      simp only [ew]
      rw [cut_drop rfl rfl (by omega), sb, span_is (tRight_iff.1 hr).2.2 (by omega), sb, body5_shift w k]
      rcases body5_cases w 0 (b.drop (p + k)) with ⟨c, hc, hc2⟩ | ⟨a, t, hc, _, _, hle, _⟩
      · rw [hc]
        simp only
        rw [itT (by simp; omega)]; rfl
      · rw [hc]
        simp only
        rw [itF (by rfl), wrap_i64 (by omega), wrap_i64 (by omega)]
        simp only [Option.some.injEq, Prod.mk.injEq, T_Number_Wire_From_At_To.mk.injEq, true_and, and_true]
        push_cast
        omega
theorem split_loop {b : List UInt8} (hb : b.length ≤ 1048576) (base : Nat) (l : List UInt8) : ∀ (out : List Rec), base ≤ b.length → l = b.drop base → out.length ≤ base →
    record_Split_l1 b out base = some (match (spl base l).2 with | none => .inl (out ++ (spl base l).1) | some (p, c) => .inr ((p : Int), c)) := by
  refine spl_ind (fun base l => ∀ (out : List Rec), base ≤ b.length → l = b.drop base → out.length ≤ base →
    record_Split_l1 b out base = some (match (spl base l).2 with | none => .inl (out ++ (spl base l).1) | some (p, c) => .inr ((p : Int), c))) ?_ ?_ ?_ base l
  · intro base out hbase hl ho
    have : b.length ≤ base := by have := congrArg List.length hl; simp at this; omega
    rw [spl_nil, List.append_nil]
    refine record_Split_l1_inr ?_
    unfold record_Split_b1
    rw [itF (by simp; omega)]
  · intro base l c hl h hc out hbase hld ho
    subst hld
    have hlt : base < b.length := by have := List.length_pos_iff.2 hl; simp at this; omega
    rw [spl_err hl h]
    refine record_Split_l1_inr ?_
    unfold record_Split_b1
    have e : next5 b base = (zrec, c) := by unfold next5; rw [if_neg (by omega), Int.toNat_natCast, h]
    rw [itT (by simp; omega), next_is hb, sb, e, itT (by simp; omega)]
  · intro base l n w a t hl h _ g1 g2 g3 ih out hbase hld ho
    subst hld
    simp only [List.length_drop] at g3
    have hlt : base < b.length := by omega
    rw [spl_cons hl h]
    have e : next5 b base = (⟨n, w, base, (base : Int) + a, (base : Int) + t⟩, 0) := by unfold next5; rw [if_neg (by omega), Int.toNat_natCast, h]
    refine (record_Split_l1_inl (l' := out ++ [⟨n, w, base, (base + a : Nat), (base + t : Nat)⟩]) (fromv' := ((base + t : Nat) : Int)) ?_).trans ?_
    · unfold record_Split_b1
      rw [itT (by simp; omega), next_is hb, sb, e, itF (by rfl), app_of (by simp; omega), sb]
      push_cast; rfl
    · rw [ih _ (by omega) (by rw [List.drop_drop]) (by simp; omega)]
      simp only [List.append_assoc, List.singleton_append]
theorem split_is {b : List UInt8} (hb : b.length ≤ 1048576) : record_Split b = some (splR (spl 0 b)) := by
  unfold record_Split
  have h := split_loop hb 0 b [] (Nat.zero_le _) rfl (Nat.le_refl _)
  have h' : record_Split_l1 b [] 0 = _ := h
  rw [h', sb]
  unfold splR
  cases (spl 0 b).2 with
  | none => rfl
  | some p => rfl
/-- The bytes between two places. -/
def spn (b : List UInt8) (i j : Int) : List UInt8 := if i < 0 ∨ i > j ∨ j > b.length then [] else (b.drop i.toNat).take (j.toNat - i.toNat)
theorem piece_is {b : List UInt8} (hb : b.length ≤ 1048576) (i j : Int) : record_piece b i j = some (spn b i j) := by
  unfold record_piece spn
  by_cases h : i < 0 ∨ i > j ∨ j > b.length
  · rw [itT (by simpa using h), if_pos h]
  · rw [itF (by simpa using h), if_neg h, cut_of (a := i.toNat) (b := j.toNat) (by omega) (by omega) (by omega) (by omega), sb, concat_is (by simp) (by simp; omega), sb]
    simp
theorem value_is {b : List UInt8} (hb : b.length ≤ 1048576) (r : Rec) : record_Value b r = some (spn b r.At r.To) := by
  unfold record_Value; rw [piece_is hb, sb]
theorem fits_is {w : Int} {v : List UInt8} (hw : w = 0 ∨ w = 1 ∨ w = 2 ∨ w = 5) (hv : v.length ≤ 1048576) : record_fits w v = some (fits5 w v) := by
  obtain ⟨h1, h2, h3, h4, h5, h6, h7⟩ := rd_bounds v
  unfold record_fits
  by_cases h : w = 2
  · rw [itT (by simpa using h)]; subst h; rfl
  · rw [itF (by simpa using h), span_is hw hv, sb]
    unfold body5 fits5
    congr 1
    rcases hw with rfl | rfl | rfl | rfl
    · rw [if_pos rfl, if_pos rfl]
      by_cases hg : (rd v).2.2 = 0
      · rw [if_neg (by simpa using hg)]
        have e : (((0 + (rd v).2.1.toNat : Nat) : Int) == (v.length : Int)) = decide ((rd v).2.1 = v.length) := by rw [beq_nat]; exact decide_eq_decide.2 (by omega)
        simp only [e, hg, true_and]
        rfl
      · rw [if_pos hg]; simp [hg]
    · by_cases g : v.length < 8
      · have : v.length ≠ 8 := by omega
        simp [g, this]
      · by_cases g8 : v.length = 8
        · simp [g8]
        · have : ¬ ((8 : Int) = v.length) := by omega
          simp [g, g8, this]
    · exact absurd rfl h
    · by_cases g : v.length < 4
      · have : v.length ≠ 4 := by omega
        simp [g, this]
      · by_cases g8 : v.length = 4
        · simp [g8]
        · have : ¬ ((4 : Int) = v.length) := by omega
          simp [g, g8, this]
theorem put5_le {n w : Int} {v : List UInt8} (h : tRight n w = true) (hv : v.length ≤ 1048576) : (put5 n w v).length ≤ v.length + 20 := by
  obtain ⟨_, hlt⟩ := tW_of h
  have h1 := enc_le (v := tW n w) (by omega)
  have h2 := enc_le (v := v.length) (by omega)
  rw [put5_len]; split <;> omega
/-- A record, put. -/
theorem rput_is {b v : List UInt8} {n w : Int} (hb : b.length ≤ 1048576) (hv : v.length ≤ 1048576) :
    record_Put b n w v = some (if tRight n w = true ∧ fits5 w v = true then (b ++ put5 n w v, 0) else ([], 2)) := by
  unfold record_Put
  cases h : tRight n w
  · rw [tput_no [] h, sb, itT (by rfl), sb, itT (by rfl)]; rfl
  · have hp := put5_le h hv
    rw [tput_is [] (by simp) h, sb, itF (by rfl), fits_is (tRight_iff.1 h).2.2 hv, sb, sb]
    cases hf : fits5 w v
    · rw [itT (by rfl)]; rfl
    · rw [itF (by rfl)]
      have e : IntKind.u64.wrap (v.length : Int) = (v.length : Int) := by rw [wrap_u64, Int.emod_eq_of_lt (by omega) (by omega)]
      obtain ⟨_, hlt⟩ := tW_of h
      have h1 := enc_le (v := tW n w) (by omega)
      by_cases hw : w = 2
      · have hl := put5_len n w v
        rw [if_pos hw] at hl
        rw [itT (by simpa using hw), e, put_is _ (by omega) (by simp; omega), sb, concat_is (by simp) (by simp; omega), sb]
        simp [put5, hw]
      · have hl := put5_len n w v
        rw [if_neg hw] at hl
        rw [itF (by simpa using hw), concat_is (by simp) (by simp; omega), sb]
        simp [put5, hw]
theorem rlen_is {b v : List UInt8} {n : Int} (hb : b.length ≤ 1048576) (hv : v.length ≤ 1048576) :
    record_Len b n v = some (if tRight n 2 = true then b ++ put5 n 2 v else b) := by
  unfold record_Len
  rw [rput_is hb hv, sb]
  have hf : fits5 2 v = true := rfl
  simp only [hf, and_true]
  cases h : tRight n 2
  · rw [if_neg (show ¬ (false = true) by simp), if_neg (show ¬ (false = true) by simp), itT (by rfl), concat_is (by simp) (by simp; omega), sb]; simp
  · rw [if_pos rfl, if_pos rfl, itF (by rfl)]
end Go.Proofs.Ytnhnanbgphdaeaa
