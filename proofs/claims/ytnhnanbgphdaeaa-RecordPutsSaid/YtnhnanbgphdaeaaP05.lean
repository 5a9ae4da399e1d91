/-
  What the plain functions of layer 5 (record) are. No condition.
-/
import Derived.Test.YtnhnanbgphdaeaaS05
import Derived.Test.YtnhnanbgphdaeaaP03
namespace Go.Proofs.Ytnhnanbgphdaeaa
open Go
set_option linter.unusedVariables false

/-! ### the words of the layer -/
abbrev Rec := T_Number_Wire_From_At_To
/-- What stands behind a tag of k bytes: a fault; or where the value begins and ends. -/
def body5 (w : Int) (k : Nat) (m : List UInt8) : Int ⊕ (Nat × Nat) :=
  if w = 0 then (if (rd m).2.2 ≠ 0 then .inl (rd m).2.2 else .inr (k, k + (rd m).2.1.toNat))
  else if w = 2 then (if (rd m).2.2 ≠ 0 then .inl (rd m).2.2 else if (m.length : Int) - (rd m).2.1 < (rd m).1 then .inl 3 else .inr (k + (rd m).2.1.toNat, k + (rd m).2.1.toNat + (rd m).1.toNat))
  else if m.length < (if w = 5 then 4 else 8) then .inl 3 else .inr (k, k + (if w = 5 then 4 else 8))
/-- The record that bytes begin with: a fault; or number, wire type, where the value begins and ends. -/
def rec5 (l : List UInt8) : Int ⊕ (Int × Int × Nat × Nat) :=
  if (tg l).2.2.2 ≠ 0 then .inl (tg l).2.2.2 else match body5 (tg l).2.1 (tg l).2.2.1.toNat (l.drop (tg l).2.2.1.toNat) with
    | .inl c => .inl c
    | .inr p => .inr ((tg l).1, (tg l).2.1, p.1, p.2)
theorem body5_cases (w : Int) (k : Nat) (m : List UInt8) : (∃ c, body5 w k m = .inl c ∧ (c = 3 ∨ c = 4)) ∨
    ∃ a t, body5 w k m = .inr (a, t) ∧ k ≤ a ∧ a ≤ t ∧ t ≤ k + m.length ∧
      (w = 0 ∧ a = k ∧ (rd m).2.2 = 0 ∧ ((t - k : Nat) : Int) = (rd m).2.1 ∧ k < t ∨ w = 2 ∧ (rd m).2.2 = 0 ∧ ((a - k : Nat) : Int) = (rd m).2.1 ∧ ((t - a : Nat) : Int) = (rd m).1 ∨ w ≠ 0 ∧ w ≠ 2 ∧ a = k ∧ t = k + (if w = 5 then 4 else 8)) := by
  obtain ⟨h1, h2, h3, h4, h5, h6, h7⟩ := rd_bounds m
  unfold body5
  by_cases w0 : w = 0
  · rw [if_pos w0]
    by_cases h : (rd m).2.2 = 0
    · have := h7 h
      rw [if_neg (by simpa using h)]
      exact .inr ⟨_, _, rfl, Nat.le_refl _, by omega, by omega, .inl ⟨w0, rfl, h, by omega, by omega⟩⟩
    · rw [if_pos h]; exact .inl ⟨_, rfl, by omega⟩
  · rw [if_neg w0]
    by_cases w2 : w = 2
    · rw [if_pos w2]
      by_cases h : (rd m).2.2 = 0
      · rw [if_neg (by simpa using h)]
        by_cases h8 : (m.length : Int) - (rd m).2.1 < (rd m).1
        · rw [if_pos h8]; exact .inl ⟨_, rfl, by omega⟩
        · rw [if_neg h8]
          exact .inr ⟨_, _, rfl, by omega, by omega, by omega, .inr (.inl ⟨w2, h, by omega, by omega⟩)⟩
      · rw [if_pos h]; exact .inl ⟨_, rfl, by omega⟩
    · rw [if_neg w2]
      by_cases h8 : m.length < (if w = 5 then 4 else 8)
      · rw [if_pos h8]; exact .inl ⟨_, rfl, by omega⟩
      · rw [if_neg h8]
        exact .inr ⟨_, _, rfl, Nat.le_refl _, by omega, by omega, .inr (.inr ⟨w0, w2, rfl, rfl⟩)⟩
theorem body5_append (w : Int) (k : Nat) (m z : List UInt8) {p : Nat × Nat} (h : body5 w k m = .inr p) : body5 w k (m ++ z) = .inr p := by
  unfold body5 at h ⊢
  by_cases w0 : w = 0
  · rw [if_pos w0] at h ⊢
    by_cases h0 : (rd m).2.2 = 0
    · rw [rd_append m z h0]; exact h
    · rw [if_pos h0] at h; cases h
  · rw [if_neg w0] at h ⊢
    by_cases w2 : w = 2
    · rw [if_pos w2] at h ⊢
      by_cases h0 : (rd m).2.2 = 0
      · rw [rd_append m z h0]
        rw [if_neg (by simpa using h0)] at h ⊢
        by_cases h8 : (m.length : Int) - (rd m).2.1 < (rd m).1
        · rw [if_pos h8] at h; cases h
        · rw [if_neg h8] at h
          rw [if_neg (by simp only [List.length_append]; omega)]; exact h
      · rw [if_pos h0] at h; cases h
    · rw [if_neg w2] at h ⊢
      by_cases h8 : m.length < (if w = 5 then 4 else 8)
      · rw [if_pos h8] at h; cases h
      · rw [if_neg h8] at h
        rw [if_neg (by simp only [List.length_append]; omega)]; exact h
/-- The answers of reading a record. -/
theorem rec5_cases (l : List UInt8) : (∃ c, rec5 l = .inl c ∧ (c = 3 ∨ c = 4 ∨ c = 5)) ∨
    ∃ (n w : Int) (k a t : Nat), rec5 l = .inr (n, w, a, t) ∧ tg l = (n, w, (k : Int), 0) ∧ tRight n w = true ∧ body5 w k (l.drop k) = .inr (a, t) ∧ 1 ≤ k ∧ k ≤ l.length ∧ k ≤ a ∧ a ≤ t ∧ t ≤ l.length ∧ rd l = (8 * n + w, (k : Int), 0) := by
  rcases tg_cases l with ⟨c, h, hc⟩ | ⟨n, w, k, h, hr, k1, k2, k3, hrd⟩
  · refine .inl ⟨c, ?_, hc⟩
    unfold rec5; rw [h, if_pos (by simp only; omega)]
  · obtain ⟨k, rfl⟩ : ∃ j : Nat, k = j := ⟨k.toNat, by omega⟩
    have e : rec5 l = match body5 w k (l.drop k) with
      | .inl c => .inl c
      | .inr p => .inr (n, w, p.1, p.2) := by unfold rec5; rw [h]; simp
    rcases body5_cases w k (l.drop k) with ⟨c, h2, hc⟩ | ⟨a, t, h2, g1, g2, g3, _⟩
    · exact .inl ⟨c, by rw [e, h2], by omega⟩
    · simp only [List.length_drop] at g3
      exact .inr ⟨n, w, k, a, t, by rw [e, h2], h, hr, h2, by omega, by omega, g1, g2, by omega, hrd⟩
theorem rec5_append (l z : List UInt8) {r : Int × Int × Nat × Nat} (h : rec5 l = .inr r) : rec5 (l ++ z) = .inr r := by
  rcases rec5_cases l with ⟨c, h', _⟩ | ⟨n, w, k, a, t, h', htg, _, hb, _, hk, _, _, _, hrd⟩
  · rw [h'] at h; cases h
  · rw [h'] at h
    have e : tg (l ++ z) = (n, w, (k : Int), 0) := by rw [tg_append l z (by rw [hrd]), htg]
    unfold rec5
    rw [e]
    simp only [ne_eq, not_true_eq_false, if_false, Int.toNat_natCast]
    rw [List.drop_append_of_le_length hk, body5_append _ _ _ _ hb]
    exact h

/-! ### the document's records -/
def zrec : Rec := ⟨0, 0, 0, 0, 0⟩
/-- What the next record at a place is. -/
def next5 (b : List UInt8) (at5 : Int) : Rec × Int := if at5 < 0 ∨ at5 ≥ b.length then (zrec, 2) else match rec5 (b.drop at5.toNat) with
  | .inl c => (zrec, c)
  | .inr (n, w, a, t) => (⟨n, w, at5, at5 + a, at5 + t⟩, 0)
theorem refNext_is {b : List UInt8} (hb : b.length ≤ 1048576) (at5 : Int) : darningref05_Next b at5 = some (next5 b at5) := by
  unfold darningref05_Next next5
  by_cases h : at5 < 0 ∨ at5 ≥ b.length
  · rw [itT (by simpa using h), if_pos h]; rfl
  · rw [itF (by simpa using h), if_neg h]
    obtain ⟨p, rfl⟩ : ∃ p : Nat, at5 = p := ⟨at5.toNat, by omega⟩
    rw [ref03Read_is b p (by omega) (by omega), sb, Int.toNat_natCast]
    have hdl : (b.drop p).length = b.length - p := by simp
    rcases tg_cases (b.drop p) with ⟨c, ht, hc⟩ | ⟨n, w, k, ht, hr, k1, k2, k3, hrd⟩
    · have e : rec5 (b.drop p) = .inl c := by unfold rec5; rw [ht, if_pos (by simp only; omega)]
      rw [e, ht, itT (by simp; omega)]; rfl
    · obtain ⟨k, rfl⟩ : ∃ j : Nat, k = j := ⟨k.toNat, by omega⟩
      have e : rec5 (b.drop p) = match body5 w k ((b.drop p).drop k) with
        | .inl c => .inl c
        | .inr p => .inr (n, w, p.1, p.2) := by unfold rec5; rw [ht]; simp
      have hdd : (b.drop p).drop k = b.drop (p + k) := by rw [List.drop_drop]
      have hml : (b.drop (p + k)).length = b.length - (p + k) := by simp
      obtain ⟨h1, h2, h3, h4, h5, h6, h7⟩ := rd_bounds (b.drop (p + k))
      rw [e, ht, itF (by simp), hdd]
      have ew : IntKind.i64.wrap ((p : Int) + k) = ((p + k : Nat) : Int) := by rw [wrap_i64 (by omega)]; push_cast; rfl
      have er : IntKind.i64.wrap ((b.length : Int) - ((p + k : Nat) : Int)) = ((b.length - (p + k) : Nat) : Int) := by rw [wrap_i64 (by omega)]; omega
      simp only [ew, er]
      have hw := (tRight_iff.1 hr).2.2
      rcases hw with rfl | rfl | rfl | rfl
      · -- a varint
        rw [itF (by rfl), sb, itT (by rfl), ref_is b (p + k) (by omega) (by omega), sb]
        by_cases g : (rd (b.drop (p + k))).2.2 = 0
        · have := h7 g
          have hb5 : body5 0 k (b.drop (p + k)) = .inr (k, k + (rd (b.drop (p + k))).2.1.toNat) := by unfold body5; rw [if_pos rfl, if_neg (by simpa using g)]
          rw [itF (by simpa using g), sb, hb5]
          simp only
          rw [itF (by rfl), sb]
          simp only
          rw [itF (by simp; omega), wrap_i64 (by omega)]
          simp; omega
        · have hb5 : body5 0 k (b.drop (p + k)) = .inl (rd (b.drop (p + k))).2.2 := by unfold body5; rw [if_pos rfl, if_pos g]
          rw [itT (by simpa using g), sb, hb5]; rfl
      · rw [itF (by rfl), sb, itF (by rfl), sb]
        simp only
        rw [itF (by rfl), sb]
        unfold body5
        rw [if_neg (by omega), if_neg (by omega)]
        simp only
        by_cases g : b.length - (p + k) < 8
        · rw [itT (by simp; omega), if_pos (by simpa [hml] using g)]; rfl
        · rw [itF (by simp; omega), if_neg (by simpa [hml] using g), wrap_i64 (by omega)]
          simp; omega
      · rw [itF (by rfl), sb, itF (by rfl), sb]
        simp only
        rw [itT (by rfl), ref_is b (p + k) (by omega) (by omega), sb]
        by_cases g : (rd (b.drop (p + k))).2.2 = 0
        · have := h7 g
          have e1 : IntKind.i64.wrap (((b.length - (p + k) : Nat) : Int) - (rd (b.drop (p + k))).2.1) = ((b.drop (p + k)).length : Int) - (rd (b.drop (p + k))).2.1 := by rw [wrap_i64 (by omega), hml]
          have e2 : IntKind.u64.wrap (((b.drop (p + k)).length : Int) - (rd (b.drop (p + k))).2.1) = ((b.drop (p + k)).length : Int) - (rd (b.drop (p + k))).2.1 := by rw [wrap_u64, Int.emod_eq_of_lt (by omega) (by omega)]
          rw [itF (by simpa using g)]
          simp only [e1, e2]
          by_cases g2 : ((b.drop (p + k)).length : Int) - (rd (b.drop (p + k))).2.1 < (rd (b.drop (p + k))).1
          · have hb5 : body5 2 k (b.drop (p + k)) = .inl 3 := by unfold body5; rw [if_neg (by omega), if_pos rfl, if_neg (by simpa using g), if_pos g2]
            rw [itT (by simpa using g2), sb, hb5]; rfl
          · have hb5 : body5 2 k (b.drop (p + k)) = .inr (k + (rd (b.drop (p + k))).2.1.toNat, k + (rd (b.drop (p + k))).2.1.toNat + (rd (b.drop (p + k))).1.toNat) := by
              unfold body5; rw [if_neg (by omega), if_pos rfl, if_neg (by simpa using g), if_neg g2]
            rw [itF (by simpa using g2), sb, hb5]
            simp only
            rw [wrap_i64 (x := (rd (b.drop (p + k))).1) (by omega), itF (by simpa using g2), wrap_i64 (x := ((p + k : Nat) : Int) + (rd (b.drop (p + k))).2.1) (by omega), wrap_i64 (by omega)]
            simp; omega
        · have hb5 : body5 2 k (b.drop (p + k)) = .inl (rd (b.drop (p + k))).2.2 := by unfold body5; rw [if_neg (by omega), if_pos rfl, if_pos g]
          rw [itT (by simpa using g), sb, hb5]; rfl
      · rw [itT (by rfl), sb, itF (by rfl), sb]
        simp only
        rw [itF (by rfl), sb]
        unfold body5
        rw [if_neg (by omega), if_neg (by omega)]
        simp only
        by_cases g : b.length - (p + k) < 4
        · rw [itT (by simp; omega), if_pos (by simpa [hml] using g)]; rfl
        · rw [itF (by simp; omega), if_neg (by simpa [hml] using g), wrap_i64 (by omega)]
          simp; omega

/-! ### all records -/
/-- The records from a place on, and the first fault, if there is one. -/
def spl (base : Nat) (l : List UInt8) : List Rec × Option (Nat × Int) :=
  if hl : l = [] then ([], none) else match h : rec5 l with
    | .inl c => ([], some (base, c))
    | .inr (n, w, a, t) => (⟨n, w, base, (base + a : Nat), (base + t : Nat)⟩ :: (spl (base + t) (l.drop t)).1, (spl (base + t) (l.drop t)).2)
termination_by l.length
decreasing_by
  all_goals
    rcases rec5_cases l with ⟨c', h', _⟩ | ⟨n', w', k', a', t', h', _, _, _, g1, g2, g3, g4, g5, _⟩
    · rw [h'] at h; cases h
    · rw [h'] at h; cases h; simp only [List.length_drop]; omega
theorem spl_nil (base : Nat) : spl base [] = ([], none) := by rw [spl, dif_pos rfl]
theorem spl_err {base : Nat} {l : List UInt8} {c : Int} (hl : l ≠ []) (h : rec5 l = .inl c) : spl base l = ([], some (base, c)) := by
  rw [spl, dif_neg hl]
  split
  · rename_i c' h'; rw [h] at h'; cases h'; rfl
  · rename_i h'; rw [h] at h'; cases h'
theorem spl_cons {base : Nat} {l : List UInt8} {n w : Int} {a t : Nat} (hl : l ≠ []) (h : rec5 l = .inr (n, w, a, t)) :
    spl base l = (⟨n, w, base, (base + a : Nat), (base + t : Nat)⟩ :: (spl (base + t) (l.drop t)).1, (spl (base + t) (l.drop t)).2) := by
  rw [spl, dif_neg hl]
  split
  · rename_i c' h'; rw [h] at h'; cases h'
  · rename_i n' w' a' t' h'; rw [h] at h'; cases h'; rfl
theorem spl_ind (P : Nat → List UInt8 → Prop) (h0 : ∀ base, P base []) (he : ∀ base l c, l ≠ [] → rec5 l = .inl c → (c = 3 ∨ c = 4 ∨ c = 5) → P base l)
    (hc : ∀ base l (n w : Int) (a t : Nat), l ≠ [] → rec5 l = .inr (n, w, a, t) → tRight n w = true → 1 ≤ a → a ≤ t → t ≤ l.length → P (base + t) (l.drop t) → P base l) (base : Nat) (l : List UInt8) : P base l := by
  generalize hn : l.length = m
  induction m using Nat.strongRecOn generalizing base l with
  | _ m ih =>
    by_cases hl : l = []
    · subst hl; exact h0 base
    · rcases rec5_cases l with ⟨c, h, hc'⟩ | ⟨n, w, k, a, t, h, _, hr, _, g1, g2, g3, g4, g5, _⟩
      · exact he base l c hl h hc'
      · exact hc base l n w a t hl h hr (by omega) g4 g5 (ih _ (by simp only [List.length_drop]; omega) _ _ rfl)
def splR (r : List Rec × Option (Nat × Int)) : List Rec × Int × Int := match r.2 with
  | none => (r.1, 0, 0)
  | some (p, c) => ([], p, c)
theorem spl_len (base : Nat) (l : List UInt8) : (spl base l).1.length ≤ l.length := by
  refine spl_ind (fun base l => (spl base l).1.length ≤ l.length) ?_ ?_ ?_ base l
  · intro base; rw [spl_nil]; simp
  · intro base l c hl h _; rw [spl_err hl h]; simp
  · intro base l n w a t hl h _ g1 g2 g3 ih
    rw [spl_cons hl h]
    simp only [List.length_cons, List.length_drop] at ih ⊢
    omega
theorem spl_code (base : Nat) (l : List UInt8) : ∀ p c, (spl base l).2 = some (p, c) → (c = 3 ∨ c = 4 ∨ c = 5) ∧ base ≤ p ∧ p < base + l.length := by
  refine spl_ind (fun base l => ∀ p c, (spl base l).2 = some (p, c) → (c = 3 ∨ c = 4 ∨ c = 5) ∧ base ≤ p ∧ p < base + l.length) ?_ ?_ ?_ base l
  · intro base p c h; rw [spl_nil] at h; cases h
  · intro base l c' hl h hc p c h2
    rw [spl_err hl h] at h2
    cases h2
    have : 0 < l.length := List.length_pos_iff.2 hl
    exact ⟨hc, by omega, by omega⟩
  · intro base l n w a t hl h _ g1 g2 g3 ih p c h2
    rw [spl_cons hl h] at h2
    have := ih p c h2
    simp only [List.length_drop] at this
    omega
theorem refSplit_loop {b : List UInt8} (hb : b.length ≤ 1048576) (base : Nat) (l : List UInt8) : ∀ (out : List Rec), base ≤ b.length → l = b.drop base → out.length ≤ base →
    darningref05_Split_l1 b out base = some (match (spl base l).2 with | none => .inl (out ++ (spl base l).1) | some (p, c) => .inr ((p : Int), c)) := by
  refine spl_ind (fun base l => ∀ (out : List Rec), base ≤ b.length → l = b.drop base → out.length ≤ base →
    darningref05_Split_l1 b out base = some (match (spl base l).2 with | none => .inl (out ++ (spl base l).1) | some (p, c) => .inr ((p : Int), c))) ?_ ?_ ?_ base l
  · intro base out hbase hl ho
    have : b.length ≤ base := by have := congrArg List.length hl; simp at this; omega
    rw [spl_nil, List.append_nil]
    refine darningref05_Split_l1_inr ?_
    unfold darningref05_Split_b1
    rw [itF (by simp; omega)]
  · intro base l c hl h hc out hbase hld ho
    subst hld
    have hlt : base < b.length := by have := List.length_pos_iff.2 hl; simp at this; omega
    rw [spl_err hl h]
    refine darningref05_Split_l1_inr ?_
    unfold darningref05_Split_b1
    have e : next5 b base = (zrec, c) := by unfold next5; rw [if_neg (by omega), Int.toNat_natCast, h]
    rw [itT (by simp; omega), refNext_is hb, sb, e, itT (by simp; omega)]
  · intro base l n w a t hl h _ g1 g2 g3 ih out hbase hld ho
    subst hld
    simp only [List.length_drop] at g3
    have hlt : base < b.length := by omega
    rw [spl_cons hl h]
    have e : next5 b base = (⟨n, w, base, (base : Int) + a, (base : Int) + t⟩, 0) := by unfold next5; rw [if_neg (by omega), Int.toNat_natCast, h]
    refine (darningref05_Split_l1_inl (out' := out ++ [⟨n, w, base, (base + a : Nat), (base + t : Nat)⟩]) (atv' := ((base + t : Nat) : Int)) ?_).trans ?_
    · unfold darningref05_Split_b1
      rw [itT (by simp; omega), refNext_is hb, sb, e, itF (by rfl), app_of (by simp; omega), sb]
      push_cast; rfl
    · rw [ih _ (by omega) (by rw [List.drop_drop]) (by simp; omega)]
      simp only [List.append_assoc, List.singleton_append]
theorem refSplit_is {b : List UInt8} (hb : b.length ≤ 1048576) : darningref05_Split b = some (splR (spl 0 b)) := by
  unfold darningref05_Split
  have h := refSplit_loop hb 0 b [] (Nat.zero_le _) rfl (Nat.le_refl _)
  have h' : darningref05_Split_l1 b [] 0 = _ := h
  rw [h', sb]
  unfold splR
  cases (spl 0 b).2 with
  | none => rfl
  | some p => rfl

/-! ### records of bytes behind others -/
def shiftR (d : Nat) (r : Rec) : Rec := ⟨r.Number, r.Wire, r.From + d, r.At + d, r.To + d⟩
theorem spl_shift (d : Nat) (base : Nat) (l : List UInt8) : spl (base + d) l = ((spl base l).1.map (shiftR d), (spl base l).2.map fun p => (p.1 + d, p.2)) := by
  refine spl_ind (fun base l => spl (base + d) l = ((spl base l).1.map (shiftR d), (spl base l).2.map fun p => (p.1 + d, p.2))) ?_ ?_ ?_ base l
  · intro base; rw [spl_nil, spl_nil]; rfl
  · intro base l c hl h _; rw [spl_err hl h, spl_err hl h]; rfl
  · intro base l n w a t hl h _ g1 g2 g3 ih
    rw [spl_cons hl h, spl_cons hl h, show base + d + t = base + t + d by omega, ih]
    simp only [List.map_cons, shiftR, Prod.mk.injEq, List.cons.injEq, T_Number_Wire_From_At_To.mk.injEq, true_and, and_true]
    push_cast
    omega
theorem spl_append (m : List UInt8) (base : Nat) (l : List UInt8) : (spl base l).2 = none → spl base (l ++ m) = ((spl base l).1 ++ (spl (base + l.length) m).1, (spl (base + l.length) m).2) := by
  refine spl_ind (fun base l => (spl base l).2 = none → spl base (l ++ m) = ((spl base l).1 ++ (spl (base + l.length) m).1, (spl (base + l.length) m).2)) ?_ ?_ ?_ base l
  · intro base _; rw [spl_nil]; simp
  · intro base l c hl h _ h2; rw [spl_err hl h] at h2; cases h2
  · intro base l n w a t hl h _ g1 g2 g3 ih h2
    rw [spl_cons hl h] at h2 ⊢
    rw [spl_cons (by simp [hl]) (rec5_append l m h), List.drop_append_of_le_length g3, ih h2]
    simp only [List.length_drop, List.cons_append, show base + t + (l.length - t) = base + l.length by omega]

/-! ### a record that is put -/
/-- May a value be one of a wire type? -/
def fits5 (w : Int) (v : List UInt8) : Bool :=
  if w = 0 then decide ((rd v).2.2 = 0 ∧ (rd v).2.1 = v.length) else decide (w = 2 ∨ w = 1 ∧ v.length = 8 ∨ w = 5 ∧ v.length = 4)
def put5 (n w : Int) (v : List UInt8) : List UInt8 := enc (tW n w) ++ (if w = 2 then enc v.length else []) ++ v
theorem refFits_is (w : Int) {v : List UInt8} (hv : v.length ≤ 1048576) : darningref05_Fits w v = some (fits5 w v) := by
  unfold darningref05_Fits fits5
  by_cases h : w = 0
  · have := ref_is v 0 (by omega) (Nat.zero_le _)
    rw [List.drop_zero] at this
    have h' : darningref02_Read v 0 = some (rd v) := this
    rw [itT (by simpa using h), if_pos h, h', sb]
    simp [Bool.decide_and, Bool.beq_eq_decide_eq]
  · rw [itF (by simpa using h), if_neg h]
    congr 1
    have e8 : ((v.length : Int) == 8) = decide (v.length = 8) := beq_nat _ 8
    have e4 : ((v.length : Int) == 4) = decide (v.length = 4) := beq_nat _ 4
    rw [e8, e4]
    by_cases h1 : w = 1
    · subst h1; simp
    · by_cases h2 : w = 2
      · subst h2; simp
      · by_cases h5 : w = 5
        · subst h5; simp
        · simp [h1, h2, h5]
theorem enc_pos (v : Nat) : 1 ≤ (enc v).length := by rw [enc_len]; exact lenN_pos v
theorem ref05Put_is {n w : Int} {v : List UInt8} (h : tRight n w = true) (hv : v.length ≤ 1048576) : darningref05_Put 10 n w v = some (put5 n w v) := by
  obtain ⟨_, hlt⟩ := tW_of h
  have h1 := enc_le (v := tW n w) (by omega)
  have h2 := enc_le (v := v.length) (by omega)
  unfold darningref05_Put put5
  rw [ref03Put_is h, sb]
  by_cases hw : w = 2
  · rw [itT (by simpa using hw), if_pos hw]
    have e : IntKind.u64.wrap (v.length : Int) = (v.length : Int) := by rw [wrap_u64, Int.emod_eq_of_lt (by omega) (by omega)]
    rw [e, refput_u64 (by omega), sb, app_of (by omega), sb, app_of (by simp; omega), sb]
  · rw [itF (by simpa using hw), if_neg hw, app_of (by omega), sb, List.append_nil]
theorem rec5_put {n w : Int} {v : List UInt8} (z : List UInt8) (h : tRight n w = true) (hf : fits5 w v = true) (hv : v.length ≤ 1048576) :
    rec5 (put5 n w v ++ z) = .inr (n, w, (put5 n w v).length - v.length, (put5 n w v).length) := by
  obtain ⟨_, hlt⟩ := tW_of h
  have hen := enc_le (v := v.length) (by omega)
  have e : tg (put5 n w v ++ z) = (n, w, ((enc (tW n w)).length : Int), 0) := by
    unfold put5
    rw [List.append_assoc, List.append_assoc]
    exact tg_enc _ h
  have hd : (put5 n w v ++ z).drop (enc (tW n w)).length = (if w = 2 then enc v.length else []) ++ v ++ z := by
    unfold put5
    rw [List.append_assoc, List.append_assoc, List.drop_left, List.append_assoc]
  unfold rec5
  rw [e]
  simp only [ne_eq, not_true_eq_false, if_false, Int.toNat_natCast]
  rw [hd]
  have hw := (tRight_iff.1 h).2.2
  unfold fits5 at hf
  rcases hw with rfl | rfl | rfl | rfl
  · rw [if_pos rfl] at hf
    obtain ⟨f1, f2⟩ := of_decide_eq_true hf
    have hb : body5 0 (enc (tW n 0)).length ((if (0 : Int) = 2 then enc v.length else []) ++ v ++ z) = .inr ((enc (tW n 0)).length, (enc (tW n 0)).length + v.length) := by
      rw [if_neg (by omega), List.nil_append]
      unfold body5
      rw [if_pos rfl, rd_append v z f1, if_neg (by simpa using f1), f2, Int.toNat_natCast]
    rw [hb]
    simp [put5]
  · have f := of_decide_eq_true hf
    have f8 : v.length = 8 := by omega
    have hb : body5 1 (enc (tW n 1)).length ((if (1 : Int) = 2 then enc v.length else []) ++ v ++ z) = .inr ((enc (tW n 1)).length, (enc (tW n 1)).length + 8) := by
      rw [if_neg (by omega), List.nil_append]
      unfold body5
      rw [if_neg (by omega), if_neg (by omega), if_neg (by simp; omega)]; rfl
    rw [hb]
    simp [put5, f8]
  · have hb : body5 2 (enc (tW n 2)).length ((if (2 : Int) = 2 then enc v.length else []) ++ v ++ z) = .inr ((enc (tW n 2)).length + (enc v.length).length, (enc (tW n 2)).length + (enc v.length).length + v.length) := by
      rw [if_pos rfl]
      unfold body5
      rw [if_neg (by omega), if_pos rfl, List.append_assoc, rd_enc _ (by omega), if_neg (by simp), if_neg (by simp only [List.length_append]; omega)]
      simp
    rw [hb]
    simp [put5]
    omega
  · have f := of_decide_eq_true hf
    have f4 : v.length = 4 := by omega
    have hb : body5 5 (enc (tW n 5)).length ((if (5 : Int) = 2 then enc v.length else []) ++ v ++ z) = .inr ((enc (tW n 5)).length, (enc (tW n 5)).length + 4) := by
      rw [if_neg (by omega), List.nil_append]
      unfold body5
      rw [if_neg (by omega), if_neg (by omega), if_neg (by simp; omega)]; rfl
    rw [hb]
    simp [put5, f4]
theorem put5_len (n w : Int) (v : List UInt8) : (put5 n w v).length = (enc (tW n w)).length + (if w = 2 then (enc v.length).length else 0) + v.length := by
  unfold put5
  split
  · simp; omega
  · simp
/-- A record that is put alone is split to itself. -/
theorem spl_put {n w : Int} {v : List UInt8} (h : tRight n w = true) (hf : fits5 w v = true) (hv : v.length ≤ 1048576) :
    spl 0 (put5 n w v) = ([⟨n, w, 0, (((put5 n w v).length - v.length : Nat) : Int), ((put5 n w v).length : Int)⟩], none) := by
  have h1 := rec5_put [] h hf hv
  rw [List.append_nil] at h1
  have hne : put5 n w v ≠ [] := fun e => by
    have := put5_len n w v
    have h2 := enc_pos (tW n w)
    rw [e] at this; simp at this; omega
  rw [spl_cons hne h1, List.drop_length, spl_nil]
  simp
theorem put5_value (n w : Int) (v : List UInt8) : (put5 n w v).drop ((put5 n w v).length - v.length) = v := by
  have e : (put5 n w v).length - v.length = (enc (tW n w) ++ (if w = 2 then enc v.length else [])).length := by rw [put5_len]; split <;> simp
  rw [e]
  unfold put5
  exact List.drop_left
/-- The shortest form is no longer than what was read. -/
theorem enc_min {l : List UInt8} {k : Nat} (h : rd l = ((rd l).1, (k : Int), 0)) : (enc (rd l).1.toNat).length ≤ k := by
  rcases rd_cases l with h' | ⟨h', _⟩ | ⟨x, c, y, e, hx, hc, hl, hv, h'⟩
  · rw [h'] at h; cases h
  · rw [h'] at h; cases h
  · rw [h'] at h ⊢
    have hk : (x.length : Int) + 1 = k := by have := congrArg (fun p => p.2.1) h; simpa using this
    simp only [Int.toNat_natCast]
    have h1 := hor_lt (x ++ [c])
    rw [enc_len]
    have key : ∀ (j v : Nat), v < 128 ^ (j + 1) → lenN v ≤ j + 1 := by
      intro j
      induction j with
      | zero => intro v hv; rw [lenN_lt (by omega)]; omega
      | succ j ih =>
        intro v hv
        by_cases h2 : v < 128
        · rw [lenN_lt h2]; omega
        · rw [lenN_ge h2]
          have := ih (v / 128) (by rw [Nat.pow_succ] at hv; exact Nat.div_lt_of_lt_mul (by omega))
          omega
    have := key x.length (hor (x ++ [c])) (by simpa using h1)
    omega
/-- The value of a record that is read may be one, and, put, is no longer. -/
theorem rec5_value {l : List UInt8} {n w : Int} {a t : Nat} (h : rec5 l = .inr (n, w, a, t)) :
    fits5 w ((l.drop a).take (t - a)) = true ∧ ((l.drop a).take (t - a)).length = t - a ∧ (put5 n w ((l.drop a).take (t - a))).length ≤ t := by
  rcases rec5_cases l with ⟨c, h', _⟩ | ⟨n', w', k, a', t', h', _, hr, hb, g1, g2, g3, g4, g5, hrd⟩
  · rw [h'] at h; cases h
  · rw [h'] at h; cases h
    have hlen : ((l.drop a).take (t - a)).length = t - a := by simp; omega
    have hm := enc_min (l := l) (k := k) (by rw [hrd])
    have e1 : (rd l).1.toNat = tW n w := by rw [hrd]; rfl
    rw [e1] at hm
    refine ⟨?_, hlen, ?_⟩
    · rcases body5_cases w k (l.drop k) with ⟨c, hc, _⟩ | ⟨a2, t2, h2, k1, k2, k3, hcase⟩
      · rw [hc] at hb; cases hb
      · rw [h2] at hb; cases hb
        unfold fits5
        rcases hcase with ⟨rfl, rfl, f1, f2, f3⟩ | ⟨rfl, f1, f2, f3⟩ | ⟨w0, w2, rfl, f1⟩
        · rw [if_pos rfl]
          -- what is read is the value alone
          have hv : rd ((l.drop a).take (t - a)) = rd (l.drop a) := by
            rcases rd_cases (l.drop a) with h6 | ⟨h6, _⟩ | ⟨x, c, y, e, hx, hc, hl, hv, h6⟩
            · rw [h6] at f1; cases f1
            · rw [h6] at f1; cases f1
            · rw [h6] at f2
              have e7 : t - a = (x ++ [c]).length := by simp at f2 ⊢; omega
              have e8 : (l.drop a).take (t - a) = x ++ c :: [] := by rw [e7, e, List.append_cons x c y, List.take_left]
              rw [e8, rd_of x c [] hx hc hl hv, h6]
          rw [hv]
          exact decide_eq_true ⟨f1, by rw [← f2, hlen]⟩
        · rw [if_neg (by omega)]; exact decide_eq_true (.inl rfl)
        · have hw := (tRight_iff.1 hr).2.2
          rw [if_neg w0]
          rw [hlen, f1]
          refine decide_eq_true ?_
          rcases hw with rfl | rfl | rfl | rfl
          · exact absurd rfl w0
          · right; left; simp
          · exact absurd rfl w2
          · right; right; simp
    · rw [put5_len, hlen]
      rcases body5_cases w k (l.drop k) with ⟨c, hc, _⟩ | ⟨a2, t2, h2, k1, k2, k3, hcase⟩
      · rw [hc] at hb; cases hb
      · rw [h2] at hb; cases hb
        by_cases hw2 : w = 2
        · rw [if_pos hw2]
          rcases hcase with ⟨rfl, _⟩ | ⟨_, f1, f2, f3⟩ | ⟨_, w2, _⟩
          · omega
          · have hm2 := enc_min (l := l.drop k) (k := a - k) (by rw [f2]; exact Prod.ext rfl (Prod.ext rfl f1))
            have e3 : (rd (l.drop k)).1.toNat = t - a := by omega
            rw [e3] at hm2
            omega
          · exact absurd hw2 w2
        · rw [if_neg hw2]; omega
end Go.Proofs.Ytnhnanbgphdaeaa
