/-
  What the plain functions of layer 2 (varint) are: read, put and list of variable-length numbers. No condition.
-/
import Derived.Test.YtnhnanbgphdaeaaS02
import Derived.Test.YtnhnanbgphdaeaaPure
import Derived.Test.YtnhnanbgphdaeaaBitsM
namespace Go.Proofs.Ytnhnanbgphdaeaa
open Go

/-! ### the words of the layer -/
/-- The shortest form of a number. -/
def enc (v : Nat) : List UInt8 := if v < 128 then [UInt8.ofNat v] else UInt8.ofNat (128 + v % 128) :: enc (v / 128)
termination_by v
decreasing_by omega
/-- From the i-th byte on: no end; a fault; or the number, how many bytes, and 0. -/
def scan : Nat → Nat → List UInt8 → Unit ⊕ (Int × Int × Int)
  | _, _, [] => .inl ()
  | i, acc, c :: t => if i = 9 ∧ 1 < c.toNat then .inr (0, 0, 4) else if c.toNat < 128 then .inr (((acc + c.toNat % 128 * 128 ^ i : Nat) : Int), ((i + 1 : Nat) : Int), 0) else scan (i + 1) (acc + c.toNat % 128 * 128 ^ i) t
def rdR : Unit ⊕ (Int × Int × Int) → Int × Int × Int
  | .inl _ => (0, 0, 3)
  | .inr r => r
/-- What reading answers. -/
def rd (b : List UInt8) : Int × Int × Int := rdR (scan 0 0 (b.take 10))
def hor : List UInt8 → Nat
  | [] => 0
  | c :: t => c.toNat % 128 + 128 * hor t
def lead : Nat → List UInt8 → Nat
  | 0, _ => 0
  | _ + 1, [] => 0
  | k + 1, c :: t => if 128 ≤ c.toNat then lead k t + 1 else 0

theorem pow_le_63 {i : Nat} (h : i ≤ 8) : 128 ^ (i + 1) ≤ 9223372036854775808 := by
  have : (128 : Nat) ^ (i + 1) ≤ 128 ^ 9 := Nat.pow_le_pow_right (by omega) (by omega)
  omega
theorem pow_7 (i : Nat) : 2 ^ (7 * i) = 128 ^ i := by rw [Nat.pow_mul]
theorem and_127 (c : Nat) : c &&& 127 = c % 128 := Nat.and_two_pow_sub_one_eq_mod c 7

/-! ### varint.Read -/
theorem read_step {acc i c : Nat} (hi : i ≤ 9) (hacc : acc < 128 ^ i) (hc : c < 256) (h9 : i = 9 → c ≤ 1) :
    orI .u64 (acc : Int) (shlI .u64 (IntKind.u64.wrap (andI .u8 (c : Int) 127)) ((7 * i : Nat) : Int)) = ((acc + c % 128 * 128 ^ i : Nat) : Int) := by
  have e1 : andI .u8 (c : Int) 127 = ((c % 128 : Nat) : Int) := by
    have := andI_nat (k := .u8) rfl (a := c) (b := 127) (by simpa [IntKind.bits] using hc) (by simp [IntKind.bits])
    rw [and_127] at this; exact this
  have hp : 128 ^ i ≤ 128 ^ 9 := Nat.pow_le_pow_right (by omega) hi
  have hlt : c % 128 * 128 ^ i < 18446744073709551616 := by
    by_cases h : i = 9
    · subst h
      have := h9 rfl
      have h2 : c % 128 ≤ 1 := by omega
      have := Nat.mul_le_mul_right (128 ^ 9) h2
      omega
    · have h3 : 128 ^ i ≤ 128 ^ 8 := Nat.pow_le_pow_right (by omega) (by omega)
      have := Nat.mul_le_mul (show c % 128 ≤ 127 by omega) h3
      omega
  have e2 : shlI .u64 (IntKind.u64.wrap ((c % 128 : Nat) : Int)) ((7 * i : Nat) : Int) = ((c % 128 * 128 ^ i : Nat) : Int) := by
    unfold shlI
    rw [wrap_nat rfl (by simp [IntKind.bits]; omega), Int.toNat_natCast, Nat.min_eq_left (by simp [IntKind.bits]; omega)]
    have h4 : ((c % 128 : Nat) : Int) * 2 ^ (7 * i) = ((c % 128 * 128 ^ i : Nat) : Int) := by rw [← pow_7]; push_cast; rfl
    rw [h4]
    exact wrap_nat rfl (by simpa [IntKind.bits] using hlt)
  rw [e1, e2, orI_nat rfl (by simp [IntKind.bits]; omega) (by simpa [IntKind.bits] using hlt)]
  congr 1
  rw [← pow_7] at hacc ⊢
  exact or_high' _ _ _ hacc
theorem read_loop : ∀ (t : List UInt8) (v : List UInt8) (i acc : Nat), v.drop i = t → i + t.length = v.length → v.length ≤ 10 → acc < 128 ^ i → varint_Read_l1 v acc i = some (scan i acc t) := by
  intro t
  induction t with
  | nil =>
    intro v i acc _ hl _ _
    refine varint_Read_l1_inr ?_
    unfold varint_Read_b1
    rw [itF (by simp at hl ⊢; omega)]
    rfl
  | cons c t ih =>
    intro v i acc hd hl hv hacc
    simp only [List.length_cons] at hl
    have hget : v[i]'(by omega) = c := by
      have h1 : v.drop i = v[i]'(by omega) :: v.drop (i + 1) := List.drop_eq_getElem_cons (by omega)
      rw [hd] at h1; exact (List.cons.inj h1).1.symm
    have hd' : v.drop (i + 1) = t := by rw [← List.drop_drop, hd]; rfl
    have hc := c.toNat_lt
    have hb : varint_Read_b1 v acc i = if i = 9 ∧ 1 < c.toNat then some (.inr (.inr (0, 0, 4))) else if c.toNat < 128 then some (.inr (.inr (((acc + c.toNat % 128 * 128 ^ i : Nat) : Int), ((i + 1 : Nat) : Int), 0))) else some (.inl (((acc + c.toNat % 128 * 128 ^ i : Nat) : Int), ((i + 1 : Nat) : Int))) := by
      unfold varint_Read_b1
      rw [itT (by simp; omega), idx_of rfl (show i < v.length by omega), sb, hget]
      by_cases h9 : i = 9 ∧ 1 < c.toNat
      · rw [if_pos h9, itT (by simp; omega)]
      · rw [if_neg h9, itF (by simp; omega), wrap_i64 (by omega)]
        have e : ((7 : Int) * (i : Int)) = ((7 * i : Nat) : Int) := by push_cast; rfl
        rw [e, shlO_nat, sb, read_step (by omega) hacc (by omega) (by omega), wrap_i64 (by omega)]
        by_cases h8 : c.toNat < 128
        · rw [if_pos h8, itT (by simp; omega)]; push_cast; rfl
        · rw [if_neg h8, itF (by simp; omega)]; push_cast; rfl
    rw [scan]
    split at hb
    · rename_i h9; rw [if_pos h9]; exact varint_Read_l1_inr hb
    · rename_i h9
      rw [if_neg h9]
      split at hb
      · rename_i h8; rw [if_pos h8]; exact varint_Read_l1_inr hb
      · rename_i h8
        rw [if_neg h8, varint_Read_l1_inl hb]
        refine ih v (i + 1) _ hd' (by omega) hv ?_
        rw [Nat.pow_succ]
        have := Nat.mul_le_mul_right (128 ^ i) (show c.toNat % 128 ≤ 127 by omega)
        omega
theorem read_is (b : List UInt8) : varint_Read b = some (rd b) := by
  unfold varint_Read rd
  have e : (if (10 : Int) < (b.length : Int) then (10 : Int) else (b.length : Int)) = ((min 10 b.length : Nat) : Int) := by split <;> omega
  have e2 : b.take (min 10 b.length) = b.take 10 := by rw [List.take_eq_take_iff]; omega
  rw [e, cut_take rfl (by omega), sb, e2]
  have h := read_loop (b.take 10) (b.take 10) 0 0 rfl (by simp) (by simp; omega) (by simp)
  have h' : varint_Read_l1 (b.take 10) 0 0 = some (scan 0 0 (b.take 10)) := h
  rw [h', sb]
  cases scan 0 0 (b.take 10) <;> rfl
theorem skip_is (b : List UInt8) : varint_Skip b = some ((rd b).2.1, (rd b).2.2) := by unfold varint_Skip; rw [read_is, sb]

/-! ### the document's reading -/
theorem lead_le : ∀ (k : Nat) (l : List UInt8), lead k l ≤ k ∧ lead k l ≤ l.length
  | 0, _ => ⟨Nat.le_refl _, Nat.zero_le _⟩
  | _ + 1, [] => ⟨Nat.zero_le _, Nat.le_refl _⟩
  | k + 1, c :: t => by
    have := lead_le k t
    rw [lead]; split <;> simp <;> omega
theorem scan_lead : ∀ (l : List UInt8) (i acc : Nat), i + l.length ≤ 10 → i ≤ 9 →
    scan i acc l = if i + lead (10 - i) l = 10 then .inr (0, 0, 4) else if lead (10 - i) l = l.length then .inl () else if i + lead (10 - i) l = 9 ∧ 1 < (l.getD (lead (10 - i) l) 0).toNat then .inr (0, 0, 4) else
      .inr (((acc + hor (l.take (lead (10 - i) l + 1)) * 128 ^ i : Nat) : Int), ((i + lead (10 - i) l + 1 : Nat) : Int), 0) := by
  intro l
  induction l with
  | nil =>
    intro i acc _ hi
    obtain ⟨k, hk⟩ : ∃ k, 10 - i = k + 1 := ⟨9 - i, by omega⟩
    rw [hk]
    simp only [lead, scan, List.length_nil]
    rw [if_neg (by omega), if_pos trivial]
  | cons c t ih =>
    intro i acc hl hi
    obtain ⟨k, hk⟩ : ∃ k, 10 - i = k + 1 := ⟨9 - i, by omega⟩
    simp only [List.length_cons] at hl
    rw [scan]
    by_cases hc : 128 ≤ c.toNat
    · have e : lead (10 - i) (c :: t) = lead k t + 1 := by rw [hk, lead, if_pos hc]
      rw [e]
      by_cases h9 : i = 9
      · have : k = 0 := by omega
        subst this
        rw [if_pos ⟨h9, by omega⟩, lead, if_pos (by omega)]
      · rw [if_neg (by omega), if_neg (by omega), ih (i + 1) _ (by omega) (by omega), show 10 - (i + 1) = k by omega]
        by_cases h1 : i + 1 + lead k t = 10
        · rw [if_pos h1, if_pos (show i + (lead k t + 1) = 10 by omega)]
        · rw [if_neg h1, if_neg (show ¬ i + (lead k t + 1) = 10 by omega)]
          by_cases h2 : lead k t = t.length
          · rw [if_pos h2, if_pos (show lead k t + 1 = (c :: t).length by simp; omega)]
          · rw [if_neg h2, if_neg (show ¬ lead k t + 1 = (c :: t).length by simp; omega)]
            have eg : (c :: t).getD (lead k t + 1) 0 = t.getD (lead k t) 0 := by simp [List.getD]
            rw [eg]
            by_cases h3 : i + 1 + lead k t = 9 ∧ 1 < (t.getD (lead k t) 0).toNat
            · rw [if_pos h3, if_pos (show i + (lead k t + 1) = 9 ∧ 1 < (t.getD (lead k t) 0).toNat by omega)]
            · rw [if_neg h3, if_neg (show ¬ (i + (lead k t + 1) = 9 ∧ 1 < (t.getD (lead k t) 0).toNat) by omega)]
              rw [List.take_succ_cons, hor, Nat.pow_succ]
              have e5 : acc + c.toNat % 128 * 128 ^ i + hor (t.take (lead k t + 1)) * (128 ^ i * 128) = acc + (c.toNat % 128 + 128 * hor (t.take (lead k t + 1))) * 128 ^ i := by
                rw [Nat.add_mul, Nat.mul_assoc 128, Nat.mul_comm (128 ^ i) 128, ← Nat.mul_assoc, Nat.mul_comm _ 128, Nat.mul_assoc]; omega
              rw [e5]
              congr 3
              omega
    · have e : lead (10 - i) (c :: t) = 0 := by rw [hk, lead, if_neg hc]
      rw [e]
      simp only [Nat.add_zero, List.length_cons, List.getD_cons_zero]
      rw [if_neg (show ¬ i = 10 by omega), if_neg (show ¬ 0 = t.length + 1 by omega)]
      by_cases h9 : i = 9 ∧ 1 < c.toNat
      · rw [if_pos h9, if_pos h9]
      · rw [if_neg h9, if_neg h9, if_pos (show c.toNat < 128 by omega)]
        simp [hor]
theorem hor_append (x y : List UInt8) : hor (x ++ y) = hor x + 128 ^ x.length * hor y := by
  induction x with
  | nil => simp [hor]
  | cons c t ih => simp only [List.cons_append, hor, ih, List.length_cons, Nat.pow_succ, Nat.mul_add]; rw [Nat.mul_comm (128 ^ t.length) 128, Nat.mul_assoc]; omega
theorem hor_lt (l : List UInt8) : hor l < 128 ^ l.length := by
  induction l with
  | nil => simp [hor]
  | cons c t ih => simp only [hor, List.length_cons, Nat.pow_succ]; omega
theorem hor_drop (l : List UInt8) (j : Nat) : hor (l.drop j) ≤ hor l := by
  induction l generalizing j with
  | nil => simp
  | cons c t ih =>
    cases j with
    | zero => exact Nat.le_refl _
    | succ j => have := ih j; simp only [List.drop_succ_cons, hor]; omega
theorem ref_loop1 (b : List UInt8) (a : Nat) (hb : b.length ≤ 1152921504606846976) : ∀ (k n : Nat), n + k = 10 → a + n ≤ b.length → darningref02_Read_l1 a b n = some ((n + lead k (b.drop (a + n)) : Nat) : Int) := by
  intro k
  induction k with
  | zero =>
    intro n hn ha
    refine darningref02_Read_l1_inr ?_
    unfold darningref02_Read_b1
    rw [wrap_i64 (by omega)]
    by_cases h1 : a + n < b.length
    · rw [itT (by simp; omega), itF (by simp; omega), sb, itF (by rfl)]; rfl
    · rw [itF (by simp; omega), sb, itF (by rfl)]; rfl
  | succ k ih =>
    intro n hn ha
    by_cases h1 : a + n < b.length
    · have hd : b.drop (a + n) = b[a + n] :: b.drop (a + (n + 1)) := List.drop_eq_getElem_cons h1
      have hbody : darningref02_Read_b1 a b n = if 128 ≤ b[a + n].toNat then some (.inl ((n + 1 : Nat) : Int)) else some (.inr (n : Int)) := by
        unfold darningref02_Read_b1
        rw [wrap_i64 (by omega), wrap_i64 (by omega), itT (by simp; omega), itT (by simp; omega), idx_of (show (a : Int) + n = ((a + n : Nat) : Int) by push_cast; rfl) h1, sb, sb]
        by_cases h2 : 128 ≤ b[a + n].toNat
        · rw [if_pos h2, itT (by simp; omega)]; push_cast; rfl
        · rw [if_neg h2, itF (by simp; omega)]
      rw [hd, lead]
      by_cases h2 : 128 ≤ b[a + n].toNat
      · rw [if_pos h2] at hbody ⊢
        rw [darningref02_Read_l1_inl hbody, ih (n + 1) (by omega) (by omega)]
        congr 2; omega
      · rw [if_neg h2] at hbody ⊢
        exact darningref02_Read_l1_inr hbody
    · have hd : b.drop (a + n) = [] := List.drop_eq_nil_of_le (by omega)
      rw [hd]
      refine darningref02_Read_l1_inr ?_
      unfold darningref02_Read_b1
      rw [wrap_i64 (by omega), itF (by simp; omega), sb, itF (by rfl)]; rfl
theorem ref_loop2 (b : List UInt8) (a m : Nat) (hb : b.length ≤ 1152921504606846976) (hm : a + m ≤ b.length) (hh : hor ((b.drop a).take m) < 18446744073709551616) :
    ∀ (j : Nat), j ≤ m → darningref02_Read_l2 a b (hor (((b.drop a).take m).drop j)) ((j : Int) - 1) = some ((hor ((b.drop a).take m) : Nat) : Int) := by
  intro j
  induction j with
  | zero =>
    intro _
    refine darningref02_Read_l2_inr ?_
    unfold darningref02_Read_b2
    rw [itF (by simp)]; rfl
  | succ j ih =>
    intro hj
    have hL : ((b.drop a).take m).length = m := by simp; omega
    have hd : ((b.drop a).take m).drop j = ((b.drop a).take m)[j]'(by omega) :: ((b.drop a).take m).drop (j + 1) := List.drop_eq_getElem_cons (by omega)
    have hc : ((b.drop a).take m)[j]'(by omega) = b[a + j]'(by omega) := by simp
    have h1 := hor_drop ((b.drop a).take m) j
    rw [hd, hor, hc] at h1
    have h2 := (b[a + j]'(by omega)).toNat_lt
    refine (darningref02_Read_l2_inl (wv' := (hor (((b.drop a).take m).drop j) : Nat)) (i' := (j : Int) - 1) ?_).trans (ih (by omega))
    unfold darningref02_Read_b2
    rw [itT (by simp), wrap_i64 (by omega), idx_of (show (a : Int) + (((j + 1 : Nat) : Int) - 1) = ((a + j : Nat) : Int) by push_cast; omega) (by omega), sb, wrap_i64 (by omega), hd, hor, hc]
    simp only [wrap_u64]
    rw [Int.tmod_eq_emod_of_nonneg (by omega)]
    congr 3
    · omega
    · push_cast; omega
theorem val_lt {n C X : Nat} (hn : n ≤ 9) (hC : C < 256) (h9 : ¬ (n = 9 ∧ 1 < C)) (hX : X < 128 ^ n) : X + 128 ^ n * (C % 128) < 18446744073709551616 := by
  by_cases h9' : n = 9
  · subst h9'
    have : C % 128 ≤ 1 := by omega
    have := Nat.mul_le_mul_left (128 ^ 9) this
    omega
  · have h5 : 128 ^ n ≤ 128 ^ 8 := Nat.pow_le_pow_right (by omega) (by omega)
    have h6 : C % 128 ≤ 127 := by omega
    have := Nat.mul_le_mul h5 h6
    omega
theorem ref_is (b : List UInt8) (a : Nat) (hb : b.length ≤ 1152921504606846976) (ha : a ≤ b.length) : darningref02_Read b a = some (rd (b.drop a)) := by
  unfold darningref02_Read
  have h1 := ref_loop1 b a hb 10 0 rfl (by omega)
  simp only [Nat.zero_add, Nat.add_zero] at h1
  have h1' : darningref02_Read_l1 a b 0 = some ((lead 10 (b.drop a) : Nat) : Int) := h1
  rw [h1', sb]
  have hle := lead_le 10 (b.drop a)
  have hlen : (b.drop a).length = b.length - a := by simp
  -- the ten bytes that count
  have htake : ∀ (k : Nat) (l : List UInt8), lead k (l.take k) = lead k l := by
    intro k
    induction k with
    | zero => intro l; rfl
    | succ k ih => intro l; cases l with
      | nil => rfl
      | cons c t => simp only [List.take_succ_cons, lead, ih]
  have hs := scan_lead ((b.drop a).take 10) 0 0 (by simp; omega) (by omega)
  simp only [Nat.zero_add, Nat.sub_zero, htake, Nat.pow_zero, Nat.mul_one] at hs
  unfold rd
  rw [hs]
  by_cases h10 : lead 10 (b.drop a) = 10
  · rw [if_pos h10, itT (by simp; omega)]; rfl
  · rw [if_neg h10, itF (by simp; omega), wrap_i64 (by omega)]
    by_cases hl : lead 10 (b.drop a) = (b.drop a).length
    · rw [if_pos (show lead 10 (b.drop a) = ((b.drop a).take 10).length by rw [List.length_take]; omega), itT (by simp; omega)]; rfl
    · rw [if_neg (show ¬ lead 10 (b.drop a) = ((b.drop a).take 10).length by rw [List.length_take]; omega), itF (by simp; omega)]
      have hlt : a + lead 10 (b.drop a) < b.length := by omega
      have hg : ((b.drop a).take 10).getD (lead 10 (b.drop a)) 0 = b[a + lead 10 (b.drop a)] := by
        rw [List.getD_eq_getElem?_getD, List.getElem?_take, if_pos (by omega), List.getElem?_drop, List.getElem?_eq_getElem hlt]; rfl
      rw [hg, List.take_take, Nat.min_eq_left (by omega)]
      have hc := (b[a + lead 10 (b.drop a)]).toNat_lt
      have hg2 : (if (((lead 10 (b.drop a) : Nat) : Int) == 9) = true then (idx b ((a : Int) + ((lead 10 (b.drop a) : Nat) : Int)) >>= fun x2 => some (decide ((x2.toNat : Int) > 1))) else some false) = some (decide (lead 10 (b.drop a) = 9 ∧ 1 < (b[a + lead 10 (b.drop a)]).toNat)) := by
        by_cases h9 : lead 10 (b.drop a) = 9
        · rw [itT (by simp; omega), idx_of (show (a : Int) + ((lead 10 (b.drop a) : Nat) : Int) = ((a + lead 10 (b.drop a) : Nat) : Int) by push_cast; rfl) hlt, sb]
          congr 1
          simp only [h9, true_and, decide_eq_decide]
          omega
        · rw [itF (by simp; omega)]; simp [h9]
      rw [hg2, sb]
      by_cases h9 : lead 10 (b.drop a) = 9 ∧ 1 < (b[a + lead 10 (b.drop a)]).toNat
      · rw [if_pos h9, itT (by simpa using h9)]; rfl
      · rw [if_neg h9, itF (decide_eq_false h9)]
        have hbd : hor ((b.drop a).take (lead 10 (b.drop a) + 1)) < 18446744073709551616 := by
          have hsp : (b.drop a).take (lead 10 (b.drop a) + 1) = (b.drop a).take (lead 10 (b.drop a)) ++ [b[a + lead 10 (b.drop a)]] := by
            rw [List.take_add_one, List.getElem?_drop, List.getElem?_eq_getElem hlt]; rfl
          rw [hsp, hor_append]
          have h3 := hor_lt ((b.drop a).take (lead 10 (b.drop a)))
          have h4 : ((b.drop a).take (lead 10 (b.drop a))).length = lead 10 (b.drop a) := by simp; omega
          rw [h4] at h3 ⊢
          simp only [hor, Nat.mul_zero, Nat.add_zero]
          exact val_lt (by omega) (by omega) h9 h3
        have h2 := ref_loop2 b a (lead 10 (b.drop a) + 1) hb (by omega) hbd (lead 10 (b.drop a) + 1) (Nat.le_refl _)
        have hz : ((b.drop a).take (lead 10 (b.drop a) + 1)).drop (lead 10 (b.drop a) + 1) = [] := List.drop_eq_nil_of_le (by simp; omega)
        rw [hz] at h2
        have e3 : (((lead 10 (b.drop a) + 1 : Nat) : Int) - 1) = ((lead 10 (b.drop a) : Nat) : Int) := by push_cast; omega
        rw [e3] at h2
        have h2' : darningref02_Read_l2 a b 0 ((lead 10 (b.drop a) : Nat) : Int) = some ((hor ((b.drop a).take (lead 10 (b.drop a) + 1)) : Nat) : Int) := h2
        rw [h2', sb, wrap_i64 (by omega)]
        simp [rdR]
/-! ### what reading answers, in words -/
theorem lead_take : ∀ (k : Nat) (l : List UInt8), lead k (l.take k) = lead k l
  | 0, _ => rfl
  | _ + 1, [] => rfl
  | k + 1, c :: t => by simp only [List.take_succ_cons, lead, lead_take k t]
theorem lead_form : ∀ (k : Nat) (l : List UInt8), (∀ y ∈ l.take (lead k l), 128 ≤ y.toNat) ∧ ∀ (h : lead k l < l.length), lead k l < k → (l[lead k l]).toNat < 128
  | 0, _ => ⟨fun y hy => by simp [lead] at hy, fun _ h => by omega⟩
  | _ + 1, [] => ⟨fun y hy => by simp at hy, fun h => by simp at h⟩
  | k + 1, c :: t => by
    obtain ⟨h1, h2⟩ := lead_form k t
    by_cases hc : 128 ≤ c.toNat
    · have e : lead (k + 1) (c :: t) = lead k t + 1 := by rw [lead, if_pos hc]
      constructor
      · rw [e, List.take_succ_cons]
        intro y hy
        cases hy with
        | head => exact hc
        | tail _ hy => exact h1 y hy
      · simp only [e, List.getElem_cons_succ, List.length_cons]
        intro h hk; exact h2 (by omega) (by omega)
    · have e : lead (k + 1) (c :: t) = 0 := by rw [lead, if_neg hc]
      constructor
      · rw [e]; intro y hy; simp at hy
      · simp only [e]; intro _ _; simp; omega
/-- The three answers. -/
theorem rd_cases (b : List UInt8) : rd b = (0, 0, 4) ∨ (rd b = (0, 0, 3) ∧ b.length ≤ 9) ∨
    ∃ x c y, b = x ++ c :: y ∧ (∀ z ∈ x, 128 ≤ z.toNat) ∧ c.toNat < 128 ∧ x.length ≤ 9 ∧ hor (x ++ [c]) < 18446744073709551616 ∧ rd b = (((hor (x ++ [c]) : Nat) : Int), ((x.length + 1 : Nat) : Int), 0) := by
  have hle := lead_le 10 b
  have hs := scan_lead (b.take 10) 0 0 (by simp; omega) (by omega)
  simp only [Nat.zero_add, Nat.sub_zero, lead_take, Nat.pow_zero, Nat.mul_one] at hs
  unfold rd
  rw [hs]
  by_cases h10 : lead 10 b = 10
  · rw [if_pos h10]; exact .inl rfl
  · rw [if_neg h10]
    by_cases hl : lead 10 b = (b.take 10).length
    · rw [if_pos hl]; refine .inr (.inl ⟨rfl, ?_⟩); rw [List.length_take] at hl; omega
    · rw [if_neg hl]
      rw [List.length_take] at hl
      have hlt : lead 10 b < b.length := by omega
      have hg : (b.take 10).getD (lead 10 b) 0 = b[lead 10 b] := by
        rw [List.getD_eq_getElem?_getD, List.getElem?_take, if_pos (by omega), List.getElem?_eq_getElem hlt]; rfl
      rw [hg, List.take_take, Nat.min_eq_left (by omega)]
      have hc := (b[lead 10 b]).toNat_lt
      by_cases h9 : lead 10 b = 9 ∧ 1 < (b[lead 10 b]).toNat
      · rw [if_pos h9]; exact .inl rfl
      · rw [if_neg h9]
        obtain ⟨hf1, hf2⟩ := lead_form 10 b
        have hsp : b.take (lead 10 b + 1) = b.take (lead 10 b) ++ [b[lead 10 b]] := by
          rw [List.take_add_one, List.getElem?_eq_getElem hlt]; rfl
        have hlen : (b.take (lead 10 b)).length = lead 10 b := by rw [List.length_take]; omega
        refine .inr (.inr ⟨b.take (lead 10 b), b[lead 10 b], b.drop (lead 10 b + 1), ?_, hf1, hf2 hlt (by omega), by omega, ?_, ?_⟩)
        · rw [← List.drop_eq_getElem_cons hlt, List.take_append_drop]
        · rw [hor_append]
          have h3 := hor_lt (b.take (lead 10 b))
          rw [hlen] at h3 ⊢
          simp only [hor, Nat.mul_zero, Nat.add_zero]
          exact val_lt (by omega) (by omega) h9 h3
        · rw [hsp, hlen]; simp [rdR]

/-! ### the shortest form -/
theorem enc_lt {v : Nat} (h : v < 128) : enc v = [UInt8.ofNat v] := by rw [enc, if_pos h]
theorem enc_ge {v : Nat} (h : ¬ v < 128) : enc v = UInt8.ofNat (128 + v % 128) :: enc (v / 128) := by rw [enc, if_neg h]
theorem enc_len : ∀ (v : Nat), (enc v).length = lenN v := by
  intro v
  induction v using Nat.strongRecOn with
  | _ v ih =>
    by_cases h : v < 128
    · rw [enc_lt h, lenN_lt h]; rfl
    · rw [enc_ge h, lenN_ge h, List.length_cons, ih _ (by omega)]
theorem enc_le {v : Nat} (h : v < 18446744073709551616) : 1 ≤ (enc v).length ∧ (enc v).length ≤ 10 := by
  rw [enc_len]; exact ⟨lenN_pos v, lenN_u64 h⟩
theorem enc_form : ∀ (v : Nat), ∃ x c, enc v = x ++ [c] ∧ (∀ z ∈ x, 128 ≤ z.toNat) ∧ c.toNat < 128 := by
  intro v
  induction v using Nat.strongRecOn with
  | _ v ih =>
    by_cases h : v < 128
    · exact ⟨[], UInt8.ofNat v, enc_lt h, (fun z hz => by cases hz), by simp; omega⟩
    · obtain ⟨x, c, e, h1, h2⟩ := ih (v / 128) (by omega)
      refine ⟨UInt8.ofNat (128 + v % 128) :: x, c, by rw [enc_ge h, e]; rfl, fun z hz => ?_, h2⟩
      cases hz with
      | head => simp; omega
      | tail _ hz => exact h1 z hz
theorem enc_last : ∀ (v : Nat) (y : List UInt8), enc v = y ++ [0] → y = [] := by
  intro v
  induction v using Nat.strongRecOn with
  | _ v ih =>
    intro y he
    by_cases h : v < 128
    · rw [enc_lt h] at he
      cases y with
      | nil => rfl
      | cons d y => simp at he
    · rw [enc_ge h] at he
      cases y with
      | nil =>
        rfl
      | cons d y =>
        simp only [List.cons_append, List.cons.injEq] at he
        have hy := ih (v / 128) (by omega) y he.2
        subst hy
        have he2 := he.2
        by_cases h2 : v / 128 < 128
        · rw [enc_lt h2] at he2
          simp only [List.nil_append, List.cons.injEq, and_true] at he2
          have := congrArg UInt8.toNat he2
          simp at this
          omega
        · rw [enc_ge h2] at he2
          simp only [List.nil_append, List.cons.injEq] at he2
          obtain ⟨x, c, e, _⟩ := enc_form (v / 128 / 128)
          rw [e] at he2
          exact absurd he2.2 (by simp)
theorem byte_eta (c : UInt8) (h : 128 ≤ c.toNat) : UInt8.ofNat (128 + c.toNat % 128) = c := by
  have := c.toNat_lt
  rw [show 128 + c.toNat % 128 = c.toNat by omega, UInt8.ofNat_toNat]
theorem hor_pos (x : List UInt8) (c : UInt8) (h : c.toNat < 128) (h0 : c ≠ 0) : 0 < hor (x ++ [c]) := by
  rw [hor_append]
  have : c.toNat ≠ 0 := fun e => h0 (UInt8.toNat_inj.1 (by simpa using e))
  simp only [hor]
  have h1 : 0 < 128 ^ x.length := Nat.pow_pos (by omega)
  have h2 : 0 < c.toNat % 128 + 128 * 0 := by omega
  have := Nat.mul_pos h1 h2
  omega
theorem enc_hor (x : List UInt8) (c : UInt8) (hx : ∀ z ∈ x, 128 ≤ z.toNat) (hc : c.toNat < 128) (h0 : c ≠ 0) : enc (hor (x ++ [c])) = x ++ [c] := by
  induction x with
  | nil =>
    have : hor ([] ++ [c]) = c.toNat := by simp [hor]; omega
    rw [this, enc_lt hc, UInt8.ofNat_toNat]; rfl
  | cons d t ih =>
    have h1 := hor_pos t c hc h0
    have hd := hx d List.mem_cons_self
    rw [List.cons_append, hor, enc_ge (by omega)]
    have e1 : (d.toNat % 128 + 128 * hor (t ++ [c])) % 128 = d.toNat % 128 := by omega
    have e2 : (d.toNat % 128 + 128 * hor (t ++ [c])) / 128 = hor (t ++ [c]) := by omega
    rw [e1, e2, byte_eta d hd, ih fun z hz => hx z (List.mem_cons_of_mem _ hz)]
theorem enc_hor_iff (x : List UInt8) (c : UInt8) (hx : ∀ z ∈ x, 128 ≤ z.toNat) (hc : c.toNat < 128) : enc (hor (x ++ [c])) = x ++ [c] ↔ x = [] ∨ c ≠ 0 := by
  constructor
  · intro h
    by_cases h0 : c = 0
    · subst h0; exact .inl (enc_last _ _ h)
    · exact .inr h0
  · rintro (rfl | h0)
    · have : hor ([] ++ [c]) = c.toNat := by simp [hor]; omega
      rw [this, enc_lt hc, UInt8.ofNat_toNat]; rfl
    · exact enc_hor x c hx hc h0
theorem scan_enc : ∀ (v i acc : Nat) (more : List UInt8), v * 128 ^ i < 18446744073709551616 → scan i acc (enc v ++ more) = .inr (((acc + v * 128 ^ i : Nat) : Int), ((i + (enc v).length : Nat) : Int), 0) := by
  intro v
  induction v using Nat.strongRecOn with
  | _ v ih =>
    intro i acc more hv
    have h9 : i = 9 → v ≤ 1 := fun h => by
      subst h
      by_cases h1 : v ≤ 1
      · exact h1
      · have := Nat.mul_le_mul_right (128 ^ 9) (show 2 ≤ v by omega)
        omega
    by_cases h : v < 128
    · have e : (UInt8.ofNat v).toNat = v := by simp; omega
      rw [enc_lt h, List.singleton_append, scan, e, if_neg (by omega), if_pos h, Nat.mod_eq_of_lt h]; rfl
    · have e : (UInt8.ofNat (128 + v % 128)).toNat = 128 + v % 128 := by simp; omega
      rw [enc_ge h, List.cons_append, scan, e, if_neg (by omega), if_neg (by omega)]
      have h2 : v / 128 * 128 ^ (i + 1) ≤ v * 128 ^ i := by
        rw [Nat.pow_succ, Nat.mul_comm (128 ^ i) 128, ← Nat.mul_assoc]
        exact Nat.mul_le_mul_right _ (by omega)
      rw [ih (v / 128) (by omega) (i + 1) _ _ (by omega)]
      have e3 : acc + (128 + v % 128) % 128 * 128 ^ i + v / 128 * 128 ^ (i + 1) = acc + v * 128 ^ i := by
        have e5 : v / 128 * 128 ^ (i + 1) = v / 128 * 128 * 128 ^ i := by rw [Nat.pow_succ, Nat.mul_comm (128 ^ i) 128, ← Nat.mul_assoc]
        rw [e5, show (128 + v % 128) % 128 = v % 128 by omega, Nat.add_assoc, ← Nat.add_mul, show v % 128 + v / 128 * 128 = v by omega]
      rw [e3, List.length_cons]
      congr 3
      omega
theorem rd_enc {v : Nat} (more : List UInt8) (h : v < 18446744073709551616) : rd (enc v ++ more) = ((v : Int), (((enc v).length : Nat) : Int), 0) := by
  unfold rd
  rw [List.take_append, List.take_of_length_le (enc_le h).2, scan_enc v 0 0 _ (by simpa using h)]
  simp [rdR]
theorem scan_high : ∀ (l : List UInt8) (i acc : Nat), (∀ y ∈ l, 128 ≤ y.toNat) → i + l.length ≤ 9 → scan i acc l = .inl () := by
  intro l
  induction l with
  | nil => intro _ _ _ _; rfl
  | cons c t ih =>
    intro i acc h hl
    simp only [List.length_cons] at hl
    have hc := h c List.mem_cons_self
    rw [scan, if_neg (by omega), if_neg (by omega)]
    exact ih _ _ (fun y hy => h y (List.mem_cons_of_mem _ hy)) (by omega)
theorem rd_high {l : List UInt8} (h : ∀ y ∈ l, 128 ≤ y.toNat) (hl : l.length ≤ 9) : rd l = (0, 0, 3) := by
  unfold rd
  rw [List.take_of_length_le (by omega), scan_high _ _ _ h (by omega)]; rfl
theorem rd_short {v : Nat} (h : v < 18446744073709551616) : rd ((enc v).take ((enc v).length - 1)) = (0, 0, 3) := by
  obtain ⟨x, c, e, h1, _⟩ := enc_form v
  have := (enc_le h).2
  rw [e] at this ⊢
  simp only [List.length_append, List.length_cons, List.length_nil] at this ⊢
  rw [show x.length + (0 + 1) - 1 = x.length by omega, List.take_left]
  exact rd_high h1 (by omega)
/-! ### putting -/
theorem refput_is : ∀ (k v : Nat), v < 128 ^ (k + 1) → k ≤ 9 → v < 18446744073709551616 → darningref02_Put (k + 1) (v : Int) = some (enc v) := by
  intro k
  induction k with
  | zero =>
    intro v hv _ _
    rw [darningref02_Put]
    unfold darningref02_Put_f
    rw [itT (by simp; omega), wrap_u8, byteO_nat (n := v) (by omega) (by omega), sb, enc_lt (by omega)]
  | succ k ih =>
    intro v hv hk h64
    rw [darningref02_Put]
    unfold darningref02_Put_f
    by_cases h : v < 128
    · rw [itT (by simp; omega), wrap_u8, byteO_nat (n := v) (by omega) (by omega), sb, enc_lt h]
    · rw [itF (by simp; omega), wrap_u8, wrap_u64, wrap_u64, Int.tmod_eq_emod_of_nonneg (by omega), Int.tdiv_eq_ediv_of_nonneg (by omega)]
      rw [byteO_nat (n := 128 + v % 128) (by omega) (by omega), sb]
      have e : ((v : Int) / 128 % 18446744073709551616) = ((v / 128 : Nat) : Int) := by omega
      have h2 : v / 128 < 128 ^ (k + 1) := by rw [Nat.pow_succ] at hv; exact Nat.div_lt_of_lt_mul (by omega)
      rw [e, ih _ h2 (by omega) (by omega), sb]
      have := (enc_le (v := v / 128) (by omega)).2
      rw [app_of (by simp; omega), sb, enc_ge h]; rfl
theorem refput_u64 {v : Nat} (h : v < 18446744073709551616) : darningref02_Put 10 (v : Int) = some (enc v) := refput_is 9 v (by omega) (Nat.le_refl _) h
theorem shr_7 (v : Nat) : shrI .u64 (v : Int) 7 = ((v / 128 : Nat) : Int) := shrI_nat (k := .u64) (a := v) (b := 7) (by simp [IntKind.bits])
theorem len_loop : ∀ (w n : Nat), n + w < 9223372036854775808 + w → n + lz w ≤ 1152921504606846976 → bits_Len_l1 w n = some ((n + lz w : Nat) : Int) := by
  intro w
  induction w using Nat.strongRecOn with
  | _ w ih =>
    intro n hn hl
    by_cases h : w = 0
    · subst h
      refine bits_Len_l1_inr ?_
      unfold bits_Len_b1
      rw [itF (by simp)]; rfl
    · have e := lz_pos h
      refine (bits_Len_l1_inl (wv2' := ((w / 128 : Nat) : Int)) (n' := ((n + 1 : Nat) : Int)) ?_).trans ?_
      · unfold bits_Len_b1
        rw [itT (by simp; omega), shr_7, wrap_i64 (by omega)]; rfl
      · rw [ih (w / 128) (by omega) (n + 1) (by omega) (by omega)]
        congr 2; omega
theorem len_is {v : Nat} (h : v < 18446744073709551616) : bits_Len (v : Int) = some ((lenN v : Nat) : Int) := by
  unfold bits_Len
  have h1 := lz_div v
  have h2 := lenN_u64 h
  have h3 := len_loop (v / 128) 1 (by omega) (by omega)
  have h3' : bits_Len_l1 ((v / 128 : Nat) : Int) 1 = some ((1 + lz (v / 128) : Nat) : Int) := h3
  rw [shr_7, h3', sb, h1]
theorem or_128 : ∀ n < 256, n ||| 128 = n % 128 + 128 := by decide +kernel
theorem put_loop : ∀ (v : Nat) (l : List UInt8), v < 18446744073709551616 → l.length + (enc v).length ≤ 1152921504606 → ∃ (v' : Nat) (l' : List UInt8), varint_Put_l1 (v : Int) l = some ((v' : Int), l') ∧ v' < 128 ∧ l' ++ [UInt8.ofNat v'] = l ++ enc v := by
  intro v
  induction v using Nat.strongRecOn with
  | _ v ih =>
    intro l hv hl
    by_cases h : v < 128
    · refine ⟨v, l, varint_Put_l1_inr ?_, h, by rw [enc_lt h]⟩
      unfold varint_Put_b1
      rw [itF (by simp; omega)]
    · rw [enc_ge h, List.length_cons] at hl
      obtain ⟨v', l', h1, h2, h3⟩ := ih (v / 128) (by omega) (l ++ [UInt8.ofNat (128 + v % 128)]) (by omega) (by simp; omega)
      refine ⟨v', l', ?_, h2, by rw [h3, enc_ge h]; simp⟩
      refine (varint_Put_l1_inl (wv2' := ((v / 128 : Nat) : Int)) (l' := l ++ [UInt8.ofNat (128 + v % 128)]) ?_).trans h1
      unfold varint_Put_b1
      have e1 : (v : Int) % 256 = ((v % 256 : Nat) : Int) := by omega
      have e2 : orI .u8 ((v % 256 : Nat) : Int) 128 = ((v % 128 + 128 : Nat) : Int) := by
        have := orI_nat (k := .u8) rfl (a := v % 256) (b := 128) (by simp [IntKind.bits]; omega) (by simp [IntKind.bits])
        rw [or_128 _ (by omega)] at this
        have e3 : ((128 : Nat) : Int) = 128 := rfl
        rw [e3] at this
        rw [this]; congr 1; omega
      rw [itT (by simp; omega), wrap_u8, e1, e2, byteO_nat (n := 128 + v % 128) (by omega) (by omega), sb, app_of (by simp; omega), sb, shr_7]
theorem put_is {v : Nat} (b : List UInt8) (h : v < 18446744073709551616) (hb : b.length ≤ 1099511627776) : varint_Put b (v : Int) = some (b ++ enc v) := by
  unfold varint_Put
  have h1 := lenN_u64 h
  have h2 := (enc_le h).2
  rw [len_is h, sb, wrap_i64 (by omega), mkO_nil (by omega) (by omega), sb, app_of (by simp; omega), sb]
  obtain ⟨v', l', h3, h4, h5⟩ := put_loop v b h (by omega)
  have hlen : l'.length + 1 = b.length + (enc v).length := by have := congrArg List.length h5; simpa using this
  simp only [List.nil_append]
  rw [h3, sb, wrap_u8]
  simp only
  rw [byteO_nat (n := v') (by omega) (by omega), sb, app_of (by simp; omega), sb, h5]

/-! ### lists held against each other -/
theorem same_bytes (a b : List UInt8) : darningref01_Same a b = some (a == b) := rfl
theorem same_loop (a b : List Int) (hl : a.length = b.length) (hb : a.length ≤ 1152921504606846976) : ∀ (k i : Nat), i + k = a.length →
    (a.drop i = b.drop i ∧ darningref02_Same_l1 a b i = some (.inl ())) ∨ (a.drop i ≠ b.drop i ∧ darningref02_Same_l1 a b i = some (.inr ())) := by
  intro k
  induction k with
  | zero =>
    intro i hi
    refine .inl ⟨?_, darningref02_Same_l1_inr ?_⟩
    · rw [List.drop_eq_nil_of_le (by omega), List.drop_eq_nil_of_le (by omega)]
    · unfold darningref02_Same_b1
      rw [itF (by simp; omega)]
  | succ k ih =>
    intro i hi
    have ha : a.drop i = a[i]'(by omega) :: a.drop (i + 1) := List.drop_eq_getElem_cons (by omega)
    have hb' : b.drop i = b[i]'(by omega) :: b.drop (i + 1) := List.drop_eq_getElem_cons (by omega)
    have hbody : darningref02_Same_b1 a b i = if a[i]'(by omega) = b[i]'(by omega) then some (.inl ((i + 1 : Nat) : Int)) else some (.inr (.inr ())) := by
      unfold darningref02_Same_b1
      rw [itT (by simp; omega), idx_of rfl (show i < a.length by omega), sb, idx_of rfl (show i < b.length by omega), sb, wrap_i64 (by omega)]
      by_cases h : a[i]'(by omega) = b[i]'(by omega)
      · rw [if_pos h, itF (by simpa using h)]; rfl
      · rw [if_neg h, itT (by simpa using h)]
    rw [ha, hb']
    by_cases h : a[i]'(by omega) = b[i]'(by omega)
    · rw [if_pos h] at hbody
      rw [darningref02_Same_l1_inl hbody]
      rcases ih (i + 1) (by omega) with ⟨h1, h2⟩ | ⟨h1, h2⟩
      · exact .inl ⟨by rw [h, h1], h2⟩
      · exact .inr ⟨fun e => h1 (List.cons.inj e).2, h2⟩
    · rw [if_neg h] at hbody
      exact .inr ⟨fun e => h (List.cons.inj e).1, darningref02_Same_l1_inr hbody⟩
theorem same_is (a b : List Int) (hb : a.length ≤ 1152921504606846976) : darningref02_Same a b = some (decide (a = b)) := by
  unfold darningref02_Same
  by_cases hl : a.length = b.length
  · rw [itF (by simp; omega)]
    rcases same_loop a b hl hb a.length 0 (by omega) with ⟨h1, h2⟩ | ⟨h1, h2⟩
    · have h2' : darningref02_Same_l1 a b 0 = some (.inl ()) := h2
      rw [h2', sb]
      simp only [List.drop_zero] at h1
      simp [h1]
    · have h2' : darningref02_Same_l1 a b 0 = some (.inr ()) := h2
      rw [h2', sb]
      simp only [List.drop_zero] at h1
      simp [h1]
  · rw [itT (by simp; omega)]
    have : a ≠ b := fun e => hl (by rw [e])
    simp [this]

/-! ### the shortest form, asked -/
def isMin (b : List UInt8) : Bool := decide ((rd b).2.2 = 0 ∧ (rd b).2.1 = (b.length : Int)) && (b == enc (rd b).1.toNat)
theorem min_is (b : List UInt8) (_hb : b.length ≤ 1152921504606846976) : varint_Minimal b = some (isMin b) := by
  unfold varint_Minimal isMin
  rw [read_is, sb]
  rcases rd_cases b with h | ⟨h, _⟩ | ⟨x, c, y, e, hx, hc, hl, hv, h⟩
  · rw [h, itF (by simp)]; rfl
  · rw [h, itF (by simp)]; rfl
  · rw [h, itT (by simp)]
    simp only [Int.toNat_natCast]
    by_cases hlen : y = []
    · subst hlen
      have e2 : b.length = x.length + 1 := by rw [e]; simp
      rw [itT (by simp; omega)]
      have hiff := enc_hor_iff x c hx hc
      have hres : decide (((x.length + 1 : Nat) : Int) = (b.length : Int)) = true := by simp; omega
      have hb' : (b == enc (hor (x ++ [c]))) = decide (x = [] ∨ c ≠ 0) := by
        rw [e]
        by_cases h1 : x = [] ∨ c ≠ 0
        · rw [hiff.2 h1]; simp [h1]
        · have : ¬ x ++ [c] = enc (hor (x ++ [c])) := fun h2 => h1 (hiff.1 h2.symm)
          simp only [decide_eq_false h1, beq_eq_false_iff_ne]; exact this
      rw [hb']
      by_cases h1 : x = []
      · subst h1
        rw [itT (by simp), sb]; simp [e]
      · have hxl : x.length ≠ 0 := fun h2 => h1 (List.eq_nil_of_length_eq_zero h2)
        rw [itF (by simp; omega), wrap_i64 (by omega)]
        have hg : b[x.length]'(by omega) = c := by simp [e]
        rw [idx_of (show ((x.length + 1 : Nat) : Int) - 1 = ((x.length : Nat) : Int) by push_cast; omega) (show x.length < b.length by omega), sb, sb, hg]
        congr 1
        have h4 : ((c.toNat : Int) != 0) = decide (c ≠ 0) := by
          by_cases h5 : c = 0
          · subst h5; rfl
          · have : c.toNat ≠ 0 := fun e => h5 (UInt8.toNat_inj.1 (by simpa using e))
            simp [h5]; omega
        rw [h4]; simp [e2, h1]
    · have hyl : y.length ≠ 0 := fun h2 => hlen (List.eq_nil_of_length_eq_zero h2)
      have e2 : b.length = x.length + 1 + y.length := by rw [e]; simp; omega
      rw [itF (by simp; omega), sb]
      rw [decide_eq_false (fun h5 => by have := h5.2; omega), Bool.false_and]
theorem alive_is : darninglaw02_alive = some true := by
  unfold darninglaw02_alive
  have h1 : rd [128, 1] = (128, 2, 0) := by decide
  have h2 : isMin [128, 0] = false := by
    unfold isMin
    have : rd [128, 0] = (0, 2, 0) := by decide
    rw [this]
    simp [enc_lt]
  have h3 : isMin [0] = true := by
    unfold isMin
    have : rd [0] = (0, 1, 0) := by decide
    rw [this]
    simp [enc_lt]
  simp [read_is, h1, min_is, h2, h3, wrap_i64]

/-! ### lists of numbers -/
def okQ : List Int ⊕ Int → Prop
  | .inl l => l.length ≤ 1048576
  | .inr c => c = 3 ∨ c = 4
theorem all_loop (b : List UInt8) (hb : b.length ≤ 1048576) : ∀ (k a : Nat) (acc : List Int), b.length - a ≤ k → a ≤ b.length → acc.length + (b.length - a) ≤ 1048576 →
    ∃ q, varint_All_l1 (b.drop a) acc = some q ∧ darningref02_All_l1 b acc a = some q ∧ okQ q := by
  intro k
  have fin : ∀ (a : Nat) (acc : List Int), a = b.length → acc.length ≤ 1048576 → ∃ q, varint_All_l1 (b.drop a) acc = some q ∧ darningref02_All_l1 b acc a = some q ∧ okQ q := by
    intro a acc ha hacc
    have hd : b.drop a = [] := List.drop_eq_nil_of_le (by omega)
    refine ⟨.inl acc, varint_All_l1_inr ?_, darningref02_All_l1_inr ?_, hacc⟩
    · rw [hd]; unfold varint_All_b1; rw [itF (by simp)]
    · unfold darningref02_All_b1; rw [itF (by simp; omega)]
  induction k with
  | zero => intro a acc hk ha hacc; exact fin a acc (by omega) (by omega)
  | succ k ih =>
    intro a acc hk ha hacc
    by_cases hend : a = b.length
    · exact fin a acc hend (by omega)
    · have hdl : (b.drop a).length = b.length - a := by simp
      have t1 : (decide (((b.drop a).length : Int) > 0)) = true := by simp; omega
      have t2 : (decide ((a : Int) < (b.length : Int))) = true := by simp; omega
      rcases rd_cases (b.drop a) with h | ⟨h, _⟩ | ⟨x, c, y, e, hx, hc, hl, hv, h⟩
      · refine ⟨.inr 4, varint_All_l1_inr ?_, darningref02_All_l1_inr ?_, .inr rfl⟩
        · unfold varint_All_b1; rw [itT t1, read_is, sb, h, itT (by decide)]
        · unfold darningref02_All_b1; rw [itT t2, ref_is b a (by omega) ha, sb, h, itT (by decide)]
      · refine ⟨.inr 3, varint_All_l1_inr ?_, darningref02_All_l1_inr ?_, .inl rfl⟩
        · unfold varint_All_b1; rw [itT t1, read_is, sb, h, itT (by decide)]
        · unfold darningref02_All_b1; rw [itT t2, ref_is b a (by omega) ha, sb, h, itT (by decide)]
      · have hxy : x.length + 1 + y.length = b.length - a := by rw [← hdl, e]; simp; omega
        obtain ⟨q, h1, h2, h3⟩ := ih (a + (x.length + 1)) (acc ++ [((hor (x ++ [c]) : Nat) : Int)]) (by omega) (by omega) (by simp; omega)
        refine ⟨q, (varint_All_l1_inl (b2' := b.drop (a + (x.length + 1))) (l' := acc ++ [((hor (x ++ [c]) : Nat) : Int)]) ?_).trans h1, (darningref02_All_l1_inl (out' := acc ++ [((hor (x ++ [c]) : Nat) : Int)]) (atv' := ((a + (x.length + 1) : Nat) : Int)) ?_).trans h2, h3⟩
        · unfold varint_All_b1
          rw [itT t1, read_is, sb, h, itF (by rfl), app_of (by simp; omega), sb, cut_drop (a := x.length + 1) rfl rfl (by omega), sb, List.drop_drop]
        · unfold darningref02_All_b1
          rw [itT t2, ref_is b a (by omega) ha, sb, h, itF (by rfl), app_of (by simp; omega), sb, wrap_i64 (by simp only; omega)]
          simp
theorem all_both (b : List UInt8) (hb : b.length ≤ 1048576) : ∃ r, varint_All b = some r ∧ darningref02_All b = some r ∧ r.1.length ≤ 1048576 ∧ 0 ≤ r.2 ∧ r.2 ≤ 4 := by
  obtain ⟨q, h1, h2, h3⟩ := all_loop b hb b.length 0 [] (by omega) (by omega) (by simp; omega)
  simp only [List.drop_zero] at h1
  have h2' : darningref02_All_l1 b [] 0 = some q := h2
  unfold varint_All darningref02_All
  rw [h1, h2', sb]
  cases q with
  | inl l => exact ⟨(l, 0), rfl, rfl, h3, Int.le_refl _, by omega⟩
  | inr c => exact ⟨([], c), rfl, rfl, Nat.zero_le _, by rcases h3 with rfl | rfl <;> decide, by rcases h3 with rfl | rfl <;> decide⟩
/-- Numbers put one behind another, read back. -/
theorem all_enc : ∀ (vs : List Nat) (rest : List UInt8) (acc : List Int), (∀ v ∈ vs, v < 18446744073709551616) → acc.length + vs.length ≤ 1048576 →
    varint_All_l1 (vs.flatMap enc ++ rest) acc = varint_All_l1 rest (acc ++ vs.map (fun v : Nat => (v : Int))) := by
  intro vs
  induction vs with
  | nil => intro rest acc _ _; simp
  | cons v vs ih =>
    intro rest acc hv hl
    have h64 := hv v List.mem_cons_self
    have hen := enc_le h64
    simp only [List.length_cons] at hl
    refine (varint_All_l1_inl (b2' := vs.flatMap enc ++ rest) (l' := acc ++ [(v : Int)]) ?_).trans ?_
    · unfold varint_All_b1
      have e : (v :: vs).flatMap enc ++ rest = enc v ++ (vs.flatMap enc ++ rest) := by simp
      rw [e, itT (by simp; omega), read_is, sb, rd_enc _ h64, itF (by rfl), app_of (by simp; omega), sb, cut_drop (a := (enc v).length) rfl rfl (by simp), sb, List.drop_left]
    · rw [ih rest _ (fun u hu => hv u (List.mem_cons_of_mem _ hu)) (by simp; omega)]
      simp
theorem all_nil (acc : List Int) : varint_All_l1 [] acc = some (.inl acc) := by
  refine varint_All_l1_inr ?_
  unfold varint_All_b1
  rw [itF (by simp)]
end Go.Proofs.Ytnhnanbgphdaeaa
