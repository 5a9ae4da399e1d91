/-
  What the plain functions are. No condition.
-/
import Derived.Test.YthkdneddbbocmaaS1
import Derived.Test.YthkdneddbbocmaaK2
namespace Go.Proofs.Ythkdneddbbocmaa
open Go
def enc (v : Nat) : List UInt8 := if v < 128 then [UInt8.ofNat v] else UInt8.ofNat (128 + v % 128) :: enc (v / 128)
termination_by v
decreasing_by omega
def scan : Nat → Nat → List UInt8 → Unit ⊕ (Int × Int × Int)
  | _, _, [] => .inl ()
  | i, acc, c :: t => if i = 9 ∧ 1 < c.toNat then .inr (0, 0, 4) else if c.toNat < 128 then .inr (((acc + c.toNat % 128 * 128 ^ i : Nat) : Int), ((i + 1 : Nat) : Int), 0) else scan (i + 1) (acc + c.toNat % 128 * 128 ^ i) t
def rdR : Unit ⊕ (Int × Int × Int) → Int × Int × Int
  | .inl _ => (0, 0, 3)
  | .inr r => r
def rd (b : List UInt8) : Int × Int × Int := rdR (scan 0 0 (b.take 10))
def hor : List UInt8 → Nat
  | [] => 0
  | c :: t => c.toNat % 128 + 128 * hor t
def lead : Nat → List UInt8 → Nat
  | 0, _ => 0
  | _ + 1, [] => 0
  | k + 1, c :: t => if 128 ≤ c.toNat then lead k t + 1 else 0
theorem pow_7 (i : Nat) : 2 ^ (7 * i) = 128 ^ i := by rw [Nat.pow_mul]
theorem and_127 (c : Nat) : c &&& 127 = c % 128 := Nat.and_two_pow_sub_one_eq_mod c 7
theorem read_step {acc i c : Nat} (hi : i ≤ 9) (hacc : acc < 128 ^ i) (hc : c < 256) (h9 : i = 9 → c ≤ 1) :
    orI .u64 (acc : Int) (shlI .u64 (IntKind.u64.wrap (andI .u8 (c : Int) 127)) ((7 * i : Nat) : Int)) = ((acc + c % 128 * 128 ^ i : Nat) : Int) := by
  have e1 : andI .u8 (c : Int) 127 = ((c % 128 : Nat) : Int) := by
    have := andI_nat (k := .u8) rfl (a := c) (b := 127) (by simpa [IntKind.bits] using hc) (by simp [IntKind.bits])
    rw [and_127] at this; exact this
  have hp : 128 ^ i ≤ 128 ^ 9 := Nat.pow_le_pow_right (by omega) hi
  have hlt : c % 128 * 128 ^ i < 18446744073709551616 := by
    by_cases h : i = 9
    · subst h
      have := h9 rfl
      have h2 : c % 128 ≤ 1 := by omega
      have := Nat.mul_le_mul_right (128 ^ 9) h2
      omega
    · have h3 : 128 ^ i ≤ 128 ^ 8 := Nat.pow_le_pow_right (by omega) (by omega)
      have := Nat.mul_le_mul (show c % 128 ≤ 127 by omega) h3
      omega
  have e2 : shlI .u64 (IntKind.u64.wrap ((c % 128 : Nat) : Int)) ((7 * i : Nat) : Int) = ((c % 128 * 128 ^ i : Nat) : Int) := by
    unfold shlI
    rw [wrap_nat rfl (by simp [IntKind.bits]; omega), Int.toNat_natCast, Nat.min_eq_left (by simp [IntKind.bits]; omega)]
    have h4 : ((c % 128 : Nat) : Int) * 2 ^ (7 * i) = ((c % 128 * 128 ^ i : Nat) : Int) := by rw [← pow_7]; push_cast; rfl
    rw [h4]
    exact wrap_nat rfl (by simpa [IntKind.bits] using hlt)
  rw [e1, e2, orI_nat rfl (by simp [IntKind.bits]; omega) (by simpa [IntKind.bits] using hlt)]
  congr 1
  rw [← pow_7] at hacc ⊢
  exact or_high' _ _ _ hacc
theorem read_loop : ∀ (t : List UInt8) (v : List UInt8) (i acc : Nat), v.drop i = t → i + t.length = v.length → v.length ≤ 10 → acc < 128 ^ i → varint_Read_l1 v acc i = some (scan i acc t) := by
  intro t
  induction t with
  | nil =>
    intro v i acc _ hl _ _
    refine varint_Read_l1_inr ?_
    unfold varint_Read_b1
    rw [itF (by simp at hl ⊢; omega)]
    rfl
  | cons c t ih =>
    intro v i acc hd hl hv hacc
    simp only [List.length_cons] at hl
    have hget : v[i]'(by omega) = c := by
      have h1 : v.drop i = v[i]'(by omega) :: v.drop (i + 1) := List.drop_eq_getElem_cons (by omega)
      rw [hd] at h1; exact (List.cons.inj h1).1.symm
    have hd' : v.drop (i + 1) = t := by rw [← List.drop_drop, hd]; rfl
    have hc := c.toNat_lt
    have hb : varint_Read_b1 v acc i = if i = 9 ∧ 1 < c.toNat then some (.inr (.inr (0, 0, 4))) else if c.toNat < 128 then some (.inr (.inr (((acc + c.toNat % 128 * 128 ^ i : Nat) : Int), ((i + 1 : Nat) : Int), 0))) else some (.inl (((acc + c.toNat % 128 * 128 ^ i : Nat) : Int), ((i + 1 : Nat) : Int))) := by
      unfold varint_Read_b1
      rw [itT (by simp; omega), idx_of rfl (show i < v.length by omega), sb, hget]
      by_cases h9 : i = 9 ∧ 1 < c.toNat
      · rw [if_pos h9, itT (by simp; omega)]
      · rw [if_neg h9, itF (by simp; omega), wrap_i64 (by omega)]
        have e : ((7 : Int) * (i : Int)) = ((7 * i : Nat) : Int) := by push_cast; rfl
        rw [e, shlO_nat, sb, read_step (by omega) hacc (by omega) (by omega), wrap_i64 (by omega)]
        by_cases h8 : c.toNat < 128
        · rw [if_pos h8, itT (by simp; omega)]; push_cast; rfl
        · rw [if_neg h8, itF (by simp; omega)]; push_cast; rfl
    rw [scan]
    split at hb
    · rename_i h9; rw [if_pos h9]; exact varint_Read_l1_inr hb
    · rename_i h9
      rw [if_neg h9]
      split at hb
      · rename_i h8; rw [if_pos h8]; exact varint_Read_l1_inr hb
      · rename_i h8
        rw [if_neg h8, varint_Read_l1_inl hb]
        refine ih v (i + 1) _ hd' (by omega) hv ?_
        rw [Nat.pow_succ]
        have := Nat.mul_le_mul_right (128 ^ i) (show c.toNat % 128 ≤ 127 by omega)
        omega
theorem read_is (b : List UInt8) : varint_Read b = some (rd b) := by
  unfold varint_Read rd
  have e : (if (10 : Int) < (b.length : Int) then (10 : Int) else (b.length : Int)) = ((min 10 b.length : Nat) : Int) := by split <;> omega
  have e2 : b.take (min 10 b.length) = b.take 10 := by rw [List.take_eq_take_iff]; omega
  rw [e, cut_take rfl (by omega), sb, e2]
  have h := read_loop (b.take 10) (b.take 10) 0 0 rfl (by simp) (by simp; omega) (by simp)
  have h' : varint_Read_l1 (b.take 10) 0 0 = some (scan 0 0 (b.take 10)) := h
  rw [h', sb]
  cases scan 0 0 (b.take 10) <;> rfl
theorem skip_is (b : List UInt8) : varint_Skip b = some ((rd b).2.1, (rd b).2.2) := by unfold varint_Skip; rw [read_is, sb]
theorem lead_le : ∀ (k : Nat) (l : List UInt8), lead k l ≤ k ∧ lead k l ≤ l.length
  | 0, _ => ⟨Nat.le_refl _, Nat.zero_le _⟩
  | _ + 1, [] => ⟨Nat.zero_le _, Nat.le_refl _⟩
  | k + 1, c :: t => by
    have := lead_le k t
    rw [lead]; split <;> simp <;> omega
theorem scan_lead : ∀ (l : List UInt8) (i acc : Nat), i + l.length ≤ 10 → i ≤ 9 →
    scan i acc l = if i + lead (10 - i) l = 10 then .inr (0, 0, 4) else if lead (10 - i) l = l.length then .inl () else if i + lead (10 - i) l = 9 ∧ 1 < (l.getD (lead (10 - i) l) 0).toNat then .inr (0, 0, 4) else
      .inr (((acc + hor (l.take (lead (10 - i) l + 1)) * 128 ^ i : Nat) : Int), ((i + lead (10 - i) l + 1 : Nat) : Int), 0) := by
  intro l
  induction l with
  | nil =>
    intro i acc _ hi
    obtain ⟨k, hk⟩ : ∃ k, 10 - i = k + 1 := ⟨9 - i, by omega⟩
    rw [hk]
    simp only [lead, scan, List.length_nil]
    rw [if_neg (by omega), if_pos trivial]
  | cons c t ih =>
    intro i acc hl hi
    obtain ⟨k, hk⟩ : ∃ k, 10 - i = k + 1 := ⟨9 - i, by omega⟩
    simp only [List.length_cons] at hl
    rw [scan]
    by_cases hc : 128 ≤ c.toNat
    · have e : lead (10 - i) (c :: t) = lead k t + 1 := by rw [hk, lead, if_pos hc]
      rw [e]
      by_cases h9 : i = 9
      · have : k = 0 := by omega
        subst this
        rw [if_pos ⟨h9, by omega⟩, lead, if_pos (by omega)]
      · rw [if_neg (by omega), if_neg (by omega), ih (i + 1) _ (by omega) (by omega), show 10 - (i + 1) = k by omega]
        by_cases h1 : i + 1 + lead k t = 10
        · rw [if_pos h1, if_pos (show i + (lead k t + 1) = 10 by omega)]
        · rw [if_neg h1, if_neg (show ¬ i + (lead k t + 1) = 10 by omega)]
          by_cases h2 : lead k t = t.length
          · rw [if_pos h2, if_pos (show lead k t + 1 = (c :: t).length by simp; omega)]
          · rw [if_neg h2, if_neg (show ¬ lead k t + 1 = (c :: t).length by simp; omega)]
            have eg : (c :: t).getD (lead k t + 1) 0 = t.getD (lead k t) 0 := by simp [List.getD]
            rw [eg]
            by_cases h3 : i + 1 + lead k t = 9 ∧ 1 < (t.getD (lead k t) 0).toNat
            · rw [if_pos h3, if_pos (show i + (lead k t + 1) = 9 ∧ 1 < (t.getD (lead k t) 0).toNat by omega)]
            · rw [if_neg h3, if_neg (show ¬ (i + (lead k t + 1) = 9 ∧ 1 < (t.getD (lead k t) 0).toNat) by omega)]
              rw [List.take_succ_cons, hor, Nat.pow_succ]
              have e5 : acc + c.toNat % 128 * 128 ^ i + hor (t.take (lead k t + 1)) * (128 ^ i * 128) = acc + (c.toNat % 128 + 128 * hor (t.take (lead k t + 1))) * 128 ^ i := by
                rw [Nat.add_mul, Nat.mul_assoc 128, Nat.mul_comm (128 ^ i) 128, ← Nat.mul_assoc, Nat.mul_comm _ 128, Nat.mul_assoc]; omega
              rw [e5]
              congr 3
              omega
    · have e : lead (10 - i) (c :: t) = 0 := by rw [hk, lead, if_neg hc]
      rw [e]
      simp only [Nat.add_zero, List.length_cons, List.getD_cons_zero]
      rw [if_neg (show ¬ i = 10 by omega), if_neg (show ¬ 0 = t.length + 1 by omega)]
      by_cases h9 : i = 9 ∧ 1 < c.toNat
      · rw [if_pos h9, if_pos h9]
      · rw [if_neg h9, if_neg h9, if_pos (show c.toNat < 128 by omega)]
        simp [hor]
theorem hor_append (x y : List UInt8) : hor (x ++ y) = hor x + 128 ^ x.length * hor y := by
  induction x with
  | nil => simp [hor]
  | cons c t ih => simp only [List.cons_append, hor, ih, List.length_cons, Nat.pow_succ, Nat.mul_add]; rw [Nat.mul_comm (128 ^ t.length) 128, Nat.mul_assoc]; omega
theorem hor_lt (l : List UInt8) : hor l < 128 ^ l.length := by
  induction l with
  | nil => simp [hor]
  | cons c t ih => simp only [hor, List.length_cons, Nat.pow_succ]; omega
theorem hor_drop (l : List UInt8) (j : Nat) : hor (l.drop j) ≤ hor l := by
  induction l generalizing j with
  | nil => simp
  | cons c t ih =>
    cases j with
    | zero => exact Nat.le_refl _
    | succ j => have := ih j; simp only [List.drop_succ_cons, hor]; omega
theorem ref_loop1 (b : List UInt8) (a : Nat) (hb : b.length ≤ 1152921504606846976) : ∀ (k n : Nat), n + k = 10 → a + n ≤ b.length → darningref02_Read_l1 a b n = some ((n + lead k (b.drop (a + n)) : Nat) : Int) := by
  intro k
  induction k with
  | zero =>
    intro n hn ha
    refine darningref02_Read_l1_inr ?_
    unfold darningref02_Read_b1
    rw [wrap_i64 (by omega)]
    by_cases h1 : a + n < b.length
    · rw [itT (by simp; omega), itF (by simp; omega), sb, itF (by rfl)]; rfl
    · rw [itF (by simp; omega), sb, itF (by rfl)]; rfl
  | succ k ih =>
    intro n hn ha
    by_cases h1 : a + n < b.length
    · have hd : b.drop (a + n) = b[a + n] :: b.drop (a + (n + 1)) := List.drop_eq_getElem_cons h1
      have hbody : darningref02_Read_b1 a b n = if 128 ≤ b[a + n].toNat then some (.inl ((n + 1 : Nat) : Int)) else some (.inr (n : Int)) := by
        unfold darningref02_Read_b1
        rw [wrap_i64 (by omega), wrap_i64 (by omega), itT (by simp; omega), itT (by simp; omega), idx_of (show (a : Int) + n = ((a + n : Nat) : Int) by push_cast; rfl) h1, sb, sb]
        by_cases h2 : 128 ≤ b[a + n].toNat
        · rw [if_pos h2, itT (by simp; omega)]; push_cast; rfl
        · rw [if_neg h2, itF (by simp; omega)]
      rw [hd, lead]
      by_cases h2 : 128 ≤ b[a + n].toNat
      · rw [if_pos h2] at hbody ⊢
        rw [darningref02_Read_l1_inl hbody, ih (n + 1) (by omega) (by omega)]
        congr 2; omega
      · rw [if_neg h2] at hbody ⊢
        exact darningref02_Read_l1_inr hbody
    · have hd : b.drop (a + n) = [] := List.drop_eq_nil_of_le (by omega)
      rw [hd]
      refine darningref02_Read_l1_inr ?_
      unfold darningref02_Read_b1
      rw [wrap_i64 (by omega), itF (by simp; omega), sb, itF (by rfl)]; rfl
theorem ref_loop2 (b : List UInt8) (a m : Nat) (hb : b.length ≤ 1152921504606846976) (hm : a + m ≤ b.length) (hh : hor ((b.drop a).take m) < 18446744073709551616) :
    ∀ (j : Nat), j ≤ m → darningref02_Read_l2 a b (hor (((b.drop a).take m).drop j)) ((j : Int) - 1) = some ((hor ((b.drop a).take m) : Nat) : Int) := by
  intro j
  induction j with
  | zero =>
    intro _
    refine darningref02_Read_l2_inr ?_
    unfold darningref02_Read_b2
    rw [itF (by simp)]; rfl
  | succ j ih =>
    intro hj
    have hL : ((b.drop a).take m).length = m := by simp; omega
    have hd : ((b.drop a).take m).drop j = ((b.drop a).take m)[j]'(by omega) :: ((b.drop a).take m).drop (j + 1) := List.drop_eq_getElem_cons (by omega)
    have hc : ((b.drop a).take m)[j]'(by omega) = b[a + j]'(by omega) := by simp
    have h1 := hor_drop ((b.drop a).take m) j
    rw [hd, hor, hc] at h1
    have h2 := (b[a + j]'(by omega)).toNat_lt
    refine (darningref02_Read_l2_inl (wv' := (hor (((b.drop a).take m).drop j) : Nat)) (i' := (j : Int) - 1) ?_).trans (ih (by omega))
    unfold darningref02_Read_b2
    rw [itT (by simp), wrap_i64 (by omega), idx_of (show (a : Int) + (((j + 1 : Nat) : Int) - 1) = ((a + j : Nat) : Int) by push_cast; omega) (by omega), sb, wrap_i64 (by omega), hd, hor, hc]
    simp only [wrap_u64]
    rw [Int.tmod_eq_emod_of_nonneg (by omega)]
    congr 3
    · omega
    · push_cast; omega
theorem val_lt {n C X : Nat} (hn : n ≤ 9) (hC : C < 256) (h9 : ¬ (n = 9 ∧ 1 < C)) (hX : X < 128 ^ n) : X + 128 ^ n * (C % 128) < 18446744073709551616 := by
  by_cases h9' : n = 9
  · subst h9'
    have : C % 128 ≤ 1 := by omega
    have := Nat.mul_le_mul_left (128 ^ 9) this
    omega
  · have h5 : 128 ^ n ≤ 128 ^ 8 := Nat.pow_le_pow_right (by omega) (by omega)
    have h6 : C % 128 ≤ 127 := by omega
    have := Nat.mul_le_mul h5 h6
    omega
theorem ref_is (b : List UInt8) (a : Nat) (hb : b.length ≤ 1152921504606846976) (ha : a ≤ b.length) : darningref02_Read b a = some (rd (b.drop a)) := by
  unfold darningref02_Read
  have h1 := ref_loop1 b a hb 10 0 rfl (by omega)
  simp only [Nat.zero_add, Nat.add_zero] at h1
  have h1' : darningref02_Read_l1 a b 0 = some ((lead 10 (b.drop a) : Nat) : Int) := h1
  rw [h1', sb]
  have hle := lead_le 10 (b.drop a)
  have hlen : (b.drop a).length = b.length - a := by simp
  -- the ten bytes that count
  have htake : ∀ (k : Nat) (l : List UInt8), lead k (l.take k) = lead k l := by
    intro k
    induction k with
    | zero => intro l; rfl
    | succ k ih => intro l; cases l with
      | nil => rfl
      | cons c t => simp only [List.take_succ_cons, lead, ih]
  have hs := scan_lead ((b.drop a).take 10) 0 0 (by simp; omega) (by omega)
  simp only [Nat.zero_add, Nat.sub_zero, htake, Nat.pow_zero, Nat.mul_one] at hs
  unfold rd
  rw [hs]
  by_cases h10 : lead 10 (b.drop a) = 10
  · rw [if_pos h10, itT (by simp; omega)]; rfl
  · rw [if_neg h10, itF (by simp; omega), wrap_i64 (by omega)]
    by_cases hl : lead 10 (b.drop a) = (b.drop a).length
    · rw [if_pos (show lead 10 (b.drop a) = ((b.drop a).take 10).length by rw [List.length_take]; omega), itT (by simp; omega)]; rfl
    · rw [if_neg (show ¬ lead 10 (b.drop a) = ((b.drop a).take 10).length by rw [List.length_take]; omega), itF (by simp; omega)]
      have hlt : a + lead 10 (b.drop a) < b.length := by omega
      have hg : ((b.drop a).take 10).getD (lead 10 (b.drop a)) 0 = b[a + lead 10 (b.drop a)] := by
        rw [List.getD_eq_getElem?_getD, List.getElem?_take, if_pos (by omega), List.getElem?_drop, List.getElem?_eq_getElem hlt]; rfl
      rw [hg, List.take_take, Nat.min_eq_left (by omega)]
      have hc := (b[a + lead 10 (b.drop a)]).toNat_lt
      have hg2 : (if (((lead 10 (b.drop a) : Nat) : Int) == 9) = true then (idx b ((a : Int) + ((lead 10 (b.drop a) : Nat) : Int)) >>= fun x2 => some (decide ((x2.toNat : Int) > 1))) else some false) = some (decide (lead 10 (b.drop a) = 9 ∧ 1 < (b[a + lead 10 (b.drop a)]).toNat)) := by
        by_cases h9 : lead 10 (b.drop a) = 9
        · rw [itT (by simp; omega), idx_of (show (a : Int) + ((lead 10 (b.drop a) : Nat) : Int) = ((a + lead 10 (b.drop a) : Nat) : Int) by push_cast; rfl) hlt, sb]
          congr 1
          simp only [h9, true_and, decide_eq_decide]
          omega
        · rw [itF (by simp; omega)]; simp [h9]
      rw [hg2, sb]
      by_cases h9 : lead 10 (b.drop a) = 9 ∧ 1 < (b[a + lead 10 (b.drop a)]).toNat
      · rw [if_pos h9, itT (by simpa using h9)]; rfl
      · rw [if_neg h9, itF (decide_eq_false h9)]
        have hbd : hor ((b.drop a).take (lead 10 (b.drop a) + 1)) < 18446744073709551616 := by
          have hsp : (b.drop a).take (lead 10 (b.drop a) + 1) = (b.drop a).take (lead 10 (b.drop a)) ++ [b[a + lead 10 (b.drop a)]] := by
            rw [List.take_add_one, List.getElem?_drop, List.getElem?_eq_getElem hlt]; rfl
          rw [hsp, hor_append]
          have h3 := hor_lt ((b.drop a).take (lead 10 (b.drop a)))
          have h4 : ((b.drop a).take (lead 10 (b.drop a))).length = lead 10 (b.drop a) := by simp; omega
          rw [h4] at h3 ⊢
          simp only [hor, Nat.mul_zero, Nat.add_zero]
          exact val_lt (by omega) (by omega) h9 h3
        have h2 := ref_loop2 b a (lead 10 (b.drop a) + 1) hb (by omega) hbd (lead 10 (b.drop a) + 1) (Nat.le_refl _)
        have hz : ((b.drop a).take (lead 10 (b.drop a) + 1)).drop (lead 10 (b.drop a) + 1) = [] := List.drop_eq_nil_of_le (by simp; omega)
        rw [hz] at h2
        have e3 : (((lead 10 (b.drop a) + 1 : Nat) : Int) - 1) = ((lead 10 (b.drop a) : Nat) : Int) := by push_cast; omega
        rw [e3] at h2
        have h2' : darningref02_Read_l2 a b 0 ((lead 10 (b.drop a) : Nat) : Int) = some ((hor ((b.drop a).take (lead 10 (b.drop a) + 1)) : Nat) : Int) := h2
        rw [h2', sb, wrap_i64 (by omega)]
        simp [rdR]
theorem lead_take : ∀ (k : Nat) (l : List UInt8), lead k (l.take k) = lead k l
  | 0, _ => rfl
  | _ + 1, [] => rfl
  | k + 1, c :: t => by simp only [List.take_succ_cons, lead, lead_take k t]
theorem lead_form : ∀ (k : Nat) (l : List UInt8), (∀ y ∈ l.take (lead k l), 128 ≤ y.toNat) ∧ ∀ (h : lead k l < l.length), lead k l < k → (l[lead k l]).toNat < 128
  | 0, _ => ⟨fun y hy => by simp [lead] at hy, fun _ h => by omega⟩
  | _ + 1, [] => ⟨fun y hy => by simp at hy, fun h => by simp at h⟩
  | k + 1, c :: t => by
    obtain ⟨h1, h2⟩ := lead_form k t
    by_cases hc : 128 ≤ c.toNat
    · have e : lead (k + 1) (c :: t) = lead k t + 1 := by rw [lead, if_pos hc]
      constructor
      · rw [e, List.take_succ_cons]
        intro y hy
        cases hy with
        | head => exact hc
        | tail _ hy => exact h1 y hy
      · simp only [e, List.getElem_cons_succ, List.length_cons]
        intro h hk; exact h2 (by omega) (by omega)
    · have e : lead (k + 1) (c :: t) = 0 := by rw [lead, if_neg hc]
      constructor
      · rw [e]; intro y hy; simp at hy
      · simp only [e]; intro _ _; simp; omega
theorem rd_cases (b : List UInt8) : rd b = (0, 0, 4) ∨ (rd b = (0, 0, 3) ∧ b.length ≤ 9) ∨
    ∃ x c y, b = x ++ c :: y ∧ (∀ z ∈ x, 128 ≤ z.toNat) ∧ c.toNat < 128 ∧ x.length ≤ 9 ∧ hor (x ++ [c]) < 18446744073709551616 ∧ rd b = (((hor (x ++ [c]) : Nat) : Int), ((x.length + 1 : Nat) : Int), 0) := by
  have hle := lead_le 10 b
  have hs := scan_lead (b.take 10) 0 0 (by simp; omega) (by omega)
  simp only [Nat.zero_add, Nat.sub_zero, lead_take, Nat.pow_zero, Nat.mul_one] at hs
  unfold rd
  rw [hs]
  by_cases h10 : lead 10 b = 10
  · rw [if_pos h10]; exact .inl rfl
  · rw [if_neg h10]
    by_cases hl : lead 10 b = (b.take 10).length
    · rw [if_pos hl]; refine .inr (.inl ⟨rfl, ?_⟩); rw [List.length_take] at hl; omega
    · rw [if_neg hl]
      rw [List.length_take] at hl
      have hlt : lead 10 b < b.length := by omega
      have hg : (b.take 10).getD (lead 10 b) 0 = b[lead 10 b] := by
        rw [List.getD_eq_getElem?_getD, List.getElem?_take, if_pos (by omega), List.getElem?_eq_getElem hlt]; rfl
      rw [hg, List.take_take, Nat.min_eq_left (by omega)]
      have hc := (b[lead 10 b]).toNat_lt
      by_cases h9 : lead 10 b = 9 ∧ 1 < (b[lead 10 b]).toNat
      · rw [if_pos h9]; exact .inl rfl
      · rw [if_neg h9]
        obtain ⟨hf1, hf2⟩ := lead_form 10 b
        have hsp : b.take (lead 10 b + 1) = b.take (lead 10 b) ++ [b[lead 10 b]] := by
          rw [List.take_add_one, List.getElem?_eq_getElem hlt]; rfl
        have hlen : (b.take (lead 10 b)).length = lead 10 b := by rw [List.length_take]; omega
        refine .inr (.inr ⟨b.take (lead 10 b), b[lead 10 b], b.drop (lead 10 b + 1), ?_, hf1, hf2 hlt (by omega), by omega, ?_, ?_⟩)
        · rw [← List.drop_eq_getElem_cons hlt, List.take_append_drop]
        · rw [hor_append]
          have h3 := hor_lt (b.take (lead 10 b))
          rw [hlen] at h3 ⊢
          simp only [hor, Nat.mul_zero, Nat.add_zero]
          exact val_lt (by omega) (by omega) h9 h3
        · rw [hsp, hlen]; simp [rdR]
theorem enc_lt {v : Nat} (h : v < 128) : enc v = [UInt8.ofNat v] := by rw [enc, if_pos h]
theorem enc_ge {v : Nat} (h : ¬ v < 128) : enc v = UInt8.ofNat (128 + v % 128) :: enc (v / 128) := by rw [enc, if_neg h]
theorem enc_len : ∀ (v : Nat), (enc v).length = lenN v := by
  intro v
  induction v using Nat.strongRecOn with
  | _ v ih =>
    by_cases h : v < 128
    · rw [enc_lt h, lenN_lt h]; rfl
    · rw [enc_ge h, lenN_ge h, List.length_cons, ih _ (by omega)]
theorem enc_le {v : Nat} (h : v < 18446744073709551616) : 1 ≤ (enc v).length ∧ (enc v).length ≤ 10 := by
  rw [enc_len]; exact ⟨lenN_pos v, lenN_u64 h⟩
theorem enc_form : ∀ (v : Nat), ∃ x c, enc v = x ++ [c] ∧ (∀ z ∈ x, 128 ≤ z.toNat) ∧ c.toNat < 128 := by
  intro v
  induction v using Nat.strongRecOn with
  | _ v ih =>
    by_cases h : v < 128
    · exact ⟨[], UInt8.ofNat v, enc_lt h, (fun z hz => by cases hz), by simp; omega⟩
    · obtain ⟨x, c, e, h1, h2⟩ := ih (v / 128) (by omega)
      refine ⟨UInt8.ofNat (128 + v % 128) :: x, c, by rw [enc_ge h, e]; rfl, fun z hz => ?_, h2⟩
      cases hz with
      | head => simp; omega
      | tail _ hz => exact h1 z hz
theorem enc_last : ∀ (v : Nat) (y : List UInt8), enc v = y ++ [0] → y = [] := by
  intro v
  induction v using Nat.strongRecOn with
  | _ v ih =>
    intro y he
    by_cases h : v < 128
    · rw [enc_lt h] at he
      cases y with
      | nil => rfl
      | cons d y => simp at he
    · rw [enc_ge h] at he
      cases y with
      | nil =>
        rfl
      | cons d y =>
        simp only [List.cons_append, List.cons.injEq] at he
        have hy := ih (v / 128) (by omega) y he.2
        subst hy
        have he2 := he.2
        by_cases h2 : v / 128 < 128
        · rw [enc_lt h2] at he2
          simp only [List.nil_append, List.cons.injEq, and_true] at he2
          have := congrArg UInt8.toNat he2
          simp at this
          omega
        · rw [enc_ge h2] at he2
          simp only [List.nil_append, List.cons.injEq] at he2
          obtain ⟨x, c, e, _⟩ := enc_form (v / 128 / 128)
          rw [e] at he2
          exact absurd he2.2 (by simp)
theorem byte_eta (c : UInt8) (h : 128 ≤ c.toNat) : UInt8.ofNat (128 + c.toNat % 128) = c := by
  have := c.toNat_lt
  rw [show 128 + c.toNat % 128 = c.toNat by omega, UInt8.ofNat_toNat]
theorem hor_pos (x : List UInt8) (c : UInt8) (h : c.toNat < 128) (h0 : c ≠ 0) : 0 < hor (x ++ [c]) := by
  rw [hor_append]
  have : c.toNat ≠ 0 := fun e => h0 (UInt8.toNat_inj.1 (by simpa using e))
  simp only [hor]
  have h1 : 0 < 128 ^ x.length := Nat.pow_pos (by omega)
  have h2 : 0 < c.toNat % 128 + 128 * 0 := by omega
  have := Nat.mul_pos h1 h2
  omega
theorem enc_hor (x : List UInt8) (c : UInt8) (hx : ∀ z ∈ x, 128 ≤ z.toNat) (hc : c.toNat < 128) (h0 : c ≠ 0) : enc (hor (x ++ [c])) = x ++ [c] := by
  induction x with
  | nil =>
    have : hor ([] ++ [c]) = c.toNat := by simp [hor]; omega
    rw [this, enc_lt hc, UInt8.ofNat_toNat]; rfl
  | cons d t ih =>
    have h1 := hor_pos t c hc h0
    have hd := hx d List.mem_cons_self
    rw [List.cons_append, hor, enc_ge (by omega)]
    have e1 : (d.toNat % 128 + 128 * hor (t ++ [c])) % 128 = d.toNat % 128 := by omega
    have e2 : (d.toNat % 128 + 128 * hor (t ++ [c])) / 128 = hor (t ++ [c]) := by omega
    rw [e1, e2, byte_eta d hd, ih fun z hz => hx z (List.mem_cons_of_mem _ hz)]
theorem enc_hor_iff (x : List UInt8) (c : UInt8) (hx : ∀ z ∈ x, 128 ≤ z.toNat) (hc : c.toNat < 128) : enc (hor (x ++ [c])) = x ++ [c] ↔ x = [] ∨ c ≠ 0 := by
  constructor
  · intro h
    by_cases h0 : c = 0
    · subst h0; exact .inl (enc_last _ _ h)
    · exact .inr h0
  · rintro (rfl | h0)
    · have : hor ([] ++ [c]) = c.toNat := by simp [hor]; omega
      rw [this, enc_lt hc, UInt8.ofNat_toNat]; rfl
    · exact enc_hor x c hx hc h0
theorem scan_enc : ∀ (v i acc : Nat) (more : List UInt8), v * 128 ^ i < 18446744073709551616 → scan i acc (enc v ++ more) = .inr (((acc + v * 128 ^ i : Nat) : Int), ((i + (enc v).length : Nat) : Int), 0) := by
  intro v
  induction v using Nat.strongRecOn with
  | _ v ih =>
    intro i acc more hv
    have h9 : i = 9 → v ≤ 1 := fun h => by
      subst h
      by_cases h1 : v ≤ 1
      · exact h1
      · have := Nat.mul_le_mul_right (128 ^ 9) (show 2 ≤ v by omega)
        omega
    by_cases h : v < 128
    · have e : (UInt8.ofNat v).toNat = v := by simp; omega
      rw [enc_lt h, List.singleton_append, scan, e, if_neg (by omega), if_pos h, Nat.mod_eq_of_lt h]; rfl
    · have e : (UInt8.ofNat (128 + v % 128)).toNat = 128 + v % 128 := by simp; omega
      rw [enc_ge h, List.cons_append, scan, e, if_neg (by omega), if_neg (by omega)]
      have h2 : v / 128 * 128 ^ (i + 1) ≤ v * 128 ^ i := by
        rw [Nat.pow_succ, Nat.mul_comm (128 ^ i) 128, ← Nat.mul_assoc]
        exact Nat.mul_le_mul_right _ (by omega)
      rw [ih (v / 128) (by omega) (i + 1) _ _ (by omega)]
      have e3 : acc + (128 + v % 128) % 128 * 128 ^ i + v / 128 * 128 ^ (i + 1) = acc + v * 128 ^ i := by
        have e5 : v / 128 * 128 ^ (i + 1) = v / 128 * 128 * 128 ^ i := by rw [Nat.pow_succ, Nat.mul_comm (128 ^ i) 128, ← Nat.mul_assoc]
        rw [e5, show (128 + v % 128) % 128 = v % 128 by omega, Nat.add_assoc, ← Nat.add_mul, show v % 128 + v / 128 * 128 = v by omega]
      rw [e3, List.length_cons]
      congr 3
      omega
theorem rd_enc {v : Nat} (more : List UInt8) (h : v < 18446744073709551616) : rd (enc v ++ more) = ((v : Int), (((enc v).length : Nat) : Int), 0) := by
  unfold rd
  rw [List.take_append, List.take_of_length_le (enc_le h).2, scan_enc v 0 0 _ (by simpa using h)]
  simp [rdR]
theorem refput_is : ∀ (k v : Nat), v < 128 ^ (k + 1) → v < 18446744073709551616 → darningref02_Put (k + 1) (v : Int) = some (enc v) := by
  intro k
  induction k with
  | zero =>
    intro v hv _
    rw [darningref02_Put]
    unfold darningref02_Put_f
    rw [itT (by simp; omega), wrap_u8, byteO_nat (n := v) (by omega) (by omega), sb, enc_lt (by omega)]
  | succ k ih =>
    intro v hv h64
    rw [darningref02_Put]
    unfold darningref02_Put_f
    by_cases h : v < 128
    · rw [itT (by simp; omega), wrap_u8, byteO_nat (n := v) (by omega) (by omega), sb, enc_lt h]
    · rw [itF (by simp; omega), wrap_u8, wrap_u64, wrap_u64, Int.tmod_eq_emod_of_nonneg (by omega), Int.tdiv_eq_ediv_of_nonneg (by omega)]
      rw [byteO_nat (n := 128 + v % 128) (by omega) (by omega), sb]
      have e : ((v : Int) / 128 % 18446744073709551616) = ((v / 128 : Nat) : Int) := by omega
      have h2 : v / 128 < 128 ^ (k + 1) := by rw [Nat.pow_succ] at hv; exact Nat.div_lt_of_lt_mul (by omega)
      rw [e, ih _ h2 (by omega), sb]
      have := (enc_le (v := v / 128) (by omega)).2
      rw [app_of (by simp; omega), sb, enc_ge h]; rfl
theorem refput_fu {fuel : Nat} (hf : 10 ≤ fuel) {v : Nat} (h : v < 18446744073709551616) : darningref02_Put fuel (v : Int) = some (enc v) := by
  obtain ⟨k, rfl⟩ : ∃ k, fuel = k + 1 := ⟨fuel - 1, by omega⟩
  have h1 : 128 ^ 10 ≤ 128 ^ (k + 1) := Nat.pow_le_pow_right (by omega) hf
  exact refput_is k v (by omega) h
theorem shr_7 (v : Nat) : shrI .u64 (v : Int) 7 = ((v / 128 : Nat) : Int) := shrI_nat (k := .u64) (a := v) (b := 7) (by simp [IntKind.bits])
theorem len_loop : ∀ (w n : Nat), n + w < 9223372036854775808 + w → n + lz w ≤ 1152921504606846976 → bits_Len_l1 w n = some ((n + lz w : Nat) : Int) := by
  intro w
  induction w using Nat.strongRecOn with
  | _ w ih =>
    intro n hn hl
    by_cases h : w = 0
    · subst h
      refine bits_Len_l1_inr ?_
      unfold bits_Len_b1
      rw [itF (by simp)]; rfl
    · have e := lz_pos h
      refine (bits_Len_l1_inl (wv2' := ((w / 128 : Nat) : Int)) (n' := ((n + 1 : Nat) : Int)) ?_).trans ?_
      · unfold bits_Len_b1
        rw [itT (by simp; omega), shr_7, wrap_i64 (by omega)]; rfl
      · rw [ih (w / 128) (by omega) (n + 1) (by omega) (by omega)]
        congr 2; omega
theorem len_is {v : Nat} (h : v < 18446744073709551616) : bits_Len (v : Int) = some ((lenN v : Nat) : Int) := by
  unfold bits_Len
  have h1 := lz_div v
  have h2 := lenN_u64 h
  have h3 := len_loop (v / 128) 1 (by omega) (by omega)
  have h3' : bits_Len_l1 ((v / 128 : Nat) : Int) 1 = some ((1 + lz (v / 128) : Nat) : Int) := h3
  rw [shr_7, h3', sb, h1]
theorem or_128 : ∀ n < 256, n ||| 128 = n % 128 + 128 := by decide +kernel
theorem put_loop : ∀ (v : Nat) (l : List UInt8), v < 18446744073709551616 → l.length + (enc v).length ≤ 1152921504606 → ∃ (v' : Nat) (l' : List UInt8), varint_Put_l1 (v : Int) l = some ((v' : Int), l') ∧ v' < 128 ∧ l' ++ [UInt8.ofNat v'] = l ++ enc v := by
  intro v
  induction v using Nat.strongRecOn with
  | _ v ih =>
    intro l hv hl
    by_cases h : v < 128
    · refine ⟨v, l, varint_Put_l1_inr ?_, h, by rw [enc_lt h]⟩
      unfold varint_Put_b1
      rw [itF (by simp; omega)]
    · rw [enc_ge h, List.length_cons] at hl
      obtain ⟨v', l', h1, h2, h3⟩ := ih (v / 128) (by omega) (l ++ [UInt8.ofNat (128 + v % 128)]) (by omega) (by simp; omega)
      refine ⟨v', l', ?_, h2, by rw [h3, enc_ge h]; simp⟩
      refine (varint_Put_l1_inl (wv2' := ((v / 128 : Nat) : Int)) (l' := l ++ [UInt8.ofNat (128 + v % 128)]) ?_).trans h1
      unfold varint_Put_b1
      have e1 : (v : Int) % 256 = ((v % 256 : Nat) : Int) := by omega
      have e2 : orI .u8 ((v % 256 : Nat) : Int) 128 = ((v % 128 + 128 : Nat) : Int) := by
        have := orI_nat (k := .u8) rfl (a := v % 256) (b := 128) (by simp [IntKind.bits]; omega) (by simp [IntKind.bits])
        rw [or_128 _ (by omega)] at this
        have e3 : ((128 : Nat) : Int) = 128 := rfl
        rw [e3] at this
        rw [this]; congr 1; omega
      rw [itT (by simp; omega), wrap_u8, e1, e2, byteO_nat (n := 128 + v % 128) (by omega) (by omega), sb, app_of (by simp; omega), sb, shr_7]
theorem put_is {v : Nat} (b : List UInt8) (h : v < 18446744073709551616) (hb : b.length ≤ 1099511627776) : varint_Put b (v : Int) = some (b ++ enc v) := by
  unfold varint_Put
  have h1 := lenN_u64 h
  have h2 := (enc_le h).2
  rw [len_is h, sb, wrap_i64 (by omega), mkO_nil (by omega) (by omega), sb, app_of (by simp; omega), sb]
  obtain ⟨v', l', h3, h4, h5⟩ := put_loop v b h (by omega)
  have hlen : l'.length + 1 = b.length + (enc v).length := by have := congrArg List.length h5; simpa using this
  simp only [List.nil_append]
  rw [h3, sb, wrap_u8]
  simp only
  rw [byteO_nat (n := v') (by omega) (by omega), sb, app_of (by simp; omega), sb, h5]
theorem same_bytes (a b : List UInt8) : darningref01_Same a b = some (a == b) := rfl
theorem same_loop (a b : List Int) (hl : a.length = b.length) (hb : a.length ≤ 1152921504606846976) : ∀ (k i : Nat), i + k = a.length →
    (a.drop i = b.drop i ∧ darningref02_Same_l1 a b i = some (.inl ())) ∨ (a.drop i ≠ b.drop i ∧ darningref02_Same_l1 a b i = some (.inr ())) := by
  intro k
  induction k with
  | zero =>
    intro i hi
    refine .inl ⟨?_, darningref02_Same_l1_inr ?_⟩
    · rw [List.drop_eq_nil_of_le (by omega), List.drop_eq_nil_of_le (by omega)]
    · unfold darningref02_Same_b1
      rw [itF (by simp; omega)]
  | succ k ih =>
    intro i hi
    have ha : a.drop i = a[i]'(by omega) :: a.drop (i + 1) := List.drop_eq_getElem_cons (by omega)
    have hb' : b.drop i = b[i]'(by omega) :: b.drop (i + 1) := List.drop_eq_getElem_cons (by omega)
    have hbody : darningref02_Same_b1 a b i = if a[i]'(by omega) = b[i]'(by omega) then some (.inl ((i + 1 : Nat) : Int)) else some (.inr (.inr ())) := by
      unfold darningref02_Same_b1
      rw [itT (by simp; omega), idx_of rfl (show i < a.length by omega), sb, idx_of rfl (show i < b.length by omega), sb, wrap_i64 (by omega)]
      by_cases h : a[i]'(by omega) = b[i]'(by omega)
      · rw [if_pos h, itF (by simpa using h)]; rfl
      · rw [if_neg h, itT (by simpa using h)]
    rw [ha, hb']
    by_cases h : a[i]'(by omega) = b[i]'(by omega)
    · rw [if_pos h] at hbody
      rw [darningref02_Same_l1_inl hbody]
      rcases ih (i + 1) (by omega) with ⟨h1, h2⟩ | ⟨h1, h2⟩
      · exact .inl ⟨by rw [h, h1], h2⟩
      · exact .inr ⟨fun e => h1 (List.cons.inj e).2, h2⟩
    · rw [if_neg h] at hbody
      exact .inr ⟨fun e => h (List.cons.inj e).1, darningref02_Same_l1_inr hbody⟩
theorem same_is (a b : List Int) (hb : a.length ≤ 1152921504606846976) : darningref02_Same a b = some (decide (a = b)) := by
  unfold darningref02_Same
  by_cases hl : a.length = b.length
  · rw [itF (by simp; omega)]
    rcases same_loop a b hl hb a.length 0 (by omega) with ⟨h1, h2⟩ | ⟨h1, h2⟩
    · have h2' : darningref02_Same_l1 a b 0 = some (.inl ()) := h2
      rw [h2', sb]
      simp only [List.drop_zero] at h1
      simp [h1]
    · have h2' : darningref02_Same_l1 a b 0 = some (.inr ()) := h2
      rw [h2', sb]
      simp only [List.drop_zero] at h1
      simp [h1]
  · rw [itT (by simp; omega)]
    have : a ≠ b := fun e => hl (by rw [e])
    simp [this]
end Go.Proofs.Ythkdneddbbocmaa
namespace Go.Proofs.Ythkdneddbbocmaa
open Go
theorem rd_bounds (l : List UInt8) : 0 ≤ (rd l).1 ∧ (rd l).1 < 18446744073709551616 ∧ 0 ≤ (rd l).2.1 ∧ (rd l).2.1 ≤ 10 ∧ (rd l).2.1 ≤ l.length ∧ ((rd l).2.2 = 0 ∨ (rd l).2.2 = 3 ∨ (rd l).2.2 = 4) ∧ ((rd l).2.2 = 0 → 1 ≤ (rd l).2.1) := by
  rcases rd_cases l with h | ⟨h, _⟩ | ⟨x, c, y, e, _, _, hl, hv, h⟩
  · rw [h]; simp
  · rw [h]; simp
  · have : l.length = x.length + 1 + y.length := by rw [e]; simp; omega
    rw [h]
    refine ⟨?_, ?_, ?_, ?_, ?_, .inl rfl, fun _ => ?_⟩ <;> simp only <;> omega
theorem rd_of (x : List UInt8) (c : UInt8) (y : List UInt8) (hx : ∀ z ∈ x, 128 ≤ z.toNat) (hc : c.toNat < 128) (hl : x.length ≤ 9) (hv : hor (x ++ [c]) < 18446744073709551616) :
    rd (x ++ c :: y) = (((hor (x ++ [c]) : Nat) : Int), ((x.length + 1 : Nat) : Int), 0) := by
  have key : ∀ (x : List UInt8) (z : List UInt8) (i acc : Nat), (∀ z ∈ x, 128 ≤ z.toNat) → i + x.length ≤ 9 → acc + hor (x ++ [c]) * 128 ^ i < 18446744073709551616 → scan i acc (x ++ c :: z) = .inr (((acc + hor (x ++ [c]) * 128 ^ i : Nat) : Int), ((i + x.length + 1 : Nat) : Int), 0) := by
    intro x
    induction x with
    | nil =>
      intro z i acc _ hi hv
      have e1 : hor ([] ++ [c]) = c.toNat := by simp [hor]; omega
      rw [e1] at hv ⊢
      rw [List.nil_append, scan, if_neg, if_pos hc, Nat.mod_eq_of_lt hc]
      · rfl
      · rintro ⟨rfl, h2⟩
        have := Nat.mul_le_mul_right (128 ^ 9) (show 2 ≤ c.toNat by omega)
        omega
    | cons d x ih =>
      intro z i acc hx hi hv
      simp only [List.length_cons] at hi
      have hd := hx d List.mem_cons_self
      have e5 : acc + hor ((d :: x) ++ [c]) * 128 ^ i = acc + d.toNat % 128 * 128 ^ i + hor (x ++ [c]) * 128 ^ (i + 1) := by
        rw [List.cons_append, hor, Nat.pow_succ, Nat.add_mul, Nat.mul_comm (128 ^ i) 128, ← Nat.mul_assoc, Nat.mul_comm (hor (x ++ [c])) 128]; omega
      rw [e5] at hv ⊢
      rw [List.cons_append, scan, if_neg (by omega), if_neg (by omega), ih z (i + 1) _ (fun z hz => hx z (List.mem_cons_of_mem _ hz)) (by omega) hv, List.length_cons]
      congr 3
      omega
  unfold rd
  have e2 : (x ++ c :: y).take 10 = x ++ c :: y.take (9 - x.length) := by
    rw [List.take_append, List.take_of_length_le (by omega), show 10 - x.length = (9 - x.length) + 1 by omega, List.take_succ_cons]
  rw [e2, key x _ 0 0 hx (by omega) (by simpa using hv)]
  simp [rdR]
theorem rd_append (l m : List UInt8) (h : (rd l).2.2 = 0) : rd (l ++ m) = rd l := by
  rcases rd_cases l with h' | ⟨h', _⟩ | ⟨x, c, y, e, hx, hc, hl, hv, h'⟩
  · rw [h'] at h; cases h
  · rw [h'] at h; cases h
  · rw [h', e, List.append_assoc, List.cons_append, rd_of x c _ hx hc hl hv]
end Go.Proofs.Ythkdneddbbocmaa
namespace Go.Proofs.Ythkdneddbbocmaa
open Go
set_option linter.unusedVariables false
def fits5 (w : Int) (v : List UInt8) : Bool :=
  if w = 0 then decide ((rd v).2.2 = 0 ∧ (rd v).2.1 = v.length) else decide (w = 2 ∨ w = 1 ∧ v.length = 8 ∨ w = 5 ∧ v.length = 4)
theorem refFits_is (w : Int) {v : List UInt8} (hv : v.length ≤ 1048576) : darningref05_Fits w v = some (fits5 w v) := by
  unfold darningref05_Fits fits5
  by_cases h : w = 0
  · have := ref_is v 0 (by omega) (Nat.zero_le _)
    rw [List.drop_zero] at this
    have h' : darningref02_Read v 0 = some (rd v) := this
    rw [itT (by simpa using h), if_pos h, h', sb]
    simp [Bool.decide_and, Bool.beq_eq_decide_eq]
  · rw [itF (by simpa using h), if_neg h]
    congr 1
    have e8 : ((v.length : Int) == 8) = decide (v.length = 8) := beq_nat _ 8
    have e4 : ((v.length : Int) == 4) = decide (v.length = 4) := beq_nat _ 4
    rw [e8, e4]
    by_cases h1 : w = 1
    · subst h1; simp
    · by_cases h2 : w = 2
      · subst h2; simp
      · by_cases h5 : w = 5
        · subst h5; simp
        · simp [h1, h2, h5]
end Go.Proofs.Ythkdneddbbocmaa
namespace Go.Proofs.Ythkdneddbbocmaa
open Go
set_option linter.unusedVariables false
theorem orI_bits (k : IntKind) (a b : Int) : orI k a b = bits .or k a b := rfl
theorem low32_is (w : Int) : bits_Low32 w = some (w % 4294967296) := by unfold bits_Low32; rw [wrap_u32]
theorem sign32_is (w : Int) : bits_Sign32 w = some (sgnS w) := by
  unfold bits_Sign32
  rw [low32_is, sb, wrap_i32']
  unfold sgnS
  congr 1
  split <;> split <;> omega
theorem wide32_is {n : Int} (h : -2147483648 ≤ n ∧ n ≤ 2147483647) : bits_Wide32 n = some (wideS n) := by
  unfold bits_Wide32
  rw [wrap_i64 (by omega), wrap_u64]
  unfold wideS
  congr 1
  split <;> omega
theorem rsign32_is {w : Int} (h : 0 ≤ w ∧ w ≤ 18446744073709551615) : darningref01_Sign32 w = some (sgnS w) := by
  unfold darningref01_Sign32
  rw [Int.tmod_eq_emod_of_nonneg h.1, wrap_i64 (x := w % 4294967296) (by omega)]
  unfold sgnS
  by_cases h2 : w % 4294967296 < 2147483648
  · rw [itF (by simp; omega), if_pos h2]
  · rw [itT (by simp; omega), if_neg h2, wrap_i64 (by omega)]
theorem rwide_is {n : Int} (h : -9223372036854775808 ≤ n ∧ n ≤ 9223372036854775807) : darningref01_Wide n = some (wideS n) := by
  unfold darningref01_Wide wideS
  by_cases h0 : 0 ≤ n
  · rw [itT (by simp; omega), if_pos h0, wrap_u64, Int.emod_eq_of_lt (by omega) (by omega)]
  · rw [itF (by simp; omega), if_neg h0]
    simp (disch := omega) only [wrap_i64, wrap_u64]
    congr 1
    omega
theorem little_step {v : List UInt8} {m k j : Nat} (hk : k ≤ 8) (hv : v.length = k) (hj : j < k) : bits_Little_b1 v (m : Int) (littleZ k m j) (j : Int) = some (.inl (littleZ k m (j + 1), ((j + 1 : Nat) : Int))) := by
  have hlen := littleZ_length (n := k) (m := m) (j := j) (by omega)
  unfold bits_Little_b1
  have e1 : IntKind.i64.wrap (8 * (j : Int)) = ((8 * j : Nat) : Int) := by rw [wrap_i64 (by omega)]; push_cast; rfl
  rw [itT (by simp; omega), e1, shrO_nat, sb, idx_of rfl (show j < (littleZ k m j).length by omega), sb, shrI_nat (by simp [IntKind.bits]; omega), pow_256, wrap_u8, little_val', byteO_of rfl, sb, Int.toNat_natCast, littleZ_set hj, wrap_i64 (by omega)]
  rfl
theorem little_loop {v : List UInt8} {m k : Nat} (hk : k ≤ 8) (hv : v.length = k) : ∀ (d j : Nat), j + d = k → bits_Little_l1 v (m : Int) (littleZ k m j) (j : Int) = some (little k m) := by
  intro d
  induction d with
  | zero =>
    intro j hj
    refine bits_Little_l1_inr ?_
    unfold bits_Little_b1
    have : j = k := by omega
    subst this
    rw [itF (by simp; omega), littleZ_all]
  | succ d ih =>
    intro j hj
    rw [bits_Little_l1_inl (little_step hk hv (by omega))]
    exact ih (j + 1) (by omega)
theorem little_is {m : Nat} (n : Int) : bits_Little (m : Int) n = some (little (min n.toNat 8) m) := by
  unfold bits_Little
  have e : (if (8 : Int) < (if n < 0 then 0 else n) then (8 : Int) else (if n < 0 then 0 else n)) = ((min n.toNat 8 : Nat) : Int) := by split <;> split <;> omega
  rw [e, mkO_of rfl (Int.le_refl _) (by omega), sb]
  have h := little_loop (v := List.replicate (min n.toNat 8) (0 : UInt8)) (m := m) (k := min n.toNat 8) (by omega) (by simp) (min n.toNat 8) 0 (by omega)
  rw [littleZ_zero] at h
  have h' : bits_Little_l1 (List.replicate (min n.toNat 8) (0 : UInt8)) (m : Int) (List.replicate (min n.toNat 8) (0 : UInt8)) 0 = some (little (min n.toNat 8) m) := h
  rw [h', sb]
theorem rlittle_loop {m k : Nat} {n : Int} (hm : m < 18446744073709551616) (hk : k = min n.toNat 8) : ∀ (d j : Nat), j + d = k → darningref01_Little_l1 n ((m / 256 ^ j : Nat) : Int) (little j m) (j : Int) = some (little k m) := by
  intro d
  induction d with
  | zero =>
    intro j hj
    refine darningref01_Little_l1_inr ?_
    unfold darningref01_Little_b1
    have : j = k := by omega
    subst this
    rw [itF (by simp; omega)]
  | succ d ih =>
    intro j hj
    have hlen := little_length j m
    refine (darningref01_Little_l1_inl (wv2' := ((m / 256 ^ (j + 1) : Nat) : Int)) (out' := little (j + 1) m) (i' := ((j + 1 : Nat) : Int)) ?_).trans (ih (j + 1) (by omega))
    unfold darningref01_Little_b1
    have h1 : (0 : Int) ≤ ((m / 256 ^ j : Nat) : Int) := Int.natCast_nonneg _
    rw [itT (by simp; omega), Int.tmod_eq_emod_of_nonneg h1, wrap_u8, Int.emod_emod_of_dvd _ (Int.dvd_refl _), little_val', byteO_of rfl, sb, app_of (by simp; omega), sb, ← little_succ, Int.tdiv_eq_ediv_of_nonneg h1, wrap_i64 (by omega)]
    have e : IntKind.u64.wrap (((m / 256 ^ j : Nat) : Int) / 256) = ((m / 256 ^ (j + 1) : Nat) : Int) := by
      have hq : m / 256 ^ j ≤ m := Nat.div_le_self _ _
      rw [Nat.pow_succ, ← Nat.div_div_eq_div_mul]
      generalize m / 256 ^ j = q at hq
      rw [wrap_u64, Int.emod_eq_of_lt (by omega) (by omega)]
      omega
    rw [e]; rfl
theorem rlittle_is {m : Nat} (hm : m < 18446744073709551616) (n : Int) : darningref01_Little (m : Int) n = some (little (min n.toNat 8) m) := by
  unfold darningref01_Little
  have h := rlittle_loop (n := n) hm rfl (min n.toNat 8) 0 (by omega)
  rw [Nat.pow_zero, Nat.div_one] at h
  have h' : darningref01_Little_l1 n (m : Int) [] 0 = some (little (min n.toNat 8) m) := h
  rw [h', sb]
theorem take_snoc {l : List UInt8} {j : Nat} (h : j < l.length) : l.take (j + 1) = l.take j ++ [l[j]] := by rw [List.take_add_one, List.getElem?_eq_getElem h]; rfl
theorem word_loop {v : List UInt8} (hv : v.length ≤ 8) : ∀ (d j : Nat), j + d = v.length → bits_Word_l1 v ((word (v.take j) : Nat) : Int) (j : Int) = some ((word v : Nat) : Int) := by
  intro d
  induction d with
  | zero =>
    intro j hj
    refine bits_Word_l1_inr ?_
    unfold bits_Word_b1
    rw [itF (by simp; omega), List.take_of_length_le (by omega)]
  | succ d ih =>
    intro j hj
    have hl : (v.take j).length = j := by simp; omega
    have hw := word_lt (v.take j)
    rw [hl] at hw
    refine (bits_Word_l1_inl (wv' := ((word (v.take (j + 1)) : Nat) : Int)) (v2' := ((j + 1 : Nat) : Int)) ?_).trans (ih (j + 1) (by omega))
    unfold bits_Word_b1
    have hc := (v[j]'(by omega)).toNat_lt
    have e1 : IntKind.i64.wrap (8 * (j : Int)) = ((8 * j : Nat) : Int) := by rw [wrap_i64 (by omega)]; push_cast; rfl
    have e2 : shlI .u64 (IntKind.u64.wrap ((v[j]'(by omega)).toNat : Int)) ((8 * j : Nat) : Int) = IntKind.u64.wrap (((v[j]'(by omega)).toNat : Int) * 2 ^ (8 * j)) := by
      unfold shlI
      rw [Int.toNat_natCast, Nat.min_eq_left (by simp [IntKind.bits]; omega), wrap_u64 ((v[j]'(by omega)).toNat : Int), Int.emod_eq_of_lt (by omega) (by omega)]
    rw [itT (by simp; omega), idx_of rfl (show j < v.length by omega), sb, e1, shlO_nat, sb, e2, orI_bits, word_or _ _ _ (by omega) (by omega) hw, take_snoc (show j < v.length by omega), word_snoc, hl, wrap_i64 (by omega)]
    rfl
theorem word_is (b : List UInt8) : bits_Word b = some ((word (b.take 8) : Nat) : Int) := by
  unfold bits_Word
  have e : (if (8 : Int) < (b.length : Int) then (8 : Int) else (b.length : Int)) = ((min 8 b.length : Nat) : Int) := by split <;> omega
  have e2 : b.take (min 8 b.length) = b.take 8 := by rw [List.take_eq_take_iff]; omega
  rw [e, cut_take rfl (by omega), sb, e2]
  have h := word_loop (v := b.take 8) (by simp; omega) (b.take 8).length 0 (by omega)
  have h' : bits_Word_l1 (b.take 8) 0 0 = some ((word (b.take 8) : Nat) : Int) := h
  rw [h', sb]
theorem rword_loop {b : List UInt8} (hb : b.length ≤ 1152921504606846976) : ∀ (d j : Nat), j + d = min 8 b.length → darningref01_Word_l1 b ((word (b.take j) : Nat) : Int) ((256 ^ j % 18446744073709551616 : Nat) : Int) (j : Int) = some ((word (b.take 8) : Nat) : Int) := by
  intro d
  induction d with
  | zero =>
    intro j hj
    refine darningref01_Word_l1_inr ?_
    unfold darningref01_Word_b1
    have e : b.take j = b.take 8 := by rw [List.take_eq_take_iff]; omega
    rw [itF (by simp; omega), e]
  | succ d ih =>
    intro j hj
    have hl : (b.take j).length = j := by simp; omega
    have hw := word_lt (b.take j)
    rw [hl] at hw
    refine (darningref01_Word_l1_inl (wv' := ((word (b.take (j + 1)) : Nat) : Int)) (place' := ((256 ^ (j + 1) % 18446744073709551616 : Nat) : Int)) (i' := ((j + 1 : Nat) : Int)) ?_).trans (ih (j + 1) (by omega))
    unfold darningref01_Word_b1
    have hc := (b[j]'(by omega)).toNat_lt
    rw [itT (by simp; omega), idx_of rfl (show j < b.length by omega), sb, wrap_u64 ((b[j]'(by omega)).toNat : Int), Int.emod_eq_of_lt (by omega) (by omega), word_add _ _ _ (by omega) (by omega) hw, take_snoc (show j < b.length by omega), word_snoc, hl, wrap_i64 (by omega), ← place_step]
    rfl
theorem rword_is {b : List UInt8} (hb : b.length ≤ 1152921504606846976) : darningref01_Word b = some ((word (b.take 8) : Nat) : Int) := by
  unfold darningref01_Word
  have h := rword_loop hb (min 8 b.length) 0 (by omega)
  have h' : darningref01_Word_l1 b 0 1 0 = some ((word (b.take 8) : Nat) : Int) := h
  rw [h', sb]
end Go.Proofs.Ythkdneddbbocmaa
namespace Go.Proofs.Ythkdneddbbocmaa
open Go
set_option linter.unusedVariables false
def kNum (k : Int) : Bool := decide (1 ≤ k ∧ k ≤ 14)
def kWire (k : Int) : Int := if 15 ≤ k then 2 else if 12 ≤ k then 1 else if 9 ≤ k then 5 else 0
def canonS (k w : Int) : Int :=
  if k = 1 ∨ k = 8 then wideS (sgnS w) else if k = 3 ∨ k = 5 ∨ k = 9 ∨ k = 10 ∨ k = 11 then w % 4294967296 else if k = 7 then (if 0 < w then 1 else 0) else w
theorem refKNum_is (k : Int) : darningref06_Number k = some (kNum k) := by unfold darningref06_Number kNum; simp [Bool.decide_and]
theorem refKWire_is (k : Int) : darningref06_Wire k = some (kWire k) := by
  unfold darningref06_Wire kWire
  by_cases h1 : 15 ≤ k
  · rw [itT (by simpa using h1), if_pos h1]
  · rw [itF (by simpa using h1), if_neg h1]
    by_cases h2 : 12 ≤ k
    · rw [itT (by simpa using h2), if_pos h2]
    · rw [itF (by simpa using h2), if_neg h2]
      by_cases h3 : 9 ≤ k
      · rw [itT (by simpa using h3), if_pos h3]
      · rw [itF (by simpa using h3), if_neg h3]
theorem refCanon_is (k : Int) {w : Int} (h : 0 ≤ w ∧ w ≤ 18446744073709551615) : darningref06_Canon k w = some (canonS k w) := by
  have hs := sgn_bd w
  unfold darningref06_Canon canonS
  by_cases h1 : k = 1 ∨ k = 8
  · rw [if_pos h1]
    have e : (if (k == 1) = true then some (k == 1) else some (k == 8)) = some true := by rcases h1 with rfl | rfl <;> rfl
    rw [e, sb, itT rfl, rsign32_is h, sb, rwide_is (by omega), sb]
  · rw [if_neg h1]
    have e : (if (k == 1) = true then some (k == 1) else some (k == 8)) = some false := by rw [itF (by simp; omega)]; simp; omega
    rw [e, sb, itF rfl]
    by_cases h2 : k = 3 ∨ k = 5 ∨ k = 9 ∨ k = 10 ∨ k = 11
    · rw [if_pos h2]
      have e2 : (if (k == 3) = true then some (k == 3) else if (k == 5) = true then some (k == 5) else if (k == 9) = true then some (k == 9) else if (k == 10) = true then some (k == 10) else some (k == 11)) = some true := by
        rcases h2 with rfl | rfl | rfl | rfl | rfl <;> rfl
      rw [e2, sb, itT rfl, Int.tmod_eq_emod_of_nonneg h.1]
    · rw [if_neg h2]
      have e2 : (if (k == 3) = true then some (k == 3) else if (k == 5) = true then some (k == 5) else if (k == 9) = true then some (k == 9) else if (k == 10) = true then some (k == 10) else some (k == 11)) = some false := by
        rw [itF (by simp; omega), itF (by simp; omega), itF (by simp; omega), itF (by simp; omega)]; simp; omega
      rw [e2, sb, itF rfl]
      by_cases h7 : k = 7
      · rw [itT (by simpa using h7), if_pos h7]
        by_cases h0 : 0 < w
        · rw [itT (by simpa using h0), if_pos h0]
        · rw [itF (by simpa using h0), if_neg h0]
      · rw [itF (by simpa using h7), if_neg h7]
theorem canon_bd (k : Int) {w : Int} (h : 0 ≤ w ∧ w ≤ 18446744073709551615) : 0 ≤ canonS k w ∧ canonS k w ≤ 18446744073709551615 := by
  have hs := sgn_bd w
  unfold canonS
  split
  · exact wide_bd (by omega)
  · split
    · omega
    · split
      · split <;> omega
      · exact h
theorem canon_32 {k : Int} {w : Int} (h9 : 9 ≤ k) (h12 : k < 12) : canonS k w < 4294967296 := by
  unfold canonS
  rw [if_neg (by omega), if_pos (by omega)]
  omega
theorem canon_canon (k : Int) {w : Int} (h : 0 ≤ w ∧ w ≤ 18446744073709551615) : canonS k (canonS k w) = canonS k w := by
  have hs := sgn_bd w
  unfold canonS
  by_cases h1 : k = 1 ∨ k = 8
  · simp only [if_pos h1]; rw [sgn_wide hs]
  · simp only [if_neg h1]
    by_cases h2 : k = 3 ∨ k = 5 ∨ k = 9 ∨ k = 10 ∨ k = 11
    · simp only [if_pos h2]; omega
    · simp only [if_neg h2]
      by_cases h7 : k = 7
      · simp only [if_pos h7]; split <;> simp
      · simp only [if_neg h7]
end Go.Proofs.Ythkdneddbbocmaa
namespace Go.Proofs.Ythkdneddbbocmaa
open Go
set_option linter.unusedVariables false
def rawW (k : Int) (b : List UInt8) : Int := if kWire k = 0 then (rd b).1 else (word (b.take 8) : Nat)
def sRead (k : Int) (b : List UInt8) : Int × Int := if kNum k = false then (0, 2) else if fits5 (kWire k) b = false then (0, 12) else (canonS k (rawW k b), 0)
def sBytes (k : Int) (c : Nat) : List UInt8 := if 12 ≤ k then little 8 c else if 9 ≤ k then little 4 c else enc c
def sPut (k w : Int) : List UInt8 := sBytes k (canonS k w).toNat
theorem rawW_bd (k : Int) {b : List UInt8} : 0 ≤ rawW k b ∧ rawW k b ≤ 18446744073709551615 := by
  unfold rawW
  split
  · have := rd_bounds b; omega
  · have h := word_lt (b.take 8)
    have h2 : (256 : Nat) ^ (b.take 8).length ≤ 256 ^ 8 := Nat.pow_le_pow_right (by omega) (by simp; omega)
    omega
theorem refSRead_is (k : Int) {b : List UInt8} (hb : b.length ≤ 1048576) : darningref08_Read k b = some (sRead k b) := by
  unfold darningref08_Read sRead
  rw [refKNum_is, sb]
  cases hn : kNum k
  · rw [itT (by rfl), if_pos rfl]
  · rw [itF (by rfl), if_neg (by simp), refKWire_is, sb, refFits_is _ hb, sb]
    cases hf : fits5 (kWire k) b
    · rw [itT (by rfl), if_pos rfl]
    · rw [itF (by rfl), if_neg (by simp), rword_is (by omega), sb, sb]
      have hbd := rawW_bd k (b := b)
      have e0 : darningref02_Read b 0 = some (rd b) := by
        have := ref_is b 0 (by omega) (Nat.zero_le _)
        rw [List.drop_zero] at this
        exact this
      by_cases h0 : kWire k = 0
      · have e : rawW k b = (rd b).1 := by unfold rawW; rw [if_pos h0]
        rw [itT (by simpa using h0), e0, sb, ← e, refCanon_is k hbd, sb]
      · have e : rawW k b = ((word (b.take 8) : Nat) : Int) := by unfold rawW; rw [if_neg h0]
        rw [itF (by simpa using h0), ← e, refCanon_is k hbd, sb]
theorem refSPut_fu {fuel : Nat} (hf : 10 ≤ fuel) {k w : Int} (h : 0 ≤ w ∧ w ≤ 18446744073709551615) : darningref08_Put fuel k w = some (sPut k w) := by
  have hc := canon_bd k h
  obtain ⟨c, hcc⟩ : ∃ c : Nat, canonS k w = c := ⟨(canonS k w).toNat, by omega⟩
  unfold darningref08_Put sPut sBytes
  rw [refCanon_is k h, sb, hcc, Int.toNat_natCast]
  by_cases h1 : 12 ≤ k
  · rw [itT (by simpa using h1), if_pos h1, rlittle_is (by omega), sb]; rfl
  · rw [itF (by simpa using h1), if_neg h1]
    by_cases h2 : 9 ≤ k
    · rw [itT (by simpa using h2), if_pos h2, rlittle_is (by omega), sb]; rfl
    · rw [itF (by simpa using h2), if_neg h2, refput_fu hf (by omega), sb]
theorem kNum_iff {k : Int} : kNum k = true ↔ 1 ≤ k ∧ k ≤ 14 := by simp [kNum]
theorem sBytes_fits {k : Int} (hk : kNum k = true) {c : Nat} (hc : c < 18446744073709551616) : fits5 (kWire k) (sBytes k c) = true := by
  have := kNum_iff.1 hk
  unfold sBytes
  by_cases h1 : 12 ≤ k
  · have e : kWire k = 1 := by unfold kWire; rw [if_neg (by omega), if_pos h1]
    rw [if_pos h1, e]
    simp [fits5, little_length]
  · rw [if_neg h1]
    by_cases h2 : 9 ≤ k
    · have e : kWire k = 5 := by unfold kWire; rw [if_neg (by omega), if_neg h1, if_pos h2]
      rw [if_pos h2, e]
      simp [fits5, little_length]
    · have e : kWire k = 0 := by unfold kWire; rw [if_neg (by omega), if_neg h1, if_neg h2]
      have hr := rd_enc [] hc
      rw [List.append_nil] at hr
      rw [if_neg h2, e]
      unfold fits5
      rw [if_pos rfl, hr]
      simp
theorem raw_sBytes {k : Int} (hk : kNum k = true) {c : Nat} (hc : c < 18446744073709551616) (h32 : 9 ≤ k → k < 12 → c < 4294967296) : rawW k (sBytes k c) = (c : Int) := by
  have := kNum_iff.1 hk
  unfold sBytes rawW
  by_cases h1 : 12 ≤ k
  · have e : kWire k = 1 := by unfold kWire; rw [if_neg (by omega), if_pos h1]
    rw [if_pos h1, e, if_neg (by omega), List.take_of_length_le (by rw [little_length]; omega), word_little, Nat.mod_eq_of_lt (by omega)]
  · rw [if_neg h1]
    by_cases h2 : 9 ≤ k
    · have e : kWire k = 5 := by unfold kWire; rw [if_neg (by omega), if_neg h1, if_pos h2]
      have := h32 h2 (by omega)
      rw [if_pos h2, e, if_neg (by omega), List.take_of_length_le (by rw [little_length]; omega), word_little, Nat.mod_eq_of_lt (by omega)]
    · have e : kWire k = 0 := by unfold kWire; rw [if_neg (by omega), if_neg h1, if_neg h2]
      have hr := rd_enc [] hc
      rw [List.append_nil] at hr
      rw [if_neg h2, e, if_pos rfl, hr]
theorem sRead_sPut {k w : Int} (hk : kNum k = true) (h : 0 ≤ w ∧ w ≤ 18446744073709551615) : sRead k (sPut k w) = (canonS k w, 0) := by
  have hc := canon_bd k h
  obtain ⟨c, hcc⟩ : ∃ c : Nat, canonS k w = c := ⟨(canonS k w).toNat, by omega⟩
  unfold sRead sPut
  rw [hcc, Int.toNat_natCast, hk, if_neg (by simp), sBytes_fits hk (by omega), if_neg (by simp), raw_sBytes hk (by omega) (fun h9 h12 => by have := canon_32 (w := w) h9 h12; omega), ← hcc, canon_canon k h]
theorem sPut_canon {k w : Int} (h : 0 ≤ w ∧ w ≤ 18446744073709551615) : sPut k (canonS k w) = sPut k w := by unfold sPut; rw [canon_canon k h]
theorem sPut_len {k w : Int} (h : 0 ≤ w ∧ w ≤ 18446744073709551615) : 1 ≤ (sPut k w).length ∧ (sPut k w).length ≤ 10 := by
  have hc := canon_bd k h
  unfold sPut sBytes
  split
  · rw [little_length]; omega
  · split
    · rw [little_length]; omega
    · exact enc_le (by omega)
end Go.Proofs.Ythkdneddbbocmaa
namespace Go.Proofs.Ythkdneddbbocmaa
open Go
set_option linter.unusedVariables false
def unit9 (k : Int) (l : List UInt8) : Int ⊕ Nat :=
  if k < 9 then (if (rd l).2.2 ≠ 0 then .inl (rd l).2.2 else .inr (rd l).2.1.toNat) else if l.length < (if k < 12 then 4 else 8) then .inl 3 else .inr (if k < 12 then 4 else 8)
theorem unit9_cases (k : Int) (l : List UInt8) : (∃ c, unit9 k l = .inl c ∧ (c = 3 ∨ c = 4)) ∨ ∃ n, unit9 k l = .inr n ∧ 1 ≤ n ∧ n ≤ l.length ∧ n ≤ 10 ∧ (k < 9 ∧ (rd l).2.2 = 0 ∧ (rd l).2.1 = (n : Int) ∨ ¬ k < 9 ∧ n = (if k < 12 then 4 else 8)) := by
  obtain ⟨h1, h2, h3, h4, h5, h6, h7⟩ := rd_bounds l
  unfold unit9
  by_cases h : k < 9
  · rw [if_pos h]
    by_cases h0 : (rd l).2.2 = 0
    · have := h7 h0
      rw [if_neg (by simpa using h0)]
      exact .inr ⟨_, rfl, by omega, by omega, by omega, .inl ⟨h, h0, by omega⟩⟩
    · rw [if_pos h0]; exact .inl ⟨_, rfl, by omega⟩
  · rw [if_neg h]
    by_cases h8 : l.length < (if k < 12 then 4 else 8)
    · rw [if_pos h8]; exact .inl ⟨_, rfl, by omega⟩
    · rw [if_neg h8]
      exact .inr ⟨_, rfl, by split <;> omega, by omega, by split <;> omega, .inr ⟨h, rfl⟩⟩
theorem unit9_append (k : Int) (l m : List UInt8) {n : Nat} (h : unit9 k l = .inr n) : unit9 k (l ++ m) = .inr n := by
  unfold unit9 at h ⊢
  by_cases h9 : k < 9
  · rw [if_pos h9] at h ⊢
    by_cases h0 : (rd l).2.2 = 0
    · rw [rd_append l m h0]; exact h
    · rw [if_pos h0] at h; cases h
  · rw [if_neg h9] at h ⊢
    by_cases h8 : l.length < (if k < 12 then 4 else 8)
    · rw [if_pos h8] at h; cases h
    · rw [if_neg h8] at h
      rw [if_neg (by simp only [List.length_append]; omega)]; exact h
def pcs (k : Int) (l : List UInt8) : List (List UInt8) × Int :=
  if hl : l = [] then ([], 0) else match h : unit9 k l with
    | .inl c => ([], c)
    | .inr n => (l.take n :: (pcs k (l.drop n)).1, (pcs k (l.drop n)).2)
termination_by l.length
decreasing_by
  all_goals
    rcases unit9_cases k l with ⟨c', h', _⟩ | ⟨n', h', g1, g2, _⟩
    · rw [h'] at h; cases h
    · rw [h'] at h; cases h; simp only [List.length_drop]; omega
theorem pcs_nil (k : Int) : pcs k [] = ([], 0) := by rw [pcs, dif_pos rfl]
theorem pcs_err {k : Int} {l : List UInt8} {c : Int} (hl : l ≠ []) (h : unit9 k l = .inl c) : pcs k l = ([], c) := by
  rw [pcs, dif_neg hl]
  split
  · rename_i c' h'; rw [h] at h'; cases h'; rfl
  · rename_i h'; rw [h] at h'; cases h'
theorem pcs_cons {k : Int} {l : List UInt8} {n : Nat} (hl : l ≠ []) (h : unit9 k l = .inr n) : pcs k l = (l.take n :: (pcs k (l.drop n)).1, (pcs k (l.drop n)).2) := by
  rw [pcs, dif_neg hl]
  split
  · rename_i c' h'; rw [h] at h'; cases h'
  · rename_i n' h'; rw [h] at h'; cases h'; rfl
theorem pcs_ind (k : Int) (P : List UInt8 → Prop) (h0 : P []) (he : ∀ l c, l ≠ [] → unit9 k l = .inl c → (c = 3 ∨ c = 4) → P l)
    (hc : ∀ l n, l ≠ [] → unit9 k l = .inr n → 1 ≤ n → n ≤ l.length → n ≤ 10 → P (l.drop n) → P l) (l : List UInt8) : P l := by
  generalize hn : l.length = m
  induction m using Nat.strongRecOn generalizing l with
  | _ m ih =>
    by_cases hl : l = []
    · subst hl; exact h0
    · rcases unit9_cases k l with ⟨c, h, hc'⟩ | ⟨n, h, g1, g2, g3, _⟩
      · exact he l c hl h hc'
      · exact hc l n hl h g1 g2 g3 (ih _ (by simp only [List.length_drop]; omega) _ rfl)
theorem pcs_code (k : Int) (l : List UInt8) : (pcs k l).2 = 0 ∨ (pcs k l).2 = 3 ∨ (pcs k l).2 = 4 := by
  refine pcs_ind k (fun l => (pcs k l).2 = 0 ∨ (pcs k l).2 = 3 ∨ (pcs k l).2 = 4) ?_ ?_ ?_ l
  · rw [pcs_nil]; exact .inl rfl
  · intro l c hl h hc; rw [pcs_err hl h]; exact .inr hc
  · intro l n hl h _ _ _ ih; rw [pcs_cons hl h]; exact ih
theorem pcs_len (k : Int) (l : List UInt8) : (pcs k l).1.length ≤ l.length := by
  refine pcs_ind k (fun l => (pcs k l).1.length ≤ l.length) ?_ ?_ ?_ l
  · rw [pcs_nil]; simp
  · intro l c hl h _; rw [pcs_err hl h]; simp
  · intro l n hl h _ _ _ ih
    rw [pcs_cons hl h]
    simp only [List.length_cons, List.length_drop] at ih ⊢
    have := List.length_pos_iff.2 hl
    omega
theorem pcs_flat (k : Int) (l : List UInt8) : (pcs k l).2 = 0 → (pcs k l).1.flatten = l := by
  refine pcs_ind k (fun l => (pcs k l).2 = 0 → (pcs k l).1.flatten = l) ?_ ?_ ?_ l
  · rw [pcs_nil]; intro _; rfl
  · intro l c hl h hc h2; rw [pcs_err hl h] at h2; simp only at h2; omega
  · intro l n hl h _ _ _ ih h2
    rw [pcs_cons hl h] at h2 ⊢
    simp only [List.flatten_cons]
    rw [ih h2, List.take_append_drop]
theorem pcs_append (k : Int) (m l : List UInt8) : (pcs k l).2 = 0 → pcs k (l ++ m) = ((pcs k l).1 ++ (pcs k m).1, (pcs k m).2) := by
  refine pcs_ind k (fun l => (pcs k l).2 = 0 → pcs k (l ++ m) = ((pcs k l).1 ++ (pcs k m).1, (pcs k m).2)) ?_ ?_ ?_ l
  · intro _; rw [pcs_nil]; simp
  · intro l c hl h hc h2; rw [pcs_err hl h] at h2; simp only at h2; omega
  · intro l n hl h g1 g2 _ ih h2
    rw [pcs_cons hl h] at h2 ⊢
    rw [pcs_cons (by simp [hl]) (unit9_append k l m h), List.take_append_of_le_length g2, List.drop_append_of_le_length g2, ih h2]
    rfl
theorem unit9_fits {k : Int} (hk : kNum k = true) {l : List UInt8} {n : Nat} (h : unit9 k l = .inr n) : fits5 (kWire k) (l.take n) = true := by
  have hk' := kNum_iff.1 hk
  rcases unit9_cases k l with ⟨c, h', _⟩ | ⟨n', h', g1, g2, g3, hcase⟩
  · rw [h'] at h; cases h
  · rw [h'] at h; cases h
    have hlen : (l.take n).length = n := by simp; omega
    unfold fits5
    rcases hcase with ⟨h9, f1, f2⟩ | ⟨h9, f1⟩
    · have e : kWire k = 0 := by unfold kWire; rw [if_neg (by omega), if_neg (by omega), if_neg (by omega)]
      rw [if_pos e]
      rcases rd_cases l with h6 | ⟨h6, _⟩ | ⟨x, c, y, e, hx, hc, hl, hv, h6⟩
      · rw [h6] at f1; cases f1
      · rw [h6] at f1; cases f1
      · rw [h6] at f2
        have e7 : n = (x ++ [c]).length := by simp at f2 ⊢; omega
        have e8 : l.take n = x ++ c :: [] := by rw [e7, e, List.append_cons x c y, List.take_left]
        rw [e8, rd_of x c [] hx hc hl hv]
        simp
    · have h12 : kWire k = 1 ∧ 12 ≤ k ∨ kWire k = 5 ∧ k < 12 := by
        unfold kWire
        rw [if_neg (by omega)]
        by_cases hh : 12 ≤ k
        · rw [if_pos hh]; exact .inl ⟨rfl, hh⟩
        · rw [if_neg hh, if_pos (by omega)]; exact .inr ⟨rfl, by omega⟩
      rw [if_neg (by omega), hlen, f1]
      refine decide_eq_true ?_
      rcases h12 with ⟨e, hh⟩ | ⟨e, hh⟩
      · rw [e, if_neg (by omega)]; right; left; exact ⟨rfl, rfl⟩
      · rw [e, if_pos hh]; right; right; exact ⟨rfl, rfl⟩
theorem pcs_fits {k : Int} (hk : kNum k = true) (l : List UInt8) : ∀ p ∈ (pcs k l).1, fits5 (kWire k) p = true ∧ 1 ≤ p.length ∧ p.length ≤ 10 := by
  refine pcs_ind k (fun l => ∀ p ∈ (pcs k l).1, fits5 (kWire k) p = true ∧ 1 ≤ p.length ∧ p.length ≤ 10) ?_ ?_ ?_ l
  · rw [pcs_nil]; intro p hp; cases hp
  · intro l c hl h _; rw [pcs_err hl h]; intro p hp; cases hp
  · intro l n hl h g1 g2 g3 ih
    rw [pcs_cons hl h]
    intro p hp
    cases hp with
    | head => exact ⟨unit9_fits hk h, by simp; omega, by simp; omega⟩
    | tail _ hp => exact ih p hp
def wordOf (k : Int) (p : List UInt8) : Int := canonS k (rawW k p)
theorem sRead_piece {k : Int} (hk : kNum k = true) {p : List UInt8} (hf : fits5 (kWire k) p = true) : sRead k p = (wordOf k p, 0) := by
  unfold sRead wordOf
  rw [hk, if_neg (by simp), hf, if_neg (by simp)]
theorem unit9_sPut {k w : Int} (hk : kNum k = true) (h : 0 ≤ w ∧ w ≤ 18446744073709551615) (m : List UInt8) : unit9 k (sPut k w ++ m) = .inr (sPut k w).length := by
  have hk' := kNum_iff.1 hk
  have hc := canon_bd k h
  unfold sPut sBytes unit9
  by_cases h12 : 12 ≤ k
  · rw [if_neg (by omega)]
    simp only [if_pos h12, if_neg (show ¬ k < 12 by omega)]
    rw [if_neg (by simp [little_length]), little_length]
  · simp only [if_neg h12]
    by_cases h9 : 9 ≤ k
    · rw [if_neg (by omega)]
      simp only [if_pos h9, if_pos (show k < 12 by omega)]
      rw [if_neg (by simp [little_length]), little_length]
    · rw [if_pos (by omega)]
      simp only [if_neg h9]
      rw [rd_enc _ (by omega)]
      simp
theorem pcs_pack {k : Int} (hk : kNum k = true) : ∀ (l : List Int), (∀ w ∈ l, 0 ≤ w ∧ w ≤ 18446744073709551615) → pcs k (l.flatMap (sPut k)) = (l.map (sPut k), 0)
  | [], _ => pcs_nil k
  | w :: l, h => by
    have hw := h w List.mem_cons_self
    have hlen := sPut_len (k := k) hw
    have hne : sPut k w ++ l.flatMap (sPut k) ≠ [] := fun e => by
      have := congrArg List.length e
      simp only [List.length_append, List.length_nil] at this
      omega
    rw [List.flatMap_cons, pcs_cons hne (unit9_sPut hk hw _), List.take_left, List.drop_left, pcs_pack hk l fun v hv => h v (List.mem_cons_of_mem _ hv)]
    rfl
def ends (base : Nat) : List (List UInt8) → List Int
  | [] => []
  | p :: ps => ((base + p.length : Nat) : Int) :: ends (base + p.length) ps
theorem ends_length (base : Nat) (ps : List (List UInt8)) : (ends base ps).length = ps.length := by
  induction ps generalizing base with
  | nil => rfl
  | cons p ps ih => simp [ends, ih]
theorem ends_get : ∀ (ps : List (List UInt8)) (base i : Nat), i < ps.length → (ends base ps)[i]? = some ((base + (ps.take (i + 1)).flatten.length : Nat) : Int)
  | [], _, _, h => by simp at h
  | p :: ps, base, 0, _ => by simp [ends]
  | p :: ps, base, i + 1, h => by
    have := ends_get ps (base + p.length) i (by simpa using h)
    simp only [ends, List.getElem?_cons_succ, this, List.take_succ_cons, List.flatten_cons, List.length_append, Nat.add_assoc]
theorem refEnds_loop {b : List UInt8} (hb : b.length ≤ 1048576) (k : Int) (l : List UInt8) : ∀ (a : Nat) (out : List Int), a ≤ b.length → l = b.drop a → out.length ≤ a →
    darningref09_Ends_l1 b k out a = some (if (pcs k l).2 = 0 then .inl (out ++ ends a (pcs k l).1) else .inr (pcs k l).2) := by
  refine pcs_ind k (fun l => ∀ (a : Nat) (out : List Int), a ≤ b.length → l = b.drop a → out.length ≤ a →
    darningref09_Ends_l1 b k out a = some (if (pcs k l).2 = 0 then .inl (out ++ ends a (pcs k l).1) else .inr (pcs k l).2)) ?_ ?_ ?_ l
  · intro a out ha hl ho
    have : b.length ≤ a := by have := congrArg List.length hl; simp at this; omega
    rw [pcs_nil, if_pos rfl]
    refine darningref09_Ends_l1_inr ?_
    unfold darningref09_Ends_b1
    rw [itF (by simp; omega)]
    simp [ends]
  · intro l c hl h hc a out ha hld ho
    subst hld
    have hlt : a < b.length := by have := List.length_pos_iff.2 hl; simp at this; omega
    have hdl : (b.drop a).length = b.length - a := by simp
    rw [pcs_err hl h, if_neg (by simp only; omega)]
    refine darningref09_Ends_l1_inr ?_
    unfold darningref09_Ends_b1
    rw [itT (by simp; omega)]
    unfold unit9 at h
    by_cases h9 : k < 9
    · rw [if_pos h9] at h
      by_cases h0 : (rd (b.drop a)).2.2 = 0
      · rw [if_neg (by simpa using h0)] at h; cases h
      · rw [if_pos h0] at h; cases h
        rw [itT (by simp; omega), sb, itT (by simpa using h9), ref_is b a (by omega) ha, sb, itT (by simpa using h0), sb]
    · rw [if_neg h9] at h
      by_cases h12 : k < 12
      · simp only [if_pos h12] at h
        by_cases h8 : (b.drop a).length < 4
        · rw [if_pos h8] at h; cases h
          rw [itT (by simpa using h12), sb, itF (by simpa using h9), sb]
          simp only
          rw [wrap_i64 (by omega), itT (by simp; omega)]
        · rw [if_neg h8] at h; cases h
      · simp only [if_neg h12] at h
        by_cases h8 : (b.drop a).length < 8
        · rw [if_pos h8] at h; cases h
          rw [itF (by simpa using h12), sb, itF (by simpa using h9), sb]
          simp only
          rw [wrap_i64 (by omega), itT (by simp; omega)]
        · rw [if_neg h8] at h; cases h
  · intro l n hl h g1 g2 g3 ih a out ha hld ho
    subst hld
    have hdl : (b.drop a).length = b.length - a := by simp
    have hbody : darningref09_Ends_b1 b k out a = some (.inl (out ++ [((a + n : Nat) : Int)], ((a + n : Nat) : Int))) := by
      unfold darningref09_Ends_b1
      rw [itT (by simp; omega)]
      rcases unit9_cases k (b.drop a) with ⟨c, h', _⟩ | ⟨n', h', _, _, _, hcase⟩
      · rw [h'] at h; cases h
      · rw [h'] at h; cases h
        rcases hcase with ⟨h9, f1, f2⟩ | ⟨h9, f1⟩
        · rw [itT (by simp; omega), sb, itT (by simpa using h9), ref_is b a (by omega) ha, sb, itF (by simpa using f1), sb]
          simp only
          rw [f2, wrap_i64 (by omega), itF (by simp; omega), app_of (by simp; omega), sb]
          push_cast; rfl
        · by_cases h12 : k < 12
          · rw [if_pos h12] at f1; subst f1
            rw [itT (by simpa using h12), sb, itF (by simpa using h9), sb]
            simp only
            rw [wrap_i64 (by omega), itF (by simp; omega), app_of (by simp; omega), sb]
            push_cast; rfl
          · rw [if_neg h12] at f1; subst f1
            rw [itF (by simpa using h12), sb, itF (by simpa using h9), sb]
            simp only
            rw [wrap_i64 (by omega), itF (by simp; omega), app_of (by simp; omega), sb]
            push_cast; rfl
    rw [darningref09_Ends_l1_inl hbody, ih (a + n) _ (by omega) (by rw [List.drop_drop]) (by simp; omega), pcs_cons hl h]
    have e : ((b.drop a).take n).length = n := by simp; omega
    simp only [ends, e, List.append_assoc, List.singleton_append]
def endsS (k : Int) (b : List UInt8) : List Int × Int := if kNum k = false then ([], 2) else if (pcs k b).2 = 0 then (ends 0 (pcs k b).1, 0) else ([], (pcs k b).2)
theorem refEnds_is (k : Int) {b : List UInt8} (hb : b.length ≤ 1048576) : darningref09_Ends k b = some (endsS k b) := by
  unfold darningref09_Ends endsS
  rw [refKNum_is, sb]
  cases hn : kNum k
  · rw [itT (by rfl), if_pos rfl]
  · have h := refEnds_loop hb k b 0 [] (Nat.zero_le _) rfl (Nat.le_refl _)
    have h' : darningref09_Ends_l1 b k [] 0 = _ := h
    rw [itF (by rfl), if_neg (by simp), h', sb]
    by_cases h0 : (pcs k b).2 = 0
    · rw [if_pos h0, if_pos h0]; rfl
    · rw [if_neg h0, if_neg h0]
def wordsS (k : Int) (b : List UInt8) : List Int × Int := if kNum k = false then ([], 2) else if (pcs k b).2 = 0 then ((pcs k b).1.map (wordOf k), 0) else ([], (pcs k b).2)
theorem refWords_loop {b : List UInt8} (hb : b.length ≤ 1048576) {k : Int} (hk : kNum k = true) {ps : List (List UInt8)} (hps : ∀ p ∈ ps, fits5 (kWire k) p = true) (hfl : ps.flatten = b) (hl : ps.length ≤ b.length) (c : Int) : ∀ (d i : Nat), i + d = ps.length →
    darningref09_Words_l1 b k (ends 0 ps, c) ((ps.take i).map (wordOf k)) i = some (ps.map (wordOf k)) := by
  intro d
  induction d with
  | zero =>
    intro i hi
    refine darningref09_Words_l1_inr ?_
    unfold darningref09_Words_b1
    rw [itF (by simp [ends_length]; omega), List.take_of_length_le (by omega)]
  | succ d ih =>
    intro i hi
    have hil : i < ps.length := by omega
    have hps1 : ps.take (i + 1) = ps.take i ++ [ps[i]] := by rw [List.take_add_one, List.getElem?_eq_getElem hil]; rfl
    have hsplit : ps = ps.take i ++ ps[i] :: ps.drop (i + 1) := by rw [← List.drop_eq_getElem_cons hil, List.take_append_drop]
    have hb2 : b = (ps.take i).flatten ++ (ps[i] ++ (ps.drop (i + 1)).flatten) := by
      have h1 : b = (ps.take i ++ ps[i] :: ps.drop (i + 1)).flatten := by rw [← hsplit]; exact hfl.symm
      rw [List.flatten_append, List.flatten_cons] at h1
      exact h1
    have hcut : (b.drop (ps.take i).flatten.length).take ((ps.take (i + 1)).flatten.length - (ps.take i).flatten.length) = ps[i] := by
      rw [hps1, List.flatten_append, List.length_append, Nat.add_sub_cancel_left]
      conv => lhs; arg 2; rw [hb2]
      rw [List.drop_left]
      simp
    have hle : (ps.take (i + 1)).flatten.length ≤ b.length := by
      have := congrArg List.length hb2
      rw [hps1]
      simp only [List.flatten_append, List.length_append, List.flatten_cons, List.flatten_nil, List.append_nil] at this ⊢
      omega
    refine (darningref09_Words_l1_inl (out' := (ps.take (i + 1)).map (wordOf k)) (i' := ((i + 1 : Nat) : Int)) ?_).trans (ih (i + 1) (by omega))
    unfold darningref09_Words_b1
    rw [itT (by simp [ends_length]; omega)]
    have efrom : (if (decide ((i : Int) > 0)) = true then (idx (ends 0 ps) (IntKind.i64.wrap ((i : Int) - 1)) >>= fun x => some x) else some 0) = some (((ps.take i).flatten.length : Nat) : Int) := by
      cases i with
      | zero => rw [itF (by simp)]; simp
      | succ j =>
        have hg := ends_get ps 0 j (by omega)
        rw [itT (by first | (simp; done) | (simp; omega)), wrap_i64 (by omega)]
        unfold idx
        rw [if_pos (by omega), show (((j + 1 : Nat) : Int) - 1).toNat = j by omega, hg, sb]
        simp
    have hg := ends_get ps 0 i hil
    have eto : idx (ends 0 ps) (i : Int) = some (((ps.take (i + 1)).flatten.length : Nat) : Int) := by
      unfold idx
      rw [if_pos (by omega), Int.toNat_natCast, hg]
      simp
    have hmono : (ps.take i).flatten.length ≤ (ps.take (i + 1)).flatten.length := by rw [hps1, List.flatten_append, List.length_append]; omega
    have hpl : (ps[i]).length ≤ b.length := by have := congrArg List.length hb2; simp at this; omega
    simp only
    rw [efrom, sb, eto, sb, cut_of rfl rfl hmono hle, sb, hcut, refSRead_is k (by omega), sb, sRead_piece hk (hps _ (List.getElem_mem hil)), app_of (by simp; omega), sb, wrap_i64 (by omega)]
    rw [hps1, List.map_append]
    rfl
theorem refWords_is (k : Int) {b : List UInt8} (hb : b.length ≤ 1048576) : darningref09_Words k b = some (wordsS k b) := by
  unfold darningref09_Words wordsS
  rw [refEnds_is k hb, sb]
  unfold endsS
  cases hn : kNum k
  · rw [if_pos rfl, if_pos rfl]
    have h' : darningref09_Words_l1 b k (([] : List Int), 2) [] 0 = some [] := by
      refine darningref09_Words_l1_inr ?_
      unfold darningref09_Words_b1
      rw [itF (by simp)]
    rw [h', sb]
  · simp only [if_neg (show ¬ (true = false) by simp)]
    by_cases h0 : (pcs k b).2 = 0
    · simp only [if_pos h0]
      have h := refWords_loop hb hn (ps := (pcs k b).1) (fun p hp => (pcs_fits hn b p hp).1) (pcs_flat k b h0) (pcs_len k b) 0 (pcs k b).1.length 0 (by omega)
      have h' : darningref09_Words_l1 b k (ends 0 (pcs k b).1, 0) [] 0 = _ := h
      rw [h', sb]
    · simp only [if_neg h0]
      have h' : darningref09_Words_l1 b k (([] : List Int), (pcs k b).2) [] 0 = some [] := by
        refine darningref09_Words_l1_inr ?_
        unfold darningref09_Words_b1
        rw [itF (by simp)]
      rw [h', sb]
theorem refPack_loop {fuel : Nat} (hf : 10 ≤ fuel) {k : Int} {l : List Int} (h : ∀ w ∈ l, 0 ≤ w ∧ w ≤ 18446744073709551615) (hl : l.length ≤ 1048576) : ∀ (d i : Nat) (out : List UInt8), i + d = l.length → out.length ≤ 10 * i →
    darningref09_Pack_l1 fuel k l out i = some (out ++ (l.drop i).flatMap (sPut k)) := by
  intro d
  induction d with
  | zero =>
    intro i out hi ho
    refine darningref09_Pack_l1_inr ?_
    unfold darningref09_Pack_b1
    rw [itF (by simp; omega), List.drop_eq_nil_of_le (by omega)]
    simp
  | succ d ih =>
    intro i out hi ho
    have hil : i < l.length := by omega
    have hw := h _ (List.getElem_mem hil)
    have hlen := sPut_len (k := k) hw
    refine (darningref09_Pack_l1_inl (out' := out ++ sPut k l[i]) (i' := ((i + 1 : Nat) : Int)) ?_).trans ?_
    · unfold darningref09_Pack_b1
      rw [itT (by simp; omega), idx_of rfl hil, sb, refSPut_fu hf hw, sb, app_of (by omega), sb, wrap_i64 (by omega)]; rfl
    · rw [ih (i + 1) _ (by omega) (by simp; omega), List.drop_eq_getElem_cons hil, List.flatMap_cons, List.append_assoc]
theorem refPack_fu {fuel : Nat} (hf : 10 ≤ fuel) {k : Int} {l : List Int} (h : ∀ w ∈ l, 0 ≤ w ∧ w ≤ 18446744073709551615) (hl : l.length ≤ 1048576) : darningref09_Pack fuel k l = some (l.flatMap (sPut k)) := by
  unfold darningref09_Pack
  have h1 := refPack_loop hf (k := k) h hl l.length 0 [] (by omega) (by simp)
  have h' : darningref09_Pack_l1 fuel k l [] 0 = some ([] ++ (l.drop 0).flatMap (sPut k)) := h1
  rw [h', sb]
  simp
theorem refPack_is {k : Int} {l : List Int} (h : ∀ w ∈ l, 0 ≤ w ∧ w ≤ 18446744073709551615) (hl : l.length ≤ 1048576) : darningref09_Pack 10 k l = some (l.flatMap (sPut k)) := refPack_fu (Nat.le_refl _) h hl
end Go.Proofs.Ythkdneddbbocmaa
namespace Go.Proofs.Ythkdneddbbocmaa
open Go
set_option linter.unusedVariables false
def at9 (k : Int) (b : List UInt8) (i : Int) : Int × Int := if (wordsS k b).2 ≠ 0 then (0, (wordsS k b).2) else if i < 0 ∨ i ≥ (wordsS k b).1.length then (0, 11) else ((wordsS k b).1.getD i.toNat 0, 0)
def cut9 (k : Int) (b : List UInt8) (n : Int) : List UInt8 × List UInt8 × Int := if (wordsS k b).2 ≠ 0 then ([], [], (wordsS k b).2) else if n < 0 ∨ n > (pcs k b).1.length then ([], [], 11) else (((pcs k b).1.take n.toNat).flatten, ((pcs k b).1.drop n.toNat).flatten, 0)
def can9 (k : Int) (b : List UInt8) : Bool := decide ((wordsS k b).2 = 0 ∧ (wordsS k b).1.flatMap (sPut k) = b)
theorem wordsS_zero {k : Int} {b : List UInt8} (h : (wordsS k b).2 = 0) : kNum k = true ∧ (pcs k b).2 = 0 ∧ (wordsS k b).1 = (pcs k b).1.map (wordOf k) := by
  unfold wordsS at h ⊢
  cases hn : kNum k with
  | false => rw [hn, if_pos rfl] at h; simp at h
  | true =>
    rw [hn, if_neg (by simp)] at h
    rw [if_neg (by simp)]
    by_cases h0 : (pcs k b).2 = 0
    · rw [if_pos h0]; exact ⟨rfl, h0, rfl⟩
    · rw [if_neg h0] at h; exact absurd h h0
theorem wordsS_of {k : Int} {b : List UInt8} (hn : kNum k = true) (h0 : (pcs k b).2 = 0) : wordsS k b = ((pcs k b).1.map (wordOf k), 0) := by
  unfold wordsS; rw [hn, if_neg (by simp), if_pos h0]
theorem wordsS_bad {k : Int} {b : List UInt8} (h : (wordsS k b).2 ≠ 0) : (wordsS k b).1 = [] ∧ ((wordsS k b).2 = 2 ∨ (wordsS k b).2 = 3 ∨ (wordsS k b).2 = 4) := by
  unfold wordsS at h ⊢
  by_cases hn : kNum k = false
  · rw [if_pos hn]; simp
  · rw [if_neg hn] at h ⊢
    by_cases h0 : (pcs k b).2 = 0
    · rw [if_pos h0] at h; exact absurd rfl h
    · rw [if_neg h0]
      rcases pcs_code k b with h1 | h1 | h1
      · exact absurd h1 h0
      · rw [h1]; simp
      · rw [h1]; simp
theorem wordOf_bd (k : Int) (p : List UInt8) : 0 ≤ wordOf k p ∧ wordOf k p ≤ 18446744073709551615 := canon_bd k (rawW_bd k)
theorem wordsS_bd {k : Int} {b : List UInt8} : ∀ w ∈ (wordsS k b).1, 0 ≤ w ∧ w ≤ 18446744073709551615 := by
  intro w hw
  by_cases h : (wordsS k b).2 = 0
  · rw [(wordsS_zero h).2.2] at hw
    obtain ⟨p, _, rfl⟩ := List.mem_map.1 hw
    exact wordOf_bd k p
  · rw [(wordsS_bad h).1] at hw; cases hw
theorem wordsS_len (k : Int) (b : List UInt8) : (wordsS k b).1.length ≤ b.length := by
  by_cases h : (wordsS k b).2 = 0
  · rw [(wordsS_zero h).2.2, List.length_map]; exact pcs_len k b
  · rw [(wordsS_bad h).1]; exact Nat.zero_le _
theorem endsS_words {k : Int} {b : List UInt8} : (endsS k b).2 = (wordsS k b).2 ∧ ((wordsS k b).2 = 0 → (endsS k b).1 = ends 0 (pcs k b).1) := by
  unfold endsS wordsS
  by_cases hn : kNum k = false
  · rw [if_pos hn, if_pos hn]; exact ⟨rfl, fun h => by simp at h⟩
  · rw [if_neg hn, if_neg hn]
    by_cases h0 : (pcs k b).2 = 0
    · rw [if_pos h0, if_pos h0]; exact ⟨rfl, fun _ => rfl⟩
    · rw [if_neg h0, if_neg h0]; exact ⟨rfl, fun h => absurd h h0⟩
theorem words_pack {k : Int} (hk : kNum k = true) {l : List Int} (h : ∀ w ∈ l, 0 ≤ w ∧ w ≤ 18446744073709551615) : wordsS k (l.flatMap (sPut k)) = (l.map (canonS k), 0) := by
  rw [wordsS_of hk (by rw [pcs_pack hk l h]), pcs_pack hk l h]
  simp only [List.map_map, Prod.mk.injEq, and_true]
  refine List.map_congr_left fun w hw => ?_
  have h1 := sRead_sPut hk (h w hw)
  have hf : fits5 (kWire k) (sPut k w) = true := by
    cases hf : fits5 (kWire k) (sPut k w) with
    | true => rfl
    | false => unfold sRead at h1; rw [hk, hf] at h1; simp at h1
  rw [sRead_piece hk hf] at h1
  exact (Prod.mk.inj h1).1
theorem can_pack {k : Int} (hk : kNum k = true) {l : List Int} (h : ∀ w ∈ l, 0 ≤ w ∧ w ≤ 18446744073709551615) : can9 k (l.flatMap (sPut k)) = true := by
  unfold can9
  rw [words_pack hk h]
  refine decide_eq_true ⟨rfl, ?_⟩
  show (l.map (canonS k)).flatMap (sPut k) = _
  rw [List.flatMap_map]
  rw [List.flatMap_def, List.flatMap_def]
  exact congrArg _ (List.map_congr_left fun w hw => sPut_canon (h w hw))
theorem words_append {k : Int} {a b : List UInt8} (ha : (wordsS k a).2 = 0) : (wordsS k (a ++ b)).2 = (wordsS k b).2 ∧ ((wordsS k b).2 = 0 → (wordsS k (a ++ b)).1 = (wordsS k a).1 ++ (wordsS k b).1) := by
  obtain ⟨hn, h0, e⟩ := wordsS_zero ha
  have hp := pcs_append k b a h0
  by_cases hb : (pcs k b).2 = 0
  · rw [wordsS_of hn (b := a ++ b) (by rw [hp]; exact hb), wordsS_of hn hb, e, hp]
    exact ⟨rfl, fun _ => by simp⟩
  · have : (wordsS k b).2 = (pcs k b).2 := by unfold wordsS; rw [if_neg (by rw [hn]; simp), if_neg hb]
    have h2 : (wordsS k (a ++ b)).2 = (pcs k b).2 := by unfold wordsS; rw [if_neg (by rw [hn]; simp), hp, if_neg hb]
    rw [this, h2]
    exact ⟨rfl, fun h => absurd h hb⟩
theorem cut_append {k : Int} {a b : List UInt8} (ha : (wordsS k a).2 = 0) (hb : (wordsS k b).2 = 0) : cut9 k (a ++ b) (wordsS k a).1.length = (a, b, 0) := by
  obtain ⟨hn, h0, e⟩ := wordsS_zero ha
  obtain ⟨_, h1, e1⟩ := wordsS_zero hb
  have hp := pcs_append k b a h0
  have hw := (words_append (b := b) ha).1
  unfold cut9
  have hl : (wordsS k a).1.length = (pcs k a).1.length := by rw [e, List.length_map]
  rw [if_neg (by rw [hw, hb]; simp), hp, hl, if_neg (by simp; omega)]
  simp only [Int.toNat_natCast, List.take_left, List.drop_left]
  rw [pcs_flat k a h0, pcs_flat k b h1]
end Go.Proofs.Ythkdneddbbocmaa
namespace Go.Proofs.Ythkdneddbbocmaa
open Go
set_option linter.unusedVariables false
theorem kcanon_is (k : Int) {w : Int} (h : 0 ≤ w ∧ w ≤ 18446744073709551615) : kind_Canon k w = some (if kNum k then (canonS k w, 0) else (0, 2)) := by
  have hs := sgn_bd w
  have hc := canon_bd k h
  unfold kind_Canon
  by_cases h1 : k = 1 ∨ k = 8
  · have e : (if (k == 1) = true then some (k == 1) else some (k == 8)) = some true := by rcases h1 with rfl | rfl <;> rfl
    have hn : kNum k = true := decide_eq_true (by omega)
    rw [e, sb, itT rfl, sign32_is, sb, wide32_is (by omega), sb, hn]
    unfold canonS
    rw [if_pos h1]
    rfl
  · have e : (if (k == 1) = true then some (k == 1) else some (k == 8)) = some false := by rw [itF (by simp; omega)]; simp; omega
    rw [e, sb, itF rfl]
    by_cases h2 : k = 3 ∨ k = 5 ∨ k = 9 ∨ k = 10 ∨ k = 11
    · have e2 : (if (k == 3) = true then some (k == 3) else if (k == 5) = true then some (k == 5) else if (k == 9) = true then some (k == 9) else if (k == 10) = true then some (k == 10) else some (k == 11)) = some true := by
        rcases h2 with rfl | rfl | rfl | rfl | rfl <;> rfl
      have hn : kNum k = true := decide_eq_true (by omega)
      have hw : IntKind.u64.wrap (w % 4294967296) = w % 4294967296 := by rw [wrap_u64]; omega
      rw [e2, sb, itT rfl, low32_is, sb, hn, hw]
      unfold canonS
      rw [if_neg h1, if_pos h2]
      rfl
    · have e2 : (if (k == 3) = true then some (k == 3) else if (k == 5) = true then some (k == 5) else if (k == 9) = true then some (k == 9) else if (k == 10) = true then some (k == 10) else some (k == 11)) = some false := by
        rw [itF (by simp; omega), itF (by simp; omega), itF (by simp; omega), itF (by simp; omega)]; simp; omega
      rw [e2, sb, itF rfl]
      by_cases h7 : k = 7
      · have hn : kNum k = true := decide_eq_true (by omega)
        rw [itT (by simpa using h7), hn]
        unfold kind_truth canonS
        rw [sb, if_neg h1, if_neg h2, if_pos h7]
        by_cases h0 : 0 < w
        · rw [if_pos h0]
          by_cases h10 : 1 < w
          · rw [if_pos h10]; rfl
          · rw [if_neg h10, show w = 1 by omega]; rfl
        · rw [if_neg h0, if_neg (by omega), show w = 0 by omega]; rfl
      · rw [itF (by simpa using h7)]
        by_cases hn : kNum k = true
        · have hk := of_decide_eq_true hn
          have e3 : (if (k == 2) = true then some (k == 2) else if (k == 4) = true then some (k == 4) else if (k == 6) = true then some (k == 6) else if (k == 12) = true then some (k == 12) else if (k == 13) = true then some (k == 13) else some (k == 14)) = some true := by
            have : k = 2 ∨ k = 4 ∨ k = 6 ∨ k = 12 ∨ k = 13 ∨ k = 14 := by omega
            rcases this with rfl | rfl | rfl | rfl | rfl | rfl <;> rfl
          rw [e3, sb, itT rfl, hn]
          unfold canonS
          rw [if_neg h1, if_neg h2, if_neg h7]
          rfl
        · have hn : kNum k = false := by simpa using hn
          have hk := of_decide_eq_false hn
          have e3 : (if (k == 2) = true then some (k == 2) else if (k == 4) = true then some (k == 4) else if (k == 6) = true then some (k == 6) else if (k == 12) = true then some (k == 12) else if (k == 13) = true then some (k == 13) else some (k == 14)) = some false := by
            rw [itF (by simp; omega), itF (by simp; omega), itF (by simp; omega), itF (by simp; omega), itF (by simp; omega)]; simp; omega
          rw [e3, sb, itF rfl, hn]
          rfl
end Go.Proofs.Ythkdneddbbocmaa
namespace Go.Proofs.Ythkdneddbbocmaa
open Go
set_option linter.unusedVariables false
theorem little_word : ∀ (b : List UInt8), little b.length (word b) = b
  | [] => rfl
  | c :: b => by
    have h1 : (c.toNat + 256 * word b) % 256 = c.toNat := by have := c.toNat_lt; omega
    have h2 : (c.toNat + 256 * word b) / 256 = word b := by have := c.toNat_lt; omega
    show UInt8.ofNat ((c.toNat + 256 * word b) % 256) :: little b.length ((c.toNat + 256 * word b) / 256) = c :: b
    rw [h1, h2, little_word b, UInt8.ofNat_toNat]
theorem enc_rd {b : List UInt8} {w : Nat} (hw : (rd b).1 = w) (h0 : (rd b).2.2 = 0) (hn : (rd b).2.1 = (b.length : Int)) : enc w = b ↔ (enc w).length = b.length := by
  refine ⟨fun e => by rw [e], fun hl => ?_⟩
  rcases rd_cases b with h | ⟨h, _⟩ | ⟨x, c, y, e, hx, hc, hlx, hv, h⟩
  · rw [h] at h0; simp at h0
  · rw [h] at h0; simp at h0
  · rw [h] at hw hn
    simp only at hw hn
    have hb : b.length = x.length + 1 + y.length := by rw [e]; simp; omega
    have hy : y = [] := List.eq_nil_of_length_eq_zero (by omega)
    subst hy
    have hw' : w = hor (x ++ [c]) := by omega
    rw [hw', e]
    refine (enc_hor_iff x c hx hc).2 ?_
    by_cases h1 : x = []
    · exact .inl h1
    · refine .inr fun h2 => ?_
      subst h2
      have hxp : 0 < x.length := by rcases x with _ | _ <;> simp_all
      have h3 : hor (x ++ [0]) = hor x := by rw [hor_append]; simp [hor]
      have h4 : hor x < 128 ^ x.length := hor_lt x
      have h5 := lenN_le x.length (hor x) h4 hxp
      rw [hw', h3, enc_len] at hl
      simp only [List.length_nil] at hb
      omega
theorem ite_tf {α : Type} (x y : α) : (if (true : Bool) = false then x else y) = y := rfl
def wid (k : Int) : Nat := if 12 ≤ k then 8 else if 9 ≤ k then 4 else 0
theorem swidth_is (k : Int) : scalar_width k = some (if kNum k then ((wid k : Int), 0) else (0, 2)) := by
  cases hn : kNum k with
  | true =>
    have h := kNum_iff.1 hn
    have hk : k = 1 ∨ k = 2 ∨ k = 3 ∨ k = 4 ∨ k = 5 ∨ k = 6 ∨ k = 7 ∨ k = 8 ∨ k = 9 ∨ k = 10 ∨ k = 11 ∨ k = 12 ∨ k = 13 ∨ k = 14 := by omega
    rcases hk with rfl | rfl | rfl | rfl | rfl | rfl | rfl | rfl | rfl | rfl | rfl | rfl | rfl | rfl <;> rfl
  | false =>
    have h := of_decide_eq_false hn
    unfold scalar_width
    have hne : ∀ c : Int, 1 ≤ c → c ≤ 14 → (k == c) = false := fun c h1 h2 => by simp; omega
    simp only [hne 1 (by omega) (by omega), hne 2 (by omega) (by omega), hne 3 (by omega) (by omega), hne 4 (by omega) (by omega), hne 5 (by omega) (by omega), hne 6 (by omega) (by omega), hne 7 (by omega) (by omega), hne 8 (by omega) (by omega), hne 9 (by omega) (by omega), hne 10 (by omega) (by omega), hne 11 (by omega) (by omega), hne 12 (by omega) (by omega), hne 13 (by omega) (by omega), hne 14 (by omega) (by omega)]
    rfl
theorem kWire_wid {k : Int} (hk : kNum k = true) : (kWire k = 0 ↔ wid k = 0) ∧ (wid k ≠ 0 → ∀ b : List UInt8, fits5 (kWire k) b = decide (wid k = b.length)) ∧ (wid k = 0 ∨ wid k = 4 ∨ wid k = 8) := by
  have := kNum_iff.1 hk
  unfold kWire wid fits5
  by_cases h1 : 12 ≤ k
  · rw [if_neg (by omega), if_pos h1, if_pos h1]
    refine ⟨by simp, fun _ b => ?_, by simp⟩
    rw [if_neg (by omega)]
    simp only [show ((1 : Int) = 2) = False from by simp, show ((1 : Int) = 5) = False from by simp, false_or, false_and, or_false, true_and]
    simp [eq_comm]
  · rw [if_neg (by omega), if_neg h1, if_neg h1]
    by_cases h2 : 9 ≤ k
    · rw [if_pos h2, if_pos h2]
      refine ⟨by simp, fun _ b => ?_, by simp⟩
      rw [if_neg (by omega)]
      simp [eq_comm]
    · rw [if_neg h2, if_neg h2]
      exact ⟨by simp, fun h => absurd rfl h, by simp⟩
theorem swhole_is (b : List UInt8) : scalar_whole b = some (if fits5 0 b then ((rd b).1, 0) else (0, 12)) := by
  unfold scalar_whole fits5
  rw [read_is, sb, if_pos rfl]
  by_cases h : (rd b).2.2 = 0 ∧ (rd b).2.1 = (b.length : Int)
  · rw [itF (by simp [h.1, h.2]), if_pos (by simpa using h)]
  · rw [itT (by simp; omega), if_neg (by simpa using h)]
theorem splain_is (k : Int) (b : List UInt8) : scalar_plain k b = some (if kNum k = false then (0, 2) else if fits5 (kWire k) b = false then (0, 12) else (rawW k b, 0)) := by
  unfold scalar_plain
  rw [swidth_is, sb]
  cases hn : kNum k with
  | false => rw [if_pos rfl]; rfl
  | true =>
    obtain ⟨e0, ef, _⟩ := kWire_wid hn
    simp only [if_true]
    rw [itF (by simp), if_neg (show ¬ (true = false) by simp)]
    by_cases h0 : wid k = 0
    · have hw := e0.2 h0
      rw [itT (by simp [h0]), swhole_is, sb, hw]
      unfold rawW
      cases hf : fits5 0 b with
      | true => simp [hw]
      | false => simp
    · rw [itF (by simpa using h0), ef h0]
      by_cases hl : wid k = b.length
      · rw [itF (by simp; omega), word_is, sb, if_neg (by simpa using hl)]
        unfold rawW
        rw [if_neg (fun h => h0 (e0.1 h))]
      · rw [itT (by simp; omega), if_pos (by simpa using hl)]
theorem sread_is (k : Int) (b : List UInt8) : scalar_Read k b = some (sRead k b) := by
  unfold scalar_Read sRead
  rw [splain_is, sb]
  cases hn : kNum k with
  | false => rfl
  | true =>
    simp only [ite_tf]
    cases hf : fits5 (kWire k) b with
    | false => rfl
    | true =>
      simp only [ite_tf]
      rw [itF (by rfl), kcanon_is k (rawW_bd k), sb, hn, if_pos rfl]
theorem sput_is {k w : Int} (h : 0 ≤ w ∧ w ≤ 18446744073709551615) : scalar_Put k w = some (if kNum k then (sPut k w, 0) else ([], 2)) := by
  have hc := canon_bd k h
  obtain ⟨c, hcc⟩ : ∃ c : Nat, canonS k w = c := ⟨(canonS k w).toNat, by omega⟩
  unfold scalar_Put
  rw [swidth_is, sb]
  cases hn : kNum k with
  | false => rfl
  | true =>
    simp only [if_true]
    rw [itF (by rfl), kcanon_is k h, sb, hn]
    simp only [if_true]
    rw [hcc]
    unfold sPut sBytes
    rw [hcc, Int.toNat_natCast]
    unfold wid
    by_cases h1 : 12 ≤ k
    · rw [if_pos h1, if_pos h1, itF (by rfl), little_is, sb]; rfl
    · rw [if_neg h1, if_neg h1]
      by_cases h2 : 9 ≤ k
      · rw [if_pos h2, if_pos h2, itF (by rfl), little_is, sb]; rfl
      · rw [if_neg h2, if_neg h2, itT (by rfl), put_is [] (by omega) (by simp), sb, List.nil_append]
theorem ssize_is {k w : Int} (h : 0 ≤ w ∧ w ≤ 18446744073709551615) : scalar_Size k w = some (if kNum k then ((sPut k w).length : Int) else 0) := by
  have hc := canon_bd k h
  obtain ⟨c, hcc⟩ : ∃ c : Nat, canonS k w = c := ⟨(canonS k w).toNat, by omega⟩
  unfold scalar_Size
  rw [swidth_is, sb]
  cases hn : kNum k with
  | false => rfl
  | true =>
    simp only [if_true]
    unfold sPut sBytes
    rw [hcc, Int.toNat_natCast]
    unfold wid
    by_cases h1 : 12 ≤ k
    · rw [if_pos h1, if_pos h1, itT (by rfl), little_length]
    · rw [if_neg h1, if_neg h1]
      by_cases h2 : 9 ≤ k
      · rw [if_pos h2, if_pos h2, itT (by rfl), little_length]
      · rw [if_neg h2, if_neg h2, itF (by rfl), kcanon_is k h, sb, hn]
        simp only [if_true]
        rw [hcc, len_is (by omega), sb, enc_len]
theorem sput_raw {k : Int} (hk : kNum k = true) {b : List UInt8} (hf : fits5 (kWire k) b = true) : (rawW k b = canonS k (rawW k b) ∧ (sPut k (rawW k b)).length = b.length) ↔ sPut k (rawW k b) = b := by
  have hbd := rawW_bd k (b := b)
  have hc := canon_bd k hbd
  obtain ⟨e0, ef, hcs⟩ := kWire_wid hk
  obtain ⟨c, hcc⟩ : ∃ c : Nat, rawW k b = c := ⟨(rawW k b).toNat, by omega⟩
  constructor
  · rintro ⟨h1, h2⟩
    rw [hcc] at h1 h2 ⊢
    have hs : sPut k (c : Int) = sBytes k c := by unfold sPut; rw [← h1, Int.toNat_natCast]
    rw [hs] at h2 ⊢
    by_cases h0 : wid k = 0
    · have hw := e0.2 h0
      have : sBytes k c = enc c := by
        unfold sBytes
        unfold wid at h0
        by_cases h12 : 12 ≤ k
        · rw [if_pos h12] at h0; omega
        · rw [if_neg h12] at h0 ⊢
          by_cases h9 : 9 ≤ k
          · rw [if_pos h9] at h0; omega
          · rw [if_neg h9]
      rw [this] at h2 ⊢
      rw [hw] at hf
      unfold fits5 at hf
      rw [if_pos rfl] at hf
      have hf' := of_decide_eq_true hf
      have : (rd b).1 = (c : Int) := by unfold rawW at hcc; rw [if_pos hw] at hcc; exact hcc
      exact (enc_rd this hf'.1 hf'.2).2 h2
    · have hl : wid k = b.length := by have := ef h0 b; rw [hf] at this; exact of_decide_eq_true this.symm
      have hw : word b = c := by
        unfold rawW at hcc
        rw [if_neg (fun h => h0 (e0.1 h)), List.take_of_length_le (by omega)] at hcc
        omega
      have hb := little_word b
      rw [hw, ← hl] at hb
      unfold sBytes
      unfold wid at h0 hb
      by_cases h12 : 12 ≤ k
      · rw [if_pos h12] at hb ⊢; exact hb
      · rw [if_neg h12] at h0 hb ⊢
        by_cases h9 : 9 ≤ k
        · rw [if_pos h9] at hb ⊢; exact hb
        · rw [if_neg h9] at h0; exact absurd rfl h0
  · intro e
    refine ⟨?_, by rw [e]⟩
    have h1 := sRead_sPut hk hbd
    rw [e] at h1
    unfold sRead at h1
    rw [hk, if_neg (by simp), hf, if_neg (by simp)] at h1
    have h32 := fun h9 h12 => canon_32 (k := k) (w := rawW k b) h9 h12
    have h2 := raw_sBytes hk (c := (canonS k (rawW k b)).toNat) (by omega) (fun h9 h12 => by have := h32 h9 h12; omega)
    have h3 : sBytes k (canonS k (rawW k b)).toNat = b := e
    rw [h3] at h2
    omega
def sCanon (k : Int) (b : List UInt8) : Bool := decide ((sRead k b).2 = 0 ∧ sPut k (sRead k b).1 = b)
theorem scanon_is (k : Int) (b : List UInt8) (hb : b.length ≤ 1152921504606846976) : scalar_Canonical k b = some (sCanon k b) := by
  have hbd := rawW_bd k (b := b)
  unfold scalar_Canonical sCanon sRead
  rw [splain_is, sb]
  cases hn : kNum k with
  | false => rfl
  | true =>
    simp only [ite_tf]
    cases hf : fits5 (kWire k) b with
    | false => rfl
    | true =>
      simp only [ite_tf]
      rw [itF (by rfl), kcanon_is k hbd, sb, hn]
      simp only [if_true]
      rw [ssize_is hbd, sb, hn, if_pos rfl, sPut_canon hbd]
      have hraw := sput_raw hn hf
      have e : (if (rawW k b == canonS k (rawW k b)) = true then some ((b.length : Int) == ((sPut k (rawW k b)).length : Int)) else some false) = some (decide (rawW k b = canonS k (rawW k b) ∧ (sPut k (rawW k b)).length = b.length)) := by
        by_cases h1 : rawW k b = canonS k (rawW k b)
        · rw [itT (by simpa using h1)]
          congr 1
          rw [beq_nat]
          exact decide_eq_decide.2 ⟨fun h => ⟨h1, h.symm⟩, fun h => h.2.symm⟩
        · rw [itF (by simpa using h1), decide_eq_false (fun h => h1 h.1)]
      rw [e, sb]
      congr 1
      exact decide_eq_decide.2 ⟨fun h => ⟨trivial, hraw.1 h⟩, fun h => hraw.2 h.2⟩
end Go.Proofs.Ythkdneddbbocmaa
namespace Go.Proofs.Ythkdneddbbocmaa
open Go
theorem drop_cons {α : Type} {l t : List α} {x : α} {k : Nat} (h : l.drop k = x :: t) : ∃ hk : k < l.length, l[k] = x ∧ l.drop (k + 1) = t := by
  have hk : k < l.length := by
    rcases Nat.lt_or_ge k l.length with h' | h'
    · exact h'
    · rw [List.drop_eq_nil_of_le h'] at h; cases h
  rw [List.drop_eq_getElem_cons hk] at h
  injection h with h1 h2
  exact ⟨hk, h1, h2⟩
theorem concat_loop1 (l : List (List UInt8)) (hl : l.length ≤ 1099511627776) : ∀ (t : List (List UInt8)) (k s : Nat), l.drop k = t → s + t.flatten.length ≤ 1099511627776 →
    slices_Concat___byte_byte__l1 l s k = some ((s + t.flatten.length : Nat) : Int) := by
  intro t
  induction t with
  | nil =>
    intro k s hd _
    have hk : l.length ≤ k := by have := congrArg List.length hd; simp at this; omega
    refine slices_Concat___byte_byte__l1_inr ?_
    unfold slices_Concat___byte_byte__b1
    rw [itF (by simp; omega)]
    simp
  | cons x t ih =>
    intro k s hd hs
    obtain ⟨hk, hx, hd'⟩ := drop_cons hd
    simp only [List.flatten_cons, List.length_append] at hs
    refine (slices_Concat___byte_byte__l1_inl (size' := ((s + x.length : Nat) : Int)) (v' := ((k + 1 : Nat) : Int)) ?_).trans ?_
    · unfold slices_Concat___byte_byte__b1
      rw [itT (by simp; omega), idx_of rfl hk, sb, hx, wrap_i64 (by omega), itF (by simp; omega), wrap_i64 (by omega)]
      push_cast; rfl
    · rw [ih _ _ hd' (by omega)]
      simp only [List.flatten_cons, List.length_append]
      congr 2; omega
theorem concat_loop2 (l : List (List UInt8)) (hl : l.length ≤ 1099511627776) : ∀ (t : List (List UInt8)) (k : Nat) (acc : List UInt8), l.drop k = t → acc.length + t.flatten.length ≤ 1099511627776 →
    slices_Concat___byte_byte__l2 l acc k = some (acc ++ t.flatten) := by
  intro t
  induction t with
  | nil =>
    intro k acc hd _
    have hk : l.length ≤ k := by have := congrArg List.length hd; simp at this; omega
    refine slices_Concat___byte_byte__l2_inr ?_
    unfold slices_Concat___byte_byte__b2
    rw [itF (by simp; omega)]
    simp
  | cons x t ih =>
    intro k acc hd hs
    obtain ⟨hk, hx, hd'⟩ := drop_cons hd
    simp only [List.flatten_cons, List.length_append] at hs
    refine (slices_Concat___byte_byte__l2_inl (newslice' := acc ++ x) (v2' := ((k + 1 : Nat) : Int)) ?_).trans ?_
    · unfold slices_Concat___byte_byte__b2
      rw [itT (by simp; omega), idx_of rfl hk, sb, hx, app_of (by omega), sb, wrap_i64 (by omega)]
      push_cast; rfl
    · rw [ih _ _ hd' (by rw [List.length_append]; omega)]
      simp
theorem grow_is {n : Nat} (h : n ≤ 1099511627776) : slices_Grow___byte_byte_ (n : Int) = some [] := by
  unfold slices_Grow___byte_byte_
  have e : IntKind.i64.wrap ((n : Int) - IntKind.i64.wrap (0 - 0)) = n := by rw [wrap_i64 (x := 0 - 0) (by omega), wrap_i64 (by omega)]; omega
  rw [itF (by simp), e]
  by_cases h0 : (n : Int) > 0
  · rw [itT (by simpa using h0), mkO_of (a := n) rfl (Int.le_refl _) (by omega), sb]
    have e0 : cut (List.replicate n (0 : UInt8)) 0 0 = some [] := cut_take (b := 0) rfl (Nat.zero_le _)
    rw [e0, sb]
  · rw [itF (by simpa using h0)]
theorem concat_is {l : List (List UInt8)} (hl : l.length ≤ 1099511627776) (h : l.flatten.length ≤ 1099511627776) : slices_Concat___byte_byte_ l = some l.flatten := by
  unfold slices_Concat___byte_byte_
  have h1 := concat_loop1 l hl l 0 0 rfl (by omega)
  have h1' : slices_Concat___byte_byte__l1 l 0 0 = _ := h1
  have h2 := concat_loop2 l hl l 0 [] rfl (by simpa using h)
  have h2' : slices_Concat___byte_byte__l2 l [] 0 = _ := h2
  rw [h1', sb, grow_is (by omega), sb, h2', sb]
  simp
end Go.Proofs.Ythkdneddbbocmaa
namespace Go.Proofs.Ythkdneddbbocmaa
open Go
set_option linter.unusedVariables false
def wid9 (k : Int) : Int := if kNum k then (if 12 ≤ k then 8 else if 9 ≤ k then 4 else 1) else 0
theorem sPut_zero_len {k : Int} (hk : kNum k = true) : (((sPut k 0).length : Nat) : Int) = (if 12 ≤ k then 8 else if 9 ≤ k then 4 else 1) := by
  have hk' := kNum_iff.1 hk
  have hc : (canonS k 0).toNat = 0 := by
    have : k = 1 ∨ k = 2 ∨ k = 3 ∨ k = 4 ∨ k = 5 ∨ k = 6 ∨ k = 7 ∨ k = 8 ∨ k = 9 ∨ k = 10 ∨ k = 11 ∨ k = 12 ∨ k = 13 ∨ k = 14 := by omega
    rcases this with h | h | h | h | h | h | h | h | h | h | h | h | h | h <;> subst h <;> decide
  unfold sPut
  rw [hc]
  unfold sBytes
  by_cases h1 : 12 ≤ k
  · rw [if_pos h1, if_pos h1, little_length]; rfl
  · rw [if_neg h1, if_neg h1]
    by_cases h2 : 9 ≤ k
    · rw [if_pos h2, if_pos h2, little_length]; rfl
    · rw [if_neg h2, if_neg h2, enc_len]
      simp [lenN]
theorem rwidth_is (k : Int) : run_width k = some (wid9 k) := by
  unfold run_width wid9
  rw [ssize_is (by omega), sb]
  cases hk : kNum k with
  | false => rfl
  | true => simp only [if_true]; rw [sPut_zero_len hk]
theorem wid9_of {k : Int} (hk : kNum k = true) : (k < 9 → wid9 k = 1) ∧ (¬ k < 9 → k < 12 → wid9 k = 4) ∧ (¬ k < 12 → wid9 k = 8) := by
  unfold wid9
  rw [hk, if_pos rfl]
  refine ⟨fun h => ?_, fun h1 h2 => ?_, fun h => ?_⟩
  · rw [if_neg (show ¬ 12 ≤ k by omega), if_neg (show ¬ 9 ≤ k by omega)]
  · rw [if_neg (show ¬ 12 ≤ k by omega), if_pos (show 9 ≤ k by omega)]
  · rw [if_pos (show 12 ≤ k by omega)]
theorem wid9_not {k : Int} (hk : kNum k = false) : wid9 k = 0 := by unfold wid9; rw [hk]; rfl
theorem wid9_ne {k : Int} (hk : kNum k = true) : (wid9 k == 0) = false := by
  obtain ⟨h1, h2, h3⟩ := wid9_of hk
  by_cases h9 : k < 9
  · rw [h1 h9]; rfl
  · by_cases h12 : k < 12
    · rw [h2 h9 h12]; rfl
    · rw [h3 h12]; rfl
theorem rfirst_is {k : Int} (hk : kNum k = true) (b : List UInt8) : run_first (wid9 k) b = some (match unit9 k b with | .inl c => (0, c) | .inr n => ((n : Int), 0)) := by
  obtain ⟨w1, w2, w3⟩ := wid9_of hk
  unfold run_first unit9
  by_cases h9 : k < 9
  · rw [w1 h9, itT (by rfl), skip_is, sb, if_pos h9]
    rcases rd_cases b with h | ⟨h, _⟩ | ⟨x, c, y, e, hx, hc, hl, hv, h⟩
    · rw [h]; rfl
    · rw [h]; rfl
    · rw [h, if_neg (by simp)]; simp
  · rw [if_neg h9]
    by_cases h12 : k < 12
    · rw [w2 h9 h12, itF (by rfl), if_pos h12]
      by_cases hl : b.length < 4
      · rw [itT (by simp; omega), if_pos hl]
      · rw [itF (by simp; omega), if_neg hl]; rfl
    · rw [w3 h12, itF (by rfl), if_neg h12]
      by_cases hl : b.length < 8
      · rw [itT (by simp; omega), if_pos hl]
      · rw [itF (by simp; omega), if_neg hl]; rfl
def vals9 (k : Int) (b : List UInt8) : List (List UInt8) × Int := if kNum k = false then ([], 2) else pcs k b
def go9 {σ ρ : Type} (kb : σ → (List UInt8 × Int) → Option (σ ⊕ ρ)) : List (List UInt8) → Int → σ → Option (σ ⊕ ρ)
  | [], c, s => if c = 0 then some (.inl s) else kb s ([], c)
  | p :: ps, c, s => match kb s (p, 0) with
    | some (.inl s') => go9 kb ps c s'
    | some (.inr r) => some (.inr r)
    | none => none
theorem rnd_of {σ ρ χ : Type} {kb : σ → χ → Option (σ ⊕ ρ)} {s : σ} {x : χ} {o : σ ⊕ ρ} (h : kb s x = some o) : ∃ c, rnd kb (.inl s) x = some (c, o) ∧ (c = true ∧ (∃ s', o = .inl s') ∨ c = false ∧ ∃ r, o = .inr r) := by
  cases o with
  | inl s' => exact ⟨true, by simp only [rnd, h], .inl ⟨rfl, s', rfl⟩⟩
  | inr r => exact ⟨false, by simp only [rnd, h], .inr ⟨rfl, r, rfl⟩⟩
theorem walk9 {σ ρ : Type} (kb : σ → (List UInt8 × Int) → Option (σ ⊕ ρ)) {k : Int} (hk : kNum k = true) (b : List UInt8) : ∀ (s : σ) (o : σ ⊕ ρ), go9 kb (pcs k b).1 (pcs k b).2 s = some o →
    ∃ q, run_values_1_l1 (rnd kb) (wid9 k) b (.inl s) = some q ∧ (q = .inl o ∨ q = .inr o) := by
  refine pcs_ind k (fun b => ∀ (s : σ) (o : σ ⊕ ρ), go9 kb (pcs k b).1 (pcs k b).2 s = some o →
    ∃ q, run_values_1_l1 (rnd kb) (wid9 k) b (.inl s) = some q ∧ (q = .inl o ∨ q = .inr o)) ?_ ?_ ?_ b
  · intro s o h
    rw [pcs_nil] at h
    have h' : some (.inl s) = some o := h
    refine ⟨.inl o, run_values_1_l1_inr ?_, .inl rfl⟩
    unfold run_values_1_b1
    rw [itF (by rfl), ← Option.some.inj h']
  · intro l c hl hu hc s o h
    rw [pcs_err hl hu] at h
    have h' : kb s ([], c) = some o := by
      have h2 : (if c = 0 then some (.inl s) else kb s ([], c)) = some o := h
      rwa [if_neg (by omega)] at h2
    obtain ⟨t, ht, _⟩ := rnd_of h'
    refine ⟨.inr o, run_values_1_l1_inr ?_, .inr rfl⟩
    have hp := List.length_pos_iff.2 hl
    unfold run_values_1_b1
    rw [itT (by simp; omega), rfirst_is hk, sb, hu]
    simp only
    rw [cut_of (i := 0) (j := 0) (a := 0) (b := 0) rfl rfl (Nat.le_refl _) (Nat.zero_le _), sb]
    simp only [List.drop_zero, Nat.sub_self, List.take_zero]
    rw [ht, sb, itT (by simp; omega)]
  · intro l n hl hu g1 g2 g3 ih s o h
    rw [pcs_cons hl hu] at h
    have hp := List.length_pos_iff.2 hl
    have hbody : ∀ {t : Bool} {y : σ ⊕ ρ}, rnd kb (.inl s) (l.take n, 0) = some (t, y) → run_values_1_b1 (rnd kb) (wid9 k) l (.inl s) = (if t then some (.inl (l.drop n, y)) else some (.inr (.inr y))) := by
      intro t y ht
      unfold run_values_1_b1
      rw [itT (by simp; omega), rfirst_is hk, sb, hu]
      simp only
      rw [cut_of (i := 0) (j := (n : Int)) (a := 0) (b := n) rfl rfl (Nat.zero_le _) g2, sb]
      simp only [List.drop_zero, Nat.sub_zero]
      rw [ht, sb]
      cases t with
      | false => rw [itT (by rfl)]; rfl
      | true => rw [itF (by rfl), cut_drop (a := n) rfl rfl g2, sb]; rfl
    simp only [go9] at h
    cases hb : kb s (l.take n, 0) with
    | none => rw [hb] at h; cases h
    | some z =>
      rw [hb] at h
      obtain ⟨t, ht, hcase⟩ := rnd_of hb
      have hB := hbody ht
      rcases hcase with ⟨rfl, s', rfl⟩ | ⟨rfl, r, rfl⟩
      · obtain ⟨q, hq, hq'⟩ := ih s' o h
        exact ⟨q, by rw [run_values_1_l1_inl hB]; exact hq, hq'⟩
      · have h' : some (.inr r) = some o := h
        exact ⟨.inr (.inr r), run_values_1_l1_inr hB, .inr (by rw [Option.some.inj h'])⟩
theorem walk_is {σ ρ : Type} (kb : σ → (List UInt8 × Int) → Option (σ ⊕ ρ)) (k : Int) (b : List UInt8) {s : σ} {o : σ ⊕ ρ} (h : go9 kb (vals9 k b).1 (vals9 k b).2 s = some o) : run_values_1 k b (rnd kb) (.inl s) = some o := by
  unfold run_values_1
  rw [rwidth_is, sb]
  unfold vals9 at h
  cases hk : kNum k with
  | false =>
    rw [hk, if_pos rfl] at h
    have h' : kb s ([], 2) = some o := h
    obtain ⟨t, ht, _⟩ := rnd_of h'
    rw [wid9_not hk, itT (by rfl), ht, sb]
  | true =>
    rw [hk, if_neg (by simp)] at h
    have hw := wid9_ne hk
    obtain ⟨q, hq, hq'⟩ := walk9 kb hk b s o h
    rw [itF hw, hq, sb]
    rcases hq' with rfl | rfl <;> rfl
theorem vals_words (k : Int) (b : List UInt8) : (vals9 k b).2 = (wordsS k b).2 ∧ ((wordsS k b).2 = 0 → (vals9 k b).1 = (pcs k b).1) ∧ (∀ p ∈ (vals9 k b).1, fits5 (kWire k) p = true ∧ 1 ≤ p.length ∧ p.length ≤ 10) ∧ (vals9 k b).1.length ≤ b.length ∧ ((vals9 k b).1 = [] ∨ kNum k = true) := by
  unfold vals9 wordsS
  by_cases hn : kNum k = false
  · rw [if_pos hn, if_pos hn]; exact ⟨rfl, fun h => by simp at h, (fun p hp => by cases hp), Nat.zero_le _, .inl rfl⟩
  · have hk : kNum k = true := by simpa using hn
    rw [if_neg hn, if_neg hn]
    refine ⟨?_, fun _ => rfl, pcs_fits hk b, pcs_len k b, .inr hk⟩
    by_cases h0 : (pcs k b).2 = 0
    · rw [if_pos h0]; exact h0
    · rw [if_neg h0]
theorem words_go {k : Int} (hk : kNum k = true) (c : Int) : ∀ (ps : List (List UInt8)) (acc : List Int), (∀ p ∈ ps, fits5 (kWire k) p = true ∧ 1 ≤ p.length ∧ p.length ≤ 10) → acc.length + ps.length ≤ 1048576 →
    go9 (fun (s : List Int) (x : List UInt8 × Int) => run_Words_r1 k s x.1 x.2) ps c acc = some (if c = 0 then .inl (acc ++ ps.map (wordOf k)) else .inr (c, acc ++ ps.map (wordOf k)))
  | [], acc, _, hl => by
    simp only [go9, List.map_nil, List.append_nil]
    by_cases h0 : c = 0
    · rw [if_pos h0, if_pos h0]
    · rw [if_neg h0, if_neg h0]; unfold run_Words_r1; rw [itT (by simpa using h0)]
  | p :: ps, acc, hf, hl => by
    simp only [List.length_cons] at hl
    have h1 : run_Words_r1 k acc p 0 = some (.inl (acc ++ [wordOf k p])) := by
      unfold run_Words_r1
      rw [itF (by rfl), sread_is, sb, sRead_piece hk (hf p List.mem_cons_self).1, app_of (by simp; omega), sb]
    simp only [go9, h1]
    rw [words_go hk c ps _ (fun q hq => hf q (List.mem_cons_of_mem _ hq)) (by simp; omega)]
    simp
theorem rwords_is (k : Int) {b : List UInt8} (hb : b.length ≤ 1048576) : run_Words k b = some (wordsS k b) := by
  obtain ⟨h1, h2, h3, h4, h5⟩ := vals_words k b
  unfold run_Words run_values
  rw [sb]
  simp only
  have hgo : go9 (fun (s : List Int) (x : List UInt8 × Int) => run_Words_r1 k s x.1 x.2) (vals9 k b).1 (vals9 k b).2 [] = some (if (vals9 k b).2 = 0 then .inl ([] ++ (vals9 k b).1.map (wordOf k)) else .inr ((vals9 k b).2, [] ++ (vals9 k b).1.map (wordOf k))) := by
    rcases h5 with h5 | h5
    · rw [h5]
      simp only [go9, List.map_nil, List.append_nil]
      by_cases h0 : (vals9 k b).2 = 0
      · rw [if_pos h0, if_pos h0]
      · rw [if_neg h0, if_neg h0]; unfold run_Words_r1; rw [itT (by simpa using h0)]
    · exact words_go h5 _ _ _ h3 (by simp; omega)
  rw [walk_is _ k b hgo, sb, h1]
  by_cases h0 : (wordsS k b).2 = 0
  · rw [if_pos h0, h2 h0]
    simp only [List.nil_append]
    rw [← (wordsS_zero h0).2.2, ← h0]
  · rw [if_neg h0]
    simp only
    rw [← (wordsS_bad h0).1]
theorem count_go (c : Int) : ∀ (ps : List (List UInt8)) (n : Nat), n + ps.length ≤ 1048576 →
    go9 (fun (s : Int) (x : List UInt8 × Int) => run_Count_r1 s x.1 x.2) ps c (n : Int) = some (if c = 0 then .inl ((n + ps.length : Nat) : Int) else .inr (c, ((n + ps.length : Nat) : Int)))
  | [], n, hl => by
    simp only [go9, List.length_nil, Nat.add_zero]
    by_cases h0 : c = 0
    · rw [if_pos h0, if_pos h0]
    · rw [if_neg h0, if_neg h0]; unfold run_Count_r1; rw [itT (by simpa using h0)]
  | p :: ps, n, hl => by
    simp only [List.length_cons] at hl
    have h1 : run_Count_r1 (n : Int) p 0 = some (.inl ((n + 1 : Nat) : Int)) := by
      unfold run_Count_r1
      rw [itF (by rfl), wrap_i64 (by omega)]; rfl
    simp only [go9, h1]
    rw [count_go c ps (n + 1) (by omega)]
    simp only [List.length_cons]
    rw [Nat.add_right_comm, Nat.add_assoc]
theorem rcount_is (k : Int) {b : List UInt8} (hb : b.length ≤ 1048576) : run_Count k b = some (((wordsS k b).1.length : Int), (wordsS k b).2) := by
  obtain ⟨h1, h2, h3, h4, h5⟩ := vals_words k b
  unfold run_Count run_values
  rw [sb]
  simp only
  have hgo := count_go (vals9 k b).2 (vals9 k b).1 0 (by omega)
  rw [walk_is (s := (0 : Int)) _ k b hgo, sb, h1]
  by_cases h0 : (wordsS k b).2 = 0
  · rw [if_pos h0, h2 h0]
    simp only
    rw [(wordsS_zero h0).2.2, h0]
    simp
  · rw [if_neg h0]
    simp only
    rw [(wordsS_bad h0).1]
    rfl
theorem behind_go (c n : Int) : ∀ (ps : List (List UInt8)) (pl m : Nat), (∀ p ∈ ps, p.length ≤ 10) → m + ps.length ≤ 1048576 → pl ≤ 10 * m →
    go9 (fun (s : Int × Int) (x : List UInt8 × Int) => run_behind_r1 n s.1 s.2 x.1 x.2) ps c ((pl : Int), (m : Int)) = some (if c = 0 then .inl (((pl + (ps.take (n - m).toNat).flatten.length : Nat) : Int), ((m + ps.length : Nat) : Int)) else .inr (c, ((pl + (ps.take (n - m).toNat).flatten.length : Nat) : Int), ((m + ps.length : Nat) : Int)))
  | [], pl, m, hf, hl, hpl => by
    simp only [go9, List.length_nil, Nat.add_zero, List.take_nil, List.flatten_nil]
    by_cases h0 : c = 0
    · rw [if_pos h0, if_pos h0]
    · rw [if_neg h0, if_neg h0]; unfold run_behind_r1; rw [itT (by simpa using h0)]
  | p :: ps, pl, m, hf, hl, hpl => by
    simp only [List.length_cons] at hl
    have hp := hf p List.mem_cons_self
    have h1 : run_behind_r1 n (pl : Int) (m : Int) p 0 = some (.inl (((if (m : Int) < n then pl + p.length else pl : Nat) : Int), ((m + 1 : Nat) : Int))) := by
      unfold run_behind_r1
      rw [itF (by rfl)]
      by_cases hm : (m : Int) < n
      · rw [itT (by simpa using hm), if_pos hm, wrap_i64 (by omega), wrap_i64 (by omega)]; rfl
      · rw [itF (by simpa using hm), if_neg hm, wrap_i64 (by omega)]; rfl
    simp only [go9, h1]
    rw [behind_go c n ps _ (m + 1) (fun q hq => hf q (List.mem_cons_of_mem _ hq)) (by omega) (by split <;> omega)]
    have e1 : m + 1 + ps.length = m + (p :: ps).length := by simp; omega
    have e2 : (if (m : Int) < n then pl + p.length else pl) + (ps.take (n - ((m + 1 : Nat) : Int)).toNat).flatten.length = pl + ((p :: ps).take (n - m).toNat).flatten.length := by
      by_cases hm : (m : Int) < n
      · obtain ⟨d, hd⟩ : ∃ d : Nat, (n - m).toNat = d + 1 := ⟨(n - m).toNat - 1, by omega⟩
        have hd' : (n - ((m + 1 : Nat) : Int)).toNat = d := by omega
        rw [if_pos hm, hd, hd']
        simp; omega
      · have hd : (n - m).toNat = 0 := by omega
        have hd' : (n - ((m + 1 : Nat) : Int)).toNat = 0 := by omega
        rw [if_neg hm, hd, hd']
        simp
    rw [e1, e2]
theorem rbehind_is (k : Int) {b : List UInt8} (n : Int) (hb : b.length ≤ 1048576) : run_behind k b n = some (if (wordsS k b).2 ≠ 0 then (0, (wordsS k b).2) else if n < 0 ∨ n > (pcs k b).1.length then (0, 11) else ((((pcs k b).1.take n.toNat).flatten.length : Int), 0)) := by
  obtain ⟨h1, h2, h3, h4, h5⟩ := vals_words k b
  unfold run_behind run_values
  rw [sb]
  simp only
  have hgo := behind_go (vals9 k b).2 n (vals9 k b).1 0 0 (fun p hp => (h3 p hp).2.2) (by omega) (by omega)
  rw [walk_is (s := ((0 : Int), (0 : Int))) _ k b hgo, sb, h1]
  by_cases h0 : (wordsS k b).2 = 0
  · rw [if_pos h0, h2 h0, if_neg (by simp [h0])]
    simp only [Nat.zero_add]
    by_cases hn : n < 0 ∨ n > (pcs k b).1.length
    · rw [if_pos hn, itT (by simpa using hn)]
    · have hn' : (decide (n < 0) || decide (n > ((pcs k b).1.length : Int))) = false := by
        rw [Bool.or_eq_false_iff]; exact ⟨decide_eq_false (by omega), decide_eq_false (by omega)⟩
      rw [if_neg hn, itF hn']
      simp
  · rw [if_neg h0, if_pos h0]
theorem take_flat_le (ps : List (List UInt8)) (n : Nat) : (ps.take n).flatten.length ≤ ps.flatten.length := by
  have e : ps.flatten = (ps.take n).flatten ++ (ps.drop n).flatten := by rw [← List.flatten_append, List.take_append_drop]
  rw [e, List.length_append]; omega
theorem flat_split (ps : List (List UInt8)) (n : Nat) : ps.flatten.take (ps.take n).flatten.length = (ps.take n).flatten ∧ ps.flatten.drop (ps.take n).flatten.length = (ps.drop n).flatten := by
  have e : ps.flatten = (ps.take n).flatten ++ (ps.drop n).flatten := by rw [← List.flatten_append, List.take_append_drop]
  rw [e]
  exact ⟨List.take_left, List.drop_left⟩
theorem rcut_is (k : Int) {b : List UInt8} (n : Int) (hb : b.length ≤ 1048576) : run_Cut k b n = some (cut9 k b n) := by
  unfold run_Cut cut9
  rw [rbehind_is k n hb, sb]
  by_cases h0 : (wordsS k b).2 = 0
  · have h0' : ¬ (wordsS k b).2 ≠ 0 := by simp [h0]
    rw [if_neg h0', if_neg h0']
    by_cases hn : n < 0 ∨ n > (pcs k b).1.length
    · rw [if_pos hn, if_pos hn, itT (show (((0 : Int), (11 : Int)).2 != 0) = true from rfl)]
    · have hfl := pcs_flat k b (wordsS_zero h0).2.1
      obtain ⟨e1, e2⟩ := flat_split (pcs k b).1 n.toNat
      have hle := take_flat_le (pcs k b).1 n.toNat
      rw [hfl] at e1 e2 hle
      obtain ⟨N, hN⟩ : ∃ N, N = ((pcs k b).1.take n.toNat).flatten.length := ⟨_, rfl⟩
      rw [← hN] at e1 e2 hle
      rw [if_neg hn, if_neg hn, ← hN, itF (show (((N : Int), (0 : Int)).2 != 0) = false from rfl)]
      simp only
      rw [cut_of (i := 0) (j := (N : Int)) (a := 0) (b := N) rfl rfl (Nat.zero_le _) hle, sb]
      simp only [List.drop_zero, Nat.sub_zero]
      have hl2 : (((pcs k b).1.drop n.toNat).flatten).length ≤ b.length := by rw [← e2]; simp
      have hl1 : (((pcs k b).1.take n.toNat).flatten).length ≤ b.length := by rw [← hN]; exact hle
      rw [e1, concat_is (by simp) (by simp only [List.flatten_cons, List.flatten_nil, List.append_nil]; omega), sb, cut_drop (i := (N : Int)) (a := N) rfl rfl hle, sb, e2, concat_is (by simp) (by simp only [List.flatten_cons, List.flatten_nil, List.append_nil]; omega), sb]
      simp only [List.flatten_cons, List.flatten_nil, List.append_nil]
  · rw [if_pos h0, if_pos h0, itT (show (((0 : Int), (wordsS k b).2).2 != 0) = true by simpa using h0)]
theorem pcs_drop (k : Int) (b : List UInt8) : ∀ (n : Nat), (pcs k b).2 = 0 → pcs k (b.drop ((pcs k b).1.take n).flatten.length) = ((pcs k b).1.drop n, 0) := by
  refine pcs_ind k (fun b => ∀ (n : Nat), (pcs k b).2 = 0 → pcs k (b.drop ((pcs k b).1.take n).flatten.length) = ((pcs k b).1.drop n, 0)) ?_ ?_ ?_ b
  · intro n _; rw [pcs_nil]; simp [pcs_nil]
  · intro l c hl h hc n h2; rw [pcs_err hl h] at h2; simp only at h2; omega
  · intro l m hl h g1 g2 _ ih n h2
    have hh := pcs_cons hl h
    have h2' : (pcs k (l.drop m)).2 = 0 := by rw [hh] at h2; exact h2
    cases n with
    | zero => rw [List.take_zero, List.drop_zero]; simp only [List.flatten_nil, List.length_nil, List.drop_zero]; rw [← h2]
    | succ n =>
      rw [hh]
      simp only [List.take_succ_cons, List.flatten_cons, List.length_append, List.drop_succ_cons, List.length_take, Nat.min_eq_left g2]
      rw [← List.drop_drop]
      exact ih n h2'
theorem rat_is (k : Int) {b : List UInt8} (i : Int) (hb : b.length ≤ 1048576) : run_At k b i = some (at9 k b i) := by
  unfold run_At at9
  rw [rbehind_is k i hb, sb]
  by_cases h0 : (wordsS k b).2 = 0
  · obtain ⟨hk, hp0, hw⟩ := wordsS_zero h0
    have h0' : ¬ (wordsS k b).2 ≠ 0 := by simp [h0]
    have hlen : (wordsS k b).1.length = (pcs k b).1.length := by rw [hw, List.length_map]
    rw [if_neg h0', if_neg h0', hlen]
    by_cases hn : i < 0 ∨ i > (pcs k b).1.length
    · rw [if_pos hn, if_pos (show i < 0 ∨ i ≥ ((pcs k b).1.length : Int) by omega), itT (show (((0 : Int), (11 : Int)).2 != 0) = true from rfl)]
    · have hfl := pcs_flat k b hp0
      obtain ⟨e1, e2⟩ := flat_split (pcs k b).1 i.toNat
      have hle := take_flat_le (pcs k b).1 i.toNat
      rw [hfl] at e1 e2 hle
      have hd := pcs_drop k b i.toNat hp0
      obtain ⟨N, hN⟩ : ∃ N, N = ((pcs k b).1.take i.toNat).flatten.length := ⟨_, rfl⟩
      rw [← hN] at e1 e2 hle hd
      rw [if_neg hn, ← hN, itF (show (((N : Int), (0 : Int)).2 != 0) = false from rfl)]
      simp only
      obtain ⟨j, rfl⟩ : ∃ j : Nat, i = j := ⟨i.toNat, by omega⟩
      simp only [Int.toNat_natCast] at e1 e2 hd hN ⊢
      by_cases hj : j < (pcs k b).1.length
      · obtain ⟨p, ps, hps⟩ : ∃ p ps, (pcs k b).1.drop j = p :: ps := ⟨(pcs k b).1[j], _, List.drop_eq_getElem_cons hj⟩
        have hpj : (pcs k b).1[j] = p := by rw [List.drop_eq_getElem_cons hj] at hps; exact (List.cons.inj hps).1
        have hpf := pcs_fits hk b p (by rw [← hpj]; exact List.getElem_mem hj)
        have hlen2 : (b.drop N).length = (p :: ps).flatten.length := by rw [e2, hps]
        simp only [List.length_drop, List.flatten_cons, List.length_append] at hlen2
        rw [if_neg (show ¬ ((j : Int) < 0 ∨ (j : Int) ≥ ((pcs k b).1.length : Int)) by omega), itF (show ((N : Int) == (b.length : Int)) = false by simp; omega), rwidth_is, sb, cut_drop (i := (N : Int)) (a := N) rfl rfl hle, sb, rfirst_is hk, sb]
        have hne : b.drop N ≠ [] := fun e => by
          rw [e, pcs_nil, hps] at hd; cases hd
        rcases unit9_cases k (b.drop N) with ⟨c, hu, hc⟩ | ⟨n, hu, g1, g2, g3, _⟩
        · rw [pcs_err hne hu, hps] at hd; cases hd
        · rw [pcs_cons hne hu, hps] at hd
          have hp : (b.drop N).take n = p := (List.cons.inj (Prod.mk.inj hd).1).1
          rw [List.length_drop] at g2
          rw [hu]
          simp only
          rw [wrap_i64 (by omega), cut_of (i := (N : Int)) (a := N) (b := N + n) rfl (by omega) (by omega) (by omega), sb]
          rw [Nat.add_sub_cancel_left, hp, sread_is, sb, sRead_piece hk hpf.1, hw]
          simp [List.getD_eq_getElem?_getD, hj, hpj]
      · have hj' : j = (pcs k b).1.length := by omega
        have hall : N = b.length := by rw [hN, hj', List.take_length, hfl]
        rw [if_pos (show ((j : Int) < 0 ∨ (j : Int) ≥ ((pcs k b).1.length : Int)) by omega), itT (show ((N : Int) == (b.length : Int)) = true by simp; omega)]
  · rw [if_pos h0, if_pos h0, itT (show (((0 : Int), (wordsS k b).2).2 != 0) = true by simpa using h0)]
theorem can_go {k : Int} (c : Int) : ∀ (ps : List (List UInt8)), (∀ p ∈ ps, p.length ≤ 10) →
    go9 (fun (s : Unit) (x : List UInt8 × Int) => run_Canonical_r1 k x.1 x.2) ps c () = some (if c = 0 ∧ ∀ p ∈ ps, sCanon k p = true then .inl () else .inr ())
  | [], _ => by
    simp only [go9]
    by_cases h0 : c = 0
    · rw [if_pos h0, if_pos ⟨h0, (fun p hp => by cases hp)⟩]
    · rw [if_neg h0, if_neg (fun h => h0 h.1)]; unfold run_Canonical_r1; rw [itT (by simpa using h0)]; rfl
  | p :: ps, hf => by
    have hp := hf p List.mem_cons_self
    have h1 : run_Canonical_r1 k p 0 = some (if sCanon k p then .inl () else .inr ()) := by
      unfold run_Canonical_r1
      rw [itF (by rfl), scanon_is k p (by omega), sb, sb]
      cases sCanon k p <;> rfl
    cases hc : sCanon k p with
    | true =>
      simp only [go9, h1, hc, if_true]
      rw [can_go c ps (fun q hq => hf q (List.mem_cons_of_mem _ hq))]
      by_cases hh : c = 0 ∧ ∀ p ∈ ps, sCanon k p = true
      · rw [if_pos hh, if_pos ⟨hh.1, fun q hq => by
          cases hq with
          | head => exact hc
          | tail _ hq => exact hh.2 q hq⟩]
      · rw [if_neg hh, if_neg (fun h => hh ⟨h.1, fun q hq => h.2 q (List.mem_cons_of_mem _ hq)⟩)]
    | false =>
      have hno : ¬ (c = 0 ∧ ∀ q ∈ p :: ps, sCanon k q = true) := fun h => by have := h.2 p List.mem_cons_self; rw [hc] at this; cases this
      rw [if_neg hno]
      simp only [go9, h1, hc]
      rfl
theorem sCanon_piece {k : Int} (hk : kNum k = true) {p : List UInt8} (hf : fits5 (kWire k) p = true) : sCanon k p = true ↔ sPut k (wordOf k p) = p := by
  unfold sCanon
  rw [sRead_piece hk hf]
  simp
theorem all_canon {k : Int} (hk : kNum k = true) (b : List UInt8) : (pcs k b).2 = 0 → (((pcs k b).1.map (wordOf k)).flatMap (sPut k) = b ↔ ∀ p ∈ (pcs k b).1, sPut k (wordOf k p) = p) := by
  refine pcs_ind k (fun b => (pcs k b).2 = 0 → (((pcs k b).1.map (wordOf k)).flatMap (sPut k) = b ↔ ∀ p ∈ (pcs k b).1, sPut k (wordOf k p) = p)) ?_ ?_ ?_ b
  · intro _; rw [pcs_nil]; simp
  · intro l c hl h hc h2; rw [pcs_err hl h] at h2; simp only at h2; omega
  · intro l n hl h g1 g2 _ ih h2
    have hh := pcs_cons hl h
    have h2' : (pcs k (l.drop n)).2 = 0 := by rw [hh] at h2; exact h2
    have ih' := ih h2'
    rw [hh]
    simp only [List.map_cons, List.flatMap_cons, List.mem_cons, forall_eq_or_imp]
    constructor
    · intro e
      have hu := unit9_sPut hk (wordOf_bd k (l.take n)) (((pcs k (l.drop n)).1.map (wordOf k)).flatMap (sPut k))
      rw [e, h] at hu
      have hn : n = (sPut k (wordOf k (l.take n))).length := Sum.inr.inj hu
      have e' : sPut k (wordOf k (l.take n)) ++ ((pcs k (l.drop n)).1.map (wordOf k)).flatMap (sPut k) = l.take n ++ l.drop n := by rw [List.take_append_drop]; exact e
      obtain ⟨e1, e2⟩ := List.append_inj e' (by rw [List.length_take, Nat.min_eq_left g2]; exact hn.symm)
      exact ⟨e1, ih'.1 e2⟩
    · rintro ⟨e1, e2⟩
      rw [e1, ih'.2 e2, List.take_append_drop]
theorem rcan_is (k : Int) {b : List UInt8} (hb : b.length ≤ 1048576) : run_Canonical k b = some (can9 k b) := by
  obtain ⟨h1, h2, h3, h4, h5⟩ := vals_words k b
  unfold run_Canonical run_values
  rw [sb]
  simp only
  have hgo := can_go (k := k) (vals9 k b).2 (vals9 k b).1 (fun p hp => (h3 p hp).2.2)
  rw [walk_is (s := ()) _ k b hgo, sb, h1]
  by_cases h0 : (wordsS k b).2 = 0
  · obtain ⟨hk, hp0, hw⟩ := wordsS_zero h0
    have hiff : ((wordsS k b).2 = 0 ∧ ∀ p ∈ (vals9 k b).1, sCanon k p = true) ↔ can9 k b = true := by
      unfold can9
      rw [h2 h0, decide_eq_true_eq, hw]
      refine and_congr_right fun _ => ?_
      rw [all_canon hk b hp0]
      exact ⟨fun h p hp => (sCanon_piece hk (pcs_fits hk b p hp).1).1 (h p hp), fun h p hp => (sCanon_piece hk (pcs_fits hk b p hp).1).2 (h p hp)⟩
    by_cases hc : (wordsS k b).2 = 0 ∧ ∀ p ∈ (vals9 k b).1, sCanon k p = true
    · rw [if_pos hc, hiff.1 hc]
    · rw [if_neg hc]
      cases hcc : can9 k b with
      | false => rfl
      | true => exact absurd (hiff.2 hcc) hc
  · rw [if_neg (fun h => h0 h.1)]
    have : can9 k b = false := by unfold can9; exact decide_eq_false fun h => h0 h.1
    rw [this]
theorem pack_loop {k : Int} (hk : kNum k = true) {l : List Int} (h : ∀ w ∈ l, 0 ≤ w ∧ w ≤ 18446744073709551615) (hl : l.length ≤ 1048576) : ∀ (d i : Nat), i + d = l.length →
    run_Pack_l1 k l ((l.take i).flatMap (sPut k)) i = some (l.flatMap (sPut k)) := by
  intro d
  induction d with
  | zero =>
    intro i hi
    refine run_Pack_l1_inr ?_
    unfold run_Pack_b1
    rw [itF (by simp; omega), List.take_of_length_le (by omega)]
  | succ d ih =>
    intro i hi
    have hlt : i < l.length := by omega
    have hw := h _ (List.getElem_mem hlt)
    have hlen := sPut_len (k := k) hw
    have hpre : ∀ m : List Int, (∀ w ∈ m, 0 ≤ w ∧ w ≤ 18446744073709551615) → (m.flatMap (sPut k)).length ≤ 10 * m.length := by
      intro m hm
      induction m with
      | nil => simp
      | cons x m ihm =>
        have h1 := sPut_len (k := k) (hm x List.mem_cons_self)
        have h2 := ihm (fun w hw => hm w (List.mem_cons_of_mem _ hw))
        simp only [List.flatMap_cons, List.length_append, List.length_cons]
        omega
    have hp := hpre (l.take i) (fun w hw => h w (List.mem_of_mem_take hw))
    have hti : (l.take i).length = i := by rw [List.length_take]; omega
    have hb : run_Pack_b1 k l ((l.take i).flatMap (sPut k)) i = some (.inl ((l.take (i + 1)).flatMap (sPut k), ((i + 1 : Nat) : Int))) := by
      unfold run_Pack_b1
      rw [itT (by simp; omega), idx_of rfl hlt, sb, sput_is hw, sb, hk, if_pos rfl]
      simp only
      rw [app_of (by omega), sb, wrap_i64 (by omega), List.take_succ_eq_append_getElem hlt, List.flatMap_append]
      simp
    rw [run_Pack_l1_inl hb]
    exact ih (i + 1) (by omega)
theorem rpack_is (k : Int) {l : List Int} (h : ∀ w ∈ l, 0 ≤ w ∧ w ≤ 18446744073709551615) (hl : l.length ≤ 1048576) : run_Pack k l = some (if kNum k then (l.flatMap (sPut k), 0) else ([], 2)) := by
  unfold run_Pack
  rw [rwidth_is, sb]
  cases hk : kNum k with
  | false => rw [wid9_not hk]; rfl
  | true =>
    have hlp := pack_loop hk h hl l.length 0 (by omega)
    have hlp' : run_Pack_l1 k l [] 0 = _ := hlp
    rw [itF (wid9_ne hk), hlp', sb, if_pos rfl]
end Go.Proofs.Ythkdneddbbocmaa
