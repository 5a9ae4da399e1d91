/-
  What the plain functions are. No condition.
-/
import Derived.Test.YtdpolccecmaajaaS1
import Derived.Test.YtdpolccecmaajaaK2
import Derived.Laws.Bits64b
import Derived.IntWalk
import Derived.RowKit
namespace Go.Proofs.Ytdpolccecmaajaa
open Go
def enc (v : Nat) : List UInt8 := if v < 128 then [UInt8.ofNat v] else UInt8.ofNat (128 + v % 128) :: enc (v / 128)
termination_by v
decreasing_by omega
def scan : Nat → Nat → List UInt8 → Unit ⊕ (Int × Int × Int)
  | _, _, [] => .inl ()
  | i, acc, c :: t => if i = 9 ∧ 1 < c.toNat then .inr (0, 0, 4) else if c.toNat < 128 then .inr (((acc + c.toNat % 128 * 128 ^ i : Nat) : Int), ((i + 1 : Nat) : Int), 0) else scan (i + 1) (acc + c.toNat % 128 * 128 ^ i) t
def rdR : Unit ⊕ (Int × Int × Int) → Int × Int × Int
  | .inl _ => (0, 0, 3)
  | .inr r => r
def rd (b : List UInt8) : Int × Int × Int := rdR (scan 0 0 (b.take 10))
def hor : List UInt8 → Nat
  | [] => 0
  | c :: t => c.toNat % 128 + 128 * hor t
def lead : Nat → List UInt8 → Nat
  | 0, _ => 0
  | _ + 1, [] => 0
  | k + 1, c :: t => if 128 ≤ c.toNat then lead k t + 1 else 0
theorem pow_7 (i : Nat) : 2 ^ (7 * i) = 128 ^ i := by rw [Nat.pow_mul]
theorem and_127 (c : Nat) : c &&& 127 = c % 128 := Nat.and_two_pow_sub_one_eq_mod c 7
theorem read_step {acc i c : Nat} (hi : i ≤ 9) (hacc : acc < 128 ^ i) (hc : c < 256) (h9 : i = 9 → c ≤ 1) :
    orI .u64 (acc : Int) (shlI .u64 (IntKind.u64.wrap (andI .u8 (c : Int) 127)) ((7 * i : Nat) : Int)) = ((acc + c % 128 * 128 ^ i : Nat) : Int) := by
  have e1 : andI .u8 (c : Int) 127 = ((c % 128 : Nat) : Int) := by
    have := andI_nat (k := .u8) rfl (a := c) (b := 127) (by simpa [IntKind.bits] using hc) (by simp [IntKind.bits])
    rw [and_127] at this; exact this
  have hp : 128 ^ i ≤ 128 ^ 9 := Nat.pow_le_pow_right (by omega) hi
  have hlt : c % 128 * 128 ^ i < 18446744073709551616 := by
    by_cases h : i = 9
    · subst h
      have := h9 rfl
      have h2 : c % 128 ≤ 1 := by omega
      have := Nat.mul_le_mul_right (128 ^ 9) h2
      omega
    · have h3 : 128 ^ i ≤ 128 ^ 8 := Nat.pow_le_pow_right (by omega) (by omega)
      have := Nat.mul_le_mul (show c % 128 ≤ 127 by omega) h3
      omega
  have e2 : shlI .u64 (IntKind.u64.wrap ((c % 128 : Nat) : Int)) ((7 * i : Nat) : Int) = ((c % 128 * 128 ^ i : Nat) : Int) := by
    unfold shlI
    rw [wrap_nat rfl (by simp [IntKind.bits]; omega), Int.toNat_natCast, Nat.min_eq_left (by simp [IntKind.bits]; omega)]
    have h4 : ((c % 128 : Nat) : Int) * 2 ^ (7 * i) = ((c % 128 * 128 ^ i : Nat) : Int) := by rw [← pow_7]; push_cast; rfl
    rw [h4]
    exact wrap_nat rfl (by simpa [IntKind.bits] using hlt)
  rw [e1, e2, orI_nat rfl (by simp [IntKind.bits]; omega) (by simpa [IntKind.bits] using hlt)]
  congr 1
  rw [← pow_7] at hacc ⊢
  exact or_high' _ _ _ hacc
theorem read_loop : ∀ (t : List UInt8) (v : List UInt8) (i acc : Nat), v.drop i = t → i + t.length = v.length → v.length ≤ 10 → acc < 128 ^ i → varint_Read_l1 v acc i = some (scan i acc t) := by
  intro t
  induction t with
  | nil =>
    intro v i acc _ hl _ _
    refine varint_Read_l1_inr ?_
    unfold varint_Read_b1
    rw [itF (by simp at hl ⊢; omega)]
    rfl
  | cons c t ih =>
    intro v i acc hd hl hv hacc
    simp only [List.length_cons] at hl
    have hget : v[i]'(by omega) = c := by
      have h1 : v.drop i = v[i]'(by omega) :: v.drop (i + 1) := List.drop_eq_getElem_cons (by omega)
      rw [hd] at h1; exact (List.cons.inj h1).1.symm
    have hd' : v.drop (i + 1) = t := by rw [← List.drop_drop, hd]; rfl
    have hc := c.toNat_lt
    have hb : varint_Read_b1 v acc i = if i = 9 ∧ 1 < c.toNat then some (.inr (.inr (0, 0, 4))) else if c.toNat < 128 then some (.inr (.inr (((acc + c.toNat % 128 * 128 ^ i : Nat) : Int), ((i + 1 : Nat) : Int), 0))) else some (.inl (((acc + c.toNat % 128 * 128 ^ i : Nat) : Int), ((i + 1 : Nat) : Int))) := by
      unfold varint_Read_b1
      rw [itT (by simp; omega), idx_of rfl (show i < v.length by omega), sb, hget]
      by_cases h9 : i = 9 ∧ 1 < c.toNat
      · rw [if_pos h9, itT (by simp; omega)]
      · rw [if_neg h9, itF (by simp; omega), wrap_i64 (by omega)]
        have e : ((7 : Int) * (i : Int)) = ((7 * i : Nat) : Int) := by push_cast; rfl
        rw [e, shlO_nat, sb, read_step (by omega) hacc (by omega) (by omega), wrap_i64 (by omega)]
        by_cases h8 : c.toNat < 128
        · rw [if_pos h8, itT (by simp; omega)]; push_cast; rfl
        · rw [if_neg h8, itF (by simp; omega)]; push_cast; rfl
    rw [scan]
    split at hb
    · rename_i h9; rw [if_pos h9]; exact varint_Read_l1_inr hb
    · rename_i h9
      rw [if_neg h9]
      split at hb
      · rename_i h8; rw [if_pos h8]; exact varint_Read_l1_inr hb
      · rename_i h8
        rw [if_neg h8, varint_Read_l1_inl hb]
        refine ih v (i + 1) _ hd' (by omega) hv ?_
        rw [Nat.pow_succ]
        have := Nat.mul_le_mul_right (128 ^ i) (show c.toNat % 128 ≤ 127 by omega)
        omega
theorem read_is (b : List UInt8) : varint_Read b = some (rd b) := by
  unfold varint_Read rd
  have e : (if (10 : Int) < (b.length : Int) then (10 : Int) else (b.length : Int)) = ((min 10 b.length : Nat) : Int) := by split <;> omega
  have e2 : b.take (min 10 b.length) = b.take 10 := by rw [List.take_eq_take_iff]; omega
  rw [e, cut_take rfl (by omega), sb, e2]
  have h := read_loop (b.take 10) (b.take 10) 0 0 rfl (by simp) (by simp; omega) (by simp)
  have h' : varint_Read_l1 (b.take 10) 0 0 = some (scan 0 0 (b.take 10)) := h
  rw [h', sb]
  cases scan 0 0 (b.take 10) <;> rfl
theorem skip_is (b : List UInt8) : varint_Skip b = some ((rd b).2.1, (rd b).2.2) := by unfold varint_Skip; rw [read_is, sb]
theorem lead_le : ∀ (k : Nat) (l : List UInt8), lead k l ≤ k ∧ lead k l ≤ l.length
  | 0, _ => ⟨Nat.le_refl _, Nat.zero_le _⟩
  | _ + 1, [] => ⟨Nat.zero_le _, Nat.le_refl _⟩
  | k + 1, c :: t => by
    have := lead_le k t
    rw [lead]; split <;> simp <;> omega
theorem scan_lead : ∀ (l : List UInt8) (i acc : Nat), i + l.length ≤ 10 → i ≤ 9 →
    scan i acc l = if i + lead (10 - i) l = 10 then .inr (0, 0, 4) else if lead (10 - i) l = l.length then .inl () else if i + lead (10 - i) l = 9 ∧ 1 < (l.getD (lead (10 - i) l) 0).toNat then .inr (0, 0, 4) else
      .inr (((acc + hor (l.take (lead (10 - i) l + 1)) * 128 ^ i : Nat) : Int), ((i + lead (10 - i) l + 1 : Nat) : Int), 0) := by
  intro l
  induction l with
  | nil =>
    intro i acc _ hi
    obtain ⟨k, hk⟩ : ∃ k, 10 - i = k + 1 := ⟨9 - i, by omega⟩
    rw [hk]
    simp only [lead, scan, List.length_nil]
    rw [if_neg (by omega), if_pos trivial]
  | cons c t ih =>
    intro i acc hl hi
    obtain ⟨k, hk⟩ : ∃ k, 10 - i = k + 1 := ⟨9 - i, by omega⟩
    simp only [List.length_cons] at hl
    rw [scan]
    by_cases hc : 128 ≤ c.toNat
    · have e : lead (10 - i) (c :: t) = lead k t + 1 := by rw [hk, lead, if_pos hc]
      rw [e]
      by_cases h9 : i = 9
      · have : k = 0 := by omega
        subst this
        rw [if_pos ⟨h9, by omega⟩, lead, if_pos (by omega)]
      · rw [if_neg (by omega), if_neg (by omega), ih (i + 1) _ (by omega) (by omega), show 10 - (i + 1) = k by omega]
        by_cases h1 : i + 1 + lead k t = 10
        · rw [if_pos h1, if_pos (show i + (lead k t + 1) = 10 by omega)]
        · rw [if_neg h1, if_neg (show ¬ i + (lead k t + 1) = 10 by omega)]
          by_cases h2 : lead k t = t.length
          · rw [if_pos h2, if_pos (show lead k t + 1 = (c :: t).length by simp; omega)]
          · rw [if_neg h2, if_neg (show ¬ lead k t + 1 = (c :: t).length by simp; omega)]
            have eg : (c :: t).getD (lead k t + 1) 0 = t.getD (lead k t) 0 := by simp [List.getD]
            rw [eg]
            by_cases h3 : i + 1 + lead k t = 9 ∧ 1 < (t.getD (lead k t) 0).toNat
            · rw [if_pos h3, if_pos (show i + (lead k t + 1) = 9 ∧ 1 < (t.getD (lead k t) 0).toNat by omega)]
            · rw [if_neg h3, if_neg (show ¬ (i + (lead k t + 1) = 9 ∧ 1 < (t.getD (lead k t) 0).toNat) by omega)]
              rw [List.take_succ_cons, hor, Nat.pow_succ]
              have e5 : acc + c.toNat % 128 * 128 ^ i + hor (t.take (lead k t + 1)) * (128 ^ i * 128) = acc + (c.toNat % 128 + 128 * hor (t.take (lead k t + 1))) * 128 ^ i := by
                rw [Nat.add_mul, Nat.mul_assoc 128, Nat.mul_comm (128 ^ i) 128, ← Nat.mul_assoc, Nat.mul_comm _ 128, Nat.mul_assoc]; omega
              rw [e5]
              congr 3
              omega
    · have e : lead (10 - i) (c :: t) = 0 := by rw [hk, lead, if_neg hc]
      rw [e]
      simp only [Nat.add_zero, List.length_cons, List.getD_cons_zero]
      rw [if_neg (show ¬ i = 10 by omega), if_neg (show ¬ 0 = t.length + 1 by omega)]
      by_cases h9 : i = 9 ∧ 1 < c.toNat
      · rw [if_pos h9, if_pos h9]
      · rw [if_neg h9, if_neg h9, if_pos (show c.toNat < 128 by omega)]
        simp [hor]
theorem hor_append (x y : List UInt8) : hor (x ++ y) = hor x + 128 ^ x.length * hor y := by
  induction x with
  | nil => simp [hor]
  | cons c t ih => simp only [List.cons_append, hor, ih, List.length_cons, Nat.pow_succ, Nat.mul_add]; rw [Nat.mul_comm (128 ^ t.length) 128, Nat.mul_assoc]; omega
theorem hor_lt (l : List UInt8) : hor l < 128 ^ l.length := by
  induction l with
  | nil => simp [hor]
  | cons c t ih => simp only [hor, List.length_cons, Nat.pow_succ]; omega
theorem hor_drop (l : List UInt8) (j : Nat) : hor (l.drop j) ≤ hor l := by
  induction l generalizing j with
  | nil => simp
  | cons c t ih =>
    cases j with
    | zero => exact Nat.le_refl _
    | succ j => have := ih j; simp only [List.drop_succ_cons, hor]; omega
theorem ref_loop1 (b : List UInt8) (a : Nat) (hb : b.length ≤ 1152921504606846976) : ∀ (k n : Nat), n + k = 10 → a + n ≤ b.length → darningref02_Read_l1 a b n = some ((n + lead k (b.drop (a + n)) : Nat) : Int) := by
  intro k
  induction k with
  | zero =>
    intro n hn ha
    refine darningref02_Read_l1_inr ?_
    unfold darningref02_Read_b1
    rw [wrap_i64 (by omega)]
    by_cases h1 : a + n < b.length
    · rw [itT (by simp; omega), itF (by simp; omega), sb, itF (by rfl)]; rfl
    · rw [itF (by simp; omega), sb, itF (by rfl)]; rfl
  | succ k ih =>
    intro n hn ha
    by_cases h1 : a + n < b.length
    · have hd : b.drop (a + n) = b[a + n] :: b.drop (a + (n + 1)) := List.drop_eq_getElem_cons h1
      have hbody : darningref02_Read_b1 a b n = if 128 ≤ b[a + n].toNat then some (.inl ((n + 1 : Nat) : Int)) else some (.inr (n : Int)) := by
        unfold darningref02_Read_b1
        rw [wrap_i64 (by omega), wrap_i64 (by omega), itT (by simp; omega), itT (by simp; omega), idx_of (show (a : Int) + n = ((a + n : Nat) : Int) by push_cast; rfl) h1, sb, sb]
        by_cases h2 : 128 ≤ b[a + n].toNat
        · rw [if_pos h2, itT (by simp; omega)]; push_cast; rfl
        · rw [if_neg h2, itF (by simp; omega)]
      rw [hd, lead]
      by_cases h2 : 128 ≤ b[a + n].toNat
      · rw [if_pos h2] at hbody ⊢
        rw [darningref02_Read_l1_inl hbody, ih (n + 1) (by omega) (by omega)]
        congr 2; omega
      · rw [if_neg h2] at hbody ⊢
        exact darningref02_Read_l1_inr hbody
    · have hd : b.drop (a + n) = [] := List.drop_eq_nil_of_le (by omega)
      rw [hd]
      refine darningref02_Read_l1_inr ?_
      unfold darningref02_Read_b1
      rw [wrap_i64 (by omega), itF (by simp; omega), sb, itF (by rfl)]; rfl
theorem ref_loop2 (b : List UInt8) (a m : Nat) (hb : b.length ≤ 1152921504606846976) (hm : a + m ≤ b.length) (hh : hor ((b.drop a).take m) < 18446744073709551616) :
    ∀ (j : Nat), j ≤ m → darningref02_Read_l2 a b (hor (((b.drop a).take m).drop j)) ((j : Int) - 1) = some ((hor ((b.drop a).take m) : Nat) : Int) := by
  intro j
  induction j with
  | zero =>
    intro _
    refine darningref02_Read_l2_inr ?_
    unfold darningref02_Read_b2
    rw [itF (by simp)]; rfl
  | succ j ih =>
    intro hj
    have hL : ((b.drop a).take m).length = m := by simp; omega
    have hd : ((b.drop a).take m).drop j = ((b.drop a).take m)[j]'(by omega) :: ((b.drop a).take m).drop (j + 1) := List.drop_eq_getElem_cons (by omega)
    have hc : ((b.drop a).take m)[j]'(by omega) = b[a + j]'(by omega) := by simp
    have h1 := hor_drop ((b.drop a).take m) j
    rw [hd, hor, hc] at h1
    have h2 := (b[a + j]'(by omega)).toNat_lt
    refine (darningref02_Read_l2_inl (wv' := (hor (((b.drop a).take m).drop j) : Nat)) (i' := (j : Int) - 1) ?_).trans (ih (by omega))
    unfold darningref02_Read_b2
    rw [itT (by simp), wrap_i64 (by omega), idx_of (show (a : Int) + (((j + 1 : Nat) : Int) - 1) = ((a + j : Nat) : Int) by push_cast; omega) (by omega), sb, wrap_i64 (by omega), hd, hor, hc]
    simp only [wrap_u64]
    rw [Int.tmod_eq_emod_of_nonneg (by omega)]
    congr 3
    · omega
    · push_cast; omega
theorem val_lt {n C X : Nat} (hn : n ≤ 9) (hC : C < 256) (h9 : ¬ (n = 9 ∧ 1 < C)) (hX : X < 128 ^ n) : X + 128 ^ n * (C % 128) < 18446744073709551616 := by
  by_cases h9' : n = 9
  · subst h9'
    have : C % 128 ≤ 1 := by omega
    have := Nat.mul_le_mul_left (128 ^ 9) this
    omega
  · have h5 : 128 ^ n ≤ 128 ^ 8 := Nat.pow_le_pow_right (by omega) (by omega)
    have h6 : C % 128 ≤ 127 := by omega
    have := Nat.mul_le_mul h5 h6
    omega
theorem ref_is (b : List UInt8) (a : Nat) (hb : b.length ≤ 1152921504606846976) (ha : a ≤ b.length) : darningref02_Read b a = some (rd (b.drop a)) := by
  unfold darningref02_Read
  have h1 := ref_loop1 b a hb 10 0 rfl (by omega)
  simp only [Nat.zero_add, Nat.add_zero] at h1
  have h1' : darningref02_Read_l1 a b 0 = some ((lead 10 (b.drop a) : Nat) : Int) := h1
  rw [h1', sb]
  have hle := lead_le 10 (b.drop a)
  have hlen : (b.drop a).length = b.length - a := by simp
  -- the ten bytes that count
  have htake : ∀ (k : Nat) (l : List UInt8), lead k (l.take k) = lead k l := by
    intro k
    induction k with
    | zero => intro l; rfl
    | succ k ih => intro l; cases l with
      | nil => rfl
      | cons c t => simp only [List.take_succ_cons, lead, ih]
  have hs := scan_lead ((b.drop a).take 10) 0 0 (by simp; omega) (by omega)
  simp only [Nat.zero_add, Nat.sub_zero, htake, Nat.pow_zero, Nat.mul_one] at hs
  unfold rd
  rw [hs]
  by_cases h10 : lead 10 (b.drop a) = 10
  · rw [if_pos h10, itT (by simp; omega)]; rfl
  · rw [if_neg h10, itF (by simp; omega), wrap_i64 (by omega)]
    by_cases hl : lead 10 (b.drop a) = (b.drop a).length
    · rw [if_pos (show lead 10 (b.drop a) = ((b.drop a).take 10).length by rw [List.length_take]; omega), itT (by simp; omega)]; rfl
    · rw [if_neg (show ¬ lead 10 (b.drop a) = ((b.drop a).take 10).length by rw [List.length_take]; omega), itF (by simp; omega)]
      have hlt : a + lead 10 (b.drop a) < b.length := by omega
      have hg : ((b.drop a).take 10).getD (lead 10 (b.drop a)) 0 = b[a + lead 10 (b.drop a)] := by
        rw [List.getD_eq_getElem?_getD, List.getElem?_take, if_pos (by omega), List.getElem?_drop, List.getElem?_eq_getElem hlt]; rfl
      rw [hg, List.take_take, Nat.min_eq_left (by omega)]
      have hc := (b[a + lead 10 (b.drop a)]).toNat_lt
      have hg2 : (if (((lead 10 (b.drop a) : Nat) : Int) == 9) = true then (idx b ((a : Int) + ((lead 10 (b.drop a) : Nat) : Int)) >>= fun x2 => some (decide ((x2.toNat : Int) > 1))) else some false) = some (decide (lead 10 (b.drop a) = 9 ∧ 1 < (b[a + lead 10 (b.drop a)]).toNat)) := by
        by_cases h9 : lead 10 (b.drop a) = 9
        · rw [itT (by simp; omega), idx_of (show (a : Int) + ((lead 10 (b.drop a) : Nat) : Int) = ((a + lead 10 (b.drop a) : Nat) : Int) by push_cast; rfl) hlt, sb]
          congr 1
          simp only [h9, true_and, decide_eq_decide]
          omega
        · rw [itF (by simp; omega)]; simp [h9]
      rw [hg2, sb]
      by_cases h9 : lead 10 (b.drop a) = 9 ∧ 1 < (b[a + lead 10 (b.drop a)]).toNat
      · rw [if_pos h9, itT (by simpa using h9)]; rfl
      · rw [if_neg h9, itF (decide_eq_false h9)]
        have hbd : hor ((b.drop a).take (lead 10 (b.drop a) + 1)) < 18446744073709551616 := by
          have hsp : (b.drop a).take (lead 10 (b.drop a) + 1) = (b.drop a).take (lead 10 (b.drop a)) ++ [b[a + lead 10 (b.drop a)]] := by
            rw [List.take_add_one, List.getElem?_drop, List.getElem?_eq_getElem hlt]; rfl
          rw [hsp, hor_append]
          have h3 := hor_lt ((b.drop a).take (lead 10 (b.drop a)))
          have h4 : ((b.drop a).take (lead 10 (b.drop a))).length = lead 10 (b.drop a) := by simp; omega
          rw [h4] at h3 ⊢
          simp only [hor, Nat.mul_zero, Nat.add_zero]
          exact val_lt (by omega) (by omega) h9 h3
        have h2 := ref_loop2 b a (lead 10 (b.drop a) + 1) hb (by omega) hbd (lead 10 (b.drop a) + 1) (Nat.le_refl _)
        have hz : ((b.drop a).take (lead 10 (b.drop a) + 1)).drop (lead 10 (b.drop a) + 1) = [] := List.drop_eq_nil_of_le (by simp; omega)
        rw [hz] at h2
        have e3 : (((lead 10 (b.drop a) + 1 : Nat) : Int) - 1) = ((lead 10 (b.drop a) : Nat) : Int) := by push_cast; omega
        rw [e3] at h2
        have h2' : darningref02_Read_l2 a b 0 ((lead 10 (b.drop a) : Nat) : Int) = some ((hor ((b.drop a).take (lead 10 (b.drop a) + 1)) : Nat) : Int) := h2
        rw [h2', sb, wrap_i64 (by omega)]
        simp [rdR]
theorem lead_take : ∀ (k : Nat) (l : List UInt8), lead k (l.take k) = lead k l
  | 0, _ => rfl
  | _ + 1, [] => rfl
  | k + 1, c :: t => by simp only [List.take_succ_cons, lead, lead_take k t]
theorem lead_form : ∀ (k : Nat) (l : List UInt8), (∀ y ∈ l.take (lead k l), 128 ≤ y.toNat) ∧ ∀ (h : lead k l < l.length), lead k l < k → (l[lead k l]).toNat < 128
  | 0, _ => ⟨fun y hy => by simp [lead] at hy, fun _ h => by omega⟩
  | _ + 1, [] => ⟨fun y hy => by simp at hy, fun h => by simp at h⟩
  | k + 1, c :: t => by
    obtain ⟨h1, h2⟩ := lead_form k t
    by_cases hc : 128 ≤ c.toNat
    · have e : lead (k + 1) (c :: t) = lead k t + 1 := by rw [lead, if_pos hc]
      constructor
      · rw [e, List.take_succ_cons]
        intro y hy
        cases hy with
        | head => exact hc
        | tail _ hy => exact h1 y hy
      · simp only [e, List.getElem_cons_succ, List.length_cons]
        intro h hk; exact h2 (by omega) (by omega)
    · have e : lead (k + 1) (c :: t) = 0 := by rw [lead, if_neg hc]
      constructor
      · rw [e]; intro y hy; simp at hy
      · simp only [e]; intro _ _; simp; omega
theorem rd_cases (b : List UInt8) : rd b = (0, 0, 4) ∨ (rd b = (0, 0, 3) ∧ b.length ≤ 9) ∨
    ∃ x c y, b = x ++ c :: y ∧ (∀ z ∈ x, 128 ≤ z.toNat) ∧ c.toNat < 128 ∧ x.length ≤ 9 ∧ hor (x ++ [c]) < 18446744073709551616 ∧ rd b = (((hor (x ++ [c]) : Nat) : Int), ((x.length + 1 : Nat) : Int), 0) := by
  have hle := lead_le 10 b
  have hs := scan_lead (b.take 10) 0 0 (by simp; omega) (by omega)
  simp only [Nat.zero_add, Nat.sub_zero, lead_take, Nat.pow_zero, Nat.mul_one] at hs
  unfold rd
  rw [hs]
  by_cases h10 : lead 10 b = 10
  · rw [if_pos h10]; exact .inl rfl
  · rw [if_neg h10]
    by_cases hl : lead 10 b = (b.take 10).length
    · rw [if_pos hl]; refine .inr (.inl ⟨rfl, ?_⟩); rw [List.length_take] at hl; omega
    · rw [if_neg hl]
      rw [List.length_take] at hl
      have hlt : lead 10 b < b.length := by omega
      have hg : (b.take 10).getD (lead 10 b) 0 = b[lead 10 b] := by
        rw [List.getD_eq_getElem?_getD, List.getElem?_take, if_pos (by omega), List.getElem?_eq_getElem hlt]; rfl
      rw [hg, List.take_take, Nat.min_eq_left (by omega)]
      have hc := (b[lead 10 b]).toNat_lt
      by_cases h9 : lead 10 b = 9 ∧ 1 < (b[lead 10 b]).toNat
      · rw [if_pos h9]; exact .inl rfl
      · rw [if_neg h9]
        obtain ⟨hf1, hf2⟩ := lead_form 10 b
        have hsp : b.take (lead 10 b + 1) = b.take (lead 10 b) ++ [b[lead 10 b]] := by
          rw [List.take_add_one, List.getElem?_eq_getElem hlt]; rfl
        have hlen : (b.take (lead 10 b)).length = lead 10 b := by rw [List.length_take]; omega
        refine .inr (.inr ⟨b.take (lead 10 b), b[lead 10 b], b.drop (lead 10 b + 1), ?_, hf1, hf2 hlt (by omega), by omega, ?_, ?_⟩)
        · rw [← List.drop_eq_getElem_cons hlt, List.take_append_drop]
        · rw [hor_append]
          have h3 := hor_lt (b.take (lead 10 b))
          rw [hlen] at h3 ⊢
          simp only [hor, Nat.mul_zero, Nat.add_zero]
          exact val_lt (by omega) (by omega) h9 h3
        · rw [hsp, hlen]; simp [rdR]
theorem same_bytes (a b : List UInt8) : darningref01_Same a b = some (a == b) := rfl
end Go.Proofs.Ytdpolccecmaajaa
namespace Go.Proofs.Ytdpolccecmaajaa
open Go
def tRight (n w : Int) : Bool := decide (1 ≤ n ∧ n ≤ 536870911 ∧ (w = 0 ∨ w = 1 ∨ w = 2 ∨ w = 5))
def tgR (r : Int × Int × Int) : Int × Int × Int × Int :=
  if r.2.2 ≠ 0 then (0, 0, 0, r.2.2) else if 4294967295 < r.1 ∨ tRight (r.1 / 8) (r.1 % 8) = false then (0, 0, 0, 5) else (r.1 / 8, r.1 % 8, r.2.1, 0)
def tg (l : List UInt8) : Int × Int × Int × Int := tgR (rd l)
theorem tRight_iff {n w : Int} : tRight n w = true ↔ 1 ≤ n ∧ n ≤ 536870911 ∧ (w = 0 ∨ w = 1 ∨ w = 2 ∨ w = 5) := by simp [tRight]
theorem refRight_is (n w : Int) : darningref03_Right n w = some (tRight n w) := by
  unfold darningref03_Right tRight
  simp [Bool.decide_and, Bool.decide_or, Bool.beq_eq_decide_eq]
theorem rd_bounds (l : List UInt8) : 0 ≤ (rd l).1 ∧ (rd l).1 < 18446744073709551616 ∧ 0 ≤ (rd l).2.1 ∧ (rd l).2.1 ≤ 10 ∧ (rd l).2.1 ≤ l.length ∧ ((rd l).2.2 = 0 ∨ (rd l).2.2 = 3 ∨ (rd l).2.2 = 4) ∧ ((rd l).2.2 = 0 → 1 ≤ (rd l).2.1) := by
  rcases rd_cases l with h | ⟨h, _⟩ | ⟨x, c, y, e, _, _, hl, hv, h⟩
  · rw [h]; simp
  · rw [h]; simp
  · have : l.length = x.length + 1 + y.length := by rw [e]; simp; omega
    rw [h]
    refine ⟨?_, ?_, ?_, ?_, ?_, .inl rfl, fun _ => ?_⟩ <;> simp only <;> omega
theorem rd_of (x : List UInt8) (c : UInt8) (y : List UInt8) (hx : ∀ z ∈ x, 128 ≤ z.toNat) (hc : c.toNat < 128) (hl : x.length ≤ 9) (hv : hor (x ++ [c]) < 18446744073709551616) :
    rd (x ++ c :: y) = (((hor (x ++ [c]) : Nat) : Int), ((x.length + 1 : Nat) : Int), 0) := by
  have key : ∀ (x : List UInt8) (z : List UInt8) (i acc : Nat), (∀ z ∈ x, 128 ≤ z.toNat) → i + x.length ≤ 9 → acc + hor (x ++ [c]) * 128 ^ i < 18446744073709551616 → scan i acc (x ++ c :: z) = .inr (((acc + hor (x ++ [c]) * 128 ^ i : Nat) : Int), ((i + x.length + 1 : Nat) : Int), 0) := by
    intro x
    induction x with
    | nil =>
      intro z i acc _ hi hv
      have e1 : hor ([] ++ [c]) = c.toNat := by simp [hor]; omega
      rw [e1] at hv ⊢
      rw [List.nil_append, scan, if_neg, if_pos hc, Nat.mod_eq_of_lt hc]
      · rfl
      · rintro ⟨rfl, h2⟩
        have := Nat.mul_le_mul_right (128 ^ 9) (show 2 ≤ c.toNat by omega)
        omega
    | cons d x ih =>
      intro z i acc hx hi hv
      simp only [List.length_cons] at hi
      have hd := hx d List.mem_cons_self
      have e5 : acc + hor ((d :: x) ++ [c]) * 128 ^ i = acc + d.toNat % 128 * 128 ^ i + hor (x ++ [c]) * 128 ^ (i + 1) := by
        rw [List.cons_append, hor, Nat.pow_succ, Nat.add_mul, Nat.mul_comm (128 ^ i) 128, ← Nat.mul_assoc, Nat.mul_comm (hor (x ++ [c])) 128]; omega
      rw [e5] at hv ⊢
      rw [List.cons_append, scan, if_neg (by omega), if_neg (by omega), ih z (i + 1) _ (fun z hz => hx z (List.mem_cons_of_mem _ hz)) (by omega) hv, List.length_cons]
      congr 3
      omega
  unfold rd
  have e2 : (x ++ c :: y).take 10 = x ++ c :: y.take (9 - x.length) := by
    rw [List.take_append, List.take_of_length_le (by omega), show 10 - x.length = (9 - x.length) + 1 by omega, List.take_succ_cons]
  rw [e2, key x _ 0 0 hx (by omega) (by simpa using hv)]
  simp [rdR]
theorem rd_append (l m : List UInt8) (h : (rd l).2.2 = 0) : rd (l ++ m) = rd l := by
  rcases rd_cases l with h' | ⟨h', _⟩ | ⟨x, c, y, e, hx, hc, hl, hv, h'⟩
  · rw [h'] at h; cases h
  · rw [h'] at h; cases h
  · rw [h', e, List.append_assoc, List.cons_append, rd_of x c _ hx hc hl hv]
theorem tg_append (l m : List UInt8) (h : (rd l).2.2 = 0) : tg (l ++ m) = tg l := by unfold tg; rw [rd_append l m h]
theorem tgR_err {r : Int × Int × Int} (h : r.2.2 ≠ 0) : tgR r = (0, 0, 0, r.2.2) := if_pos h
theorem tgR_none {r : Int × Int × Int} (h : r.2.2 = 0) (h2 : 4294967295 < r.1 ∨ tRight (r.1 / 8) (r.1 % 8) = false) : tgR r = (0, 0, 0, 5) := by unfold tgR; rw [if_neg (by simp [h]), if_pos h2]
theorem tgR_ok {r : Int × Int × Int} (h : r.2.2 = 0) (h2 : ¬ (4294967295 < r.1 ∨ tRight (r.1 / 8) (r.1 % 8) = false)) : tgR r = (r.1 / 8, r.1 % 8, r.2.1, 0) := by unfold tgR; rw [if_neg (by simp [h]), if_neg h2]
theorem tg_cases (l : List UInt8) : (∃ c, tg l = (0, 0, 0, c) ∧ (c = 3 ∨ c = 4 ∨ c = 5)) ∨ ∃ n w k, tg l = (n, w, k, 0) ∧ tRight n w = true ∧ 1 ≤ k ∧ k ≤ 10 ∧ k ≤ l.length ∧ rd l = (8 * n + w, k, 0) := by
  obtain ⟨h1, h2, h3, h4, h5, h6, h7⟩ := rd_bounds l
  unfold tg
  by_cases h : (rd l).2.2 = 0
  · by_cases hg : 4294967295 < (rd l).1 ∨ tRight ((rd l).1 / 8) ((rd l).1 % 8) = false
    · exact .inl ⟨5, tgR_none h hg, by omega⟩
    · refine .inr ⟨_, _, _, tgR_ok h hg, ?_, h7 h, h4, h5, ?_⟩
      · cases ht : tRight ((rd l).1 / 8) ((rd l).1 % 8)
        · exact absurd (.inr ht) hg
        · rfl
      · refine Prod.ext ?_ (Prod.ext rfl h)
        simp only; omega
  · exact .inl ⟨_, tgR_err h, by omega⟩
theorem ref03Read_is (b : List UInt8) (a : Nat) (hb : b.length ≤ 1152921504606846976) (ha : a ≤ b.length) : darningref03_Read b a = some (tg (b.drop a)) := by
  unfold darningref03_Read tg
  obtain ⟨h1, h2, h3, h4, h5, h6, h7⟩ := rd_bounds (b.drop a)
  rw [ref_is b a hb ha, sb]
  by_cases h : (rd (b.drop a)).2.2 = 0
  · rw [itF (by simpa using h)]
    have e1 : IntKind.i64.wrap (IntKind.u64.wrap (Int.tdiv (rd (b.drop a)).1 8)) = (rd (b.drop a)).1 / 8 := by
      rw [Int.tdiv_eq_ediv_of_nonneg h1, wrap_u64, Int.emod_eq_of_lt (by omega) (by omega), wrap_i64 (by omega)]
    have e2 : IntKind.i64.wrap (Int.tmod (rd (b.drop a)).1 8) = (rd (b.drop a)).1 % 8 := by
      rw [Int.tmod_eq_emod_of_nonneg h1, wrap_i64 (by omega)]
    simp only [e1, e2, refRight_is, sb]
    by_cases hg : 4294967295 < (rd (b.drop a)).1
    · rw [itT (by simpa using hg), sb, itT (by rfl), tgR_none h (.inl hg)]
    · rw [itF (by simpa using hg), sb]
      cases ht : tRight ((rd (b.drop a)).1 / 8) ((rd (b.drop a)).1 % 8)
      · rw [itT (by rfl), tgR_none h (.inr ht)]
      · rw [itF (by rfl), tgR_ok h (by simp [ht]; omega)]
  · rw [itT (by simpa using h), tgR_err h]
end Go.Proofs.Ytdpolccecmaajaa
namespace Go.Proofs.Ytdpolccecmaajaa
open Go
set_option linter.unusedVariables false
abbrev Rec := T_Number_Wire_From_At_To
def body5 (w : Int) (k : Nat) (m : List UInt8) : Int ⊕ (Nat × Nat) :=
  if w = 0 then (if (rd m).2.2 ≠ 0 then .inl (rd m).2.2 else .inr (k, k + (rd m).2.1.toNat))
  else if w = 2 then (if (rd m).2.2 ≠ 0 then .inl (rd m).2.2 else if (m.length : Int) - (rd m).2.1 < (rd m).1 then .inl 3 else .inr (k + (rd m).2.1.toNat, k + (rd m).2.1.toNat + (rd m).1.toNat))
  else if m.length < (if w = 5 then 4 else 8) then .inl 3 else .inr (k, k + (if w = 5 then 4 else 8))
def rec5 (l : List UInt8) : Int ⊕ (Int × Int × Nat × Nat) :=
  if (tg l).2.2.2 ≠ 0 then .inl (tg l).2.2.2 else match body5 (tg l).2.1 (tg l).2.2.1.toNat (l.drop (tg l).2.2.1.toNat) with
    | .inl c => .inl c
    | .inr p => .inr ((tg l).1, (tg l).2.1, p.1, p.2)
theorem body5_cases (w : Int) (k : Nat) (m : List UInt8) : (∃ c, body5 w k m = .inl c ∧ (c = 3 ∨ c = 4)) ∨
    ∃ a t, body5 w k m = .inr (a, t) ∧ k ≤ a ∧ a ≤ t ∧ t ≤ k + m.length ∧
      (w = 0 ∧ a = k ∧ (rd m).2.2 = 0 ∧ ((t - k : Nat) : Int) = (rd m).2.1 ∧ k < t ∨ w = 2 ∧ (rd m).2.2 = 0 ∧ ((a - k : Nat) : Int) = (rd m).2.1 ∧ ((t - a : Nat) : Int) = (rd m).1 ∨ w ≠ 0 ∧ w ≠ 2 ∧ a = k ∧ t = k + (if w = 5 then 4 else 8)) := by
  obtain ⟨h1, h2, h3, h4, h5, h6, h7⟩ := rd_bounds m
  unfold body5
  by_cases w0 : w = 0
  · rw [if_pos w0]
    by_cases h : (rd m).2.2 = 0
    · have := h7 h
      rw [if_neg (by simpa using h)]
      exact .inr ⟨_, _, rfl, Nat.le_refl _, by omega, by omega, .inl ⟨w0, rfl, h, by omega, by omega⟩⟩
    · rw [if_pos h]; exact .inl ⟨_, rfl, by omega⟩
  · rw [if_neg w0]
    by_cases w2 : w = 2
    · rw [if_pos w2]
      by_cases h : (rd m).2.2 = 0
      · rw [if_neg (by simpa using h)]
        by_cases h8 : (m.length : Int) - (rd m).2.1 < (rd m).1
        · rw [if_pos h8]; exact .inl ⟨_, rfl, by omega⟩
        · rw [if_neg h8]
          exact .inr ⟨_, _, rfl, by omega, by omega, by omega, .inr (.inl ⟨w2, h, by omega, by omega⟩)⟩
      · rw [if_pos h]; exact .inl ⟨_, rfl, by omega⟩
    · rw [if_neg w2]
      by_cases h8 : m.length < (if w = 5 then 4 else 8)
      · rw [if_pos h8]; exact .inl ⟨_, rfl, by omega⟩
      · rw [if_neg h8]
        exact .inr ⟨_, _, rfl, Nat.le_refl _, by omega, by omega, .inr (.inr ⟨w0, w2, rfl, rfl⟩)⟩
theorem body5_append (w : Int) (k : Nat) (m z : List UInt8) {p : Nat × Nat} (h : body5 w k m = .inr p) : body5 w k (m ++ z) = .inr p := by
  unfold body5 at h ⊢
  by_cases w0 : w = 0
  · rw [if_pos w0] at h ⊢
    by_cases h0 : (rd m).2.2 = 0
    · rw [rd_append m z h0]; exact h
    · rw [if_pos h0] at h; cases h
  · rw [if_neg w0] at h ⊢
    by_cases w2 : w = 2
    · rw [if_pos w2] at h ⊢
      by_cases h0 : (rd m).2.2 = 0
      · rw [rd_append m z h0]
        rw [if_neg (by simpa using h0)] at h ⊢
        by_cases h8 : (m.length : Int) - (rd m).2.1 < (rd m).1
        · rw [if_pos h8] at h; cases h
        · rw [if_neg h8] at h
          rw [if_neg (by simp only [List.length_append]; omega)]; exact h
      · rw [if_pos h0] at h; cases h
    · rw [if_neg w2] at h ⊢
      by_cases h8 : m.length < (if w = 5 then 4 else 8)
      · rw [if_pos h8] at h; cases h
      · rw [if_neg h8] at h
        rw [if_neg (by simp only [List.length_append]; omega)]; exact h
theorem rec5_cases (l : List UInt8) : (∃ c, rec5 l = .inl c ∧ (c = 3 ∨ c = 4 ∨ c = 5)) ∨
    ∃ (n w : Int) (k a t : Nat), rec5 l = .inr (n, w, a, t) ∧ tg l = (n, w, (k : Int), 0) ∧ tRight n w = true ∧ body5 w k (l.drop k) = .inr (a, t) ∧ 1 ≤ k ∧ k ≤ l.length ∧ k ≤ a ∧ a ≤ t ∧ t ≤ l.length ∧ rd l = (8 * n + w, (k : Int), 0) := by
  rcases tg_cases l with ⟨c, h, hc⟩ | ⟨n, w, k, h, hr, k1, k2, k3, hrd⟩
  · refine .inl ⟨c, ?_, hc⟩
    unfold rec5; rw [h, if_pos (by simp only; omega)]
  · obtain ⟨k, rfl⟩ : ∃ j : Nat, k = j := ⟨k.toNat, by omega⟩
    have e : rec5 l = match body5 w k (l.drop k) with
      | .inl c => .inl c
      | .inr p => .inr (n, w, p.1, p.2) := by unfold rec5; rw [h]; simp
    rcases body5_cases w k (l.drop k) with ⟨c, h2, hc⟩ | ⟨a, t, h2, g1, g2, g3, _⟩
    · exact .inl ⟨c, by rw [e, h2], by omega⟩
    · simp only [List.length_drop] at g3
      exact .inr ⟨n, w, k, a, t, by rw [e, h2], h, hr, h2, by omega, by omega, g1, g2, by omega, hrd⟩
theorem rec5_append (l z : List UInt8) {r : Int × Int × Nat × Nat} (h : rec5 l = .inr r) : rec5 (l ++ z) = .inr r := by
  rcases rec5_cases l with ⟨c, h', _⟩ | ⟨n, w, k, a, t, h', htg, _, hb, _, hk, _, _, _, hrd⟩
  · rw [h'] at h; cases h
  · rw [h'] at h
    have e : tg (l ++ z) = (n, w, (k : Int), 0) := by rw [tg_append l z (by rw [hrd]), htg]
    unfold rec5
    rw [e]
    simp only [ne_eq, not_true_eq_false, if_false, Int.toNat_natCast]
    rw [List.drop_append_of_le_length hk, body5_append _ _ _ _ hb]
    exact h
def zrec : Rec := ⟨0, 0, 0, 0, 0⟩
def next5 (b : List UInt8) (at5 : Int) : Rec × Int := if at5 < 0 ∨ at5 ≥ b.length then (zrec, 2) else match rec5 (b.drop at5.toNat) with
  | .inl c => (zrec, c)
  | .inr (n, w, a, t) => (⟨n, w, at5, at5 + a, at5 + t⟩, 0)
theorem refNext_big {b : List UInt8} (hb : b.length ≤ 140737488355328) (at5 : Int) : darningref05_Next b at5 = some (next5 b at5) := by
  unfold darningref05_Next next5
  by_cases h : at5 < 0 ∨ at5 ≥ b.length
  · rw [itT (by simpa using h), if_pos h]; rfl
  · rw [itF (by simpa using h), if_neg h]
    obtain ⟨p, rfl⟩ : ∃ p : Nat, at5 = p := ⟨at5.toNat, by omega⟩
    rw [ref03Read_is b p (by omega) (by omega), sb, Int.toNat_natCast]
    have hdl : (b.drop p).length = b.length - p := by simp
    rcases tg_cases (b.drop p) with ⟨c, ht, hc⟩ | ⟨n, w, k, ht, hr, k1, k2, k3, hrd⟩
    · have e : rec5 (b.drop p) = .inl c := by unfold rec5; rw [ht, if_pos (by simp only; omega)]
      rw [e, ht, itT (by simp; omega)]; rfl
    · obtain ⟨k, rfl⟩ : ∃ j : Nat, k = j := ⟨k.toNat, by omega⟩
      have e : rec5 (b.drop p) = match body5 w k ((b.drop p).drop k) with
        | .inl c => .inl c
        | .inr p => .inr (n, w, p.1, p.2) := by unfold rec5; rw [ht]; simp
      have hdd : (b.drop p).drop k = b.drop (p + k) := by rw [List.drop_drop]
      have hml : (b.drop (p + k)).length = b.length - (p + k) := by simp
      obtain ⟨h1, h2, h3, h4, h5, h6, h7⟩ := rd_bounds (b.drop (p + k))
      rw [e, ht, itF (by simp), hdd]
      have ew : IntKind.i64.wrap ((p : Int) + k) = ((p + k : Nat) : Int) := by rw [wrap_i64 (by omega)]; push_cast; rfl
      have er : IntKind.i64.wrap ((b.length : Int) - ((p + k : Nat) : Int)) = ((b.length - (p + k) : Nat) : Int) := by rw [wrap_i64 (by omega)]; omega
      simp only [ew, er]
      have hw := (tRight_iff.1 hr).2.2
      rcases hw with rfl | rfl | rfl | rfl
      · -- a varint
        rw [itF (by rfl), sb, itT (by rfl), ref_is b (p + k) (by omega) (by omega), sb]
        by_cases g : (rd (b.drop (p + k))).2.2 = 0
        · have := h7 g
          have hb5 : body5 0 k (b.drop (p + k)) = .inr (k, k + (rd (b.drop (p + k))).2.1.toNat) := by unfold body5; rw [if_pos rfl, if_neg (by simpa using g)]
          rw [itF (by simpa using g), sb, hb5]
          simp only
          rw [itF (by rfl), sb]
          simp only
          rw [itF (by simp; omega), wrap_i64 (by omega)]
          simp; omega
        · have hb5 : body5 0 k (b.drop (p + k)) = .inl (rd (b.drop (p + k))).2.2 := by unfold body5; rw [if_pos rfl, if_pos g]
          rw [itT (by simpa using g), sb, hb5]; rfl
      · rw [itF (by rfl), sb, itF (by rfl), sb]
        simp only
        rw [itF (by rfl), sb]
        unfold body5
        rw [if_neg (by omega), if_neg (by omega)]
        simp only
        by_cases g : b.length - (p + k) < 8
        · rw [itT (by simp; omega), if_pos (by simpa [hml] using g)]; rfl
        · rw [itF (by simp; omega), if_neg (by simpa [hml] using g), wrap_i64 (by omega)]
          simp; omega
      · rw [itF (by rfl), sb, itF (by rfl), sb]
        simp only
        rw [itT (by rfl), ref_is b (p + k) (by omega) (by omega), sb]
        by_cases g : (rd (b.drop (p + k))).2.2 = 0
        · have := h7 g
          have e1 : IntKind.i64.wrap (((b.length - (p + k) : Nat) : Int) - (rd (b.drop (p + k))).2.1) = ((b.drop (p + k)).length : Int) - (rd (b.drop (p + k))).2.1 := by rw [wrap_i64 (by omega), hml]
          have e2 : IntKind.u64.wrap (((b.drop (p + k)).length : Int) - (rd (b.drop (p + k))).2.1) = ((b.drop (p + k)).length : Int) - (rd (b.drop (p + k))).2.1 := by rw [wrap_u64, Int.emod_eq_of_lt (by omega) (by omega)]
          rw [itF (by simpa using g)]
          simp only [e1, e2]
          by_cases g2 : ((b.drop (p + k)).length : Int) - (rd (b.drop (p + k))).2.1 < (rd (b.drop (p + k))).1
          · have hb5 : body5 2 k (b.drop (p + k)) = .inl 3 := by unfold body5; rw [if_neg (by omega), if_pos rfl, if_neg (by simpa using g), if_pos g2]
            rw [itT (by simpa using g2), sb, hb5]; rfl
          · have hb5 : body5 2 k (b.drop (p + k)) = .inr (k + (rd (b.drop (p + k))).2.1.toNat, k + (rd (b.drop (p + k))).2.1.toNat + (rd (b.drop (p + k))).1.toNat) := by
              unfold body5; rw [if_neg (by omega), if_pos rfl, if_neg (by simpa using g), if_neg g2]
            rw [itF (by simpa using g2), sb, hb5]
            simp only
            rw [wrap_i64 (x := (rd (b.drop (p + k))).1) (by omega), itF (by simpa using g2), wrap_i64 (x := ((p + k : Nat) : Int) + (rd (b.drop (p + k))).2.1) (by omega), wrap_i64 (by omega)]
            simp; omega
        · have hb5 : body5 2 k (b.drop (p + k)) = .inl (rd (b.drop (p + k))).2.2 := by unfold body5; rw [if_neg (by omega), if_pos rfl, if_pos g]
          rw [itT (by simpa using g), sb, hb5]; rfl
      · rw [itT (by rfl), sb, itF (by rfl), sb]
        simp only
        rw [itF (by rfl), sb]
        unfold body5
        rw [if_neg (by omega), if_neg (by omega)]
        simp only
        by_cases g : b.length - (p + k) < 4
        · rw [itT (by simp; omega), if_pos (by simpa [hml] using g)]; rfl
        · rw [itF (by simp; omega), if_neg (by simpa [hml] using g), wrap_i64 (by omega)]
          simp; omega
theorem refNext_is {b : List UInt8} (hb : b.length ≤ 1048576) (at5 : Int) : darningref05_Next b at5 = some (next5 b at5) := refNext_big (by omega) at5
def spl (base : Nat) (l : List UInt8) : List Rec × Option (Nat × Int) :=
  if hl : l = [] then ([], none) else match h : rec5 l with
    | .inl c => ([], some (base, c))
    | .inr (n, w, a, t) => (⟨n, w, base, (base + a : Nat), (base + t : Nat)⟩ :: (spl (base + t) (l.drop t)).1, (spl (base + t) (l.drop t)).2)
termination_by l.length
decreasing_by
  all_goals
    rcases rec5_cases l with ⟨c', h', _⟩ | ⟨n', w', k', a', t', h', _, _, _, g1, g2, g3, g4, g5, _⟩
    · rw [h'] at h; cases h
    · rw [h'] at h; cases h; simp only [List.length_drop]; omega
theorem spl_nil (base : Nat) : spl base [] = ([], none) := by rw [spl, dif_pos rfl]
theorem spl_err {base : Nat} {l : List UInt8} {c : Int} (hl : l ≠ []) (h : rec5 l = .inl c) : spl base l = ([], some (base, c)) := by
  rw [spl, dif_neg hl]
  split
  · rename_i c' h'; rw [h] at h'; cases h'; rfl
  · rename_i h'; rw [h] at h'; cases h'
theorem spl_cons {base : Nat} {l : List UInt8} {n w : Int} {a t : Nat} (hl : l ≠ []) (h : rec5 l = .inr (n, w, a, t)) :
    spl base l = (⟨n, w, base, (base + a : Nat), (base + t : Nat)⟩ :: (spl (base + t) (l.drop t)).1, (spl (base + t) (l.drop t)).2) := by
  rw [spl, dif_neg hl]
  split
  · rename_i c' h'; rw [h] at h'; cases h'
  · rename_i n' w' a' t' h'; rw [h] at h'; cases h'; rfl
theorem spl_ind (P : Nat → List UInt8 → Prop) (h0 : ∀ base, P base []) (he : ∀ base l c, l ≠ [] → rec5 l = .inl c → (c = 3 ∨ c = 4 ∨ c = 5) → P base l)
    (hc : ∀ base l (n w : Int) (a t : Nat), l ≠ [] → rec5 l = .inr (n, w, a, t) → tRight n w = true → 1 ≤ a → a ≤ t → t ≤ l.length → P (base + t) (l.drop t) → P base l) (base : Nat) (l : List UInt8) : P base l := by
  generalize hn : l.length = m
  induction m using Nat.strongRecOn generalizing base l with
  | _ m ih =>
    by_cases hl : l = []
    · subst hl; exact h0 base
    · rcases rec5_cases l with ⟨c, h, hc'⟩ | ⟨n, w, k, a, t, h, _, hr, _, g1, g2, g3, g4, g5, _⟩
      · exact he base l c hl h hc'
      · exact hc base l n w a t hl h hr (by omega) g4 g5 (ih _ (by simp only [List.length_drop]; omega) _ _ rfl)
theorem spl_len (base : Nat) (l : List UInt8) : (spl base l).1.length ≤ l.length := by
  refine spl_ind (fun base l => (spl base l).1.length ≤ l.length) ?_ ?_ ?_ base l
  · intro base; rw [spl_nil]; simp
  · intro base l c hl h _; rw [spl_err hl h]; simp
  · intro base l n w a t hl h _ g1 g2 g3 ih
    rw [spl_cons hl h]
    simp only [List.length_cons, List.length_drop] at ih ⊢
    omega
theorem spl_code (base : Nat) (l : List UInt8) : ∀ p c, (spl base l).2 = some (p, c) → (c = 3 ∨ c = 4 ∨ c = 5) ∧ base ≤ p ∧ p < base + l.length := by
  refine spl_ind (fun base l => ∀ p c, (spl base l).2 = some (p, c) → (c = 3 ∨ c = 4 ∨ c = 5) ∧ base ≤ p ∧ p < base + l.length) ?_ ?_ ?_ base l
  · intro base p c h; rw [spl_nil] at h; cases h
  · intro base l c' hl h hc p c h2
    rw [spl_err hl h] at h2
    cases h2
    have : 0 < l.length := List.length_pos_iff.2 hl
    exact ⟨hc, by omega, by omega⟩
  · intro base l n w a t hl h _ g1 g2 g3 ih p c h2
    rw [spl_cons hl h] at h2
    have := ih p c h2
    simp only [List.length_drop] at this
    omega
theorem rd_take (l : List UInt8) {j : Nat} (h : (rd l).2.2 = 0) (hj : (rd l).2.1 ≤ j) : rd (l.take j) = rd l := by
  rcases rd_cases l with h6 | ⟨h6, _⟩ | ⟨x, c, y, e, hx, hc, hl, hv, h6⟩
  · rw [h6] at h; cases h
  · rw [h6] at h; cases h
  · rw [h6] at hj
    have hj' : (x ++ [c]).length ≤ j := by simp at hj ⊢; omega
    have : l.take j = x ++ c :: y.take (j - (x ++ [c]).length) := by
      rw [e, List.append_cons x c y, List.take_append, List.take_of_length_le hj', ← List.append_cons]
    rw [this, rd_of x c _ hx hc hl hv, h6]
theorem body5_take {w : Int} {k : Nat} {m : List UInt8} {a t : Nat} (h : body5 w k m = .inr (a, t)) : body5 w k (m.take (t - k)) = .inr (a, t) := by
  rcases body5_cases w k m with ⟨c, hc, _⟩ | ⟨a2, t2, h2, k1, k2, k3, hcase⟩
  · rw [hc] at h; cases h
  · rw [h2] at h
    cases h
    have hl : (m.take (t - k)).length = t - k := by simp; omega
    rcases hcase with ⟨rfl, rfl, f1, f2, f3⟩ | ⟨rfl, f1, f2, f3⟩ | ⟨w0, w2, rfl, f1⟩
    · have hr := rd_take m (j := t - a) f1 (by omega)
      unfold body5 at h2 ⊢
      rw [if_pos rfl] at h2 ⊢
      rw [hr]; exact h2
    · have hr := rd_take m (j := t - k) f1 (by omega)
      unfold body5 at h2 ⊢
      rw [if_neg (by omega), if_pos rfl] at h2 ⊢
      rw [hr]
      rw [if_neg (by simpa using f1)] at h2 ⊢
      split at h2
      · cases h2
      · rw [if_neg (by rw [hl]; omega)]; exact h2
    · unfold body5
      rw [if_neg w0, if_neg w2, if_neg (by rw [hl]; omega), ← f1]
theorem rec5_take {l : List UInt8} {n w : Int} {a t : Nat} (h : rec5 l = .inr (n, w, a, t)) : rec5 (l.take t) = .inr (n, w, a, t) := by
  rcases rec5_cases l with ⟨c, h', _⟩ | ⟨n', w', k, a', t', h', htg, hr, hb, g1, g2, g3, g4, g5, hrd⟩
  · rw [h'] at h; cases h
  · rw [h'] at h
    cases h
    have hr1 := rd_take l (j := t) (by rw [hrd]) (by rw [hrd]; simp only; omega)
    have e : tg (l.take t) = (n, w, (k : Int), 0) := by
      have := tg_append (l.take t) (l.drop t) (by rw [hr1, hrd])
      rw [List.take_append_drop, htg] at this
      exact this.symm
    unfold rec5
    rw [e]
    simp only [ne_eq, not_true_eq_false, if_false, Int.toNat_natCast]
    rw [List.drop_take, body5_take hb]
theorem spl_mem (b : List UInt8) (base : Nat) (l : List UInt8) : l = b.drop base → base ≤ b.length → ∀ r ∈ (spl base l).1, ∃ (n w : Int) (f a t : Nat), r = ⟨n, w, (f : Int), ((f + a : Nat) : Int), ((f + t : Nat) : Int)⟩ ∧ rec5 (b.drop f) = .inr (n, w, a, t) ∧ 1 ≤ a ∧ a ≤ t ∧ f + t ≤ b.length := by
  refine spl_ind (fun base l => l = b.drop base → base ≤ b.length → ∀ r ∈ (spl base l).1, ∃ (n w : Int) (f a t : Nat), r = ⟨n, w, (f : Int), ((f + a : Nat) : Int), ((f + t : Nat) : Int)⟩ ∧ rec5 (b.drop f) = .inr (n, w, a, t) ∧ 1 ≤ a ∧ a ≤ t ∧ f + t ≤ b.length) ?_ ?_ ?_ base l
  · intro base _ _ r hr; rw [spl_nil] at hr; cases hr
  · intro base l c hl h _ _ _ r hr; rw [spl_err hl h] at hr; cases hr
  · intro base l n w a t hl h _ g1 g2 g3 ih hld hbase r hr
    have hlen : l.length = b.length - base := by rw [hld]; simp
    rw [spl_cons hl h] at hr
    rcases List.mem_cons.1 hr with rfl | hr
    · exact ⟨n, w, base, a, t, rfl, by rw [← hld]; exact h, g1, g2, by omega⟩
    · exact ih (by rw [hld, List.drop_drop]) (by omega) r hr
end Go.Proofs.Ytdpolccecmaajaa
namespace Go.Proofs.Ytdpolccecmaajaa
open Go
set_option linter.unusedVariables false
def kRight (k : Int) : Bool := decide (1 ≤ k ∧ k ≤ 17)
def kNum (k : Int) : Bool := decide (1 ≤ k ∧ k ≤ 14)
def kWire (k : Int) : Int := if 15 ≤ k then 2 else if 12 ≤ k then 1 else if 9 ≤ k then 5 else 0
theorem refKRight_is (k : Int) : darningref06_Right k = some (kRight k) := by unfold darningref06_Right kRight; simp [Bool.decide_and]
theorem refKNum_is (k : Int) : darningref06_Number k = some (kNum k) := by unfold darningref06_Number kNum; simp [Bool.decide_and]
theorem refKWire_is (k : Int) : darningref06_Wire k = some (kWire k) := by
  unfold darningref06_Wire kWire
  by_cases h1 : 15 ≤ k
  · rw [itT (by simpa using h1), if_pos h1]
  · rw [itF (by simpa using h1), if_neg h1]
    by_cases h2 : 12 ≤ k
    · rw [itT (by simpa using h2), if_pos h2]
    · rw [itF (by simpa using h2), if_neg h2]
      by_cases h3 : 9 ≤ k
      · rw [itT (by simpa using h3), if_pos h3]
      · rw [itF (by simpa using h3), if_neg h3]
end Go.Proofs.Ytdpolccecmaajaa
namespace Go.Proofs.Ytdpolccecmaajaa
open Go
set_option linter.unusedVariables false
abbrev Fld := T_Name_Number_Kind_Repeated_Packed_Of
abbrev Mes := T_Name_Fields
def firstI {α : Type} (p : α → Bool) (l : List α) : Int := match l.findIdx? p with
  | some i => (i : Int)
  | none => -1
theorem firstI_none {α : Type} {p : α → Bool} {l : List α} (h : l.findIdx? p = none) : firstI p l = -1 := by unfold firstI; rw [h]
theorem firstI_some {α : Type} {p : α → Bool} {l : List α} {i : Nat} (h : l.findIdx? p = some i) : firstI p l = (i : Int) := by unfold firstI; rw [h]
theorem find_loop {α : Type} (p : α → Bool) (l : List α) (F : Int → Option (Unit ⊕ Int)) (h0 : F (l.length : Int) = some (.inl ())) (hs : ∀ (i : Nat) (h : i < l.length), F (i : Int) = if p l[i] then some (.inr (i : Int)) else F ((i + 1 : Nat) : Int)) :
    ∀ (d i : Nat), i + d = l.length → (∀ j (h : j < l.length), j < i → p l[j] = false) → F (i : Int) = some (match l.findIdx? p with | some k => .inr (k : Int) | none => .inl ()) := by
  intro d
  induction d with
  | zero =>
    intro i hi hj
    have : i = l.length := by omega
    subst this
    have hn : l.findIdx? p = none := by
      rw [List.findIdx?_eq_none_iff]
      intro x hx
      obtain ⟨j, hj', rfl⟩ := List.getElem_of_mem hx
      exact hj j hj' hj'
    rw [h0, hn]
  | succ d ih =>
    intro i hi hj
    have hil : i < l.length := by omega
    rw [hs i hil]
    by_cases hp : p l[i] = true
    · have hf : l.findIdx? p = some i := by
        rw [List.findIdx?_eq_some_iff_getElem]
        exact ⟨hil, hp, fun j hji => by simpa using hj j (by omega) hji⟩
      rw [if_pos hp, hf]
    · rw [if_neg hp]
      refine ih (i + 1) (by omega) fun j h hji => ?_
      by_cases e : j = i
      · subst e; simpa using hp
      · exact hj j h (by omega)
def fldI (m : Mes) (number : Int) : Int := firstI (fun f : Fld => f.Number == number) m.Fields
theorem refField_is {m : Mes} (hm : m.Fields.length ≤ 1152921504606846976) (number : Int) : darningref07_Field m number = some (fldI m number) := by
  unfold darningref07_Field fldI
  have h := find_loop (fun f : Fld => f.Number == number) m.Fields (fun i => darningref07_Field_l1 m number i) (by
      refine darningref07_Field_l1_inr ?_
      unfold darningref07_Field_b1
      rw [itF (by simp)])
    (fun i hi => by
      have hb : darningref07_Field_b1 m number i = if ((m.Fields[i]).Number == number) = true then some (.inr (.inr (i : Int))) else some (.inl ((i + 1 : Nat) : Int)) := by
        unfold darningref07_Field_b1
        rw [itT (by simp; omega), idx_of rfl hi, sb, wrap_i64 (by omega)]; rfl
      by_cases hp : ((m.Fields[i]).Number == number) = true
      · rw [if_pos hp] at hb ⊢; exact darningref07_Field_l1_inr hb
      · rw [if_neg hp] at hb ⊢; exact darningref07_Field_l1_inl hb)
    m.Fields.length 0 (by omega) (fun j _ hj => by omega)
  have h' : darningref07_Field_l1 m number 0 = _ := h
  rw [h', sb]
  unfold firstI
  cases m.Fields.findIdx? (fun f : Fld => f.Number == number) <;> rfl
def nmc (i : Nat) (c : UInt8) : Bool := decide (65 ≤ c.toNat ∧ c.toNat ≤ 90 ∨ 97 ≤ c.toNat ∧ c.toNat ≤ 122 ∨ c.toNat = 95 ∨ 0 < i ∧ 48 ≤ c.toNat ∧ c.toNat ≤ 57)
def nmA : Nat → List UInt8 → Bool
  | _, [] => true
  | i, c :: l => nmc i c && nmA (i + 1) l
def nameOk (s : List UInt8) : Bool := nmA 0 s && decide (1 ≤ s.length ∧ s.length ≤ 60)
structure FldOk (n : Int) (f : Fld) : Prop where
  name : nameOk f.Name = true
  lo : 1 ≤ f.Number
  hi : f.Number ≤ 536870911
  kind : kRight f.Kind = true
  packed : f.Packed = true → f.Repeated = true ∧ kNum f.Kind = true
  sub : f.Kind = 17 → 0 ≤ f.Of ∧ f.Of < n
  noSub : f.Kind ≠ 17 → f.Of = 0
structure Right7 (s : List Mes) : Prop where
  len : 1 ≤ s.length ∧ s.length ≤ 100
  name : ∀ m ∈ s, nameOk m.Name = true
  names : ∀ (i j : Nat) (a b : Mes), i < j → s[i]? = some a → s[j]? = some b → a.Name ≠ b.Name
  few : ∀ m ∈ s, m.Fields.length ≤ 200
  fld : ∀ m ∈ s, ∀ f ∈ m.Fields, FldOk s.length f
  nums : ∀ m ∈ s, ∀ (i j : Nat) (f g : Fld), i < j → m.Fields[i]? = some f → m.Fields[j]? = some g → f.Number ≠ g.Number ∧ f.Name ≠ g.Name
def before (κ : Int → Int) (a b : Int) : Prop := κ a < κ b ∨ κ a = κ b ∧ a < b
end Go.Proofs.Ytdpolccecmaajaa
namespace Go.Proofs.Ytdpolccecmaajaa
open Go
set_option linter.unusedVariables false
abbrev Vw := T_R_Field_Run
def zvw : Vw := ⟨zrec, 0, false⟩
def fldAt (m : Mes) (i : Int) : Fld := m.Fields.getD i.toNat ⟨[], 0, 0, false, false, 0⟩
def vw (m : Mes) (n w : Int) : Int ⊕ (Int × Bool) :=
  if fldI m n < 0 then .inr (-1, false)
  else if (fldAt m (fldI m n)).Repeated = true ∧ kNum (fldAt m (fldI m n)).Kind = true ∧ w = 2 then .inr (fldI m n, true)
  else if kRight (fldAt m (fldI m n)).Kind = false ∨ kWire (fldAt m (fldI m n)).Kind ≠ w then .inl 6 else .inr (fldI m n, false)
theorem fldI_cases (m : Mes) (n : Int) : fldI m n = -1 ∧ (∀ f ∈ m.Fields, f.Number ≠ n) ∨ ∃ (i : Nat) (h : i < m.Fields.length), fldI m n = i ∧ m.Fields[i].Number = n ∧ ∀ (j : Nat) (h : j < m.Fields.length), j < i → m.Fields[j].Number ≠ n := by
  unfold fldI
  cases h : m.Fields.findIdx? (fun f : Fld => f.Number == n) with
  | none =>
    left
    rw [List.findIdx?_eq_none_iff] at h
    exact ⟨firstI_none (List.findIdx?_eq_none_iff.2 h), fun f hf => by simpa using h f hf⟩
  | some i =>
    right
    have h' := h
    rw [List.findIdx?_eq_some_iff_getElem] at h
    obtain ⟨hi, hp, hj⟩ := h
    exact ⟨i, hi, firstI_some h', by simpa using hp, fun j hjl hji => by simpa using hj j hji⟩
theorem fldAt_of {m : Mes} {i : Nat} (h : i < m.Fields.length) : fldAt m (i : Int) = m.Fields[i] := by
  unfold fldAt; rw [Int.toNat_natCast, List.getD_eq_getElem?_getD, List.getElem?_eq_getElem h]; rfl
theorem vw_cases (m : Mes) (n w : Int) : vw m n w = .inl 6 ∨ vw m n w = .inr (-1, false) ∧ fldI m n = -1 ∨ ∃ (i : Nat) (run : Bool), vw m n w = .inr ((i : Int), run) ∧ fldI m n = i ∧ i < m.Fields.length := by
  unfold vw
  rcases fldI_cases m n with ⟨h, _⟩ | ⟨i, hi, h, _⟩
  · right; left; rw [h, if_pos (by omega)]; exact ⟨rfl, rfl⟩
  · rw [h, if_neg (by omega)]
    split
    · right; right; exact ⟨i, true, rfl, rfl, hi⟩
    · split
      · left; rfl
      · right; right; exact ⟨i, false, rfl, rfl, hi⟩
def look10 (m : Mes) (b : List UInt8) (at5 : Int) : Vw × Int :=
  if (next5 b at5).2 ≠ 0 then (zvw, (next5 b at5).2) else match vw m (next5 b at5).1.Number (next5 b at5).1.Wire with
    | .inl c => (zvw, c)
    | .inr (i, run) => (⟨(next5 b at5).1, i, run⟩, 0)
theorem refLook_is {m : Mes} (hm : m.Fields.length ≤ 1152921504606846976) {b : List UInt8} (hb : b.length ≤ 1048576) (at5 : Int) : darningref10_Look m b at5 = some (look10 m b at5) := by
  unfold darningref10_Look look10
  rw [refNext_is hb, sb]
  by_cases h : (next5 b at5).2 = 0
  · rw [itF (by simpa using h), if_neg (by simpa using h), refField_is hm, sb]
    generalize (next5 b at5).1 = r
    unfold vw
    rcases fldI_cases m r.Number with ⟨hf, _⟩ | ⟨i, hi, hf, _⟩
    · rw [hf, itT (by rfl), if_pos (by decide)]
    · rw [hf, itF (by simp), if_neg (by omega), idx_of rfl hi, sb, fldAt_of hi, refKNum_is, sb, refKRight_is, sb, refKWire_is, sb]
      have e : (if (m.Fields[i]).Repeated = true then (if kNum (m.Fields[i]).Kind = true then some (r.Wire == 2) else some false) else some false) = some (decide ((m.Fields[i]).Repeated = true ∧ kNum (m.Fields[i]).Kind = true ∧ r.Wire = 2)) := by
        cases (m.Fields[i]).Repeated
        · rfl
        · cases kNum (m.Fields[i]).Kind
          · rfl
          · by_cases hw : r.Wire = 2 <;> simp [hw]
      rw [e, sb]
      by_cases h1 : (m.Fields[i]).Repeated = true ∧ kNum (m.Fields[i]).Kind = true ∧ r.Wire = 2
      · rw [itT (decide_eq_true h1), if_pos h1]
      · rw [itF (decide_eq_false h1), if_neg h1]
        have e2 : (if (!kRight (m.Fields[i]).Kind) = true then some true else some (kWire (m.Fields[i]).Kind != r.Wire)) = some (decide (kRight (m.Fields[i]).Kind = false ∨ kWire (m.Fields[i]).Kind ≠ r.Wire)) := by
          cases kRight (m.Fields[i]).Kind
          · rfl
          · by_cases hw : kWire (m.Fields[i]).Kind = r.Wire <;> simp [hw]
        rw [e2, sb]
        by_cases h2 : kRight (m.Fields[i]).Kind = false ∨ kWire (m.Fields[i]).Kind ≠ r.Wire
        · rw [itT (decide_eq_true h2), if_pos h2]; rfl
        · rw [itF (decide_eq_false h2), if_neg h2]
  · rw [itT (by simpa using h), if_pos h]; rfl
def vws (m : Mes) (e : Option (Nat × Int)) : List Rec → List Vw × Option (Int × Int)
  | [] => ([], e.map fun p => ((p.1 : Int), p.2))
  | r :: l => match vw m r.Number r.Wire with
    | .inl c => ([], some (r.From, c))
    | .inr (i, run) => (⟨r, i, run⟩ :: (vws m e l).1, (vws m e l).2)
def vwR (r : List Vw × Option (Int × Int)) : List Vw × Int × Int := match r.2 with
  | none => (r.1, 0, 0)
  | some (p, c) => ([], p, c)
def all10 (m : Mes) (b : List UInt8) : List Vw × Int × Int := vwR (vws m (spl 0 b).2 (spl 0 b).1)
theorem refAll_loop {m : Mes} (hm : m.Fields.length ≤ 1152921504606846976) {b : List UInt8} (hb : b.length ≤ 1048576) (base : Nat) (l : List UInt8) : ∀ (out : List Vw), base ≤ b.length → l = b.drop base → out.length ≤ base →
    darningref10_All_l1 b m out base = some (match (vws m (spl base l).2 (spl base l).1).2 with | none => .inl (out ++ (vws m (spl base l).2 (spl base l).1).1) | some (p, c) => .inr (p, c)) := by
  refine spl_ind (fun base l => ∀ (out : List Vw), base ≤ b.length → l = b.drop base → out.length ≤ base →
    darningref10_All_l1 b m out base = some (match (vws m (spl base l).2 (spl base l).1).2 with | none => .inl (out ++ (vws m (spl base l).2 (spl base l).1).1) | some (p, c) => .inr (p, c))) ?_ ?_ ?_ base l
  · intro base out hbase hl ho
    have : b.length ≤ base := by have := congrArg List.length hl; simp at this; omega
    rw [spl_nil]
    simp only [vws, Option.map_none, List.append_nil]
    refine darningref10_All_l1_inr ?_
    unfold darningref10_All_b1
    rw [itF (by simp; omega)]
  · intro base l c hl h hc out hbase hld ho
    subst hld
    have hlt : base < b.length := by have := List.length_pos_iff.2 hl; simp at this; omega
    rw [spl_err hl h]
    simp only [vws, Option.map_some]
    refine darningref10_All_l1_inr ?_
    unfold darningref10_All_b1
    have e : next5 b base = (zrec, c) := by unfold next5; rw [if_neg (by omega), Int.toNat_natCast, h]
    have e2 : look10 m b base = (zvw, c) := by unfold look10; rw [e, if_pos (by simp only; omega)]
    rw [itT (by simp; omega), refLook_is hm hb, sb, e2, itT (by simp; omega)]
  · intro base l n w a t hl h _ g1 g2 g3 ih out hbase hld ho
    subst hld
    simp only [List.length_drop] at g3
    have hlt : base < b.length := by omega
    rw [spl_cons hl h]
    have e : next5 b base = (⟨n, w, base, (base + a : Nat), (base + t : Nat)⟩, 0) := by
      unfold next5; rw [if_neg (by omega), Int.toNat_natCast, h]; push_cast; rfl
    rw [vws]
    rcases vw_cases m n w with hv | ⟨hv, _⟩ | ⟨i, run, hv, _, hi⟩
    · have e2 : look10 m b base = (zvw, 6) := by unfold look10; rw [e]; simp only [ne_eq, not_true_eq_false, if_false, hv]
      simp only [hv]
      refine darningref10_All_l1_inr ?_
      unfold darningref10_All_b1
      rw [itT (by simp; omega), refLook_is hm hb, sb, e2, itT (by rfl)]
    · have e2 : look10 m b base = (⟨⟨n, w, base, (base + a : Nat), (base + t : Nat)⟩, -1, false⟩, 0) := by unfold look10; rw [e]; simp only [ne_eq, not_true_eq_false, if_false, hv]
      simp only [hv]
      refine (darningref10_All_l1_inl (out' := out ++ [⟨⟨n, w, base, (base + a : Nat), (base + t : Nat)⟩, -1, false⟩]) (atv' := ((base + t : Nat) : Int)) ?_).trans ?_
      · unfold darningref10_All_b1
        rw [itT (by simp; omega), refLook_is hm hb, sb, e2, itF (by rfl), app_of (by simp; omega), sb]
      · rw [ih _ (by omega) (by rw [List.drop_drop]) (by simp; omega)]
        simp only [List.append_assoc, List.singleton_append]
    · have e2 : look10 m b base = (⟨⟨n, w, base, (base + a : Nat), (base + t : Nat)⟩, i, run⟩, 0) := by unfold look10; rw [e]; simp only [ne_eq, not_true_eq_false, if_false, hv]
      simp only [hv]
      refine (darningref10_All_l1_inl (out' := out ++ [⟨⟨n, w, base, (base + a : Nat), (base + t : Nat)⟩, i, run⟩]) (atv' := ((base + t : Nat) : Int)) ?_).trans ?_
      · unfold darningref10_All_b1
        rw [itT (by simp; omega), refLook_is hm hb, sb, e2, itF (by rfl), app_of (by simp; omega), sb]
      · rw [ih _ (by omega) (by rw [List.drop_drop]) (by simp; omega)]
        simp only [List.append_assoc, List.singleton_append]
theorem refAll10_is {m : Mes} (hm : m.Fields.length ≤ 1152921504606846976) {b : List UInt8} (hb : b.length ≤ 1048576) : darningref10_All m b = some (all10 m b) := by
  unfold darningref10_All
  have h := refAll_loop hm hb 0 b [] (Nat.zero_le _) rfl (Nat.le_refl _)
  have h' : darningref10_All_l1 b m [] 0 = _ := h
  rw [h', sb]
  unfold all10 vwR
  cases (vws m (spl 0 b).2 (spl 0 b).1).2 with
  | none => rfl
  | some p => rfl
end Go.Proofs.Ytdpolccecmaajaa
namespace Go.Proofs.Ytdpolccecmaajaa
open Go
set_option linter.unusedVariables false
abbrev PVw := T_Record_Field_Run
def prV (v : Vw) : PVw := ⟨v.R, v.Field, v.Run⟩
def raw10 (b : List UInt8) (r : Rec) : List UInt8 := (b.drop r.From.toNat).take (r.To.toNat - r.From.toNat)
def of10 (m : Mes) (b : List UInt8) (n : Int) : List Vw := (all10 m b).1.filter fun v => v.R.Number == n
def unk10 (m : Mes) (b : List UInt8) : List (List UInt8) := ((all10 m b).1.filter fun v => decide (v.Field < 0)).map fun v => raw10 b v.R
def drop10 (m : Mes) (b : List UInt8) : List UInt8 := ((all10 m b).1.filter fun v => !decide (v.Field < 0)).flatMap fun v => raw10 b v.R
theorem vws_code (m : Mes) {e : Option (Nat × Int)} (he : ∀ p c, e = some (p, c) → 3 ≤ c ∧ c ≤ 5) : ∀ (l : List Rec) (p c : Int), (vws m e l).2 = some (p, c) → 3 ≤ c ∧ c ≤ 6
  | [], p, c, h => by
    cases e with
    | none => cases h
    | some q =>
      simp only [vws, Option.map_some, Option.some.injEq, Prod.mk.injEq] at h
      have := he q.1 q.2 rfl
      omega
  | r :: l, p, c, h => by
    rw [vws] at h
    rcases vw_cases m r.Number r.Wire with hv | ⟨hv, _⟩ | ⟨i, run, hv, _⟩
    · simp only [hv, Option.some.injEq, Prod.mk.injEq] at h; omega
    · simp only [hv] at h; exact vws_code m he l p c h
    · simp only [hv] at h; exact vws_code m he l p c h
theorem spl_he (b : List UInt8) : ∀ p c, (spl 0 b).2 = some (p, c) → 3 ≤ c ∧ c ≤ 5 := fun p c h => by
  have := (spl_code 0 b p c h).1; omega
theorem all10_cases (m : Mes) (b : List UInt8) : (all10 m b).2.2 = 0 ∧ (vws m (spl 0 b).2 (spl 0 b).1).2 = none ∧ (all10 m b).1 = (vws m (spl 0 b).2 (spl 0 b).1).1 ∧ (all10 m b).2.1 = 0 ∨ (3 ≤ (all10 m b).2.2 ∧ (all10 m b).2.2 ≤ 6) ∧ (all10 m b).1 = [] := by
  unfold all10 vwR
  cases h : (vws m (spl 0 b).2 (spl 0 b).1).2 with
  | none => exact .inl ⟨rfl, rfl, rfl, rfl⟩
  | some q => exact .inr ⟨vws_code m (spl_he b) _ q.1 q.2 h, rfl⟩
theorem vws_none {m : Mes} {e : Option (Nat × Int)} : ∀ {l : List Rec}, (vws m e l).2 = none → e = none ∧ (vws m e l).1.map (·.R) = l
  | [], h => by
    cases e with
    | none => exact ⟨rfl, rfl⟩
    | some q => simp [vws] at h
  | r :: l, h => by
    rw [vws] at h ⊢
    rcases vw_cases m r.Number r.Wire with hv | ⟨hv, _⟩ | ⟨i, run, hv, _⟩
    · simp only [hv] at h; cases h
    · simp only [hv] at h ⊢
      have := vws_none h
      exact ⟨this.1, by simp [this.2]⟩
    · simp only [hv] at h ⊢
      have := vws_none h
      exact ⟨this.1, by simp [this.2]⟩
theorem vwsB_mem {m : Mes} {e : Option (Nat × Int)} : ∀ {l : List Rec}, ∀ v ∈ (vws m e l).1, v.R ∈ l ∧ vw m v.R.Number v.R.Wire = .inr (v.Field, v.Run)
  | [], v, h => by cases h
  | r :: l, v, h => by
    rw [vws] at h
    rcases vw_cases m r.Number r.Wire with hv | ⟨hv, _⟩ | ⟨i, run, hv, _⟩
    · simp only [hv] at h; cases h
    all_goals
      simp only [hv] at h
      rcases List.mem_cons.1 h with rfl | h
      · exact ⟨List.mem_cons_self, hv⟩
      · have := vwsB_mem v h
        exact ⟨List.mem_cons_of_mem _ this.1, this.2⟩
theorem v10_mem {m : Mes} {b : List UInt8} {v : Vw} (h : v ∈ (all10 m b).1) : v.R ∈ (spl 0 b).1 ∧ vw m v.R.Number v.R.Wire = .inr (v.Field, v.Run) := by
  rcases all10_cases m b with ⟨_, _, e, _⟩ | ⟨_, e⟩
  · rw [e] at h; exact vwsB_mem v h
  · rw [e] at h; cases h
theorem vw_fi {m : Mes} {n w i : Int} {run : Bool} (h : vw m n w = .inr (i, run)) : i < 0 ↔ fldI m n < 0 := by
  rcases vw_cases m n w with hv | ⟨hv, h2⟩ | ⟨j, r, hv, h2, h3⟩
  · rw [hv] at h; cases h
  · rw [hv] at h; cases h; omega
  · rw [hv] at h; cases h; omega
theorem spl_raws10 (b : List UInt8) (base : Nat) (l : List UInt8) : l = b.drop base → base ≤ b.length → (spl base l).2 = none → (spl base l).1.flatMap (raw10 b) = l := by
  refine spl_ind (fun base l => l = b.drop base → base ≤ b.length → (spl base l).2 = none → (spl base l).1.flatMap (raw10 b) = l) ?_ ?_ ?_ base l
  · intro base _ _ _; rw [spl_nil]; rfl
  · intro base l c hl h _ _ _ hn; rw [spl_err hl h] at hn; cases hn
  · intro base l n w a t hl h _ g1 g2 g3 ih hld hbase hn
    have hlen : l.length = b.length - base := by rw [hld]; simp
    rw [spl_cons hl h] at hn ⊢
    have ih' := ih (by rw [hld, List.drop_drop]) (by omega) hn
    have hr : raw10 b ⟨n, w, (base : Int), ((base + a : Nat) : Int), ((base + t : Nat) : Int)⟩ = l.take t := by
      unfold raw10
      simp only [Int.toNat_natCast]
      rw [← hld, show base + t - base = t by omega]
    rw [List.flatMap_cons, hr, ih', List.take_append_drop]
theorem raw10_rec {b : List UInt8} {r : Rec} (h : r ∈ (spl 0 b).1) : ∃ a, rec5 (raw10 b r) = .inr (r.Number, r.Wire, a, (raw10 b r).length) := by
  obtain ⟨n, w, f, a, t, hre, hrec, h1, h2, h3⟩ := spl_mem b 0 b rfl (Nat.zero_le _) r h
  have hl : ((b.drop f).take t).length = t := by simp; omega
  have hraw : raw10 b r = (b.drop f).take t := by
    unfold raw10; rw [hre]; simp only [Int.toNat_natCast]
    rw [show f + t - f = t by omega]
  refine ⟨a, ?_⟩
  rw [hraw, hl, hre]
  exact rec5_take hrec
theorem spl_whole : ∀ (L : List (List UInt8)) (base : Nat), (∀ p ∈ L, ∃ n w a, rec5 p = .inr (n, w, a, p.length)) → (spl base L.flatten).2 = none ∧ ∀ r ∈ (spl base L.flatten).1, ∃ p ∈ L, ∃ a, rec5 p = .inr (r.Number, r.Wire, a, p.length)
  | [], base, _ => by
    rw [List.flatten_nil, spl_nil]
    exact ⟨rfl, fun r hr => by cases hr⟩
  | p :: L, base, h => by
    obtain ⟨n, w, a, hp⟩ := h p List.mem_cons_self
    have hne : p ≠ [] := by
      rintro rfl
      rcases rec5_cases [] with ⟨c, hc, _⟩ | ⟨_, _, kk, _, _, _, _, _, _, g1, g2, _⟩
      · rw [hc] at hp; cases hp
      · simp at g2; omega
    have ih := spl_whole L (base + p.length) fun q hq => h q (List.mem_cons_of_mem _ hq)
    rw [List.flatten_cons, spl_cons (by simp [hne]) (rec5_append p L.flatten hp), List.drop_left]
    refine ⟨ih.1, fun r hr => ?_⟩
    rcases List.mem_cons.1 hr with rfl | hr
    · exact ⟨p, List.mem_cons_self, a, hp⟩
    · obtain ⟨q, hq, x⟩ := ih.2 r hr
      exact ⟨q, List.mem_cons_of_mem _ hq, x⟩
theorem unk_drop (m : Mes) (b : List UInt8) : unk10 m (drop10 m b) = [] := by
  have hw : ∀ p ∈ ((all10 m b).1.filter fun v => !decide (v.Field < 0)).map (fun v => raw10 b v.R), ∃ n w a, rec5 p = .inr (n, w, a, p.length) ∧ 0 ≤ fldI m n := by
    intro p hp
    obtain ⟨v, hv, rfl⟩ := List.mem_map.1 hp
    obtain ⟨hv1, hv2⟩ := List.mem_filter.1 hv
    obtain ⟨k1, k2⟩ := v10_mem hv1
    obtain ⟨a, ha⟩ := raw10_rec k1
    have h0 : ¬ v.Field < 0 := by simpa using hv2
    have := vw_fi k2
    exact ⟨_, _, a, ha, by omega⟩
  have hs := spl_whole _ 0 fun p hp => (hw p hp).imp fun n h => h.imp fun w h => h.imp fun a h => h.1
  unfold unk10
  have hf : (all10 m (drop10 m b)).1.filter (fun v => decide (v.Field < 0)) = [] := by
    refine List.filter_eq_nil_iff.2 fun v hv => ?_
    obtain ⟨k1, k2⟩ := v10_mem hv
    have e : drop10 m b = (((all10 m b).1.filter fun v => !decide (v.Field < 0)).map (fun v => raw10 b v.R)).flatten := by unfold drop10; rw [List.flatMap_def]
    rw [e] at k1
    obtain ⟨p, hp, a, ha⟩ := hs.2 _ k1
    obtain ⟨n, w, a', ha', h0⟩ := hw p hp
    rw [ha] at ha'
    cases ha'
    have := vw_fi k2
    simp; omega
  rw [hf]; rfl
theorem len_split {α : Type} (p : α → Bool) (f : α → List UInt8) : ∀ l : List α, ((l.filter fun v => !p v).flatMap f).length + (((l.filter p).map f).map List.length).sum = (l.flatMap f).length
  | [] => rfl
  | x :: l => by
    have ih := len_split p f l
    cases hp : p x
    · simp only [List.filter_cons, hp, Bool.not_false, if_true, List.flatMap_cons, List.length_append, Bool.false_eq_true, if_false]
      omega
    · simp only [List.filter_cons, hp, Bool.not_true, if_true, List.flatMap_cons, List.length_append, Bool.false_eq_true, if_false, List.map_cons, List.sum_cons]
      omega
theorem split10 {m : Mes} {b : List UInt8} (h : (all10 m b).2.2 = 0) : (drop10 m b).length + ((unk10 m b).map List.length).sum = b.length := by
  rcases all10_cases m b with ⟨_, hn, e, _⟩ | ⟨hc, _⟩
  · obtain ⟨e1, e2⟩ := vws_none hn
    unfold drop10 unk10
    rw [len_split (fun v : Vw => decide (v.Field < 0)) (fun v => raw10 b v.R), e]
    have := spl_raws10 b 0 b rfl (Nat.zero_le _) e1
    rw [← List.flatMap_map (f := fun v : Vw => v.R) (g := raw10 b), e2, this]
  · omega
theorem vw_find (m : Mes) (n w : Int) : vw m n w = match m.Fields.find? (fun f : Fld => f.Number == n) with
    | none => .inr (-1, false)
    | some f => if f.Repeated = true ∧ kNum f.Kind = true ∧ w = 2 then .inr (fldI m n, true) else if kRight f.Kind = false ∨ kWire f.Kind ≠ w then .inl 6 else .inr (fldI m n, false) := by
  unfold vw
  rcases fldI_cases m n with ⟨h, hn⟩ | ⟨i, hi, h, hp, hj⟩
  · have : m.Fields.find? (fun f : Fld => f.Number == n) = none := List.find?_eq_none.2 fun f hf => by simpa using hn f hf
    rw [this, h, if_pos (by omega)]
  · have : m.Fields.find? (fun f : Fld => f.Number == n) = some m.Fields[i] := by
      rw [List.find?_eq_some_iff_getElem]
      exact ⟨by simpa using hp, i, hi, rfl, fun j hji => by have := hj j (by omega) hji; simpa using this⟩
    rw [this, h, if_neg (by omega), fldAt_of hi]
theorem fldI_find (m : Mes) (n : Int) : fldI m n < 0 ↔ m.Fields.find? (fun f : Fld => f.Number == n) = none := by
  rcases fldI_cases m n with ⟨h, hn⟩ | ⟨i, hi, h, hp, hj⟩
  · have : m.Fields.find? (fun f : Fld => f.Number == n) = none := List.find?_eq_none.2 fun f hf => by simpa using hn f hf
    simp [this, h]
  · have : m.Fields.find? (fun f : Fld => f.Number == n) = some m.Fields[i] := by
      rw [List.find?_eq_some_iff_getElem]
      exact ⟨by simpa using hp, i, hi, rfl, fun j hji => by have := hj j (by omega) hji; simpa using this⟩
    rw [this]
    simp; omega
def less10 (m : Mes) (i : Nat) : Mes := ⟨m.Name, m.Fields.take i ++ m.Fields.drop (i + 1)⟩
theorem find_less {m : Mes} {i : Nat} (hi : i < m.Fields.length) {n : Int} (hn : n ≠ m.Fields[i].Number) : (less10 m i).Fields.find? (fun f : Fld => f.Number == n) = m.Fields.find? (fun f : Fld => f.Number == n) := by
  have e : m.Fields = m.Fields.take i ++ m.Fields[i] :: m.Fields.drop (i + 1) := by
    rw [List.getElem_cons_drop, List.take_append_drop]
  show (m.Fields.take i ++ m.Fields.drop (i + 1)).find? _ = _
  rw [List.find?_append]
  have e2 : m.Fields.find? (fun f : Fld => f.Number == n) = (m.Fields.take i ++ m.Fields[i] :: m.Fields.drop (i + 1)).find? (fun f : Fld => f.Number == n) := congrArg _ e
  rw [e2, List.find?_append, List.find?_cons]
  have : (m.Fields[i].Number == n) = false := by simpa using fun h => hn h.symm
  rw [this]
theorem vws_less {m : Mes} {i : Nat} (hi : i < m.Fields.length) (hl : fldI (less10 m i) m.Fields[i].Number < 0) {e : Option (Nat × Int)} : ∀ {l : List Rec}, (vws m e l).2 = none → (vws (less10 m i) e l).2 = none ∧
    (vws (less10 m i) e l).1.map (fun v => (v.R, decide (v.Field < 0))) = (vws m e l).1.map (fun v => (v.R, decide (v.Field < 0) || v.R.Number == m.Fields[i].Number))
  | [], h => ⟨h, rfl⟩
  | r :: l, h => by
    have hm : fldI m m.Fields[i].Number ≥ 0 := by
      rcases Int.lt_or_le (fldI m m.Fields[i].Number) 0 with h0 | h0
      · rw [fldI_find, List.find?_eq_none] at h0
        exact absurd (by simp) (h0 _ (List.getElem_mem hi))
      · exact h0
    by_cases hn : r.Number = m.Fields[i].Number
    · have hvl : vw (less10 m i) r.Number r.Wire = .inr (-1, false) := by rw [vw_find, hn, (fldI_find _ _).1 hl]
      rw [vws] at h
      rw [vws, vws]
      simp only [hvl]
      rcases vw_cases m r.Number r.Wire with hv | ⟨hv, h2⟩ | ⟨j, run, hv, h2, _⟩
      · simp only [hv] at h; cases h
      · rw [hn] at h2; omega
      · simp only [hv] at h ⊢
        have ih := vws_less hi hl h
        refine ⟨ih.1, ?_⟩
        rw [List.map_cons, List.map_cons, ih.2]
        simp [hn]
    · have hf := find_less hi hn
      have hs : fldI (less10 m i) r.Number < 0 ↔ fldI m r.Number < 0 := by rw [fldI_find, fldI_find, hf]
      have hb : (r.Number == m.Fields[i].Number) = false := by simpa using hn
      rw [vws] at h
      rw [vws, vws]
      have hvl := vw_find (less10 m i) r.Number r.Wire
      have hv := vw_find m r.Number r.Wire
      rw [hf] at hvl
      cases hq : m.Fields.find? (fun f : Fld => f.Number == r.Number) with
      | none =>
        rw [hq] at hvl hv
        simp only [hvl, hv] at h ⊢
        have ih := vws_less hi hl h
        refine ⟨ih.1, ?_⟩
        rw [List.map_cons, List.map_cons, ih.2]
        simp [hb]
      | some f =>
        have h0 : ¬ fldI m r.Number < 0 := by rw [fldI_find, hq]; simp
        have h1 : ¬ fldI (less10 m i) r.Number < 0 := by rw [hs]; exact h0
        rw [hq] at hvl hv
        simp only at hvl hv
        by_cases k1 : f.Repeated = true ∧ kNum f.Kind = true ∧ r.Wire = 2
        · rw [if_pos k1] at hvl hv
          simp only [hvl, hv] at h ⊢
          have ih := vws_less hi hl h
          refine ⟨ih.1, ?_⟩
          rw [List.map_cons, List.map_cons, ih.2]
          simp [hb, h0, h1]
        · rw [if_neg k1] at hvl hv
          by_cases k2 : kRight f.Kind = false ∨ kWire f.Kind ≠ r.Wire
          · rw [if_pos k2] at hvl hv
            simp only [hv] at h; cases h
          · rw [if_neg k2] at hvl hv
            simp only [hvl, hv] at h ⊢
            have ih := vws_less hi hl h
            refine ⟨ih.1, ?_⟩
            rw [List.map_cons, List.map_cons, ih.2]
            simp [hb, h0, h1]
theorem filter_len {α β : Type} (f : α → β) (p : β → Bool) (l : List α) : (l.filter fun x => p (f x)).length = ((l.map f).filter p).length := by
  induction l with
  | nil => rfl
  | cons x l ih => cases h : p (f x) <;> simp [h, ih]
theorem less_all {m : Mes} {i : Nat} (hi : i < m.Fields.length) (hl : fldI (less10 m i) m.Fields[i].Number < 0) {b : List UInt8} (h : (all10 m b).2.2 = 0) :
    (all10 (less10 m i) b).2.2 = 0 ∧ (all10 (less10 m i) b).1.length = (all10 m b).1.length ∧ (of10 (less10 m i) b m.Fields[i].Number).length = (of10 m b m.Fields[i].Number).length ∧
    (unk10 (less10 m i) b).length = (unk10 m b).length + (of10 m b m.Fields[i].Number).length := by
  rcases all10_cases m b with ⟨_, hn, e, _⟩ | ⟨hc, _⟩
  · obtain ⟨k1, k2⟩ := vws_less hi hl hn
    have e2 : (all10 (less10 m i) b).2.2 = 0 ∧ (all10 (less10 m i) b).1 = (vws (less10 m i) (spl 0 b).2 (spl 0 b).1).1 := by
      unfold all10 vwR; rw [k1]; exact ⟨rfl, rfl⟩
    rw [← e2.2, ← e] at k2
    have hm : fldI m m.Fields[i].Number ≥ 0 := by
      rcases Int.lt_or_le (fldI m m.Fields[i].Number) 0 with h0 | h0
      · rw [fldI_find, List.find?_eq_none] at h0
        exact absurd (by simp) (h0 _ (List.getElem_mem hi))
      · exact h0
    refine ⟨e2.1, ?_, ?_, ?_⟩
    · have := congrArg List.length k2
      simpa using this
    · unfold of10
      rw [filter_len (fun v : Vw => (v.R, decide (v.Field < 0))) (fun q : Rec × Bool => q.1.Number == m.Fields[i].Number), k2, ← filter_len]
    · unfold unk10 of10
      rw [List.length_map, List.length_map, filter_len (fun v : Vw => (v.R, decide (v.Field < 0))) (fun q : Rec × Bool => q.2), k2, ← filter_len]
      have hdis : ∀ v ∈ (all10 m b).1, ¬ (v.Field < 0 ∧ v.R.Number = m.Fields[i].Number) := fun v hv hh => by
        have := vw_fi (v10_mem hv).2
        rw [hh.2] at this
        omega
      clear k2 e e2 k1 hn
      generalize (all10 m b).1 = L at hdis ⊢
      induction L with
      | nil => rfl
      | cons v l ih =>
        have ih := ih fun x hx => hdis x (List.mem_cons_of_mem _ hx)
        have hv := hdis v List.mem_cons_self
        simp only [List.filter_cons] at ih ⊢
        by_cases h1 : v.Field < 0
        · have h2 : (v.R.Number == m.Fields[i].Number) = false := by simpa using fun hh => hv ⟨h1, hh⟩
          simp only [h1, h2, decide_true, Bool.true_or, if_true, List.length_cons, Bool.false_eq_true, if_false]
          omega
        · by_cases h2 : v.R.Number = m.Fields[i].Number
          · simp only [h1, h2, decide_false, Bool.false_or, beq_self_eq_true, if_true, List.length_cons, Bool.false_eq_true, if_false]
            omega
          · have h2' : (v.R.Number == m.Fields[i].Number) = false := by simpa using h2
            simp only [h1, h2', decide_false, Bool.or_false, Bool.false_eq_true, if_false]
            exact ih
  · omega
end Go.Proofs.Ytdpolccecmaajaa
namespace Go.Proofs.Ytdpolccecmaajaa
open Go
set_option linter.unusedVariables false
def namesL : List Str := [[], [105, 110, 116, 51, 50], [105, 110, 116, 54, 52], [117, 105, 110, 116, 51, 50], [117, 105, 110, 116, 54, 52], [115, 105, 110, 116, 51, 50], [115, 105, 110, 116, 54, 52], [98, 111, 111, 108], [101, 110, 117, 109], [102, 105, 120, 101, 100, 51, 50], [115, 102, 105, 120, 101, 100, 51, 50], [102, 108, 111, 97, 116], [102, 105, 120, 101, 100, 54, 52], [115, 102, 105, 120, 101, 100, 54, 52], [100, 111, 117, 98, 108, 101], [115, 116, 114, 105, 110, 103], [98, 121, 116, 101, 115], [109, 101, 115, 115, 97, 103, 101]]
def kName (k : Int) : Str := (namesL[k.toNat]?).getD []
def kT : List (Int × T_name_wire) := [(1, ⟨[105, 110, 116, 51, 50], 0⟩), (2, ⟨[105, 110, 116, 54, 52], 0⟩), (3, ⟨[117, 105, 110, 116, 51, 50], 0⟩), (4, ⟨[117, 105, 110, 116, 54, 52], 0⟩), (5, ⟨[115, 105, 110, 116, 51, 50], 0⟩), (6, ⟨[115, 105, 110, 116, 54, 52], 0⟩), (7, ⟨[98, 111, 111, 108], 0⟩), (8, ⟨[101, 110, 117, 109], 0⟩), (9, ⟨[102, 105, 120, 101, 100, 51, 50], 5⟩), (10, ⟨[115, 102, 105, 120, 101, 100, 51, 50], 5⟩), (11, ⟨[102, 108, 111, 97, 116], 5⟩), (12, ⟨[102, 105, 120, 101, 100, 54, 52], 1⟩), (13, ⟨[115, 102, 105, 120, 101, 100, 54, 52], 1⟩), (14, ⟨[100, 111, 117, 98, 108, 101], 1⟩), (15, ⟨[115, 116, 114, 105, 110, 103], 2⟩), (16, ⟨[98, 121, 116, 101, 115], 2⟩), (17, ⟨[109, 101, 115, 115, 97, 103, 101], 2⟩)]
theorem kinds_is : kind_kinds = some kT := rfl
theorem right_cases {k : Int} (h : kRight k = true) : k = 1 ∨ k = 2 ∨ k = 3 ∨ k = 4 ∨ k = 5 ∨ k = 6 ∨ k = 7 ∨ k = 8 ∨ k = 9 ∨ k = 10 ∨ k = 11 ∨ k = 12 ∨ k = 13 ∨ k = 14 ∨ k = 15 ∨ k = 16 ∨ k = 17 := by
  have := of_decide_eq_true h
  omega
theorem kT_get {k : Int} (h : kRight k = true) : mget kT k = some ⟨kName k, kWire k⟩ := by
  rcases right_cases h with rfl | rfl | rfl | rfl | rfl | rfl | rfl | rfl | rfl | rfl | rfl | rfl | rfl | rfl | rfl | rfl | rfl <;> rfl
theorem kT_keys {e : Int × T_name_wire} (h : e ∈ kT) : kRight e.1 = true ∧ e.2 = ⟨kName e.1, kWire e.1⟩ := by
  have : kT.all (fun e => kRight e.1 && decide (e.2 = ⟨kName e.1, kWire e.1⟩)) = true := by decide
  have h1 := List.all_eq_true.1 this e h
  simp only [Bool.and_eq_true, decide_eq_true_eq] at h1
  exact h1
theorem kT_none {k : Int} (h : kRight k = false) : mget kT k = none := by
  cases hg : mget kT k with
  | none => rfl
  | some x =>
    have mem : ∀ {m : List (Int × T_name_wire)} {x : T_name_wire}, mget m k = some x → (k, x) ∈ m := fun {m x} hg => by
      induction m with
      | nil => cases hg
      | cons p m ih =>
        rw [mget] at hg
        split at hg
        · rename_i e; cases hg; rw [e]; exact List.mem_cons_self
        · exact List.mem_cons_of_mem _ (ih hg)
    have h1 := (kT_keys (mem hg)).1
    simp only at h1
    rw [h] at h1
    cases h1
theorem kwire_is (k : Int) : kind_Wire k = some (if kRight k then (kWire k, 0) else (0, 2)) := by
  unfold kind_Wire
  rw [kinds_is, sb]
  cases h : kRight k with
  | true => rw [kT_get h]; rfl
  | false => rw [kT_none h]; rfl
theorem knumber_is (k : Int) : kind_Number k = some (kNum k) := by
  unfold kind_Number
  rw [kwire_is, sb]
  cases h : kRight k with
  | true =>
    rcases right_cases h with rfl | rfl | rfl | rfl | rfl | rfl | rfl | rfl | rfl | rfl | rfl | rfl | rfl | rfl | rfl | rfl | rfl <;> rfl
  | false =>
    have h1 := of_decide_eq_false h
    have : kNum k = false := decide_eq_false (by omega)
    rw [this]
    rfl
end Go.Proofs.Ytdpolccecmaajaa
namespace Go.Proofs.Ytdpolccecmaajaa
open Go
theorem tright_is (t : T_Number_Wire) : tag_Right t = some (tRight t.Number t.Wire) := by
  have e : tag_rightWire t.Wire = some (decide (t.Wire = 0 ∨ t.Wire = 1 ∨ t.Wire = 2 ∨ t.Wire = 5)) := by
    unfold tag_rightWire
    by_cases h0 : t.Wire = 0
    · simp [h0]
    by_cases h1 : t.Wire = 1
    · simp [h1]
    by_cases h2 : t.Wire = 2
    · simp [h2]
    by_cases h5 : t.Wire = 5
    · simp [h5]
    simp [h0, h1, h2, h5]
  unfold tag_Right tRight
  rw [e]
  by_cases h1 : 1 ≤ t.Number
  · by_cases h2 : t.Number ≤ 536870911
    · rw [itT (by simpa using h1), itT (by simpa using h2), sb, sb]; simp [h1, h2]
    · rw [itT (by simpa using h1), itF (by simpa using h2), sb]; simp [h2]
  · rw [itF (by simpa using h1), sb]; simp [h1]
theorem and_7 (w : Nat) (h : w < 18446744073709551616) : andI .u64 (w : Int) 7 = ((w % 8 : Nat) : Int) := by
  have e := andI_nat (k := .u64) rfl (a := w) (b := 7) (by simpa [IntKind.bits] using h) (by simp [IntKind.bits])
  have e2 : w &&& 7 = w % 8 := Nat.and_two_pow_sub_one_eq_mod w 3
  rw [e2] at e; exact e
theorem shr_3 (w : Nat) : shrI .u64 (w : Int) 3 = ((w / 8 : Nat) : Int) := shrI_nat (k := .u64) (a := w) (b := 3) (by simp [IntKind.bits])
theorem tread_is (b : List UInt8) : tag_Read b = some ((⟨(tg b).1, (tg b).2.1⟩ : T_Number_Wire), (tg b).2.2.1, (tg b).2.2.2) := by
  obtain ⟨h1, h2, h3, h4, h5, h6, h7⟩ := rd_bounds b
  unfold tag_Read tg
  rw [read_is, sb]
  by_cases h : (rd b).2.2 = 0
  · rw [itF (by simpa using h)]
    obtain ⟨w, hw⟩ : ∃ w : Nat, (rd b).1 = w := ⟨(rd b).1.toNat, by omega⟩
    rw [hw] at h2 ⊢
    rw [shr_3, and_7 w (by omega)]
    have e0 : IntKind.i64.wrap ((w % 8 : Nat) : Int) = (w : Int) % 8 := by rw [wrap_i64 (by omega)]; omega
    by_cases hg : 4294967295 < w
    · have e1 : IntKind.i64.wrap (if (536870912 : Int) < ((w / 8 : Nat) : Int) then 536870912 else ((w / 8 : Nat) : Int)) = 536870912 := by
        split
        · rfl
        · rw [wrap_i64 (by omega)]; omega
      rw [e0, e1, tright_is, sb]
      have e2 : tRight 536870912 ((w : Int) % 8) = false := by simp [tRight]
      simp only [e2]
      rw [itT (by rfl), tgR_none h (.inl (by rw [hw]; omega))]
    · have e1 : IntKind.i64.wrap (if (536870912 : Int) < ((w / 8 : Nat) : Int) then 536870912 else ((w / 8 : Nat) : Int)) = (w : Int) / 8 := by
        rw [if_neg (by omega), wrap_i64 (by omega)]; omega
      rw [e0, e1, tright_is, sb]
      simp only
      cases ht : tRight ((w : Int) / 8) ((w : Int) % 8)
      · rw [itT (by rfl), tgR_none h (.inr (by rw [hw]; exact ht))]
      · rw [itF (by rfl), tgR_ok h (by rw [hw, ht]; simp; omega), hw]
  · rw [itT (by simpa using h), tgR_err h]
end Go.Proofs.Ytdpolccecmaajaa
namespace Go.Proofs.Ytdpolccecmaajaa
open Go
theorem drop_cons {α : Type} {l t : List α} {x : α} {k : Nat} (h : l.drop k = x :: t) : ∃ hk : k < l.length, l[k] = x ∧ l.drop (k + 1) = t := by
  have hk : k < l.length := by
    rcases Nat.lt_or_ge k l.length with h' | h'
    · exact h'
    · rw [List.drop_eq_nil_of_le h'] at h; cases h
  rw [List.drop_eq_getElem_cons hk] at h
  injection h with h1 h2
  exact ⟨hk, h1, h2⟩
theorem concat_loop1 (l : List (List UInt8)) (hl : l.length ≤ 1099511627776) : ∀ (t : List (List UInt8)) (k s : Nat), l.drop k = t → s + t.flatten.length ≤ 1099511627776 →
    slices_Concat___byte_byte__l1 l s k = some ((s + t.flatten.length : Nat) : Int) := by
  intro t
  induction t with
  | nil =>
    intro k s hd _
    have hk : l.length ≤ k := by have := congrArg List.length hd; simp at this; omega
    refine slices_Concat___byte_byte__l1_inr ?_
    unfold slices_Concat___byte_byte__b1
    rw [itF (by simp; omega)]
    simp
  | cons x t ih =>
    intro k s hd hs
    obtain ⟨hk, hx, hd'⟩ := drop_cons hd
    simp only [List.flatten_cons, List.length_append] at hs
    refine (slices_Concat___byte_byte__l1_inl (size' := ((s + x.length : Nat) : Int)) (v' := ((k + 1 : Nat) : Int)) ?_).trans ?_
    · unfold slices_Concat___byte_byte__b1
      rw [itT (by simp; omega), idx_of rfl hk, sb, hx, wrap_i64 (by omega), itF (by simp; omega), wrap_i64 (by omega)]
      push_cast; rfl
    · rw [ih _ _ hd' (by omega)]
      simp only [List.flatten_cons, List.length_append]
      congr 2; omega
theorem concat_loop2 (l : List (List UInt8)) (hl : l.length ≤ 1099511627776) : ∀ (t : List (List UInt8)) (k : Nat) (acc : List UInt8), l.drop k = t → acc.length + t.flatten.length ≤ 1099511627776 →
    slices_Concat___byte_byte__l2 l acc k = some (acc ++ t.flatten) := by
  intro t
  induction t with
  | nil =>
    intro k acc hd _
    have hk : l.length ≤ k := by have := congrArg List.length hd; simp at this; omega
    refine slices_Concat___byte_byte__l2_inr ?_
    unfold slices_Concat___byte_byte__b2
    rw [itF (by simp; omega)]
    simp
  | cons x t ih =>
    intro k acc hd hs
    obtain ⟨hk, hx, hd'⟩ := drop_cons hd
    simp only [List.flatten_cons, List.length_append] at hs
    refine (slices_Concat___byte_byte__l2_inl (newslice' := acc ++ x) (v2' := ((k + 1 : Nat) : Int)) ?_).trans ?_
    · unfold slices_Concat___byte_byte__b2
      rw [itT (by simp; omega), idx_of rfl hk, sb, hx, app_of (by omega), sb, wrap_i64 (by omega)]
      push_cast; rfl
    · rw [ih _ _ hd' (by rw [List.length_append]; omega)]
      simp
theorem grow_is {n : Nat} (h : n ≤ 1099511627776) : slices_Grow___byte_byte_ (n : Int) = some [] := by
  unfold slices_Grow___byte_byte_
  have e : IntKind.i64.wrap ((n : Int) - IntKind.i64.wrap (0 - 0)) = n := by rw [wrap_i64 (x := 0 - 0) (by omega), wrap_i64 (by omega)]; omega
  rw [itF (by simp), e]
  by_cases h0 : (n : Int) > 0
  · rw [itT (by simpa using h0), mkO_of (a := n) rfl (Int.le_refl _) (by omega), sb]
    have e0 : cut (List.replicate n (0 : UInt8)) 0 0 = some [] := cut_take (b := 0) rfl (Nat.zero_le _)
    rw [e0, sb]
  · rw [itF (by simpa using h0)]
theorem concat_is {l : List (List UInt8)} (hl : l.length ≤ 1099511627776) (h : l.flatten.length ≤ 1099511627776) : slices_Concat___byte_byte_ l = some l.flatten := by
  unfold slices_Concat___byte_byte_
  have h1 := concat_loop1 l hl l 0 0 rfl (by omega)
  have h1' : slices_Concat___byte_byte__l1 l 0 0 = _ := h1
  have h2 := concat_loop2 l hl l 0 [] rfl (by simpa using h)
  have h2' : slices_Concat___byte_byte__l2 l [] 0 = _ := h2
  rw [h1', sb, grow_is (by omega), sb, h2', sb]
  simp
end Go.Proofs.Ytdpolccecmaajaa
namespace Go.Proofs.Ytdpolccecmaajaa
open Go
theorem span_is {w : Int} {b : List UInt8} (hw : w = 0 ∨ w = 1 ∨ w = 2 ∨ w = 5) (hb : b.length ≤ 1048576) :
    record_span w b = some (match body5 w 0 b with | .inl c => (0, (if w = 0 then (rd b).2.1 else 0), c) | .inr (a, t) => ((a : Int), (t : Int), 0)) := by
  obtain ⟨h1, h2, h3, h4, h5, h6, h7⟩ := rd_bounds b
  unfold record_span body5
  rcases hw with rfl | rfl | rfl | rfl
  · rw [itT (by rfl), skip_is, sb, if_pos rfl]
    by_cases h : (rd b).2.2 = 0
    · rw [if_neg (by simpa using h)]
      simp only [h, Nat.zero_add]
      congr 3
      simp; omega
    · rw [if_pos h]; rfl
  · rw [itF (by rfl), itT (by rfl), sb, itF (by rfl), if_neg (show ¬ ((1 : Int) = 0) by omega), if_neg (show ¬ ((1 : Int) = 2) by omega)]
    simp only
    have e : IntKind.u64.wrap (IntKind.i64.wrap ((b.length : Int) - 0)) = (b.length : Int) := by rw [wrap_i64 (by omega), wrap_u64]; omega
    rw [e]
    by_cases g : b.length < 8
    · rw [itT (by simp; omega), if_pos (by simpa using g)]; rfl
    · rw [itF (by simp; omega), if_neg (by simpa using g)]; rfl
  · rw [itF (by rfl), itF (by rfl), itF (by rfl), itT (by rfl), read_is, sb, sb, if_neg (show ¬ ((2 : Int) = 0) by omega), if_pos (show (2 : Int) = 2 from rfl)]
    by_cases h : (rd b).2.2 = 0
    · have hk := h7 h
      rw [itF (by simpa using h), if_neg (show ¬ ((rd b).2.2 ≠ 0) from fun g => g h)]
      simp only
      have e : IntKind.u64.wrap (IntKind.i64.wrap ((b.length : Int) - (rd b).2.1)) = (b.length : Int) - (rd b).2.1 := by rw [wrap_i64 (by omega), wrap_u64]; omega
      rw [e]
      by_cases g : (b.length : Int) - (rd b).2.1 < (rd b).1
      · rw [itT (by simpa using g), if_pos g]; rfl
      · rw [itF (by simpa using g), if_neg g, wrap_i64 (x := (rd b).1) (by omega), wrap_i64 (by omega)]
        simp; omega
    · rw [itT (by simpa using h), if_pos h]; rfl
  · rw [itF (by rfl), itF (by rfl), itT (by rfl), sb, itF (by rfl), if_neg (show ¬ ((5 : Int) = 0) by omega), if_neg (show ¬ ((5 : Int) = 2) by omega)]
    simp only
    have e : IntKind.u64.wrap (IntKind.i64.wrap ((b.length : Int) - 0)) = (b.length : Int) := by rw [wrap_i64 (by omega), wrap_u64]; omega
    rw [e]
    by_cases g : b.length < 4
    · rw [itT (by simp; omega), if_pos (by simpa using g)]; rfl
    · rw [itF (by simp; omega), if_neg (by simpa using g)]; rfl
theorem body5_shift (w : Int) (k : Nat) (m : List UInt8) : body5 w k m = match body5 w 0 m with | .inl c => .inl c | .inr (a, t) => .inr (k + a, k + t) := by
  unfold body5
  repeat' split
  all_goals first
    | rfl
    | (rename_i h1 h2; injection h2 with h3; injection h3 with h4 h5; subst h4 h5; simp <;> omega)
    | simp_all <;> omega
theorem next_is {b : List UInt8} (hb : b.length ≤ 1048576) (at5 : Int) : record_Next b at5 = some (next5 b at5) := by
  unfold record_Next next5
  by_cases h : at5 < 0 ∨ at5 ≥ b.length
  · rw [itT (by simpa using h), if_pos h]; rfl
  · rw [itF (by simpa using h), if_neg h]
    obtain ⟨p, rfl⟩ : ∃ p : Nat, at5 = p := ⟨at5.toNat, by omega⟩
    rw [cut_drop rfl rfl (by omega), sb, tread_is, sb, Int.toNat_natCast]
    have hdl : (b.drop p).length = b.length - p := by simp
    rcases tg_cases (b.drop p) with ⟨c, ht, hc⟩ | ⟨n, w, k, ht, hr, k1, k2, k3, hrd⟩
    · have e : rec5 (b.drop p) = .inl c := by unfold rec5; rw [ht, if_pos (by simp only; omega)]
      rw [e, ht, itT (by simp; omega)]; rfl
    · obtain ⟨k, rfl⟩ : ∃ j : Nat, k = j := ⟨k.toNat, by omega⟩
      have e : rec5 (b.drop p) = match body5 w k ((b.drop p).drop k) with
        | .inl c => .inl c
        | .inr p => .inr (n, w, p.1, p.2) := by unfold rec5; rw [ht]; simp <;> rfl
      have hdd : (b.drop p).drop k = b.drop (p + k) := by rw [List.drop_drop]
      have hml : (b.drop (p + k)).length = b.length - (p + k) := by simp
      have ew : IntKind.i64.wrap ((p : Int) + k) = ((p + k : Nat) : Int) := by rw [wrap_i64 (by omega)]; push_cast; rfl
      rw [e, ht, itF (by simp), hdd]
      simp only [ew]
      rw [cut_drop rfl rfl (by omega), sb, span_is (tRight_iff.1 hr).2.2 (by omega), sb, body5_shift w k]
      rcases body5_cases w 0 (b.drop (p + k)) with ⟨c, hc, hc2⟩ | ⟨a, t, hc, _, _, hle, _⟩
      · rw [hc]
        simp only
        rw [itT (by simp; omega)]; rfl
      · rw [hc]
        simp only
        rw [itF (by rfl), wrap_i64 (by omega), wrap_i64 (by omega)]
        simp only [Option.some.injEq, Prod.mk.injEq, T_Number_Wire_From_At_To.mk.injEq, true_and, and_true]
        push_cast
        omega
def spn (b : List UInt8) (i j : Int) : List UInt8 := if i < 0 ∨ i > j ∨ j > b.length then [] else (b.drop i.toNat).take (j.toNat - i.toNat)
theorem piece_is {b : List UInt8} (hb : b.length ≤ 1048576) (i j : Int) : record_piece b i j = some (spn b i j) := by
  unfold record_piece spn
  by_cases h : i < 0 ∨ i > j ∨ j > b.length
  · rw [itT (by simpa using h), if_pos h]
  · rw [itF (by simpa using h), if_neg h, cut_of (a := i.toNat) (b := j.toNat) (by omega) (by omega) (by omega) (by omega), sb, concat_is (by simp) (by simp; omega), sb]
    simp
end Go.Proofs.Ytdpolccecmaajaa
namespace Go.Proofs.Ytdpolccecmaajaa
open Go
set_option linter.unusedVariables false
abbrev Head := T_number_wire
abbrev Role := T_field_run_e
def rol (m : Mes) (h : Head) : Role := match vw m h.number h.wire with
  | .inl c => ⟨0, false, c⟩
  | .inr (i, run) => ⟨i, run, 0⟩
theorem vfirst_is {m : Mes} (hm : m.Fields.length ≤ 1152921504606846976) (n : Int) : view_first m n = some (fldI m n) := by
  unfold view_first slices_IndexFunc___api_Field_api_Field___view_first_1
  have h := find_loop (fun f : Fld => f.Number == n) m.Fields (fun i => slices_IndexFunc___api_Field_api_Field___view_first_1_l1 m.Fields n i) (slices_IndexFunc___api_Field_api_Field___view_first_1_l1_inr (by unfold slices_IndexFunc___api_Field_api_Field___view_first_1_b1; rw [itF (by simp)])) (fun i hi => by
    by_cases hp : (m.Fields[i].Number == n) = true
    · rw [if_pos hp]; exact slices_IndexFunc___api_Field_api_Field___view_first_1_l1_inr (by unfold slices_IndexFunc___api_Field_api_Field___view_first_1_b1 view_first_1; rw [itT (by simp; omega), idx_of rfl hi, sb, sb, itT hp])
    · rw [if_neg hp]; exact slices_IndexFunc___api_Field_api_Field___view_first_1_l1_inl (by unfold slices_IndexFunc___api_Field_api_Field___view_first_1_b1 view_first_1; rw [itT (by simp; omega), idx_of rfl hi, sb, sb, itF (eq_false_of_ne_true hp), wrap_i64 (by omega)]; rfl)) m.Fields.length 0 (by omega) (fun j _ h => by omega)
  have h' : slices_IndexFunc___api_Field_api_Field___view_first_1_l1 m.Fields n 0 = _ := h
  rw [h', sb]
  unfold fldI firstI
  cases m.Fields.findIdx? (fun f : Fld => f.Number == n) with
  | none => rfl
  | some i => rfl
theorem visrun_is (f : Fld) (w : Int) : view_isRun f w = some (decide (f.Repeated = true ∧ kNum f.Kind = true ∧ w = 2)) := by
  unfold view_isRun
  cases f.Repeated
  · simp [sb]
  · by_cases hw : w = 2
    · subst hw
      rw [itT rfl, itT (c := (2 : Int) == 2) rfl, knumber_is, sb, sb]
      cases kNum f.Kind <;> rfl
    · rw [itT rfl, itF (by simpa using hw), sb]
      simp [hw]
theorem vfits_is (k w : Int) : view_fits k w = some (decide (¬ (kRight k = false ∨ kWire k ≠ w))) := by
  unfold view_fits
  rw [kwire_is, sb]
  cases kRight k with
  | false => rfl
  | true =>
    by_cases h : kWire k = w <;> simp [h]
theorem vassign_is {m : Mes} (hm : m.Fields.length ≤ 1152921504606846976) (h : Head) : view_assign m h = some (rol m h) := by
  unfold view_assign rol
  rw [vfirst_is hm, sb]
  unfold vw
  rcases fldI_cases m h.number with ⟨hf, _⟩ | ⟨i, hi, hf, _⟩
  · rw [hf, itT (by rfl), if_pos (by decide)]
  · rw [hf, itF (by simp), if_neg (by omega), idx_of rfl hi, sb, fldAt_of hi, visrun_is, sb]
    by_cases h1 : (m.Fields[i]).Repeated = true ∧ kNum (m.Fields[i]).Kind = true ∧ h.wire = 2
    · rw [if_pos h1, decide_eq_true h1]
      rfl
    · rw [if_neg h1, decide_eq_false h1, itT (by rfl), vfits_is, sb, sb]
      by_cases h2 : kRight (m.Fields[i]).Kind = false ∨ kWire (m.Fields[i]).Kind ≠ h.wire
      · rw [if_pos h2, itT (by rw [decide_eq_false (fun g => g h2)]; rfl)]
      · rw [if_neg h2, itF (by rw [decide_eq_true h2]; rfl)]
def Met10 (m : Mes) (met : List (Head × Role)) : Prop := ∀ h x, mget met h = some x → x = rol m h
theorem Met10.nil (m : Mes) : Met10 m [] := fun h x g => by cases g
theorem Met10.put {m : Mes} {met : List (Head × Role)} (g : Met10 m met) (h : Head) : Met10 m (mput met h (rol m h)) := fun j x hx => by
  rw [mget_mput] at hx
  by_cases e : j = h
  · rw [if_pos e] at hx; rw [e]; exact (Option.some.inj hx).symm
  · rw [if_neg e] at hx; exact g j x hx
theorem look_met {m : Mes} (hm : m.Fields.length ≤ 1152921504606846976) {b : List UInt8} (hb : b.length ≤ 1048576) (p : Int) {met : List (Head × Role)} (g : Met10 m met) :
    ∃ met', view_look m b p met = some (prV (look10 m b p).1, (look10 m b p).2, met') ∧ Met10 m met' := by
  unfold view_look look10
  rw [next_is hb, sb]
  by_cases h : (next5 b p).2 = 0
  · rw [itF (by simpa using h), if_neg (show ¬ ((next5 b p).2 ≠ 0) from fun q => q h)]
    generalize (next5 b p).1 = r
    have key : ∃ met', (if (!(mget met (⟨r.Number, r.Wire⟩ : Head)).isSome) then (view_assign m (⟨r.Number, r.Wire⟩ : Head) >>= fun rv2 => some ((mput met (⟨r.Number, r.Wire⟩ : Head) rv2), rv2.field, rv2.run, rv2.e))
        else some (met, ((mget met (⟨r.Number, r.Wire⟩ : Head)).getD (⟨0, false, 0⟩ : Role)).field, ((mget met (⟨r.Number, r.Wire⟩ : Head)).getD (⟨0, false, 0⟩ : Role)).run, ((mget met (⟨r.Number, r.Wire⟩ : Head)).getD (⟨0, false, 0⟩ : Role)).e)) = some (met', (rol m ⟨r.Number, r.Wire⟩).field, (rol m ⟨r.Number, r.Wire⟩).run, (rol m ⟨r.Number, r.Wire⟩).e) ∧ Met10 m met' := by
      cases hg : mget met (⟨r.Number, r.Wire⟩ : Head) with
      | none =>
        rw [itT (by rfl), vassign_is hm, sb]
        exact ⟨_, rfl, g.put _⟩
      | some x =>
        rw [itF (by rfl)]
        refine ⟨met, ?_, g⟩
        rw [← g _ x hg]
        rfl
    obtain ⟨met', hk, hM⟩ := key
    refine ⟨met', ?_, hM⟩
    rw [hk, sb]
    unfold rol
    rcases vw_cases m r.Number r.Wire with hv | ⟨hv, _⟩ | ⟨i, run, hv, _⟩
    · simp only [hv]; rfl
    · simp only [hv]; rfl
    · simp only [hv]; rfl
  · rw [itT (by simpa using h), if_pos h]
    exact ⟨met, rfl, g⟩
theorem vlook_is {m : Mes} (hm : m.Fields.length ≤ 1152921504606846976) {b : List UInt8} (hb : b.length ≤ 1048576) (p : Int) : view_Look m b p = some (prV (look10 m b p).1, (look10 m b p).2) := by
  obtain ⟨met', h, _⟩ := look_met hm hb p (Met10.nil m)
  unfold view_Look
  rw [h, sb]
theorem vall_loop {m : Mes} (hm : m.Fields.length ≤ 1152921504606846976) {b : List UInt8} (hb : b.length ≤ 1048576) (base : Nat) (l : List UInt8) : ∀ (out : List Vw) (met : List (Head × Role)), base ≤ b.length → l = b.drop base → out.length ≤ base → Met10 m met →
    view_All_l1 b m (out.map prV) met base = some (match (vws m (spl base l).2 (spl base l).1).2 with | none => .inl ((out ++ (vws m (spl base l).2 (spl base l).1).1).map prV) | some (p, c) => .inr (p, c)) := by
  refine spl_ind (fun base l => ∀ (out : List Vw) (met : List (Head × Role)), base ≤ b.length → l = b.drop base → out.length ≤ base → Met10 m met →
    view_All_l1 b m (out.map prV) met base = some (match (vws m (spl base l).2 (spl base l).1).2 with | none => .inl ((out ++ (vws m (spl base l).2 (spl base l).1).1).map prV) | some (p, c) => .inr (p, c))) ?_ ?_ ?_ base l
  · intro base out met hbase hl ho hM
    have : b.length ≤ base := by have := congrArg List.length hl; simp at this; omega
    rw [spl_nil]
    simp only [vws, Option.map_none, List.append_nil]
    refine view_All_l1_inr ?_
    unfold view_All_b1
    rw [itF (by simp; omega)]
  · intro base l c hl h hc out met hbase hld ho hM
    subst hld
    have hlt : base < b.length := by have := List.length_pos_iff.2 hl; simp at this; omega
    rw [spl_err hl h]
    simp only [vws, Option.map_some]
    refine view_All_l1_inr ?_
    unfold view_All_b1
    have e : next5 b base = (zrec, c) := by unfold next5; rw [if_neg (by omega), Int.toNat_natCast, h]
    have e2 : look10 m b base = (zvw, c) := by unfold look10; rw [e, if_pos (by simp only; omega)]
    obtain ⟨met', hk, _⟩ := look_met hm hb base hM
    rw [itT (by simp; omega), hk, sb, e2, itT (by simp; omega)]
  · intro base l n w a t hl h _ g1 g2 g3 ih out met hbase hld ho hM
    subst hld
    simp only [List.length_drop] at g3
    have hlt : base < b.length := by omega
    rw [spl_cons hl h]
    have e : next5 b base = (⟨n, w, base, (base + a : Nat), (base + t : Nat)⟩, 0) := by
      unfold next5; rw [if_neg (by omega), Int.toNat_natCast, h]; push_cast; rfl
    rw [vws]
    obtain ⟨met', hk, hM'⟩ := look_met hm hb base hM
    rcases vw_cases m n w with hv | ⟨hv, _⟩ | ⟨i, run, hv, _, hi⟩
    · have e2 : look10 m b base = (zvw, 6) := by unfold look10; rw [e]; simp only [ne_eq, not_true_eq_false, if_false, hv]
      simp only [hv]
      refine view_All_l1_inr ?_
      unfold view_All_b1
      rw [itT (by simp; omega), hk, sb, e2, itT (by rfl)]
    · have e2 : look10 m b base = (⟨⟨n, w, base, (base + a : Nat), (base + t : Nat)⟩, -1, false⟩, 0) := by unfold look10; rw [e]; simp only [ne_eq, not_true_eq_false, if_false, hv]
      simp only [hv]
      refine (view_All_l1_inl (l' := (out ++ ([⟨⟨n, w, base, (base + a : Nat), (base + t : Nat)⟩, -1, false⟩] : List Vw)).map prV) (met' := met') (fromv' := ((base + t : Nat) : Int)) ?_).trans ?_
      · unfold view_All_b1
        rw [itT (by simp; omega), hk, sb, e2, itF (by rfl), app_of (by simp; omega), sb, List.map_append]
        rfl
      · rw [ih _ met' (by omega) (by rw [List.drop_drop]) (by simp; omega) hM']
        simp only [List.append_assoc, List.singleton_append]
    · have e2 : look10 m b base = (⟨⟨n, w, base, (base + a : Nat), (base + t : Nat)⟩, i, run⟩, 0) := by unfold look10; rw [e]; simp only [ne_eq, not_true_eq_false, if_false, hv]
      simp only [hv]
      refine (view_All_l1_inl (l' := (out ++ ([⟨⟨n, w, base, (base + a : Nat), (base + t : Nat)⟩, i, run⟩] : List Vw)).map prV) (met' := met') (fromv' := ((base + t : Nat) : Int)) ?_).trans ?_
      · unfold view_All_b1
        rw [itT (by simp; omega), hk, sb, e2, itF (by rfl), app_of (by simp; omega), sb, List.map_append]
        rfl
      · rw [ih _ met' (by omega) (by rw [List.drop_drop]) (by simp; omega) hM']
        simp only [List.append_assoc, List.singleton_append]
theorem vall_is {m : Mes} (hm : m.Fields.length ≤ 1152921504606846976) {b : List UInt8} (hb : b.length ≤ 1048576) : view_All m b = some ((all10 m b).1.map prV, (all10 m b).2.1, (all10 m b).2.2) := by
  unfold view_All
  have h := vall_loop hm hb 0 b [] [] (Nat.zero_le _) rfl (Nat.le_refl _) (Met10.nil m)
  have h' : view_All_l1 b m [] [] 0 = _ := h
  rw [h', sb]
  unfold all10 vwR
  cases (vws m (spl 0 b).2 (spl 0 b).1).2 with
  | none => rfl
  | some p => rfl
theorem mid10 {α : Type} {xs pre post : List α} {v : α} (e : xs = pre ++ v :: post) : idx xs (pre.length : Nat) = some v := by
  subst e
  rw [idx_of rfl (by simp)]
  simp
theorem v10_len (m : Mes) (b : List UInt8) : (all10 m b).1.length ≤ b.length := by
  rcases all10_cases m b with ⟨_, hn, e, _⟩ | ⟨_, e⟩
  · have h := congrArg List.length (vws_none hn).2
    rw [List.length_map] at h
    rw [e, h]
    exact spl_len 0 b
  · rw [e]; simp
theorem v10_at {m : Mes} {b : List UInt8} : ∀ v ∈ (all10 m b).1, ∃ f t : Nat, v.R.From = (f : Int) ∧ v.R.To = ((f + t : Nat) : Int) ∧ f + t ≤ b.length := by
  intro v hv
  obtain ⟨n, w, f, a, t, hre, hrec, h1, h2, h3⟩ := spl_mem b 0 b rfl (Nat.zero_le _) _ (v10_mem hv).1
  exact ⟨f, t, by rw [hre], by rw [hre], h3⟩
theorem v10_fi {m : Mes} {b : List UInt8} : ∀ v ∈ (all10 m b).1, (v.Field == -1) = decide (v.Field < 0) := by
  intro v hv
  have h := (v10_mem hv).2
  rcases vw_cases m v.R.Number v.R.Wire with hv' | ⟨hv', _⟩ | ⟨i, run, hv', _⟩
  · rw [h] at hv'; cases hv'
  · rw [h] at hv'
    simp only [Sum.inr.injEq, Prod.mk.injEq] at hv'
    rw [hv'.1]; rfl
  · rw [h] at hv'
    simp only [Sum.inr.injEq, Prod.mk.injEq] at hv'
    rw [hv'.1, Bool.eq_iff_iff]; simp
theorem of_loop (n : Int) (all : List Vw) (x : Int × Int) (hl : all.length ≤ 1048576) : ∀ (post pre : List Vw), all = pre ++ post →
    view_Of_l1 n (all.map prV, x) ((pre.filter fun v => v.R.Number == n).map prV) (pre.length : Nat) = some ((all.filter fun v => v.R.Number == n).map prV) := by
  intro post
  induction post with
  | nil =>
    intro pre e
    rw [List.append_nil] at e
    subst e
    refine view_Of_l1_inr ?_
    unfold view_Of_b1
    rw [itF (by simp)]
  | cons v post ih =>
    intro pre e
    have hi : idx (all.map prV) (pre.length : Nat) = some (prV v) := by
      have := mid10 (xs := all.map prV) (pre := pre.map prV) (post := post.map prV) (v := prV v) (by rw [e]; simp)
      rwa [List.length_map] at this
    have hlt : pre.length < all.length := by rw [e]; simp
    have k1 : (pre.filter fun v => v.R.Number == n).length ≤ pre.length := List.length_filter_le _ _
    refine (view_Of_l1_inl (l' := ((pre ++ [v]).filter fun v => v.R.Number == n).map prV) (v' := ((pre ++ [v]).length : Nat)) ?_).trans (ih (pre ++ [v]) (by rw [e]; simp))
    unfold view_Of_b1
    rw [itT (by simp; omega), hi, sb]
    by_cases hn : v.R.Number = n
    · rw [itT (by simpa [prV] using hn), app_of (by simp; omega), sb, wrap_i64 (by omega)]
      simp [hn]
    · rw [itF (by simpa [prV] using hn), wrap_i64 (by omega)]
      simp [hn]
theorem vof_is {m : Mes} (hm : m.Fields.length ≤ 1152921504606846976) {b : List UInt8} (hb : b.length ≤ 1048576) (n : Int) : view_Of m b n = some ((of10 m b n).map prV) := by
  have hl := v10_len m b
  have h := of_loop n (all10 m b).1 ((all10 m b).2.1, (all10 m b).2.2) (by omega) (all10 m b).1 [] rfl
  have h' : view_Of_l1 n ((all10 m b).1.map prV, (all10 m b).2.1, (all10 m b).2.2) [] 0 = _ := h
  unfold view_Of
  rw [vall_is hm hb, sb, h', sb]
  rfl
theorem vhas_is {m : Mes} (hm : m.Fields.length ≤ 1152921504606846976) {b : List UInt8} (hb : b.length ≤ 1048576) (n : Int) : view_Has m b n = some ((all10 m b).1.any fun v => v.R.Number == n) := by
  unfold view_Has
  rw [vof_is hm hb, sb, List.length_map]
  congr 1
  unfold of10
  rw [Bool.eq_iff_iff, List.any_eq_true, decide_eq_true_iff]
  constructor
  · intro h
    obtain ⟨v, hv⟩ := List.exists_mem_of_length_pos (show 0 < ((all10 m b).1.filter fun v : Vw => v.R.Number == n).length by omega)
    obtain ⟨v1, v2⟩ := List.mem_filter.1 hv
    exact ⟨v, v1, v2⟩
  · rintro ⟨v, hv, h⟩
    have := List.length_pos_of_mem (List.mem_filter (p := fun v : Vw => v.R.Number == n) |>.2 ⟨hv, h⟩)
    omega
theorem unk_loop {b : List UInt8} (hb : b.length ≤ 1048576) (all : List Vw) (x : Int × Int) (hl : all.length ≤ 1048576) (hat : ∀ v ∈ all, ∃ f t : Nat, v.R.From = (f : Int) ∧ v.R.To = ((f + t : Nat) : Int) ∧ f + t ≤ b.length) (hf : ∀ v ∈ all, (v.Field == -1) = decide (v.Field < 0)) : ∀ (post pre : List Vw), all = pre ++ post →
    view_Unknown_l1 b (all.map prV, x) ((pre.filter fun v => decide (v.Field < 0)).map fun v => raw10 b v.R) (pre.length : Nat) = some ((all.filter fun v => decide (v.Field < 0)).map fun v => raw10 b v.R) := by
  intro post
  induction post with
  | nil =>
    intro pre e
    rw [List.append_nil] at e
    subst e
    refine view_Unknown_l1_inr ?_
    unfold view_Unknown_b1
    rw [itF (by simp)]
  | cons v post ih =>
    intro pre e
    have hi : idx (all.map prV) (pre.length : Nat) = some (prV v) := by
      have := mid10 (xs := all.map prV) (pre := pre.map prV) (post := post.map prV) (v := prV v) (by rw [e]; simp)
      rwa [List.length_map] at this
    have hlt : pre.length < all.length := by rw [e]; simp
    have hmem : v ∈ all := by rw [e]; simp
    have k1 : (pre.filter fun v => decide (v.Field < 0)).length ≤ pre.length := List.length_filter_le _ _
    have hff := hf v hmem
    refine (view_Unknown_l1_inl (l' := ((pre ++ [v]).filter fun v => decide (v.Field < 0)).map fun v => raw10 b v.R) (v' := ((pre ++ [v]).length : Nat)) ?_).trans (ih (pre ++ [v]) (by rw [e]; simp))
    unfold view_Unknown_b1
    rw [itT (by simp; omega), hi, sb]
    by_cases hn : v.Field < 0
    · obtain ⟨f, t, h1, h2, h3⟩ := hat v hmem
      have hw : record_Whole b (prV v).Record = some (raw10 b v.R) := by
        have e2 : (prV v).Record = v.R := rfl
        unfold record_Whole
        rw [e2, piece_is hb]
        unfold spn raw10
        rw [if_neg (by omega), sb]
      rw [itT (by show (v.Field == -1) = true; rw [hff]; simpa using hn), hw, sb, app_of (by simp; omega), sb, wrap_i64 (by omega)]
      simp [hn]
    · rw [itF (by show (v.Field == -1) = false; rw [hff]; simpa using hn), wrap_i64 (by omega)]
      simp [hn]
theorem vunk_is {m : Mes} (hm : m.Fields.length ≤ 1152921504606846976) {b : List UInt8} (hb : b.length ≤ 1048576) : view_Unknown m b = some (unk10 m b) := by
  have hl := v10_len m b
  have h := unk_loop hb (all10 m b).1 ((all10 m b).2.1, (all10 m b).2.2) (by omega) v10_at v10_fi (all10 m b).1 [] rfl
  have h' : view_Unknown_l1 b ((all10 m b).1.map prV, (all10 m b).2.1, (all10 m b).2.2) [] 0 = _ := h
  unfold view_Unknown
  rw [vall_is hm hb, sb, h', sb]
  rfl
theorem all10_sum (m : Mes) (b : List UInt8) : ((all10 m b).1.flatMap fun v => raw10 b v.R).length ≤ b.length := by
  rcases all10_cases m b with ⟨_, hn, e, _⟩ | ⟨_, e⟩
  · obtain ⟨e1, e2⟩ := vws_none hn
    have := spl_raws10 b 0 b rfl (Nat.zero_le _) e1
    rw [e, ← List.flatMap_map (f := fun v : Vw => v.R) (g := raw10 b), e2, this]
    exact Nat.le_refl _
  · rw [e]; simp
theorem filt10 (b : List UInt8) (p : Vw → Bool) : ∀ l : List Vw, ((l.filter p).flatMap fun v => raw10 b v.R).length ≤ (l.flatMap fun v => raw10 b v.R).length
  | [] => Nat.le_refl _
  | x :: l => by
    have ih := filt10 b p l
    cases h : p x <;> simp only [List.filter_cons, h, if_true, Bool.false_eq_true, if_false, List.flatMap_cons, List.length_append] <;> omega
theorem drop_loop {b : List UInt8} (all : List Vw) (x : Int × Int) (hl : all.length ≤ 1048576) (hsum : (all.flatMap fun v => raw10 b v.R).length ≤ 1048576) (hat : ∀ v ∈ all, ∃ f t : Nat, v.R.From = (f : Int) ∧ v.R.To = ((f + t : Nat) : Int) ∧ f + t ≤ b.length) (hf : ∀ v ∈ all, (v.Field == -1) = decide (v.Field < 0)) : ∀ (post pre : List Vw), all = pre ++ post →
    view_Drop_l1 b (all.map prV, x) ((pre.filter fun v => !decide (v.Field < 0)).flatMap fun v => raw10 b v.R) (pre.length : Nat) = some ((all.filter fun v => !decide (v.Field < 0)).flatMap fun v => raw10 b v.R) := by
  intro post
  induction post with
  | nil =>
    intro pre e
    rw [List.append_nil] at e
    subst e
    refine view_Drop_l1_inr ?_
    unfold view_Drop_b1
    rw [itF (by simp)]
  | cons v post ih =>
    intro pre e
    have hi : idx (all.map prV) (pre.length : Nat) = some (prV v) := by
      have := mid10 (xs := all.map prV) (pre := pre.map prV) (post := post.map prV) (v := prV v) (by rw [e]; simp)
      rwa [List.length_map] at this
    have hlt : pre.length < all.length := by rw [e]; simp
    have hmem : v ∈ all := by rw [e]; simp
    have hff := hf v hmem
    have hfl := filt10 b (fun v => !decide (v.Field < 0)) pre
    have hpre : (pre.flatMap fun v => raw10 b v.R).length + (raw10 b v.R).length ≤ 1048576 := by
      have h := hsum
      rw [e, List.flatMap_append, List.flatMap_cons] at h
      simp only [List.length_append] at h
      omega
    refine (view_Drop_l1_inl (c' := ((pre ++ [v]).filter fun v => !decide (v.Field < 0)).flatMap fun v => raw10 b v.R) (v' := ((pre ++ [v]).length : Nat)) ?_).trans (ih (pre ++ [v]) (by rw [e]; simp))
    unfold view_Drop_b1
    rw [itT (by simp; omega), hi, sb]
    have hne : ((prV v).Field != -1) = !decide (v.Field < 0) := by rw [← hff]; rfl
    by_cases hn : v.Field < 0
    · rw [itF (by rw [hne]; simpa using hn), wrap_i64 (by omega)]
      simp [hn]
    · obtain ⟨f, t, h1, h2, h3⟩ := hat v hmem
      have hc : cut b (prV v).Record.From (prV v).Record.To = some (raw10 b v.R) := by
        show cut b v.R.From v.R.To = _
        rw [cut_of h1 h2 (by omega) h3]
        unfold raw10
        rw [h1, h2, Int.toNat_natCast, Int.toNat_natCast]
      rw [itT (by rw [hne]; simpa using hn), hc, sb, app_of (by omega), sb, wrap_i64 (by omega)]
      simp [hn]
theorem vdrop_is {m : Mes} (hm : m.Fields.length ≤ 1152921504606846976) {b : List UInt8} (hb : b.length ≤ 1048576) : view_Drop m b = some (drop10 m b, (all10 m b).2.2) := by
  have hl := v10_len m b
  have hs := all10_sum m b
  have h := drop_loop (b := b) (all10 m b).1 ((all10 m b).2.1, (all10 m b).2.2) (by omega) (by omega) v10_at v10_fi (all10 m b).1 [] rfl
  have h' : view_Drop_l1 b ((all10 m b).1.map prV, (all10 m b).2.1, (all10 m b).2.2) [] 0 = _ := h
  unfold view_Drop
  rw [vall_is hm hb, sb]
  by_cases h0 : (all10 m b).2.2 = 0
  · rw [itF (by simpa using h0), h', sb, h0]
    rfl
  · rw [itT (by simpa using h0)]
    unfold drop10
    rcases all10_cases m b with ⟨g, _⟩ | ⟨_, g⟩
    · exact absurd g h0
    · rw [g]; rfl
end Go.Proofs.Ytdpolccecmaajaa
