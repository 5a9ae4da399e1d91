/-
  What the plain functions are. No condition.
-/
import Derived.Test.YtdpolccecmaajaaS1
import Derived.Test.YtdpolccecmaajaaK2
import Derived.Laws.Bits64b
import Derived.IntWalk
import Derived.RowKit
namespace Go.Proofs.Ytdpolccecmaajaa
open Go
def enc (v : Nat) : List UInt8 := if v < 128 then [UInt8.ofNat v] else UInt8.ofNat (128 + v % 128) :: enc (v / 128)
termination_by v
decreasing_by omega
def scan : Nat → Nat → List UInt8 → Unit ⊕ (Int × Int × Int)
 | _, _, [] => .inl ()
 | i, acc, c :: t => if i = 9 ∧ 1 < c.toNat then .inr (0, 0, 4) else if c.toNat < 128 then .inr (((acc + c.toNat % 128 * 128 ^ i : Nat) : Int), ((i + 1 : Nat) : Int), 0) else scan (i + 1) (acc + c.toNat % 128 * 128 ^ i) t
def rdR : Unit ⊕ (Int × Int × Int) → Int × Int × Int
 | .inl _ => (0, 0, 3)
 | .inr r => r
def rd (b : List UInt8) : Int × Int × Int := rdR (scan 0 0 (b.take 10))
def hor : List UInt8 → Nat
 | [] => 0
 | c :: t => c.toNat % 128 + 128 * hor t
def lead : Nat → List UInt8 → Nat
 | 0, _ => 0
 | _ + 1, [] => 0
 | k + 1, c :: t => if 128 ≤ c.toNat then lead k t + 1 else 0
theorem zpy (i : Nat) : 2 ^ (7 * i) = 128 ^ i := by rw [Nat.pow_mul]
theorem zoL (c : Nat) : c &&& 127 = c % 128 := Nat.and_two_pow_sub_one_eq_mod c 7
theorem zmY {acc i c : Nat} (hi : i ≤ 9) (hacc : acc < 128 ^ i) (hc : c < 256) (h9 : i = 9 → c ≤ 1) :
  orI .u64 (acc : Int) (shlI .u64 (IntKind.u64.wrap (andI .u8 (c : Int) 127)) ((7 * i : Nat) : Int)) = ((acc + c % 128 * 128 ^ i : Nat) : Int) := by
 have e1 : andI .u8 (c : Int) 127 = ((c % 128 : Nat) : Int) := by
  have := zkv (k := .u8) rfl (a := c) (b := 127) (by simpa [IntKind.bits] using hc) (by simp [IntKind.bits])
  rw [zoL] at this; exact this
 have hp : 128 ^ i ≤ 128 ^ 9 := Nat.pow_le_pow_right (by omega) hi
 have hlt : c % 128 * 128 ^ i < 18446744073709551616 := by
  by_cases h : i = 9
  ·subst h
   have := h9 rfl
   have h2 : c % 128 ≤ 1 := by omega
   have := Nat.mul_le_mul_right (128 ^ 9) h2
   omega
  ·have h3 : 128 ^ i ≤ 128 ^ 8 := Nat.pow_le_pow_right (by omega) (by omega)
   have := Nat.mul_le_mul (show c % 128 ≤ 127 by omega) h3
   omega
 have e2 : shlI .u64 (IntKind.u64.wrap ((c % 128 : Nat) : Int)) ((7 * i : Nat) : Int) = ((c % 128 * 128 ^ i : Nat) : Int) := by
  unfold shlI
  rw [zgA rfl (by simp [IntKind.bits]; omega), Int.toNat_natCast, Nat.min_eq_left (by simp [IntKind.bits]; omega)]
  have h4 : ((c % 128 : Nat) : Int) * 2 ^ (7 * i) = ((c % 128 * 128 ^ i : Nat) : Int) := by rw [← zpy]; push_cast; rfl
  rw [h4]
  exact zgA rfl (by simpa [IntKind.bits] using hlt)
 rw [e1, e2, zph rfl (by simp [IntKind.bits]; omega) (by simpa [IntKind.bits] using hlt)]
 congr 1
 rw [← zpy] at hacc ⊢
 exact znZ _ _ _ hacc
theorem zmX : ∀ (t : List UInt8) (v : List UInt8) (i acc : Nat), v.drop i = t → i + t.length = v.length → v.length ≤ 10 → acc < 128 ^ i → zbv v acc i = some (scan i acc t) := by
 intro t
 induction t with
 | nil =>
  intro v i acc _ hl _ _
  refine zck ?_
  unfold zag
  rw [itF (by simp at hl ⊢; omega)]
  rfl
 | cons c t ih =>
  intro v i acc hd hl hv hacc
  simp only [List.length_cons] at hl
  have hget : v[i]'(by omega) = c := by
   have h1 : v.drop i = v[i]'(by omega) :: v.drop (i + 1) := List.drop_eq_getElem_cons (by omega)
   rw [hd] at h1; exact (List.cons.inj h1).1.symm
  have hd' : v.drop (i + 1) = t := by rw [← List.drop_drop, hd]; rfl
  have hc := c.toNat_lt
  have hb : zag v acc i = if i = 9 ∧ 1 < c.toNat then some (.inr (.inr (0, 0, 4))) else if c.toNat < 128 then some (.inr (.inr (((acc + c.toNat % 128 * 128 ^ i : Nat) : Int), ((i + 1 : Nat) : Int), 0))) else some (.inl (((acc + c.toNat % 128 * 128 ^ i : Nat) : Int), ((i + 1 : Nat) : Int))) := by
   unfold zag
   rw [itT (by simp; omega), zca rfl (show i < v.length by omega), sb, hget]
   by_cases h9 : i = 9 ∧ 1 < c.toNat
   ·rw [if_pos h9, itT (by simp; omega)]
   ·rw [if_neg h9, itF (by simp; omega), zx (by omega)]
    have e : ((7 : Int) * (i : Int)) = ((7 * i : Nat) : Int) := by push_cast; rfl
    rw [e, zom, sb, zmY (by omega) hacc (by omega) (by omega), zx (by omega)]
    by_cases h8 : c.toNat < 128
    ·rw [if_pos h8, itT (by simp; omega)]; push_cast; rfl
    ·rw [if_neg h8, itF (by simp; omega)]; push_cast; rfl
  rw [scan]
  split at hb
  ·rename_i h9; rw [if_pos h9]; exact zck hb
  ·rename_i h9
   rw [if_neg h9]
   split at hb
   ·rename_i h8; rw [if_pos h8]; exact zck hb
   ·rename_i h8
    rw [if_neg h8, zfY hb]
    refine ih v (i + 1) _ hd' (by omega) hv ?_
    rw [Nat.pow_succ]
    have := Nat.mul_le_mul_right (128 ^ i) (show c.toNat % 128 ≤ 127 by omega)
    omega
theorem zke (b : List UInt8) : zbQ b = some (rd b) := by
 unfold zbQ rd
 have e : (if (10 : Int) < (b.length : Int) then (10 : Int) else (b.length : Int)) = ((min 10 b.length : Nat) : Int) := by split <;> omega
 have e2 : b.take (min 10 b.length) = b.take 10 := by rw [List.take_eq_take_iff]; omega
 rw [e, zkz rfl (by omega), sb, e2]
 have h := zmX (b.take 10) (b.take 10) 0 0 rfl (by simp) (by simp; omega) (by simp)
 have h' : zbv (b.take 10) 0 0 = some (scan 0 0 (b.take 10)) := h
 rw [h', sb]
 cases scan 0 0 (b.take 10) <;> rfl
theorem zpl (b : List UInt8) : zdi b = some ((rd b).2.1, (rd b).2.2) := by unfold zdi; rw [zke, sb]
theorem zjW : ∀ (k : Nat) (l : List UInt8), lead k l ≤ k ∧ lead k l ≤ l.length
 | 0, _ => ⟨Nat.le_refl _, Nat.zero_le _⟩
 | _ + 1, [] => ⟨Nat.zero_le _, Nat.le_refl _⟩
 | k + 1, c :: t => by
  have := zjW k t
  rw [lead]; split <;> simp <;> omega
theorem zjy : ∀ (l : List UInt8) (i acc : Nat), i + l.length ≤ 10 → i ≤ 9 →
  scan i acc l = if i + lead (10 - i) l = 10 then .inr (0, 0, 4) else if lead (10 - i) l = l.length then .inl () else if i + lead (10 - i) l = 9 ∧ 1 < (l.getD (lead (10 - i) l) 0).toNat then .inr (0, 0, 4) else
   .inr (((acc + hor (l.take (lead (10 - i) l + 1)) * 128 ^ i : Nat) : Int), ((i + lead (10 - i) l + 1 : Nat) : Int), 0) := by
 intro l
 induction l with
 | nil =>
  intro i acc _ hi
  obtain ⟨k, hk⟩ : ∃ k, 10 - i = k + 1 := ⟨9 - i, by omega⟩
  rw [hk]
  simp only [lead, scan, List.length_nil]
  rw [if_neg (by omega), if_pos trivial]
 | cons c t ih =>
  intro i acc hl hi
  obtain ⟨k, hk⟩ : ∃ k, 10 - i = k + 1 := ⟨9 - i, by omega⟩
  simp only [List.length_cons] at hl
  rw [scan]
  by_cases hc : 128 ≤ c.toNat
  ·have e : lead (10 - i) (c :: t) = lead k t + 1 := by rw [hk, lead, if_pos hc]
   rw [e]
   by_cases h9 : i = 9
   ·have : k = 0 := by omega
    subst this
    rw [if_pos ⟨h9, by omega⟩, lead, if_pos (by omega)]
   ·rw [if_neg (by omega), if_neg (by omega), ih (i + 1) _ (by omega) (by omega), show 10 - (i + 1) = k by omega]
    by_cases h1 : i + 1 + lead k t = 10
    ·rw [if_pos h1, if_pos (show i + (lead k t + 1) = 10 by omega)]
    ·rw [if_neg h1, if_neg (show ¬ i + (lead k t + 1) = 10 by omega)]
     by_cases h2 : lead k t = t.length
     ·rw [if_pos h2, if_pos (show lead k t + 1 = (c :: t).length by simp; omega)]
     ·rw [if_neg h2, if_neg (show ¬ lead k t + 1 = (c :: t).length by simp; omega)]
      have eg : (c :: t).getD (lead k t + 1) 0 = t.getD (lead k t) 0 := by simp [List.getD]
      rw [eg]
      by_cases h3 : i + 1 + lead k t = 9 ∧ 1 < (t.getD (lead k t) 0).toNat
      ·rw [if_pos h3, if_pos (show i + (lead k t + 1) = 9 ∧ 1 < (t.getD (lead k t) 0).toNat by omega)]
      ·rw [if_neg h3, if_neg (show ¬ (i + (lead k t + 1) = 9 ∧ 1 < (t.getD (lead k t) 0).toNat) by omega)]
       rw [List.take_succ_cons, hor, Nat.pow_succ]
       have e5 : acc + c.toNat % 128 * 128 ^ i + hor (t.take (lead k t + 1)) * (128 ^ i * 128) = acc + (c.toNat % 128 + 128 * hor (t.take (lead k t + 1))) * 128 ^ i := by
        rw [Nat.add_mul, Nat.mul_assoc 128, Nat.mul_comm (128 ^ i) 128, ← Nat.mul_assoc, Nat.mul_comm _ 128, Nat.mul_assoc]; omega
       rw [e5]
       congr 3
       omega
  ·have e : lead (10 - i) (c :: t) = 0 := by rw [hk, lead, if_neg hc]
   rw [e]
   simp only [Nat.add_zero, List.length_cons, List.getD_cons_zero]
   rw [if_neg (show ¬ i = 10 by omega), if_neg (show ¬ 0 = t.length + 1 by omega)]
   by_cases h9 : i = 9 ∧ 1 < c.toNat
   ·rw [if_pos h9, if_pos h9]
   ·rw [if_neg h9, if_neg h9, if_pos (show c.toNat < 128 by omega)]
    simp [hor]
theorem zhW (x y : List UInt8) : hor (x ++ y) = hor x + 128 ^ x.length * hor y := by
 induction x with
 | nil => simp [hor]
 | cons c t ih => simp only [List.cons_append, hor, ih, List.length_cons, Nat.pow_succ, Nat.mul_add]; rw [Nat.mul_comm (128 ^ t.length) 128, Nat.mul_assoc]; omega
theorem znx (l : List UInt8) : hor l < 128 ^ l.length := by
 induction l with
 | nil => simp [hor]
 | cons c t ih => simp only [hor, List.length_cons, Nat.pow_succ]; omega
theorem znw (l : List UInt8) (j : Nat) : hor (l.drop j) ≤ hor l := by
 induction l generalizing j with
 | nil => simp
 | cons c t ih =>
  cases j with
  | zero => exact Nat.le_refl _
  | succ j => have := ih j; simp only [List.drop_succ_cons, hor]; omega
theorem zna (b : List UInt8) (a : Nat) (hb : b.length ≤ 1152921504606846976) : ∀ (k n : Nat), n + k = 10 → a + n ≤ b.length → zat a b n = some ((n + lead k (b.drop (a + n)) : Nat) : Int) := by
 intro k
 induction k with
 | zero =>
  intro n hn ha
  refine zbj ?_
  unfold zL
  rw [zx (by omega)]
  by_cases h1 : a + n < b.length
  ·rw [itT (by simp; omega), itF (by simp; omega), sb, itF (by rfl)]; rfl
  ·rw [itF (by simp; omega), sb, itF (by rfl)]; rfl
 | succ k ih =>
  intro n hn ha
  by_cases h1 : a + n < b.length
  ·have hd : b.drop (a + n) = b[a + n] :: b.drop (a + (n + 1)) := List.drop_eq_getElem_cons h1
   have hbody : zL a b n = if 128 ≤ b[a + n].toNat then some (.inl ((n + 1 : Nat) : Int)) else some (.inr (n : Int)) := by
    unfold zL
    rw [zx (by omega), zx (by omega), itT (by simp; omega), itT (by simp; omega), zca (show (a : Int) + n = ((a + n : Nat) : Int) by push_cast; rfl) h1, sb, sb]
    by_cases h2 : 128 ≤ b[a + n].toNat
    ·rw [if_pos h2, itT (by simp; omega)]; push_cast; rfl
    ·rw [if_neg h2, itF (by simp; omega)]
   rw [hd, lead]
   by_cases h2 : 128 ≤ b[a + n].toNat
   ·rw [if_pos h2] at hbody ⊢
    rw [zea hbody, ih (n + 1) (by omega) (by omega)]
    congr 2; omega
   ·rw [if_neg h2] at hbody ⊢
    exact zbj hbody
  ·have hd : b.drop (a + n) = [] := List.drop_eq_nil_of_le (by omega)
   rw [hd]
   refine zbj ?_
   unfold zL
   rw [zx (by omega), itF (by simp; omega), sb, itF (by rfl)]; rfl
theorem znb (b : List UInt8) (a m : Nat) (hb : b.length ≤ 1152921504606846976) (hm : a + m ≤ b.length) (hh : hor ((b.drop a).take m) < 18446744073709551616) :
  ∀ (j : Nat), j ≤ m → zau a b (hor (((b.drop a).take m).drop j)) ((j : Int) - 1) = some ((hor ((b.drop a).take m) : Nat) : Int) := by
 intro j
 induction j with
 | zero =>
  intro _
  refine zec ?_
  unfold zP
  rw [itF (by simp)]; rfl
 | succ j ih =>
  intro hj
  have hL : ((b.drop a).take m).length = m := by simp; omega
  have hd : ((b.drop a).take m).drop j = ((b.drop a).take m)[j]'(by omega) :: ((b.drop a).take m).drop (j + 1) := List.drop_eq_getElem_cons (by omega)
  have hc : ((b.drop a).take m)[j]'(by omega) = b[a + j]'(by omega) := by simp
  have h1 := znw ((b.drop a).take m) j
  rw [hd, hor, hc] at h1
  have h2 := (b[a + j]'(by omega)).toNat_lt
  refine (zeb (wv' := (hor (((b.drop a).take m).drop j) : Nat)) (i' := (j : Int) - 1) ?_).trans (ih (by omega))
  unfold zP
  rw [itT (by simp), zx (by omega), zca (show (a : Int) + (((j + 1 : Nat) : Int) - 1) = ((a + j : Nat) : Int) by push_cast; omega) (by omega), sb, zx (by omega), hd, hor, hc]
  simp only [zeu]
  rw [Int.tmod_eq_emod_of_nonneg (by omega)]
  congr 3
  ·omega
  ·push_cast; omega
theorem zoB {n C X : Nat} (hn : n ≤ 9) (hC : C < 256) (h9 : ¬ (n = 9 ∧ 1 < C)) (hX : X < 128 ^ n) : X + 128 ^ n * (C % 128) < 18446744073709551616 := by
 by_cases h9' : n = 9
 ·subst h9'
  have : C % 128 ≤ 1 := by omega
  have := Nat.mul_le_mul_left (128 ^ 9) this
  omega
 ·have h5 : 128 ^ n ≤ 128 ^ 8 := Nat.pow_le_pow_right (by omega) (by omega)
  have h6 : C % 128 ≤ 127 := by omega
  have := Nat.mul_le_mul h5 h6
  omega
theorem zlX (b : List UInt8) (a : Nat) (hb : b.length ≤ 1152921504606846976) (ha : a ≤ b.length) : zax b a = some (rd (b.drop a)) := by
 unfold zax
 have h1 := zna b a hb 10 0 rfl (by omega)
 simp only [Nat.zero_add, Nat.add_zero] at h1
 have h1' : zat a b 0 = some ((lead 10 (b.drop a) : Nat) : Int) := h1
 rw [h1', sb]
 have hle := zjW 10 (b.drop a)
 have hlen : (b.drop a).length = b.length - a := by simp
 -- the ten bytes that count
 have htake : ∀ (k : Nat) (l : List UInt8), lead k (l.take k) = lead k l := by
  intro k
  induction k with
  | zero => intro l; rfl
  | succ k ih => intro l; cases l with
   | nil => rfl
   | cons c t => simp only [List.take_succ_cons, lead, ih]
 have hs := zjy ((b.drop a).take 10) 0 0 (by simp; omega) (by omega)
 simp only [Nat.zero_add, Nat.sub_zero, htake, Nat.pow_zero, Nat.mul_one] at hs
 unfold rd
 rw [hs]
 by_cases h10 : lead 10 (b.drop a) = 10
 ·rw [if_pos h10, itT (by simp; omega)]; rfl
 ·rw [if_neg h10, itF (by simp; omega), zx (by omega)]
  by_cases hl : lead 10 (b.drop a) = (b.drop a).length
  ·rw [if_pos (show lead 10 (b.drop a) = ((b.drop a).take 10).length by rw [List.length_take]; omega), itT (by simp; omega)]; rfl
  ·rw [if_neg (show ¬ lead 10 (b.drop a) = ((b.drop a).take 10).length by rw [List.length_take]; omega), itF (by simp; omega)]
   have hlt : a + lead 10 (b.drop a) < b.length := by omega
   have hg : ((b.drop a).take 10).getD (lead 10 (b.drop a)) 0 = b[a + lead 10 (b.drop a)] := by
    rw [List.getD_eq_getElem?_getD, List.getElem?_take, if_pos (by omega), List.getElem?_drop, List.getElem?_eq_getElem hlt]; rfl
   rw [hg, List.take_take, Nat.min_eq_left (by omega)]
   have hc := (b[a + lead 10 (b.drop a)]).toNat_lt
   have hg2 : (if (((lead 10 (b.drop a) : Nat) : Int) == 9) = true then (idx b ((a : Int) + ((lead 10 (b.drop a) : Nat) : Int)) >>= fun x2 => some (decide ((x2.toNat : Int) > 1))) else some false) = some (decide (lead 10 (b.drop a) = 9 ∧ 1 < (b[a + lead 10 (b.drop a)]).toNat)) := by
    by_cases h9 : lead 10 (b.drop a) = 9
    ·rw [itT (by simp; omega), zca (show (a : Int) + ((lead 10 (b.drop a) : Nat) : Int) = ((a + lead 10 (b.drop a) : Nat) : Int) by push_cast; rfl) hlt, sb]
     congr 1
     simp only [h9, true_and, decide_eq_decide]
     omega
    ·rw [itF (by simp; omega)]; simp [h9]
   rw [hg2, sb]
   by_cases h9 : lead 10 (b.drop a) = 9 ∧ 1 < (b[a + lead 10 (b.drop a)]).toNat
   ·rw [if_pos h9, itT (by simpa using h9)]; rfl
   ·rw [if_neg h9, itF (decide_eq_false h9)]
    have hbd : hor ((b.drop a).take (lead 10 (b.drop a) + 1)) < 18446744073709551616 := by
     have hsp : (b.drop a).take (lead 10 (b.drop a) + 1) = (b.drop a).take (lead 10 (b.drop a)) ++ [b[a + lead 10 (b.drop a)]] := by
      rw [List.take_add_one, List.getElem?_drop, List.getElem?_eq_getElem hlt]; rfl
     rw [hsp, zhW]
     have h3 := znx ((b.drop a).take (lead 10 (b.drop a)))
     have h4 : ((b.drop a).take (lead 10 (b.drop a))).length = lead 10 (b.drop a) := by simp; omega
     rw [h4] at h3 ⊢
     simp only [hor, Nat.mul_zero, Nat.add_zero]
     exact zoB (by omega) (by omega) h9 h3
    have h2 := znb b a (lead 10 (b.drop a) + 1) hb (by omega) hbd (lead 10 (b.drop a) + 1) (Nat.le_refl _)
    have hz : ((b.drop a).take (lead 10 (b.drop a) + 1)).drop (lead 10 (b.drop a) + 1) = [] := List.drop_eq_nil_of_le (by simp; omega)
    rw [hz] at h2
    have e3 : (((lead 10 (b.drop a) + 1 : Nat) : Int) - 1) = ((lead 10 (b.drop a) : Nat) : Int) := by push_cast; omega
    rw [e3] at h2
    have h2' : zau a b 0 ((lead 10 (b.drop a) : Nat) : Int) = some ((hor ((b.drop a).take (lead 10 (b.drop a) + 1)) : Nat) : Int) := h2
    rw [h2', sb, zx (by omega)]
    simp [rdR]
theorem zjk : ∀ (k : Nat) (l : List UInt8), lead k (l.take k) = lead k l
 | 0, _ => rfl
 | _ + 1, [] => rfl
 | k + 1, c :: t => by simp only [List.take_succ_cons, lead, zjk k t]
theorem zjj : ∀ (k : Nat) (l : List UInt8), (∀ y ∈ l.take (lead k l), 128 ≤ y.toNat) ∧ ∀ (h : lead k l < l.length), lead k l < k → (l[lead k l]).toNat < 128
 | 0, _ => ⟨fun y hy => by simp [lead] at hy, fun _ h => by omega⟩
 | _ + 1, [] => ⟨fun y hy => by simp at hy, fun h => by simp at h⟩
 | k + 1, c :: t => by
  obtain ⟨h1, h2⟩ := zjj k t
  by_cases hc : 128 ≤ c.toNat
  ·have e : lead (k + 1) (c :: t) = lead k t + 1 := by rw [lead, if_pos hc]
   constructor
   ·rw [e, List.take_succ_cons]
    intro y hy
    cases hy with
    | head => exact hc
    | tail _ hy => exact h1 y hy
   ·simp only [e, List.getElem_cons_succ, List.length_cons]
    intro h hk; exact h2 (by omega) (by omega)
  ·have e : lead (k + 1) (c :: t) = 0 := by rw [lead, if_neg hc]
   constructor
   ·rw [e]; intro y hy; simp at hy
   ·simp only [e]; intro _ _; simp; omega
theorem zis (b : List UInt8) : rd b = (0, 0, 4) ∨ (rd b = (0, 0, 3) ∧ b.length ≤ 9) ∨
  ∃ x c y, b = x ++ c :: y ∧ (∀ z ∈ x, 128 ≤ z.toNat) ∧ c.toNat < 128 ∧ x.length ≤ 9 ∧ hor (x ++ [c]) < 18446744073709551616 ∧ rd b = (((hor (x ++ [c]) : Nat) : Int), ((x.length + 1 : Nat) : Int), 0) := by
 have hle := zjW 10 b
 have hs := zjy (b.take 10) 0 0 (by simp; omega) (by omega)
 simp only [Nat.zero_add, Nat.sub_zero, zjk, Nat.pow_zero, Nat.mul_one] at hs
 unfold rd
 rw [hs]
 by_cases h10 : lead 10 b = 10
 ·rw [if_pos h10]; exact .inl rfl
 ·rw [if_neg h10]
  by_cases hl : lead 10 b = (b.take 10).length
  ·rw [if_pos hl]; refine .inr (.inl ⟨rfl, ?_⟩); rw [List.length_take] at hl; omega
  ·rw [if_neg hl]
   rw [List.length_take] at hl
   have hlt : lead 10 b < b.length := by omega
   have hg : (b.take 10).getD (lead 10 b) 0 = b[lead 10 b] := by
    rw [List.getD_eq_getElem?_getD, List.getElem?_take, if_pos (by omega), List.getElem?_eq_getElem hlt]; rfl
   rw [hg, List.take_take, Nat.min_eq_left (by omega)]
   have hc := (b[lead 10 b]).toNat_lt
   by_cases h9 : lead 10 b = 9 ∧ 1 < (b[lead 10 b]).toNat
   ·rw [if_pos h9]; exact .inl rfl
   ·rw [if_neg h9]
    obtain ⟨hf1, hf2⟩ := zjj 10 b
    have hsp : b.take (lead 10 b + 1) = b.take (lead 10 b) ++ [b[lead 10 b]] := by
     rw [List.take_add_one, List.getElem?_eq_getElem hlt]; rfl
    have hlen : (b.take (lead 10 b)).length = lead 10 b := by rw [List.length_take]; omega
    refine .inr (.inr ⟨b.take (lead 10 b), b[lead 10 b], b.drop (lead 10 b + 1), ?_, hf1, hf2 hlt (by omega), by omega, ?_, ?_⟩)
    ·rw [← List.drop_eq_getElem_cons hlt, List.take_append_drop]
    ·rw [zhW]
     have h3 := znx (b.take (lead 10 b))
     rw [hlen] at h3 ⊢
     simp only [hor, Nat.mul_zero, Nat.add_zero]
     exact zoB (by omega) (by omega) h9 h3
    ·rw [hsp, hlen]; simp [rdR]
theorem zix (a b : List UInt8) : zaJ a b = some (a == b) := rfl
end Go.Proofs.Ytdpolccecmaajaa
namespace Go.Proofs.Ytdpolccecmaajaa
open Go
def zbH (n w : Int) : Bool := decide (1 ≤ n ∧ n ≤ 536870911 ∧ (w = 0 ∨ w = 1 ∨ w = 2 ∨ w = 5))
def tgR (r : Int × Int × Int) : Int × Int × Int × Int :=
 if r.2.2 ≠ 0 then (0, 0, 0, r.2.2) else if 4294967295 < r.1 ∨ zbH (r.1 / 8) (r.1 % 8) = false then (0, 0, 0, 5) else (r.1 / 8, r.1 % 8, r.2.1, 0)
def tg (l : List UInt8) : Int × Int × Int × Int := tgR (rd l)
theorem ziC {n w : Int} : zbH n w = true ↔ 1 ≤ n ∧ n ≤ 536870911 ∧ (w = 0 ∨ w = 1 ∨ w = 2 ∨ w = 5) := by simp [zbH]
theorem zkW (n w : Int) : zaW n w = some (zbH n w) := by
 unfold zaW zbH
 simp [Bool.decide_and, Bool.decide_or, Bool.beq_eq_decide_eq]
theorem zdx (l : List UInt8) : 0 ≤ (rd l).1 ∧ (rd l).1 < 18446744073709551616 ∧ 0 ≤ (rd l).2.1 ∧ (rd l).2.1 ≤ 10 ∧ (rd l).2.1 ≤ l.length ∧ ((rd l).2.2 = 0 ∨ (rd l).2.2 = 3 ∨ (rd l).2.2 = 4) ∧ ((rd l).2.2 = 0 → 1 ≤ (rd l).2.1) := by
 rcases zis l with h | ⟨h, _⟩ | ⟨x, c, y, e, _, _, hl, hv, h⟩
 ·rw [h]; simp
 ·rw [h]; simp
 ·have : l.length = x.length + 1 + y.length := by rw [e]; simp; omega
  rw [h]
  refine ⟨?_, ?_, ?_, ?_, ?_, .inl rfl, fun _ => ?_⟩ <;> simp only <;> omega
theorem zpz (x : List UInt8) (c : UInt8) (y : List UInt8) (hx : ∀ z ∈ x, 128 ≤ z.toNat) (hc : c.toNat < 128) (hl : x.length ≤ 9) (hv : hor (x ++ [c]) < 18446744073709551616) :
  rd (x ++ c :: y) = (((hor (x ++ [c]) : Nat) : Int), ((x.length + 1 : Nat) : Int), 0) := by
 have key : ∀ (x : List UInt8) (z : List UInt8) (i acc : Nat), (∀ z ∈ x, 128 ≤ z.toNat) → i + x.length ≤ 9 → acc + hor (x ++ [c]) * 128 ^ i < 18446744073709551616 → scan i acc (x ++ c :: z) = .inr (((acc + hor (x ++ [c]) * 128 ^ i : Nat) : Int), ((i + x.length + 1 : Nat) : Int), 0) := by
  intro x
  induction x with
  | nil =>
   intro z i acc _ hi hv
   have e1 : hor ([] ++ [c]) = c.toNat := by simp [hor]; omega
   rw [e1] at hv ⊢
   rw [List.nil_append, scan, if_neg, if_pos hc, Nat.mod_eq_of_lt hc]
   ·rfl
   ·rintro ⟨rfl, h2⟩
    have := Nat.mul_le_mul_right (128 ^ 9) (show 2 ≤ c.toNat by omega)
    omega
  | cons d x ih =>
   intro z i acc hx hi hv
   simp only [List.length_cons] at hi
   have hd := hx d List.mem_cons_self
   have e5 : acc + hor ((d :: x) ++ [c]) * 128 ^ i = acc + d.toNat % 128 * 128 ^ i + hor (x ++ [c]) * 128 ^ (i + 1) := by
    rw [List.cons_append, hor, Nat.pow_succ, Nat.add_mul, Nat.mul_comm (128 ^ i) 128, ← Nat.mul_assoc, Nat.mul_comm (hor (x ++ [c])) 128]; omega
   rw [e5] at hv ⊢
   rw [List.cons_append, scan, if_neg (by omega), if_neg (by omega), ih z (i + 1) _ (fun z hz => hx z (List.mem_cons_of_mem _ hz)) (by omega) hv, List.length_cons]
   congr 3
   omega
 unfold rd
 have e2 : (x ++ c :: y).take 10 = x ++ c :: y.take (9 - x.length) := by
  rw [List.take_append, List.take_of_length_le (by omega), show 10 - x.length = (9 - x.length) + 1 by omega, List.take_succ_cons]
 rw [e2, key x _ 0 0 hx (by omega) (by simpa using hv)]
 simp [rdR]
theorem zgP (l m : List UInt8) (h : (rd l).2.2 = 0) : rd (l ++ m) = rd l := by
 rcases zis l with h' | ⟨h', _⟩ | ⟨x, c, y, e, hx, hc, hl, hv, h'⟩
 ·rw [h'] at h; cases h
 ·rw [h'] at h; cases h
 ·rw [h', e, List.append_assoc, List.cons_append, zpz x c _ hx hc hl hv]
theorem zjB (l m : List UInt8) (h : (rd l).2.2 = 0) : tg (l ++ m) = tg l := by unfold tg; rw [zgP l m h]
theorem zkn {r : Int × Int × Int} (h : r.2.2 ≠ 0) : tgR r = (0, 0, 0, r.2.2) := if_pos h
theorem zfm {r : Int × Int × Int} (h : r.2.2 = 0) (h2 : 4294967295 < r.1 ∨ zbH (r.1 / 8) (r.1 % 8) = false) : tgR r = (0, 0, 0, 5) := by unfold tgR; rw [if_neg (by simp [h]), if_pos h2]
theorem zma {r : Int × Int × Int} (h : r.2.2 = 0) (h2 : ¬ (4294967295 < r.1 ∨ zbH (r.1 / 8) (r.1 % 8) = false)) : tgR r = (r.1 / 8, r.1 % 8, r.2.1, 0) := by unfold tgR; rw [if_neg (by simp [h]), if_neg h2]
theorem ziD (l : List UInt8) : (∃ c, tg l = (0, 0, 0, c) ∧ (c = 3 ∨ c = 4 ∨ c = 5)) ∨ ∃ n w k, tg l = (n, w, k, 0) ∧ zbH n w = true ∧ 1 ≤ k ∧ k ≤ 10 ∧ k ≤ l.length ∧ rd l = (8 * n + w, k, 0) := by
 obtain ⟨h1, h2, h3, h4, h5, h6, h7⟩ := zdx l
 unfold tg
 by_cases h : (rd l).2.2 = 0
 ·by_cases hg : 4294967295 < (rd l).1 ∨ zbH ((rd l).1 / 8) ((rd l).1 % 8) = false
  ·exact .inl ⟨5, zfm h hg, by omega⟩
  ·refine .inr ⟨_, _, _, zma h hg, ?_, h7 h, h4, h5, ?_⟩
   ·cases ht : zbH ((rd l).1 / 8) ((rd l).1 % 8)
    ·exact absurd (.inr ht) hg
    ·rfl
   ·refine Prod.ext ?_ (Prod.ext rfl h)
    simp only; omega
 ·exact .inl ⟨_, zkn h, by omega⟩
theorem zkf (b : List UInt8) (a : Nat) (hb : b.length ≤ 1152921504606846976) (ha : a ≤ b.length) : zbe b a = some (tg (b.drop a)) := by
 unfold zbe tg
 obtain ⟨h1, h2, h3, h4, h5, h6, h7⟩ := zdx (b.drop a)
 rw [zlX b a hb ha, sb]
 by_cases h : (rd (b.drop a)).2.2 = 0
 ·rw [itF (by simpa using h)]
  have e1 : IntKind.i64.wrap (IntKind.u64.wrap (Int.tdiv (rd (b.drop a)).1 8)) = (rd (b.drop a)).1 / 8 := by
   rw [Int.tdiv_eq_ediv_of_nonneg h1, zeu, Int.emod_eq_of_lt (by omega) (by omega), zx (by omega)]
  have e2 : IntKind.i64.wrap (Int.tmod (rd (b.drop a)).1 8) = (rd (b.drop a)).1 % 8 := by
   rw [Int.tmod_eq_emod_of_nonneg h1, zx (by omega)]
  simp only [e1, e2, zkW, sb]
  by_cases hg : 4294967295 < (rd (b.drop a)).1
  ·rw [itT (by simpa using hg), sb, itT (by rfl), zfm h (.inl hg)]
  ·rw [itF (by simpa using hg), sb]
   cases ht : zbH ((rd (b.drop a)).1 / 8) ((rd (b.drop a)).1 % 8)
   ·rw [itT (by rfl), zfm h (.inr ht)]
   ·rw [itF (by rfl), zma h (by simp [ht]; omega)]
 ·rw [itT (by simpa using h), zkn h]
end Go.Proofs.Ytdpolccecmaajaa
namespace Go.Proofs.Ytdpolccecmaajaa
open Go
set_option linter.unusedVariables false
abbrev Rec := ze
def zaM (w : Int) (k : Nat) (m : List UInt8) : Int ⊕ (Nat × Nat) :=
 if w = 0 then (if (rd m).2.2 ≠ 0 then .inl (rd m).2.2 else .inr (k, k + (rd m).2.1.toNat))
 else if w = 2 then (if (rd m).2.2 ≠ 0 then .inl (rd m).2.2 else if (m.length : Int) - (rd m).2.1 < (rd m).1 then .inl 3 else .inr (k + (rd m).2.1.toNat, k + (rd m).2.1.toNat + (rd m).1.toNat))
 else if m.length < (if w = 5 then 4 else 8) then .inl 3 else .inr (k, k + (if w = 5 then 4 else 8))
def rec5 (l : List UInt8) : Int ⊕ (Int × Int × Nat × Nat) :=
 if (tg l).2.2.2 ≠ 0 then .inl (tg l).2.2.2 else match zaM (tg l).2.1 (tg l).2.2.1.toNat (l.drop (tg l).2.2.1.toNat) with
  | .inl c => .inl c
  | .inr p => .inr ((tg l).1, (tg l).2.1, p.1, p.2)
theorem zeW (w : Int) (k : Nat) (m : List UInt8) : (∃ c, zaM w k m = .inl c ∧ (c = 3 ∨ c = 4)) ∨
  ∃ a t, zaM w k m = .inr (a, t) ∧ k ≤ a ∧ a ≤ t ∧ t ≤ k + m.length ∧
   (w = 0 ∧ a = k ∧ (rd m).2.2 = 0 ∧ ((t - k : Nat) : Int) = (rd m).2.1 ∧ k < t ∨ w = 2 ∧ (rd m).2.2 = 0 ∧ ((a - k : Nat) : Int) = (rd m).2.1 ∧ ((t - a : Nat) : Int) = (rd m).1 ∨ w ≠ 0 ∧ w ≠ 2 ∧ a = k ∧ t = k + (if w = 5 then 4 else 8)) := by
 obtain ⟨h1, h2, h3, h4, h5, h6, h7⟩ := zdx m
 unfold zaM
 by_cases w0 : w = 0
 ·rw [if_pos w0]
  by_cases h : (rd m).2.2 = 0
  ·have := h7 h
   rw [if_neg (by simpa using h)]
   exact .inr ⟨_, _, rfl, Nat.le_refl _, by omega, by omega, .inl ⟨w0, rfl, h, by omega, by omega⟩⟩
  ·rw [if_pos h]; exact .inl ⟨_, rfl, by omega⟩
 ·rw [if_neg w0]
  by_cases w2 : w = 2
  ·rw [if_pos w2]
   by_cases h : (rd m).2.2 = 0
   ·rw [if_neg (by simpa using h)]
    by_cases h8 : (m.length : Int) - (rd m).2.1 < (rd m).1
    ·rw [if_pos h8]; exact .inl ⟨_, rfl, by omega⟩
    ·rw [if_neg h8]
     exact .inr ⟨_, _, rfl, by omega, by omega, by omega, .inr (.inl ⟨w2, h, by omega, by omega⟩)⟩
   ·rw [if_pos h]; exact .inl ⟨_, rfl, by omega⟩
  ·rw [if_neg w2]
   by_cases h8 : m.length < (if w = 5 then 4 else 8)
   ·rw [if_pos h8]; exact .inl ⟨_, rfl, by omega⟩
   ·rw [if_neg h8]
    exact .inr ⟨_, _, rfl, Nat.le_refl _, by omega, by omega, .inr (.inr ⟨w0, w2, rfl, rfl⟩)⟩
theorem zjM (w : Int) (k : Nat) (m z : List UInt8) {p : Nat × Nat} (h : zaM w k m = .inr p) : zaM w k (m ++ z) = .inr p := by
 unfold zaM at h ⊢
 by_cases w0 : w = 0
 ·rw [if_pos w0] at h ⊢
  by_cases h0 : (rd m).2.2 = 0
  ·rw [zgP m z h0]; exact h
  ·rw [if_pos h0] at h; cases h
 ·rw [if_neg w0] at h ⊢
  by_cases w2 : w = 2
  ·rw [if_pos w2] at h ⊢
   by_cases h0 : (rd m).2.2 = 0
   ·rw [zgP m z h0]
    rw [if_neg (by simpa using h0)] at h ⊢
    by_cases h8 : (m.length : Int) - (rd m).2.1 < (rd m).1
    ·rw [if_pos h8] at h; cases h
    ·rw [if_neg h8] at h
     rw [if_neg (by simp only [List.length_append]; omega)]; exact h
   ·rw [if_pos h0] at h; cases h
  ·rw [if_neg w2] at h ⊢
   by_cases h8 : m.length < (if w = 5 then 4 else 8)
   ·rw [if_pos h8] at h; cases h
   ·rw [if_neg h8] at h
    rw [if_neg (by simp only [List.length_append]; omega)]; exact h
theorem zcK (l : List UInt8) : (∃ c, rec5 l = .inl c ∧ (c = 3 ∨ c = 4 ∨ c = 5)) ∨
  ∃ (n w : Int) (k a t : Nat), rec5 l = .inr (n, w, a, t) ∧ tg l = (n, w, (k : Int), 0) ∧ zbH n w = true ∧ zaM w k (l.drop k) = .inr (a, t) ∧ 1 ≤ k ∧ k ≤ l.length ∧ k ≤ a ∧ a ≤ t ∧ t ≤ l.length ∧ rd l = (8 * n + w, (k : Int), 0) := by
 rcases ziD l with ⟨c, h, hc⟩ | ⟨n, w, k, h, hr, k1, k2, k3, hrd⟩
 ·refine .inl ⟨c, ?_, hc⟩
  unfold rec5; rw [h, if_pos (by simp only; omega)]
 ·obtain ⟨k, rfl⟩ : ∃ j : Nat, k = j := ⟨k.toNat, by omega⟩
  have e : rec5 l = match zaM w k (l.drop k) with
   | .inl c => .inl c
   | .inr p => .inr (n, w, p.1, p.2) := by unfold rec5; rw [h]; simp
  rcases zeW w k (l.drop k) with ⟨c, h2, hc⟩ | ⟨a, t, h2, g1, g2, g3, _⟩
  ·exact .inl ⟨c, by rw [e, h2], by omega⟩
  ·simp only [List.length_drop] at g3
   exact .inr ⟨n, w, k, a, t, by rw [e, h2], h, hr, h2, by omega, by omega, g1, g2, by omega, hrd⟩
theorem zkS (l z : List UInt8) {r : Int × Int × Nat × Nat} (h : rec5 l = .inr r) : rec5 (l ++ z) = .inr r := by
 rcases zcK l with ⟨c, h', _⟩ | ⟨n, w, k, a, t, h', htg, _, hb, _, hk, _, _, _, hrd⟩
 ·rw [h'] at h; cases h
 ·rw [h'] at h
  have e : tg (l ++ z) = (n, w, (k : Int), 0) := by rw [zjB l z (by rw [hrd]), htg]
  unfold rec5
  rw [e]
  simp only [ne_eq, not_true_eq_false, if_false, Int.toNat_natCast]
  rw [List.drop_append_of_le_length hk, zjM _ _ _ _ hb]
  exact h
def zrec : Rec := ⟨0, 0, 0, 0, 0⟩
def zbt (b : List UInt8) (at5 : Int) : Rec × Int := if at5 < 0 ∨ at5 ≥ b.length then (zrec, 2) else match rec5 (b.drop at5.toNat) with
 | .inl c => (zrec, c)
 | .inr (n, w, a, t) => (⟨n, w, at5, at5 + a, at5 + t⟩, 0)
theorem zkV {b : List UInt8} (hb : b.length ≤ 140737488355328) (at5 : Int) : zaK b at5 = some (zbt b at5) := by
 unfold zaK zbt
 by_cases h : at5 < 0 ∨ at5 ≥ b.length
 ·rw [itT (by simpa using h), if_pos h]; rfl
 ·rw [itF (by simpa using h), if_neg h]
  obtain ⟨p, rfl⟩ : ∃ p : Nat, at5 = p := ⟨at5.toNat, by omega⟩
  rw [zkf b p (by omega) (by omega), sb, Int.toNat_natCast]
  have hdl : (b.drop p).length = b.length - p := by simp
  rcases ziD (b.drop p) with ⟨c, ht, hc⟩ | ⟨n, w, k, ht, hr, k1, k2, k3, hrd⟩
  ·have e : rec5 (b.drop p) = .inl c := by unfold rec5; rw [ht, if_pos (by simp only; omega)]
   rw [e, ht, itT (by simp; omega)]; rfl
  ·obtain ⟨k, rfl⟩ : ∃ j : Nat, k = j := ⟨k.toNat, by omega⟩
   have e : rec5 (b.drop p) = match zaM w k ((b.drop p).drop k) with
    | .inl c => .inl c
    | .inr p => .inr (n, w, p.1, p.2) := by unfold rec5; rw [ht]; simp
   have hdd : (b.drop p).drop k = b.drop (p + k) := by rw [List.drop_drop]
   have hml : (b.drop (p + k)).length = b.length - (p + k) := by simp
   obtain ⟨h1, h2, h3, h4, h5, h6, h7⟩ := zdx (b.drop (p + k))
   rw [e, ht, itF (by simp), hdd]
   have ew : IntKind.i64.wrap ((p : Int) + k) = ((p + k : Nat) : Int) := by rw [zx (by omega)]; push_cast; rfl
   have er : IntKind.i64.wrap ((b.length : Int) - ((p + k : Nat) : Int)) = ((b.length - (p + k) : Nat) : Int) := by rw [zx (by omega)]; omega
   simp only [ew, er]
   have hw := (ziC.1 hr).2.2
   rcases hw with rfl | rfl | rfl | rfl
   ·-- a varint
    rw [itF (by rfl), sb, itT (by rfl), zlX b (p + k) (by omega) (by omega), sb]
    by_cases g : (rd (b.drop (p + k))).2.2 = 0
    ·have := h7 g
     have hb5 : zaM 0 k (b.drop (p + k)) = .inr (k, k + (rd (b.drop (p + k))).2.1.toNat) := by unfold zaM; rw [if_pos rfl, if_neg (by simpa using g)]
     rw [itF (by simpa using g), sb, hb5]
     simp only
     rw [itF (by rfl), sb]
     simp only
     rw [itF (by simp; omega), zx (by omega)]
     simp; omega
    ·have hb5 : zaM 0 k (b.drop (p + k)) = .inl (rd (b.drop (p + k))).2.2 := by unfold zaM; rw [if_pos rfl, if_pos g]
     rw [itT (by simpa using g), sb, hb5]; rfl
   ·rw [itF (by rfl), sb, itF (by rfl), sb]
    simp only
    rw [itF (by rfl), sb]
    unfold zaM
    rw [if_neg (by omega), if_neg (by omega)]
    simp only
    by_cases g : b.length - (p + k) < 8
    ·rw [itT (by simp; omega), if_pos (by simpa [hml] using g)]; rfl
    ·rw [itF (by simp; omega), if_neg (by simpa [hml] using g), zx (by omega)]
     simp; omega
   ·rw [itF (by rfl), sb, itF (by rfl), sb]
    simp only
    rw [itT (by rfl), zlX b (p + k) (by omega) (by omega), sb]
    by_cases g : (rd (b.drop (p + k))).2.2 = 0
    ·have := h7 g
     have e1 : IntKind.i64.wrap (((b.length - (p + k) : Nat) : Int) - (rd (b.drop (p + k))).2.1) = ((b.drop (p + k)).length : Int) - (rd (b.drop (p + k))).2.1 := by rw [zx (by omega), hml]
     have e2 : IntKind.u64.wrap (((b.drop (p + k)).length : Int) - (rd (b.drop (p + k))).2.1) = ((b.drop (p + k)).length : Int) - (rd (b.drop (p + k))).2.1 := by rw [zeu, Int.emod_eq_of_lt (by omega) (by omega)]
     rw [itF (by simpa using g)]
     simp only [e1, e2]
     by_cases g2 : ((b.drop (p + k)).length : Int) - (rd (b.drop (p + k))).2.1 < (rd (b.drop (p + k))).1
     ·have hb5 : zaM 2 k (b.drop (p + k)) = .inl 3 := by unfold zaM; rw [if_neg (by omega), if_pos rfl, if_neg (by simpa using g), if_pos g2]
      rw [itT (by simpa using g2), sb, hb5]; rfl
     ·have hb5 : zaM 2 k (b.drop (p + k)) = .inr (k + (rd (b.drop (p + k))).2.1.toNat, k + (rd (b.drop (p + k))).2.1.toNat + (rd (b.drop (p + k))).1.toNat) := by
       unfold zaM; rw [if_neg (by omega), if_pos rfl, if_neg (by simpa using g), if_neg g2]
      rw [itF (by simpa using g2), sb, hb5]
      simp only
      rw [zx (x := (rd (b.drop (p + k))).1) (by omega), itF (by simpa using g2), zx (x := ((p + k : Nat) : Int) + (rd (b.drop (p + k))).2.1) (by omega), zx (by omega)]
      simp; omega
    ·have hb5 : zaM 2 k (b.drop (p + k)) = .inl (rd (b.drop (p + k))).2.2 := by unfold zaM; rw [if_neg (by omega), if_pos rfl, if_pos g]
     rw [itT (by simpa using g), sb, hb5]; rfl
   ·rw [itT (by rfl), sb, itF (by rfl), sb]
    simp only
    rw [itF (by rfl), sb]
    unfold zaM
    rw [if_neg (by omega), if_neg (by omega)]
    simp only
    by_cases g : b.length - (p + k) < 4
    ·rw [itT (by simp; omega), if_pos (by simpa [hml] using g)]; rfl
    ·rw [itF (by simp; omega), if_neg (by simpa [hml] using g), zx (by omega)]
     simp; omega
theorem zlW {b : List UInt8} (hb : b.length ≤ 1048576) (at5 : Int) : zaK b at5 = some (zbt b at5) := zkV (by omega) at5
def spl (base : Nat) (l : List UInt8) : List Rec × Option (Nat × Int) :=
 if hl : l = [] then ([], none) else match h : rec5 l with
  | .inl c => ([], some (base, c))
  | .inr (n, w, a, t) => (⟨n, w, base, (base + a : Nat), (base + t : Nat)⟩ :: (spl (base + t) (l.drop t)).1, (spl (base + t) (l.drop t)).2)
termination_by l.length
decreasing_by
 all_goals
  rcases zcK l with ⟨c', h', _⟩ | ⟨n', w', k', a', t', h', _, _, _, g1, g2, g3, g4, g5, _⟩
  ·rw [h'] at h; cases h
  ·rw [h'] at h; cases h; simp only [List.length_drop]; omega
theorem zdX (base : Nat) : spl base [] = ([], none) := by rw [spl, dif_pos rfl]
theorem zfy {base : Nat} {l : List UInt8} {c : Int} (hl : l ≠ []) (h : rec5 l = .inl c) : spl base l = ([], some (base, c)) := by
 rw [spl, dif_neg hl]
 split
 ·rename_i c' h'; rw [h] at h'; cases h'; rfl
 ·rename_i h'; rw [h] at h'; cases h'
theorem zcb {base : Nat} {l : List UInt8} {n w : Int} {a t : Nat} (hl : l ≠ []) (h : rec5 l = .inr (n, w, a, t)) :
  spl base l = (⟨n, w, base, (base + a : Nat), (base + t : Nat)⟩ :: (spl (base + t) (l.drop t)).1, (spl (base + t) (l.drop t)).2) := by
 rw [spl, dif_neg hl]
 split
 ·rename_i c' h'; rw [h] at h'; cases h'
 ·rename_i n' w' a' t' h'; rw [h] at h'; cases h'; rfl
theorem zfz (P : Nat → List UInt8 → Prop) (h0 : ∀ base, P base []) (he : ∀ base l c, l ≠ [] → rec5 l = .inl c → (c = 3 ∨ c = 4 ∨ c = 5) → P base l)
  (hc : ∀ base l (n w : Int) (a t : Nat), l ≠ [] → rec5 l = .inr (n, w, a, t) → zbH n w = true → 1 ≤ a → a ≤ t → t ≤ l.length → P (base + t) (l.drop t) → P base l) (base : Nat) (l : List UInt8) : P base l := by
 generalize hn : l.length = m
 induction m using Nat.strongRecOn generalizing base l with
 | _ m ih =>
  by_cases hl : l = []
  ·subst hl; exact h0 base
  ·rcases zcK l with ⟨c, h, hc'⟩ | ⟨n, w, k, a, t, h, _, hr, _, g1, g2, g3, g4, g5, _⟩
   ·exact he base l c hl h hc'
   ·exact hc base l n w a t hl h hr (by omega) g4 g5 (ih _ (by simp only [List.length_drop]; omega) _ _ rfl)
theorem zmy (base : Nat) (l : List UInt8) : (spl base l).1.length ≤ l.length := by
 refine zfz (fun base l => (spl base l).1.length ≤ l.length) ?_ ?_ ?_ base l
 ·intro base; rw [zdX]; simp
 ·intro base l c hl h _; rw [zfy hl h]; simp
 ·intro base l n w a t hl h _ g1 g2 g3 ih
  rw [zcb hl h]
  simp only [List.length_cons, List.length_drop] at ih ⊢
  omega
theorem zoo (base : Nat) (l : List UInt8) : ∀ p c, (spl base l).2 = some (p, c) → (c = 3 ∨ c = 4 ∨ c = 5) ∧ base ≤ p ∧ p < base + l.length := by
 refine zfz (fun base l => ∀ p c, (spl base l).2 = some (p, c) → (c = 3 ∨ c = 4 ∨ c = 5) ∧ base ≤ p ∧ p < base + l.length) ?_ ?_ ?_ base l
 ·intro base p c h; rw [zdX] at h; cases h
 ·intro base l c' hl h hc p c h2
  rw [zfy hl h] at h2
  cases h2
  have : 0 < l.length := List.length_pos_iff.2 hl
  exact ⟨hc, by omega, by omega⟩
 ·intro base l n w a t hl h _ g1 g2 g3 ih p c h2
  rw [zcb hl h] at h2
  have := ih p c h2
  simp only [List.length_drop] at this
  omega
theorem zkd (l : List UInt8) {j : Nat} (h : (rd l).2.2 = 0) (hj : (rd l).2.1 ≤ j) : rd (l.take j) = rd l := by
 rcases zis l with h6 | ⟨h6, _⟩ | ⟨x, c, y, e, hx, hc, hl, hv, h6⟩
 ·rw [h6] at h; cases h
 ·rw [h6] at h; cases h
 ·rw [h6] at hj
  have hj' : (x ++ [c]).length ≤ j := by simp at hj ⊢; omega
  have : l.take j = x ++ c :: y.take (j - (x ++ [c]).length) := by
   rw [e, List.append_cons x c y, List.take_append, List.take_of_length_le hj', ← List.append_cons]
  rw [this, zpz x c _ hx hc hl hv, h6]
theorem zlu {w : Int} {k : Nat} {m : List UInt8} {a t : Nat} (h : zaM w k m = .inr (a, t)) : zaM w k (m.take (t - k)) = .inr (a, t) := by
 rcases zeW w k m with ⟨c, hc, _⟩ | ⟨a2, t2, h2, k1, k2, k3, hcase⟩
 ·rw [hc] at h; cases h
 ·rw [h2] at h
  cases h
  have hl : (m.take (t - k)).length = t - k := by simp; omega
  rcases hcase with ⟨rfl, rfl, f1, f2, f3⟩ | ⟨rfl, f1, f2, f3⟩ | ⟨w0, w2, rfl, f1⟩
  ·have hr := zkd m (j := t - a) f1 (by omega)
   unfold zaM at h2 ⊢
   rw [if_pos rfl] at h2 ⊢
   rw [hr]; exact h2
  ·have hr := zkd m (j := t - k) f1 (by omega)
   unfold zaM at h2 ⊢
   rw [if_neg (by omega), if_pos rfl] at h2 ⊢
   rw [hr]
   rw [if_neg (by simpa using f1)] at h2 ⊢
   split at h2
   ·cases h2
   ·rw [if_neg (by rw [hl]; omega)]; exact h2
  ·unfold zaM
   rw [if_neg w0, if_neg w2, if_neg (by rw [hl]; omega), ← f1]
theorem zmZ {l : List UInt8} {n w : Int} {a t : Nat} (h : rec5 l = .inr (n, w, a, t)) : rec5 (l.take t) = .inr (n, w, a, t) := by
 rcases zcK l with ⟨c, h', _⟩ | ⟨n', w', k, a', t', h', htg, hr, hb, g1, g2, g3, g4, g5, hrd⟩
 ·rw [h'] at h; cases h
 ·rw [h'] at h
  cases h
  have hr1 := zkd l (j := t) (by rw [hrd]) (by rw [hrd]; simp only; omega)
  have e : tg (l.take t) = (n, w, (k : Int), 0) := by
   have := zjB (l.take t) (l.drop t) (by rw [hr1, hrd])
   rw [List.take_append_drop, htg] at this
   exact this.symm
  unfold rec5
  rw [e]
  simp only [ne_eq, not_true_eq_false, if_false, Int.toNat_natCast]
  rw [List.drop_take, zlu hb]
theorem zkj (b : List UInt8) (base : Nat) (l : List UInt8) : l = b.drop base → base ≤ b.length → ∀ r ∈ (spl base l).1, ∃ (n w : Int) (f a t : Nat), r = ⟨n, w, (f : Int), ((f + a : Nat) : Int), ((f + t : Nat) : Int)⟩ ∧ rec5 (b.drop f) = .inr (n, w, a, t) ∧ 1 ≤ a ∧ a ≤ t ∧ f + t ≤ b.length := by
 refine zfz (fun base l => l = b.drop base → base ≤ b.length → ∀ r ∈ (spl base l).1, ∃ (n w : Int) (f a t : Nat), r = ⟨n, w, (f : Int), ((f + a : Nat) : Int), ((f + t : Nat) : Int)⟩ ∧ rec5 (b.drop f) = .inr (n, w, a, t) ∧ 1 ≤ a ∧ a ≤ t ∧ f + t ≤ b.length) ?_ ?_ ?_ base l
 ·intro base _ _ r hr; rw [zdX] at hr; cases hr
 ·intro base l c hl h _ _ _ r hr; rw [zfy hl h] at hr; cases hr
 ·intro base l n w a t hl h _ g1 g2 g3 ih hld hbase r hr
  have hlen : l.length = b.length - base := by rw [hld]; simp
  rw [zcb hl h] at hr
  rcases List.mem_cons.1 hr with rfl | hr
  ·exact ⟨n, w, base, a, t, rfl, by rw [← hld]; exact h, g1, g2, by omega⟩
  ·exact ih (by rw [hld, List.drop_drop]) (by omega) r hr
end Go.Proofs.Ytdpolccecmaajaa
namespace Go.Proofs.Ytdpolccecmaajaa
open Go
set_option linter.unusedVariables false
def zbk (k : Int) : Bool := decide (1 ≤ k ∧ k ≤ 17)
def kNum (k : Int) : Bool := decide (1 ≤ k ∧ k ≤ 14)
def zdn (k : Int) : Int := if 15 ≤ k then 2 else if 12 ≤ k then 1 else if 9 ≤ k then 5 else 0
theorem zkg (k : Int) : zaX k = some (zbk k) := by unfold zaX zbk; simp [Bool.decide_and]
theorem zlV (k : Int) : zaN k = some (kNum k) := by unfold zaN kNum; simp [Bool.decide_and]
theorem zkU (k : Int) : zbf k = some (zdn k) := by
 unfold zbf zdn
 by_cases h1 : 15 ≤ k
 ·rw [itT (by simpa using h1), if_pos h1]
 ·rw [itF (by simpa using h1), if_neg h1]
  by_cases h2 : 12 ≤ k
  ·rw [itT (by simpa using h2), if_pos h2]
  ·rw [itF (by simpa using h2), if_neg h2]
   by_cases h3 : 9 ≤ k
   ·rw [itT (by simpa using h3), if_pos h3]
   ·rw [itF (by simpa using h3), if_neg h3]
end Go.Proofs.Ytdpolccecmaajaa
namespace Go.Proofs.Ytdpolccecmaajaa
open Go
set_option linter.unusedVariables false
abbrev Fld := zd
abbrev Mes := zi
def zfM {α : Type} (p : α → Bool) (l : List α) : Int := match l.findIdx? p with
 | some i => (i : Int)
 | none => -1
theorem zkD {α : Type} {p : α → Bool} {l : List α} (h : l.findIdx? p = none) : zfM p l = -1 := by unfold zfM; rw [h]
theorem zkE {α : Type} {p : α → Bool} {l : List α} {i : Nat} (h : l.findIdx? p = some i) : zfM p l = (i : Int) := by unfold zfM; rw [h]
theorem zje {α : Type} (p : α → Bool) (l : List α) (F : Int → Option (Unit ⊕ Int)) (h0 : F (l.length : Int) = some (.inl ())) (hs : ∀ (i : Nat) (h : i < l.length), F (i : Int) = if p l[i] then some (.inr (i : Int)) else F ((i + 1 : Nat) : Int)) :
  ∀ (d i : Nat), i + d = l.length → (∀ j (h : j < l.length), j < i → p l[j] = false) → F (i : Int) = some (match l.findIdx? p with | some k => .inr (k : Int) | none => .inl ()) := by
 intro d
 induction d with
 | zero =>
  intro i hi hj
  have : i = l.length := by omega
  subst this
  have hn : l.findIdx? p = none := by
   rw [List.findIdx?_eq_none_iff]
   intro x hx
   obtain ⟨j, hj', rfl⟩ := List.getElem_of_mem hx
   exact hj j hj' hj'
  rw [h0, hn]
 | succ d ih =>
  intro i hi hj
  have hil : i < l.length := by omega
  rw [hs i hil]
  by_cases hp : p l[i] = true
  ·have hf : l.findIdx? p = some i := by
    rw [List.findIdx?_eq_some_iff_getElem]
    exact ⟨hil, hp, fun j hji => by simpa using hj j (by omega) hji⟩
   rw [if_pos hp, hf]
  ·rw [if_neg hp]
   refine ih (i + 1) (by omega) fun j h hji => ?_
   by_cases e : j = i
   ·subst e; simpa using hp
   ·exact hj j h (by omega)
def fldI (m : Mes) (number : Int) : Int := zfM (fun f : Fld => f.Number == number) m.Fields
theorem zhj {m : Mes} (hm : m.Fields.length ≤ 1152921504606846976) (number : Int) : zaq m number = some (fldI m number) := by
 unfold zaq fldI
 have h := zje (fun f : Fld => f.Number == number) m.Fields (fun i => zan m number i) (by
   refine zbX ?_
   unfold zM
   rw [itF (by simp)])
  (fun i hi => by
   have hb : zM m number i = if ((m.Fields[i]).Number == number) = true then some (.inr (.inr (i : Int))) else some (.inl ((i + 1 : Nat) : Int)) := by
    unfold zM
    rw [itT (by simp; omega), zca rfl hi, sb, zx (by omega)]; rfl
   by_cases hp : ((m.Fields[i]).Number == number) = true
   ·rw [if_pos hp] at hb ⊢; exact zbX hb
   ·rw [if_neg hp] at hb ⊢; exact zdT hb)
  m.Fields.length 0 (by omega) (fun j _ hj => by omega)
 have h' : zan m number 0 = _ := h
 rw [h', sb]
 unfold zfM
 cases m.Fields.findIdx? (fun f : Fld => f.Number == number) <;> rfl
def nmc (i : Nat) (c : UInt8) : Bool := decide (65 ≤ c.toNat ∧ c.toNat ≤ 90 ∨ 97 ≤ c.toNat ∧ c.toNat ≤ 122 ∨ c.toNat = 95 ∨ 0 < i ∧ 48 ≤ c.toNat ∧ c.toNat ≤ 57)
def nmA : Nat → List UInt8 → Bool
 | _, [] => true
 | i, c :: l => nmc i c && nmA (i + 1) l
def znY (s : List UInt8) : Bool := nmA 0 s && decide (1 ≤ s.length ∧ s.length ≤ 60)
structure zpY (n : Int) (f : Fld) : Prop where
 name : znY f.Name = true
 lo : 1 ≤ f.Number
 hi : f.Number ≤ 536870911
 kind : zbk f.Kind = true
 packed : f.Packed = true → f.Repeated = true ∧ kNum f.Kind = true
 sub : f.Kind = 17 → 0 ≤ f.Of ∧ f.Of < n
 noSub : f.Kind ≠ 17 → f.Of = 0
structure zqo (s : List Mes) : Prop where
 len : 1 ≤ s.length ∧ s.length ≤ 100
 name : ∀ m ∈ s, znY m.Name = true
 names : ∀ (i j : Nat) (a b : Mes), i < j → s[i]? = some a → s[j]? = some b → a.Name ≠ b.Name
 few : ∀ m ∈ s, m.Fields.length ≤ 200
 fld : ∀ m ∈ s, ∀ f ∈ m.Fields, zpY s.length f
 nums : ∀ m ∈ s, ∀ (i j : Nat) (f g : Fld), i < j → m.Fields[i]? = some f → m.Fields[j]? = some g → f.Number ≠ g.Number ∧ f.Name ≠ g.Name
def zlq (κ : Int → Int) (a b : Int) : Prop := κ a < κ b ∨ κ a = κ b ∧ a < b
end Go.Proofs.Ytdpolccecmaajaa
namespace Go.Proofs.Ytdpolccecmaajaa
open Go
set_option linter.unusedVariables false
abbrev Vw := zn
def zvw : Vw := ⟨zrec, 0, false⟩
def zjg (m : Mes) (i : Int) : Fld := m.Fields.getD i.toNat ⟨[], 0, 0, false, false, 0⟩
def vw (m : Mes) (n w : Int) : Int ⊕ (Int × Bool) :=
 if fldI m n < 0 then .inr (-1, false)
 else if (zjg m (fldI m n)).Repeated = true ∧ kNum (zjg m (fldI m n)).Kind = true ∧ w = 2 then .inr (fldI m n, true)
 else if zbk (zjg m (fldI m n)).Kind = false ∨ zdn (zjg m (fldI m n)).Kind ≠ w then .inl 6 else .inr (fldI m n, false)
theorem zdD (m : Mes) (n : Int) : fldI m n = -1 ∧ (∀ f ∈ m.Fields, f.Number ≠ n) ∨ ∃ (i : Nat) (h : i < m.Fields.length), fldI m n = i ∧ m.Fields[i].Number = n ∧ ∀ (j : Nat) (h : j < m.Fields.length), j < i → m.Fields[j].Number ≠ n := by
 unfold fldI
 cases h : m.Fields.findIdx? (fun f : Fld => f.Number == n) with
 | none =>
  left
  rw [List.findIdx?_eq_none_iff] at h
  exact ⟨zkD (List.findIdx?_eq_none_iff.2 h), fun f hf => by simpa using h f hf⟩
 | some i =>
  right
  have h' := h
  rw [List.findIdx?_eq_some_iff_getElem] at h
  obtain ⟨hi, hp, hj⟩ := h
  exact ⟨i, hi, zkE h', by simpa using hp, fun j hjl hji => by simpa using hj j hji⟩
theorem zhT {m : Mes} {i : Nat} (h : i < m.Fields.length) : zjg m (i : Int) = m.Fields[i] := by
 unfold zjg; rw [Int.toNat_natCast, List.getD_eq_getElem?_getD, List.getElem?_eq_getElem h]; rfl
theorem zcd (m : Mes) (n w : Int) : vw m n w = .inl 6 ∨ vw m n w = .inr (-1, false) ∧ fldI m n = -1 ∨ ∃ (i : Nat) (run : Bool), vw m n w = .inr ((i : Int), run) ∧ fldI m n = i ∧ i < m.Fields.length := by
 unfold vw
 rcases zdD m n with ⟨h, _⟩ | ⟨i, hi, h, _⟩
 ·right; left; rw [h, if_pos (by omega)]; exact ⟨rfl, rfl⟩
 ·rw [h, if_neg (by omega)]
  split
  ·right; right; exact ⟨i, true, rfl, rfl, hi⟩
  ·split
   ·left; rfl
   ·right; right; exact ⟨i, false, rfl, rfl, hi⟩
def zaD (m : Mes) (b : List UInt8) (at5 : Int) : Vw × Int :=
 if (zbt b at5).2 ≠ 0 then (zvw, (zbt b at5).2) else match vw m (zbt b at5).1.Number (zbt b at5).1.Wire with
  | .inl c => (zvw, c)
  | .inr (i, run) => (⟨(zbt b at5).1, i, run⟩, 0)
theorem zdJ {m : Mes} (hm : m.Fields.length ≤ 1152921504606846976) {b : List UInt8} (hb : b.length ≤ 1048576) (at5 : Int) : zaL m b at5 = some (zaD m b at5) := by
 unfold zaL zaD
 rw [zlW hb, sb]
 by_cases h : (zbt b at5).2 = 0
 ·rw [itF (by simpa using h), if_neg (by simpa using h), zhj hm, sb]
  generalize (zbt b at5).1 = r
  unfold vw
  rcases zdD m r.Number with ⟨hf, _⟩ | ⟨i, hi, hf, _⟩
  ·rw [hf, itT (by rfl), if_pos (by decide)]
  ·rw [hf, itF (by simp), if_neg (by omega), zca rfl hi, sb, zhT hi, zlV, sb, zkg, sb, zkU, sb]
   have e : (if (m.Fields[i]).Repeated = true then (if kNum (m.Fields[i]).Kind = true then some (r.Wire == 2) else some false) else some false) = some (decide ((m.Fields[i]).Repeated = true ∧ kNum (m.Fields[i]).Kind = true ∧ r.Wire = 2)) := by
    cases (m.Fields[i]).Repeated
    ·rfl
    ·cases kNum (m.Fields[i]).Kind
     ·rfl
     ·by_cases hw : r.Wire = 2 <;> simp [hw]
   rw [e, sb]
   by_cases h1 : (m.Fields[i]).Repeated = true ∧ kNum (m.Fields[i]).Kind = true ∧ r.Wire = 2
   ·rw [itT (decide_eq_true h1), if_pos h1]
   ·rw [itF (decide_eq_false h1), if_neg h1]
    have e2 : (if (!zbk (m.Fields[i]).Kind) = true then some true else some (zdn (m.Fields[i]).Kind != r.Wire)) = some (decide (zbk (m.Fields[i]).Kind = false ∨ zdn (m.Fields[i]).Kind ≠ r.Wire)) := by
     cases zbk (m.Fields[i]).Kind
     ·rfl
     ·by_cases hw : zdn (m.Fields[i]).Kind = r.Wire <;> simp [hw]
    rw [e2, sb]
    by_cases h2 : zbk (m.Fields[i]).Kind = false ∨ zdn (m.Fields[i]).Kind ≠ r.Wire
    ·rw [itT (decide_eq_true h2), if_pos h2]; rfl
    ·rw [itF (decide_eq_false h2), if_neg h2]
 ·rw [itT (by simpa using h), if_pos h]; rfl
def vws (m : Mes) (e : Option (Nat × Int)) : List Rec → List Vw × Option (Int × Int)
 | [] => ([], e.map fun p => ((p.1 : Int), p.2))
 | r :: l => match vw m r.Number r.Wire with
  | .inl c => ([], some (r.From, c))
  | .inr (i, run) => (⟨r, i, run⟩ :: (vws m e l).1, (vws m e l).2)
def vwR (r : List Vw × Option (Int × Int)) : List Vw × Int × Int := match r.2 with
 | none => (r.1, 0, 0)
 | some (p, c) => ([], p, c)
def zE (m : Mes) (b : List UInt8) : List Vw × Int × Int := vwR (vws m (spl 0 b).2 (spl 0 b).1)
theorem zkT {m : Mes} (hm : m.Fields.length ≤ 1152921504606846976) {b : List UInt8} (hb : b.length ≤ 1048576) (base : Nat) (l : List UInt8) : ∀ (out : List Vw), base ≤ b.length → l = b.drop base → out.length ≤ base →
  zak b m out base = some (match (vws m (spl base l).2 (spl base l).1).2 with | none => .inl (out ++ (vws m (spl base l).2 (spl base l).1).1) | some (p, c) => .inr (p, c)) := by
 refine zfz (fun base l => ∀ (out : List Vw), base ≤ b.length → l = b.drop base → out.length ≤ base →
  zak b m out base = some (match (vws m (spl base l).2 (spl base l).1).2 with | none => .inl (out ++ (vws m (spl base l).2 (spl base l).1).1) | some (p, c) => .inr (p, c))) ?_ ?_ ?_ base l
 ·intro base out hbase hl ho
  have : b.length ≤ base := by have := congrArg List.length hl; simp at this; omega
  rw [zdX]
  simp only [vws, Option.map_none, List.append_nil]
  refine zbs ?_
  unfold zK
  rw [itF (by simp; omega)]
 ·intro base l c hl h hc out hbase hld ho
  subst hld
  have hlt : base < b.length := by have := List.length_pos_iff.2 hl; simp at this; omega
  rw [zfy hl h]
  simp only [vws, Option.map_some]
  refine zbs ?_
  unfold zK
  have e : zbt b base = (zrec, c) := by unfold zbt; rw [if_neg (by omega), Int.toNat_natCast, h]
  have e2 : zaD m b base = (zvw, c) := by unfold zaD; rw [e, if_pos (by simp only; omega)]
  rw [itT (by simp; omega), zdJ hm hb, sb, e2, itT (by simp; omega)]
 ·intro base l n w a t hl h _ g1 g2 g3 ih out hbase hld ho
  subst hld
  simp only [List.length_drop] at g3
  have hlt : base < b.length := by omega
  rw [zcb hl h]
  have e : zbt b base = (⟨n, w, base, (base + a : Nat), (base + t : Nat)⟩, 0) := by
   unfold zbt; rw [if_neg (by omega), Int.toNat_natCast, h]; push_cast; rfl
  rw [vws]
  rcases zcd m n w with hv | ⟨hv, _⟩ | ⟨i, run, hv, _, hi⟩
  ·have e2 : zaD m b base = (zvw, 6) := by unfold zaD; rw [e]; simp only [ne_eq, not_true_eq_false, if_false, hv]
   simp only [hv]
   refine zbs ?_
   unfold zK
   rw [itT (by simp; omega), zdJ hm hb, sb, e2, itT (by rfl)]
  ·have e2 : zaD m b base = (⟨⟨n, w, base, (base + a : Nat), (base + t : Nat)⟩, -1, false⟩, 0) := by unfold zaD; rw [e]; simp only [ne_eq, not_true_eq_false, if_false, hv]
   simp only [hv]
   refine (zcn (out' := out ++ [⟨⟨n, w, base, (base + a : Nat), (base + t : Nat)⟩, -1, false⟩]) (atv' := ((base + t : Nat) : Int)) ?_).trans ?_
   ·unfold zK
    rw [itT (by simp; omega), zdJ hm hb, sb, e2, itF (by rfl), zdA (by simp; omega), sb]
   ·rw [ih _ (by omega) (by rw [List.drop_drop]) (by simp; omega)]
    simp only [List.append_assoc, List.singleton_append]
  ·have e2 : zaD m b base = (⟨⟨n, w, base, (base + a : Nat), (base + t : Nat)⟩, i, run⟩, 0) := by unfold zaD; rw [e]; simp only [ne_eq, not_true_eq_false, if_false, hv]
   simp only [hv]
   refine (zcn (out' := out ++ [⟨⟨n, w, base, (base + a : Nat), (base + t : Nat)⟩, i, run⟩]) (atv' := ((base + t : Nat) : Int)) ?_).trans ?_
   ·unfold zK
    rw [itT (by simp; omega), zdJ hm hb, sb, e2, itF (by rfl), zdA (by simp; omega), sb]
   ·rw [ih _ (by omega) (by rw [List.drop_drop]) (by simp; omega)]
    simp only [List.append_assoc, List.singleton_append]
theorem zhi {m : Mes} (hm : m.Fields.length ≤ 1152921504606846976) {b : List UInt8} (hb : b.length ≤ 1048576) : zaU m b = some (zE m b) := by
 unfold zaU
 have h := zkT hm hb 0 b [] (Nat.zero_le _) rfl (Nat.le_refl _)
 have h' : zak b m [] 0 = _ := h
 rw [h', sb]
 unfold zE vwR
 cases (vws m (spl 0 b).2 (spl 0 b).1).2 with
 | none => rfl
 | some p => rfl
end Go.Proofs.Ytdpolccecmaajaa
namespace Go.Proofs.Ytdpolccecmaajaa
open Go
set_option linter.unusedVariables false
abbrev PVw := zb
def prV (v : Vw) : PVw := ⟨v.R, v.Field, v.Run⟩
def zY (b : List UInt8) (r : Rec) : List UInt8 := (b.drop r.From.toNat).take (r.To.toNat - r.From.toNat)
def of10 (m : Mes) (b : List UInt8) (n : Int) : List Vw := (zE m b).1.filter fun v => v.R.Number == n
def zdo (m : Mes) (b : List UInt8) : List (List UInt8) := ((zE m b).1.filter fun v => decide (v.Field < 0)).map fun v => zY b v.R
def zdC (m : Mes) (b : List UInt8) : List UInt8 := ((zE m b).1.filter fun v => !decide (v.Field < 0)).flatMap fun v => zY b v.R
theorem ziI (m : Mes) {e : Option (Nat × Int)} (he : ∀ p c, e = some (p, c) → 3 ≤ c ∧ c ≤ 5) : ∀ (l : List Rec) (p c : Int), (vws m e l).2 = some (p, c) → 3 ≤ c ∧ c ≤ 6
 | [], p, c, h => by
  cases e with
  | none => cases h
  | some q =>
   simp only [vws, Option.map_some, Option.some.injEq, Prod.mk.injEq] at h
   have := he q.1 q.2 rfl
   omega
 | r :: l, p, c, h => by
  rw [vws] at h
  rcases zcd m r.Number r.Wire with hv | ⟨hv, _⟩ | ⟨i, run, hv, _⟩
  ·simp only [hv, Option.some.injEq, Prod.mk.injEq] at h; omega
  ·simp only [hv] at h; exact ziI m he l p c h
  ·simp only [hv] at h; exact ziI m he l p c h
theorem zpU (b : List UInt8) : ∀ p c, (spl 0 b).2 = some (p, c) → 3 ≤ c ∧ c ≤ 5 := fun p c h => by
 have := (zoo 0 b p c h).1; omega
theorem zaS (m : Mes) (b : List UInt8) : (zE m b).2.2 = 0 ∧ (vws m (spl 0 b).2 (spl 0 b).1).2 = none ∧ (zE m b).1 = (vws m (spl 0 b).2 (spl 0 b).1).1 ∧ (zE m b).2.1 = 0 ∨ (3 ≤ (zE m b).2.2 ∧ (zE m b).2.2 ≤ 6) ∧ (zE m b).1 = [] := by
 unfold zE vwR
 cases h : (vws m (spl 0 b).2 (spl 0 b).1).2 with
 | none => exact .inl ⟨rfl, rfl, rfl, rfl⟩
 | some q => exact .inr ⟨ziI m (zpU b) _ q.1 q.2 h, rfl⟩
theorem zdP {m : Mes} {e : Option (Nat × Int)} : ∀ {l : List Rec}, (vws m e l).2 = none → e = none ∧ (vws m e l).1.map (·.R) = l
 | [], h => by
  cases e with
  | none => exact ⟨rfl, rfl⟩
  | some q => simp [vws] at h
 | r :: l, h => by
  rw [vws] at h ⊢
  rcases zcd m r.Number r.Wire with hv | ⟨hv, _⟩ | ⟨i, run, hv, _⟩
  ·simp only [hv] at h; cases h
  ·simp only [hv] at h ⊢
   have := zdP h
   exact ⟨this.1, by simp [this.2]⟩
  ·simp only [hv] at h ⊢
   have := zdP h
   exact ⟨this.1, by simp [this.2]⟩
theorem zlk {m : Mes} {e : Option (Nat × Int)} : ∀ {l : List Rec}, ∀ v ∈ (vws m e l).1, v.R ∈ l ∧ vw m v.R.Number v.R.Wire = .inr (v.Field, v.Run)
 | [], v, h => by cases h
 | r :: l, v, h => by
  rw [vws] at h
  rcases zcd m r.Number r.Wire with hv | ⟨hv, _⟩ | ⟨i, run, hv, _⟩
  ·simp only [hv] at h; cases h
  all_goals
   simp only [hv] at h
   rcases List.mem_cons.1 h with rfl | h
   ·exact ⟨List.mem_cons_self, hv⟩
   ·have := zlk v h
    exact ⟨List.mem_cons_of_mem _ this.1, this.2⟩
theorem zfA {m : Mes} {b : List UInt8} {v : Vw} (h : v ∈ (zE m b).1) : v.R ∈ (spl 0 b).1 ∧ vw m v.R.Number v.R.Wire = .inr (v.Field, v.Run) := by
 rcases zaS m b with ⟨_, _, e, _⟩ | ⟨_, e⟩
 ·rw [e] at h; exact zlk v h
 ·rw [e] at h; cases h
theorem zoF {m : Mes} {n w i : Int} {run : Bool} (h : vw m n w = .inr (i, run)) : i < 0 ↔ fldI m n < 0 := by
 rcases zcd m n w with hv | ⟨hv, h2⟩ | ⟨j, r, hv, h2, h3⟩
 ·rw [hv] at h; cases h
 ·rw [hv] at h; cases h; omega
 ·rw [hv] at h; cases h; omega
theorem zfW (b : List UInt8) (base : Nat) (l : List UInt8) : l = b.drop base → base ≤ b.length → (spl base l).2 = none → (spl base l).1.flatMap (zY b) = l := by
 refine zfz (fun base l => l = b.drop base → base ≤ b.length → (spl base l).2 = none → (spl base l).1.flatMap (zY b) = l) ?_ ?_ ?_ base l
 ·intro base _ _ _; rw [zdX]; rfl
 ·intro base l c hl h _ _ _ hn; rw [zfy hl h] at hn; cases hn
 ·intro base l n w a t hl h _ g1 g2 g3 ih hld hbase hn
  have hlen : l.length = b.length - base := by rw [hld]; simp
  rw [zcb hl h] at hn ⊢
  have ih' := ih (by rw [hld, List.drop_drop]) (by omega) hn
  have hr : zY b ⟨n, w, (base : Int), ((base + a : Nat) : Int), ((base + t : Nat) : Int)⟩ = l.take t := by
   unfold zY
   simp only [Int.toNat_natCast]
   rw [← hld, show base + t - base = t by omega]
  rw [List.flatMap_cons, hr, ih', List.take_append_drop]
theorem zmW {b : List UInt8} {r : Rec} (h : r ∈ (spl 0 b).1) : ∃ a, rec5 (zY b r) = .inr (r.Number, r.Wire, a, (zY b r).length) := by
 obtain ⟨n, w, f, a, t, hre, hrec, h1, h2, h3⟩ := zkj b 0 b rfl (Nat.zero_le _) r h
 have hl : ((b.drop f).take t).length = t := by simp; omega
 have hraw : zY b r = (b.drop f).take t := by
  unfold zY; rw [hre]; simp only [Int.toNat_natCast]
  rw [show f + t - f = t by omega]
 refine ⟨a, ?_⟩
 rw [hraw, hl, hre]
 exact zmZ hrec
theorem zjz : ∀ (L : List (List UInt8)) (base : Nat), (∀ p ∈ L, ∃ n w a, rec5 p = .inr (n, w, a, p.length)) → (spl base L.flatten).2 = none ∧ ∀ r ∈ (spl base L.flatten).1, ∃ p ∈ L, ∃ a, rec5 p = .inr (r.Number, r.Wire, a, p.length)
 | [], base, _ => by
  rw [List.flatten_nil, zdX]
  exact ⟨rfl, fun r hr => by cases hr⟩
 | p :: L, base, h => by
  obtain ⟨n, w, a, hp⟩ := h p List.mem_cons_self
  have hne : p ≠ [] := by
   rintro rfl
   rcases zcK [] with ⟨c, hc, _⟩ | ⟨_, _, kk, _, _, _, _, _, _, g1, g2, _⟩
   ·rw [hc] at hp; cases hp
   ·simp at g2; omega
  have ih := zjz L (base + p.length) fun q hq => h q (List.mem_cons_of_mem _ hq)
  rw [List.flatten_cons, zcb (by simp [hne]) (zkS p L.flatten hp), List.drop_left]
  refine ⟨ih.1, fun r hr => ?_⟩
  rcases List.mem_cons.1 hr with rfl | hr
  ·exact ⟨p, List.mem_cons_self, a, hp⟩
  ·obtain ⟨q, hq, x⟩ := ih.2 r hr
   exact ⟨q, List.mem_cons_of_mem _ hq, x⟩
theorem zox (m : Mes) (b : List UInt8) : zdo m (zdC m b) = [] := by
 have hw : ∀ p ∈ ((zE m b).1.filter fun v => !decide (v.Field < 0)).map (fun v => zY b v.R), ∃ n w a, rec5 p = .inr (n, w, a, p.length) ∧ 0 ≤ fldI m n := by
  intro p hp
  obtain ⟨v, hv, rfl⟩ := List.mem_map.1 hp
  obtain ⟨hv1, hv2⟩ := List.mem_filter.1 hv
  obtain ⟨k1, k2⟩ := zfA hv1
  obtain ⟨a, ha⟩ := zmW k1
  have h0 : ¬ v.Field < 0 := by simpa using hv2
  have := zoF k2
  exact ⟨_, _, a, ha, by omega⟩
 have hs := zjz _ 0 fun p hp => (hw p hp).imp fun n h => h.imp fun w h => h.imp fun a h => h.1
 unfold zdo
 have hf : (zE m (zdC m b)).1.filter (fun v => decide (v.Field < 0)) = [] := by
  refine List.filter_eq_nil_iff.2 fun v hv => ?_
  obtain ⟨k1, k2⟩ := zfA hv
  have e : zdC m b = (((zE m b).1.filter fun v => !decide (v.Field < 0)).map (fun v => zY b v.R)).flatten := by unfold zdC; rw [List.flatMap_def]
  rw [e] at k1
  obtain ⟨p, hp, a, ha⟩ := hs.2 _ k1
  obtain ⟨n, w, a', ha', h0⟩ := hw p hp
  rw [ha] at ha'
  cases ha'
  have := zoF k2
  simp; omega
 rw [hf]; rfl
theorem zjl {α : Type} (p : α → Bool) (f : α → List UInt8) : ∀ l : List α, ((l.filter fun v => !p v).flatMap f).length + (((l.filter p).map f).map List.length).sum = (l.flatMap f).length
 | [] => rfl
 | x :: l => by
  have ih := zjl p f l
  cases hp : p x
  ·simp only [List.filter_cons, hp, Bool.not_false, if_true, List.flatMap_cons, List.length_append, Bool.false_eq_true, if_false]
   omega
  ·simp only [List.filter_cons, hp, Bool.not_true, if_true, List.flatMap_cons, List.length_append, Bool.false_eq_true, if_false, List.map_cons, List.sum_cons]
   omega
theorem zpo {m : Mes} {b : List UInt8} (h : (zE m b).2.2 = 0) : (zdC m b).length + ((zdo m b).map List.length).sum = b.length := by
 rcases zaS m b with ⟨_, hn, e, _⟩ | ⟨hc, _⟩
 ·obtain ⟨e1, e2⟩ := zdP hn
  unfold zdC zdo
  rw [zjl (fun v : Vw => decide (v.Field < 0)) (fun v => zY b v.R), e]
  have := zfW b 0 b rfl (Nat.zero_le _) e1
  rw [← List.flatMap_map (f := fun v : Vw => v.R) (g := zY b), e2, this]
 ·omega
theorem zks (m : Mes) (n w : Int) : vw m n w = match m.Fields.find? (fun f : Fld => f.Number == n) with
  | none => .inr (-1, false)
  | some f => if f.Repeated = true ∧ kNum f.Kind = true ∧ w = 2 then .inr (fldI m n, true) else if zbk f.Kind = false ∨ zdn f.Kind ≠ w then .inl 6 else .inr (fldI m n, false) := by
 unfold vw
 rcases zdD m n with ⟨h, hn⟩ | ⟨i, hi, h, hp, hj⟩
 ·have : m.Fields.find? (fun f : Fld => f.Number == n) = none := List.find?_eq_none.2 fun f hf => by simpa using hn f hf
  rw [this, h, if_pos (by omega)]
 ·have : m.Fields.find? (fun f : Fld => f.Number == n) = some m.Fields[i] := by
   rw [List.find?_eq_some_iff_getElem]
   exact ⟨by simpa using hp, i, hi, rfl, fun j hji => by have := hj j (by omega) hji; simpa using this⟩
  rw [this, h, if_neg (by omega), zhT hi]
theorem zdv (m : Mes) (n : Int) : fldI m n < 0 ↔ m.Fields.find? (fun f : Fld => f.Number == n) = none := by
 rcases zdD m n with ⟨h, hn⟩ | ⟨i, hi, h, hp, hj⟩
 ·have : m.Fields.find? (fun f : Fld => f.Number == n) = none := List.find?_eq_none.2 fun f hf => by simpa using hn f hf
  simp [this, h]
 ·have : m.Fields.find? (fun f : Fld => f.Number == n) = some m.Fields[i] := by
   rw [List.find?_eq_some_iff_getElem]
   exact ⟨by simpa using hp, i, hi, rfl, fun j hji => by have := hj j (by omega) hji; simpa using this⟩
  rw [this]
  simp; omega
def zba (m : Mes) (i : Nat) : Mes := ⟨m.Name, m.Fields.take i ++ m.Fields.drop (i + 1)⟩
theorem zmI {m : Mes} {i : Nat} (hi : i < m.Fields.length) {n : Int} (hn : n ≠ m.Fields[i].Number) : (zba m i).Fields.find? (fun f : Fld => f.Number == n) = m.Fields.find? (fun f : Fld => f.Number == n) := by
 have e : m.Fields = m.Fields.take i ++ m.Fields[i] :: m.Fields.drop (i + 1) := by
  rw [List.getElem_cons_drop, List.take_append_drop]
 show (m.Fields.take i ++ m.Fields.drop (i + 1)).find? _ = _
 rw [List.find?_append]
 have e2 : m.Fields.find? (fun f : Fld => f.Number == n) = (m.Fields.take i ++ m.Fields[i] :: m.Fields.drop (i + 1)).find? (fun f : Fld => f.Number == n) := congrArg _ e
 rw [e2, List.find?_append, List.find?_cons]
 have : (m.Fields[i].Number == n) = false := by simpa using fun h => hn h.symm
 rw [this]
theorem zfo {m : Mes} {i : Nat} (hi : i < m.Fields.length) (hl : fldI (zba m i) m.Fields[i].Number < 0) {e : Option (Nat × Int)} : ∀ {l : List Rec}, (vws m e l).2 = none → (vws (zba m i) e l).2 = none ∧
  (vws (zba m i) e l).1.map (fun v => (v.R, decide (v.Field < 0))) = (vws m e l).1.map (fun v => (v.R, decide (v.Field < 0) || v.R.Number == m.Fields[i].Number))
 | [], h => ⟨h, rfl⟩
 | r :: l, h => by
  have hm : fldI m m.Fields[i].Number ≥ 0 := by
   rcases Int.lt_or_le (fldI m m.Fields[i].Number) 0 with h0 | h0
   ·rw [zdv, List.find?_eq_none] at h0
    exact absurd (by simp) (h0 _ (List.getElem_mem hi))
   ·exact h0
  by_cases hn : r.Number = m.Fields[i].Number
  ·have hvl : vw (zba m i) r.Number r.Wire = .inr (-1, false) := by rw [zks, hn, (zdv _ _).1 hl]
   rw [vws] at h
   rw [vws, vws]
   simp only [hvl]
   rcases zcd m r.Number r.Wire with hv | ⟨hv, h2⟩ | ⟨j, run, hv, h2, _⟩
   ·simp only [hv] at h; cases h
   ·rw [hn] at h2; omega
   ·simp only [hv] at h ⊢
    have ih := zfo hi hl h
    refine ⟨ih.1, ?_⟩
    rw [List.map_cons, List.map_cons, ih.2]
    simp [hn]
  ·have hf := zmI hi hn
   have hs : fldI (zba m i) r.Number < 0 ↔ fldI m r.Number < 0 := by rw [zdv, zdv, hf]
   have hb : (r.Number == m.Fields[i].Number) = false := by simpa using hn
   rw [vws] at h
   rw [vws, vws]
   have hvl := zks (zba m i) r.Number r.Wire
   have hv := zks m r.Number r.Wire
   rw [hf] at hvl
   cases hq : m.Fields.find? (fun f : Fld => f.Number == r.Number) with
   | none =>
    rw [hq] at hvl hv
    simp only [hvl, hv] at h ⊢
    have ih := zfo hi hl h
    refine ⟨ih.1, ?_⟩
    rw [List.map_cons, List.map_cons, ih.2]
    simp [hb]
   | some f =>
    have h0 : ¬ fldI m r.Number < 0 := by rw [zdv, hq]; simp
    have h1 : ¬ fldI (zba m i) r.Number < 0 := by rw [hs]; exact h0
    rw [hq] at hvl hv
    simp only at hvl hv
    by_cases k1 : f.Repeated = true ∧ kNum f.Kind = true ∧ r.Wire = 2
    ·rw [if_pos k1] at hvl hv
     simp only [hvl, hv] at h ⊢
     have ih := zfo hi hl h
     refine ⟨ih.1, ?_⟩
     rw [List.map_cons, List.map_cons, ih.2]
     simp [hb, h0, h1]
    ·rw [if_neg k1] at hvl hv
     by_cases k2 : zbk f.Kind = false ∨ zdn f.Kind ≠ r.Wire
     ·rw [if_pos k2] at hvl hv
      simp only [hv] at h; cases h
     ·rw [if_neg k2] at hvl hv
      simp only [hvl, hv] at h ⊢
      have ih := zfo hi hl h
      refine ⟨ih.1, ?_⟩
      rw [List.map_cons, List.map_cons, ih.2]
      simp [hb, h0, h1]
theorem zey {α β : Type} (f : α → β) (p : β → Bool) (l : List α) : (l.filter fun x => p (f x)).length = ((l.map f).filter p).length := by
 induction l with
 | nil => rfl
 | cons x l ih => cases h : p (f x) <;> simp [h, ih]
theorem znR {m : Mes} {i : Nat} (hi : i < m.Fields.length) (hl : fldI (zba m i) m.Fields[i].Number < 0) {b : List UInt8} (h : (zE m b).2.2 = 0) :
  (zE (zba m i) b).2.2 = 0 ∧ (zE (zba m i) b).1.length = (zE m b).1.length ∧ (of10 (zba m i) b m.Fields[i].Number).length = (of10 m b m.Fields[i].Number).length ∧
  (zdo (zba m i) b).length = (zdo m b).length + (of10 m b m.Fields[i].Number).length := by
 rcases zaS m b with ⟨_, hn, e, _⟩ | ⟨hc, _⟩
 ·obtain ⟨k1, k2⟩ := zfo hi hl hn
  have e2 : (zE (zba m i) b).2.2 = 0 ∧ (zE (zba m i) b).1 = (vws (zba m i) (spl 0 b).2 (spl 0 b).1).1 := by
   unfold zE vwR; rw [k1]; exact ⟨rfl, rfl⟩
  rw [← e2.2, ← e] at k2
  have hm : fldI m m.Fields[i].Number ≥ 0 := by
   rcases Int.lt_or_le (fldI m m.Fields[i].Number) 0 with h0 | h0
   ·rw [zdv, List.find?_eq_none] at h0
    exact absurd (by simp) (h0 _ (List.getElem_mem hi))
   ·exact h0
  refine ⟨e2.1, ?_, ?_, ?_⟩
  ·have := congrArg List.length k2
   simpa using this
  ·unfold of10
   rw [zey (fun v : Vw => (v.R, decide (v.Field < 0))) (fun q : Rec × Bool => q.1.Number == m.Fields[i].Number), k2, ← zey]
  ·unfold zdo of10
   rw [List.length_map, List.length_map, zey (fun v : Vw => (v.R, decide (v.Field < 0))) (fun q : Rec × Bool => q.2), k2, ← zey]
   have hdis : ∀ v ∈ (zE m b).1, ¬ (v.Field < 0 ∧ v.R.Number = m.Fields[i].Number) := fun v hv hh => by
    have := zoF (zfA hv).2
    rw [hh.2] at this
    omega
   clear k2 e e2 k1 hn
   generalize (zE m b).1 = L at hdis ⊢
   induction L with
   | nil => rfl
   | cons v l ih =>
    have ih := ih fun x hx => hdis x (List.mem_cons_of_mem _ hx)
    have hv := hdis v List.mem_cons_self
    simp only [List.filter_cons] at ih ⊢
    by_cases h1 : v.Field < 0
    ·have h2 : (v.R.Number == m.Fields[i].Number) = false := by simpa using fun hh => hv ⟨h1, hh⟩
     simp only [h1, h2, decide_true, Bool.true_or, if_true, List.length_cons, Bool.false_eq_true, if_false]
     omega
    ·by_cases h2 : v.R.Number = m.Fields[i].Number
     ·simp only [h1, h2, decide_false, Bool.false_or, beq_self_eq_true, if_true, List.length_cons, Bool.false_eq_true, if_false]
      omega
     ·have h2' : (v.R.Number == m.Fields[i].Number) = false := by simpa using h2
      simp only [h1, h2', decide_false, Bool.or_false, Bool.false_eq_true, if_false]
      exact ih
 ·omega
end Go.Proofs.Ytdpolccecmaajaa
namespace Go.Proofs.Ytdpolccecmaajaa
open Go
set_option linter.unusedVariables false
def zpR : List Str := [[], [105, 110, 116, 51, 50], [105, 110, 116, 54, 52], [117, 105, 110, 116, 51, 50], [117, 105, 110, 116, 54, 52], [115, 105, 110, 116, 51, 50], [115, 105, 110, 116, 54, 52], [98, 111, 111, 108], [101, 110, 117, 109], [102, 105, 120, 101, 100, 51, 50], [115, 102, 105, 120, 101, 100, 51, 50], [102, 108, 111, 97, 116], [102, 105, 120, 101, 100, 54, 52], [115, 102, 105, 120, 101, 100, 54, 52], [100, 111, 117, 98, 108, 101], [115, 116, 114, 105, 110, 103], [98, 121, 116, 101, 115], [109, 101, 115, 115, 97, 103, 101]]
def znE (k : Int) : Str := (zpR[k.toNat]?).getD []
def kT : List (Int × zf) := [(1, ⟨[105, 110, 116, 51, 50], 0⟩), (2, ⟨[105, 110, 116, 54, 52], 0⟩), (3, ⟨[117, 105, 110, 116, 51, 50], 0⟩), (4, ⟨[117, 105, 110, 116, 54, 52], 0⟩), (5, ⟨[115, 105, 110, 116, 51, 50], 0⟩), (6, ⟨[115, 105, 110, 116, 54, 52], 0⟩), (7, ⟨[98, 111, 111, 108], 0⟩), (8, ⟨[101, 110, 117, 109], 0⟩), (9, ⟨[102, 105, 120, 101, 100, 51, 50], 5⟩), (10, ⟨[115, 102, 105, 120, 101, 100, 51, 50], 5⟩), (11, ⟨[102, 108, 111, 97, 116], 5⟩), (12, ⟨[102, 105, 120, 101, 100, 54, 52], 1⟩), (13, ⟨[115, 102, 105, 120, 101, 100, 54, 52], 1⟩), (14, ⟨[100, 111, 117, 98, 108, 101], 1⟩), (15, ⟨[115, 116, 114, 105, 110, 103], 2⟩), (16, ⟨[98, 121, 116, 101, 115], 2⟩), (17, ⟨[109, 101, 115, 115, 97, 103, 101], 2⟩)]
theorem znG : zeA = some kT := rfl
theorem zhl {k : Int} (h : zbk k = true) : k = 1 ∨ k = 2 ∨ k = 3 ∨ k = 4 ∨ k = 5 ∨ k = 6 ∨ k = 7 ∨ k = 8 ∨ k = 9 ∨ k = 10 ∨ k = 11 ∨ k = 12 ∨ k = 13 ∨ k = 14 ∨ k = 15 ∨ k = 16 ∨ k = 17 := by
 have := of_decide_eq_true h
 omega
theorem zpH {k : Int} (h : zbk k = true) : mget kT k = some ⟨znE k, zdn k⟩ := by
 rcases zhl h with rfl | rfl | rfl | rfl | rfl | rfl | rfl | rfl | rfl | rfl | rfl | rfl | rfl | rfl | rfl | rfl | rfl <;> rfl
theorem zoU {e : Int × zf} (h : e ∈ kT) : zbk e.1 = true ∧ e.2 = ⟨znE e.1, zdn e.1⟩ := by
 have : kT.all (fun e => zbk e.1 && decide (e.2 = ⟨znE e.1, zdn e.1⟩)) = true := by decide
 have h1 := List.all_eq_true.1 this e h
 simp only [Bool.and_eq_true, decide_eq_true_eq] at h1
 exact h1
theorem zoV {k : Int} (h : zbk k = false) : mget kT k = none := by
 cases hg : mget kT k with
 | none => rfl
 | some x =>
  have mem : ∀ {m : List (Int × zf)} {x : zf}, mget m k = some x → (k, x) ∈ m := fun {m x} hg => by
   induction m with
   | nil => cases hg
   | cons p m ih =>
    rw [mget] at hg
    split at hg
    ·rename_i e; cases hg; rw [e]; exact List.mem_cons_self
    ·exact List.mem_cons_of_mem _ (ih hg)
  have h1 := (zoU (mem hg)).1
  simp only at h1
  rw [h] at h1
  cases h1
theorem zkL (k : Int) : zdw k = some (if zbk k then (zdn k, 0) else (0, 2)) := by
 unfold zdw
 rw [znG, sb]
 cases h : zbk k with
 | true => rw [zpH h]; rfl
 | false => rw [zoV h]; rfl
theorem zlM (k : Int) : zdd k = some (kNum k) := by
 unfold zdd
 rw [zkL, sb]
 cases h : zbk k with
 | true =>
  rcases zhl h with rfl | rfl | rfl | rfl | rfl | rfl | rfl | rfl | rfl | rfl | rfl | rfl | rfl | rfl | rfl | rfl | rfl <;> rfl
 | false =>
  have h1 := of_decide_eq_false h
  have : kNum k = false := decide_eq_false (by omega)
  rw [this]
  rfl
end Go.Proofs.Ytdpolccecmaajaa
namespace Go.Proofs.Ytdpolccecmaajaa
open Go
theorem zjC (t : zU) : zeq t = some (zbH t.Number t.Wire) := by
 have e : zcc t.Wire = some (decide (t.Wire = 0 ∨ t.Wire = 1 ∨ t.Wire = 2 ∨ t.Wire = 5)) := by
  unfold zcc
  by_cases h0 : t.Wire = 0
  ·simp [h0]
  by_cases h1 : t.Wire = 1
  ·simp [h1]
  by_cases h2 : t.Wire = 2
  ·simp [h2]
  by_cases h5 : t.Wire = 5
  ·simp [h5]
  simp [h0, h1, h2, h5]
 unfold zeq zbH
 rw [e]
 by_cases h1 : 1 ≤ t.Number
 ·by_cases h2 : t.Number ≤ 536870911
  ·rw [itT (by simpa using h1), itT (by simpa using h2), sb, sb]; simp [h1, h2]
  ·rw [itT (by simpa using h1), itF (by simpa using h2), sb]; simp [h2]
 ·rw [itF (by simpa using h1), sb]; simp [h1]
theorem zqa (w : Nat) (h : w < 18446744073709551616) : andI .u64 (w : Int) 7 = ((w % 8 : Nat) : Int) := by
 have e := zkv (k := .u64) rfl (a := w) (b := 7) (by simpa [IntKind.bits] using h) (by simp [IntKind.bits])
 have e2 : w &&& 7 = w % 8 := Nat.and_two_pow_sub_one_eq_mod w 3
 rw [e2] at e; exact e
theorem zqk (w : Nat) : shrI .u64 (w : Int) 3 = ((w / 8 : Nat) : Int) := zon (k := .u64) (a := w) (b := 3) (by simp [IntKind.bits])
theorem zow (b : List UInt8) : zfl b = some ((⟨(tg b).1, (tg b).2.1⟩ : zU), (tg b).2.2.1, (tg b).2.2.2) := by
 obtain ⟨h1, h2, h3, h4, h5, h6, h7⟩ := zdx b
 unfold zfl tg
 rw [zke, sb]
 by_cases h : (rd b).2.2 = 0
 ·rw [itF (by simpa using h)]
  obtain ⟨w, hw⟩ : ∃ w : Nat, (rd b).1 = w := ⟨(rd b).1.toNat, by omega⟩
  rw [hw] at h2 ⊢
  rw [zqk, zqa w (by omega)]
  have e0 : IntKind.i64.wrap ((w % 8 : Nat) : Int) = (w : Int) % 8 := by rw [zx (by omega)]; omega
  by_cases hg : 4294967295 < w
  ·have e1 : IntKind.i64.wrap (if (536870912 : Int) < ((w / 8 : Nat) : Int) then 536870912 else ((w / 8 : Nat) : Int)) = 536870912 := by
    split
    ·rfl
    ·rw [zx (by omega)]; omega
   rw [e0, e1, zjC, sb]
   have e2 : zbH 536870912 ((w : Int) % 8) = false := by simp [zbH]
   simp only [e2]
   rw [itT (by rfl), zfm h (.inl (by rw [hw]; omega))]
  ·have e1 : IntKind.i64.wrap (if (536870912 : Int) < ((w / 8 : Nat) : Int) then 536870912 else ((w / 8 : Nat) : Int)) = (w : Int) / 8 := by
    rw [if_neg (by omega), zx (by omega)]; omega
   rw [e0, e1, zjC, sb]
   simp only
   cases ht : zbH ((w : Int) / 8) ((w : Int) % 8)
   ·rw [itT (by rfl), zfm h (.inr (by rw [hw]; exact ht))]
   ·rw [itF (by rfl), zma h (by rw [hw, ht]; simp; omega), hw]
 ·rw [itT (by simpa using h), zkn h]
end Go.Proofs.Ytdpolccecmaajaa
namespace Go.Proofs.Ytdpolccecmaajaa
open Go
theorem zjb {α : Type} {l t : List α} {x : α} {k : Nat} (h : l.drop k = x :: t) : ∃ hk : k < l.length, l[k] = x ∧ l.drop (k + 1) = t := by
 have hk : k < l.length := by
  rcases Nat.lt_or_ge k l.length with h' | h'
  ·exact h'
  ·rw [List.drop_eq_nil_of_le h'] at h; cases h
 rw [List.drop_eq_getElem_cons hk] at h
 injection h with h1 h2
 exact ⟨hk, h1, h2⟩
theorem zjO (l : List (List UInt8)) (hl : l.length ≤ 1099511627776) : ∀ (t : List (List UInt8)) (k s : Nat), l.drop k = t → s + t.flatten.length ≤ 1099511627776 →
  zS l s k = some ((s + t.flatten.length : Nat) : Int) := by
 intro t
 induction t with
 | nil =>
  intro k s hd _
  have hk : l.length ≤ k := by have := congrArg List.length hd; simp at this; omega
  refine zcs ?_
  unfold zB
  rw [itF (by simp; omega)]
  simp
 | cons x t ih =>
  intro k s hd hs
  obtain ⟨hk, hx, hd'⟩ := zjb hd
  simp only [List.flatten_cons, List.length_append] at hs
  refine (zcr (size' := ((s + x.length : Nat) : Int)) (v' := ((k + 1 : Nat) : Int)) ?_).trans ?_
  ·unfold zB
   rw [itT (by simp; omega), zca rfl hk, sb, hx, zx (by omega), itF (by simp; omega), zx (by omega)]
   push_cast; rfl
  ·rw [ih _ _ hd' (by omega)]
   simp only [List.flatten_cons, List.length_append]
   congr 2; omega
theorem zjP (l : List (List UInt8)) (hl : l.length ≤ 1099511627776) : ∀ (t : List (List UInt8)) (k : Nat) (acc : List UInt8), l.drop k = t → acc.length + t.flatten.length ≤ 1099511627776 →
  zT l acc k = some (acc ++ t.flatten) := by
 intro t
 induction t with
 | nil =>
  intro k acc hd _
  have hk : l.length ≤ k := by have := congrArg List.length hd; simp at this; omega
  refine zcu ?_
  unfold zC
  rw [itF (by simp; omega)]
  simp
 | cons x t ih =>
  intro k acc hd hs
  obtain ⟨hk, hx, hd'⟩ := zjb hd
  simp only [List.flatten_cons, List.length_append] at hs
  refine (zct (newslice' := acc ++ x) (v2' := ((k + 1 : Nat) : Int)) ?_).trans ?_
  ·unfold zC
   rw [itT (by simp; omega), zca rfl hk, sb, hx, zdA (by omega), sb, zx (by omega)]
   push_cast; rfl
  ·rw [ih _ _ hd' (by rw [List.length_append]; omega)]
   simp
theorem zoP {n : Nat} (h : n ≤ 1099511627776) : zao (n : Int) = some [] := by
 unfold zao
 have e : IntKind.i64.wrap ((n : Int) - IntKind.i64.wrap (0 - 0)) = n := by rw [zx (x := 0 - 0) (by omega), zx (by omega)]; omega
 rw [itF (by simp), e]
 by_cases h0 : (n : Int) > 0
 ·rw [itT (by simpa using h0), zpQ (a := n) rfl (Int.le_refl _) (by omega), sb]
  have e0 : cut (List.replicate n (0 : UInt8)) 0 0 = some [] := zkz (b := 0) rfl (Nat.zero_le _)
  rw [e0, sb]
 ·rw [itF (by simpa using h0)]
theorem zmG {l : List (List UInt8)} (hl : l.length ≤ 1099511627776) (h : l.flatten.length ≤ 1099511627776) : zaf l = some l.flatten := by
 unfold zaf
 have h1 := zjO l hl l 0 0 rfl (by omega)
 have h1' : zS l 0 0 = _ := h1
 have h2 := zjP l hl l 0 [] rfl (by simpa using h)
 have h2' : zT l [] 0 = _ := h2
 rw [h1', sb, zoP (by omega), sb, h2', sb]
 simp
end Go.Proofs.Ytdpolccecmaajaa
namespace Go.Proofs.Ytdpolccecmaajaa
open Go
theorem zpn {w : Int} {b : List UInt8} (hw : w = 0 ∨ w = 1 ∨ w = 2 ∨ w = 5) (hb : b.length ≤ 1048576) :
  zdf w b = some (match zaM w 0 b with | .inl c => (0, (if w = 0 then (rd b).2.1 else 0), c) | .inr (a, t) => ((a : Int), (t : Int), 0)) := by
 obtain ⟨h1, h2, h3, h4, h5, h6, h7⟩ := zdx b
 unfold zdf zaM
 rcases hw with rfl | rfl | rfl | rfl
 ·rw [itT (by rfl), zpl, sb, if_pos rfl]
  by_cases h : (rd b).2.2 = 0
  ·rw [if_neg (by simpa using h)]
   simp only [h, Nat.zero_add]
   congr 3
   simp; omega
  ·rw [if_pos h]; rfl
 ·rw [itF (by rfl), itT (by rfl), sb, itF (by rfl), if_neg (show ¬ ((1 : Int) = 0) by omega), if_neg (show ¬ ((1 : Int) = 2) by omega)]
  simp only
  have e : IntKind.u64.wrap (IntKind.i64.wrap ((b.length : Int) - 0)) = (b.length : Int) := by rw [zx (by omega), zeu]; omega
  rw [e]
  by_cases g : b.length < 8
  ·rw [itT (by simp; omega), if_pos (by simpa using g)]; rfl
  ·rw [itF (by simp; omega), if_neg (by simpa using g)]; rfl
 ·rw [itF (by rfl), itF (by rfl), itF (by rfl), itT (by rfl), zke, sb, sb, if_neg (show ¬ ((2 : Int) = 0) by omega), if_pos (show (2 : Int) = 2 from rfl)]
  by_cases h : (rd b).2.2 = 0
  ·have hk := h7 h
   rw [itF (by simpa using h), if_neg (show ¬ ((rd b).2.2 ≠ 0) from fun g => g h)]
   simp only
   have e : IntKind.u64.wrap (IntKind.i64.wrap ((b.length : Int) - (rd b).2.1)) = (b.length : Int) - (rd b).2.1 := by rw [zx (by omega), zeu]; omega
   rw [e]
   by_cases g : (b.length : Int) - (rd b).2.1 < (rd b).1
   ·rw [itT (by simpa using g), if_pos g]; rfl
   ·rw [itF (by simpa using g), if_neg g, zx (x := (rd b).1) (by omega), zx (by omega)]
    simp; omega
  ·rw [itT (by simpa using h), if_pos h]; rfl
 ·rw [itF (by rfl), itF (by rfl), itT (by rfl), sb, itF (by rfl), if_neg (show ¬ ((5 : Int) = 0) by omega), if_neg (show ¬ ((5 : Int) = 2) by omega)]
  simp only
  have e : IntKind.u64.wrap (IntKind.i64.wrap ((b.length : Int) - 0)) = (b.length : Int) := by rw [zx (by omega), zeu]; omega
  rw [e]
  by_cases g : b.length < 4
  ·rw [itT (by simp; omega), if_pos (by simpa using g)]; rfl
  ·rw [itF (by simp; omega), if_neg (by simpa using g)]; rfl
theorem zkx (w : Int) (k : Nat) (m : List UInt8) : zaM w k m = match zaM w 0 m with | .inl c => .inl c | .inr (a, t) => .inr (k + a, k + t) := by
 unfold zaM
 repeat' split
 all_goals first
  | rfl
  | (rename_i h1 h2; injection h2 with h3; injection h3 with h4 h5; subst h4 h5; simp <;> omega)
  | simp_all <;> omega
theorem zpf {b : List UInt8} (hb : b.length ≤ 1048576) (at5 : Int) : zde b at5 = some (zbt b at5) := by
 unfold zde zbt
 by_cases h : at5 < 0 ∨ at5 ≥ b.length
 ·rw [itT (by simpa using h), if_pos h]; rfl
 ·rw [itF (by simpa using h), if_neg h]
  obtain ⟨p, rfl⟩ : ∃ p : Nat, at5 = p := ⟨at5.toNat, by omega⟩
  rw [zky rfl rfl (by omega), sb, zow, sb, Int.toNat_natCast]
  have hdl : (b.drop p).length = b.length - p := by simp
  rcases ziD (b.drop p) with ⟨c, ht, hc⟩ | ⟨n, w, k, ht, hr, k1, k2, k3, hrd⟩
  ·have e : rec5 (b.drop p) = .inl c := by unfold rec5; rw [ht, if_pos (by simp only; omega)]
   rw [e, ht, itT (by simp; omega)]; rfl
  ·obtain ⟨k, rfl⟩ : ∃ j : Nat, k = j := ⟨k.toNat, by omega⟩
   have e : rec5 (b.drop p) = match zaM w k ((b.drop p).drop k) with
    | .inl c => .inl c
    | .inr p => .inr (n, w, p.1, p.2) := by unfold rec5; rw [ht]; simp <;> rfl
   have hdd : (b.drop p).drop k = b.drop (p + k) := by rw [List.drop_drop]
   have hml : (b.drop (p + k)).length = b.length - (p + k) := by simp
   have ew : IntKind.i64.wrap ((p : Int) + k) = ((p + k : Nat) : Int) := by rw [zx (by omega)]; push_cast; rfl
   rw [e, ht, itF (by simp), hdd]
   simp only [ew]
   rw [zky rfl rfl (by omega), sb, zpn (ziC.1 hr).2.2 (by omega), sb, zkx w k]
   rcases zeW w 0 (b.drop (p + k)) with ⟨c, hc, hc2⟩ | ⟨a, t, hc, _, _, hle, _⟩
   ·rw [hc]
    simp only
    rw [itT (by simp; omega)]; rfl
   ·rw [hc]
    simp only
    rw [itF (by rfl), zx (by omega), zx (by omega)]
    simp only [Option.some.injEq, Prod.mk.injEq, ze.mk.injEq, true_and, and_true]
    push_cast
    omega
def spn (b : List UInt8) (i j : Int) : List UInt8 := if i < 0 ∨ i > j ∨ j > b.length then [] else (b.drop i.toNat).take (j.toNat - i.toNat)
theorem zod {b : List UInt8} (hb : b.length ≤ 1048576) (i j : Int) : zcz b i j = some (spn b i j) := by
 unfold zcz spn
 by_cases h : i < 0 ∨ i > j ∨ j > b.length
 ·rw [itT (by simpa using h), if_pos h]
 ·rw [itF (by simpa using h), if_neg h, zfK (a := i.toNat) (b := j.toNat) (by omega) (by omega) (by omega) (by omega), sb, zmG (by simp) (by simp; omega), sb]
  simp
end Go.Proofs.Ytdpolccecmaajaa
namespace Go.Proofs.Ytdpolccecmaajaa
open Go
set_option linter.unusedVariables false
abbrev Head := zo
abbrev Role := zq
def rol (m : Mes) (h : Head) : Role := match vw m h.number h.wire with
 | .inl c => ⟨0, false, c⟩
 | .inr (i, run) => ⟨i, run, 0⟩
theorem znf {m : Mes} (hm : m.Fields.length ≤ 1152921504606846976) (n : Int) : zdN m n = some (fldI m n) := by
 unfold zdN zG
 have h := zje (fun f : Fld => f.Number == n) m.Fields (fun i => zw m.Fields n i) (zX (by unfold zj; rw [itF (by simp)])) (fun i hi => by
  by_cases hp : (m.Fields[i].Number == n) = true
  ·rw [if_pos hp]; exact zX (by unfold zj zcA; rw [itT (by simp; omega), zca rfl hi, sb, sb, itT hp])
  ·rw [if_neg hp]; exact zaB (by unfold zj zcA; rw [itT (by simp; omega), zca rfl hi, sb, sb, itF (eq_false_of_ne_true hp), zx (by omega)]; rfl)) m.Fields.length 0 (by omega) (fun j _ h => by omega)
 have h' : zw m.Fields n 0 = _ := h
 rw [h', sb]
 unfold fldI zfM
 cases m.Fields.findIdx? (fun f : Fld => f.Number == n) with
 | none => rfl
 | some i => rfl
theorem zng (f : Fld) (w : Int) : zdO f w = some (decide (f.Repeated = true ∧ kNum f.Kind = true ∧ w = 2)) := by
 unfold zdO
 cases f.Repeated
 ·simp [sb]
 ·by_cases hw : w = 2
  ·subst hw
   rw [itT rfl, itT (c := (2 : Int) == 2) rfl, zlM, sb, sb]
   cases kNum f.Kind <;> rfl
  ·rw [itT rfl, itF (by simpa using hw), sb]
   simp [hw]
theorem zoC (k w : Int) : zet k w = some (decide (¬ (zbk k = false ∨ zdn k ≠ w))) := by
 unfold zet
 rw [zkL, sb]
 cases zbk k with
 | false => rfl
 | true =>
  by_cases h : zdn k = w <;> simp [h]
theorem zmd {m : Mes} (hm : m.Fields.length ≤ 1152921504606846976) (h : Head) : zcq m h = some (rol m h) := by
 unfold zcq rol
 rw [znf hm, sb]
 unfold vw
 rcases zdD m h.number with ⟨hf, _⟩ | ⟨i, hi, hf, _⟩
 ·rw [hf, itT (by rfl), if_pos (by decide)]
 ·rw [hf, itF (by simp), if_neg (by omega), zca rfl hi, sb, zhT hi, zng, sb]
  by_cases h1 : (m.Fields[i]).Repeated = true ∧ kNum (m.Fields[i]).Kind = true ∧ h.wire = 2
  ·rw [if_pos h1, decide_eq_true h1]
   rfl
  ·rw [if_neg h1, decide_eq_false h1, itT (by rfl), zoC, sb, sb]
   by_cases h2 : zbk (m.Fields[i]).Kind = false ∨ zdn (m.Fields[i]).Kind ≠ h.wire
   ·rw [if_pos h2, itT (by rw [decide_eq_false (fun g => g h2)]; rfl)]
   ·rw [if_neg h2, itF (by rw [decide_eq_true h2]; rfl)]
def zeM (m : Mes) (met : List (Head × Role)) : Prop := ∀ h x, mget met h = some x → x = rol m h
theorem zeM.nil (m : Mes) : zeM m [] := fun h x g => by cases g
theorem zeM.put {m : Mes} {met : List (Head × Role)} (g : zeM m met) (h : Head) : zeM m (mput met h (rol m h)) := fun j x hx => by
 rw [zmS] at hx
 by_cases e : j = h
 ·rw [if_pos e] at hx; rw [e]; exact (Option.some.inj hx).symm
 ·rw [if_neg e] at hx; exact g j x hx
theorem zia {m : Mes} (hm : m.Fields.length ≤ 1152921504606846976) {b : List UInt8} (hb : b.length ≤ 1048576) (p : Int) {met : List (Head × Role)} (g : zeM m met) :
  ∃ met', zdz m b p met = some (prV (zaD m b p).1, (zaD m b p).2, met') ∧ zeM m met' := by
 unfold zdz zaD
 rw [zpf hb, sb]
 by_cases h : (zbt b p).2 = 0
 ·rw [itF (by simpa using h), if_neg (show ¬ ((zbt b p).2 ≠ 0) from fun q => q h)]
  generalize (zbt b p).1 = r
  have key : ∃ met', (if (!(mget met (⟨r.Number, r.Wire⟩ : Head)).isSome) then (zcq m (⟨r.Number, r.Wire⟩ : Head) >>= fun rv2 => some ((mput met (⟨r.Number, r.Wire⟩ : Head) rv2), rv2.field, rv2.run, rv2.e))
    else some (met, ((mget met (⟨r.Number, r.Wire⟩ : Head)).getD (⟨0, false, 0⟩ : Role)).field, ((mget met (⟨r.Number, r.Wire⟩ : Head)).getD (⟨0, false, 0⟩ : Role)).run, ((mget met (⟨r.Number, r.Wire⟩ : Head)).getD (⟨0, false, 0⟩ : Role)).e)) = some (met', (rol m ⟨r.Number, r.Wire⟩).field, (rol m ⟨r.Number, r.Wire⟩).run, (rol m ⟨r.Number, r.Wire⟩).e) ∧ zeM m met' := by
   cases hg : mget met (⟨r.Number, r.Wire⟩ : Head) with
   | none =>
    rw [itT (by rfl), zmd hm, sb]
    exact ⟨_, rfl, g.put _⟩
   | some x =>
    rw [itF (by rfl)]
    refine ⟨met, ?_, g⟩
    rw [← g _ x hg]
    rfl
  obtain ⟨met', hk, hM⟩ := key
  refine ⟨met', ?_, hM⟩
  rw [hk, sb]
  unfold rol
  rcases zcd m r.Number r.Wire with hv | ⟨hv, _⟩ | ⟨i, run, hv, _⟩
  ·simp only [hv]; rfl
  ·simp only [hv]; rfl
  ·simp only [hv]; rfl
 ·rw [itT (by simpa using h), if_pos h]
  exact ⟨met, rfl, g⟩
theorem zoD {m : Mes} (hm : m.Fields.length ≤ 1152921504606846976) {b : List UInt8} (hb : b.length ≤ 1048576) (p : Int) : zes m b p = some (prV (zaD m b p).1, (zaD m b p).2) := by
 obtain ⟨met', h, _⟩ := zia hm hb p (zeM.nil m)
 unfold zes
 rw [h, sb]
theorem zne {m : Mes} (hm : m.Fields.length ≤ 1152921504606846976) {b : List UInt8} (hb : b.length ≤ 1048576) (base : Nat) (l : List UInt8) : ∀ (out : List Vw) (met : List (Head × Role)), base ≤ b.length → l = b.drop base → out.length ≤ base → zeM m met →
  zbR b m (out.map prV) met base = some (match (vws m (spl base l).2 (spl base l).1).2 with | none => .inl ((out ++ (vws m (spl base l).2 (spl base l).1).1).map prV) | some (p, c) => .inr (p, c)) := by
 refine zfz (fun base l => ∀ (out : List Vw) (met : List (Head × Role)), base ≤ b.length → l = b.drop base → out.length ≤ base → zeM m met →
  zbR b m (out.map prV) met base = some (match (vws m (spl base l).2 (spl base l).1).2 with | none => .inl ((out ++ (vws m (spl base l).2 (spl base l).1).1).map prV) | some (p, c) => .inr (p, c))) ?_ ?_ ?_ base l
 ·intro base out met hbase hl ho hM
  have : b.length ≤ base := by have := congrArg List.length hl; simp at this; omega
  rw [zdX]
  simp only [vws, Option.map_none, List.append_nil]
  refine zdk ?_
  unfold zaw
  rw [itF (by simp; omega)]
 ·intro base l c hl h hc out met hbase hld ho hM
  subst hld
  have hlt : base < b.length := by have := List.length_pos_iff.2 hl; simp at this; omega
  rw [zfy hl h]
  simp only [vws, Option.map_some]
  refine zdk ?_
  unfold zaw
  have e : zbt b base = (zrec, c) := by unfold zbt; rw [if_neg (by omega), Int.toNat_natCast, h]
  have e2 : zaD m b base = (zvw, c) := by unfold zaD; rw [e, if_pos (by simp only; omega)]
  obtain ⟨met', hk, _⟩ := zia hm hb base hM
  rw [itT (by simp; omega), hk, sb, e2, itT (by simp; omega)]
 ·intro base l n w a t hl h _ g1 g2 g3 ih out met hbase hld ho hM
  subst hld
  simp only [List.length_drop] at g3
  have hlt : base < b.length := by omega
  rw [zcb hl h]
  have e : zbt b base = (⟨n, w, base, (base + a : Nat), (base + t : Nat)⟩, 0) := by
   unfold zbt; rw [if_neg (by omega), Int.toNat_natCast, h]; push_cast; rfl
  rw [vws]
  obtain ⟨met', hk, hM'⟩ := zia hm hb base hM
  rcases zcd m n w with hv | ⟨hv, _⟩ | ⟨i, run, hv, _, hi⟩
  ·have e2 : zaD m b base = (zvw, 6) := by unfold zaD; rw [e]; simp only [ne_eq, not_true_eq_false, if_false, hv]
   simp only [hv]
   refine zdk ?_
   unfold zaw
   rw [itT (by simp; omega), hk, sb, e2, itT (by rfl)]
  ·have e2 : zaD m b base = (⟨⟨n, w, base, (base + a : Nat), (base + t : Nat)⟩, -1, false⟩, 0) := by unfold zaD; rw [e]; simp only [ne_eq, not_true_eq_false, if_false, hv]
   simp only [hv]
   refine (zeR (l' := (out ++ ([⟨⟨n, w, base, (base + a : Nat), (base + t : Nat)⟩, -1, false⟩] : List Vw)).map prV) (met' := met') (fromv' := ((base + t : Nat) : Int)) ?_).trans ?_
   ·unfold zaw
    rw [itT (by simp; omega), hk, sb, e2, itF (by rfl), zdA (by simp; omega), sb, List.map_append]
    rfl
   ·rw [ih _ met' (by omega) (by rw [List.drop_drop]) (by simp; omega) hM']
    simp only [List.append_assoc, List.singleton_append]
  ·have e2 : zaD m b base = (⟨⟨n, w, base, (base + a : Nat), (base + t : Nat)⟩, i, run⟩, 0) := by unfold zaD; rw [e]; simp only [ne_eq, not_true_eq_false, if_false, hv]
   simp only [hv]
   refine (zeR (l' := (out ++ ([⟨⟨n, w, base, (base + a : Nat), (base + t : Nat)⟩, i, run⟩] : List Vw)).map prV) (met' := met') (fromv' := ((base + t : Nat) : Int)) ?_).trans ?_
   ·unfold zaw
    rw [itT (by simp; omega), hk, sb, e2, itF (by rfl), zdA (by simp; omega), sb, List.map_append]
    rfl
   ·rw [ih _ met' (by omega) (by rw [List.drop_drop]) (by simp; omega) hM']
    simp only [List.append_assoc, List.singleton_append]
theorem zeL {m : Mes} (hm : m.Fields.length ≤ 1152921504606846976) {b : List UInt8} (hb : b.length ≤ 1048576) : zbC m b = some ((zE m b).1.map prV, (zE m b).2.1, (zE m b).2.2) := by
 unfold zbC
 have h := zne hm hb 0 b [] [] (Nat.zero_le _) rfl (Nat.le_refl _) (zeM.nil m)
 have h' : zbR b m [] [] 0 = _ := h
 rw [h', sb]
 unfold zE vwR
 cases (vws m (spl 0 b).2 (spl 0 b).1).2 with
 | none => rfl
 | some p => rfl
theorem znW {α : Type} {xs pre post : List α} {v : α} (e : xs = pre ++ v :: post) : idx xs (pre.length : Nat) = some v := by
 subst e
 rw [zca rfl (by simp)]
 simp
theorem zko (m : Mes) (b : List UInt8) : (zE m b).1.length ≤ b.length := by
 rcases zaS m b with ⟨_, hn, e, _⟩ | ⟨_, e⟩
 ·have h := congrArg List.length (zdP hn).2
  rw [List.length_map] at h
  rw [e, h]
  exact zmy 0 b
 ·rw [e]; simp
theorem zoz {m : Mes} {b : List UInt8} : ∀ v ∈ (zE m b).1, ∃ f t : Nat, v.R.From = (f : Int) ∧ v.R.To = ((f + t : Nat) : Int) ∧ f + t ≤ b.length := by
 intro v hv
 obtain ⟨n, w, f, a, t, hre, hrec, h1, h2, h3⟩ := zkj b 0 b rfl (Nat.zero_le _) _ (zfA hv).1
 exact ⟨f, t, by rw [hre], by rw [hre], h3⟩
theorem zoA {m : Mes} {b : List UInt8} : ∀ v ∈ (zE m b).1, (v.Field == -1) = decide (v.Field < 0) := by
 intro v hv
 have h := (zfA hv).2
 rcases zcd m v.R.Number v.R.Wire with hv' | ⟨hv', _⟩ | ⟨i, run, hv', _⟩
 ·rw [h] at hv'; cases hv'
 ·rw [h] at hv'
  simp only [Sum.inr.injEq, Prod.mk.injEq] at hv'
  rw [hv'.1]; rfl
 ·rw [h] at hv'
  simp only [Sum.inr.injEq, Prod.mk.injEq] at hv'
  rw [hv'.1, Bool.eq_iff_iff]; simp
theorem zpg (n : Int) (all : List Vw) (x : Int × Int) (hl : all.length ≤ 1048576) : ∀ (post pre : List Vw), all = pre ++ post →
  zcM n (all.map prV, x) ((pre.filter fun v => v.R.Number == n).map prV) (pre.length : Nat) = some ((all.filter fun v => v.R.Number == n).map prV) := by
 intro post
 induction post with
 | nil =>
  intro pre e
  rw [List.append_nil] at e
  subst e
  refine ziG ?_
  unfold zbl
  rw [itF (by simp)]
 | cons v post ih =>
  intro pre e
  have hi : idx (all.map prV) (pre.length : Nat) = some (prV v) := by
   have := znW (xs := all.map prV) (pre := pre.map prV) (post := post.map prV) (v := prV v) (by rw [e]; simp)
   rwa [List.length_map] at this
  have hlt : pre.length < all.length := by rw [e]; simp
  have k1 : (pre.filter fun v => v.R.Number == n).length ≤ pre.length := List.length_filter_le _ _
  refine (ziF (l' := ((pre ++ [v]).filter fun v => v.R.Number == n).map prV) (v' := ((pre ++ [v]).length : Nat)) ?_).trans (ih (pre ++ [v]) (by rw [e]; simp))
  unfold zbl
  rw [itT (by simp; omega), hi, sb]
  by_cases hn : v.R.Number = n
  ·rw [itT (by simpa [prV] using hn), zdA (by simp; omega), sb, zx (by omega)]
   simp [hn]
  ·rw [itF (by simpa [prV] using hn), zx (by omega)]
   simp [hn]
theorem zkr {m : Mes} (hm : m.Fields.length ≤ 1152921504606846976) {b : List UInt8} (hb : b.length ≤ 1048576) (n : Int) : zcQ m b n = some ((of10 m b n).map prV) := by
 have hl := zko m b
 have h := zpg n (zE m b).1 ((zE m b).2.1, (zE m b).2.2) (by omega) (zE m b).1 [] rfl
 have h' : zcM n ((zE m b).1.map prV, (zE m b).2.1, (zE m b).2.2) [] 0 = _ := h
 unfold zcQ
 rw [zeL hm hb, sb, h', sb]
 rfl
theorem zpr {m : Mes} (hm : m.Fields.length ≤ 1152921504606846976) {b : List UInt8} (hb : b.length ≤ 1048576) (n : Int) : zfn m b n = some ((zE m b).1.any fun v => v.R.Number == n) := by
 unfold zfn
 rw [zkr hm hb, sb, List.length_map]
 congr 1
 unfold of10
 rw [Bool.eq_iff_iff, List.any_eq_true, decide_eq_true_iff]
 constructor
 ·intro h
  obtain ⟨v, hv⟩ := List.exists_mem_of_length_pos (show 0 < ((zE m b).1.filter fun v : Vw => v.R.Number == n).length by omega)
  obtain ⟨v1, v2⟩ := List.mem_filter.1 hv
  exact ⟨v, v1, v2⟩
 ·rintro ⟨v, hv, h⟩
  have := List.length_pos_of_mem (List.mem_filter (p := fun v : Vw => v.R.Number == n) |>.2 ⟨hv, h⟩)
  omega
theorem zoy {b : List UInt8} (hb : b.length ≤ 1048576) (all : List Vw) (x : Int × Int) (hl : all.length ≤ 1048576) (hat : ∀ v ∈ all, ∃ f t : Nat, v.R.From = (f : Int) ∧ v.R.To = ((f + t : Nat) : Int) ∧ f + t ≤ b.length) (hf : ∀ v ∈ all, (v.Field == -1) = decide (v.Field < 0)) : ∀ (post pre : List Vw), all = pre ++ post →
  zbd b (all.map prV, x) ((pre.filter fun v => decide (v.Field < 0)).map fun v => zY b v.R) (pre.length : Nat) = some ((all.filter fun v => decide (v.Field < 0)).map fun v => zY b v.R) := by
 intro post
 induction post with
 | nil =>
  intro pre e
  rw [List.append_nil] at e
  subst e
  refine zfD ?_
  unfold zah
  rw [itF (by simp)]
 | cons v post ih =>
  intro pre e
  have hi : idx (all.map prV) (pre.length : Nat) = some (prV v) := by
   have := znW (xs := all.map prV) (pre := pre.map prV) (post := post.map prV) (v := prV v) (by rw [e]; simp)
   rwa [List.length_map] at this
  have hlt : pre.length < all.length := by rw [e]; simp
  have hmem : v ∈ all := by rw [e]; simp
  have k1 : (pre.filter fun v => decide (v.Field < 0)).length ≤ pre.length := List.length_filter_le _ _
  have hff := hf v hmem
  refine (zfC (l' := ((pre ++ [v]).filter fun v => decide (v.Field < 0)).map fun v => zY b v.R) (v' := ((pre ++ [v]).length : Nat)) ?_).trans (ih (pre ++ [v]) (by rw [e]; simp))
  unfold zah
  rw [itT (by simp; omega), hi, sb]
  by_cases hn : v.Field < 0
  ·obtain ⟨f, t, h1, h2, h3⟩ := hat v hmem
   have hw : zcy b (prV v).Record = some (zY b v.R) := by
    have e2 : (prV v).Record = v.R := rfl
    unfold zcy
    rw [e2, zod hb]
    unfold spn zY
    rw [if_neg (by omega), sb]
   rw [itT (by show (v.Field == -1) = true; rw [hff]; simpa using hn), hw, sb, zdA (by simp; omega), sb, zx (by omega)]
   simp [hn]
  ·rw [itF (by show (v.Field == -1) = false; rw [hff]; simpa using hn), zx (by omega)]
   simp [hn]
theorem zhz {m : Mes} (hm : m.Fields.length ≤ 1152921504606846976) {b : List UInt8} (hb : b.length ≤ 1048576) : zaR m b = some (zdo m b) := by
 have hl := zko m b
 have h := zoy hb (zE m b).1 ((zE m b).2.1, (zE m b).2.2) (by omega) zoz zoA (zE m b).1 [] rfl
 have h' : zbd b ((zE m b).1.map prV, (zE m b).2.1, (zE m b).2.2) [] 0 = _ := h
 unfold zaR
 rw [zeL hm hb, sb, h', sb]
 rfl
theorem zmD (m : Mes) (b : List UInt8) : ((zE m b).1.flatMap fun v => zY b v.R).length ≤ b.length := by
 rcases zaS m b with ⟨_, hn, e, _⟩ | ⟨_, e⟩
 ·obtain ⟨e1, e2⟩ := zdP hn
  have := zfW b 0 b rfl (Nat.zero_le _) e1
  rw [e, ← List.flatMap_map (f := fun v : Vw => v.R) (g := zY b), e2, this]
  exact Nat.le_refl _
 ·rw [e]; simp
theorem znr (b : List UInt8) (p : Vw → Bool) : ∀ l : List Vw, ((l.filter p).flatMap fun v => zY b v.R).length ≤ (l.flatMap fun v => zY b v.R).length
 | [] => Nat.le_refl _
 | x :: l => by
  have ih := znr b p l
  cases h : p x <;> simp only [List.filter_cons, h, if_true, Bool.false_eq_true, if_false, List.flatMap_cons, List.length_append] <;> omega
theorem zmH {b : List UInt8} (all : List Vw) (x : Int × Int) (hl : all.length ≤ 1048576) (hsum : (all.flatMap fun v => zY b v.R).length ≤ 1048576) (hat : ∀ v ∈ all, ∃ f t : Nat, v.R.From = (f : Int) ∧ v.R.To = ((f + t : Nat) : Int) ∧ f + t ≤ b.length) (hf : ∀ v ∈ all, (v.Field == -1) = decide (v.Field < 0)) : ∀ (post pre : List Vw), all = pre ++ post →
  zbW b (all.map prV, x) ((pre.filter fun v => !decide (v.Field < 0)).flatMap fun v => zY b v.R) (pre.length : Nat) = some ((all.filter fun v => !decide (v.Field < 0)).flatMap fun v => zY b v.R) := by
 intro post
 induction post with
 | nil =>
  intro pre e
  rw [List.append_nil] at e
  subst e
  refine zhb ?_
  unfold zaG
  rw [itF (by simp)]
 | cons v post ih =>
  intro pre e
  have hi : idx (all.map prV) (pre.length : Nat) = some (prV v) := by
   have := znW (xs := all.map prV) (pre := pre.map prV) (post := post.map prV) (v := prV v) (by rw [e]; simp)
   rwa [List.length_map] at this
  have hlt : pre.length < all.length := by rw [e]; simp
  have hmem : v ∈ all := by rw [e]; simp
  have hff := hf v hmem
  have hfl := znr b (fun v => !decide (v.Field < 0)) pre
  have hpre : (pre.flatMap fun v => zY b v.R).length + (zY b v.R).length ≤ 1048576 := by
   have h := hsum
   rw [e, List.flatMap_append, List.flatMap_cons] at h
   simp only [List.length_append] at h
   omega
  refine (zha (c' := ((pre ++ [v]).filter fun v => !decide (v.Field < 0)).flatMap fun v => zY b v.R) (v' := ((pre ++ [v]).length : Nat)) ?_).trans (ih (pre ++ [v]) (by rw [e]; simp))
  unfold zaG
  rw [itT (by simp; omega), hi, sb]
  have hne : ((prV v).Field != -1) = !decide (v.Field < 0) := by rw [← hff]; rfl
  by_cases hn : v.Field < 0
  ·rw [itF (by rw [hne]; simpa using hn), zx (by omega)]
   simp [hn]
  ·obtain ⟨f, t, h1, h2, h3⟩ := hat v hmem
   have hc : cut b (prV v).Record.From (prV v).Record.To = some (zY b v.R) := by
    show cut b v.R.From v.R.To = _
    rw [zfK h1 h2 (by omega) h3]
    unfold zY
    rw [h1, h2, Int.toNat_natCast, Int.toNat_natCast]
   rw [itT (by rw [hne]; simpa using hn), hc, sb, zdA (by omega), sb, zx (by omega)]
   simp [hn]
theorem zli {m : Mes} (hm : m.Fields.length ≤ 1152921504606846976) {b : List UInt8} (hb : b.length ≤ 1048576) : zdy m b = some (zdC m b, (zE m b).2.2) := by
 have hl := zko m b
 have hs := zmD m b
 have h := zmH (b := b) (zE m b).1 ((zE m b).2.1, (zE m b).2.2) (by omega) (by omega) zoz zoA (zE m b).1 [] rfl
 have h' : zbW b ((zE m b).1.map prV, (zE m b).2.1, (zE m b).2.2) [] 0 = _ := h
 unfold zdy
 rw [zeL hm hb, sb]
 by_cases h0 : (zE m b).2.2 = 0
 ·rw [itF (by simpa using h0), h', sb, h0]
  rfl
 ·rw [itT (by simpa using h0)]
  unfold zdC
  rcases zaS m b with ⟨g, _⟩ | ⟨_, g⟩
  ·exact absurd g h0
  ·rw [g]; rfl
end Go.Proofs.Ytdpolccecmaajaa
